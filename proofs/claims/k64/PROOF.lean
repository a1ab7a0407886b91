import PyProof.Rows.All
import Wide.All
import OpenK.AllK
import Wide.FinOn
import Lean
import PyProof.EqAt
import PyProof.EqKinds
import PyProof.TupleCall
import PySem.Challenge.RW_pacehall_k64_rings_of_cells
-- CHANGE: your row's module here, as the last of these rows
set_option Elab.async false
set_option linter.all false
set_option maxRecDepth 100000
namespace L2
open PySem PySem.Spec PyProof.Rows
abbrev Key := Sum Int Str
def keyIs : Key → Value → Bool
  | .inl k, v => Value.isInt k v
  | .inr x, v => Value.isStrOf x v
def keyH (w : World) : Key → Int
  | .inl k => hashInt k
  | .inr x => hashStr w x
theorem keyIs_shape : ∀ {k : Key} {v : Value}, keyIs k v = true → (∃ i t, k = Sum.inl i ∧ v = Value.int i t) ∨ (∃ x t, k = Sum.inr x ∧ v = Value.str x t)
  | .inl i, v, h => by
    obtain ⟨t, e⟩ := Value.isInt_shape (k := i) (v := v) h
    exact .inl ⟨i, t, rfl, e⟩
  | .inr x, v, h => by
    obtain ⟨t, e⟩ := Value.isStrOf_shape (x := x) (v := v) h
    exact .inr ⟨x, t, rfl, e⟩
theorem keyIs_int (i : Int) (t : Tok) : keyIs (.inl i) (.int i t) = true := by simp [keyIs, Value.isInt]
theorem keyIs_str (x : Str) (t : Tok) : keyIs (.inr x) (.str x t) = true := by simp [keyIs, Value.isStrOf]
theorem key_ll (a b : Int) : decide ((Sum.inl a : Key) = Sum.inl b) = (a == b) := by
  by_cases e : a = b
  · subst e; simp
  · have h : ¬ (Sum.inl a : Key) = Sum.inl b := fun q => e (Sum.inl.inj q)
    rw [decide_eq_false h]
    exact (beq_eq_false_iff_ne.mpr e).symm
theorem key_rr (a b : Str) : decide ((Sum.inr a : Key) = Sum.inr b) = decide (a = b) := by
  by_cases e : a = b
  · subst e; simp
  · have h : ¬ (Sum.inr a : Key) = Sum.inr b := fun q => e (Sum.inr.inj q)
    rw [decide_eq_false h, decide_eq_false e]
theorem key_lr (a : Int) (b : Str) : decide ((Sum.inl a : Key) = Sum.inr b) = false := decide_eq_false (fun q => nomatch q)
theorem key_rl (a : Str) (b : Int) : decide ((Sum.inr a : Key) = Sum.inl b) = false := decide_eq_false (fun q => nomatch q)
def mixKind (prog : Program) (w : World) : PySem.KeyKind prog w Key where
  is := keyIs
  hash := keyH w
  inj := fun v a b ha hb => by
    rcases keyIs_shape ha with ⟨i, t, rfl, rfl⟩ | ⟨x, t, rfl, rfl⟩
    · rcases keyIs_shape hb with ⟨j, u, rfl, e⟩ | ⟨y, u, rfl, e⟩
      · injection e with e1 _; rw [e1]
      · exact nomatch e
    · rcases keyIs_shape hb with ⟨j, u, rfl, e⟩ | ⟨y, u, rfl, e⟩
      · exact nomatch e
      · injection e with e1 _; rw [e1]
  byValue := fun k v h => by
    rcases keyIs_shape h with ⟨i, t, rfl, rfl⟩ | ⟨x, t, rfl, rfl⟩ <;> rfl
  pyHash := fun hv h => by
    rcases keyIs_shape hv with ⟨i, t, rfl, rfl⟩ | ⟨x, t, rfl, rfl⟩
    · exact wpAny_pyHash_int h
    · exact wpAny_pyHash_str h
  eqBool := fun hu hv h => by
    rcases keyIs_shape hu with ⟨i, t, rfl, rfl⟩ | ⟨x, t, rfl, rfl⟩
    · rcases keyIs_shape hv with ⟨j, u, rfl, rfl⟩ | ⟨y, u, rfl, rfl⟩
      · rw [key_ll] at h; exact wpAny_eqBool_int h
      · rw [key_lr] at h; exact SeqAt.EqAt.int_str i t y u _ _ _ _ h
    · rcases keyIs_shape hv with ⟨j, u, rfl, rfl⟩ | ⟨y, u, rfl, rfl⟩
      · rw [key_rl] at h; exact SeqAt.EqAt.str_int x t j u _ _ _ _ h
      · rw [key_rr] at h; exact wpAny_eqBool_str h
  «strs» := fun k x t v h => by
    rcases keyIs_shape h with ⟨i, u, rfl, e⟩ | ⟨y, u, rfl, e⟩
    · exact nomatch e
    · injection e with e1 _
      subst e1
      cases v <;> rfl
theorem mixKind_int (prog : Program) (w : World) (i : Int) (t : Tok) : (mixKind prog w).is (.inl i) (.int i t) = true := keyIs_int i t
theorem mixKind_str (prog : Program) (w : World) (x : Str) (t : Tok) : (mixKind prog w).is (.inr x) (.str x t) = true := keyIs_str x t
end L2
namespace L2
open PySem PySem.Spec PyProof.Rows
inductive V where
  | non | bl (b : Bool) | int (i : Int) | str (x : Str) | byt (b : Array UInt8) | flt (b : UInt64) | ref (a : Addr) | ty (n : String)
  deriving DecidableEq
def RelV : V → Value → Prop
  | .non, u => u = Value.none
  | .bl b, u => u = Value.bool b
  | .int i, u => ∃ t, u = Value.int i t
  | .str x, u => ∃ t, u = Value.str x t
  | .byt b, u => ∃ t, u = Value.bytes b t
  | .flt b, u => ∃ t, u = Value.float b t
  | .ref a, u => u = Value.ref a
  | .ty n, u => u = Value.type n
abbrev Vals : List V → List Value → Prop := Paired RelV
theorem Vals.length {xs : List V} {us : List Value} (r : Vals xs us) : xs.length = us.length := Paired.length r
theorem Vals.get : ∀ {xs : List V} {us : List Value} {i : Nat} {x : V}, Vals xs us → xs[i]? = some x → ∃ u, us[i]? = some u ∧ RelV x u
  | _, _, _, _, .nil, e => by simp at e
  | _, _, 0, _, .cons r _, e => by simp at e; subst e; exact ⟨_, rfl, r⟩
  | _, _, i + 1, x, .cons _ t, e => by
    obtain ⟨u, h1, h2⟩ := Vals.get (i := i) (x := x) t (by simpa using e)
    exact ⟨u, by simpa using h1, h2⟩
theorem Vals.append : ∀ {xs ys : List V} {us ws : List Value}, Vals xs us → Vals ys ws → Vals (xs ++ ys) (us ++ ws)
  | _, _, _, _, .nil, s => s
  | _, _, _, _, .cons r t, s => .cons r (Vals.append t s)
theorem Vals.take : ∀ {xs : List V} {us : List Value} (n : Nat), Vals xs us → Vals (xs.take n) (us.take n)
  | _, _, 0, _ => .nil
  | _, _, _ + 1, .nil => .nil
  | _, _, n + 1, .cons r t => .cons r (Vals.take n t)
theorem Vals.drop : ∀ {xs : List V} {us : List Value} (n : Nat), Vals xs us → Vals (xs.drop n) (us.drop n)
  | _, _, 0, r => r
  | _, _, _ + 1, .nil => .nil
  | _, _, n + 1, .cons _ t => Vals.drop n t
def RelO : Option V → Option Value → Prop
  | some v, some u => RelV v u
  | none, none => True
  | _, _ => False
def KV {κ : Type} : List (κ × V) → List (κ × Value) → Prop := Paired fun (p : κ × V) (q : κ × Value) => p.1 = q.1 ∧ RelV p.2 q.2
def kV : Key → V
  | .inl i => .int i
  | .inr x => .str x
inductive HO where
  | lst (xs : List V)
  | tup (xs : List V)
  | dK (kvs : List (Key × V)) | dT (kvs : List (List Key × V))
  | set (S : Int → Bool) (n : Nat)
  | ins (C dx : Addr) (fs : List (Str × V))
  | own (x : Addr)
  | xd (fs : List (Str × V))
  | met (f x : Addr)
  | rng (lo hi : Int)
  | frz (o : Obj) (u : HO)
  | tbl (ps : Array Value)
  | ext (φ : Heap → Prop)
abbrev Hp := Addr → Option HO
def upd (H : Hp) (a : Addr) (o : HO) : Hp := fun b => if b = a then some o else H b
theorem upd_same {H : Hp} {a : Addr} {o : HO} : upd H a o a = some o := by unfold upd; rw [if_pos rfl]
theorem upd_ne {H : Hp} {a b : Addr} {o : HO} (h : b ≠ a) : upd H a o b = H b := by unfold upd; rw [if_neg h]
theorem ne_of {H : Hp} {a b : Addr} {o u : HO} (h : H a = some o) (h' : H b = some u) (d : o ≠ u) : a ≠ b := by
  intro e; subst e; rw [h] at h'; exact d (Option.some.inj h')
theorem ne_of_none {H : Hp} {a b : Addr} {o : HO} (h : H a = some o) (h' : H b = none) : a ≠ b := by
  intro e; subst e; rw [h] at h'; cases h'
section
variable (P : Program) (w : World)
def ObjOk (H : Hp) (h : Heap) (a : Addr) : HO → Prop
  | .lst xs => xs.length ≤ sizeLine ∧ ∃ (its : List Value) (n : Nat), Vals xs its ∧ h.get? a = some { cls := .type "list", data := .seq its.toArray n }
  | .tup xs => xs.length ≤ sizeLine ∧ ∃ its : List Value, Vals xs its ∧ IsTup h a its.toArray
  | .dK kvs => kvs.length ≤ sizeLine ∧ (a == sysModules) = false ∧ ∃ vs, KV kvs vs ∧ h.DictOf (mixKind P w) a vs
  | .dT kvs => kvs.length ≤ sizeLine ∧ (a == sysModules) = false ∧ ∃ xs : List (List Key × Addr × Value),
      Paired (fun (p : List Key × V) (q : List Key × Addr × Value) => p.1 = q.1 ∧ H q.2.1 = some (.tup (p.1.map kV)) ∧ RelV p.2 q.2.2) kvs xs ∧
      ∃ o es ep, h.get? a = some o ∧ o.ExactDict ∧ o.data = .dict es ep ∧ es.toList = xs.map (entryOfKey (tupleKind (mixKind P w))) ∧ (xs.map (·.1)).Nodup
  | .set S n => h.SetOf (intKind P w) a S n
  | .ins C dx fs => H dx = some (.own a) ∧ fs.length ≤ 1000 ∧ dx ≠ a ∧ h.get? a = some (PySem.W.instObj C dx) ∧
      ∃ mA, h.Ns1 dx mA ∧ (∀ f, RelO (fs.lookup f) (mA f)) ∧ PySem.Within mA (fs.map (·.1))
  | .own _ => ∃ o, h.get? a = some o
  | .xd fs => ∃ mA, h.Ns1 a mA ∧ ∀ f, RelO (fs.lookup f) (mA f)
  | .rng lo hi => ∃ t u v, h.get? a = some { cls := .type "range", data := .fields #[.int lo t, .int hi u, .int 1 v] }
  | .frz o u => h.get? a = some o ∧ ObjOk H h a u
  | .tbl ps => h.get? a = some { cls := .none, data := .fields ps }
  | .met f x => h.get? a = some (PySem.W.methodObj (.ref f) (.ref x))
  | .ext φ => φ h ∧ (∃ o, h.get? a = some o) ∧ ∀ h1 h2 : Heap, φ h1 → (∀ o, h1.get? a = some o → h2.get? a = some o) → φ h2
def HOk (H : Hp) (h : Heap) : Prop := ∀ a o, H a = some o → ObjOk P w H h a o
end
section
variable {P : Program} {w : World} {H H' : Hp} {h h' : Heap} {a : Addr} {o : HO}
theorem ObjOk.lt (x : ObjOk P w H h a o) : a < h.objs.size := by
  cases o with
  | lst xs => obtain ⟨_, _, _, _, e⟩ := x; exact Heap.lt_size e
  | tup xs => obtain ⟨_, _, _, p⟩ := x; exact p.lt
  | dK kvs => obtain ⟨_, _, _, _, o, _, _, e, _⟩ := x; exact Heap.lt_size e
  | dT kvs => obtain ⟨_, _, _, _, o, _, _, e, _⟩ := x; exact Heap.lt_size e
  | set S n => obtain ⟨o, _, _, _, e, _⟩ := x; exact Heap.lt_size e
  | ins C dx fs => obtain ⟨_, _, _, e, _⟩ := x; exact Heap.lt_size e
  | own y => obtain ⟨_, e⟩ := x; exact Heap.lt_size e
  | xd fs => obtain ⟨_, ⟨_, _, _, e, _⟩, _⟩ := x; exact Heap.lt_size e
  | rng lo hi => obtain ⟨_, _, _, e⟩ := x; exact Heap.lt_size e
  | frz ob u => obtain ⟨e, _⟩ := x; exact Heap.lt_size e
  | tbl ps => exact Heap.lt_size (show h.get? a = some _ from x)
  | met f y => exact Heap.lt_size (show h.get? a = some _ from x)
  | ext φ => obtain ⟨_, ⟨_, e⟩, _⟩ := x; exact Heap.lt_size e
theorem Paired.mapP {α β : Type} {F G : α → β → Prop} : ∀ {l₁ : List α} {l₂ : List β}, Paired F l₁ l₂ → (∀ a b, F a b → G a b) → Paired G l₁ l₂
  | _, _, .nil, _ => .nil
  | _, _, .cons r t, f => .cons (f _ _ r) (Paired.mapP t f)
theorem ObjOk.stay (x : ObjOk P w H h a o) (k : ∀ b u, (b = a ∨ H b = some (.own a)) → h.get? b = some u → h'.get? b = some u)
    (ho : ∀ b, H b = some (.own a) → H' b = some (.own a)) (ht : ∀ b xs, H b = some (.tup xs) → H' b = some (.tup xs)) : ObjOk P w H' h' a o := by
  induction o with
  | lst xs => obtain ⟨z, its, n, r, e⟩ := x; exact ⟨z, its, n, r, k _ _ (.inl rfl) e⟩
  | tup xs => obtain ⟨z, its, r, ob, e, c⟩ := x; exact ⟨z, its, r, ob, k _ _ (.inl rfl) e, c⟩
  | dK kvs => obtain ⟨z, y, vs, r, ob, es, ep, e, c⟩ := x; exact ⟨z, y, vs, r, ob, es, ep, k _ _ (.inl rfl) e, c⟩
  | dT kvs =>
    obtain ⟨z, y, xs, r, ob, es, ep, e, c⟩ := x
    exact ⟨z, y, xs, Paired.mapP r fun p q z => ⟨z.1, ht _ _ z.2.1, z.2.2⟩, ob, es, ep, k _ _ (.inl rfl) e, c⟩
  | set S n => obtain ⟨ob, es, ep, t, e, c⟩ := x; exact ⟨ob, es, ep, t, k _ _ (.inl rfl) e, c⟩
  | ins C dx fs =>
    obtain ⟨d, z, ne, e, mA, ⟨od, es, ep, e2, c⟩, r⟩ := x
    exact ⟨ho _ d, z, ne, k _ _ (.inl rfl) e, mA, ⟨od, es, ep, k _ _ (.inr d) e2, c⟩, r⟩
  | own y => obtain ⟨ob, e⟩ := x; exact ⟨ob, k _ _ (.inl rfl) e⟩
  | xd fs => obtain ⟨mA, ⟨od, es, ep, e, c⟩, r⟩ := x; exact ⟨mA, ⟨od, es, ep, k _ _ (.inl rfl) e, c⟩, r⟩
  | rng lo hi => obtain ⟨t, u, v, e⟩ := x; exact ⟨t, u, v, k _ _ (.inl rfl) e⟩
  | frz ob u ih => obtain ⟨e, q⟩ := x; exact ⟨k _ _ (.inl rfl) e, ih q⟩
  | tbl ps =>
    have e : h.get? a = some { cls := .none, data := .fields ps } := x
    show h'.get? a = some { cls := .none, data := .fields ps }
    exact k a _ (.inl rfl) e
  | met f y =>
    have e : h.get? a = some (PySem.W.methodObj (.ref f) (.ref y)) := x
    show h'.get? a = some (PySem.W.methodObj (.ref f) (.ref y))
    exact k a _ (.inl rfl) e
  | ext φ => obtain ⟨p, ⟨o, e⟩, st⟩ := x; exact ⟨st _ _ p fun o q => k _ _ (.inl rfl) q, ⟨o, k _ _ (.inl rfl) e⟩, st⟩
theorem HOk.lt (x : HOk P w H h) (e : H a = some o) : a < h.objs.size := (x a o e).lt
theorem HOk.fresh (x : HOk P w H h) (e : h.objs.size ≤ a) : H a = none := by
  cases q : H a with
  | none => rfl
  | some u => exact absurd (Nat.lt_of_lt_of_le (x.lt q) e) (Nat.lt_irrefl _)
theorem HOk.kept (x : HOk P w H h) (k : ∀ b u, h.get? b = some u → h'.get? b = some u) : HOk P w H h' := fun a o e =>
  (x a o e).stay (fun b u _ q => k b u q) (fun _ q => q) fun _ _ q => q
theorem HOk.laid (x : HOk P w H h) (k : ∀ b u, h.get? b = some u → h'.get? b = some u) (hp : h.objs.size ≤ a) (new : ObjOk P w (upd H a o) h' a o) : HOk P w (upd H a o) h' := fun b u e => by
  have hn := x.fresh hp
  by_cases hb : b = a
  · subst hb; rw [upd_same] at e; cases e; exact new
  · rw [upd_ne hb] at e
    exact (x b u e).stay (fun c v _ q => k c v q) (fun c q => by rw [upd_ne (ne_of_none q hn)]; exact q) fun c xs q => by rw [upd_ne (ne_of_none q hn)]; exact q
end
def Rd (H : Hp) (a : Addr) (u : HO) : Prop := H a = some u ∨ ∃ o, H a = some (.frz o u)
theorem Rd.ok {P : Program} {w : World} {H : Hp} {h : Heap} {a : Addr} {u : HO} (r : Rd H a u) (x : HOk P w H h) : ObjOk P w H h a u := by
  rcases r with r | ⟨o, r⟩
  · exact x a u r
  · obtain ⟨_, q⟩ := x a _ r
    exact q
def Mut : Option HO → Prop
  | some (.lst _) => True
  | some (.dK _) => True
  | some (.dT _) => True
  | some (.set _ _) => True
  | some (.ins _ _ _) => True
  | some (.ext _) => True
  | _ => False
section
variable {P : Program} {w : World} {H : Hp} {h h' : Heap} {x e : Addr} {o' : HO}
theorem HOk.write (ok : HOk P w H h) (mu : Mut (H x)) (he : e = x ∨ H e = some (.own x)) (k : ∀ b u, b ≠ e → h.get? b = some u → h'.get? b = some u) (heo : ∃ u, h'.get? e = some u)
    (new : ObjOk P w (upd H x o') h' x o') : HOk P w (upd H x o') h' := fun b u q => by
  have nown : ∀ c y, H c = some (.own y) → c ≠ x := fun c y r z => by subst z; rw [r] at mu; exact mu
  have ntup : ∀ c xs, H c = some (.tup xs) → c ≠ x := fun c xs r z => by subst z; rw [r] at mu; exact mu
  by_cases hb : b = x
  · subst hb; rw [upd_same] at q; cases q; exact new
  · rw [upd_ne hb] at q
    by_cases hbe : b = e
    · have q' : H b = some (.own x) := by
        rcases he with z | z
        · exact absurd (hbe.trans z) hb
        · rw [hbe]; exact z
      rw [q] at q'; cases q'
      obtain ⟨v, hv⟩ := heo
      exact ⟨v, by rw [hbe]; exact hv⟩
    · refine (ok b u q).stay (fun c v hc r => k c v ?_ r) (fun c r => by rw [upd_ne (nown c b r)]; exact r) fun c xs r => by rw [upd_ne (ntup c xs r)]; exact r
      rcases hc with rfl | hc
      · exact hbe
      · rintro rfl
        rcases he with z | z
        · exact nown c b hc z
        · rw [hc] at z; cases z; exact hb rfl
end
structure Un (fs ex : List Addr) (H H' : Hp) (h h' : Heap) : Prop where
  keep : ∀ b o, h.get? b = some o → H b = none → b ∉ fs → b ∉ ex → h'.get? b = some o
  slot : ∀ b o, h.get? b = some o → H b = none → b ∈ fs → b ∉ ex → ∃ sl, h'.get? b = some { o with slots := sl }
  free : ∀ b o, h.get? b = some o → H b = none → b ∉ ex → H' b = none
  there : ∀ b o, h.get? b = some o → b ∉ ex → ∃ o', h'.get? b = some o'
  tups : ∀ b xs, H b = some (.tup xs) → H' b = some (.tup xs)
  frzs : ∀ b o u, H b = some (.frz o u) → H' b = some (.frz o u)
  tbls : ∀ b ps, H b = some (.tbl ps) → ∃ more, H' b = some (.tbl (ps ++ more))
section
variable {fs fs' ex ex' : List Addr} {H H1 H2 : Hp} {h h1 h2 h' : Heap} {a x e : Addr} {o : HO}
theorem Un.any (u : Un fs ex H H1 h h1) {b : Addr} {ob : Obj} (q : h.get? b = some ob) (n : H b = none) (hx : b ∉ ex) : ∃ sl, h1.get? b = some { ob with slots := sl } := by
  by_cases hb : b ∈ fs
  · exact u.slot b ob q n hb hx
  · exact ⟨ob.slots, u.keep b ob q n hb hx⟩
theorem Un.trans (a : Un fs ex H H1 h h1) (b : Un fs ex H1 H2 h1 h2) : Un fs ex H H2 h h2 where
  keep := fun c ob q n hc hx => b.keep c ob (a.keep c ob q n hc hx) (a.free c ob q n hx) hc hx
  slot := fun c ob q n hc hx => by
    obtain ⟨sl, e1⟩ := a.slot c ob q n hc hx
    obtain ⟨sl', e2⟩ := b.slot c _ e1 (a.free c ob q n hx) hc hx
    exact ⟨sl', e2⟩
  free := fun c ob q n hx => by
    obtain ⟨o', e1⟩ := a.there c ob q hx
    exact b.free c o' e1 (a.free c ob q n hx) hx
  there := fun c ob q hx => by
    obtain ⟨o', e1⟩ := a.there c ob q hx
    exact b.there c o' e1 hx
  tups := fun c xs q => b.tups c xs (a.tups c xs q)
  frzs := fun c ob xs q => b.frzs c ob xs (a.frzs c ob xs q)
  tbls := fun c ps q => by
    obtain ⟨m1, e1⟩ := a.tbls c ps q
    obtain ⟨m2, e2⟩ := b.tbls c _ e1
    exact ⟨m1 ++ m2, by rw [e2, Array.append_assoc]⟩
theorem Un.kept (k : ∀ b u, h.get? b = some u → h'.get? b = some u) : Un fs ex H H h h' :=
  ⟨fun b ob q _ _ _ => k b ob q, fun b ob q _ _ _ => ⟨ob.slots, k b ob q⟩, fun _ _ _ n _ => n, fun b ob q _ => ⟨ob, k b ob q⟩, fun _ _ q => q, fun _ _ _ q => q, fun _ ps q => ⟨#[], by rw [q]; simp⟩⟩
theorem Un.refl : Un fs ex H H h h := Un.kept fun _ _ q => q
theorem Un.laid (k : ∀ b u, h.get? b = some u → h'.get? b = some u) (hp : h.objs.size ≤ a) (hn : H a = none) : Un fs ex H (upd H a o) h h' where
  keep := fun b u q _ _ _ => k b u q
  slot := fun b u q _ _ _ => ⟨u.slots, k b u q⟩
  free := fun b u q n _ => by rw [upd_ne (Nat.ne_of_lt (Nat.lt_of_lt_of_le (Heap.lt_size q) hp))]; exact n
  there := fun b u q _ => ⟨u, k b u q⟩
  tups := fun b xs q => by rw [upd_ne (ne_of_none q hn)]; exact q
  frzs := fun b u xs q => by rw [upd_ne (ne_of_none q hn)]; exact q
  tbls := fun b ps q => ⟨#[], by rw [upd_ne (ne_of_none q hn), q]; simp⟩
theorem Un.write (mu : Mut (H x)) (he : e = x ∨ H e = some (.own x)) (k : ∀ b u, b ≠ e → h.get? b = some u → h'.get? b = some u) (heo : ∃ u, h'.get? e = some u) : Un fs ex H (upd H x o) h h' := by
  have hx : ∀ b, H b = none → b ≠ x := fun b n z => by subst z; rw [n] at mu; exact mu
  have hb : ∀ b, H b = none → b ≠ e := fun b n z => by
    subst z
    rcases he with r | r
    · exact hx b n r
    · rw [n] at r; cases r
  have hm : ∀ b u, H b = some u → ¬ Mut (some u) → b ≠ x := fun b u q nm z => by subst z; rw [q] at mu; exact nm mu
  refine ⟨fun b u q n _ _ => k b u (hb b n) q, fun b u q n _ _ => ⟨u.slots, k b u (hb b n) q⟩, fun b u q n _ => by rw [upd_ne (hx b n)]; exact n, fun b u q _ => ?_,
    fun b xs q => by rw [upd_ne (hm b _ q fun z => z)]; exact q, fun b u xs q => by rw [upd_ne (hm b _ q fun z => z)]; exact q, fun b ps q => ⟨#[], by rw [upd_ne (hm b _ q fun z => z), q]; simp⟩⟩
  by_cases hbe : b = e
  · subst hbe; exact heo
  · exact ⟨u, k b u hbe q⟩
end
def trk (h : Heap) (H : Hp) : List Addr := (List.range h.objs.size).filter fun a => (H a).isSome
def hidT (h : Heap) (H : Hp) : Heap := PySem.W.hideAll h (trk h H)
theorem hidT_size (h : Heap) (H : Hp) : (hidT h H).objs.size = h.objs.size := PySem.W.hideAll_size _ _
theorem hidT_get {h : Heap} {H : Hp} {b : Addr} {o : Obj} (e : h.get? b = some o) (n : H b = none) : (hidT h H).get? b = some o :=
  PySem.W.hideAll_get _ e fun hm => by
    have q : (H b).isSome = true := (List.mem_filter.mp hm).2
    rw [n] at q; simp at q
theorem of_hidT {h : Heap} {H : Hp} {b : Addr} {o : Obj} (e : (hidT h H).get? b = some o) : h.get? b = some o ∧ H b = none := by
  have e' : h.get? b = some o := PySem.W.of_hideAll (trk h H) e
  refine ⟨e', ?_⟩
  cases q : H b with
  | none => rfl
  | some x =>
    have hm : b ∈ trk h H := List.mem_filter.mpr ⟨List.mem_range.mpr (Heap.lt_size e'), by simp [q]⟩
    have z : (hidT h H).get? b = none := PySem.W.hideAll_none (trk h H) hm
    rw [z] at e; cases e
def allNews (g h : Heap) (L : Addr) : List (Addr × Obj) := (List.range h.objs.size).filterMap fun a => if a = L ∨ (g.get? a).isSome = true then none else (h.get? a).map fun o => (a, o)
def rest (g h : Heap) (L d : Addr) : List (Addr × Obj) := (allNews g h L).filter fun p => decide (p.1 ≠ d)
end L2
namespace L2
open PySem PySem.Spec PyProof.Rows
structure Mod (K : PySem.W.Frag) (mg : Str → Option Value) (base : Heap) : Prop where
  kin : K.In base
  glob : base.Ns mainGlobals mg
  blt : ∃ mb, base.Ns builtinsNs mb ∧ ∀ x : Str, x ≠ "__name__" → mb x = bootBuiltins x
  nolimit : base.NoLimit
structure Cx where
  prog : Program
  w : World
  K : PySem.W.Frag
  mg : Str → Option Value
  base : Heap
  A : Around
  N : List Str
  s₀ : Shared
  H₀ : Hp
  env : Env
  outer : List Env
  stack : List Env
  ex : List Addr
  fn : Str → Bool
  calm : Bool
  pn : List (Addr × Obj)
  xe : Value → Shared → Prop
def frs (l : List Env) : List Addr := l.filterMap (·.frame)
abbrev Cx.fs (X : Cx) : List Addr := frs X.outer
def Vis (sc : Scope) (x : Str) : Prop := sc.names.lookup x = some .local ∨ sc.names.lookup x = some .cell ∨ sc.names.lookup x = some .free
def Loc (sc : Scope) (x : Str) : Prop := sc.names.lookup x = some .local ∨ sc.names.lookup x = some .cell
def Look (env : Env) (h : Heap) (m : Str → Option Value) (x : Str) (u : Value) : Prop :=
  (env.kindOf x = some .local ∧ m x = some u) ∨ ((env.kindOf x = some .cell ∨ env.kindOf x = some .free) ∧ ∃ c, env.cells.lookup x = some c ∧ h.IsCell c (some u))
structure Cx.Ok (X : Cx) : Prop where
  mod : Mod X.K X.mg X.base
  kind : X.env.scope.kind = .function
  glob : X.env.globals = mainGlobals
  blt : X.env.builtins = builtinsNs
  above : X.s₀.heap.objs.size ≤ X.env.locals
  inj : ∀ x y c, X.env.cells.lookup x = some c → X.env.cells.lookup y = some c → x = y
  has : ∀ x, (X.env.kindOf x = some .cell ∨ X.env.kindOf x = some .free) → ∃ c, X.env.cells.lookup x = some c
  cab : ∀ x c, X.fn x = true → X.env.cells.lookup x = some c → X.s₀.heap.objs.size ≤ c
  hd : X.calm = true → X.A.handled = none
  frames : X.A.frames = some X.stack
  stk : X.stack = X.outer ∨ (X.stack = X.env :: X.outer ∧ X.env.frame = some X.env.locals)
  exf : ∀ b ∈ X.ex, b ≠ X.env.locals ∧ ∀ x c, X.env.cells.lookup x = some c → c ≠ b
  bs : ∀ b o, X.base.get? b = some o → X.s₀.heap.get? b = some o ∧ X.H₀ b = none
  bsz : X.base.objs.size ≤ X.s₀.heap.objs.size
  noex : ∀ b o, X.base.get? b = some o → b ∉ X.ex
  exfs : ∀ b ∈ X.ex, b ∉ X.fs
  funs : X.s₀.heap.FunFrames X.base X.outer
  frf : ∀ b ∈ X.fs, X.H₀ b = none
structure Inv (X : Cx) (pins : List (Addr × Obj)) (σ : List (Option V)) (H : Hp) (s : Shared) : Prop where
  ok : X.Ok
  os : s.os = X.s₀.os
  bare : AllBare s.gens
  base : Un X.fs X.ex X.H₀ H X.s₀.heap s.heap
  loc : ∃ m, s.heap.Ns X.env.locals m ∧ ∀ (i : Nat) (x : Str) (v : V), X.N[i]? = some x → σ[i]? = some (some v) → Vis X.env.scope x → ∃ u, RelV v u ∧ Look X.env s.heap m x u
  cell : ∀ x c, X.env.cells.lookup x = some c → ∃ v, s.heap.IsCell c v
  free : H X.env.locals = none
  freeC : ∀ x c, X.env.cells.lookup x = some c → H c = none
  pin : ∀ p ∈ X.pn ++ pins, s.heap.get? p.1 = some p.2 ∧ H p.1 = none ∧ p.1 ≠ X.env.locals ∧ p.1 ∉ X.fs ∧ ∀ v, p.2.data ≠ .cell v
  hok : HOk X.prog X.w H s.heap
  len : σ.length = X.N.length
section
variable {X : Cx} {pins : List (Addr × Obj)} {σ : List (Option V)} {H H' : Hp} {s : Shared} {h' : Heap}
theorem Cx.Ok.nofr (ok : X.Ok) {b : Addr} {o : Obj} (e : X.base.get? b = some o) : b ∉ X.fs := fun hb => by
  have := (ok.funs.mem hb).1
  rw [e] at this; cases this
theorem Inv.bs (I : Inv X pins σ H s) : ∀ b o, X.base.get? b = some o → s.heap.get? b = some o ∧ H b = none := fun b o e =>
  ⟨I.base.keep b o (I.ok.bs b o e).1 (I.ok.bs b o e).2 (I.ok.nofr e) (I.ok.noex b o e), I.base.free b o (I.ok.bs b o e).1 (I.ok.bs b o e).2 (I.ok.noex b o e)⟩
theorem Inv.bk (I : Inv X pins σ H s) : ∀ b o, X.base.get? b = some o → s.heap.get? b = some o := fun b o e => (I.bs b o e).1
theorem Inv.mod (I : Inv X pins σ H s) : Mod X.K X.mg X.base := I.ok.mod
theorem Inv.kIn (I : Inv X pins σ H s) : X.K.In s.heap := I.ok.mod.kin.keeps I.bk
theorem Inv.lt (I : Inv X pins σ H s) : X.env.locals < s.heap.objs.size := let ⟨_, hn, _⟩ := I.loc; hn.lt
theorem Inv.sz (I : Inv X pins σ H s) : X.s₀.heap.objs.size ≤ s.heap.objs.size := Nat.le_trans I.ok.above (Nat.le_of_lt I.lt)
theorem Inv.nofs (I : Inv X pins σ H s) {a : Addr} (h : s.heap.objs.size ≤ a) : a ∉ X.fs := fun hb => by
  obtain ⟨_, o, ho, _⟩ := I.ok.funs.mem hb
  exact absurd (Nat.lt_of_lt_of_le (Heap.lt_size ho) (Nat.le_trans I.sz h)) (Nat.lt_irrefl _)
theorem Inv.cne (I : Inv X pins σ H s) : ∀ x c, X.env.cells.lookup x = some c → c ≠ X.env.locals := fun x c e z => by
  obtain ⟨v, o, ho, hd⟩ := I.cell x c e
  obtain ⟨m, ⟨o', es, ep, ho', hd', _⟩, _⟩ := I.loc
  rw [z, ho'] at ho; cases ho; rw [hd'] at hd; cases hd
theorem Inv.funs (I : Inv X pins σ H s) : s.heap.FunFrames X.base X.outer := by
  have all : ∀ (l : List Env), (∀ b ∈ frs l, b ∈ X.fs) → X.s₀.heap.FunFrames X.base l → s.heap.FunFrames X.base l := by
    intro l
    induction l with
    | nil => intro _ _; trivial
    | cons env r ih =>
      intro hs hl
      obtain ⟨hk, ⟨L, o, hf, hn, ho, hd⟩, hr⟩ := hl
      have hL : L ∈ X.fs := hs L (by unfold frs; rw [List.filterMap_cons, hf]; exact List.mem_cons_self)
      obtain ⟨sl, e⟩ := I.base.slot L o ho (I.ok.frf L hL) hL fun z => I.ok.exfs L z hL
      exact ⟨hk, ⟨L, _, hf, hn, e, hd⟩, ih (fun b hb => hs b (by unfold frs; rw [List.filterMap_cons, hf]; exact List.mem_cons_of_mem _ hb)) hr⟩
  exact all X.outer (fun _ hb => hb) I.ok.funs
theorem Inv.stack (I : Inv X pins σ H s) : s.heap.FunFrames X.base X.stack := by
  rcases I.ok.stk with e | ⟨e, hf⟩
  · rw [e]; exact I.funs
  · rw [e]
    obtain ⟨m, hn, _⟩ := I.loc
    refine .cons (by rw [I.ok.kind]; decide) hf hn ?_ I.funs
    exact Heap.get?_none_of_le (Nat.le_trans I.ok.bsz I.ok.above)
theorem Inv.stkSub (I : Inv X pins σ H s) : ∀ b ∈ frs X.stack, b ∈ X.env.locals :: X.fs := fun b hb => by
  rcases I.ok.stk with e | ⟨e, hf⟩
  · rw [e] at hb; exact List.mem_cons_of_mem _ hb
  · rw [e] at hb
    unfold frs at hb
    rw [List.filterMap_cons, hf] at hb
    exact hb
theorem Inv.stkFree (I : Inv X pins σ H s) : ∀ b ∈ frs X.stack, H b = none := fun b hb => by
  rcases List.mem_cons.mp (I.stkSub b hb) with e | hb
  · rw [e]; exact I.free
  · obtain ⟨_, o, ho, _⟩ := I.ok.funs.mem hb
    exact I.base.free b o ho (I.ok.frf b hb) fun z => I.ok.exfs b z hb
theorem Inv.step {g' : Array GenState} {t' : Nat} {d' : Drawn} {ch : List Addr} (I : Inv X pins σ H s)
    (hch : ∀ b ∈ ch, (b ∈ X.ex ∨ X.s₀.heap.objs.size ≤ b) ∧ b ≠ X.env.locals ∧ (∀ x c, X.env.cells.lookup x = some c → c ≠ b) ∧ ∀ p ∈ X.pn ++ pins, p.1 ≠ b)
    (keep : ∀ b o, b ≠ X.env.locals → b ∉ X.fs → b ∉ ch → s.heap.get? b = some o → H b = none → h'.get? b = some o)
    (slot : ∀ b o, b ≠ X.env.locals → b ∈ X.fs → b ∉ ch → s.heap.get? b = some o → H b = none → ∃ sl, h'.get? b = some { o with slots := sl }) (free : ∀ b o, b ∉ ch → s.heap.get? b = some o → H b = none → H' b = none)
    (there : ∀ b o, b ∉ ch → s.heap.get? b = some o → ∃ o', h'.get? b = some o')
    (tups : ∀ b xs, H b = some (.tup xs) → H' b = some (.tup xs)) (frzs : ∀ b o u, H b = some (.frz o u) → H' b = some (.frz o u)) (tbls : ∀ b ps, H b = some (.tbl ps) → ∃ more, H' b = some (.tbl (ps ++ more)))
    (ns : ∀ m, s.heap.Ns X.env.locals m → h'.Ns X.env.locals m) (hok : HOk X.prog X.w H' h') (hg : AllBare g') :
    Inv X pins σ H' { s with heap := h', gens := g', drawn := d', toks := t' } := by
  have neL : ∀ b o, X.s₀.heap.get? b = some o → b ≠ X.env.locals := fun b o e => Nat.ne_of_lt (Nat.lt_of_lt_of_le (Heap.lt_size e) I.ok.above)
  have neC : ∀ b o, X.s₀.heap.get? b = some o → b ∉ X.ex → b ∉ ch := fun b o e hx hb => by
    rcases (hch b hb).1 with z | z
    · exact hx z
    · exact absurd (Nat.lt_of_lt_of_le (Heap.lt_size e) z) (Nat.lt_irrefl _)
  have cellK : ∀ x c, X.env.cells.lookup x = some c → ∀ v, s.heap.IsCell c v → h'.IsCell c v := fun x c e v ⟨o, ho, hd⟩ => by
    have nch : c ∉ ch := fun z => (hch c z).2.2.1 x c e rfl
    by_cases hc : c ∈ X.fs
    · obtain ⟨sl, q⟩ := slot c o (I.cne x c e) hc nch ho (I.freeC x c e)
      exact ⟨_, q, hd⟩
    · exact ⟨o, keep c o (I.cne x c e) hc nch ho (I.freeC x c e), hd⟩
  refine ⟨I.ok, I.os, hg, ⟨fun b o e n hb hx => ?_, fun b o e n hb hx => ?_, fun b o e n hx => ?_, fun b o e hx => ?_, fun b xs e => tups b xs (I.base.tups b xs e), fun b o xs e => frzs b o xs (I.base.frzs b o xs e), fun b ps e => ?_⟩, ?_, fun x c e => ?_, ?_, fun x c e => ?_, fun p hp => ?_, hok, I.len⟩
  · exact keep b o (neL b o e) hb (neC b o e hx) (I.base.keep b o e n hb hx) (I.base.free b o e n hx)
  · obtain ⟨sl, e1⟩ := I.base.slot b o e n hb hx
    obtain ⟨sl', e2⟩ := slot b _ (neL b o e) hb (neC b o e hx) e1 (I.base.free b o e n hx)
    exact ⟨sl', e2⟩
  · obtain ⟨o', e1⟩ := I.base.there b o e hx
    exact free b o' (neC b o e hx) e1 (I.base.free b o e n hx)
  · obtain ⟨o', e1⟩ := I.base.there b o e hx
    exact there b o' (neC b o e hx) e1
  · obtain ⟨m1, e1⟩ := I.base.tbls b ps e
    obtain ⟨m2, e2⟩ := tbls b _ e1
    exact ⟨m1 ++ m2, by rw [e2, Array.append_assoc]⟩
  · obtain ⟨m, hn, hl⟩ := I.loc
    refine ⟨m, ns m hn, fun i x v e1 e2 e3 => ?_⟩
    obtain ⟨u, r, l⟩ := hl i x v e1 e2 e3
    refine ⟨u, r, ?_⟩
    rcases l with l | ⟨k, c, e, z⟩
    · exact .inl l
    · exact .inr ⟨k, c, e, cellK x c e _ z⟩
  · obtain ⟨v, z⟩ := I.cell x c e
    exact ⟨v, cellK x c e v z⟩
  · obtain ⟨m, ⟨o, _, _, ho, _⟩, _⟩ := I.loc
    exact free _ o (fun z => (hch _ z).2.1 rfl) ho I.free
  · obtain ⟨v, o, ho, hd⟩ := I.cell x c e
    exact free c o (fun z => (hch c z).2.2.1 x c e rfl) ho (I.freeC x c e)
  · obtain ⟨e, n, ne, nf, d⟩ := I.pin p hp
    have nch : p.1 ∉ ch := fun z => (hch p.1 z).2.2.2 p hp rfl
    exact ⟨keep p.1 p.2 ne nf nch e n, free p.1 p.2 nch e n, ne, nf, d⟩
theorem Inv.un {t' : Nat} (I : Inv X pins σ H s) (u : Un X.fs [] H H' s.heap h') (hok : HOk X.prog X.w H' h') : Inv X pins σ H' { s with heap := h', toks := t' } := by
  obtain ⟨m, ⟨o, es, ep, ho, r⟩, _⟩ := id I.loc
  obtain ⟨sl, hL⟩ := u.any ho I.free (by simp)
  exact I.step (g' := s.gens) (d' := s.drawn) (ch := []) (fun _ z => nomatch z) (fun b o _ hb _ e n => u.keep b o e n hb (by simp)) (fun b o _ hb _ e n => u.slot b o e n hb (by simp)) (fun b o _ e n => u.free b o e n (by simp)) (fun b o _ e => u.there b o e (by simp)) u.tups u.frzs u.tbls (fun m' hm => by
    obtain ⟨o', es', ep', ho', r'⟩ := hm
    rw [ho] at ho'; cases ho'
    exact ⟨_, es', ep', hL, r'⟩) hok I.bare
theorem Inv.call {g' : Array GenState} {t' : Nat} {d' : Drawn} {ch : List Addr} (I : Inv X pins σ H s) (u : Un (frs X.stack) ch H H' s.heap h') (hok : HOk X.prog X.w H' h') (hg : AllBare g')
    (hch : ∀ b ∈ ch, (b ∈ X.ex ∨ X.s₀.heap.objs.size ≤ b) ∧ b ≠ X.env.locals ∧ (∀ x c, X.env.cells.lookup x = some c → c ≠ b) ∧ ∀ p ∈ X.pn ++ pins, p.1 ≠ b) :
    Inv X pins σ H' { s with heap := h', gens := g', drawn := d', toks := t' } := by
  obtain ⟨m, ⟨o, es, ep, ho, r⟩, _⟩ := id I.loc
  obtain ⟨sl, hL⟩ := u.any ho I.free fun z => (hch _ z).2.1 rfl
  exact I.step (ch := ch) hch (fun b o hL hb hc e n => u.keep b o e n (fun z => (List.mem_cons.mp (I.stkSub b z)).elim hL hb) hc) (fun b o _ _ hc e n => u.any e n hc) (fun b o hc e n => u.free b o e n hc) (fun b o hc e => u.there b o e hc) u.tups u.frzs u.tbls (fun m' hm => by
    obtain ⟨o', es', ep', ho', r'⟩ := hm
    rw [ho] at ho'; cases ho'
    exact ⟨_, es', ep', hL, r'⟩) hok hg
theorem Inv.turned {t' : Nat} {it : Addr} (I : Inv X pins σ H s) (k : ∀ b o, b ≠ it → s.heap.get? b = some o → h'.get? b = some o) (hn : H it = none) (hL : it ≠ X.env.locals)
    (h1 : it ∈ X.ex ∨ X.s₀.heap.objs.size ≤ it) (h2 : ∀ x c, X.env.cells.lookup x = some c → c ≠ it) (h3 : ∀ p ∈ X.pn ++ pins, p.1 ≠ it) : Inv X pins σ H { s with heap := h', toks := t' } := by
  have nit : ∀ b u, H b = some u → b ≠ it := fun b u e z => by rw [z, hn] at e; cases e
  refine I.step (g' := s.gens) (d' := s.drawn) (ch := [it]) (fun b hb => ?_) (fun b o _ _ hc e _ => k b o (fun z => hc (by simp [z])) e) (fun b o _ _ hc e _ => ⟨o.slots, k b o (fun z => hc (by simp [z])) e⟩) (fun _ _ _ _ n => n)
    (fun b o hc e => ⟨o, k b o (fun z => hc (by simp [z])) e⟩) (fun _ _ e => e) (fun _ _ _ e => e) (fun b ps e => ⟨#[], by rw [e]; simp⟩) (fun m hm => ?_) (fun b u e => ?_) I.bare
  · have e : b = it := by simpa using hb
    subst e
    exact ⟨h1, hL, h2, h3⟩
  · obtain ⟨o, es, ep, ho, r⟩ := hm
    exact ⟨o, es, ep, k _ o (Ne.symm hL) ho, r⟩
  · refine (I.hok b u e).stay (fun c v hc q => k c v ?_ q) (fun _ q => q) fun _ _ q => q
    rcases hc with z | z
    · rw [z]; exact nit b u e
    · exact nit c _ z
theorem Inv.tok (I : Inv X pins σ H s) (t : Nat) : Inv X pins σ H { s with toks := t } := I.un (h' := s.heap) (t' := t) Un.refl I.hok
theorem Inv.kept {t' : Nat} (I : Inv X pins σ H s) (k : ∀ b u, s.heap.get? b = some u → h'.get? b = some u) : Inv X pins σ H { s with heap := h', toks := t' } := I.un (Un.kept k) (I.hok.kept k)
theorem Inv.laid {a : Addr} {o : HO} {t' : Nat} (I : Inv X pins σ H s) (k : ∀ b u, s.heap.get? b = some u → h'.get? b = some u) (hp : s.heap.objs.size ≤ a) (new : ObjOk X.prog X.w (upd H a o) h' a o) :
    Inv X pins σ (upd H a o) { s with heap := h', toks := t' } := I.un (Un.laid k hp (I.hok.fresh hp)) (I.hok.laid k hp new)
theorem Inv.write {x e : Addr} {o : HO} {t' : Nat} (I : Inv X pins σ H s) (mu : Mut (H x)) (he : e = x ∨ H e = some (.own x)) (k : ∀ b u, b ≠ e → s.heap.get? b = some u → h'.get? b = some u) (heo : ∃ u, h'.get? e = some u)
    (new : ObjOk X.prog X.w (upd H x o) h' x o) : Inv X pins σ (upd H x o) { s with heap := h', toks := t' } := I.un (Un.write mu he k heo) (I.hok.write mu he k heo new)
theorem Inv.weak {σ' : List (Option V)} (I : Inv X pins σ H s) (hl : σ'.length = σ.length) (w : ∀ (i : Nat) v, σ'[i]? = some (some v) → σ[i]? = some (some v)) : Inv X pins σ' H s :=
  ⟨I.ok, I.os, I.bare, I.base, let ⟨m, hn, hl'⟩ := I.loc; ⟨m, hn, fun i x v e1 e2 e3 => hl' i x v e1 (w i v e2) e3⟩, I.cell, I.free, I.freeC, I.pin, I.hok, hl.trans I.len⟩
theorem Inv.pins_of {pins' : List (Addr × Obj)} (I : Inv X pins σ H s) (h : ∀ p ∈ pins', s.heap.get? p.1 = some p.2 ∧ H p.1 = none ∧ p.1 ≠ X.env.locals ∧ p.1 ∉ X.fs ∧ ∀ v, p.2.data ≠ .cell v) : Inv X pins' σ H s :=
  ⟨I.ok, I.os, I.bare, I.base, I.loc, I.cell, I.free, I.freeC, fun p hp => (List.mem_append.mp hp).elim (fun z => I.pin p (List.mem_append_left _ z)) (h p), I.hok, I.len⟩
theorem nodup_ix {N : List Str} (hN : N.Nodup) {i j : Nat} {x : Str} (a : N[i]? = some x) (b : N[j]? = some x) : i = j := by
  obtain ⟨h1, e1⟩ := List.getElem?_eq_some_iff.mp a
  obtain ⟨h2, e2⟩ := List.getElem?_eq_some_iff.mp b
  exact (List.getElem_inj hN).mp (e1.trans e2.symm)
theorem store_ok2 {M : Model} {A : Around} {E : Value → Shared → Prop} {i : Nat} {x : Str} {v : V} {u : Value} {Q : Unit → Shared → Prop} (I : Inv X pins σ H s) (hN : X.N.Nodup) (hi : X.N[i]? = some x) (hx : Loc X.env.scope x) (r : RelV v u)
    (h : ∀ s', Inv X pins (σ.set i (some v)) H s' → (∃ a, Heap.SameBut a s.heap s'.heap ∧ (a = X.env.locals ∨ X.env.cells.lookup x = some a)) → Q () s') (hf : X.fn x = true ∨ X.env.scope.names.lookup x = some .local := by first | exact .inl rfl | exact .inr rfl | assumption) : wpAny M A (storeName X.env x u) Q E s := by
  obtain ⟨m, hn, hl⟩ := id I.loc
  have hcls : (X.env.scope.kind == .class || (X.env.scope.kind == .module && X.env.locals != X.env.globals)) = false := by rw [I.ok.kind]; rfl
  have hiσ : i < σ.length := by rw [I.len]; exact (List.getElem?_eq_some_iff.mp hi).1
  have cne := I.cne
  have tracked : ∀ {a : Addr} {h' : Heap}, (∃ o, s.heap.get? a = some o ∧ H a = none) → Heap.SameBut a s.heap h' → HOk X.prog X.w H h' := fun {a h'} ha hs b ob e => by
    obtain ⟨_, _, hfree⟩ := ha
    refine (I.hok b ob e).stay (fun c w' hc q => (hs.2 c ?_).trans q) (fun _ q => q) fun _ _ q => q
    rintro rfl
    rcases hc with rfl | hc
    · rw [hfree] at e; cases e
    · rw [hfree] at hc; cases hc
  rcases hx with hk | hk
  · refine wpAny_storeName_local hk hn (fun h' hn' hs => ?_) hcls
    obtain ⟨oL, _, _, hoL, _⟩ := id hn
    refine h _ ⟨I.ok, I.os, I.bare, ⟨fun b o e n hb hx => ?_, fun b o e n hb hx => ?_, I.base.free, fun b o e hx => ?_, I.base.tups, I.base.frzs, I.base.tbls⟩, ⟨_, hn', fun j y v' e1 e2 e3 => ?_⟩, fun y c e => ?_, I.free, I.freeC, fun p hp => ?_, tracked ⟨oL, hoL, I.free⟩ hs, by simpa using I.len⟩ ⟨_, hs, .inl rfl⟩
    · exact (hs.2 b (Nat.ne_of_lt (Nat.lt_of_lt_of_le (Heap.lt_size e) I.ok.above))).trans (I.base.keep b o e n hb hx)
    · obtain ⟨sl, e1⟩ := I.base.slot b o e n hb hx
      exact ⟨sl, (hs.2 b (Nat.ne_of_lt (Nat.lt_of_lt_of_le (Heap.lt_size e) I.ok.above))).trans e1⟩
    · obtain ⟨o', e1⟩ := I.base.there b o e hx
      exact ⟨o', (hs.2 b (Nat.ne_of_lt (Nat.lt_of_lt_of_le (Heap.lt_size e) I.ok.above))).trans e1⟩
    · by_cases hj : j = i
      · subst hj
        rw [hi] at e1; cases e1
        rw [List.getElem?_set_self hiσ] at e2
        cases e2
        exact ⟨u, r, .inl ⟨hk, by simp⟩⟩
      · rw [List.getElem?_set_ne (Ne.symm hj)] at e2
        obtain ⟨u', r', q⟩ := hl j y v' e1 e2 e3
        refine ⟨u', r', ?_⟩
        rcases q with ⟨k, e⟩ | ⟨k, c, e, z⟩
        · refine .inl ⟨k, ?_⟩
          have : y ≠ x := fun e => hj (nodup_ix hN e1 (e ▸ hi))
          simp [this, e]
        · exact .inr ⟨k, c, e, z.sameBut hs (cne y c e)⟩
    · obtain ⟨w', z⟩ := I.cell y c e
      exact ⟨w', z.sameBut hs (cne y c e)⟩
    · obtain ⟨e, n, ne, nf, d⟩ := I.pin p hp
      exact ⟨(hs.2 p.1 ne).trans e, n, ne, nf, d⟩
  · have hfn : X.fn x = true := by
      rcases hf with z | z
      · exact z
      · rw [z] at hk; cases hk
    obtain ⟨c, hc⟩ := I.ok.has x (.inl hk)
    obtain ⟨w', z⟩ := I.cell x c hc
    refine wpAny_storeName_cell I.ok.kind hk hc z (fun h' hc' hs => ?_)
    obtain ⟨oc, hoc, hocd⟩ := id z
    refine h { s with heap := h' } ⟨I.ok, I.os, I.bare, ⟨fun b o e n hb hx => ?_, fun b o e n hb hx => ?_, I.base.free, fun b o e hx => ?_, I.base.tups, I.base.frzs, I.base.tbls⟩, ⟨m, hn.sameBut hs (Ne.symm (cne x c hc)), fun j y v' e1 e2 e3 => ?_⟩, fun y c' e => ?_, I.free, I.freeC, fun p hp => ?_, tracked ⟨oc, hoc, I.freeC x c hc⟩ hs, by simpa using I.len⟩ ⟨c, hs, .inr hc⟩
    · exact (hs.2 b (Nat.ne_of_lt (Nat.lt_of_lt_of_le (Heap.lt_size e) (I.ok.cab x c hfn hc)))).trans (I.base.keep b o e n hb hx)
    · obtain ⟨sl, e1⟩ := I.base.slot b o e n hb hx
      exact ⟨sl, (hs.2 b (Nat.ne_of_lt (Nat.lt_of_lt_of_le (Heap.lt_size e) (I.ok.cab x c hfn hc)))).trans e1⟩
    · obtain ⟨o', e1⟩ := I.base.there b o e hx
      exact ⟨o', (hs.2 b (Nat.ne_of_lt (Nat.lt_of_lt_of_le (Heap.lt_size e) (I.ok.cab x c hfn hc)))).trans e1⟩
    · by_cases hj : j = i
      · subst hj
        rw [hi] at e1; cases e1
        rw [List.getElem?_set_self hiσ] at e2
        cases e2
        exact ⟨u, r, .inr ⟨.inl hk, c, hc, hc'⟩⟩
      · rw [List.getElem?_set_ne (Ne.symm hj)] at e2
        obtain ⟨u', r', q⟩ := hl j y v' e1 e2 e3
        refine ⟨u', r', ?_⟩
        rcases q with q | ⟨k, c', e, z'⟩
        · exact .inl q
        · refine .inr ⟨k, c', e, z'.sameBut hs ?_⟩
          rintro rfl
          exact hj (nodup_ix hN e1 (I.ok.inj _ _ _ e hc ▸ hi))
    · by_cases hcc : c' = c
      · subst hcc; exact ⟨_, hc'⟩
      · obtain ⟨w2, z2⟩ := I.cell y c' e
        exact ⟨w2, z2.sameBut hs hcc⟩
    · obtain ⟨e, n, ne, nf, d⟩ := I.pin p hp
      refine ⟨(hs.2 p.1 ?_).trans e, n, ne, nf, d⟩
      intro q
      rw [q, hoc] at e
      have q' : oc = p.2 := Option.some.inj e
      exact d w' (by rw [← q']; exact hocd)
theorem store_ok {M : Model} {A : Around} {E : Value → Shared → Prop} {i : Nat} {x : Str} {v : V} {u : Value} {Q : Unit → Shared → Prop} (I : Inv X pins σ H s) (hN : X.N.Nodup) (hi : X.N[i]? = some x) (hx : Loc X.env.scope x) (r : RelV v u)
    (h : ∀ s', Inv X pins (σ.set i (some v)) H s' → Q () s') (hf : X.fn x = true ∨ X.env.scope.names.lookup x = some .local := by first | exact .inl rfl | exact .inr rfl | assumption) : wpAny M A (storeName X.env x u) Q E s :=
  store_ok2 I hN hi hx r (fun s' I' _ => h s' I') hf
theorem Inv.call' {s' : Shared} {ch : List Addr} (I : Inv X pins σ H s) (ho : s'.os = s.os) (u : Un (frs X.stack) ch H H' s.heap s'.heap) (hok : HOk X.prog X.w H' s'.heap) (hg : AllBare s'.gens)
    (hch : ∀ b ∈ ch, (b ∈ X.ex ∨ X.s₀.heap.objs.size ≤ b) ∧ b ≠ X.env.locals ∧ (∀ x c, X.env.cells.lookup x = some c → c ≠ b) ∧ ∀ p ∈ X.pn ++ pins, p.1 ≠ b) : Inv X pins σ H' s' := by
  obtain ⟨h', g', d', t', o'⟩ := s'
  have e : o' = s.os := ho
  subst e
  exact I.call (g' := g') (t' := t') (d' := d') u hok hg hch
end
abbrev XK := Value → Option Addr → Hp → Prop
abbrev St := List (Option V)
abbrev VK := V → Hp → Prop
abbrev TE := St → Hp → VK → Prop
abbrev TT := St → Hp → (Bool → Hp → Prop) → Prop
abbrev TA := St → Hp → (List V → Hp → Prop) → Prop
structure Ends where
  nx : St → Hp → Prop
  rt : VK
  bk : St → Hp → Prop := fun _ _ => False
  ct : St → Hp → Prop := fun _ _ => False
abbrev TS := Ends → St → Hp → Prop
def EP (X : Cx) (pins : List (Addr × Obj)) (σ : St) (Q : VK) (u : Value) (s' : Shared) : Prop := ∃ v H', Inv X pins σ H' s' ∧ RelV v u ∧ Q v H'
def TP (X : Cx) (pins : List (Addr × Obj)) (σ : St) (Q : Bool → Hp → Prop) (b : Bool) (s' : Shared) : Prop := ∃ H', Inv X pins σ H' s' ∧ Q b H'
def AP (X : Cx) (pins : List (Addr × Obj)) (σ : St) (Q : List V → Hp → Prop) (us : List Value) (s' : Shared) : Prop := ∃ vs H', Inv X pins σ H' s' ∧ Vals vs us ∧ Q vs H'
def SP (X : Cx) (pins : List (Addr × Obj)) (D : Ends) (f : Flow) (s' : Shared) : Prop :=
  match f with
  | .next => ∃ σ' H', Inv X pins σ' H' s' ∧ D.nx σ' H'
  | .brk => ∃ σ' H', Inv X pins σ' H' s' ∧ D.bk σ' H'
  | .cont => ∃ σ' H', Inv X pins σ' H' s' ∧ D.ct σ' H'
  | .ret u => ∃ v σ' H', Inv X pins σ' H' s' ∧ RelV v u ∧ D.rt v H'
def PE (X : Cx) (e : Expr) (t : TE) : Prop :=
  ∀ (pins : List (Addr × Obj)) (s : Shared) (σ : St) (H : Hp) (Q : VK), Inv X pins σ H s → t σ H Q → wpAny (model X.prog X.w) X.A (eval e X.env) (EP X pins σ Q) X.xe s
def PT (X : Cx) (e : Expr) (t : TT) : Prop :=
  ∀ (pins : List (Addr × Obj)) (s : Shared) (σ : St) (H : Hp) (Q : Bool → Hp → Prop), Inv X pins σ H s → t σ H Q → wpAny (model X.prog X.w) X.A (isTrue e X.env (eval e X.env)) (TP X pins σ Q) X.xe s
def PW (X : Cx) (e : Expr) (t : TT) : Prop :=
  ∀ (whole : Sem Value) (pins : List (Addr × Obj)) (s : Shared) (σ : St) (H : Hp) (Q : Bool → Hp → Prop), Inv X pins σ H s → t σ H Q → wpAny (model X.prog X.w) X.A (isTrue e X.env whole) (TP X pins σ Q) X.xe s
theorem PW.pt {X : Cx} {e : Expr} {t : TT} (h : PW X e t) : PT X e t := h _
def PA (X : Cx) (es : List Expr) (t : TA) : Prop :=
  ∀ (pos : Pos) (pins : List (Addr × Obj)) (s : Shared) (σ : St) (H : Hp) (Q : List V → Hp → Prop), Inv X pins σ H s → t σ H Q → wpAny (model X.prog X.w) X.A (spliced (backTo pos (starEach es X.env))) (AP X pins σ Q) X.xe s
def PS (X : Cx) (st : Stmt) (t : TS) : Prop :=
  ∀ (pins : List (Addr × Obj)) (s : Shared) (σ : St) (H : Hp) (D : Ends), Inv X pins σ H s → t D σ H → wpAny (model X.prog X.w) X.A (exec st X.env) (SP X pins D) X.xe s
def PSs (X : Cx) (st : List Stmt) (t : TS) : Prop :=
  ∀ (pins : List (Addr × Obj)) (s : Shared) (σ : St) (H : Hp) (D : Ends), Inv X pins σ H s → t D σ H → wpAny (model X.prog X.w) X.A (execs st X.env) (SP X pins D) X.xe s
theorem thn {α : Type} {t : Sem α} {Q Q' : α → Shared → Prop} {M : Model} {A : Around} {E : Value → Shared → Prop} {s : Shared} (h : wpAny M A t Q E s) (hQ : ∀ a s, Q a s → Q' a s) : wpAny M A t Q' E s := wpAny_mono h hQ fun _ _ x => x
end L2
namespace L2
open PySem PySem.Spec PyProof.Rows
section
variable {X : Cx}
def tVar (i : Nat) : TE := fun σ H Q => ∃ v, σ[i]? = some (some v) ∧ Q v H
def tC (v : V) : TE := fun _ H Q => Q v H
theorem pe_var {i : Nat} {x : Str} {pos : Pos} (hN : X.N[i]? = some x) (hv : Vis X.env.scope x) (hd : (x == ("__debug__" : Str)) = false := by decide) (hcd : (x == ("__classdict__" : Str)) = false := by decide) : PE X (.Name x pos) (tVar i) := by
  intro pins s σ H Q I h
  obtain ⟨v, e, h⟩ := h
  obtain ⟨m, hn, hl⟩ := I.loc
  obtain ⟨u, r, l⟩ := hl i x v hN e hv
  have fin : EP X pins σ Q u s := ⟨v, H, I, r, h⟩
  rcases l with ⟨hk, hm⟩ | ⟨hk, c, hc, hcell⟩
  · exact wpAny_Name (wpAny_loadName_local I.ok.kind hk hn hm fin) hd
  · rcases hk with hk | hk
    · exact wpAny_Name (wpAny_loadName_cell I.ok.kind hk hc hcell fin) hd
    · exact wpAny_Name (wpAny_loadName_free I.ok.kind hk hc hcell fin hcd) hd
theorem pe_int {i j pos} : PE X (.Constant (.int i) j pos) (tC (.int i)) := fun _ _ _ H _ I h => wpAny_Constant_int ⟨.int i, H, I.tok _, ⟨_, rfl⟩, h⟩
theorem pe_bl {b j pos} : PE X (.Constant (.bool b) j pos) (tC (.bl b)) := fun _ _ _ H _ I h => Constant_bool ⟨.bl b, H, I, rfl, h⟩
theorem pe_non {j pos} : PE X (.Constant .none j pos) (tC .non) := fun _ _ _ H _ I h => Constant_none ⟨.non, H, I, rfl, h⟩
def Gl (X : Cx) (x : Str) : Prop := X.env.kindOf x = some .globalImplicit
theorem ld_glob {E : Value → Shared → Prop} {pins : List (Addr × Obj)} {s : Shared} {σ : St} {H : Hp} {x : Str} {u : Value} {pos : Pos} {Q : Value → Shared → Prop} (I : Inv X pins σ H s) (hg : Gl X x) (hm : X.mg x = some u) (h : Q u s)
    (hd : (x == ("__debug__" : Str)) = false := by decide) : wpAny (model X.prog X.w) X.A (eval (.Name x pos) X.env) Q E s :=
  Calls.Name_function_global I.ok.kind hg (Calls.loadGlobal_global (by rw [I.ok.glob]; exact I.mod.glob.keeps I.bk) hm h) hd
theorem ld_blt {E : Value → Shared → Prop} {pins : List (Addr × Obj)} {s : Shared} {σ : St} {H : Hp} {x : Str} {u : Value} {pos : Pos} {Q : Value → Shared → Prop} (I : Inv X pins σ H s) (hg : Gl X x) (hm : X.mg x = none) (hv : bootBuiltins x = some u) (h : Q u s)
    (hn : x ≠ "__name__" := by decide) (hd : (x == ("__debug__" : Str)) = false := by decide) : wpAny (model X.prog X.w) X.A (eval (.Name x pos) X.env) Q E s := by
  obtain ⟨mb, h1, h2⟩ := I.mod.blt
  exact Calls.Name_function_global I.ok.kind hg (Calls.loadGlobal_builtin (by rw [I.ok.glob]; exact I.mod.glob.keeps I.bk) hm (by rw [I.ok.blt]; exact h1.keeps I.bk) ((h2 x hn).trans hv) h) hd
theorem pe_glob {x : Str} {v : V} {u : Value} {pos : Pos} (hg : Gl X x) (hm : X.mg x = some u) (r : RelV v u) (hd : (x == ("__debug__" : Str)) = false := by decide) : PE X (.Name x pos) (tC v) :=
  fun _ _ _ H _ I h => ld_glob I hg hm ⟨v, H, I, r, h⟩ hd
theorem pe_bltn {x : Str} {v : V} {u : Value} {pos : Pos} (hg : Gl X x) (hm : X.mg x = none) (hv : bootBuiltins x = some u) (r : RelV v u) (hn : x ≠ "__name__" := by decide) (hd : (x == ("__debug__" : Str)) = false := by decide) : PE X (.Name x pos) (tC v) :=
  fun _ _ _ H _ I h => ld_blt I hg hm hv ⟨v, H, I, r, h⟩ hn hd
variable {a b : Expr} {ta tb : TE} {pos : Pos}
def tB (t : TE) : TT := fun σ H Q => t σ H fun x H1 => ∃ c, x = .bl c ∧ Q c H1
theorem pt_val {e : Expr} {t : TE} (h : PE X e t) (he : ∀ whole, isTrue e X.env whole = (do let v ← whole; standAt e.pos; holding [v] (truthy v)) := by intro _; rfl) : PT X e (tB t) := by
  intro pins s σ H Q I hw
  refine isTrue_plain (thn (h pins s σ H _ I hw) fun v s1 ⟨x, H1, I1, r1, q1⟩ => ?_) (he _)
  obtain ⟨d, rfl, q⟩ := q1
  cases r1
  exact wpAny_truthy_bool ⟨H1, I1, q⟩
variable {tA tB' : TT} {rest : List Expr}
def tAnd (t u : TT) : TT := fun σ H Q => t σ H fun c H1 => if c = true then u σ H1 Q else Q false H1
def tOr (t u : TT) : TT := fun σ H Q => t σ H fun c H1 => if c = true then Q true H1 else u σ H1 Q
def tNot (t : TT) : TT := fun σ H Q => t σ H fun c H1 => Q (!c) H1
theorem pw_and1 (ha : PT X a tA) : PW X (.BoolOp .And [a] pos) tA := by
  intro wh pins s σ H Q I h
  refine isTrue_and (thn (ha pins s σ H Q I h) fun c s1 e => ?_)
  cases c with
  | true => exact isTrue_and_nil e
  | false => exact e
theorem pw_or1 (ha : PT X a tA) : PW X (.BoolOp .Or [a] pos) tA := by
  intro wh pins s σ H Q I h
  refine isTrue_or (thn (ha pins s σ H Q I h) fun c s1 e => ?_)
  cases c with
  | false => exact isTrue_or_nil e
  | true => exact e
theorem pw_and (ha : PT X a tA) (hb : PW X (.BoolOp .And (b :: rest) pos) tB') : PW X (.BoolOp .And (a :: b :: rest) pos) (tAnd tA tB') := by
  intro wh pins s σ H Q I h
  refine isTrue_and (thn (ha pins s σ H _ I h) fun c s1 ⟨H1, I1, q1⟩ => ?_)
  cases c with
  | true => exact hb wh pins s1 σ H1 Q I1 q1
  | false => exact ⟨H1, I1, q1⟩
theorem pw_or (ha : PT X a tA) (hb : PW X (.BoolOp .Or (b :: rest) pos) tB') : PW X (.BoolOp .Or (a :: b :: rest) pos) (tOr tA tB') := by
  intro wh pins s σ H Q I h
  refine isTrue_or (thn (ha pins s σ H _ I h) fun c s1 ⟨H1, I1, q1⟩ => ?_)
  cases c with
  | true => exact ⟨H1, I1, q1⟩
  | false => exact hb wh pins s1 σ H1 Q I1 q1
theorem pt_not (ha : PT X a tA) : PT X (.UnaryOp .Not a pos) (tNot tA) := by
  intro pins s σ H Q I h
  exact isTrue_not (ha pins s σ H (fun c H1 => Q (!c) H1) I h)
def tAndV (ta tb : TE) : TE := fun σ H Q => ta σ H fun x H1 => ∃ c, x = .bl c ∧ if c = true then tb σ H1 Q else Q (.bl false) H1
def tNotV (ta : TE) : TE := fun σ H Q => ta σ H fun x H1 => ∃ c, x = .bl c ∧ Q (.bl (!c)) H1
theorem pe_one {op} {t : TE} (h : PE X a t) : PE X (.BoolOp op [a] pos) t := fun pins s σ H Q I hw => BoolOp_one (h pins s σ H Q I hw)
theorem pe_and (ha : PE X a ta) (hb : PE X (.BoolOp .And (b :: rest) pos) tb) : PE X (.BoolOp .And (a :: b :: rest) pos) (tAndV ta tb) := by
  intro pins s σ H Q I h
  refine BoolOp_and (thn (ha pins s σ H _ I h) fun v s1 ⟨x, H1, I1, r1, q1⟩ => ?_)
  obtain ⟨c, rfl, q1⟩ := q1
  cases r1
  refine wpAny_truthy_bool ?_
  cases c with
  | true => exact hb pins s1 σ H1 Q I1 q1
  | false => exact ⟨.bl false, H1, I1, rfl, q1⟩
theorem pe_not (ha : PE X a ta) : PE X (.UnaryOp .Not a pos) (tNotV ta) := by
  intro pins s σ H Q I h
  refine UnaryOp_ (thn (ha pins s σ H _ I h) fun v s1 ⟨x, H1, I1, r1, q1⟩ => ?_)
  obtain ⟨c, rfl, q1⟩ := q1
  cases r1
  exact not_of (wpAny_truthy_bool ⟨.bl (!c), H1, I1, rfl, q1⟩)
end
end L2
namespace L2
open PySem PySem.Spec PyProof.Rows
def SqL (K : PySem.W.Frag) (H : Hp) (a : Addr) (xs : List V) : Prop :=
  Rd H a (.lst xs) ∨
    ∃ (o : Obj) (its : Array Value) (n : Nat), K.lookup a = some o ∧ o.cls = .type "list" ∧ o.dict = none ∧ o.data = .seq its n ∧ its.size ≤ sizeLine ∧ Vals xs its.toList
def SqT (K : PySem.W.Frag) (H : Hp) (a : Addr) (xs : List V) : Prop :=
  Rd H a (.tup xs) ∨
    ∃ (o : Obj) (its : Array Value) (n : Nat), K.lookup a = some o ∧ o.cls = .type "tuple" ∧ o.data = .seq its n ∧ its.size ≤ sizeLine ∧ Vals xs its.toList
def absV : Value → Option V
  | .none => some .non
  | .bool b => some (.bl b)
  | .int i _ => some (.int i)
  | .str x _ => some (.str x)
  | .bytes b _ => some (.byt b)
  | .float b _ => some (.flt b)
  | .ref a => some (.ref a)
  | .type n => some (.ty n)
  | _ => none
theorem RelV.abs {x : V} {u : Value} (r : RelV x u) : absV u = some x := by
  cases x with
  | non => cases r; rfl
  | bl _ => cases r; rfl
  | int _ => obtain ⟨t, rfl⟩ := r; rfl
  | str _ => obtain ⟨t, rfl⟩ := r; rfl
  | byt _ => obtain ⟨t, rfl⟩ := r; rfl
  | flt _ => obtain ⟨t, rfl⟩ := r; rfl
  | ref _ => cases r; rfl
  | ty _ => cases r; rfl
theorem RelV.inj {x y : V} {u : Value} (r : RelV x u) (q : RelV y u) : x = y := Option.some.inj (r.abs.symm.trans q.abs)
theorem Vals.inj : ∀ {xs ys : List V} {us : List Value}, Vals xs us → Vals ys us → xs = ys
  | _, _, _, .nil, .nil => rfl
  | _, _, _, .cons r t, .cons r' t' => by rw [r.inj r', Vals.inj t t']
section
variable {X : Cx} {pins : List (Addr × Obj)} {σ : St} {H : Hp} {s : Shared} {a : Addr} {xs ys : List V}
theorem SqL.of {K : PySem.W.Frag} (h : H a = some (.lst xs)) : SqL K H a xs := .inl (.inl h)
theorem SqT.of {K : PySem.W.Frag} (h : H a = some (.tup xs)) : SqT K H a xs := .inl (.inl h)
theorem Inv.list (I : Inv X pins σ H s) (h : SqL X.K H a xs) : ∃ its : List Value, Vals xs its ∧ PlainL s.heap a its.toArray ∧ xs.length ≤ sizeLine := by
  rcases h with h | ⟨o, its, n, hk, hc, hd, hs, hz, r⟩
  · obtain ⟨z, its, n, r, e⟩ := h.ok I.hok
    exact ⟨its, r, ⟨_, n, e, rfl, rfl, rfl⟩, z⟩
  · refine ⟨its.toList, r, ⟨o, n, I.kIn a o hk, hc, hd, by simpa using hs⟩, ?_⟩
    have e := r.length
    simp only [Array.length_toList] at e
    omega
theorem Inv.tuple (I : Inv X pins σ H s) (h : SqT X.K H a xs) : ∃ its : List Value, Vals xs its ∧ IsTup s.heap a its.toArray ∧ xs.length ≤ sizeLine := by
  rcases h with h | ⟨o, its, n, hk, hc, hs, hz, r⟩
  · obtain ⟨z, its, r, p⟩ := h.ok I.hok
    exact ⟨its, r, p, z⟩
  · refine ⟨its.toList, r, ⟨o, I.kIn a o hk, hc, n, by simpa using hs⟩, ?_⟩
    have e := r.length
    simp only [Array.length_toList] at e
    omega
theorem Inv.list_inj (I : Inv X pins σ H s) (h : SqL X.K H a xs) (h' : SqL X.K H a ys) : xs = ys := by
  obtain ⟨its, r, ⟨o, n, e, _, _, d⟩, _⟩ := I.list h
  obtain ⟨its', r', ⟨o', n', e', _, _, d'⟩, _⟩ := I.list h'
  rw [e] at e'; cases e'
  rw [d] at d'
  injection d' with d1 _
  have : its = its' := by simpa using congrArg Array.toList d1
  subst this
  exact r.inj r'
theorem Inv.tuple_inj (I : Inv X pins σ H s) (h : SqT X.K H a xs) (h' : SqT X.K H a ys) : xs = ys := by
  obtain ⟨its, r, ⟨o, e, _, n, d⟩, _⟩ := I.tuple h
  obtain ⟨its', r', ⟨o', e', _, n', d'⟩, _⟩ := I.tuple h'
  rw [e] at e'; cases e'
  rw [d] at d'
  injection d' with d1 _
  have : its = its' := by simpa using congrArg Array.toList d1
  subst this
  exact r.inj r'
end
abbrev Cx.wish (X : Cx) (E : Value → Shared → Prop) : Cx := { X with xe := E }
abbrev Cx.nox (X : Cx) : Cx := X.wish fun _ _ => False
theorem Cx.Ok.wish {X : Cx} (ok : X.Ok) (E : Value → Shared → Prop) : (X.wish E).Ok :=
  ⟨ok.mod, ok.kind, ok.glob, ok.blt, ok.above, ok.inj, ok.has, ok.cab, ok.hd, ok.frames, ok.stk, ok.exf, ok.bs, ok.bsz, ok.noex, ok.exfs, ok.funs, ok.frf⟩
theorem Cx.Ok.unwish {X : Cx} {E : Value → Shared → Prop} (ok : (X.wish E).Ok) : X.Ok :=
  ⟨ok.mod, ok.kind, ok.glob, ok.blt, ok.above, ok.inj, ok.has, ok.cab, ok.hd, ok.frames, ok.stk, ok.exf, ok.bs, ok.bsz, ok.noex, ok.exfs, ok.funs, ok.frf⟩
section
variable {X : Cx} {pins : List (Addr × Obj)} {σ : St} {H : Hp} {s : Shared} {E : Value → Shared → Prop}
theorem Inv.wish (I : Inv X pins σ H s) (E : Value → Shared → Prop) : Inv (X.wish E) pins σ H s := ⟨I.ok.wish E, I.os, I.bare, I.base, I.loc, I.cell, I.free, I.freeC, I.pin, I.hok, I.len⟩
theorem Inv.unwish (I : Inv (X.wish E) pins σ H s) : Inv X pins σ H s := ⟨I.ok.unwish, I.os, I.bare, I.base, I.loc, I.cell, I.free, I.freeC, I.pin, I.hok, I.len⟩
theorem SP.unwish {D : Ends} {f : Flow} {s' : Shared} (h : SP (X.wish E) pins D f s') : SP X pins D f s' := by
  cases f with
  | next => obtain ⟨σ', H', I, q⟩ := h; exact ⟨σ', H', I.unwish, q⟩
  | brk => obtain ⟨σ', H', I, q⟩ := h; exact ⟨σ', H', I.unwish, q⟩
  | cont => obtain ⟨σ', H', I, q⟩ := h; exact ⟨σ', H', I.unwish, q⟩
  | ret u => obtain ⟨v, σ', H', I, r, q⟩ := h; exact ⟨v, σ', H', I.unwish, r, q⟩
theorem PSs.nox {st : List Stmt} {t : TS} (h : PSs X.nox st t) : PSs X st t := fun pins s σ H D I hw =>
  wpAny_mono (h pins s σ H D (I.wish _) hw) (fun _ _ q => q.unwish) fun _ _ z => False.elim z
end
section
variable {X : Cx} {st : Stmt} {rest : List Stmt} {t u : TS} {e : Expr} {te : TE} {pos : Pos}
def tNext : TS := fun D σ H => D.nx σ H
def tSeq (t u : TS) : TS := fun D σ H => t { D with nx := u D } σ H
theorem pss_nil : PSs X [] tNext := fun _ _ σ H _ I h => wpAny_execs_nil ⟨σ, H, I, h⟩
theorem pss_cons (h1 : PS X st t) (h2 : PSs X rest u) : PSs X (st :: rest) (tSeq t u) := by
  intro pins s σ H D I h
  refine wpAny_execs_cons (thn (h1 pins s σ H { D with nx := u D } I h) fun f s1 q => ?_)
  cases f with
  | next =>
    obtain ⟨σ', H', I', q⟩ := q
    exact h2 pins s1 σ' H' D I' q
  | ret v => exact q
  | brk => exact q
  | cont => exact q
theorem pss_one (h1 : PS X st t) : PSs X [st] t := by
  intro pins s σ H D I h
  refine wpAny_execs_cons (thn (h1 pins s σ H D I h) fun f s1 q => ?_)
  cases f with
  | next => exact wpAny_execs_nil q
  | ret v => exact q
  | brk => exact q
  | cont => exact q
theorem Inv.quiet {pins : List (Addr × Obj)} {σ : St} {H : Hp} {s : Shared} (I : Inv X pins σ H s) : interactive X.env = false := by simp [interactive, I.ok.kind]
def tDrop (te : TE) : TS := fun D σ H => te σ H fun _ H1 => D.nx σ H1
theorem ps_expr (he : PE X e te) (hs : swapsWith e none pos.line X.env = pure false := by rfl) : PS X (.Expr e pos) (tDrop te) := by
  intro pins s σ H D I h
  exact wpAny_Expr_any (thn (he pins s σ H _ I h) fun v s1 ⟨x, H1, I1, r1, q1⟩ => ⟨σ, H1, I1, q1⟩) I.quiet hs
def tRet (te : TE) : TS := fun D σ H => te σ H D.rt
theorem ps_ret (he : PE X e te) : PS X (.Return (some e) pos) (tRet te) := by
  intro pins s σ H D I h
  exact wpAny_Return_some (thn (he pins s σ H _ I h) fun v s1 ⟨x, H1, I1, r1, q1⟩ => ⟨x, σ, H1, I1, r1, q1⟩)
def tIfS (c : TT) (t u : TS) : TS := fun D σ H => c σ H fun b H1 => if b = true then t D σ H1 else u D σ H1
theorem ps_if {c : Expr} {a b : List Stmt} {tc : TT} (hc : PT X c tc) (ha : PSs X a t) (hb : PSs X b u) : PS X (.If c a b pos) (tIfS tc t u) := by
  intro pins s σ H D I h
  refine wpAny_If (thn (hc pins s σ H _ I h) fun d s1 ⟨H1, I1, q1⟩ => ?_)
  cases d with
  | true => exact ha pins s1 σ H1 D I1 q1
  | false => exact hb pins s1 σ H1 D I1 q1
end
abbrev TG := V → St → Hp → (St → Hp → Prop) → Prop
abbrev TGs := List V → St → Hp → (St → Hp → Prop) → Prop
def PG (X : Cx) (target : Expr) (t : TG) : Prop :=
  ∀ (pins : List (Addr × Obj)) (s : Shared) (σ : St) (H : Hp) (v : V) (u : Value) (Q : St → Hp → Prop), Inv X pins σ H s → RelV v u → t v σ H Q →
    wpAny (model X.prog X.w) X.A (assign target X.env u) (fun _ s' => ∃ σ' H', Inv X pins σ' H' s' ∧ Q σ' H') X.xe s
def PGs (X : Cx) (ts : List Expr) (t : TGs) : Prop :=
  ∀ (pins : List (Addr × Obj)) (s : Shared) (σ : St) (H : Hp) (vs : List V) (us : List Value) (Q : St → Hp → Prop), Inv X pins σ H s → Vals vs us → t vs σ H Q →
    wpAny (model X.prog X.w) X.A (assignInOrder ((assignEach ts X.env).map (·.2)) us) (fun _ s' => ∃ σ' H', Inv X pins σ' H' s' ∧ Q σ' H') X.xe s
section
variable {X : Cx} {pos : Pos}
def gName (i : Nat) : TG := fun v σ H Q => Q (σ.set i (some v)) H
theorem pg_name {i : Nat} {x : Str} (hN : X.N.Nodup) (hi : X.N[i]? = some x) (hx : Loc X.env.scope x) (hf : X.fn x = true ∨ X.env.scope.names.lookup x = some .local := by first | exact .inl rfl | exact .inr rfl | assumption) : PG X (.Name x pos) (gName i) := by
  intro pins s σ H v u Q I r h
  exact wpAny_assign_Name (store_ok I hN hi hx r (fun s' I' => ⟨_, H, I', h⟩) hf)
def gNil : TGs := fun vs σ H Q => vs = [] ∧ Q σ H
def gCons (t : TG) (u : TGs) : TGs := fun vs σ H Q => ∃ v r, vs = v :: r ∧ t v σ H fun σ' H' => u r σ' H' Q
theorem pgs_nil : PGs X [] gNil := by
  intro pins s σ H vs us Q I r h
  obtain ⟨e, h⟩ := h
  subst e
  cases r
  exact assignInOrder_nil ⟨σ, H, I, h⟩
theorem pgs_cons {e : Expr} {es : List Expr} {t : TG} {u : TGs} (h1 : PG X e t) (h2 : PGs X es u)
    (hs : (assignEach (e :: es) X.env).map (·.2) = assign e X.env :: (assignEach es X.env).map (·.2) := by rfl) : PGs X (e :: es) (gCons t u) := by
  intro pins s σ H vs us Q I r h
  obtain ⟨v, vr, e1, h⟩ := h
  subst e1
  cases r with
  | cons r rr =>
    rw [hs]
    refine assignInOrder_cons (thn (h1 pins s σ H _ _ _ I r h) fun _ s1 ⟨σ1, H1, I1, q1⟩ => ?_)
    exact h2 pins s1 σ1 H1 _ _ Q I1 rr q1
def gTup (K : PySem.W.Frag) (n : Nat) (t : TGs) : TG := fun v σ H Q => ∃ a xs, v = .ref a ∧ SqT K H a xs ∧ xs.length = n ∧ t xs σ H Q
theorem pg_tup {es : List Expr} {k : Nat} {t : TGs} {n : Nat} (hc : X.calm = true) (h : PGs X es t)
    (hn : (assignEach es X.env).length = n := by rfl) (hst : (assignEach es X.env).findIdx? (·.1) = none := by rfl) : PG X (.Tuple es k pos) (gTup X.K n t) := by
  intro pins s σ H v u Q I r hw
  obtain ⟨a, xs, e1, hq, hl, hw⟩ := hw
  subst e1
  cases r
  obtain ⟨its, rv, ht, hz⟩ := I.tuple hq
  refine assign_Tuple_tuple (I.ok.hd hc) ht (by simp [hn, ← hl, rv.length]) hst fun h' hx => ?_
  have I1 : Inv X pins σ H { s with heap := h' } := I.kept (t' := s.toks) fun b o e => hx b o (Nat.ne_of_lt (Heap.lt_size e)) e
  exact h pins _ σ H xs _ Q I1 (by simpa using rv) hw
def tAsg (te : TE) (g : TG) : TS := fun D σ H => te σ H fun x H1 => g x σ H1 D.nx
theorem ps_set {i : Nat} {x : Str} {e : Expr} {te : TE} {pos' : Pos} (hN : X.N.Nodup) (hi : X.N[i]? = some x) (hx : Loc X.env.scope x) (he : PE X e te) (hs : swapsWith e (some (.Name x pos')) pos.line X.env = pure false := by rfl) (hf : X.fn x = true ∨ X.env.scope.names.lookup x = some .local := by first | exact .inl rfl | exact .inr rfl | assumption) :
    PS X (.Assign [.Name x pos'] e pos) (tAsg te (gName i)) := by
  intro pins s σ H D I h
  refine wpAny_Assign_Name (thn (he pins s σ H _ I h) fun v s1 ⟨y, H1, I1, r1, q1⟩ => ?_) hs
  exact store_ok I1 hN hi hx r1 (fun s2 I2 => ⟨_, H1, I2, q1⟩) hf
end
section
variable {X : Cx} {pos : Pos}
def tWhile (c : TT) (tb : TS) : TS := fun D σ H => ∃ W : Nat → St → Hp → Prop, (∃ m, W m σ H) ∧ ∀ m σ H, W m σ H →
  c σ H fun b H1 => if b = true then ∃ N : St → Hp → Prop, (∀ σ' H', N σ' H' → ∃ m', m' < m ∧ W m' σ' H') ∧ tb { D with nx := N, ct := N, bk := D.nx } σ H1 else D.nx σ H1
theorem ps_while {c : Expr} {body : List Stmt} {tc : TT} {tb : TS} (hp : PassesOwn (model X.prog X.w) X.A X.env X.xe) (hc : PT X c tc) (hb : PSs X body tb) : PS X (.While c body [] pos) (tWhile tc tb) := by
  intro pins s σ H D I h
  obtain ⟨W, ⟨m0, w0⟩, turn⟩ := h
  refine wpAny_While (codeAny_whileLoop (fun n s' => ∃ σ' H', Inv X pins σ' H' s' ∧ W n σ' H') ?_ m0 ⟨σ, H, I, w0⟩)
  rintro n s1 ⟨σ1, H1, I1, w1⟩
  refine wpAny_passesOwn hp (thn (hc pins s1 σ1 H1 _ I1 (turn n σ1 H1 w1)) fun b s2 ⟨H2, I2, q2⟩ => ?_)
  cases b with
  | true =>
    obtain ⟨N, hN, q2⟩ := q2
    rw [if_pos rfl]
    refine wpAny_passesOwn hp (thn (hb pins s2 σ1 H2 _ I2 q2) fun f s3 q3 => ?_)
    cases f with
    | next =>
      obtain ⟨σ3, H3, I3, n3⟩ := q3
      obtain ⟨m', hm, w3⟩ := hN σ3 H3 n3
      exact ⟨m', hm, σ3, H3, I3, w3⟩
    | cont =>
      obtain ⟨σ3, H3, I3, n3⟩ := q3
      obtain ⟨m', hm, w3⟩ := hN σ3 H3 n3
      exact ⟨m', hm, σ3, H3, I3, w3⟩
    | brk => exact q3
    | ret v => exact q3
  | false =>
    rw [if_neg Bool.false_ne_true]
    exact wpAny_execs_nil ⟨σ1, H2, I2, q2⟩
end
structure It where
  go : Nat → Hp → Prop
  yld : Nat → Hp → V → Hp → Prop
  stop : Nat → Hp → Prop
def FpOk (X : Cx) (pins : List (Addr × Obj)) (H : Hp) (b : Addr) : Prop :=
  H b = none ∧ b ≠ X.env.locals ∧ b ∉ X.fs ∧ (b ∈ X.ex ∨ X.s₀.heap.objs.size ≤ b) ∧ (∀ x c, X.env.cells.lookup x = some c → c ≠ b) ∧ ∀ p ∈ X.pn ++ pins, p.1 ≠ b
theorem Inv.fpOk {X : Cx} {pins : List (Addr × Obj)} {σ : St} {H H' : Hp} {s : Shared} {b : Addr} (I : Inv X pins σ H s) (hb : s.heap.objs.size ≤ b) (hn : H' b = none) : FpOk X pins H' b := by
  refine ⟨hn, Nat.ne_of_gt (Nat.lt_of_lt_of_le I.lt hb), I.nofs hb, .inr (Nat.le_trans I.sz hb), fun x c e z => ?_, fun p hp z => ?_⟩
  · obtain ⟨v, q⟩ := I.cell x c e
    exact absurd (Nat.lt_of_lt_of_le q.lt (by rw [z]; exact hb)) (Nat.lt_irrefl _)
  · exact absurd (Nat.lt_of_lt_of_le (Heap.lt_size (I.pin p hp).1) (by rw [z]; exact hb)) (Nat.lt_irrefl _)
structure Turn (P : Program) (w : World) (K : PySem.W.Frag) (tg : Expr) (J : It) (fp : List Addr) (it : Addr) (tn : Nat → Heap → Prop) : Prop where
  mem : it ∈ fp
  obj : ∀ i h, tn i h → ∀ b ∈ fp, ∃ o, h.get? b = some o ∧ ∀ v, o.data ≠ .cell v
  keep : ∀ i h h', tn i h → (∀ b ∈ fp, ∀ o, h.get? b = some o → h'.get? b = some o) → tn i h'
  item : ∀ (X : Cx), X.prog = P → X.w = w → X.K = K → X.calm = true → ∀ (i : Nat) (pins : List (Addr × Obj)) (s : Shared) (σ : St) (H : Hp) (E : Value → Shared → Prop), Inv X pins σ H s → (∀ b ∈ fp, FpOk X pins H b) → tn i s.heap → J.go i H →
    wpAny (model P w) X.A (pyNext (.ref it)) (fun r s1 => ∃ u, r = some u ∧
      wpAny (model P w) X.A (letOwnedTupleGo tg (.ref it) u) (fun _ s2 => ∃ x H', Inv X pins σ H' s2 ∧ RelV x u ∧ J.yld i H x H' ∧ tn (i + 1) s2.heap ∧ ∀ b ∈ fp, H' b = none) E s1) E s
  done : ∀ (X : Cx), X.prog = P → X.w = w → X.K = K → X.calm = true → ∀ (i : Nat) (pins : List (Addr × Obj)) (s : Shared) (σ : St) (H : Hp) (E : Value → Shared → Prop), Inv X pins σ H s → (∀ b ∈ fp, FpOk X pins H b) → tn i s.heap → J.stop i H →
    wpAny (model P w) X.A (pyNext (.ref it)) (fun r s1 => r = none ∧ Inv X pins σ H s1) E s
  self : ∀ (A : Around) (i : Nat) (s : Shared) (Q : Value → Shared → Prop) (E : Value → Shared → Prop), tn i s.heap → Q (.ref it) s → wpAny (model P w) A (pyIter (.ref it)) Q E s
abbrev TI := St → Hp → (It → Hp → Prop) → Prop
def PIE (X : Cx) (pins : List (Addr × Obj)) (σ : St) (tg : Expr) (R : It → Hp → Prop) (itv : Value) (s2 : Shared) : Prop :=
  ∃ (it : Addr) (fp : List Addr) (tn : Nat → Heap → Prop) (J : It) (H' : Hp), itv = .ref it ∧ Inv X pins σ H' s2 ∧ Turn X.prog X.w X.K tg J fp it tn ∧ tn 0 s2.heap ∧ (∀ b ∈ fp, FpOk X pins H' b) ∧ R J H'
def PI (X : Cx) (tg iter : Expr) (wi : TI) : Prop :=
  ∀ (pins : List (Addr × Obj)) (s : Shared) (σ : St) (H : Hp) (R : It → Hp → Prop), Inv X pins σ H s → wi σ H R →
    wpAny (model X.prog X.w) X.A (eval iter X.env) (fun v s1 => wpAny (model X.prog X.w) X.A (pyIter v) (PIE X pins σ tg R) X.xe s1) X.xe s
theorem go_of {M : Model} {A : Around} {E : Value → Shared → Prop} {s : Shared} {tg : Expr} {it : Addr} {u : Value} {o : Obj} {n : String} {vs : Array Value} {Q : Unit → Shared → Prop} (ho : s.heap.get? it = some o) (hc : o.cls = .type n) (hd : o.data = .fields vs)
    (hn : ["enumerate", "zip", "dict_itemiterator", "dict_reverseitemiterator", "odict_iterator", "itertools.zip_longest", "itertools.pairwise"].contains n = false) (hQ : Q () s) : wpAny M A (letOwnedTupleGo tg (.ref it) u) Q E s := by
  unfold letOwnedTupleGo
  cases tg <;> first
    | exact wpAny_pure hQ
    | (cases u <;> first
        | exact wpAny_pure hQ
        | (refine wpAny_bind (wpAny_load ho ?_)
           rw [hc, hd]
           show wpAny M A (if (["enumerate", "zip", "dict_itemiterator", "dict_reverseitemiterator", "odict_iterator", "itertools.zip_longest", "itertools.pairwise"].contains n && vs[0]? == some (rawInt _)) = true then _ else _) Q E s
           rw [if_neg (by intro h; rw [hn, Bool.false_and] at h; cases h)]
           exact wpAny_pure hQ))
def Itl (K : PySem.W.Frag) (a : Addr) : It :=
  ⟨fun i H => ∃ xs x, SqL K H a xs ∧ xs[i]? = some x, fun i H x H' => H' = H ∧ ∀ xs, SqL K H a xs → xs[i]? = some x, fun i H => ∃ xs, SqL K H a xs ∧ xs.length ≤ i⟩
def Itt (K : PySem.W.Frag) (a : Addr) : It :=
  ⟨fun i H => ∃ xs x, SqT K H a xs ∧ xs[i]? = some x, fun i H x H' => H' = H ∧ ∀ xs, SqT K H a xs → xs[i]? = some x, fun i H => ∃ xs, SqT K H a xs ∧ xs.length ≤ i⟩
def Itr (lo : Int) (n : Nat) : It := ⟨fun i _ => i < n, fun i H x H' => H' = H ∧ x = .int (lo + i), fun i _ => n ≤ i⟩
theorem turn_list {P : Program} {w : World} {K : PySem.W.Frag} {tg : Expr} (a it : Addr) : Turn P w K tg (Itl K a) [it] it (fun i h => h.IsListIter it a i) where
  mem := by simp
  obj := fun i h st b hb => by
    have e : b = it := by simpa using hb
    subst e
    obtain ⟨o, e, c, d⟩ := st
    exact ⟨o, e, fun v z => by rw [d] at z; cases z⟩
  keep := fun i h h' st k => st.at fun o e => k it (by simp) o e
  item := by
    intro X hP hw hK hc i pins s σ H E I hf st hg
    subst hP hw hK
    obtain ⟨xs, x, hq, hx⟩ := hg
    obtain ⟨its, rv, p, hz⟩ := I.list hq
    obtain ⟨u, hu, ru⟩ := rv.get hx
    obtain ⟨f0, f1, f2, f3, f4, f5⟩ := hf it (by simp)
    refine wpAny_pyNext_list_item st p.isList (x := u) (by simpa using hu) fun h' st' sb => ?_
    have I1 : Inv X pins σ H { s with heap := h' } := I.turned (t' := s.toks) (fun b o hb e => (sb.2 b hb).trans e) f0 f1 f3 f4 f5
    obtain ⟨o, e, c, d⟩ := id st'
    exact ⟨u, rfl, go_of (s := { s with heap := h' }) e c d (by decide) ⟨x, H, I1, ru, ⟨rfl, fun ys hy => by rw [I.list_inj hy hq]; exact hx⟩, st', fun b hb => (hf b hb).1⟩⟩
  done := by
    intro X hP hw hK hc i pins s σ H E I hf st hg
    subst hP hw hK
    obtain ⟨xs, hq, hx⟩ := hg
    obtain ⟨its, rv, p, hz⟩ := I.list hq
    obtain ⟨f0, f1, f2, f3, f4, f5⟩ := hf it (by simp)
    have hl := rv.length
    exact wpAny_pyNext_list_end (I.ok.hd hc) st p.isList (by simp; omega) fun h' eb => ⟨rfl, I.turned (t' := s.toks) (fun b o hb e => eb b o hb e) f0 f1 f3 f4 f5⟩
  self := fun _ _ _ _ _ st h => wpAny_pyIter_listiter st h
theorem turn_tuple {P : Program} {w : World} {K : PySem.W.Frag} {tg : Expr} (a it : Addr) : Turn P w K tg (Itt K a) [it] it (fun i h => h.IsTupleIter it a i) where
  mem := by simp
  obj := fun i h st b hb => by
    have e : b = it := by simpa using hb
    subst e
    obtain ⟨o, e, c, d⟩ := st
    exact ⟨o, e, fun v z => by rw [d] at z; cases z⟩
  keep := fun i h h' st k => st.at fun o e => k it (by simp) o e
  item := by
    intro X hP hw hK hc i pins s σ H E I hf st hg
    subst hP hw hK
    obtain ⟨xs, x, hq, hx⟩ := hg
    obtain ⟨its, rv, p, hz⟩ := I.tuple hq
    obtain ⟨u, hu, ru⟩ := rv.get hx
    obtain ⟨f0, f1, f2, f3, f4, f5⟩ := hf it (by simp)
    refine wpAny_pyNext_tuple_item st (show s.heap.IsTuple a its.toArray from p) (x := u) (by simpa using hu) fun h' st' sb => ?_
    have I1 : Inv X pins σ H { s with heap := h' } := I.turned (t' := s.toks) (fun b o hb e => (sb.2 b hb).trans e) f0 f1 f3 f4 f5
    obtain ⟨o, e, c, d⟩ := id st'
    exact ⟨u, rfl, go_of (s := { s with heap := h' }) e c d (by decide) ⟨x, H, I1, ru, ⟨rfl, fun ys hy => by rw [I.tuple_inj hy hq]; exact hx⟩, st', fun b hb => (hf b hb).1⟩⟩
  done := by
    intro X hP hw hK hc i pins s σ H E I hf st hg
    subst hP hw hK
    obtain ⟨xs, hq, hx⟩ := hg
    obtain ⟨its, rv, p, hz⟩ := I.tuple hq
    obtain ⟨f0, f1, f2, f3, f4, f5⟩ := hf it (by simp)
    have hl := rv.length
    exact wpAny_pyNext_tuple_end (I.ok.hd hc) st (show s.heap.IsTuple a its.toArray from p) (by simp; omega) fun h' eb => ⟨rfl, I.turned (t' := s.toks) (fun b o hb e => eb b o hb e) f0 f1 f3 f4 f5⟩
  self := fun _ _ _ _ _ st h => wpAny_pyIter_tupleiter st h
theorem turn_range {P : Program} {w : World} {K : PySem.W.Frag} {tg : Expr} (it : Addr) (lo : Int) (n : Nat) : Turn P w K tg (Itr lo n) [it] it (fun i h => IsRangeIter h it (lo + (i : Nat) * 1) ((n : Int) - (i : Nat)) 1) where
  mem := by simp
  obj := fun i h st b hb => by
    have e : b = it := by simpa using hb
    subst e
    exact ⟨_, st, fun v z => by
      have z' : Data.fields _ = Data.cell v := z
      cases z'⟩
  keep := fun i h h' st k => k it (by simp) _ st
  item := by
    intro X hP hw hK hc i pins s σ H E I hf st hg
    subst hP hw hK
    obtain ⟨f0, f1, f2, f3, f4, f5⟩ := hf it (by simp)
    have W := Walks.range (prog := X.prog) (w := X.w) (I.ok.hd hc) it lo 1 n
    refine W.item i s _ _ hg st fun v h' tk hv st' kk => ?_
    obtain ⟨t, rfl⟩ := hv
    have I1 : Inv X pins σ H { s with heap := h', toks := tk } := I.turned (fun b o hb e => kk b o (by simpa using hb) e) f0 f1 f3 f4 f5
    refine ⟨_, rfl, go_of (s := { s with heap := h', toks := tk }) (n := "range_iterator") st' rfl rfl (by decide) ⟨.int (lo + i), H, I1, ⟨t, ?_⟩, ⟨rfl, rfl⟩, st', fun b hb => (hf b hb).1⟩⟩
    rw [Int.mul_one]
  done := by
    intro X hP hw hK hc i pins s σ H E I hf st hg
    subst hP hw hK
    obtain ⟨f0, f1, f2, f3, f4, f5⟩ := hf it (by simp)
    exact wpAny_pyNext_range_end (I.ok.hd hc) st (by have : n ≤ i := hg; omega) fun h' eb => ⟨rfl, I.turned (t' := s.toks) (fun b o hb e => eb b o hb e) f0 f1 f3 f4 f5⟩
  self := fun _ _ _ _ _ st h => wpAny_pyIter_rangeiter st h
end L2
namespace L2
open PySem PySem.Spec PyProof.Rows
section
variable {X : Cx} {tg : Expr}
theorem range_it {pins : List (Addr × Obj)} {σ : St} {H : Hp} {s : Shared} {R : It → Hp → Prop} {E : Value → Shared → Prop} {lo hi : Int} {t u v : Tok} {tk : Nat} (I : Inv X pins σ H s) (h1 : -(2 ^ 62) ≤ lo) (h2 : lo < 2 ^ 62) (h3 : -(2 ^ 62) ≤ hi) (h4 : hi < 2 ^ 62)
    (q : R (Itr lo (hi - lo).toNat) H) : wpAny (model X.prog X.w) X.A (pyIter (.ref s.heap.objs.size)) (PIE X pins σ tg R) E { s with heap := s.heap.push { cls := .type "range", data := .fields #[.int lo t, .int hi u, .int 1 v] }, toks := tk } := by
  refine wpAny_pyIter_range (IsRange.new ..) (small_one h1 h2 h3 h4) ?_
  have I1 : Inv X pins σ H { s with heap := s.heap.push { cls := .type "range", data := .fields #[.int lo t, .int hi u, .int 1 v] }, toks := tk } := I.kept fun b o e => Heap.get?_push_of_some _ e
  refine ⟨(s.heap.push { cls := .type "range", data := .fields #[.int lo t, .int hi u, .int 1 v] }).objs.size, [(s.heap.push { cls := .type "range", data := .fields #[.int lo t, .int hi u, .int 1 v] }).objs.size], _, _, H, rfl,
    I1.kept (t' := tk) fun b o e => Heap.get?_push_of_some _ e, turn_range _ lo (hi - lo).toNat, ?_, fun b hb => ?_, q⟩
  · have e1 : lo + ((0 : Nat) : Int) * 1 = lo := by simp
    have e2 : (((hi - lo).toNat : Nat) : Int) - ((0 : Nat) : Int) = Builtin.Range.rangeSize lo hi 1 := by rw [rangeSize_one]; split <;> omega
    show IsRangeIter _ _ (lo + ((0 : Nat) : Int) * 1) ((((hi - lo).toNat : Nat) : Int) - ((0 : Nat) : Int)) 1
    rw [e1, e2]
    exact Heap.get?_push_size _ rfl
  · have e : b = (s.heap.push { cls := .type "range", data := .fields #[.int lo t, .int hi u, .int 1 v] }).objs.size := by simpa using hb
    subst e
    exact I1.fpOk (Nat.le_refl _) (I1.hok.fresh (Nat.le_refl _))
def iRng1 (ta : TA) : TI := fun σ H R => ta σ H fun vs H1 => ∃ j : Int, vs = [.int j] ∧ -(2 ^ 62) ≤ j ∧ j < 2 ^ 62 ∧ R (Itr 0 j.toNat) H1
def iRng2 (ta : TA) : TI := fun σ H R => ta σ H fun vs H1 => ∃ i j : Int, vs = [.int i, .int j] ∧ (-(2 ^ 62) ≤ i ∧ i < 2 ^ 62 ∧ -(2 ^ 62) ≤ j ∧ j < 2 ^ 62) ∧ R (Itr i (j - i).toNat) H1
theorem pi_range1 {a : Expr} {ta : TA} {p pos : Pos} (hg : Gl X "range") (hm : X.mg "range" = none) (ha : PA X [a] ta) (hs : starEach [a] X.env = [(false, eval a X.env)] := by rfl) : PI X tg (.Call (.Name "range" p) [a] [] pos) (iRng1 ta) := by
  intro pins s σ H R I h
  refine Call_ (ld_blt I hg hm boot_range (PyProof.Rows.callWith_type1 (thn (ha pos pins s σ H _ I h) fun us s1 ⟨vs, H1, I1, r1, q1⟩ => ?_) hs rfl))
  obtain ⟨j, e, q1, q2, q⟩ := q1
  subst e
  cases r1 with
  | cons r rr =>
    cases rr
    obtain ⟨t, rfl⟩ := r
    exact call_range_1 (range_it I1 (by omega) (by omega) q1 q2 (by simpa using q))
theorem pi_range2 {a b : Expr} {ta : TA} {p pos : Pos} (hg : Gl X "range") (hm : X.mg "range" = none) (ha : PA X [a, b] ta) (hs : starEach [a, b] X.env = [(false, eval a X.env), (false, eval b X.env)] := by rfl) (hs2 : starEach [b] X.env = [(false, eval b X.env)] := by rfl) :
    PI X tg (.Call (.Name "range" p) [a, b] [] pos) (iRng2 ta) := by
  intro pins s σ H R I h
  refine Call_ (ld_blt I hg hm boot_range (PyProof.Rows.callWith_type1 (thn (ha pos pins s σ H _ I h) fun us s1 ⟨vs, H1, I1, r1, q1⟩ => ?_) (by rw [hs, hs2]) (by rw [hs2]; rfl)))
  obtain ⟨i, j, e, ⟨q1, q2, q3, q4⟩, q⟩ := q1
  subst e
  cases r1 with
  | cons r rr =>
    cases rr with
    | cons r' rr =>
      cases rr
      obtain ⟨t, rfl⟩ := r
      obtain ⟨t', rfl⟩ := r'
      exact call_range_2 (range_it I1 q1 q2 q3 q4 q)
def tFor (wi : TI) (g : TG) (tb : TS) : TS := fun D σ H => wi σ H fun J H1 => ∃ W : Nat → Nat → St → Hp → Prop, (∃ m, W 0 m σ H1) ∧ ∀ i m σ H, W i m σ H →
  (J.stop i H ∧ D.nx σ H) ∨ (J.go i H ∧ ∃ N : St → Hp → Prop, (∀ σ' H', N σ' H' → ∃ m', m' < m ∧ W (i + 1) m' σ' H') ∧ ∀ x H', J.yld i H x H' → g x σ H' fun σ2 H2 => tb { D with nx := N, ct := N, bk := D.nx } σ2 H2)
def pinsAt (fp : List Addr) (h : Heap) : List (Addr × Obj) := fp.filterMap fun b => (h.get? b).map fun o => (b, o)
theorem mem_pinsAt {fp : List Addr} {h : Heap} {b : Addr} {o : Obj} (hb : b ∈ fp) (e : h.get? b = some o) : (b, o) ∈ pinsAt fp h := List.mem_filterMap.mpr ⟨b, hb, by rw [e]; rfl⟩
theorem of_pinsAt {fp : List Addr} {h : Heap} {p : Addr × Obj} (hp : p ∈ pinsAt fp h) : p.1 ∈ fp ∧ h.get? p.1 = some p.2 := by
  obtain ⟨b, hb, e⟩ := List.mem_filterMap.mp hp
  cases q : h.get? b with
  | none => rw [q] at e; cases e
  | some o =>
    rw [q] at e
    have e' : (b, o) = p := Option.some.inj e
    subst e'
    exact ⟨hb, q⟩
theorem Inv.pinned {pins : List (Addr × Obj)} {σ : St} {H : Hp} {s : Shared} {fp : List Addr} (I : Inv X pins σ H s) (hf : ∀ b ∈ fp, FpOk X pins H b) (ho : ∀ b ∈ fp, ∃ o, s.heap.get? b = some o ∧ ∀ v, o.data ≠ .cell v) : Inv X (pins ++ pinsAt fp s.heap) σ H s :=
  I.pins_of fun p hp => (List.mem_append.mp hp).elim (fun z => I.pin p (List.mem_append_right _ z)) fun z => by
    obtain ⟨hb, e⟩ := of_pinsAt z
    obtain ⟨f0, f1, f2, _⟩ := hf p.1 hb
    obtain ⟨o, e', d⟩ := ho p.1 hb
    rw [e] at e'; cases e'
    exact ⟨e, f0, f1, f2, d⟩
theorem Inv.unpinned {pins pl : List (Addr × Obj)} {σ : St} {H : Hp} {s : Shared} (I : Inv X (pins ++ pl) σ H s) : Inv X pins σ H s := I.pins_of fun p hp => I.pin p (List.mem_append_right _ (List.mem_append_left _ hp))
theorem ps_for {iter : Expr} {body : List Stmt} {wi : TI} {g : TG} {tb : TS} {pos : Pos} (hp : PassesOwn (model X.prog X.w) X.A X.env X.xe) (hc : X.calm = true) (hi : PI X tg iter wi) (hg : PG X tg g) (hb : PSs X body tb)
    (hs : ∀ x, foldedSetIterable iter X.env x = pure x := by intro _; rfl) : PS X (.For tg iter body [] pos) (tFor wi g tb) := by
  intro pins s σ H D I h
  refine wpAny_For (thn (hi pins s σ H _ I h) fun v s1 h1 => thn h1 fun itv s2 h2 => ?_) hs
  obtain ⟨it, fp, tn, J, H2, e, I2, T, st2, f2, W, ⟨m0, w0⟩, turn⟩ := h2
  subst e
  -- what stays true of the iterator's objects through the loop
  have stat : ∀ {H' : Hp}, (∀ b ∈ fp, H' b = none) → ∀ b ∈ fp, FpOk X pins H' b := fun hn b hb => ⟨hn b hb, (f2 b hb).2⟩
  refine codeAny_forLoop_any (fun n s' => ∃ i σ' H', Inv X pins σ' H' s' ∧ tn i s'.heap ∧ (∀ b ∈ fp, H' b = none) ∧ W i n σ' H') ?_ m0 ⟨0, σ, H2, I2, st2, fun b hb => (f2 b hb).1, w0⟩
  rintro n s3 ⟨i, σ3, H3, I3, st3, fr3, w3⟩
  rcases turn i n σ3 H3 w3 with ⟨stop, qn⟩ | ⟨go, N, hN, step⟩
  · refine wpAny_passesOwn hp (thn (T.done X rfl rfl rfl hc i pins s3 σ3 H3 X.xe I3 (stat fr3) st3 stop) fun r s4 ⟨hr, I4⟩ => ?_)
    subst hr
    exact wpAny_execs_nil ⟨σ3, H3, I4, qn⟩
  · refine wpAny_passesOwn hp (thn (T.item X rfl rfl rfl hc i pins s3 σ3 H3 X.xe I3 (stat fr3) st3 go) fun r s4 ⟨u, hr, h4⟩ => ?_)
    subst hr
    refine wpAny_passesOwn hp (thn h4 fun _ s5 ⟨x, H5, I5, r5, y5, st5, fr5⟩ => ?_)
    have I5' := I5.pinned (stat fr5) (T.obj _ _ st5)
    refine wpAny_passesOwn hp (thn (hg _ s5 σ3 H5 x u _ I5' r5 (step x H5 y5)) fun _ s6 ⟨σ6, H6, I6, q6⟩ => ?_)
    refine wpAny_passesOwn hp (thn (hb _ s6 σ6 H6 _ I6 q6) fun f s7 q7 => ?_)
    have again : ∀ {σ7 : St} {H7 : Hp}, Inv X (pins ++ pinsAt fp s5.heap) σ7 H7 s7 → N σ7 H7 → ∃ m, m < n ∧ ∃ i σ' H', Inv X pins σ' H' s7 ∧ tn i s7.heap ∧ (∀ b ∈ fp, H' b = none) ∧ W i m σ' H' := fun {σ7 H7} I7 n7 => by
      obtain ⟨m', hm, w7⟩ := hN σ7 H7 n7
      refine ⟨m', hm, i + 1, σ7, H7, I7.unpinned, T.keep _ _ _ st5 fun b hb o e => (I7.pin (b, o) (List.mem_append_right _ (List.mem_append_right _ (mem_pinsAt hb e)))).1, fun b hb => ?_, w7⟩
      obtain ⟨o, e, d⟩ := T.obj _ _ st5 b hb
      exact (I7.pin (b, o) (List.mem_append_right _ (List.mem_append_right _ (mem_pinsAt hb e)))).2.1
    cases f with
    | next => obtain ⟨σ7, H7, I7, n7⟩ := q7; exact again I7 n7
    | cont => obtain ⟨σ7, H7, I7, n7⟩ := q7; exact again I7 n7
    | brk => obtain ⟨σ7, H7, I7, q7⟩ := q7; exact ⟨σ7, H7, I7.unpinned, q7⟩
    | ret v => obtain ⟨x7, σ7, H7, I7, r7, q7⟩ := q7; exact ⟨x7, σ7, H7, I7.unpinned, r7, q7⟩
end
theorem for_list {K : PySem.W.Frag} {a : Addr} {xs : List V} {g : TG} {tb : TS} {D : Ends} {σ : St} {H : Hp} (Pv : Nat → St → Hp → Prop) (h0 : Pv 0 σ H) (hl : ∀ i σ H, i ≤ xs.length → Pv i σ H → SqL K H a xs)
    (hs : ∀ i x σ H, xs[i]? = some x → Pv i σ H → g x σ H fun σ2 H2 => tb { D with nx := Pv (i + 1), ct := Pv (i + 1), bk := D.nx } σ2 H2) (hd : ∀ σ H, Pv xs.length σ H → D.nx σ H) :
    ∃ W : Nat → Nat → St → Hp → Prop, (∃ m, W 0 m σ H) ∧ ∀ i m σ H, W i m σ H →
      ((Itl K a).stop i H ∧ D.nx σ H) ∨ ((Itl K a).go i H ∧ ∃ N : St → Hp → Prop, (∀ σ' H', N σ' H' → ∃ m', m' < m ∧ W (i + 1) m' σ' H') ∧ ∀ x H', (Itl K a).yld i H x H' → g x σ H' fun σ2 H2 => tb { D with nx := N, ct := N, bk := D.nx } σ2 H2) := by
  refine ⟨fun i m σ H => m = xs.length - i ∧ i ≤ xs.length ∧ Pv i σ H, ⟨xs.length, by simp, Nat.zero_le _, h0⟩, ?_⟩
  rintro i m σ H ⟨rfl, hi, p⟩
  have q := hl i σ H hi p
  by_cases hlt : i < xs.length
  · refine .inr ⟨⟨xs, xs[i], q, by simp [hlt]⟩, Pv (i + 1), fun σ' H' p' => ⟨xs.length - (i + 1), by omega, rfl, hlt, p'⟩, fun x H' y => ?_⟩
    obtain ⟨e, y⟩ := y
    subst e
    exact hs i x σ _ (y xs q) p
  · have e : i = xs.length := by omega
    subst e
    exact .inl ⟨⟨xs, q, Nat.le_refl _⟩, hd σ H p⟩
theorem for_range {lo : Int} {n : Nat} {g : TG} {tb : TS} {D : Ends} {σ : St} {H : Hp} (Pv : Nat → St → Hp → Prop) (h0 : Pv 0 σ H)
    (hs : ∀ i σ H, i < n → Pv i σ H → g (.int (lo + i)) σ H fun σ2 H2 => tb { D with nx := Pv (i + 1), ct := Pv (i + 1), bk := D.nx } σ2 H2) (hd : ∀ σ H, Pv n σ H → D.nx σ H) :
    ∃ W : Nat → Nat → St → Hp → Prop, (∃ m, W 0 m σ H) ∧ ∀ i m σ H, W i m σ H →
      ((Itr lo n).stop i H ∧ D.nx σ H) ∨ ((Itr lo n).go i H ∧ ∃ N : St → Hp → Prop, (∀ σ' H', N σ' H' → ∃ m', m' < m ∧ W (i + 1) m' σ' H') ∧ ∀ x H', (Itr lo n).yld i H x H' → g x σ H' fun σ2 H2 => tb { D with nx := N, ct := N, bk := D.nx } σ2 H2) := by
  refine ⟨fun i m σ H => m = n - i ∧ i ≤ n ∧ Pv i σ H, ⟨n, by simp, Nat.zero_le _, h0⟩, ?_⟩
  rintro i m σ H ⟨rfl, hi, p⟩
  by_cases hlt : i < n
  · refine .inr ⟨hlt, Pv (i + 1), fun σ' H' p' => ⟨n - (i + 1), by omega, rfl, hlt, p'⟩, fun x H' y => ?_⟩
    obtain ⟨e, y⟩ := y
    subst e y
    exact hs i σ _ hlt p
  · have e : i = n := by omega
    subst e
    exact .inl ⟨Nat.le_refl _, hd σ H p⟩
end L2
namespace L2
open PySem PySem.Spec PyProof.Rows
abbrev R2 := V → V → Hp → VK → Prop
def OpR (X : Cx) (f : Value → Value → Sem Value) (r : R2) : Prop :=
  ∀ (pins : List (Addr × Obj)) (s : Shared) (σ : St) (H : Hp) (x y : V) (v u : Value) (Q : VK), Inv X pins σ H s → RelV x v → RelV y u → r x y H Q →
    wpAny (model X.prog X.w) X.A (f v u) (EP X pins σ Q) X.xe s
def UnR (X : Cx) (f : Value → Sem Value) (r : V → Hp → VK → Prop) : Prop :=
  ∀ (pins : List (Addr × Obj)) (s : Shared) (σ : St) (H : Hp) (x : V) (v : Value) (Q : VK), Inv X pins σ H s → RelV x v → r x H Q →
    wpAny (model X.prog X.w) X.A (f v) (EP X pins σ Q) X.xe s
def CallR (X : Cx) (f : Value) (r : List V → Hp → VK → Prop) : Prop :=
  ∀ (pins : List (Addr × Obj)) (s : Shared) (σ : St) (H : Hp) (xs : List V) (us : List Value) (Q : VK), Inv X pins σ H s → Vals xs us → r xs H Q →
    wpAny (model X.prog X.w) X.A (call f us) (EP X pins σ Q) X.xe s
def tOp (r : R2) (ta tb : TE) : TE := fun σ H Q => ta σ H fun x H1 => tb σ H1 fun y H2 => r x y H2 Q
def tUn (r : V → Hp → VK → Prop) (ta : TE) : TE := fun σ H Q => ta σ H fun x H1 => r x H1 Q
def rI (C : Int → Int → Prop) (g : Int → Int → V) : R2 := fun x y H Q => ∃ i j, x = .int i ∧ y = .int j ∧ C i j ∧ Q (g i j) H
def rI0 (g : Int → Int → V) : R2 := fun x y H Q => ∃ i j, x = .int i ∧ y = .int j ∧ Q (g i j) H
def rU (g : Int → V) : V → Hp → VK → Prop := fun x H Q => ∃ i, x = .int i ∧ Q (g i) H
section
variable {X : Cx} {a b c : Expr} {ta tb tc : TE} {pos : Pos}
theorem binT (ha : PE X a ta) (hb : PE X b tb) {pins : List (Addr × Obj)} {s : Shared} {σ : St} {H : Hp} {R : V → V → Hp → Prop} (I : Inv X pins σ H s)
    (h : ta σ H fun x H1 => tb σ H1 fun y H2 => R x y H2) {Q : Value → Shared → Prop} {f : Value → Value → Sem Value}
    (hf : ∀ v u s2 x y H2, Inv X pins σ H2 s2 → RelV x v → RelV y u → R x y H2 → wpAny (model X.prog X.w) X.A (f v u) Q X.xe s2) :
    wpAny (model X.prog X.w) X.A (eval a X.env) (fun v s₁ => wpAny (model X.prog X.w) X.A (eval b X.env) (fun u s₂ => wpAny (model X.prog X.w) X.A (f v u) Q X.xe s₂) X.xe s₁) X.xe s := by
  refine thn (ha pins s σ H _ I h) fun v s1 ⟨x, H1, I1, r1, q1⟩ => ?_
  refine thn (hb pins s1 σ H1 _ I1 q1) fun u s2 ⟨y, H2, I2, r2, q2⟩ => ?_
  exact hf v u s2 x y H2 I2 r1 r2 q2
theorem pe_op {op : Operator} {r : R2} (ho : OpR X (binaryOp op) r) (ha : PE X a ta) (hb : PE X b tb) : PE X (.BinOp a op b pos) (tOp r ta tb) := by
  intro pins s σ H Q I h
  exact wpAny_BinOp (binT ha hb I h fun v u s2 x y H2 I2 rx ry q => ho pins s2 σ H2 x y v u Q I2 rx ry q)
theorem pe_un {op : UnaryOp} {r : V → Hp → VK → Prop} (ho : UnR X (unaryOp op) r) (ha : PE X a ta) : PE X (.UnaryOp op a pos) (tUn r ta) := by
  intro pins s σ H Q I h
  exact UnaryOp_ (thn (ha pins s σ H _ I h) fun v s1 ⟨x, H1, I1, r1, q1⟩ => ho pins s1 σ H1 x v Q I1 r1 q1)
theorem opI {f : Value → Value → Sem Value} {C : Int → Int → Prop} {g : Int → Int → Int}
    (rule : ∀ (i j : Int) (t u : Tok) (s : Shared) (Q : Value → Shared → Prop) (E : Value → Shared → Prop), C i j → Q (.int (g i j) s.toks) { s with toks := s.toks + 1 } → wpAny (model X.prog X.w) X.A (f (.int i t) (.int j u)) Q E s) :
    OpR X f (rI C fun i j => .int (g i j)) := by
  intro pins s σ H x y v u Q I rx ry h
  obtain ⟨i, j, rfl, rfl, hc, q⟩ := h
  obtain ⟨t, rfl⟩ := rx
  obtain ⟨t', rfl⟩ := ry
  exact rule i j t t' s _ _ hc ⟨.int (g i j), H, I.tok _, ⟨_, rfl⟩, q⟩
theorem opI0 {f : Value → Value → Sem Value} {g : Int → Int → Int}
    (rule : ∀ (i j : Int) (t u : Tok) (s : Shared) (Q : Value → Shared → Prop) (E : Value → Shared → Prop), Q (.int (g i j) s.toks) { s with toks := s.toks + 1 } → wpAny (model X.prog X.w) X.A (f (.int i t) (.int j u)) Q E s) :
    OpR X f (rI0 fun i j => .int (g i j)) := by
  intro pins s σ H x y v u Q I rx ry h
  obtain ⟨i, j, rfl, rfl, q⟩ := h
  obtain ⟨t, rfl⟩ := rx
  obtain ⟨t', rfl⟩ := ry
  exact rule i j t t' s _ _ ⟨.int (g i j), H, I.tok _, ⟨_, rfl⟩, q⟩
theorem opB0 {f : Value → Value → Sem Value} {g : Int → Int → Bool}
    (rule : ∀ (i j : Int) (t u : Tok) (s : Shared) (Q : Value → Shared → Prop) (E : Value → Shared → Prop), Q (.bool (g i j)) s → wpAny (model X.prog X.w) X.A (f (.int i t) (.int j u)) Q E s) :
    OpR X f (rI0 fun i j => .bl (g i j)) := by
  intro pins s σ H x y v u Q I rx ry h
  obtain ⟨i, j, rfl, rfl, q⟩ := h
  obtain ⟨t, rfl⟩ := rx
  obtain ⟨t', rfl⟩ := ry
  exact rule i j t t' s _ _ ⟨.bl (g i j), H, I, rfl, q⟩
def CDiv (i j : Int) : Prop := 0 < j ∧ j < 1073741824
def CPow (i j : Int) : Prop := 0 ≤ j ∧ j ≤ 1000000 ∧ i.natAbs < 2 ^ 64
def CMul (i j : Int) : Prop := (-(2 ^ 64) < i ∧ i < 2 ^ 64) ∨ (-(2 ^ 64) < j ∧ j < 2 ^ 64)
theorem CMul.ok {i j : Int} (h : CMul i j) : IntMulOk i j := by
  rcases h with ⟨h1, h2⟩ | ⟨h1, h2⟩
  · exact .of_left (intBits_le_64 h1 h2)
  · exact .of_right (intBits_le_64 h1 h2)
theorem op_add : OpR X (binaryOp .Add) (rI0 fun i j => .int (i + j)) := opI0 fun _ _ _ _ _ _ _ q => add_int q
theorem op_sub : OpR X (binaryOp .Sub) (rI0 fun i j => .int (i - j)) := opI0 fun _ _ _ _ _ _ _ q => sub_int q
theorem op_mul : OpR X (binaryOp .Mult) (rI CMul fun i j => .int (i * j)) := opI fun _ _ _ _ _ _ _ hc q => mul_int q hc.ok
theorem op_fdiv : OpR X (binaryOp .FloorDiv) (rI CDiv fun i j => .int (i / j)) := opI fun i j _ _ _ _ _ hc q => by
  have h1 : (0 : Int) < j := hc.1
  have h2 : j < 1073741824 := hc.2
  exact floordiv_int (by omega) (by rw [Int.fdiv_eq_ediv_of_nonneg i (by omega)]; exact q) (.inl (PyProof.noPylong_small (by omega)))
theorem op_mod : OpR X (binaryOp .Mod) (rI (fun _ j => 0 < j) fun i j => .int (i % j)) := opI fun i j _ _ _ _ _ hc q => by
  have h1 : (0 : Int) < j := hc
  exact mod_int' (by omega) (by rw [Int.fmod_eq_emod_of_nonneg i (by omega)]; exact q)
theorem op_pow : OpR X (binaryOp .Pow) (rI CPow fun i j => .int (i ^ j.toNat)) := opI fun _ _ _ _ _ _ _ hc q => pow_int_small hc.1 hc.2.1 hc.2.2 q
theorem unI {f : Value → Sem Value} {g : Int → Int}
    (rule : ∀ (i : Int) (t : Tok) (s : Shared) (Q : Value → Shared → Prop) (E : Value → Shared → Prop), Q (.int (g i) s.toks) { s with toks := s.toks + 1 } → wpAny (model X.prog X.w) X.A (f (.int i t)) Q E s) :
    UnR X f (rU fun i => .int (g i)) := by
  intro pins s σ H x v Q I rx h
  obtain ⟨i, rfl, q⟩ := h
  obtain ⟨t, rfl⟩ := rx
  exact rule i t s _ _ ⟨.int (g i), H, I.tok _, ⟨_, rfl⟩, q⟩
theorem un_neg : UnR X (unaryOp .USub) (rU fun i => .int (-i)) := unI fun _ _ _ _ _ q => neg_int q
end
def scal : V → V → Bool
  | .non, .non => true | .non, .int _ => true | .int _, .non => true | .non, .bl _ => true | .bl _, .non => true | .non, .str _ => true | .str _, .non => true
  | .int _, .int _ => true | .bl _, .bl _ => true | .str _, .str _ => true | .byt _, .byt _ => true
  | .int _, .str _ => true | .str _, .int _ => true | .bl _, .str _ => true | .str _, .bl _ => true
  | _, _ => false
def rEq : R2 := fun x y H Q => scal x y = true ∧ Q (.bl (decide (x = y))) H
def rNe : R2 := fun x y H Q => scal x y = true ∧ Q (.bl (!decide (x = y))) H
theorem dec_int {i j : Int} : decide (V.int i = V.int j) = (i == j) := by
  rw [Bool.eq_iff_iff]
  simp
theorem dec_bl {i j : Bool} : decide (V.bl i = V.bl j) = (i == j) := by
  rw [Bool.eq_iff_iff]
  simp
theorem dec_str {i j : Str} : decide (V.str i = V.str j) = (i == j) := by
  rw [Bool.eq_iff_iff]
  simp
theorem dec_byt {i j : Array UInt8} : decide (V.byt i = V.byt j) = (i.toList == j.toList) := by
  rw [Bool.eq_iff_iff]
  cases i
  cases j
  simp
section
variable {X : Cx} {a b c : Expr} {ta tb tc : TE} {pos : Pos}
theorem fin_bl {pins : List (Addr × Obj)} {σ : St} {H : Hp} {s : Shared} {Q : VK} {k k' : Bool} (I : Inv X pins σ H s) (q : Q (.bl k) H) (e : k = k') : EP X pins σ Q (.bool k') s := by
  subst e
  exact ⟨.bl k, H, I, rfl, q⟩
theorem op_eq : OpR X (compareOp .Eq) rEq := by
  intro pins s σ H x y v u Q I rx ry h
  obtain ⟨hs, q⟩ := h
  cases x with
  | non =>
    cases rx
    cases y with
    | non => cases ry; exact PySem.EqNone.eq_none_none (fin_bl I q (by simp))
    | bl j => cases ry; exact PySem.EqNone.eq_none_bool (fin_bl I q (by simp))
    | int j => obtain ⟨t', rfl⟩ := ry; exact PySem.EqNone.eq_none_int (fin_bl I q (by simp))
    | str j => obtain ⟨t', rfl⟩ := ry; exact PySem.EqNone.eq_none_str (fin_bl I q (by simp))
    | _ => exact absurd (show false = true from hs) Bool.false_ne_true
  | bl i =>
    cases rx
    cases y with
    | non => cases ry; exact PySem.EqNone.eq_bool_none (fin_bl I q (by simp))
    | bl j => cases ry; exact eq_bool (fin_bl I q dec_bl)
    | str j => obtain ⟨t', rfl⟩ := ry; exact PySem.EqMixed.eq_bool_str (fin_bl I q (by simp))
    | _ => exact absurd (show false = true from hs) Bool.false_ne_true
  | int i =>
    obtain ⟨t, rfl⟩ := rx
    cases y with
    | non => cases ry; exact PySem.EqNone.eq_int_none (fin_bl I q (by simp))
    | int j => obtain ⟨t', rfl⟩ := ry; exact eq_int (fin_bl I q dec_int)
    | str j => obtain ⟨t', rfl⟩ := ry; exact PySem.EqMixed.eq_int_str (fin_bl I q (by simp))
    | _ => exact absurd (show false = true from hs) Bool.false_ne_true
  | str i =>
    obtain ⟨t, rfl⟩ := rx
    cases y with
    | non => cases ry; exact PySem.EqNone.eq_str_none (fin_bl I q (by simp))
    | bl j => cases ry; exact PySem.EqMixed.eq_str_bool (fin_bl I q (by simp))
    | int j => obtain ⟨t', rfl⟩ := ry; exact PySem.EqMixed.eq_str_int (fin_bl I q (by simp))
    | str j => obtain ⟨t', rfl⟩ := ry; exact eq_str (fin_bl I q dec_str)
    | _ => exact absurd (show false = true from hs) Bool.false_ne_true
  | byt i =>
    obtain ⟨t, rfl⟩ := rx
    cases y with
    | byt j => obtain ⟨t', rfl⟩ := ry; exact PySem.W.eq_bytes (fin_bl I q dec_byt)
    | _ => exact absurd (show false = true from hs) Bool.false_ne_true
  | _ => cases y <;> exact absurd (show false = true from hs) Bool.false_ne_true
theorem op_ne : OpR X (compareOp .NotEq) rNe := by
  intro pins s σ H x y v u Q I rx ry h
  obtain ⟨hs, q⟩ := h
  cases x with
  | non =>
    cases rx
    cases y with
    | non => cases ry; exact PySem.EqNone.ne_none_none (fin_bl I q (by simp))
    | bl j => cases ry; exact PySem.EqNone.ne_none_bool (fin_bl I q (by simp))
    | int j => obtain ⟨t', rfl⟩ := ry; exact PySem.EqNone.ne_none_int (fin_bl I q (by simp))
    | str j => obtain ⟨t', rfl⟩ := ry; exact PySem.EqNone.ne_none_str (fin_bl I q (by simp))
    | _ => exact absurd (show false = true from hs) Bool.false_ne_true
  | bl i =>
    cases rx
    cases y with
    | non => cases ry; exact PySem.EqNone.ne_bool_none (fin_bl I q (by simp))
    | bl j => cases ry; exact ne_bool (fin_bl I q (congrArg not dec_bl))
    | str j => obtain ⟨t', rfl⟩ := ry; exact PySem.EqMixed.ne_bool_str (fin_bl I q (by simp))
    | _ => exact absurd (show false = true from hs) Bool.false_ne_true
  | int i =>
    obtain ⟨t, rfl⟩ := rx
    cases y with
    | non => cases ry; exact PySem.EqNone.ne_int_none (fin_bl I q (by simp))
    | int j => obtain ⟨t', rfl⟩ := ry; exact ne_int (fin_bl I q (congrArg not dec_int))
    | str j => obtain ⟨t', rfl⟩ := ry; exact PySem.EqMixed.ne_int_str (fin_bl I q (by simp))
    | _ => exact absurd (show false = true from hs) Bool.false_ne_true
  | str i =>
    obtain ⟨t, rfl⟩ := rx
    cases y with
    | non => cases ry; exact PySem.EqNone.ne_str_none (fin_bl I q (by simp))
    | bl j => cases ry; exact PySem.EqMixed.ne_str_bool (fin_bl I q (by simp))
    | int j => obtain ⟨t', rfl⟩ := ry; exact PySem.EqMixed.ne_str_int (fin_bl I q (by simp))
    | str j => obtain ⟨t', rfl⟩ := ry; exact ne_str (fin_bl I q (congrArg not dec_str))
    | _ => exact absurd (show false = true from hs) Bool.false_ne_true
  | byt i =>
    obtain ⟨t, rfl⟩ := rx
    cases y with
    | byt j => obtain ⟨t', rfl⟩ := ry; exact PySem.W.ne_bytes (fin_bl I q (congrArg not dec_byt))
    | _ => exact absurd (show false = true from hs) Bool.false_ne_true
  | _ => cases y <;> exact absurd (show false = true from hs) Bool.false_ne_true
theorem op_lt : OpR X (compareOp .Lt) (rI0 fun i j => .bl (decide (i < j))) := opB0 fun _ _ _ _ _ _ _ q => lt_int q
theorem op_le : OpR X (compareOp .LtE) (rI0 fun i j => .bl (decide (i ≤ j))) := opB0 fun _ _ _ _ _ _ _ q => le_int q
theorem op_gt : OpR X (compareOp .Gt) (rI0 fun i j => .bl (decide (j < i))) := opB0 fun _ _ _ _ _ _ _ q => gt_int q
theorem OpR.or {f : Value → Value → Sem Value} {r r' : R2} (h : OpR X f r) (h' : OpR X f r') : OpR X f (fun x y H Q => r x y H Q ∨ r' x y H Q) := by
  intro pins s σ H x y v u Q I rx ry q
  rcases q with q | q
  · exact h pins s σ H x y v u Q I rx ry q
  · exact h' pins s σ H x y v u Q I rx ry q
theorem nomark (b : Expr) {op : CmpOp} (h : op ≠ .In := by decide) (h2 : op ≠ .NotIn := by decide) : behindInMarks op b = false := by
  have e1 : (op == CmpOp.In) = false := by cases op <;> first | rfl | exact absurd rfl h
  have e2 : (op == CmpOp.NotIn) = false := by cases op <;> first | rfl | exact absurd rfl h2
  cases b <;> simp [behindInMarks, e1, e2]
theorem pe_cmpR {op : CmpOp} {r : R2} (ho : OpR X (compareOp op) r) (ha : PE X a ta) (hb : PE X b tb) (hm : behindInMarks op b = false) : PE X (.Compare a [op] [b] pos) (tOp r ta tb) := by
  intro pins s σ H Q I h
  exact wpAny_Compare1 (binT ha hb I h fun v u s2 x y H2 I2 rx ry q => ho pins s2 σ H2 x y v u Q I2 rx ry q) hm
def tTest (t : TE) : TT := fun σ H Q => t σ H fun x H' => ∃ k, x = .bl k ∧ Q k H'
theorem pt_cmpR {op : CmpOp} {r : R2} (ho : OpR X (compareOp op) r) (ha : PE X a ta) (hb : PE X b tb) (hm : behindInMarks op b = false) : PT X (.Compare a [op] [b] pos) (tTest (tOp r ta tb)) := by
  intro pins s σ H Q I h
  refine wpAny_isTrue_Compare1 (thn (ha pins s σ H _ I h) fun v s1 ⟨x, H1, I1, r1, q1⟩ => thn (hb pins s1 σ H1 _ I1 q1) fun u s2 ⟨y, H2, I2, r2, q2⟩ =>
    thn (ho pins s2 σ H2 x y v u _ I2 r1 r2 q2) fun c s3 ⟨z, H3, I3, r3, k, e, q3⟩ => ?_) hm
  subst e
  cases r3
  exact wpAny_truthy_bool ⟨H3, I3, q3⟩
theorem line63 : (sizeLine : Nat) < 2 ^ 63 := by rw [sizeLine_eq]; decide
theorem vals1 {x : V} {us : List Value} (r : Vals [x] us) : ∃ u, us = [u] ∧ RelV x u := by
  cases r with
  | cons r1 r2 => cases r2; exact ⟨_, rfl, r1⟩
theorem vals2 {x y : V} {us : List Value} (r : Vals [x, y] us) : ∃ u w', us = [u, w'] ∧ RelV x u ∧ RelV y w' := by
  cases r with
  | cons r1 r2 =>
    cases r2 with
    | cons r3 r4 => cases r4; exact ⟨_, _, rfl, r1, r3⟩
theorem call_min2 (hc : X.calm = true) : CallR X (.builtin "min") (fun xs H Q => ∃ i j, xs = [.int i, .int j] ∧ Q (.int (if j < i then j else i)) H) := by
  intro pins s σ H xs us Q I r h
  obtain ⟨i, j, rfl, q⟩ := h
  obtain ⟨u, w', rfl, ⟨t, rfl⟩, ⟨t', rfl⟩⟩ := vals2 r
  refine min_two_ints (I.ok.hd hc) fun h' tk k => ⟨_, H, I.kept k, ?_, q⟩
  by_cases hj : j < i
  · rw [if_pos hj, if_pos hj]; exact ⟨_, rfl⟩
  · rw [if_neg hj, if_neg hj]; exact ⟨_, rfl⟩
end
end L2
namespace L2
open PySem PySem.Spec PyProof.Rows
structure ObjM (h : Heap) (x dx C : Addr) (mA : Str → Option Value) : Prop where
  obj : h.get? x = some (PySem.W.instObj C dx)
  ns : h.Ns1 dx mA
  ne : dx ≠ x
theorem lookIn_ns {h : Heap} {dx : Addr} {mA : Str → Option Value} (n : h.Ns1 dx mA) : ∃ od, h.get? dx = some od ∧ ∀ name, PySem.W.lookIn name od = some (mA name) := by
  obtain ⟨o, es, ep, ho, hd, hk, _, hm⟩ := n
  refine ⟨o, ho, fun name => ?_⟩
  have e := hm name
  unfold nsFind findBy at e
  rw [← Array.find?_toList] at e
  unfold PySem.W.lookIn
  rw [hd]
  dsimp only
  split
  · rename_i y q
    rw [q] at e
    exact congrArg some e
  · rename_i q
    rw [q] at e
    have a : es.toList.any (·.refKey) = false := by
      rw [List.any_eq_false]
      intro y hy
      obtain ⟨z, t, hkey⟩ := hk y (Array.mem_toList_iff.mp hy)
      simp [DictEntry.refKey, hkey]
    have a' : ¬ es.toList.any (·.refKey) = true := by rw [a]; exact Bool.false_ne_true
    rw [if_neg a']
    exact congrArg some e
theorem ObjM.look {h : Heap} {x dx C : Addr} {mA : Str → Option Value} (I : ObjM h x dx C mA) : ∃ od, PySem.W.InstAt h x (PySem.W.instObj C dx) C (some od) ∧ ∀ name, PySem.W.lookIn name od = some (mA name) :=
  let ⟨od, ho, hl⟩ := lookIn_ns I.ns
  ⟨od, ⟨I.obj, rfl, rfl, ho⟩, hl⟩
section
variable {prog : Program} {w : World} {A : Around} {E : Value → Shared → Prop} {s : Shared} {K : PySem.W.Frag} {x dx C f : Addr} {mA : Str → Option Value} {name : Str} {v : Value}
end
theorem RelO.some_of {v : V} {o : Option Value} (r : RelO (some v) o) : ∃ u, o = some u ∧ RelV v u := by
  cases o with
  | none => exact (show False from r).elim
  | some u => exact ⟨u, rfl, r⟩
section
variable {P : Program} {w : World} {H H' : Hp} {h h' : Heap} {a C dx : Addr} {fs fs' : List (Str × V)}
theorem ins_get (hok : HOk P w H h) (e : H a = some (.ins C dx fs)) : ∃ mA, ObjM h a dx C mA ∧ (∀ f, RelO (fs.lookup f) (mA f)) ∧ PySem.Within mA (fs.map (·.1)) ∧ fs.length ≤ 1000 ∧ H dx = some (.own a) := by
  obtain ⟨d, z, ne, ob, mA, n, r, q⟩ := (show ObjOk P w H h a (.ins C dx fs) from hok a _ e)
  exact ⟨mA, ⟨ob, n, ne⟩, r, q, z, d⟩
end
structure Cls (K : PySem.W.Frag) (C : Addr) : Prop where
  pg : PySem.W.plainGet K C Str.empty = true
  hd : PySem.W.hasDictIn K C = true
  po : PySem.W.plainOver K C = true
  sa : PySem.W.findIn K (.ref C) "__setattr__" = some (some (.builtin "object.__setattr__"))
theorem Cls.get {K : PySem.W.Frag} {C : Addr} (c : Cls K C) (f : Str) : PySem.W.plainGet K C f = true := c.pg
structure Meth (K : PySem.W.Frag) (C : Addr) (m : Str) (f : Addr) : Prop where
  at_ : PySem.W.findIn K (.ref C) m = some (some (.ref f))
  fn : PySem.W.isFn K (.ref f) = true
  kp : PySem.W.keepIn K (.ref f) = true
section
variable {X : Cx} {pins : List (Addr × Obj)} {σ : St} {H : Hp} {s : Shared} {a C dx : Addr} {fs : List (Str × V)} {f : Str} {v : V} {A : Around} {E : Value → Shared → Prop}
end
section
variable {X : Cx} {o e value : Expr} {f : Str} {pos pos' tpos : Pos} {ta tv : TE}
end
section
variable {X : Cx} {pins : List (Addr × Obj)} {σ : St} {H : Hp} {s : Shared} {A : Around} {E : Value → Shared → Prop} {Q : Value → Shared → Prop} {c : Value} {b : Bool}
inductive TyOf (K : PySem.W.Frag) (H : Hp) : V → Value → Prop where
  | non : TyOf K H .non (.type "NoneType")
  | bl (x : Bool) : TyOf K H (.bl x) (.type "bool")
  | int (i : Int) : TyOf K H (.int i) (.type "int")
  | str (x : Str) : TyOf K H (.str x) (.type "str")
  | flt (x : UInt64) : TyOf K H (.flt x) (.type "float")
  | lst {a : Addr} {xs : List V} (e : H a = some (.lst xs)) : TyOf K H (.ref a) (.type "list")
  | frz {a : Addr} {o : Obj} {xs : List V} (e : H a = some (.frz o (.lst xs))) : TyOf K H (.ref a) (.type "list")
  | tup {a : Addr} {xs : List V} (e : H a = some (.tup xs)) : TyOf K H (.ref a) (.type "tuple")
  | dK {a : Addr} {kvs : List (Key × V)} (e : H a = some (.dK kvs)) : TyOf K H (.ref a) (.type "dict")
  | dT {a : Addr} {kvs : List (List Key × V)} (e : H a = some (.dT kvs)) : TyOf K H (.ref a) (.type "dict")
  | ins {a C dx : Addr} {fs : List (Str × V)} (e : H a = some (.ins C dx fs)) (cl : Cls K C) (ha : PySem.W.findIn K (.ref C) "__class__" = some (some (.builtin "object.__class__")))
      (hn : PySem.W.specialIn K (.builtin "object.__class__") "__get__" = some (some (.builtin "getset_descriptor.__get__"))) (htk : PySem.W.takesIn K (.builtin "object.__class__") = some true)
      (hm : PySem.W.mroIn K C (.type "object") = some true) : TyOf K H (.ref a) (.ref C)
theorem isinst_ok {x : V} {u t : Value} (I : Inv X pins σ H s) (rx : RelV x u) (ty : TyOf X.K H x t) (e : PySem.W.kitOne X.K t c = some b) (h : ∀ tk, Q (.bool b) { s with toks := tk }) :
    wpAny (model X.prog X.w) A (call (.builtin "isinstance") [u, c]) Q E s := by
  cases ty with
  | non => cases (show u = Value.none from rx); exact PySem.W.kia_one PySem.W.kitx_none I.kIn True.intro e (fun z => nomatch z) h
  | bl y => cases (show u = Value.bool y from rx); exact PySem.W.kia_one PySem.W.kitx_bool I.kIn True.intro e (fun z => nomatch z) h
  | int i => obtain ⟨t, q⟩ := (show ∃ t, u = Value.int i t from rx); cases q; exact PySem.W.kia_one PySem.W.kitx_int I.kIn True.intro e (fun z => nomatch z) h
  | str y => obtain ⟨t, q⟩ := (show ∃ t, u = Value.str y t from rx); cases q; exact PySem.W.kia_one PySem.W.kitx_str I.kIn True.intro e (fun z => nomatch z) h
  | flt y => obtain ⟨t, q⟩ := (show ∃ t, u = Value.float y t from rx); cases q; exact PySem.W.kia_one PySem.W.kitx_float I.kIn True.intro e (fun z => nomatch z) h
  | @lst a xs ea =>
    cases (show u = Value.ref a from rx)
    obtain ⟨_, _, n, _, h1⟩ := (show ObjOk X.prog X.w H s.heap a (.lst xs) from I.hok a _ ea)
    exact PySem.W.kia_one PySem.W.kitx_list I.kIn ⟨_, h1, rfl⟩ e (fun z => nomatch z) h
  | @frz a ob xs ea =>
    cases (show u = Value.ref a from rx)
    obtain ⟨_, _, _, n, _, h1⟩ := (show ObjOk X.prog X.w H s.heap a (.frz ob (.lst xs)) from I.hok a _ ea)
    exact PySem.W.kia_one PySem.W.kitx_list I.kIn ⟨_, h1, rfl⟩ e (fun z => nomatch z) h
  | @tup a xs ea =>
    cases (show u = Value.ref a from rx)
    obtain ⟨_, _, _, p⟩ := (show ObjOk X.prog X.w H s.heap a (.tup xs) from I.hok a _ ea)
    obtain ⟨o, h1, h2, _⟩ := p
    exact PySem.W.kia_one PySem.W.kitx_tuple I.kIn ⟨o, h1, h2⟩ e (fun z => nomatch z) h
  | @dK a kvs ea =>
    cases (show u = Value.ref a from rx)
    obtain ⟨_, _, vs, _, p⟩ := (show ObjOk X.prog X.w H s.heap a (.dK kvs) from I.hok a _ ea)
    obtain ⟨o, es, ep, h1, h2, _⟩ := p
    exact PySem.W.kia_one PySem.W.kitx_dict I.kIn ⟨o, h1, h2.1⟩ e (fun z => nomatch z) h
  | @dT a kvs ea =>
    cases (show u = Value.ref a from rx)
    obtain ⟨_, _, xs, _, o, es, ep, h1, h2, _⟩ := (show ObjOk X.prog X.w H s.heap a (.dT kvs) from I.hok a _ ea)
    exact PySem.W.kia_one PySem.W.kitx_dict I.kIn ⟨o, h1, h2.1⟩ e (fun z => nomatch z) h
  | @ins a C dx fs ea cl ha hn htk hm =>
    cases (show u = Value.ref a from rx)
    obtain ⟨mA, O, _⟩ := ins_get I.hok ea
    obtain ⟨od, J, _⟩ := O.look
    exact PySem.W.kia_one (PySem.W.kitx_own (cl.get _) cl.hd ha hn htk hm) I.kIn J e (fun z => nomatch z) h
end
end L2
namespace L2
open PySem PySem.Spec PyProof.Rows
structure Room (k : Nat) (A : Around) : Prop where
  hd : A.handled = none
  dp : A.depth + 3 * k + 5 < recursionLimit
  un : A.units + 16 * k + 200 < cLine
theorem Room.mono {j k : Nat} {A : Around} (r : Room k A) (h : j ≤ k) : Room j A := ⟨r.hd, by have := r.dp; omega, by have := r.un; omega⟩
theorem Room.deeper {k : Nat} {A : Around} (r : Room (k + 1) A) (env : Env) : Room k (A.deeper env) :=
  ⟨r.hd, by have := r.dp; show A.depth + 1 + 3 * k + 5 < _; omega, by have := r.un; show A.units + 3 + 16 * k + 200 < _; omega⟩
theorem Room.in1 {k : Nat} {A : Around} (r : Room (k + 1) A) : Room k A.in1 :=
  ⟨r.hd, by have := r.dp; show A.depth + 3 * k + 5 < _; omega, by have := r.un; show A.units + 1 + 16 * k + 200 < _; omega⟩
theorem Room.depth {k : Nat} {A : Around} (r : Room k A) : A.depth < recursionLimit := by have := r.dp; omega
theorem Room.units {k : Nat} {A : Around} (r : Room k A) : A.units + 64 < cLine := by have := r.un; omega
def tNil : TA := fun _ H Q => Q [] H
def tCons (ta : TE) (tr : TA) : TA := fun σ H Q => ta σ H fun x H1 => tr σ H1 fun xs H2 => Q (x :: xs) H2
section
variable {X : Cx} {e : Expr} {es : List Expr} {te : TE} {t : TA} {pos : Pos}
theorem pa_nil : PA X [] tNil := fun _ _ _ _ H Q I h => Calls.spliced_nil ⟨[], H, I, .nil, h⟩
theorem pa_cons (ha : PE X e te) (hr : PA X es t) (hs : starEach (e :: es) X.env = (false, eval e X.env) :: starEach es X.env := by rfl) : PA X (e :: es) (tCons te t) := by
  intro pos pins s σ H Q I h
  rw [hs]
  show wpAny _ _ (spliced ((false, eval e X.env) :: backTo pos (starEach es X.env))) _ _ s
  refine Calls.spliced_cons (thn (ha pins s σ H _ I h) fun u s1 ⟨x, H1, I1, r1, q1⟩ => ?_)
  exact thn (hr pos pins s1 σ H1 _ I1 q1) fun us s2 ⟨xs, H2, I2, r2, q2⟩ => ⟨x :: xs, H2, I2, .cons r1 r2, q2⟩
end
abbrev Sp := List V → Hp → VK → XK → Prop
abbrev CXT := List Env → Hp → Shared → XK → Value → Shared → Prop
structure Env0 (P : Program) (w : World) (K : PySem.W.Frag) (mg : Str → Option Value) (base : Heap) (A : Around) (outer : List Env) (s : Shared) (H : Hp) : Prop where
  frames : A.frames = some outer
  mod : Mod K mg base
  bs : ∀ b o, base.get? b = some o → s.heap.get? b = some o ∧ H b = none
  bsz : base.objs.size ≤ s.heap.objs.size
  funs : s.heap.FunFrames base outer
  frf : ∀ b ∈ frs outer, H b = none
  hok : HOk P w H s.heap
  bare : AllBare s.gens
def CE (outer : List Env) (P : Program) (w : World) (H : Hp) (s : Shared) (Q : VK) (u : Value) (s' : Shared) : Prop :=
  ∃ v H', s'.os = s.os ∧ AllBare s'.gens ∧ Un (frs outer) [] H H' s.heap s'.heap ∧ HOk P w H' s'.heap ∧ RelV v u ∧ Q v H'
def CR (CX : CXT) (outer : List Env) (P : Program) (w : World) (H : Hp) (s : Shared) (Q : VK) (E : XK) (r : Result) (s' : Shared) : Prop :=
  match r with
  | .ok (.ret u) => CE outer P w H s Q u s'
  | .ok _ => False
  | .error e => CX outer H s E e s'
structure FnOk (P : Program) (w : World) (K : PySem.W.Frag) (mg : Str → Option Value) (base : Heap) (CX : CXT) (k : Nat) (f : Addr) (fd : FuncData) (ps : List Str) (sp : Sp) : Prop where
  len : ∀ vs H Q E, sp vs H Q E → vs.length = ps.length
  run : ∀ (A : Around) (outer : List Env) (s : Shared) (H : Hp) (args : Args) (us : List Value) (vs : List V) (Q : VK) (E : XK), Room k A → Env0 P w K mg base A outer s H → BindsTo s fd args (ps.zip us) → Vals vs us → sp vs H Q E →
    codeAny (model P w) A (.call (.ref f) args) (CR CX outer P w H s Q E) s
theorem FnOk.imp {P : Program} {w : World} {K : PySem.W.Frag} {mg : Str → Option Value} {base : Heap} {CX : CXT} {k : Nat} {f : Addr} {fd : FuncData} {ps : List Str} {sp sp' : Sp} (F : FnOk P w K mg base CX k f fd ps sp)
    (h : ∀ vs H Q E, sp' vs H Q E → sp vs H Q E) : FnOk P w K mg base CX k f fd ps sp' :=
  ⟨fun vs H Q E q => F.len vs H Q E (h _ _ _ _ q), fun A outer s H args us vs Q E hr he hb hv hs => F.run A outer s H args us vs Q E hr he hb hv (h _ _ _ _ hs)⟩
theorem Env0.in1 {P : Program} {w : World} {K : PySem.W.Frag} {mg : Str → Option Value} {base : Heap} {A : Around} {outer : List Env} {s : Shared} {H : Hp} (e : Env0 P w K mg base A outer s H) :
    Env0 P w K mg base A.in1 outer s H := ⟨e.frames, e.mod, e.bs, e.bsz, e.funs, e.frf, e.hok, e.bare⟩
section
variable {X : Cx} {pins : List (Addr × Obj)} {σ : St} {H : Hp} {s s' : Shared}
theorem Inv.env0 (I : Inv X pins σ H s) : Env0 X.prog X.w X.K X.mg X.base X.A X.stack s H :=
  ⟨I.ok.frames, I.ok.mod, I.bs, Nat.le_trans I.ok.bsz I.sz, I.stack, I.stkFree, I.hok, I.bare⟩
theorem Inv.after {Q : VK} {u : Value} (I : Inv X pins σ H s) (h : CE X.stack X.prog X.w H s Q u s') : EP X pins σ Q u s' := by
  obtain ⟨v, H', os, bare, un, hok, r, q⟩ := h
  obtain ⟨hh, g, d, t, os'⟩ := s'
  obtain rfl : os' = s.os := os
  exact ⟨v, H', I.call (h' := hh) (g' := g) (d' := d) (t' := t) (ch := []) un hok bare (fun b z => absurd z (by simp)), r, q⟩
end
def tCall (sp : Sp) (dvs : List V) (E : XK) (t : TA) : TE := fun σ H Q => t σ H fun vs H1 => sp (vs ++ dvs) H1 Q E
def Binds (K : PySem.W.Frag) (fd : FuncData) (ps : List Str) (ds : List Value) : Prop :=
  ∀ (s : Shared) (us : List Value), K.In s.heap → (us ++ ds).length = ps.length → BindsTo s fd ⟨us, []⟩ (ps.zip (us ++ ds))
theorem Binds.all {K : PySem.W.Frag} {fd : FuncData} {ps : List Str} (h : ∀ us : List Value, us.length = ps.length → bindArgs fd ⟨us, []⟩ = pure (ps.zip us)) : Binds K fd ps [] := fun s us _ hl => by
  rw [List.append_nil] at hl ⊢
  exact .of_eq (h us hl)
def Passes (CX : CXT) (X : Cx) (E : XK) : Prop := ∀ (pins : List (Addr × Obj)) (σ : St) (H : Hp) (s : Shared) (e : Value) (s' : Shared), Inv X pins σ H s → CX X.stack H s E e s' → X.xe e s'
section
variable {X : Cx} {CX : CXT} {k : Nat} {f C : Addr} {fd : FuncData} {ps : List Str} {sp : Sp} {dvs : List V} {ds : List Value} {E : XK} {x m : Str} {p pos apos : Pos} {e o : Expr} {es : List Expr} {ta : TE} {t : TA}
theorem run_fn {pins : List (Addr × Obj)} {σ : St} {H : Hp} {s : Shared} {Q : VK} {us : List Value} {vs : List V} (F : FnOk X.prog X.w X.K X.mg X.base CX k f fd ps sp) (hr : Room k X.A) (hb : Binds X.K fd ps ds) (hd : Vals dvs ds) (hx : Passes CX X E)
    (I : Inv X pins σ H s) (r : Vals vs us) (h : sp (vs ++ dvs) H Q E) : wpAny (model X.prog X.w) X.A (call (.ref f) us) (EP X pins σ Q) X.xe s := by
  have r2 : Vals (vs ++ dvs) (us ++ ds) := r.append hd
  have hl : (us ++ ds).length = ps.length := by rw [← r2.length]; exact F.len _ _ _ _ h
  refine wpAny_call (codeAny_mono (F.run X.A X.stack s H ⟨us, []⟩ (us ++ ds) (vs ++ dvs) Q E hr I.env0 (hb s us I.kIn hl) r2 h) fun r s' hq => ?_)
  cases r with
  | error e => exact hx pins σ H s e s' I hq
  | ok fl =>
    cases fl with
    | ret u => exact I.after hq
    | next => exact False.elim hq
    | brk => exact False.elim hq
    | cont => exact False.elim hq
theorem pe_call (F : FnOk X.prog X.w X.K X.mg X.base CX k f fd ps sp) (hr : Room k X.A) (hg : Gl X x) (hm : X.mg x = some (.ref f)) (hk : PySem.W.keepIn X.K (.ref f) = true) (hb : Binds X.K fd ps ds) (hd : Vals dvs ds) (hx : Passes CX X E)
    (ha : PA X (e :: es) t) (hdb : (x == ("__debug__" : Str)) = false := by decide) (he : starEach (e :: es) X.env = (false, eval e X.env) :: starEach es X.env := by rfl) (hpl : (backTo pos (starEach es X.env)).any (·.1) = false := by rfl) :
    PE X (.Call (.Name x p) (e :: es) [] pos) (tCall sp dvs E t) := by
  intro pins s σ H Q I h
  refine wpAny_Call_Name_kw (ld_glob I hg hm ?_ hdb)
  refine PySem.W.callWith_K (h₀ := X.base) I.ok.mod.kin hk (thn (ha pos pins s σ H _ I h) fun us s1 ⟨vs, H1, I1, r, q⟩ => ⟨I1.kIn, ?_⟩) he hpl
  exact run_fn F hr hb hd hx I1 r q
end
def PK (X : Cx) (kws : List Keyword) (t : TA) : Prop :=
  ∀ (pos : Pos) (pins : List (Addr × Obj)) (s : Shared) (σ : St) (H : Hp) (Q : List V → Hp → Prop), Inv X pins σ H s → t σ H Q → wpAny (model X.prog X.w) X.A (evalAll ((backToKw pos (keywordEach kws X.env)).map (·.2))) (AP X pins σ Q) X.xe s
section
variable {X : Cx} {CX : CXT} {k : Nat} {f C : Addr} {fd : FuncData} {ps ks : List Str} {sp : Sp} {E : XK} {x m : Str} {p pos apos kpos : Pos} {e o : Expr} {es : List Expr} {kws : List Keyword} {te ta : TE} {t tk : TA} {nm : Option Str}
theorem pk_nil : PK X [] tNil := fun _ _ _ _ H Q I h => wpAny_evalAll_nil ⟨[], H, I, .nil, h⟩
theorem pk_cons (ha : PE X e te) (hr : PK X kws t) : PK X (⟨nm, e, kpos⟩ :: kws) (tCons te t) := by
  intro pos pins s σ H Q I h
  show wpAny _ _ (evalAll ((do let v ← eval e X.env; standAt pos; pure v) :: (backToKw pos (keywordEach kws X.env)).map (·.2))) _ _ s
  refine wpAny_evalAll_cons (wpAny_bind (thn (ha pins s σ H _ I h) fun u s1 ⟨x, H1, I1, r1, q1⟩ => wpAny_bind (wpAny_standAt (wpAny_pure ?_))))
  exact thn (hr pos pins s1 σ H1 _ I1 q1) fun us s2 ⟨xs, H2, I2, r2, q2⟩ => ⟨x :: xs, H2, I2, .cons r1 r2, q2⟩
variable {g : List Value → List Value → List Value} {gV : List V → List V → List V}
end
structure FnScope (N P : List Str) (sc : Scope) : Prop where
  kind : sc.kind = .function
  co : sc.isCoroutine = false
  gen : sc.isGenerator = false
  nd : N.Nodup
  pre : N.take P.length = P
  par : ∀ x ∈ P, sc.names.lookup x = some .local ∨ sc.names.lookup x = some .cell
  nofree : ∀ y ∈ sc.names, y.2 ≠ .free
theorem bindL_out {kindOf : Str → Option NameKind} {x : Str} : ∀ {binds : List (Str × Value)} {m : Str → Option Value}, (∀ v, (x, v) ∉ binds) → bindL kindOf binds m x = m x
  | [], _, _ => rfl
  | (n, v) :: r, m, h => by
    unfold bindL
    rw [bindL_out fun w hw => h w (List.mem_cons_of_mem _ hw)]
    split
    · have : x ≠ n := by rintro rfl; exact h v List.mem_cons_self
      simp [this]
    · rfl
theorem bindC_out {kindOf : Str → Option NameKind} {x : Str} : ∀ {binds : List (Str × Value)} {m : Str → Option Value}, (∀ v, (x, v) ∉ binds) → bindC kindOf binds m x = m x
  | [], _, _ => rfl
  | (n, v) :: r, m, h => by
    unfold bindC
    rw [bindC_out fun w hw => h w (List.mem_cons_of_mem _ hw)]
    split
    · rfl
    · have : x ≠ n := by rintro rfl; exact h v List.mem_cons_self
      simp [this]
theorem bindL_get {kindOf : Str → Option NameKind} {x : Str} {v : Value} : ∀ {P : List Str} {vs : List Value} {i : Nat} {m : Str → Option Value}, P.Nodup → P[i]? = some x → vs[i]? = some v → kindOf x = some .local →
    bindL kindOf (P.zip vs) m x = some v
  | [], _, _, _, _, h, _, _ => by simp at h
  | _ :: _, [], _, _, _, _, h, _ => by simp at h
  | p :: P, w :: vs, 0, m, nd, h1, h2, hk => by
    simp at h1 h2; subst h1; subst h2
    show bindL kindOf ((p, w) :: P.zip vs) m p = _
    unfold bindL
    rw [bindL_out fun v hv => (List.nodup_cons.mp nd).1 (List.of_mem_zip hv).1, if_pos hk]
    simp
  | p :: P, w :: vs, i + 1, m, nd, h1, h2, hk => by
    show bindL kindOf ((p, w) :: P.zip vs) m x = _
    unfold bindL
    exact bindL_get (i := i) (List.nodup_cons.mp nd).2 (by simpa using h1) (by simpa using h2) hk
theorem bindC_get {kindOf : Str → Option NameKind} {x : Str} {v : Value} : ∀ {P : List Str} {vs : List Value} {i : Nat} {m : Str → Option Value}, P.Nodup → P[i]? = some x → vs[i]? = some v → kindOf x ≠ some .local →
    bindC kindOf (P.zip vs) m x = some v
  | [], _, _, _, _, h, _, _ => by simp at h
  | _ :: _, [], _, _, _, _, h, _ => by simp at h
  | p :: P, w :: vs, 0, m, nd, h1, h2, hk => by
    simp at h1 h2; subst h1; subst h2
    show bindC kindOf ((p, w) :: P.zip vs) m p = _
    unfold bindC
    rw [bindC_out fun v hv => (List.nodup_cons.mp nd).1 (List.of_mem_zip hv).1, if_neg hk]
    simp
  | p :: P, w :: vs, i + 1, m, nd, h1, h2, hk => by
    show bindC kindOf ((p, w) :: P.zip vs) m x = _
    unfold bindC
    exact bindC_get (i := i) (List.nodup_cons.mp nd).2 (by simpa using h1) (by simpa using h2) hk
def start (N : List Str) (vs : List V) : St := vs.map some ++ List.replicate (N.length - vs.length) none
def cxOf (CX : CXT) (P : Program) (w : World) (K : PySem.W.Frag) (mg : Str → Option Value) (base : Heap) (N : List Str) (qual : Str) (scope : Scope) (f : Addr) (cd : Value) (A : Around) (outer : List Env) (s : Shared) (H : Hp) (E : XK) : Cx where
  prog := P
  w := w
  K := K
  mg := mg
  base := base
  A := A.deeper (envOfC qual scope s.heap.objs.size f cd)
  N := N
  s₀ := s
  H₀ := H
  env := envOfC qual scope s.heap.objs.size f cd
  outer := outer
  stack := envOfC qual scope s.heap.objs.size f cd :: outer
  ex := []
  calm := true
  fn := fun _ => true
  pn := []
  xe := fun e s' => wpAny (model P w) (A.deeper (envOfC qual scope s.heap.objs.size f cd)) (leaving (envOfC qual scope s.heap.objs.size f cd) e) (fun _ s'' => CX outer H s E e s'') (fun e' s'' => CX outer H s E e' s'') s'
theorem cell_has {sc : Scope} {n : Nat} {x : Str} (h : sc.names.lookup x = some .cell) : ∃ c, (cellsFrom n sc.names []).lookup x = some c := by
  have q := PySem.W.cellsFrom_some sc.names n [] (.inl h)
  exact Option.isSome_iff_exists.mp q
theorem inv_start {CX : CXT} {P : Program} {w : World} {K : PySem.W.Frag} {mg : Str → Option Value} {base : Heap} {N ps : List Str} {qual : Str} {scope : Scope} {f : Addr} {cd : Value} {A : Around} {outer : List Env} {s s1 : Shared} {H : Hp} {E : XK} {us : List Value} {vs : List V}
    (S : FnScope N ps scope) (hd : A.handled = none) (e0 : Env0 P w K mg base A outer s H) (hl : vs.length = ps.length) (r : Vals vs us)
    (x : InCallC s s.heap.objs.size (bindL (envOfC qual scope s.heap.objs.size f cd).kindOf (ps.zip us) fun _ => none) (cellsFrom (s.heap.objs.size + 1) scope.names []) (bindC (envOfC qual scope s.heap.objs.size f cd).kindOf (ps.zip us) fun _ => none) s1) :
    Inv (cxOf CX P w K mg base N qual scope f cd A outer s H E) [] (start N vs) H s1 := by
  have hpl : ps.length ≤ N.length := by have := congrArg List.length S.pre; rw [List.length_take] at this; omega
  obtain ⟨h1, tk, rfl, hk⟩ := x.done
  have noA : ∀ b : Addr, b ∉ (cxOf CX P w K mg base N qual scope f cd A outer s H E).ex := fun b z => absurd (show b ∈ ([] : List Addr) from z) (by simp)
  refine ⟨⟨e0.mod, S.kind, rfl, rfl, Nat.le_refl _, fun y z c h1 h2 => ?_, fun y hy => ?_, fun y c _ h => ?_, fun _ => hd, Around.frames_deeper e0.frames, .inr ⟨rfl, rfl⟩, fun b z => absurd z (noA b), e0.bs, e0.bsz, fun b _ _ => noA b, fun b z => absurd z (noA b), e0.funs, e0.frf⟩,
    rfl, e0.bare, Un.kept hk, ⟨_, x.toInCall.ns, fun i y v h1 h2 h3 => ?_⟩, fun y c h => ⟨_, x.cell y c h⟩, e0.hok.fresh (Nat.le_refl _), fun y c h => ?_, fun p hp => absurd (show p ∈ ([] : List (Addr × Obj)) from hp) (by simp), e0.hok.kept hk, ?_⟩
  · exact name_of_addr x.apart (PySem.mem_of_lookup h1) (PySem.mem_of_lookup h2)
  · have hy : scope.names.lookup y = some .cell ∨ scope.names.lookup y = some .free := hy
    rcases hy with hy | hy
    · exact cell_has hy
    · exact absurd rfl (S.nofree _ (PySem.mem_of_lookup hy))
  · exact Nat.le_of_lt (x.above y c (PySem.mem_of_lookup h))
  · have hi : i < vs.length := by
      unfold start at h2
      by_cases hi : i < vs.length
      · exact hi
      · rw [List.getElem?_append_right (by simpa using hi)] at h2
        rw [List.getElem?_replicate] at h2
        split at h2 <;> cases h2
    have ha : vs[i]? = some v := by
      unfold start at h2
      rw [List.getElem?_append_left (by simpa using hi), List.getElem?_map] at h2
      cases e : vs[i]? with
      | none => rw [e] at h2; cases h2
      | some a => rw [e] at h2; cases h2; rfl
    obtain ⟨u, hu, rv⟩ := r.get ha
    have hp : ps[i]? = some y := by
      rw [← S.pre, List.getElem?_take_of_lt (by omega)]; exact h1
    have ndP : ps.Nodup := by rw [← S.pre]; exact S.nd.sublist (List.take_sublist _ _)
    refine ⟨u, rv, ?_⟩
    rcases S.par y (List.mem_of_getElem? hp) with k | k
    · exact .inl ⟨k, bindL_get ndP hp hu k⟩
    · obtain ⟨c, e⟩ := cell_has (n := s.heap.objs.size + 1) k
      refine .inr ⟨.inl k, c, e, ?_⟩
      have q := x.cell y c e
      rw [bindC_get ndP hp hu (by show scope.names.lookup y ≠ _; rw [k]; decide)] at q
      exact q
  · exact e0.hok.fresh (Nat.le_of_lt (x.above y c (PySem.mem_of_lookup h)))
  · unfold start
    show _ = N.length
    rw [List.length_append, List.length_map, List.length_replicate]
    omega
theorem fn_of {CX : CXT} {P : Program} {w : World} {K : PySem.W.Frag} {mg : Str → Option Value} {base : Heap} {k : Nat} {f : Addr} {name qual : Str} {params : Arguments} {body : List Stmt} {scope : Scope} {dV kV doc pm cdv ct oc : Value} {an od : Option Addr}
    {osl : Array (Option Value)} {N ps : List Str} {sp : Sp} (lk : K.lookup f = some ⟨oc, od, .func (PySem.W.fnOf name qual params body scope dV kV doc pm an cdv ct), osl⟩) (hcd : PySem.W.codeIn K cdv qual = true) (S : FnScope N ps scope)
    (len : ∀ vs H Q E, sp vs H Q E → vs.length = ps.length)
    (hbody : ∀ (A : Around) (outer : List Env) (s : Shared) (H : Hp) (vs : List V) (Q : VK) (E : XK), Room k (A.deeper (envOfC qual scope s.heap.objs.size f cdv)) → sp vs H Q E →
      ∃ t, PSs (cxOf CX P w K mg base N qual scope f cdv A outer s H E) body t ∧ t { nx := fun _ H' => Q .non H', rt := Q } (start N vs) H) :
    FnOk P w K mg base CX (k + 1) f (PySem.W.fnOf name qual params body scope dV kV doc pm an cdv ct) ps sp := by
  refine ⟨len, fun A outer s H args us vs Q E hr e0 hb r hsp => ?_⟩
  have hl := len _ _ _ _ hsp
  have KX : K.In s.heap := e0.mod.kin.keeps fun b o e => (e0.bs b o e).1
  have lim : s.heap.NoLimit := e0.mod.nolimit.keeps fun b o e => (e0.bs b o e).1
  have hkind : ∀ y ∈ ps.zip us, scope.names.lookup y.1 = some .local ∨ (scope.names.lookup y.1 = some .cell ∧ ((cellsFrom (s.heap.objs.size + 1) scope.names []).lookup y.1).isSome = true) := fun ⟨n, v⟩ hy => by
    rcases S.par n (List.of_mem_zip hy).1 with q | q
    · exact .inl q
    · exact .inr ⟨q, PySem.W.cellsFrom_some _ _ _ (.inl q)⟩
  refine codeAny_call_function hr.depth (KX _ _ lk) rfl S.co S.gen rfl (PySem.W.codeRec_of KX hcd) (hb _ _ _ _ ?_)
  refine wpAny_newFunctionEnv_cells S.kind hkind fun env he s1 x => ?_
  subst he
  refine ⟨lim.keeps x.toInCall.keep, codeAny_func ?_⟩
  obtain ⟨t, ht, hq⟩ := hbody A outer s H vs Q E (hr.deeper _) hsp
  have I : Inv (cxOf CX P w K mg base N qual scope f cdv A outer s H E) [] (start N vs) H s1 := inv_start S hr.hd e0 hl r x
  refine wpAny_mono (ht [] s1 (start N vs) H _ I hq) (fun fl s' hs => ?_) fun e s' hs => hs
  have fin : ∀ {σ' : St} {H' : Hp} {v : V} {u : Value}, Inv (cxOf CX P w K mg base N qual scope f cdv A outer s H E) [] σ' H' s' → RelV v u → Q v H' → CE outer P w H s Q u s' :=
    fun {σ' H' v u} J rv q => ⟨v, H', J.os, J.bare, J.base, J.hok, rv, q⟩
  cases fl with
  | ret u =>
    obtain ⟨v, σ', H', J, rv, q⟩ := hs
    exact fin J rv q
  | next =>
    obtain ⟨σ', H', J, q⟩ := hs
    exact fin (v := V.non) (u := Value.none) J rfl q
  | brk =>
    obtain ⟨_, _, _, q⟩ := hs
    exact False.elim q
  | cont =>
    obtain ⟨_, _, _, q⟩ := hs
    exact False.elim q
end L2
namespace L2
open PySem PySem.Spec PyProof.Rows
section
variable {X : Cx} {x : Str} {p pos : Pos} {e : Expr} {es : List Expr} {t : TA} {id T : String} {r : List V → Hp → VK → Prop}
def tCB (r : List V → Hp → VK → Prop) (t : TA) : TE := fun σ H Q => t σ H fun vs H1 => r vs H1 Q
theorem pe_callB (hc : CallR X (.builtin id) r) (hg : Gl X x) (hm : X.mg x = none) (hv : bootBuiltins x = some (.builtin id)) (ha : PA X (e :: es) t) (hn : x ≠ "__name__" := by decide) (hdb : (x == ("__debug__" : Str)) = false := by decide)
    (he : starEach (e :: es) X.env = (false, eval e X.env) :: starEach es X.env := by rfl) (hpl : (backTo pos (starEach es X.env)).any (·.1) = false := by rfl) : PE X (.Call (.Name x p) (e :: es) [] pos) (tCB r t) := by
  intro pins s σ H Q I h
  refine wpAny_Call_Name_kw (ld_blt I hg hm hv ?_ hn hdb)
  exact PyProof.Rows.callWith_builtin1 (thn (ha pos pins s σ H _ I h) fun us s1 ⟨vs, H1, I1, r1, q1⟩ => hc pins s1 σ H1 vs us Q I1 r1 q1) he hpl
theorem pe_callTy (hc : CallR X (.type T) r) (hg : Gl X x) (hm : X.mg x = none) (hv : bootBuiltins x = some (.type T)) (ha : PA X (e :: es) t) (hn : x ≠ "__name__" := by decide) (hdb : (x == ("__debug__" : Str)) = false := by decide)
    (he : starEach (e :: es) X.env = (false, eval e X.env) :: starEach es X.env := by rfl) (hpl : (backTo pos (starEach es X.env)).any (·.1) = false := by rfl) : PE X (.Call (.Name x p) (e :: es) [] pos) (tCB r t) := by
  intro pins s σ H Q I h
  refine wpAny_Call_Name_kw (ld_blt I hg hm hv ?_ hn hdb)
  exact PyProof.Rows.callWith_type1 (thn (ha pos pins s σ H _ I h) fun us s1 ⟨vs, H1, I1, r1, q1⟩ => hc pins s1 σ H1 vs us Q I1 r1 q1) he hpl
end
end L2
namespace HT
open PySem PyProof.Rows
section
open PySem.SeqAt
open PySem.AutoSeq1 (wpAny_loadPart')
open PySem.MeetsSeq PySem.MeetsSeq2 PySem.MeetsSeq3
end
section
variable {prog : Program} {w : World} {A : Around} {E : Value → Shared → Prop} {s : Shared}
def sIx (n d : Nat) : Option Int → Nat
  | none => d
  | some v => if v < 0 then (v + (n : Int)).toNat else min v.toNat n
theorem sIx_none (n d : Nat) : sIx n d none = d := rfl
theorem sIx_nat (n d k : Nat) : sIx n d (some (k : Int)) = min k n := by
  show (if (k : Int) < 0 then ((k : Int) + (n : Int)).toNat else min (k : Int).toNat n) = min k n
  rw [if_neg (by omega), Int.toNat_natCast]
end
end HT
namespace L2
open PySem PySem.Spec PyProof.Rows
abbrev TO := St → Hp → (Option Int → Hp → Prop) → Prop
def PO (X : Cx) (e : Option Expr) (t : TO) : Prop :=
  ∀ (pins : List (Addr × Obj)) (s : Shared) (σ : St) (H : Hp) (Q : Option Int → Hp → Prop), Inv X pins σ H s → t σ H Q →
    wpAny (model X.prog X.w) X.A (evalPart e X.env) (fun u s' => ∃ o H', Inv X pins σ H' s' ∧ IsPart u o ∧ Q o H') X.xe s
def tNoPart : TO := fun _ H Q => Q none H
def tPart (t : TE) : TO := fun σ H Q => t σ H fun x H1 => ∃ i, x = .int i ∧ Q (some i) H1
section
variable {X : Cx} {e : Expr} {te : TE} {lo hi : Option Expr} {tl th : TO} {pos p2 : Pos}
theorem po_none : PO X none tNoPart := by
  intro pins s σ H Q I h
  rw [evalPart_none]
  exact wpAny_pure ⟨none, H, I, .none, h⟩
theorem po_some (h : PE X e te) : PO X (some e) (tPart te) := by
  intro pins s σ H Q I hw
  rw [evalPart_some]
  refine thn (h pins s σ H _ I hw) fun u s1 ⟨x, H1, I1, r1, q1⟩ => ?_
  obtain ⟨i, rfl, q⟩ := q1
  obtain ⟨t, rfl⟩ := r1
  exact ⟨some i, H1, I1, .int i t, q⟩
def SlR (X : Cx) (r : V → Option Int → Option Int → Hp → VK → Prop) : Prop :=
  ∀ (pins : List (Addr × Obj)) (s : Shared) (σ : St) (H : Hp) (x : V) (v vl vu : Value) (lo hi : Option Int) (sl : Addr) (Q : VK), Inv X pins σ H s → RelV x v → s.heap.IsSliceOf sl vl vu .none → IsPart vl lo → IsPart vu hi → r x lo hi H Q →
    ∃ T id, typeLookup (.type T) "__getitem__" = pure (some (.builtin id)) ∧ s.TypeIs v T ∧ wpAny (model X.prog X.w) X.A (getItem v (.ref sl)) (EP X pins σ Q) X.xe s
def tSl (r : V → Option Int → Option Int → Hp → VK → Prop) (te : TE) (tl th : TO) : TE := fun σ H Q => te σ H fun x H1 => tl σ H1 fun l H2 => th σ H2 fun u H3 => r x l u H3 Q
theorem pe_slice {r : V → Option Int → Option Int → Hp → VK → Prop} (hr : SlR X r) (he : PE X e te) (hl : PO X lo tl) (hu : PO X hi th) : PE X (.Subscript e (.Slice lo hi none p2) pos) (tSl r te tl th) := by
  intro pins s σ H Q I h
  refine Subscript_ (thn (he pins s σ H _ I h) fun v s1 ⟨x, H1, I1, r1, q1⟩ => ?_)
  refine wpAny_Slice (thn (hl pins s1 σ H1 _ I1 q1) fun vl s2 ⟨l, H2, I2, pl, q2⟩ => thn (hu pins s2 σ H2 _ I2 q2) fun vu s3 ⟨u, H3, I3, pu, q3⟩ => ?_)
  rw [evalPart_none]
  refine wpAny_pure ?_
  have I4 : Inv X pins σ H3 { s3 with heap := s3.heap.push { cls := .type "slice", data := .fields #[vl, vu, .none] } } := I3.kept (t' := s3.toks) fun b ob q => Heap.get?_push_of_some _ q
  obtain ⟨T, id, hT, ht, hg⟩ := hr pins { s3 with heap := s3.heap.push { cls := .type "slice", data := .fields #[vl, vu, .none] } } σ H3 x v vl vu l u s3.heap.objs.size Q I4 r1 (Heap.IsSliceOf.new ..) pl pu q3
  show wpAny (model X.prog X.w) X.A (subscriptTail e (.Slice lo hi none p2) v (.ref s3.heap.objs.size)) (EP X pins σ Q) X.xe { s3 with heap := s3.heap.push { cls := .type "slice", data := .fields #[vl, vu, .none] } }
  exact tail_any (ops := [.ref s3.heap.objs.size, v]) ht hT hg (by with_unfolding_all rfl)
def cutV (xs : List V) (lo hi : Option Int) : List V := (xs.drop (HT.sIx xs.length 0 lo)).take (HT.sIx xs.length xs.length hi - HT.sIx xs.length 0 lo)
theorem cutV_length (xs : List V) (lo hi : Option Int) : (cutV xs lo hi).length ≤ xs.length := by
  unfold cutV
  rw [List.length_take, List.length_drop]
  omega
end
end L2
namespace L2
open PySem PySem.Spec PyProof.Rows
def ixN (n : Nat) (i : Int) : Option Nat := if 0 ≤ i then (if i < n then some i.toNat else none) else if -(n : Int) ≤ i then some (i + n).toNat else none
def atI {α : Type} (xs : List α) (i : Int) : Option α := (ixN xs.length i).bind fun j => xs[j]?
theorem ixN_seq {n : Nat} {i : Int} {j : Nat} (h : ixN n i = some j) : seqIndex? i n = some j ∧ j < n ∧ -(n : Int) ≤ i ∧ i < n := by
  unfold ixN at h
  by_cases h0 : 0 ≤ i
  · rw [if_pos h0] at h
    by_cases h1 : i < n
    · rw [if_pos h1] at h
      have e : i.toNat = j := Option.some.inj h
      exact ⟨by rw [seqIndex_of h0 h1, e], by omega, by omega, h1⟩
    · rw [if_neg h1] at h; cases h
  · rw [if_neg h0] at h
    by_cases h1 : -(n : Int) ≤ i
    · rw [if_pos h1] at h
      have e : (i + n).toNat = j := Option.some.inj h
      exact ⟨by rw [seqIndex_neg (by omega) h1, e], by omega, h1, by omega⟩
    · rw [if_neg h1] at h; cases h
theorem atI_get {α : Type} {xs : List α} {i : Int} {v : α} (h : atI xs i = some v) : ∃ j, seqIndex? i xs.length = some j ∧ xs[j]? = some v ∧ j < xs.length ∧ -(xs.length : Int) ≤ i ∧ i < xs.length := by
  unfold atI at h
  cases e : ixN xs.length i with
  | none => rw [e] at h; cases h
  | some j =>
    rw [e] at h
    obtain ⟨h1, h2, h3, h4⟩ := ixN_seq e
    exact ⟨j, h1, h, h2, h3, h4⟩
theorem atI_nat {α : Type} {xs : List α} {j : Nat} {v : α} (h : xs[j]? = some v) : atI xs (j : Int) = some v := by
  have hj : j < xs.length := (List.getElem?_eq_some_iff.mp h).1
  have e : ixN xs.length (j : Int) = some j := by
    unfold ixN
    rw [if_pos (by omega), if_pos (by omega)]; simp
  unfold atI; rw [e]; exact h
theorem atI_last {α : Type} (xs : List α) (v : α) : atI (xs ++ [v]) (-1) = some v := by
  have hl : (xs ++ [v]).length = xs.length + 1 := by simp
  have e : ixN (xs ++ [v]).length (-1) = some xs.length := by
    unfold ixN
    rw [hl, if_neg (by decide), if_pos (by omega)]
    congr 1
    omega
  unfold atI
  rw [e]
  show (xs ++ [v])[xs.length]? = some v
  simp
def PlainIx (b : Expr) : Prop := ∀ o i, subscripted b false o i = operate [o, i] (getItem o i)
def IxR (X : Cx) (r : R2) : Prop :=
  ∀ (value slice : Expr) (pins : List (Addr × Obj)) (s : Shared) (σ : St) (H : Hp) (x y : V) (v u : Value) (Q : VK), Inv X pins σ H s → RelV x v → RelV y u → r x y H Q →
    subscripted slice false v u = operate [v, u] (getItem v u) → wpAny (model X.prog X.w) X.A (subscriptTail value slice v u) (EP X pins σ Q) X.xe s
def MtR (X : Cx) (id : String) (r : V → List V → Hp → VK → Prop) : Prop :=
  ∀ (pins : List (Addr × Obj)) (s : Shared) (σ : St) (H : Hp) (x : V) (xs : List V) (v : Value) (us : List Value) (Q : VK), Inv X pins σ H s → RelV x v → Vals xs us → r x xs H Q →
    wpAny (model X.prog X.w) X.A (call (.builtin id) (v :: us)) (EP X pins σ Q) X.xe s
section
variable {X : Cx} {a b : Expr} {ta tb : TE} {pos : Pos}
theorem IxR.or {r r' : R2} (h : IxR X r) (h' : IxR X r') : IxR X (fun x y H Q => r x y H Q ∨ r' x y H Q) := by
  intro value slice pins s σ H x y v u Q I rx ry q hs
  rcases q with q | q
  · exact h value slice pins s σ H x y v u Q I rx ry q hs
  · exact h' value slice pins s σ H x y v u Q I rx ry q hs
theorem pe_ix {r : R2} (hr : IxR X r) (ha : PE X a ta) (hb : PE X b tb) (hs : PlainIx b) : PE X (.Subscript a b pos) (tOp r ta tb) := by
  intro pins s σ H Q I h
  exact Subscript_ (binT ha hb I h fun v u s2 x y H2 I2 rx ry q => hr a b pins s2 σ H2 x y v u Q I2 rx ry q (hs _ _))
def rIxL (K : PySem.W.Frag) : R2 := fun x y H Q => ∃ p xs i v, x = .ref p ∧ y = .int i ∧ SqL K H p xs ∧ atI xs i = some v ∧ Q v H
def rIxT (K : PySem.W.Frag) : R2 := fun x y H Q => ∃ p xs i v, x = .ref p ∧ y = .int i ∧ SqT K H p xs ∧ atI xs i = some v ∧ Q v H
theorem ix_list : IxR X (rIxL X.K) := by
  intro value slice pins s σ H x y v u Q I rx ry h hs
  obtain ⟨p, xs, i, z, rfl, rfl, hq, he, q⟩ := h
  cases rx
  obtain ⟨t, rfl⟩ := ry
  obtain ⟨its, r, pl, hz⟩ := I.list hq
  obtain ⟨j, h1, h2, h3, h4, h5⟩ := atI_get he
  obtain ⟨w, ew, rw'⟩ := r.get h2
  have hl := r.length
  have hn := line63
  have fin : EP X pins σ Q w s := ⟨z, H, I, rw', q⟩
  by_cases h0 : 0 ≤ i
  · have hj : i.toNat = j := by
      rw [seqIndex_of h0 h5] at h1
      exact Option.some.inj h1
    exact item_listR pl.isList h0 (by omega) (by rw [hj]; simpa using ew) fin hs
  · have hj : (i + (its.toArray.size : Int)).toNat = j := by
      rw [seqIndex_neg (by omega) h4] at h1
      rw [List.size_toArray, ← hl]
      exact Option.some.inj h1
    exact subscriptTail_builtinR (x := w) pl.isList.typeIs slot_list_getitem.lookup
      (wpAny_getItem_list_neg (Q := fun r s' => r = w ∧ EP X pins σ Q r s') pl.isList (by omega) (by rw [List.size_toArray] <;> omega) (by omega) (by rw [hj]; simpa using ew) ⟨rfl, fin⟩) hs
theorem ix_tup : IxR X (rIxT X.K) := by
  intro value slice pins s σ H x y v u Q I rx ry h hs
  obtain ⟨p, xs, i, z, rfl, rfl, hq, he, q⟩ := h
  cases rx
  obtain ⟨t, rfl⟩ := ry
  obtain ⟨its, r, pl, hz⟩ := I.tuple hq
  obtain ⟨j, h1, h2, h3, h4, h5⟩ := atI_get he
  obtain ⟨w, ew, rw'⟩ := r.get h2
  have hl := r.length
  have hn := line63
  have fin : EP X pins σ Q w s := ⟨z, H, I, rw', q⟩
  exact subscriptTail_builtinR (x := w) pl.typeIs slot_tuple_getitem.lookup
    (getItem_tuple (j := j) (Q := fun r s' => r = w ∧ EP X pins σ Q r s') pl (by omega) (by omega) (by rw [List.size_toArray, ← hl]; exact h1) (by simpa using ew) ⟨rfl, fin⟩) hs
theorem slice_bounds (lo hi : Option Int) (n : Nat) : (sliceBounds lo hi none n).1 = ((HT.sIx n 0 lo : Nat) : Int) ∧ (sliceBounds lo hi none n).2.1 = ((HT.sIx n n hi : Nat) : Int) ∧ (sliceBounds lo hi none n).2.2 = 1 := by
  refine ⟨?_, ?_, rfl⟩
  · cases lo with
    | none => simp [sliceBounds, HT.sIx]
    | some i =>
      simp only [sliceBounds, HT.sIx, Option.getD_none, show (1 : Int) > 0 by decide, if_true]
      by_cases h : i < 0
      · simp only [h, if_true] <;> omega
      · simp only [h, if_false] <;> omega
  · cases hi with
    | none => simp [sliceBounds, HT.sIx]
    | some i =>
      simp only [sliceBounds, HT.sIx, Option.getD_none, show (1 : Int) > 0 by decide, if_true]
      by_cases h : i < 0
      · simp only [h, if_true] <;> omega
      · simp only [h, if_false] <;> omega
theorem slicePick_cut (its : List Value) (lo hi : Option Int) : slicePick its.toArray lo hi none = ((its.drop (HT.sIx its.length 0 lo)).take (HT.sIx its.length its.length hi - HT.sIx its.length 0 lo)).toArray := by
  obtain ⟨h1, h2, h3⟩ := slice_bounds lo hi its.toArray.size
  unfold slicePick
  rw [h1, h2, h3]
  simp only [sliceRange_one, pick_run, List.size_toArray] <;> rfl
def rSlL (K : PySem.W.Frag) : V → Option Int → Option Int → Hp → VK → Prop := fun x lo hi H Q => ∃ a xs, x = .ref a ∧ SqL K H a xs ∧ ∀ p, H p = none → Q (.ref p) (upd H p (.lst (cutV xs lo hi)))
theorem sl_list : SlR X (rSlL X.K) := by
  intro pins s σ H x v vl vu lo hi sl Q I rx hs pl pu h
  obtain ⟨a, xs, rfl, hx, q⟩ := h
  cases rx
  obtain ⟨its, r, ht, hz⟩ := I.list hx
  have hlen := r.length
  refine ⟨"list", _, slot_list_getitem.lookup, ht.isList.typeIs, ?_⟩
  refine wpAny_getItem_list_slice ht.isList hs pl pu .none (by simp) ?_ (by rw [List.size_toArray] <;> omega)
  rw [slicePick_cut, ← hlen]
  refine ⟨.ref s.heap.objs.size, _, I.laid (t' := s.toks) (o := .lst (cutV xs lo hi)) (fun b ob q => Heap.get?_push_of_some _ q) (Nat.le_refl _) ?_, rfl, q _ (I.hok.fresh (Nat.le_refl _))⟩
  exact ⟨Nat.le_trans (cutV_length xs lo hi) hz, _, 0, (r.drop (HT.sIx xs.length 0 lo)).take (HT.sIx xs.length xs.length hi - HT.sIx xs.length 0 lo), Heap.get?_push_size _ rfl⟩
def flatV : V → Bool
  | .non => true
  | .bl _ => true
  | .int _ => true
  | .str _ => true
  | _ => false
def eqV : V → V → Bool
  | .non, .non => true
  | .bl a, .bl b => a == b
  | .bl a, .int b => (if a then 1 else 0) == b
  | .int a, .bl b => a == (if b then 1 else 0)
  | .int a, .int b => a == b
  | .str a, .str b => a == b
  | _, _ => false
theorem eqAt_V {A : Around} {s : Shared} {y x : V} {u v : Value} (ry : RelV y u) (rx : RelV x v) (fy : flatV y = true) (fx : flatV x = true) : SeqAt.EqAt A s u v (eqV y x) := by
  cases y with
  | non =>
    cases ry
    cases x with
    | non => cases rx; exact SeqAt.EqAt.same _
    | bl b => cases rx; exact SeqAt.EqAt.none_bool b
    | int b => obtain ⟨t, rfl⟩ := rx; exact SeqAt.EqAt.none_int b t
    | str b => obtain ⟨t, rfl⟩ := rx; exact SeqAt.EqAt.none_str b t
    | _ => exact absurd (show false = true from fx) Bool.false_ne_true
  | bl a =>
    cases ry
    cases x with
    | non => cases rx; exact SeqAt.EqAt.bool_none a
    | bl b => cases rx; exact SeqAt.EqAt.bool_bool a b
    | int b => obtain ⟨t, rfl⟩ := rx; exact SeqAt.EqAt.bool_int a b t
    | str b => obtain ⟨t, rfl⟩ := rx; exact SeqAt.EqAt.bool_str a b t
    | _ => exact absurd (show false = true from fx) Bool.false_ne_true
  | int a =>
    obtain ⟨t', rfl⟩ := ry
    cases x with
    | non => cases rx; exact SeqAt.EqAt.int_none a t'
    | bl b => cases rx; exact SeqAt.EqAt.int_bool a t' b
    | int b => obtain ⟨t, rfl⟩ := rx; exact SeqAt.EqAt.int_int a t' b t
    | str b => obtain ⟨t, rfl⟩ := rx; exact SeqAt.EqAt.int_str a t' b t
    | _ => exact absurd (show false = true from fx) Bool.false_ne_true
  | str a =>
    obtain ⟨t', rfl⟩ := ry
    cases x with
    | non => cases rx; exact SeqAt.EqAt.str_none a t'
    | bl b => cases rx; exact SeqAt.EqAt.str_bool a t' b
    | int b => obtain ⟨t, rfl⟩ := rx; exact SeqAt.EqAt.str_int a t' b t
    | str b => obtain ⟨t, rfl⟩ := rx; exact SeqAt.EqAt.str_str a t' b t
    | _ => exact absurd (show false = true from fx) Bool.false_ne_true
  | _ => exact absurd (show false = true from fy) Bool.false_ne_true
def eqU (x : V) (u : Value) : Bool := match u with
  | .none => eqV .non x
  | .bool b => eqV (.bl b) x
  | .int i _ => eqV (.int i) x
  | .str z _ => eqV (.str z) x
  | _ => false
theorem eqU_of {x y : V} {u : Value} (r : RelV y u) (f : flatV y = true) : eqU x u = eqV y x := by
  cases y with
  | non => cases r; rfl
  | bl b => cases r; rfl
  | int i => obtain ⟨t, rfl⟩ := r; rfl
  | str z => obtain ⟨t, rfl⟩ := r; rfl
  | _ => exact absurd (show false = true from f) Bool.false_ne_true
theorem any_eqU {x : V} : ∀ {xs : List V} {us : List Value}, Vals xs us → xs.all flatV = true → us.any (eqU x) = xs.any fun y => eqV y x
  | _, _, .nil, _ => rfl
  | y :: xs, u :: us, .cons r t, f => by
    rw [List.all_cons, Bool.and_eq_true] at f
    rw [List.any_cons, List.any_cons, eqU_of r f.1, any_eqU t f.2]
theorem mem_eqAt {A : Around} {s : Shared} {x : V} {v : Value} (rx : RelV x v) (fx : flatV x = true) : ∀ {xs : List V} {us : List Value}, Vals xs us → xs.all flatV = true → ∀ u ∈ us, SeqAt.EqAt A s u v (eqU x u)
  | _, _, .nil, _ => fun u hu => by cases hu
  | y :: xs, u :: us, .cons r t, f => fun u' hu => by
    rw [List.all_cons, Bool.and_eq_true] at f
    rcases List.mem_cons.mp hu with rfl | hu
    · rw [eqU_of r f.1]; exact eqAt_V r rx f.1 fx
    · exact mem_eqAt rx fx t f.2 u' hu
def inV (x : V) (xs : List V) : Bool := xs.any fun y => eqV y x
def rIn (K : PySem.W.Frag) (neg : Bool) : R2 := fun x y H Q => ∃ p xs, y = .ref p ∧ (SqL K H p xs ∨ SqT K H p xs) ∧ flatV x = true ∧ xs.all flatV = true ∧ Q (.bl (if neg then !inV x xs else inV x xs)) H
theorem op_in_seq : OpR X (compareOp .In) (rIn X.K false) := by
  intro pins s σ H x y v u Q I rx ry h
  obtain ⟨p, xs, rfl, hq, fx, fs, q⟩ := h
  cases ry
  rcases hq with hq | hq
  · obtain ⟨its, r, pl, hz⟩ := I.list hq
    refine SeqAt.in_listAt (eqU x) pl.isList (fun w hw => mem_eqAt rx fx r fs w (by simpa using hw)) ⟨.bl _, H, I, rfl, ?_⟩
    rw [show its.toArray.any (eqU x) = its.any (eqU x) by simp, any_eqU r fs]
    exact q
  · obtain ⟨its, r, pl, hz⟩ := I.tuple hq
    refine SeqAt.in_tupleAt (eqU x) pl (fun w hw => mem_eqAt rx fx r fs w (by simpa using hw)) ⟨.bl _, H, I, rfl, ?_⟩
    rw [show its.toArray.any (eqU x) = its.any (eqU x) by simp, any_eqU r fs]
    exact q
theorem op_notIn_seq : OpR X (compareOp .NotIn) (rIn X.K true) := by
  intro pins s σ H x y v u Q I rx ry h
  obtain ⟨p, xs, rfl, hq, fx, fs, q⟩ := h
  cases ry
  rcases hq with hq | hq
  · obtain ⟨its, r, pl, hz⟩ := I.list hq
    refine SeqAt.notIn_listAt (eqU x) pl.isList (fun w hw => mem_eqAt rx fx r fs w (by simpa using hw)) ⟨.bl _, H, I, rfl, ?_⟩
    rw [show its.toArray.any (eqU x) = its.any (eqU x) by simp, any_eqU r fs]
    exact q
  · obtain ⟨its, r, pl, hz⟩ := I.tuple hq
    refine SeqAt.notIn_tupleAt (eqU x) pl (fun w hw => mem_eqAt rx fx r fs w (by simpa using hw)) ⟨.bl _, H, I, rfl, ?_⟩
    rw [show its.toArray.any (eqU x) = its.any (eqU x) by simp, any_eqU r fs]
    exact q
theorem call_len_seq : CallR X (.builtin "len") (fun xs H Q => ∃ p ys, xs = [.ref p] ∧ (SqL X.K H p ys ∨ SqT X.K H p ys) ∧ Q (.int ys.length) H) := by
  intro pins s σ H xs us Q I r h
  obtain ⟨p, ys, rfl, hq, q⟩ := h
  obtain ⟨u, rfl, rx⟩ := vals1 r
  cases rx
  have hn := line63
  rcases hq with hq | hq
  · obtain ⟨its, r', pl, hz⟩ := I.list hq
    have hlen := r'.length
    exact Calls.call_len_list pl.isList (by simp only [List.size_toArray] <;> omega) ⟨.int ys.length, H, I.tok _, ⟨s.toks + 1, by rw [List.size_toArray, hlen]⟩, q⟩
  · obtain ⟨its, r', pl, hz⟩ := I.tuple hq
    have hlen := r'.length
    exact len_tuple pl (by simp only [List.size_toArray] <;> omega) ⟨.int ys.length, H, I.tok _, ⟨s.toks + 1, by rw [List.size_toArray, hlen]⟩, q⟩
theorem call_len_str : CallR X (.builtin "len") (fun xs H Q => ∃ z, xs = [.str z] ∧ z.length ≤ sizeLine ∧ Q (.int z.length) H) := by
  intro pins s σ H xs us Q I r h
  obtain ⟨z, rfl, hz, q⟩ := h
  obtain ⟨u, rfl, t, rfl⟩ := vals1 r
  have hn := line63
  exact len_str (by omega) ⟨.int z.length, H, I.tok _, ⟨_, rfl⟩, q⟩
theorem CallR.or {f : Value} {r r' : List V → Hp → VK → Prop} (h : CallR X f r) (h' : CallR X f r') : CallR X f (fun xs H Q => r xs H Q ∨ r' xs H Q) := by
  intro pins s σ H xs us Q I rs q
  rcases q with q | q
  · exact h pins s σ H xs us Q I rs q
  · exact h' pins s σ H xs us Q I rs q
def tyV (K : PySem.W.Frag) (T : String) (x : V) (H : Hp) : Prop := match x with
  | .str _ => T = "str"
  | .int _ => T = "int"
  | .ref p => (T = "list" ∧ ∃ xs, SqL K H p xs) ∨ (T = "tuple" ∧ ∃ o, K.lookup p = some o ∧ o.cls = .type "tuple" ∧ o.dict = none) ∨
      (T = "dict" ∧ ((∃ kvs, H p = some (.dK kvs)) ∨ ∃ kvs, H p = some (.dT kvs))) ∨ (T = "set" ∧ ∃ S n, H p = some (.set S n))
  | _ => False
theorem tyV_is {pins : List (Addr × Obj)} {σ : St} {H : Hp} {s : Shared} {T : String} {x : V} {v : Value} (I : Inv X pins σ H s) (r : RelV x v) (ty : tyV X.K T x H) :
    s.TypeIs v T ∧ ∀ a, v = .ref a → ∃ ob, s.heap.get? a = some ob ∧ ob.dict = none := by
  cases x with
  | str z =>
    obtain ⟨t, rfl⟩ := r
    cases (show T = "str" from ty)
    exact ⟨typeIs_str s z t, fun _ e => nomatch e⟩
  | int i =>
    obtain ⟨t, rfl⟩ := r
    cases (show T = "int" from ty)
    exact ⟨typeIs_int s i t, fun _ e => nomatch e⟩
  | ref p =>
    cases r
    rcases ty with ⟨rfl, xs, hq⟩ | ⟨rfl, o, hk, hc, hd⟩ | ⟨rfl, hk⟩ | ⟨rfl, S, n, hk⟩
    · obtain ⟨its, _, pl, _⟩ := I.list hq
      refine ⟨pl.isList.typeIs, fun a e => ?_⟩
      cases e
      obtain ⟨o, n, e, c, hd, _⟩ := pl
      exact ⟨o, e, hd⟩
    · refine ⟨⟨o, I.kIn p o hk, hc⟩, fun a e => ?_⟩
      cases e
      exact ⟨o, I.kIn _ o hk, hd⟩
    · have z : ∃ o, s.heap.get? p = some o ∧ o.ExactDict := by
        rcases hk with ⟨kvs, hk⟩ | ⟨kvs, hk⟩
        · obtain ⟨_, _, _, _, o, _, _, e, ex, _⟩ := I.hok p _ hk
          exact ⟨o, e, ex⟩
        · obtain ⟨_, _, _, _, o, _, _, e, ex, _⟩ := I.hok p _ hk
          exact ⟨o, e, ex⟩
      obtain ⟨o, e, ex⟩ := z
      refine ⟨⟨o, e, ex.1⟩, fun a e2 => ?_⟩
      cases e2
      exact ⟨o, e, ex.2.1⟩
    · obtain ⟨o, _, _, _, e, ex, _⟩ := I.hok p _ hk
      refine ⟨⟨o, e, ex.1⟩, fun a e2 => ?_⟩
      cases e2
      exact ⟨o, e, ex.2.1⟩
  | _ => exact False.elim ty
def tBM0 (K : PySem.W.Frag) (T : String) (r : V → List V → Hp → VK → Prop) (to : TE) : TE := fun σ H Q => to σ H fun x H1 => tyV K T x H1 ∧ r x [] H1 Q
def tBM (K : PySem.W.Frag) (T : String) (r : V → List V → Hp → VK → Prop) (to : TE) (t : TA) : TE := fun σ H Q => to σ H fun x H1 => tyV K T x H1 ∧ t σ H1 fun xs H2 => r x xs H2 Q
variable {o e : Expr} {es : List Expr} {to : TE} {t : TA} {name : Str} {apos cpos : Pos} {T id : String} {r : V → List V → Hp → VK → Prop}
theorem pe_bm0 (pa : PlainAttrs T) (slot : Slot T name id) (hty : typeOf (.builtin id) = pure (.type "method_descriptor")) (hm : MtR X id r) (ho : PE X o to)
    (hbase : attributeBase o name X.env (eval o X.env) = eval o X.env := by rfl) (hline : (apos.endLine == cpos.line) = true := by rfl) : PE X (.Call (.Attribute o name apos) [] [] cpos) (tBM0 X.K T r to) := by
  intro pins s σ H Q I h
  refine wpAny_Call_method0_late hbase hline (thn (ho pins s σ H _ I h) fun v s1 ⟨x, H1, I1, r1, ty, q1⟩ => ?_)
  obtain ⟨h1, h2⟩ := tyV_is I1 r1 ty
  exact ⟨T, id, pa, slot, hty, h1, h2, Calls.callWith_builtin rfl (PySem.evalArgs_none (hm pins s1 σ H1 x [] v [] Q I1 r1 .nil q1))⟩
theorem pe_bm (pa : PlainAttrs T) (slot : Slot T name id) (hty : typeOf (.builtin id) = pure (.type "method_descriptor")) (hm : MtR X id r) (ho : PE X o to) (ha : PA X (e :: es) t)
    (hbase : attributeBase o name X.env (eval o X.env) = eval o X.env := by rfl)
    (hfew : ((backTo cpos (starEach (e :: es) X.env)).all (fun x => !x.1) && (backToKw cpos (keywordEach [] X.env)).all (fun x => x.1.isSome)
      && decide ((e :: es).length + ([] : List Keyword).length + (if ([] : List Keyword).isEmpty then 0 else 1) < 30)) = true := by rfl)
    (hline : (apos.endLine == cpos.line) = true := by rfl) (hs : starEach (e :: es) X.env = (false, eval e X.env) :: starEach es X.env := by rfl) (hplain : (backTo cpos (starEach es X.env)).any (·.1) = false := by rfl) :
    PE X (.Call (.Attribute o name apos) (e :: es) [] cpos) (tBM X.K T r to t) := by
  intro pins s σ H Q I h
  refine wpAny_Call_method_late hbase hfew hline rfl (thn (ho pins s σ H _ I h) fun v s1 ⟨x, H1, I1, r1, ty, q1⟩ => ?_)
  obtain ⟨h1, h2⟩ := tyV_is I1 r1 ty
  refine ⟨T, id, pa, slot, hty, h1, h2, ?_⟩
  have hA := ha cpos pins s1 σ H1 _ I1 q1
  rw [hs] at hA ⊢
  refine Calls.callWith_builtin (by show (false || (backTo cpos (starEach es X.env)).any (·.1)) = false; rw [hplain] <;> rfl) (Calls.evalArgs_plain ?_)
  exact thn hA fun us s2 ⟨vs, H2, I2, r2, q2⟩ => hm pins s2 σ H2 x vs v us Q I2 r1 r2 q2
/- xs.append(e), list.index on a module's tuple .. are MtR facts of 06m -/
end
end L2
namespace L2
open PySem PySem.Spec PyProof.Rows
def MtM (X : Cx) (id : String) (r : V → List V → Hp → VK → Prop) : Prop :=
  ∀ (pins : List (Addr × Obj)) (s : Shared) (σ : St) (H : Hp) (x : V) (xs : List V) (v : Value) (us : List Value) (Q : VK), Inv X pins σ H s → RelV x v → Vals xs us → r x xs H Q →
    wpAny (model X.prog X.w) X.A (call (.builtin id) (v :: us)) (EP X pins σ Q) X.xe s
theorem Vals.one : ∀ {x : V} {us : List Value}, Vals [x] us → ∃ u, us = [u] ∧ RelV x u
  | _, _, .cons r .nil => ⟨_, rfl, r⟩
theorem Vals.zero : ∀ {us : List Value}, Vals [] us → us = []
  | _, .nil => rfl
section
variable {X : Cx} {pins : List (Addr × Obj)} {σ : St} {H : Hp} {s : Shared} {l b : Addr} {xs ys zs : List V}
theorem Inv.lset {its its' : List Value} {n : Nat} {f : Array Value → Array Value} {t' : Nat} (I : Inv X pins σ H s) (hH : H l = some (.lst xs))
    (e : s.heap.get? l = some { cls := .type "list", data := .seq its.toArray n }) (hf : f its.toArray = its'.toArray) (hv : Vals ys its') (hz : ys.length ≤ sizeLine) :
    Inv X pins σ (upd H l (.lst ys)) { s with heap := s.heap.update l (Obj.mapSeq f), toks := t' } := by
  have q := PySem.IsL.update e f
  rw [hf] at q
  refine I.write (x := l) (e := l) (by rw [hH]; exact trivial) (.inl rfl) (fun b' u hb hu => (Heap.get?_update_other s.heap (Obj.mapSeq f) (Ne.symm hb)).trans hu) ⟨_, q⟩ ?_
  exact ⟨hz, its', _, hv, q⟩
theorem Inv.lnew {its : List Value} {t' : Nat} (I : Inv X pins σ H s) (hv : Vals ys its) (hz : ys.length ≤ sizeLine) :
    Inv X pins σ (upd H s.heap.objs.size (.lst ys)) { s with heap := s.heap.push { cls := .type "list", data := .seq its.toArray }, toks := t' } :=
  I.laid (fun _ _ q => Heap.get?_push_of_some _ q) (Nat.le_refl _) ⟨hz, its, 0, hv, Heap.get?_push_size _ rfl⟩
theorem Inv.fresh (I : Inv X pins σ H s) : H s.heap.objs.size = none := I.hok.fresh (Nat.le_refl _)
theorem Inv.lstM (I : Inv X pins σ H s) (hH : H l = some (.lst xs)) : xs.length ≤ sizeLine ∧ ∃ (its : List Value) (n : Nat), Vals xs its ∧ xs.length = its.length ∧ s.heap.get? l = some { cls := .type "list", data := .seq its.toArray n } := by
  obtain ⟨z, its, n, r, e⟩ := I.hok l _ hH
  exact ⟨z, its, n, r, r.length, e⟩
end
section
variable {X : Cx}
def rAppend : V → List V → Hp → VK → Prop := fun x vs H Q => ∃ l xs y, x = .ref l ∧ vs = [y] ∧ H l = some (.lst xs) ∧ xs.length < sizeLine ∧ Q .non (upd H l (.lst (xs ++ [y])))
theorem mt_append : MtM X "list.append" rAppend := by
  intro pins s σ H x vs v us Q I rx rv h
  obtain ⟨l, xs, y, rfl, rfl, hH, hz, q⟩ := h
  cases rx
  obtain ⟨u, rfl, ru⟩ := rv.one
  obtain ⟨z, its, n, r, hl, e⟩ := I.lstM hH
  refine call_meets F.slot_list_append ⟨_, e, rfl⟩ F.entry_list_append (F.args_list_append_2 _ _) (PySem.list_append l its.toArray n u (by rw [List.size_toArray]; omega)) ⟨e, ?_⟩
  refine ⟨.non, _, I.lset (its' := its ++ [u]) hH e (by simp) (r.append (.cons ru .nil)) ?_, rfl, q⟩
  rw [List.length_append, List.length_singleton]
  omega
def rClear : V → List V → Hp → VK → Prop := fun x vs H Q => ∃ l xs, x = .ref l ∧ vs = [] ∧ H l = some (.lst xs) ∧ Q .non (upd H l (.lst []))
theorem mt_clear : MtM X "list.clear" rClear := by
  intro pins s σ H x vs v us Q I rx rv h
  obtain ⟨l, xs, rfl, rfl, hH, q⟩ := h
  cases rx
  have hus := rv.zero
  subst hus
  obtain ⟨z, its, n, r, hl, e⟩ := I.lstM hH
  refine call_meets F.slot_list_clear ⟨_, e, rfl⟩ F.entry_list_clear (F.args_list_clear_1 _) (AutoSeq1.list_clear_list_0 l its.toArray n (by rw [List.size_toArray]; omega)) ⟨e, ?_⟩
  exact ⟨.non, _, I.lset (its' := []) (ys := []) hH e rfl .nil (Nat.zero_le _), rfl, q⟩
def rCat : R2 := fun x y H Q => ∃ l b xs zs, x = .ref l ∧ y = .ref b ∧ H l = some (.lst xs) ∧ H b = some (.lst zs) ∧ xs.length + zs.length ≤ sizeLine ∧ ∀ p, H p = none → Q (.ref p) (upd H p (.lst (xs ++ zs)))
theorem op_cat : OpR X (binaryOp .Add) rCat := by
  intro pins s σ H x y v u Q I rx ry h
  obtain ⟨l, b, xs, zs, rfl, rfl, hH, hB, hz, q⟩ := h
  cases rx
  cases ry
  obtain ⟨z, its, n, r, hl, e⟩ := I.lstM hH
  obtain ⟨z2, its2, n2, r2, hl2, e2⟩ := I.lstM hB
  refine PySem.P.add_list e e2 ?_ (by rw [List.size_toArray, List.size_toArray]; omega)
  have ea : its.toArray ++ its2.toArray = (its ++ its2).toArray := by simp
  rw [ea]
  exact ⟨.ref _, _, I.lnew (t' := s.toks) (r.append r2) (by rw [List.length_append]; omega), rfl, q _ I.fresh⟩
end
section
variable {prog : Program} {w : World} {A : Around} {E : Value → Shared → Prop} {s : Shared}
set_option maxRecDepth 100000 in
end
section
variable {X : Cx}
end
end L2
namespace Att
open PySem PySem.W PySem.Calls PyProof.Rows
theorem ints_of_wellAll {P : Params} {h : Heap} : ∀ (ns : List Int) (vs : List Value), WellAll P h vs (ns.map WData.int) → IntsAre vs ns := by
  intro ns
  induction ns with
  | nil =>
    intro vs w
    rw [List.map_nil] at w
    cases w
    exact .nil
  | cons n ns ih =>
    intro vs w
    rw [List.map_cons] at w
    cases w with
    | cons a b =>
      cases a
      exact .cons _ _ (ih _ b)
theorem script_of {l : OpenLaw} {n : Nat} (hn : l.most = some n) {P : Params} {h : Heap} {args : List WData} {vals : List Value}
    (hpre : l.row.toRowW.claim.pre args = true) (hwl : WellAll P h vals args) :
    ∃ a vs ns, vals = [Value.ref a] ∧ args = [WData.list (ns.map WData.int)] ∧ h.get? a = some { cls := .type "list", data := .seq vs.toArray } ∧ IntsAre vs ns ∧ ns.length ≤ n := by
  have hsh : WShape.hasAll [] args [.list .int] = true := (pre_splitW hpre).1
  have hc : l.pre.holds [] { args := args } = true := (pre_splitW hpre).2
  obtain ⟨d, r, rfl, h1, h2⟩ := hasAllW_cons hsh
  obtain rfl := hasAllW_nil h2
  obtain ⟨xs, rfl, h3⟩ := hasW_list h1
  obtain ⟨ns, rfl⟩ := items_int h3
  have hlen : ns.length ≤ n := by
    unfold OpenLaw.pre at hc
    have h4 : (WTm.not (.lt (.lit (.int (n : Int))) (.len (.arg 0)))).holds [] { args := [.list (ns.map .int)] } = true := by
      have h4 := (holds_andW hc).1
      rw [hn] at h4
      exact h4
    have h5 := condW_of h4 (w_not (w_lt w_lit (w_len_list (w_arg rfl))))
    rw [List.length_map] at h5
    refine Nat.le_of_not_lt fun q => ?_
    have q' : (n : Int) < ((ns.length : Nat) : Int) := by omega
    first
      | (rw [decide_eq_true q'] at h5; exact absurd h5 (by decide))
      | (simp at h5; omega)
  cases hwl with
  | cons w1 w2 =>
    cases w2
    cases w1 with
    | list ho hall => exact ⟨_, _, ns, rfl, rfl, ho, ints_of_wellAll ns _ hall, hlen⟩
theorem post_true (l : OpenLaw) (args : List WData) : l.row.toRowW.claim.post args (.bool true) args = true :=
  postW_of (r := l.row.toRowW) (X := (true == true))
    (show WShape.has [] (.bool true) .bool = true by first | rfl | decide | simp [WShape.has, WShape.arms, WShape.armsAll])
    (show (WTm.eq .res (.lit (.bool true))).value [] { args := args, res := some (.bool true), after := args } = some (.bool (true == true)) from w_eq_bool (w_res rfl) w_lit) rfl
theorem attach_call {l : OpenLaw} {n : Nat} {q : Program} {loose : List Str} {XP : (Str → Option Value) → Heap → Prop} {YP : World → Heap → Prop} {d : DefRec}
    (hn : l.most = some n) (hdf : d.params.defaults = [])
    (call : ∀ (w : World) (s₀ s₁ : Shared) (mg mb : Str → Option Value) (fa : Addr) (o : Obj) (pm cd doc : Value) (a : Addr) (vs : List Value) (ns : List Int),
      Ground q loose [] XP w s₀ mg mb s₁.heap → YP w s₁.heap →
      s₁.heap.get? fa = some o → o.data = .func (docDef d.name d.params d.body d.scope pm cd doc) → s₁.heap.CodeRec cd d.name → mg d.name = some (.ref fa) →
      s₁.heap.get? a = some { cls := .type "list", data := .seq vs.toArray } → IntsAre vs ns → ns.length ≤ n → s₁.gens = #[] →
      codeAny (model l.prog w) callerA (.call (.ref fa) ⟨[.ref a], []⟩) (fun r s' => r = .ok (.ret (.bool true)) ∧ OldK s₁.heap s'.heap ∧ s'.os = s₁.os ∧ AllBare s'.gens) s₁) :
    WalkO q loose XP YP l.row.toRowW d [] (fun f vs => PySem.call f vs) := by
  intro w s₀ s₁ mg mb G Y fa o pm cd doc dV kV ho hd hcd hD hmg hg args vals as hpre hlay hrd hwl hlo
  obtain rfl : dV = .none := Dflts.none hD hdf
  obtain rfl : kV = .none := Dflts.noKw hD
  obtain ⟨a, vs, ns, rfl, rfl, hobj, hints, hlen⟩ := script_of hn hpre hwl
  refine enter_call (codeAny_mono (call w s₀ s₁ mg mb fa o pm cd doc a vs ns G Y ho (fd_plain hd) hcd hmg hobj hints hlen hg) fun r s' hq => ?_)
  obtain ⟨rfl, h2, h3, h4⟩ := hq
  exact ⟨.inl ⟨.bool true, .bool true, [], rfl, fun _ => rfl, .bool true, post_true l _, fun _ => ⟨List.Pairwise.nil, fun _ hm => (nomatch hm)⟩⟩, h2, h3, h4⟩
section
variable {prog : Program} {w : World} {A : Around} {E : Value → Shared → Prop} {s : Shared} {K : Frag}
def ledger (h : Heap) (L d : Addr) : List (Addr × Obj) := (List.range h.objs.size).filterMap fun a => if a = L ∨ a = d then none else (h.get? a).map fun o => (a, o)
end
end Att
namespace L2
open PySem PySem.Spec PyProof.Rows
theorem vals_ints : ∀ {vs : List Value} {ns : List Int}, IntsAre vs ns → Vals (ns.map V.int) vs
  | _, _, .nil => .nil
  | _, _, .cons n t h => .cons ⟨t, rfl⟩ (vals_ints h)
def Only (H : Hp) : Prop := ∀ b, H b = none ∨ ∃ o xs, H b = some (.frz o (.lst xs))
theorem law_call {P : Program} {w : World} {K : PySem.W.Frag} {mg mb : Str → Option Value} {CX : CXT} {k : Nat} {fa a : Addr} {fd : FuncData} {x : Str} {sp : Sp} {s₁ : Shared} {vs : List Value} {ns : List Int}
    (KX : K.In s₁.heap) (hns : s₁.heap.Ns mainGlobals mg) (hb : s₁.heap.Ns builtinsNs mb) (hbb : ∀ x : Str, x ≠ "__name__" → mb x = bootBuiltins x) (hlim : s₁.heap.NoLimit) (hg : s₁.gens = #[])
    (ha : s₁.heap.get? a = some { cls := .type "list", data := .seq vs.toArray }) (hi : IntsAre vs ns) (hl : ns.length ≤ sizeLine) (hr : Room k callerA)
    (F : ∀ base : Heap, K.In base → base.Ns mainGlobals mg → FnOk P w K mg base CX k fa fd [x] sp) (hbind : ∀ (s : Shared) (u : Value), BindsTo s fd ⟨[u], []⟩ [(x, u)])
    (hsp : ∀ H : Hp, Only H → SqL K H a (ns.map V.int) → sp [.ref a] H (fun v _ => v = .bl true) fun _ _ _ => False)
    (hCX : ∀ H e s', CX [] H s₁ (fun _ _ _ => False) e s' → False) :
    codeAny (model P w) callerA (.call (.ref fa) ⟨[.ref a], []⟩) (fun r s' => r = .ok (.ret (.bool true)) ∧ OldK s₁.heap s'.heap ∧ s'.os = s₁.os ∧ AllBare s'.gens) s₁ := by
  have rv := vals_ints hi
  have lenV := hi.length
  -- from an abstract heap in which nothing but the script may be tracked
  have core : ∀ H : Hp, Only H → SqL K H a (ns.map V.int) → HOk P w H s₁.heap → (∀ b, H b ≠ none → b = a) → (H a ≠ none → K.lookup a = none) →
      codeAny (model P w) callerA (.call (.ref fa) ⟨[.ref a], []⟩) (fun r s' => r = .ok (.ret (.bool true)) ∧ OldK s₁.heap s'.heap ∧ s'.os = s₁.os ∧ AllBare s'.gens) s₁ := by
    intro H hO hS hok hA hK
    have base_of : ∀ {b : Addr} {o : Obj}, s₁.heap.get? b = some o → H b = none → (hidT s₁.heap H).get? b = some o := fun e n => hidT_get e n
    have noA : ∀ {b : Addr} {o : Obj} {es : Array DictEntry} {ep : Nat}, s₁.heap.get? b = some o → o.data = .dict es ep → H b = none := fun {b o es ep} e d => by
      cases q : H b with
      | none => rfl
      | some u =>
        have e' : b = a := hA b (by rw [q]; simp)
        subst e'
        rw [ha] at e; cases e
        have d' : Data.seq vs.toArray _ = Data.dict es ep := d
        cases d'
    have nsK : ∀ {b : Addr} {m : Str → Option Value}, s₁.heap.Ns b m → (hidT s₁.heap H).Ns b m := fun {b m} ⟨o, es, ep, e, d, r⟩ => ⟨o, es, ep, base_of e (noA e d), d, r⟩
    have hKb : K.In (hidT s₁.heap H) := fun b o e => base_of (KX b o e) (by
      cases q : H b with
      | none => rfl
      | some u =>
        have e' : b = a := hA b (by rw [q]; simp)
        subst e'
        rw [hK (by rw [q]; simp)] at e; cases e)
    have hM : Mod K mg (hidT s₁.heap H) := ⟨hKb, nsK hns, ⟨mb, nsK hb, hbb⟩, let ⟨mc, h1, h2⟩ := hlim; ⟨mc, nsK h1, h2⟩⟩
    have e0 : Env0 P w K mg (hidT s₁.heap H) callerA [] s₁ H := ⟨rfl, hM, fun b o e => of_hidT e, Nat.le_of_eq (hidT_size _ _), trivial, fun b hb => absurd (show b ∈ ([] : List Addr) from hb) (by simp), hok, .of_eq hg⟩
    refine codeAny_mono ((F _ hKb (nsK hns)).run callerA [] s₁ H ⟨[.ref a], []⟩ [.ref a] [.ref a] _ _ hr e0 (hbind s₁ (.ref a)) (.cons rfl .nil) (hsp H hO hS)) fun r s' h => ?_
    cases r with
    | error e => exact (hCX H e s' h).elim
    | ok fl =>
      cases fl with
      | next => exact False.elim h
      | brk => exact False.elim h
      | cont => exact False.elim h
      | ret u =>
        obtain ⟨v, H', os, bare, un, hok', r', q⟩ := h
        have q' : v = .bl true := q
        subst q'
        obtain rfl : u = Value.bool true := r'
        refine ⟨rfl, OldK.of_keep fun b o e => ?_, os, bare⟩
        cases q : H b with
        | none => exact un.keep b o e q (by intro z; exact absurd (show b ∈ ([] : List Addr) from z) (by simp)) (by simp)
        | some u =>
          rcases hO b with z | ⟨ob, xs, z⟩
          · rw [q] at z; cases z
          · have z2 := un.frzs b ob _ z
            obtain ⟨e1, _⟩ := hok b _ z
            obtain ⟨e2, _⟩ := hok' b _ z2
            rw [e] at e1; cases e1
            exact e2
  cases hk : K.lookup a with
  | some o =>
    -- the script is one of the module's own objects
    have e := KX a o hk
    rw [ha] at e
    cases e
    refine core (fun _ => none) (fun _ => .inl rfl) (.inr ⟨_, vs.toArray, _, hk, rfl, rfl, rfl, by rw [List.size_toArray, lenV]; exact hl, by simpa using rv⟩) (fun b u z => by have z' : (none : Option HO) = some u := z; cases z') (fun b z => absurd rfl z) fun z => absurd rfl z
  | none =>
    refine core (fun b => if b = a then some (.frz { cls := .type "list", data := .seq vs.toArray } (.lst (ns.map V.int))) else none) (fun b => ?_) (.inl (.inr ⟨{ cls := .type "list", data := .seq vs.toArray }, if_pos rfl⟩)) (fun b u z => ?_) (fun b z => ?_) fun _ => hk
    · by_cases hb : b = a
      · exact .inr ⟨_, _, if_pos hb⟩
      · exact .inl (if_neg hb)
    · by_cases hb : b = a
      · have z' := (if_pos hb).symm.trans z
        cases z'
        subst hb
        exact ⟨ha, by rw [List.length_map]; exact hl, vs, _, rv, ha⟩
      · have z' := (if_neg hb).symm.trans z
        cases z'
    · by_cases hb : b = a
      · exact hb
      · exact absurd (if_neg hb) z
end L2
namespace L2
open PySem PySem.Spec PyProof.Rows
abbrev KOf {K : PySem.W.Frag} {h : Heap} (_ : K.In h) : PySem.W.Frag := K
theorem walk_of {l : PySem.W.OpenLaw} {n k : Nat} {q : Program} {loose : List Str} {XP : (Str → Option Value) → Heap → Prop} {YP : World → Heap → Prop} {d : DefRec} {K : Params → PySem.W.Frag} {CX : World → CXT} {sp : World → Sp} {x : Str}
    (hn : l.most = some n) (hn2 : n ≤ sizeLine) (hdf : d.params.defaults = []) (hr : Room k callerA)
    (hY : ∀ (w : World) (h : Heap), YP w h → (K w.params).In h)
    (F : ∀ (w : World) (mg : Str → Option Value) (fa : Addr) (h : Heap), (K w.params).In h → h.Ns mainGlobals mg → mg d.name = some (.ref fa) →
      ∃ fd : FuncData, (∀ (s : Shared) (u : Value), BindsTo s fd ⟨[u], []⟩ [(x, u)]) ∧
        ∀ base : Heap, (K w.params).In base → base.Ns mainGlobals mg → FnOk l.prog w (K w.params) mg base (CX w) k fa fd [x] (sp w))
    (hsp : ∀ (w : World) (H : Hp) (a : Addr) (ns : List Int), ns.length ≤ n → Only H → SqL (K w.params) H a (ns.map V.int) → sp w [.ref a] H (fun v _ => v = .bl true) fun _ _ _ => False)
    (hCX : ∀ (w : World) (H : Hp) (s : Shared) (e : Value) (s' : Shared), CX w [] H s (fun _ _ _ => False) e s' → False) :
    PySem.W.WalkO q loose XP YP l.row.toRowW d [] (fun f vs => PySem.call f vs) := by
  refine Att.attach_call hn hdf fun w s₀ s₁ mg mb fa o pm cd doc a vs ns G Y ho hd hcd hmg hobj hints hlen hg => ?_
  have KX := hY w _ Y
  obtain ⟨fd, hb, hF⟩ := F w mg fa _ KX G.T.g hmg
  exact law_call KX G.T.g G.T.b G.T.builtins G.T.nolimit hg hobj hints (Nat.le_trans hlen hn2) hr hF hb (fun H hO hS => hsp w H a ns hlen hO hS) fun H e s' => hCX w H s₁ e s'
end L2
/- THE LAST THEOREM (shape; LID, My.* are yours):
   My.Adr: a structure of the addresses that your layer names (classes, functions); My.Txt K t: a structure (Prop) of the equations over K;
   My.txt_mk : {K} {implicit addresses ..} (e1 : nsIn K mainGlobals "law" = some (some (.ref f))) (e2 : K.lookup f = some ⟨oc, od, .func (fnOf "law" "law" params body scope dV kV doc pm an cdv ct), sl⟩) (e3 : codeIn K cdv "law" = true) .. : ∃ t, My.Txt K t
set_option maxRecDepth 100000 in
set_option maxHeartbeats 0 in
theorem PySem.Challenge.cw_LID_holds : PySem.Challenge.rw_LID.Holds := by
  w_on; o_law; k_head; (case hw => w_witness2)
  k_fill
  refine L2.walk_of (l := PySem.Challenge.rw_LID) (n := 63) (k := 40) (x := "script") (CX := fun w => ..) (sp := fun _ => My.sp_law) rfl (by decide) rfl ⟨rfl, by decide, by decide⟩ (fun w h Y => PySem.W.kIn_of Y) ?F ?S ?C
  case F =>
    intro w mg fa h KX G hmg
    have T : ∃ t, My.Txt (L2.KOf KX) t := by
      dsimp only [L2.KOf]                          -- K must stand as «<heap const> w.params» for k_is
      refine' My.txt_mk ?e1 ?e2 ?e3 ..
      (case e1 => PySem.W.k_is)                    -- in the order: a name -> its address -> its object -> its parts
      (case e2 => PySem.W.k_is)
      ..
    obtain ⟨t, T⟩ := T
    have e0 := hmg.symm.trans (PySem.W.mg_of KX G T.law)
    cases e0                                       -- fa is the law's own address
    exact ⟨_, fun s u => .of_eq rfl, fun base kb nb => My.law_fn T kb nb⟩     -- if «.of_eq rfl» comes too early: refine' ⟨_, ?b, fun base kb nb => My.law_fn T kb nb⟩; exact fun s u => .of_eq rfl
  case S => exact fun w H a ns hl hO hS => ..
  case C => exact ..
(the tactic k_is has no namespace: write k_is) -/
namespace L2
open PySem PySem.Spec PyProof.Rows
def defArgs (s : Stmt) : Arguments := match s with
  | .FunctionDef _ a _ _ _ _ _ _ _ _ => a
  | _ => { posonlyargs := [], args := [], vararg := none, kwonlyargs := [], kw_defaults := [], kwarg := none, defaults := [] }
def defBody (s : Stmt) : List Stmt := match s with
  | .FunctionDef _ _ b _ _ _ _ _ _ _ => b
  | _ => []
def defScope (s : Stmt) : Scope := match s with
  | .FunctionDef _ _ _ _ _ _ sc _ _ _ => sc
  | _ => { kind := .function, names := [], isGenerator := false, isCoroutine := false }
abbrev CX0 : CXT := fun _ _ _ _ _ _ => False
abbrev E0 : XK := fun _ _ _ => False
theorem pass0 {X : Cx} : Passes CX0 X E0 := fun _ _ _ _ _ _ _ h => h.elim
structure Fun (K : PySem.W.Frag) (x qual : Str) (st : Stmt) (f : Addr) (fd : FuncData) : Prop where
  ex : ∃ (oc : Value) (od : Option Addr) (kV doc pm : Value) (an : Option Addr) (cdv ct : Value) (osl : Array (Option Value)),
    fd = PySem.W.fnOf x qual (defArgs st) (defBody st) (defScope st) .none kV doc pm an cdv ct ∧ K.lookup f = some ⟨oc, od, .func fd, osl⟩ ∧ PySem.W.codeIn K cdv qual = true
  kp : PySem.W.keepIn K (.ref f) = true
section
variable {P : Program} {w : World} {K : PySem.W.Frag} {mg : Str → Option Value} {base : Heap}
theorem Fun.ok {x qual : Str} {st : Stmt} {f : Addr} {fd : FuncData} {N ps : List Str} {k : Nat} {sp : Sp} (F : Fun K x qual st f fd) (S : FnScope N ps (defScope st)) (len : ∀ vs H Q E, sp vs H Q E → vs.length = ps.length)
    (hbody : ∀ (cdv : Value) (A : Around) (outer : List Env) (s : Shared) (H : Hp) (vs : List V) (Q : VK) (E : XK), Room k (A.deeper (envOfC qual (defScope st) s.heap.objs.size f cdv)) → sp vs H Q E →
      ∃ t, PSs (cxOf CX0 P w K mg base N qual (defScope st) f cdv A outer s H E).nox (defBody st) t ∧ t { nx := fun _ H' => Q .non H', rt := Q } (start N vs) H) : FnOk P w K mg base CX0 (k + 1) f fd ps sp := by
  obtain ⟨oc, od, kV, doc, pm, an, cdv, ct, osl, rfl, lk, hcd⟩ := F.ex
  refine fn_of lk hcd S len fun A outer s H vs Q E hr hsp => ?_
  obtain ⟨t, h, q⟩ := hbody cdv A outer s H vs Q E hr hsp
  exact ⟨t, h.nox, q⟩
theorem Fun.binds {x qual : Str} {st : Stmt} {f : Addr} {fd : FuncData} {ps : List Str} (F : Fun K x qual st f fd)
    (h : ∀ (kV doc pm : Value) (an : Option Addr) (cdv ct : Value) (us : List Value), us.length = ps.length → bindArgs (PySem.W.fnOf x qual (defArgs st) (defBody st) (defScope st) .none kV doc pm an cdv ct) ⟨us, []⟩ = pure (ps.zip us)) : Binds K fd ps [] := by
  obtain ⟨oc, od, kV, doc, pm, an, cdv, ct, osl, rfl, lk, hcd⟩ := F.ex
  exact .all (h kV doc pm an cdv ct)
theorem fun_mk {x qual : Str} {st : Stmt} {f : Addr} {oc : Value} {od an : Option Addr} {osl : Array (Option Value)} {kV doc pm cdv ct : Value} (l : K.lookup f = some ⟨oc, od, .func (PySem.W.fnOf x qual (defArgs st) (defBody st) (defScope st) .none kV doc pm an cdv ct), osl⟩)
    (c : PySem.W.codeIn K cdv qual = true) (k : PySem.W.keepIn K (.ref f) = true) : Fun K x qual st f (PySem.W.fnOf x qual (defArgs st) (defBody st) (defScope st) .none kV doc pm an cdv ct) := ⟨⟨oc, od, kV, doc, pm, an, cdv, ct, osl, rfl, l, c⟩, k⟩
end
theorem small1000 {n : Nat} (h : n ≤ 1000) : n < sizeLine := Nat.lt_of_le_of_lt h (by decide)
section
variable {X : Cx}
theorem pv (i : Nat) {x : Str} {pos : Pos} (hN : X.N[i]? = some x := by rfl) (hv : Vis X.env.scope x := by first | exact Or.inl rfl | exact Or.inr (Or.inl rfl) | exact Or.inr (Or.inr rfl)) (hd : (x == ("__debug__" : Str)) = false := by decide)
    (hcd : (x == ("__classdict__" : Str)) = false := by decide) : PE X (.Name x pos) (tVar i) := pe_var hN hv hd hcd
end
theorem ite2 {c A B : Prop} [Decidable c] (h1 : c → A) (h2 : ¬ c → B) : if c then A else B := by
  by_cases h : c
  · rw [if_pos h]
    exact h1 h
  · rw [if_neg h]
    exact h2 h
def Same (H H' : Hp) : Prop := ∀ b o, H b = some o → H' b = some o
theorem Same.refl (H : Hp) : Same H H := fun _ _ h => h
theorem Same.trans {H H1 H2 : Hp} (a : Same H H1) (b : Same H1 H2) : Same H H2 := fun c o h => b c o (a c o h)
theorem Same.free {H H' : Hp} (e : Same H H') {l : Addr} (h : H' l = Option.none) : H l = Option.none := by
  cases q : H l with
  | none => rfl
  | some o =>
    rw [e l o q] at h
    cases h
theorem Same.seq {K : PySem.W.Frag} {H H' : Hp} {a : Addr} {xs : List V} (e : Same H H') (h : SqL K H a xs) : SqL K H' a xs := by
  rcases h with (h | ⟨o, h⟩) | h
  · exact .inl (.inl (e _ _ h))
  · exact .inl (.inr ⟨o, e _ _ h⟩)
  · exact .inr h
end L2
set_option Elab.async false
set_option linter.all false
set_option maxRecDepth 100000
set_option maxHeartbeats 4000000
set_option Elab.async false
set_option linter.all false
set_option maxRecDepth 100000
namespace L2
open PySem PySem.Spec PyProof.Rows
section
variable {κ : Type} [DecidableEq κ]
def valV (kvs : List (κ × V)) (k : κ) : Option V := (kvs.find? fun kv => decide (kv.1 = k)).map (·.2)
def putK (kvs : List (κ × V)) (k : κ) (v : V) : List (κ × V) :=
  if (kvs.any fun kv => decide (kv.1 = k)) = true then kvs.map (fun kv => if kv.1 = k then (kv.1, v) else kv) else kvs ++ [(k, v)]
theorem valV_pos {p : κ × V} {r : List (κ × V)} {k : κ} (e : p.1 = k) : valV (p :: r) k = some p.2 := by simp [valV, List.find?_cons, e]
theorem valV_neg {p : κ × V} {r : List (κ × V)} {k : κ} (e : ¬ p.1 = k) : valV (p :: r) k = valV r k := by simp [valV, List.find?_cons, e]
theorem valV_any (k : κ) : ∀ kvs : List (κ × V), (kvs.any fun kv => decide (kv.1 = k)) = (valV kvs k).isSome
  | [] => rfl
  | p :: r => by
    rw [List.any_cons]
    by_cases e : p.1 = k
    · simp only [valV_pos e, decide_eq_true e, Bool.true_or, Option.isSome_some]
    · rw [valV_neg e, decide_eq_false e, Bool.false_or]; exact valV_any k r
theorem valV_map (k j : κ) (y : V) : ∀ kvs : List (κ × V), valV (kvs.map fun kv => if kv.1 = k then (kv.1, y) else kv) j = (valV kvs j).map fun x => if j = k then y else x
  | [] => rfl
  | p :: r => by
    have ih := valV_map k j y r
    rw [List.map_cons]
    by_cases h : p.1 = k
    · rw [if_pos h]
      by_cases e : p.1 = j
      · rw [valV_pos (p := (p.1, y)) e, valV_pos e, Option.map_some, if_pos (e.symm.trans h)]
      · rw [valV_neg (p := (p.1, y)) e, valV_neg e, ih]
    · rw [if_neg h]
      by_cases e : p.1 = j
      · rw [valV_pos (p := p) e, valV_pos e, Option.map_some, if_neg (fun z => h (e.trans z))]
      · rw [valV_neg (p := p) e, valV_neg e, ih]
theorem valV_snoc (k j : κ) (y : V) : ∀ kvs : List (κ × V), valV kvs k = none → valV (kvs ++ [(k, y)]) j = if j = k then some y else valV kvs j
  | [], _ => by
    by_cases e : k = j
    · rw [if_pos e.symm]; exact valV_pos (p := (k, y)) e
    · rw [if_neg (fun z => e z.symm)]; exact valV_neg (p := (k, y)) e
  | p :: r, hn => by
    rw [List.cons_append]
    have hk : ¬ p.1 = k := fun z => by rw [valV_pos z] at hn; cases hn
    rw [valV_neg hk] at hn
    have ih := valV_snoc k j y r hn
    by_cases e : p.1 = j
    · rw [valV_pos e, valV_pos e, if_neg (fun z => hk (e.trans z))]
    · rw [valV_neg e, valV_neg e, ih]
theorem valV_put (kvs : List (κ × V)) (k j : κ) (y : V) : valV (putK kvs k y) j = if j = k then some y else valV kvs j := by
  unfold putK
  by_cases a : (kvs.any fun kv => decide (kv.1 = k)) = true
  · rw [if_pos a, valV_map]
    rw [valV_any] at a
    by_cases e : j = k
    · obtain ⟨x, hx⟩ := Option.isSome_iff_exists.mp a
      rw [if_pos e, e, hx, Option.map_some, if_pos rfl]
    · rw [if_neg e]
      cases valV kvs j with
      | none => rfl
      | some x => rw [Option.map_some, if_neg e]
  · rw [if_neg a]
    refine valV_snoc k j y kvs ?_
    rw [valV_any] at a
    cases q : valV kvs k with
    | none => rfl
    | some x => rw [q] at a; exact (a rfl).elim
theorem length_putK (kvs : List (κ × V)) (k : κ) (v : V) : (putK kvs k v).length ≤ kvs.length + 1 := by
  unfold putK
  split
  · rw [List.length_map]; omega
  · rw [List.length_append, List.length_cons, List.length_nil]; omega
theorem putK_new {kvs : List (κ × V)} {k : κ} (v : V) (h : valV kvs k = none) : putK kvs k v = kvs ++ [(k, v)] := by
  unfold putK
  rw [valV_any, h]
  exact if_neg (by decide)
theorem RelO.isSome_eq {o : Option V} {u : Option Value} (r : RelO o u) : o.isSome = u.isSome := by
  cases o with
  | none => cases u with
    | none => rfl
    | some _ => exact (show False from r).elim
  | some _ => cases u with
    | none => exact (show False from r).elim
    | some _ => rfl
theorem RelO.getD {o : Option V} {u : Option Value} {d : V} {d' : Value} (r : RelO o u) (rd : RelV d d') : RelV (o.getD d) (u.getD d') := by
  cases o with
  | none => cases u with
    | none => exact rd
    | some _ => exact (show False from r).elim
  | some _ => cases u with
    | none => exact (show False from r).elim
    | some _ => exact r
theorem KV.val {kvs : List (κ × V)} {vs : List (κ × Value)} (r : KV kvs vs) (k : κ) : RelO (valV kvs k) (valueAt vs k) := by
  unfold KV at r
  induction r with
  | nil => exact True.intro
  | @cons p q ps qs h t ih =>
    obtain ⟨h1, h2⟩ := h
    by_cases e : p.1 = k
    · have e' : q.1 = k := h1.symm.trans e
      have b : valueAt (q :: qs) k = some q.2 := by simp [valueAt, List.find?_cons, e']
      rw [valV_pos e, b]; exact h2
    · have e' : ¬ q.1 = k := fun z => e (h1.trans z)
      have b : valueAt (q :: qs) k = valueAt qs k := by simp [valueAt, List.find?_cons, e']
      rw [valV_neg e, b]; exact ih
theorem KV.any {kvs : List (κ × V)} {vs : List (κ × Value)} (r : KV kvs vs) (k : κ) : (kvs.any fun kv => decide (kv.1 = k)) = vs.any fun kv => decide (kv.1 = k) := by
  unfold KV at r
  induction r with
  | nil => rfl
  | cons h t ih => rw [List.any_cons, List.any_cons, ih, h.1]
theorem KV.repl {kvs : List (κ × V)} {vs : List (κ × Value)} (r : KV kvs vs) (k : κ) {y : V} {u : Value} (ry : RelV y u) :
    KV (kvs.map fun kv => if kv.1 = k then (kv.1, y) else kv) (vs.map fun kv => if kv.1 = k then (kv.1, u) else kv) := by
  unfold KV at r ⊢
  induction r with
  | nil => exact .nil
  | @cons p q ps qs h t ih =>
    rw [List.map_cons, List.map_cons]
    refine .cons ?_ ih
    obtain ⟨h1, h2⟩ := h
    by_cases e : p.1 = k
    · rw [if_pos e, if_pos (h1.symm.trans e)]; exact ⟨h1, ry⟩
    · rw [if_neg e, if_neg (fun z => e (h1.trans z))]; exact ⟨h1, h2⟩
theorem KV.put {kvs : List (κ × V)} {vs : List (κ × Value)} (r : KV kvs vs) (k : κ) {y : V} {u : Value} (ry : RelV y u) : KV (putK kvs k y) (stored vs k u) := by
  unfold putK stored
  rw [r.any k]
  by_cases e : (vs.any fun kv => decide (kv.1 = k)) = true
  · rw [if_pos e, if_pos e]; exact r.repl k ry
  · rw [if_neg e, if_neg e]; exact Paired.snoc r ⟨rfl, ry⟩
theorem KV.length {kvs : List (κ × V)} {vs : List (κ × Value)} (r : KV kvs vs) : kvs.length = vs.length := Paired.length r
end
theorem kV_is {P : Program} {w : World} {k : Key} {u : Value} (r : RelV (kV k) u) : (mixKind P w).is k u = true := by
  cases k with
  | inl i => obtain ⟨t, e⟩ := (show ∃ t, u = Value.int i t from r); subst e; exact mixKind_int P w i t
  | inr x => obtain ⟨t, e⟩ := (show ∃ t, u = Value.str x t from r); subst e; exact mixKind_str P w x t
theorem items_are {P : Program} {w : World} : ∀ {ks : List Key} {us : List Value}, Vals (ks.map kV) us → ItemsAre (mixKind P w) ks us
  | [], _, r => by rw [List.map_nil] at r; cases r; exact .nil
  | k :: ks, _, r => by
    rw [List.map_cons] at r
    cases r with
    | cons h t => exact .cons (kV_is h) (items_are t)
abbrev KT (H : Hp) : List (List Key × V) → List (List Key × Addr × Value) → Prop := Paired fun p q => p.1 = q.1 ∧ H q.2.1 = some (.tup (p.1.map kV)) ∧ RelV p.2 q.2.2
theorem KT.val {H : Hp} {kvs : List (List Key × V)} {xs : List (List Key × Addr × Value)} (r : KT H kvs xs) (k : List Key) : RelO (valV kvs k) ((atKey xs k).map (·.2)) := by
  induction r with
  | nil => exact True.intro
  | @cons p q ps qs h t ih =>
    obtain ⟨h1, _, h2⟩ := h
    by_cases e : p.1 = k
    · have e' : q.1 = k := h1.symm.trans e
      have b : atKey (q :: qs) k = some q.2 := by simp [atKey, List.find?_cons, e']
      rw [valV_pos e, b]; exact h2
    · have e' : ¬ q.1 = k := fun z => e (h1.trans z)
      have b : atKey (q :: qs) k = atKey qs k := by simp [atKey, List.find?_cons, e']
      rw [valV_neg e, b]; exact ih
theorem KT.repl {H : Hp} {kvs : List (List Key × V)} {xs : List (List Key × Addr × Value)} (r : KT H kvs xs) (k : List Key) {y : V} {u : Value} (ry : RelV y u) :
    KT H (kvs.map fun kv => if kv.1 = k then (kv.1, y) else kv) (xs.map (putAt k u)) := by
  induction r with
  | nil => exact .nil
  | @cons p q ps qs h t ih =>
    rw [List.map_cons, List.map_cons]
    refine .cons ?_ ih
    obtain ⟨h1, h2, h3⟩ := h
    unfold putAt
    by_cases e : p.1 = k
    · rw [if_pos e, if_pos (h1.symm.trans e)]; exact ⟨h1, h2, ry⟩
    · rw [if_neg e, if_neg (fun z => e (h1.trans z))]; exact ⟨h1, h2, h3⟩
theorem KT.put {H : Hp} {kvs : List (List Key × V)} {xs : List (List Key × Addr × Value)} (r : KT H kvs xs) (k : List Key) {b : Addr} {y : V} {u : Value} (hb : H b = some (.tup (k.map kV))) (ry : RelV y u) :
    KT H (putK kvs k y) (storedH xs k b u) := by
  have e : (kvs.any fun kv => decide (kv.1 = k)) = (atKey xs k).isSome := by
    rw [valV_any, (r.val k).isSome_eq, Option.isSome_map]
  unfold putK storedH
  rw [e]
  by_cases q : (atKey xs k).isSome = true
  · rw [if_pos q, if_pos q]; exact r.repl k ry
  · rw [if_neg q, if_neg q]; exact Paired.snoc r ⟨rfl, hb, ry⟩
theorem KT.keeps {H H' : Hp} {kvs : List (List Key × V)} {xs : List (List Key × Addr × Value)} (r : KT H kvs xs) (ht : ∀ b ys, H b = some (.tup ys) → H' b = some (.tup ys)) : KT H' kvs xs :=
  Paired.mapP r fun _ _ z => ⟨z.1, ht _ _ z.2.1, z.2.2⟩
section
variable {P : Program} {w : World} {H : Hp} {h : Heap} {a : Addr}
theorem rd_of {u : HO} (ok : HOk P w H h) (e : Rd H a u) : ObjOk P w H h a u := e.ok ok
theorem dk_rd {kvs : List (Key × V)} (ok : HOk P w H h) (e : Rd H a (.dK kvs)) : kvs.length ≤ sizeLine ∧ (a == sysModules) = false ∧ ∃ vs, KV kvs vs ∧ h.DictOf (mixKind P w) a vs :=
  show ObjOk P w H h a (.dK kvs) from rd_of ok e
theorem dk_of {kvs : List (Key × V)} (ok : HOk P w H h) (e : H a = some (.dK kvs)) : kvs.length ≤ sizeLine ∧ (a == sysModules) = false ∧ ∃ vs, KV kvs vs ∧ h.DictOf (mixKind P w) a vs := dk_rd ok (.inl e)
theorem key_of {ks : List Key} (ok : HOk P w H h) (e : H a = some (.tup (ks.map kV))) : (tupleKind (mixKind P w)).is h ks a := by
  obtain ⟨_, its, r, o, h1, h2, n, h3⟩ := (show ObjOk P w H h a (.tup (ks.map kV)) from ok a _ e)
  exact ⟨o, its.toArray, n, h1, h2, h3, by simpa using items_are r⟩
theorem dt_rd {kvs : List (List Key × V)} (ok : HOk P w H h) (e : Rd H a (.dT kvs)) : kvs.length ≤ sizeLine ∧ (a == sysModules) = false ∧
    ∃ xs, KT H kvs xs ∧ h.DictOfH (tupleKind (mixKind P w)) a xs := by
  obtain ⟨z, y, xs, r, o, es, ep, h1, h2, h3, h4, h5⟩ := (show ObjOk P w H h a (.dT kvs) from rd_of ok e)
  refine ⟨z, y, xs, r, o, es, ep, h1, h2, h3, h4, fun x hx => ?_, h5⟩
  have all : ∀ {l : List (List Key × V)} {m : List (List Key × Addr × Value)}, KT H l m → ∀ x ∈ m, (tupleKind (mixKind P w)).is h x.1 x.2.1 := by
    intro l m q
    induction q with
    | nil => intro x hx; exact nomatch hx
    | @cons p q ps qs hq t ih =>
      intro x hx
      rcases List.mem_cons.mp hx with e | hx
      · subst e
        exact key_of ok (by rw [← hq.1]; exact hq.2.1)
      · exact ih x hx
  exact all r x hx
theorem dt_of {kvs : List (List Key × V)} (ok : HOk P w H h) (e : H a = some (.dT kvs)) : kvs.length ≤ sizeLine ∧ (a == sysModules) = false ∧
    ∃ xs, KT H kvs xs ∧ h.DictOfH (tupleKind (mixKind P w)) a xs := dt_rd ok (.inl e)
end
def DGet (H : Hp) (a : Addr) (y : V) (r : Option V) : Prop :=
  (∃ kvs k, Rd H a (.dK kvs) ∧ y = kV k ∧ r = valV kvs k) ∨ ∃ kvs k b, Rd H a (.dT kvs) ∧ y = .ref b ∧ H b = some (.tup (k.map kV)) ∧ r = valV kvs k
def DPut (H : Hp) (a : Addr) (y v : V) (H' : Hp) : Prop :=
  (∃ kvs k, H a = some (.dK kvs) ∧ y = kV k ∧ kvs.length < sizeLine ∧ H' = upd H a (.dK (putK kvs k v))) ∨
  ∃ kvs k b, H a = some (.dT kvs) ∧ y = .ref b ∧ H b = some (.tup (k.map kV)) ∧ kvs.length < sizeLine ∧ H' = upd H a (.dT (putK kvs k v))
theorem DGet.k {H : Hp} {a : Addr} {kvs : List (Key × V)} {k : Key} (e : H a = some (.dK kvs)) : DGet H a (kV k) (valV kvs k) := .inl ⟨kvs, k, .inl e, rfl, rfl⟩
theorem DPut.k {H : Hp} {a : Addr} {kvs : List (Key × V)} {k : Key} {v : V} (e : H a = some (.dK kvs)) (hl : kvs.length < sizeLine) : DPut H a (kV k) v (upd H a (.dK (putK kvs k v))) := .inl ⟨kvs, k, e, rfl, hl, rfl⟩
section
variable {X : Cx} {pins : List (Addr × Obj)} {σ : St} {H : Hp} {s : Shared} {a : Addr} {y v : V} {u r : Value} {o : Option V} {A : Around} {E : Value → Shared → Prop}
theorem Inv.big (I : Inv X pins σ H s) : sysModules < s.heap.objs.size := by
  have h : mainGlobals < s.heap.objs.size := (I.mod.glob.keeps I.bk).lt
  exact Nat.lt_trans (by decide) h
theorem d_getItem {Q : Value → Shared → Prop} (hu : A.units + 1 < cLine) (I : Inv X pins σ H s) (g : DGet H a y (some v)) (ry : RelV y u) (h : ∀ w' s', Inv X pins σ H s' → RelV v w' → Q w' s') :
    wpAny (model X.prog X.w) A (getItem (.ref a) u) Q E s := by
  rcases g with ⟨kvs, k, e, ey, l⟩ | ⟨kvs, k, b, e, ey, eb, l⟩
  · subst ey
    obtain ⟨z, hd, vs, rel, dd⟩ := dk_rd I.hok e
    obtain ⟨w', hw, rw'⟩ := RelO.some_of (v := v) (o := valueAt vs k) (by rw [l]; exact rel.val k)
    exact wpAny_getItem_of (kV_is ry) dd.mapOf hw (h w' _ (I.tok _) rw')
  · subst ey
    cases (show u = Value.ref b from ry)
    obtain ⟨z, hd, xs, rel, dd⟩ := dt_rd I.hok e
    obtain ⟨w', hw, rw'⟩ := RelO.some_of (v := v) (o := (atKey xs k).map (·.2)) (by rw [l]; exact rel.val k)
    obtain ⟨p, hp, hp2⟩ := Option.map_eq_some_iff.mp hw
    refine wpAny_getItem_heap (tupleKind_room_in1 hu) (key_of I.hok eb) dd hp ?_
    rw [hp2]
    exact h w' _ (I.tok _) rw'
theorem d_in {Q : Value → Shared → Prop} (hu : A.units + 1 < cLine) (I : Inv X pins σ H s) (g : DGet H a y o) (ry : RelV y u) (h : ∀ s', Inv X pins σ H s' → Q (.bool o.isSome) s') :
    wpAny (model X.prog X.w) A (compareOp .In u (.ref a)) Q E s := by
  rcases g with ⟨kvs, k, e, ey, l⟩ | ⟨kvs, k, b, e, ey, eb, l⟩
  · subst ey
    obtain ⟨z, hd, vs, rel, dd⟩ := dk_rd I.hok e
    refine wpAny_in_of (kV_is ry) hd dd.mapOf ?_
    rw [← (rel.val k).isSome_eq, ← l]
    exact h _ (I.tok _)
  · subst ey
    cases (show u = Value.ref b from ry)
    obtain ⟨z, hd, xs, rel, dd⟩ := dt_rd I.hok e
    refine wpAny_in_heap (tupleKind_room_in1 hu) (key_of I.hok eb) hd dd ?_
    have q := (rel.val k).isSome_eq
    rw [Option.isSome_map] at q
    rw [← q, ← l]
    exact h _ (I.tok _)
theorem d_notIn {Q : Value → Shared → Prop} (hu : A.units + 1 < cLine) (I : Inv X pins σ H s) (g : DGet H a y o) (ry : RelV y u) (h : ∀ s', Inv X pins σ H s' → Q (.bool (!o.isSome)) s') :
    wpAny (model X.prog X.w) A (compareOp .NotIn u (.ref a)) Q E s := by
  rcases g with ⟨kvs, k, e, ey, l⟩ | ⟨kvs, k, b, e, ey, eb, l⟩
  · subst ey
    obtain ⟨z, hd, vs, rel, dd⟩ := dk_rd I.hok e
    refine wpAny_notIn_of (kV_is ry) hd dd.mapOf ?_
    rw [← (rel.val k).isSome_eq, ← l]
    exact h _ (I.tok _)
  · subst ey
    cases (show u = Value.ref b from ry)
    obtain ⟨z, hd, xs, rel, dd⟩ := dt_rd I.hok e
    refine wpAny_notIn_heap (tupleKind_room_in1 hu) (key_of I.hok eb) hd dd ?_
    have q := (rel.val k).isSome_eq
    rw [Option.isSome_map] at q
    rw [← q, ← l]
    exact h _ (I.tok _)
theorem d_write {h' : Heap} {t' : Nat} {ob : HO} (I : Inv X pins σ H s) (mu : Mut (H a)) (hs : Heap.SameBut a s.heap h') (he : ∃ q, h'.get? a = some q) (new : ObjOk X.prog X.w (upd H a ob) h' a ob) :
    Inv X pins σ (upd H a ob) { s with heap := h', toks := t' } :=
  I.write (x := a) (e := a) mu (.inl rfl) (fun b q hb z => (hs.2 b hb).trans z) he new
theorem dk_new {P : Program} {w : World} {H' : Hp} {h' : Heap} {kvs : List (Key × V)} {vs : List (Key × Value)} (z : kvs.length ≤ sizeLine) (hd : (a == sysModules) = false) (rel : KV kvs vs) (dd : h'.DictOf (mixKind P w) a vs) :
    ObjOk P w H' h' a (.dK kvs) := ⟨z, hd, vs, rel, dd⟩
theorem d_setItem {H' : Hp} {Q : Unit → Shared → Prop} (hu : A.units + 1 < cLine) (I : Inv X pins σ H s) (g : DPut H a y v H') (ry : RelV y u) (rv : RelV v r) (h : ∀ s', Inv X pins σ H' s' → Q () s') :
    wpAny (model X.prog X.w) A (setItem (.ref a) u r) Q E s := by
  rcases g with ⟨kvs, k, e, ey, l, eH⟩ | ⟨kvs, k, b, e, ey, eb, l, eH⟩
  · subst ey eH
    obtain ⟨z, hd, vs, rel, dd⟩ := dk_of I.hok e
    have hz : vs.length ≤ sizeLine := by rw [← rel.length]; exact z
    have hl : (putK kvs k v).length ≤ sizeLine := by have := length_putK kvs k v; omega
    refine wpAny_setItem_pairs (hsz := hz) (kV_is ry) dd fun h' dd' hs => h _ ?_
    have he : ∃ q, h'.get? a = some q := let ⟨q, _, _, hq, _⟩ := dd'; ⟨q, hq⟩
    exact d_write I (by rw [e]; exact True.intro) hs he (dk_new hl hd (rel.put k rv) dd')
  · subst ey eH
    cases (show u = Value.ref b from ry)
    obtain ⟨z, hd, xs, rel, dd⟩ := dt_of I.hok e
    have hz : xs.length ≤ sizeLine := by rw [← Paired.length rel]; exact z
    have hl : (putK kvs k v).length ≤ sizeLine := by have := length_putK kvs k v; omega
    refine wpAny_setItem_heap (hsz := hz) (tupleKind_room_in1 hu) (key_of I.hok eb) dd fun h' dd' hs => h _ ?_
    obtain ⟨q, es, ep, hq, h2, h3, h4, _, h5⟩ := dd'
    refine d_write I (by rw [e]; exact True.intro) hs ⟨q, hq⟩ ⟨hl, hd, _, (rel.put k eb rv).keeps fun c ys ec => ?_, q, es, ep, hq, h2, h3, h4, h5⟩
    rw [upd_ne (ne_of ec e (fun z => nomatch z))]
    exact ec
end
section
variable {X : Cx} {pins : List (Addr × Obj)} {σ : St} {H : Hp} {s : Shared} {a : Addr} {kvs : List (Key × V)} {k : Key} {u : Value} {A : Around} {E : Value → Shared → Prop}
end
def NoSl (i : Expr) : Prop := ∀ ov iv, subscripted i false ov iv = operate [ov, iv] (getItem ov iv)
theorem subD_of {prog : Program} {w : World} {A : Around} {E : Value → Shared → Prop} {s : Shared} {env : Env} {value slice : Expr} {pos : Pos} {T id : String} {Q : Value → Shared → Prop}
    (hl : typeLookup (.type T) "__getitem__" = pure (some (.builtin id))) (hs : NoSl slice)
    (h : wpAny (model prog w) A (eval value env) (fun o s₁ => wpAny (model prog w) A (eval slice env) (fun i s₂ => s₂.TypeIs o T ∧ wpAny (model prog w) A (getItem o i) Q E s₂) E s₁) E s) :
    wpAny (model prog w) A (eval (.Subscript value slice pos) env) Q E s := by
  refine Subscript_ (wpAny_mono h (fun o s₁ h₁ => wpAny_mono h₁ (fun i s₂ h₂ => ?_) fun _ _ x => x) fun _ _ x => x)
  obtain ⟨hT, h₂⟩ := h₂
  unfold subscriptTail
  refine wpAny_bind ?_
  rw [getitemInPython_of_ne hT.not_modules]
  refine wpAny_bind (wpAny_specialOf hT hl ?_)
  have fin : wpAny (model prog w) A (subscripted slice false o i) (fun r s₃ => wpAny (model prog w) A (letTemporaryGo value o r >>= fun _ => pure r) Q E s₃) E s₂ := by
    rw [hs o i]
    exact wpAny_operating (wpAny_mono h₂ (fun r s₃ h₃ => wpAny_bind (wpAny_letTemporaryGo (wpAny_pure h₃))) fun _ _ x => x)
  first
    | exact wpAny_pure (wpAny_bind fin)
    | exact wpAny_bind (wpAny_pure (wpAny_bind fin))
    | exact wpAny_bind fin
theorem dict_typeIs {X : Cx} {pins : List (Addr × Obj)} {σ : St} {H : Hp} {s : Shared} {a : Addr} {y : V} {o : Option V} (I : Inv X pins σ H s) (g : DGet H a y o) : s.TypeIs (.ref a) "dict" := by
  rcases g with ⟨kvs, k, e, _, _⟩ | ⟨kvs, k, b, e, _, _, _⟩
  · obtain ⟨_, _, vs, _, dd⟩ := dk_rd I.hok e
    exact dd.typeIs
  · obtain ⟨_, _, xs, _, dd⟩ := dt_rd I.hok e
    exact dd.typeIs
def tDGet (td ty : TE) : TE := fun σ H Q => td σ H fun x H1 => ty σ H1 fun y H2 => ∃ a v, x = .ref a ∧ DGet H2 a y (some v) ∧ Q v H2
def sDPut (td ty tv : TE) : TS := fun D σ H => tv σ H fun v H1 => td σ H1 fun x H2 => ty σ H2 fun y H3 => ∃ a H4, x = .ref a ∧ DPut H3 a y v H4 ∧ D.nx σ H4
section
variable {X : Cx} {o i e value : Expr} {pos pos' tpos : Pos} {td ty tv : TE}
theorem pe_dget (hu : X.A.units + 1 < cLine) (ho : PE X o td) (hi : PE X i ty) (hs : NoSl i) : PE X (.Subscript o i pos) (tDGet td ty) := by
  intro pins s σ H Q I h
  refine subD_of PySem.F.slot_dict_getitem.lookup hs (thn (ho pins s σ H _ I h) fun u s1 ⟨x, H1, I1, rx, q1⟩ => thn (hi pins s1 σ H1 _ I1 q1) fun iv s2 ⟨y, H2, I2, ry, a, v, ex, g, q2⟩ => ?_)
  subst ex
  obtain rfl : u = Value.ref a := rx
  exact ⟨dict_typeIs I2 g, d_getItem hu I2 g ry fun w' s3 I3 rw' => ⟨v, H2, I3, rw', q2⟩⟩
theorem ps_dput (hu : X.A.units + 1 < cLine) (ho : PE X o td) (hi : PE X i ty) (hv : PE X value tv) (hs : swapsWith value (some (.Subscript o i pos')) pos.line X.env = pure false) :
    PS X (.Assign [.Subscript o i pos'] value pos) (sDPut td ty tv) := by
  intro pins s σ H D I h
  refine wpAny_Assign_Subscript (thn (hv pins s σ H _ I h) fun r s1 ⟨v, H1, I1, rv, q1⟩ => thn (ho pins s1 σ H1 _ I1 q1) fun u s2 ⟨x, H2, I2, rx, q2⟩ => thn (hi pins s2 σ H2 _ I2 q2) fun iv s3 ⟨y, H3, I3, ry, a, H4, ex, g, q3⟩ => ?_) hs
  subst ex
  obtain rfl : u = Value.ref a := rx
  exact d_setItem hu I3 g ry rv fun s4 I4 => ⟨σ, H4, I4, q3⟩
end
theorem dk_empty {P : Program} {w : World} {H : Hp} (h : Heap) (hb : sysModules < h.objs.size) : ObjOk P w H (h.push { cls := .type "dict", data := .dict #[] }) h.objs.size (.dK []) :=
  ⟨Nat.zero_le _, beq_eq_false_iff_ne.mpr (Ne.symm (Nat.ne_of_lt hb)), [], .nil, Heap.DictOf.new h⟩
def tDNewK : TE := fun _ H Q => ∀ p, H p = none → Q (.ref p) (upd H p (.dK []))
section
variable {X : Cx} {pos : Pos}
theorem pe_dnewK : PE X (.Dict [] [] pos) tDNewK := fun pins s σ H Q I h =>
  wpAny_Dict_empty ⟨.ref s.heap.objs.size, _, I.laid (a := s.heap.objs.size) (o := .dK []) (t' := s.toks) (fun _ _ q => Heap.get?_push_of_some _ q) (Nat.le_refl _) (dk_empty s.heap I.big), rfl, h _ (I.hok.fresh (Nat.le_refl _))⟩
end
structure M1 (X : Cx) (o : Expr) (m : Str) (apos : Pos) (e : Expr) (cpos : Pos) : Prop where
  base : attributeBase o m X.env (eval o X.env) = eval o X.env
  few : ((backTo cpos (starEach [e] X.env)).all (fun x => !x.1) && (backToKw cpos (keywordEach [] X.env)).all (fun x => x.1.isSome)
    && decide (([e] : List Expr).length + ([] : List Keyword).length + (if ([] : List Keyword).isEmpty then 0 else 1) < 30)) = true
  line : (apos.endLine == cpos.line) = true
  trees : backTo cpos (starEach [e] X.env) = [(false, eval e X.env)]
structure M2 (X : Cx) (o : Expr) (m : Str) (apos : Pos) (e f : Expr) (cpos : Pos) : Prop where
  base : attributeBase o m X.env (eval o X.env) = eval o X.env
  few : ((backTo cpos (starEach [e, f] X.env)).all (fun x => !x.1) && (backToKw cpos (keywordEach [] X.env)).all (fun x => x.1.isSome)
    && decide (([e, f] : List Expr).length + ([] : List Keyword).length + (if ([] : List Keyword).isEmpty then 0 else 1) < 30)) = true
  line : (apos.endLine == cpos.line) = true
  trees : backTo cpos (starEach [e, f] X.env) = [(false, eval e X.env), (false, eval f X.env)]
def IsD (H : Hp) (a : Addr) : Prop := (∃ kvs, Rd H a (.dK kvs)) ∨ ∃ kvs, Rd H a (.dT kvs)
theorem isD_at {X : Cx} {pins : List (Addr × Obj)} {σ : St} {H : Hp} {s : Shared} {a : Addr} (I : Inv X pins σ H s) (d : IsD H a) :
    s.TypeIs (.ref a) "dict" ∧ (∀ b, Value.ref a = .ref b → ∃ ob, s.heap.get? b = some ob ∧ ob.dict = none) ∧ (a == sysModules) = false := by
  rcases d with ⟨kvs, e⟩ | ⟨kvs, e⟩
  · obtain ⟨_, hd, vs, _, dd⟩ := dk_rd I.hok e
    refine ⟨dd.typeIs, fun b q => ?_, hd⟩
    cases q
    obtain ⟨ob, _, _, h1, h2, _⟩ := dd
    exact ⟨ob, h1, h2.2.1⟩
  · obtain ⟨_, hd, xs, _, dd⟩ := dt_rd I.hok e
    refine ⟨dd.typeIs, fun b q => ?_, hd⟩
    cases q
    obtain ⟨ob, _, _, h1, h2, _⟩ := dd
    exact ⟨ob, h1, h2.2.1⟩
section
variable {X : Cx} {pins : List (Addr × Obj)} {σ : St} {H : Hp} {s : Shared} {a : Addr} {y d : V} {u r : Value} {o : Option V} {A : Around} {E : Value → Shared → Prop}
theorem d_get1 {Q : Value → Shared → Prop} (hu : A.units + 1 < cLine) (I : Inv X pins σ H s) (g : DGet H a y o) (ry : RelV y u) (h : ∀ w' s', Inv X pins σ H s' → RelV (o.getD .non) w' → Q w' s') :
    wpAny (model X.prog X.w) A (call (.builtin "dict.get") [.ref a, u]) Q E s := by
  rcases g with ⟨kvs, k, e, ey, l⟩ | ⟨kvs, k, b, e, ey, eb, l⟩
  · subst ey
    obtain ⟨z, hd, vs, rel, dd⟩ := dk_rd I.hok e
    refine call_meetsIn PySem.F.slot_dict_get dd.typeIs PySem.F.entry_dict_get (PySem.F.args_dict_get_2 _ _) (meets_dict_get (mixKind X.prog X.w) a (kV_is ry) hd) ⟨_, dd.mapOf, h _ _ (I.tok _) ?_⟩
    rw [l]
    exact (rel.val k).getD rfl
  · subst ey
    cases (show u = Value.ref b from ry)
    obtain ⟨z, hd, xs, rel, dd⟩ := dt_rd I.hok e
    refine call_meetsIn PySem.F.slot_dict_get dd.typeIs PySem.F.entry_dict_get (PySem.F.args_dict_get_2 _ _) (meetsH_dict_get (tupleKind (mixKind X.prog X.w)) a b hd) ⟨tupleKind_room_in1 hu, k, xs, key_of I.hok eb, dd, h _ _ (I.tok _) ?_⟩
    rw [l]
    exact (rel.val k).getD rfl
theorem d_get2 {Q : Value → Shared → Prop} (hu : A.units + 1 < cLine) (I : Inv X pins σ H s) (g : DGet H a y o) (ry : RelV y u) (rd : RelV d r) (h : ∀ w' s', Inv X pins σ H s' → RelV (o.getD d) w' → Q w' s') :
    wpAny (model X.prog X.w) A (call (.builtin "dict.get") [.ref a, u, r]) Q E s := by
  rcases g with ⟨kvs, k, e, ey, l⟩ | ⟨kvs, k, b, e, ey, eb, l⟩
  · subst ey
    obtain ⟨z, hd, vs, rel, dd⟩ := dk_rd I.hok e
    refine call_meetsIn PySem.F.slot_dict_get dd.typeIs PySem.F.entry_dict_get (PySem.F.args_dict_get_3 _ _ _) (meets_dict_get_default (mixKind X.prog X.w) a (kV_is ry) hd r) ⟨_, dd.mapOf, h _ _ (I.tok _) ?_⟩
    rw [l]
    exact (rel.val k).getD rd
  · subst ey
    cases (show u = Value.ref b from ry)
    obtain ⟨z, hd, xs, rel, dd⟩ := dt_rd I.hok e
    refine call_meetsIn PySem.F.slot_dict_get dd.typeIs PySem.F.entry_dict_get (PySem.F.args_dict_get_3 _ _ _) (meetsH_dict_get_default (tupleKind (mixKind X.prog X.w)) a b hd r) ⟨tupleKind_room_in1 hu, k, xs, key_of I.hok eb, dd, h _ _ (I.tok _) ?_⟩
    rw [l]
    exact (rel.val k).getD rd
end
def tDGet1 (td ty : TE) : TE := fun σ H Q => td σ H fun x H1 => ∃ a, x = .ref a ∧ IsD H1 a ∧ ty σ H1 fun y H2 => ∃ o, DGet H2 a y o ∧ Q (o.getD .non) H2
def tDGet2 (td ty tx : TE) : TE := fun σ H Q => td σ H fun x H1 => ∃ a, x = .ref a ∧ IsD H1 a ∧ ty σ H1 fun y H2 => tx σ H2 fun z H3 => ∃ o, DGet H3 a y o ∧ Q (o.getD z) H3
section
variable {X : Cx} {o e f : Expr} {apos cpos : Pos} {td ty tx : TE}
theorem pe_dget1 (hu : X.A.units + 1 < cLine) (ho : PE X o td) (he : PE X e ty) (m : M1 X o "get" apos e cpos) : PE X (.Call (.Attribute o "get" apos) [e] [] cpos) (tDGet1 td ty) := by
  intro pins s σ H Q I h
  refine wpAny_Call_method m.base m.few m.line PySem.F.plainAttrs_dict PySem.F.slot_dict_get PySem.F.type_dict_get (thn (ho pins s σ H _ I h) fun u s1 ⟨x, H1, I1, rx, a, ex, d, q1⟩ => ?_)
  subst ex
  obtain rfl : u = Value.ref a := rx
  obtain ⟨t1, t2, _⟩ := isD_at I1 d
  refine ⟨t1, t2, ?_⟩
  rw [m.trees]
  refine Calls.callWith_builtin rfl (Calls.evalArgs_plain (Calls.spliced_cons (thn (he pins s1 σ H1 _ I1 q1) fun iv s2 ⟨y, H2, I2, ry, ov, g, q2⟩ => Calls.spliced_nil ?_)))
  exact d_get1 hu I2 g ry fun w' s3 I3 rw' => ⟨_, H2, I3, rw', q2⟩
theorem pe_dget2 (hu : X.A.units + 1 < cLine) (ho : PE X o td) (he : PE X e ty) (hf : PE X f tx) (m : M2 X o "get" apos e f cpos) : PE X (.Call (.Attribute o "get" apos) [e, f] [] cpos) (tDGet2 td ty tx) := by
  intro pins s σ H Q I h
  refine wpAny_Call_method m.base m.few m.line PySem.F.plainAttrs_dict PySem.F.slot_dict_get PySem.F.type_dict_get (thn (ho pins s σ H _ I h) fun u s1 ⟨x, H1, I1, rx, a, ex, d, q1⟩ => ?_)
  subst ex
  obtain rfl : u = Value.ref a := rx
  obtain ⟨t1, t2, _⟩ := isD_at I1 d
  refine ⟨t1, t2, ?_⟩
  rw [m.trees]
  refine Calls.callWith_builtin rfl (Calls.evalArgs_plain (Calls.spliced_cons (thn (he pins s1 σ H1 _ I1 q1) fun iv s2 ⟨y, H2, I2, ry, q2⟩ =>
    Calls.spliced_cons (thn (hf pins s2 σ H2 _ I2 q2) fun fv s3 ⟨z, H3, I3, rz, ov, g, q3⟩ => Calls.spliced_nil ?_))))
  exact d_get2 hu I3 g ry rz fun w' s4 I4 rw' => ⟨_, H3, I4, rw', q3⟩
end
section
variable {X : Cx} {pins : List (Addr × Obj)} {σ : St} {H : Hp} {s : Shared} {a : Addr} {kvs : List (Key × V)} {A : Around} {E : Value → Shared → Prop}
end
section
variable {X : Cx} {pins : List (Addr × Obj)} {σ : St} {H : Hp} {s : Shared} {a : Addr} {y : V} {u : Value} {A : Around} {E : Value → Shared → Prop}
end
end L2
namespace L2
open PySem PySem.Spec PyProof.Rows
section
variable {κ : Type} [DecidableEq κ]
end
end L2
set_option Elab.async false
set_option linter.all false
set_option maxRecDepth 100000
set_option maxHeartbeats 4000000
namespace L2
open PySem PySem.Spec PyProof.Rows
section
variable {X : Cx}
theorem call_isi : CallR X (.builtin "isinstance") (fun xs H Q => ∃ x n ty b, xs = [x, .ty n] ∧ TyOf X.K H x ty ∧ PySem.W.kitOne X.K ty (.type n) = some b ∧ Q (.bl b) H) := by
  intro pins s σ H xs us Q I r h
  obtain ⟨x, n, ty, b, rfl, hty, hk, q⟩ := h
  obtain ⟨u, w', rfl, rx, rc⟩ := vals2 r
  cases (show w' = Value.type n from rc)
  exact isinst_ok I rx hty hk (fun tk => ⟨.bl b, H, I.tok _, rfl, q⟩)
theorem kitOne_ty (K : PySem.W.Frag) (A B : String) (r : Bool)
    (h : (if (Value.type A == Value.type B) = true then some true else if PySem.W.kitMeta B = true then (fastBuiltinMro A).map (·.contains (.type B)) else none) = some r) : PySem.W.kitOne K (.type A) (.type B) = some r := h
mutual
inductive DatV (K : PySem.W.Frag) (H : Hp) : V → PyData → Prop
  | non : DatV K H .non .none
  | bl (b : Bool) : DatV K H (.bl b) (.bool b)
  | int (i : Int) : DatV K H (.int i) (.int i)
  | str (x : Str) : DatV K H (.str x) (.str x)
  | lst {a : Addr} {xs : List V} {ds : List PyData} (h : SqL K H a xs) (r : DatVs K H xs ds) : DatV K H (.ref a) (.list ds)
  | tup {a : Addr} {xs : List V} {ds : List PyData} (h : SqT K H a xs) (r : DatVs K H xs ds) : DatV K H (.ref a) (.tuple ds)
inductive DatVs (K : PySem.W.Frag) (H : Hp) : List V → List PyData → Prop
  | nil : DatVs K H [] []
  | cons {x : V} {d : PyData} {xs : List V} {ds : List PyData} (h : DatV K H x d) (t : DatVs K H xs ds) : DatVs K H (x :: xs) (d :: ds)
end
mutual
theorem DatV.reads {pins : List (Addr × Obj)} {σ : St} {H : Hp} {s : Shared} (I : Inv X pins σ H s) : ∀ {x : V} {d : PyData} {u : Value}, DatV X.K H x d → RelV x u → ∃ as, Reads s.heap u d as
  | _, _, _, .non, r => by cases (show _ = Value.none from r); exact ⟨_, .none⟩
  | _, _, _, .bl b, r => by cases (show _ = Value.bool b from r); exact ⟨_, .bool b⟩
  | _, _, _, .int i, r => by obtain ⟨t, rfl⟩ := r; exact ⟨_, .int i t⟩
  | _, _, _, .str x, r => by obtain ⟨t, rfl⟩ := r; exact ⟨_, .str x t⟩
  | _, _, _, @DatV.lst _ _ a xs ds h q, r => by
    cases (show _ = Value.ref a from r)
    obtain ⟨its, hv, hp, _⟩ := I.list h
    obtain ⟨o, n, e, c, _, d⟩ := hp
    obtain ⟨as, z⟩ := DatVs.reads I q hv
    exact ⟨_, .list e c d (by simpa using z)⟩
  | _, _, _, @DatV.tup _ _ a xs ds h q, r => by
    cases (show _ = Value.ref a from r)
    obtain ⟨its, hv, hp, _⟩ := I.tuple h
    obtain ⟨o, e, c, n, d⟩ := hp
    obtain ⟨as, z⟩ := DatVs.reads I q hv
    exact ⟨_, .tuple e c d (by simpa using z)⟩
theorem DatVs.reads {pins : List (Addr × Obj)} {σ : St} {H : Hp} {s : Shared} (I : Inv X pins σ H s) : ∀ {xs : List V} {ds : List PyData} {us : List Value}, DatVs X.K H xs ds → Vals xs us → ∃ as, ReadsAll s.heap us ds as
  | _, _, _, .nil, .nil => ⟨_, .nil⟩
  | _, _, _, .cons h t, .cons r q => by
    obtain ⟨as, z⟩ := DatV.reads I h r
    obtain ⟨bs, y⟩ := DatVs.reads I t q
    exact ⟨_, .cons z y⟩
end
def rEqD (K : PySem.W.Frag) : R2 := fun x y H Q => ∃ d e, DatV K H x d ∧ DatV K H y e ∧ SeqAt.shaped d = true ∧ SeqAt.shaped e = true ∧ Q (.bl (PyData.eqv d e)) H
def rNeD (K : PySem.W.Frag) : R2 := fun x y H Q => ∃ d e, DatV K H x d ∧ DatV K H y e ∧ SeqAt.shaped d = true ∧ SeqAt.shaped e = true ∧ Q (.bl (!PyData.eqv d e)) H
theorem op_eqD (hu : X.A.units + 64 < cLine) : OpR X (compareOp .Eq) (rEqD X.K) := by
  intro pins s σ H x y v u Q I rx ry h
  obtain ⟨d, e, hd, he, sd, se, q⟩ := h
  obtain ⟨as, z⟩ := hd.reads I rx
  obtain ⟨bs, z'⟩ := he.reads I ry
  exact SeqAt.compareEq_shaped z z' sd se hu ⟨.bl _, H, I, rfl, q⟩
theorem op_neD (hu : X.A.units + 64 < cLine) : OpR X (compareOp .NotEq) (rNeD X.K) := by
  intro pins s σ H x y v u Q I rx ry h
  obtain ⟨d, e, hd, he, sd, se, q⟩ := h
  obtain ⟨as, z⟩ := hd.reads I rx
  obtain ⟨bs, z'⟩ := he.reads I ry
  exact SeqAt.compareNe_shaped z z' sd se hu ⟨.bl _, H, I, rfl, q⟩
end
theorem same_upd {H : Hp} {p : Addr} {o : HO} (h : H p = none) : Same H (upd H p o) := fun b u e => by
  rw [upd_ne (ne_of_none e h)]; exact e
theorem atI_lt {α : Type} (xs : List α) (i : Int) (h0 : 0 ≤ i) (h1 : i < xs.length) : ∃ v, atI xs i = some v ∧ v ∈ xs := by
  have hl : i.toNat < xs.length := by omega
  refine ⟨xs[i.toNat], ?_, List.getElem_mem hl⟩
  have e : ((i.toNat : Nat) : Int) = i := by omega
  have := atI_nat (xs := xs) (j := i.toNat) (v := xs[i.toNat]) (List.getElem?_eq_getElem hl)
  rw [e] at this
  exact this
theorem atI_ints (ns : List Int) (i : Int) (h0 : 0 ≤ i) (h1 : i < ns.length) : ∃ z, atI (ns.map V.int) i = some (.int z) ∧ z ∈ ns := by
  obtain ⟨v, e, m⟩ := atI_lt (ns.map V.int) i h0 (by simpa using h1)
  obtain ⟨z, hz, rfl⟩ := List.mem_map.mp m
  exact ⟨z, e, hz⟩
end L2
set_option Elab.async false
set_option linter.all false
set_option maxRecDepth 100000
set_option maxHeartbeats 4000000
namespace L2
open PySem PySem.Spec PyProof.Rows
def clOf (cells : List (Str × Addr)) : List (Str × NameKind) → List (Str × Addr) → List (Str × Addr)
  | [], acc => acc
  | (n, k) :: r, acc => if (k == .free) = true then clOf cells r ((n, (cells.lookup n).getD 0) :: acc) else clOf cells r acc
theorem closure_run {env : Env} : ∀ (names : List (Str × NameKind)) (acc : List (Str × Addr)), (∀ y ∈ names, y.2 = .free → ∃ c, env.cells.lookup y.1 = some c) →
    (forIn names acc (fun (x : Str × NameKind) (cs : List (Str × Addr)) => match x with
      | (name, kind) => if (kind == .free) = true then (do let a ← cellOf env name; pure (ForInStep.yield ((name, a) :: cs))) else (do pure PUnit.unit; pure (ForInStep.yield cs))) : Sem (List (Str × Addr))) = pure (clOf env.cells names acc)
  | [], acc, _ => rfl
  | (n, k) :: r, acc, h => by
    rw [List.forIn_cons]
    have hr : ∀ y ∈ r, y.2 = .free → ∃ c, env.cells.lookup y.1 = some c := fun y hy => h y (List.mem_cons_of_mem _ hy)
    by_cases hk : (k == .free) = true
    · obtain ⟨c, hc⟩ := h (n, k) List.mem_cons_self (by simpa using hk)
      have hc' : env.cells.lookup n = some c := hc
      simp only [hk, if_true, clOf, hc', Option.getD_some]
      have e : cellOf env n = pure c := by unfold cellOf; rw [hc']
      rw [e]
      exact closure_run r _ hr
    · simp only [hk, if_false, clOf]
      exact closure_run r acc hr
theorem closureFor_eq {scope : Scope} {env : Env} (h : ∀ y ∈ scope.names, y.2 = .free → ∃ c, env.cells.lookup y.1 = some c) : closureFor scope env = pure (clOf env.cells scope.names []) := by
  unfold closureFor
  have := closure_run (env := env) scope.names [] h
  first
    | exact (congrArg (fun m => m >>= fun cs => pure cs) this).trans (pure_bind _ _)
    | (simp only [] at this ⊢; rw [this]; rfl)
theorem clOf_sub {cells : List (Str × Addr)} {x : Str} {c : Addr} : ∀ {names : List (Str × NameKind)} {acc : List (Str × Addr)}, (∀ y ∈ names, y.2 = .free → ∃ c, cells.lookup y.1 = some c) → (clOf cells names acc).lookup x = some c → acc.lookup x = some c ∨ cells.lookup x = some c
  | [], acc, _, h => .inl h
  | (n, k) :: r, acc, hf, h => by
    have hr : ∀ y ∈ r, y.2 = .free → ∃ c, cells.lookup y.1 = some c := fun y hy => hf y (List.mem_cons_of_mem _ hy)
    unfold clOf at h
    by_cases hk : (k == .free) = true
    · rw [if_pos hk] at h
      rcases clOf_sub hr h with q | q
      · rw [List.lookup_cons] at q
        cases hx : x == n with
        | true =>
          rw [hx] at q
          obtain ⟨d, hd⟩ := hf (n, k) List.mem_cons_self (by simpa using hk)
          have e : x = n := by simpa using hx
          subst e
          have hd' : cells.lookup x = some d := hd
          rw [hd'] at q ⊢
          exact .inr (by simpa using q)
        | false => rw [hx] at q; exact .inl q
      · exact .inr q
    · rw [if_neg hk] at h
      exact clOf_sub hr h
theorem clOf_acc {cells : List (Str × Addr)} {x : Str} : ∀ {names : List (Str × NameKind)} {acc : List (Str × Addr)}, (∀ y ∈ names, y.2 = .free → ∃ c, cells.lookup y.1 = some c) → (∃ c, acc.lookup x = some c) → ∃ c, (clOf cells names acc).lookup x = some c
  | [], acc, _, h => h
  | (n, k) :: r, acc, hf, h => by
    have hr : ∀ y ∈ r, y.2 = .free → ∃ c, cells.lookup y.1 = some c := fun y hy => hf y (List.mem_cons_of_mem _ hy)
    unfold clOf
    by_cases hk : (k == .free) = true
    · rw [if_pos hk]
      refine clOf_acc hr ?_
      rw [List.lookup_cons]
      cases hx : x == n with
      | true => exact ⟨_, rfl⟩
      | false => exact h
    · rw [if_neg hk]
      exact clOf_acc hr h
theorem clOf_has {cells : List (Str × Addr)} {x : Str} : ∀ {names : List (Str × NameKind)} {acc : List (Str × Addr)}, (∀ y ∈ names, y.2 = .free → ∃ c, cells.lookup y.1 = some c) → names.lookup x = some .free → ∃ c, (clOf cells names acc).lookup x = some c
  | [], acc, _, h => by simp at h
  | (n, k) :: r, acc, hf, h => by
    have hr : ∀ y ∈ r, y.2 = .free → ∃ c, cells.lookup y.1 = some c := fun y hy => hf y (List.mem_cons_of_mem _ hy)
    rw [List.lookup_cons] at h
    unfold clOf
    cases hx : x == n with
    | true =>
      rw [hx] at h
      have hk : k = .free := by simpa using h
      subst hk
      rw [if_pos (show (NameKind.free == NameKind.free) = true from rfl)]
      refine clOf_acc hr ⟨(cells.lookup n).getD 0, ?_⟩
      rw [List.lookup_cons, hx]
    | false =>
      rw [hx] at h
      by_cases hk : (k == .free) = true
      · rw [if_pos hk]; exact clOf_has hr h
      · rw [if_neg hk]; exact clOf_has hr h
theorem lookup_mem {x : Str} {k : NameKind} : ∀ {names : List (Str × NameKind)}, names.lookup x = some k → (x, k) ∈ names
  | [], h => by simp at h
  | (n, j) :: r, h => by
    rw [List.lookup_cons] at h
    cases hx : x == n with
    | true =>
      rw [hx] at h
      have e : x = n := by simpa using hx
      have e2 : j = k := by simpa using h
      subst e; subst e2
      exact List.mem_cons_self
    | false => rw [hx] at h; exact List.mem_cons_of_mem _ (lookup_mem h)
theorem lookup_relabel {env : Env} {x : Str} : ∀ {names : List (Str × NameKind)},
    (names.map fun (n, k) => if (k == NameKind.free && env.scope.kind == .function && env.kindOf n == some .cell) then (n, NameKind.cell) else (n, k)).lookup x
      = (names.lookup x).map fun k => if (k == NameKind.free && env.scope.kind == .function && env.kindOf x == some .cell) then NameKind.cell else k
  | [] => rfl
  | (n, k) :: r => by
    have ih := @lookup_relabel env x r
    show List.lookup x ((if (k == NameKind.free && env.scope.kind == .function && env.kindOf n == some .cell) = true then (n, NameKind.cell) else (n, k)) :: _) = _
    cases hx : x == n with
    | true =>
      have e : x = n := by simpa using hx
      subst e
      by_cases hc : (k == NameKind.free && env.scope.kind == .function && env.kindOf x == some .cell) = true
      · rw [if_pos hc]
        simp only [List.lookup_cons, beq_self_eq_true, Option.map_some]
        rw [if_pos hc]
      · rw [if_neg hc]
        simp only [List.lookup_cons, beq_self_eq_true, Option.map_some]
        rw [if_neg hc]
    | false =>
      by_cases hc : (k == NameKind.free && env.scope.kind == .function && env.kindOf n == some .cell) = true
      · rw [if_pos hc]; simp only [List.lookup_cons, hx]; exact ih
      · rw [if_neg hc]; simp only [List.lookup_cons, hx]; exact ih
abbrev cCx (X : Cx) (scope : Scope) (N' : List Str) (C : Addr) (s₀ : Shared) (H₀ : Hp) (ex : List Addr) (pn : List (Addr × Obj)) : Cx :=
  { X with N := N', s₀ := s₀, H₀ := H₀, env := compEnvC scope (clOf X.env.cells scope.names []) C X.env, outer := X.stack, stack := X.stack, ex := ex, fn := fun _ => false, pn := pn, xe := fun _ _ => False }
def PTs (Y : Cx) (ifs : List Expr) (t : TT) : Prop :=
  ∀ (pins : List (Addr × Obj)) (s : Shared) (σ : St) (H : Hp) (Q : Bool → Hp → Prop), Inv Y pins σ H s → t σ H Q →
    wpAny (model Y.prog Y.w) Y.A (forIn ifs true fun c r => if r = true then do let ok ← isTrue c Y.env (eval c Y.env); pure (ForInStep.yield ok) else pure (ForInStep.yield r)) (TP Y pins σ Q) Y.xe s
def tYes : TT := fun _ H Q => Q true H
theorem pts_nil {Y : Cx} : PTs Y [] tYes := fun _ _ _ H _ I h => wpAny_pure ⟨H, I, h⟩
theorem pts_one {Y : Cx} {c : Expr} {t : TT} (h : PT Y c t) : PTs Y [c] t := fun pins s σ H Q I hw => PySem.wpAny_tests_one (h pins s σ H Q I hw)
theorem HOk.but {P : Program} {w : World} {H : Hp} {h h' : Heap} {C : Addr} (ok : HOk P w H h) (hn : H C = none) (hs : Heap.SameBut C h h') : HOk P w H h' := fun b ob e => by
  refine (ok b ob e).stay (fun c w' hc q => (hs.2 c ?_).trans q) (fun _ q => q) fun _ _ q => q
  rintro rfl
  rcases hc with rfl | hc
  · rw [hn] at e; cases e
  · rw [hn] at hc; cases hc
theorem Un.but {fs ex : List Addr} {H H' : Hp} {h h1 h2 : Heap} {C : Addr} (u : Un fs ex H H' h h1) (hs : Heap.SameBut C h1 h2) (hC : ∀ b o, h.get? b = some o → b ≠ C) : Un fs ex H H' h h2 where
  keep := fun b o e n hb hx => (hs.2 b (hC b o e)).trans (u.keep b o e n hb hx)
  slot := fun b o e n hb hx => by
    obtain ⟨sl, q⟩ := u.slot b o e n hb hx
    exact ⟨sl, (hs.2 b (hC b o e)).trans q⟩
  free := u.free
  there := fun b o e hx => by
    obtain ⟨o', q⟩ := u.there b o e hx
    exact ⟨o', (hs.2 b (hC b o e)).trans q⟩
  tups := u.tups
  frzs := u.frzs
  tbls := u.tbls
section
variable {X : Cx}
def tComp (k : Nat) (wi : TI) (g : TG) (tt : TT) (te : TE) : TE := fun σ H Q => wi σ H fun J H1 => ∀ D, H1 D = none → ∃ W : Nat → Nat → List V → Hp → Prop, (∃ m, W 0 m [] (upd H1 D (.lst []))) ∧ ∀ i m ys H, W i m ys H →
  (J.stop i H ∧ Q (.ref D) H) ∨ (J.go i H ∧ ∃ N : List V → Hp → Prop, (∀ ys' H', N ys' H' → ∃ m', m' < m ∧ W (i + 1) m' ys' H') ∧
    ∀ x H', J.yld i H x H' → g x (List.replicate k none ++ σ) H' fun σ2 H2 => (∃ vs : St, vs.length = k ∧ σ2 = vs ++ σ) ∧ tt σ2 H2 fun b H3 => if b = true then te σ2 H3 fun y H4 => H4 D = some (.lst ys) ∧ ys.length < sizeLine ∧ N (ys ++ [y]) (upd H4 D (.lst (ys ++ [y]))) else N ys H3)
theorem comp_loop {Y : Cx} {tg elt iter : Expr} {ifs : List Expr} {scope : Scope} {pos : Pos} {it D : Addr} {g : TG} {tt : TT} {te : TE} {J : It} {fp : List Addr} {tn : Nat → Heap → Prop} {k : Nat} {σ : St} {Q : VK}
    (hc : Y.calm = true) (hx : Y.xe = fun _ _ => False) (hg : PG Y tg g) (ht : PTs Y ifs tt) (he : PE Y elt te) (T : Turn Y.prog Y.w Y.K tg J fp it tn) (hf : ∀ H : Hp, (∀ b ∈ fp, H b = none) → ∀ b ∈ fp, FpOk Y [] H b)
    (W : Nat → Nat → List V → Hp → Prop)
    (turn : ∀ i m ys H, W i m ys H → (J.stop i H ∧ Q (.ref D) H) ∨ (J.go i H ∧ ∃ N : List V → Hp → Prop, (∀ ys' H', N ys' H' → ∃ m', m' < m ∧ W (i + 1) m' ys' H') ∧
      ∀ x H', J.yld i H x H' → g x (List.replicate k none ++ σ) H' fun σ2 H2 => (∃ vs : St, vs.length = k ∧ σ2 = vs ++ σ) ∧ tt σ2 H2 fun b H3 => if b = true then te σ2 H3 fun y H4 => H4 D = some (.lst ys) ∧ ys.length < sizeLine ∧ N (ys ++ [y]) (upd H4 D (.lst (ys ++ [y]))) else N ys H3))
    (n : Nat) (s : Shared) (h : ∃ i ys H, Inv Y [] (List.replicate k none ++ σ) H s ∧ tn i s.heap ∧ (∀ b ∈ fp, H b = none) ∧ W i n ys H) :
    codeAny (model Y.prog Y.w) Y.A (.compLoop (.ListComp elt [⟨tg, iter, ifs, 0⟩] scope pos) 0 (.ref it) (.ref D) Y.env) (fun r s' => r = .ok .next ∧ ∃ H', Inv Y [] (List.replicate k none ++ σ) H' s' ∧ Q (.ref D) H') s := by
  refine codeAny_loop rfl (fun n s => ∃ i ys H, Inv Y [] (List.replicate k none ++ σ) H s ∧ tn i s.heap ∧ (∀ b ∈ fp, H b = none) ∧ W i n ys H) ?_ n h
  rintro n s3 ⟨i, ys, H3, I3, st3, fr3, w3⟩
  show wpAny _ Y.A ((compTurn (.ListComp elt [⟨tg, iter, ifs, 0⟩] scope pos) 0 (.ref it) (.ref D) Y.env).onRaise (fun x => do noteFrame x Y.env; theTreesLotGoes x)) _ _ s3
  refine PySem.wpAny_noted ?_
  rw [PySem.compTurn_list]
  have no : ∀ {α : Type} {m : Sem α} {P : α → Shared → Prop} {E : Value → Shared → Prop} {s : Shared}, wpAny (model Y.prog Y.w) Y.A m P Y.xe s → wpAny (model Y.prog Y.w) Y.A m P E s := fun {α m P E s} h =>
    wpAny_mono h (fun _ _ q => q) fun _ _ q => by rw [hx] at q; exact q.elim
  refine wpAny_bind (wpAny_standAt (wpAny_bind ?_))
  rcases turn i n ys H3 w3 with ⟨stop, qn⟩ | ⟨go, N, hN, step⟩
  · refine thn (T.done Y rfl rfl rfl hc i [] s3 (List.replicate k none ++ σ) H3 _ I3 (hf H3 fr3) st3 stop) fun r s4 ⟨hr, I4⟩ => ?_
    subst hr
    exact wpAny_pure ⟨rfl, H3, I4, qn⟩
  · refine thn (T.item Y rfl rfl rfl hc i [] s3 (List.replicate k none ++ σ) H3 _ I3 (hf H3 fr3) st3 go) fun r s4 ⟨u, hr, h4⟩ => ?_
    subst hr
    refine wpAny_bind (thn h4 fun _ s5 ⟨x, H5, I5, r5, y5, st5, fr5⟩ => ?_)
    have I5' := I5.pinned (hf H5 fr5) (T.obj _ _ st5)
    refine wpAny_bind (no (thn (hg _ s5 (List.replicate k none ++ σ) H5 x u _ I5' r5 (step x H5 y5)) fun _ s6 ⟨σ6, H6, I6, ⟨vs, hvs, e6⟩, q6⟩ => ?_))
    subst e6
    have forget : ∀ {pins : List (Addr × Obj)} {H : Hp} {s : Shared}, Inv Y pins (vs ++ σ) H s → Inv Y pins (List.replicate k none ++ σ) H s := fun {pins H s} I => I.weak (by simp [hvs]) fun i v e => by
      by_cases hi : i < k
      · rw [List.getElem?_append_left (by simpa using hi)] at e
        simp [List.getElem?_replicate, hi] at e
      · rw [List.getElem?_append_right (by simpa using Nat.le_of_not_lt hi)] at e
        rw [List.getElem?_append_right (by omega)]
        simpa [hvs] using e
    refine wpAny_bind (no (thn (ht _ s6 (vs ++ σ) H6 _ I6 q6) fun b s7 ⟨H7, I7, q7⟩ => ?_))
    have again : ∀ {H8 : Hp} {s8 : Shared} {ys' : List V}, Inv Y ([] ++ pinsAt fp s5.heap) (vs ++ σ) H8 s8 → N ys' H8 → ∃ m, m < n ∧ ∃ i ys H, Inv Y [] (List.replicate k none ++ σ) H s8 ∧ tn i s8.heap ∧ (∀ b ∈ fp, H b = none) ∧ W i m ys H := fun {H8 s8 ys'} I8 n8 => by
      obtain ⟨m', hm, w8⟩ := hN ys' H8 n8
      refine ⟨m', hm, i + 1, ys', H8, forget I8.unpinned, T.keep _ _ _ st5 fun b hb o e => (I8.pin (b, o) (List.mem_append_right _ (List.mem_append_right _ (mem_pinsAt hb e)))).1, fun b hb => ?_, w8⟩
      obtain ⟨o, e, d⟩ := T.obj _ _ st5 b hb
      exact (I8.pin (b, o) (List.mem_append_right _ (List.mem_append_right _ (mem_pinsAt hb e)))).2.1
    cases b with
    | false =>
      rw [if_neg Bool.false_ne_true] at q7
      exact wpAny_pure ⟨rfl, again I7 q7⟩
    | true =>
      rw [if_pos rfl] at q7
      refine wpAny_bind (wpAny_bind (no (thn (he _ s7 (vs ++ σ) H7 _ I7 q7) fun y s8 ⟨y', H8, I8, ry, q8, l8, n8⟩ => ?_)))
      exact wpAny_bind (no (thn (mt_append _ s8 (vs ++ σ) H8 (.ref D) [y'] (.ref D) [y] (fun _ H' => N (ys ++ [y']) H') I8 rfl (.cons ry .nil) ⟨D, ys, y', rfl, rfl, q8, l8, n8⟩) fun _ s9 ⟨_, H9, I9, _, q9⟩ => wpAny_pure (wpAny_pure ⟨rfl, again I9 q9⟩)))
structure CompOk (X : Cx) (scope : Scope) (N' : List Str) (k : Nat) : Prop where
  cell : ∀ y ∈ scope.names, y.2 ≠ .cell
  kind : scope.kind = .function
  names : ∀ y ∈ scope.names, y.2 = .local → scope.names.lookup y.1 = some .local
  free : ∀ y ∈ scope.names, y.2 = .free → X.env.scope.names.lookup y.1 = some .cell
  len : N'.length = k + X.N.length
  sub : ∀ i x, N'[k + i]? = some x → scope.names.lookup x = some .free → X.N[i]? = some x
  loc : ∀ i x, N'[k + i]? = some x → scope.names.lookup x ≠ some .local
theorem CompOk.cells {scope : Scope} {N' : List Str} {k : Nat} {pins : List (Addr × Obj)} {σ : St} {H : Hp} {s : Shared} (c : CompOk X scope N' k) (I : Inv X pins σ H s) : ∀ y ∈ scope.names, y.2 = .free → ∃ a, X.env.cells.lookup y.1 = some a := fun y hy e =>
  I.ok.has y.1 (.inl (c.free y hy e))
theorem inv_comp {scope : Scope} {N' : List Str} {k : Nat} {pins : List (Addr × Obj)} {σ : St} {H : Hp} {s s₄ : Shared} {fp : List Addr} {m : Str → Option Value} (c : CompOk X scope N' k) (hc : X.calm = true) (I : Inv X pins σ H s)
    (hf : ∀ b ∈ fp, FpOk X pins H b) (hfl : ∀ b ∈ fp, b < s.heap.objs.size) (hb : ∀ b ∈ fp, X.base.get? b = none) (hns : s₄.heap.Ns s.heap.objs.size m) (hk : ∀ b o, s.heap.get? b = some o → s₄.heap.get? b = some o) (ho : s₄.os = s.os) (hg : s₄.gens = s.gens) :
    Inv (cCx X scope N' s.heap.objs.size s H fp (X.pn ++ pins)) [] (List.replicate k none ++ σ) H s₄ := by
  have hcl := c.cells I
  have sub : ∀ x a, (clOf X.env.cells scope.names []).lookup x = some a → X.env.cells.lookup x = some a := fun x a e => by
    rcases clOf_sub hcl e with q | q
    · simp at q
    · exact q
  have kinds : ∀ x, (compEnvC scope (clOf X.env.cells scope.names []) s.heap.objs.size X.env).kindOf x = some .cell ∨ (compEnvC scope (clOf X.env.cells scope.names []) s.heap.objs.size X.env).kindOf x = some .free → scope.names.lookup x = some .free := fun x hx => by
    have e : (compEnvC scope (clOf X.env.cells scope.names []) s.heap.objs.size X.env).kindOf x = (scope.names.lookup x).map fun k => if (k == NameKind.free && X.env.scope.kind == .function && X.env.kindOf x == some .cell) then NameKind.cell else k := lookup_relabel
    rw [e] at hx
    cases q : scope.names.lookup x with
    | none => rw [q] at hx; simp at hx
    | some j =>
      rw [q] at hx
      have hj : j ≠ .cell := c.cell (x, j) (lookup_mem q)
      cases j <;> simp_all
  have fresh : ∀ b, s.heap.objs.size ≤ b → s.heap.get? b = none := fun b hb => Heap.get?_none_of_le hb
  have ne : ∀ b o, s.heap.get? b = some o → b ≠ s.heap.objs.size := fun b o e => Nat.ne_of_lt (Heap.lt_size e)
  have cl_lt : ∀ x a, X.env.cells.lookup x = some a → a < s.heap.objs.size := fun x a e => by
    obtain ⟨v, o, h1, _⟩ := I.cell x a e
    exact Heap.lt_size h1
  refine ⟨⟨I.ok.mod, c.kind, I.ok.glob, I.ok.blt, Nat.le_refl _, fun x y a e1 e2 => I.ok.inj x y a (sub x a e1) (sub y a e2), fun x hx => clOf_has hcl (kinds x hx), (fun _ _ z => nomatch z), I.ok.hd, I.ok.frames, .inl rfl, fun b hb' => ⟨Nat.ne_of_lt (hfl b hb'), fun x a e => (hf b hb').2.2.2.2.1 x a (sub x a e)⟩,
      I.bs, Nat.le_trans I.ok.bsz I.sz, (fun b o e hb' => by rw [hb b hb'] at e; cases e), fun b hb' hz => ?_, I.stack, I.stkFree⟩, ho, by rw [hg]; exact I.bare, Un.kept hk, ⟨m, hns, fun i x v e1 e2 e3 => ?_⟩, fun x a e => ?_, I.hok.fresh (Nat.le_refl _), fun x a e => I.freeC x a (sub x a e), fun p hp => ?_, I.hok.kept hk, ?_⟩
  · rcases List.mem_cons.mp (I.stkSub b hz) with z | z
    · exact (hf b hb').2.1 z
    · exact (hf b hb').2.2.1 z
  · have hi : k ≤ i := by
      refine Nat.le_of_not_lt fun hi => ?_
      rw [List.getElem?_append_left (by simpa using hi)] at e2
      simp [List.getElem?_replicate, hi] at e2
    obtain ⟨j, rfl⟩ : ∃ j, i = k + j := ⟨i - k, by omega⟩
    rw [List.getElem?_append_right (by simp)] at e2
    have e2' : σ[j]? = some (some v) := by simpa using e2
    have e : (relabel scope X.env).names.lookup x = (scope.names.lookup x).map fun k => if (k == NameKind.free && X.env.scope.kind == .function && X.env.kindOf x == some .cell) then NameKind.cell else k := lookup_relabel
    have hfree : scope.names.lookup x = some .free := by
      cases q : scope.names.lookup x with
      | none =>
        rcases e3 with z | z | z
        all_goals (have z' : (relabel scope X.env).names.lookup x = some _ := z; rw [e, q] at z'; simp at z')
      | some j' =>
        have h1 : j' ≠ .cell := c.cell (x, j') (lookup_mem q)
        have h2 : j' ≠ .local := fun z => c.loc j x e1 (by rw [q, z])
        rcases e3 with z | z | z
        all_goals (have z' : (relabel scope X.env).names.lookup x = some _ := z; rw [e, q] at z'; cases j' <;> simp_all)
    have hX := c.sub j x e1 hfree
    have hcellX := c.free (x, .free) (lookup_mem hfree) rfl
    obtain ⟨m0, hn0, hl0⟩ := I.loc
    obtain ⟨u, r, l⟩ := hl0 j x v hX e2' (.inr (.inl hcellX))
    refine ⟨u, r, ?_⟩
    rcases l with ⟨z, _⟩ | ⟨_, a, ea, hz⟩
    · have z' : X.env.scope.names.lookup x = some .local := z
      rw [hcellX] at z'; cases z'
    · obtain ⟨a', ea'⟩ := clOf_has (acc := []) hcl hfree
      have e4 := sub x a' ea'
      rw [ea] at e4
      cases e4
      refine .inr ⟨.inl ?_, a, ea', ?_⟩
      · show (relabel scope X.env).names.lookup x = some .cell
        rw [e, hfree]
        have k1 : (X.env.scope.kind == .function) = true := by rw [I.ok.kind]; rfl
        have k2 : (X.env.kindOf x == some .cell) = true := by
          have : X.env.kindOf x = some .cell := hcellX
          rw [this]; rfl
        simp [k1, k2]
      · obtain ⟨o, h1, h2⟩ := hz
        exact ⟨o, hk _ _ h1, h2⟩
  · obtain ⟨v, o, h1, h2⟩ := I.cell x a (sub x a e)
    exact ⟨v, o, hk _ _ h1, h2⟩
  · have hp' : p ∈ X.pn ++ pins := by simpa using hp
    obtain ⟨e, n, nl, nf, d⟩ := I.pin p hp'
    refine ⟨hk _ _ e, n, ne _ _ e, fun z => ?_, d⟩
    rcases List.mem_cons.mp (I.stkSub _ z) with z | z
    · exact nl z
    · exact nf z
  · show (List.replicate k none ++ σ).length = N'.length
    rw [c.len, List.length_append, List.length_replicate, I.len]
theorem comp_block {elt iter tg : Expr} {ifs : List Expr} {scope : Scope} {pos : Pos} {g : TG} {tt : TT} {te : TE} {N' : List Str} {k : Nat} {it : Addr} {J : It} {fp : List Addr} {tn : Nat → Heap → Prop} {pins : List (Addr × Obj)} {σ : St} {H : Hp} {s : Shared} {Q : VK} {RR : Value → Addr → Result → Shared → Prop} {E : Value → Shared → Prop}
    (c : CompOk X scope N' k) (hc : X.calm = true) (I : Inv X pins σ H s) (T : Turn X.prog X.w X.K tg J fp it tn) (st : tn 0 s.heap) (hf : ∀ b ∈ fp, FpOk X pins H b)
    (hg : ∀ C s₀ H₀ ex pn, PG (cCx X scope N' C s₀ H₀ ex pn) tg g) (ht : ∀ C s₀ H₀ ex pn, PTs (cCx X scope N' C s₀ H₀ ex pn) ifs tt) (he : ∀ C s₀ H₀ ex pn, PE (cCx X scope N' C s₀ H₀ ex pn) elt te)
    (h : ∀ D, H D = none → ∃ W : Nat → Nat → List V → Hp → Prop, (∃ m, W 0 m [] (upd H D (.lst []))) ∧ ∀ i m ys H, W i m ys H →
      (J.stop i H ∧ Q (.ref D) H) ∨ (J.go i H ∧ ∃ N : List V → Hp → Prop, (∀ ys' H', N ys' H' → ∃ m', m' < m ∧ W (i + 1) m' ys' H') ∧
        ∀ x H', J.yld i H x H' → g x (List.replicate k none ++ σ) H' fun σ2 H2 => (∃ vs : St, vs.length = k ∧ σ2 = vs ++ σ) ∧ tt σ2 H2 fun b H3 => if b = true then te σ2 H3 fun y H4 => H4 D = some (.lst ys) ∧ ys.length < sizeLine ∧ N (ys ++ [y]) (upd H4 D (.lst (ys ++ [y]))) else N ys H3))
    (fin : ∀ D C s' H' m, s'.heap.Ns C m → C ≠ X.env.locals → (∀ x a, X.env.cells.lookup x = some a → a ≠ C) → (H' C = none ∧ X.s₀.heap.objs.size ≤ C ∧ ∀ p ∈ X.pn ++ pins, p.1 ≠ C) → (∀ h', Heap.SameBut C s'.heap h' → Inv X pins σ H' { s' with heap := h' }) → Q (.ref D) H' → RR (.ref D) C (.ok .next) s') :
    wpAny (model X.prog X.w) X.A (newList []) (fun acc s₃ => wpAny (model X.prog X.w) X.A (newFunctionEnv scope X.env.globals (clOf X.env.cells scope.names []) [] X.env.qual none .none (some X.env)) (fun cenv s₄ =>
      codeAny (model X.prog X.w) X.A (.compStart (.ListComp elt [⟨tg, iter, ifs, 0⟩] scope pos) 0 (.ref it) acc { cenv with scope := relabel scope X.env }) (RR acc cenv.locals) s₄) E s₃) E s := by
  refine wpAny_newObj_type (wpAny_newFunctionEnv c.cell (by intro y hy; simp at hy) (fun h₁ hns₁ hsb₁ => ?_) c.kind)
  dsimp only at hns₁ hsb₁ ⊢
  have I3 : Inv X pins σ (upd H s.heap.objs.size (.lst [])) { s with heap := s.heap.push { cls := .type "list", data := .seq ([] : List Value).toArray }, toks := s.toks } := I.lnew (ys := []) (its := []) .nil (Nat.zero_le _)
  generalize hH2 : s.heap.push { cls := .type "list", dict := none, data := .seq ([] : List Value).toArray } = hp at hns₁ hsb₁ I3 ⊢
  have hlt : ∀ b o, s.heap.get? b = some o → hp.get? b = some o := fun b o e => by rw [← hH2]; exact Heap.get?_push_of_some _ e
  have hnD : H s.heap.objs.size = none := I.hok.fresh (Nat.le_refl _)
  have kp : ∀ b o, hp.get? b = some o → h₁.get? b = some o := fun b o e => hsb₁.extBut b o (Nat.ne_of_lt (Heap.lt_size e)) (Heap.get?_push_of_some _ e)
  have stk : ∀ b ∈ fp, s.heap.get? b ≠ none := fun b hb z => by
    obtain ⟨o, e, _⟩ := T.obj _ _ st b hb
    rw [z] at e; cases e
  have flt : ∀ b ∈ fp, b < s.heap.objs.size := fun b hb => by
    obtain ⟨o, e, _⟩ := T.obj _ _ st b hb
    exact Heap.lt_size e
  have fpD : ∀ b ∈ fp, b ≠ s.heap.objs.size := fun b hb => Nat.ne_of_lt (flt b hb)
  have hf3 : ∀ b ∈ fp, FpOk X pins (upd H s.heap.objs.size (.lst [])) b := fun b hb => by
    obtain ⟨a1, a2⟩ := hf b hb
    exact ⟨by rw [upd_ne (fpD b hb)]; exact a1, a2⟩
  have hnb : ∀ b ∈ fp, X.base.get? b = none := fun b hb => by
    cases e : X.base.get? b with
    | none => rfl
    | some o =>
      rcases (hf b hb).2.2.2.1 with z | z
      · exact absurd z (I.ok.noex b o e)
      · have := Heap.lt_size (I.ok.bs b o e).1
        exact absurd (Nat.lt_of_lt_of_le this z) (Nat.lt_irrefl _)
  have hsz : s.heap.objs.size < hp.objs.size := by rw [← hH2, Heap.size_push]; exact Nat.lt_succ_self _
  have IY := inv_comp (s₄ := { s with heap := h₁, toks := s.toks + ([] : List (Str × Value)).length }) (fp := fp) c hc I3 hf3 (fun b hb => Nat.lt_trans (flt b hb) hsz) hnb hns₁ kp rfl rfl
  obtain ⟨W, ⟨m0, w0⟩, turn⟩ := h s.heap.objs.size hnD
  have run := comp_loop (Y := cCx X scope N' hp.objs.size { s with heap := hp, toks := s.toks } (upd H s.heap.objs.size (.lst [])) fp (X.pn ++ pins)) (tg := tg) (elt := elt) (iter := iter) (ifs := ifs) (scope := scope) (pos := pos) (it := it) (D := s.heap.objs.size) (k := k) (σ := σ) (Q := Q)
    hc rfl (hg _ _ _ _ _) (ht _ _ _ _ _) (he _ _ _ _ _) T (fun H' hn b hb => ⟨hn b hb, Nat.ne_of_lt (Nat.lt_trans (flt b hb) hsz), fun z => (IY.ok.exfs b hb) z, .inl hb, fun x a e => (IY.ok.exf b hb).2 x a e, fun p hp => by
      have hp' : p ∈ X.pn ++ pins := by simpa using hp
      exact (hf b hb).2.2.2.2.2 p hp'⟩) W turn m0
  have st₁ : tn 0 h₁ := T.keep _ _ _ st fun b hb o e => kp b o (hlt b o e)
  have go := run { s with heap := h₁, toks := s.toks + ([] : List (Str × Value)).length } ⟨0, [], _, IY, st₁, fun b hb => (hf3 b hb).1, w0⟩
  have out : ∀ r s', (r = Except.ok Flow.next ∧ ∃ H', Inv (cCx X scope N' hp.objs.size { s with heap := hp, toks := s.toks } (upd H s.heap.objs.size (.lst [])) fp (X.pn ++ pins)) [] (List.replicate k none ++ σ) H' s' ∧ Q (.ref s.heap.objs.size) H') → RR (.ref s.heap.objs.size) hp.objs.size r s' := by
    rintro r s' ⟨rfl, H', J', q⟩
    obtain ⟨m, hn, _⟩ := J'.loc
    have hC : hp.objs.size ≠ X.env.locals := Nat.ne_of_gt (Nat.lt_of_lt_of_le I.lt (Nat.le_of_lt hsz))
    refine fin _ _ s' H' m hn hC (fun x a e => ?_) ⟨J'.free, Nat.le_trans I.sz (Nat.le_of_lt hsz), fun p hp' => Nat.ne_of_lt (Nat.lt_trans (Heap.lt_size (I.pin p hp').1) hsz)⟩ (fun h' hs' => ?_) q
    · obtain ⟨v, o, h1, _⟩ := I.cell x a e
      exact Nat.ne_of_lt (Nat.lt_trans (Heap.lt_size h1) hsz)
    · refine I.call' (ch := fp) ?_ ?_ ?_ J'.bare fun b hb => ⟨(hf b hb).2.2.2.1, (hf b hb).2.1, (hf b hb).2.2.2.2.1, (hf b hb).2.2.2.2.2⟩
      · exact J'.os
      · have u1 : Un (frs X.stack) fp H (upd H s.heap.objs.size (.lst [])) s.heap hp := Un.laid hlt (Nat.le_refl _) hnD
        exact (u1.trans J'.base).but hs' fun b o e => Nat.ne_of_lt (Nat.lt_trans (Heap.lt_size e) hsz)
      · exact J'.hok.but J'.free hs'
  exact codeAny_compStart_list (codeAny_mono go out) (T.self _ 0 _ _ _ st₁ (codeAny_mono go out))
theorem pe_comp {elt iter tg : Expr} {ifs : List Expr} {scope : Scope} {pos : Pos} {wi : TI} {g : TG} {tt : TT} {te : TE} {N' : List Str} {k : Nat}
    (c : CompOk X scope N' k) (hc : X.calm = true) (hi : PI X tg iter wi)
    (hg : ∀ C s₀ H₀ ex pn, PG (cCx X scope N' C s₀ H₀ ex pn) tg g) (ht : ∀ C s₀ H₀ ex pn, PTs (cCx X scope N' C s₀ H₀ ex pn) ifs tt) (he : ∀ C s₀ H₀ ex pn, PE (cCx X scope N' C s₀ H₀ ex pn) elt te)
    (hs : ∀ x, foldedSetIterable iter X.env x = pure x := by intro _; rfl) : PE X (.ListComp elt [⟨tg, iter, ifs, 0⟩] scope pos) (tComp k wi g tt te) := by
  intro pins s σ H Q I h
  rw [PySem.eval_ListComp]
  refine PySem.wpAny_comprehension_free (use := none) rfl hs (closureFor_eq (c.cells I)) c.kind c.names (thn (hi pins s σ H _ I h) fun v s1 h1 => thn h1 fun itv s2 h2 => ?_)
  obtain ⟨it, fp, tn, J, H2, rfl, I2, T, st2, f2, hW⟩ := h2
  refine comp_block (RR := fun acc C => PySem.compPost (model X.prog X.w) X.A X.xe none (EP X pins σ Q) acc C) c hc I2 T st2 f2 hg ht he hW ?_
  intro D C s' H' m hn _ _ _ hI q
  exact ⟨m, hn, fun h' hs' => ⟨.ref D, H', hI h' hs', rfl, q⟩⟩
def tSetC (i : Nat) (te : TE) : TS := fun D σ H => te σ H fun x H1 => D.nx (σ.set i (some x)) H1
theorem ps_setC {elt iter tg : Expr} {ifs : List Expr} {scope : Scope} {pos spos py : Pos} {wi : TI} {g : TG} {tt : TT} {te : TE} {N' : List Str} {k i : Nat} {y : Str}
    (hN : X.N.Nodup) (hi' : X.N[i]? = some y) (hy : Loc X.env.scope y)
    (c : CompOk X scope N' k) (hc : X.calm = true) (hi : PI X tg iter wi)
    (hg : ∀ C s₀ H₀ ex pn, PG (cCx X scope N' C s₀ H₀ ex pn) tg g) (ht : ∀ C s₀ H₀ ex pn, PTs (cCx X scope N' C s₀ H₀ ex pn) ifs tt) (he : ∀ C s₀ H₀ ex pn, PE (cCx X scope N' C s₀ H₀ ex pn) elt te)
    (hsw : swapsWith (.ListComp elt [⟨tg, iter, ifs, 0⟩] scope pos) (some (.Name y py)) spos.line X.env = pure true := by rfl)
    (hs : ∀ x, foldedSetIterable iter X.env x = pure x := by intro _; rfl) (hf : X.fn y = true ∨ X.env.scope.names.lookup y = some .local := by first | exact .inl rfl | exact .inr rfl | assumption) :
    PS X (.Assign [.Name y py] (.ListComp elt [⟨tg, iter, ifs, 0⟩] scope pos) spos) (tSetC i (tComp k wi g tt te)) := by
  intro pins s σ H D I h
  rw [PySem.exec_Assign_Name_used _ _ _ _ hsw]
  refine wpAny_bind (wpAny_standAt (wpAny_bind ?_))
  show wpAny _ X.A (do let _ ← comprehension (.ListComp elt [⟨tg, iter, ifs, 0⟩] scope pos) scope X.env _ (newList []) false (eval iter X.env) (some (assign (.Name y py) X.env))) _ _ s
  refine wpAny_bind (thn (PySem.wpAny_comprehension_free (use := some (assign (.Name y py) X.env)) (Q := fun _ s' => SP X pins D .next s') rfl hs (closureFor_eq (c.cells I)) c.kind c.names (thn (hi pins s σ H _ I h) fun v s1 h1 => thn h1 fun itv s2 h2 => ?_)) fun _ s' hq => wpAny_pure (wpAny_pure hq))
  obtain ⟨it, fp, tn, J, H2, rfl, I2, T, st2, f2, hW⟩ := h2
  refine comp_block (Q := fun x H1 => D.nx (σ.set i (some x)) H1) (RR := fun acc C => PySem.compPost (model X.prog X.w) X.A X.xe (some (assign (.Name y py) X.env)) (fun _ s' => SP X pins D .next s') acc C) c hc I2 T st2 f2 hg ht he hW ?_
  intro D' C s' H' m hn hCl hCc hCo hI q
  show wpAny _ X.A (assign (.Name y py) X.env (.ref D')) _ _ s'
  have I' : Inv X pins σ H' s' := hI s'.heap (Heap.SameBut.refl _ _)
  refine wpAny_assign_Name (store_ok2 I' hN hi' hy (show RelV (.ref D') (.ref D') from rfl) (fun s'' I'' ⟨a, sb, ha⟩ => ?_) hf)
  have hCa : C ≠ a := by
    rcases ha with rfl | ha
    · exact hCl
    · exact fun z => hCc _ _ ha z.symm
  refine ⟨m, hn.sameBut sb hCa, fun h' hs' => ⟨_, H', ?_, q⟩⟩
  exact I''.turned (t' := s''.toks) (fun b o hb e => (hs'.2 b hb).trans e) hCo.1 hCl (.inr hCo.2.1) hCc hCo.2.2
end
end L2
set_option Elab.async false
set_option linter.all false
set_option maxRecDepth 100000
set_option maxHeartbeats 4000000
namespace L2
open PySem PySem.Spec PyProof.Rows
section
variable {M : Model} {A : Around} {E : Value → Shared → Prop} {s : Shared}
end
section
variable {X : Cx}
set_option genInjectivity false in
end
end L2
set_option Elab.async false
set_option linter.all false
set_option maxRecDepth 100000
set_option maxHeartbeats 4000000
namespace L2
open PySem PySem.Spec PyProof.Rows
structure FunX (K : PySem.W.Frag) (x qual : Str) (st : Stmt) (f : Addr) (fd : FuncData) : Prop where
  ex : ∃ (oc : Value) (od : Option Addr) (dV kV doc pm : Value) (an : Option Addr) (cdv ct : Value) (osl : Array (Option Value)),
    fd = PySem.W.fnOf x qual (defArgs st) (defBody st) (defScope st) dV kV doc pm an cdv ct ∧ K.lookup f = some ⟨oc, od, .func fd, osl⟩ ∧ PySem.W.codeIn K cdv qual = true
  kp : PySem.W.keepIn K (.ref f) = true
section
variable {P : Program} {w : World} {K : PySem.W.Frag} {mg : Str → Option Value} {base : Heap}
end
end L2
set_option Elab.async false
set_option linter.all false
set_option maxRecDepth 100000
set_option maxHeartbeats 4000000
namespace L2
open PySem PySem.Spec PyProof.Rows PySem.W
section
variable {prog : Program} {w : World} {A : Around} {E : Value → Shared → Prop} {s : Shared} {K : PySem.W.Frag} {x C : Addr} {ox : Obj} {od : Option Obj} {name : Str}
end
end L2
set_option Elab.async false
set_option linter.all false
set_option maxRecDepth 100000
set_option maxHeartbeats 4000000
namespace L2
open PySem PySem.Spec PyProof.Rows
structure NewAt (X : Cx) (pins : List (Addr × Obj)) (e : Addr) : Prop where
  s0 : X.s₀.heap.get? e = none
  loc : e ≠ X.env.locals
  cel : ∀ x c, X.env.cells.lookup x = some c → c ≠ e
  fs : e ∉ X.fs
  pin : ∀ p ∈ X.pn ++ pins, p.1 ≠ e
section
variable {X : Cx}
end
end L2
set_option Elab.async false
set_option linter.all false
set_option maxRecDepth 100000
set_option maxHeartbeats 4000000
namespace L2
open PySem PySem.Spec PyProof.Rows PySem.W
section
variable {prog : Program} {w : World} {A : Around} {R : Result → Shared → Prop} {h : Heap} {g : Array GenState} {d : Drawn} {t : Nat} {os : OsState} {K : Frag}
variable {nm q : Str} {C N fI : Addr} {bs bm bmB : List Value} {hdct : Bool} {sn : List Str} {sub : List Value} {ab : Bool} {col : Option Bool} {dd : Option Addr} {k0 k1 k2 k3 k5 : Option Value} {B Bn newId nid initId inN : String} {bmN : List Value}
end
section
variable {prog : Program} {w : World} {A : Around} {E : Value → Shared → Prop} {K : Frag} {x C : Addr} {s : Shared} {name : Str} {v : Value}
end
end L2
set_option Elab.async false
set_option linter.all false
set_option maxRecDepth 100000
set_option maxHeartbeats 4000000
namespace L2
open PySem PySem.Spec PyProof.Rows PySem.W
section
variable {prog : Program} {w : World} {A : Around} {E : Value → Shared → Prop} {s : Shared} {K : PySem.W.Frag} {x C dx : Addr} {ox : Obj} {od : Option Obj} {name : Str} {mA : Str → Option Value} {u : Value}
end
section
variable {prog : Program} {w : World} {A : Around} {E : Value → Shared → Prop} {h : Heap} {g : Array GenState} {d : Drawn} {t : Nat} {os : OsState} {e a0 : Addr} {dct : Option Addr}
variable {nm q : Str} {C N : Addr} {bs bm bmB : List Value} {hdct : Bool} {sn : List Str} {sub : List Value} {ab : Bool} {col : Option Bool} {dd : Option Addr} {k0 k1 k2 k3 k5 : Option Value} {B newId nid initId : String}
end
section
variable {X : Cx} {pins : List (Addr × Obj)} {σ : St} {H : Hp} {s : Shared}
theorem Inv.adopt {a : Addr} {o : HO} (I : Inv X pins σ H s) (N : NewAt X pins a) (hn : H a = none) (new : ObjOk X.prog X.w (upd H a o) s.heap a o) : Inv X pins σ (upd H a o) s := by
  have ne : ∀ {b : Addr} {u : HO}, H b = some u → b ≠ a := fun q z => by rw [z, hn] at q; cases q
  refine ⟨I.ok, I.os, I.bare, ⟨I.base.keep, I.base.slot, fun b u q n hx => ?_, I.base.there, fun b xs q => ?_, fun b u v q => ?_, fun b ps q => ?_⟩, I.loc, I.cell, ?_, fun x c q => ?_, fun p hp => ?_, fun b u q => ?_, I.len⟩
  · rw [upd_ne (fun z => by rw [z, N.s0] at q; cases q)]; exact I.base.free b u q n hx
  · have z := I.base.tups b xs q; rw [upd_ne (ne z)]; exact z
  · have z := I.base.frzs b u v q; rw [upd_ne (ne z)]; exact z
  · obtain ⟨m, z⟩ := I.base.tbls b ps q; exact ⟨m, by rw [upd_ne (ne z)]; exact z⟩
  · rw [upd_ne (Ne.symm N.loc)]; exact I.free
  · rw [upd_ne (N.cel x c q)]; exact I.freeC x c q
  · obtain ⟨a1, b1, c1, d1, f1⟩ := I.pin p hp
    exact ⟨a1, by rw [upd_ne (N.pin p hp)]; exact b1, c1, d1, f1⟩
  · by_cases hb : b = a
    · subst hb; rw [upd_same] at q; cases q; exact new
    · rw [upd_ne hb] at q
      exact (I.hok b u q).stay (fun _ _ _ r => r) (fun c r => by rw [upd_ne (ne r)]; exact r) fun c xs r => by rw [upd_ne (ne r)]; exact r
theorem Inv.newAt {a : Addr} (I : Inv X pins σ H s) (ha : s.heap.objs.size ≤ a) : NewAt X pins a where
  s0 := Heap.get?_none_of_le (Nat.le_trans I.sz ha)
  loc := Nat.ne_of_gt (Nat.lt_of_lt_of_le I.lt ha)
  cel := fun x c e z => by
    obtain ⟨v, o, q, _⟩ := I.cell x c e
    exact absurd (Nat.lt_of_lt_of_le (Heap.lt_size q) (by rw [z]; exact ha)) (Nat.lt_irrefl _)
  fs := I.nofs ha
  pin := fun p hp z => absurd (Nat.lt_of_lt_of_le (Heap.lt_size (I.pin p hp).1) (by rw [z]; exact ha)) (Nat.lt_irrefl _)
end
end L2
set_option Elab.async false
set_option linter.all false
set_option maxRecDepth 100000
set_option maxHeartbeats 4000000
namespace L2
open PySem PySem.Spec PyProof.Rows PySem.W
section
variable {X : Cx} {e o value : Expr} {ta tv : TE} {f : Str} {pos pos' : Pos}
end
def del (H : Hp) (e : Addr) : Hp := fun b => if b = e then none else H b
section
variable {X : Cx}
end
end L2
set_option Elab.async false
set_option linter.all false
set_option maxRecDepth 100000
set_option maxHeartbeats 4000000
namespace L2
open PySem
open PySem.Spec PyProof.Rows
theorem gName_0 {a : Option V} {v : V} {σ : St} {H : Hp} {Q : St → Hp → Prop} : gName 0 v (a :: σ) H Q = Q (some v :: σ) H := rfl
theorem gName_1 {a0 : Option V} {a : Option V} {v : V} {σ : St} {H : Hp} {Q : St → Hp → Prop} : gName 1 v (a0 :: a :: σ) H Q = Q (a0 :: some v :: σ) H := rfl
theorem gName_2 {a0 a1 : Option V} {a : Option V} {v : V} {σ : St} {H : Hp} {Q : St → Hp → Prop} : gName 2 v (a0 :: a1 :: a :: σ) H Q = Q (a0 :: a1 :: some v :: σ) H := rfl
theorem gName_3 {a0 a1 a2 : Option V} {a : Option V} {v : V} {σ : St} {H : Hp} {Q : St → Hp → Prop} : gName 3 v (a0 :: a1 :: a2 :: a :: σ) H Q = Q (a0 :: a1 :: a2 :: some v :: σ) H := rfl
theorem gName_4 {a0 a1 a2 a3 : Option V} {a : Option V} {v : V} {σ : St} {H : Hp} {Q : St → Hp → Prop} : gName 4 v (a0 :: a1 :: a2 :: a3 :: a :: σ) H Q = Q (a0 :: a1 :: a2 :: a3 :: some v :: σ) H := rfl
theorem gName_5 {a0 a1 a2 a3 a4 : Option V} {a : Option V} {v : V} {σ : St} {H : Hp} {Q : St → Hp → Prop} : gName 5 v (a0 :: a1 :: a2 :: a3 :: a4 :: a :: σ) H Q = Q (a0 :: a1 :: a2 :: a3 :: a4 :: some v :: σ) H := rfl
theorem gName_6 {a0 a1 a2 a3 a4 a5 : Option V} {a : Option V} {v : V} {σ : St} {H : Hp} {Q : St → Hp → Prop} : gName 6 v (a0 :: a1 :: a2 :: a3 :: a4 :: a5 :: a :: σ) H Q = Q (a0 :: a1 :: a2 :: a3 :: a4 :: a5 :: some v :: σ) H := rfl
theorem gName_7 {a0 a1 a2 a3 a4 a5 a6 : Option V} {a : Option V} {v : V} {σ : St} {H : Hp} {Q : St → Hp → Prop} : gName 7 v (a0 :: a1 :: a2 :: a3 :: a4 :: a5 :: a6 :: a :: σ) H Q = Q (a0 :: a1 :: a2 :: a3 :: a4 :: a5 :: a6 :: some v :: σ) H := rfl
theorem gName_8 {a0 a1 a2 a3 a4 a5 a6 a7 : Option V} {a : Option V} {v : V} {σ : St} {H : Hp} {Q : St → Hp → Prop} : gName 8 v (a0 :: a1 :: a2 :: a3 :: a4 :: a5 :: a6 :: a7 :: a :: σ) H Q = Q (a0 :: a1 :: a2 :: a3 :: a4 :: a5 :: a6 :: a7 :: some v :: σ) H := rfl
def optK {α : Type} : Option α → (α → Prop) → Prop
  | some x, k => k x
  | none, _ => False
theorem optK_some {α : Type} (x : α) (k : α → Prop) : optK (some x) k = k x := rfl
theorem optK_ex {α : Type} {o : Option α} {k : α → Prop} (h : optK o k) : ∃ x, o = some x ∧ k x := by
  cases o with
  | none => exact h.elim
  | some x => exact ⟨x, rfl, h⟩
def seqO : HO → Option (List V)
  | .lst xs => some xs
  | .tup xs => some xs
  | .frz _ (.lst xs) => some xs
  | _ => none
def lstO : HO → Option (List V)
  | .lst xs => some xs
  | _ => none
def tupO : HO → Option (List V)
  | .tup xs => some xs
  | _ => none
def itemsAt (H : Hp) (p : Addr) : Option (List V) := (H p).bind seqO
def lstAt (H : Hp) (p : Addr) : Option (List V) := (H p).bind lstO
def tupAt (H : Hp) (p : Addr) : Option (List V) := (H p).bind tupO
theorem seqO_lst (xs : List V) : seqO (.lst xs) = some xs := rfl
theorem seqO_tup (xs : List V) : seqO (.tup xs) = some xs := rfl
theorem lstO_lst (xs : List V) : lstO (.lst xs) = some xs := rfl
theorem tupO_tup (xs : List V) : tupO (.tup xs) = some xs := rfl
theorem bind_some' {α β : Type} (x : α) (f : α → Option β) : (some x).bind f = f x := rfl
abbrev Ext (H H' : Hp) : Prop := (∀ a, (H a).isSome = true → H' a = H a) ∧ ∀ (K : PySem.W.Frag) a xs, SqL K H a xs → SqL K H' a xs
def kOp' (r : R2) (x : V) (Q : VK) : VK := fun y H => r x y H Q
theorem m_kOp' (r : R2) (x y : V) (H : Hp) (Q : VK) : (kOp' r x Q y H) = (r x y H Q) := rfl
def kOp (r : R2) (tb : TE) (σ : St) (Q : VK) : VK := fun x H => tb σ H (kOp' r x Q)
theorem m_kOp (r : R2) (tb : TE) (σ : St) (Q : VK) (x : V) (H : Hp) : (kOp r tb σ Q x H) = (tb σ H (kOp' r x Q)) := rfl
theorem m_tOp (r : R2) (ta tb : TE) (σ : St) (H : Hp) (Q : VK) : (tOp r ta tb σ H Q) = (ta σ H (kOp r tb σ Q)) := rfl
theorem m_tC (v : V) (σ : St) (H : Hp) (Q : VK) : (tC v σ H Q) = (Q v H) := rfl
def kUn (r : V → Hp → VK → Prop) (Q : VK) : VK := fun x H => r x H Q
theorem m_kUn (r : V → Hp → VK → Prop) (Q : VK) (x : V) (H : Hp) : (kUn r Q x H) = (r x H Q) := rfl
theorem m_tUn (r : V → Hp → VK → Prop) (ta : TE) (σ : St) (H : Hp) (Q : VK) : (tUn r ta σ H Q) = (ta σ H (kUn r Q)) := rfl
def kTest (Q : Bool → Hp → Prop) : VK := fun x H => ∃ k, x = .bl k ∧ Q k H
def kNot (Q : Bool → Hp → Prop) : Bool → Hp → Prop := fun c H => Q (!c) H
theorem m_kNot (Q : Bool → Hp → Prop) (c : Bool) (H : Hp) : (kNot Q c H) = (Q (!c) H) := rfl
theorem m_tNot (t : TT) (σ : St) (H : Hp) (Q : Bool → Hp → Prop) : (tNot t σ H Q) = (t σ H (kNot Q)) := rfl
def kAnd (u : TT) (σ : St) (Q : Bool → Hp → Prop) : Bool → Hp → Prop := fun c H => if c = true then u σ H Q else Q false H
theorem m_kAnd (u : TT) (σ : St) (Q : Bool → Hp → Prop) (c : Bool) (H : Hp) : (kAnd u σ Q c H) = (if c = true then u σ H Q else Q false H) := rfl
theorem m_tAnd (t u : TT) (σ : St) (H : Hp) (Q : Bool → Hp → Prop) : (tAnd t u σ H Q) = (t σ H (kAnd u σ Q)) := rfl
def kOr (u : TT) (σ : St) (Q : Bool → Hp → Prop) : Bool → Hp → Prop := fun c H => if c = true then Q true H else u σ H Q
theorem m_kOr (u : TT) (σ : St) (Q : Bool → Hp → Prop) (c : Bool) (H : Hp) : (kOr u σ Q c H) = (if c = true then Q true H else u σ H Q) := rfl
theorem m_tOr (t u : TT) (σ : St) (H : Hp) (Q : Bool → Hp → Prop) : (tOr t u σ H Q) = (t σ H (kOr u σ Q)) := rfl
def kAndV (tb : TE) (σ : St) (Q : VK) : VK := fun x H => ∃ c, x = .bl c ∧ if c = true then tb σ H Q else Q (.bl false) H
def kNotV (Q : VK) : VK := fun x H => ∃ c, x = .bl c ∧ Q (.bl (!c)) H
theorem m_tNil (σ : St) (H : Hp) (Q : List V → Hp → Prop) : (tNil σ H Q) = (Q [] H) := rfl
def kCons' (x : V) (Q : List V → Hp → Prop) : List V → Hp → Prop := fun xs H => Q (x :: xs) H
theorem m_kCons' (x : V) (Q : List V → Hp → Prop) (xs : List V) (H : Hp) : (kCons' x Q xs H) = (Q (x :: xs) H) := rfl
def kCons (tr : TA) (σ : St) (Q : List V → Hp → Prop) : VK := fun x H => tr σ H (kCons' x Q)
theorem m_kCons (tr : TA) (σ : St) (Q : List V → Hp → Prop) (x : V) (H : Hp) : (kCons tr σ Q x H) = (tr σ H (kCons' x Q)) := rfl
theorem m_tCons (ta : TE) (tr : TA) (σ : St) (H : Hp) (Q : List V → Hp → Prop) : (tCons ta tr σ H Q) = (ta σ H (kCons tr σ Q)) := rfl
def kCall (sp : Sp) (dvs : List V) (E : XK) (Q : VK) : List V → Hp → Prop := fun vs H => sp (vs ++ dvs) H Q E
theorem m_kCall_1 (v0 : V) (sp : Sp) (dvs : List V) (E : XK) (Q : VK) (H : Hp) : kCall sp dvs E Q [v0] H = sp (v0 :: dvs) H Q E := rfl
theorem m_kCall_2 (v0 v1 : V) (sp : Sp) (dvs : List V) (E : XK) (Q : VK) (H : Hp) : kCall sp dvs E Q [v0, v1] H = sp (v0 :: v1 :: dvs) H Q E := rfl
theorem m_kCall_3 (v0 v1 v2 : V) (sp : Sp) (dvs : List V) (E : XK) (Q : VK) (H : Hp) : kCall sp dvs E Q [v0, v1, v2] H = sp (v0 :: v1 :: v2 :: dvs) H Q E := rfl
theorem m_tCall (sp : Sp) (dvs : List V) (E : XK) (t : TA) (σ : St) (H : Hp) (Q : VK) : (tCall sp dvs E t σ H Q) = (t σ H (kCall sp dvs E Q)) := rfl
def kCB (r : List V → Hp → VK → Prop) (Q : VK) : List V → Hp → Prop := fun vs H => r vs H Q
theorem m_kCB (r : List V → Hp → VK → Prop) (Q : VK) (vs : List V) (H : Hp) : (kCB r Q vs H) = (r vs H Q) := rfl
theorem m_tCB (r : List V → Hp → VK → Prop) (t : TA) (σ : St) (H : Hp) (Q : VK) : (tCB r t σ H Q) = (t σ H (kCB r Q)) := rfl
theorem m_tNext (nx : St → Hp → Prop) (rt : VK) (bk ct : St → Hp → Prop) (σ : St) (H : Hp) : (tNext ⟨nx, rt, bk, ct⟩ σ H) = (nx σ H) := rfl
theorem m_tSeq (t u : TS) (nx : St → Hp → Prop) (rt : VK) (bk ct : St → Hp → Prop) (σ : St) (H : Hp) : (tSeq t u ⟨nx, rt, bk, ct⟩ σ H) = (t ⟨u ⟨nx, rt, bk, ct⟩, rt, bk, ct⟩ σ H) := rfl
theorem m_tRet (te : TE) (nx : St → Hp → Prop) (rt : VK) (bk ct : St → Hp → Prop) (σ : St) (H : Hp) : (tRet te ⟨nx, rt, bk, ct⟩ σ H) = (te σ H rt) := rfl
def kDrop (nx : St → Hp → Prop) (σ : St) : VK := fun x H => nx σ H
theorem m_kDrop (nx : St → Hp → Prop) (σ : St) (x : V) (H : Hp) : (kDrop nx σ x H) = (nx σ H) := rfl
theorem m_tDrop (te : TE) (nx : St → Hp → Prop) (rt : VK) (bk ct : St → Hp → Prop) (σ : St) (H : Hp) : (tDrop te ⟨nx, rt, bk, ct⟩ σ H) = (te σ H (kDrop nx σ)) := rfl
def kIfS (t u : TS) (D : Ends) (σ : St) : Bool → Hp → Prop := fun b H => if b = true then t D σ H else u D σ H
theorem m_kIfS (t u : TS) (D : Ends) (σ : St) (b : Bool) (H : Hp) : (kIfS t u D σ b H) = (if b = true then t D σ H else u D σ H) := rfl
theorem m_tIfS (c : TT) (t u : TS) (D : Ends) (σ : St) (H : Hp) : (tIfS c t u D σ H) = (c σ H (kIfS t u D σ)) := rfl
def kAsg (g : TG) (σ : St) (nx : St → Hp → Prop) : VK := fun x H => g x σ H nx
theorem m_kAsg (g : TG) (σ : St) (nx : St → Hp → Prop) (x : V) (H : Hp) : (kAsg g σ nx x H) = (g x σ H nx) := rfl
theorem m_tAsg (te : TE) (g : TG) (nx : St → Hp → Prop) (rt : VK) (bk ct : St → Hp → Prop) (σ : St) (H : Hp) : (tAsg te g ⟨nx, rt, bk, ct⟩ σ H) = (te σ H (kAsg g σ nx)) := rfl
def kGs (u : TGs) (r : List V) (Q : St → Hp → Prop) : St → Hp → Prop := fun σ' H' => u r σ' H' Q
theorem m_kGs (u : TGs) (r : List V) (Q : St → Hp → Prop) (σ : St) (H : Hp) : (kGs u r Q σ H) = (u r σ H Q) := rfl
end L2
set_option Elab.async false
set_option linter.all false
set_option maxRecDepth 100000
set_option maxHeartbeats 4000000
namespace L2
open PySem PySem.Spec PyProof.Rows
section
variable {X : Cx}
theorem OpR.mono {f : Value → Value → Sem Value} {r r' : R2} (h : OpR X f r) (m : ∀ x y H Q, r' x y H Q → r x y H Q) : OpR X f r' := fun pins s σ H x y v u Q I rx ry hq => h pins s σ H x y v u Q I rx ry (m _ _ _ _ hq)
theorem CallR.mono {f : Value} {r r' : List V → Hp → VK → Prop} (h : CallR X f r) (m : ∀ xs H Q, r' xs H Q → r xs H Q) : CallR X f r' := fun pins s σ H xs us Q I rx hq => h pins s σ H xs us Q I rx (m _ _ _ hq)
theorem IxR.mono {r r' : R2} (h : IxR X r) (m : ∀ x y H Q, r' x y H Q → r x y H Q) : IxR X r' := fun a b pins s σ H x y v u Q I rx ry hq => h a b pins s σ H x y v u Q I rx ry (m _ _ _ _ hq)
theorem SlR.mono {r r' : V → Option Int → Option Int → Hp → VK → Prop} (h : SlR X r) (m : ∀ x lo hi H Q, r' x lo hi H Q → r x lo hi H Q) : SlR X r' := fun pins s σ H x v vl vu lo hi sl Q I rx a b c hq => h pins s σ H x v vl vu lo hi sl Q I rx a b c (m _ _ _ _ _ hq)
theorem PG.mono {tg : Expr} {g g' : TG} (h : PG X tg g) (m : ∀ v σ H Q, g' v σ H Q → g v σ H Q) : PG X tg g' := fun pins s σ H v u Q I r hq => h pins s σ H v u Q I r (m _ _ _ _ hq)
theorem items_seq {K : PySem.W.Frag} {H : Hp} {p : Addr} {ys : List V} (h : itemsAt H p = some ys) : SqL K H p ys ∨ SqT K H p ys := by
  unfold itemsAt at h
  cases e : H p with
  | none => rw [e] at h; cases h
  | some o =>
    rw [e] at h
    have h' : seqO o = some ys := h
    cases o with
    | lst xs => cases h'; exact .inl (SqL.of e)
    | tup xs => cases h'; exact .inr (SqT.of e)
    | frz ob u =>
      cases u with
      | lst xs => cases h'; exact .inl (.inl (.inr ⟨ob, e⟩))
      | _ => cases h'
    | _ => cases h'
theorem lst_of {H : Hp} {p : Addr} {ys : List V} (h : lstAt H p = some ys) : H p = some (.lst ys) := by
  unfold lstAt at h
  cases e : H p with
  | none => rw [e] at h; cases h
  | some o =>
    rw [e] at h
    have h' : lstO o = some ys := h
    cases o with
    | lst xs => cases h'; rfl
    | _ => cases h'
theorem tup_of {H : Hp} {p : Addr} {ys : List V} (h : tupAt H p = some ys) : H p = some (.tup ys) := by
  unfold tupAt at h
  cases e : H p with
  | none => rw [e] at h; cases h
  | some o =>
    rw [e] at h
    have h' : tupO o = some ys := h
    cases o with
    | tup xs => cases h'; rfl
    | _ => cases h'
def kLen (H : Hp) (Q : VK) : List V → Prop := fun ys => Q (.int ys.length) H
theorem m_kLen (H : Hp) (Q : VK) (ys : List V) : kLen H Q ys = Q (.int ys.length) H := rfl
def qLen (xs : List V) (H : Hp) (Q : VK) : Prop := match xs with
  | [.ref p] => optK (itemsAt H p) (kLen H Q)
  | [.str z] => z.length ≤ sizeLine ∧ Q (.int z.length) H
  | _ => False
theorem m_qLen (p : Addr) (H : Hp) (Q : VK) : qLen [.ref p] H Q = optK (itemsAt H p) (kLen H Q) := rfl
theorem call_qLen : CallR X (.builtin "len") qLen := by
  refine (call_len_seq.or call_len_str).mono fun xs H Q h => ?_
  unfold qLen at h
  split at h
  · rename_i p
    obtain ⟨ys, e, q⟩ := optK_ex h
    exact .inl ⟨p, ys, rfl, items_seq e, q⟩
  · rename_i z
    exact .inr ⟨z, rfl, h.1, h.2⟩
  · exact h.elim
def kIx' (H : Hp) (Q : VK) : V → Prop := fun v => Q v H
theorem m_kIx' (H : Hp) (Q : VK) (v : V) : kIx' H Q v = Q v H := rfl
def kIx (i : Int) (H : Hp) (Q : VK) : List V → Prop := fun ys => optK (atI ys i) (kIx' H Q)
theorem m_kIx (i : Int) (H : Hp) (Q : VK) (ys : List V) : kIx i H Q ys = optK (atI ys i) (kIx' H Q) := rfl
def qIx : R2 := fun x y H Q => match x, y with
  | .ref p, .int i => optK (itemsAt H p) (kIx i H Q)
  | _, _ => False
theorem m_qIx (p : Addr) (i : Int) (H : Hp) (Q : VK) : qIx (.ref p) (.int i) H Q = optK (itemsAt H p) (kIx i H Q) := rfl
theorem ix_q : IxR X qIx := by
  refine (ix_list.or ix_tup).mono fun x y H Q h => ?_
  unfold qIx at h
  split at h
  · rename_i p i
    obtain ⟨ys, e, q⟩ := optK_ex h
    obtain ⟨v, e2, q2⟩ := optK_ex q
    rcases items_seq (K := X.K) e with z | z
    · exact .inl ⟨p, ys, i, v, rfl, rfl, z, e2, q2⟩
    · exact .inr ⟨p, ys, i, v, rfl, rfl, z, e2, q2⟩
  · exact h.elim
theorem atI_0 {α : Type} (a : α) (xs : List α) : atI (a :: xs) 0 = some a := atI_nat (j := 0) rfl
theorem atI_1 {α : Type} (a b : α) (xs : List α) : atI (a :: b :: xs) 1 = some b := atI_nat (j := 1) rfl
def qMin (xs : List V) (H : Hp) (Q : VK) : Prop := match xs with
  | [.int i, .int j] => Q (.int (if j < i then j else i)) H
  | _ => False
theorem m_qMin (i j : Int) (H : Hp) (Q : VK) : qMin [.int i, .int j] H Q = Q (.int (if j < i then j else i)) H := rfl
theorem call_qMin (hc : X.calm = true) : CallR X (.builtin "min") qMin := by
  refine (call_min2 hc).mono fun xs H Q h => ?_
  unfold qMin at h
  split at h
  · rename_i i j; exact ⟨i, j, rfl, h⟩
  · exact h.elim
def tyO : HO → Option String
  | .lst _ => some "list"
  | .tup _ => some "tuple"
  | .frz _ (.lst _) => some "list"
  | .dK _ => some "dict"
  | .dT _ => some "dict"
  | _ => none
theorem tyO_lst (xs : List V) : tyO (.lst xs) = some "list" := rfl
theorem tyO_tup (xs : List V) : tyO (.tup xs) = some "tuple" := rfl
def tyN (H : Hp) : V → Option String
  | .non => some "NoneType"
  | .bl _ => some "bool"
  | .int _ => some "int"
  | .str _ => some "str"
  | .ref p => (H p).bind tyO
  | _ => none
theorem tyN_non (H : Hp) : tyN H .non = some "NoneType" := rfl
theorem tyN_bl (H : Hp) (b : Bool) : tyN H (.bl b) = some "bool" := rfl
theorem tyN_int (H : Hp) (i : Int) : tyN H (.int i) = some "int" := rfl
theorem tyN_str (H : Hp) (x : Str) : tyN H (.str x) = some "str" := rfl
theorem tyN_ref (H : Hp) (p : Addr) : tyN H (.ref p) = (H p).bind tyO := rfl
theorem tyN_ok {K : PySem.W.Frag} {H : Hp} {x : V} {t : String} (h : tyN H x = some t) : TyOf K H x (.type t) := by
  cases x with
  | non => cases h; exact .non
  | bl b => cases h; exact .bl b
  | int i => cases h; exact .int i
  | str x => cases h; exact .str x
  | ref p =>
    have h' : (H p).bind tyO = some t := h
    cases e : H p with
    | none => rw [e] at h'; cases h'
    | some o =>
      rw [e] at h'
      have h2 : tyO o = some t := h'
      cases o with
      | lst xs => cases h2; exact .lst e
      | tup xs => cases h2; exact .tup e
      | dK xs => cases h2; exact .dK e
      | dT xs => cases h2; exact .dT e
      | frz ob u =>
        cases u with
        | lst xs => cases h2; exact .frz e
        | _ => cases h2
      | _ => cases h2
  | _ => cases h
def kTypes : List String := ["NoneType", "bool", "int", "str", "list", "tuple", "dict"]
def isiN (t n : String) : Bool := t == n || (t == "bool" && n == "int")
theorem kit_isiN (K : PySem.W.Frag) : ∀ t ∈ kTypes, ∀ n ∈ kTypes, PySem.W.kitOne K (.type t) (.type n) = some (isiN t n) := by
  intro t ht n hn
  unfold kTypes at ht hn
  simp only [List.mem_cons, List.not_mem_nil, or_false] at ht hn
  rcases ht with rfl | rfl | rfl | rfl | rfl | rfl | rfl <;> rcases hn with rfl | rfl | rfl | rfl | rfl | rfl | rfl <;> exact kitOne_ty K _ _ _ (by decide +kernel)
def kIsi (n : String) (H : Hp) (Q : VK) : String → Prop := fun t => t ∈ kTypes ∧ Q (.bl (isiN t n)) H
def qIsi (xs : List V) (H : Hp) (Q : VK) : Prop := match xs with
  | [x, .ty n] => n ∈ kTypes ∧ optK (tyN H x) (kIsi n H Q)
  | _ => False
theorem call_qIsi : CallR X (.builtin "isinstance") qIsi := by
  refine call_isi.mono fun xs H Q h => ?_
  unfold qIsi at h
  split at h
  · rename_i x n
    obtain ⟨hn, h⟩ := h
    obtain ⟨t, e, ht, q⟩ := optK_ex h
    exact ⟨x, n, _, _, rfl, tyN_ok e, kit_isiN _ t ht n hn, q⟩
  · exact h.elim
theorem m_qIsi_int (x : V) (H : Hp) (Q : VK) : qIsi [x, .ty "int"] H Q = optK (tyN H x) (kIsi "int" H Q) := by
  unfold qIsi; exact propext ⟨fun h => h.2, fun h => ⟨by decide, h⟩⟩
theorem m_qIsi_bool (x : V) (H : Hp) (Q : VK) : qIsi [x, .ty "bool"] H Q = optK (tyN H x) (kIsi "bool" H Q) := by
  unfold qIsi; exact propext ⟨fun h => h.2, fun h => ⟨by decide, h⟩⟩
theorem m_qIsi_tuple (x : V) (H : Hp) (Q : VK) : qIsi [x, .ty "tuple"] H Q = optK (tyN H x) (kIsi "tuple" H Q) := by
  unfold qIsi; exact propext ⟨fun h => h.2, fun h => ⟨by decide, h⟩⟩
theorem m_qIsi_list (x : V) (H : Hp) (Q : VK) : qIsi [x, .ty "list"] H Q = optK (tyN H x) (kIsi "list" H Q) := by
  unfold qIsi; exact propext ⟨fun h => h.2, fun h => ⟨by decide, h⟩⟩
theorem m_kIsi_Ni (H : Hp) (Q : VK) : kIsi "int" H Q "NoneType" = Q (.bl false) H := propext ⟨fun h => h.2, fun h => ⟨by decide, h⟩⟩
theorem m_kIsi_bb (H : Hp) (Q : VK) : kIsi "bool" H Q "bool" = Q (.bl true) H := propext ⟨fun h => h.2, fun h => ⟨by decide, h⟩⟩
theorem m_kIsi_bi (H : Hp) (Q : VK) : kIsi "int" H Q "bool" = Q (.bl true) H := propext ⟨fun h => h.2, fun h => ⟨by decide, h⟩⟩
theorem m_kIsi_ib (H : Hp) (Q : VK) : kIsi "bool" H Q "int" = Q (.bl false) H := propext ⟨fun h => h.2, fun h => ⟨by decide, h⟩⟩
theorem m_kIsi_ii (H : Hp) (Q : VK) : kIsi "int" H Q "int" = Q (.bl true) H := propext ⟨fun h => h.2, fun h => ⟨by decide, h⟩⟩
theorem m_kIsi_si (H : Hp) (Q : VK) : kIsi "int" H Q "str" = Q (.bl false) H := propext ⟨fun h => h.2, fun h => ⟨by decide, h⟩⟩
theorem m_kIsi_li (H : Hp) (Q : VK) : kIsi "int" H Q "list" = Q (.bl false) H := propext ⟨fun h => h.2, fun h => ⟨by decide, h⟩⟩
theorem m_kIsi_ll (H : Hp) (Q : VK) : kIsi "list" H Q "list" = Q (.bl true) H := propext ⟨fun h => h.2, fun h => ⟨by decide, h⟩⟩
theorem m_kIsi_ti (H : Hp) (Q : VK) : kIsi "int" H Q "tuple" = Q (.bl false) H := propext ⟨fun h => h.2, fun h => ⟨by decide, h⟩⟩
theorem m_kIsi_tt (H : Hp) (Q : VK) : kIsi "tuple" H Q "tuple" = Q (.bl true) H := propext ⟨fun h => h.2, fun h => ⟨by decide, h⟩⟩
theorem m_kIsi_di (H : Hp) (Q : VK) : kIsi "int" H Q "dict" = Q (.bl false) H := propext ⟨fun h => h.2, fun h => ⟨by decide, h⟩⟩
def kBM' (r : V → List V → Hp → VK → Prop) (x : V) (Q : VK) : List V → Hp → Prop := fun xs H => r x xs H Q
theorem m_kBM' (r : V → List V → Hp → VK → Prop) (x : V) (Q : VK) (xs : List V) (H : Hp) : kBM' r x Q xs H = r x xs H Q := rfl
def kBM (K : PySem.W.Frag) (T : String) (r : V → List V → Hp → VK → Prop) (t : TA) (σ : St) (Q : VK) : VK := fun x H => tyV K T x H ∧ t σ H (kBM' r x Q)
theorem m_kBM (K : PySem.W.Frag) (T : String) (r : V → List V → Hp → VK → Prop) (t : TA) (σ : St) (Q : VK) (x : V) (H : Hp) : kBM K T r t σ Q x H = (tyV K T x H ∧ t σ H (kBM' r x Q)) := rfl
theorem m_tBM (K : PySem.W.Frag) (T : String) (r : V → List V → Hp → VK → Prop) (to : TE) (t : TA) (σ : St) (H : Hp) (Q : VK) : tBM K T r to t σ H Q = to σ H (kBM K T r t σ Q) := rfl
def kBM0 (K : PySem.W.Frag) (T : String) (r : V → List V → Hp → VK → Prop) (Q : VK) : VK := fun x H => tyV K T x H ∧ r x [] H Q
theorem m_kBM0 (K : PySem.W.Frag) (T : String) (r : V → List V → Hp → VK → Prop) (Q : VK) (x : V) (H : Hp) : kBM0 K T r Q x H = (tyV K T x H ∧ r x [] H Q) := rfl
theorem m_tBM0 (K : PySem.W.Frag) (T : String) (r : V → List V → Hp → VK → Prop) (to : TE) (σ : St) (H : Hp) (Q : VK) : tBM0 K T r to σ H Q = to σ H (kBM0 K T r Q) := rfl
theorem tyV_list (K : PySem.W.Frag) (p : Addr) (H : Hp) (h : (lstAt H p).isSome = true) : tyV K "list" (.ref p) H = True := by
  cases e : lstAt H p with
  | none => rw [e] at h; cases h
  | some ys => exact eq_true (.inl ⟨rfl, ys, SqL.of (lst_of e)⟩)
def kApp (l : Addr) (y : V) (H : Hp) (Q : VK) : List V → Prop := fun xs => xs.length < sizeLine ∧ Q .non (upd H l (.lst (xs ++ [y])))
theorem m_kApp (l : Addr) (y : V) (H : Hp) (Q : VK) (xs : List V) : kApp l y H Q xs = (xs.length < sizeLine ∧ Q .non (upd H l (.lst (xs ++ [y])))) := rfl
theorem m_rAppend (l : Addr) (y : V) (H : Hp) (Q : VK) : rAppend (.ref l) [y] H Q = optK (lstAt H l) (kApp l y H Q) := by
  refine propext ⟨fun h => ?_, fun h => ?_⟩
  · obtain ⟨_, xs, _, e1, e2, e3, a, b⟩ := h
    cases e1; cases e2
    have e : lstAt H l = some xs := by unfold lstAt; rw [e3]; rfl
    rw [e]; exact ⟨a, b⟩
  · obtain ⟨xs, e, a, b⟩ := optK_ex h
    exact ⟨l, xs, y, rfl, rfl, lst_of e, a, b⟩
def kCat2 (xs : List V) (H : Hp) (Q : VK) : List V → Prop := fun ys => xs.length + ys.length ≤ sizeLine ∧ ∀ p, H p = none → Q (.ref p) (upd H p (.lst (xs ++ ys)))
def kCat1 (b : Addr) (H : Hp) (Q : VK) : List V → Prop := fun xs => optK (lstAt H b) (kCat2 xs H Q)
theorem m_rCat (l b : Addr) (H : Hp) (Q : VK) : rCat (.ref l) (.ref b) H Q = optK (lstAt H l) (kCat1 b H Q) := by
  refine propext ⟨fun h => ?_, fun h => ?_⟩
  · obtain ⟨l', b', xs, zs, e1, e2, e3, e4, hz, hq⟩ := h
    cases e1; cases e2
    have e : lstAt H l = some xs := by unfold lstAt; rw [e3]; rfl
    have e' : lstAt H b = some zs := by unfold lstAt; rw [e4]; rfl
    rw [e]
    show optK (lstAt H b) _
    rw [e']; exact ⟨hz, hq⟩
  · obtain ⟨xs, e, q⟩ := optK_ex h
    obtain ⟨zs, e', a, q⟩ := optK_ex q
    exact ⟨l, b, xs, zs, rfl, rfl, lst_of e, lst_of e', a, q⟩
def kGT (n : Nat) (t : TGs) (σ : St) (H : Hp) (Q : St → Hp → Prop) : List V → Prop := fun xs => xs.length = n ∧ t xs σ H Q
theorem m_kGT (n : Nat) (t : TGs) (σ : St) (H : Hp) (Q : St → Hp → Prop) (xs : List V) : kGT n t σ H Q xs = (xs.length = n ∧ t xs σ H Q) := rfl
def qGT (n : Nat) (t : TGs) : TG := fun v σ H Q => match v with
  | .ref a => optK (tupAt H a) (kGT n t σ H Q)
  | _ => False
theorem m_qGT (n : Nat) (t : TGs) (a : Addr) (σ : St) (H : Hp) (Q : St → Hp → Prop) : qGT n t (.ref a) σ H Q = optK (tupAt H a) (kGT n t σ H Q) := rfl
theorem gTup_q {K : PySem.W.Frag} {n : Nat} {t : TGs} {v : V} {σ : St} {H : Hp} {Q : St → Hp → Prop} (h : qGT n t v σ H Q) : gTup K n t v σ H Q := by
  unfold qGT at h
  split at h
  · rename_i a
    obtain ⟨xs, e, hl, q⟩ := optK_ex h
    exact ⟨a, xs, rfl, SqT.of (tup_of e), hl, q⟩
  · exact h.elim
def kBody (tb : TS) (D : Ends) : St → Hp → Prop := fun σ H => tb D σ H
theorem m_kBody (tb : TS) (D : Ends) (σ : St) (H : Hp) : kBody tb D σ H = tb D σ H := rfl
def kFor (g : TG) (tb : TS) (D : Ends) (σ : St) (J : It) (H1 : Hp) : Prop := ∃ W : Nat → Nat → St → Hp → Prop, (∃ m, W 0 m σ H1) ∧ ∀ i m σ H, W i m σ H →
  (J.stop i H ∧ D.nx σ H) ∨ (J.go i H ∧ ∃ N : St → Hp → Prop, (∀ σ' H', N σ' H' → ∃ m', m' < m ∧ W (i + 1) m' σ' H') ∧ ∀ x H', J.yld i H x H' → g x σ H' fun σ2 H2 => tb { D with nx := N, ct := N, bk := D.nx } σ2 H2)
theorem m_tFor (wi : TI) (g : TG) (tb : TS) (D : Ends) (σ : St) (H : Hp) : tFor wi g tb D σ H = wi σ H (kFor g tb D σ) := rfl
def kR1 (R : It → Hp → Prop) : List V → Hp → Prop := fun vs H => ∃ j : Int, vs = [.int j] ∧ -(2 ^ 62) ≤ j ∧ j < 2 ^ 62 ∧ R (Itr 0 j.toNat) H
theorem m_kR1 (R : It → Hp → Prop) (j : Int) (H : Hp) : kR1 R [.int j] H = (-(2 ^ 62) ≤ j ∧ j < 2 ^ 62 ∧ R (Itr 0 j.toNat) H) := propext ⟨fun ⟨_, e, q⟩ => by cases e; exact q, fun q => ⟨j, rfl, q⟩⟩
theorem m_iRng1 (ta : TA) (σ : St) (H : Hp) (R : It → Hp → Prop) : iRng1 ta σ H R = ta σ H (kR1 R) := rfl
def kR2 (R : It → Hp → Prop) : List V → Hp → Prop := fun vs H => ∃ i j : Int, vs = [.int i, .int j] ∧ (-(2 ^ 62) ≤ i ∧ i < 2 ^ 62 ∧ -(2 ^ 62) ≤ j ∧ j < 2 ^ 62) ∧ R (Itr i (j - i).toNat) H
theorem m_kR2 (R : It → Hp → Prop) (i j : Int) (H : Hp) : kR2 R [.int i, .int j] H = ((-(2 ^ 62) ≤ i ∧ i < 2 ^ 62 ∧ -(2 ^ 62) ≤ j ∧ j < 2 ^ 62) ∧ R (Itr i (j - i).toNat) H) := propext ⟨fun ⟨_, _, e, q⟩ => by cases e; exact q, fun q => ⟨i, j, rfl, q⟩⟩
theorem m_iRng2 (ta : TA) (σ : St) (H : Hp) (R : It → Hp → Prop) : iRng2 ta σ H R = ta σ H (kR2 R) := rfl
def kISq' (K : PySem.W.Frag) (a : Addr) (H : Hp) (R : It → Hp → Prop) : HO → Prop := fun o => match o with
  | .lst _ => R (Itl K a) H
  | .frz _ (.lst _) => R (Itl K a) H
  | .tup _ => R (Itt K a) H
  | _ => False
theorem m_kISq'_l (K : PySem.W.Frag) (a : Addr) (H : Hp) (R : It → Hp → Prop) (xs : List V) : kISq' K a H R (.lst xs) = R (Itl K a) H := rfl
def kISq (K : PySem.W.Frag) (R : It → Hp → Prop) : VK := fun x H => match x with
  | .ref a => optK (H a) (kISq' K a H R)
  | _ => False
theorem m_kISq (K : PySem.W.Frag) (R : It → Hp → Prop) (a : Addr) (H : Hp) : kISq K R (.ref a) H = optK (H a) (kISq' K a H R) := rfl
def iSeq (K : PySem.W.Frag) (tl : TE) : TI := fun σ H R => tl σ H (kISq K R)
theorem m_iSeq (K : PySem.W.Frag) (tl : TE) (σ : St) (H : Hp) (R : It → Hp → Prop) : iSeq K tl σ H R = tl σ H (kISq K R) := rfl
theorem pi_seq {tg l : Expr} {tl : TE} (hl : PE X l tl) : PI X tg l (iSeq X.K tl) := by
  intro pins s σ H R I h
  refine thn (hl pins s σ H _ I h) fun v s1 ⟨x, H1, I1, r1, q1⟩ => ?_
  unfold kISq at q1
  split at q1
  · rename_i a
    cases r1
    obtain ⟨o, e, q⟩ := optK_ex q1
    have fp : ∀ b ∈ [s1.heap.objs.size], FpOk X pins H1 b := fun b hb => by
      have e : b = s1.heap.objs.size := by simpa using hb
      subst e
      exact I1.fpOk (Nat.le_refl _) (I1.hok.fresh (Nat.le_refl _))
    have lst : ∀ xs, SqL X.K H1 a xs → R (Itl X.K a) H1 → wpAny (model X.prog X.w) X.A (pyIter (.ref a)) (PIE X pins σ tg R) X.xe s1 := fun xs hq q => by
      obtain ⟨its, rv, p, hz⟩ := I1.list hq
      refine wpAny_pyIter_list p.isList ?_
      exact ⟨s1.heap.objs.size, [s1.heap.objs.size], _, _, H1, rfl, I1.kept (t' := s1.toks) fun b o e => Heap.get?_push_of_some _ e, turn_list a _, ⟨_, Heap.get?_push_size _ rfl, rfl, rfl⟩, fp, q⟩
    unfold kISq' at q
    split at q
    · exact lst _ (SqL.of e) q
    · exact lst _ (.inl (.inr ⟨_, e⟩)) q
    · obtain ⟨its, rv, p, hz⟩ := I1.tuple (SqT.of e)
      refine wpAny_pyIter_tuple (show s1.heap.IsTuple a its.toArray from p) ?_
      exact ⟨s1.heap.objs.size, [s1.heap.objs.size], _, _, H1, rfl, I1.kept (t' := s1.toks) fun b o e => Heap.get?_push_of_some _ e, turn_tuple a _, ⟨_, Heap.get?_push_size _ rfl, rfl, rfl⟩, fp, q⟩
    · exact q.elim
  · exact q1.elim
theorem for_rng {lo : Int} {n : Nat} {g : TG} {tb : TS} {nx : St → Hp → Prop} {rt : VK} {bk ct : St → Hp → Prop} {σ : St} {H : Hp} (Pv : Nat → St → Hp → Prop) (h0 : Pv 0 σ H)
    (hs : ∀ i σ H, i < n → Pv i σ H → g (.int (lo + i)) σ H (kBody tb ⟨Pv (i + 1), rt, nx, Pv (i + 1)⟩)) (hd : ∀ σ H, Pv n σ H → nx σ H) : kFor g tb ⟨nx, rt, bk, ct⟩ σ (Itr lo n) H := for_range Pv h0 hs hd
theorem for_lst {K : PySem.W.Frag} {a : Addr} {xs : List V} {g : TG} {tb : TS} {nx : St → Hp → Prop} {rt : VK} {bk ct : St → Hp → Prop} {σ : St} {H : Hp} (Pv : Nat → St → Hp → Prop) (h0 : Pv 0 σ H) (hl : ∀ i σ H, i ≤ xs.length → Pv i σ H → H a = some (.lst xs))
    (hs : ∀ i x σ H, xs[i]? = some x → Pv i σ H → g x σ H (kBody tb ⟨Pv (i + 1), rt, nx, Pv (i + 1)⟩)) (hd : ∀ σ H, Pv xs.length σ H → nx σ H) : kFor g tb ⟨nx, rt, bk, ct⟩ σ (Itl K a) H := for_list (xs := xs) Pv h0 (fun i σ H hi p => SqL.of (hl i σ H hi p)) hs hd
def kWh (tb : TS) (nx : St → Hp → Prop) (rt : VK) (Pv : Nat → St → Hp → Prop) (m : Nat) (σ : St) : Bool → Hp → Prop := fun b H => if b = true then tb ⟨fun σ' H' => ∃ m', m' < m ∧ Pv m' σ' H', rt, nx, fun σ' H' => ∃ m', m' < m ∧ Pv m' σ' H'⟩ σ H else nx σ H
theorem m_kWh (tb : TS) (nx : St → Hp → Prop) (rt : VK) (Pv : Nat → St → Hp → Prop) (m : Nat) (σ : St) (b : Bool) (H : Hp) : kWh tb nx rt Pv m σ b H = (if b = true then tb ⟨fun σ' H' => ∃ m', m' < m ∧ Pv m' σ' H', rt, nx, fun σ' H' => ∃ m', m' < m ∧ Pv m' σ' H'⟩ σ H else nx σ H) := rfl
theorem while_m {c : TT} {tb : TS} {nx : St → Hp → Prop} {rt : VK} {bk ct : St → Hp → Prop} {σ : St} {H : Hp} (Pv : Nat → St → Hp → Prop) (m0 : Nat) (h0 : Pv m0 σ H)
    (mono : ∀ σ H Q Q', (∀ b H1, Q b H1 → Q' b H1) → c σ H Q → c σ H Q')
    (hs : ∀ m σ H, Pv m σ H → c σ H (kWh tb nx rt Pv m σ)) : tWhile c tb ⟨nx, rt, bk, ct⟩ σ H := by
  refine ⟨Pv, ⟨m0, h0⟩, fun m σ H p => mono σ H _ _ (fun b H1 q => ?_) (hs m σ H p)⟩
  unfold kWh at q
  cases b with
  | true => exact ⟨_, fun σ' H' z => z, q⟩
  | false => exact q
end
end L2
set_option Elab.async false
set_option linter.all false
set_option maxRecDepth 100000
set_option maxHeartbeats 4000000
namespace L2
open PySem PySem.Spec PyProof.Rows
def kE4 (H : Hp) (Q : VK) : Bool → Prop := fun b => Q (.bl b) H
theorem m_kE4 (H : Hp) (Q : VK) (b : Bool) : kE4 H Q b = Q (.bl b) H := rfl
def kC3 (D : Addr) (ys : List V) (N : List V → Hp → Prop) : VK := fun y H => H D = some (.lst ys) ∧ ys.length < sizeLine ∧ N (ys ++ [y]) (upd H D (.lst (ys ++ [y])))
def kC2 (te : TE) (σ2 : St) (D : Addr) (ys : List V) (N : List V → Hp → Prop) : Bool → Hp → Prop := fun b H => if b = true then te σ2 H (kC3 D ys N) else N ys H
def kC1 (k : Nat) (tt : TT) (te : TE) (σ : St) (D : Addr) (ys : List V) (N : List V → Hp → Prop) : St → Hp → Prop := fun σ2 H => (∃ vs : St, vs.length = k ∧ σ2 = vs ++ σ) ∧ tt σ2 H (kC2 te σ2 D ys N)
theorem m_tYes (σ : St) (H : Hp) (Q : Bool → Hp → Prop) : tYes σ H Q = Q true H := rfl
def kComp (k : Nat) (g : TG) (tt : TT) (te : TE) (σ : St) (Q : VK) : It → Hp → Prop := fun J H1 => ∀ D, H1 D = none → ∃ W : Nat → Nat → List V → Hp → Prop, (∃ m, W 0 m [] (upd H1 D (.lst []))) ∧ ∀ i m ys H, W i m ys H →
  (J.stop i H ∧ Q (.ref D) H) ∨ (J.go i H ∧ ∃ N : List V → Hp → Prop, (∀ ys' H', N ys' H' → ∃ m', m' < m ∧ W (i + 1) m' ys' H') ∧
    ∀ x H', J.yld i H x H' → g x (List.replicate k none ++ σ) H' (kC1 k tt te σ D ys N))
theorem m_tComp (k : Nat) (wi : TI) (g : TG) (tt : TT) (te : TE) (σ : St) (H : Hp) (Q : VK) : tComp k wi g tt te σ H Q = wi σ H (kComp k g tt te σ Q) := rfl
def kSetC (i : Nat) (σ : St) (nx : St → Hp → Prop) : VK := fun x H => gName i x σ H nx
theorem m_kSetC (i : Nat) (σ : St) (nx : St → Hp → Prop) (x : V) (H : Hp) : kSetC i σ nx x H = gName i x σ H nx := rfl
theorem m_tSetC (i : Nat) (te : TE) (nx : St → Hp → Prop) (rt : VK) (bk ct : St → Hp → Prop) (σ : St) (H : Hp) : tSetC i te ⟨nx, rt, bk, ct⟩ σ H = te σ H (kSetC i σ nx) := rfl
section
variable {k : Nat} {g : TG} {tt : TT} {te : TE} {σ : St} {Q : VK} {H : Hp} {K : PySem.W.Frag}
end
def allSome {α : Type} : List (Option α) → Option (List α)
  | [] => some []
  | o :: r => o.bind fun x => (allSome r).map fun xs => x :: xs
def datO (f : V → Option PyData) : HO → Option PyData
  | .lst xs => (allSome (xs.map f)).map .list
  | .tup xs => (allSome (xs.map f)).map .tuple
  | _ => none
def datF (H : Hp) (f : V → Option PyData) : V → Option PyData
  | .non => some .none
  | .bl b => some (.bool b)
  | .int i => some (.int i)
  | .str z => if PyData.strOk z = true then some (.str z) else none
  | .ref p => (H p).bind (datO f)
  | _ => none
def datV (H : Hp) : Nat → V → Option PyData
  | 0, _ => none
  | n + 1, x => datF H (datV H n) x
def noD : V → Option PyData := fun _ => none
theorem m_datV (H : Hp) (x : V) : datV H 6 x = datF H (datF H (datF H (datF H (datF H (datF H noD))))) x := rfl
theorem m_datV_str (H : Hp) (n : Nat) (z : Str) : datV H (n + 1) (.str z) = if PyData.strOk z = true then some (.str z) else none := rfl
theorem m_datV_ref (H : Hp) (n : Nat) (p : Addr) : datV H (n + 1) (.ref p) = (H p).bind (datO (datV H n)) := rfl
theorem m_datF_int (H : Hp) (f : V → Option PyData) (i : Int) : datF H f (.int i) = some (.int i) := rfl
theorem m_datF_ref (H : Hp) (f : V → Option PyData) (p : Addr) : datF H f (.ref p) = (H p).bind (datO f) := rfl
theorem m_datO_lst (f : V → Option PyData) (xs : List V) : datO f (.lst xs) = (allSome (xs.map f)).map .list := rfl
theorem m_datO_tup (f : V → Option PyData) (xs : List V) : datO f (.tup xs) = (allSome (xs.map f)).map .tuple := rfl
theorem m_allSome_nil {α : Type} : allSome ([] : List (Option α)) = some [] := rfl
theorem m_allSome_cons {α : Type} (x : α) (r : List (Option α)) : allSome (some x :: r) = (allSome r).map fun xs => x :: xs := rfl
theorem allSome_ints (H : Hp) (f : V → Option PyData) : ∀ ns : List Int, allSome ((ns.map V.int).map (datF H f)) = some (ns.map PyData.int)
  | [] => rfl
  | i :: r => by
    show (allSome ((r.map V.int).map (datF H f))).map _ = _
    rw [allSome_ints H f r]; rfl
theorem datVs_ok {K : PySem.W.Frag} {H : Hp} {n : Nat} (ih : ∀ x d, datV H n x = some d → DatV K H x d ∧ d.canLay0 = true ∧ d.depth ≤ n) : ∀ (xs : List V) (ds : List PyData), allSome (xs.map (datV H n)) = some ds → DatVs K H xs ds ∧ PyData.canLayAll0 ds = true ∧ PyData.depthAll ds ≤ n
  | [], ds, h => by cases h; exact ⟨.nil, rfl, Nat.zero_le _⟩
  | x :: xs, ds, h => by
    have h' : (datV H n x).bind (fun d => (allSome (xs.map (datV H n))).map fun ds => d :: ds) = some ds := h
    cases e : datV H n x with
    | none => rw [e] at h'; cases h'
    | some d =>
      rw [e] at h'
      have h2 : (allSome (xs.map (datV H n))).map (fun ds => d :: ds) = some ds := h'
      cases e2 : allSome (xs.map (datV H n)) with
      | none => rw [e2] at h2; cases h2
      | some es =>
        rw [e2] at h2
        cases h2
        obtain ⟨a, b, c⟩ := ih x d e
        obtain ⟨a', b', c'⟩ := datVs_ok ih xs es e2
        exact ⟨.cons a a', by simp [PyData.canLayAll0, b, b'], by simp only [PyData.depthAll]; omega⟩
theorem datV_ok {K : PySem.W.Frag} {H : Hp} : ∀ (n : Nat) (x : V) (d : PyData), datV H n x = some d → DatV K H x d ∧ d.canLay0 = true ∧ d.depth ≤ n
  | 0, x, d, h => by cases h
  | n + 1, x, d, h => by
    cases x with
    | non => cases h; exact ⟨.non, rfl, Nat.zero_le _⟩
    | bl b => cases h; exact ⟨.bl b, rfl, Nat.zero_le _⟩
    | int i => cases h; exact ⟨.int i, rfl, Nat.zero_le _⟩
    | str z =>
      rw [m_datV_str] at h
      split at h
      · rename_i hz; cases h; exact ⟨.str z, by simpa [PyData.canLay0] using hz, Nat.zero_le _⟩
      · cases h
    | ref p =>
      rw [m_datV_ref] at h
      cases e : H p with
      | none => rw [e] at h; cases h
      | some o =>
        rw [e] at h
        have h' : datO (datV H n) o = some d := h
        cases o with
        | lst xs =>
          rw [m_datO_lst] at h'
          cases e2 : allSome (xs.map (datV H n)) with
          | none => rw [e2] at h'; cases h'
          | some ds =>
            rw [e2] at h'; cases h'
            obtain ⟨a, b, c⟩ := datVs_ok (K := K) (datV_ok n) xs ds e2
            exact ⟨.lst (SqL.of e) a, by simpa [PyData.canLay0] using b, by simp only [PyData.depth]; omega⟩
        | tup xs =>
          rw [m_datO_tup] at h'
          cases e2 : allSome (xs.map (datV H n)) with
          | none => rw [e2] at h'; cases h'
          | some ds =>
            rw [e2] at h'; cases h'
            obtain ⟨a, b, c⟩ := datVs_ok (K := K) (datV_ok n) xs ds e2
            exact ⟨.tup (SqT.of e) a, by simpa [PyData.canLay0] using b, by simp only [PyData.depth]; omega⟩
        | _ => cases h'
    | _ => cases h
theorem datV_shaped {K : PySem.W.Frag} {H : Hp} {n : Nat} {x : V} {d : PyData} (hn : n ≤ 64) (h : datV H n x = some d) : DatV K H x d ∧ SeqAt.shaped d = true := by
  obtain ⟨a, b, c⟩ := datV_ok (K := K) n x d h
  refine ⟨a, ?_⟩
  unfold SeqAt.shaped
  rw [b, decide_eq_true (show d.depth ≤ 64 by omega)]
  rfl
def kEq2 (neg : Bool) (H : Hp) (Q : VK) (d : PyData) : PyData → Prop := fun e => Q (.bl (if neg = true then !PyData.eqv d e else PyData.eqv d e)) H
theorem m_kEq2_t (H : Hp) (Q : VK) (d e : PyData) : kEq2 true H Q d e = Q (.bl (!PyData.eqv d e)) H := rfl
theorem m_kEq2_f (H : Hp) (Q : VK) (d e : PyData) : kEq2 false H Q d e = Q (.bl (PyData.eqv d e)) H := rfl
def kEq1 (neg : Bool) (y : V) (H : Hp) (Q : VK) : PyData → Prop := fun d => optK (datV H 6 y) (kEq2 neg H Q d)
theorem m_kEq1 (neg : Bool) (y : V) (H : Hp) (Q : VK) (d : PyData) : kEq1 neg y H Q d = optK (datV H 6 y) (kEq2 neg H Q d) := rfl
def qEq (neg : Bool) : R2 := fun x y H Q => if scal x y = true then Q (.bl (if neg = true then !decide (x = y) else decide (x = y))) H else optK (datV H 6 x) (kEq1 neg y H Q)
theorem m_qEq_ref (neg : Bool) (p : Addr) (y : V) (H : Hp) (Q : VK) : qEq neg (.ref p) y H Q = optK (datV H 6 (.ref p)) (kEq1 neg y H Q) := by
  show (if scal (.ref p) y = true then _ else _) = _
  rw [if_neg (by cases y <;> exact Bool.false_ne_true)]
theorem m_qEq_refr (neg : Bool) (p : Addr) (x : V) (H : Hp) (Q : VK) : qEq neg x (.ref p) H Q = optK (datV H 6 x) (kEq1 neg (.ref p) H Q) := by
  show (if scal x (.ref p) = true then _ else _) = _
  rw [if_neg (by cases x <;> exact Bool.false_ne_true)]
theorem m_qNe_non_int (j : Int) (H : Hp) (Q : VK) : qEq true V.non (V.int j) H Q = Q (.bl (!false)) H := by
  have e : decide ((V.non : V) = (V.int j)) = false := by simp
  show Q (.bl (if true = true then !decide (V.non = (V.int j)) else decide (V.non = (V.int j)))) H = _
  rw [e]; rfl
theorem m_qEq_int_int (i : Int) (j : Int) (H : Hp) (Q : VK) : qEq false (V.int i) (V.int j) H Q = Q (.bl (decide (i = j))) H := by
  have e : decide (((V.int i) : V) = (V.int j)) = decide (i = j) := by simp
  show Q (.bl (if false = true then !decide ((V.int i) = (V.int j)) else decide ((V.int i) = (V.int j)))) H = _
  rw [e]; rfl
theorem m_qNe_int_int (i : Int) (j : Int) (H : Hp) (Q : VK) : qEq true (V.int i) (V.int j) H Q = Q (.bl (!decide (i = j))) H := by
  have e : decide (((V.int i) : V) = (V.int j)) = decide (i = j) := by simp
  show Q (.bl (if true = true then !decide ((V.int i) = (V.int j)) else decide ((V.int i) = (V.int j)))) H = _
  rw [e]; rfl
section
variable {X : Cx}
theorem op_qEq (hu : X.A.units + 64 < cLine) : OpR X (compareOp .Eq) (qEq false) := by
  refine (op_eq.or (op_eqD hu)).mono fun x y H Q h => ?_
  unfold qEq at h
  split at h
  · rename_i hs; exact .inl ⟨hs, h⟩
  obtain ⟨d, e1, h⟩ := optK_ex h
  obtain ⟨e, e2, h⟩ := optK_ex h
  obtain ⟨a, b⟩ := datV_shaped (K := X.K) (by decide) e1
  obtain ⟨a', b'⟩ := datV_shaped (K := X.K) (by decide) e2
  exact .inr ⟨d, e, a, a', b, b', h⟩
theorem op_qNe (hu : X.A.units + 64 < cLine) : OpR X (compareOp .NotEq) (qEq true) := by
  refine (op_ne.or (op_neD hu)).mono fun x y H Q h => ?_
  unfold qEq at h
  split at h
  · rename_i hs; exact .inl ⟨hs, h⟩
  obtain ⟨d, e1, h⟩ := optK_ex h
  obtain ⟨e, e2, h⟩ := optK_ex h
  obtain ⟨a, b⟩ := datV_shaped (K := X.K) (by decide) e1
  obtain ⟨a', b'⟩ := datV_shaped (K := X.K) (by decide) e2
  exact .inr ⟨d, e, a, a', b, b', h⟩
end
theorem eqv_int (i j : Int) : PyData.eqv (.int i) (.int j) = decide (i = j) := Bool.beq_eq_decide_eq i j
theorem eqv_bool (i j : Bool) : PyData.eqv (.bool i) (.bool j) = decide (i = j) := by cases i <;> cases j <;> rfl
theorem eqv_tuple (xs ys : List PyData) : PyData.eqv (.tuple xs) (.tuple ys) = PyData.eqvAll xs ys := by simp only [PyData.eqv]
theorem eqv_list (xs ys : List PyData) : PyData.eqv (.list xs) (.list ys) = PyData.eqvAll xs ys := by simp only [PyData.eqv]
theorem eqvAll_nil : PyData.eqvAll [] [] = true := by simp only [PyData.eqvAll]
theorem eqvAll_cons (x y : PyData) (xs ys : List PyData) : PyData.eqvAll (x :: xs) (y :: ys) = (PyData.eqv x y && PyData.eqvAll xs ys) := by simp only [PyData.eqvAll]
theorem eqvAll_l (x : PyData) (xs : List PyData) : PyData.eqvAll (x :: xs) [] = false := by simp only [PyData.eqvAll]
theorem eqvAll_r (x : PyData) (xs : List PyData) : PyData.eqvAll [] (x :: xs) = false := by simp only [PyData.eqvAll]
theorem eqvAll_ints : ∀ ns ms : List Int, PyData.eqvAll (ns.map PyData.int) (ms.map PyData.int) = decide (ns = ms)
  | [], [] => by rw [List.map_nil, eqvAll_nil]; rfl
  | [], _ :: _ => by rw [List.map_nil, List.map_cons, eqvAll_r]; rfl
  | _ :: _, [] => by rw [List.map_nil, List.map_cons, eqvAll_l]; rfl
  | i :: r, j :: t => by
    rw [List.map_cons, List.map_cons, eqvAll_cons, eqv_int, eqvAll_ints r t]
    by_cases h : i = j <;> by_cases h2 : r = t <;> simp [h, h2]
end L2
set_option Elab.async false
set_option linter.all false
set_option maxRecDepth 100000
set_option maxHeartbeats 4000000
namespace L2
open PySem PySem.Spec PyProof.Rows
theorem CDiv_eq (i j : Int) : CDiv i j = (0 < j ∧ j < 1073741824) := rfl
theorem CPow_10 (j : Int) : CPow 10 j = (0 ≤ j ∧ j ≤ 1000000) := propext ⟨fun h => ⟨h.1, h.2.1⟩, fun h => ⟨h.1, h.2, by decide⟩⟩
theorem lenLe (n : Nat) (h : n ≤ 1000) : (n ≤ sizeLine) = True := eq_true (Nat.le_of_lt (small1000 h))
theorem Ext.of {H H' : Hp} (h : ∀ a, (H a).isSome = true → H' a = H a) : Ext H H' := ⟨h, fun K a xs q => by
  have s : Same H H' := fun b o e => (h b (by rw [e]; rfl)).trans e
  exact s.seq q⟩
theorem Ext.same {H H' : Hp} (h : Ext H H') : Same H H' := fun b o e => (h.1 b (by rw [e]; rfl)).trans e
theorem Same.ext {H H' : Hp} (h : Same H H') : Ext H H' := Ext.of fun a q => by
  cases e : H a with
  | none => rw [e] at q; cases q
  | some o => exact h a o e
theorem Ext.refl (H : Hp) : Ext H H := (Same.refl H).ext
theorem Ext.trans {H H1 H2 : Hp} (a : Ext H H1) (b : Ext H1 H2) : Ext H H2 := (a.same.trans b.same).ext
theorem Ext.new {H : Hp} {p : Addr} {o : HO} (h : H p = none) : Ext H (upd H p o) := (same_upd h).ext
theorem Ext.put {H H1 : Hp} {p : Addr} {o : HO} (a : Ext H H1) (h : H p = none) : Ext H (upd H1 p o) := Same.ext fun b u e => by
  rw [upd_ne (ne_of_none e h)]; exact a.same b u e
theorem Ext.free {H H1 : Hp} {p : Addr} (a : Ext H H1) (h : H1 p = none) : H p = none := a.same.free h
theorem Ext.at {H H1 : Hp} {p : Addr} {o : HO} (a : Ext H H1) (h : H p = some o) : H1 p = some o := a.same _ _ h
theorem optK_at {xs : List V} {i : Int} {k : V → Prop} (h0 : 0 ≤ i) (h1 : i < xs.length) (h : ∀ v ∈ xs, k v) : optK (atI xs i) k := by
  obtain ⟨v, e, m⟩ := atI_lt xs i h0 h1
  rw [e]; exact h v m
theorem cx_K (CX : CXT) (P : Program) (w : World) (K : PySem.W.Frag) (mg : Str → Option Value) (base : Heap) (N : List Str) (qual : Str) (scope : Scope) (f : Addr) (cd : Value) (A : Around) (outer : List Env) (s : Shared) (H : Hp) (E : XK) : (cxOf CX P w K mg base N qual scope f cd A outer s H E).K = K := rfl
def isW (H : Hp) : V → Option Bool
  | .int _ => some true
  | .bl _ => some false
  | .non => some false
  | .str _ => some false
  | .ref p => ((H p).bind tyO).map fun _ => false
  | _ => none
theorem isW_int' (H : Hp) (i : Int) : isW H (.int i) = some true := rfl
theorem isW_ref' (H : Hp) (p : Addr) : isW H (.ref p) = ((H p).bind tyO).map fun _ => false := rfl
theorem isW_obj {H : Hp} {p : Addr} {b : Bool} (h : isW H (.ref p) = some b) : b = false ∧ ∃ o, H p = some o ∧ (tyO o = some "list" ∨ tyO o = some "tuple" ∨ tyO o = some "dict") := by
  rw [isW_ref'] at h
  cases e : H p with
  | none => rw [e] at h; cases h
  | some o =>
    rw [e] at h
    have h' : (tyO o).map (fun _ => false) = some b := h
    cases e2 : tyO o with
    | none => rw [e2] at h'; cases h'
    | some t =>
      rw [e2] at h'; cases h'
      refine ⟨rfl, o, rfl, ?_⟩
      cases o with
      | lst xs => exact .inl rfl
      | tup xs => exact .inr (.inl rfl)
      | dK xs => exact .inr (.inr rfl)
      | dT xs => exact .inr (.inr rfl)
      | frz ob u => cases u with
        | lst xs => exact .inl rfl
        | _ => cases e2
      | _ => cases e2
end L2
set_option Elab.async false
set_option linter.all false
set_option maxRecDepth 100000
set_option maxHeartbeats 4000000
namespace L2
open PySem PySem.Spec PyProof.Rows
def ME (t : TE) : Prop := ∀ σ H (Q Q' : VK), (∀ v H, Q v H → Q' v H) → t σ H Q → t σ H Q'
def MT (t : TT) : Prop := ∀ σ H (Q Q' : Bool → Hp → Prop), (∀ b H, Q b H → Q' b H) → t σ H Q → t σ H Q'
def MA (t : TA) : Prop := ∀ σ H (Q Q' : List V → Hp → Prop), (∀ b H, Q b H → Q' b H) → t σ H Q → t σ H Q'
def MR (r : R2) : Prop := ∀ x y H (Q Q' : VK), (∀ v H, Q v H → Q' v H) → r x y H Q → r x y H Q'
def MC (r : List V → Hp → VK → Prop) : Prop := ∀ x H (Q Q' : VK), (∀ v H, Q v H → Q' v H) → r x H Q → r x H Q'
theorem optK_mono {α : Type} {o : Option α} {k k' : α → Prop} (m : ∀ x, k x → k' x) (h : optK o k) : optK o k' := by
  obtain ⟨x, e, q⟩ := optK_ex h
  rw [e]; exact m x q
theorem mo_var {i : Nat} : ME (tVar i) := fun σ H Q Q' m ⟨v, e, q⟩ => ⟨v, e, m _ _ q⟩
theorem mo_c {v : V} : ME (tC v) := fun σ H Q Q' m q => m _ _ q
theorem mo_op {r : R2} {a b : TE} (hr : MR r) (ha : ME a) (hb : ME b) : ME (tOp r a b) := fun σ H Q Q' m q => ha σ H _ _ (fun _ _ q => hb σ _ _ _ (fun _ _ q => hr _ _ _ _ _ m q) q) q
theorem mo_un {g : Int → V} {a : TE} (ha : ME a) : ME (tUn (rU g) a) := fun σ H Q Q' m q => ha σ H _ _ (fun _ _ ⟨i, e, q⟩ => ⟨i, e, m _ _ q⟩) q
theorem mo_rI0 {g : Int → Int → V} : MR (rI0 g) := fun x y H Q Q' m ⟨i, j, e, e', q⟩ => ⟨i, j, e, e', m _ _ q⟩
theorem mo_qEq {n : Bool} : MR (qEq n) := fun x y H Q Q' m q => by
  unfold qEq at q ⊢
  by_cases hs : scal x y = true
  · rw [if_pos hs] at q ⊢; exact m _ _ q
  · rw [if_neg hs] at q ⊢; exact optK_mono (fun _ q => optK_mono (fun _ q => m _ _ q) q) q
theorem mo_qIx : MR qIx := fun x y H Q Q' m q => by
  unfold qIx at q ⊢
  split at q
  · exact optK_mono (fun _ q => optK_mono (fun _ q => m _ _ q) q) q
  · exact q.elim
theorem mo_nil : MA tNil := fun σ H Q Q' m q => m _ _ q
theorem mo_cons {a : TE} {r : TA} (ha : ME a) (hr : MA r) : MA (tCons a r) := fun σ H Q Q' m q => ha σ H _ _ (fun _ _ q => hr σ _ _ _ (fun _ _ q => m _ _ q) q) q
theorem mo_cb {r : List V → Hp → VK → Prop} {t : TA} (hr : MC r) (ht : MA t) : ME (tCB r t) := fun σ H Q Q' m q => ht σ H _ _ (fun _ _ q => hr _ _ _ _ m q) q
theorem mo_qLen : MC qLen := fun x H Q Q' m q => by
  unfold qLen at q ⊢
  split at q
  · exact optK_mono (fun _ q => m _ _ q) q
  · exact ⟨q.1, m _ _ q.2⟩
  · exact q.elim
theorem mo_test {t : TE} (h : ME t) : MT (tTest t) := fun σ H Q Q' m q => h σ H _ _ (fun _ _ ⟨k, e, q⟩ => ⟨k, e, m _ _ q⟩) q
theorem mo_and {t u : TT} (h : MT t) (h' : MT u) : MT (tAnd t u) := fun σ H Q Q' m q => h σ H _ _ (fun b _ q => by
  cases b with
  | true => rw [if_pos rfl] at q ⊢; exact h' _ _ _ _ m q
  | false => rw [if_neg Bool.false_ne_true] at q ⊢; exact m _ _ q) q
theorem while_w {c : TT} {tb : TS} {nx : St → Hp → Prop} {rt : VK} {bk ct : St → Hp → Prop} {σ : St} {H : Hp} (mono : MT c) (Pv : Nat → St → Hp → Prop) (m0 : Nat) (h0 : Pv m0 σ H)
    (hs : ∀ m σ H, Pv m σ H → c σ H (kWh tb nx rt Pv m σ)) : tWhile c tb ⟨nx, rt, bk, ct⟩ σ H := while_m Pv m0 h0 (fun σ H Q Q' => mono σ H Q Q') hs
theorem ints_inj : ∀ {ns ms : List Int}, ns.map V.int = ms.map V.int → ns = ms
  | [], [], _ => rfl
  | [], _ :: _, h => by cases h
  | _ :: _, [], h => by cases h
  | i :: r, j :: t, h => by
    simp only [List.map_cons, List.cons.injEq, V.int.injEq] at h
    rw [h.1, ints_inj h.2]
def kInts (F : List Int → Prop) : List V → Prop := fun xs => ∃ ns, xs = ns.map V.int ∧ F ns
theorem m_kInts (F : List Int → Prop) (ns : List Int) : kInts F (ns.map V.int) = F ns := propext ⟨fun ⟨ms, e, h⟩ => by rw [ints_inj e]; exact h, fun h => ⟨ns, rfl, h⟩⟩
theorem optK_ints {xs : List V} {i : Int} {k : V → Prop} (P : Int → Prop) (h0 : 0 ≤ i) (h1 : i < xs.length) (hx : ∀ v ∈ xs, ∃ j, v = .int j ∧ P j) (h : ∀ j, P j → k (.int j)) : optK (atI xs i) k := optK_at h0 h1 fun v hv => by
  obtain ⟨j, rfl, hj⟩ := hx v hv
  exact h j hj
theorem cut_none (xs : List V) (z : Int) (h : 0 ≤ z) : cutV xs none (some z) = xs.take z.toNat := by
  unfold cutV
  rw [HT.sIx_none, List.drop_zero, Nat.sub_zero]
  obtain ⟨n, rfl⟩ := Int.eq_ofNat_of_zero_le h
  rw [HT.sIx_nat]
  show _ = xs.take n
  rcases Nat.le_total n xs.length with q | q
  · rw [Nat.min_eq_left q]
  · rw [Nat.min_eq_right q, List.take_of_length_le (Nat.le_refl _), List.take_of_length_le q]
def kSlN (lo hi : Option Int) (H : Hp) (Q : VK) : List V → Prop := fun xs => ∀ p, H p = none → Q (.ref p) (upd H p (.lst (cutV xs lo hi)))
def qSlL : V → Option Int → Option Int → Hp → VK → Prop := fun x lo hi H Q => match x with
  | .ref a => optK (lstAt H a) (kSlN lo hi H Q)
  | _ => False
theorem sl_q {X : Cx} : SlR X qSlL := sl_list.mono fun x lo hi H Q h => by
  unfold qSlL at h
  split at h
  · rename_i a
    obtain ⟨xs, e, q⟩ := optK_ex h
    exact ⟨a, xs, rfl, SqL.of (lst_of e), q⟩
  · exact h.elim
def kSl3 (r : V → Option Int → Option Int → Hp → VK → Prop) (x : V) (l : Option Int) (Q : VK) : Option Int → Hp → Prop := fun u H => r x l u H Q
theorem m_kSl3 (r : V → Option Int → Option Int → Hp → VK → Prop) (x : V) (l : Option Int) (Q : VK) (u : Option Int) (H : Hp) : kSl3 r x l Q u H = r x l u H Q := rfl
def kSl2 (r : V → Option Int → Option Int → Hp → VK → Prop) (th : TO) (σ : St) (x : V) (Q : VK) : Option Int → Hp → Prop := fun l H => th σ H (kSl3 r x l Q)
theorem m_kSl2 (r : V → Option Int → Option Int → Hp → VK → Prop) (th : TO) (σ : St) (x : V) (Q : VK) (l : Option Int) (H : Hp) : kSl2 r th σ x Q l H = th σ H (kSl3 r x l Q) := rfl
def kSl1 (r : V → Option Int → Option Int → Hp → VK → Prop) (tl th : TO) (σ : St) (Q : VK) : VK := fun x H => tl σ H (kSl2 r th σ x Q)
theorem m_kSl1 (r : V → Option Int → Option Int → Hp → VK → Prop) (tl th : TO) (σ : St) (Q : VK) (x : V) (H : Hp) : kSl1 r tl th σ Q x H = tl σ H (kSl2 r th σ x Q) := rfl
theorem m_tSl (r : V → Option Int → Option Int → Hp → VK → Prop) (te : TE) (tl th : TO) (σ : St) (H : Hp) (Q : VK) : tSl r te tl th σ H Q = te σ H (kSl1 r tl th σ Q) := rfl
theorem m_tNoPart (σ : St) (H : Hp) (Q : Option Int → Hp → Prop) : tNoPart σ H Q = Q none H := rfl
def kPart (Q : Option Int → Hp → Prop) : VK := fun x H => ∃ i, x = .int i ∧ Q (some i) H
theorem m_kPart (Q : Option Int → Hp → Prop) (i : Int) (H : Hp) : kPart Q (.int i) H = Q (some i) H := propext ⟨fun ⟨_, e, q⟩ => by cases e; exact q, fun q => ⟨i, rfl, q⟩⟩
theorem m_tPart (t : TE) (σ : St) (H : Hp) (Q : Option Int → Hp → Prop) : tPart t σ H Q = t σ H (kPart Q) := rfl
end L2
set_option Elab.async false
set_option linter.all false
set_option maxRecDepth 100000
set_option maxHeartbeats 4000000
namespace L2
open PySem PySem.Spec PyProof.Rows
def newK (o : HO) (H : Hp) (Q : VK) : Prop := ∀ (p : Addr) (H' : Hp), H p = none → Ext H H' → H' p = some o → Q (.ref p) H'
theorem newK.to {o : HO} {H : Hp} {Q : VK} (h : newK o H Q) : ∀ p, H p = none → Q (.ref p) (upd H p o) := fun p hp => h p _ hp (Ext.new hp) upd_same
def kQT (Q : VK) : List V → Hp → Prop := fun xs H => xs.length ≤ sizeLine ∧ newK (.tup xs) H Q
theorem m_kQT (Q : VK) (xs : List V) (H : Hp) : kQT Q xs H = (xs.length ≤ sizeLine ∧ newK (.tup xs) H Q) := rfl
def kQL (Q : VK) : List V → Hp → Prop := fun xs H => xs.length ≤ sizeLine ∧ newK (.lst xs) H Q
theorem m_kQL (Q : VK) (xs : List V) (H : Hp) : kQL Q xs H = (xs.length ≤ sizeLine ∧ newK (.lst xs) H Q) := rfl
def qTup (t : TA) : TE := fun σ H Q => t σ H (kQT Q)
theorem m_qTup (t : TA) (σ : St) (H : Hp) (Q : VK) : qTup t σ H Q = t σ H (kQT Q) := rfl
def qLst (t : TA) : TE := fun σ H Q => t σ H (kQL Q)
theorem m_qLst (t : TA) (σ : St) (H : Hp) (Q : VK) : qLst t σ H Q = t σ H (kQL Q) := rfl
section
variable {X : Cx} {es : List Expr} {t : TA} {pos : Pos}
theorem pe_qTup {x1} (h : PA X es t) : PE X (.Tuple es x1 pos) (qTup t) := by
  intro pins s σ H Q I hq
  refine wpAny_Tuple_spliced (thn (h pos pins s σ H _ I hq) fun us s1 ⟨xs, H1, I1, r, z, q⟩ => ⟨by rw [← r.length]; exact z, ?_⟩)
  have hf : H1 s1.heap.objs.size = none := I1.hok.fresh (Nat.le_refl _)
  refine ⟨.ref s1.heap.objs.size, upd H1 s1.heap.objs.size (.tup xs), I1.laid (t' := s1.toks) (fun b u e => Heap.get?_push_of_some _ e) (Nat.le_refl _) ?_, rfl, q.to _ hf⟩
  exact ⟨z, us, r, ⟨_, Heap.get?_push_size _ rfl, rfl, _, rfl⟩⟩
theorem pe_qLst (h : PA X es t) : PE X (.List es pos) (qLst t) := by
  intro pins s σ H Q I hq
  refine wpAny_List_spliced (thn (h pos pins s σ H _ I hq) fun us s1 ⟨xs, H1, I1, r, z, q⟩ => ⟨by rw [← r.length]; exact z, ?_⟩)
  have hf : H1 s1.heap.objs.size = none := I1.hok.fresh (Nat.le_refl _)
  refine ⟨.ref s1.heap.objs.size, upd H1 s1.heap.objs.size (.lst xs), I1.laid (t' := s1.toks) (fun b u e => Heap.get?_push_of_some _ e) (Nat.le_refl _) ?_, rfl, q.to _ hf⟩
  exact ⟨z, us, 0, r, Heap.get?_push_size _ rfl⟩
end
def kNC2 (xs : List V) (H : Hp) (Q : VK) : List V → Prop := fun ys => xs.length + ys.length ≤ sizeLine ∧ newK (.lst (xs ++ ys)) H Q
theorem m_kNC2 (xs : List V) (H : Hp) (Q : VK) (ys : List V) : kNC2 xs H Q ys = (xs.length + ys.length ≤ sizeLine ∧ newK (.lst (xs ++ ys)) H Q) := rfl
def kNC1 (b : Addr) (H : Hp) (Q : VK) : List V → Prop := fun xs => optK (lstAt H b) (kNC2 xs H Q)
theorem m_kNC1 (b : Addr) (H : Hp) (Q : VK) (xs : List V) : kNC1 b H Q xs = optK (lstAt H b) (kNC2 xs H Q) := rfl
def nCat : R2 := fun x y H Q => match x, y with
  | .ref l, .ref b => optK (lstAt H l) (kNC1 b H Q)
  | _, _ => False
theorem m_nCat (l b : Addr) (H : Hp) (Q : VK) : nCat (.ref l) (.ref b) H Q = optK (lstAt H l) (kNC1 b H Q) := rfl
theorem op_nCat {X : Cx} : OpR X (binaryOp .Add) nCat := op_cat.mono fun x y H Q h => by
  unfold nCat at h
  split at h
  · rw [m_rCat]
    exact optK_mono (fun _ q => optK_mono (fun _ q => ⟨q.1, q.2.to⟩) q) h
  · exact h.elim
def kNS (lo hi : Option Int) (H : Hp) (Q : VK) : List V → Prop := fun xs => newK (.lst (cutV xs lo hi)) H Q
theorem m_kNS (lo hi : Option Int) (H : Hp) (Q : VK) (xs : List V) : kNS lo hi H Q xs = newK (.lst (cutV xs lo hi)) H Q := rfl
def nSl : V → Option Int → Option Int → Hp → VK → Prop := fun x lo hi H Q => match x with
  | .ref a => optK (lstAt H a) (kNS lo hi H Q)
  | _ => False
theorem m_nSl (a : Addr) (lo hi : Option Int) (H : Hp) (Q : VK) : nSl (.ref a) lo hi H Q = optK (lstAt H a) (kNS lo hi H Q) := rfl
theorem sl_n {X : Cx} : SlR X nSl := sl_q.mono fun x lo hi H Q h => by
  unfold nSl at h
  split at h
  · exact optK_mono (fun _ q => q.to) h
  · exact h.elim
theorem PE.mono {X : Cx} {e : Expr} {t t' : TE} (h : PE X e t) (m : ∀ σ H Q, t' σ H Q → t σ H Q) : PE X e t' := fun pins s σ H Q I q => h pins s σ H Q I (m _ _ _ q)
def nDNew : TE := fun _ H Q => newK (.dK []) H Q
theorem m_nDNew (σ : St) (H : Hp) (Q : VK) : nDNew σ H Q = newK (.dK []) H Q := rfl
theorem pe_nDNew {X : Cx} {pos : Pos} : PE X (.Dict [] [] pos) nDNew := pe_dnewK.mono fun _ _ _ h => h.to
end L2
set_option Elab.async false
set_option linter.all false
set_option maxRecDepth 100000
set_option maxHeartbeats 4000000
namespace L2
open PySem PySem.Spec PyProof.Rows
section
variable {prog : Program} {w : World} {A : Around} {E : Value → Shared → Prop} {s : Shared}
end
section
variable {X : Cx} {pos : Pos}
end
end L2
set_option Elab.async false
set_option linter.all false
set_option maxRecDepth 100000
set_option maxHeartbeats 4000000
namespace L2
open PySem PySem.Spec PyProof.Rows
section
variable {X : Cx} {tg : Expr}
end
end L2
set_option Elab.async false
set_option linter.all false
set_option maxRecDepth 100000
set_option maxHeartbeats 4000000
namespace L2
open PySem PySem.Spec PyProof.Rows
def kBls (F : List Bool → Prop) : List V → Prop := fun xs => ∃ bs, xs = bs.map V.bl ∧ F bs
theorem bls_inj : ∀ {ns ms : List Bool}, ns.map V.bl = ms.map V.bl → ns = ms
  | [], [], _ => rfl
  | [], _ :: _, h => by cases h
  | _ :: _, [], h => by cases h
  | i :: r, j :: t, h => by
    simp only [List.map_cons, List.cons.injEq, V.bl.injEq] at h
    rw [h.1, bls_inj h.2]
theorem m_kBls (F : List Bool → Prop) (bs : List Bool) : kBls F (bs.map V.bl) = F bs := propext ⟨fun ⟨ms, e, h⟩ => by rw [bls_inj e]; exact h, fun h => ⟨bs, rfl, h⟩⟩
section
variable {X : Cx}
end
end L2
set_option Elab.async false
set_option linter.all false
set_option maxRecDepth 100000
set_option maxHeartbeats 4000000
namespace L2
open PySem PySem.Spec PyProof.Rows
section
variable {prog : Program} {w : World} {A : Around} {E : Value → Shared → Prop} {s : Shared}
structure Apart2 (z TI TO i j : Addr) (f g : List Addr) : Prop where
  ti : TI ≠ z ∧ TI ≠ TO ∧ TI ≠ i ∧ TI ≠ j
  zt : z ≠ TO
  zf : z ∉ f
  zg : z ∉ g
  tf : TO ∉ f
  tg : TO ∉ g
  ig : i ∉ g
  jf : j ∉ f
variable {z TI TO i j : Addr} {f g : List Addr} {ti tj : Nat → Heap → Prop} {vi vj : Nat → Option Value} {k m : Nat} {x y a b : Value}
end
end L2
set_option Elab.async false
set_option linter.all false
set_option maxRecDepth 100000
set_option maxHeartbeats 4000000
namespace L2
open PySem PySem.Spec PyProof.Rows
def SeqAt (h : Heap) (k : Bool) (l : Addr) (xs : Array Value) : Prop := match k with
  | true => h.IsTuple l xs
  | false => h.IsList l xs
section
variable {prog : Program} {w : World} {A : Around} {E : Value → Shared → Prop} {s : Shared}
end
section
variable {X : Cx} {pins : List (Addr × Obj)} {σ : List (Option V)} {H : Hp} {s : Shared} {h' : Heap}
theorem Inv.turnNew {t' : Nat} {ch : List Addr} {n : Addr} {o : HO} (I : Inv X pins σ H s) (hch : ∀ b ∈ ch, FpOk X pins H b) (k : ∀ b ob, b ∉ ch → s.heap.get? b = some ob → h'.get? b = some ob) (hn : s.heap.objs.size ≤ n) (new : ObjOk X.prog X.w (upd H n o) h' n o) :
    Inv X pins σ (upd H n o) { s with heap := h', toks := t' } := by
  have fn := I.hok.fresh hn
  have up : ∀ {b u}, H b = some u → upd H n o b = some u := fun {b u} e => by rw [upd_ne (ne_of_none e fn)]; exact e
  have nch : ∀ {b u}, H b = some u → b ∉ ch := fun {b u} e z => by rw [(hch b z).1] at e; cases e
  refine I.step (g' := s.gens) (d' := s.drawn) (ch := ch) (fun b hb => ⟨(hch b hb).2.2.2.1, (hch b hb).2.1, (hch b hb).2.2.2.2.1, (hch b hb).2.2.2.2.2⟩) (fun b ob _ _ hc e _ => k b ob hc e) (fun b ob _ _ hc e _ => ⟨ob.slots, k b ob hc e⟩)
    (fun b ob _ e q => ?_) (fun b ob hc e => ⟨ob, k b ob hc e⟩) (fun _ _ e => up e) (fun _ _ _ e => up e) (fun b ps e => ⟨#[], by rw [up e]; simp⟩) (fun m hm => ?_) (fun b u e => ?_) I.bare
  · rw [upd_ne (Nat.ne_of_lt (Nat.lt_of_lt_of_le (Heap.lt_size e) hn))]; exact q
  · obtain ⟨ol, es, ep, ho, r⟩ := hm
    exact ⟨ol, es, ep, k _ ol (fun z => (hch _ z).2.1 rfl) ho, r⟩
  · by_cases hb : b = n
    · subst hb; rw [upd_same] at e; cases e; exact new
    · rw [upd_ne hb] at e
      refine (I.hok b u e).stay (fun c v hc q => k c v ?_ q) (fun c q => up q) fun c xs q => up q
      rcases hc with rfl | hc
      · exact nch e
      · exact nch hc
end
section
variable {X : Cx}
end
end L2
set_option Elab.async false
set_option linter.all false
set_option maxRecDepth 100000
set_option maxHeartbeats 4000000
namespace L2
open PySem PySem.Spec PyProof.Rows
def kCm2 (te : TE) (σ2 : St) (N1 : VK) (N0 : Hp → Prop) : Bool → Hp → Prop := fun b H => if b = true then te σ2 H N1 else N0 H
theorem m_kCm2 (te : TE) (σ2 : St) (N1 : VK) (N0 : Hp → Prop) (b : Bool) (H : Hp) : kCm2 te σ2 N1 N0 b H = (if b = true then te σ2 H N1 else N0 H) := rfl
def kCm (k : Nat) (tt : TT) (te : TE) (σ : St) (N1 : VK) (N0 : Hp → Prop) : St → Hp → Prop := fun σ2 H => (∃ vs : St, vs.length = k ∧ σ2 = vs ++ σ) ∧ tt σ2 H (kCm2 te σ2 N1 N0)
theorem m_kCm_1 (tt : TT) (te : TE) (σ : St) (N1 : VK) (N0 : Hp → Prop) (a : Option V) (H : Hp) : kCm 1 tt te σ N1 N0 (a :: σ) H = tt (a :: σ) H (kCm2 te (a :: σ) N1 N0) := propext ⟨fun h => h.2, fun h => ⟨⟨[a], rfl, rfl⟩, h⟩⟩
theorem m_rep_1 (σ : St) : List.replicate 1 (none : Option V) ++ σ = none :: σ := rfl
def Al {α : Type} (R : α → V → Prop) (zs : List α) (ys : List V) : Prop := ys.length = zs.length ∧ ∀ (i : Nat) z y, zs[i]? = some z → ys[i]? = some y → R z y
theorem Al.nil {α : Type} {R : α → V → Prop} : Al R [] [] := ⟨rfl, fun i z y h => by simp at h⟩
theorem Al.snoc {α : Type} {R : α → V → Prop} {zs : List α} {ys : List V} {z : α} {y : V} (h : Al R zs ys) (r : R z y) : Al R (zs ++ [z]) (ys ++ [y]) := by
  refine ⟨by simp [h.1], fun i z' y' h1 h2 => ?_⟩
  by_cases hi : i < zs.length
  · rw [List.getElem?_append_left hi] at h1
    rw [List.getElem?_append_left (by rw [h.1]; exact hi)] at h2
    exact h.2 i z' y' h1 h2
  · rw [List.getElem?_append_right (by omega)] at h1
    rw [List.getElem?_append_right (by rw [h.1]; omega), h.1] at h2
    by_cases h0 : i - zs.length = 0
    · rw [h0] at h1 h2; simp at h1 h2; subst h1; subst h2; exact r
    · rw [List.getElem?_eq_none (by simp; omega)] at h1; cases h1
theorem Al.imp {α : Type} {R S : α → V → Prop} {zs : List α} {ys : List V} (h : Al R zs ys) (f : ∀ z y, R z y → S z y) : Al S zs ys := ⟨h.1, fun i z y a b => f z y (h.2 i z y a b)⟩
theorem Al.map {α : Type} {f : α → V} {zs : List α} {ys : List V} (h : Al (fun z y => y = f z) zs ys) : ys = zs.map f := by
  apply List.ext_getElem?
  intro i
  rw [List.getElem?_map]
  by_cases hi : i < zs.length
  · have e1 : zs[i]? = some zs[i] := List.getElem?_eq_getElem hi
    have e2 : ys[i]? = some (ys[i]'(by rw [h.1]; exact hi)) := List.getElem?_eq_getElem _
    rw [e1, e2, h.2 i _ _ e1 e2]; rfl
  · have := h.1; rw [List.getElem?_eq_none (show ys.length ≤ i by omega), List.getElem?_eq_none (show zs.length ≤ i by omega)]; rfl
section
variable {k : Nat} {g : TG} {tt : TT} {te : TE} {σ : St} {Q : VK} {H : Hp} {K : PySem.W.Frag}
theorem comp_rel {α : Type} {J : It} (zs : List α) (c : α → Bool) (P : α → V → Hp → Prop) (R : Addr → α → V → Hp → Prop)
    (hgo : ∀ i z H', zs[i]? = some z → Ext H H' → J.go i H' ∧ ∀ x H'', J.yld i H' x H'' → Ext H' H'' ∧ P z x H'')
    (hst : ∀ H', Ext H H' → J.stop zs.length H')
    (hR1 : ∀ D z y H1 H2, R D z y H1 → Ext H1 H2 → R D z y H2) (hR2 : ∀ D z y H1 o, R D z y H1 → R D z y (upd H1 D o))
    (hl : zs.length ≤ sizeLine)
    (hs : ∀ D z x H' N1 N0, z ∈ zs → H D = none → Ext H H' → (∃ ys, H' D = some (.lst ys)) → P z x H' → (c z = true → ∀ y H'', Ext H' H'' → R D z y H'' → N1 y H'') → (c z = false → ∀ H'', Ext H' H'' → N0 H'') → g x (List.replicate k none ++ σ) H' (kCm k tt te σ N1 N0))
    (hd : ∀ D ys H', H D = none → Ext H H' → H' D = some (.lst ys) → Al (fun z y => R D z y H') (zs.filter c) ys → Q (.ref D) H') : kComp k g tt te σ Q J H := by
  intro D hD
  refine ⟨fun i m ys H' => m = zs.length - i ∧ i ≤ zs.length ∧ Ext H H' ∧ H' D = some (.lst ys) ∧ Al (fun z y => R D z y H') ((zs.take i).filter c) ys, ⟨zs.length, by simp, Nat.zero_le _, Ext.new hD, upd_same, by simpa using Al.nil⟩, ?_⟩
  rintro i m ys H' ⟨rfl, hi, e, hD', al⟩
  by_cases hlt : i < zs.length
  · have hz : zs[i]? = some zs[i] := List.getElem?_eq_getElem hlt
    obtain ⟨go, y⟩ := hgo i zs[i] H' hz e
    have tk : zs.take (i + 1) = zs.take i ++ [zs[i]] := by rw [List.take_succ, hz]; rfl
    have ln : ys.length < sizeLine := by
      have h1 := al.1
      have h2 := List.length_filter_le c (zs.take i)
      simp only [List.length_take] at h2
      omega
    refine .inr ⟨go, fun ys' H2 => Ext H H2 ∧ H2 D = some (.lst ys') ∧ Al (fun z y => R D z y H2) ((zs.take (i + 1)).filter c) ys', fun ys' H2 p => ⟨zs.length - (i + 1), by omega, rfl, hlt, p⟩, fun x H2 z => ?_⟩
    obtain ⟨e2, p2⟩ := y x H2 z
    refine hs D zs[i] x H2 (kC3 D ys _) _ (List.getElem_mem hlt) hD (e.trans e2) ⟨ys, e2.at hD'⟩ p2 (fun hc y H3 e3 r3 => ?_) fun hc H3 e3 => ?_
    · refine ⟨e3.at (e2.at hD'), ln, (e.trans (e2.trans e3)).put hD, upd_same, ?_⟩
      rw [tk, List.filter_append, show [zs[i]].filter c = [zs[i]] by simp [hc]]
      exact Al.snoc (al.imp fun z y r => hR2 _ _ _ _ _ (hR1 _ _ _ _ _ r (e2.trans e3))) (hR2 _ _ _ _ _ r3)
    · refine ⟨e.trans (e2.trans e3), (e2.trans e3).at hD', ?_⟩
      rw [tk, List.filter_append, show [zs[i]].filter c = [] by simp [hc], List.append_nil]
      exact al.imp fun z y r => hR1 _ _ _ _ _ r (e2.trans e3)
  · have e' : i = zs.length := by omega
    subst e'
    rw [List.take_length] at al
    exact .inl ⟨hst H' e, hd D ys H' hD e hD' al⟩
theorem comp_fm {α : Type} {J : It} (zs : List α) (c : α → Bool) (f : α → V) (P : α → V → Hp → Prop)
    (hgo : ∀ i z H', zs[i]? = some z → Ext H H' → J.go i H' ∧ ∀ x H'', J.yld i H' x H'' → Ext H' H'' ∧ P z x H'')
    (hst : ∀ H', Ext H H' → J.stop zs.length H') (hl : zs.length ≤ sizeLine)
    (hs : ∀ D z x H' N1 N0, z ∈ zs → H D = none → Ext H H' → P z x H' → (c z = true → ∀ H'', Ext H' H'' → N1 (f z) H'') → (c z = false → ∀ H'', Ext H' H'' → N0 H'') → g x (List.replicate k none ++ σ) H' (kCm k tt te σ N1 N0))
    (hd : ∀ D H', H D = none → Ext H H' → H' D = some (.lst ((zs.filter c).map f)) → Q (.ref D) H') : kComp k g tt te σ Q J H :=
  comp_rel zs c P (fun _ z y _ => y = f z) hgo hst (fun _ _ _ _ _ r _ => r) (fun _ _ _ _ _ r => r) hl (fun D z x H' N1 N0 hz hD e _ p k1 k0 => hs D z x H' N1 N0 hz hD e p (fun hc H'' e' => k1 hc _ H'' e' rfl) k0) fun D ys H' hD e hD' al => hd D H' hD e (by rw [← al.map]; exact hD')
theorem wk_rng {lo : Int} {n : Nat} : (∀ i z H', (List.range n)[i]? = some z → Ext H H' → (Itr lo n).go i H' ∧ ∀ x H'', (Itr lo n).yld i H' x H'' → Ext H' H'' ∧ x = .int (lo + (z : Nat))) ∧ ∀ H', Ext H H' → (Itr lo n).stop (List.range n).length H' := by
  refine ⟨fun i z H' hz _ => ?_, fun H' _ => by simp [Itr]⟩
  obtain ⟨h1, h2⟩ := List.getElem?_eq_some_iff.mp hz
  have e : i = z := by simpa using h2
  subst e
  exact ⟨(show i < n by simpa using h1), fun x H'' y => ⟨by rw [y.1]; exact Ext.refl _, y.2⟩⟩
theorem wk_lst {a : Addr} {xs : List V} (h : H a = some (.lst xs)) : (∀ i z H', xs[i]? = some z → Ext H H' → (Itl K a).go i H' ∧ ∀ x H'', (Itl K a).yld i H' x H'' → Ext H' H'' ∧ (x = z ∧ H'' a = some (.lst xs))) ∧ ∀ H', Ext H H' → (Itl K a).stop xs.length H' :=
  ⟨fun i z H' hz e => ⟨⟨xs, z, SqL.of (e.at h), hz⟩, fun x H'' y => ⟨by rw [y.1]; exact Ext.refl _, Option.some.inj ((y.2 xs (SqL.of (e.at h))).symm.trans hz), by rw [y.1]; exact e.at h⟩⟩, fun H' e => ⟨xs, SqL.of (e.at h), Nat.le_refl _⟩⟩
end
def compB (sc : Scope) (N : List Str) (scope : Scope) (N' : List Str) (k : Nat) : Bool :=
  scope.names.all (fun y => !(y.2 == .cell)) && (scope.kind == .function) && scope.names.all (fun y => !(y.2 == .local) || scope.names.lookup y.1 == some .local) && scope.names.all (fun y => !(y.2 == .free) || sc.names.lookup y.1 == some .cell) && decide (N'.length = k + N.length) &&
    ((N'.drop k).zip N).all (fun p => (!(scope.names.lookup p.1 == some .free) || decide (p.1 = p.2)) && !(scope.names.lookup p.1 == some .local))
theorem comp_ok {X : Cx} {scope : Scope} {N' : List Str} {k : Nat} (sc : Scope) (N : List Str) (h1 : X.env.scope = sc) (h2 : X.N = N) (h : compB sc N scope N' k = true) : CompOk X scope N' k := by
  unfold compB at h
  simp only [Bool.and_eq_true, decide_eq_true_eq] at h
  obtain ⟨⟨⟨⟨⟨a1, a2⟩, a3⟩, a4⟩, a5⟩, a6⟩ := h
  rw [List.all_eq_true] at a1 a3 a4 a6
  have pr : ∀ i x, N'[k + i]? = some x → ∃ y, N[i]? = some y ∧ (x, y) ∈ (N'.drop k).zip N := fun i x hx => by
    have h0 := (List.getElem?_eq_some_iff.mp hx).1
    have hi : i < N.length := by omega
    have e1 : (N'.drop k)[i]? = some x := by rw [List.getElem?_drop]; exact hx
    have e2 : N[i]? = some N[i] := List.getElem?_eq_getElem hi
    refine ⟨_, e2, List.mem_of_getElem? (i := i) ?_⟩
    rw [List.getElem?_zip_eq_some]
    exact ⟨e1, e2⟩
  refine ⟨fun y hy e => ?_, by simpa using a2, fun y hy e => ?_, fun y hy e => ?_, by rw [h2]; exact a5, fun i x hx hf => ?_, fun i x hx hf => ?_⟩
  · have := a1 y hy; rw [e] at this; simp at this
  · have := a3 y hy; rw [e] at this; simpa using this
  · have := a4 y hy; rw [e] at this; rw [h1]; simpa using this
  · obtain ⟨y, hy, hm⟩ := pr i x hx
    have := a6 _ hm
    simp only [hf] at this
    rw [h2, hy]
    simp at this
    rw [this]
  · obtain ⟨y, hy, hm⟩ := pr i x hx
    have := a6 _ hm
    simp [hf] at this
end L2
set_option Elab.async false
set_option linter.all false
set_option maxRecDepth 100000
set_option maxHeartbeats 4000000
namespace L2
open PySem PySem.Spec PyProof.Rows
section
variable {X : Cx} {e o value : Expr} {ta tv : TE} {f : Str} {pos pos' : Pos}
end
section
variable {X : Cx} {CX : CXT} {k : Nat} {f C : Addr} {fd : FuncData} {ps : List Str} {sp : Sp} {dvs : List V} {ds : List Value} {E : XK} {x m : Str} {p pos apos : Pos} {e o : Expr} {es : List Expr} {ta : TE} {t : TA}
end
section
variable {X : Cx} {CX : CXT} {k : Nat} {f C : Addr} {fd : FuncData} {ps : List Str} {sp : Sp} {dvs : List V} {ds : List Value} {E : XK} {x m : Str} {p pos apos : Pos} {e o : Expr} {es : List Expr} {ta : TE} {t : TA}
end
end L2
set_option Elab.async false
set_option linter.all false
set_option maxRecDepth 100000
set_option maxHeartbeats 4000000
namespace L2
open PySem PySem.Spec PyProof.Rows
def notStar : Expr → Bool
  | .Starred .. => false
  | _ => true
theorem star_ok {e : Expr} {es : List Expr} {env : Env} (h : notStar e = true) : starEach (e :: es) env = (false, eval e env) :: starEach es env := by
  cases e <;> first | rfl | cases h
theorem pa_c {X : Cx} {e : Expr} {es : List Expr} {te : TE} {t : TA} (ha : PE X e te) (hr : PA X es t) (hn : notStar e = true := by rfl) : PA X (e :: es) (tCons te t) := pa_cons ha hr (star_ok hn)
end L2
namespace L2
open PySem PySem.Spec PyProof.Rows
theorem len5000 {n : Nat} (h : n ≤ 5000) : n ≤ sizeLine := Nat.le_trans h (by decide)
theorem lt5000 {n : Nat} (h : n < 5000) : n < sizeLine := Nat.lt_of_lt_of_le h (by decide)
end L2
set_option Elab.async false
set_option linter.all false
set_option maxRecDepth 100000
set_option maxHeartbeats 4000000
namespace L2
open PySem PySem.Spec PyProof.Rows
theorem wk_al {K : PySem.W.Frag} {H : Hp} {α : Type} {R : α → V → Hp → Prop} (hR : ∀ z y H H', R z y H → Ext H H' → R z y H') {l : Addr} {ys : List V} {zs : List α} (h : H l = some (.lst ys)) (al : Al (fun z y => R z y H) zs ys) :
    (∀ i z H', zs[i]? = some z → Ext H H' → (Itl K l).go i H' ∧ ∀ x H'', (Itl K l).yld i H' x H'' → Ext H' H'' ∧ R z x H'') ∧ ∀ H', Ext H H' → (Itl K l).stop zs.length H' := by
  refine ⟨fun i z H' hz e => ?_, fun H' e => ⟨ys, SqL.of (e.at h), by rw [al.1]; exact Nat.le_refl _⟩⟩
  have hi : i < ys.length := by rw [al.1]; exact (List.getElem?_eq_some_iff.mp hz).1
  have hy : ys[i]? = some ys[i] := List.getElem?_eq_getElem hi
  refine ⟨⟨ys, ys[i], SqL.of (e.at h), hy⟩, fun x H'' y => ?_⟩
  have hx : x = ys[i] := Option.some.inj ((y.2 ys (SqL.of (e.at h))).symm.trans hy)
  refine ⟨by rw [y.1]; exact Ext.refl _, ?_⟩
  rw [hx, y.1]
  exact hR _ _ _ _ (al.2 i z _ hz hy) e
end L2
set_option Elab.async false
set_option linter.all false
set_option maxRecDepth 100000
set_option maxHeartbeats 4000000
namespace L2
open PySem PySem.Spec PyProof.Rows
section
variable {prog : Program} {w : World} {A : Around} {E : Value → Shared → Prop} {s : Shared}
variable {z TI TO i j : Addr} {f g : List Addr} {ti tj : Nat → Heap → Prop} {vi vj : Nat → Option Value} {k m : Nat} {x y : Value} {t : Addr} {fl : Bool} {ot : Obj}
variable {ka kb : Bool} {a b p q : Addr} {as bs : Array Value} {n : Nat}
end
section
variable {X : Cx} {pins : List (Addr × Obj)} {σ : St} {s : Shared}
end
section
variable {X : Cx}
end
def kClr (l : Addr) (H : Hp) (Q : VK) : List V → Prop := fun _ => Q .non (upd H l (.lst []))
theorem m_kClr (l : Addr) (H : Hp) (Q : VK) (xs : List V) : kClr l H Q xs = Q .non (upd H l (.lst [])) := rfl
theorem m_rClear (l : Addr) (H : Hp) (Q : VK) : rClear (.ref l) [] H Q = optK (lstAt H l) (kClr l H Q) := by
  unfold rClear
  refine propext ⟨fun h => ?_, fun h => ?_⟩
  · obtain ⟨l', xs, e, _, hl, q⟩ := h
    cases e
    have e2 : lstAt H l = some xs := by unfold lstAt; rw [hl]; rfl
    rw [e2, optK_some]; exact q
  · obtain ⟨xs, e, q⟩ := optK_ex h
    exact ⟨l, xs, rfl, rfl, lst_of e, q⟩
end L2
set_option Elab.async false
set_option linter.all false
set_option maxRecDepth 100000
set_option maxHeartbeats 4000000
namespace L2
open PySem PySem.Spec PyProof.Rows
def kMinI (H : Hp) (Q : VK) : List Int → Prop := fun ns => 0 < ns.length ∧ ∀ M, M ∈ ns → (∀ a ∈ ns, M ≤ a) → Q (.int M) H
theorem x_kMinI (H : Hp) (Q : VK) (ns : List Int) : kMinI H Q ns = (0 < ns.length ∧ ∀ M, M ∈ ns → (∀ a ∈ ns, M ≤ a) → Q (.int M) H) := rfl
def qMinL : List V → Hp → VK → Prop := fun vs H Q => match vs with
  | [.ref p] => optK (lstAt H p) (kInts (kMinI H Q))
  | _ => False
theorem m_qMinL (p : Addr) (H : Hp) (Q : VK) : qMinL [.ref p] H Q = optK (lstAt H p) (kInts (kMinI H Q)) := rfl
section
variable {X : Cx}
theorem call_qMinL (hc : X.calm = true) : CallR X (.builtin "min") qMinL := by
  intro pins s σ H vs us Q I r h
  unfold qMinL at h
  split at h
  · rename_i p
    obtain ⟨xs, e, ns, rfl, hn, q⟩ := optK_ex h
    cases r with
    | cons r rr =>
      cases rr
      cases r
      obtain ⟨its, rv, pl, hz⟩ := I.list (SqL.of (lst_of e))
      have hlt : p < s.heap.objs.size := by obtain ⟨_, e, _⟩ := pl.isList; exact Heap.lt_size e
      have hlen : its.length = ns.length := by have := rv.length; simpa using this.symm
      have hsz : its.toArray.size = ns.length := by simp [hlen]
      have hP : ∀ (i : Nat) (v : Value), its.toArray[i]? = some v → ∃ t, v = .int (ns.getD i 0) t := fun i v hP => by
        have hv : its[i]? = some v := by simpa using hP
        have hi : i < ns.length := by rw [← hlen]; exact (List.getElem?_eq_some_iff.mp hv).1
        obtain ⟨u, hu, ru⟩ := rv.get (i := i) (x := .int (ns.getD i 0)) (by rw [List.getElem?_map, List.getElem?_eq_getElem hi]; simp [List.getD, List.getElem?_eq_getElem hi])
        rw [hv] at hu
        cases hu
        exact ru
      refine call_min_walkS (wpAny_pyIter_list pl.isList ⟨s.heap.objs.size, _, _, _, _, _, _, fun i j => decide (ns.getD i 0 < ns.getD j 0), rfl, (Walks.list (show X.A.in1.handled = none from I.ok.hd hc) _ p (Nat.ne_of_lt hlt) its.toArray).toS, ⟨⟨_, Heap.get?_push_size _ rfl, rfl, rfl⟩, pl.isList.push _⟩, fun b hb => ?_, by rw [hsz]; exact hn, CmpOf.ints_lt (fun i => ns.getD i 0) fun i v h => hP i v h, fun v s' hv hm => ?_⟩)
      · rw [Heap.size_push]
        rcases List.mem_cons.mp hb with rfl | hb
        · exact Nat.lt_succ_self _
        · rw [List.mem_singleton.mp hb]; exact Nat.lt_succ_of_lt hlt
      · obtain ⟨hp, g, d, tk, os⟩ := s'
        have kp : ∀ b o, s.heap.get? b = some o → hp.get? b = some o := fun b o e => hm.heap b o (fun hmem => by
          have : b = s.heap.objs.size := by simpa using hmem
          subst this
          exact absurd (Heap.lt_size e) (Nat.lt_irrefl _)) (Heap.get?_push_of_some _ e)
        have e1 : g = s.gens := hm.gens
        have e2 : d = s.drawn := hm.drawn
        have e3 : os = s.os := hm.os
        subst e1 e2 e3
        obtain ⟨b1, b2⟩ := argBest_lt (fun i => ns.getD i 0) (its.toArray.size - 1)
        have rv2 := hP _ v hv
        generalize argBest (fun i j => decide (ns.getD i 0 < ns.getD j 0)) (its.toArray.size - 1) = k at b1 b2 rv2
        rw [hsz] at b1 b2
        have hk : k < ns.length := by omega
        refine ⟨.int (ns.getD k 0), H, I.kept (t' := tk) kp, rv2, q _ ?_ fun a ha => ?_⟩
        · rw [List.getD, List.getElem?_eq_getElem hk]; exact List.getElem_mem hk
        · obtain ⟨j, hj, rfl⟩ := List.getElem_of_mem ha
          have := b2 j (by omega)
          rw [show ns.getD j 0 = ns[j] by rw [List.getD, List.getElem?_eq_getElem hj]; rfl] at this
          exact this
  · exact h.elim
end
section
variable {X : Cx} {a b c d : Expr} {ta tb tc td : TE} {pos : Pos}
end
section
variable {k : Nat} {g : TG} {tt : TT} {te : TE} {σ : St} {Q : VK} {H : Hp} {K : PySem.W.Frag}
theorem comp_rel2 {α : Type} {J : It} (zs : List α) (c : α → Bool) (P : α → V → Hp → Prop) (R : Addr → α → V → Hp → Prop)
    (hgo : ∀ i z H', zs[i]? = some z → Ext H H' → J.go i H' ∧ ∀ x H'', J.yld i H' x H'' → Ext H' H'' ∧ P z x H'')
    (hst : ∀ H', Ext H H' → J.stop zs.length H')
    (hR1 : ∀ D z y H1 H2, R D z y H1 → Ext H1 H2 → R D z y H2) (hR2 : ∀ D z y H1 xs o, R D z y H1 → H1 D = some (.lst xs) → R D z y (upd H1 D o))
    (hl : zs.length ≤ sizeLine)
    (hs : ∀ D z x H' N1 N0, z ∈ zs → H D = none → Ext H H' → (∃ ys, H' D = some (.lst ys)) → P z x H' → (c z = true → ∀ y H'', Ext H' H'' → R D z y H'' → N1 y H'') → (c z = false → ∀ H'', Ext H' H'' → N0 H'') → g x (List.replicate k none ++ σ) H' (kCm k tt te σ N1 N0))
    (hd : ∀ D ys H', H D = none → Ext H H' → H' D = some (.lst ys) → Al (fun z y => R D z y H') (zs.filter c) ys → Q (.ref D) H') : kComp k g tt te σ Q J H := by
  intro D hD
  refine ⟨fun i m ys H' => m = zs.length - i ∧ i ≤ zs.length ∧ Ext H H' ∧ H' D = some (.lst ys) ∧ Al (fun z y => R D z y H') ((zs.take i).filter c) ys, ⟨zs.length, by simp, Nat.zero_le _, Ext.new hD, upd_same, by simpa using Al.nil⟩, ?_⟩
  rintro i m ys H' ⟨rfl, hi, e, hD', al⟩
  by_cases hlt : i < zs.length
  · have hz : zs[i]? = some zs[i] := List.getElem?_eq_getElem hlt
    obtain ⟨go, y⟩ := hgo i zs[i] H' hz e
    have tk : zs.take (i + 1) = zs.take i ++ [zs[i]] := by rw [List.take_succ, hz]; rfl
    have ln : ys.length < sizeLine := by
      have h1 := al.1
      have h2 := List.length_filter_le c (zs.take i)
      simp only [List.length_take] at h2
      omega
    refine .inr ⟨go, fun ys' H2 => Ext H H2 ∧ H2 D = some (.lst ys') ∧ Al (fun z y => R D z y H2) ((zs.take (i + 1)).filter c) ys', fun ys' H2 p => ⟨zs.length - (i + 1), by omega, rfl, hlt, p⟩, fun x H2 z => ?_⟩
    obtain ⟨e2, p2⟩ := y x H2 z
    refine hs D zs[i] x H2 (kC3 D ys _) _ (List.getElem_mem hlt) hD (e.trans e2) ⟨ys, e2.at hD'⟩ p2 (fun hc y H3 e3 r3 => ?_) fun hc H3 e3 => ?_
    · refine ⟨e3.at (e2.at hD'), ln, (e.trans (e2.trans e3)).put hD, upd_same, ?_⟩
      rw [tk, List.filter_append, show [zs[i]].filter c = [zs[i]] by simp [hc]]
      exact Al.snoc (al.imp fun z y r => hR2 _ _ _ _ _ _ (hR1 _ _ _ _ _ r (e2.trans e3)) (e3.at (e2.at hD'))) (hR2 _ _ _ _ _ _ r3 (e3.at (e2.at hD')))
    · refine ⟨e.trans (e2.trans e3), (e2.trans e3).at hD', ?_⟩
      rw [tk, List.filter_append, show [zs[i]].filter c = [] by simp [hc], List.append_nil]
      exact al.imp fun z y r => hR1 _ _ _ _ _ r (e2.trans e3)
  · have e' : i = zs.length := by omega
    subst e'
    rw [List.take_length] at al
    exact .inl ⟨hst H' e, hd D ys H' hD e hD' al⟩
end
end L2
set_option Elab.async false
set_option linter.all false
set_option maxRecDepth 100000
set_option maxHeartbeats 4000000
namespace L2
open PySem PySem.Spec PyProof.Rows
section
variable {X : Cx}
end
section
variable {g : TG} {σ : St} {Q : VK} {H : Hp} {K : PySem.W.Frag}
end
section
variable {X : Cx} {CX : CXT} {k : Nat} {f C : Addr} {fd : FuncData} {ps : List Str} {sp : Sp} {dvs : List V} {ds : List Value} {E : St → XK} {x m : Str} {p pos apos : Pos} {e o : Expr} {es : List Expr} {ta : TE} {t : TA}
end
end L2
set_option Elab.async false
set_option linter.all false
set_option maxRecDepth 100000
set_option maxHeartbeats 1000000
namespace L2
open PySem PySem.Spec PyProof.Rows
section
variable {X : Cx} {e st : Expr} {te tst : TE} {pos p2 : Pos}
end
end L2
set_option Elab.async false
set_option linter.all false
set_option maxRecDepth 100000
set_option maxHeartbeats 1000000
namespace L2
open PySem PySem.Spec PyProof.Rows
theorem vals_of_get : ∀ {xs : List V} {us : List Value}, us.length = xs.length → (∀ (i : Nat) (x : V) (u : Value), xs[i]? = some x → us[i]? = some u → RelV x u) → Vals xs us
  | [], [], _, _ => .nil
  | [], _ :: _, h, _ => by cases h
  | _ :: _, [], h, _ => by cases h
  | x :: xs, u :: us, h, k => .cons (k 0 x u rfl rfl) (vals_of_get (by simpa using h) fun i y w a b => k (i + 1) y w (by simpa using a) (by simpa using b))
section
variable {X : Cx}
end
end L2
set_option Elab.async false
set_option linter.all false
set_option maxRecDepth 100000
set_option maxHeartbeats 1000000
namespace L2
open PySem PySem.Spec PyProof.Rows
theorem units1 {n : Nat} (h : n + 64 < cLine) : n + 1 < cLine := by omega
def kDG1 (Q : VK) (x : V) : VK := fun y H => ∃ a v, x = .ref a ∧ DGet H a y (some v) ∧ Q v H
def kDG0 (ty : TE) (σ : St) (Q : VK) : VK := fun x H => ty σ H (kDG1 Q x)
theorem m_kDG0 (ty : TE) (σ : St) (Q : VK) (x : V) (H : Hp) : kDG0 ty σ Q x H = ty σ H (kDG1 Q x) := rfl
theorem m_tDGet (td ty : TE) (σ : St) (H : Hp) (Q : VK) : tDGet td ty σ H Q = td σ H (kDG0 ty σ Q) := rfl
theorem use_dg {H : Hp} {a : Addr} {kvs : List (Key × V)} {k : Key} {v : V} {Q : VK} (e : H a = some (.dK kvs)) (h : valV kvs k = some v) (q : Q v H) : kDG1 Q (.ref a) (kV k) H := ⟨a, v, rfl, h ▸ DGet.k e, q⟩
def rInD (neg : Bool) : R2 := fun y x H Q => ∃ a o, x = .ref a ∧ DGet H a y o ∧ Q (.bl (if neg = true then !o.isSome else o.isSome)) H
theorem use_in {neg : Bool} {H : Hp} {a : Addr} {kvs : List (Key × V)} {k : Key} {Q : VK} (e : H a = some (.dK kvs)) (q : Q (.bl (if neg = true then !(valV kvs k).isSome else (valV kvs k).isSome)) H) : rInD neg (kV k) (.ref a) H Q := ⟨a, _, rfl, DGet.k e, q⟩
section
variable {X : Cx}
theorem op_inD (hu : X.A.units + 1 < cLine) : OpR X (compareOp .In) (rInD false) := by
  intro pins s σ H x y v u Q I rx ry h
  obtain ⟨a, o, rfl, g, q⟩ := h
  obtain rfl : u = Value.ref a := ry
  exact d_in hu I g rx fun s3 I3 => ⟨.bl o.isSome, H, I3, rfl, q⟩
theorem op_notInD (hu : X.A.units + 1 < cLine) : OpR X (compareOp .NotIn) (rInD true) := by
  intro pins s σ H x y v u Q I rx ry h
  obtain ⟨a, o, rfl, g, q⟩ := h
  obtain rfl : u = Value.ref a := ry
  exact d_notIn hu I g rx fun s3 I3 => ⟨.bl (!o.isSome), H, I3, rfl, q⟩
end
def kDP2 (nx : St → Hp → Prop) (σ : St) (v x : V) : VK := fun y H => ∃ a H4, x = .ref a ∧ DPut H a y v H4 ∧ nx σ H4
def kDP1 (ty : TE) (nx : St → Hp → Prop) (σ : St) (v : V) : VK := fun x H => ty σ H (kDP2 nx σ v x)
theorem m_kDP1 (ty : TE) (nx : St → Hp → Prop) (σ : St) (v x : V) (H : Hp) : kDP1 ty nx σ v x H = ty σ H (kDP2 nx σ v x) := rfl
def kDP0 (td ty : TE) (nx : St → Hp → Prop) (σ : St) : VK := fun v H => td σ H (kDP1 ty nx σ v)
theorem m_kDP0 (td ty : TE) (nx : St → Hp → Prop) (σ : St) (v : V) (H : Hp) : kDP0 td ty nx σ v H = td σ H (kDP1 ty nx σ v) := rfl
theorem m_sDPut (td ty tv : TE) (nx : St → Hp → Prop) (rt : VK) (bk ct : St → Hp → Prop) (σ : St) (H : Hp) : sDPut td ty tv ⟨nx, rt, bk, ct⟩ σ H = tv σ H (kDP0 td ty nx σ) := rfl
theorem use_dp {H : Hp} {a : Addr} {kvs : List (Key × V)} {k : Key} {v : V} {nx : St → Hp → Prop} {σ : St} (e : H a = some (.dK kvs)) (hl : kvs.length < sizeLine) (q : nx σ (upd H a (.dK (putK kvs k v)))) : kDP2 nx σ v (.ref a) (kV k) H := ⟨a, _, rfl, DPut.k e hl, q⟩
end L2
set_option Elab.async false
set_option linter.all false
set_option maxRecDepth 100000
set_option maxHeartbeats 4000000
namespace L2
open PySem PySem.Spec PyProof.Rows
theorem intsAre_get : ∀ {us : List Value} {ns : List Int}, us.length = ns.length → (∀ (i : Nat) (u : Value), us[i]? = some u → ∃ n t, ns[i]? = some n ∧ u = .int n t) → IntsAre us ns
  | [], [], _, _ => .nil
  | [], _ :: _, h, _ => by cases h
  | _ :: _, [], h, _ => by cases h
  | u :: us, n :: ns, h, k => by
    obtain ⟨m, t, e1, rfl⟩ := k 0 u rfl
    cases e1
    exact .cons n t (intsAre_get (by simpa using h) fun i u e => k (i + 1) u (by simpa using e))
theorem vals_of_ints : ∀ {us : List Value} {ns : List Int}, IntsAre us ns → Vals (ns.map V.int) us
  | _, _, .nil => .nil
  | _, _, .cons n t r => .cons ⟨t, rfl⟩ (vals_of_ints r)
theorem paired_get {α β : Type} {F : α → β → Prop} : ∀ {l₁ : List α} {l₂ : List β}, Paired F l₁ l₂ → ∀ {i : Nat} {a : α}, l₁[i]? = some a → ∃ b, l₂[i]? = some b ∧ F a b
  | _, _, .nil, i, a, h => by simp at h
  | _, _, .cons h₁ t, 0, a, h => by cases h; exact ⟨_, rfl, h₁⟩
  | _, _, .cons h₁ t, i + 1, a, h => paired_get t (i := i) (by simpa using h)
section
variable {X : Cx}
end
end L2
set_option Elab.async false
set_option linter.all false
set_option maxRecDepth 100000
set_option maxHeartbeats 4000000
namespace L2
open PySem PySem.Spec PyProof.Rows
def tV (i : Nat) : TE := fun σ H Q => match σ[i]? with
  | some (some v) => Q v H
  | _ => False
theorem tV_eq (i : Nat) : tVar i = tV i := by
  funext σ H Q
  refine propext ⟨fun ⟨v, e, q⟩ => ?_, fun h => ?_⟩
  · unfold tV; rw [e]; exact q
  · unfold tV at h
    split at h
    · rename_i v e; exact ⟨v, e, h⟩
    · exact h.elim
theorem m_tV_0 {v : V} {σ : St} {H : Hp} {Q : VK} : tV 0 (some v :: σ) H Q = Q v H := rfl
theorem m_tV_1 {a0 : Option V} {v : V} {σ : St} {H : Hp} {Q : VK} : tV 1 (a0 :: some v :: σ) H Q = Q v H := rfl
theorem m_tV_2 {a0 a1 : Option V} {v : V} {σ : St} {H : Hp} {Q : VK} : tV 2 (a0 :: a1 :: some v :: σ) H Q = Q v H := rfl
theorem m_tV_3 {a0 a1 a2 : Option V} {v : V} {σ : St} {H : Hp} {Q : VK} : tV 3 (a0 :: a1 :: a2 :: some v :: σ) H Q = Q v H := rfl
theorem m_tV_4 {a0 a1 a2 a3 : Option V} {v : V} {σ : St} {H : Hp} {Q : VK} : tV 4 (a0 :: a1 :: a2 :: a3 :: some v :: σ) H Q = Q v H := rfl
theorem m_tV_5 {a0 a1 a2 a3 a4 : Option V} {v : V} {σ : St} {H : Hp} {Q : VK} : tV 5 (a0 :: a1 :: a2 :: a3 :: a4 :: some v :: σ) H Q = Q v H := rfl
theorem m_tV_6 {a0 a1 a2 a3 a4 a5 : Option V} {v : V} {σ : St} {H : Hp} {Q : VK} : tV 6 (a0 :: a1 :: a2 :: a3 :: a4 :: a5 :: some v :: σ) H Q = Q v H := rfl
theorem m_tV_7 {a0 a1 a2 a3 a4 a5 a6 : Option V} {v : V} {σ : St} {H : Hp} {Q : VK} : tV 7 (a0 :: a1 :: a2 :: a3 :: a4 :: a5 :: a6 :: some v :: σ) H Q = Q v H := rfl
theorem m_tV_8 {a0 a1 a2 a3 a4 a5 a6 a7 : Option V} {v : V} {σ : St} {H : Hp} {Q : VK} : tV 8 (a0 :: a1 :: a2 :: a3 :: a4 :: a5 :: a6 :: a7 :: some v :: σ) H Q = Q v H := rfl
theorem m_tV_9 {a0 a1 a2 a3 a4 a5 a6 a7 a8 : Option V} {v : V} {σ : St} {H : Hp} {Q : VK} : tV 9 (a0 :: a1 :: a2 :: a3 :: a4 :: a5 :: a6 :: a7 :: a8 :: some v :: σ) H Q = Q v H := rfl
def nI0 (g : Int → Int → V) : R2 := fun x y H Q => match x, y with
  | .int i, .int j => Q (g i j) H
  | _, _ => False
theorem m_nI0 (g : Int → Int → V) (i j : Int) (H : Hp) (Q : VK) : nI0 g (.int i) (.int j) H Q = Q (g i j) H := rfl
theorem nI0_eq (g : Int → Int → V) : rI0 g = nI0 g := by
  funext x y H Q
  refine propext ⟨fun ⟨i, j, e, e', q⟩ => by subst e e'; exact q, fun h => ?_⟩
  unfold nI0 at h
  split at h
  · exact ⟨_, _, rfl, rfl, h⟩
  · exact h.elim
def nI (C : Int → Int → Prop) (g : Int → Int → V) : R2 := fun x y H Q => match x, y with
  | .int i, .int j => C i j ∧ Q (g i j) H
  | _, _ => False
theorem m_nI (C : Int → Int → Prop) (g : Int → Int → V) (i j : Int) (H : Hp) (Q : VK) : nI C g (.int i) (.int j) H Q = (C i j ∧ Q (g i j) H) := rfl
theorem nI_eq (C : Int → Int → Prop) (g : Int → Int → V) : rI C g = nI C g := by
  funext x y H Q
  refine propext ⟨fun ⟨i, j, e, e', q⟩ => by subst e e'; exact q, fun h => ?_⟩
  unfold nI at h
  split at h
  · exact ⟨_, _, rfl, rfl, h⟩
  · exact h.elim
def nU (g : Int → V) : V → Hp → VK → Prop := fun x H Q => match x with
  | .int i => Q (g i) H
  | _ => False
theorem m_nU (g : Int → V) (i : Int) (H : Hp) (Q : VK) : nU g (.int i) H Q = Q (g i) H := rfl
theorem nU_eq (g : Int → V) : rU g = nU g := by
  funext x H Q
  refine propext ⟨fun ⟨i, e, q⟩ => by subst e; exact q, fun h => ?_⟩
  unfold nU at h
  split at h
  · exact ⟨_, rfl, h⟩
  · exact h.elim
def kTestN (Q : Bool → Hp → Prop) : VK := fun x H => match x with
  | .bl k => Q k H
  | _ => False
theorem m_kTestN (Q : Bool → Hp → Prop) (k : Bool) (H : Hp) : kTestN Q (.bl k) H = Q k H := rfl
theorem kTest_eq (Q : Bool → Hp → Prop) : kTest Q = kTestN Q := by
  funext x H
  refine propext ⟨fun ⟨k, e, q⟩ => by subst e; exact q, fun h => ?_⟩
  unfold kTestN at h
  split at h
  · exact ⟨_, rfl, h⟩
  · exact h.elim
def nTest (t : TE) : TT := fun σ H Q => t σ H (kTestN Q)
theorem m_nTest (t : TE) (σ : St) (H : Hp) (Q : Bool → Hp → Prop) : nTest t σ H Q = t σ H (kTestN Q) := rfl
theorem nTest_eq (t : TE) : tTest t = nTest t := by
  funext σ H Q
  show t σ H (kTest Q) = t σ H (kTestN Q)
  rw [kTest_eq]
theorem nTest_eqB (t : TE) : tB t = nTest t := nTest_eq t
def kAndN (tb : TE) (σ : St) (Q : VK) : VK := fun x H => match x with
  | .bl c => if c = true then tb σ H Q else Q (.bl false) H
  | _ => False
theorem m_kAndN (tb : TE) (σ : St) (Q : VK) (c : Bool) (H : Hp) : kAndN tb σ Q (.bl c) H = (if c = true then tb σ H Q else Q (.bl false) H) := rfl
def nAndV (ta tb : TE) : TE := fun σ H Q => ta σ H (kAndN tb σ Q)
theorem m_nAndV (ta tb : TE) (σ : St) (H : Hp) (Q : VK) : nAndV ta tb σ H Q = ta σ H (kAndN tb σ Q) := rfl
theorem nAndV_eq (ta tb : TE) : tAndV ta tb = nAndV ta tb := by
  funext σ H Q
  show ta σ H (kAndV tb σ Q) = ta σ H (kAndN tb σ Q)
  congr 1
  funext x H
  refine propext ⟨fun ⟨k, e, q⟩ => by subst e; exact q, fun h => ?_⟩
  unfold kAndN at h
  split at h
  · exact ⟨_, rfl, h⟩
  · exact h.elim
def kNotN (Q : VK) : VK := fun x H => match x with
  | .bl c => Q (.bl (!c)) H
  | _ => False
theorem m_kNotN (Q : VK) (c : Bool) (H : Hp) : kNotN Q (.bl c) H = Q (.bl (!c)) H := rfl
def nNotV (ta : TE) : TE := fun σ H Q => ta σ H (kNotN Q)
theorem m_nNotV (ta : TE) (σ : St) (H : Hp) (Q : VK) : nNotV ta σ H Q = ta σ H (kNotN Q) := rfl
theorem nNotV_eq (ta : TE) : tNotV ta = nNotV ta := by
  funext σ H Q
  show ta σ H (kNotV Q) = ta σ H (kNotN Q)
  congr 1
  funext x H
  refine propext ⟨fun ⟨k, e, q⟩ => by subst e; exact q, fun h => ?_⟩
  unfold kNotN at h
  split at h
  · exact ⟨_, rfl, h⟩
  · exact h.elim
def gNilN : TGs := fun vs σ H Q => match vs with
  | [] => Q σ H
  | _ => False
theorem m_gNilN (σ : St) (H : Hp) (Q : St → Hp → Prop) : gNilN [] σ H Q = Q σ H := rfl
theorem gNil_eq : gNil = gNilN := by
  funext vs σ H Q
  refine propext ⟨fun ⟨e, q⟩ => by subst e; exact q, fun h => ?_⟩
  unfold gNilN at h
  split at h
  · exact ⟨rfl, h⟩
  · exact h.elim
def gConsN (t : TG) (u : TGs) : TGs := fun vs σ H Q => match vs with
  | v :: r => t v σ H (kGs u r Q)
  | _ => False
theorem m_gConsN (t : TG) (u : TGs) (v : V) (r : List V) (σ : St) (H : Hp) (Q : St → Hp → Prop) : gConsN t u (v :: r) σ H Q = t v σ H (kGs u r Q) := rfl
theorem gCons_eq (t : TG) (u : TGs) : gCons t u = gConsN t u := by
  funext vs σ H Q
  refine propext ⟨fun ⟨v, r, e, q⟩ => by subst e; exact q, fun h => ?_⟩
  unfold gConsN at h
  split at h
  · exact ⟨_, _, rfl, h⟩
  · exact h.elim
theorem spx1 {α0 : Type} {f : α0 → List V} {B : α0 → Prop} (inj : ∀ a a', f a = f a' → a = a') (a : α0) : (∃ a', f a = f a' ∧ B a') = B a := propext ⟨fun ⟨a', e, q⟩ => by obtain rfl := inj _ _ e; exact q, fun q => ⟨a, rfl, q⟩⟩
theorem spl1 {α0 : Type} {f : α0 → List V} {B : α0 → Prop} {vs : List V} {n : Nat} (h : ∃ a, vs = f a ∧ B a) (l : ∀ a, (f a).length = n) : vs.length = n := by
  obtain ⟨_, rfl, _⟩ := h
  exact l _
theorem spx2 {α0 α1 : Type} {f : α0 → α1 → List V} {B : α0 → α1 → Prop} (inj : ∀ a b a' b', f a b = f a' b' → a = a' ∧ b = b') (a : α0) (b : α1) : (∃ a' b', f a b = f a' b' ∧ B a' b') = B a b := propext ⟨fun ⟨a', b', e, q⟩ => by obtain ⟨rfl, rfl⟩ := inj _ _ _ _ e; exact q, fun q => ⟨a, b, rfl, q⟩⟩
theorem spl2 {α0 α1 : Type} {f : α0 → α1 → List V} {B : α0 → α1 → Prop} {vs : List V} {n : Nat} (h : ∃ a b, vs = f a b ∧ B a b) (l : ∀ a b, (f a b).length = n) : vs.length = n := by
  obtain ⟨_, _, rfl, _⟩ := h
  exact l _ _
theorem spx3 {α0 α1 α2 : Type} {f : α0 → α1 → α2 → List V} {B : α0 → α1 → α2 → Prop} (inj : ∀ a b c a' b' c', f a b c = f a' b' c' → a = a' ∧ b = b' ∧ c = c') (a : α0) (b : α1) (c : α2) : (∃ a' b' c', f a b c = f a' b' c' ∧ B a' b' c') = B a b c := propext ⟨fun ⟨a', b', c', e, q⟩ => by obtain ⟨rfl, rfl, rfl⟩ := inj _ _ _ _ _ _ e; exact q, fun q => ⟨a, b, c, rfl, q⟩⟩
theorem spl3 {α0 α1 α2 : Type} {f : α0 → α1 → α2 → List V} {B : α0 → α1 → α2 → Prop} {vs : List V} {n : Nat} (h : ∃ a b c, vs = f a b c ∧ B a b c) (l : ∀ a b c, (f a b c).length = n) : vs.length = n := by
  obtain ⟨_, _, _, rfl, _⟩ := h
  exact l _ _ _
theorem len0 {P : List Value → Prop} (h : P []) : ∀ us : List Value, us.length = 0 → P us := fun us e => by
  cases us with
  | nil => exact h
  | cons a r => cases e
theorem len1 {P : List Value → Prop} (h : ∀ a, P [a]) : ∀ us : List Value, us.length = 1 → P us := fun us e => by
  cases us with
  | nil => cases e
  | cons x r => exact len0 (P := fun r => P (x :: r)) (h x) r (Nat.succ.inj e)
theorem len2 {P : List Value → Prop} (h : ∀ a b, P [a, b]) : ∀ us : List Value, us.length = 2 → P us := fun us e => by
  cases us with
  | nil => cases e
  | cons x r => exact len1 (P := fun r => P (x :: r)) (h x) r (Nat.succ.inj e)
theorem len3 {P : List Value → Prop} (h : ∀ a b c, P [a, b, c]) : ∀ us : List Value, us.length = 3 → P us := fun us e => by
  cases us with
  | nil => cases e
  | cons x r => exact len2 (P := fun r => P (x :: r)) (h x) r (Nat.succ.inj e)
section
variable {X : Cx}
theorem pvN (i : Nat) {x : Str} {pos : Pos} (hN : X.N[i]? = some x := by rfl) (hv : Vis X.env.scope x := by first | exact Or.inl rfl | exact Or.inr (Or.inl rfl) | exact Or.inr (Or.inr rfl)) (hd : (x == ("__debug__" : Str)) = false := by decide)
    (hcd : (x == ("__classdict__" : Str)) = false := by decide) : PE X (.Name x pos) (tV i) := by rw [← tV_eq]; exact pv i hN hv hd hcd
theorem on_add : OpR X (binaryOp .Add) (nI0 fun i j => .int (i + j)) := by rw [← nI0_eq]; exact op_add
theorem on_sub : OpR X (binaryOp .Sub) (nI0 fun i j => .int (i - j)) := by rw [← nI0_eq]; exact op_sub
theorem on_lt : OpR X (compareOp .Lt) (nI0 fun i j => .bl (decide (i < j))) := by rw [← nI0_eq]; exact op_lt
theorem on_le : OpR X (compareOp .LtE) (nI0 fun i j => .bl (decide (i ≤ j))) := by rw [← nI0_eq]; exact op_le
theorem on_gt : OpR X (compareOp .Gt) (nI0 fun i j => .bl (decide (j < i))) := by rw [← nI0_eq]; exact op_gt
theorem on_mul : OpR X (binaryOp .Mult) (nI CMul fun i j => .int (i * j)) := by rw [← nI_eq]; exact op_mul
theorem on_fdiv : OpR X (binaryOp .FloorDiv) (nI CDiv fun i j => .int (i / j)) := by rw [← nI_eq]; exact op_fdiv
theorem on_mod : OpR X (binaryOp .Mod) (nI (fun _ j => 0 < j) fun i j => .int (i % j)) := by rw [← nI_eq]; exact op_mod
theorem on_pow : OpR X (binaryOp .Pow) (nI CPow fun i j => .int (i ^ j.toNat)) := by rw [← nI_eq]; exact op_pow
theorem un_negN : UnR X (unaryOp .USub) (nU fun i => .int (-i)) := by rw [← nU_eq]; exact un_neg
variable {a b c d e : Expr} {ta tb tc td t : TE} {pos : Pos}
theorem pt_cmpRN {op : CmpOp} {r : R2} (ho : OpR X (compareOp op) r) (ha : PE X a ta) (hb : PE X b tb) (hm : behindInMarks op b = false) : PT X (.Compare a [op] [b] pos) (nTest (tOp r ta tb)) := by rw [← nTest_eq]; exact pt_cmpR ho ha hb hm
theorem pt_valN (h : PE X e t) (he : ∀ whole, isTrue e X.env whole = (do let v ← whole; standAt e.pos; holding [v] (truthy v)) := by intro _; rfl) : PT X e (nTest t) := by rw [← nTest_eqB]; exact pt_val h he
variable {rest : List Expr}
theorem pe_andN (ha : PE X a ta) (hb : PE X (.BoolOp .And (b :: rest) pos) tb) : PE X (.BoolOp .And (a :: b :: rest) pos) (nAndV ta tb) := by rw [← nAndV_eq]; exact pe_and ha hb
theorem pe_notN (ha : PE X a ta) : PE X (.UnaryOp .Not a pos) (nNotV ta) := by rw [← nNotV_eq]; exact pe_not ha
theorem pgs_nilN : PGs X [] gNilN := by rw [← gNil_eq]; exact pgs_nil
theorem pgs_consN {e : Expr} {es : List Expr} {t : TG} {u : TGs} (h1 : PG X e t) (h2 : PGs X es u)
    (hs : (assignEach (e :: es) X.env).map (·.2) = assign e X.env :: (assignEach es X.env).map (·.2) := by rfl) : PGs X (e :: es) (gConsN t u) := by rw [← gCons_eq]; exact pgs_cons h1 h2 hs
end
theorem if_gen {c : TT} {t u : TS} {nx : St → Hp → Prop} {rt : VK} {bk ct : St → Hp → Prop} {σ : St} {H : Hp} (R : St → Hp → Prop) (h : ∀ nx' : St → Hp → Prop, (∀ σ' H', R σ' H' → nx' σ' H') → tIfS c t u ⟨nx', rt, bk, ct⟩ σ H) (k : ∀ σ' H', R σ' H' → nx σ' H') : tIfS c t u ⟨nx, rt, bk, ct⟩ σ H := h nx k
theorem mo_tV {i : Nat} : ME (tV i) := by rw [← tV_eq]; exact mo_var
theorem mo_nI0 {g : Int → Int → V} : MR (nI0 g) := by rw [← nI0_eq]; exact mo_rI0
theorem mo_nTest {t : TE} (h : ME t) : MT (nTest t) := by rw [← nTest_eq]; exact mo_test h
theorem mo_unN {g : Int → V} {a : TE} (ha : ME a) : ME (tUn (nU g) a) := by rw [← nU_eq]; exact mo_un ha
end L2
set_option Elab.async false
set_option linter.all false
set_option maxRecDepth 100000
set_option maxHeartbeats 4000000
namespace L2
open PySem PySem.Spec PyProof.Rows
end L2
set_option Elab.async false
set_option linter.all false
set_option maxRecDepth 100000
set_option maxHeartbeats 4000000
namespace L2
open PySem PySem.Spec PyProof.Rows
def kInI (neg : Bool) (x : V) (H : Hp) (Q : VK) : List V → Prop := fun xs => flatV x = true ∧ xs.all flatV = true ∧ Q (.bl (if neg = true then !inV x xs else inV x xs)) H
theorem m_kInI (neg : Bool) (x : V) (H : Hp) (Q : VK) (xs : List V) : kInI neg x H Q xs = (flatV x = true ∧ xs.all flatV = true ∧ Q (.bl (if neg = true then !inV x xs else inV x xs)) H) := rfl
def nIn (neg : Bool) : R2 := fun x y H Q => match y with
  | .ref p => optK (itemsAt H p) (kInI neg x H Q)
  | _ => False
theorem m_nIn (neg : Bool) (x : V) (p : Addr) (H : Hp) (Q : VK) : nIn neg x (.ref p) H Q = optK (itemsAt H p) (kInI neg x H Q) := rfl
theorem rIn_of {K : PySem.W.Frag} {neg : Bool} {x y : V} {H : Hp} {Q : VK} (h : nIn neg x y H Q) : rIn K neg x y H Q := by
  unfold nIn at h
  split at h
  · rename_i p
    obtain ⟨xs, e, h1, h2, q⟩ := optK_ex h
    exact ⟨p, xs, rfl, items_seq e, h1, h2, q⟩
  · exact h.elim
theorem op_nIn {X : Cx} : OpR X (compareOp .In) (nIn false) := op_in_seq.mono fun x y H Q h => rIn_of h
theorem op_nNotIn {X : Cx} : OpR X (compareOp .NotIn) (nIn true) := op_notIn_seq.mono fun x y H Q h => rIn_of h
theorem cut_some (xs : List V) (z : Int) (h : 0 ≤ z) : cutV xs (some z) none = xs.drop z.toNat := by
  unfold cutV
  obtain ⟨n, rfl⟩ := Int.eq_ofNat_of_zero_le h
  rw [HT.sIx_none, HT.sIx_nat]
  show _ = xs.drop n
  rcases Nat.le_total n xs.length with q | q
  · rw [Nat.min_eq_left q]
    exact List.take_of_length_le (by rw [List.length_drop]; omega)
  · rw [Nat.min_eq_right q, List.drop_of_length_le (Nat.le_refl _), List.drop_of_length_le q, List.take_nil]
section
variable {X : Cx}
end
end L2
set_option Elab.async false
set_option linter.all false
set_option maxRecDepth 100000
set_option maxHeartbeats 4000000
namespace L2
open PySem PySem.Spec PyProof.Rows
section
variable {prog : Program} {w : World} {A : Around} {E : Value → Shared → Prop} {s : Shared}
end
section
variable {X : Cx}
end
end L2
set_option Elab.async false
set_option linter.all false
set_option maxRecDepth 100000
set_option maxHeartbeats 4000000
namespace L2
open PySem PySem.Spec PyProof.Rows
def nNeD : R2 := fun x y H Q => ∃ a b kvs, x = .ref a ∧ y = .ref b ∧ H a = some (.dK kvs) ∧ H b = some (.dK kvs) ∧ (∀ p ∈ kvs, ∃ i : Int, p.2 = V.int i) ∧ (kvs.map (·.1)).Nodup ∧ Q (.bl false) H
theorem use_neD {a b : Addr} {kvs : List (Key × V)} {H : Hp} {Q : VK} (ha : H a = some (.dK kvs)) (hb : H b = some (.dK kvs)) (hi : ∀ p ∈ kvs, ∃ i : Int, p.2 = V.int i) (hn : (kvs.map (·.1)).Nodup) (q : Q (.bl false) H) : kOp' nNeD (.ref a) Q (.ref b) H := ⟨a, b, kvs, rfl, rfl, ha, hb, hi, hn, q⟩
theorem valueAt_get : ∀ {xs : List (Key × Value)}, (xs.map (·.1)).Nodup → ∀ {i : Nat} {k : Key} {v : Value}, xs[i]? = some (k, v) → valueAt xs k = some v
  | [], _, i, k, v, h => by simp at h
  | (k0, v0) :: r, hn, i, k, v, h => by
    rw [List.map_cons, List.nodup_cons] at hn
    unfold valueAt
    cases i with
    | zero =>
      cases h
      rw [List.find?_cons, decide_eq_true rfl]
      rfl
    | succ i =>
      have h' : r[i]? = some (k, v) := by simpa using h
      have hne : ¬ k0 = k := fun e => hn.1 (by rw [e]; exact List.mem_map.mpr ⟨_, List.mem_of_getElem? h', rfl⟩)
      rw [List.find?_cons, decide_eq_false hne]
      exact valueAt_get hn.2 h'
theorem kv_keys : ∀ {kvs : List (Key × V)} {xs : List (Key × Value)}, KV kvs xs → xs.map (·.1) = kvs.map (·.1)
  | _, _, .nil => rfl
  | _, _, .cons h t => by rw [List.map_cons, List.map_cons, kv_keys t]; exact congrArg (· :: _) h.1.symm
theorem kv_get : ∀ {kvs : List (Key × V)} {xs : List (Key × Value)}, KV kvs xs → ∀ {i : Nat} {q : Key × Value}, xs[i]? = some q → ∃ p, kvs[i]? = some p ∧ p.1 = q.1 ∧ RelV p.2 q.2
  | _, _, .nil, i, q, h => by simp at h
  | p :: _, _ :: _, .cons h t, 0, q, hq => by cases hq; exact ⟨p, rfl, h⟩
  | p :: _, _ :: _, .cons h t, i + 1, q, hq => kv_get t (i := i) (by simpa using hq)
theorem kv_get' : ∀ {kvs : List (Key × V)} {xs : List (Key × Value)}, KV kvs xs → ∀ {i : Nat} {p : Key × V}, kvs[i]? = some p → ∃ q, xs[i]? = some q ∧ p.1 = q.1 ∧ RelV p.2 q.2
  | _, _, .nil, i, q, h => by simp at h
  | _ :: _, q :: _, .cons h t, 0, p, hq => by cases hq; exact ⟨q, rfl, h⟩
  | _ :: _, _ :: _, .cons h t, i + 1, p, hq => kv_get' t (i := i) (by simpa using hq)
theorem hits_of {A : Around} {s : Shared} {kvs : List (Key × V)} {xs : List (Key × Value)} (hx : KV kvs xs) (hn : (kvs.map (·.1)).Nodup) (hi : ∀ p ∈ kvs, ∃ i : Int, p.2 = V.int i) : ∀ (ys : List (Key × Value)) (n : Nat), (∀ (i : Nat) (q : Key × Value), ys[i]? = some q → ∃ p, kvs[n + i]? = some p ∧ p.1 = q.1 ∧ RelV p.2 q.2) → PySem.W.KeqHits A s xs ys true
  | [], _, _ => .nil
  | (k, v) :: ys, n, h => by
    obtain ⟨p, hp, hk, hr⟩ := h 0 (k, v) rfl
    obtain ⟨i, e⟩ := hi p (List.mem_of_getElem? hp)
    obtain ⟨⟨k', v'⟩, hq, hk', hr'⟩ := kv_get' hx hp
    rw [e] at hr hr'
    obtain ⟨t, rfl⟩ := hr
    obtain ⟨t', rfl⟩ := hr'
    have ek : k' = k := hk'.symm.trans hk
    subst ek
    have hva := valueAt_get (by rw [kv_keys hx]; exact hn) hq
    have rest := hits_of (A := A) (s := s) hx hn hi ys (n + 1) fun j q hj => by
      have := h (j + 1) q (by simpa using hj)
      rw [show n + 1 + j = n + (j + 1) by omega]
      exact this
    have := PySem.W.KeqHits.hit hva (PySem.SeqAt.EqAt.int_int (A := A) (s := s) i t i t') rest
    rwa [show ((i == i) && true) = true by simp] at this
theorem op_nNeD {X : Cx} (hu : X.A.units + 1 < cLine) : OpR X (compareOp .NotEq) nNeD := by
  intro pins s σ H x y v u Q I rx ry h
  obtain ⟨a, b, kvs, rfl, rfl, ha, hb, hi, hn, q⟩ := h
  cases rx
  cases ry
  obtain ⟨_, za, xs, kx, dx⟩ := dk_of I.hok ha
  obtain ⟨_, zb, ys, ky, dy⟩ := dk_of I.hok hb
  have lx : xs.length = kvs.length := (Paired.length kx).symm
  have ly : ys.length = kvs.length := (Paired.length ky).symm
  refine PySem.W.keq_ne (r := true) za zb dx dy (by omega) (fun _ => hits_of ky hn hi xs 0 fun i q hq => by rw [Nat.zero_add]; exact kv_get kx hq) ?_
  have e : (xs.length == ys.length && true) = true := by rw [lx, ly]; simp
  rw [e]
  exact ⟨.bl false, H, I, rfl, q⟩
end L2
set_option Elab.async false
set_option linter.all false
set_option maxRecDepth 100000
set_option maxHeartbeats 4000000
namespace L2
open PySem PySem.Spec PyProof.Rows
def Itd (a : Addr) (ob : Obj) (kvs : List (Key × V)) : It :=
  ⟨fun i H => H a = some (.frz ob (.dK kvs)) ∧ i < kvs.length, fun i H x H' => H' = H ∧ ∃ p, kvs[i]? = some p ∧ x = kV p.1, fun i H => H a = some (.frz ob (.dK kvs)) ∧ kvs.length ≤ i⟩
theorem relV_key : ∀ {k : Key} {u : Value}, keyIs k u = true → RelV (kV k) u
  | .inl i, u, h => by
    rcases keyIs_shape h with ⟨j, t, e1, e2⟩ | ⟨j, t, e1, e2⟩
    · cases e1; exact ⟨t, e2⟩
    · cases e1
  | .inr x, u, h => by
    rcases keyIs_shape h with ⟨j, t, e1, e2⟩ | ⟨j, t, e1, e2⟩
    · cases e1
    · cases e1; exact ⟨t, e2⟩
def DObj (P : Program) (w : World) (ob : Obj) (vs : List (Key × Value)) (ep : Nat) : Prop := ∀ (h : Heap) (a : Addr), h.get? a = some ob → h.DictAt (mixKind P w) a vs ep
theorem turn_dict {P : Program} {w : World} {K : PySem.W.Frag} {tg : Expr} (a it : Addr) (ob : Obj) (kvs : List (Key × V)) (vs : List (Key × Value)) (ep : Nat) (kx : KV kvs vs) (dx : DObj P w ob vs ep) : Turn P w K tg (Itd a ob kvs) [it] it (fun i h => h.IsKeyIter it a i vs.length ep) where
  mem := by simp
  obj := fun i h st b hb => by
    have e : b = it := by simpa using hb
    subst e
    obtain ⟨o, e, c, d⟩ := st
    exact ⟨o, e, fun v z => by rw [d] at z; cases z⟩
  keep := fun i h h' st k => st.at fun o e => k it (by simp) o e
  item := by
    intro X hP hw hK hc i pins s σ H E I hf st hg
    subst hP hw hK
    obtain ⟨ha, hi⟩ := hg
    have hob := (show ObjOk X.prog X.w H s.heap a (.frz ob (.dK kvs)) from I.hok a _ ha).1
    have hlen : kvs.length = vs.length := Paired.length kx
    obtain ⟨q, hq, hk, hr⟩ := kv_get' kx (List.getElem?_eq_getElem hi)
    obtain ⟨f0, f1, f2, f3, f4, f5⟩ := hf it (by simp)
    refine wpAny_pyNext_dict_item st (dx _ a hob) hq fun key h' hkey st' hs' => ?_
    have I1 : Inv X pins σ H { s with heap := h' } := I.turned (t' := s.toks) (fun b o hb e => hs'.extBut b o hb e) f0 f1 f3 f4 f5
    obtain ⟨o, e, c, d⟩ := id st'
    refine ⟨key, rfl, go_of (s := { s with heap := h' }) e c d (by decide) ⟨kV kvs[i].1, H, I1, ?_, ⟨rfl, kvs[i], List.getElem?_eq_getElem hi, rfl⟩, st', fun b hb => (hf b hb).1⟩⟩
    rw [hk]
    exact relV_key hkey
  done := by
    intro X hP hw hK hc i pins s σ H E I hf st hg
    subst hP hw hK
    obtain ⟨ha, hi⟩ := hg
    have hob := (show ObjOk X.prog X.w H s.heap a (.frz ob (.dK kvs)) from I.hok a _ ha).1
    have hlen : kvs.length = vs.length := Paired.length kx
    obtain ⟨f0, f1, f2, f3, f4, f5⟩ := hf it (by simp)
    exact wpAny_pyNext_dict_end (I.ok.hd hc) st (dx _ a hob) (by simp; omega) fun h' eb => ⟨rfl, I.turned (t' := s.toks) (fun b o hb e => eb b o hb e) f0 f1 f3 f4 f5⟩
  self := fun _ _ _ _ _ st h => wpAny_pyIter_keyiter st h
def kIDc (R : It → Hp → Prop) : VK := fun x H1 => ∃ a kvs, x = .ref a ∧ H1 a = some (.dK kvs) ∧ ∀ ob, R (Itd a ob kvs) (upd H1 a (.frz ob (.dK kvs)))
def iDict (tl : TE) : TI := fun σ H R => tl σ H (kIDc R)
theorem m_iDict (tl : TE) (σ : St) (H : Hp) (R : It → Hp → Prop) : iDict tl σ H R = tl σ H (kIDc R) := rfl
theorem pi_dict {X : Cx} {tg l : Expr} {tl : TE} (hl : PE X l tl) : PI X tg l (iDict tl) := by
  intro pins s σ H R I h
  refine thn (hl pins s σ H _ I h) fun v s1 ⟨x, H1, I1, r1, q1⟩ => ?_
  obtain ⟨a, kvs, e, ha, q⟩ := q1
  subst e
  cases r1
  have hO : ObjOk X.prog X.w H1 s1.heap a (.dK kvs) := I1.hok a _ ha
  obtain ⟨z0, lo, vs, kx, dd⟩ := id hO
  obtain ⟨ep, hat⟩ := dd.dictAt
  obtain ⟨ob, es, ho, rest⟩ := id hat
  have dx : DObj X.prog X.w ob vs ep := fun h b hb => ⟨ob, es, hb, rest⟩
  have hO' : ObjOk X.prog X.w (upd H1 a (.frz ob (.dK kvs))) s1.heap a (.frz ob (.dK kvs)) := ⟨ho, ⟨z0, lo, vs, kx, dd⟩⟩
  have I2 := I1.write (t' := s1.toks) (x := a) (e := a) (o := .frz ob (.dK kvs)) (h' := s1.heap) (by rw [ha]; trivial) (.inl rfl) (fun b u _ e => e) ⟨ob, ho⟩ hO'
  refine wpAny_pyIter_dict lo hat ?_
  refine ⟨s1.heap.objs.size, [s1.heap.objs.size], _, _, _, rfl, I2.kept (t' := s1.toks) fun b o e => Heap.get?_push_of_some _ e, turn_dict a _ ob kvs vs ep kx dx, ⟨_, Heap.get?_push_size _ rfl, rfl, rfl⟩, fun b hb => ?_, q ob⟩
  have e : b = s1.heap.objs.size := by simpa using hb
  subst e
  exact I2.fpOk (Nat.le_refl _) (I2.hok.fresh (Nat.le_refl _))
theorem Inv.thaw {X : Cx} {pins : List (Addr × Obj)} {σ : St} {H : Hp} {s : Shared} {a : Addr} {ob : Obj} {kvs : List (Key × V)} (I : Inv X pins σ H s) (ha : H a = some (.frz ob (.dK kvs))) (hn : ∀ o u, X.H₀ a ≠ some (.frz o u)) : Inv X pins σ (upd H a (.dK kvs)) s := by
  have ne : ∀ b, H b = none → b ≠ a := fun b e z => by rw [z, ha] at e; cases e
  have keepN : ∀ b, H b = none → upd H a (.dK kvs) b = none := fun b e => by rw [upd_ne (ne b e)]; exact e
  refine ⟨I.ok, I.os, I.bare, ⟨I.base.keep, I.base.slot, fun b o e n hx => keepN b (I.base.free b o e n hx), I.base.there, fun b xs e => ?_, fun b o u e => ?_, fun b ps e => ?_⟩, I.loc, I.cell, keepN _ I.free, fun x c e => keepN _ (I.freeC x c e), fun p hp => ?_, fun b u e => ?_, I.len⟩
  · have h := I.base.tups b xs e
    rw [upd_ne (fun z => by rw [z, ha] at h; cases h)]; exact h
  · have h := I.base.frzs b o u e
    rw [upd_ne (fun z => hn o u (by rw [← z]; exact e))]; exact h
  · obtain ⟨m, h⟩ := I.base.tbls b ps e
    exact ⟨m, by rw [upd_ne (fun z => by rw [z, ha] at h; cases h)]; exact h⟩
  · obtain ⟨h1, h2, h3⟩ := I.pin p hp
    exact ⟨h1, keepN _ h2, h3⟩
  · have stay : ∀ (c : Addr) (v : HO), ObjOk X.prog X.w H s.heap c v → ObjOk X.prog X.w (upd H a (.dK kvs)) s.heap c v := fun c v x => x.stay (fun _ _ _ q => q) (fun d q => by rw [upd_ne (fun z => by rw [z, ha] at q; cases q)]; exact q) fun d xs q => by rw [upd_ne (fun z => by rw [z, ha] at q; cases q)]; exact q
    by_cases hb : b = a
    · subst hb
      rw [upd_same] at e
      cases e
      exact stay _ _ (show ObjOk X.prog X.w H s.heap b (.frz ob (.dK kvs)) from I.hok b _ ha).2
    · rw [upd_ne hb] at e
      exact stay b u (I.hok b u e)
def kThaw (H : Hp) (Q : VK) : VK := fun v H' => ∃ a ob kvs kvs0, H a = some (.dK kvs0) ∧ H' a = some (.frz ob (.dK kvs)) ∧ Q v (upd H' a (.dK kvs))
def nThaw (t : TE) : TE := fun σ H Q => t σ H (kThaw H Q)
theorem m_nThaw (t : TE) (σ : St) (H : Hp) (Q : VK) : nThaw t σ H Q = t σ H (kThaw H Q) := rfl
theorem pe_thaw {X : Cx} {e : Expr} {t : TE} (h : PE X e t) : PE X e (nThaw t) := by
  intro pins s σ H Q I hh
  refine thn (h pins s σ H _ I hh) fun u s1 ⟨v, H1, I1, r1, a, ob, kvs, kvs0, h0, hf, q⟩ => ?_
  exact ⟨v, _, I1.thaw hf fun o w z => (by have := I.base.frzs a o w z; rw [h0] at this; cases this), r1, q⟩
theorem Ext.thaw {H H1 : Hp} {a : Addr} {ob : Obj} {kvs : List (Key × V)} (ha : H a = some (.dK kvs)) (e : Ext (upd H a (.frz ob (.dK kvs))) H1) : Ext H (upd H1 a (.dK kvs)) := by
  have h1 : ∀ b, (H b).isSome = true → upd H1 a (.dK kvs) b = H b := fun b hb => by
    by_cases hba : b = a
    · rw [hba, upd_same, ha]
    · rw [upd_ne hba, e.1 b (by rw [upd_ne hba]; exact hb), upd_ne hba]
  refine ⟨h1, fun K b xs h => ?_⟩
  rcases h with (h | ⟨o, h⟩) | h
  · exact .inl (.inl (by rw [h1 b (by rw [h]; rfl)]; exact h))
  · exact .inl (.inr ⟨o, by rw [h1 b (by rw [h]; rfl)]; exact h⟩)
  · exact .inr h
section
variable {k : Nat} {g : TG} {tt : TT} {te : TE} {σ : St} {Q : VK} {H : Hp}
theorem use_cd {a : Addr} {kvs : List (Key × V)} (c : Key × V → Bool) (f : Key × V → V) (ha : H a = some (.dK kvs)) (hl : kvs.length ≤ sizeLine)
    (hs : ∀ D ob z H' N1 N0, z ∈ kvs → H D = none → Ext (upd H a (.frz ob (.dK kvs))) H' → H' a = some (.frz ob (.dK kvs)) → (c z = true → ∀ H'', Ext H' H'' → N1 (f z) H'') → (c z = false → ∀ H'', Ext H' H'' → N0 H'') → g (kV z.1) (List.replicate k none ++ σ) H' (kCm k tt te σ N1 N0))
    (hd : ∀ D H', H D = none → Ext H H' → H' D = some (.lst ((kvs.filter c).map f)) → Q (.ref D) H') : kIDc (kComp k g tt te σ (kThaw H Q)) (.ref a) H := by
  refine ⟨a, kvs, rfl, ha, fun ob => ?_⟩
  have hfr : upd H a (.frz ob (.dK kvs)) a = some (.frz ob (.dK kvs)) := upd_same
  refine comp_fm kvs c f (fun z x H' => x = kV z.1 ∧ H' a = some (.frz ob (.dK kvs))) (fun i z H' hz e => ?_) (fun H' e => ?_) hl (fun D z x H' N1 N0 hz hD e p k1 k0 => ?_) fun D H' hD e hD' => ?_
  · have h1 : H' a = some (.frz ob (.dK kvs)) := by rw [e.1 a (by rw [hfr]; rfl)]; exact hfr
    refine ⟨⟨h1, (List.getElem?_eq_some_iff.mp hz).1⟩, fun x H'' ⟨e1, p, hp, ex⟩ => ?_⟩
    rw [hz] at hp
    cases hp
    subst e1
    exact ⟨Ext.refl _, ex, h1⟩
  · exact ⟨by rw [e.1 a (by rw [hfr]; rfl)]; exact hfr, Nat.le_refl _⟩
  · obtain ⟨rfl, hp⟩ := p
    exact hs D ob z H' N1 N0 hz (by rwa [upd_ne (fun z => by rw [z, hfr] at hD; cases hD)] at hD) e hp k1 k0
  · have hDa : D ≠ a := fun z => by rw [z, hfr] at hD; cases hD
    refine ⟨a, ob, kvs, kvs, ha, by rw [e.1 a (by rw [hfr]; rfl)]; exact hfr, hd D _ (by rwa [upd_ne hDa] at hD) (Ext.thaw ha e) (by rw [upd_ne hDa]; exact hD')⟩
end
theorem use_dgF {H : Hp} {a : Addr} {ob : Obj} {kvs : List (Key × V)} {k : Key} {v : V} {Q : VK} (e : H a = some (.frz ob (.dK kvs))) (h : valV kvs k = some v) (q : Q v H) : kDG1 Q (.ref a) (kV k) H := ⟨a, v, rfl, h ▸ .inl ⟨kvs, k, .inr ⟨ob, e⟩, rfl, rfl⟩, q⟩
end L2
set_option Elab.async false
set_option linter.all false
set_option maxRecDepth 100000
set_option maxHeartbeats 4000000
namespace L2
open PySem PySem.Spec PyProof.Rows
structure IsC (K : PySem.W.Frag) (C : Addr) : Prop where
  cl : Cls K C
  fc : PySem.W.findIn K (.ref C) "__class__" = some (some (.builtin "object.__class__"))
  ocs : PySem.W.specialIn K (.builtin "object.__class__") "__get__" = some (some (.builtin "getset_descriptor.__get__"))
  oct : PySem.W.takesIn K (.builtin "object.__class__") = some true
  mo : PySem.W.mroIn K C (.type "object") = some true
end L2
set_option Elab.async false
set_option linter.all false
set_option maxRecDepth 100000
set_option maxHeartbeats 4000000
namespace L2
open PySem PySem.Spec PyProof.Rows
section
variable {X : Cx}
end
end L2
set_option Elab.async false
set_option linter.all false
set_option maxRecDepth 100000
set_option maxHeartbeats 4000000
namespace L2
open PySem PySem.Spec PyProof.Rows PySem.W
section
variable {prog : Program} {w : World} {A : Around} {E : Value → Shared → Prop} {K : Frag} {x C dx : Addr} {s : Shared} {name : Str} {v : Value}
end
section
variable {X : Cx} {e o value : Expr} {ta tv : TE} {f : Str} {pos pos' : Pos}
end
end L2
set_option Elab.async false
set_option linter.all false
set_option maxRecDepth 100000
set_option maxHeartbeats 4000000
namespace L2
open PySem PySem.Spec PyProof.Rows
open Sem (wp)
open AutoSeq1 (wpAny_loadPart')
section
variable {X : Cx}
end
end L2
set_option Elab.async false
set_option linter.all false
set_option maxRecDepth 100000
set_option maxHeartbeats 4000000
namespace L2
open PySem PySem.Spec PyProof.Rows
end L2
set_option Elab.async false
set_option linter.all false
set_option maxRecDepth 100000
set_option maxHeartbeats 4000000
namespace L2
open PySem PySem.Spec PyProof.Rows
def NoCtx (o : Obj) : Prop := ∃ vs, o.data = .fields vs ∧ vs[2]? = some .none
section
variable {prog : Program} {w : World} {A : Around} {E : Value → Shared → Prop} {s : Shared}
end
def Hand (X : Cx) : Prop := ∃ (e : Addr) (oe : Obj) (u : HO), X.A.handled = some (.ref e) ∧ X.H₀ e = some (.frz oe u) ∧ NoCtx oe
structure TurnH (P : Program) (w : World) (K : PySem.W.Frag) (tg : Expr) (J : It) (fp : List Addr) (it : Addr) (tn : Nat → Heap → Prop) : Prop where
  mem : it ∈ fp
  obj : ∀ i h, tn i h → ∀ b ∈ fp, ∃ o, h.get? b = some o ∧ ∀ v, o.data ≠ .cell v
  keep : ∀ i h h', tn i h → (∀ b ∈ fp, ∀ o, h.get? b = some o → h'.get? b = some o) → tn i h'
  item : ∀ (X : Cx), X.prog = P → X.w = w → X.K = K → Hand X → ∀ (i : Nat) (pins : List (Addr × Obj)) (s : Shared) (σ : St) (H : Hp) (E : Value → Shared → Prop), Inv X pins σ H s → (∀ b ∈ fp, FpOk X pins H b) → tn i s.heap → J.go i H →
    wpAny (model P w) X.A (pyNext (.ref it)) (fun r s1 => ∃ u, r = some u ∧
      wpAny (model P w) X.A (letOwnedTupleGo tg (.ref it) u) (fun _ s2 => ∃ x H', Inv X pins σ H' s2 ∧ RelV x u ∧ J.yld i H x H' ∧ tn (i + 1) s2.heap ∧ ∀ b ∈ fp, H' b = none) E s1) E s
  done : ∀ (X : Cx), X.prog = P → X.w = w → X.K = K → Hand X → ∀ (i : Nat) (pins : List (Addr × Obj)) (s : Shared) (σ : St) (H : Hp) (E : Value → Shared → Prop), Inv X pins σ H s → (∀ b ∈ fp, FpOk X pins H b) → tn i s.heap → J.stop i H →
    wpAny (model P w) X.A (pyNext (.ref it)) (fun r s1 => r = none ∧ Inv X pins σ H s1) E s
section
variable {X : Cx} {tg : Expr}
end
structure RoomH (k : Nat) (e : Addr) (A : Around) : Prop where
  hd : A.handled = some (.ref e)
  dp : A.depth + 3 * k + 5 < recursionLimit
  un : A.units + 16 * k + 200 < cLine
structure FnOkH (P : Program) (w : World) (K : PySem.W.Frag) (mg : Str → Option Value) (base : Heap) (CX : CXT) (k : Nat) (f : Addr) (fd : FuncData) (ps : List Str) (sp : Sp) : Prop where
  len : ∀ vs H Q E, sp vs H Q E → vs.length = ps.length
  run : ∀ (A : Around) (outer : List Env) (s : Shared) (H : Hp) (args : Args) (us : List Value) (vs : List V) (Q : VK) (E : XK) (e : Addr) (oe : Obj) (u : HO), RoomH k e A → H e = some (.frz oe u) → NoCtx oe → Env0 P w K mg base A outer s H → BindsTo s fd args (ps.zip us) → Vals vs us → sp vs H Q E →
    codeAny (model P w) A (.call (.ref f) args) (CR CX outer P w H s Q E) s
section
variable {X : Cx}
end
end L2
set_option Elab.async false
set_option linter.all false
set_option maxRecDepth 100000
set_option maxHeartbeats 4000000
namespace L2
open PySem PySem.Spec PyProof.Rows
section
variable {prog : Program} {w : World} {A : Around} {E : Value → Shared → Prop} {s : Shared}
structure Apart3 (z TI TO i j l : Addr) (f g e : List Addr) : Prop where
  ti : TI ≠ z ∧ TI ≠ TO ∧ TI ≠ i ∧ TI ≠ j ∧ TI ≠ l
  zt : z ≠ TO
  zf : z ∉ f
  zg : z ∉ g
  ze : z ∉ e
  tf : TO ∉ f
  tg : TO ∉ g
  te : TO ∉ e
  ig : i ∉ g
  ie : i ∉ e
  jf : j ∉ f
  je : j ∉ e
  lf : l ∉ f
  lg : l ∉ g
variable {z TI TO i j l : Addr} {f g e : List Addr} {ti tj tl : Nat → Heap → Prop} {vi vj vl : Nat → Option Value} {k m n : Nat} {x y u a b c : Value}
end
section
variable {prog : Program} {w : World} {A : Around} {E : Value → Shared → Prop} {s : Shared}
end
section
variable {X : Cx}
end
end L2
set_option Elab.async false
set_option linter.all false
set_option maxRecDepth 100000
set_option maxHeartbeats 4000000
namespace L2
open PySem PySem.Spec PyProof.Rows
def kGD1 (Q : VK) (a : Addr) : VK := fun y H => ∃ o, DGet H a y o ∧ Q (o.getD .non) H
def kGD0 (ty : TE) (σ : St) (Q : VK) : VK := fun x H => ∃ a, x = .ref a ∧ IsD H a ∧ ty σ H (kGD1 Q a)
theorem m_tDGet1 (td ty : TE) (σ : St) (H : Hp) (Q : VK) : tDGet1 td ty σ H Q = td σ H (kGD0 ty σ Q) := rfl
theorem use_get0 {ty : TE} {σ : St} {Q : VK} {H : Hp} {a : Addr} {kvs : List (Key × V)} (e : H a = some (.dK kvs)) (q : ty σ H (kGD1 Q a)) : kGD0 ty σ Q (.ref a) H := ⟨a, rfl, .inl ⟨kvs, .inl e⟩, q⟩
theorem use_get {Q : VK} {H : Hp} {a : Addr} {kvs : List (Key × V)} {k : Key} (e : H a = some (.dK kvs)) (q : Q ((valV kvs k).getD .non) H) : kGD1 Q a (kV k) H := ⟨_, DGet.k e, q⟩
def kGE2 (Q : VK) (a : Addr) (y : V) : VK := fun z H => ∃ o, DGet H a y o ∧ Q (o.getD z) H
def kGE1 (tx : TE) (σ : St) (Q : VK) (a : Addr) : VK := fun y H => tx σ H (kGE2 Q a y)
theorem m_kGE1 (tx : TE) (σ : St) (Q : VK) (a : Addr) (y : V) (H : Hp) : kGE1 tx σ Q a y H = tx σ H (kGE2 Q a y) := rfl
def kGE0 (ty tx : TE) (σ : St) (Q : VK) : VK := fun x H => ∃ a, x = .ref a ∧ IsD H a ∧ ty σ H (kGE1 tx σ Q a)
theorem m_tDGet2 (td ty tx : TE) (σ : St) (H : Hp) (Q : VK) : tDGet2 td ty tx σ H Q = td σ H (kGE0 ty tx σ Q) := rfl
theorem use_ge0 {ty tx : TE} {σ : St} {Q : VK} {H : Hp} {a : Addr} {kvs : List (Key × V)} (e : H a = some (.dK kvs)) (q : ty σ H (kGE1 tx σ Q a)) : kGE0 ty tx σ Q (.ref a) H := ⟨a, rfl, .inl ⟨kvs, .inl e⟩, q⟩
theorem use_ge {Q : VK} {H : Hp} {a : Addr} {kvs : List (Key × V)} {k : Key} {z : V} (e : H a = some (.dK kvs)) (q : Q ((valV kvs k).getD z) H) : kGE2 Q a (kV k) z H := ⟨_, DGet.k e, q⟩
end L2
set_option Elab.async false
set_option linter.all false
set_option maxRecDepth 100000
set_option maxHeartbeats 4000000
namespace L2
open PySem PySem.Spec PyProof.Rows
section
variable {X : Cx}
def rIndex : V → List V → Hp → VK → Prop := fun x vs H Q => ∃ l xs y d ds j, x = .ref l ∧ vs = [y] ∧ H l = some (.lst xs) ∧ datV H 6 y = some d ∧ allSome (xs.map (datV H 5)) = some ds ∧ ds.findIdx? (fun z => PyData.eqv z d) = some j ∧ Q (.int (j : Int)) H
theorem mt_index (hu : X.A.units + 64 < cLine) : MtM X "list.index" rIndex := by
  intro pins s σ H x vs v us Q I rx rv h
  obtain ⟨l, xs, y, d, ds, j, rfl, rfl, hH, e1, e2, hj, q⟩ := h
  cases rx
  obtain ⟨u, rfl, ru⟩ := rv.one
  obtain ⟨z, its, n, r, hl, e⟩ := I.lstM hH
  obtain ⟨a, b, c⟩ := datV_ok (K := X.K) 6 y d e1
  obtain ⟨as, zy⟩ := a.reads I ru
  obtain ⟨a', b', c'⟩ := datVs_ok (K := X.K) (datV_ok 5) xs ds e2
  obtain ⟨bs, zs⟩ := a'.reads I r
  have hm := SeqAt.readsAll_map ds _ _ b' zs
  rw [List.findIdx?_eq_some_iff_getElem] at hj
  obtain ⟨hjl, hje, hjn⟩ := hj
  have hln : ds.length = its.length := by rw [← hm, List.length_map]
  have hs : its.length ≤ sizeLine := by omega
  rw [sizeLine_eq] at hs
  refine call_meets F.slot_list_index ⟨_, e, rfl⟩ F.entry_list_index (F.args_list_index_2 _ _) (SeqAt.list_indexAt l its.toArray n none #[] u (fun y => PyData.eqv (SeqAt.readOf s.heap y) d) j (by rw [List.size_toArray]; omega) (by omega) ?_ ?_) ⟨e, ?_, ?_⟩
  · show PyData.eqv (SeqAt.readOf s.heap its.toArray[j]) d = true
    rw [List.getElem_toArray, ← hje]
    congr 1
    rw [← List.getElem_map (f := SeqAt.readOf s.heap) (h := by rw [List.length_map]; omega)]
    exact List.getElem_of_eq hm _
  · intro m hm' hlt
    have hml : m < ds.length := by omega
    have h2 := hjn m hlt
    show PyData.eqv (SeqAt.readOf s.heap its.toArray[m]) d = false
    rw [List.getElem_toArray]
    have e3 : SeqAt.readOf s.heap (its[m]'(by omega)) = ds[m] := by
      rw [← List.getElem_map (f := SeqAt.readOf s.heap) (h := by rw [List.length_map]; omega)]
      exact List.getElem_of_eq hm _
    rw [e3]
    exact Bool.eq_false_iff.mpr h2
  · exact SeqAt.items_eqAt (by simpa using zs) zy b' b (by have := Nat.min_le_right (PyData.depthAll ds) d.depth; omega)
  · exact ⟨.int _, H, I.tok _, ⟨_, rfl⟩, q⟩
end
end L2
set_option Elab.async false
set_option linter.all false
set_option maxRecDepth 100000
set_option maxHeartbeats 4000000
namespace L2
open PySem PySem.Spec PyProof.Rows
def CallRK (X : Cx) (f : Value) (ks : List Str) (r : List V → List V → Hp → VK → Prop) : Prop := ∀ pins s σ H vs us zs ws Q, Inv X pins σ H s → Vals vs us → Vals zs ws → r vs zs H Q → wpAny (model X.prog X.w) X.A (call f us (ks.zip ws)) (EP X pins σ Q) X.xe s
def kBK1 (r : List V → List V → Hp → VK → Prop) (Q : VK) (vs : List V) : List V → Hp → Prop := fun zs H => r vs zs H Q
theorem m_kBK1 (r : List V → List V → Hp → VK → Prop) (Q : VK) (vs zs : List V) (H : Hp) : kBK1 r Q vs zs H = r vs zs H Q := rfl
def kBK0 (r : List V → List V → Hp → VK → Prop) (tk : TA) (σ : St) (Q : VK) : List V → Hp → Prop := fun vs H => tk σ H (kBK1 r Q vs)
theorem m_kBK0 (r : List V → List V → Hp → VK → Prop) (tk : TA) (σ : St) (Q : VK) (vs : List V) (H : Hp) : kBK0 r tk σ Q vs H = tk σ H (kBK1 r Q vs) := rfl
def tCBK (r : List V → List V → Hp → VK → Prop) (t tk : TA) : TE := fun σ H Q => t σ H (kBK0 r tk σ Q)
theorem m_tCBK (r : List V → List V → Hp → VK → Prop) (t tk : TA) (σ : St) (H : Hp) (Q : VK) : tCBK r t tk σ H Q = t σ H (kBK0 r tk σ Q) := rfl
theorem pe_callBK {X : Cx} {id : String} {x : Str} {p pos : Pos} {e : Expr} {es : List Expr} {kws : List Keyword} {ks : List Str} {r : List V → List V → Hp → VK → Prop} {t tk : TA} (hc : CallRK X (.builtin id) ks r) (hg : Gl X x) (hm : X.mg x = none) (hv : bootBuiltins x = some (.builtin id)) (ha : PA X (e :: es) t) (hk : PK X kws tk) (hn : x ≠ "__name__" := by decide) (hdb : (x == ("__debug__" : Str)) = false := by decide)
    (hks : (backToKw pos (keywordEach kws X.env)).filterMap (·.1) = ks := by rfl)
    (h1 : backTo pos (starEach (e :: es) X.env) = (false, eval e X.env) :: backTo pos (starEach es X.env) := by rfl)
    (h2 : (backTo pos (starEach (e :: es) X.env)).any (·.1) = false := by rfl)
    (h3 : (backToKw pos (keywordEach kws X.env)).all (·.1.isSome) = true := by rfl)
    (h4 : (backToKw pos (keywordEach kws X.env)).any (·.1.isNone) = false := by rfl) : PE X (.Call (.Name x p) (e :: es) kws pos) (tCBK r t tk) := by
  intro pins s σ H Q I h
  refine wpAny_Call_Name_kw (ld_blt I hg hm hv ?_ hn hdb)
  refine callWith_kw (thn (ha pos pins s σ H _ I h) fun us s1 ⟨vs, H1, I1, r1, q1⟩ => thn (hk pos pins s1 σ H1 _ I1 q1) fun ws s2 ⟨zs, H2, I2, r2, q2⟩ => ?_) h1 h2 h3 h4
  rw [hks]
  exact hc pins s2 σ H2 vs us zs ws Q I2 r1 r2 q2
section
variable {prog : Program} {w : World} {A : Around} {R : Result → Shared → Prop} {J : Addr} {fp wr : List Addr} {G : Array GenState → Array GenState → Prop} {n : Nat} {P : Nat → Value → Prop} {St : Nat → Shared → Prop}
end
section
variable {prog : Program} {w : World} {A : Around} {R : Result → Shared → Prop} {J : Addr} {fp wr : List Addr} {G : Array GenState → Array GenState → Prop} {n : Nat} {P : Nat → Value → Prop} {St : Nat → Shared → Prop}
end
end L2
set_option Elab.async false
set_option linter.all false
set_option maxRecDepth 100000
set_option maxHeartbeats 4000000
namespace L2
open PySem PySem.Spec PyProof.Rows
def lookI (kv : List (Int × Int)) (c : Int) : Option Int := (kv.find? fun p => decide (p.1 = c)).map fun p => p.2
def tabI (kv : List (Int × Int)) : List (Key × V) := kv.map fun p => (Sum.inl p.1, V.int p.2)
theorem lookI_pos {p : Int × Int} {r : List (Int × Int)} {c : Int} (e : p.1 = c) : lookI (p :: r) c = some p.2 := by simp [lookI, List.find?_cons, e]
theorem lookI_neg {p : Int × Int} {r : List (Int × Int)} {c : Int} (e : ¬ p.1 = c) : lookI (p :: r) c = lookI r c := by simp [lookI, List.find?_cons, e]
theorem inl_ne {a c : Int} (h : ¬ a = c) : ¬ (Sum.inl a : Key) = Sum.inl c := fun e => h (Sum.inl.inj e)
theorem val_tab : ∀ (kv : List (Int × Int)) (c : Int), valV (tabI kv) (.inl c) = (lookI kv c).map V.int
  | [], c => rfl
  | p :: r, c => by
    by_cases h : p.1 = c
    · rw [lookI_pos h]
      exact valV_pos (p := (Sum.inl p.1, V.int p.2)) (r := tabI r) (congrArg Sum.inl h)
    · rw [lookI_neg h, ← val_tab r c]
      exact valV_neg (p := (Sum.inl p.1, V.int p.2)) (r := tabI r) (inl_ne h)
theorem put_tab {kv : List (Int × Int)} {c : Int} (v : Int) (h : lookI kv c = none) : putK (tabI kv) (.inl c) (.int v) = tabI (kv ++ [(c, v)]) := by
  rw [putK_new _ (by rw [val_tab, h]; rfl)]
  unfold tabI
  rw [List.map_append]
  rfl
end L2
set_option Elab.async false
set_option linter.all false
set_option maxRecDepth 100000
set_option maxHeartbeats 4000000
namespace L2
open PySem PySem.Spec PyProof.Rows
abbrev PKy := List Int × List Int
section
variable {prog : Program} {w : World}
end
section
variable {P : Program} {w : World} {H : Hp} {h : Heap} {a : Addr}
end
section
variable {X : Cx} {pins : List (Addr × Obj)} {σ : St} {H : Hp} {s : Shared} {d b : Addr} {k : PKy} {Z : List PKy} {A : Around} {E : Value → Shared → Prop}
end
section
variable {X : Cx}
end
theorem pi_seq' {X : Cx} {tg l : Expr} {tl : TE} {K : PySem.W.Frag} (hK : X.K = K) (hl : PE X l tl) : PI X tg l (iSeq K tl) := by subst hK; exact pi_seq hl
end L2
set_option Elab.async false
set_option linter.all false
set_option maxRecDepth 100000
set_option maxHeartbeats 4000000
namespace L2
open PySem PySem.Spec PyProof.Rows
end L2
set_option Elab.async false
set_option linter.all false
set_option maxRecDepth 100000
set_option maxHeartbeats 1000000
namespace L2
open PySem PySem.Spec PyProof.Rows
section
variable {X : Cx} {e st : Expr} {te tst : TE} {pos p2 : Pos}
end
end L2
set_option Elab.async false
set_option linter.all false
set_option maxRecDepth 100000
set_option maxHeartbeats 4000000
namespace L2
open PySem PySem.Spec PyProof.Rows
section
variable {X : Cx}
end
end L2
set_option Elab.async false
set_option linter.all false
set_option maxRecDepth 100000
set_option maxHeartbeats 4000000
namespace L2
open PySem PySem.Spec PyProof.Rows
section
variable {X : Cx} {a b : Expr} {ta tb : TE} {pos : Pos} {rest : List Expr}
end
end L2
set_option Elab.async false
set_option linter.all false
set_option maxRecDepth 100000
set_option maxHeartbeats 4000000
namespace L2
open PySem PySem.Spec PyProof.Rows PySem.SeqAt
def kAnyB (H : Hp) (Q : VK) : List Bool → Prop := fun bs => Q (.bl (bs.any id)) H
theorem m_kAnyB (H : Hp) (Q : VK) (bs : List Bool) : kAnyB H Q bs = Q (.bl (bs.any id)) H := rfl
def qAny : List V → Hp → VK → Prop := fun vs H Q => match vs with
  | [.ref p] => optK (lstAt H p) (kBls (kAnyB H Q))
  | _ => False
theorem m_qAny (p : Addr) (H : Hp) (Q : VK) : qAny [.ref p] H Q = optK (lstAt H p) (kBls (kAnyB H Q)) := rfl
section
variable {X : Cx}
theorem any_range (bs : List Bool) : (List.range bs.length).any (fun i => bs.getD i false) = bs.any id := by
  rw [Bool.eq_iff_iff, List.any_eq_true, List.any_eq_true]
  refine ⟨fun ⟨i, hi, e⟩ => ?_, fun ⟨x, hx, e⟩ => ?_⟩
  · have hi' := List.mem_range.mp hi
    exact ⟨bs[i], List.getElem_mem hi', by simpa [List.getD, List.getElem?_eq_getElem hi'] using e⟩
  · obtain ⟨i, hi, h⟩ := List.getElem_of_mem hx
    exact ⟨i, List.mem_range.mpr hi, by simpa [List.getD, List.getElem?_eq_getElem hi, h] using e⟩
theorem call_qAny (hc : X.calm = true) : CallR X (.builtin "any") qAny := by
  intro pins s σ H vs us Q I r h
  unfold qAny at h
  split at h
  · rename_i p
    obtain ⟨xs, e, bs, rfl, q⟩ := optK_ex h
    cases r with
    | cons r rr =>
      cases rr
      cases r
      obtain ⟨its, rv, pl, hz⟩ := I.list (SqL.of (lst_of e))
      have hlt : p < s.heap.objs.size := by obtain ⟨_, e, _⟩ := pl.isList; exact Heap.lt_size e
      have hlen : its.length = bs.length := by have := rv.length; simpa using this.symm
      refine call_any_walk (wpAny_pyIter_list pl.isList ⟨s.heap.objs.size, _, _, _, _, _, fun i => bs.getD i false, rfl, Walks.list (show X.A.in1.handled = none from I.ok.hd hc) _ p (Nat.ne_of_lt hlt) its.toArray, ⟨⟨_, Heap.get?_push_size _ rfl, rfl, rfl⟩, pl.isList.push _⟩, fun i v s' Q' E' hP hQ => ?_, fun h' tk hk => ?_⟩)
      · have hv : its[i]? = some v := by simpa using hP
        have hi : i < bs.length := by rw [← hlen]; exact (List.getElem?_eq_some_iff.mp hv).1
        obtain ⟨u, hu, ru⟩ := rv.get (i := i) (x := .bl (bs.getD i false)) (by rw [List.getElem?_map, List.getElem?_eq_getElem hi]; simp [List.getD, List.getElem?_eq_getElem hi])
        rw [hv] at hu
        cases hu
        have e2 : v = .bool (bs.getD i false) := ru
        subst e2
        exact wpAny_truthy_bool hQ
      · have kp : ∀ b o, s.heap.get? b = some o → h'.get? b = some o := fun b o e => hk b o (fun hmem => by
          have : b = s.heap.objs.size := by simpa using hmem
          subst this
          exact absurd (Heap.lt_size e) (Nat.lt_irrefl _)) (Heap.get?_push_of_some _ e)
        refine ⟨.bl (bs.any id), H, I.kept (t' := tk) kp, ?_, q⟩
        rw [show its.toArray.size = bs.length by simp [hlen], any_range]
        exact rfl
  · exact h.elim
end
structure Mk0 (K : PySem.W.Frag) (C : Addr) : Prop where
  makes : PySem.W.makesIn K C = true
  init : PySem.W.findIn K (.ref C) "__init__" = some (some (.builtin "object.__init__"))
  kp : PySem.W.keepIn K (.ref C) = true
end L2
set_option Elab.async false
set_option linter.all false
set_option maxRecDepth 100000
set_option maxHeartbeats 4000000
namespace L2
open PySem PySem.Spec PyProof.Rows
structure MD (P : Program) (w : World) (K : PySem.W.Frag) (mg : Str → Option Value) (base : Heap) (CX : CXT) (k : Nat) (m : Str) (C : Addr) (sp : Sp) : Prop where
  c : Cls K C
  ex : ∃ f fd ps, Meth K C m f ∧ FnOk P w K mg base CX k f fd ps sp ∧ Binds K fd ps []
section
variable {k : Nat} {g : TG} {tt : TT} {te : TE} {σ : St} {Q : VK} {H : Hp}
end
end L2
set_option Elab.async false
set_option linter.all false
set_option maxRecDepth 100000
set_option maxHeartbeats 4000000
namespace L2
open PySem PySem.Spec PyProof.Rows
section
variable {X : Cx}
end
end L2
set_option Elab.async false
set_option linter.all false
set_option maxRecDepth 100000
set_option maxHeartbeats 4000000
namespace L2
open PySem PySem.Spec PyProof.Rows
section
variable {X : Cx} {CX : CXT} {n k : Nat} {cl : Nat → Addr} {m : Str} {sp : Nat → Sp} {pos apos : Pos} {o e : Expr} {es : List Expr} {ta : TE} {t : TA}
end
end L2
set_option Elab.async false
set_option linter.all false
set_option maxRecDepth 100000
set_option maxHeartbeats 4000000
namespace L2
open PySem PySem.Spec PyProof.Rows
section
variable {X : Cx} {CX : CXT} {k : Nat} {f C : Addr} {fd : FuncData} {ps : List Str} {sp : Sp} {dvs : List V} {ds : List Value} {E : St → XK} {x : Str} {p pos : Pos} {e : Expr} {es : List Expr} {t : TA}
end
end L2
set_option Elab.async false
set_option linter.all false
set_option maxRecDepth 100000
set_option maxHeartbeats 4000000
namespace L2
open PySem PySem.Spec PyProof.Rows
def qLenD : List V → Hp → VK → Prop := fun vs H Q => ∃ p kvs, vs = [.ref p] ∧ H p = some (.dK kvs) ∧ Q (.int kvs.length) H
theorem use_lenD {p : Addr} {kvs : List (Key × V)} {H : Hp} {Q : VK} (e : H p = some (.dK kvs)) (q : Q (.int kvs.length) H) : qLenD [.ref p] H Q := ⟨p, kvs, rfl, e, q⟩
section
variable {X : Cx}
theorem call_qLenD : CallR X (.builtin "len") qLenD := by
  intro pins s σ H vs us Q I r h
  obtain ⟨p, kvs, rfl, e, q⟩ := h
  obtain ⟨u, rfl, rx⟩ := vals1 r
  cases rx
  have hn := line63
  obtain ⟨h1, h2, vs', h3, h4⟩ := I.hok _ _ e
  have hlen : vs'.length = kvs.length := h3.length.symm
  exact call_len_dict h2 h4 (by omega) ⟨.int kvs.length, H, I.tok _, ⟨s.toks + 1, by rw [hlen]⟩, q⟩
end
end L2
set_option Elab.async false
set_option linter.all false
set_option maxRecDepth 100000
set_option maxHeartbeats 4000000
namespace L2
open PySem PySem.Spec PyProof.Rows
section
variable {X : Cx}
end
end L2
set_option Elab.async false
set_option linter.all false
set_option maxRecDepth 100000
set_option maxHeartbeats 4000000
namespace L2
open PySem PySem.Spec PyProof.Rows
section
variable {X : Cx}
end
end L2
set_option Elab.async false
set_option linter.all false
set_option maxRecDepth 100000
set_option maxHeartbeats 4000000
namespace L2
open PySem PySem.Spec PyProof.Rows
section
variable {X : Cx} {tg : Expr}
end
section
variable {X : Cx}
end
end L2
set_option Elab.async false
set_option linter.all false
set_option maxRecDepth 100000
set_option maxHeartbeats 4000000
namespace L2
open PySem PySem.Spec PyProof.Rows
end L2
namespace HT
open PySem PySem.Spec PyProof.Rows
section
variable {prog : Program} {w : World} {A : Around} {E : Value → Shared → Prop} {s : Shared}
end
end HT
namespace L2
open PySem PySem.Spec PyProof.Rows
end L2
set_option Elab.async false
set_option linter.all false
set_option maxRecDepth 100000
set_option maxHeartbeats 4000000
namespace L2
open PySem PySem.Spec PyProof.Rows
section
variable {X : Cx}
end
end L2
set_option Elab.async false
set_option linter.all false
set_option maxRecDepth 100000
set_option maxHeartbeats 4000000
namespace L2
open PySem PySem.Spec PyProof.Rows
end L2
set_option Elab.async false
set_option linter.all false
set_option maxRecDepth 100000
set_option maxHeartbeats 4000000
namespace L2
open PySem PySem.Spec PyProof.Rows
section
variable {prog : Program} {w : World} {A : Around} {E : Value → Shared → Prop} {s : Shared}
end
end L2
set_option Elab.async false
set_option linter.all false
set_option maxRecDepth 100000
set_option maxHeartbeats 4000000
namespace L2
open PySem PySem.Spec PyProof.Rows
end L2
set_option Elab.async false
set_option linter.all false
set_option maxRecDepth 100000
set_option maxHeartbeats 4000000
namespace L2
open PySem PySem.Spec PyProof.Rows
def StrictDec (xs : Array Keyed) (k : Nat) : Prop := ∀ i j, i < j → j < k → K xs j < K xs i
def EasyK (xs : Array Keyed) (k : Nat) : Prop := k < 64 ∨ SortedTo xs k ∨ StrictDec xs k
section
variable {prog : Program} {w : World} {A : Around} {E : Value → Shared → Prop} {s : Shared} {a₀ : Array Keyed}
theorem wpS_descLoop1 {st : SortSt} {n nrem : Nat} {Q : DescSt → SortSt → Prop} (h0 : IntKeys a₀) (hn : nrem ≤ a₀.size) (h1 : 1 ≤ n) (hnn : n ≤ nrem) (hB : SBase a₀ st) (hs : StrictDec (arrOf st) nrem) (h : Q (none, nrem, 0) st) :
    wpS (model prog w) A E s (descLoop n nrem) Q st := by
  unfold descLoop
  refine wpS_forRange (I := fun x c st' => st' = st ∧ c = (none, x, 0)) ?step ?fin ⟨rfl, rfl⟩
  case fin =>
    rintro c st' ⟨rfl, rfl⟩
    rw [show max n nrem = nrem by omega]
    exact h
  case step =>
    rintro x c st' hax hxn ⟨rfl, rfl⟩
    dsimp only
    refine wpS_bind (wpS_ltK hB h0 (by omega) (by omega) ?_)
    have hless := hs (x - 1) x (by omega) hxn
    simp only [hless, decide_true, if_true]
    rw [if_neg (by omega)]
    exact wpS_pure ⟨rfl, rfl⟩
theorem wpS_descPart1 {st : SortSt} {nrem : Nat} {Q : Option Nat → SortSt → Prop} (h0 : IntKeys a₀) (hn : nrem ≤ a₀.size) (hnn : 2 ≤ nrem) (hB : SBase a₀ st) (hs : StrictDec (arrOf st) nrem)
    (h : ∀ st', SBase a₀ st' → SortedTo (arrOf st') nrem → Q (some nrem) st') : wpS (model prog w) A E s (descPart 1 nrem) Q st := by
  unfold descPart
  refine wpS_bind (wpS_lift (wpAny_rule ⟨rfl, ?_⟩))
  refine wpS_bind (wpS_descLoop1 h0 hn (by omega) hnn hB hs ?_)
  dsimp only
  rw [if_neg (by omega)]
  unfold tail3
  have hsz : nrem ≤ (arrOf st).size := by rw [hB.size]; omega
  refine wpS_bind (wpS_reverse ?_)
  have hB' : SBase a₀ (setArr st (mirror (arrOf st) 0 nrem ((nrem - 0) / 2))) := hB.setArr (mirror_perm _ _ _ _)
  have so : SortedTo (mirror (arrOf st) 0 nrem ((nrem - 0) / 2)) nrem := by
    intro i j hij hj
    rw [K_mirror hsz, K_mirror hsz, if_pos (by omega), if_pos (by omega)]
    by_cases e : i = j
    · rw [e]; exact Int.le_refl _
    · exact Int.le_of_lt (hs _ _ (by omega) (by omega))
  refine wpS_bind (wpS_ascLoop h0 hn (by omega) (Nat.le_refl _) hB' so fun m hm1 hm2 hsm _ => ?_)
  have em : m = nrem := by omega
  rw [em]
  exact wpS_pure (h _ hB' so)
theorem wpS_countRun1 {st : SortSt} {nrem : Nat} {Q : Option Nat → SortSt → Prop} (h0 : IntKeys a₀) (hn : nrem ≤ a₀.size) (h1 : 1 ≤ nrem) (hB : SBase a₀ st) (hs : SortedTo (arrOf st) nrem ∨ StrictDec (arrOf st) nrem)
    (h : ∀ st', SBase a₀ st' → SortedTo (arrOf st') nrem → Q (some nrem) st') : wpS (model prog w) A E s (countRun' 0 nrem) Q st := by
  rw [countRun0_eq]
  refine wpS_bind (wpS_ascLoop h0 hn (Nat.le_refl 1) h1 hB (fun i j hij hj => by have : i = j := by omega
                                                                                 subst this; exact Int.le_refl _) fun n hn1 hn2 hsn hor => ?_)
  dsimp only
  by_cases hnn : n = nrem
  · rw [if_pos (by simpa using hnn), hnn]
    exact wpS_pure (h st hB (hnn ▸ hsn))
  · rw [if_neg (by simpa using hnn)]
    have hlt : K (arrOf st) n < K (arrOf st) (n - 1) := hor.resolve_left hnn
    rcases hs with hs | hs
    · have := hs (n - 1) n (by omega) (by omega)
      omega
    · have n1 : n = 1 := by
        by_cases h : n = 1
        · exact h
        · have a := hsn 0 1 (by omega) (by omega)
          have b := hs 0 1 (by omega) (by omega)
          omega
      subst n1
      rw [if_neg (by omega)]
      exact wpS_descPart1 h0 hn (by omega) hB hs h
theorem minRun_le : ∀ (f n r : Nat), 1 ≤ n → n ≤ f → r ≤ 1 → minRun' f n r ≤ 64
  | 0, n, r, h1, h2, _ => by omega
  | f + 1, n, r, h1, h2, h3 => by
    rw [minRun'_succ]
    split
    · omega
    · exact minRun_le f (n / 2) (max r (n % 2)) (by omega) (by omega) (by omega)
theorem wpS_sortRunsE {st : SortSt} {Q : Unit → SortSt → Prop} (h0 : IntKeys a₀) (hB : SBase a₀ st) (h2 : 2 ≤ a₀.size) (hE : EasyK (arrOf st) a₀.size)
    (h : ∀ st', (arrOf st').Perm a₀ → failedOf st' = none → SortedTo (arrOf st') a₀.size → Q () st') : wpS (model prog w) A E s sortRuns' Q st := by
  rcases Nat.lt_or_ge a₀.size 64 with h64 | h64
  · exact wpS_sortRuns h0 hB h2 h64 h
  have hE : SortedTo (arrOf st) a₀.size ∨ StrictDec (arrOf st) a₀.size := hE.resolve_left (by omega)
  rw [sortRuns'_eq]
  refine wpS_bind (wpS_get ?_)
  dsimp only
  have hmr : minRun' a₀.size a₀.size 0 ≤ 64 := minRun_le _ _ _ (by omega) (Nat.le_refl _) (by omega)
  simp only [hB.size]
  generalize minRun' a₀.size a₀.size 0 = mr at hmr
  refine wpS_bind (wpS_mono (wpS_forRange
    (I := fun x c st' => (x = 0 ∧ c = (none, 0) ∧ st' = st) ∨ (1 ≤ x ∧ c = (none, a₀.size) ∧ SDone a₀ st'))
    (Q := fun c st' => c = (none, a₀.size) ∧ SDone a₀ st') ?step ?fin (.inl ⟨rfl, rfl, rfl⟩)) ?post)
  case fin =>
    rintro c st' (⟨hx, _, _⟩ | ⟨_, hc, hD⟩)
    · omega
    · exact ⟨hc, hD⟩
  case step =>
    rintro x c st' _ hx (⟨rfl, rfl, rfl⟩ | ⟨hx1, rfl, hD⟩)
    · dsimp only
      rw [if_neg (by omega)]
      simp only [Nat.sub_zero, Nat.min_self, Nat.zero_add]
      refine wpS_bind (wpS_countRun1 h0 (Nat.le_refl _) (by omega) hB hE fun st2 hB2 hs2 => ?_)
      dsimp only
      rw [if_neg (by omega)]
      refine wpS_bind (wpS_get ?_)
      have hb : (pendingOf st2).back? = none := by rw [hB2.pend]; rfl
      rw [hb]
      dsimp only
      exact wpS_bind (wpS_modify (wpS_pure (.inr ⟨by omega, rfl, hB2.done hs2⟩)))
    · dsimp only
      rw [if_pos (Nat.le_refl _)]
      exact wpS_pure ⟨rfl, hD⟩
  case post =>
    rintro c st' ⟨rfl, hD⟩
    dsimp only
    refine wpS_bind (wpS_mono (wpS_forRange (I := fun _ c st'' => st'' = st' ∧ c = (none, ())) (Q := fun c st'' => st'' = st' ∧ c = (none, ())) ?_ (fun _ _ hh => hh) ⟨rfl, rfl⟩) ?_)
    · rintro x c st'' _ _ ⟨rfl, rfl⟩
      refine wpS_bind (wpS_get ?_)
      rw [if_pos (by rw [hD.2.2.1]; exact Nat.le_refl 1)]
      exact wpS_pure ⟨rfl, rfl⟩
    · rintro c st'' ⟨rfl, rfl⟩
      exact wpS_pure (h _ hD.1 hD.2.1 hD.2.2.2)
def EasyI (ns : List Int) : Prop := ns.length < 64 ∨ ns.Pairwise (· ≤ ·) ∨ ns.Pairwise (· > ·)
theorem easy_of {xs : Array Keyed} {ns : List Int} (hk : xs.toList.map (fun p => numOf p.1) = ns) (h : EasyI ns) : EasyK xs xs.size := by
  have hl : xs.size = ns.length := by rw [← hk]; simp
  have hK : ∀ i (hi : i < ns.length), K xs i = ns[i] := fun i hi => by
    rw [K_eq (by omega)]
    subst hk
    simp
  rcases h with h | h | h
  · exact .inl (by omega)
  · refine .inr (.inl fun i j hij hj => ?_)
    rw [hK i (by omega), hK j (by omega)]
    rcases Nat.lt_or_ge i j with l | l
    · exact List.pairwise_iff_getElem.mp h i j (by omega) (by omega) l
    · have : i = j := by omega
      subst this
      exact Int.le_refl _
  · refine .inr (.inr fun i j hij hj => ?_)
    rw [hK i (by omega), hK j (by omega)]
    exact List.pairwise_iff_getElem.mp h i j (by omega) (by omega) hij
theorem list_sort_treeE {a : Addr} {vs : List Value} {ns : List Int} {n : Nat} {P : Fin → Shared → Prop} (ho : s.heap.get? a = some (seqObj "list" vs.toArray n))
    (hI : IntsAre vs ns) (hz : vs.length ≤ sizeLine) (hE : EasyI ns)
    (h : ∀ (out : Array Value) (ns' : List Int), IntsAre out.toList ns' → ns'.Perm ns → ns'.Pairwise (· ≤ ·) → P (.done (.ret .none)) { s with heap := sortedHeap s.heap a vs out }) :
    wpAny (model prog w) A (Builtin.«list.sort» ⟨[.ref a], []⟩) P E s := by
  rw [list_sort_plain]
  have ha : a < s.heap.objs.size := Heap.lt_size ho
  refine wpAny_bind (listItems_at ho rfl ?_)
  refine wpAny_bind (listUpdate_at ho rfl ?_ (by simpa using hz) (Nat.zero_le _))
  obtain ⟨e1, ho1⟩ : ∃ e1, (s.heap.update a (Obj.mapSeq fun _ => #[])).get? a = some (seqObj "list" #[] e1) := ⟨_, get?_update_seq ho (fun _ => #[])⟩
  refine wpAny_bind (seqEpoch_at ho1 rfl ?_)
  refine wpAny_bind (wpAny_newTuple ?_ (by simpa using hz))
  refine wpAny_bind (wpAny_newList ?_ (Nat.zero_le _))
  refine wpAny_holding ?_
  have ho6 : (((s.heap.update a (Obj.mapSeq fun _ => #[])).push (seqObj "tuple" vs.toArray 0)).push (seqObj "list" #[] 0)).get? a = some (seqObj "list" #[] e1) := by
    rw [Heap.get?_push_ne _ _ _ (by rw [size_push', Heap.size_update]; exact Nat.ne_of_lt (Nat.lt_succ_of_lt ha)), Heap.get?_push_ne _ _ _ (by rw [Heap.size_update]; exact Nat.ne_of_lt ha)]
    exact ho1
  show wpAny (model prog w) A _ P E { s with heap := ((s.heap.update a (Obj.mapSeq fun _ => #[])).push (seqObj "tuple" vs.toArray 0)).push (seqObj "list" #[] 0) }
  dsimp only
  have hsz : vs.toArray.size = vs.length := by simp
  have fin : ∀ st' : SortSt, (arrOf st').Perm (pairsOf vs) → SortedTo (arrOf st') (pairsOf vs).size →
      P (.done (.ret .none)) { s with heap := sortedHeap s.heap a vs ((arrOf st').map (·.2)) } := by
    intro st' hp hs
    obtain ⟨ns', h1, h2, h3⟩ := sorted_out hI hp hs
    exact h _ ns' h1 h2 h3
  by_cases h2 : vs.toArray.size < 2
  · rw [if_pos h2, if_pos h2]
    refine wpAny_bind (wpAny_pure ?_)
    rw [StateT.run_pure]
    refine wpAny_bind (wpAny_pure ?_)
    dsimp only
    refine wpAny_bind (seqEpoch_at ho6 rfl ?_)
    refine wpAny_bind (listUpdate_at ho6 rfl ?_ (Nat.zero_le _) (hsz2 := by rw [Array.size_map]; show (pairsOf vs).size ≤ _; rw [pairsOf_size]; omega))
    simp only [bne_self_eq_false, Bool.false_eq_true, if_false]
    refine wpAny_pure (fin (SortSt.mk' general' (vs.toArray.zip vs.toArray) #[] 7 none) (Array.Perm.refl _) ?_)
    intro i j hij hj
    have : i = j := by rw [pairsOf_size] at hj; omega
    subst this; exact Int.le_refl _
  · rw [if_neg h2, if_neg h2]
    obtain ⟨v₁, v₂, rest, rfl⟩ : ∃ v₁ v₂ rest, vs = v₁ :: v₂ :: rest := by
      match vs, hsz, h2 with
      | [], _, h2 => simp at h2
      | [_], _, h2 => simp at h2
      | v₁ :: v₂ :: rest, _, _ => exact ⟨v₁, v₂, rest, rfl⟩
    rw [keyKind_ints hI]
    refine wpAny_bind (wpAny_pure ?_)
    have hnum : (pairsOf (v₁ :: v₂ :: rest)).toList.map (fun p => numOf p.1) = ns := by
      rw [pairsOf_toList]
      have e : ∀ l : List Value, (l.zip l).map (fun p => numOf p.1) = l.map numOf := fun l => by
        have : (l.zip l).map (fun p => numOf p.1) = ((l.zip l).map Prod.fst).map numOf := by rw [List.map_map]; rfl
        rw [this, List.map_fst_zip (Nat.le_refl _)]
      rw [e]
      exact hI.nums
    refine wpAny_bind (wpAny_mono (wpS_sortRunsE (a₀ := pairsOf (v₁ :: v₂ :: rest)) (st := SortSt.mk' oneType' ((v₁ :: v₂ :: rest).toArray.zip (v₁ :: v₂ :: rest).toArray) #[] 7 none)
      (Q := fun _ st' => (arrOf st').Perm (pairsOf (v₁ :: v₂ :: rest)) ∧ failedOf st' = none ∧ SortedTo (arrOf st') (pairsOf (v₁ :: v₂ :: rest)).size)
      hI.intKeys ⟨Array.Perm.refl _, rfl, rfl, rfl⟩ (by rw [pairsOf_size]; simp) (easy_of hnum hE) fun st' a1 a2 a3 => ⟨a1, a2, a3⟩) ?_ fun _ _ e => e)
    rintro ⟨⟨⟩, st'⟩ s' ⟨rfl, hp, hf, hs⟩
    dsimp only
    refine wpAny_bind (seqEpoch_at ho6 rfl ?_)
    refine wpAny_bind (listUpdate_at ho6 rfl ?_ (Nat.zero_le _) (hsz2 := by refine Nat.le_trans (Nat.le_of_eq ((Array.size_map ..).trans (hp.size_eq.trans (pairsOf_size _)))) ?_; omega))
    rw [hf]
    simp only [bne_self_eq_false, Bool.false_eq_true, if_false]
    exact wpAny_pure (fin st' hp hs)
end
def qSrtE : List V → Hp → VK → Prop := fun vs H Q => ∃ p kvs ns, vs = [.ref p] ∧ H p = some (.dK kvs) ∧ kvs.map (·.1) = ns.map (Sum.inl : Int → Key) ∧ ns.length ≤ sizeLine ∧ EasyI ns ∧ ∀ ms : List Int, ms.Perm ns → ms.Pairwise (· ≤ ·) → newK (.lst (ms.map V.int)) H Q
theorem use_srtE {p : Addr} {kvs : List (Key × V)} {ns : List Int} {H : Hp} {Q : VK} (e : H p = some (.dK kvs)) (hk : kvs.map (·.1) = ns.map (Sum.inl : Int → Key)) (hl : ns.length ≤ sizeLine) (hE : EasyI ns) (q : ∀ ms : List Int, ms.Perm ns → ms.Pairwise (· ≤ ·) → newK (.lst (ms.map V.int)) H Q) : qSrtE [.ref p] H Q := ⟨p, kvs, ns, rfl, e, hk, hl, hE, q⟩
section
variable {X : Cx}
theorem call_qSrtE (hc : X.calm = true) : CallR X (.builtin "sorted") qSrtE := by
  intro pins s σ H vs us Q I r h
  obtain ⟨p, kvs, ns, rfl, e, hk, hl, hE, q⟩ := h
  cases r with
  | cons r rr =>
    cases rr
    cases r
    obtain ⟨z, hd, xs, rel, dd⟩ := dk_of I.hok e
    obtain ⟨ep, hat⟩ := dd.dictAt
    have hlen : kvs.length = xs.length := Paired.length rel
    have hln : xs.length = ns.length := by rw [← hlen]; have := congrArg List.length hk; simpa using this
    refine Calls.call_function_entry kind_sorted plain_sorted entry_sorted (args_sorted1 _) ?_
    unfold Builtin.«sorted»
    refine wpAny_bind (m := checkCount "sorted" 1 1 _) (wpAny_pure ?_)
    refine wpAny_bind (PySem.W.kdu_collect (A := X.A.in1) (PySem.W.kdl_dict (knd := mixKind X.prog X.w) (kvs := xs) (ep := ep) hd) (show X.A.in1.handled = none from I.ok.hd hc) hat (by omega) fun h' tk acc kp hacc => ?_)
    have hal : acc.toList.length = ns.length := by rw [Array.length_toList, hacc.1, hln]
    have hI : IntsAre acc.toList ns := by
      refine intsAre_get hal fun i u hu => ?_
      obtain ⟨k, x, hx, hku⟩ := hacc.2 i u (by simpa using hu)
      have hi : i < kvs.length := by rw [hlen]; exact (List.getElem?_eq_some_iff.mp hx).1
      have h1 : kvs[i]? = some kvs[i] := List.getElem?_eq_getElem hi
      obtain ⟨w', hw', rw'⟩ := paired_get rel h1
      rw [hx] at hw'
      cases hw'
      have h2 : (kvs.map (·.1))[i]? = some k := by rw [List.getElem?_map, h1]; exact congrArg some rw'.1
      rw [hk, List.getElem?_map] at h2
      obtain ⟨n, hn, rfl⟩ := Option.map_eq_some_iff.mp h2
      rcases keyIs_shape (show keyIs (Sum.inl n) u = true from hku) with ⟨j, t, e1, e2⟩ | ⟨j, t, e1, e2⟩
      · cases e1
        exact ⟨n, t, hn, e2⟩
      · cases e1
    refine wpAny_bind (wpAny_newList ?_ (by rw [hal]; exact hl))
    have hoL : (h'.push (seqObj "list" acc.toList.toArray 0)).get? h'.objs.size = some (seqObj "list" acc.toList.toArray 0) := Heap.get?_push_size _ rfl
    refine wpAny_bind (wpAny_holding (wpAny_call_entry slot_list_sort ⟨_, hoL, rfl⟩ entry_list_sort (list_sort_treeE hoL hI (by rw [hal]; exact hl) hE fun out ns' a1 a2 a3 => ⟨_, rfl, ?_⟩) (args_list_sort _)))
    refine wpAny_pure ⟨_, rfl, ?_⟩
    have I2 : Inv X pins σ H { s with heap := h', toks := tk } := I.kept (t' := tk) kp
    have fr := I2.hok.fresh (Nat.le_refl _)
    obtain ⟨e', he'⟩ := sortedHeap_at (out := out) hoL
    refine ⟨.ref h'.objs.size, _, I2.laid (t' := tk) (h' := sortedHeap (h'.push (seqObj "list" acc.toList.toArray 0)) h'.objs.size acc.toList out) (o := .lst (ns'.map V.int)) (fun b u hb => ?_) (Nat.le_refl _) ⟨?_, out.toList, e', vals_of_ints a1, ?_⟩, rfl, q ns' a2 a3 _ _ fr (Ext.new fr) upd_same⟩
    · have hb' : h'.get? b = some u := hb
      have hlt := Heap.lt_size hb'
      rw [sortedHeap_old (Nat.ne_of_lt hlt) (by rw [size_push']; exact Nat.lt_succ_of_lt hlt)]
      exact Heap.get?_push_of_some _ hb'
    · rw [List.length_map, a2.length_eq]; exact hl
    · rw [Array.toArray_toList]; exact he'
end
end L2
set_option Elab.async false
set_option linter.all false
set_option maxRecDepth 100000
set_option maxHeartbeats 4000000
namespace L2
open PySem PySem.Spec PyProof.Rows
theorem perm_unmap {α β : Type} {f : α → β} {ps l : List β} (h : ps.Perm l) : ∀ T : List α, l = T.map f → ∃ T' : List α, T'.Perm T ∧ ps = T'.map f := by
  induction h with
  | nil => intro T e; exact ⟨T, .refl _, e⟩
  | cons x _ ih =>
    intro T e
    cases T with
    | nil => cases e
    | cons y T =>
      rw [List.map_cons] at e
      obtain ⟨rfl, e2⟩ := List.cons.inj e
      obtain ⟨T', p, q⟩ := ih T e2
      exact ⟨y :: T', p.cons y, by rw [q, List.map_cons]⟩
  | swap x y l =>
    intro T e
    match T, e with
    | u :: v :: T, e =>
      rw [List.map_cons, List.map_cons] at e
      obtain ⟨rfl, e2⟩ := List.cons.inj e
      obtain ⟨rfl, rfl⟩ := List.cons.inj e2
      exact ⟨v :: u :: T, .swap u v T, rfl⟩
  | trans _ _ ih1 ih2 =>
    intro T e
    obtain ⟨T1, p1, q1⟩ := ih2 T e
    obtain ⟨T2, p2, q2⟩ := ih1 T1 q1
    exact ⟨T2, p2.trans p1, q2⟩
theorem vals_lift {ks : List Int} {xs : List V} {its : List Value} (hv : Vals xs its) (hk : ks.length = xs.length) {ps : List (Int × Value)} (hp : ps.Perm (ks.zip its)) : ∃ out : List (Int × V), out.Perm (ks.zip xs) ∧ out.map (·.1) = ps.map (·.1) ∧ Vals (out.map (·.2)) (ps.map (·.2)) := by
  have hl := hv.length
  have e1 : ks.zip its = (ks.zip (xs.zip its)).map fun t => (t.1, t.2.2) := by
    refine List.ext_getElem (by simp; omega) fun i h1 h2 => ?_
    simp
  have e2 : ks.zip xs = (ks.zip (xs.zip its)).map fun t => (t.1, t.2.1) := by
    refine List.ext_getElem (by simp; omega) fun i h1 h2 => ?_
    simp
  obtain ⟨T', p1, rfl⟩ := perm_unmap hp _ e1
  refine ⟨T'.map fun t => (t.1, t.2.1), ?_, ?_, ?_⟩
  · rw [e2]; exact p1.map _
  · rw [List.map_map, List.map_map]; rfl
  · rw [List.map_map, List.map_map]
    refine vals_of_get (by simp) fun i x u hx hu => ?_
    rw [List.getElem?_map] at hx hu
    obtain ⟨t, ht, rfl⟩ := Option.map_eq_some_iff.mp hx
    rw [ht] at hu
    cases hu
    have hm : t ∈ ks.zip (xs.zip its) := p1.mem_iff.mp (List.mem_of_getElem? ht)
    have hm2 : t.2 ∈ xs.zip its := (List.of_mem_zip (show (t.1, t.2) ∈ ks.zip (xs.zip its) from hm)).2
    obtain ⟨j, hj, ej⟩ := List.getElem_of_mem hm2
    have hz : (xs.zip its)[j]? = some t.2 := by rw [List.getElem?_eq_getElem hj, ej]
    obtain ⟨g1, g2⟩ := List.getElem?_zip_eq_some.mp hz
    obtain ⟨u', hu', ru⟩ := hv.get g1
    rw [g2] at hu'
    cases hu'
    exact ru
def qSrtK (f : Addr) (sp : Sp) : List V → List V → Hp → VK → Prop := fun vs zs H Q => ∃ (p : Addr) (xs : List V) (ks : List Int), vs = [.ref p] ∧ zs = [.ref f] ∧ H p = some (.lst xs) ∧ ks.length = xs.length ∧ EasyI ks ∧ (∀ (i : Nat) (x : V) (k : Int), xs[i]? = some x → ks[i]? = some k → ∀ (Q' : VK) (E : XK), Q' (.int k) H → sp [x] H Q' E) ∧ ∀ out : List (Int × V), out.Perm (ks.zip xs) → out.Pairwise (fun a b => a.1 ≤ b.1) → newK (.lst (out.map (·.2))) H Q
theorem use_srtK {f : Addr} {sp : Sp} {p : Addr} {xs : List V} (ks : List Int) {H : Hp} {Q : VK} (e : H p = some (.lst xs)) (hk : ks.length = xs.length) (hE : EasyI ks) (hs : ∀ (i : Nat) (x : V) (k : Int), xs[i]? = some x → ks[i]? = some k → ∀ (Q' : VK) (E : XK), Q' (.int k) H → sp [x] H Q' E) (q : ∀ out : List (Int × V), out.Perm (ks.zip xs) → out.Pairwise (fun a b => a.1 ≤ b.1) → newK (.lst (out.map (·.2))) H Q) : qSrtK f sp [.ref p] [.ref f] H Q := ⟨p, xs, ks, rfl, rfl, e, hk, hE, hs, q⟩
section
variable {X : Cx} {k : Nat} {f : Addr} {fd : FuncData} {ps : List Str} {sp : Sp}
theorem run_in {A : Around} {pins : List (Addr × Obj)} {σ : St} {H : Hp} {s : Shared} {Q : VK} {us : List Value} {vs : List V} {E : XK} {E' : Value → Shared → Prop} (F : FnOk X.prog X.w X.K X.mg X.base CX0 k f fd ps sp) (hr : Room k A) (he : Env0 X.prog X.w X.K X.mg X.base A X.stack s H) (hb : Binds X.K fd ps [])
    (I : Inv X pins σ H s) (r : Vals vs us) (h : sp vs H Q E) : wpAny (model X.prog X.w) A (call (.ref f) us) (EP X pins σ Q) E' s := by
  have hl : us.length = ps.length := by rw [← r.length]; exact F.len _ _ _ _ h
  have hb' := hb s us I.kIn (by rw [List.append_nil]; exact hl)
  rw [List.append_nil] at hb'
  refine wpAny_call (codeAny_mono (F.run A X.stack s H ⟨us, []⟩ us vs Q E hr he hb' r h) fun r s' hq => ?_)
  cases r with
  | error e => exact False.elim hq
  | ok fl =>
    cases fl with
    | ret u => exact I.after hq
    | next => exact False.elim hq
    | brk => exact False.elim hq
    | cont => exact False.elim hq
theorem call_qSrtK (F : FnOk X.prog X.w X.K X.mg X.base CX0 k f fd ps sp) (hr : Room (k + 2) X.A) (hb : Binds X.K fd ps []) : CallRK X (.builtin "sorted") ["key"] (qSrtK f sp) := by
  intro pins s σ H vs us zs ws Q I r rz h
  obtain ⟨p, xs, ks, rfl, rfl, e, hkl, hE, hs, q⟩ := h
  cases rz with
  | cons rb rz =>
  cases rz
  cases rb
  cases r with
  | cons r rr =>
  cases rr
  cases r
  obtain ⟨hz, its, n, r', hlen, hg⟩ := I.lstM e
  have hit : its.length ≤ sizeLine := by omega
  show wpAny (model X.prog X.w) X.A (call (.builtin "sorted") [.ref p] [(Str.ofString "key", .ref f)]) _ _ _
  refine call_function_entry_kw kind_sorted plain_sorted entry_sorted (ksk_s1 _ _) ?_
  unfold Builtin.«sorted»
  refine wpAny_bind (m := checkCount "sorted" 1 1 _) (wpAny_pure ?_)
  refine wpAny_bind (collect_list (vs := its) ⟨_, hg, rfl, n, rfl⟩ ?_ hit)
  refine wpAny_bind (wpAny_newList ?_ hit)
  have hsz : ((s.heap.push (seqObj "list" #[] 0)).update s.heap.objs.size (Obj.mapSeq (· ++ its.toArray))).objs.size = s.heap.objs.size + 1 := by
    rw [Heap.size_update, size_push']
  have hoL : (((s.heap.push (seqObj "list" #[] 0)).update s.heap.objs.size (Obj.mapSeq (· ++ its.toArray))).push (seqObj "list" its.toArray 0)).get? (s.heap.objs.size + 1) = some (seqObj "list" its.toArray 0) := by
    rw [← hsz]; exact Heap.get?_push_size _ rfl
  have keep : ∀ b o, s.heap.get? b = some o → (((s.heap.push (seqObj "list" #[] 0)).update s.heap.objs.size (Obj.mapSeq (· ++ its.toArray))).push (seqObj "list" its.toArray 0)).get? b = some o := fun b o q => by
    have hlt : b < s.heap.objs.size := Heap.lt_size q
    rw [Heap.get?_push_ne _ _ _ (by rw [hsz]; exact Nat.ne_of_lt (Nat.lt_succ_of_lt hlt)), Heap.get?_update_ne _ _ _ _ (Nat.ne_of_lt hlt), Heap.get?_push_ne _ _ _ (Nat.ne_of_lt hlt)]
    exact q
  show wpAny _ _ _ _ _ { s with heap := ((s.heap.push (seqObj "list" #[] 0)).update s.heap.objs.size (Obj.mapSeq (· ++ its.toArray))).push (seqObj "list" its.toArray 0) }
  rw [hsz]
  have fpA : FpOk X pins H (s.heap.objs.size + 1) := I.fpOk (Nat.le_succ _) (I.hok.fresh (Nat.le_succ _))
  have nwA : NewAt X pins (s.heap.objs.size + 1) := I.newAt (Nat.le_succ _)
  have I1 := I.kept (t' := s.toks) keep
  generalize ((s.heap.push (seqObj "list" #[] 0)).update s.heap.objs.size (Obj.mapSeq (· ++ its.toArray))).push (seqObj "list" its.toArray 0) = h1 at hoL keep I1
  generalize s.heap.objs.size + 1 = a at hoL fpA nwA
  have ha : a < h1.objs.size := Heap.lt_size hoL
  refine wpAny_bind (wpAny_holding (wpAny_call_entry_kw slot_list_sort ⟨_, hoL, rfl⟩ entry_list_sort ?body (ksk_l1 _ _)))
  show wpAny (model X.prog X.w) X.A.in1.in1 (Builtin.«list.sort» ⟨[.ref a], [(Str.ofString "key", .ref f)]⟩) _ _ _
  rw [ksk_t1]
  unfold ksk_tree
  obtain ⟨e1, ho1⟩ : ∃ e1, (h1.update a (Obj.mapSeq fun _ => (#[] : Array Value))).get? a = some (seqObj "list" #[] e1) := ⟨_, get?_update_seq hoL fun _ => #[]⟩
  refine wpAny_bind (listItems_at hoL rfl ?_)
  refine wpAny_bind (listUpdate_at hoL rfl ?_ (by rw [List.size_toArray]; exact hit) (Nat.zero_le _))
  refine wpAny_bind (seqEpoch_at ho1 rfl ?_)
  refine wpAny_bind (wpAny_newTuple ?_ hit)
  refine wpAny_bind (wpAny_newList ?_ (Nat.zero_le _))
  refine wpAny_holding ?_
  have kS1 : ((h1.update a (Obj.mapSeq fun _ => (#[] : Array Value))).push (seqObj "tuple" its.toArray 0)).objs.size = h1.objs.size + 1 := by rw [size_push', Heap.size_update]
  have I2 : Inv X pins σ H { s with heap := ((h1.update a (Obj.mapSeq fun _ => (#[] : Array Value))).push (seqObj "tuple" its.toArray 0)).push (seqObj "list" #[] 0), toks := s.toks } := by
    obtain ⟨f0, f1, f2, f3, f4, f5⟩ := fpA
    refine Inv.turned (s := { s with heap := h1, toks := s.toks }) (t' := s.toks) (it := a) I1 (fun b o hb q => ?_) f0 f1 f3 f4 f5
    refine Heap.get?_push_of_some _ (Heap.get?_push_of_some _ ?_)
    rw [Heap.get?_update_ne _ _ _ _ hb]
    exact q
  have hoA : (((h1.update a (Obj.mapSeq fun _ => (#[] : Array Value))).push (seqObj "tuple" its.toArray 0)).push (seqObj "list" #[] 0)).get? a = some (seqObj "list" #[] e1) := Heap.get?_push_of_some _ (Heap.get?_push_of_some _ ho1)
  have hoK : (((h1.update a (Obj.mapSeq fun _ => (#[] : Array Value))).push (seqObj "tuple" its.toArray 0)).push (seqObj "list" #[] 0)).get? (h1.objs.size + 1) = some (seqObj "list" #[] 0) := by rw [← kS1]; exact Heap.get?_push_size _ rfl
  have fpK : FpOk X pins H (h1.objs.size + 1) := I1.fpOk (Nat.le_succ _) (I1.hok.fresh (Nat.le_succ _))
  have hka : h1.objs.size + 1 ≠ a := Nat.ne_of_gt (Nat.lt_succ_of_lt ha)
  show wpAny (model X.prog X.w) X.A.in1.in1 (ksk_rest a (.ref f) false its.toArray e1 (.ref ((h1.update a (Obj.mapSeq fun _ => (#[] : Array Value))).push (seqObj "tuple" its.toArray 0)).objs.size)) _ _ { s with heap := ((h1.update a (Obj.mapSeq fun _ => (#[] : Array Value))).push (seqObj "tuple" its.toArray 0)).push (seqObj "list" #[] 0) }
  rw [kS1]
  generalize ((h1.update a (Obj.mapSeq fun _ => (#[] : Array Value))).push (seqObj "tuple" its.toArray 0)).push (seqObj "list" #[] 0) = h2 at I2 hoA hoK
  generalize h1.objs.size + 1 = kS at fpK hka hoK
  clear kS1 ho1 hoL keep I1 ha
  have pin : ∀ {s' : Shared} {kA : Array Value} {c : Nat}, Inv X pins σ H s' → s'.heap.get? kS = some (seqObj "list" kA c) → s'.heap.get? a = some (seqObj "list" #[] e1) → Inv X (pins ++ [(kS, seqObj "list" kA c), (a, seqObj "list" #[] e1)]) σ H s' := fun {s' kA c} I' g1 g2 =>
    I'.pins_of fun p hp => by
      rcases List.mem_append.mp hp with hp | hp
      · exact I'.pin p (List.mem_append_right _ hp)
      · rcases List.mem_cons.mp hp with rfl | hp
        · exact ⟨g1, fpK.1, fpK.2.1, fpK.2.2.1, fun v z => by cases z⟩
        · rw [List.mem_singleton.mp hp]
          exact ⟨g2, fpA.1, fpA.2.1, fpA.2.2.1, fun v z => by cases z⟩
  unfold ksk_rest
  refine wpAny_bind (wpAny_rule ?_)
  first
    | rw [List.forIn_toArray]
    | (rw [← Array.forIn_toList]; simp only [List.toList_toArray])
    | rw [← Array.forIn_toList]
  refine wpAny_bind (ksk_fold (fun i s' => ∃ kA c, Inv X (pins ++ [(kS, seqObj "list" kA c), (a, seqObj "list" #[] e1)]) σ H s' ∧ IntsAre kA.toList (ks.take i)) its 0 _ ⟨#[], 0, pin I2 hoK hoA, by simpa using IntsAre.nil⟩ ?step ?done)
  case step =>
    rintro j x s' hx ⟨kA, c, I3, hk⟩
    simp only [Nat.zero_add] at hk ⊢
    have hj : j < its.length := (List.getElem?_eq_some_iff.mp hx).1
    obtain ⟨k, hkj⟩ : ∃ k, ks[j]? = some k := ⟨_, List.getElem?_eq_getElem (by omega)⟩
    obtain ⟨y, hy⟩ : ∃ y, xs[j]? = some y := ⟨_, List.getElem?_eq_getElem (by omega)⟩
    obtain ⟨u', hu', ru⟩ := r'.get hy
    rw [hx] at hu'
    cases hu'
    have hzk : kA.size ≤ its.length := by
      have h1 := hk.length
      rw [Array.length_toList, List.length_take] at h1
      omega
    refine wpAny_bind (wpAny_attempt (wpAny_mono (run_in (A := X.A.in1.in1) (E := fun _ _ _ => True) (Q := fun v H' => v = .int k ∧ H' = H) F (hr.in1.in1) I3.env0.in1.in1 hb I3 (.cons ru .nil) (hs j y k hy hkj _ _ ⟨rfl, rfl⟩)) (fun v s'' he => ?_) fun _ _ hF => hF))
    obtain ⟨v', H', I4, rv, rfl, rfl⟩ := he
    obtain ⟨t2, rfl⟩ := (show ∃ t, v = .int k t from rv)
    dsimp only
    have nk := (I4.pin (kS, seqObj "list" kA c) (List.mem_append_right _ (List.mem_append_right _ (.head _)))).1
    have na := (I4.pin (a, seqObj "list" #[] e1) (List.mem_append_right _ (List.mem_append_right _ (.tail _ (.head _))))).1
    have I5 := I4.unpinned
    obtain ⟨c2, hc2⟩ : ∃ c2, (s''.heap.update kS (Obj.mapSeq (·.push (.int k t2)))).get? kS = some (seqObj "list" (kA.push (.int k t2)) c2) := ⟨_, get?_update_seq nk (·.push (.int k t2))⟩
    have ek : ks.take (j + 1) = ks.take j ++ [k] := by rw [List.take_add_one, hkj]; simp
    have ea : (kA.push (Value.int k t2)).toList = kA.toList ++ [Value.int k t2] := by simp
    refine wpAny_bind (listUpdate_at nk rfl ?_ (by omega) (Nat.le_trans (Nat.le_of_eq (Array.size_push ..)) (by omega)))
    obtain ⟨f0, f1, f2, f3, f4, f5⟩ := fpK
    have I6 := I5.turned (t' := s''.toks) (it := kS) (h' := s''.heap.update kS (Obj.mapSeq (·.push (.int k t2)))) (fun b o hb q => by rw [Heap.get?_update_ne _ _ _ _ hb]; exact q) f0 f1 f3 f4 f5
    refine wpAny_pure ⟨rfl, kA.push (.int k t2), c2, pin I6 hc2 (by show (s''.heap.update kS _).get? a = _; rw [Heap.get?_update_ne _ _ _ _ hka.symm]; exact na), by rw [ea, ek]; exact ksk_snoc hk⟩
  case done =>
    rintro s' ⟨kA, c, I3, hk⟩
    have hk' : IntsAre kA.toList ks := by
      have e3 : ks.take (0 + its.length) = ks := List.take_of_length_le (by omega)
      rw [e3] at hk
      exact hk
    have nk := (I3.pin (kS, seqObj "list" kA c) (List.mem_append_right _ (List.mem_append_right _ (.head _)))).1
    have na := (I3.pin (a, seqObj "list" #[] e1) (List.mem_append_right _ (List.mem_append_right _ (.tail _ (.head _))))).1
    have I4 := I3.unpinned
    have hks : kA.size = its.length := by
      have h1 := hk'.length
      rw [Array.length_toList] at h1
      omega
    have hzs : (kA.zip its.toArray).size = its.length := by rw [Array.size_zip, hks, List.size_toArray, Nat.min_self]
    refine wpAny_bind (listItems_at nk rfl ?_)
    have fin : ∀ (P' : PySem.Fin → Shared → Prop) (E' : Value → Shared → Prop), (∀ s2, EP X pins σ Q (.ref a) s2 → P' (.done (.ret .none)) s2) → ∀ st : SortSt, (arrOf st).Perm (kA.zip its.toArray) → SortedTo (arrOf st) (arrOf st).size → failedOf st = none → wpAny (model X.prog X.w) X.A.in1.in1 (ksk_tail a false e1 (.ref kS) st) P' E' s' := by
      intro P' E' hP st hp hso hfl
      have ho := ksk_out (b := false) hk' hp hso
      rw [if_neg Bool.false_ne_true] at ho
      obtain ⟨pv, p1, p2, p3⟩ := ho
      obtain ⟨out, q1, q2, q3⟩ := vals_lift r' hkl p1
      have hsz2 : (arrOf st).size = its.length := by rw [hp.size_eq, hzs]
      have hout : ((arrOf st).map (·.2)).size = its.length := by rw [Array.size_map]; exact hsz2
      have na1 : (s'.heap.update kS (Obj.mapSeq fun _ => (#[] : Array Value))).get? a = some (seqObj "list" #[] e1) := by rw [Heap.get?_update_ne _ _ _ _ hka.symm]; exact na
      obtain ⟨c2, hc2⟩ : ∃ c2, ((s'.heap.update kS (Obj.mapSeq fun _ => (#[] : Array Value))).update a (Obj.mapSeq fun _ => (arrOf st).map (·.2))).get? a = some (seqObj "list" ((arrOf st).map (·.2)) c2) :=
        ⟨_, get?_update_seq na1 fun _ => (arrOf st).map (·.2)⟩
      unfold ksk_tail
      dsimp only
      refine wpAny_bind (listUpdate_at nk rfl ?_ (by omega) (Nat.zero_le _))
      refine wpAny_bind (wpAny_letGo ?_)
      refine wpAny_bind (seqEpoch_at na1 rfl ?_)
      simp only [Bool.false_eq_true, if_false]
      refine wpAny_bind (listUpdate_at na1 rfl ?_ (Nat.zero_le _) (by omega))
      rw [hfl]
      simp only [bne_self_eq_false, Bool.false_eq_true, if_false]
      obtain ⟨f0, f1, f2, f3, f4, f5⟩ := fpK
      have I6 := I4.turned (t' := s'.toks) (it := kS) (h' := s'.heap.update kS (Obj.mapSeq fun _ => (#[] : Array Value))) (fun b o hb q => by rw [Heap.get?_update_ne _ _ _ _ hb]; exact q) f0 f1 f3 f4 f5
      obtain ⟨f0, f1, f2, f3, f4, f5⟩ := fpA
      have I7 := I6.turned (t' := s'.toks) (it := a) (h' := (s'.heap.update kS (Obj.mapSeq fun _ => (#[] : Array Value))).update a (Obj.mapSeq fun _ => (arrOf st).map (·.2))) (fun b o hb q => by rw [Heap.get?_update_ne _ _ _ _ hb]; exact q) f0 f1 f3 f4 f5
      have hlo : (out.map (·.2)).length ≤ sizeLine := by rw [List.length_map, q1.length_eq, List.length_zip]; omega
      refine wpAny_pure (hP _ ⟨.ref a, _, I7.adopt nwA f0 (o := .lst (out.map (·.2))) ⟨hlo, ((arrOf st).map (·.2)).toList, c2, by rw [p2]; exact q3, by rw [Array.toArray_toList]; exact hc2⟩, rfl, q out q1 ?_ _ _ f0 (Ext.new f0) upd_same⟩)
      have e4 : ∀ {α : Type} (l : List (Int × α)), l.Pairwise (fun a b => a.1 ≤ b.1) ↔ (l.map (·.1)).Pairwise (· ≤ ·) := fun l => by rw [List.pairwise_map]
      rw [e4, q2, ← e4]
      simpa using p3
    unfold ksk_end
    dsimp only
    simp only [Bool.false_eq_true, if_false]
    by_cases h2 : its.toArray.size < 2
    · rw [if_pos h2, if_pos h2]
      refine wpAny_bind (wpAny_pure ?_)
      rw [StateT.run_pure]
      refine wpAny_bind (wpAny_pure ?_)
      dsimp only
      refine fin _ _ (fun s2 hq => ⟨_, rfl, wpAny_pure ⟨_, rfl, hq⟩⟩) (SortSt.mk' general' (kA.zip its.toArray) #[] 7 none) (Array.Perm.refl _) ?_ rfl
      intro i j hij hj
      have hj2 : j < (kA.zip its.toArray).size := hj
      rw [hzs] at hj2
      rw [List.size_toArray] at h2
      have : i = j := by omega
      subst this
      exact Int.le_refl _
    · rw [if_neg h2, if_neg h2]
      rw [List.size_toArray] at h2
      rw [ksk_kind hk' (by omega)]
      refine wpAny_bind (wpAny_pure ?_)
      have hnum : (kA.zip its.toArray).toList.map (fun p => numOf p.1) = ks := by
        rw [ksk_zip]
        have : (kA.toList.zip its).map (fun p => numOf p.1) = ((kA.toList.zip its).map Prod.fst).map numOf := by rw [List.map_map]; rfl
        rw [this, List.map_fst_zip (by rw [Array.length_toList]; omega)]
        exact hk'.nums
      refine wpAny_bind (wpAny_mono (wpS_sortRunsE (a₀ := kA.zip its.toArray) (st := SortSt.mk' oneType' (kA.zip its.toArray) #[] 7 none)
        (Q := fun _ st' => (arrOf st').Perm (kA.zip its.toArray) ∧ failedOf st' = none ∧ SortedTo (arrOf st') (kA.zip its.toArray).size)
        (ksk_intKeys hk') ⟨Array.Perm.refl _, rfl, rfl, rfl⟩ (by rw [hzs]; omega) (easy_of hnum hE) fun st' a1 a2 a3 => ⟨a1, a2, a3⟩) ?_ fun _ _ e => e)
      rintro ⟨⟨⟩, st'⟩ s'' ⟨rfl, hp, hf, hso⟩
      dsimp only
      exact fin _ _ (fun s2 hq => ⟨_, rfl, wpAny_pure ⟨_, rfl, hq⟩⟩) st' hp (by rw [hp.size_eq]; exact hso) hf
end
end L2
set_option Elab.async false
set_option linter.all false
set_option maxRecDepth 100000
set_option maxHeartbeats 4000000
namespace L2
open PySem PySem.Spec PyProof.Rows
def AskOk {α : Type} (n : Nat) (R : α → Prop) : PySem.W.KasT α → Prop
  | .ret a => R a
  | .ask i j k => i < n ∧ j < n ∧ ∀ b, AskOk n R (k b)
theorem AskOk.bind {α β : Type} {n : Nat} {R : α → Prop} {R' : β → Prop} {f : α → PySem.W.KasT β} (h : ∀ a, R a → AskOk n R' (f a)) : ∀ t : PySem.W.KasT α, AskOk n R t → AskOk n R' (t.bind f)
  | .ret a, q => h a q
  | .ask i j k, q => ⟨q.1, q.2.1, fun b => AskOk.bind h (k b) (q.2.2 b)⟩
theorem AskOk.run {α : Type} {n : Nat} {R : α → Prop} {cmp : Nat → Nat → (Bool → Shared → Prop) → Shared → Prop} {Q : α → Shared → Prop} {s : Shared} (hc : ∀ i j C, i < n → j < n → (∀ b, C b s) → cmp i j C s) (hq : ∀ a, R a → Q a s) : ∀ t : PySem.W.KasT α, AskOk n R t → t.kasWp cmp Q s
  | .ret a, q => hq a q
  | .ask i j k, q => hc i j _ q.1 q.2.1 fun b => AskOk.run hc hq (k b) (q.2.2 b)
def PermN (n : Nat) (p : Array Nat) : Prop := p.Perm (List.toArray (List.range n))
theorem PermN.lt {n : Nat} {p : Array Nat} (h : PermN n p) (h0 : 0 < n) (k : Nat) : p.getD k 0 < n := by
  by_cases hk : k < p.size
  · have e : p.getD k 0 = p[k] := by simp [Array.getD, hk]
    have hm : p[k] ∈ p.toList := by simp
    have := (Array.perm_iff_toList_perm.mp h).mem_iff.mp hm
    rw [e]
    simpa using this
  · have e : p.getD k 0 = 0 := by simp [Array.getD, hk]
    rw [e]
    exact h0
theorem PermN.rev {n : Nat} {p : Array Nat} (h : PermN n p) (i j : Nat) : PermN n (PySem.W.kas_rev p i j) := (mirror_perm _ _ _ _).trans h
section
variable {n : Nat} (h0 : 0 < n)
include h0
theorem ask_asc {p : Array Nat} (hp : PermN n p) : ∀ f m : Nat, AskOk n (fun _ => True) (PySem.W.kas_asc p f m)
  | 0, m => trivial
  | f + 1, m => ⟨hp.lt h0 _, hp.lt h0 _, fun b => by
    cases b
    · exact ask_asc hp f (m + 1)
    · exact trivial⟩
theorem ask_desc : ∀ (f : Nat) (p : Array Nat) (m q : Nat), PermN n p → AskOk n (fun r => PermN n r.1) (PySem.W.kas_desc f p m q)
  | 0, p, m, q, hp => hp
  | f + 1, p, m, q, hp => ⟨hp.lt h0 _, hp.lt h0 _, fun b => by
    cases b
    · exact ⟨hp.lt h0 _, hp.lt h0 _, fun d => by
        cases d
        · exact ask_desc f p (m + 1) (q + 1) hp
        · exact hp⟩
    · show AskOk n _ (if q > 0 then _ else _)
      split
      · exact ask_desc f _ (m + 1) 0 (hp.rev _ _)
      · exact ask_desc f p (m + 1) 0 hp⟩
theorem ask_tail3 (m k : Nat) {p : Array Nat} (hp : PermN n p) : AskOk n (fun r : Nat × Array Nat => PermN n r.2) (PySem.W.kas_tail3 m k p) := by
  refine AskOk.bind (fun a _ => ?_) _ (ask_asc h0 (hp.rev 0 m) _ _)
  exact hp.rev 0 m
theorem ask_descPart (m k : Nat) {p : Array Nat} (hp : PermN n p) : AskOk n (fun r : Nat × Array Nat => PermN n r.2) (PySem.W.kas_descPart m k p) := by
  refine AskOk.bind (fun r hr => ?_) _ (ask_desc h0 _ _ _ _ hp)
  split
  · exact ask_tail3 h0 _ _ (hr.rev _ _)
  · exact ask_tail3 h0 _ _ hr
theorem ask_count (k : Nat) {p : Array Nat} (hp : PermN n p) : AskOk n (fun r : Nat × Array Nat => PermN n r.2) (PySem.W.kas_count k p) := by
  refine AskOk.bind (fun m _ => ?_) _ (ask_asc h0 hp _ _)
  split
  · exact hp
  · split
    · exact ⟨hp.lt h0 _, hp.lt h0 _, fun b => by
        cases b
        · exact ask_descPart h0 _ _ (hp.rev _ _)
        · exact hp⟩
    · exact ask_descPart h0 _ _ hp
theorem ask_place {p : Array Nat} (hp : PermN n p) (k : Nat) : ∀ f l r : Nat, AskOk n (fun _ => True) (PySem.W.kas_place p k f l r)
  | 0, l, r => trivial
  | f + 1, l, r => by
    unfold PySem.W.kas_place
    split
    · exact trivial
    · exact ⟨hp.lt h0 _, hp.lt h0 _, fun b => by
        cases b
        · exact ask_place hp k f _ _
        · exact ask_place hp k f _ _⟩
theorem ask_bin : ∀ (f : Nat) (p : Array Nat) (k : Nat), PermN n p → AskOk n (PermN n) (PySem.W.kas_bin f p k)
  | 0, p, k, hp => hp
  | f + 1, p, k, hp => AskOk.bind (fun l _ => ask_bin f _ (k + 1) ((bubble_perm _ _ _).trans hp)) _ (ask_place h0 hp k k 0 k)
theorem ask_sort : AskOk n (PermN n) (PySem.W.kas_sort n) := by
  refine AskOk.bind (fun r hr => ?_) _ (ask_count h0 n (Array.Perm.refl _))
  split
  · exact ask_bin h0 _ _ _ hr
  · exact hr
end
def TwoAt (h : Heap) (vs : List Value) : Prop := ∀ v ∈ vs, ∃ a o n i j t u, v = .ref a ∧ h.get? a = some o ∧ o.cls = .type "tuple" ∧ o.data = .seq #[.int i t, .int j u] n
theorem TwoAt.kat {h : Heap} : ∀ {vs : List Value}, TwoAt h vs → ∃ fs, PySem.W.KatTups h vs fs ∧ fs.length = vs.length ∧ ∀ v ∈ fs, ∃ i t, v = Value.int i t
  | [], _ => ⟨[], .nil, rfl, fun _ h => absurd h List.not_mem_nil⟩
  | v :: vs, q => by
    obtain ⟨fs, k1, k2, k3⟩ := TwoAt.kat (vs := vs) fun v hv => q v (List.mem_cons_of_mem _ hv)
    obtain ⟨a, o, n, i, j, t, u, rfl, ho, hc, hd⟩ := q v List.mem_cons_self
    refine ⟨.int i t :: fs, .cons ho hc hd rfl k1, by rw [List.length_cons, List.length_cons, k2], fun w hw => ?_⟩
    rcases List.mem_cons.mp hw with rfl | hw
    · exact ⟨i, t, rfl⟩
    · exact k3 w hw
section
variable {prog : Program} {w : World} {A : Around} {E : Value → Shared → Prop} {s : Shared}
theorem two_ask {vs : List Value} (q : TwoAt s.heap vs) (b : Bool) (i j : Nat) (C : Bool → Shared → Prop) (hi : i < vs.length) (hj : j < vs.length) (h : ∀ b, C b s) : PySem.W.kas_ask prog w A (tuples' b) vs i j C s := by
  unfold PySem.W.kas_ask
  rw [show vs.getD i Value.none = vs[i] by simp [hi], show vs.getD j Value.none = vs[j] by simp [hj]]
  obtain ⟨a, o, n, x, y, t, u, e1, ho, hc, hd⟩ := q vs[i] (List.getElem_mem hi)
  obtain ⟨a', o', n', x', y', t', u', e2, ho', hc', hd'⟩ := q vs[j] (List.getElem_mem hj)
  rw [e1, e2]
  have one : ∀ (c : Bool) (x y : Int) (t u : Tok), wpAny (model prog w) A (oneLt' c (.int x t) (.int y u)) C (fun _ _ => False) s := by
    intro c x y t u
    cases c
    · exact PySem.W.kat_one _ _ (lt_int (show PySem.W.BoolBack C (.bool _) s from h _))
    · exact oneLt_int (h _)
  refine PySem.W.kat_lt ho hd ho' hd' ?_
  show PySem.W.KatLex prog w A b _ C [(.int x t, .int x' t'), (.int y u, .int y' u')] 0 s
  refine PySem.W.kat_cons (wpAny_eqBool_int (PySem.W.kat_go (fun _ => PySem.W.kat_yes (PySem.W.kat_cons (wpAny_eqBool_int (PySem.W.kat_go (fun _ => PySem.W.kat_yes (PySem.W.kat_nil (h _))) fun _ => PySem.W.kat_no (one _ _ _ _ _))))) fun _ => PySem.W.kat_no (one _ _ _ _ _)))
def pairsAt (H : Hp) (xs : List V) : Prop := ∀ x ∈ xs, ∃ a i j, x = .ref a ∧ H a = some (.tup [.int i, .int j])
def qSrtP : List V → Hp → VK → Prop := fun vs H Q => ∃ p xs, vs = [.ref p] ∧ H p = some (.lst xs) ∧ pairsAt H xs ∧ 2 ≤ xs.length ∧ xs.length < 64 ∧ ∀ ys : List V, ys.Perm xs → newK (.lst ys) H Q
theorem use_srtP {p : Addr} {xs : List V} {H : Hp} {Q : VK} (e : H p = some (.lst xs)) (hp : pairsAt H xs) (h2 : 2 ≤ xs.length) (hl : xs.length < 64) (q : ∀ ys : List V, ys.Perm xs → newK (.lst ys) H Q) : qSrtP [.ref p] H Q := ⟨p, xs, rfl, e, hp, h2, hl, q⟩
theorem list_sort_two {a : Addr} {vs : List Value} {n : Nat} {P : PySem.Fin → Shared → Prop} (ho : s.heap.get? a = some (seqObj "list" vs.toArray n)) (hT : TwoAt s.heap vs) (hna : ∀ v ∈ vs, v ≠ .ref a) (h2 : 2 ≤ vs.length) (h64 : vs.length < 64)
    (h : ∀ p : Array Nat, PermN vs.length p → P (.done (.ret .none)) { s with heap := sortedHeap s.heap a vs (List.toArray (p.toList.map fun i => vs.getD i Value.none)) }) :
    wpAny (model prog w) A (Builtin.«list.sort» ⟨[.ref a], []⟩) P E s := by
  rw [list_sort_plain]
  have ha : a < s.heap.objs.size := Heap.lt_size ho
  have hz : vs.length ≤ sizeLine := len5000 (by omega)
  refine wpAny_bind (listItems_at ho rfl ?_)
  refine wpAny_bind (listUpdate_at ho rfl ?_ (by simpa using hz) (Nat.zero_le _))
  obtain ⟨e1, ho1⟩ : ∃ e1, (s.heap.update a (Obj.mapSeq fun _ => #[])).get? a = some (seqObj "list" #[] e1) := ⟨_, get?_update_seq ho (fun _ => #[])⟩
  refine wpAny_bind (seqEpoch_at ho1 rfl ?_)
  refine wpAny_bind (wpAny_newTuple ?_ (by simpa using hz))
  refine wpAny_bind (wpAny_newList ?_ (Nat.zero_le _))
  refine wpAny_holding ?_
  have ho6 : (((s.heap.update a (Obj.mapSeq fun _ => #[])).push (seqObj "tuple" vs.toArray 0)).push (seqObj "list" #[] 0)).get? a = some (seqObj "list" #[] e1) := by
    rw [Heap.get?_push_ne _ _ _ (by rw [size_push', Heap.size_update]; exact Nat.ne_of_lt (Nat.lt_succ_of_lt ha)), Heap.get?_push_ne _ _ _ (by rw [Heap.size_update]; exact Nat.ne_of_lt ha)]
    exact ho1
  have hT6 : TwoAt (((s.heap.update a (Obj.mapSeq fun _ => #[])).push (seqObj "tuple" vs.toArray 0)).push (seqObj "list" #[] 0)) vs := fun v hv => by
    obtain ⟨b, o, n, i, j, t, u, e, hb, hc, hd⟩ := hT v hv
    have nb : b ≠ a := fun z => hna v hv (by rw [e, z])
    exact ⟨b, o, n, i, j, t, u, e, Heap.get?_push_of_some _ (Heap.get?_push_of_some _ (by rw [Heap.get?_update_ne _ _ _ _ nb]; exact hb)), hc, hd⟩
  show wpAny (model prog w) A _ P E { s with heap := ((s.heap.update a (Obj.mapSeq fun _ => #[])).push (seqObj "tuple" vs.toArray 0)).push (seqObj "list" #[] 0) }
  dsimp only
  have hn2 : ¬ vs.toArray.size < 2 := by rw [List.size_toArray]; omega
  rw [if_neg hn2, if_neg hn2]
  obtain ⟨fs, k1, k2, k3⟩ := hT6.kat
  refine wpAny_bind (PySem.W.kat_kind (T := .type "int") (s := { s with heap := ((s.heap.update a (Obj.mapSeq fun _ => #[])).push (seqObj "tuple" vs.toArray 0)).push (seqObj "list" #[] 0) }) k1 (by omega) (fun v hv => ?_) rfl ?_)
  · obtain ⟨i, t, rfl⟩ := k3 v hv
    exact fun A Q E s k q => wpAny_pure q
  refine wpAny_bind (wpAny_mono (PySem.W.kat_run (Q := fun st' s' => ∃ p : Array Nat, PermN vs.length p ∧ arrOf st' = p.map (PySem.W.kas_item (vs.toArray.zip vs.toArray)) ∧ failedOf st' = none ∧ s' = { s with heap := ((s.heap.update a (Obj.mapSeq fun _ => #[])).push (seqObj "tuple" vs.toArray 0)).push (seqObj "list" #[] 0) })
    (G := fun p s' => PermN vs.length p ∧ s' = { s with heap := ((s.heap.update a (Obj.mapSeq fun _ => #[])).push (seqObj "tuple" vs.toArray 0)).push (seqObj "list" #[] 0) }) rfl h2 h64 (fun p' st' s' a1 a2 a3 a4 => ⟨p', a4.1, a2, a3, a4.2⟩)
    (AskOk.run (fun i j C hi hj hC => two_ask hT6 _ i j C hi hj hC) (fun p hp => ⟨hp, rfl⟩) _ (ask_sort (by omega)))) ?_ fun _ _ e => e)
  rintro ⟨⟨⟩, st'⟩ s' ⟨p, hp, har, hf, rfl⟩
  dsimp only
  have hout := PySem.W.kat_snds rfl har
  have hsz : (List.toArray (p.toList.map fun i => vs.getD i Value.none)).size = vs.length := by
    rw [List.size_toArray, List.length_map, Array.length_toList]
    have := hp.size_eq
    simpa using this
  rw [hout]
  refine wpAny_bind (seqEpoch_at ho6 rfl ?_)
  refine wpAny_bind (listUpdate_at ho6 rfl ?_ (Nat.zero_le _) (by omega))
  rw [hf]
  simp only [bne_self_eq_false, Bool.false_eq_true, if_false]
  exact wpAny_pure (h p hp)
end
theorem vals_pick {xs : List V} {vs : List Value} (hv : Vals xs vs) {p : Array Nat} (hp : PermN vs.length p) : ∃ ys : List V, ys.Perm xs ∧ Vals ys (p.toList.map fun i => vs.getD i Value.none) := by
  have hl := hv.length
  refine ⟨p.toList.map fun i => xs.getD i .non, ?_, ?_⟩
  · have h1 : (p.toList.map fun i => xs.getD i .non).Perm ((List.range vs.length).map fun i => xs.getD i .non) := (Array.perm_iff_toList_perm.mp hp).map _
    refine h1.trans (List.Perm.of_eq ?_)
    refine List.ext_getElem (by simp; omega) fun i g1 g2 => ?_
    simp [g2]
  · refine vals_of_get (by simp) fun i x u hx hu => ?_
    rw [List.getElem?_map] at hx hu
    obtain ⟨m, hm, rfl⟩ := Option.map_eq_some_iff.mp hx
    rw [hm] at hu
    cases hu
    have hlt : m < vs.length := by
      have := (Array.perm_iff_toList_perm.mp hp).mem_iff.mp (List.mem_of_getElem? hm)
      simpa using this
    have g1 : xs[m]? = some xs[m] := List.getElem?_eq_getElem (by omega)
    obtain ⟨u', hu', ru⟩ := hv.get g1
    have e1 : xs.getD m .non = xs[m] := by simp [show m < xs.length by omega]
    have e2 : vs.getD m Value.none = u' := by
      rw [List.getElem?_eq_getElem hlt] at hu'
      rw [← Option.some.inj hu']
      simp [hlt]
    show RelV (xs.getD m .non) (vs.getD m Value.none)
    rw [e1, e2]
    exact ru
theorem call_qSrtP {X : Cx} : CallR X (.builtin "sorted") qSrtP := by
  intro pins s σ H vs us Q I r h
  obtain ⟨p, xs, rfl, e, hpa, h2, hl, q⟩ := h
  cases r with
  | cons r rr =>
    cases rr
    cases r
    obtain ⟨z, its, n, r', hlen, hg⟩ := I.lstM e
    have hit : its.length ≤ sizeLine := len5000 (by omega)
    have hT : TwoAt s.heap its := fun v hv => by
      obtain ⟨m, hm, em⟩ := List.getElem_of_mem hv
      have g1 : xs[m]? = some (xs[m]'(by omega)) := List.getElem?_eq_getElem _
      obtain ⟨u', hu', ru⟩ := r'.get g1
      rw [List.getElem?_eq_getElem hm, em] at hu'
      cases hu'
      obtain ⟨a, i, j, ex, ha⟩ := hpa _ (List.mem_of_getElem? g1)
      rw [ex] at ru
      cases ru
      obtain ⟨hz2, ts, tv, ht⟩ := (show ObjOk X.prog X.w H s.heap a (.tup [.int i, .int j]) from I.hok a _ ha)
      obtain ⟨o, ho, hc, n', hd⟩ := ht
      cases tv with
      | cons r1 tv =>
        cases tv with
        | cons r2 tv =>
          cases tv
          obtain ⟨t1, rfl⟩ := (show ∃ t, _ = Value.int i t from r1)
          obtain ⟨t2, rfl⟩ := (show ∃ t, _ = Value.int j t from r2)
          exact ⟨a, o, n', i, j, t1, t2, rfl, ho, hc, hd⟩
    refine Calls.call_function_entry kind_sorted plain_sorted entry_sorted (args_sorted1 _) ?_
    unfold Builtin.«sorted»
    refine wpAny_bind (m := checkCount "sorted" 1 1 _) (wpAny_pure ?_)
    refine wpAny_bind (collect_list (vs := its) ⟨_, hg, rfl, n, rfl⟩ ?_ hit)
    refine wpAny_bind (wpAny_newList ?_ hit)
    have hsz : ((s.heap.push (seqObj "list" #[] 0)).update s.heap.objs.size (Obj.mapSeq (· ++ its.toArray))).objs.size = s.heap.objs.size + 1 := by
      rw [Heap.size_update, size_push']
    have hoL : (((s.heap.push (seqObj "list" #[] 0)).update s.heap.objs.size (Obj.mapSeq (· ++ its.toArray))).push (seqObj "list" its.toArray 0)).get? (s.heap.objs.size + 1) = some (seqObj "list" its.toArray 0) := by
      rw [← hsz]; exact Heap.get?_push_size _ rfl
    have keep : ∀ b o, s.heap.get? b = some o → (((s.heap.push (seqObj "list" #[] 0)).update s.heap.objs.size (Obj.mapSeq (· ++ its.toArray))).push (seqObj "list" its.toArray 0)).get? b = some o := fun b o q => by
      have hlt : b < s.heap.objs.size := Heap.lt_size q
      rw [Heap.get?_push_ne _ _ _ (by rw [hsz]; exact Nat.ne_of_lt (Nat.lt_succ_of_lt hlt)), Heap.get?_update_ne _ _ _ _ (Nat.ne_of_lt hlt), Heap.get?_push_ne _ _ _ (Nat.ne_of_lt hlt)]
      exact q
    show wpAny _ _ _ _ _ { s with heap := ((s.heap.push (seqObj "list" #[] 0)).update s.heap.objs.size (Obj.mapSeq (· ++ its.toArray))).push (seqObj "list" its.toArray 0) }
    rw [hsz]
    refine wpAny_bind (wpAny_holding (wpAny_call_entry slot_list_sort ⟨_, hoL, rfl⟩ entry_list_sort (list_sort_two hoL (fun v hv => ?_) (fun v hv z => ?_) (by omega) (by omega) fun pa hpm => ⟨_, rfl, ?_⟩) (args_list_sort _)))
    · obtain ⟨b, o, n, i, j, t, u, e, hb, hc, hd⟩ := hT v hv
      exact ⟨b, o, n, i, j, t, u, e, keep _ _ hb, hc, hd⟩
    · obtain ⟨b, o, n, i, j, t, u, e, hb, hc, hd⟩ := hT v hv
      rw [e] at z
      have := Heap.lt_size hb
      cases z
      exact absurd this (Nat.not_lt.mpr (Nat.le_succ _))
    · refine wpAny_pure ⟨_, rfl, ?_⟩
      obtain ⟨ys, py, vy⟩ := vals_pick r' hpm
      have fr := I.hok.fresh (a := s.heap.objs.size + 1) (Nat.le_succ _)
      obtain ⟨e', he'⟩ := sortedHeap_at (out := List.toArray (pa.toList.map fun i => its.getD i Value.none)) hoL
      refine ⟨.ref (s.heap.objs.size + 1), _, I.laid (t' := s.toks) (o := .lst ys) (fun b u hb => ?_) (Nat.le_succ _) ⟨?_, _, e', vy, he'⟩, rfl, q ys py _ _ fr (Ext.new fr) upd_same⟩
      · have hlt := Heap.lt_size hb
        rw [sortedHeap_old (Nat.ne_of_lt (Nat.lt_succ_of_lt hlt)) (by rw [size_push', hsz]; exact Nat.lt_succ_of_lt (Nat.lt_succ_of_lt hlt))]
        exact keep _ _ hb
      · rw [py.length_eq]; exact len5000 (by omega)
end L2
set_option Elab.async false
set_option linter.all false
set_option maxRecDepth 100000
set_option maxHeartbeats 4000000
namespace L2
open PySem PySem.Spec PyProof.Rows
def kThS (H : Hp) (nx : St → Hp → Prop) : St → Hp → Prop := fun σ' H' => ∃ a ob kvs kvs0, H a = some (.dK kvs0) ∧ H' a = some (.frz ob (.dK kvs)) ∧ nx σ' (upd H' a (.dK kvs))
def sThaw (t : TS) : TS := fun D σ H => t ⟨kThS H D.nx, kThaw H D.rt, D.bk, D.ct⟩ σ H
theorem m_sThaw (t : TS) (nx : St → Hp → Prop) (rt : VK) (bk ct : St → Hp → Prop) (σ : St) (H : Hp) : sThaw t ⟨nx, rt, bk, ct⟩ σ H = t ⟨kThS H nx, kThaw H rt, bk, ct⟩ σ H := rfl
theorem ps_thaw {X : Cx} {st : Stmt} {t : TS} (h : PS X st t) : PS X st (sThaw t) := by
  intro pins s σ H D I hh
  refine thn (h pins s σ H _ I hh) fun f s1 hs => ?_
  cases f with
  | next =>
    obtain ⟨σ', H', I1, a, ob, kvs, kvs0, h0, hf, q⟩ := hs
    exact ⟨σ', _, I1.thaw hf fun o w z => (by have := I.base.frzs a o w z; rw [h0] at this; cases this), q⟩
  | brk => exact hs
  | cont => exact hs
  | ret u =>
    obtain ⟨v, σ', H', I1, r1, a, ob, kvs, kvs0, h0, hf, q⟩ := hs
    exact ⟨v, σ', _, I1.thaw hf fun o w z => (by have := I.base.frzs a o w z; rw [h0] at this; cases this), r1, q⟩
section
variable {g : TG} {tb : TS} {nx : St → Hp → Prop} {rt : VK} {bk ct : St → Hp → Prop} {σ : St} {H : Hp}
theorem for_dict {a : Addr} {kvs : List (Key × V)} (Pv : Obj → Nat → St → Hp → Prop) (ha : H a = some (.dK kvs)) (h0 : ∀ ob, Pv ob 0 σ (upd H a (.frz ob (.dK kvs)))) (hl : ∀ ob i σ' H', Pv ob i σ' H' → H' a = some (.frz ob (.dK kvs)))
    (hs : ∀ ob i z σ' H', kvs[i]? = some z → Pv ob i σ' H' → H' a = some (.frz ob (.dK kvs)) → g (kV z.1) σ' H' (kBody tb ⟨Pv ob (i + 1), kThaw H rt, kThS H nx, Pv ob (i + 1)⟩)) (hd : ∀ ob σ' H', Pv ob kvs.length σ' H' → nx σ' (upd H' a (.dK kvs))) :
    kIDc (kFor g tb ⟨kThS H nx, kThaw H rt, bk, ct⟩ σ) (.ref a) H := by
  refine ⟨a, kvs, rfl, ha, fun ob => ?_⟩
  refine ⟨fun i m σ' H' => m = kvs.length - i ∧ i ≤ kvs.length ∧ Pv ob i σ' H', ⟨kvs.length, by simp, Nat.zero_le _, h0 ob⟩, ?_⟩
  rintro i m σ' H' ⟨rfl, hi, p⟩
  have qa := hl ob i σ' H' p
  by_cases hlt : i < kvs.length
  · refine .inr ⟨⟨qa, hlt⟩, Pv ob (i + 1), fun σ'' H'' p' => ⟨kvs.length - (i + 1), by omega, rfl, hlt, p'⟩, fun x H'' y => ?_⟩
    obtain ⟨rfl, z, hz, rfl⟩ := y
    exact hs ob i z σ' _ hz p qa
  · have e : i = kvs.length := by omega
    subst e
    exact .inl ⟨⟨qa, Nat.le_refl _⟩, a, ob, kvs, kvs, ha, qa, hd ob σ' H' p⟩
end
def Iti (a : Addr) (ob : Obj) (kvs : List (Key × V)) : It :=
  ⟨fun i H => H a = some (.frz ob (.dK kvs)) ∧ i < kvs.length, fun i H x H' => ∃ p z, H p = none ∧ x = .ref p ∧ kvs[i]? = some z ∧ H' = upd H p (.tup [kV z.1, z.2]), fun i H => H a = some (.frz ob (.dK kvs)) ∧ kvs.length ≤ i⟩
section
variable {prog : Program} {w : World} {A : Around} {E : Value → Shared → Prop} {s : Shared}
theorem entry_itemiter_iter : entryFor table "dict_itemiterator.__iter__" = some Builtin.«dict_keyiterator.__iter__» := entryFor_alias (id' := "dict_keyiterator.__iter__") (by kernel_rfl) rfl (by decide +kernel) (by kernel_rfl)
theorem pyIter_itemiter {it d : Addr} {i n ep : Nat} {ok ov : Value} {Q : Value → Shared → Prop} (hit : IsItemIter s.heap it d i n ep ok ov) (h : Q (.ref it) s) : wpAny (model prog w) A (pyIter (.ref it)) Q E s := by
  have hT : s.TypeIs (.ref it) "dict_itemiterator" := ⟨_, hit, rfl⟩
  refine wpAny_pyIter_slot hT F.slot_dict_itemiterator_iter (wpAny_call_entry F.slot_dict_itemiterator_iter hT entry_itemiter_iter ?_ (F.args_dict_itemiterator_iter_1 _))
  show wpAny _ _ (ret (.ref it)) _ _ s
  exact wpAny_pure ⟨_, rfl, "dict_itemiterator", _, hT, F.slot_dict_itemiterator_next.lookup, h⟩
end
theorem turn_items {P : Program} {w : World} {K : PySem.W.Frag} {elts : List Expr} {x1} {tp : Pos} (a it : Addr) (ob : Obj) (kvs : List (Key × V)) (vs : List (Key × Value)) (ep : Nat) (kx : KV kvs vs) (dx : DObj P w ob vs ep) : Turn P w K (.Tuple elts x1 tp) (Iti a ob kvs) [it] it (fun i h => ∃ ok ov, IsItemIter h it a i vs.length ep ok ov) where
  mem := by simp
  obj := fun i h st b hb => by
    have e : b = it := by simpa using hb
    subst e
    obtain ⟨ok, ov, e⟩ := st
    exact ⟨_, e, fun v z => by cases z⟩
  keep := fun i h h' st k => by
    obtain ⟨ok, ov, e⟩ := st
    exact ⟨ok, ov, k it (by simp) _ e⟩
  item := by
    intro X hP hw hK hc i pins s σ H E I hf st hg
    subst hP hw hK
    obtain ⟨ha, hi⟩ := hg
    obtain ⟨ok, ov, st⟩ := st
    have hob := (show ObjOk X.prog X.w H s.heap a (.frz ob (.dK kvs)) from I.hok a _ ha).1
    obtain ⟨q, hq, hk, hr⟩ := kv_get' kx (List.getElem?_eq_getElem hi)
    have hil : it < s.heap.objs.size := Heap.lt_size st
    refine wpAny_pyNext_items_item st (dx _ a hob) (k := q.1) (v := q.2) hq fun key h1 hkey heo ht hz hk1 => ⟨_, rfl, ?_⟩
    refine wpAny_letOwnedTupleGo_items heo fun h2 he2 hs2 => ?_
    replace hs2 : Heap.SameBut it h1 h2 := hs2
    have hT2 : h2.IsTuple s.heap.objs.size #[key, q.2] := ⟨_, (hs2.2 _ (Nat.ne_of_gt hil)).trans ht, rfl, _, rfl⟩
    have rk : RelV (kV kvs[i].1) key := by rw [hk]; exact relV_key hkey
    have I2 : Inv X pins σ (upd H s.heap.objs.size (.tup [kV kvs[i].1, kvs[i].2])) { s with heap := h2, toks := s.toks } := I.turnNew (t' := s.toks) (ch := [it]) hf (fun b o hb e => hs2.extBut b o (by simpa using hb) (hk1 b o (by simpa using hb) e)) (Nat.le_refl _) ⟨(show 2 ≤ sizeLine by decide), [key, q.2], .cons rk (.cons hr .nil), hT2⟩
    have fr : H s.heap.objs.size = none := I.hok.fresh (Nat.le_refl _)
    refine ⟨.ref s.heap.objs.size, _, I2, rfl, ⟨_, _, fr, rfl, List.getElem?_eq_getElem hi, rfl⟩, ⟨_, _, he2⟩, fun c hc => ?_⟩
    have e : c = it := by simpa using hc
    subst e
    rw [upd_ne (Nat.ne_of_lt hil)]
    exact (hf _ (by simp)).1
  done := by
    intro X hP hw hK hc i pins s σ H E I hf st hg
    subst hP hw hK
    obtain ⟨ha, hi⟩ := hg
    obtain ⟨ok, ov, st⟩ := st
    have hob := (show ObjOk X.prog X.w H s.heap a (.frz ob (.dK kvs)) from I.hok a _ ha).1
    have hlen : kvs.length = vs.length := Paired.length kx
    obtain ⟨f0, f1, f2, f3, f4, f5⟩ := hf it (by simp)
    exact wpAny_pyNext_items_end (I.ok.hd hc) st (dx _ a hob) (by simp; omega) fun h' eb => ⟨rfl, I.turned (t' := s.toks) (fun b o hb e => eb b o hb e) f0 f1 f3 f4 f5⟩
  self := fun A i s Q E st h => by
    obtain ⟨ok, ov, e⟩ := st
    exact pyIter_itemiter e h
def kIIt (R : It → Hp → Prop) : VK := fun x H1 => ∃ a kvs, x = .ref a ∧ H1 a = some (.dK kvs) ∧ ∀ ob, R (Iti a ob kvs) (upd H1 a (.frz ob (.dK kvs)))
def iItems (tl : TE) : TI := fun σ H R => tl σ H (kIIt R)
theorem m_iItems (tl : TE) (σ : St) (H : Hp) (R : It → Hp → Prop) : iItems tl σ H R = tl σ H (kIIt R) := rfl
theorem pi_items {X : Cx} {elts : List Expr} {x1} {tp apos pos : Pos} {l : Expr} {tl : TE} (hl : PE X l tl) (hbase : attributeBase l "items" X.env (eval l X.env) = eval l X.env := by rfl) (hline : (apos.endLine == pos.line) = true := by rfl) : PI X (.Tuple elts x1 tp) (.Call (.Attribute l "items" apos) [] [] pos) (iItems tl) := by
  intro pins s σ H R I h
  refine wpAny_Call_method (T := "dict") (id := "dict.items") hbase rfl hline F.plainAttrs_dict F.slot_dict_items F.type_dict_items (thn (hl pins s σ H _ I h) fun v s1 ⟨x, H1, I1, r1, q1⟩ => ?_)
  obtain ⟨a, kvs, e, ha, q⟩ := q1
  subst e
  cases r1
  have hO : ObjOk X.prog X.w H1 s1.heap a (.dK kvs) := I1.hok a _ ha
  obtain ⟨z0, lo, vs, kx, dd⟩ := id hO
  obtain ⟨ep, hat⟩ := dd.dictAt
  obtain ⟨ob, es, ho, rest⟩ := id hat
  have dx : DObj X.prog X.w ob vs ep := fun h b hb => ⟨ob, es, hb, rest⟩
  refine ⟨hat.dictOf.typeIs, hat.dictOf.mapOf.noDict, ?_⟩
  show wpAny _ _ (callWith pos (.builtin "dict.items") [.ref a] [] []) _ _ s1
  refine method_meetsIn F.slot_dict_items F.entry_dict_items rfl (PySem.evalArgs_none ⟨rfl, hat.dictOf.typeIs, F.args_dict_items_1 _, _, meets_dict_items (mixKind X.prog X.w) a lo, ⟨vs, hat.dictOf⟩, ?_⟩)
  refine wpAny_pyIter_items (knd := mixKind X.prog X.w) (d := a) (kvs := vs) (ep := ep) ⟨_, Heap.get?_push_size _ rfl, rfl, rfl⟩ (hat.push _) ?_
  have hO' : ObjOk X.prog X.w (upd H1 a (.frz ob (.dK kvs))) s1.heap a (.frz ob (.dK kvs)) := ⟨ho, ⟨z0, lo, vs, kx, dd⟩⟩
  have I2 := I1.write (t' := s1.toks) (x := a) (e := a) (o := .frz ob (.dK kvs)) (h' := s1.heap) (by rw [ha]; trivial) (.inl rfl) (fun b u _ e => e) ⟨ob, ho⟩ hO'
  have hsz : (s1.heap.push { cls := .type "dict_items", data := .fields #[.ref a] }).objs.size = s1.heap.objs.size + 1 := Heap.size_push ..
  refine ⟨_, [(s1.heap.push { cls := .type "dict_items", data := .fields #[.ref a] }).objs.size], _, _, _, rfl, I2.kept (t' := s1.toks) fun b o e => Heap.get?_push_of_some _ (Heap.get?_push_of_some _ e), turn_items a _ ob kvs vs ep kx dx, ⟨_, _, Heap.get?_push_size _ rfl⟩, fun b hb => ?_, q ob⟩
  have e : b = (s1.heap.push { cls := .type "dict_items", data := .fields #[.ref a] }).objs.size := by simpa using hb
  have hle : s1.heap.objs.size ≤ b := by rw [e, hsz]; exact Nat.le_succ _
  exact I2.fpOk hle (I2.hok.fresh hle)
section
variable {g : TG} {tb : TS} {nx : St → Hp → Prop} {rt : VK} {bk ct : St → Hp → Prop} {σ : St} {H : Hp}
theorem for_items {a : Addr} {kvs : List (Key × V)} (Pv : Obj → Nat → St → Hp → Prop) (ha : H a = some (.dK kvs)) (h0 : ∀ ob, Pv ob 0 σ (upd H a (.frz ob (.dK kvs)))) (hl : ∀ ob i σ' H', Pv ob i σ' H' → H' a = some (.frz ob (.dK kvs)))
    (hs : ∀ ob i z p σ' H' H'', kvs[i]? = some z → Pv ob i σ' H' → H' p = none → Ext H' H'' → H'' p = some (.tup [kV z.1, z.2]) → g (.ref p) σ' H'' (kBody tb ⟨Pv ob (i + 1), kThaw H rt, kThS H nx, Pv ob (i + 1)⟩)) (hd : ∀ ob σ' H', Pv ob kvs.length σ' H' → nx σ' (upd H' a (.dK kvs))) :
    kIIt (kFor g tb ⟨kThS H nx, kThaw H rt, bk, ct⟩ σ) (.ref a) H := by
  refine ⟨a, kvs, rfl, ha, fun ob => ?_⟩
  refine ⟨fun i m σ' H' => m = kvs.length - i ∧ i ≤ kvs.length ∧ Pv ob i σ' H', ⟨kvs.length, by simp, Nat.zero_le _, h0 ob⟩, ?_⟩
  rintro i m σ' H' ⟨rfl, hi, p⟩
  have qa := hl ob i σ' H' p
  by_cases hlt : i < kvs.length
  · refine .inr ⟨⟨qa, hlt⟩, Pv ob (i + 1), fun σ'' H'' p' => ⟨kvs.length - (i + 1), by omega, rfl, hlt, p'⟩, fun x H'' y => ?_⟩
    obtain ⟨r, z, hr, rfl, hz, rfl⟩ := y
    exact hs ob i z r σ' H' _ hz p hr (Ext.new hr) upd_same
  · have e : i = kvs.length := by omega
    subst e
    exact .inl ⟨⟨qa, Nat.le_refl _⟩, a, ob, kvs, kvs, ha, qa, hd ob σ' H' p⟩
end
def qDict : List V → Hp → VK → Prop := fun vs H Q => ∃ p kvs, vs = [.ref p] ∧ H p = some (.dK kvs) ∧ kvs.length ≤ sizeLine ∧ newK (.dK kvs) H Q
theorem use_dict {p : Addr} {kvs : List (Key × V)} {H : Hp} {Q : VK} (e : H p = some (.dK kvs)) (hl : kvs.length ≤ sizeLine) (q : newK (.dK kvs) H Q) : qDict [.ref p] H Q := ⟨p, kvs, rfl, e, hl, q⟩
theorem call_qDict {X : Cx} : CallR X (.type "dict") qDict := by
  intro pins s σ H vs us Q I r h
  obtain ⟨p, kvs, rfl, ha, hl, q⟩ := h
  cases r with
  | cons r rr =>
    cases rr
    cases r
    have hO : ObjOk X.prog X.w H s.heap p (.dK kvs) := I.hok p _ ha
    obtain ⟨z0, lo, vs, kx, dd⟩ := id hO
    refine kt_call_dict lo dd (by rw [← kx.length]; exact hl) fun h' hd hs => ?_
    have fr := I.hok.fresh (Nat.le_refl _)
    have lo' : (s.heap.objs.size == sysModules) = false := beq_eq_false_iff_ne.mpr (Ne.symm (Nat.ne_of_lt I.big))
    refine ⟨.ref s.heap.objs.size, _, I.laid (t' := s.toks) (o := .dK kvs) (fun b u hb => ?_) (Nat.le_refl _) ⟨z0, lo', vs, kx, hd⟩, rfl, q _ _ fr (Ext.new fr) upd_same⟩
    · exact (hs.2 b (Nat.ne_of_lt (Heap.lt_size hb))).trans (Heap.get?_push_of_some _ hb)
end L2
set_option Elab.async false
set_option linter.all false
set_option maxRecDepth 100000
set_option maxHeartbeats 4000000
namespace L2
open PySem PySem.Spec PyProof.Rows
theorem mo_inD {neg : Bool} : MR (rInD neg) := fun x y H Q Q' m ⟨a, o, e, d, q⟩ => ⟨a, o, e, d, m _ _ q⟩
theorem mo_qLenD : MC qLenD := fun x H Q Q' m ⟨p, kvs, e, h, q⟩ => ⟨p, kvs, e, h, m _ _ q⟩
theorem mo_dget2 {td ty tx : TE} (h1 : ME td) (h2 : ME ty) (h3 : ME tx) : ME (tDGet2 td ty tx) := fun σ H Q Q' m q => h1 σ H _ _ (fun _ _ ⟨a, e, d, q⟩ => ⟨a, e, d, h2 σ _ _ _ (fun _ _ q => h3 σ _ _ _ (fun _ _ ⟨o, d, q⟩ => ⟨o, d, m _ _ q⟩) q) q⟩) q
def putI (kv : List (Int × Int)) (c v : Int) : List (Int × Int) := if (lookI kv c).isSome = true then kv.map (fun p => if p.1 = c then (p.1, v) else p) else kv ++ [(c, v)]
theorem put_tabI (kv : List (Int × Int)) (c v : Int) : putK (tabI kv) (.inl c) (.int v) = tabI (putI kv c v) := by
  unfold putI
  cases h : lookI kv c with
  | none => rw [if_neg (by simp)]; exact put_tab v h
  | some j =>
    rw [if_pos (show (some j).isSome = true from rfl)]
    unfold putK
    rw [valV_any, val_tab, h, Option.map_some, if_pos (show (some (V.int j)).isSome = true from rfl)]
    unfold tabI
    rw [List.map_map, List.map_map]
    refine List.map_congr_left fun p _ => ?_
    show (if (Sum.inl p.1 : Key) = Sum.inl c then _ else _) = _
    by_cases e : p.1 = c
    · rw [if_pos (congrArg Sum.inl e)]; simp [e]
    · rw [if_neg (inl_ne e)]; simp [e]
theorem look_put (kv : List (Int × Int)) (c v x : Int) : lookI (putI kv c v) x = if x = c then some v else lookI kv x := by
  have h := valV_put (tabI kv) (.inl c : Key) (.inl x) (.int v)
  rw [put_tabI, val_tab, val_tab] at h
  by_cases e : x = c
  · rw [if_pos (congrArg Sum.inl e)] at h
    rw [if_pos e]
    cases hl : lookI (putI kv c v) x with
    | none => rw [hl] at h; cases h
    | some j => rw [hl] at h; simp only [Option.map_some, Option.some.injEq, V.int.injEq] at h; rw [h]
  · rw [if_neg (inl_ne e)] at h
    rw [if_neg e]
    cases hl : lookI (putI kv c v) x with
    | none =>
      cases hr : lookI kv x with
      | none => rfl
      | some j => rw [hl, hr] at h; cases h
    | some i =>
      cases hr : lookI kv x with
      | none => rw [hl, hr] at h; cases h
      | some j => rw [hl, hr] at h; simp only [Option.map_some, Option.some.injEq, V.int.injEq] at h; rw [h]
theorem look_mem {kv : List (Int × Int)} {c v : Int} (h : lookI kv c = some v) : (c, v) ∈ kv := by
  unfold lookI at h
  obtain ⟨p, hp, rfl⟩ := Option.map_eq_some_iff.mp h
  have e : p.1 = c := by simpa using List.find?_some hp
  rw [← e]
  exact List.mem_of_find?_eq_some hp
theorem look_none {kv : List (Int × Int)} {c : Int} : lookI kv c = none ↔ c ∉ kv.map (·.1) := by
  unfold lookI
  rw [Option.map_eq_none_iff, List.find?_eq_none]
  constructor
  · intro h hm
    obtain ⟨p, hp, e⟩ := List.mem_map.mp hm
    exact h p hp (by simpa using e)
  · intro h p hp e
    exact h (List.mem_map.mpr ⟨p, hp, by simpa using e⟩)
theorem look_some {kv : List (Int × Int)} {c : Int} : (lookI kv c).isSome = true ↔ c ∈ kv.map (·.1) := by
  cases h : lookI kv c with
  | none => simp; exact fun x hx => look_none.mp h (List.mem_map.mpr ⟨(c, x), hx, rfl⟩)
  | some v => simp; exact ⟨v, look_mem h⟩
theorem look_of {kv : List (Int × Int)} (hn : (kv.map (·.1)).Nodup) {c v : Int} (h : (c, v) ∈ kv) : lookI kv c = some v := by
  induction kv with
  | nil => exact absurd h List.not_mem_nil
  | cons p r ih =>
    have hn' := List.nodup_cons.mp (show (p.1 :: r.map (·.1)).Nodup from hn)
    rcases List.mem_cons.mp h with rfl | h
    · exact lookI_pos rfl
    · rw [lookI_neg fun e => hn'.1 (by rw [e]; exact List.mem_map.mpr ⟨(c, v), h, rfl⟩)]
      exact ih hn'.2 h
theorem putI_keys {kv : List (Int × Int)} {c v : Int} (h : (lookI kv c).isSome = true) : (putI kv c v).map (·.1) = kv.map (·.1) := by
  unfold putI
  rw [if_pos h, List.map_map]
  refine List.map_congr_left fun p _ => ?_
  show (if p.1 = c then (p.1, v) else p).1 = p.1
  split <;> rfl
theorem putI_new {kv : List (Int × Int)} {c v : Int} (h : lookI kv c = none) : putI kv c v = kv ++ [(c, v)] := by
  unfold putI
  rw [h]
  rfl
theorem putI_nodup {kv : List (Int × Int)} (hn : (kv.map (·.1)).Nodup) (c v : Int) : ((putI kv c v).map (·.1)).Nodup := by
  cases h : lookI kv c with
  | some j => rw [putI_keys (by rw [h]; rfl)]; exact hn
  | none =>
    rw [putI_new h, List.map_append, List.nodup_append]
    refine ⟨hn, List.nodup_cons.mpr ⟨List.not_mem_nil, List.nodup_nil⟩, fun x hx y hy e => ?_⟩
    rw [List.map_cons, List.map_nil, List.mem_singleton] at hy
    rw [e, hy] at hx
    exact look_none.mp h hx
theorem putI_len (kv : List (Int × Int)) (c v : Int) : (putI kv c v).length ≤ kv.length + 1 := by
  unfold putI
  split
  · rw [List.length_map]; omega
  · simp
theorem tab_keys (kv : List (Int × Int)) : (tabI kv).map (·.1) = (kv.map (·.1)).map (Sum.inl : Int → Key) := by unfold tabI; rw [List.map_map, List.map_map]; rfl
theorem tab_len (kv : List (Int × Int)) : (tabI kv).length = kv.length := by unfold tabI; rw [List.length_map]
theorem findIdx_ints : ∀ (a b : List Int) (c : Int), c ∉ a → (((a ++ c :: b).map PyData.int).findIdx? fun z => PyData.eqv z (.int c)) = some a.length
  | [], b, c, _ => by
    rw [List.nil_append, List.map_cons, List.findIdx?_cons]
    simp [eqv_int]
  | x :: a, b, c, h => by
    have ih := findIdx_ints a b c fun m => h (List.mem_cons_of_mem _ m)
    have e : ¬ x = c := fun e => h (by rw [e]; exact List.mem_cons_self)
    rw [List.cons_append, List.map_cons, List.findIdx?_cons, ih]
    simp [eqv_int, e]
theorem use_idxI {l : Addr} {a b : List Int} {c : Int} {H : Hp} {Q : VK} (h : H l = some (.lst ((a ++ c :: b).map V.int))) (hc : c ∉ a) (q : Q (.int (a.length : Int)) H) : rIndex (.ref l) [.int c] H Q :=
  ⟨l, _, .int c, .int c, (a ++ c :: b).map PyData.int, a.length, rfl, rfl, h, rfl, allSome_ints H _ _, findIdx_ints a b c hc, q⟩
end L2
namespace PH
def Pth (f : Int → Option Int) : List Int → Int → Prop
  | [], _ => True
  | [c], e => f c = some e
  | c :: d :: l, e => f c = some d ∧ Pth f (d :: l) e
def Ring (f : Int → Option Int) (l : List Int) : Prop := ∃ c t, l = c :: t ∧ Pth f (c :: t) c ∧ (c :: t).Nodup
section
variable {f : Int → Option Int}
theorem Pth.cons {c e : Int} {l : List Int} (h : f c = some (l.headD e)) (hp : Pth f l e) : Pth f (c :: l) e := by
  cases l with
  | nil => exact h
  | cons d l => exact ⟨h, hp⟩
theorem Pth.head {c e : Int} {l : List Int} (h : Pth f (c :: l) e) : f c = some (l.headD e) := by
  cases l with
  | nil => exact h
  | cons d l => exact h.1
theorem Pth.tail {c e : Int} {l : List Int} (h : Pth f (c :: l) e) : Pth f l e := by
  cases l with
  | nil => trivial
  | cons d l => exact h.2
theorem Pth.app {d e : Int} : ∀ {a : List Int} {b : List Int}, Pth f a (b.headD e) → Pth f b e → Pth f (a ++ b) e
  | [], b, _, h => h
  | c :: a, b, h, hb => by
    refine Pth.cons ?_ (Pth.app (d := d) h.tail hb)
    rw [h.head]
    cases a with
    | nil => rfl
    | cons x a => rfl
theorem Pth.left {e : Int} : ∀ {a : List Int} {b : List Int}, Pth f (a ++ b) e → Pth f a (b.headD e)
  | [], b, _ => trivial
  | c :: a, b, h => by
    have h1 : f c = some ((a ++ b).headD e) := h.head
    have h2 := Pth.left (a := a) h.tail
    refine Pth.cons ?_ h2
    rw [show (a ++ b).headD e = a.headD (b.headD e) by cases a <;> rfl] at h1
    exact h1
theorem Pth.right {e : Int} : ∀ {a : List Int} {b : List Int}, Pth f (a ++ b) e → Pth f b e
  | [], b, h => h
  | c :: a, b, h => Pth.right (a := a) h.tail
theorem Pth.snoc {t : List Int} {c d : Int} (h : Pth f t c) (hd : f c = some d) : Pth f (t ++ [c]) d := Pth.app (d := d) h hd
theorem Pth.mem {e : Int} : ∀ {l : List Int}, Pth f l e → ∀ {x : Int}, x ∈ l → ∃ d, f x = some d ∧ (d ∈ l ∨ d = e)
  | [], _, x, h => absurd h List.not_mem_nil
  | c :: l, hp, x, h => by
    rcases List.mem_cons.mp h with rfl | h
    · refine ⟨_, hp.head, ?_⟩
      cases l with
      | nil => exact .inr rfl
      | cons d l => exact .inl (by simp)
    · obtain ⟨d, h1, h2⟩ := Pth.mem hp.tail h
      exact ⟨d, h1, h2.imp (List.mem_cons_of_mem _) id⟩
theorem Ring.mem {l : List Int} (h : Ring f l) {x : Int} (hx : x ∈ l) : ∃ d, f x = some d ∧ d ∈ l := by
  obtain ⟨c, t, rfl, hp, hn⟩ := h
  obtain ⟨d, h1, h2⟩ := hp.mem hx
  exact ⟨d, h1, h2.elim id fun e => by rw [e]; exact List.mem_cons_self⟩
theorem Ring.nodup {l : List Int} (h : Ring f l) : l.Nodup := by obtain ⟨c, t, rfl, _, hn⟩ := h; exact hn
theorem Ring.rot {a b : List Int} (h : Ring f (a ++ b)) : Ring f (b ++ a) := by
  cases b with
  | nil => simpa using h
  | cons c b =>
    cases a with
    | nil => simpa using h
    | cons x a =>
      obtain ⟨y, t, e, hp, hn⟩ := h
      obtain ⟨rfl, rfl⟩ := List.cons.inj e
      have h1 : Pth f (x :: a ++ c :: b) x := hp
      have h2 := h1.left
      have h3 := h1.right
      refine ⟨c, b ++ x :: a, rfl, ?_, ?_⟩
      · exact Pth.app (d := 0) (a := c :: b) (b := x :: a) h3 h2
      · have : (x :: a ++ c :: b).Perm (c :: b ++ x :: a) := List.perm_append_comm
        exact this.nodup_iff.mp hn
theorem pth_two {c : Int} : ∀ {l1 l2 : List Int} {d : Int}, Pth f (d :: l1) c → Pth f (d :: l2) c → c ∉ l1 → c ∉ l2 → l1 = l2
  | [], [], _, _, _, _, _ => rfl
  | [], y :: l2, d, h1, h2, n1, n2 => by
    have e1 := h1.head
    have e2 := h2.head
    rw [e1] at e2
    exact absurd (Option.some.inj e2) fun e => n2 (by rw [show c = y from e]; exact List.mem_cons_self)
  | x :: l1, [], d, h1, h2, n1, n2 => by
    have e1 := h1.head
    have e2 := h2.head
    rw [e1] at e2
    exact absurd (Option.some.inj e2) fun e => n1 (by rw [← show x = c from e]; exact List.mem_cons_self)
  | x :: l1, y :: l2, d, h1, h2, n1, n2 => by
    have e1 := h1.head
    have e2 := h2.head
    rw [e1] at e2
    have e : x = y := Option.some.inj e2
    subst e
    rw [pth_two (l1 := l1) (l2 := l2) h1.tail h2.tail (fun h => n1 (List.mem_cons_of_mem _ h)) (fun h => n2 (List.mem_cons_of_mem _ h))]
theorem ring_eq {c : Int} {t1 t2 : List Int} (h1 : Ring f (c :: t1)) (h2 : Ring f (c :: t2)) : t1 = t2 := by
  obtain ⟨_, _, e1, p1, n1⟩ := h1
  obtain ⟨_, _, e2, p2, n2⟩ := h2
  obtain ⟨rfl, rfl⟩ := List.cons.inj e1
  obtain ⟨rfl, rfl⟩ := List.cons.inj e2
  exact pth_two p1 p2 (List.nodup_cons.mp n1).1 (List.nodup_cons.mp n2).1
theorem Ring.from {l : List Int} (h : Ring f l) {x : Int} (hx : x ∈ l) : ∃ t, Ring f (x :: t) ∧ (x :: t).Perm l := by
  obtain ⟨a, b, rfl⟩ := List.append_of_mem hx
  exact ⟨b ++ a, h.rot, List.perm_append_comm (l₁ := x :: b) (l₂ := a)⟩
theorem ring_share {l1 l2 : List Int} (h1 : Ring f l1) (h2 : Ring f l2) {x : Int} (m1 : x ∈ l1) (m2 : x ∈ l2) : l1.Perm l2 := by
  obtain ⟨t1, r1, p1⟩ := h1.from m1
  obtain ⟨t2, r2, p2⟩ := h2.from m2
  rw [ring_eq r1 r2] at p1
  exact p1.symm.trans p2
theorem Ring.within {l : List Int} (h : Ring f l) {S : Int → Prop} (hs : ∀ x d, S x → f x = some d → d ∈ l → S d) {x : Int} (hx : x ∈ l) (h0 : S x) : ∀ y ∈ l, S y := by
  obtain ⟨t, r, p⟩ := h.from hx
  have hm : ∀ y, y ∈ x :: t ↔ y ∈ l := fun y => p.mem_iff
  obtain ⟨_, _, e, hp, _⟩ := r
  obtain ⟨rfl, rfl⟩ := List.cons.inj e
  have go : ∀ (u : List Int) (d : Int), (∀ y ∈ d :: u, y ∈ l) → Pth f (d :: u) x → S d → ∀ y ∈ d :: u, S y := by
    intro u
    induction u with
    | nil => intro d _ _ hd y hy; rw [List.mem_singleton.mp hy]; exact hd
    | cons z u ih =>
      intro d hl hq hd y hy
      rcases List.mem_cons.mp hy with rfl | hy
      · exact hd
      · exact ih z (fun y hy => hl y (List.mem_cons_of_mem _ hy)) hq.2 (hs _ _ hd hq.1 (hl z (by simp))) y hy
  intro y hy
  exact go t x (fun y hy => (hm y).mp hy) hp h0 y ((hm y).mpr hy)
theorem pth_nodup {c : Int} {t : List Int} (h : Pth f (c :: t) c) (hc : c ∉ t) : (c :: t).Nodup := by
  have key : ∀ (n : Nat) (a b : List Int) (x : Int), b.length ≤ n → Pth f (a ++ x :: b) c → x ∈ b → c ∉ b → False := by
    intro n
    induction n with
    | zero => intro a b x hn _ hx _; rw [List.length_eq_zero_iff.mp (Nat.le_zero.mp hn)] at hx; exact absurd hx List.not_mem_nil
    | succ n ih =>
      intro a b x hn hp hx hcb
      obtain ⟨u, v, rfl⟩ := List.append_of_mem hx
      -- x :: u ++ x :: v, then c: both tails are paths from x
      have h1 : Pth f (x :: (u ++ x :: v)) c := hp.right
      have h2 : Pth f (x :: v) c := (show Pth f ((x :: u) ++ x :: v) c from h1).right
      have e := pth_two h1 h2 hcb fun m => hcb (by simp [m])
      have := congrArg List.length e
      simp at this
      omega
  refine List.nodup_cons.mpr ⟨hc, ?_⟩
  rw [List.nodup_iff_pairwise_ne]
  have go : ∀ (a b : List Int), Pth f (a ++ b) c → c ∉ b → b.Pairwise (· ≠ ·) := by
    intro a b
    induction b generalizing a with
    | nil => intro _ _; exact .nil
    | cons x b ih =>
      intro hp hcb
      have hcb' : c ∉ b := fun m => hcb (List.mem_cons_of_mem _ m)
      refine List.pairwise_cons.mpr ⟨fun y hy e => key b.length a b x (Nat.le_refl _) hp (by rw [e]; exact hy) hcb', ih (a ++ [x]) (by simpa using hp) hcb'⟩
  exact go [c] t h hc
def RingL (f : Int → Option Int) (l : List Int) : Prop := Ring f l ∧ 2 ≤ l.length ∧ ∀ x ∈ l, l.headD 0 ≤ x
def bareB (f : Int → Option Int) (ks l : List Int) : Bool := ks.all fun c => decide (c ∈ l) || !(match f c with | some d => decide (d ∈ l) | none => false)
def RingsOf (f : Int → Option Int) (ks : List Int) (L : List (List Int × Bool)) : Prop := L.Pairwise (fun p q => p.1.headD 0 < q.1.headD 0) ∧ (∀ p ∈ L, RingL f p.1 ∧ p.2 = bareB f ks p.1) ∧ ∀ l, RingL f l → ∃ b, (l, b) ∈ L
theorem RingL.head_mem {l : List Int} (h : RingL f l) : l.headD 0 ∈ l := by
  obtain ⟨c, t, rfl, _⟩ := h.1
  exact List.mem_cons_self
theorem ringL_eq {l1 l2 : List Int} (h1 : RingL f l1) (h2 : RingL f l2) {x : Int} (m1 : x ∈ l1) (m2 : x ∈ l2) : l1 = l2 := by
  have p := ring_share h1.1 h2.1 m1 m2
  have a := h1.2.2 _ (p.mem_iff.mpr h2.head_mem)
  have b := h2.2.2 _ (p.mem_iff.mp h1.head_mem)
  obtain ⟨c, t, rfl, hc⟩ := id h1.1
  obtain ⟨d, u, rfl, hd⟩ := id h2.1
  have e : c = d := Int.le_antisymm a b
  subst e
  rw [ring_eq h1.1 h2.1]
theorem strict_eq {α : Type} {lt : α → α → Prop} (hi : ∀ a, ¬ lt a a) (ht : ∀ a b c, lt a b → lt b c → lt a c) : ∀ {l1 l2 : List α}, l1.Pairwise lt → l2.Pairwise lt → (∀ x, x ∈ l1 ↔ x ∈ l2) → l1 = l2
  | [], [], _, _, _ => rfl
  | [], y :: l2, _, _, h => absurd ((h y).mpr List.mem_cons_self) List.not_mem_nil
  | x :: l1, [], _, _, h => absurd ((h x).mp List.mem_cons_self) List.not_mem_nil
  | x :: l1, y :: l2, h1, h2, h => by
    obtain ⟨a1, b1⟩ := List.pairwise_cons.mp h1
    obtain ⟨a2, b2⟩ := List.pairwise_cons.mp h2
    have e : x = y := by
      rcases List.mem_cons.mp ((h x).mp List.mem_cons_self) with e | m
      · exact e
      · rcases List.mem_cons.mp ((h y).mpr List.mem_cons_self) with e | m'
        · exact e.symm
        · exact absurd (ht _ _ _ (a1 y m') (a2 x m)) (hi x)
    subst e
    refine congrArg _ (strict_eq hi ht b1 b2 fun z => ⟨fun m => ?_, fun m => ?_⟩)
    · rcases List.mem_cons.mp ((h z).mp (List.mem_cons_of_mem _ m)) with rfl | m'
      · exact absurd (a1 _ m) (hi _)
      · exact m'
    · rcases List.mem_cons.mp ((h z).mpr (List.mem_cons_of_mem _ m)) with rfl | m'
      · exact absurd (a2 _ m) (hi _)
      · exact m'
theorem RingsOf.eq {ks : List Int} {L1 L2 : List (List Int × Bool)} (h1 : RingsOf f ks L1) (h2 : RingsOf f ks L2) : L1 = L2 := by
  refine strict_eq (lt := fun p q : List Int × Bool => p.1.headD 0 < q.1.headD 0) (fun _ => Int.lt_irrefl _) (fun _ _ _ => Int.lt_trans) h1.1 h2.1 fun p => ⟨fun m => ?_, fun m => ?_⟩
  · obtain ⟨a, b⟩ := h1.2.1 p m
    obtain ⟨c, hc⟩ := h2.2.2 p.1 a
    have := (h2.2.1 _ hc).2
    rw [show p = (p.1, c) from Prod.ext rfl (b.trans this.symm)]
    exact hc
  · obtain ⟨a, b⟩ := h2.2.1 p m
    obtain ⟨c, hc⟩ := h1.2.2 p.1 a
    have := (h1.2.1 _ hc).2
    rw [show p = (p.1, c) from Prod.ext rfl (b.trans this.symm)]
    exact hc
structure Srch (f : Int → Option Int) (W : Int → Prop) (Cl : List (List Int)) : Prop where
  dom : ∀ c, W c → (f c).isSome = true
  clo : ∀ c d, W c → f c = some d → (f d).isSome = true → W d
  rng : ∀ l ∈ Cl, RingL f l ∧ ∀ x ∈ l, W x
  all : ∀ l, RingL f l → W (l.headD 0) → l ∈ Cl
  nd : (Cl.map fun l => l.headD 0).Nodup
theorem rotL {l : List Int} (h : Ring f l) (h2 : 2 ≤ l.length) {a b : List Int} (e : l = a ++ b) {m : Int} (hm : b.head? = some m) (hl : ∀ x ∈ l, m ≤ x) : RingL f (b ++ a) := by
  subst e
  refine ⟨h.rot, by rw [List.length_append] at h2 ⊢; omega, fun x hx => ?_⟩
  have hx' : x ∈ a ++ b := by rw [List.mem_append] at hx ⊢; exact hx.symm
  have : (b ++ a).headD 0 = m := by
    cases b with
    | nil => cases hm
    | cons y b => cases hm; rfl
  rw [this]
  exact hl x hx'
theorem walk_out {W : Int → Prop} {Cl : List (List Int)} (S : Srch f W Cl) {t : List Int} {c : Int} (hp : Pth f t c) (hn : t.Nodup) (hw : ∀ x ∈ t, ¬ W x) (hc : c ∉ t) (hs : (f c).isSome = true → W c) : Srch f (fun x => W x ∨ x ∈ t) Cl := by
  have no : ∀ l, RingL f l → ∀ h ∈ l, h ∈ t → False := by
    intro l hl h hm ht
    obtain ⟨a, b, rfl⟩ := List.append_of_mem ht
    -- all that follows h in t, and c, is in l
    have hq : Pth f (h :: b) c := hp.right
    have go : ∀ (u : List Int) (d : Int), Pth f (d :: u) c → d ∈ l → c ∈ l := by
      intro u
      induction u with
      | nil =>
        intro d hd hdl
        obtain ⟨e, h1, h2⟩ := hl.1.mem hdl
        rw [show f d = some c from hd] at h1
        cases h1
        exact h2
      | cons z u ih =>
        intro d hd hdl
        obtain ⟨e, h1, h2⟩ := hl.1.mem hdl
        rw [hd.1] at h1
        cases h1
        exact ih _ hd.2 h2
    have hcl := go b h hq hm
    obtain ⟨d, hd, _⟩ := hl.1.mem hcl
    have hW := hs (by rw [hd]; rfl)
    have := hl.1.within (S := W) (fun x d hx hfd hdl => S.clo x d hx hfd (by obtain ⟨e, h1, _⟩ := hl.1.mem hdl; rw [h1]; rfl)) hcl hW h hm
    exact hw h (by simp) this
  refine ⟨fun x hx => hx.elim (S.dom x) fun hx => ?_, fun x d hx hfd hd => ?_, fun l hl => ⟨(S.rng l hl).1, fun x hx => .inl ((S.rng l hl).2 x hx)⟩, fun l hl hh => ?_, S.nd⟩
  · obtain ⟨d, h1, _⟩ := hp.mem hx
    rw [h1]; rfl
  · rcases hx with hx | hx
    · exact .inl (S.clo x d hx hfd hd)
    · obtain ⟨e, h1, h2⟩ := hp.mem hx
      rw [hfd] at h1
      cases h1
      rcases h2 with h2 | rfl
      · exact .inr h2
      · exact .inl (hs hd)
  · rcases hh with hh | hh
    · exact S.all l hl hh
    · exact (no l hl _ hl.head_mem hh).elim
theorem walk_ring {W : Int → Prop} {Cl : List (List Int)} (S : Srch f W Cl) {a b : List Int} {c : Int} (hp : Pth f (a ++ c :: b) c) (hn : (a ++ c :: b).Nodup) (hw : ∀ x ∈ a ++ c :: b, ¬ W x) :
    Ring f (c :: b) ∧ (b = [] → Srch f (fun x => W x ∨ x ∈ a ++ c :: b) Cl) ∧ ∀ l, RingL f l → l.Perm (c :: b) → Srch f (fun x => W x ∨ x ∈ a ++ c :: b) (Cl ++ [l]) := by
  have hr : Ring f (c :: b) := ⟨c, b, rfl, hp.right, (List.nodup_append.mp hn).2.1⟩
  have dom : ∀ x, (W x ∨ x ∈ a ++ c :: b) → (f x).isSome = true := fun x hx => hx.elim (S.dom x) fun hx => by
    obtain ⟨d, h1, _⟩ := hp.mem hx
    rw [h1]; rfl
  have clo : ∀ x d, (W x ∨ x ∈ a ++ c :: b) → f x = some d → (f d).isSome = true → (W d ∨ d ∈ a ++ c :: b) := by
    intro x d hx hfd hd
    rcases hx with hx | hx
    · exact .inl (S.clo x d hx hfd hd)
    · obtain ⟨e, h1, h2⟩ := hp.mem hx
      rw [hfd] at h1
      cases h1
      rcases h2 with h2 | rfl
      · exact .inr h2
      · exact .inr (by simp)
  have same : ∀ l, RingL f l → ∀ h ∈ l, h ∈ a ++ c :: b → c ∈ l := by
    intro l hl h hm ht
    obtain ⟨u, v, e⟩ := List.append_of_mem ht
    have hq : Pth f (h :: v) c := by rw [e] at hp; exact hp.right
    have go : ∀ (u : List Int) (d : Int), Pth f (d :: u) c → d ∈ l → c ∈ l := by
      intro u
      induction u with
      | nil =>
        intro d hd hdl
        obtain ⟨e, h1, h2⟩ := hl.1.mem hdl
        rw [show f d = some c from hd] at h1
        cases h1
        exact h2
      | cons z u ih =>
        intro d hd hdl
        obtain ⟨e, h1, h2⟩ := hl.1.mem hdl
        rw [hd.1] at h1
        cases h1
        exact ih _ hd.2 h2
    exact go v h hq hm
  refine ⟨hr, fun hb => ⟨dom, clo, fun l hl => ⟨(S.rng l hl).1, fun x hx => .inl ((S.rng l hl).2 x hx)⟩, fun l hl hh => ?_, S.nd⟩, fun l hl hlp => ⟨dom, clo, fun l' hl' => ?_, fun l' hl' hh => ?_, ?_⟩⟩
  · rcases hh with hh | hh
    · exact S.all l hl hh
    · have hc := same l hl _ hl.head_mem hh
      have p := ring_share hl.1 hr hc List.mem_cons_self
      have := p.length_eq
      rw [hb] at this
      have := hl.2.1
      simp at *
      omega
  · rcases List.mem_append.mp hl' with hl' | hl'
    · exact ⟨(S.rng l' hl').1, fun x hx => .inl ((S.rng l' hl').2 x hx)⟩
    · rw [List.mem_singleton.mp hl']
      exact ⟨hl, fun x hx => .inr (List.mem_append_right _ (hlp.mem_iff.mp hx))⟩
  · rcases hh with hh | hh
    · exact List.mem_append_left _ (S.all l' hl' hh)
    · have hc := same l' hl' _ hl'.head_mem hh
      rw [ringL_eq hl' hl hc (hlp.mem_iff.mpr List.mem_cons_self)]
      exact List.mem_append_right _ List.mem_cons_self
  · rw [List.map_append, List.nodup_append]
    refine ⟨S.nd, List.nodup_cons.mpr ⟨List.not_mem_nil, List.nodup_nil⟩, fun x hx y hy e => ?_⟩
    obtain ⟨l', hl', rfl⟩ := List.mem_map.mp hx
    rw [List.map_cons, List.map_nil, List.mem_singleton] at hy
    subst hy
    have h1 := (S.rng l' hl').2 _ (S.rng l' hl').1.head_mem
    rw [e] at h1
    exact hw _ (List.mem_append_right _ (hlp.mem_iff.mp hl.head_mem)) h1
end
end PH
set_option Elab.async false
set_option linter.all false
set_option maxRecDepth 100000
set_option maxHeartbeats 4000000
namespace PH
open PySem L2
def top (i : Nat) : Stmt := PySem.Challenge.pw_pacehall_k64_rings_of_cells.main.body.getD i (.Pass ⟨0, 0, 0, 0⟩)
abbrev s_ring_from : Stmt := top 1
theorem c_ring_from : FnScope ["found", "start", "walked", "trail", "cell"] ["found", "start", "walked"] (defScope s_ring_from) := ⟨rfl, rfl, rfl, by decide +kernel, rfl, by decide +kernel, by decide +kernel⟩
abbrev s_least_first : Stmt := top 2
theorem c_least_first : FnScope ["ring", "at"] ["ring"] (defScope s_least_first) := ⟨rfl, rfl, rfl, by decide +kernel, rfl, by decide +kernel, by decide +kernel⟩
abbrev s_drawn_from_beyond : Stmt := top 3
theorem c_drawn_from_beyond : FnScope ["found", "ring_of", "drawn", "cell", "origin"] ["found", "ring_of"] (defScope s_drawn_from_beyond) := ⟨rfl, rfl, rfl, by decide +kernel, rfl, by decide +kernel, by decide +kernel⟩
abbrev s_rings : Stmt := top 4
theorem c_rings : FnScope ["found", "walked", "ring_of", "closed", "start", "ring", "cell", "drawn", "told"] ["found"] (defScope s_rings) := ⟨rfl, rfl, rfl, by decide +kernel, rfl, by decide +kernel, by decide +kernel⟩
abbrev s_first_cell : Stmt := top 5
theorem c_first_cell : FnScope ["ring"] ["ring"] (defScope s_first_cell) := ⟨rfl, rfl, rfl, by decide +kernel, rfl, by decide +kernel, by decide +kernel⟩
abbrev s__law_draw : Stmt := top 7
theorem c__law_draw : FnScope ["_law_script", "_law_k", "_law_many", "_law_number", "_law_cell"] ["_law_script", "_law_k", "_law_many"] (defScope s__law_draw) := ⟨rfl, rfl, rfl, by decide +kernel, rfl, by decide +kernel, by decide +kernel⟩
abbrev s__law_whole : Stmt := top 8
theorem c__law_whole : FnScope ["_law_found_here"] ["_law_found_here"] (defScope s__law_whole) := ⟨rfl, rfl, rfl, by decide +kernel, rfl, by decide +kernel, by decide +kernel⟩
abbrev s__law_names : Stmt := top 9
theorem c__law_names : FnScope ["_law_script", "_law_by", "_law_first", "_law_apart"] ["_law_script"] (defScope s__law_names) := ⟨rfl, rfl, rfl, by decide +kernel, rfl, by decide +kernel, by decide +kernel⟩
abbrev s__law_blocks : Stmt := top 10
theorem c__law_blocks : FnScope ["_law_script", "_law_many", "_law_found_here", "_law_begin", "_law_end", "_law_k"] ["_law_script", "_law_many"] (defScope s__law_blocks) := ⟨rfl, rfl, rfl, by decide +kernel, rfl, by decide +kernel, by decide +kernel⟩
abbrev s__law_found : Stmt := top 11
theorem c__law_found : FnScope ["_law_script", "_law_many", "_law_way", "_law_order", "_law_found_here", "_law_k", "_law_names_here", "_law_told"] ["_law_script"] (defScope s__law_found) := ⟨rfl, rfl, rfl, by decide +kernel, rfl, by decide +kernel, by decide +kernel⟩
abbrev s__law_rings : Stmt := top 12
theorem c__law_rings : FnScope ["_law_found_here", "_law_told", "_law_cell", "_law_ring", "_law_here"] ["_law_found_here"] (defScope s__law_rings) := ⟨rfl, rfl, rfl, by decide +kernel, rfl, by decide +kernel, by decide +kernel⟩
abbrev s__law_long : Stmt := top 13
theorem c__law_long : FnScope ["_law_script", "_law_many", "_law_found_here", "_law_k", "_law_way", "_law_turned"] ["_law_script"] (defScope s__law_long) := ⟨rfl, rfl, rfl, by decide +kernel, rfl, by decide +kernel, by decide +kernel⟩
abbrev s__law_long_ring : Stmt := top 14
theorem c__law_long_ring : FnScope ["_law_found_here", "_law_cell", "_law_ring", "_law_at"] ["_law_found_here", "_law_cell"] (defScope s__law_long_ring) := ⟨rfl, rfl, rfl, by decide +kernel, rfl, by decide +kernel, by decide +kernel⟩
abbrev s__law_long_due : Stmt := top 15
theorem c__law_long_due : FnScope ["_law_script", "_law_found_here", "_law_way", "_law_begin"] ["_law_script", "_law_found_here"] (defScope s__law_long_due) := ⟨rfl, rfl, rfl, by decide +kernel, rfl, by decide +kernel, by decide +kernel⟩
abbrev s__law_right : Stmt := top 16
theorem c__law_right : FnScope ["_law_told", "_law_due", "_law_row"] ["_law_told", "_law_due"] (defScope s__law_right) := ⟨rfl, rfl, rfl, by decide +kernel, rfl, by decide +kernel, by decide +kernel⟩
abbrev s_law : Stmt := top 17
theorem c_law : FnScope ["_law_script", "_law_found_here", "_law_handed", "_law_due", "_law_told", "_law_row", "_law_less", "_law_cell"] ["_law_script"] (defScope s_law) := ⟨rfl, rfl, rfl, by decide +kernel, rfl, by decide +kernel, by decide +kernel⟩
set_option genInjectivity false in
structure Adr where
  a_ring_from : Addr
  d_ring_from : FuncData
  a_least_first : Addr
  d_least_first : FuncData
  a_drawn_from_beyond : Addr
  d_drawn_from_beyond : FuncData
  a_rings : Addr
  d_rings : FuncData
  a_first_cell : Addr
  d_first_cell : FuncData
  a__law_draw : Addr
  d__law_draw : FuncData
  a__law_whole : Addr
  d__law_whole : FuncData
  a__law_names : Addr
  d__law_names : FuncData
  a__law_blocks : Addr
  d__law_blocks : FuncData
  a__law_found : Addr
  d__law_found : FuncData
  a__law_rings : Addr
  d__law_rings : FuncData
  a__law_long : Addr
  d__law_long : FuncData
  a__law_long_ring : Addr
  d__law_long_ring : FuncData
  a__law_long_due : Addr
  d__law_long_due : FuncData
  a__law_right : Addr
  d__law_right : FuncData
  a_law : Addr
  d_law : FuncData
structure Tx (K : PySem.W.Frag) (mg : Str → Option Value) (t : Adr) : Prop where
  F_ring_from : Fun K "ring_from" "ring_from" s_ring_from t.a_ring_from t.d_ring_from
  m_ring_from : mg "ring_from" = some (.ref t.a_ring_from)
  b_ring_from : Binds K t.d_ring_from ["found", "start", "walked"] []
  F_least_first : Fun K "least_first" "least_first" s_least_first t.a_least_first t.d_least_first
  m_least_first : mg "least_first" = some (.ref t.a_least_first)
  b_least_first : Binds K t.d_least_first ["ring"] []
  F_drawn_from_beyond : Fun K "drawn_from_beyond" "drawn_from_beyond" s_drawn_from_beyond t.a_drawn_from_beyond t.d_drawn_from_beyond
  m_drawn_from_beyond : mg "drawn_from_beyond" = some (.ref t.a_drawn_from_beyond)
  b_drawn_from_beyond : Binds K t.d_drawn_from_beyond ["found", "ring_of"] []
  F_rings : Fun K "rings" "rings" s_rings t.a_rings t.d_rings
  m_rings : mg "rings" = some (.ref t.a_rings)
  b_rings : Binds K t.d_rings ["found"] []
  F_first_cell : Fun K "first_cell" "first_cell" s_first_cell t.a_first_cell t.d_first_cell
  m_first_cell : mg "first_cell" = some (.ref t.a_first_cell)
  b_first_cell : Binds K t.d_first_cell ["ring"] []
  F__law_draw : Fun K "_law_draw" "_law_draw" s__law_draw t.a__law_draw t.d__law_draw
  m__law_draw : mg "_law_draw" = some (.ref t.a__law_draw)
  b__law_draw : Binds K t.d__law_draw ["_law_script", "_law_k", "_law_many"] []
  F__law_whole : Fun K "_law_whole" "_law_whole" s__law_whole t.a__law_whole t.d__law_whole
  m__law_whole : mg "_law_whole" = some (.ref t.a__law_whole)
  b__law_whole : Binds K t.d__law_whole ["_law_found_here"] []
  F__law_names : Fun K "_law_names" "_law_names" s__law_names t.a__law_names t.d__law_names
  m__law_names : mg "_law_names" = some (.ref t.a__law_names)
  b__law_names : Binds K t.d__law_names ["_law_script"] []
  F__law_blocks : Fun K "_law_blocks" "_law_blocks" s__law_blocks t.a__law_blocks t.d__law_blocks
  m__law_blocks : mg "_law_blocks" = some (.ref t.a__law_blocks)
  b__law_blocks : Binds K t.d__law_blocks ["_law_script", "_law_many"] []
  F__law_found : Fun K "_law_found" "_law_found" s__law_found t.a__law_found t.d__law_found
  m__law_found : mg "_law_found" = some (.ref t.a__law_found)
  b__law_found : Binds K t.d__law_found ["_law_script"] []
  F__law_rings : Fun K "_law_rings" "_law_rings" s__law_rings t.a__law_rings t.d__law_rings
  m__law_rings : mg "_law_rings" = some (.ref t.a__law_rings)
  b__law_rings : Binds K t.d__law_rings ["_law_found_here"] []
  F__law_long : Fun K "_law_long" "_law_long" s__law_long t.a__law_long t.d__law_long
  m__law_long : mg "_law_long" = some (.ref t.a__law_long)
  b__law_long : Binds K t.d__law_long ["_law_script"] []
  F__law_long_ring : Fun K "_law_long_ring" "_law_long_ring" s__law_long_ring t.a__law_long_ring t.d__law_long_ring
  m__law_long_ring : mg "_law_long_ring" = some (.ref t.a__law_long_ring)
  b__law_long_ring : Binds K t.d__law_long_ring ["_law_found_here", "_law_cell"] []
  F__law_long_due : Fun K "_law_long_due" "_law_long_due" s__law_long_due t.a__law_long_due t.d__law_long_due
  m__law_long_due : mg "_law_long_due" = some (.ref t.a__law_long_due)
  b__law_long_due : Binds K t.d__law_long_due ["_law_script", "_law_found_here"] []
  F__law_right : Fun K "_law_right" "_law_right" s__law_right t.a__law_right t.d__law_right
  m__law_right : mg "_law_right" = some (.ref t.a__law_right)
  b__law_right : Binds K t.d__law_right ["_law_told", "_law_due"] []
  F_law : Fun K "law" "law" s_law t.a_law t.d_law
  m_law : mg "law" = some (.ref t.a_law)
  b_law : Binds K t.d_law ["_law_script"] []
  z_any : mg "any" = none
  z_bool : mg "bool" = none
  z_dict : mg "dict" = none
  z_int : mg "int" = none
  z_isinstance : mg "isinstance" = none
  z_len : mg "len" = none
  z_list : mg "list" = none
  z_min : mg "min" = none
  z_range : mg "range" = none
  z_sorted : mg "sorted" = none
  z_tuple : mg "tuple" = none
local macro_rules | `(tactic| trivial) => `(tactic| first | exact Or.inl rfl | exact Or.inr rfl | exact Or.inr (Or.inl rfl) | exact Or.inr (Or.inr rfl) | assumption)
local macro_rules | `(tactic| simp! only [$xs,*]) => do
  let ys := xs.getElems.map fun x => (⟨x.raw⟩ : Lean.TSyntax `Lean.Parser.Tactic.simpLemma)
  let zs ← ("↓reduceIte ↓optK_some ↓gName_0 ↓gName_1 ↓gName_2 ↓gName_3 ↓gName_4 ↓gName_5 ↓gName_6 ↓gName_7 ↓gName_8 ↓m_kOp' ↓m_kOp ↓m_tOp ↓m_tC ↓m_kUn ↓m_tUn ↓m_kNot ↓m_tNot ↓m_kAnd ↓m_tAnd ↓m_kOr ↓m_tOr ↓m_tNil ↓m_kCons' ↓m_kCons ↓m_tCons ↓m_kCall_1 ↓m_kCall_2 ↓m_kCall_3 ↓m_tCall ↓m_kCB ↓m_tCB ↓m_tNext ↓m_tSeq ↓m_tRet ↓m_kDrop ↓m_tDrop ↓m_kIfS ↓m_tIfS ↓m_kAsg ↓m_tAsg ↓m_kGs ↓m_kLen ↓m_qLen ↓m_kIx' ↓m_kIx ↓m_qIx ↓m_qMin ↓m_qIsi_int ↓m_qIsi_bool ↓m_qIsi_tuple ↓m_qIsi_list ↓m_kIsi_Ni ↓m_kIsi_bb ↓m_kIsi_bi ↓m_kIsi_ib ↓m_kIsi_ii ↓m_kIsi_si ↓m_kIsi_li ↓m_kIsi_ll ↓m_kIsi_ti ↓m_kIsi_tt ↓m_kIsi_di ↓m_kBM' ↓m_kBM ↓m_tBM ↓m_kBM0 ↓m_tBM0 ↓m_kApp ↓m_rAppend ↓m_kGT ↓m_qGT ↓m_kBody ↓m_tFor ↓m_kR1 ↓m_iRng1 ↓m_kR2 ↓m_iRng2 ↓m_kISq'_l ↓m_kISq ↓m_iSeq ↓m_kWh ↓m_kE4 ↓m_tYes ↓m_tComp ↓m_kSetC ↓m_tSetC ↓m_datV ↓m_datF_int ↓m_datF_ref ↓m_datO_lst ↓m_allSome_nil ↓m_allSome_cons ↓m_kEq2_t ↓m_kEq2_f ↓m_kEq1 ↓m_qEq_refr ↓m_qNe_non_int ↓m_qEq_int_int ↓m_qNe_int_int ↓m_kInts ↓m_kSl3 ↓m_kSl2 ↓m_kSl1 ↓m_tSl ↓m_tNoPart ↓m_kPart ↓m_tPart ↓m_kQT ↓m_kQL ↓m_qTup ↓m_qLst ↓m_kNC2 ↓m_kNC1 ↓m_nCat ↓m_kNS ↓m_nSl ↓m_nDNew ↓m_kBls ↓m_kCm2 ↓m_kCm_1 ↓m_rep_1 ↓m_kClr ↓m_rClear ↓m_qMinL ↓m_kDG0 ↓m_tDGet ↓m_kDP1 ↓m_kDP0 ↓m_sDPut ↓m_tV_0 ↓m_tV_1 ↓m_tV_2 ↓m_tV_3 ↓m_tV_4 ↓m_tV_5 ↓m_tV_6 ↓m_tV_7 ↓m_tV_8 ↓m_tV_9 ↓m_nI0 ↓m_nI ↓m_nU ↓m_kTestN ↓m_nTest ↓m_kAndN ↓m_nAndV ↓m_kNotN ↓m_nNotV ↓m_gNilN ↓m_gConsN ↓m_iDict ↓m_nThaw ↓m_tDGet1 ↓m_kGE1 ↓m_tDGet2 ↓m_kBK1 ↓m_kBK0 ↓m_tCBK ↓m_kAnyB ↓m_qAny ↓m_sThaw ↓m_iItems optK_some itemsAt lstAt tupAt seqO_lst seqO_tup lstO_lst tupO_tup bind_some' upd_same tyO_lst tyO_tup tyN_non tyN_bl tyN_int tyN_str tyN_ref tyV_list isW_int' cx_K atI_0 atI_1 eqv_list eqvAll_nil eqvAll_l allSome_ints CDiv_eq CPow_10 Option.isSome_some Option.isSome_none Option.map_some List.length_cons List.length_nil List.length_map List.map_cons List.map_nil and_true true_and and_self implies_true reduceCtorEq decide_true decide_false Bool.not_true Bool.not_false if_true if_false decide_eq_true_eq Bool.false_eq_true Bool.not_eq_true' decide_eq_false_iff_not Bool.and_true Bool.true_and Bool.and_self Bool.and_eq_true Int.reduceToNat Int.reducePow Int.reduceMul Int.reduceAdd Int.reduceSub Int.reduceNeg Int.reduceLT Int.reduceLE Int.reduceEq Int.reduceNe Int.reduceDiv Int.reduceMod Nat.reduceAdd Nat.reduceLeDiff Nat.reduceLT Nat.reduceMul Nat.reducePow gt_iff_lt ge_iff_le ne_eq false_implies true_implies eq_self String.reduceEq Int.cast_ofNat_Int not_true_eq_false not_false_eq_true false_and and_false List.cons_append List.nil_append List.append_nil lenLe".splitOn " ").toArray.mapM fun s => if s.startsWith "↓" then `(Lean.Parser.Tactic.simpLemma| ↓ $(Lean.mkIdent (s.replace "↓" "").toName):ident) else `(Lean.Parser.Tactic.simpLemma| $(Lean.mkIdent s.toName):ident)
  `(tactic| simp (config := { failIfUnchanged := false, maxDischargeDepth := 30, maxSteps := 10000000 }) only [$zs,*, $ys,*, *])
section
variable {P : Program} {w : World} {K : PySem.W.Frag} {mg : Str → Option Value} {base : Heap} {t : Adr}
def drawF (ns : List Int) (k m : Int) : Int := (if k < (ns.length : Int) then ns.getD k.toNat 0 else (if 0 < (ns.length : Int) then ns.getD (k % (ns.length : Int)).toNat 0 % 999999937 * (48271 + 2 * k * k) + k * 69621 else k * k * 7919 + 104729) % 2147483647 * 16807 % 2147483629) % m
theorem getD_at {ns : List Int} {k z : Int} (h0 : 0 ≤ k) (h1 : k < (ns.length : Int)) (hz : atI (ns.map V.int) k = some (.int z)) : ns.getD k.toNat 0 = z := by
  obtain ⟨n, rfl⟩ := Int.eq_ofNat_of_zero_le h0
  have hn : n < ns.length := by omega
  have e : atI (ns.map V.int) (n : Int) = some (.int ns[n]) := atI_nat (by rw [List.getElem?_map, List.getElem?_eq_getElem hn]; rfl)
  rw [hz] at e
  have e2 := Option.some.inj e
  simp only [V.int.injEq] at e2
  rw [Int.toNat_natCast, List.getD_eq_getElem?_getD, List.getElem?_eq_getElem hn, e2]
  rfl
theorem drawF_1 {ns : List Int} {k m z : Int} (h0 : 0 ≤ k) (h1 : k < (ns.length : Int)) (hz : atI (ns.map V.int) k = some (.int z)) : drawF ns k m = z % m := by
  unfold drawF
  rw [if_pos h1, getD_at h0 h1 hz]
theorem drawF_2 {ns : List Int} {k m z : Int} (h1 : ¬ k < (ns.length : Int)) (h2 : 0 < (ns.length : Int)) (hz : atI (ns.map V.int) (k % (ns.length : Int)) = some (.int z)) : drawF ns k m = (z % 999999937 * (48271 + 2 * k * k) + k * 69621) % 2147483647 * 16807 % 2147483629 % m := by
  unfold drawF
  rw [if_neg h1, if_pos h2, getD_at (Int.emod_nonneg _ (by omega)) (Int.emod_lt_of_pos _ h2) hz]
theorem drawF_3 {ns : List Int} {k m : Int} (h1 : ¬ k < (ns.length : Int)) (h2 : ¬ 0 < (ns.length : Int)) : drawF ns k m = (k * k * 7919 + 104729) % 2147483647 * 16807 % 2147483629 % m := by
  unfold drawF
  rw [if_neg h1, if_neg h2]
def spDrawX (K : PySem.W.Frag) (a : Addr) (ns : List Int) : Sp := fun vs H Q E => ∃ (k : Int) (m : Int), vs = [.ref a, .int k, .int m] ∧ (SqL K H a (ns.map V.int) ∧ ns.length ≤ 63 ∧ (0 ≤ k ∧ k < 1000) ∧ 0 < m ∧ Q (.int (drawF ns k m)) H)
theorem c_spDrawX (K : PySem.W.Frag) (a : Addr) (ns : List Int) (k : Int) (m : Int) (H : Hp) (Q : VK) (E : XK) : spDrawX K a ns [.ref a, .int k, .int m] H Q E = (SqL K H a (ns.map V.int) ∧ ns.length ≤ 63 ∧ (0 ≤ k ∧ k < 1000) ∧ 0 < m ∧ Q (.int (drawF ns k m)) H) := spx2 (f := fun (k : Int) (m : Int) => [.ref a, .int k, .int m]) (fun _ _ _ _ h => by cases h; exact ⟨rfl, rfl⟩) k m
theorem l_spDrawX (K : PySem.W.Frag) (a : Addr) (ns : List Int) {vs : List V} {H : Hp} {Q : VK} {E : XK} (h : spDrawX K a ns vs H Q E) : vs.length = 3 := spl2 h fun _ _ => rfl
theorem okx__law_draw (T : Tx K mg t) (a : Addr) (ns : List Int) : FnOk P w K mg base CX0 1 t.a__law_draw t.d__law_draw ["_law_script", "_law_k", "_law_many"] (spDrawX K a ns) := by
  refine T.F__law_draw.ok c__law_draw (fun vs H Q E h => l_spDrawX _ _ _ h) (fun cdv A outer s H vs Q E hr h => ?_)
  · obtain ⟨k, m, rfl, hS, hl, ⟨hk0, hk1⟩, hm, kk⟩ := h
    refine ⟨_, (pss_cons (ps_if (pt_cmpR op_lt (pv 1) (pe_callB (id := "len") call_len_seq (by rfl) T.z_len (by decide +kernel) (pa_c (pv 0) pa_nil)) (nomark _))
      (pss_one (ps_ret (pe_op op_mod (pe_ix ix_list (pv 0) (pv 1) (fun _ _ => rfl)) (pv 2))))
      pss_nil)
    (pss_cons (ps_set (i := 3) c__law_draw.nd rfl (Or.inl rfl) (pe_op op_add (pe_op op_mul (pe_op op_mul (pv 1) (pv 1)) pe_int) pe_int))
    (pss_cons (ps_if (pt_cmpR op_gt (pe_callB (id := "len") call_len_seq (by rfl) T.z_len (by decide +kernel) (pa_c (pv 0) pa_nil)) pe_int (nomark _))
      (pss_cons (ps_set (i := 4) c__law_draw.nd rfl (Or.inl rfl) (pe_op op_mod (pe_ix ix_list (pv 0) (pe_op op_mod (pv 1) (pe_callB (id := "len") call_len_seq (by rfl) T.z_len (by decide +kernel) (pa_c (pv 0) pa_nil))) (fun _ _ => rfl)) pe_int))
      (pss_one (ps_set (i := 3) c__law_draw.nd rfl (Or.inl rfl) (pe_op op_add (pe_op op_mul (pv 4) (pe_op op_add pe_int (pe_op op_mul (pe_op op_mul pe_int (pv 1)) (pv 1)))) (pe_op op_mul (pv 1) pe_int)))))
      pss_nil)
    (pss_one (ps_ret (pe_op op_mod (pe_op op_mod (pe_op op_mul (pe_op op_mod (pv 3) pe_int) pe_int) pe_int) (pv 2))))))), ?_⟩
    refine ⟨_, rfl, _, rfl, a, _, rfl, .inl hS, _, _, rfl, rfl, _, rfl, ?_⟩
    refine ite2 (fun h => ?_) (fun h => ?_)
    · have h1 : k < (ns.length : Int) := by simpa using h
      obtain ⟨z, hz, _⟩ := atI_ints ns k hk0 h1
      exact ⟨_, rfl, _, rfl, a, _, k, _, rfl, rfl, hS, hz, _, rfl, _, _, rfl, rfl, hm, by rw [drawF_1 hk0 h1 hz] at kk; exact kk⟩
    · have h1 : ¬ k < (ns.length : Int) := by simpa using h
      refine ⟨_, rfl, _, rfl, _, _, rfl, rfl, .inl ⟨by omega, by omega⟩, _, _, rfl, rfl, .inr ⟨by decide, by decide⟩, _, _, rfl, rfl, ?_⟩
      refine ⟨_, rfl, a, _, rfl, .inl hS, _, _, rfl, rfl, _, rfl, ?_⟩
      refine ite2 (fun h2 => ?_) (fun h2 => ?_)
      · have h3 : 0 < (ns.length : Int) := by simpa using h2
        have h4 : (0 : Int) < ((ns.map V.int).length : Int) := by simpa using h3
        obtain ⟨z, hz, _⟩ := atI_ints ns (k % ((ns.map V.int).length : Int)) (Int.emod_nonneg _ (by omega)) (by have := Int.emod_lt_of_pos k h4; simpa using this)
        refine ⟨_, rfl, _, rfl, _, rfl, a, _, rfl, .inl hS, _, _, rfl, rfl, h4, a, _, _, _, rfl, rfl, hS, hz, _, _, rfl, rfl, (by first | decide | (show (0 : Int) < _; decide)), ?_⟩
        refine ⟨_, rfl, _, rfl, _, _, rfl, rfl, .inl ⟨by decide, by decide⟩, _, rfl, _, _, rfl, rfl, .inr ⟨by omega, by omega⟩, _, _, rfl, rfl, _, _, rfl, rfl, ?_, ?_⟩
        · refine .inl ⟨?_, ?_⟩
          · have := Int.emod_nonneg z (show (999999937 : Int) ≠ 0 by decide); omega
          · have := Int.emod_lt_of_pos z (show (0 : Int) < 999999937 by decide); omega
        refine ⟨_, rfl, _, _, rfl, rfl, .inr ⟨by decide, by decide⟩, _, _, rfl, rfl, ?_⟩
        exact ⟨_, rfl, _, _, rfl, rfl, (by first | decide | (show (0 : Int) < _; decide)), _, _, rfl, rfl, .inr ⟨by decide, by decide⟩, _, _, rfl, rfl, (by first | decide | (show (0 : Int) < _; decide)), _, rfl, _, _, rfl, rfl, hm, by rw [drawF_2 h1 h3 (show atI (ns.map V.int) (k % (ns.length : Int)) = some (.int z) by rw [← hz, List.length_map])] at kk; exact kk⟩
      · exact ⟨_, rfl, _, _, rfl, rfl, (by first | decide | (show (0 : Int) < _; decide)), _, _, rfl, rfl, .inr ⟨by decide, by decide⟩, _, _, rfl, rfl, (by first | decide | (show (0 : Int) < _; decide)), _, rfl, _, _, rfl, rfl, hm, by rw [drawF_3 h1 (show ¬ (0 : Int) < (ns.length : Int) by simpa using h2)] at kk; exact kk⟩
def spDraw (K : PySem.W.Frag) (a : Addr) (ns : List Int) : Sp := fun vs H Q E => ∃ (k : Int) (m : Int), vs = [.ref a, .int k, .int m] ∧ (SqL K H a (ns.map V.int) ∧ ns.length ≤ 63 ∧ (0 ≤ k ∧ k < 1000) ∧ 0 < m ∧ ∀ z : Int, 0 ≤ z → z < m → Q (.int z) H)
theorem c_spDraw (K : PySem.W.Frag) (a : Addr) (ns : List Int) (k : Int) (m : Int) (H : Hp) (Q : VK) (E : XK) : spDraw K a ns [.ref a, .int k, .int m] H Q E = (SqL K H a (ns.map V.int) ∧ ns.length ≤ 63 ∧ (0 ≤ k ∧ k < 1000) ∧ 0 < m ∧ ∀ z : Int, 0 ≤ z → z < m → Q (.int z) H) := spx2 (f := fun (k : Int) (m : Int) => [.ref a, .int k, .int m]) (fun _ _ _ _ h => by cases h; exact ⟨rfl, rfl⟩) k m
theorem ok__law_draw (T : Tx K mg t) (a : Addr) (ns : List Int) : FnOk P w K mg base CX0 1 t.a__law_draw t.d__law_draw ["_law_script", "_law_k", "_law_many"] (spDraw K a ns) := (okx__law_draw (P := P) (w := w) (base := base) T a ns).imp fun vs H Q E h => by
  obtain ⟨k, m, e, hS, hl, hk, hm, kk⟩ := h
  exact ⟨k, m, e, hS, hl, hk, hm, kk _ (show 0 ≤ drawF ns k m from Int.emod_nonneg _ (by omega)) (show drawF ns k m < m from Int.emod_lt_of_pos _ hm)⟩
def spWhole  : Sp := fun vs H Q E => ∃ (x : V), vs = [x] ∧ (optK (isW H x) (kE4 H Q))
theorem c_spWhole  (x : V) (H : Hp) (Q : VK) (E : XK) : spWhole  [x] H Q E = (optK (isW H x) (kE4 H Q)) := spx1 (f := fun (x : V) => [x]) (fun _ _ h => by cases h; exact rfl) x
theorem l_spWhole  {vs : List V} {H : Hp} {Q : VK} {E : XK} (h : spWhole  vs H Q E) : vs.length = 1 := spl1 h fun _ => rfl
theorem ok__law_whole (T : Tx K mg t) : FnOk P w K mg base CX0 1 t.a__law_whole t.d__law_whole ["_law_found_here"] spWhole := by
  refine T.F__law_whole.ok c__law_whole (fun vs H Q E h => l_spWhole h) (fun cdv A outer s H vs Q E hr h => ?_)
  · obtain ⟨x, rfl, h⟩ := h
    obtain ⟨b, hb, k⟩ := optK_ex h
    clear h
    rw [m_kE4] at k
    refine ⟨_, (@pss_one _ _ _ (@ps_ret _ _ _ _ (@pe_andN _ _ _ _ _ _ _ (@pe_callB _ _ _ _ _ _ _ ("isinstance") _ call_qIsi (by rfl) T.z_isinstance (by decide +kernel) (@pa_c _ _ _ _ _ (@pvN _ 0 _ _ (by rfl) (by trivial) (by decide) (by decide)) (@pa_c _ _ _ _ _ (@pe_bltn _ _ (.ty "int") (.type "int") _ (by rfl) T.z_int (by decide +kernel) rfl (by decide) (by decide)) (@pa_nil _) (by rfl)) (by rfl)) (by decide) (by decide) (by rfl) (by rfl)) (@pe_one _ _ _ _ _ (@pe_notN _ _ _ _ (@pe_callB _ _ _ _ _ _ _ ("isinstance") _ call_qIsi (by rfl) T.z_isinstance (by decide +kernel) (@pa_c _ _ _ _ _ (@pvN _ 0 _ _ (by rfl) (by trivial) (by decide) (by decide)) (@pa_c _ _ _ _ _ (@pe_bltn _ _ (.ty "bool") (.type "bool") _ (by rfl) T.z_bool (by decide +kernel) rfl (by decide) (by decide)) (@pa_nil _) (by rfl)) (by rfl)) (by decide) (by decide) (by rfl) (by rfl))))))), ?_⟩
    rw [show start ["_law_found_here"] [x] = [some (x)] from rfl]
    cases x with
    | int i => cases hb; simp! only [and_true]
    | bl i => cases hb; simp! only [and_true]
    | non => cases hb; simp! only [and_true]
    | str i => cases hb; simp! only [and_true]
    | ref p =>
      obtain ⟨rfl, o, ho, ht⟩ := isW_obj hb
      rcases ht with ht | ht | ht <;> simp! only [and_true]
    | _ => cases hb
abbrev B_spFC  (p : Addr) (H : Hp) (Q : VK) (E : XK) : Prop := ∃ (l : Addr) (b : V) (c : Int) (cs : List V), H p = some (.tup [.ref l, b]) ∧ H l = some (.lst (.int c :: cs)) ∧ Q (.int c) H
def spFC  : Sp := fun vs H Q E => ∃ (p : Addr), vs = [.ref p] ∧ (B_spFC  p H Q E)
theorem c_spFC  (p : Addr) (H : Hp) (Q : VK) (E : XK) : spFC  [.ref p] H Q E = (B_spFC  p H Q E) := spx1 (f := fun (p : Addr) => [.ref p]) (fun _ _ h => by cases h; exact rfl) p
theorem l_spFC  {vs : List V} {H : Hp} {Q : VK} {E : XK} (h : spFC  vs H Q E) : vs.length = 1 := spl1 h fun _ => rfl
theorem ok_first_cell (T : Tx K mg t) : FnOk P w K mg base CX0 1 t.a_first_cell t.d_first_cell ["ring"] spFC := by
  refine T.F_first_cell.ok c_first_cell (fun vs H Q E h => l_spFC h) (fun cdv A outer s' H vs Q E hr h => ?_)
  · obtain ⟨p, rfl, l, b, c, cs, hp, hl, k⟩ := h
    refine ⟨_, (@pss_one _ _ _ (@ps_ret _ _ _ _ (@pe_ix _ _ _ _ _ _ _ ix_q (@pe_ix _ _ _ _ _ _ _ ix_q (@pvN _ 0 _ _ (by rfl) (by trivial) (by decide) (by decide)) (@pe_int _ _ _ _) (fun _ _ => rfl)) (@pe_int _ _ _ _) (fun _ _ => rfl)))), ?_⟩
    rw [show start ["ring"] [.ref p] = [some (.ref p)] from rfl]
    simp! only [and_true]
theorem split_first : ∀ {l : List Int} {c : Int}, c ∈ l → ∃ a b, l = a ++ c :: b ∧ c ∉ a
  | x :: l, c, h => by
    by_cases e : x = c
    · exact ⟨[], l, by rw [e]; rfl, List.not_mem_nil⟩
    · rcases List.mem_cons.mp h with h | h
      · exact absurd h.symm e
      · obtain ⟨a, b, rfl, hn⟩ := split_first h
        exact ⟨x :: a, b, rfl, fun m => (List.mem_cons.mp m).elim (fun z => e z.symm) hn⟩
abbrev B_spLF  (l : Addr) (H : Hp) (Q : VK) (E : XK) : Prop := ∃ ns : List Int, H l = some (.lst (ns.map V.int)) ∧ ns ≠ [] ∧ ns.length ≤ 5000 ∧ ∀ (a b : List Int) (m : Int) (r : Addr) (H' : Hp), ns = a ++ b → b.head? = some m → (∀ x ∈ ns, m ≤ x) → H r = none → Ext H H' → H' r = some (.lst ((b ++ a).map V.int)) → Q (.ref r) H'
def spLF  : Sp := fun vs H Q E => ∃ (l : Addr), vs = [.ref l] ∧ (B_spLF  l H Q E)
theorem c_spLF  (l : Addr) (H : Hp) (Q : VK) (E : XK) : spLF  [.ref l] H Q E = (B_spLF  l H Q E) := spx1 (f := fun (l : Addr) => [.ref l]) (fun _ _ h => by cases h; exact rfl) l
theorem l_spLF  {vs : List V} {H : Hp} {Q : VK} {E : XK} (h : spLF  vs H Q E) : vs.length = 1 := spl1 h fun _ => rfl
theorem ok_least_first (T : Tx K mg t) : FnOk P w K mg base CX0 1 t.a_least_first t.d_least_first ["ring"] spLF := by
  refine T.F_least_first.ok c_least_first (fun vs H Q E h => l_spLF h) (fun cdv A outer s' H vs Q E hr h => ?_)
  · obtain ⟨l, rfl, ns, hl, hne, h5, k⟩ := h
    refine ⟨_, (@pss_cons _ _ _ _ _ (@ps_set _ _ (1) _ _ _ _ c_least_first.nd rfl (Or.inl rfl) (@pe_bm _ _ _ _ _ _ _ _ _ _ _ _ PySem.F.plainAttrs_list PySem.F.slot_list_index PySem.F.type_list_index (mt_index hr.units) (@pvN _ 0 _ _ (by rfl) (by trivial) (by decide) (by decide)) (@pa_c _ _ _ _ _ (@pe_callB _ _ _ _ _ _ _ ("min") _ (call_qMinL rfl) (by rfl) T.z_min (by decide +kernel) (@pa_c _ _ _ _ _ (@pvN _ 0 _ _ (by rfl) (by trivial) (by decide) (by decide)) (@pa_nil _) (by rfl)) (by decide) (by decide) (by rfl) (by rfl)) (@pa_nil _) (by rfl)) (by rfl) (by rfl) (by rfl) (by rfl) (by rfl)) (by rfl) (by trivial)) (@pss_one _ _ _ (@ps_ret _ _ _ _ (@pe_op _ _ _ _ _ _ _ _ op_nCat (@pe_slice _ _ _ _ _ _ _ _ _ _ sl_n (@pvN _ 0 _ _ (by rfl) (by trivial) (by decide) (by decide)) (@po_some _ _ _ (@pvN _ 1 _ _ (by rfl) (by trivial) (by decide) (by decide))) (@po_none _)) (@pe_slice _ _ _ _ _ _ _ _ _ _ sl_n (@pvN _ 0 _ _ (by rfl) (by trivial) (by decide) (by decide)) (@po_none _) (@po_some _ _ _ (@pvN _ 1 _ _ (by rfl) (by trivial) (by decide) (by decide)))))))), ?_⟩
    rw [show start ["ring", "at"] [.ref l] = [some (.ref l), none] from rfl]
    simp! only [and_true]
    rw [x_kMinI]
    refine ⟨List.length_pos_iff.mpr hne, fun M hM hm => ?_⟩
    obtain ⟨a, b, rfl, hMa⟩ := split_first hM
    replace k := fun (_ : Unit) => k a (M :: b) M
    replace hm := fun (_ : Unit) => hm
    clear hM hne
    simp! only [and_true]
    refine use_idxI hl hMa ?_
    simp! only [and_true]
    rw [cut_some _ _ (Int.natCast_nonneg _), Int.toNat_natCast, show (List.map V.int (a ++ M :: b)).drop a.length = (M :: b).map V.int by rw [List.map_append, List.drop_left' (by simp)]]
    intro r1 H1 hr1 e1 h1
    have hl1 := e1.at hl
    clear hl
    simp! only [and_true]
    rw [cut_none _ _ (Int.natCast_nonneg _), Int.toNat_natCast, show (List.map V.int (a ++ M :: b)).take a.length = a.map V.int by rw [List.map_append, List.take_left' (by simp)]]
    intro r2 H2 hr2 e2 h2
    have h1_2 := e2.at h1
    clear h1 hl1
    rw [List.map_cons] at h1_2
    simp! only [and_true]
    refine ⟨len5000 (by rw [List.length_append, List.length_cons] at h5; omega), fun r3 H3 hr3 e3 h3 => ?_⟩
    exact k () r3 H3 rfl rfl (hm ()) (e1.free (e2.free hr3)) (e1.trans (e2.trans e3)) (by rw [h3, List.map_append, List.map_cons]; rfl)
def NdK (kv : List (Int × Int)) : Prop := (kv.map (·.1)).Nodup
structure RfP (kv wv : List (Int × Int)) (st : Int) : Prop where
  nd : NdK kv
  len : kv.length ≤ 4200
  wnd : NdK wv
  sub : ∀ x, (lookI wv x).isSome = true → (lookI kv x).isSome = true
  new : ∀ x, lookI wv x ≠ some st
structure WkE (kv wv : List (Int × Int)) (st : Int) (t : List Int) (c : Int) : Prop where
  pth : Pth (lookI kv) t c
  nd : t.Nodup
  new : ∀ x ∈ t, lookI wv x = none
  hd : t.headD c = st
def rgL (t : List Int) (c : Int) : List Int := t.dropWhile fun x => !(decide (x = c))
theorem rgL_at : ∀ {a b : List Int} {c : Int}, c ∉ a → rgL (a ++ c :: b) c = c :: b
  | [], b, c, _ => by unfold rgL; rw [List.nil_append, List.dropWhile_cons_of_neg (by simp)]
  | x :: a, b, c, h => by
    have e : ¬ x = c := fun e => h (by rw [e]; exact List.mem_cons_self)
    unfold rgL
    rw [List.cons_append, List.dropWhile_cons_of_pos (by simp [e])]
    exact rgL_at fun m => h (List.mem_cons_of_mem _ m)
theorem rgL_no {t : List Int} {c : Int} (h : c ∉ t) : rgL t c = [] := by
  unfold rgL
  induction t with
  | nil => rfl
  | cons x t ih =>
    have e : ¬ x = c := fun e => h (by rw [e]; exact List.mem_cons_self)
    rw [List.dropWhile_cons_of_pos (by simp [e])]
    exact ih fun m => h (List.mem_cons_of_mem _ m)
def wkD (wv : List (Int × Int)) (st : Int) (t : List Int) : List (Int × Int) := wv ++ t.map fun x => (x, st)
theorem wk_keys (wv : List (Int × Int)) (st : Int) (t : List Int) : (wkD wv st t).map (·.1) = wv.map (·.1) ++ t := by
  unfold wkD
  rw [List.map_append, List.map_map]
  congr 1
  exact List.map_id' t
theorem wk_look {wv : List (Int × Int)} (hn : NdK wv) {st : Int} {t : List Int} (ht : t.Nodup) (hw : ∀ x ∈ t, lookI wv x = none) (c : Int) : lookI (wkD wv st t) c = if c ∈ t then some st else lookI wv c := by
  have nd : NdK (wkD wv st t) := by
    unfold NdK
    rw [wk_keys, List.nodup_append]
    exact ⟨hn, ht, fun x hx y hy e => look_none.mp (hw y hy) (by rw [← e]; exact hx)⟩
  split
  · rename_i h
    exact look_of nd (List.mem_append_right _ (List.mem_map.mpr ⟨c, h, rfl⟩))
  · rename_i h
    cases hl : lookI wv c with
    | some j => exact look_of nd (List.mem_append_left _ (look_mem hl))
    | none => rw [look_none, wk_keys, List.mem_append]; exact fun m => m.elim (look_none.mp hl) h
theorem wk_nd {kv wv : List (Int × Int)} {st : Int} {t : List Int} {c : Int} (h : WkE kv wv st t c) (hn : NdK wv) : NdK (wkD wv st t) := by
  unfold NdK
  rw [wk_keys, List.nodup_append]
  exact ⟨hn, h.nd, fun x hx y hy e => look_none.mp (h.new y hy) (by rw [← e]; exact hx)⟩
theorem wk_sub {kv wv : List (Int × Int)} {st : Int} {t : List Int} {c : Int} (P : RfP kv wv st) (h : WkE kv wv st t c) : ∀ x ∈ (wkD wv st t).map (·.1), x ∈ kv.map (·.1) := fun x hx => by
  rw [wk_keys, List.mem_append] at hx
  rcases hx with hx | hx
  · exact look_some.mp (P.sub x (look_some.mpr hx))
  · obtain ⟨d, e, _⟩ := h.pth.mem hx
    exact look_some.mp (by rw [e]; rfl)
theorem nd_len : ∀ {a b : List Int}, a.Nodup → (∀ x ∈ a, x ∈ b) → a.length ≤ b.length
  | [], b, _, _ => Nat.zero_le _
  | x :: a, b, hn, h => by
    have hn' := List.nodup_cons.mp hn
    have hx := h x List.mem_cons_self
    have := nd_len (a := a) (b := b.erase x) hn'.2 fun y hy => (List.mem_erase_of_ne (fun e => hn'.1 (by rw [← e]; exact hy))).mpr (h y (List.mem_cons_of_mem _ hy))
    rw [List.length_erase_of_mem hx] at this
    have := List.length_pos_of_mem hx
    rw [List.length_cons]
    omega
theorem wk_len {kv wv : List (Int × Int)} {st : Int} {t : List Int} {c : Int} (P : RfP kv wv st) (h : WkE kv wv st t c) : (wkD wv st t).length ≤ kv.length := by
  have := nd_len (wk_nd h P.wnd) (wk_sub P h)
  simpa using this
theorem WkE.next {kv wv : List (Int × Int)} {st c d : Int} {t : List Int} (P : RfP kv wv st) (h : WkE kv wv st t c) (hd : lookI kv c = some d) (hc : lookI (wkD wv st t) c = none) : WkE kv wv st (t ++ [c]) d := by
  rw [wk_look P.wnd h.nd h.new] at hc
  by_cases m : c ∈ t
  · rw [if_pos m] at hc; cases hc
  · rw [if_neg m] at hc
    refine ⟨h.pth.snoc hd, ?_, fun x hx => ?_, ?_⟩
    · rw [List.nodup_append]
      exact ⟨h.nd, List.nodup_cons.mpr ⟨List.not_mem_nil, List.nodup_nil⟩, fun x hx y hy e => m (by rw [← List.mem_singleton.mp hy, ← e]; exact hx)⟩
    · rcases List.mem_append.mp hx with hx | hx
      · exact h.new x hx
      · rw [List.mem_singleton.mp hx]; exact hc
    · rw [← h.hd]; cases t <;> rfl
theorem wk_snoc {wv : List (Int × Int)} {st c : Int} {t : List Int} (h : lookI (wkD wv st t) c = none) : putK (tabI (wkD wv st t)) (.inl c) (.int st) = tabI (wkD wv st (t ++ [c])) := by
  rw [put_tab _ h]
  unfold wkD
  rw [List.map_append, List.append_assoc]
  rfl
abbrev B_spRF  (d : Addr) (st : Int) (w : Addr) (H : Hp) (Q : VK) (E : XK) : Prop := ∃ (B : Hp) (kv wv : List (Int × Int)), Ext B H ∧ B w = none ∧ B d = some (.dK (tabI kv)) ∧ H w = some (.dK (tabI wv)) ∧ RfP kv wv st ∧ ∀ (t : List Int) (c : Int) (r : Addr) (H' : Hp), WkE kv wv st t c → (c ∉ t → (lookI kv c).isSome = true → (lookI wv c).isSome = true) → B r = none → r ≠ w → Ext B H' → H' w = some (.dK (tabI (wkD wv st t))) → H' r = some (.lst ((rgL t c).map V.int)) → Q (.ref r) H'
def spRF  : Sp := fun vs H Q E => ∃ (d : Addr) (st : Int) (w : Addr), vs = [.ref d, .int st, .ref w] ∧ (B_spRF  d st w H Q E)
theorem c_spRF  (d : Addr) (st : Int) (w : Addr) (H : Hp) (Q : VK) (E : XK) : spRF  [.ref d, .int st, .ref w] H Q E = (B_spRF  d st w H Q E) := spx3 (f := fun (d : Addr) (st : Int) (w : Addr) => [.ref d, .int st, .ref w]) (fun _ _ _ _ _ _ h => by cases h; exact ⟨rfl, rfl, rfl⟩) d st w
theorem l_spRF  {vs : List V} {H : Hp} {Q : VK} {E : XK} (h : spRF  vs H Q E) : vs.length = 3 := spl3 h fun _ _ _ => rfl
theorem ok_ring_from (T : Tx K mg t) : FnOk P w K mg base CX0 1 t.a_ring_from t.d_ring_from ["found", "start", "walked"] spRF := by
  refine T.F_ring_from.ok c_ring_from (fun vs H Q E h => l_spRF h) (fun cdv A outer s' H vs Q E hr h => ?_)
  · obtain ⟨d, st, w, rfl, B, kv, wv, eB, hBw, hBd, hw, P0, k⟩ := h
    refine ⟨_, (@pss_cons _ _ _ _ _ (@ps_set _ _ (3) _ _ _ _ c_ring_from.nd rfl (Or.inl rfl) (@pe_qLst _ _ _ _ (@pa_nil _)) (by rfl) (by trivial)) (@pss_cons _ _ _ _ _ (@ps_set _ _ (4) _ _ _ _ c_ring_from.nd rfl (Or.inl rfl) (@pvN _ 1 _ _ (by rfl) (by trivial) (by decide) (by decide)) (by rfl) (by trivial)) (@pss_cons _ _ _ _ _ (@ps_while _ _ _ _ _ _ PassesOwn.never (PW.pt (@pw_and _ _ _ _ _ _ _ (@pt_cmpRN _ _ _ _ _ _ _ _ (op_inD (units1 hr.units)) (@pvN _ 4 _ _ (by rfl) (by trivial) (by decide) (by decide)) (@pvN _ 0 _ _ (by rfl) (by trivial) (by decide) (by decide)) (by with_unfolding_all rfl)) (@pw_and1 _ _ _ _ (@pt_cmpRN _ _ _ _ _ _ _ _ (op_notInD (units1 hr.units)) (@pvN _ 4 _ _ (by rfl) (by trivial) (by decide) (by decide)) (@pvN _ 2 _ _ (by rfl) (by trivial) (by decide) (by decide)) (by with_unfolding_all rfl))))) (@pss_cons _ _ _ _ _ (@ps_dput _ _ _ _ _ _ _ _ _ (units1 hr.units) (@pvN _ 2 _ _ (by rfl) (by trivial) (by decide) (by decide)) (@pvN _ 4 _ _ (by rfl) (by trivial) (by decide) (by decide)) (@pvN _ 1 _ _ (by rfl) (by trivial) (by decide) (by decide)) rfl) (@pss_cons _ _ _ _ _ (@ps_expr _ _ _ _ (@pe_bm _ _ _ _ _ _ _ _ _ _ _ _ PySem.F.plainAttrs_list PySem.F.slot_list_append PySem.F.type_list_append mt_append (@pvN _ 3 _ _ (by rfl) (by trivial) (by decide) (by decide)) (@pa_c _ _ _ _ _ (@pvN _ 4 _ _ (by rfl) (by trivial) (by decide) (by decide)) (@pa_nil _) (by rfl)) (by rfl) (by rfl) (by rfl) (by rfl) (by rfl)) (by rfl)) (@pss_one _ _ _ (@ps_set _ _ (4) _ _ _ _ c_ring_from.nd rfl (Or.inl rfl) (@pe_dget _ _ _ _ _ _ (units1 hr.units) (@pvN _ 0 _ _ (by rfl) (by trivial) (by decide) (by decide)) (@pvN _ 4 _ _ (by rfl) (by trivial) (by decide) (by decide)) (fun _ _ => rfl)) (by rfl) (by trivial)))))) (@pss_cons _ _ _ _ _ (@ps_if _ _ _ _ _ _ _ _ (@pt_cmpRN _ _ _ _ _ _ _ _ (op_qNe hr.units) (@pe_dget1 _ _ _ _ _ _ _ (units1 hr.units) (@pvN _ 2 _ _ (by rfl) (by trivial) (by decide) (by decide)) (@pvN _ 4 _ _ (by rfl) (by trivial) (by decide) (by decide)) ⟨by rfl, by rfl, by rfl, by rfl⟩) (@pvN _ 1 _ _ (by rfl) (by trivial) (by decide) (by decide)) (nomark _)) (@pss_one _ _ _ (@ps_ret _ _ _ _ (@pe_qLst _ _ _ _ (@pa_nil _)))) (@pss_nil _)) (@pss_one _ _ _ (@ps_ret _ _ _ _ (@pe_slice _ _ _ _ _ _ _ _ _ _ sl_n (@pvN _ 3 _ _ (by rfl) (by trivial) (by decide) (by decide)) (@po_some _ _ _ (@pe_bm _ _ _ _ _ _ _ _ _ _ _ _ PySem.F.plainAttrs_list PySem.F.slot_list_index PySem.F.type_list_index (mt_index hr.units) (@pvN _ 3 _ _ (by rfl) (by trivial) (by decide) (by decide)) (@pa_c _ _ _ _ _ (@pvN _ 4 _ _ (by rfl) (by trivial) (by decide) (by decide)) (@pa_nil _) (by rfl)) (by rfl) (by rfl) (by rfl) (by rfl) (by rfl))) (@po_none _)))))))), ?_⟩
    rw [show start ["found", "start", "walked", "trail", "cell"] [.ref d, .int st, .ref w] = [some (.ref d), some (.int st), some (.ref w), none, none] from rfl]
    have hd0 := eB.at hBd
    simp! only [and_true]
    intro l H1 hl1 e1 h1
    have nwl : w ≠ l := fun z => by rw [← z, hw] at hl1; cases hl1
    have hBl : B l = none := eB.free hl1
    have w1 := e1.at hw
    have eB1 := eB.trans e1
    have ini : WkE kv wv st [] st := ⟨trivial, List.nodup_nil, fun _ h => absurd h List.not_mem_nil, rfl⟩
    have w1' : H1 w = some (.dK (tabI (wkD wv st []))) := by rw [w1]; unfold wkD; rw [List.map_nil, List.append_nil]
    replace P0 := fun (_ : Unit) => P0
    clear hw w1 hd0
    simp! only [and_true]
    refine while_w (by repeat' first | exact mo_tV | exact mo_nI0 | exact mo_nI | apply mo_nTest | apply mo_unN | exact mo_var | exact mo_c | exact mo_rI0 | exact mo_rI | exact mo_rIsN | exact mo_rNotN | exact mo_qEq | exact mo_qIx | exact mo_nil | exact mo_qLen | exact mo_inD | exact mo_qLenD | apply mo_dget2 | apply mo_test | apply mo_tB | apply mo_not | apply mo_and | apply mo_or | apply mo_op | apply mo_un | apply mo_cons | apply mo_qLst | apply mo_cb) (fun m σ H' => ∃ (tr : List Int) (c : Int), σ = [some (.ref d), some (.int st), some (.ref w), some (.ref l), some (.int c)] ∧ m = kv.length - tr.length ∧ WkE kv wv st tr c ∧ Ext B H' ∧ H' w = some (.dK (tabI (wkD wv st tr))) ∧ H' l = some (.lst (tr.map V.int))) _ ⟨[], st, rfl, rfl, ini, eB1, w1', h1⟩ ?_
    clear ini w1' h1 eB1
    rintro m _ H2 ⟨tr, c, rfl, rfl, we, e2, w2, l2⟩
    have d2 := e2.at hBd
    have hll := wk_len (P0 ()) we
    replace we := fun (_ : Unit) => we
    replace hll := fun (_ : Unit) => hll
    simp! only [and_true]
    cases hwc : lookI (wkD wv st tr) c with
    | none =>
      cases hdc : lookI kv c with
      | none =>
        have hct : c ∉ tr := fun m => by
          obtain ⟨e, h1, _⟩ := (we ()).pth.mem m
          rw [hdc] at h1; cases h1
        refine use_in (k := .inl c) d2 ?_
        rw [val_tab, hdc]
        simp! only [and_true]
        refine use_get0 w2 ?_
        simp! only [and_true]
        refine use_get (k := .inl c) w2 ?_
        rw [val_tab, hwc, show ((none : Option Int).map V.int).getD .non = .non from rfl]
        simp! only [and_true]
        intro r H3 hr3 e3 h3
        exact k tr c r H3 (we ()) (fun _ z => by rw [hdc] at z; cases z) (e2.free hr3) (fun z => by rw [z, w2] at hr3; cases hr3) (e2.trans e3) (e3.at w2) (by rw [h3, rgL_no hct]; rfl)
      | some e =>
        have nx := (we ()).next (P0 ()) hdc hwc
        have hput := fun (_ : Unit) => wk_snoc hwc
        have hl5 : (tabI (wkD wv st tr)).length < sizeLine := lt5000 (by rw [tab_len]; have := (P0 ()).len; have := hll (); omega)
        have hl6 : (tr.map V.int).length < sizeLine := lt5000 (by
          have h1 := hll ()
          have h2 := (P0 ()).len
          unfold wkD at h1
          rw [List.length_append, List.length_map] at h1
          rw [List.length_map]
          omega)
        have hlt : kv.length - (tr ++ [c]).length < kv.length - tr.length := by
          have h1 := wk_len (P0 ()) nx
          unfold wkD at h1
          rw [List.length_append, List.length_map] at h1
          rw [List.length_append] at h1 ⊢
          rw [List.length_singleton] at h1 ⊢
          omega
        refine use_in (k := .inl c) d2 ?_
        rw [val_tab, hdc]
        simp! only [and_true]
        refine use_in (k := .inl c) w2 ?_
        rw [val_tab, hwc]
        simp! only [and_true]
        refine use_dp (k := .inl c) w2 hl5 ?_
        have l3 : upd H2 w (.dK (putK (tabI (wkD wv st tr)) (.inl c) (.int st))) l = some (.lst (tr.map V.int)) := by rw [upd_ne (Ne.symm nwl)]; exact l2
        have d3 : upd H2 w (.dK (putK (tabI (wkD wv st tr)) (.inl c) (.int st))) d = some (.dK (tabI kv)) := by rw [upd_ne (fun z => by rw [z, hBw] at hBd; cases hBd)]; exact d2
        have e3 : Ext B (upd H2 w (.dK (putK (tabI (wkD wv st tr)) (.inl c) (.int st)))) := e2.put hBw
        have w3 : upd H2 w (.dK (putK (tabI (wkD wv st tr)) (.inl c) (.int st))) w = some (.dK (tabI (wkD wv st (tr ++ [c])))) := by rw [upd_same, hput ()]
        generalize upd H2 w (.dK (putK (tabI (wkD wv st tr)) (.inl c) (.int st))) = H3 at l3 d3 e3 w3
        replace nx := fun (_ : Unit) => nx
        clear w2 l2 d2 hput k
        simp! only [and_true]
        refine ⟨by rw [List.length_map] at hl6; exact hl6, ?_⟩
        have d4 : upd H3 l (.lst (tr.map V.int ++ [V.int c])) d = some (.dK (tabI kv)) := by rw [upd_ne (fun z => by rw [z, hBl] at hBd; cases hBd)]; exact d3
        refine use_dg (k := .inl c) (v := .int e) d4 (by rw [val_tab, hdc]; rfl) ?_
        clear d4 l3 d3
        simp! only [-upd_same]
        exact ⟨_, hlt, tr ++ [c], e, rfl, rfl, nx (), e3.put hBl, by rw [upd_ne nwl]; exact w3, by rw [upd_same, List.map_append]; rfl⟩
    | some j =>
      obtain ⟨e, hdc⟩ : ∃ e, lookI kv c = some e := by
        have := look_some.mpr (wk_sub (P0 ()) (we ()) c (look_some.mp (by rw [hwc]; rfl)))
        cases h : lookI kv c with
        | none => rw [h] at this; cases this
        | some e => exact ⟨e, rfl⟩
      have hwl := wk_look (P0 ()).wnd (we ()).nd (we ()).new (st := st) c
      by_cases m : c ∈ tr
      · rw [if_pos m, hwc] at hwl
        obtain rfl := Option.some.inj hwl
        obtain ⟨a, b, rfl, hca⟩ := split_first m
        clear hwl m
        refine use_in (k := .inl c) d2 ?_
        rw [val_tab, hdc]
        simp! only [and_true]
        refine use_in (k := .inl c) w2 ?_
        rw [val_tab, hwc]
        simp! only [and_true]
        refine use_get0 w2 ?_
        simp! only [and_true]
        refine use_get (k := .inl c) w2 ?_
        rw [val_tab, hwc, show ((some j : Option Int).map V.int).getD .non = .int j from rfl]
        simp! only [and_true]
        refine use_idxI l2 hca ?_
        simp! only [and_true]
        rw [cut_some _ _ (Int.natCast_nonneg _), Int.toNat_natCast, show (List.map V.int (a ++ c :: b)).drop a.length = (c :: b).map V.int by rw [List.map_append, List.drop_left' (by simp)]]
        intro r H3 hr3 e3 h3
        exact k _ c r H3 (we ()) (fun z => absurd (by simp) z) (e2.free hr3) (fun z => by rw [z, w2] at hr3; cases hr3) (e2.trans e3) (e3.at w2) (by rw [h3, rgL_at hca])
      · rw [if_neg m, hwc] at hwl
        have hj : ¬ j = st := fun z => (P0 ()).new c (by rw [← hwl, z])
        replace hwl := fun (_ : Unit) => hwl
        refine use_in (k := .inl c) d2 ?_
        rw [val_tab, hdc]
        simp! only [and_true]
        refine use_in (k := .inl c) w2 ?_
        rw [val_tab, hwc]
        simp! only [and_true]
        refine use_get0 w2 ?_
        simp! only [and_true]
        refine use_get (k := .inl c) w2 ?_
        rw [val_tab, hwc, show ((some j : Option Int).map V.int).getD .non = .int j from rfl]
        simp! only [and_true]
        intro r H3 hr3 e3 h3
        exact k tr c r H3 (we ()) (fun _ _ => by rw [← hwl ()]; rfl) (e2.free hr3) (fun z => by rw [z, w2] at hr3; cases hr3) (e2.trans e3) (e3.at w2) (by rw [h3, rgL_no m]; rfl)
def ovI (o : Option Int) : V := (o.map V.int).getD .non
theorem use_neO {x y : Option Int} {H : Hp} {Q : VK} (q : Q (.bl (!decide (x = y))) H) : qEq true (ovI x) (ovI y) H Q := by
  unfold qEq
  have hs : scal (ovI x) (ovI y) = true := by cases x <;> cases y <;> rfl
  have e : decide (ovI x = ovI y) = decide (x = y) := by
    cases x <;> cases y <;> simp [ovI]
  rw [if_pos hs, if_pos rfl, e]
  exact q
theorem ext_upd {H H1 : Hp} (e : Ext H H1) (d : Addr) (o : HO) : Ext (upd H d o) (upd H1 d o) := Same.ext fun b u h => by
  by_cases hb : b = d
  · rw [hb, upd_same] at h ⊢; exact h
  · rw [upd_ne hb] at h ⊢; exact e.at h
def drB (kv rv : List (Int × Int)) (x : Int) : Bool := kv.any fun p => decide (p.2 = x) && !decide (lookI rv p.1 = lookI rv p.2)
theorem drB_snoc (kv rv : List (Int × Int)) (p : Int × Int) (x : Int) : drB (kv ++ [p]) rv x = (drB kv rv x || (decide (p.2 = x) && !decide (lookI rv p.1 = lookI rv p.2))) := by
  unfold drB
  rw [List.any_append]
  simp
def DrI (kv rv : List (Int × Int)) (dv : List (Key × V)) : Prop := dv.length ≤ kv.length ∧ ∀ x, (valV dv (.inl x)).isSome = drB kv rv x
theorem DrI.skip {kv rv : List (Int × Int)} {dv : List (Key × V)} (h : DrI kv rv dv) {p : Int × Int} (e : lookI rv p.1 = lookI rv p.2) : DrI (kv ++ [p]) rv dv := by
  refine ⟨by rw [List.length_append]; have := h.1; omega, fun x => ?_⟩
  rw [h.2 x, drB_snoc]
  simp [e]
theorem DrI.put {kv rv : List (Int × Int)} {dv : List (Key × V)} (h : DrI kv rv dv) {p : Int × Int} (e : ¬ lookI rv p.1 = lookI rv p.2) : DrI (kv ++ [p]) rv (putK dv (.inl p.2) (.bl true)) := by
  refine ⟨?_, fun x => ?_⟩
  · have := length_putK dv (.inl p.2 : Key) (.bl true)
    rw [List.length_append]
    have := h.1
    simp
    omega
  rw [valV_put, drB_snoc, ← h.2 x]
  by_cases hx : x = p.2
  · rw [if_pos (congrArg Sum.inl hx)]
    simp [hx, e]
  · rw [if_neg (inl_ne hx)]
    simp [Ne.symm hx]
abbrev B_spDB  (d : Addr) (ro : Addr) (H : Hp) (Q : VK) (E : XK) : Prop := ∃ (kv rv : List (Int × Int)), H d = some (.dK (tabI kv)) ∧ H ro = some (.dK (tabI rv)) ∧ d ≠ ro ∧ kv.length ≤ 4200 ∧ ∀ (r : Addr) (H' : Hp) (dv : List (Key × V)), H r = none → Ext H H' → H' r = some (.dK dv) → DrI kv rv dv → Q (.ref r) H'
def spDB  : Sp := fun vs H Q E => ∃ (d : Addr) (ro : Addr), vs = [.ref d, .ref ro] ∧ (B_spDB  d ro H Q E)
theorem c_spDB  (d : Addr) (ro : Addr) (H : Hp) (Q : VK) (E : XK) : spDB  [.ref d, .ref ro] H Q E = (B_spDB  d ro H Q E) := spx2 (f := fun (d : Addr) (ro : Addr) => [.ref d, .ref ro]) (fun _ _ _ _ h => by cases h; exact ⟨rfl, rfl⟩) d ro
theorem l_spDB  {vs : List V} {H : Hp} {Q : VK} {E : XK} (h : spDB  vs H Q E) : vs.length = 2 := spl2 h fun _ _ => rfl
theorem ok_drawn_from_beyond (T : Tx K mg t) : FnOk P w K mg base CX0 1 t.a_drawn_from_beyond t.d_drawn_from_beyond ["found", "ring_of"] spDB := by
  refine T.F_drawn_from_beyond.ok c_drawn_from_beyond (fun vs H Q E h => l_spDB h) (fun cdv A outer s' H vs Q E hr h => ?_)
  · obtain ⟨d, ro, rfl, kv, rv, hd, hro, ndr, hl, k⟩ := h
    refine ⟨_, (@pss_cons _ _ _ _ _ (@ps_set _ _ (2) _ _ _ _ c_drawn_from_beyond.nd rfl (Or.inl rfl) (@pe_nDNew _ _) (by rfl) (by trivial)) (@pss_cons _ _ _ _ _ (@ps_thaw _ _ _ (@ps_for _ _ _ _ _ _ _ _ PassesOwn.never rfl (@pi_items _ _ _ _ _ _ _ _ (@pvN _ 0 _ _ (by rfl) (by trivial) (by decide) (by decide)) (by rfl) (by rfl)) ((@pg_tup _ _ _ _ _ (2) rfl (@pgs_consN _ _ _ _ _ (@pg_name _ _ (3) _ c_drawn_from_beyond.nd rfl (Or.inl rfl) (by trivial)) (@pgs_consN _ _ _ _ _ (@pg_name _ _ (4) _ c_drawn_from_beyond.nd rfl (Or.inl rfl) (by trivial)) (@pgs_nilN _) (by rfl)) (by rfl)) (by rfl) (by rfl)).mono fun _ _ _ _ h => gTup_q h) (@pss_one _ _ _ (@ps_if _ _ _ _ _ _ _ _ (@pt_cmpRN _ _ _ _ _ _ _ _ (op_qNe hr.units) (@pe_dget1 _ _ _ _ _ _ _ (units1 hr.units) (@pvN _ 1 _ _ (by rfl) (by trivial) (by decide) (by decide)) (@pvN _ 3 _ _ (by rfl) (by trivial) (by decide) (by decide)) ⟨by rfl, by rfl, by rfl, by rfl⟩) (@pe_dget1 _ _ _ _ _ _ _ (units1 hr.units) (@pvN _ 1 _ _ (by rfl) (by trivial) (by decide) (by decide)) (@pvN _ 4 _ _ (by rfl) (by trivial) (by decide) (by decide)) ⟨by rfl, by rfl, by rfl, by rfl⟩) (nomark _)) (@pss_one _ _ _ (@ps_dput _ _ _ _ _ _ _ _ _ (units1 hr.units) (@pvN _ 2 _ _ (by rfl) (by trivial) (by decide) (by decide)) (@pvN _ 4 _ _ (by rfl) (by trivial) (by decide) (by decide)) (@pe_bl _ _ _ _) rfl)) (@pss_nil _))) (by intros; rfl))) (@pss_one _ _ _ (@ps_ret _ _ _ _ (@pvN _ 2 _ _ (by rfl) (by trivial) (by decide) (by decide)))))), ?_⟩
    rw [show start ["found", "ring_of", "drawn", "cell", "origin"] [.ref d, .ref ro] = [some (.ref d), some (.ref ro), none, none, none] from rfl]
    simp! only [and_true]
    intro l H1 hl1 e1 h1
    have d1 := e1.at hd
    have ndl : d ≠ l := fun z => by rw [z, hl1] at hd; cases hd
    simp! only [and_true]
    refine for_items (fun ob i σ H' => ∃ (v3 v4 : Option V) (dv : List (Key × V)), σ = [some (.ref d), some (.ref ro), some (.ref l), v3, v4] ∧ Ext (upd H d (.frz ob (.dK (tabI kv)))) H' ∧ H' l = some (.dK dv) ∧ DrI (kv.take i) rv dv) d1 (fun ob => ⟨none, none, [], rfl, ext_upd e1 _ _, by rw [upd_ne (Ne.symm ndl)]; exact h1, by rw [List.take_zero]; exact ⟨Nat.le_refl _, fun _ => rfl⟩⟩) (fun ob i σ' H' ⟨_, _, _, _, e, _⟩ => e.at upd_same) ?_ ?_
    · rintro ob i z p _ H2 H3 hz ⟨v3, v4, dv, rfl, e2, l2, di⟩ hp e3 h3
      obtain ⟨y, hy, rfl⟩ : ∃ y, kv[i]? = some y ∧ z = ((Sum.inl y.1 : Key), V.int y.2) := by
        unfold tabI at hz
        rw [List.getElem?_map] at hz
        obtain ⟨y, h1, h2⟩ := Option.map_eq_some_iff.mp hz
        exact ⟨y, h1, h2.symm⟩
      have ht : kv.take (i + 1) = kv.take i ++ [y] := by rw [List.take_add_one, hy]; rfl
      obtain ⟨c, o⟩ := y
      have ro3 : H3 ro = some (.dK (tabI rv)) := e3.at (e2.at (by rw [upd_ne (Ne.symm ndr)]; exact hro))
      have l3 := e3.at l2
      have e23 := e2.trans e3
      have hlu : upd H d (.frz ob (.dK (tabI kv))) l = none := by rw [upd_ne (Ne.symm ndl)]; exact hl1
      rw [show kV ((Sum.inl (c, o).1 : Key), V.int (c, o).2).1 = V.int c from rfl] at h3
      have hl5 : dv.length < sizeLine := lt5000 (by have := di.1; rw [List.length_take] at this; omega)
      replace ht := fun (_ : Unit) => ht
      replace di := fun (_ : Unit) => di
      clear hz hy d1 h1 k hd hro l2
      simp! only [and_true]
      refine use_get0 ro3 ?_
      simp! only [and_true]
      refine use_get (k := .inl c) ro3 ?_
      rw [val_tab]
      simp! only [and_true]
      refine use_get0 ro3 ?_
      simp! only [and_true]
      refine use_get (k := .inl o) ro3 ?_
      rw [val_tab]
      refine use_neO ?_
      by_cases e : lookI rv c = lookI rv o
      · rw [decide_eq_true e]
        simp! only [and_true]
        exact ⟨_, _, dv, rfl, e23, (by first | exact l3 | rfl), by rw [ht ()]; exact (di ()).skip e⟩
      · rw [decide_eq_false e]
        replace e := fun (_ : Unit) => e
        simp! only [and_true]
        refine use_dp (k := .inl o) l3 hl5 ?_
        exact ⟨_, _, _, rfl, e23.put hlu, upd_same, by rw [ht ()]; exact (di ()).put (e ())⟩
    · rintro ob _ H2 ⟨v3, v4, dv, rfl, e2, l2, di⟩
      rw [tab_len, List.take_length] at di
      have e4 := Ext.thaw hd e2
      have l4 : upd H2 d (.dK (tabI kv)) l = some (.dK dv) := by rw [upd_ne (Ne.symm ndl)]; exact l2
      generalize upd H2 d (.dK (tabI kv)) = H4 at e4 l4
      replace di := fun (_ : Unit) => di
      simp! only [and_true]
      exact k l H4 dv hl1 e4 l4 (di ())
structure RoI (Cl : List (List Int)) (kv rv : List (Int × Int)) : Prop where
  nd : NdK rv
  sub : ∀ x, (lookI rv x).isSome = true → (lookI kv x).isSome = true
  yes : ∀ l ∈ Cl, ∀ x ∈ l, lookI rv x = some (l.headD 0)
  no : ∀ x h, lookI rv x = some h → ∃ l ∈ Cl, x ∈ l ∧ h = l.headD 0
structure RoJ (Cl : List (List Int)) (kv rv : List (Int × Int)) (dn : List Int) (h : Int) (rv' : List (Int × Int)) : Prop where
  nd : NdK rv'
  sub : ∀ x, (lookI rv' x).isSome = true → (lookI kv x).isSome = true
  val : ∀ x, lookI rv' x = if x ∈ dn then some h else lookI rv x
theorem RoJ.len {Cl : List (List Int)} {kv rv rv' : List (Int × Int)} {dn : List Int} {h : Int} (j : RoJ Cl kv rv dn h rv') : rv'.length ≤ kv.length := by
  have := nd_len j.nd fun x hx => look_some.mp (j.sub x (look_some.mpr hx))
  simpa using this
theorem RoJ.ini {Cl : List (List Int)} {kv rv : List (Int × Int)} (h : RoI Cl kv rv) (hh : Int) : RoJ Cl kv rv [] hh rv := ⟨h.nd, h.sub, fun x => by rw [if_neg List.not_mem_nil]⟩
theorem RoJ.put {Cl : List (List Int)} {kv rv rv' : List (Int × Int)} {dn : List Int} {h c : Int} (j : RoJ Cl kv rv dn h rv') (hc : (lookI kv c).isSome = true) : RoJ Cl kv rv (dn ++ [c]) h (putI rv' c h) := by
  refine ⟨putI_nodup j.nd c h, fun x hx => ?_, fun x => ?_⟩
  · rw [look_put] at hx
    by_cases e : x = c
    · rw [e]; exact hc
    · rw [if_neg e] at hx; exact j.sub x hx
  · rw [look_put, j.val x]
    by_cases e : x = c
    · rw [if_pos e, if_pos (by rw [e]; simp)]
    · rw [if_neg e]
      have : x ∈ dn ++ [c] ↔ x ∈ dn := by simp [e]
      simp only [this]
theorem RoJ.fin {Cl : List (List Int)} {kv rv rv' : List (Int × Int)} {l rg : List Int} (j : RoJ Cl kv rv rg (l.headD 0) rv') (i : RoI Cl kv rv) (hp : l.Perm rg) (hd : ∀ l' ∈ Cl, ∀ x ∈ l', x ∉ rg) : RoI (Cl ++ [l]) kv rv' := by
  refine ⟨j.nd, j.sub, fun l' hl' x hx => ?_, fun x h hx => ?_⟩
  · rw [j.val x]
    rcases List.mem_append.mp hl' with hl' | hl'
    · rw [if_neg (hd l' hl' x hx)]; exact i.yes l' hl' x hx
    · rw [List.mem_singleton.mp hl'] at hx ⊢
      rw [if_pos (hp.mem_iff.mp hx)]
  · rw [j.val x] at hx
    by_cases m : x ∈ rg
    · rw [if_pos m] at hx
      exact ⟨l, List.mem_append_right _ List.mem_cons_self, hp.mem_iff.mpr m, (Option.some.inj hx).symm⟩
    · rw [if_neg m] at hx
      obtain ⟨l', h1, h2, h3⟩ := i.no x h hx
      exact ⟨l', List.mem_append_left _ h1, h2, h3⟩
structure RgI (kv : List (Int × Int)) (S : List Int) (wv rv : List (Int × Int)) (Cl : List (List Int)) : Prop where
  wnd : NdK wv
  sub : ∀ x, (lookI wv x).isSome = true → (lookI kv x).isSome = true
  lab : ∀ x v, lookI wv x = some v → v ∈ S
  all : ∀ x ∈ S, (lookI wv x).isSome = true
  sr : Srch (lookI kv) (fun x => (lookI wv x).isSome = true) Cl
  ro : RoI Cl kv rv
theorem RgI.nil (kv : List (Int × Int)) : RgI kv [] [] [] [] := ⟨List.nodup_nil, (fun _ h => by cases h), (fun _ _ h => by cases h), fun _ h => absurd h List.not_mem_nil, ⟨(fun _ h => by cases h), (fun _ _ h => by cases h), fun _ h => absurd h List.not_mem_nil, (fun _ _ h => by cases h), List.nodup_nil⟩, ⟨List.nodup_nil, (fun _ h => by cases h), fun _ h => absurd h List.not_mem_nil, fun _ _ h => by cases h⟩⟩
theorem srch_congr {f : Int → Option Int} {W W' : Int → Prop} {Cl : List (List Int)} (S : Srch f W Cl) (h : ∀ x, W' x ↔ W x) : Srch f W' Cl := by
  have e : W' = W := funext fun x => propext (h x)
  rw [e]; exact S
theorem wk_iff {kv wv : List (Int × Int)} {st : Int} {t : List Int} {c : Int} (P : RfP kv wv st) (h : WkE kv wv st t c) (x : Int) : (lookI (wkD wv st t) x).isSome = true ↔ ((lookI wv x).isSome = true ∨ x ∈ t) := by
  rw [wk_look P.wnd h.nd h.new]
  by_cases m : x ∈ t
  · rw [if_pos m]; simp [m]
  · rw [if_neg m]; simp [m]
theorem RgI.rfp {kv wv rv : List (Int × Int)} {S : List Int} {Cl : List (List Int)} {st : Int} (r : RgI kv S wv rv Cl) (hn : NdK kv) (hl : kv.length ≤ 4200) (hs : st ∉ S) : RfP kv wv st := ⟨hn, hl, r.wnd, r.sub, fun x e => hs (r.lab x st e)⟩
theorem RgI.bas {kv wv rv : List (Int × Int)} {S : List Int} {Cl : List (List Int)} {st c : Int} {t : List Int} (r : RgI kv S wv rv Cl) (P : RfP kv wv st) (h : WkE kv wv st t c) (ho : c ∉ t → (lookI kv c).isSome = true → (lookI wv c).isSome = true) (hst : (lookI kv st).isSome = true) :
    NdK (wkD wv st t) ∧ (∀ x, (lookI (wkD wv st t) x).isSome = true → (lookI kv x).isSome = true) ∧ (∀ x v, lookI (wkD wv st t) x = some v → v ∈ S ++ [st]) ∧ ∀ x ∈ S ++ [st], (lookI (wkD wv st t) x).isSome = true := by
  refine ⟨wk_nd h P.wnd, fun x hx => look_some.mpr (wk_sub P h x (look_some.mp hx)), fun x v e => ?_, fun x hx => ?_⟩
  · rw [wk_look P.wnd h.nd h.new] at e
    by_cases m : x ∈ t
    · rw [if_pos m] at e; rw [← Option.some.inj e]; simp
    · rw [if_neg m] at e; exact List.mem_append_left _ (r.lab x v e)
  · rw [wk_iff P h]
    rcases List.mem_append.mp hx with hx | hx
    · exact .inl (r.all x hx)
    · rw [List.mem_singleton.mp hx]
      cases t with
      | nil =>
        have e : c = st := h.hd
        subst e
        exact .inl (ho List.not_mem_nil hst)
      | cons y t =>
        have e : y = st := h.hd
        subst e
        exact .inr List.mem_cons_self
theorem RgI.out {kv wv rv : List (Int × Int)} {S : List Int} {Cl : List (List Int)} {st c : Int} {t : List Int} (r : RgI kv S wv rv Cl) (P : RfP kv wv st) (h : WkE kv wv st t c) (ho : c ∉ t → (lookI kv c).isSome = true → (lookI wv c).isSome = true) (hst : (lookI kv st).isSome = true) (hc : c ∉ t) : RgI kv (S ++ [st]) (wkD wv st t) rv Cl := by
  obtain ⟨b1, b2, b3, b4⟩ := r.bas P h ho hst
  exact ⟨b1, b2, b3, b4, srch_congr (walk_out r.sr h.pth h.nd (fun x hx z => by rw [h.new x hx] at z; cases z) hc (ho hc)) (wk_iff P h), r.ro⟩
theorem RgI.self {kv wv rv : List (Int × Int)} {S : List Int} {Cl : List (List Int)} {st c : Int} {a : List Int} (r : RgI kv S wv rv Cl) (P : RfP kv wv st) (h : WkE kv wv st (a ++ [c]) c) (hst : (lookI kv st).isSome = true) : RgI kv (S ++ [st]) (wkD wv st (a ++ [c])) rv Cl := by
  obtain ⟨b1, b2, b3, b4⟩ := r.bas P h (fun z => absurd (by simp) z) hst
  exact ⟨b1, b2, b3, b4, srch_congr ((walk_ring r.sr (b := []) h.pth h.nd (fun x hx z => by rw [h.new x hx] at z; cases z)).2.1 rfl) (wk_iff P h), r.ro⟩
theorem RgI.ring {kv wv rv rv' : List (Int × Int)} {S : List Int} {Cl : List (List Int)} {st c : Int} {a b a' b' : List Int} {m : Int} (r : RgI kv S wv rv Cl) (P : RfP kv wv st) (h : WkE kv wv st (a ++ c :: b) c) (hst : (lookI kv st).isSome = true) (hb : b ≠ [])
    (e : c :: b = a' ++ b') (hm : b'.head? = some m) (hl : ∀ x ∈ c :: b, m ≤ x) (j : RoJ Cl kv rv (c :: b) ((b' ++ a').headD 0) rv') : RgI kv (S ++ [st]) (wkD wv st (a ++ c :: b)) rv' (Cl ++ [b' ++ a']) := by
  obtain ⟨b1, b2, b3, b4⟩ := r.bas P h (fun z => absurd (by simp) z) hst
  have hw : ∀ x ∈ a ++ c :: b, ¬ (lookI wv x).isSome = true := fun x hx z => by rw [h.new x hx] at z; cases z
  obtain ⟨w1, _, w3⟩ := walk_ring r.sr h.pth h.nd hw
  have h2 : 2 ≤ (c :: b).length := by cases b with | nil => exact absurd rfl hb | cons x b => simp
  have rl := rotL w1 h2 e hm hl
  have pm : (b' ++ a').Perm (c :: b) := by rw [e]; exact List.perm_append_comm
  refine ⟨b1, b2, b3, b4, srch_congr (w3 _ rl pm) (wk_iff P h), j.fin r.ro pm fun l' hl' x hx hm => ?_⟩
  exact hw x (List.mem_append_right _ hm) ((r.sr.rng l' hl').2 x hx)
theorem bare_eq {kv rv : List (Int × Int)} {Cl : List (List Int)} (hn : NdK kv) (hr : ∀ l ∈ Cl, RingL (lookI kv) l) (ro : RoI Cl kv rv) {l : List Int} (hl : l ∈ Cl) : (!(l.any fun x => drB kv rv x)) = bareB (lookI kv) (kv.map (·.1)) l := by
  have key : ∀ x, lookI rv x = some (l.headD 0) ↔ x ∈ l := fun x => by
    refine ⟨fun h => ?_, fun h => ro.yes l hl x h⟩
    obtain ⟨l', h1, h2, h3⟩ := ro.no x _ h
    have e : l = l' := ringL_eq (hr l hl) (hr l' h1) (hr l hl).head_mem (by rw [h3]; exact (hr l' h1).head_mem)
    rw [e]; exact h2
  rw [Bool.eq_iff_iff, Bool.not_eq_true', ← Bool.not_eq_true, List.any_eq_true]
  unfold bareB
  rw [List.all_eq_true]
  constructor
  · intro h c hc
    obtain ⟨⟨c', d⟩, hp, rfl⟩ := List.mem_map.mp hc
    rw [look_of hn hp]
    by_cases m : c' ∈ l
    · simp [m]
    · by_cases md : d ∈ l
      · refine absurd ⟨d, md, ?_⟩ h
        unfold drB
        rw [List.any_eq_true]
        refine ⟨(c', d), hp, ?_⟩
        have h1 := (key d).mpr md
        have h2 : ¬ lookI rv c' = lookI rv d := fun e => m ((key c').mp (e.trans h1))
        simp [h2]
      · simp [md]
  · rintro h ⟨x, hx, hd⟩
    unfold drB at hd
    obtain ⟨p, hp, hq⟩ := List.any_eq_true.mp hd
    simp only [Bool.and_eq_true, decide_eq_true_eq, Bool.not_eq_true', decide_eq_false_iff_not] at hq
    have h1 := h p.1 (List.mem_map.mpr ⟨p, hp, rfl⟩)
    rw [look_of hn (show (p.1, p.2) ∈ kv from hp)] at h1
    have m1 : p.2 ∈ l := by rw [hq.1]; exact hx
    have m2 : p.1 ∉ l := fun m => hq.2 (((key _).mpr m).trans ((key _).mpr m1).symm)
    simp [m1, m2] at h1
theorem rings_all {kv wv rv : List (Int × Int)} {Cl : List (List Int)} {ms : List Int} (r : RgI kv ms wv rv Cl) (hm : ∀ x, x ∈ ms ↔ x ∈ kv.map (·.1)) {L : List (List Int × Bool)} (hp : L.Perm (Cl.map fun l => (l, bareB (lookI kv) (kv.map (·.1)) l))) (hs : L.Pairwise fun p q => p.1.headD 0 ≤ q.1.headD 0) : RingsOf (lookI kv) (kv.map (·.1)) L := by
  have hd : (L.map fun p => p.1.headD 0).Nodup := by
    have h1 := hp.map (fun p : List Int × Bool => p.1.headD 0)
    rw [List.map_map] at h1
    exact h1.nodup_iff.mpr r.sr.nd
  have hs' : L.Pairwise fun p q => p.1.headD 0 < q.1.headD 0 := by
    have h1 : L.Pairwise fun p q => p.1.headD 0 ≠ q.1.headD 0 := List.pairwise_map.mp hd
    refine (hs.and h1).imp fun h => ?_
    have h1 := h.1
    have h2 := h.2
    omega
  refine ⟨hs', fun p hpm => ?_, fun l hl => ?_⟩
  · obtain ⟨l, hl, rfl⟩ := List.mem_map.mp (hp.mem_iff.mp hpm)
    exact ⟨(r.sr.rng l hl).1, rfl⟩
  · refine ⟨_, hp.mem_iff.mpr (List.mem_map.mpr ⟨l, r.sr.all l hl ?_, rfl⟩)⟩
    obtain ⟨d, h1, _⟩ := hl.1.mem hl.head_mem
    exact r.all _ ((hm _).mpr (look_some.mp (by rw [h1]; rfl)))
def CutS (S : List Addr) (H : Hp) : Hp := fun b => if b ∈ S then none else H b
theorem cut_sub (S : List Addr) (H : Hp) : Ext (CutS S H) H := Same.ext fun b o h => by
  unfold CutS at h
  by_cases hb : b ∈ S
  · rw [if_pos hb] at h; cases h
  · rwa [if_neg hb] at h
theorem cut1_no (w : Addr) (H : Hp) : CutS [w] H w = none := if_pos (by simp)
theorem cut1_at {w b : Addr} {H : Hp} {o : HO} (h : H b = some o) (hn : b ≠ w) : CutS [w] H b = some o := by
  unfold CutS
  rw [if_neg (by simpa using hn)]
  exact h
theorem cut1_none {w b : Addr} {H : Hp} (h : CutS [w] H b = none) (hn : b ≠ w) : H b = none := by
  unfold CutS at h
  rwa [if_neg (by simpa using hn)] at h
theorem cut1_ext {w : Addr} {H H5 H6 : Hp} (e : Ext H H5) (hw : H w = none) (e6 : Ext (CutS [w] H5) H6) : Ext H H6 := Same.ext fun b o h => e6.at (cut1_at (e.at h) fun z => by rw [z, hw] at h; cases h)
def viI : V → Int
  | .int i => i
  | _ => 0
def InL (H0 : Hp) (cl : Addr) (l : List Int) (y : V) (H : Hp) : Prop := ∃ r, y = .ref r ∧ H r = some (.lst (l.map V.int)) ∧ r ≠ cl ∧ H0 r = none
theorem InL.ext {H0 H H' : Hp} {cl : Addr} {l : List Int} {y : V} (h : InL H0 cl l y H) (e : Ext H H') : InL H0 cl l y H' := by
  obtain ⟨r, h1, h2, h3, h4⟩ := h
  exact ⟨r, h1, e.at h2, h3, h4⟩
structure RgH (H0 H : Hp) (w ro cl : Addr) (wv rv : List (Int × Int)) (Cl : List (List Int)) (ys : List V) : Prop where
  e : Ext H0 H
  hw : H w = some (.dK (tabI wv))
  hro : H ro = some (.dK (tabI rv))
  hcl : H cl = some (.lst ys)
  al : Al (fun l y => InL H0 cl l y H) Cl ys
theorem RgH.ext {H0 H H' : Hp} {w ro cl : Addr} {wv rv : List (Int × Int)} {Cl : List (List Int)} {ys : List V} (h : RgH H0 H w ro cl wv rv Cl ys) (e : Ext H H') : RgH H0 H' w ro cl wv rv Cl ys := ⟨h.e.trans e, e.at h.hw, e.at h.hro, e.at h.hcl, h.al.imp fun _ _ q => q.ext e⟩
theorem RgH.walk {H0 H H' : Hp} {w ro cl : Addr} {wv wv' rv : List (Int × Int)} {Cl : List (List Int)} {ys : List V} (h : RgH H0 H w ro cl wv rv Cl ys) (fw : H0 w = none) (nro : ro ≠ w) (e : Ext (CutS [w] H) H') (hw : H' w = some (.dK (tabI wv'))) : RgH H0 H' w ro cl wv' rv Cl ys :=
  ⟨cut1_ext h.e fw e, hw, e.at (cut1_at h.hro nro), e.at (cut1_at h.hcl fun z => by have := h.hcl; rw [z, h.hw] at this; cases this), h.al.imp fun l y ⟨r, h1, h2, h3, h4⟩ => ⟨r, h1, e.at (cut1_at h2 fun z => by rw [z, h.hw] at h2; cases h2), h3, h4⟩⟩
theorem RgH.app {H0 H : Hp} {w ro cl : Addr} {wv rv : List (Int × Int)} {Cl : List (List Int)} {ys : List V} {l : List Int} {r : Addr} (h : RgH H0 H w ro cl wv rv Cl ys) (fc : H0 cl = none) (hr : H r = some (.lst (l.map V.int))) (nr : r ≠ cl) (fr : H0 r = none) : RgH H0 (upd H cl (.lst (ys ++ [.ref r]))) w ro cl wv rv (Cl ++ [l]) (ys ++ [.ref r]) := by
  have nw : w ≠ cl := fun z => by have := h.hw; rw [z, h.hcl] at this; cases this
  have nro : ro ≠ cl := fun z => by have := h.hro; rw [z, h.hcl] at this; cases this
  refine ⟨h.e.put fc, by rw [upd_ne nw]; exact h.hw, by rw [upd_ne nro]; exact h.hro, upd_same, (h.al.imp fun l y ⟨r, h1, h2, h3, h4⟩ => ⟨r, h1, by rw [upd_ne h3]; exact h2, h3, h4⟩).snoc ⟨r, rfl, by rw [upd_ne nr]; exact hr, nr, fr⟩⟩
theorem RgH.put {H0 H : Hp} {w ro cl : Addr} {wv rv rv' : List (Int × Int)} {Cl : List (List Int)} {ys : List V} (h : RgH H0 H w ro cl wv rv Cl ys) (fr : H0 ro = none) (nro : ro ≠ w) : RgH H0 (upd H ro (.dK (tabI rv'))) w ro cl wv rv' Cl ys := by
  have nc : cl ≠ ro := fun z => by have := h.hcl; rw [z, h.hro] at this; cases this
  exact ⟨h.e.put fr, by rw [upd_ne (Ne.symm nro)]; exact h.hw, upd_same, by rw [upd_ne nc]; exact h.hcl, h.al.imp fun l y ⟨r, h1, h2, h3, h4⟩ => ⟨r, h1, by rw [upd_ne fun z => by rw [z, h.hro] at h2; cases h2]; exact h2, h3, h4⟩⟩
def Few (kv : List (Int × Int)) : Prop := ∀ Cl : List (List Int), (∀ l ∈ Cl, RingL (lookI kv) l) → (Cl.map fun l => l.headD 0).Nodup → Cl.length < 64
def RwR (H : Hp) (r : Addr) (p : List Int × Bool) (y : V) (H' : Hp) : Prop := ∃ q l, y = .ref q ∧ H' q = some (.tup [.ref l, .bl p.2]) ∧ H' l = some (.lst (p.1.map V.int)) ∧ H l = none ∧ l ≠ r
def RgAt (H H' : Hp) (r : Addr) (L : List (List Int × Bool)) : Prop := ∃ ys, H' r = some (.lst ys) ∧ H r = none ∧ Al (fun p y => RwR H r p y H') L ys
abbrev B_spRings  (d : Addr) (H : Hp) (Q : VK) (E : XK) : Prop := ∃ kv : List (Int × Int), H d = some (.dK (tabI kv)) ∧ NdK kv ∧ kv.length ≤ 4200 ∧ EasyI (kv.map (·.1)) ∧ Few kv ∧ ∀ (L : List (List Int × Bool)) (r : Addr) (H' : Hp), RingsOf (lookI kv) (kv.map (·.1)) L → Ext H H' → RgAt H H' r L → Q (.ref r) H'
def spRings  : Sp := fun vs H Q E => ∃ (d : Addr), vs = [.ref d] ∧ (B_spRings  d H Q E)
theorem c_spRings  (d : Addr) (H : Hp) (Q : VK) (E : XK) : spRings  [.ref d] H Q E = (B_spRings  d H Q E) := spx1 (f := fun (d : Addr) => [.ref d]) (fun _ _ h => by cases h; exact rfl) d
theorem l_spRings  {vs : List V} {H : Hp} {Q : VK} {E : XK} (h : spRings  vs H Q E) : vs.length = 1 := spl1 h fun _ => rfl
theorem ok_rings (T : Tx K mg t) : FnOk P w K mg base CX0 4 t.a_rings t.d_rings ["found"] spRings := by
  have G_ring_from := ok_ring_from (P := P) (w := w) (base := base) T
  have G_least_first := ok_least_first (P := P) (w := w) (base := base) T
  have G_drawn_from_beyond := ok_drawn_from_beyond (P := P) (w := w) (base := base) T
  have G_first_cell := ok_first_cell (P := P) (w := w) (base := base) T
  refine T.F_rings.ok c_rings (fun vs H Q E h => l_spRings h) (fun cdv A outer s' H vs Q E hr h => ?_)
  · obtain ⟨d, rfl, kv, hd, hnd, h4, hE, hF, k⟩ := h
    refine ⟨_, (@pss_cons _ _ _ _ _ (@ps_set _ _ (1) _ _ _ _ c_rings.nd rfl (Or.inl rfl) (@pe_nDNew _ _) (by rfl) (by trivial)) (@pss_cons _ _ _ _ _ (@ps_set _ _ (2) _ _ _ _ c_rings.nd rfl (Or.inl rfl) (@pe_nDNew _ _) (by rfl) (by trivial)) (@pss_cons _ _ _ _ _ (@ps_set _ _ (3) _ _ _ _ c_rings.nd rfl (Or.inl rfl) (@pe_qLst _ _ _ _ (@pa_nil _)) (by rfl) (by trivial)) (@pss_cons _ _ _ _ _ (@ps_for _ _ _ _ _ _ _ _ PassesOwn.never rfl (@pi_seq _ _ _ _ (@pe_callB _ _ _ _ _ _ _ ("sorted") _ (call_qSrtE rfl) (by rfl) T.z_sorted (by decide +kernel) (@pa_c _ _ _ _ _ (@pvN _ 0 _ _ (by rfl) (by trivial) (by decide) (by decide)) (@pa_nil _) (by rfl)) (by decide) (by decide) (by rfl) (by rfl))) (@pg_name _ _ (4) _ c_rings.nd rfl (Or.inl rfl) (by trivial)) (@pss_cons _ _ _ _ _ (@ps_set _ _ (5) _ _ _ _ c_rings.nd rfl (Or.inl rfl) (@pe_call _ _ _ _ _ _ _ _ _ _ _ _ _ _ _ _ G_ring_from (hr.mono (by decide)) (by rfl) T.m_ring_from T.F_ring_from.kp T.b_ring_from .nil pass0 (@pa_c _ _ _ _ _ (@pvN _ 0 _ _ (by rfl) (by trivial) (by decide) (by decide)) (@pa_c _ _ _ _ _ (@pvN _ 4 _ _ (by rfl) (by trivial) (by decide) (by decide)) (@pa_c _ _ _ _ _ (@pvN _ 1 _ _ (by rfl) (by trivial) (by decide) (by decide)) (@pa_nil _) (by rfl)) (by rfl)) (by rfl)) (by decide) (by rfl) (by rfl)) (by rfl) (by trivial)) (@pss_one _ _ _ (@ps_if _ _ _ _ _ _ _ _ (@pt_cmpRN _ _ _ _ _ _ _ _ on_gt (@pe_callB _ _ _ _ _ _ _ ("len") _ call_qLen (by rfl) T.z_len (by decide +kernel) (@pa_c _ _ _ _ _ (@pvN _ 5 _ _ (by rfl) (by trivial) (by decide) (by decide)) (@pa_nil _) (by rfl)) (by decide) (by decide) (by rfl) (by rfl)) (@pe_int _ _ _ _) (nomark _)) (@pss_cons _ _ _ _ _ (@ps_expr _ _ _ _ (@pe_bm _ _ _ _ _ _ _ _ _ _ _ _ PySem.F.plainAttrs_list PySem.F.slot_list_append PySem.F.type_list_append mt_append (@pvN _ 3 _ _ (by rfl) (by trivial) (by decide) (by decide)) (@pa_c _ _ _ _ _ (@pe_call _ _ _ _ _ _ _ _ _ _ _ _ _ _ _ _ G_least_first (hr.mono (by decide)) (by rfl) T.m_least_first T.F_least_first.kp T.b_least_first .nil pass0 (@pa_c _ _ _ _ _ (@pvN _ 5 _ _ (by rfl) (by trivial) (by decide) (by decide)) (@pa_nil _) (by rfl)) (by decide) (by rfl) (by rfl)) (@pa_nil _) (by rfl)) (by rfl) (by rfl) (by rfl) (by rfl) (by rfl)) (by rfl)) (@pss_one _ _ _ (@ps_for _ _ _ _ _ _ _ _ PassesOwn.never rfl (@pi_seq _ _ _ _ (@pvN _ 5 _ _ (by rfl) (by trivial) (by decide) (by decide))) (@pg_name _ _ (6) _ c_rings.nd rfl (Or.inl rfl) (by trivial)) (@pss_one _ _ _ (@ps_dput _ _ _ _ _ _ _ _ _ (units1 hr.units) (@pvN _ 2 _ _ (by rfl) (by trivial) (by decide) (by decide)) (@pvN _ 6 _ _ (by rfl) (by trivial) (by decide) (by decide)) (@pe_ix _ _ _ _ _ _ _ ix_q (@pe_ix _ _ _ _ _ _ _ ix_q (@pvN _ 3 _ _ (by rfl) (by trivial) (by decide) (by decide)) (@pe_un _ _ _ _ _ _ un_negN (@pe_int _ _ _ _)) (fun _ _ => rfl)) (@pe_int _ _ _ _) (fun _ _ => rfl)) rfl)) (by intros; rfl)))) (@pss_nil _)))) (by intros; rfl)) (@pss_cons _ _ _ _ _ (@ps_set _ _ (7) _ _ _ _ c_rings.nd rfl (Or.inr rfl) (@pe_call _ _ _ _ _ _ _ _ _ _ _ _ _ _ _ _ G_drawn_from_beyond (hr.mono (by decide)) (by rfl) T.m_drawn_from_beyond T.F_drawn_from_beyond.kp T.b_drawn_from_beyond .nil pass0 (@pa_c _ _ _ _ _ (@pvN _ 0 _ _ (by rfl) (by trivial) (by decide) (by decide)) (@pa_c _ _ _ _ _ (@pvN _ 2 _ _ (by rfl) (by trivial) (by decide) (by decide)) (@pa_nil _) (by rfl)) (by rfl)) (by decide) (by rfl) (by rfl)) (by rfl) (by trivial)) (@pss_cons _ _ _ _ _ (@ps_setC _ _ _ _ _ _ _ _ _ _ _ _ _ (["ring", "found", "walked", "ring_of", "closed", "start", "!ring", "cell", "drawn", "told"]) (1) (8) _ c_rings.nd rfl (Or.inl rfl) (comp_ok (defScope s_rings) ["found", "walked", "ring_of", "closed", "start", "ring", "cell", "drawn", "told"] rfl rfl (by decide +kernel)) rfl (@pi_seq _ _ _ _ (@pvN _ 3 _ _ (by rfl) (by trivial) (by decide) (by decide))) (fun C s₀ H₀ ex pn => (@pg_name _ _ (0) _ (show List.Nodup (["ring", "found", "walked", "ring_of", "closed", "start", "!ring", "cell", "drawn", "told"] : List Str) from by decide +kernel) rfl (Or.inl rfl) (by trivial))) (fun C s₀ H₀ ex pn => (@pts_nil _)) (fun C s₀ H₀ ex pn => (@pe_qTup _ _ _ _ _ (@pa_c _ _ _ _ _ (@pvN _ 0 _ _ (by rfl) (by trivial) (by decide) (by decide)) (@pa_c _ _ _ _ _ (@pe_notN _ _ _ _ (@pe_callB _ _ _ _ _ _ _ ("any") _ (call_qAny rfl) (by rfl) T.z_any (by decide +kernel) (@pa_c _ _ _ _ _ (@pe_comp _ _ _ _ _ _ _ _ _ _ _ (["cell", "ring", "found", "walked", "ring_of", "closed", "start", "!ring", "!cell", "drawn", "told"]) (1) (comp_ok _ ["ring", "found", "walked", "ring_of", "closed", "start", "!ring", "cell", "drawn", "told"] rfl rfl (by kernel_rfl)) rfl (@pi_seq' _ _ _ _ (K) rfl (@pvN _ 0 _ _ (by rfl) (by trivial) (by decide) (by decide))) (fun C s₀ H₀ ex pn => (@pg_name _ _ (0) _ (show List.Nodup (["cell", "ring", "found", "walked", "ring_of", "closed", "start", "!ring", "!cell", "drawn", "told"] : List Str) from by decide +kernel) rfl (Or.inl rfl) (by trivial))) (fun C s₀ H₀ ex pn => (@pts_nil _)) (fun C s₀ H₀ ex pn => (@pe_cmpR _ _ _ _ _ _ _ _ (op_inD (units1 hr.units)) (@pvN _ 0 _ _ (by rfl) (by trivial) (by decide) (by decide)) (@pvN _ 9 _ _ (by rfl) (by trivial) (by decide) (by decide)) (by with_unfolding_all rfl))) (by intros; rfl)) (@pa_nil _) (by rfl)) (by decide) (by decide) (by rfl) (by rfl))) (@pa_nil _) (by rfl)) (by rfl)))) (by rfl) (by intros; rfl) (by trivial)) (@pss_one _ _ _ (@ps_ret _ _ _ _ (@pe_callBK _ ("sorted") _ _ _ _ _ _ _ _ _ _ (call_qSrtK G_first_cell (hr.mono (by decide)) T.b_first_cell) (by rfl) T.z_sorted (by decide +kernel) (@pa_c _ _ _ _ _ (@pvN _ 8 _ _ (by rfl) (by trivial) (by decide) (by decide)) (@pa_nil _) (by rfl)) (@pk_cons _ _ _ _ _ _ _ (@pe_glob _ _ (.ref t.a_first_cell) _ _ (by rfl) T.m_first_cell rfl (by decide)) (@pk_nil _)) (by decide) (by decide) (by rfl) (by rfl) (by rfl) (by rfl) (by rfl)))))))))), ?_⟩
    rw [show start ["found", "walked", "ring_of", "closed", "start", "ring", "cell", "drawn", "told"] [.ref d] = [some (.ref d), none, none, none, none, none, none, none, none] from rfl]
    clear G_ring_from G_least_first G_drawn_from_beyond G_first_cell
    replace hE := fun (_ : Unit) => hE
    replace hF := fun (_ : Unit) => hF
    replace hnd := fun (_ : Unit) => hnd
    simp! only [and_true]
    intro w H1 hw1 e1 h1
    simp! only [and_true]
    intro ro H2 hr2 e2 h2
    simp! only [and_true]
    intro cl H3 hc3 e3 h3
    have e03 := e1.trans (e2.trans e3)
    have d3 := e03.at hd
    have w3 := (e2.trans e3).at h1
    have ro3 := e3.at h2
    have fw : H w = none := hw1
    have fro : H ro = none := e1.free hr2
    have fcl : H cl = none := (e1.trans e2).free hc3
    have nro : ro ≠ w := fun z => by rw [z, h1] at hr2; cases hr2
    clear hw1 h1 hr2 h2 hc3 e1 e2 e3
    simp! only [and_true]
    refine use_srtE d3 (tab_keys kv) (len5000 (by rw [List.length_map]; omega)) (hE ()) fun ms hpm _ => ?_
    intro S H4 hS4 e4 s4
    have gh : RgH H H4 w ro cl [] [] [] [] := ⟨e03.trans e4, e4.at w3, e4.at ro3, e4.at h3, Al.nil⟩
    have nSc : S ≠ cl := fun z => by rw [z, h3] at hS4; cases hS4
    have nSw : S ≠ w := fun z => by rw [z, w3] at hS4; cases hS4
    have nSr : S ≠ ro := fun z => by rw [z, ro3] at hS4; cases hS4
    have hmm : ∀ x, x ∈ ms ↔ x ∈ kv.map (·.1) := fun x => hpm.mem_iff
    have hmn : ms.Nodup := hpm.nodup_iff.mpr (hnd ())
    replace hmm := fun (_ : Unit) => hmm
    replace hmn := fun (_ : Unit) => hmn
    clear d3 w3 ro3 h3 hS4 e4 e03 hpm
    simp! only [and_true]
    refine for_lst (xs := ms.map V.int) (fun i σ H' => ∃ (v4 v5 v6 : Option V) (wv rv : List (Int × Int)) (Cl : List (List Int)) (ys : List V), σ = [some (.ref d), some (.ref w), some (.ref ro), some (.ref cl), v4, v5, v6, none, none] ∧ RgH H H' w ro cl wv rv Cl ys ∧ RgI kv (ms.take i) wv rv Cl ∧ H' S = some (.lst (ms.map V.int))) ⟨none, none, none, [], [], [], [], rfl, gh, by rw [List.take_zero]; exact RgI.nil kv, s4⟩ (fun i σ H' _ ⟨_, _, _, _, _, _, _, _, _, _, q⟩ => q) ?_ ?_
    · rintro i x _ H5 hx ⟨v4, v5, v6, wv, rv, Cl, ys, rfl, gh5, gi, s5⟩
      rw [List.getElem?_map] at hx
      obtain ⟨st, hst, rfl⟩ := Option.map_eq_some_iff.mp hx
      have hsk : (lookI kv st).isSome = true := look_some.mpr ((hmm () st).mp (List.mem_of_getElem? hst))
      have htk : ms.take (i + 1) = ms.take i ++ [st] := by rw [List.take_add_one, hst]; rfl
      have hsn : st ∉ ms.take i := fun hm => by
        have h1 := hmn ()
        rw [← List.take_append_drop i ms, List.nodup_append] at h1
        exact h1.2.2 st hm st (List.mem_of_getElem? (i := 0) (by rw [List.getElem?_drop]; simpa using hst)) rfl
      have P0 := gi.rfp (hnd ()) h4 hsn
      have d5 := cut1_at (w := w) (gh5.e.at hd) (fun z => by rw [z, fw] at hd; cases hd)
      replace P0 := fun (_ : Unit) => P0
      replace gi := fun (_ : Unit) => gi
      replace htk := fun (_ : Unit) => htk
      replace hsk := fun (_ : Unit) => hsk
      replace gh5 := fun (_ : Unit) => gh5
      replace d5 := fun (_ : Unit) => d5
      clear hx hst hsn gh s4
      simp! only [and_true]
      rw [c_spRF]
      refine ⟨CutS [w] H5, kv, wv, cut_sub _ _, cut1_no _ _, d5 (), (gh5 ()).hw, P0 (), fun tr c r H6 we ho hr6 nrw e6 w6 h6 => ?_⟩
      have gh6 := (gh5 ()).walk fw nro e6 w6
      have s6 := e6.at (cut1_at (w := w) s5 nSw)
      replace gh6 := fun (_ : Unit) => gh6
      replace we := fun (_ : Unit) => we
      replace ho := fun (_ : Unit) => ho
      clear s5 w6
      by_cases hct : c ∈ tr
      · obtain ⟨a, b, rfl, hca⟩ := split_first hct
        rw [rgL_at hca] at h6
        cases b with
        | nil =>
          have gi' := (gi ()).self (P0 ()) (we ()) (hsk ())
          rw [← htk ()] at gi'
          replace gi' := fun (_ : Unit) => gi'
          simp! only [and_true]
          exact ⟨_, _, _, _, rv, Cl, ys, rfl, gh6 (), gi' ()⟩
        | cons b0 b =>
          have hb1 : (1 : Int) < ((b.length + 1 + 1 : Nat) : Int) := by omega
          have h5c : (c :: b0 :: b).length ≤ 4200 := by
            have h1 := wk_len (P0 ()) (we ())
            unfold wkD at h1
            rw [List.length_append, List.length_map, List.length_append] at h1
            omega
          have hys : ys.length ≤ 4200 := by
            have h1 := nd_len (gi ()).sr.nd (b := kv.map (·.1)) fun x hx => by
              obtain ⟨l, hl, rfl⟩ := List.mem_map.mp hx
              obtain ⟨d, h1, _⟩ := ((gi ()).sr.rng l hl).1.1.mem ((gi ()).sr.rng l hl).1.head_mem
              exact look_some.mp (by rw [h1]; rfl)
            rw [List.length_map, List.length_map, ← (gh6 ()).al.1] at h1
            omega
          have hinr : ∀ x ∈ c :: b0 :: b, (lookI kv x).isSome = true := fun x hx => by
            obtain ⟨d, h1, _⟩ := (we ()).pth.mem (List.mem_append_right _ hx)
            rw [h1]; rfl
          have nrc : r ≠ cl := fun z => by
            have h1 := cut1_none hr6 nrw
            rw [z, (gh5 ()).hcl] at h1; cases h1
          have nrr : r ≠ ro := fun z => by
            have h1 := cut1_none hr6 nrw
            rw [z, (gh5 ()).hro] at h1; cases h1
          replace h5c := fun (_ : Unit) => h5c
          replace hys := fun (_ : Unit) => hys
          replace hinr := fun (_ : Unit) => hinr
          have c6 := (gh6 ()).hcl
          have h6b := h6
          rw [List.map_cons, List.map_cons] at h6b
          replace h6 := fun (_ : Unit) => h6
          simp! only [and_true]
          rw [c_spLF]
          refine ⟨c :: b0 :: b, h6 (), by simp, by have := h5c (); omega, fun a' b' m r2 H7 ea hm hle hr7 e7 h7 => ?_⟩
          obtain ⟨bs, rfl⟩ : ∃ bs, b' = m :: bs := by
            cases b' with
            | nil => cases hm
            | cons y bs => cases hm; exact ⟨bs, rfl⟩
          have gh7 := (gh6 ()).ext e7
          have c7 := gh7.hcl
          have r7 := e7.at (h6 ())
          have s7 := e7.at s6
          have n2 : r2 ≠ cl := fun z => by rw [z, c6] at hr7; cases hr7
          have n2r : r2 ≠ ro := fun z => by rw [z, (gh6 ()).hro] at hr7; cases hr7
          have gh8 := gh7.app fcl h7 n2 ((gh6 ()).e.free hr7)
          have at1 : atI (ys ++ [V.ref r2]) (-1) = some (.ref r2) := atI_last ys _
          replace ea := fun (_ : Unit) => ea
          replace hle := fun (_ : Unit) => hle
          clear c6 h6b s6 h6 hr7 gh7
          simp! only [and_true]
          refine ⟨lt5000 (by have := hys (); omega), ?_⟩
          have r8 : upd H7 cl (.lst (ys ++ [V.ref r2])) r = some (.lst ((c :: b0 :: b).map V.int)) := by rw [upd_ne nrc]; exact r7
          have q8 : upd H7 cl (.lst (ys ++ [V.ref r2])) r2 = some (.lst ((m :: bs ++ a').map V.int)) := by rw [upd_ne n2]; exact h7
          have s8 : upd H7 cl (.lst (ys ++ [V.ref r2])) S = some (.lst (ms.map V.int)) := by rw [upd_ne nSc]; exact s7
          generalize upd H7 cl (.lst (ys ++ [V.ref r2])) = H8 at gh8 r8 q8 s8
          clear c7 r7 s7 h7 e7
          replace gh8 := fun (_ : Unit) => gh8
          have jn := RoJ.ini (gi ()).ro m
          simp! only [and_true]
          refine for_lst (xs := (c :: b0 :: b).map V.int) (fun i2 σ H' => ∃ (v6 : Option V) (rv' : List (Int × Int)), σ = [some (.ref d), some (.ref w), some (.ref ro), some (.ref cl), some (.int st), some (.ref r), v6, none, none] ∧ RgH H H' w ro cl (wkD wv st (a ++ c :: b0 :: b)) rv' (Cl ++ [m :: bs ++ a']) (ys ++ [.ref r2]) ∧ RoJ Cl kv rv ((c :: b0 :: b).take i2) m rv' ∧ H' r = some (.lst ((c :: b0 :: b).map V.int)) ∧ H' r2 = some (.lst ((m :: bs ++ a').map V.int)) ∧ H' S = some (.lst (ms.map V.int))) ⟨v6, rv, rfl, gh8 (), jn, r8, q8, s8⟩ (fun i2 σ H' _ ⟨_, _, _, _, _, q, _⟩ => q) ?_ ?_
          · rintro i2 x _ H9 hx ⟨v6', rv', rfl, gh9, j9, r9, q9, s9⟩
            rw [List.getElem?_map] at hx
            obtain ⟨ce, hce, rfl⟩ := Option.map_eq_some_iff.mp hx
            have htk2 : (c :: b0 :: b).take (i2 + 1) = (c :: b0 :: b).take i2 ++ [ce] := by rw [List.take_add_one, hce]; rfl
            have j10 := j9.put (hinr () ce (List.mem_of_getElem? hce))
            rw [← htk2] at j10
            have gh10 := gh9.put (rv' := putI rv' ce m) fro nro
            have c9 := gh9.hcl
            have o9 := gh9.hro
            have hl5 : (tabI rv').length < sizeLine := lt5000 (by rw [tab_len]; have := j9.len; omega)
            have r10 : upd H9 ro (.dK (tabI (putI rv' ce m))) r = some (.lst ((c :: b0 :: b).map V.int)) := by rw [upd_ne nrr]; exact r9
            have q10 : upd H9 ro (.dK (tabI (putI rv' ce m))) r2 = some (.lst ((m :: bs ++ a').map V.int)) := by rw [upd_ne n2r]; exact q9
            have s10 : upd H9 ro (.dK (tabI (putI rv' ce m))) S = some (.lst (ms.map V.int)) := by rw [upd_ne nSr]; exact s9
            have q9' : H9 r2 = some (.lst (V.int m :: (bs ++ a').map V.int)) := q9
            replace gh10 := fun (_ : Unit) => gh10
            replace j10 := fun (_ : Unit) => j10
            replace r10 := fun (_ : Unit) => r10
            replace q10 := fun (_ : Unit) => q10
            replace s10 := fun (_ : Unit) => s10
            clear hx hce htk2 gh9 j9 r9 q9 s9 jn r8 q8 s8
            simp! only [and_true]
            refine use_dp (k := .inl ce) o9 hl5 ?_
            rw [put_tabI]
            exact ⟨_, _, rfl, gh10 (), j10 (), r10 (), q10 (), s10 ()⟩
          · rintro _ H9 ⟨v6', rv', rfl, gh9, j9, r9, q9, s9⟩
            rw [List.length_map, List.take_length] at j9
            have gi' := (gi ()).ring (P0 ()) (we ()) (hsk ()) (List.cons_ne_nil _ _) (ea ()) hm (hle ()) j9
            rw [← htk ()] at gi'
            replace gi' := fun (_ : Unit) => gi'
            replace gh9 := fun (_ : Unit) => gh9
            exact ⟨_, _, _, _, rv', _, _, rfl, gh9 (), gi' (), s9⟩
      · rw [rgL_no hct] at h6
        have gi' := (gi ()).out (P0 ()) (we ()) (ho ()) (hsk ()) hct
        rw [← htk ()] at gi'
        replace gi' := fun (_ : Unit) => gi'
        simp! only [and_true]
        exact ⟨_, _, _, _, rv, Cl, ys, rfl, gh6 (), gi' ()⟩
    · rintro _ H5 ⟨v4, v5, v6, wv, rv, Cl, ys, rfl, gh5, gi, s5⟩
      rw [List.length_map, List.take_length] at gi
      have d5 := gh5.e.at hd
      have ndr : d ≠ ro := fun z => by rw [z, fro] at hd; cases hd
      have hro5 := gh5.hro
      replace gi := fun (_ : Unit) => gi
      replace gh5 := fun (_ : Unit) => gh5
      clear s5 gh s4
      simp! only [and_true]
      rw [c_spDB]
      refine ⟨kv, rv, d5, hro5, ndr, h4, fun dr H6 dv hr6 e6 h6 di => ?_⟩
      have gh6 := (gh5 ()).ext e6
      have c6 := gh6.hcl
      have al6 := gh6.al
      have hCl : Cl.length ≤ 4200 := by
        have h1 := nd_len (gi ()).sr.nd (b := kv.map (·.1)) fun x hx => by
          obtain ⟨l, hl, rfl⟩ := List.mem_map.mp hx
          obtain ⟨d, h1, _⟩ := ((gi ()).sr.rng l hl).1.1.mem ((gi ()).sr.rng l hl).1.head_mem
          exact look_some.mp (by rw [h1]; rfl)
        rw [List.length_map, List.length_map] at h1
        omega
      have hll : ∀ l ∈ Cl, l.length ≤ 4200 := fun l hl => by
        have h1 := nd_len ((gi ()).sr.rng l hl).1.1.nodup (b := kv.map (·.1)) fun x hx => by
          obtain ⟨d, h1, _⟩ := ((gi ()).sr.rng l hl).1.1.mem hx
          exact look_some.mp (by rw [h1]; rfl)
        rw [List.length_map] at h1
        omega
      have hbr : ∀ l ∈ Cl, (!(l.any fun x => (valV dv (.inl x)).isSome)) = bareB (lookI kv) (kv.map (·.1)) l := fun l hl => by
        rw [← bare_eq (hnd ()) (fun l hl => ((gi ()).sr.rng l hl).1) (gi ()).ro hl]
        congr 2
        funext x
        exact di.2 x
      replace gh6 := fun (_ : Unit) => gh6
      replace al6 := fun (_ : Unit) => al6
      replace hll := fun (_ : Unit) => hll
      replace hbr := fun (_ : Unit) => hbr
      clear d5 hro5 hr6 di
      simp! only [and_true]
      refine comp_rel2 Cl (fun _ => true) (fun l x _ => InL H cl l x H6) (fun D l y H' => ∃ q r, y = .ref q ∧ H' q = some (.tup [.ref r, .bl (bareB (lookI kv) (kv.map (·.1)) l)]) ∧ H' r = some (.lst (l.map V.int)) ∧ H r = none ∧ r ≠ D) (wk_al (R := fun l y _ => InL H cl l y H6) (fun _ _ _ _ q _ => q) c6 (al6 ())).1 (wk_al (R := fun l y _ => InL H cl l y H6) (fun _ _ _ _ q _ => q) c6 (al6 ())).2 (fun D z y H1 H2 ⟨q, r, a1, a2, a3, a4, a5⟩ e => ⟨q, r, a1, e.at a2, e.at a3, a4, a5⟩) (fun D z y H1 xs o ⟨q, r, a1, a2, a3, a4, a5⟩ hD => ⟨q, r, a1, by rw [upd_ne fun z => by rw [z, hD] at a2; cases a2]; exact a2, by rw [upd_ne a5]; exact a3, a4, a5⟩) (len5000 (by omega)) ?_ ?_
      · intro D l x H7 N1 N0 hlm hD e7 _ p k1 _
        obtain ⟨r, rfl, hr6, _, hrn⟩ := p
        have hrD : r ≠ D := fun z => by rw [z, hD] at hr6; cases hr6
        have r7 := e7.at hr6
        have dr7 := e7.at h6
        have hl7 := hll () l hlm
        have hb7 := hbr () l hlm
        replace k1 := fun (_ : Unit) => k1 rfl
        replace hb7 := fun (_ : Unit) => hb7
        clear hlm hD h6 c6 k
        simp! only [↓m_kCm_1, ↓m_kCm2]
        refine comp_fm (l.map V.int) (fun _ => true) (fun z => .bl (valV dv (Sum.inl (viI z))).isSome) (fun z x H' => x = z ∧ H' r = some (.lst (l.map V.int))) (wk_lst r7).1 (wk_lst r7).2 (len5000 (by rw [List.length_map]; omega)) ?_ ?_
        · intro L2 z x H' M1 M0 hz hL2 e ⟨hx, _⟩ j1 _
          subst hx
          obtain ⟨c, _, rfl⟩ := List.mem_map.mp hz
          have dr8 := e.at dr7
          have j1' : M1 (.bl (valV dv (Sum.inl c)).isSome) H' := j1 rfl H' (Ext.refl _)
          clear j1 hz k1
          simp! only [↓m_kCm_1, ↓m_kCm2]
          refine use_in (k := Sum.inl c) dr8 ?_
          simp! only [↓m_kCm_1, ↓m_kCm2]
        intro L2 H8 hL2 e8 h8
        have h8' : H8 L2 = some (.lst ((l.map fun x => (valV dv (Sum.inl x)).isSome).map V.bl)) := by
          rw [h8, List.map_map, List.filter_eq_self.mpr (fun _ _ => rfl), List.map_map]; rfl
        have hany : (l.map fun x => (valV dv (Sum.inl x)).isSome).any id = !(bareB (lookI kv) (kv.map (·.1)) l) := by
          rw [← hb7 (), List.any_map, Bool.not_not]; rfl
        have bl5 : (l.map fun x => (valV dv (Sum.inl x)).isSome).length ≤ 4200 := by rw [List.length_map]; exact hl7
        have r8 := e8.at r7
        generalize (l.map fun x => (valV dv (Sum.inl x)).isSome) = bs at h8' hany bl5
        clear h8 dr7 r7
        simp! only [and_true]
        rw [Bool.not_not]
        intro q H9 hq9 e9 h9
        exact k1 () _ H9 (e8.trans e9) ⟨q, r, rfl, h9, e9.at r8, hrn, hrD⟩
      · intro D ys2 H7 hD e7 h7 al7
        rw [List.filter_eq_self.mpr (fun _ _ => rfl)] at al7
        replace al7 := fun (_ : Unit) => al7
        have e07 := (gh6 ()).e.trans e7
        clear h6 c6
        simp! only [and_true]
        refine use_srtK (Cl.map fun l => l.headD 0) h7 (by rw [List.length_map]; exact ((al7 ()).1).symm) (.inl (by rw [List.length_map]; exact hF () Cl (fun l hl => ((gi ()).sr.rng l hl).1) (gi ()).sr.nd)) (fun i x kk hx hk Q' E' hq => ?_) fun out hpo hso => ?_
        · rw [List.getElem?_map] at hk
          obtain ⟨l, hl, rfl⟩ := Option.map_eq_some_iff.mp hk
          obtain ⟨q, r, rfl, a2, a3, _, _⟩ := (al7 ()).2 i l x hl hx
          obtain ⟨c, cs, rfl, _⟩ := ((gi ()).sr.rng l (List.mem_of_getElem? hl)).1.1
          rw [c_spFC]
          exact ⟨r, _, c, cs.map V.int, a2, a3, hq⟩
        · intro r9 H9 hr9 e9 h9
          have ez : (Cl.map fun l => l.headD 0).zip ys2 = (Cl.zip ys2).map fun t => (t.1.headD 0, t.2) := by
            rw [List.zip_map_left]
            rfl
          obtain ⟨T', hT, rfl⟩ := perm_unmap hpo _ ez
          have hmem : ∀ z ∈ T', z.1 ∈ Cl ∧ ∃ q r, z.2 = .ref q ∧ H7 q = some (.tup [.ref r, .bl (bareB (lookI kv) (kv.map (·.1)) z.1)]) ∧ H7 r = some (.lst (z.1.map V.int)) ∧ H r = none ∧ r ≠ D := fun z hz => by
            have h1 := hT.mem_iff.mp hz
            obtain ⟨j, hj, ej⟩ := List.getElem_of_mem h1
            have hzz : (Cl.zip ys2)[j]? = some z := by rw [List.getElem?_eq_getElem hj, ej]
            obtain ⟨g1, g2⟩ := List.getElem?_zip_eq_some.mp hzz
            exact ⟨List.mem_of_getElem? g1, (al7 ()).2 j z.1 z.2 g1 g2⟩
          have hLp : (T'.map fun z => (z.1, bareB (lookI kv) (kv.map (·.1)) z.1)).Perm (Cl.map fun l => (l, bareB (lookI kv) (kv.map (·.1)) l)) := by
            have h1 := (hT.map Prod.fst).map fun l => (l, bareB (lookI kv) (kv.map (·.1)) l)
            rw [List.map_map, List.map_fst_zip (by rw [(al7 ()).1]; exact Nat.le_refl _)] at h1
            exact h1
          have hLs : (T'.map fun z => (z.1, bareB (lookI kv) (kv.map (·.1)) z.1)).Pairwise fun p q => p.1.headD 0 ≤ q.1.headD 0 := by
            rw [List.pairwise_map] at hso ⊢
            exact hso
          refine k _ r9 H9 (rings_all (gi ()) (hmm ()) hLp hLs) (e07.trans e9) ⟨_, h9, e07.free hr9, by simp, fun i p y hp hy => ?_⟩
          rw [List.getElem?_map] at hp
          obtain ⟨z, hz, rfl⟩ := Option.map_eq_some_iff.mp hp
          rw [List.getElem?_map, List.getElem?_map, hz] at hy
          cases hy
          obtain ⟨_, q, r, a1, a2, a3, a4, _⟩ := hmem z (List.mem_of_getElem? hz)
          exact ⟨q, r, a1, e9.at a2, e9.at a3, a4, fun zz => by rw [zz, hr9] at a3; cases a3⟩
def RwV (p : List Int × Bool) (y : V) (H : Hp) : Prop := ∃ q l, y = .ref q ∧ H q = some (.tup [.ref l, .bl p.2]) ∧ H l = some (.lst (p.1.map V.int))
theorem RwV.ext {p : List Int × Bool} {y : V} {H H' : Hp} (h : RwV p y H) (e : Ext H H') : RwV p y H' := by
  obtain ⟨q, l, h1, h2, h3⟩ := h
  exact ⟨q, l, h1, e.at h2, e.at h3⟩
def RgV (H : Hp) (r : Addr) (L : List (List Int × Bool)) : Prop := ∃ ys, H r = some (.lst ys) ∧ Al (fun p y => RwV p y H) L ys
theorem RgV.ext {H H' : Hp} {r : Addr} {L : List (List Int × Bool)} (h : RgV H r L) (e : Ext H H') : RgV H' r L := by
  obtain ⟨ys, h1, h2⟩ := h
  exact ⟨ys, e.at h1, h2.imp fun _ _ q => q.ext e⟩
theorem RgAt.v {H H' : Hp} {r : Addr} {L : List (List Int × Bool)} (h : RgAt H H' r L) : RgV H' r L := by
  obtain ⟨ys, h1, _, h2⟩ := h
  exact ⟨ys, h1, h2.imp fun _ _ ⟨q, l, a1, a2, a3, _⟩ => ⟨q, l, a1, a2, a3⟩⟩
def datR (p : List Int × Bool) : PyData := .tuple [.list (p.1.map PyData.int), .bool p.2]
theorem rows_all {H : Hp} {f : V → Option PyData} : ∀ {L : List (List Int × Bool)} {ys : List V}, Al (fun p y => RwV p y H) L ys → allSome (ys.map (datF H (datF H (datF H f)))) = some (L.map datR)
  | [], ys, h => by rw [List.eq_nil_of_length_eq_zero h.1]; rfl
  | p :: L, [], h => by have := h.1; simp at this
  | p :: L, y :: ys, h => by
    obtain ⟨q, l, rfl, hq, hl⟩ := h.2 0 p y rfl rfl
    have ih := rows_all (f := f) (L := L) (ys := ys) ⟨by have := h.1; simpa using this, fun i z y' a b => h.2 (i + 1) z y' (by simpa using a) (by simpa using b)⟩
    have e2 : datF H (datF H f) (.ref l) = some (.list (p.1.map PyData.int)) := by
      show (H l).bind (datO (datF H f)) = _
      rw [hl]
      show (allSome ((p.1.map V.int).map (datF H f))).map PyData.list = _
      rw [allSome_ints]
      rfl
    have e1 : datF H (datF H (datF H f)) (.ref q) = some (datR p) := by
      show (H q).bind (datO (datF H (datF H f))) = _
      rw [hq]
      show (allSome [datF H (datF H f) (.ref l), datF H (datF H f) (.bl p.2)]).map PyData.tuple = _
      rw [e2]
      rfl
    show (datF H (datF H (datF H f)) (.ref q)).bind (fun x => (allSome (ys.map (datF H (datF H (datF H f))))).map fun xs => x :: xs) = _
    rw [e1, ih]
    rfl
theorem rows_eqv : ∀ L : List (List Int × Bool), PyData.eqvAll (L.map datR) (L.map datR) = true
  | [] => by rw [List.map_nil, eqvAll_nil]
  | p :: L => by
    rw [List.map_cons, eqvAll_cons, rows_eqv L]
    unfold datR
    rw [eqv_tuple, eqvAll_cons, eqvAll_cons, eqvAll_nil, eqv_list, eqvAll_ints, eqv_bool]
    simp
theorem RgV.dat {H : Hp} {r : Addr} {L : List (List Int × Bool)} (h : RgV H r L) : datV H 6 (.ref r) = some (.list (L.map datR)) := by
  obtain ⟨ys, h1, h2⟩ := h
  show (H r).bind (datO (datV H 5)) = _
  rw [h1]
  show (allSome (ys.map (datF H (datF H (datF H (datV H 2)))))).map PyData.list = _
  rw [rows_all h2]
  rfl
theorem use_neR {H : Hp} {a b : Addr} {L : List (List Int × Bool)} {Q : VK} (ha : RgV H a L) (hb : RgV H b L) (q : Q (.bl false) H) : qEq true (.ref a) (.ref b) H Q := by
  rw [m_qEq_ref, ha.dat, optK_some, m_kEq1, hb.dat, optK_some, m_kEq2_t, eqv_list, rows_eqv]
  exact q
abbrev B_spRt  (a : Addr) (b : Addr) (H : Hp) (Q : VK) (E : XK) : Prop := ∃ L : List (List Int × Bool), RgV H a L ∧ RgV H b L ∧ (∀ p ∈ L, p.1.length ≤ 4200) ∧ L.length ≤ 4200 ∧ ∀ H', Ext H H' → Q (.bl true) H'
def spRt  : Sp := fun vs H Q E => ∃ (a : Addr) (b : Addr), vs = [.ref a, .ref b] ∧ (B_spRt  a b H Q E)
theorem c_spRt  (a : Addr) (b : Addr) (H : Hp) (Q : VK) (E : XK) : spRt  [.ref a, .ref b] H Q E = (B_spRt  a b H Q E) := spx2 (f := fun (a : Addr) (b : Addr) => [.ref a, .ref b]) (fun _ _ _ _ h => by cases h; exact ⟨rfl, rfl⟩) a b
theorem l_spRt  {vs : List V} {H : Hp} {Q : VK} {E : XK} (h : spRt  vs H Q E) : vs.length = 2 := spl2 h fun _ _ => rfl
theorem ok__law_right (T : Tx K mg t) : FnOk P w K mg base CX0 2 t.a__law_right t.d__law_right ["_law_told", "_law_due"] spRt := by
  have G__law_whole := ok__law_whole (P := P) (w := w) (base := base) T
  refine T.F__law_right.ok c__law_right (fun vs H Q E h => l_spRt h) (fun cdv A outer s' H vs Q E hr h => ?_)
  · obtain ⟨a, b, rfl, L, ha, hb, hp, hl, k⟩ := h
    refine ⟨_, (@pss_cons _ _ _ _ _ (@ps_if _ _ _ _ _ _ _ _ (PW.pt (@pw_or _ _ _ _ _ _ _ (@pt_not _ _ _ _ (@pt_valN _ _ _ (@pe_callB _ _ _ _ _ _ _ ("isinstance") _ call_qIsi (by rfl) T.z_isinstance (by decide +kernel) (@pa_c _ _ _ _ _ (@pvN _ 0 _ _ (by rfl) (by trivial) (by decide) (by decide)) (@pa_c _ _ _ _ _ (@pe_bltn _ _ (.ty "list") (.type "list") _ (by rfl) T.z_list (by decide +kernel) rfl (by decide) (by decide)) (@pa_nil _) (by rfl)) (by rfl)) (by decide) (by decide) (by rfl) (by rfl)) (by intros; rfl))) (@pw_or1 _ _ _ _ (@pt_cmpRN _ _ _ _ _ _ _ _ (op_qNe hr.units) (@pvN _ 0 _ _ (by rfl) (by trivial) (by decide) (by decide)) (@pvN _ 1 _ _ (by rfl) (by trivial) (by decide) (by decide)) (nomark _))))) (@pss_one _ _ _ (@ps_ret _ _ _ _ (@pe_bl _ _ _ _))) (@pss_nil _)) (@pss_cons _ _ _ _ _ (@ps_for _ _ _ _ _ _ _ _ PassesOwn.never rfl (@pi_seq _ _ _ _ (@pvN _ 0 _ _ (by rfl) (by trivial) (by decide) (by decide))) (@pg_name _ _ (2) _ c__law_right.nd rfl (Or.inl rfl) (by trivial)) (@pss_cons _ _ _ _ _ (@ps_if _ _ _ _ _ _ _ _ (PW.pt (@pw_or _ _ _ _ _ _ _ (@pt_not _ _ _ _ (@pt_valN _ _ _ (@pe_callB _ _ _ _ _ _ _ ("isinstance") _ call_qIsi (by rfl) T.z_isinstance (by decide +kernel) (@pa_c _ _ _ _ _ (@pvN _ 2 _ _ (by rfl) (by trivial) (by decide) (by decide)) (@pa_c _ _ _ _ _ (@pe_bltn _ _ (.ty "tuple") (.type "tuple") _ (by rfl) T.z_tuple (by decide +kernel) rfl (by decide) (by decide)) (@pa_nil _) (by rfl)) (by rfl)) (by decide) (by decide) (by rfl) (by rfl)) (by intros; rfl))) (@pw_or _ _ _ _ _ _ _ (@pt_not _ _ _ _ (@pt_valN _ _ _ (@pe_callB _ _ _ _ _ _ _ ("isinstance") _ call_qIsi (by rfl) T.z_isinstance (by decide +kernel) (@pa_c _ _ _ _ _ (@pe_ix _ _ _ _ _ _ _ ix_q (@pvN _ 2 _ _ (by rfl) (by trivial) (by decide) (by decide)) (@pe_int _ _ _ _) (fun _ _ => rfl)) (@pa_c _ _ _ _ _ (@pe_bltn _ _ (.ty "list") (.type "list") _ (by rfl) T.z_list (by decide +kernel) rfl (by decide) (by decide)) (@pa_nil _) (by rfl)) (by rfl)) (by decide) (by decide) (by rfl) (by rfl)) (by intros; rfl))) (@pw_or1 _ _ _ _ (@pt_not _ _ _ _ (@pt_valN _ _ _ (@pe_callB _ _ _ _ _ _ _ ("isinstance") _ call_qIsi (by rfl) T.z_isinstance (by decide +kernel) (@pa_c _ _ _ _ _ (@pe_ix _ _ _ _ _ _ _ ix_q (@pvN _ 2 _ _ (by rfl) (by trivial) (by decide) (by decide)) (@pe_int _ _ _ _) (fun _ _ => rfl)) (@pa_c _ _ _ _ _ (@pe_bltn _ _ (.ty "bool") (.type "bool") _ (by rfl) T.z_bool (by decide +kernel) rfl (by decide) (by decide)) (@pa_nil _) (by rfl)) (by rfl)) (by decide) (by decide) (by rfl) (by rfl)) (by intros; rfl))))))) (@pss_one _ _ _ (@ps_ret _ _ _ _ (@pe_bl _ _ _ _))) (@pss_nil _)) (@pss_one _ _ _ (@ps_if _ _ _ _ _ _ _ _ (@pt_cmpRN _ _ _ _ _ _ _ _ (op_qNe hr.units) (@pe_comp _ _ _ _ _ _ _ _ _ _ _ (["_law_cell", "_law_told", "_law_due", "_law_row"]) (1) (comp_ok (defScope s__law_right) ["_law_told", "_law_due", "_law_row"] rfl rfl (by decide +kernel)) rfl (@pi_seq _ _ _ _ (@pe_ix _ _ _ _ _ _ _ ix_q (@pvN _ 2 _ _ (by rfl) (by trivial) (by decide) (by decide)) (@pe_int _ _ _ _) (fun _ _ => rfl))) (fun C s₀ H₀ ex pn => (@pg_name _ _ (0) _ (show List.Nodup (["_law_cell", "_law_told", "_law_due", "_law_row"] : List Str) from by decide +kernel) rfl (Or.inl rfl) (by trivial))) (fun C s₀ H₀ ex pn => (@pts_one _ _ _ (@pt_not _ _ _ _ (@pt_valN _ _ _ (@pe_call _ _ _ _ _ _ _ _ _ _ _ _ _ _ _ _ G__law_whole (hr.mono (by decide)) (by rfl) T.m__law_whole T.F__law_whole.kp T.b__law_whole .nil pass0 (@pa_c _ _ _ _ _ (@pvN _ 0 _ _ (by rfl) (by trivial) (by decide) (by decide)) (@pa_nil _) (by rfl)) (by decide) (by rfl) (by rfl)) (by intros; rfl))))) (fun C s₀ H₀ ex pn => (@pvN _ 0 _ _ (by rfl) (by trivial) (by decide) (by decide))) (by intros; rfl)) (@pe_qLst _ _ _ _ (@pa_nil _)) (nomark _)) (@pss_one _ _ _ (@ps_ret _ _ _ _ (@pe_bl _ _ _ _))) (@pss_nil _)))) (by intros; rfl)) (@pss_one _ _ _ (@ps_ret _ _ _ _ (@pe_bl _ _ _ _))))), ?_⟩
    rw [show start ["_law_told", "_law_due", "_law_row"] [.ref a, .ref b] = [some (.ref a), some (.ref b), none] from rfl]
    clear G__law_whole
    obtain ⟨ys, h1, al⟩ := id ha
    replace ha := fun (_ : Unit) => ha
    replace hb := fun (_ : Unit) => hb
    replace hp := fun (_ : Unit) => hp
    replace al := fun (_ : Unit) => al
    simp! only [-m_qEq_ref, -m_qEq_refr]
    refine use_neR (ha ()) (hb ()) ?_
    simp! only [and_true]
    refine for_lst (xs := ys) (fun i σ H' => ∃ v2 : Option V, σ = [some (.ref a), some (.ref b), v2] ∧ Ext H H') ⟨none, rfl, Ext.refl _⟩ (fun i σ H' _ ⟨_, _, e⟩ => e.at h1) ?_ ?_
    · rintro i x _ H2 hx ⟨v2, rfl, e2⟩
      have hi : i < L.length := by have := (al ()).1; have := (List.getElem?_eq_some_iff.mp hx).1; omega
      have hz : L[i]? = some L[i] := List.getElem?_eq_getElem hi
      obtain ⟨q, l, rfl, hq, hl2⟩ := ((al ()).2 i _ _ hz hx).ext e2
      have hl4 := hp () _ (List.mem_of_getElem? hz)
      generalize L[i] = p at hq hl2 hl4
      clear hx hz h1 k
      simp! only [and_true]
      refine comp_fm (p.1.map V.int) (fun _ => false) (fun z => z) (fun z x H' => x = z ∧ H' l = some (.lst (p.1.map V.int))) (wk_lst hl2).1 (wk_lst hl2).2 (len5000 (by rw [List.length_map]; omega)) ?_ ?_
      · intro L2 z x H' M1 M0 hz hL2 e ⟨hx, _⟩ _ j0
        subst hx
        obtain ⟨c, _, rfl⟩ := List.mem_map.mp hz
        have j0' := j0 rfl H' (Ext.refl _)
        clear j0 hz
        simp! only [↓m_kCm_1, ↓m_kCm2, ↓c_spWhole]
      · intro L2 H3 hL2 e3 h3
        rw [List.filter_eq_nil_iff.mpr (fun _ _ => by simp), List.map_nil] at h3
        simp! only [and_true]
        intro q2 H4 hq2 e4 h4
        have h3_4 := e4.at h3
        clear h3
        simp! only [and_true]
        exact ⟨_, rfl, e2.trans (e3.trans e4)⟩
    · rintro _ H2 ⟨v2, rfl, e2⟩
      have k' := k H2 e2
      clear k
      simp! only [and_true]
abbrev B_spNm (K : PySem.W.Frag) (a : Addr) (ns : List Int) (p : Addr) (H : Hp) (Q : VK) (E : XK) : Prop := p = a ∧ SqL K H a (ns.map V.int) ∧ ns.length ≤ 63 ∧ ∀ (nm : List Int) (r : Addr) (H' : Hp), nm.length = 61 → H r = none → Ext H H' → H' r = some (.lst (nm.map V.int)) → Q (.ref r) H'
def spNm (K : PySem.W.Frag) (a : Addr) (ns : List Int) : Sp := fun vs H Q E => ∃ (p : Addr), vs = [.ref p] ∧ (B_spNm K a ns p H Q E)
theorem c_spNm (K : PySem.W.Frag) (a : Addr) (ns : List Int) (p : Addr) (H : Hp) (Q : VK) (E : XK) : spNm K a ns [.ref p] H Q E = (B_spNm K a ns p H Q E) := spx1 (f := fun (p : Addr) => [.ref p]) (fun _ _ h => by cases h; exact rfl) p
theorem l_spNm (K : PySem.W.Frag) (a : Addr) (ns : List Int) {vs : List V} {H : Hp} {Q : VK} {E : XK} (h : spNm K a ns vs H Q E) : vs.length = 1 := spl1 h fun _ => rfl
theorem ok__law_names (T : Tx K mg t) (a : Addr) (ns : List Int) : FnOk P w K mg base CX0 2 t.a__law_names t.d__law_names ["_law_script"] (spNm K a ns) := by
  have G__law_draw := ok__law_draw (P := P) (w := w) (base := base) T a ns
  refine T.F__law_names.ok c__law_names (fun vs H Q E h => l_spNm _ _ _ h) (fun cdv A outer s H vs Q E hr h => ?_)
  · obtain ⟨_, rfl, rfl, hS, hl, kk⟩ := h
    rename_i a
    refine ⟨_, (@pss_cons _ _ _ _ _ (@ps_set _ _ (1) _ _ _ _ c__law_names.nd rfl (Or.inr rfl) (@pe_op _ _ _ _ _ _ _ _ on_add (@pe_int _ _ _ _) (@pe_call _ _ _ _ _ _ _ _ _ _ _ _ _ _ _ _ G__law_draw (hr.mono (by decide)) (by rfl) T.m__law_draw T.F__law_draw.kp T.b__law_draw .nil pass0 (@pa_c _ _ _ _ _ (@pvN _ 0 _ _ (by rfl) (by trivial) (by decide) (by decide)) (@pa_c _ _ _ _ _ (@pe_int _ _ _ _) (@pa_c _ _ _ _ _ (@pe_int _ _ _ _) (@pa_nil _) (by rfl)) (by rfl)) (by rfl)) (by decide) (by rfl) (by rfl))) (by rfl) (by trivial)) (@pss_cons _ _ _ _ _ (@ps_set _ _ (2) _ _ _ _ c__law_names.nd rfl (Or.inr rfl) (@pe_ix _ _ _ _ _ _ _ ix_q (@pe_qLst _ _ _ _ (@pa_c _ _ _ _ _ (@pe_int _ _ _ _) (@pa_c _ _ _ _ _ (@pe_call _ _ _ _ _ _ _ _ _ _ _ _ _ _ _ _ G__law_draw (hr.mono (by decide)) (by rfl) T.m__law_draw T.F__law_draw.kp T.b__law_draw .nil pass0 (@pa_c _ _ _ _ _ (@pvN _ 0 _ _ (by rfl) (by trivial) (by decide) (by decide)) (@pa_c _ _ _ _ _ (@pe_int _ _ _ _) (@pa_c _ _ _ _ _ (@pe_op _ _ _ _ _ _ _ _ on_pow (@pe_int _ _ _ _) (@pe_int _ _ _ _)) (@pa_nil _) (by rfl)) (by rfl)) (by rfl)) (by decide) (by rfl) (by rfl)) (@pa_nil _) (by rfl)) (by rfl))) (@pe_call _ _ _ _ _ _ _ _ _ _ _ _ _ _ _ _ G__law_draw (hr.mono (by decide)) (by rfl) T.m__law_draw T.F__law_draw.kp T.b__law_draw .nil pass0 (@pa_c _ _ _ _ _ (@pvN _ 0 _ _ (by rfl) (by trivial) (by decide) (by decide)) (@pa_c _ _ _ _ _ (@pe_int _ _ _ _) (@pa_c _ _ _ _ _ (@pe_int _ _ _ _) (@pa_nil _) (by rfl)) (by rfl)) (by rfl)) (by decide) (by rfl) (by rfl)) (fun _ _ => rfl)) (by rfl) (by trivial)) (@pss_cons _ _ _ _ _ (@ps_set _ _ (3) _ _ _ _ c__law_names.nd rfl (Or.inr rfl) (@pe_ix _ _ _ _ _ _ _ ix_q (@pe_qLst _ _ _ _ (@pa_c _ _ _ _ _ (@pe_int _ _ _ _) (@pa_c _ _ _ _ _ (@pe_op _ _ _ _ _ _ _ _ on_add (@pe_int _ _ _ _) (@pe_call _ _ _ _ _ _ _ _ _ _ _ _ _ _ _ _ G__law_draw (hr.mono (by decide)) (by rfl) T.m__law_draw T.F__law_draw.kp T.b__law_draw .nil pass0 (@pa_c _ _ _ _ _ (@pvN _ 0 _ _ (by rfl) (by trivial) (by decide) (by decide)) (@pa_c _ _ _ _ _ (@pe_int _ _ _ _) (@pa_c _ _ _ _ _ (@pe_op _ _ _ _ _ _ _ _ on_pow (@pe_int _ _ _ _) (@pe_int _ _ _ _)) (@pa_nil _) (by rfl)) (by rfl)) (by rfl)) (by decide) (by rfl) (by rfl))) (@pa_c _ _ _ _ _ (@pe_int _ _ _ _) (@pa_nil _) (by rfl)) (by rfl)) (by rfl))) (@pe_op _ _ _ _ _ _ _ _ on_fdiv (@pe_call _ _ _ _ _ _ _ _ _ _ _ _ _ _ _ _ G__law_draw (hr.mono (by decide)) (by rfl) T.m__law_draw T.F__law_draw.kp T.b__law_draw .nil pass0 (@pa_c _ _ _ _ _ (@pvN _ 0 _ _ (by rfl) (by trivial) (by decide) (by decide)) (@pa_c _ _ _ _ _ (@pe_int _ _ _ _) (@pa_c _ _ _ _ _ (@pe_int _ _ _ _) (@pa_nil _) (by rfl)) (by rfl)) (by rfl)) (by decide) (by rfl) (by rfl)) (@pe_int _ _ _ _)) (fun _ _ => rfl)) (by rfl) (by trivial)) (@pss_one _ _ _ (@ps_ret _ _ _ _ (@pe_comp _ _ _ _ _ _ _ _ _ _ _ (["_law_k", "_law_script", "_law_by", "_law_first", "_law_apart"]) (1) (comp_ok (defScope s__law_names) ["_law_script", "_law_by", "_law_first", "_law_apart"] rfl rfl (by decide +kernel)) rfl (@pi_range1 _ _ _ _ _ _ (by rfl) T.z_range (@pa_c _ _ _ _ _ (@pe_int _ _ _ _) (@pa_nil _) (by rfl)) (by rfl)) (fun C s₀ H₀ ex pn => (@pg_name _ _ (0) _ (show List.Nodup (["_law_k", "_law_script", "_law_by", "_law_first", "_law_apart"] : List Str) from by decide +kernel) rfl (Or.inl rfl) (by trivial))) (fun C s₀ H₀ ex pn => (@pts_nil _)) (fun C s₀ H₀ ex pn => (@pe_op _ _ _ _ _ _ _ _ on_add (@pvN _ 3 _ _ (by rfl) (by trivial) (by decide) (by decide)) (@pe_op _ _ _ _ _ _ _ _ on_mul (@pvN _ 4 _ _ (by rfl) (by trivial) (by decide) (by decide)) (@pe_op _ _ _ _ _ _ _ _ on_mod (@pe_op _ _ _ _ _ _ _ _ on_mul (@pvN _ 0 _ _ (by rfl) (by trivial) (by decide) (by decide)) (@pvN _ 2 _ _ (by rfl) (by trivial) (by decide) (by decide))) (@pe_int _ _ _ _))))) (by intros; rfl))))))), ?_⟩
    rw [show start ["_law_script", "_law_by", "_law_first", "_law_apart"] [.ref a] = [some (.ref a), none, none, none] from rfl]
    clear G__law_draw
    simp! only [and_true]
    rw [c_spDraw]
    refine ⟨hS, hl, ⟨by decide, by decide⟩, by decide, fun by' y0 y1 => ?_⟩
    simp! only [and_true]
    rw [c_spDraw]
    refine ⟨hS, hl, ⟨by decide, by decide⟩, by decide, fun z z0 z1 => ?_⟩
    simp! only [and_true]
    intro q1 H1 hq1 e1 h1
    have hS1 := e1.2 K a _ hS
    simp! only [and_true]
    rw [c_spDraw]
    refine ⟨hS1, hl, ⟨by decide, by decide⟩, by decide, fun i i0 i1 => ?_⟩
    simp! only [and_true]
    refine optK_ints (fun j => 0 ≤ j ∧ j < 100000000000000000) i0 (by simpa using i1) (fun v hv => ?_) fun fi hfi => ?_
    · simp only [List.mem_cons, List.not_mem_nil, or_false] at hv
      rcases hv with rfl | rfl <;> exact ⟨_, rfl, by omega, by omega⟩
    clear h1
    simp! only [and_true]
    rw [c_spDraw]
    refine ⟨hS1, hl, ⟨by decide, by decide⟩, by decide, fun u u0 u1 => ?_⟩
    simp! only [and_true]
    intro q2 H2 hq2 e2 h2
    have hS2 := e2.2 K a _ hS1
    simp! only [and_true]
    rw [c_spDraw]
    refine ⟨hS2, hl, ⟨by decide, by decide⟩, by decide, fun v v0 v1 => ?_⟩
    simp! only [and_true]
    refine optK_ints (fun j => 1 ≤ j ∧ j ≤ 1000000) (by omega) (by show v / 2 < ((3 : Nat) : Int); omega) (fun v hv => ?_) fun ap hap => ?_
    · simp only [List.mem_cons, List.not_mem_nil, or_false] at hv
      rcases hv with rfl | rfl | rfl <;> exact ⟨_, rfl, by omega, by omega⟩
    have e02 := e1.trans e2
    clear h2 hS1 hS2 i0 i1 u0 u1 z0 z1 v0 v1 hS hq2 hq1 e1 e2
    simp! only [and_true]
    refine comp_fm (List.range 61) (fun _ => true) (fun j => .int (fi + ap * ((j : Int) * (1 + by') % 61))) (fun j x _ => x = .int (0 + (j : Int))) wk_rng.1 (by simpa using wk_rng.2) (by decide) ?_ ?_
    · intro D j x H' N1 N0 hj hD e hx k1 _
      subst hx
      have hj' := List.mem_range.mp hj
      have g0 := Int.emod_nonneg ((j : Int) * (1 + by')) (show (61 : Int) ≠ 0 by decide)
      have g1 := Int.emod_lt_of_pos ((j : Int) * (1 + by')) (show (0 : Int) < 61 by decide)
      have k1' : N1 (.int (fi + ap * ((j : Int) * (1 + by') % 61))) H' := k1 rfl H' (Ext.refl _)
      clear k1 kk hj
      rw [Int.zero_add]
      simp! only [↓m_kCm_1, ↓m_kCm2]
      exact ⟨.inl ⟨by omega, by omega⟩, .inl ⟨by omega, by omega⟩⟩
    · intro D H3 hD e3 h3
      rw [List.filter_eq_self.mpr (fun _ _ => rfl)] at h3
      exact kk ((List.range 61).map fun (j : Nat) => fi + ap * ((j : Int) * (1 + by') % 61)) D H3 (by simp) (e02.free hD) (e02.trans e3) (by rw [h3, List.map_map]; rfl)
structure SmD (m : Int) (kv : List (Int × Int)) : Prop where
  nd : NdK kv
  all : ∀ c v, lookI kv c = some v → (0 ≤ c ∧ c < m) ∧ 0 ≤ v ∧ v < 61
theorem SmD.nil (m : Int) : SmD m [] := ⟨List.nodup_nil, fun _ _ h => by cases h⟩
theorem SmD.put {m : Int} {kv : List (Int × Int)} (h : SmD m kv) {c v : Int} (hc : 0 ≤ c ∧ c < m) (hv : 0 ≤ v ∧ v < 61) : SmD m (putI kv c v) := by
  refine ⟨putI_nodup h.nd c v, fun x y e => ?_⟩
  rw [look_put] at e
  by_cases hx : x = c
  · rw [if_pos hx] at e
    rw [hx, ← Option.some.inj e]
    exact ⟨hc, hv⟩
  · rw [if_neg hx] at e
    exact h.all x y e
theorem SmD.len {m : Int} {kv : List (Int × Int)} (h : SmD m kv) (hm : m ≤ 50) : kv.length ≤ 50 := by
  have := nd_len h.nd (b := (List.range 50).map fun (j : Nat) => (j : Int)) fun x hx => by
    cases e : lookI kv x with
    | none => exact absurd hx (look_none.mp e)
    | some v =>
      have h1 := (h.all x v e).1
      exact List.mem_map.mpr ⟨x.toNat, List.mem_range.mpr (by omega), by omega⟩
  simpa using this
abbrev B_spBk (K : PySem.W.Frag) (a : Addr) (ns : List Int) (p : Addr) (m : Int) (H : Hp) (Q : VK) (E : XK) : Prop := p = a ∧ SqL K H a (ns.map V.int) ∧ ns.length ≤ 63 ∧ (0 ≤ m ∧ m ≤ 50) ∧ ∀ (kv : List (Int × Int)) (r : Addr) (H' : Hp), SmD m kv → H r = none → Ext H H' → H' r = some (.dK (tabI kv)) → Q (.ref r) H'
def spBk (K : PySem.W.Frag) (a : Addr) (ns : List Int) : Sp := fun vs H Q E => ∃ (p : Addr) (m : Int), vs = [.ref p, .int m] ∧ (B_spBk K a ns p m H Q E)
theorem c_spBk (K : PySem.W.Frag) (a : Addr) (ns : List Int) (p : Addr) (m : Int) (H : Hp) (Q : VK) (E : XK) : spBk K a ns [.ref p, .int m] H Q E = (B_spBk K a ns p m H Q E) := spx2 (f := fun (p : Addr) (m : Int) => [.ref p, .int m]) (fun _ _ _ _ h => by cases h; exact ⟨rfl, rfl⟩) p m
theorem l_spBk (K : PySem.W.Frag) (a : Addr) (ns : List Int) {vs : List V} {H : Hp} {Q : VK} {E : XK} (h : spBk K a ns vs H Q E) : vs.length = 2 := spl2 h fun _ _ => rfl
theorem ok__law_blocks (T : Tx K mg t) (a : Addr) (ns : List Int) : FnOk P w K mg base CX0 2 t.a__law_blocks t.d__law_blocks ["_law_script", "_law_many"] (spBk K a ns) := by
  have G__law_draw := ok__law_draw (P := P) (w := w) (base := base) T a ns
  refine T.F__law_blocks.ok c__law_blocks (fun vs H Q E h => l_spBk _ _ _ h) (fun cdv A outer s H vs Q E hr h => ?_)
  · obtain ⟨_, m, rfl, rfl, hS, hl, ⟨hm0, hm1⟩, kk⟩ := h
    rename_i a
    refine ⟨_, (@pss_cons _ _ _ _ _ (@ps_set _ _ (2) _ _ _ _ c__law_blocks.nd rfl (Or.inl rfl) (@pe_nDNew _ _) (by rfl) (by trivial)) (@pss_cons _ _ _ _ _ (@ps_set _ _ (3) _ _ _ _ c__law_blocks.nd rfl (Or.inl rfl) (@pe_int _ _ _ _) (by rfl) (by trivial)) (@pss_cons _ _ _ _ _ (@ps_while _ _ _ _ _ _ PassesOwn.never (@pt_cmpRN _ _ _ _ _ _ _ _ on_lt (@pvN _ 3 _ _ (by rfl) (by trivial) (by decide) (by decide)) (@pvN _ 1 _ _ (by rfl) (by trivial) (by decide) (by decide)) (nomark _)) (@pss_cons _ _ _ _ _ (@ps_set _ _ (4) _ _ _ _ c__law_blocks.nd rfl (Or.inl rfl) (@pe_callB _ _ _ _ _ _ _ ("min") _ (call_qMin rfl) (by rfl) T.z_min (by decide +kernel) (@pa_c _ _ _ _ _ (@pvN _ 1 _ _ (by rfl) (by trivial) (by decide) (by decide)) (@pa_c _ _ _ _ _ (@pe_op _ _ _ _ _ _ _ _ on_add (@pe_op _ _ _ _ _ _ _ _ on_add (@pvN _ 3 _ _ (by rfl) (by trivial) (by decide) (by decide)) (@pe_int _ _ _ _)) (@pe_call _ _ _ _ _ _ _ _ _ _ _ _ _ _ _ _ G__law_draw (hr.mono (by decide)) (by rfl) T.m__law_draw T.F__law_draw.kp T.b__law_draw .nil pass0 (@pa_c _ _ _ _ _ (@pvN _ 0 _ _ (by rfl) (by trivial) (by decide) (by decide)) (@pa_c _ _ _ _ _ (@pe_op _ _ _ _ _ _ _ _ on_add (@pe_int _ _ _ _) (@pvN _ 3 _ _ (by rfl) (by trivial) (by decide) (by decide))) (@pa_c _ _ _ _ _ (@pe_int _ _ _ _) (@pa_nil _) (by rfl)) (by rfl)) (by rfl)) (by decide) (by rfl) (by rfl))) (@pa_nil _) (by rfl)) (by rfl)) (by decide) (by decide) (by rfl) (by rfl)) (by rfl) (by trivial)) (@pss_cons _ _ _ _ _ (@ps_for _ _ _ _ _ _ _ _ PassesOwn.never rfl (@pi_range2 _ _ _ _ _ _ _ (by rfl) T.z_range (@pa_c _ _ _ _ _ (@pvN _ 3 _ _ (by rfl) (by trivial) (by decide) (by decide)) (@pa_c _ _ _ _ _ (@pvN _ 4 _ _ (by rfl) (by trivial) (by decide) (by decide)) (@pa_nil _) (by rfl)) (by rfl)) (by rfl) (by rfl)) (@pg_name _ _ (5) _ c__law_blocks.nd rfl (Or.inl rfl) (by trivial)) (@pss_one _ _ _ (@ps_dput _ _ _ _ _ _ _ _ _ (units1 hr.units) (@pvN _ 2 _ _ (by rfl) (by trivial) (by decide) (by decide)) (@pvN _ 5 _ _ (by rfl) (by trivial) (by decide) (by decide)) (@pe_op _ _ _ _ _ _ _ _ on_add (@pvN _ 5 _ _ (by rfl) (by trivial) (by decide) (by decide)) (@pe_int _ _ _ _)) rfl)) (by intros; rfl)) (@pss_cons _ _ _ _ _ (@ps_dput _ _ _ _ _ _ _ _ _ (units1 hr.units) (@pvN _ 2 _ _ (by rfl) (by trivial) (by decide) (by decide)) (@pe_op _ _ _ _ _ _ _ _ on_sub (@pvN _ 4 _ _ (by rfl) (by trivial) (by decide) (by decide)) (@pe_int _ _ _ _)) (@pvN _ 3 _ _ (by rfl) (by trivial) (by decide) (by decide)) rfl) (@pss_cons _ _ _ _ _ (@ps_if _ _ _ _ _ _ _ _ (@pt_cmpRN _ _ _ _ _ _ _ _ (op_qEq hr.units) (@pe_call _ _ _ _ _ _ _ _ _ _ _ _ _ _ _ _ G__law_draw (hr.mono (by decide)) (by rfl) T.m__law_draw T.F__law_draw.kp T.b__law_draw .nil pass0 (@pa_c _ _ _ _ _ (@pvN _ 0 _ _ (by rfl) (by trivial) (by decide) (by decide)) (@pa_c _ _ _ _ _ (@pe_op _ _ _ _ _ _ _ _ on_add (@pe_int _ _ _ _) (@pvN _ 3 _ _ (by rfl) (by trivial) (by decide) (by decide))) (@pa_c _ _ _ _ _ (@pe_int _ _ _ _) (@pa_nil _) (by rfl)) (by rfl)) (by rfl)) (by decide) (by rfl) (by rfl)) (@pe_int _ _ _ _) (nomark _)) (@pss_one _ _ _ (@ps_dput _ _ _ _ _ _ _ _ _ (units1 hr.units) (@pvN _ 2 _ _ (by rfl) (by trivial) (by decide) (by decide)) (@pe_op _ _ _ _ _ _ _ _ on_sub (@pvN _ 4 _ _ (by rfl) (by trivial) (by decide) (by decide)) (@pe_int _ _ _ _)) (@pe_call _ _ _ _ _ _ _ _ _ _ _ _ _ _ _ _ G__law_draw (hr.mono (by decide)) (by rfl) T.m__law_draw T.F__law_draw.kp T.b__law_draw .nil pass0 (@pa_c _ _ _ _ _ (@pvN _ 0 _ _ (by rfl) (by trivial) (by decide) (by decide)) (@pa_c _ _ _ _ _ (@pe_op _ _ _ _ _ _ _ _ on_add (@pe_int _ _ _ _) (@pvN _ 3 _ _ (by rfl) (by trivial) (by decide) (by decide))) (@pa_c _ _ _ _ _ (@pe_int _ _ _ _) (@pa_nil _) (by rfl)) (by rfl)) (by rfl)) (by decide) (by rfl) (by rfl)) rfl)) (@pss_nil _)) (@pss_one _ _ _ (@ps_set _ _ (3) _ _ _ _ c__law_blocks.nd rfl (Or.inl rfl) (@pvN _ 4 _ _ (by rfl) (by trivial) (by decide) (by decide)) (by rfl) (by trivial)))))))) (@pss_one _ _ _ (@ps_ret _ _ _ _ (@pvN _ 2 _ _ (by rfl) (by trivial) (by decide) (by decide))))))), ?_⟩
    rw [show start ["_law_script", "_law_many", "_law_found_here", "_law_begin", "_law_end", "_law_k"] [.ref a, .int m] = [some (.ref a), some (.int m), none, none, none, none] from rfl]
    clear G__law_draw
    simp! only [and_true]
    intro d H1 hd1 e1 h1
    simp! only [and_true]
    refine while_w (by repeat' first | exact mo_tV | exact mo_nI0 | exact mo_nI | apply mo_nTest | apply mo_unN | exact mo_var | exact mo_c | exact mo_rI0 | exact mo_rI | exact mo_rIsN | exact mo_rNotN | exact mo_qEq | exact mo_qIx | exact mo_nil | exact mo_qLen | exact mo_inD | exact mo_qLenD | apply mo_dget2 | apply mo_test | apply mo_tB | apply mo_not | apply mo_and | apply mo_or | apply mo_op | apply mo_un | apply mo_cons | apply mo_qLst | apply mo_cb) (fun mm σ H' => ∃ (b : Int) (v4 v5 : Option V) (kv : List (Int × Int)), σ = [some (.ref a), some (.int m), some (.ref d), some (.int b), v4, v5] ∧ mm = (m - b).toNat ∧ 0 ≤ b ∧ b ≤ m ∧ Ext H H' ∧ H' d = some (.dK (tabI kv)) ∧ SmD m kv) _ ⟨0, none, none, [], rfl, rfl, by omega, hm0, e1, h1, SmD.nil m⟩ ?_
    rintro mm _ H2 ⟨b, v4, v5, kv, rfl, rfl, hb0, hbm, e2, d2, sd⟩
    have hS2 := e2.2 K a _ hS
    replace sd := fun (_ : Unit) => sd
    clear h1 e1
    by_cases hb : b < m
    · simp! only [and_true]
      rw [c_spDraw]
      refine ⟨hS2, hl, ⟨by omega, by omega⟩, by decide, fun z z0 z1 => ?_⟩
      simp! only [and_true]
      obtain ⟨en, hen, he1, he2⟩ : ∃ en, (if b + 1 + z < m then b + 1 + z else m) = en ∧ b + 1 ≤ en ∧ en ≤ m := ⟨_, rfl, by split <;> omega, by split <;> omega⟩
      rw [hen]
      refine ⟨⟨by omega, by omega, by omega, by omega⟩, ?_⟩
      clear hen z0 z1
      refine for_rng (fun i σ H' => ∃ (v5' : Option V) (kv' : List (Int × Int)), σ = [some (.ref a), some (.int m), some (.ref d), some (.int b), some (.int en), v5'] ∧ Ext H H' ∧ H' d = some (.dK (tabI kv')) ∧ SmD m kv') ⟨v5, kv, rfl, e2, d2, sd ()⟩ ?_ ?_
      · rintro i _ H3 hi ⟨v5', kv', rfl, e3, d3, sd3⟩
        have hl5 : (tabI kv').length < sizeLine := lt5000 (by rw [tab_len]; have := sd3.len hm1; omega)
        have sd4 := sd3.put (c := b + (i : Int)) (v := b + (i : Int) + 1) ⟨by omega, by omega⟩ ⟨by omega, by omega⟩
        replace sd4 := fun (_ : Unit) => sd4
        clear sd3 d2 kk
        simp! only [and_true]
        refine use_dp (k := .inl (b + (i : Int))) d3 hl5 ?_
        rw [put_tabI]
        exact ⟨_, _, rfl, e3.put hd1, upd_same, sd4 ()⟩
      · rintro _ H3 ⟨v5', kv', rfl, e3, d3, sd3⟩
        have hl5 : (tabI kv').length < sizeLine := lt5000 (by rw [tab_len]; have := sd3.len hm1; omega)
        have sd4 := sd3.put (c := en - 1) (v := b) ⟨by omega, by omega⟩ ⟨by omega, by omega⟩
        have hl6 : (tabI (putI kv' (en - 1) b)).length < sizeLine := lt5000 (by rw [tab_len]; have := sd4.len hm1; omega)
        replace sd4 := fun (_ : Unit) => sd4
        clear sd3 d2 kk
        simp! only [and_true]
        refine use_dp (k := .inl (en - 1)) d3 hl5 ?_
        rw [put_tabI]
        have e4 : Ext H (upd H3 d (.dK (tabI (putI kv' (en - 1) b)))) := e3.put hd1
        have d4 : upd H3 d (.dK (tabI (putI kv' (en - 1) b))) d = some (.dK (tabI (putI kv' (en - 1) b))) := upd_same
        have hS4 := e4.2 K a _ hS
        generalize upd H3 d (.dK (tabI (putI kv' (en - 1) b))) = H4 at e4 d4 hS4
        clear hl5 d3
        simp! only [and_true]
        rw [c_spDraw]
        refine ⟨hS4, hl, ⟨by omega, by omega⟩, by decide, fun y y0 y1 => ?_⟩
        by_cases hy : y = 0
        · simp! only [and_true]
          rw [c_spDraw]
          refine ⟨hS4, hl, ⟨by omega, by omega⟩, by decide, fun x x0 x1 => ?_⟩
          have sd5 := (sd4 ()).put (c := en - 1) (v := x) ⟨by omega, by omega⟩ ⟨by omega, by omega⟩
          simp! only [and_true]
          refine use_dp (k := .inl (en - 1)) d4 hl6 ?_
          rw [put_tabI]
          have e5 : Ext H (upd H4 d (.dK (tabI (putI (putI kv' (en - 1) b) (en - 1) x)))) := e4.put hd1
          have d5 : upd H4 d (.dK (tabI (putI (putI kv' (en - 1) b) (en - 1) x))) d = some (.dK (tabI (putI (putI kv' (en - 1) b) (en - 1) x))) := upd_same
          generalize upd H4 d (.dK (tabI (putI (putI kv' (en - 1) b) (en - 1) x))) = H5 at e5 d5
          clear d4 hl6
          simp! only [-upd_same]
          exact ⟨_, (by omega), en, _, _, _, rfl, rfl, by omega, he2, e5, rfl, sd5⟩
        · simp! only [-upd_same]
          exact ⟨_, (by omega), en, _, _, _, rfl, rfl, by omega, he2, e4, rfl, sd4 ()⟩
    · have k' := kk kv d H2 (sd ()) hd1 e2 d2
      clear kk
      simp! only [and_true]
theorem ifs_mono {c : TT} {t u : TS} {D : Ends} {σ : St} {H : Hp} (R : Bool → Hp → Prop) (h : ∀ Qb : Bool → Hp → Prop, (∀ b H', R b H' → Qb b H') → c σ H Qb) (k : ∀ b H', R b H' → kIfS t u D σ b H') : tIfS c t u D σ H := h _ k
def OrdR (m : Int) (y : V) (H : Hp) : Prop := ∃ q i j, y = .ref q ∧ H q = some (.tup [.int i, .int j]) ∧ 0 ≤ j ∧ j < m
theorem OrdR.ext {m : Int} {y : V} {H H' : Hp} (h : OrdR m y H) (e : Ext H H') : OrdR m y H' := by
  obtain ⟨q, i, j, h1, h2, h3⟩ := h
  exact ⟨q, i, j, h1, e.at h2, h3⟩
structure TdI (N : Nat) (kv : List (Int × Int)) : Prop where
  nd : NdK kv
  len : kv.length ≤ N
theorem TdI.put {N : Nat} {kv : List (Int × Int)} (h : TdI N kv) (c v : Int) : TdI (N + 1) (putI kv c v) := ⟨putI_nodup h.nd c v, by have := putI_len kv c v; have := h.len; omega⟩
abbrev B_spFd (K : PySem.W.Frag) (a : Addr) (ns : List Int) (p : Addr) (H : Hp) (Q : VK) (E : XK) : Prop := p = a ∧ SqL K H a (ns.map V.int) ∧ ns.length ≤ 63 ∧ ∀ (kv : List (Int × Int)) (r : Addr) (H' : Hp), NdK kv → kv.length ≤ 50 → H r = none → Ext H H' → H' r = some (.dK (tabI kv)) → Q (.ref r) H'
def spFd (K : PySem.W.Frag) (a : Addr) (ns : List Int) : Sp := fun vs H Q E => ∃ (p : Addr), vs = [.ref p] ∧ (B_spFd K a ns p H Q E)
theorem c_spFd (K : PySem.W.Frag) (a : Addr) (ns : List Int) (p : Addr) (H : Hp) (Q : VK) (E : XK) : spFd K a ns [.ref p] H Q E = (B_spFd K a ns p H Q E) := spx1 (f := fun (p : Addr) => [.ref p]) (fun _ _ h => by cases h; exact rfl) p
theorem l_spFd (K : PySem.W.Frag) (a : Addr) (ns : List Int) {vs : List V} {H : Hp} {Q : VK} {E : XK} (h : spFd K a ns vs H Q E) : vs.length = 1 := spl1 h fun _ => rfl
theorem ok__law_found (T : Tx K mg t) (a : Addr) (ns : List Int) : FnOk P w K mg base CX0 3 t.a__law_found t.d__law_found ["_law_script"] (spFd K a ns) := by
  have G__law_draw := ok__law_draw (P := P) (w := w) (base := base) T a ns
  have G__law_blocks := ok__law_blocks (P := P) (w := w) (base := base) T a ns
  have G__law_names := ok__law_names (P := P) (w := w) (base := base) T a ns
  refine T.F__law_found.ok c__law_found (fun vs H Q E h => l_spFd _ _ _ h) (fun cdv A outer s H vs Q E hr h => ?_)
  · obtain ⟨_, rfl, rfl, hS, hl, kk⟩ := h
    rename_i a
    refine ⟨_, (@pss_cons _ _ _ _ _ (@ps_set _ _ (1) _ _ _ _ c__law_found.nd rfl (Or.inl rfl) (@pe_op _ _ _ _ _ _ _ _ on_add (@pe_int _ _ _ _) (@pe_call _ _ _ _ _ _ _ _ _ _ _ _ _ _ _ _ G__law_draw (hr.mono (by decide)) (by rfl) T.m__law_draw T.F__law_draw.kp T.b__law_draw .nil pass0 (@pa_c _ _ _ _ _ (@pvN _ 0 _ _ (by rfl) (by trivial) (by decide) (by decide)) (@pa_c _ _ _ _ _ (@pe_int _ _ _ _) (@pa_c _ _ _ _ _ (@pe_int _ _ _ _) (@pa_nil _) (by rfl)) (by rfl)) (by rfl)) (by decide) (by rfl) (by rfl))) (by rfl) (by trivial)) (@pss_cons _ _ _ _ _ (@ps_set _ _ (2) _ _ _ _ c__law_found.nd rfl (Or.inl rfl) (@pe_call _ _ _ _ _ _ _ _ _ _ _ _ _ _ _ _ G__law_draw (hr.mono (by decide)) (by rfl) T.m__law_draw T.F__law_draw.kp T.b__law_draw .nil pass0 (@pa_c _ _ _ _ _ (@pvN _ 0 _ _ (by rfl) (by trivial) (by decide) (by decide)) (@pa_c _ _ _ _ _ (@pe_int _ _ _ _) (@pa_c _ _ _ _ _ (@pe_int _ _ _ _) (@pa_nil _) (by rfl)) (by rfl)) (by rfl)) (by decide) (by rfl) (by rfl)) (by rfl) (by trivial)) (@pss_cons _ _ _ _ _ (@ps_set _ _ (3) _ _ _ _ c__law_found.nd rfl (Or.inl rfl) (@pe_callB _ _ _ _ _ _ _ ("sorted") _ call_qSrtP (by rfl) T.z_sorted (by decide +kernel) (@pa_c _ _ _ _ _ (@pe_comp _ _ _ _ _ _ _ _ _ _ _ (["_law_k", "_law_script", "_law_many", "_law_way", "_law_order", "_law_found_here", "!_law_k", "_law_names_here", "_law_told"]) (1) (comp_ok (defScope s__law_found) ["_law_script", "_law_many", "_law_way", "_law_order", "_law_found_here", "_law_k", "_law_names_here", "_law_told"] rfl rfl (by decide +kernel)) rfl (@pi_range1 _ _ _ _ _ _ (by rfl) T.z_range (@pa_c _ _ _ _ _ (@pvN _ 1 _ _ (by rfl) (by trivial) (by decide) (by decide)) (@pa_nil _) (by rfl)) (by rfl)) (fun C s₀ H₀ ex pn => (@pg_name _ _ (0) _ (show List.Nodup (["_law_k", "_law_script", "_law_many", "_law_way", "_law_order", "_law_found_here", "!_law_k", "_law_names_here", "_law_told"] : List Str) from by decide +kernel) rfl (Or.inl rfl) (by trivial))) (fun C s₀ H₀ ex pn => (@pts_nil _)) (fun C s₀ H₀ ex pn => (@pe_qTup _ _ _ _ _ (@pa_c _ _ _ _ _ (@pe_call _ _ _ _ _ _ _ _ _ _ _ _ _ _ _ _ G__law_draw (hr.mono (by decide)) (by rfl) T.m__law_draw T.F__law_draw.kp T.b__law_draw .nil pass0 (@pa_c _ _ _ _ _ (@pvN _ 1 _ _ (by rfl) (by trivial) (by decide) (by decide)) (@pa_c _ _ _ _ _ (@pe_op _ _ _ _ _ _ _ _ on_add (@pe_int _ _ _ _) (@pvN _ 0 _ _ (by rfl) (by trivial) (by decide) (by decide))) (@pa_c _ _ _ _ _ (@pe_op _ _ _ _ _ _ _ _ on_pow (@pe_int _ _ _ _) (@pe_int _ _ _ _)) (@pa_nil _) (by rfl)) (by rfl)) (by rfl)) (by decide) (by rfl) (by rfl)) (@pa_c _ _ _ _ _ (@pvN _ 0 _ _ (by rfl) (by trivial) (by decide) (by decide)) (@pa_nil _) (by rfl)) (by rfl)))) (by intros; rfl)) (@pa_nil _) (by rfl)) (by decide) (by decide) (by rfl) (by rfl)) (by rfl) (by trivial)) (@pss_cons _ _ _ _ _ (@ps_set _ _ (4) _ _ _ _ c__law_found.nd rfl (Or.inl rfl) (@pe_nDNew _ _) (by rfl) (by trivial)) (@pss_cons _ _ _ _ _ (@ps_for _ _ _ _ _ _ _ _ PassesOwn.never rfl (@pi_range1 _ _ _ _ _ _ (by rfl) T.z_range (@pa_c _ _ _ _ _ (@pvN _ 1 _ _ (by rfl) (by trivial) (by decide) (by decide)) (@pa_nil _) (by rfl)) (by rfl)) (@pg_name _ _ (5) _ c__law_found.nd rfl (Or.inl rfl) (by trivial)) (@pss_cons _ _ _ _ _ (@ps_dput _ _ _ _ _ _ _ _ _ (units1 hr.units) (@pvN _ 4 _ _ (by rfl) (by trivial) (by decide) (by decide)) (@pvN _ 5 _ _ (by rfl) (by trivial) (by decide) (by decide)) (@pe_ix _ _ _ _ _ _ _ ix_q (@pe_ix _ _ _ _ _ _ _ ix_q (@pvN _ 3 _ _ (by rfl) (by trivial) (by decide) (by decide)) (@pvN _ 5 _ _ (by rfl) (by trivial) (by decide) (by decide)) (fun _ _ => rfl)) (@pe_int _ _ _ _) (fun _ _ => rfl)) rfl) (@pss_one _ _ _ (@ps_if _ _ _ _ _ _ _ _ (PW.pt (@pw_or _ _ _ _ _ _ _ (@pt_cmpRN _ _ _ _ _ _ _ _ (op_qEq hr.units) (@pvN _ 2 _ _ (by rfl) (by trivial) (by decide) (by decide)) (@pe_int _ _ _ _) (nomark _)) (@pw_or1 _ _ _ _ (PW.pt (@pw_and _ _ _ _ _ _ _ (@pt_cmpRN _ _ _ _ _ _ _ _ (op_qEq hr.units) (@pvN _ 2 _ _ (by rfl) (by trivial) (by decide) (by decide)) (@pe_int _ _ _ _) (nomark _)) (@pw_and1 _ _ _ _ (@pt_cmpRN _ _ _ _ _ _ _ _ (op_qEq hr.units) (@pe_call _ _ _ _ _ _ _ _ _ _ _ _ _ _ _ _ G__law_draw (hr.mono (by decide)) (by rfl) T.m__law_draw T.F__law_draw.kp T.b__law_draw .nil pass0 (@pa_c _ _ _ _ _ (@pvN _ 0 _ _ (by rfl) (by trivial) (by decide) (by decide)) (@pa_c _ _ _ _ _ (@pe_op _ _ _ _ _ _ _ _ on_add (@pe_int _ _ _ _) (@pvN _ 5 _ _ (by rfl) (by trivial) (by decide) (by decide))) (@pa_c _ _ _ _ _ (@pe_int _ _ _ _) (@pa_nil _) (by rfl)) (by rfl)) (by rfl)) (by decide) (by rfl) (by rfl)) (@pe_int _ _ _ _) (nomark _)))))))) (@pss_one _ _ _ (@ps_dput _ _ _ _ _ _ _ _ _ (units1 hr.units) (@pvN _ 4 _ _ (by rfl) (by trivial) (by decide) (by decide)) (@pvN _ 5 _ _ (by rfl) (by trivial) (by decide) (by decide)) (@pe_call _ _ _ _ _ _ _ _ _ _ _ _ _ _ _ _ G__law_draw (hr.mono (by decide)) (by rfl) T.m__law_draw T.F__law_draw.kp T.b__law_draw .nil pass0 (@pa_c _ _ _ _ _ (@pvN _ 0 _ _ (by rfl) (by trivial) (by decide) (by decide)) (@pa_c _ _ _ _ _ (@pe_op _ _ _ _ _ _ _ _ on_add (@pe_int _ _ _ _) (@pvN _ 5 _ _ (by rfl) (by trivial) (by decide) (by decide))) (@pa_c _ _ _ _ _ (@pe_op _ _ _ _ _ _ _ _ on_add (@pvN _ 1 _ _ (by rfl) (by trivial) (by decide) (by decide)) (@pe_int _ _ _ _)) (@pa_nil _) (by rfl)) (by rfl)) (by rfl)) (by decide) (by rfl) (by rfl)) rfl)) (@pss_nil _)))) (by intros; rfl)) (@pss_cons _ _ _ _ _ (@ps_if _ _ _ _ _ _ _ _ (@pt_cmpRN _ _ _ _ _ _ _ _ on_gt (@pvN _ 2 _ _ (by rfl) (by trivial) (by decide) (by decide)) (@pe_int _ _ _ _) (nomark _)) (@pss_one _ _ _ (@ps_set _ _ (4) _ _ _ _ c__law_found.nd rfl (Or.inl rfl) (@pe_call _ _ _ _ _ _ _ _ _ _ _ _ _ _ _ _ G__law_blocks (hr.mono (by decide)) (by rfl) T.m__law_blocks T.F__law_blocks.kp T.b__law_blocks .nil pass0 (@pa_c _ _ _ _ _ (@pvN _ 0 _ _ (by rfl) (by trivial) (by decide) (by decide)) (@pa_c _ _ _ _ _ (@pvN _ 1 _ _ (by rfl) (by trivial) (by decide) (by decide)) (@pa_nil _) (by rfl)) (by rfl)) (by decide) (by rfl) (by rfl)) (by rfl) (by trivial))) (@pss_nil _)) (@pss_cons _ _ _ _ _ (@ps_set _ _ (6) _ _ _ _ c__law_found.nd rfl (Or.inl rfl) (@pe_call _ _ _ _ _ _ _ _ _ _ _ _ _ _ _ _ G__law_names (hr.mono (by decide)) (by rfl) T.m__law_names T.F__law_names.kp T.b__law_names .nil pass0 (@pa_c _ _ _ _ _ (@pvN _ 0 _ _ (by rfl) (by trivial) (by decide) (by decide)) (@pa_nil _) (by rfl)) (by decide) (by rfl) (by rfl)) (by rfl) (by trivial)) (@pss_cons _ _ _ _ _ (@ps_set _ _ (7) _ _ _ _ c__law_found.nd rfl (Or.inl rfl) (@pe_nDNew _ _) (by rfl) (by trivial)) (@pss_cons _ _ _ _ _ (@ps_thaw _ _ _ (@ps_for _ _ _ _ _ _ _ _ PassesOwn.never rfl (@pi_dict _ _ _ _ (@pvN _ 4 _ _ (by rfl) (by trivial) (by decide) (by decide))) (@pg_name _ _ (5) _ c__law_found.nd rfl (Or.inl rfl) (by trivial)) (@pss_one _ _ _ (@ps_dput _ _ _ _ _ _ _ _ _ (units1 hr.units) (@pvN _ 7 _ _ (by rfl) (by trivial) (by decide) (by decide)) (@pe_ix _ _ _ _ _ _ _ ix_q (@pvN _ 6 _ _ (by rfl) (by trivial) (by decide) (by decide)) (@pvN _ 5 _ _ (by rfl) (by trivial) (by decide) (by decide)) (fun _ _ => rfl)) (@pe_ix _ _ _ _ _ _ _ ix_q (@pvN _ 6 _ _ (by rfl) (by trivial) (by decide) (by decide)) (@pe_dget _ _ _ _ _ _ (units1 hr.units) (@pvN _ 4 _ _ (by rfl) (by trivial) (by decide) (by decide)) (@pvN _ 5 _ _ (by rfl) (by trivial) (by decide) (by decide)) (fun _ _ => rfl)) (fun _ _ => rfl)) rfl)) (by intros; rfl))) (@pss_one _ _ _ (@ps_ret _ _ _ _ (@pvN _ 7 _ _ (by rfl) (by trivial) (by decide) (by decide))))))))))))), ?_⟩
    rw [show start ["_law_script", "_law_many", "_law_way", "_law_order", "_law_found_here", "_law_k", "_law_names_here", "_law_told"] [.ref a] = [some (.ref a), none, none, none, none, none, none, none] from rfl]
    clear G__law_draw G__law_blocks G__law_names
    replace kk := fun (_ : Unit) => kk
    simp! only [and_true]
    rw [c_spDraw]
    refine ⟨hS, hl, ⟨by decide, by decide⟩, by decide, fun z z0 z1 => ?_⟩
    simp! only [and_true]
    have hm2 : 2 ≤ 2 + z := by omega
    have hm50 : 2 + z ≤ 50 := by omega
    clear z0 z1
    generalize 2 + z = m at hm2 hm50 ⊢
    rw [c_spDraw]
    refine ⟨hS, hl, ⟨by decide, by decide⟩, by decide, fun wy w0 w1 => ?_⟩
    simp! only [and_true]
    refine ⟨by omega, by omega, ?_⟩
    refine comp_rel2 (List.range m.toNat) (fun _ => true) (fun j x _ => x = .int (0 + (j : Int))) (fun _ j y H' => OrdR m y H') wk_rng.1 wk_rng.2 (fun D z y H1 H2 q e => q.ext e) (fun D z y H1 xs o ⟨q, i, j, a1, a2, a3⟩ hD => ⟨q, i, j, a1, by rw [upd_ne fun z => by rw [z, hD] at a2; cases a2]; exact a2, a3⟩) (len5000 (by rw [List.length_range]; omega)) ?_ ?_
    · intro D j x H' N1 N0 hj hD e _ hx k1 _
      subst hx
      have hj' := List.mem_range.mp hj
      have hS' := e.2 K a _ hS
      replace k1 := fun (_ : Unit) => k1 rfl
      clear kk hj
      simp! only [↓m_kCm_1, ↓m_kCm2]
      rw [c_spDraw]
      refine ⟨hS', hl, ⟨by omega, by omega⟩, by decide, fun u u0 u1 => ?_⟩
      simp! only [and_true]
      intro q H2 hq e2 h2
      exact k1 () _ H2 e2 ⟨q, _, _, rfl, h2, by omega, by omega⟩
    intro D ys H1 hD e1 h1 al
    rw [List.filter_eq_self.mpr (fun _ _ => rfl)] at al
    have hyl : ys.length = m.toNat := by rw [al.1, List.length_range]
    have hys : ∀ y ∈ ys, OrdR m y H1 := fun y hy => by
      obtain ⟨i, hi, rfl⟩ := List.getElem_of_mem hy
      exact al.2 i i _ (by rw [List.getElem?_range (by omega)]) (List.getElem?_eq_getElem hi)
    have hpa : pairsAt H1 ys := fun y hy => by
      obtain ⟨q, i, j, h1, h2, _⟩ := hys y hy
      exact ⟨q, i, j, h1, h2⟩
    replace hys := fun (_ : Unit) => hys
    clear al
    simp! only [and_true]
    refine use_srtP h1 hpa (by omega) (by omega) fun yo hpo => ?_
    intro O H2 hO e2 h2
    have hyo : ∀ y ∈ yo, OrdR m y H2 := fun y hy => (hys () y (hpo.mem_iff.mp hy)).ext e2
    have hyl2 : yo.length = m.toNat := by rw [hpo.length_eq, hyl]
    replace hyo := fun (_ : Unit) => hyo
    have e02 := e1.trans e2
    clear hpa h1 hys hpo hO hD
    simp! only [and_true]
    intro d H3 hd3 e3 h3
    have e03 := e02.trans e3
    have O3 := e3.at h2
    have hd0 : H d = none := e02.free hd3
    have hdn2 : H2 d = none := hd3
    have nOd : O ≠ d := fun z => by rw [← z, h2] at hd3; cases hd3
    replace hyl2 := fun (_ : Unit) => hyl2
    clear h2 hd3
    simp! only [and_true]
    refine ⟨by omega, by omega, ?_⟩
    refine for_rng (fun i σ H' => ∃ (v5 : Option V) (kv : List (Int × Int)), σ = [some (.ref a), some (.int m), some (.int wy), some (.ref O), some (.ref d), v5, none, none] ∧ Ext H H' ∧ Ext H2 H' ∧ H' O = some (.lst yo) ∧ H' d = some (.dK (tabI kv)) ∧ SmD m kv) ⟨none, [], rfl, e03, e3, O3, h3, SmD.nil m⟩ ?_ ?_
    · rintro i _ H4 hi ⟨v5, kv, rfl, e4, e24, O4, d4, sd⟩
      have hi2 : i < yo.length := by rw [hyl2 ()]; exact hi
      obtain ⟨q, qi, qj, hy, hq, j0, j1⟩ := hyo () _ (List.getElem_mem hi2)
      have hat : atI yo (0 + (i : Int)) = some (.ref q) := by rw [Int.zero_add]; exact atI_nat (by rw [List.getElem?_eq_getElem hi2, hy])
      have q4 := e24.at hq
      have hS4 := e4.2 K a _ hS
      have hl5 : (tabI kv).length < sizeLine := lt5000 (by rw [tab_len]; have := sd.len hm50; omega)
      have sd5 := sd.put (c := 0 + (i : Int)) (v := qj) ⟨by omega, by omega⟩ ⟨by omega, by omega⟩
      have hl6 : (tabI (putI kv (0 + (i : Int)) qj)).length < sizeLine := lt5000 (by rw [tab_len]; have := sd5.len hm50; omega)
      replace sd5 := fun (_ : Unit) => sd5
      clear sd hy hq kk O3 h3
      simp! only [and_true]
      refine use_dp (k := .inl (0 + (i : Int))) d4 hl5 ?_
      rw [put_tabI]
      have e5 : Ext H (upd H4 d (.dK (tabI (putI kv (0 + (i : Int)) qj)))) := e4.put hd0
      have e25 : Ext H2 (upd H4 d (.dK (tabI (putI kv (0 + (i : Int)) qj)))) := e24.put hdn2
      have d5 : upd H4 d (.dK (tabI (putI kv (0 + (i : Int)) qj))) d = some (.dK (tabI (putI kv (0 + (i : Int)) qj))) := upd_same
      have O5 : upd H4 d (.dK (tabI (putI kv (0 + (i : Int)) qj))) O = some (.lst yo) := by rw [upd_ne nOd]; exact O4
      have hS5 := e5.2 K a _ hS
      generalize upd H4 d (.dK (tabI (putI kv (0 + (i : Int)) qj))) = H5 at e5 e25 d5 O5 hS5
      clear d4 O4 q4 hS4 hat hl5
      simp! only [-m_tIfS]
      refine ifs_mono (fun b H' => H' = H5) (fun Qb hqb => ?_) ?_
      · replace hqb := fun (_ : Unit) => hqb
        by_cases h0 : wy = 0
        · have h1 := hqb () true H5 rfl
          clear hqb
          simp! only [and_true]
        · by_cases h1 : wy = 1
          · simp! only [and_true]
            rw [c_spDraw]
            refine ⟨hS5, hl, ⟨by omega, by omega⟩, by decide, fun u u0 u1 => ?_⟩
            by_cases hu : u = 0
            · have h1 := hqb () true H5 rfl
              clear hqb
              simp! only [and_true]
            · have h1 := hqb () false H5 rfl
              clear hqb
              simp! only [and_true]
          · have h1 := hqb () false H5 rfl
            clear hqb
            simp! only [and_true]
      · rintro b _ rfl
        cases b with
        | false =>
          simp! only [-upd_same]
          exact ⟨_, _, rfl, e5, e25, rfl, sd5 ()⟩
        | true =>
          simp! only [and_true]
          rw [c_spDraw]
          refine ⟨hS5, hl, ⟨by omega, by omega⟩, by omega, fun x x0 x1 => ?_⟩
          have sd6 := (sd5 ()).put (c := 0 + (i : Int)) (v := x) ⟨by omega, by omega⟩ ⟨by omega, by omega⟩
          simp! only [and_true]
          refine use_dp (k := .inl (0 + (i : Int))) d5 hl6 ?_
          rw [put_tabI]
          exact ⟨_, _, rfl, e5.put hd0, e25.put hdn2, by rw [upd_ne nOd]; exact O5, upd_same, sd6⟩
    · rintro _ H4 ⟨v5, kv, rfl, e4, e24, O4, d4, sd⟩
      have hS4 := e4.2 K a _ hS
      replace sd := fun (_ : Unit) => sd
      clear O3 h3 hyo hyl2
      simp! only [-m_tIfS]
      refine if_gen (fun σ' H' => ∃ (dd : Addr) (kv' : List (Int × Int)), σ' = [some (.ref a), some (.int m), some (.int wy), some (.ref O), some (.ref dd), v5, none, none] ∧ Ext H H' ∧ H' dd = some (.dK (tabI kv')) ∧ SmD m kv') (fun nx' hnx => ?_) ?_
      · replace hnx := fun (_ : Unit) => hnx
        by_cases hw : 2 < wy
        · simp! only [and_true]
          rw [c_spBk]
          refine ⟨rfl, hS4, hl, ⟨by omega, hm50⟩, fun kv' r H5 sd' hr5 e5 h5 => ?_⟩
          have h6 := hnx () [some (.ref a), some (.int m), some (.int wy), some (.ref O), some (.ref r), v5, none, none] H5 ⟨r, kv', rfl, e4.trans e5, h5, sd'⟩
          clear hnx
          simp! only [and_true]
        · have h6 := hnx () [some (.ref a), some (.int m), some (.int wy), some (.ref O), some (.ref d), v5, none, none] H4 ⟨d, kv, rfl, e4, d4, sd ()⟩
          clear hnx
          simp! only [and_true]
      rintro _ H5 ⟨dd, kv', rfl, e5, d5, sd5⟩
      have hS5 := e5.2 K a _ hS
      have hlen := sd5.len hm50
      replace sd5 := fun (_ : Unit) => sd5
      clear hS4 d4 O4 sd
      simp! only [and_true]
      rw [c_spNm]
      refine ⟨rfl, hS5, hl, fun nm r H6 hnm hr6 e6 h6 => ?_⟩
      have d6 := e6.at d5
      clear hS5
      simp! only [and_true]
      intro td H7 ht7 e7 h7
      have d7 := e7.at d6
      have r7 := e7.at h6
      have ht0 : H td = none := (e5.trans e6).free ht7
      have ntd : td ≠ dd := fun z => by rw [z, d6] at ht7; cases ht7
      have nrd : r ≠ dd := fun z => by rw [z, d5] at hr6; cases hr6
      have e07 := e5.trans (e6.trans e7)
      have hnt : H6 td = none := ht7
      have nrt : r ≠ td := fun z => by rw [← z, h6] at hnt; cases hnt
      clear d6 h6 hr6 ht7
      simp! only [and_true]
      refine for_dict (fun ob i σ H' => ∃ (v5' : Option V) (kt : List (Int × Int)), σ = [some (.ref a), some (.int m), some (.int wy), some (.ref O), some (.ref dd), v5', some (.ref r), some (.ref td)] ∧ Ext (upd H5 dd (.frz ob (.dK (tabI kv')))) H' ∧ H' r = some (.lst (nm.map V.int)) ∧ H' td = some (.dK (tabI kt)) ∧ TdI i kt) d7 (fun ob => ⟨v5, [], rfl, ext_upd (e6.trans e7) _ _, by rw [upd_ne nrd]; exact r7, by rw [upd_ne ntd]; exact h7, ⟨List.nodup_nil, Nat.zero_le _⟩⟩) (fun ob i σ' H' ⟨_, _, _, e, _⟩ => e.at upd_same) ?_ ?_
      · rintro ob i z _ H8 hz ⟨v5', kt, rfl, e8, r8, t8, td8⟩ f8
        obtain ⟨y, hy, rfl⟩ : ∃ y, kv'[i]? = some y ∧ z = ((Sum.inl y.1 : Key), V.int y.2) := by
          unfold tabI at hz
          rw [List.getElem?_map] at hz
          obtain ⟨y, h1, h2⟩ := Option.map_eq_some_iff.mp hz
          exact ⟨y, h1, h2.symm⟩
        obtain ⟨c, v⟩ := y
        have hlk := look_of (sd5 ()).nd (List.mem_of_getElem? hy)
        obtain ⟨⟨c0, c1⟩, v0, v1⟩ := (sd5 ()).all c v hlk
        obtain ⟨x1, hx1, _⟩ := atI_ints nm c c0 (by rw [hnm]; omega)
        obtain ⟨x2, hx2, _⟩ := atI_ints nm v v0 (by rw [hnm]; omega)
        have hil : i < kv'.length := (List.getElem?_eq_some_iff.mp hy).1
        have hl5 : (tabI kt).length < sizeLine := lt5000 (by rw [tab_len]; have := td8.len; omega)
        have td9 := td8.put x1 x2
        have htu : upd H5 dd (.frz ob (.dK (tabI kv'))) td = none := by rw [upd_ne ntd]; exact e6.free hnt
        have hvv : valV (tabI kv') (.inl c) = some (.int v) := by rw [val_tab, hlk]; rfl
        rw [show kV ((Sum.inl (c, v).1 : Key), V.int (c, v).2).1 = V.int c from rfl]
        replace td9 := fun (_ : Unit) => td9
        replace hlk := fun (_ : Unit) => hlk
        clear hz hy d7 r7 h7 kk td8 hnm
        simp! only [and_true]
        refine use_dgF (k := .inl c) f8 hvv ?_
        simp! only [and_true]
        refine use_dp (k := .inl x1) t8 hl5 ?_
        rw [put_tabI]
        exact ⟨_, _, rfl, e8.put htu, by rw [upd_ne nrt]; exact r8, upd_same, td9 ()⟩
      · rintro ob _ H8 ⟨v5', kt, rfl, e8, r8, t8, td8⟩
        rw [tab_len] at td8
        have e9 := Ext.thaw d5 e8
        have t9 : upd H8 dd (.dK (tabI kv')) td = some (.dK (tabI kt)) := by rw [upd_ne ntd]; exact t8
        generalize upd H8 dd (.dK (tabI kv')) = H9 at e9 t9
        have k' := kk () kt td H9 td8.nd (by have := td8.len; omega) ht0 (e5.trans e9) t9
        clear kk
        simp! only [and_true]
theorem pth_pre {f : Int → Option Int} {c h : Int} : ∀ {tl t' : List Int} {d : Int}, Pth f (d :: tl) h → Pth f (d :: t') c → c ∉ tl → h ≠ c → ∃ u, t' = tl ++ h :: u
  | [], [], d, h1, h2, _, hn => by
    have e1 := h1.head
    have e2 := h2.head
    rw [e1] at e2
    exact absurd (Option.some.inj e2) hn
  | [], y :: t', d, h1, h2, _, hn => by
    have e1 := h1.head
    have e2 := h2.head
    rw [e1] at e2
    have e : h = y := Option.some.inj e2
    exact ⟨t', by rw [e]; rfl⟩
  | x :: tl, [], d, h1, h2, n1, hn => by
    have e1 := h1.head
    have e2 := h2.head
    rw [e1] at e2
    exact absurd (show x = c from Option.some.inj e2) fun e => n1 (by rw [e]; exact List.mem_cons_self)
  | x :: tl, y :: t', d, h1, h2, n1, hn => by
    have e1 := h1.head
    have e2 := h2.head
    rw [e1] at e2
    have e : x = y := Option.some.inj e2
    subst e
    obtain ⟨u, hu⟩ := pth_pre h1.tail h2.tail (fun m => n1 (List.mem_cons_of_mem _ m)) hn
    exact ⟨u, by rw [hu]; rfl⟩
structure WkL (kv : List (Int × Int)) (c : Int) (tl : List Int) (h : Int) : Prop where
  pth : Pth (lookI kv) (c :: tl) h
  new : c ∉ tl
  len : tl.length ≤ kv.length
theorem ring_len {kv : List (Int × Int)} {l : List Int} (h : Ring (lookI kv) l) : l.length ≤ kv.length := by
  have h1 := nd_len h.nodup (b := kv.map (·.1)) fun x hx => by
    obtain ⟨d, h1, _⟩ := h.mem hx
    exact look_some.mp (by rw [h1]; rfl)
  simpa using h1
theorem WkL.none {kv : List (Int × Int)} {c h : Int} {tl : List Int} (w : WkL kv c tl h) (hn : h ≠ c) (he : lookI kv h = none ∨ kv.length < tl.length + 1) : ∀ l, RingL (lookI kv) l → l.headD 0 ≠ c := by
  intro l hl e
  obtain ⟨x, t', rfl, hp, hnd⟩ := id hl.1
  have e : x = c := e
  subst e
  obtain ⟨u, rfl⟩ := pth_pre w.pth hp w.new hn
  rcases he with he | he
  · obtain ⟨d, h1, _⟩ := hl.1.mem (x := h) (by simp)
    rw [he] at h1
    cases h1
  · have := ring_len hl.1
    simp at this
    omega
theorem WkL.ring {kv : List (Int × Int)} {c : Int} {tl : List Int} (w : WkL kv c tl c) : Ring (lookI kv) (c :: tl) := ⟨c, tl, rfl, w.pth, pth_nodup w.pth w.new⟩
theorem WkL.one {kv : List (Int × Int)} {c : Int} (w : WkL kv c [] c) : ∀ l, RingL (lookI kv) l → l.headD 0 ≠ c := by
  intro l hl e
  obtain ⟨x, t', rfl, _⟩ := id hl.1
  have e : x = c := e
  subst e
  have := ring_eq hl.1 w.ring
  subst this
  have := hl.2.1
  simp at this
theorem WkL.more {kv : List (Int × Int)} {c M : Int} {tl : List Int} (w : WkL kv c tl c) (hM : M ∈ c :: tl) (hn : c ≠ M) (hm : ∀ x ∈ c :: tl, M ≤ x) : ∀ l, RingL (lookI kv) l → l.headD 0 ≠ c := by
  intro l hl e
  obtain ⟨x, t', rfl, _⟩ := id hl.1
  have e : x = c := e
  subst e
  have := ring_eq hl.1 w.ring
  subst this
  have a := hl.2.2 M hM
  have b := hm x List.mem_cons_self
  have a' : x ≤ M := a
  omega
structure LrI (kv : List (Int × Int)) (S : List Int) (L : List (List Int × Bool)) : Prop where
  srt : L.Pairwise fun p q => p.1.headD 0 < q.1.headD 0
  all : ∀ p ∈ L, (RingL (lookI kv) p.1 ∧ p.2 = bareB (lookI kv) (kv.map (·.1)) p.1) ∧ p.1.headD 0 ∈ S
  has : ∀ l, RingL (lookI kv) l → l.headD 0 ∈ S → ∃ b, (l, b) ∈ L
theorem LrI.nil (kv : List (Int × Int)) : LrI kv [] [] := ⟨.nil, fun _ h => absurd h List.not_mem_nil, fun _ _ h => absurd h List.not_mem_nil⟩
theorem LrI.skip {kv : List (Int × Int)} {S : List Int} {L : List (List Int × Bool)} {c : Int} (h : LrI kv S L) (hn : ∀ l, RingL (lookI kv) l → l.headD 0 ≠ c) : LrI kv (S ++ [c]) L :=
  ⟨h.srt, fun p hp => ⟨(h.all p hp).1, List.mem_append_left _ (h.all p hp).2⟩, fun l hl hm => (List.mem_append.mp hm).elim (h.has l hl) fun z => absurd (List.mem_singleton.mp z) (hn l hl)⟩
theorem LrI.add {kv : List (Int × Int)} {S : List Int} {L : List (List Int × Bool)} {c : Int} {tl : List Int} (h : LrI kv S L) (hS : ∀ x ∈ S, x < c) (hr : RingL (lookI kv) (c :: tl)) : LrI kv (S ++ [c]) (L ++ [(c :: tl, bareB (lookI kv) (kv.map (·.1)) (c :: tl))]) := by
  refine ⟨?_, fun p hp => ?_, fun l hl hm => ?_⟩
  · rw [List.pairwise_append]
    refine ⟨h.srt, List.pairwise_cons.mpr ⟨fun _ h => absurd h List.not_mem_nil, .nil⟩, fun p hp q hq => ?_⟩
    rw [List.mem_singleton.mp hq]
    exact hS _ (h.all p hp).2
  · rcases List.mem_append.mp hp with hp | hp
    · exact ⟨(h.all p hp).1, List.mem_append_left _ (h.all p hp).2⟩
    · rw [List.mem_singleton.mp hp]
      exact ⟨⟨hr, rfl⟩, List.mem_append_right _ List.mem_cons_self⟩
  · rcases List.mem_append.mp hm with hm | hm
    · obtain ⟨b, hb⟩ := h.has l hl hm
      exact ⟨b, List.mem_append_left _ hb⟩
    · have e := List.mem_singleton.mp hm
      obtain ⟨x, t', rfl, _⟩ := id hl.1
      have e : x = c := e
      subst e
      rw [ring_eq hl.1 hr.1]
      exact ⟨_, List.mem_append_right _ List.mem_cons_self⟩
theorem LrI.fin {kv : List (Int × Int)} {S : List Int} {L : List (List Int × Bool)} (h : LrI kv S L) (hS : ∀ x, x ∈ S ↔ x ∈ kv.map (·.1)) : RingsOf (lookI kv) (kv.map (·.1)) L := by
  refine ⟨h.srt, fun p hp => (h.all p hp).1, fun l hl => h.has l hl ?_⟩
  obtain ⟨d, h1, _⟩ := hl.1.mem hl.head_mem
  exact (hS _).mpr (look_some.mp (by rw [h1]; rfl))
def outL (kv : List (Int × Int)) (l : List Int) : List (Int × Int) := kv.filter fun p => !decide (p.1 ∈ l) && decide (p.2 ∈ l)
theorem out_bare {kv : List (Int × Int)} (hn : NdK kv) (l : List Int) : decide (outL kv l = []) = bareB (lookI kv) (kv.map (·.1)) l := by
  rw [Bool.eq_iff_iff, decide_eq_true_eq]
  unfold outL bareB
  rw [List.filter_eq_nil_iff, List.all_eq_true]
  constructor
  · intro h c hc
    obtain ⟨⟨c', d⟩, hp, rfl⟩ := List.mem_map.mp hc
    rw [look_of hn hp]
    have := h _ hp
    simp at this ⊢
    by_cases m : c' ∈ l
    · exact .inl m
    · exact .inr (this m)
  · intro h p hp
    have := h p.1 (List.mem_map.mpr ⟨p, hp, rfl⟩)
    rw [look_of hn (show (p.1, p.2) ∈ kv from hp)] at this
    simp at this ⊢
    intro m
    exact this.resolve_left m
theorem inV_ints (a : Int) (xs : List Int) : inV (.int a) (xs.map V.int) = decide (a ∈ xs) := by
  unfold inV
  rw [List.any_map]
  apply Bool.eq_iff_iff.mpr
  rw [List.any_eq_true, decide_eq_true_eq]
  constructor
  · rintro ⟨y, hy, e⟩
    have e' : eqV (.int y) (.int a) = true := e
    have : y = a := by simpa [eqV] using e'
    rw [← this]
    exact hy
  · intro h
    exact ⟨a, h, by show eqV (.int a) (.int a) = true; simp [eqV]⟩
theorem flat_ints : ∀ ns : List Int, (ns.map V.int).all flatV = true
  | [] => rfl
  | x :: ns => by rw [List.map_cons, List.all_cons, flat_ints ns]; rfl
theorem use_inI {neg : Bool} {c : Int} {l : Addr} {ns : List Int} {H : Hp} {Q : VK} (h : H l = some (.lst (ns.map V.int))) (q : Q (.bl (if neg = true then !decide (c ∈ ns) else decide (c ∈ ns))) H) : nIn neg (.int c) (.ref l) H Q := by
  rw [m_nIn]
  unfold itemsAt
  rw [h]
  show optK (some (ns.map V.int)) _
  rw [optK_some, m_kInI, inV_ints]
  exact ⟨rfl, flat_ints ns, q⟩
theorem WkL.next {kv : List (Int × Int)} {c h e : Int} {tl : List Int} (w : WkL kv c tl h) (hn : h ≠ c) (he : lookI kv h = some e) (hl : tl.length + 1 ≤ kv.length) : WkL kv c (tl ++ [h]) e :=
  ⟨Pth.snoc (t := c :: tl) w.pth he, fun m => (List.mem_append.mp m).elim w.new fun z => hn (List.mem_singleton.mp z).symm, by rw [List.length_append]; simpa using hl⟩
def outC (l : List Int) (z : Key × V) : Bool := match z with
  | (.inl a, .int b) => !decide (a ∈ l) && decide (b ∈ l)
  | _ => false
theorem outC_map (l : List Int) : ∀ kv : List (Int × Int), ((tabI kv).filter (outC l)).map (fun z => kV z.1) = ((outL kv l).map (·.1)).map V.int
  | [] => rfl
  | p :: kv => by
    have ih := outC_map l kv
    unfold outL at ih ⊢
    show (((Sum.inl p.1, V.int p.2) :: tabI kv).filter (outC l)).map (fun z => kV z.1) = _
    rw [List.filter_cons, List.filter_cons]
    have e : outC l ((Sum.inl p.1 : Key), V.int p.2) = (!decide (p.1 ∈ l) && decide (p.2 ∈ l)) := rfl
    rw [e]
    split
    · rw [List.map_cons, List.map_cons, List.map_cons, ih]
      rfl
    · exact ih
abbrev B_spLR  (d : Addr) (H : Hp) (Q : VK) (E : XK) : Prop := ∃ kv : List (Int × Int), H d = some (.dK (tabI kv)) ∧ NdK kv ∧ kv.length ≤ 50 ∧ ∀ (L : List (List Int × Bool)) (r : Addr) (H' : Hp), RingsOf (lookI kv) (kv.map (·.1)) L → Ext H H' → RgAt H H' r L → Q (.ref r) H'
def spLR  : Sp := fun vs H Q E => ∃ (d : Addr), vs = [.ref d] ∧ (B_spLR  d H Q E)
theorem c_spLR  (d : Addr) (H : Hp) (Q : VK) (E : XK) : spLR  [.ref d] H Q E = (B_spLR  d H Q E) := spx1 (f := fun (d : Addr) => [.ref d]) (fun _ _ h => by cases h; exact rfl) d
theorem l_spLR  {vs : List V} {H : Hp} {Q : VK} {E : XK} (h : spLR  vs H Q E) : vs.length = 1 := spl1 h fun _ => rfl
theorem ok__law_rings (T : Tx K mg t) : FnOk P w K mg base CX0 1 t.a__law_rings t.d__law_rings ["_law_found_here"] spLR := by
  refine T.F__law_rings.ok c__law_rings (fun vs H Q E h => l_spLR h) (fun cdv A outer s' H vs Q E hr h => ?_)
  · obtain ⟨d, rfl, kv, hd, hnd, h50, k⟩ := h
    refine ⟨_, (@pss_cons _ _ _ _ _ (@ps_set _ _ (1) _ _ _ _ c__law_rings.nd rfl (Or.inl rfl) (@pe_qLst _ _ _ _ (@pa_nil _)) (by rfl) (by trivial)) (@pss_cons _ _ _ _ _ (@ps_for _ _ _ _ _ _ _ _ PassesOwn.never rfl (@pi_seq _ _ _ _ (@pe_callB _ _ _ _ _ _ _ ("sorted") _ (call_qSrtE rfl) (by rfl) T.z_sorted (by decide +kernel) (@pa_c _ _ _ _ _ (@pvN _ 0 _ _ (by rfl) (by trivial) (by decide) (by decide)) (@pa_nil _) (by rfl)) (by decide) (by decide) (by rfl) (by rfl))) (@pg_name _ _ (2) _ c__law_rings.nd rfl (Or.inl rfl) (by trivial)) (@pss_cons _ _ _ _ _ (@ps_set _ _ (3) _ _ _ _ c__law_rings.nd rfl (Or.inr rfl) (@pe_qLst _ _ _ _ (@pa_c _ _ _ _ _ (@pvN _ 2 _ _ (by rfl) (by trivial) (by decide) (by decide)) (@pa_nil _) (by rfl))) (by rfl) (by trivial)) (@pss_cons _ _ _ _ _ (@ps_set _ _ (4) _ _ _ _ c__law_rings.nd rfl (Or.inl rfl) (@pe_dget _ _ _ _ _ _ (units1 hr.units) (@pvN _ 0 _ _ (by rfl) (by trivial) (by decide) (by decide)) (@pvN _ 2 _ _ (by rfl) (by trivial) (by decide) (by decide)) (fun _ _ => rfl)) (by rfl) (by trivial)) (@pss_cons _ _ _ _ _ (@ps_while _ _ _ _ _ _ PassesOwn.never (PW.pt (@pw_and _ _ _ _ _ _ _ (@pt_cmpRN _ _ _ _ _ _ _ _ (op_qNe hr.units) (@pvN _ 4 _ _ (by rfl) (by trivial) (by decide) (by decide)) (@pvN _ 2 _ _ (by rfl) (by trivial) (by decide) (by decide)) (nomark _)) (@pw_and _ _ _ _ _ _ _ (@pt_cmpRN _ _ _ _ _ _ _ _ (op_inD (units1 hr.units)) (@pvN _ 4 _ _ (by rfl) (by trivial) (by decide) (by decide)) (@pvN _ 0 _ _ (by rfl) (by trivial) (by decide) (by decide)) (by with_unfolding_all rfl)) (@pw_and1 _ _ _ _ (@pt_cmpRN _ _ _ _ _ _ _ _ on_le (@pe_callB _ _ _ _ _ _ _ ("len") _ call_qLen (by rfl) T.z_len (by decide +kernel) (@pa_c _ _ _ _ _ (@pvN _ 3 _ _ (by rfl) (by trivial) (by decide) (by decide)) (@pa_nil _) (by rfl)) (by decide) (by decide) (by rfl) (by rfl)) (@pe_callB _ _ _ _ _ _ _ ("len") _ call_qLenD (by rfl) T.z_len (by decide +kernel) (@pa_c _ _ _ _ _ (@pvN _ 0 _ _ (by rfl) (by trivial) (by decide) (by decide)) (@pa_nil _) (by rfl)) (by decide) (by decide) (by rfl) (by rfl)) (nomark _)))))) (@pss_cons _ _ _ _ _ (@ps_expr _ _ _ _ (@pe_bm _ _ _ _ _ _ _ _ _ _ _ _ PySem.F.plainAttrs_list PySem.F.slot_list_append PySem.F.type_list_append mt_append (@pvN _ 3 _ _ (by rfl) (by trivial) (by decide) (by decide)) (@pa_c _ _ _ _ _ (@pvN _ 4 _ _ (by rfl) (by trivial) (by decide) (by decide)) (@pa_nil _) (by rfl)) (by rfl) (by rfl) (by rfl) (by rfl) (by rfl)) (by rfl)) (@pss_one _ _ _ (@ps_set _ _ (4) _ _ _ _ c__law_rings.nd rfl (Or.inl rfl) (@pe_dget _ _ _ _ _ _ (units1 hr.units) (@pvN _ 0 _ _ (by rfl) (by trivial) (by decide) (by decide)) (@pvN _ 4 _ _ (by rfl) (by trivial) (by decide) (by decide)) (fun _ _ => rfl)) (by rfl) (by trivial))))) (@pss_one _ _ _ (@ps_if _ _ _ _ _ _ _ _ (PW.pt (@pw_and _ _ _ _ _ _ _ (@pt_cmpRN _ _ _ _ _ _ _ _ (op_qEq hr.units) (@pvN _ 4 _ _ (by rfl) (by trivial) (by decide) (by decide)) (@pvN _ 2 _ _ (by rfl) (by trivial) (by decide) (by decide)) (nomark _)) (@pw_and _ _ _ _ _ _ _ (@pt_cmpRN _ _ _ _ _ _ _ _ on_gt (@pe_callB _ _ _ _ _ _ _ ("len") _ call_qLen (by rfl) T.z_len (by decide +kernel) (@pa_c _ _ _ _ _ (@pvN _ 3 _ _ (by rfl) (by trivial) (by decide) (by decide)) (@pa_nil _) (by rfl)) (by decide) (by decide) (by rfl) (by rfl)) (@pe_int _ _ _ _) (nomark _)) (@pw_and1 _ _ _ _ (@pt_cmpRN _ _ _ _ _ _ _ _ (op_qEq hr.units) (@pvN _ 2 _ _ (by rfl) (by trivial) (by decide) (by decide)) (@pe_callB _ _ _ _ _ _ _ ("min") _ (call_qMinL rfl) (by rfl) T.z_min (by decide +kernel) (@pa_c _ _ _ _ _ (@pvN _ 3 _ _ (by rfl) (by trivial) (by decide) (by decide)) (@pa_nil _) (by rfl)) (by decide) (by decide) (by rfl) (by rfl)) (nomark _)))))) (@pss_one _ _ _ (@ps_expr _ _ _ _ (@pe_bm _ _ _ _ _ _ _ _ _ _ _ _ PySem.F.plainAttrs_list PySem.F.slot_list_append PySem.F.type_list_append mt_append (@pvN _ 1 _ _ (by rfl) (by trivial) (by decide) (by decide)) (@pa_c _ _ _ _ _ (@pe_qTup _ _ _ _ _ (@pa_c _ _ _ _ _ (@pvN _ 3 _ _ (by rfl) (by trivial) (by decide) (by decide)) (@pa_c _ _ _ _ _ (@pe_cmpR _ _ _ _ _ _ _ _ (op_qEq hr.units) (@pe_thaw _ _ _ (@pe_comp _ _ _ _ _ _ _ _ _ _ _ (["_law_one", "_law_found_here", "_law_told", "_law_cell", "_law_ring", "_law_here"]) (1) (comp_ok (defScope s__law_rings) ["_law_found_here", "_law_told", "_law_cell", "_law_ring", "_law_here"] rfl rfl (by decide +kernel)) rfl (@pi_dict _ _ _ _ (@pvN _ 0 _ _ (by rfl) (by trivial) (by decide) (by decide))) (fun C s₀ H₀ ex pn => (@pg_name _ _ (0) _ (show List.Nodup (["_law_one", "_law_found_here", "_law_told", "_law_cell", "_law_ring", "_law_here"] : List Str) from by decide +kernel) rfl (Or.inl rfl) (by trivial))) (fun C s₀ H₀ ex pn => (@pts_one _ _ _ (PW.pt (@pw_and _ _ _ _ _ _ _ (@pt_cmpRN _ _ _ _ _ _ _ _ op_nNotIn (@pvN _ 0 _ _ (by rfl) (by trivial) (by decide) (by decide)) (@pvN _ 4 _ _ (by rfl) (by trivial) (by decide) (by decide)) (by with_unfolding_all rfl)) (@pw_and1 _ _ _ _ (@pt_cmpRN _ _ _ _ _ _ _ _ op_nIn (@pe_dget _ _ _ _ _ _ (units1 hr.units) (@pvN _ 1 _ _ (by rfl) (by trivial) (by decide) (by decide)) (@pvN _ 0 _ _ (by rfl) (by trivial) (by decide) (by decide)) (fun _ _ => rfl)) (@pvN _ 4 _ _ (by rfl) (by trivial) (by decide) (by decide)) (by with_unfolding_all rfl))))))) (fun C s₀ H₀ ex pn => (@pvN _ 0 _ _ (by rfl) (by trivial) (by decide) (by decide))) (by intros; rfl))) (@pe_qLst _ _ _ _ (@pa_nil _)) (nomark _)) (@pa_nil _) (by rfl)) (by rfl))) (@pa_nil _) (by rfl)) (by rfl) (by rfl) (by rfl) (by rfl) (by rfl)) (by rfl))) (@pss_nil _)))))) (by intros; rfl)) (@pss_one _ _ _ (@ps_ret _ _ _ _ (@pvN _ 1 _ _ (by rfl) (by trivial) (by decide) (by decide)))))), ?_⟩
    rw [show start ["_law_found_here", "_law_told", "_law_cell", "_law_ring", "_law_here"] [.ref d] = [some (.ref d), none, none, none, none] from rfl]
    replace hnd := fun (_ : Unit) => hnd
    simp! only [and_true]
    intro td H1 ht1 e1 h1
    have d1 := e1.at hd
    simp! only [and_true]
    refine use_srtE d1 (tab_keys kv) (len5000 (by rw [List.length_map]; omega)) (.inl (by rw [List.length_map]; omega)) fun ms hpm hso => ?_
    intro S H2 hS2 e2 s2
    have t2 := e2.at h1
    have e02 := e1.trans e2
    have nSt : S ≠ td := fun z => by rw [z, h1] at hS2; cases hS2
    have hmm : ∀ x, x ∈ ms ↔ x ∈ kv.map (·.1) := fun x => hpm.mem_iff
    have hmn : ms.Pairwise (· < ·) := by
      have h1 : ms.Pairwise (· ≠ ·) := hpm.nodup_iff.mpr (hnd ())
      refine (hso.and h1).imp fun h => ?_
      have a := h.1
      have b := h.2
      omega
    replace hmm := fun (_ : Unit) => hmm
    replace hmn := fun (_ : Unit) => hmn
    clear d1 h1 hS2 e1 e2 hpm hso
    simp! only [and_true]
    refine for_lst (xs := ms.map V.int) (fun i σ H' => ∃ (v2 v3 v4 : Option V) (L : List (List Int × Bool)) (ys : List V), σ = [some (.ref d), some (.ref td), v2, v3, v4] ∧ Ext H H' ∧ LrI kv (ms.take i) L ∧ H' td = some (.lst ys) ∧ Al (fun p y => RwR H td p y H') L ys ∧ H' S = some (.lst (ms.map V.int))) ⟨none, none, none, [], [], rfl, e02, by rw [List.take_zero]; exact LrI.nil kv, t2, Al.nil, s2⟩ (fun i σ H' _ ⟨_, _, _, _, _, _, _, _, _, _, q⟩ => q) ?_ ?_
    · rintro i x _ H3 hx ⟨v2, v3, v4, L, ys, rfl, e3, li, t3, al, s3⟩
      rw [List.getElem?_map] at hx
      obtain ⟨c, hc, rfl⟩ := Option.map_eq_some_iff.mp hx
      have hck := (hmm () c).mp (List.mem_of_getElem? hc)
      obtain ⟨h0, hh0⟩ : ∃ h0, lookI kv c = some h0 := by
        cases e : lookI kv c with
        | none => exact absurd hck (look_none.mp e)
        | some v => exact ⟨v, rfl⟩
      have htk : ms.take (i + 1) = ms.take i ++ [c] := by rw [List.take_add_one, hc]; rfl
      have hlt : ∀ x ∈ ms.take i, x < c := fun x hxm => by
        have h1 := hmn ()
        rw [← List.take_append_drop i ms, List.pairwise_append] at h1
        exact h1.2.2 x hxm c (List.mem_of_getElem? (i := 0) (by rw [List.getElem?_drop]; simpa using hc))
      have d3 := e3.at hd
      replace li := fun (_ : Unit) => li
      replace al := fun (_ : Unit) => al
      replace htk := fun (_ : Unit) => htk
      replace hlt := fun (_ : Unit) => hlt
      clear hx hc hck t2 s2 k
      simp! only [and_true]
      intro R H4 hR4 e4 h4
      have d4 := e4.at d3
      have t4 := e4.at t3
      have s4 := e4.at s3
      have e04 := e3.trans e4
      have hR0 : H R = none := e3.free hR4
      have nRt : R ≠ td := fun z => by rw [z, t3] at hR4; cases hR4
      have nRS : S ≠ R := fun z => by rw [← z, s3] at hR4; cases hR4
      have al4 : Al (fun p y => RwR H td p y H4 ∧ ∀ q l, y = .ref q → H4 q = some (.tup [.ref l, .bl p.2]) → l ≠ R) L ys := (al ()).imp fun p y ⟨q, l, a1, a2, a3, a4, a5⟩ => ⟨⟨q, l, a1, e4.at a2, e4.at a3, a4, a5⟩, fun q' l' b1 b2 z => by
        rw [a1] at b1
        cases b1
        rw [e4.at a2] at b2
        cases b2
        rw [z, hR4] at a3
        cases a3⟩
      have w0 : WkL kv c [] h0 := ⟨hh0, List.not_mem_nil, Nat.zero_le _⟩
      clear d3 t3 s3
      simp! only [and_true]
      refine use_dg (k := .inl c) (v := .int h0) d4 (by rw [val_tab, hh0]; rfl) ?_
      replace al4 := fun (_ : Unit) => al4
      simp! only [and_true]
      refine while_w (by repeat' first | exact mo_tV | exact mo_nI0 | exact mo_nI | apply mo_nTest | apply mo_unN | exact mo_var | exact mo_c | exact mo_rI0 | exact mo_rI | exact mo_rIsN | exact mo_rNotN | exact mo_qEq | exact mo_qIx | exact mo_nil | exact mo_qLen | exact mo_inD | exact mo_qLenD | apply mo_dget2 | apply mo_test | apply mo_tB | apply mo_not | apply mo_and | apply mo_or | apply mo_op | apply mo_un | apply mo_cons | apply mo_qLst | apply mo_cb) (fun m σ H' => ∃ (tl : List Int) (h : Int), σ = [some (.ref d), some (.ref td), some (.int c), some (.ref R), some (.int h)] ∧ m = kv.length + 1 - tl.length ∧ WkL kv c tl h ∧ Ext (CutS [R] H4) H' ∧ H' R = some (.lst ((c :: tl).map V.int))) _ ⟨[], h0, rfl, rfl, w0, cut_sub _ _, h4⟩ ?_
      rintro m _ H5 ⟨tl, h, rfl, rfl, wl, e5, R5⟩
      have d5 := e5.at (cut1_at d4 (fun z => by rw [z, hR0] at hd; cases hd))
      have t5 := e5.at (cut1_at t4 (Ne.symm nRt))
      have s5 := e5.at (cut1_at s4 nRS)
      have e05 := cut1_ext e04 hR0 e5
      have al5 : Al (fun p y => RwR H td p y H5) L ys := (al4 ()).imp fun p y ⟨⟨q, l, a1, a2, a3, a4, a5⟩, b⟩ => ⟨q, l, a1, e5.at (cut1_at a2 fun z => by rw [z, h4] at a2; cases a2), e5.at (cut1_at a3 (b q l a1 a2)), a4, a5⟩
      replace wl := fun (_ : Unit) => wl
      replace al5 := fun (_ : Unit) => al5
      clear w0 h4 t4 s4 d4
      by_cases hhc : h = c
      · subst hhc
        cases tl with
        | nil =>
          have li' := (li ()).skip (wl ()).one
          rw [← htk ()] at li'
          simp! only [and_true]
          exact ⟨_, _, _, L, ys, rfl, e05, li', rfl, al5 ()⟩
        | cons y tl =>
          have hb1 : (1 : Int) < ((tl.length + 1 + 1 : Nat) : Int) := by omega
          simp! only [and_true]
          refine ⟨h :: y :: tl, rfl, ?_⟩
          rw [x_kMinI]
          refine ⟨by simp, fun M hM hm => ?_⟩
          by_cases hcm : h = M
          · subst hcm
            have rl : RingL (lookI kv) (h :: y :: tl) := ⟨(wl ()).ring, by simp, fun x hx => hm x hx⟩
            have li' := (li ()).add (hlt ()) rl
            rw [← htk ()] at li'
            have hob := out_bare (hnd ()) (h :: y :: tl)
            replace li' := fun (_ : Unit) => li'
            replace hob := fun (_ : Unit) => hob
            have hylen : ys.length ≤ 4200 := by
              have h1 := nd_len (a := L.map fun p => p.1.headD 0) (b := ms) (by rw [List.nodup_iff_pairwise_ne, List.pairwise_map]; exact (li ()).srt.imp fun h => by omega) fun x hx => by
                obtain ⟨p, hp, rfl⟩ := List.mem_map.mp hx
                exact List.mem_of_mem_take ((li ()).all p hp).2
              have h2 := nd_len (a := ms) (b := kv.map (·.1)) ((hmn ()).imp fun h => by omega) fun x hx => (hmm () x).mp hx
              rw [List.length_map] at h1 h2
              rw [(al5 ()).1]
              omega
            replace hylen := fun (_ : Unit) => hylen
            clear hM hm rl
            have R5' := fun (_ : Unit) => R5
            have nRd : R ≠ d := fun z => by rw [← z, hR0] at hd; cases hd
            simp! only [and_true]
            refine use_cd (outC (h :: y :: tl)) (fun z => kV z.1) d5 (len5000 (by rw [tab_len]; omega)) ?_ ?_
            · intro D ob z H6 N1 N0 hz hD e6 f6 k1 k0
              obtain ⟨p, hp, rfl⟩ := List.mem_map.mp hz
              have R6 : H6 R = some (.lst ((h :: y :: tl).map V.int)) := e6.at (by rw [upd_ne nRd]; exact R5' ())
              have hvv : valV (tabI kv) (.inl p.1) = some (.int p.2) := by rw [val_tab, look_of (hnd ()) (show (p.1, p.2) ∈ kv from hp)]; rfl
              rw [show outC (h :: y :: tl) ((Sum.inl p.1 : Key), V.int p.2) = (!decide (p.1 ∈ h :: y :: tl) && decide (p.2 ∈ h :: y :: tl)) from rfl] at k1 k0
              rw [show kV ((Sum.inl p.1 : Key), V.int p.2).1 = V.int p.1 from rfl] at k1 ⊢
              generalize (h :: y :: tl) = l at R6 k1 k0
              generalize p.1 = p1 at hvv k1 k0 ⊢
              generalize p.2 = p2 at hvv k1 k0 ⊢
              replace k1 := fun (_ : Unit) => k1
              replace k0 := fun (_ : Unit) => k0
              clear hz hp R5 R5' t5 s5
              simp! only [↓m_kCm_1, ↓m_kCm2, -m_nIn]
              refine use_inI R6 ?_
              by_cases m1 : p1 ∈ l
              · have j0 := k0 () (by simp [m1]) H6 (Ext.refl _)
                rw [decide_eq_true m1]
                clear k0 k1 m1
                simp! only [↓m_kCm_1, ↓m_kCm2]
              · rw [decide_eq_false m1]
                simp! only [↓m_kCm_1, ↓m_kCm2]
                refine use_dgF (k := .inl p1) f6 hvv ?_
                simp! only [↓m_kCm_1, ↓m_kCm2, -m_nIn]
                refine use_inI R6 ?_
                by_cases m2 : p2 ∈ l
                · have j1 := k1 () (by simp [m1, m2]) H6 (Ext.refl _)
                  rw [decide_eq_true m2]
                  clear k0 k1 m1 m2
                  simp! only [↓m_kCm_1, ↓m_kCm2]
                · have j0 := k0 () (by simp [m2]) H6 (Ext.refl _)
                  rw [decide_eq_false m2]
                  clear k0 k1 m1 m2
                  simp! only [↓m_kCm_1, ↓m_kCm2]
            · intro D H6 hD e6 h6
              rw [outC_map] at h6
              have hob' := hob ()
              have t6 := e6.at t5
              have s6 := e6.at s5
              have R6 := e6.at (R5' ())
              have e06 := e05.trans e6
              have al6 : Al (fun p y => RwR H td p y H6) L ys := (al5 ()).imp fun p y ⟨q, l, a1, a2, a3, a4, a5⟩ => ⟨q, l, a1, e6.at a2, e6.at a3, a4, a5⟩
              replace al6 := fun (_ : Unit) => al6
              replace R6 := fun (_ : Unit) => R6
              have hxs : ((outL kv (h :: y :: tl)).map (·.1) = [] ↔ outL kv (h :: y :: tl) = []) := List.map_eq_nil_iff
              generalize (outL kv (h :: y :: tl)).map (·.1) = xs at h6 hxs
              clear t5 s5 R5 R5' d5 hob
              simp! only [and_true]
              intro E H7 hE e7 h7
              have t7 := e7.at t6
              have s7 := e7.at s6
              have h6_7 := e7.at h6
              have t6u := fun (_ : Unit) => t6
              clear t6 s6 h6 hE
              have tail : ∀ (bb : Bool) (q : Addr) (H8 : Hp), bb = bareB (lookI kv) (kv.map (·.1)) (h :: y :: tl) → H7 q = none → Ext H7 H8 → H8 q = some (.tup [.ref R, .bl bb]) → (H8 td = some (.lst ys) ∧ ∃ L' : List (List Int × Bool), LrI kv (ms.take (i + 1)) L' ∧ Ext H (upd H8 td (.lst (ys ++ [.ref q]))) ∧ Al (fun p y => RwR H td p y (upd H8 td (.lst (ys ++ [.ref q])))) L' (ys ++ [.ref q]) ∧ upd H8 td (.lst (ys ++ [.ref q])) S = some (.lst (ms.map V.int))) := by
                rintro bb q H8 rfl hq8 e8 h8
                have e68 := e7.trans e8
                have nqt : q ≠ td := fun z => by rw [z, t7] at hq8; cases hq8
                refine ⟨e8.at t7, _, li' (), (e06.trans e68).put ht1, ((al6 ()).imp fun p y ⟨q, l, a1, a2, a3, a4, a5⟩ => ⟨q, l, a1, by rw [upd_ne fun z => by rw [z, t6u ()] at a2; cases a2]; exact e68.at a2, by rw [upd_ne a5]; exact e68.at a3, a4, a5⟩).snoc ⟨q, R, rfl, by rw [upd_ne nqt]; exact h8, by rw [upd_ne nRt]; exact e68.at (R6 ()), hR0, nRt⟩, by rw [upd_ne nSt]; exact e8.at s7⟩
              cases xs with
              | nil =>
                have hbe : bareB (lookI kv) (kv.map (·.1)) (h :: y :: tl) = true := by rw [← hob', decide_eq_true_eq]; exact hxs.mp rfl
                replace hbe := fun (_ : Unit) => hbe
                replace tail := fun (_ : Unit) => tail
                clear hxs hob'
                simp! only [and_true]
                intro q H8 hq8 e8 h8
                obtain ⟨t8, L', b2, b3, b4, b5⟩ := tail () true q H8 (hbe ()).symm hq8 e8 h8
                clear h7 h6_7 t7
                simp! only [and_true]
                exact ⟨lt5000 (by have := hylen (); omega), _, _, _, L', _, rfl, b3, b2, rfl, b4⟩
              | cons x0 xs =>
                have hbe : bareB (lookI kv) (kv.map (·.1)) (h :: y :: tl) = false := by rw [← hob', decide_eq_false_iff_not]; intro z; exact absurd (hxs.mpr z) (List.cons_ne_nil _ _)
                replace hbe := fun (_ : Unit) => hbe
                replace tail := fun (_ : Unit) => tail
                clear hxs hob'
                simp! only [and_true]
                intro q H8 hq8 e8 h8
                obtain ⟨t8, L', b2, b3, b4, b5⟩ := tail () false q H8 (hbe ()).symm hq8 e8 h8
                clear h7 h6_7 t7
                simp! only [and_true]
                exact ⟨lt5000 (by have := hylen (); omega), _, _, _, L', _, rfl, b3, b2, rfl, b4⟩
          · have li' := (li ()).skip ((wl ()).more hM hcm hm)
            rw [← htk ()] at li'
            clear hM hm
            simp! only [and_true]
            exact ⟨_, _, _, L, ys, rfl, e05, li', rfl, al5 ()⟩
      · cases hhk : lookI kv h with
        | none =>
          have li' := (li ()).skip ((wl ()).none hhc (.inl hhk))
          rw [← htk ()] at li'
          simp! only [and_true]
          refine use_in (k := .inl h) d5 ?_
          rw [val_tab, hhk]
          simp! only [and_true]
          exact ⟨_, _, _, L, ys, rfl, e05, li', rfl, al5 ()⟩
        | some e =>
          by_cases hlen : tl.length + 1 ≤ kv.length
          · simp! only [and_true]
            refine use_in (k := .inl h) d5 ?_
            rw [val_tab, hhk]
            simp! only [and_true]
            refine use_lenD d5 ?_
            rw [tab_len]
            have hlen' : (((tl.length + 1 : Nat) : Int) ≤ (kv.length : Int)) := by omega
            have wl' := (wl ()).next hhc hhk hlen
            simp! only [and_true]
            refine ⟨lt5000 (by omega), ?_⟩
            refine use_dg (k := .inl h) (v := .int e) (by rw [upd_ne fun z => by rw [z, hR0] at hd; cases hd]; exact d5) (by rw [val_tab, hhk]; rfl) ?_
            clear d5 R5
            simp! only [-upd_same]
            exact ⟨_, (by rw [List.length_append, List.length_singleton]; omega), tl ++ [h], e, rfl, rfl, wl', e5.put (cut1_no _ _), by rw [upd_same, List.map_append]; rfl⟩
          · have li' := (li ()).skip ((wl ()).none hhc (.inr (by omega)))
            rw [← htk ()] at li'
            have hlen' : ¬ (((tl.length + 1 : Nat) : Int) ≤ (kv.length : Int)) := by omega
            simp! only [and_true]
            refine use_in (k := .inl h) d5 ?_
            rw [val_tab, hhk]
            simp! only [and_true]
            refine use_lenD d5 ?_
            rw [tab_len]
            simp! only [and_true]
            exact ⟨_, _, _, L, ys, rfl, e05, li', rfl, al5 ()⟩
    · rintro _ H3 ⟨v2, v3, v4, L, ys, rfl, e3, li, t3, al, s3⟩
      rw [List.length_map, List.take_length] at li
      have k' := k L td H3 (li.fin (hmm ())) e3 ⟨ys, t3, ht1, al⟩
      clear k
      simp! only [and_true]
def lngB (m : Nat) (wy x : Int) : List (Int × Int) := ((List.range m).map fun (k : Nat) => ((k : Int), if 0 < wy ∧ k = m - 1 then 0 else (k : Int) + 1)) ++ (if wy = 2 then [((m : Int) + 3, x)] else [])
def flp (tn : Int) (k : Int) : Int := if tn = 0 then k else 5000 - k
def lng (m : Nat) (wy x tn : Int) : List (Int × Int) := (lngB m wy x).map fun p => (flp tn p.1, flp tn p.2)
theorem flp_inj {tn a b : Int} (h : flp tn a = flp tn b) : a = b := by
  unfold flp at h
  split at h <;> omega
theorem look_flp (tn c : Int) : ∀ kv : List (Int × Int), lookI (kv.map fun p => (flp tn p.1, flp tn p.2)) (flp tn c) = (lookI kv c).map (flp tn)
  | [] => rfl
  | p :: kv => by
    rw [List.map_cons]
    by_cases e : p.1 = c
    · rw [lookI_pos e, lookI_pos (p := (flp tn p.1, flp tn p.2)) (by rw [e])]; rfl
    · rw [lookI_neg e, lookI_neg (p := (flp tn p.1, flp tn p.2)) (fun z => e (flp_inj z)), look_flp tn c kv]
theorem lngB_keys (m : Nat) (wy x : Int) : (lngB m wy x).map (·.1) = (List.range m).map (fun (k : Nat) => (k : Int)) ++ (if wy = 2 then [(m : Int) + 3] else []) := by
  unfold lngB
  rw [List.map_append, List.map_map]
  congr 1
  split <;> rfl
theorem lngB_lt (m : Nat) (wy x : Int) : ((lngB m wy x).map (·.1)).Pairwise (· < ·) := by
  rw [lngB_keys, List.pairwise_append]
  refine ⟨?_, ?_, fun a ha b hb => ?_⟩
  · rw [List.pairwise_map]
    exact List.pairwise_lt_range.imp fun h => by omega
  · split
    · exact List.pairwise_cons.mpr ⟨fun _ h => absurd h List.not_mem_nil, .nil⟩
    · exact .nil
  · obtain ⟨k, hk, rfl⟩ := List.mem_map.mp ha
    have hk' := List.mem_range.mp hk
    split at hb
    · rw [List.mem_singleton.mp hb]; omega
    · exact absurd hb List.not_mem_nil
theorem lngB_nd (m : Nat) (wy x : Int) : NdK (lngB m wy x) := (lngB_lt m wy x).imp fun h => by omega
theorem lng_keys (m : Nat) (wy x tn : Int) : (lng m wy x tn).map (·.1) = ((lngB m wy x).map (·.1)).map (flp tn) := by
  unfold lng
  rw [List.map_map, List.map_map]
  rfl
theorem lng_nd (m : Nat) (wy x tn : Int) : NdK (lng m wy x tn) := by
  unfold NdK
  rw [lng_keys, List.nodup_iff_pairwise_ne, List.pairwise_map]
  exact (lngB_lt m wy x).imp fun h e => by have := flp_inj e; omega
theorem lng_easy (m : Nat) (wy x tn : Int) : EasyI ((lng m wy x tn).map (·.1)) := by
  rw [lng_keys]
  by_cases h : tn = 0
  · refine .inr (.inl ?_)
    rw [List.pairwise_map]
    exact (lngB_lt m wy x).imp fun e => by unfold flp; rw [if_pos h, if_pos h]; omega
  · refine .inr (.inr ?_)
    rw [List.pairwise_map]
    exact (lngB_lt m wy x).imp fun e => by unfold flp; rw [if_neg h, if_neg h]; omega
theorem lng_len (m : Nat) (wy x tn : Int) : (lng m wy x tn).length ≤ m + 1 := by
  unfold lng lngB
  rw [List.length_map, List.length_append, List.length_map, List.length_range]
  split <;> simp
theorem lng_at {m : Nat} {wy x tn : Int} {k : Nat} (hk : k < m) : lookI (lng m wy x tn) (flp tn (k : Int)) = some (flp tn (if 0 < wy ∧ k = m - 1 then 0 else (k : Int) + 1)) := by
  unfold lng
  rw [look_flp, look_of (lngB_nd m wy x) (v := if 0 < wy ∧ k = m - 1 then 0 else (k : Int) + 1)]
  · rfl
  · exact List.mem_append_left _ (List.mem_map.mpr ⟨k, List.mem_range.mpr hk, rfl⟩)
theorem lng_more {m : Nat} {wy x tn : Int} (h : wy = 2) : lookI (lng m wy x tn) (flp tn ((m : Int) + 3)) = some (flp tn x) := by
  unfold lng
  rw [look_flp, look_of (lngB_nd m wy x) (v := x)]
  · rfl
  · unfold lngB
    rw [if_pos h]
    exact List.mem_append_right _ List.mem_cons_self
theorem lng_key {m : Nat} {wy x tn c : Int} (h : c ∈ (lng m wy x tn).map (·.1)) : (∃ k : Nat, k < m ∧ c = flp tn (k : Int)) ∨ (wy = 2 ∧ c = flp tn ((m : Int) + 3)) := by
  rw [lng_keys, lngB_keys] at h
  obtain ⟨y, hy, rfl⟩ := List.mem_map.mp h
  rcases List.mem_append.mp hy with hy | hy
  · obtain ⟨k, hk, rfl⟩ := List.mem_map.mp hy
    exact .inl ⟨k, List.mem_range.mp hk, rfl⟩
  · split at hy
    · rename_i e
      rw [List.mem_singleton.mp hy]
      exact .inr ⟨e, rfl⟩
    · exact absurd hy List.not_mem_nil
def lngR (m : Nat) (tn : Int) : List Int := (List.range m).map fun (k : Nat) => flp tn (k : Int)
theorem lngR_nd (m : Nat) (tn : Int) : (lngR m tn).Nodup := by
  unfold lngR
  rw [List.nodup_iff_pairwise_ne, List.pairwise_map]
  exact List.pairwise_lt_range.imp fun h e => by have := flp_inj e; omega
theorem lngR_pth {m : Nat} {wy x tn : Int} (hw : 0 < wy) (hm : 0 < m) : ∀ n, n < m → Pth (lookI (lng m wy x tn)) ((List.range (n + 1)).map fun (k : Nat) => flp tn (k : Int)) (flp tn (if n = m - 1 then 0 else (n : Int) + 1))
  | 0, h => by
    have := lng_at (wy := wy) (x := x) (tn := tn) (k := 0) h
    simp only [hw, true_and] at this
    exact this
  | n + 1, h => by
    have ih := lngR_pth (wy := wy) (x := x) (tn := tn) hw hm n (by omega)
    rw [if_neg (by omega)] at ih
    have h1 := lng_at (wy := wy) (x := x) (tn := tn) (k := n + 1) h
    simp only [hw, true_and] at h1
    rw [List.range_succ, List.map_append]
    exact ih.snoc h1
theorem lng_ring {m : Nat} {wy x tn : Int} (hw : 0 < wy) (hm : 0 < m) : Ring (lookI (lng m wy x tn)) (lngR m tn) := by
  obtain ⟨n, rfl⟩ : ∃ n, m = n + 1 := ⟨m - 1, by omega⟩
  have h := lngR_pth (x := x) (tn := tn) hw hm n (by omega)
  rw [if_pos (by omega)] at h
  have e : lngR (n + 1) tn = flp tn ((0 : Nat) : Int) :: ((List.range n).map Nat.succ).map fun (k : Nat) => flp tn (k : Int) := by
    unfold lngR
    rw [List.range_succ_eq_map, List.map_cons]
  refine ⟨_, _, e, ?_, by rw [← e]; exact lngR_nd _ _⟩
  rw [← e]
  exact h
theorem lng_low {m : Nat} {wy x tn : Int} (hx : 0 ≤ x ∧ x < m) {l : List Int} (h : Ring (lookI (lng m wy x tn)) l) : ∃ k : Nat, k < m ∧ flp tn (k : Int) ∈ l := by
  obtain ⟨c, t, rfl, _⟩ := id h
  obtain ⟨d, hd, hdl⟩ := h.mem List.mem_cons_self
  rcases lng_key (look_some.mp (by rw [hd]; rfl)) with ⟨k, hk, rfl⟩ | ⟨h2, rfl⟩
  · exact ⟨k, hk, List.mem_cons_self⟩
  · rw [lng_more h2] at hd
    have e := Option.some.inj hd
    refine ⟨x.toNat, by omega, ?_⟩
    rw [show ((x.toNat : Nat) : Int) = x by omega, e]
    exact hdl
theorem lng_none {m : Nat} {x tn : Int} (hx : 0 ≤ x ∧ x < m) {l : List Int} (h : Ring (lookI (lng m 0 x tn)) l) : False := by
  obtain ⟨k, hk, hm⟩ := lng_low hx h
  have up : ∀ j : Nat, k + j ≤ m → flp tn ((k + j : Nat) : Int) ∈ l := by
    intro j
    induction j with
    | zero => intro _; exact hm
    | succ j ih =>
      intro hj
      obtain ⟨d, h1, h2⟩ := h.mem (ih (by omega))
      rw [lng_at (by omega), if_neg (by omega)] at h1
      rw [← Option.some.inj h1] at h2
      have e : ((k + j : Nat) : Int) + 1 = ((k + (j + 1) : Nat) : Int) := by omega
      rw [e] at h2
      exact h2
  have hM := up (m - k) (by omega)
  rw [show k + (m - k) = m by omega] at hM
  obtain ⟨d, h1, _⟩ := h.mem hM
  rcases lng_key (look_some.mp (by rw [h1]; rfl)) with ⟨j, hj, e⟩ | ⟨h2, _⟩
  · have := flp_inj e
    omega
  · omega
theorem lng_same {m : Nat} {wy x tn : Int} (hw : 0 < wy) (hm : 0 < m) (hx : 0 ≤ x ∧ x < m) {l : List Int} (h : Ring (lookI (lng m wy x tn)) l) : l.Perm (lngR m tn) := by
  obtain ⟨k, hk, hml⟩ := lng_low hx h
  exact ring_share h (lng_ring hw hm) hml (List.mem_map.mpr ⟨k, List.mem_range.mpr hk, rfl⟩)
theorem few_one {kv : List (Int × Int)} (h : ∀ l l', RingL (lookI kv) l → RingL (lookI kv) l' → l = l') : Few kv := by
  intro Cl hr hn
  match Cl, hr, hn with
  | [], _, _ => simp
  | [_], _, _ => simp
  | a :: b :: Cl, hr, hn =>
    have e := h a b (hr a (by simp)) (hr b (by simp))
    rw [List.map_cons, List.map_cons, List.nodup_cons] at hn
    exact absurd (by rw [e]; exact List.mem_cons_self) hn.1
theorem lng_few {m : Nat} {wy x tn : Int} (hw : 0 ≤ wy) (hm : 0 < m) (hx : 0 ≤ x ∧ x < m) : Few (lng m wy x tn) := by
  refine few_one fun l l' h h' => ?_
  by_cases e : wy = 0
  · subst e
    exact (lng_none hx h.1).elim
  · have p := lng_same (by omega) hm hx h.1
    have p' := lng_same (by omega) hm hx h'.1
    exact ringL_eq h h' h.head_mem (p'.mem_iff.mpr (p.mem_iff.mp h.head_mem))
theorem few_short {kv : List (Int × Int)} (h : kv.length < 64) : Few kv := by
  intro Cl hr hn
  have h1 := nd_len hn (b := kv.map (·.1)) fun x hx => by
    obtain ⟨l, hl, rfl⟩ := List.mem_map.mp hx
    obtain ⟨d, h1, _⟩ := (hr l hl).1.mem (hr l hl).head_mem
    exact look_some.mp (by rw [h1]; rfl)
  rw [List.length_map, List.length_map] at h1
  omega
theorem lng_rings0 {m : Nat} {x tn : Int} (hx : 0 ≤ x ∧ x < m) : RingsOf (lookI (lng m 0 x tn)) ((lng m 0 x tn).map (·.1)) [] := ⟨.nil, fun _ h => absurd h List.not_mem_nil, fun l h => (lng_none hx h.1).elim⟩
theorem lng_rings {m : Nat} {wy x tn : Int} (hw : wy = 1 ∨ wy = 2) (hm : 2 ≤ m) (hx : 0 ≤ x ∧ x < m) {a b : List Int} {M : Int} (e : lngR m tn = a ++ b) (hb : b.head? = some M) (hl : ∀ y ∈ lngR m tn, M ≤ y) : RingsOf (lookI (lng m wy x tn)) ((lng m wy x tn).map (·.1)) [(b ++ a, decide (wy = 1))] := by
  have hw0 : 0 < wy := by omega
  have hr := lng_ring (x := x) (tn := tn) hw0 (show 0 < m by omega)
  have hlen : 2 ≤ (lngR m tn).length := by unfold lngR; simpa using hm
  have rl := rotL hr hlen e hb hl
  have pm : (b ++ a).Perm (lngR m tn) := by rw [e]; exact List.perm_append_comm
  refine ⟨List.pairwise_cons.mpr ⟨fun _ h => absurd h List.not_mem_nil, .nil⟩, fun p hp => ?_, fun l h => ?_⟩
  · rw [List.mem_singleton.mp hp]
    refine ⟨rl, ?_⟩
    show decide (wy = 1) = bareB _ _ (b ++ a)
    rw [Bool.eq_iff_iff, decide_eq_true_eq]
    unfold bareB
    rw [List.all_eq_true]
    constructor
    · intro h1 c hc
      rcases lng_key hc with ⟨k, hk, rfl⟩ | ⟨h2, _⟩
      · have : flp tn (k : Int) ∈ b ++ a := pm.mem_iff.mpr (List.mem_map.mpr ⟨k, List.mem_range.mpr hk, rfl⟩)
        simp only [this, decide_true, Bool.true_or]
      · omega
    · intro h1
      rcases hw with hw | hw
      · exact hw
      · exfalso
        have hk : flp tn ((m : Int) + 3) ∈ (lng m wy x tn).map (·.1) := look_some.mp (by rw [lng_more hw]; rfl)
        have := h1 _ hk
        rw [lng_more hw] at this
        have n1 : flp tn ((m : Int) + 3) ∉ b ++ a := fun hm1 => by
          obtain ⟨k, hk, e⟩ := List.mem_map.mp (pm.mem_iff.mp hm1)
          have := flp_inj e
          have := List.mem_range.mp hk
          omega
        have n2 : flp tn x ∈ b ++ a := pm.mem_iff.mpr (List.mem_map.mpr ⟨x.toNat, List.mem_range.mpr (by omega), by rw [show ((x.toNat : Nat) : Int) = x by omega]⟩)
        simp only [n1, n2, decide_false, decide_true, Bool.not_true, Bool.or_false, Bool.false_eq_true] at this
  · have p := lng_same hw0 (by omega) hx h.1
    refine ⟨_, List.mem_singleton.mpr (Prod.ext ?_ rfl)⟩
    exact ringL_eq h rl h.head_mem (pm.mem_iff.mpr (p.mem_iff.mp h.head_mem))
abbrev B_spLL  (d : Addr) (c : Int) (H : Hp) (Q : VK) (E : XK) : Prop := ∃ (kv : List (Int × Int)) (tt : List Int), H d = some (.dK (tabI kv)) ∧ Ring (lookI kv) (c :: tt) ∧ (c :: tt).length ≤ 4200 ∧ ∀ (a b : List Int) (m : Int) (r : Addr) (H' : Hp), c :: tt = a ++ b → b.head? = some m → (∀ x ∈ c :: tt, m ≤ x) → H r = none → Ext H H' → H' r = some (.lst ((b ++ a).map V.int)) → Q (.ref r) H'
def spLL  : Sp := fun vs H Q E => ∃ (d : Addr) (c : Int), vs = [.ref d, .int c] ∧ (B_spLL  d c H Q E)
theorem c_spLL  (d : Addr) (c : Int) (H : Hp) (Q : VK) (E : XK) : spLL  [.ref d, .int c] H Q E = (B_spLL  d c H Q E) := spx2 (f := fun (d : Addr) (c : Int) => [.ref d, .int c]) (fun _ _ _ _ h => by cases h; exact ⟨rfl, rfl⟩) d c
theorem l_spLL  {vs : List V} {H : Hp} {Q : VK} {E : XK} (h : spLL  vs H Q E) : vs.length = 2 := spl2 h fun _ _ => rfl
theorem ok__law_long_ring (T : Tx K mg t) : FnOk P w K mg base CX0 1 t.a__law_long_ring t.d__law_long_ring ["_law_found_here", "_law_cell"] spLL := by
  refine T.F__law_long_ring.ok c__law_long_ring (fun vs H Q E h => l_spLL h) (fun cdv A outer s' H vs Q E hr h => ?_)
  · obtain ⟨d, c, rfl, kv, tt, hd, hrg, h42, k⟩ := h
    refine ⟨_, (@pss_cons _ _ _ _ _ (@ps_set _ _ (2) _ _ _ _ c__law_long_ring.nd rfl (Or.inl rfl) (@pe_qLst _ _ _ _ (@pa_c _ _ _ _ _ (@pvN _ 1 _ _ (by rfl) (by trivial) (by decide) (by decide)) (@pa_nil _) (by rfl))) (by rfl) (by trivial)) (@pss_cons _ _ _ _ _ (@ps_while _ _ _ _ _ _ PassesOwn.never (@pt_cmpRN _ _ _ _ _ _ _ _ (op_qNe hr.units) (@pe_dget2 _ _ _ _ _ _ _ _ _ (units1 hr.units) (@pvN _ 0 _ _ (by rfl) (by trivial) (by decide) (by decide)) (@pe_ix _ _ _ _ _ _ _ ix_q (@pvN _ 2 _ _ (by rfl) (by trivial) (by decide) (by decide)) (@pe_un _ _ _ _ _ _ un_negN (@pe_int _ _ _ _)) (fun _ _ => rfl)) (@pvN _ 1 _ _ (by rfl) (by trivial) (by decide) (by decide)) ⟨by rfl, by rfl, by rfl, by rfl⟩) (@pvN _ 1 _ _ (by rfl) (by trivial) (by decide) (by decide)) (nomark _)) (@pss_one _ _ _ (@ps_expr _ _ _ _ (@pe_bm _ _ _ _ _ _ _ _ _ _ _ _ PySem.F.plainAttrs_list PySem.F.slot_list_append PySem.F.type_list_append mt_append (@pvN _ 2 _ _ (by rfl) (by trivial) (by decide) (by decide)) (@pa_c _ _ _ _ _ (@pe_dget _ _ _ _ _ _ (units1 hr.units) (@pvN _ 0 _ _ (by rfl) (by trivial) (by decide) (by decide)) (@pe_ix _ _ _ _ _ _ _ ix_q (@pvN _ 2 _ _ (by rfl) (by trivial) (by decide) (by decide)) (@pe_un _ _ _ _ _ _ un_negN (@pe_int _ _ _ _)) (fun _ _ => rfl)) (fun _ _ => rfl)) (@pa_nil _) (by rfl)) (by rfl) (by rfl) (by rfl) (by rfl) (by rfl)) (by rfl)))) (@pss_cons _ _ _ _ _ (@ps_set _ _ (3) _ _ _ _ c__law_long_ring.nd rfl (Or.inl rfl) (@pe_bm _ _ _ _ _ _ _ _ _ _ _ _ PySem.F.plainAttrs_list PySem.F.slot_list_index PySem.F.type_list_index (mt_index hr.units) (@pvN _ 2 _ _ (by rfl) (by trivial) (by decide) (by decide)) (@pa_c _ _ _ _ _ (@pe_callB _ _ _ _ _ _ _ ("min") _ (call_qMinL rfl) (by rfl) T.z_min (by decide +kernel) (@pa_c _ _ _ _ _ (@pvN _ 2 _ _ (by rfl) (by trivial) (by decide) (by decide)) (@pa_nil _) (by rfl)) (by decide) (by decide) (by rfl) (by rfl)) (@pa_nil _) (by rfl)) (by rfl) (by rfl) (by rfl) (by rfl) (by rfl)) (by rfl) (by trivial)) (@pss_one _ _ _ (@ps_ret _ _ _ _ (@pe_op _ _ _ _ _ _ _ _ op_nCat (@pe_slice _ _ _ _ _ _ _ _ _ _ sl_n (@pvN _ 2 _ _ (by rfl) (by trivial) (by decide) (by decide)) (@po_some _ _ _ (@pvN _ 3 _ _ (by rfl) (by trivial) (by decide) (by decide))) (@po_none _)) (@pe_slice _ _ _ _ _ _ _ _ _ _ sl_n (@pvN _ 2 _ _ (by rfl) (by trivial) (by decide) (by decide)) (@po_none _) (@po_some _ _ _ (@pvN _ 3 _ _ (by rfl) (by trivial) (by decide) (by decide)))))))))), ?_⟩
    rw [show start ["_law_found_here", "_law_cell", "_law_ring", "_law_at"] [.ref d, .int c] = [some (.ref d), some (.int c), none, none] from rfl]
    replace hrg := fun (_ : Unit) => hrg
    replace k := fun (_ : Unit) => k
    replace h42 := fun (_ : Unit) => h42
    simp! only [and_true]
    intro R H1 hR1 e1 h1
    simp! only [and_true]
    refine while_w (by repeat' first | exact mo_tV | exact mo_nI0 | exact mo_nI | apply mo_nTest | apply mo_unN | exact mo_var | exact mo_c | exact mo_rI0 | exact mo_rI | exact mo_rIsN | exact mo_rNotN | exact mo_qEq | exact mo_qIx | exact mo_nil | exact mo_qLen | exact mo_inD | exact mo_qLenD | apply mo_dget2 | apply mo_test | apply mo_tB | apply mo_not | apply mo_and | apply mo_or | apply mo_op | apply mo_un | apply mo_cons | apply mo_qLst | apply mo_cb) (fun mm σ H' => ∃ (pre : List Int) (z : Int) (u : List Int), σ = [some (.ref d), some (.int c), some (.ref R), none] ∧ mm = u.length ∧ c :: tt = pre ++ z :: u ∧ Ext H H' ∧ H' R = some (.lst ((pre ++ [z]).map V.int))) _ ⟨[], c, tt, rfl, rfl, rfl, e1, h1⟩ ?_
    rintro mm _ H2 ⟨pre, z, u, rfl, rfl, hct, e2, R2⟩
    have d2 := e2.at hd
    have hat : atI ((pre ++ [z]).map V.int) (-1) = some (.int z) := by rw [List.map_append]; exact atI_last _ _
    have hfz : lookI kv z = some (u.headD c) := by
      obtain ⟨c', t', e, hp, _⟩ := hrg ()
      obtain ⟨rfl, rfl⟩ := List.cons.inj e
      rw [hct] at hp
      exact hp.right.head
    have hpl : (pre ++ [z]).length ≤ 4200 := by
      have h1 := h42 ()
      rw [hct] at h1
      rw [List.length_append] at h1 ⊢
      rw [List.length_cons] at h1
      rw [List.length_singleton]
      omega
    replace hct := fun (_ : Unit) => hct
    replace hfz := fun (_ : Unit) => hfz
    replace hpl := fun (_ : Unit) => hpl
    clear h1 e1
    cases u with
    | nil =>
      simp! only [and_true]
      refine use_ge0 d2 ?_
      simp! only [and_true]
      refine use_ge (k := .inl z) d2 ?_
      rw [val_tab, hfz (), show ((some ([].headD c) : Option Int).map V.int).getD (.int c) = .int c from rfl]
      simp! only [and_true]
      rw [x_kMinI]
      refine ⟨by simp, fun M hM hm => ?_⟩
      obtain ⟨a, b, hab, hMa⟩ := split_first hM
      rw [hab] at R2
      have k' := fun (_ : Unit) => k () a (M :: b) M
      have hall : c :: tt = a ++ M :: b := by rw [hct (), ← hab]
      have hln : (a ++ M :: b).length ≤ 4200 := by rw [← hab]; exact hpl ()
      replace hm := fun (_ : Unit) => hm
      replace hab := fun (_ : Unit) => hab
      replace hall := fun (_ : Unit) => hall
      replace hln := fun (_ : Unit) => hln
      clear hM hat
      simp! only [and_true]
      refine use_idxI R2 hMa ?_
      simp! only [and_true]
      rw [cut_some _ _ (Int.natCast_nonneg _), Int.toNat_natCast, show (List.map V.int (a ++ M :: b)).drop a.length = (M :: b).map V.int by rw [List.map_append, List.drop_left' (by simp)]]
      intro r1 H3 hr1 e3 h3
      have R3 := e3.at R2
      clear R2
      simp! only [and_true]
      rw [cut_none _ _ (Int.natCast_nonneg _), Int.toNat_natCast, show (List.map V.int (a ++ M :: b)).take a.length = a.map V.int by rw [List.map_append, List.take_left' (by simp)]]
      intro r2 H4 hr2 e4 h4
      have h3_4 := e4.at h3
      clear h3 R3
      rw [List.map_cons] at h3_4
      simp! only [and_true]
      refine ⟨len5000 (by have := hln (); rw [List.length_append, List.length_cons] at this; omega), fun r3 H5 hr3 e5 h5 => ?_⟩
      exact k' () r3 H5 (hall ()) rfl (fun x hx => hm () x (by rw [hab ()]; rw [hall ()] at hx; exact hx)) (e2.free (e3.free (e4.free hr3))) (e2.trans (e3.trans (e4.trans e5))) (by rw [h5, List.map_append, List.map_cons]; rfl)
    | cons y u =>
      have hyc : ¬ y = c := fun z' => by
        have h1 := (hrg ()).nodup
        rw [hct ()] at h1
        cases pre with
        | nil =>
          have e := (List.cons.inj (hct ())).1
          rw [List.nil_append, List.nodup_cons] at h1
          exact h1.1 (by rw [← e, ← z']; exact List.mem_cons_self)
        | cons p0 pre =>
          have e := (List.cons.inj (hct ())).1
          rw [List.cons_append, List.nodup_cons] at h1
          exact h1.1 (by rw [← e, ← z']; simp)
      have hcu : c :: tt = (pre ++ [z]) ++ y :: u := by rw [hct ()]; simp
      have hfz' : lookI kv z = some y := hfz ()
      simp! only [and_true]
      refine use_ge0 d2 ?_
      simp! only [and_true]
      refine use_ge (k := .inl z) d2 ?_
      rw [val_tab, hfz', show ((some y : Option Int).map V.int).getD (.int c) = .int y from rfl]
      replace hcu := fun (_ : Unit) => hcu
      simp! only [and_true]
      refine use_dg (k := .inl z) (v := .int y) d2 (by rw [val_tab, hfz']; rfl) ?_
      have hll : ((pre ++ [z]).map V.int).length < sizeLine := lt5000 (by rw [List.length_map]; have := hpl (); omega)
      simp! only [and_true]
      exact ⟨lt5000 (by have := hpl (); omega), _, Nat.lt_succ_self _, pre ++ [z], y, u, rfl, rfl, e2.put hR1, by rw [show List.map V.int (pre ++ [z] ++ [y]) = List.map V.int (pre ++ [z]) ++ [V.int y] from List.map_append]⟩
theorem drawF_nn (ns : List Int) (k m : Int) (h : 0 < m) : 0 ≤ drawF ns k m ∧ drawF ns k m < m := ⟨Int.emod_nonneg _ (by omega), Int.emod_lt_of_pos _ h⟩
abbrev B_spLD (K : PySem.W.Frag) (a : Addr) (ns : List Int) (p : Addr) (d : Addr) (H : Hp) (Q : VK) (E : XK) : Prop := p = a ∧ SqL K H a (ns.map V.int) ∧ ns.length ≤ 63 ∧ ∃ (m : Nat) (x : Int), H d = some (.dK (tabI (lng m (drawF ns 2 3) x (drawF ns 4 2)))) ∧ (1001 ≤ m ∧ m ≤ 4095) ∧ (0 ≤ x ∧ x < m) ∧ ∀ (L : List (List Int × Bool)) (r : Addr) (H' : Hp), RingsOf (lookI (lng m (drawF ns 2 3) x (drawF ns 4 2))) ((lng m (drawF ns 2 3) x (drawF ns 4 2)).map (·.1)) L → Ext H H' → RgAt H H' r L → Q (.ref r) H'
def spLD (K : PySem.W.Frag) (a : Addr) (ns : List Int) : Sp := fun vs H Q E => ∃ (p : Addr) (d : Addr), vs = [.ref p, .ref d] ∧ (B_spLD K a ns p d H Q E)
theorem c_spLD (K : PySem.W.Frag) (a : Addr) (ns : List Int) (p : Addr) (d : Addr) (H : Hp) (Q : VK) (E : XK) : spLD K a ns [.ref p, .ref d] H Q E = (B_spLD K a ns p d H Q E) := spx2 (f := fun (p : Addr) (d : Addr) => [.ref p, .ref d]) (fun _ _ _ _ h => by cases h; exact ⟨rfl, rfl⟩) p d
theorem l_spLD (K : PySem.W.Frag) (a : Addr) (ns : List Int) {vs : List V} {H : Hp} {Q : VK} {E : XK} (h : spLD K a ns vs H Q E) : vs.length = 2 := spl2 h fun _ _ => rfl
theorem ok__law_long_due (T : Tx K mg t) (a : Addr) (ns : List Int) : FnOk P w K mg base CX0 2 t.a__law_long_due t.d__law_long_due ["_law_script", "_law_found_here"] (spLD K a ns) := by
  have G__law_draw := okx__law_draw (P := P) (w := w) (base := base) T a ns
  have G__law_long_ring := ok__law_long_ring (P := P) (w := w) (base := base) T
  refine T.F__law_long_due.ok c__law_long_due (fun vs H Q E h => l_spLD _ _ _ h) (fun cdv A outer s' H vs Q E hr h => ?_)
  · obtain ⟨_, d, rfl, rfl, hS, hl, m, x, hd, hm, hx, k⟩ := h
    rename_i a
    refine ⟨_, (@pss_cons _ _ _ _ _ (@ps_set _ _ (2) _ _ _ _ c__law_long_due.nd rfl (Or.inl rfl) (@pe_call _ _ _ _ _ _ _ _ _ _ _ _ _ _ _ _ G__law_draw (hr.mono (by decide)) (by rfl) T.m__law_draw T.F__law_draw.kp T.b__law_draw .nil pass0 (@pa_c _ _ _ _ _ (@pvN _ 0 _ _ (by rfl) (by trivial) (by decide) (by decide)) (@pa_c _ _ _ _ _ (@pe_int _ _ _ _) (@pa_c _ _ _ _ _ (@pe_int _ _ _ _) (@pa_nil _) (by rfl)) (by rfl)) (by rfl)) (by decide) (by rfl) (by rfl)) (by rfl) (by trivial)) (@pss_cons _ _ _ _ _ (@ps_if _ _ _ _ _ _ _ _ (@pt_cmpRN _ _ _ _ _ _ _ _ (op_qEq hr.units) (@pvN _ 2 _ _ (by rfl) (by trivial) (by decide) (by decide)) (@pe_int _ _ _ _) (nomark _)) (@pss_one _ _ _ (@ps_ret _ _ _ _ (@pe_qLst _ _ _ _ (@pa_nil _)))) (@pss_nil _)) (@pss_cons _ _ _ _ _ (@ps_set _ _ (3) _ _ _ _ c__law_long_due.nd rfl (Or.inl rfl) (@pe_ix _ _ _ _ _ _ _ ix_q (@pe_qLst _ _ _ _ (@pa_c _ _ _ _ _ (@pe_int _ _ _ _) (@pa_c _ _ _ _ _ (@pe_int _ _ _ _) (@pa_nil _) (by rfl)) (by rfl))) (@pe_call _ _ _ _ _ _ _ _ _ _ _ _ _ _ _ _ G__law_draw (hr.mono (by decide)) (by rfl) T.m__law_draw T.F__law_draw.kp T.b__law_draw .nil pass0 (@pa_c _ _ _ _ _ (@pvN _ 0 _ _ (by rfl) (by trivial) (by decide) (by decide)) (@pa_c _ _ _ _ _ (@pe_int _ _ _ _) (@pa_c _ _ _ _ _ (@pe_int _ _ _ _) (@pa_nil _) (by rfl)) (by rfl)) (by rfl)) (by decide) (by rfl) (by rfl)) (fun _ _ => rfl)) (by rfl) (by trivial)) (@pss_one _ _ _ (@ps_ret _ _ _ _ (@pe_qLst _ _ _ _ (@pa_c _ _ _ _ _ (@pe_qTup _ _ _ _ _ (@pa_c _ _ _ _ _ (@pe_call _ _ _ _ _ _ _ _ _ _ _ _ _ _ _ _ G__law_long_ring (hr.mono (by decide)) (by rfl) T.m__law_long_ring T.F__law_long_ring.kp T.b__law_long_ring .nil pass0 (@pa_c _ _ _ _ _ (@pvN _ 1 _ _ (by rfl) (by trivial) (by decide) (by decide)) (@pa_c _ _ _ _ _ (@pvN _ 3 _ _ (by rfl) (by trivial) (by decide) (by decide)) (@pa_nil _) (by rfl)) (by rfl)) (by decide) (by rfl) (by rfl)) (@pa_c _ _ _ _ _ (@pe_cmpR _ _ _ _ _ _ _ _ (op_qEq hr.units) (@pvN _ 2 _ _ (by rfl) (by trivial) (by decide) (by decide)) (@pe_int _ _ _ _) (nomark _)) (@pa_nil _) (by rfl)) (by rfl))) (@pa_nil _) (by rfl)))))))), ?_⟩
    rw [show start ["_law_script", "_law_found_here", "_law_way", "_law_begin"] [.ref a, .ref d] = [some (.ref a), some (.ref d), none, none] from rfl]
    clear G__law_draw G__law_long_ring
    have w01 := drawF_nn ns 2 3 (by decide)
    have t01 := drawF_nn ns 4 2 (by decide)
    have hc : (if drawF ns 4 2 = 0 then (0 : Int) else 5000) = flp (drawF ns 4 2) 0 := by unfold flp; split <;> omega
    replace k := fun (_ : Unit) => k
    simp! only [and_true]
    rw [c_spDrawX]
    refine ⟨hS, hl, ⟨by decide, by decide⟩, by decide, ?_⟩
    generalize drawF ns 2 3 = wy at w01 hd k ⊢
    by_cases hw : wy = 0
    · subst hw
      simp! only [and_true]
      intro r H1 hr1 e1 h1
      exact k () [] r H1 (lng_rings0 hx) e1 ⟨[], h1, hr1, Al.nil⟩
    · simp! only [and_true]
      intro q H1 hq1 e1 h1
      have hS1 := e1.2 K a _ hS
      have d1 := e1.at hd
      simp! only [and_true]
      rw [c_spDrawX]
      refine ⟨hS1, hl, ⟨by decide, by decide⟩, by decide, ?_⟩
      generalize drawF ns 4 2 = tn at t01 hc d1 hd k ⊢
      have hat : atI [V.int 0, V.int 5000] tn = some (.int (flp tn 0)) := by
        rcases (show tn = 0 ∨ tn = 1 by omega) with e | e
        · subst e; rfl
        · subst e; rfl
      have hrg := lng_ring (x := x) (tn := tn) (show 0 < wy by omega) (show 0 < m by omega)
      obtain ⟨tt, htt⟩ : ∃ tt, lngR m tn = flp tn 0 :: tt := by
        obtain ⟨n, rfl⟩ : ∃ n, m = n + 1 := ⟨m - 1, by omega⟩
        exact ⟨_, by unfold lngR; rw [List.range_succ_eq_map, List.map_cons]; rfl⟩
      have hln : (flp tn 0 :: tt).length ≤ 4200 := by rw [← htt]; unfold lngR; rw [List.length_map, List.length_range]; omega
      rw [htt] at hrg
      replace hrg := fun (_ : Unit) => hrg
      replace htt := fun (_ : Unit) => htt
      replace hln := fun (_ : Unit) => hln
      clear hd hS hc
      simp! only [and_true]
      rw [c_spLL]
      refine ⟨_, tt, d1, hrg (), hln (), fun aa bb M r H2 hab hb hle hr2 e2 h2 => ?_⟩
      have rs := lng_rings (x := x) (show wy = 1 ∨ wy = 2 by omega) (show 2 ≤ m by omega) hx ((htt ()).trans hab) hb (fun y hy => hle y (by rw [← htt ()]; exact hy))
      replace rs := fun (_ : Unit) => rs
      replace hle := fun (_ : Unit) => hle
      replace hab := fun (_ : Unit) => hab
      replace hb := fun (_ : Unit) => hb
      clear d1 hat h1
      simp! only [and_true]
      intro q2 H3 hq3 e3 h3
      simp! only [and_true]
      intro q4 H4 hq4 e4 h4
      have e14 := e1.trans (e2.trans (e3.trans e4))
      refine k () _ q4 H4 (rs ()) e14 ⟨[.ref q2], h4, e1.free (e2.free (e3.free hq4)), by simp, fun i p y hp hy => ?_⟩
      cases i with
      | succ i => simp at hp
      | zero =>
        cases hp
        cases hy
        exact ⟨q2, r, rfl, e4.at h3, (e3.trans e4).at h2, e1.free hr2, fun z => by rw [z, e3.free hq4] at h2; cases h2⟩
def lngI (n : Nat) : List (Int × Int) := (List.range n).map fun (k : Nat) => ((k : Int), (k : Int) + 1)
theorem lngI_keys (n : Nat) : (lngI n).map (·.1) = (List.range n).map fun (k : Nat) => (k : Int) := by unfold lngI; rw [List.map_map]; rfl
theorem lngI_new (n : Nat) : lookI (lngI n) (n : Int) = none := by
  rw [look_none, lngI_keys]
  intro h
  obtain ⟨k, hk, e⟩ := List.mem_map.mp h
  have := List.mem_range.mp hk
  omega
theorem lngI_put (n : Nat) : putK (tabI (lngI n)) (.inl (n : Int)) (.int ((n : Int) + 1)) = tabI (lngI (n + 1)) := by
  rw [put_tab _ (lngI_new n)]
  unfold lngI
  rw [List.range_succ, List.map_append]
  rfl
def lngW (m : Nat) (wy : Int) : List (Int × Int) := (List.range m).map fun (k : Nat) => ((k : Int), if 0 < wy ∧ k = m - 1 then 0 else (k : Int) + 1)
theorem lngW_0 (m : Nat) : lngW m 0 = lngI m := by
  unfold lngW lngI
  refine List.map_congr_left fun k _ => ?_
  rw [if_neg (by omega)]
theorem lngW_put {m : Nat} {wy : Int} (hw : 0 < wy) (hm : 0 < m) : putK (tabI (lngI m)) (.inl ((m : Int) - 1)) (.int 0) = tabI (lngW m wy) := by
  rw [put_tabI]
  congr 1
  unfold putI
  rw [if_pos (look_some.mpr (by rw [lngI_keys]; exact List.mem_map.mpr ⟨m - 1, List.mem_range.mpr (by omega), by omega⟩))]
  unfold lngI lngW
  rw [List.map_map]
  refine List.map_congr_left fun k hk => ?_
  have hk' := List.mem_range.mp hk
  show (if (k : Int) = (m : Int) - 1 then ((k : Int), (0 : Int)) else ((k : Int), (k : Int) + 1)) = _
  by_cases e : k = m - 1
  · rw [if_pos (by omega), if_pos ⟨hw, e⟩]
  · rw [if_neg (by omega), if_neg (fun h => e h.2)]
theorem lngW_len (m : Nat) (wy : Int) : (lngW m wy).length = m := by unfold lngW; simp
theorem lngB_W {m : Nat} {wy : Int} (x : Int) (h : ¬ wy = 2) : lngB m wy x = lngW m wy := by
  unfold lngB lngW
  rw [if_neg h, List.append_nil]
theorem lngB_put {m : Nat} {wy : Int} (x : Int) (h : wy = 2) : putK (tabI (lngW m wy)) (.inl ((m : Int) + 3)) (.int x) = tabI (lngB m wy x) := by
  rw [put_tab]
  · unfold lngB lngW
    rw [if_pos h]
  · rw [look_none]
    intro hm
    unfold lngW at hm
    rw [List.map_map] at hm
    obtain ⟨k, hk, e⟩ := List.mem_map.mp hm
    have := List.mem_range.mp hk
    have e' : (k : Int) = (m : Int) + 3 := e
    omega
theorem lng_0 (m : Nat) (wy x : Int) : lng m wy x 0 = lngB m wy x := by
  unfold lng
  rw [show (fun p : Int × Int => (flp 0 p.1, flp 0 p.2)) = id from rfl, List.map_id]
theorem lng_1 {tn : Int} (h : ¬ tn = 0) (m : Nat) (wy x : Int) : lng m wy x tn = (lngB m wy x).map fun p => (5000 - p.1, 5000 - p.2) := by
  unfold lng
  refine List.map_congr_left fun p _ => ?_
  unfold flp
  rw [if_neg h, if_neg h]
theorem turn_put {kv : List (Int × Int)} (hn : NdK kv) {i : Nat} {p : Int × Int} (h : kv[i]? = some p) : putK (tabI ((kv.take i).map fun p => (5000 - p.1, 5000 - p.2))) (.inl (5000 - p.1)) (.int (5000 - p.2)) = tabI ((kv.take (i + 1)).map fun p => (5000 - p.1, 5000 - p.2)) := by
  rw [put_tab, List.take_add_one, h, List.map_append]
  · rfl
  · rw [look_none, List.map_map]
    intro hm
    obtain ⟨q, hq, e⟩ := List.mem_map.mp hm
    have e' : 5000 - q.1 = 5000 - p.1 := e
    have hlt := (List.getElem?_eq_some_iff.mp h).1
    have h1 : (kv.map (·.1)).Nodup := hn
    rw [← List.take_append_drop i kv, List.map_append, List.nodup_append] at h1
    exact h1.2.2 q.1 (List.mem_map.mpr ⟨q, hq, rfl⟩) p.1 (List.mem_map.mpr ⟨p, List.mem_of_getElem? (i := 0) (by rw [List.getElem?_drop]; simpa using h), rfl⟩) (by omega)
abbrev B_spLg (K : PySem.W.Frag) (a : Addr) (ns : List Int) (p : Addr) (H : Hp) (Q : VK) (E : XK) : Prop := p = a ∧ SqL K H a (ns.map V.int) ∧ ns.length ≤ 63 ∧ ∀ (m : Nat) (x : Int) (r : Addr) (H' : Hp), (1001 ≤ m ∧ m ≤ 4095) → (0 ≤ x ∧ x < m) → H r = none → Ext H H' → H' r = some (.dK (tabI (lng m (drawF ns 2 3) x (drawF ns 4 2)))) → Q (.ref r) H'
def spLg (K : PySem.W.Frag) (a : Addr) (ns : List Int) : Sp := fun vs H Q E => ∃ (p : Addr), vs = [.ref p] ∧ (B_spLg K a ns p H Q E)
theorem c_spLg (K : PySem.W.Frag) (a : Addr) (ns : List Int) (p : Addr) (H : Hp) (Q : VK) (E : XK) : spLg K a ns [.ref p] H Q E = (B_spLg K a ns p H Q E) := spx1 (f := fun (p : Addr) => [.ref p]) (fun _ _ h => by cases h; exact rfl) p
theorem l_spLg (K : PySem.W.Frag) (a : Addr) (ns : List Int) {vs : List V} {H : Hp} {Q : VK} {E : XK} (h : spLg K a ns vs H Q E) : vs.length = 1 := spl1 h fun _ => rfl
theorem ok__law_long (T : Tx K mg t) (a : Addr) (ns : List Int) : FnOk P w K mg base CX0 2 t.a__law_long t.d__law_long ["_law_script"] (spLg K a ns) := by
  have G__law_draw := okx__law_draw (P := P) (w := w) (base := base) T a ns
  refine T.F__law_long.ok c__law_long (fun vs H Q E h => l_spLg _ _ _ h) (fun cdv A outer s' H vs Q E hr h => ?_)
  · obtain ⟨_, rfl, rfl, hS, hl, kk⟩ := h
    rename_i a
    refine ⟨_, (@pss_cons _ _ _ _ _ (@ps_set _ _ (1) _ _ _ _ c__law_long.nd rfl (Or.inl rfl) (@pe_op _ _ _ _ _ _ _ _ on_add (@pe_int _ _ _ _) (@pe_call _ _ _ _ _ _ _ _ _ _ _ _ _ _ _ _ G__law_draw (hr.mono (by decide)) (by rfl) T.m__law_draw T.F__law_draw.kp T.b__law_draw .nil pass0 (@pa_c _ _ _ _ _ (@pvN _ 0 _ _ (by rfl) (by trivial) (by decide) (by decide)) (@pa_c _ _ _ _ _ (@pe_int _ _ _ _) (@pa_c _ _ _ _ _ (@pe_int _ _ _ _) (@pa_nil _) (by rfl)) (by rfl)) (by rfl)) (by decide) (by rfl) (by rfl))) (by rfl) (by trivial)) (@pss_cons _ _ _ _ _ (@ps_set _ _ (2) _ _ _ _ c__law_long.nd rfl (Or.inl rfl) (@pe_nDNew _ _) (by rfl) (by trivial)) (@pss_cons _ _ _ _ _ (@ps_for _ _ _ _ _ _ _ _ PassesOwn.never rfl (@pi_range1 _ _ _ _ _ _ (by rfl) T.z_range (@pa_c _ _ _ _ _ (@pvN _ 1 _ _ (by rfl) (by trivial) (by decide) (by decide)) (@pa_nil _) (by rfl)) (by rfl)) (@pg_name _ _ (3) _ c__law_long.nd rfl (Or.inl rfl) (by trivial)) (@pss_one _ _ _ (@ps_dput _ _ _ _ _ _ _ _ _ (units1 hr.units) (@pvN _ 2 _ _ (by rfl) (by trivial) (by decide) (by decide)) (@pvN _ 3 _ _ (by rfl) (by trivial) (by decide) (by decide)) (@pe_op _ _ _ _ _ _ _ _ on_add (@pvN _ 3 _ _ (by rfl) (by trivial) (by decide) (by decide)) (@pe_int _ _ _ _)) rfl)) (by intros; rfl)) (@pss_cons _ _ _ _ _ (@ps_set _ _ (4) _ _ _ _ c__law_long.nd rfl (Or.inl rfl) (@pe_call _ _ _ _ _ _ _ _ _ _ _ _ _ _ _ _ G__law_draw (hr.mono (by decide)) (by rfl) T.m__law_draw T.F__law_draw.kp T.b__law_draw .nil pass0 (@pa_c _ _ _ _ _ (@pvN _ 0 _ _ (by rfl) (by trivial) (by decide) (by decide)) (@pa_c _ _ _ _ _ (@pe_int _ _ _ _) (@pa_c _ _ _ _ _ (@pe_int _ _ _ _) (@pa_nil _) (by rfl)) (by rfl)) (by rfl)) (by decide) (by rfl) (by rfl)) (by rfl) (by trivial)) (@pss_cons _ _ _ _ _ (@ps_if _ _ _ _ _ _ _ _ (@pt_cmpRN _ _ _ _ _ _ _ _ on_gt (@pvN _ 4 _ _ (by rfl) (by trivial) (by decide) (by decide)) (@pe_int _ _ _ _) (nomark _)) (@pss_one _ _ _ (@ps_dput _ _ _ _ _ _ _ _ _ (units1 hr.units) (@pvN _ 2 _ _ (by rfl) (by trivial) (by decide) (by decide)) (@pe_op _ _ _ _ _ _ _ _ on_sub (@pvN _ 1 _ _ (by rfl) (by trivial) (by decide) (by decide)) (@pe_int _ _ _ _)) (@pe_int _ _ _ _) rfl)) (@pss_nil _)) (@pss_cons _ _ _ _ _ (@ps_if _ _ _ _ _ _ _ _ (@pt_cmpRN _ _ _ _ _ _ _ _ (op_qEq hr.units) (@pvN _ 4 _ _ (by rfl) (by trivial) (by decide) (by decide)) (@pe_int _ _ _ _) (nomark _)) (@pss_one _ _ _ (@ps_dput _ _ _ _ _ _ _ _ _ (units1 hr.units) (@pvN _ 2 _ _ (by rfl) (by trivial) (by decide) (by decide)) (@pe_op _ _ _ _ _ _ _ _ on_add (@pvN _ 1 _ _ (by rfl) (by trivial) (by decide) (by decide)) (@pe_int _ _ _ _)) (@pe_call _ _ _ _ _ _ _ _ _ _ _ _ _ _ _ _ G__law_draw (hr.mono (by decide)) (by rfl) T.m__law_draw T.F__law_draw.kp T.b__law_draw .nil pass0 (@pa_c _ _ _ _ _ (@pvN _ 0 _ _ (by rfl) (by trivial) (by decide) (by decide)) (@pa_c _ _ _ _ _ (@pe_int _ _ _ _) (@pa_c _ _ _ _ _ (@pvN _ 1 _ _ (by rfl) (by trivial) (by decide) (by decide)) (@pa_nil _) (by rfl)) (by rfl)) (by rfl)) (by decide) (by rfl) (by rfl)) rfl)) (@pss_nil _)) (@pss_cons _ _ _ _ _ (@ps_if _ _ _ _ _ _ _ _ (@pt_cmpRN _ _ _ _ _ _ _ _ (op_qEq hr.units) (@pe_call _ _ _ _ _ _ _ _ _ _ _ _ _ _ _ _ G__law_draw (hr.mono (by decide)) (by rfl) T.m__law_draw T.F__law_draw.kp T.b__law_draw .nil pass0 (@pa_c _ _ _ _ _ (@pvN _ 0 _ _ (by rfl) (by trivial) (by decide) (by decide)) (@pa_c _ _ _ _ _ (@pe_int _ _ _ _) (@pa_c _ _ _ _ _ (@pe_int _ _ _ _) (@pa_nil _) (by rfl)) (by rfl)) (by rfl)) (by decide) (by rfl) (by rfl)) (@pe_int _ _ _ _) (nomark _)) (@pss_one _ _ _ (@ps_ret _ _ _ _ (@pvN _ 2 _ _ (by rfl) (by trivial) (by decide) (by decide)))) (@pss_nil _)) (@pss_cons _ _ _ _ _ (@ps_set _ _ (5) _ _ _ _ c__law_long.nd rfl (Or.inl rfl) (@pe_nDNew _ _) (by rfl) (by trivial)) (@pss_cons _ _ _ _ _ (@ps_thaw _ _ _ (@ps_for _ _ _ _ _ _ _ _ PassesOwn.never rfl (@pi_dict _ _ _ _ (@pvN _ 2 _ _ (by rfl) (by trivial) (by decide) (by decide))) (@pg_name _ _ (3) _ c__law_long.nd rfl (Or.inl rfl) (by trivial)) (@pss_one _ _ _ (@ps_dput _ _ _ _ _ _ _ _ _ (units1 hr.units) (@pvN _ 5 _ _ (by rfl) (by trivial) (by decide) (by decide)) (@pe_op _ _ _ _ _ _ _ _ on_sub (@pe_int _ _ _ _) (@pvN _ 3 _ _ (by rfl) (by trivial) (by decide) (by decide))) (@pe_op _ _ _ _ _ _ _ _ on_sub (@pe_int _ _ _ _) (@pe_dget _ _ _ _ _ _ (units1 hr.units) (@pvN _ 2 _ _ (by rfl) (by trivial) (by decide) (by decide)) (@pvN _ 3 _ _ (by rfl) (by trivial) (by decide) (by decide)) (fun _ _ => rfl))) rfl)) (by intros; rfl))) (@pss_one _ _ _ (@ps_ret _ _ _ _ (@pvN _ 5 _ _ (by rfl) (by trivial) (by decide) (by decide))))))))))))), ?_⟩
    rw [show start ["_law_script", "_law_many", "_law_found_here", "_law_k", "_law_way", "_law_turned"] [.ref a] = [some (.ref a), none, none, none, none, none] from rfl]
    clear G__law_draw
    have w01 := drawF_nn ns 2 3 (by decide)
    have t01 := drawF_nn ns 4 2 (by decide)
    have m01 := drawF_nn ns 1 3095 (by decide)
    replace kk := fun (_ : Unit) => kk
    simp! only [and_true]
    rw [c_spDrawX]
    refine ⟨hS, hl, ⟨by decide, by decide⟩, by decide, ?_⟩
    simp! only [and_true]
    obtain ⟨m, hm⟩ : ∃ m : Nat, 1001 + drawF ns 1 3095 = (m : Int) := ⟨(1001 + drawF ns 1 3095).toNat, by omega⟩
    have hm1 : 1001 ≤ m := by omega
    have hm2 : m ≤ 4095 := by omega
    rw [hm]
    clear hm m01
    intro d H1 hd1 e1 h1
    simp! only [and_true]
    refine ⟨by omega, by omega, ?_⟩
    refine for_rng (fun i σ H' => ∃ (v3 : Option V), σ = [some (.ref a), some (.int (m : Int)), some (.ref d), v3, none, none] ∧ Ext H H' ∧ H' d = some (.dK (tabI (lngI i)))) ⟨none, rfl, e1, h1⟩ ?_ ?_
    · rintro i _ H2 hi ⟨v3, rfl, e2, d2⟩
      have hl5 : (tabI (lngI i)).length < sizeLine := lt5000 (by rw [tab_len]; unfold lngI; rw [List.length_map, List.length_range]; omega)
      have hput := lngI_put i
      replace hput := fun (_ : Unit) => hput
      clear h1 kk
      rw [Int.zero_add]
      simp! only [and_true]
      refine use_dp (k := .inl (i : Int)) d2 hl5 ?_
      rw [hput ()]
      exact ⟨_, rfl, e2.put hd1, upd_same⟩
    · rintro _ H2 ⟨v3, rfl, e2, d2⟩
      rw [Int.toNat_natCast] at d2
      have hS2 := e2.2 K a _ hS
      clear h1 e1
      simp! only [and_true]
      rw [c_spDrawX]
      refine ⟨hS2, hl, ⟨by decide, by decide⟩, by decide, ?_⟩
      generalize drawF ns 2 3 = wy at w01 kk ⊢
      simp! only [-m_tIfS]
      refine if_gen (fun σ' H' => σ' = [some (.ref a), some (.int (m : Int)), some (.ref d), v3, some (.int wy), none] ∧ Ext H H' ∧ H' d = some (.dK (tabI (lngW m wy)))) (fun nx' hnx => ?_) ?_
      · replace hnx := fun (_ : Unit) => hnx
        by_cases hw : 0 < wy
        · have hl5 : (tabI (lngI m)).length < sizeLine := lt5000 (by rw [tab_len]; unfold lngI; rw [List.length_map, List.length_range]; omega)
          simp! only [and_true]
          refine use_dp (k := .inl ((m : Int) - 1)) d2 hl5 ?_
          rw [lngW_put hw (by omega)]
          exact hnx () _ _ ⟨rfl, e2.put hd1, upd_same⟩
        · have hw0 : wy = 0 := by omega
          subst hw0
          have h6 := hnx () [some (.ref a), some (.int (m : Int)), some (.ref d), v3, some (.int 0), none] H2 ⟨rfl, e2, by rw [lngW_0]; exact d2⟩
          clear hnx
          simp! only [and_true]
      rintro _ H3 ⟨rfl, e3, d3⟩
      have hS3 := e3.2 K a _ hS
      clear d2 hS2
      simp! only [-m_tIfS]
      refine if_gen (fun σ' H' => ∃ x : Int, σ' = [some (.ref a), some (.int (m : Int)), some (.ref d), v3, some (.int wy), none] ∧ Ext H H' ∧ H' d = some (.dK (tabI (lngB m wy x))) ∧ 0 ≤ x ∧ x < m) (fun nx' hnx => ?_) ?_
      · replace hnx := fun (_ : Unit) => hnx
        by_cases hw : wy = 2
        · have hl5 : (tabI (lngW m wy)).length < sizeLine := lt5000 (by rw [tab_len, lngW_len]; omega)
          subst hw
          simp! only [and_true]
          rw [c_spDrawX]
          have x01 := drawF_nn ns 3 (m : Int) (by omega)
          refine ⟨hS3, hl, ⟨by decide, by decide⟩, by omega, ?_⟩
          simp! only [and_true]
          refine use_dp (k := .inl ((m : Int) + 3)) d3 hl5 ?_
          rw [lngB_put _ rfl]
          exact hnx () _ _ ⟨_, rfl, e3.put hd1, upd_same, x01⟩
        · have h6 := hnx () [some (.ref a), some (.int (m : Int)), some (.ref d), v3, some (.int wy), none] H3 ⟨0, rfl, e3, by rw [lngB_W 0 hw]; exact d3, by omega, by omega⟩
          clear hnx
          simp! only [and_true]
      rintro _ H4 ⟨x, rfl, e4, d4, hx⟩
      have hS4 := e4.2 K a _ hS
      clear d3 hS3
      simp! only [and_true]
      rw [c_spDrawX]
      refine ⟨hS4, hl, ⟨by decide, by decide⟩, by decide, ?_⟩
      generalize drawF ns 4 2 = tn at t01 kk ⊢
      by_cases ht : tn = 0
      · subst ht
        have k' := kk () m x d H4 ⟨hm1, hm2⟩ hx hd1 e4 (by rw [lng_0]; exact d4)
        clear kk
        simp! only [and_true]
      · have hnd := lngB_nd m wy x
        have hlb : (lngB m wy x).length ≤ 4100 := by
          have := lng_len m wy x 0
          rw [lng_0] at this
          omega
        have k' := fun (_ : Unit) => kk () m x
        have h1t := fun (_ : Unit) => lng_1 ht m wy x
        generalize lngB m wy x = kb at d4 hnd hlb h1t
        replace hnd := fun (_ : Unit) => hnd
        clear kk
        simp! only [and_true]
        intro tu H5 hu5 e5 h5
        have d5 := e5.at d4
        have hu0 : H tu = none := e4.free hu5
        have ntd : tu ≠ d := fun z => by rw [z, d4] at hu5; cases hu5
        simp! only [and_true]
        refine for_dict (fun ob i σ H' => ∃ (v3 : Option V), σ = [some (.ref a), some (.int (m : Int)), some (.ref d), v3, some (.int wy), some (.ref tu)] ∧ Ext (upd H4 d (.frz ob (.dK (tabI kb)))) H' ∧ H' tu = some (.dK (tabI ((kb.take i).map fun p => (5000 - p.1, 5000 - p.2))))) d5 (fun ob => ⟨v3, rfl, ext_upd e5 _ _, by rw [upd_ne ntd]; exact h5⟩) (fun ob i σ' H' ⟨_, _, e, _⟩ => e.at upd_same) ?_ ?_
        · rintro ob i z _ H6 hz ⟨v3', rfl, e6, t6⟩ f6
          obtain ⟨y, hy, rfl⟩ : ∃ y, kb[i]? = some y ∧ z = ((Sum.inl y.1 : Key), V.int y.2) := by
            unfold tabI at hz
            rw [List.getElem?_map] at hz
            obtain ⟨y, h1, h2⟩ := Option.map_eq_some_iff.mp hz
            exact ⟨y, h1, h2.symm⟩
          have hput := turn_put (hnd ()) hy
          have hvv : valV (tabI kb) (.inl y.1) = some (.int y.2) := by rw [val_tab, look_of (hnd ()) (show (y.1, y.2) ∈ kb from List.mem_of_getElem? hy)]; rfl
          have hl5 : (tabI ((kb.take i).map fun p => (5000 - p.1, 5000 - p.2))).length < sizeLine := lt5000 (by rw [tab_len, List.length_map, List.length_take]; omega)
          have htu : upd H4 d (.frz ob (.dK (tabI kb))) tu = none := by rw [upd_ne ntd]; exact hu5
          obtain ⟨c, v⟩ := y
          rw [show kV ((Sum.inl (c, v).1 : Key), V.int (c, v).2).1 = V.int c from rfl]
          replace hput := fun (_ : Unit) => hput
          clear hz hy d5 h5 k'
          simp! only [and_true]
          refine use_dgF (k := .inl c) f6 hvv ?_
          simp! only [and_true]
          refine use_dp (k := .inl (5000 - c)) t6 hl5 ?_
          rw [hput ()]
          exact ⟨_, rfl, e6.put htu, upd_same⟩
        · rintro ob _ H6 ⟨v3', rfl, e6, t6⟩
          rw [tab_len, List.take_length] at t6
          have e7 := Ext.thaw d4 e6
          have t7 : upd H6 d (.dK (tabI kb)) tu = some (.dK (tabI (kb.map fun p => (5000 - p.1, 5000 - p.2)))) := by rw [upd_ne ntd]; exact t6
          generalize upd H6 d (.dK (tabI kb)) = H7 at e7 t7
          have k2 := k' () tu H7 ⟨hm1, hm2⟩ hx hu0 (e4.trans e7) (by rw [h1t ()]; exact t7)
          clear k'
          simp! only [and_true]
def qMnF : List V → Hp → VK → Prop := fun vs H Q => ∃ (p : Addr) (kvs : List (Key × V)) (ns : List Int), vs = [.ref p] ∧ Rd H p (.dK kvs) ∧ kvs.map (·.1) = ns.map (Sum.inl : Int → Key) ∧ 0 < ns.length ∧ ∀ M, M ∈ ns → (∀ a ∈ ns, M ≤ a) → Q (.int M) H
theorem use_mnF {p : Addr} {kvs : List (Key × V)} {ns : List Int} {H : Hp} {Q : VK} (e : Rd H p (.dK kvs)) (hk : kvs.map (·.1) = ns.map (Sum.inl : Int → Key)) (hn : 0 < ns.length) (q : ∀ M, M ∈ ns → (∀ a ∈ ns, M ≤ a) → Q (.int M) H) : qMnF [.ref p] H Q := ⟨p, kvs, ns, rfl, e, hk, hn, q⟩
open PyProof.Rows in
theorem call_qMnF {X : Cx} (hc : X.calm = true) : CallR X (.builtin "min") qMnF := by
  intro pins s σ H vs us Q I r h
  obtain ⟨p, kvs, ns, rfl, ha, hk, hn, q⟩ := h
  cases r with
  | cons r rr =>
    cases rr
    cases r
    obtain ⟨z0, lo, xs, kx, dd⟩ := dk_rd I.hok ha
    obtain ⟨ep, hat⟩ := dd.dictAt
    have hlen : kvs.length = xs.length := Paired.length kx
    have hln : xs.length = ns.length := by rw [← hlen]; have := congrArg List.length hk; simpa using this
    have hlt : p < s.heap.objs.size := hat.lt_size
    have hP : ∀ (i : Nat) (v : Value), (∃ k x, xs[i]? = some (k, x) ∧ (mixKind X.prog X.w).is k v = true) → ∃ t, v = .int (ns.getD i 0) t := fun i v ⟨k, x, hx, hku⟩ => by
      have hi : i < kvs.length := by rw [hlen]; exact (List.getElem?_eq_some_iff.mp hx).1
      have h1 : kvs[i]? = some kvs[i] := List.getElem?_eq_getElem hi
      obtain ⟨w', hw', rw'⟩ := paired_get kx h1
      rw [hx] at hw'
      cases hw'
      have h2 : (kvs.map (·.1))[i]? = some k := by rw [List.getElem?_map, h1]; exact congrArg some rw'.1
      rw [hk, List.getElem?_map] at h2
      obtain ⟨n, hn', rfl⟩ := Option.map_eq_some_iff.mp h2
      rcases keyIs_shape (show keyIs (Sum.inl n) v = true from hku) with ⟨j, t, e1, e2⟩ | ⟨j, t, e1, e2⟩
      · cases e1
        exact ⟨t, by rw [e2, List.getD, hn']; rfl⟩
      · cases e1
    refine call_min_walkS (wpAny_pyIter_dict lo hat ⟨s.heap.objs.size, _, _, _, _, _, _, fun i j => decide (ns.getD i 0 < ns.getD j 0), rfl, (Walks.dictKeys (prog := X.prog) (w := X.w) (knd := mixKind X.prog X.w) (A := X.A.in1) (show X.A.in1.handled = none from I.ok.hd hc) s.heap.objs.size p (Nat.ne_of_lt hlt) xs ep).toS, ⟨⟨_, Heap.get?_push_size _ rfl, rfl, rfl⟩, hat.push _⟩, fun b hb => ?_, by rw [hln]; exact hn, CmpOf.ints_lt (fun i => ns.getD i 0) fun i v h => hP i v h, fun v s' hv hm => ?_⟩)
    · rw [Heap.size_push]
      rcases List.mem_cons.mp hb with rfl | hb
      · exact Nat.lt_succ_self _
      · rw [List.mem_singleton.mp hb]; exact Nat.lt_succ_of_lt hlt
    · obtain ⟨hp, g, d, tk, os⟩ := s'
      have kp : ∀ b o, s.heap.get? b = some o → hp.get? b = some o := fun b o e => hm.heap b o (fun hmem => by
        have : b = s.heap.objs.size := by simpa using hmem
        subst this
        exact absurd (Heap.lt_size e) (Nat.lt_irrefl _)) (Heap.get?_push_of_some _ e)
      have e1 : g = s.gens := hm.gens
      have e2 : d = s.drawn := hm.drawn
      have e3 : os = s.os := hm.os
      subst e1 e2 e3
      obtain ⟨b1, b2⟩ := argBest_lt (fun i => ns.getD i 0) (xs.length - 1)
      have rv2 := hP _ v hv
      generalize argBest (fun i j => decide (ns.getD i 0 < ns.getD j 0)) (xs.length - 1) = k at b1 b2 rv2
      have hk : k < ns.length := by omega
      refine ⟨.int (ns.getD k 0), H, I.kept (t' := tk) kp, rv2, q _ ?_ fun a ha => ?_⟩
      · rw [List.getD, List.getElem?_eq_getElem hk]; exact List.getElem_mem hk
      · obtain ⟨j, hj, rfl⟩ := List.getElem_of_mem ha
        have := b2 j (by omega)
        rw [show ns.getD j 0 = ns[j] by rw [List.getD, List.getElem?_eq_getElem hj]; rfl] at this
        exact this
theorem RingsOf.len {kv : List (Int × Int)} {L : List (List Int × Bool)} (h : RingsOf (lookI kv) (kv.map (·.1)) L) : L.length ≤ kv.length ∧ ∀ p ∈ L, p.1.length ≤ kv.length := by
  refine ⟨?_, fun p hp => ring_len (h.2.1 p hp).1.1⟩
  have h1 := nd_len (a := L.map fun p => p.1.headD 0) (b := kv.map (·.1)) (by rw [List.nodup_iff_pairwise_ne, List.pairwise_map]; exact h.1.imp fun h => by omega) fun x hx => by
    obtain ⟨p, hp, rfl⟩ := List.mem_map.mp hx
    obtain ⟨d, h1, _⟩ := (h.2.1 p hp).1.1.mem (h.2.1 p hp).1.head_mem
    exact look_some.mp (by rw [h1]; rfl)
  rw [List.length_map, List.length_map] at h1
  exact h1
theorem rings_nil {L : List (List Int × Bool)} (h : RingsOf (lookI []) (([] : List (Int × Int)).map (·.1)) L) : L = [] := by
  cases L with
  | nil => rfl
  | cons p L =>
    obtain ⟨d, h1, _⟩ := (h.2.1 p List.mem_cons_self).1.1.mem (h.2.1 p List.mem_cons_self).1.head_mem
    cases h1
theorem tab_int (kv : List (Int × Int)) : ∀ p ∈ tabI kv, ∃ i : Int, p.2 = V.int i := fun p hp => by
  obtain ⟨q, _, rfl⟩ := List.mem_map.mp hp
  exact ⟨q.2, rfl⟩
theorem tab_nd {kv : List (Int × Int)} (h : NdK kv) : ((tabI kv).map (·.1)).Nodup := by
  rw [tab_keys, List.nodup_iff_pairwise_ne, List.pairwise_map]
  exact h.imp fun h e => h (Sum.inl.inj e)
abbrev B_spLaw (K : PySem.W.Frag) (a : Addr) (H : Hp) (Q : VK) (E : XK) : Prop := ∃ ns : List Int, SqL K H a (ns.map V.int) ∧ ns.length ≤ 63 ∧ ∀ H', Q (.bl true) H'
def spLaw (K : PySem.W.Frag) : Sp := fun vs H Q E => ∃ (a : Addr), vs = [.ref a] ∧ (B_spLaw K a H Q E)
theorem l_spLaw (K : PySem.W.Frag) {vs : List V} {H : Hp} {Q : VK} {E : XK} (h : spLaw K vs H Q E) : vs.length = 1 := spl1 h fun _ => rfl
theorem ok_law (T : Tx K mg t) : FnOk P w K mg base CX0 5 t.a_law t.d_law ["_law_script"] (spLaw K) := by
  refine T.F_law.ok c_law (fun vs H Q E h => l_spLaw _ h) (fun cdv A outer s' H vs Q E hr h => ?_)
  · obtain ⟨a, rfl, ns, hS, hl, kk⟩ := h
    have G__law_draw := ok__law_draw (P := P) (w := w) (base := base) T a ns
    have G__law_long := ok__law_long (P := P) (w := w) (base := base) T a ns
    have G__law_long_due := ok__law_long_due (P := P) (w := w) (base := base) T a ns
    have G__law_found := ok__law_found (P := P) (w := w) (base := base) T a ns
    have G__law_rings := ok__law_rings (P := P) (w := w) (base := base) T
    have G__law_right := ok__law_right (P := P) (w := w) (base := base) T
    have G_rings := ok_rings (P := P) (w := w) (base := base) T
    refine ⟨_, (@pss_cons _ _ _ _ _ (@ps_if _ _ _ _ _ _ _ _ (@pt_cmpRN _ _ _ _ _ _ _ _ (op_qEq hr.units) (@pe_call _ _ _ _ _ _ _ _ _ _ _ _ _ _ _ _ G__law_draw (hr.mono (by decide)) (by rfl) T.m__law_draw T.F__law_draw.kp T.b__law_draw .nil pass0 (@pa_c _ _ _ _ _ (@pvN _ 0 _ _ (by rfl) (by trivial) (by decide) (by decide)) (@pa_c _ _ _ _ _ (@pe_int _ _ _ _) (@pa_c _ _ _ _ _ (@pe_int _ _ _ _) (@pa_nil _) (by rfl)) (by rfl)) (by rfl)) (by decide) (by rfl) (by rfl)) (@pe_int _ _ _ _) (nomark _)) (@pss_cons _ _ _ _ _ (@ps_set _ _ (1) _ _ _ _ c_law.nd rfl (Or.inl rfl) (@pe_call _ _ _ _ _ _ _ _ _ _ _ _ _ _ _ _ G__law_long (hr.mono (by decide)) (by rfl) T.m__law_long T.F__law_long.kp T.b__law_long .nil pass0 (@pa_c _ _ _ _ _ (@pvN _ 0 _ _ (by rfl) (by trivial) (by decide) (by decide)) (@pa_nil _) (by rfl)) (by decide) (by rfl) (by rfl)) (by rfl) (by trivial)) (@pss_one _ _ _ (@ps_ret _ _ _ _ (@pe_call _ _ _ _ _ _ _ _ _ _ _ _ _ _ _ _ G__law_right (hr.mono (by decide)) (by rfl) T.m__law_right T.F__law_right.kp T.b__law_right .nil pass0 (@pa_c _ _ _ _ _ (@pe_call _ _ _ _ _ _ _ _ _ _ _ _ _ _ _ _ G_rings (hr.mono (by decide)) (by rfl) T.m_rings T.F_rings.kp T.b_rings .nil pass0 (@pa_c _ _ _ _ _ (@pe_callTy _ _ _ _ _ _ _ _ _ call_qDict (by rfl) T.z_dict (by decide +kernel) (@pa_c _ _ _ _ _ (@pvN _ 1 _ _ (by rfl) (by trivial) (by decide) (by decide)) (@pa_nil _) (by rfl)) (by decide) (by decide) (by rfl) (by rfl)) (@pa_nil _) (by rfl)) (by decide) (by rfl) (by rfl)) (@pa_c _ _ _ _ _ (@pe_call _ _ _ _ _ _ _ _ _ _ _ _ _ _ _ _ G__law_long_due (hr.mono (by decide)) (by rfl) T.m__law_long_due T.F__law_long_due.kp T.b__law_long_due .nil pass0 (@pa_c _ _ _ _ _ (@pvN _ 0 _ _ (by rfl) (by trivial) (by decide) (by decide)) (@pa_c _ _ _ _ _ (@pvN _ 1 _ _ (by rfl) (by trivial) (by decide) (by decide)) (@pa_nil _) (by rfl)) (by rfl)) (by decide) (by rfl) (by rfl)) (@pa_nil _) (by rfl)) (by rfl)) (by decide) (by rfl) (by rfl))))) (@pss_nil _)) (@pss_cons _ _ _ _ _ (@ps_set _ _ (1) _ _ _ _ c_law.nd rfl (Or.inl rfl) (@pe_call _ _ _ _ _ _ _ _ _ _ _ _ _ _ _ _ G__law_found (hr.mono (by decide)) (by rfl) T.m__law_found T.F__law_found.kp T.b__law_found .nil pass0 (@pa_c _ _ _ _ _ (@pvN _ 0 _ _ (by rfl) (by trivial) (by decide) (by decide)) (@pa_nil _) (by rfl)) (by decide) (by rfl) (by rfl)) (by rfl) (by trivial)) (@pss_cons _ _ _ _ _ (@ps_set _ _ (2) _ _ _ _ c_law.nd rfl (Or.inl rfl) (@pe_callTy _ _ _ _ _ _ _ _ _ call_qDict (by rfl) T.z_dict (by decide +kernel) (@pa_c _ _ _ _ _ (@pvN _ 1 _ _ (by rfl) (by trivial) (by decide) (by decide)) (@pa_nil _) (by rfl)) (by decide) (by decide) (by rfl) (by rfl)) (by rfl) (by trivial)) (@pss_cons _ _ _ _ _ (@ps_set _ _ (3) _ _ _ _ c_law.nd rfl (Or.inl rfl) (@pe_call _ _ _ _ _ _ _ _ _ _ _ _ _ _ _ _ G__law_rings (hr.mono (by decide)) (by rfl) T.m__law_rings T.F__law_rings.kp T.b__law_rings .nil pass0 (@pa_c _ _ _ _ _ (@pvN _ 1 _ _ (by rfl) (by trivial) (by decide) (by decide)) (@pa_nil _) (by rfl)) (by decide) (by rfl) (by rfl)) (by rfl) (by trivial)) (@pss_cons _ _ _ _ _ (@ps_set _ _ (4) _ _ _ _ c_law.nd rfl (Or.inl rfl) (@pe_call _ _ _ _ _ _ _ _ _ _ _ _ _ _ _ _ G_rings (hr.mono (by decide)) (by rfl) T.m_rings T.F_rings.kp T.b_rings .nil pass0 (@pa_c _ _ _ _ _ (@pvN _ 2 _ _ (by rfl) (by trivial) (by decide) (by decide)) (@pa_nil _) (by rfl)) (by decide) (by rfl) (by rfl)) (by rfl) (by trivial)) (@pss_cons _ _ _ _ _ (@ps_if _ _ _ _ _ _ _ _ (PW.pt (@pw_or _ _ _ _ _ _ _ (@pt_not _ _ _ _ (@pt_valN _ _ _ (@pe_call _ _ _ _ _ _ _ _ _ _ _ _ _ _ _ _ G__law_right (hr.mono (by decide)) (by rfl) T.m__law_right T.F__law_right.kp T.b__law_right .nil pass0 (@pa_c _ _ _ _ _ (@pvN _ 4 _ _ (by rfl) (by trivial) (by decide) (by decide)) (@pa_c _ _ _ _ _ (@pvN _ 3 _ _ (by rfl) (by trivial) (by decide) (by decide)) (@pa_nil _) (by rfl)) (by rfl)) (by decide) (by rfl) (by rfl)) (by intros; rfl))) (@pw_or1 _ _ _ _ (@pt_cmpRN _ _ _ _ _ _ _ _ (op_nNeD (units1 hr.units)) (@pvN _ 2 _ _ (by rfl) (by trivial) (by decide) (by decide)) (@pvN _ 1 _ _ (by rfl) (by trivial) (by decide) (by decide)) (nomark _))))) (@pss_one _ _ _ (@ps_ret _ _ _ _ (@pe_bl _ _ _ _))) (@pss_nil _)) (@pss_cons _ _ _ _ _ (@ps_for _ _ _ _ _ _ _ _ PassesOwn.never rfl (@pi_seq _ _ _ _ (@pvN _ 4 _ _ (by rfl) (by trivial) (by decide) (by decide))) (@pg_name _ _ (5) _ c_law.nd rfl (Or.inl rfl) (by trivial)) (@pss_one _ _ _ (@ps_expr _ _ _ _ (@pe_bm0 _ _ _ _ _ _ _ _ _ PySem.F.plainAttrs_list PySem.F.slot_list_clear PySem.F.type_list_clear mt_clear (@pe_ix _ _ _ _ _ _ _ ix_q (@pvN _ 5 _ _ (by rfl) (by trivial) (by decide) (by decide)) (@pe_int _ _ _ _) (fun _ _ => rfl)) (by rfl) (by rfl)) (by rfl))) (by intros; rfl)) (@pss_cons _ _ _ _ _ (@ps_expr _ _ _ _ (@pe_bm _ _ _ _ _ _ _ _ _ _ _ _ PySem.F.plainAttrs_list PySem.F.slot_list_append PySem.F.type_list_append mt_append (@pvN _ 4 _ _ (by rfl) (by trivial) (by decide) (by decide)) (@pa_c _ _ _ _ _ (@pe_non _ _ _) (@pa_nil _) (by rfl)) (by rfl) (by rfl) (by rfl) (by rfl) (by rfl)) (by rfl)) (@pss_cons _ _ _ _ _ (@ps_if _ _ _ _ _ _ _ _ (@pt_not _ _ _ _ (@pt_valN _ _ _ (@pe_call _ _ _ _ _ _ _ _ _ _ _ _ _ _ _ _ G__law_right (hr.mono (by decide)) (by rfl) T.m__law_right T.F__law_right.kp T.b__law_right .nil pass0 (@pa_c _ _ _ _ _ (@pe_call _ _ _ _ _ _ _ _ _ _ _ _ _ _ _ _ G_rings (hr.mono (by decide)) (by rfl) T.m_rings T.F_rings.kp T.b_rings .nil pass0 (@pa_c _ _ _ _ _ (@pvN _ 2 _ _ (by rfl) (by trivial) (by decide) (by decide)) (@pa_nil _) (by rfl)) (by decide) (by rfl) (by rfl)) (@pa_c _ _ _ _ _ (@pvN _ 3 _ _ (by rfl) (by trivial) (by decide) (by decide)) (@pa_nil _) (by rfl)) (by rfl)) (by decide) (by rfl) (by rfl)) (by intros; rfl))) (@pss_one _ _ _ (@ps_ret _ _ _ _ (@pe_bl _ _ _ _))) (@pss_nil _)) (@pss_cons _ _ _ _ _ (@ps_set _ _ (6) _ _ _ _ c_law.nd rfl (Or.inl rfl) (@pe_nDNew _ _) (by rfl) (by trivial)) (@pss_cons _ _ _ _ _ (@ps_thaw _ _ _ (@ps_for _ _ _ _ _ _ _ _ PassesOwn.never rfl (@pi_dict _ _ _ _ (@pvN _ 1 _ _ (by rfl) (by trivial) (by decide) (by decide))) (@pg_name _ _ (7) _ c_law.nd rfl (Or.inl rfl) (by trivial)) (@pss_one _ _ _ (@ps_if _ _ _ _ _ _ _ _ (@pt_cmpRN _ _ _ _ _ _ _ _ (op_qNe hr.units) (@pe_dget _ _ _ _ _ _ (units1 hr.units) (@pvN _ 1 _ _ (by rfl) (by trivial) (by decide) (by decide)) (@pvN _ 7 _ _ (by rfl) (by trivial) (by decide) (by decide)) (fun _ _ => rfl)) (@pe_callB _ _ _ _ _ _ _ ("min") _ (call_qMnF rfl) (by rfl) T.z_min (by decide +kernel) (@pa_c _ _ _ _ _ (@pvN _ 1 _ _ (by rfl) (by trivial) (by decide) (by decide)) (@pa_nil _) (by rfl)) (by decide) (by decide) (by rfl) (by rfl)) (nomark _)) (@pss_one _ _ _ (@ps_dput _ _ _ _ _ _ _ _ _ (units1 hr.units) (@pvN _ 6 _ _ (by rfl) (by trivial) (by decide) (by decide)) (@pvN _ 7 _ _ (by rfl) (by trivial) (by decide) (by decide)) (@pe_dget _ _ _ _ _ _ (units1 hr.units) (@pvN _ 1 _ _ (by rfl) (by trivial) (by decide) (by decide)) (@pvN _ 7 _ _ (by rfl) (by trivial) (by decide) (by decide)) (fun _ _ => rfl)) rfl)) (@pss_nil _))) (by intros; rfl))) (@pss_one _ _ _ (@ps_ret _ _ _ _ (@pe_andN _ _ _ _ _ _ _ (@pe_call _ _ _ _ _ _ _ _ _ _ _ _ _ _ _ _ G__law_right (hr.mono (by decide)) (by rfl) T.m__law_right T.F__law_right.kp T.b__law_right .nil pass0 (@pa_c _ _ _ _ _ (@pe_call _ _ _ _ _ _ _ _ _ _ _ _ _ _ _ _ G_rings (hr.mono (by decide)) (by rfl) T.m_rings T.F_rings.kp T.b_rings .nil pass0 (@pa_c _ _ _ _ _ (@pvN _ 6 _ _ (by rfl) (by trivial) (by decide) (by decide)) (@pa_nil _) (by rfl)) (by decide) (by rfl) (by rfl)) (@pa_c _ _ _ _ _ (@pe_call _ _ _ _ _ _ _ _ _ _ _ _ _ _ _ _ G__law_rings (hr.mono (by decide)) (by rfl) T.m__law_rings T.F__law_rings.kp T.b__law_rings .nil pass0 (@pa_c _ _ _ _ _ (@pvN _ 6 _ _ (by rfl) (by trivial) (by decide) (by decide)) (@pa_nil _) (by rfl)) (by decide) (by rfl) (by rfl)) (@pa_nil _) (by rfl)) (by rfl)) (by decide) (by rfl) (by rfl)) (@pe_one _ _ _ _ _ (@pe_cmpR _ _ _ _ _ _ _ _ (op_qEq hr.units) (@pe_call _ _ _ _ _ _ _ _ _ _ _ _ _ _ _ _ G_rings (hr.mono (by decide)) (by rfl) T.m_rings T.F_rings.kp T.b_rings .nil pass0 (@pa_c _ _ _ _ _ (@pe_nDNew _ _) (@pa_nil _) (by rfl)) (by decide) (by rfl) (by rfl)) (@pe_qLst _ _ _ _ (@pa_nil _)) (nomark _))))))))))))))))), ?_⟩
    rw [show start ["_law_script", "_law_found_here", "_law_handed", "_law_due", "_law_told", "_law_row", "_law_less", "_law_cell"] [.ref a] = [some (.ref a), none, none, none, none, none, none, none] from rfl]
    clear G__law_draw G__law_long G__law_long_due G__law_found G__law_rings G__law_right G_rings
    replace kk := fun (_ : Unit) => kk
    simp! only [and_true]
    rw [c_spDraw]
    refine ⟨hS, hl, ⟨by decide, by decide⟩, by decide, fun z z0 z1 => ?_⟩
    by_cases hz : z = 5
    · simp! only [and_true]
      rw [c_spLg]
      refine ⟨rfl, hS, hl, fun m x d H1 hm hx hd1 e1 h1 => ?_⟩
      have hS1 := e1.2 K a _ hS
      have hlen : (lng m (drawF ns 2 3) x (drawF ns 4 2)).length ≤ 4200 := by have := lng_len m (drawF ns 2 3) x (drawF ns 4 2); omega
      replace hlen := fun (_ : Unit) => hlen
      clear z0 z1 hz hS
      simp! only [and_true]
      refine use_dict h1 (len5000 (by rw [tab_len]; have := hlen (); omega)) ?_
      intro d2 H2 hd2 e2 h2
      have h1_2 := e2.at h1
      have hS2 := e2.2 K a _ hS1
      simp! only [and_true]
      rw [c_spRings]
      refine ⟨_, h2, lng_nd _ _ _ _, hlen (), lng_easy _ _ _ _, lng_few (drawF_nn ns 2 3 (by decide)).1 (by omega) hx, fun L r H3 hL e3 ra => ?_⟩
      have h1_3 := e3.at h1_2
      have hS3 := e3.2 K a _ hS2
      clear h1 h2 h1_2 hS1 hS2
      simp! only [and_true]
      rw [c_spLD]
      refine ⟨rfl, hS3, hl, m, x, h1_3, hm, hx, fun L2 r2 H4 hL2 e4 ra2 => ?_⟩
      obtain rfl := hL.eq hL2
      have hll := hL.len
      have hk := hlen ()
      clear h1_3 hS3
      simp! only [and_true]
      rw [c_spRt]
      refine ⟨L, ra.v.ext e4, ra2.v, fun p hp => Nat.le_trans (hll.2 p hp) hk, Nat.le_trans hll.1 hk, fun H5 e5 => ?_⟩
      have k' := kk () H5
      clear kk
      simp! only [and_true]
    · simp! only [and_true]
      rw [c_spFd]
      refine ⟨rfl, hS, hl, fun kv d H1 hnd h50 hd1 e1 h1 => ?_⟩
      replace hnd := fun (_ : Unit) => hnd
      clear z0 z1 hz hS
      simp! only [and_true]
      refine use_dict h1 (len5000 (by rw [tab_len]; omega)) ?_
      intro hn H2 hh2 e2 h2
      have h1_2 := e2.at h1
      simp! only [and_true]
      rw [c_spLR]
      refine ⟨kv, h1_2, hnd (), h50, fun L du H3 hL e3 ra => ?_⟩
      have h1_3 := e3.at h1_2
      have h2_3 := e3.at h2
      have hll := hL.len
      clear h1 h2 h1_2
      replace ra := fun (_ : Unit) => ra
      replace hL := fun (_ : Unit) => hL
      replace hll := fun (_ : Unit) => hll
      simp! only [and_true]
      rw [c_spRings]
      refine ⟨kv, h2_3, hnd (), by omega, .inl (by rw [List.length_map]; omega), few_short (by omega), fun L2 td H4 hL2 e4 ra2 => ?_⟩
      obtain rfl := (hL ()).eq hL2
      have h1_4 := e4.at h1_3
      have h2_4 := e4.at h2_3
      replace ra2 := fun (_ : Unit) => ra2
      clear hL2
      simp! only [and_true]
      rw [c_spRt]
      refine ⟨L, (ra2 ()).v, (ra ()).v.ext e4, fun p hp => by have := (hll ()).2 p hp; omega, by have := (hll ()).1; omega, fun H5 e5 => ?_⟩
      have h1_5 := e5.at h1_4
      have h2_5 := e5.at h2_4
      clear h1_4 h2_4
      simp! only [and_true]
      refine use_neD h2_5 h1_5 (tab_int kv) (tab_nd (hnd ())) ?_
      simp! only [and_true]
      obtain ⟨ys, ht4, htn, al4⟩ := ra2 ()
      have t5 := e5.at ht4
      have e35 := e4.trans e5
      have ro5 : ∀ y ∈ ys, ∃ q l b xs, y = .ref q ∧ H5 q = some (.tup [.ref l, b]) ∧ H5 l = some (.lst xs) ∧ H3 l = none ∧ l ≠ td := fun y hy => by
        obtain ⟨i, hi, rfl⟩ := List.getElem_of_mem hy
        have hi2 : i < L.length := by rw [← al4.1]; exact hi
        obtain ⟨q, l, a1, a2, a3, a4, a5⟩ := al4.2 i L[i] ys[i] (List.getElem?_eq_getElem hi2) (List.getElem?_eq_getElem hi)
        exact ⟨q, l, _, _, a1, e5.at a2, e5.at a3, a4, a5⟩
      have hyl : ys.length ≤ 50 := by rw [al4.1]; have := (hll ()).1; omega
      replace ro5 := fun (_ : Unit) => ro5
      clear h1_5 h2_5 ht4 al4
      simp! only [and_true]
      refine for_lst (xs := ys) (fun i σ H' => ∃ v5 : Option V, σ = [some (.ref a), some (.ref d), some (.ref hn), some (.ref du), some (.ref td), v5, none, none] ∧ Ext H3 H' ∧ H' td = some (.lst ys) ∧ ∀ y ∈ ys, ∃ q l b xs, y = .ref q ∧ H' q = some (.tup [.ref l, b]) ∧ H' l = some (.lst xs) ∧ H3 l = none ∧ l ≠ td) ⟨none, rfl, e35, t5, ro5 ()⟩ (fun i σ H' _ ⟨_, _, _, q, _⟩ => q) ?_ ?_
      · rintro i y _ H6 hy ⟨v5, rfl, e6, t6, ro6⟩
        obtain ⟨q, l, b, xs, rfl, hq6, hl6, hl3, nlt⟩ := ro6 _ (List.mem_of_getElem? hy)
        have ro7 : ∀ y ∈ ys, ∃ q l' b xs, y = .ref q ∧ upd H6 l (.lst []) q = some (.tup [.ref l', b]) ∧ upd H6 l (.lst []) l' = some (.lst xs) ∧ H3 l' = none ∧ l' ≠ td := fun y' hy' => by
          obtain ⟨q', l', b', xs', a1, a2, a3, a4, a5⟩ := ro6 y' hy'
          have n1 : q' ≠ l := fun z => by rw [z, hl6] at a2; cases a2
          by_cases e : l' = l
          · exact ⟨q', l', b', [], a1, by rw [upd_ne n1]; exact a2, by rw [e]; exact upd_same, a4, a5⟩
          · exact ⟨q', l', b', xs', a1, by rw [upd_ne n1]; exact a2, by rw [upd_ne e]; exact a3, a4, a5⟩
        replace ro7 := fun (_ : Unit) => ro7
        clear hy t5 ro6
        simp! only [and_true]
        exact ⟨_, rfl, e6.put hl3, by rw [upd_ne (Ne.symm nlt)]; exact t6, ro7 ()⟩
      · rintro _ H6 ⟨v5, rfl, e6, t6, _⟩
        clear t5 ro5
        simp! only [and_true]
        refine ⟨lt5000 (by omega), ?_⟩
        have e7 : Ext H3 (upd H6 td (.lst (ys ++ [V.non]))) := e6.put htn
        generalize upd H6 td (.lst (ys ++ [V.non])) = H7 at e7
        have h1_7 := e7.at h1_3
        have h2_7 := e7.at h2_3
        clear t6
        rw [c_spRings]
        refine ⟨kv, h2_7, hnd (), by omega, .inl (by rw [List.length_map]; omega), few_short (by omega), fun L3 r3 H8 hL3 e8 ra3 => ?_⟩
        obtain rfl := (hL ()).eq hL3
        have h1_8 := e8.at h1_7
        replace ra3 := fun (_ : Unit) => ra3
        clear hL3 h2_7 h1_7
        simp! only [and_true]
        rw [c_spRt]
        refine ⟨L, (ra3 ()).v, (ra ()).v.ext (e7.trans e8), fun p hp => by have := (hll ()).2 p hp; omega, by have := (hll ()).1; omega, fun H9 e9 => ?_⟩
        have h1_9 := e9.at h1_8
        clear h1_8 h1_3 h2_3
        simp! only [and_true]
        intro ls H10 hl10 e10 h10
        have d10 := e10.at h1_9
        have nld : ls ≠ d := fun z => by rw [z, h1_9] at hl10; cases hl10
        clear ra ra2 ra3 hL hll e1 e2 e3 e4 e5 e6 e7 e8 e9 e35 hd1 hh2
        simp! only [and_true]
        refine for_dict (fun ob i σ H' => ∃ (v7 : Option V) (kl : List (Int × Int)), σ = [some (.ref a), some (.ref d), some (.ref hn), some (.ref du), some (.ref td), v5, some (.ref ls), v7] ∧ Ext (upd H9 d (.frz ob (.dK (tabI kv)))) H' ∧ H' ls = some (.dK (tabI kl)) ∧ TdI i kl) d10 (fun ob => ⟨none, [], rfl, ext_upd e10 _ _, by rw [upd_ne nld]; exact h10, ⟨List.nodup_nil, Nat.zero_le _⟩⟩) (fun ob i σ' H' ⟨_, _, _, e, _⟩ => e.at upd_same) ?_ ?_
        · rintro ob i z _ H11 hz ⟨v7, kl, rfl, e11, l11, td11⟩ f11
          obtain ⟨y, hy, rfl⟩ : ∃ y, kv[i]? = some y ∧ z = ((Sum.inl y.1 : Key), V.int y.2) := by
            unfold tabI at hz
            rw [List.getElem?_map] at hz
            obtain ⟨y, h1, h2⟩ := Option.map_eq_some_iff.mp hz
            exact ⟨y, h1, h2.symm⟩
          have hvv : valV (tabI kv) (.inl y.1) = some (.int y.2) := by rw [val_tab, look_of (hnd ()) (show (y.1, y.2) ∈ kv from List.mem_of_getElem? hy)]; rfl
          have hil : i < kv.length := (List.getElem?_eq_some_iff.mp hy).1
          have hl5 : (tabI kl).length < sizeLine := lt5000 (by rw [tab_len]; have := td11.len; omega)
          have hlu : upd H9 d (.frz ob (.dK (tabI kv))) ls = none := by rw [upd_ne nld]; exact hl10
          obtain ⟨c, v⟩ := y
          have td12 := td11.put c v
          have td13 : TdI (i + 1) kl := ⟨td11.nd, Nat.le_succ_of_le td11.len⟩
          rw [show kV ((Sum.inl (c, v).1 : Key), V.int (c, v).2).1 = V.int c from rfl]
          replace td12 := fun (_ : Unit) => td12
          replace td13 := fun (_ : Unit) => td13
          clear hz hy d10 h10 kk td11
          simp! only [and_true]
          refine use_dgF (k := .inl c) f11 hvv ?_
          simp! only [and_true]
          refine use_mnF (.inr ⟨ob, f11⟩) (tab_keys kv) (by rw [List.length_map]; omega) fun M _ _ => ?_
          by_cases hM : v = M
          · simp! only [and_true]
            exact ⟨_, kl, rfl, e11, rfl, td13 ()⟩
          · simp! only [and_true]
            refine use_dgF (k := .inl c) f11 hvv ?_
            simp! only [and_true]
            refine use_dp (k := .inl c) l11 hl5 ?_
            rw [put_tabI]
            exact ⟨_, _, rfl, e11.put hlu, upd_same, td12 ()⟩
        · rintro ob _ H11 ⟨v7, kl, rfl, e11, l11, td11⟩
          rw [tab_len] at td11
          have l12 : upd H11 d (.dK (tabI kv)) ls = some (.dK (tabI kl)) := by rw [upd_ne nld]; exact l11
          generalize upd H11 d (.dK (tabI kv)) = H12 at l12
          have hk50 : kl.length ≤ 50 := by have := td11.len; omega
          replace td11 := fun (_ : Unit) => td11
          clear d10 h10
          simp! only [and_true]
          rw [c_spRings]
          refine ⟨kl, l12, (td11 ()).nd, by omega, .inl (by rw [List.length_map]; omega), few_short (by omega), fun L4 r4 H13 hL4 e13 ra4 => ?_⟩
          have l13 := e13.at l12
          replace ra4 := fun (_ : Unit) => ra4
          replace hL4 := fun (_ : Unit) => hL4
          clear l12
          simp! only [and_true]
          rw [c_spLR]
          refine ⟨kl, l13, (td11 ()).nd, hk50, fun L5 r5 H14 hL5 e14 ra5 => ?_⟩
          obtain rfl := (hL4 ()).eq hL5
          have hll := (hL4 ()).len
          replace ra5 := fun (_ : Unit) => ra5
          replace hll := fun (_ : Unit) => hll
          clear hL5 l13
          simp! only [and_true]
          rw [c_spRt]
          refine ⟨L4, (ra4 ()).v.ext e14, (ra5 ()).v, fun p hp => by have := (hll ()).2 p hp; omega, by have := (hll ()).1; omega, fun H15 e15 => ?_⟩
          simp! only [and_true]
          intro em H16 hem e16 h16
          simp! only [and_true]
          rw [c_spRings]
          refine ⟨[], h16, List.nodup_nil, by simp, .inl (by simp), few_short (by simp), fun L6 r6 H17 hL6 e17 ra6 => ?_⟩
          obtain rfl := rings_nil hL6
          obtain ⟨ys6, h17, _, al6⟩ := ra6
          have hy6 : ys6 = [] := List.eq_nil_of_length_eq_zero al6.1
          subst hy6
          clear h16 al6
          simp! only [and_true]
          intro q7 H18 hq18 e18 h18
          have h17_18 := e18.at h17
          have k' := kk () H18
          clear kk h17
          simp! only [and_true]
end
theorem all_mk {l : PySem.W.OpenLaw} {w : World} {K : PySem.W.Frag} {h : Heap} {mg : Str → Option Value} {fa : Addr} (X : K.In h) (G : h.Ns mainGlobals mg) (hfa : mg "law" = some (.ref fa))
    {f0 : Addr} {d0 : FuncData} (a0 : PySem.W.nsIn K mainGlobals "ring_from" = some (some (.ref f0))) (F0 : Fun K "ring_from" "ring_from" s_ring_from f0 d0)
    {f1 : Addr} {d1 : FuncData} (a1 : PySem.W.nsIn K mainGlobals "least_first" = some (some (.ref f1))) (F1 : Fun K "least_first" "least_first" s_least_first f1 d1)
    {f2 : Addr} {d2 : FuncData} (a2 : PySem.W.nsIn K mainGlobals "drawn_from_beyond" = some (some (.ref f2))) (F2 : Fun K "drawn_from_beyond" "drawn_from_beyond" s_drawn_from_beyond f2 d2)
    {f3 : Addr} {d3 : FuncData} (a3 : PySem.W.nsIn K mainGlobals "rings" = some (some (.ref f3))) (F3 : Fun K "rings" "rings" s_rings f3 d3)
    {f4 : Addr} {d4 : FuncData} (a4 : PySem.W.nsIn K mainGlobals "first_cell" = some (some (.ref f4))) (F4 : Fun K "first_cell" "first_cell" s_first_cell f4 d4)
    {f5 : Addr} {d5 : FuncData} (a5 : PySem.W.nsIn K mainGlobals "_law_draw" = some (some (.ref f5))) (F5 : Fun K "_law_draw" "_law_draw" s__law_draw f5 d5)
    {f6 : Addr} {d6 : FuncData} (a6 : PySem.W.nsIn K mainGlobals "_law_whole" = some (some (.ref f6))) (F6 : Fun K "_law_whole" "_law_whole" s__law_whole f6 d6)
    {f7 : Addr} {d7 : FuncData} (a7 : PySem.W.nsIn K mainGlobals "_law_names" = some (some (.ref f7))) (F7 : Fun K "_law_names" "_law_names" s__law_names f7 d7)
    {f8 : Addr} {d8 : FuncData} (a8 : PySem.W.nsIn K mainGlobals "_law_blocks" = some (some (.ref f8))) (F8 : Fun K "_law_blocks" "_law_blocks" s__law_blocks f8 d8)
    {f9 : Addr} {d9 : FuncData} (a9 : PySem.W.nsIn K mainGlobals "_law_found" = some (some (.ref f9))) (F9 : Fun K "_law_found" "_law_found" s__law_found f9 d9)
    {f10 : Addr} {d10 : FuncData} (a10 : PySem.W.nsIn K mainGlobals "_law_rings" = some (some (.ref f10))) (F10 : Fun K "_law_rings" "_law_rings" s__law_rings f10 d10)
    {f11 : Addr} {d11 : FuncData} (a11 : PySem.W.nsIn K mainGlobals "_law_long" = some (some (.ref f11))) (F11 : Fun K "_law_long" "_law_long" s__law_long f11 d11)
    {f12 : Addr} {d12 : FuncData} (a12 : PySem.W.nsIn K mainGlobals "_law_long_ring" = some (some (.ref f12))) (F12 : Fun K "_law_long_ring" "_law_long_ring" s__law_long_ring f12 d12)
    {f13 : Addr} {d13 : FuncData} (a13 : PySem.W.nsIn K mainGlobals "_law_long_due" = some (some (.ref f13))) (F13 : Fun K "_law_long_due" "_law_long_due" s__law_long_due f13 d13)
    {f14 : Addr} {d14 : FuncData} (a14 : PySem.W.nsIn K mainGlobals "_law_right" = some (some (.ref f14))) (F14 : Fun K "_law_right" "_law_right" s__law_right f14 d14)
    {f15 : Addr} {od15 an15 : Option Addr} {sl15 : Array (Option Value)} {oc15 kV15 dc15 pm15 cd15 ct15 : Value}
    (a15 : PySem.W.nsIn K mainGlobals "law" = some (some (.ref f15))) (l15 : K.lookup f15 = some ⟨oc15, od15, .func (PySem.W.fnOf "law" "law" (defArgs s_law) (defBody s_law) (defScope s_law) .none kV15 dc15 pm15 an15 cd15 ct15), sl15⟩) 
    (c15 : PySem.W.codeIn K cd15 "law" = true) (k15 : PySem.W.keepIn K (.ref f15) = true)
    (z0 : PySem.W.nsIn K mainGlobals "any" = some none)
    (z1 : PySem.W.nsIn K mainGlobals "bool" = some none)
    (z2 : PySem.W.nsIn K mainGlobals "dict" = some none)
    (z3 : PySem.W.nsIn K mainGlobals "int" = some none)
    (z4 : PySem.W.nsIn K mainGlobals "isinstance" = some none)
    (z5 : PySem.W.nsIn K mainGlobals "len" = some none)
    (z6 : PySem.W.nsIn K mainGlobals "list" = some none)
    (z7 : PySem.W.nsIn K mainGlobals "min" = some none)
    (z8 : PySem.W.nsIn K mainGlobals "range" = some none)
    (z9 : PySem.W.nsIn K mainGlobals "sorted" = some none)
    (z10 : PySem.W.nsIn K mainGlobals "tuple" = some none)
    : ∃ fd : FuncData, (∀ (s : Shared) (v : Value), BindsTo s fd ⟨[v], []⟩ [("_law_script", v)]) ∧ ∀ base : Heap, K.In base → base.Ns mainGlobals mg → FnOk l.prog w K mg base CX0 5 fa fd ["_law_script"] (spLaw K) := by
  have e := hfa.symm.trans (PySem.W.mg_of X G a15)
  cases e
  have F15 := fun_mk (st := s_law) l15 c15 k15
  have T : Tx K mg ⟨f0, _, f1, _, f2, _, f3, _, f4, _, f5, _, f6, _, f7, _, f8, _, f9, _, f10, _, f11, _, f12, _, f13, _, f14, _, fa, _⟩ := ⟨F0, PySem.W.mg_of X G a0, F0.binds (ps := ["found", "start", "walked"]) (fun _ _ _ _ _ _ => len3 (fun _ _ _ => rfl)), F1, PySem.W.mg_of X G a1, F1.binds (ps := ["ring"]) (fun _ _ _ _ _ _ => len1 (fun _ => rfl)), F2, PySem.W.mg_of X G a2, F2.binds (ps := ["found", "ring_of"]) (fun _ _ _ _ _ _ => len2 (fun _ _ => rfl)), F3, PySem.W.mg_of X G a3, F3.binds (ps := ["found"]) (fun _ _ _ _ _ _ => len1 (fun _ => rfl)), F4, PySem.W.mg_of X G a4, F4.binds (ps := ["ring"]) (fun _ _ _ _ _ _ => len1 (fun _ => rfl)), F5, PySem.W.mg_of X G a5, F5.binds (ps := ["_law_script", "_law_k", "_law_many"]) (fun _ _ _ _ _ _ => len3 (fun _ _ _ => rfl)), F6, PySem.W.mg_of X G a6, F6.binds (ps := ["_law_found_here"]) (fun _ _ _ _ _ _ => len1 (fun _ => rfl)), F7, PySem.W.mg_of X G a7, F7.binds (ps := ["_law_script"]) (fun _ _ _ _ _ _ => len1 (fun _ => rfl)), F8, PySem.W.mg_of X G a8, F8.binds (ps := ["_law_script", "_law_many"]) (fun _ _ _ _ _ _ => len2 (fun _ _ => rfl)), F9, PySem.W.mg_of X G a9, F9.binds (ps := ["_law_script"]) (fun _ _ _ _ _ _ => len1 (fun _ => rfl)), F10, PySem.W.mg_of X G a10, F10.binds (ps := ["_law_found_here"]) (fun _ _ _ _ _ _ => len1 (fun _ => rfl)), F11, PySem.W.mg_of X G a11, F11.binds (ps := ["_law_script"]) (fun _ _ _ _ _ _ => len1 (fun _ => rfl)), F12, PySem.W.mg_of X G a12, F12.binds (ps := ["_law_found_here", "_law_cell"]) (fun _ _ _ _ _ _ => len2 (fun _ _ => rfl)), F13, PySem.W.mg_of X G a13, F13.binds (ps := ["_law_script", "_law_found_here"]) (fun _ _ _ _ _ _ => len2 (fun _ _ => rfl)), F14, PySem.W.mg_of X G a14, F14.binds (ps := ["_law_told", "_law_due"]) (fun _ _ _ _ _ _ => len2 (fun _ _ => rfl)), F15, PySem.W.mg_of X G a15, F15.binds (ps := ["_law_script"]) (fun _ _ _ _ _ _ => len1 (fun _ => rfl)), PySem.W.mg_none_of X G z0, PySem.W.mg_none_of X G z1, PySem.W.mg_none_of X G z2, PySem.W.mg_none_of X G z3, PySem.W.mg_none_of X G z4, PySem.W.mg_none_of X G z5, PySem.W.mg_none_of X G z6, PySem.W.mg_none_of X G z7, PySem.W.mg_none_of X G z8, PySem.W.mg_none_of X G z9, PySem.W.mg_none_of X G z10⟩
  exact ⟨PySem.W.fnOf "law" "law" (defArgs s_law) (defBody s_law) (defScope s_law) .none kV15 dc15 pm15 an15 cd15 ct15, fun s v => .of_eq rfl, fun base _ _ => ok_law T⟩
theorem walk {l : PySem.W.OpenLaw} {q : Program} {loose : List Str} {XP : (Str → Option Value) → Heap → Prop} {YP : World → Heap → Prop} {d : DefRec} {K : Params → PySem.W.Frag} (hn : l.most = some 63) (hdf : d.params.defaults = [])
    (hY : ∀ (w : World) (h : Heap), YP w h → (K w.params).In h)
    (F : ∀ (w : World) (mg : Str → Option Value) (fa : Addr) (h : Heap), (K w.params).In h → h.Ns mainGlobals mg → mg d.name = some (.ref fa) →
      ∃ fd : FuncData, (∀ (s : Shared) (u : Value), BindsTo s fd ⟨[u], []⟩ [("_law_script", u)]) ∧ ∀ base : Heap, (K w.params).In base → base.Ns mainGlobals mg → FnOk l.prog w (K w.params) mg base CX0 5 fa fd ["_law_script"] (spLaw (K w.params))) :
    PySem.W.WalkO q loose XP YP l.row.toRowW d [] (fun f vs => PySem.call f vs) :=
  L2.walk_of (n := 63) (k := 5) (x := "_law_script") (CX := fun _ => CX0) (sp := fun w => spLaw (K w.params)) hn (by decide) hdf ⟨rfl, by decide, by decide⟩ hY F (fun _ _ a ns hl _ hS => ⟨a, rfl, ns, hS, hl, fun _ => rfl⟩) fun _ _ _ _ _ z => z
end PH
namespace PySem.W.Fast
def tw9133516193433527698 := 0
def tw7562021263438575005 := 0
def tw8396588659712512535 := 0
def tw17142497688834739835 := 0
def tw3784310203955231119 := 0
def tw14193487012518521417 := 0
def tw1337951434569204013 := 0
def tw6239869687332736384 := 0
def tw5367738420731643776 := 0
def tw295877604907096442 := 0
def tw15757339835751326166 := 0
def tw4133388271213934027 := 0
def tw8486298462579525865 := 0
def tw5497070724303287855 := 0
def tw4893905224036970015 := 0
def tw16607492768252451828 := 0
def tw8440115146300098111 := 0
def tw12274066036860682330 := 0
def tw14069643667588857765 := 0
def tw10406662904457710518 := 0
def tw6443516180926564961 := 0
def tw17522676957929218818 := 0
def tw6338979415512860334 := 0
def tw17134485496563541854 := 0
def tw15106925769779280591 := 0
def tw16142174741647408987 := 0
def tw10485721424701724350 := 0
def tw4644942232620266511 := 0
def tw3754958485445449346 := 0
def tw10873272476235236583 := 0
def tw3019690342749880490 := 0
def tw4437202303100470250 := 0
def tw7408416317591816980 := 0
def tw10097231094272823335 := 0
def tw9070307560531817311 := 0
def tw13675799866861433124 := 0
def tw7580905608365186191 := 0
def tw9523375770941499617 := 0
end PySem.W.Fast
open PySem PySem.W PyProof.Rows
set_option maxRecDepth 100000 in
set_option maxHeartbeats 0 in
theorem PySem.Challenge.cw_pacehall_k64_rings_of_cells_holds : PySem.Challenge.rw_pacehall_k64_rings_of_cells.Holds := by
  w_on; o_law; k_head; (case hw => w_witness2)
  k_fill
  refine PH.walk (l := PySem.Challenge.rw_pacehall_k64_rings_of_cells) rfl rfl (fun w h Y => PySem.W.kIn_of Y) ?F
  case F =>
    intro w mg fa h KX G hmg
    refine' PH.all_mk KX G hmg ?a0 ?F0 ?a1 ?F1 ?a2 ?F2 ?a3 ?F3 ?a4 ?F4 ?a5 ?F5 ?a6 ?F6 ?a7 ?F7 ?a8 ?F8 ?a9 ?F9 ?a10 ?F10 ?a11 ?F11 ?a12 ?F12 ?a13 ?F13 ?a14 ?F14 ?a15 ?l15 ?c15 ?k15 ?z0 ?z1 ?z2 ?z3 ?z4 ?z5 ?z6 ?z7 ?z8 ?z9 ?z10
    (case a0 | a1 | a2 | a3 | a4 | a5 | a6 | a7 | a8 | a9 | a10 | a11 => first | k_is | k_exc | kts_exm | decide | rfl | decide +kernel | kernel_rfl)
    (case a12 | a13 | a14 | a15 => first | k_is | k_exc | kts_exm | decide | rfl | decide +kernel | kernel_rfl)
    (case F0 | F1 | F2 | F3 | F4 | F5 | F6 | F7 | F8 | F9 | F10 | F11 => (refine' L2.fun_mk ?l ?c ?k; (case l | c | k => first | k_is | k_exc | kts_exm | decide | rfl | decide +kernel | kernel_rfl)))
    (case F12 | F13 | F14 => (refine' L2.fun_mk ?l ?c ?k; (case l | c | k => first | k_is | k_exc | kts_exm | decide | rfl | decide +kernel | kernel_rfl)))
    (case l15 | c15 | k15 | z0 | z1 | z2 | z3 | z4 | z5 | z6 | z7 | z8 => first | k_is | k_exc | kts_exm | decide | rfl | decide +kernel | kernel_rfl)
    (case z9 | z10 => first | k_is | k_exc | kts_exm | decide | rfl | decide +kernel | kernel_rfl)
#print axioms PySem.Challenge.cw_pacehall_k64_rings_of_cells_holds
