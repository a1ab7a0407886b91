import PyProof.Rows.All
import Wide.All
import OpenK.AllK
import Wide.FinOn
import Lean
import PyProof.EqAt
import PyProof.EqKinds
import PyProof.TupleCall
import PySem.Challenge.RW_pacehall_k52_cases
-- CHANGE: your row's module here, as the last of these rows
set_option Elab.async false
set_option linter.all false
set_option maxRecDepth 100000
namespace L2
open PySem PySem.Spec PyProof.Rows
abbrev Key := Sum Int Str
def keyIs : Key → Value → Bool
  | .inl k, v => Value.isInt k v
  | .inr x, v => Value.isStrOf x v
def keyH (w : World) : Key → Int
  | .inl k => hashInt k
  | .inr x => hashStr w x
theorem keyIs_shape : ∀ {k : Key} {v : Value}, keyIs k v = true → (∃ i t, k = Sum.inl i ∧ v = Value.int i t) ∨ (∃ x t, k = Sum.inr x ∧ v = Value.str x t)
  | .inl i, v, h => by
    obtain ⟨t, e⟩ := Value.isInt_shape (k := i) (v := v) h
    exact .inl ⟨i, t, rfl, e⟩
  | .inr x, v, h => by
    obtain ⟨t, e⟩ := Value.isStrOf_shape (x := x) (v := v) h
    exact .inr ⟨x, t, rfl, e⟩
theorem keyIs_int (i : Int) (t : Tok) : keyIs (.inl i) (.int i t) = true := by simp [keyIs, Value.isInt]
theorem keyIs_str (x : Str) (t : Tok) : keyIs (.inr x) (.str x t) = true := by simp [keyIs, Value.isStrOf]
theorem key_ll (a b : Int) : decide ((Sum.inl a : Key) = Sum.inl b) = (a == b) := by
  by_cases e : a = b
  · subst e; simp
  · have h : ¬ (Sum.inl a : Key) = Sum.inl b := fun q => e (Sum.inl.inj q)
    rw [decide_eq_false h]
    exact (beq_eq_false_iff_ne.mpr e).symm
theorem key_rr (a b : Str) : decide ((Sum.inr a : Key) = Sum.inr b) = decide (a = b) := by
  by_cases e : a = b
  · subst e; simp
  · have h : ¬ (Sum.inr a : Key) = Sum.inr b := fun q => e (Sum.inr.inj q)
    rw [decide_eq_false h, decide_eq_false e]
theorem key_lr (a : Int) (b : Str) : decide ((Sum.inl a : Key) = Sum.inr b) = false := decide_eq_false (fun q => nomatch q)
theorem key_rl (a : Str) (b : Int) : decide ((Sum.inr a : Key) = Sum.inl b) = false := decide_eq_false (fun q => nomatch q)
def mixKind (prog : Program) (w : World) : PySem.KeyKind prog w Key where
  is := keyIs
  hash := keyH w
  inj := fun v a b ha hb => by
    rcases keyIs_shape ha with ⟨i, t, rfl, rfl⟩ | ⟨x, t, rfl, rfl⟩
    · rcases keyIs_shape hb with ⟨j, u, rfl, e⟩ | ⟨y, u, rfl, e⟩
      · injection e with e1 _; rw [e1]
      · exact nomatch e
    · rcases keyIs_shape hb with ⟨j, u, rfl, e⟩ | ⟨y, u, rfl, e⟩
      · exact nomatch e
      · injection e with e1 _; rw [e1]
  byValue := fun k v h => by
    rcases keyIs_shape h with ⟨i, t, rfl, rfl⟩ | ⟨x, t, rfl, rfl⟩ <;> rfl
  pyHash := fun hv h => by
    rcases keyIs_shape hv with ⟨i, t, rfl, rfl⟩ | ⟨x, t, rfl, rfl⟩
    · exact wpAny_pyHash_int h
    · exact wpAny_pyHash_str h
  eqBool := fun hu hv h => by
    rcases keyIs_shape hu with ⟨i, t, rfl, rfl⟩ | ⟨x, t, rfl, rfl⟩
    · rcases keyIs_shape hv with ⟨j, u, rfl, rfl⟩ | ⟨y, u, rfl, rfl⟩
      · rw [key_ll] at h; exact wpAny_eqBool_int h
      · rw [key_lr] at h; exact SeqAt.EqAt.int_str i t y u _ _ _ _ h
    · rcases keyIs_shape hv with ⟨j, u, rfl, rfl⟩ | ⟨y, u, rfl, rfl⟩
      · rw [key_rl] at h; exact SeqAt.EqAt.str_int x t j u _ _ _ _ h
      · rw [key_rr] at h; exact wpAny_eqBool_str h
  «strs» := fun k x t v h => by
    rcases keyIs_shape h with ⟨i, u, rfl, e⟩ | ⟨y, u, rfl, e⟩
    · exact nomatch e
    · injection e with e1 _
      subst e1
      cases v <;> rfl
theorem mixKind_int (prog : Program) (w : World) (i : Int) (t : Tok) : (mixKind prog w).is (.inl i) (.int i t) = true := keyIs_int i t
theorem mixKind_str (prog : Program) (w : World) (x : Str) (t : Tok) : (mixKind prog w).is (.inr x) (.str x t) = true := keyIs_str x t
end L2
namespace L2
open PySem PySem.Spec PyProof.Rows
inductive V where
  | non | bl (b : Bool) | int (i : Int) | str (x : Str) | byt (b : Array UInt8) | flt (b : UInt64) | ref (a : Addr) | ty (n : String)
  deriving DecidableEq
def RelV : V → Value → Prop
  | .non, u => u = Value.none
  | .bl b, u => u = Value.bool b
  | .int i, u => ∃ t, u = Value.int i t
  | .str x, u => ∃ t, u = Value.str x t
  | .byt b, u => ∃ t, u = Value.bytes b t
  | .flt b, u => ∃ t, u = Value.float b t
  | .ref a, u => u = Value.ref a
  | .ty n, u => u = Value.type n
abbrev Vals : List V → List Value → Prop := Paired RelV
theorem Vals.length {xs : List V} {us : List Value} (r : Vals xs us) : xs.length = us.length := Paired.length r
theorem Vals.get : ∀ {xs : List V} {us : List Value} {i : Nat} {x : V}, Vals xs us → xs[i]? = some x → ∃ u, us[i]? = some u ∧ RelV x u
  | _, _, _, _, .nil, e => by simp at e
  | _, _, 0, _, .cons r _, e => by simp at e; subst e; exact ⟨_, rfl, r⟩
  | _, _, i + 1, x, .cons _ t, e => by
    obtain ⟨u, h1, h2⟩ := Vals.get (i := i) (x := x) t (by simpa using e)
    exact ⟨u, by simpa using h1, h2⟩
theorem Vals.append : ∀ {xs ys : List V} {us ws : List Value}, Vals xs us → Vals ys ws → Vals (xs ++ ys) (us ++ ws)
  | _, _, _, _, .nil, s => s
  | _, _, _, _, .cons r t, s => .cons r (Vals.append t s)
theorem Vals.take : ∀ {xs : List V} {us : List Value} (n : Nat), Vals xs us → Vals (xs.take n) (us.take n)
  | _, _, 0, _ => .nil
  | _, _, _ + 1, .nil => .nil
  | _, _, n + 1, .cons r t => .cons r (Vals.take n t)
theorem Vals.drop : ∀ {xs : List V} {us : List Value} (n : Nat), Vals xs us → Vals (xs.drop n) (us.drop n)
  | _, _, 0, r => r
  | _, _, _ + 1, .nil => .nil
  | _, _, n + 1, .cons _ t => Vals.drop n t
def RelO : Option V → Option Value → Prop
  | some v, some u => RelV v u
  | none, none => True
  | _, _ => False
def KV {κ : Type} : List (κ × V) → List (κ × Value) → Prop := Paired fun (p : κ × V) (q : κ × Value) => p.1 = q.1 ∧ RelV p.2 q.2
def kV : Key → V
  | .inl i => .int i
  | .inr x => .str x
inductive HO where
  | lst (xs : List V)
  | tup (xs : List V)
  | dK (kvs : List (Key × V)) | dT (kvs : List (List Key × V))
  | set (S : Int → Bool) (n : Nat)
  | ins (C dx : Addr) (fs : List (Str × V))
  | own (x : Addr)
  | xd (fs : List (Str × V))
  | met (f x : Addr)
  | rng (lo hi : Int)
  | frz (o : Obj) (u : HO)
  | tbl (ps : Array Value)
  | ext (φ : Heap → Prop)
abbrev Hp := Addr → Option HO
def upd (H : Hp) (a : Addr) (o : HO) : Hp := fun b => if b = a then some o else H b
theorem upd_same {H : Hp} {a : Addr} {o : HO} : upd H a o a = some o := by unfold upd; rw [if_pos rfl]
theorem upd_ne {H : Hp} {a b : Addr} {o : HO} (h : b ≠ a) : upd H a o b = H b := by unfold upd; rw [if_neg h]
theorem ne_of {H : Hp} {a b : Addr} {o u : HO} (h : H a = some o) (h' : H b = some u) (d : o ≠ u) : a ≠ b := by
  intro e; subst e; rw [h] at h'; exact d (Option.some.inj h')
theorem ne_of_none {H : Hp} {a b : Addr} {o : HO} (h : H a = some o) (h' : H b = none) : a ≠ b := by
  intro e; subst e; rw [h] at h'; cases h'
section
variable (P : Program) (w : World)
def ObjOk (H : Hp) (h : Heap) (a : Addr) : HO → Prop
  | .lst xs => xs.length ≤ sizeLine ∧ ∃ (its : List Value) (n : Nat), Vals xs its ∧ h.get? a = some { cls := .type "list", data := .seq its.toArray n }
  | .tup xs => xs.length ≤ sizeLine ∧ ∃ its : List Value, Vals xs its ∧ IsTup h a its.toArray
  | .dK kvs => kvs.length ≤ sizeLine ∧ (a == sysModules) = false ∧ ∃ vs, KV kvs vs ∧ h.DictOf (mixKind P w) a vs
  | .dT kvs => kvs.length ≤ sizeLine ∧ (a == sysModules) = false ∧ ∃ xs : List (List Key × Addr × Value),
      Paired (fun (p : List Key × V) (q : List Key × Addr × Value) => p.1 = q.1 ∧ H q.2.1 = some (.tup (p.1.map kV)) ∧ RelV p.2 q.2.2) kvs xs ∧
      ∃ o es ep, h.get? a = some o ∧ o.ExactDict ∧ o.data = .dict es ep ∧ es.toList = xs.map (entryOfKey (tupleKind (mixKind P w))) ∧ (xs.map (·.1)).Nodup
  | .set S n => h.SetOf (intKind P w) a S n
  | .ins C dx fs => H dx = some (.own a) ∧ fs.length ≤ 1000 ∧ dx ≠ a ∧ h.get? a = some (PySem.W.instObj C dx) ∧
      ∃ mA, h.Ns1 dx mA ∧ (∀ f, RelO (fs.lookup f) (mA f)) ∧ PySem.Within mA (fs.map (·.1))
  | .own _ => ∃ o, h.get? a = some o
  | .xd fs => ∃ mA, h.Ns1 a mA ∧ ∀ f, RelO (fs.lookup f) (mA f)
  | .rng lo hi => ∃ t u v, h.get? a = some { cls := .type "range", data := .fields #[.int lo t, .int hi u, .int 1 v] }
  | .frz o u => h.get? a = some o ∧ ObjOk H h a u
  | .tbl ps => h.get? a = some { cls := .none, data := .fields ps }
  | .met f x => h.get? a = some (PySem.W.methodObj (.ref f) (.ref x))
  | .ext φ => φ h ∧ (∃ o, h.get? a = some o) ∧ ∀ h1 h2 : Heap, φ h1 → (∀ o, h1.get? a = some o → h2.get? a = some o) → φ h2
def HOk (H : Hp) (h : Heap) : Prop := ∀ a o, H a = some o → ObjOk P w H h a o
end
section
variable {P : Program} {w : World} {H H' : Hp} {h h' : Heap} {a : Addr} {o : HO}
theorem ObjOk.lt (x : ObjOk P w H h a o) : a < h.objs.size := by
  cases o with
  | lst xs => obtain ⟨_, _, _, _, e⟩ := x; exact Heap.lt_size e
  | tup xs => obtain ⟨_, _, _, p⟩ := x; exact p.lt
  | dK kvs => obtain ⟨_, _, _, _, o, _, _, e, _⟩ := x; exact Heap.lt_size e
  | dT kvs => obtain ⟨_, _, _, _, o, _, _, e, _⟩ := x; exact Heap.lt_size e
  | set S n => obtain ⟨o, _, _, _, e, _⟩ := x; exact Heap.lt_size e
  | ins C dx fs => obtain ⟨_, _, _, e, _⟩ := x; exact Heap.lt_size e
  | own y => obtain ⟨_, e⟩ := x; exact Heap.lt_size e
  | xd fs => obtain ⟨_, ⟨_, _, _, e, _⟩, _⟩ := x; exact Heap.lt_size e
  | rng lo hi => obtain ⟨_, _, _, e⟩ := x; exact Heap.lt_size e
  | frz ob u => obtain ⟨e, _⟩ := x; exact Heap.lt_size e
  | tbl ps => exact Heap.lt_size (show h.get? a = some _ from x)
  | met f y => exact Heap.lt_size (show h.get? a = some _ from x)
  | ext φ => obtain ⟨_, ⟨_, e⟩, _⟩ := x; exact Heap.lt_size e
theorem Paired.mapP {α β : Type} {F G : α → β → Prop} : ∀ {l₁ : List α} {l₂ : List β}, Paired F l₁ l₂ → (∀ a b, F a b → G a b) → Paired G l₁ l₂
  | _, _, .nil, _ => .nil
  | _, _, .cons r t, f => .cons (f _ _ r) (Paired.mapP t f)
theorem ObjOk.stay (x : ObjOk P w H h a o) (k : ∀ b u, (b = a ∨ H b = some (.own a)) → h.get? b = some u → h'.get? b = some u)
    (ho : ∀ b, H b = some (.own a) → H' b = some (.own a)) (ht : ∀ b xs, H b = some (.tup xs) → H' b = some (.tup xs)) : ObjOk P w H' h' a o := by
  induction o with
  | lst xs => obtain ⟨z, its, n, r, e⟩ := x; exact ⟨z, its, n, r, k _ _ (.inl rfl) e⟩
  | tup xs => obtain ⟨z, its, r, ob, e, c⟩ := x; exact ⟨z, its, r, ob, k _ _ (.inl rfl) e, c⟩
  | dK kvs => obtain ⟨z, y, vs, r, ob, es, ep, e, c⟩ := x; exact ⟨z, y, vs, r, ob, es, ep, k _ _ (.inl rfl) e, c⟩
  | dT kvs =>
    obtain ⟨z, y, xs, r, ob, es, ep, e, c⟩ := x
    exact ⟨z, y, xs, Paired.mapP r fun p q z => ⟨z.1, ht _ _ z.2.1, z.2.2⟩, ob, es, ep, k _ _ (.inl rfl) e, c⟩
  | set S n => obtain ⟨ob, es, ep, t, e, c⟩ := x; exact ⟨ob, es, ep, t, k _ _ (.inl rfl) e, c⟩
  | ins C dx fs =>
    obtain ⟨d, z, ne, e, mA, ⟨od, es, ep, e2, c⟩, r⟩ := x
    exact ⟨ho _ d, z, ne, k _ _ (.inl rfl) e, mA, ⟨od, es, ep, k _ _ (.inr d) e2, c⟩, r⟩
  | own y => obtain ⟨ob, e⟩ := x; exact ⟨ob, k _ _ (.inl rfl) e⟩
  | xd fs => obtain ⟨mA, ⟨od, es, ep, e, c⟩, r⟩ := x; exact ⟨mA, ⟨od, es, ep, k _ _ (.inl rfl) e, c⟩, r⟩
  | rng lo hi => obtain ⟨t, u, v, e⟩ := x; exact ⟨t, u, v, k _ _ (.inl rfl) e⟩
  | frz ob u ih => obtain ⟨e, q⟩ := x; exact ⟨k _ _ (.inl rfl) e, ih q⟩
  | tbl ps =>
    have e : h.get? a = some { cls := .none, data := .fields ps } := x
    show h'.get? a = some { cls := .none, data := .fields ps }
    exact k a _ (.inl rfl) e
  | met f y =>
    have e : h.get? a = some (PySem.W.methodObj (.ref f) (.ref y)) := x
    show h'.get? a = some (PySem.W.methodObj (.ref f) (.ref y))
    exact k a _ (.inl rfl) e
  | ext φ => obtain ⟨p, ⟨o, e⟩, st⟩ := x; exact ⟨st _ _ p fun o q => k _ _ (.inl rfl) q, ⟨o, k _ _ (.inl rfl) e⟩, st⟩
theorem HOk.lt (x : HOk P w H h) (e : H a = some o) : a < h.objs.size := (x a o e).lt
theorem HOk.fresh (x : HOk P w H h) (e : h.objs.size ≤ a) : H a = none := by
  cases q : H a with
  | none => rfl
  | some u => exact absurd (Nat.lt_of_lt_of_le (x.lt q) e) (Nat.lt_irrefl _)
theorem HOk.kept (x : HOk P w H h) (k : ∀ b u, h.get? b = some u → h'.get? b = some u) : HOk P w H h' := fun a o e =>
  (x a o e).stay (fun b u _ q => k b u q) (fun _ q => q) fun _ _ q => q
theorem HOk.laid (x : HOk P w H h) (k : ∀ b u, h.get? b = some u → h'.get? b = some u) (hp : h.objs.size ≤ a) (new : ObjOk P w (upd H a o) h' a o) : HOk P w (upd H a o) h' := fun b u e => by
  have hn := x.fresh hp
  by_cases hb : b = a
  · subst hb; rw [upd_same] at e; cases e; exact new
  · rw [upd_ne hb] at e
    exact (x b u e).stay (fun c v _ q => k c v q) (fun c q => by rw [upd_ne (ne_of_none q hn)]; exact q) fun c xs q => by rw [upd_ne (ne_of_none q hn)]; exact q
end
def Rd (H : Hp) (a : Addr) (u : HO) : Prop := H a = some u ∨ ∃ o, H a = some (.frz o u)
theorem Rd.ok {P : Program} {w : World} {H : Hp} {h : Heap} {a : Addr} {u : HO} (r : Rd H a u) (x : HOk P w H h) : ObjOk P w H h a u := by
  rcases r with r | ⟨o, r⟩
  · exact x a u r
  · obtain ⟨_, q⟩ := x a _ r
    exact q
def Mut : Option HO → Prop
  | some (.lst _) => True
  | some (.dK _) => True
  | some (.dT _) => True
  | some (.set _ _) => True
  | some (.ins _ _ _) => True
  | some (.ext _) => True
  | _ => False
section
variable {P : Program} {w : World} {H : Hp} {h h' : Heap} {x e : Addr} {o' : HO}
theorem HOk.write (ok : HOk P w H h) (mu : Mut (H x)) (he : e = x ∨ H e = some (.own x)) (k : ∀ b u, b ≠ e → h.get? b = some u → h'.get? b = some u) (heo : ∃ u, h'.get? e = some u)
    (new : ObjOk P w (upd H x o') h' x o') : HOk P w (upd H x o') h' := fun b u q => by
  have nown : ∀ c y, H c = some (.own y) → c ≠ x := fun c y r z => by subst z; rw [r] at mu; exact mu
  have ntup : ∀ c xs, H c = some (.tup xs) → c ≠ x := fun c xs r z => by subst z; rw [r] at mu; exact mu
  by_cases hb : b = x
  · subst hb; rw [upd_same] at q; cases q; exact new
  · rw [upd_ne hb] at q
    by_cases hbe : b = e
    · have q' : H b = some (.own x) := by
        rcases he with z | z
        · exact absurd (hbe.trans z) hb
        · rw [hbe]; exact z
      rw [q] at q'; cases q'
      obtain ⟨v, hv⟩ := heo
      exact ⟨v, by rw [hbe]; exact hv⟩
    · refine (ok b u q).stay (fun c v hc r => k c v ?_ r) (fun c r => by rw [upd_ne (nown c b r)]; exact r) fun c xs r => by rw [upd_ne (ntup c xs r)]; exact r
      rcases hc with rfl | hc
      · exact hbe
      · rintro rfl
        rcases he with z | z
        · exact nown c b hc z
        · rw [hc] at z; cases z; exact hb rfl
end
structure Un (fs ex : List Addr) (H H' : Hp) (h h' : Heap) : Prop where
  keep : ∀ b o, h.get? b = some o → H b = none → b ∉ fs → b ∉ ex → h'.get? b = some o
  slot : ∀ b o, h.get? b = some o → H b = none → b ∈ fs → b ∉ ex → ∃ sl, h'.get? b = some { o with slots := sl }
  free : ∀ b o, h.get? b = some o → H b = none → b ∉ ex → H' b = none
  there : ∀ b o, h.get? b = some o → b ∉ ex → ∃ o', h'.get? b = some o'
  tups : ∀ b xs, H b = some (.tup xs) → H' b = some (.tup xs)
  frzs : ∀ b o u, H b = some (.frz o u) → H' b = some (.frz o u)
  tbls : ∀ b ps, H b = some (.tbl ps) → ∃ more, H' b = some (.tbl (ps ++ more))
section
variable {fs fs' ex ex' : List Addr} {H H1 H2 : Hp} {h h1 h2 h' : Heap} {a x e : Addr} {o : HO}
theorem Un.any (u : Un fs ex H H1 h h1) {b : Addr} {ob : Obj} (q : h.get? b = some ob) (n : H b = none) (hx : b ∉ ex) : ∃ sl, h1.get? b = some { ob with slots := sl } := by
  by_cases hb : b ∈ fs
  · exact u.slot b ob q n hb hx
  · exact ⟨ob.slots, u.keep b ob q n hb hx⟩
theorem Un.trans (a : Un fs ex H H1 h h1) (b : Un fs ex H1 H2 h1 h2) : Un fs ex H H2 h h2 where
  keep := fun c ob q n hc hx => b.keep c ob (a.keep c ob q n hc hx) (a.free c ob q n hx) hc hx
  slot := fun c ob q n hc hx => by
    obtain ⟨sl, e1⟩ := a.slot c ob q n hc hx
    obtain ⟨sl', e2⟩ := b.slot c _ e1 (a.free c ob q n hx) hc hx
    exact ⟨sl', e2⟩
  free := fun c ob q n hx => by
    obtain ⟨o', e1⟩ := a.there c ob q hx
    exact b.free c o' e1 (a.free c ob q n hx) hx
  there := fun c ob q hx => by
    obtain ⟨o', e1⟩ := a.there c ob q hx
    exact b.there c o' e1 hx
  tups := fun c xs q => b.tups c xs (a.tups c xs q)
  frzs := fun c ob xs q => b.frzs c ob xs (a.frzs c ob xs q)
  tbls := fun c ps q => by
    obtain ⟨m1, e1⟩ := a.tbls c ps q
    obtain ⟨m2, e2⟩ := b.tbls c _ e1
    exact ⟨m1 ++ m2, by rw [e2, Array.append_assoc]⟩
theorem Un.kept (k : ∀ b u, h.get? b = some u → h'.get? b = some u) : Un fs ex H H h h' :=
  ⟨fun b ob q _ _ _ => k b ob q, fun b ob q _ _ _ => ⟨ob.slots, k b ob q⟩, fun _ _ _ n _ => n, fun b ob q _ => ⟨ob, k b ob q⟩, fun _ _ q => q, fun _ _ _ q => q, fun _ ps q => ⟨#[], by rw [q]; simp⟩⟩
theorem Un.refl : Un fs ex H H h h := Un.kept fun _ _ q => q
theorem Un.laid (k : ∀ b u, h.get? b = some u → h'.get? b = some u) (hp : h.objs.size ≤ a) (hn : H a = none) : Un fs ex H (upd H a o) h h' where
  keep := fun b u q _ _ _ => k b u q
  slot := fun b u q _ _ _ => ⟨u.slots, k b u q⟩
  free := fun b u q n _ => by rw [upd_ne (Nat.ne_of_lt (Nat.lt_of_lt_of_le (Heap.lt_size q) hp))]; exact n
  there := fun b u q _ => ⟨u, k b u q⟩
  tups := fun b xs q => by rw [upd_ne (ne_of_none q hn)]; exact q
  frzs := fun b u xs q => by rw [upd_ne (ne_of_none q hn)]; exact q
  tbls := fun b ps q => ⟨#[], by rw [upd_ne (ne_of_none q hn), q]; simp⟩
theorem Un.write (mu : Mut (H x)) (he : e = x ∨ H e = some (.own x)) (k : ∀ b u, b ≠ e → h.get? b = some u → h'.get? b = some u) (heo : ∃ u, h'.get? e = some u) : Un fs ex H (upd H x o) h h' := by
  have hx : ∀ b, H b = none → b ≠ x := fun b n z => by subst z; rw [n] at mu; exact mu
  have hb : ∀ b, H b = none → b ≠ e := fun b n z => by
    subst z
    rcases he with r | r
    · exact hx b n r
    · rw [n] at r; cases r
  have hm : ∀ b u, H b = some u → ¬ Mut (some u) → b ≠ x := fun b u q nm z => by subst z; rw [q] at mu; exact nm mu
  refine ⟨fun b u q n _ _ => k b u (hb b n) q, fun b u q n _ _ => ⟨u.slots, k b u (hb b n) q⟩, fun b u q n _ => by rw [upd_ne (hx b n)]; exact n, fun b u q _ => ?_,
    fun b xs q => by rw [upd_ne (hm b _ q fun z => z)]; exact q, fun b u xs q => by rw [upd_ne (hm b _ q fun z => z)]; exact q, fun b ps q => ⟨#[], by rw [upd_ne (hm b _ q fun z => z), q]; simp⟩⟩
  by_cases hbe : b = e
  · subst hbe; exact heo
  · exact ⟨u, k b u hbe q⟩
end
def trk (h : Heap) (H : Hp) : List Addr := (List.range h.objs.size).filter fun a => (H a).isSome
def hidT (h : Heap) (H : Hp) : Heap := PySem.W.hideAll h (trk h H)
theorem hidT_size (h : Heap) (H : Hp) : (hidT h H).objs.size = h.objs.size := PySem.W.hideAll_size _ _
theorem hidT_get {h : Heap} {H : Hp} {b : Addr} {o : Obj} (e : h.get? b = some o) (n : H b = none) : (hidT h H).get? b = some o :=
  PySem.W.hideAll_get _ e fun hm => by
    have q : (H b).isSome = true := (List.mem_filter.mp hm).2
    rw [n] at q; simp at q
theorem of_hidT {h : Heap} {H : Hp} {b : Addr} {o : Obj} (e : (hidT h H).get? b = some o) : h.get? b = some o ∧ H b = none := by
  have e' : h.get? b = some o := PySem.W.of_hideAll (trk h H) e
  refine ⟨e', ?_⟩
  cases q : H b with
  | none => rfl
  | some x =>
    have hm : b ∈ trk h H := List.mem_filter.mpr ⟨List.mem_range.mpr (Heap.lt_size e'), by simp [q]⟩
    have z : (hidT h H).get? b = none := PySem.W.hideAll_none (trk h H) hm
    rw [z] at e; cases e
def allNews (g h : Heap) (L : Addr) : List (Addr × Obj) := (List.range h.objs.size).filterMap fun a => if a = L ∨ (g.get? a).isSome = true then none else (h.get? a).map fun o => (a, o)
def rest (g h : Heap) (L d : Addr) : List (Addr × Obj) := (allNews g h L).filter fun p => decide (p.1 ≠ d)
end L2
namespace L2
open PySem PySem.Spec PyProof.Rows
structure Mod (K : PySem.W.Frag) (mg : Str → Option Value) (base : Heap) : Prop where
  kin : K.In base
  glob : base.Ns mainGlobals mg
  blt : ∃ mb, base.Ns builtinsNs mb ∧ ∀ x : Str, x ≠ "__name__" → mb x = bootBuiltins x
  nolimit : base.NoLimit
structure Cx where
  prog : Program
  w : World
  K : PySem.W.Frag
  mg : Str → Option Value
  base : Heap
  A : Around
  N : List Str
  s₀ : Shared
  H₀ : Hp
  env : Env
  outer : List Env
  stack : List Env
  ex : List Addr
  fn : Str → Bool
  calm : Bool
  pn : List (Addr × Obj)
  xe : Value → Shared → Prop
def frs (l : List Env) : List Addr := l.filterMap (·.frame)
abbrev Cx.fs (X : Cx) : List Addr := frs X.outer
def Vis (sc : Scope) (x : Str) : Prop := sc.names.lookup x = some .local ∨ sc.names.lookup x = some .cell ∨ sc.names.lookup x = some .free
def Loc (sc : Scope) (x : Str) : Prop := sc.names.lookup x = some .local ∨ sc.names.lookup x = some .cell
def Look (env : Env) (h : Heap) (m : Str → Option Value) (x : Str) (u : Value) : Prop :=
  (env.kindOf x = some .local ∧ m x = some u) ∨ ((env.kindOf x = some .cell ∨ env.kindOf x = some .free) ∧ ∃ c, env.cells.lookup x = some c ∧ h.IsCell c (some u))
structure Cx.Ok (X : Cx) : Prop where
  mod : Mod X.K X.mg X.base
  kind : X.env.scope.kind = .function
  glob : X.env.globals = mainGlobals
  blt : X.env.builtins = builtinsNs
  above : X.s₀.heap.objs.size ≤ X.env.locals
  inj : ∀ x y c, X.env.cells.lookup x = some c → X.env.cells.lookup y = some c → x = y
  has : ∀ x, (X.env.kindOf x = some .cell ∨ X.env.kindOf x = some .free) → ∃ c, X.env.cells.lookup x = some c
  cab : ∀ x c, X.fn x = true → X.env.cells.lookup x = some c → X.s₀.heap.objs.size ≤ c
  hd : X.calm = true → X.A.handled = none
  frames : X.A.frames = some X.stack
  stk : X.stack = X.outer ∨ (X.stack = X.env :: X.outer ∧ X.env.frame = some X.env.locals)
  exf : ∀ b ∈ X.ex, b ≠ X.env.locals ∧ ∀ x c, X.env.cells.lookup x = some c → c ≠ b
  bs : ∀ b o, X.base.get? b = some o → X.s₀.heap.get? b = some o ∧ X.H₀ b = none
  bsz : X.base.objs.size ≤ X.s₀.heap.objs.size
  noex : ∀ b o, X.base.get? b = some o → b ∉ X.ex
  exfs : ∀ b ∈ X.ex, b ∉ X.fs
  funs : X.s₀.heap.FunFrames X.base X.outer
  frf : ∀ b ∈ X.fs, X.H₀ b = none
structure Inv (X : Cx) (pins : List (Addr × Obj)) (σ : List (Option V)) (H : Hp) (s : Shared) : Prop where
  ok : X.Ok
  os : s.os = X.s₀.os
  bare : AllBare s.gens
  base : Un X.fs X.ex X.H₀ H X.s₀.heap s.heap
  loc : ∃ m, s.heap.Ns X.env.locals m ∧ ∀ (i : Nat) (x : Str) (v : V), X.N[i]? = some x → σ[i]? = some (some v) → Vis X.env.scope x → ∃ u, RelV v u ∧ Look X.env s.heap m x u
  cell : ∀ x c, X.env.cells.lookup x = some c → ∃ v, s.heap.IsCell c v
  free : H X.env.locals = none
  freeC : ∀ x c, X.env.cells.lookup x = some c → H c = none
  pin : ∀ p ∈ X.pn ++ pins, s.heap.get? p.1 = some p.2 ∧ H p.1 = none ∧ p.1 ≠ X.env.locals ∧ p.1 ∉ X.fs ∧ ∀ v, p.2.data ≠ .cell v
  hok : HOk X.prog X.w H s.heap
  len : σ.length = X.N.length
section
variable {X : Cx} {pins : List (Addr × Obj)} {σ : List (Option V)} {H H' : Hp} {s : Shared} {h' : Heap}
theorem Cx.Ok.nofr (ok : X.Ok) {b : Addr} {o : Obj} (e : X.base.get? b = some o) : b ∉ X.fs := fun hb => by
  have := (ok.funs.mem hb).1
  rw [e] at this; cases this
theorem Inv.bs (I : Inv X pins σ H s) : ∀ b o, X.base.get? b = some o → s.heap.get? b = some o ∧ H b = none := fun b o e =>
  ⟨I.base.keep b o (I.ok.bs b o e).1 (I.ok.bs b o e).2 (I.ok.nofr e) (I.ok.noex b o e), I.base.free b o (I.ok.bs b o e).1 (I.ok.bs b o e).2 (I.ok.noex b o e)⟩
theorem Inv.bk (I : Inv X pins σ H s) : ∀ b o, X.base.get? b = some o → s.heap.get? b = some o := fun b o e => (I.bs b o e).1
theorem Inv.mod (I : Inv X pins σ H s) : Mod X.K X.mg X.base := I.ok.mod
theorem Inv.kIn (I : Inv X pins σ H s) : X.K.In s.heap := I.ok.mod.kin.keeps I.bk
theorem Inv.lt (I : Inv X pins σ H s) : X.env.locals < s.heap.objs.size := let ⟨_, hn, _⟩ := I.loc; hn.lt
theorem Inv.sz (I : Inv X pins σ H s) : X.s₀.heap.objs.size ≤ s.heap.objs.size := Nat.le_trans I.ok.above (Nat.le_of_lt I.lt)
theorem Inv.nofs (I : Inv X pins σ H s) {a : Addr} (h : s.heap.objs.size ≤ a) : a ∉ X.fs := fun hb => by
  obtain ⟨_, o, ho, _⟩ := I.ok.funs.mem hb
  exact absurd (Nat.lt_of_lt_of_le (Heap.lt_size ho) (Nat.le_trans I.sz h)) (Nat.lt_irrefl _)
theorem Inv.cne (I : Inv X pins σ H s) : ∀ x c, X.env.cells.lookup x = some c → c ≠ X.env.locals := fun x c e z => by
  obtain ⟨v, o, ho, hd⟩ := I.cell x c e
  obtain ⟨m, ⟨o', es, ep, ho', hd', _⟩, _⟩ := I.loc
  rw [z, ho'] at ho; cases ho; rw [hd'] at hd; cases hd
theorem Inv.funs (I : Inv X pins σ H s) : s.heap.FunFrames X.base X.outer := by
  have all : ∀ (l : List Env), (∀ b ∈ frs l, b ∈ X.fs) → X.s₀.heap.FunFrames X.base l → s.heap.FunFrames X.base l := by
    intro l
    induction l with
    | nil => intro _ _; trivial
    | cons env r ih =>
      intro hs hl
      obtain ⟨hk, ⟨L, o, hf, hn, ho, hd⟩, hr⟩ := hl
      have hL : L ∈ X.fs := hs L (by unfold frs; rw [List.filterMap_cons, hf]; exact List.mem_cons_self)
      obtain ⟨sl, e⟩ := I.base.slot L o ho (I.ok.frf L hL) hL fun z => I.ok.exfs L z hL
      exact ⟨hk, ⟨L, _, hf, hn, e, hd⟩, ih (fun b hb => hs b (by unfold frs; rw [List.filterMap_cons, hf]; exact List.mem_cons_of_mem _ hb)) hr⟩
  exact all X.outer (fun _ hb => hb) I.ok.funs
theorem Inv.stack (I : Inv X pins σ H s) : s.heap.FunFrames X.base X.stack := by
  rcases I.ok.stk with e | ⟨e, hf⟩
  · rw [e]; exact I.funs
  · rw [e]
    obtain ⟨m, hn, _⟩ := I.loc
    refine .cons (by rw [I.ok.kind]; decide) hf hn ?_ I.funs
    exact Heap.get?_none_of_le (Nat.le_trans I.ok.bsz I.ok.above)
theorem Inv.stkSub (I : Inv X pins σ H s) : ∀ b ∈ frs X.stack, b ∈ X.env.locals :: X.fs := fun b hb => by
  rcases I.ok.stk with e | ⟨e, hf⟩
  · rw [e] at hb; exact List.mem_cons_of_mem _ hb
  · rw [e] at hb
    unfold frs at hb
    rw [List.filterMap_cons, hf] at hb
    exact hb
theorem Inv.stkFree (I : Inv X pins σ H s) : ∀ b ∈ frs X.stack, H b = none := fun b hb => by
  rcases List.mem_cons.mp (I.stkSub b hb) with e | hb
  · rw [e]; exact I.free
  · obtain ⟨_, o, ho, _⟩ := I.ok.funs.mem hb
    exact I.base.free b o ho (I.ok.frf b hb) fun z => I.ok.exfs b z hb
theorem Inv.step {g' : Array GenState} {t' : Nat} {d' : Drawn} {ch : List Addr} (I : Inv X pins σ H s)
    (hch : ∀ b ∈ ch, (b ∈ X.ex ∨ X.s₀.heap.objs.size ≤ b) ∧ b ≠ X.env.locals ∧ (∀ x c, X.env.cells.lookup x = some c → c ≠ b) ∧ ∀ p ∈ X.pn ++ pins, p.1 ≠ b)
    (keep : ∀ b o, b ≠ X.env.locals → b ∉ X.fs → b ∉ ch → s.heap.get? b = some o → H b = none → h'.get? b = some o)
    (slot : ∀ b o, b ≠ X.env.locals → b ∈ X.fs → b ∉ ch → s.heap.get? b = some o → H b = none → ∃ sl, h'.get? b = some { o with slots := sl }) (free : ∀ b o, b ∉ ch → s.heap.get? b = some o → H b = none → H' b = none)
    (there : ∀ b o, b ∉ ch → s.heap.get? b = some o → ∃ o', h'.get? b = some o')
    (tups : ∀ b xs, H b = some (.tup xs) → H' b = some (.tup xs)) (frzs : ∀ b o u, H b = some (.frz o u) → H' b = some (.frz o u)) (tbls : ∀ b ps, H b = some (.tbl ps) → ∃ more, H' b = some (.tbl (ps ++ more)))
    (ns : ∀ m, s.heap.Ns X.env.locals m → h'.Ns X.env.locals m) (hok : HOk X.prog X.w H' h') (hg : AllBare g') :
    Inv X pins σ H' { s with heap := h', gens := g', drawn := d', toks := t' } := by
  have neL : ∀ b o, X.s₀.heap.get? b = some o → b ≠ X.env.locals := fun b o e => Nat.ne_of_lt (Nat.lt_of_lt_of_le (Heap.lt_size e) I.ok.above)
  have neC : ∀ b o, X.s₀.heap.get? b = some o → b ∉ X.ex → b ∉ ch := fun b o e hx hb => by
    rcases (hch b hb).1 with z | z
    · exact hx z
    · exact absurd (Nat.lt_of_lt_of_le (Heap.lt_size e) z) (Nat.lt_irrefl _)
  have cellK : ∀ x c, X.env.cells.lookup x = some c → ∀ v, s.heap.IsCell c v → h'.IsCell c v := fun x c e v ⟨o, ho, hd⟩ => by
    have nch : c ∉ ch := fun z => (hch c z).2.2.1 x c e rfl
    by_cases hc : c ∈ X.fs
    · obtain ⟨sl, q⟩ := slot c o (I.cne x c e) hc nch ho (I.freeC x c e)
      exact ⟨_, q, hd⟩
    · exact ⟨o, keep c o (I.cne x c e) hc nch ho (I.freeC x c e), hd⟩
  refine ⟨I.ok, I.os, hg, ⟨fun b o e n hb hx => ?_, fun b o e n hb hx => ?_, fun b o e n hx => ?_, fun b o e hx => ?_, fun b xs e => tups b xs (I.base.tups b xs e), fun b o xs e => frzs b o xs (I.base.frzs b o xs e), fun b ps e => ?_⟩, ?_, fun x c e => ?_, ?_, fun x c e => ?_, fun p hp => ?_, hok, I.len⟩
  · exact keep b o (neL b o e) hb (neC b o e hx) (I.base.keep b o e n hb hx) (I.base.free b o e n hx)
  · obtain ⟨sl, e1⟩ := I.base.slot b o e n hb hx
    obtain ⟨sl', e2⟩ := slot b _ (neL b o e) hb (neC b o e hx) e1 (I.base.free b o e n hx)
    exact ⟨sl', e2⟩
  · obtain ⟨o', e1⟩ := I.base.there b o e hx
    exact free b o' (neC b o e hx) e1 (I.base.free b o e n hx)
  · obtain ⟨o', e1⟩ := I.base.there b o e hx
    exact there b o' (neC b o e hx) e1
  · obtain ⟨m1, e1⟩ := I.base.tbls b ps e
    obtain ⟨m2, e2⟩ := tbls b _ e1
    exact ⟨m1 ++ m2, by rw [e2, Array.append_assoc]⟩
  · obtain ⟨m, hn, hl⟩ := I.loc
    refine ⟨m, ns m hn, fun i x v e1 e2 e3 => ?_⟩
    obtain ⟨u, r, l⟩ := hl i x v e1 e2 e3
    refine ⟨u, r, ?_⟩
    rcases l with l | ⟨k, c, e, z⟩
    · exact .inl l
    · exact .inr ⟨k, c, e, cellK x c e _ z⟩
  · obtain ⟨v, z⟩ := I.cell x c e
    exact ⟨v, cellK x c e v z⟩
  · obtain ⟨m, ⟨o, _, _, ho, _⟩, _⟩ := I.loc
    exact free _ o (fun z => (hch _ z).2.1 rfl) ho I.free
  · obtain ⟨v, o, ho, hd⟩ := I.cell x c e
    exact free c o (fun z => (hch c z).2.2.1 x c e rfl) ho (I.freeC x c e)
  · obtain ⟨e, n, ne, nf, d⟩ := I.pin p hp
    have nch : p.1 ∉ ch := fun z => (hch p.1 z).2.2.2 p hp rfl
    exact ⟨keep p.1 p.2 ne nf nch e n, free p.1 p.2 nch e n, ne, nf, d⟩
theorem Inv.un {t' : Nat} (I : Inv X pins σ H s) (u : Un X.fs [] H H' s.heap h') (hok : HOk X.prog X.w H' h') : Inv X pins σ H' { s with heap := h', toks := t' } := by
  obtain ⟨m, ⟨o, es, ep, ho, r⟩, _⟩ := id I.loc
  obtain ⟨sl, hL⟩ := u.any ho I.free (by simp)
  exact I.step (g' := s.gens) (d' := s.drawn) (ch := []) (fun _ z => nomatch z) (fun b o _ hb _ e n => u.keep b o e n hb (by simp)) (fun b o _ hb _ e n => u.slot b o e n hb (by simp)) (fun b o _ e n => u.free b o e n (by simp)) (fun b o _ e => u.there b o e (by simp)) u.tups u.frzs u.tbls (fun m' hm => by
    obtain ⟨o', es', ep', ho', r'⟩ := hm
    rw [ho] at ho'; cases ho'
    exact ⟨_, es', ep', hL, r'⟩) hok I.bare
theorem Inv.call {g' : Array GenState} {t' : Nat} {d' : Drawn} {ch : List Addr} (I : Inv X pins σ H s) (u : Un (frs X.stack) ch H H' s.heap h') (hok : HOk X.prog X.w H' h') (hg : AllBare g')
    (hch : ∀ b ∈ ch, (b ∈ X.ex ∨ X.s₀.heap.objs.size ≤ b) ∧ b ≠ X.env.locals ∧ (∀ x c, X.env.cells.lookup x = some c → c ≠ b) ∧ ∀ p ∈ X.pn ++ pins, p.1 ≠ b) :
    Inv X pins σ H' { s with heap := h', gens := g', drawn := d', toks := t' } := by
  obtain ⟨m, ⟨o, es, ep, ho, r⟩, _⟩ := id I.loc
  obtain ⟨sl, hL⟩ := u.any ho I.free fun z => (hch _ z).2.1 rfl
  exact I.step (ch := ch) hch (fun b o hL hb hc e n => u.keep b o e n (fun z => (List.mem_cons.mp (I.stkSub b z)).elim hL hb) hc) (fun b o _ _ hc e n => u.any e n hc) (fun b o hc e n => u.free b o e n hc) (fun b o hc e => u.there b o e hc) u.tups u.frzs u.tbls (fun m' hm => by
    obtain ⟨o', es', ep', ho', r'⟩ := hm
    rw [ho] at ho'; cases ho'
    exact ⟨_, es', ep', hL, r'⟩) hok hg
theorem Inv.turned {t' : Nat} {it : Addr} (I : Inv X pins σ H s) (k : ∀ b o, b ≠ it → s.heap.get? b = some o → h'.get? b = some o) (hn : H it = none) (hL : it ≠ X.env.locals)
    (h1 : it ∈ X.ex ∨ X.s₀.heap.objs.size ≤ it) (h2 : ∀ x c, X.env.cells.lookup x = some c → c ≠ it) (h3 : ∀ p ∈ X.pn ++ pins, p.1 ≠ it) : Inv X pins σ H { s with heap := h', toks := t' } := by
  have nit : ∀ b u, H b = some u → b ≠ it := fun b u e z => by rw [z, hn] at e; cases e
  refine I.step (g' := s.gens) (d' := s.drawn) (ch := [it]) (fun b hb => ?_) (fun b o _ _ hc e _ => k b o (fun z => hc (by simp [z])) e) (fun b o _ _ hc e _ => ⟨o.slots, k b o (fun z => hc (by simp [z])) e⟩) (fun _ _ _ _ n => n)
    (fun b o hc e => ⟨o, k b o (fun z => hc (by simp [z])) e⟩) (fun _ _ e => e) (fun _ _ _ e => e) (fun b ps e => ⟨#[], by rw [e]; simp⟩) (fun m hm => ?_) (fun b u e => ?_) I.bare
  · have e : b = it := by simpa using hb
    subst e
    exact ⟨h1, hL, h2, h3⟩
  · obtain ⟨o, es, ep, ho, r⟩ := hm
    exact ⟨o, es, ep, k _ o (Ne.symm hL) ho, r⟩
  · refine (I.hok b u e).stay (fun c v hc q => k c v ?_ q) (fun _ q => q) fun _ _ q => q
    rcases hc with z | z
    · rw [z]; exact nit b u e
    · exact nit c _ z
theorem Inv.tok (I : Inv X pins σ H s) (t : Nat) : Inv X pins σ H { s with toks := t } := I.un (h' := s.heap) (t' := t) Un.refl I.hok
theorem Inv.kept {t' : Nat} (I : Inv X pins σ H s) (k : ∀ b u, s.heap.get? b = some u → h'.get? b = some u) : Inv X pins σ H { s with heap := h', toks := t' } := I.un (Un.kept k) (I.hok.kept k)
theorem Inv.laid {a : Addr} {o : HO} {t' : Nat} (I : Inv X pins σ H s) (k : ∀ b u, s.heap.get? b = some u → h'.get? b = some u) (hp : s.heap.objs.size ≤ a) (new : ObjOk X.prog X.w (upd H a o) h' a o) :
    Inv X pins σ (upd H a o) { s with heap := h', toks := t' } := I.un (Un.laid k hp (I.hok.fresh hp)) (I.hok.laid k hp new)
theorem Inv.write {x e : Addr} {o : HO} {t' : Nat} (I : Inv X pins σ H s) (mu : Mut (H x)) (he : e = x ∨ H e = some (.own x)) (k : ∀ b u, b ≠ e → s.heap.get? b = some u → h'.get? b = some u) (heo : ∃ u, h'.get? e = some u)
    (new : ObjOk X.prog X.w (upd H x o) h' x o) : Inv X pins σ (upd H x o) { s with heap := h', toks := t' } := I.un (Un.write mu he k heo) (I.hok.write mu he k heo new)
theorem Inv.weak {σ' : List (Option V)} (I : Inv X pins σ H s) (hl : σ'.length = σ.length) (w : ∀ (i : Nat) v, σ'[i]? = some (some v) → σ[i]? = some (some v)) : Inv X pins σ' H s :=
  ⟨I.ok, I.os, I.bare, I.base, let ⟨m, hn, hl'⟩ := I.loc; ⟨m, hn, fun i x v e1 e2 e3 => hl' i x v e1 (w i v e2) e3⟩, I.cell, I.free, I.freeC, I.pin, I.hok, hl.trans I.len⟩
theorem Inv.pins_of {pins' : List (Addr × Obj)} (I : Inv X pins σ H s) (h : ∀ p ∈ pins', s.heap.get? p.1 = some p.2 ∧ H p.1 = none ∧ p.1 ≠ X.env.locals ∧ p.1 ∉ X.fs ∧ ∀ v, p.2.data ≠ .cell v) : Inv X pins' σ H s :=
  ⟨I.ok, I.os, I.bare, I.base, I.loc, I.cell, I.free, I.freeC, fun p hp => (List.mem_append.mp hp).elim (fun z => I.pin p (List.mem_append_left _ z)) (h p), I.hok, I.len⟩
theorem nodup_ix {N : List Str} (hN : N.Nodup) {i j : Nat} {x : Str} (a : N[i]? = some x) (b : N[j]? = some x) : i = j := by
  obtain ⟨h1, e1⟩ := List.getElem?_eq_some_iff.mp a
  obtain ⟨h2, e2⟩ := List.getElem?_eq_some_iff.mp b
  exact (List.getElem_inj hN).mp (e1.trans e2.symm)
theorem store_ok2 {M : Model} {A : Around} {E : Value → Shared → Prop} {i : Nat} {x : Str} {v : V} {u : Value} {Q : Unit → Shared → Prop} (I : Inv X pins σ H s) (hN : X.N.Nodup) (hi : X.N[i]? = some x) (hx : Loc X.env.scope x) (r : RelV v u)
    (h : ∀ s', Inv X pins (σ.set i (some v)) H s' → (∃ a, Heap.SameBut a s.heap s'.heap ∧ (a = X.env.locals ∨ X.env.cells.lookup x = some a)) → Q () s') (hf : X.fn x = true ∨ X.env.scope.names.lookup x = some .local := by first | exact .inl rfl | exact .inr rfl | assumption) : wpAny M A (storeName X.env x u) Q E s := by
  obtain ⟨m, hn, hl⟩ := id I.loc
  have hcls : (X.env.scope.kind == .class || (X.env.scope.kind == .module && X.env.locals != X.env.globals)) = false := by rw [I.ok.kind]; rfl
  have hiσ : i < σ.length := by rw [I.len]; exact (List.getElem?_eq_some_iff.mp hi).1
  have cne := I.cne
  have tracked : ∀ {a : Addr} {h' : Heap}, (∃ o, s.heap.get? a = some o ∧ H a = none) → Heap.SameBut a s.heap h' → HOk X.prog X.w H h' := fun {a h'} ha hs b ob e => by
    obtain ⟨_, _, hfree⟩ := ha
    refine (I.hok b ob e).stay (fun c w' hc q => (hs.2 c ?_).trans q) (fun _ q => q) fun _ _ q => q
    rintro rfl
    rcases hc with rfl | hc
    · rw [hfree] at e; cases e
    · rw [hfree] at hc; cases hc
  rcases hx with hk | hk
  · refine wpAny_storeName_local hk hn (fun h' hn' hs => ?_) hcls
    obtain ⟨oL, _, _, hoL, _⟩ := id hn
    refine h _ ⟨I.ok, I.os, I.bare, ⟨fun b o e n hb hx => ?_, fun b o e n hb hx => ?_, I.base.free, fun b o e hx => ?_, I.base.tups, I.base.frzs, I.base.tbls⟩, ⟨_, hn', fun j y v' e1 e2 e3 => ?_⟩, fun y c e => ?_, I.free, I.freeC, fun p hp => ?_, tracked ⟨oL, hoL, I.free⟩ hs, by simpa using I.len⟩ ⟨_, hs, .inl rfl⟩
    · exact (hs.2 b (Nat.ne_of_lt (Nat.lt_of_lt_of_le (Heap.lt_size e) I.ok.above))).trans (I.base.keep b o e n hb hx)
    · obtain ⟨sl, e1⟩ := I.base.slot b o e n hb hx
      exact ⟨sl, (hs.2 b (Nat.ne_of_lt (Nat.lt_of_lt_of_le (Heap.lt_size e) I.ok.above))).trans e1⟩
    · obtain ⟨o', e1⟩ := I.base.there b o e hx
      exact ⟨o', (hs.2 b (Nat.ne_of_lt (Nat.lt_of_lt_of_le (Heap.lt_size e) I.ok.above))).trans e1⟩
    · by_cases hj : j = i
      · subst hj
        rw [hi] at e1; cases e1
        rw [List.getElem?_set_self hiσ] at e2
        cases e2
        exact ⟨u, r, .inl ⟨hk, by simp⟩⟩
      · rw [List.getElem?_set_ne (Ne.symm hj)] at e2
        obtain ⟨u', r', q⟩ := hl j y v' e1 e2 e3
        refine ⟨u', r', ?_⟩
        rcases q with ⟨k, e⟩ | ⟨k, c, e, z⟩
        · refine .inl ⟨k, ?_⟩
          have : y ≠ x := fun e => hj (nodup_ix hN e1 (e ▸ hi))
          simp [this, e]
        · exact .inr ⟨k, c, e, z.sameBut hs (cne y c e)⟩
    · obtain ⟨w', z⟩ := I.cell y c e
      exact ⟨w', z.sameBut hs (cne y c e)⟩
    · obtain ⟨e, n, ne, nf, d⟩ := I.pin p hp
      exact ⟨(hs.2 p.1 ne).trans e, n, ne, nf, d⟩
  · have hfn : X.fn x = true := by
      rcases hf with z | z
      · exact z
      · rw [z] at hk; cases hk
    obtain ⟨c, hc⟩ := I.ok.has x (.inl hk)
    obtain ⟨w', z⟩ := I.cell x c hc
    refine wpAny_storeName_cell I.ok.kind hk hc z (fun h' hc' hs => ?_)
    obtain ⟨oc, hoc, hocd⟩ := id z
    refine h { s with heap := h' } ⟨I.ok, I.os, I.bare, ⟨fun b o e n hb hx => ?_, fun b o e n hb hx => ?_, I.base.free, fun b o e hx => ?_, I.base.tups, I.base.frzs, I.base.tbls⟩, ⟨m, hn.sameBut hs (Ne.symm (cne x c hc)), fun j y v' e1 e2 e3 => ?_⟩, fun y c' e => ?_, I.free, I.freeC, fun p hp => ?_, tracked ⟨oc, hoc, I.freeC x c hc⟩ hs, by simpa using I.len⟩ ⟨c, hs, .inr hc⟩
    · exact (hs.2 b (Nat.ne_of_lt (Nat.lt_of_lt_of_le (Heap.lt_size e) (I.ok.cab x c hfn hc)))).trans (I.base.keep b o e n hb hx)
    · obtain ⟨sl, e1⟩ := I.base.slot b o e n hb hx
      exact ⟨sl, (hs.2 b (Nat.ne_of_lt (Nat.lt_of_lt_of_le (Heap.lt_size e) (I.ok.cab x c hfn hc)))).trans e1⟩
    · obtain ⟨o', e1⟩ := I.base.there b o e hx
      exact ⟨o', (hs.2 b (Nat.ne_of_lt (Nat.lt_of_lt_of_le (Heap.lt_size e) (I.ok.cab x c hfn hc)))).trans e1⟩
    · by_cases hj : j = i
      · subst hj
        rw [hi] at e1; cases e1
        rw [List.getElem?_set_self hiσ] at e2
        cases e2
        exact ⟨u, r, .inr ⟨.inl hk, c, hc, hc'⟩⟩
      · rw [List.getElem?_set_ne (Ne.symm hj)] at e2
        obtain ⟨u', r', q⟩ := hl j y v' e1 e2 e3
        refine ⟨u', r', ?_⟩
        rcases q with q | ⟨k, c', e, z'⟩
        · exact .inl q
        · refine .inr ⟨k, c', e, z'.sameBut hs ?_⟩
          rintro rfl
          exact hj (nodup_ix hN e1 (I.ok.inj _ _ _ e hc ▸ hi))
    · by_cases hcc : c' = c
      · subst hcc; exact ⟨_, hc'⟩
      · obtain ⟨w2, z2⟩ := I.cell y c' e
        exact ⟨w2, z2.sameBut hs hcc⟩
    · obtain ⟨e, n, ne, nf, d⟩ := I.pin p hp
      refine ⟨(hs.2 p.1 ?_).trans e, n, ne, nf, d⟩
      intro q
      rw [q, hoc] at e
      have q' : oc = p.2 := Option.some.inj e
      exact d w' (by rw [← q']; exact hocd)
theorem store_ok {M : Model} {A : Around} {E : Value → Shared → Prop} {i : Nat} {x : Str} {v : V} {u : Value} {Q : Unit → Shared → Prop} (I : Inv X pins σ H s) (hN : X.N.Nodup) (hi : X.N[i]? = some x) (hx : Loc X.env.scope x) (r : RelV v u)
    (h : ∀ s', Inv X pins (σ.set i (some v)) H s' → Q () s') (hf : X.fn x = true ∨ X.env.scope.names.lookup x = some .local := by first | exact .inl rfl | exact .inr rfl | assumption) : wpAny M A (storeName X.env x u) Q E s :=
  store_ok2 I hN hi hx r (fun s' I' _ => h s' I') hf
theorem Inv.call' {s' : Shared} {ch : List Addr} (I : Inv X pins σ H s) (ho : s'.os = s.os) (u : Un (frs X.stack) ch H H' s.heap s'.heap) (hok : HOk X.prog X.w H' s'.heap) (hg : AllBare s'.gens)
    (hch : ∀ b ∈ ch, (b ∈ X.ex ∨ X.s₀.heap.objs.size ≤ b) ∧ b ≠ X.env.locals ∧ (∀ x c, X.env.cells.lookup x = some c → c ≠ b) ∧ ∀ p ∈ X.pn ++ pins, p.1 ≠ b) : Inv X pins σ H' s' := by
  obtain ⟨h', g', d', t', o'⟩ := s'
  have e : o' = s.os := ho
  subst e
  exact I.call (g' := g') (t' := t') (d' := d') u hok hg hch
end
abbrev XK := Value → Option Addr → Hp → Prop
abbrev St := List (Option V)
abbrev VK := V → Hp → Prop
abbrev TE := St → Hp → VK → Prop
abbrev TT := St → Hp → (Bool → Hp → Prop) → Prop
abbrev TA := St → Hp → (List V → Hp → Prop) → Prop
structure Ends where
  nx : St → Hp → Prop
  rt : VK
  bk : St → Hp → Prop := fun _ _ => False
  ct : St → Hp → Prop := fun _ _ => False
abbrev TS := Ends → St → Hp → Prop
def EP (X : Cx) (pins : List (Addr × Obj)) (σ : St) (Q : VK) (u : Value) (s' : Shared) : Prop := ∃ v H', Inv X pins σ H' s' ∧ RelV v u ∧ Q v H'
def TP (X : Cx) (pins : List (Addr × Obj)) (σ : St) (Q : Bool → Hp → Prop) (b : Bool) (s' : Shared) : Prop := ∃ H', Inv X pins σ H' s' ∧ Q b H'
def AP (X : Cx) (pins : List (Addr × Obj)) (σ : St) (Q : List V → Hp → Prop) (us : List Value) (s' : Shared) : Prop := ∃ vs H', Inv X pins σ H' s' ∧ Vals vs us ∧ Q vs H'
def SP (X : Cx) (pins : List (Addr × Obj)) (D : Ends) (f : Flow) (s' : Shared) : Prop :=
  match f with
  | .next => ∃ σ' H', Inv X pins σ' H' s' ∧ D.nx σ' H'
  | .brk => ∃ σ' H', Inv X pins σ' H' s' ∧ D.bk σ' H'
  | .cont => ∃ σ' H', Inv X pins σ' H' s' ∧ D.ct σ' H'
  | .ret u => ∃ v σ' H', Inv X pins σ' H' s' ∧ RelV v u ∧ D.rt v H'
def PE (X : Cx) (e : Expr) (t : TE) : Prop :=
  ∀ (pins : List (Addr × Obj)) (s : Shared) (σ : St) (H : Hp) (Q : VK), Inv X pins σ H s → t σ H Q → wpAny (model X.prog X.w) X.A (eval e X.env) (EP X pins σ Q) X.xe s
def PT (X : Cx) (e : Expr) (t : TT) : Prop :=
  ∀ (pins : List (Addr × Obj)) (s : Shared) (σ : St) (H : Hp) (Q : Bool → Hp → Prop), Inv X pins σ H s → t σ H Q → wpAny (model X.prog X.w) X.A (isTrue e X.env (eval e X.env)) (TP X pins σ Q) X.xe s
def PW (X : Cx) (e : Expr) (t : TT) : Prop :=
  ∀ (whole : Sem Value) (pins : List (Addr × Obj)) (s : Shared) (σ : St) (H : Hp) (Q : Bool → Hp → Prop), Inv X pins σ H s → t σ H Q → wpAny (model X.prog X.w) X.A (isTrue e X.env whole) (TP X pins σ Q) X.xe s
theorem PW.pt {X : Cx} {e : Expr} {t : TT} (h : PW X e t) : PT X e t := h _
def PA (X : Cx) (es : List Expr) (t : TA) : Prop :=
  ∀ (pos : Pos) (pins : List (Addr × Obj)) (s : Shared) (σ : St) (H : Hp) (Q : List V → Hp → Prop), Inv X pins σ H s → t σ H Q → wpAny (model X.prog X.w) X.A (spliced (backTo pos (starEach es X.env))) (AP X pins σ Q) X.xe s
def PS (X : Cx) (st : Stmt) (t : TS) : Prop :=
  ∀ (pins : List (Addr × Obj)) (s : Shared) (σ : St) (H : Hp) (D : Ends), Inv X pins σ H s → t D σ H → wpAny (model X.prog X.w) X.A (exec st X.env) (SP X pins D) X.xe s
def PSs (X : Cx) (st : List Stmt) (t : TS) : Prop :=
  ∀ (pins : List (Addr × Obj)) (s : Shared) (σ : St) (H : Hp) (D : Ends), Inv X pins σ H s → t D σ H → wpAny (model X.prog X.w) X.A (execs st X.env) (SP X pins D) X.xe s
theorem thn {α : Type} {t : Sem α} {Q Q' : α → Shared → Prop} {M : Model} {A : Around} {E : Value → Shared → Prop} {s : Shared} (h : wpAny M A t Q E s) (hQ : ∀ a s, Q a s → Q' a s) : wpAny M A t Q' E s := wpAny_mono h hQ fun _ _ x => x
end L2
namespace L2
open PySem PySem.Spec PyProof.Rows
section
variable {X : Cx}
def tVar (i : Nat) : TE := fun σ H Q => ∃ v, σ[i]? = some (some v) ∧ Q v H
def tC (v : V) : TE := fun _ H Q => Q v H
theorem pe_var {i : Nat} {x : Str} {pos : Pos} (hN : X.N[i]? = some x) (hv : Vis X.env.scope x) (hd : (x == ("__debug__" : Str)) = false := by decide) (hcd : (x == ("__classdict__" : Str)) = false := by decide) : PE X (.Name x pos) (tVar i) := by
  intro pins s σ H Q I h
  obtain ⟨v, e, h⟩ := h
  obtain ⟨m, hn, hl⟩ := I.loc
  obtain ⟨u, r, l⟩ := hl i x v hN e hv
  have fin : EP X pins σ Q u s := ⟨v, H, I, r, h⟩
  rcases l with ⟨hk, hm⟩ | ⟨hk, c, hc, hcell⟩
  · exact wpAny_Name (wpAny_loadName_local I.ok.kind hk hn hm fin) hd
  · rcases hk with hk | hk
    · exact wpAny_Name (wpAny_loadName_cell I.ok.kind hk hc hcell fin) hd
    · exact wpAny_Name (wpAny_loadName_free I.ok.kind hk hc hcell fin hcd) hd
theorem pe_int {i j pos} : PE X (.Constant (.int i) j pos) (tC (.int i)) := fun _ _ _ H _ I h => wpAny_Constant_int ⟨.int i, H, I.tok _, ⟨_, rfl⟩, h⟩
theorem pe_bl {b j pos} : PE X (.Constant (.bool b) j pos) (tC (.bl b)) := fun _ _ _ H _ I h => Constant_bool ⟨.bl b, H, I, rfl, h⟩
theorem pe_non {j pos} : PE X (.Constant .none j pos) (tC .non) := fun _ _ _ H _ I h => Constant_none ⟨.non, H, I, rfl, h⟩
theorem pe_str {x j pos} : PE X (.Constant (.str x) j pos) (tC (.str x)) := fun _ _ _ H _ I h => Calls.Constant_str ⟨.str x, H, I.tok _, ⟨_, rfl⟩, h⟩
def Gl (X : Cx) (x : Str) : Prop := X.env.kindOf x = some .globalImplicit
theorem ld_glob {E : Value → Shared → Prop} {pins : List (Addr × Obj)} {s : Shared} {σ : St} {H : Hp} {x : Str} {u : Value} {pos : Pos} {Q : Value → Shared → Prop} (I : Inv X pins σ H s) (hg : Gl X x) (hm : X.mg x = some u) (h : Q u s)
    (hd : (x == ("__debug__" : Str)) = false := by decide) : wpAny (model X.prog X.w) X.A (eval (.Name x pos) X.env) Q E s :=
  Calls.Name_function_global I.ok.kind hg (Calls.loadGlobal_global (by rw [I.ok.glob]; exact I.mod.glob.keeps I.bk) hm h) hd
theorem ld_blt {E : Value → Shared → Prop} {pins : List (Addr × Obj)} {s : Shared} {σ : St} {H : Hp} {x : Str} {u : Value} {pos : Pos} {Q : Value → Shared → Prop} (I : Inv X pins σ H s) (hg : Gl X x) (hm : X.mg x = none) (hv : bootBuiltins x = some u) (h : Q u s)
    (hn : x ≠ "__name__" := by decide) (hd : (x == ("__debug__" : Str)) = false := by decide) : wpAny (model X.prog X.w) X.A (eval (.Name x pos) X.env) Q E s := by
  obtain ⟨mb, h1, h2⟩ := I.mod.blt
  exact Calls.Name_function_global I.ok.kind hg (Calls.loadGlobal_builtin (by rw [I.ok.glob]; exact I.mod.glob.keeps I.bk) hm (by rw [I.ok.blt]; exact h1.keeps I.bk) ((h2 x hn).trans hv) h) hd
theorem pe_bltn {x : Str} {v : V} {u : Value} {pos : Pos} (hg : Gl X x) (hm : X.mg x = none) (hv : bootBuiltins x = some u) (r : RelV v u) (hn : x ≠ "__name__" := by decide) (hd : (x == ("__debug__" : Str)) = false := by decide) : PE X (.Name x pos) (tC v) :=
  fun _ _ _ H _ I h => ld_blt I hg hm hv ⟨v, H, I, r, h⟩ hn hd
variable {a b : Expr} {ta tb : TE} {pos : Pos}
def tB (t : TE) : TT := fun σ H Q => t σ H fun x H1 => ∃ c, x = .bl c ∧ Q c H1
theorem pt_val {e : Expr} {t : TE} (h : PE X e t) (he : ∀ whole, isTrue e X.env whole = (do let v ← whole; standAt e.pos; holding [v] (truthy v)) := by intro _; rfl) : PT X e (tB t) := by
  intro pins s σ H Q I hw
  refine isTrue_plain (thn (h pins s σ H _ I hw) fun v s1 ⟨x, H1, I1, r1, q1⟩ => ?_) (he _)
  obtain ⟨d, rfl, q⟩ := q1
  cases r1
  exact wpAny_truthy_bool ⟨H1, I1, q⟩
variable {tA tB' : TT} {rest : List Expr}
def tAnd (t u : TT) : TT := fun σ H Q => t σ H fun c H1 => if c = true then u σ H1 Q else Q false H1
def tOr (t u : TT) : TT := fun σ H Q => t σ H fun c H1 => if c = true then Q true H1 else u σ H1 Q
def tNot (t : TT) : TT := fun σ H Q => t σ H fun c H1 => Q (!c) H1
theorem pw_and1 (ha : PT X a tA) : PW X (.BoolOp .And [a] pos) tA := by
  intro wh pins s σ H Q I h
  refine isTrue_and (thn (ha pins s σ H Q I h) fun c s1 e => ?_)
  cases c with
  | true => exact isTrue_and_nil e
  | false => exact e
theorem pw_or1 (ha : PT X a tA) : PW X (.BoolOp .Or [a] pos) tA := by
  intro wh pins s σ H Q I h
  refine isTrue_or (thn (ha pins s σ H Q I h) fun c s1 e => ?_)
  cases c with
  | false => exact isTrue_or_nil e
  | true => exact e
theorem pw_and (ha : PT X a tA) (hb : PW X (.BoolOp .And (b :: rest) pos) tB') : PW X (.BoolOp .And (a :: b :: rest) pos) (tAnd tA tB') := by
  intro wh pins s σ H Q I h
  refine isTrue_and (thn (ha pins s σ H _ I h) fun c s1 ⟨H1, I1, q1⟩ => ?_)
  cases c with
  | true => exact hb wh pins s1 σ H1 Q I1 q1
  | false => exact ⟨H1, I1, q1⟩
theorem pw_or (ha : PT X a tA) (hb : PW X (.BoolOp .Or (b :: rest) pos) tB') : PW X (.BoolOp .Or (a :: b :: rest) pos) (tOr tA tB') := by
  intro wh pins s σ H Q I h
  refine isTrue_or (thn (ha pins s σ H _ I h) fun c s1 ⟨H1, I1, q1⟩ => ?_)
  cases c with
  | true => exact ⟨H1, I1, q1⟩
  | false => exact hb wh pins s1 σ H1 Q I1 q1
theorem pt_not (ha : PT X a tA) : PT X (.UnaryOp .Not a pos) (tNot tA) := by
  intro pins s σ H Q I h
  exact isTrue_not (ha pins s σ H (fun c H1 => Q (!c) H1) I h)
def tAndV (ta tb : TE) : TE := fun σ H Q => ta σ H fun x H1 => ∃ c, x = .bl c ∧ if c = true then tb σ H1 Q else Q (.bl false) H1
def tOrV (ta tb : TE) : TE := fun σ H Q => ta σ H fun x H1 => ∃ c, x = .bl c ∧ if c = true then Q (.bl true) H1 else tb σ H1 Q
def tNotV (ta : TE) : TE := fun σ H Q => ta σ H fun x H1 => ∃ c, x = .bl c ∧ Q (.bl (!c)) H1
theorem pe_one {op} {t : TE} (h : PE X a t) : PE X (.BoolOp op [a] pos) t := fun pins s σ H Q I hw => BoolOp_one (h pins s σ H Q I hw)
theorem pe_and (ha : PE X a ta) (hb : PE X (.BoolOp .And (b :: rest) pos) tb) : PE X (.BoolOp .And (a :: b :: rest) pos) (tAndV ta tb) := by
  intro pins s σ H Q I h
  refine BoolOp_and (thn (ha pins s σ H _ I h) fun v s1 ⟨x, H1, I1, r1, q1⟩ => ?_)
  obtain ⟨c, rfl, q1⟩ := q1
  cases r1
  refine wpAny_truthy_bool ?_
  cases c with
  | true => exact hb pins s1 σ H1 Q I1 q1
  | false => exact ⟨.bl false, H1, I1, rfl, q1⟩
theorem pe_or (ha : PE X a ta) (hb : PE X (.BoolOp .Or (b :: rest) pos) tb) : PE X (.BoolOp .Or (a :: b :: rest) pos) (tOrV ta tb) := by
  intro pins s σ H Q I h
  refine BoolOp_or (thn (ha pins s σ H _ I h) fun v s1 ⟨x, H1, I1, r1, q1⟩ => ?_)
  obtain ⟨c, rfl, q1⟩ := q1
  cases r1
  refine wpAny_truthy_bool ?_
  cases c with
  | false => exact hb pins s1 σ H1 Q I1 q1
  | true => exact ⟨.bl true, H1, I1, rfl, q1⟩
theorem pe_not (ha : PE X a ta) : PE X (.UnaryOp .Not a pos) (tNotV ta) := by
  intro pins s σ H Q I h
  refine UnaryOp_ (thn (ha pins s σ H _ I h) fun v s1 ⟨x, H1, I1, r1, q1⟩ => ?_)
  obtain ⟨c, rfl, q1⟩ := q1
  cases r1
  exact not_of (wpAny_truthy_bool ⟨.bl (!c), H1, I1, rfl, q1⟩)
end
end L2
namespace L2
open PySem PySem.Spec PyProof.Rows
def SqL (K : PySem.W.Frag) (H : Hp) (a : Addr) (xs : List V) : Prop :=
  Rd H a (.lst xs) ∨
    ∃ (o : Obj) (its : Array Value) (n : Nat), K.lookup a = some o ∧ o.cls = .type "list" ∧ o.dict = none ∧ o.data = .seq its n ∧ its.size ≤ sizeLine ∧ Vals xs its.toList
def SqT (K : PySem.W.Frag) (H : Hp) (a : Addr) (xs : List V) : Prop :=
  Rd H a (.tup xs) ∨
    ∃ (o : Obj) (its : Array Value) (n : Nat), K.lookup a = some o ∧ o.cls = .type "tuple" ∧ o.data = .seq its n ∧ its.size ≤ sizeLine ∧ Vals xs its.toList
def absV : Value → Option V
  | .none => some .non
  | .bool b => some (.bl b)
  | .int i _ => some (.int i)
  | .str x _ => some (.str x)
  | .bytes b _ => some (.byt b)
  | .float b _ => some (.flt b)
  | .ref a => some (.ref a)
  | .type n => some (.ty n)
  | _ => none
theorem RelV.abs {x : V} {u : Value} (r : RelV x u) : absV u = some x := by
  cases x with
  | non => cases r; rfl
  | bl _ => cases r; rfl
  | int _ => obtain ⟨t, rfl⟩ := r; rfl
  | str _ => obtain ⟨t, rfl⟩ := r; rfl
  | byt _ => obtain ⟨t, rfl⟩ := r; rfl
  | flt _ => obtain ⟨t, rfl⟩ := r; rfl
  | ref _ => cases r; rfl
  | ty _ => cases r; rfl
theorem RelV.inj {x y : V} {u : Value} (r : RelV x u) (q : RelV y u) : x = y := Option.some.inj (r.abs.symm.trans q.abs)
theorem Vals.inj : ∀ {xs ys : List V} {us : List Value}, Vals xs us → Vals ys us → xs = ys
  | _, _, _, .nil, .nil => rfl
  | _, _, _, .cons r t, .cons r' t' => by rw [r.inj r', Vals.inj t t']
section
variable {X : Cx} {pins : List (Addr × Obj)} {σ : St} {H : Hp} {s : Shared} {a : Addr} {xs ys : List V}
theorem SqL.of {K : PySem.W.Frag} (h : H a = some (.lst xs)) : SqL K H a xs := .inl (.inl h)
theorem SqT.of {K : PySem.W.Frag} (h : H a = some (.tup xs)) : SqT K H a xs := .inl (.inl h)
theorem Inv.list (I : Inv X pins σ H s) (h : SqL X.K H a xs) : ∃ its : List Value, Vals xs its ∧ PlainL s.heap a its.toArray ∧ xs.length ≤ sizeLine := by
  rcases h with h | ⟨o, its, n, hk, hc, hd, hs, hz, r⟩
  · obtain ⟨z, its, n, r, e⟩ := h.ok I.hok
    exact ⟨its, r, ⟨_, n, e, rfl, rfl, rfl⟩, z⟩
  · refine ⟨its.toList, r, ⟨o, n, I.kIn a o hk, hc, hd, by simpa using hs⟩, ?_⟩
    have e := r.length
    simp only [Array.length_toList] at e
    omega
theorem Inv.tuple (I : Inv X pins σ H s) (h : SqT X.K H a xs) : ∃ its : List Value, Vals xs its ∧ IsTup s.heap a its.toArray ∧ xs.length ≤ sizeLine := by
  rcases h with h | ⟨o, its, n, hk, hc, hs, hz, r⟩
  · obtain ⟨z, its, r, p⟩ := h.ok I.hok
    exact ⟨its, r, p, z⟩
  · refine ⟨its.toList, r, ⟨o, I.kIn a o hk, hc, n, by simpa using hs⟩, ?_⟩
    have e := r.length
    simp only [Array.length_toList] at e
    omega
theorem Inv.list_inj (I : Inv X pins σ H s) (h : SqL X.K H a xs) (h' : SqL X.K H a ys) : xs = ys := by
  obtain ⟨its, r, ⟨o, n, e, _, _, d⟩, _⟩ := I.list h
  obtain ⟨its', r', ⟨o', n', e', _, _, d'⟩, _⟩ := I.list h'
  rw [e] at e'; cases e'
  rw [d] at d'
  injection d' with d1 _
  have : its = its' := by simpa using congrArg Array.toList d1
  subst this
  exact r.inj r'
theorem Inv.tuple_inj (I : Inv X pins σ H s) (h : SqT X.K H a xs) (h' : SqT X.K H a ys) : xs = ys := by
  obtain ⟨its, r, ⟨o, e, _, n, d⟩, _⟩ := I.tuple h
  obtain ⟨its', r', ⟨o', e', _, n', d'⟩, _⟩ := I.tuple h'
  rw [e] at e'; cases e'
  rw [d] at d'
  injection d' with d1 _
  have : its = its' := by simpa using congrArg Array.toList d1
  subst this
  exact r.inj r'
end
abbrev Cx.wish (X : Cx) (E : Value → Shared → Prop) : Cx := { X with xe := E }
abbrev Cx.nox (X : Cx) : Cx := X.wish fun _ _ => False
theorem Cx.Ok.wish {X : Cx} (ok : X.Ok) (E : Value → Shared → Prop) : (X.wish E).Ok :=
  ⟨ok.mod, ok.kind, ok.glob, ok.blt, ok.above, ok.inj, ok.has, ok.cab, ok.hd, ok.frames, ok.stk, ok.exf, ok.bs, ok.bsz, ok.noex, ok.exfs, ok.funs, ok.frf⟩
theorem Cx.Ok.unwish {X : Cx} {E : Value → Shared → Prop} (ok : (X.wish E).Ok) : X.Ok :=
  ⟨ok.mod, ok.kind, ok.glob, ok.blt, ok.above, ok.inj, ok.has, ok.cab, ok.hd, ok.frames, ok.stk, ok.exf, ok.bs, ok.bsz, ok.noex, ok.exfs, ok.funs, ok.frf⟩
section
variable {X : Cx} {pins : List (Addr × Obj)} {σ : St} {H : Hp} {s : Shared} {E : Value → Shared → Prop}
theorem Inv.wish (I : Inv X pins σ H s) (E : Value → Shared → Prop) : Inv (X.wish E) pins σ H s := ⟨I.ok.wish E, I.os, I.bare, I.base, I.loc, I.cell, I.free, I.freeC, I.pin, I.hok, I.len⟩
theorem Inv.unwish (I : Inv (X.wish E) pins σ H s) : Inv X pins σ H s := ⟨I.ok.unwish, I.os, I.bare, I.base, I.loc, I.cell, I.free, I.freeC, I.pin, I.hok, I.len⟩
theorem SP.unwish {D : Ends} {f : Flow} {s' : Shared} (h : SP (X.wish E) pins D f s') : SP X pins D f s' := by
  cases f with
  | next => obtain ⟨σ', H', I, q⟩ := h; exact ⟨σ', H', I.unwish, q⟩
  | brk => obtain ⟨σ', H', I, q⟩ := h; exact ⟨σ', H', I.unwish, q⟩
  | cont => obtain ⟨σ', H', I, q⟩ := h; exact ⟨σ', H', I.unwish, q⟩
  | ret u => obtain ⟨v, σ', H', I, r, q⟩ := h; exact ⟨v, σ', H', I.unwish, r, q⟩
theorem PSs.nox {st : List Stmt} {t : TS} (h : PSs X.nox st t) : PSs X st t := fun pins s σ H D I hw =>
  wpAny_mono (h pins s σ H D (I.wish _) hw) (fun _ _ q => q.unwish) fun _ _ z => False.elim z
end
section
variable {X : Cx} {st : Stmt} {rest : List Stmt} {t u : TS} {e : Expr} {te : TE} {pos : Pos}
def tNext : TS := fun D σ H => D.nx σ H
def tSeq (t u : TS) : TS := fun D σ H => t { D with nx := u D } σ H
theorem pss_nil : PSs X [] tNext := fun _ _ σ H _ I h => wpAny_execs_nil ⟨σ, H, I, h⟩
theorem pss_cons (h1 : PS X st t) (h2 : PSs X rest u) : PSs X (st :: rest) (tSeq t u) := by
  intro pins s σ H D I h
  refine wpAny_execs_cons (thn (h1 pins s σ H { D with nx := u D } I h) fun f s1 q => ?_)
  cases f with
  | next =>
    obtain ⟨σ', H', I', q⟩ := q
    exact h2 pins s1 σ' H' D I' q
  | ret v => exact q
  | brk => exact q
  | cont => exact q
theorem pss_one (h1 : PS X st t) : PSs X [st] t := by
  intro pins s σ H D I h
  refine wpAny_execs_cons (thn (h1 pins s σ H D I h) fun f s1 q => ?_)
  cases f with
  | next => exact wpAny_execs_nil q
  | ret v => exact q
  | brk => exact q
  | cont => exact q
theorem Inv.quiet {pins : List (Addr × Obj)} {σ : St} {H : Hp} {s : Shared} (I : Inv X pins σ H s) : interactive X.env = false := by simp [interactive, I.ok.kind]
def tDrop (te : TE) : TS := fun D σ H => te σ H fun _ H1 => D.nx σ H1
theorem ps_expr (he : PE X e te) (hs : swapsWith e none pos.line X.env = pure false := by rfl) : PS X (.Expr e pos) (tDrop te) := by
  intro pins s σ H D I h
  exact wpAny_Expr_any (thn (he pins s σ H _ I h) fun v s1 ⟨x, H1, I1, r1, q1⟩ => ⟨σ, H1, I1, q1⟩) I.quiet hs
def tRet (te : TE) : TS := fun D σ H => te σ H D.rt
theorem ps_ret (he : PE X e te) : PS X (.Return (some e) pos) (tRet te) := by
  intro pins s σ H D I h
  exact wpAny_Return_some (thn (he pins s σ H _ I h) fun v s1 ⟨x, H1, I1, r1, q1⟩ => ⟨x, σ, H1, I1, r1, q1⟩)
def tIfS (c : TT) (t u : TS) : TS := fun D σ H => c σ H fun b H1 => if b = true then t D σ H1 else u D σ H1
theorem ps_if {c : Expr} {a b : List Stmt} {tc : TT} (hc : PT X c tc) (ha : PSs X a t) (hb : PSs X b u) : PS X (.If c a b pos) (tIfS tc t u) := by
  intro pins s σ H D I h
  refine wpAny_If (thn (hc pins s σ H _ I h) fun d s1 ⟨H1, I1, q1⟩ => ?_)
  cases d with
  | true => exact ha pins s1 σ H1 D I1 q1
  | false => exact hb pins s1 σ H1 D I1 q1
end
abbrev TG := V → St → Hp → (St → Hp → Prop) → Prop
abbrev TGs := List V → St → Hp → (St → Hp → Prop) → Prop
def PG (X : Cx) (target : Expr) (t : TG) : Prop :=
  ∀ (pins : List (Addr × Obj)) (s : Shared) (σ : St) (H : Hp) (v : V) (u : Value) (Q : St → Hp → Prop), Inv X pins σ H s → RelV v u → t v σ H Q →
    wpAny (model X.prog X.w) X.A (assign target X.env u) (fun _ s' => ∃ σ' H', Inv X pins σ' H' s' ∧ Q σ' H') X.xe s
def PGs (X : Cx) (ts : List Expr) (t : TGs) : Prop :=
  ∀ (pins : List (Addr × Obj)) (s : Shared) (σ : St) (H : Hp) (vs : List V) (us : List Value) (Q : St → Hp → Prop), Inv X pins σ H s → Vals vs us → t vs σ H Q →
    wpAny (model X.prog X.w) X.A (assignInOrder ((assignEach ts X.env).map (·.2)) us) (fun _ s' => ∃ σ' H', Inv X pins σ' H' s' ∧ Q σ' H') X.xe s
section
variable {X : Cx} {pos : Pos}
def gName (i : Nat) : TG := fun v σ H Q => Q (σ.set i (some v)) H
theorem pg_name {i : Nat} {x : Str} (hN : X.N.Nodup) (hi : X.N[i]? = some x) (hx : Loc X.env.scope x) (hf : X.fn x = true ∨ X.env.scope.names.lookup x = some .local := by first | exact .inl rfl | exact .inr rfl | assumption) : PG X (.Name x pos) (gName i) := by
  intro pins s σ H v u Q I r h
  exact wpAny_assign_Name (store_ok I hN hi hx r (fun s' I' => ⟨_, H, I', h⟩) hf)
def gNil : TGs := fun vs σ H Q => vs = [] ∧ Q σ H
def gCons (t : TG) (u : TGs) : TGs := fun vs σ H Q => ∃ v r, vs = v :: r ∧ t v σ H fun σ' H' => u r σ' H' Q
theorem pgs_nil : PGs X [] gNil := by
  intro pins s σ H vs us Q I r h
  obtain ⟨e, h⟩ := h
  subst e
  cases r
  exact assignInOrder_nil ⟨σ, H, I, h⟩
theorem pgs_cons {e : Expr} {es : List Expr} {t : TG} {u : TGs} (h1 : PG X e t) (h2 : PGs X es u)
    (hs : (assignEach (e :: es) X.env).map (·.2) = assign e X.env :: (assignEach es X.env).map (·.2) := by rfl) : PGs X (e :: es) (gCons t u) := by
  intro pins s σ H vs us Q I r h
  obtain ⟨v, vr, e1, h⟩ := h
  subst e1
  cases r with
  | cons r rr =>
    rw [hs]
    refine assignInOrder_cons (thn (h1 pins s σ H _ _ _ I r h) fun _ s1 ⟨σ1, H1, I1, q1⟩ => ?_)
    exact h2 pins s1 σ1 H1 _ _ Q I1 rr q1
def gTup (K : PySem.W.Frag) (n : Nat) (t : TGs) : TG := fun v σ H Q => ∃ a xs, v = .ref a ∧ SqT K H a xs ∧ xs.length = n ∧ t xs σ H Q
theorem pg_tup {es : List Expr} {k : Nat} {t : TGs} {n : Nat} (hc : X.calm = true) (h : PGs X es t)
    (hn : (assignEach es X.env).length = n := by rfl) (hst : (assignEach es X.env).findIdx? (·.1) = none := by rfl) : PG X (.Tuple es k pos) (gTup X.K n t) := by
  intro pins s σ H v u Q I r hw
  obtain ⟨a, xs, e1, hq, hl, hw⟩ := hw
  subst e1
  cases r
  obtain ⟨its, rv, ht, hz⟩ := I.tuple hq
  refine assign_Tuple_tuple (I.ok.hd hc) ht (by simp [hn, ← hl, rv.length]) hst fun h' hx => ?_
  have I1 : Inv X pins σ H { s with heap := h' } := I.kept (t' := s.toks) fun b o e => hx b o (Nat.ne_of_lt (Heap.lt_size e)) e
  exact h pins _ σ H xs _ Q I1 (by simpa using rv) hw
def tAsg (te : TE) (g : TG) : TS := fun D σ H => te σ H fun x H1 => g x σ H1 D.nx
theorem ps_asg {tg e : Expr} {te : TE} {g : TG} (he : PE X e te) (hg : PG X tg g) (hs : swapsWithSole [tg] e pos.line X.env = pure false := by rfl) (hw : swappedStores [tg] e X.env = pure none := by rfl)
    (h1 : (assignEach [tg] X.env).map (·.2) = [assign tg X.env] := by rfl) : PS X (.Assign [tg] e pos) (tAsg te g) := by
  intro pins s σ H D I h
  refine wpAny_Assign_stores (thn (he pins s σ H _ I h) fun v s1 ⟨x, H1, I1, r1, q1⟩ => ?_) hs hw
  rw [h1]
  exact thn (hg pins s1 σ H1 x v _ I1 r1 q1) fun _ s2 q => q
theorem ps_set {i : Nat} {x : Str} {e : Expr} {te : TE} {pos' : Pos} (hN : X.N.Nodup) (hi : X.N[i]? = some x) (hx : Loc X.env.scope x) (he : PE X e te) (hs : swapsWith e (some (.Name x pos')) pos.line X.env = pure false := by rfl) (hf : X.fn x = true ∨ X.env.scope.names.lookup x = some .local := by first | exact .inl rfl | exact .inr rfl | assumption) :
    PS X (.Assign [.Name x pos'] e pos) (tAsg te (gName i)) := by
  intro pins s σ H D I h
  refine wpAny_Assign_Name (thn (he pins s σ H _ I h) fun v s1 ⟨y, H1, I1, r1, q1⟩ => ?_) hs
  exact store_ok I1 hN hi hx r1 (fun s2 I2 => ⟨_, H1, I2, q1⟩) hf
def tPar (i j : Nat) (ta : TA) : TS := fun D σ H => ta σ H fun vs H1 => ∃ v w, vs = [v, w] ∧ D.nx ((σ.set i (some v)).set j (some w)) H1
theorem ps_par {i j : Nat} {x y : Str} {a b : Expr} {ta : TA} {px py pt : Pos} {kt k2 pt2} (hc : X.calm = true) (hN : X.N.Nodup) (hi : X.N[i]? = some x) (hj : X.N[j]? = some y) (hij : i ≠ j)
    (hx : X.env.scope.names.lookup x = some .local) (hy : X.env.scope.names.lookup y = some .local) (ha : PA X [a, b] ta)
    (hw : swappedStores [.Tuple [.Name x px, .Name y py] kt pt] (.Tuple [a, b] k2 pt2) X.env = pure (some [x, y]))
    (hs : swapsWithSole [.Tuple [.Name x px, .Name y py] kt pt] (.Tuple [a, b] k2 pt2) pos.line X.env = pure false := by rfl) :
    PS X (.Assign [.Tuple [.Name x px, .Name y py] kt pt] (.Tuple [a, b] k2 pt2) pos) (tPar i j ta) := by
  intro pins s σ H D I h
  rw [exec_Assign_arm]
  refine wpAny_bind (wpAny_standAt ?_)
  rw [hs]
  refine wpAny_bind (wpAny_pure ?_)
  rw [if_neg (by decide)]
  refine wpAny_bind (Tuple_ (thn (ha _ pins s σ H _ I h) fun us s1 ⟨vs, H1, I1, r1, q1⟩ => ?_))
  obtain ⟨v, w, e1, q1⟩ := q1
  subst e1
  obtain ⟨u1, u2, rfl, rv, rw'⟩ : ∃ u1 u2, us = [u1, u2] ∧ RelV v u1 ∧ RelV w u2 := by
    cases r1 with
    | cons p q =>
      cases q with
      | cons p' q' =>
        cases q'
        exact ⟨_, _, rfl, p, p'⟩
  refine wpAny_newObj_type ?_ (by show 2 ≤ sizeLine; decide)
  have I2 : Inv X pins σ H1 { s1 with heap := s1.heap.push { cls := .type "tuple", data := .seq [u1, u2].toArray } } := I1.kept (t' := s1.toks) fun b o e => Heap.get?_push_of_some _ e
  rw [hw]
  refine wpAny_bind (wpAny_pure ?_)
  show wpAny (model X.prog X.w) X.A (do rule "assign.swapped-stores"; let items ← unpackItems (.ref s1.heap.objs.size) 2 none; assignInOrder [fun v => bindName X.env y v, fun v => bindName X.env x v] items.reverse; pure Flow.next) _ _ _
  refine wpAny_bind (wpAny_rule (wpAny_bind (unpackItems_tuple (items := #[u1, u2]) (I.ok.hd hc) (IsTup.new s1.heap _) fun h' hx' => ?_)))
  have I3 := I2.kept (h' := h') (t' := s1.toks) fun b o e => hx' b o (Nat.ne_of_lt (Heap.lt_size e)) e
  show wpAny _ _ (assignInOrder [fun v => bindName X.env y v, fun v => bindName X.env x v] [u2, u1] >>= fun _ => pure Flow.next) _ _ _
  refine wpAny_bind (assignInOrder_cons (wpAny_bindName (store_ok I3 hN hj (.inl hy) rw' (fun s2 I4 => ?_) (.inr hy))))
  refine assignInOrder_cons (wpAny_bindName (store_ok I4 hN hi (.inl hx) rv (fun s3 I5 => assignInOrder_nil (wpAny_pure ?_)) (.inr hx)))
  rw [List.set_comm _ _ (Ne.symm hij)] at I5
  exact ⟨_, H1, I5, q1⟩
end
section
variable {X : Cx} {pos : Pos}
def tWhile (c : TT) (tb : TS) : TS := fun D σ H => ∃ W : Nat → St → Hp → Prop, (∃ m, W m σ H) ∧ ∀ m σ H, W m σ H →
  c σ H fun b H1 => if b = true then ∃ N : St → Hp → Prop, (∀ σ' H', N σ' H' → ∃ m', m' < m ∧ W m' σ' H') ∧ tb { D with nx := N, ct := N, bk := D.nx } σ H1 else D.nx σ H1
theorem ps_while {c : Expr} {body : List Stmt} {tc : TT} {tb : TS} (hp : PassesOwn (model X.prog X.w) X.A X.env X.xe) (hc : PT X c tc) (hb : PSs X body tb) : PS X (.While c body [] pos) (tWhile tc tb) := by
  intro pins s σ H D I h
  obtain ⟨W, ⟨m0, w0⟩, turn⟩ := h
  refine wpAny_While (codeAny_whileLoop (fun n s' => ∃ σ' H', Inv X pins σ' H' s' ∧ W n σ' H') ?_ m0 ⟨σ, H, I, w0⟩)
  rintro n s1 ⟨σ1, H1, I1, w1⟩
  refine wpAny_passesOwn hp (thn (hc pins s1 σ1 H1 _ I1 (turn n σ1 H1 w1)) fun b s2 ⟨H2, I2, q2⟩ => ?_)
  cases b with
  | true =>
    obtain ⟨N, hN, q2⟩ := q2
    rw [if_pos rfl]
    refine wpAny_passesOwn hp (thn (hb pins s2 σ1 H2 _ I2 q2) fun f s3 q3 => ?_)
    cases f with
    | next =>
      obtain ⟨σ3, H3, I3, n3⟩ := q3
      obtain ⟨m', hm, w3⟩ := hN σ3 H3 n3
      exact ⟨m', hm, σ3, H3, I3, w3⟩
    | cont =>
      obtain ⟨σ3, H3, I3, n3⟩ := q3
      obtain ⟨m', hm, w3⟩ := hN σ3 H3 n3
      exact ⟨m', hm, σ3, H3, I3, w3⟩
    | brk => exact q3
    | ret v => exact q3
  | false =>
    rw [if_neg Bool.false_ne_true]
    exact wpAny_execs_nil ⟨σ1, H2, I2, q2⟩
end
structure It where
  go : Nat → Hp → Prop
  yld : Nat → Hp → V → Hp → Prop
  stop : Nat → Hp → Prop
def FpOk (X : Cx) (pins : List (Addr × Obj)) (H : Hp) (b : Addr) : Prop :=
  H b = none ∧ b ≠ X.env.locals ∧ b ∉ X.fs ∧ (b ∈ X.ex ∨ X.s₀.heap.objs.size ≤ b) ∧ (∀ x c, X.env.cells.lookup x = some c → c ≠ b) ∧ ∀ p ∈ X.pn ++ pins, p.1 ≠ b
theorem Inv.fpOk {X : Cx} {pins : List (Addr × Obj)} {σ : St} {H H' : Hp} {s : Shared} {b : Addr} (I : Inv X pins σ H s) (hb : s.heap.objs.size ≤ b) (hn : H' b = none) : FpOk X pins H' b := by
  refine ⟨hn, Nat.ne_of_gt (Nat.lt_of_lt_of_le I.lt hb), I.nofs hb, .inr (Nat.le_trans I.sz hb), fun x c e z => ?_, fun p hp z => ?_⟩
  · obtain ⟨v, q⟩ := I.cell x c e
    exact absurd (Nat.lt_of_lt_of_le q.lt (by rw [z]; exact hb)) (Nat.lt_irrefl _)
  · exact absurd (Nat.lt_of_lt_of_le (Heap.lt_size (I.pin p hp).1) (by rw [z]; exact hb)) (Nat.lt_irrefl _)
structure Turn (P : Program) (w : World) (K : PySem.W.Frag) (tg : Expr) (J : It) (fp : List Addr) (it : Addr) (tn : Nat → Heap → Prop) : Prop where
  mem : it ∈ fp
  obj : ∀ i h, tn i h → ∀ b ∈ fp, ∃ o, h.get? b = some o ∧ ∀ v, o.data ≠ .cell v
  keep : ∀ i h h', tn i h → (∀ b ∈ fp, ∀ o, h.get? b = some o → h'.get? b = some o) → tn i h'
  item : ∀ (X : Cx), X.prog = P → X.w = w → X.K = K → X.calm = true → ∀ (i : Nat) (pins : List (Addr × Obj)) (s : Shared) (σ : St) (H : Hp) (E : Value → Shared → Prop), Inv X pins σ H s → (∀ b ∈ fp, FpOk X pins H b) → tn i s.heap → J.go i H →
    wpAny (model P w) X.A (pyNext (.ref it)) (fun r s1 => ∃ u, r = some u ∧
      wpAny (model P w) X.A (letOwnedTupleGo tg (.ref it) u) (fun _ s2 => ∃ x H', Inv X pins σ H' s2 ∧ RelV x u ∧ J.yld i H x H' ∧ tn (i + 1) s2.heap ∧ ∀ b ∈ fp, H' b = none) E s1) E s
  done : ∀ (X : Cx), X.prog = P → X.w = w → X.K = K → X.calm = true → ∀ (i : Nat) (pins : List (Addr × Obj)) (s : Shared) (σ : St) (H : Hp) (E : Value → Shared → Prop), Inv X pins σ H s → (∀ b ∈ fp, FpOk X pins H b) → tn i s.heap → J.stop i H →
    wpAny (model P w) X.A (pyNext (.ref it)) (fun r s1 => r = none ∧ Inv X pins σ H s1) E s
  self : ∀ (A : Around) (i : Nat) (s : Shared) (Q : Value → Shared → Prop) (E : Value → Shared → Prop), tn i s.heap → Q (.ref it) s → wpAny (model P w) A (pyIter (.ref it)) Q E s
abbrev TI := St → Hp → (It → Hp → Prop) → Prop
def PIE (X : Cx) (pins : List (Addr × Obj)) (σ : St) (tg : Expr) (R : It → Hp → Prop) (itv : Value) (s2 : Shared) : Prop :=
  ∃ (it : Addr) (fp : List Addr) (tn : Nat → Heap → Prop) (J : It) (H' : Hp), itv = .ref it ∧ Inv X pins σ H' s2 ∧ Turn X.prog X.w X.K tg J fp it tn ∧ tn 0 s2.heap ∧ (∀ b ∈ fp, FpOk X pins H' b) ∧ R J H'
def PI (X : Cx) (tg iter : Expr) (wi : TI) : Prop :=
  ∀ (pins : List (Addr × Obj)) (s : Shared) (σ : St) (H : Hp) (R : It → Hp → Prop), Inv X pins σ H s → wi σ H R →
    wpAny (model X.prog X.w) X.A (eval iter X.env) (fun v s1 => wpAny (model X.prog X.w) X.A (pyIter v) (PIE X pins σ tg R) X.xe s1) X.xe s
theorem go_of {M : Model} {A : Around} {E : Value → Shared → Prop} {s : Shared} {tg : Expr} {it : Addr} {u : Value} {o : Obj} {n : String} {vs : Array Value} {Q : Unit → Shared → Prop} (ho : s.heap.get? it = some o) (hc : o.cls = .type n) (hd : o.data = .fields vs)
    (hn : ["enumerate", "zip", "dict_itemiterator", "dict_reverseitemiterator", "odict_iterator", "itertools.zip_longest", "itertools.pairwise"].contains n = false) (hQ : Q () s) : wpAny M A (letOwnedTupleGo tg (.ref it) u) Q E s := by
  unfold letOwnedTupleGo
  cases tg <;> first
    | exact wpAny_pure hQ
    | (cases u <;> first
        | exact wpAny_pure hQ
        | (refine wpAny_bind (wpAny_load ho ?_)
           rw [hc, hd]
           show wpAny M A (if (["enumerate", "zip", "dict_itemiterator", "dict_reverseitemiterator", "odict_iterator", "itertools.zip_longest", "itertools.pairwise"].contains n && vs[0]? == some (rawInt _)) = true then _ else _) Q E s
           rw [if_neg (by intro h; rw [hn, Bool.false_and] at h; cases h)]
           exact wpAny_pure hQ))
def Itl (K : PySem.W.Frag) (a : Addr) : It :=
  ⟨fun i H => ∃ xs x, SqL K H a xs ∧ xs[i]? = some x, fun i H x H' => H' = H ∧ ∀ xs, SqL K H a xs → xs[i]? = some x, fun i H => ∃ xs, SqL K H a xs ∧ xs.length ≤ i⟩
def Itt (K : PySem.W.Frag) (a : Addr) : It :=
  ⟨fun i H => ∃ xs x, SqT K H a xs ∧ xs[i]? = some x, fun i H x H' => H' = H ∧ ∀ xs, SqT K H a xs → xs[i]? = some x, fun i H => ∃ xs, SqT K H a xs ∧ xs.length ≤ i⟩
def Itr (lo : Int) (n : Nat) : It := ⟨fun i _ => i < n, fun i H x H' => H' = H ∧ x = .int (lo + i), fun i _ => n ≤ i⟩
theorem turn_list {P : Program} {w : World} {K : PySem.W.Frag} {tg : Expr} (a it : Addr) : Turn P w K tg (Itl K a) [it] it (fun i h => h.IsListIter it a i) where
  mem := by simp
  obj := fun i h st b hb => by
    have e : b = it := by simpa using hb
    subst e
    obtain ⟨o, e, c, d⟩ := st
    exact ⟨o, e, fun v z => by rw [d] at z; cases z⟩
  keep := fun i h h' st k => st.at fun o e => k it (by simp) o e
  item := by
    intro X hP hw hK hc i pins s σ H E I hf st hg
    subst hP hw hK
    obtain ⟨xs, x, hq, hx⟩ := hg
    obtain ⟨its, rv, p, hz⟩ := I.list hq
    obtain ⟨u, hu, ru⟩ := rv.get hx
    obtain ⟨f0, f1, f2, f3, f4, f5⟩ := hf it (by simp)
    refine wpAny_pyNext_list_item st p.isList (x := u) (by simpa using hu) fun h' st' sb => ?_
    have I1 : Inv X pins σ H { s with heap := h' } := I.turned (t' := s.toks) (fun b o hb e => (sb.2 b hb).trans e) f0 f1 f3 f4 f5
    obtain ⟨o, e, c, d⟩ := id st'
    exact ⟨u, rfl, go_of (s := { s with heap := h' }) e c d (by decide) ⟨x, H, I1, ru, ⟨rfl, fun ys hy => by rw [I.list_inj hy hq]; exact hx⟩, st', fun b hb => (hf b hb).1⟩⟩
  done := by
    intro X hP hw hK hc i pins s σ H E I hf st hg
    subst hP hw hK
    obtain ⟨xs, hq, hx⟩ := hg
    obtain ⟨its, rv, p, hz⟩ := I.list hq
    obtain ⟨f0, f1, f2, f3, f4, f5⟩ := hf it (by simp)
    have hl := rv.length
    exact wpAny_pyNext_list_end (I.ok.hd hc) st p.isList (by simp; omega) fun h' eb => ⟨rfl, I.turned (t' := s.toks) (fun b o hb e => eb b o hb e) f0 f1 f3 f4 f5⟩
  self := fun _ _ _ _ _ st h => wpAny_pyIter_listiter st h
theorem turn_tuple {P : Program} {w : World} {K : PySem.W.Frag} {tg : Expr} (a it : Addr) : Turn P w K tg (Itt K a) [it] it (fun i h => h.IsTupleIter it a i) where
  mem := by simp
  obj := fun i h st b hb => by
    have e : b = it := by simpa using hb
    subst e
    obtain ⟨o, e, c, d⟩ := st
    exact ⟨o, e, fun v z => by rw [d] at z; cases z⟩
  keep := fun i h h' st k => st.at fun o e => k it (by simp) o e
  item := by
    intro X hP hw hK hc i pins s σ H E I hf st hg
    subst hP hw hK
    obtain ⟨xs, x, hq, hx⟩ := hg
    obtain ⟨its, rv, p, hz⟩ := I.tuple hq
    obtain ⟨u, hu, ru⟩ := rv.get hx
    obtain ⟨f0, f1, f2, f3, f4, f5⟩ := hf it (by simp)
    refine wpAny_pyNext_tuple_item st (show s.heap.IsTuple a its.toArray from p) (x := u) (by simpa using hu) fun h' st' sb => ?_
    have I1 : Inv X pins σ H { s with heap := h' } := I.turned (t' := s.toks) (fun b o hb e => (sb.2 b hb).trans e) f0 f1 f3 f4 f5
    obtain ⟨o, e, c, d⟩ := id st'
    exact ⟨u, rfl, go_of (s := { s with heap := h' }) e c d (by decide) ⟨x, H, I1, ru, ⟨rfl, fun ys hy => by rw [I.tuple_inj hy hq]; exact hx⟩, st', fun b hb => (hf b hb).1⟩⟩
  done := by
    intro X hP hw hK hc i pins s σ H E I hf st hg
    subst hP hw hK
    obtain ⟨xs, hq, hx⟩ := hg
    obtain ⟨its, rv, p, hz⟩ := I.tuple hq
    obtain ⟨f0, f1, f2, f3, f4, f5⟩ := hf it (by simp)
    have hl := rv.length
    exact wpAny_pyNext_tuple_end (I.ok.hd hc) st (show s.heap.IsTuple a its.toArray from p) (by simp; omega) fun h' eb => ⟨rfl, I.turned (t' := s.toks) (fun b o hb e => eb b o hb e) f0 f1 f3 f4 f5⟩
  self := fun _ _ _ _ _ st h => wpAny_pyIter_tupleiter st h
theorem turn_range {P : Program} {w : World} {K : PySem.W.Frag} {tg : Expr} (it : Addr) (lo : Int) (n : Nat) : Turn P w K tg (Itr lo n) [it] it (fun i h => IsRangeIter h it (lo + (i : Nat) * 1) ((n : Int) - (i : Nat)) 1) where
  mem := by simp
  obj := fun i h st b hb => by
    have e : b = it := by simpa using hb
    subst e
    exact ⟨_, st, fun v z => by
      have z' : Data.fields _ = Data.cell v := z
      cases z'⟩
  keep := fun i h h' st k => k it (by simp) _ st
  item := by
    intro X hP hw hK hc i pins s σ H E I hf st hg
    subst hP hw hK
    obtain ⟨f0, f1, f2, f3, f4, f5⟩ := hf it (by simp)
    have W := Walks.range (prog := X.prog) (w := X.w) (I.ok.hd hc) it lo 1 n
    refine W.item i s _ _ hg st fun v h' tk hv st' kk => ?_
    obtain ⟨t, rfl⟩ := hv
    have I1 : Inv X pins σ H { s with heap := h', toks := tk } := I.turned (fun b o hb e => kk b o (by simpa using hb) e) f0 f1 f3 f4 f5
    refine ⟨_, rfl, go_of (s := { s with heap := h', toks := tk }) (n := "range_iterator") st' rfl rfl (by decide) ⟨.int (lo + i), H, I1, ⟨t, ?_⟩, ⟨rfl, rfl⟩, st', fun b hb => (hf b hb).1⟩⟩
    rw [Int.mul_one]
  done := by
    intro X hP hw hK hc i pins s σ H E I hf st hg
    subst hP hw hK
    obtain ⟨f0, f1, f2, f3, f4, f5⟩ := hf it (by simp)
    exact wpAny_pyNext_range_end (I.ok.hd hc) st (by have : n ≤ i := hg; omega) fun h' eb => ⟨rfl, I.turned (t' := s.toks) (fun b o hb e => eb b o hb e) f0 f1 f3 f4 f5⟩
  self := fun _ _ _ _ _ st h => wpAny_pyIter_rangeiter st h
end L2
namespace L2
open PySem PySem.Spec PyProof.Rows
section
variable {X : Cx} {tg : Expr}
theorem range_it {pins : List (Addr × Obj)} {σ : St} {H : Hp} {s : Shared} {R : It → Hp → Prop} {E : Value → Shared → Prop} {lo hi : Int} {t u v : Tok} {tk : Nat} (I : Inv X pins σ H s) (h1 : -(2 ^ 62) ≤ lo) (h2 : lo < 2 ^ 62) (h3 : -(2 ^ 62) ≤ hi) (h4 : hi < 2 ^ 62)
    (q : R (Itr lo (hi - lo).toNat) H) : wpAny (model X.prog X.w) X.A (pyIter (.ref s.heap.objs.size)) (PIE X pins σ tg R) E { s with heap := s.heap.push { cls := .type "range", data := .fields #[.int lo t, .int hi u, .int 1 v] }, toks := tk } := by
  refine wpAny_pyIter_range (IsRange.new ..) (small_one h1 h2 h3 h4) ?_
  have I1 : Inv X pins σ H { s with heap := s.heap.push { cls := .type "range", data := .fields #[.int lo t, .int hi u, .int 1 v] }, toks := tk } := I.kept fun b o e => Heap.get?_push_of_some _ e
  refine ⟨(s.heap.push { cls := .type "range", data := .fields #[.int lo t, .int hi u, .int 1 v] }).objs.size, [(s.heap.push { cls := .type "range", data := .fields #[.int lo t, .int hi u, .int 1 v] }).objs.size], _, _, H, rfl,
    I1.kept (t' := tk) fun b o e => Heap.get?_push_of_some _ e, turn_range _ lo (hi - lo).toNat, ?_, fun b hb => ?_, q⟩
  · have e1 : lo + ((0 : Nat) : Int) * 1 = lo := by simp
    have e2 : (((hi - lo).toNat : Nat) : Int) - ((0 : Nat) : Int) = Builtin.Range.rangeSize lo hi 1 := by rw [rangeSize_one]; split <;> omega
    show IsRangeIter _ _ (lo + ((0 : Nat) : Int) * 1) ((((hi - lo).toNat : Nat) : Int) - ((0 : Nat) : Int)) 1
    rw [e1, e2]
    exact Heap.get?_push_size _ rfl
  · have e : b = (s.heap.push { cls := .type "range", data := .fields #[.int lo t, .int hi u, .int 1 v] }).objs.size := by simpa using hb
    subst e
    exact I1.fpOk (Nat.le_refl _) (I1.hok.fresh (Nat.le_refl _))
def iRng1 (ta : TA) : TI := fun σ H R => ta σ H fun vs H1 => ∃ j : Int, vs = [.int j] ∧ -(2 ^ 62) ≤ j ∧ j < 2 ^ 62 ∧ R (Itr 0 j.toNat) H1
theorem pi_range1 {a : Expr} {ta : TA} {p pos : Pos} (hg : Gl X "range") (hm : X.mg "range" = none) (ha : PA X [a] ta) (hs : starEach [a] X.env = [(false, eval a X.env)] := by rfl) : PI X tg (.Call (.Name "range" p) [a] [] pos) (iRng1 ta) := by
  intro pins s σ H R I h
  refine Call_ (ld_blt I hg hm boot_range (PyProof.Rows.callWith_type1 (thn (ha pos pins s σ H _ I h) fun us s1 ⟨vs, H1, I1, r1, q1⟩ => ?_) hs rfl))
  obtain ⟨j, e, q1, q2, q⟩ := q1
  subst e
  cases r1 with
  | cons r rr =>
    cases rr
    obtain ⟨t, rfl⟩ := r
    exact call_range_1 (range_it I1 (by omega) (by omega) q1 q2 (by simpa using q))
def tFor (wi : TI) (g : TG) (tb : TS) : TS := fun D σ H => wi σ H fun J H1 => ∃ W : Nat → Nat → St → Hp → Prop, (∃ m, W 0 m σ H1) ∧ ∀ i m σ H, W i m σ H →
  (J.stop i H ∧ D.nx σ H) ∨ (J.go i H ∧ ∃ N : St → Hp → Prop, (∀ σ' H', N σ' H' → ∃ m', m' < m ∧ W (i + 1) m' σ' H') ∧ ∀ x H', J.yld i H x H' → g x σ H' fun σ2 H2 => tb { D with nx := N, ct := N, bk := D.nx } σ2 H2)
def pinsAt (fp : List Addr) (h : Heap) : List (Addr × Obj) := fp.filterMap fun b => (h.get? b).map fun o => (b, o)
theorem mem_pinsAt {fp : List Addr} {h : Heap} {b : Addr} {o : Obj} (hb : b ∈ fp) (e : h.get? b = some o) : (b, o) ∈ pinsAt fp h := List.mem_filterMap.mpr ⟨b, hb, by rw [e]; rfl⟩
theorem of_pinsAt {fp : List Addr} {h : Heap} {p : Addr × Obj} (hp : p ∈ pinsAt fp h) : p.1 ∈ fp ∧ h.get? p.1 = some p.2 := by
  obtain ⟨b, hb, e⟩ := List.mem_filterMap.mp hp
  cases q : h.get? b with
  | none => rw [q] at e; cases e
  | some o =>
    rw [q] at e
    have e' : (b, o) = p := Option.some.inj e
    subst e'
    exact ⟨hb, q⟩
theorem Inv.pinned {pins : List (Addr × Obj)} {σ : St} {H : Hp} {s : Shared} {fp : List Addr} (I : Inv X pins σ H s) (hf : ∀ b ∈ fp, FpOk X pins H b) (ho : ∀ b ∈ fp, ∃ o, s.heap.get? b = some o ∧ ∀ v, o.data ≠ .cell v) : Inv X (pins ++ pinsAt fp s.heap) σ H s :=
  I.pins_of fun p hp => (List.mem_append.mp hp).elim (fun z => I.pin p (List.mem_append_right _ z)) fun z => by
    obtain ⟨hb, e⟩ := of_pinsAt z
    obtain ⟨f0, f1, f2, _⟩ := hf p.1 hb
    obtain ⟨o, e', d⟩ := ho p.1 hb
    rw [e] at e'; cases e'
    exact ⟨e, f0, f1, f2, d⟩
theorem Inv.unpinned {pins pl : List (Addr × Obj)} {σ : St} {H : Hp} {s : Shared} (I : Inv X (pins ++ pl) σ H s) : Inv X pins σ H s := I.pins_of fun p hp => I.pin p (List.mem_append_right _ (List.mem_append_left _ hp))
theorem ps_for {iter : Expr} {body : List Stmt} {wi : TI} {g : TG} {tb : TS} {pos : Pos} (hp : PassesOwn (model X.prog X.w) X.A X.env X.xe) (hc : X.calm = true) (hi : PI X tg iter wi) (hg : PG X tg g) (hb : PSs X body tb)
    (hs : ∀ x, foldedSetIterable iter X.env x = pure x := by intro _; rfl) : PS X (.For tg iter body [] pos) (tFor wi g tb) := by
  intro pins s σ H D I h
  refine wpAny_For (thn (hi pins s σ H _ I h) fun v s1 h1 => thn h1 fun itv s2 h2 => ?_) hs
  obtain ⟨it, fp, tn, J, H2, e, I2, T, st2, f2, W, ⟨m0, w0⟩, turn⟩ := h2
  subst e
  -- what stays true of the iterator's objects through the loop
  have stat : ∀ {H' : Hp}, (∀ b ∈ fp, H' b = none) → ∀ b ∈ fp, FpOk X pins H' b := fun hn b hb => ⟨hn b hb, (f2 b hb).2⟩
  refine codeAny_forLoop_any (fun n s' => ∃ i σ' H', Inv X pins σ' H' s' ∧ tn i s'.heap ∧ (∀ b ∈ fp, H' b = none) ∧ W i n σ' H') ?_ m0 ⟨0, σ, H2, I2, st2, fun b hb => (f2 b hb).1, w0⟩
  rintro n s3 ⟨i, σ3, H3, I3, st3, fr3, w3⟩
  rcases turn i n σ3 H3 w3 with ⟨stop, qn⟩ | ⟨go, N, hN, step⟩
  · refine wpAny_passesOwn hp (thn (T.done X rfl rfl rfl hc i pins s3 σ3 H3 X.xe I3 (stat fr3) st3 stop) fun r s4 ⟨hr, I4⟩ => ?_)
    subst hr
    exact wpAny_execs_nil ⟨σ3, H3, I4, qn⟩
  · refine wpAny_passesOwn hp (thn (T.item X rfl rfl rfl hc i pins s3 σ3 H3 X.xe I3 (stat fr3) st3 go) fun r s4 ⟨u, hr, h4⟩ => ?_)
    subst hr
    refine wpAny_passesOwn hp (thn h4 fun _ s5 ⟨x, H5, I5, r5, y5, st5, fr5⟩ => ?_)
    have I5' := I5.pinned (stat fr5) (T.obj _ _ st5)
    refine wpAny_passesOwn hp (thn (hg _ s5 σ3 H5 x u _ I5' r5 (step x H5 y5)) fun _ s6 ⟨σ6, H6, I6, q6⟩ => ?_)
    refine wpAny_passesOwn hp (thn (hb _ s6 σ6 H6 _ I6 q6) fun f s7 q7 => ?_)
    have again : ∀ {σ7 : St} {H7 : Hp}, Inv X (pins ++ pinsAt fp s5.heap) σ7 H7 s7 → N σ7 H7 → ∃ m, m < n ∧ ∃ i σ' H', Inv X pins σ' H' s7 ∧ tn i s7.heap ∧ (∀ b ∈ fp, H' b = none) ∧ W i m σ' H' := fun {σ7 H7} I7 n7 => by
      obtain ⟨m', hm, w7⟩ := hN σ7 H7 n7
      refine ⟨m', hm, i + 1, σ7, H7, I7.unpinned, T.keep _ _ _ st5 fun b hb o e => (I7.pin (b, o) (List.mem_append_right _ (List.mem_append_right _ (mem_pinsAt hb e)))).1, fun b hb => ?_, w7⟩
      obtain ⟨o, e, d⟩ := T.obj _ _ st5 b hb
      exact (I7.pin (b, o) (List.mem_append_right _ (List.mem_append_right _ (mem_pinsAt hb e)))).2.1
    cases f with
    | next => obtain ⟨σ7, H7, I7, n7⟩ := q7; exact again I7 n7
    | cont => obtain ⟨σ7, H7, I7, n7⟩ := q7; exact again I7 n7
    | brk => obtain ⟨σ7, H7, I7, q7⟩ := q7; exact ⟨σ7, H7, I7.unpinned, q7⟩
    | ret v => obtain ⟨x7, σ7, H7, I7, r7, q7⟩ := q7; exact ⟨x7, σ7, H7, I7.unpinned, r7, q7⟩
end
theorem for_list {K : PySem.W.Frag} {a : Addr} {xs : List V} {g : TG} {tb : TS} {D : Ends} {σ : St} {H : Hp} (Pv : Nat → St → Hp → Prop) (h0 : Pv 0 σ H) (hl : ∀ i σ H, i ≤ xs.length → Pv i σ H → SqL K H a xs)
    (hs : ∀ i x σ H, xs[i]? = some x → Pv i σ H → g x σ H fun σ2 H2 => tb { D with nx := Pv (i + 1), ct := Pv (i + 1), bk := D.nx } σ2 H2) (hd : ∀ σ H, Pv xs.length σ H → D.nx σ H) :
    ∃ W : Nat → Nat → St → Hp → Prop, (∃ m, W 0 m σ H) ∧ ∀ i m σ H, W i m σ H →
      ((Itl K a).stop i H ∧ D.nx σ H) ∨ ((Itl K a).go i H ∧ ∃ N : St → Hp → Prop, (∀ σ' H', N σ' H' → ∃ m', m' < m ∧ W (i + 1) m' σ' H') ∧ ∀ x H', (Itl K a).yld i H x H' → g x σ H' fun σ2 H2 => tb { D with nx := N, ct := N, bk := D.nx } σ2 H2) := by
  refine ⟨fun i m σ H => m = xs.length - i ∧ i ≤ xs.length ∧ Pv i σ H, ⟨xs.length, by simp, Nat.zero_le _, h0⟩, ?_⟩
  rintro i m σ H ⟨rfl, hi, p⟩
  have q := hl i σ H hi p
  by_cases hlt : i < xs.length
  · refine .inr ⟨⟨xs, xs[i], q, by simp [hlt]⟩, Pv (i + 1), fun σ' H' p' => ⟨xs.length - (i + 1), by omega, rfl, hlt, p'⟩, fun x H' y => ?_⟩
    obtain ⟨e, y⟩ := y
    subst e
    exact hs i x σ _ (y xs q) p
  · have e : i = xs.length := by omega
    subst e
    exact .inl ⟨⟨xs, q, Nat.le_refl _⟩, hd σ H p⟩
theorem for_range {lo : Int} {n : Nat} {g : TG} {tb : TS} {D : Ends} {σ : St} {H : Hp} (Pv : Nat → St → Hp → Prop) (h0 : Pv 0 σ H)
    (hs : ∀ i σ H, i < n → Pv i σ H → g (.int (lo + i)) σ H fun σ2 H2 => tb { D with nx := Pv (i + 1), ct := Pv (i + 1), bk := D.nx } σ2 H2) (hd : ∀ σ H, Pv n σ H → D.nx σ H) :
    ∃ W : Nat → Nat → St → Hp → Prop, (∃ m, W 0 m σ H) ∧ ∀ i m σ H, W i m σ H →
      ((Itr lo n).stop i H ∧ D.nx σ H) ∨ ((Itr lo n).go i H ∧ ∃ N : St → Hp → Prop, (∀ σ' H', N σ' H' → ∃ m', m' < m ∧ W (i + 1) m' σ' H') ∧ ∀ x H', (Itr lo n).yld i H x H' → g x σ H' fun σ2 H2 => tb { D with nx := N, ct := N, bk := D.nx } σ2 H2) := by
  refine ⟨fun i m σ H => m = n - i ∧ i ≤ n ∧ Pv i σ H, ⟨n, by simp, Nat.zero_le _, h0⟩, ?_⟩
  rintro i m σ H ⟨rfl, hi, p⟩
  by_cases hlt : i < n
  · refine .inr ⟨hlt, Pv (i + 1), fun σ' H' p' => ⟨n - (i + 1), by omega, rfl, hlt, p'⟩, fun x H' y => ?_⟩
    obtain ⟨e, y⟩ := y
    subst e y
    exact hs i σ _ hlt p
  · have e : i = n := by omega
    subst e
    exact .inl ⟨Nat.le_refl _, hd σ H p⟩
end L2
namespace L2
open PySem PySem.Spec PyProof.Rows
abbrev R2 := V → V → Hp → VK → Prop
def OpR (X : Cx) (f : Value → Value → Sem Value) (r : R2) : Prop :=
  ∀ (pins : List (Addr × Obj)) (s : Shared) (σ : St) (H : Hp) (x y : V) (v u : Value) (Q : VK), Inv X pins σ H s → RelV x v → RelV y u → r x y H Q →
    wpAny (model X.prog X.w) X.A (f v u) (EP X pins σ Q) X.xe s
def CallR (X : Cx) (f : Value) (r : List V → Hp → VK → Prop) : Prop :=
  ∀ (pins : List (Addr × Obj)) (s : Shared) (σ : St) (H : Hp) (xs : List V) (us : List Value) (Q : VK), Inv X pins σ H s → Vals xs us → r xs H Q →
    wpAny (model X.prog X.w) X.A (call f us) (EP X pins σ Q) X.xe s
def tOp (r : R2) (ta tb : TE) : TE := fun σ H Q => ta σ H fun x H1 => tb σ H1 fun y H2 => r x y H2 Q
def rI (C : Int → Int → Prop) (g : Int → Int → V) : R2 := fun x y H Q => ∃ i j, x = .int i ∧ y = .int j ∧ C i j ∧ Q (g i j) H
def rI0 (g : Int → Int → V) : R2 := fun x y H Q => ∃ i j, x = .int i ∧ y = .int j ∧ Q (g i j) H
section
variable {X : Cx} {a b c : Expr} {ta tb tc : TE} {pos : Pos}
theorem binT (ha : PE X a ta) (hb : PE X b tb) {pins : List (Addr × Obj)} {s : Shared} {σ : St} {H : Hp} {R : V → V → Hp → Prop} (I : Inv X pins σ H s)
    (h : ta σ H fun x H1 => tb σ H1 fun y H2 => R x y H2) {Q : Value → Shared → Prop} {f : Value → Value → Sem Value}
    (hf : ∀ v u s2 x y H2, Inv X pins σ H2 s2 → RelV x v → RelV y u → R x y H2 → wpAny (model X.prog X.w) X.A (f v u) Q X.xe s2) :
    wpAny (model X.prog X.w) X.A (eval a X.env) (fun v s₁ => wpAny (model X.prog X.w) X.A (eval b X.env) (fun u s₂ => wpAny (model X.prog X.w) X.A (f v u) Q X.xe s₂) X.xe s₁) X.xe s := by
  refine thn (ha pins s σ H _ I h) fun v s1 ⟨x, H1, I1, r1, q1⟩ => ?_
  refine thn (hb pins s1 σ H1 _ I1 q1) fun u s2 ⟨y, H2, I2, r2, q2⟩ => ?_
  exact hf v u s2 x y H2 I2 r1 r2 q2
theorem pe_op {op : Operator} {r : R2} (ho : OpR X (binaryOp op) r) (ha : PE X a ta) (hb : PE X b tb) : PE X (.BinOp a op b pos) (tOp r ta tb) := by
  intro pins s σ H Q I h
  exact wpAny_BinOp (binT ha hb I h fun v u s2 x y H2 I2 rx ry q => ho pins s2 σ H2 x y v u Q I2 rx ry q)
theorem opI {f : Value → Value → Sem Value} {C : Int → Int → Prop} {g : Int → Int → Int}
    (rule : ∀ (i j : Int) (t u : Tok) (s : Shared) (Q : Value → Shared → Prop) (E : Value → Shared → Prop), C i j → Q (.int (g i j) s.toks) { s with toks := s.toks + 1 } → wpAny (model X.prog X.w) X.A (f (.int i t) (.int j u)) Q E s) :
    OpR X f (rI C fun i j => .int (g i j)) := by
  intro pins s σ H x y v u Q I rx ry h
  obtain ⟨i, j, rfl, rfl, hc, q⟩ := h
  obtain ⟨t, rfl⟩ := rx
  obtain ⟨t', rfl⟩ := ry
  exact rule i j t t' s _ _ hc ⟨.int (g i j), H, I.tok _, ⟨_, rfl⟩, q⟩
theorem opI0 {f : Value → Value → Sem Value} {g : Int → Int → Int}
    (rule : ∀ (i j : Int) (t u : Tok) (s : Shared) (Q : Value → Shared → Prop) (E : Value → Shared → Prop), Q (.int (g i j) s.toks) { s with toks := s.toks + 1 } → wpAny (model X.prog X.w) X.A (f (.int i t) (.int j u)) Q E s) :
    OpR X f (rI0 fun i j => .int (g i j)) := by
  intro pins s σ H x y v u Q I rx ry h
  obtain ⟨i, j, rfl, rfl, q⟩ := h
  obtain ⟨t, rfl⟩ := rx
  obtain ⟨t', rfl⟩ := ry
  exact rule i j t t' s _ _ ⟨.int (g i j), H, I.tok _, ⟨_, rfl⟩, q⟩
theorem opB0 {f : Value → Value → Sem Value} {g : Int → Int → Bool}
    (rule : ∀ (i j : Int) (t u : Tok) (s : Shared) (Q : Value → Shared → Prop) (E : Value → Shared → Prop), Q (.bool (g i j)) s → wpAny (model X.prog X.w) X.A (f (.int i t) (.int j u)) Q E s) :
    OpR X f (rI0 fun i j => .bl (g i j)) := by
  intro pins s σ H x y v u Q I rx ry h
  obtain ⟨i, j, rfl, rfl, q⟩ := h
  obtain ⟨t, rfl⟩ := rx
  obtain ⟨t', rfl⟩ := ry
  exact rule i j t t' s _ _ ⟨.bl (g i j), H, I, rfl, q⟩
def CDiv (i j : Int) : Prop := 0 < j ∧ j < 1073741824
def CPow (i j : Int) : Prop := 0 ≤ j ∧ j ≤ 1000000 ∧ i.natAbs < 2 ^ 64
def CMul (i j : Int) : Prop := (-(2 ^ 64) < i ∧ i < 2 ^ 64) ∨ (-(2 ^ 64) < j ∧ j < 2 ^ 64)
theorem CMul.ok {i j : Int} (h : CMul i j) : IntMulOk i j := by
  rcases h with ⟨h1, h2⟩ | ⟨h1, h2⟩
  · exact .of_left (intBits_le_64 h1 h2)
  · exact .of_right (intBits_le_64 h1 h2)
theorem op_add : OpR X (binaryOp .Add) (rI0 fun i j => .int (i + j)) := opI0 fun _ _ _ _ _ _ _ q => add_int q
theorem op_sub : OpR X (binaryOp .Sub) (rI0 fun i j => .int (i - j)) := opI0 fun _ _ _ _ _ _ _ q => sub_int q
theorem op_mul : OpR X (binaryOp .Mult) (rI CMul fun i j => .int (i * j)) := opI fun _ _ _ _ _ _ _ hc q => mul_int q hc.ok
theorem op_fdiv : OpR X (binaryOp .FloorDiv) (rI CDiv fun i j => .int (i / j)) := opI fun i j _ _ _ _ _ hc q => by
  have h1 : (0 : Int) < j := hc.1
  have h2 : j < 1073741824 := hc.2
  exact floordiv_int (by omega) (by rw [Int.fdiv_eq_ediv_of_nonneg i (by omega)]; exact q) (.inl (PyProof.noPylong_small (by omega)))
theorem op_mod : OpR X (binaryOp .Mod) (rI (fun _ j => 0 < j) fun i j => .int (i % j)) := opI fun i j _ _ _ _ _ hc q => by
  have h1 : (0 : Int) < j := hc
  exact mod_int' (by omega) (by rw [Int.fmod_eq_emod_of_nonneg i (by omega)]; exact q)
theorem op_pow : OpR X (binaryOp .Pow) (rI CPow fun i j => .int (i ^ j.toNat)) := opI fun _ _ _ _ _ _ _ hc q => pow_int_small hc.1 hc.2.1 hc.2.2 q
end
def scal : V → V → Bool
  | .non, .non => true | .non, .int _ => true | .int _, .non => true | .non, .bl _ => true | .bl _, .non => true | .non, .str _ => true | .str _, .non => true
  | .int _, .int _ => true | .bl _, .bl _ => true | .str _, .str _ => true | .byt _, .byt _ => true
  | .int _, .str _ => true | .str _, .int _ => true | .bl _, .str _ => true | .str _, .bl _ => true
  | _, _ => false
def rEq : R2 := fun x y H Q => scal x y = true ∧ Q (.bl (decide (x = y))) H
def rNe : R2 := fun x y H Q => scal x y = true ∧ Q (.bl (!decide (x = y))) H
theorem dec_int {i j : Int} : decide (V.int i = V.int j) = (i == j) := by
  rw [Bool.eq_iff_iff]
  simp
theorem dec_bl {i j : Bool} : decide (V.bl i = V.bl j) = (i == j) := by
  rw [Bool.eq_iff_iff]
  simp
theorem dec_str {i j : Str} : decide (V.str i = V.str j) = (i == j) := by
  rw [Bool.eq_iff_iff]
  simp
theorem dec_byt {i j : Array UInt8} : decide (V.byt i = V.byt j) = (i.toList == j.toList) := by
  rw [Bool.eq_iff_iff]
  cases i
  cases j
  simp
section
variable {X : Cx} {a b c : Expr} {ta tb tc : TE} {pos : Pos}
theorem fin_bl {pins : List (Addr × Obj)} {σ : St} {H : Hp} {s : Shared} {Q : VK} {k k' : Bool} (I : Inv X pins σ H s) (q : Q (.bl k) H) (e : k = k') : EP X pins σ Q (.bool k') s := by
  subst e
  exact ⟨.bl k, H, I, rfl, q⟩
theorem op_eq : OpR X (compareOp .Eq) rEq := by
  intro pins s σ H x y v u Q I rx ry h
  obtain ⟨hs, q⟩ := h
  cases x with
  | non =>
    cases rx
    cases y with
    | non => cases ry; exact PySem.EqNone.eq_none_none (fin_bl I q (by simp))
    | bl j => cases ry; exact PySem.EqNone.eq_none_bool (fin_bl I q (by simp))
    | int j => obtain ⟨t', rfl⟩ := ry; exact PySem.EqNone.eq_none_int (fin_bl I q (by simp))
    | str j => obtain ⟨t', rfl⟩ := ry; exact PySem.EqNone.eq_none_str (fin_bl I q (by simp))
    | _ => exact absurd (show false = true from hs) Bool.false_ne_true
  | bl i =>
    cases rx
    cases y with
    | non => cases ry; exact PySem.EqNone.eq_bool_none (fin_bl I q (by simp))
    | bl j => cases ry; exact eq_bool (fin_bl I q dec_bl)
    | str j => obtain ⟨t', rfl⟩ := ry; exact PySem.EqMixed.eq_bool_str (fin_bl I q (by simp))
    | _ => exact absurd (show false = true from hs) Bool.false_ne_true
  | int i =>
    obtain ⟨t, rfl⟩ := rx
    cases y with
    | non => cases ry; exact PySem.EqNone.eq_int_none (fin_bl I q (by simp))
    | int j => obtain ⟨t', rfl⟩ := ry; exact eq_int (fin_bl I q dec_int)
    | str j => obtain ⟨t', rfl⟩ := ry; exact PySem.EqMixed.eq_int_str (fin_bl I q (by simp))
    | _ => exact absurd (show false = true from hs) Bool.false_ne_true
  | str i =>
    obtain ⟨t, rfl⟩ := rx
    cases y with
    | non => cases ry; exact PySem.EqNone.eq_str_none (fin_bl I q (by simp))
    | bl j => cases ry; exact PySem.EqMixed.eq_str_bool (fin_bl I q (by simp))
    | int j => obtain ⟨t', rfl⟩ := ry; exact PySem.EqMixed.eq_str_int (fin_bl I q (by simp))
    | str j => obtain ⟨t', rfl⟩ := ry; exact eq_str (fin_bl I q dec_str)
    | _ => exact absurd (show false = true from hs) Bool.false_ne_true
  | byt i =>
    obtain ⟨t, rfl⟩ := rx
    cases y with
    | byt j => obtain ⟨t', rfl⟩ := ry; exact PySem.W.eq_bytes (fin_bl I q dec_byt)
    | _ => exact absurd (show false = true from hs) Bool.false_ne_true
  | _ => cases y <;> exact absurd (show false = true from hs) Bool.false_ne_true
theorem op_ne : OpR X (compareOp .NotEq) rNe := by
  intro pins s σ H x y v u Q I rx ry h
  obtain ⟨hs, q⟩ := h
  cases x with
  | non =>
    cases rx
    cases y with
    | non => cases ry; exact PySem.EqNone.ne_none_none (fin_bl I q (by simp))
    | bl j => cases ry; exact PySem.EqNone.ne_none_bool (fin_bl I q (by simp))
    | int j => obtain ⟨t', rfl⟩ := ry; exact PySem.EqNone.ne_none_int (fin_bl I q (by simp))
    | str j => obtain ⟨t', rfl⟩ := ry; exact PySem.EqNone.ne_none_str (fin_bl I q (by simp))
    | _ => exact absurd (show false = true from hs) Bool.false_ne_true
  | bl i =>
    cases rx
    cases y with
    | non => cases ry; exact PySem.EqNone.ne_bool_none (fin_bl I q (by simp))
    | bl j => cases ry; exact ne_bool (fin_bl I q (congrArg not dec_bl))
    | str j => obtain ⟨t', rfl⟩ := ry; exact PySem.EqMixed.ne_bool_str (fin_bl I q (by simp))
    | _ => exact absurd (show false = true from hs) Bool.false_ne_true
  | int i =>
    obtain ⟨t, rfl⟩ := rx
    cases y with
    | non => cases ry; exact PySem.EqNone.ne_int_none (fin_bl I q (by simp))
    | int j => obtain ⟨t', rfl⟩ := ry; exact ne_int (fin_bl I q (congrArg not dec_int))
    | str j => obtain ⟨t', rfl⟩ := ry; exact PySem.EqMixed.ne_int_str (fin_bl I q (by simp))
    | _ => exact absurd (show false = true from hs) Bool.false_ne_true
  | str i =>
    obtain ⟨t, rfl⟩ := rx
    cases y with
    | non => cases ry; exact PySem.EqNone.ne_str_none (fin_bl I q (by simp))
    | bl j => cases ry; exact PySem.EqMixed.ne_str_bool (fin_bl I q (by simp))
    | int j => obtain ⟨t', rfl⟩ := ry; exact PySem.EqMixed.ne_str_int (fin_bl I q (by simp))
    | str j => obtain ⟨t', rfl⟩ := ry; exact ne_str (fin_bl I q (congrArg not dec_str))
    | _ => exact absurd (show false = true from hs) Bool.false_ne_true
  | byt i =>
    obtain ⟨t, rfl⟩ := rx
    cases y with
    | byt j => obtain ⟨t', rfl⟩ := ry; exact PySem.W.ne_bytes (fin_bl I q (congrArg not dec_byt))
    | _ => exact absurd (show false = true from hs) Bool.false_ne_true
  | _ => cases y <;> exact absurd (show false = true from hs) Bool.false_ne_true
theorem op_lt : OpR X (compareOp .Lt) (rI0 fun i j => .bl (decide (i < j))) := opB0 fun _ _ _ _ _ _ _ q => lt_int q
theorem op_gt : OpR X (compareOp .Gt) (rI0 fun i j => .bl (decide (j < i))) := opB0 fun _ _ _ _ _ _ _ q => gt_int q
theorem op_notN : OpR X (compareOp .IsNot) (fun x y H Q => y = .non ∧ Q (.bl (!decide (x = .non))) H) := by
  intro pins s σ H x y v u Q I rx ry h
  obtain ⟨rfl, q⟩ := h
  cases ry
  refine isnot_none_gen (fin_bl I q ?_)
  cases x <;> first
    | (cases rx; rfl)
    | (obtain ⟨t, rfl⟩ := rx; rfl)
theorem OpR.or {f : Value → Value → Sem Value} {r r' : R2} (h : OpR X f r) (h' : OpR X f r') : OpR X f (fun x y H Q => r x y H Q ∨ r' x y H Q) := by
  intro pins s σ H x y v u Q I rx ry q
  rcases q with q | q
  · exact h pins s σ H x y v u Q I rx ry q
  · exact h' pins s σ H x y v u Q I rx ry q
theorem nomark (b : Expr) {op : CmpOp} (h : op ≠ .In := by decide) (h2 : op ≠ .NotIn := by decide) : behindInMarks op b = false := by
  have e1 : (op == CmpOp.In) = false := by cases op <;> first | rfl | exact absurd rfl h
  have e2 : (op == CmpOp.NotIn) = false := by cases op <;> first | rfl | exact absurd rfl h2
  cases b <;> simp [behindInMarks, e1, e2]
theorem pe_cmpR {op : CmpOp} {r : R2} (ho : OpR X (compareOp op) r) (ha : PE X a ta) (hb : PE X b tb) (hm : behindInMarks op b = false) : PE X (.Compare a [op] [b] pos) (tOp r ta tb) := by
  intro pins s σ H Q I h
  exact wpAny_Compare1 (binT ha hb I h fun v u s2 x y H2 I2 rx ry q => ho pins s2 σ H2 x y v u Q I2 rx ry q) hm
def tTest (t : TE) : TT := fun σ H Q => t σ H fun x H' => ∃ k, x = .bl k ∧ Q k H'
theorem pt_cmpR {op : CmpOp} {r : R2} (ho : OpR X (compareOp op) r) (ha : PE X a ta) (hb : PE X b tb) (hm : behindInMarks op b = false) : PT X (.Compare a [op] [b] pos) (tTest (tOp r ta tb)) := by
  intro pins s σ H Q I h
  refine wpAny_isTrue_Compare1 (thn (ha pins s σ H _ I h) fun v s1 ⟨x, H1, I1, r1, q1⟩ => thn (hb pins s1 σ H1 _ I1 q1) fun u s2 ⟨y, H2, I2, r2, q2⟩ =>
    thn (ho pins s2 σ H2 x y v u _ I2 r1 r2 q2) fun c s3 ⟨z, H3, I3, r3, k, e, q3⟩ => ?_) hm
  subst e
  cases r3
  exact wpAny_truthy_bool ⟨H3, I3, q3⟩
theorem line63 : (sizeLine : Nat) < 2 ^ 63 := by rw [sizeLine_eq]; decide
theorem vals1 {x : V} {us : List Value} (r : Vals [x] us) : ∃ u, us = [u] ∧ RelV x u := by
  cases r with
  | cons r1 r2 => cases r2; exact ⟨_, rfl, r1⟩
theorem vals2 {x y : V} {us : List Value} (r : Vals [x, y] us) : ∃ u w', us = [u, w'] ∧ RelV x u ∧ RelV y w' := by
  cases r with
  | cons r1 r2 =>
    cases r2 with
    | cons r3 r4 => cases r4; exact ⟨_, _, rfl, r1, r3⟩
theorem call_abs : CallR X (.builtin "abs") (fun xs H Q => ∃ i, xs = [.int i] ∧ Q (.int (if i < 0 then -i else i)) H) := by
  intro pins s σ H xs us Q I r h
  obtain ⟨i, rfl, q⟩ := h
  obtain ⟨u, rfl, t, rfl⟩ := vals1 r
  exact call_abs_int fun u tk => ⟨.int (if i < 0 then -i else i), H, I.tok _, ⟨_, rfl⟩, q⟩
end
end L2
namespace L2
open PySem PySem.Spec PyProof.Rows
structure ObjM (h : Heap) (x dx C : Addr) (mA : Str → Option Value) : Prop where
  obj : h.get? x = some (PySem.W.instObj C dx)
  ns : h.Ns1 dx mA
  ne : dx ≠ x
theorem lookIn_ns {h : Heap} {dx : Addr} {mA : Str → Option Value} (n : h.Ns1 dx mA) : ∃ od, h.get? dx = some od ∧ ∀ name, PySem.W.lookIn name od = some (mA name) := by
  obtain ⟨o, es, ep, ho, hd, hk, _, hm⟩ := n
  refine ⟨o, ho, fun name => ?_⟩
  have e := hm name
  unfold nsFind findBy at e
  rw [← Array.find?_toList] at e
  unfold PySem.W.lookIn
  rw [hd]
  dsimp only
  split
  · rename_i y q
    rw [q] at e
    exact congrArg some e
  · rename_i q
    rw [q] at e
    have a : es.toList.any (·.refKey) = false := by
      rw [List.any_eq_false]
      intro y hy
      obtain ⟨z, t, hkey⟩ := hk y (Array.mem_toList_iff.mp hy)
      simp [DictEntry.refKey, hkey]
    have a' : ¬ es.toList.any (·.refKey) = true := by rw [a]; exact Bool.false_ne_true
    rw [if_neg a']
    exact congrArg some e
theorem ObjM.look {h : Heap} {x dx C : Addr} {mA : Str → Option Value} (I : ObjM h x dx C mA) : ∃ od, PySem.W.InstAt h x (PySem.W.instObj C dx) C (some od) ∧ ∀ name, PySem.W.lookIn name od = some (mA name) :=
  let ⟨od, ho, hl⟩ := lookIn_ns I.ns
  ⟨od, ⟨I.obj, rfl, rfl, ho⟩, hl⟩
section
variable {prog : Program} {w : World} {A : Around} {E : Value → Shared → Prop} {s : Shared} {K : PySem.W.Frag} {x dx C f : Addr} {mA : Str → Option Value} {name : Str} {v : Value}
end
theorem RelO.some_of {v : V} {o : Option Value} (r : RelO (some v) o) : ∃ u, o = some u ∧ RelV v u := by
  cases o with
  | none => exact (show False from r).elim
  | some u => exact ⟨u, rfl, r⟩
section
variable {P : Program} {w : World} {H H' : Hp} {h h' : Heap} {a C dx : Addr} {fs fs' : List (Str × V)}
theorem ins_get (hok : HOk P w H h) (e : H a = some (.ins C dx fs)) : ∃ mA, ObjM h a dx C mA ∧ (∀ f, RelO (fs.lookup f) (mA f)) ∧ PySem.Within mA (fs.map (·.1)) ∧ fs.length ≤ 1000 ∧ H dx = some (.own a) := by
  obtain ⟨d, z, ne, ob, mA, n, r, q⟩ := (show ObjOk P w H h a (.ins C dx fs) from hok a _ e)
  exact ⟨mA, ⟨ob, n, ne⟩, r, q, z, d⟩
end
structure Cls (K : PySem.W.Frag) (C : Addr) : Prop where
  pg : PySem.W.plainGet K C Str.empty = true
  hd : PySem.W.hasDictIn K C = true
  po : PySem.W.plainOver K C = true
  sa : PySem.W.findIn K (.ref C) "__setattr__" = some (some (.builtin "object.__setattr__"))
theorem Cls.get {K : PySem.W.Frag} {C : Addr} (c : Cls K C) (f : Str) : PySem.W.plainGet K C f = true := c.pg
section
variable {X : Cx} {pins : List (Addr × Obj)} {σ : St} {H : Hp} {s : Shared} {a C dx : Addr} {fs : List (Str × V)} {f : Str} {v : V} {A : Around} {E : Value → Shared → Prop}
end
section
variable {X : Cx} {o e value : Expr} {f : Str} {pos pos' tpos : Pos} {ta tv : TE}
end
section
variable {X : Cx} {pins : List (Addr × Obj)} {σ : St} {H : Hp} {s : Shared} {A : Around} {E : Value → Shared → Prop} {Q : Value → Shared → Prop} {c : Value} {b : Bool}
inductive TyOf (K : PySem.W.Frag) (H : Hp) : V → Value → Prop where
  | non : TyOf K H .non (.type "NoneType")
  | bl (x : Bool) : TyOf K H (.bl x) (.type "bool")
  | int (i : Int) : TyOf K H (.int i) (.type "int")
  | str (x : Str) : TyOf K H (.str x) (.type "str")
  | flt (x : UInt64) : TyOf K H (.flt x) (.type "float")
  | lst {a : Addr} {xs : List V} (e : H a = some (.lst xs)) : TyOf K H (.ref a) (.type "list")
  | frz {a : Addr} {o : Obj} {xs : List V} (e : H a = some (.frz o (.lst xs))) : TyOf K H (.ref a) (.type "list")
  | tup {a : Addr} {xs : List V} (e : H a = some (.tup xs)) : TyOf K H (.ref a) (.type "tuple")
  | dK {a : Addr} {kvs : List (Key × V)} (e : H a = some (.dK kvs)) : TyOf K H (.ref a) (.type "dict")
  | dT {a : Addr} {kvs : List (List Key × V)} (e : H a = some (.dT kvs)) : TyOf K H (.ref a) (.type "dict")
  | ins {a C dx : Addr} {fs : List (Str × V)} (e : H a = some (.ins C dx fs)) (cl : Cls K C) (ha : PySem.W.findIn K (.ref C) "__class__" = some (some (.builtin "object.__class__")))
      (hn : PySem.W.specialIn K (.builtin "object.__class__") "__get__" = some (some (.builtin "getset_descriptor.__get__"))) (htk : PySem.W.takesIn K (.builtin "object.__class__") = some true)
      (hm : PySem.W.mroIn K C (.type "object") = some true) : TyOf K H (.ref a) (.ref C)
theorem isinst_ok {x : V} {u t : Value} (I : Inv X pins σ H s) (rx : RelV x u) (ty : TyOf X.K H x t) (e : PySem.W.kitOne X.K t c = some b) (h : ∀ tk, Q (.bool b) { s with toks := tk }) :
    wpAny (model X.prog X.w) A (call (.builtin "isinstance") [u, c]) Q E s := by
  cases ty with
  | non => cases (show u = Value.none from rx); exact PySem.W.kia_one PySem.W.kitx_none I.kIn True.intro e (fun z => nomatch z) h
  | bl y => cases (show u = Value.bool y from rx); exact PySem.W.kia_one PySem.W.kitx_bool I.kIn True.intro e (fun z => nomatch z) h
  | int i => obtain ⟨t, q⟩ := (show ∃ t, u = Value.int i t from rx); cases q; exact PySem.W.kia_one PySem.W.kitx_int I.kIn True.intro e (fun z => nomatch z) h
  | str y => obtain ⟨t, q⟩ := (show ∃ t, u = Value.str y t from rx); cases q; exact PySem.W.kia_one PySem.W.kitx_str I.kIn True.intro e (fun z => nomatch z) h
  | flt y => obtain ⟨t, q⟩ := (show ∃ t, u = Value.float y t from rx); cases q; exact PySem.W.kia_one PySem.W.kitx_float I.kIn True.intro e (fun z => nomatch z) h
  | @lst a xs ea =>
    cases (show u = Value.ref a from rx)
    obtain ⟨_, _, n, _, h1⟩ := (show ObjOk X.prog X.w H s.heap a (.lst xs) from I.hok a _ ea)
    exact PySem.W.kia_one PySem.W.kitx_list I.kIn ⟨_, h1, rfl⟩ e (fun z => nomatch z) h
  | @frz a ob xs ea =>
    cases (show u = Value.ref a from rx)
    obtain ⟨_, _, _, n, _, h1⟩ := (show ObjOk X.prog X.w H s.heap a (.frz ob (.lst xs)) from I.hok a _ ea)
    exact PySem.W.kia_one PySem.W.kitx_list I.kIn ⟨_, h1, rfl⟩ e (fun z => nomatch z) h
  | @tup a xs ea =>
    cases (show u = Value.ref a from rx)
    obtain ⟨_, _, _, p⟩ := (show ObjOk X.prog X.w H s.heap a (.tup xs) from I.hok a _ ea)
    obtain ⟨o, h1, h2, _⟩ := p
    exact PySem.W.kia_one PySem.W.kitx_tuple I.kIn ⟨o, h1, h2⟩ e (fun z => nomatch z) h
  | @dK a kvs ea =>
    cases (show u = Value.ref a from rx)
    obtain ⟨_, _, vs, _, p⟩ := (show ObjOk X.prog X.w H s.heap a (.dK kvs) from I.hok a _ ea)
    obtain ⟨o, es, ep, h1, h2, _⟩ := p
    exact PySem.W.kia_one PySem.W.kitx_dict I.kIn ⟨o, h1, h2.1⟩ e (fun z => nomatch z) h
  | @dT a kvs ea =>
    cases (show u = Value.ref a from rx)
    obtain ⟨_, _, xs, _, o, es, ep, h1, h2, _⟩ := (show ObjOk X.prog X.w H s.heap a (.dT kvs) from I.hok a _ ea)
    exact PySem.W.kia_one PySem.W.kitx_dict I.kIn ⟨o, h1, h2.1⟩ e (fun z => nomatch z) h
  | @ins a C dx fs ea cl ha hn htk hm =>
    cases (show u = Value.ref a from rx)
    obtain ⟨mA, O, _⟩ := ins_get I.hok ea
    obtain ⟨od, J, _⟩ := O.look
    exact PySem.W.kia_one (PySem.W.kitx_own (cl.get _) cl.hd ha hn htk hm) I.kIn J e (fun z => nomatch z) h
end
end L2
namespace L2
open PySem PySem.Spec PyProof.Rows
structure Room (k : Nat) (A : Around) : Prop where
  hd : A.handled = none
  dp : A.depth + 3 * k + 5 < recursionLimit
  un : A.units + 16 * k + 200 < cLine
theorem Room.mono {j k : Nat} {A : Around} (r : Room k A) (h : j ≤ k) : Room j A := ⟨r.hd, by have := r.dp; omega, by have := r.un; omega⟩
theorem Room.deeper {k : Nat} {A : Around} (r : Room (k + 1) A) (env : Env) : Room k (A.deeper env) :=
  ⟨r.hd, by have := r.dp; show A.depth + 1 + 3 * k + 5 < _; omega, by have := r.un; show A.units + 3 + 16 * k + 200 < _; omega⟩
theorem Room.depth {k : Nat} {A : Around} (r : Room k A) : A.depth < recursionLimit := by have := r.dp; omega
theorem Room.units {k : Nat} {A : Around} (r : Room k A) : A.units + 64 < cLine := by have := r.un; omega
def tNil : TA := fun _ H Q => Q [] H
def tCons (ta : TE) (tr : TA) : TA := fun σ H Q => ta σ H fun x H1 => tr σ H1 fun xs H2 => Q (x :: xs) H2
section
variable {X : Cx} {e : Expr} {es : List Expr} {te : TE} {t : TA} {pos : Pos}
theorem pa_nil : PA X [] tNil := fun _ _ _ _ H Q I h => Calls.spliced_nil ⟨[], H, I, .nil, h⟩
theorem pa_cons (ha : PE X e te) (hr : PA X es t) (hs : starEach (e :: es) X.env = (false, eval e X.env) :: starEach es X.env := by rfl) : PA X (e :: es) (tCons te t) := by
  intro pos pins s σ H Q I h
  rw [hs]
  show wpAny _ _ (spliced ((false, eval e X.env) :: backTo pos (starEach es X.env))) _ _ s
  refine Calls.spliced_cons (thn (ha pins s σ H _ I h) fun u s1 ⟨x, H1, I1, r1, q1⟩ => ?_)
  exact thn (hr pos pins s1 σ H1 _ I1 q1) fun us s2 ⟨xs, H2, I2, r2, q2⟩ => ⟨x :: xs, H2, I2, .cons r1 r2, q2⟩
end
abbrev Sp := List V → Hp → VK → XK → Prop
abbrev CXT := List Env → Hp → Shared → XK → Value → Shared → Prop
structure Env0 (P : Program) (w : World) (K : PySem.W.Frag) (mg : Str → Option Value) (base : Heap) (A : Around) (outer : List Env) (s : Shared) (H : Hp) : Prop where
  frames : A.frames = some outer
  mod : Mod K mg base
  bs : ∀ b o, base.get? b = some o → s.heap.get? b = some o ∧ H b = none
  bsz : base.objs.size ≤ s.heap.objs.size
  funs : s.heap.FunFrames base outer
  frf : ∀ b ∈ frs outer, H b = none
  hok : HOk P w H s.heap
  bare : AllBare s.gens
def CE (outer : List Env) (P : Program) (w : World) (H : Hp) (s : Shared) (Q : VK) (u : Value) (s' : Shared) : Prop :=
  ∃ v H', s'.os = s.os ∧ AllBare s'.gens ∧ Un (frs outer) [] H H' s.heap s'.heap ∧ HOk P w H' s'.heap ∧ RelV v u ∧ Q v H'
def CR (CX : CXT) (outer : List Env) (P : Program) (w : World) (H : Hp) (s : Shared) (Q : VK) (E : XK) (r : Result) (s' : Shared) : Prop :=
  match r with
  | .ok (.ret u) => CE outer P w H s Q u s'
  | .ok _ => False
  | .error e => CX outer H s E e s'
structure FnOk (P : Program) (w : World) (K : PySem.W.Frag) (mg : Str → Option Value) (base : Heap) (CX : CXT) (k : Nat) (f : Addr) (fd : FuncData) (ps : List Str) (sp : Sp) : Prop where
  len : ∀ vs H Q E, sp vs H Q E → vs.length = ps.length
  run : ∀ (A : Around) (outer : List Env) (s : Shared) (H : Hp) (args : Args) (us : List Value) (vs : List V) (Q : VK) (E : XK), Room k A → Env0 P w K mg base A outer s H → BindsTo s fd args (ps.zip us) → Vals vs us → sp vs H Q E →
    codeAny (model P w) A (.call (.ref f) args) (CR CX outer P w H s Q E) s
section
variable {X : Cx} {pins : List (Addr × Obj)} {σ : St} {H : Hp} {s s' : Shared}
theorem Inv.env0 (I : Inv X pins σ H s) : Env0 X.prog X.w X.K X.mg X.base X.A X.stack s H :=
  ⟨I.ok.frames, I.ok.mod, I.bs, Nat.le_trans I.ok.bsz I.sz, I.stack, I.stkFree, I.hok, I.bare⟩
theorem Inv.after {Q : VK} {u : Value} (I : Inv X pins σ H s) (h : CE X.stack X.prog X.w H s Q u s') : EP X pins σ Q u s' := by
  obtain ⟨v, H', os, bare, un, hok, r, q⟩ := h
  obtain ⟨hh, g, d, t, os'⟩ := s'
  obtain rfl : os' = s.os := os
  exact ⟨v, H', I.call (h' := hh) (g' := g) (d' := d) (t' := t) (ch := []) un hok bare (fun b z => absurd z (by simp)), r, q⟩
end
def tCall (sp : Sp) (dvs : List V) (E : XK) (t : TA) : TE := fun σ H Q => t σ H fun vs H1 => sp (vs ++ dvs) H1 Q E
def Binds (K : PySem.W.Frag) (fd : FuncData) (ps : List Str) (ds : List Value) : Prop :=
  ∀ (s : Shared) (us : List Value), K.In s.heap → (us ++ ds).length = ps.length → BindsTo s fd ⟨us, []⟩ (ps.zip (us ++ ds))
theorem Binds.all {K : PySem.W.Frag} {fd : FuncData} {ps : List Str} (h : ∀ us : List Value, us.length = ps.length → bindArgs fd ⟨us, []⟩ = pure (ps.zip us)) : Binds K fd ps [] := fun s us _ hl => by
  rw [List.append_nil] at hl ⊢
  exact .of_eq (h us hl)
def Passes (CX : CXT) (X : Cx) (E : XK) : Prop := ∀ (pins : List (Addr × Obj)) (σ : St) (H : Hp) (s : Shared) (e : Value) (s' : Shared), Inv X pins σ H s → CX X.stack H s E e s' → X.xe e s'
section
variable {X : Cx} {CX : CXT} {k : Nat} {f C : Addr} {fd : FuncData} {ps : List Str} {sp : Sp} {dvs : List V} {ds : List Value} {E : XK} {x m : Str} {p pos apos : Pos} {e o : Expr} {es : List Expr} {ta : TE} {t : TA}
theorem run_fn {pins : List (Addr × Obj)} {σ : St} {H : Hp} {s : Shared} {Q : VK} {us : List Value} {vs : List V} (F : FnOk X.prog X.w X.K X.mg X.base CX k f fd ps sp) (hr : Room k X.A) (hb : Binds X.K fd ps ds) (hd : Vals dvs ds) (hx : Passes CX X E)
    (I : Inv X pins σ H s) (r : Vals vs us) (h : sp (vs ++ dvs) H Q E) : wpAny (model X.prog X.w) X.A (call (.ref f) us) (EP X pins σ Q) X.xe s := by
  have r2 : Vals (vs ++ dvs) (us ++ ds) := r.append hd
  have hl : (us ++ ds).length = ps.length := by rw [← r2.length]; exact F.len _ _ _ _ h
  refine wpAny_call (codeAny_mono (F.run X.A X.stack s H ⟨us, []⟩ (us ++ ds) (vs ++ dvs) Q E hr I.env0 (hb s us I.kIn hl) r2 h) fun r s' hq => ?_)
  cases r with
  | error e => exact hx pins σ H s e s' I hq
  | ok fl =>
    cases fl with
    | ret u => exact I.after hq
    | next => exact False.elim hq
    | brk => exact False.elim hq
    | cont => exact False.elim hq
theorem pe_call (F : FnOk X.prog X.w X.K X.mg X.base CX k f fd ps sp) (hr : Room k X.A) (hg : Gl X x) (hm : X.mg x = some (.ref f)) (hk : PySem.W.keepIn X.K (.ref f) = true) (hb : Binds X.K fd ps ds) (hd : Vals dvs ds) (hx : Passes CX X E)
    (ha : PA X (e :: es) t) (hdb : (x == ("__debug__" : Str)) = false := by decide) (he : starEach (e :: es) X.env = (false, eval e X.env) :: starEach es X.env := by rfl) (hpl : (backTo pos (starEach es X.env)).any (·.1) = false := by rfl) :
    PE X (.Call (.Name x p) (e :: es) [] pos) (tCall sp dvs E t) := by
  intro pins s σ H Q I h
  refine wpAny_Call_Name_kw (ld_glob I hg hm ?_ hdb)
  refine PySem.W.callWith_K (h₀ := X.base) I.ok.mod.kin hk (thn (ha pos pins s σ H _ I h) fun us s1 ⟨vs, H1, I1, r, q⟩ => ⟨I1.kIn, ?_⟩) he hpl
  exact run_fn F hr hb hd hx I1 r q
end
section
variable {X : Cx} {CX : CXT} {k : Nat} {f C : Addr} {fd : FuncData} {ps ks : List Str} {sp : Sp} {E : XK} {x m : Str} {p pos apos kpos : Pos} {e o : Expr} {es : List Expr} {kws : List Keyword} {te ta : TE} {t tk : TA} {nm : Option Str}
variable {g : List Value → List Value → List Value} {gV : List V → List V → List V}
end
structure FnScope (N P : List Str) (sc : Scope) : Prop where
  kind : sc.kind = .function
  co : sc.isCoroutine = false
  gen : sc.isGenerator = false
  nd : N.Nodup
  pre : N.take P.length = P
  par : ∀ x ∈ P, sc.names.lookup x = some .local ∨ sc.names.lookup x = some .cell
  nofree : ∀ y ∈ sc.names, y.2 ≠ .free
theorem bindL_out {kindOf : Str → Option NameKind} {x : Str} : ∀ {binds : List (Str × Value)} {m : Str → Option Value}, (∀ v, (x, v) ∉ binds) → bindL kindOf binds m x = m x
  | [], _, _ => rfl
  | (n, v) :: r, m, h => by
    unfold bindL
    rw [bindL_out fun w hw => h w (List.mem_cons_of_mem _ hw)]
    split
    · have : x ≠ n := by rintro rfl; exact h v List.mem_cons_self
      simp [this]
    · rfl
theorem bindC_out {kindOf : Str → Option NameKind} {x : Str} : ∀ {binds : List (Str × Value)} {m : Str → Option Value}, (∀ v, (x, v) ∉ binds) → bindC kindOf binds m x = m x
  | [], _, _ => rfl
  | (n, v) :: r, m, h => by
    unfold bindC
    rw [bindC_out fun w hw => h w (List.mem_cons_of_mem _ hw)]
    split
    · rfl
    · have : x ≠ n := by rintro rfl; exact h v List.mem_cons_self
      simp [this]
theorem bindL_get {kindOf : Str → Option NameKind} {x : Str} {v : Value} : ∀ {P : List Str} {vs : List Value} {i : Nat} {m : Str → Option Value}, P.Nodup → P[i]? = some x → vs[i]? = some v → kindOf x = some .local →
    bindL kindOf (P.zip vs) m x = some v
  | [], _, _, _, _, h, _, _ => by simp at h
  | _ :: _, [], _, _, _, _, h, _ => by simp at h
  | p :: P, w :: vs, 0, m, nd, h1, h2, hk => by
    simp at h1 h2; subst h1; subst h2
    show bindL kindOf ((p, w) :: P.zip vs) m p = _
    unfold bindL
    rw [bindL_out fun v hv => (List.nodup_cons.mp nd).1 (List.of_mem_zip hv).1, if_pos hk]
    simp
  | p :: P, w :: vs, i + 1, m, nd, h1, h2, hk => by
    show bindL kindOf ((p, w) :: P.zip vs) m x = _
    unfold bindL
    exact bindL_get (i := i) (List.nodup_cons.mp nd).2 (by simpa using h1) (by simpa using h2) hk
theorem bindC_get {kindOf : Str → Option NameKind} {x : Str} {v : Value} : ∀ {P : List Str} {vs : List Value} {i : Nat} {m : Str → Option Value}, P.Nodup → P[i]? = some x → vs[i]? = some v → kindOf x ≠ some .local →
    bindC kindOf (P.zip vs) m x = some v
  | [], _, _, _, _, h, _, _ => by simp at h
  | _ :: _, [], _, _, _, _, h, _ => by simp at h
  | p :: P, w :: vs, 0, m, nd, h1, h2, hk => by
    simp at h1 h2; subst h1; subst h2
    show bindC kindOf ((p, w) :: P.zip vs) m p = _
    unfold bindC
    rw [bindC_out fun v hv => (List.nodup_cons.mp nd).1 (List.of_mem_zip hv).1, if_neg hk]
    simp
  | p :: P, w :: vs, i + 1, m, nd, h1, h2, hk => by
    show bindC kindOf ((p, w) :: P.zip vs) m x = _
    unfold bindC
    exact bindC_get (i := i) (List.nodup_cons.mp nd).2 (by simpa using h1) (by simpa using h2) hk
def start (N : List Str) (vs : List V) : St := vs.map some ++ List.replicate (N.length - vs.length) none
def cxOf (CX : CXT) (P : Program) (w : World) (K : PySem.W.Frag) (mg : Str → Option Value) (base : Heap) (N : List Str) (qual : Str) (scope : Scope) (f : Addr) (cd : Value) (A : Around) (outer : List Env) (s : Shared) (H : Hp) (E : XK) : Cx where
  prog := P
  w := w
  K := K
  mg := mg
  base := base
  A := A.deeper (envOfC qual scope s.heap.objs.size f cd)
  N := N
  s₀ := s
  H₀ := H
  env := envOfC qual scope s.heap.objs.size f cd
  outer := outer
  stack := envOfC qual scope s.heap.objs.size f cd :: outer
  ex := []
  calm := true
  fn := fun _ => true
  pn := []
  xe := fun e s' => wpAny (model P w) (A.deeper (envOfC qual scope s.heap.objs.size f cd)) (leaving (envOfC qual scope s.heap.objs.size f cd) e) (fun _ s'' => CX outer H s E e s'') (fun e' s'' => CX outer H s E e' s'') s'
theorem cell_has {sc : Scope} {n : Nat} {x : Str} (h : sc.names.lookup x = some .cell) : ∃ c, (cellsFrom n sc.names []).lookup x = some c := by
  have q := PySem.W.cellsFrom_some sc.names n [] (.inl h)
  exact Option.isSome_iff_exists.mp q
theorem inv_start {CX : CXT} {P : Program} {w : World} {K : PySem.W.Frag} {mg : Str → Option Value} {base : Heap} {N ps : List Str} {qual : Str} {scope : Scope} {f : Addr} {cd : Value} {A : Around} {outer : List Env} {s s1 : Shared} {H : Hp} {E : XK} {us : List Value} {vs : List V}
    (S : FnScope N ps scope) (hd : A.handled = none) (e0 : Env0 P w K mg base A outer s H) (hl : vs.length = ps.length) (r : Vals vs us)
    (x : InCallC s s.heap.objs.size (bindL (envOfC qual scope s.heap.objs.size f cd).kindOf (ps.zip us) fun _ => none) (cellsFrom (s.heap.objs.size + 1) scope.names []) (bindC (envOfC qual scope s.heap.objs.size f cd).kindOf (ps.zip us) fun _ => none) s1) :
    Inv (cxOf CX P w K mg base N qual scope f cd A outer s H E) [] (start N vs) H s1 := by
  have hpl : ps.length ≤ N.length := by have := congrArg List.length S.pre; rw [List.length_take] at this; omega
  obtain ⟨h1, tk, rfl, hk⟩ := x.done
  have noA : ∀ b : Addr, b ∉ (cxOf CX P w K mg base N qual scope f cd A outer s H E).ex := fun b z => absurd (show b ∈ ([] : List Addr) from z) (by simp)
  refine ⟨⟨e0.mod, S.kind, rfl, rfl, Nat.le_refl _, fun y z c h1 h2 => ?_, fun y hy => ?_, fun y c _ h => ?_, fun _ => hd, Around.frames_deeper e0.frames, .inr ⟨rfl, rfl⟩, fun b z => absurd z (noA b), e0.bs, e0.bsz, fun b _ _ => noA b, fun b z => absurd z (noA b), e0.funs, e0.frf⟩,
    rfl, e0.bare, Un.kept hk, ⟨_, x.toInCall.ns, fun i y v h1 h2 h3 => ?_⟩, fun y c h => ⟨_, x.cell y c h⟩, e0.hok.fresh (Nat.le_refl _), fun y c h => ?_, fun p hp => absurd (show p ∈ ([] : List (Addr × Obj)) from hp) (by simp), e0.hok.kept hk, ?_⟩
  · exact name_of_addr x.apart (PySem.mem_of_lookup h1) (PySem.mem_of_lookup h2)
  · have hy : scope.names.lookup y = some .cell ∨ scope.names.lookup y = some .free := hy
    rcases hy with hy | hy
    · exact cell_has hy
    · exact absurd rfl (S.nofree _ (PySem.mem_of_lookup hy))
  · exact Nat.le_of_lt (x.above y c (PySem.mem_of_lookup h))
  · have hi : i < vs.length := by
      unfold start at h2
      by_cases hi : i < vs.length
      · exact hi
      · rw [List.getElem?_append_right (by simpa using hi)] at h2
        rw [List.getElem?_replicate] at h2
        split at h2 <;> cases h2
    have ha : vs[i]? = some v := by
      unfold start at h2
      rw [List.getElem?_append_left (by simpa using hi), List.getElem?_map] at h2
      cases e : vs[i]? with
      | none => rw [e] at h2; cases h2
      | some a => rw [e] at h2; cases h2; rfl
    obtain ⟨u, hu, rv⟩ := r.get ha
    have hp : ps[i]? = some y := by
      rw [← S.pre, List.getElem?_take_of_lt (by omega)]; exact h1
    have ndP : ps.Nodup := by rw [← S.pre]; exact S.nd.sublist (List.take_sublist _ _)
    refine ⟨u, rv, ?_⟩
    rcases S.par y (List.mem_of_getElem? hp) with k | k
    · exact .inl ⟨k, bindL_get ndP hp hu k⟩
    · obtain ⟨c, e⟩ := cell_has (n := s.heap.objs.size + 1) k
      refine .inr ⟨.inl k, c, e, ?_⟩
      have q := x.cell y c e
      rw [bindC_get ndP hp hu (by show scope.names.lookup y ≠ _; rw [k]; decide)] at q
      exact q
  · exact e0.hok.fresh (Nat.le_of_lt (x.above y c (PySem.mem_of_lookup h)))
  · unfold start
    show _ = N.length
    rw [List.length_append, List.length_map, List.length_replicate]
    omega
theorem fn_of {CX : CXT} {P : Program} {w : World} {K : PySem.W.Frag} {mg : Str → Option Value} {base : Heap} {k : Nat} {f : Addr} {name qual : Str} {params : Arguments} {body : List Stmt} {scope : Scope} {dV kV doc pm cdv ct oc : Value} {an od : Option Addr}
    {osl : Array (Option Value)} {N ps : List Str} {sp : Sp} (lk : K.lookup f = some ⟨oc, od, .func (PySem.W.fnOf name qual params body scope dV kV doc pm an cdv ct), osl⟩) (hcd : PySem.W.codeIn K cdv qual = true) (S : FnScope N ps scope)
    (len : ∀ vs H Q E, sp vs H Q E → vs.length = ps.length)
    (hbody : ∀ (A : Around) (outer : List Env) (s : Shared) (H : Hp) (vs : List V) (Q : VK) (E : XK), Room k (A.deeper (envOfC qual scope s.heap.objs.size f cdv)) → sp vs H Q E →
      ∃ t, PSs (cxOf CX P w K mg base N qual scope f cdv A outer s H E) body t ∧ t { nx := fun _ H' => Q .non H', rt := Q } (start N vs) H) :
    FnOk P w K mg base CX (k + 1) f (PySem.W.fnOf name qual params body scope dV kV doc pm an cdv ct) ps sp := by
  refine ⟨len, fun A outer s H args us vs Q E hr e0 hb r hsp => ?_⟩
  have hl := len _ _ _ _ hsp
  have KX : K.In s.heap := e0.mod.kin.keeps fun b o e => (e0.bs b o e).1
  have lim : s.heap.NoLimit := e0.mod.nolimit.keeps fun b o e => (e0.bs b o e).1
  have hkind : ∀ y ∈ ps.zip us, scope.names.lookup y.1 = some .local ∨ (scope.names.lookup y.1 = some .cell ∧ ((cellsFrom (s.heap.objs.size + 1) scope.names []).lookup y.1).isSome = true) := fun ⟨n, v⟩ hy => by
    rcases S.par n (List.of_mem_zip hy).1 with q | q
    · exact .inl q
    · exact .inr ⟨q, PySem.W.cellsFrom_some _ _ _ (.inl q)⟩
  refine codeAny_call_function hr.depth (KX _ _ lk) rfl S.co S.gen rfl (PySem.W.codeRec_of KX hcd) (hb _ _ _ _ ?_)
  refine wpAny_newFunctionEnv_cells S.kind hkind fun env he s1 x => ?_
  subst he
  refine ⟨lim.keeps x.toInCall.keep, codeAny_func ?_⟩
  obtain ⟨t, ht, hq⟩ := hbody A outer s H vs Q E (hr.deeper _) hsp
  have I : Inv (cxOf CX P w K mg base N qual scope f cdv A outer s H E) [] (start N vs) H s1 := inv_start S hr.hd e0 hl r x
  refine wpAny_mono (ht [] s1 (start N vs) H _ I hq) (fun fl s' hs => ?_) fun e s' hs => hs
  have fin : ∀ {σ' : St} {H' : Hp} {v : V} {u : Value}, Inv (cxOf CX P w K mg base N qual scope f cdv A outer s H E) [] σ' H' s' → RelV v u → Q v H' → CE outer P w H s Q u s' :=
    fun {σ' H' v u} J rv q => ⟨v, H', J.os, J.bare, J.base, J.hok, rv, q⟩
  cases fl with
  | ret u =>
    obtain ⟨v, σ', H', J, rv, q⟩ := hs
    exact fin J rv q
  | next =>
    obtain ⟨σ', H', J, q⟩ := hs
    exact fin (v := V.non) (u := Value.none) J rfl q
  | brk =>
    obtain ⟨_, _, _, q⟩ := hs
    exact False.elim q
  | cont =>
    obtain ⟨_, _, _, q⟩ := hs
    exact False.elim q
end L2
namespace L2
open PySem PySem.Spec PyProof.Rows
section
variable {X : Cx} {x : Str} {p pos : Pos} {e : Expr} {es : List Expr} {t : TA} {id T : String} {r : List V → Hp → VK → Prop}
def tCB (r : List V → Hp → VK → Prop) (t : TA) : TE := fun σ H Q => t σ H fun vs H1 => r vs H1 Q
theorem pe_callB (hc : CallR X (.builtin id) r) (hg : Gl X x) (hm : X.mg x = none) (hv : bootBuiltins x = some (.builtin id)) (ha : PA X (e :: es) t) (hn : x ≠ "__name__" := by decide) (hdb : (x == ("__debug__" : Str)) = false := by decide)
    (he : starEach (e :: es) X.env = (false, eval e X.env) :: starEach es X.env := by rfl) (hpl : (backTo pos (starEach es X.env)).any (·.1) = false := by rfl) : PE X (.Call (.Name x p) (e :: es) [] pos) (tCB r t) := by
  intro pins s σ H Q I h
  refine wpAny_Call_Name_kw (ld_blt I hg hm hv ?_ hn hdb)
  exact PyProof.Rows.callWith_builtin1 (thn (ha pos pins s σ H _ I h) fun us s1 ⟨vs, H1, I1, r1, q1⟩ => hc pins s1 σ H1 vs us Q I1 r1 q1) he hpl
theorem pe_callTy (hc : CallR X (.type T) r) (hg : Gl X x) (hm : X.mg x = none) (hv : bootBuiltins x = some (.type T)) (ha : PA X (e :: es) t) (hn : x ≠ "__name__" := by decide) (hdb : (x == ("__debug__" : Str)) = false := by decide)
    (he : starEach (e :: es) X.env = (false, eval e X.env) :: starEach es X.env := by rfl) (hpl : (backTo pos (starEach es X.env)).any (·.1) = false := by rfl) : PE X (.Call (.Name x p) (e :: es) [] pos) (tCB r t) := by
  intro pins s σ H Q I h
  refine wpAny_Call_Name_kw (ld_blt I hg hm hv ?_ hn hdb)
  exact PyProof.Rows.callWith_type1 (thn (ha pos pins s σ H _ I h) fun us s1 ⟨vs, H1, I1, r1, q1⟩ => hc pins s1 σ H1 vs us Q I1 r1 q1) he hpl
end
end L2
namespace HT
open PySem PyProof.Rows
section
open PySem.SeqAt
open PySem.AutoSeq1 (wpAny_loadPart')
open PySem.MeetsSeq PySem.MeetsSeq2 PySem.MeetsSeq3
end
section
variable {prog : Program} {w : World} {A : Around} {E : Value → Shared → Prop} {s : Shared}
def sIx (n d : Nat) : Option Int → Nat
  | none => d
  | some v => if v < 0 then (v + (n : Int)).toNat else min v.toNat n
theorem sIx_none (n d : Nat) : sIx n d none = d := rfl
theorem sIx_nat (n d k : Nat) : sIx n d (some (k : Int)) = min k n := by
  show (if (k : Int) < 0 then ((k : Int) + (n : Int)).toNat else min (k : Int).toNat n) = min k n
  rw [if_neg (by omega), Int.toNat_natCast]
end
end HT
namespace L2
open PySem PySem.Spec PyProof.Rows
abbrev TO := St → Hp → (Option Int → Hp → Prop) → Prop
def PO (X : Cx) (e : Option Expr) (t : TO) : Prop :=
  ∀ (pins : List (Addr × Obj)) (s : Shared) (σ : St) (H : Hp) (Q : Option Int → Hp → Prop), Inv X pins σ H s → t σ H Q →
    wpAny (model X.prog X.w) X.A (evalPart e X.env) (fun u s' => ∃ o H', Inv X pins σ H' s' ∧ IsPart u o ∧ Q o H') X.xe s
def tNoPart : TO := fun _ H Q => Q none H
def tPart (t : TE) : TO := fun σ H Q => t σ H fun x H1 => ∃ i, x = .int i ∧ Q (some i) H1
section
variable {X : Cx} {e : Expr} {te : TE} {lo hi : Option Expr} {tl th : TO} {pos p2 : Pos}
theorem po_none : PO X none tNoPart := by
  intro pins s σ H Q I h
  rw [evalPart_none]
  exact wpAny_pure ⟨none, H, I, .none, h⟩
theorem po_some (h : PE X e te) : PO X (some e) (tPart te) := by
  intro pins s σ H Q I hw
  rw [evalPart_some]
  refine thn (h pins s σ H _ I hw) fun u s1 ⟨x, H1, I1, r1, q1⟩ => ?_
  obtain ⟨i, rfl, q⟩ := q1
  obtain ⟨t, rfl⟩ := r1
  exact ⟨some i, H1, I1, .int i t, q⟩
def SlR (X : Cx) (r : V → Option Int → Option Int → Hp → VK → Prop) : Prop :=
  ∀ (pins : List (Addr × Obj)) (s : Shared) (σ : St) (H : Hp) (x : V) (v vl vu : Value) (lo hi : Option Int) (sl : Addr) (Q : VK), Inv X pins σ H s → RelV x v → s.heap.IsSliceOf sl vl vu .none → IsPart vl lo → IsPart vu hi → r x lo hi H Q →
    ∃ T id, typeLookup (.type T) "__getitem__" = pure (some (.builtin id)) ∧ s.TypeIs v T ∧ wpAny (model X.prog X.w) X.A (getItem v (.ref sl)) (EP X pins σ Q) X.xe s
def tSl (r : V → Option Int → Option Int → Hp → VK → Prop) (te : TE) (tl th : TO) : TE := fun σ H Q => te σ H fun x H1 => tl σ H1 fun l H2 => th σ H2 fun u H3 => r x l u H3 Q
theorem pe_slice {r : V → Option Int → Option Int → Hp → VK → Prop} (hr : SlR X r) (he : PE X e te) (hl : PO X lo tl) (hu : PO X hi th) : PE X (.Subscript e (.Slice lo hi none p2) pos) (tSl r te tl th) := by
  intro pins s σ H Q I h
  refine Subscript_ (thn (he pins s σ H _ I h) fun v s1 ⟨x, H1, I1, r1, q1⟩ => ?_)
  refine wpAny_Slice (thn (hl pins s1 σ H1 _ I1 q1) fun vl s2 ⟨l, H2, I2, pl, q2⟩ => thn (hu pins s2 σ H2 _ I2 q2) fun vu s3 ⟨u, H3, I3, pu, q3⟩ => ?_)
  rw [evalPart_none]
  refine wpAny_pure ?_
  have I4 : Inv X pins σ H3 { s3 with heap := s3.heap.push { cls := .type "slice", data := .fields #[vl, vu, .none] } } := I3.kept (t' := s3.toks) fun b ob q => Heap.get?_push_of_some _ q
  obtain ⟨T, id, hT, ht, hg⟩ := hr pins { s3 with heap := s3.heap.push { cls := .type "slice", data := .fields #[vl, vu, .none] } } σ H3 x v vl vu l u s3.heap.objs.size Q I4 r1 (Heap.IsSliceOf.new ..) pl pu q3
  show wpAny (model X.prog X.w) X.A (subscriptTail e (.Slice lo hi none p2) v (.ref s3.heap.objs.size)) (EP X pins σ Q) X.xe { s3 with heap := s3.heap.push { cls := .type "slice", data := .fields #[vl, vu, .none] } }
  exact tail_any (ops := [.ref s3.heap.objs.size, v]) ht hT hg (by with_unfolding_all rfl)
def cutV (xs : List V) (lo hi : Option Int) : List V := (xs.drop (HT.sIx xs.length 0 lo)).take (HT.sIx xs.length xs.length hi - HT.sIx xs.length 0 lo)
theorem cutV_length (xs : List V) (lo hi : Option Int) : (cutV xs lo hi).length ≤ xs.length := by
  unfold cutV
  rw [List.length_take, List.length_drop]
  omega
end
end L2
namespace L2
open PySem PySem.Spec PyProof.Rows
def ixN (n : Nat) (i : Int) : Option Nat := if 0 ≤ i then (if i < n then some i.toNat else none) else if -(n : Int) ≤ i then some (i + n).toNat else none
def atI {α : Type} (xs : List α) (i : Int) : Option α := (ixN xs.length i).bind fun j => xs[j]?
theorem ixN_seq {n : Nat} {i : Int} {j : Nat} (h : ixN n i = some j) : seqIndex? i n = some j ∧ j < n ∧ -(n : Int) ≤ i ∧ i < n := by
  unfold ixN at h
  by_cases h0 : 0 ≤ i
  · rw [if_pos h0] at h
    by_cases h1 : i < n
    · rw [if_pos h1] at h
      have e : i.toNat = j := Option.some.inj h
      exact ⟨by rw [seqIndex_of h0 h1, e], by omega, by omega, h1⟩
    · rw [if_neg h1] at h; cases h
  · rw [if_neg h0] at h
    by_cases h1 : -(n : Int) ≤ i
    · rw [if_pos h1] at h
      have e : (i + n).toNat = j := Option.some.inj h
      exact ⟨by rw [seqIndex_neg (by omega) h1, e], by omega, h1, by omega⟩
    · rw [if_neg h1] at h; cases h
theorem atI_get {α : Type} {xs : List α} {i : Int} {v : α} (h : atI xs i = some v) : ∃ j, seqIndex? i xs.length = some j ∧ xs[j]? = some v ∧ j < xs.length ∧ -(xs.length : Int) ≤ i ∧ i < xs.length := by
  unfold atI at h
  cases e : ixN xs.length i with
  | none => rw [e] at h; cases h
  | some j =>
    rw [e] at h
    obtain ⟨h1, h2, h3, h4⟩ := ixN_seq e
    exact ⟨j, h1, h, h2, h3, h4⟩
theorem atI_nat {α : Type} {xs : List α} {j : Nat} {v : α} (h : xs[j]? = some v) : atI xs (j : Int) = some v := by
  have hj : j < xs.length := (List.getElem?_eq_some_iff.mp h).1
  have e : ixN xs.length (j : Int) = some j := by
    unfold ixN
    rw [if_pos (by omega), if_pos (by omega)]; simp
  unfold atI; rw [e]; exact h
def PlainIx (b : Expr) : Prop := ∀ o i, subscripted b false o i = operate [o, i] (getItem o i)
def IxR (X : Cx) (r : R2) : Prop :=
  ∀ (value slice : Expr) (pins : List (Addr × Obj)) (s : Shared) (σ : St) (H : Hp) (x y : V) (v u : Value) (Q : VK), Inv X pins σ H s → RelV x v → RelV y u → r x y H Q →
    subscripted slice false v u = operate [v, u] (getItem v u) → wpAny (model X.prog X.w) X.A (subscriptTail value slice v u) (EP X pins σ Q) X.xe s
def MtR (X : Cx) (id : String) (r : V → List V → Hp → VK → Prop) : Prop :=
  ∀ (pins : List (Addr × Obj)) (s : Shared) (σ : St) (H : Hp) (x : V) (xs : List V) (v : Value) (us : List Value) (Q : VK), Inv X pins σ H s → RelV x v → Vals xs us → r x xs H Q →
    wpAny (model X.prog X.w) X.A (call (.builtin id) (v :: us)) (EP X pins σ Q) X.xe s
section
variable {X : Cx} {a b : Expr} {ta tb : TE} {pos : Pos}
theorem IxR.or {r r' : R2} (h : IxR X r) (h' : IxR X r') : IxR X (fun x y H Q => r x y H Q ∨ r' x y H Q) := by
  intro value slice pins s σ H x y v u Q I rx ry q hs
  rcases q with q | q
  · exact h value slice pins s σ H x y v u Q I rx ry q hs
  · exact h' value slice pins s σ H x y v u Q I rx ry q hs
theorem pe_ix {r : R2} (hr : IxR X r) (ha : PE X a ta) (hb : PE X b tb) (hs : PlainIx b) : PE X (.Subscript a b pos) (tOp r ta tb) := by
  intro pins s σ H Q I h
  exact Subscript_ (binT ha hb I h fun v u s2 x y H2 I2 rx ry q => hr a b pins s2 σ H2 x y v u Q I2 rx ry q (hs _ _))
def rIxL (K : PySem.W.Frag) : R2 := fun x y H Q => ∃ p xs i v, x = .ref p ∧ y = .int i ∧ SqL K H p xs ∧ atI xs i = some v ∧ Q v H
def rIxT (K : PySem.W.Frag) : R2 := fun x y H Q => ∃ p xs i v, x = .ref p ∧ y = .int i ∧ SqT K H p xs ∧ atI xs i = some v ∧ Q v H
theorem ix_list : IxR X (rIxL X.K) := by
  intro value slice pins s σ H x y v u Q I rx ry h hs
  obtain ⟨p, xs, i, z, rfl, rfl, hq, he, q⟩ := h
  cases rx
  obtain ⟨t, rfl⟩ := ry
  obtain ⟨its, r, pl, hz⟩ := I.list hq
  obtain ⟨j, h1, h2, h3, h4, h5⟩ := atI_get he
  obtain ⟨w, ew, rw'⟩ := r.get h2
  have hl := r.length
  have hn := line63
  have fin : EP X pins σ Q w s := ⟨z, H, I, rw', q⟩
  by_cases h0 : 0 ≤ i
  · have hj : i.toNat = j := by
      rw [seqIndex_of h0 h5] at h1
      exact Option.some.inj h1
    exact item_listR pl.isList h0 (by omega) (by rw [hj]; simpa using ew) fin hs
  · have hj : (i + (its.toArray.size : Int)).toNat = j := by
      rw [seqIndex_neg (by omega) h4] at h1
      rw [List.size_toArray, ← hl]
      exact Option.some.inj h1
    exact subscriptTail_builtinR (x := w) pl.isList.typeIs slot_list_getitem.lookup
      (wpAny_getItem_list_neg (Q := fun r s' => r = w ∧ EP X pins σ Q r s') pl.isList (by omega) (by rw [List.size_toArray] <;> omega) (by omega) (by rw [hj]; simpa using ew) ⟨rfl, fin⟩) hs
theorem ix_tup : IxR X (rIxT X.K) := by
  intro value slice pins s σ H x y v u Q I rx ry h hs
  obtain ⟨p, xs, i, z, rfl, rfl, hq, he, q⟩ := h
  cases rx
  obtain ⟨t, rfl⟩ := ry
  obtain ⟨its, r, pl, hz⟩ := I.tuple hq
  obtain ⟨j, h1, h2, h3, h4, h5⟩ := atI_get he
  obtain ⟨w, ew, rw'⟩ := r.get h2
  have hl := r.length
  have hn := line63
  have fin : EP X pins σ Q w s := ⟨z, H, I, rw', q⟩
  exact subscriptTail_builtinR (x := w) pl.typeIs slot_tuple_getitem.lookup
    (getItem_tuple (j := j) (Q := fun r s' => r = w ∧ EP X pins σ Q r s') pl (by omega) (by omega) (by rw [List.size_toArray, ← hl]; exact h1) (by simpa using ew) ⟨rfl, fin⟩) hs
theorem slice_bounds (lo hi : Option Int) (n : Nat) : (sliceBounds lo hi none n).1 = ((HT.sIx n 0 lo : Nat) : Int) ∧ (sliceBounds lo hi none n).2.1 = ((HT.sIx n n hi : Nat) : Int) ∧ (sliceBounds lo hi none n).2.2 = 1 := by
  refine ⟨?_, ?_, rfl⟩
  · cases lo with
    | none => simp [sliceBounds, HT.sIx]
    | some i =>
      simp only [sliceBounds, HT.sIx, Option.getD_none, show (1 : Int) > 0 by decide, if_true]
      by_cases h : i < 0
      · simp only [h, if_true] <;> omega
      · simp only [h, if_false] <;> omega
  · cases hi with
    | none => simp [sliceBounds, HT.sIx]
    | some i =>
      simp only [sliceBounds, HT.sIx, Option.getD_none, show (1 : Int) > 0 by decide, if_true]
      by_cases h : i < 0
      · simp only [h, if_true] <;> omega
      · simp only [h, if_false] <;> omega
theorem slicePick_cut (its : List Value) (lo hi : Option Int) : slicePick its.toArray lo hi none = ((its.drop (HT.sIx its.length 0 lo)).take (HT.sIx its.length its.length hi - HT.sIx its.length 0 lo)).toArray := by
  obtain ⟨h1, h2, h3⟩ := slice_bounds lo hi its.toArray.size
  unfold slicePick
  rw [h1, h2, h3]
  simp only [sliceRange_one, pick_run, List.size_toArray] <;> rfl
def rSlL (K : PySem.W.Frag) : V → Option Int → Option Int → Hp → VK → Prop := fun x lo hi H Q => ∃ a xs, x = .ref a ∧ SqL K H a xs ∧ ∀ p, H p = none → Q (.ref p) (upd H p (.lst (cutV xs lo hi)))
theorem sl_list : SlR X (rSlL X.K) := by
  intro pins s σ H x v vl vu lo hi sl Q I rx hs pl pu h
  obtain ⟨a, xs, rfl, hx, q⟩ := h
  cases rx
  obtain ⟨its, r, ht, hz⟩ := I.list hx
  have hlen := r.length
  refine ⟨"list", _, slot_list_getitem.lookup, ht.isList.typeIs, ?_⟩
  refine wpAny_getItem_list_slice ht.isList hs pl pu .none (by simp) ?_ (by rw [List.size_toArray] <;> omega)
  rw [slicePick_cut, ← hlen]
  refine ⟨.ref s.heap.objs.size, _, I.laid (t' := s.toks) (o := .lst (cutV xs lo hi)) (fun b ob q => Heap.get?_push_of_some _ q) (Nat.le_refl _) ?_, rfl, q _ (I.hok.fresh (Nat.le_refl _))⟩
  exact ⟨Nat.le_trans (cutV_length xs lo hi) hz, _, 0, (r.drop (HT.sIx xs.length 0 lo)).take (HT.sIx xs.length xs.length hi - HT.sIx xs.length 0 lo), Heap.get?_push_size _ rfl⟩
theorem call_len_seq : CallR X (.builtin "len") (fun xs H Q => ∃ p ys, xs = [.ref p] ∧ (SqL X.K H p ys ∨ SqT X.K H p ys) ∧ Q (.int ys.length) H) := by
  intro pins s σ H xs us Q I r h
  obtain ⟨p, ys, rfl, hq, q⟩ := h
  obtain ⟨u, rfl, rx⟩ := vals1 r
  cases rx
  have hn := line63
  rcases hq with hq | hq
  · obtain ⟨its, r', pl, hz⟩ := I.list hq
    have hlen := r'.length
    exact Calls.call_len_list pl.isList (by simp only [List.size_toArray] <;> omega) ⟨.int ys.length, H, I.tok _, ⟨s.toks + 1, by rw [List.size_toArray, hlen]⟩, q⟩
  · obtain ⟨its, r', pl, hz⟩ := I.tuple hq
    have hlen := r'.length
    exact len_tuple pl (by simp only [List.size_toArray] <;> omega) ⟨.int ys.length, H, I.tok _, ⟨s.toks + 1, by rw [List.size_toArray, hlen]⟩, q⟩
theorem call_len_str : CallR X (.builtin "len") (fun xs H Q => ∃ z, xs = [.str z] ∧ z.length ≤ sizeLine ∧ Q (.int z.length) H) := by
  intro pins s σ H xs us Q I r h
  obtain ⟨z, rfl, hz, q⟩ := h
  obtain ⟨u, rfl, t, rfl⟩ := vals1 r
  have hn := line63
  exact len_str (by omega) ⟨.int z.length, H, I.tok _, ⟨_, rfl⟩, q⟩
theorem CallR.or {f : Value} {r r' : List V → Hp → VK → Prop} (h : CallR X f r) (h' : CallR X f r') : CallR X f (fun xs H Q => r xs H Q ∨ r' xs H Q) := by
  intro pins s σ H xs us Q I rs q
  rcases q with q | q
  · exact h pins s σ H xs us Q I rs q
  · exact h' pins s σ H xs us Q I rs q
theorem call_list_of : CallR X (.type "list") (fun xs H Q => ∃ p ys, xs = [.ref p] ∧ (SqL X.K H p ys ∨ SqT X.K H p ys) ∧ ∀ l, H l = none → Q (.ref l) (upd H l (.lst ys))) := by
  intro pins s σ H xs us Q I r h
  obtain ⟨p, ys, rfl, hq, q⟩ := h
  obtain ⟨u, rfl, rx⟩ := vals1 r
  cases rx
  have fin : ∀ (its : List Value), Vals ys its → ys.length ≤ sizeLine → ∀ (h' : Heap) (c' : Nat), (∀ b o', s.heap.get? b = some o' → h'.get? b = some o') →
      h'.get? s.heap.objs.size = some { cls := .type "list", dict := none, data := .seq its.toArray c', slots := #[] } → EP X pins σ Q (.ref s.heap.objs.size) { s with heap := h' } := fun its r' hz h' c' kp e =>
    ⟨.ref s.heap.objs.size, _, I.laid (t' := s.toks) kp (Nat.le_refl _) (show ObjOk X.prog X.w _ h' _ (.lst ys) from ⟨hz, its, c', r', e⟩), rfl, q _ (I.hok.fresh (Nat.le_refl _))⟩
  rcases hq with hq | hq
  · obtain ⟨its, r', pl, hz⟩ := I.list hq
    have hlen := r'.length
    obtain ⟨o, ho, hc, n, hd⟩ := pl.isList
    exact call_list_seq p (.inl rfl) ho hc hd (fun h' c' kp e => fin its r' hz h' c' kp e) (by simp only [List.size_toArray] <;> omega)
  · obtain ⟨its, r', pl, hz⟩ := I.tuple hq
    have hlen := r'.length
    obtain ⟨o, ho, hc, n, hd⟩ := pl
    exact call_list_seq p (.inr rfl) ho hc hd (fun h' c' kp e => fin its r' hz h' c' kp e) (by simp only [List.size_toArray] <;> omega)
def tyV (K : PySem.W.Frag) (T : String) (x : V) (H : Hp) : Prop := match x with
  | .str _ => T = "str"
  | .int _ => T = "int"
  | .ref p => (T = "list" ∧ ∃ xs, SqL K H p xs) ∨ (T = "tuple" ∧ ∃ o, K.lookup p = some o ∧ o.cls = .type "tuple" ∧ o.dict = none) ∨
      (T = "dict" ∧ ((∃ kvs, H p = some (.dK kvs)) ∨ ∃ kvs, H p = some (.dT kvs))) ∨ (T = "set" ∧ ∃ S n, H p = some (.set S n))
  | _ => False
theorem tyV_is {pins : List (Addr × Obj)} {σ : St} {H : Hp} {s : Shared} {T : String} {x : V} {v : Value} (I : Inv X pins σ H s) (r : RelV x v) (ty : tyV X.K T x H) :
    s.TypeIs v T ∧ ∀ a, v = .ref a → ∃ ob, s.heap.get? a = some ob ∧ ob.dict = none := by
  cases x with
  | str z =>
    obtain ⟨t, rfl⟩ := r
    cases (show T = "str" from ty)
    exact ⟨typeIs_str s z t, fun _ e => nomatch e⟩
  | int i =>
    obtain ⟨t, rfl⟩ := r
    cases (show T = "int" from ty)
    exact ⟨typeIs_int s i t, fun _ e => nomatch e⟩
  | ref p =>
    cases r
    rcases ty with ⟨rfl, xs, hq⟩ | ⟨rfl, o, hk, hc, hd⟩ | ⟨rfl, hk⟩ | ⟨rfl, S, n, hk⟩
    · obtain ⟨its, _, pl, _⟩ := I.list hq
      refine ⟨pl.isList.typeIs, fun a e => ?_⟩
      cases e
      obtain ⟨o, n, e, c, hd, _⟩ := pl
      exact ⟨o, e, hd⟩
    · refine ⟨⟨o, I.kIn p o hk, hc⟩, fun a e => ?_⟩
      cases e
      exact ⟨o, I.kIn _ o hk, hd⟩
    · have z : ∃ o, s.heap.get? p = some o ∧ o.ExactDict := by
        rcases hk with ⟨kvs, hk⟩ | ⟨kvs, hk⟩
        · obtain ⟨_, _, _, _, o, _, _, e, ex, _⟩ := I.hok p _ hk
          exact ⟨o, e, ex⟩
        · obtain ⟨_, _, _, _, o, _, _, e, ex, _⟩ := I.hok p _ hk
          exact ⟨o, e, ex⟩
      obtain ⟨o, e, ex⟩ := z
      refine ⟨⟨o, e, ex.1⟩, fun a e2 => ?_⟩
      cases e2
      exact ⟨o, e, ex.2.1⟩
    · obtain ⟨o, _, _, _, e, ex, _⟩ := I.hok p _ hk
      refine ⟨⟨o, e, ex.1⟩, fun a e2 => ?_⟩
      cases e2
      exact ⟨o, e, ex.2.1⟩
  | _ => exact False.elim ty
def tBM (K : PySem.W.Frag) (T : String) (r : V → List V → Hp → VK → Prop) (to : TE) (t : TA) : TE := fun σ H Q => to σ H fun x H1 => tyV K T x H1 ∧ t σ H1 fun xs H2 => r x xs H2 Q
variable {o e : Expr} {es : List Expr} {to : TE} {t : TA} {name : Str} {apos cpos : Pos} {T id : String} {r : V → List V → Hp → VK → Prop}
theorem pe_bm (pa : PlainAttrs T) (slot : Slot T name id) (hty : typeOf (.builtin id) = pure (.type "method_descriptor")) (hm : MtR X id r) (ho : PE X o to) (ha : PA X (e :: es) t)
    (hbase : attributeBase o name X.env (eval o X.env) = eval o X.env := by rfl)
    (hfew : ((backTo cpos (starEach (e :: es) X.env)).all (fun x => !x.1) && (backToKw cpos (keywordEach [] X.env)).all (fun x => x.1.isSome)
      && decide ((e :: es).length + ([] : List Keyword).length + (if ([] : List Keyword).isEmpty then 0 else 1) < 30)) = true := by rfl)
    (hline : (apos.endLine == cpos.line) = true := by rfl) (hs : starEach (e :: es) X.env = (false, eval e X.env) :: starEach es X.env := by rfl) (hplain : (backTo cpos (starEach es X.env)).any (·.1) = false := by rfl) :
    PE X (.Call (.Attribute o name apos) (e :: es) [] cpos) (tBM X.K T r to t) := by
  intro pins s σ H Q I h
  refine wpAny_Call_method_late hbase hfew hline rfl (thn (ho pins s σ H _ I h) fun v s1 ⟨x, H1, I1, r1, ty, q1⟩ => ?_)
  obtain ⟨h1, h2⟩ := tyV_is I1 r1 ty
  refine ⟨T, id, pa, slot, hty, h1, h2, ?_⟩
  have hA := ha cpos pins s1 σ H1 _ I1 q1
  rw [hs] at hA ⊢
  refine Calls.callWith_builtin (by show (false || (backTo cpos (starEach es X.env)).any (·.1)) = false; rw [hplain] <;> rfl) (Calls.evalArgs_plain ?_)
  exact thn hA fun us s2 ⟨vs, H2, I2, r2, q2⟩ => hm pins s2 σ H2 x vs v us Q I2 r1 r2 q2
/- xs.append(e), list.index on a module's tuple .. are MtR facts of 06m -/
end
end L2
namespace L2
open PySem PySem.Spec PyProof.Rows
def MtM (X : Cx) (id : String) (r : V → List V → Hp → VK → Prop) : Prop :=
  ∀ (pins : List (Addr × Obj)) (s : Shared) (σ : St) (H : Hp) (x : V) (xs : List V) (v : Value) (us : List Value) (Q : VK), Inv X pins σ H s → RelV x v → Vals xs us → r x xs H Q →
    wpAny (model X.prog X.w) X.A (call (.builtin id) (v :: us)) (EP X pins σ Q) X.xe s
theorem Vals.one : ∀ {x : V} {us : List Value}, Vals [x] us → ∃ u, us = [u] ∧ RelV x u
  | _, _, .cons r .nil => ⟨_, rfl, r⟩
section
variable {X : Cx} {pins : List (Addr × Obj)} {σ : St} {H : Hp} {s : Shared} {l b : Addr} {xs ys zs : List V}
theorem Inv.lset {its its' : List Value} {n : Nat} {f : Array Value → Array Value} {t' : Nat} (I : Inv X pins σ H s) (hH : H l = some (.lst xs))
    (e : s.heap.get? l = some { cls := .type "list", data := .seq its.toArray n }) (hf : f its.toArray = its'.toArray) (hv : Vals ys its') (hz : ys.length ≤ sizeLine) :
    Inv X pins σ (upd H l (.lst ys)) { s with heap := s.heap.update l (Obj.mapSeq f), toks := t' } := by
  have q := PySem.IsL.update e f
  rw [hf] at q
  refine I.write (x := l) (e := l) (by rw [hH]; exact trivial) (.inl rfl) (fun b' u hb hu => (Heap.get?_update_other s.heap (Obj.mapSeq f) (Ne.symm hb)).trans hu) ⟨_, q⟩ ?_
  exact ⟨hz, its', _, hv, q⟩
theorem Inv.lnew {its : List Value} {t' : Nat} (I : Inv X pins σ H s) (hv : Vals ys its) (hz : ys.length ≤ sizeLine) :
    Inv X pins σ (upd H s.heap.objs.size (.lst ys)) { s with heap := s.heap.push { cls := .type "list", data := .seq its.toArray }, toks := t' } :=
  I.laid (fun _ _ q => Heap.get?_push_of_some _ q) (Nat.le_refl _) ⟨hz, its, 0, hv, Heap.get?_push_size _ rfl⟩
theorem Inv.fresh (I : Inv X pins σ H s) : H s.heap.objs.size = none := I.hok.fresh (Nat.le_refl _)
theorem Inv.lstM (I : Inv X pins σ H s) (hH : H l = some (.lst xs)) : xs.length ≤ sizeLine ∧ ∃ (its : List Value) (n : Nat), Vals xs its ∧ xs.length = its.length ∧ s.heap.get? l = some { cls := .type "list", data := .seq its.toArray n } := by
  obtain ⟨z, its, n, r, e⟩ := I.hok l _ hH
  exact ⟨z, its, n, r, r.length, e⟩
end
section
variable {X : Cx}
def rAppend : V → List V → Hp → VK → Prop := fun x vs H Q => ∃ l xs y, x = .ref l ∧ vs = [y] ∧ H l = some (.lst xs) ∧ xs.length < sizeLine ∧ Q .non (upd H l (.lst (xs ++ [y])))
theorem mt_append : MtM X "list.append" rAppend := by
  intro pins s σ H x vs v us Q I rx rv h
  obtain ⟨l, xs, y, rfl, rfl, hH, hz, q⟩ := h
  cases rx
  obtain ⟨u, rfl, ru⟩ := rv.one
  obtain ⟨z, its, n, r, hl, e⟩ := I.lstM hH
  refine call_meets F.slot_list_append ⟨_, e, rfl⟩ F.entry_list_append (F.args_list_append_2 _ _) (PySem.list_append l its.toArray n u (by rw [List.size_toArray]; omega)) ⟨e, ?_⟩
  refine ⟨.non, _, I.lset (its' := its ++ [u]) hH e (by simp) (r.append (.cons ru .nil)) ?_, rfl, q⟩
  rw [List.length_append, List.length_singleton]
  omega
def rCat : R2 := fun x y H Q => ∃ l b xs zs, x = .ref l ∧ y = .ref b ∧ H l = some (.lst xs) ∧ H b = some (.lst zs) ∧ xs.length + zs.length ≤ sizeLine ∧ ∀ p, H p = none → Q (.ref p) (upd H p (.lst (xs ++ zs)))
theorem op_cat : OpR X (binaryOp .Add) rCat := by
  intro pins s σ H x y v u Q I rx ry h
  obtain ⟨l, b, xs, zs, rfl, rfl, hH, hB, hz, q⟩ := h
  cases rx
  cases ry
  obtain ⟨z, its, n, r, hl, e⟩ := I.lstM hH
  obtain ⟨z2, its2, n2, r2, hl2, e2⟩ := I.lstM hB
  refine PySem.P.add_list e e2 ?_ (by rw [List.size_toArray, List.size_toArray]; omega)
  have ea : its.toArray ++ its2.toArray = (its ++ its2).toArray := by simp
  rw [ea]
  exact ⟨.ref _, _, I.lnew (t' := s.toks) (r.append r2) (by rw [List.length_append]; omega), rfl, q _ I.fresh⟩
end
section
variable {prog : Program} {w : World} {A : Around} {E : Value → Shared → Prop} {s : Shared}
set_option maxRecDepth 100000 in
end
section
variable {X : Cx}
end
end L2
namespace Att
open PySem PySem.W PySem.Calls PyProof.Rows
theorem ints_of_wellAll {P : Params} {h : Heap} : ∀ (ns : List Int) (vs : List Value), WellAll P h vs (ns.map WData.int) → IntsAre vs ns := by
  intro ns
  induction ns with
  | nil =>
    intro vs w
    rw [List.map_nil] at w
    cases w
    exact .nil
  | cons n ns ih =>
    intro vs w
    rw [List.map_cons] at w
    cases w with
    | cons a b =>
      cases a
      exact .cons _ _ (ih _ b)
theorem script_of {l : OpenLaw} {n : Nat} (hn : l.most = some n) {P : Params} {h : Heap} {args : List WData} {vals : List Value}
    (hpre : l.row.toRowW.claim.pre args = true) (hwl : WellAll P h vals args) :
    ∃ a vs ns, vals = [Value.ref a] ∧ args = [WData.list (ns.map WData.int)] ∧ h.get? a = some { cls := .type "list", data := .seq vs.toArray } ∧ IntsAre vs ns ∧ ns.length ≤ n := by
  have hsh : WShape.hasAll [] args [.list .int] = true := (pre_splitW hpre).1
  have hc : l.pre.holds [] { args := args } = true := (pre_splitW hpre).2
  obtain ⟨d, r, rfl, h1, h2⟩ := hasAllW_cons hsh
  obtain rfl := hasAllW_nil h2
  obtain ⟨xs, rfl, h3⟩ := hasW_list h1
  obtain ⟨ns, rfl⟩ := items_int h3
  have hlen : ns.length ≤ n := by
    unfold OpenLaw.pre at hc
    have h4 : (WTm.not (.lt (.lit (.int (n : Int))) (.len (.arg 0)))).holds [] { args := [.list (ns.map .int)] } = true := by
      have h4 := (holds_andW hc).1
      rw [hn] at h4
      exact h4
    have h5 := condW_of h4 (w_not (w_lt w_lit (w_len_list (w_arg rfl))))
    rw [List.length_map] at h5
    refine Nat.le_of_not_lt fun q => ?_
    have q' : (n : Int) < ((ns.length : Nat) : Int) := by omega
    first
      | (rw [decide_eq_true q'] at h5; exact absurd h5 (by decide))
      | (simp at h5; omega)
  cases hwl with
  | cons w1 w2 =>
    cases w2
    cases w1 with
    | list ho hall => exact ⟨_, _, ns, rfl, rfl, ho, ints_of_wellAll ns _ hall, hlen⟩
theorem post_true (l : OpenLaw) (args : List WData) : l.row.toRowW.claim.post args (.bool true) args = true :=
  postW_of (r := l.row.toRowW) (X := (true == true))
    (show WShape.has [] (.bool true) .bool = true by first | rfl | decide | simp [WShape.has, WShape.arms, WShape.armsAll])
    (show (WTm.eq .res (.lit (.bool true))).value [] { args := args, res := some (.bool true), after := args } = some (.bool (true == true)) from w_eq_bool (w_res rfl) w_lit) rfl
theorem attach_call {l : OpenLaw} {n : Nat} {q : Program} {loose : List Str} {XP : (Str → Option Value) → Heap → Prop} {YP : World → Heap → Prop} {d : DefRec}
    (hn : l.most = some n) (hdf : d.params.defaults = [])
    (call : ∀ (w : World) (s₀ s₁ : Shared) (mg mb : Str → Option Value) (fa : Addr) (o : Obj) (pm cd doc : Value) (a : Addr) (vs : List Value) (ns : List Int),
      Ground q loose [] XP w s₀ mg mb s₁.heap → YP w s₁.heap →
      s₁.heap.get? fa = some o → o.data = .func (docDef d.name d.params d.body d.scope pm cd doc) → s₁.heap.CodeRec cd d.name → mg d.name = some (.ref fa) →
      s₁.heap.get? a = some { cls := .type "list", data := .seq vs.toArray } → IntsAre vs ns → ns.length ≤ n → s₁.gens = #[] →
      codeAny (model l.prog w) callerA (.call (.ref fa) ⟨[.ref a], []⟩) (fun r s' => r = .ok (.ret (.bool true)) ∧ OldK s₁.heap s'.heap ∧ s'.os = s₁.os ∧ AllBare s'.gens) s₁) :
    WalkO q loose XP YP l.row.toRowW d [] (fun f vs => PySem.call f vs) := by
  intro w s₀ s₁ mg mb G Y fa o pm cd doc dV kV ho hd hcd hD hmg hg args vals as hpre hlay hrd hwl hlo
  obtain rfl : dV = .none := Dflts.none hD hdf
  obtain rfl : kV = .none := Dflts.noKw hD
  obtain ⟨a, vs, ns, rfl, rfl, hobj, hints, hlen⟩ := script_of hn hpre hwl
  refine enter_call (codeAny_mono (call w s₀ s₁ mg mb fa o pm cd doc a vs ns G Y ho (fd_plain hd) hcd hmg hobj hints hlen hg) fun r s' hq => ?_)
  obtain ⟨rfl, h2, h3, h4⟩ := hq
  exact ⟨.inl ⟨.bool true, .bool true, [], rfl, fun _ => rfl, .bool true, post_true l _, fun _ => ⟨List.Pairwise.nil, fun _ hm => (nomatch hm)⟩⟩, h2, h3, h4⟩
section
variable {prog : Program} {w : World} {A : Around} {E : Value → Shared → Prop} {s : Shared} {K : Frag}
def ledger (h : Heap) (L d : Addr) : List (Addr × Obj) := (List.range h.objs.size).filterMap fun a => if a = L ∨ a = d then none else (h.get? a).map fun o => (a, o)
end
end Att
namespace L2
open PySem PySem.Spec PyProof.Rows
theorem vals_ints : ∀ {vs : List Value} {ns : List Int}, IntsAre vs ns → Vals (ns.map V.int) vs
  | _, _, .nil => .nil
  | _, _, .cons n t h => .cons ⟨t, rfl⟩ (vals_ints h)
def Only (H : Hp) : Prop := ∀ b, H b = none ∨ ∃ o xs, H b = some (.frz o (.lst xs))
theorem law_call {P : Program} {w : World} {K : PySem.W.Frag} {mg mb : Str → Option Value} {CX : CXT} {k : Nat} {fa a : Addr} {fd : FuncData} {x : Str} {sp : Sp} {s₁ : Shared} {vs : List Value} {ns : List Int}
    (KX : K.In s₁.heap) (hns : s₁.heap.Ns mainGlobals mg) (hb : s₁.heap.Ns builtinsNs mb) (hbb : ∀ x : Str, x ≠ "__name__" → mb x = bootBuiltins x) (hlim : s₁.heap.NoLimit) (hg : s₁.gens = #[])
    (ha : s₁.heap.get? a = some { cls := .type "list", data := .seq vs.toArray }) (hi : IntsAre vs ns) (hl : ns.length ≤ sizeLine) (hr : Room k callerA)
    (F : ∀ base : Heap, K.In base → base.Ns mainGlobals mg → FnOk P w K mg base CX k fa fd [x] sp) (hbind : ∀ (s : Shared) (u : Value), BindsTo s fd ⟨[u], []⟩ [(x, u)])
    (hsp : ∀ H : Hp, Only H → SqL K H a (ns.map V.int) → sp [.ref a] H (fun v _ => v = .bl true) fun _ _ _ => False)
    (hCX : ∀ H e s', CX [] H s₁ (fun _ _ _ => False) e s' → False) :
    codeAny (model P w) callerA (.call (.ref fa) ⟨[.ref a], []⟩) (fun r s' => r = .ok (.ret (.bool true)) ∧ OldK s₁.heap s'.heap ∧ s'.os = s₁.os ∧ AllBare s'.gens) s₁ := by
  have rv := vals_ints hi
  have lenV := hi.length
  -- from an abstract heap in which nothing but the script may be tracked
  have core : ∀ H : Hp, Only H → SqL K H a (ns.map V.int) → HOk P w H s₁.heap → (∀ b, H b ≠ none → b = a) → (H a ≠ none → K.lookup a = none) →
      codeAny (model P w) callerA (.call (.ref fa) ⟨[.ref a], []⟩) (fun r s' => r = .ok (.ret (.bool true)) ∧ OldK s₁.heap s'.heap ∧ s'.os = s₁.os ∧ AllBare s'.gens) s₁ := by
    intro H hO hS hok hA hK
    have base_of : ∀ {b : Addr} {o : Obj}, s₁.heap.get? b = some o → H b = none → (hidT s₁.heap H).get? b = some o := fun e n => hidT_get e n
    have noA : ∀ {b : Addr} {o : Obj} {es : Array DictEntry} {ep : Nat}, s₁.heap.get? b = some o → o.data = .dict es ep → H b = none := fun {b o es ep} e d => by
      cases q : H b with
      | none => rfl
      | some u =>
        have e' : b = a := hA b (by rw [q]; simp)
        subst e'
        rw [ha] at e; cases e
        have d' : Data.seq vs.toArray _ = Data.dict es ep := d
        cases d'
    have nsK : ∀ {b : Addr} {m : Str → Option Value}, s₁.heap.Ns b m → (hidT s₁.heap H).Ns b m := fun {b m} ⟨o, es, ep, e, d, r⟩ => ⟨o, es, ep, base_of e (noA e d), d, r⟩
    have hKb : K.In (hidT s₁.heap H) := fun b o e => base_of (KX b o e) (by
      cases q : H b with
      | none => rfl
      | some u =>
        have e' : b = a := hA b (by rw [q]; simp)
        subst e'
        rw [hK (by rw [q]; simp)] at e; cases e)
    have hM : Mod K mg (hidT s₁.heap H) := ⟨hKb, nsK hns, ⟨mb, nsK hb, hbb⟩, let ⟨mc, h1, h2⟩ := hlim; ⟨mc, nsK h1, h2⟩⟩
    have e0 : Env0 P w K mg (hidT s₁.heap H) callerA [] s₁ H := ⟨rfl, hM, fun b o e => of_hidT e, Nat.le_of_eq (hidT_size _ _), trivial, fun b hb => absurd (show b ∈ ([] : List Addr) from hb) (by simp), hok, .of_eq hg⟩
    refine codeAny_mono ((F _ hKb (nsK hns)).run callerA [] s₁ H ⟨[.ref a], []⟩ [.ref a] [.ref a] _ _ hr e0 (hbind s₁ (.ref a)) (.cons rfl .nil) (hsp H hO hS)) fun r s' h => ?_
    cases r with
    | error e => exact (hCX H e s' h).elim
    | ok fl =>
      cases fl with
      | next => exact False.elim h
      | brk => exact False.elim h
      | cont => exact False.elim h
      | ret u =>
        obtain ⟨v, H', os, bare, un, hok', r', q⟩ := h
        have q' : v = .bl true := q
        subst q'
        obtain rfl : u = Value.bool true := r'
        refine ⟨rfl, OldK.of_keep fun b o e => ?_, os, bare⟩
        cases q : H b with
        | none => exact un.keep b o e q (by intro z; exact absurd (show b ∈ ([] : List Addr) from z) (by simp)) (by simp)
        | some u =>
          rcases hO b with z | ⟨ob, xs, z⟩
          · rw [q] at z; cases z
          · have z2 := un.frzs b ob _ z
            obtain ⟨e1, _⟩ := hok b _ z
            obtain ⟨e2, _⟩ := hok' b _ z2
            rw [e] at e1; cases e1
            exact e2
  cases hk : K.lookup a with
  | some o =>
    -- the script is one of the module's own objects
    have e := KX a o hk
    rw [ha] at e
    cases e
    refine core (fun _ => none) (fun _ => .inl rfl) (.inr ⟨_, vs.toArray, _, hk, rfl, rfl, rfl, by rw [List.size_toArray, lenV]; exact hl, by simpa using rv⟩) (fun b u z => by have z' : (none : Option HO) = some u := z; cases z') (fun b z => absurd rfl z) fun z => absurd rfl z
  | none =>
    refine core (fun b => if b = a then some (.frz { cls := .type "list", data := .seq vs.toArray } (.lst (ns.map V.int))) else none) (fun b => ?_) (.inl (.inr ⟨{ cls := .type "list", data := .seq vs.toArray }, if_pos rfl⟩)) (fun b u z => ?_) (fun b z => ?_) fun _ => hk
    · by_cases hb : b = a
      · exact .inr ⟨_, _, if_pos hb⟩
      · exact .inl (if_neg hb)
    · by_cases hb : b = a
      · have z' := (if_pos hb).symm.trans z
        cases z'
        subst hb
        exact ⟨ha, by rw [List.length_map]; exact hl, vs, _, rv, ha⟩
      · have z' := (if_neg hb).symm.trans z
        cases z'
    · by_cases hb : b = a
      · exact hb
      · exact absurd (if_neg hb) z
end L2
namespace L2
open PySem PySem.Spec PyProof.Rows
abbrev KOf {K : PySem.W.Frag} {h : Heap} (_ : K.In h) : PySem.W.Frag := K
theorem walk_of {l : PySem.W.OpenLaw} {n k : Nat} {q : Program} {loose : List Str} {XP : (Str → Option Value) → Heap → Prop} {YP : World → Heap → Prop} {d : DefRec} {K : Params → PySem.W.Frag} {CX : World → CXT} {sp : World → Sp} {x : Str}
    (hn : l.most = some n) (hn2 : n ≤ sizeLine) (hdf : d.params.defaults = []) (hr : Room k callerA)
    (hY : ∀ (w : World) (h : Heap), YP w h → (K w.params).In h)
    (F : ∀ (w : World) (mg : Str → Option Value) (fa : Addr) (h : Heap), (K w.params).In h → h.Ns mainGlobals mg → mg d.name = some (.ref fa) →
      ∃ fd : FuncData, (∀ (s : Shared) (u : Value), BindsTo s fd ⟨[u], []⟩ [(x, u)]) ∧
        ∀ base : Heap, (K w.params).In base → base.Ns mainGlobals mg → FnOk l.prog w (K w.params) mg base (CX w) k fa fd [x] (sp w))
    (hsp : ∀ (w : World) (H : Hp) (a : Addr) (ns : List Int), ns.length ≤ n → Only H → SqL (K w.params) H a (ns.map V.int) → sp w [.ref a] H (fun v _ => v = .bl true) fun _ _ _ => False)
    (hCX : ∀ (w : World) (H : Hp) (s : Shared) (e : Value) (s' : Shared), CX w [] H s (fun _ _ _ => False) e s' → False) :
    PySem.W.WalkO q loose XP YP l.row.toRowW d [] (fun f vs => PySem.call f vs) := by
  refine Att.attach_call hn hdf fun w s₀ s₁ mg mb fa o pm cd doc a vs ns G Y ho hd hcd hmg hobj hints hlen hg => ?_
  have KX := hY w _ Y
  obtain ⟨fd, hb, hF⟩ := F w mg fa _ KX G.T.g hmg
  exact law_call KX G.T.g G.T.b G.T.builtins G.T.nolimit hg hobj hints (Nat.le_trans hlen hn2) hr hF hb (fun H hO hS => hsp w H a ns hlen hO hS) fun H e s' => hCX w H s₁ e s'
end L2
/- THE LAST THEOREM (shape; LID, My.* are yours):
   My.Adr: a structure of the addresses that your layer names (classes, functions); My.Txt K t: a structure (Prop) of the equations over K;
   My.txt_mk : {K} {implicit addresses ..} (e1 : nsIn K mainGlobals "law" = some (some (.ref f))) (e2 : K.lookup f = some ⟨oc, od, .func (fnOf "law" "law" params body scope dV kV doc pm an cdv ct), sl⟩) (e3 : codeIn K cdv "law" = true) .. : ∃ t, My.Txt K t
set_option maxRecDepth 100000 in
set_option maxHeartbeats 0 in
theorem PySem.Challenge.cw_LID_holds : PySem.Challenge.rw_LID.Holds := by
  w_on; o_law; k_head; (case hw => w_witness2)
  k_fill
  refine L2.walk_of (l := PySem.Challenge.rw_LID) (n := 63) (k := 40) (x := "script") (CX := fun w => ..) (sp := fun _ => My.sp_law) rfl (by decide) rfl ⟨rfl, by decide, by decide⟩ (fun w h Y => PySem.W.kIn_of Y) ?F ?S ?C
  case F =>
    intro w mg fa h KX G hmg
    have T : ∃ t, My.Txt (L2.KOf KX) t := by
      dsimp only [L2.KOf]                          -- K must stand as «<heap const> w.params» for k_is
      refine' My.txt_mk ?e1 ?e2 ?e3 ..
      (case e1 => PySem.W.k_is)                    -- in the order: a name -> its address -> its object -> its parts
      (case e2 => PySem.W.k_is)
      ..
    obtain ⟨t, T⟩ := T
    have e0 := hmg.symm.trans (PySem.W.mg_of KX G T.law)
    cases e0                                       -- fa is the law's own address
    exact ⟨_, fun s u => .of_eq rfl, fun base kb nb => My.law_fn T kb nb⟩     -- if «.of_eq rfl» comes too early: refine' ⟨_, ?b, fun base kb nb => My.law_fn T kb nb⟩; exact fun s u => .of_eq rfl
  case S => exact fun w H a ns hl hO hS => ..
  case C => exact ..
(the tactic k_is has no namespace: write k_is) -/
namespace L2
open PySem PySem.Spec PyProof.Rows
def defArgs (s : Stmt) : Arguments := match s with
  | .FunctionDef _ a _ _ _ _ _ _ _ _ => a
  | _ => { posonlyargs := [], args := [], vararg := none, kwonlyargs := [], kw_defaults := [], kwarg := none, defaults := [] }
def defBody (s : Stmt) : List Stmt := match s with
  | .FunctionDef _ _ b _ _ _ _ _ _ _ => b
  | _ => []
def defScope (s : Stmt) : Scope := match s with
  | .FunctionDef _ _ _ _ _ _ sc _ _ _ => sc
  | _ => { kind := .function, names := [], isGenerator := false, isCoroutine := false }
abbrev CX0 : CXT := fun _ _ _ _ _ _ => False
abbrev E0 : XK := fun _ _ _ => False
theorem pass0 {X : Cx} : Passes CX0 X E0 := fun _ _ _ _ _ _ _ h => h.elim
structure Fun (K : PySem.W.Frag) (x qual : Str) (st : Stmt) (f : Addr) (fd : FuncData) : Prop where
  ex : ∃ (oc : Value) (od : Option Addr) (kV doc pm : Value) (an : Option Addr) (cdv ct : Value) (osl : Array (Option Value)),
    fd = PySem.W.fnOf x qual (defArgs st) (defBody st) (defScope st) .none kV doc pm an cdv ct ∧ K.lookup f = some ⟨oc, od, .func fd, osl⟩ ∧ PySem.W.codeIn K cdv qual = true
  kp : PySem.W.keepIn K (.ref f) = true
section
variable {P : Program} {w : World} {K : PySem.W.Frag} {mg : Str → Option Value} {base : Heap}
theorem Fun.ok {x qual : Str} {st : Stmt} {f : Addr} {fd : FuncData} {N ps : List Str} {k : Nat} {sp : Sp} (F : Fun K x qual st f fd) (S : FnScope N ps (defScope st)) (len : ∀ vs H Q E, sp vs H Q E → vs.length = ps.length)
    (hbody : ∀ (cdv : Value) (A : Around) (outer : List Env) (s : Shared) (H : Hp) (vs : List V) (Q : VK) (E : XK), Room k (A.deeper (envOfC qual (defScope st) s.heap.objs.size f cdv)) → sp vs H Q E →
      ∃ t, PSs (cxOf CX0 P w K mg base N qual (defScope st) f cdv A outer s H E).nox (defBody st) t ∧ t { nx := fun _ H' => Q .non H', rt := Q } (start N vs) H) : FnOk P w K mg base CX0 (k + 1) f fd ps sp := by
  obtain ⟨oc, od, kV, doc, pm, an, cdv, ct, osl, rfl, lk, hcd⟩ := F.ex
  refine fn_of lk hcd S len fun A outer s H vs Q E hr hsp => ?_
  obtain ⟨t, h, q⟩ := hbody cdv A outer s H vs Q E hr hsp
  exact ⟨t, h.nox, q⟩
theorem Fun.binds {x qual : Str} {st : Stmt} {f : Addr} {fd : FuncData} {ps : List Str} (F : Fun K x qual st f fd)
    (h : ∀ (kV doc pm : Value) (an : Option Addr) (cdv ct : Value) (us : List Value), us.length = ps.length → bindArgs (PySem.W.fnOf x qual (defArgs st) (defBody st) (defScope st) .none kV doc pm an cdv ct) ⟨us, []⟩ = pure (ps.zip us)) : Binds K fd ps [] := by
  obtain ⟨oc, od, kV, doc, pm, an, cdv, ct, osl, rfl, lk, hcd⟩ := F.ex
  exact .all (h kV doc pm an cdv ct)
theorem fun_mk {x qual : Str} {st : Stmt} {f : Addr} {oc : Value} {od an : Option Addr} {osl : Array (Option Value)} {kV doc pm cdv ct : Value} (l : K.lookup f = some ⟨oc, od, .func (PySem.W.fnOf x qual (defArgs st) (defBody st) (defScope st) .none kV doc pm an cdv ct), osl⟩)
    (c : PySem.W.codeIn K cdv qual = true) (k : PySem.W.keepIn K (.ref f) = true) : Fun K x qual st f (PySem.W.fnOf x qual (defArgs st) (defBody st) (defScope st) .none kV doc pm an cdv ct) := ⟨⟨oc, od, kV, doc, pm, an, cdv, ct, osl, rfl, l, c⟩, k⟩
end
theorem small1000 {n : Nat} (h : n ≤ 1000) : n < sizeLine := Nat.lt_of_le_of_lt h (by decide)
section
variable {X : Cx}
theorem pv (i : Nat) {x : Str} {pos : Pos} (hN : X.N[i]? = some x := by rfl) (hv : Vis X.env.scope x := by first | exact Or.inl rfl | exact Or.inr (Or.inl rfl) | exact Or.inr (Or.inr rfl)) (hd : (x == ("__debug__" : Str)) = false := by decide)
    (hcd : (x == ("__classdict__" : Str)) = false := by decide) : PE X (.Name x pos) (tVar i) := pe_var hN hv hd hcd
end
theorem ite2 {c A B : Prop} [Decidable c] (h1 : c → A) (h2 : ¬ c → B) : if c then A else B := by
  by_cases h : c
  · rw [if_pos h]
    exact h1 h
  · rw [if_neg h]
    exact h2 h
def Same (H H' : Hp) : Prop := ∀ b o, H b = some o → H' b = some o
theorem Same.refl (H : Hp) : Same H H := fun _ _ h => h
theorem Same.trans {H H1 H2 : Hp} (a : Same H H1) (b : Same H1 H2) : Same H H2 := fun c o h => b c o (a c o h)
theorem Same.free {H H' : Hp} (e : Same H H') {l : Addr} (h : H' l = Option.none) : H l = Option.none := by
  cases q : H l with
  | none => rfl
  | some o =>
    rw [e l o q] at h
    cases h
theorem Same.seq {K : PySem.W.Frag} {H H' : Hp} {a : Addr} {xs : List V} (e : Same H H') (h : SqL K H a xs) : SqL K H' a xs := by
  rcases h with (h | ⟨o, h⟩) | h
  · exact .inl (.inl (e _ _ h))
  · exact .inl (.inr ⟨o, e _ _ h⟩)
  · exact .inr h
end L2
set_option Elab.async false
set_option linter.all false
set_option maxRecDepth 100000
set_option maxHeartbeats 4000000
set_option Elab.async false
set_option linter.all false
set_option maxRecDepth 100000
namespace L2
open PySem PySem.Spec PyProof.Rows
section
variable {κ : Type} [DecidableEq κ]
def valV (kvs : List (κ × V)) (k : κ) : Option V := (kvs.find? fun kv => decide (kv.1 = k)).map (·.2)
def putK (kvs : List (κ × V)) (k : κ) (v : V) : List (κ × V) :=
  if (kvs.any fun kv => decide (kv.1 = k)) = true then kvs.map (fun kv => if kv.1 = k then (kv.1, v) else kv) else kvs ++ [(k, v)]
theorem valV_pos {p : κ × V} {r : List (κ × V)} {k : κ} (e : p.1 = k) : valV (p :: r) k = some p.2 := by simp [valV, List.find?_cons, e]
theorem valV_neg {p : κ × V} {r : List (κ × V)} {k : κ} (e : ¬ p.1 = k) : valV (p :: r) k = valV r k := by simp [valV, List.find?_cons, e]
theorem valV_any (k : κ) : ∀ kvs : List (κ × V), (kvs.any fun kv => decide (kv.1 = k)) = (valV kvs k).isSome
  | [] => rfl
  | p :: r => by
    rw [List.any_cons]
    by_cases e : p.1 = k
    · simp only [valV_pos e, decide_eq_true e, Bool.true_or, Option.isSome_some]
    · rw [valV_neg e, decide_eq_false e, Bool.false_or]; exact valV_any k r
theorem length_putK (kvs : List (κ × V)) (k : κ) (v : V) : (putK kvs k v).length ≤ kvs.length + 1 := by
  unfold putK
  split
  · rw [List.length_map]; omega
  · rw [List.length_append, List.length_cons, List.length_nil]; omega
theorem RelO.isSome_eq {o : Option V} {u : Option Value} (r : RelO o u) : o.isSome = u.isSome := by
  cases o with
  | none => cases u with
    | none => rfl
    | some _ => exact (show False from r).elim
  | some _ => cases u with
    | none => exact (show False from r).elim
    | some _ => rfl
theorem KV.val {kvs : List (κ × V)} {vs : List (κ × Value)} (r : KV kvs vs) (k : κ) : RelO (valV kvs k) (valueAt vs k) := by
  unfold KV at r
  induction r with
  | nil => exact True.intro
  | @cons p q ps qs h t ih =>
    obtain ⟨h1, h2⟩ := h
    by_cases e : p.1 = k
    · have e' : q.1 = k := h1.symm.trans e
      have b : valueAt (q :: qs) k = some q.2 := by simp [valueAt, List.find?_cons, e']
      rw [valV_pos e, b]; exact h2
    · have e' : ¬ q.1 = k := fun z => e (h1.trans z)
      have b : valueAt (q :: qs) k = valueAt qs k := by simp [valueAt, List.find?_cons, e']
      rw [valV_neg e, b]; exact ih
theorem KV.any {kvs : List (κ × V)} {vs : List (κ × Value)} (r : KV kvs vs) (k : κ) : (kvs.any fun kv => decide (kv.1 = k)) = vs.any fun kv => decide (kv.1 = k) := by
  unfold KV at r
  induction r with
  | nil => rfl
  | cons h t ih => rw [List.any_cons, List.any_cons, ih, h.1]
theorem KV.repl {kvs : List (κ × V)} {vs : List (κ × Value)} (r : KV kvs vs) (k : κ) {y : V} {u : Value} (ry : RelV y u) :
    KV (kvs.map fun kv => if kv.1 = k then (kv.1, y) else kv) (vs.map fun kv => if kv.1 = k then (kv.1, u) else kv) := by
  unfold KV at r ⊢
  induction r with
  | nil => exact .nil
  | @cons p q ps qs h t ih =>
    rw [List.map_cons, List.map_cons]
    refine .cons ?_ ih
    obtain ⟨h1, h2⟩ := h
    by_cases e : p.1 = k
    · rw [if_pos e, if_pos (h1.symm.trans e)]; exact ⟨h1, ry⟩
    · rw [if_neg e, if_neg (fun z => e (h1.trans z))]; exact ⟨h1, h2⟩
theorem KV.put {kvs : List (κ × V)} {vs : List (κ × Value)} (r : KV kvs vs) (k : κ) {y : V} {u : Value} (ry : RelV y u) : KV (putK kvs k y) (stored vs k u) := by
  unfold putK stored
  rw [r.any k]
  by_cases e : (vs.any fun kv => decide (kv.1 = k)) = true
  · rw [if_pos e, if_pos e]; exact r.repl k ry
  · rw [if_neg e, if_neg e]; exact Paired.snoc r ⟨rfl, ry⟩
theorem KV.length {kvs : List (κ × V)} {vs : List (κ × Value)} (r : KV kvs vs) : kvs.length = vs.length := Paired.length r
end
theorem kV_is {P : Program} {w : World} {k : Key} {u : Value} (r : RelV (kV k) u) : (mixKind P w).is k u = true := by
  cases k with
  | inl i => obtain ⟨t, e⟩ := (show ∃ t, u = Value.int i t from r); subst e; exact mixKind_int P w i t
  | inr x => obtain ⟨t, e⟩ := (show ∃ t, u = Value.str x t from r); subst e; exact mixKind_str P w x t
theorem items_are {P : Program} {w : World} : ∀ {ks : List Key} {us : List Value}, Vals (ks.map kV) us → ItemsAre (mixKind P w) ks us
  | [], _, r => by rw [List.map_nil] at r; cases r; exact .nil
  | k :: ks, _, r => by
    rw [List.map_cons] at r
    cases r with
    | cons h t => exact .cons (kV_is h) (items_are t)
abbrev KT (H : Hp) : List (List Key × V) → List (List Key × Addr × Value) → Prop := Paired fun p q => p.1 = q.1 ∧ H q.2.1 = some (.tup (p.1.map kV)) ∧ RelV p.2 q.2.2
theorem KT.val {H : Hp} {kvs : List (List Key × V)} {xs : List (List Key × Addr × Value)} (r : KT H kvs xs) (k : List Key) : RelO (valV kvs k) ((atKey xs k).map (·.2)) := by
  induction r with
  | nil => exact True.intro
  | @cons p q ps qs h t ih =>
    obtain ⟨h1, _, h2⟩ := h
    by_cases e : p.1 = k
    · have e' : q.1 = k := h1.symm.trans e
      have b : atKey (q :: qs) k = some q.2 := by simp [atKey, List.find?_cons, e']
      rw [valV_pos e, b]; exact h2
    · have e' : ¬ q.1 = k := fun z => e (h1.trans z)
      have b : atKey (q :: qs) k = atKey qs k := by simp [atKey, List.find?_cons, e']
      rw [valV_neg e, b]; exact ih
theorem KT.repl {H : Hp} {kvs : List (List Key × V)} {xs : List (List Key × Addr × Value)} (r : KT H kvs xs) (k : List Key) {y : V} {u : Value} (ry : RelV y u) :
    KT H (kvs.map fun kv => if kv.1 = k then (kv.1, y) else kv) (xs.map (putAt k u)) := by
  induction r with
  | nil => exact .nil
  | @cons p q ps qs h t ih =>
    rw [List.map_cons, List.map_cons]
    refine .cons ?_ ih
    obtain ⟨h1, h2, h3⟩ := h
    unfold putAt
    by_cases e : p.1 = k
    · rw [if_pos e, if_pos (h1.symm.trans e)]; exact ⟨h1, h2, ry⟩
    · rw [if_neg e, if_neg (fun z => e (h1.trans z))]; exact ⟨h1, h2, h3⟩
theorem KT.put {H : Hp} {kvs : List (List Key × V)} {xs : List (List Key × Addr × Value)} (r : KT H kvs xs) (k : List Key) {b : Addr} {y : V} {u : Value} (hb : H b = some (.tup (k.map kV))) (ry : RelV y u) :
    KT H (putK kvs k y) (storedH xs k b u) := by
  have e : (kvs.any fun kv => decide (kv.1 = k)) = (atKey xs k).isSome := by
    rw [valV_any, (r.val k).isSome_eq, Option.isSome_map]
  unfold putK storedH
  rw [e]
  by_cases q : (atKey xs k).isSome = true
  · rw [if_pos q, if_pos q]; exact r.repl k ry
  · rw [if_neg q, if_neg q]; exact Paired.snoc r ⟨rfl, hb, ry⟩
theorem KT.keeps {H H' : Hp} {kvs : List (List Key × V)} {xs : List (List Key × Addr × Value)} (r : KT H kvs xs) (ht : ∀ b ys, H b = some (.tup ys) → H' b = some (.tup ys)) : KT H' kvs xs :=
  Paired.mapP r fun _ _ z => ⟨z.1, ht _ _ z.2.1, z.2.2⟩
section
variable {P : Program} {w : World} {H : Hp} {h : Heap} {a : Addr}
theorem rd_of {u : HO} (ok : HOk P w H h) (e : Rd H a u) : ObjOk P w H h a u := e.ok ok
theorem dk_rd {kvs : List (Key × V)} (ok : HOk P w H h) (e : Rd H a (.dK kvs)) : kvs.length ≤ sizeLine ∧ (a == sysModules) = false ∧ ∃ vs, KV kvs vs ∧ h.DictOf (mixKind P w) a vs :=
  show ObjOk P w H h a (.dK kvs) from rd_of ok e
theorem dk_of {kvs : List (Key × V)} (ok : HOk P w H h) (e : H a = some (.dK kvs)) : kvs.length ≤ sizeLine ∧ (a == sysModules) = false ∧ ∃ vs, KV kvs vs ∧ h.DictOf (mixKind P w) a vs := dk_rd ok (.inl e)
theorem key_of {ks : List Key} (ok : HOk P w H h) (e : H a = some (.tup (ks.map kV))) : (tupleKind (mixKind P w)).is h ks a := by
  obtain ⟨_, its, r, o, h1, h2, n, h3⟩ := (show ObjOk P w H h a (.tup (ks.map kV)) from ok a _ e)
  exact ⟨o, its.toArray, n, h1, h2, h3, by simpa using items_are r⟩
theorem dt_rd {kvs : List (List Key × V)} (ok : HOk P w H h) (e : Rd H a (.dT kvs)) : kvs.length ≤ sizeLine ∧ (a == sysModules) = false ∧
    ∃ xs, KT H kvs xs ∧ h.DictOfH (tupleKind (mixKind P w)) a xs := by
  obtain ⟨z, y, xs, r, o, es, ep, h1, h2, h3, h4, h5⟩ := (show ObjOk P w H h a (.dT kvs) from rd_of ok e)
  refine ⟨z, y, xs, r, o, es, ep, h1, h2, h3, h4, fun x hx => ?_, h5⟩
  have all : ∀ {l : List (List Key × V)} {m : List (List Key × Addr × Value)}, KT H l m → ∀ x ∈ m, (tupleKind (mixKind P w)).is h x.1 x.2.1 := by
    intro l m q
    induction q with
    | nil => intro x hx; exact nomatch hx
    | @cons p q ps qs hq t ih =>
      intro x hx
      rcases List.mem_cons.mp hx with e | hx
      · subst e
        exact key_of ok (by rw [← hq.1]; exact hq.2.1)
      · exact ih x hx
  exact all r x hx
theorem dt_of {kvs : List (List Key × V)} (ok : HOk P w H h) (e : H a = some (.dT kvs)) : kvs.length ≤ sizeLine ∧ (a == sysModules) = false ∧
    ∃ xs, KT H kvs xs ∧ h.DictOfH (tupleKind (mixKind P w)) a xs := dt_rd ok (.inl e)
end
def DGet (H : Hp) (a : Addr) (y : V) (r : Option V) : Prop :=
  (∃ kvs k, Rd H a (.dK kvs) ∧ y = kV k ∧ r = valV kvs k) ∨ ∃ kvs k b, Rd H a (.dT kvs) ∧ y = .ref b ∧ H b = some (.tup (k.map kV)) ∧ r = valV kvs k
def DPut (H : Hp) (a : Addr) (y v : V) (H' : Hp) : Prop :=
  (∃ kvs k, H a = some (.dK kvs) ∧ y = kV k ∧ kvs.length < sizeLine ∧ H' = upd H a (.dK (putK kvs k v))) ∨
  ∃ kvs k b, H a = some (.dT kvs) ∧ y = .ref b ∧ H b = some (.tup (k.map kV)) ∧ kvs.length < sizeLine ∧ H' = upd H a (.dT (putK kvs k v))
theorem DGet.k {H : Hp} {a : Addr} {kvs : List (Key × V)} {k : Key} (e : H a = some (.dK kvs)) : DGet H a (kV k) (valV kvs k) := .inl ⟨kvs, k, .inl e, rfl, rfl⟩
theorem DPut.k {H : Hp} {a : Addr} {kvs : List (Key × V)} {k : Key} {v : V} (e : H a = some (.dK kvs)) (hl : kvs.length < sizeLine) : DPut H a (kV k) v (upd H a (.dK (putK kvs k v))) := .inl ⟨kvs, k, e, rfl, hl, rfl⟩
section
variable {X : Cx} {pins : List (Addr × Obj)} {σ : St} {H : Hp} {s : Shared} {a : Addr} {y v : V} {u r : Value} {o : Option V} {A : Around} {E : Value → Shared → Prop}
theorem Inv.big (I : Inv X pins σ H s) : sysModules < s.heap.objs.size := by
  have h : mainGlobals < s.heap.objs.size := (I.mod.glob.keeps I.bk).lt
  exact Nat.lt_trans (by decide) h
theorem d_getItem {Q : Value → Shared → Prop} (hu : A.units + 1 < cLine) (I : Inv X pins σ H s) (g : DGet H a y (some v)) (ry : RelV y u) (h : ∀ w' s', Inv X pins σ H s' → RelV v w' → Q w' s') :
    wpAny (model X.prog X.w) A (getItem (.ref a) u) Q E s := by
  rcases g with ⟨kvs, k, e, ey, l⟩ | ⟨kvs, k, b, e, ey, eb, l⟩
  · subst ey
    obtain ⟨z, hd, vs, rel, dd⟩ := dk_rd I.hok e
    obtain ⟨w', hw, rw'⟩ := RelO.some_of (v := v) (o := valueAt vs k) (by rw [l]; exact rel.val k)
    exact wpAny_getItem_of (kV_is ry) dd.mapOf hw (h w' _ (I.tok _) rw')
  · subst ey
    cases (show u = Value.ref b from ry)
    obtain ⟨z, hd, xs, rel, dd⟩ := dt_rd I.hok e
    obtain ⟨w', hw, rw'⟩ := RelO.some_of (v := v) (o := (atKey xs k).map (·.2)) (by rw [l]; exact rel.val k)
    obtain ⟨p, hp, hp2⟩ := Option.map_eq_some_iff.mp hw
    refine wpAny_getItem_heap (tupleKind_room_in1 hu) (key_of I.hok eb) dd hp ?_
    rw [hp2]
    exact h w' _ (I.tok _) rw'
theorem d_write {h' : Heap} {t' : Nat} {ob : HO} (I : Inv X pins σ H s) (mu : Mut (H a)) (hs : Heap.SameBut a s.heap h') (he : ∃ q, h'.get? a = some q) (new : ObjOk X.prog X.w (upd H a ob) h' a ob) :
    Inv X pins σ (upd H a ob) { s with heap := h', toks := t' } :=
  I.write (x := a) (e := a) mu (.inl rfl) (fun b q hb z => (hs.2 b hb).trans z) he new
theorem dk_new {P : Program} {w : World} {H' : Hp} {h' : Heap} {kvs : List (Key × V)} {vs : List (Key × Value)} (z : kvs.length ≤ sizeLine) (hd : (a == sysModules) = false) (rel : KV kvs vs) (dd : h'.DictOf (mixKind P w) a vs) :
    ObjOk P w H' h' a (.dK kvs) := ⟨z, hd, vs, rel, dd⟩
theorem d_setItem {H' : Hp} {Q : Unit → Shared → Prop} (hu : A.units + 1 < cLine) (I : Inv X pins σ H s) (g : DPut H a y v H') (ry : RelV y u) (rv : RelV v r) (h : ∀ s', Inv X pins σ H' s' → Q () s') :
    wpAny (model X.prog X.w) A (setItem (.ref a) u r) Q E s := by
  rcases g with ⟨kvs, k, e, ey, l, eH⟩ | ⟨kvs, k, b, e, ey, eb, l, eH⟩
  · subst ey eH
    obtain ⟨z, hd, vs, rel, dd⟩ := dk_of I.hok e
    have hz : vs.length ≤ sizeLine := by rw [← rel.length]; exact z
    have hl : (putK kvs k v).length ≤ sizeLine := by have := length_putK kvs k v; omega
    refine wpAny_setItem_pairs (hsz := hz) (kV_is ry) dd fun h' dd' hs => h _ ?_
    have he : ∃ q, h'.get? a = some q := let ⟨q, _, _, hq, _⟩ := dd'; ⟨q, hq⟩
    exact d_write I (by rw [e]; exact True.intro) hs he (dk_new hl hd (rel.put k rv) dd')
  · subst ey eH
    cases (show u = Value.ref b from ry)
    obtain ⟨z, hd, xs, rel, dd⟩ := dt_of I.hok e
    have hz : xs.length ≤ sizeLine := by rw [← Paired.length rel]; exact z
    have hl : (putK kvs k v).length ≤ sizeLine := by have := length_putK kvs k v; omega
    refine wpAny_setItem_heap (hsz := hz) (tupleKind_room_in1 hu) (key_of I.hok eb) dd fun h' dd' hs => h _ ?_
    obtain ⟨q, es, ep, hq, h2, h3, h4, _, h5⟩ := dd'
    refine d_write I (by rw [e]; exact True.intro) hs ⟨q, hq⟩ ⟨hl, hd, _, (rel.put k eb rv).keeps fun c ys ec => ?_, q, es, ep, hq, h2, h3, h4, h5⟩
    rw [upd_ne (ne_of ec e (fun z => nomatch z))]
    exact ec
end
section
variable {X : Cx} {pins : List (Addr × Obj)} {σ : St} {H : Hp} {s : Shared} {a : Addr} {kvs : List (Key × V)} {k : Key} {u : Value} {A : Around} {E : Value → Shared → Prop}
end
def NoSl (i : Expr) : Prop := ∀ ov iv, subscripted i false ov iv = operate [ov, iv] (getItem ov iv)
theorem subD_of {prog : Program} {w : World} {A : Around} {E : Value → Shared → Prop} {s : Shared} {env : Env} {value slice : Expr} {pos : Pos} {T id : String} {Q : Value → Shared → Prop}
    (hl : typeLookup (.type T) "__getitem__" = pure (some (.builtin id))) (hs : NoSl slice)
    (h : wpAny (model prog w) A (eval value env) (fun o s₁ => wpAny (model prog w) A (eval slice env) (fun i s₂ => s₂.TypeIs o T ∧ wpAny (model prog w) A (getItem o i) Q E s₂) E s₁) E s) :
    wpAny (model prog w) A (eval (.Subscript value slice pos) env) Q E s := by
  refine Subscript_ (wpAny_mono h (fun o s₁ h₁ => wpAny_mono h₁ (fun i s₂ h₂ => ?_) fun _ _ x => x) fun _ _ x => x)
  obtain ⟨hT, h₂⟩ := h₂
  unfold subscriptTail
  refine wpAny_bind ?_
  rw [getitemInPython_of_ne hT.not_modules]
  refine wpAny_bind (wpAny_specialOf hT hl ?_)
  have fin : wpAny (model prog w) A (subscripted slice false o i) (fun r s₃ => wpAny (model prog w) A (letTemporaryGo value o r >>= fun _ => pure r) Q E s₃) E s₂ := by
    rw [hs o i]
    exact wpAny_operating (wpAny_mono h₂ (fun r s₃ h₃ => wpAny_bind (wpAny_letTemporaryGo (wpAny_pure h₃))) fun _ _ x => x)
  first
    | exact wpAny_pure (wpAny_bind fin)
    | exact wpAny_bind (wpAny_pure (wpAny_bind fin))
    | exact wpAny_bind fin
theorem dict_typeIs {X : Cx} {pins : List (Addr × Obj)} {σ : St} {H : Hp} {s : Shared} {a : Addr} {y : V} {o : Option V} (I : Inv X pins σ H s) (g : DGet H a y o) : s.TypeIs (.ref a) "dict" := by
  rcases g with ⟨kvs, k, e, _, _⟩ | ⟨kvs, k, b, e, _, _, _⟩
  · obtain ⟨_, _, vs, _, dd⟩ := dk_rd I.hok e
    exact dd.typeIs
  · obtain ⟨_, _, xs, _, dd⟩ := dt_rd I.hok e
    exact dd.typeIs
def tDGet (td ty : TE) : TE := fun σ H Q => td σ H fun x H1 => ty σ H1 fun y H2 => ∃ a v, x = .ref a ∧ DGet H2 a y (some v) ∧ Q v H2
def sDPut (td ty tv : TE) : TS := fun D σ H => tv σ H fun v H1 => td σ H1 fun x H2 => ty σ H2 fun y H3 => ∃ a H4, x = .ref a ∧ DPut H3 a y v H4 ∧ D.nx σ H4
section
variable {X : Cx} {o i e value : Expr} {pos pos' tpos : Pos} {td ty tv : TE}
theorem pe_dget (hu : X.A.units + 1 < cLine) (ho : PE X o td) (hi : PE X i ty) (hs : NoSl i) : PE X (.Subscript o i pos) (tDGet td ty) := by
  intro pins s σ H Q I h
  refine subD_of PySem.F.slot_dict_getitem.lookup hs (thn (ho pins s σ H _ I h) fun u s1 ⟨x, H1, I1, rx, q1⟩ => thn (hi pins s1 σ H1 _ I1 q1) fun iv s2 ⟨y, H2, I2, ry, a, v, ex, g, q2⟩ => ?_)
  subst ex
  obtain rfl : u = Value.ref a := rx
  exact ⟨dict_typeIs I2 g, d_getItem hu I2 g ry fun w' s3 I3 rw' => ⟨v, H2, I3, rw', q2⟩⟩
theorem ps_dput (hu : X.A.units + 1 < cLine) (ho : PE X o td) (hi : PE X i ty) (hv : PE X value tv) (hs : swapsWith value (some (.Subscript o i pos')) pos.line X.env = pure false) :
    PS X (.Assign [.Subscript o i pos'] value pos) (sDPut td ty tv) := by
  intro pins s σ H D I h
  refine wpAny_Assign_Subscript (thn (hv pins s σ H _ I h) fun r s1 ⟨v, H1, I1, rv, q1⟩ => thn (ho pins s1 σ H1 _ I1 q1) fun u s2 ⟨x, H2, I2, rx, q2⟩ => thn (hi pins s2 σ H2 _ I2 q2) fun iv s3 ⟨y, H3, I3, ry, a, H4, ex, g, q3⟩ => ?_) hs
  subst ex
  obtain rfl : u = Value.ref a := rx
  exact d_setItem hu I3 g ry rv fun s4 I4 => ⟨σ, H4, I4, q3⟩
end
theorem dk_empty {P : Program} {w : World} {H : Hp} (h : Heap) (hb : sysModules < h.objs.size) : ObjOk P w H (h.push { cls := .type "dict", data := .dict #[] }) h.objs.size (.dK []) :=
  ⟨Nat.zero_le _, beq_eq_false_iff_ne.mpr (Ne.symm (Nat.ne_of_lt hb)), [], .nil, Heap.DictOf.new h⟩
def tDNewK : TE := fun _ H Q => ∀ p, H p = none → Q (.ref p) (upd H p (.dK []))
section
variable {X : Cx} {pos : Pos}
theorem pe_dnewK : PE X (.Dict [] [] pos) tDNewK := fun pins s σ H Q I h =>
  wpAny_Dict_empty ⟨.ref s.heap.objs.size, _, I.laid (a := s.heap.objs.size) (o := .dK []) (t' := s.toks) (fun _ _ q => Heap.get?_push_of_some _ q) (Nat.le_refl _) (dk_empty s.heap I.big), rfl, h _ (I.hok.fresh (Nat.le_refl _))⟩
end
structure M2 (X : Cx) (o : Expr) (m : Str) (apos : Pos) (e f : Expr) (cpos : Pos) : Prop where
  base : attributeBase o m X.env (eval o X.env) = eval o X.env
  few : ((backTo cpos (starEach [e, f] X.env)).all (fun x => !x.1) && (backToKw cpos (keywordEach [] X.env)).all (fun x => x.1.isSome)
    && decide (([e, f] : List Expr).length + ([] : List Keyword).length + (if ([] : List Keyword).isEmpty then 0 else 1) < 30)) = true
  line : (apos.endLine == cpos.line) = true
  trees : backTo cpos (starEach [e, f] X.env) = [(false, eval e X.env), (false, eval f X.env)]
section
variable {X : Cx} {pins : List (Addr × Obj)} {σ : St} {H : Hp} {s : Shared} {a : Addr} {y d : V} {u r : Value} {o : Option V} {A : Around} {E : Value → Shared → Prop}
end
section
variable {X : Cx} {o e f : Expr} {apos cpos : Pos} {td ty tx : TE}
end
section
variable {X : Cx} {pins : List (Addr × Obj)} {σ : St} {H : Hp} {s : Shared} {a : Addr} {kvs : List (Key × V)} {A : Around} {E : Value → Shared → Prop}
end
section
variable {X : Cx} {pins : List (Addr × Obj)} {σ : St} {H : Hp} {s : Shared} {a : Addr} {y : V} {u : Value} {A : Around} {E : Value → Shared → Prop}
end
end L2
namespace L2
open PySem PySem.Spec PyProof.Rows
section
variable {κ : Type} [DecidableEq κ]
theorem valV_not {kvs : List (κ × V)} {k : κ} (h : valV kvs k = none) : ¬ k ∈ kvs.map (·.1) := by
  intro m
  obtain ⟨p, hp, e⟩ := List.mem_map.mp m
  have q : (kvs.any fun kv => decide (kv.1 = k)) = true := List.any_eq_true.mpr ⟨p, hp, decide_eq_true e⟩
  rw [valV_any, h] at q
  exact absurd q (by simp)
end
end L2
set_option Elab.async false
set_option linter.all false
set_option maxRecDepth 100000
set_option maxHeartbeats 4000000
namespace L2
open PySem PySem.Spec PyProof.Rows
section
variable {X : Cx}
def CDivB (_ j : Int) : Prop := j ≠ 0 ∧ j.natAbs < 2 ^ 256
theorem log256 {j : Int} (h : j ≠ 0) (hj : j.natAbs < 2 ^ 256) : j.natAbs.log2 < 9000 := by
  have h0 : j.natAbs ≠ 0 := by omega
  have h1 := (Nat.log2_lt h0).mpr hj
  omega
theorem op_fdivB : OpR X (binaryOp .FloorDiv) (rI CDivB fun i j => .int (i.fdiv j)) := opI fun _ _ _ _ _ _ _ hc q => floordiv_int hc.1 q (.inl (PyProof.noPylong_of_log2 (log256 hc.1 hc.2)))
theorem call_isi : CallR X (.builtin "isinstance") (fun xs H Q => ∃ x n ty b, xs = [x, .ty n] ∧ TyOf X.K H x ty ∧ PySem.W.kitOne X.K ty (.type n) = some b ∧ Q (.bl b) H) := by
  intro pins s σ H xs us Q I r h
  obtain ⟨x, n, ty, b, rfl, hty, hk, q⟩ := h
  obtain ⟨u, w', rfl, rx, rc⟩ := vals2 r
  cases (show w' = Value.type n from rc)
  exact isinst_ok I rx hty hk (fun tk => ⟨.bl b, H, I.tok _, rfl, q⟩)
theorem kitOne_ty (K : PySem.W.Frag) (A B : String) (r : Bool)
    (h : (if (Value.type A == Value.type B) = true then some true else if PySem.W.kitMeta B = true then (fastBuiltinMro A).map (·.contains (.type B)) else none) = some r) : PySem.W.kitOne K (.type A) (.type B) = some r := h
mutual
inductive DatV (K : PySem.W.Frag) (H : Hp) : V → PyData → Prop
  | non : DatV K H .non .none
  | bl (b : Bool) : DatV K H (.bl b) (.bool b)
  | int (i : Int) : DatV K H (.int i) (.int i)
  | str (x : Str) : DatV K H (.str x) (.str x)
  | lst {a : Addr} {xs : List V} {ds : List PyData} (h : SqL K H a xs) (r : DatVs K H xs ds) : DatV K H (.ref a) (.list ds)
  | tup {a : Addr} {xs : List V} {ds : List PyData} (h : SqT K H a xs) (r : DatVs K H xs ds) : DatV K H (.ref a) (.tuple ds)
inductive DatVs (K : PySem.W.Frag) (H : Hp) : List V → List PyData → Prop
  | nil : DatVs K H [] []
  | cons {x : V} {d : PyData} {xs : List V} {ds : List PyData} (h : DatV K H x d) (t : DatVs K H xs ds) : DatVs K H (x :: xs) (d :: ds)
end
mutual
theorem DatV.reads {pins : List (Addr × Obj)} {σ : St} {H : Hp} {s : Shared} (I : Inv X pins σ H s) : ∀ {x : V} {d : PyData} {u : Value}, DatV X.K H x d → RelV x u → ∃ as, Reads s.heap u d as
  | _, _, _, .non, r => by cases (show _ = Value.none from r); exact ⟨_, .none⟩
  | _, _, _, .bl b, r => by cases (show _ = Value.bool b from r); exact ⟨_, .bool b⟩
  | _, _, _, .int i, r => by obtain ⟨t, rfl⟩ := r; exact ⟨_, .int i t⟩
  | _, _, _, .str x, r => by obtain ⟨t, rfl⟩ := r; exact ⟨_, .str x t⟩
  | _, _, _, @DatV.lst _ _ a xs ds h q, r => by
    cases (show _ = Value.ref a from r)
    obtain ⟨its, hv, hp, _⟩ := I.list h
    obtain ⟨o, n, e, c, _, d⟩ := hp
    obtain ⟨as, z⟩ := DatVs.reads I q hv
    exact ⟨_, .list e c d (by simpa using z)⟩
  | _, _, _, @DatV.tup _ _ a xs ds h q, r => by
    cases (show _ = Value.ref a from r)
    obtain ⟨its, hv, hp, _⟩ := I.tuple h
    obtain ⟨o, e, c, n, d⟩ := hp
    obtain ⟨as, z⟩ := DatVs.reads I q hv
    exact ⟨_, .tuple e c d (by simpa using z)⟩
theorem DatVs.reads {pins : List (Addr × Obj)} {σ : St} {H : Hp} {s : Shared} (I : Inv X pins σ H s) : ∀ {xs : List V} {ds : List PyData} {us : List Value}, DatVs X.K H xs ds → Vals xs us → ∃ as, ReadsAll s.heap us ds as
  | _, _, _, .nil, .nil => ⟨_, .nil⟩
  | _, _, _, .cons h t, .cons r q => by
    obtain ⟨as, z⟩ := DatV.reads I h r
    obtain ⟨bs, y⟩ := DatVs.reads I t q
    exact ⟨_, .cons z y⟩
end
def rEqD (K : PySem.W.Frag) : R2 := fun x y H Q => ∃ d e, DatV K H x d ∧ DatV K H y e ∧ SeqAt.shaped d = true ∧ SeqAt.shaped e = true ∧ Q (.bl (PyData.eqv d e)) H
def rNeD (K : PySem.W.Frag) : R2 := fun x y H Q => ∃ d e, DatV K H x d ∧ DatV K H y e ∧ SeqAt.shaped d = true ∧ SeqAt.shaped e = true ∧ Q (.bl (!PyData.eqv d e)) H
theorem op_eqD (hu : X.A.units + 64 < cLine) : OpR X (compareOp .Eq) (rEqD X.K) := by
  intro pins s σ H x y v u Q I rx ry h
  obtain ⟨d, e, hd, he, sd, se, q⟩ := h
  obtain ⟨as, z⟩ := hd.reads I rx
  obtain ⟨bs, z'⟩ := he.reads I ry
  exact SeqAt.compareEq_shaped z z' sd se hu ⟨.bl _, H, I, rfl, q⟩
theorem op_neD (hu : X.A.units + 64 < cLine) : OpR X (compareOp .NotEq) (rNeD X.K) := by
  intro pins s σ H x y v u Q I rx ry h
  obtain ⟨d, e, hd, he, sd, se, q⟩ := h
  obtain ⟨as, z⟩ := hd.reads I rx
  obtain ⟨bs, z'⟩ := he.reads I ry
  exact SeqAt.compareNe_shaped z z' sd se hu ⟨.bl _, H, I, rfl, q⟩
end
theorem same_upd {H : Hp} {p : Addr} {o : HO} (h : H p = none) : Same H (upd H p o) := fun b u e => by
  rw [upd_ne (ne_of_none e h)]; exact e
theorem atI_lt {α : Type} (xs : List α) (i : Int) (h0 : 0 ≤ i) (h1 : i < xs.length) : ∃ v, atI xs i = some v ∧ v ∈ xs := by
  have hl : i.toNat < xs.length := by omega
  refine ⟨xs[i.toNat], ?_, List.getElem_mem hl⟩
  have e : ((i.toNat : Nat) : Int) = i := by omega
  have := atI_nat (xs := xs) (j := i.toNat) (v := xs[i.toNat]) (List.getElem?_eq_getElem hl)
  rw [e] at this
  exact this
theorem atI_ints (ns : List Int) (i : Int) (h0 : 0 ≤ i) (h1 : i < ns.length) : ∃ z, atI (ns.map V.int) i = some (.int z) ∧ z ∈ ns := by
  obtain ⟨v, e, m⟩ := atI_lt (ns.map V.int) i h0 (by simpa using h1)
  obtain ⟨z, hz, rfl⟩ := List.mem_map.mp m
  exact ⟨z, e, hz⟩
end L2
set_option Elab.async false
set_option linter.all false
set_option maxRecDepth 100000
set_option maxHeartbeats 4000000
namespace L2
open PySem PySem.Spec PyProof.Rows
def clOf (cells : List (Str × Addr)) : List (Str × NameKind) → List (Str × Addr) → List (Str × Addr)
  | [], acc => acc
  | (n, k) :: r, acc => if (k == .free) = true then clOf cells r ((n, (cells.lookup n).getD 0) :: acc) else clOf cells r acc
theorem closure_run {env : Env} : ∀ (names : List (Str × NameKind)) (acc : List (Str × Addr)), (∀ y ∈ names, y.2 = .free → ∃ c, env.cells.lookup y.1 = some c) →
    (forIn names acc (fun (x : Str × NameKind) (cs : List (Str × Addr)) => match x with
      | (name, kind) => if (kind == .free) = true then (do let a ← cellOf env name; pure (ForInStep.yield ((name, a) :: cs))) else (do pure PUnit.unit; pure (ForInStep.yield cs))) : Sem (List (Str × Addr))) = pure (clOf env.cells names acc)
  | [], acc, _ => rfl
  | (n, k) :: r, acc, h => by
    rw [List.forIn_cons]
    have hr : ∀ y ∈ r, y.2 = .free → ∃ c, env.cells.lookup y.1 = some c := fun y hy => h y (List.mem_cons_of_mem _ hy)
    by_cases hk : (k == .free) = true
    · obtain ⟨c, hc⟩ := h (n, k) List.mem_cons_self (by simpa using hk)
      have hc' : env.cells.lookup n = some c := hc
      simp only [hk, if_true, clOf, hc', Option.getD_some]
      have e : cellOf env n = pure c := by unfold cellOf; rw [hc']
      rw [e]
      exact closure_run r _ hr
    · simp only [hk, if_false, clOf]
      exact closure_run r acc hr
theorem closureFor_eq {scope : Scope} {env : Env} (h : ∀ y ∈ scope.names, y.2 = .free → ∃ c, env.cells.lookup y.1 = some c) : closureFor scope env = pure (clOf env.cells scope.names []) := by
  unfold closureFor
  have := closure_run (env := env) scope.names [] h
  first
    | exact (congrArg (fun m => m >>= fun cs => pure cs) this).trans (pure_bind _ _)
    | (simp only [] at this ⊢; rw [this]; rfl)
theorem clOf_sub {cells : List (Str × Addr)} {x : Str} {c : Addr} : ∀ {names : List (Str × NameKind)} {acc : List (Str × Addr)}, (∀ y ∈ names, y.2 = .free → ∃ c, cells.lookup y.1 = some c) → (clOf cells names acc).lookup x = some c → acc.lookup x = some c ∨ cells.lookup x = some c
  | [], acc, _, h => .inl h
  | (n, k) :: r, acc, hf, h => by
    have hr : ∀ y ∈ r, y.2 = .free → ∃ c, cells.lookup y.1 = some c := fun y hy => hf y (List.mem_cons_of_mem _ hy)
    unfold clOf at h
    by_cases hk : (k == .free) = true
    · rw [if_pos hk] at h
      rcases clOf_sub hr h with q | q
      · rw [List.lookup_cons] at q
        cases hx : x == n with
        | true =>
          rw [hx] at q
          obtain ⟨d, hd⟩ := hf (n, k) List.mem_cons_self (by simpa using hk)
          have e : x = n := by simpa using hx
          subst e
          have hd' : cells.lookup x = some d := hd
          rw [hd'] at q ⊢
          exact .inr (by simpa using q)
        | false => rw [hx] at q; exact .inl q
      · exact .inr q
    · rw [if_neg hk] at h
      exact clOf_sub hr h
theorem clOf_acc {cells : List (Str × Addr)} {x : Str} : ∀ {names : List (Str × NameKind)} {acc : List (Str × Addr)}, (∀ y ∈ names, y.2 = .free → ∃ c, cells.lookup y.1 = some c) → (∃ c, acc.lookup x = some c) → ∃ c, (clOf cells names acc).lookup x = some c
  | [], acc, _, h => h
  | (n, k) :: r, acc, hf, h => by
    have hr : ∀ y ∈ r, y.2 = .free → ∃ c, cells.lookup y.1 = some c := fun y hy => hf y (List.mem_cons_of_mem _ hy)
    unfold clOf
    by_cases hk : (k == .free) = true
    · rw [if_pos hk]
      refine clOf_acc hr ?_
      rw [List.lookup_cons]
      cases hx : x == n with
      | true => exact ⟨_, rfl⟩
      | false => exact h
    · rw [if_neg hk]
      exact clOf_acc hr h
theorem clOf_has {cells : List (Str × Addr)} {x : Str} : ∀ {names : List (Str × NameKind)} {acc : List (Str × Addr)}, (∀ y ∈ names, y.2 = .free → ∃ c, cells.lookup y.1 = some c) → names.lookup x = some .free → ∃ c, (clOf cells names acc).lookup x = some c
  | [], acc, _, h => by simp at h
  | (n, k) :: r, acc, hf, h => by
    have hr : ∀ y ∈ r, y.2 = .free → ∃ c, cells.lookup y.1 = some c := fun y hy => hf y (List.mem_cons_of_mem _ hy)
    rw [List.lookup_cons] at h
    unfold clOf
    cases hx : x == n with
    | true =>
      rw [hx] at h
      have hk : k = .free := by simpa using h
      subst hk
      rw [if_pos (show (NameKind.free == NameKind.free) = true from rfl)]
      refine clOf_acc hr ⟨(cells.lookup n).getD 0, ?_⟩
      rw [List.lookup_cons, hx]
    | false =>
      rw [hx] at h
      by_cases hk : (k == .free) = true
      · rw [if_pos hk]; exact clOf_has hr h
      · rw [if_neg hk]; exact clOf_has hr h
theorem lookup_mem {x : Str} {k : NameKind} : ∀ {names : List (Str × NameKind)}, names.lookup x = some k → (x, k) ∈ names
  | [], h => by simp at h
  | (n, j) :: r, h => by
    rw [List.lookup_cons] at h
    cases hx : x == n with
    | true =>
      rw [hx] at h
      have e : x = n := by simpa using hx
      have e2 : j = k := by simpa using h
      subst e; subst e2
      exact List.mem_cons_self
    | false => rw [hx] at h; exact List.mem_cons_of_mem _ (lookup_mem h)
theorem lookup_relabel {env : Env} {x : Str} : ∀ {names : List (Str × NameKind)},
    (names.map fun (n, k) => if (k == NameKind.free && env.scope.kind == .function && env.kindOf n == some .cell) then (n, NameKind.cell) else (n, k)).lookup x
      = (names.lookup x).map fun k => if (k == NameKind.free && env.scope.kind == .function && env.kindOf x == some .cell) then NameKind.cell else k
  | [] => rfl
  | (n, k) :: r => by
    have ih := @lookup_relabel env x r
    show List.lookup x ((if (k == NameKind.free && env.scope.kind == .function && env.kindOf n == some .cell) = true then (n, NameKind.cell) else (n, k)) :: _) = _
    cases hx : x == n with
    | true =>
      have e : x = n := by simpa using hx
      subst e
      by_cases hc : (k == NameKind.free && env.scope.kind == .function && env.kindOf x == some .cell) = true
      · rw [if_pos hc]
        simp only [List.lookup_cons, beq_self_eq_true, Option.map_some]
        rw [if_pos hc]
      · rw [if_neg hc]
        simp only [List.lookup_cons, beq_self_eq_true, Option.map_some]
        rw [if_neg hc]
    | false =>
      by_cases hc : (k == NameKind.free && env.scope.kind == .function && env.kindOf n == some .cell) = true
      · rw [if_pos hc]; simp only [List.lookup_cons, hx]; exact ih
      · rw [if_neg hc]; simp only [List.lookup_cons, hx]; exact ih
abbrev cCx (X : Cx) (scope : Scope) (N' : List Str) (C : Addr) (s₀ : Shared) (H₀ : Hp) (ex : List Addr) (pn : List (Addr × Obj)) : Cx :=
  { X with N := N', s₀ := s₀, H₀ := H₀, env := compEnvC scope (clOf X.env.cells scope.names []) C X.env, outer := X.stack, stack := X.stack, ex := ex, fn := fun _ => false, pn := pn, xe := fun _ _ => False }
def PTs (Y : Cx) (ifs : List Expr) (t : TT) : Prop :=
  ∀ (pins : List (Addr × Obj)) (s : Shared) (σ : St) (H : Hp) (Q : Bool → Hp → Prop), Inv Y pins σ H s → t σ H Q →
    wpAny (model Y.prog Y.w) Y.A (forIn ifs true fun c r => if r = true then do let ok ← isTrue c Y.env (eval c Y.env); pure (ForInStep.yield ok) else pure (ForInStep.yield r)) (TP Y pins σ Q) Y.xe s
def tYes : TT := fun _ H Q => Q true H
theorem pts_nil {Y : Cx} : PTs Y [] tYes := fun _ _ _ H _ I h => wpAny_pure ⟨H, I, h⟩
theorem pts_one {Y : Cx} {c : Expr} {t : TT} (h : PT Y c t) : PTs Y [c] t := fun pins s σ H Q I hw => PySem.wpAny_tests_one (h pins s σ H Q I hw)
theorem HOk.but {P : Program} {w : World} {H : Hp} {h h' : Heap} {C : Addr} (ok : HOk P w H h) (hn : H C = none) (hs : Heap.SameBut C h h') : HOk P w H h' := fun b ob e => by
  refine (ok b ob e).stay (fun c w' hc q => (hs.2 c ?_).trans q) (fun _ q => q) fun _ _ q => q
  rintro rfl
  rcases hc with rfl | hc
  · rw [hn] at e; cases e
  · rw [hn] at hc; cases hc
theorem Un.but {fs ex : List Addr} {H H' : Hp} {h h1 h2 : Heap} {C : Addr} (u : Un fs ex H H' h h1) (hs : Heap.SameBut C h1 h2) (hC : ∀ b o, h.get? b = some o → b ≠ C) : Un fs ex H H' h h2 where
  keep := fun b o e n hb hx => (hs.2 b (hC b o e)).trans (u.keep b o e n hb hx)
  slot := fun b o e n hb hx => by
    obtain ⟨sl, q⟩ := u.slot b o e n hb hx
    exact ⟨sl, (hs.2 b (hC b o e)).trans q⟩
  free := u.free
  there := fun b o e hx => by
    obtain ⟨o', q⟩ := u.there b o e hx
    exact ⟨o', (hs.2 b (hC b o e)).trans q⟩
  tups := u.tups
  frzs := u.frzs
  tbls := u.tbls
section
variable {X : Cx}
def tComp (k : Nat) (wi : TI) (g : TG) (tt : TT) (te : TE) : TE := fun σ H Q => wi σ H fun J H1 => ∀ D, H1 D = none → ∃ W : Nat → Nat → List V → Hp → Prop, (∃ m, W 0 m [] (upd H1 D (.lst []))) ∧ ∀ i m ys H, W i m ys H →
  (J.stop i H ∧ Q (.ref D) H) ∨ (J.go i H ∧ ∃ N : List V → Hp → Prop, (∀ ys' H', N ys' H' → ∃ m', m' < m ∧ W (i + 1) m' ys' H') ∧
    ∀ x H', J.yld i H x H' → g x (List.replicate k none ++ σ) H' fun σ2 H2 => (∃ vs : St, vs.length = k ∧ σ2 = vs ++ σ) ∧ tt σ2 H2 fun b H3 => if b = true then te σ2 H3 fun y H4 => H4 D = some (.lst ys) ∧ ys.length < sizeLine ∧ N (ys ++ [y]) (upd H4 D (.lst (ys ++ [y]))) else N ys H3)
theorem comp_loop {Y : Cx} {tg elt iter : Expr} {ifs : List Expr} {scope : Scope} {pos : Pos} {it D : Addr} {g : TG} {tt : TT} {te : TE} {J : It} {fp : List Addr} {tn : Nat → Heap → Prop} {k : Nat} {σ : St} {Q : VK}
    (hc : Y.calm = true) (hx : Y.xe = fun _ _ => False) (hg : PG Y tg g) (ht : PTs Y ifs tt) (he : PE Y elt te) (T : Turn Y.prog Y.w Y.K tg J fp it tn) (hf : ∀ H : Hp, (∀ b ∈ fp, H b = none) → ∀ b ∈ fp, FpOk Y [] H b)
    (W : Nat → Nat → List V → Hp → Prop)
    (turn : ∀ i m ys H, W i m ys H → (J.stop i H ∧ Q (.ref D) H) ∨ (J.go i H ∧ ∃ N : List V → Hp → Prop, (∀ ys' H', N ys' H' → ∃ m', m' < m ∧ W (i + 1) m' ys' H') ∧
      ∀ x H', J.yld i H x H' → g x (List.replicate k none ++ σ) H' fun σ2 H2 => (∃ vs : St, vs.length = k ∧ σ2 = vs ++ σ) ∧ tt σ2 H2 fun b H3 => if b = true then te σ2 H3 fun y H4 => H4 D = some (.lst ys) ∧ ys.length < sizeLine ∧ N (ys ++ [y]) (upd H4 D (.lst (ys ++ [y]))) else N ys H3))
    (n : Nat) (s : Shared) (h : ∃ i ys H, Inv Y [] (List.replicate k none ++ σ) H s ∧ tn i s.heap ∧ (∀ b ∈ fp, H b = none) ∧ W i n ys H) :
    codeAny (model Y.prog Y.w) Y.A (.compLoop (.ListComp elt [⟨tg, iter, ifs, 0⟩] scope pos) 0 (.ref it) (.ref D) Y.env) (fun r s' => r = .ok .next ∧ ∃ H', Inv Y [] (List.replicate k none ++ σ) H' s' ∧ Q (.ref D) H') s := by
  refine codeAny_loop rfl (fun n s => ∃ i ys H, Inv Y [] (List.replicate k none ++ σ) H s ∧ tn i s.heap ∧ (∀ b ∈ fp, H b = none) ∧ W i n ys H) ?_ n h
  rintro n s3 ⟨i, ys, H3, I3, st3, fr3, w3⟩
  show wpAny _ Y.A ((compTurn (.ListComp elt [⟨tg, iter, ifs, 0⟩] scope pos) 0 (.ref it) (.ref D) Y.env).onRaise (fun x => do noteFrame x Y.env; theTreesLotGoes x)) _ _ s3
  refine PySem.wpAny_noted ?_
  rw [PySem.compTurn_list]
  have no : ∀ {α : Type} {m : Sem α} {P : α → Shared → Prop} {E : Value → Shared → Prop} {s : Shared}, wpAny (model Y.prog Y.w) Y.A m P Y.xe s → wpAny (model Y.prog Y.w) Y.A m P E s := fun {α m P E s} h =>
    wpAny_mono h (fun _ _ q => q) fun _ _ q => by rw [hx] at q; exact q.elim
  refine wpAny_bind (wpAny_standAt (wpAny_bind ?_))
  rcases turn i n ys H3 w3 with ⟨stop, qn⟩ | ⟨go, N, hN, step⟩
  · refine thn (T.done Y rfl rfl rfl hc i [] s3 (List.replicate k none ++ σ) H3 _ I3 (hf H3 fr3) st3 stop) fun r s4 ⟨hr, I4⟩ => ?_
    subst hr
    exact wpAny_pure ⟨rfl, H3, I4, qn⟩
  · refine thn (T.item Y rfl rfl rfl hc i [] s3 (List.replicate k none ++ σ) H3 _ I3 (hf H3 fr3) st3 go) fun r s4 ⟨u, hr, h4⟩ => ?_
    subst hr
    refine wpAny_bind (thn h4 fun _ s5 ⟨x, H5, I5, r5, y5, st5, fr5⟩ => ?_)
    have I5' := I5.pinned (hf H5 fr5) (T.obj _ _ st5)
    refine wpAny_bind (no (thn (hg _ s5 (List.replicate k none ++ σ) H5 x u _ I5' r5 (step x H5 y5)) fun _ s6 ⟨σ6, H6, I6, ⟨vs, hvs, e6⟩, q6⟩ => ?_))
    subst e6
    have forget : ∀ {pins : List (Addr × Obj)} {H : Hp} {s : Shared}, Inv Y pins (vs ++ σ) H s → Inv Y pins (List.replicate k none ++ σ) H s := fun {pins H s} I => I.weak (by simp [hvs]) fun i v e => by
      by_cases hi : i < k
      · rw [List.getElem?_append_left (by simpa using hi)] at e
        simp [List.getElem?_replicate, hi] at e
      · rw [List.getElem?_append_right (by simpa using Nat.le_of_not_lt hi)] at e
        rw [List.getElem?_append_right (by omega)]
        simpa [hvs] using e
    refine wpAny_bind (no (thn (ht _ s6 (vs ++ σ) H6 _ I6 q6) fun b s7 ⟨H7, I7, q7⟩ => ?_))
    have again : ∀ {H8 : Hp} {s8 : Shared} {ys' : List V}, Inv Y ([] ++ pinsAt fp s5.heap) (vs ++ σ) H8 s8 → N ys' H8 → ∃ m, m < n ∧ ∃ i ys H, Inv Y [] (List.replicate k none ++ σ) H s8 ∧ tn i s8.heap ∧ (∀ b ∈ fp, H b = none) ∧ W i m ys H := fun {H8 s8 ys'} I8 n8 => by
      obtain ⟨m', hm, w8⟩ := hN ys' H8 n8
      refine ⟨m', hm, i + 1, ys', H8, forget I8.unpinned, T.keep _ _ _ st5 fun b hb o e => (I8.pin (b, o) (List.mem_append_right _ (List.mem_append_right _ (mem_pinsAt hb e)))).1, fun b hb => ?_, w8⟩
      obtain ⟨o, e, d⟩ := T.obj _ _ st5 b hb
      exact (I8.pin (b, o) (List.mem_append_right _ (List.mem_append_right _ (mem_pinsAt hb e)))).2.1
    cases b with
    | false =>
      rw [if_neg Bool.false_ne_true] at q7
      exact wpAny_pure ⟨rfl, again I7 q7⟩
    | true =>
      rw [if_pos rfl] at q7
      refine wpAny_bind (wpAny_bind (no (thn (he _ s7 (vs ++ σ) H7 _ I7 q7) fun y s8 ⟨y', H8, I8, ry, q8, l8, n8⟩ => ?_)))
      exact wpAny_bind (no (thn (mt_append _ s8 (vs ++ σ) H8 (.ref D) [y'] (.ref D) [y] (fun _ H' => N (ys ++ [y']) H') I8 rfl (.cons ry .nil) ⟨D, ys, y', rfl, rfl, q8, l8, n8⟩) fun _ s9 ⟨_, H9, I9, _, q9⟩ => wpAny_pure (wpAny_pure ⟨rfl, again I9 q9⟩)))
structure CompOk (X : Cx) (scope : Scope) (N' : List Str) (k : Nat) : Prop where
  cell : ∀ y ∈ scope.names, y.2 ≠ .cell
  kind : scope.kind = .function
  names : ∀ y ∈ scope.names, y.2 = .local → scope.names.lookup y.1 = some .local
  free : ∀ y ∈ scope.names, y.2 = .free → X.env.scope.names.lookup y.1 = some .cell
  len : N'.length = k + X.N.length
  sub : ∀ i x, N'[k + i]? = some x → scope.names.lookup x = some .free → X.N[i]? = some x
  loc : ∀ i x, N'[k + i]? = some x → scope.names.lookup x ≠ some .local
theorem CompOk.cells {scope : Scope} {N' : List Str} {k : Nat} {pins : List (Addr × Obj)} {σ : St} {H : Hp} {s : Shared} (c : CompOk X scope N' k) (I : Inv X pins σ H s) : ∀ y ∈ scope.names, y.2 = .free → ∃ a, X.env.cells.lookup y.1 = some a := fun y hy e =>
  I.ok.has y.1 (.inl (c.free y hy e))
theorem inv_comp {scope : Scope} {N' : List Str} {k : Nat} {pins : List (Addr × Obj)} {σ : St} {H : Hp} {s s₄ : Shared} {fp : List Addr} {m : Str → Option Value} (c : CompOk X scope N' k) (hc : X.calm = true) (I : Inv X pins σ H s)
    (hf : ∀ b ∈ fp, FpOk X pins H b) (hfl : ∀ b ∈ fp, b < s.heap.objs.size) (hb : ∀ b ∈ fp, X.base.get? b = none) (hns : s₄.heap.Ns s.heap.objs.size m) (hk : ∀ b o, s.heap.get? b = some o → s₄.heap.get? b = some o) (ho : s₄.os = s.os) (hg : s₄.gens = s.gens) :
    Inv (cCx X scope N' s.heap.objs.size s H fp (X.pn ++ pins)) [] (List.replicate k none ++ σ) H s₄ := by
  have hcl := c.cells I
  have sub : ∀ x a, (clOf X.env.cells scope.names []).lookup x = some a → X.env.cells.lookup x = some a := fun x a e => by
    rcases clOf_sub hcl e with q | q
    · simp at q
    · exact q
  have kinds : ∀ x, (compEnvC scope (clOf X.env.cells scope.names []) s.heap.objs.size X.env).kindOf x = some .cell ∨ (compEnvC scope (clOf X.env.cells scope.names []) s.heap.objs.size X.env).kindOf x = some .free → scope.names.lookup x = some .free := fun x hx => by
    have e : (compEnvC scope (clOf X.env.cells scope.names []) s.heap.objs.size X.env).kindOf x = (scope.names.lookup x).map fun k => if (k == NameKind.free && X.env.scope.kind == .function && X.env.kindOf x == some .cell) then NameKind.cell else k := lookup_relabel
    rw [e] at hx
    cases q : scope.names.lookup x with
    | none => rw [q] at hx; simp at hx
    | some j =>
      rw [q] at hx
      have hj : j ≠ .cell := c.cell (x, j) (lookup_mem q)
      cases j <;> simp_all
  have fresh : ∀ b, s.heap.objs.size ≤ b → s.heap.get? b = none := fun b hb => Heap.get?_none_of_le hb
  have ne : ∀ b o, s.heap.get? b = some o → b ≠ s.heap.objs.size := fun b o e => Nat.ne_of_lt (Heap.lt_size e)
  have cl_lt : ∀ x a, X.env.cells.lookup x = some a → a < s.heap.objs.size := fun x a e => by
    obtain ⟨v, o, h1, _⟩ := I.cell x a e
    exact Heap.lt_size h1
  refine ⟨⟨I.ok.mod, c.kind, I.ok.glob, I.ok.blt, Nat.le_refl _, fun x y a e1 e2 => I.ok.inj x y a (sub x a e1) (sub y a e2), fun x hx => clOf_has hcl (kinds x hx), (fun _ _ z => nomatch z), I.ok.hd, I.ok.frames, .inl rfl, fun b hb' => ⟨Nat.ne_of_lt (hfl b hb'), fun x a e => (hf b hb').2.2.2.2.1 x a (sub x a e)⟩,
      I.bs, Nat.le_trans I.ok.bsz I.sz, (fun b o e hb' => by rw [hb b hb'] at e; cases e), fun b hb' hz => ?_, I.stack, I.stkFree⟩, ho, by rw [hg]; exact I.bare, Un.kept hk, ⟨m, hns, fun i x v e1 e2 e3 => ?_⟩, fun x a e => ?_, I.hok.fresh (Nat.le_refl _), fun x a e => I.freeC x a (sub x a e), fun p hp => ?_, I.hok.kept hk, ?_⟩
  · rcases List.mem_cons.mp (I.stkSub b hz) with z | z
    · exact (hf b hb').2.1 z
    · exact (hf b hb').2.2.1 z
  · have hi : k ≤ i := by
      refine Nat.le_of_not_lt fun hi => ?_
      rw [List.getElem?_append_left (by simpa using hi)] at e2
      simp [List.getElem?_replicate, hi] at e2
    obtain ⟨j, rfl⟩ : ∃ j, i = k + j := ⟨i - k, by omega⟩
    rw [List.getElem?_append_right (by simp)] at e2
    have e2' : σ[j]? = some (some v) := by simpa using e2
    have e : (relabel scope X.env).names.lookup x = (scope.names.lookup x).map fun k => if (k == NameKind.free && X.env.scope.kind == .function && X.env.kindOf x == some .cell) then NameKind.cell else k := lookup_relabel
    have hfree : scope.names.lookup x = some .free := by
      cases q : scope.names.lookup x with
      | none =>
        rcases e3 with z | z | z
        all_goals (have z' : (relabel scope X.env).names.lookup x = some _ := z; rw [e, q] at z'; simp at z')
      | some j' =>
        have h1 : j' ≠ .cell := c.cell (x, j') (lookup_mem q)
        have h2 : j' ≠ .local := fun z => c.loc j x e1 (by rw [q, z])
        rcases e3 with z | z | z
        all_goals (have z' : (relabel scope X.env).names.lookup x = some _ := z; rw [e, q] at z'; cases j' <;> simp_all)
    have hX := c.sub j x e1 hfree
    have hcellX := c.free (x, .free) (lookup_mem hfree) rfl
    obtain ⟨m0, hn0, hl0⟩ := I.loc
    obtain ⟨u, r, l⟩ := hl0 j x v hX e2' (.inr (.inl hcellX))
    refine ⟨u, r, ?_⟩
    rcases l with ⟨z, _⟩ | ⟨_, a, ea, hz⟩
    · have z' : X.env.scope.names.lookup x = some .local := z
      rw [hcellX] at z'; cases z'
    · obtain ⟨a', ea'⟩ := clOf_has (acc := []) hcl hfree
      have e4 := sub x a' ea'
      rw [ea] at e4
      cases e4
      refine .inr ⟨.inl ?_, a, ea', ?_⟩
      · show (relabel scope X.env).names.lookup x = some .cell
        rw [e, hfree]
        have k1 : (X.env.scope.kind == .function) = true := by rw [I.ok.kind]; rfl
        have k2 : (X.env.kindOf x == some .cell) = true := by
          have : X.env.kindOf x = some .cell := hcellX
          rw [this]; rfl
        simp [k1, k2]
      · obtain ⟨o, h1, h2⟩ := hz
        exact ⟨o, hk _ _ h1, h2⟩
  · obtain ⟨v, o, h1, h2⟩ := I.cell x a (sub x a e)
    exact ⟨v, o, hk _ _ h1, h2⟩
  · have hp' : p ∈ X.pn ++ pins := by simpa using hp
    obtain ⟨e, n, nl, nf, d⟩ := I.pin p hp'
    refine ⟨hk _ _ e, n, ne _ _ e, fun z => ?_, d⟩
    rcases List.mem_cons.mp (I.stkSub _ z) with z | z
    · exact nl z
    · exact nf z
  · show (List.replicate k none ++ σ).length = N'.length
    rw [c.len, List.length_append, List.length_replicate, I.len]
theorem comp_block {elt iter tg : Expr} {ifs : List Expr} {scope : Scope} {pos : Pos} {g : TG} {tt : TT} {te : TE} {N' : List Str} {k : Nat} {it : Addr} {J : It} {fp : List Addr} {tn : Nat → Heap → Prop} {pins : List (Addr × Obj)} {σ : St} {H : Hp} {s : Shared} {Q : VK} {RR : Value → Addr → Result → Shared → Prop} {E : Value → Shared → Prop}
    (c : CompOk X scope N' k) (hc : X.calm = true) (I : Inv X pins σ H s) (T : Turn X.prog X.w X.K tg J fp it tn) (st : tn 0 s.heap) (hf : ∀ b ∈ fp, FpOk X pins H b)
    (hg : ∀ C s₀ H₀ ex pn, PG (cCx X scope N' C s₀ H₀ ex pn) tg g) (ht : ∀ C s₀ H₀ ex pn, PTs (cCx X scope N' C s₀ H₀ ex pn) ifs tt) (he : ∀ C s₀ H₀ ex pn, PE (cCx X scope N' C s₀ H₀ ex pn) elt te)
    (h : ∀ D, H D = none → ∃ W : Nat → Nat → List V → Hp → Prop, (∃ m, W 0 m [] (upd H D (.lst []))) ∧ ∀ i m ys H, W i m ys H →
      (J.stop i H ∧ Q (.ref D) H) ∨ (J.go i H ∧ ∃ N : List V → Hp → Prop, (∀ ys' H', N ys' H' → ∃ m', m' < m ∧ W (i + 1) m' ys' H') ∧
        ∀ x H', J.yld i H x H' → g x (List.replicate k none ++ σ) H' fun σ2 H2 => (∃ vs : St, vs.length = k ∧ σ2 = vs ++ σ) ∧ tt σ2 H2 fun b H3 => if b = true then te σ2 H3 fun y H4 => H4 D = some (.lst ys) ∧ ys.length < sizeLine ∧ N (ys ++ [y]) (upd H4 D (.lst (ys ++ [y]))) else N ys H3))
    (fin : ∀ D C s' H' m, s'.heap.Ns C m → C ≠ X.env.locals → (∀ x a, X.env.cells.lookup x = some a → a ≠ C) → (H' C = none ∧ X.s₀.heap.objs.size ≤ C ∧ ∀ p ∈ X.pn ++ pins, p.1 ≠ C) → (∀ h', Heap.SameBut C s'.heap h' → Inv X pins σ H' { s' with heap := h' }) → Q (.ref D) H' → RR (.ref D) C (.ok .next) s') :
    wpAny (model X.prog X.w) X.A (newList []) (fun acc s₃ => wpAny (model X.prog X.w) X.A (newFunctionEnv scope X.env.globals (clOf X.env.cells scope.names []) [] X.env.qual none .none (some X.env)) (fun cenv s₄ =>
      codeAny (model X.prog X.w) X.A (.compStart (.ListComp elt [⟨tg, iter, ifs, 0⟩] scope pos) 0 (.ref it) acc { cenv with scope := relabel scope X.env }) (RR acc cenv.locals) s₄) E s₃) E s := by
  refine wpAny_newObj_type (wpAny_newFunctionEnv c.cell (by intro y hy; simp at hy) (fun h₁ hns₁ hsb₁ => ?_) c.kind)
  dsimp only at hns₁ hsb₁ ⊢
  have I3 : Inv X pins σ (upd H s.heap.objs.size (.lst [])) { s with heap := s.heap.push { cls := .type "list", data := .seq ([] : List Value).toArray }, toks := s.toks } := I.lnew (ys := []) (its := []) .nil (Nat.zero_le _)
  generalize hH2 : s.heap.push { cls := .type "list", dict := none, data := .seq ([] : List Value).toArray } = hp at hns₁ hsb₁ I3 ⊢
  have hlt : ∀ b o, s.heap.get? b = some o → hp.get? b = some o := fun b o e => by rw [← hH2]; exact Heap.get?_push_of_some _ e
  have hnD : H s.heap.objs.size = none := I.hok.fresh (Nat.le_refl _)
  have kp : ∀ b o, hp.get? b = some o → h₁.get? b = some o := fun b o e => hsb₁.extBut b o (Nat.ne_of_lt (Heap.lt_size e)) (Heap.get?_push_of_some _ e)
  have stk : ∀ b ∈ fp, s.heap.get? b ≠ none := fun b hb z => by
    obtain ⟨o, e, _⟩ := T.obj _ _ st b hb
    rw [z] at e; cases e
  have flt : ∀ b ∈ fp, b < s.heap.objs.size := fun b hb => by
    obtain ⟨o, e, _⟩ := T.obj _ _ st b hb
    exact Heap.lt_size e
  have fpD : ∀ b ∈ fp, b ≠ s.heap.objs.size := fun b hb => Nat.ne_of_lt (flt b hb)
  have hf3 : ∀ b ∈ fp, FpOk X pins (upd H s.heap.objs.size (.lst [])) b := fun b hb => by
    obtain ⟨a1, a2⟩ := hf b hb
    exact ⟨by rw [upd_ne (fpD b hb)]; exact a1, a2⟩
  have hnb : ∀ b ∈ fp, X.base.get? b = none := fun b hb => by
    cases e : X.base.get? b with
    | none => rfl
    | some o =>
      rcases (hf b hb).2.2.2.1 with z | z
      · exact absurd z (I.ok.noex b o e)
      · have := Heap.lt_size (I.ok.bs b o e).1
        exact absurd (Nat.lt_of_lt_of_le this z) (Nat.lt_irrefl _)
  have hsz : s.heap.objs.size < hp.objs.size := by rw [← hH2, Heap.size_push]; exact Nat.lt_succ_self _
  have IY := inv_comp (s₄ := { s with heap := h₁, toks := s.toks + ([] : List (Str × Value)).length }) (fp := fp) c hc I3 hf3 (fun b hb => Nat.lt_trans (flt b hb) hsz) hnb hns₁ kp rfl rfl
  obtain ⟨W, ⟨m0, w0⟩, turn⟩ := h s.heap.objs.size hnD
  have run := comp_loop (Y := cCx X scope N' hp.objs.size { s with heap := hp, toks := s.toks } (upd H s.heap.objs.size (.lst [])) fp (X.pn ++ pins)) (tg := tg) (elt := elt) (iter := iter) (ifs := ifs) (scope := scope) (pos := pos) (it := it) (D := s.heap.objs.size) (k := k) (σ := σ) (Q := Q)
    hc rfl (hg _ _ _ _ _) (ht _ _ _ _ _) (he _ _ _ _ _) T (fun H' hn b hb => ⟨hn b hb, Nat.ne_of_lt (Nat.lt_trans (flt b hb) hsz), fun z => (IY.ok.exfs b hb) z, .inl hb, fun x a e => (IY.ok.exf b hb).2 x a e, fun p hp => by
      have hp' : p ∈ X.pn ++ pins := by simpa using hp
      exact (hf b hb).2.2.2.2.2 p hp'⟩) W turn m0
  have st₁ : tn 0 h₁ := T.keep _ _ _ st fun b hb o e => kp b o (hlt b o e)
  have go := run { s with heap := h₁, toks := s.toks + ([] : List (Str × Value)).length } ⟨0, [], _, IY, st₁, fun b hb => (hf3 b hb).1, w0⟩
  have out : ∀ r s', (r = Except.ok Flow.next ∧ ∃ H', Inv (cCx X scope N' hp.objs.size { s with heap := hp, toks := s.toks } (upd H s.heap.objs.size (.lst [])) fp (X.pn ++ pins)) [] (List.replicate k none ++ σ) H' s' ∧ Q (.ref s.heap.objs.size) H') → RR (.ref s.heap.objs.size) hp.objs.size r s' := by
    rintro r s' ⟨rfl, H', J', q⟩
    obtain ⟨m, hn, _⟩ := J'.loc
    have hC : hp.objs.size ≠ X.env.locals := Nat.ne_of_gt (Nat.lt_of_lt_of_le I.lt (Nat.le_of_lt hsz))
    refine fin _ _ s' H' m hn hC (fun x a e => ?_) ⟨J'.free, Nat.le_trans I.sz (Nat.le_of_lt hsz), fun p hp' => Nat.ne_of_lt (Nat.lt_trans (Heap.lt_size (I.pin p hp').1) hsz)⟩ (fun h' hs' => ?_) q
    · obtain ⟨v, o, h1, _⟩ := I.cell x a e
      exact Nat.ne_of_lt (Nat.lt_trans (Heap.lt_size h1) hsz)
    · refine I.call' (ch := fp) ?_ ?_ ?_ J'.bare fun b hb => ⟨(hf b hb).2.2.2.1, (hf b hb).2.1, (hf b hb).2.2.2.2.1, (hf b hb).2.2.2.2.2⟩
      · exact J'.os
      · have u1 : Un (frs X.stack) fp H (upd H s.heap.objs.size (.lst [])) s.heap hp := Un.laid hlt (Nat.le_refl _) hnD
        exact (u1.trans J'.base).but hs' fun b o e => Nat.ne_of_lt (Nat.lt_trans (Heap.lt_size e) hsz)
      · exact J'.hok.but J'.free hs'
  exact codeAny_compStart_list (codeAny_mono go out) (T.self _ 0 _ _ _ st₁ (codeAny_mono go out))
theorem pe_comp {elt iter tg : Expr} {ifs : List Expr} {scope : Scope} {pos : Pos} {wi : TI} {g : TG} {tt : TT} {te : TE} {N' : List Str} {k : Nat}
    (c : CompOk X scope N' k) (hc : X.calm = true) (hi : PI X tg iter wi)
    (hg : ∀ C s₀ H₀ ex pn, PG (cCx X scope N' C s₀ H₀ ex pn) tg g) (ht : ∀ C s₀ H₀ ex pn, PTs (cCx X scope N' C s₀ H₀ ex pn) ifs tt) (he : ∀ C s₀ H₀ ex pn, PE (cCx X scope N' C s₀ H₀ ex pn) elt te)
    (hs : ∀ x, foldedSetIterable iter X.env x = pure x := by intro _; rfl) : PE X (.ListComp elt [⟨tg, iter, ifs, 0⟩] scope pos) (tComp k wi g tt te) := by
  intro pins s σ H Q I h
  rw [PySem.eval_ListComp]
  refine PySem.wpAny_comprehension_free (use := none) rfl hs (closureFor_eq (c.cells I)) c.kind c.names (thn (hi pins s σ H _ I h) fun v s1 h1 => thn h1 fun itv s2 h2 => ?_)
  obtain ⟨it, fp, tn, J, H2, rfl, I2, T, st2, f2, hW⟩ := h2
  refine comp_block (RR := fun acc C => PySem.compPost (model X.prog X.w) X.A X.xe none (EP X pins σ Q) acc C) c hc I2 T st2 f2 hg ht he hW ?_
  intro D C s' H' m hn _ _ _ hI q
  exact ⟨m, hn, fun h' hs' => ⟨.ref D, H', hI h' hs', rfl, q⟩⟩
def tSetC (i : Nat) (te : TE) : TS := fun D σ H => te σ H fun x H1 => D.nx (σ.set i (some x)) H1
theorem ps_setC {elt iter tg : Expr} {ifs : List Expr} {scope : Scope} {pos spos py : Pos} {wi : TI} {g : TG} {tt : TT} {te : TE} {N' : List Str} {k i : Nat} {y : Str}
    (hN : X.N.Nodup) (hi' : X.N[i]? = some y) (hy : Loc X.env.scope y)
    (c : CompOk X scope N' k) (hc : X.calm = true) (hi : PI X tg iter wi)
    (hg : ∀ C s₀ H₀ ex pn, PG (cCx X scope N' C s₀ H₀ ex pn) tg g) (ht : ∀ C s₀ H₀ ex pn, PTs (cCx X scope N' C s₀ H₀ ex pn) ifs tt) (he : ∀ C s₀ H₀ ex pn, PE (cCx X scope N' C s₀ H₀ ex pn) elt te)
    (hsw : swapsWith (.ListComp elt [⟨tg, iter, ifs, 0⟩] scope pos) (some (.Name y py)) spos.line X.env = pure true := by rfl)
    (hs : ∀ x, foldedSetIterable iter X.env x = pure x := by intro _; rfl) (hf : X.fn y = true ∨ X.env.scope.names.lookup y = some .local := by first | exact .inl rfl | exact .inr rfl | assumption) :
    PS X (.Assign [.Name y py] (.ListComp elt [⟨tg, iter, ifs, 0⟩] scope pos) spos) (tSetC i (tComp k wi g tt te)) := by
  intro pins s σ H D I h
  rw [PySem.exec_Assign_Name_used _ _ _ _ hsw]
  refine wpAny_bind (wpAny_standAt (wpAny_bind ?_))
  show wpAny _ X.A (do let _ ← comprehension (.ListComp elt [⟨tg, iter, ifs, 0⟩] scope pos) scope X.env _ (newList []) false (eval iter X.env) (some (assign (.Name y py) X.env))) _ _ s
  refine wpAny_bind (thn (PySem.wpAny_comprehension_free (use := some (assign (.Name y py) X.env)) (Q := fun _ s' => SP X pins D .next s') rfl hs (closureFor_eq (c.cells I)) c.kind c.names (thn (hi pins s σ H _ I h) fun v s1 h1 => thn h1 fun itv s2 h2 => ?_)) fun _ s' hq => wpAny_pure (wpAny_pure hq))
  obtain ⟨it, fp, tn, J, H2, rfl, I2, T, st2, f2, hW⟩ := h2
  refine comp_block (Q := fun x H1 => D.nx (σ.set i (some x)) H1) (RR := fun acc C => PySem.compPost (model X.prog X.w) X.A X.xe (some (assign (.Name y py) X.env)) (fun _ s' => SP X pins D .next s') acc C) c hc I2 T st2 f2 hg ht he hW ?_
  intro D' C s' H' m hn hCl hCc hCo hI q
  show wpAny _ X.A (assign (.Name y py) X.env (.ref D')) _ _ s'
  have I' : Inv X pins σ H' s' := hI s'.heap (Heap.SameBut.refl _ _)
  refine wpAny_assign_Name (store_ok2 I' hN hi' hy (show RelV (.ref D') (.ref D') from rfl) (fun s'' I'' ⟨a, sb, ha⟩ => ?_) hf)
  have hCa : C ≠ a := by
    rcases ha with rfl | ha
    · exact hCl
    · exact fun z => hCc _ _ ha z.symm
  refine ⟨m, hn.sameBut sb hCa, fun h' hs' => ⟨_, H', ?_, q⟩⟩
  exact I''.turned (t' := s''.toks) (fun b o hb e => (hs'.2 b hb).trans e) hCo.1 hCl (.inr hCo.2.1) hCc hCo.2.2
end
end L2
set_option Elab.async false
set_option linter.all false
set_option maxRecDepth 100000
set_option maxHeartbeats 4000000
namespace L2
open PySem PySem.Spec PyProof.Rows
section
variable {M : Model} {A : Around} {E : Value → Shared → Prop} {s : Shared}
end
section
variable {X : Cx}
end
end L2
set_option Elab.async false
set_option linter.all false
set_option maxRecDepth 100000
set_option maxHeartbeats 4000000
namespace L2
open PySem PySem.Spec PyProof.Rows
structure FunX (K : PySem.W.Frag) (x qual : Str) (st : Stmt) (f : Addr) (fd : FuncData) : Prop where
  ex : ∃ (oc : Value) (od : Option Addr) (dV kV doc pm : Value) (an : Option Addr) (cdv ct : Value) (osl : Array (Option Value)),
    fd = PySem.W.fnOf x qual (defArgs st) (defBody st) (defScope st) dV kV doc pm an cdv ct ∧ K.lookup f = some ⟨oc, od, .func fd, osl⟩ ∧ PySem.W.codeIn K cdv qual = true
  kp : PySem.W.keepIn K (.ref f) = true
section
variable {P : Program} {w : World} {K : PySem.W.Frag} {mg : Str → Option Value} {base : Heap}
end
end L2
set_option Elab.async false
set_option linter.all false
set_option maxRecDepth 100000
set_option maxHeartbeats 4000000
namespace L2
open PySem PySem.Spec PyProof.Rows PySem.W
section
variable {prog : Program} {w : World} {A : Around} {E : Value → Shared → Prop} {s : Shared} {K : PySem.W.Frag} {x C : Addr} {ox : Obj} {od : Option Obj} {name : Str}
end
end L2
set_option Elab.async false
set_option linter.all false
set_option maxRecDepth 100000
set_option maxHeartbeats 4000000
namespace L2
open PySem PySem.Spec PyProof.Rows
section
variable {X : Cx}
end
end L2
set_option Elab.async false
set_option linter.all false
set_option maxRecDepth 100000
set_option maxHeartbeats 4000000
namespace L2
open PySem PySem.Spec PyProof.Rows PySem.W
section
variable {prog : Program} {w : World} {A : Around} {R : Result → Shared → Prop} {h : Heap} {g : Array GenState} {d : Drawn} {t : Nat} {os : OsState} {K : Frag}
variable {nm q : Str} {C N fI : Addr} {bs bm bmB : List Value} {hdct : Bool} {sn : List Str} {sub : List Value} {ab : Bool} {col : Option Bool} {dd : Option Addr} {k0 k1 k2 k3 k5 : Option Value} {B Bn newId nid initId inN : String} {bmN : List Value}
end
section
variable {prog : Program} {w : World} {A : Around} {E : Value → Shared → Prop} {K : Frag} {x C : Addr} {s : Shared} {name : Str} {v : Value}
end
end L2
set_option Elab.async false
set_option linter.all false
set_option maxRecDepth 100000
set_option maxHeartbeats 4000000
namespace L2
open PySem PySem.Spec PyProof.Rows PySem.W
section
variable {prog : Program} {w : World} {A : Around} {E : Value → Shared → Prop} {s : Shared} {K : PySem.W.Frag} {x C dx : Addr} {ox : Obj} {od : Option Obj} {name : Str} {mA : Str → Option Value} {u : Value}
end
section
variable {prog : Program} {w : World} {A : Around} {E : Value → Shared → Prop} {h : Heap} {g : Array GenState} {d : Drawn} {t : Nat} {os : OsState} {e a0 : Addr} {dct : Option Addr}
variable {nm q : Str} {C N : Addr} {bs bm bmB : List Value} {hdct : Bool} {sn : List Str} {sub : List Value} {ab : Bool} {col : Option Bool} {dd : Option Addr} {k0 k1 k2 k3 k5 : Option Value} {B newId nid initId : String}
end
section
variable {X : Cx} {pins : List (Addr × Obj)} {σ : St} {H : Hp} {s : Shared}
end
end L2
set_option Elab.async false
set_option linter.all false
set_option maxRecDepth 100000
set_option maxHeartbeats 4000000
namespace L2
open PySem PySem.Spec PyProof.Rows PySem.W
section
variable {X : Cx} {e o value : Expr} {ta tv : TE} {f : Str} {pos pos' : Pos}
end
def del (H : Hp) (e : Addr) : Hp := fun b => if b = e then none else H b
section
variable {X : Cx}
end
end L2
set_option Elab.async false
set_option linter.all false
set_option maxRecDepth 100000
set_option maxHeartbeats 4000000
namespace L2
open PySem
open PySem.Spec PyProof.Rows
theorem gName_0 {a : Option V} {v : V} {σ : St} {H : Hp} {Q : St → Hp → Prop} : gName 0 v (a :: σ) H Q = Q (some v :: σ) H := rfl
theorem gName_1 {a0 : Option V} {a : Option V} {v : V} {σ : St} {H : Hp} {Q : St → Hp → Prop} : gName 1 v (a0 :: a :: σ) H Q = Q (a0 :: some v :: σ) H := rfl
theorem gName_2 {a0 a1 : Option V} {a : Option V} {v : V} {σ : St} {H : Hp} {Q : St → Hp → Prop} : gName 2 v (a0 :: a1 :: a :: σ) H Q = Q (a0 :: a1 :: some v :: σ) H := rfl
theorem gName_3 {a0 a1 a2 : Option V} {a : Option V} {v : V} {σ : St} {H : Hp} {Q : St → Hp → Prop} : gName 3 v (a0 :: a1 :: a2 :: a :: σ) H Q = Q (a0 :: a1 :: a2 :: some v :: σ) H := rfl
theorem gName_4 {a0 a1 a2 a3 : Option V} {a : Option V} {v : V} {σ : St} {H : Hp} {Q : St → Hp → Prop} : gName 4 v (a0 :: a1 :: a2 :: a3 :: a :: σ) H Q = Q (a0 :: a1 :: a2 :: a3 :: some v :: σ) H := rfl
theorem gName_5 {a0 a1 a2 a3 a4 : Option V} {a : Option V} {v : V} {σ : St} {H : Hp} {Q : St → Hp → Prop} : gName 5 v (a0 :: a1 :: a2 :: a3 :: a4 :: a :: σ) H Q = Q (a0 :: a1 :: a2 :: a3 :: a4 :: some v :: σ) H := rfl
theorem gName_6 {a0 a1 a2 a3 a4 a5 : Option V} {a : Option V} {v : V} {σ : St} {H : Hp} {Q : St → Hp → Prop} : gName 6 v (a0 :: a1 :: a2 :: a3 :: a4 :: a5 :: a :: σ) H Q = Q (a0 :: a1 :: a2 :: a3 :: a4 :: a5 :: some v :: σ) H := rfl
theorem gName_7 {a0 a1 a2 a3 a4 a5 a6 : Option V} {a : Option V} {v : V} {σ : St} {H : Hp} {Q : St → Hp → Prop} : gName 7 v (a0 :: a1 :: a2 :: a3 :: a4 :: a5 :: a6 :: a :: σ) H Q = Q (a0 :: a1 :: a2 :: a3 :: a4 :: a5 :: a6 :: some v :: σ) H := rfl
theorem gName_8 {a0 a1 a2 a3 a4 a5 a6 a7 : Option V} {a : Option V} {v : V} {σ : St} {H : Hp} {Q : St → Hp → Prop} : gName 8 v (a0 :: a1 :: a2 :: a3 :: a4 :: a5 :: a6 :: a7 :: a :: σ) H Q = Q (a0 :: a1 :: a2 :: a3 :: a4 :: a5 :: a6 :: a7 :: some v :: σ) H := rfl
theorem gName_9 {a0 a1 a2 a3 a4 a5 a6 a7 a8 : Option V} {a : Option V} {v : V} {σ : St} {H : Hp} {Q : St → Hp → Prop} : gName 9 v (a0 :: a1 :: a2 :: a3 :: a4 :: a5 :: a6 :: a7 :: a8 :: a :: σ) H Q = Q (a0 :: a1 :: a2 :: a3 :: a4 :: a5 :: a6 :: a7 :: a8 :: some v :: σ) H := rfl
def optK {α : Type} : Option α → (α → Prop) → Prop
  | some x, k => k x
  | none, _ => False
theorem optK_some {α : Type} (x : α) (k : α → Prop) : optK (some x) k = k x := rfl
theorem optK_ex {α : Type} {o : Option α} {k : α → Prop} (h : optK o k) : ∃ x, o = some x ∧ k x := by
  cases o with
  | none => exact h.elim
  | some x => exact ⟨x, rfl, h⟩
def seqO : HO → Option (List V)
  | .lst xs => some xs
  | .tup xs => some xs
  | .frz _ (.lst xs) => some xs
  | _ => none
def lstO : HO → Option (List V)
  | .lst xs => some xs
  | _ => none
def tupO : HO → Option (List V)
  | .tup xs => some xs
  | _ => none
def itemsAt (H : Hp) (p : Addr) : Option (List V) := (H p).bind seqO
def lstAt (H : Hp) (p : Addr) : Option (List V) := (H p).bind lstO
def tupAt (H : Hp) (p : Addr) : Option (List V) := (H p).bind tupO
theorem seqO_lst (xs : List V) : seqO (.lst xs) = some xs := rfl
theorem seqO_tup (xs : List V) : seqO (.tup xs) = some xs := rfl
theorem lstO_lst (xs : List V) : lstO (.lst xs) = some xs := rfl
theorem tupO_tup (xs : List V) : tupO (.tup xs) = some xs := rfl
theorem bind_some' {α β : Type} (x : α) (f : α → Option β) : (some x).bind f = f x := rfl
abbrev Ext (H H' : Hp) : Prop := (∀ a, (H a).isSome = true → H' a = H a) ∧ ∀ (K : PySem.W.Frag) a xs, SqL K H a xs → SqL K H' a xs
def kOp' (r : R2) (x : V) (Q : VK) : VK := fun y H => r x y H Q
theorem m_kOp' (r : R2) (x y : V) (H : Hp) (Q : VK) : (kOp' r x Q y H) = (r x y H Q) := rfl
def kOp (r : R2) (tb : TE) (σ : St) (Q : VK) : VK := fun x H => tb σ H (kOp' r x Q)
theorem m_kOp (r : R2) (tb : TE) (σ : St) (Q : VK) (x : V) (H : Hp) : (kOp r tb σ Q x H) = (tb σ H (kOp' r x Q)) := rfl
theorem m_tOp (r : R2) (ta tb : TE) (σ : St) (H : Hp) (Q : VK) : (tOp r ta tb σ H Q) = (ta σ H (kOp r tb σ Q)) := rfl
theorem m_tC (v : V) (σ : St) (H : Hp) (Q : VK) : (tC v σ H Q) = (Q v H) := rfl
def rNotN : R2 := fun x y H Q => y = .non ∧ Q (.bl (!decide (x = .non))) H
theorem m_rNotN_non (H : Hp) (Q : VK) : rNotN (.non) .non H Q = Q (.bl false) H := propext ⟨fun h => h.2, fun h => ⟨rfl, h⟩⟩
theorem m_rNotN_ref (i : Addr) (H : Hp) (Q : VK) : rNotN (.ref i) .non H Q = Q (.bl true) H := propext ⟨fun h => h.2, fun h => ⟨rfl, h⟩⟩
def kTest (Q : Bool → Hp → Prop) : VK := fun x H => ∃ k, x = .bl k ∧ Q k H
def kNot (Q : Bool → Hp → Prop) : Bool → Hp → Prop := fun c H => Q (!c) H
theorem m_kNot (Q : Bool → Hp → Prop) (c : Bool) (H : Hp) : (kNot Q c H) = (Q (!c) H) := rfl
theorem m_tNot (t : TT) (σ : St) (H : Hp) (Q : Bool → Hp → Prop) : (tNot t σ H Q) = (t σ H (kNot Q)) := rfl
def kAnd (u : TT) (σ : St) (Q : Bool → Hp → Prop) : Bool → Hp → Prop := fun c H => if c = true then u σ H Q else Q false H
theorem m_kAnd (u : TT) (σ : St) (Q : Bool → Hp → Prop) (c : Bool) (H : Hp) : (kAnd u σ Q c H) = (if c = true then u σ H Q else Q false H) := rfl
theorem m_tAnd (t u : TT) (σ : St) (H : Hp) (Q : Bool → Hp → Prop) : (tAnd t u σ H Q) = (t σ H (kAnd u σ Q)) := rfl
def kOr (u : TT) (σ : St) (Q : Bool → Hp → Prop) : Bool → Hp → Prop := fun c H => if c = true then Q true H else u σ H Q
theorem m_kOr (u : TT) (σ : St) (Q : Bool → Hp → Prop) (c : Bool) (H : Hp) : (kOr u σ Q c H) = (if c = true then Q true H else u σ H Q) := rfl
theorem m_tOr (t u : TT) (σ : St) (H : Hp) (Q : Bool → Hp → Prop) : (tOr t u σ H Q) = (t σ H (kOr u σ Q)) := rfl
def kAndV (tb : TE) (σ : St) (Q : VK) : VK := fun x H => ∃ c, x = .bl c ∧ if c = true then tb σ H Q else Q (.bl false) H
def kOrV (tb : TE) (σ : St) (Q : VK) : VK := fun x H => ∃ c, x = .bl c ∧ if c = true then Q (.bl true) H else tb σ H Q
def kNotV (Q : VK) : VK := fun x H => ∃ c, x = .bl c ∧ Q (.bl (!c)) H
theorem m_tNil (σ : St) (H : Hp) (Q : List V → Hp → Prop) : (tNil σ H Q) = (Q [] H) := rfl
def kCons' (x : V) (Q : List V → Hp → Prop) : List V → Hp → Prop := fun xs H => Q (x :: xs) H
theorem m_kCons' (x : V) (Q : List V → Hp → Prop) (xs : List V) (H : Hp) : (kCons' x Q xs H) = (Q (x :: xs) H) := rfl
def kCons (tr : TA) (σ : St) (Q : List V → Hp → Prop) : VK := fun x H => tr σ H (kCons' x Q)
theorem m_kCons (tr : TA) (σ : St) (Q : List V → Hp → Prop) (x : V) (H : Hp) : (kCons tr σ Q x H) = (tr σ H (kCons' x Q)) := rfl
theorem m_tCons (ta : TE) (tr : TA) (σ : St) (H : Hp) (Q : List V → Hp → Prop) : (tCons ta tr σ H Q) = (ta σ H (kCons tr σ Q)) := rfl
def kCall (sp : Sp) (dvs : List V) (E : XK) (Q : VK) : List V → Hp → Prop := fun vs H => sp (vs ++ dvs) H Q E
theorem m_kCall_1 (v0 : V) (sp : Sp) (dvs : List V) (E : XK) (Q : VK) (H : Hp) : kCall sp dvs E Q [v0] H = sp (v0 :: dvs) H Q E := rfl
theorem m_kCall_2 (v0 v1 : V) (sp : Sp) (dvs : List V) (E : XK) (Q : VK) (H : Hp) : kCall sp dvs E Q [v0, v1] H = sp (v0 :: v1 :: dvs) H Q E := rfl
theorem m_kCall_3 (v0 v1 v2 : V) (sp : Sp) (dvs : List V) (E : XK) (Q : VK) (H : Hp) : kCall sp dvs E Q [v0, v1, v2] H = sp (v0 :: v1 :: v2 :: dvs) H Q E := rfl
theorem m_kCall_4 (v0 v1 v2 v3 : V) (sp : Sp) (dvs : List V) (E : XK) (Q : VK) (H : Hp) : kCall sp dvs E Q [v0, v1, v2, v3] H = sp (v0 :: v1 :: v2 :: v3 :: dvs) H Q E := rfl
theorem m_tCall (sp : Sp) (dvs : List V) (E : XK) (t : TA) (σ : St) (H : Hp) (Q : VK) : (tCall sp dvs E t σ H Q) = (t σ H (kCall sp dvs E Q)) := rfl
def kCB (r : List V → Hp → VK → Prop) (Q : VK) : List V → Hp → Prop := fun vs H => r vs H Q
theorem m_kCB (r : List V → Hp → VK → Prop) (Q : VK) (vs : List V) (H : Hp) : (kCB r Q vs H) = (r vs H Q) := rfl
theorem m_tCB (r : List V → Hp → VK → Prop) (t : TA) (σ : St) (H : Hp) (Q : VK) : (tCB r t σ H Q) = (t σ H (kCB r Q)) := rfl
theorem m_tNext (nx : St → Hp → Prop) (rt : VK) (bk ct : St → Hp → Prop) (σ : St) (H : Hp) : (tNext ⟨nx, rt, bk, ct⟩ σ H) = (nx σ H) := rfl
theorem m_tSeq (t u : TS) (nx : St → Hp → Prop) (rt : VK) (bk ct : St → Hp → Prop) (σ : St) (H : Hp) : (tSeq t u ⟨nx, rt, bk, ct⟩ σ H) = (t ⟨u ⟨nx, rt, bk, ct⟩, rt, bk, ct⟩ σ H) := rfl
theorem m_tRet (te : TE) (nx : St → Hp → Prop) (rt : VK) (bk ct : St → Hp → Prop) (σ : St) (H : Hp) : (tRet te ⟨nx, rt, bk, ct⟩ σ H) = (te σ H rt) := rfl
def kDrop (nx : St → Hp → Prop) (σ : St) : VK := fun x H => nx σ H
theorem m_kDrop (nx : St → Hp → Prop) (σ : St) (x : V) (H : Hp) : (kDrop nx σ x H) = (nx σ H) := rfl
theorem m_tDrop (te : TE) (nx : St → Hp → Prop) (rt : VK) (bk ct : St → Hp → Prop) (σ : St) (H : Hp) : (tDrop te ⟨nx, rt, bk, ct⟩ σ H) = (te σ H (kDrop nx σ)) := rfl
def kIfS (t u : TS) (D : Ends) (σ : St) : Bool → Hp → Prop := fun b H => if b = true then t D σ H else u D σ H
theorem m_kIfS (t u : TS) (D : Ends) (σ : St) (b : Bool) (H : Hp) : (kIfS t u D σ b H) = (if b = true then t D σ H else u D σ H) := rfl
theorem m_tIfS (c : TT) (t u : TS) (D : Ends) (σ : St) (H : Hp) : (tIfS c t u D σ H) = (c σ H (kIfS t u D σ)) := rfl
def kAsg (g : TG) (σ : St) (nx : St → Hp → Prop) : VK := fun x H => g x σ H nx
theorem m_kAsg (g : TG) (σ : St) (nx : St → Hp → Prop) (x : V) (H : Hp) : (kAsg g σ nx x H) = (g x σ H nx) := rfl
theorem m_tAsg (te : TE) (g : TG) (nx : St → Hp → Prop) (rt : VK) (bk ct : St → Hp → Prop) (σ : St) (H : Hp) : (tAsg te g ⟨nx, rt, bk, ct⟩ σ H) = (te σ H (kAsg g σ nx)) := rfl
def kPar (i j : Nat) (σ : St) (nx : St → Hp → Prop) : List V → Hp → Prop := fun vs H => ∃ v w, vs = [v, w] ∧ nx ((σ.set i (some v)).set j (some w)) H
theorem m_kPar (i j : Nat) (σ : St) (nx : St → Hp → Prop) (v w : V) (H : Hp) : kPar i j σ nx [v, w] H = gName i v σ H (fun σ' H' => gName j w σ' H' nx) := propext ⟨fun ⟨_, _, e, q⟩ => by cases e; exact q, fun q => ⟨v, w, rfl, q⟩⟩
theorem m_tPar (i j : Nat) (ta : TA) (nx : St → Hp → Prop) (rt : VK) (bk ct : St → Hp → Prop) (σ : St) (H : Hp) : (tPar i j ta ⟨nx, rt, bk, ct⟩ σ H) = (ta σ H (kPar i j σ nx)) := rfl
def kGs (u : TGs) (r : List V) (Q : St → Hp → Prop) : St → Hp → Prop := fun σ' H' => u r σ' H' Q
theorem m_kGs (u : TGs) (r : List V) (Q : St → Hp → Prop) (σ : St) (H : Hp) : (kGs u r Q σ H) = (u r σ H Q) := rfl
end L2
set_option Elab.async false
set_option linter.all false
set_option maxRecDepth 100000
set_option maxHeartbeats 4000000
namespace L2
open PySem PySem.Spec PyProof.Rows
section
variable {X : Cx}
theorem OpR.mono {f : Value → Value → Sem Value} {r r' : R2} (h : OpR X f r) (m : ∀ x y H Q, r' x y H Q → r x y H Q) : OpR X f r' := fun pins s σ H x y v u Q I rx ry hq => h pins s σ H x y v u Q I rx ry (m _ _ _ _ hq)
theorem CallR.mono {f : Value} {r r' : List V → Hp → VK → Prop} (h : CallR X f r) (m : ∀ xs H Q, r' xs H Q → r xs H Q) : CallR X f r' := fun pins s σ H xs us Q I rx hq => h pins s σ H xs us Q I rx (m _ _ _ hq)
theorem IxR.mono {r r' : R2} (h : IxR X r) (m : ∀ x y H Q, r' x y H Q → r x y H Q) : IxR X r' := fun a b pins s σ H x y v u Q I rx ry hq => h a b pins s σ H x y v u Q I rx ry (m _ _ _ _ hq)
theorem SlR.mono {r r' : V → Option Int → Option Int → Hp → VK → Prop} (h : SlR X r) (m : ∀ x lo hi H Q, r' x lo hi H Q → r x lo hi H Q) : SlR X r' := fun pins s σ H x v vl vu lo hi sl Q I rx a b c hq => h pins s σ H x v vl vu lo hi sl Q I rx a b c (m _ _ _ _ _ hq)
theorem PG.mono {tg : Expr} {g g' : TG} (h : PG X tg g) (m : ∀ v σ H Q, g' v σ H Q → g v σ H Q) : PG X tg g' := fun pins s σ H v u Q I r hq => h pins s σ H v u Q I r (m _ _ _ _ hq)
theorem items_seq {K : PySem.W.Frag} {H : Hp} {p : Addr} {ys : List V} (h : itemsAt H p = some ys) : SqL K H p ys ∨ SqT K H p ys := by
  unfold itemsAt at h
  cases e : H p with
  | none => rw [e] at h; cases h
  | some o =>
    rw [e] at h
    have h' : seqO o = some ys := h
    cases o with
    | lst xs => cases h'; exact .inl (SqL.of e)
    | tup xs => cases h'; exact .inr (SqT.of e)
    | frz ob u =>
      cases u with
      | lst xs => cases h'; exact .inl (.inl (.inr ⟨ob, e⟩))
      | _ => cases h'
    | _ => cases h'
theorem lst_of {H : Hp} {p : Addr} {ys : List V} (h : lstAt H p = some ys) : H p = some (.lst ys) := by
  unfold lstAt at h
  cases e : H p with
  | none => rw [e] at h; cases h
  | some o =>
    rw [e] at h
    have h' : lstO o = some ys := h
    cases o with
    | lst xs => cases h'; rfl
    | _ => cases h'
theorem tup_of {H : Hp} {p : Addr} {ys : List V} (h : tupAt H p = some ys) : H p = some (.tup ys) := by
  unfold tupAt at h
  cases e : H p with
  | none => rw [e] at h; cases h
  | some o =>
    rw [e] at h
    have h' : tupO o = some ys := h
    cases o with
    | tup xs => cases h'; rfl
    | _ => cases h'
def kLen (H : Hp) (Q : VK) : List V → Prop := fun ys => Q (.int ys.length) H
theorem m_kLen (H : Hp) (Q : VK) (ys : List V) : kLen H Q ys = Q (.int ys.length) H := rfl
def qLen (xs : List V) (H : Hp) (Q : VK) : Prop := match xs with
  | [.ref p] => optK (itemsAt H p) (kLen H Q)
  | [.str z] => z.length ≤ sizeLine ∧ Q (.int z.length) H
  | _ => False
theorem m_qLen (p : Addr) (H : Hp) (Q : VK) : qLen [.ref p] H Q = optK (itemsAt H p) (kLen H Q) := rfl
theorem call_qLen : CallR X (.builtin "len") qLen := by
  refine (call_len_seq.or call_len_str).mono fun xs H Q h => ?_
  unfold qLen at h
  split at h
  · rename_i p
    obtain ⟨ys, e, q⟩ := optK_ex h
    exact .inl ⟨p, ys, rfl, items_seq e, q⟩
  · rename_i z
    exact .inr ⟨z, rfl, h.1, h.2⟩
  · exact h.elim
def kIx' (H : Hp) (Q : VK) : V → Prop := fun v => Q v H
theorem m_kIx' (H : Hp) (Q : VK) (v : V) : kIx' H Q v = Q v H := rfl
def kIx (i : Int) (H : Hp) (Q : VK) : List V → Prop := fun ys => optK (atI ys i) (kIx' H Q)
theorem m_kIx (i : Int) (H : Hp) (Q : VK) (ys : List V) : kIx i H Q ys = optK (atI ys i) (kIx' H Q) := rfl
def qIx : R2 := fun x y H Q => match x, y with
  | .ref p, .int i => optK (itemsAt H p) (kIx i H Q)
  | _, _ => False
theorem m_qIx (p : Addr) (i : Int) (H : Hp) (Q : VK) : qIx (.ref p) (.int i) H Q = optK (itemsAt H p) (kIx i H Q) := rfl
theorem ix_q : IxR X qIx := by
  refine (ix_list.or ix_tup).mono fun x y H Q h => ?_
  unfold qIx at h
  split at h
  · rename_i p i
    obtain ⟨ys, e, q⟩ := optK_ex h
    obtain ⟨v, e2, q2⟩ := optK_ex q
    rcases items_seq (K := X.K) e with z | z
    · exact .inl ⟨p, ys, i, v, rfl, rfl, z, e2, q2⟩
    · exact .inr ⟨p, ys, i, v, rfl, rfl, z, e2, q2⟩
  · exact h.elim
theorem atI_0 {α : Type} (a : α) (xs : List α) : atI (a :: xs) 0 = some a := atI_nat (j := 0) rfl
theorem atI_1 {α : Type} (a b : α) (xs : List α) : atI (a :: b :: xs) 1 = some b := atI_nat (j := 1) rfl
def kNewL (H : Hp) (Q : VK) : List V → Prop := fun ys => ∀ l, H l = none → Q (.ref l) (upd H l (.lst ys))
def qList (xs : List V) (H : Hp) (Q : VK) : Prop := match xs with
  | [.ref p] => optK (itemsAt H p) (kNewL H Q)
  | _ => False
theorem call_qList : CallR X (.type "list") qList := by
  refine call_list_of.mono fun xs H Q h => ?_
  unfold qList at h
  split at h
  · rename_i p
    obtain ⟨ys, e, q⟩ := optK_ex h
    exact ⟨p, ys, rfl, items_seq e, q⟩
  · exact h.elim
def qAbs (xs : List V) (H : Hp) (Q : VK) : Prop := match xs with
  | [.int i] => Q (.int (if i < 0 then -i else i)) H
  | _ => False
theorem m_qAbs (i : Int) (H : Hp) (Q : VK) : qAbs [.int i] H Q = Q (.int (if i < 0 then -i else i)) H := rfl
theorem call_qAbs : CallR X (.builtin "abs") qAbs := by
  refine call_abs.mono fun xs H Q h => ?_
  unfold qAbs at h
  split at h
  · rename_i i; exact ⟨i, rfl, h⟩
  · exact h.elim
def tyO : HO → Option String
  | .lst _ => some "list"
  | .tup _ => some "tuple"
  | .frz _ (.lst _) => some "list"
  | .dK _ => some "dict"
  | .dT _ => some "dict"
  | _ => none
def tyN (H : Hp) : V → Option String
  | .non => some "NoneType"
  | .bl _ => some "bool"
  | .int _ => some "int"
  | .str _ => some "str"
  | .ref p => (H p).bind tyO
  | _ => none
theorem tyN_non (H : Hp) : tyN H .non = some "NoneType" := rfl
theorem tyN_bl (H : Hp) (b : Bool) : tyN H (.bl b) = some "bool" := rfl
theorem tyN_int (H : Hp) (i : Int) : tyN H (.int i) = some "int" := rfl
theorem tyN_str (H : Hp) (x : Str) : tyN H (.str x) = some "str" := rfl
theorem tyN_ref (H : Hp) (p : Addr) : tyN H (.ref p) = (H p).bind tyO := rfl
theorem tyN_ok {K : PySem.W.Frag} {H : Hp} {x : V} {t : String} (h : tyN H x = some t) : TyOf K H x (.type t) := by
  cases x with
  | non => cases h; exact .non
  | bl b => cases h; exact .bl b
  | int i => cases h; exact .int i
  | str x => cases h; exact .str x
  | ref p =>
    have h' : (H p).bind tyO = some t := h
    cases e : H p with
    | none => rw [e] at h'; cases h'
    | some o =>
      rw [e] at h'
      have h2 : tyO o = some t := h'
      cases o with
      | lst xs => cases h2; exact .lst e
      | tup xs => cases h2; exact .tup e
      | dK xs => cases h2; exact .dK e
      | dT xs => cases h2; exact .dT e
      | frz ob u =>
        cases u with
        | lst xs => cases h2; exact .frz e
        | _ => cases h2
      | _ => cases h2
  | _ => cases h
def kTypes : List String := ["NoneType", "bool", "int", "str", "list", "tuple", "dict"]
def isiN (t n : String) : Bool := t == n || (t == "bool" && n == "int")
theorem kit_isiN (K : PySem.W.Frag) : ∀ t ∈ kTypes, ∀ n ∈ kTypes, PySem.W.kitOne K (.type t) (.type n) = some (isiN t n) := by
  intro t ht n hn
  unfold kTypes at ht hn
  simp only [List.mem_cons, List.not_mem_nil, or_false] at ht hn
  rcases ht with rfl | rfl | rfl | rfl | rfl | rfl | rfl <;> rcases hn with rfl | rfl | rfl | rfl | rfl | rfl | rfl <;> exact kitOne_ty K _ _ _ (by decide +kernel)
def kIsi (n : String) (H : Hp) (Q : VK) : String → Prop := fun t => t ∈ kTypes ∧ Q (.bl (isiN t n)) H
def qIsi (xs : List V) (H : Hp) (Q : VK) : Prop := match xs with
  | [x, .ty n] => n ∈ kTypes ∧ optK (tyN H x) (kIsi n H Q)
  | _ => False
theorem call_qIsi : CallR X (.builtin "isinstance") qIsi := by
  refine call_isi.mono fun xs H Q h => ?_
  unfold qIsi at h
  split at h
  · rename_i x n
    obtain ⟨hn, h⟩ := h
    obtain ⟨t, e, ht, q⟩ := optK_ex h
    exact ⟨x, n, _, _, rfl, tyN_ok e, kit_isiN _ t ht n hn, q⟩
  · exact h.elim
theorem m_qIsi_int (x : V) (H : Hp) (Q : VK) : qIsi [x, .ty "int"] H Q = optK (tyN H x) (kIsi "int" H Q) := by
  unfold qIsi; exact propext ⟨fun h => h.2, fun h => ⟨by decide, h⟩⟩
theorem m_qIsi_bool (x : V) (H : Hp) (Q : VK) : qIsi [x, .ty "bool"] H Q = optK (tyN H x) (kIsi "bool" H Q) := by
  unfold qIsi; exact propext ⟨fun h => h.2, fun h => ⟨by decide, h⟩⟩
theorem m_kIsi_Ni (H : Hp) (Q : VK) : kIsi "int" H Q "NoneType" = Q (.bl false) H := propext ⟨fun h => h.2, fun h => ⟨by decide, h⟩⟩
theorem m_kIsi_bb (H : Hp) (Q : VK) : kIsi "bool" H Q "bool" = Q (.bl true) H := propext ⟨fun h => h.2, fun h => ⟨by decide, h⟩⟩
theorem m_kIsi_bi (H : Hp) (Q : VK) : kIsi "int" H Q "bool" = Q (.bl true) H := propext ⟨fun h => h.2, fun h => ⟨by decide, h⟩⟩
theorem m_kIsi_ib (H : Hp) (Q : VK) : kIsi "bool" H Q "int" = Q (.bl false) H := propext ⟨fun h => h.2, fun h => ⟨by decide, h⟩⟩
theorem m_kIsi_ii (H : Hp) (Q : VK) : kIsi "int" H Q "int" = Q (.bl true) H := propext ⟨fun h => h.2, fun h => ⟨by decide, h⟩⟩
theorem m_kIsi_si (H : Hp) (Q : VK) : kIsi "int" H Q "str" = Q (.bl false) H := propext ⟨fun h => h.2, fun h => ⟨by decide, h⟩⟩
theorem m_kIsi_li (H : Hp) (Q : VK) : kIsi "int" H Q "list" = Q (.bl false) H := propext ⟨fun h => h.2, fun h => ⟨by decide, h⟩⟩
theorem m_kIsi_ti (H : Hp) (Q : VK) : kIsi "int" H Q "tuple" = Q (.bl false) H := propext ⟨fun h => h.2, fun h => ⟨by decide, h⟩⟩
theorem m_kIsi_di (H : Hp) (Q : VK) : kIsi "int" H Q "dict" = Q (.bl false) H := propext ⟨fun h => h.2, fun h => ⟨by decide, h⟩⟩
def kBM' (r : V → List V → Hp → VK → Prop) (x : V) (Q : VK) : List V → Hp → Prop := fun xs H => r x xs H Q
theorem m_kBM' (r : V → List V → Hp → VK → Prop) (x : V) (Q : VK) (xs : List V) (H : Hp) : kBM' r x Q xs H = r x xs H Q := rfl
def kBM (K : PySem.W.Frag) (T : String) (r : V → List V → Hp → VK → Prop) (t : TA) (σ : St) (Q : VK) : VK := fun x H => tyV K T x H ∧ t σ H (kBM' r x Q)
theorem m_kBM (K : PySem.W.Frag) (T : String) (r : V → List V → Hp → VK → Prop) (t : TA) (σ : St) (Q : VK) (x : V) (H : Hp) : kBM K T r t σ Q x H = (tyV K T x H ∧ t σ H (kBM' r x Q)) := rfl
theorem m_tBM (K : PySem.W.Frag) (T : String) (r : V → List V → Hp → VK → Prop) (to : TE) (t : TA) (σ : St) (H : Hp) (Q : VK) : tBM K T r to t σ H Q = to σ H (kBM K T r t σ Q) := rfl
theorem tyV_list (K : PySem.W.Frag) (p : Addr) (H : Hp) (h : (lstAt H p).isSome = true) : tyV K "list" (.ref p) H = True := by
  cases e : lstAt H p with
  | none => rw [e] at h; cases h
  | some ys => exact eq_true (.inl ⟨rfl, ys, SqL.of (lst_of e)⟩)
def kApp (l : Addr) (y : V) (H : Hp) (Q : VK) : List V → Prop := fun xs => xs.length < sizeLine ∧ Q .non (upd H l (.lst (xs ++ [y])))
theorem m_kApp (l : Addr) (y : V) (H : Hp) (Q : VK) (xs : List V) : kApp l y H Q xs = (xs.length < sizeLine ∧ Q .non (upd H l (.lst (xs ++ [y])))) := rfl
theorem m_rAppend (l : Addr) (y : V) (H : Hp) (Q : VK) : rAppend (.ref l) [y] H Q = optK (lstAt H l) (kApp l y H Q) := by
  refine propext ⟨fun h => ?_, fun h => ?_⟩
  · obtain ⟨_, xs, _, e1, e2, e3, a, b⟩ := h
    cases e1; cases e2
    have e : lstAt H l = some xs := by unfold lstAt; rw [e3]; rfl
    rw [e]; exact ⟨a, b⟩
  · obtain ⟨xs, e, a, b⟩ := optK_ex h
    exact ⟨l, xs, y, rfl, rfl, lst_of e, a, b⟩
def kCat2 (xs : List V) (H : Hp) (Q : VK) : List V → Prop := fun ys => xs.length + ys.length ≤ sizeLine ∧ ∀ p, H p = none → Q (.ref p) (upd H p (.lst (xs ++ ys)))
def kCat1 (b : Addr) (H : Hp) (Q : VK) : List V → Prop := fun xs => optK (lstAt H b) (kCat2 xs H Q)
theorem m_rCat (l b : Addr) (H : Hp) (Q : VK) : rCat (.ref l) (.ref b) H Q = optK (lstAt H l) (kCat1 b H Q) := by
  refine propext ⟨fun h => ?_, fun h => ?_⟩
  · obtain ⟨l', b', xs, zs, e1, e2, e3, e4, hz, hq⟩ := h
    cases e1; cases e2
    have e : lstAt H l = some xs := by unfold lstAt; rw [e3]; rfl
    have e' : lstAt H b = some zs := by unfold lstAt; rw [e4]; rfl
    rw [e]
    show optK (lstAt H b) _
    rw [e']; exact ⟨hz, hq⟩
  · obtain ⟨xs, e, q⟩ := optK_ex h
    obtain ⟨zs, e', a, q⟩ := optK_ex q
    exact ⟨l, b, xs, zs, rfl, rfl, lst_of e, lst_of e', a, q⟩
def kGT (n : Nat) (t : TGs) (σ : St) (H : Hp) (Q : St → Hp → Prop) : List V → Prop := fun xs => xs.length = n ∧ t xs σ H Q
theorem m_kGT (n : Nat) (t : TGs) (σ : St) (H : Hp) (Q : St → Hp → Prop) (xs : List V) : kGT n t σ H Q xs = (xs.length = n ∧ t xs σ H Q) := rfl
def qGT (n : Nat) (t : TGs) : TG := fun v σ H Q => match v with
  | .ref a => optK (tupAt H a) (kGT n t σ H Q)
  | _ => False
theorem m_qGT (n : Nat) (t : TGs) (a : Addr) (σ : St) (H : Hp) (Q : St → Hp → Prop) : qGT n t (.ref a) σ H Q = optK (tupAt H a) (kGT n t σ H Q) := rfl
theorem gTup_q {K : PySem.W.Frag} {n : Nat} {t : TGs} {v : V} {σ : St} {H : Hp} {Q : St → Hp → Prop} (h : qGT n t v σ H Q) : gTup K n t v σ H Q := by
  unfold qGT at h
  split at h
  · rename_i a
    obtain ⟨xs, e, hl, q⟩ := optK_ex h
    exact ⟨a, xs, rfl, SqT.of (tup_of e), hl, q⟩
  · exact h.elim
theorem op_qIsnt : OpR X (compareOp .IsNot) rNotN := op_notN
def kBody (tb : TS) (D : Ends) : St → Hp → Prop := fun σ H => tb D σ H
theorem m_kBody (tb : TS) (D : Ends) (σ : St) (H : Hp) : kBody tb D σ H = tb D σ H := rfl
def kFor (g : TG) (tb : TS) (D : Ends) (σ : St) (J : It) (H1 : Hp) : Prop := ∃ W : Nat → Nat → St → Hp → Prop, (∃ m, W 0 m σ H1) ∧ ∀ i m σ H, W i m σ H →
  (J.stop i H ∧ D.nx σ H) ∨ (J.go i H ∧ ∃ N : St → Hp → Prop, (∀ σ' H', N σ' H' → ∃ m', m' < m ∧ W (i + 1) m' σ' H') ∧ ∀ x H', J.yld i H x H' → g x σ H' fun σ2 H2 => tb { D with nx := N, ct := N, bk := D.nx } σ2 H2)
theorem m_tFor (wi : TI) (g : TG) (tb : TS) (D : Ends) (σ : St) (H : Hp) : tFor wi g tb D σ H = wi σ H (kFor g tb D σ) := rfl
def kR1 (R : It → Hp → Prop) : List V → Hp → Prop := fun vs H => ∃ j : Int, vs = [.int j] ∧ -(2 ^ 62) ≤ j ∧ j < 2 ^ 62 ∧ R (Itr 0 j.toNat) H
theorem m_kR1 (R : It → Hp → Prop) (j : Int) (H : Hp) : kR1 R [.int j] H = (-(2 ^ 62) ≤ j ∧ j < 2 ^ 62 ∧ R (Itr 0 j.toNat) H) := propext ⟨fun ⟨_, e, q⟩ => by cases e; exact q, fun q => ⟨j, rfl, q⟩⟩
theorem m_iRng1 (ta : TA) (σ : St) (H : Hp) (R : It → Hp → Prop) : iRng1 ta σ H R = ta σ H (kR1 R) := rfl
def kISq' (K : PySem.W.Frag) (a : Addr) (H : Hp) (R : It → Hp → Prop) : HO → Prop := fun o => match o with
  | .lst _ => R (Itl K a) H
  | .frz _ (.lst _) => R (Itl K a) H
  | .tup _ => R (Itt K a) H
  | _ => False
theorem m_kISq'_l (K : PySem.W.Frag) (a : Addr) (H : Hp) (R : It → Hp → Prop) (xs : List V) : kISq' K a H R (.lst xs) = R (Itl K a) H := rfl
def kISq (K : PySem.W.Frag) (R : It → Hp → Prop) : VK := fun x H => match x with
  | .ref a => optK (H a) (kISq' K a H R)
  | _ => False
theorem m_kISq (K : PySem.W.Frag) (R : It → Hp → Prop) (a : Addr) (H : Hp) : kISq K R (.ref a) H = optK (H a) (kISq' K a H R) := rfl
def iSeq (K : PySem.W.Frag) (tl : TE) : TI := fun σ H R => tl σ H (kISq K R)
theorem m_iSeq (K : PySem.W.Frag) (tl : TE) (σ : St) (H : Hp) (R : It → Hp → Prop) : iSeq K tl σ H R = tl σ H (kISq K R) := rfl
theorem pi_seq {tg l : Expr} {tl : TE} (hl : PE X l tl) : PI X tg l (iSeq X.K tl) := by
  intro pins s σ H R I h
  refine thn (hl pins s σ H _ I h) fun v s1 ⟨x, H1, I1, r1, q1⟩ => ?_
  unfold kISq at q1
  split at q1
  · rename_i a
    cases r1
    obtain ⟨o, e, q⟩ := optK_ex q1
    have fp : ∀ b ∈ [s1.heap.objs.size], FpOk X pins H1 b := fun b hb => by
      have e : b = s1.heap.objs.size := by simpa using hb
      subst e
      exact I1.fpOk (Nat.le_refl _) (I1.hok.fresh (Nat.le_refl _))
    have lst : ∀ xs, SqL X.K H1 a xs → R (Itl X.K a) H1 → wpAny (model X.prog X.w) X.A (pyIter (.ref a)) (PIE X pins σ tg R) X.xe s1 := fun xs hq q => by
      obtain ⟨its, rv, p, hz⟩ := I1.list hq
      refine wpAny_pyIter_list p.isList ?_
      exact ⟨s1.heap.objs.size, [s1.heap.objs.size], _, _, H1, rfl, I1.kept (t' := s1.toks) fun b o e => Heap.get?_push_of_some _ e, turn_list a _, ⟨_, Heap.get?_push_size _ rfl, rfl, rfl⟩, fp, q⟩
    unfold kISq' at q
    split at q
    · exact lst _ (SqL.of e) q
    · exact lst _ (.inl (.inr ⟨_, e⟩)) q
    · obtain ⟨its, rv, p, hz⟩ := I1.tuple (SqT.of e)
      refine wpAny_pyIter_tuple (show s1.heap.IsTuple a its.toArray from p) ?_
      exact ⟨s1.heap.objs.size, [s1.heap.objs.size], _, _, H1, rfl, I1.kept (t' := s1.toks) fun b o e => Heap.get?_push_of_some _ e, turn_tuple a _, ⟨_, Heap.get?_push_size _ rfl, rfl, rfl⟩, fp, q⟩
    · exact q.elim
  · exact q1.elim
theorem for_rng {lo : Int} {n : Nat} {g : TG} {tb : TS} {nx : St → Hp → Prop} {rt : VK} {bk ct : St → Hp → Prop} {σ : St} {H : Hp} (Pv : Nat → St → Hp → Prop) (h0 : Pv 0 σ H)
    (hs : ∀ i σ H, i < n → Pv i σ H → g (.int (lo + i)) σ H (kBody tb ⟨Pv (i + 1), rt, nx, Pv (i + 1)⟩)) (hd : ∀ σ H, Pv n σ H → nx σ H) : kFor g tb ⟨nx, rt, bk, ct⟩ σ (Itr lo n) H := for_range Pv h0 hs hd
theorem for_lst {K : PySem.W.Frag} {a : Addr} {xs : List V} {g : TG} {tb : TS} {nx : St → Hp → Prop} {rt : VK} {bk ct : St → Hp → Prop} {σ : St} {H : Hp} (Pv : Nat → St → Hp → Prop) (h0 : Pv 0 σ H) (hl : ∀ i σ H, i ≤ xs.length → Pv i σ H → H a = some (.lst xs))
    (hs : ∀ i x σ H, xs[i]? = some x → Pv i σ H → g x σ H (kBody tb ⟨Pv (i + 1), rt, nx, Pv (i + 1)⟩)) (hd : ∀ σ H, Pv xs.length σ H → nx σ H) : kFor g tb ⟨nx, rt, bk, ct⟩ σ (Itl K a) H := for_list (xs := xs) Pv h0 (fun i σ H hi p => SqL.of (hl i σ H hi p)) hs hd
def kWh (tb : TS) (nx : St → Hp → Prop) (rt : VK) (Pv : Nat → St → Hp → Prop) (m : Nat) (σ : St) : Bool → Hp → Prop := fun b H => if b = true then tb ⟨fun σ' H' => ∃ m', m' < m ∧ Pv m' σ' H', rt, nx, fun σ' H' => ∃ m', m' < m ∧ Pv m' σ' H'⟩ σ H else nx σ H
theorem m_kWh (tb : TS) (nx : St → Hp → Prop) (rt : VK) (Pv : Nat → St → Hp → Prop) (m : Nat) (σ : St) (b : Bool) (H : Hp) : kWh tb nx rt Pv m σ b H = (if b = true then tb ⟨fun σ' H' => ∃ m', m' < m ∧ Pv m' σ' H', rt, nx, fun σ' H' => ∃ m', m' < m ∧ Pv m' σ' H'⟩ σ H else nx σ H) := rfl
theorem while_m {c : TT} {tb : TS} {nx : St → Hp → Prop} {rt : VK} {bk ct : St → Hp → Prop} {σ : St} {H : Hp} (Pv : Nat → St → Hp → Prop) (m0 : Nat) (h0 : Pv m0 σ H)
    (mono : ∀ σ H Q Q', (∀ b H1, Q b H1 → Q' b H1) → c σ H Q → c σ H Q')
    (hs : ∀ m σ H, Pv m σ H → c σ H (kWh tb nx rt Pv m σ)) : tWhile c tb ⟨nx, rt, bk, ct⟩ σ H := by
  refine ⟨Pv, ⟨m0, h0⟩, fun m σ H p => mono σ H _ _ (fun b H1 q => ?_) (hs m σ H p)⟩
  unfold kWh at q
  cases b with
  | true => exact ⟨_, fun σ' H' z => z, q⟩
  | false => exact q
end
end L2
set_option Elab.async false
set_option linter.all false
set_option maxRecDepth 100000
set_option maxHeartbeats 4000000
namespace L2
open PySem PySem.Spec PyProof.Rows
def kE4 (H : Hp) (Q : VK) : Bool → Prop := fun b => Q (.bl b) H
theorem m_kE4 (H : Hp) (Q : VK) (b : Bool) : kE4 H Q b = Q (.bl b) H := rfl
def kC3 (D : Addr) (ys : List V) (N : List V → Hp → Prop) : VK := fun y H => H D = some (.lst ys) ∧ ys.length < sizeLine ∧ N (ys ++ [y]) (upd H D (.lst (ys ++ [y])))
def kC2 (te : TE) (σ2 : St) (D : Addr) (ys : List V) (N : List V → Hp → Prop) : Bool → Hp → Prop := fun b H => if b = true then te σ2 H (kC3 D ys N) else N ys H
def kC1 (k : Nat) (tt : TT) (te : TE) (σ : St) (D : Addr) (ys : List V) (N : List V → Hp → Prop) : St → Hp → Prop := fun σ2 H => (∃ vs : St, vs.length = k ∧ σ2 = vs ++ σ) ∧ tt σ2 H (kC2 te σ2 D ys N)
theorem m_tYes (σ : St) (H : Hp) (Q : Bool → Hp → Prop) : tYes σ H Q = Q true H := rfl
def kComp (k : Nat) (g : TG) (tt : TT) (te : TE) (σ : St) (Q : VK) : It → Hp → Prop := fun J H1 => ∀ D, H1 D = none → ∃ W : Nat → Nat → List V → Hp → Prop, (∃ m, W 0 m [] (upd H1 D (.lst []))) ∧ ∀ i m ys H, W i m ys H →
  (J.stop i H ∧ Q (.ref D) H) ∨ (J.go i H ∧ ∃ N : List V → Hp → Prop, (∀ ys' H', N ys' H' → ∃ m', m' < m ∧ W (i + 1) m' ys' H') ∧
    ∀ x H', J.yld i H x H' → g x (List.replicate k none ++ σ) H' (kC1 k tt te σ D ys N))
theorem m_tComp (k : Nat) (wi : TI) (g : TG) (tt : TT) (te : TE) (σ : St) (H : Hp) (Q : VK) : tComp k wi g tt te σ H Q = wi σ H (kComp k g tt te σ Q) := rfl
def kSetC (i : Nat) (σ : St) (nx : St → Hp → Prop) : VK := fun x H => gName i x σ H nx
theorem m_kSetC (i : Nat) (σ : St) (nx : St → Hp → Prop) (x : V) (H : Hp) : kSetC i σ nx x H = gName i x σ H nx := rfl
theorem m_tSetC (i : Nat) (te : TE) (nx : St → Hp → Prop) (rt : VK) (bk ct : St → Hp → Prop) (σ : St) (H : Hp) : tSetC i te ⟨nx, rt, bk, ct⟩ σ H = te σ H (kSetC i σ nx) := rfl
section
variable {k : Nat} {g : TG} {tt : TT} {te : TE} {σ : St} {Q : VK} {H : Hp} {K : PySem.W.Frag}
end
def allSome {α : Type} : List (Option α) → Option (List α)
  | [] => some []
  | o :: r => o.bind fun x => (allSome r).map fun xs => x :: xs
def datO (f : V → Option PyData) : HO → Option PyData
  | .lst xs => (allSome (xs.map f)).map .list
  | .tup xs => (allSome (xs.map f)).map .tuple
  | _ => none
def datF (H : Hp) (f : V → Option PyData) : V → Option PyData
  | .non => some .none
  | .bl b => some (.bool b)
  | .int i => some (.int i)
  | .str z => if PyData.strOk z = true then some (.str z) else none
  | .ref p => (H p).bind (datO f)
  | _ => none
def datV (H : Hp) : Nat → V → Option PyData
  | 0, _ => none
  | n + 1, x => datF H (datV H n) x
def noD : V → Option PyData := fun _ => none
theorem m_datV (H : Hp) (x : V) : datV H 6 x = datF H (datF H (datF H (datF H (datF H (datF H noD))))) x := rfl
theorem m_datV_str (H : Hp) (n : Nat) (z : Str) : datV H (n + 1) (.str z) = if PyData.strOk z = true then some (.str z) else none := rfl
theorem m_datV_ref (H : Hp) (n : Nat) (p : Addr) : datV H (n + 1) (.ref p) = (H p).bind (datO (datV H n)) := rfl
theorem m_datF_ref (H : Hp) (f : V → Option PyData) (p : Addr) : datF H f (.ref p) = (H p).bind (datO f) := rfl
theorem m_datO_lst (f : V → Option PyData) (xs : List V) : datO f (.lst xs) = (allSome (xs.map f)).map .list := rfl
theorem m_datO_tup (f : V → Option PyData) (xs : List V) : datO f (.tup xs) = (allSome (xs.map f)).map .tuple := rfl
theorem m_allSome_nil {α : Type} : allSome ([] : List (Option α)) = some [] := rfl
theorem m_allSome_cons {α : Type} (x : α) (r : List (Option α)) : allSome (some x :: r) = (allSome r).map fun xs => x :: xs := rfl
theorem allSome_ints (H : Hp) (f : V → Option PyData) : ∀ ns : List Int, allSome ((ns.map V.int).map (datF H f)) = some (ns.map PyData.int)
  | [] => rfl
  | i :: r => by
    show (allSome ((r.map V.int).map (datF H f))).map _ = _
    rw [allSome_ints H f r]; rfl
theorem datVs_ok {K : PySem.W.Frag} {H : Hp} {n : Nat} (ih : ∀ x d, datV H n x = some d → DatV K H x d ∧ d.canLay0 = true ∧ d.depth ≤ n) : ∀ (xs : List V) (ds : List PyData), allSome (xs.map (datV H n)) = some ds → DatVs K H xs ds ∧ PyData.canLayAll0 ds = true ∧ PyData.depthAll ds ≤ n
  | [], ds, h => by cases h; exact ⟨.nil, rfl, Nat.zero_le _⟩
  | x :: xs, ds, h => by
    have h' : (datV H n x).bind (fun d => (allSome (xs.map (datV H n))).map fun ds => d :: ds) = some ds := h
    cases e : datV H n x with
    | none => rw [e] at h'; cases h'
    | some d =>
      rw [e] at h'
      have h2 : (allSome (xs.map (datV H n))).map (fun ds => d :: ds) = some ds := h'
      cases e2 : allSome (xs.map (datV H n)) with
      | none => rw [e2] at h2; cases h2
      | some es =>
        rw [e2] at h2
        cases h2
        obtain ⟨a, b, c⟩ := ih x d e
        obtain ⟨a', b', c'⟩ := datVs_ok ih xs es e2
        exact ⟨.cons a a', by simp [PyData.canLayAll0, b, b'], by simp only [PyData.depthAll]; omega⟩
theorem datV_ok {K : PySem.W.Frag} {H : Hp} : ∀ (n : Nat) (x : V) (d : PyData), datV H n x = some d → DatV K H x d ∧ d.canLay0 = true ∧ d.depth ≤ n
  | 0, x, d, h => by cases h
  | n + 1, x, d, h => by
    cases x with
    | non => cases h; exact ⟨.non, rfl, Nat.zero_le _⟩
    | bl b => cases h; exact ⟨.bl b, rfl, Nat.zero_le _⟩
    | int i => cases h; exact ⟨.int i, rfl, Nat.zero_le _⟩
    | str z =>
      rw [m_datV_str] at h
      split at h
      · rename_i hz; cases h; exact ⟨.str z, by simpa [PyData.canLay0] using hz, Nat.zero_le _⟩
      · cases h
    | ref p =>
      rw [m_datV_ref] at h
      cases e : H p with
      | none => rw [e] at h; cases h
      | some o =>
        rw [e] at h
        have h' : datO (datV H n) o = some d := h
        cases o with
        | lst xs =>
          rw [m_datO_lst] at h'
          cases e2 : allSome (xs.map (datV H n)) with
          | none => rw [e2] at h'; cases h'
          | some ds =>
            rw [e2] at h'; cases h'
            obtain ⟨a, b, c⟩ := datVs_ok (K := K) (datV_ok n) xs ds e2
            exact ⟨.lst (SqL.of e) a, by simpa [PyData.canLay0] using b, by simp only [PyData.depth]; omega⟩
        | tup xs =>
          rw [m_datO_tup] at h'
          cases e2 : allSome (xs.map (datV H n)) with
          | none => rw [e2] at h'; cases h'
          | some ds =>
            rw [e2] at h'; cases h'
            obtain ⟨a, b, c⟩ := datVs_ok (K := K) (datV_ok n) xs ds e2
            exact ⟨.tup (SqT.of e) a, by simpa [PyData.canLay0] using b, by simp only [PyData.depth]; omega⟩
        | _ => cases h'
    | _ => cases h
theorem datV_shaped {K : PySem.W.Frag} {H : Hp} {n : Nat} {x : V} {d : PyData} (hn : n ≤ 64) (h : datV H n x = some d) : DatV K H x d ∧ SeqAt.shaped d = true := by
  obtain ⟨a, b, c⟩ := datV_ok (K := K) n x d h
  refine ⟨a, ?_⟩
  unfold SeqAt.shaped
  rw [b, decide_eq_true (show d.depth ≤ 64 by omega)]
  rfl
def kEq2 (neg : Bool) (H : Hp) (Q : VK) (d : PyData) : PyData → Prop := fun e => Q (.bl (if neg = true then !PyData.eqv d e else PyData.eqv d e)) H
theorem m_kEq2_f (H : Hp) (Q : VK) (d e : PyData) : kEq2 false H Q d e = Q (.bl (PyData.eqv d e)) H := rfl
def kEq1 (neg : Bool) (y : V) (H : Hp) (Q : VK) : PyData → Prop := fun d => optK (datV H 6 y) (kEq2 neg H Q d)
theorem m_kEq1 (neg : Bool) (y : V) (H : Hp) (Q : VK) (d : PyData) : kEq1 neg y H Q d = optK (datV H 6 y) (kEq2 neg H Q d) := rfl
def qEq (neg : Bool) : R2 := fun x y H Q => if scal x y = true then Q (.bl (if neg = true then !decide (x = y) else decide (x = y))) H else optK (datV H 6 x) (kEq1 neg y H Q)
theorem m_qEq_refr (neg : Bool) (p : Addr) (x : V) (H : Hp) (Q : VK) : qEq neg x (.ref p) H Q = optK (datV H 6 x) (kEq1 neg (.ref p) H Q) := by
  show (if scal x (.ref p) = true then _ else _) = _
  rw [if_neg (by cases x <;> simp [scal])]
theorem m_qEq_int_int (i : Int) (j : Int) (H : Hp) (Q : VK) : qEq false (V.int i) (V.int j) H Q = Q (.bl (decide (i = j))) H := by
  have e : decide (((V.int i) : V) = (V.int j)) = decide (i = j) := by simp
  show Q (.bl (if false = true then !decide ((V.int i) = (V.int j)) else decide ((V.int i) = (V.int j)))) H = _
  rw [e]; rfl
theorem m_qNe_int_int (i : Int) (j : Int) (H : Hp) (Q : VK) : qEq true (V.int i) (V.int j) H Q = Q (.bl (!decide (i = j))) H := by
  have e : decide (((V.int i) : V) = (V.int j)) = decide (i = j) := by simp
  show Q (.bl (if true = true then !decide ((V.int i) = (V.int j)) else decide ((V.int i) = (V.int j)))) H = _
  rw [e]; rfl
theorem m_qNe_bl_bl (i : Bool) (j : Bool) (H : Hp) (Q : VK) : qEq true (V.bl i) (V.bl j) H Q = Q (.bl (!decide (i = j))) H := by
  have e : decide (((V.bl i) : V) = (V.bl j)) = decide (i = j) := by simp
  show Q (.bl (if true = true then !decide ((V.bl i) = (V.bl j)) else decide ((V.bl i) = (V.bl j)))) H = _
  rw [e]; rfl
section
variable {X : Cx}
theorem op_qEq (hu : X.A.units + 64 < cLine) : OpR X (compareOp .Eq) (qEq false) := by
  refine (op_eq.or (op_eqD hu)).mono fun x y H Q h => ?_
  unfold qEq at h
  split at h
  · rename_i hs; exact .inl ⟨hs, h⟩
  obtain ⟨d, e1, h⟩ := optK_ex h
  obtain ⟨e, e2, h⟩ := optK_ex h
  obtain ⟨a, b⟩ := datV_shaped (K := X.K) (by decide) e1
  obtain ⟨a', b'⟩ := datV_shaped (K := X.K) (by decide) e2
  exact .inr ⟨d, e, a, a', b, b', h⟩
theorem op_qNe (hu : X.A.units + 64 < cLine) : OpR X (compareOp .NotEq) (qEq true) := by
  refine (op_ne.or (op_neD hu)).mono fun x y H Q h => ?_
  unfold qEq at h
  split at h
  · rename_i hs; exact .inl ⟨hs, h⟩
  obtain ⟨d, e1, h⟩ := optK_ex h
  obtain ⟨e, e2, h⟩ := optK_ex h
  obtain ⟨a, b⟩ := datV_shaped (K := X.K) (by decide) e1
  obtain ⟨a', b'⟩ := datV_shaped (K := X.K) (by decide) e2
  exact .inr ⟨d, e, a, a', b, b', h⟩
end
theorem eqv_int (i j : Int) : PyData.eqv (.int i) (.int j) = decide (i = j) := Bool.beq_eq_decide_eq i j
theorem eqv_tuple (xs ys : List PyData) : PyData.eqv (.tuple xs) (.tuple ys) = PyData.eqvAll xs ys := by simp only [PyData.eqv]
theorem eqv_list (xs ys : List PyData) : PyData.eqv (.list xs) (.list ys) = PyData.eqvAll xs ys := by simp only [PyData.eqv]
theorem eqvAll_nil : PyData.eqvAll [] [] = true := by simp only [PyData.eqvAll]
theorem eqvAll_cons (x y : PyData) (xs ys : List PyData) : PyData.eqvAll (x :: xs) (y :: ys) = (PyData.eqv x y && PyData.eqvAll xs ys) := by simp only [PyData.eqvAll]
theorem eqvAll_l (x : PyData) (xs : List PyData) : PyData.eqvAll (x :: xs) [] = false := by simp only [PyData.eqvAll]
theorem eqvAll_r (x : PyData) (xs : List PyData) : PyData.eqvAll [] (x :: xs) = false := by simp only [PyData.eqvAll]
theorem eqvAll_ints : ∀ ns ms : List Int, PyData.eqvAll (ns.map PyData.int) (ms.map PyData.int) = decide (ns = ms)
  | [], [] => by rw [List.map_nil, eqvAll_nil]; rfl
  | [], _ :: _ => by rw [List.map_nil, List.map_cons, eqvAll_r]; rfl
  | _ :: _, [] => by rw [List.map_nil, List.map_cons, eqvAll_l]; rfl
  | i :: r, j :: t => by
    rw [List.map_cons, List.map_cons, eqvAll_cons, eqv_int, eqvAll_ints r t]
    by_cases h : i = j <;> by_cases h2 : r = t <;> simp [h, h2]
end L2
set_option Elab.async false
set_option linter.all false
set_option maxRecDepth 100000
set_option maxHeartbeats 4000000
namespace L2
open PySem PySem.Spec PyProof.Rows
theorem CDiv_eq (i j : Int) : CDiv i j = (0 < j ∧ j < 1073741824) := rfl
theorem CMul_l (i j : Int) (h : -18446744073709551616 < i) (h' : i < 18446744073709551616) : CMul i j = True := eq_true (.inl ⟨by omega, by omega⟩)
theorem CPow_10 (j : Int) : CPow 10 j = (0 ≤ j ∧ j ≤ 1000000) := propext ⟨fun h => ⟨h.1, h.2.1⟩, fun h => ⟨h.1, h.2, by decide⟩⟩
theorem lenLe (n : Nat) (h : n ≤ 1000) : (n ≤ sizeLine) = True := eq_true (Nat.le_of_lt (small1000 h))
theorem Ext.of {H H' : Hp} (h : ∀ a, (H a).isSome = true → H' a = H a) : Ext H H' := ⟨h, fun K a xs q => by
  have s : Same H H' := fun b o e => (h b (by rw [e]; rfl)).trans e
  exact s.seq q⟩
theorem Ext.same {H H' : Hp} (h : Ext H H') : Same H H' := fun b o e => (h.1 b (by rw [e]; rfl)).trans e
theorem Same.ext {H H' : Hp} (h : Same H H') : Ext H H' := Ext.of fun a q => by
  cases e : H a with
  | none => rw [e] at q; cases q
  | some o => exact h a o e
theorem Ext.refl (H : Hp) : Ext H H := (Same.refl H).ext
theorem Ext.trans {H H1 H2 : Hp} (a : Ext H H1) (b : Ext H1 H2) : Ext H H2 := (a.same.trans b.same).ext
theorem Ext.new {H : Hp} {p : Addr} {o : HO} (h : H p = none) : Ext H (upd H p o) := (same_upd h).ext
theorem Ext.put {H H1 : Hp} {p : Addr} {o : HO} (a : Ext H H1) (h : H p = none) : Ext H (upd H1 p o) := Same.ext fun b u e => by
  rw [upd_ne (ne_of_none e h)]; exact a.same b u e
theorem Ext.free {H H1 : Hp} {p : Addr} (a : Ext H H1) (h : H1 p = none) : H p = none := a.same.free h
theorem Ext.at {H H1 : Hp} {p : Addr} {o : HO} (a : Ext H H1) (h : H p = some o) : H1 p = some o := a.same _ _ h
theorem optK_at {xs : List V} {i : Int} {k : V → Prop} (h0 : 0 ≤ i) (h1 : i < xs.length) (h : ∀ v ∈ xs, k v) : optK (atI xs i) k := by
  obtain ⟨v, e, m⟩ := atI_lt xs i h0 h1
  rw [e]; exact h v m
theorem cx_K (CX : CXT) (P : Program) (w : World) (K : PySem.W.Frag) (mg : Str → Option Value) (base : Heap) (N : List Str) (qual : Str) (scope : Scope) (f : Addr) (cd : Value) (A : Around) (outer : List Env) (s : Shared) (H : Hp) (E : XK) : (cxOf CX P w K mg base N qual scope f cd A outer s H E).K = K := rfl
def isW (H : Hp) : V → Option Bool
  | .int _ => some true
  | .bl _ => some false
  | .non => some false
  | .str _ => some false
  | .ref p => ((H p).bind tyO).map fun _ => false
  | _ => none
theorem isW_int' (H : Hp) (i : Int) : isW H (.int i) = some true := rfl
theorem isW_ref' (H : Hp) (p : Addr) : isW H (.ref p) = ((H p).bind tyO).map fun _ => false := rfl
theorem isW_obj {H : Hp} {p : Addr} {b : Bool} (h : isW H (.ref p) = some b) : b = false ∧ ∃ o, H p = some o ∧ (tyO o = some "list" ∨ tyO o = some "tuple" ∨ tyO o = some "dict") := by
  rw [isW_ref'] at h
  cases e : H p with
  | none => rw [e] at h; cases h
  | some o =>
    rw [e] at h
    have h' : (tyO o).map (fun _ => false) = some b := h
    cases e2 : tyO o with
    | none => rw [e2] at h'; cases h'
    | some t =>
      rw [e2] at h'; cases h'
      refine ⟨rfl, o, rfl, ?_⟩
      cases o with
      | lst xs => exact .inl rfl
      | tup xs => exact .inr (.inl rfl)
      | dK xs => exact .inr (.inr rfl)
      | dT xs => exact .inr (.inr rfl)
      | frz ob u => cases u with
        | lst xs => exact .inl rfl
        | _ => cases e2
      | _ => cases e2
end L2
set_option Elab.async false
set_option linter.all false
set_option maxRecDepth 100000
set_option maxHeartbeats 4000000
namespace L2
open PySem PySem.Spec PyProof.Rows
def ME (t : TE) : Prop := ∀ σ H (Q Q' : VK), (∀ v H, Q v H → Q' v H) → t σ H Q → t σ H Q'
def MT (t : TT) : Prop := ∀ σ H (Q Q' : Bool → Hp → Prop), (∀ b H, Q b H → Q' b H) → t σ H Q → t σ H Q'
def MR (r : R2) : Prop := ∀ x y H (Q Q' : VK), (∀ v H, Q v H → Q' v H) → r x y H Q → r x y H Q'
theorem optK_mono {α : Type} {o : Option α} {k k' : α → Prop} (m : ∀ x, k x → k' x) (h : optK o k) : optK o k' := by
  obtain ⟨x, e, q⟩ := optK_ex h
  rw [e]; exact m x q
theorem mo_var {i : Nat} : ME (tVar i) := fun σ H Q Q' m ⟨v, e, q⟩ => ⟨v, e, m _ _ q⟩
theorem mo_c {v : V} : ME (tC v) := fun σ H Q Q' m q => m _ _ q
theorem mo_op {r : R2} {a b : TE} (hr : MR r) (ha : ME a) (hb : ME b) : ME (tOp r a b) := fun σ H Q Q' m q => ha σ H _ _ (fun _ _ q => hb σ _ _ _ (fun _ _ q => hr _ _ _ _ _ m q) q) q
theorem mo_rI0 {g : Int → Int → V} : MR (rI0 g) := fun x y H Q Q' m ⟨i, j, e, e', q⟩ => ⟨i, j, e, e', m _ _ q⟩
theorem mo_qEq {n : Bool} : MR (qEq n) := fun x y H Q Q' m q => by
  unfold qEq at q ⊢
  by_cases hs : scal x y = true
  · rw [if_pos hs] at q ⊢; exact m _ _ q
  · rw [if_neg hs] at q ⊢; exact optK_mono (fun _ q => optK_mono (fun _ q => m _ _ q) q) q
theorem mo_test {t : TE} (h : ME t) : MT (tTest t) := fun σ H Q Q' m q => h σ H _ _ (fun _ _ ⟨k, e, q⟩ => ⟨k, e, m _ _ q⟩) q
theorem while_w {c : TT} {tb : TS} {nx : St → Hp → Prop} {rt : VK} {bk ct : St → Hp → Prop} {σ : St} {H : Hp} (mono : MT c) (Pv : Nat → St → Hp → Prop) (m0 : Nat) (h0 : Pv m0 σ H)
    (hs : ∀ m σ H, Pv m σ H → c σ H (kWh tb nx rt Pv m σ)) : tWhile c tb ⟨nx, rt, bk, ct⟩ σ H := while_m Pv m0 h0 (fun σ H Q Q' => mono σ H Q Q') hs
theorem ints_inj : ∀ {ns ms : List Int}, ns.map V.int = ms.map V.int → ns = ms
  | [], [], _ => rfl
  | [], _ :: _, h => by cases h
  | _ :: _, [], h => by cases h
  | i :: r, j :: t, h => by
    simp only [List.map_cons, List.cons.injEq, V.int.injEq] at h
    rw [h.1, ints_inj h.2]
def kInts (F : List Int → Prop) : List V → Prop := fun xs => ∃ ns, xs = ns.map V.int ∧ F ns
theorem m_kInts (F : List Int → Prop) (ns : List Int) : kInts F (ns.map V.int) = F ns := propext ⟨fun ⟨ms, e, h⟩ => by rw [ints_inj e]; exact h, fun h => ⟨ns, rfl, h⟩⟩
theorem optK_ints {xs : List V} {i : Int} {k : V → Prop} (P : Int → Prop) (h0 : 0 ≤ i) (h1 : i < xs.length) (hx : ∀ v ∈ xs, ∃ j, v = .int j ∧ P j) (h : ∀ j, P j → k (.int j)) : optK (atI xs i) k := optK_at h0 h1 fun v hv => by
  obtain ⟨j, rfl, hj⟩ := hx v hv
  exact h j hj
theorem cut_none (xs : List V) (z : Int) (h : 0 ≤ z) : cutV xs none (some z) = xs.take z.toNat := by
  unfold cutV
  rw [HT.sIx_none, List.drop_zero, Nat.sub_zero]
  obtain ⟨n, rfl⟩ := Int.eq_ofNat_of_zero_le h
  rw [HT.sIx_nat]
  show _ = xs.take n
  rcases Nat.le_total n xs.length with q | q
  · rw [Nat.min_eq_left q]
  · rw [Nat.min_eq_right q, List.take_of_length_le (Nat.le_refl _), List.take_of_length_le q]
def kSlN (lo hi : Option Int) (H : Hp) (Q : VK) : List V → Prop := fun xs => ∀ p, H p = none → Q (.ref p) (upd H p (.lst (cutV xs lo hi)))
def qSlL : V → Option Int → Option Int → Hp → VK → Prop := fun x lo hi H Q => match x with
  | .ref a => optK (lstAt H a) (kSlN lo hi H Q)
  | _ => False
theorem sl_q {X : Cx} : SlR X qSlL := sl_list.mono fun x lo hi H Q h => by
  unfold qSlL at h
  split at h
  · rename_i a
    obtain ⟨xs, e, q⟩ := optK_ex h
    exact ⟨a, xs, rfl, SqL.of (lst_of e), q⟩
  · exact h.elim
def kSl3 (r : V → Option Int → Option Int → Hp → VK → Prop) (x : V) (l : Option Int) (Q : VK) : Option Int → Hp → Prop := fun u H => r x l u H Q
theorem m_kSl3 (r : V → Option Int → Option Int → Hp → VK → Prop) (x : V) (l : Option Int) (Q : VK) (u : Option Int) (H : Hp) : kSl3 r x l Q u H = r x l u H Q := rfl
def kSl2 (r : V → Option Int → Option Int → Hp → VK → Prop) (th : TO) (σ : St) (x : V) (Q : VK) : Option Int → Hp → Prop := fun l H => th σ H (kSl3 r x l Q)
theorem m_kSl2 (r : V → Option Int → Option Int → Hp → VK → Prop) (th : TO) (σ : St) (x : V) (Q : VK) (l : Option Int) (H : Hp) : kSl2 r th σ x Q l H = th σ H (kSl3 r x l Q) := rfl
def kSl1 (r : V → Option Int → Option Int → Hp → VK → Prop) (tl th : TO) (σ : St) (Q : VK) : VK := fun x H => tl σ H (kSl2 r th σ x Q)
theorem m_kSl1 (r : V → Option Int → Option Int → Hp → VK → Prop) (tl th : TO) (σ : St) (Q : VK) (x : V) (H : Hp) : kSl1 r tl th σ Q x H = tl σ H (kSl2 r th σ x Q) := rfl
theorem m_tSl (r : V → Option Int → Option Int → Hp → VK → Prop) (te : TE) (tl th : TO) (σ : St) (H : Hp) (Q : VK) : tSl r te tl th σ H Q = te σ H (kSl1 r tl th σ Q) := rfl
theorem m_tNoPart (σ : St) (H : Hp) (Q : Option Int → Hp → Prop) : tNoPart σ H Q = Q none H := rfl
def kPart (Q : Option Int → Hp → Prop) : VK := fun x H => ∃ i, x = .int i ∧ Q (some i) H
theorem m_kPart (Q : Option Int → Hp → Prop) (i : Int) (H : Hp) : kPart Q (.int i) H = Q (some i) H := propext ⟨fun ⟨_, e, q⟩ => by cases e; exact q, fun q => ⟨i, rfl, q⟩⟩
theorem m_tPart (t : TE) (σ : St) (H : Hp) (Q : Option Int → Hp → Prop) : tPart t σ H Q = t σ H (kPart Q) := rfl
end L2
set_option Elab.async false
set_option linter.all false
set_option maxRecDepth 100000
set_option maxHeartbeats 4000000
namespace L2
open PySem PySem.Spec PyProof.Rows
def newK (o : HO) (H : Hp) (Q : VK) : Prop := ∀ (p : Addr) (H' : Hp), H p = none → Ext H H' → H' p = some o → Q (.ref p) H'
theorem m_newK (o : HO) (H : Hp) (Q : VK) : newK o H Q = ∀ (p : Addr) (H' : Hp), H p = none → Ext H H' → H' p = some o → Q (.ref p) H' := rfl
theorem newK.to {o : HO} {H : Hp} {Q : VK} (h : newK o H Q) : ∀ p, H p = none → Q (.ref p) (upd H p o) := fun p hp => h p _ hp (Ext.new hp) upd_same
def kQT (Q : VK) : List V → Hp → Prop := fun xs H => xs.length ≤ sizeLine ∧ newK (.tup xs) H Q
theorem m_kQT (Q : VK) (xs : List V) (H : Hp) : kQT Q xs H = (xs.length ≤ sizeLine ∧ newK (.tup xs) H Q) := rfl
def kQL (Q : VK) : List V → Hp → Prop := fun xs H => xs.length ≤ sizeLine ∧ newK (.lst xs) H Q
theorem m_kQL (Q : VK) (xs : List V) (H : Hp) : kQL Q xs H = (xs.length ≤ sizeLine ∧ newK (.lst xs) H Q) := rfl
def qTup (t : TA) : TE := fun σ H Q => t σ H (kQT Q)
theorem m_qTup (t : TA) (σ : St) (H : Hp) (Q : VK) : qTup t σ H Q = t σ H (kQT Q) := rfl
def qLst (t : TA) : TE := fun σ H Q => t σ H (kQL Q)
theorem m_qLst (t : TA) (σ : St) (H : Hp) (Q : VK) : qLst t σ H Q = t σ H (kQL Q) := rfl
section
variable {X : Cx} {es : List Expr} {t : TA} {pos : Pos}
theorem pe_qTup {x1} (h : PA X es t) : PE X (.Tuple es x1 pos) (qTup t) := by
  intro pins s σ H Q I hq
  refine wpAny_Tuple_spliced (thn (h pos pins s σ H _ I hq) fun us s1 ⟨xs, H1, I1, r, z, q⟩ => ⟨by rw [← r.length]; exact z, ?_⟩)
  have hf : H1 s1.heap.objs.size = none := I1.hok.fresh (Nat.le_refl _)
  refine ⟨.ref s1.heap.objs.size, upd H1 s1.heap.objs.size (.tup xs), I1.laid (t' := s1.toks) (fun b u e => Heap.get?_push_of_some _ e) (Nat.le_refl _) ?_, rfl, q.to _ hf⟩
  exact ⟨z, us, r, ⟨_, Heap.get?_push_size _ rfl, rfl, _, rfl⟩⟩
theorem pe_qLst (h : PA X es t) : PE X (.List es pos) (qLst t) := by
  intro pins s σ H Q I hq
  refine wpAny_List_spliced (thn (h pos pins s σ H _ I hq) fun us s1 ⟨xs, H1, I1, r, z, q⟩ => ⟨by rw [← r.length]; exact z, ?_⟩)
  have hf : H1 s1.heap.objs.size = none := I1.hok.fresh (Nat.le_refl _)
  refine ⟨.ref s1.heap.objs.size, upd H1 s1.heap.objs.size (.lst xs), I1.laid (t' := s1.toks) (fun b u e => Heap.get?_push_of_some _ e) (Nat.le_refl _) ?_, rfl, q.to _ hf⟩
  exact ⟨z, us, 0, r, Heap.get?_push_size _ rfl⟩
end
def kN (f : List V → HO) (H : Hp) (Q : VK) : List V → Prop := fun ys => newK (f ys) H Q
theorem m_kN (f : List V → HO) (H : Hp) (Q : VK) (ys : List V) : kN f H Q ys = newK (f ys) H Q := rfl
def nList (xs : List V) (H : Hp) (Q : VK) : Prop := match xs with
  | [.ref p] => optK (itemsAt H p) (kN .lst H Q)
  | _ => False
theorem m_nList (p : Addr) (H : Hp) (Q : VK) : nList [.ref p] H Q = optK (itemsAt H p) (kN .lst H Q) := rfl
theorem call_nList {X : Cx} : CallR X (.type "list") nList := call_qList.mono fun xs H Q h => by
  unfold nList at h
  split at h
  · exact optK_mono (fun _ q => q.to) h
  · exact h.elim
def kNC2 (xs : List V) (H : Hp) (Q : VK) : List V → Prop := fun ys => xs.length + ys.length ≤ sizeLine ∧ newK (.lst (xs ++ ys)) H Q
theorem m_kNC2 (xs : List V) (H : Hp) (Q : VK) (ys : List V) : kNC2 xs H Q ys = (xs.length + ys.length ≤ sizeLine ∧ newK (.lst (xs ++ ys)) H Q) := rfl
def kNC1 (b : Addr) (H : Hp) (Q : VK) : List V → Prop := fun xs => optK (lstAt H b) (kNC2 xs H Q)
theorem m_kNC1 (b : Addr) (H : Hp) (Q : VK) (xs : List V) : kNC1 b H Q xs = optK (lstAt H b) (kNC2 xs H Q) := rfl
def nCat : R2 := fun x y H Q => match x, y with
  | .ref l, .ref b => optK (lstAt H l) (kNC1 b H Q)
  | _, _ => False
theorem m_nCat (l b : Addr) (H : Hp) (Q : VK) : nCat (.ref l) (.ref b) H Q = optK (lstAt H l) (kNC1 b H Q) := rfl
theorem op_nCat {X : Cx} : OpR X (binaryOp .Add) nCat := op_cat.mono fun x y H Q h => by
  unfold nCat at h
  split at h
  · rw [m_rCat]
    exact optK_mono (fun _ q => optK_mono (fun _ q => ⟨q.1, q.2.to⟩) q) h
  · exact h.elim
def kNS (lo hi : Option Int) (H : Hp) (Q : VK) : List V → Prop := fun xs => newK (.lst (cutV xs lo hi)) H Q
theorem m_kNS (lo hi : Option Int) (H : Hp) (Q : VK) (xs : List V) : kNS lo hi H Q xs = newK (.lst (cutV xs lo hi)) H Q := rfl
def nSl : V → Option Int → Option Int → Hp → VK → Prop := fun x lo hi H Q => match x with
  | .ref a => optK (lstAt H a) (kNS lo hi H Q)
  | _ => False
theorem m_nSl (a : Addr) (lo hi : Option Int) (H : Hp) (Q : VK) : nSl (.ref a) lo hi H Q = optK (lstAt H a) (kNS lo hi H Q) := rfl
theorem sl_n {X : Cx} : SlR X nSl := sl_q.mono fun x lo hi H Q h => by
  unfold nSl at h
  split at h
  · exact optK_mono (fun _ q => q.to) h
  · exact h.elim
theorem PE.mono {X : Cx} {e : Expr} {t t' : TE} (h : PE X e t) (m : ∀ σ H Q, t' σ H Q → t σ H Q) : PE X e t' := fun pins s σ H Q I q => h pins s σ H Q I (m _ _ _ q)
def nDNew : TE := fun _ H Q => newK (.dK []) H Q
theorem m_nDNew (σ : St) (H : Hp) (Q : VK) : nDNew σ H Q = newK (.dK []) H Q := rfl
theorem pe_nDNew {X : Cx} {pos : Pos} : PE X (.Dict [] [] pos) nDNew := pe_dnewK.mono fun _ _ _ h => h.to
end L2
set_option Elab.async false
set_option linter.all false
set_option maxRecDepth 100000
set_option maxHeartbeats 4000000
namespace L2
open PySem PySem.Spec PyProof.Rows
section
variable {prog : Program} {w : World} {A : Around} {E : Value → Shared → Prop} {s : Shared}
end
section
variable {X : Cx} {pos : Pos}
end
end L2
set_option Elab.async false
set_option linter.all false
set_option maxRecDepth 100000
set_option maxHeartbeats 4000000
namespace L2
open PySem PySem.Spec PyProof.Rows
section
variable {X : Cx} {tg : Expr}
end
end L2
set_option Elab.async false
set_option linter.all false
set_option maxRecDepth 100000
set_option maxHeartbeats 4000000
namespace L2
open PySem PySem.Spec PyProof.Rows
theorem preSum_ints : ∀ (n : Nat) (ns : List Int) (val : Nat → Int), (∀ i, val i = ns.getD i 0) → n ≤ ns.length → preSum val n = (ns.take n).sum
  | 0, ns, val, h, hl => by simp [preSum]
  | n + 1, ns, val, h, hl => by
    have ih := preSum_ints n ns val h (by omega)
    have e : ns.take (n + 1) = ns.take n ++ [ns.getD n 0] := by
      rw [List.take_succ, List.getElem?_eq_getElem (by omega)]
      simp [List.getD, List.getElem?_eq_getElem (show n < ns.length by omega)]
    rw [preSum, ih, e, List.sum_append, h]
    simp
def kSumI (H : Hp) (Q : VK) : List Int → Prop := fun ns => Q (.int ns.sum) H
theorem m_kSumI (H : Hp) (Q : VK) (ns : List Int) : kSumI H Q ns = Q (.int ns.sum) H := rfl
def qSum : List V → Hp → VK → Prop := fun vs H Q => match vs with
  | [.ref p] => optK (lstAt H p) (kInts (kSumI H Q))
  | _ => False
theorem m_qSum (p : Addr) (H : Hp) (Q : VK) : qSum [.ref p] H Q = optK (lstAt H p) (kInts (kSumI H Q)) := rfl
section
variable {X : Cx}
theorem call_qSum (hc : X.calm = true) : CallR X (.builtin "sum") qSum := by
  intro pins s σ H vs us Q I r h
  unfold qSum at h
  split at h
  · rename_i p
    obtain ⟨xs, e, ns, rfl, q⟩ := optK_ex h
    cases r with
    | cons r rr =>
      cases rr
      cases r
      obtain ⟨its, rv, pl, hz⟩ := I.list (SqL.of (lst_of e))
      have hlt : p < s.heap.objs.size := by obtain ⟨_, e, _⟩ := pl.isList; exact Heap.lt_size e
      have hlen : its.length = ns.length := by have := rv.length; simpa using this.symm
      refine call_sum_walkAnyS (wpAny_pyIter_list pl.isList ⟨s.heap.objs.size, _, _, _, _, _, _, fun i => ns.getD i 0, rfl, (Walks.list (show X.A.in1.handled = none from I.ok.hd hc) _ p (Nat.ne_of_lt hlt) its.toArray).toS, ⟨⟨_, Heap.get?_push_size _ rfl, rfl, rfl⟩, pl.isList.push _⟩, fun b hb => ?_, fun i v hP => ?_, fun s' t' hm => ?_⟩)
      · rw [Heap.size_push]
        rcases List.mem_cons.mp hb with rfl | hb
        · exact Nat.lt_succ_self _
        · rw [List.mem_singleton.mp hb]; exact Nat.lt_succ_of_lt hlt
      · have hv : its[i]? = some v := by simpa using hP
        have hi : i < ns.length := by rw [← hlen]; exact (List.getElem?_eq_some_iff.mp hv).1
        obtain ⟨u, hu, ru⟩ := rv.get (i := i) (x := .int (ns.getD i 0)) (by rw [List.getElem?_map, List.getElem?_eq_getElem hi]; simp [List.getD, List.getElem?_eq_getElem hi])
        rw [hv] at hu
        cases hu
        exact ru
      · obtain ⟨hp, g, d, tk, os⟩ := s'
        have kp : ∀ b o, s.heap.get? b = some o → hp.get? b = some o := fun b o e => hm.heap b o (fun hmem => by
          have : b = s.heap.objs.size := by simpa using hmem
          subst this
          exact absurd (Heap.lt_size e) (Nat.lt_irrefl _)) (Heap.get?_push_of_some _ e)
        have e1 : g = s.gens := hm.gens
        have e2 : d = s.drawn := hm.drawn
        have e3 : os = s.os := hm.os
        subst e1 e2 e3
        refine ⟨.int ns.sum, H, I.kept (t' := tk) kp, ?_, q⟩
        have es := preSum_ints its.toArray.size ns (fun i => ns.getD i 0) (fun _ => rfl) (by simp [hlen])
        rw [show its.toArray.size = ns.length by simp [hlen], List.take_length] at es
        rw [show its.toArray.size = ns.length by simp [hlen], es]
        exact ⟨t', rfl⟩
  · exact h.elim
end
end L2
set_option Elab.async false
set_option linter.all false
set_option maxRecDepth 100000
set_option maxHeartbeats 4000000
namespace L2
open PySem PySem.Spec PyProof.Rows
structure Src (prog : Program) (w : World) (it : Addr) (fr : List Addr) (st : Nat → Heap → Prop) (val : Nat → Option Value) : Prop where
  mem : it ∈ fr
  there : ∀ k h, st k h → ∀ b ∈ fr, ∃ o, h.get? b = some o
  keep : ∀ k h h', st k h → (∀ b ∈ fr, ∀ o, h.get? b = some o → h'.get? b = some o) → st k h'
  item : ∀ (A : Around) k s v (Q : Value → Shared → Prop) (E : Value → Shared → Prop), st k s.heap → val k = some v → (∀ h', st (k + 1) h' → Heap.SameBut it s.heap h' → Q v { s with heap := h' }) → wpAny (model prog w) A (Builtin.SmallTypes.nextOf (.ref it)) Q E s
  fin : ∀ (A : Around) k s (Q : Value → Shared → Prop) (E : Value → Shared → Prop), A.handled = none → st k s.heap → val k = none → (∀ h' e, Heap.ExtBut it s.heap h' → (∃ o, h'.get? e = some o ∧ o.cls = .type "StopIteration") → E (.ref e) { s with heap := h' }) → wpAny (model prog w) A (Builtin.SmallTypes.nextOf (.ref it)) Q E s
theorem src_list {prog : Program} {w : World} (it l : Addr) (hne : l ≠ it) (xs : Array Value) : Src prog w it [it, l] (fun k h => h.IsListIter it l k ∧ h.IsList l xs) (fun k => xs[k]?) where
  mem := List.mem_cons_self
  there := fun k h st b hb => by
    rcases List.mem_cons.mp hb with e | hb
    · obtain ⟨o, q, _⟩ := st.1; exact ⟨o, by rw [e]; exact q⟩
    · obtain ⟨o, q, _⟩ := st.2; exact ⟨o, by rw [List.mem_singleton.mp hb]; exact q⟩
  keep := fun k h h' st q => ⟨st.1.at fun o e => q it (by simp) o e, st.2.at fun o e => q l (by simp) o e⟩
  item := fun A k s v Q E st hv hQ => wpAny_nextOf_list_item st.1 st.2 hv fun h' a b => hQ h' ⟨a, st.2.extBut b.extBut hne⟩ b
  fin := fun A k s Q E hh st hv hE => wpAny_nextOf_list_end hh st.1 st.2 hv hE
section
variable {prog : Program} {w : World} {A : Around} {E : Value → Shared → Prop} {s : Shared}
theorem next_tup_item {j t : Addr} {k : Nat} {xs : Array Value} {v : Value} {Q : Value → Shared → Prop} (hj : s.heap.IsTupleIter j t k) (ht : s.heap.IsTuple t xs) (hv : xs[k]? = some v)
    (hQ : ∀ g, g.IsTupleIter j t (k + 1) → Heap.SameBut j s.heap g → Q v { s with heap := g }) : wpAny (model prog w) A (Builtin.SmallTypes.nextOf (.ref j)) Q E s := by
  obtain ⟨oj, h0, h1, h2⟩ := id hj
  obtain ⟨ot, g0, _, n, g1⟩ := ht
  unfold Builtin.SmallTypes.nextOf
  refine wpAny_bind (wpAny_callSpecial?_slot (name := Str.ofString "__next__") hj.typeIs F.slot_tuple_iterator_next (wpAny_call_entry F.slot_tuple_iterator_next hj.typeIs F.entry_tuple_iterator_next ?_ (F.args_tuple_iterator_next_1 _)))
  refine wpAny_bind (m := field (.ref j) 0) (wpAny_field h0 h2 (x := .ref t) rfl ?_)
  show wpAny _ _ (if (Value.ref t == Value.none) = true then _ else _) _ _ _
  rw [if_neg (show ¬ ((.ref t : Value) == .none) = true from Bool.false_ne_true)]
  refine wpAny_bind (m := field (.ref j) 1) (wpAny_field h0 h2 (x := .int k 0) rfl ?_)
  refine wpAny_bind (m := seqItems? (.ref t)) (wpAny_seqItems g0 g1 ?_)
  simp only [Int.toNat_natCast, hv]
  refine wpAny_bind (wpAny_setField h0 h2 (by simp) (wpAny_pure ⟨v, rfl, wpAny_pure (hQ _ ⟨_, Heap.get?_update_self _ h0 (Obj.isFreed_of_fields (Obj.data_mapFields h2 _)), (Obj.cls_mapFields ..).trans h1, ?_⟩ (Heap.SameBut.update ..))⟩))
  rw [Obj.data_mapFields h2]; simp [rawInt]
theorem next_tup_end {j t : Addr} {k : Nat} {xs : Array Value} {Q : Value → Shared → Prop} (hh : A.handled = none) (hj : s.heap.IsTupleIter j t k) (ht : s.heap.IsTuple t xs) (hv : xs[k]? = none)
    (hE : ∀ g e, Heap.ExtBut j s.heap g → (∃ o, g.get? e = some o ∧ o.cls = .type "StopIteration") → E (.ref e) { s with heap := g }) : wpAny (model prog w) A (Builtin.SmallTypes.nextOf (.ref j)) Q E s := by
  obtain ⟨oj, h0, h1, h2⟩ := id hj
  obtain ⟨ot, g0, _, n, g1⟩ := ht
  unfold Builtin.SmallTypes.nextOf
  refine wpAny_bind (wpAny_callSpecial?_slot (name := Str.ofString "__next__") hj.typeIs F.slot_tuple_iterator_next (wpAny_call_entry F.slot_tuple_iterator_next hj.typeIs F.entry_tuple_iterator_next ?_ (F.args_tuple_iterator_next_1 _)))
  refine wpAny_bind (m := field (.ref j) 0) (wpAny_field h0 h2 (x := .ref t) rfl ?_)
  show wpAny _ _ (if (Value.ref t == Value.none) = true then _ else _) _ _ _
  rw [if_neg (show ¬ ((.ref t : Value) == .none) = true from Bool.false_ne_true)]
  refine wpAny_bind (m := field (.ref j) 1) (wpAny_field h0 h2 (x := .int k 0) rfl ?_)
  refine wpAny_bind (m := seqItems? (.ref t)) (wpAny_seqItems g0 g1 ?_)
  simp only [Int.toNat_natCast, hv]
  refine wpAny_bind (wpAny_rule (wpAny_bind (wpAny_setField h0 h2 (by simp) (wpAny_bind (m := newExc (.type "StopIteration") []) ?_))))
  simp only [newExc, newTuple]
  refine wpAny_bind (wpAny_newObj_type (wpAny_bind (m := firstArgMember _ _) (wpAny_of_eq (a := Value.none) (by first | rfl | (simp only [firstArgMember]; rfl)) (wpAny_newObj_type ?_ (by size_fits)))) (by size_fits))
  simp only [raiseNew]
  refine wpAny_bind (wpAny_handled ?_); first | rw [show A.in1.handled = none from hh] | rw [hh]
  exact wpAny_bind (wpAny_pure (wpAny_throw (hE _ _ (((Heap.SameBut.update ..).extBut.push _).push _) ⟨_, Heap.get?_push_size _ rfl, rfl⟩)))
theorem src_tup (it l : Addr) (hne : l ≠ it) (xs : Array Value) : Src prog w it [it, l] (fun k h => h.IsTupleIter it l k ∧ h.IsTuple l xs) (fun k => xs[k]?) where
  mem := List.mem_cons_self
  there := fun k h st b hb => by
    rcases List.mem_cons.mp hb with e | hb
    · obtain ⟨o, q, _⟩ := st.1; exact ⟨o, by rw [e]; exact q⟩
    · obtain ⟨o, q, _⟩ := st.2; exact ⟨o, by rw [List.mem_singleton.mp hb]; exact q⟩
  keep := fun k h h' st q => ⟨st.1.at fun o e => q it (by simp) o e, st.2.at fun o e => q l (by simp) o e⟩
  item := fun A k s v Q E st hv hQ => next_tup_item st.1 st.2 hv fun h' a b => hQ h' ⟨a, st.2.extBut b.extBut hne⟩ b
  fin := fun A k s Q E hh st hv hE => next_tup_end hh st.1 st.2 hv hE
structure Apart2 (z TI TO i j : Addr) (f g : List Addr) : Prop where
  ti : TI ≠ z ∧ TI ≠ TO ∧ TI ≠ i ∧ TI ≠ j
  zt : z ≠ TO
  zf : z ∉ f
  zg : z ∉ g
  tf : TO ∉ f
  tg : TO ∉ g
  ig : i ∉ g
  jf : j ∉ f
variable {z TI TO i j : Addr} {f g : List Addr} {ti tj : Nat → Heap → Prop} {vi vj : Nat → Option Value} {k m : Nat} {x y a b : Value}
theorem ne_mem {p q : Addr} {l : List Addr} (hp : p ∈ l) (hq : q ∉ l) : p ≠ q := fun e => hq (e ▸ hp)
theorem Src.but {prog : Program} {w : World} {it : Addr} {fr : List Addr} {st : Nat → Heap → Prop} {val : Nat → Option Value} (S : Src prog w it fr st val) {k : Nat} {c : Addr} {h h' : Heap} (q : st k h) (e : Heap.ExtBut c h h') (hc : c ∉ fr) : st k h' :=
  S.keep k h h' q fun b hb o ho => e b o (ne_mem hb hc) ho
theorem zip2_item (S : Src prog w i f ti vi) (T : Src prog w j g tj vj) (D : Apart2 z TI TO i j f g) {Q : Value → Shared → Prop}
    (hz : IsZip s.heap z TI TO .none) (hTI : IsPair s.heap TI (.ref i) (.ref j)) (hTO : IsPair s.heap TO a b) (hi : ti k s.heap) (hj : tj m s.heap) (hx : vi k = some x) (hy : vj m = some y)
    (hQ : ∀ h', IsZip h' z TI TO (rawInt s.heap.objs.size) → IsPair h' TO x y → ti (k + 1) h' → tj (m + 1) h' → IsPair h' s.heap.objs.size x y → h'.objs.size = s.heap.objs.size + 1 → (∀ c o, c ∉ [z, TO, i, j] → s.heap.get? c = some o → h'.get? c = some o) → Q (.ref s.heap.objs.size) { s with heap := h' }) :
    wpAny (model prog w) A (Builtin.«zip.__next__» ⟨[.ref z], []⟩) (fun fin s' => ∃ v, fin = .done (.ret v) ∧ Q v s') E s := by
  have iz : i ≠ z := ne_mem S.mem D.zf
  have jz : j ≠ z := ne_mem T.mem D.zg
  have iTO : i ≠ TO := ne_mem S.mem D.tf
  have jTO : j ≠ TO := ne_mem T.mem D.tg
  have ij : i ≠ j := ne_mem S.mem D.jf
  refine wpAny_bind (m := field (.ref z) 2) (wpAny_field hz rfl (x := .bool false) rfl ?_)
  refine wpAny_bind (m := field (.ref z) 3) (wpAny_field hz rfl (x := .ref TI) rfl (wpAny_bind (wpAny_seqItems hTI rfl ?_)))
  refine wpAny_bind (m := Builtin.SmallTypes.ownedTupleIsFree (.ref z)) ?_
  unfold Builtin.SmallTypes.ownedTupleIsFree
  refine wpAny_bind (wpAny_field hz rfl (x := .none) rfl (wpAny_pure ?_)); simp only [if_true]
  refine wpAny_bind (wpAny_rule (wpAny_bind (wpAny_field hz rfl (x := .ref TO) rfl (wpAny_bind (wpAny_setField_rec hz (by simp) fun q1 z1 s1 => ?_)))))
  replace z1 : IsZip q1 z TI TO .ellipsis := z1
  refine wpAny_bind ?_; simp only [List.zipIdx_cons, List.zipIdx_nil, List.forIn_cons, List.forIn_nil]
  refine wpAny_bind (wpAny_bind (wpAny_onRaise (wpAny_bind (m := Builtin.SmallTypes.nextOf (.ref i)) (S.item _ k _ x _ _ (S.but hi s1.extBut D.zf) hx fun q2 i2 s2 => wpAny_pure ?_))))
  have o2 : IsPair q2 TO a b := s2.extBut _ _ iTO.symm (s1.extBut _ _ D.zt.symm hTO)
  refine wpAny_bind (wpAny_seqItems o2 rfl (wpAny_bind (wpAny_updateSeq_pair o2 fun q3 o3 s3 => wpAny_bind (wpAny_letGo (wpAny_pure ?_)))))
  replace o3 : IsPair q3 TO x b := o3
  have j3 : tj m q3 := T.but (T.but (T.but hj s1.extBut D.zg) s2.extBut D.ig) s3.extBut D.tg
  refine wpAny_bind (wpAny_bind (wpAny_onRaise (wpAny_bind (m := Builtin.SmallTypes.nextOf (.ref j)) (T.item _ m _ y _ _ j3 hy fun q4 j4 s4 => wpAny_pure ?_))))
  have o4 : IsPair q4 TO x b := s4.extBut _ _ jTO.symm o3
  refine wpAny_bind (wpAny_seqItems o4 rfl (wpAny_bind (wpAny_updateSeq_pair o4 fun q5 o5 s5 => wpAny_bind (wpAny_letGo (wpAny_pure (wpAny_pure ?_))))))
  replace o5 : IsPair q5 TO x y := o5
  refine wpAny_bind (wpAny_seqItems o5 rfl (wpAny_bind (wpAny_newTuple ?_)))
  have sz : q5.objs.size = s.heap.objs.size := by rw [s5.1, s4.1, s3.1, s2.1, s1.1]
  have z5 : IsZip q5 z TI TO .ellipsis := s5.extBut _ _ D.zt (s4.extBut _ _ jz.symm (s3.extBut _ _ D.zt (s2.extBut _ _ iz.symm z1)))
  have k5 : ∀ c o, c ∉ [z, TO, i, j] → s.heap.get? c = some o → q5.get? c = some o := fun c o hc e => by
    simp only [List.mem_cons, List.not_mem_nil, or_false, not_or] at hc
    exact s5.extBut _ _ hc.2.1 (s4.extBut _ _ hc.2.2.2 (s3.extBut _ _ hc.2.1 (s2.extBut _ _ hc.2.2.1 (s1.extBut _ _ hc.1 e))))
  have i5 : ti (k + 1) q5 := S.but (S.but (S.but i2 s3.extBut D.tf) s4.extBut D.jf) s5.extBut D.tf
  have j5 : tj (m + 1) q5 := T.but j4 s5.extBut D.tg
  have zlt : z < q5.objs.size := Heap.lt_size z5
  refine wpAny_bind (m := Builtin.SmallTypes.ownedTupleHandOut (.ref z) (.ref q5.objs.size)) ?_
  unfold Builtin.SmallTypes.ownedTupleHandOut
  have z6 : IsZip (q5.push { cls := .type "tuple", data := .seq #[x, y] }) z TI TO .ellipsis := Heap.get?_push_of_some _ z5
  refine wpAny_bind (wpAny_setField_rec z6 (by simp) fun q7 z7 s7 => ?_)
  replace z7 : IsZip q7 z TI TO (rawInt q5.objs.size) := z7
  refine wpAny_setField_rec z7 (by simp) fun q8 z8 s8 => ?_
  replace z8 : IsZip q8 z TI TO (rawInt q5.objs.size) := z8
  have up : ∀ c o, c ≠ z → q5.get? c = some o → q8.get? c = some o := fun c o hc e => s8.extBut _ _ hc (s7.extBut _ _ hc (Heap.get?_push_of_some _ e))
  have t8 : IsPair q8 q5.objs.size x y := s8.extBut _ _ (Nat.ne_of_gt zlt) (s7.extBut _ _ (Nat.ne_of_gt zlt) (Heap.get?_push_size _ rfl))
  have n8 : q8.objs.size = q5.objs.size + 1 := by rw [s8.1, s7.1, Heap.size_push]
  rw [sz] at z8 t8 n8
  refine wpAny_pure ⟨_, rfl, ?_⟩
  show Q (.ref q5.objs.size) _
  rw [sz]
  exact hQ q8 z8 (up _ _ D.zt.symm o5) (S.keep _ _ _ i5 fun c hc o e => up c o (ne_mem hc D.zf) e) (T.keep _ _ _ j5 fun c hc o e => up c o (ne_mem hc D.zg) e) t8 n8 fun c o hc e => up c o (fun q => hc (by simp [q])) (k5 c o hc e)
theorem zip2_end (hh : A.handled = none) (S : Src prog w i f ti vi) (T : Src prog w j g tj vj) (D : Apart2 z TI TO i j f g) {Q : Fin → Shared → Prop}
    (hz : IsZip s.heap z TI TO .none) (hTI : IsPair s.heap TI (.ref i) (.ref j)) (hTO : IsPair s.heap TO a b) (hi : ti k s.heap) (hj : tj m s.heap) (hxy : vi k = none ∨ vj m = none)
    (hE : ∀ h' e, (∀ c o, c ∉ [z, TO, i, j] → s.heap.get? c = some o → h'.get? c = some o) → (∃ o, h'.get? e = some o ∧ o.cls = .type "StopIteration") → E (.ref e) { s with heap := h' }) :
    wpAny (model prog w) A (Builtin.«zip.__next__» ⟨[.ref z], []⟩) Q E s := by
  have iz : i ≠ z := ne_mem S.mem D.zf
  have jz : j ≠ z := ne_mem T.mem D.zg
  have iTO : i ≠ TO := ne_mem S.mem D.tf
  have jTO : j ≠ TO := ne_mem T.mem D.tg
  refine wpAny_bind (m := field (.ref z) 2) (wpAny_field hz rfl (x := .bool false) rfl ?_)
  refine wpAny_bind (m := field (.ref z) 3) (wpAny_field hz rfl (x := .ref TI) rfl (wpAny_bind (wpAny_seqItems hTI rfl ?_)))
  refine wpAny_bind (m := Builtin.SmallTypes.ownedTupleIsFree (.ref z)) ?_
  unfold Builtin.SmallTypes.ownedTupleIsFree
  refine wpAny_bind (wpAny_field hz rfl (x := .none) rfl (wpAny_pure ?_)); simp only [if_true]
  refine wpAny_bind (wpAny_rule (wpAny_bind (wpAny_field hz rfl (x := .ref TO) rfl (wpAny_bind (wpAny_setField_rec hz (by simp) fun q1 z1 s1 => ?_)))))
  replace z1 : IsZip q1 z TI TO .ellipsis := z1
  refine wpAny_bind ?_; simp only [List.zipIdx_cons, List.zipIdx_nil, List.forIn_cons, List.forIn_nil]
  refine wpAny_bind (wpAny_bind (wpAny_onRaise (wpAny_bind (m := Builtin.SmallTypes.nextOf (.ref i)) ?_)))
  cases hx : vi k with
  | none =>
    refine S.fin _ k _ _ _ hh (S.but hi s1.extBut D.zf) hx fun q2 e s2 ⟨oe, he, hce⟩ => ?_
    have z2 : IsZip q2 z TI TO .ellipsis := s2 _ _ iz.symm z1
    have ez : e ≠ z := fun q => by subst q; rw [z2] at he; cases he; simp at hce
    refine wpAny_setField_rec z2 (by simp) fun q3 _ s3 => hE q3 e (fun c o hc q => ?_) ⟨oe, s3.extBut _ _ ez he, hce⟩
    simp only [List.mem_cons, List.not_mem_nil, or_false, not_or] at hc
    exact s3.extBut _ _ hc.1 (s2 _ _ hc.2.2.1 (s1.extBut _ _ hc.1 q))
  | some x =>
    have hy : vj m = none := hxy.resolve_left (by rw [hx]; exact Option.some_ne_none x)
    refine S.item _ k _ x _ _ (S.but hi s1.extBut D.zf) hx fun q2 i2 s2 => wpAny_pure ?_
    have o2 : IsPair q2 TO a b := s2.extBut _ _ iTO.symm (s1.extBut _ _ D.zt.symm hTO)
    refine wpAny_bind (wpAny_seqItems o2 rfl (wpAny_bind (wpAny_updateSeq_pair o2 fun q3 o3 s3 => wpAny_bind (wpAny_letGo (wpAny_pure ?_)))))
    have j3 : tj m q3 := T.but (T.but (T.but hj s1.extBut D.zg) s2.extBut D.ig) s3.extBut D.tg
    refine wpAny_bind (wpAny_bind (wpAny_onRaise (wpAny_bind (m := Builtin.SmallTypes.nextOf (.ref j)) (T.fin _ m _ _ _ hh j3 hy fun q4 e s4 ⟨oe, he, hce⟩ => ?_))))
    have z4 : IsZip q4 z TI TO .ellipsis := s4 _ _ jz.symm (s3.extBut _ _ D.zt (s2.extBut _ _ iz.symm z1))
    have ez : e ≠ z := fun q => by subst q; rw [z4] at he; cases he; simp at hce
    refine wpAny_setField_rec z4 (by simp) fun q5 _ s5 => hE q5 e (fun c o hc q => ?_) ⟨oe, s5.extBut _ _ ez he, hce⟩
    simp only [List.mem_cons, List.not_mem_nil, or_false, not_or] at hc
    exact s5.extBut _ _ hc.1 (s4 _ _ hc.2.2.2 (s3.extBut _ _ hc.2.1 (s2.extBut _ _ hc.2.2.1 (s1.extBut _ _ hc.1 q))))
theorem zip2_next_item (S : Src prog w i f ti vi) (T : Src prog w j g tj vj) (D : Apart2 z TI TO i j f g) {Q : Option Value → Shared → Prop}
    (hz : IsZip s.heap z TI TO .none) (hTI : IsPair s.heap TI (.ref i) (.ref j)) (hTO : IsPair s.heap TO a b) (hi : ti k s.heap) (hj : tj m s.heap) (hx : vi k = some x) (hy : vj m = some y)
    (hQ : ∀ h', IsZip h' z TI TO (rawInt s.heap.objs.size) → IsPair h' TO x y → ti (k + 1) h' → tj (m + 1) h' → IsPair h' s.heap.objs.size x y → h'.objs.size = s.heap.objs.size + 1 → (∀ c o, c ∉ [z, TO, i, j] → s.heap.get? c = some o → h'.get? c = some o) → Q (some (.ref s.heap.objs.size)) { s with heap := h' }) :
    wpAny (model prog w) A (pyNext (.ref z)) Q E s := by
  have ty : s.TypeIs (.ref z) "zip" := ⟨_, hz, rfl⟩
  unfold pyNext
  exact wpAny_bind (wpAny_attempt (wpAny_callSpecial?_slot (name := Str.ofString "__next__") ty F.slot_zip_next (wpAny_call_entry F.slot_zip_next ty F.entry_zip_next (zip2_item S T D hz hTI hTO hi hj hx hy fun h' c1 c2 c3 c4 c5 c6 c7 => wpAny_pure (hQ h' c1 c2 c3 c4 c5 c6 c7)) (F.args_zip_next_1 _))))
theorem zip2_next_end (hh : A.handled = none) (S : Src prog w i f ti vi) (T : Src prog w j g tj vj) (D : Apart2 z TI TO i j f g) {Q : Option Value → Shared → Prop}
    (hz : IsZip s.heap z TI TO .none) (hTI : IsPair s.heap TI (.ref i) (.ref j)) (hTO : IsPair s.heap TO a b) (hi : ti k s.heap) (hj : tj m s.heap) (hxy : vi k = none ∨ vj m = none)
    (hQ : ∀ h', (∀ c o, c ∉ [z, TO, i, j] → s.heap.get? c = some o → h'.get? c = some o) → Q none { s with heap := h' }) : wpAny (model prog w) A (pyNext (.ref z)) Q E s := by
  have ty : s.TypeIs (.ref z) "zip" := ⟨_, hz, rfl⟩
  unfold pyNext
  refine wpAny_bind (wpAny_attempt (wpAny_callSpecial?_slot (name := Str.ofString "__next__") ty F.slot_zip_next (wpAny_call_entry F.slot_zip_next ty F.entry_zip_next (zip2_end (show A.in1.handled = none from hh) S T D hz hTI hTO hi hj hxy fun h' e kp he => ?_) (F.args_zip_next_1 _))))
  obtain ⟨o, ho, hc⟩ := he
  exact wpAny_bind (wpAny_isInstance (T := "StopIteration") (b := true) ⟨o, ho, hc⟩ isSubtype_stop (wpAny_pure (hQ _ kp)))
end
end L2
set_option Elab.async false
set_option linter.all false
set_option maxRecDepth 100000
set_option maxHeartbeats 4000000
namespace L2
open PySem PySem.Spec PyProof.Rows
def SeqAt (h : Heap) (k : Bool) (l : Addr) (xs : Array Value) : Prop := match k with
  | true => h.IsTuple l xs
  | false => h.IsList l xs
def IterAt (h : Heap) (k : Bool) (it l : Addr) (n : Nat) : Prop := match k with
  | true => h.IsTupleIter it l n
  | false => h.IsListIter it l n
def itObj (k : Bool) (l : Addr) : Obj := match k with
  | true => { cls := .type "tuple_iterator", data := .fields #[.ref l, .int 0 0] }
  | false => { cls := .type "list_iterator", data := .fields #[.ref l, .int 0 0] }
theorem SeqAt.at {h h' : Heap} {k : Bool} {l : Addr} {xs : Array Value} (q : SeqAt h k l xs) (e : ∀ o, h.get? l = some o → h'.get? l = some o) : SeqAt h' k l xs := by
  cases k
  · exact Heap.IsList.at q e
  · exact Heap.IsTuple.at q e
theorem IterAt.at {h h' : Heap} {k : Bool} {it l : Addr} {n : Nat} (q : IterAt h k it l n) (e : ∀ o, h.get? it = some o → h'.get? it = some o) : IterAt h' k it l n := by
  cases k
  · exact Heap.IsListIter.at q e
  · exact Heap.IsTupleIter.at q e
theorem IterAt.obj {h : Heap} {k : Bool} {it l : Addr} {n : Nat} (q : IterAt h k it l n) : ∃ o fs, h.get? it = some o ∧ o.data = .fields fs := by
  cases k
  · obtain ⟨o, e, _, d⟩ := (show h.IsListIter it l n from q); exact ⟨o, _, e, d⟩
  · obtain ⟨o, e, _, d⟩ := (show h.IsTupleIter it l n from q); exact ⟨o, _, e, d⟩
theorem src_sq {prog : Program} {w : World} (k : Bool) (it l : Addr) (hne : l ≠ it) (xs : Array Value) : Src prog w it [it, l] (fun n h => IterAt h k it l n ∧ SeqAt h k l xs) (fun n => xs[n]?) := by
  cases k
  · exact src_list it l hne xs
  · exact src_tup it l hne xs
section
variable {prog : Program} {w : World} {A : Around} {E : Value → Shared → Prop} {s : Shared}
theorem iter_sq {k : Bool} {l : Addr} {xs : Array Value} {Q : Value → Shared → Prop} (h : SeqAt s.heap k l xs) (hQ : Q (.ref s.heap.objs.size) { s with heap := s.heap.push (itObj k l) }) : wpAny (model prog w) A (pyIter (.ref l)) Q E s := by
  cases k
  · exact wpAny_pyIter_list h hQ
  · exact wpAny_pyIter_tuple h hQ
abbrev zq1 (ka : Bool) (a : Addr) (h : Heap) : Heap := h.push (itObj ka a)
abbrev zq2 (ka kb : Bool) (a b : Addr) (h : Heap) : Heap := (zq1 ka a h).push (itObj kb b)
abbrev zq3 (ka kb : Bool) (a b : Addr) (h : Heap) : Heap := (zq2 ka kb a b h).push { cls := .type "tuple", data := .seq #[.ref h.objs.size, .ref (zq1 ka a h).objs.size] }
abbrev zq4 (ka kb : Bool) (a b : Addr) (h : Heap) : Heap := (zq3 ka kb a b h).push { cls := .type "tuple", data := .seq #[.none, .none] }
abbrev zq5 (ka kb : Bool) (a b : Addr) (h : Heap) : Heap := (zq4 ka kb a b h).push { cls := .type "zip", data := .fields #[.none, .bool false, .bool false, .ref (zq2 ka kb a b h).objs.size, .ref (zq3 ka kb a b h).objs.size] }
theorem zip_meets (ka kb : Bool) (a b : Addr) (xs ys : Array Value) : Meets (Builtin.«zip.__new__» ⟨[.type "zip", .ref a, .ref b], []⟩) (fun _ R s => SeqAt s.heap ka a xs ∧ SeqAt s.heap kb b ys ∧ R (.ok (.ret (.ref (zq4 ka kb a b s.heap).objs.size))) { s with heap := zq5 ka kb a b s.heap }) :=
  .of_wp fun prog w A R s h => by
    obtain ⟨hp, g, d, tk, os⟩ := s; obtain ⟨h1, h2, h⟩ := h; have hsub := sub_zip
    have q1 : SeqAt (Shared.heap ⟨hp, g, d, tk, os⟩) ka a xs := h1
    have q2 : SeqAt (Shared.heap ⟨hp.push (itObj ka a), g, d, tk, os⟩) kb b ys := h2.at fun o e => Heap.get?_push_of_some _ e
    wp_walk using iter_sq q1, iter_sq q2
    exact ⟨_, rfl, h⟩
theorem call_zq {ka kb : Bool} {a b : Addr} {xs ys : Array Value} {Q : Value → Shared → Prop} (h1 : SeqAt s.heap ka a xs) (h2 : SeqAt s.heap kb b ys)
    (h : ∀ h' n, n = s.heap.objs.size → IsZip h' (n + 4) (n + 2) (n + 3) .none → IsPair h' (n + 2) (.ref n) (.ref (n + 1)) → IsPair h' (n + 3) .none .none → IterAt h' ka n a 0 → IterAt h' kb (n + 1) b 0 → h'.objs.size = n + 5 → (∀ c o, s.heap.get? c = some o → h'.get? c = some o) → Q (.ref (n + 4)) { s with heap := h' }) :
    wpAny (model prog w) A (call (.type "zip") [.ref a, .ref b]) Q E s := by
  refine callType_new F.called_zip (by decide) (F.typeCall_zip_2 _ _) (F.newCall_zip_2 _ _) (fun ob => F.args_object_init_3 ob _ _) F.entry_zip_new (zip_meets ka kb a b xs ys) ⟨h1, h2, ?_⟩
  have n1 : (zq1 ka a s.heap).objs.size = s.heap.objs.size + 1 := Heap.size_push ..
  have n2 : (zq2 ka kb a b s.heap).objs.size = s.heap.objs.size + 2 := by rw [Heap.size_push, n1]
  have n3 : (zq3 ka kb a b s.heap).objs.size = s.heap.objs.size + 3 := by rw [Heap.size_push, n2]
  have n4 : (zq4 ka kb a b s.heap).objs.size = s.heap.objs.size + 4 := by rw [Heap.size_push, n3]
  have n5 : (zq5 ka kb a b s.heap).objs.size = s.heap.objs.size + 5 := by rw [Heap.size_push, n4]
  have f1 : IterAt (zq1 ka a s.heap) ka s.heap.objs.size a 0 := by
    cases ka <;> exact ⟨_, Heap.get?_push_size _ rfl, rfl, rfl⟩
  have f2 : IterAt (zq2 ka kb a b s.heap) kb (zq1 ka a s.heap).objs.size b 0 := by
    cases kb <;> exact ⟨_, Heap.get?_push_size _ rfl, rfl, rfl⟩
  have u2 : ∀ c o, (zq2 ka kb a b s.heap).get? c = some o → (zq5 ka kb a b s.heap).get? c = some o := fun c o e => Heap.get?_push_of_some _ (Heap.get?_push_of_some _ (Heap.get?_push_of_some _ e))
  have g5 : (zq5 ka kb a b s.heap).get? (zq4 ka kb a b s.heap).objs.size = some _ := Heap.get?_push_size _ rfl
  have g4 : (zq5 ka kb a b s.heap).get? (zq3 ka kb a b s.heap).objs.size = some _ := Heap.get?_push_of_some _ (Heap.get?_push_size _ rfl)
  have g3 : (zq5 ka kb a b s.heap).get? (zq2 ka kb a b s.heap).objs.size = some _ := Heap.get?_push_of_some _ (Heap.get?_push_of_some _ (Heap.get?_push_size _ rfl))
  have e1 : IterAt (zq5 ka kb a b s.heap) ka s.heap.objs.size a 0 := f1.at fun o e => u2 _ o (Heap.get?_push_of_some _ e)
  have e2 : IterAt (zq5 ka kb a b s.heap) kb (zq1 ka a s.heap).objs.size b 0 := f2.at fun o e => u2 _ o e
  show _ ∧ _
  rw [n2, n3, n4] at g5
  rw [n1, n2] at g3
  rw [n3] at g4
  rw [n1] at e2
  rw [n4]
  exact ⟨⟨_, g5, rfl⟩, h _ _ rfl g5 g3 g4 e1 e2 n5 fun c o e => u2 c o (Heap.get?_push_of_some _ (Heap.get?_push_of_some _ e))⟩
end
section
variable {X : Cx} {pins : List (Addr × Obj)} {σ : List (Option V)} {H : Hp} {s : Shared} {h' : Heap}
theorem Inv.turnNew {t' : Nat} {ch : List Addr} {n : Addr} {o : HO} (I : Inv X pins σ H s) (hch : ∀ b ∈ ch, FpOk X pins H b) (k : ∀ b ob, b ∉ ch → s.heap.get? b = some ob → h'.get? b = some ob) (hn : s.heap.objs.size ≤ n) (new : ObjOk X.prog X.w (upd H n o) h' n o) :
    Inv X pins σ (upd H n o) { s with heap := h', toks := t' } := by
  have fn := I.hok.fresh hn
  have up : ∀ {b u}, H b = some u → upd H n o b = some u := fun {b u} e => by rw [upd_ne (ne_of_none e fn)]; exact e
  have nch : ∀ {b u}, H b = some u → b ∉ ch := fun {b u} e z => by rw [(hch b z).1] at e; cases e
  refine I.step (g' := s.gens) (d' := s.drawn) (ch := ch) (fun b hb => ⟨(hch b hb).2.2.2.1, (hch b hb).2.1, (hch b hb).2.2.2.2.1, (hch b hb).2.2.2.2.2⟩) (fun b ob _ _ hc e _ => k b ob hc e) (fun b ob _ _ hc e _ => ⟨ob.slots, k b ob hc e⟩)
    (fun b ob _ e q => ?_) (fun b ob hc e => ⟨ob, k b ob hc e⟩) (fun _ _ e => up e) (fun _ _ _ e => up e) (fun b ps e => ⟨#[], by rw [up e]; simp⟩) (fun m hm => ?_) (fun b u e => ?_) I.bare
  · rw [upd_ne (Nat.ne_of_lt (Nat.lt_of_lt_of_le (Heap.lt_size e) hn))]; exact q
  · obtain ⟨ol, es, ep, ho, r⟩ := hm
    exact ⟨ol, es, ep, k _ ol (fun z => (hch _ z).2.1 rfl) ho, r⟩
  · by_cases hb : b = n
    · subst hb; rw [upd_same] at e; cases e; exact new
    · rw [upd_ne hb] at e
      refine (I.hok b u e).stay (fun c v hc q => k c v ?_ q) (fun c q => up q) fun c xs q => up q
      rcases hc with rfl | hc
      · exact nch e
      · exact nch hc
theorem Inv.turnL {t' : Nat} {ch : List Addr} (I : Inv X pins σ H s) (hch : ∀ b ∈ ch, FpOk X pins H b) (k : ∀ b ob, b ∉ ch → s.heap.get? b = some ob → h'.get? b = some ob) : Inv X pins σ H { s with heap := h', toks := t' } := by
  have nch : ∀ {b u}, H b = some u → b ∉ ch := fun {b u} e z => by rw [(hch b z).1] at e; cases e
  refine I.step (g' := s.gens) (d' := s.drawn) (ch := ch) (fun b hb => ⟨(hch b hb).2.2.2.1, (hch b hb).2.1, (hch b hb).2.2.2.2.1, (hch b hb).2.2.2.2.2⟩) (fun b ob _ _ hc e _ => k b ob hc e) (fun b ob _ _ hc e _ => ⟨ob.slots, k b ob hc e⟩)
    (fun _ _ _ _ q => q) (fun b ob hc e => ⟨ob, k b ob hc e⟩) (fun _ _ e => e) (fun _ _ _ e => e) (fun b ps e => ⟨#[], by rw [e]; simp⟩) (fun m hm => ?_) (fun b u e => ?_) I.bare
  · obtain ⟨ol, es, ep, ho, r⟩ := hm
    exact ⟨ol, es, ep, k _ ol (fun z => (hch _ z).2.1 rfl) ho, r⟩
  · refine (I.hok b u e).stay (fun c v hc q => k c v ?_ q) (fun _ q => q) fun _ _ q => q
    rcases hc with rfl | hc
    · exact nch e
    · exact nch hc
end
def SqK (k : Bool) (H : Hp) (a : Addr) (xs : List V) : Prop := match k with
  | true => H a = some (.tup xs)
  | false => H a = some (.lst xs)
theorem SqK.ne {k : Bool} {H : Hp} {a b : Addr} {xs : List V} (h : SqK k H a xs) (e : H b = none) : a ≠ b := fun z => by
  subst z
  cases k
  · rw [show H a = some (.lst xs) from h] at e; cases e
  · rw [show H a = some (.tup xs) from h] at e; cases e
theorem Inv.sq {X : Cx} {pins : List (Addr × Obj)} {σ : St} {H : Hp} {s : Shared} {k : Bool} {a : Addr} {xs : List V} (I : Inv X pins σ H s) (h : SqK k H a xs) : ∃ its : List Value, Vals xs its ∧ SeqAt s.heap k a its.toArray := by
  cases k
  · obtain ⟨its, r, p, _⟩ := I.list (SqL.of h); exact ⟨its, r, p.isList⟩
  · obtain ⟨its, r, p, _⟩ := I.tuple (SqT.of h); exact ⟨its, r, p⟩
def Itz (ka kb : Bool) (a b : Addr) (xs ys : List V) : It :=
  ⟨fun i H => SqK ka H a xs ∧ SqK kb H b ys ∧ i < xs.length ∧ i < ys.length, fun i H x H' => ∃ p u v, H p = none ∧ x = .ref p ∧ xs[i]? = some u ∧ ys[i]? = some v ∧ H' = upd H p (.tup [u, v]), fun i H => SqK ka H a xs ∧ SqK kb H b ys ∧ (xs.length ≤ i ∨ ys.length ≤ i)⟩
def Tnz (ka kb : Bool) (a b z TI TO p q : Addr) (i : Nat) (h : Heap) : Prop := IsZip h z TI TO .none ∧ IsPair h TI (.ref p) (.ref q) ∧ (∃ u v, IsPair h TO u v) ∧ IterAt h ka p a i ∧ IterAt h kb q b i
theorem turn_zip {P : Program} {w : World} {K : PySem.W.Frag} {elts : List Expr} {x1} {tp : Pos} (ka kb : Bool) (a b z TI TO p q : Addr) (xs ys : List V) (nd : [z, TI, TO, p, q].Nodup) : Turn P w K (.Tuple elts x1 tp) (Itz ka kb a b xs ys) [z, TI, TO, p, q] z (Tnz ka kb a b z TI TO p q) where
  mem := List.mem_cons_self
  obj := fun i h st c hc => by
    obtain ⟨e1, e2, ⟨u, v, e3⟩, e4, e5⟩ := st
    simp only [List.mem_cons, List.not_mem_nil, or_false] at hc
    rcases hc with rfl | rfl | rfl | rfl | rfl
    · exact ⟨_, e1, fun v z => by cases z⟩
    · exact ⟨_, e2, fun v z => by cases z⟩
    · exact ⟨_, e3, fun v z => by cases z⟩
    · obtain ⟨o, fs, e, d⟩ := e4.obj; exact ⟨o, e, fun v z => by rw [d] at z; cases z⟩
    · obtain ⟨o, fs, e, d⟩ := e5.obj; exact ⟨o, e, fun v z => by rw [d] at z; cases z⟩
  keep := fun i h h' st k => by
    obtain ⟨e1, e2, ⟨u, v, e3⟩, e4, e5⟩ := st
    exact ⟨k z (by simp) _ e1, k TI (by simp) _ e2, ⟨u, v, k TO (by simp) _ e3⟩, e4.at fun o e => k p (by simp) o e, e5.at fun o e => k q (by simp) o e⟩
  item := by
    intro X hP hw hK hc i pins s σ H E I hf st hg
    subst hP hw hK
    obtain ⟨e1, e2, ⟨u0, v0, e3⟩, e4, e5⟩ := st
    obtain ⟨ha, hb, l1, l2⟩ := hg
    obtain ⟨as, ra, sa⟩ := I.sq ha
    obtain ⟨bs, rb, sb⟩ := I.sq hb
    have hx : xs[i]? = some xs[i] := List.getElem?_eq_getElem l1
    have hy : ys[i]? = some ys[i] := List.getElem?_eq_getElem l2
    obtain ⟨u, hu, ru⟩ := ra.get hx
    obtain ⟨v, hv, rv⟩ := rb.get hy
    have free : ∀ c ∈ [z, TI, TO, p, q], H c = none := fun c h => (hf c h).1
    have naz : ∀ c ∈ [z, TI, TO, p, q], a ≠ c := fun c h => ha.ne (free c h)
    have nbz : ∀ c ∈ [z, TI, TO, p, q], b ≠ c := fun c h => hb.ne (free c h)
    simp only [List.nodup_cons, List.mem_cons, List.not_mem_nil, or_false, not_or, not_false_eq_true, and_true, List.nodup_nil] at nd
    obtain ⟨⟨z1, z2, z3, z4⟩, ⟨t1, t2, t3⟩, ⟨w1, w2⟩, y1⟩ := nd
    have S := src_sq (prog := X.prog) (w := X.w) ka p a (naz p (by simp)) as.toArray
    have T := src_sq (prog := X.prog) (w := X.w) kb q b (nbz q (by simp)) bs.toArray
    have D : Apart2 z TI TO p q [p, a] [q, b] := ⟨⟨Ne.symm z1, t1, t2, t3⟩, z2, by simp [z3, Ne.symm (naz z (by simp))], by simp [z4, Ne.symm (nbz z (by simp))], by simp [w1, Ne.symm (naz TO (by simp))], by simp [w2, Ne.symm (nbz TO (by simp))], by simp [y1, Ne.symm (nbz p (by simp))], by simp [Ne.symm y1, Ne.symm (naz q (by simp))]⟩
    refine zip2_next_item S T D e1 e2 e3 ⟨e4, sa⟩ ⟨e5, sb⟩ (x := u) (y := v) (by simpa using hu) (by simpa using hv) fun h1 c1 c2 c3 c4 c5 c6 c7 => ?_
    refine ⟨_, rfl, wpAny_letOwnedTupleGo_zip (s := { s with heap := h1 }) c1 fun h2 d1 d2 => ?_⟩
    have lt : z < s.heap.objs.size := Heap.lt_size e1
    have kp : ∀ c o, c ∉ [z, TO, p, q] → s.heap.get? c = some o → h2.get? c = some o := fun c o hc e => d2.extBut _ _ (fun q => hc (by simp [q])) (c7 c o hc e)
    have hn : h2.get? s.heap.objs.size = some { cls := .type "tuple", data := .seq #[u, v] } := d2.extBut _ _ (Nat.ne_of_gt lt) c5
    have I2 : Inv X pins σ (upd H s.heap.objs.size (.tup [xs[i], ys[i]])) { s with heap := h2 } := I.turnNew (t' := s.toks) (ch := [z, TO, p, q]) (fun c hc => hf c (by simp only [List.mem_cons, List.not_mem_nil, or_false] at hc ⊢; rcases hc with h | h | h | h <;> simp [h])) kp (Nat.le_refl _) ⟨(show 2 ≤ sizeLine by decide), [u, v], .cons ru (.cons rv .nil), ⟨_, hn, rfl, _, rfl⟩⟩
    have fr : H s.heap.objs.size = none := I.hok.fresh (Nat.le_refl _)
    refine ⟨.ref s.heap.objs.size, _, I2, rfl, ⟨_, _, _, fr, rfl, hx, hy, rfl⟩, ⟨d1, d2.extBut _ _ (Ne.symm z1) (c7 TI _ (by simp [Ne.symm z1, t1, t2, t3]) e2), ⟨u, v, d2.extBut _ _ (Ne.symm z2) c2⟩, c3.1.at fun o e => d2.extBut _ _ (Ne.symm z3) e, c4.1.at fun o e => d2.extBut _ _ (Ne.symm z4) e⟩, fun c hc => ?_⟩
    obtain ⟨o, ho, _⟩ : ∃ o, s.heap.get? c = some o ∧ True := by
      simp only [List.mem_cons, List.not_mem_nil, or_false] at hc
      rcases hc with rfl | rfl | rfl | rfl | rfl
      · exact ⟨_, e1, trivial⟩
      · exact ⟨_, e2, trivial⟩
      · exact ⟨_, e3, trivial⟩
      · obtain ⟨o, _, e, _⟩ := e4.obj; exact ⟨o, e, trivial⟩
      · obtain ⟨o, _, e, _⟩ := e5.obj; exact ⟨o, e, trivial⟩
    rw [upd_ne (Nat.ne_of_lt (Heap.lt_size ho))]
    exact free c hc
  done := by
    intro X hP hw hK hc i pins s σ H E I hf st hg
    subst hP hw hK
    obtain ⟨e1, e2, ⟨u0, v0, e3⟩, e4, e5⟩ := st
    obtain ⟨ha, hb, l⟩ := hg
    obtain ⟨as, ra, sa⟩ := I.sq ha
    obtain ⟨bs, rb, sb⟩ := I.sq hb
    have free : ∀ c ∈ [z, TI, TO, p, q], H c = none := fun c h => (hf c h).1
    have naz : ∀ c ∈ [z, TI, TO, p, q], a ≠ c := fun c h => ha.ne (free c h)
    have nbz : ∀ c ∈ [z, TI, TO, p, q], b ≠ c := fun c h => hb.ne (free c h)
    simp only [List.nodup_cons, List.mem_cons, List.not_mem_nil, or_false, not_or, not_false_eq_true, and_true, List.nodup_nil] at nd
    obtain ⟨⟨z1, z2, z3, z4⟩, ⟨t1, t2, t3⟩, ⟨w1, w2⟩, y1⟩ := nd
    have S := src_sq (prog := X.prog) (w := X.w) ka p a (naz p (by simp)) as.toArray
    have T := src_sq (prog := X.prog) (w := X.w) kb q b (nbz q (by simp)) bs.toArray
    have D : Apart2 z TI TO p q [p, a] [q, b] := ⟨⟨Ne.symm z1, t1, t2, t3⟩, z2, by simp [z3, Ne.symm (naz z (by simp))], by simp [z4, Ne.symm (nbz z (by simp))], by simp [w1, Ne.symm (naz TO (by simp))], by simp [w2, Ne.symm (nbz TO (by simp))], by simp [y1, Ne.symm (nbz p (by simp))], by simp [Ne.symm y1, Ne.symm (naz q (by simp))]⟩
    have la := ra.length
    have lb := rb.length
    refine zip2_next_end (I.ok.hd hc) S T D e1 e2 e3 ⟨e4, sa⟩ ⟨e5, sb⟩ (l.imp (fun h => by simp; omega) fun h => by simp; omega) fun h1 kp => ⟨rfl, I.turnL (t' := s.toks) (ch := [z, TO, p, q]) (fun c hc => hf c (by simp only [List.mem_cons, List.not_mem_nil, or_false] at hc ⊢; rcases hc with h | h | h | h <;> simp [h])) kp⟩
  self := fun _ _ _ _ _ st h => wpAny_pyIter_zip st.1 h
def kZ2 (ka : Bool) (a b : Addr) (xs : List V) (H : Hp) (R : It → Hp → Prop) : HO → Prop := fun o => match o with
  | .lst ys => R (Itz ka false a b xs ys) H
  | .tup ys => R (Itz ka true a b xs ys) H
  | _ => False
theorem m_kZ2_l (ka : Bool) (a b : Addr) (xs ys : List V) (H : Hp) (R : It → Hp → Prop) : kZ2 ka a b xs H R (.lst ys) = R (Itz ka false a b xs ys) H := rfl
def kZ1 (a b : Addr) (H : Hp) (R : It → Hp → Prop) : HO → Prop := fun o => match o with
  | .lst xs => optK (H b) (kZ2 false a b xs H R)
  | .tup xs => optK (H b) (kZ2 true a b xs H R)
  | _ => False
theorem m_kZ1_l (a b : Addr) (xs : List V) (H : Hp) (R : It → Hp → Prop) : kZ1 a b H R (.lst xs) = optK (H b) (kZ2 false a b xs H R) := rfl
def kZ0 (R : It → Hp → Prop) : List V → Hp → Prop := fun vs H => match vs with
  | [.ref a, .ref b] => optK (H a) (kZ1 a b H R)
  | _ => False
theorem m_kZ0 (R : It → Hp → Prop) (a b : Addr) (H : Hp) : kZ0 R [.ref a, .ref b] H = optK (H a) (kZ1 a b H R) := rfl
def iZip (ta : TA) : TI := fun σ H R => ta σ H (kZ0 R)
theorem m_iZip (ta : TA) (σ : St) (H : Hp) (R : It → Hp → Prop) : iZip ta σ H R = ta σ H (kZ0 R) := rfl
theorem kZ0_ex {R : It → Hp → Prop} {vs : List V} {H : Hp} (h : kZ0 R vs H) : ∃ a b ka kb xs ys, vs = [.ref a, .ref b] ∧ SqK ka H a xs ∧ SqK kb H b ys ∧ R (Itz ka kb a b xs ys) H := by
  unfold kZ0 at h
  split at h
  · rename_i a b
    obtain ⟨o, e, h⟩ := optK_ex h
    unfold kZ1 at h
    split at h
    · rename_i xs
      obtain ⟨o', e', h⟩ := optK_ex h
      unfold kZ2 at h
      split at h
      · exact ⟨a, b, false, false, xs, _, rfl, e, e', h⟩
      · exact ⟨a, b, false, true, xs, _, rfl, e, e', h⟩
      · exact h.elim
    · rename_i xs
      obtain ⟨o', e', h⟩ := optK_ex h
      unfold kZ2 at h
      split at h
      · exact ⟨a, b, true, false, xs, _, rfl, e, e', h⟩
      · exact ⟨a, b, true, true, xs, _, rfl, e, e', h⟩
      · exact h.elim
    · exact h.elim
  · exact h.elim
section
variable {X : Cx}
theorem pi_zip {a b : Expr} {elts : List Expr} {x1} {tp : Pos} {ta : TA} {p pos : Pos} (hg : Gl X "zip") (hm : X.mg "zip" = none) (ha : PA X [a, b] ta) (hs : starEach [a, b] X.env = [(false, eval a X.env), (false, eval b X.env)] := by rfl) (hs2 : starEach [b] X.env = [(false, eval b X.env)] := by rfl) :
    PI X (.Tuple elts x1 tp) (.Call (.Name "zip" p) [a, b] [] pos) (iZip ta) := by
  intro pins s σ H R I h
  refine Call_ (ld_blt I hg hm (show bootBuiltins "zip" = some (.type "zip") by decide +kernel) (PyProof.Rows.callWith_type1 (thn (ha pos pins s σ H _ I h) fun us s1 ⟨vs, H1, I1, r1, q1⟩ => ?_) (by rw [hs, hs2]) (by rw [hs2]; rfl)))
  obtain ⟨a, b, ka, kb, xs, ys, rfl, sa, sb, q⟩ := kZ0_ex q1
  cases r1 with
  | cons r rr =>
    cases rr with
    | cons r' rr =>
      cases rr
      cases r
      cases r'
      obtain ⟨as, ra, s1a⟩ := I1.sq sa
      obtain ⟨bs, rb, s1b⟩ := I1.sq sb
      refine call_zq s1a s1b fun h' n hn e1 e2 e3 e4 e5 e6 e7 => ?_
      have I2 : Inv X pins σ H1 { s1 with heap := h' } := I1.kept (t' := s1.toks) e7
      refine wpAny_pyIter_zip (s := { s1 with heap := h' }) e1 ⟨n + 4, [n + 4, n + 2, n + 3, n, n + 1], _, _, H1, rfl, I2, turn_zip ka kb a b (n + 4) (n + 2) (n + 3) n (n + 1) xs ys (by simp), ⟨e1, e2, ⟨_, _, e3⟩, e4, e5⟩, fun c hc => ?_, q⟩
      have hle : s1.heap.objs.size ≤ c := by
        rw [← hn]
        simp only [List.mem_cons, List.not_mem_nil, or_false] at hc
        rcases hc with rfl | rfl | rfl | rfl | rfl
        · exact Nat.le_add_right ..
        · exact Nat.le_add_right ..
        · exact Nat.le_add_right ..
        · exact Nat.le_refl _
        · exact Nat.le_add_right ..
      exact I1.fpOk hle (I1.hok.fresh hle)
end
end L2
set_option Elab.async false
set_option linter.all false
set_option maxRecDepth 100000
set_option maxHeartbeats 4000000
namespace L2
open PySem PySem.Spec PyProof.Rows
def kCm2 (te : TE) (σ2 : St) (N1 : VK) (N0 : Hp → Prop) : Bool → Hp → Prop := fun b H => if b = true then te σ2 H N1 else N0 H
theorem m_kCm2 (te : TE) (σ2 : St) (N1 : VK) (N0 : Hp → Prop) (b : Bool) (H : Hp) : kCm2 te σ2 N1 N0 b H = (if b = true then te σ2 H N1 else N0 H) := rfl
def kCm (k : Nat) (tt : TT) (te : TE) (σ : St) (N1 : VK) (N0 : Hp → Prop) : St → Hp → Prop := fun σ2 H => (∃ vs : St, vs.length = k ∧ σ2 = vs ++ σ) ∧ tt σ2 H (kCm2 te σ2 N1 N0)
theorem m_kCm_1 (tt : TT) (te : TE) (σ : St) (N1 : VK) (N0 : Hp → Prop) (a : Option V) (H : Hp) : kCm 1 tt te σ N1 N0 (a :: σ) H = tt (a :: σ) H (kCm2 te (a :: σ) N1 N0) := propext ⟨fun h => h.2, fun h => ⟨⟨[a], rfl, rfl⟩, h⟩⟩
theorem m_kCm_2 (tt : TT) (te : TE) (σ : St) (N1 : VK) (N0 : Hp → Prop) (a b : Option V) (H : Hp) : kCm 2 tt te σ N1 N0 (a :: b :: σ) H = tt (a :: b :: σ) H (kCm2 te (a :: b :: σ) N1 N0) := propext ⟨fun h => h.2, fun h => ⟨⟨[a, b], rfl, rfl⟩, h⟩⟩
theorem m_rep_1 (σ : St) : List.replicate 1 (none : Option V) ++ σ = none :: σ := rfl
theorem m_rep_2 (σ : St) : List.replicate 2 (none : Option V) ++ σ = none :: none :: σ := rfl
theorem m_rep_3 (σ : St) : List.replicate 3 (none : Option V) ++ σ = none :: none :: none :: σ := rfl
theorem m_kCm_3 (tt : TT) (te : TE) (σ : St) (N1 : VK) (N0 : Hp → Prop) (a b c : Option V) (H : Hp) : kCm 3 tt te σ N1 N0 (a :: b :: c :: σ) H = tt (a :: b :: c :: σ) H (kCm2 te (a :: b :: c :: σ) N1 N0) := propext ⟨fun h => h.2, fun h => ⟨⟨[a, b, c], rfl, rfl⟩, h⟩⟩
def Al {α : Type} (R : α → V → Prop) (zs : List α) (ys : List V) : Prop := ys.length = zs.length ∧ ∀ (i : Nat) z y, zs[i]? = some z → ys[i]? = some y → R z y
theorem Al.nil {α : Type} {R : α → V → Prop} : Al R [] [] := ⟨rfl, fun i z y h => by simp at h⟩
theorem Al.snoc {α : Type} {R : α → V → Prop} {zs : List α} {ys : List V} {z : α} {y : V} (h : Al R zs ys) (r : R z y) : Al R (zs ++ [z]) (ys ++ [y]) := by
  refine ⟨by simp [h.1], fun i z' y' h1 h2 => ?_⟩
  by_cases hi : i < zs.length
  · rw [List.getElem?_append_left hi] at h1
    rw [List.getElem?_append_left (by rw [h.1]; exact hi)] at h2
    exact h.2 i z' y' h1 h2
  · rw [List.getElem?_append_right (by omega)] at h1
    rw [List.getElem?_append_right (by rw [h.1]; omega), h.1] at h2
    by_cases h0 : i - zs.length = 0
    · rw [h0] at h1 h2; simp at h1 h2; subst h1; subst h2; exact r
    · rw [List.getElem?_eq_none (by simp; omega)] at h1; cases h1
theorem Al.imp {α : Type} {R S : α → V → Prop} {zs : List α} {ys : List V} (h : Al R zs ys) (f : ∀ z y, R z y → S z y) : Al S zs ys := ⟨h.1, fun i z y a b => f z y (h.2 i z y a b)⟩
theorem Al.map {α : Type} {f : α → V} {zs : List α} {ys : List V} (h : Al (fun z y => y = f z) zs ys) : ys = zs.map f := by
  apply List.ext_getElem?
  intro i
  rw [List.getElem?_map]
  by_cases hi : i < zs.length
  · have e1 : zs[i]? = some zs[i] := List.getElem?_eq_getElem hi
    have e2 : ys[i]? = some (ys[i]'(by rw [h.1]; exact hi)) := List.getElem?_eq_getElem _
    rw [e1, e2, h.2 i _ _ e1 e2]; rfl
  · have := h.1; rw [List.getElem?_eq_none (show ys.length ≤ i by omega), List.getElem?_eq_none (show zs.length ≤ i by omega)]; rfl
section
variable {k : Nat} {g : TG} {tt : TT} {te : TE} {σ : St} {Q : VK} {H : Hp} {K : PySem.W.Frag}
theorem comp_rel {α : Type} {J : It} (zs : List α) (c : α → Bool) (P : α → V → Hp → Prop) (R : Addr → α → V → Hp → Prop)
    (hgo : ∀ i z H', zs[i]? = some z → Ext H H' → J.go i H' ∧ ∀ x H'', J.yld i H' x H'' → Ext H' H'' ∧ P z x H'')
    (hst : ∀ H', Ext H H' → J.stop zs.length H')
    (hR1 : ∀ D z y H1 H2, R D z y H1 → Ext H1 H2 → R D z y H2) (hR2 : ∀ D z y H1 o, R D z y H1 → R D z y (upd H1 D o))
    (hl : zs.length ≤ sizeLine)
    (hs : ∀ D z x H' N1 N0, z ∈ zs → H D = none → Ext H H' → (∃ ys, H' D = some (.lst ys)) → P z x H' → (c z = true → ∀ y H'', Ext H' H'' → R D z y H'' → N1 y H'') → (c z = false → ∀ H'', Ext H' H'' → N0 H'') → g x (List.replicate k none ++ σ) H' (kCm k tt te σ N1 N0))
    (hd : ∀ D ys H', H D = none → Ext H H' → H' D = some (.lst ys) → Al (fun z y => R D z y H') (zs.filter c) ys → Q (.ref D) H') : kComp k g tt te σ Q J H := by
  intro D hD
  refine ⟨fun i m ys H' => m = zs.length - i ∧ i ≤ zs.length ∧ Ext H H' ∧ H' D = some (.lst ys) ∧ Al (fun z y => R D z y H') ((zs.take i).filter c) ys, ⟨zs.length, by simp, Nat.zero_le _, Ext.new hD, upd_same, by simpa using Al.nil⟩, ?_⟩
  rintro i m ys H' ⟨rfl, hi, e, hD', al⟩
  by_cases hlt : i < zs.length
  · have hz : zs[i]? = some zs[i] := List.getElem?_eq_getElem hlt
    obtain ⟨go, y⟩ := hgo i zs[i] H' hz e
    have tk : zs.take (i + 1) = zs.take i ++ [zs[i]] := by rw [List.take_succ, hz]; rfl
    have ln : ys.length < sizeLine := by
      have h1 := al.1
      have h2 := List.length_filter_le c (zs.take i)
      simp only [List.length_take] at h2
      omega
    refine .inr ⟨go, fun ys' H2 => Ext H H2 ∧ H2 D = some (.lst ys') ∧ Al (fun z y => R D z y H2) ((zs.take (i + 1)).filter c) ys', fun ys' H2 p => ⟨zs.length - (i + 1), by omega, rfl, hlt, p⟩, fun x H2 z => ?_⟩
    obtain ⟨e2, p2⟩ := y x H2 z
    refine hs D zs[i] x H2 (kC3 D ys _) _ (List.getElem_mem hlt) hD (e.trans e2) ⟨ys, e2.at hD'⟩ p2 (fun hc y H3 e3 r3 => ?_) fun hc H3 e3 => ?_
    · refine ⟨e3.at (e2.at hD'), ln, (e.trans (e2.trans e3)).put hD, upd_same, ?_⟩
      rw [tk, List.filter_append, show [zs[i]].filter c = [zs[i]] by simp [hc]]
      exact Al.snoc (al.imp fun z y r => hR2 _ _ _ _ _ (hR1 _ _ _ _ _ r (e2.trans e3))) (hR2 _ _ _ _ _ r3)
    · refine ⟨e.trans (e2.trans e3), (e2.trans e3).at hD', ?_⟩
      rw [tk, List.filter_append, show [zs[i]].filter c = [] by simp [hc], List.append_nil]
      exact al.imp fun z y r => hR1 _ _ _ _ _ r (e2.trans e3)
  · have e' : i = zs.length := by omega
    subst e'
    rw [List.take_length] at al
    exact .inl ⟨hst H' e, hd D ys H' hD e hD' al⟩
theorem comp_fm {α : Type} {J : It} (zs : List α) (c : α → Bool) (f : α → V) (P : α → V → Hp → Prop)
    (hgo : ∀ i z H', zs[i]? = some z → Ext H H' → J.go i H' ∧ ∀ x H'', J.yld i H' x H'' → Ext H' H'' ∧ P z x H'')
    (hst : ∀ H', Ext H H' → J.stop zs.length H') (hl : zs.length ≤ sizeLine)
    (hs : ∀ D z x H' N1 N0, z ∈ zs → H D = none → Ext H H' → P z x H' → (c z = true → ∀ H'', Ext H' H'' → N1 (f z) H'') → (c z = false → ∀ H'', Ext H' H'' → N0 H'') → g x (List.replicate k none ++ σ) H' (kCm k tt te σ N1 N0))
    (hd : ∀ D H', H D = none → Ext H H' → H' D = some (.lst ((zs.filter c).map f)) → Q (.ref D) H') : kComp k g tt te σ Q J H :=
  comp_rel zs c P (fun _ z y _ => y = f z) hgo hst (fun _ _ _ _ _ r _ => r) (fun _ _ _ _ _ r => r) hl (fun D z x H' N1 N0 hz hD e _ p k1 k0 => hs D z x H' N1 N0 hz hD e p (fun hc H'' e' => k1 hc _ H'' e' rfl) k0) fun D ys H' hD e hD' al => hd D H' hD e (by rw [← al.map]; exact hD')
theorem wk_rng {lo : Int} {n : Nat} : (∀ i z H', (List.range n)[i]? = some z → Ext H H' → (Itr lo n).go i H' ∧ ∀ x H'', (Itr lo n).yld i H' x H'' → Ext H' H'' ∧ x = .int (lo + (z : Nat))) ∧ ∀ H', Ext H H' → (Itr lo n).stop (List.range n).length H' := by
  refine ⟨fun i z H' hz _ => ?_, fun H' _ => by simp [Itr]⟩
  obtain ⟨h1, h2⟩ := List.getElem?_eq_some_iff.mp hz
  have e : i = z := by simpa using h2
  subst e
  exact ⟨(show i < n by simpa using h1), fun x H'' y => ⟨by rw [y.1]; exact Ext.refl _, y.2⟩⟩
theorem SqK.ext {kk : Bool} {H H' : Hp} {a : Addr} {xs : List V} (h : SqK kk H a xs) (e : Ext H H') : SqK kk H' a xs := by
  cases kk
  · exact e.at (show H a = some (.lst xs) from h)
  · exact e.at (show H a = some (.tup xs) from h)
def zipP (z : V × V) (x : V) (H : Hp) : Prop := ∃ p, x = .ref p ∧ H p = some (.tup [z.1, z.2])
theorem wk_zip {ka kb : Bool} {a b : Addr} {xs ys : List V} (ha : SqK ka H a xs) (hb : SqK kb H b ys) : (∀ i z H', (xs.zip ys)[i]? = some z → Ext H H' → (Itz ka kb a b xs ys).go i H' ∧ ∀ x H'', (Itz ka kb a b xs ys).yld i H' x H'' → Ext H' H'' ∧ zipP z x H'') ∧ ∀ H', Ext H H' → (Itz ka kb a b xs ys).stop (xs.zip ys).length H' := by
  refine ⟨fun i z H' hz e => ?_, fun H' e => ⟨ha.ext e, hb.ext e, ?_⟩⟩
  · obtain ⟨h1, h2⟩ := List.getElem?_eq_some_iff.mp hz
    rw [List.length_zip] at h1
    refine ⟨⟨ha.ext e, hb.ext e, by omega, by omega⟩, fun x H'' y => ?_⟩
    obtain ⟨p, u, v, hp, rfl, hu, hv, rfl⟩ := y
    refine ⟨Ext.new hp, p, rfl, ?_⟩
    rw [upd_same]
    rw [List.getElem?_eq_getElem (by omega)] at hu hv
    cases hu; cases hv
    rw [← h2, List.getElem_zip]
  · rw [List.length_zip]; omega
end
def compB (sc : Scope) (N : List Str) (scope : Scope) (N' : List Str) (k : Nat) : Bool :=
  scope.names.all (fun y => !(y.2 == .cell)) && (scope.kind == .function) && scope.names.all (fun y => !(y.2 == .local) || scope.names.lookup y.1 == some .local) && scope.names.all (fun y => !(y.2 == .free) || sc.names.lookup y.1 == some .cell) && decide (N'.length = k + N.length) &&
    ((N'.drop k).zip N).all (fun p => (!(scope.names.lookup p.1 == some .free) || decide (p.1 = p.2)) && !(scope.names.lookup p.1 == some .local))
theorem comp_ok {X : Cx} {scope : Scope} {N' : List Str} {k : Nat} (sc : Scope) (N : List Str) (h1 : X.env.scope = sc) (h2 : X.N = N) (h : compB sc N scope N' k = true) : CompOk X scope N' k := by
  unfold compB at h
  simp only [Bool.and_eq_true, decide_eq_true_eq] at h
  obtain ⟨⟨⟨⟨⟨a1, a2⟩, a3⟩, a4⟩, a5⟩, a6⟩ := h
  rw [List.all_eq_true] at a1 a3 a4 a6
  have pr : ∀ i x, N'[k + i]? = some x → ∃ y, N[i]? = some y ∧ (x, y) ∈ (N'.drop k).zip N := fun i x hx => by
    have h0 := (List.getElem?_eq_some_iff.mp hx).1
    have hi : i < N.length := by omega
    have e1 : (N'.drop k)[i]? = some x := by rw [List.getElem?_drop]; exact hx
    have e2 : N[i]? = some N[i] := List.getElem?_eq_getElem hi
    refine ⟨_, e2, List.mem_of_getElem? (i := i) ?_⟩
    rw [List.getElem?_zip_eq_some]
    exact ⟨e1, e2⟩
  refine ⟨fun y hy e => ?_, by simpa using a2, fun y hy e => ?_, fun y hy e => ?_, by rw [h2]; exact a5, fun i x hx hf => ?_, fun i x hx hf => ?_⟩
  · have := a1 y hy; rw [e] at this; simp at this
  · have := a3 y hy; rw [e] at this; simpa using this
  · have := a4 y hy; rw [e] at this; rw [h1]; simpa using this
  · obtain ⟨y, hy, hm⟩ := pr i x hx
    have := a6 _ hm
    simp only [hf] at this
    rw [h2, hy]
    simp at this
    rw [this]
  · obtain ⟨y, hy, hm⟩ := pr i x hx
    have := a6 _ hm
    simp [hf] at this
end L2
set_option Elab.async false
set_option linter.all false
set_option maxRecDepth 100000
set_option maxHeartbeats 4000000
namespace L2
open PySem PySem.Spec PyProof.Rows
section
variable {X : Cx} {e o value : Expr} {ta tv : TE} {f : Str} {pos pos' : Pos}
end
section
variable {X : Cx} {CX : CXT} {k : Nat} {f C : Addr} {fd : FuncData} {ps : List Str} {sp : Sp} {dvs : List V} {ds : List Value} {E : XK} {x m : Str} {p pos apos : Pos} {e o : Expr} {es : List Expr} {ta : TE} {t : TA}
end
section
variable {X : Cx} {CX : CXT} {k : Nat} {f C : Addr} {fd : FuncData} {ps : List Str} {sp : Sp} {dvs : List V} {ds : List Value} {E : XK} {x m : Str} {p pos apos : Pos} {e o : Expr} {es : List Expr} {ta : TE} {t : TA}
end
end L2
set_option Elab.async false
set_option linter.all false
set_option maxRecDepth 100000
set_option maxHeartbeats 4000000
namespace L2
open PySem PySem.Spec PyProof.Rows
def notStar : Expr → Bool
  | .Starred .. => false
  | _ => true
theorem star_ok {e : Expr} {es : List Expr} {env : Env} (h : notStar e = true) : starEach (e :: es) env = (false, eval e env) :: starEach es env := by
  cases e <;> first | rfl | cases h
theorem pa_c {X : Cx} {e : Expr} {es : List Expr} {te : TE} {t : TA} (ha : PE X e te) (hr : PA X es t) (hn : notStar e = true := by rfl) : PA X (e :: es) (tCons te t) := pa_cons ha hr (star_ok hn)
end L2
namespace L2
open PySem PySem.Spec PyProof.Rows
def TupV (H : Hp) (z : List Int) (y : V) : Prop := ∃ q, y = .ref q ∧ H q = some (.tup (z.map V.int))
theorem tups_all {H : Hp} {f : V → Option PyData} : ∀ {zs : List (List Int)} {ys : List V}, Al (TupV H) zs ys → allSome (ys.map (datF H (datF H f))) = some (zs.map fun z => PyData.tuple (z.map PyData.int))
  | [], ys, h => by rw [List.eq_nil_of_length_eq_zero h.1]; rfl
  | z :: zs, [], h => by have := h.1; simp at this
  | z :: zs, y :: ys, h => by
    obtain ⟨q, rfl, hq⟩ := h.2 0 z y rfl rfl
    have ih := tups_all (H := H) (f := f) (zs := zs) (ys := ys) ⟨by have := h.1; simpa using this, fun i z y a b => h.2 (i + 1) z y (by simpa using a) (by simpa using b)⟩
    have e1 : datF H (datF H f) (.ref q) = some (.tuple (z.map PyData.int)) := by
      rw [m_datF_ref, hq]
      show datO (datF H f) (.tup (z.map V.int)) = _
      rw [m_datO_tup, allSome_ints]; rfl
    rw [List.map_cons, e1, m_allSome_cons, ih]; rfl
theorem tups_eqv : ∀ zs : List (List Int), PyData.eqvAll (zs.map fun z => PyData.tuple (z.map PyData.int)) (zs.map fun z => PyData.tuple (z.map PyData.int)) = true
  | [] => by rw [List.map_nil, eqvAll_nil]
  | z :: zs => by rw [List.map_cons, eqvAll_cons, eqv_tuple, eqvAll_ints, tups_eqv zs]; simp
theorem len5000 {n : Nat} (h : n ≤ 5000) : n ≤ sizeLine := Nat.le_trans h (by decide)
theorem lt5000 {n : Nat} (h : n < 5000) : n < sizeLine := Nat.lt_of_lt_of_le h (by decide)
end L2
set_option Elab.async false
set_option linter.all false
set_option maxRecDepth 100000
set_option maxHeartbeats 4000000
namespace L2
open PySem PySem.Spec PyProof.Rows
theorem wk_al {K : PySem.W.Frag} {H : Hp} {α : Type} {R : α → V → Hp → Prop} (hR : ∀ z y H H', R z y H → Ext H H' → R z y H') {l : Addr} {ys : List V} {zs : List α} (h : H l = some (.lst ys)) (al : Al (fun z y => R z y H) zs ys) :
    (∀ i z H', zs[i]? = some z → Ext H H' → (Itl K l).go i H' ∧ ∀ x H'', (Itl K l).yld i H' x H'' → Ext H' H'' ∧ R z x H'') ∧ ∀ H', Ext H H' → (Itl K l).stop zs.length H' := by
  refine ⟨fun i z H' hz e => ?_, fun H' e => ⟨ys, SqL.of (e.at h), by rw [al.1]; exact Nat.le_refl _⟩⟩
  have hi : i < ys.length := by rw [al.1]; exact (List.getElem?_eq_some_iff.mp hz).1
  have hy : ys[i]? = some ys[i] := List.getElem?_eq_getElem hi
  refine ⟨⟨ys, ys[i], SqL.of (e.at h), hy⟩, fun x H'' y => ?_⟩
  have hx : x = ys[i] := Option.some.inj ((y.2 ys (SqL.of (e.at h))).symm.trans hy)
  refine ⟨by rw [y.1]; exact Ext.refl _, ?_⟩
  rw [hx, y.1]
  exact hR _ _ _ _ (al.2 i z _ hz hy) e
def axP (a : Int × Int) (x : V) (H : Hp) : Prop := ∃ q, x = .ref q ∧ H q = some (.tup [.int a.1, .int a.2])
theorem axP.ext {a : Int × Int} {x : V} {H H' : Hp} (h : axP a x H) (e : Ext H H') : axP a x H' := by
  obtain ⟨q, rfl, hq⟩ := h
  exact ⟨q, rfl, e.at hq⟩
end L2
set_option Elab.async false
set_option linter.all false
set_option maxRecDepth 100000
set_option maxHeartbeats 4000000
namespace L2
open PySem PySem.Spec PyProof.Rows
section
variable {prog : Program} {w : World} {A : Around} {E : Value → Shared → Prop} {s : Shared}
variable {z TI TO i j : Addr} {f g : List Addr} {ti tj : Nat → Heap → Prop} {vi vj : Nat → Option Value} {k m : Nat} {x y : Value} {t : Addr} {fl : Bool} {ot : Obj}
variable {ka kb : Bool} {a b p q : Addr} {as bs : Array Value} {n : Nat}
end
section
variable {X : Cx} {pins : List (Addr × Obj)} {σ : St} {s : Shared}
end
section
variable {X : Cx}
end
end L2
set_option Elab.async false
set_option linter.all false
set_option maxRecDepth 100000
set_option maxHeartbeats 4000000
namespace L2
open PySem PySem.Spec PyProof.Rows
section
variable {X : Cx}
end
section
variable {X : Cx} {a b c d : Expr} {ta tb tc td : TE} {pos : Pos}
end
section
variable {k : Nat} {g : TG} {tt : TT} {te : TE} {σ : St} {Q : VK} {H : Hp} {K : PySem.W.Frag}
end
end L2
set_option Elab.async false
set_option linter.all false
set_option maxRecDepth 100000
set_option maxHeartbeats 4000000
namespace L2
open PySem PySem.Spec PyProof.Rows
section
variable {X : Cx}
end
section
variable {g : TG} {σ : St} {Q : VK} {H : Hp} {K : PySem.W.Frag}
end
section
variable {X : Cx} {CX : CXT} {k : Nat} {f C : Addr} {fd : FuncData} {ps : List Str} {sp : Sp} {dvs : List V} {ds : List Value} {E : St → XK} {x m : Str} {p pos apos : Pos} {e o : Expr} {es : List Expr} {ta : TE} {t : TA}
end
end L2
set_option Elab.async false
set_option linter.all false
set_option maxRecDepth 100000
set_option maxHeartbeats 1000000
namespace L2
open PySem PySem.Spec PyProof.Rows
section
variable {X : Cx} {e st : Expr} {te tst : TE} {pos p2 : Pos}
end
end L2
set_option Elab.async false
set_option linter.all false
set_option maxRecDepth 100000
set_option maxHeartbeats 1000000
namespace L2
open PySem PySem.Spec PyProof.Rows
section
variable {X : Cx}
end
end L2
set_option Elab.async false
set_option linter.all false
set_option maxRecDepth 100000
set_option maxHeartbeats 1000000
namespace L2
open PySem PySem.Spec PyProof.Rows
theorem units1 {n : Nat} (h : n + 64 < cLine) : n + 1 < cLine := by omega
def kDG1 (Q : VK) (x : V) : VK := fun y H => ∃ a v, x = .ref a ∧ DGet H a y (some v) ∧ Q v H
def kDG0 (ty : TE) (σ : St) (Q : VK) : VK := fun x H => ty σ H (kDG1 Q x)
theorem m_kDG0 (ty : TE) (σ : St) (Q : VK) (x : V) (H : Hp) : kDG0 ty σ Q x H = ty σ H (kDG1 Q x) := rfl
theorem m_tDGet (td ty : TE) (σ : St) (H : Hp) (Q : VK) : tDGet td ty σ H Q = td σ H (kDG0 ty σ Q) := rfl
theorem use_dg {H : Hp} {a : Addr} {kvs : List (Key × V)} {k : Key} {v : V} {Q : VK} (e : H a = some (.dK kvs)) (h : valV kvs k = some v) (q : Q v H) : kDG1 Q (.ref a) (kV k) H := ⟨a, v, rfl, h ▸ DGet.k e, q⟩
section
variable {X : Cx}
end
def kDP2 (nx : St → Hp → Prop) (σ : St) (v x : V) : VK := fun y H => ∃ a H4, x = .ref a ∧ DPut H a y v H4 ∧ nx σ H4
def kDP1 (ty : TE) (nx : St → Hp → Prop) (σ : St) (v : V) : VK := fun x H => ty σ H (kDP2 nx σ v x)
theorem m_kDP1 (ty : TE) (nx : St → Hp → Prop) (σ : St) (v x : V) (H : Hp) : kDP1 ty nx σ v x H = ty σ H (kDP2 nx σ v x) := rfl
def kDP0 (td ty : TE) (nx : St → Hp → Prop) (σ : St) : VK := fun v H => td σ H (kDP1 ty nx σ v)
theorem m_kDP0 (td ty : TE) (nx : St → Hp → Prop) (σ : St) (v : V) (H : Hp) : kDP0 td ty nx σ v H = td σ H (kDP1 ty nx σ v) := rfl
theorem m_sDPut (td ty tv : TE) (nx : St → Hp → Prop) (rt : VK) (bk ct : St → Hp → Prop) (σ : St) (H : Hp) : sDPut td ty tv ⟨nx, rt, bk, ct⟩ σ H = tv σ H (kDP0 td ty nx σ) := rfl
theorem use_dp {H : Hp} {a : Addr} {kvs : List (Key × V)} {k : Key} {v : V} {nx : St → Hp → Prop} {σ : St} (e : H a = some (.dK kvs)) (hl : kvs.length < sizeLine) (q : nx σ (upd H a (.dK (putK kvs k v)))) : kDP2 nx σ v (.ref a) (kV k) H := ⟨a, _, rfl, DPut.k e hl, q⟩
end L2
set_option Elab.async false
set_option linter.all false
set_option maxRecDepth 100000
set_option maxHeartbeats 4000000
namespace L2
open PySem PySem.Spec PyProof.Rows
def qSrtD : List V → Hp → VK → Prop := fun vs H Q => ∃ p kvs ns, vs = [.ref p] ∧ H p = some (.dK kvs) ∧ kvs.map (·.1) = ns.map (Sum.inl : Int → Key) ∧ ns.length < 64 ∧ ∀ ms : List Int, ms.Perm ns → ms.Pairwise (· ≤ ·) → newK (.lst (ms.map V.int)) H Q
theorem use_srt {p : Addr} {kvs : List (Key × V)} {ns : List Int} {H : Hp} {Q : VK} (e : H p = some (.dK kvs)) (hk : kvs.map (·.1) = ns.map (Sum.inl : Int → Key)) (hl : ns.length < 64) (q : ∀ ms : List Int, ms.Perm ns → ms.Pairwise (· ≤ ·) → newK (.lst (ms.map V.int)) H Q) : qSrtD [.ref p] H Q := ⟨p, kvs, ns, rfl, e, hk, hl, q⟩
theorem intsAre_get : ∀ {us : List Value} {ns : List Int}, us.length = ns.length → (∀ (i : Nat) (u : Value), us[i]? = some u → ∃ n t, ns[i]? = some n ∧ u = .int n t) → IntsAre us ns
  | [], [], _, _ => .nil
  | [], _ :: _, h, _ => by cases h
  | _ :: _, [], h, _ => by cases h
  | u :: us, n :: ns, h, k => by
    obtain ⟨m, t, e1, rfl⟩ := k 0 u rfl
    cases e1
    exact .cons n t (intsAre_get (by simpa using h) fun i u e => k (i + 1) u (by simpa using e))
theorem vals_of_ints : ∀ {us : List Value} {ns : List Int}, IntsAre us ns → Vals (ns.map V.int) us
  | _, _, .nil => .nil
  | _, _, .cons n t r => .cons ⟨t, rfl⟩ (vals_of_ints r)
theorem paired_get {α β : Type} {F : α → β → Prop} : ∀ {l₁ : List α} {l₂ : List β}, Paired F l₁ l₂ → ∀ {i : Nat} {a : α}, l₁[i]? = some a → ∃ b, l₂[i]? = some b ∧ F a b
  | _, _, .nil, i, a, h => by simp at h
  | _, _, .cons h₁ t, 0, a, h => by cases h; exact ⟨_, rfl, h₁⟩
  | _, _, .cons h₁ t, i + 1, a, h => paired_get t (i := i) (by simpa using h)
section
variable {X : Cx}
theorem call_qSrtD (hc : X.calm = true) : CallR X (.builtin "sorted") qSrtD := by
  intro pins s σ H vs us Q I r h
  obtain ⟨p, kvs, ns, rfl, e, hk, hl, q⟩ := h
  cases r with
  | cons r rr =>
    cases rr
    cases r
    obtain ⟨z, hd, xs, rel, dd⟩ := dk_of I.hok e
    obtain ⟨ep, hat⟩ := dd.dictAt
    have hlen : kvs.length = xs.length := Paired.length rel
    have hln : xs.length = ns.length := by rw [← hlen]; have := congrArg List.length hk; simpa using this
    refine Calls.call_function_entry kind_sorted plain_sorted entry_sorted (args_sorted1 _) ?_
    unfold Builtin.«sorted»
    refine wpAny_bind (m := checkCount "sorted" 1 1 _) (wpAny_pure ?_)
    refine wpAny_bind (PySem.W.kdu_collect (A := X.A.in1) (PySem.W.kdl_dict (knd := mixKind X.prog X.w) (kvs := xs) (ep := ep) hd) (show X.A.in1.handled = none from I.ok.hd hc) hat (by omega) fun h' tk acc kp hacc => ?_)
    have hal : acc.toList.length = ns.length := by rw [Array.length_toList, hacc.1, hln]
    have hI : IntsAre acc.toList ns := by
      refine intsAre_get hal fun i u hu => ?_
      obtain ⟨k, x, hx, hku⟩ := hacc.2 i u (by simpa using hu)
      have hi : i < kvs.length := by rw [hlen]; exact (List.getElem?_eq_some_iff.mp hx).1
      have h1 : kvs[i]? = some kvs[i] := List.getElem?_eq_getElem hi
      obtain ⟨w', hw', rw'⟩ := paired_get rel h1
      rw [hx] at hw'
      cases hw'
      have h2 : (kvs.map (·.1))[i]? = some k := by rw [List.getElem?_map, h1]; exact congrArg some rw'.1
      rw [hk, List.getElem?_map] at h2
      obtain ⟨n, hn, rfl⟩ := Option.map_eq_some_iff.mp h2
      rcases keyIs_shape (show keyIs (Sum.inl n) u = true from hku) with ⟨j, t, e1, e2⟩ | ⟨j, t, e1, e2⟩
      · cases e1
        exact ⟨n, t, hn, e2⟩
      · cases e1
    refine wpAny_bind (wpAny_newList ?_ (by rw [hal]; exact len5000 (by omega)))
    have hoL : (h'.push (seqObj "list" acc.toList.toArray 0)).get? h'.objs.size = some (seqObj "list" acc.toList.toArray 0) := Heap.get?_push_size _ rfl
    refine wpAny_bind (wpAny_holding (wpAny_call_entry slot_list_sort ⟨_, hoL, rfl⟩ entry_list_sort (list_sort_tree hoL hI (by omega) fun out ns' a1 a2 a3 => ⟨_, rfl, ?_⟩) (args_list_sort _)))
    refine wpAny_pure ⟨_, rfl, ?_⟩
    have I2 : Inv X pins σ H { s with heap := h', toks := tk } := I.kept (t' := tk) kp
    have fr := I2.hok.fresh (Nat.le_refl _)
    obtain ⟨e', he'⟩ := sortedHeap_at (out := out) hoL
    refine ⟨.ref h'.objs.size, _, I2.laid (t' := tk) (h' := sortedHeap (h'.push (seqObj "list" acc.toList.toArray 0)) h'.objs.size acc.toList out) (o := .lst (ns'.map V.int)) (fun b u hb => ?_) (Nat.le_refl _) ⟨?_, out.toList, e', vals_of_ints a1, ?_⟩, rfl, q ns' a2 a3 _ _ fr (Ext.new fr) upd_same⟩
    · have hb' : h'.get? b = some u := hb
      have hlt := Heap.lt_size hb'
      rw [sortedHeap_old (Nat.ne_of_lt hlt) (by rw [size_push']; exact Nat.lt_succ_of_lt hlt)]
      exact Heap.get?_push_of_some _ hb'
    · rw [List.length_map, a2.length_eq]; exact len5000 (by omega)
    · rw [Array.toArray_toList]; exact he'
end
def zipA {α β : Type} (R1 : α → V → Hp → Prop) (R2 : β → V → Hp → Prop) (z : α × β) (x : V) (H : Hp) : Prop := ∃ p q1 q2, x = .ref p ∧ H p = some (.tup [q1, q2]) ∧ R1 z.1 q1 H ∧ R2 z.2 q2 H
theorem wk_zipA {H : Hp} {α β : Type} {R1 : α → V → Hp → Prop} {R2 : β → V → Hp → Prop} (h1 : ∀ z y H H', R1 z y H → Ext H H' → R1 z y H') (h2 : ∀ z y H H', R2 z y H → Ext H H' → R2 z y H') {a b : Addr} {xs ys : List V} {zs : List α} {ws : List β} (ha : H a = some (.lst xs)) (hb : H b = some (.lst ys)) (al : Al (fun z y => R1 z y H) zs xs) (bl : Al (fun z y => R2 z y H) ws ys) :
    (∀ i z H', (zs.zip ws)[i]? = some z → Ext H H' → (Itz false false a b xs ys).go i H' ∧ ∀ x H'', (Itz false false a b xs ys).yld i H' x H'' → Ext H' H'' ∧ zipA R1 R2 z x H'') ∧ ∀ H', Ext H H' → (Itz false false a b xs ys).stop (zs.zip ws).length H' := by
  have wk := wk_zip (ka := false) (kb := false) ha hb
  refine ⟨fun i z H' hz e => ?_, fun H' e => ?_⟩
  · obtain ⟨i1, i2⟩ := List.getElem?_eq_some_iff.mp hz
    rw [List.length_zip] at i1
    have hx : xs[i]? = some (xs[i]'(by rw [al.1]; omega)) := List.getElem?_eq_getElem _
    have hy : ys[i]? = some (ys[i]'(by rw [bl.1]; omega)) := List.getElem?_eq_getElem _
    have g1 := al.2 i zs[i] _ (List.getElem?_eq_getElem _) hx
    have g2 := bl.2 i ws[i] _ (List.getElem?_eq_getElem _) hy
    generalize (xs[i]'(by rw [al.1]; omega)) = x0 at hx g1
    generalize (ys[i]'(by rw [bl.1]; omega)) = y0 at hy g2
    have hzz : (xs.zip ys)[i]? = some (x0, y0) := by
      rw [List.getElem?_zip_eq_some]
      exact ⟨hx, hy⟩
    obtain ⟨go, yd⟩ := wk.1 i _ H' hzz e
    refine ⟨go, fun x H'' y => ?_⟩
    obtain ⟨e2, p, hp, hp2⟩ := yd x H'' y
    have ez : z = (zs[i], ws[i]) := by rw [← i2, List.getElem_zip]
    subst ez
    exact ⟨e2, p, x0, y0, hp, hp2, h1 _ _ _ _ g1 (e.trans e2), h2 _ _ _ _ g2 (e.trans e2)⟩
  · have := wk.2 H' e
    rwa [show (zs.zip ws).length = (xs.zip ys).length by rw [List.length_zip, List.length_zip, al.1, bl.1]]
end L2
set_option Elab.async false
set_option linter.all false
set_option maxRecDepth 100000
set_option maxHeartbeats 4000000
namespace L2
open PySem PySem.Spec PyProof.Rows
def tV (i : Nat) : TE := fun σ H Q => match σ[i]? with
  | some (some v) => Q v H
  | _ => False
theorem tV_eq (i : Nat) : tVar i = tV i := by
  funext σ H Q
  refine propext ⟨fun ⟨v, e, q⟩ => ?_, fun h => ?_⟩
  · unfold tV; rw [e]; exact q
  · unfold tV at h
    split at h
    · rename_i v e; exact ⟨v, e, h⟩
    · exact h.elim
theorem m_tV_0 {v : V} {σ : St} {H : Hp} {Q : VK} : tV 0 (some v :: σ) H Q = Q v H := rfl
theorem m_tV_1 {a0 : Option V} {v : V} {σ : St} {H : Hp} {Q : VK} : tV 1 (a0 :: some v :: σ) H Q = Q v H := rfl
theorem m_tV_2 {a0 a1 : Option V} {v : V} {σ : St} {H : Hp} {Q : VK} : tV 2 (a0 :: a1 :: some v :: σ) H Q = Q v H := rfl
theorem m_tV_3 {a0 a1 a2 : Option V} {v : V} {σ : St} {H : Hp} {Q : VK} : tV 3 (a0 :: a1 :: a2 :: some v :: σ) H Q = Q v H := rfl
theorem m_tV_4 {a0 a1 a2 a3 : Option V} {v : V} {σ : St} {H : Hp} {Q : VK} : tV 4 (a0 :: a1 :: a2 :: a3 :: some v :: σ) H Q = Q v H := rfl
theorem m_tV_5 {a0 a1 a2 a3 a4 : Option V} {v : V} {σ : St} {H : Hp} {Q : VK} : tV 5 (a0 :: a1 :: a2 :: a3 :: a4 :: some v :: σ) H Q = Q v H := rfl
theorem m_tV_6 {a0 a1 a2 a3 a4 a5 : Option V} {v : V} {σ : St} {H : Hp} {Q : VK} : tV 6 (a0 :: a1 :: a2 :: a3 :: a4 :: a5 :: some v :: σ) H Q = Q v H := rfl
theorem m_tV_7 {a0 a1 a2 a3 a4 a5 a6 : Option V} {v : V} {σ : St} {H : Hp} {Q : VK} : tV 7 (a0 :: a1 :: a2 :: a3 :: a4 :: a5 :: a6 :: some v :: σ) H Q = Q v H := rfl
theorem m_tV_8 {a0 a1 a2 a3 a4 a5 a6 a7 : Option V} {v : V} {σ : St} {H : Hp} {Q : VK} : tV 8 (a0 :: a1 :: a2 :: a3 :: a4 :: a5 :: a6 :: a7 :: some v :: σ) H Q = Q v H := rfl
theorem m_tV_9 {a0 a1 a2 a3 a4 a5 a6 a7 a8 : Option V} {v : V} {σ : St} {H : Hp} {Q : VK} : tV 9 (a0 :: a1 :: a2 :: a3 :: a4 :: a5 :: a6 :: a7 :: a8 :: some v :: σ) H Q = Q v H := rfl
def nI0 (g : Int → Int → V) : R2 := fun x y H Q => match x, y with
  | .int i, .int j => Q (g i j) H
  | _, _ => False
theorem m_nI0 (g : Int → Int → V) (i j : Int) (H : Hp) (Q : VK) : nI0 g (.int i) (.int j) H Q = Q (g i j) H := rfl
theorem nI0_eq (g : Int → Int → V) : rI0 g = nI0 g := by
  funext x y H Q
  refine propext ⟨fun ⟨i, j, e, e', q⟩ => by subst e e'; exact q, fun h => ?_⟩
  unfold nI0 at h
  split at h
  · exact ⟨_, _, rfl, rfl, h⟩
  · exact h.elim
def nI (C : Int → Int → Prop) (g : Int → Int → V) : R2 := fun x y H Q => match x, y with
  | .int i, .int j => C i j ∧ Q (g i j) H
  | _, _ => False
theorem m_nI (C : Int → Int → Prop) (g : Int → Int → V) (i j : Int) (H : Hp) (Q : VK) : nI C g (.int i) (.int j) H Q = (C i j ∧ Q (g i j) H) := rfl
theorem nI_eq (C : Int → Int → Prop) (g : Int → Int → V) : rI C g = nI C g := by
  funext x y H Q
  refine propext ⟨fun ⟨i, j, e, e', q⟩ => by subst e e'; exact q, fun h => ?_⟩
  unfold nI at h
  split at h
  · exact ⟨_, _, rfl, rfl, h⟩
  · exact h.elim
def kTestN (Q : Bool → Hp → Prop) : VK := fun x H => match x with
  | .bl k => Q k H
  | _ => False
theorem m_kTestN (Q : Bool → Hp → Prop) (k : Bool) (H : Hp) : kTestN Q (.bl k) H = Q k H := rfl
theorem kTest_eq (Q : Bool → Hp → Prop) : kTest Q = kTestN Q := by
  funext x H
  refine propext ⟨fun ⟨k, e, q⟩ => by subst e; exact q, fun h => ?_⟩
  unfold kTestN at h
  split at h
  · exact ⟨_, rfl, h⟩
  · exact h.elim
def nTest (t : TE) : TT := fun σ H Q => t σ H (kTestN Q)
theorem m_nTest (t : TE) (σ : St) (H : Hp) (Q : Bool → Hp → Prop) : nTest t σ H Q = t σ H (kTestN Q) := rfl
theorem nTest_eq (t : TE) : tTest t = nTest t := by
  funext σ H Q
  show t σ H (kTest Q) = t σ H (kTestN Q)
  rw [kTest_eq]
theorem nTest_eqB (t : TE) : tB t = nTest t := nTest_eq t
def kAndN (tb : TE) (σ : St) (Q : VK) : VK := fun x H => match x with
  | .bl c => if c = true then tb σ H Q else Q (.bl false) H
  | _ => False
theorem m_kAndN (tb : TE) (σ : St) (Q : VK) (c : Bool) (H : Hp) : kAndN tb σ Q (.bl c) H = (if c = true then tb σ H Q else Q (.bl false) H) := rfl
def nAndV (ta tb : TE) : TE := fun σ H Q => ta σ H (kAndN tb σ Q)
theorem m_nAndV (ta tb : TE) (σ : St) (H : Hp) (Q : VK) : nAndV ta tb σ H Q = ta σ H (kAndN tb σ Q) := rfl
theorem nAndV_eq (ta tb : TE) : tAndV ta tb = nAndV ta tb := by
  funext σ H Q
  show ta σ H (kAndV tb σ Q) = ta σ H (kAndN tb σ Q)
  congr 1
  funext x H
  refine propext ⟨fun ⟨k, e, q⟩ => by subst e; exact q, fun h => ?_⟩
  unfold kAndN at h
  split at h
  · exact ⟨_, rfl, h⟩
  · exact h.elim
def kOrN (tb : TE) (σ : St) (Q : VK) : VK := fun x H => match x with
  | .bl c => if c = true then Q (.bl true) H else tb σ H Q
  | _ => False
theorem m_kOrN (tb : TE) (σ : St) (Q : VK) (c : Bool) (H : Hp) : kOrN tb σ Q (.bl c) H = (if c = true then Q (.bl true) H else tb σ H Q) := rfl
def nOrV (ta tb : TE) : TE := fun σ H Q => ta σ H (kOrN tb σ Q)
theorem m_nOrV (ta tb : TE) (σ : St) (H : Hp) (Q : VK) : nOrV ta tb σ H Q = ta σ H (kOrN tb σ Q) := rfl
theorem nOrV_eq (ta tb : TE) : tOrV ta tb = nOrV ta tb := by
  funext σ H Q
  show ta σ H (kOrV tb σ Q) = ta σ H (kOrN tb σ Q)
  congr 1
  funext x H
  refine propext ⟨fun ⟨k, e, q⟩ => by subst e; exact q, fun h => ?_⟩
  unfold kOrN at h
  split at h
  · exact ⟨_, rfl, h⟩
  · exact h.elim
def kNotN (Q : VK) : VK := fun x H => match x with
  | .bl c => Q (.bl (!c)) H
  | _ => False
theorem m_kNotN (Q : VK) (c : Bool) (H : Hp) : kNotN Q (.bl c) H = Q (.bl (!c)) H := rfl
def nNotV (ta : TE) : TE := fun σ H Q => ta σ H (kNotN Q)
theorem m_nNotV (ta : TE) (σ : St) (H : Hp) (Q : VK) : nNotV ta σ H Q = ta σ H (kNotN Q) := rfl
theorem nNotV_eq (ta : TE) : tNotV ta = nNotV ta := by
  funext σ H Q
  show ta σ H (kNotV Q) = ta σ H (kNotN Q)
  congr 1
  funext x H
  refine propext ⟨fun ⟨k, e, q⟩ => by subst e; exact q, fun h => ?_⟩
  unfold kNotN at h
  split at h
  · exact ⟨_, rfl, h⟩
  · exact h.elim
def gNilN : TGs := fun vs σ H Q => match vs with
  | [] => Q σ H
  | _ => False
theorem m_gNilN (σ : St) (H : Hp) (Q : St → Hp → Prop) : gNilN [] σ H Q = Q σ H := rfl
theorem gNil_eq : gNil = gNilN := by
  funext vs σ H Q
  refine propext ⟨fun ⟨e, q⟩ => by subst e; exact q, fun h => ?_⟩
  unfold gNilN at h
  split at h
  · exact ⟨rfl, h⟩
  · exact h.elim
def gConsN (t : TG) (u : TGs) : TGs := fun vs σ H Q => match vs with
  | v :: r => t v σ H (kGs u r Q)
  | _ => False
theorem m_gConsN (t : TG) (u : TGs) (v : V) (r : List V) (σ : St) (H : Hp) (Q : St → Hp → Prop) : gConsN t u (v :: r) σ H Q = t v σ H (kGs u r Q) := rfl
theorem gCons_eq (t : TG) (u : TGs) : gCons t u = gConsN t u := by
  funext vs σ H Q
  refine propext ⟨fun ⟨v, r, e, q⟩ => by subst e; exact q, fun h => ?_⟩
  unfold gConsN at h
  split at h
  · exact ⟨_, _, rfl, h⟩
  · exact h.elim
theorem spx1 {α0 : Type} {f : α0 → List V} {B : α0 → Prop} (inj : ∀ a a', f a = f a' → a = a') (a : α0) : (∃ a', f a = f a' ∧ B a') = B a := propext ⟨fun ⟨a', e, q⟩ => by obtain rfl := inj _ _ e; exact q, fun q => ⟨a, rfl, q⟩⟩
theorem spl1 {α0 : Type} {f : α0 → List V} {B : α0 → Prop} {vs : List V} {n : Nat} (h : ∃ a, vs = f a ∧ B a) (l : ∀ a, (f a).length = n) : vs.length = n := by
  obtain ⟨_, rfl, _⟩ := h
  exact l _
theorem spx2 {α0 α1 : Type} {f : α0 → α1 → List V} {B : α0 → α1 → Prop} (inj : ∀ a b a' b', f a b = f a' b' → a = a' ∧ b = b') (a : α0) (b : α1) : (∃ a' b', f a b = f a' b' ∧ B a' b') = B a b := propext ⟨fun ⟨a', b', e, q⟩ => by obtain ⟨rfl, rfl⟩ := inj _ _ _ _ e; exact q, fun q => ⟨a, b, rfl, q⟩⟩
theorem spl2 {α0 α1 : Type} {f : α0 → α1 → List V} {B : α0 → α1 → Prop} {vs : List V} {n : Nat} (h : ∃ a b, vs = f a b ∧ B a b) (l : ∀ a b, (f a b).length = n) : vs.length = n := by
  obtain ⟨_, _, rfl, _⟩ := h
  exact l _ _
theorem spx3 {α0 α1 α2 : Type} {f : α0 → α1 → α2 → List V} {B : α0 → α1 → α2 → Prop} (inj : ∀ a b c a' b' c', f a b c = f a' b' c' → a = a' ∧ b = b' ∧ c = c') (a : α0) (b : α1) (c : α2) : (∃ a' b' c', f a b c = f a' b' c' ∧ B a' b' c') = B a b c := propext ⟨fun ⟨a', b', c', e, q⟩ => by obtain ⟨rfl, rfl, rfl⟩ := inj _ _ _ _ _ _ e; exact q, fun q => ⟨a, b, c, rfl, q⟩⟩
theorem spl3 {α0 α1 α2 : Type} {f : α0 → α1 → α2 → List V} {B : α0 → α1 → α2 → Prop} {vs : List V} {n : Nat} (h : ∃ a b c, vs = f a b c ∧ B a b c) (l : ∀ a b c, (f a b c).length = n) : vs.length = n := by
  obtain ⟨_, _, _, rfl, _⟩ := h
  exact l _ _ _
theorem spx4 {α0 α1 α2 α3 : Type} {f : α0 → α1 → α2 → α3 → List V} {B : α0 → α1 → α2 → α3 → Prop} (inj : ∀ a b c d a' b' c' d', f a b c d = f a' b' c' d' → a = a' ∧ b = b' ∧ c = c' ∧ d = d') (a : α0) (b : α1) (c : α2) (d : α3) : (∃ a' b' c' d', f a b c d = f a' b' c' d' ∧ B a' b' c' d') = B a b c d := propext ⟨fun ⟨a', b', c', d', e, q⟩ => by obtain ⟨rfl, rfl, rfl, rfl⟩ := inj _ _ _ _ _ _ _ _ e; exact q, fun q => ⟨a, b, c, d, rfl, q⟩⟩
theorem spl4 {α0 α1 α2 α3 : Type} {f : α0 → α1 → α2 → α3 → List V} {B : α0 → α1 → α2 → α3 → Prop} {vs : List V} {n : Nat} (h : ∃ a b c d, vs = f a b c d ∧ B a b c d) (l : ∀ a b c d, (f a b c d).length = n) : vs.length = n := by
  obtain ⟨_, _, _, _, rfl, _⟩ := h
  exact l _ _ _ _
theorem len1 {P : List Value → Prop} (h : ∀ a, P [a]) : ∀ us : List Value, us.length = 1 → P us
  | [a], _ => h a
theorem len2 {P : List Value → Prop} (h : ∀ a b, P [a, b]) : ∀ us : List Value, us.length = 2 → P us
  | [a, b], _ => h a b
theorem len3 {P : List Value → Prop} (h : ∀ a b c, P [a, b, c]) : ∀ us : List Value, us.length = 3 → P us
  | [a, b, c], _ => h a b c
theorem len4 {P : List Value → Prop} (h : ∀ a b c d, P [a, b, c, d]) : ∀ us : List Value, us.length = 4 → P us
  | [a, b, c, d], _ => h a b c d
section
variable {X : Cx}
theorem pvN (i : Nat) {x : Str} {pos : Pos} (hN : X.N[i]? = some x := by rfl) (hv : Vis X.env.scope x := by first | exact Or.inl rfl | exact Or.inr (Or.inl rfl) | exact Or.inr (Or.inr rfl)) (hd : (x == ("__debug__" : Str)) = false := by decide)
    (hcd : (x == ("__classdict__" : Str)) = false := by decide) : PE X (.Name x pos) (tV i) := by rw [← tV_eq]; exact pv i hN hv hd hcd
theorem on_add : OpR X (binaryOp .Add) (nI0 fun i j => .int (i + j)) := by rw [← nI0_eq]; exact op_add
theorem on_sub : OpR X (binaryOp .Sub) (nI0 fun i j => .int (i - j)) := by rw [← nI0_eq]; exact op_sub
theorem on_lt : OpR X (compareOp .Lt) (nI0 fun i j => .bl (decide (i < j))) := by rw [← nI0_eq]; exact op_lt
theorem on_gt : OpR X (compareOp .Gt) (nI0 fun i j => .bl (decide (j < i))) := by rw [← nI0_eq]; exact op_gt
theorem on_mul : OpR X (binaryOp .Mult) (nI CMul fun i j => .int (i * j)) := by rw [← nI_eq]; exact op_mul
theorem on_fdiv : OpR X (binaryOp .FloorDiv) (nI CDiv fun i j => .int (i / j)) := by rw [← nI_eq]; exact op_fdiv
theorem on_fdivB : OpR X (binaryOp .FloorDiv) (nI CDivB fun i j => .int (i.fdiv j)) := by rw [← nI_eq]; exact op_fdivB
theorem on_mod : OpR X (binaryOp .Mod) (nI (fun _ j => 0 < j) fun i j => .int (i % j)) := by rw [← nI_eq]; exact op_mod
theorem on_pow : OpR X (binaryOp .Pow) (nI CPow fun i j => .int (i ^ j.toNat)) := by rw [← nI_eq]; exact op_pow
variable {a b c d e : Expr} {ta tb tc td t : TE} {pos : Pos}
theorem pt_cmpRN {op : CmpOp} {r : R2} (ho : OpR X (compareOp op) r) (ha : PE X a ta) (hb : PE X b tb) (hm : behindInMarks op b = false) : PT X (.Compare a [op] [b] pos) (nTest (tOp r ta tb)) := by rw [← nTest_eq]; exact pt_cmpR ho ha hb hm
theorem pt_valN (h : PE X e t) (he : ∀ whole, isTrue e X.env whole = (do let v ← whole; standAt e.pos; holding [v] (truthy v)) := by intro _; rfl) : PT X e (nTest t) := by rw [← nTest_eqB]; exact pt_val h he
variable {rest : List Expr}
theorem pe_andN (ha : PE X a ta) (hb : PE X (.BoolOp .And (b :: rest) pos) tb) : PE X (.BoolOp .And (a :: b :: rest) pos) (nAndV ta tb) := by rw [← nAndV_eq]; exact pe_and ha hb
theorem pe_orN (ha : PE X a ta) (hb : PE X (.BoolOp .Or (b :: rest) pos) tb) : PE X (.BoolOp .Or (a :: b :: rest) pos) (nOrV ta tb) := by rw [← nOrV_eq]; exact pe_or ha hb
theorem pe_notN (ha : PE X a ta) : PE X (.UnaryOp .Not a pos) (nNotV ta) := by rw [← nNotV_eq]; exact pe_not ha
theorem pgs_nilN : PGs X [] gNilN := by rw [← gNil_eq]; exact pgs_nil
theorem pgs_consN {e : Expr} {es : List Expr} {t : TG} {u : TGs} (h1 : PG X e t) (h2 : PGs X es u)
    (hs : (assignEach (e :: es) X.env).map (·.2) = assign e X.env :: (assignEach es X.env).map (·.2) := by rfl) : PGs X (e :: es) (gConsN t u) := by rw [← gCons_eq]; exact pgs_cons h1 h2 hs
end
theorem mo_tV {i : Nat} : ME (tV i) := by rw [← tV_eq]; exact mo_var
theorem mo_nI0 {g : Int → Int → V} : MR (nI0 g) := by rw [← nI0_eq]; exact mo_rI0
theorem mo_nTest {t : TE} (h : ME t) : MT (nTest t) := by rw [← nTest_eq]; exact mo_test h
end L2
namespace PH
theorem gcd_step (f r : Int) (hr : 0 < r) (hf : 0 ≤ f) : Int.gcd r (f % r) = Int.gcd f r := by
  obtain ⟨n, rfl⟩ := Int.eq_ofNat_of_zero_le hf
  obtain ⟨m, rfl⟩ := Int.eq_ofNat_of_zero_le (Int.le_of_lt hr)
  show Nat.gcd (m : Int).natAbs (((n : Int) % (m : Int))).natAbs = Nat.gcd (n : Int).natAbs (m : Int).natAbs
  rw [← Int.natCast_emod]
  simp only [Int.natAbs_natCast]
  rw [Nat.gcd_comm n m, Nat.gcd_rec m n, Nat.gcd_comm]
theorem gcd_abs (a b : Int) : Int.gcd (if a < 0 then -a else a) (if b < 0 then -b else b) = Int.gcd a b := by
  have h : ∀ x : Int, (if x < 0 then -x else x).natAbs = x.natAbs := by
    intro x; split
    · exact Int.natAbs_neg x
    · rfl
  show Nat.gcd _ _ = Nat.gcd _ _
  rw [h a, h b]
theorem abs_nn (a : Int) : 0 ≤ (if a < 0 then -a else a) := by split <;> omega
theorem gcd_zero (f : Int) (hf : 0 ≤ f) : (Int.gcd f 0 : Int) = f := by
  rw [Int.gcd_zero_right]; omega
def gcdL (ns : List Int) : Int := ns.foldl (fun f n => (Int.gcd f n : Int)) 0
theorem gcdL_take (ns : List Int) (i : Nat) (z : Int) (h : ns[i]? = some z) : gcdL (ns.take (i + 1)) = (Int.gcd (gcdL (ns.take i)) z : Int) := by
  unfold gcdL
  rw [List.take_add_one, h]
  simp [List.foldl_append]
end PH
namespace PH
open L2 PySem
abbrev Tm3 := Int × Int × Int
def lsum (zs : List Tm3) (cs : List (Int × Int)) : Int := ((zs.zip cs).map fun p => p.1.1 * p.2.1).sum
def gsum (zs : List Tm3) (cs : List (Int × Int)) : Int := ((zs.zip cs).map fun p => p.1.1 * p.2.2).sum
def restL (zs : List Tm3) (cs : List (Int × Int)) : List Int := ((zs.zip cs).filter fun p => decide (p.2.1 < p.2.2)).map fun p => p.1.1
def endedB (g l gr r : Int) : Bool := decide (g < l) || decide (gr < g) || (decide (1 < r) && decide (0 < (g - l) % r))
def ended (zs : List Tm3) (cs : List (Int × Int)) (g : Int) : Bool := endedB g (lsum zs cs) (gsum zs cs) (gcdL (restL zs cs))
structure TmsOk (zs : List Tm3) : Prop where
  len : zs.length ≤ 17
  all : ∀ z ∈ zs, (1 ≤ z.1 ∧ z.1 ≤ 2000000000000000000) ∧ (-8 ≤ z.2.1 ∧ z.2.1 ≤ 8) ∧ z.2.1 < z.2.2 ∧ z.2.2 ≤ 2000000000
structure CsOk (zs : List Tm3) (cs : List (Int × Int)) : Prop where
  len : cs.length = zs.length
  all : ∀ p ∈ zs.zip cs, p.1.2.1 ≤ p.2.1 ∧ p.2.1 ≤ p.2.2 ∧ p.2.2 ≤ p.1.2.2
theorem sum_le {α : Type} (f g : α → Int) : ∀ l : List α, (∀ x ∈ l, f x ≤ g x) → (l.map f).sum ≤ (l.map g).sum
  | [], _ => Int.le_refl _
  | x :: l, h => by
    simp only [List.map_cons, List.sum_cons]
    have a := h x List.mem_cons_self
    have b := sum_le f g l fun y hy => h y (List.mem_cons_of_mem _ hy)
    omega
theorem lsum_le {zs : List Tm3} {cs : List (Int × Int)} (h : TmsOk zs) (hc : CsOk zs cs) : lsum zs cs ≤ gsum zs cs :=
  sum_le _ _ _ fun p hp => Int.mul_le_mul_of_nonneg_left (hc.all p hp).2.1 (by have := (h.all p.1 (List.of_mem_zip hp).1).1; omega)
theorem zip_range {α β : Type} {zs : List α} {cs : List β} (h : cs.length = zs.length) (d : α) (e : β) : zs.zip cs = (List.range zs.length).map fun k => (zs.getD k d, cs.getD k e) := by
  refine List.ext_getElem? fun i => ?_
  rw [List.getElem?_map]
  by_cases hi : i < zs.length
  · rw [List.getElem?_range hi, List.getElem?_eq_getElem (by rw [List.length_zip]; omega), List.getElem_zip]
    simp [List.getD, List.getElem?_eq_getElem hi, List.getElem?_eq_getElem (show i < cs.length by omega)]
  · rw [List.getElem?_eq_none (by rw [List.length_zip]; omega), List.getElem?_eq_none (by simp; omega)]
    rfl
theorem lsum_range {zs : List Tm3} {cs : List (Int × Int)} (h : cs.length = zs.length) : lsum zs cs = ((List.range zs.length).map fun k => (zs.getD k default).1 * (cs.getD k default).1).sum := by
  unfold lsum
  rw [zip_range h default default, List.map_map]
  rfl
theorem gsum_range {zs : List Tm3} {cs : List (Int × Int)} (h : cs.length = zs.length) : gsum zs cs = ((List.range zs.length).map fun k => (zs.getD k default).1 * (cs.getD k default).2).sum := by
  unfold gsum
  rw [zip_range h default default, List.map_map]
  rfl
theorem restL_range {zs : List Tm3} {cs : List (Int × Int)} (h : cs.length = zs.length) : restL zs cs = ((List.range zs.length).filter fun k => decide ((cs.getD k default).1 < (cs.getD k default).2)).map fun k => (zs.getD k default).1 := by
  unfold restL
  rw [zip_range h default default, List.filter_map, List.map_map]
  rfl
theorem restL_pos {zs : List Tm3} {cs : List (Int × Int)} (h : TmsOk zs) : ∀ n ∈ restL zs cs, 1 ≤ n := by
  intro n hn
  obtain ⟨p, hp, rfl⟩ := List.mem_map.mp hn
  exact (h.all p.1 (List.of_mem_zip (List.mem_filter.mp hp).1).1).1.1
theorem gcdL_nn (ns : List Int) : 0 ≤ gcdL ns := by
  have : ∀ (ns : List Int) (a : Int), 0 ≤ a → 0 ≤ ns.foldl (fun f n => (Int.gcd f n : Int)) a := by
    intro ns
    induction ns with
    | nil => intro a h; exact h
    | cons n ns ih => intro a h; exact ih _ (by show (0 : Int) ≤ (Int.gcd a n : Int); omega)
  exact this ns 0 (Int.le_refl _)
theorem filt {α : Type} (l : List α) : l.filter (fun _ => true) = l := by simp
def trP (z : Tm3) (x : V) (H : Hp) : Prop := ∃ q, x = .ref q ∧ H q = some (.tup [.int z.1, .int z.2.1, .int z.2.2])
theorem trP.ext {z : Tm3} {x : V} {H H' : Hp} (h : trP z x H) (e : Ext H H') : trP z x H' := by
  obtain ⟨q, rfl, hq⟩ := h
  exact ⟨q, rfl, e.at hq⟩
def LAt {α : Type} (R : α → V → Hp → Prop) (H : Hp) (p : Addr) (zs : List α) : Prop := ∃ ys, H p = some (.lst ys) ∧ Al (fun z y => R z y H) zs ys
theorem LAt.ext {α : Type} {R : α → V → Hp → Prop} {H H' : Hp} {p : Addr} {zs : List α} (hR : ∀ z y H H', R z y H → Ext H H' → R z y H') (h : LAt R H p zs) (e : Ext H H') : LAt R H' p zs := by
  obtain ⟨ys, hp, al⟩ := h
  exact ⟨ys, e.at hp, al.imp fun _ _ r => hR _ _ _ _ r e⟩
abbrev TrAt (H : Hp) (p : Addr) (zs : List Tm3) : Prop := LAt trP H p zs
abbrev PrAt (H : Hp) (p : Addr) (cs : List (Int × Int)) : Prop := LAt axP H p cs
theorem tr_ext {H H' : Hp} {p : Addr} {zs : List Tm3} (h : TrAt H p zs) (e : Ext H H') : TrAt H' p zs := LAt.ext (fun _ _ _ _ r e => r.ext e) h e
theorem pr_ext {H H' : Hp} {p : Addr} {zs : List (Int × Int)} (h : PrAt H p zs) (e : Ext H H') : PrAt H' p zs := LAt.ext (fun _ _ _ _ r e => r.ext e) h e
theorem tr_get {H : Hp} {zs : List Tm3} {ys : List V} (al : Al (fun z y => trP z y H) zs ys) {k : Nat} (hk : k < zs.length) : ∃ q, atI ys (0 + (k : Int)) = some (.ref q) ∧ H q = some (.tup [.int (zs.getD k default).1, .int (zs.getD k default).2.1, .int (zs.getD k default).2.2]) := by
  have hy : ys[k]? = some (ys[k]'(by rw [al.1]; exact hk)) := List.getElem?_eq_getElem _
  obtain ⟨q, h1, h2⟩ := al.2 k _ _ (List.getElem?_eq_getElem hk) hy
  refine ⟨q, by rw [Int.zero_add]; exact atI_nat (by rw [hy, h1]), ?_⟩
  rw [show zs.getD k default = zs[k] by simp [List.getD, List.getElem?_eq_getElem hk]]
  exact h2
theorem pr_get {H : Hp} {zs : List (Int × Int)} {ys : List V} (al : Al (fun z y => axP z y H) zs ys) {k : Nat} (hk : k < zs.length) : ∃ q, atI ys (0 + (k : Int)) = some (.ref q) ∧ H q = some (.tup [.int (zs.getD k default).1, .int (zs.getD k default).2]) := by
  have hy : ys[k]? = some (ys[k]'(by rw [al.1]; exact hk)) := List.getElem?_eq_getElem _
  obtain ⟨q, h1, h2⟩ := al.2 k _ _ (List.getElem?_eq_getElem hk) hy
  refine ⟨q, by rw [Int.zero_add]; exact atI_nat (by rw [hy, h1]), ?_⟩
  rw [show zs.getD k default = zs[k] by simp [List.getD, List.getElem?_eq_getElem hk]]
  exact h2
theorem zip_getD {zs : List Tm3} {cs : List (Int × Int)} (h : cs.length = zs.length) {k : Nat} (hk : k < zs.length) : (zs.getD k default, cs.getD k default) ∈ zs.zip cs := by
  rw [zip_range h default default]
  exact List.mem_map.mpr ⟨k, List.mem_range.mpr hk, rfl⟩
theorem al_tr {H : Hp} {zs : List Tm3} {ys : List V} (al : Al (fun z y => trP z y H) zs ys) : Al (TupV H) (zs.map fun z => [z.1, z.2.1, z.2.2]) ys := by
  refine ⟨by rw [al.1, List.length_map], fun i z y hz hy => ?_⟩
  rw [List.getElem?_map] at hz
  obtain ⟨a, ha, rfl⟩ := Option.map_eq_some_iff.mp hz
  exact al.2 i a y ha hy
theorem al_pr {H : Hp} {zs : List (Int × Int)} {ys : List V} (al : Al (fun z y => axP z y H) zs ys) : Al (TupV H) (zs.map fun z => [z.1, z.2]) ys := by
  refine ⟨by rw [al.1, List.length_map], fun i z y hz hy => ?_⟩
  rw [List.getElem?_map] at hz
  obtain ⟨a, ha, rfl⟩ := Option.map_eq_some_iff.mp hz
  exact al.2 i a y ha hy
theorem Al.cons' {α : Type} {R : α → V → Prop} {z : α} {y : V} {zs : List α} {ys : List V} (r : R z y) (h : Al R zs ys) : Al R (z :: zs) (y :: ys) := ⟨by simp [h.1], fun i z' y' a b => by
  cases i with
  | zero => cases a; cases b; exact r
  | succ n => exact h.2 n z' y' (by simpa using a) (by simpa using b)⟩
theorem axP.upd {z : Int × Int} {y : V} {H : Hp} {p : Addr} {xs : List V} {o : HO} (h : axP z y H) (hp : H p = some (.lst xs)) : axP z y (upd H p o) := by
  obtain ⟨q, rfl, hq⟩ := h
  exact ⟨q, rfl, by rw [upd_ne (fun e => by rw [e, hp] at hq; cases hq)]; exact hq⟩
theorem zip_snoc {α β : Type} {zs : List α} {cs : List β} {k : Nat} {z : α} {c : β} (h : cs.length = k) (hz : zs[k]? = some z) : zs.zip (cs ++ [c]) = zs.zip cs ++ [(z, c)] := by
  obtain ⟨hk, rfl⟩ := List.getElem?_eq_some_iff.mp hz
  have e1 : zs = zs.take k ++ zs.drop k := (List.take_append_drop k zs).symm
  have e2 : (zs.take k).length = cs.length := by rw [List.length_take]; omega
  have e3 : zs.drop k = zs[k] :: zs.drop (k + 1) := List.drop_eq_getElem_cons hk
  have e4 : zs.zip (cs ++ [c]) = (zs.take k).zip cs ++ (zs.drop k).zip [c] := by
    conv => lhs; rw [e1]
    exact List.zip_append e2
  have e5 : zs.zip cs = (zs.take k).zip cs ++ (zs.drop k).zip [] := by
    conv => lhs; rw [e1, ← List.append_nil cs]
    exact List.zip_append e2
  rw [e4, e5, e3]
  rw [List.zip_cons_cons, List.zip_nil_right, List.zip_nil_right, List.append_nil]
theorem all_putK {P : Key × V → Prop} {kvs : List (Key × V)} {k : Key} {v : V} (h : ∀ kv ∈ kvs, P kv) (hk : P (k, v)) : ∀ kv ∈ putK kvs k v, P kv := by
  intro kv hm
  unfold putK at hm
  split at hm
  · obtain ⟨x, hx, rfl⟩ := List.mem_map.mp hm
    split
    · rename_i e
      rw [e]
      exact hk
    · exact h x hx
  · rcases List.mem_append.mp hm with hm | hm
    · exact h _ hm
    · rw [List.mem_singleton.mp hm]
      exact hk
theorem keys_ints {B : Int → V → Prop} : ∀ {kvs : List (Key × V)}, (∀ kv ∈ kvs, ∃ n : Int, kv.1 = .inl n ∧ B n kv.2) → ∃ ns : List Int, kvs.map (·.1) = ns.map (Sum.inl : Int → Key)
  | [], _ => ⟨[], rfl⟩
  | kv :: kvs, h => by
    obtain ⟨n, e, _⟩ := h kv List.mem_cons_self
    obtain ⟨ns, e'⟩ := keys_ints (kvs := kvs) fun x hx => h x (List.mem_cons_of_mem _ hx)
    exact ⟨n :: ns, by rw [List.map_cons, List.map_cons, e, e']⟩
theorem key_val {B : Int → V → Prop} {kvs : List (Key × V)} {ns : List Int} (h : ∀ kv ∈ kvs, ∃ n : Int, kv.1 = .inl n ∧ B n kv.2) (hk : kvs.map (·.1) = ns.map (Sum.inl : Int → Key)) {n : Int} (hn : n ∈ ns) : ∃ v, valV kvs (.inl n) = some v ∧ B n v := by
  cases hv : valV kvs (.inl n) with
  | none => exact absurd (show (Sum.inl n : Key) ∈ kvs.map (·.1) by rw [hk]; exact List.mem_map.mpr ⟨n, hn, rfl⟩) (L2.valV_not hv)
  | some v =>
    refine ⟨v, rfl, ?_⟩
    unfold valV at hv
    obtain ⟨kv, hf, rfl⟩ := Option.map_eq_some_iff.mp hv
    obtain ⟨m, e1, hb⟩ := h kv (List.mem_of_find?_eq_some hf)
    have e2 := List.find?_some hf
    have e3 : kv.1 = .inl n := of_decide_eq_true e2
    rw [e1] at e3
    cases e3
    exact hb
end PH
set_option Elab.async false
set_option linter.all false
set_option maxRecDepth 100000
set_option maxHeartbeats 4000000
namespace PH
open PySem L2
def top (i : Nat) : Stmt := PySem.Challenge.pw_pacehall_k52_cases.main.body.getD i (.Pass ⟨0, 0, 0, 0⟩)
abbrev s_divisor : Stmt := top 1
theorem c_divisor : FnScope ["one", "other", "found", "rest", "smaller"] ["one", "other"] (defScope s_divisor) := ⟨rfl, rfl, rfl, by decide +kernel, rfl, by decide +kernel, by decide +kernel⟩
abbrev s_divisor_of : Stmt := top 2
theorem c_divisor_of : FnScope ["numbers", "found", "number"] ["numbers"] (defScope s_divisor_of) := ⟨rfl, rfl, rfl, by decide +kernel, rfl, by decide +kernel, by decide +kernel⟩
abbrev s_least_sum : Stmt := top 4
theorem c_least_sum : FnScope ["terms", "case"] ["terms", "case"] (defScope s_least_sum) := ⟨rfl, rfl, rfl, by decide +kernel, rfl, by decide +kernel, by decide +kernel⟩
abbrev s_greatest_sum : Stmt := top 5
theorem c_greatest_sum : FnScope ["terms", "case"] ["terms", "case"] (defScope s_greatest_sum) := ⟨rfl, rfl, rfl, by decide +kernel, rfl, by decide +kernel, by decide +kernel⟩
abbrev s_rest_of : Stmt := top 6
theorem c_rest_of : FnScope ["terms", "case"] ["terms", "case"] (defScope s_rest_of) := ⟨rfl, rfl, rfl, by decide +kernel, rfl, by decide +kernel, by decide +kernel⟩
abbrev s_end_of : Stmt := top 7
theorem c_end_of : FnScope ["terms", "goal", "case", "least", "rest"] ["terms", "goal", "case"] (defScope s_end_of) := ⟨rfl, rfl, rfl, by decide +kernel, rfl, by decide +kernel, by decide +kernel⟩
abbrev s_is_ended : Stmt := top 8
theorem c_is_ended : FnScope ["terms", "goal", "case"] ["terms", "goal", "case"] (defScope s_is_ended) := ⟨rfl, rfl, rfl, by decide +kernel, rfl, by decide +kernel, by decide +kernel⟩
abbrev s__law_draw : Stmt := top 10
theorem c__law_draw : FnScope ["_law_script", "_law_k", "_law_many", "_law_number", "_law_cell"] ["_law_script", "_law_k", "_law_many"] (defScope s__law_draw) := ⟨rfl, rfl, rfl, by decide +kernel, rfl, by decide +kernel, by decide +kernel⟩
abbrev s__law_whole : Stmt := top 11
theorem c__law_whole : FnScope ["_law_found"] ["_law_found"] (defScope s__law_whole) := ⟨rfl, rfl, rfl, by decide +kernel, rfl, by decide +kernel, by decide +kernel⟩
abbrev s__law_sums : Stmt := top 12
theorem c__law_sums : FnScope ["_law_terms", "_law_case_here", "_law_least"] ["_law_terms", "_law_case_here"] (defScope s__law_sums) := ⟨rfl, rfl, rfl, by decide +kernel, rfl, by decide +kernel, by decide +kernel⟩
abbrev s__law_divisor : Stmt := top 13
theorem c__law_divisor : FnScope ["_law_numbers", "_law_found", "_law_other", "_law_one"] ["_law_numbers"] (defScope s__law_divisor) := ⟨rfl, rfl, rfl, by decide +kernel, rfl, by decide +kernel, by decide +kernel⟩
abbrev s__law_ended : Stmt := top 14
theorem c__law_ended : FnScope ["_law_terms", "_law_goal", "_law_case_here", "_law_least", "_law_greatest", "_law_rest"] ["_law_terms", "_law_goal", "_law_case_here"] (defScope s__law_ended) := ⟨rfl, rfl, rfl, by decide +kernel, rfl, by decide +kernel, by decide +kernel⟩
abbrev s__law_drawn : Stmt := top 15
theorem c__law_drawn : FnScope ["_law_script", "_law_factor", "_law_most", "_law_times", "_law_k", "_law_terms", "_law_one", "_law_cell", "_law_low"] ["_law_script"] (defScope s__law_drawn) := ⟨rfl, rfl, rfl, by decide +kernel, rfl, by decide +kernel, by decide +kernel⟩
abbrev s__law_case : Stmt := top 16
theorem c__law_case : FnScope ["_law_script", "_law_terms", "_law_case_here", "_law_k", "_law_times", "_law_low", "_law_high", "_law_cell", "_law_first", "_law_last"] ["_law_script", "_law_terms"] (defScope s__law_case) := ⟨rfl, rfl, rfl, by decide +kernel, rfl, by decide +kernel, by decide +kernel⟩
abbrev s__law_right : Stmt := top 17
theorem c__law_right : FnScope ["_law_found", "_law_due"] ["_law_found", "_law_due"] (defScope s__law_right) := ⟨rfl, rfl, rfl, by decide +kernel, rfl, by decide +kernel, by decide +kernel⟩
abbrev s__law_asked : Stmt := top 18
theorem c__law_asked : FnScope ["_law_terms", "_law_goal", "_law_case_here", "_law_handed", "_law_least", "_law_greatest", "_law_rest", "_law_found"] ["_law_terms", "_law_goal", "_law_case_here"] (defScope s__law_asked) := ⟨rfl, rfl, rfl, by decide +kernel, rfl, by decide +kernel, by decide +kernel⟩
abbrev s__law_goals : Stmt := top 19
theorem c__law_goals : FnScope ["_law_script", "_law_factor", "_law_terms", "_law_case_here", "_law_least", "_law_greatest", "_law_cell", "_law_amid", "_law_some"] ["_law_script", "_law_factor", "_law_terms", "_law_case_here"] (defScope s__law_goals) := ⟨rfl, rfl, rfl, by decide +kernel, rfl, by decide +kernel, by decide +kernel⟩
abbrev s_law : Stmt := top 20
theorem c_law : FnScope ["_law_script", "_law_factor", "_law_terms", "_law_case_here", "_law_wide", "_law_some", "_law_goals_here", "_law_goal"] ["_law_script"] (defScope s_law) := ⟨rfl, rfl, rfl, by decide +kernel, rfl, by decide +kernel, by decide +kernel⟩
set_option genInjectivity false in
structure Adr where
  a_divisor : Addr
  d_divisor : FuncData
  a_divisor_of : Addr
  d_divisor_of : FuncData
  a_least_sum : Addr
  d_least_sum : FuncData
  a_greatest_sum : Addr
  d_greatest_sum : FuncData
  a_rest_of : Addr
  d_rest_of : FuncData
  a_end_of : Addr
  d_end_of : FuncData
  a_is_ended : Addr
  d_is_ended : FuncData
  a__law_draw : Addr
  d__law_draw : FuncData
  a__law_whole : Addr
  d__law_whole : FuncData
  a__law_sums : Addr
  d__law_sums : FuncData
  a__law_divisor : Addr
  d__law_divisor : FuncData
  a__law_ended : Addr
  d__law_ended : FuncData
  a__law_drawn : Addr
  d__law_drawn : FuncData
  a__law_case : Addr
  d__law_case : FuncData
  a__law_right : Addr
  d__law_right : FuncData
  a__law_asked : Addr
  d__law_asked : FuncData
  a__law_goals : Addr
  d__law_goals : FuncData
  a_law : Addr
  d_law : FuncData
structure Tx (K : PySem.W.Frag) (mg : Str → Option Value) (t : Adr) : Prop where
  F_divisor : Fun K "divisor" "divisor" s_divisor t.a_divisor t.d_divisor
  m_divisor : mg "divisor" = some (.ref t.a_divisor)
  b_divisor : Binds K t.d_divisor ["one", "other"] []
  F_divisor_of : Fun K "divisor_of" "divisor_of" s_divisor_of t.a_divisor_of t.d_divisor_of
  m_divisor_of : mg "divisor_of" = some (.ref t.a_divisor_of)
  b_divisor_of : Binds K t.d_divisor_of ["numbers"] []
  F_least_sum : Fun K "least_sum" "least_sum" s_least_sum t.a_least_sum t.d_least_sum
  m_least_sum : mg "least_sum" = some (.ref t.a_least_sum)
  b_least_sum : Binds K t.d_least_sum ["terms", "case"] []
  F_greatest_sum : Fun K "greatest_sum" "greatest_sum" s_greatest_sum t.a_greatest_sum t.d_greatest_sum
  m_greatest_sum : mg "greatest_sum" = some (.ref t.a_greatest_sum)
  b_greatest_sum : Binds K t.d_greatest_sum ["terms", "case"] []
  F_rest_of : Fun K "rest_of" "rest_of" s_rest_of t.a_rest_of t.d_rest_of
  m_rest_of : mg "rest_of" = some (.ref t.a_rest_of)
  b_rest_of : Binds K t.d_rest_of ["terms", "case"] []
  F_end_of : Fun K "end_of" "end_of" s_end_of t.a_end_of t.d_end_of
  m_end_of : mg "end_of" = some (.ref t.a_end_of)
  b_end_of : Binds K t.d_end_of ["terms", "goal", "case"] []
  F_is_ended : Fun K "is_ended" "is_ended" s_is_ended t.a_is_ended t.d_is_ended
  m_is_ended : mg "is_ended" = some (.ref t.a_is_ended)
  b_is_ended : Binds K t.d_is_ended ["terms", "goal", "case"] []
  F__law_draw : Fun K "_law_draw" "_law_draw" s__law_draw t.a__law_draw t.d__law_draw
  m__law_draw : mg "_law_draw" = some (.ref t.a__law_draw)
  b__law_draw : Binds K t.d__law_draw ["_law_script", "_law_k", "_law_many"] []
  F__law_whole : Fun K "_law_whole" "_law_whole" s__law_whole t.a__law_whole t.d__law_whole
  m__law_whole : mg "_law_whole" = some (.ref t.a__law_whole)
  b__law_whole : Binds K t.d__law_whole ["_law_found"] []
  F__law_sums : Fun K "_law_sums" "_law_sums" s__law_sums t.a__law_sums t.d__law_sums
  m__law_sums : mg "_law_sums" = some (.ref t.a__law_sums)
  b__law_sums : Binds K t.d__law_sums ["_law_terms", "_law_case_here"] []
  F__law_divisor : Fun K "_law_divisor" "_law_divisor" s__law_divisor t.a__law_divisor t.d__law_divisor
  m__law_divisor : mg "_law_divisor" = some (.ref t.a__law_divisor)
  b__law_divisor : Binds K t.d__law_divisor ["_law_numbers"] []
  F__law_ended : Fun K "_law_ended" "_law_ended" s__law_ended t.a__law_ended t.d__law_ended
  m__law_ended : mg "_law_ended" = some (.ref t.a__law_ended)
  b__law_ended : Binds K t.d__law_ended ["_law_terms", "_law_goal", "_law_case_here"] []
  F__law_drawn : Fun K "_law_drawn" "_law_drawn" s__law_drawn t.a__law_drawn t.d__law_drawn
  m__law_drawn : mg "_law_drawn" = some (.ref t.a__law_drawn)
  b__law_drawn : Binds K t.d__law_drawn ["_law_script"] []
  F__law_case : Fun K "_law_case" "_law_case" s__law_case t.a__law_case t.d__law_case
  m__law_case : mg "_law_case" = some (.ref t.a__law_case)
  b__law_case : Binds K t.d__law_case ["_law_script", "_law_terms"] []
  F__law_right : Fun K "_law_right" "_law_right" s__law_right t.a__law_right t.d__law_right
  m__law_right : mg "_law_right" = some (.ref t.a__law_right)
  b__law_right : Binds K t.d__law_right ["_law_found", "_law_due"] []
  F__law_asked : Fun K "_law_asked" "_law_asked" s__law_asked t.a__law_asked t.d__law_asked
  m__law_asked : mg "_law_asked" = some (.ref t.a__law_asked)
  b__law_asked : Binds K t.d__law_asked ["_law_terms", "_law_goal", "_law_case_here"] []
  F__law_goals : Fun K "_law_goals" "_law_goals" s__law_goals t.a__law_goals t.d__law_goals
  m__law_goals : mg "_law_goals" = some (.ref t.a__law_goals)
  b__law_goals : Binds K t.d__law_goals ["_law_script", "_law_factor", "_law_terms", "_law_case_here"] []
  F_law : Fun K "law" "law" s_law t.a_law t.d_law
  m_law : mg "law" = some (.ref t.a_law)
  b_law : Binds K t.d_law ["_law_script"] []
  z_abs : mg "abs" = none
  z_bool : mg "bool" = none
  z_int : mg "int" = none
  z_isinstance : mg "isinstance" = none
  z_len : mg "len" = none
  z_list : mg "list" = none
  z_range : mg "range" = none
  z_sorted : mg "sorted" = none
  z_sum : mg "sum" = none
  z_zip : mg "zip" = none
local macro_rules | `(tactic| simp_all (failIfUnchanged := false) only [$xs,*]) => do
  let ys := xs.getElems.map fun x => (⟨x.raw⟩ : Lean.TSyntax `Lean.Parser.Tactic.simpLemma)
  let zs ← ("↓reduceIte ↓optK_some ↓gName_0 ↓gName_1 ↓gName_2 ↓gName_3 ↓gName_4 ↓gName_5 ↓gName_6 ↓gName_7 ↓gName_8 ↓gName_9 ↓m_kOp' ↓m_kOp ↓m_tOp ↓m_tC ↓m_rNotN_non ↓m_rNotN_ref ↓m_kNot ↓m_tNot ↓m_kAnd ↓m_tAnd ↓m_kOr ↓m_tOr ↓m_tNil ↓m_kCons' ↓m_kCons ↓m_tCons ↓m_kCall_1 ↓m_kCall_2 ↓m_kCall_3 ↓m_kCall_4 ↓m_tCall ↓m_kCB ↓m_tCB ↓m_tNext ↓m_tSeq ↓m_tRet ↓m_kDrop ↓m_tDrop ↓m_kIfS ↓m_tIfS ↓m_kAsg ↓m_tAsg ↓m_kPar ↓m_tPar ↓m_kGs ↓m_kLen ↓m_qLen ↓m_kIx' ↓m_kIx ↓m_qIx ↓m_qAbs ↓m_qIsi_int ↓m_qIsi_bool ↓m_kIsi_Ni ↓m_kIsi_bb ↓m_kIsi_bi ↓m_kIsi_ib ↓m_kIsi_ii ↓m_kIsi_si ↓m_kIsi_li ↓m_kIsi_ti ↓m_kIsi_di ↓m_kBM' ↓m_kBM ↓m_tBM ↓m_kApp ↓m_rAppend ↓m_kGT ↓m_qGT ↓m_kBody ↓m_tFor ↓m_kR1 ↓m_iRng1 ↓m_kISq'_l ↓m_kISq ↓m_iSeq ↓m_kWh ↓m_kE4 ↓m_tYes ↓m_tComp ↓m_kSetC ↓m_tSetC ↓m_datV ↓m_datF_ref ↓m_datO_lst ↓m_allSome_nil ↓m_allSome_cons ↓m_kEq2_f ↓m_kEq1 ↓m_qEq_refr ↓m_qEq_int_int ↓m_qNe_int_int ↓m_qNe_bl_bl ↓m_kInts ↓m_kSl3 ↓m_kSl2 ↓m_kSl1 ↓m_tSl ↓m_tNoPart ↓m_kPart ↓m_tPart ↓m_kQT ↓m_kQL ↓m_qTup ↓m_qLst ↓m_kN ↓m_nList ↓m_kNC2 ↓m_kNC1 ↓m_nCat ↓m_kNS ↓m_nSl ↓m_nDNew ↓m_kSumI ↓m_qSum ↓m_kZ2_l ↓m_kZ1_l ↓m_kZ0 ↓m_iZip ↓m_kCm2 ↓m_kCm_1 ↓m_kCm_2 ↓m_rep_1 ↓m_rep_2 ↓m_rep_3 ↓m_kCm_3 ↓m_kDP1 ↓m_kDP0 ↓m_sDPut ↓m_tV_0 ↓m_tV_1 ↓m_tV_2 ↓m_tV_3 ↓m_tV_4 ↓m_tV_5 ↓m_tV_6 ↓m_tV_7 ↓m_tV_8 ↓m_tV_9 ↓m_nI0 ↓m_nI ↓m_kTestN ↓m_nTest ↓m_kAndN ↓m_nAndV ↓m_kOrN ↓m_nOrV ↓m_kNotN ↓m_nNotV ↓m_gNilN ↓m_gConsN optK_some itemsAt lstAt tupAt seqO_lst seqO_tup lstO_lst tupO_tup bind_some' upd_same tyN_non tyN_bl tyN_int tyN_str tyN_ref tyV_list isW_int' cx_K atI_0 atI_1 eqv_list eqvAll_nil eqvAll_cons CDiv_eq CMul_l CPow_10 Option.isSome_some Option.isSome_none Option.map_some List.length_cons List.length_nil List.length_map List.map_cons List.map_nil and_true true_and and_self implies_true reduceCtorEq decide_true decide_false Bool.not_true Bool.not_false if_true if_false decide_eq_true_eq Bool.false_eq_true Bool.not_eq_true' decide_eq_false_iff_not Bool.and_true Bool.true_and Bool.and_self Bool.and_eq_true Int.reduceToNat Int.reducePow Int.reduceMul Int.reduceAdd Int.reduceSub Int.reduceNeg Int.reduceLT Int.reduceLE Int.reduceEq Int.reduceNe Int.reduceDiv Int.reduceMod Nat.reduceAdd Nat.reduceLeDiff Nat.reduceLT Nat.reduceMul Nat.reducePow gt_iff_lt ge_iff_le ne_eq false_implies true_implies eq_self String.reduceEq Int.cast_ofNat_Int not_true_eq_false not_false_eq_true false_and and_false List.cons_append List.nil_append List.append_nil lenLe".splitOn " ").toArray.mapM fun s => if s.startsWith "↓" then `(Lean.Parser.Tactic.simpLemma| ↓ $(Lean.mkIdent (s.replace "↓" "").toName):ident) else `(Lean.Parser.Tactic.simpLemma| $(Lean.mkIdent s.toName):ident)
  `(tactic| simp (config := { maxDischargeDepth := 30, maxSteps := 10000000 }) only [$zs,*, $ys,*, *])
section
variable {P : Program} {w : World} {K : PySem.W.Frag} {mg : Str → Option Value} {base : Heap} {t : Adr}
def spDraw (K : PySem.W.Frag) (a : Addr) (ns : List Int) : Sp := fun vs H Q E => ∃ (k : Int) (m : Int), vs = [.ref a, .int k, .int m] ∧ (SqL K H a (ns.map V.int) ∧ ns.length ≤ 63 ∧ (0 ≤ k ∧ k < 1000) ∧ 0 < m ∧ ∀ z : Int, 0 ≤ z → z < m → Q (.int z) H)
theorem c_spDraw (K : PySem.W.Frag) (a : Addr) (ns : List Int) (k : Int) (m : Int) (H : Hp) (Q : VK) (E : XK) : spDraw K a ns [.ref a, .int k, .int m] H Q E = (SqL K H a (ns.map V.int) ∧ ns.length ≤ 63 ∧ (0 ≤ k ∧ k < 1000) ∧ 0 < m ∧ ∀ z : Int, 0 ≤ z → z < m → Q (.int z) H) := spx2 (f := fun (k : Int) (m : Int) => [.ref a, .int k, .int m]) (fun _ _ _ _ h => by cases h; exact ⟨rfl, rfl⟩) k m
theorem l_spDraw (K : PySem.W.Frag) (a : Addr) (ns : List Int) {vs : List V} {H : Hp} {Q : VK} {E : XK} (h : spDraw K a ns vs H Q E) : vs.length = 3 := spl2 h fun _ _ => rfl
theorem ok__law_draw (T : Tx K mg t) (a : Addr) (ns : List Int) : FnOk P w K mg base CX0 1 t.a__law_draw t.d__law_draw ["_law_script", "_law_k", "_law_many"] (spDraw K a ns) := by
  refine T.F__law_draw.ok c__law_draw (fun vs H Q E h => l_spDraw _ _ _ h) (fun cdv A outer s H vs Q E hr h => ?_)
  · obtain ⟨k, m, rfl, hS, hl, ⟨hk0, hk1⟩, hm, kk⟩ := h
    have fin : ∀ z : Int, Q (.int (z % m)) H := fun z => kk _ (Int.emod_nonneg _ (by omega)) (Int.emod_lt_of_pos _ hm)
    refine ⟨_, (pss_cons (ps_if (pt_cmpR op_lt (pv 1) (pe_callB (id := "len") call_len_seq (by rfl) T.z_len (by decide +kernel) (pa_c (pv 0) pa_nil)) (nomark _))
      (pss_one (ps_ret (pe_op op_mod (pe_ix ix_list (pv 0) (pv 1) (fun _ _ => rfl)) (pv 2))))
      pss_nil)
    (pss_cons (ps_set (i := 3) c__law_draw.nd rfl (Or.inl rfl) (pe_op op_add (pe_op op_mul (pe_op op_mul (pv 1) (pv 1)) pe_int) pe_int))
    (pss_cons (ps_if (pt_cmpR op_gt (pe_callB (id := "len") call_len_seq (by rfl) T.z_len (by decide +kernel) (pa_c (pv 0) pa_nil)) pe_int (nomark _))
      (pss_cons (ps_set (i := 4) c__law_draw.nd rfl (Or.inl rfl) (pe_op op_mod (pe_ix ix_list (pv 0) (pe_op op_mod (pv 1) (pe_callB (id := "len") call_len_seq (by rfl) T.z_len (by decide +kernel) (pa_c (pv 0) pa_nil))) (fun _ _ => rfl)) pe_int))
      (pss_one (ps_set (i := 3) c__law_draw.nd rfl (Or.inl rfl) (pe_op op_add (pe_op op_mul (pv 4) (pe_op op_add pe_int (pe_op op_mul (pe_op op_mul pe_int (pv 1)) (pv 1)))) (pe_op op_mul (pv 1) pe_int)))))
      pss_nil)
    (pss_one (ps_ret (pe_op op_mod (pe_op op_mod (pe_op op_mul (pe_op op_mod (pv 3) pe_int) pe_int) pe_int) (pv 2))))))), ?_⟩
    refine ⟨_, rfl, _, rfl, a, _, rfl, .inl hS, _, _, rfl, rfl, _, rfl, ?_⟩
    refine ite2 (fun h => ?_) (fun h => ?_)
    · have h1 : k < (ns.length : Int) := by simpa using h
      obtain ⟨z, hz, _⟩ := atI_ints ns k hk0 h1
      exact ⟨_, rfl, _, rfl, a, _, k, _, rfl, rfl, hS, hz, _, rfl, _, _, rfl, rfl, hm, fin _⟩
    · refine ⟨_, rfl, _, rfl, _, _, rfl, rfl, .inl ⟨by omega, by omega⟩, _, _, rfl, rfl, .inr ⟨by decide, by decide⟩, _, _, rfl, rfl, ?_⟩
      refine ⟨_, rfl, a, _, rfl, .inl hS, _, _, rfl, rfl, _, rfl, ?_⟩
      refine ite2 (fun h2 => ?_) (fun h2 => ?_)
      · have h3 : 0 < (ns.length : Int) := by simpa using h2
        have h4 : (0 : Int) < ((ns.map V.int).length : Int) := by simpa using h3
        obtain ⟨z, hz, _⟩ := atI_ints ns (k % ((ns.map V.int).length : Int)) (Int.emod_nonneg _ (by omega)) (by have := Int.emod_lt_of_pos k h4; simpa using this)
        refine ⟨_, rfl, _, rfl, _, rfl, a, _, rfl, .inl hS, _, _, rfl, rfl, h4, a, _, _, _, rfl, rfl, hS, hz, _, _, rfl, rfl, (by first | decide | (show (0 : Int) < _; decide)), ?_⟩
        refine ⟨_, rfl, _, rfl, _, _, rfl, rfl, .inl ⟨by decide, by decide⟩, _, rfl, _, _, rfl, rfl, .inr ⟨by omega, by omega⟩, _, _, rfl, rfl, _, _, rfl, rfl, ?_, ?_⟩
        · refine .inl ⟨?_, ?_⟩
          · have := Int.emod_nonneg z (show (999999937 : Int) ≠ 0 by decide); omega
          · have := Int.emod_lt_of_pos z (show (0 : Int) < 999999937 by decide); omega
        refine ⟨_, rfl, _, _, rfl, rfl, .inr ⟨by decide, by decide⟩, _, _, rfl, rfl, ?_⟩
        exact ⟨_, rfl, _, _, rfl, rfl, (by first | decide | (show (0 : Int) < _; decide)), _, _, rfl, rfl, .inr ⟨by decide, by decide⟩, _, _, rfl, rfl, (by first | decide | (show (0 : Int) < _; decide)), _, rfl, _, _, rfl, rfl, hm, fin _⟩
      · exact ⟨_, rfl, _, _, rfl, rfl, (by first | decide | (show (0 : Int) < _; decide)), _, _, rfl, rfl, .inr ⟨by decide, by decide⟩, _, _, rfl, rfl, (by first | decide | (show (0 : Int) < _; decide)), _, rfl, _, _, rfl, rfl, hm, fin _⟩
def spWhole  : Sp := fun vs H Q E => ∃ (x : V), vs = [x] ∧ (optK (isW H x) (kE4 H Q))
theorem c_spWhole  (x : V) (H : Hp) (Q : VK) (E : XK) : spWhole  [x] H Q E = (optK (isW H x) (kE4 H Q)) := spx1 (f := fun (x : V) => [x]) (fun _ _ h => by cases h; exact rfl) x
theorem l_spWhole  {vs : List V} {H : Hp} {Q : VK} {E : XK} (h : spWhole  vs H Q E) : vs.length = 1 := spl1 h fun _ => rfl
theorem ok__law_whole (T : Tx K mg t) : FnOk P w K mg base CX0 1 t.a__law_whole t.d__law_whole ["_law_found"] spWhole := by
  refine T.F__law_whole.ok c__law_whole (fun vs H Q E h => l_spWhole h) (fun cdv A outer s H vs Q E hr h => ?_)
  · obtain ⟨x, rfl, h⟩ := h
    obtain ⟨b, hb, k⟩ := optK_ex h
    clear h
    rw [m_kE4] at k
    refine ⟨_, (@pss_one _ _ _ (@ps_ret _ _ _ _ (@pe_andN _ _ _ _ _ _ _ (@pe_callB _ _ _ _ _ _ _ ("isinstance") _ call_qIsi (by rfl) T.z_isinstance (by decide +kernel) (@pa_c _ _ _ _ _ (@pvN _ 0 _ _ (by rfl) (by first | exact Or.inl rfl | exact Or.inr (Or.inl rfl) | exact Or.inr (Or.inr rfl)) (by decide) (by decide)) (@pa_c _ _ _ _ _ (@pe_bltn _ _ (.ty "int") (.type "int") _ (by rfl) T.z_int (by decide +kernel) rfl (by decide) (by decide)) (@pa_nil _) (by rfl)) (by rfl)) (by decide) (by decide) (by rfl) (by rfl)) (@pe_one _ _ _ _ _ (@pe_notN _ _ _ _ (@pe_callB _ _ _ _ _ _ _ ("isinstance") _ call_qIsi (by rfl) T.z_isinstance (by decide +kernel) (@pa_c _ _ _ _ _ (@pvN _ 0 _ _ (by rfl) (by first | exact Or.inl rfl | exact Or.inr (Or.inl rfl) | exact Or.inr (Or.inr rfl)) (by decide) (by decide)) (@pa_c _ _ _ _ _ (@pe_bltn _ _ (.ty "bool") (.type "bool") _ (by rfl) T.z_bool (by decide +kernel) rfl (by decide) (by decide)) (@pa_nil _) (by rfl)) (by rfl)) (by decide) (by decide) (by rfl) (by rfl))))))), ?_⟩
    rw [show start ["_law_found"] [x] = [some (x)] from rfl]
    cases x with
    | int i => cases hb; simp_all (failIfUnchanged := false) only [and_true]
    | bl i => cases hb; simp_all (failIfUnchanged := false) only [and_true]
    | non => cases hb; simp_all (failIfUnchanged := false) only [and_true]
    | str i => cases hb; simp_all (failIfUnchanged := false) only [and_true]
    | ref p =>
      obtain ⟨rfl, o, ho, ht⟩ := isW_obj hb
      rcases ht with ht | ht | ht <;> simp_all (failIfUnchanged := false) only [and_true]
    | _ => cases hb
def spGcd  : Sp := fun vs H Q E => ∃ (a : Int) (b : Int), vs = [.int a, .int b] ∧ (Q (.int (Int.gcd a b : Int)) H)
theorem c_spGcd  (a : Int) (b : Int) (H : Hp) (Q : VK) (E : XK) : spGcd  [.int a, .int b] H Q E = (Q (.int (Int.gcd a b : Int)) H) := spx2 (f := fun (a : Int) (b : Int) => [.int a, .int b]) (fun _ _ _ _ h => by cases h; exact ⟨rfl, rfl⟩) a b
theorem l_spGcd  {vs : List V} {H : Hp} {Q : VK} {E : XK} (h : spGcd  vs H Q E) : vs.length = 2 := spl2 h fun _ _ => rfl
theorem ok_divisor (T : Tx K mg t) : FnOk P w K mg base CX0 1 t.a_divisor t.d_divisor ["one", "other"] spGcd := by
  refine T.F_divisor.ok c_divisor (fun vs H Q E h => l_spGcd h) (fun cdv A outer s H vs Q E hr h => ?_)
  · obtain ⟨a, b, rfl, k⟩ := h
    refine ⟨_, (@pss_cons _ _ _ _ _ (@ps_set _ _ (2) _ _ _ _ c_divisor.nd rfl (Or.inl rfl) (@pe_callB _ _ _ _ _ _ _ ("abs") _ call_qAbs (by rfl) T.z_abs (by decide +kernel) (@pa_c _ _ _ _ _ (@pvN _ 0 _ _ (by rfl) (by first | exact Or.inl rfl | exact Or.inr (Or.inl rfl) | exact Or.inr (Or.inr rfl)) (by decide) (by decide)) (@pa_nil _) (by rfl)) (by decide) (by decide) (by rfl) (by rfl)) (by rfl) (by first | exact .inl rfl | exact .inr rfl | assumption)) (@pss_cons _ _ _ _ _ (@ps_set _ _ (3) _ _ _ _ c_divisor.nd rfl (Or.inl rfl) (@pe_callB _ _ _ _ _ _ _ ("abs") _ call_qAbs (by rfl) T.z_abs (by decide +kernel) (@pa_c _ _ _ _ _ (@pvN _ 1 _ _ (by rfl) (by first | exact Or.inl rfl | exact Or.inr (Or.inl rfl) | exact Or.inr (Or.inr rfl)) (by decide) (by decide)) (@pa_nil _) (by rfl)) (by decide) (by decide) (by rfl) (by rfl)) (by rfl) (by first | exact .inl rfl | exact .inr rfl | assumption)) (@pss_cons _ _ _ _ _ (@ps_while _ _ _ _ _ _ PassesOwn.never (@pt_cmpRN _ _ _ _ _ _ _ _ (op_qNe hr.units) (@pvN _ 3 _ _ (by rfl) (by first | exact Or.inl rfl | exact Or.inr (Or.inl rfl) | exact Or.inr (Or.inr rfl)) (by decide) (by decide)) (@pe_int _ _ _ _) (nomark _)) (@pss_cons _ _ _ _ _ (@ps_set _ _ (4) _ _ _ _ c_divisor.nd rfl (Or.inl rfl) (@pe_op _ _ _ _ _ _ _ _ on_mod (@pvN _ 2 _ _ (by rfl) (by first | exact Or.inl rfl | exact Or.inr (Or.inl rfl) | exact Or.inr (Or.inr rfl)) (by decide) (by decide)) (@pvN _ 3 _ _ (by rfl) (by first | exact Or.inl rfl | exact Or.inr (Or.inl rfl) | exact Or.inr (Or.inr rfl)) (by decide) (by decide))) (by rfl) (by first | exact .inl rfl | exact .inr rfl | assumption)) (@pss_cons _ _ _ _ _ (@ps_set _ _ (2) _ _ _ _ c_divisor.nd rfl (Or.inl rfl) (@pvN _ 3 _ _ (by rfl) (by first | exact Or.inl rfl | exact Or.inr (Or.inl rfl) | exact Or.inr (Or.inr rfl)) (by decide) (by decide)) (by rfl) (by first | exact .inl rfl | exact .inr rfl | assumption)) (@pss_one _ _ _ (@ps_set _ _ (3) _ _ _ _ c_divisor.nd rfl (Or.inl rfl) (@pvN _ 4 _ _ (by rfl) (by first | exact Or.inl rfl | exact Or.inr (Or.inl rfl) | exact Or.inr (Or.inr rfl)) (by decide) (by decide)) (by rfl) (by first | exact .inl rfl | exact .inr rfl | assumption)))))) (@pss_one _ _ _ (@ps_ret _ _ _ _ (@pvN _ 2 _ _ (by rfl) (by first | exact Or.inl rfl | exact Or.inr (Or.inl rfl) | exact Or.inr (Or.inr rfl)) (by decide) (by decide))))))), ?_⟩
    rw [show start ["one", "other", "found", "rest", "smaller"] [.int a, .int b] = [some (.int a), some (.int b), none, none, none] from rfl]
    simp_all (failIfUnchanged := false) only [and_true]
    refine while_w (by repeat' first | exact mo_tV | exact mo_nI0 | exact mo_nI | apply mo_nTest | apply mo_unN | exact mo_var | exact mo_c | exact mo_rI0 | exact mo_rI | exact mo_rIsN | exact mo_rNotN | exact mo_qEq | exact mo_qIx | exact mo_nil | exact mo_qLen | apply mo_test | apply mo_tB | apply mo_not | apply mo_and | apply mo_or | apply mo_op | apply mo_un | apply mo_cons | apply mo_qLst | apply mo_cb) (fun m σ H' => ∃ (f r : Int) (sm : Option V), σ = [some (.int a), some (.int b), some (.int f), some (.int r), sm] ∧ H' = H ∧ m = r.toNat ∧ 0 ≤ f ∧ 0 ≤ r ∧ Int.gcd f r = Int.gcd a b) _ ⟨_, _, _, rfl, rfl, rfl, abs_nn a, abs_nn b, gcd_abs a b⟩ ?_
    rintro m _ _ ⟨f, r, sm, rfl, rfl, rfl, hf, hr', hg⟩
    rename_i H
    by_cases hz : r = 0
    · subst hz
      have e : f = (Int.gcd a b : Int) := by rw [← hg]; exact (gcd_zero f hf).symm
      rw [← e] at k
      clear e hg
      simp_all (failIfUnchanged := false) only [and_true]
    · have hp : 0 < r := by omega
      have e1 := gcd_step f r hp hf
      have e2 := Int.emod_lt_of_pos f hp
      have e3 := Int.emod_nonneg f hz
      have fin : ∃ m', m' < r.toNat ∧ ∃ (f' r' : Int) (sm' : Option V), ([some (V.int a), some (V.int b), some (V.int r), some (V.int (f % r)), some (V.int (f % r))] : St) = [some (V.int a), some (V.int b), some (V.int f'), some (V.int r'), sm'] ∧ m' = r'.toNat ∧ 0 ≤ f' ∧ 0 ≤ r' ∧ Int.gcd f' r' = Int.gcd a b := ⟨_, by omega, r, f % r, _, rfl, rfl, hr', e3, e1.trans hg⟩
      clear k e1 hg
      simp_all (failIfUnchanged := false) only [and_true]
def spGcds  : Sp := fun vs H Q E => ∃ (p : Addr), vs = [.ref p] ∧ (∃ ns : List Int, H p = some (.lst (ns.map V.int)) ∧ Q (.int (gcdL ns)) H)
theorem c_spGcds  (p : Addr) (H : Hp) (Q : VK) (E : XK) : spGcds  [.ref p] H Q E = (∃ ns : List Int, H p = some (.lst (ns.map V.int)) ∧ Q (.int (gcdL ns)) H) := spx1 (f := fun (p : Addr) => [.ref p]) (fun _ _ h => by cases h; exact rfl) p
theorem l_spGcds  {vs : List V} {H : Hp} {Q : VK} {E : XK} (h : spGcds  vs H Q E) : vs.length = 1 := spl1 h fun _ => rfl
theorem ok_divisor_of (T : Tx K mg t) : FnOk P w K mg base CX0 2 t.a_divisor_of t.d_divisor_of ["numbers"] spGcds := by
  have G_divisor := ok_divisor (P := P) (w := w) (base := base) T
  refine T.F_divisor_of.ok c_divisor_of (fun vs H Q E h => l_spGcds h) (fun cdv A outer s H vs Q E hr h => ?_)
  · obtain ⟨p, rfl, ns, hp, k⟩ := h
    refine ⟨_, (@pss_cons _ _ _ _ _ (@ps_set _ _ (1) _ _ _ _ c_divisor_of.nd rfl (Or.inl rfl) (@pe_int _ _ _ _) (by rfl) (by first | exact .inl rfl | exact .inr rfl | assumption)) (@pss_cons _ _ _ _ _ (@ps_for _ _ _ _ _ _ _ _ PassesOwn.never rfl (@pi_seq _ _ _ _ (@pvN _ 0 _ _ (by rfl) (by first | exact Or.inl rfl | exact Or.inr (Or.inl rfl) | exact Or.inr (Or.inr rfl)) (by decide) (by decide))) (@pg_name _ _ (2) _ c_divisor_of.nd rfl (Or.inl rfl) (by first | exact .inl rfl | exact .inr rfl | assumption)) (@pss_one _ _ _ (@ps_set _ _ (1) _ _ _ _ c_divisor_of.nd rfl (Or.inl rfl) (@pe_call _ _ _ _ _ _ _ _ _ _ _ _ _ _ _ _ G_divisor (hr.mono (by decide)) (by rfl) T.m_divisor T.F_divisor.kp T.b_divisor .nil pass0 (@pa_c _ _ _ _ _ (@pvN _ 1 _ _ (by rfl) (by first | exact Or.inl rfl | exact Or.inr (Or.inl rfl) | exact Or.inr (Or.inr rfl)) (by decide) (by decide)) (@pa_c _ _ _ _ _ (@pvN _ 2 _ _ (by rfl) (by first | exact Or.inl rfl | exact Or.inr (Or.inl rfl) | exact Or.inr (Or.inr rfl)) (by decide) (by decide)) (@pa_nil _) (by rfl)) (by rfl)) (by decide) (by rfl) (by rfl)) (by rfl) (by first | exact .inl rfl | exact .inr rfl | assumption))) (by intros; rfl)) (@pss_one _ _ _ (@ps_ret _ _ _ _ (@pvN _ 1 _ _ (by rfl) (by first | exact Or.inl rfl | exact Or.inr (Or.inl rfl) | exact Or.inr (Or.inr rfl)) (by decide) (by decide)))))), ?_⟩
    rw [show start ["numbers", "found", "number"] [.ref p] = [some (.ref p), none, none] from rfl]
    clear G_divisor
    simp_all (failIfUnchanged := false) only [and_true]
    refine for_lst (xs := ns.map V.int) (fun i σ H' => ∃ v : Option V, σ = [some (.ref p), some (.int (gcdL (ns.take i))), v] ∧ H' = H) ⟨none, rfl, rfl⟩ (fun i σ H' _ ⟨_, _, e⟩ => by rw [e]; exact hp) ?_ ?_
    · rintro i y _ _ hi ⟨v, rfl, rfl⟩
      rename_i H
      rw [List.getElem?_map] at hi
      obtain ⟨z, hz, rfl⟩ := Option.map_eq_some_iff.mp hi
      have e1 := gcdL_take ns i z hz
      clear hz hi k
      simp_all (failIfUnchanged := false) only [↓m_kBody]
      rw [c_spGcd]
      simp_all (failIfUnchanged := false) only [and_true]
      exact ⟨_, rfl⟩
    · rintro _ _ ⟨v, rfl, rfl⟩
      rename_i H
      have e2 : gcdL (ns.take (ns.map V.int).length) = gcdL ns := by rw [List.length_map, List.take_length]
      rw [e2]
      simp_all (failIfUnchanged := false) only [and_true]
theorem tm_mul {zs : List Tm3} (h : TmsOk zs) {z : Tm3} (hz : z ∈ zs) (b : Int) : CMul z.1 b := .inl (by have := (h.all z hz).1; omega)
def spLsum  : Sp := fun vs H Q E => ∃ (p : Addr) (q : Addr), vs = [.ref p, .ref q] ∧ (∃ (zs : List Tm3) (cs : List (Int × Int)), TrAt H p zs ∧ PrAt H q cs ∧ TmsOk zs ∧ CsOk zs cs ∧ ∀ H', Ext H H' → Q (.int (lsum zs cs)) H')
theorem c_spLsum  (p : Addr) (q : Addr) (H : Hp) (Q : VK) (E : XK) : spLsum  [.ref p, .ref q] H Q E = (∃ (zs : List Tm3) (cs : List (Int × Int)), TrAt H p zs ∧ PrAt H q cs ∧ TmsOk zs ∧ CsOk zs cs ∧ ∀ H', Ext H H' → Q (.int (lsum zs cs)) H') := spx2 (f := fun (p : Addr) (q : Addr) => [.ref p, .ref q]) (fun _ _ _ _ h => by cases h; exact ⟨rfl, rfl⟩) p q
theorem l_spLsum  {vs : List V} {H : Hp} {Q : VK} {E : XK} (h : spLsum  vs H Q E) : vs.length = 2 := spl2 h fun _ _ => rfl
theorem ok_least_sum (T : Tx K mg t) : FnOk P w K mg base CX0 1 t.a_least_sum t.d_least_sum ["terms", "case"] spLsum := by
  refine T.F_least_sum.ok c_least_sum (fun vs H Q E h => l_spLsum h) (fun cdv A outer s H vs Q E hr h => ?_)
  · obtain ⟨p, q, rfl, zs, cs, ⟨ys, hp, al⟩, ⟨xs, hq, bl⟩, ht, hc, k⟩ := h
    refine ⟨_, (@pss_one _ _ _ (@ps_ret _ _ _ _ (@pe_callB _ _ _ _ _ _ _ ("sum") _ (call_qSum rfl) (by rfl) T.z_sum (by decide +kernel) (@pa_c _ _ _ _ _ (@pe_comp _ _ _ _ _ _ _ _ _ _ _ (["term", "bounds", "terms", "case"]) (2) (comp_ok (defScope s_least_sum) ["terms", "case"] rfl rfl (by decide +kernel)) rfl (@pi_zip _ _ _ _ _ _ _ _ _ (by rfl) T.z_zip (@pa_c _ _ _ _ _ (@pvN _ 0 _ _ (by rfl) (by first | exact Or.inl rfl | exact Or.inr (Or.inl rfl) | exact Or.inr (Or.inr rfl)) (by decide) (by decide)) (@pa_c _ _ _ _ _ (@pvN _ 1 _ _ (by rfl) (by first | exact Or.inl rfl | exact Or.inr (Or.inl rfl) | exact Or.inr (Or.inr rfl)) (by decide) (by decide)) (@pa_nil _) (by rfl)) (by rfl)) (by rfl) (by rfl)) (fun C s₀ H₀ ex pn => ((@pg_tup _ _ _ _ _ (2) rfl (@pgs_consN _ _ _ _ _ (@pg_name _ _ (0) _ (show List.Nodup (["term", "bounds", "terms", "case"] : List Str) from by decide +kernel) rfl (Or.inl rfl) (by first | exact .inl rfl | exact .inr rfl | assumption)) (@pgs_consN _ _ _ _ _ (@pg_name _ _ (1) _ (show List.Nodup (["term", "bounds", "terms", "case"] : List Str) from by decide +kernel) rfl (Or.inl rfl) (by first | exact .inl rfl | exact .inr rfl | assumption)) (@pgs_nilN _) (by rfl)) (by rfl)) (by rfl) (by rfl)).mono fun _ _ _ _ h => gTup_q h)) (fun C s₀ H₀ ex pn => (@pts_nil _)) (fun C s₀ H₀ ex pn => (@pe_op _ _ _ _ _ _ _ _ on_mul (@pe_ix _ _ _ _ _ _ _ ix_q (@pvN _ 0 _ _ (by rfl) (by first | exact Or.inl rfl | exact Or.inr (Or.inl rfl) | exact Or.inr (Or.inr rfl)) (by decide) (by decide)) (@pe_int _ _ _ _) (fun _ _ => rfl)) (@pe_ix _ _ _ _ _ _ _ ix_q (@pvN _ 1 _ _ (by rfl) (by first | exact Or.inl rfl | exact Or.inr (Or.inl rfl) | exact Or.inr (Or.inr rfl)) (by decide) (by decide)) (@pe_int _ _ _ _) (fun _ _ => rfl)))) (by intros; rfl)) (@pa_nil _) (by rfl)) (by decide) (by decide) (by rfl) (by rfl)))), ?_⟩
    rw [show start ["terms", "case"] [.ref p, .ref q] = [some (.ref p), some (.ref q)] from rfl]
    simp_all (failIfUnchanged := false) only [and_true]
    have wk := wk_zipA (R1 := trP) (R2 := axP) (fun _ _ _ _ h e => h.ext e) (fun _ _ _ _ h e => h.ext e) hp hq al bl
    refine comp_fm (zs.zip cs) (fun _ => true) (fun z => .int (z.1.1 * z.2.1)) (zipA trP axP) wk.1 wk.2 (len5000 (by have := ht.len; rw [List.length_zip]; omega)) ?_ ?_
    · intro D z y H' N1 N0 hz hD e ⟨u, q1, q2, hu, hu2, ⟨r1, h1, h1'⟩, ⟨r2, h2, h2'⟩⟩ k1 _
      subst hu h1 h2
      have k1' : N1 (.int (z.1.1 * z.2.1)) H' := k1 rfl H' (Ext.refl _)
      have hcm := tm_mul ht (List.of_mem_zip hz).1 z.2.1
      clear k1 k
      simp_all (failIfUnchanged := false) only [↓m_kCm_2, ↓m_kCm2]
    · intro D H' hD e hD'
      rw [filt, show ((zs.zip cs).map fun z => V.int (z.1.1 * z.2.1)) = ((zs.zip cs).map fun z => z.1.1 * z.2.1).map V.int by rw [List.map_map]; rfl] at hD'
      have k2 : Q (.int ((zs.zip cs).map fun z => z.1.1 * z.2.1).sum) H' := k H' e
      clear k wk
      simp_all (failIfUnchanged := false) only [and_true]
def spGsum  : Sp := fun vs H Q E => ∃ (p : Addr) (q : Addr), vs = [.ref p, .ref q] ∧ (∃ (zs : List Tm3) (cs : List (Int × Int)), TrAt H p zs ∧ PrAt H q cs ∧ TmsOk zs ∧ CsOk zs cs ∧ ∀ H', Ext H H' → Q (.int (gsum zs cs)) H')
theorem c_spGsum  (p : Addr) (q : Addr) (H : Hp) (Q : VK) (E : XK) : spGsum  [.ref p, .ref q] H Q E = (∃ (zs : List Tm3) (cs : List (Int × Int)), TrAt H p zs ∧ PrAt H q cs ∧ TmsOk zs ∧ CsOk zs cs ∧ ∀ H', Ext H H' → Q (.int (gsum zs cs)) H') := spx2 (f := fun (p : Addr) (q : Addr) => [.ref p, .ref q]) (fun _ _ _ _ h => by cases h; exact ⟨rfl, rfl⟩) p q
theorem l_spGsum  {vs : List V} {H : Hp} {Q : VK} {E : XK} (h : spGsum  vs H Q E) : vs.length = 2 := spl2 h fun _ _ => rfl
theorem ok_greatest_sum (T : Tx K mg t) : FnOk P w K mg base CX0 1 t.a_greatest_sum t.d_greatest_sum ["terms", "case"] spGsum := by
  refine T.F_greatest_sum.ok c_greatest_sum (fun vs H Q E h => l_spGsum h) (fun cdv A outer s H vs Q E hr h => ?_)
  · obtain ⟨p, q, rfl, zs, cs, ⟨ys, hp, al⟩, ⟨xs, hq, bl⟩, ht, hc, k⟩ := h
    refine ⟨_, (@pss_one _ _ _ (@ps_ret _ _ _ _ (@pe_callB _ _ _ _ _ _ _ ("sum") _ (call_qSum rfl) (by rfl) T.z_sum (by decide +kernel) (@pa_c _ _ _ _ _ (@pe_comp _ _ _ _ _ _ _ _ _ _ _ (["term", "bounds", "terms", "case"]) (2) (comp_ok (defScope s_greatest_sum) ["terms", "case"] rfl rfl (by decide +kernel)) rfl (@pi_zip _ _ _ _ _ _ _ _ _ (by rfl) T.z_zip (@pa_c _ _ _ _ _ (@pvN _ 0 _ _ (by rfl) (by first | exact Or.inl rfl | exact Or.inr (Or.inl rfl) | exact Or.inr (Or.inr rfl)) (by decide) (by decide)) (@pa_c _ _ _ _ _ (@pvN _ 1 _ _ (by rfl) (by first | exact Or.inl rfl | exact Or.inr (Or.inl rfl) | exact Or.inr (Or.inr rfl)) (by decide) (by decide)) (@pa_nil _) (by rfl)) (by rfl)) (by rfl) (by rfl)) (fun C s₀ H₀ ex pn => ((@pg_tup _ _ _ _ _ (2) rfl (@pgs_consN _ _ _ _ _ (@pg_name _ _ (0) _ (show List.Nodup (["term", "bounds", "terms", "case"] : List Str) from by decide +kernel) rfl (Or.inl rfl) (by first | exact .inl rfl | exact .inr rfl | assumption)) (@pgs_consN _ _ _ _ _ (@pg_name _ _ (1) _ (show List.Nodup (["term", "bounds", "terms", "case"] : List Str) from by decide +kernel) rfl (Or.inl rfl) (by first | exact .inl rfl | exact .inr rfl | assumption)) (@pgs_nilN _) (by rfl)) (by rfl)) (by rfl) (by rfl)).mono fun _ _ _ _ h => gTup_q h)) (fun C s₀ H₀ ex pn => (@pts_nil _)) (fun C s₀ H₀ ex pn => (@pe_op _ _ _ _ _ _ _ _ on_mul (@pe_ix _ _ _ _ _ _ _ ix_q (@pvN _ 0 _ _ (by rfl) (by first | exact Or.inl rfl | exact Or.inr (Or.inl rfl) | exact Or.inr (Or.inr rfl)) (by decide) (by decide)) (@pe_int _ _ _ _) (fun _ _ => rfl)) (@pe_ix _ _ _ _ _ _ _ ix_q (@pvN _ 1 _ _ (by rfl) (by first | exact Or.inl rfl | exact Or.inr (Or.inl rfl) | exact Or.inr (Or.inr rfl)) (by decide) (by decide)) (@pe_int _ _ _ _) (fun _ _ => rfl)))) (by intros; rfl)) (@pa_nil _) (by rfl)) (by decide) (by decide) (by rfl) (by rfl)))), ?_⟩
    rw [show start ["terms", "case"] [.ref p, .ref q] = [some (.ref p), some (.ref q)] from rfl]
    simp_all (failIfUnchanged := false) only [and_true]
    have wk := wk_zipA (R1 := trP) (R2 := axP) (fun _ _ _ _ h e => h.ext e) (fun _ _ _ _ h e => h.ext e) hp hq al bl
    refine comp_fm (zs.zip cs) (fun _ => true) (fun z => .int (z.1.1 * z.2.2)) (zipA trP axP) wk.1 wk.2 (len5000 (by have := ht.len; rw [List.length_zip]; omega)) ?_ ?_
    · intro D z y H' N1 N0 hz hD e ⟨u, q1, q2, hu, hu2, ⟨r1, h1, h1'⟩, ⟨r2, h2, h2'⟩⟩ k1 _
      subst hu h1 h2
      have k1' : N1 (.int (z.1.1 * z.2.2)) H' := k1 rfl H' (Ext.refl _)
      have hcm := tm_mul ht (List.of_mem_zip hz).1 z.2.2
      clear k1 k
      simp_all (failIfUnchanged := false) only [↓m_kCm_2, ↓m_kCm2]
    · intro D H' hD e hD'
      rw [filt, show ((zs.zip cs).map fun z => V.int (z.1.1 * z.2.2)) = ((zs.zip cs).map fun z => z.1.1 * z.2.2).map V.int by rw [List.map_map]; rfl] at hD'
      have k2 : Q (.int ((zs.zip cs).map fun z => z.1.1 * z.2.2).sum) H' := k H' e
      clear k wk
      simp_all (failIfUnchanged := false) only [and_true]
def spRest  : Sp := fun vs H Q E => ∃ (p : Addr) (q : Addr), vs = [.ref p, .ref q] ∧ (∃ (zs : List Tm3) (cs : List (Int × Int)), TrAt H p zs ∧ PrAt H q cs ∧ TmsOk zs ∧ CsOk zs cs ∧ ∀ H', Ext H H' → Q (.int (gcdL (restL zs cs))) H')
theorem c_spRest  (p : Addr) (q : Addr) (H : Hp) (Q : VK) (E : XK) : spRest  [.ref p, .ref q] H Q E = (∃ (zs : List Tm3) (cs : List (Int × Int)), TrAt H p zs ∧ PrAt H q cs ∧ TmsOk zs ∧ CsOk zs cs ∧ ∀ H', Ext H H' → Q (.int (gcdL (restL zs cs))) H') := spx2 (f := fun (p : Addr) (q : Addr) => [.ref p, .ref q]) (fun _ _ _ _ h => by cases h; exact ⟨rfl, rfl⟩) p q
theorem l_spRest  {vs : List V} {H : Hp} {Q : VK} {E : XK} (h : spRest  vs H Q E) : vs.length = 2 := spl2 h fun _ _ => rfl
theorem ok_rest_of (T : Tx K mg t) : FnOk P w K mg base CX0 3 t.a_rest_of t.d_rest_of ["terms", "case"] spRest := by
  have G_divisor_of := ok_divisor_of (P := P) (w := w) (base := base) T
  refine T.F_rest_of.ok c_rest_of (fun vs H Q E h => l_spRest h) (fun cdv A outer s H vs Q E hr h => ?_)
  · obtain ⟨p, q, rfl, zs, cs, ⟨ys, hp, al⟩, ⟨xs, hq, bl⟩, ht, hc, k⟩ := h
    refine ⟨_, (@pss_one _ _ _ (@ps_ret _ _ _ _ (@pe_call _ _ _ _ _ _ _ _ _ _ _ _ _ _ _ _ G_divisor_of (hr.mono (by decide)) (by rfl) T.m_divisor_of T.F_divisor_of.kp T.b_divisor_of .nil pass0 (@pa_c _ _ _ _ _ (@pe_comp _ _ _ _ _ _ _ _ _ _ _ (["term", "bounds", "terms", "case"]) (2) (comp_ok (defScope s_rest_of) ["terms", "case"] rfl rfl (by decide +kernel)) rfl (@pi_zip _ _ _ _ _ _ _ _ _ (by rfl) T.z_zip (@pa_c _ _ _ _ _ (@pvN _ 0 _ _ (by rfl) (by first | exact Or.inl rfl | exact Or.inr (Or.inl rfl) | exact Or.inr (Or.inr rfl)) (by decide) (by decide)) (@pa_c _ _ _ _ _ (@pvN _ 1 _ _ (by rfl) (by first | exact Or.inl rfl | exact Or.inr (Or.inl rfl) | exact Or.inr (Or.inr rfl)) (by decide) (by decide)) (@pa_nil _) (by rfl)) (by rfl)) (by rfl) (by rfl)) (fun C s₀ H₀ ex pn => ((@pg_tup _ _ _ _ _ (2) rfl (@pgs_consN _ _ _ _ _ (@pg_name _ _ (0) _ (show List.Nodup (["term", "bounds", "terms", "case"] : List Str) from by decide +kernel) rfl (Or.inl rfl) (by first | exact .inl rfl | exact .inr rfl | assumption)) (@pgs_consN _ _ _ _ _ (@pg_name _ _ (1) _ (show List.Nodup (["term", "bounds", "terms", "case"] : List Str) from by decide +kernel) rfl (Or.inl rfl) (by first | exact .inl rfl | exact .inr rfl | assumption)) (@pgs_nilN _) (by rfl)) (by rfl)) (by rfl) (by rfl)).mono fun _ _ _ _ h => gTup_q h)) (fun C s₀ H₀ ex pn => (@pts_one _ _ _ (@pt_cmpRN _ _ _ _ _ _ _ _ on_lt (@pe_ix _ _ _ _ _ _ _ ix_q (@pvN _ 1 _ _ (by rfl) (by first | exact Or.inl rfl | exact Or.inr (Or.inl rfl) | exact Or.inr (Or.inr rfl)) (by decide) (by decide)) (@pe_int _ _ _ _) (fun _ _ => rfl)) (@pe_ix _ _ _ _ _ _ _ ix_q (@pvN _ 1 _ _ (by rfl) (by first | exact Or.inl rfl | exact Or.inr (Or.inl rfl) | exact Or.inr (Or.inr rfl)) (by decide) (by decide)) (@pe_int _ _ _ _) (fun _ _ => rfl)) (nomark _)))) (fun C s₀ H₀ ex pn => (@pe_ix _ _ _ _ _ _ _ ix_q (@pvN _ 0 _ _ (by rfl) (by first | exact Or.inl rfl | exact Or.inr (Or.inl rfl) | exact Or.inr (Or.inr rfl)) (by decide) (by decide)) (@pe_int _ _ _ _) (fun _ _ => rfl))) (by intros; rfl)) (@pa_nil _) (by rfl)) (by decide) (by rfl) (by rfl)))), ?_⟩
    rw [show start ["terms", "case"] [.ref p, .ref q] = [some (.ref p), some (.ref q)] from rfl]
    clear G_divisor_of
    simp_all (failIfUnchanged := false) only [and_true]
    have wk := wk_zipA (R1 := trP) (R2 := axP) (fun _ _ _ _ h e => h.ext e) (fun _ _ _ _ h e => h.ext e) hp hq al bl
    refine comp_fm (zs.zip cs) (fun z => decide (z.2.1 < z.2.2)) (fun z => .int z.1.1) (zipA trP axP) wk.1 wk.2 (len5000 (by have := ht.len; rw [List.length_zip]; omega)) ?_ ?_
    · intro D z y H' N1 N0 hz hD e ⟨u, q1, q2, hu, hu2, ⟨r1, h1, h1'⟩, ⟨r2, h2, h2'⟩⟩ k1 k0
      subst hu h1 h2
      by_cases hlt : z.2.1 < z.2.2
      · have k1' : N1 (.int z.1.1) H' := k1 (decide_eq_true hlt) H' (Ext.refl _)
        clear k1 k0 k
        simp_all (failIfUnchanged := false) only [↓m_kCm_2, ↓m_kCm2]
      · have k0' : N0 H' := k0 (decide_eq_false hlt) H' (Ext.refl _)
        clear k1 k0 k
        simp_all (failIfUnchanged := false) only [↓m_kCm_2, ↓m_kCm2]
    · intro D H' hD e hD'
      rw [show (((zs.zip cs).filter fun z => decide (z.2.1 < z.2.2)).map fun z => V.int z.1.1) = (restL zs cs).map V.int by unfold restL; rw [List.map_map]; rfl] at hD'
      have k2 := k H' e
      clear k wk
      simp_all (failIfUnchanged := false) only [and_true]
      rw [c_spGcds]
      exact ⟨_, hD', k2⟩
def endV (b : Bool) (v : V) : Prop := if b = true then ∃ r, v = .ref r else v = .non
def spEndOf  : Sp := fun vs H Q E => ∃ (p : Addr) (g : Int) (q : Addr), vs = [.ref p, .int g, .ref q] ∧ (∃ (zs : List Tm3) (cs : List (Int × Int)), TrAt H p zs ∧ PrAt H q cs ∧ TmsOk zs ∧ CsOk zs cs ∧ ∀ v H', Ext H H' → endV (ended zs cs g) v → Q v H')
theorem c_spEndOf  (p : Addr) (g : Int) (q : Addr) (H : Hp) (Q : VK) (E : XK) : spEndOf  [.ref p, .int g, .ref q] H Q E = (∃ (zs : List Tm3) (cs : List (Int × Int)), TrAt H p zs ∧ PrAt H q cs ∧ TmsOk zs ∧ CsOk zs cs ∧ ∀ v H', Ext H H' → endV (ended zs cs g) v → Q v H') := spx3 (f := fun (p : Addr) (g : Int) (q : Addr) => [.ref p, .int g, .ref q]) (fun _ _ _ _ _ _ h => by cases h; exact ⟨rfl, rfl, rfl⟩) p g q
theorem l_spEndOf  {vs : List V} {H : Hp} {Q : VK} {E : XK} (h : spEndOf  vs H Q E) : vs.length = 3 := spl3 h fun _ _ _ => rfl
theorem endedB_1 {g l gr r : Int} (h : g < l) : endedB g l gr r = true := by unfold endedB; rw [decide_eq_true h]; rfl
theorem endedB_2 {g l gr r : Int} (h : gr < g) : endedB g l gr r = true := by unfold endedB; rw [decide_eq_true h, Bool.or_true]; rfl
theorem endedB_3 {g l gr r : Int} (h : 1 < r) (h' : (g - l) % r ≠ 0) : endedB g l gr r = true := by
  unfold endedB
  have := Int.emod_nonneg (g - l) (show r ≠ 0 by omega)
  rw [decide_eq_true h, decide_eq_true (show 0 < (g - l) % r by omega), Bool.true_and, Bool.or_true]
theorem endedB_4 {g l gr r : Int} (h1 : ¬ g < l) (h2 : ¬ gr < g) (h3 : ¬ 1 < r) : endedB g l gr r = false := by unfold endedB; rw [decide_eq_false h1, decide_eq_false h2, decide_eq_false h3]; rfl
theorem endedB_5 {g l gr r : Int} (h1 : ¬ g < l) (h2 : ¬ gr < g) (h3 : (g - l) % r = 0) : endedB g l gr r = false := by unfold endedB; rw [decide_eq_false h1, decide_eq_false h2, h3, decide_eq_false (Int.lt_irrefl 0), Bool.and_false]; rfl
theorem ok_end_of (T : Tx K mg t) : FnOk P w K mg base CX0 4 t.a_end_of t.d_end_of ["terms", "goal", "case"] spEndOf := by
  have G_least_sum := ok_least_sum (P := P) (w := w) (base := base) T
  have G_greatest_sum := ok_greatest_sum (P := P) (w := w) (base := base) T
  have G_rest_of := ok_rest_of (P := P) (w := w) (base := base) T
  refine T.F_end_of.ok c_end_of (fun vs H Q E h => l_spEndOf h) (fun cdv A outer s H vs Q E hr h => ?_)
  · obtain ⟨p, g, q, rfl, zs, cs, hp, hq, ht, hc, k⟩ := h
    refine ⟨_, (@pss_cons _ _ _ _ _ (@ps_set _ _ (3) _ _ _ _ c_end_of.nd rfl (Or.inl rfl) (@pe_call _ _ _ _ _ _ _ _ _ _ _ _ _ _ _ _ G_least_sum (hr.mono (by decide)) (by rfl) T.m_least_sum T.F_least_sum.kp T.b_least_sum .nil pass0 (@pa_c _ _ _ _ _ (@pvN _ 0 _ _ (by rfl) (by first | exact Or.inl rfl | exact Or.inr (Or.inl rfl) | exact Or.inr (Or.inr rfl)) (by decide) (by decide)) (@pa_c _ _ _ _ _ (@pvN _ 2 _ _ (by rfl) (by first | exact Or.inl rfl | exact Or.inr (Or.inl rfl) | exact Or.inr (Or.inr rfl)) (by decide) (by decide)) (@pa_nil _) (by rfl)) (by rfl)) (by decide) (by rfl) (by rfl)) (by rfl) (by first | exact .inl rfl | exact .inr rfl | assumption)) (@pss_cons _ _ _ _ _ (@ps_if _ _ _ _ _ _ _ _ (@pt_cmpRN _ _ _ _ _ _ _ _ on_gt (@pvN _ 3 _ _ (by rfl) (by first | exact Or.inl rfl | exact Or.inr (Or.inl rfl) | exact Or.inr (Or.inr rfl)) (by decide) (by decide)) (@pvN _ 1 _ _ (by rfl) (by first | exact Or.inl rfl | exact Or.inr (Or.inl rfl) | exact Or.inr (Or.inr rfl)) (by decide) (by decide)) (nomark _)) (@pss_one _ _ _ (@ps_ret _ _ _ _ (@pe_qTup _ _ _ _ _ (@pa_c _ _ _ _ _ (@pe_str _ _ _ _) (@pa_nil _) (by rfl))))) (@pss_nil _)) (@pss_cons _ _ _ _ _ (@ps_if _ _ _ _ _ _ _ _ (@pt_cmpRN _ _ _ _ _ _ _ _ on_lt (@pe_call _ _ _ _ _ _ _ _ _ _ _ _ _ _ _ _ G_greatest_sum (hr.mono (by decide)) (by rfl) T.m_greatest_sum T.F_greatest_sum.kp T.b_greatest_sum .nil pass0 (@pa_c _ _ _ _ _ (@pvN _ 0 _ _ (by rfl) (by first | exact Or.inl rfl | exact Or.inr (Or.inl rfl) | exact Or.inr (Or.inr rfl)) (by decide) (by decide)) (@pa_c _ _ _ _ _ (@pvN _ 2 _ _ (by rfl) (by first | exact Or.inl rfl | exact Or.inr (Or.inl rfl) | exact Or.inr (Or.inr rfl)) (by decide) (by decide)) (@pa_nil _) (by rfl)) (by rfl)) (by decide) (by rfl) (by rfl)) (@pvN _ 1 _ _ (by rfl) (by first | exact Or.inl rfl | exact Or.inr (Or.inl rfl) | exact Or.inr (Or.inr rfl)) (by decide) (by decide)) (nomark _)) (@pss_one _ _ _ (@ps_ret _ _ _ _ (@pe_qTup _ _ _ _ _ (@pa_c _ _ _ _ _ (@pe_str _ _ _ _) (@pa_nil _) (by rfl))))) (@pss_nil _)) (@pss_cons _ _ _ _ _ (@ps_set _ _ (4) _ _ _ _ c_end_of.nd rfl (Or.inl rfl) (@pe_call _ _ _ _ _ _ _ _ _ _ _ _ _ _ _ _ G_rest_of (hr.mono (by decide)) (by rfl) T.m_rest_of T.F_rest_of.kp T.b_rest_of .nil pass0 (@pa_c _ _ _ _ _ (@pvN _ 0 _ _ (by rfl) (by first | exact Or.inl rfl | exact Or.inr (Or.inl rfl) | exact Or.inr (Or.inr rfl)) (by decide) (by decide)) (@pa_c _ _ _ _ _ (@pvN _ 2 _ _ (by rfl) (by first | exact Or.inl rfl | exact Or.inr (Or.inl rfl) | exact Or.inr (Or.inr rfl)) (by decide) (by decide)) (@pa_nil _) (by rfl)) (by rfl)) (by decide) (by rfl) (by rfl)) (by rfl) (by first | exact .inl rfl | exact .inr rfl | assumption)) (@pss_cons _ _ _ _ _ (@ps_if _ _ _ _ _ _ _ _ (PW.pt (@pw_and _ _ _ _ _ _ _ (@pt_cmpRN _ _ _ _ _ _ _ _ on_gt (@pvN _ 4 _ _ (by rfl) (by first | exact Or.inl rfl | exact Or.inr (Or.inl rfl) | exact Or.inr (Or.inr rfl)) (by decide) (by decide)) (@pe_int _ _ _ _) (nomark _)) (@pw_and1 _ _ _ _ (@pt_cmpRN _ _ _ _ _ _ _ _ (op_qNe hr.units) (@pe_op _ _ _ _ _ _ _ _ on_mod (@pe_op _ _ _ _ _ _ _ _ on_sub (@pvN _ 1 _ _ (by rfl) (by first | exact Or.inl rfl | exact Or.inr (Or.inl rfl) | exact Or.inr (Or.inr rfl)) (by decide) (by decide)) (@pvN _ 3 _ _ (by rfl) (by first | exact Or.inl rfl | exact Or.inr (Or.inl rfl) | exact Or.inr (Or.inr rfl)) (by decide) (by decide))) (@pvN _ 4 _ _ (by rfl) (by first | exact Or.inl rfl | exact Or.inr (Or.inl rfl) | exact Or.inr (Or.inr rfl)) (by decide) (by decide))) (@pe_int _ _ _ _) (nomark _))))) (@pss_one _ _ _ (@ps_ret _ _ _ _ (@pe_qTup _ _ _ _ _ (@pa_c _ _ _ _ _ (@pe_str _ _ _ _) (@pa_c _ _ _ _ _ (@pvN _ 4 _ _ (by rfl) (by first | exact Or.inl rfl | exact Or.inr (Or.inl rfl) | exact Or.inr (Or.inr rfl)) (by decide) (by decide)) (@pa_nil _) (by rfl)) (by rfl))))) (@pss_nil _)) (@pss_one _ _ _ (@ps_ret _ _ _ _ (@pe_non _ _ _)))))))), ?_⟩
    rw [show start ["terms", "goal", "case", "least", "rest"] [.ref p, .int g, .ref q] = [some (.ref p), some (.int g), some (.ref q), none, none] from rfl]
    clear G_least_sum G_greatest_sum G_rest_of
    unfold ended at k
    simp_all (failIfUnchanged := false) only [and_true]
    rw [c_spLsum]
    refine ⟨zs, cs, hp, hq, ht, hc, fun H1 e1 => ?_⟩
    by_cases h1 : g < lsum zs cs
    · rw [endedB_1 h1] at k
      simp_all (failIfUnchanged := false) only [and_true]
      intro r H2 hr2 e2 h2
      exact k _ H2 (e1.trans e2) ⟨r, rfl⟩
    simp_all (failIfUnchanged := false) only [and_true]
    rw [c_spGsum]
    refine ⟨zs, cs, tr_ext hp e1, pr_ext hq e1, ht, hc, fun H2 e2 => ?_⟩
    by_cases h2 : gsum zs cs < g
    · rw [endedB_2 h2] at k
      simp_all (failIfUnchanged := false) only [and_true]
      intro r H3 hr3 e3 h3
      exact k _ H3 (e1.trans (e2.trans e3)) ⟨r, rfl⟩
    simp_all (failIfUnchanged := false) only [and_true]
    rw [c_spRest]
    refine ⟨zs, cs, tr_ext hp (e1.trans e2), pr_ext hq (e1.trans e2), ht, hc, fun H3 e3 => ?_⟩
    have hgn := gcdL_nn (restL zs cs)
    generalize gcdL (restL zs cs) = r at k hgn
    by_cases h3 : 1 < r
    · have hr0 : 0 < r := by omega
      by_cases h4 : (g - lsum zs cs) % r = 0
      · rw [endedB_5 h1 h2 h4] at k
        have k2 := k .non H3 (e1.trans (e2.trans e3)) rfl
        clear k
        simp_all (failIfUnchanged := false) only [and_true]
      · rw [endedB_3 h3 h4] at k
        simp_all (failIfUnchanged := false) only [and_true]
        intro r' H4 hr4 e4 h4'
        exact k _ H4 (e1.trans (e2.trans (e3.trans e4))) ⟨r', rfl⟩
    · rw [endedB_4 h1 h2 h3] at k
      have k2 := k .non H3 (e1.trans (e2.trans e3)) rfl
      clear k
      simp_all (failIfUnchanged := false) only [and_true]
def spIsEnded  : Sp := fun vs H Q E => ∃ (p : Addr) (g : Int) (q : Addr), vs = [.ref p, .int g, .ref q] ∧ (∃ (zs : List Tm3) (cs : List (Int × Int)), TrAt H p zs ∧ PrAt H q cs ∧ TmsOk zs ∧ CsOk zs cs ∧ ∀ H', Ext H H' → Q (.bl (ended zs cs g)) H')
theorem c_spIsEnded  (p : Addr) (g : Int) (q : Addr) (H : Hp) (Q : VK) (E : XK) : spIsEnded  [.ref p, .int g, .ref q] H Q E = (∃ (zs : List Tm3) (cs : List (Int × Int)), TrAt H p zs ∧ PrAt H q cs ∧ TmsOk zs ∧ CsOk zs cs ∧ ∀ H', Ext H H' → Q (.bl (ended zs cs g)) H') := spx3 (f := fun (p : Addr) (g : Int) (q : Addr) => [.ref p, .int g, .ref q]) (fun _ _ _ _ _ _ h => by cases h; exact ⟨rfl, rfl, rfl⟩) p g q
theorem l_spIsEnded  {vs : List V} {H : Hp} {Q : VK} {E : XK} (h : spIsEnded  vs H Q E) : vs.length = 3 := spl3 h fun _ _ _ => rfl
theorem ok_is_ended (T : Tx K mg t) : FnOk P w K mg base CX0 5 t.a_is_ended t.d_is_ended ["terms", "goal", "case"] spIsEnded := by
  have G_end_of := ok_end_of (P := P) (w := w) (base := base) T
  refine T.F_is_ended.ok c_is_ended (fun vs H Q E h => l_spIsEnded h) (fun cdv A outer s H vs Q E hr h => ?_)
  · obtain ⟨p, g, q, rfl, zs, cs, hp, hq, ht, hc, k⟩ := h
    refine ⟨_, (@pss_one _ _ _ (@ps_ret _ _ _ _ (@pe_cmpR _ _ _ _ _ _ _ _ op_qIsnt (@pe_call _ _ _ _ _ _ _ _ _ _ _ _ _ _ _ _ G_end_of (hr.mono (by decide)) (by rfl) T.m_end_of T.F_end_of.kp T.b_end_of .nil pass0 (@pa_c _ _ _ _ _ (@pvN _ 0 _ _ (by rfl) (by first | exact Or.inl rfl | exact Or.inr (Or.inl rfl) | exact Or.inr (Or.inr rfl)) (by decide) (by decide)) (@pa_c _ _ _ _ _ (@pvN _ 1 _ _ (by rfl) (by first | exact Or.inl rfl | exact Or.inr (Or.inl rfl) | exact Or.inr (Or.inr rfl)) (by decide) (by decide)) (@pa_c _ _ _ _ _ (@pvN _ 2 _ _ (by rfl) (by first | exact Or.inl rfl | exact Or.inr (Or.inl rfl) | exact Or.inr (Or.inr rfl)) (by decide) (by decide)) (@pa_nil _) (by rfl)) (by rfl)) (by rfl)) (by decide) (by rfl) (by rfl)) (@pe_non _ _ _) (nomark _)))), ?_⟩
    rw [show start ["terms", "goal", "case"] [.ref p, .int g, .ref q] = [some (.ref p), some (.int g), some (.ref q)] from rfl]
    clear G_end_of
    simp_all (failIfUnchanged := false) only [and_true]
    rw [c_spEndOf]
    refine ⟨zs, cs, hp, hq, ht, hc, fun v H1 e1 hv => ?_⟩
    have k1 := k H1 e1
    clear k
    generalize ended zs cs g = b at hv k1
    cases b with
    | true =>
      obtain ⟨r, rfl⟩ := hv
      simp_all (failIfUnchanged := false) only [and_true]
    | false =>
      have hv' : v = .non := hv
      subst hv'
      simp_all (failIfUnchanged := false) only [and_true]
def spSums  : Sp := fun vs H Q E => ∃ (p : Addr) (q : Addr), vs = [.ref p, .ref q] ∧ (∃ (zs : List Tm3) (cs : List (Int × Int)), TrAt H p zs ∧ PrAt H q cs ∧ TmsOk zs ∧ CsOk zs cs ∧ ∀ r H', Ext H H' → H' r = some (.tup [.int (lsum zs cs), .int (gsum zs cs)]) → Q (.ref r) H')
theorem c_spSums  (p : Addr) (q : Addr) (H : Hp) (Q : VK) (E : XK) : spSums  [.ref p, .ref q] H Q E = (∃ (zs : List Tm3) (cs : List (Int × Int)), TrAt H p zs ∧ PrAt H q cs ∧ TmsOk zs ∧ CsOk zs cs ∧ ∀ r H', Ext H H' → H' r = some (.tup [.int (lsum zs cs), .int (gsum zs cs)]) → Q (.ref r) H') := spx2 (f := fun (p : Addr) (q : Addr) => [.ref p, .ref q]) (fun _ _ _ _ h => by cases h; exact ⟨rfl, rfl⟩) p q
theorem l_spSums  {vs : List V} {H : Hp} {Q : VK} {E : XK} (h : spSums  vs H Q E) : vs.length = 2 := spl2 h fun _ _ => rfl
theorem ok__law_sums (T : Tx K mg t) : FnOk P w K mg base CX0 1 t.a__law_sums t.d__law_sums ["_law_terms", "_law_case_here"] spSums := by
  refine T.F__law_sums.ok c__law_sums (fun vs H Q E h => l_spSums h) (fun cdv A outer s H vs Q E hr h => ?_)
  · obtain ⟨p, q, rfl, zs, cs, ⟨ys, hp, al⟩, ⟨xs, hq, bl⟩, ht, hc, k⟩ := h
    refine ⟨_, (@pss_cons _ _ _ _ _ (@ps_set _ _ (2) _ _ _ _ c__law_sums.nd rfl (Or.inl rfl) (@pe_callB _ _ _ _ _ _ _ ("sum") _ (call_qSum rfl) (by rfl) T.z_sum (by decide +kernel) (@pa_c _ _ _ _ _ (@pe_comp _ _ _ _ _ _ _ _ _ _ _ (["_law_k", "_law_terms", "_law_case_here", "_law_least"]) (1) (comp_ok (defScope s__law_sums) ["_law_terms", "_law_case_here", "_law_least"] rfl rfl (by decide +kernel)) rfl (@pi_range1 _ _ _ _ _ _ (by rfl) T.z_range (@pa_c _ _ _ _ _ (@pe_callB _ _ _ _ _ _ _ ("len") _ call_qLen (by rfl) T.z_len (by decide +kernel) (@pa_c _ _ _ _ _ (@pvN _ 0 _ _ (by rfl) (by first | exact Or.inl rfl | exact Or.inr (Or.inl rfl) | exact Or.inr (Or.inr rfl)) (by decide) (by decide)) (@pa_nil _) (by rfl)) (by decide) (by decide) (by rfl) (by rfl)) (@pa_nil _) (by rfl)) (by rfl)) (fun C s₀ H₀ ex pn => (@pg_name _ _ (0) _ (show List.Nodup (["_law_k", "_law_terms", "_law_case_here", "_law_least"] : List Str) from by decide +kernel) rfl (Or.inl rfl) (by first | exact .inl rfl | exact .inr rfl | assumption))) (fun C s₀ H₀ ex pn => (@pts_nil _)) (fun C s₀ H₀ ex pn => (@pe_op _ _ _ _ _ _ _ _ on_mul (@pe_ix _ _ _ _ _ _ _ ix_q (@pe_ix _ _ _ _ _ _ _ ix_q (@pvN _ 1 _ _ (by rfl) (by first | exact Or.inl rfl | exact Or.inr (Or.inl rfl) | exact Or.inr (Or.inr rfl)) (by decide) (by decide)) (@pvN _ 0 _ _ (by rfl) (by first | exact Or.inl rfl | exact Or.inr (Or.inl rfl) | exact Or.inr (Or.inr rfl)) (by decide) (by decide)) (fun _ _ => rfl)) (@pe_int _ _ _ _) (fun _ _ => rfl)) (@pe_ix _ _ _ _ _ _ _ ix_q (@pe_ix _ _ _ _ _ _ _ ix_q (@pvN _ 2 _ _ (by rfl) (by first | exact Or.inl rfl | exact Or.inr (Or.inl rfl) | exact Or.inr (Or.inr rfl)) (by decide) (by decide)) (@pvN _ 0 _ _ (by rfl) (by first | exact Or.inl rfl | exact Or.inr (Or.inl rfl) | exact Or.inr (Or.inr rfl)) (by decide) (by decide)) (fun _ _ => rfl)) (@pe_int _ _ _ _) (fun _ _ => rfl)))) (by intros; rfl)) (@pa_nil _) (by rfl)) (by decide) (by decide) (by rfl) (by rfl)) (by rfl) (by first | exact .inl rfl | exact .inr rfl | assumption)) (@pss_one _ _ _ (@ps_ret _ _ _ _ (@pe_qTup _ _ _ _ _ (@pa_c _ _ _ _ _ (@pvN _ 2 _ _ (by rfl) (by first | exact Or.inl rfl | exact Or.inr (Or.inl rfl) | exact Or.inr (Or.inr rfl)) (by decide) (by decide)) (@pa_c _ _ _ _ _ (@pe_callB _ _ _ _ _ _ _ ("sum") _ (call_qSum rfl) (by rfl) T.z_sum (by decide +kernel) (@pa_c _ _ _ _ _ (@pe_comp _ _ _ _ _ _ _ _ _ _ _ (["_law_k", "_law_terms", "_law_case_here", "_law_least"]) (1) (comp_ok (defScope s__law_sums) ["_law_terms", "_law_case_here", "_law_least"] rfl rfl (by decide +kernel)) rfl (@pi_range1 _ _ _ _ _ _ (by rfl) T.z_range (@pa_c _ _ _ _ _ (@pe_callB _ _ _ _ _ _ _ ("len") _ call_qLen (by rfl) T.z_len (by decide +kernel) (@pa_c _ _ _ _ _ (@pvN _ 0 _ _ (by rfl) (by first | exact Or.inl rfl | exact Or.inr (Or.inl rfl) | exact Or.inr (Or.inr rfl)) (by decide) (by decide)) (@pa_nil _) (by rfl)) (by decide) (by decide) (by rfl) (by rfl)) (@pa_nil _) (by rfl)) (by rfl)) (fun C s₀ H₀ ex pn => (@pg_name _ _ (0) _ (show List.Nodup (["_law_k", "_law_terms", "_law_case_here", "_law_least"] : List Str) from by decide +kernel) rfl (Or.inl rfl) (by first | exact .inl rfl | exact .inr rfl | assumption))) (fun C s₀ H₀ ex pn => (@pts_nil _)) (fun C s₀ H₀ ex pn => (@pe_op _ _ _ _ _ _ _ _ on_mul (@pe_ix _ _ _ _ _ _ _ ix_q (@pe_ix _ _ _ _ _ _ _ ix_q (@pvN _ 1 _ _ (by rfl) (by first | exact Or.inl rfl | exact Or.inr (Or.inl rfl) | exact Or.inr (Or.inr rfl)) (by decide) (by decide)) (@pvN _ 0 _ _ (by rfl) (by first | exact Or.inl rfl | exact Or.inr (Or.inl rfl) | exact Or.inr (Or.inr rfl)) (by decide) (by decide)) (fun _ _ => rfl)) (@pe_int _ _ _ _) (fun _ _ => rfl)) (@pe_ix _ _ _ _ _ _ _ ix_q (@pe_ix _ _ _ _ _ _ _ ix_q (@pvN _ 2 _ _ (by rfl) (by first | exact Or.inl rfl | exact Or.inr (Or.inl rfl) | exact Or.inr (Or.inr rfl)) (by decide) (by decide)) (@pvN _ 0 _ _ (by rfl) (by first | exact Or.inl rfl | exact Or.inr (Or.inl rfl) | exact Or.inr (Or.inr rfl)) (by decide) (by decide)) (fun _ _ => rfl)) (@pe_int _ _ _ _) (fun _ _ => rfl)))) (by intros; rfl)) (@pa_nil _) (by rfl)) (by decide) (by decide) (by rfl) (by rfl)) (@pa_nil _) (by rfl)) (by rfl)))))), ?_⟩
    rw [show start ["_law_terms", "_law_case_here", "_law_least"] [.ref p, .ref q] = [some (.ref p), some (.ref q), none] from rfl]
    have h17 := ht.len
    have hyl : ys.length = zs.length := al.1
    simp_all (failIfUnchanged := false) only [and_true]
    refine ⟨by omega, by omega, ?_⟩
    refine comp_fm (List.range zs.length) (fun _ => true) (fun k => .int ((zs.getD k default).1 * (cs.getD k default).1)) (fun j x H' => x = .int (0 + (j : Nat))) wk_rng.1 wk_rng.2 (len5000 (by rw [List.length_range]; omega)) ?_ ?_
    · intro D j x H' N1 N0 hj hD e hx k1 _
      subst hx
      have hj' := List.mem_range.mp hj
      obtain ⟨q1, f1, f2⟩ := tr_get al hj'
      obtain ⟨q2, g1, g2⟩ := pr_get bl (show j < cs.length by rw [hc.len]; exact hj')
      have k1' := k1 rfl H' (Ext.refl _)
      have hcm := tm_mul ht (List.of_mem_zip (zip_getD hc.len hj')).1 (cs.getD j default).1
      have hp' := e.at hp
      have hq' := e.at hq
      have f2' := e.at f2
      have g2' := e.at g2
      clear k1 k hj f2 g2
      simp_all (failIfUnchanged := false) only [↓m_kCm_1, ↓m_kCm2]
    · intro D H1 hD e1 hD1
      rw [filt, show ((List.range zs.length).map fun k => V.int ((zs.getD k default).1 * (cs.getD k default).1)) = ((List.range zs.length).map fun k => (zs.getD k default).1 * (cs.getD k default).1).map V.int by rw [List.map_map]; rfl] at hD1
      have es := lsum_range (zs := zs) (cs := cs) hc.len
      have hp1 := e1.at hp
      generalize ((List.range zs.length).map fun k => (zs.getD k default).1 * (cs.getD k default).1) = L at hD1 es
      simp_all (failIfUnchanged := false) only [and_true]
      refine ⟨by omega, by omega, ?_⟩
      refine comp_fm (List.range zs.length) (fun _ => true) (fun k => .int ((zs.getD k default).1 * (cs.getD k default).2)) (fun j x H' => x = .int (0 + (j : Nat))) wk_rng.1 wk_rng.2 (len5000 (by rw [List.length_range]; omega)) ?_ ?_
      · intro D j x H' N1 N0 hj hD e hx k1 _
        subst hx
        have hj' := List.mem_range.mp hj
        obtain ⟨q1, f1, f2⟩ := tr_get al hj'
        obtain ⟨q2, g1, g2⟩ := pr_get bl (show j < cs.length by rw [hc.len]; exact hj')
        have k1' := k1 rfl H' (Ext.refl _)
        have hcm := tm_mul ht (List.of_mem_zip (zip_getD hc.len hj')).1 (cs.getD j default).2
        have hp' := e.at hp1
        have hq' := (e1.trans e).at hq
        have f2' := (e1.trans e).at f2
        have g2' := (e1.trans e).at g2
        clear k1 k hj f2 g2
        simp_all (failIfUnchanged := false) only [↓m_kCm_1, ↓m_kCm2]
      · intro D2 H2 hD2 e2 hD2'
        rw [filt, show ((List.range zs.length).map fun k => V.int ((zs.getD k default).1 * (cs.getD k default).2)) = ((List.range zs.length).map fun k => (zs.getD k default).1 * (cs.getD k default).2).map V.int by rw [List.map_map]; rfl] at hD2'
        have es2 := gsum_range (zs := zs) (cs := cs) hc.len
        generalize ((List.range zs.length).map fun k => (zs.getD k default).1 * (cs.getD k default).2) = L2 at hD2' es2
        rw [es, es2] at k
        clear es es2
        simp_all (failIfUnchanged := false) only [and_true]
        intro r H3 hr3 e3 h3
        exact k r H3 (e1.trans (e2.trans e3)) h3
def spLGcd  : Sp := fun vs H Q E => ∃ (p : Addr), vs = [.ref p] ∧ (∃ ns : List Int, H p = some (.lst (ns.map V.int)) ∧ (∀ n ∈ ns, 1 ≤ n) ∧ Q (.int (gcdL ns)) H)
theorem c_spLGcd  (p : Addr) (H : Hp) (Q : VK) (E : XK) : spLGcd  [.ref p] H Q E = (∃ ns : List Int, H p = some (.lst (ns.map V.int)) ∧ (∀ n ∈ ns, 1 ≤ n) ∧ Q (.int (gcdL ns)) H) := spx1 (f := fun (p : Addr) => [.ref p]) (fun _ _ h => by cases h; exact rfl) p
theorem l_spLGcd  {vs : List V} {H : Hp} {Q : VK} {E : XK} (h : spLGcd  vs H Q E) : vs.length = 1 := spl1 h fun _ => rfl
theorem ok__law_divisor (T : Tx K mg t) : FnOk P w K mg base CX0 1 t.a__law_divisor t.d__law_divisor ["_law_numbers"] spLGcd := by
  refine T.F__law_divisor.ok c__law_divisor (fun vs H Q E h => l_spLGcd h) (fun cdv A outer s H vs Q E hr h => ?_)
  · obtain ⟨p, rfl, ns, hp, hn, k⟩ := h
    refine ⟨_, (@pss_cons _ _ _ _ _ (@ps_set _ _ (1) _ _ _ _ c__law_divisor.nd rfl (Or.inl rfl) (@pe_int _ _ _ _) (by rfl) (by first | exact .inl rfl | exact .inr rfl | assumption)) (@pss_cons _ _ _ _ _ (@ps_for _ _ _ _ _ _ _ _ PassesOwn.never rfl (@pi_seq _ _ _ _ (@pvN _ 0 _ _ (by rfl) (by first | exact Or.inl rfl | exact Or.inr (Or.inl rfl) | exact Or.inr (Or.inr rfl)) (by decide) (by decide))) (@pg_name _ _ (2) _ c__law_divisor.nd rfl (Or.inl rfl) (by first | exact .inl rfl | exact .inr rfl | assumption)) (@pss_cons _ _ _ _ _ (@ps_set _ _ (3) _ _ _ _ c__law_divisor.nd rfl (Or.inl rfl) (@pvN _ 1 _ _ (by rfl) (by first | exact Or.inl rfl | exact Or.inr (Or.inl rfl) | exact Or.inr (Or.inr rfl)) (by decide) (by decide)) (by rfl) (by first | exact .inl rfl | exact .inr rfl | assumption)) (@pss_cons _ _ _ _ _ (@ps_while _ _ _ _ _ _ PassesOwn.never (@pt_cmpRN _ _ _ _ _ _ _ _ on_gt (@pvN _ 2 _ _ (by rfl) (by first | exact Or.inl rfl | exact Or.inr (Or.inl rfl) | exact Or.inr (Or.inr rfl)) (by decide) (by decide)) (@pe_int _ _ _ _) (nomark _)) (@pss_one _ _ _ (@ps_par _ _ (3) (2) _ _ _ _ _ _ _ _ _ _ _ rfl c__law_divisor.nd rfl rfl (by decide) rfl rfl (@pa_c _ _ _ _ _ (@pvN _ 2 _ _ (by rfl) (by first | exact Or.inl rfl | exact Or.inr (Or.inl rfl) | exact Or.inr (Or.inr rfl)) (by decide) (by decide)) (@pa_c _ _ _ _ _ (@pe_op _ _ _ _ _ _ _ _ on_mod (@pvN _ 3 _ _ (by rfl) (by first | exact Or.inl rfl | exact Or.inr (Or.inl rfl) | exact Or.inr (Or.inr rfl)) (by decide) (by decide)) (@pvN _ 2 _ _ (by rfl) (by first | exact Or.inl rfl | exact Or.inr (Or.inl rfl) | exact Or.inr (Or.inr rfl)) (by decide) (by decide))) (@pa_nil _) (by rfl)) (by rfl)) rfl (by rfl)))) (@pss_one _ _ _ (@ps_set _ _ (1) _ _ _ _ c__law_divisor.nd rfl (Or.inl rfl) (@pvN _ 3 _ _ (by rfl) (by first | exact Or.inl rfl | exact Or.inr (Or.inl rfl) | exact Or.inr (Or.inr rfl)) (by decide) (by decide)) (by rfl) (by first | exact .inl rfl | exact .inr rfl | assumption))))) (by intros; rfl)) (@pss_one _ _ _ (@ps_ret _ _ _ _ (@pvN _ 1 _ _ (by rfl) (by first | exact Or.inl rfl | exact Or.inr (Or.inl rfl) | exact Or.inr (Or.inr rfl)) (by decide) (by decide)))))), ?_⟩
    rw [show start ["_law_numbers", "_law_found", "_law_other", "_law_one"] [.ref p] = [some (.ref p), none, none, none] from rfl]
    simp_all (failIfUnchanged := false) only [and_true]
    refine for_lst (xs := ns.map V.int) (fun i σ H' => ∃ v v' : Option V, σ = [some (.ref p), some (.int (gcdL (ns.take i))), v, v'] ∧ H' = H) ⟨none, none, rfl, rfl⟩ (fun i σ H' _ ⟨_, _, _, e⟩ => by rw [e]; exact hp) ?_ ?_
    · rintro i y _ _ hi ⟨v, v', rfl, rfl⟩
      rename_i H
      rw [List.getElem?_map] at hi
      obtain ⟨z, hz, rfl⟩ := Option.map_eq_some_iff.mp hi
      have e1 := fun (_ : Unit) => gcdL_take ns i z hz
      have hz1 := hn z (List.mem_of_getElem? hz)
      have hf0 := gcdL_nn (ns.take i)
      generalize gcdL (ns.take i) = f0 at e1 hf0
      clear hz hi k hn
      simp_all (failIfUnchanged := false) only [↓m_kBody]
      refine while_w (by repeat' first | exact mo_tV | exact mo_nI0 | exact mo_nI | apply mo_nTest | apply mo_unN | exact mo_var | exact mo_c | exact mo_rI0 | exact mo_rI | exact mo_rIsN | exact mo_rNotN | exact mo_qEq | exact mo_qIx | exact mo_nil | exact mo_qLen | apply mo_test | apply mo_tB | apply mo_not | apply mo_and | apply mo_or | apply mo_op | apply mo_un | apply mo_cons | apply mo_qLst | apply mo_cb) (fun m σ H' => ∃ (f r : Int), σ = [some (.ref p), some (.int f0), some (.int r), some (.int f)] ∧ H' = H ∧ m = r.toNat ∧ 0 ≤ f ∧ 0 ≤ r ∧ Int.gcd f r = Int.gcd f0 z) _ ⟨_, _, rfl, rfl, rfl, hf0, by omega, rfl⟩ ?_
      rintro m _ _ ⟨f, r, rfl, rfl, rfl, hf, hr', hg⟩
      rename_i H
      by_cases hz : 0 < r
      · have e1' := gcd_step f r hz hf
        have e2 := Int.emod_lt_of_pos f hz
        have e3 := Int.emod_nonneg f (show r ≠ 0 by omega)
        have fin : ∃ m', m' < r.toNat ∧ ∃ (f' r' : Int), ([some (V.ref p), some (V.int f0), some (V.int (f % r)), some (V.int r)] : St) = [some (V.ref p), some (V.int f0), some (V.int r'), some (V.int f')] ∧ m' = r'.toNat ∧ 0 ≤ f' ∧ 0 ≤ r' ∧ Int.gcd f' r' = Int.gcd f0 z := ⟨_, by omega, r, f % r, rfl, rfl, hr', e3, e1'.trans hg⟩
        clear e1' hg e1
        simp_all (failIfUnchanged := false) only [and_true]
      · have hr0 : r = 0 := by omega
        subst hr0
        have e : f = gcdL (ns.take (i + 1)) := by rw [e1 (), ← hg]; exact (gcd_zero f hf).symm
        clear hg e1
        simp_all (failIfUnchanged := false) only [and_true]
        exact ⟨_, _, rfl⟩
    · rintro _ _ ⟨v, v', rfl, rfl⟩
      rename_i H
      have e2 : gcdL (ns.take (ns.map V.int).length) = gcdL ns := by rw [List.length_map, List.take_length]
      rw [e2]
      simp_all (failIfUnchanged := false) only [and_true]
theorem rest_list {zs : List Tm3} {cs : List (Int × Int)} (h : cs.length = zs.length) : (((List.range zs.length).filter fun k => decide ((cs.getD k default).1 < (cs.getD k default).2)).map fun k => V.int (zs.getD k default).1) = (restL zs cs).map V.int := by
  rw [restL_range h, List.map_map]; rfl
def spLEnded  : Sp := fun vs H Q E => ∃ (p : Addr) (g : Int) (q : Addr), vs = [.ref p, .int g, .ref q] ∧ (∃ (zs : List Tm3) (cs : List (Int × Int)), TrAt H p zs ∧ PrAt H q cs ∧ TmsOk zs ∧ CsOk zs cs ∧ ∀ H', Ext H H' → Q (.bl (ended zs cs g)) H')
theorem c_spLEnded  (p : Addr) (g : Int) (q : Addr) (H : Hp) (Q : VK) (E : XK) : spLEnded  [.ref p, .int g, .ref q] H Q E = (∃ (zs : List Tm3) (cs : List (Int × Int)), TrAt H p zs ∧ PrAt H q cs ∧ TmsOk zs ∧ CsOk zs cs ∧ ∀ H', Ext H H' → Q (.bl (ended zs cs g)) H') := spx3 (f := fun (p : Addr) (g : Int) (q : Addr) => [.ref p, .int g, .ref q]) (fun _ _ _ _ _ _ h => by cases h; exact ⟨rfl, rfl, rfl⟩) p g q
theorem l_spLEnded  {vs : List V} {H : Hp} {Q : VK} {E : XK} (h : spLEnded  vs H Q E) : vs.length = 3 := spl3 h fun _ _ _ => rfl
theorem ok__law_ended (T : Tx K mg t) : FnOk P w K mg base CX0 2 t.a__law_ended t.d__law_ended ["_law_terms", "_law_goal", "_law_case_here"] spLEnded := by
  have G__law_sums := ok__law_sums (P := P) (w := w) (base := base) T
  have G__law_divisor := ok__law_divisor (P := P) (w := w) (base := base) T
  refine T.F__law_ended.ok c__law_ended (fun vs H Q E h => l_spLEnded h) (fun cdv A outer s H vs Q E hr h => ?_)
  · obtain ⟨p, g, q, rfl, zs, cs, hp, hq, ht, hc, k⟩ := h
    refine ⟨_, (@pss_cons _ _ _ _ _ (@ps_asg _ _ _ _ _ _ (@pe_call _ _ _ _ _ _ _ _ _ _ _ _ _ _ _ _ G__law_sums (hr.mono (by decide)) (by rfl) T.m__law_sums T.F__law_sums.kp T.b__law_sums .nil pass0 (@pa_c _ _ _ _ _ (@pvN _ 0 _ _ (by rfl) (by first | exact Or.inl rfl | exact Or.inr (Or.inl rfl) | exact Or.inr (Or.inr rfl)) (by decide) (by decide)) (@pa_c _ _ _ _ _ (@pvN _ 2 _ _ (by rfl) (by first | exact Or.inl rfl | exact Or.inr (Or.inl rfl) | exact Or.inr (Or.inr rfl)) (by decide) (by decide)) (@pa_nil _) (by rfl)) (by rfl)) (by decide) (by rfl) (by rfl)) ((@pg_tup _ _ _ _ _ (2) rfl (@pgs_consN _ _ _ _ _ (@pg_name _ _ (3) _ c__law_ended.nd rfl (Or.inl rfl) (by first | exact .inl rfl | exact .inr rfl | assumption)) (@pgs_consN _ _ _ _ _ (@pg_name _ _ (4) _ c__law_ended.nd rfl (Or.inl rfl) (by first | exact .inl rfl | exact .inr rfl | assumption)) (@pgs_nilN _) (by rfl)) (by rfl)) (by rfl) (by rfl)).mono fun _ _ _ _ h => gTup_q h) (by rfl) (by rfl) (by rfl)) (@pss_cons _ _ _ _ _ (@ps_set _ _ (5) _ _ _ _ c__law_ended.nd rfl (Or.inl rfl) (@pe_call _ _ _ _ _ _ _ _ _ _ _ _ _ _ _ _ G__law_divisor (hr.mono (by decide)) (by rfl) T.m__law_divisor T.F__law_divisor.kp T.b__law_divisor .nil pass0 (@pa_c _ _ _ _ _ (@pe_comp _ _ _ _ _ _ _ _ _ _ _ (["_law_k", "_law_terms", "_law_goal", "_law_case_here", "_law_least", "_law_greatest", "_law_rest"]) (1) (comp_ok (defScope s__law_ended) ["_law_terms", "_law_goal", "_law_case_here", "_law_least", "_law_greatest", "_law_rest"] rfl rfl (by decide +kernel)) rfl (@pi_range1 _ _ _ _ _ _ (by rfl) T.z_range (@pa_c _ _ _ _ _ (@pe_callB _ _ _ _ _ _ _ ("len") _ call_qLen (by rfl) T.z_len (by decide +kernel) (@pa_c _ _ _ _ _ (@pvN _ 0 _ _ (by rfl) (by first | exact Or.inl rfl | exact Or.inr (Or.inl rfl) | exact Or.inr (Or.inr rfl)) (by decide) (by decide)) (@pa_nil _) (by rfl)) (by decide) (by decide) (by rfl) (by rfl)) (@pa_nil _) (by rfl)) (by rfl)) (fun C s₀ H₀ ex pn => (@pg_name _ _ (0) _ (show List.Nodup (["_law_k", "_law_terms", "_law_goal", "_law_case_here", "_law_least", "_law_greatest", "_law_rest"] : List Str) from by decide +kernel) rfl (Or.inl rfl) (by first | exact .inl rfl | exact .inr rfl | assumption))) (fun C s₀ H₀ ex pn => (@pts_one _ _ _ (@pt_cmpRN _ _ _ _ _ _ _ _ on_lt (@pe_ix _ _ _ _ _ _ _ ix_q (@pe_ix _ _ _ _ _ _ _ ix_q (@pvN _ 3 _ _ (by rfl) (by first | exact Or.inl rfl | exact Or.inr (Or.inl rfl) | exact Or.inr (Or.inr rfl)) (by decide) (by decide)) (@pvN _ 0 _ _ (by rfl) (by first | exact Or.inl rfl | exact Or.inr (Or.inl rfl) | exact Or.inr (Or.inr rfl)) (by decide) (by decide)) (fun _ _ => rfl)) (@pe_int _ _ _ _) (fun _ _ => rfl)) (@pe_ix _ _ _ _ _ _ _ ix_q (@pe_ix _ _ _ _ _ _ _ ix_q (@pvN _ 3 _ _ (by rfl) (by first | exact Or.inl rfl | exact Or.inr (Or.inl rfl) | exact Or.inr (Or.inr rfl)) (by decide) (by decide)) (@pvN _ 0 _ _ (by rfl) (by first | exact Or.inl rfl | exact Or.inr (Or.inl rfl) | exact Or.inr (Or.inr rfl)) (by decide) (by decide)) (fun _ _ => rfl)) (@pe_int _ _ _ _) (fun _ _ => rfl)) (nomark _)))) (fun C s₀ H₀ ex pn => (@pe_ix _ _ _ _ _ _ _ ix_q (@pe_ix _ _ _ _ _ _ _ ix_q (@pvN _ 1 _ _ (by rfl) (by first | exact Or.inl rfl | exact Or.inr (Or.inl rfl) | exact Or.inr (Or.inr rfl)) (by decide) (by decide)) (@pvN _ 0 _ _ (by rfl) (by first | exact Or.inl rfl | exact Or.inr (Or.inl rfl) | exact Or.inr (Or.inr rfl)) (by decide) (by decide)) (fun _ _ => rfl)) (@pe_int _ _ _ _) (fun _ _ => rfl))) (by intros; rfl)) (@pa_nil _) (by rfl)) (by decide) (by rfl) (by rfl)) (by rfl) (by first | exact .inl rfl | exact .inr rfl | assumption)) (@pss_one _ _ _ (@ps_ret _ _ _ _ (@pe_orN _ _ _ _ _ _ _ (@pe_cmpR _ _ _ _ _ _ _ _ on_gt (@pvN _ 3 _ _ (by rfl) (by first | exact Or.inl rfl | exact Or.inr (Or.inl rfl) | exact Or.inr (Or.inr rfl)) (by decide) (by decide)) (@pvN _ 1 _ _ (by rfl) (by first | exact Or.inl rfl | exact Or.inr (Or.inl rfl) | exact Or.inr (Or.inr rfl)) (by decide) (by decide)) (nomark _)) (@pe_orN _ _ _ _ _ _ _ (@pe_cmpR _ _ _ _ _ _ _ _ on_lt (@pvN _ 4 _ _ (by rfl) (by first | exact Or.inl rfl | exact Or.inr (Or.inl rfl) | exact Or.inr (Or.inr rfl)) (by decide) (by decide)) (@pvN _ 1 _ _ (by rfl) (by first | exact Or.inl rfl | exact Or.inr (Or.inl rfl) | exact Or.inr (Or.inr rfl)) (by decide) (by decide)) (nomark _)) (@pe_one _ _ _ _ _ (@pe_andN _ _ _ _ _ _ _ (@pe_cmpR _ _ _ _ _ _ _ _ on_gt (@pvN _ 5 _ _ (by rfl) (by first | exact Or.inl rfl | exact Or.inr (Or.inl rfl) | exact Or.inr (Or.inr rfl)) (by decide) (by decide)) (@pe_int _ _ _ _) (nomark _)) (@pe_one _ _ _ _ _ (@pe_cmpR _ _ _ _ _ _ _ _ on_gt (@pe_op _ _ _ _ _ _ _ _ on_mod (@pe_op _ _ _ _ _ _ _ _ on_sub (@pvN _ 1 _ _ (by rfl) (by first | exact Or.inl rfl | exact Or.inr (Or.inl rfl) | exact Or.inr (Or.inr rfl)) (by decide) (by decide)) (@pvN _ 3 _ _ (by rfl) (by first | exact Or.inl rfl | exact Or.inr (Or.inl rfl) | exact Or.inr (Or.inr rfl)) (by decide) (by decide))) (@pvN _ 5 _ _ (by rfl) (by first | exact Or.inl rfl | exact Or.inr (Or.inl rfl) | exact Or.inr (Or.inr rfl)) (by decide) (by decide))) (@pe_int _ _ _ _) (nomark _))))))))))), ?_⟩
    rw [show start ["_law_terms", "_law_goal", "_law_case_here", "_law_least", "_law_greatest", "_law_rest"] [.ref p, .int g, .ref q] = [some (.ref p), some (.int g), some (.ref q), none, none, none] from rfl]
    clear G__law_sums G__law_divisor
    have h17 := ht.len
    unfold ended at k
    simp_all (failIfUnchanged := false) only [and_true]
    rw [c_spSums]
    refine ⟨zs, cs, hp, hq, ht, hc, fun r1 H1 e1 h1 => ?_⟩
    obtain ⟨ys, hp1, al⟩ := tr_ext hp e1
    obtain ⟨xs, hq1, bl⟩ := pr_ext hq e1
    have hyl : ys.length = zs.length := al.1
    simp_all (failIfUnchanged := false) only [and_true]
    refine ⟨by omega, by omega, ?_⟩
    refine comp_fm (List.range zs.length) (fun k => decide ((cs.getD k default).1 < (cs.getD k default).2)) (fun k => .int (zs.getD k default).1) (fun j x H' => x = .int (0 + (j : Nat))) wk_rng.1 wk_rng.2 (len5000 (by rw [List.length_range]; omega)) ?_ ?_
    · intro D j x H' N1 N0 hj hD e hx k1 k0
      subst hx
      have hj' := List.mem_range.mp hj
      obtain ⟨q1, f1, f2⟩ := tr_get al hj'
      obtain ⟨q2, g1, g2⟩ := pr_get bl (show j < cs.length by rw [hc.len]; exact hj')
      have hp' := e.at hp1
      have hq' := e.at hq1
      have f2' := e.at f2
      have g2' := e.at g2
      by_cases hlt : (cs.getD j default).1 < (cs.getD j default).2
      · have k1' := k1 (decide_eq_true hlt) H' (Ext.refl _)
        clear k1 k0 k hj f2 g2
        simp_all (failIfUnchanged := false) only [↓m_kCm_1, ↓m_kCm2]
      · have k0' := k0 (decide_eq_false hlt) H' (Ext.refl _)
        clear k1 k0 k hj f2 g2
        simp_all (failIfUnchanged := false) only [↓m_kCm_1, ↓m_kCm2]
    · intro D H2 hD e2 hD2
      rw [rest_list hc.len] at hD2
      have hps := restL_pos (cs := cs) ht
      simp_all (failIfUnchanged := false) only [and_true]
      rw [c_spLGcd]
      refine ⟨_, hD2, hps, ?_⟩
      have k2 := k H2 (e1.trans e2)
      have hgn := gcdL_nn (restL zs cs)
      clear k hps hD2
      generalize gcdL (restL zs cs) = r at k2 hgn
      generalize lsum zs cs = l at k2
      generalize gsum zs cs = gr at k2
      by_cases c1 : g < l
      · rw [endedB_1 c1] at k2
        simp_all (failIfUnchanged := false) only [and_true]
      by_cases c2 : gr < g
      · rw [endedB_2 c2] at k2
        simp_all (failIfUnchanged := false) only [and_true]
      by_cases c3 : 1 < r
      · have hr0 : 0 < r := by omega
        have m0 := Int.emod_nonneg (g - l) (show r ≠ 0 by omega)
        by_cases c4 : 0 < (g - l) % r
        · rw [endedB_3 c3 (by omega)] at k2
          simp_all (failIfUnchanged := false) only [and_true]
        · rw [endedB_5 c1 c2 (by omega)] at k2
          simp_all (failIfUnchanged := false) only [and_true]
      · rw [endedB_4 c1 c2 c3] at k2
        simp_all (failIfUnchanged := false) only [and_true]
def spRight  : Sp := fun vs H Q E => ∃ (i : Int) (j : Int), vs = [.int i, .int j] ∧ (i = j ∧ Q (.bl true) H)
theorem c_spRight  (i : Int) (j : Int) (H : Hp) (Q : VK) (E : XK) : spRight  [.int i, .int j] H Q E = (i = j ∧ Q (.bl true) H) := spx2 (f := fun (i : Int) (j : Int) => [.int i, .int j]) (fun _ _ _ _ h => by cases h; exact ⟨rfl, rfl⟩) i j
theorem l_spRight  {vs : List V} {H : Hp} {Q : VK} {E : XK} (h : spRight  vs H Q E) : vs.length = 2 := spl2 h fun _ _ => rfl
theorem ok__law_right (T : Tx K mg t) : FnOk P w K mg base CX0 2 t.a__law_right t.d__law_right ["_law_found", "_law_due"] spRight := by
  have G__law_whole := ok__law_whole (P := P) (w := w) (base := base) T
  refine T.F__law_right.ok c__law_right (fun vs H Q E h => l_spRight h) (fun cdv A outer s H vs Q E hr h => ?_)
  · obtain ⟨i, _, rfl, rfl, k⟩ := h
    refine ⟨_, (@pss_one _ _ _ (@ps_ret _ _ _ _ (@pe_andN _ _ _ _ _ _ _ (@pe_call _ _ _ _ _ _ _ _ _ _ _ _ _ _ _ _ G__law_whole (hr.mono (by decide)) (by rfl) T.m__law_whole T.F__law_whole.kp T.b__law_whole .nil pass0 (@pa_c _ _ _ _ _ (@pvN _ 0 _ _ (by rfl) (by first | exact Or.inl rfl | exact Or.inr (Or.inl rfl) | exact Or.inr (Or.inr rfl)) (by decide) (by decide)) (@pa_nil _) (by rfl)) (by decide) (by rfl) (by rfl)) (@pe_one _ _ _ _ _ (@pe_cmpR _ _ _ _ _ _ _ _ (op_qEq hr.units) (@pvN _ 0 _ _ (by rfl) (by first | exact Or.inl rfl | exact Or.inr (Or.inl rfl) | exact Or.inr (Or.inr rfl)) (by decide) (by decide)) (@pvN _ 1 _ _ (by rfl) (by first | exact Or.inl rfl | exact Or.inr (Or.inl rfl) | exact Or.inr (Or.inr rfl)) (by decide) (by decide)) (nomark _)))))), ?_⟩
    rw [show start ["_law_found", "_law_due"] [.int i, .int i] = [some (.int i), some (.int i)] from rfl]
    clear G__law_whole
    simp_all (failIfUnchanged := false) only [↓c_spWhole]
def DRow (n : Int) (v : V) : Prop := (1 ≤ n ∧ n ≤ 2000000000000000000) ∧ ∃ j : Int, v = .int j ∧ 0 ≤ j ∧ j < 17
def TmB (z : Tm3) : Prop := (1 ≤ z.1 ∧ z.1 ≤ 2000000000000000000) ∧ (-8 ≤ z.2.1 ∧ z.2.1 ≤ 8) ∧ z.2.1 < z.2.2 ∧ z.2.2 ≤ 2000000000
def TmsB (zs : List Tm3) (i : Nat) : Prop := zs.length = i ∧ ∀ z ∈ zs, TmB z
def spDrawn (K : PySem.W.Frag) (a : Addr) (ns : List Int) : Sp := fun vs H Q E => ∃ (p : Addr), vs = [.ref p] ∧ (p = a ∧ SqL K H a (ns.map V.int) ∧ ns.length ≤ 63 ∧ ∀ (f : Int) (zs : List Tm3) (l r : Addr) (H' : Hp), Ext H H' → H' r = some (.tup [.int f, .ref l]) → TrAt H' l zs → TmsOk zs → 1 ≤ f → f ≤ 12 → Q (.ref r) H')
theorem c_spDrawn (K : PySem.W.Frag) (a : Addr) (ns : List Int) (p : Addr) (H : Hp) (Q : VK) (E : XK) : spDrawn K a ns [.ref p] H Q E = (p = a ∧ SqL K H a (ns.map V.int) ∧ ns.length ≤ 63 ∧ ∀ (f : Int) (zs : List Tm3) (l r : Addr) (H' : Hp), Ext H H' → H' r = some (.tup [.int f, .ref l]) → TrAt H' l zs → TmsOk zs → 1 ≤ f → f ≤ 12 → Q (.ref r) H') := spx1 (f := fun (p : Addr) => [.ref p]) (fun _ _ h => by cases h; exact rfl) p
theorem l_spDrawn (K : PySem.W.Frag) (a : Addr) (ns : List Int) {vs : List V} {H : Hp} {Q : VK} {E : XK} (h : spDrawn K a ns vs H Q E) : vs.length = 1 := spl1 h fun _ => rfl
theorem ok__law_drawn (T : Tx K mg t) (a : Addr) (ns : List Int) : FnOk P w K mg base CX0 2 t.a__law_drawn t.d__law_drawn ["_law_script"] (spDrawn K a ns) := by
  have G__law_draw := ok__law_draw (P := P) (w := w) (base := base) T a ns
  refine T.F__law_drawn.ok c__law_drawn (fun vs H Q E h => l_spDrawn _ _ _ h) (fun cdv A outer s H vs Q E hr h => ?_)
  · obtain ⟨_, rfl, rfl, hS, hl, kk⟩ := h
    rename_i a
    refine ⟨_, (@pss_cons _ _ _ _ _ (@ps_set _ _ (1) _ _ _ _ c__law_drawn.nd rfl (Or.inl rfl) (@pe_ix _ _ _ _ _ _ _ ix_q (@pe_qLst _ _ _ _ (@pa_c _ _ _ _ _ (@pe_int _ _ _ _) (@pa_c _ _ _ _ _ (@pe_op _ _ _ _ _ _ _ _ on_add (@pe_int _ _ _ _) (@pe_call _ _ _ _ _ _ _ _ _ _ _ _ _ _ _ _ G__law_draw (hr.mono (by decide)) (by rfl) T.m__law_draw T.F__law_draw.kp T.b__law_draw .nil pass0 (@pa_c _ _ _ _ _ (@pvN _ 0 _ _ (by rfl) (by first | exact Or.inl rfl | exact Or.inr (Or.inl rfl) | exact Or.inr (Or.inr rfl)) (by decide) (by decide)) (@pa_c _ _ _ _ _ (@pe_int _ _ _ _) (@pa_c _ _ _ _ _ (@pe_int _ _ _ _) (@pa_nil _) (by rfl)) (by rfl)) (by rfl)) (by decide) (by rfl) (by rfl))) (@pa_nil _) (by rfl)) (by rfl))) (@pe_call _ _ _ _ _ _ _ _ _ _ _ _ _ _ _ _ G__law_draw (hr.mono (by decide)) (by rfl) T.m__law_draw T.F__law_draw.kp T.b__law_draw .nil pass0 (@pa_c _ _ _ _ _ (@pvN _ 0 _ _ (by rfl) (by first | exact Or.inl rfl | exact Or.inr (Or.inl rfl) | exact Or.inr (Or.inr rfl)) (by decide) (by decide)) (@pa_c _ _ _ _ _ (@pe_int _ _ _ _) (@pa_c _ _ _ _ _ (@pe_int _ _ _ _) (@pa_nil _) (by rfl)) (by rfl)) (by rfl)) (by decide) (by rfl) (by rfl)) (fun _ _ => rfl)) (by rfl) (by first | exact .inl rfl | exact .inr rfl | assumption)) (@pss_cons _ _ _ _ _ (@ps_set _ _ (2) _ _ _ _ c__law_drawn.nd rfl (Or.inl rfl) (@pe_ix _ _ _ _ _ _ _ ix_q (@pe_qLst _ _ _ _ (@pa_c _ _ _ _ _ (@pe_int _ _ _ _) (@pa_c _ _ _ _ _ (@pe_int _ _ _ _) (@pa_c _ _ _ _ _ (@pe_op _ _ _ _ _ _ _ _ on_pow (@pe_int _ _ _ _) (@pe_int _ _ _ _)) (@pa_nil _) (by rfl)) (by rfl)) (by rfl))) (@pe_call _ _ _ _ _ _ _ _ _ _ _ _ _ _ _ _ G__law_draw (hr.mono (by decide)) (by rfl) T.m__law_draw T.F__law_draw.kp T.b__law_draw .nil pass0 (@pa_c _ _ _ _ _ (@pvN _ 0 _ _ (by rfl) (by first | exact Or.inl rfl | exact Or.inr (Or.inl rfl) | exact Or.inr (Or.inr rfl)) (by decide) (by decide)) (@pa_c _ _ _ _ _ (@pe_int _ _ _ _) (@pa_c _ _ _ _ _ (@pe_int _ _ _ _) (@pa_nil _) (by rfl)) (by rfl)) (by rfl)) (by decide) (by rfl) (by rfl)) (fun _ _ => rfl)) (by rfl) (by first | exact .inl rfl | exact .inr rfl | assumption)) (@pss_cons _ _ _ _ _ (@ps_set _ _ (3) _ _ _ _ c__law_drawn.nd rfl (Or.inl rfl) (@pe_nDNew _ _) (by rfl) (by first | exact .inl rfl | exact .inr rfl | assumption)) (@pss_cons _ _ _ _ _ (@ps_for _ _ _ _ _ _ _ _ PassesOwn.never rfl (@pi_range1 _ _ _ _ _ _ (by rfl) T.z_range (@pa_c _ _ _ _ _ (@pe_call _ _ _ _ _ _ _ _ _ _ _ _ _ _ _ _ G__law_draw (hr.mono (by decide)) (by rfl) T.m__law_draw T.F__law_draw.kp T.b__law_draw .nil pass0 (@pa_c _ _ _ _ _ (@pvN _ 0 _ _ (by rfl) (by first | exact Or.inl rfl | exact Or.inr (Or.inl rfl) | exact Or.inr (Or.inr rfl)) (by decide) (by decide)) (@pa_c _ _ _ _ _ (@pe_int _ _ _ _) (@pa_c _ _ _ _ _ (@pe_int _ _ _ _) (@pa_nil _) (by rfl)) (by rfl)) (by rfl)) (by decide) (by rfl) (by rfl)) (@pa_nil _) (by rfl)) (by rfl)) (@pg_name _ _ (4) _ c__law_drawn.nd rfl (Or.inl rfl) (by first | exact .inl rfl | exact .inr rfl | assumption)) (@pss_one _ _ _ (@ps_dput _ _ _ _ _ _ _ _ _ (units1 hr.units) (@pvN _ 3 _ _ (by rfl) (by first | exact Or.inl rfl | exact Or.inr (Or.inl rfl) | exact Or.inr (Or.inr rfl)) (by decide) (by decide)) (@pe_op _ _ _ _ _ _ _ _ on_mul (@pvN _ 1 _ _ (by rfl) (by first | exact Or.inl rfl | exact Or.inr (Or.inl rfl) | exact Or.inr (Or.inr rfl)) (by decide) (by decide)) (@pe_op _ _ _ _ _ _ _ _ on_add (@pe_int _ _ _ _) (@pe_call _ _ _ _ _ _ _ _ _ _ _ _ _ _ _ _ G__law_draw (hr.mono (by decide)) (by rfl) T.m__law_draw T.F__law_draw.kp T.b__law_draw .nil pass0 (@pa_c _ _ _ _ _ (@pvN _ 0 _ _ (by rfl) (by first | exact Or.inl rfl | exact Or.inr (Or.inl rfl) | exact Or.inr (Or.inr rfl)) (by decide) (by decide)) (@pa_c _ _ _ _ _ (@pe_op _ _ _ _ _ _ _ _ on_add (@pe_int _ _ _ _) (@pe_op _ _ _ _ _ _ _ _ on_mul (@pe_int _ _ _ _) (@pvN _ 4 _ _ (by rfl) (by first | exact Or.inl rfl | exact Or.inr (Or.inl rfl) | exact Or.inr (Or.inr rfl)) (by decide) (by decide)))) (@pa_c _ _ _ _ _ (@pvN _ 2 _ _ (by rfl) (by first | exact Or.inl rfl | exact Or.inr (Or.inl rfl) | exact Or.inr (Or.inr rfl)) (by decide) (by decide)) (@pa_nil _) (by rfl)) (by rfl)) (by rfl)) (by decide) (by rfl) (by rfl)))) (@pvN _ 4 _ _ (by rfl) (by first | exact Or.inl rfl | exact Or.inr (Or.inl rfl) | exact Or.inr (Or.inr rfl)) (by decide) (by decide)) rfl)) (by intros; rfl)) (@pss_cons _ _ _ _ _ (@ps_set _ _ (5) _ _ _ _ c__law_drawn.nd rfl (Or.inl rfl) (@pe_qLst _ _ _ _ (@pa_nil _)) (by rfl) (by first | exact .inl rfl | exact .inr rfl | assumption)) (@pss_cons _ _ _ _ _ (@ps_for _ _ _ _ _ _ _ _ PassesOwn.never rfl (@pi_seq _ _ _ _ (@pe_callB _ _ _ _ _ _ _ ("sorted") _ (call_qSrtD rfl) (by rfl) T.z_sorted (by decide +kernel) (@pa_c _ _ _ _ _ (@pvN _ 3 _ _ (by rfl) (by first | exact Or.inl rfl | exact Or.inr (Or.inl rfl) | exact Or.inr (Or.inr rfl)) (by decide) (by decide)) (@pa_nil _) (by rfl)) (by decide) (by decide) (by rfl) (by rfl))) (@pg_name _ _ (6) _ c__law_drawn.nd rfl (Or.inl rfl) (by first | exact .inl rfl | exact .inr rfl | assumption)) (@pss_cons _ _ _ _ _ (@ps_set _ _ (7) _ _ _ _ c__law_drawn.nd rfl (Or.inl rfl) (@pe_call _ _ _ _ _ _ _ _ _ _ _ _ _ _ _ _ G__law_draw (hr.mono (by decide)) (by rfl) T.m__law_draw T.F__law_draw.kp T.b__law_draw .nil pass0 (@pa_c _ _ _ _ _ (@pvN _ 0 _ _ (by rfl) (by first | exact Or.inl rfl | exact Or.inr (Or.inl rfl) | exact Or.inr (Or.inr rfl)) (by decide) (by decide)) (@pa_c _ _ _ _ _ (@pe_op _ _ _ _ _ _ _ _ on_add (@pe_int _ _ _ _) (@pe_op _ _ _ _ _ _ _ _ on_mul (@pe_int _ _ _ _) (@pe_dget _ _ _ _ _ _ (units1 hr.units) (@pvN _ 3 _ _ (by rfl) (by first | exact Or.inl rfl | exact Or.inr (Or.inl rfl) | exact Or.inr (Or.inr rfl)) (by decide) (by decide)) (@pvN _ 6 _ _ (by rfl) (by first | exact Or.inl rfl | exact Or.inr (Or.inl rfl) | exact Or.inr (Or.inr rfl)) (by decide) (by decide)) (fun _ _ => rfl)))) (@pa_c _ _ _ _ _ (@pe_op _ _ _ _ _ _ _ _ on_pow (@pe_int _ _ _ _) (@pe_int _ _ _ _)) (@pa_nil _) (by rfl)) (by rfl)) (by rfl)) (by decide) (by rfl) (by rfl)) (by rfl) (by first | exact .inl rfl | exact .inr rfl | assumption)) (@pss_cons _ _ _ _ _ (@ps_set _ _ (8) _ _ _ _ c__law_drawn.nd rfl (Or.inl rfl) (@pe_op _ _ _ _ _ _ _ _ on_sub (@pe_op _ _ _ _ _ _ _ _ on_mod (@pe_op _ _ _ _ _ _ _ _ on_fdiv (@pvN _ 7 _ _ (by rfl) (by first | exact Or.inl rfl | exact Or.inr (Or.inl rfl) | exact Or.inr (Or.inr rfl)) (by decide) (by decide)) (@pe_int _ _ _ _)) (@pe_int _ _ _ _)) (@pe_int _ _ _ _)) (by rfl) (by first | exact .inl rfl | exact .inr rfl | assumption)) (@pss_one _ _ _ (@ps_set _ _ (5) _ _ _ _ c__law_drawn.nd rfl (Or.inl rfl) (@pe_op _ _ _ _ _ _ _ _ op_nCat (@pe_qLst _ _ _ _ (@pa_c _ _ _ _ _ (@pe_qTup _ _ _ _ _ (@pa_c _ _ _ _ _ (@pvN _ 6 _ _ (by rfl) (by first | exact Or.inl rfl | exact Or.inr (Or.inl rfl) | exact Or.inr (Or.inr rfl)) (by decide) (by decide)) (@pa_c _ _ _ _ _ (@pvN _ 8 _ _ (by rfl) (by first | exact Or.inl rfl | exact Or.inr (Or.inl rfl) | exact Or.inr (Or.inr rfl)) (by decide) (by decide)) (@pa_c _ _ _ _ _ (@pe_op _ _ _ _ _ _ _ _ on_add (@pe_op _ _ _ _ _ _ _ _ on_add (@pvN _ 8 _ _ (by rfl) (by first | exact Or.inl rfl | exact Or.inr (Or.inl rfl) | exact Or.inr (Or.inr rfl)) (by decide) (by decide)) (@pe_int _ _ _ _)) (@pe_op _ _ _ _ _ _ _ _ on_mod (@pe_op _ _ _ _ _ _ _ _ on_fdiv (@pvN _ 7 _ _ (by rfl) (by first | exact Or.inl rfl | exact Or.inr (Or.inl rfl) | exact Or.inr (Or.inr rfl)) (by decide) (by decide)) (@pe_int _ _ _ _)) (@pe_ix _ _ _ _ _ _ _ ix_q (@pe_qLst _ _ _ _ (@pa_c _ _ _ _ _ (@pe_int _ _ _ _) (@pa_c _ _ _ _ _ (@pe_op _ _ _ _ _ _ _ _ on_pow (@pe_int _ _ _ _) (@pe_int _ _ _ _)) (@pa_nil _) (by rfl)) (by rfl))) (@pe_op _ _ _ _ _ _ _ _ on_mod (@pvN _ 7 _ _ (by rfl) (by first | exact Or.inl rfl | exact Or.inr (Or.inl rfl) | exact Or.inr (Or.inr rfl)) (by decide) (by decide)) (@pe_int _ _ _ _)) (fun _ _ => rfl)))) (@pa_nil _) (by rfl)) (by rfl)) (by rfl))) (@pa_nil _) (by rfl))) (@pvN _ 5 _ _ (by rfl) (by first | exact Or.inl rfl | exact Or.inr (Or.inl rfl) | exact Or.inr (Or.inr rfl)) (by decide) (by decide))) (by rfl) (by first | exact .inl rfl | exact .inr rfl | assumption))))) (by intros; rfl)) (@pss_one _ _ _ (@ps_ret _ _ _ _ (@pe_qTup _ _ _ _ _ (@pa_c _ _ _ _ _ (@pvN _ 1 _ _ (by rfl) (by first | exact Or.inl rfl | exact Or.inr (Or.inl rfl) | exact Or.inr (Or.inr rfl)) (by decide) (by decide)) (@pa_c _ _ _ _ _ (@pvN _ 5 _ _ (by rfl) (by first | exact Or.inl rfl | exact Or.inr (Or.inl rfl) | exact Or.inr (Or.inr rfl)) (by decide) (by decide)) (@pa_nil _) (by rfl)) (by rfl))))))))))), ?_⟩
    rw [show start ["_law_script", "_law_factor", "_law_most", "_law_times", "_law_k", "_law_terms", "_law_one", "_law_cell", "_law_low"] [.ref a] = [some (.ref a), none, none, none, none, none, none, none, none] from rfl]
    clear G__law_draw
    simp_all (failIfUnchanged := false) only [and_true]
    rw [c_spDraw]
    refine ⟨hS, hl, ⟨by decide, by decide⟩, by decide, fun f0 f00 f01 => ?_⟩
    simp_all (failIfUnchanged := false) only [and_true]
    intro q1 H1 hq1 e1 h1
    have hS1 := e1.2 K a _ hS
    simp_all (failIfUnchanged := false) only [and_true]
    rw [c_spDraw]
    refine ⟨hS1, hl, ⟨by decide, by decide⟩, by decide, fun c1 c10 c11 => ?_⟩
    simp_all (failIfUnchanged := false) only [and_true]
    refine optK_ints (fun j => 1 ≤ j ∧ j ≤ 12) c10 (show c1 < 2 by omega) (fun v hv => ?_) fun f hf => ?_
    · simp only [List.mem_cons, List.not_mem_nil, or_false] at hv
      rcases hv with rfl | rfl <;> exact ⟨_, rfl, by omega, by omega⟩
    obtain ⟨hf1, hf2⟩ := hf
    simp_all (failIfUnchanged := false) only [and_true]
    intro q2 H2 hq2 e2 h2
    have hS2 := e2.2 K a _ hS1
    simp_all (failIfUnchanged := false) only [and_true]
    rw [c_spDraw]
    refine ⟨hS2, hl, ⟨by decide, by decide⟩, by decide, fun c2 c20 c21 => ?_⟩
    simp_all (failIfUnchanged := false) only [and_true]
    refine optK_ints (fun j => 1 ≤ j ∧ j ≤ 100000000000000000) c20 (show c2 < 3 by omega) (fun v hv => ?_) fun m hm => ?_
    · simp only [List.mem_cons, List.not_mem_nil, or_false] at hv
      rcases hv with rfl | rfl | rfl <;> exact ⟨_, rfl, by omega, by omega⟩
    obtain ⟨hm1, hm2⟩ := hm
    clear h1 h2
    simp_all (failIfUnchanged := false) only [and_true]
    intro d H3 hd3 e3 h3
    have hS3 := e3.2 K a _ hS2
    have hdn : H d = none := e1.free (e2.free hd3)
    have e03 := e1.trans (e2.trans e3)
    simp_all (failIfUnchanged := false) only [and_true]
    rw [c_spDraw]
    refine ⟨hS3, hl, ⟨by decide, by decide⟩, by decide, fun n n0 n1 => ?_⟩
    simp_all (failIfUnchanged := false) only [and_true]
    refine ⟨by omega, by omega, ?_⟩
    refine for_rng (fun i σ H' => ∃ (kvs : List (Key × V)) (v4 : Option V), σ = [some (.ref a), some (.int f), some (.int m), some (.ref d), v4, none, none, none, none] ∧ Ext H H' ∧ H' d = some (.dK kvs) ∧ kvs.length ≤ i ∧ ∀ kv ∈ kvs, ∃ n : Int, kv.1 = .inl n ∧ DRow n kv.2) ⟨[], none, rfl, e03, h3, Nat.le_refl _, fun _ h => absurd h List.not_mem_nil⟩ ?_ ?_
    · rintro i _ H4 hi ⟨kvs, v4, rfl, e4, h4, hkl, hall⟩
      have hi' : i < n.toNat := hi
      have hS4 := e4.2 K a _ hS
      have hcm : CMul (3 : Int) (0 + (i : Int)) := .inl ⟨by decide, by decide⟩
      clear hi kk
      simp_all (failIfUnchanged := false) only [↓m_kBody]
      rw [c_spDraw]
      refine ⟨hS4, hl, ⟨by omega, by omega⟩, by omega, fun x x0 x1 => ?_⟩
      have hcm2 : CMul f (1 + x) := .inl ⟨by omega, by omega⟩
      have b1 : 1 * 1 ≤ f * (1 + x) := Int.mul_le_mul hf1 (by omega) (by decide) (by omega)
      have b2 : f * (1 + x) ≤ 12 * 100000000000000001 := Int.mul_le_mul hf2 (by omega) (by omega) (by decide)
      simp_all (failIfUnchanged := false) only [and_true]
      refine use_dp (k := .inl (f * (1 + x))) h4 (lt5000 (by omega)) ?_
      simp_all (failIfUnchanged := false) only [and_true]
      exact ⟨putK kvs (.inl (f * (1 + x))) (.int (0 + (i : Int))), _, rfl, e4.put hdn, rfl, by have := length_putK kvs (.inl (f * (1 + x))) (.int (0 + (i : Int))); omega, all_putK (P := fun kv => ∃ n : Int, kv.1 = .inl n ∧ DRow n kv.2) hall ⟨_, rfl, ⟨by omega, by omega⟩, _, rfl, by omega, by omega⟩⟩
    · rintro _ H4 ⟨kvs, v4, rfl, e4, h4, hkl, hall⟩
      have hk17 : kvs.length ≤ 17 := by omega
      obtain ⟨ks, hks⟩ := keys_ints hall
      have hkl2 : ks.length = kvs.length := by have := congrArg List.length hks; simpa using this.symm
      simp_all (failIfUnchanged := false) only [and_true]
      intro q5 H5 hq5 e5 h5
      have h4' := e5.at h4
      simp_all (failIfUnchanged := false) only [and_true]
      refine use_srt (ns := ks) h4' hks (by omega) fun ms hp _ => ?_
      have hml := hp.length_eq
      rw [m_newK]
      intro q6 H6 hq6 e6 h6
      have h4'' := e6.at h4'
      have h5' := e6.at h5
      simp_all (failIfUnchanged := false) only [and_true]
      refine for_lst (xs := ms.map V.int) (fun i σ H' => ∃ (zs : List Tm3) (l : Addr) (v6 v7 v8 : Option V), σ = [some (.ref a), some (.int f), some (.int m), some (.ref d), v4, some (.ref l), v6, v7, v8] ∧ Ext H6 H' ∧ TrAt H' l zs ∧ TmsB zs i) ⟨[], q5, none, none, none, rfl, Ext.refl _, ⟨[], h5', Al.nil⟩, ⟨rfl, fun _ h => absurd h List.not_mem_nil⟩⟩ (fun i σ H' _ ⟨_, _, _, _, _, _, e, _⟩ => e.at h6) ?_ ?_
      · rintro i y _ H7 hi ⟨zs, l, v6, v7, v8, rfl, e7, ⟨ys, hl7, al⟩, ⟨hzl, hz⟩⟩
        have hil : i < ms.length := by have := (List.getElem?_eq_some_iff.mp hi).1; rwa [List.length_map] at this
        rw [List.getElem?_map] at hi
        obtain ⟨o, ho, rfl⟩ := Option.map_eq_some_iff.mp hi
        obtain ⟨v, hv, ⟨ho1, ho2⟩, j, rfl, hj0, hj1⟩ := key_val hall hks (hp.mem_iff.mp (List.mem_of_getElem? ho))
        have h7 := e7.at h4''
        have hS7 := (e4.trans (e5.trans (e6.trans e7))).2 K a _ hS
        have hcm : CMul (3 : Int) j := .inl ⟨by decide, by decide⟩
        have hyl : ys.length ≤ 17 := by rw [al.1]; omega
        have hyl2 : 1 + ys.length ≤ sizeLine := len5000 (by omega)
        replace hz := fun (_ : Unit) => hz
        clear hi kk hall hks ho
        rw [gName_6, m_kBody, m_tSeq, m_tAsg, m_tCall, m_tCons, m_tV_0, m_kCons, m_tCons, m_tOp, m_tC, m_kOp, m_tOp, m_tC, m_kOp, m_tDGet, m_tV_3, m_kDG0, m_tV_6]
        refine use_dg (k := .inl o) h7 hv ?_
        simp_all (failIfUnchanged := false) only [and_true]
        rw [c_spDraw]
        refine ⟨hS7, hl, ⟨by omega, by omega⟩, by decide, fun c c0 c1' => ?_⟩
        have g1 := Int.emod_nonneg (c / 2) (show (17 : Int) ≠ 0 by decide)
        have g2 := Int.emod_lt_of_pos (c / 2) (show (0 : Int) < 17 by decide)
        simp_all (failIfUnchanged := false) only [and_true]
        intro q8 H8 hq8 e8 h8
        simp_all (failIfUnchanged := false) only [and_true]
        refine optK_ints (fun j => 1 ≤ j ∧ j ≤ 1000000000) (Int.emod_nonneg _ (by decide)) (Int.emod_lt_of_pos _ (by decide)) (fun v hv => ?_) fun u hu => ?_
        · simp only [List.mem_cons, List.not_mem_nil, or_false] at hv
          rcases hv with rfl | rfl <;> exact ⟨_, rfl, by omega, by omega⟩
        obtain ⟨hu1, hu2⟩ := hu
        have hu0 : 0 < u := by omega
        have w1 := Int.emod_nonneg (c / 34) (show u ≠ 0 by omega)
        have w2 := Int.emod_lt_of_pos (c / 34) hu0
        simp_all (failIfUnchanged := false) only [and_true]
        intro q9 H9 hq9 e9 h9
        simp_all (failIfUnchanged := false) only [and_true]
        intro q10 H10 hq10 e10 h10
        have hl10 := (e8.trans (e9.trans e10)).at hl7
        simp_all (failIfUnchanged := false) only [and_true]
        intro q11 H11 hq11 e11 h11
        simp_all (failIfUnchanged := false) only [and_true]
        refine ⟨(o, c / 2 % 17 - 8, c / 2 % 17 - 8 + 1 + c / 34 % u) :: zs, q11, _, _, _, rfl, e7.trans (e8.trans (e9.trans (e10.trans e11))), ⟨_, h11, Al.cons' ⟨q9, rfl, (e10.trans e11).at h9⟩ (al.imp fun _ _ r => r.ext (e8.trans (e9.trans (e10.trans e11))))⟩, ⟨by simp [hzl], fun z hz' => ?_⟩⟩
        rcases List.mem_cons.mp hz' with h | h
        · rw [h]
          refine ⟨⟨ho1, ho2⟩, ⟨by show -8 ≤ c / 2 % 17 - 8; omega, by show c / 2 % 17 - 8 ≤ 8; omega⟩, ?_, ?_⟩
          · show c / 2 % 17 - 8 < c / 2 % 17 - 8 + 1 + c / 34 % u; omega
          · show c / 2 % 17 - 8 + 1 + c / 34 % u ≤ 2000000000; omega
        · exact hz () z h
      · rintro _ H7 ⟨zs, l, v6, v7, v8, rfl, e7, ht, ⟨hzl, hz⟩⟩
        simp_all (failIfUnchanged := false) only [and_true]
        intro r H8 hr8 e8 h8
        exact kk f zs l r H8 (e4.trans (e5.trans (e6.trans (e7.trans e8)))) h8 (tr_ext ht e8) ⟨by rw [hzl, List.length_map]; omega, hz⟩ hf1 hf2
def spCase (K : PySem.W.Frag) (a : Addr) (ns : List Int) : Sp := fun vs H Q E => ∃ (p : Addr) (q : Addr), vs = [.ref p, .ref q] ∧ (p = a ∧ SqL K H a (ns.map V.int) ∧ ns.length ≤ 63 ∧ ∃ zs : List Tm3, TrAt H q zs ∧ TmsOk zs ∧ ∀ (cs : List (Int × Int)) (l : Addr) (H' : Hp), Ext H H' → PrAt H' l cs → CsOk zs cs → Q (.ref l) H')
theorem c_spCase (K : PySem.W.Frag) (a : Addr) (ns : List Int) (p : Addr) (q : Addr) (H : Hp) (Q : VK) (E : XK) : spCase K a ns [.ref p, .ref q] H Q E = (p = a ∧ SqL K H a (ns.map V.int) ∧ ns.length ≤ 63 ∧ ∃ zs : List Tm3, TrAt H q zs ∧ TmsOk zs ∧ ∀ (cs : List (Int × Int)) (l : Addr) (H' : Hp), Ext H H' → PrAt H' l cs → CsOk zs cs → Q (.ref l) H') := spx2 (f := fun (p : Addr) (q : Addr) => [.ref p, .ref q]) (fun _ _ _ _ h => by cases h; exact ⟨rfl, rfl⟩) p q
theorem l_spCase (K : PySem.W.Frag) (a : Addr) (ns : List Int) {vs : List V} {H : Hp} {Q : VK} {E : XK} (h : spCase K a ns vs H Q E) : vs.length = 2 := spl2 h fun _ _ => rfl
theorem ok__law_case (T : Tx K mg t) (a : Addr) (ns : List Int) : FnOk P w K mg base CX0 2 t.a__law_case t.d__law_case ["_law_script", "_law_terms"] (spCase K a ns) := by
  have G__law_draw := ok__law_draw (P := P) (w := w) (base := base) T a ns
  refine T.F__law_case.ok c__law_case (fun vs H Q E h => l_spCase _ _ _ h) (fun cdv A outer s H vs Q E hr h => ?_)
  · obtain ⟨_, q, rfl, rfl, hS, hl, zs, ⟨ys, hq, al⟩, ht, kk⟩ := h
    rename_i a
    refine ⟨_, (@pss_cons _ _ _ _ _ (@ps_set _ _ (2) _ _ _ _ c__law_case.nd rfl (Or.inl rfl) (@pe_qLst _ _ _ _ (@pa_nil _)) (by rfl) (by first | exact .inl rfl | exact .inr rfl | assumption)) (@pss_cons _ _ _ _ _ (@ps_for _ _ _ _ _ _ _ _ PassesOwn.never rfl (@pi_range1 _ _ _ _ _ _ (by rfl) T.z_range (@pa_c _ _ _ _ _ (@pe_callB _ _ _ _ _ _ _ ("len") _ call_qLen (by rfl) T.z_len (by decide +kernel) (@pa_c _ _ _ _ _ (@pvN _ 1 _ _ (by rfl) (by first | exact Or.inl rfl | exact Or.inr (Or.inl rfl) | exact Or.inr (Or.inr rfl)) (by decide) (by decide)) (@pa_nil _) (by rfl)) (by decide) (by decide) (by rfl) (by rfl)) (@pa_nil _) (by rfl)) (by rfl)) (@pg_name _ _ (3) _ c__law_case.nd rfl (Or.inl rfl) (by first | exact .inl rfl | exact .inr rfl | assumption)) (@pss_cons _ _ _ _ _ (@ps_asg _ _ _ _ _ _ (@pe_ix _ _ _ _ _ _ _ ix_q (@pvN _ 1 _ _ (by rfl) (by first | exact Or.inl rfl | exact Or.inr (Or.inl rfl) | exact Or.inr (Or.inr rfl)) (by decide) (by decide)) (@pvN _ 3 _ _ (by rfl) (by first | exact Or.inl rfl | exact Or.inr (Or.inl rfl) | exact Or.inr (Or.inr rfl)) (by decide) (by decide)) (fun _ _ => rfl)) ((@pg_tup _ _ _ _ _ (3) rfl (@pgs_consN _ _ _ _ _ (@pg_name _ _ (4) _ c__law_case.nd rfl (Or.inl rfl) (by first | exact .inl rfl | exact .inr rfl | assumption)) (@pgs_consN _ _ _ _ _ (@pg_name _ _ (5) _ c__law_case.nd rfl (Or.inl rfl) (by first | exact .inl rfl | exact .inr rfl | assumption)) (@pgs_consN _ _ _ _ _ (@pg_name _ _ (6) _ c__law_case.nd rfl (Or.inl rfl) (by first | exact .inl rfl | exact .inr rfl | assumption)) (@pgs_nilN _) (by rfl)) (by rfl)) (by rfl)) (by rfl) (by rfl)).mono fun _ _ _ _ h => gTup_q h) (by rfl) (by rfl) (by rfl)) (@pss_cons _ _ _ _ _ (@ps_set _ _ (7) _ _ _ _ c__law_case.nd rfl (Or.inl rfl) (@pe_call _ _ _ _ _ _ _ _ _ _ _ _ _ _ _ _ G__law_draw (hr.mono (by decide)) (by rfl) T.m__law_draw T.F__law_draw.kp T.b__law_draw .nil pass0 (@pa_c _ _ _ _ _ (@pvN _ 0 _ _ (by rfl) (by first | exact Or.inl rfl | exact Or.inr (Or.inl rfl) | exact Or.inr (Or.inr rfl)) (by decide) (by decide)) (@pa_c _ _ _ _ _ (@pe_op _ _ _ _ _ _ _ _ on_add (@pe_int _ _ _ _) (@pe_op _ _ _ _ _ _ _ _ on_mul (@pe_int _ _ _ _) (@pvN _ 3 _ _ (by rfl) (by first | exact Or.inl rfl | exact Or.inr (Or.inl rfl) | exact Or.inr (Or.inr rfl)) (by decide) (by decide)))) (@pa_c _ _ _ _ _ (@pe_op _ _ _ _ _ _ _ _ on_pow (@pe_int _ _ _ _) (@pe_int _ _ _ _)) (@pa_nil _) (by rfl)) (by rfl)) (by rfl)) (by decide) (by rfl) (by rfl)) (by rfl) (by first | exact .inl rfl | exact .inr rfl | assumption)) (@pss_cons _ _ _ _ _ (@ps_set _ _ (8) _ _ _ _ c__law_case.nd rfl (Or.inl rfl) (@pe_op _ _ _ _ _ _ _ _ on_add (@pvN _ 5 _ _ (by rfl) (by first | exact Or.inl rfl | exact Or.inr (Or.inl rfl) | exact Or.inr (Or.inr rfl)) (by decide) (by decide)) (@pe_op _ _ _ _ _ _ _ _ on_mod (@pe_op _ _ _ _ _ _ _ _ on_fdiv (@pvN _ 7 _ _ (by rfl) (by first | exact Or.inl rfl | exact Or.inr (Or.inl rfl) | exact Or.inr (Or.inr rfl)) (by decide) (by decide)) (@pe_int _ _ _ _)) (@pe_op _ _ _ _ _ _ _ _ on_add (@pe_op _ _ _ _ _ _ _ _ on_sub (@pvN _ 6 _ _ (by rfl) (by first | exact Or.inl rfl | exact Or.inr (Or.inl rfl) | exact Or.inr (Or.inr rfl)) (by decide) (by decide)) (@pvN _ 5 _ _ (by rfl) (by first | exact Or.inl rfl | exact Or.inr (Or.inl rfl) | exact Or.inr (Or.inr rfl)) (by decide) (by decide))) (@pe_int _ _ _ _)))) (by rfl) (by first | exact .inl rfl | exact .inr rfl | assumption)) (@pss_cons _ _ _ _ _ (@ps_set _ _ (9) _ _ _ _ c__law_case.nd rfl (Or.inl rfl) (@pe_ix _ _ _ _ _ _ _ ix_q (@pe_qLst _ _ _ _ (@pa_c _ _ _ _ _ (@pvN _ 8 _ _ (by rfl) (by first | exact Or.inl rfl | exact Or.inr (Or.inl rfl) | exact Or.inr (Or.inr rfl)) (by decide) (by decide)) (@pa_c _ _ _ _ _ (@pe_op _ _ _ _ _ _ _ _ on_add (@pvN _ 8 _ _ (by rfl) (by first | exact Or.inl rfl | exact Or.inr (Or.inl rfl) | exact Or.inr (Or.inr rfl)) (by decide) (by decide)) (@pe_op _ _ _ _ _ _ _ _ on_mod (@pe_op _ _ _ _ _ _ _ _ on_fdivB (@pvN _ 7 _ _ (by rfl) (by first | exact Or.inl rfl | exact Or.inr (Or.inl rfl) | exact Or.inr (Or.inr rfl)) (by decide) (by decide)) (@pe_op _ _ _ _ _ _ _ _ on_pow (@pe_int _ _ _ _) (@pe_int _ _ _ _))) (@pe_op _ _ _ _ _ _ _ _ on_add (@pe_op _ _ _ _ _ _ _ _ on_sub (@pvN _ 6 _ _ (by rfl) (by first | exact Or.inl rfl | exact Or.inr (Or.inl rfl) | exact Or.inr (Or.inr rfl)) (by decide) (by decide)) (@pvN _ 8 _ _ (by rfl) (by first | exact Or.inl rfl | exact Or.inr (Or.inl rfl) | exact Or.inr (Or.inr rfl)) (by decide) (by decide))) (@pe_int _ _ _ _)))) (@pa_c _ _ _ _ _ (@pvN _ 6 _ _ (by rfl) (by first | exact Or.inl rfl | exact Or.inr (Or.inl rfl) | exact Or.inr (Or.inr rfl)) (by decide) (by decide)) (@pa_nil _) (by rfl)) (by rfl)) (by rfl))) (@pe_op _ _ _ _ _ _ _ _ on_mod (@pvN _ 7 _ _ (by rfl) (by first | exact Or.inl rfl | exact Or.inr (Or.inl rfl) | exact Or.inr (Or.inr rfl)) (by decide) (by decide)) (@pe_int _ _ _ _)) (fun _ _ => rfl)) (by rfl) (by first | exact .inl rfl | exact .inr rfl | assumption)) (@pss_one _ _ _ (@ps_expr _ _ _ _ (@pe_bm _ _ _ _ _ _ _ _ _ _ _ _ PySem.F.plainAttrs_list PySem.F.slot_list_append PySem.F.type_list_append mt_append (@pvN _ 2 _ _ (by rfl) (by first | exact Or.inl rfl | exact Or.inr (Or.inl rfl) | exact Or.inr (Or.inr rfl)) (by decide) (by decide)) (@pa_c _ _ _ _ _ (@pe_qTup _ _ _ _ _ (@pa_c _ _ _ _ _ (@pvN _ 8 _ _ (by rfl) (by first | exact Or.inl rfl | exact Or.inr (Or.inl rfl) | exact Or.inr (Or.inr rfl)) (by decide) (by decide)) (@pa_c _ _ _ _ _ (@pvN _ 9 _ _ (by rfl) (by first | exact Or.inl rfl | exact Or.inr (Or.inl rfl) | exact Or.inr (Or.inr rfl)) (by decide) (by decide)) (@pa_nil _) (by rfl)) (by rfl))) (@pa_nil _) (by rfl)) (by rfl) (by rfl) (by rfl) (by rfl) (by rfl)) (by rfl))))))) (by intros; rfl)) (@pss_one _ _ _ (@ps_ret _ _ _ _ (@pvN _ 2 _ _ (by rfl) (by first | exact Or.inl rfl | exact Or.inr (Or.inl rfl) | exact Or.inr (Or.inr rfl)) (by decide) (by decide)))))), ?_⟩
    rw [show start ["_law_script", "_law_terms", "_law_case_here", "_law_k", "_law_times", "_law_low", "_law_high", "_law_cell", "_law_first", "_law_last"] [.ref a, .ref q] = [some (.ref a), some (.ref q), none, none, none, none, none, none, none, none] from rfl]
    clear G__law_draw
    have h17 := ht.len
    have hyl : ys.length = zs.length := al.1
    simp_all (failIfUnchanged := false) only [and_true]
    intro r H1 hr1 e1 h1
    have hq1 := e1.at hq
    simp_all (failIfUnchanged := false) only [and_true]
    refine ⟨by omega, by omega, ?_⟩
    refine for_rng (fun i σ H' => ∃ (cs : List (Int × Int)) (xs : List V) (v3 v4 v5 v6 v7 v8 v9 : Option V), σ = [some (.ref a), some (.ref q), some (.ref r), v3, v4, v5, v6, v7, v8, v9] ∧ Ext H H' ∧ H' r = some (.lst xs) ∧ Al (fun z y => axP z y H') cs xs ∧ cs.length = i ∧ ∀ p ∈ zs.zip cs, p.1.2.1 ≤ p.2.1 ∧ p.2.1 ≤ p.2.2 ∧ p.2.2 ≤ p.1.2.2) ⟨[], [], none, none, none, none, none, none, none, rfl, e1, h1, Al.nil, rfl, fun p hp => by simp at hp⟩ ?_ ?_
    · rintro i _ H2 hi ⟨cs, xs, v3, v4, v5, v6, v7, v8, v9, rfl, e2, h2, bl, hcl, hcs⟩
      have hi' : i < zs.length := by have := hi; omega
      obtain ⟨q1, f1, f2⟩ := tr_get al hi'
      have hzi : zs[i]? = some (zs.getD i default) := by simp [List.getD, List.getElem?_eq_getElem hi']
      obtain ⟨_, ⟨b1, b2⟩, b3, b4⟩ := ht.all _ (List.mem_of_getElem? hzi)
      have hS2 := e2.2 K a _ hS
      have hq2 := e2.at hq
      have f2' := e2.at f2
      have hcm : CMul (3 : Int) (0 + (i : Int)) := .inl ⟨by decide, by decide⟩
      have hxl : xs.length = cs.length := bl.1
      have hxl2 : xs.length < sizeLine := lt5000 (by omega)
      generalize zs.getD i default = z at f2 f2' hzi b1 b2 b3 b4
      obtain ⟨zt, zl, zh⟩ := z
      replace b1 : -8 ≤ zl := b1
      replace b2 : zl ≤ 8 := b2
      replace b3 : zl < zh := b3
      replace b4 : zh ≤ 2000000000 := b4
      replace f2' : H2 q1 = some (.tup [.int zt, .int zl, .int zh]) := f2'
      replace hcs := fun (_ : Unit) => hcs
      clear hi kk f2
      simp_all (failIfUnchanged := false) only [↓m_kBody]
      rw [c_spDraw]
      refine ⟨hS2, hl, ⟨by omega, by omega⟩, by decide, fun c c0 c1 => ?_⟩
      have d0 : 0 < zh - zl + 1 := by omega
      have g1 := Int.emod_nonneg (c / 3) (show zh - zl + 1 ≠ 0 by omega)
      have g2 := Int.emod_lt_of_pos (c / 3) d0
      have d1 : 0 < zh - (zl + c / 3 % (zh - zl + 1)) + 1 := by omega
      have g3 := Int.emod_nonneg (c.fdiv 10000000000) (show zh - (zl + c / 3 % (zh - zl + 1)) + 1 ≠ 0 by omega)
      have g4 := Int.emod_lt_of_pos (c.fdiv 10000000000) d1
      have hfd : CDivB c 10000000000 := ⟨by decide, by decide⟩
      simp_all (failIfUnchanged := false) only [and_true]
      generalize c / 3 % (zh - zl + 1) = u at g1 g2 d1 g3 g4 ⊢
      intro q3 H3 hq3 e3 h3
      simp_all (failIfUnchanged := false) only [and_true]
      refine optK_ints (fun j => zl + u ≤ j ∧ j ≤ zh) (Int.emod_nonneg _ (by decide)) (Int.emod_lt_of_pos _ (by decide)) (fun v hv => ?_) fun j hj => ?_
      · simp only [List.mem_cons, List.not_mem_nil, or_false] at hv
        rcases hv with rfl | rfl | rfl <;> exact ⟨_, rfl, by omega, by omega⟩
      obtain ⟨hj1, hj2⟩ := hj
      simp_all (failIfUnchanged := false) only [and_true]
      intro q4 H4 hq4 e4 h4
      have h2' := (e3.trans e4).at h2
      have hr4 : q4 ≠ r := fun z => by rw [z, e3.at h2] at hq4; cases hq4
      simp_all (failIfUnchanged := false) only [and_true]
      refine ⟨lt5000 (by omega), cs ++ [(zl + u, j)], xs ++ [.ref q4], _, _, _, _, _, _, _, rfl, (e2.trans (e3.trans e4)).put hr1, rfl, Al.snoc (bl.imp fun _ _ t => axP.upd (L2.axP.ext t (e3.trans e4)) h2') ⟨q4, rfl, by rw [upd_ne hr4]; exact h4⟩, by simp [hcl], fun p hp => ?_⟩
      rw [zip_snoc hcl hzi] at hp
      rcases List.mem_append.mp hp with hp | hp
      · exact hcs () p hp
      · rw [List.mem_singleton.mp hp]
        exact ⟨by show zl ≤ zl + u; omega, hj1, hj2⟩
    · rintro _ H2 ⟨cs, xs, v3, v4, v5, v6, v7, v8, v9, rfl, e2, h2, bl, hcl, hcs⟩
      have k1 := kk cs r H2 e2 ⟨xs, h2, bl⟩ ⟨by omega, hcs⟩
      clear kk hcs
      simp_all (failIfUnchanged := false) only [and_true]
def spGoals (K : PySem.W.Frag) (a : Addr) (ns : List Int) : Sp := fun vs H Q E => ∃ (p : Addr) (f : Int) (q : Addr) (l : Addr), vs = [.ref p, .int f, .ref q, .ref l] ∧ (p = a ∧ SqL K H a (ns.map V.int) ∧ ns.length ≤ 63 ∧ 1 ≤ f ∧ f ≤ 12 ∧ ∃ (zs : List Tm3) (cs : List (Int × Int)), TrAt H q zs ∧ PrAt H l cs ∧ TmsOk zs ∧ CsOk zs cs ∧ ∀ (gs : List Int) (r : Addr) (H' : Hp), Ext H H' → H' r = some (.lst (gs.map V.int)) → gs.length = 9 → Q (.ref r) H')
theorem c_spGoals (K : PySem.W.Frag) (a : Addr) (ns : List Int) (p : Addr) (f : Int) (q : Addr) (l : Addr) (H : Hp) (Q : VK) (E : XK) : spGoals K a ns [.ref p, .int f, .ref q, .ref l] H Q E = (p = a ∧ SqL K H a (ns.map V.int) ∧ ns.length ≤ 63 ∧ 1 ≤ f ∧ f ≤ 12 ∧ ∃ (zs : List Tm3) (cs : List (Int × Int)), TrAt H q zs ∧ PrAt H l cs ∧ TmsOk zs ∧ CsOk zs cs ∧ ∀ (gs : List Int) (r : Addr) (H' : Hp), Ext H H' → H' r = some (.lst (gs.map V.int)) → gs.length = 9 → Q (.ref r) H') := spx4 (f := fun (p : Addr) (f : Int) (q : Addr) (l : Addr) => [.ref p, .int f, .ref q, .ref l]) (fun _ _ _ _ _ _ _ _ h => by cases h; exact ⟨rfl, rfl, rfl, rfl⟩) p f q l
theorem l_spGoals (K : PySem.W.Frag) (a : Addr) (ns : List Int) {vs : List V} {H : Hp} {Q : VK} {E : XK} (h : spGoals K a ns vs H Q E) : vs.length = 4 := spl4 h fun _ _ _ _ => rfl
theorem ok__law_goals (T : Tx K mg t) (a : Addr) (ns : List Int) : FnOk P w K mg base CX0 2 t.a__law_goals t.d__law_goals ["_law_script", "_law_factor", "_law_terms", "_law_case_here"] (spGoals K a ns) := by
  have G__law_draw := ok__law_draw (P := P) (w := w) (base := base) T a ns
  have G__law_sums := ok__law_sums (P := P) (w := w) (base := base) T
  refine T.F__law_goals.ok c__law_goals (fun vs H Q E h => l_spGoals _ _ _ h) (fun cdv A outer s H vs Q E hr h => ?_)
  · obtain ⟨_, f, q, l, rfl, rfl, hS, hl, hf1, hf2, zs, cs, hq, hlc, ht, hc, kk⟩ := h
    rename_i a
    refine ⟨_, (@pss_cons _ _ _ _ _ (@ps_asg _ _ _ _ _ _ (@pe_call _ _ _ _ _ _ _ _ _ _ _ _ _ _ _ _ G__law_sums (hr.mono (by decide)) (by rfl) T.m__law_sums T.F__law_sums.kp T.b__law_sums .nil pass0 (@pa_c _ _ _ _ _ (@pvN _ 2 _ _ (by rfl) (by first | exact Or.inl rfl | exact Or.inr (Or.inl rfl) | exact Or.inr (Or.inr rfl)) (by decide) (by decide)) (@pa_c _ _ _ _ _ (@pvN _ 3 _ _ (by rfl) (by first | exact Or.inl rfl | exact Or.inr (Or.inl rfl) | exact Or.inr (Or.inr rfl)) (by decide) (by decide)) (@pa_nil _) (by rfl)) (by rfl)) (by decide) (by rfl) (by rfl)) ((@pg_tup _ _ _ _ _ (2) rfl (@pgs_consN _ _ _ _ _ (@pg_name _ _ (4) _ c__law_goals.nd rfl (Or.inl rfl) (by first | exact .inl rfl | exact .inr rfl | assumption)) (@pgs_consN _ _ _ _ _ (@pg_name _ _ (5) _ c__law_goals.nd rfl (Or.inl rfl) (by first | exact .inl rfl | exact .inr rfl | assumption)) (@pgs_nilN _) (by rfl)) (by rfl)) (by rfl) (by rfl)).mono fun _ _ _ _ h => gTup_q h) (by rfl) (by rfl) (by rfl)) (@pss_cons _ _ _ _ _ (@ps_set _ _ (6) _ _ _ _ c__law_goals.nd rfl (Or.inl rfl) (@pe_call _ _ _ _ _ _ _ _ _ _ _ _ _ _ _ _ G__law_draw (hr.mono (by decide)) (by rfl) T.m__law_draw T.F__law_draw.kp T.b__law_draw .nil pass0 (@pa_c _ _ _ _ _ (@pvN _ 0 _ _ (by rfl) (by first | exact Or.inl rfl | exact Or.inr (Or.inl rfl) | exact Or.inr (Or.inr rfl)) (by decide) (by decide)) (@pa_c _ _ _ _ _ (@pe_int _ _ _ _) (@pa_c _ _ _ _ _ (@pe_op _ _ _ _ _ _ _ _ on_pow (@pe_int _ _ _ _) (@pe_int _ _ _ _)) (@pa_nil _) (by rfl)) (by rfl)) (by rfl)) (by decide) (by rfl) (by rfl)) (by rfl) (by first | exact .inl rfl | exact .inr rfl | assumption)) (@pss_cons _ _ _ _ _ (@ps_set _ _ (7) _ _ _ _ c__law_goals.nd rfl (Or.inl rfl) (@pe_op _ _ _ _ _ _ _ _ on_add (@pvN _ 4 _ _ (by rfl) (by first | exact Or.inl rfl | exact Or.inr (Or.inl rfl) | exact Or.inr (Or.inr rfl)) (by decide) (by decide)) (@pe_op _ _ _ _ _ _ _ _ on_mod (@pvN _ 6 _ _ (by rfl) (by first | exact Or.inl rfl | exact Or.inr (Or.inl rfl) | exact Or.inr (Or.inr rfl)) (by decide) (by decide)) (@pe_op _ _ _ _ _ _ _ _ on_add (@pe_op _ _ _ _ _ _ _ _ on_sub (@pvN _ 5 _ _ (by rfl) (by first | exact Or.inl rfl | exact Or.inr (Or.inl rfl) | exact Or.inr (Or.inr rfl)) (by decide) (by decide)) (@pvN _ 4 _ _ (by rfl) (by first | exact Or.inl rfl | exact Or.inr (Or.inl rfl) | exact Or.inr (Or.inr rfl)) (by decide) (by decide))) (@pe_int _ _ _ _)))) (by rfl) (by first | exact .inl rfl | exact .inr rfl | assumption)) (@pss_cons _ _ _ _ _ (@ps_set _ _ (8) _ _ _ _ c__law_goals.nd rfl (Or.inl rfl) (@pe_qLst _ _ _ _ (@pa_c _ _ _ _ _ (@pvN _ 4 _ _ (by rfl) (by first | exact Or.inl rfl | exact Or.inr (Or.inl rfl) | exact Or.inr (Or.inr rfl)) (by decide) (by decide)) (@pa_c _ _ _ _ _ (@pvN _ 5 _ _ (by rfl) (by first | exact Or.inl rfl | exact Or.inr (Or.inl rfl) | exact Or.inr (Or.inr rfl)) (by decide) (by decide)) (@pa_c _ _ _ _ _ (@pe_op _ _ _ _ _ _ _ _ on_sub (@pe_op _ _ _ _ _ _ _ _ on_sub (@pvN _ 4 _ _ (by rfl) (by first | exact Or.inl rfl | exact Or.inr (Or.inl rfl) | exact Or.inr (Or.inr rfl)) (by decide) (by decide)) (@pe_int _ _ _ _)) (@pe_op _ _ _ _ _ _ _ _ on_mod (@pvN _ 6 _ _ (by rfl) (by first | exact Or.inl rfl | exact Or.inr (Or.inl rfl) | exact Or.inr (Or.inr rfl)) (by decide) (by decide)) (@pe_int _ _ _ _))) (@pa_c _ _ _ _ _ (@pe_op _ _ _ _ _ _ _ _ on_add (@pe_op _ _ _ _ _ _ _ _ on_add (@pvN _ 5 _ _ (by rfl) (by first | exact Or.inl rfl | exact Or.inr (Or.inl rfl) | exact Or.inr (Or.inr rfl)) (by decide) (by decide)) (@pe_int _ _ _ _)) (@pe_op _ _ _ _ _ _ _ _ on_mod (@pvN _ 6 _ _ (by rfl) (by first | exact Or.inl rfl | exact Or.inr (Or.inl rfl) | exact Or.inr (Or.inr rfl)) (by decide) (by decide)) (@pe_int _ _ _ _))) (@pa_c _ _ _ _ _ (@pvN _ 7 _ _ (by rfl) (by first | exact Or.inl rfl | exact Or.inr (Or.inl rfl) | exact Or.inr (Or.inr rfl)) (by decide) (by decide)) (@pa_c _ _ _ _ _ (@pe_op _ _ _ _ _ _ _ _ on_sub (@pe_op _ _ _ _ _ _ _ _ on_mod (@pvN _ 6 _ _ (by rfl) (by first | exact Or.inl rfl | exact Or.inr (Or.inl rfl) | exact Or.inr (Or.inr rfl)) (by decide) (by decide)) (@pe_int _ _ _ _)) (@pe_int _ _ _ _)) (@pa_nil _) (by rfl)) (by rfl)) (by rfl)) (by rfl)) (by rfl)) (by rfl))) (by rfl) (by first | exact .inl rfl | exact .inr rfl | assumption)) (@pss_one _ _ _ (@ps_ret _ _ _ _ (@pe_op _ _ _ _ _ _ _ _ op_nCat (@pvN _ 8 _ _ (by rfl) (by first | exact Or.inl rfl | exact Or.inr (Or.inl rfl) | exact Or.inr (Or.inr rfl)) (by decide) (by decide)) (@pe_qLst _ _ _ _ (@pa_c _ _ _ _ _ (@pe_op _ _ _ _ _ _ _ _ on_add (@pvN _ 4 _ _ (by rfl) (by first | exact Or.inl rfl | exact Or.inr (Or.inl rfl) | exact Or.inr (Or.inr rfl)) (by decide) (by decide)) (@pe_int _ _ _ _)) (@pa_c _ _ _ _ _ (@pe_op _ _ _ _ _ _ _ _ on_sub (@pvN _ 5 _ _ (by rfl) (by first | exact Or.inl rfl | exact Or.inr (Or.inl rfl) | exact Or.inr (Or.inr rfl)) (by decide) (by decide)) (@pe_int _ _ _ _)) (@pa_c _ _ _ _ _ (@pe_op _ _ _ _ _ _ _ _ on_add (@pvN _ 4 _ _ (by rfl) (by first | exact Or.inl rfl | exact Or.inr (Or.inl rfl) | exact Or.inr (Or.inr rfl)) (by decide) (by decide)) (@pe_op _ _ _ _ _ _ _ _ on_mul (@pe_op _ _ _ _ _ _ _ _ on_fdivB (@pe_op _ _ _ _ _ _ _ _ on_sub (@pvN _ 7 _ _ (by rfl) (by first | exact Or.inl rfl | exact Or.inr (Or.inl rfl) | exact Or.inr (Or.inr rfl)) (by decide) (by decide)) (@pvN _ 4 _ _ (by rfl) (by first | exact Or.inl rfl | exact Or.inr (Or.inl rfl) | exact Or.inr (Or.inr rfl)) (by decide) (by decide))) (@pvN _ 1 _ _ (by rfl) (by first | exact Or.inl rfl | exact Or.inr (Or.inl rfl) | exact Or.inr (Or.inr rfl)) (by decide) (by decide))) (@pvN _ 1 _ _ (by rfl) (by first | exact Or.inl rfl | exact Or.inr (Or.inl rfl) | exact Or.inr (Or.inr rfl)) (by decide) (by decide)))) (@pa_nil _) (by rfl)) (by rfl)) (by rfl)))))))))), ?_⟩
    rw [show start ["_law_script", "_law_factor", "_law_terms", "_law_case_here", "_law_least", "_law_greatest", "_law_cell", "_law_amid", "_law_some"] [.ref a, .int f, .ref q, .ref l] = [some (.ref a), some (.int f), some (.ref q), some (.ref l), none, none, none, none, none] from rfl]
    clear G__law_draw G__law_sums
    have hle := lsum_le ht hc
    simp_all (failIfUnchanged := false) only [and_true]
    rw [c_spSums]
    refine ⟨zs, cs, hq, hlc, ht, hc, fun r1 H1 e1 h1 => ?_⟩
    have hS1 := e1.2 K a _ hS
    generalize lsum zs cs = L at h1 hle
    generalize gsum zs cs = G at h1 hle
    have hd0 : 0 < G - L + 1 := by omega
    have hf0 : 0 < f := by omega
    have hfd : CDivB (L + 0 - L) f := ⟨by omega, by omega⟩
    simp_all (failIfUnchanged := false) only [and_true]
    rw [c_spDraw]
    refine ⟨hS1, hl, ⟨by decide, by decide⟩, by decide, fun c c0 c1 => ?_⟩
    have hfd : ∀ x : Int, CDivB x f := fun x => ⟨by omega, by omega⟩
    have hcm : ∀ x : Int, CMul x f := fun x => .inr ⟨by omega, by omega⟩
    simp_all (failIfUnchanged := false) only [and_true]
    intro q2 H2 hq2 e2 h2
    simp_all (failIfUnchanged := false) only [and_true]
    intro q3 H3 hq3 e3 h3
    have h2' := e3.at h2
    simp_all (failIfUnchanged := false) only [and_true]
    intro q4 H4 hq4 e4 h4
    exact kk [_, _, _, _, _, _, _, _, _] q4 H4 (e1.trans (e2.trans (e3.trans e4))) h4 rfl
def spAsked  : Sp := fun vs H Q E => ∃ (p : Addr) (g : Int) (q : Addr), vs = [.ref p, .int g, .ref q] ∧ (∃ (zs : List Tm3) (cs : List (Int × Int)), TrAt H p zs ∧ PrAt H q cs ∧ TmsOk zs ∧ CsOk zs cs ∧ ∀ H', Ext H H' → Q (.bl true) H')
theorem c_spAsked  (p : Addr) (g : Int) (q : Addr) (H : Hp) (Q : VK) (E : XK) : spAsked  [.ref p, .int g, .ref q] H Q E = (∃ (zs : List Tm3) (cs : List (Int × Int)), TrAt H p zs ∧ PrAt H q cs ∧ TmsOk zs ∧ CsOk zs cs ∧ ∀ H', Ext H H' → Q (.bl true) H') := spx3 (f := fun (p : Addr) (g : Int) (q : Addr) => [.ref p, .int g, .ref q]) (fun _ _ _ _ _ _ h => by cases h; exact ⟨rfl, rfl, rfl⟩) p g q
theorem l_spAsked  {vs : List V} {H : Hp} {Q : VK} {E : XK} (h : spAsked  vs H Q E) : vs.length = 3 := spl3 h fun _ _ _ => rfl
theorem ok__law_asked (T : Tx K mg t) : FnOk P w K mg base CX0 6 t.a__law_asked t.d__law_asked ["_law_terms", "_law_goal", "_law_case_here"] spAsked := by
  have G__law_sums := ok__law_sums (P := P) (w := w) (base := base) T
  have G__law_right := ok__law_right (P := P) (w := w) (base := base) T
  have G_least_sum := ok_least_sum (P := P) (w := w) (base := base) T
  have G_greatest_sum := ok_greatest_sum (P := P) (w := w) (base := base) T
  have G__law_divisor := ok__law_divisor (P := P) (w := w) (base := base) T
  have G_rest_of := ok_rest_of (P := P) (w := w) (base := base) T
  have G_is_ended := ok_is_ended (P := P) (w := w) (base := base) T
  have G__law_ended := ok__law_ended (P := P) (w := w) (base := base) T
  refine T.F__law_asked.ok c__law_asked (fun vs H Q E h => l_spAsked h) (fun cdv A outer s H vs Q E hr h => ?_)
  · obtain ⟨p, g, q, rfl, zs, cs, ⟨ys, hp, al⟩, ⟨xs, hq, bl⟩, ht, hc, k⟩ := h
    refine ⟨_, (@pss_cons _ _ _ _ _ (@ps_set _ _ (3) _ _ _ _ c__law_asked.nd rfl (Or.inl rfl) (@pe_qLst _ _ _ _ (@pa_c _ _ _ _ _ (@pe_callTy _ _ _ _ _ _ _ _ _ call_nList (by rfl) T.z_list (by decide +kernel) (@pa_c _ _ _ _ _ (@pvN _ 0 _ _ (by rfl) (by first | exact Or.inl rfl | exact Or.inr (Or.inl rfl) | exact Or.inr (Or.inr rfl)) (by decide) (by decide)) (@pa_nil _) (by rfl)) (by decide) (by decide) (by rfl) (by rfl)) (@pa_c _ _ _ _ _ (@pe_callTy _ _ _ _ _ _ _ _ _ call_nList (by rfl) T.z_list (by decide +kernel) (@pa_c _ _ _ _ _ (@pvN _ 2 _ _ (by rfl) (by first | exact Or.inl rfl | exact Or.inr (Or.inl rfl) | exact Or.inr (Or.inr rfl)) (by decide) (by decide)) (@pa_nil _) (by rfl)) (by decide) (by decide) (by rfl) (by rfl)) (@pa_nil _) (by rfl)) (by rfl))) (by rfl) (by first | exact .inl rfl | exact .inr rfl | assumption)) (@pss_cons _ _ _ _ _ (@ps_asg _ _ _ _ _ _ (@pe_call _ _ _ _ _ _ _ _ _ _ _ _ _ _ _ _ G__law_sums (hr.mono (by decide)) (by rfl) T.m__law_sums T.F__law_sums.kp T.b__law_sums .nil pass0 (@pa_c _ _ _ _ _ (@pvN _ 0 _ _ (by rfl) (by first | exact Or.inl rfl | exact Or.inr (Or.inl rfl) | exact Or.inr (Or.inr rfl)) (by decide) (by decide)) (@pa_c _ _ _ _ _ (@pvN _ 2 _ _ (by rfl) (by first | exact Or.inl rfl | exact Or.inr (Or.inl rfl) | exact Or.inr (Or.inr rfl)) (by decide) (by decide)) (@pa_nil _) (by rfl)) (by rfl)) (by decide) (by rfl) (by rfl)) ((@pg_tup _ _ _ _ _ (2) rfl (@pgs_consN _ _ _ _ _ (@pg_name _ _ (4) _ c__law_asked.nd rfl (Or.inl rfl) (by first | exact .inl rfl | exact .inr rfl | assumption)) (@pgs_consN _ _ _ _ _ (@pg_name _ _ (5) _ c__law_asked.nd rfl (Or.inl rfl) (by first | exact .inl rfl | exact .inr rfl | assumption)) (@pgs_nilN _) (by rfl)) (by rfl)) (by rfl) (by rfl)).mono fun _ _ _ _ h => gTup_q h) (by rfl) (by rfl) (by rfl)) (@pss_cons _ _ _ _ _ (@ps_if _ _ _ _ _ _ _ _ (@pt_not _ _ _ _ (@pt_valN _ _ _ (@pe_call _ _ _ _ _ _ _ _ _ _ _ _ _ _ _ _ G__law_right (hr.mono (by decide)) (by rfl) T.m__law_right T.F__law_right.kp T.b__law_right .nil pass0 (@pa_c _ _ _ _ _ (@pe_call _ _ _ _ _ _ _ _ _ _ _ _ _ _ _ _ G_least_sum (hr.mono (by decide)) (by rfl) T.m_least_sum T.F_least_sum.kp T.b_least_sum .nil pass0 (@pa_c _ _ _ _ _ (@pe_ix _ _ _ _ _ _ _ ix_q (@pvN _ 3 _ _ (by rfl) (by first | exact Or.inl rfl | exact Or.inr (Or.inl rfl) | exact Or.inr (Or.inr rfl)) (by decide) (by decide)) (@pe_int _ _ _ _) (fun _ _ => rfl)) (@pa_c _ _ _ _ _ (@pe_ix _ _ _ _ _ _ _ ix_q (@pvN _ 3 _ _ (by rfl) (by first | exact Or.inl rfl | exact Or.inr (Or.inl rfl) | exact Or.inr (Or.inr rfl)) (by decide) (by decide)) (@pe_int _ _ _ _) (fun _ _ => rfl)) (@pa_nil _) (by rfl)) (by rfl)) (by decide) (by rfl) (by rfl)) (@pa_c _ _ _ _ _ (@pvN _ 4 _ _ (by rfl) (by first | exact Or.inl rfl | exact Or.inr (Or.inl rfl) | exact Or.inr (Or.inr rfl)) (by decide) (by decide)) (@pa_nil _) (by rfl)) (by rfl)) (by decide) (by rfl) (by rfl)) (by intros; rfl))) (@pss_one _ _ _ (@ps_ret _ _ _ _ (@pe_bl _ _ _ _))) (@pss_nil _)) (@pss_cons _ _ _ _ _ (@ps_if _ _ _ _ _ _ _ _ (@pt_not _ _ _ _ (@pt_valN _ _ _ (@pe_call _ _ _ _ _ _ _ _ _ _ _ _ _ _ _ _ G__law_right (hr.mono (by decide)) (by rfl) T.m__law_right T.F__law_right.kp T.b__law_right .nil pass0 (@pa_c _ _ _ _ _ (@pe_call _ _ _ _ _ _ _ _ _ _ _ _ _ _ _ _ G_greatest_sum (hr.mono (by decide)) (by rfl) T.m_greatest_sum T.F_greatest_sum.kp T.b_greatest_sum .nil pass0 (@pa_c _ _ _ _ _ (@pe_ix _ _ _ _ _ _ _ ix_q (@pvN _ 3 _ _ (by rfl) (by first | exact Or.inl rfl | exact Or.inr (Or.inl rfl) | exact Or.inr (Or.inr rfl)) (by decide) (by decide)) (@pe_int _ _ _ _) (fun _ _ => rfl)) (@pa_c _ _ _ _ _ (@pe_ix _ _ _ _ _ _ _ ix_q (@pvN _ 3 _ _ (by rfl) (by first | exact Or.inl rfl | exact Or.inr (Or.inl rfl) | exact Or.inr (Or.inr rfl)) (by decide) (by decide)) (@pe_int _ _ _ _) (fun _ _ => rfl)) (@pa_nil _) (by rfl)) (by rfl)) (by decide) (by rfl) (by rfl)) (@pa_c _ _ _ _ _ (@pvN _ 5 _ _ (by rfl) (by first | exact Or.inl rfl | exact Or.inr (Or.inl rfl) | exact Or.inr (Or.inr rfl)) (by decide) (by decide)) (@pa_nil _) (by rfl)) (by rfl)) (by decide) (by rfl) (by rfl)) (by intros; rfl))) (@pss_one _ _ _ (@ps_ret _ _ _ _ (@pe_bl _ _ _ _))) (@pss_nil _)) (@pss_cons _ _ _ _ _ (@ps_set _ _ (6) _ _ _ _ c__law_asked.nd rfl (Or.inl rfl) (@pe_call _ _ _ _ _ _ _ _ _ _ _ _ _ _ _ _ G__law_divisor (hr.mono (by decide)) (by rfl) T.m__law_divisor T.F__law_divisor.kp T.b__law_divisor .nil pass0 (@pa_c _ _ _ _ _ (@pe_comp _ _ _ _ _ _ _ _ _ _ _ (["_law_k", "_law_terms", "_law_goal", "_law_case_here", "_law_handed", "_law_least", "_law_greatest", "_law_rest", "_law_found"]) (1) (comp_ok (defScope s__law_asked) ["_law_terms", "_law_goal", "_law_case_here", "_law_handed", "_law_least", "_law_greatest", "_law_rest", "_law_found"] rfl rfl (by decide +kernel)) rfl (@pi_range1 _ _ _ _ _ _ (by rfl) T.z_range (@pa_c _ _ _ _ _ (@pe_callB _ _ _ _ _ _ _ ("len") _ call_qLen (by rfl) T.z_len (by decide +kernel) (@pa_c _ _ _ _ _ (@pvN _ 0 _ _ (by rfl) (by first | exact Or.inl rfl | exact Or.inr (Or.inl rfl) | exact Or.inr (Or.inr rfl)) (by decide) (by decide)) (@pa_nil _) (by rfl)) (by decide) (by decide) (by rfl) (by rfl)) (@pa_nil _) (by rfl)) (by rfl)) (fun C s₀ H₀ ex pn => (@pg_name _ _ (0) _ (show List.Nodup (["_law_k", "_law_terms", "_law_goal", "_law_case_here", "_law_handed", "_law_least", "_law_greatest", "_law_rest", "_law_found"] : List Str) from by decide +kernel) rfl (Or.inl rfl) (by first | exact .inl rfl | exact .inr rfl | assumption))) (fun C s₀ H₀ ex pn => (@pts_one _ _ _ (@pt_cmpRN _ _ _ _ _ _ _ _ on_lt (@pe_ix _ _ _ _ _ _ _ ix_q (@pe_ix _ _ _ _ _ _ _ ix_q (@pvN _ 3 _ _ (by rfl) (by first | exact Or.inl rfl | exact Or.inr (Or.inl rfl) | exact Or.inr (Or.inr rfl)) (by decide) (by decide)) (@pvN _ 0 _ _ (by rfl) (by first | exact Or.inl rfl | exact Or.inr (Or.inl rfl) | exact Or.inr (Or.inr rfl)) (by decide) (by decide)) (fun _ _ => rfl)) (@pe_int _ _ _ _) (fun _ _ => rfl)) (@pe_ix _ _ _ _ _ _ _ ix_q (@pe_ix _ _ _ _ _ _ _ ix_q (@pvN _ 3 _ _ (by rfl) (by first | exact Or.inl rfl | exact Or.inr (Or.inl rfl) | exact Or.inr (Or.inr rfl)) (by decide) (by decide)) (@pvN _ 0 _ _ (by rfl) (by first | exact Or.inl rfl | exact Or.inr (Or.inl rfl) | exact Or.inr (Or.inr rfl)) (by decide) (by decide)) (fun _ _ => rfl)) (@pe_int _ _ _ _) (fun _ _ => rfl)) (nomark _)))) (fun C s₀ H₀ ex pn => (@pe_ix _ _ _ _ _ _ _ ix_q (@pe_ix _ _ _ _ _ _ _ ix_q (@pvN _ 1 _ _ (by rfl) (by first | exact Or.inl rfl | exact Or.inr (Or.inl rfl) | exact Or.inr (Or.inr rfl)) (by decide) (by decide)) (@pvN _ 0 _ _ (by rfl) (by first | exact Or.inl rfl | exact Or.inr (Or.inl rfl) | exact Or.inr (Or.inr rfl)) (by decide) (by decide)) (fun _ _ => rfl)) (@pe_int _ _ _ _) (fun _ _ => rfl))) (by intros; rfl)) (@pa_nil _) (by rfl)) (by decide) (by rfl) (by rfl)) (by rfl) (by first | exact .inl rfl | exact .inr rfl | assumption)) (@pss_cons _ _ _ _ _ (@ps_if _ _ _ _ _ _ _ _ (@pt_not _ _ _ _ (@pt_valN _ _ _ (@pe_call _ _ _ _ _ _ _ _ _ _ _ _ _ _ _ _ G__law_right (hr.mono (by decide)) (by rfl) T.m__law_right T.F__law_right.kp T.b__law_right .nil pass0 (@pa_c _ _ _ _ _ (@pe_call _ _ _ _ _ _ _ _ _ _ _ _ _ _ _ _ G_rest_of (hr.mono (by decide)) (by rfl) T.m_rest_of T.F_rest_of.kp T.b_rest_of .nil pass0 (@pa_c _ _ _ _ _ (@pe_ix _ _ _ _ _ _ _ ix_q (@pvN _ 3 _ _ (by rfl) (by first | exact Or.inl rfl | exact Or.inr (Or.inl rfl) | exact Or.inr (Or.inr rfl)) (by decide) (by decide)) (@pe_int _ _ _ _) (fun _ _ => rfl)) (@pa_c _ _ _ _ _ (@pe_ix _ _ _ _ _ _ _ ix_q (@pvN _ 3 _ _ (by rfl) (by first | exact Or.inl rfl | exact Or.inr (Or.inl rfl) | exact Or.inr (Or.inr rfl)) (by decide) (by decide)) (@pe_int _ _ _ _) (fun _ _ => rfl)) (@pa_nil _) (by rfl)) (by rfl)) (by decide) (by rfl) (by rfl)) (@pa_c _ _ _ _ _ (@pvN _ 6 _ _ (by rfl) (by first | exact Or.inl rfl | exact Or.inr (Or.inl rfl) | exact Or.inr (Or.inr rfl)) (by decide) (by decide)) (@pa_nil _) (by rfl)) (by rfl)) (by decide) (by rfl) (by rfl)) (by intros; rfl))) (@pss_one _ _ _ (@ps_ret _ _ _ _ (@pe_bl _ _ _ _))) (@pss_nil _)) (@pss_cons _ _ _ _ _ (@ps_set _ _ (7) _ _ _ _ c__law_asked.nd rfl (Or.inl rfl) (@pe_call _ _ _ _ _ _ _ _ _ _ _ _ _ _ _ _ G_is_ended (hr.mono (by decide)) (by rfl) T.m_is_ended T.F_is_ended.kp T.b_is_ended .nil pass0 (@pa_c _ _ _ _ _ (@pe_ix _ _ _ _ _ _ _ ix_q (@pvN _ 3 _ _ (by rfl) (by first | exact Or.inl rfl | exact Or.inr (Or.inl rfl) | exact Or.inr (Or.inr rfl)) (by decide) (by decide)) (@pe_int _ _ _ _) (fun _ _ => rfl)) (@pa_c _ _ _ _ _ (@pvN _ 1 _ _ (by rfl) (by first | exact Or.inl rfl | exact Or.inr (Or.inl rfl) | exact Or.inr (Or.inr rfl)) (by decide) (by decide)) (@pa_c _ _ _ _ _ (@pe_ix _ _ _ _ _ _ _ ix_q (@pvN _ 3 _ _ (by rfl) (by first | exact Or.inl rfl | exact Or.inr (Or.inl rfl) | exact Or.inr (Or.inr rfl)) (by decide) (by decide)) (@pe_int _ _ _ _) (fun _ _ => rfl)) (@pa_nil _) (by rfl)) (by rfl)) (by rfl)) (by decide) (by rfl) (by rfl)) (by rfl) (by first | exact .inl rfl | exact .inr rfl | assumption)) (@pss_cons _ _ _ _ _ (@ps_if _ _ _ _ _ _ _ _ (PW.pt (@pw_or _ _ _ _ _ _ _ (@pt_not _ _ _ _ (@pt_valN _ _ _ (@pe_callB _ _ _ _ _ _ _ ("isinstance") _ call_qIsi (by rfl) T.z_isinstance (by decide +kernel) (@pa_c _ _ _ _ _ (@pvN _ 7 _ _ (by rfl) (by first | exact Or.inl rfl | exact Or.inr (Or.inl rfl) | exact Or.inr (Or.inr rfl)) (by decide) (by decide)) (@pa_c _ _ _ _ _ (@pe_bltn _ _ (.ty "bool") (.type "bool") _ (by rfl) T.z_bool (by decide +kernel) rfl (by decide) (by decide)) (@pa_nil _) (by rfl)) (by rfl)) (by decide) (by decide) (by rfl) (by rfl)) (by intros; rfl))) (@pw_or1 _ _ _ _ (@pt_cmpRN _ _ _ _ _ _ _ _ (op_qNe hr.units) (@pvN _ 7 _ _ (by rfl) (by first | exact Or.inl rfl | exact Or.inr (Or.inl rfl) | exact Or.inr (Or.inr rfl)) (by decide) (by decide)) (@pe_call _ _ _ _ _ _ _ _ _ _ _ _ _ _ _ _ G__law_ended (hr.mono (by decide)) (by rfl) T.m__law_ended T.F__law_ended.kp T.b__law_ended .nil pass0 (@pa_c _ _ _ _ _ (@pvN _ 0 _ _ (by rfl) (by first | exact Or.inl rfl | exact Or.inr (Or.inl rfl) | exact Or.inr (Or.inr rfl)) (by decide) (by decide)) (@pa_c _ _ _ _ _ (@pvN _ 1 _ _ (by rfl) (by first | exact Or.inl rfl | exact Or.inr (Or.inl rfl) | exact Or.inr (Or.inr rfl)) (by decide) (by decide)) (@pa_c _ _ _ _ _ (@pvN _ 2 _ _ (by rfl) (by first | exact Or.inl rfl | exact Or.inr (Or.inl rfl) | exact Or.inr (Or.inr rfl)) (by decide) (by decide)) (@pa_nil _) (by rfl)) (by rfl)) (by rfl)) (by decide) (by rfl) (by rfl)) (nomark _))))) (@pss_one _ _ _ (@ps_ret _ _ _ _ (@pe_bl _ _ _ _))) (@pss_nil _)) (@pss_one _ _ _ (@ps_ret _ _ _ _ (@pe_cmpR _ _ _ _ _ _ _ _ (op_qEq hr.units) (@pvN _ 3 _ _ (by rfl) (by first | exact Or.inl rfl | exact Or.inr (Or.inl rfl) | exact Or.inr (Or.inr rfl)) (by decide) (by decide)) (@pe_qLst _ _ _ _ (@pa_c _ _ _ _ _ (@pvN _ 0 _ _ (by rfl) (by first | exact Or.inl rfl | exact Or.inr (Or.inl rfl) | exact Or.inr (Or.inr rfl)) (by decide) (by decide)) (@pa_c _ _ _ _ _ (@pvN _ 2 _ _ (by rfl) (by first | exact Or.inl rfl | exact Or.inr (Or.inl rfl) | exact Or.inr (Or.inr rfl)) (by decide) (by decide)) (@pa_nil _) (by rfl)) (by rfl))) (nomark _)))))))))))), ?_⟩
    rw [show start ["_law_terms", "_law_goal", "_law_case_here", "_law_handed", "_law_least", "_law_greatest", "_law_rest", "_law_found"] [.ref p, .int g, .ref q] = [some (.ref p), some (.int g), some (.ref q), none, none, none, none, none] from rfl]
    clear G__law_sums G__law_right G_least_sum G_greatest_sum G__law_divisor G_rest_of G_is_ended G__law_ended
    have h17 := ht.len
    have hyl : ys.length = zs.length := al.1
    have hxl : xs.length = cs.length := bl.1
    have hcl := hc.len
    simp_all (failIfUnchanged := false) only [and_true]
    intro p1 H1 hp1 e1 h1
    have hq1 := e1.at hq
    simp_all (failIfUnchanged := false) only [and_true]
    intro q2 H2 hq2 e2 h2
    have h1_2 := e2.at h1
    simp_all (failIfUnchanged := false) only [and_true]
    intro l3 H3 hl3 e3 h3
    have e03 := e1.trans (e2.trans e3)
    have al3 := al.imp fun _ _ r => r.ext e03
    have bl3 := bl.imp fun _ _ r => r.ext e03
    have hp3 := e03.at hp
    have hq3 := e03.at hq
    have hP3 : TrAt H3 p zs := ⟨ys, hp3, al3⟩
    have hQ3 : PrAt H3 q cs := ⟨xs, hq3, bl3⟩
    have hp3' := e3.at h1_2
    have hq3' := e3.at h2
    have hP3' : TrAt H3 p1 zs := ⟨ys, hp3', al3⟩
    have hQ3' : PrAt H3 q2 cs := ⟨xs, hq3', bl3⟩
    clear h1 h2 h1_2 hq1 hp hq al bl
    simp_all (failIfUnchanged := false) only [and_true]
    rw [c_spSums]
    refine ⟨zs, cs, hP3, hQ3, ht, hc, fun r4 H4 e4 h4 => ?_⟩
    have h3_4 := e4.at h3
    simp_all (failIfUnchanged := false) only [and_true]
    rw [c_spLsum]
    refine ⟨zs, cs, tr_ext hP3' e4, pr_ext hQ3' e4, ht, hc, fun H5 e5 => ?_⟩
    have h3_5 := e5.at h3_4
    simp_all (failIfUnchanged := false) only [and_true]
    rw [c_spRight]
    refine ⟨rfl, ?_⟩
    simp_all (failIfUnchanged := false) only [and_true]
    rw [c_spGsum]
    refine ⟨zs, cs, tr_ext hP3' (e4.trans e5), pr_ext hQ3' (e4.trans e5), ht, hc, fun H6 e6 => ?_⟩
    simp_all (failIfUnchanged := false) only [and_true]
    rw [c_spRight]
    refine ⟨rfl, ?_⟩
    have e36 := e4.trans (e5.trans e6)
    have al6 := al3.imp fun _ _ r => r.ext e36
    have bl6 := bl3.imp fun _ _ r => r.ext e36
    have hp6 := e36.at hp3
    have hq6 := e36.at hq3
    have h3_6 := e36.at h3
    have h3' := h3
    clear h3_4 h3_5 h4 h3
    simp_all (failIfUnchanged := false) only [and_true]
    refine ⟨by omega, by omega, ?_⟩
    refine comp_fm (List.range zs.length) (fun k => decide ((cs.getD k default).1 < (cs.getD k default).2)) (fun k => .int (zs.getD k default).1) (fun j x H' => x = .int (0 + (j : Nat))) wk_rng.1 wk_rng.2 (len5000 (by rw [List.length_range]; omega)) ?_ ?_
    · intro D j x H' N1 N0 hj hD e hx k1 k0
      subst hx
      have hj' := List.mem_range.mp hj
      obtain ⟨q1, f1, f2⟩ := tr_get al6 hj'
      obtain ⟨q2, g1, g2⟩ := pr_get bl6 (show j < cs.length by rw [hc.len]; exact hj')
      have hp' := e.at hp6
      have hq' := e.at hq6
      have f2' := e.at f2
      have g2' := e.at g2
      by_cases hlt : (cs.getD j default).1 < (cs.getD j default).2
      · have k1' := k1 (decide_eq_true hlt) H' (Ext.refl _)
        clear k1 k0 k hj f2 g2
        simp_all (failIfUnchanged := false) only [↓m_kCm_1, ↓m_kCm2]
      · have k0' := k0 (decide_eq_false hlt) H' (Ext.refl _)
        clear k1 k0 k hj f2 g2
        simp_all (failIfUnchanged := false) only [↓m_kCm_1, ↓m_kCm2]
    · intro D H7 hD e7 hD7
      rw [rest_list hc.len] at hD7
      have hps := restL_pos (cs := cs) ht
      have e37 := e36.trans e7
      have h3_7 := e7.at h3_6
      simp_all (failIfUnchanged := false) only [and_true]
      rw [c_spLGcd]
      refine ⟨_, hD7, hps, ?_⟩
      clear hps hD7
      simp_all (failIfUnchanged := false) only [and_true]
      rw [c_spRest]
      refine ⟨zs, cs, tr_ext hP3' e37, pr_ext hQ3' e37, ht, hc, fun H8 e8 => ?_⟩
      have h3_8 := e8.at h3_7
      simp_all (failIfUnchanged := false) only [and_true]
      rw [c_spRight]
      refine ⟨rfl, ?_⟩
      simp_all (failIfUnchanged := false) only [and_true]
      rw [c_spIsEnded]
      refine ⟨zs, cs, tr_ext hP3' (e37.trans e8), pr_ext hQ3' (e37.trans e8), ht, hc, fun H9 e9 => ?_⟩
      have e39 := e37.trans (e8.trans e9)
      simp_all (failIfUnchanged := false) only [and_true]
      rw [c_spLEnded]
      refine ⟨zs, cs, tr_ext hP3 e39, pr_ext hQ3 e39, ht, hc, fun H10 e10 => ?_⟩
      generalize ended zs cs g = b
      clear h3_6 h3_7 h3_8 hp6 hq6 al6 bl6
      simp_all (failIfUnchanged := false) only [and_true]
      intro l11 H11 hl11 e11 h11
      have eA := e39.trans (e10.trans e11)
      have a1 := eA.at hp3
      have b1 := eA.at hq3
      have a3 := eA.at hp3'
      have b3 := eA.at hq3'
      have h3_11 := eA.at h3'
      have d1 := tups_all (H := H11) (f := datF H11 (datF H11 noD)) (al_tr (al3.imp fun _ _ r => r.ext eA))
      have d2 := tups_all (H := H11) (f := datF H11 (datF H11 noD)) (al_pr (bl3.imp fun _ _ r => r.ext eA))
      have d5 := tups_eqv (zs.map fun z => [z.1, z.2.1, z.2.2])
      have d6 := tups_eqv (cs.map fun z => [z.1, z.2])
      have k1 := k H11 (e03.trans eA)
      clear k
      simp_all (failIfUnchanged := false) only [and_true]
def spLaw (K : PySem.W.Frag) : Sp := fun vs H Q E => ∃ (a : Addr), vs = [.ref a] ∧ (∃ ns : List Int, SqL K H a (ns.map V.int) ∧ ns.length ≤ 63 ∧ ∀ H', Q (.bl true) H')
theorem c_spLaw (K : PySem.W.Frag) (a : Addr) (H : Hp) (Q : VK) (E : XK) : spLaw K [.ref a] H Q E = (∃ ns : List Int, SqL K H a (ns.map V.int) ∧ ns.length ≤ 63 ∧ ∀ H', Q (.bl true) H') := spx1 (f := fun (a : Addr) => [.ref a]) (fun _ _ h => by cases h; exact rfl) a
theorem l_spLaw (K : PySem.W.Frag) {vs : List V} {H : Hp} {Q : VK} {E : XK} (h : spLaw K vs H Q E) : vs.length = 1 := spl1 h fun _ => rfl
theorem ok_law (T : Tx K mg t) : FnOk P w K mg base CX0 7 t.a_law t.d_law ["_law_script"] (spLaw K) := by
  refine T.F_law.ok c_law (fun vs H Q E h => l_spLaw _ h) (fun cdv A outer s H vs Q E hr h => ?_)
  · obtain ⟨a, rfl, ns, hS, hl, kk⟩ := h
    have G__law_drawn := ok__law_drawn (P := P) (w := w) (base := base) T a ns
    have G__law_case := ok__law_case (P := P) (w := w) (base := base) T a ns
    have G__law_goals := ok__law_goals (P := P) (w := w) (base := base) T a ns
    have G__law_asked := ok__law_asked (P := P) (w := w) (base := base) T
    refine ⟨_, (@pss_cons _ _ _ _ _ (@ps_asg _ _ _ _ _ _ (@pe_call _ _ _ _ _ _ _ _ _ _ _ _ _ _ _ _ G__law_drawn (hr.mono (by decide)) (by rfl) T.m__law_drawn T.F__law_drawn.kp T.b__law_drawn .nil pass0 (@pa_c _ _ _ _ _ (@pvN _ 0 _ _ (by rfl) (by first | exact Or.inl rfl | exact Or.inr (Or.inl rfl) | exact Or.inr (Or.inr rfl)) (by decide) (by decide)) (@pa_nil _) (by rfl)) (by decide) (by rfl) (by rfl)) ((@pg_tup _ _ _ _ _ (2) rfl (@pgs_consN _ _ _ _ _ (@pg_name _ _ (1) _ c_law.nd rfl (Or.inl rfl) (by first | exact .inl rfl | exact .inr rfl | assumption)) (@pgs_consN _ _ _ _ _ (@pg_name _ _ (2) _ c_law.nd rfl (Or.inl rfl) (by first | exact .inl rfl | exact .inr rfl | assumption)) (@pgs_nilN _) (by rfl)) (by rfl)) (by rfl) (by rfl)).mono fun _ _ _ _ h => gTup_q h) (by rfl) (by rfl) (by rfl)) (@pss_cons _ _ _ _ _ (@ps_set _ _ (3) _ _ _ _ c_law.nd rfl (Or.inl rfl) (@pe_call _ _ _ _ _ _ _ _ _ _ _ _ _ _ _ _ G__law_case (hr.mono (by decide)) (by rfl) T.m__law_case T.F__law_case.kp T.b__law_case .nil pass0 (@pa_c _ _ _ _ _ (@pvN _ 0 _ _ (by rfl) (by first | exact Or.inl rfl | exact Or.inr (Or.inl rfl) | exact Or.inr (Or.inr rfl)) (by decide) (by decide)) (@pa_c _ _ _ _ _ (@pvN _ 2 _ _ (by rfl) (by first | exact Or.inl rfl | exact Or.inr (Or.inl rfl) | exact Or.inr (Or.inr rfl)) (by decide) (by decide)) (@pa_nil _) (by rfl)) (by rfl)) (by decide) (by rfl) (by rfl)) (by rfl) (by first | exact .inl rfl | exact .inr rfl | assumption)) (@pss_cons _ _ _ _ _ (@ps_setC _ _ _ _ _ _ _ _ _ _ _ _ _ (["_law_times", "_law_low", "_law_high", "_law_script", "_law_factor", "_law_terms", "_law_case_here", "_law_wide", "_law_some", "_law_goals_here", "_law_goal"]) (3) (4) _ c_law.nd rfl (Or.inl rfl) (comp_ok (defScope s_law) ["_law_script", "_law_factor", "_law_terms", "_law_case_here", "_law_wide", "_law_some", "_law_goals_here", "_law_goal"] rfl rfl (by decide +kernel)) rfl (@pi_seq _ _ _ _ (@pvN _ 2 _ _ (by rfl) (by first | exact Or.inl rfl | exact Or.inr (Or.inl rfl) | exact Or.inr (Or.inr rfl)) (by decide) (by decide))) (fun C s₀ H₀ ex pn => ((@pg_tup _ _ _ _ _ (3) rfl (@pgs_consN _ _ _ _ _ (@pg_name _ _ (0) _ (show List.Nodup (["_law_times", "_law_low", "_law_high", "_law_script", "_law_factor", "_law_terms", "_law_case_here", "_law_wide", "_law_some", "_law_goals_here", "_law_goal"] : List Str) from by decide +kernel) rfl (Or.inl rfl) (by first | exact .inl rfl | exact .inr rfl | assumption)) (@pgs_consN _ _ _ _ _ (@pg_name _ _ (1) _ (show List.Nodup (["_law_times", "_law_low", "_law_high", "_law_script", "_law_factor", "_law_terms", "_law_case_here", "_law_wide", "_law_some", "_law_goals_here", "_law_goal"] : List Str) from by decide +kernel) rfl (Or.inl rfl) (by first | exact .inl rfl | exact .inr rfl | assumption)) (@pgs_consN _ _ _ _ _ (@pg_name _ _ (2) _ (show List.Nodup (["_law_times", "_law_low", "_law_high", "_law_script", "_law_factor", "_law_terms", "_law_case_here", "_law_wide", "_law_some", "_law_goals_here", "_law_goal"] : List Str) from by decide +kernel) rfl (Or.inl rfl) (by first | exact .inl rfl | exact .inr rfl | assumption)) (@pgs_nilN _) (by rfl)) (by rfl)) (by rfl)) (by rfl) (by rfl)).mono fun _ _ _ _ h => gTup_q h)) (fun C s₀ H₀ ex pn => (@pts_nil _)) (fun C s₀ H₀ ex pn => (@pe_qTup _ _ _ _ _ (@pa_c _ _ _ _ _ (@pvN _ 1 _ _ (by rfl) (by first | exact Or.inl rfl | exact Or.inr (Or.inl rfl) | exact Or.inr (Or.inr rfl)) (by decide) (by decide)) (@pa_c _ _ _ _ _ (@pvN _ 2 _ _ (by rfl) (by first | exact Or.inl rfl | exact Or.inr (Or.inl rfl) | exact Or.inr (Or.inr rfl)) (by decide) (by decide)) (@pa_nil _) (by rfl)) (by rfl)))) (by rfl) (by intros; rfl) (by first | exact .inl rfl | exact .inr rfl | assumption)) (@pss_cons _ _ _ _ _ (@ps_for _ _ _ _ _ _ _ _ PassesOwn.never rfl (@pi_seq _ _ _ _ (@pe_qLst _ _ _ _ (@pa_c _ _ _ _ _ (@pvN _ 3 _ _ (by rfl) (by first | exact Or.inl rfl | exact Or.inr (Or.inl rfl) | exact Or.inr (Or.inr rfl)) (by decide) (by decide)) (@pa_c _ _ _ _ _ (@pvN _ 4 _ _ (by rfl) (by first | exact Or.inl rfl | exact Or.inr (Or.inl rfl) | exact Or.inr (Or.inr rfl)) (by decide) (by decide)) (@pa_nil _) (by rfl)) (by rfl)))) (@pg_name _ _ (5) _ c_law.nd rfl (Or.inl rfl) (by first | exact .inl rfl | exact .inr rfl | assumption)) (@pss_cons _ _ _ _ _ (@ps_set _ _ (6) _ _ _ _ c_law.nd rfl (Or.inl rfl) (@pe_call _ _ _ _ _ _ _ _ _ _ _ _ _ _ _ _ G__law_goals (hr.mono (by decide)) (by rfl) T.m__law_goals T.F__law_goals.kp T.b__law_goals .nil pass0 (@pa_c _ _ _ _ _ (@pvN _ 0 _ _ (by rfl) (by first | exact Or.inl rfl | exact Or.inr (Or.inl rfl) | exact Or.inr (Or.inr rfl)) (by decide) (by decide)) (@pa_c _ _ _ _ _ (@pvN _ 1 _ _ (by rfl) (by first | exact Or.inl rfl | exact Or.inr (Or.inl rfl) | exact Or.inr (Or.inr rfl)) (by decide) (by decide)) (@pa_c _ _ _ _ _ (@pvN _ 2 _ _ (by rfl) (by first | exact Or.inl rfl | exact Or.inr (Or.inl rfl) | exact Or.inr (Or.inr rfl)) (by decide) (by decide)) (@pa_c _ _ _ _ _ (@pvN _ 5 _ _ (by rfl) (by first | exact Or.inl rfl | exact Or.inr (Or.inl rfl) | exact Or.inr (Or.inr rfl)) (by decide) (by decide)) (@pa_nil _) (by rfl)) (by rfl)) (by rfl)) (by rfl)) (by decide) (by rfl) (by rfl)) (by rfl) (by first | exact .inl rfl | exact .inr rfl | assumption)) (@pss_one _ _ _ (@ps_for _ _ _ _ _ _ _ _ PassesOwn.never rfl (@pi_seq _ _ _ _ (@pe_op _ _ _ _ _ _ _ _ op_nCat (@pvN _ 6 _ _ (by rfl) (by first | exact Or.inl rfl | exact Or.inr (Or.inl rfl) | exact Or.inr (Or.inr rfl)) (by decide) (by decide)) (@pe_slice _ _ _ _ _ _ _ _ _ _ sl_n (@pvN _ 6 _ _ (by rfl) (by first | exact Or.inl rfl | exact Or.inr (Or.inl rfl) | exact Or.inr (Or.inr rfl)) (by decide) (by decide)) (@po_none _) (@po_some _ _ _ (@pe_int _ _ _ _))))) (@pg_name _ _ (7) _ c_law.nd rfl (Or.inl rfl) (by first | exact .inl rfl | exact .inr rfl | assumption)) (@pss_one _ _ _ (@ps_if _ _ _ _ _ _ _ _ (@pt_not _ _ _ _ (@pt_valN _ _ _ (@pe_call _ _ _ _ _ _ _ _ _ _ _ _ _ _ _ _ G__law_asked (hr.mono (by decide)) (by rfl) T.m__law_asked T.F__law_asked.kp T.b__law_asked .nil pass0 (@pa_c _ _ _ _ _ (@pvN _ 2 _ _ (by rfl) (by first | exact Or.inl rfl | exact Or.inr (Or.inl rfl) | exact Or.inr (Or.inr rfl)) (by decide) (by decide)) (@pa_c _ _ _ _ _ (@pvN _ 7 _ _ (by rfl) (by first | exact Or.inl rfl | exact Or.inr (Or.inl rfl) | exact Or.inr (Or.inr rfl)) (by decide) (by decide)) (@pa_c _ _ _ _ _ (@pvN _ 5 _ _ (by rfl) (by first | exact Or.inl rfl | exact Or.inr (Or.inl rfl) | exact Or.inr (Or.inr rfl)) (by decide) (by decide)) (@pa_nil _) (by rfl)) (by rfl)) (by rfl)) (by decide) (by rfl) (by rfl)) (by intros; rfl))) (@pss_one _ _ _ (@ps_ret _ _ _ _ (@pe_bl _ _ _ _))) (@pss_nil _))) (by intros; rfl)))) (by intros; rfl)) (@pss_one _ _ _ (@ps_ret _ _ _ _ (@pe_call _ _ _ _ _ _ _ _ _ _ _ _ _ _ _ _ G__law_asked (hr.mono (by decide)) (by rfl) T.m__law_asked T.F__law_asked.kp T.b__law_asked .nil pass0 (@pa_c _ _ _ _ _ (@pvN _ 2 _ _ (by rfl) (by first | exact Or.inl rfl | exact Or.inr (Or.inl rfl) | exact Or.inr (Or.inr rfl)) (by decide) (by decide)) (@pa_c _ _ _ _ _ (@pe_int _ _ _ _) (@pa_c _ _ _ _ _ (@pvN _ 3 _ _ (by rfl) (by first | exact Or.inl rfl | exact Or.inr (Or.inl rfl) | exact Or.inr (Or.inr rfl)) (by decide) (by decide)) (@pa_nil _) (by rfl)) (by rfl)) (by rfl)) (by decide) (by rfl) (by rfl)))))))), ?_⟩
    rw [show start ["_law_script", "_law_factor", "_law_terms", "_law_case_here", "_law_wide", "_law_some", "_law_goals_here", "_law_goal"] [.ref a] = [some (.ref a), none, none, none, none, none, none, none] from rfl]
    clear G__law_drawn G__law_case G__law_goals G__law_asked
    simp_all (failIfUnchanged := false) only [and_true]
    rw [c_spDrawn]
    refine ⟨rfl, hS, hl, fun f zs l r1 H1 e1 h1 t1 ht hf1 hf2 => ?_⟩
    have hS1 := e1.2 K a _ hS
    have h17 := ht.len
    simp_all (failIfUnchanged := false) only [and_true]
    rw [c_spCase]
    refine ⟨rfl, hS1, hl, zs, t1, ht, fun cs c H2 e2 t2 hc => ?_⟩
    have hS2 := e2.2 K a _ hS1
    obtain ⟨ys, hl2, al⟩ := tr_ext t1 e2
    simp_all (failIfUnchanged := false) only [and_true]
    have wk := wk_al (K := K) (R := trP) (fun _ _ _ _ h e => h.ext e) hl2 al
    refine comp_rel zs (fun _ => true) trP (fun D z y H' => ∃ q, y = .ref q ∧ q ≠ D ∧ H' q = some (.tup [.int z.2.1, .int z.2.2])) wk.1 wk.2 (fun D _ y H1 H2 ⟨q, h1, h2, h3⟩ e => ⟨q, h1, h2, e.at h3⟩) (fun D _ y H1 o ⟨q, h1, h2, h3⟩ => ⟨q, h1, h2, by rw [upd_ne h2]; exact h3⟩) (len5000 (by omega)) ?_ ?_
    · intro D z y H' N1 N0 hz hD e ⟨ys0, hys0⟩ ⟨q, hy, hq⟩ k1 _
      subst hy
      have k1' := k1 rfl
      clear k1 kk
      simp_all (failIfUnchanged := false) only [↓m_kCm_3, ↓m_kCm2]
      intro t3 H3 ht3 e3 h3
      exact k1' _ H3 e3 ⟨t3, rfl, (fun z => by rw [z, hys0] at ht3; cases ht3), h3⟩
    · intro D xs H3 hD e3 hD3 bl
      rw [filt] at bl
      have t3 : PrAt H3 D (zs.map fun z => (z.2.1, z.2.2)) := by
        refine ⟨xs, hD3, by rw [bl.1, List.length_map], fun i z y hz hy => ?_⟩
        rw [List.getElem?_map] at hz
        obtain ⟨x, hx, rfl⟩ := Option.map_eq_some_iff.mp hz
        obtain ⟨q, hq1, _, hq3⟩ := bl.2 i x y hx hy
        exact ⟨q, hq1, hq3⟩
      have hc3 : CsOk zs (zs.map fun z => (z.2.1, z.2.2)) := ⟨by rw [List.length_map], fun p hp => by
        rw [zip_range (by rw [List.length_map]) default default] at hp
        obtain ⟨k, hk, rfl⟩ := List.mem_map.mp hp
        have hk' := List.mem_range.mp hk
        have e1 : (zs.map fun z => (z.2.1, z.2.2)).getD k default = ((zs.getD k default).2.1, (zs.getD k default).2.2) := by simp [List.getD, List.getElem?_eq_getElem hk']
        have := (ht.all (zs.getD k default) (by simp [List.getD, List.getElem?_eq_getElem hk'])).2.2.1
        rw [e1]
        exact ⟨Int.le_refl _, Int.le_of_lt this, Int.le_refl _⟩⟩
      have t2_3 := pr_ext t2 e3
      have t1_3 := tr_ext t1 (e2.trans e3)
      have hS3 := e3.2 K a _ hS2
      clear wk bl hD3 hl2 al
      generalize (zs.map fun z => (z.2.1, z.2.2)) = ws at t3 hc3
      simp_all (failIfUnchanged := false) only [and_true]
      intro l4 H4 hl4 e4 h4
      simp_all (failIfUnchanged := false) only [and_true]
      refine for_lst (xs := [.ref c, .ref D]) (fun i σ H' => ∃ v5 v6 v7 : Option V, σ = [some (.ref a), some (.int f), some (.ref l), some (.ref c), some (.ref D), v5, v6, v7] ∧ Ext H4 H') ⟨none, none, none, rfl, Ext.refl _⟩ (fun i σ H' _ ⟨_, _, _, _, e⟩ => e.at h4) ?_ ?_
      · rintro i y _ H5 hi ⟨v5, v6, v7, rfl, e5⟩
        have e35 := e4.trans e5
        obtain ⟨s, us, rfl, tU, hcU⟩ : ∃ (s : Addr) (us : List (Int × Int)), y = .ref s ∧ PrAt H5 s us ∧ CsOk zs us := by
          have := List.mem_of_getElem? hi
          simp only [List.mem_cons, List.not_mem_nil, or_false] at this
          rcases this with rfl | rfl
          · exact ⟨c, cs, rfl, pr_ext t2_3 e35, hc⟩
          · exact ⟨D, ws, rfl, pr_ext t3 e35, hc3⟩
        have t1_5 := tr_ext t1_3 e35
        have hS5 := e35.2 K a _ hS3
        clear hi kk
        simp_all (failIfUnchanged := false) only [↓m_kBody]
        rw [c_spGoals]
        refine ⟨rfl, hS5, hl, hf1, hf2, zs, us, t1_5, tU, ht, hcU, fun gs r6 H6 e6 h6 hgl => ?_⟩
        have hg1 : 9 + 2 ≤ sizeLine := by decide
        simp_all (failIfUnchanged := false) only [and_true]
        intro q7 H7 hq7 e7 h7
        have h6_7 := e7.at h6
        rw [cut_none _ _ (by decide), show (2 : Int).toNat = 2 from rfl] at h7
        have htk : (List.take 2 (gs.map V.int)).length ≤ 2 := by rw [List.length_take]; omega
        simp_all (failIfUnchanged := false) only [and_true]
        refine ⟨len5000 (by omega), ?_⟩
        intro q8 H8 hq8 e8 h8
        simp_all (failIfUnchanged := false) only [and_true]
        refine for_lst (xs := gs.map V.int ++ (gs.map V.int).take 2) (fun i σ H' => ∃ v7 : Option V, σ = [some (.ref a), some (.int f), some (.ref l), some (.ref c), some (.ref D), some (.ref s), some (.ref r6), v7] ∧ Ext H8 H') ⟨v7, rfl, Ext.refl _⟩ (fun i σ H' _ ⟨_, _, e⟩ => e.at h8) ?_ ?_
        · rintro j y _ H9 hj ⟨v7', rfl, e9⟩
          obtain ⟨g, rfl⟩ : ∃ g, y = .int g := by
            have := List.mem_of_getElem? hj
            rcases List.mem_append.mp this with h | h
            · obtain ⟨g, _, rfl⟩ := List.mem_map.mp h; exact ⟨g, rfl⟩
            · obtain ⟨g, _, rfl⟩ := List.mem_map.mp (List.mem_of_mem_take h); exact ⟨g, rfl⟩
          have eU := e6.trans (e7.trans (e8.trans e9))
          clear hj
          simp_all (failIfUnchanged := false) only [↓m_kBody]
          rw [c_spAsked]
          refine ⟨zs, us, tr_ext t1_5 eU, pr_ext tU eU, ht, hcU, fun H10 e10 => ?_⟩
          simp_all (failIfUnchanged := false) only [and_true]
          exact ⟨_, rfl, e9.trans e10⟩
        · rintro _ H9 ⟨v7', rfl, e9⟩
          exact ⟨_, _, _, rfl, e5.trans (e6.trans (e7.trans (e8.trans e9)))⟩
      · rintro _ H5 ⟨v5, v6, v7, rfl, e5⟩
        have e35 := e4.trans e5
        simp_all (failIfUnchanged := false) only [and_true]
        rw [c_spAsked]
        refine ⟨zs, cs, tr_ext t1_3 e35, pr_ext t2_3 e35, ht, hc, fun H6 e6 => ?_⟩
        have k1 := kk H6
        clear kk
        simp_all (failIfUnchanged := false) only [and_true]
end
theorem all_mk {l : PySem.W.OpenLaw} {w : World} {K : PySem.W.Frag} {h : Heap} {mg : Str → Option Value} {fa : Addr} (X : K.In h) (G : h.Ns mainGlobals mg) (hfa : mg "law" = some (.ref fa))
    {f0 : Addr} {od0 an0 : Option Addr} {sl0 : Array (Option Value)} {oc0 kV0 dc0 pm0 cd0 ct0 : Value}
    (a0 : PySem.W.nsIn K mainGlobals "divisor" = some (some (.ref f0))) (l0 : K.lookup f0 = some ⟨oc0, od0, .func (PySem.W.fnOf "divisor" "divisor" (defArgs s_divisor) (defBody s_divisor) (defScope s_divisor) .none kV0 dc0 pm0 an0 cd0 ct0), sl0⟩) 
    (c0 : PySem.W.codeIn K cd0 "divisor" = true) (k0 : PySem.W.keepIn K (.ref f0) = true)
    {f1 : Addr} {od1 an1 : Option Addr} {sl1 : Array (Option Value)} {oc1 kV1 dc1 pm1 cd1 ct1 : Value}
    (a1 : PySem.W.nsIn K mainGlobals "divisor_of" = some (some (.ref f1))) (l1 : K.lookup f1 = some ⟨oc1, od1, .func (PySem.W.fnOf "divisor_of" "divisor_of" (defArgs s_divisor_of) (defBody s_divisor_of) (defScope s_divisor_of) .none kV1 dc1 pm1 an1 cd1 ct1), sl1⟩) 
    (c1 : PySem.W.codeIn K cd1 "divisor_of" = true) (k1 : PySem.W.keepIn K (.ref f1) = true)
    {f2 : Addr} {od2 an2 : Option Addr} {sl2 : Array (Option Value)} {oc2 kV2 dc2 pm2 cd2 ct2 : Value}
    (a2 : PySem.W.nsIn K mainGlobals "least_sum" = some (some (.ref f2))) (l2 : K.lookup f2 = some ⟨oc2, od2, .func (PySem.W.fnOf "least_sum" "least_sum" (defArgs s_least_sum) (defBody s_least_sum) (defScope s_least_sum) .none kV2 dc2 pm2 an2 cd2 ct2), sl2⟩) 
    (c2 : PySem.W.codeIn K cd2 "least_sum" = true) (k2 : PySem.W.keepIn K (.ref f2) = true)
    {f3 : Addr} {od3 an3 : Option Addr} {sl3 : Array (Option Value)} {oc3 kV3 dc3 pm3 cd3 ct3 : Value}
    (a3 : PySem.W.nsIn K mainGlobals "greatest_sum" = some (some (.ref f3))) (l3 : K.lookup f3 = some ⟨oc3, od3, .func (PySem.W.fnOf "greatest_sum" "greatest_sum" (defArgs s_greatest_sum) (defBody s_greatest_sum) (defScope s_greatest_sum) .none kV3 dc3 pm3 an3 cd3 ct3), sl3⟩) 
    (c3 : PySem.W.codeIn K cd3 "greatest_sum" = true) (k3 : PySem.W.keepIn K (.ref f3) = true)
    {f4 : Addr} {od4 an4 : Option Addr} {sl4 : Array (Option Value)} {oc4 kV4 dc4 pm4 cd4 ct4 : Value}
    (a4 : PySem.W.nsIn K mainGlobals "rest_of" = some (some (.ref f4))) (l4 : K.lookup f4 = some ⟨oc4, od4, .func (PySem.W.fnOf "rest_of" "rest_of" (defArgs s_rest_of) (defBody s_rest_of) (defScope s_rest_of) .none kV4 dc4 pm4 an4 cd4 ct4), sl4⟩) 
    (c4 : PySem.W.codeIn K cd4 "rest_of" = true) (k4 : PySem.W.keepIn K (.ref f4) = true)
    {f5 : Addr} {od5 an5 : Option Addr} {sl5 : Array (Option Value)} {oc5 kV5 dc5 pm5 cd5 ct5 : Value}
    (a5 : PySem.W.nsIn K mainGlobals "end_of" = some (some (.ref f5))) (l5 : K.lookup f5 = some ⟨oc5, od5, .func (PySem.W.fnOf "end_of" "end_of" (defArgs s_end_of) (defBody s_end_of) (defScope s_end_of) .none kV5 dc5 pm5 an5 cd5 ct5), sl5⟩) 
    (c5 : PySem.W.codeIn K cd5 "end_of" = true) (k5 : PySem.W.keepIn K (.ref f5) = true)
    {f6 : Addr} {od6 an6 : Option Addr} {sl6 : Array (Option Value)} {oc6 kV6 dc6 pm6 cd6 ct6 : Value}
    (a6 : PySem.W.nsIn K mainGlobals "is_ended" = some (some (.ref f6))) (l6 : K.lookup f6 = some ⟨oc6, od6, .func (PySem.W.fnOf "is_ended" "is_ended" (defArgs s_is_ended) (defBody s_is_ended) (defScope s_is_ended) .none kV6 dc6 pm6 an6 cd6 ct6), sl6⟩) 
    (c6 : PySem.W.codeIn K cd6 "is_ended" = true) (k6 : PySem.W.keepIn K (.ref f6) = true)
    {f7 : Addr} {od7 an7 : Option Addr} {sl7 : Array (Option Value)} {oc7 kV7 dc7 pm7 cd7 ct7 : Value}
    (a7 : PySem.W.nsIn K mainGlobals "_law_draw" = some (some (.ref f7))) (l7 : K.lookup f7 = some ⟨oc7, od7, .func (PySem.W.fnOf "_law_draw" "_law_draw" (defArgs s__law_draw) (defBody s__law_draw) (defScope s__law_draw) .none kV7 dc7 pm7 an7 cd7 ct7), sl7⟩) 
    (c7 : PySem.W.codeIn K cd7 "_law_draw" = true) (k7 : PySem.W.keepIn K (.ref f7) = true)
    {f8 : Addr} {od8 an8 : Option Addr} {sl8 : Array (Option Value)} {oc8 kV8 dc8 pm8 cd8 ct8 : Value}
    (a8 : PySem.W.nsIn K mainGlobals "_law_whole" = some (some (.ref f8))) (l8 : K.lookup f8 = some ⟨oc8, od8, .func (PySem.W.fnOf "_law_whole" "_law_whole" (defArgs s__law_whole) (defBody s__law_whole) (defScope s__law_whole) .none kV8 dc8 pm8 an8 cd8 ct8), sl8⟩) 
    (c8 : PySem.W.codeIn K cd8 "_law_whole" = true) (k8 : PySem.W.keepIn K (.ref f8) = true)
    {f9 : Addr} {od9 an9 : Option Addr} {sl9 : Array (Option Value)} {oc9 kV9 dc9 pm9 cd9 ct9 : Value}
    (a9 : PySem.W.nsIn K mainGlobals "_law_sums" = some (some (.ref f9))) (l9 : K.lookup f9 = some ⟨oc9, od9, .func (PySem.W.fnOf "_law_sums" "_law_sums" (defArgs s__law_sums) (defBody s__law_sums) (defScope s__law_sums) .none kV9 dc9 pm9 an9 cd9 ct9), sl9⟩) 
    (c9 : PySem.W.codeIn K cd9 "_law_sums" = true) (k9 : PySem.W.keepIn K (.ref f9) = true)
    {f10 : Addr} {od10 an10 : Option Addr} {sl10 : Array (Option Value)} {oc10 kV10 dc10 pm10 cd10 ct10 : Value}
    (a10 : PySem.W.nsIn K mainGlobals "_law_divisor" = some (some (.ref f10))) (l10 : K.lookup f10 = some ⟨oc10, od10, .func (PySem.W.fnOf "_law_divisor" "_law_divisor" (defArgs s__law_divisor) (defBody s__law_divisor) (defScope s__law_divisor) .none kV10 dc10 pm10 an10 cd10 ct10), sl10⟩) 
    (c10 : PySem.W.codeIn K cd10 "_law_divisor" = true) (k10 : PySem.W.keepIn K (.ref f10) = true)
    {f11 : Addr} {od11 an11 : Option Addr} {sl11 : Array (Option Value)} {oc11 kV11 dc11 pm11 cd11 ct11 : Value}
    (a11 : PySem.W.nsIn K mainGlobals "_law_ended" = some (some (.ref f11))) (l11 : K.lookup f11 = some ⟨oc11, od11, .func (PySem.W.fnOf "_law_ended" "_law_ended" (defArgs s__law_ended) (defBody s__law_ended) (defScope s__law_ended) .none kV11 dc11 pm11 an11 cd11 ct11), sl11⟩) 
    (c11 : PySem.W.codeIn K cd11 "_law_ended" = true) (k11 : PySem.W.keepIn K (.ref f11) = true)
    {f12 : Addr} {od12 an12 : Option Addr} {sl12 : Array (Option Value)} {oc12 kV12 dc12 pm12 cd12 ct12 : Value}
    (a12 : PySem.W.nsIn K mainGlobals "_law_drawn" = some (some (.ref f12))) (l12 : K.lookup f12 = some ⟨oc12, od12, .func (PySem.W.fnOf "_law_drawn" "_law_drawn" (defArgs s__law_drawn) (defBody s__law_drawn) (defScope s__law_drawn) .none kV12 dc12 pm12 an12 cd12 ct12), sl12⟩) 
    (c12 : PySem.W.codeIn K cd12 "_law_drawn" = true) (k12 : PySem.W.keepIn K (.ref f12) = true)
    {f13 : Addr} {od13 an13 : Option Addr} {sl13 : Array (Option Value)} {oc13 kV13 dc13 pm13 cd13 ct13 : Value}
    (a13 : PySem.W.nsIn K mainGlobals "_law_case" = some (some (.ref f13))) (l13 : K.lookup f13 = some ⟨oc13, od13, .func (PySem.W.fnOf "_law_case" "_law_case" (defArgs s__law_case) (defBody s__law_case) (defScope s__law_case) .none kV13 dc13 pm13 an13 cd13 ct13), sl13⟩) 
    (c13 : PySem.W.codeIn K cd13 "_law_case" = true) (k13 : PySem.W.keepIn K (.ref f13) = true)
    {f14 : Addr} {od14 an14 : Option Addr} {sl14 : Array (Option Value)} {oc14 kV14 dc14 pm14 cd14 ct14 : Value}
    (a14 : PySem.W.nsIn K mainGlobals "_law_right" = some (some (.ref f14))) (l14 : K.lookup f14 = some ⟨oc14, od14, .func (PySem.W.fnOf "_law_right" "_law_right" (defArgs s__law_right) (defBody s__law_right) (defScope s__law_right) .none kV14 dc14 pm14 an14 cd14 ct14), sl14⟩) 
    (c14 : PySem.W.codeIn K cd14 "_law_right" = true) (k14 : PySem.W.keepIn K (.ref f14) = true)
    {f15 : Addr} {od15 an15 : Option Addr} {sl15 : Array (Option Value)} {oc15 kV15 dc15 pm15 cd15 ct15 : Value}
    (a15 : PySem.W.nsIn K mainGlobals "_law_asked" = some (some (.ref f15))) (l15 : K.lookup f15 = some ⟨oc15, od15, .func (PySem.W.fnOf "_law_asked" "_law_asked" (defArgs s__law_asked) (defBody s__law_asked) (defScope s__law_asked) .none kV15 dc15 pm15 an15 cd15 ct15), sl15⟩) 
    (c15 : PySem.W.codeIn K cd15 "_law_asked" = true) (k15 : PySem.W.keepIn K (.ref f15) = true)
    {f16 : Addr} {od16 an16 : Option Addr} {sl16 : Array (Option Value)} {oc16 kV16 dc16 pm16 cd16 ct16 : Value}
    (a16 : PySem.W.nsIn K mainGlobals "_law_goals" = some (some (.ref f16))) (l16 : K.lookup f16 = some ⟨oc16, od16, .func (PySem.W.fnOf "_law_goals" "_law_goals" (defArgs s__law_goals) (defBody s__law_goals) (defScope s__law_goals) .none kV16 dc16 pm16 an16 cd16 ct16), sl16⟩) 
    (c16 : PySem.W.codeIn K cd16 "_law_goals" = true) (k16 : PySem.W.keepIn K (.ref f16) = true)
    {f17 : Addr} {od17 an17 : Option Addr} {sl17 : Array (Option Value)} {oc17 kV17 dc17 pm17 cd17 ct17 : Value}
    (a17 : PySem.W.nsIn K mainGlobals "law" = some (some (.ref f17))) (l17 : K.lookup f17 = some ⟨oc17, od17, .func (PySem.W.fnOf "law" "law" (defArgs s_law) (defBody s_law) (defScope s_law) .none kV17 dc17 pm17 an17 cd17 ct17), sl17⟩) 
    (c17 : PySem.W.codeIn K cd17 "law" = true) (k17 : PySem.W.keepIn K (.ref f17) = true)
    (z0 : PySem.W.nsIn K mainGlobals "abs" = some none)
    (z1 : PySem.W.nsIn K mainGlobals "bool" = some none)
    (z2 : PySem.W.nsIn K mainGlobals "int" = some none)
    (z3 : PySem.W.nsIn K mainGlobals "isinstance" = some none)
    (z4 : PySem.W.nsIn K mainGlobals "len" = some none)
    (z5 : PySem.W.nsIn K mainGlobals "list" = some none)
    (z6 : PySem.W.nsIn K mainGlobals "range" = some none)
    (z7 : PySem.W.nsIn K mainGlobals "sorted" = some none)
    (z8 : PySem.W.nsIn K mainGlobals "sum" = some none)
    (z9 : PySem.W.nsIn K mainGlobals "zip" = some none)
    : ∃ fd : FuncData, (∀ (s : Shared) (v : Value), BindsTo s fd ⟨[v], []⟩ [("_law_script", v)]) ∧ ∀ base : Heap, K.In base → base.Ns mainGlobals mg → FnOk l.prog w K mg base CX0 7 fa fd ["_law_script"] (spLaw K) := by
  have e := hfa.symm.trans (PySem.W.mg_of X G a17)
  cases e
  have F0 := fun_mk (st := s_divisor) l0 c0 k0
  have F1 := fun_mk (st := s_divisor_of) l1 c1 k1
  have F2 := fun_mk (st := s_least_sum) l2 c2 k2
  have F3 := fun_mk (st := s_greatest_sum) l3 c3 k3
  have F4 := fun_mk (st := s_rest_of) l4 c4 k4
  have F5 := fun_mk (st := s_end_of) l5 c5 k5
  have F6 := fun_mk (st := s_is_ended) l6 c6 k6
  have F7 := fun_mk (st := s__law_draw) l7 c7 k7
  have F8 := fun_mk (st := s__law_whole) l8 c8 k8
  have F9 := fun_mk (st := s__law_sums) l9 c9 k9
  have F10 := fun_mk (st := s__law_divisor) l10 c10 k10
  have F11 := fun_mk (st := s__law_ended) l11 c11 k11
  have F12 := fun_mk (st := s__law_drawn) l12 c12 k12
  have F13 := fun_mk (st := s__law_case) l13 c13 k13
  have F14 := fun_mk (st := s__law_right) l14 c14 k14
  have F15 := fun_mk (st := s__law_asked) l15 c15 k15
  have F16 := fun_mk (st := s__law_goals) l16 c16 k16
  have F17 := fun_mk (st := s_law) l17 c17 k17
  have T : Tx K mg ⟨f0, _, f1, _, f2, _, f3, _, f4, _, f5, _, f6, _, f7, _, f8, _, f9, _, f10, _, f11, _, f12, _, f13, _, f14, _, f15, _, f16, _, fa, _⟩ := ⟨F0, PySem.W.mg_of X G a0, F0.binds (ps := ["one", "other"]) (fun _ _ _ _ _ _ => len2 (fun _ _ => rfl)), F1, PySem.W.mg_of X G a1, F1.binds (ps := ["numbers"]) (fun _ _ _ _ _ _ => len1 (fun _ => rfl)), F2, PySem.W.mg_of X G a2, F2.binds (ps := ["terms", "case"]) (fun _ _ _ _ _ _ => len2 (fun _ _ => rfl)), F3, PySem.W.mg_of X G a3, F3.binds (ps := ["terms", "case"]) (fun _ _ _ _ _ _ => len2 (fun _ _ => rfl)), F4, PySem.W.mg_of X G a4, F4.binds (ps := ["terms", "case"]) (fun _ _ _ _ _ _ => len2 (fun _ _ => rfl)), F5, PySem.W.mg_of X G a5, F5.binds (ps := ["terms", "goal", "case"]) (fun _ _ _ _ _ _ => len3 (fun _ _ _ => rfl)), F6, PySem.W.mg_of X G a6, F6.binds (ps := ["terms", "goal", "case"]) (fun _ _ _ _ _ _ => len3 (fun _ _ _ => rfl)), F7, PySem.W.mg_of X G a7, F7.binds (ps := ["_law_script", "_law_k", "_law_many"]) (fun _ _ _ _ _ _ => len3 (fun _ _ _ => rfl)), F8, PySem.W.mg_of X G a8, F8.binds (ps := ["_law_found"]) (fun _ _ _ _ _ _ => len1 (fun _ => rfl)), F9, PySem.W.mg_of X G a9, F9.binds (ps := ["_law_terms", "_law_case_here"]) (fun _ _ _ _ _ _ => len2 (fun _ _ => rfl)), F10, PySem.W.mg_of X G a10, F10.binds (ps := ["_law_numbers"]) (fun _ _ _ _ _ _ => len1 (fun _ => rfl)), F11, PySem.W.mg_of X G a11, F11.binds (ps := ["_law_terms", "_law_goal", "_law_case_here"]) (fun _ _ _ _ _ _ => len3 (fun _ _ _ => rfl)), F12, PySem.W.mg_of X G a12, F12.binds (ps := ["_law_script"]) (fun _ _ _ _ _ _ => len1 (fun _ => rfl)), F13, PySem.W.mg_of X G a13, F13.binds (ps := ["_law_script", "_law_terms"]) (fun _ _ _ _ _ _ => len2 (fun _ _ => rfl)), F14, PySem.W.mg_of X G a14, F14.binds (ps := ["_law_found", "_law_due"]) (fun _ _ _ _ _ _ => len2 (fun _ _ => rfl)), F15, PySem.W.mg_of X G a15, F15.binds (ps := ["_law_terms", "_law_goal", "_law_case_here"]) (fun _ _ _ _ _ _ => len3 (fun _ _ _ => rfl)), F16, PySem.W.mg_of X G a16, F16.binds (ps := ["_law_script", "_law_factor", "_law_terms", "_law_case_here"]) (fun _ _ _ _ _ _ => len4 (fun _ _ _ _ => rfl)), F17, PySem.W.mg_of X G a17, F17.binds (ps := ["_law_script"]) (fun _ _ _ _ _ _ => len1 (fun _ => rfl)), PySem.W.mg_none_of X G z0, PySem.W.mg_none_of X G z1, PySem.W.mg_none_of X G z2, PySem.W.mg_none_of X G z3, PySem.W.mg_none_of X G z4, PySem.W.mg_none_of X G z5, PySem.W.mg_none_of X G z6, PySem.W.mg_none_of X G z7, PySem.W.mg_none_of X G z8, PySem.W.mg_none_of X G z9⟩
  exact ⟨PySem.W.fnOf "law" "law" (defArgs s_law) (defBody s_law) (defScope s_law) .none kV17 dc17 pm17 an17 cd17 ct17, fun s v => .of_eq rfl, fun base _ _ => ok_law T⟩
theorem walk {l : PySem.W.OpenLaw} {q : Program} {loose : List Str} {XP : (Str → Option Value) → Heap → Prop} {YP : World → Heap → Prop} {d : DefRec} {K : Params → PySem.W.Frag} (hn : l.most = some 63) (hdf : d.params.defaults = [])
    (hY : ∀ (w : World) (h : Heap), YP w h → (K w.params).In h)
    (F : ∀ (w : World) (mg : Str → Option Value) (fa : Addr) (h : Heap), (K w.params).In h → h.Ns mainGlobals mg → mg d.name = some (.ref fa) →
      ∃ fd : FuncData, (∀ (s : Shared) (u : Value), BindsTo s fd ⟨[u], []⟩ [("_law_script", u)]) ∧ ∀ base : Heap, (K w.params).In base → base.Ns mainGlobals mg → FnOk l.prog w (K w.params) mg base CX0 7 fa fd ["_law_script"] (spLaw (K w.params))) :
    PySem.W.WalkO q loose XP YP l.row.toRowW d [] (fun f vs => PySem.call f vs) :=
  L2.walk_of (n := 63) (k := 7) (x := "_law_script") (CX := fun _ => CX0) (sp := fun w => spLaw (K w.params)) hn (by decide) hdf ⟨rfl, by decide, by decide⟩ hY F (fun _ _ a ns hl _ hS => ⟨a, rfl, ns, hS, hl, fun _ => rfl⟩) fun _ _ _ _ _ z => z
end PH
open PySem PySem.W PyProof.Rows
set_option maxRecDepth 100000 in
set_option maxHeartbeats 0 in
theorem PySem.Challenge.cw_pacehall_k52_cases_holds : PySem.Challenge.rw_pacehall_k52_cases.Holds := by
  w_on; o_law; k_head; (case hw => w_witness2)
  k_fill
  refine PH.walk (l := PySem.Challenge.rw_pacehall_k52_cases) rfl rfl (fun w h Y => PySem.W.kIn_of Y) ?F
  case F =>
    intro w mg fa h KX G hmg
    refine' PH.all_mk KX G hmg ?a0 ?l0 ?c0 ?k0 ?a1 ?l1 ?c1 ?k1 ?a2 ?l2 ?c2 ?k2 ?a3 ?l3 ?c3 ?k3 ?a4 ?l4 ?c4 ?k4 ?a5 ?l5 ?c5 ?k5 ?a6 ?l6 ?c6 ?k6 ?a7 ?l7 ?c7 ?k7 ?a8 ?l8 ?c8 ?k8 ?a9 ?l9 ?c9 ?k9 ?a10 ?l10 ?c10 ?k10 ?a11 ?l11 ?c11 ?k11 ?a12 ?l12 ?c12 ?k12 ?a13 ?l13 ?c13 ?k13 ?a14 ?l14 ?c14 ?k14 ?a15 ?l15 ?c15 ?k15 ?a16 ?l16 ?c16 ?k16 ?a17 ?l17 ?c17 ?k17 ?z0 ?z1 ?z2 ?z3 ?z4 ?z5 ?z6 ?z7 ?z8 ?z9
    (case a0 | l0 | c0 | k0 | a1 | l1 | c1 | k1 | a2 | l2 | c2 | k2 => first | k_is | k_exc | kts_exm | decide | rfl | decide +kernel | kernel_rfl)
    (case a3 | l3 | c3 | k3 | a4 | l4 | c4 | k4 | a5 | l5 | c5 | k5 => first | k_is | k_exc | kts_exm | decide | rfl | decide +kernel | kernel_rfl)
    (case a6 | l6 | c6 | k6 | a7 | l7 | c7 | k7 | a8 | l8 | c8 | k8 => first | k_is | k_exc | kts_exm | decide | rfl | decide +kernel | kernel_rfl)
    (case a9 | l9 | c9 | k9 | a10 | l10 | c10 | k10 | a11 | l11 | c11 | k11 => first | k_is | k_exc | kts_exm | decide | rfl | decide +kernel | kernel_rfl)
    (case a12 | l12 | c12 | k12 | a13 | l13 | c13 | k13 | a14 | l14 | c14 | k14 => first | k_is | k_exc | kts_exm | decide | rfl | decide +kernel | kernel_rfl)
    (case a15 | l15 | c15 | k15 | a16 | l16 | c16 | k16 | a17 | l17 | c17 | k17 => first | k_is | k_exc | kts_exm | decide | rfl | decide +kernel | kernel_rfl)
    (case z0 | z1 | z2 | z3 | z4 | z5 | z6 | z7 | z8 | z9 => first | k_is | k_exc | kts_exm | decide | rfl | decide +kernel | kernel_rfl)
#print axioms PySem.Challenge.cw_pacehall_k52_cases_holds
