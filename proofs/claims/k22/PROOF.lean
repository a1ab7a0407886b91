import PyProof.Rows.All
import Wide.All
import OpenK.AllK
import Wide.FinOn
import Lean
import PyProof.EqAt
import PyProof.EqKinds
import PyProof.TupleCall
import PySem.Challenge.RW_pacehall_k22_views_refused
-- CHANGE: your row's module here, as the last of these rows
set_option Elab.async false
set_option linter.all false
set_option maxRecDepth 100000
namespace L2
open PySem PySem.Spec PyProof.Rows
abbrev Key := Sum Int Str
def keyIs : Key → Value → Bool
  | .inl k, v => Value.isInt k v
  | .inr x, v => Value.isStrOf x v
def keyH (w : World) : Key → Int
  | .inl k => hashInt k
  | .inr x => hashStr w x
theorem keyIs_shape : ∀ {k : Key} {v : Value}, keyIs k v = true → (∃ i t, k = Sum.inl i ∧ v = Value.int i t) ∨ (∃ x t, k = Sum.inr x ∧ v = Value.str x t)
  | .inl i, v, h => by
    obtain ⟨t, e⟩ := Value.isInt_shape (k := i) (v := v) h
    exact .inl ⟨i, t, rfl, e⟩
  | .inr x, v, h => by
    obtain ⟨t, e⟩ := Value.isStrOf_shape (x := x) (v := v) h
    exact .inr ⟨x, t, rfl, e⟩
theorem keyIs_int (i : Int) (t : Tok) : keyIs (.inl i) (.int i t) = true := by simp [keyIs, Value.isInt]
theorem key_ll (a b : Int) : decide ((Sum.inl a : Key) = Sum.inl b) = (a == b) := by
  by_cases e : a = b
  · subst e; simp
  · have h : ¬ (Sum.inl a : Key) = Sum.inl b := fun q => e (Sum.inl.inj q)
    rw [decide_eq_false h]
    exact (beq_eq_false_iff_ne.mpr e).symm
theorem key_rr (a b : Str) : decide ((Sum.inr a : Key) = Sum.inr b) = decide (a = b) := by
  by_cases e : a = b
  · subst e; simp
  · have h : ¬ (Sum.inr a : Key) = Sum.inr b := fun q => e (Sum.inr.inj q)
    rw [decide_eq_false h, decide_eq_false e]
theorem key_lr (a : Int) (b : Str) : decide ((Sum.inl a : Key) = Sum.inr b) = false := decide_eq_false (fun q => nomatch q)
theorem key_rl (a : Str) (b : Int) : decide ((Sum.inr a : Key) = Sum.inl b) = false := decide_eq_false (fun q => nomatch q)
def mixKind (prog : Program) (w : World) : PySem.KeyKind prog w Key where
  is := keyIs
  hash := keyH w
  inj := fun v a b ha hb => by
    rcases keyIs_shape ha with ⟨i, t, rfl, rfl⟩ | ⟨x, t, rfl, rfl⟩
    · rcases keyIs_shape hb with ⟨j, u, rfl, e⟩ | ⟨y, u, rfl, e⟩
      · injection e with e1 _; rw [e1]
      · exact nomatch e
    · rcases keyIs_shape hb with ⟨j, u, rfl, e⟩ | ⟨y, u, rfl, e⟩
      · exact nomatch e
      · injection e with e1 _; rw [e1]
  byValue := fun k v h => by
    rcases keyIs_shape h with ⟨i, t, rfl, rfl⟩ | ⟨x, t, rfl, rfl⟩ <;> rfl
  pyHash := fun hv h => by
    rcases keyIs_shape hv with ⟨i, t, rfl, rfl⟩ | ⟨x, t, rfl, rfl⟩
    · exact wpAny_pyHash_int h
    · exact wpAny_pyHash_str h
  eqBool := fun hu hv h => by
    rcases keyIs_shape hu with ⟨i, t, rfl, rfl⟩ | ⟨x, t, rfl, rfl⟩
    · rcases keyIs_shape hv with ⟨j, u, rfl, rfl⟩ | ⟨y, u, rfl, rfl⟩
      · rw [key_ll] at h; exact wpAny_eqBool_int h
      · rw [key_lr] at h; exact SeqAt.EqAt.int_str i t y u _ _ _ _ h
    · rcases keyIs_shape hv with ⟨j, u, rfl, rfl⟩ | ⟨y, u, rfl, rfl⟩
      · rw [key_rl] at h; exact SeqAt.EqAt.str_int x t j u _ _ _ _ h
      · rw [key_rr] at h; exact wpAny_eqBool_str h
  «strs» := fun k x t v h => by
    rcases keyIs_shape h with ⟨i, u, rfl, e⟩ | ⟨y, u, rfl, e⟩
    · exact nomatch e
    · injection e with e1 _
      subst e1
      cases v <;> rfl
theorem mixKind_int (prog : Program) (w : World) (i : Int) (t : Tok) : (mixKind prog w).is (.inl i) (.int i t) = true := keyIs_int i t
end L2
namespace L2
open PySem PySem.Spec PyProof.Rows
inductive V where
  | non | bl (b : Bool) | int (i : Int) | str (x : Str) | byt (b : Array UInt8) | flt (b : UInt64) | ref (a : Addr) | ty (n : String)
  deriving DecidableEq
def RelV : V → Value → Prop
  | .non, u => u = Value.none
  | .bl b, u => u = Value.bool b
  | .int i, u => ∃ t, u = Value.int i t
  | .str x, u => ∃ t, u = Value.str x t
  | .byt b, u => ∃ t, u = Value.bytes b t
  | .flt b, u => ∃ t, u = Value.float b t
  | .ref a, u => u = Value.ref a
  | .ty n, u => u = Value.type n
abbrev Vals : List V → List Value → Prop := Paired RelV
theorem Vals.length {xs : List V} {us : List Value} (r : Vals xs us) : xs.length = us.length := Paired.length r
theorem Vals.get : ∀ {xs : List V} {us : List Value} {i : Nat} {x : V}, Vals xs us → xs[i]? = some x → ∃ u, us[i]? = some u ∧ RelV x u
  | _, _, _, _, .nil, e => by simp at e
  | _, _, 0, _, .cons r _, e => by simp at e; subst e; exact ⟨_, rfl, r⟩
  | _, _, i + 1, x, .cons _ t, e => by
    obtain ⟨u, h1, h2⟩ := Vals.get (i := i) (x := x) t (by simpa using e)
    exact ⟨u, by simpa using h1, h2⟩
theorem Vals.append : ∀ {xs ys : List V} {us ws : List Value}, Vals xs us → Vals ys ws → Vals (xs ++ ys) (us ++ ws)
  | _, _, _, _, .nil, s => s
  | _, _, _, _, .cons r t, s => .cons r (Vals.append t s)
theorem Vals.take : ∀ {xs : List V} {us : List Value} (n : Nat), Vals xs us → Vals (xs.take n) (us.take n)
  | _, _, 0, _ => .nil
  | _, _, _ + 1, .nil => .nil
  | _, _, n + 1, .cons r t => .cons r (Vals.take n t)
theorem Vals.drop : ∀ {xs : List V} {us : List Value} (n : Nat), Vals xs us → Vals (xs.drop n) (us.drop n)
  | _, _, 0, r => r
  | _, _, _ + 1, .nil => .nil
  | _, _, n + 1, .cons _ t => Vals.drop n t
def RelO : Option V → Option Value → Prop
  | some v, some u => RelV v u
  | none, none => True
  | _, _ => False
def KV {κ : Type} : List (κ × V) → List (κ × Value) → Prop := Paired fun (p : κ × V) (q : κ × Value) => p.1 = q.1 ∧ RelV p.2 q.2
def kV : Key → V
  | .inl i => .int i
  | .inr x => .str x
inductive HO where
  | lst (xs : List V)
  | tup (xs : List V)
  | dK (kvs : List (Key × V)) | dT (kvs : List (List Key × V))
  | set (S : Int → Bool) (n : Nat)
  | ins (C dx : Addr) (fs : List (Str × V))
  | own (x : Addr)
  | xd (fs : List (Str × V))
  | met (f x : Addr)
  | rng (lo hi : Int)
  | frz (o : Obj) (u : HO)
  | tbl (ps : Array Value)
  | cod (q : Str)
  | ext (φ : Heap → Prop)
abbrev Hp := Addr → Option HO
def upd (H : Hp) (a : Addr) (o : HO) : Hp := fun b => if b = a then some o else H b
theorem upd_same {H : Hp} {a : Addr} {o : HO} : upd H a o a = some o := by unfold upd; rw [if_pos rfl]
theorem upd_ne {H : Hp} {a b : Addr} {o : HO} (h : b ≠ a) : upd H a o b = H b := by unfold upd; rw [if_neg h]
theorem upd_upd {H : Hp} {a : Addr} {o u : HO} : upd (upd H a o) a u = upd H a u := by
  funext b; unfold upd; split <;> rfl
theorem ne_of_none {H : Hp} {a b : Addr} {o : HO} (h : H a = some o) (h' : H b = none) : a ≠ b := by
  intro e; subst e; rw [h] at h'; cases h'
section
variable (P : Program) (w : World)
def ObjOk (H : Hp) (h : Heap) (a : Addr) : HO → Prop
  | .lst xs => xs.length ≤ sizeLine ∧ ∃ (its : List Value) (n : Nat), Vals xs its ∧ h.get? a = some { cls := .type "list", data := .seq its.toArray n }
  | .tup xs => xs.length ≤ sizeLine ∧ ∃ its : List Value, Vals xs its ∧ IsTup h a its.toArray
  | .dK kvs => kvs.length ≤ sizeLine ∧ (a == sysModules) = false ∧ ∃ vs, KV kvs vs ∧ h.DictOf (mixKind P w) a vs
  | .dT kvs => kvs.length ≤ sizeLine ∧ (a == sysModules) = false ∧ ∃ xs : List (List Key × Addr × Value),
      Paired (fun (p : List Key × V) (q : List Key × Addr × Value) => p.1 = q.1 ∧ H q.2.1 = some (.tup (p.1.map kV)) ∧ RelV p.2 q.2.2) kvs xs ∧
      ∃ o es ep, h.get? a = some o ∧ o.ExactDict ∧ o.data = .dict es ep ∧ es.toList = xs.map (entryOfKey (tupleKind (mixKind P w))) ∧ (xs.map (·.1)).Nodup
  | .set S n => h.SetOf (intKind P w) a S n
  | .ins C dx fs => H dx = some (.own a) ∧ fs.length ≤ 1000 ∧ dx ≠ a ∧ h.get? a = some (PySem.W.instObj C dx) ∧
      ∃ mA, h.Ns1 dx mA ∧ (∀ f, RelO (fs.lookup f) (mA f)) ∧ PySem.Within mA (fs.map (·.1))
  | .own _ => ∃ o, h.get? a = some o
  | .xd fs => ∃ mA, h.Ns1 a mA ∧ ∀ f, RelO (fs.lookup f) (mA f)
  | .rng lo hi => ∃ t u v, h.get? a = some { cls := .type "range", data := .fields #[.int lo t, .int hi u, .int 1 v] }
  | .frz o u => h.get? a = some o ∧ ObjOk H h a u
  | .tbl ps => ∃ (q : Str) (t : Tok) (qs : Array Value), ps = #[.str q t] ∧ h.get? a = some { cls := .none, data := .fields qs } ∧ TriplesOk qs.toList ∧ ∀ (pos : Pos) (cv : Value), codeAmong pos qs.toList = some cv → ∃ c : Addr, cv = .ref c ∧ H c = some (.cod q)
  | .cod q => ∃ (o : Obj) (vs : Array Value) (t : Tok), h.get? a = some o ∧ o.data = .fields vs ∧ vs[1]? = some (.str q t)
  | .met f x => h.get? a = some (PySem.W.methodObj (.ref f) (.ref x))
  | .ext φ => φ h ∧ (∃ o, h.get? a = some o) ∧ ∀ h1 h2 : Heap, φ h1 → (∀ o, h1.get? a = some o → h2.get? a = some o) → φ h2
def HOk (H : Hp) (h : Heap) : Prop := ∀ a o, H a = some o → ObjOk P w H h a o
end
section
variable {P : Program} {w : World} {H H' : Hp} {h h' : Heap} {a : Addr} {o : HO}
theorem ObjOk.lt (x : ObjOk P w H h a o) : a < h.objs.size := by
  cases o with
  | lst xs => obtain ⟨_, _, _, _, e⟩ := x; exact Heap.lt_size e
  | tup xs => obtain ⟨_, _, _, p⟩ := x; exact p.lt
  | dK kvs => obtain ⟨_, _, _, _, o, _, _, e, _⟩ := x; exact Heap.lt_size e
  | dT kvs => obtain ⟨_, _, _, _, o, _, _, e, _⟩ := x; exact Heap.lt_size e
  | set S n => obtain ⟨o, _, _, _, e, _⟩ := x; exact Heap.lt_size e
  | ins C dx fs => obtain ⟨_, _, _, e, _⟩ := x; exact Heap.lt_size e
  | own y => obtain ⟨_, e⟩ := x; exact Heap.lt_size e
  | xd fs => obtain ⟨_, ⟨_, _, _, e, _⟩, _⟩ := x; exact Heap.lt_size e
  | rng lo hi => obtain ⟨_, _, _, e⟩ := x; exact Heap.lt_size e
  | frz ob u => obtain ⟨e, _⟩ := x; exact Heap.lt_size e
  | tbl ps => obtain ⟨_, _, _, _, e, _⟩ := x; exact Heap.lt_size e
  | cod q => obtain ⟨_, _, _, e, _⟩ := x; exact Heap.lt_size e
  | met f y => exact Heap.lt_size (show h.get? a = some _ from x)
  | ext φ => obtain ⟨_, ⟨_, e⟩, _⟩ := x; exact Heap.lt_size e
theorem Paired.mapP {α β : Type} {F G : α → β → Prop} : ∀ {l₁ : List α} {l₂ : List β}, Paired F l₁ l₂ → (∀ a b, F a b → G a b) → Paired G l₁ l₂
  | _, _, .nil, _ => .nil
  | _, _, .cons r t, f => .cons (f _ _ r) (Paired.mapP t f)
theorem ObjOk.stay (x : ObjOk P w H h a o) (k : ∀ b u, (b = a ∨ H b = some (.own a)) → h.get? b = some u → h'.get? b = some u)
    (ho : ∀ b, H b = some (.own a) → H' b = some (.own a)) (hq : ∀ b q, H b = some (.cod q) → H' b = some (.cod q)) (ht : ∀ b xs, H b = some (.tup xs) → H' b = some (.tup xs)) : ObjOk P w H' h' a o := by
  induction o with
  | lst xs => obtain ⟨z, its, n, r, e⟩ := x; exact ⟨z, its, n, r, k _ _ (.inl rfl) e⟩
  | tup xs => obtain ⟨z, its, r, ob, e, c⟩ := x; exact ⟨z, its, r, ob, k _ _ (.inl rfl) e, c⟩
  | dK kvs => obtain ⟨z, y, vs, r, ob, es, ep, e, c⟩ := x; exact ⟨z, y, vs, r, ob, es, ep, k _ _ (.inl rfl) e, c⟩
  | dT kvs =>
    obtain ⟨z, y, xs, r, ob, es, ep, e, c⟩ := x
    exact ⟨z, y, xs, Paired.mapP r fun p q z => ⟨z.1, ht _ _ z.2.1, z.2.2⟩, ob, es, ep, k _ _ (.inl rfl) e, c⟩
  | set S n => obtain ⟨ob, es, ep, t, e, c⟩ := x; exact ⟨ob, es, ep, t, k _ _ (.inl rfl) e, c⟩
  | ins C dx fs =>
    obtain ⟨d, z, ne, e, mA, ⟨od, es, ep, e2, c⟩, r⟩ := x
    exact ⟨ho _ d, z, ne, k _ _ (.inl rfl) e, mA, ⟨od, es, ep, k _ _ (.inr d) e2, c⟩, r⟩
  | own y => obtain ⟨ob, e⟩ := x; exact ⟨ob, k _ _ (.inl rfl) e⟩
  | xd fs => obtain ⟨mA, ⟨od, es, ep, e, c⟩, r⟩ := x; exact ⟨mA, ⟨od, es, ep, k _ _ (.inl rfl) e, c⟩, r⟩
  | rng lo hi => obtain ⟨t, u, v, e⟩ := x; exact ⟨t, u, v, k _ _ (.inl rfl) e⟩
  | frz ob u ih => obtain ⟨e, q⟩ := x; exact ⟨k _ _ (.inl rfl) e, ih q⟩
  | tbl ps =>
    obtain ⟨q, t, qs, e0, e, tr, hc⟩ := x
    refine ⟨q, t, qs, e0, k _ _ (.inl rfl) e, tr, fun pos cv hcv => ?_⟩
    obtain ⟨c, r1, r2⟩ := hc pos cv hcv
    exact ⟨c, r1, hq _ _ r2⟩
  | cod q => obtain ⟨ob, vs, t, e, c⟩ := x; exact ⟨ob, vs, t, k _ _ (.inl rfl) e, c⟩
  | met f y =>
    have e : h.get? a = some (PySem.W.methodObj (.ref f) (.ref y)) := x
    show h'.get? a = some (PySem.W.methodObj (.ref f) (.ref y))
    exact k a _ (.inl rfl) e
  | ext φ => obtain ⟨p, ⟨o, e⟩, st⟩ := x; exact ⟨st _ _ p fun o q => k _ _ (.inl rfl) q, ⟨o, k _ _ (.inl rfl) e⟩, st⟩
theorem HOk.lt (x : HOk P w H h) (e : H a = some o) : a < h.objs.size := (x a o e).lt
theorem HOk.fresh (x : HOk P w H h) (e : h.objs.size ≤ a) : H a = none := by
  cases q : H a with
  | none => rfl
  | some u => exact absurd (Nat.lt_of_lt_of_le (x.lt q) e) (Nat.lt_irrefl _)
theorem HOk.kept (x : HOk P w H h) (k : ∀ b u, h.get? b = some u → h'.get? b = some u) : HOk P w H h' := fun a o e =>
  (x a o e).stay (fun b u _ q => k b u q) (fun _ q => q) (fun _ _ q => q) fun _ _ q => q
theorem HOk.laid (x : HOk P w H h) (k : ∀ b u, h.get? b = some u → h'.get? b = some u) (hp : h.objs.size ≤ a) (new : ObjOk P w (upd H a o) h' a o) : HOk P w (upd H a o) h' := fun b u e => by
  have hn := x.fresh hp
  by_cases hb : b = a
  · subst hb; rw [upd_same] at e; cases e; exact new
  · rw [upd_ne hb] at e
    exact (x b u e).stay (fun c v _ q => k c v q) (fun c q => by rw [upd_ne (ne_of_none q hn)]; exact q) (fun c y q => by rw [upd_ne (ne_of_none q hn)]; exact q) fun c xs q => by rw [upd_ne (ne_of_none q hn)]; exact q
end
def Rd (H : Hp) (a : Addr) (u : HO) : Prop := H a = some u ∨ ∃ o, H a = some (.frz o u)
theorem Rd.ok {P : Program} {w : World} {H : Hp} {h : Heap} {a : Addr} {u : HO} (r : Rd H a u) (x : HOk P w H h) : ObjOk P w H h a u := by
  rcases r with r | ⟨o, r⟩
  · exact x a u r
  · obtain ⟨_, q⟩ := x a _ r
    exact q
def Mut : Option HO → Prop
  | some (.lst _) => True
  | some (.dK _) => True
  | some (.dT _) => True
  | some (.set _ _) => True
  | some (.ins _ _ _) => True
  | some (.ext _) => True
  | _ => False
section
variable {P : Program} {w : World} {H : Hp} {h h' : Heap} {x e : Addr} {o' : HO}
theorem HOk.write (ok : HOk P w H h) (mu : Mut (H x)) (he : e = x ∨ H e = some (.own x)) (k : ∀ b u, b ≠ e → h.get? b = some u → h'.get? b = some u) (heo : ∃ u, h'.get? e = some u)
    (new : ObjOk P w (upd H x o') h' x o') : HOk P w (upd H x o') h' := fun b u q => by
  have nown : ∀ c y, H c = some (.own y) → c ≠ x := fun c y r z => by subst z; rw [r] at mu; exact mu
  have ntup : ∀ c xs, H c = some (.tup xs) → c ≠ x := fun c xs r z => by subst z; rw [r] at mu; exact mu
  have ncod : ∀ c y, H c = some (.cod y) → c ≠ x := fun c y r z => by subst z; rw [r] at mu; exact mu
  by_cases hb : b = x
  · subst hb; rw [upd_same] at q; cases q; exact new
  · rw [upd_ne hb] at q
    by_cases hbe : b = e
    · have q' : H b = some (.own x) := by
        rcases he with z | z
        · exact absurd (hbe.trans z) hb
        · rw [hbe]; exact z
      rw [q] at q'; cases q'
      obtain ⟨v, hv⟩ := heo
      exact ⟨v, by rw [hbe]; exact hv⟩
    · refine (ok b u q).stay (fun c v hc r => k c v ?_ r) (fun c r => by rw [upd_ne (nown c b r)]; exact r) (fun c y r => by rw [upd_ne (ncod c y r)]; exact r) fun c xs r => by rw [upd_ne (ntup c xs r)]; exact r
      rcases hc with rfl | hc
      · exact hbe
      · rintro rfl
        rcases he with z | z
        · exact nown c b hc z
        · rw [hc] at z; cases z; exact hb rfl
end
structure Un (fs ex : List Addr) (H H' : Hp) (h h' : Heap) : Prop where
  keep : ∀ b o, h.get? b = some o → H b = none → b ∉ fs → b ∉ ex → h'.get? b = some o
  slot : ∀ b o, h.get? b = some o → H b = none → b ∈ fs → b ∉ ex → ∃ sl, h'.get? b = some { o with slots := sl }
  free : ∀ b o, h.get? b = some o → H b = none → b ∉ ex → H' b = none
  there : ∀ b o, h.get? b = some o → b ∉ ex → ∃ o', h'.get? b = some o'
  tups : ∀ b xs, H b = some (.tup xs) → H' b = some (.tup xs)
  frzs : ∀ b o u, H b = some (.frz o u) → H' b = some (.frz o u)
  tbls : ∀ b ps, H b = some (.tbl ps) → ∃ more, H' b = some (.tbl (ps ++ more))
section
variable {fs fs' ex ex' : List Addr} {H H1 H2 : Hp} {h h1 h2 h' : Heap} {a x e : Addr} {o : HO}
theorem Un.any (u : Un fs ex H H1 h h1) {b : Addr} {ob : Obj} (q : h.get? b = some ob) (n : H b = none) (hx : b ∉ ex) : ∃ sl, h1.get? b = some { ob with slots := sl } := by
  by_cases hb : b ∈ fs
  · exact u.slot b ob q n hb hx
  · exact ⟨ob.slots, u.keep b ob q n hb hx⟩
theorem Un.trans (a : Un fs ex H H1 h h1) (b : Un fs ex H1 H2 h1 h2) : Un fs ex H H2 h h2 where
  keep := fun c ob q n hc hx => b.keep c ob (a.keep c ob q n hc hx) (a.free c ob q n hx) hc hx
  slot := fun c ob q n hc hx => by
    obtain ⟨sl, e1⟩ := a.slot c ob q n hc hx
    obtain ⟨sl', e2⟩ := b.slot c _ e1 (a.free c ob q n hx) hc hx
    exact ⟨sl', e2⟩
  free := fun c ob q n hx => by
    obtain ⟨o', e1⟩ := a.there c ob q hx
    exact b.free c o' e1 (a.free c ob q n hx) hx
  there := fun c ob q hx => by
    obtain ⟨o', e1⟩ := a.there c ob q hx
    exact b.there c o' e1 hx
  tups := fun c xs q => b.tups c xs (a.tups c xs q)
  frzs := fun c ob xs q => b.frzs c ob xs (a.frzs c ob xs q)
  tbls := fun c ps q => by
    obtain ⟨m1, e1⟩ := a.tbls c ps q
    obtain ⟨m2, e2⟩ := b.tbls c _ e1
    exact ⟨m1 ++ m2, by rw [e2, Array.append_assoc]⟩
theorem Un.kept (k : ∀ b u, h.get? b = some u → h'.get? b = some u) : Un fs ex H H h h' :=
  ⟨fun b ob q _ _ _ => k b ob q, fun b ob q _ _ _ => ⟨ob.slots, k b ob q⟩, fun _ _ _ n _ => n, fun b ob q _ => ⟨ob, k b ob q⟩, fun _ _ q => q, fun _ _ _ q => q, fun _ ps q => ⟨#[], by rw [q]; simp⟩⟩
theorem Un.refl : Un fs ex H H h h := Un.kept fun _ _ q => q
theorem Un.laid (k : ∀ b u, h.get? b = some u → h'.get? b = some u) (hp : h.objs.size ≤ a) (hn : H a = none) : Un fs ex H (upd H a o) h h' where
  keep := fun b u q _ _ _ => k b u q
  slot := fun b u q _ _ _ => ⟨u.slots, k b u q⟩
  free := fun b u q n _ => by rw [upd_ne (Nat.ne_of_lt (Nat.lt_of_lt_of_le (Heap.lt_size q) hp))]; exact n
  there := fun b u q _ => ⟨u, k b u q⟩
  tups := fun b xs q => by rw [upd_ne (ne_of_none q hn)]; exact q
  frzs := fun b u xs q => by rw [upd_ne (ne_of_none q hn)]; exact q
  tbls := fun b ps q => ⟨#[], by rw [upd_ne (ne_of_none q hn), q]; simp⟩
theorem Un.write (mu : Mut (H x)) (he : e = x ∨ H e = some (.own x)) (k : ∀ b u, b ≠ e → h.get? b = some u → h'.get? b = some u) (heo : ∃ u, h'.get? e = some u) : Un fs ex H (upd H x o) h h' := by
  have hx : ∀ b, H b = none → b ≠ x := fun b n z => by subst z; rw [n] at mu; exact mu
  have hb : ∀ b, H b = none → b ≠ e := fun b n z => by
    subst z
    rcases he with r | r
    · exact hx b n r
    · rw [n] at r; cases r
  have hm : ∀ b u, H b = some u → ¬ Mut (some u) → b ≠ x := fun b u q nm z => by subst z; rw [q] at mu; exact nm mu
  refine ⟨fun b u q n _ _ => k b u (hb b n) q, fun b u q n _ _ => ⟨u.slots, k b u (hb b n) q⟩, fun b u q n _ => by rw [upd_ne (hx b n)]; exact n, fun b u q _ => ?_,
    fun b xs q => by rw [upd_ne (hm b _ q fun z => z)]; exact q, fun b u xs q => by rw [upd_ne (hm b _ q fun z => z)]; exact q, fun b ps q => ⟨#[], by rw [upd_ne (hm b _ q fun z => z), q]; simp⟩⟩
  by_cases hbe : b = e
  · subst hbe; exact heo
  · exact ⟨u, k b u hbe q⟩
end
def trk (h : Heap) (H : Hp) : List Addr := (List.range h.objs.size).filter fun a => (H a).isSome
def hidT (h : Heap) (H : Hp) : Heap := PySem.W.hideAll h (trk h H)
theorem hidT_size (h : Heap) (H : Hp) : (hidT h H).objs.size = h.objs.size := PySem.W.hideAll_size _ _
theorem hidT_get {h : Heap} {H : Hp} {b : Addr} {o : Obj} (e : h.get? b = some o) (n : H b = none) : (hidT h H).get? b = some o :=
  PySem.W.hideAll_get _ e fun hm => by
    have q : (H b).isSome = true := (List.mem_filter.mp hm).2
    rw [n] at q; simp at q
theorem of_hidT {h : Heap} {H : Hp} {b : Addr} {o : Obj} (e : (hidT h H).get? b = some o) : h.get? b = some o ∧ H b = none := by
  have e' : h.get? b = some o := PySem.W.of_hideAll (trk h H) e
  refine ⟨e', ?_⟩
  cases q : H b with
  | none => rfl
  | some x =>
    have hm : b ∈ trk h H := List.mem_filter.mpr ⟨List.mem_range.mpr (Heap.lt_size e'), by simp [q]⟩
    have z : (hidT h H).get? b = none := PySem.W.hideAll_none (trk h H) hm
    rw [z] at e; cases e
def allNews (g h : Heap) (L : Addr) : List (Addr × Obj) := (List.range h.objs.size).filterMap fun a => if a = L ∨ (g.get? a).isSome = true then none else (h.get? a).map fun o => (a, o)
def rest (g h : Heap) (L d : Addr) : List (Addr × Obj) := (allNews g h L).filter fun p => decide (p.1 ≠ d)
end L2
namespace L2
open PySem PySem.Spec PyProof.Rows
structure Mod (K : PySem.W.Frag) (mg : Str → Option Value) (base : Heap) : Prop where
  kin : K.In base
  glob : base.Ns mainGlobals mg
  blt : ∃ mb, base.Ns builtinsNs mb ∧ ∀ x : Str, x ≠ "__name__" → mb x = bootBuiltins x
  nolimit : base.NoLimit
structure Cx where
  prog : Program
  w : World
  K : PySem.W.Frag
  mg : Str → Option Value
  base : Heap
  A : Around
  N : List Str
  s₀ : Shared
  H₀ : Hp
  env : Env
  outer : List Env
  stack : List Env
  ex : List Addr
  fn : Str → Bool
  calm : Bool
  pn : List (Addr × Obj)
  xe : Value → Shared → Prop
def frs (l : List Env) : List Addr := l.filterMap (·.frame)
abbrev Cx.fs (X : Cx) : List Addr := frs X.outer
def Vis (sc : Scope) (x : Str) : Prop := sc.names.lookup x = some .local ∨ sc.names.lookup x = some .cell ∨ sc.names.lookup x = some .free
def Loc (sc : Scope) (x : Str) : Prop := sc.names.lookup x = some .local ∨ sc.names.lookup x = some .cell
def Look (env : Env) (h : Heap) (m : Str → Option Value) (x : Str) (u : Value) : Prop :=
  (env.kindOf x = some .local ∧ m x = some u) ∨ ((env.kindOf x = some .cell ∨ env.kindOf x = some .free) ∧ ∃ c, env.cells.lookup x = some c ∧ h.IsCell c (some u))
structure Cx.Ok (X : Cx) : Prop where
  mod : Mod X.K X.mg X.base
  kind : X.env.scope.kind = .function
  glob : X.env.globals = mainGlobals
  blt : X.env.builtins = builtinsNs
  above : X.s₀.heap.objs.size ≤ X.env.locals
  inj : ∀ x y c, X.env.cells.lookup x = some c → X.env.cells.lookup y = some c → x = y
  has : ∀ x, (X.env.kindOf x = some .cell ∨ X.env.kindOf x = some .free) → ∃ c, X.env.cells.lookup x = some c
  cab : ∀ x c, X.fn x = true → X.env.cells.lookup x = some c → X.s₀.heap.objs.size ≤ c
  hd : X.calm = true → X.A.handled = none
  frames : X.A.frames = some X.stack
  stk : X.stack = X.outer ∨ (X.stack = X.env :: X.outer ∧ X.env.frame = some X.env.locals)
  exf : ∀ b ∈ X.ex, b ≠ X.env.locals ∧ ∀ x c, X.env.cells.lookup x = some c → c ≠ b
  bs : ∀ b o, X.base.get? b = some o → X.s₀.heap.get? b = some o ∧ X.H₀ b = none
  bsz : X.base.objs.size ≤ X.s₀.heap.objs.size
  noex : ∀ b o, X.base.get? b = some o → b ∉ X.ex
  exfs : ∀ b ∈ X.ex, b ∉ X.fs
  funs : X.s₀.heap.FunFrames X.base X.outer
  frf : ∀ b ∈ X.fs, X.H₀ b = none
structure Inv (X : Cx) (pins : List (Addr × Obj)) (σ : List (Option V)) (H : Hp) (s : Shared) : Prop where
  ok : X.Ok
  os : s.os = X.s₀.os
  bare : AllBare s.gens
  base : Un X.fs X.ex X.H₀ H X.s₀.heap s.heap
  loc : ∃ m, s.heap.Ns X.env.locals m ∧ ∀ (i : Nat) (x : Str) (v : V), X.N[i]? = some x → σ[i]? = some (some v) → Vis X.env.scope x → ∃ u, RelV v u ∧ Look X.env s.heap m x u
  cell : ∀ x c, X.env.cells.lookup x = some c → ∃ v, s.heap.IsCell c v
  free : H X.env.locals = none
  freeC : ∀ x c, X.env.cells.lookup x = some c → H c = none
  pin : ∀ p ∈ X.pn ++ pins, s.heap.get? p.1 = some p.2 ∧ H p.1 = none ∧ p.1 ≠ X.env.locals ∧ p.1 ∉ X.fs ∧ ∀ v, p.2.data ≠ .cell v
  hok : HOk X.prog X.w H s.heap
  len : σ.length = X.N.length
section
variable {X : Cx} {pins : List (Addr × Obj)} {σ : List (Option V)} {H H' : Hp} {s : Shared} {h' : Heap}
theorem Cx.Ok.nofr (ok : X.Ok) {b : Addr} {o : Obj} (e : X.base.get? b = some o) : b ∉ X.fs := fun hb => by
  have := (ok.funs.mem hb).1
  rw [e] at this; cases this
theorem Inv.bs (I : Inv X pins σ H s) : ∀ b o, X.base.get? b = some o → s.heap.get? b = some o ∧ H b = none := fun b o e =>
  ⟨I.base.keep b o (I.ok.bs b o e).1 (I.ok.bs b o e).2 (I.ok.nofr e) (I.ok.noex b o e), I.base.free b o (I.ok.bs b o e).1 (I.ok.bs b o e).2 (I.ok.noex b o e)⟩
theorem Inv.bk (I : Inv X pins σ H s) : ∀ b o, X.base.get? b = some o → s.heap.get? b = some o := fun b o e => (I.bs b o e).1
theorem Inv.mod (I : Inv X pins σ H s) : Mod X.K X.mg X.base := I.ok.mod
theorem Inv.kIn (I : Inv X pins σ H s) : X.K.In s.heap := I.ok.mod.kin.keeps I.bk
theorem Inv.lt (I : Inv X pins σ H s) : X.env.locals < s.heap.objs.size := let ⟨_, hn, _⟩ := I.loc; hn.lt
theorem Inv.sz (I : Inv X pins σ H s) : X.s₀.heap.objs.size ≤ s.heap.objs.size := Nat.le_trans I.ok.above (Nat.le_of_lt I.lt)
theorem Inv.nofs (I : Inv X pins σ H s) {a : Addr} (h : s.heap.objs.size ≤ a) : a ∉ X.fs := fun hb => by
  obtain ⟨_, o, ho, _⟩ := I.ok.funs.mem hb
  exact absurd (Nat.lt_of_lt_of_le (Heap.lt_size ho) (Nat.le_trans I.sz h)) (Nat.lt_irrefl _)
theorem Inv.cne (I : Inv X pins σ H s) : ∀ x c, X.env.cells.lookup x = some c → c ≠ X.env.locals := fun x c e z => by
  obtain ⟨v, o, ho, hd⟩ := I.cell x c e
  obtain ⟨m, ⟨o', es, ep, ho', hd', _⟩, _⟩ := I.loc
  rw [z, ho'] at ho; cases ho; rw [hd'] at hd; cases hd
theorem Inv.funs (I : Inv X pins σ H s) : s.heap.FunFrames X.base X.outer := by
  have all : ∀ (l : List Env), (∀ b ∈ frs l, b ∈ X.fs) → X.s₀.heap.FunFrames X.base l → s.heap.FunFrames X.base l := by
    intro l
    induction l with
    | nil => intro _ _; trivial
    | cons env r ih =>
      intro hs hl
      obtain ⟨hk, ⟨L, o, hf, hn, ho, hd⟩, hr⟩ := hl
      have hL : L ∈ X.fs := hs L (by unfold frs; rw [List.filterMap_cons, hf]; exact List.mem_cons_self)
      obtain ⟨sl, e⟩ := I.base.slot L o ho (I.ok.frf L hL) hL fun z => I.ok.exfs L z hL
      exact ⟨hk, ⟨L, _, hf, hn, e, hd⟩, ih (fun b hb => hs b (by unfold frs; rw [List.filterMap_cons, hf]; exact List.mem_cons_of_mem _ hb)) hr⟩
  exact all X.outer (fun _ hb => hb) I.ok.funs
theorem Inv.stack (I : Inv X pins σ H s) : s.heap.FunFrames X.base X.stack := by
  rcases I.ok.stk with e | ⟨e, hf⟩
  · rw [e]; exact I.funs
  · rw [e]
    obtain ⟨m, hn, _⟩ := I.loc
    refine .cons (by rw [I.ok.kind]; decide) hf hn ?_ I.funs
    exact Heap.get?_none_of_le (Nat.le_trans I.ok.bsz I.ok.above)
theorem Inv.stkSub (I : Inv X pins σ H s) : ∀ b ∈ frs X.stack, b ∈ X.env.locals :: X.fs := fun b hb => by
  rcases I.ok.stk with e | ⟨e, hf⟩
  · rw [e] at hb; exact List.mem_cons_of_mem _ hb
  · rw [e] at hb
    unfold frs at hb
    rw [List.filterMap_cons, hf] at hb
    exact hb
theorem Inv.stkFree (I : Inv X pins σ H s) : ∀ b ∈ frs X.stack, H b = none := fun b hb => by
  rcases List.mem_cons.mp (I.stkSub b hb) with e | hb
  · rw [e]; exact I.free
  · obtain ⟨_, o, ho, _⟩ := I.ok.funs.mem hb
    exact I.base.free b o ho (I.ok.frf b hb) fun z => I.ok.exfs b z hb
theorem Inv.step {g' : Array GenState} {t' : Nat} {d' : Drawn} {ch : List Addr} (I : Inv X pins σ H s)
    (hch : ∀ b ∈ ch, (b ∈ X.ex ∨ X.s₀.heap.objs.size ≤ b) ∧ b ≠ X.env.locals ∧ (∀ x c, X.env.cells.lookup x = some c → c ≠ b) ∧ ∀ p ∈ X.pn ++ pins, p.1 ≠ b)
    (keep : ∀ b o, b ≠ X.env.locals → b ∉ X.fs → b ∉ ch → s.heap.get? b = some o → H b = none → h'.get? b = some o)
    (slot : ∀ b o, b ≠ X.env.locals → b ∈ X.fs → b ∉ ch → s.heap.get? b = some o → H b = none → ∃ sl, h'.get? b = some { o with slots := sl }) (free : ∀ b o, b ∉ ch → s.heap.get? b = some o → H b = none → H' b = none)
    (there : ∀ b o, b ∉ ch → s.heap.get? b = some o → ∃ o', h'.get? b = some o')
    (tups : ∀ b xs, H b = some (.tup xs) → H' b = some (.tup xs)) (frzs : ∀ b o u, H b = some (.frz o u) → H' b = some (.frz o u)) (tbls : ∀ b ps, H b = some (.tbl ps) → ∃ more, H' b = some (.tbl (ps ++ more)))
    (ns : ∀ m, s.heap.Ns X.env.locals m → h'.Ns X.env.locals m) (hok : HOk X.prog X.w H' h') (hg : AllBare g') :
    Inv X pins σ H' { s with heap := h', gens := g', drawn := d', toks := t' } := by
  have neL : ∀ b o, X.s₀.heap.get? b = some o → b ≠ X.env.locals := fun b o e => Nat.ne_of_lt (Nat.lt_of_lt_of_le (Heap.lt_size e) I.ok.above)
  have neC : ∀ b o, X.s₀.heap.get? b = some o → b ∉ X.ex → b ∉ ch := fun b o e hx hb => by
    rcases (hch b hb).1 with z | z
    · exact hx z
    · exact absurd (Nat.lt_of_lt_of_le (Heap.lt_size e) z) (Nat.lt_irrefl _)
  have cellK : ∀ x c, X.env.cells.lookup x = some c → ∀ v, s.heap.IsCell c v → h'.IsCell c v := fun x c e v ⟨o, ho, hd⟩ => by
    have nch : c ∉ ch := fun z => (hch c z).2.2.1 x c e rfl
    by_cases hc : c ∈ X.fs
    · obtain ⟨sl, q⟩ := slot c o (I.cne x c e) hc nch ho (I.freeC x c e)
      exact ⟨_, q, hd⟩
    · exact ⟨o, keep c o (I.cne x c e) hc nch ho (I.freeC x c e), hd⟩
  refine ⟨I.ok, I.os, hg, ⟨fun b o e n hb hx => ?_, fun b o e n hb hx => ?_, fun b o e n hx => ?_, fun b o e hx => ?_, fun b xs e => tups b xs (I.base.tups b xs e), fun b o xs e => frzs b o xs (I.base.frzs b o xs e), fun b ps e => ?_⟩, ?_, fun x c e => ?_, ?_, fun x c e => ?_, fun p hp => ?_, hok, I.len⟩
  · exact keep b o (neL b o e) hb (neC b o e hx) (I.base.keep b o e n hb hx) (I.base.free b o e n hx)
  · obtain ⟨sl, e1⟩ := I.base.slot b o e n hb hx
    obtain ⟨sl', e2⟩ := slot b _ (neL b o e) hb (neC b o e hx) e1 (I.base.free b o e n hx)
    exact ⟨sl', e2⟩
  · obtain ⟨o', e1⟩ := I.base.there b o e hx
    exact free b o' (neC b o e hx) e1 (I.base.free b o e n hx)
  · obtain ⟨o', e1⟩ := I.base.there b o e hx
    exact there b o' (neC b o e hx) e1
  · obtain ⟨m1, e1⟩ := I.base.tbls b ps e
    obtain ⟨m2, e2⟩ := tbls b _ e1
    exact ⟨m1 ++ m2, by rw [e2, Array.append_assoc]⟩
  · obtain ⟨m, hn, hl⟩ := I.loc
    refine ⟨m, ns m hn, fun i x v e1 e2 e3 => ?_⟩
    obtain ⟨u, r, l⟩ := hl i x v e1 e2 e3
    refine ⟨u, r, ?_⟩
    rcases l with l | ⟨k, c, e, z⟩
    · exact .inl l
    · exact .inr ⟨k, c, e, cellK x c e _ z⟩
  · obtain ⟨v, z⟩ := I.cell x c e
    exact ⟨v, cellK x c e v z⟩
  · obtain ⟨m, ⟨o, _, _, ho, _⟩, _⟩ := I.loc
    exact free _ o (fun z => (hch _ z).2.1 rfl) ho I.free
  · obtain ⟨v, o, ho, hd⟩ := I.cell x c e
    exact free c o (fun z => (hch c z).2.2.1 x c e rfl) ho (I.freeC x c e)
  · obtain ⟨e, n, ne, nf, d⟩ := I.pin p hp
    have nch : p.1 ∉ ch := fun z => (hch p.1 z).2.2.2 p hp rfl
    exact ⟨keep p.1 p.2 ne nf nch e n, free p.1 p.2 nch e n, ne, nf, d⟩
theorem Inv.un {t' : Nat} (I : Inv X pins σ H s) (u : Un X.fs [] H H' s.heap h') (hok : HOk X.prog X.w H' h') : Inv X pins σ H' { s with heap := h', toks := t' } := by
  obtain ⟨m, ⟨o, es, ep, ho, r⟩, _⟩ := id I.loc
  obtain ⟨sl, hL⟩ := u.any ho I.free (by simp)
  exact I.step (g' := s.gens) (d' := s.drawn) (ch := []) (fun _ z => nomatch z) (fun b o _ hb _ e n => u.keep b o e n hb (by simp)) (fun b o _ hb _ e n => u.slot b o e n hb (by simp)) (fun b o _ e n => u.free b o e n (by simp)) (fun b o _ e => u.there b o e (by simp)) u.tups u.frzs u.tbls (fun m' hm => by
    obtain ⟨o', es', ep', ho', r'⟩ := hm
    rw [ho] at ho'; cases ho'
    exact ⟨_, es', ep', hL, r'⟩) hok I.bare
theorem Inv.call {g' : Array GenState} {t' : Nat} {d' : Drawn} {ch : List Addr} (I : Inv X pins σ H s) (u : Un (frs X.stack) ch H H' s.heap h') (hok : HOk X.prog X.w H' h') (hg : AllBare g')
    (hch : ∀ b ∈ ch, (b ∈ X.ex ∨ X.s₀.heap.objs.size ≤ b) ∧ b ≠ X.env.locals ∧ (∀ x c, X.env.cells.lookup x = some c → c ≠ b) ∧ ∀ p ∈ X.pn ++ pins, p.1 ≠ b) :
    Inv X pins σ H' { s with heap := h', gens := g', drawn := d', toks := t' } := by
  obtain ⟨m, ⟨o, es, ep, ho, r⟩, _⟩ := id I.loc
  obtain ⟨sl, hL⟩ := u.any ho I.free fun z => (hch _ z).2.1 rfl
  exact I.step (ch := ch) hch (fun b o hL hb hc e n => u.keep b o e n (fun z => (List.mem_cons.mp (I.stkSub b z)).elim hL hb) hc) (fun b o _ _ hc e n => u.any e n hc) (fun b o hc e n => u.free b o e n hc) (fun b o hc e => u.there b o e hc) u.tups u.frzs u.tbls (fun m' hm => by
    obtain ⟨o', es', ep', ho', r'⟩ := hm
    rw [ho] at ho'; cases ho'
    exact ⟨_, es', ep', hL, r'⟩) hok hg
theorem Inv.turned {t' : Nat} {it : Addr} (I : Inv X pins σ H s) (k : ∀ b o, b ≠ it → s.heap.get? b = some o → h'.get? b = some o) (hn : H it = none) (hL : it ≠ X.env.locals)
    (h1 : it ∈ X.ex ∨ X.s₀.heap.objs.size ≤ it) (h2 : ∀ x c, X.env.cells.lookup x = some c → c ≠ it) (h3 : ∀ p ∈ X.pn ++ pins, p.1 ≠ it) : Inv X pins σ H { s with heap := h', toks := t' } := by
  have nit : ∀ b u, H b = some u → b ≠ it := fun b u e z => by rw [z, hn] at e; cases e
  refine I.step (g' := s.gens) (d' := s.drawn) (ch := [it]) (fun b hb => ?_) (fun b o _ _ hc e _ => k b o (fun z => hc (by simp [z])) e) (fun b o _ _ hc e _ => ⟨o.slots, k b o (fun z => hc (by simp [z])) e⟩) (fun _ _ _ _ n => n)
    (fun b o hc e => ⟨o, k b o (fun z => hc (by simp [z])) e⟩) (fun _ _ e => e) (fun _ _ _ e => e) (fun b ps e => ⟨#[], by rw [e]; simp⟩) (fun m hm => ?_) (fun b u e => ?_) I.bare
  · have e : b = it := by simpa using hb
    subst e
    exact ⟨h1, hL, h2, h3⟩
  · obtain ⟨o, es, ep, ho, r⟩ := hm
    exact ⟨o, es, ep, k _ o (Ne.symm hL) ho, r⟩
  · refine (I.hok b u e).stay (fun c v hc q => k c v ?_ q) (fun _ q => q) (fun _ _ q => q) fun _ _ q => q
    rcases hc with z | z
    · rw [z]; exact nit b u e
    · exact nit c _ z
theorem Inv.tok (I : Inv X pins σ H s) (t : Nat) : Inv X pins σ H { s with toks := t } := I.un (h' := s.heap) (t' := t) Un.refl I.hok
theorem Inv.kept {t' : Nat} (I : Inv X pins σ H s) (k : ∀ b u, s.heap.get? b = some u → h'.get? b = some u) : Inv X pins σ H { s with heap := h', toks := t' } := I.un (Un.kept k) (I.hok.kept k)
theorem Inv.laid {a : Addr} {o : HO} {t' : Nat} (I : Inv X pins σ H s) (k : ∀ b u, s.heap.get? b = some u → h'.get? b = some u) (hp : s.heap.objs.size ≤ a) (new : ObjOk X.prog X.w (upd H a o) h' a o) :
    Inv X pins σ (upd H a o) { s with heap := h', toks := t' } := I.un (Un.laid k hp (I.hok.fresh hp)) (I.hok.laid k hp new)
theorem Inv.write {x e : Addr} {o : HO} {t' : Nat} (I : Inv X pins σ H s) (mu : Mut (H x)) (he : e = x ∨ H e = some (.own x)) (k : ∀ b u, b ≠ e → s.heap.get? b = some u → h'.get? b = some u) (heo : ∃ u, h'.get? e = some u)
    (new : ObjOk X.prog X.w (upd H x o) h' x o) : Inv X pins σ (upd H x o) { s with heap := h', toks := t' } := I.un (Un.write mu he k heo) (I.hok.write mu he k heo new)
theorem Inv.weak {σ' : List (Option V)} (I : Inv X pins σ H s) (hl : σ'.length = σ.length) (w : ∀ (i : Nat) v, σ'[i]? = some (some v) → σ[i]? = some (some v)) : Inv X pins σ' H s :=
  ⟨I.ok, I.os, I.bare, I.base, let ⟨m, hn, hl'⟩ := I.loc; ⟨m, hn, fun i x v e1 e2 e3 => hl' i x v e1 (w i v e2) e3⟩, I.cell, I.free, I.freeC, I.pin, I.hok, hl.trans I.len⟩
theorem Inv.pins_of {pins' : List (Addr × Obj)} (I : Inv X pins σ H s) (h : ∀ p ∈ pins', s.heap.get? p.1 = some p.2 ∧ H p.1 = none ∧ p.1 ≠ X.env.locals ∧ p.1 ∉ X.fs ∧ ∀ v, p.2.data ≠ .cell v) : Inv X pins' σ H s :=
  ⟨I.ok, I.os, I.bare, I.base, I.loc, I.cell, I.free, I.freeC, fun p hp => (List.mem_append.mp hp).elim (fun z => I.pin p (List.mem_append_left _ z)) (h p), I.hok, I.len⟩
theorem nodup_ix {N : List Str} (hN : N.Nodup) {i j : Nat} {x : Str} (a : N[i]? = some x) (b : N[j]? = some x) : i = j := by
  obtain ⟨h1, e1⟩ := List.getElem?_eq_some_iff.mp a
  obtain ⟨h2, e2⟩ := List.getElem?_eq_some_iff.mp b
  exact (List.getElem_inj hN).mp (e1.trans e2.symm)
theorem store_ok2 {M : Model} {A : Around} {E : Value → Shared → Prop} {i : Nat} {x : Str} {v : V} {u : Value} {Q : Unit → Shared → Prop} (I : Inv X pins σ H s) (hN : X.N.Nodup) (hi : X.N[i]? = some x) (hx : Loc X.env.scope x) (r : RelV v u)
    (h : ∀ s', Inv X pins (σ.set i (some v)) H s' → (∃ a, Heap.SameBut a s.heap s'.heap ∧ (a = X.env.locals ∨ X.env.cells.lookup x = some a)) → Q () s') (hf : X.fn x = true ∨ X.env.scope.names.lookup x = some .local := by first | exact .inl rfl | exact .inr rfl | assumption) : wpAny M A (storeName X.env x u) Q E s := by
  obtain ⟨m, hn, hl⟩ := id I.loc
  have hcls : (X.env.scope.kind == .class || (X.env.scope.kind == .module && X.env.locals != X.env.globals)) = false := by rw [I.ok.kind]; rfl
  have hiσ : i < σ.length := by rw [I.len]; exact (List.getElem?_eq_some_iff.mp hi).1
  have cne := I.cne
  have tracked : ∀ {a : Addr} {h' : Heap}, (∃ o, s.heap.get? a = some o ∧ H a = none) → Heap.SameBut a s.heap h' → HOk X.prog X.w H h' := fun {a h'} ha hs b ob e => by
    obtain ⟨_, _, hfree⟩ := ha
    refine (I.hok b ob e).stay (fun c w' hc q => (hs.2 c ?_).trans q) (fun _ q => q) (fun _ _ q => q) fun _ _ q => q
    rintro rfl
    rcases hc with rfl | hc
    · rw [hfree] at e; cases e
    · rw [hfree] at hc; cases hc
  rcases hx with hk | hk
  · refine wpAny_storeName_local hk hn (fun h' hn' hs => ?_) hcls
    obtain ⟨oL, _, _, hoL, _⟩ := id hn
    refine h _ ⟨I.ok, I.os, I.bare, ⟨fun b o e n hb hx => ?_, fun b o e n hb hx => ?_, I.base.free, fun b o e hx => ?_, I.base.tups, I.base.frzs, I.base.tbls⟩, ⟨_, hn', fun j y v' e1 e2 e3 => ?_⟩, fun y c e => ?_, I.free, I.freeC, fun p hp => ?_, tracked ⟨oL, hoL, I.free⟩ hs, by simpa using I.len⟩ ⟨_, hs, .inl rfl⟩
    · exact (hs.2 b (Nat.ne_of_lt (Nat.lt_of_lt_of_le (Heap.lt_size e) I.ok.above))).trans (I.base.keep b o e n hb hx)
    · obtain ⟨sl, e1⟩ := I.base.slot b o e n hb hx
      exact ⟨sl, (hs.2 b (Nat.ne_of_lt (Nat.lt_of_lt_of_le (Heap.lt_size e) I.ok.above))).trans e1⟩
    · obtain ⟨o', e1⟩ := I.base.there b o e hx
      exact ⟨o', (hs.2 b (Nat.ne_of_lt (Nat.lt_of_lt_of_le (Heap.lt_size e) I.ok.above))).trans e1⟩
    · by_cases hj : j = i
      · subst hj
        rw [hi] at e1; cases e1
        rw [List.getElem?_set_self hiσ] at e2
        cases e2
        exact ⟨u, r, .inl ⟨hk, by simp⟩⟩
      · rw [List.getElem?_set_ne (Ne.symm hj)] at e2
        obtain ⟨u', r', q⟩ := hl j y v' e1 e2 e3
        refine ⟨u', r', ?_⟩
        rcases q with ⟨k, e⟩ | ⟨k, c, e, z⟩
        · refine .inl ⟨k, ?_⟩
          have : y ≠ x := fun e => hj (nodup_ix hN e1 (e ▸ hi))
          simp [this, e]
        · exact .inr ⟨k, c, e, z.sameBut hs (cne y c e)⟩
    · obtain ⟨w', z⟩ := I.cell y c e
      exact ⟨w', z.sameBut hs (cne y c e)⟩
    · obtain ⟨e, n, ne, nf, d⟩ := I.pin p hp
      exact ⟨(hs.2 p.1 ne).trans e, n, ne, nf, d⟩
  · have hfn : X.fn x = true := by
      rcases hf with z | z
      · exact z
      · rw [z] at hk; cases hk
    obtain ⟨c, hc⟩ := I.ok.has x (.inl hk)
    obtain ⟨w', z⟩ := I.cell x c hc
    refine wpAny_storeName_cell I.ok.kind hk hc z (fun h' hc' hs => ?_)
    obtain ⟨oc, hoc, hocd⟩ := id z
    refine h { s with heap := h' } ⟨I.ok, I.os, I.bare, ⟨fun b o e n hb hx => ?_, fun b o e n hb hx => ?_, I.base.free, fun b o e hx => ?_, I.base.tups, I.base.frzs, I.base.tbls⟩, ⟨m, hn.sameBut hs (Ne.symm (cne x c hc)), fun j y v' e1 e2 e3 => ?_⟩, fun y c' e => ?_, I.free, I.freeC, fun p hp => ?_, tracked ⟨oc, hoc, I.freeC x c hc⟩ hs, by simpa using I.len⟩ ⟨c, hs, .inr hc⟩
    · exact (hs.2 b (Nat.ne_of_lt (Nat.lt_of_lt_of_le (Heap.lt_size e) (I.ok.cab x c hfn hc)))).trans (I.base.keep b o e n hb hx)
    · obtain ⟨sl, e1⟩ := I.base.slot b o e n hb hx
      exact ⟨sl, (hs.2 b (Nat.ne_of_lt (Nat.lt_of_lt_of_le (Heap.lt_size e) (I.ok.cab x c hfn hc)))).trans e1⟩
    · obtain ⟨o', e1⟩ := I.base.there b o e hx
      exact ⟨o', (hs.2 b (Nat.ne_of_lt (Nat.lt_of_lt_of_le (Heap.lt_size e) (I.ok.cab x c hfn hc)))).trans e1⟩
    · by_cases hj : j = i
      · subst hj
        rw [hi] at e1; cases e1
        rw [List.getElem?_set_self hiσ] at e2
        cases e2
        exact ⟨u, r, .inr ⟨.inl hk, c, hc, hc'⟩⟩
      · rw [List.getElem?_set_ne (Ne.symm hj)] at e2
        obtain ⟨u', r', q⟩ := hl j y v' e1 e2 e3
        refine ⟨u', r', ?_⟩
        rcases q with q | ⟨k, c', e, z'⟩
        · exact .inl q
        · refine .inr ⟨k, c', e, z'.sameBut hs ?_⟩
          rintro rfl
          exact hj (nodup_ix hN e1 (I.ok.inj _ _ _ e hc ▸ hi))
    · by_cases hcc : c' = c
      · subst hcc; exact ⟨_, hc'⟩
      · obtain ⟨w2, z2⟩ := I.cell y c' e
        exact ⟨w2, z2.sameBut hs hcc⟩
    · obtain ⟨e, n, ne, nf, d⟩ := I.pin p hp
      refine ⟨(hs.2 p.1 ?_).trans e, n, ne, nf, d⟩
      intro q
      rw [q, hoc] at e
      have q' : oc = p.2 := Option.some.inj e
      exact d w' (by rw [← q']; exact hocd)
theorem store_ok {M : Model} {A : Around} {E : Value → Shared → Prop} {i : Nat} {x : Str} {v : V} {u : Value} {Q : Unit → Shared → Prop} (I : Inv X pins σ H s) (hN : X.N.Nodup) (hi : X.N[i]? = some x) (hx : Loc X.env.scope x) (r : RelV v u)
    (h : ∀ s', Inv X pins (σ.set i (some v)) H s' → Q () s') (hf : X.fn x = true ∨ X.env.scope.names.lookup x = some .local := by first | exact .inl rfl | exact .inr rfl | assumption) : wpAny M A (storeName X.env x u) Q E s :=
  store_ok2 I hN hi hx r (fun s' I' _ => h s' I') hf
theorem Inv.call' {s' : Shared} {ch : List Addr} (I : Inv X pins σ H s) (ho : s'.os = s.os) (u : Un (frs X.stack) ch H H' s.heap s'.heap) (hok : HOk X.prog X.w H' s'.heap) (hg : AllBare s'.gens)
    (hch : ∀ b ∈ ch, (b ∈ X.ex ∨ X.s₀.heap.objs.size ≤ b) ∧ b ≠ X.env.locals ∧ (∀ x c, X.env.cells.lookup x = some c → c ≠ b) ∧ ∀ p ∈ X.pn ++ pins, p.1 ≠ b) : Inv X pins σ H' s' := by
  obtain ⟨h', g', d', t', o'⟩ := s'
  have e : o' = s.os := ho
  subst e
  exact I.call (g' := g') (t' := t') (d' := d') u hok hg hch
end
abbrev XK := Value → Option Addr → Hp → Prop
abbrev St := List (Option V)
abbrev VK := V → Hp → Prop
abbrev TE := St → Hp → VK → Prop
abbrev TT := St → Hp → (Bool → Hp → Prop) → Prop
abbrev TA := St → Hp → (List V → Hp → Prop) → Prop
structure Ends where
  nx : St → Hp → Prop
  rt : VK
  bk : St → Hp → Prop := fun _ _ => False
  ct : St → Hp → Prop := fun _ _ => False
abbrev TS := Ends → St → Hp → Prop
def EP (X : Cx) (pins : List (Addr × Obj)) (σ : St) (Q : VK) (u : Value) (s' : Shared) : Prop := ∃ v H', Inv X pins σ H' s' ∧ RelV v u ∧ Q v H'
def TP (X : Cx) (pins : List (Addr × Obj)) (σ : St) (Q : Bool → Hp → Prop) (b : Bool) (s' : Shared) : Prop := ∃ H', Inv X pins σ H' s' ∧ Q b H'
def AP (X : Cx) (pins : List (Addr × Obj)) (σ : St) (Q : List V → Hp → Prop) (us : List Value) (s' : Shared) : Prop := ∃ vs H', Inv X pins σ H' s' ∧ Vals vs us ∧ Q vs H'
def SP (X : Cx) (pins : List (Addr × Obj)) (D : Ends) (f : Flow) (s' : Shared) : Prop :=
  match f with
  | .next => ∃ σ' H', Inv X pins σ' H' s' ∧ D.nx σ' H'
  | .brk => ∃ σ' H', Inv X pins σ' H' s' ∧ D.bk σ' H'
  | .cont => ∃ σ' H', Inv X pins σ' H' s' ∧ D.ct σ' H'
  | .ret u => ∃ v σ' H', Inv X pins σ' H' s' ∧ RelV v u ∧ D.rt v H'
def PE (X : Cx) (e : Expr) (t : TE) : Prop :=
  ∀ (pins : List (Addr × Obj)) (s : Shared) (σ : St) (H : Hp) (Q : VK), Inv X pins σ H s → t σ H Q → wpAny (model X.prog X.w) X.A (eval e X.env) (EP X pins σ Q) X.xe s
def PT (X : Cx) (e : Expr) (t : TT) : Prop :=
  ∀ (pins : List (Addr × Obj)) (s : Shared) (σ : St) (H : Hp) (Q : Bool → Hp → Prop), Inv X pins σ H s → t σ H Q → wpAny (model X.prog X.w) X.A (isTrue e X.env (eval e X.env)) (TP X pins σ Q) X.xe s
def PW (X : Cx) (e : Expr) (t : TT) : Prop :=
  ∀ (whole : Sem Value) (pins : List (Addr × Obj)) (s : Shared) (σ : St) (H : Hp) (Q : Bool → Hp → Prop), Inv X pins σ H s → t σ H Q → wpAny (model X.prog X.w) X.A (isTrue e X.env whole) (TP X pins σ Q) X.xe s
theorem PW.pt {X : Cx} {e : Expr} {t : TT} (h : PW X e t) : PT X e t := h _
def PA (X : Cx) (es : List Expr) (t : TA) : Prop :=
  ∀ (pos : Pos) (pins : List (Addr × Obj)) (s : Shared) (σ : St) (H : Hp) (Q : List V → Hp → Prop), Inv X pins σ H s → t σ H Q → wpAny (model X.prog X.w) X.A (spliced (backTo pos (starEach es X.env))) (AP X pins σ Q) X.xe s
def PS (X : Cx) (st : Stmt) (t : TS) : Prop :=
  ∀ (pins : List (Addr × Obj)) (s : Shared) (σ : St) (H : Hp) (D : Ends), Inv X pins σ H s → t D σ H → wpAny (model X.prog X.w) X.A (exec st X.env) (SP X pins D) X.xe s
def PSs (X : Cx) (st : List Stmt) (t : TS) : Prop :=
  ∀ (pins : List (Addr × Obj)) (s : Shared) (σ : St) (H : Hp) (D : Ends), Inv X pins σ H s → t D σ H → wpAny (model X.prog X.w) X.A (execs st X.env) (SP X pins D) X.xe s
theorem thn {α : Type} {t : Sem α} {Q Q' : α → Shared → Prop} {M : Model} {A : Around} {E : Value → Shared → Prop} {s : Shared} (h : wpAny M A t Q E s) (hQ : ∀ a s, Q a s → Q' a s) : wpAny M A t Q' E s := wpAny_mono h hQ fun _ _ x => x
end L2
namespace L2
open PySem PySem.Spec PyProof.Rows
section
variable {X : Cx}
def tVar (i : Nat) : TE := fun σ H Q => ∃ v, σ[i]? = some (some v) ∧ Q v H
def tC (v : V) : TE := fun _ H Q => Q v H
theorem pe_var {i : Nat} {x : Str} {pos : Pos} (hN : X.N[i]? = some x) (hv : Vis X.env.scope x) (hd : (x == ("__debug__" : Str)) = false := by decide) (hcd : (x == ("__classdict__" : Str)) = false := by decide) : PE X (.Name x pos) (tVar i) := by
  intro pins s σ H Q I h
  obtain ⟨v, e, h⟩ := h
  obtain ⟨m, hn, hl⟩ := I.loc
  obtain ⟨u, r, l⟩ := hl i x v hN e hv
  have fin : EP X pins σ Q u s := ⟨v, H, I, r, h⟩
  rcases l with ⟨hk, hm⟩ | ⟨hk, c, hc, hcell⟩
  · exact wpAny_Name (wpAny_loadName_local I.ok.kind hk hn hm fin) hd
  · rcases hk with hk | hk
    · exact wpAny_Name (wpAny_loadName_cell I.ok.kind hk hc hcell fin) hd
    · exact wpAny_Name (wpAny_loadName_free I.ok.kind hk hc hcell fin hcd) hd
theorem pe_int {i j pos} : PE X (.Constant (.int i) j pos) (tC (.int i)) := fun _ _ _ H _ I h => wpAny_Constant_int ⟨.int i, H, I.tok _, ⟨_, rfl⟩, h⟩
theorem pe_bl {b j pos} : PE X (.Constant (.bool b) j pos) (tC (.bl b)) := fun _ _ _ H _ I h => Constant_bool ⟨.bl b, H, I, rfl, h⟩
theorem pe_non {j pos} : PE X (.Constant .none j pos) (tC .non) := fun _ _ _ H _ I h => Constant_none ⟨.non, H, I, rfl, h⟩
theorem pe_str {x j pos} : PE X (.Constant (.str x) j pos) (tC (.str x)) := fun _ _ _ H _ I h => Calls.Constant_str ⟨.str x, H, I.tok _, ⟨_, rfl⟩, h⟩
def Gl (X : Cx) (x : Str) : Prop := X.env.kindOf x = some .globalImplicit
theorem ld_glob {E : Value → Shared → Prop} {pins : List (Addr × Obj)} {s : Shared} {σ : St} {H : Hp} {x : Str} {u : Value} {pos : Pos} {Q : Value → Shared → Prop} (I : Inv X pins σ H s) (hg : Gl X x) (hm : X.mg x = some u) (h : Q u s)
    (hd : (x == ("__debug__" : Str)) = false := by decide) : wpAny (model X.prog X.w) X.A (eval (.Name x pos) X.env) Q E s :=
  Calls.Name_function_global I.ok.kind hg (Calls.loadGlobal_global (by rw [I.ok.glob]; exact I.mod.glob.keeps I.bk) hm h) hd
theorem ld_blt {E : Value → Shared → Prop} {pins : List (Addr × Obj)} {s : Shared} {σ : St} {H : Hp} {x : Str} {u : Value} {pos : Pos} {Q : Value → Shared → Prop} (I : Inv X pins σ H s) (hg : Gl X x) (hm : X.mg x = none) (hv : bootBuiltins x = some u) (h : Q u s)
    (hn : x ≠ "__name__" := by decide) (hd : (x == ("__debug__" : Str)) = false := by decide) : wpAny (model X.prog X.w) X.A (eval (.Name x pos) X.env) Q E s := by
  obtain ⟨mb, h1, h2⟩ := I.mod.blt
  exact Calls.Name_function_global I.ok.kind hg (Calls.loadGlobal_builtin (by rw [I.ok.glob]; exact I.mod.glob.keeps I.bk) hm (by rw [I.ok.blt]; exact h1.keeps I.bk) ((h2 x hn).trans hv) h) hd
theorem pe_glob {x : Str} {v : V} {u : Value} {pos : Pos} (hg : Gl X x) (hm : X.mg x = some u) (r : RelV v u) (hd : (x == ("__debug__" : Str)) = false := by decide) : PE X (.Name x pos) (tC v) :=
  fun _ _ _ H _ I h => ld_glob I hg hm ⟨v, H, I, r, h⟩ hd
theorem pe_bltn {x : Str} {v : V} {u : Value} {pos : Pos} (hg : Gl X x) (hm : X.mg x = none) (hv : bootBuiltins x = some u) (r : RelV v u) (hn : x ≠ "__name__" := by decide) (hd : (x == ("__debug__" : Str)) = false := by decide) : PE X (.Name x pos) (tC v) :=
  fun _ _ _ H _ I h => ld_blt I hg hm hv ⟨v, H, I, r, h⟩ hn hd
variable {a b : Expr} {ta tb : TE} {pos : Pos}
def tB (t : TE) : TT := fun σ H Q => t σ H fun x H1 => ∃ c, x = .bl c ∧ Q c H1
theorem pt_val {e : Expr} {t : TE} (h : PE X e t) (he : ∀ whole, isTrue e X.env whole = (do let v ← whole; standAt e.pos; holding [v] (truthy v)) := by intro _; rfl) : PT X e (tB t) := by
  intro pins s σ H Q I hw
  refine isTrue_plain (thn (h pins s σ H _ I hw) fun v s1 ⟨x, H1, I1, r1, q1⟩ => ?_) (he _)
  obtain ⟨d, rfl, q⟩ := q1
  cases r1
  exact wpAny_truthy_bool ⟨H1, I1, q⟩
variable {tA tB' : TT} {rest : List Expr}
def tAnd (t u : TT) : TT := fun σ H Q => t σ H fun c H1 => if c = true then u σ H1 Q else Q false H1
def tOr (t u : TT) : TT := fun σ H Q => t σ H fun c H1 => if c = true then Q true H1 else u σ H1 Q
def tNot (t : TT) : TT := fun σ H Q => t σ H fun c H1 => Q (!c) H1
theorem pw_and1 (ha : PT X a tA) : PW X (.BoolOp .And [a] pos) tA := by
  intro wh pins s σ H Q I h
  refine isTrue_and (thn (ha pins s σ H Q I h) fun c s1 e => ?_)
  cases c with
  | true => exact isTrue_and_nil e
  | false => exact e
theorem pw_or1 (ha : PT X a tA) : PW X (.BoolOp .Or [a] pos) tA := by
  intro wh pins s σ H Q I h
  refine isTrue_or (thn (ha pins s σ H Q I h) fun c s1 e => ?_)
  cases c with
  | false => exact isTrue_or_nil e
  | true => exact e
theorem pw_and (ha : PT X a tA) (hb : PW X (.BoolOp .And (b :: rest) pos) tB') : PW X (.BoolOp .And (a :: b :: rest) pos) (tAnd tA tB') := by
  intro wh pins s σ H Q I h
  refine isTrue_and (thn (ha pins s σ H _ I h) fun c s1 ⟨H1, I1, q1⟩ => ?_)
  cases c with
  | true => exact hb wh pins s1 σ H1 Q I1 q1
  | false => exact ⟨H1, I1, q1⟩
theorem pw_or (ha : PT X a tA) (hb : PW X (.BoolOp .Or (b :: rest) pos) tB') : PW X (.BoolOp .Or (a :: b :: rest) pos) (tOr tA tB') := by
  intro wh pins s σ H Q I h
  refine isTrue_or (thn (ha pins s σ H _ I h) fun c s1 ⟨H1, I1, q1⟩ => ?_)
  cases c with
  | true => exact ⟨H1, I1, q1⟩
  | false => exact hb wh pins s1 σ H1 Q I1 q1
theorem pt_not (ha : PT X a tA) : PT X (.UnaryOp .Not a pos) (tNot tA) := by
  intro pins s σ H Q I h
  exact isTrue_not (ha pins s σ H (fun c H1 => Q (!c) H1) I h)
def tAndV (ta tb : TE) : TE := fun σ H Q => ta σ H fun x H1 => ∃ c, x = .bl c ∧ if c = true then tb σ H1 Q else Q (.bl false) H1
def tNotV (ta : TE) : TE := fun σ H Q => ta σ H fun x H1 => ∃ c, x = .bl c ∧ Q (.bl (!c)) H1
theorem pe_one {op} {t : TE} (h : PE X a t) : PE X (.BoolOp op [a] pos) t := fun pins s σ H Q I hw => BoolOp_one (h pins s σ H Q I hw)
theorem pe_and (ha : PE X a ta) (hb : PE X (.BoolOp .And (b :: rest) pos) tb) : PE X (.BoolOp .And (a :: b :: rest) pos) (tAndV ta tb) := by
  intro pins s σ H Q I h
  refine BoolOp_and (thn (ha pins s σ H _ I h) fun v s1 ⟨x, H1, I1, r1, q1⟩ => ?_)
  obtain ⟨c, rfl, q1⟩ := q1
  cases r1
  refine wpAny_truthy_bool ?_
  cases c with
  | true => exact hb pins s1 σ H1 Q I1 q1
  | false => exact ⟨.bl false, H1, I1, rfl, q1⟩
theorem pe_not (ha : PE X a ta) : PE X (.UnaryOp .Not a pos) (tNotV ta) := by
  intro pins s σ H Q I h
  refine UnaryOp_ (thn (ha pins s σ H _ I h) fun v s1 ⟨x, H1, I1, r1, q1⟩ => ?_)
  obtain ⟨c, rfl, q1⟩ := q1
  cases r1
  exact not_of (wpAny_truthy_bool ⟨.bl (!c), H1, I1, rfl, q1⟩)
def tIf (t : TT) (ta tb : TE) : TE := fun σ H Q => t σ H fun c H1 => if c = true then ta σ H1 Q else tb σ H1 Q
theorem pe_ifExp {c : Expr} (hc : PT X c tA) (ha : PE X a ta) (hb : PE X b tb) : PE X (.IfExp c a b pos) (tIf tA ta tb) := by
  intro pins s σ H Q I h
  refine wpAny_IfExp (thn (hc pins s σ H _ I h) fun d s1 ⟨H1, I1, q1⟩ => ?_)
  cases d with
  | true => exact ha pins s1 σ H1 Q I1 q1
  | false => exact hb pins s1 σ H1 Q I1 q1
end
end L2
namespace L2
open PySem PySem.Spec PyProof.Rows
def SqL (K : PySem.W.Frag) (H : Hp) (a : Addr) (xs : List V) : Prop :=
  Rd H a (.lst xs) ∨
    ∃ (o : Obj) (its : Array Value) (n : Nat), K.lookup a = some o ∧ o.cls = .type "list" ∧ o.dict = none ∧ o.data = .seq its n ∧ its.size ≤ sizeLine ∧ Vals xs its.toList
def SqT (K : PySem.W.Frag) (H : Hp) (a : Addr) (xs : List V) : Prop :=
  Rd H a (.tup xs) ∨
    ∃ (o : Obj) (its : Array Value) (n : Nat), K.lookup a = some o ∧ o.cls = .type "tuple" ∧ o.data = .seq its n ∧ its.size ≤ sizeLine ∧ Vals xs its.toList
def absV : Value → Option V
  | .none => some .non
  | .bool b => some (.bl b)
  | .int i _ => some (.int i)
  | .str x _ => some (.str x)
  | .bytes b _ => some (.byt b)
  | .float b _ => some (.flt b)
  | .ref a => some (.ref a)
  | .type n => some (.ty n)
  | _ => none
theorem RelV.abs {x : V} {u : Value} (r : RelV x u) : absV u = some x := by
  cases x with
  | non => cases r; rfl
  | bl _ => cases r; rfl
  | int _ => obtain ⟨t, rfl⟩ := r; rfl
  | str _ => obtain ⟨t, rfl⟩ := r; rfl
  | byt _ => obtain ⟨t, rfl⟩ := r; rfl
  | flt _ => obtain ⟨t, rfl⟩ := r; rfl
  | ref _ => cases r; rfl
  | ty _ => cases r; rfl
theorem RelV.inj {x y : V} {u : Value} (r : RelV x u) (q : RelV y u) : x = y := Option.some.inj (r.abs.symm.trans q.abs)
theorem Vals.inj : ∀ {xs ys : List V} {us : List Value}, Vals xs us → Vals ys us → xs = ys
  | _, _, _, .nil, .nil => rfl
  | _, _, _, .cons r t, .cons r' t' => by rw [r.inj r', Vals.inj t t']
section
variable {X : Cx} {pins : List (Addr × Obj)} {σ : St} {H : Hp} {s : Shared} {a : Addr} {xs ys : List V}
theorem SqL.of {K : PySem.W.Frag} (h : H a = some (.lst xs)) : SqL K H a xs := .inl (.inl h)
theorem SqT.of {K : PySem.W.Frag} (h : H a = some (.tup xs)) : SqT K H a xs := .inl (.inl h)
theorem Inv.list (I : Inv X pins σ H s) (h : SqL X.K H a xs) : ∃ its : List Value, Vals xs its ∧ PlainL s.heap a its.toArray ∧ xs.length ≤ sizeLine := by
  rcases h with h | ⟨o, its, n, hk, hc, hd, hs, hz, r⟩
  · obtain ⟨z, its, n, r, e⟩ := h.ok I.hok
    exact ⟨its, r, ⟨_, n, e, rfl, rfl, rfl⟩, z⟩
  · refine ⟨its.toList, r, ⟨o, n, I.kIn a o hk, hc, hd, by simpa using hs⟩, ?_⟩
    have e := r.length
    simp only [Array.length_toList] at e
    omega
theorem Inv.tuple (I : Inv X pins σ H s) (h : SqT X.K H a xs) : ∃ its : List Value, Vals xs its ∧ IsTup s.heap a its.toArray ∧ xs.length ≤ sizeLine := by
  rcases h with h | ⟨o, its, n, hk, hc, hs, hz, r⟩
  · obtain ⟨z, its, r, p⟩ := h.ok I.hok
    exact ⟨its, r, p, z⟩
  · refine ⟨its.toList, r, ⟨o, I.kIn a o hk, hc, n, by simpa using hs⟩, ?_⟩
    have e := r.length
    simp only [Array.length_toList] at e
    omega
theorem Inv.list_inj (I : Inv X pins σ H s) (h : SqL X.K H a xs) (h' : SqL X.K H a ys) : xs = ys := by
  obtain ⟨its, r, ⟨o, n, e, _, _, d⟩, _⟩ := I.list h
  obtain ⟨its', r', ⟨o', n', e', _, _, d'⟩, _⟩ := I.list h'
  rw [e] at e'; cases e'
  rw [d] at d'
  injection d' with d1 _
  have : its = its' := by simpa using congrArg Array.toList d1
  subst this
  exact r.inj r'
theorem Inv.tuple_inj (I : Inv X pins σ H s) (h : SqT X.K H a xs) (h' : SqT X.K H a ys) : xs = ys := by
  obtain ⟨its, r, ⟨o, e, _, n, d⟩, _⟩ := I.tuple h
  obtain ⟨its', r', ⟨o', e', _, n', d'⟩, _⟩ := I.tuple h'
  rw [e] at e'; cases e'
  rw [d] at d'
  injection d' with d1 _
  have : its = its' := by simpa using congrArg Array.toList d1
  subst this
  exact r.inj r'
end
abbrev Cx.wish (X : Cx) (E : Value → Shared → Prop) : Cx := { X with xe := E }
abbrev Cx.nox (X : Cx) : Cx := X.wish fun _ _ => False
theorem Cx.Ok.wish {X : Cx} (ok : X.Ok) (E : Value → Shared → Prop) : (X.wish E).Ok :=
  ⟨ok.mod, ok.kind, ok.glob, ok.blt, ok.above, ok.inj, ok.has, ok.cab, ok.hd, ok.frames, ok.stk, ok.exf, ok.bs, ok.bsz, ok.noex, ok.exfs, ok.funs, ok.frf⟩
theorem Cx.Ok.unwish {X : Cx} {E : Value → Shared → Prop} (ok : (X.wish E).Ok) : X.Ok :=
  ⟨ok.mod, ok.kind, ok.glob, ok.blt, ok.above, ok.inj, ok.has, ok.cab, ok.hd, ok.frames, ok.stk, ok.exf, ok.bs, ok.bsz, ok.noex, ok.exfs, ok.funs, ok.frf⟩
section
variable {X : Cx} {pins : List (Addr × Obj)} {σ : St} {H : Hp} {s : Shared} {E : Value → Shared → Prop}
theorem Inv.wish (I : Inv X pins σ H s) (E : Value → Shared → Prop) : Inv (X.wish E) pins σ H s := ⟨I.ok.wish E, I.os, I.bare, I.base, I.loc, I.cell, I.free, I.freeC, I.pin, I.hok, I.len⟩
theorem Inv.unwish (I : Inv (X.wish E) pins σ H s) : Inv X pins σ H s := ⟨I.ok.unwish, I.os, I.bare, I.base, I.loc, I.cell, I.free, I.freeC, I.pin, I.hok, I.len⟩
theorem SP.unwish {D : Ends} {f : Flow} {s' : Shared} (h : SP (X.wish E) pins D f s') : SP X pins D f s' := by
  cases f with
  | next => obtain ⟨σ', H', I, q⟩ := h; exact ⟨σ', H', I.unwish, q⟩
  | brk => obtain ⟨σ', H', I, q⟩ := h; exact ⟨σ', H', I.unwish, q⟩
  | cont => obtain ⟨σ', H', I, q⟩ := h; exact ⟨σ', H', I.unwish, q⟩
  | ret u => obtain ⟨v, σ', H', I, r, q⟩ := h; exact ⟨v, σ', H', I.unwish, r, q⟩
theorem PSs.nox {st : List Stmt} {t : TS} (h : PSs X.nox st t) : PSs X st t := fun pins s σ H D I hw =>
  wpAny_mono (h pins s σ H D (I.wish _) hw) (fun _ _ q => q.unwish) fun _ _ z => False.elim z
end
section
variable {X : Cx} {st : Stmt} {rest : List Stmt} {t u : TS} {e : Expr} {te : TE} {pos : Pos}
def tNext : TS := fun D σ H => D.nx σ H
def tSeq (t u : TS) : TS := fun D σ H => t { D with nx := u D } σ H
theorem pss_nil : PSs X [] tNext := fun _ _ σ H _ I h => wpAny_execs_nil ⟨σ, H, I, h⟩
theorem pss_cons (h1 : PS X st t) (h2 : PSs X rest u) : PSs X (st :: rest) (tSeq t u) := by
  intro pins s σ H D I h
  refine wpAny_execs_cons (thn (h1 pins s σ H { D with nx := u D } I h) fun f s1 q => ?_)
  cases f with
  | next =>
    obtain ⟨σ', H', I', q⟩ := q
    exact h2 pins s1 σ' H' D I' q
  | ret v => exact q
  | brk => exact q
  | cont => exact q
theorem pss_one (h1 : PS X st t) : PSs X [st] t := by
  intro pins s σ H D I h
  refine wpAny_execs_cons (thn (h1 pins s σ H D I h) fun f s1 q => ?_)
  cases f with
  | next => exact wpAny_execs_nil q
  | ret v => exact q
  | brk => exact q
  | cont => exact q
theorem Inv.quiet {pins : List (Addr × Obj)} {σ : St} {H : Hp} {s : Shared} (I : Inv X pins σ H s) : interactive X.env = false := by simp [interactive, I.ok.kind]
def tDrop (te : TE) : TS := fun D σ H => te σ H fun _ H1 => D.nx σ H1
theorem ps_expr (he : PE X e te) (hs : swapsWith e none pos.line X.env = pure false := by rfl) : PS X (.Expr e pos) (tDrop te) := by
  intro pins s σ H D I h
  exact wpAny_Expr_any (thn (he pins s σ H _ I h) fun v s1 ⟨x, H1, I1, r1, q1⟩ => ⟨σ, H1, I1, q1⟩) I.quiet hs
def tRet (te : TE) : TS := fun D σ H => te σ H D.rt
theorem ps_ret (he : PE X e te) : PS X (.Return (some e) pos) (tRet te) := by
  intro pins s σ H D I h
  exact wpAny_Return_some (thn (he pins s σ H _ I h) fun v s1 ⟨x, H1, I1, r1, q1⟩ => ⟨x, σ, H1, I1, r1, q1⟩)
def tIfS (c : TT) (t u : TS) : TS := fun D σ H => c σ H fun b H1 => if b = true then t D σ H1 else u D σ H1
theorem ps_if {c : Expr} {a b : List Stmt} {tc : TT} (hc : PT X c tc) (ha : PSs X a t) (hb : PSs X b u) : PS X (.If c a b pos) (tIfS tc t u) := by
  intro pins s σ H D I h
  refine wpAny_If (thn (hc pins s σ H _ I h) fun d s1 ⟨H1, I1, q1⟩ => ?_)
  cases d with
  | true => exact ha pins s1 σ H1 D I1 q1
  | false => exact hb pins s1 σ H1 D I1 q1
def tNever : TS := fun _ _ _ => False
theorem ps_never : PS X st tNever := fun _ _ _ _ _ _ h => h.elim
end
abbrev TG := V → St → Hp → (St → Hp → Prop) → Prop
abbrev TGs := List V → St → Hp → (St → Hp → Prop) → Prop
def PG (X : Cx) (target : Expr) (t : TG) : Prop :=
  ∀ (pins : List (Addr × Obj)) (s : Shared) (σ : St) (H : Hp) (v : V) (u : Value) (Q : St → Hp → Prop), Inv X pins σ H s → RelV v u → t v σ H Q →
    wpAny (model X.prog X.w) X.A (assign target X.env u) (fun _ s' => ∃ σ' H', Inv X pins σ' H' s' ∧ Q σ' H') X.xe s
def PGs (X : Cx) (ts : List Expr) (t : TGs) : Prop :=
  ∀ (pins : List (Addr × Obj)) (s : Shared) (σ : St) (H : Hp) (vs : List V) (us : List Value) (Q : St → Hp → Prop), Inv X pins σ H s → Vals vs us → t vs σ H Q →
    wpAny (model X.prog X.w) X.A (assignInOrder ((assignEach ts X.env).map (·.2)) us) (fun _ s' => ∃ σ' H', Inv X pins σ' H' s' ∧ Q σ' H') X.xe s
section
variable {X : Cx} {pos : Pos}
def gName (i : Nat) : TG := fun v σ H Q => Q (σ.set i (some v)) H
theorem pg_name {i : Nat} {x : Str} (hN : X.N.Nodup) (hi : X.N[i]? = some x) (hx : Loc X.env.scope x) (hf : X.fn x = true ∨ X.env.scope.names.lookup x = some .local := by first | exact .inl rfl | exact .inr rfl | assumption) : PG X (.Name x pos) (gName i) := by
  intro pins s σ H v u Q I r h
  exact wpAny_assign_Name (store_ok I hN hi hx r (fun s' I' => ⟨_, H, I', h⟩) hf)
def gNil : TGs := fun vs σ H Q => vs = [] ∧ Q σ H
def gCons (t : TG) (u : TGs) : TGs := fun vs σ H Q => ∃ v r, vs = v :: r ∧ t v σ H fun σ' H' => u r σ' H' Q
theorem pgs_nil : PGs X [] gNil := by
  intro pins s σ H vs us Q I r h
  obtain ⟨e, h⟩ := h
  subst e
  cases r
  exact assignInOrder_nil ⟨σ, H, I, h⟩
theorem pgs_cons {e : Expr} {es : List Expr} {t : TG} {u : TGs} (h1 : PG X e t) (h2 : PGs X es u)
    (hs : (assignEach (e :: es) X.env).map (·.2) = assign e X.env :: (assignEach es X.env).map (·.2) := by rfl) : PGs X (e :: es) (gCons t u) := by
  intro pins s σ H vs us Q I r h
  obtain ⟨v, vr, e1, h⟩ := h
  subst e1
  cases r with
  | cons r rr =>
    rw [hs]
    refine assignInOrder_cons (thn (h1 pins s σ H _ _ _ I r h) fun _ s1 ⟨σ1, H1, I1, q1⟩ => ?_)
    exact h2 pins s1 σ1 H1 _ _ Q I1 rr q1
def gTup (K : PySem.W.Frag) (n : Nat) (t : TGs) : TG := fun v σ H Q => ∃ a xs, v = .ref a ∧ SqT K H a xs ∧ xs.length = n ∧ t xs σ H Q
theorem pg_tup {es : List Expr} {k : Nat} {t : TGs} {n : Nat} (hc : X.calm = true) (h : PGs X es t)
    (hn : (assignEach es X.env).length = n := by rfl) (hst : (assignEach es X.env).findIdx? (·.1) = none := by rfl) : PG X (.Tuple es k pos) (gTup X.K n t) := by
  intro pins s σ H v u Q I r hw
  obtain ⟨a, xs, e1, hq, hl, hw⟩ := hw
  subst e1
  cases r
  obtain ⟨its, rv, ht, hz⟩ := I.tuple hq
  refine assign_Tuple_tuple (I.ok.hd hc) ht (by simp [hn, ← hl, rv.length]) hst fun h' hx => ?_
  have I1 : Inv X pins σ H { s with heap := h' } := I.kept (t' := s.toks) fun b o e => hx b o (Nat.ne_of_lt (Heap.lt_size e)) e
  exact h pins _ σ H xs _ Q I1 (by simpa using rv) hw
def tAsg (te : TE) (g : TG) : TS := fun D σ H => te σ H fun x H1 => g x σ H1 D.nx
theorem ps_asg {tg e : Expr} {te : TE} {g : TG} (he : PE X e te) (hg : PG X tg g) (hs : swapsWithSole [tg] e pos.line X.env = pure false := by rfl) (hw : swappedStores [tg] e X.env = pure none := by rfl)
    (h1 : (assignEach [tg] X.env).map (·.2) = [assign tg X.env] := by rfl) : PS X (.Assign [tg] e pos) (tAsg te g) := by
  intro pins s σ H D I h
  refine wpAny_Assign_stores (thn (he pins s σ H _ I h) fun v s1 ⟨x, H1, I1, r1, q1⟩ => ?_) hs hw
  rw [h1]
  exact thn (hg pins s1 σ H1 x v _ I1 r1 q1) fun _ s2 q => q
theorem ps_set {i : Nat} {x : Str} {e : Expr} {te : TE} {pos' : Pos} (hN : X.N.Nodup) (hi : X.N[i]? = some x) (hx : Loc X.env.scope x) (he : PE X e te) (hs : swapsWith e (some (.Name x pos')) pos.line X.env = pure false := by rfl) (hf : X.fn x = true ∨ X.env.scope.names.lookup x = some .local := by first | exact .inl rfl | exact .inr rfl | assumption) :
    PS X (.Assign [.Name x pos'] e pos) (tAsg te (gName i)) := by
  intro pins s σ H D I h
  refine wpAny_Assign_Name (thn (he pins s σ H _ I h) fun v s1 ⟨y, H1, I1, r1, q1⟩ => ?_) hs
  exact store_ok I1 hN hi hx r1 (fun s2 I2 => ⟨_, H1, I2, q1⟩) hf
end
section
variable {X : Cx} {pos : Pos}
end
structure It where
  go : Nat → Hp → Prop
  yld : Nat → Hp → V → Hp → Prop
  stop : Nat → Hp → Prop
def FpOk (X : Cx) (pins : List (Addr × Obj)) (H : Hp) (b : Addr) : Prop :=
  H b = none ∧ b ≠ X.env.locals ∧ b ∉ X.fs ∧ (b ∈ X.ex ∨ X.s₀.heap.objs.size ≤ b) ∧ (∀ x c, X.env.cells.lookup x = some c → c ≠ b) ∧ ∀ p ∈ X.pn ++ pins, p.1 ≠ b
theorem Inv.fpOk {X : Cx} {pins : List (Addr × Obj)} {σ : St} {H H' : Hp} {s : Shared} {b : Addr} (I : Inv X pins σ H s) (hb : s.heap.objs.size ≤ b) (hn : H' b = none) : FpOk X pins H' b := by
  refine ⟨hn, Nat.ne_of_gt (Nat.lt_of_lt_of_le I.lt hb), I.nofs hb, .inr (Nat.le_trans I.sz hb), fun x c e z => ?_, fun p hp z => ?_⟩
  · obtain ⟨v, q⟩ := I.cell x c e
    exact absurd (Nat.lt_of_lt_of_le q.lt (by rw [z]; exact hb)) (Nat.lt_irrefl _)
  · exact absurd (Nat.lt_of_lt_of_le (Heap.lt_size (I.pin p hp).1) (by rw [z]; exact hb)) (Nat.lt_irrefl _)
structure Turn (P : Program) (w : World) (K : PySem.W.Frag) (tg : Expr) (J : It) (fp : List Addr) (it : Addr) (tn : Nat → Heap → Prop) : Prop where
  mem : it ∈ fp
  obj : ∀ i h, tn i h → ∀ b ∈ fp, ∃ o, h.get? b = some o ∧ ∀ v, o.data ≠ .cell v
  keep : ∀ i h h', tn i h → (∀ b ∈ fp, ∀ o, h.get? b = some o → h'.get? b = some o) → tn i h'
  item : ∀ (X : Cx), X.prog = P → X.w = w → X.K = K → X.calm = true → ∀ (i : Nat) (pins : List (Addr × Obj)) (s : Shared) (σ : St) (H : Hp) (E : Value → Shared → Prop), Inv X pins σ H s → (∀ b ∈ fp, FpOk X pins H b) → tn i s.heap → J.go i H →
    wpAny (model P w) X.A (pyNext (.ref it)) (fun r s1 => ∃ u, r = some u ∧
      wpAny (model P w) X.A (letOwnedTupleGo tg (.ref it) u) (fun _ s2 => ∃ x H', Inv X pins σ H' s2 ∧ RelV x u ∧ J.yld i H x H' ∧ tn (i + 1) s2.heap ∧ ∀ b ∈ fp, H' b = none) E s1) E s
  done : ∀ (X : Cx), X.prog = P → X.w = w → X.K = K → X.calm = true → ∀ (i : Nat) (pins : List (Addr × Obj)) (s : Shared) (σ : St) (H : Hp) (E : Value → Shared → Prop), Inv X pins σ H s → (∀ b ∈ fp, FpOk X pins H b) → tn i s.heap → J.stop i H →
    wpAny (model P w) X.A (pyNext (.ref it)) (fun r s1 => r = none ∧ Inv X pins σ H s1) E s
  self : ∀ (A : Around) (i : Nat) (s : Shared) (Q : Value → Shared → Prop) (E : Value → Shared → Prop), tn i s.heap → Q (.ref it) s → wpAny (model P w) A (pyIter (.ref it)) Q E s
abbrev TI := St → Hp → (It → Hp → Prop) → Prop
def PIE (X : Cx) (pins : List (Addr × Obj)) (σ : St) (tg : Expr) (R : It → Hp → Prop) (itv : Value) (s2 : Shared) : Prop :=
  ∃ (it : Addr) (fp : List Addr) (tn : Nat → Heap → Prop) (J : It) (H' : Hp), itv = .ref it ∧ Inv X pins σ H' s2 ∧ Turn X.prog X.w X.K tg J fp it tn ∧ tn 0 s2.heap ∧ (∀ b ∈ fp, FpOk X pins H' b) ∧ R J H'
def PI (X : Cx) (tg iter : Expr) (wi : TI) : Prop :=
  ∀ (pins : List (Addr × Obj)) (s : Shared) (σ : St) (H : Hp) (R : It → Hp → Prop), Inv X pins σ H s → wi σ H R →
    wpAny (model X.prog X.w) X.A (eval iter X.env) (fun v s1 => wpAny (model X.prog X.w) X.A (pyIter v) (PIE X pins σ tg R) X.xe s1) X.xe s
theorem go_of {M : Model} {A : Around} {E : Value → Shared → Prop} {s : Shared} {tg : Expr} {it : Addr} {u : Value} {o : Obj} {n : String} {vs : Array Value} {Q : Unit → Shared → Prop} (ho : s.heap.get? it = some o) (hc : o.cls = .type n) (hd : o.data = .fields vs)
    (hn : ["enumerate", "zip", "dict_itemiterator", "dict_reverseitemiterator", "odict_iterator", "itertools.zip_longest", "itertools.pairwise"].contains n = false) (hQ : Q () s) : wpAny M A (letOwnedTupleGo tg (.ref it) u) Q E s := by
  unfold letOwnedTupleGo
  cases tg <;> first
    | exact wpAny_pure hQ
    | (cases u <;> first
        | exact wpAny_pure hQ
        | (refine wpAny_bind (wpAny_load ho ?_)
           rw [hc, hd]
           show wpAny M A (if (["enumerate", "zip", "dict_itemiterator", "dict_reverseitemiterator", "odict_iterator", "itertools.zip_longest", "itertools.pairwise"].contains n && vs[0]? == some (rawInt _)) = true then _ else _) Q E s
           rw [if_neg (by intro h; rw [hn, Bool.false_and] at h; cases h)]
           exact wpAny_pure hQ))
def Itl (K : PySem.W.Frag) (a : Addr) : It :=
  ⟨fun i H => ∃ xs x, SqL K H a xs ∧ xs[i]? = some x, fun i H x H' => H' = H ∧ ∀ xs, SqL K H a xs → xs[i]? = some x, fun i H => ∃ xs, SqL K H a xs ∧ xs.length ≤ i⟩
def Itt (K : PySem.W.Frag) (a : Addr) : It :=
  ⟨fun i H => ∃ xs x, SqT K H a xs ∧ xs[i]? = some x, fun i H x H' => H' = H ∧ ∀ xs, SqT K H a xs → xs[i]? = some x, fun i H => ∃ xs, SqT K H a xs ∧ xs.length ≤ i⟩
def Itr (lo : Int) (n : Nat) : It := ⟨fun i _ => i < n, fun i H x H' => H' = H ∧ x = .int (lo + i), fun i _ => n ≤ i⟩
theorem turn_list {P : Program} {w : World} {K : PySem.W.Frag} {tg : Expr} (a it : Addr) : Turn P w K tg (Itl K a) [it] it (fun i h => h.IsListIter it a i) where
  mem := by simp
  obj := fun i h st b hb => by
    have e : b = it := by simpa using hb
    subst e
    obtain ⟨o, e, c, d⟩ := st
    exact ⟨o, e, fun v z => by rw [d] at z; cases z⟩
  keep := fun i h h' st k => st.at fun o e => k it (by simp) o e
  item := by
    intro X hP hw hK hc i pins s σ H E I hf st hg
    subst hP hw hK
    obtain ⟨xs, x, hq, hx⟩ := hg
    obtain ⟨its, rv, p, hz⟩ := I.list hq
    obtain ⟨u, hu, ru⟩ := rv.get hx
    obtain ⟨f0, f1, f2, f3, f4, f5⟩ := hf it (by simp)
    refine wpAny_pyNext_list_item st p.isList (x := u) (by simpa using hu) fun h' st' sb => ?_
    have I1 : Inv X pins σ H { s with heap := h' } := I.turned (t' := s.toks) (fun b o hb e => (sb.2 b hb).trans e) f0 f1 f3 f4 f5
    obtain ⟨o, e, c, d⟩ := id st'
    exact ⟨u, rfl, go_of (s := { s with heap := h' }) e c d (by decide) ⟨x, H, I1, ru, ⟨rfl, fun ys hy => by rw [I.list_inj hy hq]; exact hx⟩, st', fun b hb => (hf b hb).1⟩⟩
  done := by
    intro X hP hw hK hc i pins s σ H E I hf st hg
    subst hP hw hK
    obtain ⟨xs, hq, hx⟩ := hg
    obtain ⟨its, rv, p, hz⟩ := I.list hq
    obtain ⟨f0, f1, f2, f3, f4, f5⟩ := hf it (by simp)
    have hl := rv.length
    exact wpAny_pyNext_list_end (I.ok.hd hc) st p.isList (by simp; omega) fun h' eb => ⟨rfl, I.turned (t' := s.toks) (fun b o hb e => eb b o hb e) f0 f1 f3 f4 f5⟩
  self := fun _ _ _ _ _ st h => wpAny_pyIter_listiter st h
theorem turn_tuple {P : Program} {w : World} {K : PySem.W.Frag} {tg : Expr} (a it : Addr) : Turn P w K tg (Itt K a) [it] it (fun i h => h.IsTupleIter it a i) where
  mem := by simp
  obj := fun i h st b hb => by
    have e : b = it := by simpa using hb
    subst e
    obtain ⟨o, e, c, d⟩ := st
    exact ⟨o, e, fun v z => by rw [d] at z; cases z⟩
  keep := fun i h h' st k => st.at fun o e => k it (by simp) o e
  item := by
    intro X hP hw hK hc i pins s σ H E I hf st hg
    subst hP hw hK
    obtain ⟨xs, x, hq, hx⟩ := hg
    obtain ⟨its, rv, p, hz⟩ := I.tuple hq
    obtain ⟨u, hu, ru⟩ := rv.get hx
    obtain ⟨f0, f1, f2, f3, f4, f5⟩ := hf it (by simp)
    refine wpAny_pyNext_tuple_item st (show s.heap.IsTuple a its.toArray from p) (x := u) (by simpa using hu) fun h' st' sb => ?_
    have I1 : Inv X pins σ H { s with heap := h' } := I.turned (t' := s.toks) (fun b o hb e => (sb.2 b hb).trans e) f0 f1 f3 f4 f5
    obtain ⟨o, e, c, d⟩ := id st'
    exact ⟨u, rfl, go_of (s := { s with heap := h' }) e c d (by decide) ⟨x, H, I1, ru, ⟨rfl, fun ys hy => by rw [I.tuple_inj hy hq]; exact hx⟩, st', fun b hb => (hf b hb).1⟩⟩
  done := by
    intro X hP hw hK hc i pins s σ H E I hf st hg
    subst hP hw hK
    obtain ⟨xs, hq, hx⟩ := hg
    obtain ⟨its, rv, p, hz⟩ := I.tuple hq
    obtain ⟨f0, f1, f2, f3, f4, f5⟩ := hf it (by simp)
    have hl := rv.length
    exact wpAny_pyNext_tuple_end (I.ok.hd hc) st (show s.heap.IsTuple a its.toArray from p) (by simp; omega) fun h' eb => ⟨rfl, I.turned (t' := s.toks) (fun b o hb e => eb b o hb e) f0 f1 f3 f4 f5⟩
  self := fun _ _ _ _ _ st h => wpAny_pyIter_tupleiter st h
theorem turn_range {P : Program} {w : World} {K : PySem.W.Frag} {tg : Expr} (it : Addr) (lo : Int) (n : Nat) : Turn P w K tg (Itr lo n) [it] it (fun i h => IsRangeIter h it (lo + (i : Nat) * 1) ((n : Int) - (i : Nat)) 1) where
  mem := by simp
  obj := fun i h st b hb => by
    have e : b = it := by simpa using hb
    subst e
    exact ⟨_, st, fun v z => by
      have z' : Data.fields _ = Data.cell v := z
      cases z'⟩
  keep := fun i h h' st k => k it (by simp) _ st
  item := by
    intro X hP hw hK hc i pins s σ H E I hf st hg
    subst hP hw hK
    obtain ⟨f0, f1, f2, f3, f4, f5⟩ := hf it (by simp)
    have W := Walks.range (prog := X.prog) (w := X.w) (I.ok.hd hc) it lo 1 n
    refine W.item i s _ _ hg st fun v h' tk hv st' kk => ?_
    obtain ⟨t, rfl⟩ := hv
    have I1 : Inv X pins σ H { s with heap := h', toks := tk } := I.turned (fun b o hb e => kk b o (by simpa using hb) e) f0 f1 f3 f4 f5
    refine ⟨_, rfl, go_of (s := { s with heap := h', toks := tk }) (n := "range_iterator") st' rfl rfl (by decide) ⟨.int (lo + i), H, I1, ⟨t, ?_⟩, ⟨rfl, rfl⟩, st', fun b hb => (hf b hb).1⟩⟩
    rw [Int.mul_one]
  done := by
    intro X hP hw hK hc i pins s σ H E I hf st hg
    subst hP hw hK
    obtain ⟨f0, f1, f2, f3, f4, f5⟩ := hf it (by simp)
    exact wpAny_pyNext_range_end (I.ok.hd hc) st (by have : n ≤ i := hg; omega) fun h' eb => ⟨rfl, I.turned (t' := s.toks) (fun b o hb e => eb b o hb e) f0 f1 f3 f4 f5⟩
  self := fun _ _ _ _ _ st h => wpAny_pyIter_rangeiter st h
end L2
namespace L2
open PySem PySem.Spec PyProof.Rows
section
variable {X : Cx} {tg : Expr}
theorem range_it {pins : List (Addr × Obj)} {σ : St} {H : Hp} {s : Shared} {R : It → Hp → Prop} {E : Value → Shared → Prop} {lo hi : Int} {t u v : Tok} {tk : Nat} (I : Inv X pins σ H s) (h1 : -(2 ^ 62) ≤ lo) (h2 : lo < 2 ^ 62) (h3 : -(2 ^ 62) ≤ hi) (h4 : hi < 2 ^ 62)
    (q : R (Itr lo (hi - lo).toNat) H) : wpAny (model X.prog X.w) X.A (pyIter (.ref s.heap.objs.size)) (PIE X pins σ tg R) E { s with heap := s.heap.push { cls := .type "range", data := .fields #[.int lo t, .int hi u, .int 1 v] }, toks := tk } := by
  refine wpAny_pyIter_range (IsRange.new ..) (small_one h1 h2 h3 h4) ?_
  have I1 : Inv X pins σ H { s with heap := s.heap.push { cls := .type "range", data := .fields #[.int lo t, .int hi u, .int 1 v] }, toks := tk } := I.kept fun b o e => Heap.get?_push_of_some _ e
  refine ⟨(s.heap.push { cls := .type "range", data := .fields #[.int lo t, .int hi u, .int 1 v] }).objs.size, [(s.heap.push { cls := .type "range", data := .fields #[.int lo t, .int hi u, .int 1 v] }).objs.size], _, _, H, rfl,
    I1.kept (t' := tk) fun b o e => Heap.get?_push_of_some _ e, turn_range _ lo (hi - lo).toNat, ?_, fun b hb => ?_, q⟩
  · have e1 : lo + ((0 : Nat) : Int) * 1 = lo := by simp
    have e2 : (((hi - lo).toNat : Nat) : Int) - ((0 : Nat) : Int) = Builtin.Range.rangeSize lo hi 1 := by rw [rangeSize_one]; split <;> omega
    show IsRangeIter _ _ (lo + ((0 : Nat) : Int) * 1) ((((hi - lo).toNat : Nat) : Int) - ((0 : Nat) : Int)) 1
    rw [e1, e2]
    exact Heap.get?_push_size _ rfl
  · have e : b = (s.heap.push { cls := .type "range", data := .fields #[.int lo t, .int hi u, .int 1 v] }).objs.size := by simpa using hb
    subst e
    exact I1.fpOk (Nat.le_refl _) (I1.hok.fresh (Nat.le_refl _))
def iRng1 (ta : TA) : TI := fun σ H R => ta σ H fun vs H1 => ∃ j : Int, vs = [.int j] ∧ -(2 ^ 62) ≤ j ∧ j < 2 ^ 62 ∧ R (Itr 0 j.toNat) H1
theorem pi_range1 {a : Expr} {ta : TA} {p pos : Pos} (hg : Gl X "range") (hm : X.mg "range" = none) (ha : PA X [a] ta) (hs : starEach [a] X.env = [(false, eval a X.env)] := by rfl) : PI X tg (.Call (.Name "range" p) [a] [] pos) (iRng1 ta) := by
  intro pins s σ H R I h
  refine Call_ (ld_blt I hg hm boot_range (PyProof.Rows.callWith_type1 (thn (ha pos pins s σ H _ I h) fun us s1 ⟨vs, H1, I1, r1, q1⟩ => ?_) hs rfl))
  obtain ⟨j, e, q1, q2, q⟩ := q1
  subst e
  cases r1 with
  | cons r rr =>
    cases rr
    obtain ⟨t, rfl⟩ := r
    exact call_range_1 (range_it I1 (by omega) (by omega) q1 q2 (by simpa using q))
def tFor (wi : TI) (g : TG) (tb : TS) : TS := fun D σ H => wi σ H fun J H1 => ∃ W : Nat → Nat → St → Hp → Prop, (∃ m, W 0 m σ H1) ∧ ∀ i m σ H, W i m σ H →
  (J.stop i H ∧ D.nx σ H) ∨ (J.go i H ∧ ∃ N : St → Hp → Prop, (∀ σ' H', N σ' H' → ∃ m', m' < m ∧ W (i + 1) m' σ' H') ∧ ∀ x H', J.yld i H x H' → g x σ H' fun σ2 H2 => tb { D with nx := N, ct := N, bk := D.nx } σ2 H2)
def pinsAt (fp : List Addr) (h : Heap) : List (Addr × Obj) := fp.filterMap fun b => (h.get? b).map fun o => (b, o)
theorem mem_pinsAt {fp : List Addr} {h : Heap} {b : Addr} {o : Obj} (hb : b ∈ fp) (e : h.get? b = some o) : (b, o) ∈ pinsAt fp h := List.mem_filterMap.mpr ⟨b, hb, by rw [e]; rfl⟩
theorem of_pinsAt {fp : List Addr} {h : Heap} {p : Addr × Obj} (hp : p ∈ pinsAt fp h) : p.1 ∈ fp ∧ h.get? p.1 = some p.2 := by
  obtain ⟨b, hb, e⟩ := List.mem_filterMap.mp hp
  cases q : h.get? b with
  | none => rw [q] at e; cases e
  | some o =>
    rw [q] at e
    have e' : (b, o) = p := Option.some.inj e
    subst e'
    exact ⟨hb, q⟩
theorem Inv.pinned {pins : List (Addr × Obj)} {σ : St} {H : Hp} {s : Shared} {fp : List Addr} (I : Inv X pins σ H s) (hf : ∀ b ∈ fp, FpOk X pins H b) (ho : ∀ b ∈ fp, ∃ o, s.heap.get? b = some o ∧ ∀ v, o.data ≠ .cell v) : Inv X (pins ++ pinsAt fp s.heap) σ H s :=
  I.pins_of fun p hp => (List.mem_append.mp hp).elim (fun z => I.pin p (List.mem_append_right _ z)) fun z => by
    obtain ⟨hb, e⟩ := of_pinsAt z
    obtain ⟨f0, f1, f2, _⟩ := hf p.1 hb
    obtain ⟨o, e', d⟩ := ho p.1 hb
    rw [e] at e'; cases e'
    exact ⟨e, f0, f1, f2, d⟩
theorem Inv.unpinned {pins pl : List (Addr × Obj)} {σ : St} {H : Hp} {s : Shared} (I : Inv X (pins ++ pl) σ H s) : Inv X pins σ H s := I.pins_of fun p hp => I.pin p (List.mem_append_right _ (List.mem_append_left _ hp))
theorem ps_for {iter : Expr} {body : List Stmt} {wi : TI} {g : TG} {tb : TS} {pos : Pos} (hp : PassesOwn (model X.prog X.w) X.A X.env X.xe) (hc : X.calm = true) (hi : PI X tg iter wi) (hg : PG X tg g) (hb : PSs X body tb)
    (hs : ∀ x, foldedSetIterable iter X.env x = pure x := by intro _; rfl) : PS X (.For tg iter body [] pos) (tFor wi g tb) := by
  intro pins s σ H D I h
  refine wpAny_For (thn (hi pins s σ H _ I h) fun v s1 h1 => thn h1 fun itv s2 h2 => ?_) hs
  obtain ⟨it, fp, tn, J, H2, e, I2, T, st2, f2, W, ⟨m0, w0⟩, turn⟩ := h2
  subst e
  -- what stays true of the iterator's objects through the loop
  have stat : ∀ {H' : Hp}, (∀ b ∈ fp, H' b = none) → ∀ b ∈ fp, FpOk X pins H' b := fun hn b hb => ⟨hn b hb, (f2 b hb).2⟩
  refine codeAny_forLoop_any (fun n s' => ∃ i σ' H', Inv X pins σ' H' s' ∧ tn i s'.heap ∧ (∀ b ∈ fp, H' b = none) ∧ W i n σ' H') ?_ m0 ⟨0, σ, H2, I2, st2, fun b hb => (f2 b hb).1, w0⟩
  rintro n s3 ⟨i, σ3, H3, I3, st3, fr3, w3⟩
  rcases turn i n σ3 H3 w3 with ⟨stop, qn⟩ | ⟨go, N, hN, step⟩
  · refine wpAny_passesOwn hp (thn (T.done X rfl rfl rfl hc i pins s3 σ3 H3 X.xe I3 (stat fr3) st3 stop) fun r s4 ⟨hr, I4⟩ => ?_)
    subst hr
    exact wpAny_execs_nil ⟨σ3, H3, I4, qn⟩
  · refine wpAny_passesOwn hp (thn (T.item X rfl rfl rfl hc i pins s3 σ3 H3 X.xe I3 (stat fr3) st3 go) fun r s4 ⟨u, hr, h4⟩ => ?_)
    subst hr
    refine wpAny_passesOwn hp (thn h4 fun _ s5 ⟨x, H5, I5, r5, y5, st5, fr5⟩ => ?_)
    have I5' := I5.pinned (stat fr5) (T.obj _ _ st5)
    refine wpAny_passesOwn hp (thn (hg _ s5 σ3 H5 x u _ I5' r5 (step x H5 y5)) fun _ s6 ⟨σ6, H6, I6, q6⟩ => ?_)
    refine wpAny_passesOwn hp (thn (hb _ s6 σ6 H6 _ I6 q6) fun f s7 q7 => ?_)
    have again : ∀ {σ7 : St} {H7 : Hp}, Inv X (pins ++ pinsAt fp s5.heap) σ7 H7 s7 → N σ7 H7 → ∃ m, m < n ∧ ∃ i σ' H', Inv X pins σ' H' s7 ∧ tn i s7.heap ∧ (∀ b ∈ fp, H' b = none) ∧ W i m σ' H' := fun {σ7 H7} I7 n7 => by
      obtain ⟨m', hm, w7⟩ := hN σ7 H7 n7
      refine ⟨m', hm, i + 1, σ7, H7, I7.unpinned, T.keep _ _ _ st5 fun b hb o e => (I7.pin (b, o) (List.mem_append_right _ (List.mem_append_right _ (mem_pinsAt hb e)))).1, fun b hb => ?_, w7⟩
      obtain ⟨o, e, d⟩ := T.obj _ _ st5 b hb
      exact (I7.pin (b, o) (List.mem_append_right _ (List.mem_append_right _ (mem_pinsAt hb e)))).2.1
    cases f with
    | next => obtain ⟨σ7, H7, I7, n7⟩ := q7; exact again I7 n7
    | cont => obtain ⟨σ7, H7, I7, n7⟩ := q7; exact again I7 n7
    | brk => obtain ⟨σ7, H7, I7, q7⟩ := q7; exact ⟨σ7, H7, I7.unpinned, q7⟩
    | ret v => obtain ⟨x7, σ7, H7, I7, r7, q7⟩ := q7; exact ⟨x7, σ7, H7, I7.unpinned, r7, q7⟩
end
theorem for_list {K : PySem.W.Frag} {a : Addr} {xs : List V} {g : TG} {tb : TS} {D : Ends} {σ : St} {H : Hp} (Pv : Nat → St → Hp → Prop) (h0 : Pv 0 σ H) (hl : ∀ i σ H, i ≤ xs.length → Pv i σ H → SqL K H a xs)
    (hs : ∀ i x σ H, xs[i]? = some x → Pv i σ H → g x σ H fun σ2 H2 => tb { D with nx := Pv (i + 1), ct := Pv (i + 1), bk := D.nx } σ2 H2) (hd : ∀ σ H, Pv xs.length σ H → D.nx σ H) :
    ∃ W : Nat → Nat → St → Hp → Prop, (∃ m, W 0 m σ H) ∧ ∀ i m σ H, W i m σ H →
      ((Itl K a).stop i H ∧ D.nx σ H) ∨ ((Itl K a).go i H ∧ ∃ N : St → Hp → Prop, (∀ σ' H', N σ' H' → ∃ m', m' < m ∧ W (i + 1) m' σ' H') ∧ ∀ x H', (Itl K a).yld i H x H' → g x σ H' fun σ2 H2 => tb { D with nx := N, ct := N, bk := D.nx } σ2 H2) := by
  refine ⟨fun i m σ H => m = xs.length - i ∧ i ≤ xs.length ∧ Pv i σ H, ⟨xs.length, by simp, Nat.zero_le _, h0⟩, ?_⟩
  rintro i m σ H ⟨rfl, hi, p⟩
  have q := hl i σ H hi p
  by_cases hlt : i < xs.length
  · refine .inr ⟨⟨xs, xs[i], q, by simp [hlt]⟩, Pv (i + 1), fun σ' H' p' => ⟨xs.length - (i + 1), by omega, rfl, hlt, p'⟩, fun x H' y => ?_⟩
    obtain ⟨e, y⟩ := y
    subst e
    exact hs i x σ _ (y xs q) p
  · have e : i = xs.length := by omega
    subst e
    exact .inl ⟨⟨xs, q, Nat.le_refl _⟩, hd σ H p⟩
theorem for_range {lo : Int} {n : Nat} {g : TG} {tb : TS} {D : Ends} {σ : St} {H : Hp} (Pv : Nat → St → Hp → Prop) (h0 : Pv 0 σ H)
    (hs : ∀ i σ H, i < n → Pv i σ H → g (.int (lo + i)) σ H fun σ2 H2 => tb { D with nx := Pv (i + 1), ct := Pv (i + 1), bk := D.nx } σ2 H2) (hd : ∀ σ H, Pv n σ H → D.nx σ H) :
    ∃ W : Nat → Nat → St → Hp → Prop, (∃ m, W 0 m σ H) ∧ ∀ i m σ H, W i m σ H →
      ((Itr lo n).stop i H ∧ D.nx σ H) ∨ ((Itr lo n).go i H ∧ ∃ N : St → Hp → Prop, (∀ σ' H', N σ' H' → ∃ m', m' < m ∧ W (i + 1) m' σ' H') ∧ ∀ x H', (Itr lo n).yld i H x H' → g x σ H' fun σ2 H2 => tb { D with nx := N, ct := N, bk := D.nx } σ2 H2) := by
  refine ⟨fun i m σ H => m = n - i ∧ i ≤ n ∧ Pv i σ H, ⟨n, by simp, Nat.zero_le _, h0⟩, ?_⟩
  rintro i m σ H ⟨rfl, hi, p⟩
  by_cases hlt : i < n
  · refine .inr ⟨hlt, Pv (i + 1), fun σ' H' p' => ⟨n - (i + 1), by omega, rfl, hlt, p'⟩, fun x H' y => ?_⟩
    obtain ⟨e, y⟩ := y
    subst e y
    exact hs i σ _ hlt p
  · have e : i = n := by omega
    subst e
    exact .inl ⟨Nat.le_refl _, hd σ H p⟩
end L2
namespace L2
open PySem PySem.Spec PyProof.Rows
abbrev R2 := V → V → Hp → VK → Prop
def OpR (X : Cx) (f : Value → Value → Sem Value) (r : R2) : Prop :=
  ∀ (pins : List (Addr × Obj)) (s : Shared) (σ : St) (H : Hp) (x y : V) (v u : Value) (Q : VK), Inv X pins σ H s → RelV x v → RelV y u → r x y H Q →
    wpAny (model X.prog X.w) X.A (f v u) (EP X pins σ Q) X.xe s
def UnR (X : Cx) (f : Value → Sem Value) (r : V → Hp → VK → Prop) : Prop :=
  ∀ (pins : List (Addr × Obj)) (s : Shared) (σ : St) (H : Hp) (x : V) (v : Value) (Q : VK), Inv X pins σ H s → RelV x v → r x H Q →
    wpAny (model X.prog X.w) X.A (f v) (EP X pins σ Q) X.xe s
def CallR (X : Cx) (f : Value) (r : List V → Hp → VK → Prop) : Prop :=
  ∀ (pins : List (Addr × Obj)) (s : Shared) (σ : St) (H : Hp) (xs : List V) (us : List Value) (Q : VK), Inv X pins σ H s → Vals xs us → r xs H Q →
    wpAny (model X.prog X.w) X.A (call f us) (EP X pins σ Q) X.xe s
def tOp (r : R2) (ta tb : TE) : TE := fun σ H Q => ta σ H fun x H1 => tb σ H1 fun y H2 => r x y H2 Q
def tUn (r : V → Hp → VK → Prop) (ta : TE) : TE := fun σ H Q => ta σ H fun x H1 => r x H1 Q
def rI (C : Int → Int → Prop) (g : Int → Int → V) : R2 := fun x y H Q => ∃ i j, x = .int i ∧ y = .int j ∧ C i j ∧ Q (g i j) H
def rI0 (g : Int → Int → V) : R2 := fun x y H Q => ∃ i j, x = .int i ∧ y = .int j ∧ Q (g i j) H
def rU (g : Int → V) : V → Hp → VK → Prop := fun x H Q => ∃ i, x = .int i ∧ Q (g i) H
section
variable {X : Cx} {a b c : Expr} {ta tb tc : TE} {pos : Pos}
theorem binT (ha : PE X a ta) (hb : PE X b tb) {pins : List (Addr × Obj)} {s : Shared} {σ : St} {H : Hp} {R : V → V → Hp → Prop} (I : Inv X pins σ H s)
    (h : ta σ H fun x H1 => tb σ H1 fun y H2 => R x y H2) {Q : Value → Shared → Prop} {f : Value → Value → Sem Value}
    (hf : ∀ v u s2 x y H2, Inv X pins σ H2 s2 → RelV x v → RelV y u → R x y H2 → wpAny (model X.prog X.w) X.A (f v u) Q X.xe s2) :
    wpAny (model X.prog X.w) X.A (eval a X.env) (fun v s₁ => wpAny (model X.prog X.w) X.A (eval b X.env) (fun u s₂ => wpAny (model X.prog X.w) X.A (f v u) Q X.xe s₂) X.xe s₁) X.xe s := by
  refine thn (ha pins s σ H _ I h) fun v s1 ⟨x, H1, I1, r1, q1⟩ => ?_
  refine thn (hb pins s1 σ H1 _ I1 q1) fun u s2 ⟨y, H2, I2, r2, q2⟩ => ?_
  exact hf v u s2 x y H2 I2 r1 r2 q2
theorem pe_op {op : Operator} {r : R2} (ho : OpR X (binaryOp op) r) (ha : PE X a ta) (hb : PE X b tb) : PE X (.BinOp a op b pos) (tOp r ta tb) := by
  intro pins s σ H Q I h
  exact wpAny_BinOp (binT ha hb I h fun v u s2 x y H2 I2 rx ry q => ho pins s2 σ H2 x y v u Q I2 rx ry q)
theorem pe_un {op : UnaryOp} {r : V → Hp → VK → Prop} (ho : UnR X (unaryOp op) r) (ha : PE X a ta) : PE X (.UnaryOp op a pos) (tUn r ta) := by
  intro pins s σ H Q I h
  exact UnaryOp_ (thn (ha pins s σ H _ I h) fun v s1 ⟨x, H1, I1, r1, q1⟩ => ho pins s1 σ H1 x v Q I1 r1 q1)
theorem opI {f : Value → Value → Sem Value} {C : Int → Int → Prop} {g : Int → Int → Int}
    (rule : ∀ (i j : Int) (t u : Tok) (s : Shared) (Q : Value → Shared → Prop) (E : Value → Shared → Prop), C i j → Q (.int (g i j) s.toks) { s with toks := s.toks + 1 } → wpAny (model X.prog X.w) X.A (f (.int i t) (.int j u)) Q E s) :
    OpR X f (rI C fun i j => .int (g i j)) := by
  intro pins s σ H x y v u Q I rx ry h
  obtain ⟨i, j, rfl, rfl, hc, q⟩ := h
  obtain ⟨t, rfl⟩ := rx
  obtain ⟨t', rfl⟩ := ry
  exact rule i j t t' s _ _ hc ⟨.int (g i j), H, I.tok _, ⟨_, rfl⟩, q⟩
theorem opI0 {f : Value → Value → Sem Value} {g : Int → Int → Int}
    (rule : ∀ (i j : Int) (t u : Tok) (s : Shared) (Q : Value → Shared → Prop) (E : Value → Shared → Prop), Q (.int (g i j) s.toks) { s with toks := s.toks + 1 } → wpAny (model X.prog X.w) X.A (f (.int i t) (.int j u)) Q E s) :
    OpR X f (rI0 fun i j => .int (g i j)) := by
  intro pins s σ H x y v u Q I rx ry h
  obtain ⟨i, j, rfl, rfl, q⟩ := h
  obtain ⟨t, rfl⟩ := rx
  obtain ⟨t', rfl⟩ := ry
  exact rule i j t t' s _ _ ⟨.int (g i j), H, I.tok _, ⟨_, rfl⟩, q⟩
theorem opB0 {f : Value → Value → Sem Value} {g : Int → Int → Bool}
    (rule : ∀ (i j : Int) (t u : Tok) (s : Shared) (Q : Value → Shared → Prop) (E : Value → Shared → Prop), Q (.bool (g i j)) s → wpAny (model X.prog X.w) X.A (f (.int i t) (.int j u)) Q E s) :
    OpR X f (rI0 fun i j => .bl (g i j)) := by
  intro pins s σ H x y v u Q I rx ry h
  obtain ⟨i, j, rfl, rfl, q⟩ := h
  obtain ⟨t, rfl⟩ := rx
  obtain ⟨t', rfl⟩ := ry
  exact rule i j t t' s _ _ ⟨.bl (g i j), H, I, rfl, q⟩
def CDiv (i j : Int) : Prop := 0 < j ∧ j < 1073741824
def CPow (i j : Int) : Prop := 0 ≤ j ∧ j ≤ 1000000 ∧ i.natAbs < 2 ^ 64
def CMul (i j : Int) : Prop := (-(2 ^ 64) < i ∧ i < 2 ^ 64) ∨ (-(2 ^ 64) < j ∧ j < 2 ^ 64)
theorem CMul.ok {i j : Int} (h : CMul i j) : IntMulOk i j := by
  rcases h with ⟨h1, h2⟩ | ⟨h1, h2⟩
  · exact .of_left (intBits_le_64 h1 h2)
  · exact .of_right (intBits_le_64 h1 h2)
theorem op_add : OpR X (binaryOp .Add) (rI0 fun i j => .int (i + j)) := opI0 fun _ _ _ _ _ _ _ q => add_int q
theorem op_sub : OpR X (binaryOp .Sub) (rI0 fun i j => .int (i - j)) := opI0 fun _ _ _ _ _ _ _ q => sub_int q
theorem op_mul : OpR X (binaryOp .Mult) (rI CMul fun i j => .int (i * j)) := opI fun _ _ _ _ _ _ _ hc q => mul_int q hc.ok
theorem op_fdiv : OpR X (binaryOp .FloorDiv) (rI CDiv fun i j => .int (i / j)) := opI fun i j _ _ _ _ _ hc q => by
  have h1 : (0 : Int) < j := hc.1
  have h2 : j < 1073741824 := hc.2
  exact floordiv_int (by omega) (by rw [Int.fdiv_eq_ediv_of_nonneg i (by omega)]; exact q) (.inl (PyProof.noPylong_small (by omega)))
theorem op_mod : OpR X (binaryOp .Mod) (rI (fun _ j => 0 < j) fun i j => .int (i % j)) := opI fun i j _ _ _ _ _ hc q => by
  have h1 : (0 : Int) < j := hc
  exact mod_int' (by omega) (by rw [Int.fmod_eq_emod_of_nonneg i (by omega)]; exact q)
theorem op_pow : OpR X (binaryOp .Pow) (rI CPow fun i j => .int (i ^ j.toNat)) := opI fun _ _ _ _ _ _ _ hc q => pow_int_small hc.1 hc.2.1 hc.2.2 q
theorem unI {f : Value → Sem Value} {g : Int → Int}
    (rule : ∀ (i : Int) (t : Tok) (s : Shared) (Q : Value → Shared → Prop) (E : Value → Shared → Prop), Q (.int (g i) s.toks) { s with toks := s.toks + 1 } → wpAny (model X.prog X.w) X.A (f (.int i t)) Q E s) :
    UnR X f (rU fun i => .int (g i)) := by
  intro pins s σ H x v Q I rx h
  obtain ⟨i, rfl, q⟩ := h
  obtain ⟨t, rfl⟩ := rx
  exact rule i t s _ _ ⟨.int (g i), H, I.tok _, ⟨_, rfl⟩, q⟩
theorem un_neg : UnR X (unaryOp .USub) (rU fun i => .int (-i)) := unI fun _ _ _ _ _ q => neg_int q
end
def scal : V → V → Bool
  | .non, .non => true | .non, .int _ => true | .int _, .non => true | .non, .bl _ => true | .bl _, .non => true | .non, .str _ => true | .str _, .non => true
  | .int _, .int _ => true | .bl _, .bl _ => true | .str _, .str _ => true | .byt _, .byt _ => true
  | .int _, .str _ => true | .str _, .int _ => true | .bl _, .str _ => true | .str _, .bl _ => true
  | _, _ => false
def rEq : R2 := fun x y H Q => scal x y = true ∧ Q (.bl (decide (x = y))) H
def rNe : R2 := fun x y H Q => scal x y = true ∧ Q (.bl (!decide (x = y))) H
theorem dec_int {i j : Int} : decide (V.int i = V.int j) = (i == j) := by
  rw [Bool.eq_iff_iff]
  simp
theorem dec_bl {i j : Bool} : decide (V.bl i = V.bl j) = (i == j) := by
  rw [Bool.eq_iff_iff]
  simp
theorem dec_str {i j : Str} : decide (V.str i = V.str j) = (i == j) := by
  rw [Bool.eq_iff_iff]
  simp
theorem dec_byt {i j : Array UInt8} : decide (V.byt i = V.byt j) = (i.toList == j.toList) := by
  rw [Bool.eq_iff_iff]
  cases i
  cases j
  simp
section
variable {X : Cx} {a b c : Expr} {ta tb tc : TE} {pos : Pos}
theorem fin_bl {pins : List (Addr × Obj)} {σ : St} {H : Hp} {s : Shared} {Q : VK} {k k' : Bool} (I : Inv X pins σ H s) (q : Q (.bl k) H) (e : k = k') : EP X pins σ Q (.bool k') s := by
  subst e
  exact ⟨.bl k, H, I, rfl, q⟩
theorem op_eq : OpR X (compareOp .Eq) rEq := by
  intro pins s σ H x y v u Q I rx ry h
  obtain ⟨hs, q⟩ := h
  cases x with
  | non =>
    cases rx
    cases y with
    | non => cases ry; exact PySem.EqNone.eq_none_none (fin_bl I q (by simp))
    | bl j => cases ry; exact PySem.EqNone.eq_none_bool (fin_bl I q (by simp))
    | int j => obtain ⟨t', rfl⟩ := ry; exact PySem.EqNone.eq_none_int (fin_bl I q (by simp))
    | str j => obtain ⟨t', rfl⟩ := ry; exact PySem.EqNone.eq_none_str (fin_bl I q (by simp))
    | _ => exact absurd (show false = true from hs) Bool.false_ne_true
  | bl i =>
    cases rx
    cases y with
    | non => cases ry; exact PySem.EqNone.eq_bool_none (fin_bl I q (by simp))
    | bl j => cases ry; exact eq_bool (fin_bl I q dec_bl)
    | str j => obtain ⟨t', rfl⟩ := ry; exact PySem.EqMixed.eq_bool_str (fin_bl I q (by simp))
    | _ => exact absurd (show false = true from hs) Bool.false_ne_true
  | int i =>
    obtain ⟨t, rfl⟩ := rx
    cases y with
    | non => cases ry; exact PySem.EqNone.eq_int_none (fin_bl I q (by simp))
    | int j => obtain ⟨t', rfl⟩ := ry; exact eq_int (fin_bl I q dec_int)
    | str j => obtain ⟨t', rfl⟩ := ry; exact PySem.EqMixed.eq_int_str (fin_bl I q (by simp))
    | _ => exact absurd (show false = true from hs) Bool.false_ne_true
  | str i =>
    obtain ⟨t, rfl⟩ := rx
    cases y with
    | non => cases ry; exact PySem.EqNone.eq_str_none (fin_bl I q (by simp))
    | bl j => cases ry; exact PySem.EqMixed.eq_str_bool (fin_bl I q (by simp))
    | int j => obtain ⟨t', rfl⟩ := ry; exact PySem.EqMixed.eq_str_int (fin_bl I q (by simp))
    | str j => obtain ⟨t', rfl⟩ := ry; exact eq_str (fin_bl I q dec_str)
    | _ => exact absurd (show false = true from hs) Bool.false_ne_true
  | byt i =>
    obtain ⟨t, rfl⟩ := rx
    cases y with
    | byt j => obtain ⟨t', rfl⟩ := ry; exact PySem.W.eq_bytes (fin_bl I q dec_byt)
    | _ => exact absurd (show false = true from hs) Bool.false_ne_true
  | _ => cases y <;> exact absurd (show false = true from hs) Bool.false_ne_true
theorem op_ne : OpR X (compareOp .NotEq) rNe := by
  intro pins s σ H x y v u Q I rx ry h
  obtain ⟨hs, q⟩ := h
  cases x with
  | non =>
    cases rx
    cases y with
    | non => cases ry; exact PySem.EqNone.ne_none_none (fin_bl I q (by simp))
    | bl j => cases ry; exact PySem.EqNone.ne_none_bool (fin_bl I q (by simp))
    | int j => obtain ⟨t', rfl⟩ := ry; exact PySem.EqNone.ne_none_int (fin_bl I q (by simp))
    | str j => obtain ⟨t', rfl⟩ := ry; exact PySem.EqNone.ne_none_str (fin_bl I q (by simp))
    | _ => exact absurd (show false = true from hs) Bool.false_ne_true
  | bl i =>
    cases rx
    cases y with
    | non => cases ry; exact PySem.EqNone.ne_bool_none (fin_bl I q (by simp))
    | bl j => cases ry; exact ne_bool (fin_bl I q (congrArg not dec_bl))
    | str j => obtain ⟨t', rfl⟩ := ry; exact PySem.EqMixed.ne_bool_str (fin_bl I q (by simp))
    | _ => exact absurd (show false = true from hs) Bool.false_ne_true
  | int i =>
    obtain ⟨t, rfl⟩ := rx
    cases y with
    | non => cases ry; exact PySem.EqNone.ne_int_none (fin_bl I q (by simp))
    | int j => obtain ⟨t', rfl⟩ := ry; exact ne_int (fin_bl I q (congrArg not dec_int))
    | str j => obtain ⟨t', rfl⟩ := ry; exact PySem.EqMixed.ne_int_str (fin_bl I q (by simp))
    | _ => exact absurd (show false = true from hs) Bool.false_ne_true
  | str i =>
    obtain ⟨t, rfl⟩ := rx
    cases y with
    | non => cases ry; exact PySem.EqNone.ne_str_none (fin_bl I q (by simp))
    | bl j => cases ry; exact PySem.EqMixed.ne_str_bool (fin_bl I q (by simp))
    | int j => obtain ⟨t', rfl⟩ := ry; exact PySem.EqMixed.ne_str_int (fin_bl I q (by simp))
    | str j => obtain ⟨t', rfl⟩ := ry; exact ne_str (fin_bl I q (congrArg not dec_str))
    | _ => exact absurd (show false = true from hs) Bool.false_ne_true
  | byt i =>
    obtain ⟨t, rfl⟩ := rx
    cases y with
    | byt j => obtain ⟨t', rfl⟩ := ry; exact PySem.W.ne_bytes (fin_bl I q (congrArg not dec_byt))
    | _ => exact absurd (show false = true from hs) Bool.false_ne_true
  | _ => cases y <;> exact absurd (show false = true from hs) Bool.false_ne_true
theorem op_lt : OpR X (compareOp .Lt) (rI0 fun i j => .bl (decide (i < j))) := opB0 fun _ _ _ _ _ _ _ q => lt_int q
theorem op_le : OpR X (compareOp .LtE) (rI0 fun i j => .bl (decide (i ≤ j))) := opB0 fun _ _ _ _ _ _ _ q => le_int q
theorem op_gt : OpR X (compareOp .Gt) (rI0 fun i j => .bl (decide (j < i))) := opB0 fun _ _ _ _ _ _ _ q => gt_int q
theorem op_ge : OpR X (compareOp .GtE) (rI0 fun i j => .bl (decide (j ≤ i))) := opB0 fun _ _ _ _ _ _ _ q => ge_int q
theorem OpR.or {f : Value → Value → Sem Value} {r r' : R2} (h : OpR X f r) (h' : OpR X f r') : OpR X f (fun x y H Q => r x y H Q ∨ r' x y H Q) := by
  intro pins s σ H x y v u Q I rx ry q
  rcases q with q | q
  · exact h pins s σ H x y v u Q I rx ry q
  · exact h' pins s σ H x y v u Q I rx ry q
theorem nomark (b : Expr) {op : CmpOp} (h : op ≠ .In := by decide) (h2 : op ≠ .NotIn := by decide) : behindInMarks op b = false := by
  have e1 : (op == CmpOp.In) = false := by cases op <;> first | rfl | exact absurd rfl h
  have e2 : (op == CmpOp.NotIn) = false := by cases op <;> first | rfl | exact absurd rfl h2
  cases b <;> simp [behindInMarks, e1, e2]
theorem pe_cmpR {op : CmpOp} {r : R2} (ho : OpR X (compareOp op) r) (ha : PE X a ta) (hb : PE X b tb) (hm : behindInMarks op b = false) : PE X (.Compare a [op] [b] pos) (tOp r ta tb) := by
  intro pins s σ H Q I h
  exact wpAny_Compare1 (binT ha hb I h fun v u s2 x y H2 I2 rx ry q => ho pins s2 σ H2 x y v u Q I2 rx ry q) hm
def tTest (t : TE) : TT := fun σ H Q => t σ H fun x H' => ∃ k, x = .bl k ∧ Q k H'
theorem pt_cmpR {op : CmpOp} {r : R2} (ho : OpR X (compareOp op) r) (ha : PE X a ta) (hb : PE X b tb) (hm : behindInMarks op b = false) : PT X (.Compare a [op] [b] pos) (tTest (tOp r ta tb)) := by
  intro pins s σ H Q I h
  refine wpAny_isTrue_Compare1 (thn (ha pins s σ H _ I h) fun v s1 ⟨x, H1, I1, r1, q1⟩ => thn (hb pins s1 σ H1 _ I1 q1) fun u s2 ⟨y, H2, I2, r2, q2⟩ =>
    thn (ho pins s2 σ H2 x y v u _ I2 r1 r2 q2) fun c s3 ⟨z, H3, I3, r3, k, e, q3⟩ => ?_) hm
  subst e
  cases r3
  exact wpAny_truthy_bool ⟨H3, I3, q3⟩
def tChain (r r' : R2) (ta tb tc : TE) : TE := fun σ H Q => ta σ H fun x H1 => tb σ H1 fun y H2 => r x y H2 fun z H3 => ∃ k, z = .bl k ∧
  (if k = true then tc σ H3 fun w' H4 => r' y w' H4 Q else Q (.bl false) H3)
theorem pe_chain {op op' : CmpOp} {r r' : R2} (ho : OpR X (compareOp op) r) (ho' : OpR X (compareOp op') r') (ha : PE X a ta) (hb : PE X b tb) (hc : PE X c tc)
    (hm : lastMarks [op, op'] [b, c] = false := by with_unfolding_all rfl) : PE X (.Compare a [op, op'] [b, c] pos) (tChain r r' ta tb tc) := by
  intro pins s σ H Q I h
  refine Compare_chain (thn (ha pins s σ H _ I h) fun v s1 ⟨x, H1, I1, r1, q1⟩ => chain_link (thn (hb pins s1 σ H1 _ I1 q1) fun u s2 ⟨y, H2, I2, r2, q2⟩ =>
    thn (ho pins s2 σ H2 x y v u _ I2 r1 r2 q2) fun d s3 ⟨z, H3, I3, r3, k, e, q3⟩ => ?_)) hm
  subst e
  cases r3
  refine wpAny_truthy_bool ?_
  cases k with
  | false => exact ite_ff ⟨.bl false, H3, I3, rfl, q3⟩
  | true => exact ite_tt (chain_last (thn (hc pins s3 σ H3 _ I3 q3) fun w' s4 ⟨z', H4, I4, r4, q4⟩ => ho' pins s4 σ H4 y z' u w' Q I4 r2 r4 q4))
theorem line63 : (sizeLine : Nat) < 2 ^ 63 := by rw [sizeLine_eq]; decide
theorem vals1 {x : V} {us : List Value} (r : Vals [x] us) : ∃ u, us = [u] ∧ RelV x u := by
  cases r with
  | cons r1 r2 => cases r2; exact ⟨_, rfl, r1⟩
theorem vals2 {x y : V} {us : List Value} (r : Vals [x, y] us) : ∃ u w', us = [u, w'] ∧ RelV x u ∧ RelV y w' := by
  cases r with
  | cons r1 r2 =>
    cases r2 with
    | cons r3 r4 => cases r4; exact ⟨_, _, rfl, r1, r3⟩
theorem call_max2 (hc : X.calm = true) : CallR X (.builtin "max") (fun xs H Q => ∃ i j, xs = [.int i, .int j] ∧ Q (.int (if j > i then j else i)) H) := by
  intro pins s σ H xs us Q I r h
  obtain ⟨i, j, rfl, q⟩ := h
  obtain ⟨u, w', rfl, ⟨t, rfl⟩, ⟨t', rfl⟩⟩ := vals2 r
  refine max_two_ints (I.ok.hd hc) fun h' tk k => ⟨_, H, I.kept k, ?_, q⟩
  by_cases hj : j > i
  · rw [if_pos hj, if_pos hj]; exact ⟨_, rfl⟩
  · rw [if_neg hj, if_neg hj]; exact ⟨_, rfl⟩
theorem call_min2 (hc : X.calm = true) : CallR X (.builtin "min") (fun xs H Q => ∃ i j, xs = [.int i, .int j] ∧ Q (.int (if j < i then j else i)) H) := by
  intro pins s σ H xs us Q I r h
  obtain ⟨i, j, rfl, q⟩ := h
  obtain ⟨u, w', rfl, ⟨t, rfl⟩, ⟨t', rfl⟩⟩ := vals2 r
  refine min_two_ints (I.ok.hd hc) fun h' tk k => ⟨_, H, I.kept k, ?_, q⟩
  by_cases hj : j < i
  · rw [if_pos hj, if_pos hj]; exact ⟨_, rfl⟩
  · rw [if_neg hj, if_neg hj]; exact ⟨_, rfl⟩
theorem call_int1 : CallR X (.type "int") (fun xs H Q => (∃ i, xs = [.int i] ∧ Q (.int i) H) ∨ ∃ k, xs = [.bl k] ∧ Q (.int (if k then 1 else 0)) H) := by
  intro pins s σ H xs us Q I r h
  rcases h with ⟨i, rfl, q⟩ | ⟨k, rfl, q⟩
  · obtain ⟨u, rfl, t, rfl⟩ := vals1 r
    exact call_int_int ⟨.int i, H, I, ⟨_, rfl⟩, q⟩
  · obtain ⟨u, rfl, r1⟩ := vals1 r
    cases r1
    exact call_int_bool ⟨.int (if k then 1 else 0), H, I.tok _, ⟨_, rfl⟩, q⟩
theorem call_str_int : CallR X (.type "str") (fun xs H Q => ∃ i, xs = [.int i] ∧ i.natAbs.log2 < 1920 ∧ Q (.str (toString i)) H) := by
  intro pins s σ H xs us Q I r h
  obtain ⟨i, rfl, hz, q⟩ := h
  obtain ⟨u, rfl, t, rfl⟩ := vals1 r
  exact PySem.P.str_of_int hz ⟨.str _, H, I.tok _, ⟨_, rfl⟩, q⟩
end
end L2
namespace L2
open PySem PySem.Spec PyProof.Rows
structure ObjM (h : Heap) (x dx C : Addr) (mA : Str → Option Value) : Prop where
  obj : h.get? x = some (PySem.W.instObj C dx)
  ns : h.Ns1 dx mA
  ne : dx ≠ x
theorem lookIn_ns {h : Heap} {dx : Addr} {mA : Str → Option Value} (n : h.Ns1 dx mA) : ∃ od, h.get? dx = some od ∧ ∀ name, PySem.W.lookIn name od = some (mA name) := by
  obtain ⟨o, es, ep, ho, hd, hk, _, hm⟩ := n
  refine ⟨o, ho, fun name => ?_⟩
  have e := hm name
  unfold nsFind findBy at e
  rw [← Array.find?_toList] at e
  unfold PySem.W.lookIn
  rw [hd]
  dsimp only
  split
  · rename_i y q
    rw [q] at e
    exact congrArg some e
  · rename_i q
    rw [q] at e
    have a : es.toList.any (·.refKey) = false := by
      rw [List.any_eq_false]
      intro y hy
      obtain ⟨z, t, hkey⟩ := hk y (Array.mem_toList_iff.mp hy)
      simp [DictEntry.refKey, hkey]
    have a' : ¬ es.toList.any (·.refKey) = true := by rw [a]; exact Bool.false_ne_true
    rw [if_neg a']
    exact congrArg some e
theorem ObjM.look {h : Heap} {x dx C : Addr} {mA : Str → Option Value} (I : ObjM h x dx C mA) : ∃ od, PySem.W.InstAt h x (PySem.W.instObj C dx) C (some od) ∧ ∀ name, PySem.W.lookIn name od = some (mA name) :=
  let ⟨od, ho, hl⟩ := lookIn_ns I.ns
  ⟨od, ⟨I.obj, rfl, rfl, ho⟩, hl⟩
section
variable {prog : Program} {w : World} {A : Around} {E : Value → Shared → Prop} {s : Shared} {K : PySem.W.Frag} {x dx C f : Addr} {mA : Str → Option Value} {name : Str} {v : Value}
theorem get_map {expr : Bool} {Q : Value → Shared → Prop} (X : K.In s.heap) (I : ObjM s.heap x dx C mA) (hg : PySem.W.plainGet K C name = true) (hh : PySem.W.hasDictIn K C = true)
    (ha : PySem.W.findIn K (.ref C) name = some none) (hv : mA name = some v) (hv' : PySem.W.handedIn v = true) (h : Q v { s with toks := s.toks + 1 }) :
    wpAny (model prog w) A (getAttr (.ref x) name expr) Q E s := by
  obtain ⟨od, J, hl⟩ := I.look
  exact PySem.W.get_value X J (PySem.W.plainGet_of hg).1 (PySem.W.findObj_own hh ha rfl (by rw [hl, hv])) hv' h
theorem get_meth {pl : Sem Bool} {Q : Value × List Value → Shared → Prop} (X : K.In s.heap) (I : ObjM s.heap x dx C mA) (hg : PySem.W.plainGet K C name = true)
    (hf : PySem.W.findIn K (.ref C) name = some (some (.ref f))) (ht : PySem.W.isFn K (.ref f) = true) (hv : mA name = none) (h : Q (.ref f, [.ref x]) s) :
    wpAny (model prog w) A (getMethod (.ref x) name pl) Q E s := by
  obtain ⟨od, J, hl⟩ := I.look
  exact PySem.W.method_fn X J (PySem.W.plainGet_of hg).1 (PySem.W.plainGet_of hg).2 hf (beq_iff_eq.mp ht) (by show (PySem.W.lookIn name od).map (·.isSome) = some false; rw [hl, hv]; rfl) h
theorem set_map {ns : List Str} {Q : Unit → Shared → Prop} (X : K.In s.heap) (I : ObjM s.heap x dx C mA)
    (hs : PySem.W.findIn K (.ref C) "__setattr__" = some (some (.builtin "object.__setattr__"))) (hp : PySem.W.plainOver K C = true) (ht : PySem.W.takerIn K C name = some none) (hh : PySem.W.hasDictIn K C = true)
    (hw : PySem.Within mA ns) (hsz : ns.length ≤ sizeLine)
    (h : ∀ h', ObjM h' x dx C (fun y => if y = name then some v else mA y) → Heap.SameBut dx s.heap h' → Q () { s with heap := h', toks := s.toks + 2 }) :
    wpAny (model prog w) A (setAttr (.ref x) name v) Q E s := by
  obtain ⟨od, J, hl⟩ := I.look
  refine PySem.W.set_plain X J hs (PySem.W.osa_open (s := { s with toks := s.toks + 1 }) (r := none) X J hp ht fun b => ?_)
  obtain ⟨cd, hc, hd'⟩ := PySem.W.any_some hh
  have hx : s.heap.get? x = some ⟨.ref C, some dx, .plain, #[]⟩ := I.obj
  refine wpAny_bind (wpAny_pure (wpAny_bind (wpAny_bind (wpAny_loadPart hx (wpAny_bind (PySem.W.Looks.here (s := { s with toks := s.toks + 1 }) (PySem.W.looks_clsIn X hc) ?_))))))
  rw [hd']
  refine wpAny_pure (a := some dx) (wpAny_bind (wpAny_pure (wpAny_bind ?_)))
  refine wpAny_nsSet1 (s := { s with toks := s.toks + 1 }) I.ns fun h' hn2 hs2 => ?_
  obtain ⟨oD, esD, epD, hoD, hdD, hcD⟩ := hn2.count (PySem.Within.cons name v hw)
  refine wpAny_bind (wpAny_lookBehind hoD (by rw [hdD]; exact pastItsLine_dict (Nat.le_trans hcD (by rw [List.length_cons]; omega))) ?_)
  exact wpAny_pure (h _ ⟨(hs2.2 _ (Ne.symm I.ne)).trans I.obj, hn2, I.ne⟩ hs2)
theorem make_map {R : Result → Shared → Prop} {vs : List Value} {kw : List (Str × Value)} (X : K.In s.heap) (hm : PySem.W.makesIn K C = true)
    (hi : PySem.W.findIn K (.ref C) "__init__" = some (some (.ref f))) (hf : PySem.W.typeIn K (.ref f) = some (.type "function"))
    (h : codeAny (model prog w) (A.under (.builtin "type.__call__" ⟨.ref C :: vs, kw⟩)) (.call (.ref f) ⟨.ref (s.heap.objs.size + 1) :: vs, kw⟩) (PySem.W.InitBack (s.heap.objs.size + 1) R)
      { s with heap := (s.heap.push PySem.W.emptyDict).push (PySem.W.instObj C s.heap.objs.size) }) :
    codeAny (model prog w) A (.call (.ref C) ⟨vs, kw⟩) R s := by
  obtain ⟨hh, g, d, t, os⟩ := s
  exact PySem.W.make_core (PySem.W.makes_of X hm) (PySem.W.looks_findIn X hi) (fun self => PySem.W.bind_fn X self hf) (.inl rfl) h
end
def putF (f : Str) (v : V) : List (Str × V) → List (Str × V)
  | [] => [(f, v)]
  | (g, x) :: r => if g = f then (g, v) :: r else (g, x) :: putF f v r
theorem lookup_putF (f g : Str) (v : V) : ∀ fs : List (Str × V), (putF f v fs).lookup g = if g = f then some v else fs.lookup g
  | [] => by
    show List.lookup g [(f, v)] = _
    by_cases h : g = f
    · have hb : (g == f) = true := beq_iff_eq.mpr h
      simp only [List.lookup, hb, if_pos h]
    · have hb : (g == f) = false := beq_eq_false_iff_ne.mpr h
      simp only [List.lookup, hb, if_neg h]
  | (k, x) :: r => by
    have ih := lookup_putF f g v r
    rw [show putF f v ((k, x) :: r) = (if k = f then (k, v) :: r else (k, x) :: putF f v r) from rfl]
    by_cases hk : k = f
    · rw [if_pos hk]
      by_cases h : g = k
      · have hb : (g == k) = true := beq_iff_eq.mpr h
        simp only [List.lookup, hb, if_pos (h.trans hk)]
      · have hb : (g == k) = false := beq_eq_false_iff_ne.mpr h
        simp only [List.lookup, hb, if_neg (fun e : g = f => h (e.trans hk.symm))]
    · rw [if_neg hk]
      by_cases h : g = k
      · have hb : (g == k) = true := beq_iff_eq.mpr h
        simp only [List.lookup, hb, if_neg (fun e : g = f => hk (h.symm.trans e))]
      · have hb : (g == k) = false := beq_eq_false_iff_ne.mpr h
        simp only [List.lookup, hb]
        exact ih
theorem keys_putF (f : Str) (v : V) : ∀ fs : List (Str × V), f ∈ (putF f v fs).map (·.1) ∧ ∀ g, g ∈ fs.map (·.1) → g ∈ (putF f v fs).map (·.1)
  | [] => ⟨by simp [putF], fun g h => by simp at h⟩
  | (k, x) :: r => by
    obtain ⟨i1, i2⟩ := keys_putF f v r
    rw [show putF f v ((k, x) :: r) = (if k = f then (k, v) :: r else (k, x) :: putF f v r) from rfl]
    by_cases hk : k = f
    · rw [if_pos hk]
      subst hk
      exact ⟨by simp, fun g h => by simpa using h⟩
    · rw [if_neg hk]
      refine ⟨?_, fun g h => ?_⟩
      · rw [List.map_cons]
        exact List.mem_cons_of_mem _ i1
      · rw [List.map_cons] at h ⊢
        rcases List.mem_cons.mp h with e | e
        · exact List.mem_cons.mpr (.inl e)
        · exact List.mem_cons_of_mem _ (i2 g e)
theorem length_putF (f : Str) (v : V) : ∀ fs : List (Str × V), (putF f v fs).length ≤ fs.length + 1
  | [] => by simp [putF]
  | (k, x) :: r => by
    have ih := length_putF f v r
    rw [show putF f v ((k, x) :: r) = (if k = f then (k, v) :: r else (k, x) :: putF f v r) from rfl]
    by_cases hk : k = f
    · rw [if_pos hk, List.length_cons, List.length_cons]; omega
    · rw [if_neg hk, List.length_cons, List.length_cons]; omega
theorem RelO.some_of {v : V} {o : Option Value} (r : RelO (some v) o) : ∃ u, o = some u ∧ RelV v u := by
  cases o with
  | none => exact (show False from r).elim
  | some u => exact ⟨u, rfl, r⟩
theorem RelO.none_of {o : Option Value} (r : RelO none o) : o = none := by
  cases o with
  | none => rfl
  | some u => exact (show False from r).elim
theorem handed_of {v : V} {u : Value} (r : RelV v u) : PySem.W.handedIn u = true := by
  cases v with
  | non => cases (show u = Value.none from r); rfl
  | bl b => cases (show u = Value.bool b from r); rfl
  | int i => obtain ⟨t, e⟩ := (show ∃ t, u = Value.int i t from r); cases e; rfl
  | str x => obtain ⟨t, e⟩ := (show ∃ t, u = Value.str x t from r); cases e; rfl
  | byt b => obtain ⟨t, e⟩ := (show ∃ t, u = Value.bytes b t from r); cases e; rfl
  | flt b => obtain ⟨t, e⟩ := (show ∃ t, u = Value.float b t from r); cases e; rfl
  | ref a => cases (show u = Value.ref a from r); rfl
  | ty n => cases (show u = Value.type n from r); rfl
section
variable {P : Program} {w : World} {H H' : Hp} {h h' : Heap} {a C dx : Addr} {fs fs' : List (Str × V)}
theorem ins_get (hok : HOk P w H h) (e : H a = some (.ins C dx fs)) : ∃ mA, ObjM h a dx C mA ∧ (∀ f, RelO (fs.lookup f) (mA f)) ∧ PySem.Within mA (fs.map (·.1)) ∧ fs.length ≤ 1000 ∧ H dx = some (.own a) := by
  obtain ⟨d, z, ne, ob, mA, n, r, q⟩ := (show ObjOk P w H h a (.ins C dx fs) from hok a _ e)
  exact ⟨mA, ⟨ob, n, ne⟩, r, q, z, d⟩
end
structure Cls (K : PySem.W.Frag) (C : Addr) : Prop where
  pg : PySem.W.plainGet K C Str.empty = true
  hd : PySem.W.hasDictIn K C = true
  po : PySem.W.plainOver K C = true
  sa : PySem.W.findIn K (.ref C) "__setattr__" = some (some (.builtin "object.__setattr__"))
theorem Cls.get {K : PySem.W.Frag} {C : Addr} (c : Cls K C) (f : Str) : PySem.W.plainGet K C f = true := c.pg
def NoAttr (K : PySem.W.Frag) (C : Addr) (f : Str) : Prop := PySem.W.findIn K (.ref C) f = some none
theorem NoAttr.taker {K : PySem.W.Frag} {C : Addr} {f : Str} (n : NoAttr K C f) : PySem.W.takerIn K C f = some none := by
  unfold PySem.W.takerIn
  rw [show PySem.W.findIn K (.ref C) f = some none from n]
  rfl
structure Meth (K : PySem.W.Frag) (C : Addr) (m : Str) (f : Addr) : Prop where
  at_ : PySem.W.findIn K (.ref C) m = some (some (.ref f))
  fn : PySem.W.isFn K (.ref f) = true
  kp : PySem.W.keepIn K (.ref f) = true
section
variable {X : Cx} {pins : List (Addr × Obj)} {σ : St} {H : Hp} {s : Shared} {a C dx : Addr} {fs : List (Str × V)} {f : Str} {v : V} {A : Around} {E : Value → Shared → Prop}
theorem getattr_ok {b : Bool} {Q : Value → Shared → Prop} (I : Inv X pins σ H s) (e : H a = some (.ins C dx fs)) (c : Cls X.K C) (n : NoAttr X.K C f) (l : fs.lookup f = some v)
    (h : ∀ u s', Inv X pins σ H s' → RelV v u → Q u s') : wpAny (model X.prog X.w) A (getAttr (.ref a) f b) Q E s := by
  obtain ⟨mA, O, r, _, _, _⟩ := ins_get I.hok e
  obtain ⟨u, hu, ru⟩ := RelO.some_of (v := v) (o := mA f) (by rw [← l]; exact r f)
  exact get_map I.kIn O (c.get f) c.hd n hu (handed_of ru) (h u _ (I.tok _) ru)
theorem getmeth_ok {m : Str} {g : Addr} {pl : Sem Bool} {Q : Value × List Value → Shared → Prop} (I : Inv X pins σ H s) (e : H a = some (.ins C dx fs)) (c : Cls X.K C) (k : Meth X.K C m g) (l : fs.lookup m = none)
    (h : Q (.ref g, [.ref a]) s) : wpAny (model X.prog X.w) A (getMethod (.ref a) m pl) Q E s := by
  obtain ⟨mA, O, r, _, _, _⟩ := ins_get I.hok e
  have hn : mA m = none := RelO.none_of (by rw [← l]; exact r m)
  exact get_meth I.kIn O (c.get m) k.at_ k.fn hn h
theorem setattr_ok {y : V} {u : Value} {Q : Unit → Shared → Prop} (I : Inv X pins σ H s) (e : H a = some (.ins C dx fs)) (c : Cls X.K C) (n : NoAttr X.K C f) (hl : fs.length < 1000) (ry : RelV y u)
    (h : ∀ s', Inv X pins σ (upd H a (.ins C dx (putF f y fs))) s' → Q () s') : wpAny (model X.prog X.w) A (setAttr (.ref a) f u) Q E s := by
  obtain ⟨mA, O, r, wi, _, ho⟩ := ins_get I.hok e
  have hz : (fs.map (·.1)).length ≤ sizeLine := by rw [List.length_map, sizeLine_eq]; omega
  refine set_map I.kIn O c.sa c.po n.taker c.hd wi hz fun h' O' sb => h _ ?_
  have hd : ∃ o, h'.get? dx = some o := let ⟨o, _, _, e', _⟩ := O'.ns; ⟨o, e'⟩
  refine I.write (x := a) (e := dx) (by rw [e]; exact True.intro) (.inr ho) (fun b q hb z => (sb.2 b hb).trans z) hd ?_
  refine ⟨by rw [upd_ne O.ne]; exact ho, ?_, O.ne, O'.obj, _, O'.ns, fun g => ?_, fun g hg => ?_⟩
  · have := length_putF f y fs; omega
  · show RelO ((putF f y fs).lookup g) (if g = f then some u else mA g)
    rw [lookup_putF]
    by_cases q : g = f
    · rw [if_pos q, if_pos q]; exact ry
    · rw [if_neg q, if_neg q]; exact r g
  · by_cases q : g = f
    · rw [q]; exact (keys_putF f y fs).1
    · refine (keys_putF f y fs).2 g (wi g fun z => hg ?_)
      show (if g = f then some u else mA g) = none
      rw [if_neg q]; exact z
theorem Inv.made (I : Inv X pins σ H s) : Inv X pins σ (upd (upd H s.heap.objs.size (.own (s.heap.objs.size + 1))) (s.heap.objs.size + 1) (.ins C s.heap.objs.size []))
    { s with heap := (s.heap.push PySem.W.emptyDict).push (PySem.W.instObj C s.heap.objs.size) } := by
  have e1 : (s.heap.push PySem.W.emptyDict).get? s.heap.objs.size = some PySem.W.emptyDict := Heap.get?_push_size s.heap rfl
  have e2 : ((s.heap.push PySem.W.emptyDict).push (PySem.W.instObj C s.heap.objs.size)).get? (s.heap.objs.size + 1) = some (PySem.W.instObj C s.heap.objs.size) := by
    have := Heap.get?_push_size (s.heap.push PySem.W.emptyDict) (o := PySem.W.instObj C s.heap.objs.size) rfl
    rwa [Heap.size_push] at this
  have e3 : (s.heap.push PySem.W.emptyDict).Ns s.heap.objs.size (fun _ => none) := ⟨PySem.W.emptyDict, #[], _, e1, rfl, (fun e he => absurd he (by simp)), fun _ => rfl⟩
  have I1 := I.laid (a := s.heap.objs.size) (o := .own (s.heap.objs.size + 1)) (h' := s.heap.push PySem.W.emptyDict) (t' := s.toks) (fun b u q => Heap.get?_push_of_some _ q) (Nat.le_refl _) ⟨_, e1⟩
  refine I1.laid (a := s.heap.objs.size + 1) (o := .ins C s.heap.objs.size []) (t' := s.toks) (fun b u q => Heap.get?_push_of_some _ q) (Nat.le_of_eq (Heap.size_push _ _)) ?_
  have ne : s.heap.objs.size ≠ s.heap.objs.size + 1 := Nat.ne_of_lt (Nat.lt_succ_self _)
  refine ⟨by rw [upd_ne ne, upd_same], Nat.zero_le _, ne, e2, fun _ => none, (Heap.Ns1.of_empty e3).at fun o q => Heap.get?_push_of_some _ q, fun _ => True.intro, fun y hy => absurd rfl hy⟩
theorem attr_of {prog : Program} {w : World} {env : Env} {e : Expr} {f : Str} {pos : Pos} {s : Shared} {Q : Value → Shared → Prop} (hb : attributeBase e f env (eval e env) = eval e env)
    (h : wpAny (model prog w) A (eval e env) (fun o s₁ => wpAny (model prog w) A (getAttr o f true) Q E s₁) E s) : wpAny (model prog w) A (eval (.Attribute e f pos) env) Q E s :=
  Attribute_any_ h (by rw [arm_eval_Attribute, hb])
end
section
variable {X : Cx} {o e value : Expr} {f : Str} {pos pos' tpos : Pos} {ta tv : TE}
end
section
variable {X : Cx} {pins : List (Addr × Obj)} {σ : St} {H : Hp} {s : Shared} {A : Around} {E : Value → Shared → Prop} {Q : Value → Shared → Prop} {c : Value} {b : Bool}
inductive TyOf (K : PySem.W.Frag) (H : Hp) : V → Value → Prop where
  | non : TyOf K H .non (.type "NoneType")
  | bl (x : Bool) : TyOf K H (.bl x) (.type "bool")
  | int (i : Int) : TyOf K H (.int i) (.type "int")
  | str (x : Str) : TyOf K H (.str x) (.type "str")
  | flt (x : UInt64) : TyOf K H (.flt x) (.type "float")
  | lst {a : Addr} {xs : List V} (e : H a = some (.lst xs)) : TyOf K H (.ref a) (.type "list")
  | frz {a : Addr} {o : Obj} {xs : List V} (e : H a = some (.frz o (.lst xs))) : TyOf K H (.ref a) (.type "list")
  | tup {a : Addr} {xs : List V} (e : H a = some (.tup xs)) : TyOf K H (.ref a) (.type "tuple")
  | dK {a : Addr} {kvs : List (Key × V)} (e : H a = some (.dK kvs)) : TyOf K H (.ref a) (.type "dict")
  | dT {a : Addr} {kvs : List (List Key × V)} (e : H a = some (.dT kvs)) : TyOf K H (.ref a) (.type "dict")
  | ins {a C dx : Addr} {fs : List (Str × V)} (e : H a = some (.ins C dx fs)) (cl : Cls K C) (ha : PySem.W.findIn K (.ref C) "__class__" = some (some (.builtin "object.__class__")))
      (hn : PySem.W.specialIn K (.builtin "object.__class__") "__get__" = some (some (.builtin "getset_descriptor.__get__"))) (htk : PySem.W.takesIn K (.builtin "object.__class__") = some true)
      (hm : PySem.W.mroIn K C (.type "object") = some true) : TyOf K H (.ref a) (.ref C)
theorem isinst_ok {x : V} {u t : Value} (I : Inv X pins σ H s) (rx : RelV x u) (ty : TyOf X.K H x t) (e : PySem.W.kitOne X.K t c = some b) (h : ∀ tk, Q (.bool b) { s with toks := tk }) :
    wpAny (model X.prog X.w) A (call (.builtin "isinstance") [u, c]) Q E s := by
  cases ty with
  | non => cases (show u = Value.none from rx); exact PySem.W.kia_one PySem.W.kitx_none I.kIn True.intro e (fun z => nomatch z) h
  | bl y => cases (show u = Value.bool y from rx); exact PySem.W.kia_one PySem.W.kitx_bool I.kIn True.intro e (fun z => nomatch z) h
  | int i => obtain ⟨t, q⟩ := (show ∃ t, u = Value.int i t from rx); cases q; exact PySem.W.kia_one PySem.W.kitx_int I.kIn True.intro e (fun z => nomatch z) h
  | str y => obtain ⟨t, q⟩ := (show ∃ t, u = Value.str y t from rx); cases q; exact PySem.W.kia_one PySem.W.kitx_str I.kIn True.intro e (fun z => nomatch z) h
  | flt y => obtain ⟨t, q⟩ := (show ∃ t, u = Value.float y t from rx); cases q; exact PySem.W.kia_one PySem.W.kitx_float I.kIn True.intro e (fun z => nomatch z) h
  | @lst a xs ea =>
    cases (show u = Value.ref a from rx)
    obtain ⟨_, _, n, _, h1⟩ := (show ObjOk X.prog X.w H s.heap a (.lst xs) from I.hok a _ ea)
    exact PySem.W.kia_one PySem.W.kitx_list I.kIn ⟨_, h1, rfl⟩ e (fun z => nomatch z) h
  | @frz a ob xs ea =>
    cases (show u = Value.ref a from rx)
    obtain ⟨_, _, _, n, _, h1⟩ := (show ObjOk X.prog X.w H s.heap a (.frz ob (.lst xs)) from I.hok a _ ea)
    exact PySem.W.kia_one PySem.W.kitx_list I.kIn ⟨_, h1, rfl⟩ e (fun z => nomatch z) h
  | @tup a xs ea =>
    cases (show u = Value.ref a from rx)
    obtain ⟨_, _, _, p⟩ := (show ObjOk X.prog X.w H s.heap a (.tup xs) from I.hok a _ ea)
    obtain ⟨o, h1, h2, _⟩ := p
    exact PySem.W.kia_one PySem.W.kitx_tuple I.kIn ⟨o, h1, h2⟩ e (fun z => nomatch z) h
  | @dK a kvs ea =>
    cases (show u = Value.ref a from rx)
    obtain ⟨_, _, vs, _, p⟩ := (show ObjOk X.prog X.w H s.heap a (.dK kvs) from I.hok a _ ea)
    obtain ⟨o, es, ep, h1, h2, _⟩ := p
    exact PySem.W.kia_one PySem.W.kitx_dict I.kIn ⟨o, h1, h2.1⟩ e (fun z => nomatch z) h
  | @dT a kvs ea =>
    cases (show u = Value.ref a from rx)
    obtain ⟨_, _, xs, _, o, es, ep, h1, h2, _⟩ := (show ObjOk X.prog X.w H s.heap a (.dT kvs) from I.hok a _ ea)
    exact PySem.W.kia_one PySem.W.kitx_dict I.kIn ⟨o, h1, h2.1⟩ e (fun z => nomatch z) h
  | @ins a C dx fs ea cl ha hn htk hm =>
    cases (show u = Value.ref a from rx)
    obtain ⟨mA, O, _⟩ := ins_get I.hok ea
    obtain ⟨od, J, _⟩ := O.look
    exact PySem.W.kia_one (PySem.W.kitx_own (cl.get _) cl.hd ha hn htk hm) I.kIn J e (fun z => nomatch z) h
end
end L2
namespace L2
open PySem PySem.Spec PyProof.Rows
structure Room (k : Nat) (A : Around) : Prop where
  hd : A.handled = none
  dp : A.depth + 3 * k + 5 < recursionLimit
  un : A.units + 16 * k + 200 < cLine
  gd : A.guards = some []
theorem Room.mono {j k : Nat} {A : Around} (r : Room k A) (h : j ≤ k) : Room j A := ⟨r.hd, by have := r.dp; omega, by have := r.un; omega, r.gd⟩
theorem Room.deeper {k : Nat} {A : Around} (r : Room (k + 1) A) (env : Env) : Room k (A.deeper env) :=
  ⟨r.hd, by have := r.dp; show A.depth + 1 + 3 * k + 5 < _; omega, by have := r.un; show A.units + 3 + 16 * k + 200 < _; omega, r.gd⟩
theorem make_depth {A : Around} {C : Addr} {us : List Value} {kw : List (Str × Value)} : (A.under (.builtin "type.__call__" ⟨.ref C :: us, kw⟩)).depth = A.depth + 1 := by
  first | rfl | simp [Around.under, Code.weight, Code.isCreation, Code.isGuard, Code.isCaller, Code.frames, Code.isFrame, guardIds]
theorem make_units {A : Around} {C : Addr} {us : List Value} {kw : List (Str × Value)} : (A.under (.builtin "type.__call__" ⟨.ref C :: us, kw⟩)).units = A.units + 1 := by
  first | rfl | simp [Around.under, Code.cUnits, Code.frames, Code.isFrame]
theorem make_guards {A : Around} {C : Addr} {us : List Value} {kw : List (Str × Value)} : (A.under (.builtin "type.__call__" ⟨.ref C :: us, kw⟩)).guards = A.guards := by
  first | rfl | (simp [Around.under, Around.pushGuard, Code.isGuard, guardIds]; done)
theorem Room.make {k : Nat} {A : Around} (r : Room (k + 1) A) (C : Addr) (us : List Value) (kw : List (Str × Value)) : Room k (A.under (.builtin "type.__call__" ⟨.ref C :: us, kw⟩)) :=
  ⟨r.hd, by have := r.dp; rw [make_depth]; omega, by have := r.un; rw [make_units]; omega, by rw [make_guards]; exact r.gd⟩
theorem Room.depth {k : Nat} {A : Around} (r : Room k A) : A.depth < recursionLimit := by have := r.dp; omega
theorem Room.units {k : Nat} {A : Around} (r : Room k A) : A.units + 64 < cLine := by have := r.un; omega
def tNil : TA := fun _ H Q => Q [] H
def tCons (ta : TE) (tr : TA) : TA := fun σ H Q => ta σ H fun x H1 => tr σ H1 fun xs H2 => Q (x :: xs) H2
section
variable {X : Cx} {e : Expr} {es : List Expr} {te : TE} {t : TA} {pos : Pos}
theorem pa_nil : PA X [] tNil := fun _ _ _ _ H Q I h => Calls.spliced_nil ⟨[], H, I, .nil, h⟩
theorem pa_cons (ha : PE X e te) (hr : PA X es t) (hs : starEach (e :: es) X.env = (false, eval e X.env) :: starEach es X.env := by rfl) : PA X (e :: es) (tCons te t) := by
  intro pos pins s σ H Q I h
  rw [hs]
  show wpAny _ _ (spliced ((false, eval e X.env) :: backTo pos (starEach es X.env))) _ _ s
  refine Calls.spliced_cons (thn (ha pins s σ H _ I h) fun u s1 ⟨x, H1, I1, r1, q1⟩ => ?_)
  exact thn (hr pos pins s1 σ H1 _ I1 q1) fun us s2 ⟨xs, H2, I2, r2, q2⟩ => ⟨x :: xs, H2, I2, .cons r1 r2, q2⟩
end
abbrev Sp := List V → Hp → VK → XK → Prop
abbrev CXT := List Env → Hp → Shared → XK → Value → Shared → Prop
structure Env0 (P : Program) (w : World) (K : PySem.W.Frag) (mg : Str → Option Value) (base : Heap) (A : Around) (outer : List Env) (s : Shared) (H : Hp) : Prop where
  frames : A.frames = some outer
  mod : Mod K mg base
  bs : ∀ b o, base.get? b = some o → s.heap.get? b = some o ∧ H b = none
  bsz : base.objs.size ≤ s.heap.objs.size
  funs : s.heap.FunFrames base outer
  frf : ∀ b ∈ frs outer, H b = none
  hok : HOk P w H s.heap
  bare : AllBare s.gens
def CE (outer : List Env) (P : Program) (w : World) (H : Hp) (s : Shared) (Q : VK) (u : Value) (s' : Shared) : Prop :=
  ∃ v H', s'.os = s.os ∧ AllBare s'.gens ∧ Un (frs outer) [] H H' s.heap s'.heap ∧ HOk P w H' s'.heap ∧ RelV v u ∧ Q v H'
def CR (CX : CXT) (outer : List Env) (P : Program) (w : World) (H : Hp) (s : Shared) (Q : VK) (E : XK) (r : Result) (s' : Shared) : Prop :=
  match r with
  | .ok (.ret u) => CE outer P w H s Q u s'
  | .ok _ => False
  | .error e => CX outer H s E e s'
structure FnOk (P : Program) (w : World) (K : PySem.W.Frag) (mg : Str → Option Value) (base : Heap) (CX : CXT) (k : Nat) (f : Addr) (fd : FuncData) (ps : List Str) (sp : Sp) : Prop where
  len : ∀ vs H Q E, sp vs H Q E → vs.length = ps.length
  run : ∀ (A : Around) (outer : List Env) (s : Shared) (H : Hp) (args : Args) (us : List Value) (vs : List V) (Q : VK) (E : XK), Room k A → Env0 P w K mg base A outer s H → BindsTo s fd args (ps.zip us) → Vals vs us → sp vs H Q E →
    codeAny (model P w) A (.call (.ref f) args) (CR CX outer P w H s Q E) s
theorem FnOk.imp {P : Program} {w : World} {K : PySem.W.Frag} {mg : Str → Option Value} {base : Heap} {CX : CXT} {k : Nat} {f : Addr} {fd : FuncData} {ps : List Str} {sp sp' : Sp} (F : FnOk P w K mg base CX k f fd ps sp)
    (h : ∀ vs H Q E, sp' vs H Q E → sp vs H Q E) : FnOk P w K mg base CX k f fd ps sp' :=
  ⟨fun vs H Q E q => F.len vs H Q E (h _ _ _ _ q), fun A outer s H args us vs Q E hr he hb hv hs => F.run A outer s H args us vs Q E hr he hb hv (h _ _ _ _ hs)⟩
theorem Env0.make {P : Program} {w : World} {K : PySem.W.Frag} {mg : Str → Option Value} {base : Heap} {A : Around} {outer : List Env} {s : Shared} {H : Hp} (e : Env0 P w K mg base A outer s H) (C : Addr) (us : List Value) (kw : List (Str × Value)) :
    Env0 P w K mg base (A.under (.builtin "type.__call__" ⟨.ref C :: us, kw⟩)) outer s H := ⟨by first | exact e.frames | (simpa [Around.under, Code.envs, Code.isFrame, pushEnvs] using e.frames), e.mod, e.bs, e.bsz, e.funs, e.frf, e.hok, e.bare⟩
section
variable {X : Cx} {pins : List (Addr × Obj)} {σ : St} {H : Hp} {s s' : Shared}
theorem Inv.env0 (I : Inv X pins σ H s) : Env0 X.prog X.w X.K X.mg X.base X.A X.stack s H :=
  ⟨I.ok.frames, I.ok.mod, I.bs, Nat.le_trans I.ok.bsz I.sz, I.stack, I.stkFree, I.hok, I.bare⟩
theorem Inv.after {Q : VK} {u : Value} (I : Inv X pins σ H s) (h : CE X.stack X.prog X.w H s Q u s') : EP X pins σ Q u s' := by
  obtain ⟨v, H', os, bare, un, hok, r, q⟩ := h
  obtain ⟨hh, g, d, t, os'⟩ := s'
  obtain rfl : os' = s.os := os
  exact ⟨v, H', I.call (h' := hh) (g' := g) (d' := d) (t' := t) (ch := []) un hok bare (fun b z => absurd z (by simp)), r, q⟩
end
def tCall (sp : Sp) (dvs : List V) (E : XK) (t : TA) : TE := fun σ H Q => t σ H fun vs H1 => sp (vs ++ dvs) H1 Q E
def Binds (K : PySem.W.Frag) (fd : FuncData) (ps : List Str) (ds : List Value) : Prop :=
  ∀ (s : Shared) (us : List Value), K.In s.heap → (us ++ ds).length = ps.length → BindsTo s fd ⟨us, []⟩ (ps.zip (us ++ ds))
theorem Binds.all {K : PySem.W.Frag} {fd : FuncData} {ps : List Str} (h : ∀ us : List Value, us.length = ps.length → bindArgs fd ⟨us, []⟩ = pure (ps.zip us)) : Binds K fd ps [] := fun s us _ hl => by
  rw [List.append_nil] at hl ⊢
  exact .of_eq (h us hl)
def Passes (CX : CXT) (X : Cx) (E : XK) : Prop := ∀ (pins : List (Addr × Obj)) (σ : St) (H : Hp) (s : Shared) (e : Value) (s' : Shared), Inv X pins σ H s → CX X.stack H s E e s' → X.xe e s'
section
variable {X : Cx} {CX : CXT} {k : Nat} {f C : Addr} {fd : FuncData} {ps : List Str} {sp : Sp} {dvs : List V} {ds : List Value} {E : XK} {x m : Str} {p pos apos : Pos} {e o : Expr} {es : List Expr} {ta : TE} {t : TA}
theorem run_fn {pins : List (Addr × Obj)} {σ : St} {H : Hp} {s : Shared} {Q : VK} {us : List Value} {vs : List V} (F : FnOk X.prog X.w X.K X.mg X.base CX k f fd ps sp) (hr : Room k X.A) (hb : Binds X.K fd ps ds) (hd : Vals dvs ds) (hx : Passes CX X E)
    (I : Inv X pins σ H s) (r : Vals vs us) (h : sp (vs ++ dvs) H Q E) : wpAny (model X.prog X.w) X.A (call (.ref f) us) (EP X pins σ Q) X.xe s := by
  have r2 : Vals (vs ++ dvs) (us ++ ds) := r.append hd
  have hl : (us ++ ds).length = ps.length := by rw [← r2.length]; exact F.len _ _ _ _ h
  refine wpAny_call (codeAny_mono (F.run X.A X.stack s H ⟨us, []⟩ (us ++ ds) (vs ++ dvs) Q E hr I.env0 (hb s us I.kIn hl) r2 h) fun r s' hq => ?_)
  cases r with
  | error e => exact hx pins σ H s e s' I hq
  | ok fl =>
    cases fl with
    | ret u => exact I.after hq
    | next => exact False.elim hq
    | brk => exact False.elim hq
    | cont => exact False.elim hq
theorem pe_call (F : FnOk X.prog X.w X.K X.mg X.base CX k f fd ps sp) (hr : Room k X.A) (hg : Gl X x) (hm : X.mg x = some (.ref f)) (hk : PySem.W.keepIn X.K (.ref f) = true) (hb : Binds X.K fd ps ds) (hd : Vals dvs ds) (hx : Passes CX X E)
    (ha : PA X (e :: es) t) (hdb : (x == ("__debug__" : Str)) = false := by decide) (he : starEach (e :: es) X.env = (false, eval e X.env) :: starEach es X.env := by rfl) (hpl : (backTo pos (starEach es X.env)).any (·.1) = false := by rfl) :
    PE X (.Call (.Name x p) (e :: es) [] pos) (tCall sp dvs E t) := by
  intro pins s σ H Q I h
  refine wpAny_Call_Name_kw (ld_glob I hg hm ?_ hdb)
  refine PySem.W.callWith_K (h₀ := X.base) I.ok.mod.kin hk (thn (ha pos pins s σ H _ I h) fun us s1 ⟨vs, H1, I1, r, q⟩ => ⟨I1.kIn, ?_⟩) he hpl
  exact run_fn F hr hb hd hx I1 r q
structure Mk (K : PySem.W.Frag) (C f : Addr) : Prop where
  makes : PySem.W.makesIn K C = true
  init : PySem.W.findIn K (.ref C) "__init__" = some (some (.ref f))
  fn : PySem.W.isFn K (.ref f) = true
  kp : PySem.W.keepIn K (.ref C) = true
theorem run_make {pins : List (Addr × Obj)} {σ : St} {H : Hp} {s : Shared} {Q : VK} {us : List Value} {vs : List V} (M : Mk X.K C f) (F : FnOk X.prog X.w X.K X.mg X.base CX k f fd ps sp) (hr : Room (k + 1) X.A) (hb : Binds X.K fd ps ds) (hd : Vals dvs ds)
    (hx : Passes CX X E) (I : Inv X pins σ H s) (r : Vals vs us)
    (h : ∀ x dx, H x = none → H dx = none → dx ≠ x → sp (.ref x :: (vs ++ dvs)) (upd (upd H dx (.own x)) x (.ins C dx [])) (fun v H2 => v = .non ∧ Q (.ref x) H2) E) :
    wpAny (model X.prog X.w) X.A (call (.ref C) us) (EP X pins σ Q) X.xe s := by
  have hq := h (s.heap.objs.size + 1) s.heap.objs.size (I.hok.fresh (Nat.le_succ _)) (I.hok.fresh (Nat.le_refl _)) (Nat.ne_of_lt (Nat.lt_succ_self _))
  have I2 := Inv.made (C := C) I
  have r2 : Vals (V.ref (s.heap.objs.size + 1) :: (vs ++ dvs)) (Value.ref (s.heap.objs.size + 1) :: (us ++ ds)) := .cons rfl (r.append hd)
  have hl : (Value.ref (s.heap.objs.size + 1) :: us ++ ds).length = ps.length := by
    have e := r2.length
    rw [F.len _ _ _ _ hq] at e
    exact e.symm
  refine wpAny_call (make_map (f := f) I.kIn M.makes M.init (beq_iff_eq.mp M.fn) (codeAny_mono (F.run _ X.stack _ _ ⟨Value.ref (s.heap.objs.size + 1) :: us, []⟩ (Value.ref (s.heap.objs.size + 1) :: (us ++ ds)) _ _ E (hr.make C us [])
    (I2.env0.make C us []) (hb _ (Value.ref (s.heap.objs.size + 1) :: us) I2.kIn hl) r2 hq) fun r s' hq' => ?_))
  cases r with
  | error e => exact hx pins σ _ _ e s' I2 hq'
  | ok fl =>
    cases fl with
    | ret u =>
      obtain ⟨v, H', I3, rv, ev, q3⟩ := I2.after hq'
      subst ev
      exact ⟨rv, ⟨V.ref (s.heap.objs.size + 1), H', I3, rfl, q3⟩⟩
    | next => exact False.elim hq'
    | brk => exact False.elim hq'
    | cont => exact False.elim hq'
end
section
variable {X : Cx} {CX : CXT} {k : Nat} {f C : Addr} {fd : FuncData} {ps ks : List Str} {sp : Sp} {E : XK} {x m : Str} {p pos apos kpos : Pos} {e o : Expr} {es : List Expr} {kws : List Keyword} {te ta : TE} {t tk : TA} {nm : Option Str}
variable {g : List Value → List Value → List Value} {gV : List V → List V → List V}
end
structure FnScope (N P : List Str) (sc : Scope) : Prop where
  kind : sc.kind = .function
  co : sc.isCoroutine = false
  gen : sc.isGenerator = false
  nd : N.Nodup
  pre : N.take P.length = P
  par : ∀ x ∈ P, sc.names.lookup x = some .local ∨ sc.names.lookup x = some .cell
  nofree : ∀ y ∈ sc.names, y.2 ≠ .free
theorem bindL_out {kindOf : Str → Option NameKind} {x : Str} : ∀ {binds : List (Str × Value)} {m : Str → Option Value}, (∀ v, (x, v) ∉ binds) → bindL kindOf binds m x = m x
  | [], _, _ => rfl
  | (n, v) :: r, m, h => by
    unfold bindL
    rw [bindL_out fun w hw => h w (List.mem_cons_of_mem _ hw)]
    split
    · have : x ≠ n := by rintro rfl; exact h v List.mem_cons_self
      simp [this]
    · rfl
theorem bindC_out {kindOf : Str → Option NameKind} {x : Str} : ∀ {binds : List (Str × Value)} {m : Str → Option Value}, (∀ v, (x, v) ∉ binds) → bindC kindOf binds m x = m x
  | [], _, _ => rfl
  | (n, v) :: r, m, h => by
    unfold bindC
    rw [bindC_out fun w hw => h w (List.mem_cons_of_mem _ hw)]
    split
    · rfl
    · have : x ≠ n := by rintro rfl; exact h v List.mem_cons_self
      simp [this]
theorem bindL_get {kindOf : Str → Option NameKind} {x : Str} {v : Value} : ∀ {P : List Str} {vs : List Value} {i : Nat} {m : Str → Option Value}, P.Nodup → P[i]? = some x → vs[i]? = some v → kindOf x = some .local →
    bindL kindOf (P.zip vs) m x = some v
  | [], _, _, _, _, h, _, _ => by simp at h
  | _ :: _, [], _, _, _, _, h, _ => by simp at h
  | p :: P, w :: vs, 0, m, nd, h1, h2, hk => by
    simp at h1 h2; subst h1; subst h2
    show bindL kindOf ((p, w) :: P.zip vs) m p = _
    unfold bindL
    rw [bindL_out fun v hv => (List.nodup_cons.mp nd).1 (List.of_mem_zip hv).1, if_pos hk]
    simp
  | p :: P, w :: vs, i + 1, m, nd, h1, h2, hk => by
    show bindL kindOf ((p, w) :: P.zip vs) m x = _
    unfold bindL
    exact bindL_get (i := i) (List.nodup_cons.mp nd).2 (by simpa using h1) (by simpa using h2) hk
theorem bindC_get {kindOf : Str → Option NameKind} {x : Str} {v : Value} : ∀ {P : List Str} {vs : List Value} {i : Nat} {m : Str → Option Value}, P.Nodup → P[i]? = some x → vs[i]? = some v → kindOf x ≠ some .local →
    bindC kindOf (P.zip vs) m x = some v
  | [], _, _, _, _, h, _, _ => by simp at h
  | _ :: _, [], _, _, _, _, h, _ => by simp at h
  | p :: P, w :: vs, 0, m, nd, h1, h2, hk => by
    simp at h1 h2; subst h1; subst h2
    show bindC kindOf ((p, w) :: P.zip vs) m p = _
    unfold bindC
    rw [bindC_out fun v hv => (List.nodup_cons.mp nd).1 (List.of_mem_zip hv).1, if_neg hk]
    simp
  | p :: P, w :: vs, i + 1, m, nd, h1, h2, hk => by
    show bindC kindOf ((p, w) :: P.zip vs) m x = _
    unfold bindC
    exact bindC_get (i := i) (List.nodup_cons.mp nd).2 (by simpa using h1) (by simpa using h2) hk
def start (N : List Str) (vs : List V) : St := vs.map some ++ List.replicate (N.length - vs.length) none
def cxOf (CX : CXT) (P : Program) (w : World) (K : PySem.W.Frag) (mg : Str → Option Value) (base : Heap) (N : List Str) (qual : Str) (scope : Scope) (f : Addr) (cd : Value) (A : Around) (outer : List Env) (s : Shared) (H : Hp) (E : XK) : Cx where
  prog := P
  w := w
  K := K
  mg := mg
  base := base
  A := A.deeper (envOfC qual scope s.heap.objs.size f cd)
  N := N
  s₀ := s
  H₀ := H
  env := envOfC qual scope s.heap.objs.size f cd
  outer := outer
  stack := envOfC qual scope s.heap.objs.size f cd :: outer
  ex := []
  calm := true
  fn := fun _ => true
  pn := []
  xe := fun e s' => wpAny (model P w) (A.deeper (envOfC qual scope s.heap.objs.size f cd)) (leaving (envOfC qual scope s.heap.objs.size f cd) e) (fun _ s'' => CX outer H s E e s'') (fun e' s'' => CX outer H s E e' s'') s'
theorem cell_has {sc : Scope} {n : Nat} {x : Str} (h : sc.names.lookup x = some .cell) : ∃ c, (cellsFrom n sc.names []).lookup x = some c := by
  have q := PySem.W.cellsFrom_some sc.names n [] (.inl h)
  exact Option.isSome_iff_exists.mp q
theorem inv_start {CX : CXT} {P : Program} {w : World} {K : PySem.W.Frag} {mg : Str → Option Value} {base : Heap} {N ps : List Str} {qual : Str} {scope : Scope} {f : Addr} {cd : Value} {A : Around} {outer : List Env} {s s1 : Shared} {H : Hp} {E : XK} {us : List Value} {vs : List V}
    (S : FnScope N ps scope) (hd : A.handled = none) (e0 : Env0 P w K mg base A outer s H) (hl : vs.length = ps.length) (r : Vals vs us)
    (x : InCallC s s.heap.objs.size (bindL (envOfC qual scope s.heap.objs.size f cd).kindOf (ps.zip us) fun _ => none) (cellsFrom (s.heap.objs.size + 1) scope.names []) (bindC (envOfC qual scope s.heap.objs.size f cd).kindOf (ps.zip us) fun _ => none) s1) :
    Inv (cxOf CX P w K mg base N qual scope f cd A outer s H E) [] (start N vs) H s1 := by
  have hpl : ps.length ≤ N.length := by have := congrArg List.length S.pre; rw [List.length_take] at this; omega
  obtain ⟨h1, tk, rfl, hk⟩ := x.done
  have noA : ∀ b : Addr, b ∉ (cxOf CX P w K mg base N qual scope f cd A outer s H E).ex := fun b z => absurd (show b ∈ ([] : List Addr) from z) (by simp)
  refine ⟨⟨e0.mod, S.kind, rfl, rfl, Nat.le_refl _, fun y z c h1 h2 => ?_, fun y hy => ?_, fun y c _ h => ?_, fun _ => hd, Around.frames_deeper e0.frames, .inr ⟨rfl, rfl⟩, fun b z => absurd z (noA b), e0.bs, e0.bsz, fun b _ _ => noA b, fun b z => absurd z (noA b), e0.funs, e0.frf⟩,
    rfl, e0.bare, Un.kept hk, ⟨_, x.toInCall.ns, fun i y v h1 h2 h3 => ?_⟩, fun y c h => ⟨_, x.cell y c h⟩, e0.hok.fresh (Nat.le_refl _), fun y c h => ?_, fun p hp => absurd (show p ∈ ([] : List (Addr × Obj)) from hp) (by simp), e0.hok.kept hk, ?_⟩
  · exact name_of_addr x.apart (PySem.mem_of_lookup h1) (PySem.mem_of_lookup h2)
  · have hy : scope.names.lookup y = some .cell ∨ scope.names.lookup y = some .free := hy
    rcases hy with hy | hy
    · exact cell_has hy
    · exact absurd rfl (S.nofree _ (PySem.mem_of_lookup hy))
  · exact Nat.le_of_lt (x.above y c (PySem.mem_of_lookup h))
  · have hi : i < vs.length := by
      unfold start at h2
      by_cases hi : i < vs.length
      · exact hi
      · rw [List.getElem?_append_right (by simpa using hi)] at h2
        rw [List.getElem?_replicate] at h2
        split at h2 <;> cases h2
    have ha : vs[i]? = some v := by
      unfold start at h2
      rw [List.getElem?_append_left (by simpa using hi), List.getElem?_map] at h2
      cases e : vs[i]? with
      | none => rw [e] at h2; cases h2
      | some a => rw [e] at h2; cases h2; rfl
    obtain ⟨u, hu, rv⟩ := r.get ha
    have hp : ps[i]? = some y := by
      rw [← S.pre, List.getElem?_take_of_lt (by omega)]; exact h1
    have ndP : ps.Nodup := by rw [← S.pre]; exact S.nd.sublist (List.take_sublist _ _)
    refine ⟨u, rv, ?_⟩
    rcases S.par y (List.mem_of_getElem? hp) with k | k
    · exact .inl ⟨k, bindL_get ndP hp hu k⟩
    · obtain ⟨c, e⟩ := cell_has (n := s.heap.objs.size + 1) k
      refine .inr ⟨.inl k, c, e, ?_⟩
      have q := x.cell y c e
      rw [bindC_get ndP hp hu (by show scope.names.lookup y ≠ _; rw [k]; decide)] at q
      exact q
  · exact e0.hok.fresh (Nat.le_of_lt (x.above y c (PySem.mem_of_lookup h)))
  · unfold start
    show _ = N.length
    rw [List.length_append, List.length_map, List.length_replicate]
    omega
theorem fn_of {CX : CXT} {P : Program} {w : World} {K : PySem.W.Frag} {mg : Str → Option Value} {base : Heap} {k : Nat} {f : Addr} {name qual : Str} {params : Arguments} {body : List Stmt} {scope : Scope} {dV kV doc pm cdv ct oc : Value} {an od : Option Addr}
    {osl : Array (Option Value)} {N ps : List Str} {sp : Sp} (lk : K.lookup f = some ⟨oc, od, .func (PySem.W.fnOf name qual params body scope dV kV doc pm an cdv ct), osl⟩) (hcd : PySem.W.codeIn K cdv qual = true) (S : FnScope N ps scope)
    (len : ∀ vs H Q E, sp vs H Q E → vs.length = ps.length)
    (hbody : ∀ (A : Around) (outer : List Env) (s : Shared) (H : Hp) (vs : List V) (Q : VK) (E : XK), Room k (A.deeper (envOfC qual scope s.heap.objs.size f cdv)) → sp vs H Q E →
      ∃ t, PSs (cxOf CX P w K mg base N qual scope f cdv A outer s H E) body t ∧ t { nx := fun _ H' => Q .non H', rt := Q } (start N vs) H) :
    FnOk P w K mg base CX (k + 1) f (PySem.W.fnOf name qual params body scope dV kV doc pm an cdv ct) ps sp := by
  refine ⟨len, fun A outer s H args us vs Q E hr e0 hb r hsp => ?_⟩
  have hl := len _ _ _ _ hsp
  have KX : K.In s.heap := e0.mod.kin.keeps fun b o e => (e0.bs b o e).1
  have lim : s.heap.NoLimit := e0.mod.nolimit.keeps fun b o e => (e0.bs b o e).1
  have hkind : ∀ y ∈ ps.zip us, scope.names.lookup y.1 = some .local ∨ (scope.names.lookup y.1 = some .cell ∧ ((cellsFrom (s.heap.objs.size + 1) scope.names []).lookup y.1).isSome = true) := fun ⟨n, v⟩ hy => by
    rcases S.par n (List.of_mem_zip hy).1 with q | q
    · exact .inl q
    · exact .inr ⟨q, PySem.W.cellsFrom_some _ _ _ (.inl q)⟩
  refine codeAny_call_function hr.depth (KX _ _ lk) rfl S.co S.gen rfl (PySem.W.codeRec_of KX hcd) (hb _ _ _ _ ?_)
  refine wpAny_newFunctionEnv_cells S.kind hkind fun env he s1 x => ?_
  subst he
  refine ⟨lim.keeps x.toInCall.keep, codeAny_func ?_⟩
  obtain ⟨t, ht, hq⟩ := hbody A outer s H vs Q E (hr.deeper _) hsp
  have I : Inv (cxOf CX P w K mg base N qual scope f cdv A outer s H E) [] (start N vs) H s1 := inv_start S hr.hd e0 hl r x
  refine wpAny_mono (ht [] s1 (start N vs) H _ I hq) (fun fl s' hs => ?_) fun e s' hs => hs
  have fin : ∀ {σ' : St} {H' : Hp} {v : V} {u : Value}, Inv (cxOf CX P w K mg base N qual scope f cdv A outer s H E) [] σ' H' s' → RelV v u → Q v H' → CE outer P w H s Q u s' :=
    fun {σ' H' v u} J rv q => ⟨v, H', J.os, J.bare, J.base, J.hok, rv, q⟩
  cases fl with
  | ret u =>
    obtain ⟨v, σ', H', J, rv, q⟩ := hs
    exact fin J rv q
  | next =>
    obtain ⟨σ', H', J, q⟩ := hs
    exact fin (v := V.non) (u := Value.none) J rfl q
  | brk =>
    obtain ⟨_, _, _, q⟩ := hs
    exact False.elim q
  | cont =>
    obtain ⟨_, _, _, q⟩ := hs
    exact False.elim q
end L2
namespace L2
open PySem PySem.Spec PyProof.Rows
section
variable {X : Cx} {x : Str} {p pos : Pos} {e : Expr} {es : List Expr} {t : TA} {id T : String} {r : List V → Hp → VK → Prop}
def tCB (r : List V → Hp → VK → Prop) (t : TA) : TE := fun σ H Q => t σ H fun vs H1 => r vs H1 Q
theorem pe_callB (hc : CallR X (.builtin id) r) (hg : Gl X x) (hm : X.mg x = none) (hv : bootBuiltins x = some (.builtin id)) (ha : PA X (e :: es) t) (hn : x ≠ "__name__" := by decide) (hdb : (x == ("__debug__" : Str)) = false := by decide)
    (he : starEach (e :: es) X.env = (false, eval e X.env) :: starEach es X.env := by rfl) (hpl : (backTo pos (starEach es X.env)).any (·.1) = false := by rfl) : PE X (.Call (.Name x p) (e :: es) [] pos) (tCB r t) := by
  intro pins s σ H Q I h
  refine wpAny_Call_Name_kw (ld_blt I hg hm hv ?_ hn hdb)
  exact PyProof.Rows.callWith_builtin1 (thn (ha pos pins s σ H _ I h) fun us s1 ⟨vs, H1, I1, r1, q1⟩ => hc pins s1 σ H1 vs us Q I1 r1 q1) he hpl
theorem pe_callTy (hc : CallR X (.type T) r) (hg : Gl X x) (hm : X.mg x = none) (hv : bootBuiltins x = some (.type T)) (ha : PA X (e :: es) t) (hn : x ≠ "__name__" := by decide) (hdb : (x == ("__debug__" : Str)) = false := by decide)
    (he : starEach (e :: es) X.env = (false, eval e X.env) :: starEach es X.env := by rfl) (hpl : (backTo pos (starEach es X.env)).any (·.1) = false := by rfl) : PE X (.Call (.Name x p) (e :: es) [] pos) (tCB r t) := by
  intro pins s σ H Q I h
  refine wpAny_Call_Name_kw (ld_blt I hg hm hv ?_ hn hdb)
  exact PyProof.Rows.callWith_type1 (thn (ha pos pins s σ H _ I h) fun us s1 ⟨vs, H1, I1, r1, q1⟩ => hc pins s1 σ H1 vs us Q I1 r1 q1) he hpl
end
end L2
namespace HT
open PySem PyProof.Rows
section
open PySem.SeqAt
open PySem.AutoSeq1 (wpAny_loadPart')
open PySem.MeetsSeq PySem.MeetsSeq2 PySem.MeetsSeq3
end
section
variable {prog : Program} {w : World} {A : Around} {E : Value → Shared → Prop} {s : Shared}
def sIx (n d : Nat) : Option Int → Nat
  | none => d
  | some v => if v < 0 then (v + (n : Int)).toNat else min v.toNat n
theorem sIx_none (n d : Nat) : sIx n d none = d := rfl
theorem sIx_nat (n d k : Nat) : sIx n d (some (k : Int)) = min k n := by
  show (if (k : Int) < 0 then ((k : Int) + (n : Int)).toNat else min (k : Int).toNat n) = min k n
  rw [if_neg (by omega), Int.toNat_natCast]
end
end HT
namespace L2
open PySem PySem.Spec PyProof.Rows
abbrev TO := St → Hp → (Option Int → Hp → Prop) → Prop
def PO (X : Cx) (e : Option Expr) (t : TO) : Prop :=
  ∀ (pins : List (Addr × Obj)) (s : Shared) (σ : St) (H : Hp) (Q : Option Int → Hp → Prop), Inv X pins σ H s → t σ H Q →
    wpAny (model X.prog X.w) X.A (evalPart e X.env) (fun u s' => ∃ o H', Inv X pins σ H' s' ∧ IsPart u o ∧ Q o H') X.xe s
def tNoPart : TO := fun _ H Q => Q none H
def tPart (t : TE) : TO := fun σ H Q => t σ H fun x H1 => ∃ i, x = .int i ∧ Q (some i) H1
section
variable {X : Cx} {e : Expr} {te : TE} {lo hi : Option Expr} {tl th : TO} {pos p2 : Pos}
theorem po_none : PO X none tNoPart := by
  intro pins s σ H Q I h
  rw [evalPart_none]
  exact wpAny_pure ⟨none, H, I, .none, h⟩
theorem po_some (h : PE X e te) : PO X (some e) (tPart te) := by
  intro pins s σ H Q I hw
  rw [evalPart_some]
  refine thn (h pins s σ H _ I hw) fun u s1 ⟨x, H1, I1, r1, q1⟩ => ?_
  obtain ⟨i, rfl, q⟩ := q1
  obtain ⟨t, rfl⟩ := r1
  exact ⟨some i, H1, I1, .int i t, q⟩
def SlR (X : Cx) (r : V → Option Int → Option Int → Hp → VK → Prop) : Prop :=
  ∀ (pins : List (Addr × Obj)) (s : Shared) (σ : St) (H : Hp) (x : V) (v vl vu : Value) (lo hi : Option Int) (sl : Addr) (Q : VK), Inv X pins σ H s → RelV x v → s.heap.IsSliceOf sl vl vu .none → IsPart vl lo → IsPart vu hi → r x lo hi H Q →
    ∃ T id, typeLookup (.type T) "__getitem__" = pure (some (.builtin id)) ∧ s.TypeIs v T ∧ wpAny (model X.prog X.w) X.A (getItem v (.ref sl)) (EP X pins σ Q) X.xe s
def tSl (r : V → Option Int → Option Int → Hp → VK → Prop) (te : TE) (tl th : TO) : TE := fun σ H Q => te σ H fun x H1 => tl σ H1 fun l H2 => th σ H2 fun u H3 => r x l u H3 Q
theorem pe_slice {r : V → Option Int → Option Int → Hp → VK → Prop} (hr : SlR X r) (he : PE X e te) (hl : PO X lo tl) (hu : PO X hi th) : PE X (.Subscript e (.Slice lo hi none p2) pos) (tSl r te tl th) := by
  intro pins s σ H Q I h
  refine Subscript_ (thn (he pins s σ H _ I h) fun v s1 ⟨x, H1, I1, r1, q1⟩ => ?_)
  refine wpAny_Slice (thn (hl pins s1 σ H1 _ I1 q1) fun vl s2 ⟨l, H2, I2, pl, q2⟩ => thn (hu pins s2 σ H2 _ I2 q2) fun vu s3 ⟨u, H3, I3, pu, q3⟩ => ?_)
  rw [evalPart_none]
  refine wpAny_pure ?_
  have I4 : Inv X pins σ H3 { s3 with heap := s3.heap.push { cls := .type "slice", data := .fields #[vl, vu, .none] } } := I3.kept (t' := s3.toks) fun b ob q => Heap.get?_push_of_some _ q
  obtain ⟨T, id, hT, ht, hg⟩ := hr pins { s3 with heap := s3.heap.push { cls := .type "slice", data := .fields #[vl, vu, .none] } } σ H3 x v vl vu l u s3.heap.objs.size Q I4 r1 (Heap.IsSliceOf.new ..) pl pu q3
  show wpAny (model X.prog X.w) X.A (subscriptTail e (.Slice lo hi none p2) v (.ref s3.heap.objs.size)) (EP X pins σ Q) X.xe { s3 with heap := s3.heap.push { cls := .type "slice", data := .fields #[vl, vu, .none] } }
  exact tail_any (ops := [.ref s3.heap.objs.size, v]) ht hT hg (by with_unfolding_all rfl)
def cutV (xs : List V) (lo hi : Option Int) : List V := (xs.drop (HT.sIx xs.length 0 lo)).take (HT.sIx xs.length xs.length hi - HT.sIx xs.length 0 lo)
theorem cutV_length (xs : List V) (lo hi : Option Int) : (cutV xs lo hi).length ≤ xs.length := by
  unfold cutV
  rw [List.length_take, List.length_drop]
  omega
end
end L2
namespace L2
open PySem PySem.Spec PyProof.Rows
def ixN (n : Nat) (i : Int) : Option Nat := if 0 ≤ i then (if i < n then some i.toNat else none) else if -(n : Int) ≤ i then some (i + n).toNat else none
def atI {α : Type} (xs : List α) (i : Int) : Option α := (ixN xs.length i).bind fun j => xs[j]?
theorem ixN_seq {n : Nat} {i : Int} {j : Nat} (h : ixN n i = some j) : seqIndex? i n = some j ∧ j < n ∧ -(n : Int) ≤ i ∧ i < n := by
  unfold ixN at h
  by_cases h0 : 0 ≤ i
  · rw [if_pos h0] at h
    by_cases h1 : i < n
    · rw [if_pos h1] at h
      have e : i.toNat = j := Option.some.inj h
      exact ⟨by rw [seqIndex_of h0 h1, e], by omega, by omega, h1⟩
    · rw [if_neg h1] at h; cases h
  · rw [if_neg h0] at h
    by_cases h1 : -(n : Int) ≤ i
    · rw [if_pos h1] at h
      have e : (i + n).toNat = j := Option.some.inj h
      exact ⟨by rw [seqIndex_neg (by omega) h1, e], by omega, h1, by omega⟩
    · rw [if_neg h1] at h; cases h
theorem atI_get {α : Type} {xs : List α} {i : Int} {v : α} (h : atI xs i = some v) : ∃ j, seqIndex? i xs.length = some j ∧ xs[j]? = some v ∧ j < xs.length ∧ -(xs.length : Int) ≤ i ∧ i < xs.length := by
  unfold atI at h
  cases e : ixN xs.length i with
  | none => rw [e] at h; cases h
  | some j =>
    rw [e] at h
    obtain ⟨h1, h2, h3, h4⟩ := ixN_seq e
    exact ⟨j, h1, h, h2, h3, h4⟩
theorem atI_nat {α : Type} {xs : List α} {j : Nat} {v : α} (h : xs[j]? = some v) : atI xs (j : Int) = some v := by
  have hj : j < xs.length := (List.getElem?_eq_some_iff.mp h).1
  have e : ixN xs.length (j : Int) = some j := by
    unfold ixN
    rw [if_pos (by omega), if_pos (by omega)]; simp
  unfold atI; rw [e]; exact h
def PlainIx (b : Expr) : Prop := ∀ o i, subscripted b false o i = operate [o, i] (getItem o i)
def IxR (X : Cx) (r : R2) : Prop :=
  ∀ (value slice : Expr) (pins : List (Addr × Obj)) (s : Shared) (σ : St) (H : Hp) (x y : V) (v u : Value) (Q : VK), Inv X pins σ H s → RelV x v → RelV y u → r x y H Q →
    subscripted slice false v u = operate [v, u] (getItem v u) → wpAny (model X.prog X.w) X.A (subscriptTail value slice v u) (EP X pins σ Q) X.xe s
def MtR (X : Cx) (id : String) (r : V → List V → Hp → VK → Prop) : Prop :=
  ∀ (pins : List (Addr × Obj)) (s : Shared) (σ : St) (H : Hp) (x : V) (xs : List V) (v : Value) (us : List Value) (Q : VK), Inv X pins σ H s → RelV x v → Vals xs us → r x xs H Q →
    wpAny (model X.prog X.w) X.A (call (.builtin id) (v :: us)) (EP X pins σ Q) X.xe s
section
variable {X : Cx} {a b : Expr} {ta tb : TE} {pos : Pos}
theorem IxR.or {r r' : R2} (h : IxR X r) (h' : IxR X r') : IxR X (fun x y H Q => r x y H Q ∨ r' x y H Q) := by
  intro value slice pins s σ H x y v u Q I rx ry q hs
  rcases q with q | q
  · exact h value slice pins s σ H x y v u Q I rx ry q hs
  · exact h' value slice pins s σ H x y v u Q I rx ry q hs
theorem pe_ix {r : R2} (hr : IxR X r) (ha : PE X a ta) (hb : PE X b tb) (hs : PlainIx b) : PE X (.Subscript a b pos) (tOp r ta tb) := by
  intro pins s σ H Q I h
  exact Subscript_ (binT ha hb I h fun v u s2 x y H2 I2 rx ry q => hr a b pins s2 σ H2 x y v u Q I2 rx ry q (hs _ _))
def rIxL (K : PySem.W.Frag) : R2 := fun x y H Q => ∃ p xs i v, x = .ref p ∧ y = .int i ∧ SqL K H p xs ∧ atI xs i = some v ∧ Q v H
def rIxT (K : PySem.W.Frag) : R2 := fun x y H Q => ∃ p xs i v, x = .ref p ∧ y = .int i ∧ SqT K H p xs ∧ atI xs i = some v ∧ Q v H
theorem ix_list : IxR X (rIxL X.K) := by
  intro value slice pins s σ H x y v u Q I rx ry h hs
  obtain ⟨p, xs, i, z, rfl, rfl, hq, he, q⟩ := h
  cases rx
  obtain ⟨t, rfl⟩ := ry
  obtain ⟨its, r, pl, hz⟩ := I.list hq
  obtain ⟨j, h1, h2, h3, h4, h5⟩ := atI_get he
  obtain ⟨w, ew, rw'⟩ := r.get h2
  have hl := r.length
  have hn := line63
  have fin : EP X pins σ Q w s := ⟨z, H, I, rw', q⟩
  by_cases h0 : 0 ≤ i
  · have hj : i.toNat = j := by
      rw [seqIndex_of h0 h5] at h1
      exact Option.some.inj h1
    exact item_listR pl.isList h0 (by omega) (by rw [hj]; simpa using ew) fin hs
  · have hj : (i + (its.toArray.size : Int)).toNat = j := by
      rw [seqIndex_neg (by omega) h4] at h1
      rw [List.size_toArray, ← hl]
      exact Option.some.inj h1
    exact subscriptTail_builtinR (x := w) pl.isList.typeIs slot_list_getitem.lookup
      (wpAny_getItem_list_neg (Q := fun r s' => r = w ∧ EP X pins σ Q r s') pl.isList (by omega) (by rw [List.size_toArray] <;> omega) (by omega) (by rw [hj]; simpa using ew) ⟨rfl, fin⟩) hs
theorem ix_tup : IxR X (rIxT X.K) := by
  intro value slice pins s σ H x y v u Q I rx ry h hs
  obtain ⟨p, xs, i, z, rfl, rfl, hq, he, q⟩ := h
  cases rx
  obtain ⟨t, rfl⟩ := ry
  obtain ⟨its, r, pl, hz⟩ := I.tuple hq
  obtain ⟨j, h1, h2, h3, h4, h5⟩ := atI_get he
  obtain ⟨w, ew, rw'⟩ := r.get h2
  have hl := r.length
  have hn := line63
  have fin : EP X pins σ Q w s := ⟨z, H, I, rw', q⟩
  exact subscriptTail_builtinR (x := w) pl.typeIs slot_tuple_getitem.lookup
    (getItem_tuple (j := j) (Q := fun r s' => r = w ∧ EP X pins σ Q r s') pl (by omega) (by omega) (by rw [List.size_toArray, ← hl]; exact h1) (by simpa using ew) ⟨rfl, fin⟩) hs
theorem slice_bounds (lo hi : Option Int) (n : Nat) : (sliceBounds lo hi none n).1 = ((HT.sIx n 0 lo : Nat) : Int) ∧ (sliceBounds lo hi none n).2.1 = ((HT.sIx n n hi : Nat) : Int) ∧ (sliceBounds lo hi none n).2.2 = 1 := by
  refine ⟨?_, ?_, rfl⟩
  · cases lo with
    | none => simp [sliceBounds, HT.sIx]
    | some i =>
      simp only [sliceBounds, HT.sIx, Option.getD_none, show (1 : Int) > 0 by decide, if_true]
      by_cases h : i < 0
      · simp only [h, if_true] <;> omega
      · simp only [h, if_false] <;> omega
  · cases hi with
    | none => simp [sliceBounds, HT.sIx]
    | some i =>
      simp only [sliceBounds, HT.sIx, Option.getD_none, show (1 : Int) > 0 by decide, if_true]
      by_cases h : i < 0
      · simp only [h, if_true] <;> omega
      · simp only [h, if_false] <;> omega
theorem slicePick_cut (its : List Value) (lo hi : Option Int) : slicePick its.toArray lo hi none = ((its.drop (HT.sIx its.length 0 lo)).take (HT.sIx its.length its.length hi - HT.sIx its.length 0 lo)).toArray := by
  obtain ⟨h1, h2, h3⟩ := slice_bounds lo hi its.toArray.size
  unfold slicePick
  rw [h1, h2, h3]
  simp only [sliceRange_one, pick_run, List.size_toArray] <;> rfl
def rSlL (K : PySem.W.Frag) : V → Option Int → Option Int → Hp → VK → Prop := fun x lo hi H Q => ∃ a xs, x = .ref a ∧ SqL K H a xs ∧ ∀ p, H p = none → Q (.ref p) (upd H p (.lst (cutV xs lo hi)))
theorem sl_list : SlR X (rSlL X.K) := by
  intro pins s σ H x v vl vu lo hi sl Q I rx hs pl pu h
  obtain ⟨a, xs, rfl, hx, q⟩ := h
  cases rx
  obtain ⟨its, r, ht, hz⟩ := I.list hx
  have hlen := r.length
  refine ⟨"list", _, slot_list_getitem.lookup, ht.isList.typeIs, ?_⟩
  refine wpAny_getItem_list_slice ht.isList hs pl pu .none (by simp) ?_ (by rw [List.size_toArray] <;> omega)
  rw [slicePick_cut, ← hlen]
  refine ⟨.ref s.heap.objs.size, _, I.laid (t' := s.toks) (o := .lst (cutV xs lo hi)) (fun b ob q => Heap.get?_push_of_some _ q) (Nat.le_refl _) ?_, rfl, q _ (I.hok.fresh (Nat.le_refl _))⟩
  exact ⟨Nat.le_trans (cutV_length xs lo hi) hz, _, 0, (r.drop (HT.sIx xs.length 0 lo)).take (HT.sIx xs.length xs.length hi - HT.sIx xs.length 0 lo), Heap.get?_push_size _ rfl⟩
def flatV : V → Bool
  | .non => true
  | .bl _ => true
  | .int _ => true
  | .str _ => true
  | _ => false
def eqV : V → V → Bool
  | .non, .non => true
  | .bl a, .bl b => a == b
  | .bl a, .int b => (if a then 1 else 0) == b
  | .int a, .bl b => a == (if b then 1 else 0)
  | .int a, .int b => a == b
  | .str a, .str b => a == b
  | _, _ => false
theorem eqAt_V {A : Around} {s : Shared} {y x : V} {u v : Value} (ry : RelV y u) (rx : RelV x v) (fy : flatV y = true) (fx : flatV x = true) : SeqAt.EqAt A s u v (eqV y x) := by
  cases y with
  | non =>
    cases ry
    cases x with
    | non => cases rx; exact SeqAt.EqAt.same _
    | bl b => cases rx; exact SeqAt.EqAt.none_bool b
    | int b => obtain ⟨t, rfl⟩ := rx; exact SeqAt.EqAt.none_int b t
    | str b => obtain ⟨t, rfl⟩ := rx; exact SeqAt.EqAt.none_str b t
    | _ => exact absurd (show false = true from fx) Bool.false_ne_true
  | bl a =>
    cases ry
    cases x with
    | non => cases rx; exact SeqAt.EqAt.bool_none a
    | bl b => cases rx; exact SeqAt.EqAt.bool_bool a b
    | int b => obtain ⟨t, rfl⟩ := rx; exact SeqAt.EqAt.bool_int a b t
    | str b => obtain ⟨t, rfl⟩ := rx; exact SeqAt.EqAt.bool_str a b t
    | _ => exact absurd (show false = true from fx) Bool.false_ne_true
  | int a =>
    obtain ⟨t', rfl⟩ := ry
    cases x with
    | non => cases rx; exact SeqAt.EqAt.int_none a t'
    | bl b => cases rx; exact SeqAt.EqAt.int_bool a t' b
    | int b => obtain ⟨t, rfl⟩ := rx; exact SeqAt.EqAt.int_int a t' b t
    | str b => obtain ⟨t, rfl⟩ := rx; exact SeqAt.EqAt.int_str a t' b t
    | _ => exact absurd (show false = true from fx) Bool.false_ne_true
  | str a =>
    obtain ⟨t', rfl⟩ := ry
    cases x with
    | non => cases rx; exact SeqAt.EqAt.str_none a t'
    | bl b => cases rx; exact SeqAt.EqAt.str_bool a t' b
    | int b => obtain ⟨t, rfl⟩ := rx; exact SeqAt.EqAt.str_int a t' b t
    | str b => obtain ⟨t, rfl⟩ := rx; exact SeqAt.EqAt.str_str a t' b t
    | _ => exact absurd (show false = true from fx) Bool.false_ne_true
  | _ => exact absurd (show false = true from fy) Bool.false_ne_true
def eqU (x : V) (u : Value) : Bool := match u with
  | .none => eqV .non x
  | .bool b => eqV (.bl b) x
  | .int i _ => eqV (.int i) x
  | .str z _ => eqV (.str z) x
  | _ => false
theorem eqU_of {x y : V} {u : Value} (r : RelV y u) (f : flatV y = true) : eqU x u = eqV y x := by
  cases y with
  | non => cases r; rfl
  | bl b => cases r; rfl
  | int i => obtain ⟨t, rfl⟩ := r; rfl
  | str z => obtain ⟨t, rfl⟩ := r; rfl
  | _ => exact absurd (show false = true from f) Bool.false_ne_true
theorem any_eqU {x : V} : ∀ {xs : List V} {us : List Value}, Vals xs us → xs.all flatV = true → us.any (eqU x) = xs.any fun y => eqV y x
  | _, _, .nil, _ => rfl
  | y :: xs, u :: us, .cons r t, f => by
    rw [List.all_cons, Bool.and_eq_true] at f
    rw [List.any_cons, List.any_cons, eqU_of r f.1, any_eqU t f.2]
theorem mem_eqAt {A : Around} {s : Shared} {x : V} {v : Value} (rx : RelV x v) (fx : flatV x = true) : ∀ {xs : List V} {us : List Value}, Vals xs us → xs.all flatV = true → ∀ u ∈ us, SeqAt.EqAt A s u v (eqU x u)
  | _, _, .nil, _ => fun u hu => by cases hu
  | y :: xs, u :: us, .cons r t, f => fun u' hu => by
    rw [List.all_cons, Bool.and_eq_true] at f
    rcases List.mem_cons.mp hu with rfl | hu
    · rw [eqU_of r f.1]; exact eqAt_V r rx f.1 fx
    · exact mem_eqAt rx fx t f.2 u' hu
def inV (x : V) (xs : List V) : Bool := xs.any fun y => eqV y x
def rIn (K : PySem.W.Frag) (neg : Bool) : R2 := fun x y H Q => ∃ p xs, y = .ref p ∧ (SqL K H p xs ∨ SqT K H p xs) ∧ flatV x = true ∧ xs.all flatV = true ∧ Q (.bl (if neg then !inV x xs else inV x xs)) H
theorem op_notIn_seq : OpR X (compareOp .NotIn) (rIn X.K true) := by
  intro pins s σ H x y v u Q I rx ry h
  obtain ⟨p, xs, rfl, hq, fx, fs, q⟩ := h
  cases ry
  rcases hq with hq | hq
  · obtain ⟨its, r, pl, hz⟩ := I.list hq
    refine SeqAt.notIn_listAt (eqU x) pl.isList (fun w hw => mem_eqAt rx fx r fs w (by simpa using hw)) ⟨.bl _, H, I, rfl, ?_⟩
    rw [show its.toArray.any (eqU x) = its.any (eqU x) by simp, any_eqU r fs]
    exact q
  · obtain ⟨its, r, pl, hz⟩ := I.tuple hq
    refine SeqAt.notIn_tupleAt (eqU x) pl (fun w hw => mem_eqAt rx fx r fs w (by simpa using hw)) ⟨.bl _, H, I, rfl, ?_⟩
    rw [show its.toArray.any (eqU x) = its.any (eqU x) by simp, any_eqU r fs]
    exact q
theorem call_len_seq : CallR X (.builtin "len") (fun xs H Q => ∃ p ys, xs = [.ref p] ∧ (SqL X.K H p ys ∨ SqT X.K H p ys) ∧ Q (.int ys.length) H) := by
  intro pins s σ H xs us Q I r h
  obtain ⟨p, ys, rfl, hq, q⟩ := h
  obtain ⟨u, rfl, rx⟩ := vals1 r
  cases rx
  have hn := line63
  rcases hq with hq | hq
  · obtain ⟨its, r', pl, hz⟩ := I.list hq
    have hlen := r'.length
    exact Calls.call_len_list pl.isList (by simp only [List.size_toArray] <;> omega) ⟨.int ys.length, H, I.tok _, ⟨s.toks + 1, by rw [List.size_toArray, hlen]⟩, q⟩
  · obtain ⟨its, r', pl, hz⟩ := I.tuple hq
    have hlen := r'.length
    exact len_tuple pl (by simp only [List.size_toArray] <;> omega) ⟨.int ys.length, H, I.tok _, ⟨s.toks + 1, by rw [List.size_toArray, hlen]⟩, q⟩
theorem call_len_str : CallR X (.builtin "len") (fun xs H Q => ∃ z, xs = [.str z] ∧ z.length ≤ sizeLine ∧ Q (.int z.length) H) := by
  intro pins s σ H xs us Q I r h
  obtain ⟨z, rfl, hz, q⟩ := h
  obtain ⟨u, rfl, t, rfl⟩ := vals1 r
  have hn := line63
  exact len_str (by omega) ⟨.int z.length, H, I.tok _, ⟨_, rfl⟩, q⟩
theorem CallR.or {f : Value} {r r' : List V → Hp → VK → Prop} (h : CallR X f r) (h' : CallR X f r') : CallR X f (fun xs H Q => r xs H Q ∨ r' xs H Q) := by
  intro pins s σ H xs us Q I rs q
  rcases q with q | q
  · exact h pins s σ H xs us Q I rs q
  · exact h' pins s σ H xs us Q I rs q
theorem call_list_of : CallR X (.type "list") (fun xs H Q => ∃ p ys, xs = [.ref p] ∧ (SqL X.K H p ys ∨ SqT X.K H p ys) ∧ ∀ l, H l = none → Q (.ref l) (upd H l (.lst ys))) := by
  intro pins s σ H xs us Q I r h
  obtain ⟨p, ys, rfl, hq, q⟩ := h
  obtain ⟨u, rfl, rx⟩ := vals1 r
  cases rx
  have fin : ∀ (its : List Value), Vals ys its → ys.length ≤ sizeLine → ∀ (h' : Heap) (c' : Nat), (∀ b o', s.heap.get? b = some o' → h'.get? b = some o') →
      h'.get? s.heap.objs.size = some { cls := .type "list", dict := none, data := .seq its.toArray c', slots := #[] } → EP X pins σ Q (.ref s.heap.objs.size) { s with heap := h' } := fun its r' hz h' c' kp e =>
    ⟨.ref s.heap.objs.size, _, I.laid (t' := s.toks) kp (Nat.le_refl _) (show ObjOk X.prog X.w _ h' _ (.lst ys) from ⟨hz, its, c', r', e⟩), rfl, q _ (I.hok.fresh (Nat.le_refl _))⟩
  rcases hq with hq | hq
  · obtain ⟨its, r', pl, hz⟩ := I.list hq
    have hlen := r'.length
    obtain ⟨o, ho, hc, n, hd⟩ := pl.isList
    exact call_list_seq p (.inl rfl) ho hc hd (fun h' c' kp e => fin its r' hz h' c' kp e) (by simp only [List.size_toArray] <;> omega)
  · obtain ⟨its, r', pl, hz⟩ := I.tuple hq
    have hlen := r'.length
    obtain ⟨o, ho, hc, n, hd⟩ := pl
    exact call_list_seq p (.inr rfl) ho hc hd (fun h' c' kp e => fin its r' hz h' c' kp e) (by simp only [List.size_toArray] <;> omega)
theorem call_tuple_of : CallR X (.type "tuple") (fun xs H Q => ∃ p ys, xs = [.ref p] ∧ ((SqL X.K H p ys ∧ ∀ l, H l = none → Q (.ref l) (upd H l (.tup ys))) ∨ (SqT X.K H p ys ∧ Q (.ref p) H))) := by
  intro pins s σ H xs us Q I r h
  obtain ⟨p, ys, rfl, h⟩ := h
  obtain ⟨u, rfl, rx⟩ := vals1 r
  cases rx
  rcases h with ⟨hq, q⟩ | ⟨hq, q⟩
  · obtain ⟨its, r', pl, hz⟩ := I.list hq
    have hlen := r'.length
    refine call_tuple_list pl.isList (fun h' kp => ?_) (by simp only [List.size_toArray] <;> omega)
    have I1 : Inv X pins σ H { s with heap := h' } := I.kept (t' := s.toks) kp
    have I2 : Inv X pins σ (upd H h'.objs.size (.tup ys)) { s with heap := h'.push { cls := .type "tuple", data := .seq its.toArray } } :=
      I1.laid (t' := s.toks) (fun b o e => Heap.get?_push_of_some _ e) (Nat.le_refl _) (show ObjOk X.prog X.w _ _ _ (.tup ys) from ⟨hz, its, r', IsTup.new _ _⟩)
    exact ⟨.ref h'.objs.size, _, I2, rfl, q _ (I1.hok.fresh (Nat.le_refl _))⟩
  · obtain ⟨its, r', pl, hz⟩ := I.tuple hq
    exact call_tuple_same pl ⟨.ref p, H, I, rfl, q⟩
def tyV (K : PySem.W.Frag) (T : String) (x : V) (H : Hp) : Prop := match x with
  | .str _ => T = "str"
  | .int _ => T = "int"
  | .ref p => (T = "list" ∧ ∃ xs, SqL K H p xs) ∨ (T = "tuple" ∧ ∃ o, K.lookup p = some o ∧ o.cls = .type "tuple" ∧ o.dict = none) ∨
      (T = "dict" ∧ ((∃ kvs, H p = some (.dK kvs)) ∨ ∃ kvs, H p = some (.dT kvs))) ∨ (T = "set" ∧ ∃ S n, H p = some (.set S n))
  | _ => False
theorem tyV_is {pins : List (Addr × Obj)} {σ : St} {H : Hp} {s : Shared} {T : String} {x : V} {v : Value} (I : Inv X pins σ H s) (r : RelV x v) (ty : tyV X.K T x H) :
    s.TypeIs v T ∧ ∀ a, v = .ref a → ∃ ob, s.heap.get? a = some ob ∧ ob.dict = none := by
  cases x with
  | str z =>
    obtain ⟨t, rfl⟩ := r
    cases (show T = "str" from ty)
    exact ⟨typeIs_str s z t, fun _ e => nomatch e⟩
  | int i =>
    obtain ⟨t, rfl⟩ := r
    cases (show T = "int" from ty)
    exact ⟨typeIs_int s i t, fun _ e => nomatch e⟩
  | ref p =>
    cases r
    rcases ty with ⟨rfl, xs, hq⟩ | ⟨rfl, o, hk, hc, hd⟩ | ⟨rfl, hk⟩ | ⟨rfl, S, n, hk⟩
    · obtain ⟨its, _, pl, _⟩ := I.list hq
      refine ⟨pl.isList.typeIs, fun a e => ?_⟩
      cases e
      obtain ⟨o, n, e, c, hd, _⟩ := pl
      exact ⟨o, e, hd⟩
    · refine ⟨⟨o, I.kIn p o hk, hc⟩, fun a e => ?_⟩
      cases e
      exact ⟨o, I.kIn _ o hk, hd⟩
    · have z : ∃ o, s.heap.get? p = some o ∧ o.ExactDict := by
        rcases hk with ⟨kvs, hk⟩ | ⟨kvs, hk⟩
        · obtain ⟨_, _, _, _, o, _, _, e, ex, _⟩ := I.hok p _ hk
          exact ⟨o, e, ex⟩
        · obtain ⟨_, _, _, _, o, _, _, e, ex, _⟩ := I.hok p _ hk
          exact ⟨o, e, ex⟩
      obtain ⟨o, e, ex⟩ := z
      refine ⟨⟨o, e, ex.1⟩, fun a e2 => ?_⟩
      cases e2
      exact ⟨o, e, ex.2.1⟩
    · obtain ⟨o, _, _, _, e, ex, _⟩ := I.hok p _ hk
      refine ⟨⟨o, e, ex.1⟩, fun a e2 => ?_⟩
      cases e2
      exact ⟨o, e, ex.2.1⟩
  | _ => exact False.elim ty
def tBM (K : PySem.W.Frag) (T : String) (r : V → List V → Hp → VK → Prop) (to : TE) (t : TA) : TE := fun σ H Q => to σ H fun x H1 => tyV K T x H1 ∧ t σ H1 fun xs H2 => r x xs H2 Q
variable {o e : Expr} {es : List Expr} {to : TE} {t : TA} {name : Str} {apos cpos : Pos} {T id : String} {r : V → List V → Hp → VK → Prop}
theorem pe_bm (pa : PlainAttrs T) (slot : Slot T name id) (hty : typeOf (.builtin id) = pure (.type "method_descriptor")) (hm : MtR X id r) (ho : PE X o to) (ha : PA X (e :: es) t)
    (hbase : attributeBase o name X.env (eval o X.env) = eval o X.env := by rfl)
    (hfew : ((backTo cpos (starEach (e :: es) X.env)).all (fun x => !x.1) && (backToKw cpos (keywordEach [] X.env)).all (fun x => x.1.isSome)
      && decide ((e :: es).length + ([] : List Keyword).length + (if ([] : List Keyword).isEmpty then 0 else 1) < 30)) = true := by rfl)
    (hline : (apos.endLine == cpos.line) = true := by rfl) (hs : starEach (e :: es) X.env = (false, eval e X.env) :: starEach es X.env := by rfl) (hplain : (backTo cpos (starEach es X.env)).any (·.1) = false := by rfl) :
    PE X (.Call (.Attribute o name apos) (e :: es) [] cpos) (tBM X.K T r to t) := by
  intro pins s σ H Q I h
  refine wpAny_Call_method_late hbase hfew hline rfl (thn (ho pins s σ H _ I h) fun v s1 ⟨x, H1, I1, r1, ty, q1⟩ => ?_)
  obtain ⟨h1, h2⟩ := tyV_is I1 r1 ty
  refine ⟨T, id, pa, slot, hty, h1, h2, ?_⟩
  have hA := ha cpos pins s1 σ H1 _ I1 q1
  rw [hs] at hA ⊢
  refine Calls.callWith_builtin (by show (false || (backTo cpos (starEach es X.env)).any (·.1)) = false; rw [hplain] <;> rfl) (Calls.evalArgs_plain ?_)
  exact thn hA fun us s2 ⟨vs, H2, I2, r2, q2⟩ => hm pins s2 σ H2 x vs v us Q I2 r1 r2 q2
/- xs.append(e), list.index on a module's tuple .. are MtR facts of 06m -/
end
end L2
namespace L2
open PySem PySem.Spec PyProof.Rows
def MtM (X : Cx) (id : String) (r : V → List V → Hp → VK → Prop) : Prop :=
  ∀ (pins : List (Addr × Obj)) (s : Shared) (σ : St) (H : Hp) (x : V) (xs : List V) (v : Value) (us : List Value) (Q : VK), Inv X pins σ H s → RelV x v → Vals xs us → r x xs H Q →
    wpAny (model X.prog X.w) X.A (call (.builtin id) (v :: us)) (EP X pins σ Q) X.xe s
theorem Vals.one : ∀ {x : V} {us : List Value}, Vals [x] us → ∃ u, us = [u] ∧ RelV x u
  | _, _, .cons r .nil => ⟨_, rfl, r⟩
section
variable {X : Cx} {pins : List (Addr × Obj)} {σ : St} {H : Hp} {s : Shared} {l b : Addr} {xs ys zs : List V}
theorem Inv.lset {its its' : List Value} {n : Nat} {f : Array Value → Array Value} {t' : Nat} (I : Inv X pins σ H s) (hH : H l = some (.lst xs))
    (e : s.heap.get? l = some { cls := .type "list", data := .seq its.toArray n }) (hf : f its.toArray = its'.toArray) (hv : Vals ys its') (hz : ys.length ≤ sizeLine) :
    Inv X pins σ (upd H l (.lst ys)) { s with heap := s.heap.update l (Obj.mapSeq f), toks := t' } := by
  have q := PySem.IsL.update e f
  rw [hf] at q
  refine I.write (x := l) (e := l) (by rw [hH]; exact trivial) (.inl rfl) (fun b' u hb hu => (Heap.get?_update_other s.heap (Obj.mapSeq f) (Ne.symm hb)).trans hu) ⟨_, q⟩ ?_
  exact ⟨hz, its', _, hv, q⟩
theorem Inv.lnew {its : List Value} {t' : Nat} (I : Inv X pins σ H s) (hv : Vals ys its) (hz : ys.length ≤ sizeLine) :
    Inv X pins σ (upd H s.heap.objs.size (.lst ys)) { s with heap := s.heap.push { cls := .type "list", data := .seq its.toArray }, toks := t' } :=
  I.laid (fun _ _ q => Heap.get?_push_of_some _ q) (Nat.le_refl _) ⟨hz, its, 0, hv, Heap.get?_push_size _ rfl⟩
theorem Inv.fresh (I : Inv X pins σ H s) : H s.heap.objs.size = none := I.hok.fresh (Nat.le_refl _)
theorem Inv.lstM (I : Inv X pins σ H s) (hH : H l = some (.lst xs)) : xs.length ≤ sizeLine ∧ ∃ (its : List Value) (n : Nat), Vals xs its ∧ xs.length = its.length ∧ s.heap.get? l = some { cls := .type "list", data := .seq its.toArray n } := by
  obtain ⟨z, its, n, r, e⟩ := I.hok l _ hH
  exact ⟨z, its, n, r, r.length, e⟩
end
section
variable {X : Cx}
def rAppend : V → List V → Hp → VK → Prop := fun x vs H Q => ∃ l xs y, x = .ref l ∧ vs = [y] ∧ H l = some (.lst xs) ∧ xs.length < sizeLine ∧ Q .non (upd H l (.lst (xs ++ [y])))
theorem mt_append : MtM X "list.append" rAppend := by
  intro pins s σ H x vs v us Q I rx rv h
  obtain ⟨l, xs, y, rfl, rfl, hH, hz, q⟩ := h
  cases rx
  obtain ⟨u, rfl, ru⟩ := rv.one
  obtain ⟨z, its, n, r, hl, e⟩ := I.lstM hH
  refine call_meets F.slot_list_append ⟨_, e, rfl⟩ F.entry_list_append (F.args_list_append_2 _ _) (PySem.list_append l its.toArray n u (by rw [List.size_toArray]; omega)) ⟨e, ?_⟩
  refine ⟨.non, _, I.lset (its' := its ++ [u]) hH e (by simp) (r.append (.cons ru .nil)) ?_, rfl, q⟩
  rw [List.length_append, List.length_singleton]
  omega
def rCat : R2 := fun x y H Q => ∃ l b xs zs, x = .ref l ∧ y = .ref b ∧ H l = some (.lst xs) ∧ H b = some (.lst zs) ∧ xs.length + zs.length ≤ sizeLine ∧ ∀ p, H p = none → Q (.ref p) (upd H p (.lst (xs ++ zs)))
theorem op_cat : OpR X (binaryOp .Add) rCat := by
  intro pins s σ H x y v u Q I rx ry h
  obtain ⟨l, b, xs, zs, rfl, rfl, hH, hB, hz, q⟩ := h
  cases rx
  cases ry
  obtain ⟨z, its, n, r, hl, e⟩ := I.lstM hH
  obtain ⟨z2, its2, n2, r2, hl2, e2⟩ := I.lstM hB
  refine PySem.P.add_list e e2 ?_ (by rw [List.size_toArray, List.size_toArray]; omega)
  have ea : its.toArray ++ its2.toArray = (its ++ its2).toArray := by simp
  rw [ea]
  exact ⟨.ref _, _, I.lnew (t' := s.toks) (r.append r2) (by rw [List.length_append]; omega), rfl, q _ I.fresh⟩
end
section
variable {prog : Program} {w : World} {A : Around} {E : Value → Shared → Prop} {s : Shared}
set_option maxRecDepth 100000 in
end
section
variable {X : Cx}
end
end L2
namespace Att
open PySem PySem.W PySem.Calls PyProof.Rows
theorem ints_of_wellAll {P : Params} {h : Heap} : ∀ (ns : List Int) (vs : List Value), WellAll P h vs (ns.map WData.int) → IntsAre vs ns := by
  intro ns
  induction ns with
  | nil =>
    intro vs w
    rw [List.map_nil] at w
    cases w
    exact .nil
  | cons n ns ih =>
    intro vs w
    rw [List.map_cons] at w
    cases w with
    | cons a b =>
      cases a
      exact .cons _ _ (ih _ b)
theorem script_of {l : OpenLaw} {n : Nat} (hn : l.most = some n) {P : Params} {h : Heap} {args : List WData} {vals : List Value}
    (hpre : l.row.toRowW.claim.pre args = true) (hwl : WellAll P h vals args) :
    ∃ a vs ns, vals = [Value.ref a] ∧ args = [WData.list (ns.map WData.int)] ∧ h.get? a = some { cls := .type "list", data := .seq vs.toArray } ∧ IntsAre vs ns ∧ ns.length ≤ n := by
  have hsh : WShape.hasAll [] args [.list .int] = true := (pre_splitW hpre).1
  have hc : l.pre.holds [] { args := args } = true := (pre_splitW hpre).2
  obtain ⟨d, r, rfl, h1, h2⟩ := hasAllW_cons hsh
  obtain rfl := hasAllW_nil h2
  obtain ⟨xs, rfl, h3⟩ := hasW_list h1
  obtain ⟨ns, rfl⟩ := items_int h3
  have hlen : ns.length ≤ n := by
    unfold OpenLaw.pre at hc
    have h4 : (WTm.not (.lt (.lit (.int (n : Int))) (.len (.arg 0)))).holds [] { args := [.list (ns.map .int)] } = true := by
      have h4 := (holds_andW hc).1
      rw [hn] at h4
      exact h4
    have h5 := condW_of h4 (w_not (w_lt w_lit (w_len_list (w_arg rfl))))
    rw [List.length_map] at h5
    refine Nat.le_of_not_lt fun q => ?_
    have q' : (n : Int) < ((ns.length : Nat) : Int) := by omega
    first
      | (rw [decide_eq_true q'] at h5; exact absurd h5 (by decide))
      | (simp at h5; omega)
  cases hwl with
  | cons w1 w2 =>
    cases w2
    cases w1 with
    | list ho hall => exact ⟨_, _, ns, rfl, rfl, ho, ints_of_wellAll ns _ hall, hlen⟩
theorem post_true (l : OpenLaw) (args : List WData) : l.row.toRowW.claim.post args (.bool true) args = true :=
  postW_of (r := l.row.toRowW) (X := (true == true))
    (show WShape.has [] (.bool true) .bool = true by first | rfl | decide | simp [WShape.has, WShape.arms, WShape.armsAll])
    (show (WTm.eq .res (.lit (.bool true))).value [] { args := args, res := some (.bool true), after := args } = some (.bool (true == true)) from w_eq_bool (w_res rfl) w_lit) rfl
theorem attach_call {l : OpenLaw} {n : Nat} {q : Program} {loose : List Str} {XP : (Str → Option Value) → Heap → Prop} {YP : World → Heap → Prop} {d : DefRec}
    (hn : l.most = some n) (hdf : d.params.defaults = [])
    (call : ∀ (w : World) (s₀ s₁ : Shared) (mg mb : Str → Option Value) (fa : Addr) (o : Obj) (pm cd doc : Value) (a : Addr) (vs : List Value) (ns : List Int),
      Ground q loose [] XP w s₀ mg mb s₁.heap → YP w s₁.heap →
      s₁.heap.get? fa = some o → o.data = .func (docDef d.name d.params d.body d.scope pm cd doc) → s₁.heap.CodeRec cd d.name → mg d.name = some (.ref fa) →
      s₁.heap.get? a = some { cls := .type "list", data := .seq vs.toArray } → IntsAre vs ns → ns.length ≤ n → s₁.gens = #[] →
      codeAny (model l.prog w) callerA (.call (.ref fa) ⟨[.ref a], []⟩) (fun r s' => r = .ok (.ret (.bool true)) ∧ OldK s₁.heap s'.heap ∧ s'.os = s₁.os ∧ AllBare s'.gens) s₁) :
    WalkO q loose XP YP l.row.toRowW d [] (fun f vs => PySem.call f vs) := by
  intro w s₀ s₁ mg mb G Y fa o pm cd doc dV kV ho hd hcd hD hmg hg args vals as hpre hlay hrd hwl hlo
  obtain rfl : dV = .none := Dflts.none hD hdf
  obtain rfl : kV = .none := Dflts.noKw hD
  obtain ⟨a, vs, ns, rfl, rfl, hobj, hints, hlen⟩ := script_of hn hpre hwl
  refine enter_call (codeAny_mono (call w s₀ s₁ mg mb fa o pm cd doc a vs ns G Y ho (fd_plain hd) hcd hmg hobj hints hlen hg) fun r s' hq => ?_)
  obtain ⟨rfl, h2, h3, h4⟩ := hq
  exact ⟨.inl ⟨.bool true, .bool true, [], rfl, fun _ => rfl, .bool true, post_true l _, fun _ => ⟨List.Pairwise.nil, fun _ hm => (nomatch hm)⟩⟩, h2, h3, h4⟩
section
variable {prog : Program} {w : World} {A : Around} {E : Value → Shared → Prop} {s : Shared} {K : Frag}
def ledger (h : Heap) (L d : Addr) : List (Addr × Obj) := (List.range h.objs.size).filterMap fun a => if a = L ∨ a = d then none else (h.get? a).map fun o => (a, o)
end
end Att
namespace L2
open PySem PySem.Spec PyProof.Rows
theorem vals_ints : ∀ {vs : List Value} {ns : List Int}, IntsAre vs ns → Vals (ns.map V.int) vs
  | _, _, .nil => .nil
  | _, _, .cons n t h => .cons ⟨t, rfl⟩ (vals_ints h)
def Only (H : Hp) : Prop := ∀ b, H b = none ∨ ∃ o xs, H b = some (.frz o (.lst xs))
theorem law_call {P : Program} {w : World} {K : PySem.W.Frag} {mg mb : Str → Option Value} {CX : CXT} {k : Nat} {fa a : Addr} {fd : FuncData} {x : Str} {sp : Sp} {s₁ : Shared} {vs : List Value} {ns : List Int}
    (KX : K.In s₁.heap) (hns : s₁.heap.Ns mainGlobals mg) (hb : s₁.heap.Ns builtinsNs mb) (hbb : ∀ x : Str, x ≠ "__name__" → mb x = bootBuiltins x) (hlim : s₁.heap.NoLimit) (hg : s₁.gens = #[])
    (ha : s₁.heap.get? a = some { cls := .type "list", data := .seq vs.toArray }) (hi : IntsAre vs ns) (hl : ns.length ≤ sizeLine) (hr : Room k callerA)
    (F : ∀ base : Heap, K.In base → base.Ns mainGlobals mg → FnOk P w K mg base CX k fa fd [x] sp) (hbind : ∀ (s : Shared) (u : Value), BindsTo s fd ⟨[u], []⟩ [(x, u)])
    (hsp : ∀ H : Hp, Only H → SqL K H a (ns.map V.int) → sp [.ref a] H (fun v _ => v = .bl true) fun _ _ _ => False)
    (hCX : ∀ H e s', CX [] H s₁ (fun _ _ _ => False) e s' → False) :
    codeAny (model P w) callerA (.call (.ref fa) ⟨[.ref a], []⟩) (fun r s' => r = .ok (.ret (.bool true)) ∧ OldK s₁.heap s'.heap ∧ s'.os = s₁.os ∧ AllBare s'.gens) s₁ := by
  have rv := vals_ints hi
  have lenV := hi.length
  -- from an abstract heap in which nothing but the script may be tracked
  have core : ∀ H : Hp, Only H → SqL K H a (ns.map V.int) → HOk P w H s₁.heap → (∀ b, H b ≠ none → b = a) → (H a ≠ none → K.lookup a = none) →
      codeAny (model P w) callerA (.call (.ref fa) ⟨[.ref a], []⟩) (fun r s' => r = .ok (.ret (.bool true)) ∧ OldK s₁.heap s'.heap ∧ s'.os = s₁.os ∧ AllBare s'.gens) s₁ := by
    intro H hO hS hok hA hK
    have base_of : ∀ {b : Addr} {o : Obj}, s₁.heap.get? b = some o → H b = none → (hidT s₁.heap H).get? b = some o := fun e n => hidT_get e n
    have noA : ∀ {b : Addr} {o : Obj} {es : Array DictEntry} {ep : Nat}, s₁.heap.get? b = some o → o.data = .dict es ep → H b = none := fun {b o es ep} e d => by
      cases q : H b with
      | none => rfl
      | some u =>
        have e' : b = a := hA b (by rw [q]; simp)
        subst e'
        rw [ha] at e; cases e
        have d' : Data.seq vs.toArray _ = Data.dict es ep := d
        cases d'
    have nsK : ∀ {b : Addr} {m : Str → Option Value}, s₁.heap.Ns b m → (hidT s₁.heap H).Ns b m := fun {b m} ⟨o, es, ep, e, d, r⟩ => ⟨o, es, ep, base_of e (noA e d), d, r⟩
    have hKb : K.In (hidT s₁.heap H) := fun b o e => base_of (KX b o e) (by
      cases q : H b with
      | none => rfl
      | some u =>
        have e' : b = a := hA b (by rw [q]; simp)
        subst e'
        rw [hK (by rw [q]; simp)] at e; cases e)
    have hM : Mod K mg (hidT s₁.heap H) := ⟨hKb, nsK hns, ⟨mb, nsK hb, hbb⟩, let ⟨mc, h1, h2⟩ := hlim; ⟨mc, nsK h1, h2⟩⟩
    have e0 : Env0 P w K mg (hidT s₁.heap H) callerA [] s₁ H := ⟨rfl, hM, fun b o e => of_hidT e, Nat.le_of_eq (hidT_size _ _), trivial, fun b hb => absurd (show b ∈ ([] : List Addr) from hb) (by simp), hok, .of_eq hg⟩
    refine codeAny_mono ((F _ hKb (nsK hns)).run callerA [] s₁ H ⟨[.ref a], []⟩ [.ref a] [.ref a] _ _ hr e0 (hbind s₁ (.ref a)) (.cons rfl .nil) (hsp H hO hS)) fun r s' h => ?_
    cases r with
    | error e => exact (hCX H e s' h).elim
    | ok fl =>
      cases fl with
      | next => exact False.elim h
      | brk => exact False.elim h
      | cont => exact False.elim h
      | ret u =>
        obtain ⟨v, H', os, bare, un, hok', r', q⟩ := h
        have q' : v = .bl true := q
        subst q'
        obtain rfl : u = Value.bool true := r'
        refine ⟨rfl, OldK.of_keep fun b o e => ?_, os, bare⟩
        cases q : H b with
        | none => exact un.keep b o e q (by intro z; exact absurd (show b ∈ ([] : List Addr) from z) (by simp)) (by simp)
        | some u =>
          rcases hO b with z | ⟨ob, xs, z⟩
          · rw [q] at z; cases z
          · have z2 := un.frzs b ob _ z
            obtain ⟨e1, _⟩ := hok b _ z
            obtain ⟨e2, _⟩ := hok' b _ z2
            rw [e] at e1; cases e1
            exact e2
  cases hk : K.lookup a with
  | some o =>
    -- the script is one of the module's own objects
    have e := KX a o hk
    rw [ha] at e
    cases e
    refine core (fun _ => none) (fun _ => .inl rfl) (.inr ⟨_, vs.toArray, _, hk, rfl, rfl, rfl, by rw [List.size_toArray, lenV]; exact hl, by simpa using rv⟩) (fun b u z => by have z' : (none : Option HO) = some u := z; cases z') (fun b z => absurd rfl z) fun z => absurd rfl z
  | none =>
    refine core (fun b => if b = a then some (.frz { cls := .type "list", data := .seq vs.toArray } (.lst (ns.map V.int))) else none) (fun b => ?_) (.inl (.inr ⟨{ cls := .type "list", data := .seq vs.toArray }, if_pos rfl⟩)) (fun b u z => ?_) (fun b z => ?_) fun _ => hk
    · by_cases hb : b = a
      · exact .inr ⟨_, _, if_pos hb⟩
      · exact .inl (if_neg hb)
    · by_cases hb : b = a
      · have z' := (if_pos hb).symm.trans z
        cases z'
        subst hb
        exact ⟨ha, by rw [List.length_map]; exact hl, vs, _, rv, ha⟩
      · have z' := (if_neg hb).symm.trans z
        cases z'
    · by_cases hb : b = a
      · exact hb
      · exact absurd (if_neg hb) z
end L2
namespace L2
open PySem PySem.Spec PyProof.Rows
abbrev KOf {K : PySem.W.Frag} {h : Heap} (_ : K.In h) : PySem.W.Frag := K
theorem walk_of {l : PySem.W.OpenLaw} {n k : Nat} {q : Program} {loose : List Str} {XP : (Str → Option Value) → Heap → Prop} {YP : World → Heap → Prop} {d : DefRec} {K : Params → PySem.W.Frag} {CX : World → CXT} {sp : World → Sp} {x : Str}
    (hn : l.most = some n) (hn2 : n ≤ sizeLine) (hdf : d.params.defaults = []) (hr : Room k callerA)
    (hY : ∀ (w : World) (h : Heap), YP w h → (K w.params).In h)
    (F : ∀ (w : World) (mg : Str → Option Value) (fa : Addr) (h : Heap), (K w.params).In h → h.Ns mainGlobals mg → mg d.name = some (.ref fa) →
      ∃ fd : FuncData, (∀ (s : Shared) (u : Value), BindsTo s fd ⟨[u], []⟩ [(x, u)]) ∧
        ∀ base : Heap, (K w.params).In base → base.Ns mainGlobals mg → FnOk l.prog w (K w.params) mg base (CX w) k fa fd [x] (sp w))
    (hsp : ∀ (w : World) (H : Hp) (a : Addr) (ns : List Int), ns.length ≤ n → Only H → SqL (K w.params) H a (ns.map V.int) → sp w [.ref a] H (fun v _ => v = .bl true) fun _ _ _ => False)
    (hCX : ∀ (w : World) (H : Hp) (s : Shared) (e : Value) (s' : Shared), CX w [] H s (fun _ _ _ => False) e s' → False) :
    PySem.W.WalkO q loose XP YP l.row.toRowW d [] (fun f vs => PySem.call f vs) := by
  refine Att.attach_call hn hdf fun w s₀ s₁ mg mb fa o pm cd doc a vs ns G Y ho hd hcd hmg hobj hints hlen hg => ?_
  have KX := hY w _ Y
  obtain ⟨fd, hb, hF⟩ := F w mg fa _ KX G.T.g hmg
  exact law_call KX G.T.g G.T.b G.T.builtins G.T.nolimit hg hobj hints (Nat.le_trans hlen hn2) hr hF hb (fun H hO hS => hsp w H a ns hlen hO hS) fun H e s' => hCX w H s₁ e s'
end L2
/- THE LAST THEOREM (shape; LID, My.* are yours):
   My.Adr: a structure of the addresses that your layer names (classes, functions); My.Txt K t: a structure (Prop) of the equations over K;
   My.txt_mk : {K} {implicit addresses ..} (e1 : nsIn K mainGlobals "law" = some (some (.ref f))) (e2 : K.lookup f = some ⟨oc, od, .func (fnOf "law" "law" params body scope dV kV doc pm an cdv ct), sl⟩) (e3 : codeIn K cdv "law" = true) .. : ∃ t, My.Txt K t
set_option maxRecDepth 100000 in
set_option maxHeartbeats 0 in
theorem PySem.Challenge.cw_LID_holds : PySem.Challenge.rw_LID.Holds := by
  w_on; o_law; k_head; (case hw => w_witness2)
  k_fill
  refine L2.walk_of (l := PySem.Challenge.rw_LID) (n := 63) (k := 40) (x := "script") (CX := fun w => ..) (sp := fun _ => My.sp_law) rfl (by decide) rfl ⟨rfl, by decide, by decide⟩ (fun w h Y => PySem.W.kIn_of Y) ?F ?S ?C
  case F =>
    intro w mg fa h KX G hmg
    have T : ∃ t, My.Txt (L2.KOf KX) t := by
      dsimp only [L2.KOf]                          -- K must stand as «<heap const> w.params» for k_is
      refine' My.txt_mk ?e1 ?e2 ?e3 ..
      (case e1 => PySem.W.k_is)                    -- in the order: a name -> its address -> its object -> its parts
      (case e2 => PySem.W.k_is)
      ..
    obtain ⟨t, T⟩ := T
    have e0 := hmg.symm.trans (PySem.W.mg_of KX G T.law)
    cases e0                                       -- fa is the law's own address
    exact ⟨_, fun s u => .of_eq rfl, fun base kb nb => My.law_fn T kb nb⟩     -- if «.of_eq rfl» comes too early: refine' ⟨_, ?b, fun base kb nb => My.law_fn T kb nb⟩; exact fun s u => .of_eq rfl
  case S => exact fun w H a ns hl hO hS => ..
  case C => exact ..
(the tactic k_is has no namespace: write k_is) -/
namespace L2
open PySem PySem.Spec PyProof.Rows
def inClass (s : Stmt) (j : Nat) : Stmt := match s with
  | .ClassDef _ _ _ body _ _ _ _ _ _ _ => body.getD j (.Pass ⟨0, 0, 0, 0⟩)
  | _ => .Pass ⟨0, 0, 0, 0⟩
def defArgs (s : Stmt) : Arguments := match s with
  | .FunctionDef _ a _ _ _ _ _ _ _ _ => a
  | _ => { posonlyargs := [], args := [], vararg := none, kwonlyargs := [], kw_defaults := [], kwarg := none, defaults := [] }
def defBody (s : Stmt) : List Stmt := match s with
  | .FunctionDef _ _ b _ _ _ _ _ _ _ => b
  | _ => []
def defScope (s : Stmt) : Scope := match s with
  | .FunctionDef _ _ _ _ _ _ sc _ _ _ => sc
  | _ => { kind := .function, names := [], isGenerator := false, isCoroutine := false }
abbrev CX0 : CXT := fun _ _ _ _ _ _ => False
abbrev E0 : XK := fun _ _ _ => False
theorem pass0 {X : Cx} : Passes CX0 X E0 := fun _ _ _ _ _ _ _ h => h.elim
structure Fun (K : PySem.W.Frag) (x qual : Str) (st : Stmt) (f : Addr) (fd : FuncData) : Prop where
  ex : ∃ (oc : Value) (od : Option Addr) (kV doc pm : Value) (an : Option Addr) (cdv ct : Value) (osl : Array (Option Value)),
    fd = PySem.W.fnOf x qual (defArgs st) (defBody st) (defScope st) .none kV doc pm an cdv ct ∧ K.lookup f = some ⟨oc, od, .func fd, osl⟩ ∧ PySem.W.codeIn K cdv qual = true
  kp : PySem.W.keepIn K (.ref f) = true
section
variable {P : Program} {w : World} {K : PySem.W.Frag} {mg : Str → Option Value} {base : Heap}
theorem Fun.ok {x qual : Str} {st : Stmt} {f : Addr} {fd : FuncData} {N ps : List Str} {k : Nat} {sp : Sp} (F : Fun K x qual st f fd) (S : FnScope N ps (defScope st)) (len : ∀ vs H Q E, sp vs H Q E → vs.length = ps.length)
    (hbody : ∀ (cdv : Value) (A : Around) (outer : List Env) (s : Shared) (H : Hp) (vs : List V) (Q : VK) (E : XK), Room k (A.deeper (envOfC qual (defScope st) s.heap.objs.size f cdv)) → sp vs H Q E →
      ∃ t, PSs (cxOf CX0 P w K mg base N qual (defScope st) f cdv A outer s H E).nox (defBody st) t ∧ t { nx := fun _ H' => Q .non H', rt := Q } (start N vs) H) : FnOk P w K mg base CX0 (k + 1) f fd ps sp := by
  obtain ⟨oc, od, kV, doc, pm, an, cdv, ct, osl, rfl, lk, hcd⟩ := F.ex
  refine fn_of lk hcd S len fun A outer s H vs Q E hr hsp => ?_
  obtain ⟨t, h, q⟩ := hbody cdv A outer s H vs Q E hr hsp
  exact ⟨t, h.nox, q⟩
theorem Fun.binds {x qual : Str} {st : Stmt} {f : Addr} {fd : FuncData} {ps : List Str} (F : Fun K x qual st f fd)
    (h : ∀ (kV doc pm : Value) (an : Option Addr) (cdv ct : Value) (us : List Value), us.length = ps.length → bindArgs (PySem.W.fnOf x qual (defArgs st) (defBody st) (defScope st) .none kV doc pm an cdv ct) ⟨us, []⟩ = pure (ps.zip us)) : Binds K fd ps [] := by
  obtain ⟨oc, od, kV, doc, pm, an, cdv, ct, osl, rfl, lk, hcd⟩ := F.ex
  exact .all (h kV doc pm an cdv ct)
theorem fun_mk {x qual : Str} {st : Stmt} {f : Addr} {oc : Value} {od an : Option Addr} {osl : Array (Option Value)} {kV doc pm cdv ct : Value} (l : K.lookup f = some ⟨oc, od, .func (PySem.W.fnOf x qual (defArgs st) (defBody st) (defScope st) .none kV doc pm an cdv ct), osl⟩)
    (c : PySem.W.codeIn K cdv qual = true) (k : PySem.W.keepIn K (.ref f) = true) : Fun K x qual st f (PySem.W.fnOf x qual (defArgs st) (defBody st) (defScope st) .none kV doc pm an cdv ct) := ⟨⟨oc, od, kV, doc, pm, an, cdv, ct, osl, rfl, l, c⟩, k⟩
end
theorem small1000 {n : Nat} (h : n ≤ 1000) : n < sizeLine := Nat.lt_of_le_of_lt h (by decide)
section
variable {X : Cx}
theorem pv (i : Nat) {x : Str} {pos : Pos} (hN : X.N[i]? = some x := by rfl) (hv : Vis X.env.scope x := by first | exact Or.inl rfl | exact Or.inr (Or.inl rfl) | exact Or.inr (Or.inr rfl)) (hd : (x == ("__debug__" : Str)) = false := by decide)
    (hcd : (x == ("__classdict__" : Str)) = false := by decide) : PE X (.Name x pos) (tVar i) := pe_var hN hv hd hcd
end
theorem ite2 {c A B : Prop} [Decidable c] (h1 : c → A) (h2 : ¬ c → B) : if c then A else B := by
  by_cases h : c
  · rw [if_pos h]
    exact h1 h
  · rw [if_neg h]
    exact h2 h
def Same (H H' : Hp) : Prop := ∀ b o, H b = some o → H' b = some o
theorem Same.refl (H : Hp) : Same H H := fun _ _ h => h
theorem Same.trans {H H1 H2 : Hp} (a : Same H H1) (b : Same H1 H2) : Same H H2 := fun c o h => b c o (a c o h)
theorem Same.free {H H' : Hp} (e : Same H H') {l : Addr} (h : H' l = Option.none) : H l = Option.none := by
  cases q : H l with
  | none => rfl
  | some o =>
    rw [e l o q] at h
    cases h
theorem Same.seq {K : PySem.W.Frag} {H H' : Hp} {a : Addr} {xs : List V} (e : Same H H') (h : SqL K H a xs) : SqL K H' a xs := by
  rcases h with (h | ⟨o, h⟩) | h
  · exact .inl (.inl (e _ _ h))
  · exact .inl (.inr ⟨o, e _ _ h⟩)
  · exact .inr h
end L2
set_option Elab.async false
set_option linter.all false
set_option maxRecDepth 100000
set_option maxHeartbeats 4000000
set_option Elab.async false
set_option linter.all false
set_option maxRecDepth 100000
namespace L2
open PySem PySem.Spec PyProof.Rows
section
variable {κ : Type} [DecidableEq κ]
end
section
variable {P : Program} {w : World} {H : Hp} {h : Heap} {a : Addr}
end
section
variable {X : Cx} {pins : List (Addr × Obj)} {σ : St} {H : Hp} {s : Shared} {a : Addr} {y v : V} {u r : Value} {o : Option V} {A : Around} {E : Value → Shared → Prop}
theorem Inv.big (I : Inv X pins σ H s) : sysModules < s.heap.objs.size := by
  have h : mainGlobals < s.heap.objs.size := (I.mod.glob.keeps I.bk).lt
  exact Nat.lt_trans (by decide) h
end
section
variable {X : Cx} {pins : List (Addr × Obj)} {σ : St} {H : Hp} {s : Shared} {a : Addr} {kvs : List (Key × V)} {k : Key} {u : Value} {A : Around} {E : Value → Shared → Prop}
end
section
variable {X : Cx} {o i e value : Expr} {pos pos' tpos : Pos} {td ty tv : TE}
end
theorem dk_empty {P : Program} {w : World} {H : Hp} (h : Heap) (hb : sysModules < h.objs.size) : ObjOk P w H (h.push { cls := .type "dict", data := .dict #[] }) h.objs.size (.dK []) :=
  ⟨Nat.zero_le _, beq_eq_false_iff_ne.mpr (Ne.symm (Nat.ne_of_lt hb)), [], .nil, Heap.DictOf.new h⟩
def tDNewK : TE := fun _ H Q => ∀ p, H p = none → Q (.ref p) (upd H p (.dK []))
section
variable {X : Cx} {pos : Pos}
theorem pe_dnewK : PE X (.Dict [] [] pos) tDNewK := fun pins s σ H Q I h =>
  wpAny_Dict_empty ⟨.ref s.heap.objs.size, _, I.laid (a := s.heap.objs.size) (o := .dK []) (t' := s.toks) (fun _ _ q => Heap.get?_push_of_some _ q) (Nat.le_refl _) (dk_empty s.heap I.big), rfl, h _ (I.hok.fresh (Nat.le_refl _))⟩
end
structure M2 (X : Cx) (o : Expr) (m : Str) (apos : Pos) (e f : Expr) (cpos : Pos) : Prop where
  base : attributeBase o m X.env (eval o X.env) = eval o X.env
  few : ((backTo cpos (starEach [e, f] X.env)).all (fun x => !x.1) && (backToKw cpos (keywordEach [] X.env)).all (fun x => x.1.isSome)
    && decide (([e, f] : List Expr).length + ([] : List Keyword).length + (if ([] : List Keyword).isEmpty then 0 else 1) < 30)) = true
  line : (apos.endLine == cpos.line) = true
  trees : backTo cpos (starEach [e, f] X.env) = [(false, eval e X.env), (false, eval f X.env)]
section
variable {X : Cx} {pins : List (Addr × Obj)} {σ : St} {H : Hp} {s : Shared} {a : Addr} {y d : V} {u r : Value} {o : Option V} {A : Around} {E : Value → Shared → Prop}
end
section
variable {X : Cx} {o e f : Expr} {apos cpos : Pos} {td ty tx : TE}
end
section
variable {X : Cx} {pins : List (Addr × Obj)} {σ : St} {H : Hp} {s : Shared} {a : Addr} {kvs : List (Key × V)} {A : Around} {E : Value → Shared → Prop}
end
section
variable {X : Cx} {pins : List (Addr × Obj)} {σ : St} {H : Hp} {s : Shared} {a : Addr} {y : V} {u : Value} {A : Around} {E : Value → Shared → Prop}
end
end L2
namespace L2
open PySem PySem.Spec PyProof.Rows
section
variable {κ : Type} [DecidableEq κ]
end
end L2
set_option Elab.async false
set_option linter.all false
set_option maxRecDepth 100000
set_option maxHeartbeats 4000000
namespace L2
open PySem PySem.Spec PyProof.Rows
section
variable {X : Cx}
def CDivB (_ j : Int) : Prop := j ≠ 0 ∧ j.natAbs < 2 ^ 256
theorem log256 {j : Int} (h : j ≠ 0) (hj : j.natAbs < 2 ^ 256) : j.natAbs.log2 < 9000 := by
  have h0 : j.natAbs ≠ 0 := by omega
  have h1 := (Nat.log2_lt h0).mpr hj
  omega
theorem op_fdivB : OpR X (binaryOp .FloorDiv) (rI CDivB fun i j => .int (i.fdiv j)) := opI fun _ _ _ _ _ _ _ hc q => floordiv_int hc.1 q (.inl (PyProof.noPylong_of_log2 (log256 hc.1 hc.2)))
theorem call_isi : CallR X (.builtin "isinstance") (fun xs H Q => ∃ x n ty b, xs = [x, .ty n] ∧ TyOf X.K H x ty ∧ PySem.W.kitOne X.K ty (.type n) = some b ∧ Q (.bl b) H) := by
  intro pins s σ H xs us Q I r h
  obtain ⟨x, n, ty, b, rfl, hty, hk, q⟩ := h
  obtain ⟨u, w', rfl, rx, rc⟩ := vals2 r
  cases (show w' = Value.type n from rc)
  exact isinst_ok I rx hty hk (fun tk => ⟨.bl b, H, I.tok _, rfl, q⟩)
theorem kitOne_ty (K : PySem.W.Frag) (A B : String) (r : Bool)
    (h : (if (Value.type A == Value.type B) = true then some true else if PySem.W.kitMeta B = true then (fastBuiltinMro A).map (·.contains (.type B)) else none) = some r) : PySem.W.kitOne K (.type A) (.type B) = some r := h
mutual
inductive DatV (K : PySem.W.Frag) (H : Hp) : V → PyData → Prop
  | non : DatV K H .non .none
  | bl (b : Bool) : DatV K H (.bl b) (.bool b)
  | int (i : Int) : DatV K H (.int i) (.int i)
  | str (x : Str) : DatV K H (.str x) (.str x)
  | lst {a : Addr} {xs : List V} {ds : List PyData} (h : SqL K H a xs) (r : DatVs K H xs ds) : DatV K H (.ref a) (.list ds)
  | tup {a : Addr} {xs : List V} {ds : List PyData} (h : SqT K H a xs) (r : DatVs K H xs ds) : DatV K H (.ref a) (.tuple ds)
inductive DatVs (K : PySem.W.Frag) (H : Hp) : List V → List PyData → Prop
  | nil : DatVs K H [] []
  | cons {x : V} {d : PyData} {xs : List V} {ds : List PyData} (h : DatV K H x d) (t : DatVs K H xs ds) : DatVs K H (x :: xs) (d :: ds)
end
mutual
theorem DatV.reads {pins : List (Addr × Obj)} {σ : St} {H : Hp} {s : Shared} (I : Inv X pins σ H s) : ∀ {x : V} {d : PyData} {u : Value}, DatV X.K H x d → RelV x u → ∃ as, Reads s.heap u d as
  | _, _, _, .non, r => by cases (show _ = Value.none from r); exact ⟨_, .none⟩
  | _, _, _, .bl b, r => by cases (show _ = Value.bool b from r); exact ⟨_, .bool b⟩
  | _, _, _, .int i, r => by obtain ⟨t, rfl⟩ := r; exact ⟨_, .int i t⟩
  | _, _, _, .str x, r => by obtain ⟨t, rfl⟩ := r; exact ⟨_, .str x t⟩
  | _, _, _, @DatV.lst _ _ a xs ds h q, r => by
    cases (show _ = Value.ref a from r)
    obtain ⟨its, hv, hp, _⟩ := I.list h
    obtain ⟨o, n, e, c, _, d⟩ := hp
    obtain ⟨as, z⟩ := DatVs.reads I q hv
    exact ⟨_, .list e c d (by simpa using z)⟩
  | _, _, _, @DatV.tup _ _ a xs ds h q, r => by
    cases (show _ = Value.ref a from r)
    obtain ⟨its, hv, hp, _⟩ := I.tuple h
    obtain ⟨o, e, c, n, d⟩ := hp
    obtain ⟨as, z⟩ := DatVs.reads I q hv
    exact ⟨_, .tuple e c d (by simpa using z)⟩
theorem DatVs.reads {pins : List (Addr × Obj)} {σ : St} {H : Hp} {s : Shared} (I : Inv X pins σ H s) : ∀ {xs : List V} {ds : List PyData} {us : List Value}, DatVs X.K H xs ds → Vals xs us → ∃ as, ReadsAll s.heap us ds as
  | _, _, _, .nil, .nil => ⟨_, .nil⟩
  | _, _, _, .cons h t, .cons r q => by
    obtain ⟨as, z⟩ := DatV.reads I h r
    obtain ⟨bs, y⟩ := DatVs.reads I t q
    exact ⟨_, .cons z y⟩
end
def rEqD (K : PySem.W.Frag) : R2 := fun x y H Q => ∃ d e, DatV K H x d ∧ DatV K H y e ∧ SeqAt.shaped d = true ∧ SeqAt.shaped e = true ∧ Q (.bl (PyData.eqv d e)) H
def rNeD (K : PySem.W.Frag) : R2 := fun x y H Q => ∃ d e, DatV K H x d ∧ DatV K H y e ∧ SeqAt.shaped d = true ∧ SeqAt.shaped e = true ∧ Q (.bl (!PyData.eqv d e)) H
theorem op_eqD (hu : X.A.units + 64 < cLine) : OpR X (compareOp .Eq) (rEqD X.K) := by
  intro pins s σ H x y v u Q I rx ry h
  obtain ⟨d, e, hd, he, sd, se, q⟩ := h
  obtain ⟨as, z⟩ := hd.reads I rx
  obtain ⟨bs, z'⟩ := he.reads I ry
  exact SeqAt.compareEq_shaped z z' sd se hu ⟨.bl _, H, I, rfl, q⟩
theorem op_neD (hu : X.A.units + 64 < cLine) : OpR X (compareOp .NotEq) (rNeD X.K) := by
  intro pins s σ H x y v u Q I rx ry h
  obtain ⟨d, e, hd, he, sd, se, q⟩ := h
  obtain ⟨as, z⟩ := hd.reads I rx
  obtain ⟨bs, z'⟩ := he.reads I ry
  exact SeqAt.compareNe_shaped z z' sd se hu ⟨.bl _, H, I, rfl, q⟩
end
theorem same_upd {H : Hp} {p : Addr} {o : HO} (h : H p = none) : Same H (upd H p o) := fun b u e => by
  rw [upd_ne (ne_of_none e h)]; exact e
theorem atI_lt {α : Type} (xs : List α) (i : Int) (h0 : 0 ≤ i) (h1 : i < xs.length) : ∃ v, atI xs i = some v ∧ v ∈ xs := by
  have hl : i.toNat < xs.length := by omega
  refine ⟨xs[i.toNat], ?_, List.getElem_mem hl⟩
  have e : ((i.toNat : Nat) : Int) = i := by omega
  have := atI_nat (xs := xs) (j := i.toNat) (v := xs[i.toNat]) (List.getElem?_eq_getElem hl)
  rw [e] at this
  exact this
theorem atI_ints (ns : List Int) (i : Int) (h0 : 0 ≤ i) (h1 : i < ns.length) : ∃ z, atI (ns.map V.int) i = some (.int z) ∧ z ∈ ns := by
  obtain ⟨v, e, m⟩ := atI_lt (ns.map V.int) i h0 (by simpa using h1)
  obtain ⟨z, hz, rfl⟩ := List.mem_map.mp m
  exact ⟨z, e, hz⟩
end L2
set_option Elab.async false
set_option linter.all false
set_option maxRecDepth 100000
set_option maxHeartbeats 4000000
namespace L2
open PySem PySem.Spec PyProof.Rows
def clOf (cells : List (Str × Addr)) : List (Str × NameKind) → List (Str × Addr) → List (Str × Addr)
  | [], acc => acc
  | (n, k) :: r, acc => if (k == .free) = true then clOf cells r ((n, (cells.lookup n).getD 0) :: acc) else clOf cells r acc
theorem closure_run {env : Env} : ∀ (names : List (Str × NameKind)) (acc : List (Str × Addr)), (∀ y ∈ names, y.2 = .free → ∃ c, env.cells.lookup y.1 = some c) →
    (forIn names acc (fun (x : Str × NameKind) (cs : List (Str × Addr)) => match x with
      | (name, kind) => if (kind == .free) = true then (do let a ← cellOf env name; pure (ForInStep.yield ((name, a) :: cs))) else (do pure PUnit.unit; pure (ForInStep.yield cs))) : Sem (List (Str × Addr))) = pure (clOf env.cells names acc)
  | [], acc, _ => rfl
  | (n, k) :: r, acc, h => by
    rw [List.forIn_cons]
    have hr : ∀ y ∈ r, y.2 = .free → ∃ c, env.cells.lookup y.1 = some c := fun y hy => h y (List.mem_cons_of_mem _ hy)
    by_cases hk : (k == .free) = true
    · obtain ⟨c, hc⟩ := h (n, k) List.mem_cons_self (by simpa using hk)
      have hc' : env.cells.lookup n = some c := hc
      simp only [hk, if_true, clOf, hc', Option.getD_some]
      have e : cellOf env n = pure c := by unfold cellOf; rw [hc']
      rw [e]
      exact closure_run r _ hr
    · simp only [hk, if_false, clOf]
      exact closure_run r acc hr
theorem closureFor_eq {scope : Scope} {env : Env} (h : ∀ y ∈ scope.names, y.2 = .free → ∃ c, env.cells.lookup y.1 = some c) : closureFor scope env = pure (clOf env.cells scope.names []) := by
  unfold closureFor
  have := closure_run (env := env) scope.names [] h
  first
    | exact (congrArg (fun m => m >>= fun cs => pure cs) this).trans (pure_bind _ _)
    | (simp only [] at this ⊢; rw [this]; rfl)
theorem clOf_sub {cells : List (Str × Addr)} {x : Str} {c : Addr} : ∀ {names : List (Str × NameKind)} {acc : List (Str × Addr)}, (∀ y ∈ names, y.2 = .free → ∃ c, cells.lookup y.1 = some c) → (clOf cells names acc).lookup x = some c → acc.lookup x = some c ∨ cells.lookup x = some c
  | [], acc, _, h => .inl h
  | (n, k) :: r, acc, hf, h => by
    have hr : ∀ y ∈ r, y.2 = .free → ∃ c, cells.lookup y.1 = some c := fun y hy => hf y (List.mem_cons_of_mem _ hy)
    unfold clOf at h
    by_cases hk : (k == .free) = true
    · rw [if_pos hk] at h
      rcases clOf_sub hr h with q | q
      · rw [List.lookup_cons] at q
        cases hx : x == n with
        | true =>
          rw [hx] at q
          obtain ⟨d, hd⟩ := hf (n, k) List.mem_cons_self (by simpa using hk)
          have e : x = n := by simpa using hx
          subst e
          have hd' : cells.lookup x = some d := hd
          rw [hd'] at q ⊢
          exact .inr (by simpa using q)
        | false => rw [hx] at q; exact .inl q
      · exact .inr q
    · rw [if_neg hk] at h
      exact clOf_sub hr h
theorem clOf_acc {cells : List (Str × Addr)} {x : Str} : ∀ {names : List (Str × NameKind)} {acc : List (Str × Addr)}, (∀ y ∈ names, y.2 = .free → ∃ c, cells.lookup y.1 = some c) → (∃ c, acc.lookup x = some c) → ∃ c, (clOf cells names acc).lookup x = some c
  | [], acc, _, h => h
  | (n, k) :: r, acc, hf, h => by
    have hr : ∀ y ∈ r, y.2 = .free → ∃ c, cells.lookup y.1 = some c := fun y hy => hf y (List.mem_cons_of_mem _ hy)
    unfold clOf
    by_cases hk : (k == .free) = true
    · rw [if_pos hk]
      refine clOf_acc hr ?_
      rw [List.lookup_cons]
      cases hx : x == n with
      | true => exact ⟨_, rfl⟩
      | false => exact h
    · rw [if_neg hk]
      exact clOf_acc hr h
theorem clOf_has {cells : List (Str × Addr)} {x : Str} : ∀ {names : List (Str × NameKind)} {acc : List (Str × Addr)}, (∀ y ∈ names, y.2 = .free → ∃ c, cells.lookup y.1 = some c) → names.lookup x = some .free → ∃ c, (clOf cells names acc).lookup x = some c
  | [], acc, _, h => by simp at h
  | (n, k) :: r, acc, hf, h => by
    have hr : ∀ y ∈ r, y.2 = .free → ∃ c, cells.lookup y.1 = some c := fun y hy => hf y (List.mem_cons_of_mem _ hy)
    rw [List.lookup_cons] at h
    unfold clOf
    cases hx : x == n with
    | true =>
      rw [hx] at h
      have hk : k = .free := by simpa using h
      subst hk
      rw [if_pos (show (NameKind.free == NameKind.free) = true from rfl)]
      refine clOf_acc hr ⟨(cells.lookup n).getD 0, ?_⟩
      rw [List.lookup_cons, hx]
    | false =>
      rw [hx] at h
      by_cases hk : (k == .free) = true
      · rw [if_pos hk]; exact clOf_has hr h
      · rw [if_neg hk]; exact clOf_has hr h
theorem lookup_mem {x : Str} {k : NameKind} : ∀ {names : List (Str × NameKind)}, names.lookup x = some k → (x, k) ∈ names
  | [], h => by simp at h
  | (n, j) :: r, h => by
    rw [List.lookup_cons] at h
    cases hx : x == n with
    | true =>
      rw [hx] at h
      have e : x = n := by simpa using hx
      have e2 : j = k := by simpa using h
      subst e; subst e2
      exact List.mem_cons_self
    | false => rw [hx] at h; exact List.mem_cons_of_mem _ (lookup_mem h)
theorem lookup_relabel {env : Env} {x : Str} : ∀ {names : List (Str × NameKind)},
    (names.map fun (n, k) => if (k == NameKind.free && env.scope.kind == .function && env.kindOf n == some .cell) then (n, NameKind.cell) else (n, k)).lookup x
      = (names.lookup x).map fun k => if (k == NameKind.free && env.scope.kind == .function && env.kindOf x == some .cell) then NameKind.cell else k
  | [] => rfl
  | (n, k) :: r => by
    have ih := @lookup_relabel env x r
    show List.lookup x ((if (k == NameKind.free && env.scope.kind == .function && env.kindOf n == some .cell) = true then (n, NameKind.cell) else (n, k)) :: _) = _
    cases hx : x == n with
    | true =>
      have e : x = n := by simpa using hx
      subst e
      by_cases hc : (k == NameKind.free && env.scope.kind == .function && env.kindOf x == some .cell) = true
      · rw [if_pos hc]
        simp only [List.lookup_cons, beq_self_eq_true, Option.map_some]
        rw [if_pos hc]
      · rw [if_neg hc]
        simp only [List.lookup_cons, beq_self_eq_true, Option.map_some]
        rw [if_neg hc]
    | false =>
      by_cases hc : (k == NameKind.free && env.scope.kind == .function && env.kindOf n == some .cell) = true
      · rw [if_pos hc]; simp only [List.lookup_cons, hx]; exact ih
      · rw [if_neg hc]; simp only [List.lookup_cons, hx]; exact ih
abbrev cCx (X : Cx) (scope : Scope) (N' : List Str) (C : Addr) (s₀ : Shared) (H₀ : Hp) (ex : List Addr) (pn : List (Addr × Obj)) : Cx :=
  { X with N := N', s₀ := s₀, H₀ := H₀, env := compEnvC scope (clOf X.env.cells scope.names []) C X.env, outer := X.stack, stack := X.stack, ex := ex, fn := fun _ => false, pn := pn, xe := fun _ _ => False }
def PTs (Y : Cx) (ifs : List Expr) (t : TT) : Prop :=
  ∀ (pins : List (Addr × Obj)) (s : Shared) (σ : St) (H : Hp) (Q : Bool → Hp → Prop), Inv Y pins σ H s → t σ H Q →
    wpAny (model Y.prog Y.w) Y.A (forIn ifs true fun c r => if r = true then do let ok ← isTrue c Y.env (eval c Y.env); pure (ForInStep.yield ok) else pure (ForInStep.yield r)) (TP Y pins σ Q) Y.xe s
def tYes : TT := fun _ H Q => Q true H
theorem pts_nil {Y : Cx} : PTs Y [] tYes := fun _ _ _ H _ I h => wpAny_pure ⟨H, I, h⟩
theorem HOk.but {P : Program} {w : World} {H : Hp} {h h' : Heap} {C : Addr} (ok : HOk P w H h) (hn : H C = none) (hs : Heap.SameBut C h h') : HOk P w H h' := fun b ob e => by
  refine (ok b ob e).stay (fun c w' hc q => (hs.2 c ?_).trans q) (fun _ q => q) (fun _ _ q => q) fun _ _ q => q
  rintro rfl
  rcases hc with rfl | hc
  · rw [hn] at e; cases e
  · rw [hn] at hc; cases hc
theorem Un.but {fs ex : List Addr} {H H' : Hp} {h h1 h2 : Heap} {C : Addr} (u : Un fs ex H H' h h1) (hs : Heap.SameBut C h1 h2) (hC : ∀ b o, h.get? b = some o → b ≠ C) : Un fs ex H H' h h2 where
  keep := fun b o e n hb hx => (hs.2 b (hC b o e)).trans (u.keep b o e n hb hx)
  slot := fun b o e n hb hx => by
    obtain ⟨sl, q⟩ := u.slot b o e n hb hx
    exact ⟨sl, (hs.2 b (hC b o e)).trans q⟩
  free := u.free
  there := fun b o e hx => by
    obtain ⟨o', q⟩ := u.there b o e hx
    exact ⟨o', (hs.2 b (hC b o e)).trans q⟩
  tups := u.tups
  frzs := u.frzs
  tbls := u.tbls
section
variable {X : Cx}
def tComp (k : Nat) (wi : TI) (g : TG) (tt : TT) (te : TE) : TE := fun σ H Q => wi σ H fun J H1 => ∀ D, H1 D = none → ∃ W : Nat → Nat → List V → Hp → Prop, (∃ m, W 0 m [] (upd H1 D (.lst []))) ∧ ∀ i m ys H, W i m ys H →
  (J.stop i H ∧ Q (.ref D) H) ∨ (J.go i H ∧ ∃ N : List V → Hp → Prop, (∀ ys' H', N ys' H' → ∃ m', m' < m ∧ W (i + 1) m' ys' H') ∧
    ∀ x H', J.yld i H x H' → g x (List.replicate k none ++ σ) H' fun σ2 H2 => (∃ vs : St, vs.length = k ∧ σ2 = vs ++ σ) ∧ tt σ2 H2 fun b H3 => if b = true then te σ2 H3 fun y H4 => H4 D = some (.lst ys) ∧ ys.length < sizeLine ∧ N (ys ++ [y]) (upd H4 D (.lst (ys ++ [y]))) else N ys H3)
theorem comp_loop {Y : Cx} {tg elt iter : Expr} {ifs : List Expr} {scope : Scope} {pos : Pos} {it D : Addr} {g : TG} {tt : TT} {te : TE} {J : It} {fp : List Addr} {tn : Nat → Heap → Prop} {k : Nat} {σ : St} {Q : VK}
    (hc : Y.calm = true) (hx : Y.xe = fun _ _ => False) (hg : PG Y tg g) (ht : PTs Y ifs tt) (he : PE Y elt te) (T : Turn Y.prog Y.w Y.K tg J fp it tn) (hf : ∀ H : Hp, (∀ b ∈ fp, H b = none) → ∀ b ∈ fp, FpOk Y [] H b)
    (W : Nat → Nat → List V → Hp → Prop)
    (turn : ∀ i m ys H, W i m ys H → (J.stop i H ∧ Q (.ref D) H) ∨ (J.go i H ∧ ∃ N : List V → Hp → Prop, (∀ ys' H', N ys' H' → ∃ m', m' < m ∧ W (i + 1) m' ys' H') ∧
      ∀ x H', J.yld i H x H' → g x (List.replicate k none ++ σ) H' fun σ2 H2 => (∃ vs : St, vs.length = k ∧ σ2 = vs ++ σ) ∧ tt σ2 H2 fun b H3 => if b = true then te σ2 H3 fun y H4 => H4 D = some (.lst ys) ∧ ys.length < sizeLine ∧ N (ys ++ [y]) (upd H4 D (.lst (ys ++ [y]))) else N ys H3))
    (n : Nat) (s : Shared) (h : ∃ i ys H, Inv Y [] (List.replicate k none ++ σ) H s ∧ tn i s.heap ∧ (∀ b ∈ fp, H b = none) ∧ W i n ys H) :
    codeAny (model Y.prog Y.w) Y.A (.compLoop (.ListComp elt [⟨tg, iter, ifs, 0⟩] scope pos) 0 (.ref it) (.ref D) Y.env) (fun r s' => r = .ok .next ∧ ∃ H', Inv Y [] (List.replicate k none ++ σ) H' s' ∧ Q (.ref D) H') s := by
  refine codeAny_loop rfl (fun n s => ∃ i ys H, Inv Y [] (List.replicate k none ++ σ) H s ∧ tn i s.heap ∧ (∀ b ∈ fp, H b = none) ∧ W i n ys H) ?_ n h
  rintro n s3 ⟨i, ys, H3, I3, st3, fr3, w3⟩
  show wpAny _ Y.A ((compTurn (.ListComp elt [⟨tg, iter, ifs, 0⟩] scope pos) 0 (.ref it) (.ref D) Y.env).onRaise (fun x => do noteFrame x Y.env; theTreesLotGoes x)) _ _ s3
  refine PySem.wpAny_noted ?_
  rw [PySem.compTurn_list]
  have no : ∀ {α : Type} {m : Sem α} {P : α → Shared → Prop} {E : Value → Shared → Prop} {s : Shared}, wpAny (model Y.prog Y.w) Y.A m P Y.xe s → wpAny (model Y.prog Y.w) Y.A m P E s := fun {α m P E s} h =>
    wpAny_mono h (fun _ _ q => q) fun _ _ q => by rw [hx] at q; exact q.elim
  refine wpAny_bind (wpAny_standAt (wpAny_bind ?_))
  rcases turn i n ys H3 w3 with ⟨stop, qn⟩ | ⟨go, N, hN, step⟩
  · refine thn (T.done Y rfl rfl rfl hc i [] s3 (List.replicate k none ++ σ) H3 _ I3 (hf H3 fr3) st3 stop) fun r s4 ⟨hr, I4⟩ => ?_
    subst hr
    exact wpAny_pure ⟨rfl, H3, I4, qn⟩
  · refine thn (T.item Y rfl rfl rfl hc i [] s3 (List.replicate k none ++ σ) H3 _ I3 (hf H3 fr3) st3 go) fun r s4 ⟨u, hr, h4⟩ => ?_
    subst hr
    refine wpAny_bind (thn h4 fun _ s5 ⟨x, H5, I5, r5, y5, st5, fr5⟩ => ?_)
    have I5' := I5.pinned (hf H5 fr5) (T.obj _ _ st5)
    refine wpAny_bind (no (thn (hg _ s5 (List.replicate k none ++ σ) H5 x u _ I5' r5 (step x H5 y5)) fun _ s6 ⟨σ6, H6, I6, ⟨vs, hvs, e6⟩, q6⟩ => ?_))
    subst e6
    have forget : ∀ {pins : List (Addr × Obj)} {H : Hp} {s : Shared}, Inv Y pins (vs ++ σ) H s → Inv Y pins (List.replicate k none ++ σ) H s := fun {pins H s} I => I.weak (by simp [hvs]) fun i v e => by
      by_cases hi : i < k
      · rw [List.getElem?_append_left (by simpa using hi)] at e
        simp [List.getElem?_replicate, hi] at e
      · rw [List.getElem?_append_right (by simpa using Nat.le_of_not_lt hi)] at e
        rw [List.getElem?_append_right (by omega)]
        simpa [hvs] using e
    refine wpAny_bind (no (thn (ht _ s6 (vs ++ σ) H6 _ I6 q6) fun b s7 ⟨H7, I7, q7⟩ => ?_))
    have again : ∀ {H8 : Hp} {s8 : Shared} {ys' : List V}, Inv Y ([] ++ pinsAt fp s5.heap) (vs ++ σ) H8 s8 → N ys' H8 → ∃ m, m < n ∧ ∃ i ys H, Inv Y [] (List.replicate k none ++ σ) H s8 ∧ tn i s8.heap ∧ (∀ b ∈ fp, H b = none) ∧ W i m ys H := fun {H8 s8 ys'} I8 n8 => by
      obtain ⟨m', hm, w8⟩ := hN ys' H8 n8
      refine ⟨m', hm, i + 1, ys', H8, forget I8.unpinned, T.keep _ _ _ st5 fun b hb o e => (I8.pin (b, o) (List.mem_append_right _ (List.mem_append_right _ (mem_pinsAt hb e)))).1, fun b hb => ?_, w8⟩
      obtain ⟨o, e, d⟩ := T.obj _ _ st5 b hb
      exact (I8.pin (b, o) (List.mem_append_right _ (List.mem_append_right _ (mem_pinsAt hb e)))).2.1
    cases b with
    | false =>
      rw [if_neg Bool.false_ne_true] at q7
      exact wpAny_pure ⟨rfl, again I7 q7⟩
    | true =>
      rw [if_pos rfl] at q7
      refine wpAny_bind (wpAny_bind (no (thn (he _ s7 (vs ++ σ) H7 _ I7 q7) fun y s8 ⟨y', H8, I8, ry, q8, l8, n8⟩ => ?_)))
      exact wpAny_bind (no (thn (mt_append _ s8 (vs ++ σ) H8 (.ref D) [y'] (.ref D) [y] (fun _ H' => N (ys ++ [y']) H') I8 rfl (.cons ry .nil) ⟨D, ys, y', rfl, rfl, q8, l8, n8⟩) fun _ s9 ⟨_, H9, I9, _, q9⟩ => wpAny_pure (wpAny_pure ⟨rfl, again I9 q9⟩)))
structure CompOk (X : Cx) (scope : Scope) (N' : List Str) (k : Nat) : Prop where
  cell : ∀ y ∈ scope.names, y.2 ≠ .cell
  kind : scope.kind = .function
  names : ∀ y ∈ scope.names, y.2 = .local → scope.names.lookup y.1 = some .local
  free : ∀ y ∈ scope.names, y.2 = .free → X.env.scope.names.lookup y.1 = some .cell
  len : N'.length = k + X.N.length
  sub : ∀ i x, N'[k + i]? = some x → scope.names.lookup x = some .free → X.N[i]? = some x
  loc : ∀ i x, N'[k + i]? = some x → scope.names.lookup x ≠ some .local
theorem CompOk.cells {scope : Scope} {N' : List Str} {k : Nat} {pins : List (Addr × Obj)} {σ : St} {H : Hp} {s : Shared} (c : CompOk X scope N' k) (I : Inv X pins σ H s) : ∀ y ∈ scope.names, y.2 = .free → ∃ a, X.env.cells.lookup y.1 = some a := fun y hy e =>
  I.ok.has y.1 (.inl (c.free y hy e))
theorem inv_comp {scope : Scope} {N' : List Str} {k : Nat} {pins : List (Addr × Obj)} {σ : St} {H : Hp} {s s₄ : Shared} {fp : List Addr} {m : Str → Option Value} (c : CompOk X scope N' k) (hc : X.calm = true) (I : Inv X pins σ H s)
    (hf : ∀ b ∈ fp, FpOk X pins H b) (hfl : ∀ b ∈ fp, b < s.heap.objs.size) (hb : ∀ b ∈ fp, X.base.get? b = none) (hns : s₄.heap.Ns s.heap.objs.size m) (hk : ∀ b o, s.heap.get? b = some o → s₄.heap.get? b = some o) (ho : s₄.os = s.os) (hg : s₄.gens = s.gens) :
    Inv (cCx X scope N' s.heap.objs.size s H fp (X.pn ++ pins)) [] (List.replicate k none ++ σ) H s₄ := by
  have hcl := c.cells I
  have sub : ∀ x a, (clOf X.env.cells scope.names []).lookup x = some a → X.env.cells.lookup x = some a := fun x a e => by
    rcases clOf_sub hcl e with q | q
    · simp at q
    · exact q
  have kinds : ∀ x, (compEnvC scope (clOf X.env.cells scope.names []) s.heap.objs.size X.env).kindOf x = some .cell ∨ (compEnvC scope (clOf X.env.cells scope.names []) s.heap.objs.size X.env).kindOf x = some .free → scope.names.lookup x = some .free := fun x hx => by
    have e : (compEnvC scope (clOf X.env.cells scope.names []) s.heap.objs.size X.env).kindOf x = (scope.names.lookup x).map fun k => if (k == NameKind.free && X.env.scope.kind == .function && X.env.kindOf x == some .cell) then NameKind.cell else k := lookup_relabel
    rw [e] at hx
    cases q : scope.names.lookup x with
    | none => rw [q] at hx; simp at hx
    | some j =>
      rw [q] at hx
      have hj : j ≠ .cell := c.cell (x, j) (lookup_mem q)
      cases j <;> simp_all
  have fresh : ∀ b, s.heap.objs.size ≤ b → s.heap.get? b = none := fun b hb => Heap.get?_none_of_le hb
  have ne : ∀ b o, s.heap.get? b = some o → b ≠ s.heap.objs.size := fun b o e => Nat.ne_of_lt (Heap.lt_size e)
  have cl_lt : ∀ x a, X.env.cells.lookup x = some a → a < s.heap.objs.size := fun x a e => by
    obtain ⟨v, o, h1, _⟩ := I.cell x a e
    exact Heap.lt_size h1
  refine ⟨⟨I.ok.mod, c.kind, I.ok.glob, I.ok.blt, Nat.le_refl _, fun x y a e1 e2 => I.ok.inj x y a (sub x a e1) (sub y a e2), fun x hx => clOf_has hcl (kinds x hx), (fun _ _ z => nomatch z), I.ok.hd, I.ok.frames, .inl rfl, fun b hb' => ⟨Nat.ne_of_lt (hfl b hb'), fun x a e => (hf b hb').2.2.2.2.1 x a (sub x a e)⟩,
      I.bs, Nat.le_trans I.ok.bsz I.sz, (fun b o e hb' => by rw [hb b hb'] at e; cases e), fun b hb' hz => ?_, I.stack, I.stkFree⟩, ho, by rw [hg]; exact I.bare, Un.kept hk, ⟨m, hns, fun i x v e1 e2 e3 => ?_⟩, fun x a e => ?_, I.hok.fresh (Nat.le_refl _), fun x a e => I.freeC x a (sub x a e), fun p hp => ?_, I.hok.kept hk, ?_⟩
  · rcases List.mem_cons.mp (I.stkSub b hz) with z | z
    · exact (hf b hb').2.1 z
    · exact (hf b hb').2.2.1 z
  · have hi : k ≤ i := by
      refine Nat.le_of_not_lt fun hi => ?_
      rw [List.getElem?_append_left (by simpa using hi)] at e2
      simp [List.getElem?_replicate, hi] at e2
    obtain ⟨j, rfl⟩ : ∃ j, i = k + j := ⟨i - k, by omega⟩
    rw [List.getElem?_append_right (by simp)] at e2
    have e2' : σ[j]? = some (some v) := by simpa using e2
    have e : (relabel scope X.env).names.lookup x = (scope.names.lookup x).map fun k => if (k == NameKind.free && X.env.scope.kind == .function && X.env.kindOf x == some .cell) then NameKind.cell else k := lookup_relabel
    have hfree : scope.names.lookup x = some .free := by
      cases q : scope.names.lookup x with
      | none =>
        rcases e3 with z | z | z
        all_goals (have z' : (relabel scope X.env).names.lookup x = some _ := z; rw [e, q] at z'; simp at z')
      | some j' =>
        have h1 : j' ≠ .cell := c.cell (x, j') (lookup_mem q)
        have h2 : j' ≠ .local := fun z => c.loc j x e1 (by rw [q, z])
        rcases e3 with z | z | z
        all_goals (have z' : (relabel scope X.env).names.lookup x = some _ := z; rw [e, q] at z'; cases j' <;> simp_all)
    have hX := c.sub j x e1 hfree
    have hcellX := c.free (x, .free) (lookup_mem hfree) rfl
    obtain ⟨m0, hn0, hl0⟩ := I.loc
    obtain ⟨u, r, l⟩ := hl0 j x v hX e2' (.inr (.inl hcellX))
    refine ⟨u, r, ?_⟩
    rcases l with ⟨z, _⟩ | ⟨_, a, ea, hz⟩
    · have z' : X.env.scope.names.lookup x = some .local := z
      rw [hcellX] at z'; cases z'
    · obtain ⟨a', ea'⟩ := clOf_has (acc := []) hcl hfree
      have e4 := sub x a' ea'
      rw [ea] at e4
      cases e4
      refine .inr ⟨.inl ?_, a, ea', ?_⟩
      · show (relabel scope X.env).names.lookup x = some .cell
        rw [e, hfree]
        have k1 : (X.env.scope.kind == .function) = true := by rw [I.ok.kind]; rfl
        have k2 : (X.env.kindOf x == some .cell) = true := by
          have : X.env.kindOf x = some .cell := hcellX
          rw [this]; rfl
        simp [k1, k2]
      · obtain ⟨o, h1, h2⟩ := hz
        exact ⟨o, hk _ _ h1, h2⟩
  · obtain ⟨v, o, h1, h2⟩ := I.cell x a (sub x a e)
    exact ⟨v, o, hk _ _ h1, h2⟩
  · have hp' : p ∈ X.pn ++ pins := by simpa using hp
    obtain ⟨e, n, nl, nf, d⟩ := I.pin p hp'
    refine ⟨hk _ _ e, n, ne _ _ e, fun z => ?_, d⟩
    rcases List.mem_cons.mp (I.stkSub _ z) with z | z
    · exact nl z
    · exact nf z
  · show (List.replicate k none ++ σ).length = N'.length
    rw [c.len, List.length_append, List.length_replicate, I.len]
theorem comp_block {elt iter tg : Expr} {ifs : List Expr} {scope : Scope} {pos : Pos} {g : TG} {tt : TT} {te : TE} {N' : List Str} {k : Nat} {it : Addr} {J : It} {fp : List Addr} {tn : Nat → Heap → Prop} {pins : List (Addr × Obj)} {σ : St} {H : Hp} {s : Shared} {Q : VK} {RR : Value → Addr → Result → Shared → Prop} {E : Value → Shared → Prop}
    (c : CompOk X scope N' k) (hc : X.calm = true) (I : Inv X pins σ H s) (T : Turn X.prog X.w X.K tg J fp it tn) (st : tn 0 s.heap) (hf : ∀ b ∈ fp, FpOk X pins H b)
    (hg : ∀ C s₀ H₀ ex pn, PG (cCx X scope N' C s₀ H₀ ex pn) tg g) (ht : ∀ C s₀ H₀ ex pn, PTs (cCx X scope N' C s₀ H₀ ex pn) ifs tt) (he : ∀ C s₀ H₀ ex pn, PE (cCx X scope N' C s₀ H₀ ex pn) elt te)
    (h : ∀ D, H D = none → ∃ W : Nat → Nat → List V → Hp → Prop, (∃ m, W 0 m [] (upd H D (.lst []))) ∧ ∀ i m ys H, W i m ys H →
      (J.stop i H ∧ Q (.ref D) H) ∨ (J.go i H ∧ ∃ N : List V → Hp → Prop, (∀ ys' H', N ys' H' → ∃ m', m' < m ∧ W (i + 1) m' ys' H') ∧
        ∀ x H', J.yld i H x H' → g x (List.replicate k none ++ σ) H' fun σ2 H2 => (∃ vs : St, vs.length = k ∧ σ2 = vs ++ σ) ∧ tt σ2 H2 fun b H3 => if b = true then te σ2 H3 fun y H4 => H4 D = some (.lst ys) ∧ ys.length < sizeLine ∧ N (ys ++ [y]) (upd H4 D (.lst (ys ++ [y]))) else N ys H3))
    (fin : ∀ D C s' H' m, s'.heap.Ns C m → C ≠ X.env.locals → (∀ x a, X.env.cells.lookup x = some a → a ≠ C) → (H' C = none ∧ X.s₀.heap.objs.size ≤ C ∧ ∀ p ∈ X.pn ++ pins, p.1 ≠ C) → (∀ h', Heap.SameBut C s'.heap h' → Inv X pins σ H' { s' with heap := h' }) → Q (.ref D) H' → RR (.ref D) C (.ok .next) s') :
    wpAny (model X.prog X.w) X.A (newList []) (fun acc s₃ => wpAny (model X.prog X.w) X.A (newFunctionEnv scope X.env.globals (clOf X.env.cells scope.names []) [] X.env.qual none .none (some X.env)) (fun cenv s₄ =>
      codeAny (model X.prog X.w) X.A (.compStart (.ListComp elt [⟨tg, iter, ifs, 0⟩] scope pos) 0 (.ref it) acc { cenv with scope := relabel scope X.env }) (RR acc cenv.locals) s₄) E s₃) E s := by
  refine wpAny_newObj_type (wpAny_newFunctionEnv c.cell (by intro y hy; simp at hy) (fun h₁ hns₁ hsb₁ => ?_) c.kind)
  dsimp only at hns₁ hsb₁ ⊢
  have I3 : Inv X pins σ (upd H s.heap.objs.size (.lst [])) { s with heap := s.heap.push { cls := .type "list", data := .seq ([] : List Value).toArray }, toks := s.toks } := I.lnew (ys := []) (its := []) .nil (Nat.zero_le _)
  generalize hH2 : s.heap.push { cls := .type "list", dict := none, data := .seq ([] : List Value).toArray } = hp at hns₁ hsb₁ I3 ⊢
  have hlt : ∀ b o, s.heap.get? b = some o → hp.get? b = some o := fun b o e => by rw [← hH2]; exact Heap.get?_push_of_some _ e
  have hnD : H s.heap.objs.size = none := I.hok.fresh (Nat.le_refl _)
  have kp : ∀ b o, hp.get? b = some o → h₁.get? b = some o := fun b o e => hsb₁.extBut b o (Nat.ne_of_lt (Heap.lt_size e)) (Heap.get?_push_of_some _ e)
  have stk : ∀ b ∈ fp, s.heap.get? b ≠ none := fun b hb z => by
    obtain ⟨o, e, _⟩ := T.obj _ _ st b hb
    rw [z] at e; cases e
  have flt : ∀ b ∈ fp, b < s.heap.objs.size := fun b hb => by
    obtain ⟨o, e, _⟩ := T.obj _ _ st b hb
    exact Heap.lt_size e
  have fpD : ∀ b ∈ fp, b ≠ s.heap.objs.size := fun b hb => Nat.ne_of_lt (flt b hb)
  have hf3 : ∀ b ∈ fp, FpOk X pins (upd H s.heap.objs.size (.lst [])) b := fun b hb => by
    obtain ⟨a1, a2⟩ := hf b hb
    exact ⟨by rw [upd_ne (fpD b hb)]; exact a1, a2⟩
  have hnb : ∀ b ∈ fp, X.base.get? b = none := fun b hb => by
    cases e : X.base.get? b with
    | none => rfl
    | some o =>
      rcases (hf b hb).2.2.2.1 with z | z
      · exact absurd z (I.ok.noex b o e)
      · have := Heap.lt_size (I.ok.bs b o e).1
        exact absurd (Nat.lt_of_lt_of_le this z) (Nat.lt_irrefl _)
  have hsz : s.heap.objs.size < hp.objs.size := by rw [← hH2, Heap.size_push]; exact Nat.lt_succ_self _
  have IY := inv_comp (s₄ := { s with heap := h₁, toks := s.toks + ([] : List (Str × Value)).length }) (fp := fp) c hc I3 hf3 (fun b hb => Nat.lt_trans (flt b hb) hsz) hnb hns₁ kp rfl rfl
  obtain ⟨W, ⟨m0, w0⟩, turn⟩ := h s.heap.objs.size hnD
  have run := comp_loop (Y := cCx X scope N' hp.objs.size { s with heap := hp, toks := s.toks } (upd H s.heap.objs.size (.lst [])) fp (X.pn ++ pins)) (tg := tg) (elt := elt) (iter := iter) (ifs := ifs) (scope := scope) (pos := pos) (it := it) (D := s.heap.objs.size) (k := k) (σ := σ) (Q := Q)
    hc rfl (hg _ _ _ _ _) (ht _ _ _ _ _) (he _ _ _ _ _) T (fun H' hn b hb => ⟨hn b hb, Nat.ne_of_lt (Nat.lt_trans (flt b hb) hsz), fun z => (IY.ok.exfs b hb) z, .inl hb, fun x a e => (IY.ok.exf b hb).2 x a e, fun p hp => by
      have hp' : p ∈ X.pn ++ pins := by simpa using hp
      exact (hf b hb).2.2.2.2.2 p hp'⟩) W turn m0
  have st₁ : tn 0 h₁ := T.keep _ _ _ st fun b hb o e => kp b o (hlt b o e)
  have go := run { s with heap := h₁, toks := s.toks + ([] : List (Str × Value)).length } ⟨0, [], _, IY, st₁, fun b hb => (hf3 b hb).1, w0⟩
  have out : ∀ r s', (r = Except.ok Flow.next ∧ ∃ H', Inv (cCx X scope N' hp.objs.size { s with heap := hp, toks := s.toks } (upd H s.heap.objs.size (.lst [])) fp (X.pn ++ pins)) [] (List.replicate k none ++ σ) H' s' ∧ Q (.ref s.heap.objs.size) H') → RR (.ref s.heap.objs.size) hp.objs.size r s' := by
    rintro r s' ⟨rfl, H', J', q⟩
    obtain ⟨m, hn, _⟩ := J'.loc
    have hC : hp.objs.size ≠ X.env.locals := Nat.ne_of_gt (Nat.lt_of_lt_of_le I.lt (Nat.le_of_lt hsz))
    refine fin _ _ s' H' m hn hC (fun x a e => ?_) ⟨J'.free, Nat.le_trans I.sz (Nat.le_of_lt hsz), fun p hp' => Nat.ne_of_lt (Nat.lt_trans (Heap.lt_size (I.pin p hp').1) hsz)⟩ (fun h' hs' => ?_) q
    · obtain ⟨v, o, h1, _⟩ := I.cell x a e
      exact Nat.ne_of_lt (Nat.lt_trans (Heap.lt_size h1) hsz)
    · refine I.call' (ch := fp) ?_ ?_ ?_ J'.bare fun b hb => ⟨(hf b hb).2.2.2.1, (hf b hb).2.1, (hf b hb).2.2.2.2.1, (hf b hb).2.2.2.2.2⟩
      · exact J'.os
      · have u1 : Un (frs X.stack) fp H (upd H s.heap.objs.size (.lst [])) s.heap hp := Un.laid hlt (Nat.le_refl _) hnD
        exact (u1.trans J'.base).but hs' fun b o e => Nat.ne_of_lt (Nat.lt_trans (Heap.lt_size e) hsz)
      · exact J'.hok.but J'.free hs'
  exact codeAny_compStart_list (codeAny_mono go out) (T.self _ 0 _ _ _ st₁ (codeAny_mono go out))
theorem pe_comp {elt iter tg : Expr} {ifs : List Expr} {scope : Scope} {pos : Pos} {wi : TI} {g : TG} {tt : TT} {te : TE} {N' : List Str} {k : Nat}
    (c : CompOk X scope N' k) (hc : X.calm = true) (hi : PI X tg iter wi)
    (hg : ∀ C s₀ H₀ ex pn, PG (cCx X scope N' C s₀ H₀ ex pn) tg g) (ht : ∀ C s₀ H₀ ex pn, PTs (cCx X scope N' C s₀ H₀ ex pn) ifs tt) (he : ∀ C s₀ H₀ ex pn, PE (cCx X scope N' C s₀ H₀ ex pn) elt te)
    (hs : ∀ x, foldedSetIterable iter X.env x = pure x := by intro _; rfl) : PE X (.ListComp elt [⟨tg, iter, ifs, 0⟩] scope pos) (tComp k wi g tt te) := by
  intro pins s σ H Q I h
  rw [PySem.eval_ListComp]
  refine PySem.wpAny_comprehension_free (use := none) rfl hs (closureFor_eq (c.cells I)) c.kind c.names (thn (hi pins s σ H _ I h) fun v s1 h1 => thn h1 fun itv s2 h2 => ?_)
  obtain ⟨it, fp, tn, J, H2, rfl, I2, T, st2, f2, hW⟩ := h2
  refine comp_block (RR := fun acc C => PySem.compPost (model X.prog X.w) X.A X.xe none (EP X pins σ Q) acc C) c hc I2 T st2 f2 hg ht he hW ?_
  intro D C s' H' m hn _ _ _ hI q
  exact ⟨m, hn, fun h' hs' => ⟨.ref D, H', hI h' hs', rfl, q⟩⟩
end
end L2
set_option Elab.async false
set_option linter.all false
set_option maxRecDepth 100000
set_option maxHeartbeats 4000000
namespace L2
open PySem PySem.Spec PyProof.Rows
def ExcAt (h : Heap) (e : Addr) (cls : Value) (d : Option Addr) (T : Addr) : Prop :=
  ∃ oe vs oT ts, h.get? e = some oe ∧ oe.cls = cls ∧ oe.dict = d ∧ oe.data = .fields vs ∧ vs[1]? = some (.ref T) ∧ T ≠ e ∧ h.get? T = some oT ∧ oT.data = .fields ts ∧ ts[3]? = some .none ∧ vs[2]? = some .none
def CX1 (P : Program) (w : World) : CXT := fun outer H s E ev s' => ∃ e T cls d H', ev = .ref e ∧ s'.os = s.os ∧ AllBare s'.gens ∧ Un (frs outer) [] H H' s.heap s'.heap ∧ HOk P w H' s'.heap ∧
  s.heap.get? e = none ∧ s.heap.get? T = none ∧ H' e = none ∧ H' T = none ∧ ExcAt s'.heap e cls d T ∧ (∀ dx, d = some dx → ∃ fs, H' dx = some (.xd fs)) ∧ E cls d H'
theorem dict_mapF (f : Array Value → Array Value) (o : Obj) : (Obj.mapFields f o).dict = o.dict := by
  unfold Obj.mapFields; split <;> rfl
structure Noted (fs : List Addr) (e : Addr) (no : Addr → Prop) (h h' : Heap) : Prop where
  keep : ∀ b o, b ≠ e → ¬ no b → b ∉ fs → h.get? b = some o → h'.get? b = some o
  slot : ∀ b o, b ≠ e → ¬ no b → b ∈ fs → h.get? b = some o → ∃ sl, h'.get? b = some { o with slots := sl }
  size : h.objs.size ≤ h'.objs.size
section
variable {M : Model} {A : Around} {E : Value → Shared → Prop} {s : Shared}
theorem entry1 {base : Heap} {env : Env} {outer : List Env} {L e : Addr} {oe : Obj} {vs : Array Value} {head : Value} {hadNext : Bool} {Q : Unit → Shared → Prop}
    (hfr : A.frames = some (env :: outer)) (hl : s.heap.FunFrames base (env :: outer)) (hf : env.frame = some L) (he : s.heap.get? e = some oe) (hd : oe.data = .fields vs) (hsz : 1 < vs.size) (h2c : vs[2]? = some .none)
    (hQ : ∀ h', Noted (frs (env :: outer)) e (fun _ => False) s.heap h' → (∃ T oe' vs' oT ts, s.heap.get? T = none ∧ h'.get? e = some oe' ∧ oe'.cls = oe.cls ∧ oe'.dict = oe.dict ∧ oe'.data = .fields vs' ∧ vs'[1]? = some (.ref T) ∧ T ≠ e ∧ h'.get? T = some oT ∧ oT.data = .fields ts ∧ ts[3]? = some (rawInt L) ∧ vs'[2]? = some .none) → Q () { s with heap := h' }) :
    wpAny M A (do let a ← frameOf env; let pl ← entryPlaceOf L hadNext; let b ← EntryCells.newEntry head a .none (rawInt L) .none pl; setField (.ref e) 1 b) Q E s := by
  have efr : e ∉ frs (env :: outer) := fun z => by
    obtain ⟨_, o, q1, q2⟩ := hl.mem z
    rw [he] at q1
    cases q1
    exact q2 vs hd
  refine wpAny_bind (wpAny_frameOf_fun hfr hl hf fun g1 sg => ?_)
  refine wpAny_bind (wpAny_entryPlaceOf fun pl ipl => ?_)
  unfold EntryCells.newEntry newFields
  refine wpAny_bind (wpAny_newObj_type ?_ (ipl.sizeOk5 _ _ _ _ _))
  have e1 : g1.get? e = some oe := (sg.2.1 e efr).trans he
  generalize hnew : ({ cls := .type "traceback", dict := none, data := .fields ([head, .ref L, .none, rawInt L, .none] ++ (if pl.isEmpty then List.replicate 6 Value.none else pl)).toArray } : Obj) = oN
  have dN : oN.data = .fields ([head, .ref L, .none, rawInt L, .none] ++ (if pl.isEmpty then List.replicate 6 Value.none else pl)).toArray := by rw [← hnew]
  have e2 : (g1.push oN).get? e = some oe := Heap.get?_push_of_some _ e1
  refine wpAny_setField e2 hd hsz (hQ _ ?_ ?_)
  · have other : ∀ b o, b ≠ e → g1.get? b = some o → ((g1.push oN).update e (Obj.mapFields (·.setIfInBounds 1 (Value.ref g1.objs.size)))).get? b = some o := fun b o hb q => by
      rw [Heap.get?_update_other _ _ (Ne.symm hb)]
      exact Heap.get?_push_of_some _ q
    refine ⟨fun b o hb _ hfs q => other b o hb ((sg.2.1 b hfs).trans q), fun b o hb _ _ q => ?_, ?_⟩
    · obtain ⟨sl, q'⟩ := sg.2.2 b o q
      exact ⟨sl, other b _ hb q'⟩
    · have z1 : g1.objs.size = s.heap.objs.size := sg.1
      have z2 := ((Heap.SameBut.update (g1.push oN) e (Obj.mapFields (·.setIfInBounds 1 (Value.ref g1.objs.size))))).1
      rw [z2, Heap.size_push]
      omega
  · have ne : g1.objs.size ≠ e := Nat.ne_of_gt (Heap.lt_size e1)
    have d3 := Obj.data_mapFields hd (·.setIfInBounds 1 (Value.ref g1.objs.size))
    refine ⟨g1.objs.size, _, _, oN, _, ?_, Heap.get?_update_self _ e2 (Obj.isFreed_of_fields d3), Obj.cls_mapFields _ _, dict_mapF _ _, d3, by simp [hsz], ne, ?_, dN, by simp, by rw [Array.getElem?_setIfInBounds_ne (by decide)]; exact h2c⟩
    · have z1 : g1.objs.size = s.heap.objs.size := sg.1
      rw [z1]
      exact Heap.get?_none_of_le (Nat.le_refl _)
    · rw [Heap.get?_update_other _ _ (Ne.symm ne)]
      exact Heap.get?_push_size _ (Obj.isFreed_of_fields dN)
theorem flight0 {e T : Addr} {oe oT : Obj} {vs ts : Array Value} {Q : Unit → Shared → Prop} (he : s.heap.get? e = some oe) (hd : oe.data = .fields vs) (h1 : vs[1]? = some (.ref T)) (hT : s.heap.get? T = some oT) (hdT : oT.data = .fields ts) (h3 : 3 < ts.size) (ne : T ≠ e) (h2c : vs[2]? = some .none)
    (hQ : ∀ h', (∀ b, b ≠ T → h'.get? b = s.heap.get? b) → h'.objs.size = s.heap.objs.size → ExcAt h' e oe.cls oe.dict T → Q () { s with heap := h' }) : wpAny M A (setFlight (.ref e) none) Q E s := by
  unfold setFlight
  refine wpAny_bind (wpAny_field he hd h1 ?_)
  rw [if_pos (show (Value.ref T != Value.none) = true from by simp)]
  have sb := Heap.SameBut.update s.heap T (Obj.mapFields (·.setIfInBounds 3 ((none : Option Addr).elim Value.none fun f => rawInt f)))
  refine wpAny_setField hT hdT h3 (hQ _ sb.2 sb.1 ?_)
  have d3 := Obj.data_mapFields hdT (·.setIfInBounds 3 ((none : Option Addr).elim Value.none fun f => rawInt f))
  exact ⟨oe, vs, _, _, (sb.2 e (Ne.symm ne)).trans he, rfl, rfl, hd, h1, ne, Heap.get?_update_self _ hT (Obj.isFreed_of_fields d3), d3, by simp [h3], h2c⟩
theorem note_new {base : Heap} {env : Env} {outer : List Env} {L e : Addr} {oe : Obj} {vs : Array Value} {Q : Unit → Shared → Prop}
    (hfr : A.frames = some (env :: outer)) (hl : s.heap.FunFrames base (env :: outer)) (hf : env.frame = some L) (he : s.heap.get? e = some oe) (hd : oe.data = .fields vs) (h1 : vs[1]? = some .none) (h2c : vs[2]? = some .none)
    (hQ : ∀ h' T, Noted (frs (env :: outer)) e (fun _ => False) s.heap h' → s.heap.get? T = none → ExcAt h' e oe.cls oe.dict T → Q () { s with heap := h' }) :
    wpAny M A (noteFrame (.ref e) env) (fun _ s2 => wpAny M A (setFlight (.ref e) none) Q E s2) E s := by
  unfold noteFrame
  simp only [hf]
  refine wpAny_bind (wpAny_field he hd h1 ?_)
  rw [if_neg (by decide)]
  refine entry1 hfr hl hf he hd (Array.getElem?_eq_some_iff.mp h1).1 h2c fun g ng hx => ?_
  obtain ⟨T, oe', vs', oT, ts, nT, q1, q2, q2d, q3, q4, ne, q5, q6, q7, q8⟩ := hx
  refine flight0 (s := { s with heap := g }) q1 q3 q4 q5 q6 (Array.getElem?_eq_some_iff.mp q7).1 ne q8 fun g' sb sz ex => ?_
  rw [q2, q2d] at ex
  have lt : ∀ b o, s.heap.get? b = some o → b ≠ T := fun b o q z => by rw [z, nT] at q; cases q
  exact hQ g' T ⟨fun b o hb hn hfs q => (sb b (lt b o q)).trans (ng.keep b o hb hn hfs q), fun b o hb hn hfs q => by
    obtain ⟨sl, q'⟩ := ng.slot b o hb hn hfs q
    exact ⟨sl, (sb b (lt b o q)).trans q'⟩, Nat.le_trans ng.size (Nat.le_of_eq sz.symm)⟩ nT ex
theorem note_next {base : Heap} {env : Env} {outer : List Env} {L e T : Addr} {cls : Value} {dd : Option Addr} {Q : Unit → Shared → Prop}
    (hfr : A.frames = some (env :: outer)) (hl : s.heap.FunFrames base (env :: outer)) (hf : env.frame = some L) (hx : ExcAt s.heap e cls dd T) (hfe : e ∉ frs (env :: outer)) (hfT : T ∉ frs (env :: outer)) (hb : base.get? T = none)
    (hQ : ∀ h' T', Noted (frs (env :: outer)) e (fun b => b = T) s.heap h' → s.heap.get? T' = none → ExcAt h' e cls dd T' → Q () { s with heap := h' }) :
    wpAny M A (noteFrame (.ref e) env) (fun _ s2 => wpAny M A (setFlight (.ref e) none) Q E s2) E s := by
  obtain ⟨oe, vs, oT, ts, he, rfl, rfl, hd, h1, ne, hT, hdT, h3, h2c⟩ := hx
  unfold noteFrame
  simp only [hf]
  refine wpAny_bind (wpAny_field he hd h1 ?_)
  rw [if_pos (show (Value.ref T != Value.none) = true from by simp)]
  refine wpAny_bind (wpAny_field hT hdT h3 ?_)
  rw [if_neg (show ¬ ((Value.none == rawInt L) = true) from by simp [rawInt])]
  have sb0 := Heap.SameBut.update s.heap T (Obj.mapFields (·.setIfInBounds 3 Value.none))
  refine wpAny_bind (wpAny_setField hT hdT (Array.getElem?_eq_some_iff.mp h3).1 ?_)
  generalize hg0 : s.heap.update T (Obj.mapFields (·.setIfInBounds 3 Value.none)) = g0 at sb0
  have fl : g0.FunFrames base (env :: outer) := hl.of_keeps fun b o q hnf => ⟨o, (sb0.2 b (fun z => by rw [z, hT] at q; cases q; exact hnf ts hdT)).trans q, rfl⟩
  have he0 : g0.get? e = some oe := (sb0.2 e (Ne.symm ne)).trans he
  refine entry1 (s := { s with heap := g0 }) hfr fl hf he0 hd (Array.getElem?_eq_some_iff.mp h1).1 h2c fun g ng hx => ?_
  obtain ⟨T', oe', vs', oT', ts', nT, q1, q2, q2d, q3, q4, ne', q5, q6, q7, q8⟩ := hx
  refine flight0 (s := { s with heap := g }) q1 q3 q4 q5 q6 (Array.getElem?_eq_some_iff.mp q7).1 ne' q8 fun g' sb sz ex => ?_
  rw [q2, q2d] at ex
  have tT : T ≠ T' := fun z => by
    subst z
    have := Heap.get?_update_self (Obj.mapFields (·.setIfInBounds 3 Value.none)) hT (Obj.isFreed_of_fields (Obj.data_mapFields hdT _))
    rw [hg0] at this
    have nT' : g0.get? T = none := nT
    rw [this] at nT'
    cases nT'
  have nT0 : s.heap.get? T' = none := (sb0.2 T' (Ne.symm tT)).symm.trans nT
  have lt : ∀ b o, s.heap.get? b = some o → b ≠ T' := fun b o q z => by rw [z, nT0] at q; cases q
  exact hQ g' T' ⟨fun b o hb hn hfs q => (sb b (lt b o q)).trans (ng.keep b o hb (fun z => z) hfs ((sb0.2 b hn).trans q)), fun b o hb hn hfs q => by
    obtain ⟨sl, q'⟩ := ng.slot b o hb (fun z => z) hfs ((sb0.2 b hn).trans q)
    exact ⟨sl, (sb b (lt b o q)).trans q'⟩, Nat.le_trans (Nat.le_of_eq sb0.1.symm) (Nat.le_trans ng.size (Nat.le_of_eq sz.symm))⟩ nT0 ex
end
theorem HOk.noted {P : Program} {w : World} {H : Hp} {h h' : Heap} {fs : List Addr} {e : Addr} {no : Addr → Prop} (ok : HOk P w H h) (n : Noted fs e no h h') (he : H e = none) (hn : ∀ b, no b → H b = none) (hf : ∀ b ∈ fs, H b = none) : HOk P w H h' := fun b ob q => by
  refine (ok b ob q).stay (fun c v hc r => n.keep c v ?_ ?_ ?_ r) (fun _ z => z) (fun _ _ z => z) fun _ _ z => z
  all_goals
    rcases hc with z | z
    all_goals intro k
  · rw [← z, k, he] at q; cases q
  · rw [k, he] at z; cases z
  · rw [← z, hn _ k] at q; cases q
  · rw [hn _ k] at z; cases z
  · rw [← z, hf _ k] at q; cases q
  · rw [hf _ k] at z; cases z
theorem Un.noted {fs fs' : List Addr} {H H' : Hp} {h h1 h2 : Heap} {e : Addr} {no : Addr → Prop} (u : Un fs [] H H' h h1) (n : Noted fs' e no h1 h2) (he : h.get? e = none) (hn : ∀ b, no b → h.get? b = none) (hs : ∀ b ∈ fs', b ∈ fs ∨ h.get? b = none) : Un fs [] H H' h h2 := by
  have ne : ∀ b o, h.get? b = some o → b ≠ e ∧ ¬ no b := fun b o q => ⟨fun z => (by rw [z, he] at q; cases q), fun z => (by rw [hn b z] at q; cases q)⟩
  have nf : ∀ b o, h.get? b = some o → b ∉ fs → b ∉ fs' := fun b o q hb z => by
    rcases hs b z with k | k
    · exact hb k
    · rw [k] at q; cases q
  refine ⟨fun b o q a hb hx => n.keep b o (ne b o q).1 (ne b o q).2 (nf b o q hb) (u.keep b o q a hb hx), fun b o q a hb hx => ?_, u.free, fun b o q hx => ?_, u.tups, u.frzs, u.tbls⟩
  · obtain ⟨sl, r⟩ := u.slot b o q a hb hx
    by_cases hb' : b ∈ fs'
    · obtain ⟨sl', r'⟩ := n.slot b _ (ne b o q).1 (ne b o q).2 hb' r
      exact ⟨sl', r'⟩
    · exact ⟨sl, n.keep b _ (ne b o q).1 (ne b o q).2 hb' r⟩
  · obtain ⟨o', r⟩ := u.there b o q hx
    by_cases hb' : b ∈ fs'
    · obtain ⟨sl', r'⟩ := n.slot b _ (ne b o q).1 (ne b o q).2 hb' r
      exact ⟨_, r'⟩
    · exact ⟨_, n.keep b _ (ne b o q).1 (ne b o q).2 hb' r⟩
def PassAt (CX : CXT) (X : Cx) (E : XK) (σ : St) : Prop := ∀ (pins : List (Addr × Obj)) (H : Hp) (s : Shared) (e : Value) (s' : Shared), Inv X pins σ H s → CX X.stack H s E e s' → X.xe e s'
def RaisesAt (X : Cx) (E : XK) (σ : St) : Prop := ∀ (pins : List (Addr × Obj)) (H : Hp) (s : Shared) (h' : Heap) (e : Addr) (C : Addr) (us : List Value), Inv X pins σ H s → Heap.MadeExcOf s.heap h' e (.ref C) us → E (.ref C) none H → X.xe (.ref e) { s with heap := h' }
theorem ObjOk.there {P : Program} {w : World} {H : Hp} {h : Heap} {a : Addr} {o : HO} (x : ObjOk P w H h a o) : ∃ ob, h.get? a = some ob := by
  cases o with
  | lst xs => obtain ⟨_, _, _, _, e⟩ := x; exact ⟨_, e⟩
  | tup xs => obtain ⟨_, _, _, ob, e, _⟩ := x; exact ⟨ob, e⟩
  | dK kvs => obtain ⟨_, _, _, _, ob, _, _, e, _⟩ := x; exact ⟨ob, e⟩
  | dT kvs => obtain ⟨_, _, _, _, ob, _, _, e, _⟩ := x; exact ⟨ob, e⟩
  | set S n => obtain ⟨ob, _, _, _, e, _⟩ := x; exact ⟨ob, e⟩
  | ins C dx fs => obtain ⟨_, _, _, e, _⟩ := x; exact ⟨_, e⟩
  | own y => exact x
  | xd fs => obtain ⟨_, ⟨ob, _, _, e, _⟩, _⟩ := x; exact ⟨ob, e⟩
  | rng lo hi => obtain ⟨_, _, _, e⟩ := x; exact ⟨_, e⟩
  | frz ob u => exact ⟨_, x.1⟩
  | tbl ps => obtain ⟨_, _, _, _, e, _⟩ := x; exact ⟨_, e⟩
  | cod q => obtain ⟨_, _, _, e, _⟩ := x; exact ⟨_, e⟩
  | met f y => exact ⟨_, x⟩
  | ext φ => exact x.2.1
theorem HOk.gone {P : Program} {w : World} {H : Hp} {h : Heap} {a : Addr} (ok : HOk P w H h) (e : h.get? a = none) : H a = none := by
  cases q : H a with
  | none => rfl
  | some o =>
    obtain ⟨ob, z⟩ := (ok a o q).there
    rw [e] at z; cases z
theorem Un.gone {fs : List Addr} {H H' : Hp} {h h1 : Heap} {a : Addr} (u : Un fs [] H H' h h1) (e : h1.get? a = none) : h.get? a = none := by
  cases q : h.get? a with
  | none => rfl
  | some o =>
    obtain ⟨o', z⟩ := u.there a o q (by simp)
    rw [e] at z; cases z
theorem raises_def {P : Program} {w : World} {K : PySem.W.Frag} {mg : Str → Option Value} {base : Heap} {N : List Str} {qual : Str} {scope : Scope} {f : Addr} {cd : Value} {A : Around} {outer : List Env} {s₀ : Shared} {H₀ : Hp} {E : XK} {σ : St} :
    RaisesAt (cxOf (CX1 P w) P w K mg base N qual scope f cd A outer s₀ H₀ E) E σ := by
  intro pins H s h' e C us I hm hE
  obtain ⟨t, he, _, _⟩ := hm.there
  show wpAny (model P w) (A.deeper (envOfC qual scope s₀.heap.objs.size f cd)) (leaving (envOfC qual scope s₀.heap.objs.size f cd) (.ref e)) _ _ _
  unfold leaving
  have un : Un (frs outer) [] H₀ H s₀.heap s.heap := I.base
  have fl : h'.FunFrames base (envOfC qual scope s₀.heap.objs.size f cd :: outer) := I.stack.of_keeps fun b o q _ => ⟨o, hm.keeps b o q, rfl⟩
  refine wpAny_bind (note_new (s := { s with heap := h' }) (base := base) (outer := outer) I.ok.frames fl rfl he rfl rfl rfl fun g T ng nT ex => ?_)
  have nT' : s.heap.get? T = none := by
    cases q : s.heap.get? T with
    | none => rfl
    | some o =>
      have z := hm.keeps T o q
      have nT2 : h'.get? T = none := nT
      rw [nT2] at z; cases z
  have u2 : Un (frs outer) [] H₀ H s₀.heap h' := un.trans (Un.kept hm.keeps)
  refine ⟨e, T, .ref C, none, H, rfl, I.os, I.bare, u2.noted ng (un.gone hm.new) (fun _ z => z.elim) (fun b hb => ?_), (I.hok.kept hm.keeps).noted ng (I.hok.gone hm.new) (fun _ z => z.elim) I.stkFree, un.gone hm.new, un.gone nT', I.hok.gone hm.new, I.hok.gone nT', ex, (fun _ z => nomatch z), hE⟩
  rcases List.mem_cons.mp (I.stkSub b hb) with z | z
  · exact .inr (by rw [z]; exact Heap.get?_none_of_le (Nat.le_refl _))
  · exact .inl z
section
variable {X : Cx}
set_option genInjectivity false in
structure ClsD where
  nm : Str
  q : Str
  N : Addr
  bs : List Value
  bm : List Value
  hdct : Bool
  sn : List Str
  sub : List Value
  ab : Bool
  col : Option Bool
  dd : Option Addr
  k0 : Option Value
  k1 : Option Value
  k2 : Option Value
  k3 : Option Value
  k5 : Option Value
def ownIn0 (K : PySem.W.Frag) (C : Addr) (z : Option Value) (bmB : List Value) (newId : String) : Bool := match K.lookup C with
  | some ⟨.type "type", _, .cls dat, slt⟩ => (match dat.mro, slt.toList with
    | .ref C' :: up, [_, _, _, _, some (.builtin n), _] => C' == C && n == newId && !dat.hasDel && PySem.W.tailIn K bmB up && PySem.W.nsOkIn K dat.ns && PySem.W.nsIn K dat.ns "__init__" == some z
    | _, _ => false)
  | _ => false
theorem cls_op {K : PySem.W.Frag} {C : Addr} {z : Option Value} (q0 : ownIn0 K C z [.type "ValueError", .type "Exception", .type "BaseException", .type "object"] "ValueError.__new__" = true) :
    ∃ c : ClsD, K.lookup C = some (excClassObj c.nm c.q C c.N c.bs c.bm c.hdct c.sn c.sub c.ab c.col c.dd c.k0 c.k1 c.k2 c.k3 c.k5 "ValueError.__new__") ∧ PySem.W.tailIn K [.type "ValueError", .type "Exception", .type "BaseException", .type "object"] c.bm = true ∧ PySem.W.nsOkIn K c.N = true ∧ PySem.W.nsIn K c.N "__init__" = some z := by
  unfold ownIn0 at q0
  split at q0
  · rename_i dd0 cdat slots0 look0
    split at q0
    · rename_i Cx0 tl0 g0 g1 g2 g3 nw g5 em es0
      simp only [Bool.and_eq_true, beq_iff_eq, Bool.not_eq_true'] at q0 <;> skip
      obtain ⟨⟨⟨⟨⟨rfl, rfl⟩, ndel⟩, tok⟩, nok⟩, noi⟩ := q0
      obtain ⟨c1, c2, c3, c4, c5, c6, c7, c8, c9, c10, c11⟩ := cdat
      dsimp only at em ndel nok noi
      subst em ndel
      obtain ⟨lst0⟩ := slots0
      have es1 : lst0 = [g0, g1, g2, g3, some (.builtin "ValueError.__new__"), g5] := es0
      subst es1
      exact ⟨⟨c1, c5, c4, c2, tl0, c6, c7, c8, c9, c10, dd0, g0, g1, g2, g3, g5⟩, look0, tok, nok, noi⟩
    · cases q0
  · cases q0
structure OwnE (K : PySem.W.Frag) (C : Addr) : Prop where
  ex : PySem.W.excIn K C [.type "ValueError", .type "Exception", .type "BaseException", .type "object"] "ValueError.__new__" = true
def tRaise (C : Addr) (E : St → XK) (t : TA) : TS := fun _ σ H => t σ H fun vs H1 => vs.length ≤ sizeLine ∧ E σ (.ref C) none H1
theorem ps_raise {C : Addr} {x : Str} {e₀ : Expr} {rest : List Expr} {np cpos pos : Pos} {t : TA} {E : St → XK} (hc : X.calm = true) (hg : Gl X x) (hmg : X.mg x = some (.ref C)) (O : OwnE X.K C) (hx : ∀ σ, RaisesAt X (E σ) σ) (ha : PA X (e₀ :: rest) t)
    (he : starEach (e₀ :: rest) X.env = (false, eval e₀ X.env) :: starEach rest X.env := by rfl) (hplain : (backTo cpos (starEach rest X.env)).any (·.1) = false := by rfl) (hdb : (x == ("__debug__" : Str)) = false := by decide) :
    PS X (.Raise (some (.Call (.Name x np) (e₀ :: rest) [] cpos)) none pos) (tRaise C E t) := by
  intro pins s σ H D I h
  obtain ⟨c, look0, tok, nok, noi⟩ := cls_op (z := none) O.ex
  have nsb : X.base.Ns c.N (X.base.nsMap c.N) := .of_isNs (PySem.W.isNs_of_in I.mod.kin nok)
  refine PySem.wpAny_Raise_call_subU (C := C) (nm := c.nm) (q := c.q) (N := c.N) (bs := c.bs) (bm := c.bm) (hdct := c.hdct) (sn := c.sn) (sub := c.sub) (ab := c.ab) (col := c.col) (dd := c.dd) (k0 := c.k0) (k1 := c.k1) (k2 := c.k2) (k3 := c.k3) (k5 := c.k5)
    PySem.F.excBase_ValueError (by decide +kernel) PySem.F.excBase_ValueError (mN := X.base.nsMap c.N) ((PySem.W.tail_of_in I.kIn tok).hasType (by decide +kernel)) (I.ok.hd hc) (by rw [he]; exact (Bool.false_or _).trans hplain) (PySem.W.nsMap_none_of_in I.mod.kin nok noi) (ld_glob I hg hmg ⟨rfl, ?_⟩ hdb)
  have hh := ha cpos pins s σ H _ I h
  rw [he] at hh ⊢
  exact Calls.evalArgs_plain (thn hh fun us s2 ⟨vs, H2, I2, r, hl, hE⟩ => ⟨rfl, by rw [← r.length]; exact hl, I2.kIn _ _ look0, nsb.keeps I2.bk, PySem.W.tail_of_in I2.kIn tok, fun h' e hm => hx σ pins H2 s2 h' e C us I2 hm hE⟩)
abbrev Cx.mark (X : Cx) (e : Addr) : Cx := { X with A := X.A.mark (some (.ref e)), calm := false, xe := fun _ _ => False }
theorem Inv.mark {pins : List (Addr × Obj)} {σ : St} {H : Hp} {s : Shared} (I : Inv X pins σ H s) (e : Addr) : Inv (X.mark e) pins σ H s :=
  ⟨⟨I.ok.mod, I.ok.kind, I.ok.glob, I.ok.blt, I.ok.above, I.ok.inj, I.ok.has, I.ok.cab, (fun z => by cases z), I.ok.frames, I.ok.stk, I.ok.exf, I.ok.bs, I.ok.bsz, I.ok.noex, I.ok.exfs, I.ok.funs, I.ok.frf⟩, I.os, I.bare, I.base, I.loc, I.cell, I.free, I.freeC, I.pin, I.hok, I.len⟩
theorem Inv.unmark {pins : List (Addr × Obj)} {σ : St} {H : Hp} {s : Shared} {e : Addr} (ok : X.Ok) (I : Inv (X.mark e) pins σ H s) : Inv X pins σ H s :=
  ⟨ok, I.os, I.bare, I.base, I.loc, I.cell, I.free, I.freeC, I.pin, I.hok, I.len⟩
end
end L2
set_option Elab.async false
set_option linter.all false
set_option maxRecDepth 100000
set_option maxHeartbeats 4000000
namespace L2
open PySem PySem.Spec PyProof.Rows
structure FunX (K : PySem.W.Frag) (x qual : Str) (st : Stmt) (f : Addr) (fd : FuncData) : Prop where
  ex : ∃ (oc : Value) (od : Option Addr) (dV kV doc pm : Value) (an : Option Addr) (cdv ct : Value) (osl : Array (Option Value)),
    fd = PySem.W.fnOf x qual (defArgs st) (defBody st) (defScope st) dV kV doc pm an cdv ct ∧ K.lookup f = some ⟨oc, od, .func fd, osl⟩ ∧ PySem.W.codeIn K cdv qual = true
  kp : PySem.W.keepIn K (.ref f) = true
section
variable {P : Program} {w : World} {K : PySem.W.Frag} {mg : Str → Option Value} {base : Heap}
theorem FunX.ok {CX : CXT} {x qual : Str} {st : Stmt} {f : Addr} {fd : FuncData} {N ps : List Str} {k : Nat} {sp : Sp} (F : FunX K x qual st f fd) (S : FnScope N ps (defScope st)) (len : ∀ vs H Q E, sp vs H Q E → vs.length = ps.length)
    (hbody : ∀ (cdv : Value) (A : Around) (outer : List Env) (s : Shared) (H : Hp) (vs : List V) (Q : VK) (E : XK), Room k (A.deeper (envOfC qual (defScope st) s.heap.objs.size f cdv)) → sp vs H Q E →
      ∃ t, PSs (cxOf CX P w K mg base N qual (defScope st) f cdv A outer s H E) (defBody st) t ∧ t { nx := fun _ H' => Q .non H', rt := Q } (start N vs) H) : FnOk P w K mg base CX (k + 1) f fd ps sp := by
  obtain ⟨oc, od, dV, kV, doc, pm, an, cdv, ct, osl, rfl, lk, hcd⟩ := F.ex
  exact fn_of lk hcd S len fun A outer s H vs Q E hr hsp => hbody cdv A outer s H vs Q E hr hsp
end
end L2
set_option Elab.async false
set_option linter.all false
set_option maxRecDepth 100000
set_option maxHeartbeats 4000000
namespace L2
open PySem PySem.Spec PyProof.Rows PySem.W
structure ECls (K : PySem.W.Frag) (C : Addr) : Prop where
  ga : PySem.W.findIn K (.ref C) "__getattribute__" = some (some (.builtin "BaseException.__getattribute__"))
  no : PySem.W.findIn K (.ref C) "__getattr__" = some none
  mb : PySem.W.mroIn K C (.type "BaseException") = some true
  mo : PySem.W.mroIn K C (.type "object") = some true
  cl : PySem.W.findIn K (.ref C) "__class__" = some (some (.builtin "object.__class__"))
  sp : PySem.W.specialIn K (.builtin "object.__class__") "__get__" = some (some (.builtin "getset_descriptor.__get__"))
  tk : PySem.W.takesIn K (.builtin "object.__class__") = some true
  hd : PySem.W.hasDictIn K C = true
section
variable {prog : Program} {w : World} {A : Around} {E : Value → Shared → Prop} {s : Shared} {K : PySem.W.Frag} {x C : Addr} {ox : Obj} {od : Option Obj} {name : Str}
theorem exc_check {M : Model} {nameV : Value} {Q : Unit → Shared → Prop} (c : ECls K C) (X : K.In s.heap) (I : InstAt s.heap x ox C od) (hq : Q () s) : wpAny M A (checkBuiltinCall "BaseException.__getattribute__" ⟨[.ref x, nameV], []⟩) Q E s := by
  have hk : builtinKind "BaseException.__getattribute__" = some .slot := by decide +kernel
  have hsplit : splitId "BaseException.__getattribute__" = some ("BaseException", "__getattribute__") := by decide +kernel
  have ha := F.args_bexc_ga (.ref x) nameV
  have L0 := I.type (M := M)
  have L1 := looks_mroIn (M := M) X c.mb
  obtain ⟨hh, g, d, t, os⟩ := s
  simp only [checkBuiltinCall, hk, hsplit]
  have LI : Looks M hh (isInstance (.ref x) (.type "BaseException")) true := L0.andThen L1
  refine wpAny_bind (LI.at ?_)
  first | exact hq | exact wpAny_pure hq | (simp only [Bool.not_true, Bool.false_eq_true, if_false]; exact hq)
def FinP (M : Model) (A : Around) (P : Value → Shared → Prop) (fin : PySem.Fin) (s : Shared) : Prop := match fin with
  | .done (.ret v) => P v s
  | .again c => c.quiet = true ∧ codeAny M A c (fun r s' => match r with | .ok (.ret v) => P v s' | _ => False) s
  | _ => False
theorem exc_get? {Q : Option Value → Shared → Prop} (c : ECls K C) (X : K.In s.heap) (I : InstAt s.heap x ox C od)
    (h : ∀ A' : Around, wpAny (model prog w) A' (Builtin.«object.__getattribute__» ⟨[.ref x, .str name s.toks], []⟩) (FinP (model prog w) A fun v s' => wpAny (model prog w) A (handedOut v) (fun v s'' => Q (some v) s'') (fun _ _ => False) s') (fun _ _ => False) { s with toks := s.toks + 1 }) :
    wpAny (model prog w) A (getAttr? (.ref x) name) Q E s := by
  obtain ⟨hh, g, d, t, os⟩ := s
  have L0 := I.type (M := model prog w)
  have L1 := looks_findIn (M := model prog w) X c.ga
  have L2 := looks_findIn (M := model prog w) X c.no
  unfold getAttr? getAttrBy? getAttrBy
  refine wpAny_bind (wpAny_mkText (wpAny_bind (wpAny_attempt (wpAny_holding (wpAny_bind (L0.at (wpAny_bind (L1.at ?_))))))))
  show wpAny _ _ (getAttrByItsOwn _ _ _ _ _ _) _ _ _
  unfold getAttrByItsOwn
  show wpAny _ _ (do let before ← typeLookup (.ref C) "__getattr__"; _) _ _ _
  refine wpAny_bind (L2.at (wpAny_bind (wpAny_attempt (wpAny_holding ?_))))
  unfold callGetattribute
  rw [if_neg (by simp)]
  unfold boundAndCalled
  rw [F.attr_ValueError.ga.bind (.ref x)]
  refine wpAny_bind (wpAny_pure (wpAny_call (codeAny_call_builtin F.attr_ValueError.ga.plain F.entry_bexc_ga (exc_check c X I ?_))))
  have fin1 : ∀ v s', wpAny (model prog w) A (handedOut v) (fun v s'' => Q (some v) s'') (fun _ _ => False) s' → wpAny (model prog w) A (handedOut v) (fun a s' => wpAny (model prog w) A (pure (some a)) Q E s') (fun e s' => wpAny (model prog w) A (do if ← isInstance e (.type "AttributeError") then pure none else throw e) Q E s') s' := fun v s' z => wpAny_mono z (fun _ _ q => wpAny_pure q) fun _ _ q => q.elim
  refine wpAny_mono (h _) (fun fin s' z => ?_) fun _ _ z => z.elim
  cases fin with
  | done f => cases f with
    | ret v => exact fin1 v s' z
    | _ => exact z.elim
  | again c' =>
    obtain ⟨z1, z2⟩ := z
    refine ⟨z1, codeAny_mono z2 fun r s'' q => ?_⟩
    cases r with
    | error e => exact q.elim
    | ok f => cases f with
      | ret v => exact fin1 v s'' q
      | _ => exact q.elim
theorem findObj_data' {a g : Value} (hc : (clsIn K C).isSome = true) (ha : findIn K (.ref C) name = some (some a)) (hg : specialIn K a "__get__" = some (some g)) (ht : takesIn K a = some true) : findObj K C od name = some (.bind g a) := by
  obtain ⟨cd, hc⟩ := Option.isSome_iff_exists.mp hc
  unfold findObj
  rw [hc, Option.bind_some, ha, Option.bind_some]
  simp [hg, ht]
theorem ECls.some (c : ECls K C) : (clsIn K C).isSome = true := by
  obtain ⟨cd, hc, _⟩ := any_some c.hd
  rw [hc]; rfl
theorem exc_class {Q : Option Value → Shared → Prop} (c : ECls K C) (X : K.In s.heap) (I : InstAt s.heap x ox C od) (hq : Q (some (.ref C)) { s with toks := s.toks + 1 }) : wpAny (model prog w) A (getAttr? (.ref x) "__class__") Q E s := by
  have hf : findObj K C od "__class__" = some (.bind (.builtin "getset_descriptor.__get__") (.builtin "object.__class__")) := findObj_data' c.some c.cl c.sp c.tk
  refine exc_get? c X I fun A' => ?_
  have L0 := I.type (M := model prog w)
  have L1 := looks_find (M := model prog w) X I hf
  have cg : ∀ {A : Around} {R : Result → Shared → Prop}, R (.ok (.ret (.ref C))) { s with toks := s.toks + 1 } → codeAny (model prog w) A (.call (.builtin "getset_descriptor.__get__") ⟨[.builtin "object.__class__", .ref x, .ref C], []⟩) R { s with toks := s.toks + 1 } := fun h => class_get (s := { s with toks := s.toks + 1 }) (ox := ox) (od := od) X I c.mo h
  obtain ⟨hh, gg, d, t, os⟩ := s
  refine wpAny_bind (wpAny_pure (wpAny_bind (wpAny_pure (wpAny_bind (L0.at (wpAny_bind (L1.at ?_)))))))
  show wpAny _ _ (do ret (← holding [.builtin "object.__class__"] (call (.builtin "getset_descriptor.__get__") [.builtin "object.__class__", .ref x, .ref C]))) _ _ _
  exact wpAny_bind (wpAny_holding (wpAny_call (cg (wpAny_pure (show FinP _ _ _ (.done (.ret (.ref C))) _ from handed_on rfl hq)))))
theorem kitx_exc (c : ECls K C) : KitX K (.ref x) (.ref C) (fun h => InstAt h x ox C od) where
  ty := fun _ _ _ I => I.type
  it := fun _ _ X _ => by
    obtain ⟨cdD, hcD, _⟩ := any_some c.hd
    unfold clsIn at hcD
    split at hcD
    · rename_i c' d' cd' sl' ho
      intro A' Q' E' s' k q
      unfold isType loadHead
      exact wpAny_bind (wpAny_loadPart (k _ _ (X _ _ ho)) (wpAny_pure q))
    · cases hcD
  ne := fun h tp dd its n sl X htp => by
    obtain ⟨cdD, hcD, _⟩ := any_some c.hd
    refine Bool.eq_false_iff.mpr fun q => ?_
    have e : C = tp := Value.ref.inj (beq_iff_eq.mp q)
    subst e
    unfold clsIn at hcD
    split at hcD
    · rename_i c' d' cd' sl' ho
      have z := (X _ _ ho).symm.trans htp
      cases z
    · cases hcD
  ca := fun X I k => exc_class c X I k
end
end L2
set_option Elab.async false
set_option linter.all false
set_option maxRecDepth 100000
set_option maxHeartbeats 4000000
namespace L2
open PySem PySem.Spec PyProof.Rows
def excO (oe : Obj) : HO := .frz oe (.ext fun _ => True)
structure NewAt (X : Cx) (pins : List (Addr × Obj)) (e : Addr) : Prop where
  s0 : X.s₀.heap.get? e = none
  loc : e ≠ X.env.locals
  cel : ∀ x c, X.env.cells.lookup x = some c → c ≠ e
  fs : e ∉ X.fs
  pin : ∀ p ∈ X.pn ++ pins, p.1 ≠ e
section
variable {X : Cx}
theorem NewAt.of {pins : List (Addr × Obj)} {σ : St} {H : Hp} {s : Shared} {e : Addr} (I : Inv X pins σ H s) (hx : X.ex = []) (h : s.heap.get? e = none) : NewAt X pins e where
  s0 := by
    cases q : X.s₀.heap.get? e with
    | none => rfl
    | some o =>
      obtain ⟨o', z⟩ := I.base.there e o q (by rw [hx]; simp)
      rw [h] at z; cases z
  loc := fun z => by
    obtain ⟨m, ⟨o, _, _, q, _⟩, _⟩ := I.loc
    rw [← z, h] at q; cases q
  cel := fun x c q z => by
    obtain ⟨v, o, r, _⟩ := I.cell x c q
    rw [z, h] at r; cases r
  fs := fun z => by
    obtain ⟨_, o, q, _⟩ := I.funs.mem z
    rw [h] at q; cases q
  pin := fun p hp z => by
    have q := (I.pin p hp).1
    rw [z, h] at q; cases q
theorem Inv.track {pins : List (Addr × Obj)} {σ : St} {H : Hp} {s : Shared} {e : Addr} {oe : Obj} (I : Inv X pins σ H s) (N : NewAt X pins e) (he : s.heap.get? e = some oe) (hn : H e = none) : Inv X pins σ (upd H e (excO oe)) s := by
  have ne : ∀ {b : Addr} {o : HO}, H b = some o → b ≠ e := fun q z => by rw [z, hn] at q; cases q
  refine ⟨I.ok, I.os, I.bare, ⟨I.base.keep, I.base.slot, fun b o q n hx => ?_, I.base.there, fun b xs q => ?_, fun b o u q => ?_, fun b ps q => ?_⟩, I.loc, I.cell, ?_, fun x c q => ?_, fun p hp => ?_, fun b o q => ?_, I.len⟩
  · rw [upd_ne (fun z => by rw [z, N.s0] at q; cases q)]; exact I.base.free b o q n hx
  · have z := I.base.tups b xs q; rw [upd_ne (ne z)]; exact z
  · have z := I.base.frzs b o u q; rw [upd_ne (ne z)]; exact z
  · obtain ⟨m, z⟩ := I.base.tbls b ps q; exact ⟨m, by rw [upd_ne (ne z)]; exact z⟩
  · rw [upd_ne (Ne.symm N.loc)]; exact I.free
  · rw [upd_ne (N.cel x c q)]; exact I.freeC x c q
  · obtain ⟨a, b, c, d, f⟩ := I.pin p hp
    exact ⟨a, by rw [upd_ne (N.pin p hp)]; exact b, c, d, f⟩
  · by_cases hb : b = e
    · subst hb
      rw [upd_same] at q
      cases q
      exact ⟨he, trivial, ⟨oe, he⟩, fun _ _ _ _ => trivial⟩
    · rw [upd_ne hb] at q
      exact (I.hok b o q).stay (fun _ _ _ r => r) (fun c r => by rw [upd_ne (ne r)]; exact r) (fun c y r => by rw [upd_ne (ne r)]; exact r) fun c xs r => by rw [upd_ne (ne r)]; exact r
def PHs (X : Cx) (hs : List ExceptHandler) (th : Value → Option Addr → TS) : Prop :=
  ∀ (pins : List (Addr × Obj)) (s : Shared) (σ : St) (H : Hp) (D : Ends) (e T : Addr) (cls : Value) (d : Option Addr), Inv X pins σ H s → NewAt X pins e → H e = none → ExcAt s.heap e cls d T → th cls d D σ H → wpAny (model X.prog X.w) X.A (handleBy (.ref e) X.env hs) (SP X pins D) X.xe s
theorem flight1 {M : Model} {A : Around} {E : Value → Shared → Prop} {s : Shared} {e T : Addr} {cls : Value} {d : Option Addr} {Q : Unit → Shared → Prop} (x : ExcAt s.heap e cls d T) (hQ : ∀ h', (∀ b o, s.heap.get? b = some o → h'.get? b = some o) → Q () { s with heap := h' }) :
    wpAny M A (setFlight (.ref e) none) Q E s := by
  obtain ⟨oe, vs, oT, ts, he, rfl, rfl, hd, h1, ne, hT, hdT, h3, h2c⟩ := x
  unfold setFlight
  refine wpAny_bind (wpAny_field he hd h1 ?_)
  rw [if_pos (show (Value.ref T != Value.none) = true from by simp)]
  refine wpAny_setField hT hdT (Array.getElem?_eq_some_iff.mp h3).1 (hQ _ fun b o q => ?_)
  by_cases hb : b = T
  · subst hb
    rw [hT] at q; cases q
    have same : Obj.mapFields (·.setIfInBounds 3 ((none : Option Addr).elim Value.none fun f => rawInt f)) oT = oT := by
      obtain ⟨c, d, dat, sl⟩ := oT
      cases hdT
      have e3 : ts.setIfInBounds 3 ((none : Option Addr).elim Value.none fun f => rawInt f) = ts := by
        apply Array.ext_getElem?
        intro i
        by_cases hi : i = 3
        · subst hi
          obtain ⟨hlt, hv⟩ := Array.getElem?_eq_some_iff.mp h3
          simp [Array.getElem?_setIfInBounds, hlt, hv]
        · rw [Array.getElem?_setIfInBounds_ne (Ne.symm hi)]
      show (⟨c, d, .fields (ts.setIfInBounds 3 ((none : Option Addr).elim Value.none fun f => rawInt f)), sl⟩ : Obj) = _
      rw [e3]
    have := Heap.get?_update_self (Obj.mapFields (·.setIfInBounds 3 ((none : Option Addr).elim Value.none fun f => rawInt f))) hT (Obj.isFreed_of_fields (Obj.data_mapFields hdT _))
    rw [same] at this
    exact this
  · rw [Heap.get?_update_other _ _ (Ne.symm hb)]
    exact q
def tLost : Value → Option Addr → TS := fun _ _ _ _ _ => False
theorem phs_nil : PHs X [] tLost := fun _ _ _ _ _ _ _ _ _ _ _ _ _ h => h.elim
theorem SP.unmark {pins : List (Addr × Obj)} {D : Ends} {f : Flow} {s2 : Shared} {e : Addr} (ok : X.Ok) (q : SP (X.mark e) pins D f s2) : SP X pins D f s2 := by
  cases f with
  | next => obtain ⟨σ', H', J, q⟩ := q; exact ⟨σ', H', J.unmark ok, q⟩
  | brk => obtain ⟨σ', H', J, q⟩ := q; exact ⟨σ', H', J.unmark ok, q⟩
  | cont => obtain ⟨σ', H', J, q⟩ := q; exact ⟨σ', H', J.unmark ok, q⟩
  | ret u => obtain ⟨v, σ', H', J, r, q⟩ := q; exact ⟨v, σ', H', J.unmark ok, r, q⟩
theorem exc_ty {M : Model} {h : Heap} {e T : Addr} {cls : Value} {d : Option Addr} (ex : ExcAt h e cls d T) : PySem.W.Looks M h (typeOf (.ref e)) cls := by
  obtain ⟨oe, vs, oT, ts, he, rfl, _⟩ := ex
  exact (PySem.W.Looks.ld he).andThen .now
def gDel (i : Nat) : St → Hp → (St → Hp → Prop) → Prop := fun σ H Q => Q (σ.set i none) H
def kDel (i : Nat) (nx : St → Hp → Prop) : St → Hp → Prop := fun σ H => gDel i σ H nx
def Ends.del (i : Nat) (D : Ends) : Ends := ⟨kDel i D.nx, D.rt, kDel i D.bk, kDel i D.ct⟩
theorem gone_ok {M : Model} {A : Around} {E : Value → Shared → Prop} {pins : List (Addr × Obj)} {σ : St} {H : Hp} {s : Shared} {i : Nat} {x : Str} {pos : Pos} {Q : Unit → Shared → Prop} (I : Inv X pins σ H s) (hi : X.N[i]? = some x) (hk : X.env.scope.names.lookup x = some .local) (hN : X.N.Nodup)
    (h : ∀ s', Inv X pins (σ.set i none) H s' → Q () s') : wpAny M A (do bindName X.env x .none; unbindBehindTheSuite X.env x pos) Q E s := by
  obtain ⟨m, hn, hl⟩ := id I.loc
  have hcls : (X.env.scope.kind == .class || (X.env.scope.kind == .module && X.env.locals != X.env.globals)) = false := by rw [I.ok.kind]; rfl
  have cne := I.cne
  refine PySem.wpAny_nameGoes_keeps hk hn hcls fun h' v hn' hs => ?_
  obtain ⟨oL, _, _, hoL, _⟩ := id hn
  refine h _ ⟨I.ok, I.os, I.bare, ⟨fun b o e n hb hx => ?_, fun b o e n hb hx => ?_, I.base.free, fun b o e hx => ?_, I.base.tups, I.base.frzs, I.base.tbls⟩, ⟨_, hn', fun j y v' e1 e2 e3 => ?_⟩, fun y c e => ?_, I.free, I.freeC, fun p hp => ?_, fun b ob e => ?_, by simpa using I.len⟩
  · exact (hs.2 b (Nat.ne_of_lt (Nat.lt_of_lt_of_le (Heap.lt_size e) I.ok.above))).trans (I.base.keep b o e n hb hx)
  · obtain ⟨sl, e1⟩ := I.base.slot b o e n hb hx
    exact ⟨sl, (hs.2 b (Nat.ne_of_lt (Nat.lt_of_lt_of_le (Heap.lt_size e) I.ok.above))).trans e1⟩
  · obtain ⟨o', e1⟩ := I.base.there b o e hx
    exact ⟨o', (hs.2 b (Nat.ne_of_lt (Nat.lt_of_lt_of_le (Heap.lt_size e) I.ok.above))).trans e1⟩
  · have hj : j ≠ i := by
      rintro rfl
      by_cases hlt : j < σ.length
      · rw [List.getElem?_set_self hlt] at e2; cases e2
      · rw [List.getElem?_eq_none (by simpa using Nat.le_of_not_lt hlt)] at e2; cases e2
    rw [List.getElem?_set_ne (Ne.symm hj)] at e2
    obtain ⟨u', r', q⟩ := hl j y v' e1 e2 e3
    refine ⟨u', r', ?_⟩
    rcases q with ⟨k, e⟩ | ⟨k, c, e, z⟩
    · refine .inl ⟨k, ?_⟩
      have : y ≠ x := fun e => hj (nodup_ix hN e1 (e ▸ hi))
      simp [this, e]
    · exact .inr ⟨k, c, e, z.sameBut hs (cne y c e)⟩
  · obtain ⟨w', z⟩ := I.cell y c e
    exact ⟨w', z.sameBut hs (cne y c e)⟩
  · obtain ⟨e, n, ne, nf, d⟩ := I.pin p hp
    exact ⟨(hs.2 p.1 ne).trans e, n, ne, nf, d⟩
  · refine (I.hok b ob e).stay (fun c w' hc q => (hs.2 c ?_).trans q) (fun _ q => q) (fun _ _ q => q) fun _ _ q => q
    rintro rfl
    rcases hc with rfl | hc
    · rw [I.free] at e; cases e
    · rw [I.free] at hc; cases hc
def tExcAs (K : PySem.W.Frag) (C : Value) (i : Nat) (tb : TS) (tr : Value → Option Addr → TS) : Value → Option Addr → TS := fun cls d D σ H => ∃ b, PySem.W.exmOne K cls C = some b ∧
  if b = true then ∀ (e : Addr) (oe : Obj), H e = none → oe.cls = cls → oe.dict = d → (∃ vs, oe.data = .fields vs) → tb (D.del i) (σ.set i (some (.ref e))) (upd H e (excO oe)) else tr cls d D σ H
theorem phs_as {x n : Str} {i : Nat} {np pos : Pos} {b₀ : Stmt} {body : List Stmt} {rest : List ExceptHandler} {C : Value} {tb : TS} {tr : Value → Option Addr → TS} (hN : X.N.Nodup) (hi : X.N[i]? = some n) (hk : X.env.scope.names.lookup n = some .local) (hg : Gl X x) (hm : X.mg x = some C ∨ (X.mg x = none ∧ bootBuiltins x = some C ∧ x ≠ "__name__")) (hb : ∀ e, PSs (X.mark e) (b₀ :: body) tb) (hr : PHs X rest tr)
    (hdb : (x == ("__debug__" : Str)) = false := by decide) : PHs X (.ExceptHandler (some (.Name x np)) (some n) (b₀ :: body) pos :: rest) (tExcAs X.K C i tb tr) := by
  intro pins s σ H D e T cls d I N hn ex h
  obtain ⟨b, hx, h⟩ := h
  have Im := I.mark e
  have ld : ∀ {Q : Value → Shared → Prop} {E : Value → Shared → Prop}, Q C s → wpAny (model X.prog X.w) (X.A.mark (some (.ref e))) (eval (.Name x np) X.env) Q E s := fun {Q E} q => by
    rcases hm with z | ⟨z1, z2, z3⟩
    · exact ld_glob (X := X.mark e) Im hg z q hdb
    · exact ld_blt (X := X.mark e) Im hg z1 z2 q z3 hdb
  refine PySem.wpAny_handleBy_cons (PySem.codeAny_handlers_test (ld ((PySem.W.exm_one I.kIn (exc_ty ex) hx).here ?_))) (by intro q; cases q)
  cases b with
  | false =>
    rw [if_neg Bool.false_ne_true] at h
    exact hr pins s σ H D e T cls d I N hn ex h
  | true =>
    rw [if_pos rfl] at h
    refine PySem.codeAny_handlers_suite_as (flight1 ex fun h' kp => ?_)
    obtain ⟨oe, vs, oT, ts, he, hc, hd, hdat, _⟩ := ex
    have N' : NewAt (X.mark e) pins e := ⟨N.s0, N.loc, N.cel, N.fs, N.pin⟩
    have I' : Inv (X.mark e) pins σ (upd H e (excO oe)) { s with heap := h' } := (Im.kept (t' := s.toks) kp).track N' (kp _ _ he) hn
    refine store_ok (X := X.mark e) I' hN hi (.inl hk) (show RelV (.ref e) (.ref e) from rfl) (fun s1 I1 => ?_) (.inr hk)
    refine wpAny_mono (hb e pins s1 _ _ (D.del i) I1 (h e oe hn hc hd ⟨vs, hdat⟩)) (fun f s2 q => ?_) fun _ _ z => z.elim
    show wpAny _ X.A _ _ _ s2
    have q' := SP.unmark I.ok q
    cases f with
    | next => obtain ⟨σ', H', J, q⟩ := q'; exact gone_ok J hi hk hN fun s3 J3 => ⟨_, H', J3, q⟩
    | brk => obtain ⟨σ', H', J, q⟩ := q'; exact gone_ok J hi hk hN fun s3 J3 => ⟨_, H', J3, q⟩
    | cont => obtain ⟨σ', H', J, q⟩ := q'; exact gone_ok J hi hk hN fun s3 J3 => ⟨_, H', J3, q⟩
    | ret u => obtain ⟨v, σ', H', J, r, q⟩ := q'; exact gone_ok J hi hk hN fun s3 J3 => ⟨v, _, H', J3, r, q⟩
def tTry (tb : (St → XK) → TS) (th : Value → Option Addr → TS) : TS := fun D σ H => tb (fun σ' cls d H' => th cls d D σ' H') D σ H
abbrev Cx.tried (X : Cx) (E : Value → Shared → Prop) (pn : List (Addr × Obj)) : Cx := { X with xe := E, pn := pn }
theorem ps_try {body : List Stmt} {h₀ : ExceptHandler} {hs : List ExceptHandler} {pos : Pos} {tb : (St → XK) → TS} {th : Value → Option Addr → TS} (hstk : X.stack = X.env :: X.outer ∧ X.env.frame = some X.env.locals ∧ X.ex = [])
    (hb : ∀ (EX : St → XK) (E : Value → Shared → Prop) (pn : List (Addr × Obj)), (∀ σ, PassAt (CX1 X.prog X.w) (X.tried E pn) (EX σ) σ) → PSs (X.tried E pn) body (tb EX)) (hh : PHs X (h₀ :: hs) th) :
    PS X (.Try body (h₀ :: hs) [] [] pos) (tTry tb th) := by
  intro pins s σ H D I h
  refine PySem.wpAny_Try_except ?_
  have okT : ∀ E pn, (X.tried E pn).Ok := fun E pn => ⟨I.ok.mod, I.ok.kind, I.ok.glob, I.ok.blt, I.ok.above, I.ok.inj, I.ok.has, I.ok.cab, I.ok.hd, I.ok.frames, I.ok.stk, I.ok.exf, I.ok.bs, I.ok.bsz, I.ok.noex, I.ok.exfs, I.ok.funs, I.ok.frf⟩
  have back : ∀ {E : Value → Shared → Prop} {pins' : List (Addr × Obj)} {σ' : St} {H' : Hp} {s' : Shared}, Inv (X.tried E (X.pn ++ pins)) pins' σ' H' s' → Inv X pins σ' H' s' := fun {E pins' σ' H' s'} J =>
    ⟨I.ok, J.os, J.bare, J.base, J.loc, J.cell, J.free, J.freeC, fun p hp => J.pin p (List.mem_append_left _ hp), J.hok, J.len⟩
  have I0 : ∀ E, Inv (X.tried E (X.pn ++ pins)) [] σ H s := fun E => ⟨okT E _, I.os, I.bare, I.base, I.loc, I.cell, I.free, I.freeC, fun p hp => I.pin p (by simpa using hp), I.hok, I.len⟩
  refine thn (hb (fun σ' cls d H' => th cls d D σ' H') _ (X.pn ++ pins) ?_ [] s σ H D (I0 _) h) fun f s1 q => ?_
  · intro σ1 pins1 H1 s1 ev s2 I1 hc
    obtain ⟨e, T, cls, dd, H', rfl, os, bare, un1, hok, ne, nT, He, HT, ex, hxd, hE⟩ := hc
    have I2 := I1.call' (ch := []) os un1 hok bare (fun b z => absurd z (by simp))
    have nf : ∀ b, s1.heap.get? b = none → b ∉ frs (X.env :: X.outer) := fun b hb z => by
      have st := I1.stack
      have st' : s1.heap.FunFrames X.base (X.env :: X.outer) := by rw [← hstk.1]; exact st
      obtain ⟨_, o, q, _⟩ := st'.mem z
      rw [hb] at q; cases q
    have nb : X.base.get? T = none := by
      cases q : X.base.get? T with
      | none => rfl
      | some o =>
        have := I1.bk T o q
        rw [nT] at this; cases this
    have fl : s2.heap.FunFrames X.base (X.env :: X.outer) := by rw [← hstk.1]; exact I2.stack
    have fr : X.A.frames = some (X.env :: X.outer) := by rw [← hstk.1]; exact I.ok.frames
    refine note_next (base := X.base) (outer := X.outer) fr fl hstk.2.1 ex (nf e ne) (nf T nT) nb fun g T' ng nT' ex' => ?_
    have fs : ∀ b ∈ frs (X.env :: X.outer), b ∈ frs X.stack := fun b hb => by rw [hstk.1]; exact hb
    have I3 := I1.call' (s' := { s2 with heap := g }) (ch := []) os (un1.noted ng ne (fun b z => by rw [z]; exact nT) fun b hb => .inl (fs b hb)) (hok.noted ng He (fun b z => by rw [z]; exact HT) fun b hb => I2.stkFree b (fs b hb)) bare (fun b z => absurd z (by simp))
    exact hh pins _ σ1 H' D e T' cls dd (back I3) (NewAt.of (back I1) hstk.2.2 ne) He ex' hE
  · cases f with
    | next => obtain ⟨σ', H', J, q⟩ := q; exact wpAny_execs_nil ⟨σ', H', back J, q⟩
    | brk => obtain ⟨σ', H', J, q⟩ := q; exact ⟨σ', H', back J, q⟩
    | cont => obtain ⟨σ', H', J, q⟩ := q; exact ⟨σ', H', back J, q⟩
    | ret u => obtain ⟨v, σ', H', J, r, q⟩ := q; exact ⟨v, σ', H', back J, r, q⟩
def kXd : HO → Prop := fun o => match o with
  | .xd _ => True
  | _ => False
def dictO (H : Hp) : Option Addr → Prop
  | none => True
  | some dx => ∃ o, H dx = some o ∧ kXd o
theorem call_isiE : CallR X (.builtin "isinstance") (fun xs H Q => ∃ e oe C D b, xs = [.ref e, D] ∧ (∃ u, H e = some (.frz oe u)) ∧ oe.cls = .ref C ∧ dictO H oe.dict ∧ (∃ vs, oe.data = .fields vs) ∧ ECls X.K C ∧ (∃ u, RelV D u ∧ PySem.W.kitOne X.K (.ref C) u = some b) ∧ Q (.bl b) H) := by
  intro pins s σ H xs us Q I r h
  obtain ⟨e, oe, C, D, b, rfl, ⟨uu, hH⟩, hc, hd, ⟨vs, hv⟩, ec, ⟨u, ru, hk⟩, q⟩ := h
  obtain ⟨u1, u2, rfl, r1, r2⟩ := vals2 r
  cases (show u1 = Value.ref e from r1)
  have hu : u2 = u := by
    cases D with
    | ref a => exact (show u2 = Value.ref a from r2).trans (show u = Value.ref a from ru).symm
    | ty n => exact (show u2 = Value.type n from r2).trans (show u = Value.type n from ru).symm
    | non => exact (show u2 = Value.none from r2).trans (show u = Value.none from ru).symm
    | bl b' => exact (show u2 = Value.bool b' from r2).trans (show u = Value.bool b' from ru).symm
    | int i => obtain ⟨t, rfl⟩ := ru; simp [PySem.W.kitOne, PySem.W.kitCls] at hk
    | str i => obtain ⟨t, rfl⟩ := ru; simp [PySem.W.kitOne, PySem.W.kitCls] at hk
    | byt i => obtain ⟨t, rfl⟩ := ru; simp [PySem.W.kitOne, PySem.W.kitCls] at hk
    | flt i => obtain ⟨t, rfl⟩ := ru; simp [PySem.W.kitOne, PySem.W.kitCls] at hk
  subst hu
  obtain ⟨he, _⟩ := (show ObjOk X.prog X.w H s.heap e (.frz oe uu) from I.hok e _ hH)
  have hno : PySem.W.notCls oe = true := by unfold PySem.W.notCls; rw [hv]
  cases q0 : oe.dict with
  | none =>
    have J : PySem.W.InstAt s.heap e oe C none := ⟨he, hc, hno, by rw [q0]; trivial⟩
    exact PySem.W.kia_one (kitx_exc ec) I.kIn J hk (fun z => nomatch z) fun tk => ⟨.bl b, H, I.tok _, rfl, q⟩
  | some dx =>
    rw [q0] at hd
    obtain ⟨o, ho, hx⟩ := hd
    cases o with
    | xd fs =>
      obtain ⟨mA, hn, _⟩ := I.hok dx _ ho
      obtain ⟨oD, hoD, _⟩ := lookIn_ns hn
      have J : PySem.W.InstAt s.heap e oe C (some oD) := ⟨he, hc, hno, by rw [q0]; exact hoD⟩
      exact PySem.W.kia_one (kitx_exc ec) I.kIn J hk (fun z => nomatch z) fun tk => ⟨.bl b, H, I.tok _, rfl, q⟩
    | _ => exact hx.elim
end
end L2
set_option Elab.async false
set_option linter.all false
set_option maxRecDepth 100000
set_option maxHeartbeats 4000000
namespace L2
open PySem PySem.Spec PyProof.Rows PySem.W
def excInI (K : Frag) (C fI : Addr) (bmB : List Value) (newId : String) : Bool := ownIn0 K C (some (.ref fI)) bmB newId
section
variable {prog : Program} {w : World} {A : Around} {R : Result → Shared → Prop} {h : Heap} {g : Array GenState} {d : Drawn} {t : Nat} {os : OsState} {K : Frag}
variable {nm q : Str} {C N fI : Addr} {bs bm bmB : List Value} {hdct : Bool} {sn : List Str} {sub : List Value} {ab : Bool} {col : Option Bool} {dd : Option Addr} {k0 k1 k2 k3 k5 : Option Value} {B Bn newId nid initId inN : String} {bmN : List Value}
end
def dropRefs : List Value → List Value
  | .ref _ :: r => dropRefs r
  | l => l
def onlyExc (l : List Value) : Bool := dropRefs l == [.type "ValueError", .type "Exception", .type "BaseException", .type "object"]
def excOver (K : Frag) (C : Addr) : Bool := (clsIn K C).any fun cd => onlyExc cd.mro && cd.mro.contains (.type "object")
structure EStore (K : Frag) (C : Addr) : Prop where
  ov : excOver K C = true
  sa : findIn K (.ref C) "__setattr__" = some (some (.builtin "object.__setattr__"))
  hd : hasDictIn K C = true
section
variable {prog : Program} {w : World} {A : Around} {E : Value → Shared → Prop} {K : Frag} {x C : Addr} {s : Shared} {name : Str} {v : Value}
end
end L2
set_option Elab.async false
set_option linter.all false
set_option maxRecDepth 100000
set_option maxHeartbeats 4000000
namespace L2
open PySem PySem.Spec PyProof.Rows PySem.W
section
variable {prog : Program} {w : World} {A : Around} {E : Value → Shared → Prop} {s : Shared} {K : PySem.W.Frag} {x C dx : Addr} {ox : Obj} {od : Option Obj} {name : Str} {mA : Str → Option Value} {u : Value}
end
section
variable {prog : Program} {w : World} {A : Around} {E : Value → Shared → Prop} {h : Heap} {g : Array GenState} {d : Drawn} {t : Nat} {os : OsState} {e a0 : Addr} {dct : Option Addr}
variable {nm q : Str} {C N : Addr} {bs bm bmB : List Value} {hdct : Bool} {sn : List Str} {sub : List Value} {ab : Bool} {col : Option Bool} {dd : Option Addr} {k0 k1 k2 k3 k5 : Option Value} {B newId nid initId : String}
end
structure OwnI (K : PySem.W.Frag) (C fI : Addr) : Prop where
  ex : excInI K C fI [.type "ValueError", .type "Exception", .type "BaseException", .type "object"] "ValueError.__new__" = true
  fn : typeIn K (.ref fI) = some (.type "function")
  st : EStore K C
section
variable {X : Cx} {pins : List (Addr × Obj)} {σ : St} {H : Hp} {s : Shared}
theorem Inv.adopt {a : Addr} {o : HO} (I : Inv X pins σ H s) (N : NewAt X pins a) (hn : H a = none) (new : ObjOk X.prog X.w (upd H a o) s.heap a o) : Inv X pins σ (upd H a o) s := by
  have ne : ∀ {b : Addr} {u : HO}, H b = some u → b ≠ a := fun q z => by rw [z, hn] at q; cases q
  refine ⟨I.ok, I.os, I.bare, ⟨I.base.keep, I.base.slot, fun b u q n hx => ?_, I.base.there, fun b xs q => ?_, fun b u v q => ?_, fun b ps q => ?_⟩, I.loc, I.cell, ?_, fun x c q => ?_, fun p hp => ?_, fun b u q => ?_, I.len⟩
  · rw [upd_ne (fun z => by rw [z, N.s0] at q; cases q)]; exact I.base.free b u q n hx
  · have z := I.base.tups b xs q; rw [upd_ne (ne z)]; exact z
  · have z := I.base.frzs b u v q; rw [upd_ne (ne z)]; exact z
  · obtain ⟨m, z⟩ := I.base.tbls b ps q; exact ⟨m, by rw [upd_ne (ne z)]; exact z⟩
  · rw [upd_ne (Ne.symm N.loc)]; exact I.free
  · rw [upd_ne (N.cel x c q)]; exact I.freeC x c q
  · obtain ⟨a1, b1, c1, d1, f1⟩ := I.pin p hp
    exact ⟨a1, by rw [upd_ne (N.pin p hp)]; exact b1, c1, d1, f1⟩
  · by_cases hb : b = a
    · subst hb; rw [upd_same] at q; cases q; exact new
    · rw [upd_ne hb] at q
      exact (I.hok b u q).stay (fun _ _ _ r => r) (fun c r => by rw [upd_ne (ne r)]; exact r) (fun c y r => by rw [upd_ne (ne r)]; exact r) fun c xs r => by rw [upd_ne (ne r)]; exact r
theorem Inv.newAt {a : Addr} (I : Inv X pins σ H s) (ha : s.heap.objs.size ≤ a) : NewAt X pins a where
  s0 := Heap.get?_none_of_le (Nat.le_trans I.sz ha)
  loc := Nat.ne_of_gt (Nat.lt_of_lt_of_le I.lt ha)
  cel := fun x c e z => by
    obtain ⟨v, o, q, _⟩ := I.cell x c e
    exact absurd (Nat.lt_of_lt_of_le (Heap.lt_size q) (by rw [z]; exact ha)) (Nat.lt_irrefl _)
  fs := I.nofs ha
  pin := fun p hp z => absurd (Nat.lt_of_lt_of_le (Heap.lt_size (I.pin p hp).1) (by rw [z]; exact ha)) (Nat.lt_irrefl _)
structure BaseI (K : PySem.W.Frag) (B : Addr) : Prop where
  sp : specialIn K (.ref B) "__getattribute__" = some (some (.builtin "type.__getattribute__"))
  rd : readsIn K B (.type "type") = true
  fc : findCls K (.ref B) (.type "type") "__init__" = some (.val (.builtin "ValueError.__init__"))
end
end L2
set_option Elab.async false
set_option linter.all false
set_option maxRecDepth 100000
set_option maxHeartbeats 4000000
namespace L2
open PySem PySem.Spec PyProof.Rows PySem.W
section
variable {X : Cx} {e o value : Expr} {ta tv : TE} {f : Str} {pos pos' : Pos}
end
def del (H : Hp) (e : Addr) : Hp := fun b => if b = e then none else H b
section
variable {X : Cx}
end
end L2
set_option Elab.async false
set_option linter.all false
set_option maxRecDepth 100000
set_option maxHeartbeats 4000000
namespace L2
open PySem
open PySem.Spec PyProof.Rows
theorem gName_0 {a : Option V} {v : V} {σ : St} {H : Hp} {Q : St → Hp → Prop} : gName 0 v (a :: σ) H Q = Q (some v :: σ) H := rfl
theorem gName_1 {a0 : Option V} {a : Option V} {v : V} {σ : St} {H : Hp} {Q : St → Hp → Prop} : gName 1 v (a0 :: a :: σ) H Q = Q (a0 :: some v :: σ) H := rfl
theorem gName_2 {a0 a1 : Option V} {a : Option V} {v : V} {σ : St} {H : Hp} {Q : St → Hp → Prop} : gName 2 v (a0 :: a1 :: a :: σ) H Q = Q (a0 :: a1 :: some v :: σ) H := rfl
theorem gName_3 {a0 a1 a2 : Option V} {a : Option V} {v : V} {σ : St} {H : Hp} {Q : St → Hp → Prop} : gName 3 v (a0 :: a1 :: a2 :: a :: σ) H Q = Q (a0 :: a1 :: a2 :: some v :: σ) H := rfl
theorem gName_4 {a0 a1 a2 a3 : Option V} {a : Option V} {v : V} {σ : St} {H : Hp} {Q : St → Hp → Prop} : gName 4 v (a0 :: a1 :: a2 :: a3 :: a :: σ) H Q = Q (a0 :: a1 :: a2 :: a3 :: some v :: σ) H := rfl
theorem gName_5 {a0 a1 a2 a3 a4 : Option V} {a : Option V} {v : V} {σ : St} {H : Hp} {Q : St → Hp → Prop} : gName 5 v (a0 :: a1 :: a2 :: a3 :: a4 :: a :: σ) H Q = Q (a0 :: a1 :: a2 :: a3 :: a4 :: some v :: σ) H := rfl
theorem gName_6 {a0 a1 a2 a3 a4 a5 : Option V} {a : Option V} {v : V} {σ : St} {H : Hp} {Q : St → Hp → Prop} : gName 6 v (a0 :: a1 :: a2 :: a3 :: a4 :: a5 :: a :: σ) H Q = Q (a0 :: a1 :: a2 :: a3 :: a4 :: a5 :: some v :: σ) H := rfl
theorem gName_7 {a0 a1 a2 a3 a4 a5 a6 : Option V} {a : Option V} {v : V} {σ : St} {H : Hp} {Q : St → Hp → Prop} : gName 7 v (a0 :: a1 :: a2 :: a3 :: a4 :: a5 :: a6 :: a :: σ) H Q = Q (a0 :: a1 :: a2 :: a3 :: a4 :: a5 :: a6 :: some v :: σ) H := rfl
theorem gName_8 {a0 a1 a2 a3 a4 a5 a6 a7 : Option V} {a : Option V} {v : V} {σ : St} {H : Hp} {Q : St → Hp → Prop} : gName 8 v (a0 :: a1 :: a2 :: a3 :: a4 :: a5 :: a6 :: a7 :: a :: σ) H Q = Q (a0 :: a1 :: a2 :: a3 :: a4 :: a5 :: a6 :: a7 :: some v :: σ) H := rfl
theorem gName_9 {a0 a1 a2 a3 a4 a5 a6 a7 a8 : Option V} {a : Option V} {v : V} {σ : St} {H : Hp} {Q : St → Hp → Prop} : gName 9 v (a0 :: a1 :: a2 :: a3 :: a4 :: a5 :: a6 :: a7 :: a8 :: a :: σ) H Q = Q (a0 :: a1 :: a2 :: a3 :: a4 :: a5 :: a6 :: a7 :: a8 :: some v :: σ) H := rfl
theorem gName_10 {a0 a1 a2 a3 a4 a5 a6 a7 a8 a9 : Option V} {a : Option V} {v : V} {σ : St} {H : Hp} {Q : St → Hp → Prop} : gName 10 v (a0 :: a1 :: a2 :: a3 :: a4 :: a5 :: a6 :: a7 :: a8 :: a9 :: a :: σ) H Q = Q (a0 :: a1 :: a2 :: a3 :: a4 :: a5 :: a6 :: a7 :: a8 :: a9 :: some v :: σ) H := rfl
theorem gName_11 {a0 a1 a2 a3 a4 a5 a6 a7 a8 a9 a10 : Option V} {a : Option V} {v : V} {σ : St} {H : Hp} {Q : St → Hp → Prop} : gName 11 v (a0 :: a1 :: a2 :: a3 :: a4 :: a5 :: a6 :: a7 :: a8 :: a9 :: a10 :: a :: σ) H Q = Q (a0 :: a1 :: a2 :: a3 :: a4 :: a5 :: a6 :: a7 :: a8 :: a9 :: a10 :: some v :: σ) H := rfl
def optK {α : Type} : Option α → (α → Prop) → Prop
  | some x, k => k x
  | none, _ => False
theorem optK_some {α : Type} (x : α) (k : α → Prop) : optK (some x) k = k x := rfl
theorem optK_ex {α : Type} {o : Option α} {k : α → Prop} (h : optK o k) : ∃ x, o = some x ∧ k x := by
  cases o with
  | none => exact h.elim
  | some x => exact ⟨x, rfl, h⟩
def seqO : HO → Option (List V)
  | .lst xs => some xs
  | .tup xs => some xs
  | .frz _ (.lst xs) => some xs
  | _ => none
def lstO : HO → Option (List V)
  | .lst xs => some xs
  | _ => none
def tupO : HO → Option (List V)
  | .tup xs => some xs
  | _ => none
def itemsAt (H : Hp) (p : Addr) : Option (List V) := (H p).bind seqO
def lstAt (H : Hp) (p : Addr) : Option (List V) := (H p).bind lstO
def tupAt (H : Hp) (p : Addr) : Option (List V) := (H p).bind tupO
theorem seqO_lst (xs : List V) : seqO (.lst xs) = some xs := rfl
theorem seqO_tup (xs : List V) : seqO (.tup xs) = some xs := rfl
theorem lstO_lst (xs : List V) : lstO (.lst xs) = some xs := rfl
theorem tupO_tup (xs : List V) : tupO (.tup xs) = some xs := rfl
theorem bind_some' {α β : Type} (x : α) (f : α → Option β) : (some x).bind f = f x := rfl
abbrev Ext (H H' : Hp) : Prop := (∀ a, (H a).isSome = true → H' a = H a) ∧ ∀ (K : PySem.W.Frag) a xs, SqL K H a xs → SqL K H' a xs
def kOp' (r : R2) (x : V) (Q : VK) : VK := fun y H => r x y H Q
theorem m_kOp' (r : R2) (x y : V) (H : Hp) (Q : VK) : (kOp' r x Q y H) = (r x y H Q) := rfl
def kOp (r : R2) (tb : TE) (σ : St) (Q : VK) : VK := fun x H => tb σ H (kOp' r x Q)
theorem m_kOp (r : R2) (tb : TE) (σ : St) (Q : VK) (x : V) (H : Hp) : (kOp r tb σ Q x H) = (tb σ H (kOp' r x Q)) := rfl
theorem m_tOp (r : R2) (ta tb : TE) (σ : St) (H : Hp) (Q : VK) : (tOp r ta tb σ H Q) = (ta σ H (kOp r tb σ Q)) := rfl
theorem m_tC (v : V) (σ : St) (H : Hp) (Q : VK) : (tC v σ H Q) = (Q v H) := rfl
def kUn (r : V → Hp → VK → Prop) (Q : VK) : VK := fun x H => r x H Q
theorem m_kUn (r : V → Hp → VK → Prop) (Q : VK) (x : V) (H : Hp) : (kUn r Q x H) = (r x H Q) := rfl
theorem m_tUn (r : V → Hp → VK → Prop) (ta : TE) (σ : St) (H : Hp) (Q : VK) : (tUn r ta σ H Q) = (ta σ H (kUn r Q)) := rfl
def kTest (Q : Bool → Hp → Prop) : VK := fun x H => ∃ k, x = .bl k ∧ Q k H
def kNot (Q : Bool → Hp → Prop) : Bool → Hp → Prop := fun c H => Q (!c) H
theorem m_kNot (Q : Bool → Hp → Prop) (c : Bool) (H : Hp) : (kNot Q c H) = (Q (!c) H) := rfl
theorem m_tNot (t : TT) (σ : St) (H : Hp) (Q : Bool → Hp → Prop) : (tNot t σ H Q) = (t σ H (kNot Q)) := rfl
def kAnd (u : TT) (σ : St) (Q : Bool → Hp → Prop) : Bool → Hp → Prop := fun c H => if c = true then u σ H Q else Q false H
theorem m_kAnd (u : TT) (σ : St) (Q : Bool → Hp → Prop) (c : Bool) (H : Hp) : (kAnd u σ Q c H) = (if c = true then u σ H Q else Q false H) := rfl
theorem m_tAnd (t u : TT) (σ : St) (H : Hp) (Q : Bool → Hp → Prop) : (tAnd t u σ H Q) = (t σ H (kAnd u σ Q)) := rfl
def kOr (u : TT) (σ : St) (Q : Bool → Hp → Prop) : Bool → Hp → Prop := fun c H => if c = true then Q true H else u σ H Q
theorem m_kOr (u : TT) (σ : St) (Q : Bool → Hp → Prop) (c : Bool) (H : Hp) : (kOr u σ Q c H) = (if c = true then Q true H else u σ H Q) := rfl
theorem m_tOr (t u : TT) (σ : St) (H : Hp) (Q : Bool → Hp → Prop) : (tOr t u σ H Q) = (t σ H (kOr u σ Q)) := rfl
def kAndV (tb : TE) (σ : St) (Q : VK) : VK := fun x H => ∃ c, x = .bl c ∧ if c = true then tb σ H Q else Q (.bl false) H
def kNotV (Q : VK) : VK := fun x H => ∃ c, x = .bl c ∧ Q (.bl (!c)) H
def kIfE (ta tb : TE) (σ : St) (Q : VK) : Bool → Hp → Prop := fun c H => if c = true then ta σ H Q else tb σ H Q
theorem m_kIfE (ta tb : TE) (σ : St) (Q : VK) (c : Bool) (H : Hp) : (kIfE ta tb σ Q c H) = (if c = true then ta σ H Q else tb σ H Q) := rfl
theorem m_tIf (t : TT) (ta tb : TE) (σ : St) (H : Hp) (Q : VK) : (tIf t ta tb σ H Q) = (t σ H (kIfE ta tb σ Q)) := rfl
def kCh3 (r' : R2) (y : V) (Q : VK) : VK := fun w H => r' y w H Q
theorem m_kCh3 (r' : R2) (y w : V) (Q : VK) (H : Hp) : (kCh3 r' y Q w H) = (r' y w H Q) := rfl
def kCh2 (r' : R2) (tc : TE) (σ : St) (y : V) (Q : VK) : VK := fun z H => ∃ k, z = .bl k ∧ (if k = true then tc σ H (kCh3 r' y Q) else Q (.bl false) H)
def kCh1 (r r' : R2) (tc : TE) (σ : St) (x : V) (Q : VK) : VK := fun y H => r x y H (kCh2 r' tc σ y Q)
def kCh0 (r r' : R2) (tb tc : TE) (σ : St) (Q : VK) : VK := fun x H => tb σ H (kCh1 r r' tc σ x Q)
theorem m_tNil (σ : St) (H : Hp) (Q : List V → Hp → Prop) : (tNil σ H Q) = (Q [] H) := rfl
def kCons' (x : V) (Q : List V → Hp → Prop) : List V → Hp → Prop := fun xs H => Q (x :: xs) H
theorem m_kCons' (x : V) (Q : List V → Hp → Prop) (xs : List V) (H : Hp) : (kCons' x Q xs H) = (Q (x :: xs) H) := rfl
def kCons (tr : TA) (σ : St) (Q : List V → Hp → Prop) : VK := fun x H => tr σ H (kCons' x Q)
theorem m_kCons (tr : TA) (σ : St) (Q : List V → Hp → Prop) (x : V) (H : Hp) : (kCons tr σ Q x H) = (tr σ H (kCons' x Q)) := rfl
theorem m_tCons (ta : TE) (tr : TA) (σ : St) (H : Hp) (Q : List V → Hp → Prop) : (tCons ta tr σ H Q) = (ta σ H (kCons tr σ Q)) := rfl
def kCall (sp : Sp) (dvs : List V) (E : XK) (Q : VK) : List V → Hp → Prop := fun vs H => sp (vs ++ dvs) H Q E
theorem m_kCall_1 (v0 : V) (sp : Sp) (dvs : List V) (E : XK) (Q : VK) (H : Hp) : kCall sp dvs E Q [v0] H = sp (v0 :: dvs) H Q E := rfl
theorem m_kCall_2 (v0 v1 : V) (sp : Sp) (dvs : List V) (E : XK) (Q : VK) (H : Hp) : kCall sp dvs E Q [v0, v1] H = sp (v0 :: v1 :: dvs) H Q E := rfl
theorem m_kCall_3 (v0 v1 v2 : V) (sp : Sp) (dvs : List V) (E : XK) (Q : VK) (H : Hp) : kCall sp dvs E Q [v0, v1, v2] H = sp (v0 :: v1 :: v2 :: dvs) H Q E := rfl
theorem m_kCall_4 (v0 v1 v2 v3 : V) (sp : Sp) (dvs : List V) (E : XK) (Q : VK) (H : Hp) : kCall sp dvs E Q [v0, v1, v2, v3] H = sp (v0 :: v1 :: v2 :: v3 :: dvs) H Q E := rfl
theorem m_tCall (sp : Sp) (dvs : List V) (E : XK) (t : TA) (σ : St) (H : Hp) (Q : VK) : (tCall sp dvs E t σ H Q) = (t σ H (kCall sp dvs E Q)) := rfl
def kCB (r : List V → Hp → VK → Prop) (Q : VK) : List V → Hp → Prop := fun vs H => r vs H Q
theorem m_kCB (r : List V → Hp → VK → Prop) (Q : VK) (vs : List V) (H : Hp) : (kCB r Q vs H) = (r vs H Q) := rfl
theorem m_tCB (r : List V → Hp → VK → Prop) (t : TA) (σ : St) (H : Hp) (Q : VK) : (tCB r t σ H Q) = (t σ H (kCB r Q)) := rfl
theorem m_tNext (nx : St → Hp → Prop) (rt : VK) (bk ct : St → Hp → Prop) (σ : St) (H : Hp) : (tNext ⟨nx, rt, bk, ct⟩ σ H) = (nx σ H) := rfl
theorem m_tSeq (t u : TS) (nx : St → Hp → Prop) (rt : VK) (bk ct : St → Hp → Prop) (σ : St) (H : Hp) : (tSeq t u ⟨nx, rt, bk, ct⟩ σ H) = (t ⟨u ⟨nx, rt, bk, ct⟩, rt, bk, ct⟩ σ H) := rfl
theorem m_tRet (te : TE) (nx : St → Hp → Prop) (rt : VK) (bk ct : St → Hp → Prop) (σ : St) (H : Hp) : (tRet te ⟨nx, rt, bk, ct⟩ σ H) = (te σ H rt) := rfl
def kDrop (nx : St → Hp → Prop) (σ : St) : VK := fun x H => nx σ H
theorem m_kDrop (nx : St → Hp → Prop) (σ : St) (x : V) (H : Hp) : (kDrop nx σ x H) = (nx σ H) := rfl
theorem m_tDrop (te : TE) (nx : St → Hp → Prop) (rt : VK) (bk ct : St → Hp → Prop) (σ : St) (H : Hp) : (tDrop te ⟨nx, rt, bk, ct⟩ σ H) = (te σ H (kDrop nx σ)) := rfl
def kIfS (t u : TS) (D : Ends) (σ : St) : Bool → Hp → Prop := fun b H => if b = true then t D σ H else u D σ H
theorem m_kIfS (t u : TS) (D : Ends) (σ : St) (b : Bool) (H : Hp) : (kIfS t u D σ b H) = (if b = true then t D σ H else u D σ H) := rfl
theorem m_tIfS (c : TT) (t u : TS) (D : Ends) (σ : St) (H : Hp) : (tIfS c t u D σ H) = (c σ H (kIfS t u D σ)) := rfl
def kAsg (g : TG) (σ : St) (nx : St → Hp → Prop) : VK := fun x H => g x σ H nx
theorem m_kAsg (g : TG) (σ : St) (nx : St → Hp → Prop) (x : V) (H : Hp) : (kAsg g σ nx x H) = (g x σ H nx) := rfl
theorem m_tAsg (te : TE) (g : TG) (nx : St → Hp → Prop) (rt : VK) (bk ct : St → Hp → Prop) (σ : St) (H : Hp) : (tAsg te g ⟨nx, rt, bk, ct⟩ σ H) = (te σ H (kAsg g σ nx)) := rfl
def kGs (u : TGs) (r : List V) (Q : St → Hp → Prop) : St → Hp → Prop := fun σ' H' => u r σ' H' Q
theorem m_kGs (u : TGs) (r : List V) (Q : St → Hp → Prop) (σ : St) (H : Hp) : (kGs u r Q σ H) = (u r σ H Q) := rfl
end L2
set_option Elab.async false
set_option linter.all false
set_option maxRecDepth 100000
set_option maxHeartbeats 4000000
namespace L2
open PySem PySem.Spec PyProof.Rows
section
variable {X : Cx}
theorem OpR.mono {f : Value → Value → Sem Value} {r r' : R2} (h : OpR X f r) (m : ∀ x y H Q, r' x y H Q → r x y H Q) : OpR X f r' := fun pins s σ H x y v u Q I rx ry hq => h pins s σ H x y v u Q I rx ry (m _ _ _ _ hq)
theorem CallR.mono {f : Value} {r r' : List V → Hp → VK → Prop} (h : CallR X f r) (m : ∀ xs H Q, r' xs H Q → r xs H Q) : CallR X f r' := fun pins s σ H xs us Q I rx hq => h pins s σ H xs us Q I rx (m _ _ _ hq)
theorem IxR.mono {r r' : R2} (h : IxR X r) (m : ∀ x y H Q, r' x y H Q → r x y H Q) : IxR X r' := fun a b pins s σ H x y v u Q I rx ry hq => h a b pins s σ H x y v u Q I rx ry (m _ _ _ _ hq)
theorem SlR.mono {r r' : V → Option Int → Option Int → Hp → VK → Prop} (h : SlR X r) (m : ∀ x lo hi H Q, r' x lo hi H Q → r x lo hi H Q) : SlR X r' := fun pins s σ H x v vl vu lo hi sl Q I rx a b c hq => h pins s σ H x v vl vu lo hi sl Q I rx a b c (m _ _ _ _ _ hq)
theorem PG.mono {tg : Expr} {g g' : TG} (h : PG X tg g) (m : ∀ v σ H Q, g' v σ H Q → g v σ H Q) : PG X tg g' := fun pins s σ H v u Q I r hq => h pins s σ H v u Q I r (m _ _ _ _ hq)
theorem items_seq {K : PySem.W.Frag} {H : Hp} {p : Addr} {ys : List V} (h : itemsAt H p = some ys) : SqL K H p ys ∨ SqT K H p ys := by
  unfold itemsAt at h
  cases e : H p with
  | none => rw [e] at h; cases h
  | some o =>
    rw [e] at h
    have h' : seqO o = some ys := h
    cases o with
    | lst xs => cases h'; exact .inl (SqL.of e)
    | tup xs => cases h'; exact .inr (SqT.of e)
    | frz ob u =>
      cases u with
      | lst xs => cases h'; exact .inl (.inl (.inr ⟨ob, e⟩))
      | _ => cases h'
    | _ => cases h'
theorem lst_of {H : Hp} {p : Addr} {ys : List V} (h : lstAt H p = some ys) : H p = some (.lst ys) := by
  unfold lstAt at h
  cases e : H p with
  | none => rw [e] at h; cases h
  | some o =>
    rw [e] at h
    have h' : lstO o = some ys := h
    cases o with
    | lst xs => cases h'; rfl
    | _ => cases h'
theorem tup_of {H : Hp} {p : Addr} {ys : List V} (h : tupAt H p = some ys) : H p = some (.tup ys) := by
  unfold tupAt at h
  cases e : H p with
  | none => rw [e] at h; cases h
  | some o =>
    rw [e] at h
    have h' : tupO o = some ys := h
    cases o with
    | tup xs => cases h'; rfl
    | _ => cases h'
def kLen (H : Hp) (Q : VK) : List V → Prop := fun ys => Q (.int ys.length) H
theorem m_kLen (H : Hp) (Q : VK) (ys : List V) : kLen H Q ys = Q (.int ys.length) H := rfl
def qLen (xs : List V) (H : Hp) (Q : VK) : Prop := match xs with
  | [.ref p] => optK (itemsAt H p) (kLen H Q)
  | [.str z] => z.length ≤ sizeLine ∧ Q (.int z.length) H
  | _ => False
theorem m_qLen (p : Addr) (H : Hp) (Q : VK) : qLen [.ref p] H Q = optK (itemsAt H p) (kLen H Q) := rfl
theorem call_qLen : CallR X (.builtin "len") qLen := by
  refine (call_len_seq.or call_len_str).mono fun xs H Q h => ?_
  unfold qLen at h
  split at h
  · rename_i p
    obtain ⟨ys, e, q⟩ := optK_ex h
    exact .inl ⟨p, ys, rfl, items_seq e, q⟩
  · rename_i z
    exact .inr ⟨z, rfl, h.1, h.2⟩
  · exact h.elim
def kIx' (H : Hp) (Q : VK) : V → Prop := fun v => Q v H
theorem m_kIx' (H : Hp) (Q : VK) (v : V) : kIx' H Q v = Q v H := rfl
def kIx (i : Int) (H : Hp) (Q : VK) : List V → Prop := fun ys => optK (atI ys i) (kIx' H Q)
theorem m_kIx (i : Int) (H : Hp) (Q : VK) (ys : List V) : kIx i H Q ys = optK (atI ys i) (kIx' H Q) := rfl
def qIx : R2 := fun x y H Q => match x, y with
  | .ref p, .int i => optK (itemsAt H p) (kIx i H Q)
  | _, _ => False
theorem m_qIx (p : Addr) (i : Int) (H : Hp) (Q : VK) : qIx (.ref p) (.int i) H Q = optK (itemsAt H p) (kIx i H Q) := rfl
theorem ix_q : IxR X qIx := by
  refine (ix_list.or ix_tup).mono fun x y H Q h => ?_
  unfold qIx at h
  split at h
  · rename_i p i
    obtain ⟨ys, e, q⟩ := optK_ex h
    obtain ⟨v, e2, q2⟩ := optK_ex q
    rcases items_seq (K := X.K) e with z | z
    · exact .inl ⟨p, ys, i, v, rfl, rfl, z, e2, q2⟩
    · exact .inr ⟨p, ys, i, v, rfl, rfl, z, e2, q2⟩
  · exact h.elim
theorem atI_0 {α : Type} (a : α) (xs : List α) : atI (a :: xs) 0 = some a := atI_nat (j := 0) rfl
theorem atI_1 {α : Type} (a b : α) (xs : List α) : atI (a :: b :: xs) 1 = some b := atI_nat (j := 1) rfl
theorem atI_2 {α : Type} (a b c : α) (xs : List α) : atI (a :: b :: c :: xs) 2 = some c := atI_nat (j := 2) rfl
def kNewL (H : Hp) (Q : VK) : List V → Prop := fun ys => ∀ l, H l = none → Q (.ref l) (upd H l (.lst ys))
def qList (xs : List V) (H : Hp) (Q : VK) : Prop := match xs with
  | [.ref p] => optK (itemsAt H p) (kNewL H Q)
  | _ => False
theorem call_qList : CallR X (.type "list") qList := by
  refine call_list_of.mono fun xs H Q h => ?_
  unfold qList at h
  split at h
  · rename_i p
    obtain ⟨ys, e, q⟩ := optK_ex h
    exact ⟨p, ys, rfl, items_seq e, q⟩
  · exact h.elim
def kTupO (p : Addr) (H : Hp) (Q : VK) : HO → Prop := fun o => match o with
  | .lst ys => ∀ l, H l = none → Q (.ref l) (upd H l (.tup ys))
  | .tup _ => Q (.ref p) H
  | _ => False
def qTuple (xs : List V) (H : Hp) (Q : VK) : Prop := match xs with
  | [.ref p] => optK (H p) (kTupO p H Q)
  | _ => False
theorem call_qTuple : CallR X (.type "tuple") qTuple := by
  refine call_tuple_of.mono fun xs H Q h => ?_
  unfold qTuple at h
  split at h
  · rename_i p
    obtain ⟨o, e, q⟩ := optK_ex h
    unfold kTupO at q
    split at q
    · rename_i ys; exact ⟨p, ys, rfl, .inl ⟨SqL.of e, q⟩⟩
    · rename_i ys; exact ⟨p, ys, rfl, .inr ⟨SqT.of e, q⟩⟩
    · exact q.elim
  · exact h.elim
def qMax (xs : List V) (H : Hp) (Q : VK) : Prop := match xs with
  | [.int i, .int j] => Q (.int (if i < j then j else i)) H
  | _ => False
theorem m_qMax (i j : Int) (H : Hp) (Q : VK) : qMax [.int i, .int j] H Q = Q (.int (if i < j then j else i)) H := rfl
theorem call_qMax (hc : X.calm = true) : CallR X (.builtin "max") qMax := by
  refine (call_max2 hc).mono fun xs H Q h => ?_
  unfold qMax at h
  split at h
  · rename_i i j; exact ⟨i, j, rfl, h⟩
  · exact h.elim
def qMin (xs : List V) (H : Hp) (Q : VK) : Prop := match xs with
  | [.int i, .int j] => Q (.int (if j < i then j else i)) H
  | _ => False
theorem m_qMin (i j : Int) (H : Hp) (Q : VK) : qMin [.int i, .int j] H Q = Q (.int (if j < i then j else i)) H := rfl
theorem call_qMin (hc : X.calm = true) : CallR X (.builtin "min") qMin := by
  refine (call_min2 hc).mono fun xs H Q h => ?_
  unfold qMin at h
  split at h
  · rename_i i j; exact ⟨i, j, rfl, h⟩
  · exact h.elim
def qStr (xs : List V) (H : Hp) (Q : VK) : Prop := match xs with
  | [.int i] => i.natAbs.log2 < 1920 ∧ Q (.str (toString i)) H
  | _ => False
theorem m_qStr (i : Int) (H : Hp) (Q : VK) : qStr [.int i] H Q = (i.natAbs.log2 < 1920 ∧ Q (.str (toString i)) H) := rfl
theorem call_qStr : CallR X (.type "str") qStr := by
  refine call_str_int.mono fun xs H Q h => ?_
  unfold qStr at h
  split at h
  · rename_i i; exact ⟨i, rfl, h.1, h.2⟩
  · exact h.elim
def tyO : HO → Option String
  | .lst _ => some "list"
  | .tup _ => some "tuple"
  | .frz _ (.lst _) => some "list"
  | .dK _ => some "dict"
  | .dT _ => some "dict"
  | _ => none
theorem tyO_lst (xs : List V) : tyO (.lst xs) = some "list" := rfl
theorem tyO_tup (xs : List V) : tyO (.tup xs) = some "tuple" := rfl
theorem tyO_dK (xs : List (Key × V)) : tyO (.dK xs) = some "dict" := rfl
def tyN (H : Hp) : V → Option String
  | .non => some "NoneType"
  | .bl _ => some "bool"
  | .int _ => some "int"
  | .str _ => some "str"
  | .ref p => (H p).bind tyO
  | _ => none
theorem tyN_non (H : Hp) : tyN H .non = some "NoneType" := rfl
theorem tyN_bl (H : Hp) (b : Bool) : tyN H (.bl b) = some "bool" := rfl
theorem tyN_int (H : Hp) (i : Int) : tyN H (.int i) = some "int" := rfl
theorem tyN_str (H : Hp) (x : Str) : tyN H (.str x) = some "str" := rfl
theorem tyN_ref (H : Hp) (p : Addr) : tyN H (.ref p) = (H p).bind tyO := rfl
theorem tyN_ok {K : PySem.W.Frag} {H : Hp} {x : V} {t : String} (h : tyN H x = some t) : TyOf K H x (.type t) := by
  cases x with
  | non => cases h; exact .non
  | bl b => cases h; exact .bl b
  | int i => cases h; exact .int i
  | str x => cases h; exact .str x
  | ref p =>
    have h' : (H p).bind tyO = some t := h
    cases e : H p with
    | none => rw [e] at h'; cases h'
    | some o =>
      rw [e] at h'
      have h2 : tyO o = some t := h'
      cases o with
      | lst xs => cases h2; exact .lst e
      | tup xs => cases h2; exact .tup e
      | dK xs => cases h2; exact .dK e
      | dT xs => cases h2; exact .dT e
      | frz ob u =>
        cases u with
        | lst xs => cases h2; exact .frz e
        | _ => cases h2
      | _ => cases h2
  | _ => cases h
def kTypes : List String := ["NoneType", "bool", "int", "str", "list", "tuple", "dict"]
def isiN (t n : String) : Bool := t == n || (t == "bool" && n == "int")
theorem kit_isiN (K : PySem.W.Frag) : ∀ t ∈ kTypes, ∀ n ∈ kTypes, PySem.W.kitOne K (.type t) (.type n) = some (isiN t n) := by
  intro t ht n hn
  unfold kTypes at ht hn
  simp only [List.mem_cons, List.not_mem_nil, or_false] at ht hn
  rcases ht with rfl | rfl | rfl | rfl | rfl | rfl | rfl <;> rcases hn with rfl | rfl | rfl | rfl | rfl | rfl | rfl <;> exact kitOne_ty K _ _ _ (by decide +kernel)
def kIsi (n : String) (H : Hp) (Q : VK) : String → Prop := fun t => t ∈ kTypes ∧ Q (.bl (isiN t n)) H
def qIsi (xs : List V) (H : Hp) (Q : VK) : Prop := match xs with
  | [x, .ty n] => n ∈ kTypes ∧ optK (tyN H x) (kIsi n H Q)
  | _ => False
theorem call_qIsi : CallR X (.builtin "isinstance") qIsi := by
  refine call_isi.mono fun xs H Q h => ?_
  unfold qIsi at h
  split at h
  · rename_i x n
    obtain ⟨hn, h⟩ := h
    obtain ⟨t, e, ht, q⟩ := optK_ex h
    exact ⟨x, n, _, _, rfl, tyN_ok e, kit_isiN _ t ht n hn, q⟩
  · exact h.elim
theorem m_qIsi_int (x : V) (H : Hp) (Q : VK) : qIsi [x, .ty "int"] H Q = optK (tyN H x) (kIsi "int" H Q) := by
  unfold qIsi; exact propext ⟨fun h => h.2, fun h => ⟨by decide, h⟩⟩
theorem m_qIsi_bool (x : V) (H : Hp) (Q : VK) : qIsi [x, .ty "bool"] H Q = optK (tyN H x) (kIsi "bool" H Q) := by
  unfold qIsi; exact propext ⟨fun h => h.2, fun h => ⟨by decide, h⟩⟩
theorem m_qIsi_tuple (x : V) (H : Hp) (Q : VK) : qIsi [x, .ty "tuple"] H Q = optK (tyN H x) (kIsi "tuple" H Q) := by
  unfold qIsi; exact propext ⟨fun h => h.2, fun h => ⟨by decide, h⟩⟩
theorem m_qIsi_list (x : V) (H : Hp) (Q : VK) : qIsi [x, .ty "list"] H Q = optK (tyN H x) (kIsi "list" H Q) := by
  unfold qIsi; exact propext ⟨fun h => h.2, fun h => ⟨by decide, h⟩⟩
theorem m_kIsi_Ni (H : Hp) (Q : VK) : kIsi "int" H Q "NoneType" = Q (.bl false) H := propext ⟨fun h => h.2, fun h => ⟨by decide, h⟩⟩
theorem m_kIsi_Nl (H : Hp) (Q : VK) : kIsi "list" H Q "NoneType" = Q (.bl false) H := propext ⟨fun h => h.2, fun h => ⟨by decide, h⟩⟩
theorem m_kIsi_Nt (H : Hp) (Q : VK) : kIsi "tuple" H Q "NoneType" = Q (.bl false) H := propext ⟨fun h => h.2, fun h => ⟨by decide, h⟩⟩
theorem m_kIsi_bb (H : Hp) (Q : VK) : kIsi "bool" H Q "bool" = Q (.bl true) H := propext ⟨fun h => h.2, fun h => ⟨by decide, h⟩⟩
theorem m_kIsi_bi (H : Hp) (Q : VK) : kIsi "int" H Q "bool" = Q (.bl true) H := propext ⟨fun h => h.2, fun h => ⟨by decide, h⟩⟩
theorem m_kIsi_ib (H : Hp) (Q : VK) : kIsi "bool" H Q "int" = Q (.bl false) H := propext ⟨fun h => h.2, fun h => ⟨by decide, h⟩⟩
theorem m_kIsi_ii (H : Hp) (Q : VK) : kIsi "int" H Q "int" = Q (.bl true) H := propext ⟨fun h => h.2, fun h => ⟨by decide, h⟩⟩
theorem m_kIsi_il (H : Hp) (Q : VK) : kIsi "list" H Q "int" = Q (.bl false) H := propext ⟨fun h => h.2, fun h => ⟨by decide, h⟩⟩
theorem m_kIsi_it (H : Hp) (Q : VK) : kIsi "tuple" H Q "int" = Q (.bl false) H := propext ⟨fun h => h.2, fun h => ⟨by decide, h⟩⟩
theorem m_kIsi_si (H : Hp) (Q : VK) : kIsi "int" H Q "str" = Q (.bl false) H := propext ⟨fun h => h.2, fun h => ⟨by decide, h⟩⟩
theorem m_kIsi_sl (H : Hp) (Q : VK) : kIsi "list" H Q "str" = Q (.bl false) H := propext ⟨fun h => h.2, fun h => ⟨by decide, h⟩⟩
theorem m_kIsi_st (H : Hp) (Q : VK) : kIsi "tuple" H Q "str" = Q (.bl false) H := propext ⟨fun h => h.2, fun h => ⟨by decide, h⟩⟩
theorem m_kIsi_li (H : Hp) (Q : VK) : kIsi "int" H Q "list" = Q (.bl false) H := propext ⟨fun h => h.2, fun h => ⟨by decide, h⟩⟩
theorem m_kIsi_ll (H : Hp) (Q : VK) : kIsi "list" H Q "list" = Q (.bl true) H := propext ⟨fun h => h.2, fun h => ⟨by decide, h⟩⟩
theorem m_kIsi_lt (H : Hp) (Q : VK) : kIsi "tuple" H Q "list" = Q (.bl false) H := propext ⟨fun h => h.2, fun h => ⟨by decide, h⟩⟩
theorem m_kIsi_ti (H : Hp) (Q : VK) : kIsi "int" H Q "tuple" = Q (.bl false) H := propext ⟨fun h => h.2, fun h => ⟨by decide, h⟩⟩
theorem m_kIsi_tl (H : Hp) (Q : VK) : kIsi "list" H Q "tuple" = Q (.bl false) H := propext ⟨fun h => h.2, fun h => ⟨by decide, h⟩⟩
theorem m_kIsi_tt (H : Hp) (Q : VK) : kIsi "tuple" H Q "tuple" = Q (.bl true) H := propext ⟨fun h => h.2, fun h => ⟨by decide, h⟩⟩
theorem m_kIsi_di (H : Hp) (Q : VK) : kIsi "int" H Q "dict" = Q (.bl false) H := propext ⟨fun h => h.2, fun h => ⟨by decide, h⟩⟩
theorem m_kIsi_dl (H : Hp) (Q : VK) : kIsi "list" H Q "dict" = Q (.bl false) H := propext ⟨fun h => h.2, fun h => ⟨by decide, h⟩⟩
def kBM' (r : V → List V → Hp → VK → Prop) (x : V) (Q : VK) : List V → Hp → Prop := fun xs H => r x xs H Q
theorem m_kBM' (r : V → List V → Hp → VK → Prop) (x : V) (Q : VK) (xs : List V) (H : Hp) : kBM' r x Q xs H = r x xs H Q := rfl
def kBM (K : PySem.W.Frag) (T : String) (r : V → List V → Hp → VK → Prop) (t : TA) (σ : St) (Q : VK) : VK := fun x H => tyV K T x H ∧ t σ H (kBM' r x Q)
theorem m_kBM (K : PySem.W.Frag) (T : String) (r : V → List V → Hp → VK → Prop) (t : TA) (σ : St) (Q : VK) (x : V) (H : Hp) : kBM K T r t σ Q x H = (tyV K T x H ∧ t σ H (kBM' r x Q)) := rfl
theorem m_tBM (K : PySem.W.Frag) (T : String) (r : V → List V → Hp → VK → Prop) (to : TE) (t : TA) (σ : St) (H : Hp) (Q : VK) : tBM K T r to t σ H Q = to σ H (kBM K T r t σ Q) := rfl
theorem tyV_list (K : PySem.W.Frag) (p : Addr) (H : Hp) (h : (lstAt H p).isSome = true) : tyV K "list" (.ref p) H = True := by
  cases e : lstAt H p with
  | none => rw [e] at h; cases h
  | some ys => exact eq_true (.inl ⟨rfl, ys, SqL.of (lst_of e)⟩)
def kApp (l : Addr) (y : V) (H : Hp) (Q : VK) : List V → Prop := fun xs => xs.length < sizeLine ∧ Q .non (upd H l (.lst (xs ++ [y])))
theorem m_kApp (l : Addr) (y : V) (H : Hp) (Q : VK) (xs : List V) : kApp l y H Q xs = (xs.length < sizeLine ∧ Q .non (upd H l (.lst (xs ++ [y])))) := rfl
theorem m_rAppend (l : Addr) (y : V) (H : Hp) (Q : VK) : rAppend (.ref l) [y] H Q = optK (lstAt H l) (kApp l y H Q) := by
  refine propext ⟨fun h => ?_, fun h => ?_⟩
  · obtain ⟨_, xs, _, e1, e2, e3, a, b⟩ := h
    cases e1; cases e2
    have e : lstAt H l = some xs := by unfold lstAt; rw [e3]; rfl
    rw [e]; exact ⟨a, b⟩
  · obtain ⟨xs, e, a, b⟩ := optK_ex h
    exact ⟨l, xs, y, rfl, rfl, lst_of e, a, b⟩
def kCat2 (xs : List V) (H : Hp) (Q : VK) : List V → Prop := fun ys => xs.length + ys.length ≤ sizeLine ∧ ∀ p, H p = none → Q (.ref p) (upd H p (.lst (xs ++ ys)))
def kCat1 (b : Addr) (H : Hp) (Q : VK) : List V → Prop := fun xs => optK (lstAt H b) (kCat2 xs H Q)
theorem m_rCat (l b : Addr) (H : Hp) (Q : VK) : rCat (.ref l) (.ref b) H Q = optK (lstAt H l) (kCat1 b H Q) := by
  refine propext ⟨fun h => ?_, fun h => ?_⟩
  · obtain ⟨l', b', xs, zs, e1, e2, e3, e4, hz, hq⟩ := h
    cases e1; cases e2
    have e : lstAt H l = some xs := by unfold lstAt; rw [e3]; rfl
    have e' : lstAt H b = some zs := by unfold lstAt; rw [e4]; rfl
    rw [e]
    show optK (lstAt H b) _
    rw [e']; exact ⟨hz, hq⟩
  · obtain ⟨xs, e, q⟩ := optK_ex h
    obtain ⟨zs, e', a, q⟩ := optK_ex q
    exact ⟨l, b, xs, zs, rfl, rfl, lst_of e, lst_of e', a, q⟩
def kGT (n : Nat) (t : TGs) (σ : St) (H : Hp) (Q : St → Hp → Prop) : List V → Prop := fun xs => xs.length = n ∧ t xs σ H Q
theorem m_kGT (n : Nat) (t : TGs) (σ : St) (H : Hp) (Q : St → Hp → Prop) (xs : List V) : kGT n t σ H Q xs = (xs.length = n ∧ t xs σ H Q) := rfl
def qGT (n : Nat) (t : TGs) : TG := fun v σ H Q => match v with
  | .ref a => optK (tupAt H a) (kGT n t σ H Q)
  | _ => False
theorem m_qGT (n : Nat) (t : TGs) (a : Addr) (σ : St) (H : Hp) (Q : St → Hp → Prop) : qGT n t (.ref a) σ H Q = optK (tupAt H a) (kGT n t σ H Q) := rfl
theorem gTup_q {K : PySem.W.Frag} {n : Nat} {t : TGs} {v : V} {σ : St} {H : Hp} {Q : St → Hp → Prop} (h : qGT n t v σ H Q) : gTup K n t v σ H Q := by
  unfold qGT at h
  split at h
  · rename_i a
    obtain ⟨xs, e, hl, q⟩ := optK_ex h
    exact ⟨a, xs, rfl, SqT.of (tup_of e), hl, q⟩
  · exact h.elim
def kBody (tb : TS) (D : Ends) : St → Hp → Prop := fun σ H => tb D σ H
theorem m_kBody (tb : TS) (D : Ends) (σ : St) (H : Hp) : kBody tb D σ H = tb D σ H := rfl
def kFor (g : TG) (tb : TS) (D : Ends) (σ : St) (J : It) (H1 : Hp) : Prop := ∃ W : Nat → Nat → St → Hp → Prop, (∃ m, W 0 m σ H1) ∧ ∀ i m σ H, W i m σ H →
  (J.stop i H ∧ D.nx σ H) ∨ (J.go i H ∧ ∃ N : St → Hp → Prop, (∀ σ' H', N σ' H' → ∃ m', m' < m ∧ W (i + 1) m' σ' H') ∧ ∀ x H', J.yld i H x H' → g x σ H' fun σ2 H2 => tb { D with nx := N, ct := N, bk := D.nx } σ2 H2)
theorem m_tFor (wi : TI) (g : TG) (tb : TS) (D : Ends) (σ : St) (H : Hp) : tFor wi g tb D σ H = wi σ H (kFor g tb D σ) := rfl
def kR1 (R : It → Hp → Prop) : List V → Hp → Prop := fun vs H => ∃ j : Int, vs = [.int j] ∧ -(2 ^ 62) ≤ j ∧ j < 2 ^ 62 ∧ R (Itr 0 j.toNat) H
theorem m_kR1 (R : It → Hp → Prop) (j : Int) (H : Hp) : kR1 R [.int j] H = (-(2 ^ 62) ≤ j ∧ j < 2 ^ 62 ∧ R (Itr 0 j.toNat) H) := propext ⟨fun ⟨_, e, q⟩ => by cases e; exact q, fun q => ⟨j, rfl, q⟩⟩
theorem m_iRng1 (ta : TA) (σ : St) (H : Hp) (R : It → Hp → Prop) : iRng1 ta σ H R = ta σ H (kR1 R) := rfl
def kISq' (K : PySem.W.Frag) (a : Addr) (H : Hp) (R : It → Hp → Prop) : HO → Prop := fun o => match o with
  | .lst _ => R (Itl K a) H
  | .frz _ (.lst _) => R (Itl K a) H
  | .tup _ => R (Itt K a) H
  | _ => False
theorem m_kISq'_l (K : PySem.W.Frag) (a : Addr) (H : Hp) (R : It → Hp → Prop) (xs : List V) : kISq' K a H R (.lst xs) = R (Itl K a) H := rfl
def kISq (K : PySem.W.Frag) (R : It → Hp → Prop) : VK := fun x H => match x with
  | .ref a => optK (H a) (kISq' K a H R)
  | _ => False
theorem m_kISq (K : PySem.W.Frag) (R : It → Hp → Prop) (a : Addr) (H : Hp) : kISq K R (.ref a) H = optK (H a) (kISq' K a H R) := rfl
def iSeq (K : PySem.W.Frag) (tl : TE) : TI := fun σ H R => tl σ H (kISq K R)
theorem m_iSeq (K : PySem.W.Frag) (tl : TE) (σ : St) (H : Hp) (R : It → Hp → Prop) : iSeq K tl σ H R = tl σ H (kISq K R) := rfl
theorem pi_seq {tg l : Expr} {tl : TE} (hl : PE X l tl) : PI X tg l (iSeq X.K tl) := by
  intro pins s σ H R I h
  refine thn (hl pins s σ H _ I h) fun v s1 ⟨x, H1, I1, r1, q1⟩ => ?_
  unfold kISq at q1
  split at q1
  · rename_i a
    cases r1
    obtain ⟨o, e, q⟩ := optK_ex q1
    have fp : ∀ b ∈ [s1.heap.objs.size], FpOk X pins H1 b := fun b hb => by
      have e : b = s1.heap.objs.size := by simpa using hb
      subst e
      exact I1.fpOk (Nat.le_refl _) (I1.hok.fresh (Nat.le_refl _))
    have lst : ∀ xs, SqL X.K H1 a xs → R (Itl X.K a) H1 → wpAny (model X.prog X.w) X.A (pyIter (.ref a)) (PIE X pins σ tg R) X.xe s1 := fun xs hq q => by
      obtain ⟨its, rv, p, hz⟩ := I1.list hq
      refine wpAny_pyIter_list p.isList ?_
      exact ⟨s1.heap.objs.size, [s1.heap.objs.size], _, _, H1, rfl, I1.kept (t' := s1.toks) fun b o e => Heap.get?_push_of_some _ e, turn_list a _, ⟨_, Heap.get?_push_size _ rfl, rfl, rfl⟩, fp, q⟩
    unfold kISq' at q
    split at q
    · exact lst _ (SqL.of e) q
    · exact lst _ (.inl (.inr ⟨_, e⟩)) q
    · obtain ⟨its, rv, p, hz⟩ := I1.tuple (SqT.of e)
      refine wpAny_pyIter_tuple (show s1.heap.IsTuple a its.toArray from p) ?_
      exact ⟨s1.heap.objs.size, [s1.heap.objs.size], _, _, H1, rfl, I1.kept (t' := s1.toks) fun b o e => Heap.get?_push_of_some _ e, turn_tuple a _, ⟨_, Heap.get?_push_size _ rfl, rfl, rfl⟩, fp, q⟩
    · exact q.elim
  · exact q1.elim
theorem for_rng {lo : Int} {n : Nat} {g : TG} {tb : TS} {nx : St → Hp → Prop} {rt : VK} {bk ct : St → Hp → Prop} {σ : St} {H : Hp} (Pv : Nat → St → Hp → Prop) (h0 : Pv 0 σ H)
    (hs : ∀ i σ H, i < n → Pv i σ H → g (.int (lo + i)) σ H (kBody tb ⟨Pv (i + 1), rt, nx, Pv (i + 1)⟩)) (hd : ∀ σ H, Pv n σ H → nx σ H) : kFor g tb ⟨nx, rt, bk, ct⟩ σ (Itr lo n) H := for_range Pv h0 hs hd
theorem for_lst {K : PySem.W.Frag} {a : Addr} {xs : List V} {g : TG} {tb : TS} {nx : St → Hp → Prop} {rt : VK} {bk ct : St → Hp → Prop} {σ : St} {H : Hp} (Pv : Nat → St → Hp → Prop) (h0 : Pv 0 σ H) (hl : ∀ i σ H, i ≤ xs.length → Pv i σ H → H a = some (.lst xs))
    (hs : ∀ i x σ H, xs[i]? = some x → Pv i σ H → g x σ H (kBody tb ⟨Pv (i + 1), rt, nx, Pv (i + 1)⟩)) (hd : ∀ σ H, Pv xs.length σ H → nx σ H) : kFor g tb ⟨nx, rt, bk, ct⟩ σ (Itl K a) H := for_list (xs := xs) Pv h0 (fun i σ H hi p => SqL.of (hl i σ H hi p)) hs hd
end
end L2
set_option Elab.async false
set_option linter.all false
set_option maxRecDepth 100000
set_option maxHeartbeats 4000000
namespace L2
open PySem PySem.Spec PyProof.Rows
def kTry (th : Value → Option Addr → TS) (D : Ends) : St → XK := fun σ cls d H => th cls d D σ H
theorem m_kTry (th : Value → Option Addr → TS) (D : Ends) (σ : St) (cls : Value) (d : Option Addr) (H : Hp) : kTry th D σ cls d H = th cls d D σ H := rfl
theorem m_tTry (tb : (St → XK) → TS) (th : Value → Option Addr → TS) (D : Ends) (σ : St) (H : Hp) : tTry tb th D σ H = tb (kTry th D) D σ H := rfl
def kRaise (C : Addr) (E : XK) : List V → Hp → Prop := fun vs H => vs.length ≤ sizeLine ∧ E (.ref C) none H
theorem m_kRaise (C : Addr) (E : XK) (vs : List V) (H : Hp) : kRaise C E vs H = (vs.length ≤ sizeLine ∧ E (.ref C) none H) := rfl
theorem m_tRaise (C : Addr) (E : St → XK) (t : TA) (D : Ends) (σ : St) (H : Hp) : tRaise C E t D σ H = t σ H (kRaise C (E σ)) := rfl
def kSetE (i : Nat) (tb : TS) (D : Ends) : St → Hp → Prop := fun σ H => tb D σ H
theorem m_kSetE (i : Nat) (tb : TS) (D : Ends) (σ : St) (H : Hp) : kSetE i tb D σ H = tb D σ H := rfl
def kExcAs (i : Nat) (tb : TS) (tr : Value → Option Addr → TS) (cls : Value) (d : Option Addr) (D : Ends) (σ : St) (H : Hp) : Bool → Prop := fun b => if b = true then ∀ (e : Addr) (oe : Obj), H e = none → oe.cls = cls → oe.dict = d → (∃ vs, oe.data = .fields vs) → gName i (.ref e) σ (upd H e (excO oe)) (kSetE i tb (D.del i)) else tr cls d D σ H
theorem m_kExcAs (i : Nat) (tb : TS) (tr : Value → Option Addr → TS) (cls : Value) (d : Option Addr) (D : Ends) (σ : St) (H : Hp) (b : Bool) : kExcAs i tb tr cls d D σ H b = (if b = true then ∀ (e : Addr) (oe : Obj), H e = none → oe.cls = cls → oe.dict = d → (∃ vs, oe.data = .fields vs) → gName i (.ref e) σ (upd H e (excO oe)) (kSetE i tb (D.del i)) else tr cls d D σ H) := rfl
theorem m_tExcAs (K : PySem.W.Frag) (C : Value) (i : Nat) (tb : TS) (tr : Value → Option Addr → TS) (cls : Value) (d : Option Addr) (D : Ends) (σ : St) (H : Hp) : tExcAs K C i tb tr cls d D σ H = optK (PySem.W.exmOne K cls C) (kExcAs i tb tr cls d D σ H) := by
  refine propext ⟨fun ⟨b, e, h⟩ => ?_, fun h => ?_⟩
  · rw [e]; exact h
  · obtain ⟨b, e, h⟩ := optK_ex h
    exact ⟨b, e, h⟩
theorem m_del (i : Nat) (nx : St → Hp → Prop) (rt : VK) (bk ct : St → Hp → Prop) : Ends.del i ⟨nx, rt, bk, ct⟩ = ⟨kDel i nx, rt, kDel i bk, kDel i ct⟩ := rfl
theorem m_kDel (i : Nat) (nx : St → Hp → Prop) (σ : St) (H : Hp) : kDel i nx σ H = gDel i σ H nx := rfl
theorem m_gDel_4 {a0 a1 a2 a3 : Option V} {a : Option V} {σ : St} {H : Hp} {Q : St → Hp → Prop} : gDel 4 (a0 :: a1 :: a2 :: a3 :: a :: σ) H Q = Q (a0 :: a1 :: a2 :: a3 :: none :: σ) H := rfl
theorem m_dictO_none (H : Hp) : dictO H none = True := rfl
def refC : Value → Option Addr
  | .ref C => some C
  | _ => none
theorem refC_ref (C : Addr) : refC (.ref C) = some C := rfl
def clsV : V → Option Value
  | .ref C => some (.ref C)
  | .ty n => some (.type n)
  | _ => none
theorem clsV_ref (C : Addr) : clsV (.ref C) = some (.ref C) := rfl
theorem clsV_ty (n : String) : clsV (.ty n) = some (.type n) := rfl
def kE4 (H : Hp) (Q : VK) : Bool → Prop := fun b => Q (.bl b) H
theorem m_kE4 (H : Hp) (Q : VK) (b : Bool) : kE4 H Q b = Q (.bl b) H := rfl
def kE3 (K : PySem.W.Frag) (C : Addr) (H : Hp) (Q : VK) : Value → Prop := fun u => optK (PySem.W.kitOne K (.ref C) u) (kE4 H Q)
theorem m_kE3 (K : PySem.W.Frag) (C : Addr) (H : Hp) (Q : VK) (u : Value) : kE3 K C H Q u = optK (PySem.W.kitOne K (.ref C) u) (kE4 H Q) := rfl
def kE2 (K : PySem.W.Frag) (oe : Obj) (D : V) (H : Hp) (Q : VK) : Addr → Prop := fun C => dictO H oe.dict ∧ (∃ vs, oe.data = .fields vs) ∧ ECls K C ∧ optK (clsV D) (kE3 K C H Q)
theorem m_kE2 (K : PySem.W.Frag) (oe : Obj) (D : V) (H : Hp) (Q : VK) (C : Addr) : kE2 K oe D H Q C = (dictO H oe.dict ∧ (∃ vs, oe.data = .fields vs) ∧ ECls K C ∧ optK (clsV D) (kE3 K C H Q)) := rfl
def kE1 (K : PySem.W.Frag) (D : V) (H : Hp) (Q : VK) : HO → Prop := fun o => match o with
  | .frz oe (.ext _) => optK (refC oe.cls) (kE2 K oe D H Q)
  | _ => False
theorem m_kE1 (K : PySem.W.Frag) (D : V) (H : Hp) (Q : VK) (oe : Obj) : kE1 K D H Q (excO oe) = optK (refC oe.cls) (kE2 K oe D H Q) := rfl
def qIsE (K : PySem.W.Frag) (xs : List V) (H : Hp) (Q : VK) : Prop := match xs with
  | [.ref e, D] => optK (H e) (kE1 K D H Q)
  | _ => False
theorem m_qIsE (K : PySem.W.Frag) (e : Addr) (D : V) (H : Hp) (Q : VK) : qIsE K [.ref e, D] H Q = optK (H e) (kE1 K D H Q) := rfl
theorem call_qIsE {X : Cx} : CallR X (.builtin "isinstance") (qIsE X.K) := by
  refine call_isiE.mono fun xs H Q h => ?_
  unfold qIsE at h
  split at h
  · rename_i e D
    obtain ⟨o, h1, h⟩ := optK_ex h
    unfold kE1 at h
    split at h
    · rename_i oe φ
      obtain ⟨C, h2, h⟩ := optK_ex h
      obtain ⟨h3, h4, h5, h⟩ := h
      obtain ⟨u, h6, h⟩ := optK_ex h
      obtain ⟨b, h7, h⟩ := optK_ex h
      have hc : oe.cls = .ref C := by
        cases q : oe.cls with
        | ref C' => rw [q] at h2; cases h2; rfl
        | _ => rw [q] at h2; cases h2
      refine ⟨e, oe, C, D, b, rfl, ⟨_, h1⟩, hc, h3, h4, h5, ⟨u, ?_, h7⟩, h⟩
      cases D with
      | ref a => cases h6; rfl
      | ty n => cases h6; rfl
      | _ => cases h6
    · exact h.elim
  · exact h.elim
def kC3 (D : Addr) (ys : List V) (N : List V → Hp → Prop) : VK := fun y H => H D = some (.lst ys) ∧ ys.length < sizeLine ∧ N (ys ++ [y]) (upd H D (.lst (ys ++ [y])))
def kC2 (te : TE) (σ2 : St) (D : Addr) (ys : List V) (N : List V → Hp → Prop) : Bool → Hp → Prop := fun b H => if b = true then te σ2 H (kC3 D ys N) else N ys H
def kC1 (k : Nat) (tt : TT) (te : TE) (σ : St) (D : Addr) (ys : List V) (N : List V → Hp → Prop) : St → Hp → Prop := fun σ2 H => (∃ vs : St, vs.length = k ∧ σ2 = vs ++ σ) ∧ tt σ2 H (kC2 te σ2 D ys N)
theorem m_tYes (σ : St) (H : Hp) (Q : Bool → Hp → Prop) : tYes σ H Q = Q true H := rfl
def kComp (k : Nat) (g : TG) (tt : TT) (te : TE) (σ : St) (Q : VK) : It → Hp → Prop := fun J H1 => ∀ D, H1 D = none → ∃ W : Nat → Nat → List V → Hp → Prop, (∃ m, W 0 m [] (upd H1 D (.lst []))) ∧ ∀ i m ys H, W i m ys H →
  (J.stop i H ∧ Q (.ref D) H) ∨ (J.go i H ∧ ∃ N : List V → Hp → Prop, (∀ ys' H', N ys' H' → ∃ m', m' < m ∧ W (i + 1) m' ys' H') ∧
    ∀ x H', J.yld i H x H' → g x (List.replicate k none ++ σ) H' (kC1 k tt te σ D ys N))
theorem m_tComp (k : Nat) (wi : TI) (g : TG) (tt : TT) (te : TE) (σ : St) (H : Hp) (Q : VK) : tComp k wi g tt te σ H Q = wi σ H (kComp k g tt te σ Q) := rfl
section
variable {k : Nat} {g : TG} {tt : TT} {te : TE} {σ : St} {Q : VK} {H : Hp} {K : PySem.W.Frag}
end
def allSome {α : Type} : List (Option α) → Option (List α)
  | [] => some []
  | o :: r => o.bind fun x => (allSome r).map fun xs => x :: xs
def datO (f : V → Option PyData) : HO → Option PyData
  | .lst xs => (allSome (xs.map f)).map .list
  | .tup xs => (allSome (xs.map f)).map .tuple
  | _ => none
def datF (H : Hp) (f : V → Option PyData) : V → Option PyData
  | .non => some .none
  | .bl b => some (.bool b)
  | .int i => some (.int i)
  | .str z => if PyData.strOk z = true then some (.str z) else none
  | .ref p => (H p).bind (datO f)
  | _ => none
def datV (H : Hp) : Nat → V → Option PyData
  | 0, _ => none
  | n + 1, x => datF H (datV H n) x
def noD : V → Option PyData := fun _ => none
theorem m_datV (H : Hp) (x : V) : datV H 6 x = datF H (datF H (datF H (datF H (datF H (datF H noD))))) x := rfl
theorem m_datV_str (H : Hp) (n : Nat) (z : Str) : datV H (n + 1) (.str z) = if PyData.strOk z = true then some (.str z) else none := rfl
theorem m_datV_ref (H : Hp) (n : Nat) (p : Addr) : datV H (n + 1) (.ref p) = (H p).bind (datO (datV H n)) := rfl
theorem m_datF_int (H : Hp) (f : V → Option PyData) (i : Int) : datF H f (.int i) = some (.int i) := rfl
theorem m_datF_ref (H : Hp) (f : V → Option PyData) (p : Addr) : datF H f (.ref p) = (H p).bind (datO f) := rfl
theorem m_datO_lst (f : V → Option PyData) (xs : List V) : datO f (.lst xs) = (allSome (xs.map f)).map .list := rfl
theorem m_datO_tup (f : V → Option PyData) (xs : List V) : datO f (.tup xs) = (allSome (xs.map f)).map .tuple := rfl
theorem m_allSome_nil {α : Type} : allSome ([] : List (Option α)) = some [] := rfl
theorem m_allSome_cons {α : Type} (x : α) (r : List (Option α)) : allSome (some x :: r) = (allSome r).map fun xs => x :: xs := rfl
theorem allSome_ints (H : Hp) (f : V → Option PyData) : ∀ ns : List Int, allSome ((ns.map V.int).map (datF H f)) = some (ns.map PyData.int)
  | [] => rfl
  | i :: r => by
    show (allSome ((r.map V.int).map (datF H f))).map _ = _
    rw [allSome_ints H f r]; rfl
theorem datVs_ok {K : PySem.W.Frag} {H : Hp} {n : Nat} (ih : ∀ x d, datV H n x = some d → DatV K H x d ∧ d.canLay0 = true ∧ d.depth ≤ n) : ∀ (xs : List V) (ds : List PyData), allSome (xs.map (datV H n)) = some ds → DatVs K H xs ds ∧ PyData.canLayAll0 ds = true ∧ PyData.depthAll ds ≤ n
  | [], ds, h => by cases h; exact ⟨.nil, rfl, Nat.zero_le _⟩
  | x :: xs, ds, h => by
    have h' : (datV H n x).bind (fun d => (allSome (xs.map (datV H n))).map fun ds => d :: ds) = some ds := h
    cases e : datV H n x with
    | none => rw [e] at h'; cases h'
    | some d =>
      rw [e] at h'
      have h2 : (allSome (xs.map (datV H n))).map (fun ds => d :: ds) = some ds := h'
      cases e2 : allSome (xs.map (datV H n)) with
      | none => rw [e2] at h2; cases h2
      | some es =>
        rw [e2] at h2
        cases h2
        obtain ⟨a, b, c⟩ := ih x d e
        obtain ⟨a', b', c'⟩ := datVs_ok ih xs es e2
        exact ⟨.cons a a', by simp [PyData.canLayAll0, b, b'], by simp only [PyData.depthAll]; omega⟩
theorem datV_ok {K : PySem.W.Frag} {H : Hp} : ∀ (n : Nat) (x : V) (d : PyData), datV H n x = some d → DatV K H x d ∧ d.canLay0 = true ∧ d.depth ≤ n
  | 0, x, d, h => by cases h
  | n + 1, x, d, h => by
    cases x with
    | non => cases h; exact ⟨.non, rfl, Nat.zero_le _⟩
    | bl b => cases h; exact ⟨.bl b, rfl, Nat.zero_le _⟩
    | int i => cases h; exact ⟨.int i, rfl, Nat.zero_le _⟩
    | str z =>
      rw [m_datV_str] at h
      split at h
      · rename_i hz; cases h; exact ⟨.str z, by simpa [PyData.canLay0] using hz, Nat.zero_le _⟩
      · cases h
    | ref p =>
      rw [m_datV_ref] at h
      cases e : H p with
      | none => rw [e] at h; cases h
      | some o =>
        rw [e] at h
        have h' : datO (datV H n) o = some d := h
        cases o with
        | lst xs =>
          rw [m_datO_lst] at h'
          cases e2 : allSome (xs.map (datV H n)) with
          | none => rw [e2] at h'; cases h'
          | some ds =>
            rw [e2] at h'; cases h'
            obtain ⟨a, b, c⟩ := datVs_ok (K := K) (datV_ok n) xs ds e2
            exact ⟨.lst (SqL.of e) a, by simpa [PyData.canLay0] using b, by simp only [PyData.depth]; omega⟩
        | tup xs =>
          rw [m_datO_tup] at h'
          cases e2 : allSome (xs.map (datV H n)) with
          | none => rw [e2] at h'; cases h'
          | some ds =>
            rw [e2] at h'; cases h'
            obtain ⟨a, b, c⟩ := datVs_ok (K := K) (datV_ok n) xs ds e2
            exact ⟨.tup (SqT.of e) a, by simpa [PyData.canLay0] using b, by simp only [PyData.depth]; omega⟩
        | _ => cases h'
    | _ => cases h
theorem datV_shaped {K : PySem.W.Frag} {H : Hp} {n : Nat} {x : V} {d : PyData} (hn : n ≤ 64) (h : datV H n x = some d) : DatV K H x d ∧ SeqAt.shaped d = true := by
  obtain ⟨a, b, c⟩ := datV_ok (K := K) n x d h
  refine ⟨a, ?_⟩
  unfold SeqAt.shaped
  rw [b, decide_eq_true (show d.depth ≤ 64 by omega)]
  rfl
def kEq2 (neg : Bool) (H : Hp) (Q : VK) (d : PyData) : PyData → Prop := fun e => Q (.bl (if neg = true then !PyData.eqv d e else PyData.eqv d e)) H
theorem m_kEq2_t (H : Hp) (Q : VK) (d e : PyData) : kEq2 true H Q d e = Q (.bl (!PyData.eqv d e)) H := rfl
theorem m_kEq2_f (H : Hp) (Q : VK) (d e : PyData) : kEq2 false H Q d e = Q (.bl (PyData.eqv d e)) H := rfl
def kEq1 (neg : Bool) (y : V) (H : Hp) (Q : VK) : PyData → Prop := fun d => optK (datV H 6 y) (kEq2 neg H Q d)
theorem m_kEq1 (neg : Bool) (y : V) (H : Hp) (Q : VK) (d : PyData) : kEq1 neg y H Q d = optK (datV H 6 y) (kEq2 neg H Q d) := rfl
def qEq (neg : Bool) : R2 := fun x y H Q => if scal x y = true then Q (.bl (if neg = true then !decide (x = y) else decide (x = y))) H else optK (datV H 6 x) (kEq1 neg y H Q)
theorem m_qEq_refr (neg : Bool) (p : Addr) (x : V) (H : Hp) (Q : VK) : qEq neg x (.ref p) H Q = optK (datV H 6 x) (kEq1 neg (.ref p) H Q) := by
  show (if scal x (.ref p) = true then _ else _) = _
  rw [if_neg (by cases x <;> exact Bool.false_ne_true)]
theorem m_qEq_int_int (i : Int) (j : Int) (H : Hp) (Q : VK) : qEq false (V.int i) (V.int j) H Q = Q (.bl (decide (i = j))) H := by
  have e : decide (((V.int i) : V) = (V.int j)) = decide (i = j) := by simp
  show Q (.bl (if false = true then !decide ((V.int i) = (V.int j)) else decide ((V.int i) = (V.int j)))) H = _
  rw [e]; rfl
theorem m_qNe_int_int (i : Int) (j : Int) (H : Hp) (Q : VK) : qEq true (V.int i) (V.int j) H Q = Q (.bl (!decide (i = j))) H := by
  have e : decide (((V.int i) : V) = (V.int j)) = decide (i = j) := by simp
  show Q (.bl (if true = true then !decide ((V.int i) = (V.int j)) else decide ((V.int i) = (V.int j)))) H = _
  rw [e]; rfl
theorem m_qEq_str_str (i : Str) (j : Str) (H : Hp) (Q : VK) : qEq false (V.str i) (V.str j) H Q = Q (.bl (decide (i = j))) H := by
  have e : decide (((V.str i) : V) = (V.str j)) = decide (i = j) := by simp
  show Q (.bl (if false = true then !decide ((V.str i) = (V.str j)) else decide ((V.str i) = (V.str j)))) H = _
  rw [e]; rfl
theorem m_qNe_str_str (i : Str) (j : Str) (H : Hp) (Q : VK) : qEq true (V.str i) (V.str j) H Q = Q (.bl (!decide (i = j))) H := by
  have e : decide (((V.str i) : V) = (V.str j)) = decide (i = j) := by simp
  show Q (.bl (if true = true then !decide ((V.str i) = (V.str j)) else decide ((V.str i) = (V.str j)))) H = _
  rw [e]; rfl
section
variable {X : Cx}
theorem op_qEq (hu : X.A.units + 64 < cLine) : OpR X (compareOp .Eq) (qEq false) := by
  refine (op_eq.or (op_eqD hu)).mono fun x y H Q h => ?_
  unfold qEq at h
  split at h
  · rename_i hs; exact .inl ⟨hs, h⟩
  obtain ⟨d, e1, h⟩ := optK_ex h
  obtain ⟨e, e2, h⟩ := optK_ex h
  obtain ⟨a, b⟩ := datV_shaped (K := X.K) (by decide) e1
  obtain ⟨a', b'⟩ := datV_shaped (K := X.K) (by decide) e2
  exact .inr ⟨d, e, a, a', b, b', h⟩
theorem op_qNe (hu : X.A.units + 64 < cLine) : OpR X (compareOp .NotEq) (qEq true) := by
  refine (op_ne.or (op_neD hu)).mono fun x y H Q h => ?_
  unfold qEq at h
  split at h
  · rename_i hs; exact .inl ⟨hs, h⟩
  obtain ⟨d, e1, h⟩ := optK_ex h
  obtain ⟨e, e2, h⟩ := optK_ex h
  obtain ⟨a, b⟩ := datV_shaped (K := X.K) (by decide) e1
  obtain ⟨a', b'⟩ := datV_shaped (K := X.K) (by decide) e2
  exact .inr ⟨d, e, a, a', b, b', h⟩
end
theorem eqv_int (i j : Int) : PyData.eqv (.int i) (.int j) = decide (i = j) := Bool.beq_eq_decide_eq i j
theorem eqv_tuple (xs ys : List PyData) : PyData.eqv (.tuple xs) (.tuple ys) = PyData.eqvAll xs ys := by simp only [PyData.eqv]
theorem eqv_list (xs ys : List PyData) : PyData.eqv (.list xs) (.list ys) = PyData.eqvAll xs ys := by simp only [PyData.eqv]
theorem eqvAll_nil : PyData.eqvAll [] [] = true := by simp only [PyData.eqvAll]
theorem eqvAll_cons (x y : PyData) (xs ys : List PyData) : PyData.eqvAll (x :: xs) (y :: ys) = (PyData.eqv x y && PyData.eqvAll xs ys) := by simp only [PyData.eqvAll]
theorem eqvAll_l (x : PyData) (xs : List PyData) : PyData.eqvAll (x :: xs) [] = false := by simp only [PyData.eqvAll]
theorem eqvAll_r (x : PyData) (xs : List PyData) : PyData.eqvAll [] (x :: xs) = false := by simp only [PyData.eqvAll]
theorem eqvAll_ints : ∀ ns ms : List Int, PyData.eqvAll (ns.map PyData.int) (ms.map PyData.int) = decide (ns = ms)
  | [], [] => by rw [List.map_nil, eqvAll_nil]; rfl
  | [], _ :: _ => by rw [List.map_nil, List.map_cons, eqvAll_r]; rfl
  | _ :: _, [] => by rw [List.map_nil, List.map_cons, eqvAll_l]; rfl
  | i :: r, j :: t => by
    rw [List.map_cons, List.map_cons, eqvAll_cons, eqv_int, eqvAll_ints r t]
    by_cases h : i = j <;> by_cases h2 : r = t <;> simp [h, h2]
end L2
set_option Elab.async false
set_option linter.all false
set_option maxRecDepth 100000
set_option maxHeartbeats 4000000
namespace L2
open PySem PySem.Spec PyProof.Rows
theorem CDiv_eq (i j : Int) : CDiv i j = (0 < j ∧ j < 1073741824) := rfl
theorem CMul_l (i j : Int) (h : -18446744073709551616 < i) (h' : i < 18446744073709551616) : CMul i j = True := eq_true (.inl ⟨by omega, by omega⟩)
theorem CMul_r (i j : Int) (h : -18446744073709551616 < j) (h' : j < 18446744073709551616) : CMul i j = True := eq_true (.inr ⟨by omega, by omega⟩)
theorem CPow_10 (j : Int) : CPow 10 j = (0 ≤ j ∧ j ≤ 1000000) := propext ⟨fun h => ⟨h.1, h.2.1⟩, fun h => ⟨h.1, h.2, by decide⟩⟩
theorem lenLe (n : Nat) (h : n ≤ 1000) : (n ≤ sizeLine) = True := eq_true (Nat.le_of_lt (small1000 h))
theorem Ext.of {H H' : Hp} (h : ∀ a, (H a).isSome = true → H' a = H a) : Ext H H' := ⟨h, fun K a xs q => by
  have s : Same H H' := fun b o e => (h b (by rw [e]; rfl)).trans e
  exact s.seq q⟩
theorem Ext.same {H H' : Hp} (h : Ext H H') : Same H H' := fun b o e => (h.1 b (by rw [e]; rfl)).trans e
theorem Same.ext {H H' : Hp} (h : Same H H') : Ext H H' := Ext.of fun a q => by
  cases e : H a with
  | none => rw [e] at q; cases q
  | some o => exact h a o e
theorem Ext.refl (H : Hp) : Ext H H := (Same.refl H).ext
theorem Ext.trans {H H1 H2 : Hp} (a : Ext H H1) (b : Ext H1 H2) : Ext H H2 := (a.same.trans b.same).ext
theorem Ext.new {H : Hp} {p : Addr} {o : HO} (h : H p = none) : Ext H (upd H p o) := (same_upd h).ext
theorem Ext.put {H H1 : Hp} {p : Addr} {o : HO} (a : Ext H H1) (h : H p = none) : Ext H (upd H1 p o) := Same.ext fun b u e => by
  rw [upd_ne (ne_of_none e h)]; exact a.same b u e
theorem Ext.free {H H1 : Hp} {p : Addr} (a : Ext H H1) (h : H1 p = none) : H p = none := a.same.free h
theorem Ext.at {H H1 : Hp} {p : Addr} {o : HO} (a : Ext H H1) (h : H p = some o) : H1 p = some o := a.same _ _ h
theorem optK_at {xs : List V} {i : Int} {k : V → Prop} (h0 : 0 ≤ i) (h1 : i < xs.length) (h : ∀ v ∈ xs, k v) : optK (atI xs i) k := by
  obtain ⟨v, e, m⟩ := atI_lt xs i h0 h1
  rw [e]; exact h v m
theorem cx_K (CX : CXT) (P : Program) (w : World) (K : PySem.W.Frag) (mg : Str → Option Value) (base : Heap) (N : List Str) (qual : Str) (scope : Scope) (f : Addr) (cd : Value) (A : Around) (outer : List Env) (s : Shared) (H : Hp) (E : XK) : (cxOf CX P w K mg base N qual scope f cd A outer s H E).K = K := rfl
theorem call_qIsE' {X : Cx} {K : PySem.W.Frag} (h : X.K = K) : CallR X (.builtin "isinstance") (qIsE K) := h ▸ call_qIsE
theorem map_toNat_inj : ∀ {a b : List Char}, a.map Char.toNat = b.map Char.toNat → a = b
  | [], [], _ => rfl
  | [], _ :: _, h => by cases h
  | _ :: _, [], h => by cases h
  | x :: r, y :: q, h => by
    simp only [List.map_cons, List.cons.injEq] at h
    have e : x = y := by
      have z : x.val.toNat = y.val.toNat := h.1
      exact Char.ext (UInt32.toNat_inj.mp z)
    rw [e, map_toNat_inj h.2]
theorem ofString_inj (a b : String) : (Str.ofString a = Str.ofString b) = (a = b) := by
  refine propext ⟨fun h => ?_, fun h => by rw [h]⟩
  rw [Str.ofString_eq_toList, Str.ofString_eq_toList] at h
  have e : (a.toList.map Char.toNat).toArray = (b.toList.map Char.toNat).toArray := congrArg Str.cps h
  have e2 := map_toNat_inj (congrArg Array.toList e)
  exact String.ext e2
theorem cls_some {K : PySem.W.Frag} {C : Addr} (h : PySem.W.hasDictIn K C = true) : (PySem.W.clsIn K C).isSome = true := by
  obtain ⟨cd, hc, _⟩ := PySem.W.any_some h
  rw [hc]; rfl
theorem kit_yes {K : PySem.W.Frag} {A C : Addr} (h1 : PySem.W.hasDictIn K C = true) (h2 : PySem.W.typeIn K (.ref C) = some (.type "type")) (h3 : PySem.W.subIn K (.ref A) (.ref C) = some true) : PySem.W.kitOne K (.ref A) (.ref C) = some true := by
  unfold PySem.W.kitOne
  split
  · rfl
  · show (if _ then _ else _) = _
    rw [cls_some h1, h2, if_pos (by decide), h3]
theorem kit_no {K : PySem.W.Frag} {A C : Addr} (h0 : (A == C) = false) (h1 : PySem.W.hasDictIn K C = true) (h2 : PySem.W.typeIn K (.ref C) = some (.type "type")) (h3 : PySem.W.subIn K (.ref A) (.ref C) = some false) : PySem.W.kitOne K (.ref A) (.ref C) = some false := by
  unfold PySem.W.kitOne
  rw [if_neg (by intro z; have e : A = C := Value.ref.inj (beq_iff_eq.mp z); rw [e] at h0; simp at h0)]
  show (if _ then _ else _) = _
  rw [cls_some h1, h2, if_pos (by decide), h3]
theorem kit_ty {K : PySem.W.Frag} {A : Addr} {n : String} {b : Bool} (h1 : PySem.W.kitMeta n = true) (h3 : PySem.W.subIn K (.ref A) (.type n) = some b) : PySem.W.kitOne K (.ref A) (.type n) = some b := by
  unfold PySem.W.kitOne
  rw [if_neg (by intro z; have e := beq_iff_eq.mp z; cases e)]
  show (if _ then _ else _) = _
  rw [if_pos h1, h3]
def isW (H : Hp) : V → Option Bool
  | .int _ => some true
  | .bl _ => some false
  | .non => some false
  | .str _ => some false
  | .ref p => ((H p).bind tyO).map fun _ => false
  | _ => none
theorem isW_int' (H : Hp) (i : Int) : isW H (.int i) = some true := rfl
theorem isW_bl' (H : Hp) (i : Bool) : isW H (.bl i) = some false := rfl
theorem isW_non' (H : Hp) : isW H .non = some false := rfl
theorem isW_str' (H : Hp) (i : Str) : isW H (.str i) = some false := rfl
theorem isW_ref' (H : Hp) (p : Addr) : isW H (.ref p) = ((H p).bind tyO).map fun _ => false := rfl
theorem isW_obj {H : Hp} {p : Addr} {b : Bool} (h : isW H (.ref p) = some b) : b = false ∧ ∃ o, H p = some o ∧ (tyO o = some "list" ∨ tyO o = some "tuple" ∨ tyO o = some "dict") := by
  rw [isW_ref'] at h
  cases e : H p with
  | none => rw [e] at h; cases h
  | some o =>
    rw [e] at h
    have h' : (tyO o).map (fun _ => false) = some b := h
    cases e2 : tyO o with
    | none => rw [e2] at h'; cases h'
    | some t =>
      rw [e2] at h'; cases h'
      refine ⟨rfl, o, rfl, ?_⟩
      cases o with
      | lst xs => exact .inl rfl
      | tup xs => exact .inr (.inl rfl)
      | dK xs => exact .inr (.inr rfl)
      | dT xs => exact .inr (.inr rfl)
      | frz ob u => cases u with
        | lst xs => exact .inl rfl
        | _ => cases e2
      | _ => cases e2
end L2
set_option Elab.async false
set_option linter.all false
set_option maxRecDepth 100000
set_option maxHeartbeats 4000000
namespace L2
open PySem PySem.Spec PyProof.Rows
theorem optK_mono {α : Type} {o : Option α} {k k' : α → Prop} (m : ∀ x, k x → k' x) (h : optK o k) : optK o k' := by
  obtain ⟨x, e, q⟩ := optK_ex h
  rw [e]; exact m x q
theorem ints_inj : ∀ {ns ms : List Int}, ns.map V.int = ms.map V.int → ns = ms
  | [], [], _ => rfl
  | [], _ :: _, h => by cases h
  | _ :: _, [], h => by cases h
  | i :: r, j :: t, h => by
    simp only [List.map_cons, List.cons.injEq, V.int.injEq] at h
    rw [h.1, ints_inj h.2]
def kInts (F : List Int → Prop) : List V → Prop := fun xs => ∃ ns, xs = ns.map V.int ∧ F ns
theorem m_kInts (F : List Int → Prop) (ns : List Int) : kInts F (ns.map V.int) = F ns := propext ⟨fun ⟨ms, e, h⟩ => by rw [ints_inj e]; exact h, fun h => ⟨ns, rfl, h⟩⟩
theorem optK_ints {xs : List V} {i : Int} {k : V → Prop} (P : Int → Prop) (h0 : 0 ≤ i) (h1 : i < xs.length) (hx : ∀ v ∈ xs, ∃ j, v = .int j ∧ P j) (h : ∀ j, P j → k (.int j)) : optK (atI xs i) k := optK_at h0 h1 fun v hv => by
  obtain ⟨j, rfl, hj⟩ := hx v hv
  exact h j hj
def kSlN (lo hi : Option Int) (H : Hp) (Q : VK) : List V → Prop := fun xs => ∀ p, H p = none → Q (.ref p) (upd H p (.lst (cutV xs lo hi)))
def qSlL : V → Option Int → Option Int → Hp → VK → Prop := fun x lo hi H Q => match x with
  | .ref a => optK (lstAt H a) (kSlN lo hi H Q)
  | _ => False
theorem sl_q {X : Cx} : SlR X qSlL := sl_list.mono fun x lo hi H Q h => by
  unfold qSlL at h
  split at h
  · rename_i a
    obtain ⟨xs, e, q⟩ := optK_ex h
    exact ⟨a, xs, rfl, SqL.of (lst_of e), q⟩
  · exact h.elim
def kSl3 (r : V → Option Int → Option Int → Hp → VK → Prop) (x : V) (l : Option Int) (Q : VK) : Option Int → Hp → Prop := fun u H => r x l u H Q
theorem m_kSl3 (r : V → Option Int → Option Int → Hp → VK → Prop) (x : V) (l : Option Int) (Q : VK) (u : Option Int) (H : Hp) : kSl3 r x l Q u H = r x l u H Q := rfl
def kSl2 (r : V → Option Int → Option Int → Hp → VK → Prop) (th : TO) (σ : St) (x : V) (Q : VK) : Option Int → Hp → Prop := fun l H => th σ H (kSl3 r x l Q)
theorem m_kSl2 (r : V → Option Int → Option Int → Hp → VK → Prop) (th : TO) (σ : St) (x : V) (Q : VK) (l : Option Int) (H : Hp) : kSl2 r th σ x Q l H = th σ H (kSl3 r x l Q) := rfl
def kSl1 (r : V → Option Int → Option Int → Hp → VK → Prop) (tl th : TO) (σ : St) (Q : VK) : VK := fun x H => tl σ H (kSl2 r th σ x Q)
theorem m_kSl1 (r : V → Option Int → Option Int → Hp → VK → Prop) (tl th : TO) (σ : St) (Q : VK) (x : V) (H : Hp) : kSl1 r tl th σ Q x H = tl σ H (kSl2 r th σ x Q) := rfl
theorem m_tSl (r : V → Option Int → Option Int → Hp → VK → Prop) (te : TE) (tl th : TO) (σ : St) (H : Hp) (Q : VK) : tSl r te tl th σ H Q = te σ H (kSl1 r tl th σ Q) := rfl
theorem m_tNoPart (σ : St) (H : Hp) (Q : Option Int → Hp → Prop) : tNoPart σ H Q = Q none H := rfl
def kPart (Q : Option Int → Hp → Prop) : VK := fun x H => ∃ i, x = .int i ∧ Q (some i) H
theorem m_kPart (Q : Option Int → Hp → Prop) (i : Int) (H : Hp) : kPart Q (.int i) H = Q (some i) H := propext ⟨fun ⟨_, e, q⟩ => by cases e; exact q, fun q => ⟨i, rfl, q⟩⟩
theorem m_tPart (t : TE) (σ : St) (H : Hp) (Q : Option Int → Hp → Prop) : tPart t σ H Q = t σ H (kPart Q) := rfl
end L2
set_option Elab.async false
set_option linter.all false
set_option maxRecDepth 100000
set_option maxHeartbeats 4000000
namespace L2
open PySem PySem.Spec PyProof.Rows
def newK (o : HO) (H : Hp) (Q : VK) : Prop := ∀ (p : Addr) (H' : Hp), H p = none → Ext H H' → H' p = some o → Q (.ref p) H'
theorem newK.to {o : HO} {H : Hp} {Q : VK} (h : newK o H Q) : ∀ p, H p = none → Q (.ref p) (upd H p o) := fun p hp => h p _ hp (Ext.new hp) upd_same
def kQT (Q : VK) : List V → Hp → Prop := fun xs H => xs.length ≤ sizeLine ∧ newK (.tup xs) H Q
theorem m_kQT (Q : VK) (xs : List V) (H : Hp) : kQT Q xs H = (xs.length ≤ sizeLine ∧ newK (.tup xs) H Q) := rfl
def kQL (Q : VK) : List V → Hp → Prop := fun xs H => xs.length ≤ sizeLine ∧ newK (.lst xs) H Q
theorem m_kQL (Q : VK) (xs : List V) (H : Hp) : kQL Q xs H = (xs.length ≤ sizeLine ∧ newK (.lst xs) H Q) := rfl
def qTup (t : TA) : TE := fun σ H Q => t σ H (kQT Q)
theorem m_qTup (t : TA) (σ : St) (H : Hp) (Q : VK) : qTup t σ H Q = t σ H (kQT Q) := rfl
def qLst (t : TA) : TE := fun σ H Q => t σ H (kQL Q)
theorem m_qLst (t : TA) (σ : St) (H : Hp) (Q : VK) : qLst t σ H Q = t σ H (kQL Q) := rfl
section
variable {X : Cx} {es : List Expr} {t : TA} {pos : Pos}
theorem pe_qTup {x1} (h : PA X es t) : PE X (.Tuple es x1 pos) (qTup t) := by
  intro pins s σ H Q I hq
  refine wpAny_Tuple_spliced (thn (h pos pins s σ H _ I hq) fun us s1 ⟨xs, H1, I1, r, z, q⟩ => ⟨by rw [← r.length]; exact z, ?_⟩)
  have hf : H1 s1.heap.objs.size = none := I1.hok.fresh (Nat.le_refl _)
  refine ⟨.ref s1.heap.objs.size, upd H1 s1.heap.objs.size (.tup xs), I1.laid (t' := s1.toks) (fun b u e => Heap.get?_push_of_some _ e) (Nat.le_refl _) ?_, rfl, q.to _ hf⟩
  exact ⟨z, us, r, ⟨_, Heap.get?_push_size _ rfl, rfl, _, rfl⟩⟩
theorem pe_qLst (h : PA X es t) : PE X (.List es pos) (qLst t) := by
  intro pins s σ H Q I hq
  refine wpAny_List_spliced (thn (h pos pins s σ H _ I hq) fun us s1 ⟨xs, H1, I1, r, z, q⟩ => ⟨by rw [← r.length]; exact z, ?_⟩)
  have hf : H1 s1.heap.objs.size = none := I1.hok.fresh (Nat.le_refl _)
  refine ⟨.ref s1.heap.objs.size, upd H1 s1.heap.objs.size (.lst xs), I1.laid (t' := s1.toks) (fun b u e => Heap.get?_push_of_some _ e) (Nat.le_refl _) ?_, rfl, q.to _ hf⟩
  exact ⟨z, us, 0, r, Heap.get?_push_size _ rfl⟩
end
def kN (f : List V → HO) (H : Hp) (Q : VK) : List V → Prop := fun ys => newK (f ys) H Q
theorem m_kN (f : List V → HO) (H : Hp) (Q : VK) (ys : List V) : kN f H Q ys = newK (f ys) H Q := rfl
def nList (xs : List V) (H : Hp) (Q : VK) : Prop := match xs with
  | [.ref p] => optK (itemsAt H p) (kN .lst H Q)
  | _ => False
theorem m_nList (p : Addr) (H : Hp) (Q : VK) : nList [.ref p] H Q = optK (itemsAt H p) (kN .lst H Q) := rfl
theorem call_nList {X : Cx} : CallR X (.type "list") nList := call_qList.mono fun xs H Q h => by
  unfold nList at h
  split at h
  · exact optK_mono (fun _ q => q.to) h
  · exact h.elim
def kNT (p : Addr) (H : Hp) (Q : VK) : HO → Prop := fun o => match o with
  | .lst ys => newK (.tup ys) H Q
  | .tup _ => Q (.ref p) H
  | _ => False
theorem m_kNT_l (p : Addr) (H : Hp) (Q : VK) (ys : List V) : kNT p H Q (.lst ys) = newK (.tup ys) H Q := rfl
def nTuple (xs : List V) (H : Hp) (Q : VK) : Prop := match xs with
  | [.ref p] => optK (H p) (kNT p H Q)
  | _ => False
theorem m_nTuple (p : Addr) (H : Hp) (Q : VK) : nTuple [.ref p] H Q = optK (H p) (kNT p H Q) := rfl
theorem call_nTuple {X : Cx} : CallR X (.type "tuple") nTuple := call_qTuple.mono fun xs H Q h => by
  unfold nTuple at h
  split at h
  · refine optK_mono (fun o q => ?_) h
    unfold kNT at q
    unfold kTupO
    split at q
    · exact q.to
    · exact q
    · exact q.elim
  · exact h.elim
def kNC2 (xs : List V) (H : Hp) (Q : VK) : List V → Prop := fun ys => xs.length + ys.length ≤ sizeLine ∧ newK (.lst (xs ++ ys)) H Q
theorem m_kNC2 (xs : List V) (H : Hp) (Q : VK) (ys : List V) : kNC2 xs H Q ys = (xs.length + ys.length ≤ sizeLine ∧ newK (.lst (xs ++ ys)) H Q) := rfl
def kNC1 (b : Addr) (H : Hp) (Q : VK) : List V → Prop := fun xs => optK (lstAt H b) (kNC2 xs H Q)
theorem m_kNC1 (b : Addr) (H : Hp) (Q : VK) (xs : List V) : kNC1 b H Q xs = optK (lstAt H b) (kNC2 xs H Q) := rfl
def nCat : R2 := fun x y H Q => match x, y with
  | .ref l, .ref b => optK (lstAt H l) (kNC1 b H Q)
  | _, _ => False
theorem m_nCat (l b : Addr) (H : Hp) (Q : VK) : nCat (.ref l) (.ref b) H Q = optK (lstAt H l) (kNC1 b H Q) := rfl
theorem op_nCat {X : Cx} : OpR X (binaryOp .Add) nCat := op_cat.mono fun x y H Q h => by
  unfold nCat at h
  split at h
  · rw [m_rCat]
    exact optK_mono (fun _ q => optK_mono (fun _ q => ⟨q.1, q.2.to⟩) q) h
  · exact h.elim
def kNS (lo hi : Option Int) (H : Hp) (Q : VK) : List V → Prop := fun xs => newK (.lst (cutV xs lo hi)) H Q
theorem m_kNS (lo hi : Option Int) (H : Hp) (Q : VK) (xs : List V) : kNS lo hi H Q xs = newK (.lst (cutV xs lo hi)) H Q := rfl
def nSl : V → Option Int → Option Int → Hp → VK → Prop := fun x lo hi H Q => match x with
  | .ref a => optK (lstAt H a) (kNS lo hi H Q)
  | _ => False
theorem m_nSl (a : Addr) (lo hi : Option Int) (H : Hp) (Q : VK) : nSl (.ref a) lo hi H Q = optK (lstAt H a) (kNS lo hi H Q) := rfl
theorem sl_n {X : Cx} : SlR X nSl := sl_q.mono fun x lo hi H Q h => by
  unfold nSl at h
  split at h
  · exact optK_mono (fun _ q => q.to) h
  · exact h.elim
theorem PE.mono {X : Cx} {e : Expr} {t t' : TE} (h : PE X e t) (m : ∀ σ H Q, t' σ H Q → t σ H Q) : PE X e t' := fun pins s σ H Q I q => h pins s σ H Q I (m _ _ _ q)
def nDNew : TE := fun _ H Q => newK (.dK []) H Q
theorem m_nDNew (σ : St) (H : Hp) (Q : VK) : nDNew σ H Q = newK (.dK []) H Q := rfl
theorem pe_nDNew {X : Cx} {pos : Pos} : PE X (.Dict [] [] pos) nDNew := pe_dnewK.mono fun _ _ _ h => h.to
end L2
set_option Elab.async false
set_option linter.all false
set_option maxRecDepth 100000
set_option maxHeartbeats 4000000
namespace L2
open PySem PySem.Spec PyProof.Rows
section
variable {prog : Program} {w : World} {A : Around} {E : Value → Shared → Prop} {s : Shared}
end
section
variable {X : Cx} {pos : Pos}
end
end L2
set_option Elab.async false
set_option linter.all false
set_option maxRecDepth 100000
set_option maxHeartbeats 4000000
namespace L2
open PySem PySem.Spec PyProof.Rows
section
variable {X : Cx} {tg : Expr}
end
end L2
set_option Elab.async false
set_option linter.all false
set_option maxRecDepth 100000
set_option maxHeartbeats 4000000
namespace L2
open PySem PySem.Spec PyProof.Rows
theorem preSum_ints : ∀ (n : Nat) (ns : List Int) (val : Nat → Int), (∀ i, val i = ns.getD i 0) → n ≤ ns.length → preSum val n = (ns.take n).sum
  | 0, ns, val, h, hl => by simp [preSum]
  | n + 1, ns, val, h, hl => by
    have ih := preSum_ints n ns val h (by omega)
    have e : ns.take (n + 1) = ns.take n ++ [ns.getD n 0] := by
      rw [List.take_succ, List.getElem?_eq_getElem (by omega)]
      simp [List.getD, List.getElem?_eq_getElem (show n < ns.length by omega)]
    rw [preSum, ih, e, List.sum_append, h]
    simp
def kSumI (H : Hp) (Q : VK) : List Int → Prop := fun ns => Q (.int ns.sum) H
theorem m_kSumI (H : Hp) (Q : VK) (ns : List Int) : kSumI H Q ns = Q (.int ns.sum) H := rfl
def qSum : List V → Hp → VK → Prop := fun vs H Q => match vs with
  | [.ref p] => optK (lstAt H p) (kInts (kSumI H Q))
  | _ => False
theorem m_qSum (p : Addr) (H : Hp) (Q : VK) : qSum [.ref p] H Q = optK (lstAt H p) (kInts (kSumI H Q)) := rfl
def kBls (F : List Bool → Prop) : List V → Prop := fun xs => ∃ bs, xs = bs.map V.bl ∧ F bs
theorem bls_inj : ∀ {ns ms : List Bool}, ns.map V.bl = ms.map V.bl → ns = ms
  | [], [], _ => rfl
  | [], _ :: _, h => by cases h
  | _ :: _, [], h => by cases h
  | i :: r, j :: t, h => by
    simp only [List.map_cons, List.cons.injEq, V.bl.injEq] at h
    rw [h.1, bls_inj h.2]
theorem m_kBls (F : List Bool → Prop) (bs : List Bool) : kBls F (bs.map V.bl) = F bs := propext ⟨fun ⟨ms, e, h⟩ => by rw [bls_inj e]; exact h, fun h => ⟨bs, rfl, h⟩⟩
def kAllB (H : Hp) (Q : VK) : List Bool → Prop := fun bs => Q (.bl (bs.all id)) H
theorem m_kAllB (H : Hp) (Q : VK) (bs : List Bool) : kAllB H Q bs = Q (.bl (bs.all id)) H := rfl
def qAll : List V → Hp → VK → Prop := fun vs H Q => match vs with
  | [.ref p] => optK (lstAt H p) (kBls (kAllB H Q))
  | _ => False
theorem m_qAll (p : Addr) (H : Hp) (Q : VK) : qAll [.ref p] H Q = optK (lstAt H p) (kBls (kAllB H Q)) := rfl
section
variable {X : Cx}
theorem call_qSum (hc : X.calm = true) : CallR X (.builtin "sum") qSum := by
  intro pins s σ H vs us Q I r h
  unfold qSum at h
  split at h
  · rename_i p
    obtain ⟨xs, e, ns, rfl, q⟩ := optK_ex h
    cases r with
    | cons r rr =>
      cases rr
      cases r
      obtain ⟨its, rv, pl, hz⟩ := I.list (SqL.of (lst_of e))
      have hlt : p < s.heap.objs.size := by obtain ⟨_, e, _⟩ := pl.isList; exact Heap.lt_size e
      have hlen : its.length = ns.length := by have := rv.length; simpa using this.symm
      refine call_sum_walkAnyS (wpAny_pyIter_list pl.isList ⟨s.heap.objs.size, _, _, _, _, _, _, fun i => ns.getD i 0, rfl, (Walks.list (show X.A.in1.handled = none from I.ok.hd hc) _ p (Nat.ne_of_lt hlt) its.toArray).toS, ⟨⟨_, Heap.get?_push_size _ rfl, rfl, rfl⟩, pl.isList.push _⟩, fun b hb => ?_, fun i v hP => ?_, fun s' t' hm => ?_⟩)
      · rw [Heap.size_push]
        rcases List.mem_cons.mp hb with rfl | hb
        · exact Nat.lt_succ_self _
        · rw [List.mem_singleton.mp hb]; exact Nat.lt_succ_of_lt hlt
      · have hv : its[i]? = some v := by simpa using hP
        have hi : i < ns.length := by rw [← hlen]; exact (List.getElem?_eq_some_iff.mp hv).1
        obtain ⟨u, hu, ru⟩ := rv.get (i := i) (x := .int (ns.getD i 0)) (by rw [List.getElem?_map, List.getElem?_eq_getElem hi]; simp [List.getD, List.getElem?_eq_getElem hi])
        rw [hv] at hu
        cases hu
        exact ru
      · obtain ⟨hp, g, d, tk, os⟩ := s'
        have kp : ∀ b o, s.heap.get? b = some o → hp.get? b = some o := fun b o e => hm.heap b o (fun hmem => by
          have : b = s.heap.objs.size := by simpa using hmem
          subst this
          exact absurd (Heap.lt_size e) (Nat.lt_irrefl _)) (Heap.get?_push_of_some _ e)
        have e1 : g = s.gens := hm.gens
        have e2 : d = s.drawn := hm.drawn
        have e3 : os = s.os := hm.os
        subst e1 e2 e3
        refine ⟨.int ns.sum, H, I.kept (t' := tk) kp, ?_, q⟩
        have es := preSum_ints its.toArray.size ns (fun i => ns.getD i 0) (fun _ => rfl) (by simp [hlen])
        rw [show its.toArray.size = ns.length by simp [hlen], List.take_length] at es
        rw [show its.toArray.size = ns.length by simp [hlen], es]
        exact ⟨t', rfl⟩
  · exact h.elim
theorem all_range (bs : List Bool) : (List.range bs.length).all (fun i => bs.getD i false) = bs.all id := by
  rw [Bool.eq_iff_iff, List.all_eq_true, List.all_eq_true]
  refine ⟨fun h x hx => ?_, fun h i hi => ?_⟩
  · obtain ⟨i, hi, e⟩ := List.getElem_of_mem hx
    have := h i (List.mem_range.mpr hi)
    simpa [List.getD, List.getElem?_eq_getElem hi, e] using this
  · have hi' := List.mem_range.mp hi
    have := h (bs[i]) (List.getElem_mem hi')
    simpa [List.getD, List.getElem?_eq_getElem hi'] using this
theorem call_qAll (hc : X.calm = true) : CallR X (.builtin "all") qAll := by
  intro pins s σ H vs us Q I r h
  unfold qAll at h
  split at h
  · rename_i p
    obtain ⟨xs, e, bs, rfl, q⟩ := optK_ex h
    cases r with
    | cons r rr =>
      cases rr
      cases r
      obtain ⟨its, rv, pl, hz⟩ := I.list (SqL.of (lst_of e))
      have hlt : p < s.heap.objs.size := by obtain ⟨_, e, _⟩ := pl.isList; exact Heap.lt_size e
      have hlen : its.length = bs.length := by have := rv.length; simpa using this.symm
      refine call_all_walk (wpAny_pyIter_list pl.isList ⟨s.heap.objs.size, _, _, _, _, _, fun i => bs.getD i false, rfl, Walks.list (show X.A.in1.handled = none from I.ok.hd hc) _ p (Nat.ne_of_lt hlt) its.toArray, ⟨⟨_, Heap.get?_push_size _ rfl, rfl, rfl⟩, pl.isList.push _⟩, fun i v s' Q' E' hP hQ => ?_, fun h' tk hk => ?_⟩)
      · have hv : its[i]? = some v := by simpa using hP
        have hi : i < bs.length := by rw [← hlen]; exact (List.getElem?_eq_some_iff.mp hv).1
        obtain ⟨u, hu, ru⟩ := rv.get (i := i) (x := .bl (bs.getD i false)) (by rw [List.getElem?_map, List.getElem?_eq_getElem hi]; simp [List.getD, List.getElem?_eq_getElem hi])
        rw [hv] at hu
        cases hu
        have e2 : v = .bool (bs.getD i false) := ru
        subst e2
        exact wpAny_truthy_bool hQ
      · have kp : ∀ b o, s.heap.get? b = some o → h'.get? b = some o := fun b o e => hk b o (fun hmem => by
          have : b = s.heap.objs.size := by simpa using hmem
          subst this
          exact absurd (Heap.lt_size e) (Nat.lt_irrefl _)) (Heap.get?_push_of_some _ e)
        refine ⟨.bl (bs.all id), H, I.kept (t' := tk) kp, ?_, q⟩
        rw [show its.toArray.size = bs.length by simp [hlen], all_range]
        exact rfl
  · exact h.elim
end
end L2
set_option Elab.async false
set_option linter.all false
set_option maxRecDepth 100000
set_option maxHeartbeats 4000000
namespace L2
open PySem PySem.Spec PyProof.Rows
structure Src (prog : Program) (w : World) (it : Addr) (fr : List Addr) (st : Nat → Heap → Prop) (val : Nat → Option Value) : Prop where
  mem : it ∈ fr
  there : ∀ k h, st k h → ∀ b ∈ fr, ∃ o, h.get? b = some o
  keep : ∀ k h h', st k h → (∀ b ∈ fr, ∀ o, h.get? b = some o → h'.get? b = some o) → st k h'
  item : ∀ (A : Around) k s v (Q : Value → Shared → Prop) (E : Value → Shared → Prop), st k s.heap → val k = some v → (∀ h', st (k + 1) h' → Heap.SameBut it s.heap h' → Q v { s with heap := h' }) → wpAny (model prog w) A (Builtin.SmallTypes.nextOf (.ref it)) Q E s
  fin : ∀ (A : Around) k s (Q : Value → Shared → Prop) (E : Value → Shared → Prop), A.handled = none → st k s.heap → val k = none → (∀ h' e, Heap.ExtBut it s.heap h' → (∃ o, h'.get? e = some o ∧ o.cls = .type "StopIteration") → E (.ref e) { s with heap := h' }) → wpAny (model prog w) A (Builtin.SmallTypes.nextOf (.ref it)) Q E s
theorem src_list {prog : Program} {w : World} (it l : Addr) (hne : l ≠ it) (xs : Array Value) : Src prog w it [it, l] (fun k h => h.IsListIter it l k ∧ h.IsList l xs) (fun k => xs[k]?) where
  mem := List.mem_cons_self
  there := fun k h st b hb => by
    rcases List.mem_cons.mp hb with e | hb
    · obtain ⟨o, q, _⟩ := st.1; exact ⟨o, by rw [e]; exact q⟩
    · obtain ⟨o, q, _⟩ := st.2; exact ⟨o, by rw [List.mem_singleton.mp hb]; exact q⟩
  keep := fun k h h' st q => ⟨st.1.at fun o e => q it (by simp) o e, st.2.at fun o e => q l (by simp) o e⟩
  item := fun A k s v Q E st hv hQ => wpAny_nextOf_list_item st.1 st.2 hv fun h' a b => hQ h' ⟨a, st.2.extBut b.extBut hne⟩ b
  fin := fun A k s Q E hh st hv hE => wpAny_nextOf_list_end hh st.1 st.2 hv hE
section
variable {prog : Program} {w : World} {A : Around} {E : Value → Shared → Prop} {s : Shared}
theorem next_tup_item {j t : Addr} {k : Nat} {xs : Array Value} {v : Value} {Q : Value → Shared → Prop} (hj : s.heap.IsTupleIter j t k) (ht : s.heap.IsTuple t xs) (hv : xs[k]? = some v)
    (hQ : ∀ g, g.IsTupleIter j t (k + 1) → Heap.SameBut j s.heap g → Q v { s with heap := g }) : wpAny (model prog w) A (Builtin.SmallTypes.nextOf (.ref j)) Q E s := by
  obtain ⟨oj, h0, h1, h2⟩ := id hj
  obtain ⟨ot, g0, _, n, g1⟩ := ht
  unfold Builtin.SmallTypes.nextOf
  refine wpAny_bind (wpAny_callSpecial?_slot (name := Str.ofString "__next__") hj.typeIs F.slot_tuple_iterator_next (wpAny_call_entry F.slot_tuple_iterator_next hj.typeIs F.entry_tuple_iterator_next ?_ (F.args_tuple_iterator_next_1 _)))
  refine wpAny_bind (m := field (.ref j) 0) (wpAny_field h0 h2 (x := .ref t) rfl ?_)
  show wpAny _ _ (if (Value.ref t == Value.none) = true then _ else _) _ _ _
  rw [if_neg (show ¬ ((.ref t : Value) == .none) = true from Bool.false_ne_true)]
  refine wpAny_bind (m := field (.ref j) 1) (wpAny_field h0 h2 (x := .int k 0) rfl ?_)
  refine wpAny_bind (m := seqItems? (.ref t)) (wpAny_seqItems g0 g1 ?_)
  simp only [Int.toNat_natCast, hv]
  refine wpAny_bind (wpAny_setField h0 h2 (by simp) (wpAny_pure ⟨v, rfl, wpAny_pure (hQ _ ⟨_, Heap.get?_update_self _ h0 (Obj.isFreed_of_fields (Obj.data_mapFields h2 _)), (Obj.cls_mapFields ..).trans h1, ?_⟩ (Heap.SameBut.update ..))⟩))
  rw [Obj.data_mapFields h2]; simp [rawInt]
theorem next_tup_end {j t : Addr} {k : Nat} {xs : Array Value} {Q : Value → Shared → Prop} (hh : A.handled = none) (hj : s.heap.IsTupleIter j t k) (ht : s.heap.IsTuple t xs) (hv : xs[k]? = none)
    (hE : ∀ g e, Heap.ExtBut j s.heap g → (∃ o, g.get? e = some o ∧ o.cls = .type "StopIteration") → E (.ref e) { s with heap := g }) : wpAny (model prog w) A (Builtin.SmallTypes.nextOf (.ref j)) Q E s := by
  obtain ⟨oj, h0, h1, h2⟩ := id hj
  obtain ⟨ot, g0, _, n, g1⟩ := ht
  unfold Builtin.SmallTypes.nextOf
  refine wpAny_bind (wpAny_callSpecial?_slot (name := Str.ofString "__next__") hj.typeIs F.slot_tuple_iterator_next (wpAny_call_entry F.slot_tuple_iterator_next hj.typeIs F.entry_tuple_iterator_next ?_ (F.args_tuple_iterator_next_1 _)))
  refine wpAny_bind (m := field (.ref j) 0) (wpAny_field h0 h2 (x := .ref t) rfl ?_)
  show wpAny _ _ (if (Value.ref t == Value.none) = true then _ else _) _ _ _
  rw [if_neg (show ¬ ((.ref t : Value) == .none) = true from Bool.false_ne_true)]
  refine wpAny_bind (m := field (.ref j) 1) (wpAny_field h0 h2 (x := .int k 0) rfl ?_)
  refine wpAny_bind (m := seqItems? (.ref t)) (wpAny_seqItems g0 g1 ?_)
  simp only [Int.toNat_natCast, hv]
  refine wpAny_bind (wpAny_rule (wpAny_bind (wpAny_setField h0 h2 (by simp) (wpAny_bind (m := newExc (.type "StopIteration") []) ?_))))
  simp only [newExc, newTuple]
  refine wpAny_bind (wpAny_newObj_type (wpAny_bind (m := firstArgMember _ _) (wpAny_of_eq (a := Value.none) (by first | rfl | (simp only [firstArgMember]; rfl)) (wpAny_newObj_type ?_ (by size_fits)))) (by size_fits))
  simp only [raiseNew]
  refine wpAny_bind (wpAny_handled ?_); first | rw [show A.in1.handled = none from hh] | rw [hh]
  exact wpAny_bind (wpAny_pure (wpAny_throw (hE _ _ (((Heap.SameBut.update ..).extBut.push _).push _) ⟨_, Heap.get?_push_size _ rfl, rfl⟩)))
theorem src_tup (it l : Addr) (hne : l ≠ it) (xs : Array Value) : Src prog w it [it, l] (fun k h => h.IsTupleIter it l k ∧ h.IsTuple l xs) (fun k => xs[k]?) where
  mem := List.mem_cons_self
  there := fun k h st b hb => by
    rcases List.mem_cons.mp hb with e | hb
    · obtain ⟨o, q, _⟩ := st.1; exact ⟨o, by rw [e]; exact q⟩
    · obtain ⟨o, q, _⟩ := st.2; exact ⟨o, by rw [List.mem_singleton.mp hb]; exact q⟩
  keep := fun k h h' st q => ⟨st.1.at fun o e => q it (by simp) o e, st.2.at fun o e => q l (by simp) o e⟩
  item := fun A k s v Q E st hv hQ => next_tup_item st.1 st.2 hv fun h' a b => hQ h' ⟨a, st.2.extBut b.extBut hne⟩ b
  fin := fun A k s Q E hh st hv hE => next_tup_end hh st.1 st.2 hv hE
structure Apart2 (z TI TO i j : Addr) (f g : List Addr) : Prop where
  ti : TI ≠ z ∧ TI ≠ TO ∧ TI ≠ i ∧ TI ≠ j
  zt : z ≠ TO
  zf : z ∉ f
  zg : z ∉ g
  tf : TO ∉ f
  tg : TO ∉ g
  ig : i ∉ g
  jf : j ∉ f
variable {z TI TO i j : Addr} {f g : List Addr} {ti tj : Nat → Heap → Prop} {vi vj : Nat → Option Value} {k m : Nat} {x y a b : Value}
theorem ne_mem {p q : Addr} {l : List Addr} (hp : p ∈ l) (hq : q ∉ l) : p ≠ q := fun e => hq (e ▸ hp)
theorem Src.but {prog : Program} {w : World} {it : Addr} {fr : List Addr} {st : Nat → Heap → Prop} {val : Nat → Option Value} (S : Src prog w it fr st val) {k : Nat} {c : Addr} {h h' : Heap} (q : st k h) (e : Heap.ExtBut c h h') (hc : c ∉ fr) : st k h' :=
  S.keep k h h' q fun b hb o ho => e b o (ne_mem hb hc) ho
theorem zip2_item (S : Src prog w i f ti vi) (T : Src prog w j g tj vj) (D : Apart2 z TI TO i j f g) {Q : Value → Shared → Prop}
    (hz : IsZip s.heap z TI TO .none) (hTI : IsPair s.heap TI (.ref i) (.ref j)) (hTO : IsPair s.heap TO a b) (hi : ti k s.heap) (hj : tj m s.heap) (hx : vi k = some x) (hy : vj m = some y)
    (hQ : ∀ h', IsZip h' z TI TO (rawInt s.heap.objs.size) → IsPair h' TO x y → ti (k + 1) h' → tj (m + 1) h' → IsPair h' s.heap.objs.size x y → h'.objs.size = s.heap.objs.size + 1 → (∀ c o, c ∉ [z, TO, i, j] → s.heap.get? c = some o → h'.get? c = some o) → Q (.ref s.heap.objs.size) { s with heap := h' }) :
    wpAny (model prog w) A (Builtin.«zip.__next__» ⟨[.ref z], []⟩) (fun fin s' => ∃ v, fin = .done (.ret v) ∧ Q v s') E s := by
  have iz : i ≠ z := ne_mem S.mem D.zf
  have jz : j ≠ z := ne_mem T.mem D.zg
  have iTO : i ≠ TO := ne_mem S.mem D.tf
  have jTO : j ≠ TO := ne_mem T.mem D.tg
  have ij : i ≠ j := ne_mem S.mem D.jf
  refine wpAny_bind (m := field (.ref z) 2) (wpAny_field hz rfl (x := .bool false) rfl ?_)
  refine wpAny_bind (m := field (.ref z) 3) (wpAny_field hz rfl (x := .ref TI) rfl (wpAny_bind (wpAny_seqItems hTI rfl ?_)))
  refine wpAny_bind (m := Builtin.SmallTypes.ownedTupleIsFree (.ref z)) ?_
  unfold Builtin.SmallTypes.ownedTupleIsFree
  refine wpAny_bind (wpAny_field hz rfl (x := .none) rfl (wpAny_pure ?_)); simp only [if_true]
  refine wpAny_bind (wpAny_rule (wpAny_bind (wpAny_field hz rfl (x := .ref TO) rfl (wpAny_bind (wpAny_setField_rec hz (by simp) fun q1 z1 s1 => ?_)))))
  replace z1 : IsZip q1 z TI TO .ellipsis := z1
  refine wpAny_bind ?_; simp only [List.zipIdx_cons, List.zipIdx_nil, List.forIn_cons, List.forIn_nil]
  refine wpAny_bind (wpAny_bind (wpAny_onRaise (wpAny_bind (m := Builtin.SmallTypes.nextOf (.ref i)) (S.item _ k _ x _ _ (S.but hi s1.extBut D.zf) hx fun q2 i2 s2 => wpAny_pure ?_))))
  have o2 : IsPair q2 TO a b := s2.extBut _ _ iTO.symm (s1.extBut _ _ D.zt.symm hTO)
  refine wpAny_bind (wpAny_seqItems o2 rfl (wpAny_bind (wpAny_updateSeq_pair o2 fun q3 o3 s3 => wpAny_bind (wpAny_letGo (wpAny_pure ?_)))))
  replace o3 : IsPair q3 TO x b := o3
  have j3 : tj m q3 := T.but (T.but (T.but hj s1.extBut D.zg) s2.extBut D.ig) s3.extBut D.tg
  refine wpAny_bind (wpAny_bind (wpAny_onRaise (wpAny_bind (m := Builtin.SmallTypes.nextOf (.ref j)) (T.item _ m _ y _ _ j3 hy fun q4 j4 s4 => wpAny_pure ?_))))
  have o4 : IsPair q4 TO x b := s4.extBut _ _ jTO.symm o3
  refine wpAny_bind (wpAny_seqItems o4 rfl (wpAny_bind (wpAny_updateSeq_pair o4 fun q5 o5 s5 => wpAny_bind (wpAny_letGo (wpAny_pure (wpAny_pure ?_))))))
  replace o5 : IsPair q5 TO x y := o5
  refine wpAny_bind (wpAny_seqItems o5 rfl (wpAny_bind (wpAny_newTuple ?_)))
  have sz : q5.objs.size = s.heap.objs.size := by rw [s5.1, s4.1, s3.1, s2.1, s1.1]
  have z5 : IsZip q5 z TI TO .ellipsis := s5.extBut _ _ D.zt (s4.extBut _ _ jz.symm (s3.extBut _ _ D.zt (s2.extBut _ _ iz.symm z1)))
  have k5 : ∀ c o, c ∉ [z, TO, i, j] → s.heap.get? c = some o → q5.get? c = some o := fun c o hc e => by
    simp only [List.mem_cons, List.not_mem_nil, or_false, not_or] at hc
    exact s5.extBut _ _ hc.2.1 (s4.extBut _ _ hc.2.2.2 (s3.extBut _ _ hc.2.1 (s2.extBut _ _ hc.2.2.1 (s1.extBut _ _ hc.1 e))))
  have i5 : ti (k + 1) q5 := S.but (S.but (S.but i2 s3.extBut D.tf) s4.extBut D.jf) s5.extBut D.tf
  have j5 : tj (m + 1) q5 := T.but j4 s5.extBut D.tg
  have zlt : z < q5.objs.size := Heap.lt_size z5
  refine wpAny_bind (m := Builtin.SmallTypes.ownedTupleHandOut (.ref z) (.ref q5.objs.size)) ?_
  unfold Builtin.SmallTypes.ownedTupleHandOut
  have z6 : IsZip (q5.push { cls := .type "tuple", data := .seq #[x, y] }) z TI TO .ellipsis := Heap.get?_push_of_some _ z5
  refine wpAny_bind (wpAny_setField_rec z6 (by simp) fun q7 z7 s7 => ?_)
  replace z7 : IsZip q7 z TI TO (rawInt q5.objs.size) := z7
  refine wpAny_setField_rec z7 (by simp) fun q8 z8 s8 => ?_
  replace z8 : IsZip q8 z TI TO (rawInt q5.objs.size) := z8
  have up : ∀ c o, c ≠ z → q5.get? c = some o → q8.get? c = some o := fun c o hc e => s8.extBut _ _ hc (s7.extBut _ _ hc (Heap.get?_push_of_some _ e))
  have t8 : IsPair q8 q5.objs.size x y := s8.extBut _ _ (Nat.ne_of_gt zlt) (s7.extBut _ _ (Nat.ne_of_gt zlt) (Heap.get?_push_size _ rfl))
  have n8 : q8.objs.size = q5.objs.size + 1 := by rw [s8.1, s7.1, Heap.size_push]
  rw [sz] at z8 t8 n8
  refine wpAny_pure ⟨_, rfl, ?_⟩
  show Q (.ref q5.objs.size) _
  rw [sz]
  exact hQ q8 z8 (up _ _ D.zt.symm o5) (S.keep _ _ _ i5 fun c hc o e => up c o (ne_mem hc D.zf) e) (T.keep _ _ _ j5 fun c hc o e => up c o (ne_mem hc D.zg) e) t8 n8 fun c o hc e => up c o (fun q => hc (by simp [q])) (k5 c o hc e)
theorem zip2_end (hh : A.handled = none) (S : Src prog w i f ti vi) (T : Src prog w j g tj vj) (D : Apart2 z TI TO i j f g) {Q : Fin → Shared → Prop}
    (hz : IsZip s.heap z TI TO .none) (hTI : IsPair s.heap TI (.ref i) (.ref j)) (hTO : IsPair s.heap TO a b) (hi : ti k s.heap) (hj : tj m s.heap) (hxy : vi k = none ∨ vj m = none)
    (hE : ∀ h' e, (∀ c o, c ∉ [z, TO, i, j] → s.heap.get? c = some o → h'.get? c = some o) → (∃ o, h'.get? e = some o ∧ o.cls = .type "StopIteration") → E (.ref e) { s with heap := h' }) :
    wpAny (model prog w) A (Builtin.«zip.__next__» ⟨[.ref z], []⟩) Q E s := by
  have iz : i ≠ z := ne_mem S.mem D.zf
  have jz : j ≠ z := ne_mem T.mem D.zg
  have iTO : i ≠ TO := ne_mem S.mem D.tf
  have jTO : j ≠ TO := ne_mem T.mem D.tg
  refine wpAny_bind (m := field (.ref z) 2) (wpAny_field hz rfl (x := .bool false) rfl ?_)
  refine wpAny_bind (m := field (.ref z) 3) (wpAny_field hz rfl (x := .ref TI) rfl (wpAny_bind (wpAny_seqItems hTI rfl ?_)))
  refine wpAny_bind (m := Builtin.SmallTypes.ownedTupleIsFree (.ref z)) ?_
  unfold Builtin.SmallTypes.ownedTupleIsFree
  refine wpAny_bind (wpAny_field hz rfl (x := .none) rfl (wpAny_pure ?_)); simp only [if_true]
  refine wpAny_bind (wpAny_rule (wpAny_bind (wpAny_field hz rfl (x := .ref TO) rfl (wpAny_bind (wpAny_setField_rec hz (by simp) fun q1 z1 s1 => ?_)))))
  replace z1 : IsZip q1 z TI TO .ellipsis := z1
  refine wpAny_bind ?_; simp only [List.zipIdx_cons, List.zipIdx_nil, List.forIn_cons, List.forIn_nil]
  refine wpAny_bind (wpAny_bind (wpAny_onRaise (wpAny_bind (m := Builtin.SmallTypes.nextOf (.ref i)) ?_)))
  cases hx : vi k with
  | none =>
    refine S.fin _ k _ _ _ hh (S.but hi s1.extBut D.zf) hx fun q2 e s2 ⟨oe, he, hce⟩ => ?_
    have z2 : IsZip q2 z TI TO .ellipsis := s2 _ _ iz.symm z1
    have ez : e ≠ z := fun q => by subst q; rw [z2] at he; cases he; simp at hce
    refine wpAny_setField_rec z2 (by simp) fun q3 _ s3 => hE q3 e (fun c o hc q => ?_) ⟨oe, s3.extBut _ _ ez he, hce⟩
    simp only [List.mem_cons, List.not_mem_nil, or_false, not_or] at hc
    exact s3.extBut _ _ hc.1 (s2 _ _ hc.2.2.1 (s1.extBut _ _ hc.1 q))
  | some x =>
    have hy : vj m = none := hxy.resolve_left (by rw [hx]; exact Option.some_ne_none x)
    refine S.item _ k _ x _ _ (S.but hi s1.extBut D.zf) hx fun q2 i2 s2 => wpAny_pure ?_
    have o2 : IsPair q2 TO a b := s2.extBut _ _ iTO.symm (s1.extBut _ _ D.zt.symm hTO)
    refine wpAny_bind (wpAny_seqItems o2 rfl (wpAny_bind (wpAny_updateSeq_pair o2 fun q3 o3 s3 => wpAny_bind (wpAny_letGo (wpAny_pure ?_)))))
    have j3 : tj m q3 := T.but (T.but (T.but hj s1.extBut D.zg) s2.extBut D.ig) s3.extBut D.tg
    refine wpAny_bind (wpAny_bind (wpAny_onRaise (wpAny_bind (m := Builtin.SmallTypes.nextOf (.ref j)) (T.fin _ m _ _ _ hh j3 hy fun q4 e s4 ⟨oe, he, hce⟩ => ?_))))
    have z4 : IsZip q4 z TI TO .ellipsis := s4 _ _ jz.symm (s3.extBut _ _ D.zt (s2.extBut _ _ iz.symm z1))
    have ez : e ≠ z := fun q => by subst q; rw [z4] at he; cases he; simp at hce
    refine wpAny_setField_rec z4 (by simp) fun q5 _ s5 => hE q5 e (fun c o hc q => ?_) ⟨oe, s5.extBut _ _ ez he, hce⟩
    simp only [List.mem_cons, List.not_mem_nil, or_false, not_or] at hc
    exact s5.extBut _ _ hc.1 (s4 _ _ hc.2.2.2 (s3.extBut _ _ hc.2.1 (s2.extBut _ _ hc.2.2.1 (s1.extBut _ _ hc.1 q))))
theorem zip2_next_item (S : Src prog w i f ti vi) (T : Src prog w j g tj vj) (D : Apart2 z TI TO i j f g) {Q : Option Value → Shared → Prop}
    (hz : IsZip s.heap z TI TO .none) (hTI : IsPair s.heap TI (.ref i) (.ref j)) (hTO : IsPair s.heap TO a b) (hi : ti k s.heap) (hj : tj m s.heap) (hx : vi k = some x) (hy : vj m = some y)
    (hQ : ∀ h', IsZip h' z TI TO (rawInt s.heap.objs.size) → IsPair h' TO x y → ti (k + 1) h' → tj (m + 1) h' → IsPair h' s.heap.objs.size x y → h'.objs.size = s.heap.objs.size + 1 → (∀ c o, c ∉ [z, TO, i, j] → s.heap.get? c = some o → h'.get? c = some o) → Q (some (.ref s.heap.objs.size)) { s with heap := h' }) :
    wpAny (model prog w) A (pyNext (.ref z)) Q E s := by
  have ty : s.TypeIs (.ref z) "zip" := ⟨_, hz, rfl⟩
  unfold pyNext
  exact wpAny_bind (wpAny_attempt (wpAny_callSpecial?_slot (name := Str.ofString "__next__") ty F.slot_zip_next (wpAny_call_entry F.slot_zip_next ty F.entry_zip_next (zip2_item S T D hz hTI hTO hi hj hx hy fun h' c1 c2 c3 c4 c5 c6 c7 => wpAny_pure (hQ h' c1 c2 c3 c4 c5 c6 c7)) (F.args_zip_next_1 _))))
theorem zip2_next_end (hh : A.handled = none) (S : Src prog w i f ti vi) (T : Src prog w j g tj vj) (D : Apart2 z TI TO i j f g) {Q : Option Value → Shared → Prop}
    (hz : IsZip s.heap z TI TO .none) (hTI : IsPair s.heap TI (.ref i) (.ref j)) (hTO : IsPair s.heap TO a b) (hi : ti k s.heap) (hj : tj m s.heap) (hxy : vi k = none ∨ vj m = none)
    (hQ : ∀ h', (∀ c o, c ∉ [z, TO, i, j] → s.heap.get? c = some o → h'.get? c = some o) → Q none { s with heap := h' }) : wpAny (model prog w) A (pyNext (.ref z)) Q E s := by
  have ty : s.TypeIs (.ref z) "zip" := ⟨_, hz, rfl⟩
  unfold pyNext
  refine wpAny_bind (wpAny_attempt (wpAny_callSpecial?_slot (name := Str.ofString "__next__") ty F.slot_zip_next (wpAny_call_entry F.slot_zip_next ty F.entry_zip_next (zip2_end (show A.in1.handled = none from hh) S T D hz hTI hTO hi hj hxy fun h' e kp he => ?_) (F.args_zip_next_1 _))))
  obtain ⟨o, ho, hc⟩ := he
  exact wpAny_bind (wpAny_isInstance (T := "StopIteration") (b := true) ⟨o, ho, hc⟩ isSubtype_stop (wpAny_pure (hQ _ kp)))
end
end L2
set_option Elab.async false
set_option linter.all false
set_option maxRecDepth 100000
set_option maxHeartbeats 4000000
namespace L2
open PySem PySem.Spec PyProof.Rows
def SeqAt (h : Heap) (k : Bool) (l : Addr) (xs : Array Value) : Prop := match k with
  | true => h.IsTuple l xs
  | false => h.IsList l xs
def IterAt (h : Heap) (k : Bool) (it l : Addr) (n : Nat) : Prop := match k with
  | true => h.IsTupleIter it l n
  | false => h.IsListIter it l n
def itObj (k : Bool) (l : Addr) : Obj := match k with
  | true => { cls := .type "tuple_iterator", data := .fields #[.ref l, .int 0 0] }
  | false => { cls := .type "list_iterator", data := .fields #[.ref l, .int 0 0] }
theorem SeqAt.at {h h' : Heap} {k : Bool} {l : Addr} {xs : Array Value} (q : SeqAt h k l xs) (e : ∀ o, h.get? l = some o → h'.get? l = some o) : SeqAt h' k l xs := by
  cases k
  · exact Heap.IsList.at q e
  · exact Heap.IsTuple.at q e
theorem SeqAt.obj {h : Heap} {k : Bool} {l : Addr} {xs : Array Value} (q : SeqAt h k l xs) : ∃ o n, h.get? l = some o ∧ o.data = .seq xs n := by
  cases k
  · obtain ⟨o, e, _, n, d⟩ := (show h.IsList l xs from q); exact ⟨o, n, e, d⟩
  · obtain ⟨o, e, _, n, d⟩ := (show h.IsTuple l xs from q); exact ⟨o, n, e, d⟩
theorem IterAt.at {h h' : Heap} {k : Bool} {it l : Addr} {n : Nat} (q : IterAt h k it l n) (e : ∀ o, h.get? it = some o → h'.get? it = some o) : IterAt h' k it l n := by
  cases k
  · exact Heap.IsListIter.at q e
  · exact Heap.IsTupleIter.at q e
theorem IterAt.obj {h : Heap} {k : Bool} {it l : Addr} {n : Nat} (q : IterAt h k it l n) : ∃ o fs, h.get? it = some o ∧ o.data = .fields fs := by
  cases k
  · obtain ⟨o, e, _, d⟩ := (show h.IsListIter it l n from q); exact ⟨o, _, e, d⟩
  · obtain ⟨o, e, _, d⟩ := (show h.IsTupleIter it l n from q); exact ⟨o, _, e, d⟩
theorem src_sq {prog : Program} {w : World} (k : Bool) (it l : Addr) (hne : l ≠ it) (xs : Array Value) : Src prog w it [it, l] (fun n h => IterAt h k it l n ∧ SeqAt h k l xs) (fun n => xs[n]?) := by
  cases k
  · exact src_list it l hne xs
  · exact src_tup it l hne xs
section
variable {prog : Program} {w : World} {A : Around} {E : Value → Shared → Prop} {s : Shared}
theorem iter_sq {k : Bool} {l : Addr} {xs : Array Value} {Q : Value → Shared → Prop} (h : SeqAt s.heap k l xs) (hQ : Q (.ref s.heap.objs.size) { s with heap := s.heap.push (itObj k l) }) : wpAny (model prog w) A (pyIter (.ref l)) Q E s := by
  cases k
  · exact wpAny_pyIter_list h hQ
  · exact wpAny_pyIter_tuple h hQ
abbrev zq1 (ka : Bool) (a : Addr) (h : Heap) : Heap := h.push (itObj ka a)
abbrev zq2 (ka kb : Bool) (a b : Addr) (h : Heap) : Heap := (zq1 ka a h).push (itObj kb b)
abbrev zq3 (ka kb : Bool) (a b : Addr) (h : Heap) : Heap := (zq2 ka kb a b h).push { cls := .type "tuple", data := .seq #[.ref h.objs.size, .ref (zq1 ka a h).objs.size] }
abbrev zq4 (ka kb : Bool) (a b : Addr) (h : Heap) : Heap := (zq3 ka kb a b h).push { cls := .type "tuple", data := .seq #[.none, .none] }
abbrev zq5 (ka kb : Bool) (a b : Addr) (h : Heap) : Heap := (zq4 ka kb a b h).push { cls := .type "zip", data := .fields #[.none, .bool false, .bool false, .ref (zq2 ka kb a b h).objs.size, .ref (zq3 ka kb a b h).objs.size] }
theorem zip_meets (ka kb : Bool) (a b : Addr) (xs ys : Array Value) : Meets (Builtin.«zip.__new__» ⟨[.type "zip", .ref a, .ref b], []⟩) (fun _ R s => SeqAt s.heap ka a xs ∧ SeqAt s.heap kb b ys ∧ R (.ok (.ret (.ref (zq4 ka kb a b s.heap).objs.size))) { s with heap := zq5 ka kb a b s.heap }) :=
  .of_wp fun prog w A R s h => by
    obtain ⟨hp, g, d, tk, os⟩ := s; obtain ⟨h1, h2, h⟩ := h; have hsub := sub_zip
    have q1 : SeqAt (Shared.heap ⟨hp, g, d, tk, os⟩) ka a xs := h1
    have q2 : SeqAt (Shared.heap ⟨hp.push (itObj ka a), g, d, tk, os⟩) kb b ys := h2.at fun o e => Heap.get?_push_of_some _ e
    wp_walk using iter_sq q1, iter_sq q2
    exact ⟨_, rfl, h⟩
theorem call_zq {ka kb : Bool} {a b : Addr} {xs ys : Array Value} {Q : Value → Shared → Prop} (h1 : SeqAt s.heap ka a xs) (h2 : SeqAt s.heap kb b ys)
    (h : ∀ h' n, n = s.heap.objs.size → IsZip h' (n + 4) (n + 2) (n + 3) .none → IsPair h' (n + 2) (.ref n) (.ref (n + 1)) → IsPair h' (n + 3) .none .none → IterAt h' ka n a 0 → IterAt h' kb (n + 1) b 0 → h'.objs.size = n + 5 → (∀ c o, s.heap.get? c = some o → h'.get? c = some o) → Q (.ref (n + 4)) { s with heap := h' }) :
    wpAny (model prog w) A (call (.type "zip") [.ref a, .ref b]) Q E s := by
  refine callType_new F.called_zip (by decide) (F.typeCall_zip_2 _ _) (F.newCall_zip_2 _ _) (fun ob => F.args_object_init_3 ob _ _) F.entry_zip_new (zip_meets ka kb a b xs ys) ⟨h1, h2, ?_⟩
  have n1 : (zq1 ka a s.heap).objs.size = s.heap.objs.size + 1 := Heap.size_push ..
  have n2 : (zq2 ka kb a b s.heap).objs.size = s.heap.objs.size + 2 := by rw [Heap.size_push, n1]
  have n3 : (zq3 ka kb a b s.heap).objs.size = s.heap.objs.size + 3 := by rw [Heap.size_push, n2]
  have n4 : (zq4 ka kb a b s.heap).objs.size = s.heap.objs.size + 4 := by rw [Heap.size_push, n3]
  have n5 : (zq5 ka kb a b s.heap).objs.size = s.heap.objs.size + 5 := by rw [Heap.size_push, n4]
  have f1 : IterAt (zq1 ka a s.heap) ka s.heap.objs.size a 0 := by
    cases ka <;> exact ⟨_, Heap.get?_push_size _ rfl, rfl, rfl⟩
  have f2 : IterAt (zq2 ka kb a b s.heap) kb (zq1 ka a s.heap).objs.size b 0 := by
    cases kb <;> exact ⟨_, Heap.get?_push_size _ rfl, rfl, rfl⟩
  have u2 : ∀ c o, (zq2 ka kb a b s.heap).get? c = some o → (zq5 ka kb a b s.heap).get? c = some o := fun c o e => Heap.get?_push_of_some _ (Heap.get?_push_of_some _ (Heap.get?_push_of_some _ e))
  have g5 : (zq5 ka kb a b s.heap).get? (zq4 ka kb a b s.heap).objs.size = some _ := Heap.get?_push_size _ rfl
  have g4 : (zq5 ka kb a b s.heap).get? (zq3 ka kb a b s.heap).objs.size = some _ := Heap.get?_push_of_some _ (Heap.get?_push_size _ rfl)
  have g3 : (zq5 ka kb a b s.heap).get? (zq2 ka kb a b s.heap).objs.size = some _ := Heap.get?_push_of_some _ (Heap.get?_push_of_some _ (Heap.get?_push_size _ rfl))
  have e1 : IterAt (zq5 ka kb a b s.heap) ka s.heap.objs.size a 0 := f1.at fun o e => u2 _ o (Heap.get?_push_of_some _ e)
  have e2 : IterAt (zq5 ka kb a b s.heap) kb (zq1 ka a s.heap).objs.size b 0 := f2.at fun o e => u2 _ o e
  show _ ∧ _
  rw [n2, n3, n4] at g5
  rw [n1, n2] at g3
  rw [n3] at g4
  rw [n1] at e2
  rw [n4]
  exact ⟨⟨_, g5, rfl⟩, h _ _ rfl g5 g3 g4 e1 e2 n5 fun c o e => u2 c o (Heap.get?_push_of_some _ (Heap.get?_push_of_some _ e))⟩
end
section
variable {X : Cx} {pins : List (Addr × Obj)} {σ : List (Option V)} {H : Hp} {s : Shared} {h' : Heap}
end
def SqK (k : Bool) (H : Hp) (a : Addr) (xs : List V) : Prop := match k with
  | true => H a = some (.tup xs)
  | false => H a = some (.lst xs)
theorem Inv.sq {X : Cx} {pins : List (Addr × Obj)} {σ : St} {H : Hp} {s : Shared} {k : Bool} {a : Addr} {xs : List V} (I : Inv X pins σ H s) (h : SqK k H a xs) : ∃ its : List Value, Vals xs its ∧ SeqAt s.heap k a its.toArray := by
  cases k
  · obtain ⟨its, r, p, _⟩ := I.list (SqL.of h); exact ⟨its, r, p.isList⟩
  · obtain ⟨its, r, p, _⟩ := I.tuple (SqT.of h); exact ⟨its, r, p⟩
section
variable {X : Cx}
end
end L2
set_option Elab.async false
set_option linter.all false
set_option maxRecDepth 100000
set_option maxHeartbeats 4000000
namespace L2
open PySem PySem.Spec PyProof.Rows
def kCm2 (te : TE) (σ2 : St) (N1 : VK) (N0 : Hp → Prop) : Bool → Hp → Prop := fun b H => if b = true then te σ2 H N1 else N0 H
theorem m_kCm2 (te : TE) (σ2 : St) (N1 : VK) (N0 : Hp → Prop) (b : Bool) (H : Hp) : kCm2 te σ2 N1 N0 b H = (if b = true then te σ2 H N1 else N0 H) := rfl
def kCm (k : Nat) (tt : TT) (te : TE) (σ : St) (N1 : VK) (N0 : Hp → Prop) : St → Hp → Prop := fun σ2 H => (∃ vs : St, vs.length = k ∧ σ2 = vs ++ σ) ∧ tt σ2 H (kCm2 te σ2 N1 N0)
theorem m_kCm_1 (tt : TT) (te : TE) (σ : St) (N1 : VK) (N0 : Hp → Prop) (a : Option V) (H : Hp) : kCm 1 tt te σ N1 N0 (a :: σ) H = tt (a :: σ) H (kCm2 te (a :: σ) N1 N0) := propext ⟨fun h => h.2, fun h => ⟨⟨[a], rfl, rfl⟩, h⟩⟩
theorem m_kCm_2 (tt : TT) (te : TE) (σ : St) (N1 : VK) (N0 : Hp → Prop) (a b : Option V) (H : Hp) : kCm 2 tt te σ N1 N0 (a :: b :: σ) H = tt (a :: b :: σ) H (kCm2 te (a :: b :: σ) N1 N0) := propext ⟨fun h => h.2, fun h => ⟨⟨[a, b], rfl, rfl⟩, h⟩⟩
theorem m_rep_1 (σ : St) : List.replicate 1 (none : Option V) ++ σ = none :: σ := rfl
theorem m_rep_2 (σ : St) : List.replicate 2 (none : Option V) ++ σ = none :: none :: σ := rfl
def Al {α : Type} (R : α → V → Prop) (zs : List α) (ys : List V) : Prop := ys.length = zs.length ∧ ∀ (i : Nat) z y, zs[i]? = some z → ys[i]? = some y → R z y
theorem Al.nil {α : Type} {R : α → V → Prop} : Al R [] [] := ⟨rfl, fun i z y h => by simp at h⟩
theorem Al.snoc {α : Type} {R : α → V → Prop} {zs : List α} {ys : List V} {z : α} {y : V} (h : Al R zs ys) (r : R z y) : Al R (zs ++ [z]) (ys ++ [y]) := by
  refine ⟨by simp [h.1], fun i z' y' h1 h2 => ?_⟩
  by_cases hi : i < zs.length
  · rw [List.getElem?_append_left hi] at h1
    rw [List.getElem?_append_left (by rw [h.1]; exact hi)] at h2
    exact h.2 i z' y' h1 h2
  · rw [List.getElem?_append_right (by omega)] at h1
    rw [List.getElem?_append_right (by rw [h.1]; omega), h.1] at h2
    by_cases h0 : i - zs.length = 0
    · rw [h0] at h1 h2; simp at h1 h2; subst h1; subst h2; exact r
    · rw [List.getElem?_eq_none (by simp; omega)] at h1; cases h1
theorem Al.imp {α : Type} {R S : α → V → Prop} {zs : List α} {ys : List V} (h : Al R zs ys) (f : ∀ z y, R z y → S z y) : Al S zs ys := ⟨h.1, fun i z y a b => f z y (h.2 i z y a b)⟩
theorem Al.map {α : Type} {f : α → V} {zs : List α} {ys : List V} (h : Al (fun z y => y = f z) zs ys) : ys = zs.map f := by
  apply List.ext_getElem?
  intro i
  rw [List.getElem?_map]
  by_cases hi : i < zs.length
  · have e1 : zs[i]? = some zs[i] := List.getElem?_eq_getElem hi
    have e2 : ys[i]? = some (ys[i]'(by rw [h.1]; exact hi)) := List.getElem?_eq_getElem _
    rw [e1, e2, h.2 i _ _ e1 e2]; rfl
  · have := h.1; rw [List.getElem?_eq_none (show ys.length ≤ i by omega), List.getElem?_eq_none (show zs.length ≤ i by omega)]; rfl
section
variable {k : Nat} {g : TG} {tt : TT} {te : TE} {σ : St} {Q : VK} {H : Hp} {K : PySem.W.Frag}
theorem comp_rel {α : Type} {J : It} (zs : List α) (c : α → Bool) (P : α → V → Hp → Prop) (R : Addr → α → V → Hp → Prop)
    (hgo : ∀ i z H', zs[i]? = some z → Ext H H' → J.go i H' ∧ ∀ x H'', J.yld i H' x H'' → Ext H' H'' ∧ P z x H'')
    (hst : ∀ H', Ext H H' → J.stop zs.length H')
    (hR1 : ∀ D z y H1 H2, R D z y H1 → Ext H1 H2 → R D z y H2) (hR2 : ∀ D z y H1 o, R D z y H1 → R D z y (upd H1 D o))
    (hl : zs.length ≤ sizeLine)
    (hs : ∀ D z x H' N1 N0, z ∈ zs → H D = none → Ext H H' → (∃ ys, H' D = some (.lst ys)) → P z x H' → (c z = true → ∀ y H'', Ext H' H'' → R D z y H'' → N1 y H'') → (c z = false → ∀ H'', Ext H' H'' → N0 H'') → g x (List.replicate k none ++ σ) H' (kCm k tt te σ N1 N0))
    (hd : ∀ D ys H', H D = none → Ext H H' → H' D = some (.lst ys) → Al (fun z y => R D z y H') (zs.filter c) ys → Q (.ref D) H') : kComp k g tt te σ Q J H := by
  intro D hD
  refine ⟨fun i m ys H' => m = zs.length - i ∧ i ≤ zs.length ∧ Ext H H' ∧ H' D = some (.lst ys) ∧ Al (fun z y => R D z y H') ((zs.take i).filter c) ys, ⟨zs.length, by simp, Nat.zero_le _, Ext.new hD, upd_same, by simpa using Al.nil⟩, ?_⟩
  rintro i m ys H' ⟨rfl, hi, e, hD', al⟩
  by_cases hlt : i < zs.length
  · have hz : zs[i]? = some zs[i] := List.getElem?_eq_getElem hlt
    obtain ⟨go, y⟩ := hgo i zs[i] H' hz e
    have tk : zs.take (i + 1) = zs.take i ++ [zs[i]] := by rw [List.take_succ, hz]; rfl
    have ln : ys.length < sizeLine := by
      have h1 := al.1
      have h2 := List.length_filter_le c (zs.take i)
      simp only [List.length_take] at h2
      omega
    refine .inr ⟨go, fun ys' H2 => Ext H H2 ∧ H2 D = some (.lst ys') ∧ Al (fun z y => R D z y H2) ((zs.take (i + 1)).filter c) ys', fun ys' H2 p => ⟨zs.length - (i + 1), by omega, rfl, hlt, p⟩, fun x H2 z => ?_⟩
    obtain ⟨e2, p2⟩ := y x H2 z
    refine hs D zs[i] x H2 (kC3 D ys _) _ (List.getElem_mem hlt) hD (e.trans e2) ⟨ys, e2.at hD'⟩ p2 (fun hc y H3 e3 r3 => ?_) fun hc H3 e3 => ?_
    · refine ⟨e3.at (e2.at hD'), ln, (e.trans (e2.trans e3)).put hD, upd_same, ?_⟩
      rw [tk, List.filter_append, show [zs[i]].filter c = [zs[i]] by simp [hc]]
      exact Al.snoc (al.imp fun z y r => hR2 _ _ _ _ _ (hR1 _ _ _ _ _ r (e2.trans e3))) (hR2 _ _ _ _ _ r3)
    · refine ⟨e.trans (e2.trans e3), (e2.trans e3).at hD', ?_⟩
      rw [tk, List.filter_append, show [zs[i]].filter c = [] by simp [hc], List.append_nil]
      exact al.imp fun z y r => hR1 _ _ _ _ _ r (e2.trans e3)
  · have e' : i = zs.length := by omega
    subst e'
    rw [List.take_length] at al
    exact .inl ⟨hst H' e, hd D ys H' hD e hD' al⟩
theorem comp_fm {α : Type} {J : It} (zs : List α) (c : α → Bool) (f : α → V) (P : α → V → Hp → Prop)
    (hgo : ∀ i z H', zs[i]? = some z → Ext H H' → J.go i H' ∧ ∀ x H'', J.yld i H' x H'' → Ext H' H'' ∧ P z x H'')
    (hst : ∀ H', Ext H H' → J.stop zs.length H') (hl : zs.length ≤ sizeLine)
    (hs : ∀ D z x H' N1 N0, z ∈ zs → H D = none → Ext H H' → P z x H' → (c z = true → ∀ H'', Ext H' H'' → N1 (f z) H'') → (c z = false → ∀ H'', Ext H' H'' → N0 H'') → g x (List.replicate k none ++ σ) H' (kCm k tt te σ N1 N0))
    (hd : ∀ D H', H D = none → Ext H H' → H' D = some (.lst ((zs.filter c).map f)) → Q (.ref D) H') : kComp k g tt te σ Q J H :=
  comp_rel zs c P (fun _ z y _ => y = f z) hgo hst (fun _ _ _ _ _ r _ => r) (fun _ _ _ _ _ r => r) hl (fun D z x H' N1 N0 hz hD e _ p k1 k0 => hs D z x H' N1 N0 hz hD e p (fun hc H'' e' => k1 hc _ H'' e' rfl) k0) fun D ys H' hD e hD' al => hd D H' hD e (by rw [← al.map]; exact hD')
theorem wk_lst {a : Addr} {xs : List V} (h : H a = some (.lst xs)) : (∀ i z H', xs[i]? = some z → Ext H H' → (Itl K a).go i H' ∧ ∀ x H'', (Itl K a).yld i H' x H'' → Ext H' H'' ∧ (x = z ∧ H'' a = some (.lst xs))) ∧ ∀ H', Ext H H' → (Itl K a).stop xs.length H' :=
  ⟨fun i z H' hz e => ⟨⟨xs, z, SqL.of (e.at h), hz⟩, fun x H'' y => ⟨by rw [y.1]; exact Ext.refl _, Option.some.inj ((y.2 xs (SqL.of (e.at h))).symm.trans hz), by rw [y.1]; exact e.at h⟩⟩, fun H' e => ⟨xs, SqL.of (e.at h), Nat.le_refl _⟩⟩
def zipP (z : V × V) (x : V) (H : Hp) : Prop := ∃ p, x = .ref p ∧ H p = some (.tup [z.1, z.2])
end
def compB (sc : Scope) (N : List Str) (scope : Scope) (N' : List Str) (k : Nat) : Bool :=
  scope.names.all (fun y => !(y.2 == .cell)) && (scope.kind == .function) && scope.names.all (fun y => !(y.2 == .local) || scope.names.lookup y.1 == some .local) && scope.names.all (fun y => !(y.2 == .free) || sc.names.lookup y.1 == some .cell) && decide (N'.length = k + N.length) &&
    ((N'.drop k).zip N).all (fun p => (!(scope.names.lookup p.1 == some .free) || decide (p.1 = p.2)) && !(scope.names.lookup p.1 == some .local))
theorem comp_ok {X : Cx} {scope : Scope} {N' : List Str} {k : Nat} (sc : Scope) (N : List Str) (h1 : X.env.scope = sc) (h2 : X.N = N) (h : compB sc N scope N' k = true) : CompOk X scope N' k := by
  unfold compB at h
  simp only [Bool.and_eq_true, decide_eq_true_eq] at h
  obtain ⟨⟨⟨⟨⟨a1, a2⟩, a3⟩, a4⟩, a5⟩, a6⟩ := h
  rw [List.all_eq_true] at a1 a3 a4 a6
  have pr : ∀ i x, N'[k + i]? = some x → ∃ y, N[i]? = some y ∧ (x, y) ∈ (N'.drop k).zip N := fun i x hx => by
    have h0 := (List.getElem?_eq_some_iff.mp hx).1
    have hi : i < N.length := by omega
    have e1 : (N'.drop k)[i]? = some x := by rw [List.getElem?_drop]; exact hx
    have e2 : N[i]? = some N[i] := List.getElem?_eq_getElem hi
    refine ⟨_, e2, List.mem_of_getElem? (i := i) ?_⟩
    rw [List.getElem?_zip_eq_some]
    exact ⟨e1, e2⟩
  refine ⟨fun y hy e => ?_, by simpa using a2, fun y hy e => ?_, fun y hy e => ?_, by rw [h2]; exact a5, fun i x hx hf => ?_, fun i x hx hf => ?_⟩
  · have := a1 y hy; rw [e] at this; simp at this
  · have := a3 y hy; rw [e] at this; simpa using this
  · have := a4 y hy; rw [e] at this; rw [h1]; simpa using this
  · obtain ⟨y, hy, hm⟩ := pr i x hx
    have := a6 _ hm
    simp only [hf] at this
    rw [h2, hy]
    simp at this
    rw [this]
  · obtain ⟨y, hy, hm⟩ := pr i x hx
    have := a6 _ hm
    simp [hf] at this
end L2
set_option Elab.async false
set_option linter.all false
set_option maxRecDepth 100000
set_option maxHeartbeats 4000000
namespace L2
open PySem PySem.Spec PyProof.Rows
def kFldV (H : Hp) (Q : VK) : V → Prop := fun v => Q v H
theorem m_kFldV (H : Hp) (Q : VK) (v : V) : kFldV H Q v = Q v H := rfl
def kFldO (K : PySem.W.Frag) (f : Str) (H : Hp) (Q : VK) : HO → Prop := fun o => match o with
  | .ins C dx fs => Cls K C ∧ NoAttr K C f ∧ optK (fs.lookup f) (kFldV H Q)
  | _ => False
theorem m_kFldO (K : PySem.W.Frag) (f : Str) (H : Hp) (Q : VK) (C dx : Addr) (fs : List (Str × V)) : kFldO K f H Q (.ins C dx fs) = (Cls K C ∧ NoAttr K C f ∧ optK (fs.lookup f) (kFldV H Q)) := rfl
def kFld (K : PySem.W.Frag) (f : Str) (Q : VK) : VK := fun x H => match x with
  | .ref a => optK (H a) (kFldO K f H Q)
  | _ => False
theorem m_kFld (K : PySem.W.Frag) (f : Str) (Q : VK) (a : Addr) (H : Hp) : kFld K f Q (.ref a) H = optK (H a) (kFldO K f H Q) := rfl
def nFld (K : PySem.W.Frag) (ta : TE) (f : Str) : TE := fun σ H Q => ta σ H (kFld K f Q)
theorem m_nFld (K : PySem.W.Frag) (ta : TE) (f : Str) (σ : St) (H : Hp) (Q : VK) : nFld K ta f σ H Q = ta σ H (kFld K f Q) := rfl
theorem kFld_ex {K : PySem.W.Frag} {f : Str} {Q : VK} {x : V} {H : Hp} (h : kFld K f Q x H) : ∃ a C dx fs v, x = .ref a ∧ H a = some (.ins C dx fs) ∧ Cls K C ∧ NoAttr K C f ∧ fs.lookup f = some v ∧ Q v H := by
  unfold kFld at h
  split at h
  · obtain ⟨o, e, h⟩ := optK_ex h
    unfold kFldO at h
    split at h
    · obtain ⟨c, n, h⟩ := h
      obtain ⟨v, l, q⟩ := optK_ex h
      exact ⟨_, _, _, _, v, rfl, e, c, n, l, q⟩
    · exact h.elim
  · exact h.elim
section
variable {X : Cx} {e o value : Expr} {ta tv : TE} {f : Str} {pos pos' : Pos}
theorem pe_nFld (he : PE X e ta) (hb : attributeBase e f X.env (eval e X.env) = eval e X.env) : PE X (.Attribute e f pos) (nFld X.K ta f) := by
  intro pins s σ H Q I h
  refine attr_of hb (thn (he pins s σ H _ I h) fun u s1 ⟨x, H1, I1, rx, q1⟩ => ?_)
  obtain ⟨a, C, dx, fs, v, ex, ea, c, n, l, q⟩ := kFld_ex q1
  subst ex
  obtain rfl : u = Value.ref a := rx
  exact getattr_ok I1 ea c n l fun u' s2 I2 ru => ⟨v, H1, I2, ru, q⟩
def kSetO (K : PySem.W.Frag) (f : Str) (y : V) (a : Addr) (σ : St) (nx : St → Hp → Prop) (H : Hp) : HO → Prop := fun o => match o with
  | .ins C dx fs => Cls K C ∧ NoAttr K C f ∧ fs.length < 1000 ∧ nx σ (upd H a (.ins C dx (putF f y fs)))
  | _ => False
theorem m_kSetO (K : PySem.W.Frag) (f : Str) (y : V) (a : Addr) (σ : St) (nx : St → Hp → Prop) (H : Hp) (C dx : Addr) (fs : List (Str × V)) : kSetO K f y a σ nx H (.ins C dx fs) = (Cls K C ∧ NoAttr K C f ∧ fs.length < 1000 ∧ nx σ (upd H a (.ins C dx (putF f y fs)))) := rfl
def kSet1 (K : PySem.W.Frag) (f : Str) (y : V) (σ : St) (nx : St → Hp → Prop) : VK := fun x H => match x with
  | .ref a => optK (H a) (kSetO K f y a σ nx H)
  | _ => False
theorem m_kSet1 (K : PySem.W.Frag) (f : Str) (y : V) (σ : St) (nx : St → Hp → Prop) (a : Addr) (H : Hp) : kSet1 K f y σ nx (.ref a) H = optK (H a) (kSetO K f y a σ nx H) := rfl
def kSet0 (K : PySem.W.Frag) (f : Str) (ta : TE) (σ : St) (nx : St → Hp → Prop) : VK := fun y H => ta σ H (kSet1 K f y σ nx)
theorem m_kSet0 (K : PySem.W.Frag) (f : Str) (ta : TE) (σ : St) (nx : St → Hp → Prop) (y : V) (H : Hp) : kSet0 K f ta σ nx y H = ta σ H (kSet1 K f y σ nx) := rfl
def nSetF (K : PySem.W.Frag) (ta tv : TE) (f : Str) : TS := fun D σ H => tv σ H (kSet0 K f ta σ D.nx)
theorem m_nSetF (K : PySem.W.Frag) (ta tv : TE) (f : Str) (nx : St → Hp → Prop) (rt : VK) (bk ct : St → Hp → Prop) (σ : St) (H : Hp) : nSetF K ta tv f ⟨nx, rt, bk, ct⟩ σ H = tv σ H (kSet0 K f ta σ nx) := rfl
theorem ps_nSetF (ha : PE X o ta) (hv : PE X value tv) (hs : swapsWith value (some (.Attribute o f pos')) pos.line X.env = pure false) : PS X (.Assign [.Attribute o f pos'] value pos) (nSetF X.K ta tv f) := by
  intro pins s σ H D I h
  refine plainObj_wpAny_Assign_Attribute (thn (hv pins s σ H _ I h) fun u s1 ⟨y, H1, I1, ry, q⟩ => thn (ha pins s1 σ H1 _ I1 q) fun ov s2 ⟨x, H2, I2, rx, q1⟩ => ?_) hs
  unfold kSet1 at q1
  split at q1
  · rename_i a
    obtain rfl : ov = Value.ref a := rx
    obtain ⟨ob, ea, q1⟩ := optK_ex q1
    unfold kSetO at q1
    split at q1
    · obtain ⟨c, n, l, q2⟩ := q1
      exact setattr_ok I2 ea c n l ry fun s3 I3 => ⟨σ, _, I3, q2⟩
    · exact q1.elim
  · exact q1.elim
end
def kMethA (sp : Sp) (dvs : List V) (E : XK) (a : Addr) (Q : VK) : List V → Hp → Prop := fun vs H => sp (.ref a :: (vs ++ dvs)) H Q E
theorem m_kMethA_0 (sp : Sp) (dvs : List V) (E : XK) (a : Addr) (Q : VK) (H : Hp) : kMethA sp dvs E a Q [] H = sp (.ref a :: dvs) H Q E := rfl
def kMethO (C : Addr) (m : Str) (sp : Sp) (dvs : List V) (E : XK) (t : TA) (σ : St) (Q : VK) (a : Addr) (H : Hp) : HO → Prop := fun o => match o with
  | .ins C' dx fs => C' = C ∧ fs.lookup m = none ∧ t σ H (kMethA sp dvs E a Q)
  | _ => False
theorem m_kMethO (C : Addr) (m : Str) (sp : Sp) (dvs : List V) (E : XK) (t : TA) (σ : St) (Q : VK) (a : Addr) (H : Hp) (dx : Addr) (fs : List (Str × V)) : kMethO C m sp dvs E t σ Q a H (.ins C dx fs) = (fs.lookup m = none ∧ t σ H (kMethA sp dvs E a Q)) := propext ⟨fun h => h.2, fun h => ⟨rfl, h⟩⟩
def kMeth (C : Addr) (m : Str) (sp : Sp) (dvs : List V) (E : XK) (t : TA) (σ : St) (Q : VK) : VK := fun x H => match x with
  | .ref a => optK (H a) (kMethO C m sp dvs E t σ Q a H)
  | _ => False
theorem m_kMeth (C : Addr) (m : Str) (sp : Sp) (dvs : List V) (E : XK) (t : TA) (σ : St) (Q : VK) (a : Addr) (H : Hp) : kMeth C m sp dvs E t σ Q (.ref a) H = optK (H a) (kMethO C m sp dvs E t σ Q a H) := rfl
def nMeth (C : Addr) (m : Str) (sp : Sp) (dvs : List V) (E : XK) (ta : TE) (t : TA) : TE := fun σ H Q => ta σ H (kMeth C m sp dvs E t σ Q)
theorem m_nMeth (C : Addr) (m : Str) (sp : Sp) (dvs : List V) (E : XK) (ta : TE) (t : TA) (σ : St) (H : Hp) (Q : VK) : nMeth C m sp dvs E ta t σ H Q = ta σ H (kMeth C m sp dvs E t σ Q) := rfl
theorem kMeth_ex {C : Addr} {m : Str} {sp : Sp} {dvs : List V} {E : XK} {t : TA} {σ : St} {Q : VK} {x : V} {H : Hp} (h : kMeth C m sp dvs E t σ Q x H) : ∃ a dx fs, x = .ref a ∧ H a = some (.ins C dx fs) ∧ fs.lookup m = none ∧ t σ H fun vs H2 => sp (x :: (vs ++ dvs)) H2 Q E := by
  unfold kMeth at h
  split at h
  · obtain ⟨o, e, h⟩ := optK_ex h
    unfold kMethO at h
    split at h
    · obtain ⟨rfl, l, h⟩ := h
      exact ⟨_, _, _, rfl, e, l, h⟩
    · exact h.elim
  · exact h.elim
section
variable {X : Cx} {CX : CXT} {k : Nat} {f C : Addr} {fd : FuncData} {ps : List Str} {sp : Sp} {dvs : List V} {ds : List Value} {E : XK} {x m : Str} {p pos apos : Pos} {e o : Expr} {es : List Expr} {ta : TE} {t : TA}
theorem pe_nMeth0 {pl : Sem Bool} (he : PE X o ta) (c : Cls X.K C) (hm : Meth X.K C m f) (F : FnOk X.prog X.w X.K X.mg X.base CX k f fd ps sp) (hr : Room k X.A) (hb : Binds X.K fd ps ds) (hd : Vals dvs ds) (hx : Passes CX X E)
    (ht : eval (.Call (.Attribute o m apos) [] [] pos) X.env = (do
      let ov ← eval o X.env
      standAt apos.atName
      let (f, first) ← holding [ov] (getMethod ov m pl)
      callWith pos f first (backTo pos (starEach [] X.env)) (backToKw pos (keywordEach [] X.env))) := by rfl) :
    PE X (.Call (.Attribute o m apos) [] [] pos) (nMeth C m sp dvs E ta tNil) := by
  intro pins s σ H Q I h
  refine PySem.W.methodCall_KW (pl := pl) (thn (he pins s σ H _ I h) fun u s1 ⟨x, H1, I1, rx, q0⟩ => ?_) ht
  obtain ⟨a, dx, fs, ex, ea, l, q⟩ := kMeth_ex q0
  subst ex
  obtain rfl : u = Value.ref a := rx
  refine getmeth_ok I1 ea c hm l ?_
  exact PySem.W.callWith_K0 (first := [.ref a]) I1.kIn hm.kp (run_fn (us := [.ref a]) (vs := [.ref a]) F hr hb hd hx I1 (.cons rfl .nil) q)
end
def kMade (x : Addr) (Q : VK) : VK := fun v H => v = .non ∧ Q (.ref x) H
theorem m_kMade (x : Addr) (Q : VK) (H : Hp) : kMade x Q .non H = Q (.ref x) H := propext ⟨fun h => h.2, fun h => ⟨rfl, h⟩⟩
def kMake (C : Addr) (sp : Sp) (dvs : List V) (E : XK) (Q : VK) : List V → Hp → Prop := fun vs H => ∀ (x dx : Addr) (H' : Hp), H x = none → H dx = none → dx ≠ x → Ext H H' → H' x = some (.ins C dx []) → H' dx = some (.own x) → sp (.ref x :: (vs ++ dvs)) H' (kMade x Q) E
theorem m_kMake_3 (C : Addr) (sp : Sp) (dvs : List V) (E : XK) (Q : VK) (a b c : V) (H : Hp) : kMake C sp dvs E Q [a, b, c] H = ∀ (x dx : Addr) (H' : Hp), H x = none → H dx = none → dx ≠ x → Ext H H' → H' x = some (.ins C dx []) → H' dx = some (.own x) → sp (.ref x :: a :: b :: c :: dvs) H' (kMade x Q) E := rfl
def nMake (C : Addr) (sp : Sp) (dvs : List V) (E : XK) (t : TA) : TE := fun σ H Q => t σ H (kMake C sp dvs E Q)
theorem m_nMake (C : Addr) (sp : Sp) (dvs : List V) (E : XK) (t : TA) (σ : St) (H : Hp) (Q : VK) : nMake C sp dvs E t σ H Q = t σ H (kMake C sp dvs E Q) := rfl
section
variable {X : Cx} {CX : CXT} {k : Nat} {f C : Addr} {fd : FuncData} {ps : List Str} {sp : Sp} {dvs : List V} {ds : List Value} {E : XK} {x m : Str} {p pos apos : Pos} {e o : Expr} {es : List Expr} {ta : TE} {t : TA}
theorem kMake.to {Q : VK} {vs : List V} {H : Hp} (h : kMake C sp dvs E Q vs H) : ∀ x dx, H x = none → H dx = none → dx ≠ x → sp (.ref x :: (vs ++ dvs)) (upd (upd H dx (.own x)) x (.ins C dx [])) (fun v H2 => v = .non ∧ Q (.ref x) H2) E := fun x dx hx hd ne =>
  h x dx _ hx hd ne ((Ext.new hd).put hx) upd_same (by rw [upd_ne ne, upd_same])
theorem pe_nMake (M : Mk X.K C f) (F : FnOk X.prog X.w X.K X.mg X.base CX k f fd ps sp) (hr : Room (k + 1) X.A) (hg : Gl X x) (hm : X.mg x = some (.ref C)) (hb : Binds X.K fd ps ds) (hd : Vals dvs ds) (hx : Passes CX X E)
    (ha : PA X (e :: es) t) (hdb : (x == ("__debug__" : Str)) = false := by decide) (he : starEach (e :: es) X.env = (false, eval e X.env) :: starEach es X.env := by rfl) (hpl : (backTo pos (starEach es X.env)).any (·.1) = false := by rfl) :
    PE X (.Call (.Name x p) (e :: es) [] pos) (nMake C sp dvs E t) := by
  intro pins s σ H Q I h
  refine wpAny_Call_Name_kw (ld_glob I hg hm ?_ hdb)
  refine PySem.W.callWith_K (h₀ := X.base) I.ok.mod.kin M.kp (thn (ha pos pins s σ H _ I h) fun us s1 ⟨vs, H1, I1, r, q⟩ => ⟨I1.kIn, ?_⟩) he hpl
  exact run_make M F hr hb hd hx I1 r q.to
end
end L2
set_option Elab.async false
set_option linter.all false
set_option maxRecDepth 100000
set_option maxHeartbeats 4000000
namespace L2
open PySem PySem.Spec PyProof.Rows
def notStar : Expr → Bool
  | .Starred .. => false
  | _ => true
theorem star_ok {e : Expr} {es : List Expr} {env : Env} (h : notStar e = true) : starEach (e :: es) env = (false, eval e env) :: starEach es env := by
  cases e <;> first | rfl | cases h
theorem pa_c {X : Cx} {e : Expr} {es : List Expr} {te : TE} {t : TA} (ha : PE X e te) (hr : PA X es t) (hn : notStar e = true := by rfl) : PA X (e :: es) (tCons te t) := pa_cons ha hr (star_ok hn)
end L2
namespace L2
open PySem PySem.Spec PyProof.Rows
def TupV (H : Hp) (z : List Int) (y : V) : Prop := ∃ q, y = .ref q ∧ H q = some (.tup (z.map V.int))
theorem TupV.ext {H H' : Hp} {z : List Int} {y : V} (h : TupV H z y) (e : Ext H H') : TupV H' z y := by
  obtain ⟨q, rfl, hq⟩ := h
  exact ⟨q, rfl, e.at hq⟩
theorem TupV.upd {H : Hp} {z : List Int} {y : V} {p : Addr} {xs : List V} {o : HO} (h : TupV H z y) (hp : H p = some (.lst xs)) : TupV (upd H p o) z y := by
  obtain ⟨q, rfl, hq⟩ := h
  exact ⟨q, rfl, by rw [upd_ne (fun z => by rw [z, hp] at hq; cases hq)]; exact hq⟩
def TupsAt (H : Hp) (p : Addr) (zs : List (List Int)) : Prop := ∃ ys, H p = some (.lst ys) ∧ Al (TupV H) zs ys
theorem TupsAt.ext {H H' : Hp} {p : Addr} {zs : List (List Int)} (h : TupsAt H p zs) (e : Ext H H') : TupsAt H' p zs := by
  obtain ⟨ys, hp, al⟩ := h
  exact ⟨ys, e.at hp, al.imp fun _ _ r => r.ext e⟩
theorem tups_all {H : Hp} {f : V → Option PyData} : ∀ {zs : List (List Int)} {ys : List V}, Al (TupV H) zs ys → allSome (ys.map (datF H (datF H f))) = some (zs.map fun z => PyData.tuple (z.map PyData.int))
  | [], ys, h => by rw [List.eq_nil_of_length_eq_zero h.1]; rfl
  | z :: zs, [], h => by have := h.1; simp at this
  | z :: zs, y :: ys, h => by
    obtain ⟨q, rfl, hq⟩ := h.2 0 z y rfl rfl
    have ih := tups_all (H := H) (f := f) (zs := zs) (ys := ys) ⟨by have := h.1; simpa using this, fun i z y a b => h.2 (i + 1) z y (by simpa using a) (by simpa using b)⟩
    have e1 : datF H (datF H f) (.ref q) = some (.tuple (z.map PyData.int)) := by
      rw [m_datF_ref, hq]
      show datO (datF H f) (.tup (z.map V.int)) = _
      rw [m_datO_tup, allSome_ints]; rfl
    rw [List.map_cons, e1, m_allSome_cons, ih]; rfl
theorem tups_eqv : ∀ zs : List (List Int), PyData.eqvAll (zs.map fun z => PyData.tuple (z.map PyData.int)) (zs.map fun z => PyData.tuple (z.map PyData.int)) = true
  | [] => by rw [List.map_nil, eqvAll_nil]
  | z :: zs => by rw [List.map_cons, eqvAll_cons, eqv_tuple, eqvAll_ints, tups_eqv zs]; simp
theorem len5000 {n : Nat} (h : n ≤ 5000) : n ≤ sizeLine := Nat.le_trans h (by decide)
theorem lt5000 {n : Nat} (h : n < 5000) : n < sizeLine := Nat.lt_of_lt_of_le h (by decide)
end L2
set_option Elab.async false
set_option linter.all false
set_option maxRecDepth 100000
set_option maxHeartbeats 4000000
namespace L2
open PySem PySem.Spec PyProof.Rows
theorem wk_al {K : PySem.W.Frag} {H : Hp} {α : Type} {R : α → V → Hp → Prop} (hR : ∀ z y H H', R z y H → Ext H H' → R z y H') {l : Addr} {ys : List V} {zs : List α} (h : H l = some (.lst ys)) (al : Al (fun z y => R z y H) zs ys) :
    (∀ i z H', zs[i]? = some z → Ext H H' → (Itl K l).go i H' ∧ ∀ x H'', (Itl K l).yld i H' x H'' → Ext H' H'' ∧ R z x H'') ∧ ∀ H', Ext H H' → (Itl K l).stop zs.length H' := by
  refine ⟨fun i z H' hz e => ?_, fun H' e => ⟨ys, SqL.of (e.at h), by rw [al.1]; exact Nat.le_refl _⟩⟩
  have hi : i < ys.length := by rw [al.1]; exact (List.getElem?_eq_some_iff.mp hz).1
  have hy : ys[i]? = some ys[i] := List.getElem?_eq_getElem hi
  refine ⟨⟨ys, ys[i], SqL.of (e.at h), hy⟩, fun x H'' y => ?_⟩
  have hx : x = ys[i] := Option.some.inj ((y.2 ys (SqL.of (e.at h))).symm.trans hy)
  refine ⟨by rw [y.1]; exact Ext.refl _, ?_⟩
  rw [hx, y.1]
  exact hR _ _ _ _ (al.2 i z _ hz hy) e
def axP (a : Int × Int) (x : V) (H : Hp) : Prop := ∃ q, x = .ref q ∧ H q = some (.tup [.int a.1, .int a.2])
theorem axP.ext {a : Int × Int} {x : V} {H H' : Hp} (h : axP a x H) (e : Ext H H') : axP a x H' := by
  obtain ⟨q, rfl, hq⟩ := h
  exact ⟨q, rfl, e.at hq⟩
theorem al_axP {H : Hp} {axs : List (Int × Int)} {ys : List V} (al : Al (TupV H) (axs.map fun a => [a.1, a.2]) ys) : Al (fun a y => axP a y H) axs ys := by
  refine ⟨by rw [al.1, List.length_map], fun i a y ha hy => ?_⟩
  obtain ⟨q, hq, h⟩ := al.2 i [a.1, a.2] y (by rw [List.getElem?_map, ha]; rfl) hy
  exact ⟨q, hq, h⟩
end L2
set_option Elab.async false
set_option linter.all false
set_option maxRecDepth 100000
set_option maxHeartbeats 4000000
namespace L2
open PySem PySem.Spec PyProof.Rows
abbrev IsZipF (h : Heap) (z TI TO : Addr) (f0 : Value) (f : Bool) : Prop :=
  h.get? z = some { cls := .type "zip", dict := none, data := .fields #[f0, .bool f, .bool false, .ref TI, .ref TO], slots := #[] }
section
variable {prog : Program} {w : World} {A : Around} {E : Value → Shared → Prop} {s : Shared}
theorem alive_at {a : Addr} {o : Obj} {Q : Option Obj → Shared → Prop} (ho : s.heap.get? a = some o) (h : Q (some o) s) : wpAny (model prog w) A (loadIfAlive a) Q E s := by
  have h' : Q (s.heap.get? a) s := by rw [ho]; exact h
  exact fun _ _ _ => h'
variable {z TI TO i j : Addr} {f g : List Addr} {ti tj : Nat → Heap → Prop} {vi vj : Nat → Option Value} {k m : Nat} {x y : Value} {t : Addr} {fl : Bool} {ot : Obj}
theorem zipO_free {Q : Bool → Shared → Prop} (hz : IsZipF s.heap z TI TO (rawInt t) fl) (ht : s.heap.get? t = some ot)
    (hQ : ∀ h', IsZipF h' z TI TO (rawInt t) true → Heap.SameBut z s.heap h' → Q false { s with heap := h' }) : wpAny (model prog w) A (Builtin.SmallTypes.ownedTupleIsFree (.ref z)) Q E s := by
  unfold Builtin.SmallTypes.ownedTupleIsFree
  refine wpAny_bind (wpAny_field hz rfl (x := rawInt t) rfl ?_)
  show wpAny _ _ (loadIfAlive ((t : Int).toNat) >>= _) _ _ _
  rw [Int.toNat_natCast]
  refine wpAny_bind (alive_at ht ?_)
  simp only [Option.isNone_some, Bool.false_eq_true, if_false]
  refine wpAny_bind (wpAny_field hz rfl (x := .bool fl) rfl ?_)
  cases fl with
  | true =>
    rw [if_neg (show ¬ ((Value.bool true != Value.bool true) = true) from Bool.false_ne_true)]
    exact wpAny_pure (hQ s.heap hz (Heap.SameBut.refl _ _))
  | false =>
    rw [if_pos (show (Value.bool false != Value.bool true) = true from rfl)]
    exact wpAny_bind (wpAny_setField_rec hz (by simp) fun h3 z3 s3 => wpAny_pure (hQ h3 z3 s3))
theorem zipO_item (S : Src prog w i f ti vi) (T : Src prog w j g tj vj) (D : Apart2 z TI TO i j f g) {Q : Value → Shared → Prop}
    (hz : IsZipF s.heap z TI TO (rawInt t) fl) (ht : s.heap.get? t = some ot) (hTI : IsPair s.heap TI (.ref i) (.ref j)) (hi : ti k s.heap) (hj : tj m s.heap) (hx : vi k = some x) (hy : vj m = some y)
    (hQ : ∀ h', IsZipF h' z TI TO (rawInt t) true → ti (k + 1) h' → tj (m + 1) h' → IsPair h' s.heap.objs.size x y → h'.objs.size = s.heap.objs.size + 1 → (∀ c o, c ∉ [z, i, j] → s.heap.get? c = some o → h'.get? c = some o) → Q (.ref s.heap.objs.size) { s with heap := h' }) :
    wpAny (model prog w) A (Builtin.«zip.__next__» ⟨[.ref z], []⟩) (fun fin s' => ∃ v, fin = .done (.ret v) ∧ Q v s') E s := by
  have iz : i ≠ z := ne_mem S.mem D.zf
  have jz : j ≠ z := ne_mem T.mem D.zg
  refine wpAny_bind (m := field (.ref z) 2) (wpAny_field hz rfl (x := .bool false) rfl ?_)
  refine wpAny_bind (m := field (.ref z) 3) (wpAny_field hz rfl (x := .ref TI) rfl (wpAny_bind (wpAny_seqItems hTI rfl ?_)))
  refine wpAny_bind (m := Builtin.SmallTypes.ownedTupleIsFree (.ref z)) (zipO_free hz ht fun q1 z1 s1 => ?_)
  simp only [Bool.false_eq_true, if_false]
  refine wpAny_bind ?_
  simp only [List.forIn_toArray, List.forIn_cons, List.forIn_nil]
  refine wpAny_bind (wpAny_bind (wpAny_holding (wpAny_bind (m := Builtin.SmallTypes.nextOf (.ref i)) (S.item _ k _ x _ _ (S.but hi s1.extBut D.zf) hx fun q2 i2 s2 => wpAny_pure ?_))))
  have j2 : tj m q2 := T.but (T.but hj s1.extBut D.zg) s2.extBut D.ig
  refine wpAny_pure ?_
  refine wpAny_bind (wpAny_bind (wpAny_holding (wpAny_bind (m := Builtin.SmallTypes.nextOf (.ref j)) (T.item _ m _ y _ _ j2 hy fun q3 j3 s3 => wpAny_pure ?_))))
  refine wpAny_pure (wpAny_pure ?_)
  refine wpAny_bind (wpAny_newTuple (hsz := (show 2 ≤ sizeLine by decide)) ?_)
  have sz : q3.objs.size = s.heap.objs.size := by rw [s3.1, s2.1, s1.1]
  have z3 : IsZipF q3 z TI TO (rawInt t) true := s3.extBut _ _ jz.symm (s2.extBut _ _ iz.symm z1)
  have i3 : ti (k + 1) q3 := S.but i2 s3.extBut D.jf
  refine wpAny_pure ⟨_, rfl, ?_⟩
  show Q (.ref q3.objs.size) _
  have n3 : IsPair (q3.push { cls := .type "tuple", data := .seq #[x, y] }) q3.objs.size x y := Heap.get?_push_size _ rfl
  have n4 : (q3.push { cls := .type "tuple", data := .seq #[x, y] }).objs.size = q3.objs.size + 1 := Heap.size_push ..
  rw [sz] at n3 n4
  rw [sz]
  refine hQ _ (Heap.get?_push_of_some _ z3) (S.keep _ _ _ i3 fun c hc o e => Heap.get?_push_of_some _ e) (T.keep _ _ _ j3 fun c hc o e => Heap.get?_push_of_some _ e) n3 n4 fun c o hc e => ?_
  simp only [List.mem_cons, List.not_mem_nil, or_false, not_or] at hc
  exact Heap.get?_push_of_some _ (s3.extBut _ _ hc.2.2 (s2.extBut _ _ hc.2.1 (s1.extBut _ _ hc.1 e)))
theorem zipO_end (hh : A.handled = none) (S : Src prog w i f ti vi) (T : Src prog w j g tj vj) (D : Apart2 z TI TO i j f g) {Q : Fin → Shared → Prop}
    (hz : IsZipF s.heap z TI TO (rawInt t) fl) (ht : s.heap.get? t = some ot) (hTI : IsPair s.heap TI (.ref i) (.ref j)) (hi : ti k s.heap) (hj : tj m s.heap) (hxy : vi k = none ∨ vj m = none)
    (hE : ∀ h' e, (∀ c o, c ∉ [z, i, j] → s.heap.get? c = some o → h'.get? c = some o) → (∃ o, h'.get? e = some o ∧ o.cls = .type "StopIteration") → E (.ref e) { s with heap := h' }) :
    wpAny (model prog w) A (Builtin.«zip.__next__» ⟨[.ref z], []⟩) Q E s := by
  refine wpAny_bind (m := field (.ref z) 2) (wpAny_field hz rfl (x := .bool false) rfl ?_)
  refine wpAny_bind (m := field (.ref z) 3) (wpAny_field hz rfl (x := .ref TI) rfl (wpAny_bind (wpAny_seqItems hTI rfl ?_)))
  refine wpAny_bind (m := Builtin.SmallTypes.ownedTupleIsFree (.ref z)) (zipO_free hz ht fun q1 z1 s1 => ?_)
  simp only [Bool.false_eq_true, if_false]
  refine wpAny_bind ?_
  simp only [List.forIn_toArray, List.forIn_cons, List.forIn_nil]
  refine wpAny_bind (wpAny_bind (wpAny_holding (wpAny_bind (m := Builtin.SmallTypes.nextOf (.ref i)) ?_)))
  cases hx : vi k with
  | none =>
    refine S.fin _ k _ _ _ hh (S.but hi s1.extBut D.zf) hx fun q2 e s2 he => hE q2 e (fun c o hc q => ?_) he
    simp only [List.mem_cons, List.not_mem_nil, or_false, not_or] at hc
    exact s2 _ _ hc.2.1 (s1.extBut _ _ hc.1 q)
  | some x =>
    have hy : vj m = none := hxy.resolve_left (by rw [hx]; exact Option.some_ne_none x)
    refine S.item _ k _ x _ _ (S.but hi s1.extBut D.zf) hx fun q2 i2 s2 => wpAny_pure (wpAny_pure ?_)
    have j2 : tj m q2 := T.but (T.but hj s1.extBut D.zg) s2.extBut D.ig
    refine wpAny_bind (wpAny_bind (wpAny_holding (wpAny_bind (m := Builtin.SmallTypes.nextOf (.ref j)) (T.fin _ m _ _ _ hh j2 hy fun q3 e s3 he => hE q3 e (fun c o hc q => ?_) he))))
    simp only [List.mem_cons, List.not_mem_nil, or_false, not_or] at hc
    exact s3 _ _ hc.2.2 (s2.extBut _ _ hc.2.1 (s1.extBut _ _ hc.1 q))
theorem zipO_next_item (S : Src prog w i f ti vi) (T : Src prog w j g tj vj) (D : Apart2 z TI TO i j f g) {Q : Option Value → Shared → Prop}
    (hz : IsZipF s.heap z TI TO (rawInt t) fl) (ht : s.heap.get? t = some ot) (hTI : IsPair s.heap TI (.ref i) (.ref j)) (hi : ti k s.heap) (hj : tj m s.heap) (hx : vi k = some x) (hy : vj m = some y)
    (hQ : ∀ h', IsZipF h' z TI TO (rawInt t) true → ti (k + 1) h' → tj (m + 1) h' → IsPair h' s.heap.objs.size x y → h'.objs.size = s.heap.objs.size + 1 → (∀ c o, c ∉ [z, i, j] → s.heap.get? c = some o → h'.get? c = some o) → Q (some (.ref s.heap.objs.size)) { s with heap := h' }) :
    wpAny (model prog w) A (pyNext (.ref z)) Q E s := by
  have ty : s.TypeIs (.ref z) "zip" := ⟨_, hz, rfl⟩
  unfold pyNext
  exact wpAny_bind (wpAny_attempt (wpAny_callSpecial?_slot (name := Str.ofString "__next__") ty F.slot_zip_next (wpAny_call_entry F.slot_zip_next ty F.entry_zip_next (zipO_item S T D hz ht hTI hi hj hx hy fun h' c1 c2 c3 c4 c5 c6 => wpAny_pure (hQ h' c1 c2 c3 c4 c5 c6)) (F.args_zip_next_1 _))))
theorem zipO_next_end (hh : A.handled = none) (S : Src prog w i f ti vi) (T : Src prog w j g tj vj) (D : Apart2 z TI TO i j f g) {Q : Option Value → Shared → Prop}
    (hz : IsZipF s.heap z TI TO (rawInt t) fl) (ht : s.heap.get? t = some ot) (hTI : IsPair s.heap TI (.ref i) (.ref j)) (hi : ti k s.heap) (hj : tj m s.heap) (hxy : vi k = none ∨ vj m = none)
    (hQ : ∀ h', (∀ c o, c ∉ [z, i, j] → s.heap.get? c = some o → h'.get? c = some o) → Q none { s with heap := h' }) : wpAny (model prog w) A (pyNext (.ref z)) Q E s := by
  have ty : s.TypeIs (.ref z) "zip" := ⟨_, hz, rfl⟩
  unfold pyNext
  refine wpAny_bind (wpAny_attempt (wpAny_callSpecial?_slot (name := Str.ofString "__next__") ty F.slot_zip_next (wpAny_call_entry F.slot_zip_next ty F.entry_zip_next (zipO_end (show A.in1.handled = none from hh) S T D hz ht hTI hi hj hxy fun h' e kp he => ?_) (F.args_zip_next_1 _))))
  obtain ⟨o, ho, hc⟩ := he
  exact wpAny_bind (wpAny_isInstance (T := "StopIteration") (b := true) ⟨o, ho, hc⟩ isSubtype_stop (wpAny_pure (hQ _ kp)))
def Zst (ka kb : Bool) (a b z TI TO p q : Addr) (as bs : Array Value) (n : Nat) (h : Heap) : Prop :=
  (IsZip h z TI TO .none ∨ ∃ (t : Addr) (fl : Bool) (ot : Obj), IsZipF h z TI TO (rawInt t) fl ∧ h.get? t = some ot ∧ t ∉ [z, TI, TO, p, q]) ∧ IsPair h TI (.ref p) (.ref q) ∧ (∃ u v, IsPair h TO u v) ∧ (IterAt h ka p a n ∧ SeqAt h ka a as) ∧ (IterAt h kb q b n ∧ SeqAt h kb b bs)
theorem Zst.keep {ka kb : Bool} {a b z TI TO p q : Addr} {as bs : Array Value} {n : Nat} {h h' : Heap} (st : Zst ka kb a b z TI TO p q as bs n h) (k : ∀ c o, h.get? c = some o → h'.get? c = some o) : Zst ka kb a b z TI TO p q as bs n h' := by
  obtain ⟨e0, e1, ⟨u, v, e2⟩, ⟨e3, e4⟩, e5, e6⟩ := st
  refine ⟨e0.imp (fun e => k _ _ e) (fun ⟨t, fl, ot, x1, x2, x3⟩ => ⟨t, fl, ot, k _ _ x1, k _ _ x2, x3⟩), k _ _ e1, ⟨u, v, k _ _ e2⟩, ⟨e3.at fun o e => k _ o e, e4.at fun o e => k _ o e⟩, e5.at fun o e => k _ o e, e6.at fun o e => k _ o e⟩
variable {ka kb : Bool} {a b p q : Addr} {as bs : Array Value} {n : Nat}
theorem zst_item (nd : [z, TI, TO, p, q].Nodup) (na : a ∉ [z, TI, TO, p, q]) (nb : b ∉ [z, TI, TO, p, q]) {Q : Option Value → Shared → Prop} (st : Zst ka kb a b z TI TO p q as bs n s.heap) (hx : as[n]? = some x) (hy : bs[n]? = some y)
    (hQ : ∀ h', Zst ka kb a b z TI TO p q as bs (n + 1) h' → IsPair h' s.heap.objs.size x y → h'.objs.size = s.heap.objs.size + 1 → (∀ c o, c ∉ [z, TI, TO, p, q] → s.heap.get? c = some o → h'.get? c = some o) → Q (some (.ref s.heap.objs.size)) { s with heap := h' }) :
    wpAny (model prog w) A (pyNext (.ref z)) Q E s := by
  obtain ⟨e0, e1, ⟨u, v, e2⟩, e3, e4⟩ := st
  simp only [List.nodup_cons, List.mem_cons, List.not_mem_nil, or_false, not_or, not_false_eq_true, and_true, List.nodup_nil] at nd na nb
  obtain ⟨⟨z1, z2, z3, z4⟩, ⟨t1, t2, t3⟩, ⟨w1, w2⟩, y1⟩ := nd
  obtain ⟨a1, a2, a3, a4, a5⟩ := na
  obtain ⟨b1, b2, b3, b4, b5⟩ := nb
  have S := src_sq (prog := prog) (w := w) ka p a a4 as
  have T := src_sq (prog := prog) (w := w) kb q b b5 bs
  have D : Apart2 z TI TO p q [p, a] [q, b] := ⟨⟨Ne.symm z1, t1, t2, t3⟩, z2, by simp [z3, Ne.symm a1], by simp [z4, Ne.symm b1], by simp [w1, Ne.symm a3], by simp [w2, Ne.symm b3], by simp [y1, Ne.symm b4], by simp [Ne.symm y1, Ne.symm a5]⟩
  have zl : z < s.heap.objs.size ∧ TI < s.heap.objs.size ∧ TO < s.heap.objs.size ∧ p < s.heap.objs.size ∧ q < s.heap.objs.size := by
    refine ⟨?_, Heap.lt_size e1, Heap.lt_size e2, ?_, ?_⟩
    · rcases e0 with e | ⟨_, _, _, e, _⟩ <;> exact Heap.lt_size e
    · obtain ⟨o, _, e, _⟩ := e3.1.obj; exact Heap.lt_size e
    · obtain ⟨o, _, e, _⟩ := e4.1.obj; exact Heap.lt_size e
  have nw : s.heap.objs.size ∉ [z, TI, TO, p, q] := by
    simp only [List.mem_cons, List.not_mem_nil, or_false, not_or]
    exact ⟨Nat.ne_of_gt zl.1, Nat.ne_of_gt zl.2.1, Nat.ne_of_gt zl.2.2.1, Nat.ne_of_gt zl.2.2.2.1, Nat.ne_of_gt zl.2.2.2.2⟩
  rcases e0 with e0 | ⟨t, fl, ot, e0, et, nt⟩
  · refine zip2_next_item S T D e0 e1 e2 e3 e4 hx hy fun h1 c1 c2 c3 c4 c5 c6 c7 => hQ h1 ⟨.inr ⟨_, false, _, c1, c5, nw⟩, c7 TI _ (by simp [Ne.symm z1, t1, t2, t3]) e1, ⟨_, _, c2⟩, c3, c4⟩ c5 c6 fun c o hc e => c7 c o (fun z => hc ?_) e
    simp only [List.mem_cons, List.not_mem_nil, or_false] at z ⊢
    rcases z with h | h | h | h <;> simp [h]
  · refine zipO_next_item S T D e0 et e1 e3 e4 hx hy fun h1 c1 c3 c4 c5 c6 c7 => hQ h1 ⟨.inr ⟨_, true, _, c1, c7 t _ (fun z => nt ?_) et, nt⟩, c7 TI _ (by simp [Ne.symm z1, t2, t3]) e1, ⟨_, _, c7 TO _ (by simp [Ne.symm z2, w1, w2]) e2⟩, c3, c4⟩ c5 c6 fun c o hc e => c7 c o (fun z => hc ?_) e
    all_goals
      simp only [List.mem_cons, List.not_mem_nil, or_false] at z ⊢
      rcases z with h | h | h <;> simp [h]
theorem zst_end (hh : A.handled = none) (nd : [z, TI, TO, p, q].Nodup) (na : a ∉ [z, TI, TO, p, q]) (nb : b ∉ [z, TI, TO, p, q]) {Q : Option Value → Shared → Prop} (st : Zst ka kb a b z TI TO p q as bs n s.heap) (hxy : as[n]? = none ∨ bs[n]? = none)
    (hQ : ∀ h', (∀ c o, c ∉ [z, TI, TO, p, q] → s.heap.get? c = some o → h'.get? c = some o) → Q none { s with heap := h' }) :
    wpAny (model prog w) A (pyNext (.ref z)) Q E s := by
  obtain ⟨e0, e1, ⟨u, v, e2⟩, e3, e4⟩ := st
  simp only [List.nodup_cons, List.mem_cons, List.not_mem_nil, or_false, not_or, not_false_eq_true, and_true, List.nodup_nil] at nd na nb
  obtain ⟨⟨z1, z2, z3, z4⟩, ⟨t1, t2, t3⟩, ⟨w1, w2⟩, y1⟩ := nd
  obtain ⟨a1, a2, a3, a4, a5⟩ := na
  obtain ⟨b1, b2, b3, b4, b5⟩ := nb
  have S := src_sq (prog := prog) (w := w) ka p a a4 as
  have T := src_sq (prog := prog) (w := w) kb q b b5 bs
  have D : Apart2 z TI TO p q [p, a] [q, b] := ⟨⟨Ne.symm z1, t1, t2, t3⟩, z2, by simp [z3, Ne.symm a1], by simp [z4, Ne.symm b1], by simp [w1, Ne.symm a3], by simp [w2, Ne.symm b3], by simp [y1, Ne.symm b4], by simp [Ne.symm y1, Ne.symm a5]⟩
  rcases e0 with e0 | ⟨t, fl, ot, e0, et, nt⟩
  · refine zip2_next_end hh S T D e0 e1 e2 e3 e4 hxy fun h1 kp => hQ h1 fun c o hc e => kp c o (fun z => hc ?_) e
    simp only [List.mem_cons, List.not_mem_nil, or_false] at z ⊢
    rcases z with h | h | h | h <;> simp [h]
  · refine zipO_next_end hh S T D e0 et e1 e3 e4 hxy fun h1 kp => hQ h1 fun c o hc e => kp c o (fun z => hc ?_) e
    simp only [List.mem_cons, List.not_mem_nil, or_false] at z ⊢
    rcases z with h | h | h <;> simp [h]
structure Got (h : Heap) (lo : Nat) (as bs : Array Value) (ts : List Addr) : Prop where
  nd : ts.Nodup
  lo : ∀ t ∈ ts, lo ≤ t
  get : ∀ (m : Nat) t, ts[m]? = some t → ∃ x y, as[m]? = some x ∧ bs[m]? = some y ∧ IsPair h t x y
theorem Got.lt {h : Heap} {lo : Nat} {as bs : Array Value} {ts : List Addr} (G : Got h lo as bs ts) : ∀ t ∈ ts, t < h.objs.size := fun t ht => by
  obtain ⟨m, hm, rfl⟩ := List.getElem_of_mem ht
  obtain ⟨x, y, _, _, e⟩ := G.get m _ (List.getElem?_eq_getElem hm)
  exact Heap.lt_size e
theorem zip_loop {R : Result → Shared → Prop} (hh : A.handled = none) (nd : [z, TI, TO, p, q].Nodup) (na : a ∉ [z, TI, TO, p, q]) (nb : b ∉ [z, TI, TO, p, q]) (S lo : Addr) (hS : S ∉ [z, TI, TO, p, q]) (aS : a ≠ S) (bS : b ≠ S) (hlo : ∀ c ∈ [z, TI, TO, p, q], lo ≤ c) (hlS : lo ≤ S) (hsz : min as.size bs.size ≤ sizeLine) :
    ∀ (k n : Nat) (s : Shared) (ts : List Addr) (c : Nat), min as.size bs.size - n = k → n ≤ min as.size bs.size → Zst ka kb a b z TI TO p q as bs n s.heap → s.heap.get? S = some { cls := .type "list", dict := none, data := .seq (ts.map Value.ref).toArray c, slots := #[] } → ts.length = n → Got s.heap lo as bs ts → S ∉ ts → (∀ t ∈ ts, t ∉ [z, TI, TO, p, q]) → lo ≤ s.heap.objs.size →
    (∀ h' ts' c', h'.get? S = some { cls := .type "list", dict := none, data := .seq (ts'.map Value.ref).toArray c', slots := #[] } → ts'.length = min as.size bs.size → Got h' lo as bs ts' → S ∉ ts' → (∀ d o, d < lo → s.heap.get? d = some o → h'.get? d = some o) → R (.ok (.ret .none)) { s with heap := h' }) →
    codeAny (model prog w) A (.builtin "list.extend.loop" ⟨[.ref S, .ref z, .none], []⟩) R s := by
  intro k
  induction k with
  | zero =>
    intro n s ts c hk hn st hL hl G hSt hts hlz hR
    refine codeAny_builtin PySem.F.entry_extend_loop ?_
    rw [Around.under_plainId PySem.F.plain_extend_loop _]
    show wpAny _ A.in1 (pyNext (.ref z) >>= _) _ _ s
    refine wpAny_bind (zst_end (show A.in1.handled = none from hh) nd na nb st ?_ fun h' kp => ?_)
    · by_cases h1 : as.size ≤ n
      · exact .inl (Array.getElem?_eq_none h1)
      · exact .inr (Array.getElem?_eq_none (by omega))
    · exact wpAny_pure (hR h' ts c (kp _ _ hS hL) (by omega) ⟨G.nd, G.lo, fun m t ht => by
        obtain ⟨x, y, e1, e2, e3⟩ := G.get m t ht
        exact ⟨x, y, e1, e2, kp _ _ (hts t (List.mem_of_getElem? ht)) e3⟩⟩ hSt fun d o hd e => kp d o (fun z => absurd (hlo d z) (Nat.not_le.mpr hd)) e)
  | succ k ih =>
    intro n s ts c hk hn st hL hl G hSt hts hlz hR
    have h1 : n < as.size := by omega
    have h2 : n < bs.size := by omega
    refine codeAny_builtin PySem.F.entry_extend_loop ?_
    rw [Around.under_plainId PySem.F.plain_extend_loop _]
    show wpAny _ A.in1 (pyNext (.ref z) >>= _) _ _ s
    refine wpAny_bind (zst_item nd na nb st (Array.getElem?_eq_getElem h1) (Array.getElem?_eq_getElem h2) fun h' st' pr sz kp => ?_)
    have hL' := kp _ _ hS hL
    show wpAny _ A.in1 (updateSeq S (·.push (.ref s.heap.objs.size)) >>= _) _ _ _
    refine wpAny_bind ?_
    have Sn : S ≠ s.heap.objs.size := Nat.ne_of_lt (Heap.lt_size hL)
    have kp2 : ∀ d o, d ≠ S → h'.get? d = some o → (h'.update S (Obj.mapSeq (·.push (.ref s.heap.objs.size)))).get? d = some o := fun d o hd e => (Heap.get?_update_other _ _ (Ne.symm hd)).trans e
    have G' : Got (h'.update S (Obj.mapSeq (·.push (.ref s.heap.objs.size)))) lo as bs (ts ++ [s.heap.objs.size]) := by
      refine ⟨?_, fun t ht => ?_, fun m t ht => ?_⟩
      · rw [List.nodup_append]
        refine ⟨G.nd, by simp, fun x hx y hy => ?_⟩
        rw [List.mem_singleton.mp hy]
        exact Nat.ne_of_lt (G.lt x hx)
      · rcases List.mem_append.mp ht with ht | ht
        · exact G.lo t ht
        · rw [List.mem_singleton.mp ht]; exact hlz
      · by_cases hm : m < ts.length
        · rw [List.getElem?_append_left hm] at ht
          obtain ⟨x, y, e1, e2, e3⟩ := G.get m t ht
          have hmem := List.mem_of_getElem? ht
          exact ⟨x, y, e1, e2, kp2 _ _ (fun z => hSt (z ▸ hmem)) (kp _ _ (hts t hmem) e3)⟩
        · rw [List.getElem?_append_right (by omega)] at ht
          have h0 : m - ts.length = 0 := by
            rcases Nat.eq_zero_or_pos (m - ts.length) with h | h
            · exact h
            · rw [List.getElem?_eq_none (by simp; omega)] at ht; cases ht
          rw [h0] at ht
          simp at ht
          subst ht
          have hmn : m = n := by omega
          subst hmn
          exact ⟨_, _, Array.getElem?_eq_getElem h1, Array.getElem?_eq_getElem h2, kp2 _ _ (Ne.symm Sn) pr⟩
    have nw : s.heap.objs.size ∉ [z, TI, TO, p, q] := by
      obtain ⟨e0, e1, ⟨u, v, e2⟩, e3, e4⟩ := st
      simp only [List.mem_cons, List.not_mem_nil, or_false, not_or]
      refine ⟨?_, Nat.ne_of_gt (Heap.lt_size e1), Nat.ne_of_gt (Heap.lt_size e2), ?_, ?_⟩
      · rcases e0 with e | ⟨_, _, _, e, _⟩ <;> exact Nat.ne_of_gt (Heap.lt_size e)
      · obtain ⟨o, _, e, _⟩ := e3.1.obj; exact Nat.ne_of_gt (Heap.lt_size e)
      · obtain ⟨o, _, e, _⟩ := e4.1.obj; exact Nat.ne_of_gt (Heap.lt_size e)
    have stK : Zst ka kb a b z TI TO p q as bs (n + 1) (h'.update S (Obj.mapSeq (·.push (.ref s.heap.objs.size)))) := by
      obtain ⟨e0, e1, ⟨u, v, e2⟩, ⟨e3, e4⟩, e5, e6⟩ := st'
      simp only [List.mem_cons, List.not_mem_nil, or_false, not_or] at hS
      obtain ⟨n1, n2, n3, n4, n5⟩ := hS
      refine ⟨e0.imp (fun e => kp2 _ _ (Ne.symm n1) e) (fun ⟨t, fl, ot, x1, x2, x3⟩ => ?_), kp2 _ _ (Ne.symm n2) e1, ⟨u, v, kp2 _ _ (Ne.symm n3) e2⟩, ⟨e3.at fun o e => kp2 _ o (Ne.symm n4) e, e4.at fun o e => kp2 _ o aS e⟩, e5.at fun o e => kp2 _ o (Ne.symm n5) e, e6.at fun o e => kp2 _ o bS e⟩
      by_cases htS : t = S
      · subst htS
        exact ⟨t, fl, _, kp2 _ _ (Ne.symm n1) x1, Heap.get?_update_self _ hL' rfl, x3⟩
      · exact ⟨t, fl, ot, kp2 _ _ (Ne.symm n1) x1, kp2 _ _ htS x2, x3⟩
    have hLn : (h'.update S (Obj.mapSeq (·.push (Value.ref s.heap.objs.size)))).get? S = some { cls := .type "list", dict := none, data := .seq ((ts ++ [s.heap.objs.size]).map Value.ref).toArray (c + 1), slots := #[] } := by
      rw [Heap.get?_update_self (Obj.mapSeq (·.push (Value.ref s.heap.objs.size))) hL' rfl]
      simp [Obj.mapSeq]
    refine wpAny_updateSeq hL' rfl (wpAny_pure ⟨plainId_quiet PySem.F.plain_extend_loop _, ih (n + 1) _ (ts ++ [s.heap.objs.size]) _ (by omega) (by omega) stK hLn (by simp [hl]) G' ?_ ?_ ?_ fun h3 ts3 c3 r1 r2 r3 r4 r5 => hR h3 ts3 c3 r1 r2 r3 r4 fun d o hd e => r5 d o hd ?_⟩) ?_ ?_
    · intro hm
      rcases List.mem_append.mp hm with hm | hm
      · exact hSt hm
      · exact Sn (List.mem_singleton.mp hm)
    · intro t ht
      rcases List.mem_append.mp ht with ht | ht
      · exact hts t ht
      · rw [List.mem_singleton.mp ht]; exact nw
    · show lo ≤ (h'.update S _).objs.size
      rw [Heap.size_update, sz]; exact Nat.le_trans hlz (Nat.le_succ _)
    · exact kp2 _ _ (Nat.ne_of_lt (Nat.lt_of_lt_of_le hd hlS)) (kp d o (fun z => absurd (hlo d z) (Nat.not_le.mpr hd)) e)
    · simp; omega
    · simp; omega
theorem zip_no_len : typeLookup (.type "zip") "__len__" = pure none := by rw [typeLookup_type, builtinLookup_eq_fast]; kernel_rfl
theorem zip_no_hint : typeLookup (.type "zip") "__length_hint__" = pure none := by rw [typeLookup_type, builtinLookup_eq_fast]; kernel_rfl
theorem Zst.ty (st : Zst ka kb a b z TI TO p q as bs n s.heap) : s.TypeIs (.ref z) "zip" := by
  rcases st.1 with e | ⟨_, _, _, e, _⟩
  · exact ⟨_, e, rfl⟩
  · exact ⟨_, e, rfl⟩
theorem Zst.but {h h' : Heap} {S : Addr} (st : Zst ka kb a b z TI TO p q as bs 0 h) (e0 : IsZip h z TI TO .none) (hS : S ∉ [z, TI, TO, p, q]) (aS : a ≠ S) (bS : b ≠ S) (k : ∀ c o, c ≠ S → h.get? c = some o → h'.get? c = some o) : Zst ka kb a b z TI TO p q as bs 0 h' := by
  obtain ⟨_, e1, ⟨u, v, e2⟩, ⟨e3, e4⟩, e5, e6⟩ := st
  simp only [List.mem_cons, List.not_mem_nil, or_false, not_or] at hS
  obtain ⟨n1, n2, n3, n4, n5⟩ := hS
  exact ⟨.inl (k _ _ (Ne.symm n1) e0), k _ _ (Ne.symm n2) e1, ⟨u, v, k _ _ (Ne.symm n3) e2⟩, ⟨e3.at fun o e => k _ o (Ne.symm n4) e, e4.at fun o e => k _ o aS e⟩, e5.at fun o e => k _ o (Ne.symm n5) e, e6.at fun o e => k _ o bS e⟩
theorem call_list_zip {Q : Value → Shared → Prop} (hh : A.handled = none) (nd : [z, TI, TO, p, q].Nodup) (na : a ∉ [z, TI, TO, p, q]) (nb : b ∉ [z, TI, TO, p, q]) (lo : Addr) (hlo : ∀ c ∈ [z, TI, TO, p, q], lo ≤ c) (hsz : min as.size bs.size ≤ sizeLine)
    (e0 : IsZip s.heap z TI TO .none) (st : Zst ka kb a b z TI TO p q as bs 0 s.heap)
    (hQ : ∀ h' ts' c', h'.get? s.heap.objs.size = some { cls := .type "list", dict := none, data := .seq (ts'.map Value.ref).toArray c', slots := #[] } → ts'.length = min as.size bs.size → Got h' lo as bs ts' → s.heap.objs.size ∉ ts' → (∀ d o, d < lo → s.heap.get? d = some o → h'.get? d = some o) → Q (.ref s.heap.objs.size) { s with heap := h' }) :
    wpAny (model prog w) A (call (.type "list") [.ref z]) Q E s := by
  have zl : ∀ c ∈ [z, TI, TO, p, q], c < s.heap.objs.size := by
    obtain ⟨_, e1, ⟨u, v, e2⟩, ⟨e3, e4⟩, e5, e6⟩ := st
    intro c hc
    simp only [List.mem_cons, List.not_mem_nil, or_false] at hc
    rcases hc with rfl | rfl | rfl | rfl | rfl
    · exact Heap.lt_size e0
    · exact Heap.lt_size e1
    · exact Heap.lt_size e2
    · obtain ⟨o, _, e, _⟩ := e3.obj; exact Heap.lt_size e
    · obtain ⟨o, _, e, _⟩ := e5.obj; exact Heap.lt_size e
  have hSf : s.heap.objs.size ∉ [z, TI, TO, p, q] := fun hm => Nat.lt_irrefl _ (zl _ hm)
  have hSz : s.heap.objs.size ≠ z := fun e => hSf (by simp [e])
  have al : a < s.heap.objs.size := by obtain ⟨o, _, e, _⟩ := st.2.2.2.1.2.obj; exact Heap.lt_size e
  have bl : b < s.heap.objs.size := by obtain ⟨o, _, e, _⟩ := st.2.2.2.2.2.obj; exact Heap.lt_size e
  have hlS : lo ≤ s.heap.objs.size := Nat.le_of_lt (Nat.lt_of_le_of_lt (hlo z (by simp)) (zl z (by simp)))
  refine callType_codes (Q₁ := fun obj s₁ => obj = .ref s.heap.objs.size ∧ s₁ = { s with heap := s.heap.push { cls := .type "list", data := .seq #[] } }) PySem.F.called_list (PySem.F.typeCall_list_1 _) PySem.F.entry_list_init
    (code_list_new _ ⟨rfl, rfl⟩) fun obj s₁ h₁ => ?_
  obtain ⟨rfl, rfl⟩ := h₁
  have hS : (s.heap.push { cls := .type "list", data := .seq #[] }).get? s.heap.objs.size = some { cls := .type "list", data := .seq #[] } := Heap.get?_push_size _ rfl
  refine ⟨⟨_, hS, rfl⟩, PySem.F.args_list_init_2 _ _, ?_⟩
  show wpAny _ A.in1.in1 (do let old ← Builtin.List.listItems (.ref s.heap.objs.size); Builtin.List.listUpdate (.ref s.heap.objs.size) (fun _ => #[]); letGo old.toList.reverse; Builtin.List.listExtendWith (.ref s.heap.objs.size) (.ref z) .none) _ _ _
  refine wpAny_bind ?_
  unfold Builtin.List.listItems
  refine wpAny_bind (wpAny_seqItems hS rfl (wpAny_pure ?_))
  show wpAny _ A.in1.in1 (updateSeq s.heap.objs.size (fun _ => #[]) >>= fun _ => letGo (#[] : Array Value).toList.reverse >>= fun _ => Builtin.List.listExtendWith (.ref s.heap.objs.size) (.ref z) .none) _ _ _
  refine wpAny_bind (wpAny_updateSeq hS rfl ?_)
  have hS₂ := Heap.get?_update_self (Obj.mapSeq (fun _ => (#[] : Array Value))) hS rfl
  refine wpAny_bind (wpAny_letGo ?_)
  have k1 : ∀ c o, s.heap.get? c = some o → ((s.heap.push { cls := .type "list", data := .seq #[] }).update s.heap.objs.size (Obj.mapSeq (fun _ => (#[] : Array Value)))).get? c = some o := fun c o e => (Heap.get?_update_other _ _ (Nat.ne_of_gt (Heap.lt_size e))).trans (Heap.get?_push_of_some _ e)
  have st1 := st.keep k1
  have e1 := k1 _ _ e0
  have sz1 : ((s.heap.push { cls := .type "list", data := .seq #[] }).update s.heap.objs.size (Obj.mapSeq (fun _ => (#[] : Array Value)))).objs.size = s.heap.objs.size + 1 := by rw [Heap.size_update, Heap.size_push]
  generalize (s.heap.push { cls := .type "list", data := .seq #[] }).update s.heap.objs.size (Obj.mapSeq (fun _ => (#[] : Array Value))) = hp at hS₂ k1 st1 e1 sz1
  unfold Builtin.List.listExtendWith
  have ty1 : Shared.TypeIs { s with heap := hp } (.ref z) "zip" := Zst.ty (s := { s with heap := hp }) st1
  refine wpAny_bind (wpAny_typeOf ty1 ?_)
  have h1 : Builtin.List.listSameRef (.ref s.heap.objs.size) (.ref z) = false := by simp [Builtin.List.listSameRef, hSz]
  have h2 : (Value.type "zip" == Value.type "list") = false := by decide
  have h3 : (Value.type "zip" == Value.type "tuple") = false := by decide
  simp only [h1, h2, h3, Bool.or_false, Bool.false_eq_true, if_false]
  refine wpAny_bind (wpAny_pyIter_zip e1 ?_)
  refine wpAny_bind (wpAny_holding ?_)
  unfold Builtin.List.listLengthHint
  refine wpAny_bind (wpAny_specialOf ty1 zip_no_len ?_)
  show wpAny _ A.in1.in1 (specialOf (Value.ref z) (Str.ofString "__length_hint__") >>= _) _ _ _
  refine wpAny_bind (wpAny_specialOf ty1 zip_no_hint ?_)
  refine wpAny_pure ?_
  show wpAny _ A.in1.in1 (rule "list.extend.makes-room" >>= fun _ => Builtin.List.listTouch (.ref s.heap.objs.size) >>= fun _ =>
    again (.builtin "list.extend.loop" ⟨[.ref s.heap.objs.size, .ref z, .none], []⟩)) _ _ _
  refine wpAny_bind (wpAny_rule ?_)
  refine wpAny_bind ?_
  show wpAny _ A.in1.in1 (updateSeq s.heap.objs.size (·.push .none) >>= fun _ => updateSeq s.heap.objs.size (·.pop)) _ _ _
  refine wpAny_bind (wpAny_updateSeq hS₂ rfl ?_)
  have hS₃ := Heap.get?_update_self (Obj.mapSeq (·.push Value.none)) hS₂ rfl
  refine wpAny_updateSeq (hz := by seq_fits) hS₃ rfl ?_
  have hS₄ := Heap.get?_update_self (Obj.mapSeq (·.pop)) hS₃ rfl
  have oth : ∀ c o, c ≠ s.heap.objs.size → hp.get? c = some o → ((hp.update s.heap.objs.size (Obj.mapSeq (·.push Value.none))).update s.heap.objs.size (Obj.mapSeq (·.pop))).get? c = some o :=
    fun c o hc e => (Heap.get?_update_other _ _ (Ne.symm hc)).trans ((Heap.get?_update_other _ _ (Ne.symm hc)).trans e)
  have st4 := st1.but e1 hSf (Nat.ne_of_lt al) (Nat.ne_of_lt bl) oth
  refine wpAny_pure ⟨plainId_quiet PySem.F.plain_extend_loop _, zip_loop (A := A.in1) hh nd na nb s.heap.objs.size lo hSf (Nat.ne_of_lt al) (Nat.ne_of_lt bl) hlo hlS hsz _ 0 _ [] _ rfl (Nat.zero_le _) st4 (by exact hS₄) rfl ⟨List.nodup_nil, fun t h => absurd h List.not_mem_nil, fun m t h => by simp at h⟩ (by simp) (fun t h => absurd h List.not_mem_nil) ?_ fun h' ts' c' r1 r2 r3 r4 r5 => ?_⟩
  · show lo ≤ ((hp.update _ _).update _ _).objs.size
    rw [Heap.size_update, Heap.size_update, sz1]; exact Nat.le_trans hlS (Nat.le_succ _)
  · refine ⟨rfl, hQ h' ts' c' r1 r2 r3 r4 fun d o hd e => r5 d o hd (oth d o (Nat.ne_of_lt (Heap.lt_size e)) (k1 d o e))⟩
end
section
variable {X : Cx} {pins : List (Addr × Obj)} {σ : St} {s : Shared}
theorem Inv.adoptAll : ∀ (ts : List Addr) (zs : List (V × V)) {H : Hp}, Inv X pins σ H s → ts.length = zs.length → ts.Nodup → (∀ t ∈ ts, NewAt X pins t ∧ H t = none) → (∀ (m : Nat) t z, ts[m]? = some t → zs[m]? = some z → ∃ u v, RelV z.1 u ∧ RelV z.2 v ∧ IsPair s.heap t u v) →
    ∃ H', Inv X pins σ H' s ∧ Ext H H' ∧ (∀ c, c ∉ ts → H' c = H c) ∧ ∀ (m : Nat) t z, ts[m]? = some t → zs[m]? = some z → H' t = some (.tup [z.1, z.2])
  | [], zs, H, I, _, _, _, _ => ⟨H, I, Ext.refl _, fun _ _ => rfl, fun m t z h => by simp at h⟩
  | t :: ts, [], H, I, hl, _, _, _ => by simp at hl
  | t :: ts, z :: zs, H, I, hl, nd, hn, hp => by
    rw [List.nodup_cons] at nd
    obtain ⟨N, ht⟩ := hn t List.mem_cons_self
    obtain ⟨u, v, ru, rv, pr⟩ := hp 0 t z rfl rfl
    have I1 := I.adopt (o := .tup [z.1, z.2]) N ht ⟨(show 2 ≤ sizeLine by decide), [u, v], .cons ru (.cons rv .nil), ⟨_, pr, rfl, _, rfl⟩⟩
    have up : ∀ c ∈ ts, c ≠ t := fun c hc e => nd.1 (e ▸ hc)
    obtain ⟨H', I', e', q', g'⟩ := Inv.adoptAll ts zs I1 (by simpa using hl) nd.2 (fun c hc => ⟨(hn c (List.mem_cons_of_mem _ hc)).1, by rw [upd_ne (up c hc)]; exact (hn c (List.mem_cons_of_mem _ hc)).2⟩) fun m t' z' h1 h2 => hp (m + 1) t' z' (by simpa using h1) (by simpa using h2)
    refine ⟨H', I', (Ext.new ht).trans e', fun c hc => ?_, fun m t' z' h1 h2 => ?_⟩
    · rw [q' c (fun h => hc (List.mem_cons_of_mem _ h)), upd_ne (fun h => hc (by rw [h]; exact List.mem_cons_self))]
    · cases m with
      | zero =>
        simp at h1 h2
        subst h1; subst h2
        rw [q' t nd.1, upd_same]
      | succ m => exact g' m t' z' (by simpa using h1) (by simpa using h2)
end
def lzK (xs ys : List V) (H : Hp) (Q : VK) : Prop := ∀ (D : Addr) (ts : List V) (H' : Hp), H D = none → Ext H H' → H' D = some (.lst ts) → Al (fun z y => zipP z y H') (xs.zip ys) ts → Q (.ref D) H'
theorem x_lzK (xs ys : List V) (H : Hp) (Q : VK) : lzK xs ys H Q = ∀ (D : Addr) (ts : List V) (H' : Hp), H D = none → Ext H H' → H' D = some (.lst ts) → Al (fun z y => zipP z y H') (xs.zip ys) ts → Q (.ref D) H' := rfl
def kLZ2 (xs : List V) (H : Hp) (Q : VK) : HO → Prop := fun o => match o with
  | .lst ys => lzK xs ys H Q
  | .tup ys => lzK xs ys H Q
  | _ => False
theorem m_kLZ2_l (xs ys : List V) (H : Hp) (Q : VK) : kLZ2 xs H Q (.lst ys) = lzK xs ys H Q := rfl
def kLZ1 (b : Addr) (H : Hp) (Q : VK) : HO → Prop := fun o => match o with
  | .lst xs => optK (H b) (kLZ2 xs H Q)
  | .tup xs => optK (H b) (kLZ2 xs H Q)
  | _ => False
theorem m_kLZ1_l (b : Addr) (xs : List V) (H : Hp) (Q : VK) : kLZ1 b H Q (.lst xs) = optK (H b) (kLZ2 xs H Q) := rfl
def kLZ0 (Q : VK) : List V → Hp → Prop := fun vs H => match vs with
  | [.ref a, .ref b] => optK (H a) (kLZ1 b H Q)
  | _ => False
theorem m_kLZ0 (Q : VK) (a b : Addr) (H : Hp) : kLZ0 Q [.ref a, .ref b] H = optK (H a) (kLZ1 b H Q) := rfl
def tLZ (ta : TA) : TE := fun σ H Q => ta σ H (kLZ0 Q)
theorem m_tLZ (ta : TA) (σ : St) (H : Hp) (Q : VK) : tLZ ta σ H Q = ta σ H (kLZ0 Q) := rfl
theorem kLZ0_ex {Q : VK} {vs : List V} {H : Hp} (h : kLZ0 Q vs H) : ∃ a b ka kb xs ys, vs = [.ref a, .ref b] ∧ SqK ka H a xs ∧ SqK kb H b ys ∧ lzK xs ys H Q := by
  unfold kLZ0 at h
  split at h
  · rename_i a b
    obtain ⟨o, e, h⟩ := optK_ex h
    unfold kLZ1 at h
    split at h
    · rename_i xs
      obtain ⟨o', e', h⟩ := optK_ex h
      unfold kLZ2 at h
      split at h
      · exact ⟨a, b, false, false, xs, _, rfl, e, e', h⟩
      · exact ⟨a, b, false, true, xs, _, rfl, e, e', h⟩
      · exact h.elim
    · rename_i xs
      obtain ⟨o', e', h⟩ := optK_ex h
      unfold kLZ2 at h
      split at h
      · exact ⟨a, b, true, false, xs, _, rfl, e, e', h⟩
      · exact ⟨a, b, true, true, xs, _, rfl, e, e', h⟩
      · exact h.elim
    · exact h.elim
  · exact h.elim
theorem Inv.sqLe {X : Cx} {pins : List (Addr × Obj)} {σ : St} {H : Hp} {s : Shared} {k : Bool} {a : Addr} {xs : List V} (I : Inv X pins σ H s) (h : SqK k H a xs) : xs.length ≤ sizeLine := by
  cases k
  · obtain ⟨_, _, _, h⟩ := I.list (SqL.of h); exact h
  · obtain ⟨_, _, _, h⟩ := I.tuple (SqT.of h); exact h
section
variable {X : Cx}
theorem vals_refs : ∀ ts : List Addr, Vals (ts.map V.ref) (ts.map Value.ref)
  | [] => .nil
  | _ :: ts => .cons rfl (vals_refs ts)
theorem pe_listzip {a b : Expr} {ta : TA} {p p2 pos pos2 : Pos} (hc : X.calm = true) (hg : Gl X "list") (hm : X.mg "list" = none) (hg2 : Gl X "zip") (hm2 : X.mg "zip" = none) (ha : PA X [a, b] ta) (hs : starEach [a, b] X.env = [(false, eval a X.env), (false, eval b X.env)] := by rfl) (hs2 : starEach [b] X.env = [(false, eval b X.env)] := by rfl) (hs3 : starEach [Expr.Call (.Name "zip" p2) [a, b] [] pos2] X.env = [(false, eval (Expr.Call (.Name "zip" p2) [a, b] [] pos2) X.env)] := by rfl) (hs4 : starEach ([] : List Expr) X.env = [] := by rfl) :
    PE X (.Call (.Name "list" p) [.Call (.Name "zip" p2) [a, b] [] pos2] [] pos) (tLZ ta) := by
  intro pins s σ H Q I h
  refine wpAny_Call_Name_kw (ld_blt I hg hm (show bootBuiltins "list" = some (.type "list") by decide +kernel) ?_)
  refine PyProof.Rows.callWith_type1 ?_ (by rw [hs3, hs4]) (by rw [hs4]; rfl)
  rw [hs3]
  show wpAny _ _ (spliced ((false, eval _ X.env) :: [])) _ _ s
  refine Calls.spliced_cons ?_
  refine Call_ (ld_blt I hg2 hm2 (show bootBuiltins "zip" = some (.type "zip") by decide +kernel) (PyProof.Rows.callWith_type1 (thn (ha pos2 pins s σ H _ I h) fun us s1 ⟨vs, H1, I1, r1, q1⟩ => ?_) (by rw [hs, hs2]) (by rw [hs2]; rfl)))
  obtain ⟨a, b, ka, kb, xs, ys, rfl, sa, sb, q⟩ := kLZ0_ex q1
  cases r1 with
  | cons r rr =>
    cases rr with
    | cons r' rr =>
      cases rr
      cases r
      cases r'
      obtain ⟨as, ra, s1a⟩ := I1.sq sa
      obtain ⟨bs, rb, s1b⟩ := I1.sq sb
      have la := ra.length
      have lb := rb.length
      have lz := I1.sqLe sa
      have lz2 := I1.sqLe sb
      refine call_zq s1a s1b fun h' n hn e1 e2 e3 e4 e5 e6 e7 => ?_
      refine Calls.spliced_nil ?_
      have nn : ∀ c ∈ [n + 4, n + 2, n + 3, n, n + 1], n ≤ c := fun c hc => by
        simp only [List.mem_cons, List.not_mem_nil, or_false] at hc
        rcases hc with rfl | rfl | rfl | rfl | rfl <;> omega
      have al : a < n := by rw [hn]; obtain ⟨o, _, e, _⟩ := s1a.obj; exact Heap.lt_size e
      have bl : b < n := by rw [hn]; obtain ⟨o, _, e, _⟩ := s1b.obj; exact Heap.lt_size e
      refine call_list_zip (s := { s1 with heap := h' }) (I1.ok.hd hc) (by simp) (fun z => absurd (nn a z) (Nat.not_le.mpr al)) (fun z => absurd (nn b z) (Nat.not_le.mpr bl)) n nn (by simp; omega) e1 ⟨.inl e1, e2, ⟨_, _, e3⟩, ⟨e4, s1a.at fun o e => e7 _ o e⟩, e5, s1b.at fun o e => e7 _ o e⟩ fun h2 ts c r1 r2 G r4 r5 => ?_
      have r1' : h2.get? (n + 5) = some { cls := .type "list", dict := none, data := .seq (ts.map Value.ref).toArray c, slots := #[] } := by rw [← e6]; exact r1
      have I2 : Inv X pins σ H1 { s1 with heap := h2 } := I1.kept (t' := s1.toks) fun c o e => r5 c o (by rw [hn]; exact Heap.lt_size e) (e7 c o e)
      have hln : ts.length = (xs.zip ys).length := by rw [r2, List.length_zip]; simp; omega
      have fr : ∀ t, n ≤ t → NewAt X pins t ∧ H1 t = none := fun t ht => ⟨I1.newAt (by rw [← hn]; exact ht), I1.hok.fresh (by rw [← hn]; exact ht)⟩
      obtain ⟨H2, I3, x2, q2, g2⟩ := I2.adoptAll ts (xs.zip ys) hln G.nd (fun t ht => fr t (G.lo t ht)) fun m t z h1 h2 => by
        obtain ⟨u, v, g1, g2, g3⟩ := G.get m t h1
        rw [List.getElem?_zip_eq_some] at h2
        obtain ⟨u', hu, ru⟩ := ra.get h2.1
        obtain ⟨v', hv, rv⟩ := rb.get h2.2
        have hu' : as.toArray[m]? = some u' := by simpa using hu
        have hv' : bs.toArray[m]? = some v' := by simpa using hv
        rw [g1] at hu'
        rw [g2] at hv'
        cases hu'; cases hv'
        exact ⟨u, v, ru, rv, g3⟩
      have hD : H2 (n + 5) = none := by
        rw [q2 _ (by rw [← e6]; exact r4)]
        exact (fr (n + 5) (Nat.le_add_right ..)).2
      have I4 := I3.adopt (o := .lst (ts.map V.ref)) (fr (n + 5) (Nat.le_add_right ..)).1 hD ⟨by rw [List.length_map, r2]; simp; omega, ts.map Value.ref, c, vals_refs ts, r1'⟩
      refine ⟨.ref (n + 5), _, I4, by rw [← e6]; rfl, q (n + 5) (ts.map V.ref) _ (fr (n + 5) (Nat.le_add_right ..)).2 (x2.trans (Ext.new hD)) upd_same ⟨by rw [List.length_map, hln], fun m z y hz hy => ?_⟩⟩
      rw [List.getElem?_map] at hy
      obtain ⟨t, ht, rfl⟩ := Option.map_eq_some_iff.mp hy
      exact ⟨t, rfl, by rw [upd_ne (fun e => r4 (by rw [e6, ← e]; exact List.mem_of_getElem? ht))]; exact g2 m t z ht hz⟩
end
def qInt (xs : List V) (H : Hp) (Q : VK) : Prop := match xs with
  | [.int i] => Q (.int i) H
  | [.bl k] => Q (.int (if k = true then 1 else 0)) H
  | _ => False
theorem m_qInt_b (k : Bool) (H : Hp) (Q : VK) : qInt [.bl k] H Q = Q (.int (if k = true then 1 else 0)) H := rfl
theorem call_qInt {X : Cx} : CallR X (.type "int") qInt := call_int1.mono fun xs H Q h => by
  unfold qInt at h
  split at h
  · exact .inl ⟨_, rfl, h⟩
  · exact .inr ⟨_, rfl, h⟩
  · exact h.elim
end L2
set_option Elab.async false
set_option linter.all false
set_option maxRecDepth 100000
set_option maxHeartbeats 4000000
namespace L2
open PySem PySem.Spec PyProof.Rows
section
variable {X : Cx}
end
section
variable {X : Cx} {a b c d : Expr} {ta tb tc td : TE} {pos : Pos}
end
section
variable {k : Nat} {g : TG} {tt : TT} {te : TE} {σ : St} {Q : VK} {H : Hp} {K : PySem.W.Frag}
end
end L2
set_option Elab.async false
set_option linter.all false
set_option maxRecDepth 100000
set_option maxHeartbeats 4000000
namespace L2
open PySem PySem.Spec PyProof.Rows
section
variable {X : Cx}
end
section
variable {g : TG} {σ : St} {Q : VK} {H : Hp} {K : PySem.W.Frag}
end
section
variable {X : Cx} {CX : CXT} {k : Nat} {f C : Addr} {fd : FuncData} {ps : List Str} {sp : Sp} {dvs : List V} {ds : List Value} {E : St → XK} {x m : Str} {p pos apos : Pos} {e o : Expr} {es : List Expr} {ta : TE} {t : TA}
end
end L2
set_option Elab.async false
set_option linter.all false
set_option maxRecDepth 100000
set_option maxHeartbeats 1000000
namespace L2
open PySem PySem.Spec PyProof.Rows
section
variable {X : Cx} {e st : Expr} {te tst : TE} {pos p2 : Pos}
end
end L2
set_option Elab.async false
set_option linter.all false
set_option maxRecDepth 100000
set_option maxHeartbeats 1000000
namespace L2
open PySem PySem.Spec PyProof.Rows
section
variable {X : Cx}
end
end L2
set_option Elab.async false
set_option linter.all false
set_option maxRecDepth 100000
set_option maxHeartbeats 1000000
namespace L2
open PySem PySem.Spec PyProof.Rows
section
variable {X : Cx}
end
end L2
set_option Elab.async false
set_option linter.all false
set_option maxRecDepth 100000
set_option maxHeartbeats 4000000
namespace L2
open PySem PySem.Spec PyProof.Rows
section
variable {X : Cx}
end
end L2
set_option Elab.async false
set_option linter.all false
set_option maxRecDepth 100000
set_option maxHeartbeats 4000000
namespace L2
open PySem PySem.Spec PyProof.Rows
def tV (i : Nat) : TE := fun σ H Q => match σ[i]? with
  | some (some v) => Q v H
  | _ => False
theorem tV_eq (i : Nat) : tVar i = tV i := by
  funext σ H Q
  refine propext ⟨fun ⟨v, e, q⟩ => ?_, fun h => ?_⟩
  · unfold tV; rw [e]; exact q
  · unfold tV at h
    split at h
    · rename_i v e; exact ⟨v, e, h⟩
    · exact h.elim
theorem m_tV_0 {v : V} {σ : St} {H : Hp} {Q : VK} : tV 0 (some v :: σ) H Q = Q v H := rfl
theorem m_tV_1 {a0 : Option V} {v : V} {σ : St} {H : Hp} {Q : VK} : tV 1 (a0 :: some v :: σ) H Q = Q v H := rfl
theorem m_tV_2 {a0 a1 : Option V} {v : V} {σ : St} {H : Hp} {Q : VK} : tV 2 (a0 :: a1 :: some v :: σ) H Q = Q v H := rfl
theorem m_tV_3 {a0 a1 a2 : Option V} {v : V} {σ : St} {H : Hp} {Q : VK} : tV 3 (a0 :: a1 :: a2 :: some v :: σ) H Q = Q v H := rfl
theorem m_tV_4 {a0 a1 a2 a3 : Option V} {v : V} {σ : St} {H : Hp} {Q : VK} : tV 4 (a0 :: a1 :: a2 :: a3 :: some v :: σ) H Q = Q v H := rfl
theorem m_tV_5 {a0 a1 a2 a3 a4 : Option V} {v : V} {σ : St} {H : Hp} {Q : VK} : tV 5 (a0 :: a1 :: a2 :: a3 :: a4 :: some v :: σ) H Q = Q v H := rfl
theorem m_tV_6 {a0 a1 a2 a3 a4 a5 : Option V} {v : V} {σ : St} {H : Hp} {Q : VK} : tV 6 (a0 :: a1 :: a2 :: a3 :: a4 :: a5 :: some v :: σ) H Q = Q v H := rfl
theorem m_tV_7 {a0 a1 a2 a3 a4 a5 a6 : Option V} {v : V} {σ : St} {H : Hp} {Q : VK} : tV 7 (a0 :: a1 :: a2 :: a3 :: a4 :: a5 :: a6 :: some v :: σ) H Q = Q v H := rfl
theorem m_tV_8 {a0 a1 a2 a3 a4 a5 a6 a7 : Option V} {v : V} {σ : St} {H : Hp} {Q : VK} : tV 8 (a0 :: a1 :: a2 :: a3 :: a4 :: a5 :: a6 :: a7 :: some v :: σ) H Q = Q v H := rfl
theorem m_tV_9 {a0 a1 a2 a3 a4 a5 a6 a7 a8 : Option V} {v : V} {σ : St} {H : Hp} {Q : VK} : tV 9 (a0 :: a1 :: a2 :: a3 :: a4 :: a5 :: a6 :: a7 :: a8 :: some v :: σ) H Q = Q v H := rfl
theorem m_tV_10 {a0 a1 a2 a3 a4 a5 a6 a7 a8 a9 : Option V} {v : V} {σ : St} {H : Hp} {Q : VK} : tV 10 (a0 :: a1 :: a2 :: a3 :: a4 :: a5 :: a6 :: a7 :: a8 :: a9 :: some v :: σ) H Q = Q v H := rfl
theorem m_tV_11 {a0 a1 a2 a3 a4 a5 a6 a7 a8 a9 a10 : Option V} {v : V} {σ : St} {H : Hp} {Q : VK} : tV 11 (a0 :: a1 :: a2 :: a3 :: a4 :: a5 :: a6 :: a7 :: a8 :: a9 :: a10 :: some v :: σ) H Q = Q v H := rfl
def nI0 (g : Int → Int → V) : R2 := fun x y H Q => match x, y with
  | .int i, .int j => Q (g i j) H
  | _, _ => False
theorem m_nI0 (g : Int → Int → V) (i j : Int) (H : Hp) (Q : VK) : nI0 g (.int i) (.int j) H Q = Q (g i j) H := rfl
theorem nI0_eq (g : Int → Int → V) : rI0 g = nI0 g := by
  funext x y H Q
  refine propext ⟨fun ⟨i, j, e, e', q⟩ => by subst e e'; exact q, fun h => ?_⟩
  unfold nI0 at h
  split at h
  · exact ⟨_, _, rfl, rfl, h⟩
  · exact h.elim
def nI (C : Int → Int → Prop) (g : Int → Int → V) : R2 := fun x y H Q => match x, y with
  | .int i, .int j => C i j ∧ Q (g i j) H
  | _, _ => False
theorem m_nI (C : Int → Int → Prop) (g : Int → Int → V) (i j : Int) (H : Hp) (Q : VK) : nI C g (.int i) (.int j) H Q = (C i j ∧ Q (g i j) H) := rfl
theorem nI_eq (C : Int → Int → Prop) (g : Int → Int → V) : rI C g = nI C g := by
  funext x y H Q
  refine propext ⟨fun ⟨i, j, e, e', q⟩ => by subst e e'; exact q, fun h => ?_⟩
  unfold nI at h
  split at h
  · exact ⟨_, _, rfl, rfl, h⟩
  · exact h.elim
def nU (g : Int → V) : V → Hp → VK → Prop := fun x H Q => match x with
  | .int i => Q (g i) H
  | _ => False
theorem m_nU (g : Int → V) (i : Int) (H : Hp) (Q : VK) : nU g (.int i) H Q = Q (g i) H := rfl
theorem nU_eq (g : Int → V) : rU g = nU g := by
  funext x H Q
  refine propext ⟨fun ⟨i, e, q⟩ => by subst e; exact q, fun h => ?_⟩
  unfold nU at h
  split at h
  · exact ⟨_, rfl, h⟩
  · exact h.elim
def kTestN (Q : Bool → Hp → Prop) : VK := fun x H => match x with
  | .bl k => Q k H
  | _ => False
theorem m_kTestN (Q : Bool → Hp → Prop) (k : Bool) (H : Hp) : kTestN Q (.bl k) H = Q k H := rfl
theorem kTest_eq (Q : Bool → Hp → Prop) : kTest Q = kTestN Q := by
  funext x H
  refine propext ⟨fun ⟨k, e, q⟩ => by subst e; exact q, fun h => ?_⟩
  unfold kTestN at h
  split at h
  · exact ⟨_, rfl, h⟩
  · exact h.elim
def nTest (t : TE) : TT := fun σ H Q => t σ H (kTestN Q)
theorem m_nTest (t : TE) (σ : St) (H : Hp) (Q : Bool → Hp → Prop) : nTest t σ H Q = t σ H (kTestN Q) := rfl
theorem nTest_eq (t : TE) : tTest t = nTest t := by
  funext σ H Q
  show t σ H (kTest Q) = t σ H (kTestN Q)
  rw [kTest_eq]
theorem nTest_eqB (t : TE) : tB t = nTest t := nTest_eq t
def kAndN (tb : TE) (σ : St) (Q : VK) : VK := fun x H => match x with
  | .bl c => if c = true then tb σ H Q else Q (.bl false) H
  | _ => False
theorem m_kAndN (tb : TE) (σ : St) (Q : VK) (c : Bool) (H : Hp) : kAndN tb σ Q (.bl c) H = (if c = true then tb σ H Q else Q (.bl false) H) := rfl
def nAndV (ta tb : TE) : TE := fun σ H Q => ta σ H (kAndN tb σ Q)
theorem m_nAndV (ta tb : TE) (σ : St) (H : Hp) (Q : VK) : nAndV ta tb σ H Q = ta σ H (kAndN tb σ Q) := rfl
theorem nAndV_eq (ta tb : TE) : tAndV ta tb = nAndV ta tb := by
  funext σ H Q
  show ta σ H (kAndV tb σ Q) = ta σ H (kAndN tb σ Q)
  congr 1
  funext x H
  refine propext ⟨fun ⟨k, e, q⟩ => by subst e; exact q, fun h => ?_⟩
  unfold kAndN at h
  split at h
  · exact ⟨_, rfl, h⟩
  · exact h.elim
def kNotN (Q : VK) : VK := fun x H => match x with
  | .bl c => Q (.bl (!c)) H
  | _ => False
theorem m_kNotN (Q : VK) (c : Bool) (H : Hp) : kNotN Q (.bl c) H = Q (.bl (!c)) H := rfl
def nNotV (ta : TE) : TE := fun σ H Q => ta σ H (kNotN Q)
theorem m_nNotV (ta : TE) (σ : St) (H : Hp) (Q : VK) : nNotV ta σ H Q = ta σ H (kNotN Q) := rfl
theorem nNotV_eq (ta : TE) : tNotV ta = nNotV ta := by
  funext σ H Q
  show ta σ H (kNotV Q) = ta σ H (kNotN Q)
  congr 1
  funext x H
  refine propext ⟨fun ⟨k, e, q⟩ => by subst e; exact q, fun h => ?_⟩
  unfold kNotN at h
  split at h
  · exact ⟨_, rfl, h⟩
  · exact h.elim
def kChN2 (r' : R2) (tc : TE) (σ : St) (y : V) (Q : VK) : VK := fun z H => match z with
  | .bl k => if k = true then tc σ H (kCh3 r' y Q) else Q (.bl false) H
  | _ => False
theorem m_kChN2 (r' : R2) (tc : TE) (σ : St) (y : V) (Q : VK) (k : Bool) (H : Hp) : kChN2 r' tc σ y Q (.bl k) H = (if k = true then tc σ H (kCh3 r' y Q) else Q (.bl false) H) := rfl
theorem kCh2_eq (r' : R2) (tc : TE) (σ : St) (y : V) (Q : VK) : kCh2 r' tc σ y Q = kChN2 r' tc σ y Q := by
  funext z H
  refine propext ⟨fun ⟨k, e, q⟩ => by subst e; exact q, fun h => ?_⟩
  unfold kChN2 at h
  split at h
  · exact ⟨_, rfl, h⟩
  · exact h.elim
def kChN1 (r r' : R2) (tc : TE) (σ : St) (x : V) (Q : VK) : VK := fun y H => r x y H (kChN2 r' tc σ y Q)
theorem m_kChN1 (r r' : R2) (tc : TE) (σ : St) (x y : V) (Q : VK) (H : Hp) : kChN1 r r' tc σ x Q y H = r x y H (kChN2 r' tc σ y Q) := rfl
def kChN0 (r r' : R2) (tb tc : TE) (σ : St) (Q : VK) : VK := fun x H => tb σ H (kChN1 r r' tc σ x Q)
theorem m_kChN0 (r r' : R2) (tb tc : TE) (σ : St) (Q : VK) (x : V) (H : Hp) : kChN0 r r' tb tc σ Q x H = tb σ H (kChN1 r r' tc σ x Q) := rfl
def nChain (r r' : R2) (ta tb tc : TE) : TE := fun σ H Q => ta σ H (kChN0 r r' tb tc σ Q)
theorem m_nChain (r r' : R2) (ta tb tc : TE) (σ : St) (H : Hp) (Q : VK) : nChain r r' ta tb tc σ H Q = ta σ H (kChN0 r r' tb tc σ Q) := rfl
theorem nChain_eq (r r' : R2) (ta tb tc : TE) : tChain r r' ta tb tc = nChain r r' ta tb tc := by
  funext σ H Q
  show ta σ H (kCh0 r r' tb tc σ Q) = ta σ H (kChN0 r r' tb tc σ Q)
  congr 1
  funext x H1
  show tb σ H1 (kCh1 r r' tc σ x Q) = tb σ H1 (kChN1 r r' tc σ x Q)
  congr 1
  funext y H2
  show r x y H2 (kCh2 r' tc σ y Q) = r x y H2 (kChN2 r' tc σ y Q)
  rw [kCh2_eq]
def gNilN : TGs := fun vs σ H Q => match vs with
  | [] => Q σ H
  | _ => False
theorem m_gNilN (σ : St) (H : Hp) (Q : St → Hp → Prop) : gNilN [] σ H Q = Q σ H := rfl
theorem gNil_eq : gNil = gNilN := by
  funext vs σ H Q
  refine propext ⟨fun ⟨e, q⟩ => by subst e; exact q, fun h => ?_⟩
  unfold gNilN at h
  split at h
  · exact ⟨rfl, h⟩
  · exact h.elim
def gConsN (t : TG) (u : TGs) : TGs := fun vs σ H Q => match vs with
  | v :: r => t v σ H (kGs u r Q)
  | _ => False
theorem m_gConsN (t : TG) (u : TGs) (v : V) (r : List V) (σ : St) (H : Hp) (Q : St → Hp → Prop) : gConsN t u (v :: r) σ H Q = t v σ H (kGs u r Q) := rfl
theorem gCons_eq (t : TG) (u : TGs) : gCons t u = gConsN t u := by
  funext vs σ H Q
  refine propext ⟨fun ⟨v, r, e, q⟩ => by subst e; exact q, fun h => ?_⟩
  unfold gConsN at h
  split at h
  · exact ⟨_, _, rfl, h⟩
  · exact h.elim
theorem spx1 {α0 : Type} {f : α0 → List V} {B : α0 → Prop} (inj : ∀ a a', f a = f a' → a = a') (a : α0) : (∃ a', f a = f a' ∧ B a') = B a := propext ⟨fun ⟨a', e, q⟩ => by obtain rfl := inj _ _ e; exact q, fun q => ⟨a, rfl, q⟩⟩
theorem spl1 {α0 : Type} {f : α0 → List V} {B : α0 → Prop} {vs : List V} {n : Nat} (h : ∃ a, vs = f a ∧ B a) (l : ∀ a, (f a).length = n) : vs.length = n := by
  obtain ⟨_, rfl, _⟩ := h
  exact l _
theorem spx2 {α0 α1 : Type} {f : α0 → α1 → List V} {B : α0 → α1 → Prop} (inj : ∀ a b a' b', f a b = f a' b' → a = a' ∧ b = b') (a : α0) (b : α1) : (∃ a' b', f a b = f a' b' ∧ B a' b') = B a b := propext ⟨fun ⟨a', b', e, q⟩ => by obtain ⟨rfl, rfl⟩ := inj _ _ _ _ e; exact q, fun q => ⟨a, b, rfl, q⟩⟩
theorem spl2 {α0 α1 : Type} {f : α0 → α1 → List V} {B : α0 → α1 → Prop} {vs : List V} {n : Nat} (h : ∃ a b, vs = f a b ∧ B a b) (l : ∀ a b, (f a b).length = n) : vs.length = n := by
  obtain ⟨_, _, rfl, _⟩ := h
  exact l _ _
theorem spx3 {α0 α1 α2 : Type} {f : α0 → α1 → α2 → List V} {B : α0 → α1 → α2 → Prop} (inj : ∀ a b c a' b' c', f a b c = f a' b' c' → a = a' ∧ b = b' ∧ c = c') (a : α0) (b : α1) (c : α2) : (∃ a' b' c', f a b c = f a' b' c' ∧ B a' b' c') = B a b c := propext ⟨fun ⟨a', b', c', e, q⟩ => by obtain ⟨rfl, rfl, rfl⟩ := inj _ _ _ _ _ _ e; exact q, fun q => ⟨a, b, c, rfl, q⟩⟩
theorem spl3 {α0 α1 α2 : Type} {f : α0 → α1 → α2 → List V} {B : α0 → α1 → α2 → Prop} {vs : List V} {n : Nat} (h : ∃ a b c, vs = f a b c ∧ B a b c) (l : ∀ a b c, (f a b c).length = n) : vs.length = n := by
  obtain ⟨_, _, _, rfl, _⟩ := h
  exact l _ _ _
theorem spx4 {α0 α1 α2 α3 : Type} {f : α0 → α1 → α2 → α3 → List V} {B : α0 → α1 → α2 → α3 → Prop} (inj : ∀ a b c d a' b' c' d', f a b c d = f a' b' c' d' → a = a' ∧ b = b' ∧ c = c' ∧ d = d') (a : α0) (b : α1) (c : α2) (d : α3) : (∃ a' b' c' d', f a b c d = f a' b' c' d' ∧ B a' b' c' d') = B a b c d := propext ⟨fun ⟨a', b', c', d', e, q⟩ => by obtain ⟨rfl, rfl, rfl, rfl⟩ := inj _ _ _ _ _ _ _ _ e; exact q, fun q => ⟨a, b, c, d, rfl, q⟩⟩
theorem spl4 {α0 α1 α2 α3 : Type} {f : α0 → α1 → α2 → α3 → List V} {B : α0 → α1 → α2 → α3 → Prop} {vs : List V} {n : Nat} (h : ∃ a b c d, vs = f a b c d ∧ B a b c d) (l : ∀ a b c d, (f a b c d).length = n) : vs.length = n := by
  obtain ⟨_, _, _, _, rfl, _⟩ := h
  exact l _ _ _ _
theorem len0 {P : List Value → Prop} (h : P []) : ∀ us : List Value, us.length = 0 → P us := fun us e => by
  cases us with
  | nil => exact h
  | cons a r => cases e
theorem len1 {P : List Value → Prop} (h : ∀ a, P [a]) : ∀ us : List Value, us.length = 1 → P us := fun us e => by
  cases us with
  | nil => cases e
  | cons x r => exact len0 (P := fun r => P (x :: r)) (h x) r (Nat.succ.inj e)
theorem len2 {P : List Value → Prop} (h : ∀ a b, P [a, b]) : ∀ us : List Value, us.length = 2 → P us := fun us e => by
  cases us with
  | nil => cases e
  | cons x r => exact len1 (P := fun r => P (x :: r)) (h x) r (Nat.succ.inj e)
theorem len3 {P : List Value → Prop} (h : ∀ a b c, P [a, b, c]) : ∀ us : List Value, us.length = 3 → P us := fun us e => by
  cases us with
  | nil => cases e
  | cons x r => exact len2 (P := fun r => P (x :: r)) (h x) r (Nat.succ.inj e)
theorem len4 {P : List Value → Prop} (h : ∀ a b c d, P [a, b, c, d]) : ∀ us : List Value, us.length = 4 → P us := fun us e => by
  cases us with
  | nil => cases e
  | cons x r => exact len3 (P := fun r => P (x :: r)) (h x) r (Nat.succ.inj e)
section
variable {X : Cx}
theorem pvN (i : Nat) {x : Str} {pos : Pos} (hN : X.N[i]? = some x := by rfl) (hv : Vis X.env.scope x := by first | exact Or.inl rfl | exact Or.inr (Or.inl rfl) | exact Or.inr (Or.inr rfl)) (hd : (x == ("__debug__" : Str)) = false := by decide)
    (hcd : (x == ("__classdict__" : Str)) = false := by decide) : PE X (.Name x pos) (tV i) := by rw [← tV_eq]; exact pv i hN hv hd hcd
theorem on_add : OpR X (binaryOp .Add) (nI0 fun i j => .int (i + j)) := by rw [← nI0_eq]; exact op_add
theorem on_sub : OpR X (binaryOp .Sub) (nI0 fun i j => .int (i - j)) := by rw [← nI0_eq]; exact op_sub
theorem on_lt : OpR X (compareOp .Lt) (nI0 fun i j => .bl (decide (i < j))) := by rw [← nI0_eq]; exact op_lt
theorem on_le : OpR X (compareOp .LtE) (nI0 fun i j => .bl (decide (i ≤ j))) := by rw [← nI0_eq]; exact op_le
theorem on_gt : OpR X (compareOp .Gt) (nI0 fun i j => .bl (decide (j < i))) := by rw [← nI0_eq]; exact op_gt
theorem on_ge : OpR X (compareOp .GtE) (nI0 fun i j => .bl (decide (j ≤ i))) := by rw [← nI0_eq]; exact op_ge
theorem on_mul : OpR X (binaryOp .Mult) (nI CMul fun i j => .int (i * j)) := by rw [← nI_eq]; exact op_mul
theorem on_fdiv : OpR X (binaryOp .FloorDiv) (nI CDiv fun i j => .int (i / j)) := by rw [← nI_eq]; exact op_fdiv
theorem on_fdivB : OpR X (binaryOp .FloorDiv) (nI CDivB fun i j => .int (i.fdiv j)) := by rw [← nI_eq]; exact op_fdivB
theorem on_mod : OpR X (binaryOp .Mod) (nI (fun _ j => 0 < j) fun i j => .int (i % j)) := by rw [← nI_eq]; exact op_mod
theorem on_pow : OpR X (binaryOp .Pow) (nI CPow fun i j => .int (i ^ j.toNat)) := by rw [← nI_eq]; exact op_pow
theorem un_negN : UnR X (unaryOp .USub) (nU fun i => .int (-i)) := by rw [← nU_eq]; exact un_neg
variable {a b c d e : Expr} {ta tb tc td t : TE} {pos : Pos}
theorem pt_cmpRN {op : CmpOp} {r : R2} (ho : OpR X (compareOp op) r) (ha : PE X a ta) (hb : PE X b tb) (hm : behindInMarks op b = false) : PT X (.Compare a [op] [b] pos) (nTest (tOp r ta tb)) := by rw [← nTest_eq]; exact pt_cmpR ho ha hb hm
theorem pt_valN (h : PE X e t) (he : ∀ whole, isTrue e X.env whole = (do let v ← whole; standAt e.pos; holding [v] (truthy v)) := by intro _; rfl) : PT X e (nTest t) := by rw [← nTest_eqB]; exact pt_val h he
theorem pe_chainN {op op' : CmpOp} {r r' : R2} (ho : OpR X (compareOp op) r) (ho' : OpR X (compareOp op') r') (ha : PE X a ta) (hb : PE X b tb) (hc : PE X c tc)
    (hm : lastMarks [op, op'] [b, c] = false := by with_unfolding_all rfl) : PE X (.Compare a [op, op'] [b, c] pos) (nChain r r' ta tb tc) := by rw [← nChain_eq]; exact pe_chain ho ho' ha hb hc hm
variable {rest : List Expr}
theorem pe_andN (ha : PE X a ta) (hb : PE X (.BoolOp .And (b :: rest) pos) tb) : PE X (.BoolOp .And (a :: b :: rest) pos) (nAndV ta tb) := by rw [← nAndV_eq]; exact pe_and ha hb
theorem pe_notN (ha : PE X a ta) : PE X (.UnaryOp .Not a pos) (nNotV ta) := by rw [← nNotV_eq]; exact pe_not ha
theorem pgs_nilN : PGs X [] gNilN := by rw [← gNil_eq]; exact pgs_nil
theorem pgs_consN {e : Expr} {es : List Expr} {t : TG} {u : TGs} (h1 : PG X e t) (h2 : PGs X es u)
    (hs : (assignEach (e :: es) X.env).map (·.2) = assign e X.env :: (assignEach es X.env).map (·.2) := by rfl) : PGs X (e :: es) (gConsN t u) := by rw [← gCons_eq]; exact pgs_cons h1 h2 hs
end
theorem if_gen {c : TT} {t u : TS} {nx : St → Hp → Prop} {rt : VK} {bk ct : St → Hp → Prop} {σ : St} {H : Hp} (R : St → Hp → Prop) (h : ∀ nx' : St → Hp → Prop, (∀ σ' H', R σ' H' → nx' σ' H') → tIfS c t u ⟨nx', rt, bk, ct⟩ σ H) (k : ∀ σ' H', R σ' H' → nx σ' H') : tIfS c t u ⟨nx, rt, bk, ct⟩ σ H := h nx k
end L2
set_option Elab.async false
set_option linter.all false
set_option maxRecDepth 100000
set_option maxHeartbeats 4000000
namespace L2
open PySem PySem.Spec PyProof.Rows
end L2
set_option Elab.async false
set_option linter.all false
set_option maxRecDepth 100000
set_option maxHeartbeats 4000000
namespace L2
open PySem PySem.Spec PyProof.Rows
def kInI (neg : Bool) (x : V) (H : Hp) (Q : VK) : List V → Prop := fun xs => flatV x = true ∧ xs.all flatV = true ∧ Q (.bl (if neg = true then !inV x xs else inV x xs)) H
theorem m_kInI (neg : Bool) (x : V) (H : Hp) (Q : VK) (xs : List V) : kInI neg x H Q xs = (flatV x = true ∧ xs.all flatV = true ∧ Q (.bl (if neg = true then !inV x xs else inV x xs)) H) := rfl
def nIn (neg : Bool) : R2 := fun x y H Q => match y with
  | .ref p => optK (itemsAt H p) (kInI neg x H Q)
  | _ => False
theorem m_nIn (neg : Bool) (x : V) (p : Addr) (H : Hp) (Q : VK) : nIn neg x (.ref p) H Q = optK (itemsAt H p) (kInI neg x H Q) := rfl
theorem rIn_of {K : PySem.W.Frag} {neg : Bool} {x y : V} {H : Hp} {Q : VK} (h : nIn neg x y H Q) : rIn K neg x y H Q := by
  unfold nIn at h
  split at h
  · rename_i p
    obtain ⟨xs, e, h1, h2, q⟩ := optK_ex h
    exact ⟨p, xs, rfl, items_seq e, h1, h2, q⟩
  · exact h.elim
theorem op_nNotIn {X : Cx} : OpR X (compareOp .NotIn) (nIn true) := op_notIn_seq.mono fun x y H Q h => rIn_of h
section
variable {X : Cx}
end
end L2
set_option Elab.async false
set_option linter.all false
set_option maxRecDepth 100000
set_option maxHeartbeats 4000000
namespace L2
open PySem PySem.Spec PyProof.Rows
section
variable {prog : Program} {w : World} {A : Around} {E : Value → Shared → Prop} {s : Shared}
end
section
variable {X : Cx}
end
end L2
set_option Elab.async false
set_option linter.all false
set_option maxRecDepth 100000
set_option maxHeartbeats 4000000
namespace L2
open PySem PySem.Spec PyProof.Rows
end L2
set_option Elab.async false
set_option linter.all false
set_option maxRecDepth 100000
set_option maxHeartbeats 4000000
namespace L2
open PySem PySem.Spec PyProof.Rows
section
variable {k : Nat} {g : TG} {tt : TT} {te : TE} {σ : St} {Q : VK} {H : Hp}
end
end L2
set_option Elab.async false
set_option linter.all false
set_option maxRecDepth 100000
set_option maxHeartbeats 4000000
namespace L2
open PySem PySem.Spec PyProof.Rows
structure IsC (K : PySem.W.Frag) (C : Addr) : Prop where
  cl : Cls K C
  fc : PySem.W.findIn K (.ref C) "__class__" = some (some (.builtin "object.__class__"))
  ocs : PySem.W.specialIn K (.builtin "object.__class__") "__get__" = some (some (.builtin "getset_descriptor.__get__"))
  oct : PySem.W.takesIn K (.builtin "object.__class__") = some true
  mo : PySem.W.mroIn K C (.type "object") = some true
end L2
set_option Elab.async false
set_option linter.all false
set_option maxRecDepth 100000
set_option maxHeartbeats 4000000
namespace L2
open PySem PySem.Spec PyProof.Rows
section
variable {X : Cx}
end
end L2
set_option Elab.async false
set_option linter.all false
set_option maxRecDepth 100000
set_option maxHeartbeats 4000000
namespace L2
open PySem PySem.Spec PyProof.Rows PySem.W
section
variable {prog : Program} {w : World} {A : Around} {E : Value → Shared → Prop} {K : Frag} {x C dx : Addr} {s : Shared} {name : Str} {v : Value}
end
section
variable {X : Cx} {e o value : Expr} {ta tv : TE} {f : Str} {pos pos' : Pos}
end
end L2
set_option Elab.async false
set_option linter.all false
set_option maxRecDepth 100000
set_option maxHeartbeats 4000000
namespace L2
open PySem PySem.Spec PyProof.Rows
open Sem (wp)
open AutoSeq1 (wpAny_loadPart')
section
variable {X : Cx}
end
end L2
set_option Elab.async false
set_option linter.all false
set_option maxRecDepth 100000
set_option maxHeartbeats 4000000
namespace L2
open PySem PySem.Spec PyProof.Rows
end L2
set_option Elab.async false
set_option linter.all false
set_option maxRecDepth 100000
set_option maxHeartbeats 4000000
namespace L2
open PySem PySem.Spec PyProof.Rows
def NoCtx (o : Obj) : Prop := ∃ vs, o.data = .fields vs ∧ vs[2]? = some .none
section
variable {prog : Program} {w : World} {A : Around} {E : Value → Shared → Prop} {s : Shared}
end
def Hand (X : Cx) : Prop := ∃ (e : Addr) (oe : Obj) (u : HO), X.A.handled = some (.ref e) ∧ X.H₀ e = some (.frz oe u) ∧ NoCtx oe
structure TurnH (P : Program) (w : World) (K : PySem.W.Frag) (tg : Expr) (J : It) (fp : List Addr) (it : Addr) (tn : Nat → Heap → Prop) : Prop where
  mem : it ∈ fp
  obj : ∀ i h, tn i h → ∀ b ∈ fp, ∃ o, h.get? b = some o ∧ ∀ v, o.data ≠ .cell v
  keep : ∀ i h h', tn i h → (∀ b ∈ fp, ∀ o, h.get? b = some o → h'.get? b = some o) → tn i h'
  item : ∀ (X : Cx), X.prog = P → X.w = w → X.K = K → Hand X → ∀ (i : Nat) (pins : List (Addr × Obj)) (s : Shared) (σ : St) (H : Hp) (E : Value → Shared → Prop), Inv X pins σ H s → (∀ b ∈ fp, FpOk X pins H b) → tn i s.heap → J.go i H →
    wpAny (model P w) X.A (pyNext (.ref it)) (fun r s1 => ∃ u, r = some u ∧
      wpAny (model P w) X.A (letOwnedTupleGo tg (.ref it) u) (fun _ s2 => ∃ x H', Inv X pins σ H' s2 ∧ RelV x u ∧ J.yld i H x H' ∧ tn (i + 1) s2.heap ∧ ∀ b ∈ fp, H' b = none) E s1) E s
  done : ∀ (X : Cx), X.prog = P → X.w = w → X.K = K → Hand X → ∀ (i : Nat) (pins : List (Addr × Obj)) (s : Shared) (σ : St) (H : Hp) (E : Value → Shared → Prop), Inv X pins σ H s → (∀ b ∈ fp, FpOk X pins H b) → tn i s.heap → J.stop i H →
    wpAny (model P w) X.A (pyNext (.ref it)) (fun r s1 => r = none ∧ Inv X pins σ H s1) E s
section
variable {X : Cx} {tg : Expr}
end
structure RoomH (k : Nat) (e : Addr) (A : Around) : Prop where
  hd : A.handled = some (.ref e)
  dp : A.depth + 3 * k + 5 < recursionLimit
  un : A.units + 16 * k + 200 < cLine
structure FnOkH (P : Program) (w : World) (K : PySem.W.Frag) (mg : Str → Option Value) (base : Heap) (CX : CXT) (k : Nat) (f : Addr) (fd : FuncData) (ps : List Str) (sp : Sp) : Prop where
  len : ∀ vs H Q E, sp vs H Q E → vs.length = ps.length
  run : ∀ (A : Around) (outer : List Env) (s : Shared) (H : Hp) (args : Args) (us : List Value) (vs : List V) (Q : VK) (E : XK) (e : Addr) (oe : Obj) (u : HO), RoomH k e A → H e = some (.frz oe u) → NoCtx oe → Env0 P w K mg base A outer s H → BindsTo s fd args (ps.zip us) → Vals vs us → sp vs H Q E →
    codeAny (model P w) A (.call (.ref f) args) (CR CX outer P w H s Q E) s
section
variable {X : Cx}
end
end L2
set_option Elab.async false
set_option linter.all false
set_option maxRecDepth 100000
set_option maxHeartbeats 4000000
namespace L2
open PySem PySem.Spec PyProof.Rows
section
variable {prog : Program} {w : World} {A : Around} {E : Value → Shared → Prop} {s : Shared}
structure Apart3 (z TI TO i j l : Addr) (f g e : List Addr) : Prop where
  ti : TI ≠ z ∧ TI ≠ TO ∧ TI ≠ i ∧ TI ≠ j ∧ TI ≠ l
  zt : z ≠ TO
  zf : z ∉ f
  zg : z ∉ g
  ze : z ∉ e
  tf : TO ∉ f
  tg : TO ∉ g
  te : TO ∉ e
  ig : i ∉ g
  ie : i ∉ e
  jf : j ∉ f
  je : j ∉ e
  lf : l ∉ f
  lg : l ∉ g
variable {z TI TO i j l : Addr} {f g e : List Addr} {ti tj tl : Nat → Heap → Prop} {vi vj vl : Nat → Option Value} {k m n : Nat} {x y u a b c : Value}
end
section
variable {prog : Program} {w : World} {A : Around} {E : Value → Shared → Prop} {s : Shared}
end
section
variable {X : Cx}
end
end L2
set_option Elab.async false
set_option linter.all false
set_option maxRecDepth 100000
set_option maxHeartbeats 4000000
namespace L2
open PySem PySem.Spec PyProof.Rows
end L2
set_option Elab.async false
set_option linter.all false
set_option maxRecDepth 100000
set_option maxHeartbeats 4000000
namespace L2
open PySem PySem.Spec PyProof.Rows
section
variable {X : Cx}
end
end L2
set_option Elab.async false
set_option linter.all false
set_option maxRecDepth 100000
set_option maxHeartbeats 4000000
namespace L2
open PySem PySem.Spec PyProof.Rows
section
variable {prog : Program} {w : World} {A : Around} {R : Result → Shared → Prop} {J : Addr} {fp wr : List Addr} {G : Array GenState → Array GenState → Prop} {n : Nat} {P : Nat → Value → Prop} {St : Nat → Shared → Prop}
end
section
variable {prog : Program} {w : World} {A : Around} {R : Result → Shared → Prop} {J : Addr} {fp wr : List Addr} {G : Array GenState → Array GenState → Prop} {n : Nat} {P : Nat → Value → Prop} {St : Nat → Shared → Prop}
end
end L2
set_option Elab.async false
set_option linter.all false
set_option maxRecDepth 100000
set_option maxHeartbeats 4000000
namespace L2
open PySem PySem.Spec PyProof.Rows
end L2
set_option Elab.async false
set_option linter.all false
set_option maxRecDepth 100000
set_option maxHeartbeats 4000000
namespace L2
open PySem PySem.Spec PyProof.Rows
abbrev PKy := List Int × List Int
section
variable {prog : Program} {w : World}
end
section
variable {P : Program} {w : World} {H : Hp} {h : Heap} {a : Addr}
end
section
variable {X : Cx} {pins : List (Addr × Obj)} {σ : St} {H : Hp} {s : Shared} {d b : Addr} {k : PKy} {Z : List PKy} {A : Around} {E : Value → Shared → Prop}
theorem stored_mem {xs : List (PKy × Addr × Value)} {v : Value} : ∀ x ∈ storedH xs k b v, (∃ y ∈ xs, x.1 = y.1 ∧ x.2.1 = y.2.1) ∨ (x.1 = k ∧ x.2.1 = b) := by
  intro x hx
  unfold storedH at hx
  split at hx
  · obtain ⟨y, hy, rfl⟩ := List.mem_map.mp hx
    refine .inl ⟨y, hy, ?_⟩
    unfold putAt
    split <;> exact ⟨rfl, rfl⟩
  · rcases List.mem_append.mp hx with h | h
    · exact .inl ⟨x, h, rfl, rfl⟩
    · rw [List.mem_singleton.mp h]; exact .inr ⟨rfl, rfl⟩
end
section
variable {X : Cx}
end
end L2
set_option Elab.async false
set_option linter.all false
set_option maxRecDepth 100000
set_option maxHeartbeats 4000000
namespace L2
open PySem PySem.Spec PyProof.Rows
end L2
set_option Elab.async false
set_option linter.all false
set_option maxRecDepth 100000
set_option maxHeartbeats 1000000
namespace L2
open PySem PySem.Spec PyProof.Rows
section
variable {X : Cx} {e st : Expr} {te tst : TE} {pos p2 : Pos}
end
end L2
set_option Elab.async false
set_option linter.all false
set_option maxRecDepth 100000
set_option maxHeartbeats 4000000
namespace L2
open PySem PySem.Spec PyProof.Rows
section
variable {X : Cx}
end
end L2
set_option Elab.async false
set_option linter.all false
set_option maxRecDepth 100000
set_option maxHeartbeats 4000000
namespace L2
open PySem PySem.Spec PyProof.Rows
section
variable {X : Cx} {a b : Expr} {ta tb : TE} {pos : Pos} {rest : List Expr}
end
end L2
set_option Elab.async false
set_option linter.all false
set_option maxRecDepth 100000
set_option maxHeartbeats 4000000
namespace L2
open PySem PySem.Spec PyProof.Rows PySem.SeqAt
section
variable {X : Cx}
end
structure Mk0 (K : PySem.W.Frag) (C : Addr) : Prop where
  makes : PySem.W.makesIn K C = true
  init : PySem.W.findIn K (.ref C) "__init__" = some (some (.builtin "object.__init__"))
  kp : PySem.W.keepIn K (.ref C) = true
end L2
set_option Elab.async false
set_option linter.all false
set_option maxRecDepth 100000
set_option maxHeartbeats 4000000
namespace L2
open PySem PySem.Spec PyProof.Rows
structure MD (P : Program) (w : World) (K : PySem.W.Frag) (mg : Str → Option Value) (base : Heap) (CX : CXT) (k : Nat) (m : Str) (C : Addr) (sp : Sp) : Prop where
  c : Cls K C
  ex : ∃ f fd ps, Meth K C m f ∧ FnOk P w K mg base CX k f fd ps sp ∧ Binds K fd ps []
section
variable {k : Nat} {g : TG} {tt : TT} {te : TE} {σ : St} {Q : VK} {H : Hp}
end
end L2
set_option Elab.async false
set_option linter.all false
set_option maxRecDepth 100000
set_option maxHeartbeats 4000000
namespace L2
open PySem PySem.Spec PyProof.Rows
section
variable {X : Cx}
end
end L2
set_option Elab.async false
set_option linter.all false
set_option maxRecDepth 100000
set_option maxHeartbeats 4000000
namespace L2
open PySem PySem.Spec PyProof.Rows
section
variable {X : Cx} {CX : CXT} {n k : Nat} {cl : Nat → Addr} {m : Str} {sp : Nat → Sp} {pos apos : Pos} {o e : Expr} {es : List Expr} {ta : TE} {t : TA}
end
end L2
set_option Elab.async false
set_option linter.all false
set_option maxRecDepth 100000
set_option maxHeartbeats 4000000
namespace L2
open PySem PySem.Spec PyProof.Rows
def nMakeX (C : Addr) (sp : Sp) (dvs : List V) (E : St → XK) (t : TA) : TE := fun σ H Q => nMake C sp dvs (E σ) t σ H Q
theorem m_nMakeX (C : Addr) (sp : Sp) (dvs : List V) (E : St → XK) (t : TA) (σ : St) (H : Hp) (Q : VK) : nMakeX C sp dvs E t σ H Q = nMake C sp dvs (E σ) t σ H Q := rfl
section
variable {X : Cx} {CX : CXT} {k : Nat} {f C : Addr} {fd : FuncData} {ps : List Str} {sp : Sp} {dvs : List V} {ds : List Value} {E : St → XK} {x : Str} {p pos : Pos} {e : Expr} {es : List Expr} {t : TA}
theorem run_makeX {pins : List (Addr × Obj)} {σ : St} {H : Hp} {s : Shared} {Q : VK} {us : List Value} {vs : List V} (M : Mk X.K C f) (F : FnOk X.prog X.w X.K X.mg X.base CX k f fd ps sp) (hr : Room (k + 1) X.A) (hb : Binds X.K fd ps ds) (hd : Vals dvs ds)
    (hx : ∀ σ, PassAt CX X (E σ) σ) (I : Inv X pins σ H s) (r : Vals vs us)
    (h : ∀ x dx, H x = none → H dx = none → dx ≠ x → sp (.ref x :: (vs ++ dvs)) (upd (upd H dx (.own x)) x (.ins C dx [])) (fun v H2 => v = .non ∧ Q (.ref x) H2) (E σ)) :
    wpAny (model X.prog X.w) X.A (call (.ref C) us) (EP X pins σ Q) X.xe s := by
  have hq := h (s.heap.objs.size + 1) s.heap.objs.size (I.hok.fresh (Nat.le_succ _)) (I.hok.fresh (Nat.le_refl _)) (Nat.ne_of_lt (Nat.lt_succ_self _))
  have I2 := Inv.made (C := C) I
  have r2 : Vals (V.ref (s.heap.objs.size + 1) :: (vs ++ dvs)) (Value.ref (s.heap.objs.size + 1) :: (us ++ ds)) := .cons rfl (r.append hd)
  have hl : (Value.ref (s.heap.objs.size + 1) :: us ++ ds).length = ps.length := by
    have e := r2.length
    rw [F.len _ _ _ _ hq] at e
    exact e.symm
  refine wpAny_call (make_map (f := f) I.kIn M.makes M.init (beq_iff_eq.mp M.fn) (codeAny_mono (F.run _ X.stack _ _ ⟨Value.ref (s.heap.objs.size + 1) :: us, []⟩ (Value.ref (s.heap.objs.size + 1) :: (us ++ ds)) _ _ (E σ) (hr.make C us [])
    (I2.env0.make C us []) (hb _ (Value.ref (s.heap.objs.size + 1) :: us) I2.kIn hl) r2 hq) fun r s' hq' => ?_))
  cases r with
  | error e => exact hx σ pins _ _ e s' I2 hq'
  | ok fl =>
    cases fl with
    | ret u =>
      obtain ⟨v, H', I3, rv, ev, q3⟩ := I2.after hq'
      subst ev
      exact ⟨rv, ⟨V.ref (s.heap.objs.size + 1), H', I3, rfl, q3⟩⟩
    | next => exact False.elim hq'
    | brk => exact False.elim hq'
    | cont => exact False.elim hq'
theorem pe_nMakeX (M : Mk X.K C f) (F : FnOk X.prog X.w X.K X.mg X.base CX k f fd ps sp) (hr : Room (k + 1) X.A) (hg : Gl X x) (hm : X.mg x = some (.ref C)) (hb : Binds X.K fd ps ds) (hd : Vals dvs ds) (hx : ∀ σ, PassAt CX X (E σ) σ)
    (ha : PA X (e :: es) t) (hdb : (x == ("__debug__" : Str)) = false := by decide) (he : starEach (e :: es) X.env = (false, eval e X.env) :: starEach es X.env := by rfl) (hpl : (backTo pos (starEach es X.env)).any (·.1) = false := by rfl) :
    PE X (.Call (.Name x p) (e :: es) [] pos) (nMakeX C sp dvs E t) := by
  intro pins s σ H Q I h
  refine wpAny_Call_Name_kw (ld_glob I hg hm ?_ hdb)
  refine PySem.W.callWith_K (h₀ := X.base) I.ok.mod.kin M.kp (thn (ha pos pins s σ H _ I h) fun us s1 ⟨vs, H1, I1, r, q⟩ => ⟨I1.kIn, ?_⟩) he hpl
  exact run_makeX M F hr hb hd hx I1 r q.to
end
end L2
set_option Elab.async false
set_option linter.all false
set_option maxRecDepth 100000
set_option maxHeartbeats 4000000
namespace L2
open PySem PySem.Spec PyProof.Rows
section
variable {X : Cx}
end
end L2
set_option Elab.async false
set_option linter.all false
set_option maxRecDepth 100000
set_option maxHeartbeats 4000000
namespace L2
open PySem PySem.Spec PyProof.Rows
section
variable {X : Cx}
end
end L2
set_option Elab.async false
set_option linter.all false
set_option maxRecDepth 100000
set_option maxHeartbeats 4000000
namespace L2
open PySem PySem.Spec PyProof.Rows
section
variable {X : Cx}
end
end L2
set_option Elab.async false
set_option linter.all false
set_option maxRecDepth 100000
set_option maxHeartbeats 4000000
namespace L2
open PySem PySem.Spec PyProof.Rows
section
variable {X : Cx} {tg : Expr}
end
section
variable {X : Cx}
end
end L2
set_option Elab.async false
set_option linter.all false
set_option maxRecDepth 100000
set_option maxHeartbeats 4000000
namespace L2
open PySem PySem.Spec PyProof.Rows
end L2
namespace HT
open PySem PySem.Spec PyProof.Rows
section
variable {prog : Program} {w : World} {A : Around} {E : Value → Shared → Prop} {s : Shared}
end
end HT
namespace L2
open PySem PySem.Spec PyProof.Rows
end L2
set_option Elab.async false
set_option linter.all false
set_option maxRecDepth 100000
set_option maxHeartbeats 4000000
namespace L2
open PySem PySem.Spec PyProof.Rows
section
variable {X : Cx}
end
end L2
set_option Elab.async false
set_option linter.all false
set_option maxRecDepth 100000
set_option maxHeartbeats 4000000
namespace L2
open PySem PySem.Spec PyProof.Rows
end L2
set_option Elab.async false
set_option linter.all false
set_option maxRecDepth 100000
set_option maxHeartbeats 4000000
namespace L2
open PySem PySem.Spec PyProof.Rows
section
variable {prog : Program} {w : World} {A : Around} {E : Value → Shared → Prop} {s : Shared}
end
end L2
set_option Elab.async false
set_option linter.all false
set_option maxRecDepth 100000
set_option maxHeartbeats 4000000
namespace L2
open PySem PySem.Spec PyProof.Rows
end L2
set_option Elab.async false
set_option linter.all false
set_option maxRecDepth 100000
set_option maxHeartbeats 4000000
namespace L2
open PySem PySem.Spec PyProof.Rows
section
variable {prog : Program} {w : World} {A : Around} {E : Value → Shared → Prop} {s : Shared} {a₀ : Array Keyed}
end
section
variable {X : Cx}
end
end L2
set_option Elab.async false
set_option linter.all false
set_option maxRecDepth 100000
set_option maxHeartbeats 4000000
namespace L2
open PySem PySem.Spec PyProof.Rows
section
variable {X : Cx} {k : Nat} {f : Addr} {fd : FuncData} {ps : List Str} {sp : Sp}
end
end L2
set_option Elab.async false
set_option linter.all false
set_option maxRecDepth 100000
set_option maxHeartbeats 4000000
namespace L2
open PySem PySem.Spec PyProof.Rows
section
variable {n : Nat} (h0 : 0 < n)
include h0
end
section
variable {prog : Program} {w : World} {A : Around} {E : Value → Shared → Prop} {s : Shared}
end
end L2
set_option Elab.async false
set_option linter.all false
set_option maxRecDepth 100000
set_option maxHeartbeats 4000000
namespace L2
open PySem PySem.Spec PyProof.Rows
section
variable {g : TG} {tb : TS} {nx : St → Hp → Prop} {rt : VK} {bk ct : St → Hp → Prop} {σ : St} {H : Hp}
end
section
variable {prog : Program} {w : World} {A : Around} {E : Value → Shared → Prop} {s : Shared}
end
section
variable {g : TG} {tb : TS} {nx : St → Hp → Prop} {rt : VK} {bk ct : St → Hp → Prop} {σ : St} {H : Hp}
end
end L2
set_option Elab.async false
set_option linter.all false
set_option maxRecDepth 100000
set_option maxHeartbeats 4000000
namespace L2
open PySem PySem.Spec PyProof.Rows
end L2
set_option Elab.async false
set_option linter.all false
set_option maxRecDepth 100000
set_option maxHeartbeats 4000000
namespace L2
open PySem PySem.Spec PyProof.Rows
end L2
set_option Elab.async false
set_option linter.all false
set_option maxRecDepth 100000
set_option maxHeartbeats 4000000
namespace L2
open PySem PySem.Spec PyProof.Rows
section
variable {X : Cx} {pins : List (Addr × Obj)} {σ : St} {H : Hp} {s : Shared}
end
end L2
set_option Elab.async false
set_option linter.all false
set_option maxRecDepth 100000
set_option maxHeartbeats 4000000
namespace L2
open PySem PySem.Spec PyProof.Rows
end L2
set_option Elab.async false
set_option linter.all false
set_option maxRecDepth 100000
set_option maxHeartbeats 4000000
namespace L2
open PySem PySem.Spec PyProof.Rows
end L2
set_option Elab.async false
set_option linter.all false
set_option maxRecDepth 100000
set_option maxHeartbeats 1000000
namespace L2
open PySem PySem.Spec PyProof.Rows
section
variable {X : Cx} {e lo st : Expr} {te tlo tst : TE} {pos p2 : Pos}
end
end L2
set_option Elab.async false
set_option linter.all false
set_option maxRecDepth 100000
set_option maxHeartbeats 4000000
namespace L2
open PySem PySem.Spec PyProof.Rows
def dkP : Key × V → Option (PyData × PyData)
  | (.inl k, .int v) => some (.int k, .int v)
  | _ => none
def repI (H : Hp) : V → Option PyData
  | .ref q => match H q with
    | some (.dK kvs) => (allSome (kvs.map dkP)).map .dict
    | _ => datV H 5 (.ref q)
  | x => datV H 5 x
def qRep : List V → Hp → VK → Prop := fun vs H Q => ∃ p xs ds, vs = [.ref p] ∧ H p = some (.tup xs) ∧ allSome (xs.map (repI H)) = some ds ∧ PyData.showableAll ds = true ∧ (tupleText (PyData.shownAll ds)).length ≤ sizeLine ∧ Q (.str (tupleText (PyData.shownAll ds))) H
theorem use_rep {p : Addr} {xs : List V} {ds : List PyData} {H : Hp} {Q : VK} (e : H p = some (.tup xs)) (h1 : allSome (xs.map (repI H)) = some ds) (h2 : PyData.showableAll ds = true) (h3 : (tupleText (PyData.shownAll ds)).length ≤ sizeLine) (q : Q (.str (tupleText (PyData.shownAll ds))) H) : qRep [.ref p] H Q := ⟨p, xs, ds, rfl, e, h1, h2, h3, q⟩
section
variable {X : Cx} {pins : List (Addr × Obj)} {σ : St} {H : Hp} {s : Shared}
theorem pairs_reads {h : Heap} {P : Program} {w : World} : ∀ {kvs : List (Key × V)} {vs : List (Key × Value)} {es : List DictEntry} {ds : List (PyData × PyData)}, allSome (kvs.map dkP) = some ds → KV kvs vs → Pairs (mixKind P w) es vs → ReadsAll h (es.map (·.key)) (ds.map (·.1)) [] ∧ ReadsAll h (es.map (·.val)) (ds.map (·.2)) [] ∧ PyData.depthKv ds = 0
  | [], vs, es, ds, h1, h2, h3 => by
    cases h1
    cases h2
    cases h3
    exact ⟨.nil, .nil, by simp only [PyData.depthKv]⟩
  | kv :: kvs, vs, es, ds, h1, h2, h3 => by
    cases h2 with
    | cons hr ht =>
      rename_i q qs
      cases h3 with
      | cons hk hv hp =>
        rename_i e es'
        have h1' : (dkP kv).bind (fun d => (allSome (kvs.map dkP)).map fun ds => d :: ds) = some ds := h1
        obtain ⟨k, v⟩ := kv
        match k, v, h1' with
        | .inl k, .int v, h1' =>
          cases e2 : allSome (kvs.map dkP) with
          | none => rw [e2] at h1'; cases h1'
          | some ds' =>
            rw [e2] at h1'
            cases h1'
            obtain ⟨a, b, c⟩ := pairs_reads (h := h) e2 ht hp
            have hq1 : Sum.inl k = q.1 := hr.1
            obtain ⟨t, ht2⟩ := (show ∃ t, q.2 = Value.int v t from hr.2)
            rw [← hq1] at hk
            have hk' : keyIs (Sum.inl k) e.key = true := hk
            rcases keyIs_shape hk' with ⟨i, t', e1, e2'⟩ | ⟨x, t', e1, _⟩
            · cases e1
              refine ⟨?_, ?_, by simp only [PyData.depthKv, PyData.depth, c]; rfl⟩
              · show ReadsAll h (e.key :: es'.map (·.key)) (PyData.int k :: ds'.map (·.1)) ([] ++ [])
                rw [e2']
                exact .cons (.int k t') a
              · show ReadsAll h (e.val :: es'.map (·.val)) (PyData.int v :: ds'.map (·.2)) ([] ++ [])
                rw [hv, ht2]
                exact .cons (.int v t) b
            · cases e1
theorem rep_item (I : Inv X pins σ H s) {x : V} {u : Value} {d : PyData} (h : repI H x = some d) (r : RelV x u) : ∃ as, Reads s.heap u d as ∧ (d.hasDict = true → sysModules ∉ as) ∧ d.depth ≤ 6 := by
  have plain : datV H 5 x = some d → ∃ as, Reads s.heap u d as ∧ (d.hasDict = true → sysModules ∉ as) ∧ d.depth ≤ 6 := fun e => by
    obtain ⟨a, b, dp⟩ := datV_ok (K := X.K) 5 x d e
    obtain ⟨as, z⟩ := DatV.reads I a r
    exact ⟨as, z, PyData.noDict_hsm (PyData.hasDict_of_canLay d b), by omega⟩
  cases x with
  | ref q =>
    cases e : H q with
    | none =>
      have h' : repI H (.ref q) = datV H 5 (.ref q) := by show (match H q with | some (.dK kvs) => _ | _ => _) = _; rw [e]
      rw [h'] at h
      exact plain h
    | some o =>
      by_cases hk : ∃ kvs, o = .dK kvs
      · obtain ⟨kvs, rfl⟩ := hk
        have h' : repI H (.ref q) = (allSome (kvs.map dkP)).map .dict := by show (match H q with | some (.dK kvs) => _ | _ => _) = _; rw [e]
        rw [h'] at h
        obtain ⟨ds, e2, rfl⟩ := Option.map_eq_some_iff.mp h
        cases (show _ = Value.ref q from r)
        obtain ⟨_, hS, vs, hkv, ob, es, ep, g1, g2, g3, g4, g5, g6⟩ := I.hok q _ e
        obtain ⟨a, b, c⟩ := pairs_reads (h := s.heap) e2 hkv g5
        refine ⟨_, .dict g1 g2.1 g3 a b, fun _ hm => ?_, by simp only [PyData.depth, c]; omega⟩
        have : sysModules = q := by simpa using hm
        rw [this] at hS
        simp at hS
      · have h' : repI H (.ref q) = datV H 5 (.ref q) := by
          show (match H q with | some (.dK kvs) => _ | _ => _) = _
          rw [e]
          cases o <;> first | rfl | exact absurd ⟨_, rfl⟩ hk
        rw [h'] at h
        exact plain h
  | _ => exact plain h
theorem rep_all (I : Inv X pins σ H s) : ∀ {xs : List V} {us : List Value} {ds : List PyData}, allSome (xs.map (repI H)) = some ds → Vals xs us → PyData.showableAll ds = true → (∀ t ∈ PyData.shownAll ds, t.length ≤ sizeLine) →
    ∃ as bs, ReadsAll s.heap us ds as ∧ ReadAtMost s.heap (PyData.depthAll ds) bs ∧ ReprAllK X.prog X.w bs s.heap (PyData.depthAll ds) us (PyData.shownAll ds) ∧ PyData.depthAll ds ≤ 6
  | [], us, ds, h1, h2, _, _ => by
    cases h1
    cases h2
    exact ⟨[], [], .nil, (fun _ h => nomatch h), by simp only [PyData.shownAll]; exact .nil, by simp only [PyData.depthAll]; omega⟩
  | x :: xs, us, ds, h1, h2, hs, hz => by
    cases h2 with
    | cons hr ht =>
      rename_i u us'
      have h1' : (repI H x).bind (fun d => (allSome (xs.map (repI H))).map fun ds => d :: ds) = some ds := h1
      cases e : repI H x with
      | none => rw [e] at h1'; cases h1'
      | some d =>
        rw [e] at h1'
        cases e2 : allSome (xs.map (repI H)) with
        | none => rw [e2] at h1'; cases h1'
        | some ds' =>
          rw [e2] at h1'
          cases h1'
          have hs' : d.showable = true ∧ PyData.showableAll ds' = true := by simpa [PyData.showableAll] using hs
          obtain ⟨a1, r1, n1, p1⟩ := rep_item I e hr
          obtain ⟨b1, hb1, k1⟩ := ReprK.of_reads (prog := X.prog) (w := X.w) r1 hs'.1 n1 (hz _ (by simp only [PyData.shownAll]; exact List.mem_cons_self ..))
          obtain ⟨a2, b2, r2, hb2, k2, p2⟩ := rep_all I e2 ht hs'.2 (fun t ht => hz t (by simp only [PyData.shownAll]; exact List.mem_cons_of_mem _ ht))
          refine ⟨a1 ++ a2, b1 ++ b2, .cons r1 r2, ?_, ?_, by simp only [PyData.depthAll]; omega⟩
          · refine (hb1.mono ?_).append (hb2.mono ?_) <;> (simp only [PyData.depthAll]; omega)
          · simp only [PyData.shownAll]
            exact .cons ((k1.more fun b hb => List.mem_append_left _ hb).level_le (by simp only [PyData.depthAll]; omega)) (k2.more_le (fun b hb => List.mem_append_right _ hb) (by simp only [PyData.depthAll]; omega))
theorem call_qRep (hg : X.A.guards = some []) (hu : X.A.units + 64 < cLine) : CallR X (.builtin "repr") qRep := by
  intro pins s σ H vs us Q I r h
  obtain ⟨p, xs, ds, rfl, e, h1, h2, h3, q⟩ := h
  obtain ⟨u, rfl, rx⟩ := vals1 r
  cases rx
  obtain ⟨its, hv, ⟨o, e1, c1, n, d1⟩, _⟩ := I.tuple (SqT.of e)
  obtain ⟨as, bs, rd, hb, hk, dp⟩ := rep_all I h1 hv h2 fun t ht => Nat.le_trans (tupleText_mem_le ht) h3
  have rt : Reads s.heap (.ref p) (.tuple ds) as := .tuple e1 c1 d1 (by simpa using rd)
  have hna : p ∉ bs := not_mem_of_deeper rt (by simp only [PyData.depth]; omega) hb
  refine call_repr_slot (by omega) ⟨o, e1, c1⟩ F.slot_tuple_repr (call_tuple_reprK e1 c1 d1 hna (by simpa using hk) (g := []) (by simpa using hg) (fun b _ => Clear.nil b) (by show X.A.units + 1 + (PyData.depthAll ds + 1) < cLine; omega) (fun b o e => e) (fun h' u tk k => ⟨_, _, rfl, .str _, H, I.kept k, ⟨u, rfl⟩, q⟩) h3)
end
end L2
set_option Elab.async false
set_option linter.all false
set_option maxRecDepth 100000
set_option maxHeartbeats 4000000
namespace L2
open PySem
theorem len5000' : 5000 ≤ sizeLine := len5000 (Nat.le_refl _)
end L2
namespace PySem
open Sem (wp)
section
variable {prog : Program} {w : World} {A : Around} {E : Value → Shared → Prop} {s : Shared}
theorem keys_miss_list : typeLookup (.type "list") (Str.ofString "keys") = pure none := by rw [typeLookup_type, builtinLookup_eq_fast]; kernel_rfl
theorem getAttr?_miss_list {a : Addr} {o : Obj} {xs : Array Value} {k : Nat} {Q : Option Value → Shared → Prop}
    (hx : s.heap.get? a = some o) (hc : o.cls = .type "list") (hdat : o.data = .seq xs k) (hd : o.dict = none) (hA : A.handled = none)
    (h : ∀ h' tk, (∀ b ob, s.heap.get? b = some ob → h'.get? b = some ob) → Q none { s with heap := h', toks := tk }) :
    wpAny (model prog w) A (getAttr? (.ref a) (Str.ofString "keys")) Q E s := by
  obtain ⟨c, dct, dat, sl⟩ := o
  simp only at hc hdat hd
  subst hc hdat hd
  obtain ⟨hp, g, d, tk, os⟩ := s
  have hT : ∀ tk', (⟨hp, g, d, tk', os⟩ : Shared).TypeIs (.ref a) "list" := fun _ => ⟨_, hx, rfl⟩
  have f1 := sub_AttributeError
  have f3 := F.slot_list_getattribute.lookup
  have f4 := F.slot_list_getattribute.bind (.ref a)
  have f5 := am_list_getattr_none
  have hmiss := keys_miss_list
  have hname : (["__module__", "__name__", "__qualname__", "__doc__", "__annotations__"] : List Str).contains (Str.ofString "keys") = false := by decide +kernel
  unfold getAttr? getAttrBy? getAttrBy
  repeat (any_goals (first | assumption | exact hT _ | ((with_reducible show wpAny _ _ (call (Value.builtin "list.__getattribute__") _ _) _ _ _); refine call_meets F.slot_list_getattribute (hT _) am_entry_list_getattribute (F.args_list_getattribute_2 _ _) (meets_getattribute_miss_list a xs k sl (Str.ofString "keys") _ hmiss hname (by decide +kernel)) ⟨hx, hA, fun h' tk' e hx' => ?_⟩) | wp_step))
  obtain ⟨t', u', he⟩ := hx'.there
  show wpAny _ _ (getattributeRaised _ _ _ _ _ _ _) _ _ _
  unfold getattributeRaised
  repeat (any_goals (first | assumption | wp_step))
  exact h _ _ hx'.keeps
end
end PySem
namespace PyProof.Rows
open PySem PySem.Spec
theorem entry_dict_update_loop : entryFor table "dict.update.loop" = some Builtin.«dict.update.loop» := entryFor_of_tree (by kernel_rfl)
theorem plain_dict_update_loop : plainId "dict.update.loop" = true := by decide +kernel
theorem stored_le {K : Type} [DecidableEq K] (kvs : List (K × Value)) (k : K) (v : Value) : (stored kvs k v).length ≤ kvs.length + 1 := by
  unfold stored
  split
  · rw [List.length_map]; omega
  · rw [List.length_append]; simp
theorem stored_mem {K : Type} [DecidableEq K] {kvs : List (K × Value)} {k : K} {v : Value} {p : K × Value} (h : p ∈ stored kvs k v) : p ∈ kvs ∨ (p.1 = k ∧ p.2 = v) := by
  unfold stored at h
  split at h
  · obtain ⟨q, hq, rfl⟩ := List.mem_map.mp h
    by_cases hk : q.1 = k
    · rw [if_pos hk]; exact .inr ⟨hk, rfl⟩
    · rw [if_neg hk]; exact .inl hq
  · rcases List.mem_append.mp h with h | h
    · exact .inl h
    · rw [List.mem_singleton.mp h]; exact .inr ⟨rfl, rfl⟩
def IsPr (h : Heap) (t : Addr) (k v : Int) : Prop := ∃ (tk tv : Tok) (o : Obj) (n : Nat), h.get? t = some o ∧ o.cls = .type "tuple" ∧ o.data = .seq #[.int k tk, .int v tv] n
section
variable {prog : Program} {w : World} {K : Type} [DecidableEq K] {knd : PySem.KeyKind prog w K} {A : Around} {R : Result → Shared → Prop} {I : Addr} {fp wr : List Addr} {G : Array GenState → Array GenState → Prop} {n : Nat} {P : Nat → Value → Prop} {St : Nat → Shared → Prop}
theorem codeAny_dict_update_loopS (W : WalksS prog w A.in1 I fp wr G n P St) (D : Addr) (hDf : D ∉ fp) (ks vs : Nat → Int) (enc : Int → K) (henc : ∀ k t, knd.is (enc k) (.int k t) = true) (tup : Nat → Addr) (hval : ∀ i v, P i v → v = .ref (tup i)) (htw : ∀ i, tup i ∉ wr ∧ tup i ≠ D) :
    ∀ (k i : Nat) (s : Shared) (kvs : List (K × Value)), n - i = k → i ≤ n → St i s → (∀ j, j < n → IsPr s.heap (tup j) (ks j) (vs j)) → s.heap.DictOf knd D kvs → kvs.length ≤ i → n ≤ 5000 →
      (∀ s' kvs', Moved (D :: wr) G s s' → s'.heap.DictOf knd D kvs' → kvs'.length ≤ n → (∀ p ∈ kvs', p ∈ kvs ∨ ∃ j t, j < n ∧ p.1 = enc (ks j) ∧ p.2 = .int (vs j) t) → R (.ok (.ret .none)) s') →
      codeAny (model prog w) A (.builtin "dict.update.loop" ⟨[.ref D, .ref I, rawInt i, .none], []⟩) R s := by
  have hDw : D ∉ wr := fun h => hDf (W.sub _ h)
  have hsub : ∀ b ∈ wr, b ∈ D :: wr := fun b hb => List.mem_cons_of_mem _ hb
  intro k
  induction k with
  | zero =>
    intro i s kvs hk hi hst hT hD hl hn hR
    have hin : i = n := by omega
    subst hin
    refine codeAny_builtin entry_dict_update_loop ?_
    rw [Around.under_plainId plain_dict_update_loop _]
    show wpAny _ A.in1 (pyNext (.ref I) >>= _) _ _ s
    refine wpAny_bind (W.done s _ _ hst fun s' hm => ?_)
    show wpAny _ A.in1 (Builtin.Dict.addKeywords D [] >>= _) _ _ s'
    refine wpAny_bind (wpAny_pure (wpAny_pure (hR s' kvs (hm.mono hsub) ?_ hl (fun p hp => .inl hp))))
    obtain ⟨o, es, ep, ho, rest⟩ := hD
    exact ⟨o, es, ep, hm.heap D _ hDw ho, rest⟩
  | succ k ih =>
    intro i s kvs hk hi hst hT hD hl hn hR
    have hlt : i < n := by omega
    refine codeAny_builtin entry_dict_update_loop ?_
    rw [Around.under_plainId plain_dict_update_loop _]
    show wpAny _ A.in1 (pyNext (.ref I) >>= _) _ _ s
    refine wpAny_bind (W.item i s _ _ hlt hst fun v s' hP hst' hm => ?_)
    obtain rfl := hval i v hP
    have hD' : s'.heap.DictOf knd D kvs := by
      obtain ⟨o, es, ep, ho, rest⟩ := hD
      exact ⟨o, es, ep, hm.heap D _ hDw ho, rest⟩
    obtain ⟨tk, tv, o, nn, h1, h2, h3⟩ := hT i hlt
    have h1' := hm.heap _ _ (htw i).1 h1
    have hTT : s'.TypeIs (.ref (tup i)) "tuple" := ⟨o, h1', h2⟩
    refine wpAny_bind (wpAny_holding ?_)
    unfold Builtin.Dict.pairItems
    refine wpAny_bind (wpAny_tryCatch ?_)
    refine wpAny_bind (wpAny_typeOf hTT ?_)
    rw [if_pos (by decide)]
    have hsq : ∀ (E' : Value → Shared → Prop) (Q' : Option (Array Value) → Shared → Prop), Q' (some #[.int (ks i) tk, .int (vs i) tv]) s' → wpAny (model prog w) A.in1 (seqItems? (.ref (tup i))) Q' E' s' := fun E' Q' hq => by
      unfold seqItems?
      obtain ⟨hp, g, d, tk', os⟩ := s'
      obtain ⟨oc, od, odt, osl⟩ := o
      simp only at h2 h3
      subst h2 h3
      repeat (any_goals (first | assumption | wp_step))
    refine wpAny_bind (hsq _ _ ?_)
    refine wpAny_pure ?_
    show wpAny _ A.in1 (holding [Value.int (ks i) tk, Value.int (vs i) tv] (dictSet D (Value.int (ks i) tk) (Value.int (vs i) tv))) _ _ s'
    refine wpAny_holding ?_
    refine wpAny_dictSet_pairs (henc (ks i) tk) hD' (fun h' hd hsb => ?_) (Nat.le_trans hl (Nat.le_trans hi (Nat.le_trans hn L2.len5000')))
    refine wpAny_pure ⟨plainId_quiet plain_dict_update_loop _, ?_⟩
    show codeAny _ A (.builtin "dict.update.loop" ⟨[.ref D, .ref I, rawInt ((i + 1 : Nat) : Int), .none], []⟩) R _
    refine ih (i + 1) _ (stored kvs (enc (ks i)) (.int (vs i) tv)) (by omega) hlt (W.frame _ s' _ _ hst' (Nat.le_succ _) fun b hb o e => ?_) (fun j hj => ?_) hd (Nat.le_trans (stored_le _ _ _) (Nat.succ_le_succ hl)) hn fun s'' kvs'' hm'' hD'' hl'' hmem => ?_
    · rw [hsb.2 b (fun h : b = D => hDf (by rw [← h]; exact hb))]; exact e
    · obtain ⟨a, b, c, d, q1, q2, q3⟩ := hT j hj
      exact ⟨a, b, c, d, (hsb.2 _ (htw j).2).trans (hm.heap _ _ (htw j).1 q1), q2, q3⟩
    · refine hR s'' kvs'' (Moved.trans W.gtrans ((hm.mono hsub).then_heap (Nat.le_succ _) fun b o hb e => ?_) hm'') hD'' hl'' fun p hp => ?_
      · rw [hsb.2 b (fun h : b = D => hb (by rw [h]; exact List.mem_cons_self))]; exact e
      · rcases hmem p hp with hp | hp
        · rcases stored_mem hp with hp | ⟨e1, e2⟩
          · exact .inl hp
          · exact .inr ⟨i, tv, hlt, e1, e2⟩
        · exact .inr hp
end
end PyProof.Rows
namespace PySem
open Sem (wp)
open PyProof.Rows
section
variable {prog : Program} {w : World} {K : Type} [DecidableEq K] {knd : KeyKind prog w K} {A : Around} {E : Value → Shared → Prop} {s : Shared}
theorem call_dict_pairs {l : Addr} {o : Obj} {items : Array Value} {nn : Nat} (ks vs : Nat → Int) (enc : Int → K) (henc : ∀ k t, knd.is (enc k) (.int k t) = true) (tup : Nat → Addr) {Q : Value → Shared → Prop} (hh : A.handled = none)
    (hx : s.heap.get? l = some o) (hc : o.cls = .type "list") (hdat : o.data = .seq items nn) (hd : o.dict = none) (hit : ∀ (i : Nat) (v : Value), items[i]? = some v → v = .ref (tup i)) (hT : ∀ j, j < items.size → IsPr s.heap (tup j) (ks j) (vs j)) (hlt : ∀ i, tup i < s.heap.objs.size) (hn : items.size ≤ 5000)
    (h : ∀ h' tk kvs, h'.DictOf knd s.heap.objs.size kvs → kvs.length ≤ items.size → (∀ p ∈ kvs, ∃ j t, j < items.size ∧ p.1 = enc (ks j) ∧ p.2 = .int (vs j) t) → (∀ b ob, b < s.heap.objs.size → s.heap.get? b = some ob → h'.get? b = some ob) → Q (.ref s.heap.objs.size) { s with heap := h', toks := tk }) :
    wpAny (model prog w) A (call (.type "dict") [.ref l]) Q E s := by
  refine callType_codes (Q₁ := fun obj s₁ => obj = .ref s.heap.objs.size ∧ s₁ = { s with heap := s.heap.push { cls := .type "dict", data := .dict #[] } }) F.kt_called_dict (F.kt_typeCall_dict_1 _) F.entry_dict_init (kt_code_dict_new _ ⟨rfl, rfl⟩) ?_
  rintro obj s₁ ⟨rfl, rfl⟩
  have hnew : (s.heap.push { cls := .type "dict", data := .dict #[] }).DictOf knd s.heap.objs.size [] := Heap.DictOf.new s.heap
  have hl1 : (s.heap.push { cls := .type "dict", data := .dict #[] }).get? l = some o := Heap.get?_push_of_some _ hx
  have hlT : Shared.TypeIs { s with heap := s.heap.push { cls := .type "dict", data := .dict #[] } } (.ref l) "list" := ⟨_, hl1, hc⟩
  refine ⟨hnew.typeIs, F.args_dict_init_2 _ _, ?_⟩
  unfold Builtin.«dict.__init__»
  refine wpAny_bind ?_
  unfold Builtin.Dict.selfAndRest
  refine wpAny_bind (wpAny_notOrdered_dict hnew.typeIs ?_)
  show wpAny _ _ (pure (s.heap.objs.size, [Value.ref l])) _ _ _
  refine wpAny_pure ?_
  show wpAny _ _ (Builtin.Dict.updateFrom "dict.__init__" s.heap.objs.size (.ref l) [] .none) _ _ _
  unfold Builtin.Dict.updateFrom
  refine wpAny_bind (wpAny_typeOf hlT ?_)
  rw [if_pos (by decide)]
  refine wpAny_bind (getAttr?_miss_list hl1 hc hdat hd (by simpa using hh) fun h1 tk1 k1 => ?_)
  rw [if_pos (show (none : Option Value).isNone = true from rfl)]
  refine wpAny_bind (wpAny_rule ?_)
  have hl2 : h1.get? l = some o := k1 _ _ hl1
  have hL2 : h1.IsList l items := ⟨o, hl2, hc, nn, hdat⟩
  refine wpAny_bind (wpAny_pyIter_list (s := { s with heap := h1, toks := tk1 }) hL2 ?_)
  have hls : l < s.heap.objs.size := Heap.lt_size hx
  have hD1 : h1.DictOf knd s.heap.objs.size [] := hnew.at fun ob e => k1 _ _ e
  have hDlt : s.heap.objs.size < h1.objs.size := by obtain ⟨_, _, _, e, _⟩ := hD1; exact Heap.lt_size e
  have hneI : l ≠ h1.objs.size := Nat.ne_of_lt (Nat.lt_trans hls hDlt)
  have hh3 : A.in1.in1.handled = none := by simp [hh]
  refine wpAny_pure ⟨plainId_quiet plain_dict_update_loop _, ?_⟩
  refine codeAny_dict_update_loopS (knd := knd) ((Walks.list hh3 h1.objs.size l hneI items).toS) s.heap.objs.size ?hDf ks vs enc henc tup (fun i v hv => hit i v hv) (fun i => ⟨?t1, ?t2⟩) (items.size - 0) 0 _ [] (by omega) (Nat.zero_le _) ⟨⟨_, Heap.get?_push_size _ rfl, rfl, rfl⟩, hL2.push _⟩ ?hT (hD1.push _) (Nat.zero_le _) hn ?hR
  case hDf =>
    simp only [List.mem_cons, List.not_mem_nil, or_false, not_or]
    exact ⟨Nat.ne_of_lt hDlt, Nat.ne_of_gt hls⟩
  case t1 =>
    simp only [List.mem_cons, List.not_mem_nil, or_false]
    exact Nat.ne_of_lt (Nat.lt_trans (hlt i) hDlt)
  case t2 => exact Nat.ne_of_lt (hlt i)
  case hT =>
    intro j hj
    obtain ⟨a, b, c, d, q1, q2, q3⟩ := hT j hj
    exact ⟨a, b, c, d, Heap.get?_push_of_some _ (k1 _ _ (Heap.get?_push_of_some _ q1)), q2, q3⟩
  case hR =>
    intro s' kvs hm hD' hl' hmem
    obtain ⟨h', g', d', tk', os'⟩ := s'
    have eg : g' = s.gens := hm.gens
    have ed : d' = s.drawn := hm.drawn
    have eo : os' = s.os := hm.os
    subst eg ed eo
    refine ⟨rfl, h h' tk' kvs hD' hl' (fun p hp => ?_) fun b ob hb e => ?_⟩
    · rcases hmem p hp with hp | hp
      · cases hp
      · exact hp
    · refine hm.heap b ob ?_ (Heap.get?_push_of_some _ (k1 _ _ (Heap.get?_push_of_some _ e)))
      simp only [List.mem_cons, List.not_mem_nil, or_false, not_or]
      exact ⟨Nat.ne_of_lt hb, Nat.ne_of_lt (Nat.lt_trans hb hDlt)⟩
end
end PySem
namespace L2
open PySem PySem.Spec PyProof.Rows
def IntKV (kvs : List (Key × V)) : Prop := ∀ p ∈ kvs, ∃ k v, p = (Sum.inl k, V.int v)
def vOf : Value → V
  | .int v _ => .int v
  | _ => .non
theorem kv_of : ∀ {vs : List (Key × Value)}, (∀ p ∈ vs, ∃ v t, p.2 = Value.int v t) → KV (vs.map fun p => (p.1, vOf p.2)) vs
  | [], _ => .nil
  | p :: r, h => by
    obtain ⟨v, t, e⟩ := h p List.mem_cons_self
    refine .cons ⟨rfl, ?_⟩ (kv_of fun q hq => h q (List.mem_cons_of_mem _ hq))
    show RelV (vOf p.2) p.2
    rw [e]
    exact ⟨t, rfl⟩
def qDicP : List V → Hp → VK → Prop := fun vs H Q => ∃ (p : Addr) (A : List (Int × Int)), vs = [.ref p] ∧ TupsAt H p (A.map fun a => [a.1, a.2]) ∧ A.length ≤ 5000 ∧ ∀ (r : Addr) (kvs : List (Key × V)) (H' : Hp), H r = none → Ext H H' → H' r = some (.dK kvs) → IntKV kvs → kvs.length ≤ A.length → (∀ q ∈ kvs, ∃ a ∈ A, q = (Sum.inl a.1, V.int a.2)) → Q (.ref r) H'
theorem use_dicP {p : Addr} {A : List (Int × Int)} {H : Hp} {Q : VK} (e : TupsAt H p (A.map fun a => [a.1, a.2])) (hl : A.length ≤ 5000) (q : ∀ (r : Addr) (kvs : List (Key × V)) (H' : Hp), H r = none → Ext H H' → H' r = some (.dK kvs) → IntKV kvs → kvs.length ≤ A.length → (∀ q ∈ kvs, ∃ a ∈ A, q = (Sum.inl a.1, V.int a.2)) → Q (.ref r) H') : qDicP [.ref p] H Q := ⟨p, A, rfl, e, hl, q⟩
theorem call_qDicP {X : Cx} (hc : X.calm = true) : CallR X (.type "dict") qDicP := by
  intro pins s σ H vs us Q I r h
  obtain ⟨p, A, rfl, ⟨ys, hp, hal⟩, hl, q⟩ := h
  cases r with
  | cons r rr =>
    cases rr
    cases r
    obtain ⟨its, hv, ⟨o, n, e1, c1, d1, s1⟩, _⟩ := I.list (SqL.of hp)
    have hlen : its.length = A.length := by
      have := hv.length
      have h2 : ys.length = (A.map fun a => [a.1, a.2]).length := hal.1
      rw [List.length_map] at h2
      omega
    have item : ∀ i, i < A.length → ∃ t, its[i]? = some (.ref t) ∧ IsPr s.heap t (A.getD i (0, 0)).1 (A.getD i (0, 0)).2 := fun i hi => by
      have hyl : i < ys.length := by have := hv.length; omega
      have hA : A[i]? = some (A.getD i (0, 0)) := by rw [List.getD_eq_getElem?_getD, List.getElem?_eq_getElem hi]; rfl
      obtain ⟨t, ht, htup⟩ := hal.2 i [(A.getD i (0, 0)).1, (A.getD i (0, 0)).2] ys[i] (by rw [List.getElem?_map, hA]; rfl) (List.getElem?_eq_getElem hyl)
      obtain ⟨u, hu, ru⟩ := hv.get (List.getElem?_eq_getElem hyl)
      rw [ht] at ru
      cases (show u = Value.ref t from ru)
      obtain ⟨its2, hv2, ⟨o2, e2, c2, n2, d2⟩, _⟩ := I.tuple (SqT.of htup)
      cases hv2 with
      | cons ra hv2 =>
        cases hv2 with
        | cons rb hv2 =>
          cases hv2
          obtain ⟨ta, rfl⟩ := ra
          obtain ⟨tb, rfl⟩ := rb
          exact ⟨t, hu, ta, tb, o2, n2, e2, c2, d2⟩
    have hex : ∃ tup : Nat → Addr, (∀ i, i < A.length → its[i]? = some (.ref (tup i)) ∧ IsPr s.heap (tup i) (A.getD i (0, 0)).1 (A.getD i (0, 0)).2) ∧ ∀ i, tup i < s.heap.objs.size := by
      refine ⟨fun i => if h : i < A.length then (item i h).choose else p, fun i hi => ?_, fun i => ?_⟩
      · simp only [dif_pos hi]
        exact (item i hi).choose_spec
      · by_cases hi : i < A.length
        · simp only [dif_pos hi]
          obtain ⟨_, _, _, _, q1, _⟩ := (item i hi).choose_spec.2
          exact Heap.lt_size q1
        · simp only [dif_neg hi]
          exact Heap.lt_size e1
    obtain ⟨tup, ht, hlt⟩ := hex
    have hsz : its.toArray.size = A.length := by rw [List.size_toArray]; exact hlen
    refine call_dict_pairs (knd := mixKind X.prog X.w) (fun i => (A.getD i (0, 0)).1) (fun i => (A.getD i (0, 0)).2) Sum.inl (fun k t => mixKind_int _ _ k t) tup (I.ok.hd hc) e1 c1 s1 d1 (fun i v hv => ?_) (fun j hj => (ht j (by rw [hsz] at hj; exact hj)).2) hlt (by rw [hsz]; exact hl) fun h' tk kvs' hD hkl hmem hk => ?_
    · rw [List.getElem?_toArray] at hv
      have hi : i < A.length := by rw [← hlen]; exact (List.getElem?_eq_some_iff.mp hv).1
      have := (ht i hi).1
      rw [hv] at this
      exact Option.some.inj this
    · have fr := I.hok.fresh (Nat.le_refl _)
      have lo' : (s.heap.objs.size == sysModules) = false := beq_eq_false_iff_ne.mpr (Ne.symm (Nat.ne_of_lt I.big))
      have hkv := kv_of (vs := kvs') fun p hp => by obtain ⟨j, t, _, _, e⟩ := hmem p hp; exact ⟨_, t, e⟩
      have inn : ∀ q ∈ kvs'.map (fun p => (p.1, vOf p.2)), ∃ a ∈ A, q = (Sum.inl a.1, V.int a.2) := fun q hq => by
        obtain ⟨p, hp, rfl⟩ := List.mem_map.mp hq
        obtain ⟨j, t, hj, e1', e2'⟩ := hmem p hp
        rw [hsz] at hj
        refine ⟨A.getD j (0, 0), ?_, ?_⟩
        · rw [List.getD_eq_getElem?_getD, List.getElem?_eq_getElem hj]; exact List.getElem_mem hj
        · rw [e1', e2']; rfl
      have hl5 : (kvs'.map fun p => (p.1, vOf p.2)).length ≤ A.length := by rw [List.length_map, ← hsz]; exact hkl
      refine ⟨.ref s.heap.objs.size, _, I.laid (t' := tk) (o := .dK (kvs'.map fun p => (p.1, vOf p.2))) (fun b u hb => hk b u (Heap.lt_size hb) hb) (Nat.le_refl _) ⟨Nat.le_trans hl5 (Nat.le_trans hl len5000'), lo', kvs', hkv, hD⟩, rfl, q _ _ _ fr (Ext.new fr) upd_same (fun p hp => ?_) hl5 inn⟩
      obtain ⟨a, _, e⟩ := inn p hp
      exact ⟨_, _, e⟩
end L2
namespace PH
def prodL : List Int → Int
  | [] => 1
  | n :: r => n * prodL r
theorem prodL_append : ∀ ns ms : List Int, prodL (ns ++ ms) = prodL ns * prodL ms
  | [], ms => by simp [prodL]
  | n :: r, ms => by simp only [List.cons_append, prodL, prodL_append r ms, Int.mul_assoc]
theorem drop_step (ns : List Int) (i : Nat) (z : Int) (hi : i < ns.length) (h : ns[ns.length - 1 - i]? = some z) : ns.drop (ns.length - (i + 1)) = z :: ns.drop (ns.length - i) := by
  have e : ns.length - (i + 1) = ns.length - 1 - i := by omega
  have e2 : ns.length - i = ns.length - 1 - i + 1 := by omega
  rw [e, e2]
  obtain ⟨hl, hz⟩ := List.getElem?_eq_some_iff.mp h
  rw [← hz]
  exact List.drop_eq_getElem_cons hl
theorem prodL_step (ns : List Int) (i : Nat) (z : Int) (hi : i < ns.length) (h : ns[ns.length - 1 - i]? = some z) : prodL (ns.drop (ns.length - (i + 1))) = prodL (ns.drop (ns.length - i)) * z := by
  rw [drop_step ns i z hi h]; exact Int.mul_comm _ _
end PH
namespace PH
open PySem L2
def vi : V → Int
  | .int i => i
  | _ => 0
theorem isW_ext {H H' : Hp} (e : Ext H H') {x : V} {b : Bool} (h : isW H x = some b) : isW H' x = some b := by
  cases x with
  | ref p =>
    obtain ⟨_, o, ho, _⟩ := isW_obj h
    rw [isW_ref', ho] at h
    rw [isW_ref', e.at ho]; exact h
  | _ => exact h
end PH
namespace PH
end PH
namespace PH
open PySem L2
theorem filt {α : Type} (l : List α) : (l.filter fun _ => true) = l := List.filter_eq_self.mpr fun _ _ => rfl
end PH
namespace PH
open PySem L2
def keptA (a : Int × Int) : Int × Int := (a.1, if a.1 > 1 then a.2 else 0)
def axL (axs : List (Int × Int)) : List (List Int) := axs.map fun a => [a.1, a.2]
def leastL (axs : List (Int × Int)) : Int := (axs.map fun a => min 0 ((a.1 - 1) * a.2)).sum
def greatL (axs : List (Int × Int)) : Int := (axs.map fun a => max 0 ((a.1 - 1) * a.2)).sum
def Axes (axs : List (Int × Int)) : Prop := axs.length ≤ 8 ∧ ∀ a ∈ axs, 1 ≤ a.1 ∧ a.1 ≤ 1000000000
structure ViewOk (room first : Int) (axs : List (Int × Int)) : Prop where
  ax : Axes axs
  r1 : 1 ≤ room
  r2 : room ≤ 1000000000000000000
  lo : 0 ≤ first + leastL (axs.map keptA)
  hi : first + greatL (axs.map keptA) < room
theorem Axes.kept {axs : List (Int × Int)} (h : Axes axs) : Axes (axs.map keptA) := ⟨by rw [List.length_map]; exact h.1, fun a ha => by
  obtain ⟨b, hb, rfl⟩ := List.mem_map.mp ha
  exact h.2 b hb⟩
def viewF (room first : Int) (l : Addr) : List (Str × V) := putF "axes" (.ref l) (putF "first" (.int first) (putF "room" (.int room) []))
theorem ne_ra : ¬ (("room" : Str) = "axes") := by decide +kernel
theorem ne_rf : ¬ (("room" : Str) = "first") := by decide +kernel
theorem ne_fa : ¬ (("first" : Str) = "axes") := by decide +kernel
theorem viewF_room (room first : Int) (l : Addr) : (viewF room first l).lookup ("room" : Str) = some (.int room) := by
  unfold viewF
  rw [lookup_putF, if_neg ne_ra, lookup_putF, if_neg ne_rf, lookup_putF, if_pos rfl]
theorem viewF_first (room first : Int) (l : Addr) : (viewF room first l).lookup ("first" : Str) = some (.int first) := by
  unfold viewF
  rw [lookup_putF, if_neg ne_fa, lookup_putF, if_pos rfl]
theorem viewF_axes (room first : Int) (l : Addr) : (viewF room first l).lookup ("axes" : Str) = some (.ref l) := by
  unfold viewF
  rw [lookup_putF, if_pos rfl]
theorem viewF_no (room first : Int) (l : Addr) {m : Str} (h1 : ¬ m = "axes") (h2 : ¬ m = "first") (h3 : ¬ m = "room") : (viewF room first l).lookup m = none := by
  unfold viewF
  rw [lookup_putF, if_neg h1, lookup_putF, if_neg h2, lookup_putF, if_neg h3]
  rfl
end PH
namespace PH
open PySem L2
def SmallSz (ns : List Int) : Prop := ns.length ≤ 5 ∧ (∀ n ∈ ns, 1 ≤ n ∧ n ≤ 6) ∧ prodL ns ≤ 200
theorem prodL_one : ∀ ns : List Int, (∀ n ∈ ns, (1 : Int) ≤ n) → 1 ≤ prodL ns
  | [], _ => by simp [prodL]
  | n :: ns, h => by
    have h1 := h n List.mem_cons_self
    have h2 := prodL_one ns fun m hm => h m (List.mem_cons_of_mem _ hm)
    show 1 ≤ n * prodL ns
    have := Int.mul_le_mul h1 h2 (by decide) (by omega)
    omega
theorem prodL_drop_le (ns : List Int) (h : ∀ n ∈ ns, (1 : Int) ≤ n) (i : Nat) : 1 ≤ prodL (ns.drop i) ∧ prodL (ns.drop i) ≤ prodL ns := by
  have h1 := prodL_one (ns.take i) fun n hn => h n (List.mem_of_mem_take hn)
  have h2 := prodL_one (ns.drop i) fun n hn => h n (List.mem_of_mem_drop hn)
  have e : prodL ns = prodL (ns.take i) * prodL (ns.drop i) := by rw [← prodL_append, List.take_append_drop]
  refine ⟨h2, ?_⟩
  rw [e]
  have := Int.mul_le_mul h1 (Int.le_refl (prodL (ns.drop i))) (by omega) (by omega)
  omega
theorem leastL_snoc (l : List (Int × Int)) (a : Int × Int) : leastL (l ++ [a]) = leastL l + min 0 (a.2 * (a.1 - 1)) := by
  unfold leastL; rw [List.map_append, List.sum_append, Int.mul_comm a.2]; simp
theorem greatL_snoc (l : List (Int × Int)) (a : Int × Int) : greatL (l ++ [a]) = greatL l + max 0 (a.2 * (a.1 - 1)) := by
  unfold greatL; rw [List.map_append, List.sum_append, Int.mul_comm a.2]; simp
theorem leastL_nil : leastL [] = 0 := rfl
theorem greatL_nil : greatL [] = 0 := rfl
theorem leastL_cons (a : Int × Int) (l : List (Int × Int)) : leastL (a :: l) = min 0 ((a.1 - 1) * a.2) + leastL l := by unfold leastL; simp
theorem greatL_cons (a : Int × Int) (l : List (Int × Int)) : greatL (a :: l) = max 0 ((a.1 - 1) * a.2) + greatL l := by unfold greatL; simp
theorem span_le (B : Int) (hB : 0 ≤ B) : ∀ l : List (Int × Int), (∀ a ∈ l, -B ≤ (a.1 - 1) * a.2 ∧ (a.1 - 1) * a.2 ≤ B) → leastL l ≤ 0 ∧ 0 ≤ greatL l ∧ greatL l - leastL l ≤ l.length * B
  | [], _ => by simp [leastL_nil, greatL_nil]
  | a :: l, h => by
    obtain ⟨h1, h2, h3⟩ := span_le B hB l fun b hb => h b (List.mem_cons_of_mem _ hb)
    have h4 := h a List.mem_cons_self
    rw [leastL_cons, greatL_cons, List.length_cons]
    have e : ((l.length + 1 : Nat) : Int) * B = l.length * B + B := by rw [Int.natCast_add, Int.add_mul]; simp
    rw [e]
    omega
def Kept (axs : List (Int × Int)) : Prop := ∀ a ∈ axs, a.1 = 1 → a.2 = 0
theorem Kept.eq {axs : List (Int × Int)} (h : Kept axs) (ha : Axes axs) : axs.map keptA = axs := by
  have : axs.map keptA = axs.map id := List.map_congr_left fun a hm => by
    have h1 := ha.2 a hm
    obtain ⟨x, y⟩ := a
    unfold keptA
    by_cases hx : x > 1
    · simp [hx]
    · have : x = 1 := by simp at h1; omega
      have := h _ hm this
      simp at this
      simp [hx, this]
  rw [this, List.map_id]
theorem floorOk {axs : List (Int × Int)} {d e B : Int} (ha : Axes axs) (hk : Kept axs) (hB : 0 ≤ B) (hB' : B ≤ 100000000000000000) (h : ∀ a ∈ axs, -B ≤ (a.1 - 1) * a.2 ∧ (a.1 - 1) * a.2 ≤ B) (d0 : 0 ≤ d) (d1 : d < 4) (e0 : 0 ≤ e) (e1 : e < 6) : ViewOk (d - leastL axs + greatL axs + 1 + e) (d - leastL axs) axs := by
  obtain ⟨h1, h2, h3⟩ := span_le B hB axs h
  have hl := ha.1
  have h4 : (axs.length : Int) * B ≤ 8 * 100000000000000000 := Int.mul_le_mul (by omega) hB' hB (by omega)
  refine ⟨ha, by omega, by omega, ?_, ?_⟩
  · rw [hk.eq ha]; omega
  · rw [hk.eq ha]; omega
end PH
namespace PH
open PySem L2
def mulK (a : Int × Int) : Int × Int := (a.1, if 1 < a.1 then a.2 * 1 else a.2 * 0)
theorem mulK_kept (l : List (Int × Int)) (h : ∀ a ∈ l, (1 : Int) ≤ a.1) : Kept (l.map mulK) := fun a ha e => by
  obtain ⟨b, hb, rfl⟩ := List.mem_map.mp ha
  have : b.1 = 1 := e
  show (if 1 < b.1 then b.2 * 1 else b.2 * 0) = 0
  rw [if_neg (by omega), Int.mul_zero]
theorem mulK_fst (l : List (Int × Int)) : (l.map mulK).map (fun a => a.1) = l.map fun a => a.1 := by rw [List.map_map]; rfl
theorem small_bound {x y : Int} (h1 : 1 ≤ x) (h2 : x ≤ 6) (h3 : -200 ≤ y) (h4 : y ≤ 200) : -1000 ≤ (x - 1) * y ∧ (x - 1) * y ≤ 1000 := by
  have : x = 1 ∨ x = 2 ∨ x = 3 ∨ x = 4 ∨ x = 5 ∨ x = 6 := by omega
  rcases this with h | h | h | h | h | h <;> subst h <;> omega
theorem great_bound {x y : Int} (h : 2 ≤ x) (h1 : 0 ≤ y) (h2 : y < (100000000000000000 : Int).fdiv (x - 1) + 1) : 0 ≤ (x - 1) * y ∧ (x - 1) * y ≤ 100000000000000000 := by
  rw [Int.fdiv_eq_ediv_of_nonneg _ (by omega)] at h2
  have h3 := Int.mul_ediv_self_le (x := (100000000000000000 : Int)) (k := x - 1) (by omega)
  have h4 := Int.mul_le_mul_of_nonneg_left (show y ≤ 100000000000000000 / (x - 1) by omega) (show (0 : Int) ≤ x - 1 by omega)
  exact ⟨Int.mul_nonneg (by omega) h1, Int.le_trans h4 h3⟩
theorem zip_axP {H : Hp} {ms ws : List Int} {ts : List V} (al : Al (fun z y => zipP z y H) ((ms.map V.int).zip (ws.map V.int)) ts) : Al (fun a y => axP a y H) (ms.zip ws) ts := by
  have e : (ms.map V.int).zip (ws.map V.int) = (ms.zip ws).map fun a => (V.int a.1, V.int a.2) := by
    rw [List.zip_map]; rfl
  rw [e] at al
  refine ⟨by rw [al.1, List.length_map], fun i a y ha hy => ?_⟩
  obtain ⟨q, hq, h⟩ := al.2 i (V.int a.1, V.int a.2) y (by rw [List.getElem?_map, ha]; rfl) hy
  exact ⟨q, hq, h⟩
def SmallV (axs : List (Int × Int)) : Prop := prodL (axs.map fun a => a.1) ≤ 200 ∧ axs.length ≤ 5 ∧ ∀ a ∈ axs, -1000 ≤ (a.1 - 1) * a.2 ∧ (a.1 - 1) * a.2 ≤ 1000
end PH
namespace PH
end PH
namespace PH
end PH
set_option Elab.async false
set_option linter.all false
set_option maxRecDepth 100000
set_option maxHeartbeats 4000000
namespace PH
open PySem L2
def top (i : Nat) : Stmt := PySem.Challenge.pw_pacehall_k22_views_refused.main.body.getD i (.Pass ⟨0, 0, 0, 0⟩)
abbrev s_TooMany___init__ : Stmt := inClass (top 8) 0
abbrev s_is_whole : Stmt := top 10
theorem c_is_whole : FnScope ["thing"] ["thing"] (defScope s_is_whole) := ⟨rfl, rfl, rfl, by decide +kernel, rfl, by decide +kernel, by decide +kernel⟩
abbrev s_is_number_below : Stmt := top 12
abbrev s_is_place : Stmt := top 13
abbrev s_is_within : Stmt := top 18
theorem c_is_within : FnScope ["thing", "low", "high"] ["thing", "low", "high"] (defScope s_is_within) := ⟨rfl, rfl, rfl, by decide +kernel, rfl, by decide +kernel, by decide +kernel⟩
abbrev s_is_size : Stmt := top 19
theorem c_is_size : FnScope ["thing"] ["thing"] (defScope s_is_size) := ⟨rfl, rfl, rfl, by decide +kernel, rfl, by decide +kernel, by decide +kernel⟩
abbrev s_is_axis : Stmt := top 20
theorem c_is_axis : FnScope ["thing"] ["thing"] (defScope s_is_axis) := ⟨rfl, rfl, rfl, by decide +kernel, rfl, by decide +kernel, by decide +kernel⟩
abbrev s_are_axes : Stmt := top 21
theorem c_are_axes : FnScope ["thing"] ["thing"] (defScope s_are_axes) := ⟨rfl, rfl, rfl, by decide +kernel, rfl, by decide +kernel, by decide +kernel⟩
abbrev s_kept_axis : Stmt := top 22
theorem c_kept_axis : FnScope ["axis"] ["axis"] (defScope s_kept_axis) := ⟨rfl, rfl, rfl, by decide +kernel, rfl, by decide +kernel, by decide +kernel⟩
abbrev s_View___init__ : Stmt := inClass (top 23) 0
theorem c_View___init__ : FnScope ["self", "room", "first", "axes"] ["self", "room", "first", "axes"] (defScope s_View___init__) := ⟨rfl, rfl, rfl, by decide +kernel, rfl, by decide +kernel, by decide +kernel⟩
abbrev s_View_sizes : Stmt := inClass (top 23) 1
abbrev s_View_paces : Stmt := inClass (top 23) 2
abbrev s_View_cell : Stmt := inClass (top 23) 4
abbrev s_View_least : Stmt := inClass (top 23) 7
theorem c_View_least : FnScope ["self"] ["self"] (defScope s_View_least) := ⟨rfl, rfl, rfl, by decide +kernel, rfl, by decide +kernel, by decide +kernel⟩
abbrev s_View_greatest : Stmt := inClass (top 23) 8
theorem c_View_greatest : FnScope ["self"] ["self"] (defScope s_View_greatest) := ⟨rfl, rfl, rfl, by decide +kernel, rfl, by decide +kernel, by decide +kernel⟩
abbrev s__law_draw : Stmt := top 25
theorem c__law_draw : FnScope ["_law_script", "_law_k", "_law_many", "_law_number"] ["_law_script", "_law_k", "_law_many"] (defScope s__law_draw) := ⟨rfl, rfl, rfl, by decide +kernel, rfl, by decide +kernel, by decide +kernel⟩
abbrev s__law_paces : Stmt := top 26
theorem c__law_paces : FnScope ["_law_sizes", "_law_paces_here", "_law_cell", "_law_ways", "_law_behind", "_law_k", "_law_at", "_law_pace"] ["_law_sizes", "_law_paces_here", "_law_cell"] (defScope s__law_paces) := ⟨rfl, rfl, rfl, by decide +kernel, rfl, by decide +kernel, by decide +kernel⟩
abbrev s__law_floor : Stmt := top 27
theorem c__law_floor : FnScope ["_law_script", "_law_at", "_law_axes_here", "_law_least", "_law_greatest", "_law_size", "_law_pace", "_law_first_here"] ["_law_script", "_law_at", "_law_axes_here"] (defScope s__law_floor) := ⟨rfl, rfl, rfl, by decide +kernel, rfl, by decide +kernel, by decide +kernel⟩
abbrev s__law_small : Stmt := top 28
theorem c__law_small : FnScope ["_law_script", "_law_at", "_law_sizes", "_law_paces_here", "_law_count", "_law_k", "_law_cell", "_law_size", "_law_axes_here"] ["_law_script", "_law_at"] (defScope s__law_small) := ⟨rfl, rfl, rfl, by decide +kernel, rfl, by decide +kernel, by decide +kernel⟩
abbrev s__law_great : Stmt := top 29
theorem c__law_great : FnScope ["_law_script", "_law_at", "_law_axes_here", "_law_k", "_law_cell", "_law_size", "_law_most", "_law_pace"] ["_law_script", "_law_at"] (defScope s__law_great) := ⟨rfl, rfl, rfl, by decide +kernel, rfl, by decide +kernel, by decide +kernel⟩
abbrev s__law_axis : Stmt := top 30
theorem c__law_axis : FnScope ["_law_axis_here", "_law_cell", "_law_size", "_law_pace", "_law_far", "_law_some"] ["_law_axis_here", "_law_cell"] (defScope s__law_axis) := ⟨rfl, rfl, rfl, by decide +kernel, rfl, by decide +kernel, by decide +kernel⟩
abbrev s__law_axes : Stmt := top 31
theorem c__law_axes : FnScope ["_law_axes_here", "_law_cell", "_law_at", "_law_nine", "_law_some"] ["_law_axes_here", "_law_cell", "_law_at"] (defScope s__law_axes) := ⟨rfl, rfl, rfl, by decide +kernel, rfl, by decide +kernel, by decide +kernel⟩
abbrev s__law_first : Stmt := top 32
theorem c__law_first : FnScope ["_law_first_here", "_law_least", "_law_cell", "_law_far", "_law_some"] ["_law_first_here", "_law_least", "_law_cell"] (defScope s__law_first) := ⟨rfl, rfl, rfl, by decide +kernel, rfl, by decide +kernel, by decide +kernel⟩
abbrev s__law_room : Stmt := top 33
theorem c__law_room : FnScope ["_law_greatest", "_law_cell", "_law_far", "_law_some"] ["_law_greatest", "_law_cell"] (defScope s__law_room) := ⟨rfl, rfl, rfl, by decide +kernel, rfl, by decide +kernel, by decide +kernel⟩
abbrev s__law_refused : Stmt := top 34
theorem c__law_refused : FnScope ["_law_room_here", "_law_first_here", "_law_axes_here", "_law_word", "e", "_law_others"] ["_law_room_here", "_law_first_here", "_law_axes_here"] (defScope s__law_refused) := ⟨rfl, rfl, rfl, by decide +kernel, rfl, by decide +kernel, by decide +kernel⟩
abbrev s__law_spoilt : Stmt := top 35
theorem c__law_spoilt : FnScope ["_law_script", "_law_k", "_law_parts", "_law_least", "_law_room_here", "_law_first_here", "_law_axes_here", "_law_cell", "_law_way"] ["_law_script", "_law_k", "_law_parts", "_law_least"] (defScope s__law_spoilt) := ⟨rfl, rfl, rfl, by decide +kernel, rfl, by decide +kernel, by decide +kernel⟩
abbrev s_law : Stmt := top 36
theorem c_law : FnScope ["_law_script", "_law_some", "_law_room_here", "_law_first_here", "_law_axes_here", "_law_least", "_law_greatest", "_law_k", "_law_parts", "_law_wrong", "_law_still", "_law_view"] ["_law_script"] (defScope s_law) := ⟨rfl, rfl, rfl, by decide +kernel, rfl, by decide +kernel, by decide +kernel⟩
set_option genInjectivity false in
structure Adr where
  a_PaceError : Addr
  a_NoPlace : Addr
  a_NoCells : Addr
  a_NoView : Addr
  a_NoMove : Addr
  a_NoCount : Addr
  a_TooMany : Addr
  a_View : Addr
  a_TooMany___init__ : Addr
  d_TooMany___init__ : FuncData
  a_is_whole : Addr
  d_is_whole : FuncData
  a_is_number_below : Addr
  d_is_number_below : FuncData
  a_is_place : Addr
  d_is_place : FuncData
  a_is_within : Addr
  d_is_within : FuncData
  a_is_size : Addr
  d_is_size : FuncData
  a_is_axis : Addr
  d_is_axis : FuncData
  a_are_axes : Addr
  d_are_axes : FuncData
  a_kept_axis : Addr
  d_kept_axis : FuncData
  a_View___init__ : Addr
  d_View___init__ : FuncData
  a_View_sizes : Addr
  d_View_sizes : FuncData
  a_View_paces : Addr
  d_View_paces : FuncData
  a_View_cell : Addr
  d_View_cell : FuncData
  a_View_least : Addr
  d_View_least : FuncData
  a_View_greatest : Addr
  d_View_greatest : FuncData
  a__law_draw : Addr
  d__law_draw : FuncData
  a__law_paces : Addr
  d__law_paces : FuncData
  a__law_floor : Addr
  d__law_floor : FuncData
  a__law_small : Addr
  d__law_small : FuncData
  a__law_great : Addr
  d__law_great : FuncData
  a__law_axis : Addr
  d__law_axis : FuncData
  a__law_axes : Addr
  d__law_axes : FuncData
  a__law_first : Addr
  d__law_first : FuncData
  a__law_room : Addr
  d__law_room : FuncData
  a__law_refused : Addr
  d__law_refused : FuncData
  a__law_spoilt : Addr
  d__law_spoilt : FuncData
  a_law : Addr
  d_law : FuncData
structure Tx (K : PySem.W.Frag) (mg : Str → Option Value) (t : Adr) : Prop where
  m_PaceError : mg "PaceError" = some (.ref t.a_PaceError)
  m_NoPlace : mg "NoPlace" = some (.ref t.a_NoPlace)
  m_NoCells : mg "NoCells" = some (.ref t.a_NoCells)
  m_NoView : mg "NoView" = some (.ref t.a_NoView)
  m_NoMove : mg "NoMove" = some (.ref t.a_NoMove)
  m_NoCount : mg "NoCount" = some (.ref t.a_NoCount)
  m_TooMany : mg "TooMany" = some (.ref t.a_TooMany)
  m_View : mg "View" = some (.ref t.a_View)
  o_NoView : PySem.W.excIn K t.a_NoView [.type "ValueError", .type "Exception", .type "BaseException", .type "object"] "ValueError.__new__" = true
  x_NoView_PaceError : PySem.W.exmOne K (.ref t.a_NoView) (.ref t.a_PaceError) = some true
  ocs : PySem.W.specialIn K (.builtin "object.__class__") "__get__" = some (some (.builtin "getset_descriptor.__get__"))
  oct : PySem.W.takesIn K (.builtin "object.__class__") = some true
  ga_NoView : PySem.W.findIn K (.ref t.a_NoView) "__getattribute__" = some (some (.builtin "BaseException.__getattribute__"))
  gn_NoView : PySem.W.findIn K (.ref t.a_NoView) "__getattr__" = some none
  mb_NoView : PySem.W.mroIn K t.a_NoView (.type "BaseException") = some true
  mo_NoView : PySem.W.mroIn K t.a_NoView (.type "object") = some true
  fc_NoView : PySem.W.findIn K (.ref t.a_NoView) "__class__" = some (some (.builtin "object.__class__"))
  hd_NoView : PySem.W.hasDictIn K t.a_NoView = true
  kc_NoView_NoPlace : PySem.W.hasDictIn K t.a_NoPlace = true
  kt_NoView_NoPlace : PySem.W.typeIn K (.ref t.a_NoPlace) = some (.type "type")
  ks_NoView_NoPlace : PySem.W.subIn K (.ref t.a_NoView) (.ref t.a_NoPlace) = some false
  kn_NoView_NoPlace : (t.a_NoView == t.a_NoPlace) = false
  kc_NoView_NoCells : PySem.W.hasDictIn K t.a_NoCells = true
  kt_NoView_NoCells : PySem.W.typeIn K (.ref t.a_NoCells) = some (.type "type")
  ks_NoView_NoCells : PySem.W.subIn K (.ref t.a_NoView) (.ref t.a_NoCells) = some false
  kn_NoView_NoCells : (t.a_NoView == t.a_NoCells) = false
  kc_NoView_NoCount : PySem.W.hasDictIn K t.a_NoCount = true
  kt_NoView_NoCount : PySem.W.typeIn K (.ref t.a_NoCount) = some (.type "type")
  ks_NoView_NoCount : PySem.W.subIn K (.ref t.a_NoView) (.ref t.a_NoCount) = some false
  kn_NoView_NoCount : (t.a_NoView == t.a_NoCount) = false
  kc_NoView_NoMove : PySem.W.hasDictIn K t.a_NoMove = true
  kt_NoView_NoMove : PySem.W.typeIn K (.ref t.a_NoMove) = some (.type "type")
  ks_NoView_NoMove : PySem.W.subIn K (.ref t.a_NoView) (.ref t.a_NoMove) = some false
  kn_NoView_NoMove : (t.a_NoView == t.a_NoMove) = false
  kc_NoView_NoView : PySem.W.hasDictIn K t.a_NoView = true
  kt_NoView_NoView : PySem.W.typeIn K (.ref t.a_NoView) = some (.type "type")
  ks_NoView_NoView : PySem.W.subIn K (.ref t.a_NoView) (.ref t.a_NoView) = some true
  kc_NoView_TooMany : PySem.W.hasDictIn K t.a_TooMany = true
  kt_NoView_TooMany : PySem.W.typeIn K (.ref t.a_TooMany) = some (.type "type")
  ks_NoView_TooMany : PySem.W.subIn K (.ref t.a_NoView) (.ref t.a_TooMany) = some false
  kn_NoView_TooMany : (t.a_NoView == t.a_TooMany) = false
  ks_NoView_ValueError : PySem.W.subIn K (.ref t.a_NoView) (.type "ValueError") = some true
  m_MOST_ROOM : ∃ tk, mg "MOST_ROOM" = some (.int 1000000000000000000 tk)
  m_MOST_SIZE : ∃ tk, mg "MOST_SIZE" = some (.int 1000000000 tk)
  m_MOST_AXES : ∃ tk, mg "MOST_AXES" = some (.int 8 tk)
  oi_TooMany : OwnI K t.a_TooMany t.a_TooMany___init__
  tk_TooMany_number : PySem.W.takerIn K t.a_TooMany "number" = some none
  na_TooMany_number : NoAttr K t.a_TooMany "number"
  bi_PaceError : BaseI K t.a_PaceError
  cl_View : Cls K t.a_View
  na_View_axes : NoAttr K t.a_View "axes"
  na_View_first : NoAttr K t.a_View "first"
  na_View_room : NoAttr K t.a_View "room"
  mk_View : Mk K t.a_View t.a_View___init__
  mt_View_sizes : Meth K t.a_View "sizes" t.a_View_sizes
  mt_View_paces : Meth K t.a_View "paces" t.a_View_paces
  mt_View_cell : Meth K t.a_View "cell" t.a_View_cell
  mt_View_least : Meth K t.a_View "least" t.a_View_least
  mt_View_greatest : Meth K t.a_View "greatest" t.a_View_greatest
  F_TooMany___init__ : Fun K "__init__" "TooMany.__init__" s_TooMany___init__ t.a_TooMany___init__ t.d_TooMany___init__
  b_TooMany___init__ : Binds K t.d_TooMany___init__ ["self", "number"] []
  F_is_whole : Fun K "is_whole" "is_whole" s_is_whole t.a_is_whole t.d_is_whole
  m_is_whole : mg "is_whole" = some (.ref t.a_is_whole)
  b_is_whole : Binds K t.d_is_whole ["thing"] []
  F_is_number_below : Fun K "is_number_below" "is_number_below" s_is_number_below t.a_is_number_below t.d_is_number_below
  m_is_number_below : mg "is_number_below" = some (.ref t.a_is_number_below)
  b_is_number_below : Binds K t.d_is_number_below ["thing", "bound"] []
  F_is_place : Fun K "is_place" "is_place" s_is_place t.a_is_place t.d_is_place
  m_is_place : mg "is_place" = some (.ref t.a_is_place)
  b_is_place : Binds K t.d_is_place ["sizes", "thing"] []
  F_is_within : Fun K "is_within" "is_within" s_is_within t.a_is_within t.d_is_within
  m_is_within : mg "is_within" = some (.ref t.a_is_within)
  b_is_within : Binds K t.d_is_within ["thing", "low", "high"] []
  F_is_size : Fun K "is_size" "is_size" s_is_size t.a_is_size t.d_is_size
  m_is_size : mg "is_size" = some (.ref t.a_is_size)
  b_is_size : Binds K t.d_is_size ["thing"] []
  F_is_axis : Fun K "is_axis" "is_axis" s_is_axis t.a_is_axis t.d_is_axis
  m_is_axis : mg "is_axis" = some (.ref t.a_is_axis)
  b_is_axis : Binds K t.d_is_axis ["thing"] []
  F_are_axes : Fun K "are_axes" "are_axes" s_are_axes t.a_are_axes t.d_are_axes
  m_are_axes : mg "are_axes" = some (.ref t.a_are_axes)
  b_are_axes : Binds K t.d_are_axes ["thing"] []
  F_kept_axis : Fun K "kept_axis" "kept_axis" s_kept_axis t.a_kept_axis t.d_kept_axis
  m_kept_axis : mg "kept_axis" = some (.ref t.a_kept_axis)
  b_kept_axis : Binds K t.d_kept_axis ["axis"] []
  F_View___init__ : Fun K "__init__" "View.__init__" s_View___init__ t.a_View___init__ t.d_View___init__
  b_View___init__ : Binds K t.d_View___init__ ["self", "room", "first", "axes"] []
  F_View_sizes : Fun K "sizes" "View.sizes" s_View_sizes t.a_View_sizes t.d_View_sizes
  b_View_sizes : Binds K t.d_View_sizes ["self"] []
  F_View_paces : Fun K "paces" "View.paces" s_View_paces t.a_View_paces t.d_View_paces
  b_View_paces : Binds K t.d_View_paces ["self"] []
  F_View_cell : Fun K "cell" "View.cell" s_View_cell t.a_View_cell t.d_View_cell
  b_View_cell : Binds K t.d_View_cell ["self", "place"] []
  F_View_least : Fun K "least" "View.least" s_View_least t.a_View_least t.d_View_least
  b_View_least : Binds K t.d_View_least ["self"] []
  F_View_greatest : Fun K "greatest" "View.greatest" s_View_greatest t.a_View_greatest t.d_View_greatest
  b_View_greatest : Binds K t.d_View_greatest ["self"] []
  F__law_draw : Fun K "_law_draw" "_law_draw" s__law_draw t.a__law_draw t.d__law_draw
  m__law_draw : mg "_law_draw" = some (.ref t.a__law_draw)
  b__law_draw : Binds K t.d__law_draw ["_law_script", "_law_k", "_law_many"] []
  F__law_paces : Fun K "_law_paces" "_law_paces" s__law_paces t.a__law_paces t.d__law_paces
  m__law_paces : mg "_law_paces" = some (.ref t.a__law_paces)
  b__law_paces : Binds K t.d__law_paces ["_law_sizes", "_law_paces_here", "_law_cell"] []
  F__law_floor : Fun K "_law_floor" "_law_floor" s__law_floor t.a__law_floor t.d__law_floor
  m__law_floor : mg "_law_floor" = some (.ref t.a__law_floor)
  b__law_floor : Binds K t.d__law_floor ["_law_script", "_law_at", "_law_axes_here"] []
  F__law_small : Fun K "_law_small" "_law_small" s__law_small t.a__law_small t.d__law_small
  m__law_small : mg "_law_small" = some (.ref t.a__law_small)
  b__law_small : Binds K t.d__law_small ["_law_script", "_law_at"] []
  F__law_great : Fun K "_law_great" "_law_great" s__law_great t.a__law_great t.d__law_great
  m__law_great : mg "_law_great" = some (.ref t.a__law_great)
  b__law_great : Binds K t.d__law_great ["_law_script", "_law_at"] []
  F__law_axis : Fun K "_law_axis" "_law_axis" s__law_axis t.a__law_axis t.d__law_axis
  m__law_axis : mg "_law_axis" = some (.ref t.a__law_axis)
  b__law_axis : Binds K t.d__law_axis ["_law_axis_here", "_law_cell"] []
  F__law_axes : Fun K "_law_axes" "_law_axes" s__law_axes t.a__law_axes t.d__law_axes
  m__law_axes : mg "_law_axes" = some (.ref t.a__law_axes)
  b__law_axes : Binds K t.d__law_axes ["_law_axes_here", "_law_cell", "_law_at"] []
  F__law_first : Fun K "_law_first" "_law_first" s__law_first t.a__law_first t.d__law_first
  m__law_first : mg "_law_first" = some (.ref t.a__law_first)
  b__law_first : Binds K t.d__law_first ["_law_first_here", "_law_least", "_law_cell"] []
  F__law_room : Fun K "_law_room" "_law_room" s__law_room t.a__law_room t.d__law_room
  m__law_room : mg "_law_room" = some (.ref t.a__law_room)
  b__law_room : Binds K t.d__law_room ["_law_greatest", "_law_cell"] []
  F__law_refused : Fun K "_law_refused" "_law_refused" s__law_refused t.a__law_refused t.d__law_refused
  m__law_refused : mg "_law_refused" = some (.ref t.a__law_refused)
  b__law_refused : Binds K t.d__law_refused ["_law_room_here", "_law_first_here", "_law_axes_here"] []
  F__law_spoilt : Fun K "_law_spoilt" "_law_spoilt" s__law_spoilt t.a__law_spoilt t.d__law_spoilt
  m__law_spoilt : mg "_law_spoilt" = some (.ref t.a__law_spoilt)
  b__law_spoilt : Binds K t.d__law_spoilt ["_law_script", "_law_k", "_law_parts", "_law_least"] []
  F_law : Fun K "law" "law" s_law t.a_law t.d_law
  m_law : mg "law" = some (.ref t.a_law)
  b_law : Binds K t.d_law ["_law_script"] []
  z_ValueError : mg "ValueError" = none
  z_all : mg "all" = none
  z_bool : mg "bool" = none
  z_dict : mg "dict" = none
  z_int : mg "int" = none
  z_isinstance : mg "isinstance" = none
  z_len : mg "len" = none
  z_list : mg "list" = none
  z_max : mg "max" = none
  z_min : mg "min" = none
  z_range : mg "range" = none
  z_repr : mg "repr" = none
  z_str : mg "str" = none
  z_sum : mg "sum" = none
  z_tuple : mg "tuple" = none
  z_zip : mg "zip" = none
theorem Tx.e_NoView {K : PySem.W.Frag} {mg : Str → Option Value} {t : Adr} (T : Tx K mg t) : ECls K t.a_NoView := ⟨T.ga_NoView, T.gn_NoView, T.mb_NoView, T.mo_NoView, T.fc_NoView, T.ocs, T.oct, T.hd_NoView⟩
theorem Tx.k_NoView_NoPlace {K : PySem.W.Frag} {mg : Str → Option Value} {t : Adr} (T : Tx K mg t) : PySem.W.kitOne K (.ref t.a_NoView) (.ref t.a_NoPlace) = some false := kit_no T.kn_NoView_NoPlace T.kc_NoView_NoPlace T.kt_NoView_NoPlace T.ks_NoView_NoPlace
theorem Tx.k_NoView_NoCells {K : PySem.W.Frag} {mg : Str → Option Value} {t : Adr} (T : Tx K mg t) : PySem.W.kitOne K (.ref t.a_NoView) (.ref t.a_NoCells) = some false := kit_no T.kn_NoView_NoCells T.kc_NoView_NoCells T.kt_NoView_NoCells T.ks_NoView_NoCells
theorem Tx.k_NoView_NoCount {K : PySem.W.Frag} {mg : Str → Option Value} {t : Adr} (T : Tx K mg t) : PySem.W.kitOne K (.ref t.a_NoView) (.ref t.a_NoCount) = some false := kit_no T.kn_NoView_NoCount T.kc_NoView_NoCount T.kt_NoView_NoCount T.ks_NoView_NoCount
theorem Tx.k_NoView_NoMove {K : PySem.W.Frag} {mg : Str → Option Value} {t : Adr} (T : Tx K mg t) : PySem.W.kitOne K (.ref t.a_NoView) (.ref t.a_NoMove) = some false := kit_no T.kn_NoView_NoMove T.kc_NoView_NoMove T.kt_NoView_NoMove T.ks_NoView_NoMove
theorem Tx.k_NoView_NoView {K : PySem.W.Frag} {mg : Str → Option Value} {t : Adr} (T : Tx K mg t) : PySem.W.kitOne K (.ref t.a_NoView) (.ref t.a_NoView) = some true := kit_yes T.kc_NoView_NoView T.kt_NoView_NoView T.ks_NoView_NoView
theorem Tx.k_NoView_TooMany {K : PySem.W.Frag} {mg : Str → Option Value} {t : Adr} (T : Tx K mg t) : PySem.W.kitOne K (.ref t.a_NoView) (.ref t.a_TooMany) = some false := kit_no T.kn_NoView_TooMany T.kc_NoView_TooMany T.kt_NoView_TooMany T.ks_NoView_TooMany
theorem Tx.k_NoView_ValueError {K : PySem.W.Frag} {mg : Str → Option Value} {t : Adr} (T : Tx K mg t) : PySem.W.kitOne K (.ref t.a_NoView) (.type "ValueError") = some true := kit_ty (by decide +kernel) T.ks_NoView_ValueError
local macro_rules | `(tactic| trivial) => `(tactic| first | exact Or.inl rfl | exact Or.inr rfl | exact Or.inr (Or.inl rfl) | exact Or.inr (Or.inr rfl) | assumption)
local macro_rules | `(tactic| simp! only [$xs,*]) => do
  let ys := xs.getElems.map fun x => (⟨x.raw⟩ : Lean.TSyntax `Lean.Parser.Tactic.simpLemma)
  let zs ← ("↓reduceIte ↓optK_some ↓gName_0 ↓gName_1 ↓gName_2 ↓gName_3 ↓gName_4 ↓gName_5 ↓gName_6 ↓gName_7 ↓gName_8 ↓gName_9 ↓gName_10 ↓gName_11 ↓m_kOp' ↓m_kOp ↓m_tOp ↓m_tC ↓m_kUn ↓m_tUn ↓m_kNot ↓m_tNot ↓m_kAnd ↓m_tAnd ↓m_kOr ↓m_tOr ↓m_kIfE ↓m_tIf ↓m_kCh3 ↓m_tNil ↓m_kCons' ↓m_kCons ↓m_tCons ↓m_kCall_1 ↓m_kCall_2 ↓m_kCall_3 ↓m_kCall_4 ↓m_tCall ↓m_kCB ↓m_tCB ↓m_tNext ↓m_tSeq ↓m_tRet ↓m_kDrop ↓m_tDrop ↓m_kIfS ↓m_tIfS ↓m_kAsg ↓m_tAsg ↓m_kGs ↓m_kLen ↓m_qLen ↓m_kIx' ↓m_kIx ↓m_qIx ↓m_qMax ↓m_qMin ↓m_qStr ↓m_qIsi_int ↓m_qIsi_bool ↓m_qIsi_tuple ↓m_qIsi_list ↓m_kIsi_Ni ↓m_kIsi_Nl ↓m_kIsi_Nt ↓m_kIsi_bb ↓m_kIsi_bi ↓m_kIsi_ib ↓m_kIsi_ii ↓m_kIsi_il ↓m_kIsi_it ↓m_kIsi_si ↓m_kIsi_sl ↓m_kIsi_st ↓m_kIsi_li ↓m_kIsi_ll ↓m_kIsi_lt ↓m_kIsi_ti ↓m_kIsi_tl ↓m_kIsi_tt ↓m_kIsi_di ↓m_kIsi_dl ↓m_kBM' ↓m_kBM ↓m_tBM ↓m_kApp ↓m_rAppend ↓m_kGT ↓m_qGT ↓m_kBody ↓m_tFor ↓m_kR1 ↓m_iRng1 ↓m_kISq'_l ↓m_kISq ↓m_iSeq ↓m_kTry ↓m_tTry ↓m_kRaise ↓m_tRaise ↓m_kSetE ↓m_kExcAs ↓m_tExcAs ↓m_del ↓m_kDel ↓m_gDel_4 ↓m_dictO_none ↓m_kE4 ↓m_kE3 ↓m_kE2 ↓m_kE1 ↓m_qIsE ↓m_tYes ↓m_tComp ↓m_datV ↓m_datF_int ↓m_datF_ref ↓m_datO_lst ↓m_allSome_nil ↓m_allSome_cons ↓m_kEq2_t ↓m_kEq2_f ↓m_kEq1 ↓m_qEq_refr ↓m_qEq_int_int ↓m_qNe_int_int ↓m_qEq_str_str ↓m_qNe_str_str ↓m_kInts ↓m_kSl3 ↓m_kSl2 ↓m_kSl1 ↓m_tSl ↓m_tNoPart ↓m_kPart ↓m_tPart ↓m_kQT ↓m_kQL ↓m_qTup ↓m_qLst ↓m_kN ↓m_nList ↓m_kNT_l ↓m_nTuple ↓m_kNC2 ↓m_kNC1 ↓m_nCat ↓m_kNS ↓m_nSl ↓m_nDNew ↓m_kSumI ↓m_qSum ↓m_kBls ↓m_kAllB ↓m_qAll ↓m_kCm2 ↓m_kCm_1 ↓m_kCm_2 ↓m_rep_1 ↓m_rep_2 ↓m_kFldV ↓m_kFldO ↓m_kFld ↓m_nFld ↓m_kSetO ↓m_kSet1 ↓m_kSet0 ↓m_nSetF ↓m_kMethA_0 ↓m_kMethO ↓m_kMeth ↓m_nMeth ↓m_kMade ↓m_kMake_3 ↓m_nMake ↓m_kLZ2_l ↓m_kLZ1_l ↓m_kLZ0 ↓m_tLZ ↓m_qInt_b ↓m_tV_0 ↓m_tV_1 ↓m_tV_2 ↓m_tV_3 ↓m_tV_4 ↓m_tV_5 ↓m_tV_6 ↓m_tV_7 ↓m_tV_8 ↓m_tV_9 ↓m_tV_10 ↓m_tV_11 ↓m_nI0 ↓m_nI ↓m_nU ↓m_kTestN ↓m_nTest ↓m_kAndN ↓m_nAndV ↓m_kNotN ↓m_nNotV ↓m_kChN2 ↓m_kChN1 ↓m_kChN0 ↓m_nChain ↓m_gNilN ↓m_gConsN ↓m_kInI ↓m_nIn ↓m_nMakeX optK_some itemsAt lstAt tupAt seqO_lst seqO_tup lstO_lst tupO_tup bind_some' upd_same upd_upd tyO_lst tyO_tup tyO_dK tyN_non tyN_bl tyN_int tyN_str tyN_ref tyV_list isW_int' isW_bl' isW_non' isW_str' cx_K ofString_inj refC_ref clsV_ref clsV_ty atI_0 atI_1 atI_2 eqv_list eqvAll_nil eqvAll_l allSome_ints CDiv_eq CMul_l CMul_r CPow_10 Option.isSome_some Option.isSome_none Option.map_some List.length_cons List.length_nil List.length_map List.map_cons List.map_nil and_true true_and and_self implies_true reduceCtorEq decide_true decide_false Bool.not_true Bool.not_false if_true if_false decide_eq_true_eq Bool.false_eq_true Bool.not_eq_true' decide_eq_false_iff_not Bool.and_true Bool.true_and Bool.and_self Bool.and_eq_true Int.reduceToNat Int.reducePow Int.reduceMul Int.reduceAdd Int.reduceSub Int.reduceNeg Int.reduceLT Int.reduceLE Int.reduceEq Int.reduceNe Int.reduceDiv Int.reduceMod Nat.reduceAdd Nat.reduceLeDiff Nat.reduceLT Nat.reduceMul Nat.reducePow gt_iff_lt ge_iff_le ne_eq false_implies true_implies eq_self String.reduceEq Int.cast_ofNat_Int not_true_eq_false not_false_eq_true false_and and_false List.cons_append List.nil_append List.append_nil lenLe".splitOn " ").toArray.mapM fun s => if s.startsWith "↓" then `(Lean.Parser.Tactic.simpLemma| ↓ $(Lean.mkIdent (s.replace "↓" "").toName):ident) else `(Lean.Parser.Tactic.simpLemma| $(Lean.mkIdent s.toName):ident)
  `(tactic| simp (config := { failIfUnchanged := false, maxDischargeDepth := 30, maxSteps := 10000000 }) only [$zs,*, $ys,*, *])
section
variable {P : Program} {w : World} {K : PySem.W.Frag} {mg : Str → Option Value} {base : Heap} {t : Adr}
def spDraw (K : PySem.W.Frag) (a : Addr) (ns : List Int) : Sp := fun vs H Q E => ∃ (k : Int) (m : Int), vs = [.ref a, .int k, .int m] ∧ (SqL K H a (ns.map V.int) ∧ ns.length ≤ 63 ∧ (0 ≤ k ∧ k < 1000) ∧ 0 < m ∧ ∀ z : Int, 0 ≤ z → z < m → Q (.int z) H)
theorem c_spDraw (K : PySem.W.Frag) (a : Addr) (ns : List Int) (k : Int) (m : Int) (H : Hp) (Q : VK) (E : XK) : spDraw K a ns [.ref a, .int k, .int m] H Q E = (SqL K H a (ns.map V.int) ∧ ns.length ≤ 63 ∧ (0 ≤ k ∧ k < 1000) ∧ 0 < m ∧ ∀ z : Int, 0 ≤ z → z < m → Q (.int z) H) := spx2 (f := fun (k : Int) (m : Int) => [.ref a, .int k, .int m]) (fun _ _ _ _ h => by cases h; exact ⟨rfl, rfl⟩) k m
theorem l_spDraw (K : PySem.W.Frag) (a : Addr) (ns : List Int) {vs : List V} {H : Hp} {Q : VK} {E : XK} (h : spDraw K a ns vs H Q E) : vs.length = 3 := spl2 h fun _ _ => rfl
theorem ok__law_draw (T : Tx K mg t) (a : Addr) (ns : List Int) : FnOk P w K mg base CX0 1 t.a__law_draw t.d__law_draw ["_law_script", "_law_k", "_law_many"] (spDraw K a ns) := by
  refine T.F__law_draw.ok c__law_draw (fun vs H Q E h => l_spDraw _ _ _ h) (fun cdv A outer s H vs Q E hr h => ?_)
  · obtain ⟨k, m, rfl, hS, hl, ⟨hk0, hk1⟩, hm, kk⟩ := h
    have fin : ∀ z : Int, Q (.int (z % m)) H := fun z => kk _ (Int.emod_nonneg _ (by omega)) (Int.emod_lt_of_pos _ hm)
    refine ⟨_, (pss_cons (ps_if (pt_cmpR op_lt (pv 1) (pe_callB (id := "len") call_len_seq (by rfl) T.z_len (by decide +kernel) (pa_c (pv 0) pa_nil)) (nomark _))
      (pss_one (ps_ret (pe_op op_mod (pe_ix ix_list (pv 0) (pv 1) (fun _ _ => rfl)) (pv 2))))
      pss_nil)
    (pss_cons (ps_set (i := 3) c__law_draw.nd rfl (Or.inl rfl) (pe_op op_add (pe_op op_mul (pe_op op_mul (pv 1) (pv 1)) pe_int) pe_int))
    (pss_cons (ps_if (pt_cmpR op_gt (pe_callB (id := "len") call_len_seq (by rfl) T.z_len (by decide +kernel) (pa_c (pv 0) pa_nil)) pe_int (nomark _))
      (pss_cons (ps_set (i := 3) c__law_draw.nd rfl (Or.inl rfl) (pe_op op_mod (pe_ix ix_list (pv 0) (pe_op op_mod (pv 1) (pe_callB (id := "len") call_len_seq (by rfl) T.z_len (by decide +kernel) (pa_c (pv 0) pa_nil))) (fun _ _ => rfl)) pe_int))
      (pss_one (ps_set (i := 3) c__law_draw.nd rfl (Or.inl rfl) (pe_op op_add (pe_op op_mul (pv 3) (pe_op op_add pe_int (pe_op op_mul (pe_op op_mul pe_int (pv 1)) (pv 1)))) (pe_op op_mul (pv 1) pe_int)))))
      pss_nil)
    (pss_one (ps_ret (pe_op op_mod (pe_op op_mod (pe_op op_mul (pe_op op_mod (pv 3) pe_int) pe_int) pe_int) (pv 2))))))), ?_⟩
    refine ⟨_, rfl, _, rfl, a, _, rfl, .inl hS, _, _, rfl, rfl, _, rfl, ?_⟩
    refine ite2 (fun h => ?_) (fun h => ?_)
    · have h1 : k < (ns.length : Int) := by simpa using h
      obtain ⟨z, hz, _⟩ := atI_ints ns k hk0 h1
      exact ⟨_, rfl, _, rfl, a, _, k, _, rfl, rfl, hS, hz, _, rfl, _, _, rfl, rfl, hm, fin _⟩
    · refine ⟨_, rfl, _, rfl, _, _, rfl, rfl, .inl ⟨by omega, by omega⟩, _, _, rfl, rfl, .inr ⟨by decide, by decide⟩, _, _, rfl, rfl, ?_⟩
      refine ⟨_, rfl, a, _, rfl, .inl hS, _, _, rfl, rfl, _, rfl, ?_⟩
      refine ite2 (fun h2 => ?_) (fun h2 => ?_)
      · have h3 : 0 < (ns.length : Int) := by simpa using h2
        have h4 : (0 : Int) < ((ns.map V.int).length : Int) := by simpa using h3
        obtain ⟨z, hz, _⟩ := atI_ints ns (k % ((ns.map V.int).length : Int)) (Int.emod_nonneg _ (by omega)) (by have := Int.emod_lt_of_pos k h4; simpa using this)
        refine ⟨_, rfl, _, rfl, _, rfl, a, _, rfl, .inl hS, _, _, rfl, rfl, h4, a, _, _, _, rfl, rfl, hS, hz, _, _, rfl, rfl, (by first | decide | (show (0 : Int) < _; decide)), ?_⟩
        refine ⟨_, rfl, _, rfl, _, _, rfl, rfl, .inl ⟨by decide, by decide⟩, _, rfl, _, _, rfl, rfl, .inr ⟨by omega, by omega⟩, _, _, rfl, rfl, _, _, rfl, rfl, ?_, ?_⟩
        · refine .inl ⟨?_, ?_⟩
          · have := Int.emod_nonneg z (show (999999937 : Int) ≠ 0 by decide); omega
          · have := Int.emod_lt_of_pos z (show (0 : Int) < 999999937 by decide); omega
        refine ⟨_, rfl, _, _, rfl, rfl, .inr ⟨by decide, by decide⟩, _, _, rfl, rfl, ?_⟩
        exact ⟨_, rfl, _, _, rfl, rfl, (by first | decide | (show (0 : Int) < _; decide)), _, _, rfl, rfl, .inr ⟨by decide, by decide⟩, _, _, rfl, rfl, (by first | decide | (show (0 : Int) < _; decide)), _, rfl, _, _, rfl, rfl, hm, fin _⟩
      · exact ⟨_, rfl, _, _, rfl, rfl, (by first | decide | (show (0 : Int) < _; decide)), _, _, rfl, rfl, .inr ⟨by decide, by decide⟩, _, _, rfl, rfl, (by first | decide | (show (0 : Int) < _; decide)), _, rfl, _, _, rfl, rfl, hm, fin _⟩
def spWhole  : Sp := fun vs H Q E => ∃ (x : V), vs = [x] ∧ (optK (isW H x) (kE4 H Q))
theorem c_spWhole  (x : V) (H : Hp) (Q : VK) (E : XK) : spWhole  [x] H Q E = (optK (isW H x) (kE4 H Q)) := spx1 (f := fun (x : V) => [x]) (fun _ _ h => by cases h; exact rfl) x
theorem l_spWhole  {vs : List V} {H : Hp} {Q : VK} {E : XK} (h : spWhole  vs H Q E) : vs.length = 1 := spl1 h fun _ => rfl
theorem ok_is_whole (T : Tx K mg t) : FnOk P w K mg base CX0 1 t.a_is_whole t.d_is_whole ["thing"] spWhole := by
  refine T.F_is_whole.ok c_is_whole (fun vs H Q E h => l_spWhole h) (fun cdv A outer s H vs Q E hr h => ?_)
  · obtain ⟨x, rfl, h⟩ := h
    obtain ⟨b, hb, k⟩ := optK_ex h
    clear h
    rw [m_kE4] at k
    refine ⟨_, (@pss_one _ _ _ (@ps_ret _ _ _ _ (@pe_andN _ _ _ _ _ _ _ (@pe_callB _ _ _ _ _ _ _ ("isinstance") _ call_qIsi (by rfl) T.z_isinstance (by decide +kernel) (@pa_c _ _ _ _ _ (@pvN _ 0 _ _ (by rfl) (by trivial) (by decide) (by decide)) (@pa_c _ _ _ _ _ (@pe_bltn _ _ (.ty "int") (.type "int") _ (by rfl) T.z_int (by decide +kernel) rfl (by decide) (by decide)) (@pa_nil _) (by rfl)) (by rfl)) (by decide) (by decide) (by rfl) (by rfl)) (@pe_one _ _ _ _ _ (@pe_notN _ _ _ _ (@pe_callB _ _ _ _ _ _ _ ("isinstance") _ call_qIsi (by rfl) T.z_isinstance (by decide +kernel) (@pa_c _ _ _ _ _ (@pvN _ 0 _ _ (by rfl) (by trivial) (by decide) (by decide)) (@pa_c _ _ _ _ _ (@pe_bltn _ _ (.ty "bool") (.type "bool") _ (by rfl) T.z_bool (by decide +kernel) rfl (by decide) (by decide)) (@pa_nil _) (by rfl)) (by rfl)) (by decide) (by decide) (by rfl) (by rfl))))))), ?_⟩
    rw [show start ["thing"] [x] = [some (x)] from rfl]
    cases x with
    | int i => cases hb; simp! only [and_true]
    | bl i => cases hb; simp! only [and_true]
    | non => cases hb; simp! only [and_true]
    | str i => cases hb; simp! only [and_true]
    | ref p =>
      obtain ⟨rfl, o, ho, ht⟩ := isW_obj hb
      rcases ht with ht | ht | ht <;> simp! only [and_true]
    | _ => cases hb
def spWithin  : Sp := fun vs H Q E => ∃ (i : Int) (lo : Int) (hi : Int), vs = [.int i, .int lo, .int hi] ∧ (Q (.bl (decide (lo ≤ i) && decide (i ≤ hi))) H)
theorem c_spWithin  (i : Int) (lo : Int) (hi : Int) (H : Hp) (Q : VK) (E : XK) : spWithin  [.int i, .int lo, .int hi] H Q E = (Q (.bl (decide (lo ≤ i) && decide (i ≤ hi))) H) := spx3 (f := fun (i : Int) (lo : Int) (hi : Int) => [.int i, .int lo, .int hi]) (fun _ _ _ _ _ _ h => by cases h; exact ⟨rfl, rfl, rfl⟩) i lo hi
theorem l_spWithin  {vs : List V} {H : Hp} {Q : VK} {E : XK} (h : spWithin  vs H Q E) : vs.length = 3 := spl3 h fun _ _ _ => rfl
theorem ok_is_within (T : Tx K mg t) : FnOk P w K mg base CX0 2 t.a_is_within t.d_is_within ["thing", "low", "high"] spWithin := by
  have G_is_whole := ok_is_whole (P := P) (w := w) (base := base) T
  refine T.F_is_within.ok c_is_within (fun vs H Q E h => l_spWithin h) (fun cdv A outer s H vs Q E hr h => ?_)
  · obtain ⟨i, lo, hi, rfl, k⟩ := h
    refine ⟨_, (@pss_one _ _ _ (@ps_ret _ _ _ _ (@pe_andN _ _ _ _ _ _ _ (@pe_call _ _ _ _ _ _ _ _ _ _ _ _ _ _ _ _ G_is_whole (hr.mono (by decide)) (by rfl) T.m_is_whole T.F_is_whole.kp T.b_is_whole .nil pass0 (@pa_c _ _ _ _ _ (@pvN _ 0 _ _ (by rfl) (by trivial) (by decide) (by decide)) (@pa_nil _) (by rfl)) (by decide) (by rfl) (by rfl)) (@pe_one _ _ _ _ _ (@pe_chainN _ _ _ _ _ _ _ _ _ _ _ _ on_le on_le (@pvN _ 1 _ _ (by rfl) (by trivial) (by decide) (by decide)) (@pvN _ 0 _ _ (by rfl) (by trivial) (by decide) (by decide)) (@pvN _ 2 _ _ (by rfl) (by trivial) (by decide) (by decide)) (by rfl)))))), ?_⟩
    rw [show start ["thing", "low", "high"] [.int i, .int lo, .int hi] = [some (.int i), some (.int lo), some (.int hi)] from rfl]
    by_cases h0 : lo ≤ i
    · rw [decide_eq_true h0, Bool.true_and] at k
      simp! only [↓c_spWhole]
    · rw [decide_eq_false h0, Bool.false_and] at k
      simp! only [↓c_spWhole]
def spSize  : Sp := fun vs H Q E => ∃ (i : Int), vs = [.int i] ∧ (Q (.bl (decide (1 ≤ i) && decide (i ≤ 1000000000))) H)
theorem c_spSize  (i : Int) (H : Hp) (Q : VK) (E : XK) : spSize  [.int i] H Q E = (Q (.bl (decide (1 ≤ i) && decide (i ≤ 1000000000))) H) := spx1 (f := fun (i : Int) => [.int i]) (fun _ _ h => by cases h; exact rfl) i
theorem l_spSize  {vs : List V} {H : Hp} {Q : VK} {E : XK} (h : spSize  vs H Q E) : vs.length = 1 := spl1 h fun _ => rfl
theorem ok_is_size (T : Tx K mg t) : FnOk P w K mg base CX0 3 t.a_is_size t.d_is_size ["thing"] spSize := by
  have G_is_within := ok_is_within (P := P) (w := w) (base := base) T
  refine T.F_is_size.ok c_is_size (fun vs H Q E h => l_spSize h) (fun cdv A outer s H vs Q E hr h => ?_)
  · obtain ⟨i, rfl, k⟩ := h
    refine ⟨_, (@pss_one _ _ _ (@ps_ret _ _ _ _ (@pe_call _ _ _ _ _ _ _ _ _ _ _ _ _ _ _ _ G_is_within (hr.mono (by decide)) (by rfl) T.m_is_within T.F_is_within.kp T.b_is_within .nil pass0 (@pa_c _ _ _ _ _ (@pvN _ 0 _ _ (by rfl) (by trivial) (by decide) (by decide)) (@pa_c _ _ _ _ _ (@pe_int _ _ _ _) (@pa_c _ _ _ _ _ (@pe_glob _ _ (.int 1000000000) _ _ (by rfl) T.m_MOST_SIZE.choose_spec ⟨_, rfl⟩ (by decide)) (@pa_nil _) (by rfl)) (by rfl)) (by rfl)) (by decide) (by rfl) (by rfl)))), ?_⟩
    rw [show start ["thing"] [.int i] = [some (.int i)] from rfl]
    simp! only [↓c_spWithin]
abbrev B_spAxis  (p : Addr) (H : Hp) (Q : VK) (E : XK) : Prop := ∃ a : Int × Int, H p = some (.tup [.int a.1, .int a.2]) ∧ 1 ≤ a.1 ∧ a.1 ≤ 1000000000 ∧ Q (.bl true) H
def spAxis  : Sp := fun vs H Q E => ∃ (p : Addr), vs = [.ref p] ∧ (B_spAxis  p H Q E)
theorem c_spAxis  (p : Addr) (H : Hp) (Q : VK) (E : XK) : spAxis  [.ref p] H Q E = (B_spAxis  p H Q E) := spx1 (f := fun (p : Addr) => [.ref p]) (fun _ _ h => by cases h; exact rfl) p
theorem l_spAxis  {vs : List V} {H : Hp} {Q : VK} {E : XK} (h : spAxis  vs H Q E) : vs.length = 1 := spl1 h fun _ => rfl
theorem ok_is_axis (T : Tx K mg t) : FnOk P w K mg base CX0 4 t.a_is_axis t.d_is_axis ["thing"] spAxis := by
  have G_is_size := ok_is_size (P := P) (w := w) (base := base) T
  have G_is_whole := ok_is_whole (P := P) (w := w) (base := base) T
  refine T.F_is_axis.ok c_is_axis (fun vs H Q E h => l_spAxis h) (fun cdv A outer s H vs Q E hr h => ?_)
  · obtain ⟨p, rfl, a, hp, h1, h2, k⟩ := h
    refine ⟨_, (@pss_one _ _ _ (@ps_ret _ _ _ _ (@pe_andN _ _ _ _ _ _ _ (@pe_callB _ _ _ _ _ _ _ ("isinstance") _ call_qIsi (by rfl) T.z_isinstance (by decide +kernel) (@pa_c _ _ _ _ _ (@pvN _ 0 _ _ (by rfl) (by trivial) (by decide) (by decide)) (@pa_c _ _ _ _ _ (@pe_bltn _ _ (.ty "tuple") (.type "tuple") _ (by rfl) T.z_tuple (by decide +kernel) rfl (by decide) (by decide)) (@pa_nil _) (by rfl)) (by rfl)) (by decide) (by decide) (by rfl) (by rfl)) (@pe_andN _ _ _ _ _ _ _ (@pe_cmpR _ _ _ _ _ _ _ _ (op_qEq hr.units) (@pe_callB _ _ _ _ _ _ _ ("len") _ call_qLen (by rfl) T.z_len (by decide +kernel) (@pa_c _ _ _ _ _ (@pvN _ 0 _ _ (by rfl) (by trivial) (by decide) (by decide)) (@pa_nil _) (by rfl)) (by decide) (by decide) (by rfl) (by rfl)) (@pe_int _ _ _ _) (nomark _)) (@pe_andN _ _ _ _ _ _ _ (@pe_call _ _ _ _ _ _ _ _ _ _ _ _ _ _ _ _ G_is_size (hr.mono (by decide)) (by rfl) T.m_is_size T.F_is_size.kp T.b_is_size .nil pass0 (@pa_c _ _ _ _ _ (@pe_ix _ _ _ _ _ _ _ ix_q (@pvN _ 0 _ _ (by rfl) (by trivial) (by decide) (by decide)) (@pe_int _ _ _ _) (fun _ _ => rfl)) (@pa_nil _) (by rfl)) (by decide) (by rfl) (by rfl)) (@pe_one _ _ _ _ _ (@pe_call _ _ _ _ _ _ _ _ _ _ _ _ _ _ _ _ G_is_whole (hr.mono (by decide)) (by rfl) T.m_is_whole T.F_is_whole.kp T.b_is_whole .nil pass0 (@pa_c _ _ _ _ _ (@pe_ix _ _ _ _ _ _ _ ix_q (@pvN _ 0 _ _ (by rfl) (by trivial) (by decide) (by decide)) (@pe_int _ _ _ _) (fun _ _ => rfl)) (@pa_nil _) (by rfl)) (by decide) (by rfl) (by rfl)))))))), ?_⟩
    rw [show start ["thing"] [.ref p] = [some (.ref p)] from rfl]
    simp! only [↓c_spSize, ↓c_spWhole]
abbrev B_spKept  (p : Addr) (H : Hp) (Q : VK) (E : XK) : Prop := ∃ a : Int × Int, H p = some (.tup [.int a.1, .int a.2]) ∧ ∀ (r : Addr) (H' : Hp), H r = none → Ext H H' → H' r = some (.tup [.int (keptA a).1, .int (keptA a).2]) → Q (.ref r) H'
def spKept  : Sp := fun vs H Q E => ∃ (p : Addr), vs = [.ref p] ∧ (B_spKept  p H Q E)
theorem c_spKept  (p : Addr) (H : Hp) (Q : VK) (E : XK) : spKept  [.ref p] H Q E = (B_spKept  p H Q E) := spx1 (f := fun (p : Addr) => [.ref p]) (fun _ _ h => by cases h; exact rfl) p
theorem l_spKept  {vs : List V} {H : Hp} {Q : VK} {E : XK} (h : spKept  vs H Q E) : vs.length = 1 := spl1 h fun _ => rfl
theorem ok_kept_axis (T : Tx K mg t) : FnOk P w K mg base CX0 1 t.a_kept_axis t.d_kept_axis ["axis"] spKept := by
  refine T.F_kept_axis.ok c_kept_axis (fun vs H Q E h => l_spKept h) (fun cdv A outer s H vs Q E hr h => ?_)
  · obtain ⟨p, rfl, a, hp, k⟩ := h
    refine ⟨_, (@pss_one _ _ _ (@ps_ret _ _ _ _ (@pe_qTup _ _ _ _ _ (@pa_c _ _ _ _ _ (@pe_ix _ _ _ _ _ _ _ ix_q (@pvN _ 0 _ _ (by rfl) (by trivial) (by decide) (by decide)) (@pe_int _ _ _ _) (fun _ _ => rfl)) (@pa_c _ _ _ _ _ (@pe_ifExp _ _ _ _ _ _ _ _ (@pt_cmpRN _ _ _ _ _ _ _ _ on_gt (@pe_ix _ _ _ _ _ _ _ ix_q (@pvN _ 0 _ _ (by rfl) (by trivial) (by decide) (by decide)) (@pe_int _ _ _ _) (fun _ _ => rfl)) (@pe_int _ _ _ _) (nomark _)) (@pe_ix _ _ _ _ _ _ _ ix_q (@pvN _ 0 _ _ (by rfl) (by trivial) (by decide) (by decide)) (@pe_int _ _ _ _) (fun _ _ => rfl)) (@pe_int _ _ _ _)) (@pa_nil _) (by rfl)) (by rfl))))), ?_⟩
    rw [show start ["axis"] [.ref p] = [some (.ref p)] from rfl]
    have e1 : (keptA a).1 = a.1 := rfl
    by_cases h1 : 1 < a.1
    · have e2 : (keptA a).2 = a.2 := if_pos h1
      rw [e1, e2] at k
      simp! only [and_true]
      exact fun r H' h e h' => k r H' h e h'
    · have e2 : (keptA a).2 = 0 := if_neg h1
      rw [e1, e2] at k
      simp! only [and_true]
      exact fun r H' h e h' => k r H' h e h'
abbrev B_spAxes  (p : Addr) (H : Hp) (Q : VK) (E : XK) : Prop := ∃ axs : List (Int × Int), TupsAt H p (axL axs) ∧ Axes axs ∧ ∀ H', Ext H H' → Q (.bl true) H'
def spAxes  : Sp := fun vs H Q E => ∃ (p : Addr), vs = [.ref p] ∧ (B_spAxes  p H Q E)
theorem c_spAxes  (p : Addr) (H : Hp) (Q : VK) (E : XK) : spAxes  [.ref p] H Q E = (B_spAxes  p H Q E) := spx1 (f := fun (p : Addr) => [.ref p]) (fun _ _ h => by cases h; exact rfl) p
theorem l_spAxes  {vs : List V} {H : Hp} {Q : VK} {E : XK} (h : spAxes  vs H Q E) : vs.length = 1 := spl1 h fun _ => rfl
theorem ok_are_axes (T : Tx K mg t) : FnOk P w K mg base CX0 5 t.a_are_axes t.d_are_axes ["thing"] spAxes := by
  have G_is_axis := ok_is_axis (P := P) (w := w) (base := base) T
  refine T.F_are_axes.ok c_are_axes (fun vs H Q E h => l_spAxes h) (fun cdv A outer s H vs Q E hr h => ?_)
  · obtain ⟨p, rfl, axs, ⟨ys, hp, al⟩, ha, k⟩ := h
    refine ⟨_, (@pss_one _ _ _ (@ps_ret _ _ _ _ (@pe_andN _ _ _ _ _ _ _ (@pe_callB _ _ _ _ _ _ _ ("isinstance") _ call_qIsi (by rfl) T.z_isinstance (by decide +kernel) (@pa_c _ _ _ _ _ (@pvN _ 0 _ _ (by rfl) (by trivial) (by decide) (by decide)) (@pa_c _ _ _ _ _ (@pe_bltn _ _ (.ty "list") (.type "list") _ (by rfl) T.z_list (by decide +kernel) rfl (by decide) (by decide)) (@pa_nil _) (by rfl)) (by rfl)) (by decide) (by decide) (by rfl) (by rfl)) (@pe_andN _ _ _ _ _ _ _ (@pe_cmpR _ _ _ _ _ _ _ _ on_le (@pe_callB _ _ _ _ _ _ _ ("len") _ call_qLen (by rfl) T.z_len (by decide +kernel) (@pa_c _ _ _ _ _ (@pvN _ 0 _ _ (by rfl) (by trivial) (by decide) (by decide)) (@pa_nil _) (by rfl)) (by decide) (by decide) (by rfl) (by rfl)) (@pe_glob _ _ (.int 8) _ _ (by rfl) T.m_MOST_AXES.choose_spec ⟨_, rfl⟩ (by decide)) (nomark _)) (@pe_one _ _ _ _ _ (@pe_callB _ _ _ _ _ _ _ ("all") _ (call_qAll rfl) (by rfl) T.z_all (by decide +kernel) (@pa_c _ _ _ _ _ (@pe_comp _ _ _ _ _ _ _ _ _ _ _ (["axis", "thing"]) (1) (comp_ok (defScope s_are_axes) ["thing"] rfl rfl (by decide +kernel)) rfl (@pi_seq _ _ _ _ (@pvN _ 0 _ _ (by rfl) (by trivial) (by decide) (by decide))) (fun C s₀ H₀ ex pn => (@pg_name _ _ (0) _ (show List.Nodup (["axis", "thing"] : List Str) from by decide +kernel) rfl (Or.inl rfl) (by trivial))) (fun C s₀ H₀ ex pn => (@pts_nil _)) (fun C s₀ H₀ ex pn => (@pe_call _ _ _ _ _ _ _ _ _ _ _ _ _ _ _ _ G_is_axis (hr.mono (by decide)) (by rfl) T.m_is_axis T.F_is_axis.kp T.b_is_axis .nil pass0 (@pa_c _ _ _ _ _ (@pvN _ 0 _ _ (by rfl) (by trivial) (by decide) (by decide)) (@pa_nil _) (by rfl)) (by decide) (by rfl) (by rfl))) (by intros; rfl)) (@pa_nil _) (by rfl)) (by decide) (by decide) (by rfl) (by rfl))))))), ?_⟩
    rw [show start ["thing"] [.ref p] = [some (.ref p)] from rfl]
    have hl : ys.length = axs.length := by rw [al.1]; unfold axL; rw [List.length_map]
    have hl8 : (axs.length : Int) ≤ 8 := by have := ha.1; omega
    simp! only [and_true]
    refine comp_fm ys (fun _ => true) (fun _ => .bl true) (fun z x H' => x = z ∧ H' p = some (.lst ys)) (wk_lst hp).1 (wk_lst hp).2 (len5000 (by omega)) ?_ ?_
    · intro D z x H' N1 N0 hz hD e ⟨hx, _⟩ k1 _
      subst hx
      obtain ⟨i, hi, rfl⟩ := List.getElem_of_mem hz
      have hi' : i < axs.length := by rw [← hl]; exact hi
      obtain ⟨q, hq1, hq2⟩ := al.2 i [axs[i].1, axs[i].2] ys[i] (by unfold axL; rw [List.getElem?_map, List.getElem?_eq_getElem hi']; rfl) (List.getElem?_eq_getElem hi)
      have hb := ha.2 _ (List.getElem_mem hi')
      have k1' := k1 rfl H' (Ext.refl _)
      have hq3 := e.at hq2
      rw [hq1]
      clear k1 k hp al
      simp! only [↓m_kCm_1, ↓m_kCm2]
      rw [c_spAxis]
      exact ⟨axs[i], hq3, hb.1, hb.2, k1'⟩
    · intro D H' hD e hD'
      have hD2 : H' D = some (.lst ((ys.map fun _ => true).map V.bl)) := by rw [hD', filt, List.map_map]; rfl
      have e2 : ((ys.map fun _ => true).all id) = true := by rw [List.all_map]; simp
      have k2 := k H' e
      clear k hD'
      simp! only [and_true]
theorem Fun.x {K : PySem.W.Frag} {x qual : Str} {st : Stmt} {f : Addr} {fd : FuncData} (F : Fun K x qual st f fd) : FunX K x qual st f fd := by
  obtain ⟨oc, od, kV, doc, pm, an, cdv, ct, osl, e, lk, hcd⟩ := F.ex
  exact ⟨⟨oc, od, .none, kV, doc, pm, an, cdv, ct, osl, e, lk, hcd⟩, F.kp⟩
def withinF (x : V) (lo hi : Int) : Bool := match x with
  | .int i => decide (lo ≤ i) && decide (i ≤ hi)
  | _ => false
def sizeF (x : V) : Bool := withinF x 1 1000000000
abbrev B_spWithin2  (x : V) (lo : Int) (hi : Int) (H : Hp) (Q : VK) (E : XK) : Prop := (isW H x).isSome = true ∧ Q (.bl (withinF x lo hi)) H
def spWithin2  : Sp := fun vs H Q E => ∃ (x : V) (lo : Int) (hi : Int), vs = [x, .int lo, .int hi] ∧ (B_spWithin2  x lo hi H Q E)
theorem c_spWithin2  (x : V) (lo : Int) (hi : Int) (H : Hp) (Q : VK) (E : XK) : spWithin2  [x, .int lo, .int hi] H Q E = (B_spWithin2  x lo hi H Q E) := spx3 (f := fun (x : V) (lo : Int) (hi : Int) => [x, .int lo, .int hi]) (fun _ _ _ _ _ _ h => by cases h; exact ⟨rfl, rfl, rfl⟩) x lo hi
theorem l_spWithin2  {vs : List V} {H : Hp} {Q : VK} {E : XK} (h : spWithin2  vs H Q E) : vs.length = 3 := spl3 h fun _ _ _ => rfl
theorem ok2_is_within (T : Tx K mg t) : FnOk P w K mg base CX0 2 t.a_is_within t.d_is_within ["thing", "low", "high"] spWithin2 := by
  have G_is_whole := ok_is_whole (P := P) (w := w) (base := base) T
  refine T.F_is_within.ok c_is_within (fun vs H Q E h => l_spWithin2 h) (fun cdv A outer s H vs Q E hr h => ?_)
  · obtain ⟨x, lo, hi, rfl, hw, k⟩ := h
    refine ⟨_, (@pss_one _ _ _ (@ps_ret _ _ _ _ (@pe_andN _ _ _ _ _ _ _ (@pe_call _ _ _ _ _ _ _ _ _ _ _ _ _ _ _ _ G_is_whole (hr.mono (by decide)) (by rfl) T.m_is_whole T.F_is_whole.kp T.b_is_whole .nil pass0 (@pa_c _ _ _ _ _ (@pvN _ 0 _ _ (by rfl) (by trivial) (by decide) (by decide)) (@pa_nil _) (by rfl)) (by decide) (by rfl) (by rfl)) (@pe_one _ _ _ _ _ (@pe_chainN _ _ _ _ _ _ _ _ _ _ _ _ on_le on_le (@pvN _ 1 _ _ (by rfl) (by trivial) (by decide) (by decide)) (@pvN _ 0 _ _ (by rfl) (by trivial) (by decide) (by decide)) (@pvN _ 2 _ _ (by rfl) (by trivial) (by decide) (by decide)) (by rfl)))))), ?_⟩
    rw [show start ["thing", "low", "high"] [x, .int lo, .int hi] = [some (x), some (.int lo), some (.int hi)] from rfl]
    clear G_is_whole
    cases x with
    | int i =>
      have k' : Q (.bl (decide (lo ≤ i) && decide (i ≤ hi))) H := k
      clear k hw
      by_cases h0 : lo ≤ i
      · rw [decide_eq_true h0, Bool.true_and] at k'
        simp! only [↓c_spWhole]
      · rw [decide_eq_false h0, Bool.false_and] at k'
        simp! only [↓c_spWhole]
    | bl i => have k' : Q (.bl false) H := k; clear k hw; simp! only [↓c_spWhole]
    | non => have k' : Q (.bl false) H := k; clear k hw; simp! only [↓c_spWhole]
    | str i => have k' : Q (.bl false) H := k; clear k hw; simp! only [↓c_spWhole]
    | ref p =>
      obtain ⟨b, hb⟩ := Option.isSome_iff_exists.mp hw
      obtain ⟨rfl, o, ho, ht⟩ := isW_obj hb
      have k' : Q (.bl false) H := k
      clear k hw
      simp! only [↓c_spWhole]
    | _ => cases hw
abbrev B_spSize2  (x : V) (H : Hp) (Q : VK) (E : XK) : Prop := (isW H x).isSome = true ∧ Q (.bl (sizeF x)) H
def spSize2  : Sp := fun vs H Q E => ∃ (x : V), vs = [x] ∧ (B_spSize2  x H Q E)
theorem c_spSize2  (x : V) (H : Hp) (Q : VK) (E : XK) : spSize2  [x] H Q E = (B_spSize2  x H Q E) := spx1 (f := fun (x : V) => [x]) (fun _ _ h => by cases h; exact rfl) x
theorem l_spSize2  {vs : List V} {H : Hp} {Q : VK} {E : XK} (h : spSize2  vs H Q E) : vs.length = 1 := spl1 h fun _ => rfl
theorem ok2_is_size (T : Tx K mg t) : FnOk P w K mg base CX0 3 t.a_is_size t.d_is_size ["thing"] spSize2 := by
  have G_is_within := ok2_is_within (P := P) (w := w) (base := base) T
  refine T.F_is_size.ok c_is_size (fun vs H Q E h => l_spSize2 h) (fun cdv A outer s H vs Q E hr h => ?_)
  · obtain ⟨x, rfl, hw, k⟩ := h
    refine ⟨_, (@pss_one _ _ _ (@ps_ret _ _ _ _ (@pe_call _ _ _ _ _ _ _ _ _ _ _ _ _ _ _ _ G_is_within (hr.mono (by decide)) (by rfl) T.m_is_within T.F_is_within.kp T.b_is_within .nil pass0 (@pa_c _ _ _ _ _ (@pvN _ 0 _ _ (by rfl) (by trivial) (by decide) (by decide)) (@pa_c _ _ _ _ _ (@pe_int _ _ _ _) (@pa_c _ _ _ _ _ (@pe_glob _ _ (.int 1000000000) _ _ (by rfl) T.m_MOST_SIZE.choose_spec ⟨_, rfl⟩ (by decide)) (@pa_nil _) (by rfl)) (by rfl)) (by rfl)) (by decide) (by rfl) (by rfl)))), ?_⟩
    rw [show start ["thing"] [x] = [some (x)] from rfl]
    clear G_is_within
    simp! only [and_true]
    rw [c_spWithin2]
    refine ⟨hw, ?_⟩
    have k' : Q (.bl (withinF x 1 1000000000)) H := k
    clear k
    simp! only [and_true]
def AxT (H : Hp) (x : V) (b : Bool) : Prop := (b = true ∧ ∃ (q : Addr) (a : Int × Int), x = .ref q ∧ H q = some (.tup [.int a.1, .int a.2]) ∧ 1 ≤ a.1 ∧ a.1 ≤ 1000000000) ∨ (b = false ∧ (x = .non ∨ (∃ i, x = .int i) ∨ (∃ s, x = .str s) ∨ (∃ q xs, x = .ref q ∧ H q = some (.lst xs)) ∨ (∃ q xs, x = .ref q ∧ H q = some (.tup xs) ∧ xs.length ≠ 2 ∧ xs.length ≤ 5000) ∨ (∃ q a c, x = .ref q ∧ H q = some (.tup [a, c]) ∧ (isW H a).isSome = true ∧ sizeF a = false) ∨ ∃ q i c, x = .ref q ∧ H q = some (.tup [.int i, c]) ∧ sizeF (.int i) = true ∧ isW H c = some false))
theorem AxT.ext {H H' : Hp} {x : V} {b : Bool} (h : AxT H x b) (e : Ext H H') : AxT H' x b := by
  have iw : ∀ a, (isW H a).isSome = true → (isW H' a).isSome = true := fun a ha => by
    obtain ⟨c, hc⟩ := Option.isSome_iff_exists.mp ha
    rw [isW_ext e hc]
    rfl
  rcases h with ⟨hb, q, a, h1, h2, h3⟩ | ⟨hb, h | h | h | ⟨q, xs, h1, h2⟩ | ⟨q, xs, h1, h2, h3⟩ | ⟨q, a, c, h1, h2, h3, h4⟩ | ⟨q, i, c, h1, h2, h3, h4⟩⟩
  · exact .inl ⟨hb, q, a, h1, e.at h2, h3⟩
  · exact .inr ⟨hb, .inl h⟩
  · exact .inr ⟨hb, .inr (.inl h)⟩
  · exact .inr ⟨hb, .inr (.inr (.inl h))⟩
  · exact .inr ⟨hb, .inr (.inr (.inr (.inl ⟨q, xs, h1, e.at h2⟩)))⟩
  · exact .inr ⟨hb, .inr (.inr (.inr (.inr (.inl ⟨q, xs, h1, e.at h2, h3⟩))))⟩
  · exact .inr ⟨hb, .inr (.inr (.inr (.inr (.inr (.inl ⟨q, a, c, h1, e.at h2, iw a h3, h4⟩)))))⟩
  · exact .inr ⟨hb, .inr (.inr (.inr (.inr (.inr (.inr ⟨q, i, c, h1, e.at h2, h3, isW_ext e h4⟩)))))⟩
abbrev B_spAxis2  (x : V) (H : Hp) (Q : VK) (E : XK) : Prop := ∃ b, AxT H x b ∧ Q (.bl b) H
def spAxis2  : Sp := fun vs H Q E => ∃ (x : V), vs = [x] ∧ (B_spAxis2  x H Q E)
theorem c_spAxis2  (x : V) (H : Hp) (Q : VK) (E : XK) : spAxis2  [x] H Q E = (B_spAxis2  x H Q E) := spx1 (f := fun (x : V) => [x]) (fun _ _ h => by cases h; exact rfl) x
theorem l_spAxis2  {vs : List V} {H : Hp} {Q : VK} {E : XK} (h : spAxis2  vs H Q E) : vs.length = 1 := spl1 h fun _ => rfl
theorem ok2_is_axis (T : Tx K mg t) : FnOk P w K mg base CX0 4 t.a_is_axis t.d_is_axis ["thing"] spAxis2 := by
  have G_is_size := ok2_is_size (P := P) (w := w) (base := base) T
  have G_is_whole := ok_is_whole (P := P) (w := w) (base := base) T
  refine T.F_is_axis.ok c_is_axis (fun vs H Q E h => l_spAxis2 h) (fun cdv A outer s H vs Q E hr h => ?_)
  · obtain ⟨x, rfl, b, hx, k⟩ := h
    refine ⟨_, (@pss_one _ _ _ (@ps_ret _ _ _ _ (@pe_andN _ _ _ _ _ _ _ (@pe_callB _ _ _ _ _ _ _ ("isinstance") _ call_qIsi (by rfl) T.z_isinstance (by decide +kernel) (@pa_c _ _ _ _ _ (@pvN _ 0 _ _ (by rfl) (by trivial) (by decide) (by decide)) (@pa_c _ _ _ _ _ (@pe_bltn _ _ (.ty "tuple") (.type "tuple") _ (by rfl) T.z_tuple (by decide +kernel) rfl (by decide) (by decide)) (@pa_nil _) (by rfl)) (by rfl)) (by decide) (by decide) (by rfl) (by rfl)) (@pe_andN _ _ _ _ _ _ _ (@pe_cmpR _ _ _ _ _ _ _ _ (op_qEq hr.units) (@pe_callB _ _ _ _ _ _ _ ("len") _ call_qLen (by rfl) T.z_len (by decide +kernel) (@pa_c _ _ _ _ _ (@pvN _ 0 _ _ (by rfl) (by trivial) (by decide) (by decide)) (@pa_nil _) (by rfl)) (by decide) (by decide) (by rfl) (by rfl)) (@pe_int _ _ _ _) (nomark _)) (@pe_andN _ _ _ _ _ _ _ (@pe_call _ _ _ _ _ _ _ _ _ _ _ _ _ _ _ _ G_is_size (hr.mono (by decide)) (by rfl) T.m_is_size T.F_is_size.kp T.b_is_size .nil pass0 (@pa_c _ _ _ _ _ (@pe_ix _ _ _ _ _ _ _ ix_q (@pvN _ 0 _ _ (by rfl) (by trivial) (by decide) (by decide)) (@pe_int _ _ _ _) (fun _ _ => rfl)) (@pa_nil _) (by rfl)) (by decide) (by rfl) (by rfl)) (@pe_one _ _ _ _ _ (@pe_call _ _ _ _ _ _ _ _ _ _ _ _ _ _ _ _ G_is_whole (hr.mono (by decide)) (by rfl) T.m_is_whole T.F_is_whole.kp T.b_is_whole .nil pass0 (@pa_c _ _ _ _ _ (@pe_ix _ _ _ _ _ _ _ ix_q (@pvN _ 0 _ _ (by rfl) (by trivial) (by decide) (by decide)) (@pe_int _ _ _ _) (fun _ _ => rfl)) (@pa_nil _) (by rfl)) (by decide) (by rfl) (by rfl)))))))), ?_⟩
    rw [show start ["thing"] [x] = [some (x)] from rfl]
    clear G_is_size G_is_whole
    rcases hx with ⟨rfl, q, a, rfl, hq, h1, h2⟩ | ⟨rfl, rfl | ⟨i, rfl⟩ | ⟨i, rfl⟩ | ⟨q, xs, rfl, hq⟩ | ⟨q, xs, rfl, hq, hl, hl5⟩ | ⟨q, a, c, rfl, hq, ha, hs⟩ | ⟨q, i, c, rfl, hq, hs, hc⟩⟩
    · have hs : sizeF (.int a.1) = true := by show (decide (1 ≤ a.1) && decide (a.1 ≤ 1000000000)) = true; rw [decide_eq_true h1, decide_eq_true h2]; rfl
      simp! only [and_true]
      rw [c_spSize2]
      refine ⟨rfl, ?_⟩
      rw [hs]
      simp! only [↓c_spWhole]
    · simp! only [and_true]
    · simp! only [and_true]
    · simp! only [and_true]
    · simp! only [and_true]
    · have hl' : ¬ (xs.length : Int) = 2 := by omega
      have hl6 : xs.length ≤ sizeLine := len5000 hl5
      simp! only [and_true]
      all_goals first | exact ⟨hl6, k⟩ | exact k | trace_state
    · simp! only [and_true]
      rw [c_spSize2]
      refine ⟨ha, ?_⟩
      rw [hs]
      simp! only [and_true]
    · simp! only [and_true]
      rw [c_spSize2]
      refine ⟨rfl, ?_⟩
      rw [hs]
      simp! only [↓c_spWhole]
theorem getElem?_zs {zs : List (List Int)} {ys : List V} {H : Hp} (al : Al (TupV H) zs ys) {i : Nat} {y : V} (h : ys[i]? = some y) : ∃ z, zs[i]? = some z ∧ TupV H z y := by
  have hi : i < ys.length := (List.getElem?_eq_some_iff.mp h).1
  have hz : zs[i]? = some (zs[i]'(by rw [← al.1]; exact hi)) := List.getElem?_eq_getElem _
  exact ⟨_, hz, al.2 i _ y hz h⟩
theorem min0 (x : Int) : min 0 x = if x < 0 then x else 0 := by split <;> omega
theorem max0 (x : Int) : max 0 x = if 0 < x then x else 0 := by split <;> omega
structure ViewAt (C : Addr) (H : Hp) (v : Addr) (room first : Int) (axs : List (Int × Int)) : Prop where
  ob : ∃ dx l, H v = some (.ins C dx (viewF room first l)) ∧ TupsAt H l (axL axs)
theorem ViewAt.ext {C : Addr} {H H' : Hp} {v : Addr} {room first : Int} {axs : List (Int × Int)} (h : ViewAt C H v room first axs) (e : Ext H H') : ViewAt C H' v room first axs := by
  obtain ⟨dx, l, h1, h2⟩ := h.ob
  exact ⟨⟨dx, l, e.at h1, h2.ext e⟩⟩
theorem ne_no {m : Str} (h : m ∈ ([("sizes" : Str), "paces", "count", "cell", "cell_at", "cells", "least", "greatest"] : List Str)) : ¬ m = "axes" ∧ ¬ m = "first" ∧ ¬ m = "room" := by
  revert m
  decide +kernel
theorem vn (room first : Int) (l : Addr) {m : Str} (h : m ∈ ([("sizes" : Str), "paces", "count", "cell", "cell_at", "cells", "least", "greatest"] : List Str)) : (viewF room first l).lookup m = none := viewF_no room first l (ne_no h).1 (ne_no h).2.1 (ne_no h).2.2
theorem al_ax {H : Hp} {axs : List (Int × Int)} {ys : List V} (al : Al (TupV H) (axL axs) ys) {i : Nat} {y : V} (h : ys[i]? = some y) : ∃ a q, axs[i]? = some a ∧ y = .ref q ∧ H q = some (.tup [.int a.1, .int a.2]) := by
  obtain ⟨z, hz, q, hq, hq2⟩ := getElem?_zs al h
  unfold axL at hz
  rw [List.getElem?_map] at hz
  obtain ⟨a, ha, rfl⟩ := Option.map_eq_some_iff.mp hz
  exact ⟨a, q, ha, hq, hq2⟩
abbrev B_spLeast (C : Addr) (v : Addr) (H : Hp) (Q : VK) (E : XK) : Prop := ∃ (room first : Int) (axs : List (Int × Int)), ViewAt C H v room first axs ∧ Axes axs ∧ ∀ H', Ext H H' → Q (.int (first + leastL axs)) H'
def spLeast (C : Addr) : Sp := fun vs H Q E => ∃ (v : Addr), vs = [.ref v] ∧ (B_spLeast C v H Q E)
theorem c_spLeast (C : Addr) (v : Addr) (H : Hp) (Q : VK) (E : XK) : spLeast C [.ref v] H Q E = (B_spLeast C v H Q E) := spx1 (f := fun (v : Addr) => [.ref v]) (fun _ _ h => by cases h; exact rfl) v
theorem l_spLeast (C : Addr) {vs : List V} {H : Hp} {Q : VK} {E : XK} (h : spLeast C vs H Q E) : vs.length = 1 := spl1 h fun _ => rfl
theorem ok_View_least (T : Tx K mg t) : FnOk P w K mg base CX0 1 t.a_View_least t.d_View_least ["self"] (spLeast t.a_View) := by
  refine T.F_View_least.ok c_View_least (fun vs H Q E h => l_spLeast _ h) (fun cdv A outer s H vs Q E hr h => ?_)
  · obtain ⟨v, rfl, room, first, axs, vo, hax, k⟩ := h
    obtain ⟨dx, l, hv, ys, hl, al⟩ := vo.ob
    have c1 := T.cl_View
    have c2 := T.na_View_first
    have c3 := T.na_View_axes
    have f1 := viewF_first room first l
    have f2 := viewF_axes room first l
    refine ⟨_, (@pss_one _ _ _ (@ps_ret _ _ _ _ (@pe_op _ _ _ _ _ _ _ _ on_add (@pe_nFld _ _ _ _ _ (@pvN _ 0 _ _ (by rfl) (by trivial) (by decide) (by decide)) rfl) (@pe_callB _ _ _ _ _ _ _ ("sum") _ (call_qSum rfl) (by rfl) T.z_sum (by decide +kernel) (@pa_c _ _ _ _ _ (@pe_comp _ _ _ _ _ _ _ _ _ _ _ (["size", "pace", "self"]) (2) (comp_ok (defScope s_View_least) ["self"] rfl rfl (by decide +kernel)) rfl (@pi_seq _ _ _ _ (@pe_nFld _ _ _ _ _ (@pvN _ 0 _ _ (by rfl) (by trivial) (by decide) (by decide)) rfl)) (fun C s₀ H₀ ex pn => ((@pg_tup _ _ _ _ _ (2) rfl (@pgs_consN _ _ _ _ _ (@pg_name _ _ (0) _ (show List.Nodup (["size", "pace", "self"] : List Str) from by decide +kernel) rfl (Or.inl rfl) (by trivial)) (@pgs_consN _ _ _ _ _ (@pg_name _ _ (1) _ (show List.Nodup (["size", "pace", "self"] : List Str) from by decide +kernel) rfl (Or.inl rfl) (by trivial)) (@pgs_nilN _) (by rfl)) (by rfl)) (by rfl) (by rfl)).mono fun _ _ _ _ h => gTup_q h)) (fun C s₀ H₀ ex pn => (@pts_nil _)) (fun C s₀ H₀ ex pn => (@pe_callB _ _ _ _ _ _ _ ("min") _ (call_qMin rfl) (by rfl) T.z_min (by decide +kernel) (@pa_c _ _ _ _ _ (@pe_int _ _ _ _) (@pa_c _ _ _ _ _ (@pe_op _ _ _ _ _ _ _ _ on_mul (@pe_op _ _ _ _ _ _ _ _ on_sub (@pvN _ 0 _ _ (by rfl) (by trivial) (by decide) (by decide)) (@pe_int _ _ _ _)) (@pvN _ 1 _ _ (by rfl) (by trivial) (by decide) (by decide))) (@pa_nil _) (by rfl)) (by rfl)) (by decide) (by decide) (by rfl) (by rfl))) (by intros; rfl)) (@pa_nil _) (by rfl)) (by decide) (by decide) (by rfl) (by rfl))))), ?_⟩
    rw [show start ["self"] [.ref v] = [some (.ref v)] from rfl]
    simp! only [and_true]
    have wk := wk_al (K := K) (R := axP) (fun _ _ _ _ h e => h.ext e) hl (al_axP al)
    refine comp_fm axs (fun _ => true) (fun a => .int (min 0 ((a.1 - 1) * a.2))) axP wk.1 wk.2 (len5000 (by have := hax.1; omega)) ?_ ?_
    · intro D a x H' N1 N0 ha hD e ⟨q, hx, hq⟩ k1 _
      subst hx
      have hb := hax.2 a ha
      have k1' := k1 rfl H' (Ext.refl _)
      have hcm : CMul (a.1 - 1) a.2 := .inl ⟨by omega, by omega⟩
      rw [min0] at k1'
      clear k1 k
      simp! only [↓m_kCm_2, ↓m_kCm2]
    · intro D H' hD e hD'
      have hD2 : H' D = some (.lst ((axs.map fun a => min 0 ((a.1 - 1) * a.2)).map V.int)) := by rw [hD', filt, List.map_map]; rfl
      have k2 : Q (.int (first + (axs.map fun a => min 0 ((a.1 - 1) * a.2)).sum)) H' := k H' e
      clear k hD'
      simp! only [and_true]
abbrev B_spGreatest (C : Addr) (v : Addr) (H : Hp) (Q : VK) (E : XK) : Prop := ∃ (room first : Int) (axs : List (Int × Int)), ViewAt C H v room first axs ∧ Axes axs ∧ ∀ H', Ext H H' → Q (.int (first + greatL axs)) H'
def spGreatest (C : Addr) : Sp := fun vs H Q E => ∃ (v : Addr), vs = [.ref v] ∧ (B_spGreatest C v H Q E)
theorem c_spGreatest (C : Addr) (v : Addr) (H : Hp) (Q : VK) (E : XK) : spGreatest C [.ref v] H Q E = (B_spGreatest C v H Q E) := spx1 (f := fun (v : Addr) => [.ref v]) (fun _ _ h => by cases h; exact rfl) v
theorem l_spGreatest (C : Addr) {vs : List V} {H : Hp} {Q : VK} {E : XK} (h : spGreatest C vs H Q E) : vs.length = 1 := spl1 h fun _ => rfl
theorem ok_View_greatest (T : Tx K mg t) : FnOk P w K mg base CX0 1 t.a_View_greatest t.d_View_greatest ["self"] (spGreatest t.a_View) := by
  refine T.F_View_greatest.ok c_View_greatest (fun vs H Q E h => l_spGreatest _ h) (fun cdv A outer s H vs Q E hr h => ?_)
  · obtain ⟨v, rfl, room, first, axs, vo, hax, k⟩ := h
    obtain ⟨dx, l, hv, ys, hl, al⟩ := vo.ob
    have c1 := T.cl_View
    have c2 := T.na_View_first
    have c3 := T.na_View_axes
    have f1 := viewF_first room first l
    have f2 := viewF_axes room first l
    refine ⟨_, (@pss_one _ _ _ (@ps_ret _ _ _ _ (@pe_op _ _ _ _ _ _ _ _ on_add (@pe_nFld _ _ _ _ _ (@pvN _ 0 _ _ (by rfl) (by trivial) (by decide) (by decide)) rfl) (@pe_callB _ _ _ _ _ _ _ ("sum") _ (call_qSum rfl) (by rfl) T.z_sum (by decide +kernel) (@pa_c _ _ _ _ _ (@pe_comp _ _ _ _ _ _ _ _ _ _ _ (["size", "pace", "self"]) (2) (comp_ok (defScope s_View_greatest) ["self"] rfl rfl (by decide +kernel)) rfl (@pi_seq _ _ _ _ (@pe_nFld _ _ _ _ _ (@pvN _ 0 _ _ (by rfl) (by trivial) (by decide) (by decide)) rfl)) (fun C s₀ H₀ ex pn => ((@pg_tup _ _ _ _ _ (2) rfl (@pgs_consN _ _ _ _ _ (@pg_name _ _ (0) _ (show List.Nodup (["size", "pace", "self"] : List Str) from by decide +kernel) rfl (Or.inl rfl) (by trivial)) (@pgs_consN _ _ _ _ _ (@pg_name _ _ (1) _ (show List.Nodup (["size", "pace", "self"] : List Str) from by decide +kernel) rfl (Or.inl rfl) (by trivial)) (@pgs_nilN _) (by rfl)) (by rfl)) (by rfl) (by rfl)).mono fun _ _ _ _ h => gTup_q h)) (fun C s₀ H₀ ex pn => (@pts_nil _)) (fun C s₀ H₀ ex pn => (@pe_callB _ _ _ _ _ _ _ ("max") _ (call_qMax rfl) (by rfl) T.z_max (by decide +kernel) (@pa_c _ _ _ _ _ (@pe_int _ _ _ _) (@pa_c _ _ _ _ _ (@pe_op _ _ _ _ _ _ _ _ on_mul (@pe_op _ _ _ _ _ _ _ _ on_sub (@pvN _ 0 _ _ (by rfl) (by trivial) (by decide) (by decide)) (@pe_int _ _ _ _)) (@pvN _ 1 _ _ (by rfl) (by trivial) (by decide) (by decide))) (@pa_nil _) (by rfl)) (by rfl)) (by decide) (by decide) (by rfl) (by rfl))) (by intros; rfl)) (@pa_nil _) (by rfl)) (by decide) (by decide) (by rfl) (by rfl))))), ?_⟩
    rw [show start ["self"] [.ref v] = [some (.ref v)] from rfl]
    simp! only [and_true]
    have wk := wk_al (K := K) (R := axP) (fun _ _ _ _ h e => h.ext e) hl (al_axP al)
    refine comp_fm axs (fun _ => true) (fun a => .int (max 0 ((a.1 - 1) * a.2))) axP wk.1 wk.2 (len5000 (by have := hax.1; omega)) ?_ ?_
    · intro D a x H' N1 N0 ha hD e ⟨q, hx, hq⟩ k1 _
      subst hx
      have hb := hax.2 a ha
      have k1' := k1 rfl H' (Ext.refl _)
      have hcm : CMul (a.1 - 1) a.2 := .inl ⟨by omega, by omega⟩
      rw [max0] at k1'
      clear k1 k
      simp! only [↓m_kCm_2, ↓m_kCm2]
    · intro D H' hD e hD'
      have hD2 : H' D = some (.lst ((axs.map fun a => max 0 ((a.1 - 1) * a.2)).map V.int)) := by rw [hD', filt, List.map_map]; rfl
      have k2 : Q (.int (first + (axs.map fun a => max 0 ((a.1 - 1) * a.2)).sum)) H' := k H' e
      clear k hD'
      simp! only [and_true]
def kSzs (H : Hp) (Q : VK) (f : Int × Int → Int) (axs : List (Int × Int)) : Prop := ∀ (r : Addr) (H' : Hp), H r = none → Ext H H' → H' r = some (.lst ((axs.map f).map V.int)) → Q (.ref r) H'
abbrev B_spFloor (K : PySem.W.Frag) (a : Addr) (ns : List Int) (p : Addr) (k : Int) (l : Addr) (H : Hp) (Q : VK) (E : XK) : Prop := p = a ∧ SqL K H a (ns.map V.int) ∧ ns.length ≤ 63 ∧ 0 ≤ k ∧ k < 900 ∧ ∃ axs : List (Int × Int), TupsAt H l (axL axs) ∧ Axes axs ∧ ∀ (d e : Int) (r : Addr) (H' : Hp), 0 ≤ d → d < 4 → 0 ≤ e → e < 6 → Ext H H' → H' r = some (.tup [.int (d - leastL axs + greatL axs + 1 + e), .int (d - leastL axs), .ref l]) → Q (.ref r) H'
def spFloor (K : PySem.W.Frag) (a : Addr) (ns : List Int) : Sp := fun vs H Q E => ∃ (p : Addr) (k : Int) (l : Addr), vs = [.ref p, .int k, .ref l] ∧ (B_spFloor K a ns p k l H Q E)
theorem c_spFloor (K : PySem.W.Frag) (a : Addr) (ns : List Int) (p : Addr) (k : Int) (l : Addr) (H : Hp) (Q : VK) (E : XK) : spFloor K a ns [.ref p, .int k, .ref l] H Q E = (B_spFloor K a ns p k l H Q E) := spx3 (f := fun (p : Addr) (k : Int) (l : Addr) => [.ref p, .int k, .ref l]) (fun _ _ _ _ _ _ h => by cases h; exact ⟨rfl, rfl, rfl⟩) p k l
theorem l_spFloor (K : PySem.W.Frag) (a : Addr) (ns : List Int) {vs : List V} {H : Hp} {Q : VK} {E : XK} (h : spFloor K a ns vs H Q E) : vs.length = 3 := spl3 h fun _ _ _ => rfl
theorem ok__law_floor (T : Tx K mg t) (a : Addr) (ns : List Int) : FnOk P w K mg base CX0 2 t.a__law_floor t.d__law_floor ["_law_script", "_law_at", "_law_axes_here"] (spFloor K a ns) := by
  have G__law_draw := ok__law_draw (P := P) (w := w) (base := base) T a ns
  refine T.F__law_floor.ok c__law_floor (fun vs H Q E h => l_spFloor _ _ _ h) (fun cdv A outer s H vs Q E hr h => ?_)
  · obtain ⟨_, k, l, rfl, rfl, hS, hl, hk0, hk1, axs, ⟨ys, hL, al⟩, hax, kk⟩ := h
    rename_i a
    refine ⟨_, (@pss_cons _ _ _ _ _ (@ps_set _ _ (3) _ _ _ _ c__law_floor.nd rfl (Or.inl rfl) (@pe_int _ _ _ _) (by rfl) (by trivial)) (@pss_cons _ _ _ _ _ (@ps_set _ _ (4) _ _ _ _ c__law_floor.nd rfl (Or.inl rfl) (@pe_int _ _ _ _) (by rfl) (by trivial)) (@pss_cons _ _ _ _ _ (@ps_for _ _ _ _ _ _ _ _ PassesOwn.never rfl (@pi_seq _ _ _ _ (@pvN _ 2 _ _ (by rfl) (by trivial) (by decide) (by decide))) ((@pg_tup _ _ _ _ _ (2) rfl (@pgs_consN _ _ _ _ _ (@pg_name _ _ (5) _ c__law_floor.nd rfl (Or.inl rfl) (by trivial)) (@pgs_consN _ _ _ _ _ (@pg_name _ _ (6) _ c__law_floor.nd rfl (Or.inl rfl) (by trivial)) (@pgs_nilN _) (by rfl)) (by rfl)) (by rfl) (by rfl)).mono fun _ _ _ _ h => gTup_q h) (@pss_cons _ _ _ _ _ (@ps_set _ _ (3) _ _ _ _ c__law_floor.nd rfl (Or.inl rfl) (@pe_op _ _ _ _ _ _ _ _ on_add (@pvN _ 3 _ _ (by rfl) (by trivial) (by decide) (by decide)) (@pe_callB _ _ _ _ _ _ _ ("min") _ (call_qMin rfl) (by rfl) T.z_min (by decide +kernel) (@pa_c _ _ _ _ _ (@pe_int _ _ _ _) (@pa_c _ _ _ _ _ (@pe_op _ _ _ _ _ _ _ _ on_mul (@pvN _ 6 _ _ (by rfl) (by trivial) (by decide) (by decide)) (@pe_op _ _ _ _ _ _ _ _ on_sub (@pvN _ 5 _ _ (by rfl) (by trivial) (by decide) (by decide)) (@pe_int _ _ _ _))) (@pa_nil _) (by rfl)) (by rfl)) (by decide) (by decide) (by rfl) (by rfl))) (by rfl) (by trivial)) (@pss_one _ _ _ (@ps_set _ _ (4) _ _ _ _ c__law_floor.nd rfl (Or.inl rfl) (@pe_op _ _ _ _ _ _ _ _ on_add (@pvN _ 4 _ _ (by rfl) (by trivial) (by decide) (by decide)) (@pe_callB _ _ _ _ _ _ _ ("max") _ (call_qMax rfl) (by rfl) T.z_max (by decide +kernel) (@pa_c _ _ _ _ _ (@pe_int _ _ _ _) (@pa_c _ _ _ _ _ (@pe_op _ _ _ _ _ _ _ _ on_mul (@pvN _ 6 _ _ (by rfl) (by trivial) (by decide) (by decide)) (@pe_op _ _ _ _ _ _ _ _ on_sub (@pvN _ 5 _ _ (by rfl) (by trivial) (by decide) (by decide)) (@pe_int _ _ _ _))) (@pa_nil _) (by rfl)) (by rfl)) (by decide) (by decide) (by rfl) (by rfl))) (by rfl) (by trivial)))) (by intros; rfl)) (@pss_cons _ _ _ _ _ (@ps_set _ _ (7) _ _ _ _ c__law_floor.nd rfl (Or.inl rfl) (@pe_op _ _ _ _ _ _ _ _ on_sub (@pe_call _ _ _ _ _ _ _ _ _ _ _ _ _ _ _ _ G__law_draw (hr.mono (by decide)) (by rfl) T.m__law_draw T.F__law_draw.kp T.b__law_draw .nil pass0 (@pa_c _ _ _ _ _ (@pvN _ 0 _ _ (by rfl) (by trivial) (by decide) (by decide)) (@pa_c _ _ _ _ _ (@pvN _ 1 _ _ (by rfl) (by trivial) (by decide) (by decide)) (@pa_c _ _ _ _ _ (@pe_int _ _ _ _) (@pa_nil _) (by rfl)) (by rfl)) (by rfl)) (by decide) (by rfl) (by rfl)) (@pvN _ 3 _ _ (by rfl) (by trivial) (by decide) (by decide))) (by rfl) (by trivial)) (@pss_one _ _ _ (@ps_ret _ _ _ _ (@pe_qTup _ _ _ _ _ (@pa_c _ _ _ _ _ (@pe_op _ _ _ _ _ _ _ _ on_add (@pe_op _ _ _ _ _ _ _ _ on_add (@pe_op _ _ _ _ _ _ _ _ on_add (@pvN _ 7 _ _ (by rfl) (by trivial) (by decide) (by decide)) (@pvN _ 4 _ _ (by rfl) (by trivial) (by decide) (by decide))) (@pe_int _ _ _ _)) (@pe_call _ _ _ _ _ _ _ _ _ _ _ _ _ _ _ _ G__law_draw (hr.mono (by decide)) (by rfl) T.m__law_draw T.F__law_draw.kp T.b__law_draw .nil pass0 (@pa_c _ _ _ _ _ (@pvN _ 0 _ _ (by rfl) (by trivial) (by decide) (by decide)) (@pa_c _ _ _ _ _ (@pe_op _ _ _ _ _ _ _ _ on_add (@pvN _ 1 _ _ (by rfl) (by trivial) (by decide) (by decide)) (@pe_int _ _ _ _)) (@pa_c _ _ _ _ _ (@pe_int _ _ _ _) (@pa_nil _) (by rfl)) (by rfl)) (by rfl)) (by decide) (by rfl) (by rfl))) (@pa_c _ _ _ _ _ (@pvN _ 7 _ _ (by rfl) (by trivial) (by decide) (by decide)) (@pa_c _ _ _ _ _ (@pvN _ 2 _ _ (by rfl) (by trivial) (by decide) (by decide)) (@pa_nil _) (by rfl)) (by rfl)) (by rfl))))))))), ?_⟩
    rw [show start ["_law_script", "_law_at", "_law_axes_here", "_law_least", "_law_greatest", "_law_size", "_law_pace", "_law_first_here"] [.ref a, .int k, .ref l] = [some (.ref a), some (.int k), some (.ref l), none, none, none, none, none] from rfl]
    simp! only [and_true]
    refine for_lst (xs := ys) (fun i σ H' => ∃ v5 v6 v7 : Option V, σ = [some (.ref a), some (.int k), some (.ref l), some (.int (leastL (axs.take i))), some (.int (greatL (axs.take i))), v5, v6, v7] ∧ H' = H) ⟨none, none, none, rfl, rfl⟩ (fun i σ H' _ ⟨_, _, _, _, e⟩ => by rw [e]; exact hL) ?_ ?_
    · rintro i y _ _ hi ⟨v5, v6, v7, rfl, rfl⟩
      rename_i H
      obtain ⟨x, q, hx, rfl, hq⟩ := al_ax al hi
      have hb := hax.2 x (List.mem_of_getElem? hx)
      have tk : axs.take (i + 1) = axs.take i ++ [x] := by rw [List.take_succ, hx]; rfl
      have e1 := leastL_snoc (axs.take i) x
      have e2 := greatL_snoc (axs.take i) x
      rw [← tk] at e1 e2
      rw [min0] at e1
      rw [max0] at e2
      have hcm : CMul x.2 (x.1 - 1) := .inr (by omega)
      clear hL al hi hx tk kk
      simp! only [↓m_kBody]
      exact ⟨_, _, _, rfl⟩
    · rintro _ _ ⟨v5, v6, v7, rfl, rfl⟩
      rename_i H
      have hln : ys.length = axs.length := by rw [al.1]; unfold axL; rw [List.length_map]
      rw [hln, List.take_length]
      simp! only [and_true]
      rw [c_spDraw]
      refine ⟨hS, hl, (by omega), by omega, fun d d0 d1 => ?_⟩
      simp! only [and_true]
      rw [c_spDraw]
      refine ⟨hS, hl, (by omega), by omega, fun e e0 e1 => ?_⟩
      simp! only [and_true]
      intro r H2 hr2 x2 h2
      exact kk d e r H2 d0 d1 e0 e1 x2 h2
abbrev B_spWays  (p : Addr) (q : Addr) (cell : Int) (H : Hp) (Q : VK) (E : XK) : Prop := ∃ ns ms : List Int, H p = some (.lst (ns.map V.int)) ∧ H q = some (.lst (ms.map V.int)) ∧ SmallSz ns ∧ ms.length = ns.length ∧ (∀ m ∈ ms, -9 ≤ m ∧ m ≤ 9) ∧ ∀ (ws : List Int) (r : Addr) (H' : Hp), Ext H H' → H' r = some (.lst (ws.map V.int)) → ws.length = ns.length → (∀ w ∈ ws, -200 ≤ w ∧ w ≤ 200) → Q (.ref r) H'
def spWays  : Sp := fun vs H Q E => ∃ (p : Addr) (q : Addr) (cell : Int), vs = [.ref p, .ref q, .int cell] ∧ (B_spWays  p q cell H Q E)
theorem c_spWays  (p : Addr) (q : Addr) (cell : Int) (H : Hp) (Q : VK) (E : XK) : spWays  [.ref p, .ref q, .int cell] H Q E = (B_spWays  p q cell H Q E) := spx3 (f := fun (p : Addr) (q : Addr) (cell : Int) => [.ref p, .ref q, .int cell]) (fun _ _ _ _ _ _ h => by cases h; exact ⟨rfl, rfl, rfl⟩) p q cell
theorem l_spWays  {vs : List V} {H : Hp} {Q : VK} {E : XK} (h : spWays  vs H Q E) : vs.length = 3 := spl3 h fun _ _ _ => rfl
theorem ok__law_paces (T : Tx K mg t) : FnOk P w K mg base CX0 1 t.a__law_paces t.d__law_paces ["_law_sizes", "_law_paces_here", "_law_cell"] spWays := by
  refine T.F__law_paces.ok c__law_paces (fun vs H Q E h => l_spWays h) (fun cdv A outer s H vs Q E hr h => ?_)
  · obtain ⟨p, q, cell, rfl, ns, ms, hp, hq, hs, hl, hm, k⟩ := h
    refine ⟨_, (@pss_cons _ _ _ _ _ (@ps_set _ _ (3) _ _ _ _ c__law_paces.nd rfl (Or.inl rfl) (@pe_qLst _ _ _ _ (@pa_nil _)) (by rfl) (by trivial)) (@pss_cons _ _ _ _ _ (@ps_set _ _ (4) _ _ _ _ c__law_paces.nd rfl (Or.inl rfl) (@pe_int _ _ _ _) (by rfl) (by trivial)) (@pss_cons _ _ _ _ _ (@ps_for _ _ _ _ _ _ _ _ PassesOwn.never rfl (@pi_range1 _ _ _ _ _ _ (by rfl) T.z_range (@pa_c _ _ _ _ _ (@pe_callB _ _ _ _ _ _ _ ("len") _ call_qLen (by rfl) T.z_len (by decide +kernel) (@pa_c _ _ _ _ _ (@pvN _ 0 _ _ (by rfl) (by trivial) (by decide) (by decide)) (@pa_nil _) (by rfl)) (by decide) (by decide) (by rfl) (by rfl)) (@pa_nil _) (by rfl)) (by rfl)) (@pg_name _ _ (5) _ c__law_paces.nd rfl (Or.inl rfl) (by trivial)) (@pss_cons _ _ _ _ _ (@ps_set _ _ (6) _ _ _ _ c__law_paces.nd rfl (Or.inl rfl) (@pe_op _ _ _ _ _ _ _ _ on_sub (@pe_op _ _ _ _ _ _ _ _ on_sub (@pe_callB _ _ _ _ _ _ _ ("len") _ call_qLen (by rfl) T.z_len (by decide +kernel) (@pa_c _ _ _ _ _ (@pvN _ 0 _ _ (by rfl) (by trivial) (by decide) (by decide)) (@pa_nil _) (by rfl)) (by decide) (by decide) (by rfl) (by rfl)) (@pe_int _ _ _ _)) (@pvN _ 5 _ _ (by rfl) (by trivial) (by decide) (by decide))) (by rfl) (by trivial)) (@pss_cons _ _ _ _ _ (@ps_set _ _ (7) _ _ _ _ c__law_paces.nd rfl (Or.inl rfl) (@pe_ix _ _ _ _ _ _ _ ix_q (@pvN _ 1 _ _ (by rfl) (by trivial) (by decide) (by decide)) (@pvN _ 6 _ _ (by rfl) (by trivial) (by decide) (by decide)) (fun _ _ => rfl)) (by rfl) (by trivial)) (@pss_cons _ _ _ _ _ (@ps_if _ _ _ _ _ _ _ _ (@pt_cmpRN _ _ _ _ _ _ _ _ (op_qEq hr.units) (@pe_op _ _ _ _ _ _ _ _ on_mod (@pe_op _ _ _ _ _ _ _ _ on_fdiv (@pvN _ 2 _ _ (by rfl) (by trivial) (by decide) (by decide)) (@pe_int _ _ _ _)) (@pe_int _ _ _ _)) (@pe_int _ _ _ _) (nomark _)) (@pss_one _ _ _ (@ps_set _ _ (7) _ _ _ _ c__law_paces.nd rfl (Or.inl rfl) (@pvN _ 4 _ _ (by rfl) (by trivial) (by decide) (by decide)) (by rfl) (by trivial))) (@pss_nil _)) (@pss_cons _ _ _ _ _ (@ps_if _ _ _ _ _ _ _ _ (@pt_cmpRN _ _ _ _ _ _ _ _ (op_qEq hr.units) (@pe_op _ _ _ _ _ _ _ _ on_mod (@pe_op _ _ _ _ _ _ _ _ on_fdiv (@pvN _ 2 _ _ (by rfl) (by trivial) (by decide) (by decide)) (@pe_int _ _ _ _)) (@pe_int _ _ _ _)) (@pe_int _ _ _ _) (nomark _)) (@pss_one _ _ _ (@ps_set _ _ (7) _ _ _ _ c__law_paces.nd rfl (Or.inl rfl) (@pe_op _ _ _ _ _ _ _ _ on_sub (@pe_int _ _ _ _) (@pvN _ 4 _ _ (by rfl) (by trivial) (by decide) (by decide))) (by rfl) (by trivial))) (@pss_nil _)) (@pss_cons _ _ _ _ _ (@ps_if _ _ _ _ _ _ _ _ (PW.pt (@pw_and _ _ _ _ _ _ _ (@pt_cmpRN _ _ _ _ _ _ _ _ (op_qEq hr.units) (@pe_op _ _ _ _ _ _ _ _ on_mod (@pe_op _ _ _ _ _ _ _ _ on_fdiv (@pvN _ 2 _ _ (by rfl) (by trivial) (by decide) (by decide)) (@pe_int _ _ _ _)) (@pe_int _ _ _ _)) (@pe_int _ _ _ _) (nomark _)) (@pw_and1 _ _ _ _ (@pt_cmpRN _ _ _ _ _ _ _ _ (op_qNe hr.units) (@pvN _ 3 _ _ (by rfl) (by trivial) (by decide) (by decide)) (@pe_qLst _ _ _ _ (@pa_nil _)) (nomark _))))) (@pss_one _ _ _ (@ps_set _ _ (7) _ _ _ _ c__law_paces.nd rfl (Or.inl rfl) (@pe_ix _ _ _ _ _ _ _ ix_q (@pvN _ 3 _ _ (by rfl) (by trivial) (by decide) (by decide)) (@pe_int _ _ _ _) (fun _ _ => rfl)) (by rfl) (by trivial))) (@pss_nil _)) (@pss_cons _ _ _ _ _ (@ps_set _ _ (4) _ _ _ _ c__law_paces.nd rfl (Or.inl rfl) (@pe_op _ _ _ _ _ _ _ _ on_mul (@pvN _ 4 _ _ (by rfl) (by trivial) (by decide) (by decide)) (@pe_ix _ _ _ _ _ _ _ ix_q (@pvN _ 0 _ _ (by rfl) (by trivial) (by decide) (by decide)) (@pvN _ 6 _ _ (by rfl) (by trivial) (by decide) (by decide)) (fun _ _ => rfl))) (by rfl) (by trivial)) (@pss_cons _ _ _ _ _ (@ps_set _ _ (3) _ _ _ _ c__law_paces.nd rfl (Or.inl rfl) (@pe_op _ _ _ _ _ _ _ _ op_nCat (@pe_qLst _ _ _ _ (@pa_c _ _ _ _ _ (@pvN _ 7 _ _ (by rfl) (by trivial) (by decide) (by decide)) (@pa_nil _) (by rfl))) (@pvN _ 3 _ _ (by rfl) (by trivial) (by decide) (by decide))) (by rfl) (by trivial)) (@pss_one _ _ _ (@ps_set _ _ (2) _ _ _ _ c__law_paces.nd rfl (Or.inl rfl) (@pe_op _ _ _ _ _ _ _ _ on_fdiv (@pvN _ 2 _ _ (by rfl) (by trivial) (by decide) (by decide)) (@pe_int _ _ _ _)) (by rfl) (by trivial)))))))))) (by intros; rfl)) (@pss_one _ _ _ (@ps_ret _ _ _ _ (@pvN _ 3 _ _ (by rfl) (by trivial) (by decide) (by decide))))))), ?_⟩
    rw [show start ["_law_sizes", "_law_paces_here", "_law_cell", "_law_ways", "_law_behind", "_law_k", "_law_at", "_law_pace"] [.ref p, .ref q, .int cell] = [some (.ref p), some (.ref q), some (.int cell), none, none, none, none, none] from rfl]
    simp! only [and_true]
    intro r H1 hr1 e1 h1
    have hp1 := e1.at hp
    simp! only [and_true]
    have hn5 := hs.1
    refine ⟨by omega, by omega, ?_⟩
    refine for_rng (fun i σ H' => ∃ (r : Addr) (c : Int) (ws : List Int) (v5 v6 v7 : Option V), σ = [some (.ref p), some (.ref q), some (.int c), some (.ref r), some (.int (prodL (ns.drop (ns.length - i)))), v5, v6, v7] ∧ Ext H H' ∧ H' r = some (.lst (ws.map V.int)) ∧ ws.length = i ∧ ∀ w ∈ ws, -200 ≤ w ∧ w ≤ 200) ⟨r, cell, [], none, none, none, by simp [prodL], e1, h1, rfl, fun _ h => absurd h List.not_mem_nil⟩ ?_ ?_
    · rintro i _ H2 hi ⟨r, c, ws, v5, v6, v7, rfl, e2, h2, hwl, hwb⟩
      have hi' : i < ns.length := hi
      have hp2 := e2.at hp
      have hq2 := e2.at hq
      have ix : ((ns.length : Int) - 1 - (0 + (i : Int))) = ((ns.length - 1 - i : Nat) : Int) := by omega
      have hg : ns[ns.length - 1 - i]? = some (ns[ns.length - 1 - i]'(by omega)) := List.getElem?_eq_getElem _
      have hz : atI (ns.map V.int) ((ns.length : Int) - 1 - (0 + (i : Int))) = some (.int (ns[ns.length - 1 - i]'(by omega))) := by rw [ix]; exact atI_nat (by rw [List.getElem?_map, hg]; rfl)
      have hst := prodL_step ns i _ hi' hg
      have hzb := hs.2.1 _ (List.mem_of_getElem? hg)
      generalize (ns[ns.length - 1 - i]'(by omega)) = z at hz hst hzb
      obtain ⟨m, hmz, hm'⟩ := atI_ints ms ((ns.length : Int) - 1 - (0 + (i : Int))) (by omega) (by omega)
      have hmb := hm m hm'
      obtain ⟨b1, b2⟩ := prodL_drop_le ns (fun n hn => (hs.2.1 n hn).1) (ns.length - i)
      have b3 := hs.2.2
      clear hg ix hp hq hm hm'
      have hll : 1 + i ≤ sizeLine := len5000 (by omega)
      have hcm : CMul (prodL (ns.drop (ns.length - i))) z := .inr (by omega)
      replace hst := fun (_ : Unit) => hst
      generalize prodL (ns.drop (ns.length - i)) = be at hst b1 b2 hcm
      simp! only [↓m_kBody, -m_tIfS]
      refine if_gen (fun σ' H' => ∃ pc : Int, -200 ≤ pc ∧ pc ≤ 200 ∧ H' = H2 ∧ σ' = [some (.ref p), some (.ref q), some (.int c), some (.ref r), some (.int be), some (.int (0 + (i : Int))), some (.int ((ns.length : Int) - 1 - (0 + (i : Int)))), some (.int pc)]) (fun nx' hn => ?_) ?_
      · by_cases c0 : c / 4 % 5 = 0
        · have k1 := hn _ H2 ⟨be, by omega, by omega, rfl, rfl⟩
          clear hn
          simp! only [and_true]
        · have k1 := hn _ H2 ⟨m, by omega, by omega, rfl, rfl⟩
          clear hn
          simp! only [and_true]
      rintro _ _ ⟨p1, g1, g2, rfl, rfl⟩
      rename_i H2
      simp! only [-m_tIfS]
      refine if_gen (fun σ' H' => ∃ pc : Int, -200 ≤ pc ∧ pc ≤ 200 ∧ H' = H2 ∧ σ' = [some (.ref p), some (.ref q), some (.int c), some (.ref r), some (.int be), some (.int (0 + (i : Int))), some (.int ((ns.length : Int) - 1 - (0 + (i : Int)))), some (.int pc)]) (fun nx' hn => ?_) ?_
      · by_cases c0 : c / 4 % 5 = 1
        · have k1 := hn _ H2 ⟨0 - be, by omega, by omega, rfl, rfl⟩
          clear hn
          simp! only [and_true]
        · have k1 := hn _ H2 ⟨p1, g1, g2, rfl, rfl⟩
          clear hn
          simp! only [and_true]
      rintro _ _ ⟨p2, g1, g2, rfl, rfl⟩
      rename_i H2
      simp! only [-m_tIfS]
      refine if_gen (fun σ' H' => ∃ pc : Int, -200 ≤ pc ∧ pc ≤ 200 ∧ Ext H2 H' ∧ σ' = [some (.ref p), some (.ref q), some (.int c), some (.ref r), some (.int be), some (.int (0 + (i : Int))), some (.int ((ns.length : Int) - 1 - (0 + (i : Int)))), some (.int pc)]) (fun nx' hn => ?_) ?_
      · by_cases c0 : c / 4 % 5 = 2
        · cases ws with
          | nil =>
            simp! only [and_true]
            intro q0 H3 hq0 e3 h3
            have h2' := e3.at h2
            have k1 := hn _ H3 ⟨p2, g1, g2, e3, rfl⟩
            clear hn
            simp! only [and_true]
          | cons w0 ws =>
            have hw0 := hwb w0 List.mem_cons_self
            simp! only [and_true]
            intro q0 H3 hq0 e3 h3
            have h2' := e3.at h2
            have k1 := hn _ H3 ⟨w0, hw0.1, hw0.2, e3, rfl⟩
            clear hn
            simp! only [and_true]
        · have k1 := hn _ H2 ⟨p2, g1, g2, Ext.refl _, rfl⟩
          clear hn
          simp! only [and_true]
      rintro _ H3 ⟨p3, g1, g2, e3, rfl⟩
      have hp3 := e3.at hp2
      simp! only [and_true]
      intro q1 H4 hq1 e4 h4
      have h2' := (e3.trans e4).at h2
      simp! only [and_true]
      intro q2 H5 hq2 e5 h5
      simp! only [and_true]
      refine ⟨q2, c / 5, p3 :: ws, _, _, _, by rw [hst ()], (e2.trans e3).trans (e4.trans e5), h5, by simp [hwl], fun w hw => ?_⟩
      rcases List.mem_cons.mp hw with h | h
      · rw [h]; exact ⟨g1, g2⟩
      · exact hwb w h
    · rintro _ H2 ⟨r, c, ws, v5, v6, v7, rfl, e2, h2, hwl, hwb⟩
      simp! only [and_true]
      exact k ws r H2 e2 h2 hwl hwb
abbrev B_spSmall (K : PySem.W.Frag) (a : Addr) (ns : List Int) (p : Addr) (k : Int) (H : Hp) (Q : VK) (E : XK) : Prop := p = a ∧ SqL K H a (ns.map V.int) ∧ ns.length ≤ 63 ∧ 0 ≤ k ∧ k < 800 ∧ ∀ (room first : Int) (axs : List (Int × Int)) (l r : Addr) (H' : Hp), Ext H H' → H l = none → H' r = some (.tup [.int room, .int first, .ref l]) → TupsAt H' l (axL axs) → ViewOk room first axs → Kept axs → SmallV axs → Q (.ref r) H'
def spSmall (K : PySem.W.Frag) (a : Addr) (ns : List Int) : Sp := fun vs H Q E => ∃ (p : Addr) (k : Int), vs = [.ref p, .int k] ∧ (B_spSmall K a ns p k H Q E)
theorem c_spSmall (K : PySem.W.Frag) (a : Addr) (ns : List Int) (p : Addr) (k : Int) (H : Hp) (Q : VK) (E : XK) : spSmall K a ns [.ref p, .int k] H Q E = (B_spSmall K a ns p k H Q E) := spx2 (f := fun (p : Addr) (k : Int) => [.ref p, .int k]) (fun _ _ _ _ h => by cases h; exact ⟨rfl, rfl⟩) p k
theorem l_spSmall (K : PySem.W.Frag) (a : Addr) (ns : List Int) {vs : List V} {H : Hp} {Q : VK} {E : XK} (h : spSmall K a ns vs H Q E) : vs.length = 2 := spl2 h fun _ _ => rfl
theorem ok__law_small (T : Tx K mg t) (a : Addr) (ns : List Int) : FnOk P w K mg base CX0 3 t.a__law_small t.d__law_small ["_law_script", "_law_at"] (spSmall K a ns) := by
  have G__law_draw := ok__law_draw (P := P) (w := w) (base := base) T a ns
  have G__law_paces := ok__law_paces (P := P) (w := w) (base := base) T
  have G__law_floor := ok__law_floor (P := P) (w := w) (base := base) T a ns
  refine T.F__law_small.ok c__law_small (fun vs H Q E h => l_spSmall _ _ _ h) (fun cdv A outer s H vs Q E hr h => ?_)
  · obtain ⟨_, k, rfl, rfl, hS, hl, hk0, hk1, kk⟩ := h
    rename_i a
    refine ⟨_, (@pss_cons _ _ _ _ _ (@ps_set _ _ (2) _ _ _ _ c__law_small.nd rfl (Or.inl rfl) (@pe_qLst _ _ _ _ (@pa_nil _)) (by rfl) (by trivial)) (@pss_cons _ _ _ _ _ (@ps_set _ _ (3) _ _ _ _ c__law_small.nd rfl (Or.inl rfl) (@pe_qLst _ _ _ _ (@pa_nil _)) (by rfl) (by trivial)) (@pss_cons _ _ _ _ _ (@ps_set _ _ (4) _ _ _ _ c__law_small.nd rfl (Or.inl rfl) (@pe_int _ _ _ _) (by rfl) (by trivial)) (@pss_cons _ _ _ _ _ (@ps_for _ _ _ _ _ _ _ _ PassesOwn.never rfl (@pi_range1 _ _ _ _ _ _ (by rfl) T.z_range (@pa_c _ _ _ _ _ (@pe_call _ _ _ _ _ _ _ _ _ _ _ _ _ _ _ _ G__law_draw (hr.mono (by decide)) (by rfl) T.m__law_draw T.F__law_draw.kp T.b__law_draw .nil pass0 (@pa_c _ _ _ _ _ (@pvN _ 0 _ _ (by rfl) (by trivial) (by decide) (by decide)) (@pa_c _ _ _ _ _ (@pvN _ 1 _ _ (by rfl) (by trivial) (by decide) (by decide)) (@pa_c _ _ _ _ _ (@pe_int _ _ _ _) (@pa_nil _) (by rfl)) (by rfl)) (by rfl)) (by decide) (by rfl) (by rfl)) (@pa_nil _) (by rfl)) (by rfl)) (@pg_name _ _ (5) _ c__law_small.nd rfl (Or.inl rfl) (by trivial)) (@pss_cons _ _ _ _ _ (@ps_set _ _ (6) _ _ _ _ c__law_small.nd rfl (Or.inl rfl) (@pe_call _ _ _ _ _ _ _ _ _ _ _ _ _ _ _ _ G__law_draw (hr.mono (by decide)) (by rfl) T.m__law_draw T.F__law_draw.kp T.b__law_draw .nil pass0 (@pa_c _ _ _ _ _ (@pvN _ 0 _ _ (by rfl) (by trivial) (by decide) (by decide)) (@pa_c _ _ _ _ _ (@pe_op _ _ _ _ _ _ _ _ on_add (@pe_op _ _ _ _ _ _ _ _ on_add (@pvN _ 1 _ _ (by rfl) (by trivial) (by decide) (by decide)) (@pe_int _ _ _ _)) (@pvN _ 5 _ _ (by rfl) (by trivial) (by decide) (by decide))) (@pa_c _ _ _ _ _ (@pe_op _ _ _ _ _ _ _ _ on_pow (@pe_int _ _ _ _) (@pe_int _ _ _ _)) (@pa_nil _) (by rfl)) (by rfl)) (by rfl)) (by decide) (by rfl) (by rfl)) (by rfl) (by trivial)) (@pss_cons _ _ _ _ _ (@ps_set _ _ (7) _ _ _ _ c__law_small.nd rfl (Or.inl rfl) (@pe_op _ _ _ _ _ _ _ _ on_add (@pe_int _ _ _ _) (@pe_op _ _ _ _ _ _ _ _ on_mod (@pvN _ 6 _ _ (by rfl) (by trivial) (by decide) (by decide)) (@pe_int _ _ _ _))) (by rfl) (by trivial)) (@pss_one _ _ _ (@ps_if _ _ _ _ _ _ _ _ (@pt_cmpRN _ _ _ _ _ _ _ _ on_le (@pe_op _ _ _ _ _ _ _ _ on_mul (@pvN _ 4 _ _ (by rfl) (by trivial) (by decide) (by decide)) (@pvN _ 7 _ _ (by rfl) (by trivial) (by decide) (by decide))) (@pe_int _ _ _ _) (nomark _)) (@pss_cons _ _ _ _ _ (@ps_set _ _ (4) _ _ _ _ c__law_small.nd rfl (Or.inl rfl) (@pe_op _ _ _ _ _ _ _ _ on_mul (@pvN _ 4 _ _ (by rfl) (by trivial) (by decide) (by decide)) (@pvN _ 7 _ _ (by rfl) (by trivial) (by decide) (by decide))) (by rfl) (by trivial)) (@pss_cons _ _ _ _ _ (@ps_expr _ _ _ _ (@pe_bm _ _ _ _ _ _ _ _ _ _ _ _ PySem.F.plainAttrs_list PySem.F.slot_list_append PySem.F.type_list_append mt_append (@pvN _ 2 _ _ (by rfl) (by trivial) (by decide) (by decide)) (@pa_c _ _ _ _ _ (@pvN _ 7 _ _ (by rfl) (by trivial) (by decide) (by decide)) (@pa_nil _) (by rfl)) (by rfl) (by rfl) (by rfl) (by rfl) (by rfl)) (by rfl)) (@pss_one _ _ _ (@ps_expr _ _ _ _ (@pe_bm _ _ _ _ _ _ _ _ _ _ _ _ PySem.F.plainAttrs_list PySem.F.slot_list_append PySem.F.type_list_append mt_append (@pvN _ 3 _ _ (by rfl) (by trivial) (by decide) (by decide)) (@pa_c _ _ _ _ _ (@pe_op _ _ _ _ _ _ _ _ on_sub (@pe_op _ _ _ _ _ _ _ _ on_mod (@pe_op _ _ _ _ _ _ _ _ on_fdiv (@pvN _ 6 _ _ (by rfl) (by trivial) (by decide) (by decide)) (@pe_int _ _ _ _)) (@pe_int _ _ _ _)) (@pe_int _ _ _ _)) (@pa_nil _) (by rfl)) (by rfl) (by rfl) (by rfl) (by rfl) (by rfl)) (by rfl))))) (@pss_nil _))))) (by intros; rfl)) (@pss_cons _ _ _ _ _ (@ps_set _ _ (8) _ _ _ _ c__law_small.nd rfl (Or.inl rfl) (@pe_listzip _ _ _ _ _ _ _ _ rfl (by rfl) T.z_list (by rfl) T.z_zip (@pa_c _ _ _ _ _ (@pvN _ 2 _ _ (by rfl) (by trivial) (by decide) (by decide)) (@pa_c _ _ _ _ _ (@pe_call _ _ _ _ _ _ _ _ _ _ _ _ _ _ _ _ G__law_paces (hr.mono (by decide)) (by rfl) T.m__law_paces T.F__law_paces.kp T.b__law_paces .nil pass0 (@pa_c _ _ _ _ _ (@pvN _ 2 _ _ (by rfl) (by trivial) (by decide) (by decide)) (@pa_c _ _ _ _ _ (@pvN _ 3 _ _ (by rfl) (by trivial) (by decide) (by decide)) (@pa_c _ _ _ _ _ (@pe_call _ _ _ _ _ _ _ _ _ _ _ _ _ _ _ _ G__law_draw (hr.mono (by decide)) (by rfl) T.m__law_draw T.F__law_draw.kp T.b__law_draw .nil pass0 (@pa_c _ _ _ _ _ (@pvN _ 0 _ _ (by rfl) (by trivial) (by decide) (by decide)) (@pa_c _ _ _ _ _ (@pe_op _ _ _ _ _ _ _ _ on_add (@pvN _ 1 _ _ (by rfl) (by trivial) (by decide) (by decide)) (@pe_int _ _ _ _)) (@pa_c _ _ _ _ _ (@pe_op _ _ _ _ _ _ _ _ on_pow (@pe_int _ _ _ _) (@pe_int _ _ _ _)) (@pa_nil _) (by rfl)) (by rfl)) (by rfl)) (by decide) (by rfl) (by rfl)) (@pa_nil _) (by rfl)) (by rfl)) (by rfl)) (by decide) (by rfl) (by rfl)) (@pa_nil _) (by rfl)) (by rfl)) (by rfl) (by rfl) (by rfl) (by rfl)) (by rfl) (by trivial)) (@pss_one _ _ _ (@ps_ret _ _ _ _ (@pe_call _ _ _ _ _ _ _ _ _ _ _ _ _ _ _ _ G__law_floor (hr.mono (by decide)) (by rfl) T.m__law_floor T.F__law_floor.kp T.b__law_floor .nil pass0 (@pa_c _ _ _ _ _ (@pvN _ 0 _ _ (by rfl) (by trivial) (by decide) (by decide)) (@pa_c _ _ _ _ _ (@pe_op _ _ _ _ _ _ _ _ on_add (@pvN _ 1 _ _ (by rfl) (by trivial) (by decide) (by decide)) (@pe_int _ _ _ _)) (@pa_c _ _ _ _ _ (@pe_comp _ _ _ _ _ _ _ _ _ _ _ (["_law_size", "_law_pace", "_law_script", "_law_at", "_law_sizes", "_law_paces_here", "_law_count", "_law_k", "_law_cell", "!_law_size", "_law_axes_here"]) (2) (comp_ok (defScope s__law_small) ["_law_script", "_law_at", "_law_sizes", "_law_paces_here", "_law_count", "_law_k", "_law_cell", "_law_size", "_law_axes_here"] rfl rfl (by decide +kernel)) rfl (@pi_seq _ _ _ _ (@pvN _ 8 _ _ (by rfl) (by trivial) (by decide) (by decide))) (fun C s₀ H₀ ex pn => ((@pg_tup _ _ _ _ _ (2) rfl (@pgs_consN _ _ _ _ _ (@pg_name _ _ (0) _ (show List.Nodup (["_law_size", "_law_pace", "_law_script", "_law_at", "_law_sizes", "_law_paces_here", "_law_count", "_law_k", "_law_cell", "!_law_size", "_law_axes_here"] : List Str) from by decide +kernel) rfl (Or.inl rfl) (by trivial)) (@pgs_consN _ _ _ _ _ (@pg_name _ _ (1) _ (show List.Nodup (["_law_size", "_law_pace", "_law_script", "_law_at", "_law_sizes", "_law_paces_here", "_law_count", "_law_k", "_law_cell", "!_law_size", "_law_axes_here"] : List Str) from by decide +kernel) rfl (Or.inl rfl) (by trivial)) (@pgs_nilN _) (by rfl)) (by rfl)) (by rfl) (by rfl)).mono fun _ _ _ _ h => gTup_q h)) (fun C s₀ H₀ ex pn => (@pts_nil _)) (fun C s₀ H₀ ex pn => (@pe_qTup _ _ _ _ _ (@pa_c _ _ _ _ _ (@pvN _ 0 _ _ (by rfl) (by trivial) (by decide) (by decide)) (@pa_c _ _ _ _ _ (@pe_op _ _ _ _ _ _ _ _ on_mul (@pvN _ 1 _ _ (by rfl) (by trivial) (by decide) (by decide)) (@pe_callTy _ _ _ _ _ _ _ _ _ call_qInt (by rfl) T.z_int (by decide +kernel) (@pa_c _ _ _ _ _ (@pe_cmpR _ _ _ _ _ _ _ _ on_gt (@pvN _ 0 _ _ (by rfl) (by trivial) (by decide) (by decide)) (@pe_int _ _ _ _) (nomark _)) (@pa_nil _) (by rfl)) (by decide) (by decide) (by rfl) (by rfl))) (@pa_nil _) (by rfl)) (by rfl)))) (by intros; rfl)) (@pa_nil _) (by rfl)) (by rfl)) (by rfl)) (by decide) (by rfl) (by rfl))))))))), ?_⟩
    rw [show start ["_law_script", "_law_at", "_law_sizes", "_law_paces_here", "_law_count", "_law_k", "_law_cell", "_law_size", "_law_axes_here"] [.ref a, .int k] = [some (.ref a), some (.int k), none, none, none, none, none, none, none] from rfl]
    clear G__law_draw G__law_paces G__law_floor
    simp! only [and_true]
    intro r H1 hr1 e1 h1
    simp! only [and_true]
    intro q H2 hq2 e2 h2
    have hq0 : H q = none := e1.free hq2
    have hrq : r ≠ q := ne_of_none h1 hq2
    have hS2 := (e1.trans e2).2 K a _ hS
    have h1_2 := e2.at h1
    simp! only [and_true]
    rw [c_spDraw]
    refine ⟨hS2, hl, (by omega), by omega, fun n n0 n1 => ?_⟩
    simp! only [and_true]
    refine ⟨by omega, by omega, ?_⟩
    refine for_rng (fun i σ H' => ∃ (ms ps : List Int) (v5 v6 v7 v8 : Option V), σ = [some (.ref a), some (.int k), some (.ref r), some (.ref q), some (.int (prodL ms)), v5, v6, v7, v8] ∧ Ext H H' ∧ H' r = some (.lst (ms.map V.int)) ∧ H' q = some (.lst (ps.map V.int)) ∧ ms.length ≤ i ∧ ps.length = ms.length ∧ (∀ m ∈ ms, 1 ≤ m ∧ m ≤ 6) ∧ prodL ms ≤ 200 ∧ ∀ m ∈ ps, -9 ≤ m ∧ m ≤ 9) ⟨[], [], none, none, none, none, rfl, e1.trans e2, h1_2, h2, Nat.le_refl _, rfl, fun _ h => absurd h List.not_mem_nil, by decide, fun _ h => absurd h List.not_mem_nil⟩ ?_ ?_
    · rintro i _ H3 hi ⟨ms, ps, v5, v6, v7, v8, rfl, e3, h3, g3, hml, hpl, hmb, hmp, hpb⟩
      have hi' : i < n.toNat := hi
      have hS3 := e3.2 K a _ hS
      have hm1 := prodL_one ms fun m hm => (hmb m hm).1
      simp! only [↓m_kBody]
      rw [c_spDraw]
      refine ⟨hS3, hl, (by omega), by decide, fun c c0 c1 => ?_⟩
      have s1 := Int.emod_nonneg c (show (6 : Int) ≠ 0 by decide)
      have s2 := Int.emod_lt_of_pos c (show (0 : Int) < 6 by decide)
      have hcm : CMul (prodL ms) (1 + c % 6) := .inr (by omega)
      by_cases hg : prodL ms * (1 + c % 6) ≤ 200
      · have hln : ms.length < sizeLine := lt5000 (by omega)
        have g1 := Int.emod_nonneg (c / 6) (show (19 : Int) ≠ 0 by decide)
        have g2 := Int.emod_lt_of_pos (c / 6) (show (0 : Int) < 19 by decide)
        have hqr : q ≠ r := Ne.symm hrq
        have g4 : (upd H3 r (HO.lst (ms.map V.int ++ [V.int (1 + c % 6)]))) q = some (.lst (ps.map V.int)) := by rw [upd_ne hqr]; exact g3
        simp! only [and_true]
        have hpr : prodL (ms ++ [1 + c % 6]) = prodL ms * (1 + c % 6) := by rw [prodL_append, show prodL [1 + c % 6] = 1 + c % 6 by simp [prodL]]
        refine ⟨ms ++ [1 + c % 6], ps ++ [c / 6 % 19 - 9], _, _, _, _, by rw [hpr], (e3.put hr1).put hq0, ?_, ?_, ?_, ?_, ?_, ?_, ?_⟩
        · rw [upd_ne hrq, upd_same, List.map_append]; rfl
        · rw [List.map_append]; rfl
        · simp; omega
        · simp [hpl]
        · intro m hm
          rcases List.mem_append.mp hm with hm | hm
          · exact hmb m hm
          · rw [List.mem_singleton.mp hm]; omega
        · rw [hpr]; exact hg
        · intro m hm
          rcases List.mem_append.mp hm with hm | hm
          · exact hpb m hm
          · rw [List.mem_singleton.mp hm]; omega
      · simp! only [and_true]
        exact ⟨ms, ps, _, _, _, _, rfl, e3, rfl, rfl, by omega, hpl, hmb, hmp, hpb⟩
    · rintro _ H3 ⟨ms, ps, v5, v6, v7, v8, rfl, e3, h3, g3, hml, hpl, hmb, hmp, hpb⟩
      have hS3 := e3.2 K a _ hS
      have hm5 : ms.length ≤ 5 := by omega
      simp! only [and_true]
      rw [c_spDraw]
      refine ⟨hS3, hl, (by omega), by decide, fun c c0 c1 => ?_⟩
      simp! only [and_true]
      rw [c_spWays]
      refine ⟨ms, ps, h3, g3, ⟨hm5, hmb, hmp⟩, hpl, hpb, fun ws rw' H4 e4 h4 hwl hwb => ?_⟩
      have h3_4 := e4.at h3
      simp! only [and_true]
      rw [x_lzK]
      intro D ts H5 hD e5 h5 al5
      have al6 := zip_axP al5
      clear al5
      have hS5 := (e3.trans (e4.trans e5)).2 K a _ hS
      have hE5 := e3.trans (e4.trans e5)
      simp! only [and_true]
      have wk := wk_al (K := K) (R := axP) (fun _ _ _ _ h e => h.ext e) h5 al6
      have hzl : (ms.zip ws).length = ms.length := by rw [List.length_zip]; omega
      refine comp_rel (ms.zip ws) (fun _ => true) axP (fun D a y H' => ∃ q, y = .ref q ∧ q ≠ D ∧ H' q = some (.tup [.int (mulK a).1, .int (mulK a).2])) wk.1 wk.2 (fun D _ y H1 H2 ⟨q, h1, h2, h3⟩ e => ⟨q, h1, h2, e.at h3⟩) (fun D _ y H1 o ⟨q, h1, h2, h3⟩ => ⟨q, h1, h2, by rw [upd_ne h2]; exact h3⟩) (len5000 (by omega)) ?_ ?_
      · intro D x y H' N1 N0 ha hD e ⟨ys0, hys0⟩ ⟨q, hy, hq⟩ k1 _
        subst hy
        have k1' := k1 rfl
        have e1 : (mulK x).1 = x.1 := rfl
        have hw : -200 ≤ x.2 ∧ x.2 ≤ 200 := hwb x.2 (List.of_mem_zip ha).2
        have hcm1 : CMul x.2 1 := .inr (by omega)
        have hcm0 : CMul x.2 0 := .inr (by omega)
        clear k1 kk
        by_cases h1 : 1 < x.1
        · have e2 : (mulK x).2 = x.2 * 1 := if_pos h1
          rw [e1, e2] at k1'
          simp! only [↓m_kCm_2, ↓m_kCm2]
          intro t1 H6 ht1 e6 h6
          exact k1' _ H6 e6 ⟨t1, rfl, (fun z => by rw [z, hys0] at ht1; cases ht1), h6⟩
        · have e2 : (mulK x).2 = x.2 * 0 := if_neg h1
          rw [e1, e2] at k1'
          simp! only [↓m_kCm_2, ↓m_kCm2]
          intro t1 H6 ht1 e6 h6
          exact k1' _ H6 e6 ⟨t1, rfl, (fun z => by rw [z, hys0] at ht1; cases ht1), h6⟩
      · intro D2 zs H6 hD2 e6 h6 al6
        rw [filt] at al6
        have hS6 := e6.2 K a _ hS5
        have tt : TupsAt H6 D2 (axL ((ms.zip ws).map mulK)) := by
          refine ⟨zs, h6, by rw [al6.1]; unfold axL; rw [List.length_map, List.length_map], fun i z y hz hy => ?_⟩
          unfold axL at hz
          rw [List.map_map, List.getElem?_map] at hz
          obtain ⟨x, hx, rfl⟩ := Option.map_eq_some_iff.mp hz
          obtain ⟨q, hq1, _, hq3⟩ := al6.2 i x y hx hy
          exact ⟨q, hq1, hq3⟩
        have hfst : (ms.zip ws).map (fun a => a.1) = ms := by
          rw [show (fun a : Int × Int => a.1) = Prod.fst from rfl, List.map_fst_zip (by omega)]
        have hb : ∀ x ∈ ms.zip ws, (1 ≤ x.1 ∧ x.1 ≤ 6) ∧ -200 ≤ x.2 ∧ x.2 ≤ 200 := fun x hx => ⟨hmb _ (List.of_mem_zip hx).1, hwb _ (List.of_mem_zip hx).2⟩
        have hax : Axes ((ms.zip ws).map mulK) := ⟨by rw [List.length_map]; omega, fun x hx => by
          obtain ⟨y, hy, rfl⟩ := List.mem_map.mp hx
          have := (hb y hy).1
          show 1 ≤ y.1 ∧ y.1 ≤ 1000000000
          omega⟩
        have hkp := mulK_kept (ms.zip ws) fun x hx => (hb x hx).1.1
        have hsp : ∀ x ∈ (ms.zip ws).map mulK, -1000 ≤ (x.1 - 1) * x.2 ∧ (x.1 - 1) * x.2 ≤ 1000 := fun x hx => by
          obtain ⟨y, hy, rfl⟩ := List.mem_map.mp hx
          obtain ⟨⟨b1, b2⟩, b3, b4⟩ := hb y hy
          refine small_bound b1 b2 ?_ ?_
          · show -200 ≤ (if 1 < y.1 then y.2 * 1 else y.2 * 0)
            split <;> omega
          · show (if 1 < y.1 then y.2 * 1 else y.2 * 0) ≤ 200
            split <;> omega
        clear wk
        simp! only [and_true]
        rw [c_spFloor]
        refine ⟨rfl, hS6, hl, by omega, by omega, _, tt, hax, fun d e rr H7 d0 d1 e0 e1' x7 h7 => kk _ _ _ D2 rr H7 (hE5.trans (e6.trans x7)) (hE5.free hD2) h7 (tt.ext x7) (floorOk hax hkp (by decide) (by decide) hsp d0 d1 e0 e1') hkp ⟨by rw [mulK_fst, hfst]; exact hmp, by rw [List.length_map]; omega, hsp⟩⟩
abbrev B_spGreat (K : PySem.W.Frag) (a : Addr) (ns : List Int) (p : Addr) (k : Int) (H : Hp) (Q : VK) (E : XK) : Prop := p = a ∧ SqL K H a (ns.map V.int) ∧ ns.length ≤ 63 ∧ 0 ≤ k ∧ k < 800 ∧ ∀ (room first : Int) (axs : List (Int × Int)) (l r : Addr) (H' : Hp), Ext H H' → H l = none → H' r = some (.tup [.int room, .int first, .ref l]) → TupsAt H' l (axL axs) → ViewOk room first axs → Kept axs → Q (.ref r) H'
def spGreat (K : PySem.W.Frag) (a : Addr) (ns : List Int) : Sp := fun vs H Q E => ∃ (p : Addr) (k : Int), vs = [.ref p, .int k] ∧ (B_spGreat K a ns p k H Q E)
theorem c_spGreat (K : PySem.W.Frag) (a : Addr) (ns : List Int) (p : Addr) (k : Int) (H : Hp) (Q : VK) (E : XK) : spGreat K a ns [.ref p, .int k] H Q E = (B_spGreat K a ns p k H Q E) := spx2 (f := fun (p : Addr) (k : Int) => [.ref p, .int k]) (fun _ _ _ _ h => by cases h; exact ⟨rfl, rfl⟩) p k
theorem l_spGreat (K : PySem.W.Frag) (a : Addr) (ns : List Int) {vs : List V} {H : Hp} {Q : VK} {E : XK} (h : spGreat K a ns vs H Q E) : vs.length = 2 := spl2 h fun _ _ => rfl
theorem ok__law_great (T : Tx K mg t) (a : Addr) (ns : List Int) : FnOk P w K mg base CX0 3 t.a__law_great t.d__law_great ["_law_script", "_law_at"] (spGreat K a ns) := by
  have G__law_draw := ok__law_draw (P := P) (w := w) (base := base) T a ns
  have G__law_floor := ok__law_floor (P := P) (w := w) (base := base) T a ns
  refine T.F__law_great.ok c__law_great (fun vs H Q E h => l_spGreat _ _ _ h) (fun cdv A outer s H vs Q E hr h => ?_)
  · obtain ⟨_, k, rfl, rfl, hS, hl, hk0, hk1, kk⟩ := h
    rename_i a
    refine ⟨_, (@pss_cons _ _ _ _ _ (@ps_set _ _ (2) _ _ _ _ c__law_great.nd rfl (Or.inl rfl) (@pe_qLst _ _ _ _ (@pa_nil _)) (by rfl) (by trivial)) (@pss_cons _ _ _ _ _ (@ps_for _ _ _ _ _ _ _ _ PassesOwn.never rfl (@pi_range1 _ _ _ _ _ _ (by rfl) T.z_range (@pa_c _ _ _ _ _ (@pe_call _ _ _ _ _ _ _ _ _ _ _ _ _ _ _ _ G__law_draw (hr.mono (by decide)) (by rfl) T.m__law_draw T.F__law_draw.kp T.b__law_draw .nil pass0 (@pa_c _ _ _ _ _ (@pvN _ 0 _ _ (by rfl) (by trivial) (by decide) (by decide)) (@pa_c _ _ _ _ _ (@pvN _ 1 _ _ (by rfl) (by trivial) (by decide) (by decide)) (@pa_c _ _ _ _ _ (@pe_int _ _ _ _) (@pa_nil _) (by rfl)) (by rfl)) (by rfl)) (by decide) (by rfl) (by rfl)) (@pa_nil _) (by rfl)) (by rfl)) (@pg_name _ _ (3) _ c__law_great.nd rfl (Or.inl rfl) (by trivial)) (@pss_cons _ _ _ _ _ (@ps_set _ _ (4) _ _ _ _ c__law_great.nd rfl (Or.inl rfl) (@pe_call _ _ _ _ _ _ _ _ _ _ _ _ _ _ _ _ G__law_draw (hr.mono (by decide)) (by rfl) T.m__law_draw T.F__law_draw.kp T.b__law_draw .nil pass0 (@pa_c _ _ _ _ _ (@pvN _ 0 _ _ (by rfl) (by trivial) (by decide) (by decide)) (@pa_c _ _ _ _ _ (@pe_op _ _ _ _ _ _ _ _ on_add (@pe_op _ _ _ _ _ _ _ _ on_add (@pvN _ 1 _ _ (by rfl) (by trivial) (by decide) (by decide)) (@pe_int _ _ _ _)) (@pvN _ 3 _ _ (by rfl) (by trivial) (by decide) (by decide))) (@pa_c _ _ _ _ _ (@pe_op _ _ _ _ _ _ _ _ on_pow (@pe_int _ _ _ _) (@pe_int _ _ _ _)) (@pa_nil _) (by rfl)) (by rfl)) (by rfl)) (by decide) (by rfl) (by rfl)) (by rfl) (by trivial)) (@pss_cons _ _ _ _ _ (@ps_set _ _ (5) _ _ _ _ c__law_great.nd rfl (Or.inl rfl) (@pe_ix _ _ _ _ _ _ _ ix_q (@pe_qLst _ _ _ _ (@pa_c _ _ _ _ _ (@pe_op _ _ _ _ _ _ _ _ on_add (@pe_int _ _ _ _) (@pe_op _ _ _ _ _ _ _ _ on_mod (@pe_op _ _ _ _ _ _ _ _ on_fdiv (@pvN _ 4 _ _ (by rfl) (by trivial) (by decide) (by decide)) (@pe_int _ _ _ _)) (@pe_op _ _ _ _ _ _ _ _ on_pow (@pe_int _ _ _ _) (@pe_int _ _ _ _)))) (@pa_c _ _ _ _ _ (@pe_op _ _ _ _ _ _ _ _ on_pow (@pe_int _ _ _ _) (@pe_int _ _ _ _)) (@pa_c _ _ _ _ _ (@pe_int _ _ _ _) (@pa_c _ _ _ _ _ (@pe_int _ _ _ _) (@pa_c _ _ _ _ _ (@pe_op _ _ _ _ _ _ _ _ on_add (@pe_int _ _ _ _) (@pe_op _ _ _ _ _ _ _ _ on_mod (@pe_op _ _ _ _ _ _ _ _ on_fdiv (@pvN _ 4 _ _ (by rfl) (by trivial) (by decide) (by decide)) (@pe_int _ _ _ _)) (@pe_int _ _ _ _))) (@pa_nil _) (by rfl)) (by rfl)) (by rfl)) (by rfl)) (by rfl))) (@pe_op _ _ _ _ _ _ _ _ on_mod (@pvN _ 4 _ _ (by rfl) (by trivial) (by decide) (by decide)) (@pe_int _ _ _ _)) (fun _ _ => rfl)) (by rfl) (by trivial)) (@pss_cons _ _ _ _ _ (@ps_set _ _ (6) _ _ _ _ c__law_great.nd rfl (Or.inl rfl) (@pe_op _ _ _ _ _ _ _ _ on_fdivB (@pe_op _ _ _ _ _ _ _ _ on_pow (@pe_int _ _ _ _) (@pe_int _ _ _ _)) (@pe_callB _ _ _ _ _ _ _ ("max") _ (call_qMax rfl) (by rfl) T.z_max (by decide +kernel) (@pa_c _ _ _ _ _ (@pe_int _ _ _ _) (@pa_c _ _ _ _ _ (@pe_op _ _ _ _ _ _ _ _ on_sub (@pvN _ 5 _ _ (by rfl) (by trivial) (by decide) (by decide)) (@pe_int _ _ _ _)) (@pa_nil _) (by rfl)) (by rfl)) (by decide) (by decide) (by rfl) (by rfl))) (by rfl) (by trivial)) (@pss_cons _ _ _ _ _ (@ps_set _ _ (7) _ _ _ _ c__law_great.nd rfl (Or.inl rfl) (@pe_op _ _ _ _ _ _ _ _ on_mod (@pe_op _ _ _ _ _ _ _ _ on_fdivB (@pvN _ 4 _ _ (by rfl) (by trivial) (by decide) (by decide)) (@pe_op _ _ _ _ _ _ _ _ on_pow (@pe_int _ _ _ _) (@pe_int _ _ _ _))) (@pe_op _ _ _ _ _ _ _ _ on_add (@pvN _ 6 _ _ (by rfl) (by trivial) (by decide) (by decide)) (@pe_int _ _ _ _))) (by rfl) (by trivial)) (@pss_cons _ _ _ _ _ (@ps_if _ _ _ _ _ _ _ _ (@pt_cmpRN _ _ _ _ _ _ _ _ (op_qEq hr.units) (@pe_op _ _ _ _ _ _ _ _ on_mod (@pe_op _ _ _ _ _ _ _ _ on_fdiv (@pvN _ 4 _ _ (by rfl) (by trivial) (by decide) (by decide)) (@pe_int _ _ _ _)) (@pe_int _ _ _ _)) (@pe_int _ _ _ _) (nomark _)) (@pss_one _ _ _ (@ps_set _ _ (7) _ _ _ _ c__law_great.nd rfl (Or.inl rfl) (@pe_op _ _ _ _ _ _ _ _ on_sub (@pe_int _ _ _ _) (@pvN _ 7 _ _ (by rfl) (by trivial) (by decide) (by decide))) (by rfl) (by trivial))) (@pss_nil _)) (@pss_one _ _ _ (@ps_expr _ _ _ _ (@pe_bm _ _ _ _ _ _ _ _ _ _ _ _ PySem.F.plainAttrs_list PySem.F.slot_list_append PySem.F.type_list_append mt_append (@pvN _ 2 _ _ (by rfl) (by trivial) (by decide) (by decide)) (@pa_c _ _ _ _ _ (@pe_qTup _ _ _ _ _ (@pa_c _ _ _ _ _ (@pvN _ 5 _ _ (by rfl) (by trivial) (by decide) (by decide)) (@pa_c _ _ _ _ _ (@pe_op _ _ _ _ _ _ _ _ on_mul (@pvN _ 7 _ _ (by rfl) (by trivial) (by decide) (by decide)) (@pe_callTy _ _ _ _ _ _ _ _ _ call_qInt (by rfl) T.z_int (by decide +kernel) (@pa_c _ _ _ _ _ (@pe_cmpR _ _ _ _ _ _ _ _ on_gt (@pvN _ 5 _ _ (by rfl) (by trivial) (by decide) (by decide)) (@pe_int _ _ _ _) (nomark _)) (@pa_nil _) (by rfl)) (by decide) (by decide) (by rfl) (by rfl))) (@pa_nil _) (by rfl)) (by rfl))) (@pa_nil _) (by rfl)) (by rfl) (by rfl) (by rfl) (by rfl) (by rfl)) (by rfl)))))))) (by intros; rfl)) (@pss_one _ _ _ (@ps_ret _ _ _ _ (@pe_call _ _ _ _ _ _ _ _ _ _ _ _ _ _ _ _ G__law_floor (hr.mono (by decide)) (by rfl) T.m__law_floor T.F__law_floor.kp T.b__law_floor .nil pass0 (@pa_c _ _ _ _ _ (@pvN _ 0 _ _ (by rfl) (by trivial) (by decide) (by decide)) (@pa_c _ _ _ _ _ (@pe_op _ _ _ _ _ _ _ _ on_add (@pvN _ 1 _ _ (by rfl) (by trivial) (by decide) (by decide)) (@pe_int _ _ _ _)) (@pa_c _ _ _ _ _ (@pvN _ 2 _ _ (by rfl) (by trivial) (by decide) (by decide)) (@pa_nil _) (by rfl)) (by rfl)) (by rfl)) (by decide) (by rfl) (by rfl)))))), ?_⟩
    rw [show start ["_law_script", "_law_at", "_law_axes_here", "_law_k", "_law_cell", "_law_size", "_law_most", "_law_pace"] [.ref a, .int k] = [some (.ref a), some (.int k), none, none, none, none, none, none] from rfl]
    clear G__law_draw G__law_floor
    simp! only [and_true]
    intro r H1 hr1 e1 h1
    have hS1 := e1.2 K a _ hS
    simp! only [and_true]
    rw [c_spDraw]
    refine ⟨hS1, hl, ⟨by omega, by omega⟩, by omega, fun n n0 n1 => ?_⟩
    simp! only [and_true]
    refine ⟨by omega, by omega, ?_⟩
    refine for_rng (fun i σ H' => ∃ (axs : List (Int × Int)) (v3 v4 v5 v6 v7 : Option V), σ = [some (.ref a), some (.int k), some (.ref r), v3, v4, v5, v6, v7] ∧ Ext H H' ∧ TupsAt H' r (axL axs) ∧ axs.length ≤ i ∧ (∀ x ∈ axs, 1 ≤ x.1 ∧ x.1 ≤ 1000000000) ∧ Kept axs ∧ ∀ x ∈ axs, -100000000000000000 ≤ (x.1 - 1) * x.2 ∧ (x.1 - 1) * x.2 ≤ 100000000000000000) ⟨[], none, none, none, none, none, rfl, e1, ⟨[], h1, Al.nil⟩, Nat.le_refl _, fun _ h => absurd h List.not_mem_nil, fun _ h => absurd h List.not_mem_nil, fun _ h => absurd h List.not_mem_nil⟩ ?_ ?_
    · rintro i _ H3 hi ⟨axs, v3, v4, v5, v6, v7, rfl, e3, ⟨ys, h3, al⟩, hln, hxb, hkp, hsp⟩
      have hi' : i < n.toNat := hi
      have hS3 := e3.2 K a _ hS
      simp! only [↓m_kBody]
      rw [c_spDraw]
      refine ⟨hS3, hl, ⟨by omega, by omega⟩, by decide, fun c c0 c1 => ?_⟩
      simp! only [and_true]
      intro q H4 hq4 e4 h4
      have h3_4 := e4.at h3
      simp! only [and_true]
      refine optK_ints (fun j => 1 ≤ j ∧ j ≤ 1000000000) (Int.emod_nonneg _ (by decide)) (Int.emod_lt_of_pos _ (by decide)) (fun v hv => ?_) fun z hz => ?_
      · simp only [List.mem_cons, List.not_mem_nil, or_false] at hv
        rcases hv with rfl | rfl | rfl | rfl | rfl <;> exact ⟨_, rfl, by omega, by omega⟩
      have hyl : ys.length = axs.length := by rw [al.1]; unfold axL; rw [List.length_map]
      have hll : ys.length < sizeLine := lt5000 (by omega)
      obtain ⟨mx, hmx, hmx1, hmx2⟩ : ∃ mx : Int, (if 1 < z - 1 then z - 1 else 1) = mx ∧ 1 ≤ mx ∧ mx ≤ 1000000000 := ⟨_, rfl, by split <;> omega, by split <;> omega⟩
      have hdv : CDivB 100000000000000000 mx := ⟨by omega, by omega⟩
      have hdv2 : CDivB c 1000000000000 := ⟨by decide, by decide⟩
      have hmo : 0 < (100000000000000000 : Int).fdiv mx + 1 := by
        rw [Int.fdiv_eq_ediv_of_nonneg _ (by omega)]
        have := Int.ediv_nonneg (show (0 : Int) ≤ 100000000000000000 by decide) (show 0 ≤ mx by omega)
        omega
      have hp0 := Int.emod_nonneg (c.fdiv 1000000000000) (show (100000000000000000 : Int).fdiv mx + 1 ≠ 0 by omega)
      have hp1 := Int.emod_lt_of_pos (c.fdiv 1000000000000) hmo
      have hpm : (100000000000000000 : Int).fdiv mx ≤ 100000000000000000 := by
        rw [Int.fdiv_eq_ediv_of_nonneg _ (by omega)]
        exact Int.ediv_le_self _ (by decide)
      have fin : ∀ (pc : Int), (1 < z → -100000000000000000 ≤ (z - 1) * pc ∧ (z - 1) * pc ≤ 100000000000000000) → (¬ 1 < z → pc = 0) → ∀ (t1 : Addr) (H5 : Hp) (v3' v4' v5' v6' v7' : Option V), Ext H4 H5 → H5 t1 = some (.tup [.int z, .int pc]) → ∃ (axs : List (Int × Int)) (v3 v4 v5 v6 v7 : Option V), ([some (.ref a), some (.int k), some (.ref r), v3', v4', v5', v6', v7'] : St) = [some (.ref a), some (.int k), some (.ref r), v3, v4, v5, v6, v7] ∧ Ext H (upd H5 r (.lst (ys ++ [.ref t1]))) ∧ TupsAt (upd H5 r (.lst (ys ++ [.ref t1]))) r (axL axs) ∧ axs.length ≤ i + 1 ∧ (∀ x ∈ axs, 1 ≤ x.1 ∧ x.1 ≤ 1000000000) ∧ Kept axs ∧ ∀ x ∈ axs, -100000000000000000 ≤ (x.1 - 1) * x.2 ∧ (x.1 - 1) * x.2 ≤ 100000000000000000 := by
        intro pc b1 b2 t1 H5 v3' v4' v5' v6' v7' e5 h5
        have h3_5 := e5.at h3_4
        have htr : t1 ≠ r := fun e => by rw [e, h3_5] at h5; cases h5
        refine ⟨axs ++ [(z, pc)], _, _, _, _, _, rfl, (e3.trans (e4.trans e5)).put hr1, ⟨_, upd_same, ?_⟩, by simp; omega, fun x hx => ?_, fun x hx hx1 => ?_, fun x hx => ?_⟩
        · unfold axL
          rw [List.map_append]
          exact Al.snoc (al.imp fun _ _ t => (t.ext (e4.trans e5)).upd h3_5) ⟨t1, rfl, by rw [upd_ne htr]; exact h5⟩
        · rcases List.mem_append.mp hx with hx | hx
          · exact hxb x hx
          · rw [List.mem_singleton.mp hx]; exact hz
        · rcases List.mem_append.mp hx with hx | hx
          · exact hkp x hx hx1
          · rw [List.mem_singleton.mp hx] at hx1 ⊢
            exact b2 (by simp at hx1; omega)
        · rcases List.mem_append.mp hx with hx | hx
          · exact hsp x hx
          · rw [List.mem_singleton.mp hx]
            by_cases h1 : 1 < z
            · exact b1 h1
            · have := b2 h1
              show -100000000000000000 ≤ (z - 1) * pc ∧ (z - 1) * pc ≤ 100000000000000000
              rw [this]; simp
      have gb : 1 < z → 0 ≤ (z - 1) * (c.fdiv 1000000000000 % ((100000000000000000 : Int).fdiv mx + 1)) ∧ (z - 1) * (c.fdiv 1000000000000 % ((100000000000000000 : Int).fdiv mx + 1)) ≤ 100000000000000000 := fun h1 => by
        have : mx = z - 1 := by rw [← hmx]; split <;> omega
        subst this
        exact great_bound (by omega) hp0 hp1
      have cm1 : ∀ x : Int, CMul x 1 := fun x => .inr ⟨by decide, by decide⟩
      have cm0 : ∀ x : Int, CMul x 0 := fun x => .inr ⟨by decide, by decide⟩
      clear kk al hz hp0 hp1 hpm
      by_cases hs2 : c / 5 % 2 = 1
      · by_cases h1 : 1 < z
        · simp! only [and_true]
          intro t1 H5 ht1 e5 h5
          have h3_5 := e5.at h3_4
          simp! only [and_true]
          refine ⟨lt5000 (by omega), fin _ (fun _ => ?_) (fun h => absurd h1 h) t1 H5 _ _ _ _ _ e5 h5⟩
          have := gb h1
          rw [Int.mul_one, Int.zero_sub, Int.mul_neg]
          omega
        · simp! only [and_true]
          intro t1 H5 ht1 e5 h5
          have h3_5 := e5.at h3_4
          simp! only [and_true]
          exact ⟨lt5000 (by omega), fin _ (fun h => absurd h h1) (fun _ => Int.mul_zero _) t1 H5 _ _ _ _ _ e5 h5⟩
      · by_cases h1 : 1 < z
        · simp! only [and_true]
          intro t1 H5 ht1 e5 h5
          have h3_5 := e5.at h3_4
          simp! only [and_true]
          refine ⟨lt5000 (by omega), fin _ (fun _ => ?_) (fun h => absurd h1 h) t1 H5 _ _ _ _ _ e5 h5⟩
          have := gb h1
          rw [Int.mul_one]
          omega
        · simp! only [and_true]
          intro t1 H5 ht1 e5 h5
          have h3_5 := e5.at h3_4
          simp! only [and_true]
          exact ⟨lt5000 (by omega), fin _ (fun h => absurd h h1) (fun _ => Int.mul_zero _) t1 H5 _ _ _ _ _ e5 h5⟩
    · rintro _ H3 ⟨axs, v3, v4, v5, v6, v7, rfl, e3, tt, hln, hxb, hkp, hsp⟩
      have hS3 := e3.2 K a _ hS
      have hax : Axes axs := ⟨by omega, hxb⟩
      simp! only [and_true]
      rw [c_spFloor]
      exact ⟨rfl, hS3, hl, by omega, by omega, axs, tt, hax, fun d e rr H7 d0 d1 e0 e1' x7 h7 => kk _ _ _ r rr H7 (e3.trans x7) hr1 h7 (tt.ext x7) (floorOk hax hkp (by decide) (by decide) hsp d0 d1 e0 e1') hkp⟩
def AxsT (H : Hp) (x : V) (b : Bool) : Prop := (∃ (p : Addr) (ys : List V) (f : V → Bool), x = .ref p ∧ H p = some (.lst ys) ∧ ys.length ≤ 8 ∧ (∀ y ∈ ys, AxT H y (f y)) ∧ b = ys.all f) ∨ (b = false ∧ (x = .non ∨ (∃ i, x = .int i) ∨ (∃ s, x = .str s) ∨ (∃ q ys, x = .ref q ∧ H q = some (.tup ys)) ∨ (∃ q kvs, x = .ref q ∧ H q = some (.dK kvs)) ∨ (∃ q ys, x = .ref q ∧ H q = some (.lst ys) ∧ 8 < ys.length ∧ ys.length ≤ 5000)))
abbrev B_spAxes2  (x : V) (H : Hp) (Q : VK) (E : XK) : Prop := ∃ b, AxsT H x b ∧ ∀ H', Ext H H' → Q (.bl b) H'
def spAxes2  : Sp := fun vs H Q E => ∃ (x : V), vs = [x] ∧ (B_spAxes2  x H Q E)
theorem c_spAxes2  (x : V) (H : Hp) (Q : VK) (E : XK) : spAxes2  [x] H Q E = (B_spAxes2  x H Q E) := spx1 (f := fun (x : V) => [x]) (fun _ _ h => by cases h; exact rfl) x
theorem l_spAxes2  {vs : List V} {H : Hp} {Q : VK} {E : XK} (h : spAxes2  vs H Q E) : vs.length = 1 := spl1 h fun _ => rfl
theorem ok2_are_axes (T : Tx K mg t) : FnOk P w K mg base CX0 5 t.a_are_axes t.d_are_axes ["thing"] spAxes2 := by
  have G_is_axis := ok2_is_axis (P := P) (w := w) (base := base) T
  refine T.F_are_axes.ok c_are_axes (fun vs H Q E h => l_spAxes2 h) (fun cdv A outer s H vs Q E hr h => ?_)
  · obtain ⟨x, rfl, b, hx, k⟩ := h
    refine ⟨_, (@pss_one _ _ _ (@ps_ret _ _ _ _ (@pe_andN _ _ _ _ _ _ _ (@pe_callB _ _ _ _ _ _ _ ("isinstance") _ call_qIsi (by rfl) T.z_isinstance (by decide +kernel) (@pa_c _ _ _ _ _ (@pvN _ 0 _ _ (by rfl) (by trivial) (by decide) (by decide)) (@pa_c _ _ _ _ _ (@pe_bltn _ _ (.ty "list") (.type "list") _ (by rfl) T.z_list (by decide +kernel) rfl (by decide) (by decide)) (@pa_nil _) (by rfl)) (by rfl)) (by decide) (by decide) (by rfl) (by rfl)) (@pe_andN _ _ _ _ _ _ _ (@pe_cmpR _ _ _ _ _ _ _ _ on_le (@pe_callB _ _ _ _ _ _ _ ("len") _ call_qLen (by rfl) T.z_len (by decide +kernel) (@pa_c _ _ _ _ _ (@pvN _ 0 _ _ (by rfl) (by trivial) (by decide) (by decide)) (@pa_nil _) (by rfl)) (by decide) (by decide) (by rfl) (by rfl)) (@pe_glob _ _ (.int 8) _ _ (by rfl) T.m_MOST_AXES.choose_spec ⟨_, rfl⟩ (by decide)) (nomark _)) (@pe_one _ _ _ _ _ (@pe_callB _ _ _ _ _ _ _ ("all") _ (call_qAll rfl) (by rfl) T.z_all (by decide +kernel) (@pa_c _ _ _ _ _ (@pe_comp _ _ _ _ _ _ _ _ _ _ _ (["axis", "thing"]) (1) (comp_ok (defScope s_are_axes) ["thing"] rfl rfl (by decide +kernel)) rfl (@pi_seq _ _ _ _ (@pvN _ 0 _ _ (by rfl) (by trivial) (by decide) (by decide))) (fun C s₀ H₀ ex pn => (@pg_name _ _ (0) _ (show List.Nodup (["axis", "thing"] : List Str) from by decide +kernel) rfl (Or.inl rfl) (by trivial))) (fun C s₀ H₀ ex pn => (@pts_nil _)) (fun C s₀ H₀ ex pn => (@pe_call _ _ _ _ _ _ _ _ _ _ _ _ _ _ _ _ G_is_axis (hr.mono (by decide)) (by rfl) T.m_is_axis T.F_is_axis.kp T.b_is_axis .nil pass0 (@pa_c _ _ _ _ _ (@pvN _ 0 _ _ (by rfl) (by trivial) (by decide) (by decide)) (@pa_nil _) (by rfl)) (by decide) (by rfl) (by rfl))) (by intros; rfl)) (@pa_nil _) (by rfl)) (by decide) (by decide) (by rfl) (by rfl))))))), ?_⟩
    rw [show start ["thing"] [x] = [some (x)] from rfl]
    clear G_is_axis
    rcases hx with ⟨p, ys, f, rfl, hp, hl, ha, rfl⟩ | ⟨rfl, rfl | ⟨i, rfl⟩ | ⟨i, rfl⟩ | ⟨q, xs, rfl, hq⟩ | ⟨q, xs, rfl, hq⟩ | ⟨q, xs, rfl, hq, hl, hl5⟩⟩
    · have hl8 : (ys.length : Int) ≤ 8 := by omega
      simp! only [and_true]
      refine comp_fm ys (fun _ => true) (fun y => .bl (f y)) (fun z x H' => x = z ∧ H' p = some (.lst ys)) (wk_lst hp).1 (wk_lst hp).2 (len5000 (by omega)) ?_ ?_
      · intro D z x H' N1 N0 hz hD e ⟨hx, _⟩ k1 _
        subst hx
        have k1' := k1 rfl H' (Ext.refl _)
        have hq3 := (ha x hz).ext e
        clear k1 k hp ha
        simp! only [↓m_kCm_1, ↓m_kCm2]
        rw [c_spAxis2]
        exact ⟨_, hq3, k1'⟩
      · intro D H' hD e hD'
        have hD2 : H' D = some (.lst ((ys.map f).map V.bl)) := by rw [hD', filt, List.map_map]; rfl
        have e2 : (ys.map f).all id = ys.all f := by rw [List.all_map]; rfl
        have k2 := k H' e
        rw [← e2] at k2
        clear k hD' e2 ha
        simp! only [and_true]
    · have k2 := k H (Ext.refl _)
      clear k
      simp! only [and_true]
    · have k2 := k H (Ext.refl _)
      clear k
      simp! only [and_true]
    · have k2 := k H (Ext.refl _)
      clear k
      simp! only [and_true]
    · have k2 := k H (Ext.refl _)
      clear k
      simp! only [and_true]
    · have k2 := k H (Ext.refl _)
      clear k
      simp! only [and_true]
    · have hl8 : ¬ (xs.length : Int) ≤ 8 := by omega
      have k2 := k H (Ext.refl _)
      clear k
      simp! only [and_true]
theorem AxsT_of {H : Hp} {l : Addr} {axs : List (Int × Int)} (tl : TupsAt H l (axL axs)) (ha : Axes axs) : AxsT H (.ref l) true := by
  obtain ⟨ys, hp, al⟩ := tl
  have hl : ys.length = axs.length := by rw [al.1]; unfold axL; rw [List.length_map]
  refine .inl ⟨l, ys, fun _ => true, rfl, hp, by have := ha.1; omega, fun y hy => ?_, by simp⟩
  obtain ⟨i, hi, rfl⟩ := List.getElem_of_mem hy
  obtain ⟨ax, q, h1, h2, h3⟩ := al_ax al (List.getElem?_eq_getElem hi)
  have hb := ha.2 _ (List.mem_of_getElem? h1)
  exact .inl ⟨rfl, q, ax, h2, h3, hb.1, hb.2⟩
def VBad (H : Hp) (r f a : V) : Prop := (isW H r).isSome = true ∧ (withinF r 1 1000000000000000000 = false ∨ isW H f = some false ∨ ((∃ i, f = .int i) ∧ AxsT H a false) ∨ ∃ (room first : Int) (l : Addr) (axs : List (Int × Int)), r = .int room ∧ f = .int first ∧ a = .ref l ∧ TupsAt H l (axL axs) ∧ Axes axs ∧ (first + leastL (axs.map keptA) < 0 ∨ room ≤ first + greatL (axs.map keptA)))
abbrev B_spVInitR (C cN : Addr) (x : Addr) (r : V) (f : V) (a : V) (H : Hp) (Q : VK) (E : XK) : Prop := ∃ (dx : Addr), H x = some (.ins C dx []) ∧ VBad H r f a ∧ ∀ H', (∀ H0, Ext H0 H → H0 x = none → Ext H0 H') → E (.ref cN) none H'
def spVInitR (C cN : Addr) : Sp := fun vs H Q E => ∃ (x : Addr) (r : V) (f : V) (a : V), vs = [.ref x, r, f, a] ∧ (B_spVInitR C cN x r f a H Q E)
theorem c_spVInitR (C cN : Addr) (x : Addr) (r : V) (f : V) (a : V) (H : Hp) (Q : VK) (E : XK) : spVInitR C cN [.ref x, r, f, a] H Q E = (B_spVInitR C cN x r f a H Q E) := spx4 (f := fun (x : Addr) (r : V) (f : V) (a : V) => [.ref x, r, f, a]) (fun _ _ _ _ _ _ _ _ h => by cases h; exact ⟨rfl, rfl, rfl, rfl⟩) x r f a
theorem l_spVInitR (C cN : Addr) {vs : List V} {H : Hp} {Q : VK} {E : XK} (h : spVInitR C cN vs H Q E) : vs.length = 4 := spl4 h fun _ _ _ _ => rfl
theorem okR_View___init__ (T : Tx K mg t) : FnOk P w K mg base (CX1 P  w) 6 t.a_View___init__ t.d_View___init__ ["self", "room", "first", "axes"] (spVInitR t.a_View t.a_NoView) := by
  have G_is_within := ok2_is_within (P := P) (w := w) (base := base) T
  have G_is_whole := ok_is_whole (P := P) (w := w) (base := base) T
  have G_are_axes := ok2_are_axes (P := P) (w := w) (base := base) T
  have G_kept_axis := ok_kept_axis (P := P) (w := w) (base := base) T
  have G_View_least := ok_View_least (P := P) (w := w) (base := base) T
  have G_View_greatest := ok_View_greatest (P := P) (w := w) (base := base) T
  refine (Fun.x T.F_View___init__).ok c_View___init__ (fun vs H Q E h => l_spVInitR _ _ h) (fun cdv A outer s H vs Q E hr h => ?_)
  · obtain ⟨x, r, f, a, rfl, dx, hx, ⟨hr0, hb⟩, kE⟩ := h
    have c1 := T.cl_View
    have c2 := T.na_View_first
    have c3 := T.na_View_axes
    have c4 := T.na_View_room
    refine ⟨_, (@pss_cons _ _ _ _ _ (@ps_if _ _ _ _ _ _ _ _ (PW.pt (@pw_or _ _ _ _ _ _ _ (@pt_not _ _ _ _ (@pt_valN _ _ _ (@pe_call _ _ _ _ _ _ _ _ _ _ _ _ _ _ _ _ G_is_within (hr.mono (by decide)) (by rfl) T.m_is_within T.F_is_within.kp T.b_is_within .nil pass0 (@pa_c _ _ _ _ _ (@pvN _ 1 _ _ (by rfl) (by trivial) (by decide) (by decide)) (@pa_c _ _ _ _ _ (@pe_int _ _ _ _) (@pa_c _ _ _ _ _ (@pe_glob _ _ (.int 1000000000000000000) _ _ (by rfl) T.m_MOST_ROOM.choose_spec ⟨_, rfl⟩ (by decide)) (@pa_nil _) (by rfl)) (by rfl)) (by rfl)) (by decide) (by rfl) (by rfl)) (by intros; rfl))) (@pw_or _ _ _ _ _ _ _ (@pt_not _ _ _ _ (@pt_valN _ _ _ (@pe_call _ _ _ _ _ _ _ _ _ _ _ _ _ _ _ _ G_is_whole (hr.mono (by decide)) (by rfl) T.m_is_whole T.F_is_whole.kp T.b_is_whole .nil pass0 (@pa_c _ _ _ _ _ (@pvN _ 2 _ _ (by rfl) (by trivial) (by decide) (by decide)) (@pa_nil _) (by rfl)) (by decide) (by rfl) (by rfl)) (by intros; rfl))) (@pw_or1 _ _ _ _ (@pt_not _ _ _ _ (@pt_valN _ _ _ (@pe_call _ _ _ _ _ _ _ _ _ _ _ _ _ _ _ _ G_are_axes (hr.mono (by decide)) (by rfl) T.m_are_axes T.F_are_axes.kp T.b_are_axes .nil pass0 (@pa_c _ _ _ _ _ (@pvN _ 3 _ _ (by rfl) (by trivial) (by decide) (by decide)) (@pa_nil _) (by rfl)) (by decide) (by rfl) (by rfl)) (by intros; rfl))))))) (@pss_one _ _ _ (@ps_raise _ _ _ _ _ _ _ _ _ _ rfl (by rfl) T.m_NoView ⟨T.o_NoView⟩ (fun σ => raises_def) (@pa_c _ _ _ _ _ (@pe_str _ _ _ _) (@pa_nil _) (by rfl)) (by rfl) (by rfl) (by decide))) (@pss_nil _)) (@pss_cons _ _ _ _ _ (@ps_nSetF _ _ _ _ _ _ _ _ (@pvN _ 0 _ _ (by rfl) (by trivial) (by decide) (by decide)) (@pvN _ 1 _ _ (by rfl) (by trivial) (by decide) (by decide)) rfl) (@pss_cons _ _ _ _ _ (@ps_nSetF _ _ _ _ _ _ _ _ (@pvN _ 0 _ _ (by rfl) (by trivial) (by decide) (by decide)) (@pvN _ 2 _ _ (by rfl) (by trivial) (by decide) (by decide)) rfl) (@pss_cons _ _ _ _ _ (@ps_nSetF _ _ _ _ _ _ _ _ (@pvN _ 0 _ _ (by rfl) (by trivial) (by decide) (by decide)) (@pe_comp _ _ _ _ _ _ _ _ _ _ _ (["axis", "self", "room", "first", "axes"]) (1) (comp_ok (defScope s_View___init__) ["self", "room", "first", "axes"] rfl rfl (by decide +kernel)) rfl (@pi_seq _ _ _ _ (@pvN _ 3 _ _ (by rfl) (by trivial) (by decide) (by decide))) (fun C s₀ H₀ ex pn => (@pg_name _ _ (0) _ (show List.Nodup (["axis", "self", "room", "first", "axes"] : List Str) from by decide +kernel) rfl (Or.inl rfl) (by trivial))) (fun C s₀ H₀ ex pn => (@pts_nil _)) (fun C s₀ H₀ ex pn => (@pe_call _ _ _ _ _ _ _ _ _ _ _ _ _ _ _ _ G_kept_axis (hr.mono (by decide)) (by rfl) T.m_kept_axis T.F_kept_axis.kp T.b_kept_axis .nil pass0 (@pa_c _ _ _ _ _ (@pvN _ 0 _ _ (by rfl) (by trivial) (by decide) (by decide)) (@pa_nil _) (by rfl)) (by decide) (by rfl) (by rfl))) (by intros; rfl)) rfl) (@pss_one _ _ _ (@ps_if _ _ _ _ _ _ _ _ (PW.pt (@pw_or _ _ _ _ _ _ _ (@pt_cmpRN _ _ _ _ _ _ _ _ on_lt (@pe_nMeth0 _ _ _ _ _ _ _ _ _ _ _ _ _ _ _ _ _ (@pvN _ 0 _ _ (by rfl) (by trivial) (by decide) (by decide)) T.cl_View T.mt_View_least G_View_least (hr.mono (by decide)) T.b_View_least .nil pass0 (by rfl)) (@pe_int _ _ _ _) (nomark _)) (@pw_or1 _ _ _ _ (@pt_cmpRN _ _ _ _ _ _ _ _ on_ge (@pe_nMeth0 _ _ _ _ _ _ _ _ _ _ _ _ _ _ _ _ _ (@pvN _ 0 _ _ (by rfl) (by trivial) (by decide) (by decide)) T.cl_View T.mt_View_greatest G_View_greatest (hr.mono (by decide)) T.b_View_greatest .nil pass0 (by rfl)) (@pvN _ 1 _ _ (by rfl) (by trivial) (by decide) (by decide)) (nomark _))))) (@pss_one _ _ _ (@ps_raise _ _ _ _ _ _ _ _ _ _ rfl (by rfl) T.m_NoView ⟨T.o_NoView⟩ (fun σ => raises_def) (@pa_c _ _ _ _ _ (@pe_str _ _ _ _) (@pa_nil _) (by rfl)) (by rfl) (by rfl) (by decide))) (@pss_nil _))))))), ?_⟩
    rw [show start ["self", "room", "first", "axes"] [.ref x, r, f, a] = [some (.ref x), some (r), some (f), some (a)] from rfl]
    clear G_is_within G_is_whole G_are_axes G_kept_axis G_View_least G_View_greatest
    replace kE := fun (_ : Unit) => kE
    cases hw : withinF r 1 1000000000000000000 with
    | false =>
      have kE' := kE () H (fun H0 e _ => e)
      clear kE hb
      simp! only [and_true]
      rw [c_spWithin2]
      refine ⟨hr0, ?_⟩
      rw [hw]
      simp! only [and_true]
    | true =>
      rcases hb with hb | hb | ⟨⟨i, rfl⟩, hb⟩ | ⟨room, first, l, axs, rfl, rfl, rfl, tl, hax, hbad⟩
      · rw [hb] at hw; cases hw
      · have kE' := kE () H (fun H0 e _ => e)
        clear kE
        simp! only [and_true]
        rw [c_spWithin2]
        refine ⟨hr0, ?_⟩
        rw [hw]
        clear hw hr0
        simp! only [↓c_spWhole]
      · simp! only [and_true]
        rw [c_spWithin2]
        refine ⟨hr0, ?_⟩
        rw [hw]
        clear hw hr0
        simp! only [↓c_spWhole]
        rw [c_spAxes2]
        refine ⟨false, hb, fun H1 e1 => ?_⟩
        have kE' := kE () H1 (fun H0 e _ => e.trans e1)
        clear kE
        simp! only [and_true]
      · simp! only [and_true]
        rw [c_spWithin2]
        refine ⟨rfl, ?_⟩
        rw [hw]
        clear hw hr0
        simp! only [↓c_spWhole]
        rw [c_spAxes2]
        refine ⟨true, AxsT_of tl hax, fun H1 e1 => ?_⟩
        have hx1 := e1.at hx
        have tl1 := tl.ext e1
        clear hx tl
        simp! only [and_true]
        refine ⟨(show (1 : Nat) < 1000 by decide), ?_⟩
        obtain ⟨ys, hl1, al1⟩ := tl1
        have hlx : l ≠ x := fun z => by rw [z, hx1] at hl1; cases hl1
        have hx2 : (upd H1 x (HO.ins t.a_View dx (putF "first" (V.int first) (putF "room" (V.int room) [])))) x = some (HO.ins t.a_View dx (putF "first" (V.int first) (putF "room" (V.int room) []))) := upd_same
        have hl2 : (upd H1 x (HO.ins t.a_View dx (putF "first" (V.int first) (putF "room" (V.int room) [])))) l = some (.lst ys) := by rw [upd_ne hlx]; exact hl1
        have al2 : Al (fun a y => axP a y (upd H1 x (HO.ins t.a_View dx (putF "first" (V.int first) (putF "room" (V.int room) []))))) axs ys := (al_axP al1).imp fun a y ⟨q, hy, hq⟩ => ⟨q, hy, by rw [upd_ne (fun z => by rw [z, hx1] at hq; cases hq)]; exact hq⟩
        have b2 : ∀ H0, Ext H0 H → H0 x = none → Ext H0 (upd H1 x (HO.ins t.a_View dx (putF "first" (V.int first) (putF "room" (V.int room) [])))) := fun H0 q0 q1 => (q0.trans e1).put q1
        have b3 : ∀ b, b ≠ x → (upd H1 x (HO.ins t.a_View dx (putF "first" (V.int first) (putF "room" (V.int room) [])))) b = none → H b = none := fun b hb q => by rw [upd_ne hb] at q; exact e1.free q
        generalize upd H1 x (HO.ins t.a_View dx (putF "first" (V.int first) (putF "room" (V.int room) []))) = H2 at hx2 hl2 al2 b2 b3
        clear hl1 al1 hx1
        simp! only [and_true]
        have wk := wk_al (K := K) (R := axP) (fun _ _ _ _ h e => h.ext e) hl2 al2
        refine comp_rel axs (fun _ => true) axP (fun D a y H' => ∃ q, y = .ref q ∧ q ≠ D ∧ H' q = some (.tup [.int (keptA a).1, .int (keptA a).2])) wk.1 wk.2 (fun D _ y H1 H2 ⟨q, h1, h2, h3⟩ e => ⟨q, h1, h2, e.at h3⟩) (fun D _ y H1 o ⟨q, h1, h2, h3⟩ => ⟨q, h1, h2, by rw [upd_ne h2]; exact h3⟩) (len5000 (by have := hax.1; omega)) ?_ ?_
        · intro D a y H' N1 N0 ha hD e ⟨ys0, hys0⟩ ⟨q, hy, hq⟩ k1 _
          subst hy
          have k1' := k1 rfl
          clear k1 kE
          simp! only [↓m_kCm_1, ↓m_kCm2]
          rw [c_spKept]
          exact ⟨a, hq, fun r H'' hr' e' h' => k1' _ H'' e' ⟨r, rfl, (fun z => by rw [z, hys0] at hr'; cases hr'), h'⟩⟩
        · intro D zs H3 hD e3 hD3 al3
          rw [filt] at al3
          have hx3 := e3.at hx2
          have hDx : D ≠ x := fun z => by rw [z, hx2] at hD; cases hD
          clear wk
          simp! only [and_true]
          refine ⟨(show (2 : Nat) < 1000 by decide), ?_⟩
          have tt : TupsAt (upd H3 x (HO.ins t.a_View dx (viewF room first D))) D (axL (axs.map keptA)) := by
            refine ⟨zs, by rw [upd_ne hDx]; exact hD3, ?_, fun i z y hz hy => ?_⟩
            · rw [al3.1]; unfold axL; rw [List.length_map, List.length_map]
            · unfold axL at hz
              rw [List.map_map, List.getElem?_map] at hz
              obtain ⟨a, ha, rfl⟩ := Option.map_eq_some_iff.mp hz
              obtain ⟨q, hq1, _, hq3⟩ := al3.2 i a y ha hy
              exact ⟨q, hq1, by rw [upd_ne (fun z => by rw [z, hx3] at hq3; cases hq3)]; exact hq3⟩
          have b4 : ∀ H0, Ext H0 H → H0 x = none → Ext H0 (upd H3 x (HO.ins t.a_View dx (viewF room first D))) := fun H0 q0 q1 => ((b2 H0 q0 q1).trans e3).put q1
          have hx4 : (upd H3 x (HO.ins t.a_View dx (viewF room first D))) x = some (HO.ins t.a_View dx (viewF room first D)) := upd_same
          have f1 := vn room first D (m := "least") (by decide +kernel)
          have f2 := vn room first D (m := "greatest") (by decide +kernel)
          refine ⟨f1, ?_⟩
          show spLeast t.a_View [V.ref x] (upd H3 x (HO.ins t.a_View dx (viewF room first D))) _ _
          generalize upd H3 x (HO.ins t.a_View dx (viewF room first D)) = H4 at tt b4 hx4
          have vo : ViewAt t.a_View H4 x room first (axs.map keptA) := ⟨dx, D, hx4, tt⟩
          rw [c_spLeast]
          refine ⟨room, first, axs.map keptA, vo, hax.kept, fun H5 e5 => ?_⟩
          by_cases hlo : first + leastL (axs.map keptA) < 0
          · have k' := kE () H5 (fun H0 q0 q1 => (b4 H0 q0 q1).trans e5)
            clear kE
            simp! only [and_true]
          · have hhi : room ≤ first + greatL (axs.map keptA) := by omega
            have hx5 := e5.at hx4
            simp! only [and_true]
            rw [c_spGreatest]
            refine ⟨room, first, axs.map keptA, vo.ext e5, hax.kept, fun H6 e6 => ?_⟩
            have k' := kE () H6 (fun H0 q0 q1 => ((b4 H0 q0 q1).trans e5).trans e6)
            clear kE
            simp! only [and_true]
def spVInit (C : Addr) : Sp := fun vs H Q E => ∃ (x : Addr) (room : Int) (first : Int) (l : Addr), vs = [.ref x, .int room, .int first, .ref l] ∧ (∃ (dx : Addr) (axs : List (Int × Int)), H x = some (.ins C dx []) ∧ TupsAt H l (axL axs) ∧ ViewOk room first axs ∧ ∀ (H' : Hp) (D : Addr), (∀ H0, Ext H0 H → H0 x = none → Ext H0 H') → H D = none → H' x = some (.ins C dx (viewF room first D)) → TupsAt H' D (axL (axs.map keptA)) → Q .non H')
theorem c_spVInit (C : Addr) (x : Addr) (room : Int) (first : Int) (l : Addr) (H : Hp) (Q : VK) (E : XK) : spVInit C [.ref x, .int room, .int first, .ref l] H Q E = (∃ (dx : Addr) (axs : List (Int × Int)), H x = some (.ins C dx []) ∧ TupsAt H l (axL axs) ∧ ViewOk room first axs ∧ ∀ (H' : Hp) (D : Addr), (∀ H0, Ext H0 H → H0 x = none → Ext H0 H') → H D = none → H' x = some (.ins C dx (viewF room first D)) → TupsAt H' D (axL (axs.map keptA)) → Q .non H') := spx4 (f := fun (x : Addr) (room : Int) (first : Int) (l : Addr) => [.ref x, .int room, .int first, .ref l]) (fun _ _ _ _ _ _ _ _ h => by cases h; exact ⟨rfl, rfl, rfl, rfl⟩) x room first l
theorem l_spVInit (C : Addr) {vs : List V} {H : Hp} {Q : VK} {E : XK} (h : spVInit C vs H Q E) : vs.length = 4 := spl4 h fun _ _ _ _ => rfl
theorem ok_View___init__ (T : Tx K mg t) : FnOk P w K mg base CX0 6 t.a_View___init__ t.d_View___init__ ["self", "room", "first", "axes"] (spVInit t.a_View) := by
  have G_is_within := ok_is_within (P := P) (w := w) (base := base) T
  have G_is_whole := ok_is_whole (P := P) (w := w) (base := base) T
  have G_are_axes := ok_are_axes (P := P) (w := w) (base := base) T
  have G_kept_axis := ok_kept_axis (P := P) (w := w) (base := base) T
  have G_View_least := ok_View_least (P := P) (w := w) (base := base) T
  have G_View_greatest := ok_View_greatest (P := P) (w := w) (base := base) T
  refine T.F_View___init__.ok c_View___init__ (fun vs H Q E h => l_spVInit _ h) (fun cdv A outer s H vs Q E hr h => ?_)
  · obtain ⟨x, room, first, l, rfl, dx, axs, hx, tl, vok, k⟩ := h
    have c1 := T.cl_View
    have c2 := T.na_View_first
    have c3 := T.na_View_axes
    have c4 := T.na_View_room
    refine ⟨_, (@pss_cons _ _ _ _ _ (@ps_if _ _ _ _ _ _ _ _ (PW.pt (@pw_or _ _ _ _ _ _ _ (@pt_not _ _ _ _ (@pt_valN _ _ _ (@pe_call _ _ _ _ _ _ _ _ _ _ _ _ _ _ _ _ G_is_within (hr.mono (by decide)) (by rfl) T.m_is_within T.F_is_within.kp T.b_is_within .nil pass0 (@pa_c _ _ _ _ _ (@pvN _ 1 _ _ (by rfl) (by trivial) (by decide) (by decide)) (@pa_c _ _ _ _ _ (@pe_int _ _ _ _) (@pa_c _ _ _ _ _ (@pe_glob _ _ (.int 1000000000000000000) _ _ (by rfl) T.m_MOST_ROOM.choose_spec ⟨_, rfl⟩ (by decide)) (@pa_nil _) (by rfl)) (by rfl)) (by rfl)) (by decide) (by rfl) (by rfl)) (by intros; rfl))) (@pw_or _ _ _ _ _ _ _ (@pt_not _ _ _ _ (@pt_valN _ _ _ (@pe_call _ _ _ _ _ _ _ _ _ _ _ _ _ _ _ _ G_is_whole (hr.mono (by decide)) (by rfl) T.m_is_whole T.F_is_whole.kp T.b_is_whole .nil pass0 (@pa_c _ _ _ _ _ (@pvN _ 2 _ _ (by rfl) (by trivial) (by decide) (by decide)) (@pa_nil _) (by rfl)) (by decide) (by rfl) (by rfl)) (by intros; rfl))) (@pw_or1 _ _ _ _ (@pt_not _ _ _ _ (@pt_valN _ _ _ (@pe_call _ _ _ _ _ _ _ _ _ _ _ _ _ _ _ _ G_are_axes (hr.mono (by decide)) (by rfl) T.m_are_axes T.F_are_axes.kp T.b_are_axes .nil pass0 (@pa_c _ _ _ _ _ (@pvN _ 3 _ _ (by rfl) (by trivial) (by decide) (by decide)) (@pa_nil _) (by rfl)) (by decide) (by rfl) (by rfl)) (by intros; rfl))))))) (@pss_one _ _ _ (@ps_never _ _)) (@pss_nil _)) (@pss_cons _ _ _ _ _ (@ps_nSetF _ _ _ _ _ _ _ _ (@pvN _ 0 _ _ (by rfl) (by trivial) (by decide) (by decide)) (@pvN _ 1 _ _ (by rfl) (by trivial) (by decide) (by decide)) rfl) (@pss_cons _ _ _ _ _ (@ps_nSetF _ _ _ _ _ _ _ _ (@pvN _ 0 _ _ (by rfl) (by trivial) (by decide) (by decide)) (@pvN _ 2 _ _ (by rfl) (by trivial) (by decide) (by decide)) rfl) (@pss_cons _ _ _ _ _ (@ps_nSetF _ _ _ _ _ _ _ _ (@pvN _ 0 _ _ (by rfl) (by trivial) (by decide) (by decide)) (@pe_comp _ _ _ _ _ _ _ _ _ _ _ (["axis", "self", "room", "first", "axes"]) (1) (comp_ok (defScope s_View___init__) ["self", "room", "first", "axes"] rfl rfl (by decide +kernel)) rfl (@pi_seq _ _ _ _ (@pvN _ 3 _ _ (by rfl) (by trivial) (by decide) (by decide))) (fun C s₀ H₀ ex pn => (@pg_name _ _ (0) _ (show List.Nodup (["axis", "self", "room", "first", "axes"] : List Str) from by decide +kernel) rfl (Or.inl rfl) (by trivial))) (fun C s₀ H₀ ex pn => (@pts_nil _)) (fun C s₀ H₀ ex pn => (@pe_call _ _ _ _ _ _ _ _ _ _ _ _ _ _ _ _ G_kept_axis (hr.mono (by decide)) (by rfl) T.m_kept_axis T.F_kept_axis.kp T.b_kept_axis .nil pass0 (@pa_c _ _ _ _ _ (@pvN _ 0 _ _ (by rfl) (by trivial) (by decide) (by decide)) (@pa_nil _) (by rfl)) (by decide) (by rfl) (by rfl))) (by intros; rfl)) rfl) (@pss_one _ _ _ (@ps_if _ _ _ _ _ _ _ _ (PW.pt (@pw_or _ _ _ _ _ _ _ (@pt_cmpRN _ _ _ _ _ _ _ _ on_lt (@pe_nMeth0 _ _ _ _ _ _ _ _ _ _ _ _ _ _ _ _ _ (@pvN _ 0 _ _ (by rfl) (by trivial) (by decide) (by decide)) T.cl_View T.mt_View_least G_View_least (hr.mono (by decide)) T.b_View_least .nil pass0 (by rfl)) (@pe_int _ _ _ _) (nomark _)) (@pw_or1 _ _ _ _ (@pt_cmpRN _ _ _ _ _ _ _ _ on_ge (@pe_nMeth0 _ _ _ _ _ _ _ _ _ _ _ _ _ _ _ _ _ (@pvN _ 0 _ _ (by rfl) (by trivial) (by decide) (by decide)) T.cl_View T.mt_View_greatest G_View_greatest (hr.mono (by decide)) T.b_View_greatest .nil pass0 (by rfl)) (@pvN _ 1 _ _ (by rfl) (by trivial) (by decide) (by decide)) (nomark _))))) (@pss_one _ _ _ (@ps_never _ _)) (@pss_nil _))))))), ?_⟩
    rw [show start ["self", "room", "first", "axes"] [.ref x, .int room, .int first, .ref l] = [some (.ref x), some (.int room), some (.int first), some (.ref l)] from rfl]
    have r1 := vok.r1
    have r2 := vok.r2
    simp! only [↓c_spWithin, ↓c_spWhole]
    rw [c_spAxes]
    refine ⟨axs, tl, vok.ax, fun H1 e1 => ?_⟩
    have hx1 := e1.at hx
    have tl1 := tl.ext e1
    clear hx tl
    simp! only [and_true]
    refine ⟨(show (1 : Nat) < 1000 by decide), ?_⟩
    obtain ⟨ys, hl1, al1⟩ := tl1
    have hlx : l ≠ x := fun z => by rw [z, hx1] at hl1; cases hl1
    have hx2 : (upd H1 x (HO.ins t.a_View dx (putF "first" (V.int first) (putF "room" (V.int room) [])))) x = some (HO.ins t.a_View dx (putF "first" (V.int first) (putF "room" (V.int room) []))) := upd_same
    have hl2 : (upd H1 x (HO.ins t.a_View dx (putF "first" (V.int first) (putF "room" (V.int room) [])))) l = some (.lst ys) := by rw [upd_ne hlx]; exact hl1
    have al2 : Al (fun a y => axP a y (upd H1 x (HO.ins t.a_View dx (putF "first" (V.int first) (putF "room" (V.int room) []))))) axs ys := (al_axP al1).imp fun a y ⟨q, hy, hq⟩ => ⟨q, hy, by rw [upd_ne (fun z => by rw [z, hx1] at hq; cases hq)]; exact hq⟩
    have b2 : ∀ H0, Ext H0 H → H0 x = none → Ext H0 (upd H1 x (HO.ins t.a_View dx (putF "first" (V.int first) (putF "room" (V.int room) [])))) := fun H0 q0 q1 => (q0.trans e1).put q1
    have b3 : ∀ b, b ≠ x → (upd H1 x (HO.ins t.a_View dx (putF "first" (V.int first) (putF "room" (V.int room) [])))) b = none → H b = none := fun b hb q => by rw [upd_ne hb] at q; exact e1.free q
    generalize upd H1 x (HO.ins t.a_View dx (putF "first" (V.int first) (putF "room" (V.int room) []))) = H2 at hx2 hl2 al2 b2 b3
    clear hl1 al1 hx1
    simp! only [and_true]
    have wk := wk_al (K := K) (R := axP) (fun _ _ _ _ h e => h.ext e) hl2 al2
    refine comp_rel axs (fun _ => true) axP (fun D a y H' => ∃ q, y = .ref q ∧ q ≠ D ∧ H' q = some (.tup [.int (keptA a).1, .int (keptA a).2])) wk.1 wk.2 (fun D _ y H1 H2 ⟨q, h1, h2, h3⟩ e => ⟨q, h1, h2, e.at h3⟩) (fun D _ y H1 o ⟨q, h1, h2, h3⟩ => ⟨q, h1, h2, by rw [upd_ne h2]; exact h3⟩) (len5000 (by have := vok.ax.1; omega)) ?_ ?_
    · intro D a y H' N1 N0 ha hD e ⟨ys0, hys0⟩ ⟨q, hy, hq⟩ k1 _
      subst hy
      have k1' := k1 rfl
      clear k1 k
      simp! only [↓m_kCm_1, ↓m_kCm2]
      rw [c_spKept]
      exact ⟨a, hq, fun r H'' hr' e' h' => k1' _ H'' e' ⟨r, rfl, (fun z => by rw [z, hys0] at hr'; cases hr'), h'⟩⟩
    · intro D zs H3 hD e3 hD3 al3
      rw [filt] at al3
      have hx3 := e3.at hx2
      have hDx : D ≠ x := fun z => by rw [z, hx2] at hD; cases hD
      clear wk
      simp! only [and_true]
      refine ⟨(show (2 : Nat) < 1000 by decide), ?_⟩
      have tt : TupsAt (upd H3 x (HO.ins t.a_View dx (viewF room first D))) D (axL (axs.map keptA)) := by
        refine ⟨zs, by rw [upd_ne hDx]; exact hD3, ?_, fun i z y hz hy => ?_⟩
        · rw [al3.1]; unfold axL; rw [List.length_map, List.length_map]
        · unfold axL at hz
          rw [List.map_map, List.getElem?_map] at hz
          obtain ⟨a, ha, rfl⟩ := Option.map_eq_some_iff.mp hz
          obtain ⟨q, hq1, _, hq3⟩ := al3.2 i a y ha hy
          exact ⟨q, hq1, by rw [upd_ne (fun z => by rw [z, hx3] at hq3; cases hq3)]; exact hq3⟩
      have b4 : ∀ H0, Ext H0 H → H0 x = none → Ext H0 (upd H3 x (HO.ins t.a_View dx (viewF room first D))) := fun H0 q0 q1 => ((b2 H0 q0 q1).trans e3).put q1
      have hx4 : (upd H3 x (HO.ins t.a_View dx (viewF room first D))) x = some (HO.ins t.a_View dx (viewF room first D)) := upd_same
      have f1 := vn room first D (m := "least") (by decide +kernel)
      have f2 := vn room first D (m := "greatest") (by decide +kernel)
      refine ⟨f1, ?_⟩
      show spLeast t.a_View [V.ref x] (upd H3 x (HO.ins t.a_View dx (viewF room first D))) _ _
      generalize upd H3 x (HO.ins t.a_View dx (viewF room first D)) = H4 at tt b4 hx4
      have vo : ViewAt t.a_View H4 x room first (axs.map keptA) := ⟨dx, D, hx4, tt⟩
      rw [c_spLeast]
      refine ⟨room, first, axs.map keptA, vo, vok.ax.kept, fun H5 e5 => ?_⟩
      have hlo : ¬ first + leastL (axs.map keptA) < 0 := by have := vok.lo; omega
      have hx5 := e5.at hx4
      simp! only [and_true]
      rw [c_spGreatest]
      refine ⟨room, first, axs.map keptA, vo.ext e5, vok.ax.kept, fun H6 e6 => ?_⟩
      have hhi : ¬ room ≤ first + greatL (axs.map keptA) := by have := vok.hi; omega
      have k' := k H6 D (fun H0 q0 q1 => ((b4 H0 q0 q1).trans e5).trans e6) (b3 D hDx hD) (e6.at hx5) ((tt.ext e5).ext e6)
      clear k
      simp! only [and_true]
theorem AxsT.ext {H H' : Hp} {x : V} {b : Bool} (h : AxsT H x b) (e : Ext H H') : AxsT H' x b := by
  rcases h with ⟨p, ys, f, h1, h2, h3, h4, h5⟩ | ⟨hb, h | h | h | ⟨q, ys, h1, h2⟩ | ⟨q, kvs, h1, h2⟩ | ⟨q, ys, h1, h2, h3⟩⟩
  · exact .inl ⟨p, ys, f, h1, e.at h2, h3, fun y hy => (h4 y hy).ext e, h5⟩
  · exact .inr ⟨hb, .inl h⟩
  · exact .inr ⟨hb, .inr (.inl h)⟩
  · exact .inr ⟨hb, .inr (.inr (.inl h))⟩
  · exact .inr ⟨hb, .inr (.inr (.inr (.inl ⟨q, ys, h1, e.at h2⟩)))⟩
  · exact .inr ⟨hb, .inr (.inr (.inr (.inr (.inl ⟨q, kvs, h1, e.at h2⟩))))⟩
  · exact .inr ⟨hb, .inr (.inr (.inr (.inr (.inr ⟨q, ys, h1, e.at h2, h3⟩))))⟩
theorem VBad.ext {H H' : Hp} {r f a : V} (h : VBad H r f a) (e : Ext H H') : VBad H' r f a := by
  obtain ⟨h0, h⟩ := h
  refine ⟨?_, ?_⟩
  · obtain ⟨c, hc⟩ := Option.isSome_iff_exists.mp h0
    rw [isW_ext e hc]
    rfl
  · rcases h with h | h | ⟨h1, h2⟩ | ⟨room, first, l, axs, h1, h2, h3, h4, h5⟩
    · exact .inl h
    · exact .inr (.inl (isW_ext e h))
    · exact .inr (.inr (.inl ⟨h1, h2.ext e⟩))
    · exact .inr (.inr (.inr ⟨room, first, l, axs, h1, h2, h3, h4.ext e, h5⟩))
abbrev B_spRefd  (r : V) (f : V) (a : V) (H : Hp) (Q : VK) (E : XK) : Prop := VBad H r f a ∧ ∀ H', Ext H H' → Q (.bl true) H'
def spRefd  : Sp := fun vs H Q E => ∃ (r : V) (f : V) (a : V), vs = [r, f, a] ∧ (B_spRefd  r f a H Q E)
theorem c_spRefd  (r : V) (f : V) (a : V) (H : Hp) (Q : VK) (E : XK) : spRefd  [r, f, a] H Q E = (B_spRefd  r f a H Q E) := spx3 (f := fun (r : V) (f : V) (a : V) => [r, f, a]) (fun _ _ _ _ _ _ h => by cases h; exact ⟨rfl, rfl, rfl⟩) r f a
theorem l_spRefd  {vs : List V} {H : Hp} {Q : VK} {E : XK} (h : spRefd  vs H Q E) : vs.length = 3 := spl3 h fun _ _ _ => rfl
theorem ok__law_refused (T : Tx K mg t) : FnOk P w K mg base CX0 8 t.a__law_refused t.d__law_refused ["_law_room_here", "_law_first_here", "_law_axes_here"] spRefd := by
  have G_View___init__ := okR_View___init__ (P := P) (w := w) (base := base) T
  refine T.F__law_refused.ok c__law_refused (fun vs H Q E h => l_spRefd h) (fun cdv A outer s H vs Q E hr h => ?_)
  · obtain ⟨r, f, a, rfl, hb, k⟩ := h
    have hx1 := T.x_NoView_PaceError
    refine ⟨_, (@pss_cons _ _ _ _ _ (@ps_set _ _ (3) _ _ _ _ c__law_refused.nd rfl (Or.inl rfl) (@pe_str _ _ _ _) (by rfl) (by trivial)) (@pss_cons _ _ _ _ _ (@ps_try _ _ _ _ _ _ _ ⟨rfl, rfl, rfl⟩ (fun EX E pn hx => (@pss_one _ _ _ (@ps_expr _ _ _ _ (@pe_nMakeX _ _ _ _ _ _ _ _ _ _ _ _ _ _ _ _ _ T.mk_View G_View___init__ (hr.mono (by decide)) (by rfl) T.m_View T.b_View___init__ .nil hx (@pa_c _ _ _ _ _ (@pvN _ 0 _ _ (by rfl) (by trivial) (by decide) (by decide)) (@pa_c _ _ _ _ _ (@pvN _ 1 _ _ (by rfl) (by trivial) (by decide) (by decide)) (@pa_c _ _ _ _ _ (@pvN _ 2 _ _ (by rfl) (by trivial) (by decide) (by decide)) (@pa_nil _) (by rfl)) (by rfl)) (by rfl)) (by decide) (by rfl) (by rfl)) (by rfl)))) (@phs_as _ _ _ (4) _ _ _ _ _ _ _ _ c__law_refused.nd rfl rfl (by rfl) (.inl T.m_PaceError) (fun ee => (@pss_cons _ _ _ _ _ (@ps_set _ _ (3) _ _ _ _ c__law_refused.nd rfl (Or.inl rfl) (@pe_str _ _ _ _) (by rfl) (by trivial)) (@pss_cons _ _ _ _ _ (@ps_set _ _ (5) _ _ _ _ c__law_refused.nd rfl (Or.inl rfl) (@pe_qLst _ _ _ _ (@pa_c _ _ _ _ _ (@pe_callB _ _ _ _ _ _ _ ("isinstance") _ (call_qIsE' (K := K) rfl) (by rfl) T.z_isinstance (by decide +kernel) (@pa_c _ _ _ _ _ (@pvN _ 4 _ _ (by rfl) (by trivial) (by decide) (by decide)) (@pa_c _ _ _ _ _ (@pe_glob _ _ (.ref t.a_NoPlace) _ _ (by rfl) T.m_NoPlace rfl (by decide)) (@pa_nil _) (by rfl)) (by rfl)) (by decide) (by decide) (by rfl) (by rfl)) (@pa_c _ _ _ _ _ (@pe_callB _ _ _ _ _ _ _ ("isinstance") _ (call_qIsE' (K := K) rfl) (by rfl) T.z_isinstance (by decide +kernel) (@pa_c _ _ _ _ _ (@pvN _ 4 _ _ (by rfl) (by trivial) (by decide) (by decide)) (@pa_c _ _ _ _ _ (@pe_glob _ _ (.ref t.a_NoCells) _ _ (by rfl) T.m_NoCells rfl (by decide)) (@pa_nil _) (by rfl)) (by rfl)) (by decide) (by decide) (by rfl) (by rfl)) (@pa_c _ _ _ _ _ (@pe_callB _ _ _ _ _ _ _ ("isinstance") _ (call_qIsE' (K := K) rfl) (by rfl) T.z_isinstance (by decide +kernel) (@pa_c _ _ _ _ _ (@pvN _ 4 _ _ (by rfl) (by trivial) (by decide) (by decide)) (@pa_c _ _ _ _ _ (@pe_glob _ _ (.ref t.a_NoCount) _ _ (by rfl) T.m_NoCount rfl (by decide)) (@pa_nil _) (by rfl)) (by rfl)) (by decide) (by decide) (by rfl) (by rfl)) (@pa_c _ _ _ _ _ (@pe_callB _ _ _ _ _ _ _ ("isinstance") _ (call_qIsE' (K := K) rfl) (by rfl) T.z_isinstance (by decide +kernel) (@pa_c _ _ _ _ _ (@pvN _ 4 _ _ (by rfl) (by trivial) (by decide) (by decide)) (@pa_c _ _ _ _ _ (@pe_glob _ _ (.ref t.a_NoMove) _ _ (by rfl) T.m_NoMove rfl (by decide)) (@pa_nil _) (by rfl)) (by rfl)) (by decide) (by decide) (by rfl) (by rfl)) (@pa_nil _) (by rfl)) (by rfl)) (by rfl)) (by rfl))) (by rfl) (by trivial)) (@pss_one _ _ _ (@ps_if _ _ _ _ _ _ _ _ (PW.pt (@pw_and _ _ _ _ _ _ _ (@pt_valN _ _ _ (@pe_callB _ _ _ _ _ _ _ ("isinstance") _ (call_qIsE' (K := K) rfl) (by rfl) T.z_isinstance (by decide +kernel) (@pa_c _ _ _ _ _ (@pvN _ 4 _ _ (by rfl) (by trivial) (by decide) (by decide)) (@pa_c _ _ _ _ _ (@pe_glob _ _ (.ref t.a_NoView) _ _ (by rfl) T.m_NoView rfl (by decide)) (@pa_nil _) (by rfl)) (by rfl)) (by decide) (by decide) (by rfl) (by rfl)) (by intros; rfl)) (@pw_and _ _ _ _ _ _ _ (@pt_valN _ _ _ (@pe_callB _ _ _ _ _ _ _ ("isinstance") _ (call_qIsE' (K := K) rfl) (by rfl) T.z_isinstance (by decide +kernel) (@pa_c _ _ _ _ _ (@pvN _ 4 _ _ (by rfl) (by trivial) (by decide) (by decide)) (@pa_c _ _ _ _ _ (@pe_bltn _ _ (.ty "ValueError") (.type "ValueError") _ (by rfl) T.z_ValueError (by decide +kernel) rfl (by decide) (by decide)) (@pa_nil _) (by rfl)) (by rfl)) (by decide) (by decide) (by rfl) (by rfl)) (by intros; rfl)) (@pw_and1 _ _ _ _ (@pt_cmpRN _ _ _ _ _ _ _ _ op_nNotIn (@pe_bl _ _ _ _) (@pvN _ 5 _ _ (by rfl) (by trivial) (by decide) (by decide)) (by with_unfolding_all rfl)))))) (@pss_one _ _ _ (@ps_set _ _ (3) _ _ _ _ c__law_refused.nd rfl (Or.inl rfl) (@pe_ix _ _ _ _ _ _ _ ix_q (@pe_qLst _ _ _ _ (@pa_c _ _ _ _ _ (@pe_str _ _ _ _) (@pa_c _ _ _ _ _ (@pe_str _ _ _ _) (@pa_nil _) (by rfl)) (by rfl))) (@pe_callTy _ _ _ _ _ _ _ _ _ call_qInt (by rfl) T.z_int (by decide +kernel) (@pa_c _ _ _ _ _ (@pe_callB _ _ _ _ _ _ _ ("isinstance") _ (call_qIsE' (K := K) rfl) (by rfl) T.z_isinstance (by decide +kernel) (@pa_c _ _ _ _ _ (@pvN _ 4 _ _ (by rfl) (by trivial) (by decide) (by decide)) (@pa_c _ _ _ _ _ (@pe_glob _ _ (.ref t.a_TooMany) _ _ (by rfl) T.m_TooMany rfl (by decide)) (@pa_nil _) (by rfl)) (by rfl)) (by decide) (by decide) (by rfl) (by rfl)) (@pa_nil _) (by rfl)) (by decide) (by decide) (by rfl) (by rfl)) (fun _ _ => rfl)) (by rfl) (by trivial))) (@pss_nil _)))))) (@phs_nil _) (by decide))) (@pss_one _ _ _ (@ps_ret _ _ _ _ (@pe_cmpR _ _ _ _ _ _ _ _ (op_qEq hr.units) (@pvN _ 3 _ _ (by rfl) (by trivial) (by decide) (by decide)) (@pe_str _ _ _ _) (nomark _)))))), ?_⟩
    rw [show start ["_law_room_here", "_law_first_here", "_law_axes_here", "_law_word", "e", "_law_others"] [r, f, a] = [some (r), some (f), some (a), none, none, none] from rfl]
    clear G_View___init__
    replace k := fun (_ : Unit) => k
    simp! only [and_true]
    intro x dx H1 hx _ _ e1 h1 _
    rw [c_spVInitR]
    refine ⟨dx, h1, hb.ext e1, fun H2 hH2 => ?_⟩
    have e2 := hH2 H e1 hx
    clear hb h1 hH2 hx
    simp! only [and_true]
    intro e oe he hcl hdc hdat
    have g4 : (upd H2 e (excO oe)) e = some (excO oe) := upd_same
    have e3 : Ext H (upd H2 e (excO oe)) := e2.trans (Ext.new he)
    generalize upd H2 e (excO oe) = H3 at e3 g4
    clear he
    simp! only [T.e_NoView, T.k_NoView_NoPlace, T.k_NoView_NoCells, T.k_NoView_NoCount, T.k_NoView_NoMove]
    intro l H4 _ e4 h4
    have g5 := e4.at g4
    simp! only [T.e_NoView, T.k_NoView_NoView, T.k_NoView_ValueError, T.k_NoView_TooMany]
    refine ⟨rfl, rfl, ?_⟩
    rw [if_pos (show inV (V.bl true) [V.bl false, V.bl false, V.bl false, V.bl false] = false from rfl)]
    simp! only [and_true]
    intro l5 H5 _ e5 h5
    have g6 := e5.at g5
    have k' := k () H5 (e3.trans (e4.trans e5))
    clear k g4 g5 h4
    simp! only [T.e_NoView, T.k_NoView_TooMany]
def Rp (H : Hp) (x : V) : Prop := ∃ d, repI H x = some d ∧ PyData.showable d = true ∧ d.leavesShort 250 = true ∧ d.weight ≤ 20000
theorem RpI {i : Int} (h : i.natAbs < 2 ^ 240) : PyData.showable (.int i) = true ∧ (PyData.int i).leavesShort 250 = true ∧ (PyData.int i).weight ≤ 242 := by
  have hl : i.natAbs.log2 < 241 := by
    by_cases h0 : i.natAbs = 0
    · rw [h0]; decide
    · have := (Nat.log2_lt h0).mpr h; omega
  refine ⟨?_, ?_, ?_⟩
  · show decide (i.natAbs.log2 < 1920) = true
    exact decide_eq_true (by omega)
  · show decide ((PyData.shown (.int i)).length ≤ 250) = true
    refine decide_eq_true ?_
    show (Str.ofString (toString i)).length ≤ 250
    rw [PySem.ofString_length]
    have := int_text_length_le (a := i) (k := 241) (by decide) hl
    omega
  · show (if (i == 0) = true then 0 else i.natAbs.log2 + 1) ≤ 242
    split <;> omega
theorem Rp_int {H : Hp} {i : Int} (h : i.natAbs < 2 ^ 240) : Rp H (.int i) := by
  obtain ⟨h1, h2, h3⟩ := RpI h
  exact ⟨.int i, rfl, h1, h2, by omega⟩
theorem repI_tup {H : Hp} {p : Addr} {xs : List V} (e : H p = some (.tup xs)) : repI H (.ref p) = datV H 5 (.ref p) := by
  show (match H p with | some (.dK kvs) => (allSome (kvs.map dkP)).map PyData.dict | _ => datV H 5 (.ref p)) = _
  rw [e]
theorem repI_lst {H : Hp} {p : Addr} {xs : List V} (e : H p = some (.lst xs)) : repI H (.ref p) = datV H 5 (.ref p) := by
  show (match H p with | some (.dK kvs) => (allSome (kvs.map dkP)).map PyData.dict | _ => datV H 5 (.ref p)) = _
  rw [e]
theorem Rp_tup1 {H : Hp} {p : Addr} {i : Int} (e : H p = some (.tup [.int i])) (h : i.natAbs < 2 ^ 240) : Rp H (.ref p) := by
  obtain ⟨h1, h2, h3⟩ := RpI h
  refine ⟨.tuple [.int i], ?_, ?_, ?_, ?_⟩
  · rw [repI_tup e, m_datV_ref, e]
    rfl
  · show (PyData.showable (.int i) && true) = true
    rw [h1]
    rfl
  · show (PyData.leavesShort 250 (.int i) && true) = true
    rw [h2]
    rfl
  · show (PyData.int i).weight + 1 + 0 ≤ 20000
    omega
theorem Rp_lst1 {H : Hp} {p : Addr} {i : Int} (e : H p = some (.lst [.int i])) (h : i.natAbs < 2 ^ 240) : Rp H (.ref p) := by
  obtain ⟨h1, h2, h3⟩ := RpI h
  refine ⟨.list [.int i], ?_, ?_, ?_, ?_⟩
  · rw [repI_lst e, m_datV_ref, e]
    rfl
  · show (PyData.showable (.int i) && true) = true
    rw [h1]
    rfl
  · show (PyData.leavesShort 250 (.int i) && true) = true
    rw [h2]
    rfl
  · show (PyData.int i).weight + 1 + 0 ≤ 20000
    omega
def RoomB (H : Hp) (x : V) : Prop := (isW H x).isSome = true ∧ withinF x 1 1000000000000000000 = false
abbrev B_spRoomX  (g : Int) (c : Int) (H : Hp) (Q : VK) (E : XK) : Prop := 0 ≤ g ∧ g ≤ 1000000000000000000 ∧ 0 ≤ c ∧ c < 10 ^ 60 ∧ ∀ (r : V) (H' : Hp), Ext H H' → (r = .int g ∨ RoomB H' r) → Rp H' r → Q r H'
def spRoomX  : Sp := fun vs H Q E => ∃ (g : Int) (c : Int), vs = [.int g, .int c] ∧ (B_spRoomX  g c H Q E)
theorem c_spRoomX  (g : Int) (c : Int) (H : Hp) (Q : VK) (E : XK) : spRoomX  [.int g, .int c] H Q E = (B_spRoomX  g c H Q E) := spx2 (f := fun (g : Int) (c : Int) => [.int g, .int c]) (fun _ _ _ _ h => by cases h; exact ⟨rfl, rfl⟩) g c
theorem l_spRoomX  {vs : List V} {H : Hp} {Q : VK} {E : XK} (h : spRoomX  vs H Q E) : vs.length = 2 := spl2 h fun _ _ => rfl
theorem ok__law_room (T : Tx K mg t) : FnOk P w K mg base CX0 1 t.a__law_room t.d__law_room ["_law_greatest", "_law_cell"] spRoomX := by
  refine T.F__law_room.ok c__law_room (fun vs H Q E h => l_spRoomX h) (fun cdv A outer s H vs Q E hr h => ?_)
  · obtain ⟨g, c, rfl, g0, g1, c0, c1, k⟩ := h
    refine ⟨_, (@pss_cons _ _ _ _ _ (@ps_set _ _ (2) _ _ _ _ c__law_room.nd rfl (Or.inl rfl) (@pe_op _ _ _ _ _ _ _ _ on_mod (@pe_op _ _ _ _ _ _ _ _ on_fdiv (@pvN _ 1 _ _ (by rfl) (by trivial) (by decide) (by decide)) (@pe_int _ _ _ _)) (@pe_op _ _ _ _ _ _ _ _ on_pow (@pe_int _ _ _ _) (@pe_int _ _ _ _))) (by rfl) (by trivial)) (@pss_cons _ _ _ _ _ (@ps_set _ _ (3) _ _ _ _ c__law_room.nd rfl (Or.inl rfl) (@pe_qLst _ _ _ _ (@pa_c _ _ _ _ _ (@pvN _ 0 _ _ (by rfl) (by trivial) (by decide) (by decide)) (@pa_c _ _ _ _ _ (@pe_int _ _ _ _) (@pa_c _ _ _ _ _ (@pe_un _ _ _ _ _ _ un_negN (@pe_int _ _ _ _)) (@pa_c _ _ _ _ _ (@pe_op _ _ _ _ _ _ _ _ on_sub (@pe_un _ _ _ _ _ _ un_negN (@pe_int _ _ _ _)) (@pvN _ 2 _ _ (by rfl) (by trivial) (by decide) (by decide))) (@pa_c _ _ _ _ _ (@pe_op _ _ _ _ _ _ _ _ on_add (@pe_op _ _ _ _ _ _ _ _ on_pow (@pe_int _ _ _ _) (@pe_int _ _ _ _)) (@pe_int _ _ _ _)) (@pa_c _ _ _ _ _ (@pe_op _ _ _ _ _ _ _ _ on_add (@pe_op _ _ _ _ _ _ _ _ on_add (@pe_op _ _ _ _ _ _ _ _ on_pow (@pe_int _ _ _ _) (@pe_int _ _ _ _)) (@pe_int _ _ _ _)) (@pvN _ 2 _ _ (by rfl) (by trivial) (by decide) (by decide))) (@pa_c _ _ _ _ _ (@pe_non _ _ _) (@pa_c _ _ _ _ _ (@pe_bl _ _ _ _) (@pa_c _ _ _ _ _ (@pe_bl _ _ _ _) (@pa_c _ _ _ _ _ (@pe_str _ _ _ _) (@pa_c _ _ _ _ _ (@pe_qTup _ _ _ _ _ (@pa_c _ _ _ _ _ (@pe_op _ _ _ _ _ _ _ _ on_add (@pvN _ 0 _ _ (by rfl) (by trivial) (by decide) (by decide)) (@pe_int _ _ _ _)) (@pa_nil _) (by rfl))) (@pa_nil _) (by rfl)) (by rfl)) (by rfl)) (by rfl)) (by rfl)) (by rfl)) (by rfl)) (by rfl)) (by rfl)) (by rfl)) (by rfl))) (by rfl) (by trivial)) (@pss_one _ _ _ (@ps_ret _ _ _ _ (@pe_ix _ _ _ _ _ _ _ ix_q (@pe_op _ _ _ _ _ _ _ _ op_nCat (@pvN _ 3 _ _ (by rfl) (by trivial) (by decide) (by decide)) (@pe_qLst _ _ _ _ (@pa_c _ _ _ _ _ (@pe_qLst _ _ _ _ (@pa_c _ _ _ _ _ (@pe_op _ _ _ _ _ _ _ _ on_add (@pvN _ 0 _ _ (by rfl) (by trivial) (by decide) (by decide)) (@pe_int _ _ _ _)) (@pa_nil _) (by rfl))) (@pa_nil _) (by rfl)))) (@pe_op _ _ _ _ _ _ _ _ on_mod (@pvN _ 1 _ _ (by rfl) (by trivial) (by decide) (by decide)) (@pe_int _ _ _ _)) (fun _ _ => rfl)))))), ?_⟩
    rw [show start ["_law_greatest", "_law_cell", "_law_far", "_law_some"] [.int g, .int c] = [some (.int g), some (.int c), none, none] from rfl]
    replace k := fun (_ : Unit) => k
    simp! only [and_true]
    have f0 := Int.emod_nonneg (c / 12) (show (100000000000000000000000000000000000000000000000000000000000 : Int) ≠ 0 by decide)
    have f1 := Int.emod_lt_of_pos (c / 12) (show (0 : Int) < 100000000000000000000000000000000000000000000000000000000000 by decide)
    generalize c / 12 % 100000000000000000000000000000000000000000000000000000000000 = far at f0 f1 ⊢
    intro t1 H1 _ e1 h1
    simp! only [and_true]
    intro l1 H2 _ e2 h2
    have h1_2 := e2.at h1
    clear h1
    simp! only [and_true]
    intro l2 H3 _ e3 h3
    have h1_3 := e3.at h1_2
    have h2_3 := e3.at h2
    clear h1_2 h2
    simp! only [and_true]
    intro l3 H4 _ e4 h4
    have h1_4 := e4.at h1_3
    have h2_4 := e4.at h2_3
    have h3_4 := e4.at h3
    clear h1_3 h2_3 h3
    simp! only [and_true]
    intro l5 H5 _ e5 h5
    have h1_5 := e5.at h1_4
    have h3_5 := e5.at h3_4
    have e05 := e1.trans (e2.trans (e3.trans (e4.trans e5)))
    clear h1_4 h2_4 h3_4 h4
    have j0 := Int.emod_nonneg c (show (12 : Int) ≠ 0 by decide)
    have j1 := Int.emod_lt_of_pos c (show (0 : Int) < 12 by decide)
    simp! only [and_true]
    generalize c % 12 = j at j0 j1 ⊢
    obtain ⟨n, rfl⟩ := Int.eq_ofNat_of_zero_le j0
    have k2 := fun r => k () r H5 e05
    clear k
    match n, j1 with
    | 0, _ => exact k2 _ (.inl rfl) (Rp_int (by omega))
    | 1, _ => exact k2 _ (.inr ⟨rfl, by decide⟩) (Rp_int (by decide))
    | 2, _ => exact k2 _ (.inr ⟨rfl, by decide⟩) (Rp_int (by decide))
    | 3, _ => exact k2 _ (.inr ⟨rfl, by show (decide _ && _) = false; rw [decide_eq_false (by omega)]; rfl⟩) (Rp_int (by omega))
    | 4, _ => exact k2 _ (.inr ⟨rfl, by decide⟩) (Rp_int (by decide))
    | 5, _ => exact k2 _ (.inr ⟨rfl, by show (_ && decide _) = false; rw [decide_eq_false (p := _ ≤ (1000000000000000000 : Int)) (by omega), Bool.and_false]⟩) (Rp_int (by omega))
    | 6, _ => exact k2 _ (.inr ⟨rfl, rfl⟩) ⟨.none, rfl, rfl, rfl, by decide⟩
    | 7, _ => exact k2 _ (.inr ⟨rfl, rfl⟩) ⟨.bool true, rfl, rfl, rfl, by decide⟩
    | 8, _ => exact k2 _ (.inr ⟨rfl, rfl⟩) ⟨.bool false, rfl, rfl, rfl, by decide⟩
    | 9, _ => exact k2 _ (.inr ⟨rfl, rfl⟩) ⟨.str "", (m_datV_str H5 4 "").trans (if_pos (by decide +kernel)), rfl, rfl, by decide⟩
    | 10, _ => exact k2 _ (.inr ⟨by show (isW H5 (.ref t1)).isSome = true; rw [isW_ref', h1_5]; rfl, rfl⟩) (Rp_tup1 h1_5 (by omega))
    | 11, _ => exact k2 _ (.inr ⟨by show (isW H5 (.ref l2)).isSome = true; rw [isW_ref', h3_5]; rfl, rfl⟩) (Rp_lst1 h3_5 (by omega))
    | n + 12, h => exact absurd h (by omega)
def FstB (H : Hp) (x : V) : Prop := isW H x = some false
theorem Rp_dk0 {H : Hp} {p : Addr} (e : H p = some (.dK [])) : Rp H (.ref p) := by
  refine ⟨.dict [], ?_, rfl, rfl, by decide⟩
  show (match H p with | some (.dK kvs) => (allSome (kvs.map dkP)).map PyData.dict | _ => datV H 5 (.ref p)) = _
  rw [e]
  rfl
theorem strOk_of (s : String) : PyData.strOk (Str.ofString s) = true := by
  rw [Str.ofString_eq_toList]
  unfold PyData.strOk
  rw [Array.all_eq_true_iff_forall_mem]
  intro x hx
  have hx' : x ∈ s.toList.map Char.toNat := by simpa using hx
  obtain ⟨c, _, rfl⟩ := List.mem_map.mp hx'
  have h := c.valid
  refine decide_eq_true ?_
  have h2 : c.toNat.isValidChar := h
  unfold Nat.isValidChar at h2
  omega
theorem Rp_strI {H : Hp} {i : Int} (h : i.natAbs < 2 ^ 240) : Rp H (.str (Str.ofString (toString i))) := by
  have hs := strOk_of (toString i)
  refine ⟨.str (Str.ofString (toString i)), (m_datV_str H 4 _).trans (if_pos hs), rfl, ?_, ?_⟩
  · show (Str.ofString (toString i)).cps.toList.all (fun c => decide (c < 16 ^ 8)) = true
    rw [List.all_eq_true]
    intro c hc
    unfold PyData.strOk at hs
    rw [Array.all_eq_true_iff_forall_mem] at hs
    have := of_decide_eq_true (hs c (Array.mem_toList_iff.mp hc))
    exact decide_eq_true (by omega)
  · have h2 : decide ((PyData.shown (.int i)).length ≤ 250) = true := (RpI h).2.1
    have h3 : (Str.ofString (toString i)).length ≤ 250 := of_decide_eq_true h2
    show (Str.ofString (toString i)).cps.size ≤ 20000
    have h4 : (Str.ofString (toString i)).cps.size ≤ 250 := h3
    omega
abbrev B_spFirstX  (f : Int) (l : Int) (c : Int) (H : Hp) (Q : VK) (E : XK) : Prop := 0 ≤ f ∧ f ≤ 1000000000000000000 ∧ 0 ≤ l ∧ l ≤ f ∧ 0 ≤ c ∧ c < 10 ^ 60 ∧ ∀ (r : V) (H' : Hp), Ext H H' → ((∃ i, r = .int i ∧ i < f - l) ∨ FstB H' r) → Rp H' r → Q r H'
def spFirstX  : Sp := fun vs H Q E => ∃ (f : Int) (l : Int) (c : Int), vs = [.int f, .int l, .int c] ∧ (B_spFirstX  f l c H Q E)
theorem c_spFirstX  (f : Int) (l : Int) (c : Int) (H : Hp) (Q : VK) (E : XK) : spFirstX  [.int f, .int l, .int c] H Q E = (B_spFirstX  f l c H Q E) := spx3 (f := fun (f : Int) (l : Int) (c : Int) => [.int f, .int l, .int c]) (fun _ _ _ _ _ _ h => by cases h; exact ⟨rfl, rfl, rfl⟩) f l c
theorem l_spFirstX  {vs : List V} {H : Hp} {Q : VK} {E : XK} (h : spFirstX  vs H Q E) : vs.length = 3 := spl3 h fun _ _ _ => rfl
theorem ok__law_first (T : Tx K mg t) : FnOk P w K mg base CX0 1 t.a__law_first t.d__law_first ["_law_first_here", "_law_least", "_law_cell"] spFirstX := by
  refine T.F__law_first.ok c__law_first (fun vs H Q E h => l_spFirstX h) (fun cdv A outer s H vs Q E hr h => ?_)
  · obtain ⟨f, l, c, rfl, g0, g1, l0, l1, c0, c1, k⟩ := h
    refine ⟨_, (@pss_cons _ _ _ _ _ (@ps_set _ _ (3) _ _ _ _ c__law_first.nd rfl (Or.inl rfl) (@pe_op _ _ _ _ _ _ _ _ on_mod (@pe_op _ _ _ _ _ _ _ _ on_fdiv (@pvN _ 2 _ _ (by rfl) (by trivial) (by decide) (by decide)) (@pe_int _ _ _ _)) (@pe_op _ _ _ _ _ _ _ _ on_pow (@pe_int _ _ _ _) (@pe_int _ _ _ _))) (by rfl) (by trivial)) (@pss_cons _ _ _ _ _ (@ps_set _ _ (4) _ _ _ _ c__law_first.nd rfl (Or.inl rfl) (@pe_qLst _ _ _ _ (@pa_c _ _ _ _ _ (@pe_op _ _ _ _ _ _ _ _ on_sub (@pe_op _ _ _ _ _ _ _ _ on_sub (@pvN _ 0 _ _ (by rfl) (by trivial) (by decide) (by decide)) (@pvN _ 1 _ _ (by rfl) (by trivial) (by decide) (by decide))) (@pe_int _ _ _ _)) (@pa_c _ _ _ _ _ (@pe_op _ _ _ _ _ _ _ _ on_sub (@pe_op _ _ _ _ _ _ _ _ on_sub (@pe_op _ _ _ _ _ _ _ _ on_sub (@pvN _ 0 _ _ (by rfl) (by trivial) (by decide) (by decide)) (@pvN _ 1 _ _ (by rfl) (by trivial) (by decide) (by decide))) (@pe_int _ _ _ _)) (@pvN _ 3 _ _ (by rfl) (by trivial) (by decide) (by decide))) (@pa_c _ _ _ _ _ (@pe_non _ _ _) (@pa_c _ _ _ _ _ (@pe_callTy _ _ _ _ _ _ _ _ _ call_qStr (by rfl) T.z_str (by decide +kernel) (@pa_c _ _ _ _ _ (@pvN _ 0 _ _ (by rfl) (by trivial) (by decide) (by decide)) (@pa_nil _) (by rfl)) (by decide) (by decide) (by rfl) (by rfl)) (@pa_c _ _ _ _ _ (@pe_qTup _ _ _ _ _ (@pa_c _ _ _ _ _ (@pvN _ 0 _ _ (by rfl) (by trivial) (by decide) (by decide)) (@pa_nil _) (by rfl))) (@pa_c _ _ _ _ _ (@pe_qLst _ _ _ _ (@pa_c _ _ _ _ _ (@pvN _ 0 _ _ (by rfl) (by trivial) (by decide) (by decide)) (@pa_nil _) (by rfl))) (@pa_c _ _ _ _ _ (@pe_bl _ _ _ _) (@pa_c _ _ _ _ _ (@pe_bl _ _ _ _) (@pa_c _ _ _ _ _ (@pe_nDNew _ _) (@pa_nil _) (by rfl)) (by rfl)) (by rfl)) (by rfl)) (by rfl)) (by rfl)) (by rfl)) (by rfl)) (by rfl))) (by rfl) (by trivial)) (@pss_one _ _ _ (@ps_ret _ _ _ _ (@pe_ix _ _ _ _ _ _ _ ix_q (@pvN _ 4 _ _ (by rfl) (by trivial) (by decide) (by decide)) (@pe_op _ _ _ _ _ _ _ _ on_mod (@pvN _ 2 _ _ (by rfl) (by trivial) (by decide) (by decide)) (@pe_int _ _ _ _)) (fun _ _ => rfl)))))), ?_⟩
    rw [show start ["_law_first_here", "_law_least", "_law_cell", "_law_far", "_law_some"] [.int f, .int l, .int c] = [some (.int f), some (.int l), some (.int c), none, none] from rfl]
    replace k := fun (_ : Unit) => k
    simp! only [and_true]
    have f0 := Int.emod_nonneg (c / 9) (show (100000000000000000000000000000000000000000000000000000000000 : Int) ≠ 0 by decide)
    have f1 := Int.emod_lt_of_pos (c / 9) (show (0 : Int) < 100000000000000000000000000000000000000000000000000000000000 by decide)
    generalize c / 9 % 100000000000000000000000000000000000000000000000000000000000 = far at f0 f1 ⊢
    have hlg : f.natAbs.log2 < 1920 := by
      by_cases h0 : f.natAbs = 0
      · rw [h0]; decide
      · exact (Nat.log2_lt h0).mpr (by omega)
    refine ⟨hlg, ?_⟩
    clear hlg
    intro t1 H1 _ e1 h1
    simp! only [and_true]
    intro t2 H2 _ e2 h2
    have h1_2 := e2.at h1
    clear h1
    simp! only [and_true]
    intro t3 H3 _ e3 h3
    have h1_3 := e3.at h1_2
    have h2_3 := e3.at h2
    clear h1_2 h2
    simp! only [and_true]
    intro t4 H4 _ e4 h4
    have h1_4 := e4.at h1_3
    have h2_4 := e4.at h2_3
    have h3_4 := e4.at h3
    have e04 := e1.trans (e2.trans (e3.trans e4))
    clear h1_3 h2_3 h3
    have j0 := Int.emod_nonneg c (show (9 : Int) ≠ 0 by decide)
    have j1 := Int.emod_lt_of_pos c (show (0 : Int) < 9 by decide)
    simp! only [and_true]
    generalize c % 9 = j at j0 j1 ⊢
    obtain ⟨n, rfl⟩ := Int.eq_ofNat_of_zero_le j0
    have k2 := fun r => k () r H4 e04
    clear k
    match n, j1 with
    | 0, _ => exact k2 _ (.inl ⟨_, rfl, by omega⟩) (Rp_int (by omega))
    | 1, _ => exact k2 _ (.inl ⟨_, rfl, by omega⟩) (Rp_int (by omega))
    | 2, _ => exact k2 _ (.inr rfl) ⟨.none, rfl, rfl, rfl, by decide⟩
    | 3, _ => exact k2 _ (.inr rfl) (Rp_strI (by omega))
    | 4, _ => exact k2 _ (.inr (by show isW H4 (.ref t1) = _; rw [isW_ref', h1_4]; rfl)) (Rp_tup1 h1_4 (by omega))
    | 5, _ => exact k2 _ (.inr (by show isW H4 (.ref t2) = _; rw [isW_ref', h2_4]; rfl)) (Rp_lst1 h2_4 (by omega))
    | 6, _ => exact k2 _ (.inr rfl) ⟨.bool true, rfl, rfl, rfl, by decide⟩
    | 7, _ => exact k2 _ (.inr rfl) ⟨.bool false, rfl, rfl, rfl, by decide⟩
    | 8, _ => exact k2 _ (.inr (by show isW H4 (.ref t3) = _; rw [isW_ref', h3_4]; rfl)) (Rp_dk0 h3_4)
    | n + 9, h => exact absurd h (by omega)
def Rn (n w : Nat) (H : Hp) (x : V) : Prop := ∃ d, datV H n x = some d ∧ PyData.showable d = true ∧ d.leavesShort 250 = true ∧ d.weight ≤ w
def RnA (n w : Nat) (H : Hp) (xs : List V) : Prop := ∃ ds, allSome (xs.map (datV H n)) = some ds ∧ PyData.showableAll ds = true ∧ PyData.leavesShortAll 250 ds = true ∧ PyData.weightAll ds ≤ w
theorem RnA.nil {n : Nat} {H : Hp} : RnA n 0 H [] := ⟨[], rfl, rfl, rfl, Nat.le_refl _⟩
theorem RnA.cons {n w v : Nat} {H : Hp} {x : V} {xs : List V} (h : Rn n w H x) (k : RnA n v H xs) : RnA n (w + 1 + v) H (x :: xs) := by
  obtain ⟨d, h1, h2, h3, h4⟩ := h
  obtain ⟨ds, k1, k2, k3, k4⟩ := k
  refine ⟨d :: ds, ?_, ?_, ?_, ?_⟩
  · show (datV H n x).bind (fun d => (allSome (xs.map (datV H n))).map fun ds => d :: ds) = _
    rw [h1, k1]
    rfl
  · show (PyData.showable d && PyData.showableAll ds) = true
    rw [h2, k2]
    rfl
  · show (PyData.leavesShort 250 d && PyData.leavesShortAll 250 ds) = true
    rw [h3, k3]
    rfl
  · show d.weight + 1 + PyData.weightAll ds ≤ _
    omega
theorem Rn.mono {n w v : Nat} {H : Hp} {x : V} (h : Rn n w H x) (k : w ≤ v) : Rn n v H x := by
  obtain ⟨d, h1, h2, h3, h4⟩ := h
  exact ⟨d, h1, h2, h3, Nat.le_trans h4 k⟩
theorem Rn_tup {n w : Nat} {H : Hp} {p : Addr} {xs : List V} (e : H p = some (.tup xs)) (k : RnA n w H xs) : Rn (n + 1) w H (.ref p) := by
  obtain ⟨ds, k1, k2, k3, k4⟩ := k
  refine ⟨.tuple ds, ?_, k2, k3, k4⟩
  rw [m_datV_ref, e]
  show (allSome (xs.map (datV H n))).map PyData.tuple = _
  rw [k1]
  rfl
theorem Rn_lst {n w : Nat} {H : Hp} {p : Addr} {xs : List V} (e : H p = some (.lst xs)) (k : RnA n w H xs) : Rn (n + 1) w H (.ref p) := by
  obtain ⟨ds, k1, k2, k3, k4⟩ := k
  refine ⟨.list ds, ?_, k2, k3, k4⟩
  rw [m_datV_ref, e]
  show (allSome (xs.map (datV H n))).map PyData.list = _
  rw [k1]
  rfl
theorem Rn_int {n : Nat} {H : Hp} {i : Int} (h : i.natAbs < 2 ^ 240) : Rn (n + 1) 242 H (.int i) := by
  obtain ⟨h1, h2, h3⟩ := RpI h
  exact ⟨.int i, rfl, h1, h2, h3⟩
theorem Rn_non {n : Nat} {H : Hp} : Rn (n + 1) 242 H .non := ⟨.none, rfl, rfl, rfl, Nat.zero_le _⟩
theorem Rn_bl {n : Nat} {H : Hp} {b : Bool} : Rn (n + 1) 242 H (.bl b) := ⟨.bool b, rfl, rfl, rfl, Nat.zero_le _⟩
theorem Rn_str0 {n : Nat} {H : Hp} : Rn (n + 1) 242 H (.str "") := ⟨.str "", (m_datV_str H n "").trans (if_pos (by decide +kernel)), rfl, rfl, Nat.zero_le _⟩
theorem Rn_strI {n : Nat} {H : Hp} {i : Int} (h : i.natAbs < 2 ^ 240) : Rn (n + 1) 250 H (.str (Str.ofString (toString i))) := by
  have hs := strOk_of (toString i)
  refine ⟨.str (Str.ofString (toString i)), (m_datV_str H n _).trans (if_pos hs), rfl, ?_, ?_⟩
  · show (Str.ofString (toString i)).cps.toList.all (fun c => decide (c < 16 ^ 8)) = true
    rw [List.all_eq_true]
    intro c hc
    unfold PyData.strOk at hs
    rw [Array.all_eq_true_iff_forall_mem] at hs
    have := of_decide_eq_true (hs c (Array.mem_toList_iff.mp hc))
    exact decide_eq_true (by omega)
  · have h2 : decide ((PyData.shown (.int i)).length ≤ 250) = true := (RpI h).2.1
    exact of_decide_eq_true h2
theorem allSome_ext {f g : V → Option PyData} (hfg : ∀ x d, f x = some d → g x = some d) : ∀ (xs : List V) (ds : List PyData), allSome (xs.map f) = some ds → allSome (xs.map g) = some ds
  | [], _, h => h
  | x :: xs, ds, h => by
    have h' : (f x).bind (fun d => (allSome (xs.map f)).map fun ds => d :: ds) = some ds := h
    cases e : f x with
    | none => rw [e] at h'; cases h'
    | some d =>
      rw [e] at h'
      cases e2 : allSome (xs.map f) with
      | none => rw [e2] at h'; cases h'
      | some es =>
        rw [e2] at h'
        cases h'
        show (g x).bind (fun d => (allSome (xs.map g)).map fun ds => d :: ds) = _
        rw [hfg x d e, allSome_ext hfg xs es e2]
        rfl
theorem datV_ext {H H' : Hp} (e : Ext H H') : ∀ (n : Nat) (x : V) (d : PyData), datV H n x = some d → datV H' n x = some d
  | 0, _, _, h => nomatch h
  | n + 1, x, d, h => by
    cases x with
    | ref p =>
      rw [m_datV_ref] at h ⊢
      cases e1 : H p with
      | none => rw [e1] at h; cases h
      | some ob =>
        rw [e1] at h
        rw [e.at e1]
        have h' : datO (datV H n) ob = some d := h
        show datO (datV H' n) ob = some d
        cases ob with
        | lst xs =>
          have h2 : (allSome (xs.map (datV H n))).map PyData.list = some d := h'
          show (allSome (xs.map (datV H' n))).map PyData.list = some d
          cases e2 : allSome (xs.map (datV H n)) with
          | none => rw [e2] at h2; cases h2
          | some ds => rw [allSome_ext (datV_ext e n) xs ds e2]; rw [e2] at h2; exact h2
        | tup xs =>
          have h2 : (allSome (xs.map (datV H n))).map PyData.tuple = some d := h'
          show (allSome (xs.map (datV H' n))).map PyData.tuple = some d
          cases e2 : allSome (xs.map (datV H n)) with
          | none => rw [e2] at h2; cases h2
          | some ds => rw [allSome_ext (datV_ext e n) xs ds e2]; rw [e2] at h2; exact h2
        | _ => cases h'
    | _ => exact h
theorem Rn.ext {n w : Nat} {H H' : Hp} {x : V} (h : Rn n w H x) (e : Ext H H') : Rn n w H' x := by
  obtain ⟨d, h1, h2⟩ := h
  exact ⟨d, datV_ext e n x d h1, h2⟩
theorem Rn.rp {w : Nat} {H : Hp} {x : V} (h : Rn 5 w H x) (k : w ≤ 20000) : Rp H x := by
  obtain ⟨d, h1, h2, h3, h4⟩ := h
  refine ⟨d, ?_, h2, h3, Nat.le_trans h4 k⟩
  cases x with
  | ref p =>
    show (match H p with | some (.dK kvs) => (allSome (kvs.map dkP)).map PyData.dict | _ => datV H 5 (.ref p)) = _
    cases e1 : H p with
    | none => exact h1
    | some ob =>
      cases ob with
      | dK kvs =>
        rw [m_datV_ref, e1] at h1
        cases h1
      | _ => exact h1
  | _ => exact h1
theorem AxT.tup2 {H : Hp} {q : Addr} {a c : V} (e : H q = some (.tup [a, c])) (h : (isW H a).isSome = true) (k : sizeF a = false) : AxT H (.ref q) false := .inr ⟨rfl, .inr (.inr (.inr (.inr (.inr (.inl ⟨q, a, c, rfl, e, h, k⟩)))))⟩
theorem AxT.tup3 {H : Hp} {q : Addr} {i : Int} {c : V} (e : H q = some (.tup [.int i, c])) (h1 : 1 ≤ i) (h2 : i ≤ 1000000000) (k : isW H c = some false) : AxT H (.ref q) false := .inr ⟨rfl, .inr (.inr (.inr (.inr (.inr (.inr ⟨q, i, c, rfl, e, by show (decide (1 ≤ i) && decide (i ≤ 1000000000)) = true; rw [decide_eq_true h1, decide_eq_true h2]; rfl, k⟩)))))⟩
theorem AxT.tupn {H : Hp} {q : Addr} {xs : List V} (e : H q = some (.tup xs)) (h : xs.length ≠ 2) (k : xs.length ≤ 5000) : AxT H (.ref q) false := .inr ⟨rfl, .inr (.inr (.inr (.inr (.inl ⟨q, xs, rfl, e, h, k⟩))))⟩
theorem AxT.lst {H : Hp} {q : Addr} {xs : List V} (e : H q = some (.lst xs)) : AxT H (.ref q) false := .inr ⟨rfl, .inr (.inr (.inr (.inl ⟨q, xs, rfl, e⟩)))⟩
theorem sizeF_lo {i : Int} (h : i < 1) : sizeF (.int i) = false := by show (decide (1 ≤ i) && decide (i ≤ 1000000000)) = false; rw [decide_eq_false (by omega)]; rfl
theorem sizeF_hi {i : Int} (h : 1000000000 < i) : sizeF (.int i) = false := by show (decide (1 ≤ i) && decide (i ≤ 1000000000)) = false; rw [decide_eq_false (p := i ≤ 1000000000) (by omega), Bool.and_false]
theorem isW_tup {H : Hp} {q : Addr} {xs : List V} (e : H q = some (.tup xs)) : isW H (.ref q) = some false := by rw [isW_ref', e]; rfl
abbrev B_spAxisX  (q : Addr) (c : Int) (H : Hp) (Q : VK) (E : XK) : Prop := ∃ a : Int × Int, H q = some (.tup [.int a.1, .int a.2]) ∧ 1 ≤ a.1 ∧ a.1 ≤ 1000000000 ∧ -1000000000000000000 ≤ a.2 ∧ a.2 ≤ 1000000000000000000 ∧ 0 ≤ c ∧ c < 10 ^ 60 ∧ ∀ (r : V) (H' : Hp), Ext H H' → AxT H' r false → Rn 4 1000 H' r → Q r H'
def spAxisX  : Sp := fun vs H Q E => ∃ (q : Addr) (c : Int), vs = [.ref q, .int c] ∧ (B_spAxisX  q c H Q E)
theorem c_spAxisX  (q : Addr) (c : Int) (H : Hp) (Q : VK) (E : XK) : spAxisX  [.ref q, .int c] H Q E = (B_spAxisX  q c H Q E) := spx2 (f := fun (q : Addr) (c : Int) => [.ref q, .int c]) (fun _ _ _ _ h => by cases h; exact ⟨rfl, rfl⟩) q c
theorem l_spAxisX  {vs : List V} {H : Hp} {Q : VK} {E : XK} (h : spAxisX  vs H Q E) : vs.length = 2 := spl2 h fun _ _ => rfl
theorem ok__law_axis (T : Tx K mg t) : FnOk P w K mg base CX0 1 t.a__law_axis t.d__law_axis ["_law_axis_here", "_law_cell"] spAxisX := by
  refine T.F__law_axis.ok c__law_axis (fun vs H Q E h => l_spAxisX h) (fun cdv A outer s H vs Q E hr h => ?_)
  · obtain ⟨q, c, rfl, a, hq, a0, a1, p0, p1, c0, c1, k⟩ := h
    refine ⟨_, (@pss_cons _ _ _ _ _ (@ps_asg _ _ _ _ _ _ (@pvN _ 0 _ _ (by rfl) (by trivial) (by decide) (by decide)) ((@pg_tup _ _ _ _ _ (2) rfl (@pgs_consN _ _ _ _ _ (@pg_name _ _ (2) _ c__law_axis.nd rfl (Or.inl rfl) (by trivial)) (@pgs_consN _ _ _ _ _ (@pg_name _ _ (3) _ c__law_axis.nd rfl (Or.inl rfl) (by trivial)) (@pgs_nilN _) (by rfl)) (by rfl)) (by rfl) (by rfl)).mono fun _ _ _ _ h => gTup_q h) (by rfl) (by rfl) (by rfl)) (@pss_cons _ _ _ _ _ (@ps_set _ _ (4) _ _ _ _ c__law_axis.nd rfl (Or.inl rfl) (@pe_op _ _ _ _ _ _ _ _ on_mod (@pe_op _ _ _ _ _ _ _ _ on_fdiv (@pvN _ 1 _ _ (by rfl) (by trivial) (by decide) (by decide)) (@pe_int _ _ _ _)) (@pe_op _ _ _ _ _ _ _ _ on_pow (@pe_int _ _ _ _) (@pe_int _ _ _ _))) (by rfl) (by trivial)) (@pss_cons _ _ _ _ _ (@ps_if _ _ _ _ _ _ _ _ (@pt_cmpRN _ _ _ _ _ _ _ _ on_lt (@pe_op _ _ _ _ _ _ _ _ on_mod (@pvN _ 1 _ _ (by rfl) (by trivial) (by decide) (by decide)) (@pe_int _ _ _ _)) (@pe_int _ _ _ _) (nomark _)) (@pss_cons _ _ _ _ _ (@ps_set _ _ (5) _ _ _ _ c__law_axis.nd rfl (Or.inl rfl) (@pe_qLst _ _ _ _ (@pa_c _ _ _ _ _ (@pe_qLst _ _ _ _ (@pa_c _ _ _ _ _ (@pvN _ 2 _ _ (by rfl) (by trivial) (by decide) (by decide)) (@pa_c _ _ _ _ _ (@pvN _ 3 _ _ (by rfl) (by trivial) (by decide) (by decide)) (@pa_nil _) (by rfl)) (by rfl))) (@pa_c _ _ _ _ _ (@pe_qTup _ _ _ _ _ (@pa_c _ _ _ _ _ (@pvN _ 2 _ _ (by rfl) (by trivial) (by decide) (by decide)) (@pa_nil _) (by rfl))) (@pa_c _ _ _ _ _ (@pe_qTup _ _ _ _ _ (@pa_c _ _ _ _ _ (@pvN _ 2 _ _ (by rfl) (by trivial) (by decide) (by decide)) (@pa_c _ _ _ _ _ (@pvN _ 3 _ _ (by rfl) (by trivial) (by decide) (by decide)) (@pa_c _ _ _ _ _ (@pe_int _ _ _ _) (@pa_nil _) (by rfl)) (by rfl)) (by rfl))) (@pa_c _ _ _ _ _ (@pe_qTup _ _ _ _ _ (@pa_c _ _ _ _ _ (@pe_int _ _ _ _) (@pa_c _ _ _ _ _ (@pvN _ 3 _ _ (by rfl) (by trivial) (by decide) (by decide)) (@pa_nil _) (by rfl)) (by rfl))) (@pa_c _ _ _ _ _ (@pe_qTup _ _ _ _ _ (@pa_c _ _ _ _ _ (@pe_op _ _ _ _ _ _ _ _ on_sub (@pe_un _ _ _ _ _ _ un_negN (@pe_int _ _ _ _)) (@pvN _ 4 _ _ (by rfl) (by trivial) (by decide) (by decide))) (@pa_c _ _ _ _ _ (@pvN _ 3 _ _ (by rfl) (by trivial) (by decide) (by decide)) (@pa_nil _) (by rfl)) (by rfl))) (@pa_c _ _ _ _ _ (@pe_qTup _ _ _ _ _ (@pa_c _ _ _ _ _ (@pe_op _ _ _ _ _ _ _ _ on_add (@pe_op _ _ _ _ _ _ _ _ on_add (@pe_op _ _ _ _ _ _ _ _ on_pow (@pe_int _ _ _ _) (@pe_int _ _ _ _)) (@pe_int _ _ _ _)) (@pvN _ 4 _ _ (by rfl) (by trivial) (by decide) (by decide))) (@pa_c _ _ _ _ _ (@pe_int _ _ _ _) (@pa_nil _) (by rfl)) (by rfl))) (@pa_c _ _ _ _ _ (@pe_non _ _ _) (@pa_nil _) (by rfl)) (by rfl)) (by rfl)) (by rfl)) (by rfl)) (by rfl)) (by rfl))) (by rfl) (by trivial)) (@pss_one _ _ _ (@ps_ret _ _ _ _ (@pe_ix _ _ _ _ _ _ _ ix_q (@pe_op _ _ _ _ _ _ _ _ op_nCat (@pvN _ 5 _ _ (by rfl) (by trivial) (by decide) (by decide)) (@pe_qLst _ _ _ _ (@pa_c _ _ _ _ _ (@pvN _ 2 _ _ (by rfl) (by trivial) (by decide) (by decide)) (@pa_c _ _ _ _ _ (@pe_qTup _ _ _ _ _ (@pa_c _ _ _ _ _ (@pe_bl _ _ _ _) (@pa_c _ _ _ _ _ (@pe_int _ _ _ _) (@pa_nil _) (by rfl)) (by rfl))) (@pa_c _ _ _ _ _ (@pe_qTup _ _ _ _ _ (@pa_c _ _ _ _ _ (@pe_bl _ _ _ _) (@pa_c _ _ _ _ _ (@pvN _ 3 _ _ (by rfl) (by trivial) (by decide) (by decide)) (@pa_nil _) (by rfl)) (by rfl))) (@pa_c _ _ _ _ _ (@pe_qTup _ _ _ _ _ (@pa_c _ _ _ _ _ (@pe_non _ _ _) (@pa_c _ _ _ _ _ (@pvN _ 3 _ _ (by rfl) (by trivial) (by decide) (by decide)) (@pa_nil _) (by rfl)) (by rfl))) (@pa_c _ _ _ _ _ (@pe_qTup _ _ _ _ _ (@pa_c _ _ _ _ _ (@pe_callTy _ _ _ _ _ _ _ _ _ call_qStr (by rfl) T.z_str (by decide +kernel) (@pa_c _ _ _ _ _ (@pvN _ 2 _ _ (by rfl) (by trivial) (by decide) (by decide)) (@pa_nil _) (by rfl)) (by decide) (by decide) (by rfl) (by rfl)) (@pa_c _ _ _ _ _ (@pvN _ 3 _ _ (by rfl) (by trivial) (by decide) (by decide)) (@pa_nil _) (by rfl)) (by rfl))) (@pa_nil _) (by rfl)) (by rfl)) (by rfl)) (by rfl)) (by rfl)))) (@pe_op _ _ _ _ _ _ _ _ on_mod (@pvN _ 1 _ _ (by rfl) (by trivial) (by decide) (by decide)) (@pe_int _ _ _ _)) (fun _ _ => rfl))))) (@pss_nil _)) (@pss_cons _ _ _ _ _ (@ps_set _ _ (5) _ _ _ _ c__law_axis.nd rfl (Or.inl rfl) (@pe_qLst _ _ _ _ (@pa_c _ _ _ _ _ (@pe_qTup _ _ _ _ _ (@pa_c _ _ _ _ _ (@pvN _ 2 _ _ (by rfl) (by trivial) (by decide) (by decide)) (@pa_c _ _ _ _ _ (@pe_non _ _ _) (@pa_nil _) (by rfl)) (by rfl))) (@pa_c _ _ _ _ _ (@pe_qTup _ _ _ _ _ (@pa_c _ _ _ _ _ (@pvN _ 2 _ _ (by rfl) (by trivial) (by decide) (by decide)) (@pa_c _ _ _ _ _ (@pe_bl _ _ _ _) (@pa_nil _) (by rfl)) (by rfl))) (@pa_c _ _ _ _ _ (@pe_qTup _ _ _ _ _ (@pa_c _ _ _ _ _ (@pvN _ 2 _ _ (by rfl) (by trivial) (by decide) (by decide)) (@pa_c _ _ _ _ _ (@pe_callTy _ _ _ _ _ _ _ _ _ call_qStr (by rfl) T.z_str (by decide +kernel) (@pa_c _ _ _ _ _ (@pvN _ 3 _ _ (by rfl) (by trivial) (by decide) (by decide)) (@pa_nil _) (by rfl)) (by decide) (by decide) (by rfl) (by rfl)) (@pa_nil _) (by rfl)) (by rfl))) (@pa_c _ _ _ _ _ (@pe_qTup _ _ _ _ _ (@pa_c _ _ _ _ _ (@pvN _ 2 _ _ (by rfl) (by trivial) (by decide) (by decide)) (@pa_c _ _ _ _ _ (@pe_qTup _ _ _ _ _ (@pa_c _ _ _ _ _ (@pvN _ 3 _ _ (by rfl) (by trivial) (by decide) (by decide)) (@pa_nil _) (by rfl))) (@pa_nil _) (by rfl)) (by rfl))) (@pa_c _ _ _ _ _ (@pe_qTup _ _ _ _ _ (@pa_c _ _ _ _ _ (@pe_qTup _ _ _ _ _ (@pa_c _ _ _ _ _ (@pvN _ 2 _ _ (by rfl) (by trivial) (by decide) (by decide)) (@pa_c _ _ _ _ _ (@pvN _ 3 _ _ (by rfl) (by trivial) (by decide) (by decide)) (@pa_nil _) (by rfl)) (by rfl))) (@pa_nil _) (by rfl))) (@pa_c _ _ _ _ _ (@pe_qTup _ _ _ _ _ (@pa_c _ _ _ _ _ (@pe_qTup _ _ _ _ _ (@pa_c _ _ _ _ _ (@pvN _ 2 _ _ (by rfl) (by trivial) (by decide) (by decide)) (@pa_nil _) (by rfl))) (@pa_c _ _ _ _ _ (@pvN _ 3 _ _ (by rfl) (by trivial) (by decide) (by decide)) (@pa_nil _) (by rfl)) (by rfl))) (@pa_c _ _ _ _ _ (@pe_qTup _ _ _ _ _ (@pa_nil _)) (@pa_c _ _ _ _ _ (@pe_str _ _ _ _) (@pa_nil _) (by rfl)) (by rfl)) (by rfl)) (by rfl)) (by rfl)) (by rfl)) (by rfl)) (by rfl))) (by rfl) (by trivial)) (@pss_one _ _ _ (@ps_ret _ _ _ _ (@pe_ix _ _ _ _ _ _ _ ix_q (@pe_op _ _ _ _ _ _ _ _ op_nCat (@pvN _ 5 _ _ (by rfl) (by trivial) (by decide) (by decide)) (@pe_qLst _ _ _ _ (@pa_c _ _ _ _ _ (@pe_qTup _ _ _ _ _ (@pa_c _ _ _ _ _ (@pe_int _ _ _ _) (@pa_c _ _ _ _ _ (@pe_int _ _ _ _) (@pa_nil _) (by rfl)) (by rfl))) (@pa_c _ _ _ _ _ (@pe_qTup _ _ _ _ _ (@pa_c _ _ _ _ _ (@pe_op _ _ _ _ _ _ _ _ on_add (@pe_op _ _ _ _ _ _ _ _ on_pow (@pe_int _ _ _ _) (@pe_int _ _ _ _)) (@pe_int _ _ _ _)) (@pa_c _ _ _ _ _ (@pe_int _ _ _ _) (@pa_nil _) (by rfl)) (by rfl))) (@pa_c _ _ _ _ _ (@pe_qTup _ _ _ _ _ (@pa_c _ _ _ _ _ (@pe_int _ _ _ _) (@pa_c _ _ _ _ _ (@pe_non _ _ _) (@pa_nil _) (by rfl)) (by rfl))) (@pa_c _ _ _ _ _ (@pe_qTup _ _ _ _ _ (@pa_c _ _ _ _ _ (@pe_int _ _ _ _) (@pa_c _ _ _ _ _ (@pe_bl _ _ _ _) (@pa_nil _) (by rfl)) (by rfl))) (@pa_nil _) (by rfl)) (by rfl)) (by rfl)) (by rfl)))) (@pe_op _ _ _ _ _ _ _ _ on_sub (@pe_op _ _ _ _ _ _ _ _ on_mod (@pvN _ 1 _ _ (by rfl) (by trivial) (by decide) (by decide)) (@pe_int _ _ _ _)) (@pe_int _ _ _ _)) (fun _ _ => rfl)))))))), ?_⟩
    rw [show start ["_law_axis_here", "_law_cell", "_law_size", "_law_pace", "_law_far", "_law_some"] [.ref q, .int c] = [some (.ref q), some (.int c), none, none, none, none] from rfl]
    replace k := fun (_ : Unit) => k
    have f0 := Int.emod_nonneg (c / 24) (show (10000000000000000000000000000000000000000000000000000000000 : Int) ≠ 0 by decide)
    have f1 := Int.emod_lt_of_pos (c / 24) (show (0 : Int) < 10000000000000000000000000000000000000000000000000000000000 by decide)
    have j0 := Int.emod_nonneg c (show (24 : Int) ≠ 0 by decide)
    have j1 := Int.emod_lt_of_pos c (show (0 : Int) < 24 by decide)
    have lg : ∀ i : Int, -1000000000000000000 ≤ i → i ≤ 1000000000000000000 → i.natAbs.log2 < 1920 := fun i g0 g1 => by
      by_cases h0 : i.natAbs = 0
      · rw [h0]; decide
      · exact (Nat.log2_lt h0).mpr (by omega)
    have lg1 := lg a.1 (by omega) (by omega)
    have lg2 := lg a.2 (by omega) (by omega)
    clear lg
    simp! only [-m_tIfS]
    generalize c / 24 % 10000000000000000000000000000000000000000000000000000000000 = far at f0 f1 ⊢
    by_cases hj : c % 24 < 12
    · clear lg2
      simp! only [and_true]
      intro o0 J0 _ e0 ho0
      have ee := e0
      clear e0
      simp! only [and_true]
      intro o1 J1 _ e1 ho1
      replace ho0 := e1.at ho0
      replace ee := ee.trans e1
      clear e1
      simp! only [and_true]
      intro o2 J2 _ e2 ho2
      replace ho0 := e2.at ho0
      replace ho1 := e2.at ho1
      replace ee := ee.trans e2
      clear e2
      simp! only [and_true]
      intro o3 J3 _ e3 ho3
      replace ho0 := e3.at ho0
      replace ho1 := e3.at ho1
      replace ho2 := e3.at ho2
      replace ee := ee.trans e3
      clear e3
      simp! only [and_true]
      intro o4 J4 _ e4 ho4
      replace ho0 := e4.at ho0
      replace ho1 := e4.at ho1
      replace ho2 := e4.at ho2
      replace ho3 := e4.at ho3
      replace ee := ee.trans e4
      clear e4
      simp! only [and_true]
      intro o5 J5 _ e5 ho5
      replace ho0 := e5.at ho0
      replace ho1 := e5.at ho1
      replace ho2 := e5.at ho2
      replace ho3 := e5.at ho3
      replace ho4 := e5.at ho4
      replace ee := ee.trans e5
      clear e5
      simp! only [and_true]
      intro l1 J6 _ e6 hl1
      replace ho0 := e6.at ho0
      replace ho1 := e6.at ho1
      replace ho2 := e6.at ho2
      replace ho3 := e6.at ho3
      replace ho4 := e6.at ho4
      replace ho5 := e6.at ho5
      replace ee := ee.trans e6
      clear e6
      simp! only [and_true]
      intro o8 J7 _ e7 ho8
      replace ho0 := e7.at ho0
      replace ho1 := e7.at ho1
      replace ho2 := e7.at ho2
      replace ho3 := e7.at ho3
      replace ho4 := e7.at ho4
      replace ho5 := e7.at ho5
      replace hl1 := e7.at hl1
      replace ee := ee.trans e7
      clear e7
      simp! only [and_true]
      intro o9 J8 _ e8 ho9
      replace ho0 := e8.at ho0
      replace ho1 := e8.at ho1
      replace ho2 := e8.at ho2
      replace ho3 := e8.at ho3
      replace ho4 := e8.at ho4
      replace ho5 := e8.at ho5
      replace hl1 := e8.at hl1
      replace ho8 := e8.at ho8
      replace ee := ee.trans e8
      clear e8
      simp! only [and_true]
      intro o10 J9 _ e9 ho10
      replace ho0 := e9.at ho0
      replace ho1 := e9.at ho1
      replace ho2 := e9.at ho2
      replace ho3 := e9.at ho3
      replace ho4 := e9.at ho4
      replace ho5 := e9.at ho5
      replace hl1 := e9.at hl1
      replace ho8 := e9.at ho8
      replace ho9 := e9.at ho9
      replace ee := ee.trans e9
      clear e9
      simp! only [and_true]
      intro o11 J10 _ e10 ho11
      replace ho0 := e10.at ho0
      replace ho1 := e10.at ho1
      replace ho2 := e10.at ho2
      replace ho3 := e10.at ho3
      replace ho4 := e10.at ho4
      replace ho5 := e10.at ho5
      replace hl1 := e10.at hl1
      replace ho8 := e10.at ho8
      replace ho9 := e10.at ho9
      replace ho10 := e10.at ho10
      replace ee := ee.trans e10
      clear e10
      simp! only [and_true]
      intro l2 J11 _ e11 hl2
      replace ho0 := e11.at ho0
      replace ho1 := e11.at ho1
      replace ho2 := e11.at ho2
      replace ho3 := e11.at ho3
      replace ho4 := e11.at ho4
      replace ho5 := e11.at ho5
      replace hl1 := e11.at hl1
      replace ho8 := e11.at ho8
      replace ho9 := e11.at ho9
      replace ho10 := e11.at ho10
      replace ho11 := e11.at ho11
      replace ee := ee.trans e11
      clear e11
      simp! only [and_true]
      intro l3 J12 _ e12 hl3
      replace ho0 := e12.at ho0
      replace ho1 := e12.at ho1
      replace ho2 := e12.at ho2
      replace ho3 := e12.at ho3
      replace ho4 := e12.at ho4
      replace ho5 := e12.at ho5
      replace hl1 := e12.at hl1
      replace ho8 := e12.at ho8
      replace ho9 := e12.at ho9
      replace ho10 := e12.at ho10
      replace ho11 := e12.at ho11
      replace hl2 := e12.at hl2
      replace ee := ee.trans e12
      clear e12
      simp! only [and_true]
      generalize c % 24 = j at j0 j1 hj ⊢
      obtain ⟨n, rfl⟩ := Int.eq_ofNat_of_zero_le j0
      have k2 := fun r => k () r J12 ee
      clear k
      have hn : n < 12 := by omega
      clear hj j1
      match n, hn with
      | 0, _ => exact k2 _ (.lst ho0) ((Rn_lst ho0 (.cons (Rn_int (by omega)) (.cons (Rn_int (by omega)) .nil))).mono (by decide))
      | 1, _ => exact k2 _ (.tupn ho1 (by simp) (by simp)) ((Rn_tup ho1 (.cons (Rn_int (by omega)) .nil)).mono (by decide))
      | 2, _ => exact k2 _ (.tupn ho2 (by simp) (by simp)) ((Rn_tup ho2 (.cons (Rn_int (by omega)) (.cons (Rn_int (by omega)) (.cons (Rn_int (by omega)) .nil)))).mono (by decide))
      | 3, _ => exact k2 _ (.tup2 ho3 rfl (sizeF_lo (by omega))) ((Rn_tup ho3 (.cons (Rn_int (by omega)) (.cons (Rn_int (by omega)) .nil))).mono (by decide))
      | 4, _ => exact k2 _ (.tup2 ho4 rfl (sizeF_lo (by omega))) ((Rn_tup ho4 (.cons (Rn_int (by omega)) (.cons (Rn_int (by omega)) .nil))).mono (by decide))
      | 5, _ => exact k2 _ (.tup2 ho5 rfl (sizeF_hi (by omega))) ((Rn_tup ho5 (.cons (Rn_int (by omega)) (.cons (Rn_int (by omega)) .nil))).mono (by decide))
      | 6, _ => exact k2 _ (.inr ⟨rfl, .inl rfl⟩) (Rn_non.mono (by decide))
      | 7, _ => exact k2 _ (.inr ⟨rfl, .inr (.inl ⟨_, rfl⟩)⟩) ((Rn_int (by omega)).mono (by decide))
      | 8, _ => exact k2 _ (.tup2 ho8 rfl rfl) ((Rn_tup ho8 (.cons (Rn_bl) (.cons (Rn_int (by omega)) .nil))).mono (by decide))
      | 9, _ => exact k2 _ (.tup2 ho9 rfl rfl) ((Rn_tup ho9 (.cons (Rn_bl) (.cons (Rn_int (by omega)) .nil))).mono (by decide))
      | 10, _ => exact k2 _ (.tup2 ho10 rfl rfl) ((Rn_tup ho10 (.cons (Rn_non) (.cons (Rn_int (by omega)) .nil))).mono (by decide))
      | 11, _ => exact k2 _ (.tup2 ho11 rfl rfl) ((Rn_tup ho11 (.cons (Rn_strI (by omega)) (.cons (Rn_int (by omega)) .nil))).mono (by decide))
      | n + 12, h => exact absurd h (by omega)
    · clear lg1
      simp! only [and_true]
      intro o0 J0 _ e0 ho0
      have ee := e0
      clear e0
      simp! only [and_true]
      intro o1 J1 _ e1 ho1
      replace ho0 := e1.at ho0
      replace ee := ee.trans e1
      clear e1
      simp! only [and_true]
      intro o2 J2 _ e2 ho2
      replace ho0 := e2.at ho0
      replace ho1 := e2.at ho1
      replace ee := ee.trans e2
      clear e2
      simp! only [and_true]
      intro i3 J3 _ e3 hi3
      replace ho0 := e3.at ho0
      replace ho1 := e3.at ho1
      replace ho2 := e3.at ho2
      replace ee := ee.trans e3
      clear e3
      simp! only [and_true]
      intro o3 J4 _ e4 ho3
      replace ho0 := e4.at ho0
      replace ho1 := e4.at ho1
      replace ho2 := e4.at ho2
      replace hi3 := e4.at hi3
      replace ee := ee.trans e4
      clear e4
      simp! only [and_true]
      intro i4 J5 _ e5 hi4
      replace ho0 := e5.at ho0
      replace ho1 := e5.at ho1
      replace ho2 := e5.at ho2
      replace hi3 := e5.at hi3
      replace ho3 := e5.at ho3
      replace ee := ee.trans e5
      clear e5
      simp! only [and_true]
      intro o4 J6 _ e6 ho4
      replace ho0 := e6.at ho0
      replace ho1 := e6.at ho1
      replace ho2 := e6.at ho2
      replace hi3 := e6.at hi3
      replace ho3 := e6.at ho3
      replace hi4 := e6.at hi4
      replace ee := ee.trans e6
      clear e6
      simp! only [and_true]
      intro i5 J7 _ e7 hi5
      replace ho0 := e7.at ho0
      replace ho1 := e7.at ho1
      replace ho2 := e7.at ho2
      replace hi3 := e7.at hi3
      replace ho3 := e7.at ho3
      replace hi4 := e7.at hi4
      replace ho4 := e7.at ho4
      replace ee := ee.trans e7
      clear e7
      simp! only [and_true]
      intro o5 J8 _ e8 ho5
      replace ho0 := e8.at ho0
      replace ho1 := e8.at ho1
      replace ho2 := e8.at ho2
      replace hi3 := e8.at hi3
      replace ho3 := e8.at ho3
      replace hi4 := e8.at hi4
      replace ho4 := e8.at ho4
      replace hi5 := e8.at hi5
      replace ee := ee.trans e8
      clear e8
      simp! only [and_true]
      intro o6 J9 _ e9 ho6
      replace ho0 := e9.at ho0
      replace ho1 := e9.at ho1
      replace ho2 := e9.at ho2
      replace hi3 := e9.at hi3
      replace ho3 := e9.at ho3
      replace hi4 := e9.at hi4
      replace ho4 := e9.at ho4
      replace hi5 := e9.at hi5
      replace ho5 := e9.at ho5
      replace ee := ee.trans e9
      clear e9
      simp! only [and_true]
      intro l1 J10 _ e10 hl1
      replace ho0 := e10.at ho0
      replace ho1 := e10.at ho1
      replace ho2 := e10.at ho2
      replace hi3 := e10.at hi3
      replace ho3 := e10.at ho3
      replace hi4 := e10.at hi4
      replace ho4 := e10.at ho4
      replace hi5 := e10.at hi5
      replace ho5 := e10.at ho5
      replace ho6 := e10.at ho6
      replace ee := ee.trans e10
      clear e10
      simp! only [and_true]
      intro o8 J11 _ e11 ho8
      replace ho0 := e11.at ho0
      replace ho1 := e11.at ho1
      replace ho2 := e11.at ho2
      replace hi3 := e11.at hi3
      replace ho3 := e11.at ho3
      replace hi4 := e11.at hi4
      replace ho4 := e11.at ho4
      replace hi5 := e11.at hi5
      replace ho5 := e11.at ho5
      replace ho6 := e11.at ho6
      replace hl1 := e11.at hl1
      replace ee := ee.trans e11
      clear e11
      simp! only [and_true]
      intro o9 J12 _ e12 ho9
      replace ho0 := e12.at ho0
      replace ho1 := e12.at ho1
      replace ho2 := e12.at ho2
      replace hi3 := e12.at hi3
      replace ho3 := e12.at ho3
      replace hi4 := e12.at hi4
      replace ho4 := e12.at ho4
      replace hi5 := e12.at hi5
      replace ho5 := e12.at ho5
      replace ho6 := e12.at ho6
      replace hl1 := e12.at hl1
      replace ho8 := e12.at ho8
      replace ee := ee.trans e12
      clear e12
      simp! only [and_true]
      intro o10 J13 _ e13 ho10
      replace ho0 := e13.at ho0
      replace ho1 := e13.at ho1
      replace ho2 := e13.at ho2
      replace hi3 := e13.at hi3
      replace ho3 := e13.at ho3
      replace hi4 := e13.at hi4
      replace ho4 := e13.at ho4
      replace hi5 := e13.at hi5
      replace ho5 := e13.at ho5
      replace ho6 := e13.at ho6
      replace hl1 := e13.at hl1
      replace ho8 := e13.at ho8
      replace ho9 := e13.at ho9
      replace ee := ee.trans e13
      clear e13
      simp! only [and_true]
      intro o11 J14 _ e14 ho11
      replace ho0 := e14.at ho0
      replace ho1 := e14.at ho1
      replace ho2 := e14.at ho2
      replace hi3 := e14.at hi3
      replace ho3 := e14.at ho3
      replace hi4 := e14.at hi4
      replace ho4 := e14.at ho4
      replace hi5 := e14.at hi5
      replace ho5 := e14.at ho5
      replace ho6 := e14.at ho6
      replace hl1 := e14.at hl1
      replace ho8 := e14.at ho8
      replace ho9 := e14.at ho9
      replace ho10 := e14.at ho10
      replace ee := ee.trans e14
      clear e14
      simp! only [and_true]
      intro l2 J15 _ e15 hl2
      replace ho0 := e15.at ho0
      replace ho1 := e15.at ho1
      replace ho2 := e15.at ho2
      replace hi3 := e15.at hi3
      replace ho3 := e15.at ho3
      replace hi4 := e15.at hi4
      replace ho4 := e15.at ho4
      replace hi5 := e15.at hi5
      replace ho5 := e15.at ho5
      replace ho6 := e15.at ho6
      replace hl1 := e15.at hl1
      replace ho8 := e15.at ho8
      replace ho9 := e15.at ho9
      replace ho10 := e15.at ho10
      replace ho11 := e15.at ho11
      replace ee := ee.trans e15
      clear e15
      simp! only [and_true]
      intro l3 J16 _ e16 hl3
      replace ho0 := e16.at ho0
      replace ho1 := e16.at ho1
      replace ho2 := e16.at ho2
      replace hi3 := e16.at hi3
      replace ho3 := e16.at ho3
      replace hi4 := e16.at hi4
      replace ho4 := e16.at ho4
      replace hi5 := e16.at hi5
      replace ho5 := e16.at ho5
      replace ho6 := e16.at ho6
      replace hl1 := e16.at hl1
      replace ho8 := e16.at ho8
      replace ho9 := e16.at ho9
      replace ho10 := e16.at ho10
      replace ho11 := e16.at ho11
      replace hl2 := e16.at hl2
      replace ee := ee.trans e16
      clear e16
      simp! only [and_true]
      generalize c % 24 = j at j0 j1 hj ⊢
      obtain ⟨n, hn0⟩ := Int.eq_ofNat_of_zero_le (show 0 ≤ j - 12 by omega)
      rw [hn0]
      have k2 := fun r => k () r J16 ee
      clear k
      have hn : n < 12 := by omega
      clear hj j1 hn0
      match n, hn with
      | 0, _ => exact k2 _ (.tup3 ho0 a0 a1 rfl) ((Rn_tup ho0 (.cons (Rn_int (by omega)) (.cons (Rn_non) .nil))).mono (by decide))
      | 1, _ => exact k2 _ (.tup3 ho1 a0 a1 rfl) ((Rn_tup ho1 (.cons (Rn_int (by omega)) (.cons (Rn_bl) .nil))).mono (by decide))
      | 2, _ => exact k2 _ (.tup3 ho2 a0 a1 rfl) ((Rn_tup ho2 (.cons (Rn_int (by omega)) (.cons (Rn_strI (by omega)) .nil))).mono (by decide))
      | 3, _ => exact k2 _ (.tup3 ho3 a0 a1 (isW_tup hi3)) ((Rn_tup ho3 (.cons (Rn_int (by omega)) (.cons (Rn_tup hi3 (.cons (Rn_int (by omega)) .nil)) .nil))).mono (by decide))
      | 4, _ => exact k2 _ (.tupn ho4 (by simp) (by simp)) ((Rn_tup ho4 (.cons (Rn_tup hi4 (.cons (Rn_int (by omega)) (.cons (Rn_int (by omega)) .nil))) .nil)).mono (by decide))
      | 5, _ => exact k2 _ (.tup2 ho5 (by rw [isW_tup hi5]; rfl) rfl) ((Rn_tup ho5 (.cons (Rn_tup hi5 (.cons (Rn_int (by omega)) .nil)) (.cons (Rn_int (by omega)) .nil))).mono (by decide))
      | 6, _ => exact k2 _ (.tupn ho6 (by simp) (by simp)) ((Rn_tup ho6 .nil).mono (by decide))
      | 7, _ => exact k2 _ (.inr ⟨rfl, .inr (.inr (.inl ⟨_, rfl⟩))⟩) (Rn_str0.mono (by decide))
      | 8, _ => exact k2 _ (.tup2 ho8 rfl (sizeF_lo (by omega))) ((Rn_tup ho8 (.cons (Rn_int (by omega)) (.cons (Rn_int (by omega)) .nil))).mono (by decide))
      | 9, _ => exact k2 _ (.tup2 ho9 rfl (sizeF_hi (by omega))) ((Rn_tup ho9 (.cons (Rn_int (by omega)) (.cons (Rn_int (by omega)) .nil))).mono (by decide))
      | 10, _ => exact k2 _ (.tup3 ho10 (by decide) (by decide) rfl) ((Rn_tup ho10 (.cons (Rn_int (by omega)) (.cons (Rn_non) .nil))).mono (by decide))
      | 11, _ => exact k2 _ (.tup3 ho11 (by decide) (by decide) rfl) ((Rn_tup ho11 (.cons (Rn_int (by omega)) (.cons (Rn_bl) .nil))).mono (by decide))
      | n + 12, h => exact absurd h (by omega)
theorem RnA.of {n w : Nat} {H : Hp} : ∀ {xs : List V}, (∀ x ∈ xs, Rn n w H x) → RnA n ((w + 1) * xs.length) H xs
  | [], _ => .nil
  | x :: xs, h => by
    have h1 := RnA.cons (h x List.mem_cons_self) (RnA.of fun y hy => h y (List.mem_cons_of_mem _ hy))
    rw [show (w + 1) * (x :: xs).length = w + 1 + (w + 1) * xs.length by rw [List.length_cons, Nat.mul_succ]; omega]
    exact h1
def PcB (axs : List (Int × Int)) : Prop := ∀ x ∈ axs, -1000000000000000000 ≤ x.2 ∧ x.2 ≤ 1000000000000000000
theorem Rn_ax {H : Hp} {axs : List (Int × Int)} {ys : List V} (al : Al (TupV H) (axL axs) ys) (hax : Axes axs) (pb : PcB axs) : ∀ y ∈ ys, Rn 4 1000 H y := fun y hy => by
  obtain ⟨i, hi, rfl⟩ := List.getElem_of_mem hy
  obtain ⟨a, q, h1, h2, h3⟩ := al_ax al (List.getElem?_eq_getElem hi)
  have b1 := hax.2 _ (List.mem_of_getElem? h1)
  have b2 := pb _ (List.mem_of_getElem? h1)
  rw [h2]
  exact (Rn_tup h3 (.cons (Rn_int (by omega)) (.cons (Rn_int (by omega)) .nil))).mono (by decide)
theorem Rp_dict {H : Hp} {q : Addr} {kvs : List (Key × V)} {axs : List (Int × Int)} (e : H q = some (.dK kvs)) (hax : Axes axs) (pb : PcB axs) (hl : kvs.length ≤ 8) (hm : ∀ p ∈ kvs, ∃ a ∈ axs, p = (Sum.inl a.1, V.int a.2)) : Rp H (.ref q) := by
  have h : ∀ kvs : List (Key × V), (∀ p ∈ kvs, ∃ a ∈ axs, p = (Sum.inl a.1, V.int a.2)) → ∃ ds, allSome (kvs.map dkP) = some ds ∧ PyData.showableKv ds = true ∧ PyData.leavesShortKv 250 ds = true ∧ PyData.weightKv ds ≤ 486 * kvs.length := fun kvs => by
    induction kvs with
    | nil => intro _; exact ⟨[], rfl, rfl, rfl, Nat.le_refl _⟩
    | cons p r ih =>
      intro hm
      obtain ⟨ds, i1, i2, i3, i4⟩ := ih fun p hp => hm p (List.mem_cons_of_mem _ hp)
      obtain ⟨a, ha, rfl⟩ := hm _ List.mem_cons_self
      have b1 := hax.2 _ ha
      have b2 := pb _ ha
      obtain ⟨u1, u2, u3⟩ := RpI (i := a.1) (by omega)
      obtain ⟨v1, v2, v3⟩ := RpI (i := a.2) (by omega)
      refine ⟨(.int a.1, .int a.2) :: ds, ?_, ?_, ?_, ?_⟩
      · show (allSome (r.map dkP)).map (fun ds => (PyData.int a.1, PyData.int a.2) :: ds) = _
        rw [i1]
        rfl
      · show (PyData.showable (.int a.1) && PyData.showable (.int a.2) && PyData.showableKv ds) = true
        rw [u1, v1, i2]
        rfl
      · show (PyData.leavesShort 250 (.int a.1) && PyData.leavesShort 250 (.int a.2) && PyData.leavesShortKv 250 ds) = true
        rw [u2, v2, i3]
        rfl
      · show (PyData.int a.1).weight + (PyData.int a.2).weight + 2 + PyData.weightKv ds ≤ _
        rw [List.length_cons]
        omega
  obtain ⟨ds, h1, h2, h3, h4⟩ := h kvs hm
  refine ⟨.dict ds, ?_, h2, h3, ?_⟩
  · show (match H q with | some (.dK kvs) => (allSome (kvs.map dkP)).map PyData.dict | _ => datV H 5 (.ref q)) = _
    rw [e]
    show (allSome (kvs.map dkP)).map PyData.dict = _
    rw [h1]
    rfl
  · show PyData.weightKv ds ≤ 20000
    omega
theorem AxsT_spoilt {H : Hp} {axs : List (Int × Int)} {ys : List V} {n : Nat} {r : V} {q : Addr} (al : Al (TupV H) (axL axs) ys) (hax : Axes axs) (hr : AxT H r false) (hn : n < ys.length) (hq : H q = some (.lst (ys.take n ++ [r] ++ ys.drop (n + 1)))) : AxsT H (.ref q) false := by
  have hl : ys.length = axs.length := by rw [al.1]; unfold axL; rw [List.length_map]
  refine .inl ⟨q, _, fun y => !decide (y = r), rfl, hq, ?_, fun y hy => ?_, ?_⟩
  · have := hax.1
    rw [List.length_append, List.length_append, List.length_take, List.length_drop]
    show _ + 1 + _ ≤ 8
    omega
  · by_cases e : y = r
    · show AxT H y (!decide (y = r))
      rw [decide_eq_true e, e]
      exact hr
    · show AxT H y (!decide (y = r))
      rw [decide_eq_false e]
      have hy' : y ∈ ys := by
        rcases List.mem_append.mp hy with hy | hy
        · rcases List.mem_append.mp hy with hy | hy
          · exact List.mem_of_mem_take hy
          · exact absurd (List.mem_singleton.mp hy) e
        · exact List.mem_of_mem_drop hy
      obtain ⟨i, hi, rfl⟩ := List.getElem_of_mem hy'
      obtain ⟨ax, w, h1, h2, h3⟩ := al_ax al (List.getElem?_eq_getElem hi)
      have hb := hax.2 _ (List.mem_of_getElem? h1)
      exact .inl ⟨rfl, w, ax, h2, h3, hb.1, hb.2⟩
  · symm
    rw [List.all_eq_false]
    exact ⟨r, List.mem_append_left _ (List.mem_append_right _ (List.mem_singleton.mpr rfl)), by rw [decide_eq_true rfl]; simp⟩
theorem Rp_spoilt {H : Hp} {axs : List (Int × Int)} {ys : List V} {n : Nat} {r : V} {q : Addr} (al : Al (TupV H) (axL axs) ys) (hax : Axes axs) (pb : PcB axs) (hr : Rn 4 1000 H r) (hn : n < ys.length) (hq : H q = some (.lst (ys.take n ++ [r] ++ ys.drop (n + 1)))) : Rp H (.ref q) := by
  have hl : ys.length = axs.length := by rw [al.1]; unfold axL; rw [List.length_map]
  have ha := Rn_ax al hax pb
  refine (Rn_lst hq (RnA.of (w := 1000) fun y hy => ?_)).rp ?_
  · rcases List.mem_append.mp hy with hy | hy
    · rcases List.mem_append.mp hy with hy | hy
      · exact ha y (List.mem_of_mem_take hy)
      · rw [List.mem_singleton.mp hy]; exact hr
    · exact ha y (List.mem_of_mem_drop hy)
  · have := hax.1
    rw [List.length_append, List.length_append, List.length_take, List.length_drop]
    show 1001 * (_ + 1 + _) ≤ 20000
    omega
theorem tup_eqv (z w : List Int) : PyData.eqv (.tuple (z.map PyData.int)) (.tuple (w.map PyData.int)) = decide (z = w) := by
  rw [eqv_tuple, eqvAll_ints]
theorem tups_eqv' : ∀ zs ws : List (List Int), PyData.eqvAll (zs.map fun z => PyData.tuple (z.map PyData.int)) (ws.map fun z => PyData.tuple (z.map PyData.int)) = decide (zs = ws)
  | [], [] => rfl
  | [], _ :: _ => by simp [PyData.eqvAll]
  | _ :: _, [] => by simp [PyData.eqvAll]
  | z :: zs, w :: ws => by
    rw [List.map_cons, List.map_cons, eqvAll_cons, tup_eqv, tups_eqv' zs ws]
    by_cases h1 : z = w <;> by_cases h2 : zs = ws <;> simp [h1, h2]
theorem use_cat {l b : Addr} {xs ys : List V} {H : Hp} {Q : VK} (h : H l = some (.lst xs)) (h' : H b = some (.lst ys)) (hl : xs.length + ys.length ≤ sizeLine) (q : newK (.lst (xs ++ ys)) H Q) : kOp' nCat (.ref l) Q (.ref b) H := by
  rw [m_kOp', m_nCat, lstAt, h]
  show optK (lstAt H b) (kNC2 xs H Q)
  rw [lstAt, h']
  exact ⟨hl, q⟩
theorem cut_to (xs : List V) (z : Int) (h : 0 ≤ z) : cutV xs none (some z) = xs.take z.toNat := by
  unfold cutV
  obtain ⟨n, rfl⟩ := Int.eq_ofNat_of_zero_le h
  rw [HT.sIx_none, HT.sIx_nat, List.drop_zero, Nat.sub_zero]
  show xs.take (min n xs.length) = xs.take n
  rcases Nat.le_total n xs.length with q | q
  · rw [Nat.min_eq_left q]
  · rw [Nat.min_eq_right q, List.take_length, List.take_of_length_le q]
theorem cut_from (xs : List V) (z : Int) (h : 0 ≤ z) : cutV xs (some z) none = xs.drop z.toNat := by
  unfold cutV
  obtain ⟨n, rfl⟩ := Int.eq_ofNat_of_zero_le h
  rw [HT.sIx_none, HT.sIx_nat]
  show _ = xs.drop n
  rcases Nat.le_total n xs.length with q | q
  · rw [Nat.min_eq_left q]
    exact List.take_of_length_le (by rw [List.length_drop]; omega)
  · rw [Nat.min_eq_right q, List.drop_of_length_le (Nat.le_refl _), List.drop_of_length_le q, List.take_nil]
structure Nine (H : Hp) (c : Int) (Q : VK) : Prop where
  k : ∀ (r : V) (H' : Hp), Ext H H' → AxsT H' r false → Rp H' r → Q r H'
abbrev B_spAxesX  (l : Addr) (c : Int) (at' : Int) (H : Hp) (Q : VK) (E : XK) : Prop := ∃ axs : List (Int × Int), TupsAt H l (axL axs) ∧ Axes axs ∧ PcB axs ∧ 0 ≤ c ∧ c < 10 ^ 60 ∧ 0 ≤ at' ∧ (axs = [] ∨ at' < (axs.length : Int)) ∧ ∀ (r : V) (H' : Hp), Ext H H' → AxsT H' r false → Rp H' r → Q r H'
def spAxesX  : Sp := fun vs H Q E => ∃ (l : Addr) (c : Int) (at' : Int), vs = [.ref l, .int c, .int at'] ∧ (B_spAxesX  l c at' H Q E)
theorem c_spAxesX  (l : Addr) (c : Int) (at' : Int) (H : Hp) (Q : VK) (E : XK) : spAxesX  [.ref l, .int c, .int at'] H Q E = (B_spAxesX  l c at' H Q E) := spx3 (f := fun (l : Addr) (c : Int) (at' : Int) => [.ref l, .int c, .int at']) (fun _ _ _ _ _ _ h => by cases h; exact ⟨rfl, rfl, rfl⟩) l c at'
theorem l_spAxesX  {vs : List V} {H : Hp} {Q : VK} {E : XK} (h : spAxesX  vs H Q E) : vs.length = 3 := spl3 h fun _ _ _ => rfl
theorem ok__law_axes (T : Tx K mg t) : FnOk P w K mg base CX0 2 t.a__law_axes t.d__law_axes ["_law_axes_here", "_law_cell", "_law_at"] spAxesX := by
  have G__law_axis := ok__law_axis (P := P) (w := w) (base := base) T
  refine T.F__law_axes.ok c__law_axes (fun vs H Q E h => l_spAxesX h) (fun cdv A outer s H vs Q E hr h => ?_)
  · obtain ⟨l, c, at', rfl, axs, tl, hax, pb, c0, c1, i0, i1, k⟩ := h
    refine ⟨_, (@pss_cons _ _ _ _ _ (@ps_if _ _ _ _ _ _ _ _ (PW.pt (@pw_or _ _ _ _ _ _ _ (@pt_cmpRN _ _ _ _ _ _ _ _ (op_qEq hr.units) (@pe_op _ _ _ _ _ _ _ _ on_mod (@pvN _ 1 _ _ (by rfl) (by trivial) (by decide) (by decide)) (@pe_int _ _ _ _)) (@pe_int _ _ _ _) (nomark _)) (@pw_or1 _ _ _ _ (@pt_cmpRN _ _ _ _ _ _ _ _ (op_qEq hr.units) (@pvN _ 0 _ _ (by rfl) (by trivial) (by decide) (by decide)) (@pe_qLst _ _ _ _ (@pa_nil _)) (nomark _))))) (@pss_cons _ _ _ _ _ (@ps_set _ _ (3) _ _ _ _ c__law_axes.nd rfl (Or.inl rfl) (@pe_slice _ _ _ _ _ _ _ _ _ _ sl_n (@pe_op _ _ _ _ _ _ _ _ op_nCat (@pvN _ 0 _ _ (by rfl) (by trivial) (by decide) (by decide)) (@pe_qLst _ _ _ _ (@pa_c _ _ _ _ _ (@pe_qTup _ _ _ _ _ (@pa_c _ _ _ _ _ (@pe_int _ _ _ _) (@pa_c _ _ _ _ _ (@pe_int _ _ _ _) (@pa_nil _) (by rfl)) (by rfl))) (@pa_c _ _ _ _ _ (@pe_qTup _ _ _ _ _ (@pa_c _ _ _ _ _ (@pe_int _ _ _ _) (@pa_c _ _ _ _ _ (@pe_int _ _ _ _) (@pa_nil _) (by rfl)) (by rfl))) (@pa_c _ _ _ _ _ (@pe_qTup _ _ _ _ _ (@pa_c _ _ _ _ _ (@pe_int _ _ _ _) (@pa_c _ _ _ _ _ (@pe_int _ _ _ _) (@pa_nil _) (by rfl)) (by rfl))) (@pa_c _ _ _ _ _ (@pe_qTup _ _ _ _ _ (@pa_c _ _ _ _ _ (@pe_int _ _ _ _) (@pa_c _ _ _ _ _ (@pe_int _ _ _ _) (@pa_nil _) (by rfl)) (by rfl))) (@pa_c _ _ _ _ _ (@pe_qTup _ _ _ _ _ (@pa_c _ _ _ _ _ (@pe_int _ _ _ _) (@pa_c _ _ _ _ _ (@pe_int _ _ _ _) (@pa_nil _) (by rfl)) (by rfl))) (@pa_c _ _ _ _ _ (@pe_qTup _ _ _ _ _ (@pa_c _ _ _ _ _ (@pe_int _ _ _ _) (@pa_c _ _ _ _ _ (@pe_int _ _ _ _) (@pa_nil _) (by rfl)) (by rfl))) (@pa_c _ _ _ _ _ (@pe_qTup _ _ _ _ _ (@pa_c _ _ _ _ _ (@pe_int _ _ _ _) (@pa_c _ _ _ _ _ (@pe_int _ _ _ _) (@pa_nil _) (by rfl)) (by rfl))) (@pa_c _ _ _ _ _ (@pe_qTup _ _ _ _ _ (@pa_c _ _ _ _ _ (@pe_int _ _ _ _) (@pa_c _ _ _ _ _ (@pe_int _ _ _ _) (@pa_nil _) (by rfl)) (by rfl))) (@pa_c _ _ _ _ _ (@pe_qTup _ _ _ _ _ (@pa_c _ _ _ _ _ (@pe_int _ _ _ _) (@pa_c _ _ _ _ _ (@pe_int _ _ _ _) (@pa_nil _) (by rfl)) (by rfl))) (@pa_nil _) (by rfl)) (by rfl)) (by rfl)) (by rfl)) (by rfl)) (by rfl)) (by rfl)) (by rfl)) (by rfl)))) (@po_none _) (@po_some _ _ _ (@pe_int _ _ _ _))) (by rfl) (by trivial)) (@pss_cons _ _ _ _ _ (@ps_set _ _ (4) _ _ _ _ c__law_axes.nd rfl (Or.inl rfl) (@pe_qLst _ _ _ _ (@pa_c _ _ _ _ _ (@pe_callTy _ _ _ _ _ _ _ _ _ call_nTuple (by rfl) T.z_tuple (by decide +kernel) (@pa_c _ _ _ _ _ (@pvN _ 0 _ _ (by rfl) (by trivial) (by decide) (by decide)) (@pa_nil _) (by rfl)) (by decide) (by decide) (by rfl) (by rfl)) (@pa_c _ _ _ _ _ (@pe_non _ _ _) (@pa_c _ _ _ _ _ (@pvN _ 3 _ _ (by rfl) (by trivial) (by decide) (by decide)) (@pa_c _ _ _ _ _ (@pe_nDNew _ _) (@pa_c _ _ _ _ _ (@pe_int _ _ _ _) (@pa_c _ _ _ _ _ (@pe_str _ _ _ _) (@pa_c _ _ _ _ _ (@pe_callTy _ _ _ _ _ _ _ _ _ (call_qDicP rfl) (by rfl) T.z_dict (by decide +kernel) (@pa_c _ _ _ _ _ (@pvN _ 0 _ _ (by rfl) (by trivial) (by decide) (by decide)) (@pa_nil _) (by rfl)) (by decide) (by decide) (by rfl) (by rfl)) (@pa_c _ _ _ _ _ (@pe_qTup _ _ _ _ _ (@pa_nil _)) (@pa_c _ _ _ _ _ (@pe_op _ _ _ _ _ _ _ _ op_nCat (@pvN _ 3 _ _ (by rfl) (by trivial) (by decide) (by decide)) (@pe_qLst _ _ _ _ (@pa_c _ _ _ _ _ (@pe_qTup _ _ _ _ _ (@pa_c _ _ _ _ _ (@pe_int _ _ _ _) (@pa_c _ _ _ _ _ (@pe_int _ _ _ _) (@pa_nil _) (by rfl)) (by rfl))) (@pa_nil _) (by rfl)))) (@pa_nil _) (by rfl)) (by rfl)) (by rfl)) (by rfl)) (by rfl)) (by rfl)) (by rfl)) (by rfl)) (by rfl))) (by rfl) (by trivial)) (@pss_one _ _ _ (@ps_ret _ _ _ _ (@pe_ix _ _ _ _ _ _ _ ix_q (@pvN _ 4 _ _ (by rfl) (by trivial) (by decide) (by decide)) (@pe_op _ _ _ _ _ _ _ _ on_mod (@pe_op _ _ _ _ _ _ _ _ on_fdiv (@pvN _ 1 _ _ (by rfl) (by trivial) (by decide) (by decide)) (@pe_int _ _ _ _)) (@pe_int _ _ _ _)) (fun _ _ => rfl)))))) (@pss_nil _)) (@pss_one _ _ _ (@ps_ret _ _ _ _ (@pe_op _ _ _ _ _ _ _ _ op_nCat (@pe_op _ _ _ _ _ _ _ _ op_nCat (@pe_slice _ _ _ _ _ _ _ _ _ _ sl_n (@pvN _ 0 _ _ (by rfl) (by trivial) (by decide) (by decide)) (@po_none _) (@po_some _ _ _ (@pvN _ 2 _ _ (by rfl) (by trivial) (by decide) (by decide)))) (@pe_qLst _ _ _ _ (@pa_c _ _ _ _ _ (@pe_call _ _ _ _ _ _ _ _ _ _ _ _ _ _ _ _ G__law_axis (hr.mono (by decide)) (by rfl) T.m__law_axis T.F__law_axis.kp T.b__law_axis .nil pass0 (@pa_c _ _ _ _ _ (@pe_ix _ _ _ _ _ _ _ ix_q (@pvN _ 0 _ _ (by rfl) (by trivial) (by decide) (by decide)) (@pvN _ 2 _ _ (by rfl) (by trivial) (by decide) (by decide)) (fun _ _ => rfl)) (@pa_c _ _ _ _ _ (@pe_op _ _ _ _ _ _ _ _ on_fdiv (@pvN _ 1 _ _ (by rfl) (by trivial) (by decide) (by decide)) (@pe_int _ _ _ _)) (@pa_nil _) (by rfl)) (by rfl)) (by decide) (by rfl) (by rfl)) (@pa_nil _) (by rfl)))) (@pe_slice _ _ _ _ _ _ _ _ _ _ sl_n (@pvN _ 0 _ _ (by rfl) (by trivial) (by decide) (by decide)) (@po_some _ _ _ (@pe_op _ _ _ _ _ _ _ _ on_add (@pvN _ 2 _ _ (by rfl) (by trivial) (by decide) (by decide)) (@pe_int _ _ _ _))) (@po_none _)))))), ?_⟩
    rw [show start ["_law_axes_here", "_law_cell", "_law_at", "_law_nine", "_law_some"] [.ref l, .int c, .int at'] = [some (.ref l), some (.int c), some (.int at'), none, none] from rfl]
    clear G__law_axis
    have h8 := hax.1
    obtain ⟨ys, hl, al⟩ := tl
    have hyl : ys.length = axs.length := by rw [al.1]; unfold axL; rw [List.length_map]
    replace k : Nine H c Q := ⟨k⟩
    replace hyl := fun (_ : Unit) => hyl
    replace pb := fun (_ : Unit) => pb
    replace hax := fun (_ : Unit) => hax
    replace i1 := fun (_ : Unit) => i1
    replace al := fun (_ : Unit) => al
    have j0 := Int.emod_nonneg (c / 5) (show (9 : Int) ≠ 0 by decide)
    have j1 := Int.emod_lt_of_pos (c / 5) (show (0 : Int) < 9 by decide)
    by_cases hc : c % 5 = 0
    · clear i1
      simp! only [and_true]
      intro o0 J0 _ e0 ho0
      replace hl := e0.at hl
      have ee := e0
      clear e0
      simp! only [and_true]
      intro o1 J1 _ e1 ho1
      replace hl := e1.at hl
      replace ho0 := e1.at ho0
      replace ee := ee.trans e1
      clear e1
      simp! only [and_true]
      intro o2 J2 _ e2 ho2
      replace hl := e2.at hl
      replace ho0 := e2.at ho0
      replace ho1 := e2.at ho1
      replace ee := ee.trans e2
      clear e2
      simp! only [and_true]
      intro o3 J3 _ e3 ho3
      replace hl := e3.at hl
      replace ho0 := e3.at ho0
      replace ho1 := e3.at ho1
      replace ho2 := e3.at ho2
      replace ee := ee.trans e3
      clear e3
      simp! only [and_true]
      intro o4 J4 _ e4 ho4
      replace hl := e4.at hl
      replace ho0 := e4.at ho0
      replace ho1 := e4.at ho1
      replace ho2 := e4.at ho2
      replace ho3 := e4.at ho3
      replace ee := ee.trans e4
      clear e4
      simp! only [and_true]
      intro o5 J5 _ e5 ho5
      replace hl := e5.at hl
      replace ho0 := e5.at ho0
      replace ho1 := e5.at ho1
      replace ho2 := e5.at ho2
      replace ho3 := e5.at ho3
      replace ho4 := e5.at ho4
      replace ee := ee.trans e5
      clear e5
      simp! only [and_true]
      intro o6 J6 _ e6 ho6
      replace hl := e6.at hl
      replace ho0 := e6.at ho0
      replace ho1 := e6.at ho1
      replace ho2 := e6.at ho2
      replace ho3 := e6.at ho3
      replace ho4 := e6.at ho4
      replace ho5 := e6.at ho5
      replace ee := ee.trans e6
      clear e6
      simp! only [and_true]
      intro o7 J7 _ e7 ho7
      replace hl := e7.at hl
      replace ho0 := e7.at ho0
      replace ho1 := e7.at ho1
      replace ho2 := e7.at ho2
      replace ho3 := e7.at ho3
      replace ho4 := e7.at ho4
      replace ho5 := e7.at ho5
      replace ho6 := e7.at ho6
      replace ee := ee.trans e7
      clear e7
      simp! only [and_true]
      intro o8 J8 _ e8 ho8
      replace hl := e8.at hl
      replace ho0 := e8.at ho0
      replace ho1 := e8.at ho1
      replace ho2 := e8.at ho2
      replace ho3 := e8.at ho3
      replace ho4 := e8.at ho4
      replace ho5 := e8.at ho5
      replace ho6 := e8.at ho6
      replace ho7 := e8.at ho7
      replace ee := ee.trans e8
      clear e8
      simp! only [and_true]
      intro l1 J9 _ e9 hl1
      replace hl := e9.at hl
      replace ho0 := e9.at ho0
      replace ho1 := e9.at ho1
      replace ho2 := e9.at ho2
      replace ho3 := e9.at ho3
      replace ho4 := e9.at ho4
      replace ho5 := e9.at ho5
      replace ho6 := e9.at ho6
      replace ho7 := e9.at ho7
      replace ho8 := e9.at ho8
      replace ee := ee.trans e9
      clear e9
      simp! only [and_true]
      refine ⟨len5000 (by have := hyl (); omega), ?_⟩
      intro l2 J10 _ e10 hl2
      replace hl := e10.at hl
      replace ho0 := e10.at ho0
      replace ho1 := e10.at ho1
      replace ho2 := e10.at ho2
      replace ho3 := e10.at ho3
      replace ho4 := e10.at ho4
      replace ho5 := e10.at ho5
      replace ho6 := e10.at ho6
      replace ho7 := e10.at ho7
      replace ho8 := e10.at ho8
      replace hl1 := e10.at hl1
      replace ee := ee.trans e10
      clear e10
      have hm2 : ∀ y ∈ ys ++ [V.ref o0, V.ref o1, V.ref o2, V.ref o3, V.ref o4, V.ref o5, V.ref o6, V.ref o7, V.ref o8], Rn 4 1000 J10 y := fun y hy => by
        rcases List.mem_append.mp hy with hy | hy
        · exact Rn_ax ((al ()).imp fun _ _ z => TupV.ext z (ee)) (hax ()) (pb ()) y hy
        · simp only [List.mem_cons, List.not_mem_nil, or_false] at hy
          rcases hy with rfl | rfl | rfl | rfl | rfl | rfl | rfl | rfl | rfl
          · exact (Rn_tup ho0 (.cons (Rn_int (by decide)) (.cons (Rn_int (by decide)) .nil))).mono (by decide)
          · exact (Rn_tup ho1 (.cons (Rn_int (by decide)) (.cons (Rn_int (by decide)) .nil))).mono (by decide)
          · exact (Rn_tup ho2 (.cons (Rn_int (by decide)) (.cons (Rn_int (by decide)) .nil))).mono (by decide)
          · exact (Rn_tup ho3 (.cons (Rn_int (by decide)) (.cons (Rn_int (by decide)) .nil))).mono (by decide)
          · exact (Rn_tup ho4 (.cons (Rn_int (by decide)) (.cons (Rn_int (by decide)) .nil))).mono (by decide)
          · exact (Rn_tup ho5 (.cons (Rn_int (by decide)) (.cons (Rn_int (by decide)) .nil))).mono (by decide)
          · exact (Rn_tup ho6 (.cons (Rn_int (by decide)) (.cons (Rn_int (by decide)) .nil))).mono (by decide)
          · exact (Rn_tup ho7 (.cons (Rn_int (by decide)) (.cons (Rn_int (by decide)) .nil))).mono (by decide)
          · exact (Rn_tup ho8 (.cons (Rn_int (by decide)) (.cons (Rn_int (by decide)) .nil))).mono (by decide)
      clear ho0 ho1 ho2 ho3 ho4 ho5 ho6 ho7 ho8 hl1
      simp! only [and_true]
      intro l3 J11 _ e11 hl3
      replace hl := e11.at hl
      replace hl2 := e11.at hl2
      replace ee := ee.trans e11
      replace hm2 := fun y hy => (hm2 y (List.mem_of_mem_take (i := 9) hy)).ext e11
      clear e11
      rw [cut_to _ _ (by decide), show (9 : Int).toNat = 9 from rfl] at hl3
      have hl9 : ((ys ++ [V.ref o0, V.ref o1, V.ref o2, V.ref o3, V.ref o4, V.ref o5, V.ref o6, V.ref o7, V.ref o8]).take 9).length = 9 := by rw [List.length_take, List.length_append]; show min 9 (_ + 9) = 9; omega
      generalize (ys ++ [V.ref o0, V.ref o1, V.ref o2, V.ref o3, V.ref o4, V.ref o5, V.ref o6, V.ref o7, V.ref o8]).take 9 = ns at hl3 hm2 hl9
      clear hl2
      replace hl9 := fun (_ : Unit) => hl9
      replace hm2 := fun (_ : Unit) => hm2
      simp! only [and_true]
      intro t1 J12 _ e12 ht1
      replace hl := e12.at hl
      replace hl3 := e12.at hl3
      replace ee := ee.trans e12
      have eb := e12
      clear e12
      simp! only [and_true]
      intro d1 J13 _ e13 hd1
      replace hl := e13.at hl
      replace hl3 := e13.at hl3
      replace ht1 := e13.at ht1
      replace ee := ee.trans e13
      replace eb := eb.trans e13
      clear e13
      simp! only [and_true]
      refine use_dicP (A := axs) ⟨ys, hl, (al ()).imp fun _ _ z => TupV.ext z (ee)⟩ (by omega) ?_
      intro d2 kvs J14 _ e14 hd2 _ hkl hkm
      replace hl := e14.at hl
      replace hl3 := e14.at hl3
      replace ht1 := e14.at ht1
      replace hd1 := e14.at hd1
      replace ee := ee.trans e14
      replace eb := eb.trans e14
      clear e14
      replace hkl := fun (_ : Unit) => hkl
      replace hkm := fun (_ : Unit) => hkm
      simp! only [and_true]
      intro t2 J15 _ e15 ht2
      replace hl := e15.at hl
      replace hl3 := e15.at hl3
      replace ht1 := e15.at ht1
      replace hd1 := e15.at hd1
      replace hd2 := e15.at hd2
      replace ee := ee.trans e15
      replace eb := eb.trans e15
      clear e15
      simp! only [and_true]
      intro o9 J16 _ e16 ho9
      replace hl := e16.at hl
      replace hl3 := e16.at hl3
      replace ht1 := e16.at ht1
      replace hd1 := e16.at hd1
      replace hd2 := e16.at hd2
      replace ht2 := e16.at ht2
      replace ee := ee.trans e16
      replace eb := eb.trans e16
      clear e16
      simp! only [and_true]
      intro l4 J17 _ e17 hl4
      replace hl := e17.at hl
      replace hl3 := e17.at hl3
      replace ht1 := e17.at ht1
      replace hd1 := e17.at hd1
      replace hd2 := e17.at hd2
      replace ht2 := e17.at ht2
      replace ho9 := e17.at ho9
      replace ee := ee.trans e17
      replace eb := eb.trans e17
      clear e17
      simp! only [and_true]
      refine ⟨len5000 (by have := hl9 (); omega), ?_⟩
      intro l5 J18 _ e18 hl5
      replace hl := e18.at hl
      replace hl3 := e18.at hl3
      replace ht1 := e18.at ht1
      replace hd1 := e18.at hd1
      replace hd2 := e18.at hd2
      replace ht2 := e18.at ht2
      replace ho9 := e18.at ho9
      replace hl4 := e18.at hl4
      replace ee := ee.trans e18
      replace eb := eb.trans e18
      clear e18
      simp! only [and_true]
      intro l6 J19 _ e19 hl6
      replace hl := e19.at hl
      replace hl3 := e19.at hl3
      replace ht1 := e19.at ht1
      replace hd1 := e19.at hd1
      replace hd2 := e19.at hd2
      replace ht2 := e19.at ht2
      replace ho9 := e19.at ho9
      replace hl4 := e19.at hl4
      replace hl5 := e19.at hl5
      replace ee := ee.trans e19
      replace eb := eb.trans e19
      clear e19
      simp! only [and_true]
      generalize c / 5 % 9 = j at j0 j1 ⊢
      obtain ⟨n, rfl⟩ := Int.eq_ofNat_of_zero_le j0
      have hn : n < 9 := by omega
      have k2 := fun r => k.k r J19 ee
      have alJ := (al ()).imp fun _ _ z => TupV.ext z ee
      have am := Rn_ax alJ (hax ()) (pb ())
      have nm := fun y hy => (hm2 () y hy).ext eb
      clear k
      match n, hn with
      | 0, _ => exact k2 _ (.inr ⟨rfl, .inr (.inr (.inr (.inl ⟨_, _, rfl, ht1⟩)))⟩) ((Rn_tup ht1 (.of am)).rp (by have := hyl (); omega))
      | 1, _ => exact k2 _ (.inr ⟨rfl, .inl rfl⟩) ((Rn_non (n := 4)).rp (by decide))
      | 2, _ => exact k2 _ (.inr ⟨rfl, .inr (.inr (.inr (.inr (.inr ⟨_, _, rfl, hl3, by have := hl9 (); omega, by have := hl9 (); omega⟩))))⟩) ((Rn_lst hl3 (.of nm)).rp (by have := hl9 (); omega))
      | 3, _ => exact k2 _ (.inr ⟨rfl, .inr (.inr (.inr (.inr (.inl ⟨_, _, rfl, hd1⟩))))⟩) (Rp_dk0 hd1)
      | 4, _ => exact k2 _ (.inr ⟨rfl, .inr (.inl ⟨_, rfl⟩)⟩) ((Rn_int (n := 4) (by decide)).rp (by decide))
      | 5, _ => exact k2 _ (.inr ⟨rfl, .inr (.inr (.inl ⟨_, rfl⟩))⟩) ((Rn_str0 (n := 4)).rp (by decide))
      | 6, _ => exact k2 _ (.inr ⟨rfl, .inr (.inr (.inr (.inr (.inl ⟨_, _, rfl, hd2⟩))))⟩) (Rp_dict hd2 (hax ()) (pb ()) (by have := hkl (); omega) (hkm ()))
      | 7, _ => exact k2 _ (.inr ⟨rfl, .inr (.inr (.inr (.inl ⟨_, _, rfl, ht2⟩)))⟩) ((Rn_tup (n := 4) ht2 .nil).rp (by decide))
      | 8, _ =>
        have hl10 : (ns ++ [V.ref o9]).length = 10 := by rw [List.length_append, hl9 ()]; rfl
        refine k2 _ (.inr ⟨rfl, .inr (.inr (.inr (.inr (.inr ⟨_, _, rfl, hl5, by omega, by omega⟩))))⟩) ((Rn_lst hl5 (.of (w := 1000) fun y hy => ?_)).rp (by omega))
        rcases List.mem_append.mp hy with hy | hy
        · exact nm y hy
        · rw [List.mem_singleton.mp hy]; exact (Rn_tup ho9 (.cons (Rn_int (by decide)) (.cons (Rn_int (by decide)) .nil))).mono (by decide)
      | n + 9, h => exact absurd h (by omega)
    · simp! only [and_true]
      intro r0 H0 _ e00 h0
      have hl0 := e00.at hl
      have al0 := (al ()).imp fun _ _ z => TupV.ext z e00
      have d1 := tups_all (H := H0) (f := datF H0 (datF H0 (datF H0 noD))) al0
      have d3 : PyData.eqvAll ((axL axs).map fun z => PyData.tuple (z.map PyData.int)) [] = decide (axL axs = []) := tups_eqv' _ []
      clear hl al0
      by_cases hz : axs = []
      · rw [decide_eq_true (by rw [hz]; rfl)] at d3
        clear hz i1
        have hl := hl0
        clear hl0
        simp! only [and_true]
        intro o0 J0 _ e0 ho0
        replace hl := e0.at hl
        have ee := e0
        clear e0
        simp! only [and_true]
        intro o1 J1 _ e1 ho1
        replace hl := e1.at hl
        replace ho0 := e1.at ho0
        replace ee := ee.trans e1
        clear e1
        simp! only [and_true]
        intro o2 J2 _ e2 ho2
        replace hl := e2.at hl
        replace ho0 := e2.at ho0
        replace ho1 := e2.at ho1
        replace ee := ee.trans e2
        clear e2
        simp! only [and_true]
        intro o3 J3 _ e3 ho3
        replace hl := e3.at hl
        replace ho0 := e3.at ho0
        replace ho1 := e3.at ho1
        replace ho2 := e3.at ho2
        replace ee := ee.trans e3
        clear e3
        simp! only [and_true]
        intro o4 J4 _ e4 ho4
        replace hl := e4.at hl
        replace ho0 := e4.at ho0
        replace ho1 := e4.at ho1
        replace ho2 := e4.at ho2
        replace ho3 := e4.at ho3
        replace ee := ee.trans e4
        clear e4
        simp! only [and_true]
        intro o5 J5 _ e5 ho5
        replace hl := e5.at hl
        replace ho0 := e5.at ho0
        replace ho1 := e5.at ho1
        replace ho2 := e5.at ho2
        replace ho3 := e5.at ho3
        replace ho4 := e5.at ho4
        replace ee := ee.trans e5
        clear e5
        simp! only [and_true]
        intro o6 J6 _ e6 ho6
        replace hl := e6.at hl
        replace ho0 := e6.at ho0
        replace ho1 := e6.at ho1
        replace ho2 := e6.at ho2
        replace ho3 := e6.at ho3
        replace ho4 := e6.at ho4
        replace ho5 := e6.at ho5
        replace ee := ee.trans e6
        clear e6
        simp! only [and_true]
        intro o7 J7 _ e7 ho7
        replace hl := e7.at hl
        replace ho0 := e7.at ho0
        replace ho1 := e7.at ho1
        replace ho2 := e7.at ho2
        replace ho3 := e7.at ho3
        replace ho4 := e7.at ho4
        replace ho5 := e7.at ho5
        replace ho6 := e7.at ho6
        replace ee := ee.trans e7
        clear e7
        simp! only [and_true]
        intro o8 J8 _ e8 ho8
        replace hl := e8.at hl
        replace ho0 := e8.at ho0
        replace ho1 := e8.at ho1
        replace ho2 := e8.at ho2
        replace ho3 := e8.at ho3
        replace ho4 := e8.at ho4
        replace ho5 := e8.at ho5
        replace ho6 := e8.at ho6
        replace ho7 := e8.at ho7
        replace ee := ee.trans e8
        clear e8
        simp! only [and_true]
        intro l1 J9 _ e9 hl1
        replace hl := e9.at hl
        replace ho0 := e9.at ho0
        replace ho1 := e9.at ho1
        replace ho2 := e9.at ho2
        replace ho3 := e9.at ho3
        replace ho4 := e9.at ho4
        replace ho5 := e9.at ho5
        replace ho6 := e9.at ho6
        replace ho7 := e9.at ho7
        replace ho8 := e9.at ho8
        replace ee := ee.trans e9
        clear e9
        simp! only [and_true]
        refine ⟨len5000 (by have := hyl (); omega), ?_⟩
        intro l2 J10 _ e10 hl2
        replace hl := e10.at hl
        replace ho0 := e10.at ho0
        replace ho1 := e10.at ho1
        replace ho2 := e10.at ho2
        replace ho3 := e10.at ho3
        replace ho4 := e10.at ho4
        replace ho5 := e10.at ho5
        replace ho6 := e10.at ho6
        replace ho7 := e10.at ho7
        replace ho8 := e10.at ho8
        replace hl1 := e10.at hl1
        replace ee := ee.trans e10
        clear e10
        have hm2 : ∀ y ∈ ys ++ [V.ref o0, V.ref o1, V.ref o2, V.ref o3, V.ref o4, V.ref o5, V.ref o6, V.ref o7, V.ref o8], Rn 4 1000 J10 y := fun y hy => by
          rcases List.mem_append.mp hy with hy | hy
          · exact Rn_ax ((al ()).imp fun _ _ z => TupV.ext z (e00.trans ee)) (hax ()) (pb ()) y hy
          · simp only [List.mem_cons, List.not_mem_nil, or_false] at hy
            rcases hy with rfl | rfl | rfl | rfl | rfl | rfl | rfl | rfl | rfl
            · exact (Rn_tup ho0 (.cons (Rn_int (by decide)) (.cons (Rn_int (by decide)) .nil))).mono (by decide)
            · exact (Rn_tup ho1 (.cons (Rn_int (by decide)) (.cons (Rn_int (by decide)) .nil))).mono (by decide)
            · exact (Rn_tup ho2 (.cons (Rn_int (by decide)) (.cons (Rn_int (by decide)) .nil))).mono (by decide)
            · exact (Rn_tup ho3 (.cons (Rn_int (by decide)) (.cons (Rn_int (by decide)) .nil))).mono (by decide)
            · exact (Rn_tup ho4 (.cons (Rn_int (by decide)) (.cons (Rn_int (by decide)) .nil))).mono (by decide)
            · exact (Rn_tup ho5 (.cons (Rn_int (by decide)) (.cons (Rn_int (by decide)) .nil))).mono (by decide)
            · exact (Rn_tup ho6 (.cons (Rn_int (by decide)) (.cons (Rn_int (by decide)) .nil))).mono (by decide)
            · exact (Rn_tup ho7 (.cons (Rn_int (by decide)) (.cons (Rn_int (by decide)) .nil))).mono (by decide)
            · exact (Rn_tup ho8 (.cons (Rn_int (by decide)) (.cons (Rn_int (by decide)) .nil))).mono (by decide)
        clear ho0 ho1 ho2 ho3 ho4 ho5 ho6 ho7 ho8 hl1
        simp! only [and_true]
        intro l3 J11 _ e11 hl3
        replace hl := e11.at hl
        replace hl2 := e11.at hl2
        replace ee := ee.trans e11
        replace hm2 := fun y hy => (hm2 y (List.mem_of_mem_take (i := 9) hy)).ext e11
        clear e11
        rw [cut_to _ _ (by decide), show (9 : Int).toNat = 9 from rfl] at hl3
        have hl9 : ((ys ++ [V.ref o0, V.ref o1, V.ref o2, V.ref o3, V.ref o4, V.ref o5, V.ref o6, V.ref o7, V.ref o8]).take 9).length = 9 := by rw [List.length_take, List.length_append]; show min 9 (_ + 9) = 9; omega
        generalize (ys ++ [V.ref o0, V.ref o1, V.ref o2, V.ref o3, V.ref o4, V.ref o5, V.ref o6, V.ref o7, V.ref o8]).take 9 = ns at hl3 hm2 hl9
        clear hl2
        replace hl9 := fun (_ : Unit) => hl9
        replace hm2 := fun (_ : Unit) => hm2
        simp! only [and_true]
        intro t1 J12 _ e12 ht1
        replace hl := e12.at hl
        replace hl3 := e12.at hl3
        replace ee := ee.trans e12
        have eb := e12
        clear e12
        simp! only [and_true]
        intro d1 J13 _ e13 hd1
        replace hl := e13.at hl
        replace hl3 := e13.at hl3
        replace ht1 := e13.at ht1
        replace ee := ee.trans e13
        replace eb := eb.trans e13
        clear e13
        simp! only [and_true]
        refine use_dicP (A := axs) ⟨ys, hl, (al ()).imp fun _ _ z => TupV.ext z (e00.trans ee)⟩ (by omega) ?_
        intro d2 kvs J14 _ e14 hd2 _ hkl hkm
        replace hl := e14.at hl
        replace hl3 := e14.at hl3
        replace ht1 := e14.at ht1
        replace hd1 := e14.at hd1
        replace ee := ee.trans e14
        replace eb := eb.trans e14
        clear e14
        replace hkl := fun (_ : Unit) => hkl
        replace hkm := fun (_ : Unit) => hkm
        simp! only [and_true]
        intro t2 J15 _ e15 ht2
        replace hl := e15.at hl
        replace hl3 := e15.at hl3
        replace ht1 := e15.at ht1
        replace hd1 := e15.at hd1
        replace hd2 := e15.at hd2
        replace ee := ee.trans e15
        replace eb := eb.trans e15
        clear e15
        simp! only [and_true]
        intro o9 J16 _ e16 ho9
        replace hl := e16.at hl
        replace hl3 := e16.at hl3
        replace ht1 := e16.at ht1
        replace hd1 := e16.at hd1
        replace hd2 := e16.at hd2
        replace ht2 := e16.at ht2
        replace ee := ee.trans e16
        replace eb := eb.trans e16
        clear e16
        simp! only [and_true]
        intro l4 J17 _ e17 hl4
        replace hl := e17.at hl
        replace hl3 := e17.at hl3
        replace ht1 := e17.at ht1
        replace hd1 := e17.at hd1
        replace hd2 := e17.at hd2
        replace ht2 := e17.at ht2
        replace ho9 := e17.at ho9
        replace ee := ee.trans e17
        replace eb := eb.trans e17
        clear e17
        simp! only [and_true]
        refine ⟨len5000 (by have := hl9 (); omega), ?_⟩
        intro l5 J18 _ e18 hl5
        replace hl := e18.at hl
        replace hl3 := e18.at hl3
        replace ht1 := e18.at ht1
        replace hd1 := e18.at hd1
        replace hd2 := e18.at hd2
        replace ht2 := e18.at ht2
        replace ho9 := e18.at ho9
        replace hl4 := e18.at hl4
        replace ee := ee.trans e18
        replace eb := eb.trans e18
        clear e18
        simp! only [and_true]
        intro l6 J19 _ e19 hl6
        replace hl := e19.at hl
        replace hl3 := e19.at hl3
        replace ht1 := e19.at ht1
        replace hd1 := e19.at hd1
        replace hd2 := e19.at hd2
        replace ht2 := e19.at ht2
        replace ho9 := e19.at ho9
        replace hl4 := e19.at hl4
        replace hl5 := e19.at hl5
        replace ee := ee.trans e19
        replace eb := eb.trans e19
        clear e19
        simp! only [and_true]
        generalize c / 5 % 9 = j at j0 j1 ⊢
        obtain ⟨n, rfl⟩ := Int.eq_ofNat_of_zero_le j0
        have hn : n < 9 := by omega
        have k2 := fun r => k.k r J19 (e00.trans ee)
        have alJ := (al ()).imp fun _ _ z => TupV.ext z (e00.trans ee)
        have am := Rn_ax alJ (hax ()) (pb ())
        have nm := fun y hy => (hm2 () y hy).ext eb
        clear k
        match n, hn with
        | 0, _ => exact k2 _ (.inr ⟨rfl, .inr (.inr (.inr (.inl ⟨_, _, rfl, ht1⟩)))⟩) ((Rn_tup ht1 (.of am)).rp (by have := hyl (); omega))
        | 1, _ => exact k2 _ (.inr ⟨rfl, .inl rfl⟩) ((Rn_non (n := 4)).rp (by decide))
        | 2, _ => exact k2 _ (.inr ⟨rfl, .inr (.inr (.inr (.inr (.inr ⟨_, _, rfl, hl3, by have := hl9 (); omega, by have := hl9 (); omega⟩))))⟩) ((Rn_lst hl3 (.of nm)).rp (by have := hl9 (); omega))
        | 3, _ => exact k2 _ (.inr ⟨rfl, .inr (.inr (.inr (.inr (.inl ⟨_, _, rfl, hd1⟩))))⟩) (Rp_dk0 hd1)
        | 4, _ => exact k2 _ (.inr ⟨rfl, .inr (.inl ⟨_, rfl⟩)⟩) ((Rn_int (n := 4) (by decide)).rp (by decide))
        | 5, _ => exact k2 _ (.inr ⟨rfl, .inr (.inr (.inl ⟨_, rfl⟩))⟩) ((Rn_str0 (n := 4)).rp (by decide))
        | 6, _ => exact k2 _ (.inr ⟨rfl, .inr (.inr (.inr (.inr (.inl ⟨_, _, rfl, hd2⟩))))⟩) (Rp_dict hd2 (hax ()) (pb ()) (by have := hkl (); omega) (hkm ()))
        | 7, _ => exact k2 _ (.inr ⟨rfl, .inr (.inr (.inr (.inl ⟨_, _, rfl, ht2⟩)))⟩) ((Rn_tup (n := 4) ht2 .nil).rp (by decide))
        | 8, _ =>
          have hl10 : (ns ++ [V.ref o9]).length = 10 := by rw [List.length_append, hl9 ()]; rfl
          refine k2 _ (.inr ⟨rfl, .inr (.inr (.inr (.inr (.inr ⟨_, _, rfl, hl5, by omega, by omega⟩))))⟩) ((Rn_lst hl5 (.of (w := 1000) fun y hy => ?_)).rp (by omega))
          rcases List.mem_append.mp hy with hy | hy
          · exact nm y hy
          · rw [List.mem_singleton.mp hy]; exact (Rn_tup ho9 (.cons (Rn_int (by decide)) (.cons (Rn_int (by decide)) .nil))).mono (by decide)
        | n + 9, h => exact absurd h (by omega)
      · rw [decide_eq_false (fun h => hz (by unfold axL at h; exact List.map_eq_nil_iff.mp h))] at d3
        have hat1 : at' < (axs.length : Int) := by rcases i1 () with h | h; exact absurd h hz; exact h
        obtain ⟨n, rfl⟩ := Int.eq_ofNat_of_zero_le i0
        have hn : n < ys.length := by have := hyl (); omega
        obtain ⟨ax, q, g1, g2, g3⟩ := al_ax (al ()) (List.getElem?_eq_getElem hn)
        have hat : atI ys (n : Int) = some (.ref q) := atI_nat (by rw [List.getElem?_eq_getElem hn, g2])
        have b1 := (hax ()).2 _ (List.mem_of_getElem? g1)
        have b2 := (pb ()) _ (List.mem_of_getElem? g1)
        replace g3 := e00.at g3
        clear hz i1 g1 g2
        simp! only [and_true]
        intro r1 H1 _ e1 h1
        rw [cut_to _ _ (by omega), Int.toNat_natCast] at h1
        replace hl0 := e1.at hl0
        replace g3 := e1.at g3
        clear d1 d3
        simp! only [and_true]
        rw [c_spAxisX]
        refine ⟨ax, g3, b1.1, b1.2, b2.1, b2.2, by omega, by omega, fun r H2 e2 hr2 rr2 => ?_⟩
        replace hl0 := e2.at hl0
        replace h1 := e2.at h1
        clear hat g3
        simp! only [and_true]
        intro r3 H3 _ e3 h3
        replace hl0 := e3.at hl0
        replace h1 := e3.at h1
        refine use_cat h1 h3 (len5000 (by have := hyl (); rw [List.length_take]; show _ + 1 ≤ 5000; omega)) ?_
        intro r4 H4 _ e4 h4
        replace hl0 := e4.at hl0
        clear h1 h3
        simp! only [and_true]
        intro r5 H5 _ e5 h5
        rw [cut_from _ _ (by omega), show ((n : Int) + 1).toNat = n + 1 by omega] at h5
        replace h4 := e5.at h4
        clear hl0
        refine use_cat h4 h5 (len5000 (by have := hyl (); rw [List.length_append, List.length_take, List.length_drop]; show _ + 1 + _ ≤ 5000; omega)) ?_
        intro r6 H6 _ e6 h6
        have e26 := e3.trans (e4.trans (e5.trans e6))
        have e06 := e00.trans (e1.trans (e2.trans e26))
        have al6 := (al ()).imp fun _ _ z => TupV.ext z e06
        exact k.k _ H6 e06 (AxsT_spoilt al6 (hax ()) (hr2.ext e26) hn h6) (Rp_spoilt al6 (hax ()) (pb ()) (rr2.ext e26) hn h6)
theorem leastL_le : ∀ {axs : List (Int × Int)}, leastL axs ≤ 0 ∧ 0 ≤ greatL axs
  | [] => ⟨Int.le_refl _, Int.le_refl _⟩
  | a :: r => by
    obtain ⟨h1, h2⟩ := leastL_le (axs := r)
    rw [leastL_cons, greatL_cons]
    omega
theorem span_mem : ∀ {axs : List (Int × Int)} {a : Int × Int}, a ∈ axs → leastL axs ≤ (a.1 - 1) * a.2 ∧ (a.1 - 1) * a.2 ≤ greatL axs
  | b :: r, a, h => by
    obtain ⟨h1, h2⟩ := leastL_le (axs := r)
    rw [leastL_cons, greatL_cons]
    rcases List.mem_cons.mp h with rfl | h
    · omega
    · have := span_mem h
      omega
theorem pcB_of {room first : Int} {axs : List (Int × Int)} (v : ViewOk room first axs) (hk : Kept axs) : PcB axs := fun a ha => by
  have hl := v.lo
  have hh := v.hi
  have h2 := v.r2
  rw [hk.eq v.ax] at hl hh
  have hs := span_mem ha
  have hb := v.ax.2 a ha
  have hz := leastL_le (axs := axs)
  by_cases e : a.1 = 1
  · rw [hk a ha e]; omega
  · have b1 : 1 ≤ a.1 - 1 := by omega
    obtain ⟨x, hx⟩ : ∃ x, (a.1 - 1) * a.2 = x := ⟨_, rfl⟩
    rw [hx] at hs
    by_cases hp : 0 ≤ a.2
    · have := Int.mul_le_mul b1 (Int.le_refl a.2) hp (by omega)
      omega
    · have := Int.mul_le_mul b1 (Int.le_refl (-a.2)) (by omega) (by omega)
      rw [Int.mul_neg, Int.mul_neg, hx] at this
      omega
structure GoodP (room first least : Int) (axs : List (Int × Int)) : Prop where
  ok : ViewOk room first axs
  kp : Kept axs
  rm : room = first + greatL axs + 1
  le : least = first + leastL axs
theorem GoodP.b {room first least : Int} {axs : List (Int × Int)} (h : GoodP room first least axs) : 0 ≤ first ∧ first ≤ 1000000000000000000 ∧ 0 ≤ least ∧ least ≤ first ∧ 1 ≤ room ∧ room ≤ 1000000000000000000 := by
  have h1 := h.ok.lo
  have h2 := h.ok.hi
  rw [h.kp.eq h.ok.ax] at h1 h2
  have h3 := h.ok.r2
  have h4 := h.ok.r1
  have h5 := leastL_le (axs := axs)
  have h6 := h.le
  omega
def spSpoilt (K : PySem.W.Frag) (a : Addr) (ns : List Int) : Sp := fun vs H Q E => ∃ (p : Addr) (k : Int) (q : Addr) (least : Int), vs = [.ref p, .int k, .ref q, .int least] ∧ (p = a ∧ SqL K H a (ns.map V.int) ∧ ns.length ≤ 63 ∧ 0 ≤ k ∧ k < 7 ∧ ∃ (room first : Int) (l : Addr) (axs : List (Int × Int)), H q = some (.tup [.int room, .int first, .ref l]) ∧ TupsAt H l (axL axs) ∧ GoodP room first least axs ∧ ∀ (r : Addr) (x y z : V) (H' : Hp), Ext H H' → H' r = some (.tup [x, y, z]) → VBad H' x y z → Rp H' x → Rp H' y → Rp H' z → Q (.ref r) H')
theorem c_spSpoilt (K : PySem.W.Frag) (a : Addr) (ns : List Int) (p : Addr) (k : Int) (q : Addr) (least : Int) (H : Hp) (Q : VK) (E : XK) : spSpoilt K a ns [.ref p, .int k, .ref q, .int least] H Q E = (p = a ∧ SqL K H a (ns.map V.int) ∧ ns.length ≤ 63 ∧ 0 ≤ k ∧ k < 7 ∧ ∃ (room first : Int) (l : Addr) (axs : List (Int × Int)), H q = some (.tup [.int room, .int first, .ref l]) ∧ TupsAt H l (axL axs) ∧ GoodP room first least axs ∧ ∀ (r : Addr) (x y z : V) (H' : Hp), Ext H H' → H' r = some (.tup [x, y, z]) → VBad H' x y z → Rp H' x → Rp H' y → Rp H' z → Q (.ref r) H') := spx4 (f := fun (p : Addr) (k : Int) (q : Addr) (least : Int) => [.ref p, .int k, .ref q, .int least]) (fun _ _ _ _ _ _ _ _ h => by cases h; exact ⟨rfl, rfl, rfl, rfl⟩) p k q least
theorem l_spSpoilt (K : PySem.W.Frag) (a : Addr) (ns : List Int) {vs : List V} {H : Hp} {Q : VK} {E : XK} (h : spSpoilt K a ns vs H Q E) : vs.length = 4 := spl4 h fun _ _ _ _ => rfl
theorem Rp_axs {H : Hp} {l : Addr} {axs : List (Int × Int)} (tl : TupsAt H l (axL axs)) (hax : Axes axs) (pb : PcB axs) : Rp H (.ref l) := by
  obtain ⟨ys, hl, al⟩ := tl
  have hyl : ys.length = axs.length := by rw [al.1]; unfold axL; rw [List.length_map]
  have := hax.1
  exact (Rn_lst hl (RnA.of (Rn_ax al hax pb))).rp (by omega)
theorem Rp.ext {H H' : Hp} {x : V} (h : Rp H x) (e : Ext H H') : Rp H' x := by
  obtain ⟨d, h1, h2⟩ := h
  refine ⟨d, ?_, h2⟩
  cases x with
  | ref p =>
    have h1' : (match H p with | some (.dK kvs) => (allSome (kvs.map dkP)).map PyData.dict | _ => datV H 5 (.ref p)) = some d := h1
    show (match H' p with | some (.dK kvs) => (allSome (kvs.map dkP)).map PyData.dict | _ => datV H' 5 (.ref p)) = some d
    cases e1 : H p with
    | none =>
      rw [e1] at h1'
      have h2' : datV H 5 (.ref p) = some d := h1'
      rw [m_datV_ref, e1] at h2'
      cases h2'
    | some ob =>
      rw [e.at e1]
      rw [e1] at h1'
      cases ob with
      | dK kvs => exact h1'
      | _ => exact datV_ext e 5 _ d h1'
  | _ => exact datV_ext e 5 _ d h1
theorem ok__law_spoilt (T : Tx K mg t) (a : Addr) (ns : List Int) : FnOk P w K mg base CX0 3 t.a__law_spoilt t.d__law_spoilt ["_law_script", "_law_k", "_law_parts", "_law_least"] (spSpoilt K a ns) := by
  have G__law_draw := ok__law_draw (P := P) (w := w) (base := base) T a ns
  have G__law_room := ok__law_room (P := P) (w := w) (base := base) T
  have G__law_first := ok__law_first (P := P) (w := w) (base := base) T
  have G__law_axes := ok__law_axes (P := P) (w := w) (base := base) T
  refine T.F__law_spoilt.ok c__law_spoilt (fun vs H Q E h => l_spSpoilt _ _ _ h) (fun cdv A outer s H vs Q E hr h => ?_)
  · obtain ⟨_, k, q, least, rfl, rfl, hS, hl, k0, k1, room, first, l, axs, hq, tl, gp, kk⟩ := h
    rename_i a
    refine ⟨_, (@pss_cons _ _ _ _ _ (@ps_asg _ _ _ _ _ _ (@pvN _ 2 _ _ (by rfl) (by trivial) (by decide) (by decide)) ((@pg_tup _ _ _ _ _ (3) rfl (@pgs_consN _ _ _ _ _ (@pg_name _ _ (4) _ c__law_spoilt.nd rfl (Or.inl rfl) (by trivial)) (@pgs_consN _ _ _ _ _ (@pg_name _ _ (5) _ c__law_spoilt.nd rfl (Or.inl rfl) (by trivial)) (@pgs_consN _ _ _ _ _ (@pg_name _ _ (6) _ c__law_spoilt.nd rfl (Or.inl rfl) (by trivial)) (@pgs_nilN _) (by rfl)) (by rfl)) (by rfl)) (by rfl) (by rfl)).mono fun _ _ _ _ h => gTup_q h) (by rfl) (by rfl) (by rfl)) (@pss_cons _ _ _ _ _ (@ps_set _ _ (7) _ _ _ _ c__law_spoilt.nd rfl (Or.inl rfl) (@pe_call _ _ _ _ _ _ _ _ _ _ _ _ _ _ _ _ G__law_draw (hr.mono (by decide)) (by rfl) T.m__law_draw T.F__law_draw.kp T.b__law_draw .nil pass0 (@pa_c _ _ _ _ _ (@pvN _ 0 _ _ (by rfl) (by trivial) (by decide) (by decide)) (@pa_c _ _ _ _ _ (@pe_op _ _ _ _ _ _ _ _ on_add (@pe_int _ _ _ _) (@pe_op _ _ _ _ _ _ _ _ on_mul (@pe_int _ _ _ _) (@pvN _ 1 _ _ (by rfl) (by trivial) (by decide) (by decide)))) (@pa_c _ _ _ _ _ (@pe_op _ _ _ _ _ _ _ _ on_pow (@pe_int _ _ _ _) (@pe_int _ _ _ _)) (@pa_nil _) (by rfl)) (by rfl)) (by rfl)) (by decide) (by rfl) (by rfl)) (by rfl) (by trivial)) (@pss_cons _ _ _ _ _ (@ps_set _ _ (8) _ _ _ _ c__law_spoilt.nd rfl (Or.inl rfl) (@pe_call _ _ _ _ _ _ _ _ _ _ _ _ _ _ _ _ G__law_draw (hr.mono (by decide)) (by rfl) T.m__law_draw T.F__law_draw.kp T.b__law_draw .nil pass0 (@pa_c _ _ _ _ _ (@pvN _ 0 _ _ (by rfl) (by trivial) (by decide) (by decide)) (@pa_c _ _ _ _ _ (@pe_op _ _ _ _ _ _ _ _ on_add (@pe_int _ _ _ _) (@pe_op _ _ _ _ _ _ _ _ on_mul (@pe_int _ _ _ _) (@pvN _ 1 _ _ (by rfl) (by trivial) (by decide) (by decide)))) (@pa_c _ _ _ _ _ (@pe_int _ _ _ _) (@pa_nil _) (by rfl)) (by rfl)) (by rfl)) (by decide) (by rfl) (by rfl)) (by rfl) (by trivial)) (@pss_cons _ _ _ _ _ (@ps_if _ _ _ _ _ _ _ _ (@pt_cmpRN _ _ _ _ _ _ _ _ (op_qEq hr.units) (@pvN _ 8 _ _ (by rfl) (by trivial) (by decide) (by decide)) (@pe_int _ _ _ _) (nomark _)) (@pss_one _ _ _ (@ps_ret _ _ _ _ (@pe_qTup _ _ _ _ _ (@pa_c _ _ _ _ _ (@pe_call _ _ _ _ _ _ _ _ _ _ _ _ _ _ _ _ G__law_room (hr.mono (by decide)) (by rfl) T.m__law_room T.F__law_room.kp T.b__law_room .nil pass0 (@pa_c _ _ _ _ _ (@pe_op _ _ _ _ _ _ _ _ on_sub (@pvN _ 4 _ _ (by rfl) (by trivial) (by decide) (by decide)) (@pe_int _ _ _ _)) (@pa_c _ _ _ _ _ (@pvN _ 7 _ _ (by rfl) (by trivial) (by decide) (by decide)) (@pa_nil _) (by rfl)) (by rfl)) (by decide) (by rfl) (by rfl)) (@pa_c _ _ _ _ _ (@pvN _ 5 _ _ (by rfl) (by trivial) (by decide) (by decide)) (@pa_c _ _ _ _ _ (@pvN _ 6 _ _ (by rfl) (by trivial) (by decide) (by decide)) (@pa_nil _) (by rfl)) (by rfl)) (by rfl))))) (@pss_nil _)) (@pss_cons _ _ _ _ _ (@ps_if _ _ _ _ _ _ _ _ (@pt_cmpRN _ _ _ _ _ _ _ _ (op_qEq hr.units) (@pvN _ 8 _ _ (by rfl) (by trivial) (by decide) (by decide)) (@pe_int _ _ _ _) (nomark _)) (@pss_one _ _ _ (@ps_ret _ _ _ _ (@pe_qTup _ _ _ _ _ (@pa_c _ _ _ _ _ (@pvN _ 4 _ _ (by rfl) (by trivial) (by decide) (by decide)) (@pa_c _ _ _ _ _ (@pe_call _ _ _ _ _ _ _ _ _ _ _ _ _ _ _ _ G__law_first (hr.mono (by decide)) (by rfl) T.m__law_first T.F__law_first.kp T.b__law_first .nil pass0 (@pa_c _ _ _ _ _ (@pvN _ 5 _ _ (by rfl) (by trivial) (by decide) (by decide)) (@pa_c _ _ _ _ _ (@pvN _ 3 _ _ (by rfl) (by trivial) (by decide) (by decide)) (@pa_c _ _ _ _ _ (@pvN _ 7 _ _ (by rfl) (by trivial) (by decide) (by decide)) (@pa_nil _) (by rfl)) (by rfl)) (by rfl)) (by decide) (by rfl) (by rfl)) (@pa_c _ _ _ _ _ (@pvN _ 6 _ _ (by rfl) (by trivial) (by decide) (by decide)) (@pa_nil _) (by rfl)) (by rfl)) (by rfl))))) (@pss_nil _)) (@pss_one _ _ _ (@ps_ret _ _ _ _ (@pe_qTup _ _ _ _ _ (@pa_c _ _ _ _ _ (@pvN _ 4 _ _ (by rfl) (by trivial) (by decide) (by decide)) (@pa_c _ _ _ _ _ (@pvN _ 5 _ _ (by rfl) (by trivial) (by decide) (by decide)) (@pa_c _ _ _ _ _ (@pe_call _ _ _ _ _ _ _ _ _ _ _ _ _ _ _ _ G__law_axes (hr.mono (by decide)) (by rfl) T.m__law_axes T.F__law_axes.kp T.b__law_axes .nil pass0 (@pa_c _ _ _ _ _ (@pvN _ 6 _ _ (by rfl) (by trivial) (by decide) (by decide)) (@pa_c _ _ _ _ _ (@pvN _ 7 _ _ (by rfl) (by trivial) (by decide) (by decide)) (@pa_c _ _ _ _ _ (@pe_call _ _ _ _ _ _ _ _ _ _ _ _ _ _ _ _ G__law_draw (hr.mono (by decide)) (by rfl) T.m__law_draw T.F__law_draw.kp T.b__law_draw .nil pass0 (@pa_c _ _ _ _ _ (@pvN _ 0 _ _ (by rfl) (by trivial) (by decide) (by decide)) (@pa_c _ _ _ _ _ (@pe_op _ _ _ _ _ _ _ _ on_add (@pe_int _ _ _ _) (@pe_op _ _ _ _ _ _ _ _ on_mul (@pe_int _ _ _ _) (@pvN _ 1 _ _ (by rfl) (by trivial) (by decide) (by decide)))) (@pa_c _ _ _ _ _ (@pe_callB _ _ _ _ _ _ _ ("max") _ (call_qMax rfl) (by rfl) T.z_max (by decide +kernel) (@pa_c _ _ _ _ _ (@pe_int _ _ _ _) (@pa_c _ _ _ _ _ (@pe_callB _ _ _ _ _ _ _ ("len") _ call_qLen (by rfl) T.z_len (by decide +kernel) (@pa_c _ _ _ _ _ (@pvN _ 6 _ _ (by rfl) (by trivial) (by decide) (by decide)) (@pa_nil _) (by rfl)) (by decide) (by decide) (by rfl) (by rfl)) (@pa_nil _) (by rfl)) (by rfl)) (by decide) (by decide) (by rfl) (by rfl)) (@pa_nil _) (by rfl)) (by rfl)) (by rfl)) (by decide) (by rfl) (by rfl)) (@pa_nil _) (by rfl)) (by rfl)) (by rfl)) (by decide) (by rfl) (by rfl)) (@pa_nil _) (by rfl)) (by rfl)) (by rfl)))))))))), ?_⟩
    rw [show start ["_law_script", "_law_k", "_law_parts", "_law_least", "_law_room_here", "_law_first_here", "_law_axes_here", "_law_cell", "_law_way"] [.ref a, .int k, .ref q, .int least] = [some (.ref a), some (.int k), some (.ref q), some (.int least), none, none, none, none, none] from rfl]
    clear G__law_draw G__law_room G__law_first G__law_axes
    obtain ⟨b1, b2, b3, b4, b5, b6⟩ := gp.b
    have hkq := gp.kp.eq gp.ok.ax
    have pb := pcB_of gp.ok gp.kp
    have hrm := gp.rm
    have hle := gp.le
    replace kk := fun (_ : Unit) => kk
    replace pb := fun (_ : Unit) => pb
    replace gp := fun (_ : Unit) => gp
    replace hkq := fun (_ : Unit) => hkq
    replace hrm := fun (_ : Unit) => hrm
    replace hle := fun (_ : Unit) => hle
    simp! only [and_true]
    rw [c_spDraw]
    refine ⟨hS, hl, ⟨by omega, by omega⟩, by decide, fun c c0 c1 => ?_⟩
    simp! only [and_true]
    rw [c_spDraw]
    refine ⟨hS, hl, ⟨by omega, by omega⟩, by decide, fun y y0 y1 => ?_⟩
    by_cases hy0 : y = 0
    · subst hy0
      simp! only [and_true]
      rw [c_spRoomX]
      refine ⟨by omega, by omega, c0, by omega, fun r H1 e1 hr1 rr => ?_⟩
      have t1 := tl.ext e1
      simp! only [and_true]
      intro t2 H2 _ e2 h2
      refine kk () t2 _ _ _ H2 (e1.trans e2) h2 (VBad.ext ?_ e2) (rr.ext e2) (Rp_int (by omega)) (Rp_axs (t1.ext e2) (gp ()).ok.ax (pb ()))
      rcases hr1 with rfl | ⟨hr1, hr2⟩
      · refine ⟨rfl, .inr (.inr (.inr ⟨room - 1, first, l, axs, rfl, rfl, rfl, t1, (gp ()).ok.ax, .inr ?_⟩))⟩
        rw [hkq (), hrm ()]
        omega
      · exact ⟨hr1, .inl hr2⟩
    by_cases hy1 : y = 1
    · subst hy1
      simp! only [and_true]
      rw [c_spFirstX]
      refine ⟨b1, b2, b3, b4, c0, by omega, fun r H1 e1 hr1 rr => ?_⟩
      have t1 := tl.ext e1
      simp! only [and_true]
      intro t2 H2 _ e2 h2
      refine kk () t2 _ _ _ H2 (e1.trans e2) h2 (VBad.ext ?_ e2) (Rp_int (by omega)) (rr.ext e2) (Rp_axs (t1.ext e2) (gp ()).ok.ax (pb ()))
      rcases hr1 with ⟨i, rfl, hi⟩ | hr1
      · refine ⟨rfl, .inr (.inr (.inr ⟨room, i, l, axs, rfl, rfl, rfl, t1, (gp ()).ok.ax, .inl ?_⟩))⟩
        have := hle ()
        rw [hkq ()]
        omega
      · exact ⟨rfl, .inr (.inl hr1)⟩
    · obtain ⟨ys, hll, al⟩ := tl
      have hyl : ys.length = axs.length := by rw [al.1]; unfold axL; rw [List.length_map]
      replace hyl := fun (_ : Unit) => hyl
      obtain ⟨mx, hmx, hmx1, hmx2⟩ : ∃ mx : Int, (if 1 < (ys.length : Int) then (ys.length : Int) else 1) = mx ∧ 1 ≤ mx ∧ (axs = [] ∨ mx = (axs.length : Int)) := by
        refine ⟨_, rfl, by split <;> omega, ?_⟩
        have := hyl ()
        by_cases e : axs = []
        · exact .inl e
        · have := List.length_pos_iff.mpr e
          exact .inr (by split <;> omega)
      simp! only [and_true]
      rw [c_spDraw]
      refine ⟨hS, hl, ⟨by omega, by omega⟩, by omega, fun i i0 i1 => ?_⟩
      simp! only [and_true]
      rw [c_spAxesX]
      refine ⟨axs, ⟨ys, hll, al⟩, (gp ()).ok.ax, pb (), c0, by omega, i0, ?_, fun r H1 e1 hr1 rr => ?_⟩
      · rcases hmx2 with h | h
        · exact .inl h
        · exact .inr (by omega)
      · simp! only [and_true]
        intro t2 H2 _ e2 h2
        exact kk () t2 _ _ _ H2 (e1.trans e2) h2 ⟨rfl, .inr (.inr (.inl ⟨⟨_, rfl⟩, hr1.ext e2⟩))⟩ (Rp_int (by omega)) (Rp_int (by omega)) (rr.ext e2)
def Cut1 (s : Addr) (H : Hp) : Hp := fun x => if x = s then none else H x
theorem cut1_sub (s : Addr) (H : Hp) : Ext (Cut1 s H) H := Same.ext fun x o h => by
  unfold Cut1 at h
  by_cases e : x = s
  · rw [if_pos e] at h; cases h
  · rwa [if_neg e] at h
theorem cut1_at {s x : Addr} {H : Hp} {o : HO} (h1 : x ≠ s) (h : H x = some o) : Cut1 s H x = some o := by
  unfold Cut1
  rw [if_neg h1]
  exact h
theorem cut1_ext {s : Addr} {B H : Hp} (e : Ext B H) (h1 : B s = none) : Ext B (Cut1 s H) := Same.ext fun x o h => cut1_at (fun z => by rw [z, h1] at h; cases h) (e.at h)
theorem cut1_no {s : Addr} {H : Hp} : Cut1 s H s = none := if_pos rfl
def ThreeV (H : Hp) (y : V) : Prop := ∃ (p l : Addr) (room first : Int) (axs : List (Int × Int)), y = .ref p ∧ H p = some (.tup [.int room, .int first, .ref l]) ∧ TupsAt H l (axL axs) ∧ ViewOk room first axs ∧ Kept axs
def PartV (H : Hp) (y : V) : Prop := ∃ (p q l : Addr) (room first least : Int) (axs : List (Int × Int)), y = .ref p ∧ H p = some (.tup [.ref q, .int least]) ∧ H q = some (.tup [.int room, .int first, .ref l]) ∧ TupsAt H l (axL axs) ∧ GoodP room first least axs
theorem PartV.ext {H H' : Hp} {y : V} (h : PartV H y) (e : Ext H H') : PartV H' y := by
  obtain ⟨p, q, l, room, first, least, axs, h1, h2, h3, h4, h5⟩ := h
  exact ⟨p, q, l, room, first, least, axs, h1, e.at h2, e.at h3, h4.ext e, h5⟩
theorem tups_cut {s l : Addr} {H : Hp} {xs : List V} {zs : List (List Int)} (h : TupsAt H l zs) (hs : H s = some (.lst xs)) (n : l ≠ s) : TupsAt (Cut1 s H) l zs := by
  obtain ⟨ys, h1, al⟩ := h
  refine ⟨ys, cut1_at n h1, al.imp fun z y ⟨q, hy, hq⟩ => ⟨q, hy, cut1_at (fun e => by rw [e, hs] at hq; cases hq) hq⟩⟩
theorem repI_ext {H H' : Hp} (e : Ext H H') (x : V) (d : PyData) (h : repI H x = some d) : repI H' x = some d := by
  cases x with
  | ref p =>
    have h1' : (match H p with | some (.dK kvs) => (allSome (kvs.map dkP)).map PyData.dict | _ => datV H 5 (.ref p)) = some d := h
    show (match H' p with | some (.dK kvs) => (allSome (kvs.map dkP)).map PyData.dict | _ => datV H' 5 (.ref p)) = some d
    cases e1 : H p with
    | none =>
      rw [e1] at h1'
      have h2' : datV H 5 (.ref p) = some d := h1'
      rw [m_datV_ref, e1] at h2'
      cases h2'
    | some ob =>
      rw [e.at e1]
      rw [e1] at h1'
      cases ob with
      | dK kvs => exact h1'
      | _ => exact datV_ext e 5 _ d h1'
  | _ => exact datV_ext e 5 _ d h
theorem rep3 {H : Hp} {x y z : V} (hx : Rp H x) (hy : Rp H y) (hz : Rp H z) : ∃ ds, allSome ([x, y, z].map (repI H)) = some ds ∧ PyData.showableAll ds = true ∧ (tupleText (PyData.shownAll ds)).length ≤ sizeLine := by
  obtain ⟨a, a1, a2, a3, a4⟩ := hx
  obtain ⟨b, b1, b2, b3, b4⟩ := hy
  obtain ⟨c, c1, c2, c3, c4⟩ := hz
  refine ⟨[a, b, c], ?_, ?_, ?_⟩
  · show (repI H x).bind (fun d => ((repI H y).bind (fun d => ((repI H z).bind (fun d => (some []).map fun ds => d :: ds)).map fun ds => d :: ds)).map fun ds => d :: ds) = _
    rw [a1, b1, c1]
    rfl
  · show (a.showable && (b.showable && (c.showable && true))) = true
    rw [a2, b2, c2]
    rfl
  · have h1 := tupleText_len_le (PyData.shownAll [a, b, c])
    have h2 := PyData.shownAll_le 250 (by decide) [a, b, c] (by show (a.leavesShort 250 && (b.leavesShort 250 && (c.leavesShort 250 && true))) = true; rw [a3, b3, c3]; rfl)
    have h3 : (PyData.shownAll [a, b, c]).length = 3 := PyData.shownAll_length [a, b, c]
    have h4 : PyData.weightAll [a, b, c] = a.weight + 1 + (b.weight + 1 + (c.weight + 1 + 0)) := rfl
    rw [h4] at h2
    rw [h3] at h1
    have h5 : [a, b, c].length = 3 := rfl
    rw [h5] at h2
    rw [sizeLine_eq]
    omega
abbrev B_spLaw (K : PySem.W.Frag) (a : Addr) (H : Hp) (Q : VK) (E : XK) : Prop := ∃ ns : List Int, SqL K H a (ns.map V.int) ∧ ns.length ≤ 63 ∧ ∀ H', Q (.bl true) H'
def spLaw (K : PySem.W.Frag) : Sp := fun vs H Q E => ∃ (a : Addr), vs = [.ref a] ∧ (B_spLaw K a H Q E)
theorem l_spLaw (K : PySem.W.Frag) {vs : List V} {H : Hp} {Q : VK} {E : XK} (h : spLaw K vs H Q E) : vs.length = 1 := spl1 h fun _ => rfl
theorem ok_law (T : Tx K mg t) : FnOk P w K mg base CX0 10 t.a_law t.d_law ["_law_script"] (spLaw K) := by
  refine T.F_law.ok c_law (fun vs H Q E h => l_spLaw _ h) (fun cdv A outer s H vs Q E hr h => ?_)
  · obtain ⟨a, rfl, ns, hS, hl, kk⟩ := h
    have G__law_small := ok__law_small (P := P) (w := w) (base := base) T a ns
    have G__law_great := ok__law_great (P := P) (w := w) (base := base) T a ns
    have G__law_spoilt := ok__law_spoilt (P := P) (w := w) (base := base) T a ns
    have G__law_refused := ok__law_refused (P := P) (w := w) (base := base) T
    have G_View___init__ := ok_View___init__ (P := P) (w := w) (base := base) T
    have c1 := T.cl_View
    have c3 := T.na_View_axes
    have c4 := T.na_View_room
    refine ⟨_, (@pss_cons _ _ _ _ _ (@ps_set _ _ (1) _ _ _ _ c_law.nd rfl (Or.inl rfl) (@pe_qLst _ _ _ _ (@pa_nil _)) (by rfl) (by trivial)) (@pss_cons _ _ _ _ _ (@ps_for _ _ _ _ _ _ _ _ PassesOwn.never rfl (@pi_seq _ _ _ _ (@pe_qLst _ _ _ _ (@pa_c _ _ _ _ _ (@pe_call _ _ _ _ _ _ _ _ _ _ _ _ _ _ _ _ G__law_small (hr.mono (by decide)) (by rfl) T.m__law_small T.F__law_small.kp T.b__law_small .nil pass0 (@pa_c _ _ _ _ _ (@pvN _ 0 _ _ (by rfl) (by trivial) (by decide) (by decide)) (@pa_c _ _ _ _ _ (@pe_int _ _ _ _) (@pa_nil _) (by rfl)) (by rfl)) (by decide) (by rfl) (by rfl)) (@pa_c _ _ _ _ _ (@pe_call _ _ _ _ _ _ _ _ _ _ _ _ _ _ _ _ G__law_great (hr.mono (by decide)) (by rfl) T.m__law_great T.F__law_great.kp T.b__law_great .nil pass0 (@pa_c _ _ _ _ _ (@pvN _ 0 _ _ (by rfl) (by trivial) (by decide) (by decide)) (@pa_c _ _ _ _ _ (@pe_int _ _ _ _) (@pa_nil _) (by rfl)) (by rfl)) (by decide) (by rfl) (by rfl)) (@pa_nil _) (by rfl)) (by rfl)))) ((@pg_tup _ _ _ _ _ (3) rfl (@pgs_consN _ _ _ _ _ (@pg_name _ _ (2) _ c_law.nd rfl (Or.inl rfl) (by trivial)) (@pgs_consN _ _ _ _ _ (@pg_name _ _ (3) _ c_law.nd rfl (Or.inl rfl) (by trivial)) (@pgs_consN _ _ _ _ _ (@pg_name _ _ (4) _ c_law.nd rfl (Or.inl rfl) (by trivial)) (@pgs_nilN _) (by rfl)) (by rfl)) (by rfl)) (by rfl) (by rfl)).mono fun _ _ _ _ h => gTup_q h) (@pss_cons _ _ _ _ _ (@ps_set _ _ (5) _ _ _ _ c_law.nd rfl (Or.inl rfl) (@pe_op _ _ _ _ _ _ _ _ on_add (@pvN _ 3 _ _ (by rfl) (by trivial) (by decide) (by decide)) (@pe_callB _ _ _ _ _ _ _ ("sum") _ (call_qSum rfl) (by rfl) T.z_sum (by decide +kernel) (@pa_c _ _ _ _ _ (@pe_comp _ _ _ _ _ _ _ _ _ _ _ (["_law_size", "_law_pace", "_law_script", "_law_some", "_law_room_here", "_law_first_here", "_law_axes_here", "_law_least", "_law_greatest", "_law_k", "_law_parts", "_law_wrong", "_law_still", "_law_view"]) (2) (comp_ok (defScope s_law) ["_law_script", "_law_some", "_law_room_here", "_law_first_here", "_law_axes_here", "_law_least", "_law_greatest", "_law_k", "_law_parts", "_law_wrong", "_law_still", "_law_view"] rfl rfl (by decide +kernel)) rfl (@pi_seq _ _ _ _ (@pvN _ 4 _ _ (by rfl) (by trivial) (by decide) (by decide))) (fun C s₀ H₀ ex pn => ((@pg_tup _ _ _ _ _ (2) rfl (@pgs_consN _ _ _ _ _ (@pg_name _ _ (0) _ (show List.Nodup (["_law_size", "_law_pace", "_law_script", "_law_some", "_law_room_here", "_law_first_here", "_law_axes_here", "_law_least", "_law_greatest", "_law_k", "_law_parts", "_law_wrong", "_law_still", "_law_view"] : List Str) from by decide +kernel) rfl (Or.inl rfl) (by trivial)) (@pgs_consN _ _ _ _ _ (@pg_name _ _ (1) _ (show List.Nodup (["_law_size", "_law_pace", "_law_script", "_law_some", "_law_room_here", "_law_first_here", "_law_axes_here", "_law_least", "_law_greatest", "_law_k", "_law_parts", "_law_wrong", "_law_still", "_law_view"] : List Str) from by decide +kernel) rfl (Or.inl rfl) (by trivial)) (@pgs_nilN _) (by rfl)) (by rfl)) (by rfl) (by rfl)).mono fun _ _ _ _ h => gTup_q h)) (fun C s₀ H₀ ex pn => (@pts_nil _)) (fun C s₀ H₀ ex pn => (@pe_callB _ _ _ _ _ _ _ ("min") _ (call_qMin rfl) (by rfl) T.z_min (by decide +kernel) (@pa_c _ _ _ _ _ (@pe_int _ _ _ _) (@pa_c _ _ _ _ _ (@pe_op _ _ _ _ _ _ _ _ on_mul (@pvN _ 1 _ _ (by rfl) (by trivial) (by decide) (by decide)) (@pe_op _ _ _ _ _ _ _ _ on_sub (@pvN _ 0 _ _ (by rfl) (by trivial) (by decide) (by decide)) (@pe_int _ _ _ _))) (@pa_nil _) (by rfl)) (by rfl)) (by decide) (by decide) (by rfl) (by rfl))) (by intros; rfl)) (@pa_nil _) (by rfl)) (by decide) (by decide) (by rfl) (by rfl))) (by rfl) (by trivial)) (@pss_cons _ _ _ _ _ (@ps_set _ _ (6) _ _ _ _ c_law.nd rfl (Or.inl rfl) (@pe_op _ _ _ _ _ _ _ _ on_add (@pvN _ 3 _ _ (by rfl) (by trivial) (by decide) (by decide)) (@pe_callB _ _ _ _ _ _ _ ("sum") _ (call_qSum rfl) (by rfl) T.z_sum (by decide +kernel) (@pa_c _ _ _ _ _ (@pe_comp _ _ _ _ _ _ _ _ _ _ _ (["_law_size", "_law_pace", "_law_script", "_law_some", "_law_room_here", "_law_first_here", "_law_axes_here", "_law_least", "_law_greatest", "_law_k", "_law_parts", "_law_wrong", "_law_still", "_law_view"]) (2) (comp_ok (defScope s_law) ["_law_script", "_law_some", "_law_room_here", "_law_first_here", "_law_axes_here", "_law_least", "_law_greatest", "_law_k", "_law_parts", "_law_wrong", "_law_still", "_law_view"] rfl rfl (by decide +kernel)) rfl (@pi_seq _ _ _ _ (@pvN _ 4 _ _ (by rfl) (by trivial) (by decide) (by decide))) (fun C s₀ H₀ ex pn => ((@pg_tup _ _ _ _ _ (2) rfl (@pgs_consN _ _ _ _ _ (@pg_name _ _ (0) _ (show List.Nodup (["_law_size", "_law_pace", "_law_script", "_law_some", "_law_room_here", "_law_first_here", "_law_axes_here", "_law_least", "_law_greatest", "_law_k", "_law_parts", "_law_wrong", "_law_still", "_law_view"] : List Str) from by decide +kernel) rfl (Or.inl rfl) (by trivial)) (@pgs_consN _ _ _ _ _ (@pg_name _ _ (1) _ (show List.Nodup (["_law_size", "_law_pace", "_law_script", "_law_some", "_law_room_here", "_law_first_here", "_law_axes_here", "_law_least", "_law_greatest", "_law_k", "_law_parts", "_law_wrong", "_law_still", "_law_view"] : List Str) from by decide +kernel) rfl (Or.inl rfl) (by trivial)) (@pgs_nilN _) (by rfl)) (by rfl)) (by rfl) (by rfl)).mono fun _ _ _ _ h => gTup_q h)) (fun C s₀ H₀ ex pn => (@pts_nil _)) (fun C s₀ H₀ ex pn => (@pe_callB _ _ _ _ _ _ _ ("max") _ (call_qMax rfl) (by rfl) T.z_max (by decide +kernel) (@pa_c _ _ _ _ _ (@pe_int _ _ _ _) (@pa_c _ _ _ _ _ (@pe_op _ _ _ _ _ _ _ _ on_mul (@pvN _ 1 _ _ (by rfl) (by trivial) (by decide) (by decide)) (@pe_op _ _ _ _ _ _ _ _ on_sub (@pvN _ 0 _ _ (by rfl) (by trivial) (by decide) (by decide)) (@pe_int _ _ _ _))) (@pa_nil _) (by rfl)) (by rfl)) (by decide) (by decide) (by rfl) (by rfl))) (by intros; rfl)) (@pa_nil _) (by rfl)) (by decide) (by decide) (by rfl) (by rfl))) (by rfl) (by trivial)) (@pss_one _ _ _ (@ps_expr _ _ _ _ (@pe_bm _ _ _ _ _ _ _ _ _ _ _ _ PySem.F.plainAttrs_list PySem.F.slot_list_append PySem.F.type_list_append mt_append (@pvN _ 1 _ _ (by rfl) (by trivial) (by decide) (by decide)) (@pa_c _ _ _ _ _ (@pe_qTup _ _ _ _ _ (@pa_c _ _ _ _ _ (@pe_qTup _ _ _ _ _ (@pa_c _ _ _ _ _ (@pe_op _ _ _ _ _ _ _ _ on_add (@pvN _ 6 _ _ (by rfl) (by trivial) (by decide) (by decide)) (@pe_int _ _ _ _)) (@pa_c _ _ _ _ _ (@pvN _ 3 _ _ (by rfl) (by trivial) (by decide) (by decide)) (@pa_c _ _ _ _ _ (@pvN _ 4 _ _ (by rfl) (by trivial) (by decide) (by decide)) (@pa_nil _) (by rfl)) (by rfl)) (by rfl))) (@pa_c _ _ _ _ _ (@pvN _ 5 _ _ (by rfl) (by trivial) (by decide) (by decide)) (@pa_nil _) (by rfl)) (by rfl))) (@pa_nil _) (by rfl)) (by rfl) (by rfl) (by rfl) (by rfl) (by rfl)) (by rfl))))) (by intros; rfl)) (@pss_cons _ _ _ _ _ (@ps_for _ _ _ _ _ _ _ _ PassesOwn.never rfl (@pi_range1 _ _ _ _ _ _ (by rfl) T.z_range (@pa_c _ _ _ _ _ (@pe_int _ _ _ _) (@pa_nil _) (by rfl)) (by rfl)) (@pg_name _ _ (7) _ c_law.nd rfl (Or.inl rfl) (by trivial)) (@pss_cons _ _ _ _ _ (@ps_asg _ _ _ _ _ _ (@pe_ix _ _ _ _ _ _ _ ix_q (@pvN _ 1 _ _ (by rfl) (by trivial) (by decide) (by decide)) (@pe_op _ _ _ _ _ _ _ _ on_mod (@pvN _ 7 _ _ (by rfl) (by trivial) (by decide) (by decide)) (@pe_int _ _ _ _)) (fun _ _ => rfl)) ((@pg_tup _ _ _ _ _ (2) rfl (@pgs_consN _ _ _ _ _ (@pg_name _ _ (8) _ c_law.nd rfl (Or.inl rfl) (by trivial)) (@pgs_consN _ _ _ _ _ (@pg_name _ _ (5) _ c_law.nd rfl (Or.inl rfl) (by trivial)) (@pgs_nilN _) (by rfl)) (by rfl)) (by rfl) (by rfl)).mono fun _ _ _ _ h => gTup_q h) (by rfl) (by rfl) (by rfl)) (@pss_cons _ _ _ _ _ (@ps_asg _ _ _ _ _ _ (@pvN _ 8 _ _ (by rfl) (by trivial) (by decide) (by decide)) ((@pg_tup _ _ _ _ _ (3) rfl (@pgs_consN _ _ _ _ _ (@pg_name _ _ (2) _ c_law.nd rfl (Or.inl rfl) (by trivial)) (@pgs_consN _ _ _ _ _ (@pg_name _ _ (3) _ c_law.nd rfl (Or.inl rfl) (by trivial)) (@pgs_consN _ _ _ _ _ (@pg_name _ _ (4) _ c_law.nd rfl (Or.inl rfl) (by trivial)) (@pgs_nilN _) (by rfl)) (by rfl)) (by rfl)) (by rfl) (by rfl)).mono fun _ _ _ _ h => gTup_q h) (by rfl) (by rfl) (by rfl)) (@pss_cons _ _ _ _ _ (@ps_set _ _ (9) _ _ _ _ c_law.nd rfl (Or.inl rfl) (@pe_call _ _ _ _ _ _ _ _ _ _ _ _ _ _ _ _ G__law_spoilt (hr.mono (by decide)) (by rfl) T.m__law_spoilt T.F__law_spoilt.kp T.b__law_spoilt .nil pass0 (@pa_c _ _ _ _ _ (@pvN _ 0 _ _ (by rfl) (by trivial) (by decide) (by decide)) (@pa_c _ _ _ _ _ (@pvN _ 7 _ _ (by rfl) (by trivial) (by decide) (by decide)) (@pa_c _ _ _ _ _ (@pvN _ 8 _ _ (by rfl) (by trivial) (by decide) (by decide)) (@pa_c _ _ _ _ _ (@pvN _ 5 _ _ (by rfl) (by trivial) (by decide) (by decide)) (@pa_nil _) (by rfl)) (by rfl)) (by rfl)) (by rfl)) (by decide) (by rfl) (by rfl)) (by rfl) (by trivial)) (@pss_cons _ _ _ _ _ (@ps_set _ _ (10) _ _ _ _ c_law.nd rfl (Or.inl rfl) (@pe_callB _ _ _ _ _ _ _ ("repr") _ (call_qRep hr.gd hr.units) (by rfl) T.z_repr (by decide +kernel) (@pa_c _ _ _ _ _ (@pvN _ 9 _ _ (by rfl) (by trivial) (by decide) (by decide)) (@pa_nil _) (by rfl)) (by decide) (by decide) (by rfl) (by rfl)) (by rfl) (by trivial)) (@pss_cons _ _ _ _ _ (@ps_set _ _ (11) _ _ _ _ c_law.nd rfl (Or.inl rfl) (@pe_nMake _ _ _ _ _ _ _ _ _ _ _ _ _ _ _ _ _ T.mk_View G_View___init__ (hr.mono (by decide)) (by rfl) T.m_View T.b_View___init__ .nil pass0 (@pa_c _ _ _ _ _ (@pvN _ 2 _ _ (by rfl) (by trivial) (by decide) (by decide)) (@pa_c _ _ _ _ _ (@pvN _ 3 _ _ (by rfl) (by trivial) (by decide) (by decide)) (@pa_c _ _ _ _ _ (@pe_callTy _ _ _ _ _ _ _ _ _ call_nList (by rfl) T.z_list (by decide +kernel) (@pa_c _ _ _ _ _ (@pvN _ 4 _ _ (by rfl) (by trivial) (by decide) (by decide)) (@pa_nil _) (by rfl)) (by decide) (by decide) (by rfl) (by rfl)) (@pa_nil _) (by rfl)) (by rfl)) (by rfl)) (by decide) (by rfl) (by rfl)) (by rfl) (by trivial)) (@pss_cons _ _ _ _ _ (@ps_if _ _ _ _ _ _ _ _ (PW.pt (@pw_or _ _ _ _ _ _ _ (@pt_not _ _ _ _ (@pt_valN _ _ _ (@pe_call _ _ _ _ _ _ _ _ _ _ _ _ _ _ _ _ G__law_refused (hr.mono (by decide)) (by rfl) T.m__law_refused T.F__law_refused.kp T.b__law_refused .nil pass0 (@pa_c _ _ _ _ _ (@pe_ix _ _ _ _ _ _ _ ix_q (@pvN _ 9 _ _ (by rfl) (by trivial) (by decide) (by decide)) (@pe_int _ _ _ _) (fun _ _ => rfl)) (@pa_c _ _ _ _ _ (@pe_ix _ _ _ _ _ _ _ ix_q (@pvN _ 9 _ _ (by rfl) (by trivial) (by decide) (by decide)) (@pe_int _ _ _ _) (fun _ _ => rfl)) (@pa_c _ _ _ _ _ (@pe_ix _ _ _ _ _ _ _ ix_q (@pvN _ 9 _ _ (by rfl) (by trivial) (by decide) (by decide)) (@pe_int _ _ _ _) (fun _ _ => rfl)) (@pa_nil _) (by rfl)) (by rfl)) (by rfl)) (by decide) (by rfl) (by rfl)) (by intros; rfl))) (@pw_or1 _ _ _ _ (@pt_cmpRN _ _ _ _ _ _ _ _ (op_qNe hr.units) (@pe_callB _ _ _ _ _ _ _ ("repr") _ (call_qRep hr.gd hr.units) (by rfl) T.z_repr (by decide +kernel) (@pa_c _ _ _ _ _ (@pvN _ 9 _ _ (by rfl) (by trivial) (by decide) (by decide)) (@pa_nil _) (by rfl)) (by decide) (by decide) (by rfl) (by rfl)) (@pvN _ 10 _ _ (by rfl) (by trivial) (by decide) (by decide)) (nomark _))))) (@pss_one _ _ _ (@ps_ret _ _ _ _ (@pe_bl _ _ _ _))) (@pss_nil _)) (@pss_one _ _ _ (@ps_if _ _ _ _ _ _ _ _ (PW.pt (@pw_or _ _ _ _ _ _ _ (@pt_cmpRN _ _ _ _ _ _ _ _ (op_qNe hr.units) (@pe_nFld _ _ _ _ _ (@pvN _ 11 _ _ (by rfl) (by trivial) (by decide) (by decide)) rfl) (@pvN _ 2 _ _ (by rfl) (by trivial) (by decide) (by decide)) (nomark _)) (@pw_or1 _ _ _ _ (@pt_cmpRN _ _ _ _ _ _ _ _ (op_qNe hr.units) (@pe_nFld _ _ _ _ _ (@pe_nMake _ _ _ _ _ _ _ _ _ _ _ _ _ _ _ _ _ T.mk_View G_View___init__ (hr.mono (by decide)) (by rfl) T.m_View T.b_View___init__ .nil pass0 (@pa_c _ _ _ _ _ (@pvN _ 2 _ _ (by rfl) (by trivial) (by decide) (by decide)) (@pa_c _ _ _ _ _ (@pvN _ 3 _ _ (by rfl) (by trivial) (by decide) (by decide)) (@pa_c _ _ _ _ _ (@pe_callTy _ _ _ _ _ _ _ _ _ call_nList (by rfl) T.z_list (by decide +kernel) (@pa_c _ _ _ _ _ (@pvN _ 4 _ _ (by rfl) (by trivial) (by decide) (by decide)) (@pa_nil _) (by rfl)) (by decide) (by decide) (by rfl) (by rfl)) (@pa_nil _) (by rfl)) (by rfl)) (by rfl)) (by decide) (by rfl) (by rfl)) rfl) (@pvN _ 4 _ _ (by rfl) (by trivial) (by decide) (by decide)) (nomark _))))) (@pss_one _ _ _ (@ps_ret _ _ _ _ (@pe_bl _ _ _ _))) (@pss_nil _))))))))) (by intros; rfl)) (@pss_one _ _ _ (@ps_ret _ _ _ _ (@pe_bl _ _ _ _)))))), ?_⟩
    rw [show start ["_law_script", "_law_some", "_law_room_here", "_law_first_here", "_law_axes_here", "_law_least", "_law_greatest", "_law_k", "_law_parts", "_law_wrong", "_law_still", "_law_view"] [.ref a] = [some (.ref a), none, none, none, none, none, none, none, none, none, none, none] from rfl]
    clear G__law_small G__law_great G__law_spoilt G__law_refused G_View___init__
    replace kk := fun (_ : Unit) => kk
    simp! only [and_true]
    intro so H1 hso e1 h1
    have hS1 := e1.2 K a _ hS
    simp! only [and_true]
    rw [c_spSmall]
    refine ⟨rfl, hS1, hl, by decide, by decide, fun ro0 fi0 ax0 l0 p0 H2 e2 f2 h2 t2 o2 k2 _ => ?_⟩
    have hS2 := e2.2 K a _ hS1
    simp! only [and_true]
    rw [c_spGreat]
    refine ⟨rfl, hS2, hl, by decide, by decide, fun ro1 fi1 ax1 l1 p1 H3 e3 f3 h3 t3 o3 k3 => ?_⟩
    have hS3 := e3.2 K a _ hS2
    simp! only [and_true]
    intro li H4 hli e4 h4
    have s4 := (e2.trans (e3.trans e4)).at h1
    have n0 : l0 ≠ so := fun z => by rw [z, h1] at f2; cases f2
    have n1 : l1 ≠ so := fun z => by rw [z, e2.at h1] at f3; cases f3
    have two : ∀ y ∈ [V.ref p0, V.ref p1], ThreeV (Cut1 so H4) y := fun y hy => by
      simp only [List.mem_cons, List.not_mem_nil, or_false] at hy
      rcases hy with rfl | rfl
      · have g := (e3.trans e4).at h2
        exact ⟨p0, l0, ro0, fi0, ax0, rfl, cut1_at (fun z => by rw [z, s4] at g; cases g) g, tups_cut (t2.ext (e3.trans e4)) s4 n0, o2, k2⟩
      · have g := e4.at h3
        exact ⟨p1, l1, ro1, fi1, ax1, rfl, cut1_at (fun z => by rw [z, s4] at g; cases g) g, tups_cut (t3.ext e4) s4 n1, o3, k3⟩
    have b4 : Ext H (Cut1 so H4) := cut1_ext (e1.trans (e2.trans (e3.trans e4))) hso
    have l4 : Cut1 so H4 li = some (.lst [V.ref p0, V.ref p1]) := cut1_at (fun z => by rw [z, e3.at (e2.at h1)] at hli; cases hli) h4
    generalize hps : [V.ref p0, V.ref p1] = ps at h4 two l4 ⊢
    have hpl : ps.length = 2 := by rw [← hps]; rfl
    replace two := fun (_ : Unit) => two
    replace hpl := fun (_ : Unit) => hpl
    clear hps h1 h2 h3 t2 t3 o2 o3 k2 k3 hS1 hS2 e1 e2 e3 e4 f2 f3 n0 n1 hS3
    simp! only [and_true]
    refine for_lst (xs := ps) (fun i σ H' => ∃ (ys : List V) (v2 v3 v4 v5 v6 : Option V), σ = [some (.ref a), some (.ref so), v2, v3, v4, v5, v6, none, none, none, none, none] ∧ Ext (Cut1 so H4) H' ∧ H' so = some (.lst ys) ∧ ys.length = i ∧ ∀ y ∈ ys, PartV (Cut1 so H') y) ⟨[], none, none, none, none, none, rfl, cut1_sub _ _, s4, rfl, fun _ h => absurd h List.not_mem_nil⟩ (fun i σ H' _ ⟨_, _, _, _, _, _, _, e, _⟩ => e.at l4) ?_ ?_
    · rintro i y _ H5 hi ⟨ys, v2, v3, v4, v5, v6, rfl, e5, h5, hyl, hp5⟩
      obtain ⟨p, l, room, first, axs, rfl, hp, tl, vok, hkp⟩ := two () y (List.mem_of_getElem? hi)
      have hp' := e5.at hp
      obtain ⟨zs, hl5, al5⟩ := tl.ext e5
      have tl5 := (tl.ext (cut1_ext e5 cut1_no))
      have hi2 : i < 2 := by have := (List.getElem?_eq_some_iff.mp hi).1; have := hpl (); omega
      have hys : ys.length < sizeLine := lt5000 (by omega)
      have hx8 := vok.ax.1
      replace hyl := fun (_ : Unit) => hyl
      replace hp5 := fun (_ : Unit) => hp5
      replace vok := fun (_ : Unit) => vok
      clear hi hp h4
      simp! only [↓m_kBody]
      have wk := wk_al (K := K) (R := axP) (fun _ _ _ _ h e => h.ext e) hl5 (al_axP al5)
      refine comp_fm axs (fun _ => true) (fun a => .int (min 0 ((a.1 - 1) * a.2))) axP wk.1 wk.2 (len5000 (by omega)) ?_ ?_
      · intro D b x H' N1 N0 hb hD e ⟨q, hx, hq⟩ k1 _
        subst hx
        have hbb := (vok ()).ax.2 b hb
        have k1' := k1 rfl H' (Ext.refl _)
        have hcm : CMul b.2 (b.1 - 1) := .inr (by omega)
        rw [min0, Int.mul_comm (b.1 - 1) b.2] at k1'
        clear k1
        simp! only [↓m_kCm_2, ↓m_kCm2]
      · intro D H6 hD e6 hD6
        have hD7 : H6 D = some (.lst ((axs.map fun a => min 0 ((a.1 - 1) * a.2)).map V.int)) := by rw [hD6, filt, List.map_map]; rfl
        have hl6 := e6.at hl5
        have al6 := al5.imp fun _ _ z => TupV.ext z e6
        clear wk hD6 hl5 al5
        simp! only [and_true]
        have wk := wk_al (K := K) (R := axP) (fun _ _ _ _ h e => h.ext e) hl6 (al_axP al6)
        refine comp_fm axs (fun _ => true) (fun a => .int (max 0 ((a.1 - 1) * a.2))) axP wk.1 wk.2 (len5000 (by omega)) ?_ ?_
        · intro D b x H' N1 N0 hb hD e ⟨q, hx, hq⟩ k1 _
          subst hx
          have hbb := (vok ()).ax.2 b hb
          have k1' := k1 rfl H' (Ext.refl _)
          have hcm : CMul b.2 (b.1 - 1) := .inr (by omega)
          rw [max0, Int.mul_comm (b.1 - 1) b.2] at k1'
          clear k1
          simp! only [↓m_kCm_2, ↓m_kCm2]
        · intro D2 H7 hD2 e7 hD7'
          have hD8 : H7 D2 = some (.lst ((axs.map fun a => max 0 ((a.1 - 1) * a.2)).map V.int)) := by rw [hD7', filt, List.map_map]; rfl
          have e57 := e6.trans e7
          have h7 := e57.at h5
          clear wk hD7' hl6 al6 hD7 hD hD2 h5 e6 e7
          simp! only [and_true]
          intro q H8 hq e8 h8
          have h8s := e8.at h7
          clear hD8 h7
          simp! only [and_true]
          intro r H9 hr9 e9 h9
          have h9s := e9.at h8s
          have h8_9 := e9.at h8
          have e59 := e57.trans (e8.trans e9)
          clear h8s h8
          simp! only [and_true]
          have c59 : Ext (Cut1 so H5) (Cut1 so (upd H9 so (.lst (ys ++ [V.ref r])))) := cut1_ext (((cut1_sub so H5).trans e59).put cut1_no) cut1_no
          have c49 : Ext (Cut1 so H4) (Cut1 so (upd H9 so (.lst (ys ++ [V.ref r])))) := (cut1_ext e5 cut1_no).trans c59
          have nq : q ≠ so := fun z => by rw [z, h9s] at h8_9; cases h8_9
          have nr : r ≠ so := fun z => by rw [z, h9s] at h9; cases h9
          refine ⟨ys ++ [V.ref r], _, _, _, _, _, rfl, c49.trans (cut1_sub _ _), rfl, by rw [List.length_append, hyl ()]; rfl, fun y hy => ?_⟩
          rcases List.mem_append.mp hy with hy | hy
          · exact (hp5 () y hy).ext c59
          · rw [List.mem_singleton.mp hy]
            have v := vok ()
            have b1 := v.lo
            have b2 := v.hi
            have b3 := v.r2
            rw [hkp.eq v.ax] at b1 b2
            have b4 := leastL_le (axs := axs)
            have g : ViewOk (first + greatL axs + 1) first axs := ⟨v.ax, by omega, by omega, by rw [hkp.eq v.ax]; exact b1, by rw [hkp.eq v.ax]; omega⟩
            exact ⟨r, q, l, _, first, _, axs, rfl, cut1_at nr (by rw [upd_ne nr]; exact h9), cut1_at nq (by rw [upd_ne nq]; exact h8_9), tl5.ext c59, g, hkp, rfl, rfl⟩
    · rintro _ H5 ⟨ys, v2, v3, v4, v5, v6, rfl, e5, h5, hyl, hp5⟩
      have hS5 := (b4.trans e5).2 K a _ hS
      replace hp5 := fun (_ : Unit) y hy => (hp5 y hy).ext (cut1_sub so H5)
      have hy2 : ys.length = 2 := by rw [hyl]; exact hpl ()
      replace hy2 := fun (_ : Unit) => hy2
      clear hyl e5 b4 l4 two hpl h4 s4 hS
      simp! only [and_true]
      refine for_rng (fun i σ H' => ∃ (v2 v3 v4 v5 v6 v7 v8 v9 v10 v11 : Option V), σ = [some (.ref a), some (.ref so), v2, v3, v4, v5, v6, v7, v8, v9, v10, v11] ∧ Ext H5 H') ⟨_, _, _, _, _, _, _, _, _, _, rfl, Ext.refl _⟩ ?_ ?_
      · rintro i _ H6 hi ⟨v2, v3, v4, v5, v6, v7, v8, v9, v10, v11, rfl, e6⟩
        have hi7 : i < 7 := hi
        have h6 := e6.at h5
        have hS6 := e6.2 K a _ hS5
        obtain ⟨y, hat, hy⟩ : ∃ y, atI ys ((0 + (i : Int)) % 2) = some y ∧ y ∈ ys := by
          have j0 := Int.emod_nonneg (0 + (i : Int)) (show (2 : Int) ≠ 0 by decide)
          have j1 := Int.emod_lt_of_pos (0 + (i : Int)) (show (0 : Int) < 2 by decide)
          obtain ⟨n, hn⟩ := Int.eq_ofNat_of_zero_le j0
          rw [hn] at j1 ⊢
          have hn2 : n < ys.length := by have := hy2 (); omega
          exact ⟨_, atI_nat (List.getElem?_eq_getElem hn2), List.getElem_mem hn2⟩
        obtain ⟨p, q, l, room, first, least, axs, rfl, hp, hq, tl, gp⟩ := (hp5 () y hy).ext e6
        replace gp := fun (_ : Unit) => gp
        clear h5 hS5 hy
        simp! only [↓m_kBody]
        rw [c_spSpoilt]
        refine ⟨rfl, hS6, hl, by omega, by omega, room, first, l, axs, hq, tl, gp (), fun r x y z H7 e7 h7 vb rx ry rz => ?_⟩
        obtain ⟨ds, d1, d2, d3⟩ := rep3 rx ry rz
        obtain ⟨zs, hl7, al7⟩ := tl.ext e7
        have e57 := e6.trans e7
        have hzl : zs.length ≤ 8 := by have := (gp ()).ok.ax.1; have h : zs.length = axs.length := by { rw [al7.1]; unfold axL; rw [List.length_map] }; omega
        have hkq := (gp ()).kp.eq (gp ()).ok.ax
        replace hkq := fun (_ : Unit) => hkq
        replace d1 := fun (_ : Unit) => d1
        replace d2 := fun (_ : Unit) => d2
        replace d3 := fun (_ : Unit) => d3
        replace vb := fun (_ : Unit) => vb
        replace al7 := fun (_ : Unit) => al7
        clear hat hp hq tl h6 hS6 rx ry rz e6 e7 hp5
        simp! only [and_true]
        refine use_rep h7 (d1 ()) (d2 ()) (d3 ()) ?_
        simp! only [and_true]
        intro lc H8 _ e8 h8
        have h7_8 := e8.at h7
        have hl8 := e8.at hl7
        simp! only [and_true]
        intro v dx H9 hv hd9 hq9 e9 h9 _
        rw [c_spVInit]
        refine ⟨dx, axs, h9, ⟨zs, e9.at h8, (al7 ()).imp fun _ _ z => TupV.ext z (e8.trans e9)⟩, (gp ()).ok, fun H10 D gg hD hx10 tt10 => ?_⟩
        have j10 := gg H8 e9 hv
        have h7_10 := j10.at h7_8
        have hl10 := j10.at hl8
        have e10 := e8.trans j10
        clear gg hD hd9 hq9 h9 hv e9 h8 h7_8 hl8 tt10 j10 e8 h7 hl7
        simp! only [and_true]
        rw [c_spRefd]
        refine ⟨(vb ()).ext e10, fun H11 e11 => ?_⟩
        have h7_11 := e11.at h7_10
        have hl11 := e11.at hl10
        have hx11 := e11.at hx10
        have e711 := e10.trans e11
        have f3 := viewF_room room first D
        clear h7_10 hl10 hx10
        simp! only [and_true]
        refine use_rep h7_11 (allSome_ext (repI_ext e711) _ _ (d1 ())) (d2 ()) (d3 ()) ?_
        simp! only [and_true]
        intro lc2 H12 _ e12 h12
        have hl12 := e12.at hl11
        clear f3
        simp! only [and_true]
        intro v2 dx2 H13 hv2 hd2 hq2 e13 h13 _
        rw [c_spVInit]
        refine ⟨dx2, axs, h13, ⟨zs, e13.at h12, (al7 ()).imp fun _ _ z => TupV.ext z (e711.trans (e12.trans e13))⟩, (gp ()).ok, fun H14 D2 gg hD2 hx14 tt14 => ?_⟩
        have j14 := gg H12 e13 hv2
        have hl14 := j14.at hl12
        have e14 := e711.trans (e12.trans j14)
        rw [hkq ()] at tt14
        obtain ⟨ws, hw, alw⟩ := tt14
        have f4 := viewF_axes room first D2
        have d4 := tups_all (H := H14) (f := datF H14 (datF H14 (datF H14 noD))) alw
        have d5 := tups_all (H := H14) (f := datF H14 (datF H14 (datF H14 noD))) ((al7 ()).imp fun _ _ z => TupV.ext z e14)
        have d6 := tups_eqv (axL axs)
        have e514 := e57.trans e14
        clear gg hD2 hd2 hq2 h13 hv2 e13 h12 hl12 j14 hx11 h7_11 hl11
        simp! only [and_true]
        exact ⟨_, _, _, _, _, _, _, _, _, _, rfl, e514⟩
      · rintro _ H6 ⟨v2, v3, v4, v5, v6, v7, v8, v9, v10, v11, rfl, e6⟩
        have k2 := kk () H6
        simp! only [and_true]
end
theorem all_mk {l : PySem.W.OpenLaw} {w : World} {K : PySem.W.Frag} {h : Heap} {mg : Str → Option Value} {fa : Addr} (X : K.In h) (G : h.Ns mainGlobals mg) (hfa : mg "law" = some (.ref fa))
    {C0 : Addr} (y0 : PySem.W.nsIn K mainGlobals "PaceError" = some (some (.ref C0)))
    {C1 : Addr} (y1 : PySem.W.nsIn K mainGlobals "NoPlace" = some (some (.ref C1)))
    {C2 : Addr} (y2 : PySem.W.nsIn K mainGlobals "NoCells" = some (some (.ref C2)))
    {C3 : Addr} (y3 : PySem.W.nsIn K mainGlobals "NoView" = some (some (.ref C3)))
    {C4 : Addr} (y4 : PySem.W.nsIn K mainGlobals "NoMove" = some (some (.ref C4)))
    {C5 : Addr} (y5 : PySem.W.nsIn K mainGlobals "NoCount" = some (some (.ref C5)))
    {C6 : Addr} (y6 : PySem.W.nsIn K mainGlobals "TooMany" = some (some (.ref C6)))
    {C7 : Addr} (y7 : PySem.W.nsIn K mainGlobals "View" = some (some (.ref C7)))
    (o_NoView : PySem.W.excIn K C3 [.type "ValueError", .type "Exception", .type "BaseException", .type "object"] "ValueError.__new__" = true)
    (x_NoView_PaceError : PySem.W.exmOne K (.ref C3) (.ref C0) = some true)
    (ocs : PySem.W.specialIn K (.builtin "object.__class__") "__get__" = some (some (.builtin "getset_descriptor.__get__")))
    (oct : PySem.W.takesIn K (.builtin "object.__class__") = some true)
    (ga_NoView : PySem.W.findIn K (.ref C3) "__getattribute__" = some (some (.builtin "BaseException.__getattribute__")))
    (gn_NoView : PySem.W.findIn K (.ref C3) "__getattr__" = some none)
    (mb_NoView : PySem.W.mroIn K C3 (.type "BaseException") = some true)
    (mo_NoView : PySem.W.mroIn K C3 (.type "object") = some true)
    (fc_NoView : PySem.W.findIn K (.ref C3) "__class__" = some (some (.builtin "object.__class__")))
    (hd_NoView : PySem.W.hasDictIn K C3 = true)
    (kc_NoView_NoPlace : PySem.W.hasDictIn K C1 = true)
    (kt_NoView_NoPlace : PySem.W.typeIn K (.ref C1) = some (.type "type"))
    (ks_NoView_NoPlace : PySem.W.subIn K (.ref C3) (.ref C1) = some false)
    (kn_NoView_NoPlace : (C3 == C1) = false)
    (kc_NoView_NoCells : PySem.W.hasDictIn K C2 = true)
    (kt_NoView_NoCells : PySem.W.typeIn K (.ref C2) = some (.type "type"))
    (ks_NoView_NoCells : PySem.W.subIn K (.ref C3) (.ref C2) = some false)
    (kn_NoView_NoCells : (C3 == C2) = false)
    (kc_NoView_NoCount : PySem.W.hasDictIn K C5 = true)
    (kt_NoView_NoCount : PySem.W.typeIn K (.ref C5) = some (.type "type"))
    (ks_NoView_NoCount : PySem.W.subIn K (.ref C3) (.ref C5) = some false)
    (kn_NoView_NoCount : (C3 == C5) = false)
    (kc_NoView_NoMove : PySem.W.hasDictIn K C4 = true)
    (kt_NoView_NoMove : PySem.W.typeIn K (.ref C4) = some (.type "type"))
    (ks_NoView_NoMove : PySem.W.subIn K (.ref C3) (.ref C4) = some false)
    (kn_NoView_NoMove : (C3 == C4) = false)
    (kc_NoView_NoView : PySem.W.hasDictIn K C3 = true)
    (kt_NoView_NoView : PySem.W.typeIn K (.ref C3) = some (.type "type"))
    (ks_NoView_NoView : PySem.W.subIn K (.ref C3) (.ref C3) = some true)
    (kc_NoView_TooMany : PySem.W.hasDictIn K C6 = true)
    (kt_NoView_TooMany : PySem.W.typeIn K (.ref C6) = some (.type "type"))
    (ks_NoView_TooMany : PySem.W.subIn K (.ref C3) (.ref C6) = some false)
    (kn_NoView_TooMany : (C3 == C6) = false)
    (ks_NoView_ValueError : PySem.W.subIn K (.ref C3) (.type "ValueError") = some true)
    {f0 : Addr} {d0 : FuncData} (F0 : Fun K "__init__" "TooMany.__init__" s_TooMany___init__ f0 d0)
    {f1 : Addr} {d1 : FuncData} (a1 : PySem.W.nsIn K mainGlobals "is_whole" = some (some (.ref f1))) (F1 : Fun K "is_whole" "is_whole" s_is_whole f1 d1)
    {f2 : Addr} {d2 : FuncData} (a2 : PySem.W.nsIn K mainGlobals "is_number_below" = some (some (.ref f2))) (F2 : Fun K "is_number_below" "is_number_below" s_is_number_below f2 d2)
    {f3 : Addr} {d3 : FuncData} (a3 : PySem.W.nsIn K mainGlobals "is_place" = some (some (.ref f3))) (F3 : Fun K "is_place" "is_place" s_is_place f3 d3)
    {f4 : Addr} {d4 : FuncData} (a4 : PySem.W.nsIn K mainGlobals "is_within" = some (some (.ref f4))) (F4 : Fun K "is_within" "is_within" s_is_within f4 d4)
    {f5 : Addr} {d5 : FuncData} (a5 : PySem.W.nsIn K mainGlobals "is_size" = some (some (.ref f5))) (F5 : Fun K "is_size" "is_size" s_is_size f5 d5)
    {f6 : Addr} {d6 : FuncData} (a6 : PySem.W.nsIn K mainGlobals "is_axis" = some (some (.ref f6))) (F6 : Fun K "is_axis" "is_axis" s_is_axis f6 d6)
    {f7 : Addr} {d7 : FuncData} (a7 : PySem.W.nsIn K mainGlobals "are_axes" = some (some (.ref f7))) (F7 : Fun K "are_axes" "are_axes" s_are_axes f7 d7)
    {f8 : Addr} {d8 : FuncData} (a8 : PySem.W.nsIn K mainGlobals "kept_axis" = some (some (.ref f8))) (F8 : Fun K "kept_axis" "kept_axis" s_kept_axis f8 d8)
    {f9 : Addr} {d9 : FuncData} (F9 : Fun K "__init__" "View.__init__" s_View___init__ f9 d9)
    {f10 : Addr} {d10 : FuncData} (F10 : Fun K "sizes" "View.sizes" s_View_sizes f10 d10)
    {f11 : Addr} {d11 : FuncData} (F11 : Fun K "paces" "View.paces" s_View_paces f11 d11)
    {f12 : Addr} {d12 : FuncData} (F12 : Fun K "cell" "View.cell" s_View_cell f12 d12)
    {f13 : Addr} {d13 : FuncData} (F13 : Fun K "least" "View.least" s_View_least f13 d13)
    {f14 : Addr} {d14 : FuncData} (F14 : Fun K "greatest" "View.greatest" s_View_greatest f14 d14)
    {f15 : Addr} {d15 : FuncData} (a15 : PySem.W.nsIn K mainGlobals "_law_draw" = some (some (.ref f15))) (F15 : Fun K "_law_draw" "_law_draw" s__law_draw f15 d15)
    {f16 : Addr} {d16 : FuncData} (a16 : PySem.W.nsIn K mainGlobals "_law_paces" = some (some (.ref f16))) (F16 : Fun K "_law_paces" "_law_paces" s__law_paces f16 d16)
    {f17 : Addr} {d17 : FuncData} (a17 : PySem.W.nsIn K mainGlobals "_law_floor" = some (some (.ref f17))) (F17 : Fun K "_law_floor" "_law_floor" s__law_floor f17 d17)
    {f18 : Addr} {d18 : FuncData} (a18 : PySem.W.nsIn K mainGlobals "_law_small" = some (some (.ref f18))) (F18 : Fun K "_law_small" "_law_small" s__law_small f18 d18)
    {f19 : Addr} {d19 : FuncData} (a19 : PySem.W.nsIn K mainGlobals "_law_great" = some (some (.ref f19))) (F19 : Fun K "_law_great" "_law_great" s__law_great f19 d19)
    {f20 : Addr} {d20 : FuncData} (a20 : PySem.W.nsIn K mainGlobals "_law_axis" = some (some (.ref f20))) (F20 : Fun K "_law_axis" "_law_axis" s__law_axis f20 d20)
    {f21 : Addr} {d21 : FuncData} (a21 : PySem.W.nsIn K mainGlobals "_law_axes" = some (some (.ref f21))) (F21 : Fun K "_law_axes" "_law_axes" s__law_axes f21 d21)
    {f22 : Addr} {d22 : FuncData} (a22 : PySem.W.nsIn K mainGlobals "_law_first" = some (some (.ref f22))) (F22 : Fun K "_law_first" "_law_first" s__law_first f22 d22)
    {f23 : Addr} {d23 : FuncData} (a23 : PySem.W.nsIn K mainGlobals "_law_room" = some (some (.ref f23))) (F23 : Fun K "_law_room" "_law_room" s__law_room f23 d23)
    {f24 : Addr} {d24 : FuncData} (a24 : PySem.W.nsIn K mainGlobals "_law_refused" = some (some (.ref f24))) (F24 : Fun K "_law_refused" "_law_refused" s__law_refused f24 d24)
    {f25 : Addr} {d25 : FuncData} (a25 : PySem.W.nsIn K mainGlobals "_law_spoilt" = some (some (.ref f25))) (F25 : Fun K "_law_spoilt" "_law_spoilt" s__law_spoilt f25 d25)
    {f26 : Addr} {od26 an26 : Option Addr} {sl26 : Array (Option Value)} {oc26 kV26 dc26 pm26 cd26 ct26 : Value}
    (a26 : PySem.W.nsIn K mainGlobals "law" = some (some (.ref f26))) (l26 : K.lookup f26 = some ⟨oc26, od26, .func (PySem.W.fnOf "law" "law" (defArgs s_law) (defBody s_law) (defScope s_law) .none kV26 dc26 pm26 an26 cd26 ct26), sl26⟩) 
    (c26 : PySem.W.codeIn K cd26 "law" = true) (k26 : PySem.W.keepIn K (.ref f26) = true)
    (fi_TooMany : PySem.W.findIn K (.ref C6) "__init__" = some (some (.ref f0)))
    (xe_TooMany : excInI K C6 f0 [.type "ValueError", .type "Exception", .type "BaseException", .type "object"] "ValueError.__new__" = true)
    (xf_TooMany : PySem.W.typeIn K (.ref f0) = some (.type "function"))
    (xo_TooMany : excOver K C6 = true)
    (xs_TooMany : PySem.W.findIn K (.ref C6) "__setattr__" = some (some (.builtin "object.__setattr__")))
    (xh_TooMany : PySem.W.hasDictIn K C6 = true)
    (nt_TooMany_number : PySem.W.takerIn K C6 "number" = some none)
    (nf_TooMany_number : PySem.W.findIn K (.ref C6) "number" = some none)
    (bs_PaceError : PySem.W.specialIn K (.ref C0) "__getattribute__" = some (some (.builtin "type.__getattribute__")))
    (br_PaceError : PySem.W.readsIn K C0 (.type "type") = true)
    (bf_PaceError : PySem.W.findCls K (.ref C0) (.type "type") "__init__" = some (.val (.builtin "ValueError.__init__")))
    (pg_View : PySem.W.plainGet K C7 Str.empty = true)
    (hd_View : PySem.W.hasDictIn K C7 = true)
    (po_View : PySem.W.plainOver K C7 = true)
    (sa_View : PySem.W.findIn K (.ref C7) "__setattr__" = some (some (.builtin "object.__setattr__")))
    (nf_View_axes : PySem.W.findIn K (.ref C7) "axes" = some none)
    (nf_View_first : PySem.W.findIn K (.ref C7) "first" = some none)
    (nf_View_room : PySem.W.findIn K (.ref C7) "room" = some none)
    (fi_View___init__ : PySem.W.findIn K (.ref C7) "__init__" = some (some (.ref f9)))
    (fn_View___init__ : PySem.W.isFn K (.ref f9) = true)
    (mm_View : PySem.W.makesIn K C7 = true)
    (ck_View : PySem.W.keepIn K (.ref C7) = true)
    (fi_View_sizes : PySem.W.findIn K (.ref C7) "sizes" = some (some (.ref f10)))
    (fn_View_sizes : PySem.W.isFn K (.ref f10) = true)
    (fi_View_paces : PySem.W.findIn K (.ref C7) "paces" = some (some (.ref f11)))
    (fn_View_paces : PySem.W.isFn K (.ref f11) = true)
    (fi_View_cell : PySem.W.findIn K (.ref C7) "cell" = some (some (.ref f12)))
    (fn_View_cell : PySem.W.isFn K (.ref f12) = true)
    (fi_View_least : PySem.W.findIn K (.ref C7) "least" = some (some (.ref f13)))
    (fn_View_least : PySem.W.isFn K (.ref f13) = true)
    (fi_View_greatest : PySem.W.findIn K (.ref C7) "greatest" = some (some (.ref f14)))
    (fn_View_greatest : PySem.W.isFn K (.ref f14) = true)
    {tk0 : Tok} (w0 : PySem.W.nsIn K mainGlobals "MOST_ROOM" = some (some (.int 1000000000000000000 tk0)))
    {tk1 : Tok} (w1 : PySem.W.nsIn K mainGlobals "MOST_SIZE" = some (some (.int 1000000000 tk1)))
    {tk2 : Tok} (w2 : PySem.W.nsIn K mainGlobals "MOST_AXES" = some (some (.int 8 tk2)))
    (z0 : PySem.W.nsIn K mainGlobals "ValueError" = some none)
    (z1 : PySem.W.nsIn K mainGlobals "all" = some none)
    (z2 : PySem.W.nsIn K mainGlobals "bool" = some none)
    (z3 : PySem.W.nsIn K mainGlobals "dict" = some none)
    (z4 : PySem.W.nsIn K mainGlobals "int" = some none)
    (z5 : PySem.W.nsIn K mainGlobals "isinstance" = some none)
    (z6 : PySem.W.nsIn K mainGlobals "len" = some none)
    (z7 : PySem.W.nsIn K mainGlobals "list" = some none)
    (z8 : PySem.W.nsIn K mainGlobals "max" = some none)
    (z9 : PySem.W.nsIn K mainGlobals "min" = some none)
    (z10 : PySem.W.nsIn K mainGlobals "range" = some none)
    (z11 : PySem.W.nsIn K mainGlobals "repr" = some none)
    (z12 : PySem.W.nsIn K mainGlobals "str" = some none)
    (z13 : PySem.W.nsIn K mainGlobals "sum" = some none)
    (z14 : PySem.W.nsIn K mainGlobals "tuple" = some none)
    (z15 : PySem.W.nsIn K mainGlobals "zip" = some none)
    : ∃ fd : FuncData, (∀ (s : Shared) (v : Value), BindsTo s fd ⟨[v], []⟩ [("_law_script", v)]) ∧ ∀ base : Heap, K.In base → base.Ns mainGlobals mg → FnOk l.prog w K mg base CX0 10 fa fd ["_law_script"] (spLaw K) := by
  have e := hfa.symm.trans (PySem.W.mg_of X G a26)
  cases e
  have F26 := fun_mk (st := s_law) l26 c26 k26
  have T : Tx K mg ⟨C0, C1, C2, C3, C4, C5, C6, C7, f0, _, f1, _, f2, _, f3, _, f4, _, f5, _, f6, _, f7, _, f8, _, f9, _, f10, _, f11, _, f12, _, f13, _, f14, _, f15, _, f16, _, f17, _, f18, _, f19, _, f20, _, f21, _, f22, _, f23, _, f24, _, f25, _, fa, _⟩ := ⟨PySem.W.mg_of X G y0, PySem.W.mg_of X G y1, PySem.W.mg_of X G y2, PySem.W.mg_of X G y3, PySem.W.mg_of X G y4, PySem.W.mg_of X G y5, PySem.W.mg_of X G y6, PySem.W.mg_of X G y7, o_NoView, x_NoView_PaceError, ocs, oct, ga_NoView, gn_NoView, mb_NoView, mo_NoView, fc_NoView, hd_NoView, kc_NoView_NoPlace, kt_NoView_NoPlace, ks_NoView_NoPlace, kn_NoView_NoPlace, kc_NoView_NoCells, kt_NoView_NoCells, ks_NoView_NoCells, kn_NoView_NoCells, kc_NoView_NoCount, kt_NoView_NoCount, ks_NoView_NoCount, kn_NoView_NoCount, kc_NoView_NoMove, kt_NoView_NoMove, ks_NoView_NoMove, kn_NoView_NoMove, kc_NoView_NoView, kt_NoView_NoView, ks_NoView_NoView, kc_NoView_TooMany, kt_NoView_TooMany, ks_NoView_TooMany, kn_NoView_TooMany, ks_NoView_ValueError, ⟨_, PySem.W.mg_of X G w0⟩, ⟨_, PySem.W.mg_of X G w1⟩, ⟨_, PySem.W.mg_of X G w2⟩, ⟨xe_TooMany, xf_TooMany, ⟨xo_TooMany, xs_TooMany, xh_TooMany⟩⟩, nt_TooMany_number, nf_TooMany_number, ⟨bs_PaceError, br_PaceError, bf_PaceError⟩, ⟨pg_View, hd_View, po_View, sa_View⟩, nf_View_axes, nf_View_first, nf_View_room, ⟨mm_View, fi_View___init__, fn_View___init__, ck_View⟩, ⟨fi_View_sizes, fn_View_sizes, F10.kp⟩, ⟨fi_View_paces, fn_View_paces, F11.kp⟩, ⟨fi_View_cell, fn_View_cell, F12.kp⟩, ⟨fi_View_least, fn_View_least, F13.kp⟩, ⟨fi_View_greatest, fn_View_greatest, F14.kp⟩, F0, F0.binds (ps := ["self", "number"]) (fun _ _ _ _ _ _ => len2 (fun _ _ => rfl)), F1, PySem.W.mg_of X G a1, F1.binds (ps := ["thing"]) (fun _ _ _ _ _ _ => len1 (fun _ => rfl)), F2, PySem.W.mg_of X G a2, F2.binds (ps := ["thing", "bound"]) (fun _ _ _ _ _ _ => len2 (fun _ _ => rfl)), F3, PySem.W.mg_of X G a3, F3.binds (ps := ["sizes", "thing"]) (fun _ _ _ _ _ _ => len2 (fun _ _ => rfl)), F4, PySem.W.mg_of X G a4, F4.binds (ps := ["thing", "low", "high"]) (fun _ _ _ _ _ _ => len3 (fun _ _ _ => rfl)), F5, PySem.W.mg_of X G a5, F5.binds (ps := ["thing"]) (fun _ _ _ _ _ _ => len1 (fun _ => rfl)), F6, PySem.W.mg_of X G a6, F6.binds (ps := ["thing"]) (fun _ _ _ _ _ _ => len1 (fun _ => rfl)), F7, PySem.W.mg_of X G a7, F7.binds (ps := ["thing"]) (fun _ _ _ _ _ _ => len1 (fun _ => rfl)), F8, PySem.W.mg_of X G a8, F8.binds (ps := ["axis"]) (fun _ _ _ _ _ _ => len1 (fun _ => rfl)), F9, F9.binds (ps := ["self", "room", "first", "axes"]) (fun _ _ _ _ _ _ => len4 (fun _ _ _ _ => rfl)), F10, F10.binds (ps := ["self"]) (fun _ _ _ _ _ _ => len1 (fun _ => rfl)), F11, F11.binds (ps := ["self"]) (fun _ _ _ _ _ _ => len1 (fun _ => rfl)), F12, F12.binds (ps := ["self", "place"]) (fun _ _ _ _ _ _ => len2 (fun _ _ => rfl)), F13, F13.binds (ps := ["self"]) (fun _ _ _ _ _ _ => len1 (fun _ => rfl)), F14, F14.binds (ps := ["self"]) (fun _ _ _ _ _ _ => len1 (fun _ => rfl)), F15, PySem.W.mg_of X G a15, F15.binds (ps := ["_law_script", "_law_k", "_law_many"]) (fun _ _ _ _ _ _ => len3 (fun _ _ _ => rfl)), F16, PySem.W.mg_of X G a16, F16.binds (ps := ["_law_sizes", "_law_paces_here", "_law_cell"]) (fun _ _ _ _ _ _ => len3 (fun _ _ _ => rfl)), F17, PySem.W.mg_of X G a17, F17.binds (ps := ["_law_script", "_law_at", "_law_axes_here"]) (fun _ _ _ _ _ _ => len3 (fun _ _ _ => rfl)), F18, PySem.W.mg_of X G a18, F18.binds (ps := ["_law_script", "_law_at"]) (fun _ _ _ _ _ _ => len2 (fun _ _ => rfl)), F19, PySem.W.mg_of X G a19, F19.binds (ps := ["_law_script", "_law_at"]) (fun _ _ _ _ _ _ => len2 (fun _ _ => rfl)), F20, PySem.W.mg_of X G a20, F20.binds (ps := ["_law_axis_here", "_law_cell"]) (fun _ _ _ _ _ _ => len2 (fun _ _ => rfl)), F21, PySem.W.mg_of X G a21, F21.binds (ps := ["_law_axes_here", "_law_cell", "_law_at"]) (fun _ _ _ _ _ _ => len3 (fun _ _ _ => rfl)), F22, PySem.W.mg_of X G a22, F22.binds (ps := ["_law_first_here", "_law_least", "_law_cell"]) (fun _ _ _ _ _ _ => len3 (fun _ _ _ => rfl)), F23, PySem.W.mg_of X G a23, F23.binds (ps := ["_law_greatest", "_law_cell"]) (fun _ _ _ _ _ _ => len2 (fun _ _ => rfl)), F24, PySem.W.mg_of X G a24, F24.binds (ps := ["_law_room_here", "_law_first_here", "_law_axes_here"]) (fun _ _ _ _ _ _ => len3 (fun _ _ _ => rfl)), F25, PySem.W.mg_of X G a25, F25.binds (ps := ["_law_script", "_law_k", "_law_parts", "_law_least"]) (fun _ _ _ _ _ _ => len4 (fun _ _ _ _ => rfl)), F26, PySem.W.mg_of X G a26, F26.binds (ps := ["_law_script"]) (fun _ _ _ _ _ _ => len1 (fun _ => rfl)), PySem.W.mg_none_of X G z0, PySem.W.mg_none_of X G z1, PySem.W.mg_none_of X G z2, PySem.W.mg_none_of X G z3, PySem.W.mg_none_of X G z4, PySem.W.mg_none_of X G z5, PySem.W.mg_none_of X G z6, PySem.W.mg_none_of X G z7, PySem.W.mg_none_of X G z8, PySem.W.mg_none_of X G z9, PySem.W.mg_none_of X G z10, PySem.W.mg_none_of X G z11, PySem.W.mg_none_of X G z12, PySem.W.mg_none_of X G z13, PySem.W.mg_none_of X G z14, PySem.W.mg_none_of X G z15⟩
  exact ⟨PySem.W.fnOf "law" "law" (defArgs s_law) (defBody s_law) (defScope s_law) .none kV26 dc26 pm26 an26 cd26 ct26, fun s v => .of_eq rfl, fun base _ _ => ok_law T⟩
theorem walk {l : PySem.W.OpenLaw} {q : Program} {loose : List Str} {XP : (Str → Option Value) → Heap → Prop} {YP : World → Heap → Prop} {d : DefRec} {K : Params → PySem.W.Frag} (hn : l.most = some 63) (hdf : d.params.defaults = [])
    (hY : ∀ (w : World) (h : Heap), YP w h → (K w.params).In h)
    (F : ∀ (w : World) (mg : Str → Option Value) (fa : Addr) (h : Heap), (K w.params).In h → h.Ns mainGlobals mg → mg d.name = some (.ref fa) →
      ∃ fd : FuncData, (∀ (s : Shared) (u : Value), BindsTo s fd ⟨[u], []⟩ [("_law_script", u)]) ∧ ∀ base : Heap, (K w.params).In base → base.Ns mainGlobals mg → FnOk l.prog w (K w.params) mg base CX0 10 fa fd ["_law_script"] (spLaw (K w.params))) :
    PySem.W.WalkO q loose XP YP l.row.toRowW d [] (fun f vs => PySem.call f vs) :=
  L2.walk_of (n := 63) (k := 10) (x := "_law_script") (CX := fun _ => CX0) (sp := fun w => spLaw (K w.params)) hn (by decide) hdf ⟨rfl, by decide, by decide, rfl⟩ hY F (fun _ _ a ns hl _ hS => ⟨a, rfl, ns, hS, hl, fun _ => rfl⟩) fun _ _ _ _ _ z => z
end PH
namespace PySem.W.Fast
def tw10000016365314856112 := 0
def tw17875689605847257750 := 0
def tw17627189439809460070 := 0
def tw16510305220549288281 := 0
def tw16069127361898506043 := 0
def tw13152389887057555130 := 0
def tw5783199836052474819 := 0
def tw9616531099017090485 := 0
def tw13213832454400081150 := 0
def tw17716338187440029353 := 0
def tw4361473423980249592 := 0
def tw7784295901632733035 := 0
def tw17037412196334889002 := 0
def tw14895135335176129429 := 0
def tw15891790194454722120 := 0
def tw13606063827878600365 := 0
def tw9826834786993596806 := 0
def tw16899335293082382006 := 0
def tw12388590644893163941 := 0
def tw8896243112588745002 := 0
def tw3638668791726955723 := 0
def tw17374428775486115999 := 0
def tw7992263033558698251 := 0
def tw15630768125748197691 := 0
def tw9844945030608302656 := 0
def tw11286792843356996259 := 0
def tw14413964874149751138 := 0
def tw1477679730143641111 := 0
def tw5706865669727405841 := 0
def tw18053345363978610130 := 0
def tw18438709597393175249 := 0
def tw2033121264222253937 := 0
def tw933829187283446210 := 0
def tw11073764874172978054 := 0
def tw1859256955409231196 := 0
def tw10751094942743025043 := 0
def tw2078574105603225422 := 0
def tw18155970412210991952 := 0
def tw2521862306520765425 := 0
def tw3069658447560639039 := 0
def tw3572438508278210103 := 0
def tw8633507920504443691 := 0
def tw14576532544693310054 := 0
def tw10765148426763100183 := 0
def tw6344817879584751499 := 0
def tw10059408442629754668 := 0
def tw2936709665667590487 := 0
def tw61568325610871319 := 0
def tw5174602092652351380 := 0
def tw7417418055442440697 := 0
def tw13842203602212251469 := 0
def tw4459840296706390569 := 0
def tw534857411181902534 := 0
def tw13511939732780552185 := 0
def tw8605719080226068061 := 0
def tw11335289683972532575 := 0
def tw3428891123319404464 := 0
def tw11667732567821048705 := 0
def tw15909641753042085405 := 0
def tw6425733482535969885 := 0
def tw18178594977217219325 := 0
def tw11149036546199084233 := 0
def tw17647674652563087618 := 0
def tw4046553132578974761 := 0
def tw15792492580864969239 := 0
def tw16023913321149758763 := 0
def tw1560650425887757746 := 0
def tw6768723119611481714 := 0
def tw15587115496598747506 := 0
def tw2004804033735951010 := 0
def tw2845271638067495892 := 0
def tw18104949859325189770 := 0
def tw12545848072362619128 := 0
def tw18044441856446727595 := 0
def tw11350293994885367513 := 0
def tw2235082771160156049 := 0
def tw17677138265742525297 := 0
def tw10762278528292110093 := 0
def tw902567030503100080 := 0
def tw17048718412212026693 := 0
def tw4069833091869544439 := 0
def tw17472587530123920752 := 0
def tw17169433071649467740 := 0
def tw6275781206117910023 := 0
def tw13968540581894372046 := 0
end PySem.W.Fast
open PySem PySem.W PyProof.Rows
set_option maxRecDepth 100000 in
set_option maxHeartbeats 0 in
theorem PySem.Challenge.cw_pacehall_k22_views_refused_holds : PySem.Challenge.rw_pacehall_k22_views_refused.Holds := by
  w_on; o_law; k_head; (case hw => w_witness2)
  k_fill
  refine PH.walk (l := PySem.Challenge.rw_pacehall_k22_views_refused) rfl rfl (fun w h Y => PySem.W.kIn_of Y) ?F
  case F =>
    intro w mg fa h KX G hmg
    refine' PH.all_mk KX G hmg ?y0 ?y1 ?y2 ?y3 ?y4 ?y5 ?y6 ?y7 ?o_NoView ?x_NoView_PaceError ?ocs ?oct ?ga_NoView ?gn_NoView ?mb_NoView ?mo_NoView ?fc_NoView ?hd_NoView ?kc_NoView_NoPlace ?kt_NoView_NoPlace ?ks_NoView_NoPlace ?kn_NoView_NoPlace ?kc_NoView_NoCells ?kt_NoView_NoCells ?ks_NoView_NoCells ?kn_NoView_NoCells ?kc_NoView_NoCount ?kt_NoView_NoCount ?ks_NoView_NoCount ?kn_NoView_NoCount ?kc_NoView_NoMove ?kt_NoView_NoMove ?ks_NoView_NoMove ?kn_NoView_NoMove ?kc_NoView_NoView ?kt_NoView_NoView ?ks_NoView_NoView ?kc_NoView_TooMany ?kt_NoView_TooMany ?ks_NoView_TooMany ?kn_NoView_TooMany ?ks_NoView_ValueError ?F0 ?a1 ?F1 ?a2 ?F2 ?a3 ?F3 ?a4 ?F4 ?a5 ?F5 ?a6 ?F6 ?a7 ?F7 ?a8 ?F8 ?F9 ?F10 ?F11 ?F12 ?F13 ?F14 ?a15 ?F15 ?a16 ?F16 ?a17 ?F17 ?a18 ?F18 ?a19 ?F19 ?a20 ?F20 ?a21 ?F21 ?a22 ?F22 ?a23 ?F23 ?a24 ?F24 ?a25 ?F25 ?a26 ?l26 ?c26 ?k26 ?fi_TooMany ?xe_TooMany ?xf_TooMany ?xo_TooMany ?xs_TooMany ?xh_TooMany ?nt_TooMany_number ?nf_TooMany_number ?bs_PaceError ?br_PaceError ?bf_PaceError ?pg_View ?hd_View ?po_View ?sa_View ?nf_View_axes ?nf_View_first ?nf_View_room ?fi_View___init__ ?fn_View___init__ ?mm_View ?ck_View ?fi_View_sizes ?fn_View_sizes ?fi_View_paces ?fn_View_paces ?fi_View_cell ?fn_View_cell ?fi_View_least ?fn_View_least ?fi_View_greatest ?fn_View_greatest ?w0 ?w1 ?w2 ?z0 ?z1 ?z2 ?z3 ?z4 ?z5 ?z6 ?z7 ?z8 ?z9 ?z10 ?z11 ?z12 ?z13 ?z14 ?z15
    (case y0 | y1 | y2 | y3 | y4 | y5 | y6 | y7 | fi_TooMany | fi_View___init__ | fi_View_sizes | fi_View_paces => first | k_is | k_exc | kts_exm | decide | rfl | decide +kernel | kernel_rfl)
    (case fi_View_cell | fi_View_least | fi_View_greatest | a1 | a2 | a3 | a4 | a5 | a6 | a7 | a8 | a15 => first | k_is | k_exc | kts_exm | decide | rfl | decide +kernel | kernel_rfl)
    (case a16 | a17 | a18 | a19 | a20 | a21 | a22 | a23 | a24 | a25 | a26 => first | k_is | k_exc | kts_exm | decide | rfl | decide +kernel | kernel_rfl)
    (case F0 | F1 | F2 | F3 | F4 | F5 | F6 | F7 | F8 | F9 | F10 | F11 => (refine' L2.fun_mk ?l ?c ?k; (case l | c | k => first | k_is | k_exc | kts_exm | decide | rfl | decide +kernel | kernel_rfl)))
    (case F12 | F13 | F14 | F15 | F16 | F17 | F18 | F19 | F20 | F21 | F22 | F23 => (refine' L2.fun_mk ?l ?c ?k; (case l | c | k => first | k_is | k_exc | kts_exm | decide | rfl | decide +kernel | kernel_rfl)))
    (case F24 | F25 => (refine' L2.fun_mk ?l ?c ?k; (case l | c | k => first | k_is | k_exc | kts_exm | decide | rfl | decide +kernel | kernel_rfl)))
    (case o_NoView | x_NoView_PaceError | ocs | oct | ga_NoView | gn_NoView | mb_NoView | mo_NoView | fc_NoView | hd_NoView | kc_NoView_NoPlace | kt_NoView_NoPlace => first | k_is | k_exc | kts_exm | decide | rfl | decide +kernel | kernel_rfl)
    (case ks_NoView_NoPlace | kn_NoView_NoPlace | kc_NoView_NoCells | kt_NoView_NoCells | ks_NoView_NoCells | kn_NoView_NoCells | kc_NoView_NoCount | kt_NoView_NoCount | ks_NoView_NoCount | kn_NoView_NoCount | kc_NoView_NoMove | kt_NoView_NoMove => first | k_is | k_exc | kts_exm | decide | rfl | decide +kernel | kernel_rfl)
    (case ks_NoView_NoMove | kn_NoView_NoMove | kc_NoView_NoView | kt_NoView_NoView | ks_NoView_NoView | kc_NoView_TooMany | kt_NoView_TooMany | ks_NoView_TooMany | kn_NoView_TooMany | ks_NoView_ValueError | l26 | c26 => first | k_is | k_exc | kts_exm | decide | rfl | decide +kernel | kernel_rfl)
    (case k26 | xe_TooMany | xf_TooMany | xo_TooMany | xs_TooMany | xh_TooMany | nt_TooMany_number | nf_TooMany_number | bs_PaceError | br_PaceError | bf_PaceError | pg_View => first | k_is | k_exc | kts_exm | decide | rfl | decide +kernel | kernel_rfl)
    (case hd_View | po_View | sa_View | nf_View_axes | nf_View_first | nf_View_room | fn_View___init__ | mm_View | ck_View | fn_View_sizes | fn_View_paces | fn_View_cell => first | k_is | k_exc | kts_exm | decide | rfl | decide +kernel | kernel_rfl)
    (case fn_View_least | fn_View_greatest | w0 | w1 | w2 | z0 | z1 | z2 | z3 | z4 | z5 | z6 => first | k_is | k_exc | kts_exm | decide | rfl | decide +kernel | kernel_rfl)
    (case z7 | z8 | z9 | z10 | z11 | z12 | z13 | z14 | z15 => first | k_is | k_exc | kts_exm | decide | rfl | decide +kernel | kernel_rfl)
#print axioms PySem.Challenge.cw_pacehall_k22_views_refused_holds
