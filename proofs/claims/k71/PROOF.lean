import PyProof.Rows.All
import Wide.All
import OpenK.AllK
import Wide.FinOn
import Lean
import PyProof.EqAt
import PyProof.EqKinds
import PyProof.TupleCall
import PySem.Challenge.RW_pacehall_k71_bound_pairs
set_option Elab.async false
set_option linter.all false
set_option maxRecDepth 100000
namespace L2
open PySem PySem.Spec PyProof.Rows
abbrev Key:=Sum Int Str
def keyIs:Key->Value->Bool
 | .inl k,v=>Value.isInt k v
 | .inr x,v=>Value.isStrOf x v
def keyH (w:World):Key->Int
 | .inl k=>hashInt k
 | .inr x=>hashStr w x
theorem keyIs_shape:∀ {k:Key}{v:Value},keyIs k v=true->(∃ i t,k=Sum.inl i/\v=Value.int i t)\/(∃ x t,k=Sum.inr x/\v=Value.str x t)
 | .inl i,v,h=>by
  obtain ⟨t,e⟩:=Value.isInt_shape (k:=i) (v:=v) h
  exact .inl ⟨i,t,rfl,e⟩
 | .inr x,v,h=>by
  obtain ⟨t,e⟩:=Value.isStrOf_shape (x:=x) (v:=v) h
  exact .inr ⟨x,t,rfl,e⟩
theorem keyIs_int (i:Int) (t:Tok):keyIs (.inl i) (.int i t)=true:=by simp [keyIs,Value.isInt]
theorem keyIs_str (x:Str) (t:Tok):keyIs (.inr x) (.str x t)=true:=by simp [keyIs,Value.isStrOf]
theorem key_ll (a b:Int):decide ((Sum.inl a:Key)=Sum.inl b)=(a == b):=by
 by_cases e:a=b
 ·subst e;simp
 ·have h:¬ (Sum.inl a:Key)=Sum.inl b:=λ q=>e (Sum.inl.inj q)
  rw [decide_eq_false h]
  exact (beq_eq_false_iff_ne.mpr e).symm
theorem key_rr (a b:Str):decide ((Sum.inr a:Key)=Sum.inr b)=decide (a=b):=by
 by_cases e:a=b
 ·subst e;simp
 ·have h:¬ (Sum.inr a:Key)=Sum.inr b:=λ q=>e (Sum.inr.inj q)
  rw [decide_eq_false h,decide_eq_false e]
theorem key_lr (a:Int) (b:Str):decide ((Sum.inl a:Key)=Sum.inr b)=false:=decide_eq_false (λ q=>nomatch q)
theorem key_rl (a:Str) (b:Int):decide ((Sum.inr a:Key)=Sum.inl b)=false:=decide_eq_false (λ q=>nomatch q)
def mixKind (prog:Program) (w:World):PySem.KeyKind prog w Key where
 is:=keyIs
 hash:=keyH w
 inj:=λ v a b ha hb=>by
  rcases keyIs_shape ha with ⟨i,t,rfl,rfl⟩|⟨x,t,rfl,rfl⟩
  ·rcases keyIs_shape hb with ⟨j,u,rfl,e⟩|⟨y,u,rfl,e⟩
   ·injection e with e1 _;rw [e1]
   ·exact nomatch e
  ·rcases keyIs_shape hb with ⟨j,u,rfl,e⟩|⟨y,u,rfl,e⟩
   ·exact nomatch e
   ·injection e with e1 _;rw [e1]
 byValue:=λ k v h=>by
  rcases keyIs_shape h with ⟨i,t,rfl,rfl⟩|⟨x,t,rfl,rfl⟩<;>rfl
 pyHash:=λ hv h=>by
  rcases keyIs_shape hv with ⟨i,t,rfl,rfl⟩|⟨x,t,rfl,rfl⟩
  ·exact wpAny_pyHash_int h
  ·exact wpAny_pyHash_str h
 eqBool:=λ hu hv h=>by
  rcases keyIs_shape hu with ⟨i,t,rfl,rfl⟩|⟨x,t,rfl,rfl⟩
  ·rcases keyIs_shape hv with ⟨j,u,rfl,rfl⟩|⟨y,u,rfl,rfl⟩
   ·rw [key_ll] at h;exact wpAny_eqBool_int h
   ·rw [key_lr] at h;exact SeqAt.EqAt.int_str i t y u _ _ _ _ h
  ·rcases keyIs_shape hv with ⟨j,u,rfl,rfl⟩|⟨y,u,rfl,rfl⟩
   ·rw [key_rl] at h;exact SeqAt.EqAt.str_int x t j u _ _ _ _ h
   ·rw [key_rr] at h;exact wpAny_eqBool_str h
 «strs»:=λ k x t v h=>by
  rcases keyIs_shape h with ⟨i,u,rfl,e⟩|⟨y,u,rfl,e⟩
  ·exact nomatch e
  ·injection e with e1 _
   subst e1
   cases v<;>rfl
theorem mixKind_int (prog:Program) (w:World) (i:Int) (t:Tok):(mixKind prog w).is (.inl i) (.int i t)=true:=keyIs_int i t
theorem mixKind_str (prog:Program) (w:World) (x:Str) (t:Tok):(mixKind prog w).is (.inr x) (.str x t)=true:=keyIs_str x t
end L2
namespace L2
open PySem PySem.Spec PyProof.Rows
inductive V where
 | non|bl (b:Bool)|int (i:Int)|str (x:Str)|byt (b:Array UInt8)|flt (b:UInt64)|ref (a:Addr)|ty (n:String)
 deriving DecidableEq
def RelV:V->Value->Prop
 | .non,u=>u=Value.none
 | .bl b,u=>u=Value.bool b
 | .int i,u=>∃ t,u=Value.int i t
 | .str x,u=>∃ t,u=Value.str x t
 | .byt b,u=>∃ t,u=Value.bytes b t
 | .flt b,u=>∃ t,u=Value.float b t
 | .ref a,u=>u=Value.ref a
 | .ty n,u=>u=Value.type n
abbrev Vals:List V->List Value->Prop:=Paired RelV
theorem Vals.length {xs:List V}{us:List Value}(r:Vals xs us):xs.length=us.length:=Paired.length r
theorem Vals.get:∀ {xs:List V}{us:List Value}{i:Nat}{x:V},Vals xs us->xs[i]? = some x->∃ u,us[i]? = some u/\RelV x u
 | _,_,_,_,.nil,e=>by simp at e
 | _,_,0,_,.cons r _,e=>by simp at e;subst e;exact ⟨_,rfl,r⟩
 | _,_,i+1,x,.cons _ t,e=>by
  obtain ⟨u,h1,h2⟩:=Vals.get (i:=i) (x:=x) t (by simpa using e)
  exact ⟨u,by simpa using h1,h2⟩
theorem Vals.set {x:V}{u:Value}(r:RelV x u):∀ {xs:List V}{us:List Value}(i:Nat),Vals xs us->Vals (xs.set i x) (us.set i u)
 | _,_,_,.nil=>.nil
 | _,_,0,.cons _ t=>.cons r t
 | _,_,i+1,.cons q t=>.cons q (Vals.set r i t)
theorem Vals.append:∀ {xs ys:List V}{us ws:List Value},Vals xs us->Vals ys ws->Vals (xs++ys) (us++ws)
 | _,_,_,_,.nil,s=>s
 | _,_,_,_,.cons r t,s=>.cons r (Vals.append t s)
theorem Vals.take:∀ {xs:List V}{us:List Value}(n:Nat),Vals xs us->Vals (xs.take n) (us.take n)
 | _,_,0,_=>.nil
 | _,_,_+1,.nil=>.nil
 | _,_,n+1,.cons r t=>.cons r (Vals.take n t)
theorem Vals.drop:∀ {xs:List V}{us:List Value}(n:Nat),Vals xs us->Vals (xs.drop n) (us.drop n)
 | _,_,0,r=>r
 | _,_,_+1,.nil=>.nil
 | _,_,n+1,.cons _ t=>Vals.drop n t
def RelO:Option V->Option Value->Prop
 | some v,some u=>RelV v u
 | none,none=>True
 | _,_=>False
def KV {κ:Type}:List (κ × V)->List (κ × Value)->Prop:=Paired λ (p:κ × V) (q:κ × Value)=>p.1=q.1/\RelV p.2 q.2
def kV:Key->V
 | .inl i=>.int i
 | .inr x=>.str x
inductive HO where
 | lst (xs:List V)
 | tup (xs:List V)
 | dK (kvs:List (Key × V))|dT (kvs:List (List Key × V))
 | set (S:Int->Bool) (n:Nat)
 | ins (C dx:Addr) (fs:List (Str × V))
 | own (x:Addr)
 | xd (fs:List (Str × V))
 | met (f x:Addr)
 | rng (lo hi:Int)
 | frz (o:Obj) (u:HO)
 | tbl (ps:Array Value)
 | ext (φ:Heap->Prop)
abbrev Hp:=Addr->Option HO
def upd (H:Hp) (a:Addr) (o:HO):Hp:=λ b=>if b=a then some o else H b
theorem upd_same {H:Hp}{a:Addr}{o:HO}:upd H a o a=some o:=by unfold upd;rw [if_pos rfl]
theorem upd_ne {H:Hp}{a b:Addr}{o:HO}(h:b ≠ a):upd H a o b=H b:=by unfold upd;rw [if_neg h]
theorem upd_upd {H:Hp}{a:Addr}{o u:HO}:upd (upd H a o) a u=upd H a u:=by
 funext b;unfold upd;split<;>rfl
theorem ne_of {H:Hp}{a b:Addr}{o u:HO}(h:H a=some o) (h':H b=some u) (d:o ≠ u):a ≠ b:=by
 intro e;subst e;rw [h] at h';exact d (Option.some.inj h')
theorem ne_of_none {H:Hp}{a b:Addr}{o:HO}(h:H a=some o) (h':H b=none):a ≠ b:=by
 intro e;subst e;rw [h] at h';cases h'
section
variable (P:Program) (w:World)
def ObjOk (H:Hp) (h:Heap) (a:Addr):HO->Prop
 | .lst xs=>xs.length<=sizeLine/\∃ (its:List Value) (n:Nat),Vals xs its/\h.get? a=some { cls:=.type "list",data:=.seq its.toArray n }
 | .tup xs=>xs.length<=sizeLine/\∃ its:List Value,Vals xs its/\IsTup h a its.toArray
 | .dK kvs=>kvs.length<=sizeLine/\(a == sysModules)=false/\∃ vs,KV kvs vs/\h.DictOf (mixKind P w) a vs
 | .dT kvs=>kvs.length<=sizeLine/\(a == sysModules)=false/\∃ xs:List (List Key × Addr × Value),
   Paired (λ (p:List Key × V) (q:List Key × Addr × Value)=>p.1=q.1/\H q.2.1=some (.tup (p.1.map kV))/\RelV p.2 q.2.2) kvs xs /\
   ∃ o es ep,h.get? a=some o/\o.ExactDict/\o.data=.dict es ep/\es.toList=xs.map (entryOfKey (tupleKind (mixKind P w)))/\(xs.map (·.1)).Nodup
 | .set S n=>h.SetOf (intKind P w) a S n
 | .ins C dx fs=>H dx=some (.own a)/\fs.length<=1000/\dx ≠ a/\h.get? a=some (W.instObj C dx) /\
   ∃ mA,h.Ns1 dx mA/\(∀ f,RelO (fs.lookup f) (mA f))/\PySem.Within mA (fs.map (·.1))
 | .own _=>∃ o,h.get? a=some o
 | .xd fs=>∃ mA,h.Ns1 a mA/\∀ f,RelO (fs.lookup f) (mA f)
 | .rng lo hi=>∃ t u v,h.get? a=some { cls:=.type "range",data:=.fields #[.int lo t,.int hi u,.int 1 v] }
 | .frz o u=>h.get? a=some o/\ObjOk H h a u
 | .tbl ps=>h.get? a=some { cls:=.none,data:=.fields ps }
 | .met f x=>h.get? a=some (W.methodObj (.ref f) (.ref x))
 | .ext φ=>φ h/\(∃ o,h.get? a=some o)/\∀ h1 h2:Heap,φ h1->(∀ o,h1.get? a=some o->h2.get? a=some o)->φ h2
def HOk (H:Hp) (h:Heap):Prop:=∀ a o,H a=some o->ObjOk P w H h a o
end
section
variable {P:Program}{w:World}{H H':Hp}{h h':Heap}{a:Addr}{o:HO}
theorem ObjOk.lt (x:ObjOk P w H h a o):a < h.objs.size:=by
 cases o with
 | lst xs=>obtain ⟨_,_,_,_,e⟩:=x;exact Heap.lt_size e
 | tup xs=>obtain ⟨_,_,_,p⟩:=x;exact p.lt
 | dK kvs=>obtain ⟨_,_,_,_,o,_,_,e,_⟩:=x;exact Heap.lt_size e
 | dT kvs=>obtain ⟨_,_,_,_,o,_,_,e,_⟩:=x;exact Heap.lt_size e
 | set S n=>obtain ⟨o,_,_,_,e,_⟩:=x;exact Heap.lt_size e
 | ins C dx fs=>obtain ⟨_,_,_,e,_⟩:=x;exact Heap.lt_size e
 | own y=>obtain ⟨_,e⟩:=x;exact Heap.lt_size e
 | xd fs=>obtain ⟨_,⟨_,_,_,e,_⟩,_⟩:=x;exact Heap.lt_size e
 | rng lo hi=>obtain ⟨_,_,_,e⟩:=x;exact Heap.lt_size e
 | frz ob u=>obtain ⟨e,_⟩:=x;exact Heap.lt_size e
 | tbl ps=>exact Heap.lt_size (show h.get? a=some _ from x)
 | met f y=>exact Heap.lt_size (show h.get? a=some _ from x)
 | ext φ=>obtain ⟨_,⟨_,e⟩,_⟩:=x;exact Heap.lt_size e
theorem Paired.mapP {α β:Type}{F G:α->β->Prop}:∀ {l₁:List α}{l₂:List β},Paired F l₁ l₂->(∀ a b,F a b->G a b)->Paired G l₁ l₂
 | _,_,.nil,_=>.nil
 | _,_,.cons r t,f=>.cons (f _ _ r) (Paired.mapP t f)
theorem ObjOk.stay (x:ObjOk P w H h a o) (k:∀ b u,(b=a\/H b=some (.own a))->h.get? b=some u->h'.get? b=some u)
  (ho:∀ b,H b=some (.own a)->H' b=some (.own a)) (ht:∀ b xs,H b=some (.tup xs)->H' b=some (.tup xs)):ObjOk P w H' h' a o:=by
 induction o with
 | lst xs=>obtain ⟨z,its,n,r,e⟩:=x;exact ⟨z,its,n,r,k _ _ (.inl rfl) e⟩
 | tup xs=>obtain ⟨z,its,r,ob,e,c⟩:=x;exact ⟨z,its,r,ob,k _ _ (.inl rfl) e,c⟩
 | dK kvs=>obtain ⟨z,y,vs,r,ob,es,ep,e,c⟩:=x;exact ⟨z,y,vs,r,ob,es,ep,k _ _ (.inl rfl) e,c⟩
 | dT kvs=>
  obtain ⟨z,y,xs,r,ob,es,ep,e,c⟩:=x
  exact ⟨z,y,xs,Paired.mapP r λ p q z=>⟨z.1,ht _ _ z.2.1,z.2.2⟩,ob,es,ep,k _ _ (.inl rfl) e,c⟩
 | set S n=>obtain ⟨ob,es,ep,t,e,c⟩:=x;exact ⟨ob,es,ep,t,k _ _ (.inl rfl) e,c⟩
 | ins C dx fs=>
  obtain ⟨d,z,ne,e,mA,⟨od,es,ep,e2,c⟩,r⟩:=x
  exact ⟨ho _ d,z,ne,k _ _ (.inl rfl) e,mA,⟨od,es,ep,k _ _ (.inr d) e2,c⟩,r⟩
 | own y=>obtain ⟨ob,e⟩:=x;exact ⟨ob,k _ _ (.inl rfl) e⟩
 | xd fs=>obtain ⟨mA,⟨od,es,ep,e,c⟩,r⟩:=x;exact ⟨mA,⟨od,es,ep,k _ _ (.inl rfl) e,c⟩,r⟩
 | rng lo hi=>obtain ⟨t,u,v,e⟩:=x;exact ⟨t,u,v,k _ _ (.inl rfl) e⟩
 | frz ob u ih=>obtain ⟨e,q⟩:=x;exact ⟨k _ _ (.inl rfl) e,ih q⟩
 | tbl ps=>
  have e:h.get? a=some { cls:=.none,data:=.fields ps }:=x
  show h'.get? a=some { cls:=.none,data:=.fields ps }
  exact k a _ (.inl rfl) e
 | met f y=>
  have e:h.get? a=some (W.methodObj (.ref f) (.ref y)):=x
  show h'.get? a=some (W.methodObj (.ref f) (.ref y))
  exact k a _ (.inl rfl) e
 | ext φ=>obtain ⟨p,⟨o,e⟩,st⟩:=x;exact ⟨st _ _ p λ o q=>k _ _ (.inl rfl) q,⟨o,k _ _ (.inl rfl) e⟩,st⟩
theorem HOk.lt (x:HOk P w H h) (e:H a=some o):a < h.objs.size:=(x a o e).lt
theorem HOk.fresh (x:HOk P w H h) (e:h.objs.size<=a):H a=none:=by
 cases q:H a with
 | none=>rfl
 | some u=>exact absurd (Nat.lt_of_lt_of_le (x.lt q) e) (Nat.lt_irrefl _)
theorem HOk.kept (x:HOk P w H h) (k:∀ b u,h.get? b=some u->h'.get? b=some u):HOk P w H h':=λ a o e=>
 (x a o e).stay (λ b u _ q=>k b u q) (λ _ q=>q) λ _ _ q=>q
theorem HOk.laid (x:HOk P w H h) (k:∀ b u,h.get? b=some u->h'.get? b=some u) (hp:h.objs.size<=a) (new:ObjOk P w (upd H a o) h' a o):HOk P w (upd H a o) h':=λ b u e=>by
 have hn:=x.fresh hp
 by_cases hb:b=a
 ·subst hb;rw [upd_same] at e;cases e;exact new
 ·rw [upd_ne hb] at e
  exact (x b u e).stay (λ c v _ q=>k c v q) (λ c q=>by rw [upd_ne (ne_of_none q hn)];exact q) λ c xs q=>by rw [upd_ne (ne_of_none q hn)];exact q
end
def Rd (H:Hp) (a:Addr) (u:HO):Prop:=H a=some u\/∃ o,H a=some (.frz o u)
theorem Rd.ok {P:Program}{w:World}{H:Hp}{h:Heap}{a:Addr}{u:HO}(r:Rd H a u) (x:HOk P w H h):ObjOk P w H h a u:=by
 rcases r with r|⟨o,r⟩
 ·exact x a u r
 ·obtain ⟨_,q⟩:=x a _ r
  exact q
def Mut:Option HO->Prop
 | some (.lst _)=>True
 | some (.dK _)=>True
 | some (.dT _)=>True
 | some (.set _ _)=>True
 | some (.ins _ _ _)=>True
 | some (.ext _)=>True
 | _=>False
section
variable {P:Program}{w:World}{H:Hp}{h h':Heap}{x e:Addr}{o':HO}
theorem HOk.write (ok:HOk P w H h) (mu:Mut (H x)) (he:e=x\/H e=some (.own x)) (k:∀ b u,b ≠ e->h.get? b=some u->h'.get? b=some u) (heo:∃ u,h'.get? e=some u)
  (new:ObjOk P w (upd H x o') h' x o'):HOk P w (upd H x o') h':=λ b u q=>by
 have nown:∀ c y,H c=some (.own y)->c ≠ x:=λ c y r z=>by subst z;rw [r] at mu;exact mu
 have ntup:∀ c xs,H c=some (.tup xs)->c ≠ x:=λ c xs r z=>by subst z;rw [r] at mu;exact mu
 by_cases hb:b=x
 ·subst hb;rw [upd_same] at q;cases q;exact new
 ·rw [upd_ne hb] at q
  by_cases hbe:b=e
  ·have q':H b=some (.own x):=by
    rcases he with z|z
    ·exact absurd (hbe.trans z) hb
    ·rw [hbe];exact z
   rw [q] at q';cases q'
   obtain ⟨v,hv⟩:=heo
   exact ⟨v,by rw [hbe];exact hv⟩
  ·refine (ok b u q).stay (λ c v hc r=>k c v ?_ r) (λ c r=>by rw [upd_ne (nown c b r)];exact r) λ c xs r=>by rw [upd_ne (ntup c xs r)];exact r
   rcases hc with rfl|hc
   ·exact hbe
   ·rintro rfl
    rcases he with z|z
    ·exact nown c b hc z
    ·rw [hc] at z;cases z;exact hb rfl
end
structure Un (fs ex:List Addr) (H H':Hp) (h h':Heap):Prop where
 keep:∀ b o,h.get? b=some o->H b=none->b ∉ fs->b ∉ ex->h'.get? b=some o
 slot:∀ b o,h.get? b=some o->H b=none->b∈fs->b ∉ ex->∃ sl,h'.get? b=some { o with slots:=sl }
 free:∀ b o,h.get? b=some o->H b=none->b ∉ ex->H' b=none
 there:∀ b o,h.get? b=some o->b ∉ ex->∃ o',h'.get? b=some o'
 tups:∀ b xs,H b=some (.tup xs)->H' b=some (.tup xs)
 frzs:∀ b o u,H b=some (.frz o u)->H' b=some (.frz o u)
 tbls:∀ b ps,H b=some (.tbl ps)->∃ more,H' b=some (.tbl (ps++more))
section
variable {fs fs' ex ex':List Addr}{H H1 H2:Hp}{h h1 h2 h':Heap}{a x e:Addr}{o:HO}
theorem Un.any (u:Un fs ex H H1 h h1){b:Addr}{ob:Obj}(q:h.get? b=some ob) (n:H b=none) (hx:b ∉ ex):∃ sl,h1.get? b=some { ob with slots:=sl }:=by
 by_cases hb:b∈fs
 ·exact u.slot b ob q n hb hx
 ·exact ⟨ob.slots,u.keep b ob q n hb hx⟩
theorem Un.trans (a:Un fs ex H H1 h h1) (b:Un fs ex H1 H2 h1 h2):Un fs ex H H2 h h2 where
 keep:=λ c ob q n hc hx=>b.keep c ob (a.keep c ob q n hc hx) (a.free c ob q n hx) hc hx
 slot:=λ c ob q n hc hx=>by
  obtain ⟨sl,e1⟩:=a.slot c ob q n hc hx
  obtain ⟨sl',e2⟩:=b.slot c _ e1 (a.free c ob q n hx) hc hx
  exact ⟨sl',e2⟩
 free:=λ c ob q n hx=>by
  obtain ⟨o',e1⟩:=a.there c ob q hx
  exact b.free c o' e1 (a.free c ob q n hx) hx
 there:=λ c ob q hx=>by
  obtain ⟨o',e1⟩:=a.there c ob q hx
  exact b.there c o' e1 hx
 tups:=λ c xs q=>b.tups c xs (a.tups c xs q)
 frzs:=λ c ob xs q=>b.frzs c ob xs (a.frzs c ob xs q)
 tbls:=λ c ps q=>by
  obtain ⟨m1,e1⟩:=a.tbls c ps q
  obtain ⟨m2,e2⟩:=b.tbls c _ e1
  exact ⟨m1++m2,by rw [e2,Array.append_assoc]⟩
theorem Un.kept (k:∀ b u,h.get? b=some u->h'.get? b=some u):Un fs ex H H h h':=
 ⟨λ b ob q _ _ _=>k b ob q,λ b ob q _ _ _=>⟨ob.slots,k b ob q⟩,λ _ _ _ n _=>n,λ b ob q _=>⟨ob,k b ob q⟩,λ _ _ q=>q,λ _ _ _ q=>q,λ _ ps q=>⟨#[],by rw [q];simp⟩⟩
theorem Un.refl:Un fs ex H H h h:=Un.kept λ _ _ q=>q
theorem Un.laid (k:∀ b u,h.get? b=some u->h'.get? b=some u) (hp:h.objs.size<=a) (hn:H a=none):Un fs ex H (upd H a o) h h' where
 keep:=λ b u q _ _ _=>k b u q
 slot:=λ b u q _ _ _=>⟨u.slots,k b u q⟩
 free:=λ b u q n _=>by rw [upd_ne (Nat.ne_of_lt (Nat.lt_of_lt_of_le (Heap.lt_size q) hp))];exact n
 there:=λ b u q _=>⟨u,k b u q⟩
 tups:=λ b xs q=>by rw [upd_ne (ne_of_none q hn)];exact q
 frzs:=λ b u xs q=>by rw [upd_ne (ne_of_none q hn)];exact q
 tbls:=λ b ps q=>⟨#[],by rw [upd_ne (ne_of_none q hn),q];simp⟩
theorem Un.write (mu:Mut (H x)) (he:e=x\/H e=some (.own x)) (k:∀ b u,b ≠ e->h.get? b=some u->h'.get? b=some u) (heo:∃ u,h'.get? e=some u):Un fs ex H (upd H x o) h h':=by
 have hx:∀ b,H b=none->b ≠ x:=λ b n z=>by subst z;rw [n] at mu;exact mu
 have hb:∀ b,H b=none->b ≠ e:=λ b n z=>by
  subst z
  rcases he with r|r
  ·exact hx b n r
  ·rw [n] at r;cases r
 have hm:∀ b u,H b=some u->¬ Mut (some u)->b ≠ x:=λ b u q nm z=>by subst z;rw [q] at mu;exact nm mu
 refine ⟨λ b u q n _ _=>k b u (hb b n) q,λ b u q n _ _=>⟨u.slots,k b u (hb b n) q⟩,λ b u q n _=>by rw [upd_ne (hx b n)];exact n,λ b u q _=>?_,
  λ b xs q=>by rw [upd_ne (hm b _ q λ z=>z)];exact q,λ b u xs q=>by rw [upd_ne (hm b _ q λ z=>z)];exact q,λ b ps q=>⟨#[],by rw [upd_ne (hm b _ q λ z=>z),q];simp⟩⟩
 by_cases hbe:b=e
 ·subst hbe;exact heo
 ·exact ⟨u,k b u hbe q⟩
end
def trk (h:Heap) (H:Hp):List Addr:=(List.range h.objs.size).filter λ a=>(H a).isSome
def hidT (h:Heap) (H:Hp):Heap:=W.hideAll h (trk h H)
theorem hidT_size (h:Heap) (H:Hp):(hidT h H).objs.size=h.objs.size:=W.hideAll_size _ _
theorem hidT_get {h:Heap}{H:Hp}{b:Addr}{o:Obj}(e:h.get? b=some o) (n:H b=none):(hidT h H).get? b=some o:=
 W.hideAll_get _ e λ hm=>by
  have q:(H b).isSome=true:=(List.mem_filter.mp hm).2
  rw [n] at q;simp at q
theorem of_hidT {h:Heap}{H:Hp}{b:Addr}{o:Obj}(e:(hidT h H).get? b=some o):h.get? b=some o/\H b=none:=by
 have e':h.get? b=some o:=W.of_hideAll (trk h H) e
 refine ⟨e',?_⟩
 cases q:H b with
 | none=>rfl
 | some x=>
  have hm:b∈trk h H:=List.mem_filter.mpr ⟨List.mem_range.mpr (Heap.lt_size e'),by simp [q]⟩
  have z:(hidT h H).get? b=none:=W.hideAll_none (trk h H) hm
  rw [z] at e;cases e
def allNews (g h:Heap) (L:Addr):List (Addr × Obj):=(List.range h.objs.size).filterMap λ a=>if a=L\/(g.get? a).isSome=true then none else (h.get? a).map λ o=>(a,o)
def rest (g h:Heap) (L d:Addr):List (Addr × Obj):=(allNews g h L).filter λ p=>decide (p.1 ≠ d)
end L2
namespace L2
open PySem PySem.Spec PyProof.Rows
structure Mod (K:W.Frag) (mg:Str->Option Value) (base:Heap):Prop where
 kin:K.In base
 glob:base.Ns mainGlobals mg
 blt:∃ mb,base.Ns builtinsNs mb/\∀ x:Str,x ≠ "__name__" → mb x=bootBuiltins x
 nolimit:base.NoLimit
structure Cx where
 prog:Program
 w:World
 K:W.Frag
 mg:Str->Option Value
 base:Heap
 A:Around
 N:List Str
 s₀:Shared
 H₀:Hp
 env:Env
 outer:List Env
 stack:List Env
 ex:List Addr
 fn:Str->Bool
 calm:Bool
 pn:List (Addr × Obj)
 xe:Value->Shared->Prop
def frs (l:List Env):List Addr:=l.filterMap (·.frame)
abbrev Cx.fs (X:Cx):List Addr:=frs X.outer
def Vis (sc:Scope) (x:Str):Prop:=sc.names.lookup x=some .local\/sc.names.lookup x=some .cell\/sc.names.lookup x=some .free
def Loc (sc:Scope) (x:Str):Prop:=sc.names.lookup x=some .local\/sc.names.lookup x=some .cell
def Look (env:Env) (h:Heap) (m:Str->Option Value) (x:Str) (u:Value):Prop:=
 (env.kindOf x=some .local/\m x=some u)\/((env.kindOf x=some .cell\/env.kindOf x=some .free)/\∃ c,env.cells.lookup x=some c/\h.IsCell c (some u))
structure Cx.Ok (X:Cx):Prop where
 mod:Mod X.K X.mg X.base
 kind:X.env.scope.kind=.function
 glob:X.env.globals=mainGlobals
 blt:X.env.builtins=builtinsNs
 above:X.s₀.heap.objs.size<=X.env.locals
 inj:∀ x y c,X.env.cells.lookup x=some c->X.env.cells.lookup y=some c->x=y
 has:∀ x,(X.env.kindOf x=some .cell\/X.env.kindOf x=some .free)->∃ c,X.env.cells.lookup x=some c
 cab:∀ x c,X.fn x=true->X.env.cells.lookup x=some c->X.s₀.heap.objs.size<=c
 hd:X.calm=true->X.A.handled=none
 frames:X.A.frames=some X.stack
 stk:X.stack=X.outer\/(X.stack=X.env::X.outer/\X.env.frame=some X.env.locals)
 exf:∀ b∈X.ex,b ≠ X.env.locals/\∀ x c,X.env.cells.lookup x=some c->c ≠ b
 bs:∀ b o,X.base.get? b=some o->X.s₀.heap.get? b=some o/\X.H₀ b=none
 bsz:X.base.objs.size<=X.s₀.heap.objs.size
 noex:∀ b o,X.base.get? b=some o->b ∉ X.ex
 exfs:∀ b∈X.ex,b ∉ X.fs
 funs:X.s₀.heap.FunFrames X.base X.outer
 frf:∀ b∈X.fs,X.H₀ b=none
structure Inv (X:Cx) (pins:List (Addr × Obj)) (σ:List (Option V)) (H:Hp) (s:Shared):Prop where
 ok:X.Ok
 os:s.os=X.s₀.os
 bare:AllBare s.gens
 base:Un X.fs X.ex X.H₀ H X.s₀.heap s.heap
 loc:∃ m,s.heap.Ns X.env.locals m/\∀ (i:Nat) (x:Str) (v:V),X.N[i]? = some x->σ[i]? = some (some v)->Vis X.env.scope x->∃ u,RelV v u/\Look X.env s.heap m x u
 cell:∀ x c,X.env.cells.lookup x=some c->∃ v,s.heap.IsCell c v
 free:H X.env.locals=none
 freeC:∀ x c,X.env.cells.lookup x=some c->H c=none
 pin:∀ p∈X.pn++pins,s.heap.get? p.1=some p.2/\H p.1=none/\p.1 ≠ X.env.locals/\p.1 ∉ X.fs/\∀ v,p.2.data ≠ .cell v
 hok:HOk X.prog X.w H s.heap
 len:σ.length=X.N.length
section
variable {X:Cx}{pins:List (Addr × Obj)}{σ:List (Option V)}{H H':Hp}{s:Shared}{h':Heap}
theorem Cx.Ok.nofr (ok:X.Ok){b:Addr}{o:Obj}(e:X.base.get? b=some o):b ∉ X.fs:=λ hb=>by
 have:=(ok.funs.mem hb).1
 rw [e] at this;cases this
theorem Inv.bs (I:Inv X pins σ H s):∀ b o,X.base.get? b=some o->s.heap.get? b=some o/\H b=none:=λ b o e=>
 ⟨I.base.keep b o (I.ok.bs b o e).1 (I.ok.bs b o e).2 (I.ok.nofr e) (I.ok.noex b o e),I.base.free b o (I.ok.bs b o e).1 (I.ok.bs b o e).2 (I.ok.noex b o e)⟩
theorem Inv.bk (I:Inv X pins σ H s):∀ b o,X.base.get? b=some o->s.heap.get? b=some o:=λ b o e=>(I.bs b o e).1
theorem Inv.mod (I:Inv X pins σ H s):Mod X.K X.mg X.base:=I.ok.mod
theorem Inv.kIn (I:Inv X pins σ H s):X.K.In s.heap:=I.ok.mod.kin.keeps I.bk
theorem Inv.lt (I:Inv X pins σ H s):X.env.locals < s.heap.objs.size:=let ⟨_,hn,_⟩:=I.loc;hn.lt
theorem Inv.sz (I:Inv X pins σ H s):X.s₀.heap.objs.size<=s.heap.objs.size:=Nat.le_trans I.ok.above (Nat.le_of_lt I.lt)
theorem Inv.nofs (I:Inv X pins σ H s){a:Addr}(h:s.heap.objs.size<=a):a ∉ X.fs:=λ hb=>by
 obtain ⟨_,o,ho,_⟩:=I.ok.funs.mem hb
 exact absurd (Nat.lt_of_lt_of_le (Heap.lt_size ho) (Nat.le_trans I.sz h)) (Nat.lt_irrefl _)
theorem Inv.cne (I:Inv X pins σ H s):∀ x c,X.env.cells.lookup x=some c->c ≠ X.env.locals:=λ x c e z=>by
 obtain ⟨v,o,ho,hd⟩:=I.cell x c e
 obtain ⟨m,⟨o',es,ep,ho',hd',_⟩,_⟩:=I.loc
 rw [z,ho'] at ho;cases ho;rw [hd'] at hd;cases hd
theorem Inv.funs (I:Inv X pins σ H s):s.heap.FunFrames X.base X.outer:=by
 have all:∀ (l:List Env),(∀ b∈frs l,b∈X.fs)->X.s₀.heap.FunFrames X.base l->s.heap.FunFrames X.base l:=by
  intro l
  induction l with
  | nil=>intro _ _;trivial
  | cons env r ih=>
   intro hs hl
   obtain ⟨hk,⟨L,o,hf,hn,ho,hd⟩,hr⟩:=hl
   have hL:L∈X.fs:=hs L (by unfold frs;rw [List.filterMap_cons,hf];exact List.mem_cons_self)
   obtain ⟨sl,e⟩:=I.base.slot L o ho (I.ok.frf L hL) hL λ z=>I.ok.exfs L z hL
   exact ⟨hk,⟨L,_,hf,hn,e,hd⟩,ih (λ b hb=>hs b (by unfold frs;rw [List.filterMap_cons,hf];exact List.mem_cons_of_mem _ hb)) hr⟩
 exact all X.outer (λ _ hb=>hb) I.ok.funs
theorem Inv.stack (I:Inv X pins σ H s):s.heap.FunFrames X.base X.stack:=by
 rcases I.ok.stk with e|⟨e,hf⟩
 ·rw [e];exact I.funs
 ·rw [e]
  obtain ⟨m,hn,_⟩:=I.loc
  refine .cons (by rw [I.ok.kind];decide) hf hn ?_ I.funs
  exact Heap.get?_none_of_le (Nat.le_trans I.ok.bsz I.ok.above)
theorem Inv.stkSub (I:Inv X pins σ H s):∀ b∈frs X.stack,b∈X.env.locals::X.fs:=λ b hb=>by
 rcases I.ok.stk with e|⟨e,hf⟩
 ·rw [e] at hb;exact List.mem_cons_of_mem _ hb
 ·rw [e] at hb
  unfold frs at hb
  rw [List.filterMap_cons,hf] at hb
  exact hb
theorem Inv.stkFree (I:Inv X pins σ H s):∀ b∈frs X.stack,H b=none:=λ b hb=>by
 rcases List.mem_cons.mp (I.stkSub b hb) with e|hb
 ·rw [e];exact I.free
 ·obtain ⟨_,o,ho,_⟩:=I.ok.funs.mem hb
  exact I.base.free b o ho (I.ok.frf b hb) λ z=>I.ok.exfs b z hb
theorem Inv.step {g':Array GenState}{t':Nat}{d':Drawn}{ch:List Addr}(I:Inv X pins σ H s)
  (hch:∀ b∈ch,(b∈X.ex\/X.s₀.heap.objs.size<=b)/\b ≠ X.env.locals/\(∀ x c,X.env.cells.lookup x=some c->c ≠ b)/\∀ p∈X.pn++pins,p.1 ≠ b)
  (keep:∀ b o,b ≠ X.env.locals->b ∉ X.fs->b ∉ ch->s.heap.get? b=some o->H b=none->h'.get? b=some o)
  (slot:∀ b o,b ≠ X.env.locals->b∈X.fs->b ∉ ch->s.heap.get? b=some o->H b=none->∃ sl,h'.get? b=some { o with slots:=sl }) (free:∀ b o,b ∉ ch->s.heap.get? b=some o->H b=none->H' b=none)
  (there:∀ b o,b ∉ ch->s.heap.get? b=some o->∃ o',h'.get? b=some o')
  (tups:∀ b xs,H b=some (.tup xs)->H' b=some (.tup xs)) (frzs:∀ b o u,H b=some (.frz o u)->H' b=some (.frz o u)) (tbls:∀ b ps,H b=some (.tbl ps)->∃ more,H' b=some (.tbl (ps++more)))
  (ns:∀ m,s.heap.Ns X.env.locals m->h'.Ns X.env.locals m) (hok:HOk X.prog X.w H' h') (hg:AllBare g') :
  Inv X pins σ H' { s with heap:=h',gens:=g',drawn:=d',toks:=t' }:=by
 have neL:∀ b o,X.s₀.heap.get? b=some o->b ≠ X.env.locals:=λ b o e=>Nat.ne_of_lt (Nat.lt_of_lt_of_le (Heap.lt_size e) I.ok.above)
 have neC:∀ b o,X.s₀.heap.get? b=some o->b ∉ X.ex->b ∉ ch:=λ b o e hx hb=>by
  rcases (hch b hb).1 with z|z
  ·exact hx z
  ·exact absurd (Nat.lt_of_lt_of_le (Heap.lt_size e) z) (Nat.lt_irrefl _)
 have cellK:∀ x c,X.env.cells.lookup x=some c->∀ v,s.heap.IsCell c v->h'.IsCell c v:=λ x c e v ⟨o,ho,hd⟩=>by
  have nch:c ∉ ch:=λ z=>(hch c z).2.2.1 x c e rfl
  by_cases hc:c∈X.fs
  ·obtain ⟨sl,q⟩:=slot c o (I.cne x c e) hc nch ho (I.freeC x c e)
   exact ⟨_,q,hd⟩
  ·exact ⟨o,keep c o (I.cne x c e) hc nch ho (I.freeC x c e),hd⟩
 refine ⟨I.ok,I.os,hg,⟨λ b o e n hb hx=>?_,λ b o e n hb hx=>?_,λ b o e n hx=>?_,λ b o e hx=>?_,λ b xs e=>tups b xs (I.base.tups b xs e),λ b o xs e=>frzs b o xs (I.base.frzs b o xs e),λ b ps e=>?_⟩,?_,λ x c e=>?_,?_,λ x c e=>?_,λ p hp=>?_,hok,I.len⟩
 ·exact keep b o (neL b o e) hb (neC b o e hx) (I.base.keep b o e n hb hx) (I.base.free b o e n hx)
 ·obtain ⟨sl,e1⟩:=I.base.slot b o e n hb hx
  obtain ⟨sl',e2⟩:=slot b _ (neL b o e) hb (neC b o e hx) e1 (I.base.free b o e n hx)
  exact ⟨sl',e2⟩
 ·obtain ⟨o',e1⟩:=I.base.there b o e hx
  exact free b o' (neC b o e hx) e1 (I.base.free b o e n hx)
 ·obtain ⟨o',e1⟩:=I.base.there b o e hx
  exact there b o' (neC b o e hx) e1
 ·obtain ⟨m1,e1⟩:=I.base.tbls b ps e
  obtain ⟨m2,e2⟩:=tbls b _ e1
  exact ⟨m1++m2,by rw [e2,Array.append_assoc]⟩
 ·obtain ⟨m,hn,hl⟩:=I.loc
  refine ⟨m,ns m hn,λ i x v e1 e2 e3=>?_⟩
  obtain ⟨u,r,l⟩:=hl i x v e1 e2 e3
  refine ⟨u,r,?_⟩
  rcases l with l|⟨k,c,e,z⟩
  ·exact .inl l
  ·exact .inr ⟨k,c,e,cellK x c e _ z⟩
 ·obtain ⟨v,z⟩:=I.cell x c e
  exact ⟨v,cellK x c e v z⟩
 ·obtain ⟨m,⟨o,_,_,ho,_⟩,_⟩:=I.loc
  exact free _ o (λ z=>(hch _ z).2.1 rfl) ho I.free
 ·obtain ⟨v,o,ho,hd⟩:=I.cell x c e
  exact free c o (λ z=>(hch c z).2.2.1 x c e rfl) ho (I.freeC x c e)
 ·obtain ⟨e,n,ne,nf,d⟩:=I.pin p hp
  have nch:p.1 ∉ ch:=λ z=>(hch p.1 z).2.2.2 p hp rfl
  exact ⟨keep p.1 p.2 ne nf nch e n,free p.1 p.2 nch e n,ne,nf,d⟩
theorem Inv.un {t':Nat}(I:Inv X pins σ H s) (u:Un X.fs [] H H' s.heap h') (hok:HOk X.prog X.w H' h'):Inv X pins σ H' { s with heap:=h',toks:=t' }:=by
 obtain ⟨m,⟨o,es,ep,ho,r⟩,_⟩:=id I.loc
 obtain ⟨sl,hL⟩:=u.any ho I.free (by simp)
 exact I.step (g':=s.gens) (d':=s.drawn) (ch:=[]) (λ _ z=>nomatch z) (λ b o _ hb _ e n=>u.keep b o e n hb (by simp)) (λ b o _ hb _ e n=>u.slot b o e n hb (by simp)) (λ b o _ e n=>u.free b o e n (by simp)) (λ b o _ e=>u.there b o e (by simp)) u.tups u.frzs u.tbls (λ m' hm=>by
  obtain ⟨o',es',ep',ho',r'⟩:=hm
  rw [ho] at ho';cases ho'
  exact ⟨_,es',ep',hL,r'⟩) hok I.bare
theorem Inv.call {g':Array GenState}{t':Nat}{d':Drawn}{ch:List Addr}(I:Inv X pins σ H s) (u:Un (frs X.stack) ch H H' s.heap h') (hok:HOk X.prog X.w H' h') (hg:AllBare g')
  (hch:∀ b∈ch,(b∈X.ex\/X.s₀.heap.objs.size<=b)/\b ≠ X.env.locals/\(∀ x c,X.env.cells.lookup x=some c->c ≠ b)/\∀ p∈X.pn++pins,p.1 ≠ b) :
  Inv X pins σ H' { s with heap:=h',gens:=g',drawn:=d',toks:=t' }:=by
 obtain ⟨m,⟨o,es,ep,ho,r⟩,_⟩:=id I.loc
 obtain ⟨sl,hL⟩:=u.any ho I.free λ z=>(hch _ z).2.1 rfl
 exact I.step (ch:=ch) hch (λ b o hL hb hc e n=>u.keep b o e n (λ z=>(List.mem_cons.mp (I.stkSub b z)).elim hL hb) hc) (λ b o _ _ hc e n=>u.any e n hc) (λ b o hc e n=>u.free b o e n hc) (λ b o hc e=>u.there b o e hc) u.tups u.frzs u.tbls (λ m' hm=>by
  obtain ⟨o',es',ep',ho',r'⟩:=hm
  rw [ho] at ho';cases ho'
  exact ⟨_,es',ep',hL,r'⟩) hok hg
theorem Inv.turned {t':Nat}{it:Addr}(I:Inv X pins σ H s) (k:∀ b o,b ≠ it->s.heap.get? b=some o->h'.get? b=some o) (hn:H it=none) (hL:it ≠ X.env.locals)
  (h1:it∈X.ex\/X.s₀.heap.objs.size<=it) (h2:∀ x c,X.env.cells.lookup x=some c->c ≠ it) (h3:∀ p∈X.pn++pins,p.1 ≠ it):Inv X pins σ H { s with heap:=h',toks:=t' }:=by
 have nit:∀ b u,H b=some u->b ≠ it:=λ b u e z=>by rw [z,hn] at e;cases e
 refine I.step (g':=s.gens) (d':=s.drawn) (ch:=[it]) (λ b hb=>?_) (λ b o _ _ hc e _=>k b o (λ z=>hc (by simp [z])) e) (λ b o _ _ hc e _=>⟨o.slots,k b o (λ z=>hc (by simp [z])) e⟩) (λ _ _ _ _ n=>n)
  (λ b o hc e=>⟨o,k b o (λ z=>hc (by simp [z])) e⟩) (λ _ _ e=>e) (λ _ _ _ e=>e) (λ b ps e=>⟨#[],by rw [e];simp⟩) (λ m hm=>?_) (λ b u e=>?_) I.bare
 ·have e:b=it:=by simpa using hb
  subst e
  exact ⟨h1,hL,h2,h3⟩
 ·obtain ⟨o,es,ep,ho,r⟩:=hm
  exact ⟨o,es,ep,k _ o (Ne.symm hL) ho,r⟩
 ·refine (I.hok b u e).stay (λ c v hc q=>k c v ?_ q) (λ _ q=>q) λ _ _ q=>q
  rcases hc with z|z
  ·rw [z];exact nit b u e
  ·exact nit c _ z
theorem Inv.tok (I:Inv X pins σ H s) (t:Nat):Inv X pins σ H { s with toks:=t }:=I.un (h':=s.heap) (t':=t) Un.refl I.hok
theorem Inv.kept {t':Nat}(I:Inv X pins σ H s) (k:∀ b u,s.heap.get? b=some u->h'.get? b=some u):Inv X pins σ H { s with heap:=h',toks:=t' }:=I.un (Un.kept k) (I.hok.kept k)
theorem Inv.laid {a:Addr}{o:HO}{t':Nat}(I:Inv X pins σ H s) (k:∀ b u,s.heap.get? b=some u->h'.get? b=some u) (hp:s.heap.objs.size<=a) (new:ObjOk X.prog X.w (upd H a o) h' a o) :
  Inv X pins σ (upd H a o) { s with heap:=h',toks:=t' }:=I.un (Un.laid k hp (I.hok.fresh hp)) (I.hok.laid k hp new)
theorem Inv.write {x e:Addr}{o:HO}{t':Nat}(I:Inv X pins σ H s) (mu:Mut (H x)) (he:e=x\/H e=some (.own x)) (k:∀ b u,b ≠ e->s.heap.get? b=some u->h'.get? b=some u) (heo:∃ u,h'.get? e=some u)
  (new:ObjOk X.prog X.w (upd H x o) h' x o):Inv X pins σ (upd H x o) { s with heap:=h',toks:=t' }:=I.un (Un.write mu he k heo) (I.hok.write mu he k heo new)
theorem Inv.weak {σ':List (Option V)}(I:Inv X pins σ H s) (hl:σ'.length=σ.length) (w:∀ (i:Nat) v,σ'[i]? = some (some v)->σ[i]? = some (some v)):Inv X pins σ' H s:=
 ⟨I.ok,I.os,I.bare,I.base,let ⟨m,hn,hl'⟩:=I.loc;⟨m,hn,λ i x v e1 e2 e3=>hl' i x v e1 (w i v e2) e3⟩,I.cell,I.free,I.freeC,I.pin,I.hok,hl.trans I.len⟩
theorem Inv.pins_of {pins':List (Addr × Obj)}(I:Inv X pins σ H s) (h:∀ p∈pins',s.heap.get? p.1=some p.2/\H p.1=none/\p.1 ≠ X.env.locals/\p.1 ∉ X.fs/\∀ v,p.2.data ≠ .cell v):Inv X pins' σ H s:=
 ⟨I.ok,I.os,I.bare,I.base,I.loc,I.cell,I.free,I.freeC,λ p hp=>(List.mem_append.mp hp).elim (λ z=>I.pin p (List.mem_append_left _ z)) (h p),I.hok,I.len⟩
theorem nodup_ix {N:List Str}(hN:N.Nodup){i j:Nat}{x:Str}(a:N[i]? = some x) (b:N[j]? = some x):i=j:=by
 obtain ⟨h1,e1⟩:=List.getElem?_eq_some_iff.mp a
 obtain ⟨h2,e2⟩:=List.getElem?_eq_some_iff.mp b
 exact (List.getElem_inj hN).mp (e1.trans e2.symm)
theorem store_ok2 {M:Model}{A:Around}{E:Value->Shared->Prop}{i:Nat}{x:Str}{v:V}{u:Value}{Q:Unit->Shared->Prop}(I:Inv X pins σ H s) (hN:X.N.Nodup) (hi:X.N[i]? = some x) (hx:Loc X.env.scope x) (r:RelV v u)
  (h:∀ s',Inv X pins (σ.set i (some v)) H s'->(∃ a,Heap.SameBut a s.heap s'.heap/\(a=X.env.locals\/X.env.cells.lookup x=some a))->Q () s') (hf:X.fn x=true\/X.env.scope.names.lookup x=some .local:=by first|exact .inl rfl|exact .inr rfl|assumption):wpAny M A (storeName X.env x u) Q E s:=by
 obtain ⟨m,hn,hl⟩:=id I.loc
 have hcls:(X.env.scope.kind == .class || (X.env.scope.kind == .module && X.env.locals != X.env.globals))=false:=by rw [I.ok.kind];rfl
 have hiσ:i < σ.length:=by rw [I.len];exact (List.getElem?_eq_some_iff.mp hi).1
 have cne:=I.cne
 have tracked:∀ {a:Addr} {h':Heap},(∃ o,s.heap.get? a=some o/\H a=none)->Heap.SameBut a s.heap h'->HOk X.prog X.w H h':=λ {a h'} ha hs b ob e=>by
  obtain ⟨_,_,hfree⟩:=ha
  refine (I.hok b ob e).stay (λ c w' hc q=>(hs.2 c ?_).trans q) (λ _ q=>q) λ _ _ q=>q
  rintro rfl
  rcases hc with rfl|hc
  ·rw [hfree] at e;cases e
  ·rw [hfree] at hc;cases hc
 rcases hx with hk|hk
 ·refine wpAny_storeName_local hk hn (λ h' hn' hs=>?_) hcls
  obtain ⟨oL,_,_,hoL,_⟩:=id hn
  refine h _ ⟨I.ok,I.os,I.bare,⟨λ b o e n hb hx=>?_,λ b o e n hb hx=>?_,I.base.free,λ b o e hx=>?_,I.base.tups,I.base.frzs,I.base.tbls⟩,⟨_,hn',λ j y v' e1 e2 e3=>?_⟩,λ y c e=>?_,I.free,I.freeC,λ p hp=>?_,tracked ⟨oL,hoL,I.free⟩ hs,by simpa using I.len⟩ ⟨_,hs,.inl rfl⟩
  ·exact (hs.2 b (Nat.ne_of_lt (Nat.lt_of_lt_of_le (Heap.lt_size e) I.ok.above))).trans (I.base.keep b o e n hb hx)
  ·obtain ⟨sl,e1⟩:=I.base.slot b o e n hb hx
   exact ⟨sl,(hs.2 b (Nat.ne_of_lt (Nat.lt_of_lt_of_le (Heap.lt_size e) I.ok.above))).trans e1⟩
  ·obtain ⟨o',e1⟩:=I.base.there b o e hx
   exact ⟨o',(hs.2 b (Nat.ne_of_lt (Nat.lt_of_lt_of_le (Heap.lt_size e) I.ok.above))).trans e1⟩
  ·by_cases hj:j=i
   ·subst hj
    rw [hi] at e1;cases e1
    rw [List.getElem?_set_self hiσ] at e2
    cases e2
    exact ⟨u,r,.inl ⟨hk,by simp⟩⟩
   ·rw [List.getElem?_set_ne (Ne.symm hj)] at e2
    obtain ⟨u',r',q⟩:=hl j y v' e1 e2 e3
    refine ⟨u',r',?_⟩
    rcases q with ⟨k,e⟩|⟨k,c,e,z⟩
    ·refine .inl ⟨k,?_⟩
     have:y ≠ x:=λ e=>hj (nodup_ix hN e1 (e ▸ hi))
     simp [this,e]
    ·exact .inr ⟨k,c,e,z.sameBut hs (cne y c e)⟩
  ·obtain ⟨w',z⟩:=I.cell y c e
   exact ⟨w',z.sameBut hs (cne y c e)⟩
  ·obtain ⟨e,n,ne,nf,d⟩:=I.pin p hp
   exact ⟨(hs.2 p.1 ne).trans e,n,ne,nf,d⟩
 ·have hfn:X.fn x=true:=by
   rcases hf with z|z
   ·exact z
   ·rw [z] at hk;cases hk
  obtain ⟨c,hc⟩:=I.ok.has x (.inl hk)
  obtain ⟨w',z⟩:=I.cell x c hc
  refine wpAny_storeName_cell I.ok.kind hk hc z (λ h' hc' hs=>?_)
  obtain ⟨oc,hoc,hocd⟩:=id z
  refine h { s with heap:=h' } ⟨I.ok,I.os,I.bare,⟨λ b o e n hb hx=>?_,λ b o e n hb hx=>?_,I.base.free,λ b o e hx=>?_,I.base.tups,I.base.frzs,I.base.tbls⟩,⟨m,hn.sameBut hs (Ne.symm (cne x c hc)),λ j y v' e1 e2 e3=>?_⟩,λ y c' e=>?_,I.free,I.freeC,λ p hp=>?_,tracked ⟨oc,hoc,I.freeC x c hc⟩ hs,by simpa using I.len⟩ ⟨c,hs,.inr hc⟩
  ·exact (hs.2 b (Nat.ne_of_lt (Nat.lt_of_lt_of_le (Heap.lt_size e) (I.ok.cab x c hfn hc)))).trans (I.base.keep b o e n hb hx)
  ·obtain ⟨sl,e1⟩:=I.base.slot b o e n hb hx
   exact ⟨sl,(hs.2 b (Nat.ne_of_lt (Nat.lt_of_lt_of_le (Heap.lt_size e) (I.ok.cab x c hfn hc)))).trans e1⟩
  ·obtain ⟨o',e1⟩:=I.base.there b o e hx
   exact ⟨o',(hs.2 b (Nat.ne_of_lt (Nat.lt_of_lt_of_le (Heap.lt_size e) (I.ok.cab x c hfn hc)))).trans e1⟩
  ·by_cases hj:j=i
   ·subst hj
    rw [hi] at e1;cases e1
    rw [List.getElem?_set_self hiσ] at e2
    cases e2
    exact ⟨u,r,.inr ⟨.inl hk,c,hc,hc'⟩⟩
   ·rw [List.getElem?_set_ne (Ne.symm hj)] at e2
    obtain ⟨u',r',q⟩:=hl j y v' e1 e2 e3
    refine ⟨u',r',?_⟩
    rcases q with q|⟨k,c',e,z'⟩
    ·exact .inl q
    ·refine .inr ⟨k,c',e,z'.sameBut hs ?_⟩
     rintro rfl
     exact hj (nodup_ix hN e1 (I.ok.inj _ _ _ e hc ▸ hi))
  ·by_cases hcc:c'=c
   ·subst hcc;exact ⟨_,hc'⟩
   ·obtain ⟨w2,z2⟩:=I.cell y c' e
    exact ⟨w2,z2.sameBut hs hcc⟩
  ·obtain ⟨e,n,ne,nf,d⟩:=I.pin p hp
   refine ⟨(hs.2 p.1 ?_).trans e,n,ne,nf,d⟩
   intro q
   rw [q,hoc] at e
   have q':oc=p.2:=Option.some.inj e
   exact d w' (by rw [←q'];exact hocd)
theorem store_ok {M:Model}{A:Around}{E:Value->Shared->Prop}{i:Nat}{x:Str}{v:V}{u:Value}{Q:Unit->Shared->Prop}(I:Inv X pins σ H s) (hN:X.N.Nodup) (hi:X.N[i]? = some x) (hx:Loc X.env.scope x) (r:RelV v u)
  (h:∀ s',Inv X pins (σ.set i (some v)) H s'->Q () s') (hf:X.fn x=true\/X.env.scope.names.lookup x=some .local:=by first|exact .inl rfl|exact .inr rfl|assumption):wpAny M A (storeName X.env x u) Q E s:=
 store_ok2 I hN hi hx r (λ s' I' _=>h s' I') hf
theorem Inv.call' {s':Shared}{ch:List Addr}(I:Inv X pins σ H s) (ho:s'.os=s.os) (u:Un (frs X.stack) ch H H' s.heap s'.heap) (hok:HOk X.prog X.w H' s'.heap) (hg:AllBare s'.gens)
  (hch:∀ b∈ch,(b∈X.ex\/X.s₀.heap.objs.size<=b)/\b ≠ X.env.locals/\(∀ x c,X.env.cells.lookup x=some c->c ≠ b)/\∀ p∈X.pn++pins,p.1 ≠ b):Inv X pins σ H' s':=by
 obtain ⟨h',g',d',t',o'⟩:=s'
 have e:o'=s.os:=ho
 subst e
 exact I.call (g':=g') (t':=t') (d':=d') u hok hg hch
end
abbrev XK:=Value->Option Addr->Hp->Prop
abbrev St:=List (Option V)
abbrev VK:=V->Hp->Prop
abbrev TE:=St->Hp->VK->Prop
abbrev TT:=St->Hp->(Bool->Hp->Prop)->Prop
abbrev TA:=St->Hp->(List V->Hp->Prop)->Prop
structure Ends where
 nx:St->Hp->Prop
 rt:VK
 bk:St->Hp->Prop:=λ _ _=>False
 ct:St->Hp->Prop:=λ _ _=>False
abbrev TS:=Ends->St->Hp->Prop
def EP (X:Cx) (pins:List (Addr × Obj)) (σ:St) (Q:VK) (u:Value) (s':Shared):Prop:=∃ v H',Inv X pins σ H' s'/\RelV v u/\Q v H'
def TP (X:Cx) (pins:List (Addr × Obj)) (σ:St) (Q:Bool->Hp->Prop) (b:Bool) (s':Shared):Prop:=∃ H',Inv X pins σ H' s'/\Q b H'
def AP (X:Cx) (pins:List (Addr × Obj)) (σ:St) (Q:List V->Hp->Prop) (us:List Value) (s':Shared):Prop:=∃ vs H',Inv X pins σ H' s'/\Vals vs us/\Q vs H'
def SP (X:Cx) (pins:List (Addr × Obj)) (D:Ends) (f:Flow) (s':Shared):Prop:=
 match f with
 | .next=>∃ σ' H',Inv X pins σ' H' s'/\D.nx σ' H'
 | .brk=>∃ σ' H',Inv X pins σ' H' s'/\D.bk σ' H'
 | .cont=>∃ σ' H',Inv X pins σ' H' s'/\D.ct σ' H'
 | .ret u=>∃ v σ' H',Inv X pins σ' H' s'/\RelV v u/\D.rt v H'
def PE (X:Cx) (e:Expr) (t:TE):Prop:=
 ∀ (pins:List (Addr × Obj)) (s:Shared) (σ:St) (H:Hp) (Q:VK),Inv X pins σ H s->t σ H Q->wpAny (model X.prog X.w) X.A (eval e X.env) (EP X pins σ Q) X.xe s
def PT (X:Cx) (e:Expr) (t:TT):Prop:=
 ∀ (pins:List (Addr × Obj)) (s:Shared) (σ:St) (H:Hp) (Q:Bool->Hp->Prop),Inv X pins σ H s->t σ H Q->wpAny (model X.prog X.w) X.A (isTrue e X.env (eval e X.env)) (TP X pins σ Q) X.xe s
def PW (X:Cx) (e:Expr) (t:TT):Prop:=
 ∀ (whole:Sem Value) (pins:List (Addr × Obj)) (s:Shared) (σ:St) (H:Hp) (Q:Bool->Hp->Prop),Inv X pins σ H s->t σ H Q->wpAny (model X.prog X.w) X.A (isTrue e X.env whole) (TP X pins σ Q) X.xe s
theorem PW.pt {X:Cx}{e:Expr}{t:TT}(h:PW X e t):PT X e t:=h _
def PA (X:Cx) (es:List Expr) (t:TA):Prop:=
 ∀ (pos:Pos) (pins:List (Addr × Obj)) (s:Shared) (σ:St) (H:Hp) (Q:List V->Hp->Prop),Inv X pins σ H s->t σ H Q->wpAny (model X.prog X.w) X.A (spliced (backTo pos (starEach es X.env))) (AP X pins σ Q) X.xe s
def PS (X:Cx) (st:Stmt) (t:TS):Prop:=
 ∀ (pins:List (Addr × Obj)) (s:Shared) (σ:St) (H:Hp) (D:Ends),Inv X pins σ H s->t D σ H->wpAny (model X.prog X.w) X.A (exec st X.env) (SP X pins D) X.xe s
def PSs (X:Cx) (st:List Stmt) (t:TS):Prop:=
 ∀ (pins:List (Addr × Obj)) (s:Shared) (σ:St) (H:Hp) (D:Ends),Inv X pins σ H s->t D σ H->wpAny (model X.prog X.w) X.A (execs st X.env) (SP X pins D) X.xe s
theorem thn {α:Type}{t:Sem α}{Q Q':α->Shared->Prop}{M:Model}{A:Around}{E:Value->Shared->Prop}{s:Shared}(h:wpAny M A t Q E s) (hQ:∀ a s,Q a s->Q' a s):wpAny M A t Q' E s:=wpAny_mono h hQ λ _ _ x=>x
end L2
namespace L2
open PySem PySem.Spec PyProof.Rows
section
variable {X:Cx}
def tVar (i:Nat):TE:=λ σ H Q=>∃ v,σ[i]? = some (some v)/\Q v H
def tC (v:V):TE:=λ _ H Q=>Q v H
theorem pe_var {i:Nat}{x:Str}{pos:Pos}(hN:X.N[i]? = some x) (hv:Vis X.env.scope x) (hd:(x == ("__debug__":Str))=false:=by decide) (hcd:(x == ("__classdict__":Str))=false:=by decide):PE X (.Name x pos) (tVar i):=by
 intro pins s σ H Q I h
 obtain ⟨v,e,h⟩:=h
 obtain ⟨m,hn,hl⟩:=I.loc
 obtain ⟨u,r,l⟩:=hl i x v hN e hv
 have fin:EP X pins σ Q u s:=⟨v,H,I,r,h⟩
 rcases l with ⟨hk,hm⟩|⟨hk,c,hc,hcell⟩
 ·exact wpAny_Name (wpAny_loadName_local I.ok.kind hk hn hm fin) hd
 ·rcases hk with hk|hk
  ·exact wpAny_Name (wpAny_loadName_cell I.ok.kind hk hc hcell fin) hd
  ·exact wpAny_Name (wpAny_loadName_free I.ok.kind hk hc hcell fin hcd) hd
theorem pe_int {i j pos}:PE X (.Constant (.int i) j pos) (tC (.int i)):=λ _ _ _ H _ I h=>wpAny_Constant_int ⟨.int i,H,I.tok _,⟨_,rfl⟩,h⟩
theorem pe_bl {b j pos}:PE X (.Constant (.bool b) j pos) (tC (.bl b)):=λ _ _ _ H _ I h=>Constant_bool ⟨.bl b,H,I,rfl,h⟩
theorem pe_non {j pos}:PE X (.Constant .none j pos) (tC .non):=λ _ _ _ H _ I h=>Constant_none ⟨.non,H,I,rfl,h⟩
def Gl (X:Cx) (x:Str):Prop:=X.env.kindOf x=some .globalImplicit
theorem ld_glob {E:Value->Shared->Prop}{pins:List (Addr × Obj)}{s:Shared}{σ:St}{H:Hp}{x:Str}{u:Value}{pos:Pos}{Q:Value->Shared->Prop}(I:Inv X pins σ H s) (hg:Gl X x) (hm:X.mg x=some u) (h:Q u s)
  (hd:(x == ("__debug__":Str))=false:=by decide):wpAny (model X.prog X.w) X.A (eval (.Name x pos) X.env) Q E s:=
 Calls.Name_function_global I.ok.kind hg (Calls.loadGlobal_global (by rw [I.ok.glob];exact I.mod.glob.keeps I.bk) hm h) hd
theorem ld_blt {E:Value->Shared->Prop}{pins:List (Addr × Obj)}{s:Shared}{σ:St}{H:Hp}{x:Str}{u:Value}{pos:Pos}{Q:Value->Shared->Prop}(I:Inv X pins σ H s) (hg:Gl X x) (hm:X.mg x=none) (hv:bootBuiltins x=some u) (h:Q u s)
  (hn:x ≠ "__name__":=by decide) (hd:(x == ("__debug__":Str))=false:=by decide):wpAny (model X.prog X.w) X.A (eval (.Name x pos) X.env) Q E s:=by
 obtain ⟨mb,h1,h2⟩:=I.mod.blt
 exact Calls.Name_function_global I.ok.kind hg (Calls.loadGlobal_builtin (by rw [I.ok.glob];exact I.mod.glob.keeps I.bk) hm (by rw [I.ok.blt];exact h1.keeps I.bk) ((h2 x hn).trans hv) h) hd
theorem pe_glob {x:Str}{v:V}{u:Value}{pos:Pos}(hg:Gl X x) (hm:X.mg x=some u) (r:RelV v u) (hd:(x == ("__debug__":Str))=false:=by decide):PE X (.Name x pos) (tC v):=
 λ _ _ _ H _ I h=>ld_glob I hg hm ⟨v,H,I,r,h⟩ hd
theorem pe_bltn {x:Str}{v:V}{u:Value}{pos:Pos}(hg:Gl X x) (hm:X.mg x=none) (hv:bootBuiltins x=some u) (r:RelV v u) (hn:x ≠ "__name__":=by decide) (hd:(x == ("__debug__":Str))=false:=by decide):PE X (.Name x pos) (tC v):=
 λ _ _ _ H _ I h=>ld_blt I hg hm hv ⟨v,H,I,r,h⟩ hn hd
variable {a b:Expr}{ta tb:TE}{pos:Pos}
def tB (t:TE):TT:=λ σ H Q=>t σ H λ x H1=>∃ c,x=.bl c/\Q c H1
theorem pt_val {e:Expr}{t:TE}(h:PE X e t) (he:∀ whole,isTrue e X.env whole=(do let v ←whole;standAt e.pos;holding [v] (truthy v)):=by intro _;rfl):PT X e (tB t):=by
 intro pins s σ H Q I hw
 refine isTrue_plain (thn (h pins s σ H _ I hw) λ v s1 ⟨x,H1,I1,r1,q1⟩=>?_) (he _)
 obtain ⟨d,rfl,q⟩:=q1
 cases r1
 exact wpAny_truthy_bool ⟨H1,I1,q⟩
variable {tA tB':TT}{rest:List Expr}
def tAnd (t u:TT):TT:=λ σ H Q=>t σ H λ c H1=>if c=true then u σ H1 Q else Q false H1
def tOr (t u:TT):TT:=λ σ H Q=>t σ H λ c H1=>if c=true then Q true H1 else u σ H1 Q
def tNot (t:TT):TT:=λ σ H Q=>t σ H λ c H1=>Q (!c) H1
theorem pw_and1 (ha:PT X a tA):PW X (.BoolOp .And [a] pos) tA:=by
 intro wh pins s σ H Q I h
 refine isTrue_and (thn (ha pins s σ H Q I h) λ c s1 e=>?_)
 cases c with
 | true=>exact isTrue_and_nil e
 | false=>exact e
theorem pw_or1 (ha:PT X a tA):PW X (.BoolOp .Or [a] pos) tA:=by
 intro wh pins s σ H Q I h
 refine isTrue_or (thn (ha pins s σ H Q I h) λ c s1 e=>?_)
 cases c with
 | false=>exact isTrue_or_nil e
 | true=>exact e
theorem pw_and (ha:PT X a tA) (hb:PW X (.BoolOp .And (b::rest) pos) tB'):PW X (.BoolOp .And (a::b::rest) pos) (tAnd tA tB'):=by
 intro wh pins s σ H Q I h
 refine isTrue_and (thn (ha pins s σ H _ I h) λ c s1 ⟨H1,I1,q1⟩=>?_)
 cases c with
 | true=>exact hb wh pins s1 σ H1 Q I1 q1
 | false=>exact ⟨H1,I1,q1⟩
theorem pw_or (ha:PT X a tA) (hb:PW X (.BoolOp .Or (b::rest) pos) tB'):PW X (.BoolOp .Or (a::b::rest) pos) (tOr tA tB'):=by
 intro wh pins s σ H Q I h
 refine isTrue_or (thn (ha pins s σ H _ I h) λ c s1 ⟨H1,I1,q1⟩=>?_)
 cases c with
 | true=>exact ⟨H1,I1,q1⟩
 | false=>exact hb wh pins s1 σ H1 Q I1 q1
theorem pt_not (ha:PT X a tA):PT X (.UnaryOp .Not a pos) (tNot tA):=by
 intro pins s σ H Q I h
 exact isTrue_not (ha pins s σ H (λ c H1=>Q (!c) H1) I h)
def tAndV (ta tb:TE):TE:=λ σ H Q=>ta σ H λ x H1=>∃ c,x=.bl c/\if c=true then tb σ H1 Q else Q (.bl false) H1
def tNotV (ta:TE):TE:=λ σ H Q=>ta σ H λ x H1=>∃ c,x=.bl c/\Q (.bl (!c)) H1
theorem pe_one {op}{t:TE}(h:PE X a t):PE X (.BoolOp op [a] pos) t:=λ pins s σ H Q I hw=>BoolOp_one (h pins s σ H Q I hw)
theorem pe_and (ha:PE X a ta) (hb:PE X (.BoolOp .And (b::rest) pos) tb):PE X (.BoolOp .And (a::b::rest) pos) (tAndV ta tb):=by
 intro pins s σ H Q I h
 refine BoolOp_and (thn (ha pins s σ H _ I h) λ v s1 ⟨x,H1,I1,r1,q1⟩=>?_)
 obtain ⟨c,rfl,q1⟩:=q1
 cases r1
 refine wpAny_truthy_bool ?_
 cases c with
 | true=>exact hb pins s1 σ H1 Q I1 q1
 | false=>exact ⟨.bl false,H1,I1,rfl,q1⟩
theorem pe_not (ha:PE X a ta):PE X (.UnaryOp .Not a pos) (tNotV ta):=by
 intro pins s σ H Q I h
 refine UnaryOp_ (thn (ha pins s σ H _ I h) λ v s1 ⟨x,H1,I1,r1,q1⟩=>?_)
 obtain ⟨c,rfl,q1⟩:=q1
 cases r1
 exact not_of (wpAny_truthy_bool ⟨.bl (!c),H1,I1,rfl,q1⟩)
def tIf (t:TT) (ta tb:TE):TE:=λ σ H Q=>t σ H λ c H1=>if c=true then ta σ H1 Q else tb σ H1 Q
theorem pe_ifExp {c:Expr}(hc:PT X c tA) (ha:PE X a ta) (hb:PE X b tb):PE X (.IfExp c a b pos) (tIf tA ta tb):=by
 intro pins s σ H Q I h
 refine wpAny_IfExp (thn (hc pins s σ H _ I h) λ d s1 ⟨H1,I1,q1⟩=>?_)
 cases d with
 | true=>exact ha pins s1 σ H1 Q I1 q1
 | false=>exact hb pins s1 σ H1 Q I1 q1
end
end L2
namespace L2
open PySem PySem.Spec PyProof.Rows
def SqL (K:W.Frag) (H:Hp) (a:Addr) (xs:List V):Prop:=
 Rd H a (.lst xs) \/
  ∃ (o:Obj) (its:Array Value) (n:Nat),K.lookup a=some o/\o.cls=.type "list" /\ o.dict=none/\o.data=.seq its n/\its.size<=sizeLine/\Vals xs its.toList
def SqT (K:W.Frag) (H:Hp) (a:Addr) (xs:List V):Prop:=
 Rd H a (.tup xs) \/
  ∃ (o:Obj) (its:Array Value) (n:Nat),K.lookup a=some o/\o.cls=.type "tuple" /\ o.data=.seq its n/\its.size<=sizeLine/\Vals xs its.toList
def absV:Value->Option V
 | .none=>some .non
 | .bool b=>some (.bl b)
 | .int i _=>some (.int i)
 | .str x _=>some (.str x)
 | .bytes b _=>some (.byt b)
 | .float b _=>some (.flt b)
 | .ref a=>some (.ref a)
 | .type n=>some (.ty n)
 | _=>none
theorem RelV.abs {x:V}{u:Value}(r:RelV x u):absV u=some x:=by
 cases x with
 | non=>cases r;rfl
 | bl _=>cases r;rfl
 | int _=>obtain ⟨t,rfl⟩:=r;rfl
 | str _=>obtain ⟨t,rfl⟩:=r;rfl
 | byt _=>obtain ⟨t,rfl⟩:=r;rfl
 | flt _=>obtain ⟨t,rfl⟩:=r;rfl
 | ref _=>cases r;rfl
 | ty _=>cases r;rfl
theorem RelV.inj {x y:V}{u:Value}(r:RelV x u) (q:RelV y u):x=y:=Option.some.inj (r.abs.symm.trans q.abs)
theorem Vals.inj:∀ {xs ys:List V}{us:List Value},Vals xs us->Vals ys us->xs=ys
 | _,_,_,.nil,.nil=>rfl
 | _,_,_,.cons r t,.cons r' t'=>by rw [r.inj r',Vals.inj t t']
section
variable {X:Cx}{pins:List (Addr × Obj)}{σ:St}{H:Hp}{s:Shared}{a:Addr}{xs ys:List V}
theorem SqL.of {K:W.Frag}(h:H a=some (.lst xs)):SqL K H a xs:=.inl (.inl h)
theorem SqT.of {K:W.Frag}(h:H a=some (.tup xs)):SqT K H a xs:=.inl (.inl h)
theorem Inv.list (I:Inv X pins σ H s) (h:SqL X.K H a xs):∃ its:List Value,Vals xs its/\PlainL s.heap a its.toArray/\xs.length<=sizeLine:=by
 rcases h with h|⟨o,its,n,hk,hc,hd,hs,hz,r⟩
 ·obtain ⟨z,its,n,r,e⟩:=h.ok I.hok
  exact ⟨its,r,⟨_,n,e,rfl,rfl,rfl⟩,z⟩
 ·refine ⟨its.toList,r,⟨o,n,I.kIn a o hk,hc,hd,by simpa using hs⟩,?_⟩
  have e:=r.length
  simp only [Array.length_toList] at e
  omega
theorem Inv.tuple (I:Inv X pins σ H s) (h:SqT X.K H a xs):∃ its:List Value,Vals xs its/\IsTup s.heap a its.toArray/\xs.length<=sizeLine:=by
 rcases h with h|⟨o,its,n,hk,hc,hs,hz,r⟩
 ·obtain ⟨z,its,r,p⟩:=h.ok I.hok
  exact ⟨its,r,p,z⟩
 ·refine ⟨its.toList,r,⟨o,I.kIn a o hk,hc,n,by simpa using hs⟩,?_⟩
  have e:=r.length
  simp only [Array.length_toList] at e
  omega
theorem Inv.list_inj (I:Inv X pins σ H s) (h:SqL X.K H a xs) (h':SqL X.K H a ys):xs=ys:=by
 obtain ⟨its,r,⟨o,n,e,_,_,d⟩,_⟩:=I.list h
 obtain ⟨its',r',⟨o',n',e',_,_,d'⟩,_⟩:=I.list h'
 rw [e] at e';cases e'
 rw [d] at d'
 injection d' with d1 _
 have:its=its':=by simpa using congrArg Array.toList d1
 subst this
 exact r.inj r'
theorem Inv.tuple_inj (I:Inv X pins σ H s) (h:SqT X.K H a xs) (h':SqT X.K H a ys):xs=ys:=by
 obtain ⟨its,r,⟨o,e,_,n,d⟩,_⟩:=I.tuple h
 obtain ⟨its',r',⟨o',e',_,n',d'⟩,_⟩:=I.tuple h'
 rw [e] at e';cases e'
 rw [d] at d'
 injection d' with d1 _
 have:its=its':=by simpa using congrArg Array.toList d1
 subst this
 exact r.inj r'
end
abbrev Cx.wish (X:Cx) (E:Value->Shared->Prop):Cx:={ X with xe:=E }
abbrev Cx.nox (X:Cx):Cx:=X.wish λ _ _=>False
theorem Cx.Ok.wish {X:Cx}(ok:X.Ok) (E:Value->Shared->Prop):(X.wish E).Ok:=
 ⟨ok.mod,ok.kind,ok.glob,ok.blt,ok.above,ok.inj,ok.has,ok.cab,ok.hd,ok.frames,ok.stk,ok.exf,ok.bs,ok.bsz,ok.noex,ok.exfs,ok.funs,ok.frf⟩
theorem Cx.Ok.unwish {X:Cx}{E:Value->Shared->Prop}(ok:(X.wish E).Ok):X.Ok:=
 ⟨ok.mod,ok.kind,ok.glob,ok.blt,ok.above,ok.inj,ok.has,ok.cab,ok.hd,ok.frames,ok.stk,ok.exf,ok.bs,ok.bsz,ok.noex,ok.exfs,ok.funs,ok.frf⟩
section
variable {X:Cx}{pins:List (Addr × Obj)}{σ:St}{H:Hp}{s:Shared}{E:Value->Shared->Prop}
theorem Inv.wish (I:Inv X pins σ H s) (E:Value->Shared->Prop):Inv (X.wish E) pins σ H s:=⟨I.ok.wish E,I.os,I.bare,I.base,I.loc,I.cell,I.free,I.freeC,I.pin,I.hok,I.len⟩
theorem Inv.unwish (I:Inv (X.wish E) pins σ H s):Inv X pins σ H s:=⟨I.ok.unwish,I.os,I.bare,I.base,I.loc,I.cell,I.free,I.freeC,I.pin,I.hok,I.len⟩
theorem SP.unwish {D:Ends}{f:Flow}{s':Shared}(h:SP (X.wish E) pins D f s'):SP X pins D f s':=by
 cases f with
 | next=>obtain ⟨σ',H',I,q⟩:=h;exact ⟨σ',H',I.unwish,q⟩
 | brk=>obtain ⟨σ',H',I,q⟩:=h;exact ⟨σ',H',I.unwish,q⟩
 | cont=>obtain ⟨σ',H',I,q⟩:=h;exact ⟨σ',H',I.unwish,q⟩
 | ret u=>obtain ⟨v,σ',H',I,r,q⟩:=h;exact ⟨v,σ',H',I.unwish,r,q⟩
theorem PSs.nox {st:List Stmt}{t:TS}(h:PSs X.nox st t):PSs X st t:=λ pins s σ H D I hw=>
 wpAny_mono (h pins s σ H D (I.wish _) hw) (λ _ _ q=>q.unwish) λ _ _ z=>False.elim z
end
section
variable {X:Cx}{st:Stmt}{rest:List Stmt}{t u:TS}{e:Expr}{te:TE}{pos:Pos}
def tNext:TS:=λ D σ H=>D.nx σ H
def tSeq (t u:TS):TS:=λ D σ H=>t { D with nx:=u D } σ H
theorem pss_nil:PSs X [] tNext:=λ _ _ σ H _ I h=>wpAny_execs_nil ⟨σ,H,I,h⟩
theorem pss_cons (h1:PS X st t) (h2:PSs X rest u):PSs X (st::rest) (tSeq t u):=by
 intro pins s σ H D I h
 refine wpAny_execs_cons (thn (h1 pins s σ H { D with nx:=u D } I h) λ f s1 q=>?_)
 cases f with
 | next=>
  obtain ⟨σ',H',I',q⟩:=q
  exact h2 pins s1 σ' H' D I' q
 | ret v=>exact q
 | brk=>exact q
 | cont=>exact q
theorem pss_one (h1:PS X st t):PSs X [st] t:=by
 intro pins s σ H D I h
 refine wpAny_execs_cons (thn (h1 pins s σ H D I h) λ f s1 q=>?_)
 cases f with
 | next=>exact wpAny_execs_nil q
 | ret v=>exact q
 | brk=>exact q
 | cont=>exact q
theorem Inv.quiet {pins:List (Addr × Obj)}{σ:St}{H:Hp}{s:Shared}(I:Inv X pins σ H s):interactive X.env=false:=by simp [interactive,I.ok.kind]
def tDrop (te:TE):TS:=λ D σ H=>te σ H λ _ H1=>D.nx σ H1
theorem ps_expr (he:PE X e te) (hs:swapsWith e none pos.line X.env=pure false:=by rfl):PS X (.Expr e pos) (tDrop te):=by
 intro pins s σ H D I h
 exact wpAny_Expr_any (thn (he pins s σ H _ I h) λ v s1 ⟨x,H1,I1,r1,q1⟩=>⟨σ,H1,I1,q1⟩) I.quiet hs
def tRet (te:TE):TS:=λ D σ H=>te σ H D.rt
theorem ps_ret (he:PE X e te):PS X (.Return (some e) pos) (tRet te):=by
 intro pins s σ H D I h
 exact wpAny_Return_some (thn (he pins s σ H _ I h) λ v s1 ⟨x,H1,I1,r1,q1⟩=>⟨x,σ,H1,I1,r1,q1⟩)
def tIfS (c:TT) (t u:TS):TS:=λ D σ H=>c σ H λ b H1=>if b=true then t D σ H1 else u D σ H1
theorem ps_if {c:Expr}{a b:List Stmt}{tc:TT}(hc:PT X c tc) (ha:PSs X a t) (hb:PSs X b u):PS X (.If c a b pos) (tIfS tc t u):=by
 intro pins s σ H D I h
 refine wpAny_If (thn (hc pins s σ H _ I h) λ d s1 ⟨H1,I1,q1⟩=>?_)
 cases d with
 | true=>exact ha pins s1 σ H1 D I1 q1
 | false=>exact hb pins s1 σ H1 D I1 q1
def tNever:TS:=λ _ _ _=>False
theorem ps_never:PS X st tNever:=λ _ _ _ _ _ _ h=>h.elim
end
abbrev TG:=V->St->Hp->(St->Hp->Prop)->Prop
abbrev TGs:=List V->St->Hp->(St->Hp->Prop)->Prop
def PG (X:Cx) (target:Expr) (t:TG):Prop:=
 ∀ (pins:List (Addr × Obj)) (s:Shared) (σ:St) (H:Hp) (v:V) (u:Value) (Q:St->Hp->Prop),Inv X pins σ H s->RelV v u->t v σ H Q →
  wpAny (model X.prog X.w) X.A (assign target X.env u) (λ _ s'=>∃ σ' H',Inv X pins σ' H' s'/\Q σ' H') X.xe s
def PGs (X:Cx) (ts:List Expr) (t:TGs):Prop:=
 ∀ (pins:List (Addr × Obj)) (s:Shared) (σ:St) (H:Hp) (vs:List V) (us:List Value) (Q:St->Hp->Prop),Inv X pins σ H s->Vals vs us->t vs σ H Q →
  wpAny (model X.prog X.w) X.A (assignInOrder ((assignEach ts X.env).map (·.2)) us) (λ _ s'=>∃ σ' H',Inv X pins σ' H' s'/\Q σ' H') X.xe s
abbrev TSet:=V->V->V->Hp->(Hp->Prop)->Prop
def PSet (X:Cx) (t:TSet):Prop:=
 ∀ (pins:List (Addr × Obj)) (s:Shared) (σ:St) (H:Hp) (o i v:V) (ov iv u:Value) (Q:Hp->Prop),Inv X pins σ H s->RelV o ov->RelV i iv->RelV v u->t o i v H Q →
  wpAny (model X.prog X.w) X.A (setItem ov iv u) (λ _ s'=>∃ H',Inv X pins σ H' s'/\Q H') X.xe s
section
variable {X:Cx}{pos:Pos}
def gName (i:Nat):TG:=λ v σ H Q=>Q (σ.set i (some v)) H
theorem pg_name {i:Nat}{x:Str}(hN:X.N.Nodup) (hi:X.N[i]? = some x) (hx:Loc X.env.scope x) (hf:X.fn x=true\/X.env.scope.names.lookup x=some .local:=by first|exact .inl rfl|exact .inr rfl|assumption):PG X (.Name x pos) (gName i):=by
 intro pins s σ H v u Q I r h
 exact wpAny_assign_Name (store_ok I hN hi hx r (λ s' I'=>⟨_,H,I',h⟩) hf)
def gNil:TGs:=λ vs σ H Q=>vs=[]/\Q σ H
def gCons (t:TG) (u:TGs):TGs:=λ vs σ H Q=>∃ v r,vs=v::r/\t v σ H λ σ' H'=>u r σ' H' Q
theorem pgs_nil:PGs X [] gNil:=by
 intro pins s σ H vs us Q I r h
 obtain ⟨e,h⟩:=h
 subst e
 cases r
 exact assignInOrder_nil ⟨σ,H,I,h⟩
theorem pgs_cons {e:Expr}{es:List Expr}{t:TG}{u:TGs}(h1:PG X e t) (h2:PGs X es u)
  (hs:(assignEach (e::es) X.env).map (·.2)=assign e X.env::(assignEach es X.env).map (·.2):=by rfl):PGs X (e::es) (gCons t u):=by
 intro pins s σ H vs us Q I r h
 obtain ⟨v,vr,e1,h⟩:=h
 subst e1
 cases r with
 | cons r rr=>
  rw [hs]
  refine assignInOrder_cons (thn (h1 pins s σ H _ _ _ I r h) λ _ s1 ⟨σ1,H1,I1,q1⟩=>?_)
  exact h2 pins s1 σ1 H1 _ _ Q I1 rr q1
def gTup (K:W.Frag) (n:Nat) (t:TGs):TG:=λ v σ H Q=>∃ a xs,v=.ref a/\SqT K H a xs/\xs.length=n/\t xs σ H Q
theorem pg_tup {es:List Expr}{k:Nat}{t:TGs}{n:Nat}(hc:X.calm=true) (h:PGs X es t)
  (hn:(assignEach es X.env).length=n:=by rfl) (hst:(assignEach es X.env).findIdx? (·.1)=none:=by rfl):PG X (.Tuple es k pos) (gTup X.K n t):=by
 intro pins s σ H v u Q I r hw
 obtain ⟨a,xs,e1,hq,hl,hw⟩:=hw
 subst e1
 cases r
 obtain ⟨its,rv,ht,hz⟩:=I.tuple hq
 refine assign_Tuple_tuple (I.ok.hd hc) ht (by simp [hn,←hl,rv.length]) hst λ h' hx=>?_
 have I1:Inv X pins σ H { s with heap:=h' }:=I.kept (t':=s.toks) λ b o e=>hx b o (Nat.ne_of_lt (Heap.lt_size e)) e
 exact h pins _ σ H xs _ Q I1 (by simpa using rv) hw
def gSub (to ti:TE) (t:TSet):TG:=λ v σ H Q=>to σ H λ o H1=>ti σ H1 λ i H2=>t o i v H2 λ H3=>Q σ H3
theorem pg_sub {o i:Expr}{to ti:TE}{t:TSet}(ho:PE X o to) (hi:PE X i ti) (hs:PSet X t)
  (ha:∀ v,assign (.Subscript o i pos) X.env v=(do
   let ov ←holding [v] (eval o X.env)
   let iv ←holding [v,ov] (eval i X.env)
   standAt pos
   holding [v,ov,iv] (setItem ov iv v)
   release [v,ov,iv] []):=by intro _;rfl):PG X (.Subscript o i pos) (gSub to ti t):=by
 intro pins s σ H v u Q I r h
 rw [ha]
 refine wpAny_bind (wpAny_holding (thn (ho pins s σ H _ I h) λ ov s1 ⟨x,H1,I1,r1,q1⟩=>?_))
 refine wpAny_bind (wpAny_holding (thn (hi pins s1 σ H1 _ I1 q1) λ iv s2 ⟨y,H2,I2,r2,q2⟩=>?_))
 refine wpAny_bind (wpAny_standAt (wpAny_bind (wpAny_holding (thn (hs pins s2 σ H2 x y v ov iv u _ I2 r1 r2 r q2) λ _ s3 ⟨H3,I3,q3⟩=>?_))))
 exact wpAny_release ⟨σ,H3,I3,q3⟩
def tAsg (te:TE) (g:TG):TS:=λ D σ H=>te σ H λ x H1=>g x σ H1 D.nx
theorem ps_asg {tg e:Expr}{te:TE}{g:TG}(he:PE X e te) (hg:PG X tg g) (hs:swapsWithSole [tg] e pos.line X.env=pure false:=by rfl) (hw:swappedStores [tg] e X.env=pure none:=by rfl)
  (h1:(assignEach [tg] X.env).map (·.2)=[assign tg X.env]:=by rfl):PS X (.Assign [tg] e pos) (tAsg te g):=by
 intro pins s σ H D I h
 refine wpAny_Assign_stores (thn (he pins s σ H _ I h) λ v s1 ⟨x,H1,I1,r1,q1⟩=>?_) hs hw
 rw [h1]
 exact thn (hg pins s1 σ H1 x v _ I1 r1 q1) λ _ s2 q=>q
theorem ps_set {i:Nat}{x:Str}{e:Expr}{te:TE}{pos':Pos}(hN:X.N.Nodup) (hi:X.N[i]? = some x) (hx:Loc X.env.scope x) (he:PE X e te) (hs:swapsWith e (some (.Name x pos')) pos.line X.env=pure false:=by rfl) (hf:X.fn x=true\/X.env.scope.names.lookup x=some .local:=by first|exact .inl rfl|exact .inr rfl|assumption) :
  PS X (.Assign [.Name x pos'] e pos) (tAsg te (gName i)):=by
 intro pins s σ H D I h
 refine wpAny_Assign_Name (thn (he pins s σ H _ I h) λ v s1 ⟨y,H1,I1,r1,q1⟩=>?_) hs
 exact store_ok I1 hN hi hx r1 (λ s2 I2=>⟨_,H1,I2,q1⟩) hf
end
section
variable {X:Cx}{pos:Pos}
def tWhile (c:TT) (tb:TS):TS:=λ D σ H=>∃ W:Nat->St->Hp->Prop,(∃ m,W m σ H)/\∀ m σ H,W m σ H →
 c σ H λ b H1=>if b=true then ∃ N:St->Hp->Prop,(∀ σ' H',N σ' H'->∃ m',m' < m/\W m' σ' H')/\tb { D with nx:=N,ct:=N,bk:=D.nx } σ H1 else D.nx σ H1
theorem ps_while {c:Expr}{body:List Stmt}{tc:TT}{tb:TS}(hp:PassesOwn (model X.prog X.w) X.A X.env X.xe) (hc:PT X c tc) (hb:PSs X body tb):PS X (.While c body [] pos) (tWhile tc tb):=by
 intro pins s σ H D I h
 obtain ⟨W,⟨m0,w0⟩,turn⟩:=h
 refine wpAny_While (codeAny_whileLoop (λ n s'=>∃ σ' H',Inv X pins σ' H' s'/\W n σ' H') ?_ m0 ⟨σ,H,I,w0⟩)
 rintro n s1 ⟨σ1,H1,I1,w1⟩
 refine wpAny_passesOwn hp (thn (hc pins s1 σ1 H1 _ I1 (turn n σ1 H1 w1)) λ b s2 ⟨H2,I2,q2⟩=>?_)
 cases b with
 | true=>
  obtain ⟨N,hN,q2⟩:=q2
  rw [if_pos rfl]
  refine wpAny_passesOwn hp (thn (hb pins s2 σ1 H2 _ I2 q2) λ f s3 q3=>?_)
  cases f with
  | next=>
   obtain ⟨σ3,H3,I3,n3⟩:=q3
   obtain ⟨m',hm,w3⟩:=hN σ3 H3 n3
   exact ⟨m',hm,σ3,H3,I3,w3⟩
  | cont=>
   obtain ⟨σ3,H3,I3,n3⟩:=q3
   obtain ⟨m',hm,w3⟩:=hN σ3 H3 n3
   exact ⟨m',hm,σ3,H3,I3,w3⟩
  | brk=>exact q3
  | ret v=>exact q3
 | false=>
  rw [if_neg Bool.false_ne_true]
  exact wpAny_execs_nil ⟨σ1,H2,I2,q2⟩
end
structure It where
 go:Nat->Hp->Prop
 yld:Nat->Hp->V->Hp->Prop
 stop:Nat->Hp->Prop
def FpOk (X:Cx) (pins:List (Addr × Obj)) (H:Hp) (b:Addr):Prop:=
 H b=none/\b ≠ X.env.locals/\b ∉ X.fs/\(b∈X.ex\/X.s₀.heap.objs.size<=b)/\(∀ x c,X.env.cells.lookup x=some c->c ≠ b)/\∀ p∈X.pn++pins,p.1 ≠ b
theorem Inv.fpOk {X:Cx}{pins:List (Addr × Obj)}{σ:St}{H H':Hp}{s:Shared}{b:Addr}(I:Inv X pins σ H s) (hb:s.heap.objs.size<=b) (hn:H' b=none):FpOk X pins H' b:=by
 refine ⟨hn,Nat.ne_of_gt (Nat.lt_of_lt_of_le I.lt hb),I.nofs hb,.inr (Nat.le_trans I.sz hb),λ x c e z=>?_,λ p hp z=>?_⟩
 ·obtain ⟨v,q⟩:=I.cell x c e
  exact absurd (Nat.lt_of_lt_of_le q.lt (by rw [z];exact hb)) (Nat.lt_irrefl _)
 ·exact absurd (Nat.lt_of_lt_of_le (Heap.lt_size (I.pin p hp).1) (by rw [z];exact hb)) (Nat.lt_irrefl _)
structure Turn (P:Program) (w:World) (K:W.Frag) (tg:Expr) (J:It) (fp:List Addr) (it:Addr) (tn:Nat->Heap->Prop):Prop where
 mem:it∈fp
 obj:∀ i h,tn i h->∀ b∈fp,∃ o,h.get? b=some o/\∀ v,o.data ≠ .cell v
 keep:∀ i h h',tn i h->(∀ b∈fp,∀ o,h.get? b=some o->h'.get? b=some o)->tn i h'
 item:∀ (X:Cx),X.prog=P->X.w=w->X.K=K->X.calm=true->∀ (i:Nat) (pins:List (Addr × Obj)) (s:Shared) (σ:St) (H:Hp) (E:Value->Shared->Prop),Inv X pins σ H s->(∀ b∈fp,FpOk X pins H b)->tn i s.heap->J.go i H →
  wpAny (model P w) X.A (pyNext (.ref it)) (λ r s1=>∃ u,r=some u /\
   wpAny (model P w) X.A (letOwnedTupleGo tg (.ref it) u) (λ _ s2=>∃ x H',Inv X pins σ H' s2/\RelV x u/\J.yld i H x H'/\tn (i+1) s2.heap/\∀ b∈fp,H' b=none) E s1) E s
 done:∀ (X:Cx),X.prog=P->X.w=w->X.K=K->X.calm=true->∀ (i:Nat) (pins:List (Addr × Obj)) (s:Shared) (σ:St) (H:Hp) (E:Value->Shared->Prop),Inv X pins σ H s->(∀ b∈fp,FpOk X pins H b)->tn i s.heap->J.stop i H →
  wpAny (model P w) X.A (pyNext (.ref it)) (λ r s1=>r=none/\Inv X pins σ H s1) E s
 self:∀ (A:Around) (i:Nat) (s:Shared) (Q:Value->Shared->Prop) (E:Value->Shared->Prop),tn i s.heap->Q (.ref it) s->wpAny (model P w) A (pyIter (.ref it)) Q E s
abbrev TI:=St->Hp->(It->Hp->Prop)->Prop
def PIE (X:Cx) (pins:List (Addr × Obj)) (σ:St) (tg:Expr) (R:It->Hp->Prop) (itv:Value) (s2:Shared):Prop:=
 ∃ (it:Addr) (fp:List Addr) (tn:Nat->Heap->Prop) (J:It) (H':Hp),itv=.ref it/\Inv X pins σ H' s2/\Turn X.prog X.w X.K tg J fp it tn/\tn 0 s2.heap/\(∀ b∈fp,FpOk X pins H' b)/\R J H'
def PI (X:Cx) (tg iter:Expr) (wi:TI):Prop:=
 ∀ (pins:List (Addr × Obj)) (s:Shared) (σ:St) (H:Hp) (R:It->Hp->Prop),Inv X pins σ H s->wi σ H R →
  wpAny (model X.prog X.w) X.A (eval iter X.env) (λ v s1=>wpAny (model X.prog X.w) X.A (pyIter v) (PIE X pins σ tg R) X.xe s1) X.xe s
theorem go_of {M:Model}{A:Around}{E:Value->Shared->Prop}{s:Shared}{tg:Expr}{it:Addr}{u:Value}{o:Obj}{n:String}{vs:Array Value}{Q:Unit->Shared->Prop}(ho:s.heap.get? it=some o) (hc:o.cls=.type n) (hd:o.data=.fields vs)
    (hn:["enumerate", "zip", "dict_itemiterator", "dict_reverseitemiterator", "odict_iterator", "itertools.zip_longest", "itertools.pairwise"].contains n=false) (hQ:Q () s):wpAny M A (letOwnedTupleGo tg (.ref it) u) Q E s:=by
  unfold letOwnedTupleGo
  cases tg<;>first
    | exact wpAny_pure hQ
    | (cases u<;>first
        | exact wpAny_pure hQ
        | (refine wpAny_bind (wpAny_load ho ?_)
           rw [hc,hd]
           show wpAny M A (if (["enumerate", "zip", "dict_itemiterator", "dict_reverseitemiterator", "odict_iterator", "itertools.zip_longest", "itertools.pairwise"].contains n && vs[0]? == some (rawInt _))=true then _ else _) Q E s
           rw [if_neg (by intro h;rw [hn,Bool.false_and] at h;cases h)]
           exact wpAny_pure hQ))
def Itl (K:W.Frag) (a:Addr):It:=
 ⟨λ i H=>∃ xs x,SqL K H a xs/\xs[i]? = some x,λ i H x H'=>H'=H/\∀ xs,SqL K H a xs->xs[i]? = some x,λ i H=>∃ xs,SqL K H a xs/\xs.length<=i⟩
def Itt (K:W.Frag) (a:Addr):It:=
 ⟨λ i H=>∃ xs x,SqT K H a xs/\xs[i]? = some x,λ i H x H'=>H'=H/\∀ xs,SqT K H a xs->xs[i]? = some x,λ i H=>∃ xs,SqT K H a xs/\xs.length<=i⟩
def Itr (lo:Int) (n:Nat):It:=⟨λ i _=>i < n,λ i H x H'=>H'=H/\x=.int (lo+i),λ i _=>n<=i⟩
theorem turn_list {P:Program}{w:World}{K:W.Frag}{tg:Expr}(a it:Addr):Turn P w K tg (Itl K a) [it] it (λ i h=>h.IsListIter it a i) where
 mem:=by simp
 obj:=λ i h st b hb=>by
  have e:b=it:=by simpa using hb
  subst e
  obtain ⟨o,e,c,d⟩:=st
  exact ⟨o,e,λ v z=>by rw [d] at z;cases z⟩
 keep:=λ i h h' st k=>st.at λ o e=>k it (by simp) o e
 item:=by
  intro X hP hw hK hc i pins s σ H E I hf st hg
  subst hP hw hK
  obtain ⟨xs,x,hq,hx⟩:=hg
  obtain ⟨its,rv,p,hz⟩:=I.list hq
  obtain ⟨u,hu,ru⟩:=rv.get hx
  obtain ⟨f0,f1,f2,f3,f4,f5⟩:=hf it (by simp)
  refine wpAny_pyNext_list_item st p.isList (x:=u) (by simpa using hu) λ h' st' sb=>?_
  have I1:Inv X pins σ H { s with heap:=h' }:=I.turned (t':=s.toks) (λ b o hb e=>(sb.2 b hb).trans e) f0 f1 f3 f4 f5
  obtain ⟨o,e,c,d⟩:=id st'
  exact ⟨u,rfl,go_of (s:={ s with heap:=h' }) e c d (by decide) ⟨x,H,I1,ru,⟨rfl,λ ys hy=>by rw [I.list_inj hy hq];exact hx⟩,st',λ b hb=>(hf b hb).1⟩⟩
 done:=by
  intro X hP hw hK hc i pins s σ H E I hf st hg
  subst hP hw hK
  obtain ⟨xs,hq,hx⟩:=hg
  obtain ⟨its,rv,p,hz⟩:=I.list hq
  obtain ⟨f0,f1,f2,f3,f4,f5⟩:=hf it (by simp)
  have hl:=rv.length
  exact wpAny_pyNext_list_end (I.ok.hd hc) st p.isList (by simp;omega) λ h' eb=>⟨rfl,I.turned (t':=s.toks) (λ b o hb e=>eb b o hb e) f0 f1 f3 f4 f5⟩
 self:=λ _ _ _ _ _ st h=>wpAny_pyIter_listiter st h
theorem turn_tuple {P:Program}{w:World}{K:W.Frag}{tg:Expr}(a it:Addr):Turn P w K tg (Itt K a) [it] it (λ i h=>h.IsTupleIter it a i) where
 mem:=by simp
 obj:=λ i h st b hb=>by
  have e:b=it:=by simpa using hb
  subst e
  obtain ⟨o,e,c,d⟩:=st
  exact ⟨o,e,λ v z=>by rw [d] at z;cases z⟩
 keep:=λ i h h' st k=>st.at λ o e=>k it (by simp) o e
 item:=by
  intro X hP hw hK hc i pins s σ H E I hf st hg
  subst hP hw hK
  obtain ⟨xs,x,hq,hx⟩:=hg
  obtain ⟨its,rv,p,hz⟩:=I.tuple hq
  obtain ⟨u,hu,ru⟩:=rv.get hx
  obtain ⟨f0,f1,f2,f3,f4,f5⟩:=hf it (by simp)
  refine wpAny_pyNext_tuple_item st (show s.heap.IsTuple a its.toArray from p) (x:=u) (by simpa using hu) λ h' st' sb=>?_
  have I1:Inv X pins σ H { s with heap:=h' }:=I.turned (t':=s.toks) (λ b o hb e=>(sb.2 b hb).trans e) f0 f1 f3 f4 f5
  obtain ⟨o,e,c,d⟩:=id st'
  exact ⟨u,rfl,go_of (s:={ s with heap:=h' }) e c d (by decide) ⟨x,H,I1,ru,⟨rfl,λ ys hy=>by rw [I.tuple_inj hy hq];exact hx⟩,st',λ b hb=>(hf b hb).1⟩⟩
 done:=by
  intro X hP hw hK hc i pins s σ H E I hf st hg
  subst hP hw hK
  obtain ⟨xs,hq,hx⟩:=hg
  obtain ⟨its,rv,p,hz⟩:=I.tuple hq
  obtain ⟨f0,f1,f2,f3,f4,f5⟩:=hf it (by simp)
  have hl:=rv.length
  exact wpAny_pyNext_tuple_end (I.ok.hd hc) st (show s.heap.IsTuple a its.toArray from p) (by simp;omega) λ h' eb=>⟨rfl,I.turned (t':=s.toks) (λ b o hb e=>eb b o hb e) f0 f1 f3 f4 f5⟩
 self:=λ _ _ _ _ _ st h=>wpAny_pyIter_tupleiter st h
theorem turn_range {P:Program}{w:World}{K:PySem.W.Frag}{tg:Expr}(it:Addr) (lo:Int) (n:Nat):Turn P w K tg (Itr lo n) [it] it (λ i h=>IsRangeIter h it (lo+(i:Nat) * 1) ((n:Int) - (i:Nat)) 1) where
 mem:=by simp
 obj:=λ i h st b hb=>by
  have e:b=it:=by simpa using hb
  subst e
  exact ⟨_,st,λ v z=>by
   have z':Data.fields _=Data.cell v:=z
   cases z'⟩
 keep:=λ i h h' st k=>k it (by simp) _ st
 item:=by
  intro X hP hw hK hc i pins s σ H E I hf st hg
  subst hP hw hK
  obtain ⟨f0,f1,f2,f3,f4,f5⟩:=hf it (by simp)
  have W:=Walks.range (prog:=X.prog) (w:=X.w) (I.ok.hd hc) it lo 1 n
  refine W.item i s _ _ hg st λ v h' tk hv st' kk=>?_
  obtain ⟨t,rfl⟩:=hv
  have I1:Inv X pins σ H { s with heap:=h',toks:=tk }:=I.turned (λ b o hb e=>kk b o (by simpa using hb) e) f0 f1 f3 f4 f5
  refine ⟨_,rfl,go_of (s:={ s with heap:=h',toks:=tk }) (n := "range_iterator") st' rfl rfl (by decide) ⟨.int (lo+i),H,I1,⟨t,?_⟩,⟨rfl,rfl⟩,st',λ b hb=>(hf b hb).1⟩⟩
  rw [Int.mul_one]
 done:=by
  intro X hP hw hK hc i pins s σ H E I hf st hg
  subst hP hw hK
  obtain ⟨f0,f1,f2,f3,f4,f5⟩:=hf it (by simp)
  exact wpAny_pyNext_range_end (I.ok.hd hc) st (by have:n<=i:=hg;omega) λ h' eb=>⟨rfl,I.turned (t':=s.toks) (λ b o hb e=>eb b o hb e) f0 f1 f3 f4 f5⟩
 self:=λ _ _ _ _ _ st h=>wpAny_pyIter_rangeiter st h
end L2
namespace L2
open PySem PySem.Spec PyProof.Rows
section
variable {X:Cx}{tg:Expr}
theorem range_it {pins:List (Addr × Obj)}{σ:St}{H:Hp}{s:Shared}{R:It->Hp->Prop}{E:Value->Shared->Prop}{lo hi:Int}{t u v:Tok}{tk:Nat}(I:Inv X pins σ H s) (h1:-(2 ^ 62)<=lo) (h2:lo < 2 ^ 62) (h3:-(2 ^ 62)<=hi) (h4:hi < 2 ^ 62)
  (q:R (Itr lo (hi - lo).toNat) H):wpAny (model X.prog X.w) X.A (pyIter (.ref s.heap.objs.size)) (PIE X pins σ tg R) E { s with heap:=s.heap.push { cls:=.type "range",data:=.fields #[.int lo t,.int hi u,.int 1 v] },toks:=tk }:=by
 refine wpAny_pyIter_range (IsRange.new ..) (small_one h1 h2 h3 h4) ?_
 have I1:Inv X pins σ H { s with heap:=s.heap.push { cls:=.type "range",data:=.fields #[.int lo t,.int hi u,.int 1 v] },toks:=tk }:=I.kept λ b o e=>Heap.get?_push_of_some _ e
 refine ⟨(s.heap.push { cls:=.type "range",data:=.fields #[.int lo t,.int hi u,.int 1 v] }).objs.size,[(s.heap.push { cls:=.type "range",data:=.fields #[.int lo t,.int hi u,.int 1 v] }).objs.size],_,_,H,rfl,
  I1.kept (t':=tk) λ b o e=>Heap.get?_push_of_some _ e,turn_range _ lo (hi - lo).toNat,?_,λ b hb=>?_,q⟩
 ·have e1:lo+((0:Nat):Int) * 1=lo:=by simp
  have e2:(((hi - lo).toNat:Nat):Int) - ((0:Nat):Int)=Builtin.Range.rangeSize lo hi 1:=by rw [rangeSize_one];split<;>omega
  show IsRangeIter _ _ (lo+((0:Nat):Int) * 1) ((((hi - lo).toNat:Nat):Int) - ((0:Nat):Int)) 1
  rw [e1,e2]
  exact Heap.get?_push_size _ rfl
 ·have e:b=(s.heap.push { cls:=.type "range",data:=.fields #[.int lo t,.int hi u,.int 1 v] }).objs.size:=by simpa using hb
  subst e
  exact I1.fpOk (Nat.le_refl _) (I1.hok.fresh (Nat.le_refl _))
def iRng1 (ta:TA):TI:=λ σ H R=>ta σ H λ vs H1=>∃ j:Int,vs=[.int j]/\-(2 ^ 62)<=j/\j < 2 ^ 62/\R (Itr 0 j.toNat) H1
theorem pi_range1 {a:Expr}{ta:TA}{p pos:Pos}(hg:Gl X "range") (hm:X.mg "range"=none) (ha:PA X [a] ta) (hs:starEach [a] X.env=[(false,eval a X.env)]:=by rfl):PI X tg (.Call (.Name "range" p) [a] [] pos) (iRng1 ta):=by
 intro pins s σ H R I h
 refine Call_ (ld_blt I hg hm boot_range (PyProof.Rows.callWith_type1 (thn (ha pos pins s σ H _ I h) λ us s1 ⟨vs,H1,I1,r1,q1⟩=>?_) hs rfl))
 obtain ⟨j,e,q1,q2,q⟩:=q1
 subst e
 cases r1 with
 | cons r rr=>
  cases rr
  obtain ⟨t,rfl⟩:=r
  exact call_range_1 (range_it I1 (by omega) (by omega) q1 q2 (by simpa using q))
def tFor (wi:TI) (g:TG) (tb:TS):TS:=λ D σ H=>wi σ H λ J H1=>∃ W:Nat->Nat->St->Hp->Prop,(∃ m,W 0 m σ H1)/\∀ i m σ H,W i m σ H →
 (J.stop i H/\D.nx σ H)\/(J.go i H/\∃ N:St->Hp->Prop,(∀ σ' H',N σ' H'->∃ m',m' < m/\W (i+1) m' σ' H')/\∀ x H',J.yld i H x H'->g x σ H' λ σ2 H2=>tb { D with nx:=N,ct:=N,bk:=D.nx } σ2 H2)
def pinsAt (fp:List Addr) (h:Heap):List (Addr × Obj):=fp.filterMap λ b=>(h.get? b).map λ o=>(b,o)
theorem mem_pinsAt {fp:List Addr}{h:Heap}{b:Addr}{o:Obj}(hb:b∈fp) (e:h.get? b=some o):(b,o)∈pinsAt fp h:=List.mem_filterMap.mpr ⟨b,hb,by rw [e];rfl⟩
theorem of_pinsAt {fp:List Addr}{h:Heap}{p:Addr × Obj}(hp:p∈pinsAt fp h):p.1∈fp/\h.get? p.1=some p.2:=by
 obtain ⟨b,hb,e⟩:=List.mem_filterMap.mp hp
 cases q:h.get? b with
 | none=>rw [q] at e;cases e
 | some o=>
  rw [q] at e
  have e':(b,o)=p:=Option.some.inj e
  subst e'
  exact ⟨hb,q⟩
theorem Inv.pinned {pins:List (Addr × Obj)}{σ:St}{H:Hp}{s:Shared}{fp:List Addr}(I:Inv X pins σ H s) (hf:∀ b∈fp,FpOk X pins H b) (ho:∀ b∈fp,∃ o,s.heap.get? b=some o/\∀ v,o.data ≠ .cell v):Inv X (pins++pinsAt fp s.heap) σ H s:=
 I.pins_of λ p hp=>(List.mem_append.mp hp).elim (λ z=>I.pin p (List.mem_append_right _ z)) λ z=>by
  obtain ⟨hb,e⟩:=of_pinsAt z
  obtain ⟨f0,f1,f2,_⟩:=hf p.1 hb
  obtain ⟨o,e',d⟩:=ho p.1 hb
  rw [e] at e';cases e'
  exact ⟨e,f0,f1,f2,d⟩
theorem Inv.unpinned {pins pl:List (Addr × Obj)}{σ:St}{H:Hp}{s:Shared}(I:Inv X (pins++pl) σ H s):Inv X pins σ H s:=I.pins_of λ p hp=>I.pin p (List.mem_append_right _ (List.mem_append_left _ hp))
theorem ps_for {iter:Expr}{body:List Stmt}{wi:TI}{g:TG}{tb:TS}{pos:Pos}(hp:PassesOwn (model X.prog X.w) X.A X.env X.xe) (hc:X.calm=true) (hi:PI X tg iter wi) (hg:PG X tg g) (hb:PSs X body tb)
  (hs:∀ x,foldedSetIterable iter X.env x=pure x:=by intro _;rfl):PS X (.For tg iter body [] pos) (tFor wi g tb):=by
 intro pins s σ H D I h
 refine wpAny_For (thn (hi pins s σ H _ I h) λ v s1 h1=>thn h1 λ itv s2 h2=>?_) hs
 obtain ⟨it,fp,tn,J,H2,e,I2,T,st2,f2,W,⟨m0,w0⟩,turn⟩:=h2
 subst e
 have stat:∀ {H':Hp},(∀ b∈fp,H' b=none)->∀ b∈fp,FpOk X pins H' b:=λ hn b hb=>⟨hn b hb,(f2 b hb).2⟩
 refine codeAny_forLoop_any (λ n s'=>∃ i σ' H',Inv X pins σ' H' s'/\tn i s'.heap/\(∀ b∈fp,H' b=none)/\W i n σ' H') ?_ m0 ⟨0,σ,H2,I2,st2,λ b hb=>(f2 b hb).1,w0⟩
 rintro n s3 ⟨i,σ3,H3,I3,st3,fr3,w3⟩
 rcases turn i n σ3 H3 w3 with ⟨stop,qn⟩|⟨go,N,hN,step⟩
 ·refine wpAny_passesOwn hp (thn (T.done X rfl rfl rfl hc i pins s3 σ3 H3 X.xe I3 (stat fr3) st3 stop) λ r s4 ⟨hr,I4⟩=>?_)
  subst hr
  exact wpAny_execs_nil ⟨σ3,H3,I4,qn⟩
 ·refine wpAny_passesOwn hp (thn (T.item X rfl rfl rfl hc i pins s3 σ3 H3 X.xe I3 (stat fr3) st3 go) λ r s4 ⟨u,hr,h4⟩=>?_)
  subst hr
  refine wpAny_passesOwn hp (thn h4 λ _ s5 ⟨x,H5,I5,r5,y5,st5,fr5⟩=>?_)
  have I5':=I5.pinned (stat fr5) (T.obj _ _ st5)
  refine wpAny_passesOwn hp (thn (hg _ s5 σ3 H5 x u _ I5' r5 (step x H5 y5)) λ _ s6 ⟨σ6,H6,I6,q6⟩=>?_)
  refine wpAny_passesOwn hp (thn (hb _ s6 σ6 H6 _ I6 q6) λ f s7 q7=>?_)
  have again:∀ {σ7:St} {H7:Hp},Inv X (pins++pinsAt fp s5.heap) σ7 H7 s7->N σ7 H7->∃ m,m < n/\∃ i σ' H',Inv X pins σ' H' s7/\tn i s7.heap/\(∀ b∈fp,H' b=none)/\W i m σ' H':=λ {σ7 H7} I7 n7=>by
   obtain ⟨m',hm,w7⟩:=hN σ7 H7 n7
   refine ⟨m',hm,i+1,σ7,H7,I7.unpinned,T.keep _ _ _ st5 λ b hb o e=>(I7.pin (b,o) (List.mem_append_right _ (List.mem_append_right _ (mem_pinsAt hb e)))).1,λ b hb=>?_,w7⟩
   obtain ⟨o,e,d⟩:=T.obj _ _ st5 b hb
   exact (I7.pin (b,o) (List.mem_append_right _ (List.mem_append_right _ (mem_pinsAt hb e)))).2.1
  cases f with
  | next=>obtain ⟨σ7,H7,I7,n7⟩:=q7;exact again I7 n7
  | cont=>obtain ⟨σ7,H7,I7,n7⟩:=q7;exact again I7 n7
  | brk=>obtain ⟨σ7,H7,I7,q7⟩:=q7;exact ⟨σ7,H7,I7.unpinned,q7⟩
  | ret v=>obtain ⟨x7,σ7,H7,I7,r7,q7⟩:=q7;exact ⟨x7,σ7,H7,I7.unpinned,r7,q7⟩
end
theorem for_list {K:PySem.W.Frag}{a:Addr}{xs:List V}{g:TG}{tb:TS}{D:Ends}{σ:St}{H:Hp}(Pv:Nat->St->Hp->Prop) (h0:Pv 0 σ H) (hl:∀ i σ H,i<=xs.length->Pv i σ H->SqL K H a xs)
  (hs:∀ i x σ H,xs[i]? = some x->Pv i σ H->g x σ H λ σ2 H2=>tb { D with nx:=Pv (i+1),ct:=Pv (i+1),bk:=D.nx } σ2 H2) (hd:∀ σ H,Pv xs.length σ H->D.nx σ H) :
  ∃ W:Nat->Nat->St->Hp->Prop,(∃ m,W 0 m σ H)/\∀ i m σ H,W i m σ H →
   ((Itl K a).stop i H/\D.nx σ H)\/((Itl K a).go i H/\∃ N:St->Hp->Prop,(∀ σ' H',N σ' H'->∃ m',m' < m/\W (i+1) m' σ' H')/\∀ x H',(Itl K a).yld i H x H'->g x σ H' λ σ2 H2=>tb { D with nx:=N,ct:=N,bk:=D.nx } σ2 H2):=by
 refine ⟨λ i m σ H=>m=xs.length - i/\i<=xs.length/\Pv i σ H,⟨xs.length,by simp,Nat.zero_le _,h0⟩,?_⟩
 rintro i m σ H ⟨rfl,hi,p⟩
 have q:=hl i σ H hi p
 by_cases hlt:i < xs.length
 ·refine .inr ⟨⟨xs,xs[i],q,by simp [hlt]⟩,Pv (i+1),λ σ' H' p'=>⟨xs.length - (i+1),by omega,rfl,hlt,p'⟩,λ x H' y=>?_⟩
  obtain ⟨e,y⟩:=y
  subst e
  exact hs i x σ _ (y xs q) p
 ·have e:i=xs.length:=by omega
  subst e
  exact .inl ⟨⟨xs,q,Nat.le_refl _⟩,hd σ H p⟩
theorem for_range {lo:Int}{n:Nat}{g:TG}{tb:TS}{D:Ends}{σ:St}{H:Hp}(Pv:Nat->St->Hp->Prop) (h0:Pv 0 σ H)
  (hs:∀ i σ H,i < n->Pv i σ H->g (.int (lo+i)) σ H λ σ2 H2=>tb { D with nx:=Pv (i+1),ct:=Pv (i+1),bk:=D.nx } σ2 H2) (hd:∀ σ H,Pv n σ H->D.nx σ H) :
  ∃ W:Nat->Nat->St->Hp->Prop,(∃ m,W 0 m σ H)/\∀ i m σ H,W i m σ H →
   ((Itr lo n).stop i H/\D.nx σ H)\/((Itr lo n).go i H/\∃ N:St->Hp->Prop,(∀ σ' H',N σ' H'->∃ m',m' < m/\W (i+1) m' σ' H')/\∀ x H',(Itr lo n).yld i H x H'->g x σ H' λ σ2 H2=>tb { D with nx:=N,ct:=N,bk:=D.nx } σ2 H2):=by
 refine ⟨λ i m σ H=>m=n - i/\i<=n/\Pv i σ H,⟨n,by simp,Nat.zero_le _,h0⟩,?_⟩
 rintro i m σ H ⟨rfl,hi,p⟩
 by_cases hlt:i < n
 ·refine .inr ⟨hlt,Pv (i+1),λ σ' H' p'=>⟨n - (i+1),by omega,rfl,hlt,p'⟩,λ x H' y=>?_⟩
  obtain ⟨e,y⟩:=y
  subst e y
  exact hs i σ _ hlt p
 ·have e:i=n:=by omega
  subst e
  exact .inl ⟨Nat.le_refl _,hd σ H p⟩
end L2
namespace L2
open PySem PySem.Spec PyProof.Rows
abbrev R2:=V->V->Hp->VK->Prop
def OpR (X:Cx) (f:Value->Value->Sem Value) (r:R2):Prop:=
 ∀ (pins:List (Addr × Obj)) (s:Shared) (σ:St) (H:Hp) (x y:V) (v u:Value) (Q:VK),Inv X pins σ H s->RelV x v->RelV y u->r x y H Q →
  wpAny (model X.prog X.w) X.A (f v u) (EP X pins σ Q) X.xe s
def UnR (X:Cx) (f:Value->Sem Value) (r:V->Hp->VK->Prop):Prop:=
 ∀ (pins:List (Addr × Obj)) (s:Shared) (σ:St) (H:Hp) (x:V) (v:Value) (Q:VK),Inv X pins σ H s->RelV x v->r x H Q →
  wpAny (model X.prog X.w) X.A (f v) (EP X pins σ Q) X.xe s
def CallR (X:Cx) (f:Value) (r:List V->Hp->VK->Prop):Prop:=
 ∀ (pins:List (Addr × Obj)) (s:Shared) (σ:St) (H:Hp) (xs:List V) (us:List Value) (Q:VK),Inv X pins σ H s->Vals xs us->r xs H Q →
  wpAny (model X.prog X.w) X.A (call f us) (EP X pins σ Q) X.xe s
def tOp (r:R2) (ta tb:TE):TE:=λ σ H Q=>ta σ H λ x H1=>tb σ H1 λ y H2=>r x y H2 Q
def tUn (r:V->Hp->VK->Prop) (ta:TE):TE:=λ σ H Q=>ta σ H λ x H1=>r x H1 Q
def rI (C:Int->Int->Prop) (g:Int->Int->V):R2:=λ x y H Q=>∃ i j,x=.int i/\y=.int j/\C i j/\Q (g i j) H
def rI0 (g:Int->Int->V):R2:=λ x y H Q=>∃ i j,x=.int i/\y=.int j/\Q (g i j) H
def rU (g:Int->V):V->Hp->VK->Prop:=λ x H Q=>∃ i,x=.int i/\Q (g i) H
section
variable {X:Cx}{a b c:Expr}{ta tb tc:TE}{pos:Pos}
theorem binT (ha:PE X a ta) (hb:PE X b tb){pins:List (Addr × Obj)}{s:Shared}{σ:St}{H:Hp}{R:V->V->Hp->Prop}(I:Inv X pins σ H s)
  (h:ta σ H λ x H1=>tb σ H1 λ y H2=>R x y H2) {Q:Value->Shared->Prop} {f:Value->Value->Sem Value}
  (hf:∀ v u s2 x y H2,Inv X pins σ H2 s2->RelV x v->RelV y u->R x y H2->wpAny (model X.prog X.w) X.A (f v u) Q X.xe s2) :
  wpAny (model X.prog X.w) X.A (eval a X.env) (λ v s₁=>wpAny (model X.prog X.w) X.A (eval b X.env) (λ u s₂=>wpAny (model X.prog X.w) X.A (f v u) Q X.xe s₂) X.xe s₁) X.xe s:=by
 refine thn (ha pins s σ H _ I h) λ v s1 ⟨x,H1,I1,r1,q1⟩=>?_
 refine thn (hb pins s1 σ H1 _ I1 q1) λ u s2 ⟨y,H2,I2,r2,q2⟩=>?_
 exact hf v u s2 x y H2 I2 r1 r2 q2
theorem pe_op {op:Operator}{r:R2}(ho:OpR X (binaryOp op) r) (ha:PE X a ta) (hb:PE X b tb):PE X (.BinOp a op b pos) (tOp r ta tb):=by
 intro pins s σ H Q I h
 exact wpAny_BinOp (binT ha hb I h λ v u s2 x y H2 I2 rx ry q=>ho pins s2 σ H2 x y v u Q I2 rx ry q)
theorem pe_un {op:UnaryOp}{r:V->Hp->VK->Prop}(ho:UnR X (unaryOp op) r) (ha:PE X a ta):PE X (.UnaryOp op a pos) (tUn r ta):=by
 intro pins s σ H Q I h
 exact UnaryOp_ (thn (ha pins s σ H _ I h) λ v s1 ⟨x,H1,I1,r1,q1⟩=>ho pins s1 σ H1 x v Q I1 r1 q1)
theorem opI {f:Value->Value->Sem Value}{C:Int->Int->Prop}{g:Int->Int->Int}
  (rule:∀ (i j:Int) (t u:Tok) (s:Shared) (Q:Value->Shared->Prop) (E:Value->Shared->Prop),C i j->Q (.int (g i j) s.toks) { s with toks:=s.toks+1 }->wpAny (model X.prog X.w) X.A (f (.int i t) (.int j u)) Q E s) :
  OpR X f (rI C λ i j=>.int (g i j)):=by
 intro pins s σ H x y v u Q I rx ry h
 obtain ⟨i,j,rfl,rfl,hc,q⟩:=h
 obtain ⟨t,rfl⟩:=rx
 obtain ⟨t',rfl⟩:=ry
 exact rule i j t t' s _ _ hc ⟨.int (g i j),H,I.tok _,⟨_,rfl⟩,q⟩
theorem opI0 {f:Value->Value->Sem Value}{g:Int->Int->Int}
  (rule:∀ (i j:Int) (t u:Tok) (s:Shared) (Q:Value->Shared->Prop) (E:Value->Shared->Prop),Q (.int (g i j) s.toks) { s with toks:=s.toks+1 }->wpAny (model X.prog X.w) X.A (f (.int i t) (.int j u)) Q E s) :
  OpR X f (rI0 λ i j=>.int (g i j)):=by
 intro pins s σ H x y v u Q I rx ry h
 obtain ⟨i,j,rfl,rfl,q⟩:=h
 obtain ⟨t,rfl⟩:=rx
 obtain ⟨t',rfl⟩:=ry
 exact rule i j t t' s _ _ ⟨.int (g i j),H,I.tok _,⟨_,rfl⟩,q⟩
theorem opB0 {f:Value->Value->Sem Value}{g:Int->Int->Bool}
  (rule:∀ (i j:Int) (t u:Tok) (s:Shared) (Q:Value->Shared->Prop) (E:Value->Shared->Prop),Q (.bool (g i j)) s->wpAny (model X.prog X.w) X.A (f (.int i t) (.int j u)) Q E s) :
  OpR X f (rI0 λ i j=>.bl (g i j)):=by
 intro pins s σ H x y v u Q I rx ry h
 obtain ⟨i,j,rfl,rfl,q⟩:=h
 obtain ⟨t,rfl⟩:=rx
 obtain ⟨t',rfl⟩:=ry
 exact rule i j t t' s _ _ ⟨.bl (g i j),H,I,rfl,q⟩
def CDiv (i j:Int):Prop:=0 < j/\j < 1073741824
def CPow (i j:Int):Prop:=0<=j/\j<=1000000/\i.natAbs < 2 ^ 64
def CMul (i j:Int):Prop:=(-(2 ^ 64) < i/\i < 2 ^ 64)\/(-(2 ^ 64) < j/\j < 2 ^ 64)
theorem CMul.ok {i j:Int}(h:CMul i j):IntMulOk i j:=by
 rcases h with ⟨h1,h2⟩|⟨h1,h2⟩
 ·exact .of_left (intBits_le_64 h1 h2)
 ·exact .of_right (intBits_le_64 h1 h2)
theorem op_add:OpR X (binaryOp .Add) (rI0 λ i j=>.int (i+j)):=opI0 λ _ _ _ _ _ _ _ q=>add_int q
theorem op_sub:OpR X (binaryOp .Sub) (rI0 λ i j=>.int (i - j)):=opI0 λ _ _ _ _ _ _ _ q=>sub_int q
theorem op_mul:OpR X (binaryOp .Mult) (rI CMul λ i j=>.int (i * j)):=opI λ _ _ _ _ _ _ _ hc q=>mul_int q hc.ok
theorem op_fdiv:OpR X (binaryOp .FloorDiv) (rI CDiv λ i j=>.int (i / j)):=opI λ i j _ _ _ _ _ hc q=>by
 have h1:(0:Int) < j:=hc.1
 have h2:j < 1073741824:=hc.2
 exact floordiv_int (by omega) (by rw [Int.fdiv_eq_ediv_of_nonneg i (by omega)];exact q) (.inl (PyProof.noPylong_small (by omega)))
theorem op_mod:OpR X (binaryOp .Mod) (rI (λ _ j=>0 < j) λ i j=>.int (i % j)):=opI λ i j _ _ _ _ _ hc q=>by
 have h1:(0:Int) < j:=hc
 exact mod_int' (by omega) (by rw [Int.fmod_eq_emod_of_nonneg i (by omega)];exact q)
theorem op_pow:OpR X (binaryOp .Pow) (rI CPow λ i j=>.int (i ^ j.toNat)):=opI λ _ _ _ _ _ _ _ hc q=>pow_int_small hc.1 hc.2.1 hc.2.2 q
theorem unI {f:Value->Sem Value}{g:Int->Int}
  (rule:∀ (i:Int) (t:Tok) (s:Shared) (Q:Value->Shared->Prop) (E:Value->Shared->Prop),Q (.int (g i) s.toks) { s with toks:=s.toks+1 }->wpAny (model X.prog X.w) X.A (f (.int i t)) Q E s) :
  UnR X f (rU λ i=>.int (g i)):=by
 intro pins s σ H x v Q I rx h
 obtain ⟨i,rfl,q⟩:=h
 obtain ⟨t,rfl⟩:=rx
 exact rule i t s _ _ ⟨.int (g i),H,I.tok _,⟨_,rfl⟩,q⟩
theorem un_neg:UnR X (unaryOp .USub) (rU λ i=>.int (-i)):=unI λ _ _ _ _ _ q=>neg_int q
end
def scal:V->V->Bool
 | .non,.non=>true | .non,.int _=>true | .int _,.non=>true | .non,.bl _=>true | .bl _,.non=>true | .non,.str _=>true | .str _,.non=>true
 | .int _,.int _=>true | .bl _,.bl _=>true | .str _,.str _=>true | .byt _,.byt _=>true
 | .int _,.str _=>true | .str _,.int _=>true | .bl _,.str _=>true | .str _,.bl _=>true
 | _,_=>false
def rEq:R2:=λ x y H Q=>scal x y=true/\Q (.bl (decide (x=y))) H
def rNe:R2:=λ x y H Q=>scal x y=true/\Q (.bl (!decide (x=y))) H
theorem dec_int {i j:Int}:decide (V.int i=V.int j)=(i == j):=by
 rw [Bool.eq_iff_iff]
 simp
theorem dec_bl {i j:Bool}:decide (V.bl i=V.bl j)=(i == j):=by
 rw [Bool.eq_iff_iff]
 simp
theorem dec_str {i j:Str}:decide (V.str i=V.str j)=(i == j):=by
 rw [Bool.eq_iff_iff]
 simp
theorem dec_byt {i j:Array UInt8}:decide (V.byt i=V.byt j)=(i.toList == j.toList):=by
 rw [Bool.eq_iff_iff]
 cases i
 cases j
 simp
section
variable {X:Cx}{a b c:Expr}{ta tb tc:TE}{pos:Pos}
theorem fin_bl {pins:List (Addr × Obj)}{σ:St}{H:Hp}{s:Shared}{Q:VK}{k k':Bool}(I:Inv X pins σ H s) (q:Q (.bl k) H) (e:k=k'):EP X pins σ Q (.bool k') s:=by
 subst e
 exact ⟨.bl k,H,I,rfl,q⟩
theorem op_eq:OpR X (compareOp .Eq) rEq:=by
 intro pins s σ H x y v u Q I rx ry h
 obtain ⟨hs,q⟩:=h
 cases x with
 | non=>
  cases rx
  cases y with
  | non=>cases ry;exact PySem.EqNone.eq_none_none (fin_bl I q (by simp))
  | bl j=>cases ry;exact PySem.EqNone.eq_none_bool (fin_bl I q (by simp))
  | int j=>obtain ⟨t',rfl⟩:=ry;exact PySem.EqNone.eq_none_int (fin_bl I q (by simp))
  | str j=>obtain ⟨t',rfl⟩:=ry;exact PySem.EqNone.eq_none_str (fin_bl I q (by simp))
  | _=>exact absurd (show false=true from hs) Bool.false_ne_true
 | bl i=>
  cases rx
  cases y with
  | non=>cases ry;exact PySem.EqNone.eq_bool_none (fin_bl I q (by simp))
  | bl j=>cases ry;exact eq_bool (fin_bl I q dec_bl)
  | str j=>obtain ⟨t',rfl⟩:=ry;exact PySem.EqMixed.eq_bool_str (fin_bl I q (by simp))
  | _=>exact absurd (show false=true from hs) Bool.false_ne_true
 | int i=>
  obtain ⟨t,rfl⟩:=rx
  cases y with
  | non=>cases ry;exact PySem.EqNone.eq_int_none (fin_bl I q (by simp))
  | int j=>obtain ⟨t',rfl⟩:=ry;exact eq_int (fin_bl I q dec_int)
  | str j=>obtain ⟨t',rfl⟩:=ry;exact PySem.EqMixed.eq_int_str (fin_bl I q (by simp))
  | _=>exact absurd (show false=true from hs) Bool.false_ne_true
 | str i=>
  obtain ⟨t,rfl⟩:=rx
  cases y with
  | non=>cases ry;exact PySem.EqNone.eq_str_none (fin_bl I q (by simp))
  | bl j=>cases ry;exact PySem.EqMixed.eq_str_bool (fin_bl I q (by simp))
  | int j=>obtain ⟨t',rfl⟩:=ry;exact PySem.EqMixed.eq_str_int (fin_bl I q (by simp))
  | str j=>obtain ⟨t',rfl⟩:=ry;exact eq_str (fin_bl I q dec_str)
  | _=>exact absurd (show false=true from hs) Bool.false_ne_true
 | byt i=>
  obtain ⟨t,rfl⟩:=rx
  cases y with
  | byt j=>obtain ⟨t',rfl⟩:=ry;exact W.eq_bytes (fin_bl I q dec_byt)
  | _=>exact absurd (show false=true from hs) Bool.false_ne_true
 | _=>cases y<;>exact absurd (show false=true from hs) Bool.false_ne_true
theorem op_ne:OpR X (compareOp .NotEq) rNe:=by
 intro pins s σ H x y v u Q I rx ry h
 obtain ⟨hs,q⟩:=h
 cases x with
 | non=>
  cases rx
  cases y with
  | non=>cases ry;exact PySem.EqNone.ne_none_none (fin_bl I q (by simp))
  | bl j=>cases ry;exact PySem.EqNone.ne_none_bool (fin_bl I q (by simp))
  | int j=>obtain ⟨t',rfl⟩:=ry;exact PySem.EqNone.ne_none_int (fin_bl I q (by simp))
  | str j=>obtain ⟨t',rfl⟩:=ry;exact PySem.EqNone.ne_none_str (fin_bl I q (by simp))
  | _=>exact absurd (show false=true from hs) Bool.false_ne_true
 | bl i=>
  cases rx
  cases y with
  | non=>cases ry;exact PySem.EqNone.ne_bool_none (fin_bl I q (by simp))
  | bl j=>cases ry;exact ne_bool (fin_bl I q (congrArg not dec_bl))
  | str j=>obtain ⟨t',rfl⟩:=ry;exact PySem.EqMixed.ne_bool_str (fin_bl I q (by simp))
  | _=>exact absurd (show false=true from hs) Bool.false_ne_true
 | int i=>
  obtain ⟨t,rfl⟩:=rx
  cases y with
  | non=>cases ry;exact PySem.EqNone.ne_int_none (fin_bl I q (by simp))
  | int j=>obtain ⟨t',rfl⟩:=ry;exact ne_int (fin_bl I q (congrArg not dec_int))
  | str j=>obtain ⟨t',rfl⟩:=ry;exact PySem.EqMixed.ne_int_str (fin_bl I q (by simp))
  | _=>exact absurd (show false=true from hs) Bool.false_ne_true
 | str i=>
  obtain ⟨t,rfl⟩:=rx
  cases y with
  | non=>cases ry;exact PySem.EqNone.ne_str_none (fin_bl I q (by simp))
  | bl j=>cases ry;exact PySem.EqMixed.ne_str_bool (fin_bl I q (by simp))
  | int j=>obtain ⟨t',rfl⟩:=ry;exact PySem.EqMixed.ne_str_int (fin_bl I q (by simp))
  | str j=>obtain ⟨t',rfl⟩:=ry;exact ne_str (fin_bl I q (congrArg not dec_str))
  | _=>exact absurd (show false=true from hs) Bool.false_ne_true
 | byt i=>
  obtain ⟨t,rfl⟩:=rx
  cases y with
  | byt j=>obtain ⟨t',rfl⟩:=ry;exact W.ne_bytes (fin_bl I q (congrArg not dec_byt))
  | _=>exact absurd (show false=true from hs) Bool.false_ne_true
 | _=>cases y<;>exact absurd (show false=true from hs) Bool.false_ne_true
theorem op_lt:OpR X (compareOp .Lt) (rI0 λ i j=>.bl (decide (i < j))):=opB0 λ _ _ _ _ _ _ _ q=>lt_int q
theorem op_le:OpR X (compareOp .LtE) (rI0 λ i j=>.bl (decide (i<=j))):=opB0 λ _ _ _ _ _ _ _ q=>le_int q
theorem op_gt:OpR X (compareOp .Gt) (rI0 λ i j=>.bl (decide (j < i))):=opB0 λ _ _ _ _ _ _ _ q=>gt_int q
theorem op_ge:OpR X (compareOp .GtE) (rI0 λ i j=>.bl (decide (j<=i))):=opB0 λ _ _ _ _ _ _ _ q=>ge_int q
theorem op_notN:OpR X (compareOp .IsNot) (λ x y H Q=>y=.non/\Q (.bl (!decide (x=.non))) H):=by
 intro pins s σ H x y v u Q I rx ry h
 obtain ⟨rfl,q⟩:=h
 cases ry
 refine isnot_none_gen (fin_bl I q ?_)
 cases x<;>first
  | (cases rx;rfl)
  | (obtain ⟨t,rfl⟩:=rx;rfl)
def isObj:HO->Bool
 | .lst _=>true
 | .ins _ _ _=>true
 | _=>false
theorem OpR.or {f:Value->Value->Sem Value}{r r':R2}(h:OpR X f r) (h':OpR X f r'):OpR X f (λ x y H Q=>r x y H Q\/r' x y H Q):=by
 intro pins s σ H x y v u Q I rx ry q
 rcases q with q|q
 ·exact h pins s σ H x y v u Q I rx ry q
 ·exact h' pins s σ H x y v u Q I rx ry q
theorem nomark (b:Expr){op:CmpOp}(h:op ≠ .In:=by decide) (h2:op ≠ .NotIn:=by decide):behindInMarks op b=false:=by
 have e1:(op == CmpOp.In)=false:=by cases op<;>first|rfl|exact absurd rfl h
 have e2:(op == CmpOp.NotIn)=false:=by cases op<;>first|rfl|exact absurd rfl h2
 cases b<;>simp [behindInMarks,e1,e2]
theorem pe_cmpR {op:CmpOp}{r:R2}(ho:OpR X (compareOp op) r) (ha:PE X a ta) (hb:PE X b tb) (hm:behindInMarks op b=false):PE X (.Compare a [op] [b] pos) (tOp r ta tb):=by
 intro pins s σ H Q I h
 exact wpAny_Compare1 (binT ha hb I h λ v u s2 x y H2 I2 rx ry q=>ho pins s2 σ H2 x y v u Q I2 rx ry q) hm
def tTest (t:TE):TT:=λ σ H Q=>t σ H λ x H'=>∃ k,x=.bl k/\Q k H'
theorem pt_cmpR {op:CmpOp}{r:R2}(ho:OpR X (compareOp op) r) (ha:PE X a ta) (hb:PE X b tb) (hm:behindInMarks op b=false):PT X (.Compare a [op] [b] pos) (tTest (tOp r ta tb)):=by
 intro pins s σ H Q I h
 refine wpAny_isTrue_Compare1 (thn (ha pins s σ H _ I h) λ v s1 ⟨x,H1,I1,r1,q1⟩=>thn (hb pins s1 σ H1 _ I1 q1) λ u s2 ⟨y,H2,I2,r2,q2⟩=>
  thn (ho pins s2 σ H2 x y v u _ I2 r1 r2 q2) λ c s3 ⟨z,H3,I3,r3,k,e,q3⟩=>?_) hm
 subst e
 cases r3
 exact wpAny_truthy_bool ⟨H3,I3,q3⟩
def tChain (r r':R2) (ta tb tc:TE):TE:=λ σ H Q=>ta σ H λ x H1=>tb σ H1 λ y H2=>r x y H2 λ z H3=>∃ k,z=.bl k /\
 (if k=true then tc σ H3 λ w' H4=>r' y w' H4 Q else Q (.bl false) H3)
theorem pe_chain {op op':CmpOp}{r r':R2}(ho:OpR X (compareOp op) r) (ho':OpR X (compareOp op') r') (ha:PE X a ta) (hb:PE X b tb) (hc:PE X c tc)
  (hm:lastMarks [op,op'] [b,c]=false:=by with_unfolding_all rfl):PE X (.Compare a [op,op'] [b,c] pos) (tChain r r' ta tb tc):=by
 intro pins s σ H Q I h
 refine Compare_chain (thn (ha pins s σ H _ I h) λ v s1 ⟨x,H1,I1,r1,q1⟩=>chain_link (thn (hb pins s1 σ H1 _ I1 q1) λ u s2 ⟨y,H2,I2,r2,q2⟩=>
  thn (ho pins s2 σ H2 x y v u _ I2 r1 r2 q2) λ d s3 ⟨z,H3,I3,r3,k,e,q3⟩=>?_)) hm
 subst e
 cases r3
 refine wpAny_truthy_bool ?_
 cases k with
 | false=>exact ite_ff ⟨.bl false,H3,I3,rfl,q3⟩
 | true=>exact ite_tt (chain_last (thn (hc pins s3 σ H3 _ I3 q3) λ w' s4 ⟨z',H4,I4,r4,q4⟩=>ho' pins s4 σ H4 y z' u w' Q I4 r2 r4 q4))
theorem line63:(sizeLine:Nat) < 2 ^ 63:=by rw [sizeLine_eq];decide
theorem vals1 {x:V}{us:List Value}(r:Vals [x] us):∃ u,us=[u]/\RelV x u:=by
 cases r with
 | cons r1 r2=>cases r2;exact ⟨_,rfl,r1⟩
theorem vals2 {x y:V}{us:List Value}(r:Vals [x,y] us):∃ u w',us=[u,w']/\RelV x u/\RelV y w':=by
 cases r with
 | cons r1 r2=>
  cases r2 with
  | cons r3 r4=>cases r4;exact ⟨_,_,rfl,r1,r3⟩
theorem call_max2 (hc:X.calm=true):CallR X (.builtin "max") (λ xs H Q=>∃ i j,xs=[.int i,.int j]/\Q (.int (if j > i then j else i)) H):=by
 intro pins s σ H xs us Q I r h
 obtain ⟨i,j,rfl,q⟩:=h
 obtain ⟨u,w',rfl,⟨t,rfl⟩,⟨t',rfl⟩⟩:=vals2 r
 refine max_two_ints (I.ok.hd hc) λ h' tk k=>⟨_,H,I.kept k,?_,q⟩
 by_cases hj:j > i
 ·rw [if_pos hj,if_pos hj];exact ⟨_,rfl⟩
 ·rw [if_neg hj,if_neg hj];exact ⟨_,rfl⟩
theorem call_min2 (hc:X.calm=true):CallR X (.builtin "min") (λ xs H Q=>∃ i j,xs=[.int i,.int j]/\Q (.int (if j < i then j else i)) H):=by
 intro pins s σ H xs us Q I r h
 obtain ⟨i,j,rfl,q⟩:=h
 obtain ⟨u,w',rfl,⟨t,rfl⟩,⟨t',rfl⟩⟩:=vals2 r
 refine min_two_ints (I.ok.hd hc) λ h' tk k=>⟨_,H,I.kept k,?_,q⟩
 by_cases hj:j < i
 ·rw [if_pos hj,if_pos hj];exact ⟨_,rfl⟩
 ·rw [if_neg hj,if_neg hj];exact ⟨_,rfl⟩
end
end L2
namespace L2
open PySem PySem.Spec PyProof.Rows
structure ObjM (h:Heap) (x dx C:Addr) (mA:Str->Option Value):Prop where
 obj:h.get? x=some (W.instObj C dx)
 ns:h.Ns1 dx mA
 ne:dx ≠ x
theorem lookIn_ns {h:Heap}{dx:Addr}{mA:Str->Option Value}(n:h.Ns1 dx mA):∃ od,h.get? dx=some od/\∀ name,W.lookIn name od=some (mA name):=by
 obtain ⟨o,es,ep,ho,hd,hk,_,hm⟩:=n
 refine ⟨o,ho,λ name=>?_⟩
 have e:=hm name
 unfold nsFind findBy at e
 rw [←Array.find?_toList] at e
 unfold W.lookIn
 rw [hd]
 dsimp only
 split
 ·rename_i y q
  rw [q] at e
  exact congrArg some e
 ·rename_i q
  rw [q] at e
  have a:es.toList.any (·.refKey)=false:=by
   rw [List.any_eq_false]
   intro y hy
   obtain ⟨z,t,hkey⟩:=hk y (Array.mem_toList_iff.mp hy)
   simp [DictEntry.refKey,hkey]
  have a':¬ es.toList.any (·.refKey)=true:=by rw [a];exact Bool.false_ne_true
  rw [if_neg a']
  exact congrArg some e
theorem ObjM.look {h:Heap}{x dx C:Addr}{mA:Str->Option Value}(I:ObjM h x dx C mA):∃ od,W.InstAt h x (W.instObj C dx) C (some od)/\∀ name,W.lookIn name od=some (mA name):=
 let ⟨od,ho,hl⟩:=lookIn_ns I.ns
 ⟨od,⟨I.obj,rfl,rfl,ho⟩,hl⟩
section
variable {prog:Program}{w:World}{A:Around}{E:Value->Shared->Prop}{s:Shared}{K:PySem.W.Frag}{x dx C f:Addr}{mA:Str->Option Value}{name:Str}{v:Value}
theorem get_map {expr:Bool}{Q:Value->Shared->Prop}(X:K.In s.heap) (I:ObjM s.heap x dx C mA) (hg:W.plainGet K C name=true) (hh:W.hasDictIn K C=true)
  (ha:W.findIn K (.ref C) name=some none) (hv:mA name=some v) (hv':W.handedIn v=true) (h:Q v { s with toks:=s.toks+1 }) :
  wpAny (model prog w) A (getAttr (.ref x) name expr) Q E s:=by
 obtain ⟨od,J,hl⟩:=I.look
 exact W.get_value X J (W.plainGet_of hg).1 (W.findObj_own hh ha rfl (by rw [hl,hv])) hv' h
theorem get_meth {pl:Sem Bool}{Q:Value × List Value->Shared->Prop}(X:K.In s.heap) (I:ObjM s.heap x dx C mA) (hg:W.plainGet K C name=true)
  (hf:W.findIn K (.ref C) name=some (some (.ref f))) (ht:W.isFn K (.ref f)=true) (hv:mA name=none) (h:Q (.ref f,[.ref x]) s) :
  wpAny (model prog w) A (getMethod (.ref x) name pl) Q E s:=by
 obtain ⟨od,J,hl⟩:=I.look
 exact W.method_fn X J (W.plainGet_of hg).1 (W.plainGet_of hg).2 hf (beq_iff_eq.mp ht) (by show (W.lookIn name od).map (·.isSome)=some false;rw [hl,hv];rfl) h
theorem set_map {ns:List Str}{Q:Unit->Shared->Prop}(X:K.In s.heap) (I:ObjM s.heap x dx C mA)
  (hs:W.findIn K (.ref C) "__setattr__"=some (some (.builtin "object.__setattr__"))) (hp:W.plainOver K C=true) (ht:W.takerIn K C name=some none) (hh:W.hasDictIn K C=true)
  (hw:PySem.Within mA ns) (hsz:ns.length<=sizeLine)
  (h:∀ h',ObjM h' x dx C (λ y=>if y=name then some v else mA y)->Heap.SameBut dx s.heap h'->Q () { s with heap:=h',toks:=s.toks+2 }) :
  wpAny (model prog w) A (setAttr (.ref x) name v) Q E s:=by
 obtain ⟨od,J,hl⟩:=I.look
 refine W.set_plain X J hs (W.osa_open (s:={ s with toks:=s.toks+1 }) (r:=none) X J hp ht λ b=>?_)
 obtain ⟨cd,hc,hd'⟩:=W.any_some hh
 have hx:s.heap.get? x=some ⟨.ref C,some dx,.plain,#[]⟩:=I.obj
 refine wpAny_bind (wpAny_pure (wpAny_bind (wpAny_bind (wpAny_loadPart hx (wpAny_bind (W.Looks.here (s:={ s with toks:=s.toks+1 }) (W.looks_clsIn X hc) ?_))))))
 rw [hd']
 refine wpAny_pure (a:=some dx) (wpAny_bind (wpAny_pure (wpAny_bind ?_)))
 refine wpAny_nsSet1 (s:={ s with toks:=s.toks+1 }) I.ns λ h' hn2 hs2=>?_
 obtain ⟨oD,esD,epD,hoD,hdD,hcD⟩:=hn2.count (PySem.Within.cons name v hw)
 refine wpAny_bind (wpAny_lookBehind hoD (by rw [hdD];exact pastItsLine_dict (Nat.le_trans hcD (by rw [List.length_cons];omega))) ?_)
 exact wpAny_pure (h _ ⟨(hs2.2 _ (Ne.symm I.ne)).trans I.obj,hn2,I.ne⟩ hs2)
theorem make_map {R:Result->Shared->Prop}{vs:List Value}{kw:List (Str × Value)}(X:K.In s.heap) (hm:W.makesIn K C=true)
  (hi:W.findIn K (.ref C) "__init__"=some (some (.ref f))) (hf:W.typeIn K (.ref f)=some (.type "function"))
  (h:codeAny (model prog w) (A.under (.builtin "type.__call__" ⟨.ref C::vs,kw⟩)) (.call (.ref f) ⟨.ref (s.heap.objs.size+1)::vs,kw⟩) (W.InitBack (s.heap.objs.size+1) R)
   { s with heap:=(s.heap.push W.emptyDict).push (W.instObj C s.heap.objs.size) }) :
  codeAny (model prog w) A (.call (.ref C) ⟨vs,kw⟩) R s:=by
 obtain ⟨hh,g,d,t,os⟩:=s
 exact W.make_core (W.makes_of X hm) (W.looks_findIn X hi) (λ self=>W.bind_fn X self hf) (.inl rfl) h
end
def putF (f:Str) (v:V):List (Str × V)->List (Str × V)
 | []=>[(f,v)]
 | (g,x)::r=>if g=f then (g,v)::r else (g,x)::putF f v r
theorem lookup_putF (f g:Str) (v:V):∀ fs:List (Str × V),(putF f v fs).lookup g=if g=f then some v else fs.lookup g
 | []=>by
  show List.lookup g [(f,v)]=_
  by_cases h:g=f
  ·have hb:(g == f)=true:=beq_iff_eq.mpr h
   simp only [List.lookup,hb,if_pos h]
  ·have hb:(g == f)=false:=beq_eq_false_iff_ne.mpr h
   simp only [List.lookup,hb,if_neg h]
 | (k,x)::r=>by
  have ih:=lookup_putF f g v r
  rw [show putF f v ((k,x)::r)=(if k=f then (k,v)::r else (k,x)::putF f v r) from rfl]
  by_cases hk:k=f
  ·rw [if_pos hk]
   by_cases h:g=k
   ·have hb:(g == k)=true:=beq_iff_eq.mpr h
    simp only [List.lookup,hb,if_pos (h.trans hk)]
   ·have hb:(g == k)=false:=beq_eq_false_iff_ne.mpr h
    simp only [List.lookup,hb,if_neg (λ e:g=f=>h (e.trans hk.symm))]
  ·rw [if_neg hk]
   by_cases h:g=k
   ·have hb:(g == k)=true:=beq_iff_eq.mpr h
    simp only [List.lookup,hb,if_neg (λ e:g=f=>hk (h.symm.trans e))]
   ·have hb:(g == k)=false:=beq_eq_false_iff_ne.mpr h
    simp only [List.lookup,hb]
    exact ih
theorem keys_putF (f:Str) (v:V):∀ fs:List (Str × V),f∈(putF f v fs).map (·.1)/\∀ g,g∈fs.map (·.1)->g∈(putF f v fs).map (·.1)
 | []=>⟨by simp [putF],λ g h=>by simp at h⟩
 | (k,x)::r=>by
  obtain ⟨i1,i2⟩:=keys_putF f v r
  rw [show putF f v ((k,x)::r)=(if k=f then (k,v)::r else (k,x)::putF f v r) from rfl]
  by_cases hk:k=f
  ·rw [if_pos hk]
   subst hk
   exact ⟨by simp,λ g h=>by simpa using h⟩
  ·rw [if_neg hk]
   refine ⟨?_,λ g h=>?_⟩
   ·rw [List.map_cons]
    exact List.mem_cons_of_mem _ i1
   ·rw [List.map_cons] at h ⊢
    rcases List.mem_cons.mp h with e|e
    ·exact List.mem_cons.mpr (.inl e)
    ·exact List.mem_cons_of_mem _ (i2 g e)
theorem length_putF (f:Str) (v:V):∀ fs:List (Str × V),(putF f v fs).length<=fs.length+1
 | []=>by simp [putF]
 | (k,x)::r=>by
  have ih:=length_putF f v r
  rw [show putF f v ((k,x)::r)=(if k=f then (k,v)::r else (k,x)::putF f v r) from rfl]
  by_cases hk:k=f
  ·rw [if_pos hk,List.length_cons,List.length_cons];omega
  ·rw [if_neg hk,List.length_cons,List.length_cons];omega
theorem RelO.some_of {v:V}{o:Option Value}(r:RelO (some v) o):∃ u,o=some u/\RelV v u:=by
 cases o with
 | none=>exact (show False from r).elim
 | some u=>exact ⟨u,rfl,r⟩
theorem RelO.none_of {o:Option Value}(r:RelO none o):o=none:=by
 cases o with
 | none=>rfl
 | some u=>exact (show False from r).elim
theorem handed_of {v:V}{u:Value}(r:RelV v u):W.handedIn u=true:=by
 cases v with
 | non=>cases (show u=Value.none from r);rfl
 | bl b=>cases (show u=Value.bool b from r);rfl
 | int i=>obtain ⟨t,e⟩:=(show ∃ t,u=Value.int i t from r);cases e;rfl
 | str x=>obtain ⟨t,e⟩:=(show ∃ t,u=Value.str x t from r);cases e;rfl
 | byt b=>obtain ⟨t,e⟩:=(show ∃ t,u=Value.bytes b t from r);cases e;rfl
 | flt b=>obtain ⟨t,e⟩:=(show ∃ t,u=Value.float b t from r);cases e;rfl
 | ref a=>cases (show u=Value.ref a from r);rfl
 | ty n=>cases (show u=Value.type n from r);rfl
section
variable {P:Program}{w:World}{H H':Hp}{h h':Heap}{a C dx:Addr}{fs fs':List (Str × V)}
theorem ins_get (hok:HOk P w H h) (e:H a=some (.ins C dx fs)):∃ mA,ObjM h a dx C mA/\(∀ f,RelO (fs.lookup f) (mA f))/\PySem.Within mA (fs.map (·.1))/\fs.length<=1000/\H dx=some (.own a):=by
 obtain ⟨d,z,ne,ob,mA,n,r,q⟩:=(show ObjOk P w H h a (.ins C dx fs) from hok a _ e)
 exact ⟨mA,⟨ob,n,ne⟩,r,q,z,d⟩
end
structure Cls (K:W.Frag) (C:Addr):Prop where
 pg:W.plainGet K C Str.empty=true
 hd:W.hasDictIn K C=true
 po:W.plainOver K C=true
 sa:W.findIn K (.ref C) "__setattr__"=some (some (.builtin "object.__setattr__"))
theorem Cls.get {K:W.Frag}{C:Addr}(c:Cls K C) (f:Str):W.plainGet K C f=true:=c.pg
def NoAttr (K:W.Frag) (C:Addr) (f:Str):Prop:=W.findIn K (.ref C) f=some none
theorem NoAttr.taker {K:W.Frag}{C:Addr}{f:Str}(n:NoAttr K C f):W.takerIn K C f=some none:=by
 unfold W.takerIn
 rw [show W.findIn K (.ref C) f=some none from n]
 rfl
structure Meth (K:W.Frag) (C:Addr) (m:Str) (f:Addr):Prop where
 at_:W.findIn K (.ref C) m=some (some (.ref f))
 fn:W.isFn K (.ref f)=true
 kp:W.keepIn K (.ref f)=true
section
variable {X:Cx}{pins:List (Addr × Obj)}{σ:St}{H:Hp}{s:Shared}{a C dx:Addr}{fs:List (Str × V)}{f:Str}{v:V}{A:Around}{E:Value->Shared->Prop}
theorem getattr_ok {b:Bool}{Q:Value->Shared->Prop}(I:Inv X pins σ H s) (e:H a=some (.ins C dx fs)) (c:Cls X.K C) (n:NoAttr X.K C f) (l:fs.lookup f=some v)
  (h:∀ u s',Inv X pins σ H s'->RelV v u->Q u s'):wpAny (model X.prog X.w) A (getAttr (.ref a) f b) Q E s:=by
 obtain ⟨mA,O,r,_,_,_⟩:=ins_get I.hok e
 obtain ⟨u,hu,ru⟩:=RelO.some_of (v:=v) (o:=mA f) (by rw [←l];exact r f)
 exact get_map I.kIn O (c.get f) c.hd n hu (handed_of ru) (h u _ (I.tok _) ru)
theorem getmeth_ok {m:Str}{g:Addr}{pl:Sem Bool}{Q:Value × List Value->Shared->Prop}(I:Inv X pins σ H s) (e:H a=some (.ins C dx fs)) (c:Cls X.K C) (k:Meth X.K C m g) (l:fs.lookup m=none)
  (h:Q (.ref g,[.ref a]) s):wpAny (model X.prog X.w) A (getMethod (.ref a) m pl) Q E s:=by
 obtain ⟨mA,O,r,_,_,_⟩:=ins_get I.hok e
 have hn:mA m=none:=RelO.none_of (by rw [←l];exact r m)
 exact get_meth I.kIn O (c.get m) k.at_ k.fn hn h
theorem setattr_ok {y:V}{u:Value}{Q:Unit->Shared->Prop}(I:Inv X pins σ H s) (e:H a=some (.ins C dx fs)) (c:Cls X.K C) (n:NoAttr X.K C f) (hl:fs.length < 1000) (ry:RelV y u)
  (h:∀ s',Inv X pins σ (upd H a (.ins C dx (putF f y fs))) s'->Q () s'):wpAny (model X.prog X.w) A (setAttr (.ref a) f u) Q E s:=by
 obtain ⟨mA,O,r,wi,_,ho⟩:=ins_get I.hok e
 have hz:(fs.map (·.1)).length<=sizeLine:=by rw [List.length_map,sizeLine_eq];omega
 refine set_map I.kIn O c.sa c.po n.taker c.hd wi hz λ h' O' sb=>h _ ?_
 have hd:∃ o,h'.get? dx=some o:=let ⟨o,_,_,e',_⟩:=O'.ns;⟨o,e'⟩
 refine I.write (x:=a) (e:=dx) (by rw [e];exact True.intro) (.inr ho) (λ b q hb z=>(sb.2 b hb).trans z) hd ?_
 refine ⟨by rw [upd_ne O.ne];exact ho,?_,O.ne,O'.obj,_,O'.ns,λ g=>?_,λ g hg=>?_⟩
 ·have:=length_putF f y fs;omega
 ·show RelO ((putF f y fs).lookup g) (if g=f then some u else mA g)
  rw [lookup_putF]
  by_cases q:g=f
  ·rw [if_pos q,if_pos q];exact ry
  ·rw [if_neg q,if_neg q];exact r g
 ·by_cases q:g=f
  ·rw [q];exact (keys_putF f y fs).1
  ·refine (keys_putF f y fs).2 g (wi g λ z=>hg ?_)
   show (if g=f then some u else mA g)=none
   rw [if_neg q];exact z
theorem Inv.made (I:Inv X pins σ H s):Inv X pins σ (upd (upd H s.heap.objs.size (.own (s.heap.objs.size+1))) (s.heap.objs.size+1) (.ins C s.heap.objs.size []))
  { s with heap:=(s.heap.push W.emptyDict).push (W.instObj C s.heap.objs.size) }:=by
 have e1:(s.heap.push W.emptyDict).get? s.heap.objs.size=some W.emptyDict:=Heap.get?_push_size s.heap rfl
 have e2:((s.heap.push W.emptyDict).push (W.instObj C s.heap.objs.size)).get? (s.heap.objs.size+1)=some (W.instObj C s.heap.objs.size):=by
  have:=Heap.get?_push_size (s.heap.push W.emptyDict) (o:=W.instObj C s.heap.objs.size) rfl
  rwa [Heap.size_push] at this
 have e3:(s.heap.push W.emptyDict).Ns s.heap.objs.size (λ _=>none):=⟨W.emptyDict,#[],_,e1,rfl,(λ e he=>absurd he (by simp)),λ _=>rfl⟩
 have I1:=I.laid (a:=s.heap.objs.size) (o:=.own (s.heap.objs.size+1)) (h':=s.heap.push W.emptyDict) (t':=s.toks) (λ b u q=>Heap.get?_push_of_some _ q) (Nat.le_refl _) ⟨_,e1⟩
 refine I1.laid (a:=s.heap.objs.size+1) (o:=.ins C s.heap.objs.size []) (t':=s.toks) (λ b u q=>Heap.get?_push_of_some _ q) (Nat.le_of_eq (Heap.size_push _ _)) ?_
 have ne:s.heap.objs.size ≠ s.heap.objs.size+1:=Nat.ne_of_lt (Nat.lt_succ_self _)
 refine ⟨by rw [upd_ne ne,upd_same],Nat.zero_le _,ne,e2,λ _=>none,(Heap.Ns1.of_empty e3).at λ o q=>Heap.get?_push_of_some _ q,λ _=>True.intro,λ y hy=>absurd rfl hy⟩
theorem attr_of {prog:Program}{w:World}{env:Env}{e:Expr}{f:Str}{pos:Pos}{s:Shared}{Q:Value->Shared->Prop}(hb:attributeBase e f env (eval e env)=eval e env)
  (h:wpAny (model prog w) A (eval e env) (λ o s₁=>wpAny (model prog w) A (getAttr o f true) Q E s₁) E s):wpAny (model prog w) A (eval (.Attribute e f pos) env) Q E s:=
 Attribute_any_ h (by rw [arm_eval_Attribute,hb])
end
section
variable {X:Cx}{o e value:Expr}{f:Str}{pos pos' tpos:Pos}{ta tv:TE}
end
section
variable {X:Cx}{pins:List (Addr × Obj)}{σ:St}{H:Hp}{s:Shared}{A:Around}{E:Value->Shared->Prop}{Q:Value->Shared->Prop}{c:Value}{b:Bool}
inductive TyOf (K:PySem.W.Frag) (H:Hp):V->Value->Prop where
 | non:TyOf K H .non (.type "NoneType")
 | bl (x:Bool):TyOf K H (.bl x) (.type "bool")
 | int (i:Int):TyOf K H (.int i) (.type "int")
 | str (x:Str):TyOf K H (.str x) (.type "str")
 | flt (x:UInt64):TyOf K H (.flt x) (.type "float")
 | lst {a:Addr} {xs:List V} (e:H a=some (.lst xs)):TyOf K H (.ref a) (.type "list")
 | frz {a:Addr} {o:Obj} {xs:List V} (e:H a=some (.frz o (.lst xs))):TyOf K H (.ref a) (.type "list")
 | tup {a:Addr} {xs:List V} (e:H a=some (.tup xs)):TyOf K H (.ref a) (.type "tuple")
 | dK {a:Addr} {kvs:List (Key × V)} (e:H a=some (.dK kvs)):TyOf K H (.ref a) (.type "dict")
 | dT {a:Addr} {kvs:List (List Key × V)} (e:H a=some (.dT kvs)):TyOf K H (.ref a) (.type "dict")
 | ins {a C dx:Addr} {fs:List (Str × V)} (e:H a=some (.ins C dx fs)) (cl:Cls K C) (ha:PySem.W.findIn K (.ref C) "__class__"=some (some (.builtin "object.__class__")))
   (hn:PySem.W.specialIn K (.builtin "object.__class__") "__get__"=some (some (.builtin "getset_descriptor.__get__"))) (htk:PySem.W.takesIn K (.builtin "object.__class__")=some true)
   (hm:PySem.W.mroIn K C (.type "object")=some true):TyOf K H (.ref a) (.ref C)
theorem isinst_ok {x:V}{u t:Value}(I:Inv X pins σ H s) (rx:RelV x u) (ty:TyOf X.K H x t) (e:W.kitOne X.K t c=some b) (h:∀ tk,Q (.bool b) { s with toks:=tk }) :
  wpAny (model X.prog X.w) A (call (.builtin "isinstance") [u,c]) Q E s:=by
 cases ty with
 | non=>cases (show u=Value.none from rx);exact W.kia_one W.kitx_none I.kIn True.intro e (λ z=>nomatch z) h
 | bl y=>cases (show u=Value.bool y from rx);exact W.kia_one W.kitx_bool I.kIn True.intro e (λ z=>nomatch z) h
 | int i=>obtain ⟨t,q⟩:=(show ∃ t,u=Value.int i t from rx);cases q;exact W.kia_one W.kitx_int I.kIn True.intro e (λ z=>nomatch z) h
 | str y=>obtain ⟨t,q⟩:=(show ∃ t,u=Value.str y t from rx);cases q;exact W.kia_one W.kitx_str I.kIn True.intro e (λ z=>nomatch z) h
 | flt y=>obtain ⟨t,q⟩:=(show ∃ t,u=Value.float y t from rx);cases q;exact W.kia_one W.kitx_float I.kIn True.intro e (λ z=>nomatch z) h
 | @lst a xs ea=>
  cases (show u=Value.ref a from rx)
  obtain ⟨_,_,n,_,h1⟩:=(show ObjOk X.prog X.w H s.heap a (.lst xs) from I.hok a _ ea)
  exact W.kia_one W.kitx_list I.kIn ⟨_,h1,rfl⟩ e (λ z=>nomatch z) h
 | @frz a ob xs ea=>
  cases (show u=Value.ref a from rx)
  obtain ⟨_,_,_,n,_,h1⟩:=(show ObjOk X.prog X.w H s.heap a (.frz ob (.lst xs)) from I.hok a _ ea)
  exact W.kia_one W.kitx_list I.kIn ⟨_,h1,rfl⟩ e (λ z=>nomatch z) h
 | @tup a xs ea=>
  cases (show u=Value.ref a from rx)
  obtain ⟨_,_,_,p⟩:=(show ObjOk X.prog X.w H s.heap a (.tup xs) from I.hok a _ ea)
  obtain ⟨o,h1,h2,_⟩:=p
  exact W.kia_one W.kitx_tuple I.kIn ⟨o,h1,h2⟩ e (λ z=>nomatch z) h
 | @dK a kvs ea=>
  cases (show u=Value.ref a from rx)
  obtain ⟨_,_,vs,_,p⟩:=(show ObjOk X.prog X.w H s.heap a (.dK kvs) from I.hok a _ ea)
  obtain ⟨o,es,ep,h1,h2,_⟩:=p
  exact W.kia_one W.kitx_dict I.kIn ⟨o,h1,h2.1⟩ e (λ z=>nomatch z) h
 | @dT a kvs ea=>
  cases (show u=Value.ref a from rx)
  obtain ⟨_,_,xs,_,o,es,ep,h1,h2,_⟩:=(show ObjOk X.prog X.w H s.heap a (.dT kvs) from I.hok a _ ea)
  exact W.kia_one W.kitx_dict I.kIn ⟨o,h1,h2.1⟩ e (λ z=>nomatch z) h
 | @ins a C dx fs ea cl ha hn htk hm=>
  cases (show u=Value.ref a from rx)
  obtain ⟨mA,O,_⟩:=ins_get I.hok ea
  obtain ⟨od,J,_⟩:=O.look
  exact W.kia_one (W.kitx_own (cl.get _) cl.hd ha hn htk hm) I.kIn J e (λ z=>nomatch z) h
end
end L2
namespace L2
open PySem PySem.Spec PyProof.Rows
structure Room (k:Nat) (A:Around):Prop where
 hd:A.handled=none
 dp:A.depth+3 * k+5 < recursionLimit
 un:A.units+16 * k+200 < cLine
theorem Room.mono {j k:Nat}{A:Around}(r:Room k A) (h:j<=k):Room j A:=⟨r.hd,by have:=r.dp;omega,by have:=r.un;omega⟩
theorem Room.deeper {k:Nat}{A:Around}(r:Room (k+1) A) (env:Env):Room k (A.deeper env):=
 ⟨r.hd,by have:=r.dp;show A.depth+1+3 * k+5 < _;omega,by have:=r.un;show A.units+3+16 * k+200 < _;omega⟩
theorem make_depth {A:Around}{C:Addr}{us:List Value}{kw:List (Str × Value)}:(A.under (.builtin "type.__call__" ⟨.ref C::us,kw⟩)).depth=A.depth+1:=by
 first|rfl|simp [Around.under,Code.weight,Code.isCreation,Code.isGuard,Code.isCaller,Code.frames,Code.isFrame,guardIds]
theorem make_units {A:Around}{C:Addr}{us:List Value}{kw:List (Str × Value)}:(A.under (.builtin "type.__call__" ⟨.ref C::us,kw⟩)).units=A.units+1:=by
 first|rfl|simp [Around.under,Code.cUnits,Code.frames,Code.isFrame]
theorem Room.make {k:Nat}{A:Around}(r:Room (k+1) A) (C:Addr) (us:List Value) (kw:List (Str × Value)):Room k (A.under (.builtin "type.__call__" ⟨.ref C::us,kw⟩)):=
 ⟨r.hd,by have:=r.dp;rw [make_depth];omega,by have:=r.un;rw [make_units];omega⟩
theorem Room.depth {k:Nat}{A:Around}(r:Room k A):A.depth < recursionLimit:=by have:=r.dp;omega
theorem Room.units {k:Nat}{A:Around}(r:Room k A):A.units+64 < cLine:=by have:=r.un;omega
def tNil:TA:=λ _ H Q=>Q [] H
def tCons (ta:TE) (tr:TA):TA:=λ σ H Q=>ta σ H λ x H1=>tr σ H1 λ xs H2=>Q (x::xs) H2
section
variable {X:Cx}{e:Expr}{es:List Expr}{te:TE}{t:TA}{pos:Pos}
theorem pa_nil:PA X [] tNil:=λ _ _ _ _ H Q I h=>Calls.spliced_nil ⟨[],H,I,.nil,h⟩
theorem pa_cons (ha:PE X e te) (hr:PA X es t) (hs:starEach (e::es) X.env=(false,eval e X.env)::starEach es X.env:=by rfl):PA X (e::es) (tCons te t):=by
 intro pos pins s σ H Q I h
 rw [hs]
 show wpAny _ _ (spliced ((false,eval e X.env)::backTo pos (starEach es X.env))) _ _ s
 refine Calls.spliced_cons (thn (ha pins s σ H _ I h) λ u s1 ⟨x,H1,I1,r1,q1⟩=>?_)
 exact thn (hr pos pins s1 σ H1 _ I1 q1) λ us s2 ⟨xs,H2,I2,r2,q2⟩=>⟨x::xs,H2,I2,.cons r1 r2,q2⟩
end
abbrev Sp:=List V->Hp->VK->XK->Prop
abbrev CXT:=List Env->Hp->Shared->XK->Value->Shared->Prop
structure Env0 (P:Program) (w:World) (K:W.Frag) (mg:Str->Option Value) (base:Heap) (A:Around) (outer:List Env) (s:Shared) (H:Hp):Prop where
 frames:A.frames=some outer
 mod:Mod K mg base
 bs:∀ b o,base.get? b=some o->s.heap.get? b=some o/\H b=none
 bsz:base.objs.size<=s.heap.objs.size
 funs:s.heap.FunFrames base outer
 frf:∀ b∈frs outer,H b=none
 hok:HOk P w H s.heap
 bare:AllBare s.gens
def CE (outer:List Env) (P:Program) (w:World) (H:Hp) (s:Shared) (Q:VK) (u:Value) (s':Shared):Prop:=
 ∃ v H',s'.os=s.os/\AllBare s'.gens/\Un (frs outer) [] H H' s.heap s'.heap/\HOk P w H' s'.heap/\RelV v u/\Q v H'
def CR (CX:CXT) (outer:List Env) (P:Program) (w:World) (H:Hp) (s:Shared) (Q:VK) (E:XK) (r:Result) (s':Shared):Prop:=
 match r with
 | .ok (.ret u)=>CE outer P w H s Q u s'
 | .ok _=>False
 | .error e=>CX outer H s E e s'
structure FnOk (P:Program) (w:World) (K:W.Frag) (mg:Str->Option Value) (base:Heap) (CX:CXT) (k:Nat) (f:Addr) (fd:FuncData) (ps:List Str) (sp:Sp):Prop where
 len:∀ vs H Q E,sp vs H Q E->vs.length=ps.length
 run:∀ (A:Around) (outer:List Env) (s:Shared) (H:Hp) (args:Args) (us:List Value) (vs:List V) (Q:VK) (E:XK),Room k A->Env0 P w K mg base A outer s H->BindsTo s fd args (ps.zip us)->Vals vs us->sp vs H Q E →
  codeAny (model P w) A (.call (.ref f) args) (CR CX outer P w H s Q E) s
theorem Env0.make {P:Program}{w:World}{K:W.Frag}{mg:Str->Option Value}{base:Heap}{A:Around}{outer:List Env}{s:Shared}{H:Hp}(e:Env0 P w K mg base A outer s H) (C:Addr) (us:List Value) (kw:List (Str × Value)) :
  Env0 P w K mg base (A.under (.builtin "type.__call__" ⟨.ref C::us,kw⟩)) outer s H:=⟨by first|exact e.frames|(simpa [Around.under,Code.envs,Code.isFrame,pushEnvs] using e.frames),e.mod,e.bs,e.bsz,e.funs,e.frf,e.hok,e.bare⟩
section
variable {X:Cx}{pins:List (Addr × Obj)}{σ:St}{H:Hp}{s s':Shared}
theorem Inv.env0 (I:Inv X pins σ H s):Env0 X.prog X.w X.K X.mg X.base X.A X.stack s H:=
 ⟨I.ok.frames,I.ok.mod,I.bs,Nat.le_trans I.ok.bsz I.sz,I.stack,I.stkFree,I.hok,I.bare⟩
theorem Inv.after {Q:VK}{u:Value}(I:Inv X pins σ H s) (h:CE X.stack X.prog X.w H s Q u s'):EP X pins σ Q u s':=by
 obtain ⟨v,H',os,bare,un,hok,r,q⟩:=h
 obtain ⟨hh,g,d,t,os'⟩:=s'
 obtain rfl:os'=s.os:=os
 exact ⟨v,H',I.call (h':=hh) (g':=g) (d':=d) (t':=t) (ch:=[]) un hok bare (λ b z=>absurd z (by simp)),r,q⟩
end
def tCall (sp:Sp) (dvs:List V) (E:XK) (t:TA):TE:=λ σ H Q=>t σ H λ vs H1=>sp (vs++dvs) H1 Q E
def Binds (K:W.Frag) (fd:FuncData) (ps:List Str) (ds:List Value):Prop:=
 ∀ (s:Shared) (us:List Value),K.In s.heap->(us++ds).length=ps.length->BindsTo s fd ⟨us,[]⟩ (ps.zip (us++ds))
theorem Binds.all {K:W.Frag}{fd:FuncData}{ps:List Str}(h:∀ us:List Value,us.length=ps.length->bindArgs fd ⟨us,[]⟩=pure (ps.zip us)):Binds K fd ps []:=λ s us _ hl=>by
 rw [List.append_nil] at hl ⊢
 exact .of_eq (h us hl)
def Passes (CX:CXT) (X:Cx) (E:XK):Prop:=∀ (pins:List (Addr × Obj)) (σ:St) (H:Hp) (s:Shared) (e:Value) (s':Shared),Inv X pins σ H s->CX X.stack H s E e s'->X.xe e s'
section
variable {X:Cx}{CX:CXT}{k:Nat}{f C:Addr}{fd:FuncData}{ps:List Str}{sp:Sp}{dvs:List V}{ds:List Value}{E:XK}{x m:Str}{p pos apos:Pos}{e o:Expr}{es:List Expr}{ta:TE}{t:TA}
theorem run_fn {pins:List (Addr × Obj)}{σ:St}{H:Hp}{s:Shared}{Q:VK}{us:List Value}{vs:List V}(F:FnOk X.prog X.w X.K X.mg X.base CX k f fd ps sp) (hr:Room k X.A) (hb:Binds X.K fd ps ds) (hd:Vals dvs ds) (hx:Passes CX X E)
  (I:Inv X pins σ H s) (r:Vals vs us) (h:sp (vs++dvs) H Q E):wpAny (model X.prog X.w) X.A (call (.ref f) us) (EP X pins σ Q) X.xe s:=by
 have r2:Vals (vs++dvs) (us++ds):=r.append hd
 have hl:(us++ds).length=ps.length:=by rw [←r2.length];exact F.len _ _ _ _ h
 refine wpAny_call (codeAny_mono (F.run X.A X.stack s H ⟨us,[]⟩ (us++ds) (vs++dvs) Q E hr I.env0 (hb s us I.kIn hl) r2 h) λ r s' hq=>?_)
 cases r with
 | error e=>exact hx pins σ H s e s' I hq
 | ok fl=>
  cases fl with
  | ret u=>exact I.after hq
  | next=>exact False.elim hq
  | brk=>exact False.elim hq
  | cont=>exact False.elim hq
theorem pe_call (F:FnOk X.prog X.w X.K X.mg X.base CX k f fd ps sp) (hr:Room k X.A) (hg:Gl X x) (hm:X.mg x=some (.ref f)) (hk:W.keepIn X.K (.ref f)=true) (hb:Binds X.K fd ps ds) (hd:Vals dvs ds) (hx:Passes CX X E)
  (ha:PA X (e::es) t) (hdb:(x == ("__debug__":Str))=false:=by decide) (he:starEach (e::es) X.env=(false,eval e X.env)::starEach es X.env:=by rfl) (hpl:(backTo pos (starEach es X.env)).any (·.1)=false:=by rfl) :
  PE X (.Call (.Name x p) (e::es) [] pos) (tCall sp dvs E t):=by
 intro pins s σ H Q I h
 refine wpAny_Call_Name_kw (ld_glob I hg hm ?_ hdb)
 refine W.callWith_K (h₀:=X.base) I.ok.mod.kin hk (thn (ha pos pins s σ H _ I h) λ us s1 ⟨vs,H1,I1,r,q⟩=>⟨I1.kIn,?_⟩) he hpl
 exact run_fn F hr hb hd hx I1 r q
structure Mk (K:W.Frag) (C f:Addr):Prop where
 makes:W.makesIn K C=true
 init:W.findIn K (.ref C) "__init__"=some (some (.ref f))
 fn:W.isFn K (.ref f)=true
 kp:W.keepIn K (.ref C)=true
theorem run_make {pins:List (Addr × Obj)}{σ:St}{H:Hp}{s:Shared}{Q:VK}{us:List Value}{vs:List V}(M:Mk X.K C f) (F:FnOk X.prog X.w X.K X.mg X.base CX k f fd ps sp) (hr:Room (k+1) X.A) (hb:Binds X.K fd ps ds) (hd:Vals dvs ds)
  (hx:Passes CX X E) (I:Inv X pins σ H s) (r:Vals vs us)
  (h:∀ x dx,H x=none->H dx=none->dx ≠ x->sp (.ref x::(vs++dvs)) (upd (upd H dx (.own x)) x (.ins C dx [])) (λ v H2=>v=.non/\Q (.ref x) H2) E) :
  wpAny (model X.prog X.w) X.A (call (.ref C) us) (EP X pins σ Q) X.xe s:=by
 have hq:=h (s.heap.objs.size+1) s.heap.objs.size (I.hok.fresh (Nat.le_succ _)) (I.hok.fresh (Nat.le_refl _)) (Nat.ne_of_lt (Nat.lt_succ_self _))
 have I2:=Inv.made (C:=C) I
 have r2:Vals (V.ref (s.heap.objs.size+1)::(vs++dvs)) (Value.ref (s.heap.objs.size+1)::(us++ds)):=.cons rfl (r.append hd)
 have hl:(Value.ref (s.heap.objs.size+1)::us++ds).length=ps.length:=by
  have e:=r2.length
  rw [F.len _ _ _ _ hq] at e
  exact e.symm
 refine wpAny_call (make_map (f:=f) I.kIn M.makes M.init (beq_iff_eq.mp M.fn) (codeAny_mono (F.run _ X.stack _ _ ⟨Value.ref (s.heap.objs.size+1)::us,[]⟩ (Value.ref (s.heap.objs.size+1)::(us++ds)) _ _ E (hr.make C us [])
  (I2.env0.make C us []) (hb _ (Value.ref (s.heap.objs.size+1)::us) I2.kIn hl) r2 hq) λ r s' hq'=>?_))
 cases r with
 | error e=>exact hx pins σ _ _ e s' I2 hq'
 | ok fl=>
  cases fl with
  | ret u=>
   obtain ⟨v,H',I3,rv,ev,q3⟩:=I2.after hq'
   subst ev
   exact ⟨rv,⟨V.ref (s.heap.objs.size+1),H',I3,rfl,q3⟩⟩
  | next=>exact False.elim hq'
  | brk=>exact False.elim hq'
  | cont=>exact False.elim hq'
end
section
variable {X:Cx}{CX:CXT}{k:Nat}{f C:Addr}{fd:FuncData}{ps ks:List Str}{sp:Sp}{E:XK}{x m:Str}{p pos apos kpos:Pos}{e o:Expr}{es:List Expr}{kws:List Keyword}{te ta:TE}{t tk:TA}{nm:Option Str}
variable {g:List Value->List Value->List Value}{gV:List V->List V->List V}
end
structure FnScope (N P:List Str) (sc:Scope):Prop where
 kind:sc.kind=.function
 co:sc.isCoroutine=false
 gen:sc.isGenerator=false
 nd:N.Nodup
 pre:N.take P.length=P
 par:∀ x∈P,sc.names.lookup x=some .local\/sc.names.lookup x=some .cell
 nofree:∀ y∈sc.names,y.2 ≠ .free
theorem bindL_out {kindOf:Str->Option NameKind}{x:Str}:∀ {binds:List (Str × Value)}{m:Str->Option Value},(∀ v,(x,v) ∉ binds)->bindL kindOf binds m x=m x
 | [],_,_=>rfl
 | (n,v)::r,m,h=>by
  unfold bindL
  rw [bindL_out λ w hw=>h w (List.mem_cons_of_mem _ hw)]
  split
  ·have:x ≠ n:=by rintro rfl;exact h v List.mem_cons_self
   simp [this]
  ·rfl
theorem bindC_out {kindOf:Str->Option NameKind}{x:Str}:∀ {binds:List (Str × Value)}{m:Str->Option Value},(∀ v,(x,v) ∉ binds)->bindC kindOf binds m x=m x
 | [],_,_=>rfl
 | (n,v)::r,m,h=>by
  unfold bindC
  rw [bindC_out λ w hw=>h w (List.mem_cons_of_mem _ hw)]
  split
  ·rfl
  ·have:x ≠ n:=by rintro rfl;exact h v List.mem_cons_self
   simp [this]
theorem bindL_get {kindOf:Str->Option NameKind}{x:Str}{v:Value}:∀ {P:List Str}{vs:List Value}{i:Nat}{m:Str->Option Value},P.Nodup->P[i]? = some x->vs[i]? = some v->kindOf x=some .local →
  bindL kindOf (P.zip vs) m x=some v
 | [],_,_,_,_,h,_,_=>by simp at h
 | _::_,[],_,_,_,_,h,_=>by simp at h
 | p::P,w::vs,0,m,nd,h1,h2,hk=>by
  simp at h1 h2;subst h1;subst h2
  show bindL kindOf ((p,w)::P.zip vs) m p=_
  unfold bindL
  rw [bindL_out λ v hv=>(List.nodup_cons.mp nd).1 (List.of_mem_zip hv).1,if_pos hk]
  simp
 | p::P,w::vs,i+1,m,nd,h1,h2,hk=>by
  show bindL kindOf ((p,w)::P.zip vs) m x=_
  unfold bindL
  exact bindL_get (i:=i) (List.nodup_cons.mp nd).2 (by simpa using h1) (by simpa using h2) hk
theorem bindC_get {kindOf:Str->Option NameKind}{x:Str}{v:Value}:∀ {P:List Str}{vs:List Value}{i:Nat}{m:Str->Option Value},P.Nodup->P[i]? = some x->vs[i]? = some v->kindOf x ≠ some .local →
  bindC kindOf (P.zip vs) m x=some v
 | [],_,_,_,_,h,_,_=>by simp at h
 | _::_,[],_,_,_,_,h,_=>by simp at h
 | p::P,w::vs,0,m,nd,h1,h2,hk=>by
  simp at h1 h2;subst h1;subst h2
  show bindC kindOf ((p,w)::P.zip vs) m p=_
  unfold bindC
  rw [bindC_out λ v hv=>(List.nodup_cons.mp nd).1 (List.of_mem_zip hv).1,if_neg hk]
  simp
 | p::P,w::vs,i+1,m,nd,h1,h2,hk=>by
  show bindC kindOf ((p,w)::P.zip vs) m x=_
  unfold bindC
  exact bindC_get (i:=i) (List.nodup_cons.mp nd).2 (by simpa using h1) (by simpa using h2) hk
def start (N:List Str) (vs:List V):St:=vs.map some++List.replicate (N.length - vs.length) none
def cxOf (CX:CXT) (P:Program) (w:World) (K:W.Frag) (mg:Str->Option Value) (base:Heap) (N:List Str) (qual:Str) (scope:Scope) (f:Addr) (cd:Value) (A:Around) (outer:List Env) (s:Shared) (H:Hp) (E:XK):Cx where
 prog:=P
 w:=w
 K:=K
 mg:=mg
 base:=base
 A:=A.deeper (envOfC qual scope s.heap.objs.size f cd)
 N:=N
 s₀:=s
 H₀:=H
 env:=envOfC qual scope s.heap.objs.size f cd
 outer:=outer
 stack:=envOfC qual scope s.heap.objs.size f cd::outer
 ex:=[]
 calm:=true
 fn:=λ _=>true
 pn:=[]
 xe:=λ e s'=>wpAny (model P w) (A.deeper (envOfC qual scope s.heap.objs.size f cd)) (leaving (envOfC qual scope s.heap.objs.size f cd) e) (λ _ s''=>CX outer H s E e s'') (λ e' s''=>CX outer H s E e' s'') s'
theorem cell_has {sc:Scope}{n:Nat}{x:Str}(h:sc.names.lookup x=some .cell):∃ c,(cellsFrom n sc.names []).lookup x=some c:=by
 have q:=W.cellsFrom_some sc.names n [] (.inl h)
 exact Option.isSome_iff_exists.mp q
theorem inv_start {CX:CXT}{P:Program}{w:World}{K:W.Frag}{mg:Str->Option Value}{base:Heap}{N ps:List Str}{qual:Str}{scope:Scope}{f:Addr}{cd:Value}{A:Around}{outer:List Env}{s s1:Shared}{H:Hp}{E:XK}{us:List Value}{vs:List V}
  (S:FnScope N ps scope) (hd:A.handled=none) (e0:Env0 P w K mg base A outer s H) (hl:vs.length=ps.length) (r:Vals vs us)
  (x:InCallC s s.heap.objs.size (bindL (envOfC qual scope s.heap.objs.size f cd).kindOf (ps.zip us) λ _=>none) (cellsFrom (s.heap.objs.size+1) scope.names []) (bindC (envOfC qual scope s.heap.objs.size f cd).kindOf (ps.zip us) λ _=>none) s1) :
  Inv (cxOf CX P w K mg base N qual scope f cd A outer s H E) [] (start N vs) H s1:=by
 have hpl:ps.length<=N.length:=by have:=congrArg List.length S.pre;rw [List.length_take] at this;omega
 obtain ⟨h1,tk,rfl,hk⟩:=x.done
 have noA:∀ b:Addr,b ∉ (cxOf CX P w K mg base N qual scope f cd A outer s H E).ex:=λ b z=>absurd (show b∈([]:List Addr) from z) (by simp)
 refine ⟨⟨e0.mod,S.kind,rfl,rfl,Nat.le_refl _,λ y z c h1 h2=>?_,λ y hy=>?_,λ y c _ h=>?_,λ _=>hd,Around.frames_deeper e0.frames,.inr ⟨rfl,rfl⟩,λ b z=>absurd z (noA b),e0.bs,e0.bsz,λ b _ _=>noA b,λ b z=>absurd z (noA b),e0.funs,e0.frf⟩,
  rfl,e0.bare,Un.kept hk,⟨_,x.toInCall.ns,λ i y v h1 h2 h3=>?_⟩,λ y c h=>⟨_,x.cell y c h⟩,e0.hok.fresh (Nat.le_refl _),λ y c h=>?_,λ p hp=>absurd (show p∈([]:List (Addr × Obj)) from hp) (by simp),e0.hok.kept hk,?_⟩
 ·exact name_of_addr x.apart (PySem.mem_of_lookup h1) (PySem.mem_of_lookup h2)
 ·have hy:scope.names.lookup y=some .cell\/scope.names.lookup y=some .free:=hy
  rcases hy with hy|hy
  ·exact cell_has hy
  ·exact absurd rfl (S.nofree _ (PySem.mem_of_lookup hy))
 ·exact Nat.le_of_lt (x.above y c (PySem.mem_of_lookup h))
 ·have hi:i < vs.length:=by
   unfold start at h2
   by_cases hi:i < vs.length
   ·exact hi
   ·rw [List.getElem?_append_right (by simpa using hi)] at h2
    rw [List.getElem?_replicate] at h2
    split at h2<;>cases h2
  have ha:vs[i]? = some v:=by
   unfold start at h2
   rw [List.getElem?_append_left (by simpa using hi),List.getElem?_map] at h2
   cases e:vs[i]? with
   | none=>rw [e] at h2;cases h2
   | some a=>rw [e] at h2;cases h2;rfl
  obtain ⟨u,hu,rv⟩:=r.get ha
  have hp:ps[i]? = some y:=by
   rw [←S.pre,List.getElem?_take_of_lt (by omega)];exact h1
  have ndP:ps.Nodup:=by rw [←S.pre];exact S.nd.sublist (List.take_sublist _ _)
  refine ⟨u,rv,?_⟩
  rcases S.par y (List.mem_of_getElem? hp) with k|k
  ·exact .inl ⟨k,bindL_get ndP hp hu k⟩
  ·obtain ⟨c,e⟩:=cell_has (n:=s.heap.objs.size+1) k
   refine .inr ⟨.inl k,c,e,?_⟩
   have q:=x.cell y c e
   rw [bindC_get ndP hp hu (by show scope.names.lookup y ≠ _;rw [k];decide)] at q
   exact q
 ·exact e0.hok.fresh (Nat.le_of_lt (x.above y c (PySem.mem_of_lookup h)))
 ·unfold start
  show _=N.length
  rw [List.length_append,List.length_map,List.length_replicate]
  omega
theorem fn_of {CX:CXT}{P:Program}{w:World}{K:W.Frag}{mg:Str->Option Value}{base:Heap}{k:Nat}{f:Addr}{name qual:Str}{params:Arguments}{body:List Stmt}{scope:Scope}{dV kV doc pm cdv ct oc:Value}{an od:Option Addr}
  {osl:Array (Option Value)} {N ps:List Str} {sp:Sp} (lk:K.lookup f=some ⟨oc,od,.func (W.fnOf name qual params body scope dV kV doc pm an cdv ct),osl⟩) (hcd:W.codeIn K cdv qual=true) (S:FnScope N ps scope)
  (len:∀ vs H Q E,sp vs H Q E->vs.length=ps.length)
  (hbody:∀ (A:Around) (outer:List Env) (s:Shared) (H:Hp) (vs:List V) (Q:VK) (E:XK),Room k (A.deeper (envOfC qual scope s.heap.objs.size f cdv))->sp vs H Q E →
   ∃ t,PSs (cxOf CX P w K mg base N qual scope f cdv A outer s H E) body t/\t { nx:=λ _ H'=>Q .non H',rt:=Q } (start N vs) H) :
  FnOk P w K mg base CX (k+1) f (W.fnOf name qual params body scope dV kV doc pm an cdv ct) ps sp:=by
 refine ⟨len,λ A outer s H args us vs Q E hr e0 hb r hsp=>?_⟩
 have hl:=len _ _ _ _ hsp
 have KX:K.In s.heap:=e0.mod.kin.keeps λ b o e=>(e0.bs b o e).1
 have lim:s.heap.NoLimit:=e0.mod.nolimit.keeps λ b o e=>(e0.bs b o e).1
 have hkind:∀ y∈ps.zip us,scope.names.lookup y.1=some .local\/(scope.names.lookup y.1=some .cell/\((cellsFrom (s.heap.objs.size+1) scope.names []).lookup y.1).isSome=true):=λ ⟨n,v⟩ hy=>by
  rcases S.par n (List.of_mem_zip hy).1 with q|q
  ·exact .inl q
  ·exact .inr ⟨q,W.cellsFrom_some _ _ _ (.inl q)⟩
 refine codeAny_call_function hr.depth (KX _ _ lk) rfl S.co S.gen rfl (W.codeRec_of KX hcd) (hb _ _ _ _ ?_)
 refine wpAny_newFunctionEnv_cells S.kind hkind λ env he s1 x=>?_
 subst he
 refine ⟨lim.keeps x.toInCall.keep,codeAny_func ?_⟩
 obtain ⟨t,ht,hq⟩:=hbody A outer s H vs Q E (hr.deeper _) hsp
 have I:Inv (cxOf CX P w K mg base N qual scope f cdv A outer s H E) [] (start N vs) H s1:=inv_start S hr.hd e0 hl r x
 refine wpAny_mono (ht [] s1 (start N vs) H _ I hq) (λ fl s' hs=>?_) λ e s' hs=>hs
 have fin:∀ {σ':St} {H':Hp} {v:V} {u:Value},Inv (cxOf CX P w K mg base N qual scope f cdv A outer s H E) [] σ' H' s'->RelV v u->Q v H'->CE outer P w H s Q u s':=
  λ {σ' H' v u} J rv q=>⟨v,H',J.os,J.bare,J.base,J.hok,rv,q⟩
 cases fl with
 | ret u=>
  obtain ⟨v,σ',H',J,rv,q⟩:=hs
  exact fin J rv q
 | next=>
  obtain ⟨σ',H',J,q⟩:=hs
  exact fin (v:=V.non) (u:=Value.none) J rfl q
 | brk=>
  obtain ⟨_,_,_,q⟩:=hs
  exact False.elim q
 | cont=>
  obtain ⟨_,_,_,q⟩:=hs
  exact False.elim q
end L2
namespace L2
open PySem PySem.Spec PyProof.Rows
section
variable {X:Cx}{x:Str}{p pos:Pos}{e:Expr}{es:List Expr}{t:TA}{id T:String}{r:List V->Hp->VK->Prop}
def tCB (r:List V->Hp->VK->Prop) (t:TA):TE:=λ σ H Q=>t σ H λ vs H1=>r vs H1 Q
theorem pe_callB (hc:CallR X (.builtin id) r) (hg:Gl X x) (hm:X.mg x=none) (hv:bootBuiltins x=some (.builtin id)) (ha:PA X (e::es) t) (hn:x ≠ "__name__":=by decide) (hdb:(x == ("__debug__":Str))=false:=by decide)
  (he:starEach (e::es) X.env=(false,eval e X.env)::starEach es X.env:=by rfl) (hpl:(backTo pos (starEach es X.env)).any (·.1)=false:=by rfl):PE X (.Call (.Name x p) (e::es) [] pos) (tCB r t):=by
 intro pins s σ H Q I h
 refine wpAny_Call_Name_kw (ld_blt I hg hm hv ?_ hn hdb)
 exact PyProof.Rows.callWith_builtin1 (thn (ha pos pins s σ H _ I h) λ us s1 ⟨vs,H1,I1,r1,q1⟩=>hc pins s1 σ H1 vs us Q I1 r1 q1) he hpl
theorem pe_callTy (hc:CallR X (.type T) r) (hg:Gl X x) (hm:X.mg x=none) (hv:bootBuiltins x=some (.type T)) (ha:PA X (e::es) t) (hn:x ≠ "__name__":=by decide) (hdb:(x == ("__debug__":Str))=false:=by decide)
  (he:starEach (e::es) X.env=(false,eval e X.env)::starEach es X.env:=by rfl) (hpl:(backTo pos (starEach es X.env)).any (·.1)=false:=by rfl):PE X (.Call (.Name x p) (e::es) [] pos) (tCB r t):=by
 intro pins s σ H Q I h
 refine wpAny_Call_Name_kw (ld_blt I hg hm hv ?_ hn hdb)
 exact PyProof.Rows.callWith_type1 (thn (ha pos pins s σ H _ I h) λ us s1 ⟨vs,H1,I1,r1,q1⟩=>hc pins s1 σ H1 vs us Q I1 r1 q1) he hpl
end
end L2
namespace HT
open PySem PyProof.Rows
section
open PySem.SeqAt
open PySem.AutoSeq1 (wpAny_loadPart')
open PySem.MeetsSeq PySem.MeetsSeq2 PySem.MeetsSeq3
end
section
variable {prog:Program}{w:World}{A:Around}{E:Value->Shared->Prop}{s:Shared}
theorem cat_tup {t b:Addr}{vs ws:List Value}{Q:Value->Shared->Prop}(ht:IsTup s.heap t vs.toArray) (hb:IsTup s.heap b ws.toArray) (hv:vs ≠ [])
  (h1:ws=[]->Q (.ref t) s) (h2:ws ≠ []->Q (.ref s.heap.objs.size) { s with heap:=s.heap.push { cls:=.type "tuple",data:=.seq (vs++ws).toArray } })
  (hsz:vs.length+ws.length<=sizeLine):wpAny (model prog w) A (binaryOp .Add (.ref t) (.ref b)) Q E s:=by
 obtain ⟨⟨cls,dd,data,sl⟩,ho,hc,n,hd⟩:=id ht
 obtain ⟨⟨cls2,dd2,data2,sl2⟩,ho2,hc2,n2,hd2⟩:=id hb
 simp only at hc hd hc2 hd2
 subst hc hd hc2 hd2
 have e:vs.toArray++ws.toArray=(vs++ws).toArray:=by simp
 by_cases hw:ws=[]
 ·exact concat_meets ⟨_,ho,rfl⟩ ⟨_,ho2,rfl⟩ noFill_tuple_add seq_tuple_add PySem.F.slot_tuple_add PySem.F.entry_tuple_add (PySem.F.args_tuple_add_2 _ _)
   (tuple_addW1 t b vs.toArray ws.toArray n n2 dd dd2 sl sl2 (by simpa using hv) (by simp [hw])) ⟨ho,ho2,h1 hw⟩
 ·refine concat_meets ⟨_,ho,rfl⟩ ⟨_,ho2,rfl⟩ noFill_tuple_add seq_tuple_add PySem.F.slot_tuple_add PySem.F.entry_tuple_add (PySem.F.args_tuple_add_2 _ _)
   (tuple_addW2 t b vs.toArray ws.toArray n n2 dd dd2 sl sl2 (by simpa using hv) (by simpa using hw) (by rw [List.size_toArray,List.size_toArray];exact hsz)) ⟨ho,ho2,?_⟩
  rw [e]
  exact h2 hw
def sIx (n d:Nat):Option Int->Nat
 | none=>d
 | some v=>if v < 0 then (v+(n:Int)).toNat else min v.toNat n
theorem sIx_none (n d:Nat):sIx n d none=d:=rfl
theorem sIx_nat (n d k:Nat):sIx n d (some (k:Int))=min k n:=by
 show (if (k:Int) < 0 then ((k:Int)+(n:Int)).toNat else min (k:Int).toNat n)=min k n
 rw [if_neg (by omega),Int.toNat_natCast]
end
end HT
namespace L2
open PySem PySem.Spec PyProof.Rows
abbrev TO:=St->Hp->(Option Int->Hp->Prop)->Prop
def PO (X:Cx) (e:Option Expr) (t:TO):Prop:=
 ∀ (pins:List (Addr × Obj)) (s:Shared) (σ:St) (H:Hp) (Q:Option Int->Hp->Prop),Inv X pins σ H s->t σ H Q →
  wpAny (model X.prog X.w) X.A (evalPart e X.env) (λ u s'=>∃ o H',Inv X pins σ H' s'/\IsPart u o/\Q o H') X.xe s
def tNoPart:TO:=λ _ H Q=>Q none H
def tPart (t:TE):TO:=λ σ H Q=>t σ H λ x H1=>∃ i,x=.int i/\Q (some i) H1
theorem intsAre_of {ns:List Int}:∀ {us:List Value},Vals (ns.map V.int) us->IntsAre us ns:=by
 induction ns with
 | nil=>intro us r;rw [List.map_nil] at r;cases r;exact .nil
 | cons n ns ih=>
  intro us r
  rw [List.map_cons] at r
  cases r with
  | cons r1 r2=>
   obtain ⟨t,e⟩:=r1
   subst e
   exact .cons n t (ih r2)
section
variable {X:Cx}{e:Expr}{te:TE}{lo hi:Option Expr}{tl th:TO}{pos p2:Pos}
theorem po_none:PO X none tNoPart:=by
 intro pins s σ H Q I h
 rw [evalPart_none]
 exact wpAny_pure ⟨none,H,I,.none,h⟩
theorem po_some (h:PE X e te):PO X (some e) (tPart te):=by
 intro pins s σ H Q I hw
 rw [evalPart_some]
 refine thn (h pins s σ H _ I hw) λ u s1 ⟨x,H1,I1,r1,q1⟩=>?_
 obtain ⟨i,rfl,q⟩:=q1
 obtain ⟨t,rfl⟩:=r1
 exact ⟨some i,H1,I1,.int i t,q⟩
def SlR (X:Cx) (r:V->Option Int->Option Int->Hp->VK->Prop):Prop:=
 ∀ (pins:List (Addr × Obj)) (s:Shared) (σ:St) (H:Hp) (x:V) (v vl vu:Value) (lo hi:Option Int) (sl:Addr) (Q:VK),Inv X pins σ H s->RelV x v->s.heap.IsSliceOf sl vl vu .none->IsPart vl lo->IsPart vu hi->r x lo hi H Q →
  ∃ T id,typeLookup (.type T) "__getitem__"=pure (some (.builtin id))/\s.TypeIs v T/\wpAny (model X.prog X.w) X.A (getItem v (.ref sl)) (EP X pins σ Q) X.xe s
def tSl (r:V->Option Int->Option Int->Hp->VK->Prop) (te:TE) (tl th:TO):TE:=λ σ H Q=>te σ H λ x H1=>tl σ H1 λ l H2=>th σ H2 λ u H3=>r x l u H3 Q
theorem pe_slice {r:V->Option Int->Option Int->Hp->VK->Prop}(hr:SlR X r) (he:PE X e te) (hl:PO X lo tl) (hu:PO X hi th):PE X (.Subscript e (.Slice lo hi none p2) pos) (tSl r te tl th):=by
 intro pins s σ H Q I h
 refine Subscript_ (thn (he pins s σ H _ I h) λ v s1 ⟨x,H1,I1,r1,q1⟩=>?_)
 refine wpAny_Slice (thn (hl pins s1 σ H1 _ I1 q1) λ vl s2 ⟨l,H2,I2,pl,q2⟩=>thn (hu pins s2 σ H2 _ I2 q2) λ vu s3 ⟨u,H3,I3,pu,q3⟩=>?_)
 rw [evalPart_none]
 refine wpAny_pure ?_
 have I4:Inv X pins σ H3 { s3 with heap:=s3.heap.push { cls:=.type "slice",data:=.fields #[vl,vu,.none] } }:=I3.kept (t':=s3.toks) λ b ob q=>Heap.get?_push_of_some _ q
 obtain ⟨T,id,hT,ht,hg⟩:=hr pins { s3 with heap:=s3.heap.push { cls:=.type "slice",data:=.fields #[vl,vu,.none] } } σ H3 x v vl vu l u s3.heap.objs.size Q I4 r1 (Heap.IsSliceOf.new ..) pl pu q3
 show wpAny (model X.prog X.w) X.A (subscriptTail e (.Slice lo hi none p2) v (.ref s3.heap.objs.size)) (EP X pins σ Q) X.xe { s3 with heap:=s3.heap.push { cls:=.type "slice",data:=.fields #[vl,vu,.none] } }
 exact tail_any (ops:=[.ref s3.heap.objs.size,v]) ht hT hg (by with_unfolding_all rfl)
def cutV (xs:List V) (lo hi:Option Int):List V:=(xs.drop (HT.sIx xs.length 0 lo)).take (HT.sIx xs.length xs.length hi - HT.sIx xs.length 0 lo)
theorem cutV_length (xs:List V) (lo hi:Option Int):(cutV xs lo hi).length<=xs.length:=by
 unfold cutV
 rw [List.length_take,List.length_drop]
 omega
def rCatT (K:W.Frag):R2:=λ x y H Q=>∃ a b xs ys,x=.ref a/\y=.ref b/\SqT K H a xs/\SqT K H b ys/\xs ≠ []/\xs.length+ys.length<=sizeLine /\
 (ys=[]->Q (.ref a) H)/\(ys ≠ []->∀ p,H p=none->Q (.ref p) (upd H p (.tup (xs++ys))))
theorem Vals.nil_iff {xs:List V}{us:List Value}(r:Vals xs us):us=[] ↔ xs=[]:=by
 cases r with
 | nil=>simp
 | cons _ _=>simp
theorem op_catT:OpR X (binaryOp .Add) (rCatT X.K):=by
 intro pins s σ H x y v u Q I rx ry h
 obtain ⟨a,b,xs,ys,rfl,rfl,ha,hb,hx,hz,q1,q2⟩:=h
 cases rx
 cases ry
 obtain ⟨its,r1,p1,_⟩:=I.tuple ha
 obtain ⟨its2,r2,p2,_⟩:=I.tuple hb
 refine HT.cat_tup p1 p2 (λ z=>hx (r1.nil_iff.mp z)) (λ z=>⟨.ref a,H,I,rfl,q1 (r2.nil_iff.mp z)⟩) (λ z=>?_) (by rw [←r1.length,←r2.length];exact hz)
 refine ⟨.ref s.heap.objs.size,_,I.laid (t':=s.toks) (o:=.tup (xs++ys)) (λ b ob q=>Heap.get?_push_of_some _ q) (Nat.le_refl _) ?_,rfl,q2 (λ w=>z (r2.nil_iff.mpr w)) _ (I.hok.fresh (Nat.le_refl _))⟩
 exact ⟨by rw [List.length_append];exact hz,_,r1.append r2,IsTup.new _ _⟩
end
end L2
namespace L2
open PySem PySem.Spec PyProof.Rows
def ixN (n:Nat) (i:Int):Option Nat:=if 0<=i then (if i < n then some i.toNat else none) else if -(n:Int)<=i then some (i+n).toNat else none
def atI {α:Type}(xs:List α) (i:Int):Option α:=(ixN xs.length i).bind λ j=>xs[j]?
theorem ixN_seq {n:Nat}{i:Int}{j:Nat}(h:ixN n i=some j):seqIndex? i n=some j/\j < n/\-(n:Int)<=i/\i < n:=by
 unfold ixN at h
 by_cases h0:0<=i
 ·rw [if_pos h0] at h
  by_cases h1:i < n
  ·rw [if_pos h1] at h
   have e:i.toNat=j:=Option.some.inj h
   exact ⟨by rw [seqIndex_of h0 h1,e],by omega,by omega,h1⟩
  ·rw [if_neg h1] at h;cases h
 ·rw [if_neg h0] at h
  by_cases h1:-(n:Int)<=i
  ·rw [if_pos h1] at h
   have e:(i+n).toNat=j:=Option.some.inj h
   exact ⟨by rw [seqIndex_neg (by omega) h1,e],by omega,h1,by omega⟩
  ·rw [if_neg h1] at h;cases h
theorem atI_get {α:Type}{xs:List α}{i:Int}{v:α}(h:atI xs i=some v):∃ j,seqIndex? i xs.length=some j/\xs[j]? = some v/\j < xs.length/\-(xs.length:Int)<=i/\i < xs.length:=by
 unfold atI at h
 cases e:ixN xs.length i with
 | none=>rw [e] at h;cases h
 | some j=>
  rw [e] at h
  obtain ⟨h1,h2,h3,h4⟩:=ixN_seq e
  exact ⟨j,h1,h,h2,h3,h4⟩
theorem atI_nat {α:Type}{xs:List α}{j:Nat}{v:α}(h:xs[j]? = some v):atI xs (j:Int)=some v:=by
 have hj:j < xs.length:=(List.getElem?_eq_some_iff.mp h).1
 have e:ixN xs.length (j:Int)=some j:=by
  unfold ixN
  rw [if_pos (by omega),if_pos (by omega)];simp
 unfold atI;rw [e];exact h
def PlainIx (b:Expr):Prop:=∀ o i,subscripted b false o i=operate [o,i] (getItem o i)
def IxR (X:Cx) (r:R2):Prop:=
 ∀ (value slice:Expr) (pins:List (Addr × Obj)) (s:Shared) (σ:St) (H:Hp) (x y:V) (v u:Value) (Q:VK),Inv X pins σ H s->RelV x v->RelV y u->r x y H Q →
  subscripted slice false v u=operate [v,u] (getItem v u)->wpAny (model X.prog X.w) X.A (subscriptTail value slice v u) (EP X pins σ Q) X.xe s
def MtR (X:Cx) (id:String) (r:V->List V->Hp->VK->Prop):Prop:=
 ∀ (pins:List (Addr × Obj)) (s:Shared) (σ:St) (H:Hp) (x:V) (xs:List V) (v:Value) (us:List Value) (Q:VK),Inv X pins σ H s->RelV x v->Vals xs us->r x xs H Q →
  wpAny (model X.prog X.w) X.A (call (.builtin id) (v::us)) (EP X pins σ Q) X.xe s
section
variable {X:Cx}{a b:Expr}{ta tb:TE}{pos:Pos}
theorem IxR.or {r r':R2}(h:IxR X r) (h':IxR X r'):IxR X (λ x y H Q=>r x y H Q\/r' x y H Q):=by
 intro value slice pins s σ H x y v u Q I rx ry q hs
 rcases q with q|q
 ·exact h value slice pins s σ H x y v u Q I rx ry q hs
 ·exact h' value slice pins s σ H x y v u Q I rx ry q hs
theorem pe_ix {r:R2}(hr:IxR X r) (ha:PE X a ta) (hb:PE X b tb) (hs:PlainIx b):PE X (.Subscript a b pos) (tOp r ta tb):=by
 intro pins s σ H Q I h
 exact Subscript_ (binT ha hb I h λ v u s2 x y H2 I2 rx ry q=>hr a b pins s2 σ H2 x y v u Q I2 rx ry q (hs _ _))
def rIxL (K:W.Frag):R2:=λ x y H Q=>∃ p xs i v,x=.ref p/\y=.int i/\SqL K H p xs/\atI xs i=some v/\Q v H
def rIxT (K:W.Frag):R2:=λ x y H Q=>∃ p xs i v,x=.ref p/\y=.int i/\SqT K H p xs/\atI xs i=some v/\Q v H
theorem ix_list:IxR X (rIxL X.K):=by
 intro value slice pins s σ H x y v u Q I rx ry h hs
 obtain ⟨p,xs,i,z,rfl,rfl,hq,he,q⟩:=h
 cases rx
 obtain ⟨t,rfl⟩:=ry
 obtain ⟨its,r,pl,hz⟩:=I.list hq
 obtain ⟨j,h1,h2,h3,h4,h5⟩:=atI_get he
 obtain ⟨w,ew,rw'⟩:=r.get h2
 have hl:=r.length
 have hn:=line63
 have fin:EP X pins σ Q w s:=⟨z,H,I,rw',q⟩
 by_cases h0:0<=i
 ·have hj:i.toNat=j:=by
   rw [seqIndex_of h0 h5] at h1
   exact Option.some.inj h1
  exact item_listR pl.isList h0 (by omega) (by rw [hj];simpa using ew) fin hs
 ·have hj:(i+(its.toArray.size:Int)).toNat=j:=by
   rw [seqIndex_neg (by omega) h4] at h1
   rw [List.size_toArray,←hl]
   exact Option.some.inj h1
  exact subscriptTail_builtinR (x:=w) pl.isList.typeIs slot_list_getitem.lookup
   (wpAny_getItem_list_neg (Q:=λ r s'=>r=w/\EP X pins σ Q r s') pl.isList (by omega) (by rw [List.size_toArray]<;>omega) (by omega) (by rw [hj];simpa using ew) ⟨rfl,fin⟩) hs
theorem ix_tup:IxR X (rIxT X.K):=by
 intro value slice pins s σ H x y v u Q I rx ry h hs
 obtain ⟨p,xs,i,z,rfl,rfl,hq,he,q⟩:=h
 cases rx
 obtain ⟨t,rfl⟩:=ry
 obtain ⟨its,r,pl,hz⟩:=I.tuple hq
 obtain ⟨j,h1,h2,h3,h4,h5⟩:=atI_get he
 obtain ⟨w,ew,rw'⟩:=r.get h2
 have hl:=r.length
 have hn:=line63
 have fin:EP X pins σ Q w s:=⟨z,H,I,rw',q⟩
 exact subscriptTail_builtinR (x:=w) pl.typeIs slot_tuple_getitem.lookup
  (getItem_tuple (j:=j) (Q:=λ r s'=>r=w/\EP X pins σ Q r s') pl (by omega) (by omega) (by rw [List.size_toArray,←hl];exact h1) (by simpa using ew) ⟨rfl,fin⟩) hs
theorem mapSeq_set (its:List Value) (n j:Nat) (u:Value):Obj.mapSeq (·.setIfInBounds j u) { cls:=.type "list",data:=.seq its.toArray n }={ cls:=.type "list",data:=.seq (its.set j u).toArray n }:=by
 simp [Obj.mapSeq]
theorem Inv.lst {pins:List (Addr × Obj)}{σ:St}{H:Hp}{s:Shared}{p:Addr}{xs:List V}(I:Inv X pins σ H s) (h:H p=some (.lst xs)) :
  ∃ (its:List Value) (n:Nat),Vals xs its/\s.heap.get? p=some { cls:=.type "list",data:=.seq its.toArray n }/\xs.length<=sizeLine:=by
 obtain ⟨z,its,n,r,e⟩:=I.hok p _ h
 exact ⟨its,n,r,e,z⟩
theorem Inv.lstUpd {pins:List (Addr × Obj)}{σ:St}{H:Hp}{s:Shared}{p:Addr}{xs ys:List V}{its its':List Value}{n n':Nat}{f:Obj->Obj}(I:Inv X pins σ H s) (h:H p=some (.lst xs))
  (ho:s.heap.get? p=some { cls:=.type "list",data:=.seq its.toArray n }) (hf:f { cls:=.type "list",data:=.seq its.toArray n }={ cls:=.type "list",data:=.seq its'.toArray n' }) (r:Vals ys its') (hz:ys.length<=sizeLine) (t:Nat) :
  Inv X pins σ (upd H p (.lst ys)) { s with heap:=s.heap.update p f,toks:=t }:=by
 have e:(s.heap.update p f).get? p=some { cls:=.type "list",data:=.seq its'.toArray n' }:=by
  rw [Heap.get?_update_self f ho (by rw [hf]<;>rfl),hf]
 refine I.write (x:=p) (e:=p) (by rw [h];trivial) (.inl rfl) (λ b u hb q=>(Heap.get?_update_other _ _ (Ne.symm hb)).trans q) ⟨_,e⟩ ?_
 exact ⟨hz,its',n',r,e⟩
def rSetL:V->V->V->Hp->(Hp->Prop)->Prop:=λ o i v H Q=>∃ p xs k j,o=.ref p/\i=.int k/\H p=some (.lst xs)/\ixN xs.length k=some j/\Q (upd H p (.lst (xs.set j v)))
theorem set_list:PSet X rSetL:=by
 intro pins s σ H o i v ov iv u Q I ro ri rv h
 obtain ⟨p,xs,k,j,rfl,rfl,hp,hj,q⟩:=h
 cases ro
 obtain ⟨t,rfl⟩:=ri
 obtain ⟨its,n,r,ho,hz⟩:=I.lst hp
 obtain ⟨h1,h2,h3,h4⟩:=ixN_seq hj
 have hl:=r.length
 have hn:=line63
 have I':Inv X pins σ (upd H p (.lst (xs.set j v))) { s with heap:=s.heap.update p (Obj.mapSeq (·.setIfInBounds j u)) }:=
  I.lstUpd hp ho (mapSeq_set its n j u) (r.set rv j) (by rw [List.length_set];exact hz) s.toks
 by_cases h0:0<=k
 ·have hk:k.toNat=j:=by
   rw [seqIndex_of h0 h4] at h1
   exact Option.some.inj h1
  exact W.ki_setAt ho h0 (by omega) (by rw [List.size_toArray,←hl];exact h4) (by rw [hk];exact ⟨_,I',q⟩)
 ·have hk:(k+(its.toArray.size:Int)).toNat=j:=by
   rw [seqIndex_neg (by omega) h3] at h1
   rw [List.size_toArray,←hl]
   exact Option.some.inj h1
  exact W.ki_setBack ho (by omega) (by rw [List.size_toArray,←hl];exact h3) (by omega) (by rw [hk];exact ⟨_,I',q⟩)
theorem slice_bounds (lo hi:Option Int) (n:Nat):(sliceBounds lo hi none n).1=((HT.sIx n 0 lo:Nat):Int)/\(sliceBounds lo hi none n).2.1=((HT.sIx n n hi:Nat):Int)/\(sliceBounds lo hi none n).2.2=1:=by
 refine ⟨?_,?_,rfl⟩
 ·cases lo with
  | none=>simp [sliceBounds,HT.sIx]
  | some i=>
   simp only [sliceBounds,HT.sIx,Option.getD_none,show (1:Int) > 0 by decide,if_true]
   by_cases h:i < 0
   ·simp only [h,if_true]<;>omega
   ·simp only [h,if_false]<;>omega
 ·cases hi with
  | none=>simp [sliceBounds,HT.sIx]
  | some i=>
   simp only [sliceBounds,HT.sIx,Option.getD_none,show (1:Int) > 0 by decide,if_true]
   by_cases h:i < 0
   ·simp only [h,if_true]<;>omega
   ·simp only [h,if_false]<;>omega
theorem slicePick_cut (its:List Value) (lo hi:Option Int):slicePick its.toArray lo hi none=((its.drop (HT.sIx its.length 0 lo)).take (HT.sIx its.length its.length hi - HT.sIx its.length 0 lo)).toArray:=by
 obtain ⟨h1,h2,h3⟩:=slice_bounds lo hi its.toArray.size
 unfold slicePick
 rw [h1,h2,h3]
 simp only [sliceRange_one,pick_run,List.size_toArray]<;>rfl
def rSlL (K:W.Frag):V->Option Int->Option Int->Hp->VK->Prop:=λ x lo hi H Q=>∃ a xs,x=.ref a/\SqL K H a xs/\∀ p,H p=none->Q (.ref p) (upd H p (.lst (cutV xs lo hi)))
theorem sl_list:SlR X (rSlL X.K):=by
 intro pins s σ H x v vl vu lo hi sl Q I rx hs pl pu h
 obtain ⟨a,xs,rfl,hx,q⟩:=h
 cases rx
 obtain ⟨its,r,ht,hz⟩:=I.list hx
 have hlen:=r.length
 refine ⟨"list",_,slot_list_getitem.lookup,ht.isList.typeIs,?_⟩
 refine wpAny_getItem_list_slice ht.isList hs pl pu .none (by simp) ?_ (by rw [List.size_toArray]<;>omega)
 rw [slicePick_cut,←hlen]
 refine ⟨.ref s.heap.objs.size,_,I.laid (t':=s.toks) (o:=.lst (cutV xs lo hi)) (λ b ob q=>Heap.get?_push_of_some _ q) (Nat.le_refl _) ?_,rfl,q _ (I.hok.fresh (Nat.le_refl _))⟩
 exact ⟨Nat.le_trans (cutV_length xs lo hi) hz,_,0,(r.drop (HT.sIx xs.length 0 lo)).take (HT.sIx xs.length xs.length hi - HT.sIx xs.length 0 lo),Heap.get?_push_size _ rfl⟩
theorem call_len_seq:CallR X (.builtin "len") (λ xs H Q=>∃ p ys,xs=[.ref p]/\(SqL X.K H p ys\/SqT X.K H p ys)/\Q (.int ys.length) H):=by
 intro pins s σ H xs us Q I r h
 obtain ⟨p,ys,rfl,hq,q⟩:=h
 obtain ⟨u,rfl,rx⟩:=vals1 r
 cases rx
 have hn:=line63
 rcases hq with hq|hq
 ·obtain ⟨its,r',pl,hz⟩:=I.list hq
  have hlen:=r'.length
  exact Calls.call_len_list pl.isList (by simp only [List.size_toArray]<;>omega) ⟨.int ys.length,H,I.tok _,⟨s.toks+1,by rw [List.size_toArray,hlen]⟩,q⟩
 ·obtain ⟨its,r',pl,hz⟩:=I.tuple hq
  have hlen:=r'.length
  exact len_tuple pl (by simp only [List.size_toArray]<;>omega) ⟨.int ys.length,H,I.tok _,⟨s.toks+1,by rw [List.size_toArray,hlen]⟩,q⟩
theorem call_len_str:CallR X (.builtin "len") (λ xs H Q=>∃ z,xs=[.str z]/\z.length<=sizeLine/\Q (.int z.length) H):=by
 intro pins s σ H xs us Q I r h
 obtain ⟨z,rfl,hz,q⟩:=h
 obtain ⟨u,rfl,t,rfl⟩:=vals1 r
 have hn:=line63
 exact len_str (by omega) ⟨.int z.length,H,I.tok _,⟨_,rfl⟩,q⟩
theorem CallR.or {f:Value}{r r':List V->Hp->VK->Prop}(h:CallR X f r) (h':CallR X f r'):CallR X f (λ xs H Q=>r xs H Q\/r' xs H Q):=by
 intro pins s σ H xs us Q I rs q
 rcases q with q|q
 ·exact h pins s σ H xs us Q I rs q
 ·exact h' pins s σ H xs us Q I rs q
theorem call_list_of:CallR X (.type "list") (λ xs H Q=>∃ p ys,xs=[.ref p]/\(SqL X.K H p ys\/SqT X.K H p ys)/\∀ l,H l=none->Q (.ref l) (upd H l (.lst ys))):=by
 intro pins s σ H xs us Q I r h
 obtain ⟨p,ys,rfl,hq,q⟩:=h
 obtain ⟨u,rfl,rx⟩:=vals1 r
 cases rx
 have fin:∀ (its:List Value),Vals ys its->ys.length<=sizeLine->∀ (h':Heap) (c':Nat),(∀ b o',s.heap.get? b=some o'->h'.get? b=some o') →
   h'.get? s.heap.objs.size=some { cls:=.type "list",dict:=none,data:=.seq its.toArray c',slots:=#[] }->EP X pins σ Q (.ref s.heap.objs.size) { s with heap:=h' }:=λ its r' hz h' c' kp e=>
  ⟨.ref s.heap.objs.size,_,I.laid (t':=s.toks) kp (Nat.le_refl _) (show ObjOk X.prog X.w _ h' _ (.lst ys) from ⟨hz,its,c',r',e⟩),rfl,q _ (I.hok.fresh (Nat.le_refl _))⟩
 rcases hq with hq|hq
 ·obtain ⟨its,r',pl,hz⟩:=I.list hq
  have hlen:=r'.length
  obtain ⟨o,ho,hc,n,hd⟩:=pl.isList
  exact call_list_seq p (.inl rfl) ho hc hd (λ h' c' kp e=>fin its r' hz h' c' kp e) (by simp only [List.size_toArray]<;>omega)
 ·obtain ⟨its,r',pl,hz⟩:=I.tuple hq
  have hlen:=r'.length
  obtain ⟨o,ho,hc,n,hd⟩:=pl
  exact call_list_seq p (.inr rfl) ho hc hd (λ h' c' kp e=>fin its r' hz h' c' kp e) (by simp only [List.size_toArray]<;>omega)
theorem call_tuple_of:CallR X (.type "tuple") (λ xs H Q=>∃ p ys,xs=[.ref p]/\((SqL X.K H p ys/\∀ l,H l=none->Q (.ref l) (upd H l (.tup ys)))\/(SqT X.K H p ys/\Q (.ref p) H))):=by
 intro pins s σ H xs us Q I r h
 obtain ⟨p,ys,rfl,h⟩:=h
 obtain ⟨u,rfl,rx⟩:=vals1 r
 cases rx
 rcases h with ⟨hq,q⟩|⟨hq,q⟩
 ·obtain ⟨its,r',pl,hz⟩:=I.list hq
  have hlen:=r'.length
  refine call_tuple_list pl.isList (λ h' kp=>?_) (by simp only [List.size_toArray]<;>omega)
  have I1:Inv X pins σ H { s with heap:=h' }:=I.kept (t':=s.toks) kp
  have I2:Inv X pins σ (upd H h'.objs.size (.tup ys)) { s with heap:=h'.push { cls:=.type "tuple",data:=.seq its.toArray } }:=
   I1.laid (t':=s.toks) (λ b o e=>Heap.get?_push_of_some _ e) (Nat.le_refl _) (show ObjOk X.prog X.w _ _ _ (.tup ys) from ⟨hz,its,r',IsTup.new _ _⟩)
  exact ⟨.ref h'.objs.size,_,I2,rfl,q _ (I1.hok.fresh (Nat.le_refl _))⟩
 ·obtain ⟨its,r',pl,hz⟩:=I.tuple hq
  exact call_tuple_same pl ⟨.ref p,H,I,rfl,q⟩
def tyV (K:W.Frag) (T:String) (x:V) (H:Hp):Prop:=match x with
 | .str _=>T = "str"
 | .int _=>T = "int"
 | .ref p=>(T = "list" /\ ∃ xs,SqL K H p xs)\/(T = "tuple" /\ ∃ o,K.lookup p=some o/\o.cls=.type "tuple" /\ o.dict=none) \/
   (T = "dict" /\ ((∃ kvs,H p=some (.dK kvs))\/∃ kvs,H p=some (.dT kvs)))\/(T = "set" /\ ∃ S n,H p=some (.set S n))
 | _=>False
theorem tyV_is {pins:List (Addr × Obj)}{σ:St}{H:Hp}{s:Shared}{T:String}{x:V}{v:Value}(I:Inv X pins σ H s) (r:RelV x v) (ty:tyV X.K T x H) :
  s.TypeIs v T/\∀ a,v=.ref a->∃ ob,s.heap.get? a=some ob/\ob.dict=none:=by
 cases x with
 | str z=>
  obtain ⟨t,rfl⟩:=r
  cases (show T = "str" from ty)
  exact ⟨typeIs_str s z t,λ _ e=>nomatch e⟩
 | int i=>
  obtain ⟨t,rfl⟩:=r
  cases (show T = "int" from ty)
  exact ⟨typeIs_int s i t,λ _ e=>nomatch e⟩
 | ref p=>
  cases r
  rcases ty with ⟨rfl,xs,hq⟩|⟨rfl,o,hk,hc,hd⟩|⟨rfl,hk⟩|⟨rfl,S,n,hk⟩
  ·obtain ⟨its,_,pl,_⟩:=I.list hq
   refine ⟨pl.isList.typeIs,λ a e=>?_⟩
   cases e
   obtain ⟨o,n,e,c,hd,_⟩:=pl
   exact ⟨o,e,hd⟩
  ·refine ⟨⟨o,I.kIn p o hk,hc⟩,λ a e=>?_⟩
   cases e
   exact ⟨o,I.kIn _ o hk,hd⟩
  ·have z:∃ o,s.heap.get? p=some o/\o.ExactDict:=by
    rcases hk with ⟨kvs,hk⟩|⟨kvs,hk⟩
    ·obtain ⟨_,_,_,_,o,_,_,e,ex,_⟩:=I.hok p _ hk
     exact ⟨o,e,ex⟩
    ·obtain ⟨_,_,_,_,o,_,_,e,ex,_⟩:=I.hok p _ hk
     exact ⟨o,e,ex⟩
   obtain ⟨o,e,ex⟩:=z
   refine ⟨⟨o,e,ex.1⟩,λ a e2=>?_⟩
   cases e2
   exact ⟨o,e,ex.2.1⟩
  ·obtain ⟨o,_,_,_,e,ex,_⟩:=I.hok p _ hk
   refine ⟨⟨o,e,ex.1⟩,λ a e2=>?_⟩
   cases e2
   exact ⟨o,e,ex.2.1⟩
 | _=>exact False.elim ty
def tBM0 (K:W.Frag) (T:String) (r:V->List V->Hp->VK->Prop) (to:TE):TE:=λ σ H Q=>to σ H λ x H1=>tyV K T x H1/\r x [] H1 Q
def tBM (K:W.Frag) (T:String) (r:V->List V->Hp->VK->Prop) (to:TE) (t:TA):TE:=λ σ H Q=>to σ H λ x H1=>tyV K T x H1/\t σ H1 λ xs H2=>r x xs H2 Q
variable {o e:Expr}{es:List Expr}{to:TE}{t:TA}{name:Str}{apos cpos:Pos}{T id:String}{r:V->List V->Hp->VK->Prop}
theorem pe_bm0 (pa:PlainAttrs T) (slot:Slot T name id) (hty:typeOf (.builtin id)=pure (.type "method_descriptor")) (hm:MtR X id r) (ho:PE X o to)
  (hbase:attributeBase o name X.env (eval o X.env)=eval o X.env:=by rfl) (hline:(apos.endLine == cpos.line)=true:=by rfl):PE X (.Call (.Attribute o name apos) [] [] cpos) (tBM0 X.K T r to):=by
 intro pins s σ H Q I h
 refine wpAny_Call_method0_late hbase hline (thn (ho pins s σ H _ I h) λ v s1 ⟨x,H1,I1,r1,ty,q1⟩=>?_)
 obtain ⟨h1,h2⟩:=tyV_is I1 r1 ty
 exact ⟨T,id,pa,slot,hty,h1,h2,Calls.callWith_builtin rfl (PySem.evalArgs_none (hm pins s1 σ H1 x [] v [] Q I1 r1 .nil q1))⟩
theorem pe_bm (pa:PlainAttrs T) (slot:Slot T name id) (hty:typeOf (.builtin id)=pure (.type "method_descriptor")) (hm:MtR X id r) (ho:PE X o to) (ha:PA X (e::es) t)
  (hbase:attributeBase o name X.env (eval o X.env)=eval o X.env:=by rfl)
  (hfew:((backTo cpos (starEach (e::es) X.env)).all (λ x=>!x.1) && (backToKw cpos (keywordEach [] X.env)).all (λ x=>x.1.isSome)
   && decide ((e::es).length+([]:List Keyword).length+(if ([]:List Keyword).isEmpty then 0 else 1) < 30))=true:=by rfl)
  (hline:(apos.endLine == cpos.line)=true:=by rfl) (hs:starEach (e::es) X.env=(false,eval e X.env)::starEach es X.env:=by rfl) (hplain:(backTo cpos (starEach es X.env)).any (·.1)=false:=by rfl) :
  PE X (.Call (.Attribute o name apos) (e::es) [] cpos) (tBM X.K T r to t):=by
 intro pins s σ H Q I h
 refine wpAny_Call_method_late hbase hfew hline rfl (thn (ho pins s σ H _ I h) λ v s1 ⟨x,H1,I1,r1,ty,q1⟩=>?_)
 obtain ⟨h1,h2⟩:=tyV_is I1 r1 ty
 refine ⟨T,id,pa,slot,hty,h1,h2,?_⟩
 have hA:=ha cpos pins s1 σ H1 _ I1 q1
 rw [hs] at hA ⊢
 refine Calls.callWith_builtin (by show (false || (backTo cpos (starEach es X.env)).any (·.1))=false;rw [hplain]<;>rfl) (Calls.evalArgs_plain ?_)
 exact thn hA λ us s2 ⟨vs,H2,I2,r2,q2⟩=>hm pins s2 σ H2 x vs v us Q I2 r1 r2 q2
/- xs.append(e),list.index on a module's tuple .. are MtR facts of 06m -/
end
end L2
namespace L2
open PySem PySem.Spec PyProof.Rows
def MtM (X:Cx) (id:String) (r:V->List V->Hp->VK->Prop):Prop:=
 ∀ (pins:List (Addr × Obj)) (s:Shared) (σ:St) (H:Hp) (x:V) (xs:List V) (v:Value) (us:List Value) (Q:VK),Inv X pins σ H s->RelV x v->Vals xs us->r x xs H Q →
  wpAny (model X.prog X.w) X.A (call (.builtin id) (v::us)) (EP X pins σ Q) X.xe s
theorem Vals.one:∀ {x:V}{us:List Value},Vals [x] us->∃ u,us=[u]/\RelV x u
 | _,_,.cons r .nil=>⟨_,rfl,r⟩
theorem Vals.zero:∀ {us:List Value},Vals [] us->us=[]
 | _,.nil=>rfl
theorem Vals.eraseIdx:∀ {xs:List V}{us:List Value}(i:Nat),Vals xs us->Vals (xs.eraseIdx i) (us.eraseIdx i)
 | _,_,_,.nil=>.nil
 | _,_,0,.cons _ t=>t
 | _,_,i+1,.cons r t=>.cons r (Vals.eraseIdx i t)
theorem Vals.reverse {xs:List V}{us:List Value}(h:Vals xs us):Vals xs.reverse us.reverse:=by
 induction h with
 | nil=>exact .nil
 | cons r t ih=>rw [List.reverse_cons,List.reverse_cons];exact Vals.append ih (.cons r .nil)
theorem Vals.rep {xs:List V}{us:List Value}(h:Vals xs us):∀ k:Nat,Vals (List.replicate k xs).flatten (List.replicate k us).flatten
 | 0=>.nil
 | k+1=>by
  rw [List.replicate_succ,List.replicate_succ,List.flatten_cons,List.flatten_cons]
  exact Vals.append h (Vals.rep h k)
theorem len_erase {α:Type}:∀ (l:List α) (i:Nat),(l.eraseIdx i).length<=l.length
 | [],_=>Nat.le_refl _
 | _::_,0=>Nat.le_succ _
 | _::r,i+1=>Nat.succ_le_succ (len_erase r i)
theorem foldl_rep (its:List Value):∀ (k:Nat) (acc:List Value),
  List.foldl (λ x1 x2=>x1++x2) acc.toArray (List.replicate k its.toArray)=(acc++(List.replicate k its).flatten).toArray
 | 0,acc=>by simp
 | k+1,acc=>by
  have e:acc.toArray++its.toArray=(acc++its).toArray:=by simp
  have e2:(acc++its)++(List.replicate k its).flatten=acc++(List.replicate (k+1) its).flatten:=by
   rw [List.replicate_succ,List.flatten_cons,List.append_assoc]
  rw [←e2,←foldl_rep its k (acc++its),←e,List.replicate_succ,List.foldl_cons]
section
variable {X:Cx}{pins:List (Addr × Obj)}{σ:St}{H:Hp}{s:Shared}{l b:Addr}{xs ys zs:List V}
theorem Inv.lset {its its':List Value}{n:Nat}{f:Array Value->Array Value}{t':Nat}(I:Inv X pins σ H s) (hH:H l=some (.lst xs))
  (e:s.heap.get? l=some { cls:=.type "list",data:=.seq its.toArray n }) (hf:f its.toArray=its'.toArray) (hv:Vals ys its') (hz:ys.length<=sizeLine) :
  Inv X pins σ (upd H l (.lst ys)) { s with heap:=s.heap.update l (Obj.mapSeq f),toks:=t' }:=by
 have q:=PySem.IsL.update e f
 rw [hf] at q
 refine I.write (x:=l) (e:=l) (by rw [hH];exact trivial) (.inl rfl) (λ b' u hb hu=>(Heap.get?_update_other s.heap (Obj.mapSeq f) (Ne.symm hb)).trans hu) ⟨_,q⟩ ?_
 exact ⟨hz,its',_,hv,q⟩
theorem Inv.lnew {its:List Value}{t':Nat}(I:Inv X pins σ H s) (hv:Vals ys its) (hz:ys.length<=sizeLine) :
  Inv X pins σ (upd H s.heap.objs.size (.lst ys)) { s with heap:=s.heap.push { cls:=.type "list",data:=.seq its.toArray },toks:=t' }:=
 I.laid (λ _ _ q=>Heap.get?_push_of_some _ q) (Nat.le_refl _) ⟨hz,its,0,hv,Heap.get?_push_size _ rfl⟩
theorem Inv.fresh (I:Inv X pins σ H s):H s.heap.objs.size=none:=I.hok.fresh (Nat.le_refl _)
theorem Inv.lstM (I:Inv X pins σ H s) (hH:H l=some (.lst xs)):xs.length<=sizeLine/\∃ (its:List Value) (n:Nat),Vals xs its/\xs.length=its.length/\s.heap.get? l=some { cls:=.type "list",data:=.seq its.toArray n }:=by
 obtain ⟨z,its,n,r,e⟩:=I.hok l _ hH
 exact ⟨z,its,n,r,r.length,e⟩
theorem notLongL {n:Nat}(h:n<=sizeLine):Builtin.List.listTooLong n=false:=by
 unfold Builtin.List.listTooLong
 exact decide_eq_false (by omega)
end
section
variable {X:Cx}
def rAppend:V->List V->Hp->VK->Prop:=λ x vs H Q=>∃ l xs y,x=.ref l/\vs=[y]/\H l=some (.lst xs)/\xs.length < sizeLine/\Q .non (upd H l (.lst (xs++[y])))
theorem mt_append:MtM X "list.append" rAppend:=by
 intro pins s σ H x vs v us Q I rx rv h
 obtain ⟨l,xs,y,rfl,rfl,hH,hz,q⟩:=h
 cases rx
 obtain ⟨u,rfl,ru⟩:=rv.one
 obtain ⟨z,its,n,r,hl,e⟩:=I.lstM hH
 refine call_meets F.slot_list_append ⟨_,e,rfl⟩ F.entry_list_append (F.args_list_append_2 _ _) (PySem.list_append l its.toArray n u (by rw [List.size_toArray];omega)) ⟨e,?_⟩
 refine ⟨.non,_,I.lset (its':=its++[u]) hH e (by simp) (r.append (.cons ru .nil)) ?_,rfl,q⟩
 rw [List.length_append,List.length_singleton]
 omega
def rExtend:V->List V->Hp->VK->Prop:=λ x vs H Q=>∃ l b xs zs,x=.ref l/\vs=[.ref b]/\H l=some (.lst xs)/\H b=some (.lst zs)/\xs.length+zs.length<=sizeLine/\Q .non (upd H l (.lst (xs++zs)))
theorem mt_extend:MtM X "list.extend" rExtend:=by
 intro pins s σ H x vs v us Q I rx rv h
 obtain ⟨l,b,xs,zs,rfl,rfl,hH,hB,hz,q⟩:=h
 cases rx
 obtain ⟨u,rfl,ru⟩:=rv.one
 cases ru
 obtain ⟨z,its,n,r,hl,e⟩:=I.lstM hH
 obtain ⟨z2,its2,n2,r2,hl2,e2⟩:=I.lstM hB
 have hsz:its.toArray.size+its2.toArray.size<=sizeLine:=by rw [List.size_toArray,List.size_toArray];omega
 have hlong:¬ (!its.toArray.isEmpty && Builtin.List.listTooLong (its.toArray.size+its2.toArray.size))=true:=by
  rw [notLongL hsz,Bool.and_false]
  exact Bool.false_ne_true
 refine call_meets F.slot_list_extend ⟨_,e,rfl⟩ F.entry_list_extend (F.args_list_extend_2 _ _)
  (AutoSeq1.list_extend_list_list_0 l its.toArray n b its2.toArray n2 hlong (by rw [List.size_toArray];omega) (by omega)) ⟨e,e2,?_⟩
 refine ⟨.non,_,I.lset (its':=its++its2) hH e (by simp) (r.append r2) ?_,rfl,q⟩
 rw [List.length_append]
 omega
def rPopAt:V->List V->Hp->VK->Prop:=λ x vs H Q=>∃ l xs i k y,x=.ref l/\vs=[.int i]/\H l=some (.lst xs)/\-(2 ^ 63)<=i/\i < 2 ^ 63/\seqIndex? i xs.length=some k/\xs[k]? = some y/\Q y (upd H l (.lst (xs.eraseIdx k)))
theorem mt_popAt:MtM X "list.pop" rPopAt:=by
 intro pins s σ H x vs v us Q I rx rv h
 obtain ⟨l,xs,i,k,y,rfl,rfl,hH,h1,h2,hk,hy,q⟩:=h
 cases rx
 obtain ⟨u,rfl,ru⟩:=rv.one
 obtain ⟨t,rfl⟩:=ru
 obtain ⟨z,its,n,r,hl,e⟩:=I.lstM hH
 obtain ⟨w,hw,rw'⟩:=r.get hy
 refine call_meets F.slot_list_pop ⟨_,e,rfl⟩ F.entry_list_pop (F.args_list_pop_2 _ _)
  (MeetsSeq.list_pop_at l its.toArray n i t k w (fitsIndex_both h1 h2) (by rw [List.size_toArray,←hl];exact hk) (by rw [←Array.getElem?_toList];exact hw) (by rw [List.size_toArray];omega)) ⟨e,?_⟩
 refine ⟨y,_,I.lset (its':=its.eraseIdx k) hH e ?_ (r.eraseIdx k) ?_,rw',q⟩
 ·show its.toArray.eraseIdxIfInBounds k=(its.eraseIdx k).toArray
  rw [List.eraseIdxIfInBounds_toArray]
 ·have:=len_erase xs k
  omega
def rReverse:V->List V->Hp->VK->Prop:=λ x vs H Q=>∃ l xs,x=.ref l/\vs=[]/\H l=some (.lst xs)/\Q .non (upd H l (.lst xs.reverse))
theorem mt_reverse:MtM X "list.reverse" rReverse:=by
 intro pins s σ H x vs v us Q I rx rv h
 obtain ⟨l,xs,rfl,rfl,hH,q⟩:=h
 cases rx
 have hus:=rv.zero
 subst hus
 obtain ⟨z,its,n,r,hl,e⟩:=I.lstM hH
 refine call_meets F.slot_list_reverse ⟨_,e,rfl⟩ F.entry_list_reverse (F.args_list_reverse_1 _) (AutoSeq1.list_reverse_list_0 l its.toArray n (by rw [List.size_toArray];omega)) ⟨e,?_⟩
 refine ⟨.non,_,I.lset (its':=its.reverse) hH e (by simp) r.reverse ?_,rfl,q⟩
 rw [List.length_reverse]
 omega
def rCat:R2:=λ x y H Q=>∃ l b xs zs,x=.ref l/\y=.ref b/\H l=some (.lst xs)/\H b=some (.lst zs)/\xs.length+zs.length<=sizeLine/\∀ p,H p=none->Q (.ref p) (upd H p (.lst (xs++zs)))
theorem op_cat:OpR X (binaryOp .Add) rCat:=by
 intro pins s σ H x y v u Q I rx ry h
 obtain ⟨l,b,xs,zs,rfl,rfl,hH,hB,hz,q⟩:=h
 cases rx
 cases ry
 obtain ⟨z,its,n,r,hl,e⟩:=I.lstM hH
 obtain ⟨z2,its2,n2,r2,hl2,e2⟩:=I.lstM hB
 refine PySem.P.add_list e e2 ?_ (by rw [List.size_toArray,List.size_toArray];omega)
 have ea:its.toArray++its2.toArray=(its++its2).toArray:=by simp
 rw [ea]
 exact ⟨.ref _,_,I.lnew (t':=s.toks) (r.append r2) (by rw [List.length_append];omega),rfl,q _ I.fresh⟩
def rRep:R2:=λ x y H Q=>∃ l k xs,x=.ref l/\y=.int k/\H l=some (.lst xs)/\-(2 ^ 63)<=k/\k < 2 ^ 63/\xs.length * k.toNat<=sizeLine /\
 ∀ p,H p=none->Q (.ref p) (upd H p (.lst (List.replicate k.toNat xs).flatten))
theorem len_rep {α:Type}(xs:List α) (k:Nat):(List.replicate k xs).flatten.length=k * xs.length:=by
 induction k with
 | zero=>simp
 | succ k ih=>rw [List.replicate_succ,List.flatten_cons,List.length_append,ih,Nat.succ_mul,Nat.add_comm]
theorem op_rep:OpR X (binaryOp .Mult) rRep:=by
 intro pins s σ H x y v u Q I rx ry h
 obtain ⟨l,k,xs,rfl,rfl,hH,h1,h2,hz,q⟩:=h
 cases rx
 obtain ⟨t,rfl⟩:=ry
 obtain ⟨z,its,n,r,hl,e⟩:=I.lstM hH
 have hlen:its.toArray.size * k.toNat<=sizeLine:=by rw [List.size_toArray,←hl];exact hz
 have hcap:¬ its.toArray.size * k.toNat > (2 ^ 63 - 1) / 8:=by
  have:(sizeLine:Nat)<=(2 ^ 63 - 1) / 8:=by decide
  omega
 have hfit:¬ (!Builtin.List.listFitsIndex k)=true:=by
  rw [fitsIndex_both h1 h2]
  exact Bool.false_ne_true
 have hlong:¬ Builtin.List.listTooLong (its.toArray.size * k.toNat)=true:=by
  rw [notLongL hlen]
  exact Bool.false_ne_true
 have hnew:List.foldl (λ x1 x2=>x1++x2) #[] (List.replicate (if its.toArray.isEmpty=true then 0 else k.toNat) its.toArray)=(List.replicate k.toNat its).flatten.toArray:=by
  have f0:∀ m:Nat,List.foldl (λ x1 x2=>x1++x2) #[] (List.replicate m its.toArray)=(List.replicate m its).flatten.toArray:=λ m=>by
   have:=foldl_rep its m []
   rw [List.nil_append] at this
   exact this
  rw [f0]
  cases its with
  | nil=>simp
  | cons a r'=>rw [if_neg (by simp)]
 refine wpAny_binaryOp_repeat_ref (T := "list") (U := "int") (by decide) ⟨_,e,rfl⟩ (λ s'=>typeIs_int s' k t) noFill_list_mul F.fills_int_mul F.slot_int_rmul repeat_list F.slot_int_index.lookup
  (call_meets F.slot_int_rmul (typeIs_int s k t) F.entry_int_rmul (F.args_int_rmul_2 _ _) (int___rmul___int_list k t l its.toArray n)
   ⟨e,rfl,⟨_,e,rfl⟩,call_meets F.slot_list_mul ⟨_,e,rfl⟩ F.entry_list_mul (F.args_list_mul_2 _ _) (AutoListH.list___mul___list_int_3 l its.toArray n k t hfit hcap hlong) ⟨e,?_⟩⟩)
 rw [hnew]
 exact ⟨.ref _,_,I.lnew (t':=s.toks) (r.rep k.toNat) (by rw [len_rep,Nat.mul_comm];exact hz),rfl,q _ I.fresh⟩
end
section
variable {prog:Program}{w:World}{A:Around}{E:Value->Shared->Prop}{s:Shared}
end
section
variable {X:Cx}
end
end L2
namespace Att
open PySem PySem.W PySem.Calls PyProof.Rows
theorem ints_of_wellAll {P:Params}{h:Heap}:∀ (ns:List Int) (vs:List Value),WellAll P h vs (ns.map WData.int)->IntsAre vs ns:=by
 intro ns
 induction ns with
 | nil=>
  intro vs w
  rw [List.map_nil] at w
  cases w
  exact .nil
 | cons n ns ih=>
  intro vs w
  rw [List.map_cons] at w
  cases w with
  | cons a b=>
   cases a
   exact .cons _ _ (ih _ b)
theorem script_of {l:OpenLaw}{n:Nat}(hn:l.most=some n){P:Params}{h:Heap}{args:List WData}{vals:List Value}
  (hpre:l.row.toRowW.claim.pre args=true) (hwl:WellAll P h vals args) :
  ∃ a vs ns,vals=[Value.ref a]/\args=[WData.list (ns.map WData.int)]/\h.get? a=some { cls:=.type "list",data:=.seq vs.toArray }/\IntsAre vs ns/\ns.length<=n:=by
 have hsh:WShape.hasAll [] args [.list .int]=true:=(pre_splitW hpre).1
 have hc:l.pre.holds [] { args:=args }=true:=(pre_splitW hpre).2
 obtain ⟨d,r,rfl,h1,h2⟩:=hasAllW_cons hsh
 obtain rfl:=hasAllW_nil h2
 obtain ⟨xs,rfl,h3⟩:=hasW_list h1
 obtain ⟨ns,rfl⟩:=items_int h3
 have hlen:ns.length<=n:=by
  unfold OpenLaw.pre at hc
  have h4:(WTm.not (.lt (.lit (.int (n:Int))) (.len (.arg 0)))).holds [] { args:=[.list (ns.map .int)] }=true:=by
   have h4:=(holds_andW hc).1
   rw [hn] at h4
   exact h4
  have h5:=condW_of h4 (w_not (w_lt w_lit (w_len_list (w_arg rfl))))
  rw [List.length_map] at h5
  refine Nat.le_of_not_lt λ q=>?_
  have q':(n:Int) < ((ns.length:Nat):Int):=by omega
  first
   | (rw [decide_eq_true q'] at h5;exact absurd h5 (by decide))
   | (simp at h5;omega)
 cases hwl with
 | cons w1 w2=>
  cases w2
  cases w1 with
  | list ho hall=>exact ⟨_,_,ns,rfl,rfl,ho,ints_of_wellAll ns _ hall,hlen⟩
theorem post_true (l:OpenLaw) (args:List WData):l.row.toRowW.claim.post args (.bool true) args=true:=
 postW_of (r:=l.row.toRowW) (X:=(true == true))
  (show WShape.has [] (.bool true) .bool=true by first|rfl|decide|simp [WShape.has,WShape.arms,WShape.armsAll])
  (show (WTm.eq .res (.lit (.bool true))).value [] { args:=args,res:=some (.bool true),after:=args }=some (.bool (true == true)) from w_eq_bool (w_res rfl) w_lit) rfl
theorem attach_call {l:OpenLaw}{n:Nat}{q:Program}{loose:List Str}{XP:(Str->Option Value)->Heap->Prop}{YP:World->Heap->Prop}{d:DefRec}
  (hn:l.most=some n) (hdf:d.params.defaults=[])
  (call:∀ (w:World) (s₀ s₁:Shared) (mg mb:Str->Option Value) (fa:Addr) (o:Obj) (pm cd doc:Value) (a:Addr) (vs:List Value) (ns:List Int),
   Ground q loose [] XP w s₀ mg mb s₁.heap->YP w s₁.heap →
   s₁.heap.get? fa=some o->o.data=.func (docDef d.name d.params d.body d.scope pm cd doc)->s₁.heap.CodeRec cd d.name->mg d.name=some (.ref fa) →
   s₁.heap.get? a=some { cls:=.type "list",data:=.seq vs.toArray }->IntsAre vs ns->ns.length<=n->s₁.gens=#[] →
   codeAny (model l.prog w) callerA (.call (.ref fa) ⟨[.ref a],[]⟩) (λ r s'=>r=.ok (.ret (.bool true))/\OldK s₁.heap s'.heap/\s'.os=s₁.os/\AllBare s'.gens) s₁) :
  WalkO q loose XP YP l.row.toRowW d [] (λ f vs=>PySem.call f vs):=by
 intro w s₀ s₁ mg mb G Y fa o pm cd doc dV kV ho hd hcd hD hmg hg args vals as hpre hlay hrd hwl hlo
 obtain rfl:dV=.none:=Dflts.none hD hdf
 obtain rfl:kV=.none:=Dflts.noKw hD
 obtain ⟨a,vs,ns,rfl,rfl,hobj,hints,hlen⟩:=script_of hn hpre hwl
 refine enter_call (codeAny_mono (call w s₀ s₁ mg mb fa o pm cd doc a vs ns G Y ho (fd_plain hd) hcd hmg hobj hints hlen hg) λ r s' hq=>?_)
 obtain ⟨rfl,h2,h3,h4⟩:=hq
 exact ⟨.inl ⟨.bool true,.bool true,[],rfl,λ _=>rfl,.bool true,post_true l _,λ _=>⟨List.Pairwise.nil,λ _ hm=>(nomatch hm)⟩⟩,h2,h3,h4⟩
section
variable {prog:Program}{w:World}{A:Around}{E:Value->Shared->Prop}{s:Shared}{K:Frag}
def ledger (h:Heap) (L d:Addr):List (Addr × Obj):=(List.range h.objs.size).filterMap λ a=>if a=L\/a=d then none else (h.get? a).map λ o=>(a,o)
end
end Att
namespace L2
open PySem PySem.Spec PyProof.Rows
theorem vals_ints:∀ {vs:List Value}{ns:List Int},IntsAre vs ns->Vals (ns.map V.int) vs
 | _,_,.nil=>.nil
 | _,_,.cons n t h=>.cons ⟨t,rfl⟩ (vals_ints h)
def Only (H:Hp):Prop:=∀ b,H b=none\/∃ o xs,H b=some (.frz o (.lst xs))
theorem law_call {P:Program}{w:World}{K:W.Frag}{mg mb:Str->Option Value}{CX:CXT}{k:Nat}{fa a:Addr}{fd:FuncData}{x:Str}{sp:Sp}{s₁:Shared}{vs:List Value}{ns:List Int}
  (KX:K.In s₁.heap) (hns:s₁.heap.Ns mainGlobals mg) (hb:s₁.heap.Ns builtinsNs mb) (hbb:∀ x:Str,x ≠ "__name__" → mb x=bootBuiltins x) (hlim:s₁.heap.NoLimit) (hg:s₁.gens=#[])
  (ha:s₁.heap.get? a=some { cls:=.type "list",data:=.seq vs.toArray }) (hi:IntsAre vs ns) (hl:ns.length<=sizeLine) (hr:Room k callerA)
  (F:∀ base:Heap,K.In base->base.Ns mainGlobals mg->FnOk P w K mg base CX k fa fd [x] sp) (hbind:∀ (s:Shared) (u:Value),BindsTo s fd ⟨[u],[]⟩ [(x,u)])
  (hsp:∀ H:Hp,Only H->SqL K H a (ns.map V.int)->sp [.ref a] H (λ v _=>v=.bl true) λ _ _ _=>False)
  (hCX:∀ H e s',CX [] H s₁ (λ _ _ _=>False) e s'->False) :
  codeAny (model P w) callerA (.call (.ref fa) ⟨[.ref a],[]⟩) (λ r s'=>r=.ok (.ret (.bool true))/\OldK s₁.heap s'.heap/\s'.os=s₁.os/\AllBare s'.gens) s₁:=by
 have rv:=vals_ints hi
 have lenV:=hi.length
 have core:∀ H:Hp,Only H->SqL K H a (ns.map V.int)->HOk P w H s₁.heap->(∀ b,H b ≠ none->b=a)->(H a ≠ none->K.lookup a=none) →
   codeAny (model P w) callerA (.call (.ref fa) ⟨[.ref a],[]⟩) (λ r s'=>r=.ok (.ret (.bool true))/\OldK s₁.heap s'.heap/\s'.os=s₁.os/\AllBare s'.gens) s₁:=by
  intro H hO hS hok hA hK
  have base_of:∀ {b:Addr} {o:Obj},s₁.heap.get? b=some o->H b=none->(hidT s₁.heap H).get? b=some o:=λ e n=>hidT_get e n
  have noA:∀ {b:Addr} {o:Obj} {es:Array DictEntry} {ep:Nat},s₁.heap.get? b=some o->o.data=.dict es ep->H b=none:=λ {b o es ep} e d=>by
   cases q:H b with
   | none=>rfl
   | some u=>
    have e':b=a:=hA b (by rw [q];simp)
    subst e'
    rw [ha] at e;cases e
    have d':Data.seq vs.toArray _=Data.dict es ep:=d
    cases d'
  have nsK:∀ {b:Addr} {m:Str->Option Value},s₁.heap.Ns b m->(hidT s₁.heap H).Ns b m:=λ {b m} ⟨o,es,ep,e,d,r⟩=>⟨o,es,ep,base_of e (noA e d),d,r⟩
  have hKb:K.In (hidT s₁.heap H):=λ b o e=>base_of (KX b o e) (by
   cases q:H b with
   | none=>rfl
   | some u=>
    have e':b=a:=hA b (by rw [q];simp)
    subst e'
    rw [hK (by rw [q];simp)] at e;cases e)
  have hM:Mod K mg (hidT s₁.heap H):=⟨hKb,nsK hns,⟨mb,nsK hb,hbb⟩,let ⟨mc,h1,h2⟩:=hlim;⟨mc,nsK h1,h2⟩⟩
  have e0:Env0 P w K mg (hidT s₁.heap H) callerA [] s₁ H:=⟨rfl,hM,λ b o e=>of_hidT e,Nat.le_of_eq (hidT_size _ _),trivial,λ b hb=>absurd (show b∈([]:List Addr) from hb) (by simp),hok,.of_eq hg⟩
  refine codeAny_mono ((F _ hKb (nsK hns)).run callerA [] s₁ H ⟨[.ref a],[]⟩ [.ref a] [.ref a] _ _ hr e0 (hbind s₁ (.ref a)) (.cons rfl .nil) (hsp H hO hS)) λ r s' h=>?_
  cases r with
  | error e=>exact (hCX H e s' h).elim
  | ok fl=>
   cases fl with
   | next=>exact False.elim h
   | brk=>exact False.elim h
   | cont=>exact False.elim h
   | ret u=>
    obtain ⟨v,H',os,bare,un,hok',r',q⟩:=h
    have q':v=.bl true:=q
    subst q'
    obtain rfl:u=Value.bool true:=r'
    refine ⟨rfl,OldK.of_keep λ b o e=>?_,os,bare⟩
    cases q:H b with
    | none=>exact un.keep b o e q (by intro z;exact absurd (show b∈([]:List Addr) from z) (by simp)) (by simp)
    | some u=>
     rcases hO b with z|⟨ob,xs,z⟩
     ·rw [q] at z;cases z
     ·have z2:=un.frzs b ob _ z
      obtain ⟨e1,_⟩:=hok b _ z
      obtain ⟨e2,_⟩:=hok' b _ z2
      rw [e] at e1;cases e1
      exact e2
 cases hk:K.lookup a with
 | some o=>
  have e:=KX a o hk
  rw [ha] at e
  cases e
  refine core (λ _=>none) (λ _=>.inl rfl) (.inr ⟨_,vs.toArray,_,hk,rfl,rfl,rfl,by rw [List.size_toArray,lenV];exact hl,by simpa using rv⟩) (λ b u z=>by have z':(none:Option HO)=some u:=z;cases z') (λ b z=>absurd rfl z) λ z=>absurd rfl z
 | none=>
  refine core (λ b=>if b=a then some (.frz { cls:=.type "list",data:=.seq vs.toArray } (.lst (ns.map V.int))) else none) (λ b=>?_) (.inl (.inr ⟨{ cls:=.type "list",data:=.seq vs.toArray },if_pos rfl⟩)) (λ b u z=>?_) (λ b z=>?_) λ _=>hk
  ·by_cases hb:b=a
   ·exact .inr ⟨_,_,if_pos hb⟩
   ·exact .inl (if_neg hb)
  ·by_cases hb:b=a
   ·have z':=(if_pos hb).symm.trans z
    cases z'
    subst hb
    exact ⟨ha,by rw [List.length_map];exact hl,vs,_,rv,ha⟩
   ·have z':=(if_neg hb).symm.trans z
    cases z'
  ·by_cases hb:b=a
   ·exact hb
   ·exact absurd (if_neg hb) z
end L2
namespace L2
open PySem PySem.Spec PyProof.Rows
abbrev KOf {K:PySem.W.Frag} {h:Heap} (_:K.In h):PySem.W.Frag:=K
theorem walk_of {l:W.OpenLaw}{n k:Nat}{q:Program}{loose:List Str}{XP:(Str->Option Value)->Heap->Prop}{YP:World->Heap->Prop}{d:DefRec}{K:Params->W.Frag}{CX:World->CXT}{sp:World->Sp}{x:Str}
  (hn:l.most=some n) (hn2:n<=sizeLine) (hdf:d.params.defaults=[]) (hr:Room k callerA)
  (hY:∀ (w:World) (h:Heap),YP w h->(K w.params).In h)
  (F:∀ (w:World) (mg:Str->Option Value) (fa:Addr) (h:Heap),(K w.params).In h->h.Ns mainGlobals mg->mg d.name=some (.ref fa) →
   ∃ fd:FuncData,(∀ (s:Shared) (u:Value),BindsTo s fd ⟨[u],[]⟩ [(x,u)]) /\
    ∀ base:Heap,(K w.params).In base->base.Ns mainGlobals mg->FnOk l.prog w (K w.params) mg base (CX w) k fa fd [x] (sp w))
  (hsp:∀ (w:World) (H:Hp) (a:Addr) (ns:List Int),ns.length<=n->Only H->SqL (K w.params) H a (ns.map V.int)->sp w [.ref a] H (λ v _=>v=.bl true) λ _ _ _=>False)
  (hCX:∀ (w:World) (H:Hp) (s:Shared) (e:Value) (s':Shared),CX w [] H s (λ _ _ _=>False) e s'->False) :
  W.WalkO q loose XP YP l.row.toRowW d [] (λ f vs=>PySem.call f vs):=by
 refine Att.attach_call hn hdf λ w s₀ s₁ mg mb fa o pm cd doc a vs ns G Y ho hd hcd hmg hobj hints hlen hg=>?_
 have KX:=hY w _ Y
 obtain ⟨fd,hb,hF⟩:=F w mg fa _ KX G.T.g hmg
 exact law_call KX G.T.g G.T.b G.T.builtins G.T.nolimit hg hobj hints (Nat.le_trans hlen hn2) hr hF hb (λ H hO hS=>hsp w H a ns hlen hO hS) λ H e s'=>hCX w H s₁ e s'
end L2
/- THE LAST THEOREM (shape;LID,My.* are yours):
   My.Adr: a structure of the addresses that your layer names (classes,functions);My.Txt K t: a structure (Prop) of the equations over K;
   My.txt_mk:{K} {implicit addresses ..} (e1:nsIn K mainGlobals "law"=some (some (.ref f))) (e2:K.lookup f=some ⟨oc,od,.func (fnOf "law" "law" params body scope dV kV doc pm an cdv ct),sl⟩) (e3:codeIn K cdv "law"=true) ..:∃ t,My.Txt K t
set_option maxHeartbeats 0 in
theorem PySem.Challenge.cw_LID_holds : PySem.Challenge.rw_LID.Holds := by
 w_on;o_law;k_head;(case hw=>w_witness2)
 k_fill
 refine L2.walk_of (l:=PySem.Challenge.rw_LID) (n:=63) (k:=40) (x := "script") (CX:=λ w=>..) (sp:=λ _=>My.sp_law) rfl (by decide) rfl ⟨rfl,by decide,by decide⟩ (λ w h Y=>PySem.W.kIn_of Y) ?F ?S ?C
 case F=>
  intro w mg fa h KX G hmg
  have T:∃ t,My.Txt (L2.KOf KX) t:=by
   dsimp only [L2.KOf]                          -- K must stand as «<heap const> w.params» for k_is
   refine' My.txt_mk ?e1 ?e2 ?e3 ..
   (case e1=>PySem.W.k_is)                    -- in the order: a name -> its address -> its object -> its parts
   (case e2=>PySem.W.k_is)
   ..
  obtain ⟨t,T⟩:=T
  have e0:=hmg.symm.trans (PySem.W.mg_of KX G T.law)
  cases e0                                       -- fa is the law's own address
  exact ⟨_,λ s u=>.of_eq rfl,λ base kb nb=>My.law_fn T kb nb⟩     -- if «.of_eq rfl» comes too early: refine' ⟨_,?b,λ base kb nb=>My.law_fn T kb nb⟩;exact λ s u=>.of_eq rfl
 case S=>exact λ w H a ns hl hO hS=>..
 case C=>exact ..
(the tactic k_is has no namespace: write k_is) -/
namespace L2
open PySem PySem.Spec PyProof.Rows
def inClass (s:Stmt) (j:Nat):Stmt:=match s with
 | .ClassDef _ _ _ body _ _ _ _ _ _ _=>body.getD j (.Pass ⟨0,0,0,0⟩)
 | _=>.Pass ⟨0,0,0,0⟩
def defArgs (s:Stmt):Arguments:=match s with
 | .FunctionDef _ a _ _ _ _ _ _ _ _=>a
 | _=>{ posonlyargs:=[],args:=[],vararg:=none,kwonlyargs:=[],kw_defaults:=[],kwarg:=none,defaults:=[] }
def defBody (s:Stmt):List Stmt:=match s with
 | .FunctionDef _ _ b _ _ _ _ _ _ _=>b
 | _=>[]
def defScope (s:Stmt):Scope:=match s with
 | .FunctionDef _ _ _ _ _ _ sc _ _ _=>sc
 | _=>{ kind:=.function,names:=[],isGenerator:=false,isCoroutine:=false }
abbrev CX0:CXT:=λ _ _ _ _ _ _=>False
abbrev E0:XK:=λ _ _ _=>False
theorem pass0 {X:Cx}:Passes CX0 X E0:=λ _ _ _ _ _ _ _ h=>h.elim
structure Fun (K:W.Frag) (x qual:Str) (st:Stmt) (f:Addr) (fd:FuncData):Prop where
 ex:∃ (oc:Value) (od:Option Addr) (kV doc pm:Value) (an:Option Addr) (cdv ct:Value) (osl:Array (Option Value)),
  fd=W.fnOf x qual (defArgs st) (defBody st) (defScope st) .none kV doc pm an cdv ct/\K.lookup f=some ⟨oc,od,.func fd,osl⟩/\W.codeIn K cdv qual=true
 kp:W.keepIn K (.ref f)=true
section
variable {P:Program}{w:World}{K:PySem.W.Frag}{mg:Str->Option Value}{base:Heap}
theorem Fun.ok {x qual:Str}{st:Stmt}{f:Addr}{fd:FuncData}{N ps:List Str}{k:Nat}{sp:Sp}(F:Fun K x qual st f fd) (S:FnScope N ps (defScope st)) (len:∀ vs H Q E,sp vs H Q E->vs.length=ps.length)
  (hbody:∀ (cdv:Value) (A:Around) (outer:List Env) (s:Shared) (H:Hp) (vs:List V) (Q:VK) (E:XK),Room k (A.deeper (envOfC qual (defScope st) s.heap.objs.size f cdv))->sp vs H Q E →
   ∃ t,PSs (cxOf CX0 P w K mg base N qual (defScope st) f cdv A outer s H E).nox (defBody st) t/\t { nx:=λ _ H'=>Q .non H',rt:=Q } (start N vs) H):FnOk P w K mg base CX0 (k+1) f fd ps sp:=by
 obtain ⟨oc,od,kV,doc,pm,an,cdv,ct,osl,rfl,lk,hcd⟩:=F.ex
 refine fn_of lk hcd S len λ A outer s H vs Q E hr hsp=>?_
 obtain ⟨t,h,q⟩:=hbody cdv A outer s H vs Q E hr hsp
 exact ⟨t,h.nox,q⟩
theorem Fun.binds {x qual:Str}{st:Stmt}{f:Addr}{fd:FuncData}{ps:List Str}(F:Fun K x qual st f fd)
  (h:∀ (kV doc pm:Value) (an:Option Addr) (cdv ct:Value) (us:List Value),us.length=ps.length->bindArgs (W.fnOf x qual (defArgs st) (defBody st) (defScope st) .none kV doc pm an cdv ct) ⟨us,[]⟩=pure (ps.zip us)):Binds K fd ps []:=by
 obtain ⟨oc,od,kV,doc,pm,an,cdv,ct,osl,rfl,lk,hcd⟩:=F.ex
 exact .all (h kV doc pm an cdv ct)
theorem fun_mk {x qual:Str}{st:Stmt}{f:Addr}{oc:Value}{od an:Option Addr}{osl:Array (Option Value)}{kV doc pm cdv ct:Value}(l:K.lookup f=some ⟨oc,od,.func (W.fnOf x qual (defArgs st) (defBody st) (defScope st) .none kV doc pm an cdv ct),osl⟩)
  (c:W.codeIn K cdv qual=true) (k:W.keepIn K (.ref f)=true):Fun K x qual st f (W.fnOf x qual (defArgs st) (defBody st) (defScope st) .none kV doc pm an cdv ct):=⟨⟨oc,od,kV,doc,pm,an,cdv,ct,osl,rfl,l,c⟩,k⟩
end
theorem small1000 {n:Nat}(h:n<=1000):n < sizeLine:=Nat.lt_of_le_of_lt h (by decide)
section
variable {X:Cx}
theorem pv (i:Nat){x:Str}{pos:Pos}(hN:X.N[i]? = some x:=by rfl) (hv:Vis X.env.scope x:=by first|exact Or.inl rfl|exact Or.inr (Or.inl rfl)|exact Or.inr (Or.inr rfl)) (hd:(x == ("__debug__":Str))=false:=by decide)
  (hcd:(x == ("__classdict__":Str))=false:=by decide):PE X (.Name x pos) (tVar i):=pe_var hN hv hd hcd
end
theorem ite2 {c A B:Prop} [Decidable c] (h1:c->A) (h2:¬ c->B):if c then A else B:=by
 by_cases h:c
 ·rw [if_pos h]
  exact h1 h
 ·rw [if_neg h]
  exact h2 h
def Same (H H':Hp):Prop:=∀ b o,H b=some o->H' b=some o
theorem Same.refl (H:Hp):Same H H:=λ _ _ h=>h
theorem Same.trans {H H1 H2:Hp}(a:Same H H1) (b:Same H1 H2):Same H H2:=λ c o h=>b c o (a c o h)
theorem Same.free {H H':Hp}(e:Same H H'){l:Addr}(h:H' l=Option.none):H l=Option.none:=by
 cases q:H l with
 | none=>rfl
 | some o=>
  rw [e l o q] at h
  cases h
theorem Same.seq {K:W.Frag}{H H':Hp}{a:Addr}{xs:List V}(e:Same H H') (h:SqL K H a xs):SqL K H' a xs:=by
 rcases h with (h|⟨o,h⟩)|h
 ·exact .inl (.inl (e _ _ h))
 ·exact .inl (.inr ⟨o,e _ _ h⟩)
 ·exact .inr h
end L2
set_option Elab.async false
set_option linter.all false
set_option maxRecDepth 100000
set_option maxHeartbeats 4000000
set_option Elab.async false
set_option linter.all false
set_option maxRecDepth 100000
namespace L2
open PySem PySem.Spec PyProof.Rows
section
variable {κ:Type} [DecidableEq κ]
def valV (kvs:List (κ × V)) (k:κ):Option V:=(kvs.find? λ kv=>decide (kv.1=k)).map (·.2)
def putK (kvs:List (κ × V)) (k:κ) (v:V):List (κ × V):=
 if (kvs.any λ kv=>decide (kv.1=k))=true then kvs.map (λ kv=>if kv.1=k then (kv.1,v) else kv) else kvs++[(k,v)]
theorem valV_pos {p:κ × V}{r:List (κ × V)}{k:κ}(e:p.1=k):valV (p::r) k=some p.2:=by simp [valV,List.find?_cons,e]
theorem valV_neg {p:κ × V}{r:List (κ × V)}{k:κ}(e:¬ p.1=k):valV (p::r) k=valV r k:=by simp [valV,List.find?_cons,e]
theorem valV_any (k:κ):∀ kvs:List (κ × V),(kvs.any λ kv=>decide (kv.1=k))=(valV kvs k).isSome
 | []=>rfl
 | p::r=>by
  rw [List.any_cons]
  by_cases e:p.1=k
  ·simp only [valV_pos e,decide_eq_true e,Bool.true_or,Option.isSome_some]
  ·rw [valV_neg e,decide_eq_false e,Bool.false_or];exact valV_any k r
theorem valV_map (k j:κ) (y:V):∀ kvs:List (κ × V),valV (kvs.map λ kv=>if kv.1=k then (kv.1,y) else kv) j=(valV kvs j).map λ x=>if j=k then y else x
 | []=>rfl
 | p::r=>by
  have ih:=valV_map k j y r
  rw [List.map_cons]
  by_cases h:p.1=k
  ·rw [if_pos h]
   by_cases e:p.1=j
   ·rw [valV_pos (p:=(p.1,y)) e,valV_pos e,Option.map_some,if_pos (e.symm.trans h)]
   ·rw [valV_neg (p:=(p.1,y)) e,valV_neg e,ih]
  ·rw [if_neg h]
   by_cases e:p.1=j
   ·rw [valV_pos (p:=p) e,valV_pos e,Option.map_some,if_neg (λ z=>h (e.trans z))]
   ·rw [valV_neg (p:=p) e,valV_neg e,ih]
theorem valV_snoc (k j:κ) (y:V):∀ kvs:List (κ × V),valV kvs k=none->valV (kvs++[(k,y)]) j=if j=k then some y else valV kvs j
 | [],_=>by
  by_cases e:k=j
  ·rw [if_pos e.symm];exact valV_pos (p:=(k,y)) e
  ·rw [if_neg (λ z=>e z.symm)];exact valV_neg (p:=(k,y)) e
 | p::r,hn=>by
  rw [List.cons_append]
  have hk:¬ p.1=k:=λ z=>by rw [valV_pos z] at hn;cases hn
  rw [valV_neg hk] at hn
  have ih:=valV_snoc k j y r hn
  by_cases e:p.1=j
  ·rw [valV_pos e,valV_pos e,if_neg (λ z=>hk (e.trans z))]
  ·rw [valV_neg e,valV_neg e,ih]
theorem valV_put (kvs:List (κ × V)) (k j:κ) (y:V):valV (putK kvs k y) j=if j=k then some y else valV kvs j:=by
 unfold putK
 by_cases a:(kvs.any λ kv=>decide (kv.1=k))=true
 ·rw [if_pos a,valV_map]
  rw [valV_any] at a
  by_cases e:j=k
  ·obtain ⟨x,hx⟩:=Option.isSome_iff_exists.mp a
   rw [if_pos e,e,hx,Option.map_some,if_pos rfl]
  ·rw [if_neg e]
   cases valV kvs j with
   | none=>rfl
   | some x=>rw [Option.map_some,if_neg e]
 ·rw [if_neg a]
  refine valV_snoc k j y kvs ?_
  rw [valV_any] at a
  cases q:valV kvs k with
  | none=>rfl
  | some x=>rw [q] at a;exact (a rfl).elim
theorem length_putK (kvs:List (κ × V)) (k:κ) (v:V):(putK kvs k v).length<=kvs.length+1:=by
 unfold putK
 split
 ·rw [List.length_map];omega
 ·rw [List.length_append,List.length_cons,List.length_nil];omega
theorem putK_new {kvs:List (κ × V)}{k:κ}(v:V) (h:valV kvs k=none):putK kvs k v=kvs++[(k,v)]:=by
 unfold putK
 rw [valV_any,h]
 exact if_neg (by decide)
theorem RelO.isSome_eq {o:Option V}{u:Option Value}(r:RelO o u):o.isSome=u.isSome:=by
 cases o with
 | none=>cases u with
  | none=>rfl
  | some _=>exact (show False from r).elim
 | some _=>cases u with
  | none=>exact (show False from r).elim
  | some _=>rfl
theorem RelO.getD {o:Option V}{u:Option Value}{d:V}{d':Value}(r:RelO o u) (rd:RelV d d'):RelV (o.getD d) (u.getD d'):=by
 cases o with
 | none=>cases u with
  | none=>exact rd
  | some _=>exact (show False from r).elim
 | some _=>cases u with
  | none=>exact (show False from r).elim
  | some _=>exact r
theorem KV.val {kvs:List (κ × V)}{vs:List (κ × Value)}(r:KV kvs vs) (k:κ):RelO (valV kvs k) (valueAt vs k):=by
 unfold KV at r
 induction r with
 | nil=>exact True.intro
 | @cons p q ps qs h t ih=>
  obtain ⟨h1,h2⟩:=h
  by_cases e:p.1=k
  ·have e':q.1=k:=h1.symm.trans e
   have b:valueAt (q::qs) k=some q.2:=by simp [valueAt,List.find?_cons,e']
   rw [valV_pos e,b];exact h2
  ·have e':¬ q.1=k:=λ z=>e (h1.trans z)
   have b:valueAt (q::qs) k=valueAt qs k:=by simp [valueAt,List.find?_cons,e']
   rw [valV_neg e,b];exact ih
theorem KV.any {kvs:List (κ × V)}{vs:List (κ × Value)}(r:KV kvs vs) (k:κ):(kvs.any λ kv=>decide (kv.1=k))=vs.any λ kv=>decide (kv.1=k):=by
 unfold KV at r
 induction r with
 | nil=>rfl
 | cons h t ih=>rw [List.any_cons,List.any_cons,ih,h.1]
theorem KV.repl {kvs:List (κ × V)}{vs:List (κ × Value)}(r:KV kvs vs) (k:κ){y:V}{u:Value}(ry:RelV y u) :
  KV (kvs.map λ kv=>if kv.1=k then (kv.1,y) else kv) (vs.map λ kv=>if kv.1=k then (kv.1,u) else kv):=by
 unfold KV at r ⊢
 induction r with
 | nil=>exact .nil
 | @cons p q ps qs h t ih=>
  rw [List.map_cons,List.map_cons]
  refine .cons ?_ ih
  obtain ⟨h1,h2⟩:=h
  by_cases e:p.1=k
  ·rw [if_pos e,if_pos (h1.symm.trans e)];exact ⟨h1,ry⟩
  ·rw [if_neg e,if_neg (λ z=>e (h1.trans z))];exact ⟨h1,h2⟩
theorem KV.put {kvs:List (κ × V)}{vs:List (κ × Value)}(r:KV kvs vs) (k:κ){y:V}{u:Value}(ry:RelV y u):KV (putK kvs k y) (stored vs k u):=by
 unfold putK stored
 rw [r.any k]
 by_cases e:(vs.any λ kv=>decide (kv.1=k))=true
 ·rw [if_pos e,if_pos e];exact r.repl k ry
 ·rw [if_neg e,if_neg e];exact Paired.snoc r ⟨rfl,ry⟩
theorem KV.length {kvs:List (κ × V)}{vs:List (κ × Value)}(r:KV kvs vs):kvs.length=vs.length:=Paired.length r
end
theorem kV_is {P:Program}{w:World}{k:Key}{u:Value}(r:RelV (kV k) u):(mixKind P w).is k u=true:=by
 cases k with
 | inl i=>obtain ⟨t,e⟩:=(show ∃ t,u=Value.int i t from r);subst e;exact mixKind_int P w i t
 | inr x=>obtain ⟨t,e⟩:=(show ∃ t,u=Value.str x t from r);subst e;exact mixKind_str P w x t
theorem items_are {P:Program}{w:World}:∀ {ks:List Key}{us:List Value},Vals (ks.map kV) us->ItemsAre (mixKind P w) ks us
 | [],_,r=>by rw [List.map_nil] at r;cases r;exact .nil
 | k::ks,_,r=>by
  rw [List.map_cons] at r
  cases r with
  | cons h t=>exact .cons (kV_is h) (items_are t)
abbrev KT (H:Hp):List (List Key × V)->List (List Key × Addr × Value)->Prop:=Paired λ p q=>p.1=q.1/\H q.2.1=some (.tup (p.1.map kV))/\RelV p.2 q.2.2
theorem KT.val {H:Hp}{kvs:List (List Key × V)}{xs:List (List Key × Addr × Value)}(r:KT H kvs xs) (k:List Key):RelO (valV kvs k) ((atKey xs k).map (·.2)):=by
 induction r with
 | nil=>exact True.intro
 | @cons p q ps qs h t ih=>
  obtain ⟨h1,_,h2⟩:=h
  by_cases e:p.1=k
  ·have e':q.1=k:=h1.symm.trans e
   have b:atKey (q::qs) k=some q.2:=by simp [atKey,List.find?_cons,e']
   rw [valV_pos e,b];exact h2
  ·have e':¬ q.1=k:=λ z=>e (h1.trans z)
   have b:atKey (q::qs) k=atKey qs k:=by simp [atKey,List.find?_cons,e']
   rw [valV_neg e,b];exact ih
theorem KT.repl {H:Hp}{kvs:List (List Key × V)}{xs:List (List Key × Addr × Value)}(r:KT H kvs xs) (k:List Key){y:V}{u:Value}(ry:RelV y u) :
  KT H (kvs.map λ kv=>if kv.1=k then (kv.1,y) else kv) (xs.map (putAt k u)):=by
 induction r with
 | nil=>exact .nil
 | @cons p q ps qs h t ih=>
  rw [List.map_cons,List.map_cons]
  refine .cons ?_ ih
  obtain ⟨h1,h2,h3⟩:=h
  unfold putAt
  by_cases e:p.1=k
  ·rw [if_pos e,if_pos (h1.symm.trans e)];exact ⟨h1,h2,ry⟩
  ·rw [if_neg e,if_neg (λ z=>e (h1.trans z))];exact ⟨h1,h2,h3⟩
theorem KT.put {H:Hp}{kvs:List (List Key × V)}{xs:List (List Key × Addr × Value)}(r:KT H kvs xs) (k:List Key){b:Addr}{y:V}{u:Value}(hb:H b=some (.tup (k.map kV))) (ry:RelV y u) :
  KT H (putK kvs k y) (storedH xs k b u):=by
 have e:(kvs.any λ kv=>decide (kv.1=k))=(atKey xs k).isSome:=by
  rw [valV_any,(r.val k).isSome_eq,Option.isSome_map]
 unfold putK storedH
 rw [e]
 by_cases q:(atKey xs k).isSome=true
 ·rw [if_pos q,if_pos q];exact r.repl k ry
 ·rw [if_neg q,if_neg q];exact Paired.snoc r ⟨rfl,hb,ry⟩
theorem KT.keeps {H H':Hp}{kvs:List (List Key × V)}{xs:List (List Key × Addr × Value)}(r:KT H kvs xs) (ht:∀ b ys,H b=some (.tup ys)->H' b=some (.tup ys)):KT H' kvs xs:=
 Paired.mapP r λ _ _ z=>⟨z.1,ht _ _ z.2.1,z.2.2⟩
section
variable {P:Program}{w:World}{H:Hp}{h:Heap}{a:Addr}
theorem rd_of {u:HO}(ok:HOk P w H h) (e:Rd H a u):ObjOk P w H h a u:=e.ok ok
theorem dk_rd {kvs:List (Key × V)}(ok:HOk P w H h) (e:Rd H a (.dK kvs)):kvs.length<=sizeLine/\(a == sysModules)=false/\∃ vs,KV kvs vs/\h.DictOf (mixKind P w) a vs:=
 show ObjOk P w H h a (.dK kvs) from rd_of ok e
theorem dk_of {kvs:List (Key × V)}(ok:HOk P w H h) (e:H a=some (.dK kvs)):kvs.length<=sizeLine/\(a == sysModules)=false/\∃ vs,KV kvs vs/\h.DictOf (mixKind P w) a vs:=dk_rd ok (.inl e)
theorem key_of {ks:List Key}(ok:HOk P w H h) (e:H a=some (.tup (ks.map kV))):(tupleKind (mixKind P w)).is h ks a:=by
 obtain ⟨_,its,r,o,h1,h2,n,h3⟩:=(show ObjOk P w H h a (.tup (ks.map kV)) from ok a _ e)
 exact ⟨o,its.toArray,n,h1,h2,h3,by simpa using items_are r⟩
theorem dt_rd {kvs:List (List Key × V)}(ok:HOk P w H h) (e:Rd H a (.dT kvs)):kvs.length<=sizeLine/\(a == sysModules)=false /\
  ∃ xs,KT H kvs xs/\h.DictOfH (tupleKind (mixKind P w)) a xs:=by
 obtain ⟨z,y,xs,r,o,es,ep,h1,h2,h3,h4,h5⟩:=(show ObjOk P w H h a (.dT kvs) from rd_of ok e)
 refine ⟨z,y,xs,r,o,es,ep,h1,h2,h3,h4,λ x hx=>?_,h5⟩
 have all:∀ {l:List (List Key × V)} {m:List (List Key × Addr × Value)},KT H l m->∀ x∈m,(tupleKind (mixKind P w)).is h x.1 x.2.1:=by
  intro l m q
  induction q with
  | nil=>intro x hx;exact nomatch hx
  | @cons p q ps qs hq t ih=>
   intro x hx
   rcases List.mem_cons.mp hx with e|hx
   ·subst e
    exact key_of ok (by rw [←hq.1];exact hq.2.1)
   ·exact ih x hx
 exact all r x hx
theorem dt_of {kvs:List (List Key × V)}(ok:HOk P w H h) (e:H a=some (.dT kvs)):kvs.length<=sizeLine/\(a == sysModules)=false /\
  ∃ xs,KT H kvs xs/\h.DictOfH (tupleKind (mixKind P w)) a xs:=dt_rd ok (.inl e)
end
def DGet (H:Hp) (a:Addr) (y:V) (r:Option V):Prop:=
 (∃ kvs k,Rd H a (.dK kvs)/\y=kV k/\r=valV kvs k)\/∃ kvs k b,Rd H a (.dT kvs)/\y=.ref b/\H b=some (.tup (k.map kV))/\r=valV kvs k
def DPut (H:Hp) (a:Addr) (y v:V) (H':Hp):Prop:=
 (∃ kvs k,H a=some (.dK kvs)/\y=kV k/\kvs.length < sizeLine/\H'=upd H a (.dK (putK kvs k v))) \/
 ∃ kvs k b,H a=some (.dT kvs)/\y=.ref b/\H b=some (.tup (k.map kV))/\kvs.length < sizeLine/\H'=upd H a (.dT (putK kvs k v))
theorem DGet.k {H:Hp}{a:Addr}{kvs:List (Key × V)}{k:Key}(e:H a=some (.dK kvs)):DGet H a (kV k) (valV kvs k):=.inl ⟨kvs,k,.inl e,rfl,rfl⟩
theorem DPut.k {H:Hp}{a:Addr}{kvs:List (Key × V)}{k:Key}{v:V}(e:H a=some (.dK kvs)) (hl:kvs.length < sizeLine):DPut H a (kV k) v (upd H a (.dK (putK kvs k v))):=.inl ⟨kvs,k,e,rfl,hl,rfl⟩
section
variable {X:Cx}{pins:List (Addr × Obj)}{σ:St}{H:Hp}{s:Shared}{a:Addr}{y v:V}{u r:Value}{o:Option V}{A:Around}{E:Value->Shared->Prop}
theorem Inv.big (I:Inv X pins σ H s):sysModules < s.heap.objs.size:=by
 have h:mainGlobals < s.heap.objs.size:=(I.mod.glob.keeps I.bk).lt
 exact Nat.lt_trans (by decide) h
theorem d_getItem {Q:Value->Shared->Prop}(hu:A.units+1 < cLine) (I:Inv X pins σ H s) (g:DGet H a y (some v)) (ry:RelV y u) (h:∀ w' s',Inv X pins σ H s'->RelV v w'->Q w' s') :
  wpAny (model X.prog X.w) A (getItem (.ref a) u) Q E s:=by
 rcases g with ⟨kvs,k,e,ey,l⟩|⟨kvs,k,b,e,ey,eb,l⟩
 ·subst ey
  obtain ⟨z,hd,vs,rel,dd⟩:=dk_rd I.hok e
  obtain ⟨w',hw,rw'⟩:=RelO.some_of (v:=v) (o:=valueAt vs k) (by rw [l];exact rel.val k)
  exact wpAny_getItem_of (kV_is ry) dd.mapOf hw (h w' _ (I.tok _) rw')
 ·subst ey
  cases (show u=Value.ref b from ry)
  obtain ⟨z,hd,xs,rel,dd⟩:=dt_rd I.hok e
  obtain ⟨w',hw,rw'⟩:=RelO.some_of (v:=v) (o:=(atKey xs k).map (·.2)) (by rw [l];exact rel.val k)
  obtain ⟨p,hp,hp2⟩:=Option.map_eq_some_iff.mp hw
  refine wpAny_getItem_heap (tupleKind_room_in1 hu) (key_of I.hok eb) dd hp ?_
  rw [hp2]
  exact h w' _ (I.tok _) rw'
theorem d_in {Q:Value->Shared->Prop}(hu:A.units+1 < cLine) (I:Inv X pins σ H s) (g:DGet H a y o) (ry:RelV y u) (h:∀ s',Inv X pins σ H s'->Q (.bool o.isSome) s') :
  wpAny (model X.prog X.w) A (compareOp .In u (.ref a)) Q E s:=by
 rcases g with ⟨kvs,k,e,ey,l⟩|⟨kvs,k,b,e,ey,eb,l⟩
 ·subst ey
  obtain ⟨z,hd,vs,rel,dd⟩:=dk_rd I.hok e
  refine wpAny_in_of (kV_is ry) hd dd.mapOf ?_
  rw [←(rel.val k).isSome_eq,←l]
  exact h _ (I.tok _)
 ·subst ey
  cases (show u=Value.ref b from ry)
  obtain ⟨z,hd,xs,rel,dd⟩:=dt_rd I.hok e
  refine wpAny_in_heap (tupleKind_room_in1 hu) (key_of I.hok eb) hd dd ?_
  have q:=(rel.val k).isSome_eq
  rw [Option.isSome_map] at q
  rw [←q,←l]
  exact h _ (I.tok _)
theorem d_write {h':Heap}{t':Nat}{ob:HO}(I:Inv X pins σ H s) (mu:Mut (H a)) (hs:Heap.SameBut a s.heap h') (he:∃ q,h'.get? a=some q) (new:ObjOk X.prog X.w (upd H a ob) h' a ob) :
  Inv X pins σ (upd H a ob) { s with heap:=h',toks:=t' }:=
 I.write (x:=a) (e:=a) mu (.inl rfl) (λ b q hb z=>(hs.2 b hb).trans z) he new
theorem dk_new {P:Program}{w:World}{H':Hp}{h':Heap}{kvs:List (Key × V)}{vs:List (Key × Value)}(z:kvs.length<=sizeLine) (hd:(a == sysModules)=false) (rel:KV kvs vs) (dd:h'.DictOf (mixKind P w) a vs) :
  ObjOk P w H' h' a (.dK kvs):=⟨z,hd,vs,rel,dd⟩
theorem d_setItem {H':Hp}{Q:Unit->Shared->Prop}(hu:A.units+1 < cLine) (I:Inv X pins σ H s) (g:DPut H a y v H') (ry:RelV y u) (rv:RelV v r) (h:∀ s',Inv X pins σ H' s'->Q () s') :
  wpAny (model X.prog X.w) A (setItem (.ref a) u r) Q E s:=by
 rcases g with ⟨kvs,k,e,ey,l,eH⟩|⟨kvs,k,b,e,ey,eb,l,eH⟩
 ·subst ey eH
  obtain ⟨z,hd,vs,rel,dd⟩:=dk_of I.hok e
  have hz:vs.length<=sizeLine:=by rw [←rel.length];exact z
  have hl:(putK kvs k v).length<=sizeLine:=by have:=length_putK kvs k v;omega
  refine wpAny_setItem_pairs (hsz:=hz) (kV_is ry) dd λ h' dd' hs=>h _ ?_
  have he:∃ q,h'.get? a=some q:=let ⟨q,_,_,hq,_⟩:=dd';⟨q,hq⟩
  exact d_write I (by rw [e];exact True.intro) hs he (dk_new hl hd (rel.put k rv) dd')
 ·subst ey eH
  cases (show u=Value.ref b from ry)
  obtain ⟨z,hd,xs,rel,dd⟩:=dt_of I.hok e
  have hz:xs.length<=sizeLine:=by rw [←Paired.length rel];exact z
  have hl:(putK kvs k v).length<=sizeLine:=by have:=length_putK kvs k v;omega
  refine wpAny_setItem_heap (hsz:=hz) (tupleKind_room_in1 hu) (key_of I.hok eb) dd λ h' dd' hs=>h _ ?_
  obtain ⟨q,es,ep,hq,h2,h3,h4,_,h5⟩:=dd'
  refine d_write I (by rw [e];exact True.intro) hs ⟨q,hq⟩ ⟨hl,hd,_,(rel.put k eb rv).keeps λ c ys ec=>?_,q,es,ep,hq,h2,h3,h4,h5⟩
  rw [upd_ne (ne_of ec e (λ z=>nomatch z))]
  exact ec
end
section
variable {X:Cx}{pins:List (Addr × Obj)}{σ:St}{H:Hp}{s:Shared}{a:Addr}{kvs:List (Key × V)}{k:Key}{u:Value}{A:Around}{E:Value->Shared->Prop}
end
def NoSl (i:Expr):Prop:=∀ ov iv,subscripted i false ov iv=operate [ov,iv] (getItem ov iv)
theorem subD_of {prog:Program}{w:World}{A:Around}{E:Value->Shared->Prop}{s:Shared}{env:Env}{value slice:Expr}{pos:Pos}{T id:String}{Q:Value->Shared->Prop}
  (hl:typeLookup (.type T) "__getitem__"=pure (some (.builtin id))) (hs:NoSl slice)
  (h:wpAny (model prog w) A (eval value env) (λ o s₁=>wpAny (model prog w) A (eval slice env) (λ i s₂=>s₂.TypeIs o T/\wpAny (model prog w) A (getItem o i) Q E s₂) E s₁) E s) :
  wpAny (model prog w) A (eval (.Subscript value slice pos) env) Q E s:=by
 refine Subscript_ (wpAny_mono h (λ o s₁ h₁=>wpAny_mono h₁ (λ i s₂ h₂=>?_) λ _ _ x=>x) λ _ _ x=>x)
 obtain ⟨hT,h₂⟩:=h₂
 unfold subscriptTail
 refine wpAny_bind ?_
 rw [getitemInPython_of_ne hT.not_modules]
 refine wpAny_bind (wpAny_specialOf hT hl ?_)
 have fin:wpAny (model prog w) A (subscripted slice false o i) (λ r s₃=>wpAny (model prog w) A (letTemporaryGo value o r >>= λ _=>pure r) Q E s₃) E s₂:=by
  rw [hs o i]
  exact wpAny_operating (wpAny_mono h₂ (λ r s₃ h₃=>wpAny_bind (wpAny_letTemporaryGo (wpAny_pure h₃))) λ _ _ x=>x)
 first
  | exact wpAny_pure (wpAny_bind fin)
  | exact wpAny_bind (wpAny_pure (wpAny_bind fin))
  | exact wpAny_bind fin
theorem dict_typeIs {X:Cx}{pins:List (Addr × Obj)}{σ:St}{H:Hp}{s:Shared}{a:Addr}{y:V}{o:Option V}(I:Inv X pins σ H s) (g:DGet H a y o):s.TypeIs (.ref a) "dict":=by
 rcases g with ⟨kvs,k,e,_,_⟩|⟨kvs,k,b,e,_,_,_⟩
 ·obtain ⟨_,_,vs,_,dd⟩:=dk_rd I.hok e
  exact dd.typeIs
 ·obtain ⟨_,_,xs,_,dd⟩:=dt_rd I.hok e
  exact dd.typeIs
def tDGet (td ty:TE):TE:=λ σ H Q=>td σ H λ x H1=>ty σ H1 λ y H2=>∃ a v,x=.ref a/\DGet H2 a y (some v)/\Q v H2
def sDPut (td ty tv:TE):TS:=λ D σ H=>tv σ H λ v H1=>td σ H1 λ x H2=>ty σ H2 λ y H3=>∃ a H4,x=.ref a/\DPut H3 a y v H4/\D.nx σ H4
section
variable {X:Cx}{o i e value:Expr}{pos pos' tpos:Pos}{td ty tv:TE}
theorem pe_dget (hu:X.A.units+1 < cLine) (ho:PE X o td) (hi:PE X i ty) (hs:NoSl i):PE X (.Subscript o i pos) (tDGet td ty):=by
 intro pins s σ H Q I h
 refine subD_of PySem.F.slot_dict_getitem.lookup hs (thn (ho pins s σ H _ I h) λ u s1 ⟨x,H1,I1,rx,q1⟩=>thn (hi pins s1 σ H1 _ I1 q1) λ iv s2 ⟨y,H2,I2,ry,a,v,ex,g,q2⟩=>?_)
 subst ex
 obtain rfl:u=Value.ref a:=rx
 exact ⟨dict_typeIs I2 g,d_getItem hu I2 g ry λ w' s3 I3 rw'=>⟨v,H2,I3,rw',q2⟩⟩
theorem ps_dput (hu:X.A.units+1 < cLine) (ho:PE X o td) (hi:PE X i ty) (hv:PE X value tv) (hs:swapsWith value (some (.Subscript o i pos')) pos.line X.env=pure false) :
  PS X (.Assign [.Subscript o i pos'] value pos) (sDPut td ty tv):=by
 intro pins s σ H D I h
 refine wpAny_Assign_Subscript (thn (hv pins s σ H _ I h) λ r s1 ⟨v,H1,I1,rv,q1⟩=>thn (ho pins s1 σ H1 _ I1 q1) λ u s2 ⟨x,H2,I2,rx,q2⟩=>thn (hi pins s2 σ H2 _ I2 q2) λ iv s3 ⟨y,H3,I3,ry,a,H4,ex,g,q3⟩=>?_) hs
 subst ex
 obtain rfl:u=Value.ref a:=rx
 exact d_setItem hu I3 g ry rv λ s4 I4=>⟨σ,H4,I4,q3⟩
end
theorem dk_empty {P:Program}{w:World}{H:Hp}(h:Heap) (hb:sysModules < h.objs.size):ObjOk P w H (h.push { cls:=.type "dict",data:=.dict #[] }) h.objs.size (.dK []):=
 ⟨Nat.zero_le _,beq_eq_false_iff_ne.mpr (Ne.symm (Nat.ne_of_lt hb)),[],.nil,Heap.DictOf.new h⟩
def tDNewK:TE:=λ _ H Q=>∀ p,H p=none->Q (.ref p) (upd H p (.dK []))
section
variable {X:Cx}{pos:Pos}
theorem pe_dnewK:PE X (.Dict [] [] pos) tDNewK:=λ pins s σ H Q I h=>
 wpAny_Dict_empty ⟨.ref s.heap.objs.size,_,I.laid (a:=s.heap.objs.size) (o:=.dK []) (t':=s.toks) (λ _ _ q=>Heap.get?_push_of_some _ q) (Nat.le_refl _) (dk_empty s.heap I.big),rfl,h _ (I.hok.fresh (Nat.le_refl _))⟩
end
structure M1 (X:Cx) (o:Expr) (m:Str) (apos:Pos) (e:Expr) (cpos:Pos):Prop where
 base:attributeBase o m X.env (eval o X.env)=eval o X.env
 few:((backTo cpos (starEach [e] X.env)).all (λ x=>!x.1) && (backToKw cpos (keywordEach [] X.env)).all (λ x=>x.1.isSome)
  && decide (([e]:List Expr).length+([]:List Keyword).length+(if ([]:List Keyword).isEmpty then 0 else 1) < 30))=true
 line:(apos.endLine == cpos.line)=true
 trees:backTo cpos (starEach [e] X.env)=[(false,eval e X.env)]
structure M2 (X:Cx) (o:Expr) (m:Str) (apos:Pos) (e f:Expr) (cpos:Pos):Prop where
 base:attributeBase o m X.env (eval o X.env)=eval o X.env
 few:((backTo cpos (starEach [e,f] X.env)).all (λ x=>!x.1) && (backToKw cpos (keywordEach [] X.env)).all (λ x=>x.1.isSome)
  && decide (([e,f]:List Expr).length+([]:List Keyword).length+(if ([]:List Keyword).isEmpty then 0 else 1) < 30))=true
 line:(apos.endLine == cpos.line)=true
 trees:backTo cpos (starEach [e,f] X.env)=[(false,eval e X.env),(false,eval f X.env)]
def IsD (H:Hp) (a:Addr):Prop:=(∃ kvs,Rd H a (.dK kvs))\/∃ kvs,Rd H a (.dT kvs)
theorem isD_at {X:Cx}{pins:List (Addr × Obj)}{σ:St}{H:Hp}{s:Shared}{a:Addr}(I:Inv X pins σ H s) (d:IsD H a) :
  s.TypeIs (.ref a) "dict" /\ (∀ b,Value.ref a=.ref b->∃ ob,s.heap.get? b=some ob/\ob.dict=none)/\(a == sysModules)=false:=by
 rcases d with ⟨kvs,e⟩|⟨kvs,e⟩
 ·obtain ⟨_,hd,vs,_,dd⟩:=dk_rd I.hok e
  refine ⟨dd.typeIs,λ b q=>?_,hd⟩
  cases q
  obtain ⟨ob,_,_,h1,h2,_⟩:=dd
  exact ⟨ob,h1,h2.2.1⟩
 ·obtain ⟨_,hd,xs,_,dd⟩:=dt_rd I.hok e
  refine ⟨dd.typeIs,λ b q=>?_,hd⟩
  cases q
  obtain ⟨ob,_,_,h1,h2,_⟩:=dd
  exact ⟨ob,h1,h2.2.1⟩
section
variable {X:Cx}{pins:List (Addr × Obj)}{σ:St}{H:Hp}{s:Shared}{a:Addr}{y d:V}{u r:Value}{o:Option V}{A:Around}{E:Value->Shared->Prop}
theorem d_get1 {Q:Value->Shared->Prop}(hu:A.units+1 < cLine) (I:Inv X pins σ H s) (g:DGet H a y o) (ry:RelV y u) (h:∀ w' s',Inv X pins σ H s'->RelV (o.getD .non) w'->Q w' s') :
  wpAny (model X.prog X.w) A (call (.builtin "dict.get") [.ref a,u]) Q E s:=by
 rcases g with ⟨kvs,k,e,ey,l⟩|⟨kvs,k,b,e,ey,eb,l⟩
 ·subst ey
  obtain ⟨z,hd,vs,rel,dd⟩:=dk_rd I.hok e
  refine call_meetsIn PySem.F.slot_dict_get dd.typeIs PySem.F.entry_dict_get (PySem.F.args_dict_get_2 _ _) (meets_dict_get (mixKind X.prog X.w) a (kV_is ry) hd) ⟨_,dd.mapOf,h _ _ (I.tok _) ?_⟩
  rw [l]
  exact (rel.val k).getD rfl
 ·subst ey
  cases (show u=Value.ref b from ry)
  obtain ⟨z,hd,xs,rel,dd⟩:=dt_rd I.hok e
  refine call_meetsIn PySem.F.slot_dict_get dd.typeIs PySem.F.entry_dict_get (PySem.F.args_dict_get_2 _ _) (meetsH_dict_get (tupleKind (mixKind X.prog X.w)) a b hd) ⟨tupleKind_room_in1 hu,k,xs,key_of I.hok eb,dd,h _ _ (I.tok _) ?_⟩
  rw [l]
  exact (rel.val k).getD rfl
end
def tDGet1 (td ty:TE):TE:=λ σ H Q=>td σ H λ x H1=>∃ a,x=.ref a/\IsD H1 a/\ty σ H1 λ y H2=>∃ o,DGet H2 a y o/\Q (o.getD .non) H2
section
variable {X:Cx}{o e f:Expr}{apos cpos:Pos}{td ty tx:TE}
theorem pe_dget1 (hu:X.A.units+1 < cLine) (ho:PE X o td) (he:PE X e ty) (m:M1 X o "get" apos e cpos):PE X (.Call (.Attribute o "get" apos) [e] [] cpos) (tDGet1 td ty):=by
 intro pins s σ H Q I h
 refine wpAny_Call_method m.base m.few m.line PySem.F.plainAttrs_dict PySem.F.slot_dict_get PySem.F.type_dict_get (thn (ho pins s σ H _ I h) λ u s1 ⟨x,H1,I1,rx,a,ex,d,q1⟩=>?_)
 subst ex
 obtain rfl:u=Value.ref a:=rx
 obtain ⟨t1,t2,_⟩:=isD_at I1 d
 refine ⟨t1,t2,?_⟩
 rw [m.trees]
 refine Calls.callWith_builtin rfl (Calls.evalArgs_plain (Calls.spliced_cons (thn (he pins s1 σ H1 _ I1 q1) λ iv s2 ⟨y,H2,I2,ry,ov,g,q2⟩=>Calls.spliced_nil ?_)))
 exact d_get1 hu I2 g ry λ w' s3 I3 rw'=>⟨_,H2,I3,rw',q2⟩
end
section
variable {X:Cx}{pins:List (Addr × Obj)}{σ:St}{H:Hp}{s:Shared}{a:Addr}{kvs:List (Key × V)}{A:Around}{E:Value->Shared->Prop}
end
section
variable {X:Cx}{pins:List (Addr × Obj)}{σ:St}{H:Hp}{s:Shared}{a:Addr}{y:V}{u:Value}{A:Around}{E:Value->Shared->Prop}
end
end L2
namespace L2
open PySem PySem.Spec PyProof.Rows
section
variable {κ:Type} [DecidableEq κ]
end
end L2
set_option Elab.async false
set_option linter.all false
set_option maxRecDepth 100000
set_option maxHeartbeats 4000000
namespace L2
open PySem PySem.Spec PyProof.Rows
section
variable {X:Cx}
def CMulB (i j:Int):Prop:=i.natAbs < 2 ^ 256/\j.natAbs < 2 ^ 256
theorem bits256 {i:Int}(h:i.natAbs < 2 ^ 256):Builtin.Int.intBits i<=2 ^ 20:=Nat.le_trans (intBits_le h) (by decide)
theorem op_mulB:OpR X (binaryOp .Mult) (rI CMulB λ i j=>.int (i * j)):=opI λ _ _ _ _ _ _ _ hc q=>mul_int q (IntMulOk.of_bits (bits256 hc.1) (bits256 hc.2))
theorem call_isi:CallR X (.builtin "isinstance") (λ xs H Q=>∃ x n ty b,xs=[x,.ty n]/\TyOf X.K H x ty/\W.kitOne X.K ty (.type n)=some b/\Q (.bl b) H):=by
 intro pins s σ H xs us Q I r h
 obtain ⟨x,n,ty,b,rfl,hty,hk,q⟩:=h
 obtain ⟨u,w',rfl,rx,rc⟩:=vals2 r
 cases (show w'=Value.type n from rc)
 exact isinst_ok I rx hty hk (λ tk=>⟨.bl b,H,I.tok _,rfl,q⟩)
theorem kitOne_ty (K:W.Frag) (A B:String) (r:Bool)
  (h:(if (Value.type A == Value.type B)=true then some true else if W.kitMeta B=true then (fastBuiltinMro A).map (·.contains (.type B)) else none)=some r):W.kitOne K (.type A) (.type B)=some r:=h
mutual
inductive DatV (K:PySem.W.Frag) (H:Hp):V->PyData->Prop
 | non:DatV K H .non .none
 | bl (b:Bool):DatV K H (.bl b) (.bool b)
 | int (i:Int):DatV K H (.int i) (.int i)
 | str (x:Str):DatV K H (.str x) (.str x)
 | lst {a:Addr} {xs:List V} {ds:List PyData} (h:SqL K H a xs) (r:DatVs K H xs ds):DatV K H (.ref a) (.list ds)
 | tup {a:Addr} {xs:List V} {ds:List PyData} (h:SqT K H a xs) (r:DatVs K H xs ds):DatV K H (.ref a) (.tuple ds)
inductive DatVs (K:PySem.W.Frag) (H:Hp):List V->List PyData->Prop
 | nil:DatVs K H [] []
 | cons {x:V} {d:PyData} {xs:List V} {ds:List PyData} (h:DatV K H x d) (t:DatVs K H xs ds):DatVs K H (x::xs) (d::ds)
end
mutual
theorem DatV.reads {pins:List (Addr × Obj)}{σ:St}{H:Hp}{s:Shared}(I:Inv X pins σ H s):∀ {x:V}{d:PyData}{u:Value},DatV X.K H x d->RelV x u->∃ as,Reads s.heap u d as
 | _,_,_,.non,r=>by cases (show _=Value.none from r);exact ⟨_,.none⟩
 | _,_,_,.bl b,r=>by cases (show _=Value.bool b from r);exact ⟨_,.bool b⟩
 | _,_,_,.int i,r=>by obtain ⟨t,rfl⟩:=r;exact ⟨_,.int i t⟩
 | _,_,_,.str x,r=>by obtain ⟨t,rfl⟩:=r;exact ⟨_,.str x t⟩
 | _,_,_,@DatV.lst _ _ a xs ds h q,r=>by
  cases (show _=Value.ref a from r)
  obtain ⟨its,hv,hp,_⟩:=I.list h
  obtain ⟨o,n,e,c,_,d⟩:=hp
  obtain ⟨as,z⟩:=DatVs.reads I q hv
  exact ⟨_,.list e c d (by simpa using z)⟩
 | _,_,_,@DatV.tup _ _ a xs ds h q,r=>by
  cases (show _=Value.ref a from r)
  obtain ⟨its,hv,hp,_⟩:=I.tuple h
  obtain ⟨o,e,c,n,d⟩:=hp
  obtain ⟨as,z⟩:=DatVs.reads I q hv
  exact ⟨_,.tuple e c d (by simpa using z)⟩
theorem DatVs.reads {pins:List (Addr × Obj)}{σ:St}{H:Hp}{s:Shared}(I:Inv X pins σ H s):∀ {xs:List V}{ds:List PyData}{us:List Value},DatVs X.K H xs ds->Vals xs us->∃ as,ReadsAll s.heap us ds as
 | _,_,_,.nil,.nil=>⟨_,.nil⟩
 | _,_,_,.cons h t,.cons r q=>by
  obtain ⟨as,z⟩:=DatV.reads I h r
  obtain ⟨bs,y⟩:=DatVs.reads I t q
  exact ⟨_,.cons z y⟩
end
def rEqD (K:W.Frag):R2:=λ x y H Q=>∃ d e,DatV K H x d/\DatV K H y e/\SeqAt.shaped d=true/\SeqAt.shaped e=true/\Q (.bl (PyData.eqv d e)) H
def rNeD (K:W.Frag):R2:=λ x y H Q=>∃ d e,DatV K H x d/\DatV K H y e/\SeqAt.shaped d=true/\SeqAt.shaped e=true/\Q (.bl (!PyData.eqv d e)) H
theorem op_eqD (hu:X.A.units+64 < cLine):OpR X (compareOp .Eq) (rEqD X.K):=by
 intro pins s σ H x y v u Q I rx ry h
 obtain ⟨d,e,hd,he,sd,se,q⟩:=h
 obtain ⟨as,z⟩:=hd.reads I rx
 obtain ⟨bs,z'⟩:=he.reads I ry
 exact SeqAt.compareEq_shaped z z' sd se hu ⟨.bl _,H,I,rfl,q⟩
theorem op_neD (hu:X.A.units+64 < cLine):OpR X (compareOp .NotEq) (rNeD X.K):=by
 intro pins s σ H x y v u Q I rx ry h
 obtain ⟨d,e,hd,he,sd,se,q⟩:=h
 obtain ⟨as,z⟩:=hd.reads I rx
 obtain ⟨bs,z'⟩:=he.reads I ry
 exact SeqAt.compareNe_shaped z z' sd se hu ⟨.bl _,H,I,rfl,q⟩
end
theorem same_upd {H:Hp}{p:Addr}{o:HO}(h:H p=none):Same H (upd H p o):=λ b u e=>by
 rw [upd_ne (ne_of_none e h)];exact e
theorem atI_lt {α:Type}(xs:List α) (i:Int) (h0:0<=i) (h1:i < xs.length):∃ v,atI xs i=some v/\v∈xs:=by
 have hl:i.toNat < xs.length:=by omega
 refine ⟨xs[i.toNat],?_,List.getElem_mem hl⟩
 have e:((i.toNat:Nat):Int)=i:=by omega
 have:=atI_nat (xs:=xs) (j:=i.toNat) (v:=xs[i.toNat]) (List.getElem?_eq_getElem hl)
 rw [e] at this
 exact this
theorem atI_ints (ns:List Int) (i:Int) (h0:0<=i) (h1:i < ns.length):∃ z,atI (ns.map V.int) i=some (.int z)/\z∈ns:=by
 obtain ⟨v,e,m⟩:=atI_lt (ns.map V.int) i h0 (by simpa using h1)
 obtain ⟨z,hz,rfl⟩:=List.mem_map.mp m
 exact ⟨z,e,hz⟩
end L2
set_option Elab.async false
set_option linter.all false
set_option maxRecDepth 100000
set_option maxHeartbeats 4000000
namespace L2
open PySem PySem.Spec PyProof.Rows
def clOf (cells:List (Str × Addr)):List (Str × NameKind)->List (Str × Addr)->List (Str × Addr)
 | [],acc=>acc
 | (n,k)::r,acc=>if (k == .free)=true then clOf cells r ((n,(cells.lookup n).getD 0)::acc) else clOf cells r acc
theorem closure_run {env:Env}:∀ (names:List (Str × NameKind)) (acc:List (Str × Addr)),(∀ y∈names,y.2=.free->∃ c,env.cells.lookup y.1=some c) →
  (forIn names acc (λ (x:Str × NameKind) (cs:List (Str × Addr))=>match x with
   | (name,kind)=>if (kind == .free)=true then (do let a ←cellOf env name;pure (ForInStep.yield ((name,a)::cs))) else (do pure PUnit.unit;pure (ForInStep.yield cs))):Sem (List (Str × Addr)))=pure (clOf env.cells names acc)
 | [],acc,_=>rfl
 | (n,k)::r,acc,h=>by
  rw [List.forIn_cons]
  have hr:∀ y∈r,y.2=.free->∃ c,env.cells.lookup y.1=some c:=λ y hy=>h y (List.mem_cons_of_mem _ hy)
  by_cases hk:(k == .free)=true
  ·obtain ⟨c,hc⟩:=h (n,k) List.mem_cons_self (by simpa using hk)
   have hc':env.cells.lookup n=some c:=hc
   simp only [hk,if_true,clOf,hc',Option.getD_some]
   have e:cellOf env n=pure c:=by unfold cellOf;rw [hc']
   rw [e]
   exact closure_run r _ hr
  ·simp only [hk,if_false,clOf]
   exact closure_run r acc hr
theorem closureFor_eq {scope:Scope}{env:Env}(h:∀ y∈scope.names,y.2=.free->∃ c,env.cells.lookup y.1=some c):closureFor scope env=pure (clOf env.cells scope.names []):=by
 unfold closureFor
 have:=closure_run (env:=env) scope.names [] h
 first
  | exact (congrArg (λ m=>m >>= λ cs=>pure cs) this).trans (pure_bind _ _)
  | (simp only [] at this ⊢;rw [this];rfl)
theorem clOf_sub {cells:List (Str × Addr)}{x:Str}{c:Addr}:∀ {names:List (Str × NameKind)}{acc:List (Str × Addr)},(∀ y∈names,y.2=.free->∃ c,cells.lookup y.1=some c)->(clOf cells names acc).lookup x=some c->acc.lookup x=some c\/cells.lookup x=some c
 | [],acc,_,h=>.inl h
 | (n,k)::r,acc,hf,h=>by
  have hr:∀ y∈r,y.2=.free->∃ c,cells.lookup y.1=some c:=λ y hy=>hf y (List.mem_cons_of_mem _ hy)
  unfold clOf at h
  by_cases hk:(k == .free)=true
  ·rw [if_pos hk] at h
   rcases clOf_sub hr h with q|q
   ·rw [List.lookup_cons] at q
    cases hx:x == n with
    | true=>
     rw [hx] at q
     obtain ⟨d,hd⟩:=hf (n,k) List.mem_cons_self (by simpa using hk)
     have e:x=n:=by simpa using hx
     subst e
     have hd':cells.lookup x=some d:=hd
     rw [hd'] at q ⊢
     exact .inr (by simpa using q)
    | false=>rw [hx] at q;exact .inl q
   ·exact .inr q
  ·rw [if_neg hk] at h
   exact clOf_sub hr h
theorem clOf_acc {cells:List (Str × Addr)}{x:Str}:∀ {names:List (Str × NameKind)}{acc:List (Str × Addr)},(∀ y∈names,y.2=.free->∃ c,cells.lookup y.1=some c)->(∃ c,acc.lookup x=some c)->∃ c,(clOf cells names acc).lookup x=some c
 | [],acc,_,h=>h
 | (n,k)::r,acc,hf,h=>by
  have hr:∀ y∈r,y.2=.free->∃ c,cells.lookup y.1=some c:=λ y hy=>hf y (List.mem_cons_of_mem _ hy)
  unfold clOf
  by_cases hk:(k == .free)=true
  ·rw [if_pos hk]
   refine clOf_acc hr ?_
   rw [List.lookup_cons]
   cases hx:x == n with
   | true=>exact ⟨_,rfl⟩
   | false=>exact h
  ·rw [if_neg hk]
   exact clOf_acc hr h
theorem clOf_has {cells:List (Str × Addr)}{x:Str}:∀ {names:List (Str × NameKind)}{acc:List (Str × Addr)},(∀ y∈names,y.2=.free->∃ c,cells.lookup y.1=some c)->names.lookup x=some .free->∃ c,(clOf cells names acc).lookup x=some c
 | [],acc,_,h=>by simp at h
 | (n,k)::r,acc,hf,h=>by
  have hr:∀ y∈r,y.2=.free->∃ c,cells.lookup y.1=some c:=λ y hy=>hf y (List.mem_cons_of_mem _ hy)
  rw [List.lookup_cons] at h
  unfold clOf
  cases hx:x == n with
  | true=>
   rw [hx] at h
   have hk:k=.free:=by simpa using h
   subst hk
   rw [if_pos (show (NameKind.free == NameKind.free)=true from rfl)]
   refine clOf_acc hr ⟨(cells.lookup n).getD 0,?_⟩
   rw [List.lookup_cons,hx]
  | false=>
   rw [hx] at h
   by_cases hk:(k == .free)=true
   ·rw [if_pos hk];exact clOf_has hr h
   ·rw [if_neg hk];exact clOf_has hr h
theorem lookup_mem {x:Str}{k:NameKind}:∀ {names:List (Str × NameKind)},names.lookup x=some k->(x,k)∈names
 | [],h=>by simp at h
 | (n,j)::r,h=>by
  rw [List.lookup_cons] at h
  cases hx:x == n with
  | true=>
   rw [hx] at h
   have e:x=n:=by simpa using hx
   have e2:j=k:=by simpa using h
   subst e;subst e2
   exact List.mem_cons_self
  | false=>rw [hx] at h;exact List.mem_cons_of_mem _ (lookup_mem h)
theorem lookup_relabel {env:Env}{x:Str}:∀ {names:List (Str × NameKind)},
  (names.map λ (n,k)=>if (k == NameKind.free && env.scope.kind == .function && env.kindOf n == some .cell) then (n,NameKind.cell) else (n,k)).lookup x
   = (names.lookup x).map λ k=>if (k == NameKind.free && env.scope.kind == .function && env.kindOf x == some .cell) then NameKind.cell else k
 | []=>rfl
 | (n,k)::r=>by
  have ih:=@lookup_relabel env x r
  show List.lookup x ((if (k == NameKind.free && env.scope.kind == .function && env.kindOf n == some .cell)=true then (n,NameKind.cell) else (n,k))::_)=_
  cases hx:x == n with
  | true=>
   have e:x=n:=by simpa using hx
   subst e
   by_cases hc:(k == NameKind.free && env.scope.kind == .function && env.kindOf x == some .cell)=true
   ·rw [if_pos hc]
    simp only [List.lookup_cons,beq_self_eq_true,Option.map_some]
    rw [if_pos hc]
   ·rw [if_neg hc]
    simp only [List.lookup_cons,beq_self_eq_true,Option.map_some]
    rw [if_neg hc]
  | false=>
   by_cases hc:(k == NameKind.free && env.scope.kind == .function && env.kindOf n == some .cell)=true
   ·rw [if_pos hc];simp only [List.lookup_cons,hx];exact ih
   ·rw [if_neg hc];simp only [List.lookup_cons,hx];exact ih
abbrev cCx (X:Cx) (scope:Scope) (N':List Str) (C:Addr) (s₀:Shared) (H₀:Hp) (ex:List Addr) (pn:List (Addr × Obj)):Cx:=
 { X with N:=N',s₀:=s₀,H₀:=H₀,env:=compEnvC scope (clOf X.env.cells scope.names []) C X.env,outer:=X.stack,stack:=X.stack,ex:=ex,fn:=λ _=>false,pn:=pn,xe:=λ _ _=>False }
def PTs (Y:Cx) (ifs:List Expr) (t:TT):Prop:=
 ∀ (pins:List (Addr × Obj)) (s:Shared) (σ:St) (H:Hp) (Q:Bool->Hp->Prop),Inv Y pins σ H s->t σ H Q →
  wpAny (model Y.prog Y.w) Y.A (forIn ifs true λ c r=>if r=true then do let ok ←isTrue c Y.env (eval c Y.env);pure (ForInStep.yield ok) else pure (ForInStep.yield r)) (TP Y pins σ Q) Y.xe s
def tYes:TT:=λ _ H Q=>Q true H
theorem pts_nil {Y:Cx}:PTs Y [] tYes:=λ _ _ _ H _ I h=>wpAny_pure ⟨H,I,h⟩
theorem pts_one {Y:Cx}{c:Expr}{t:TT}(h:PT Y c t):PTs Y [c] t:=λ pins s σ H Q I hw=>PySem.wpAny_tests_one (h pins s σ H Q I hw)
theorem HOk.but {P:Program}{w:World}{H:Hp}{h h':Heap}{C:Addr}(ok:HOk P w H h) (hn:H C=none) (hs:Heap.SameBut C h h'):HOk P w H h':=λ b ob e=>by
 refine (ok b ob e).stay (λ c w' hc q=>(hs.2 c ?_).trans q) (λ _ q=>q) λ _ _ q=>q
 rintro rfl
 rcases hc with rfl|hc
 ·rw [hn] at e;cases e
 ·rw [hn] at hc;cases hc
theorem Un.but {fs ex:List Addr}{H H':Hp}{h h1 h2:Heap}{C:Addr}(u:Un fs ex H H' h h1) (hs:Heap.SameBut C h1 h2) (hC:∀ b o,h.get? b=some o->b ≠ C):Un fs ex H H' h h2 where
 keep:=λ b o e n hb hx=>(hs.2 b (hC b o e)).trans (u.keep b o e n hb hx)
 slot:=λ b o e n hb hx=>by
  obtain ⟨sl,q⟩:=u.slot b o e n hb hx
  exact ⟨sl,(hs.2 b (hC b o e)).trans q⟩
 free:=u.free
 there:=λ b o e hx=>by
  obtain ⟨o',q⟩:=u.there b o e hx
  exact ⟨o',(hs.2 b (hC b o e)).trans q⟩
 tups:=u.tups
 frzs:=u.frzs
 tbls:=u.tbls
section
variable {X:Cx}
def tComp (k:Nat) (wi:TI) (g:TG) (tt:TT) (te:TE):TE:=λ σ H Q=>wi σ H λ J H1=>∀ D,H1 D=none->∃ W:Nat->Nat->List V->Hp->Prop,(∃ m,W 0 m [] (upd H1 D (.lst [])))/\∀ i m ys H,W i m ys H →
 (J.stop i H/\Q (.ref D) H)\/(J.go i H/\∃ N:List V->Hp->Prop,(∀ ys' H',N ys' H'->∃ m',m' < m/\W (i+1) m' ys' H') /\
  ∀ x H',J.yld i H x H'->g x (List.replicate k none++σ) H' λ σ2 H2=>(∃ vs:St,vs.length=k/\σ2=vs++σ)/\tt σ2 H2 λ b H3=>if b=true then te σ2 H3 λ y H4=>H4 D=some (.lst ys)/\ys.length < sizeLine/\N (ys++[y]) (upd H4 D (.lst (ys++[y]))) else N ys H3)
theorem comp_loop {Y:Cx}{tg elt iter:Expr}{ifs:List Expr}{scope:Scope}{pos:Pos}{it D:Addr}{g:TG}{tt:TT}{te:TE}{J:It}{fp:List Addr}{tn:Nat->Heap->Prop}{k:Nat}{σ:St}{Q:VK}
  (hc:Y.calm=true) (hx:Y.xe=λ _ _=>False) (hg:PG Y tg g) (ht:PTs Y ifs tt) (he:PE Y elt te) (T:Turn Y.prog Y.w Y.K tg J fp it tn) (hf:∀ H:Hp,(∀ b∈fp,H b=none)->∀ b∈fp,FpOk Y [] H b)
  (W:Nat->Nat->List V->Hp->Prop)
  (turn:∀ i m ys H,W i m ys H->(J.stop i H/\Q (.ref D) H)\/(J.go i H/\∃ N:List V->Hp->Prop,(∀ ys' H',N ys' H'->∃ m',m' < m/\W (i+1) m' ys' H') /\
   ∀ x H',J.yld i H x H'->g x (List.replicate k none++σ) H' λ σ2 H2=>(∃ vs:St,vs.length=k/\σ2=vs++σ)/\tt σ2 H2 λ b H3=>if b=true then te σ2 H3 λ y H4=>H4 D=some (.lst ys)/\ys.length < sizeLine/\N (ys++[y]) (upd H4 D (.lst (ys++[y]))) else N ys H3))
  (n:Nat) (s:Shared) (h:∃ i ys H,Inv Y [] (List.replicate k none++σ) H s/\tn i s.heap/\(∀ b∈fp,H b=none)/\W i n ys H) :
  codeAny (model Y.prog Y.w) Y.A (.compLoop (.ListComp elt [⟨tg,iter,ifs,0⟩] scope pos) 0 (.ref it) (.ref D) Y.env) (λ r s'=>r=.ok .next/\∃ H',Inv Y [] (List.replicate k none++σ) H' s'/\Q (.ref D) H') s:=by
 refine codeAny_loop rfl (λ n s=>∃ i ys H,Inv Y [] (List.replicate k none++σ) H s/\tn i s.heap/\(∀ b∈fp,H b=none)/\W i n ys H) ?_ n h
 rintro n s3 ⟨i,ys,H3,I3,st3,fr3,w3⟩
 show wpAny _ Y.A ((compTurn (.ListComp elt [⟨tg,iter,ifs,0⟩] scope pos) 0 (.ref it) (.ref D) Y.env).onRaise (λ x=>do noteFrame x Y.env;theTreesLotGoes x)) _ _ s3
 refine PySem.wpAny_noted ?_
 rw [PySem.compTurn_list]
 have no:∀ {α:Type} {m:Sem α} {P:α->Shared->Prop} {E:Value->Shared->Prop} {s:Shared},wpAny (model Y.prog Y.w) Y.A m P Y.xe s->wpAny (model Y.prog Y.w) Y.A m P E s:=λ {α m P E s} h=>
  wpAny_mono h (λ _ _ q=>q) λ _ _ q=>by rw [hx] at q;exact q.elim
 refine wpAny_bind (wpAny_standAt (wpAny_bind ?_))
 rcases turn i n ys H3 w3 with ⟨stop,qn⟩|⟨go,N,hN,step⟩
 ·refine thn (T.done Y rfl rfl rfl hc i [] s3 (List.replicate k none++σ) H3 _ I3 (hf H3 fr3) st3 stop) λ r s4 ⟨hr,I4⟩=>?_
  subst hr
  exact wpAny_pure ⟨rfl,H3,I4,qn⟩
 ·refine thn (T.item Y rfl rfl rfl hc i [] s3 (List.replicate k none++σ) H3 _ I3 (hf H3 fr3) st3 go) λ r s4 ⟨u,hr,h4⟩=>?_
  subst hr
  refine wpAny_bind (thn h4 λ _ s5 ⟨x,H5,I5,r5,y5,st5,fr5⟩=>?_)
  have I5':=I5.pinned (hf H5 fr5) (T.obj _ _ st5)
  refine wpAny_bind (no (thn (hg _ s5 (List.replicate k none++σ) H5 x u _ I5' r5 (step x H5 y5)) λ _ s6 ⟨σ6,H6,I6,⟨vs,hvs,e6⟩,q6⟩=>?_))
  subst e6
  have forget:∀ {pins:List (Addr × Obj)} {H:Hp} {s:Shared},Inv Y pins (vs++σ) H s->Inv Y pins (List.replicate k none++σ) H s:=λ {pins H s} I=>I.weak (by simp [hvs]) λ i v e=>by
   by_cases hi:i < k
   ·rw [List.getElem?_append_left (by simpa using hi)] at e
    simp [List.getElem?_replicate,hi] at e
   ·rw [List.getElem?_append_right (by simpa using Nat.le_of_not_lt hi)] at e
    rw [List.getElem?_append_right (by omega)]
    simpa [hvs] using e
  refine wpAny_bind (no (thn (ht _ s6 (vs++σ) H6 _ I6 q6) λ b s7 ⟨H7,I7,q7⟩=>?_))
  have again:∀ {H8:Hp} {s8:Shared} {ys':List V},Inv Y ([]++pinsAt fp s5.heap) (vs++σ) H8 s8->N ys' H8->∃ m,m < n/\∃ i ys H,Inv Y [] (List.replicate k none++σ) H s8/\tn i s8.heap/\(∀ b∈fp,H b=none)/\W i m ys H:=λ {H8 s8 ys'} I8 n8=>by
   obtain ⟨m',hm,w8⟩:=hN ys' H8 n8
   refine ⟨m',hm,i+1,ys',H8,forget I8.unpinned,T.keep _ _ _ st5 λ b hb o e=>(I8.pin (b,o) (List.mem_append_right _ (List.mem_append_right _ (mem_pinsAt hb e)))).1,λ b hb=>?_,w8⟩
   obtain ⟨o,e,d⟩:=T.obj _ _ st5 b hb
   exact (I8.pin (b,o) (List.mem_append_right _ (List.mem_append_right _ (mem_pinsAt hb e)))).2.1
  cases b with
  | false=>
   rw [if_neg Bool.false_ne_true] at q7
   exact wpAny_pure ⟨rfl,again I7 q7⟩
  | true=>
   rw [if_pos rfl] at q7
   refine wpAny_bind (wpAny_bind (no (thn (he _ s7 (vs++σ) H7 _ I7 q7) λ y s8 ⟨y',H8,I8,ry,q8,l8,n8⟩=>?_)))
   exact wpAny_bind (no (thn (mt_append _ s8 (vs++σ) H8 (.ref D) [y'] (.ref D) [y] (λ _ H'=>N (ys++[y']) H') I8 rfl (.cons ry .nil) ⟨D,ys,y',rfl,rfl,q8,l8,n8⟩) λ _ s9 ⟨_,H9,I9,_,q9⟩=>wpAny_pure (wpAny_pure ⟨rfl,again I9 q9⟩)))
structure CompOk (X:Cx) (scope:Scope) (N':List Str) (k:Nat):Prop where
 cell:∀ y∈scope.names,y.2 ≠ .cell
 kind:scope.kind=.function
 names:∀ y∈scope.names,y.2=.local->scope.names.lookup y.1=some .local
 free:∀ y∈scope.names,y.2=.free->X.env.scope.names.lookup y.1=some .cell
 len:N'.length=k+X.N.length
 sub:∀ i x,N'[k+i]? = some x->scope.names.lookup x=some .free->X.N[i]? = some x
 loc:∀ i x,N'[k+i]? = some x->scope.names.lookup x ≠ some .local
theorem CompOk.cells {scope:Scope}{N':List Str}{k:Nat}{pins:List (Addr × Obj)}{σ:St}{H:Hp}{s:Shared}(c:CompOk X scope N' k) (I:Inv X pins σ H s):∀ y∈scope.names,y.2=.free->∃ a,X.env.cells.lookup y.1=some a:=λ y hy e=>
 I.ok.has y.1 (.inl (c.free y hy e))
theorem inv_comp {scope:Scope}{N':List Str}{k:Nat}{pins:List (Addr × Obj)}{σ:St}{H:Hp}{s s₄:Shared}{fp:List Addr}{m:Str->Option Value}(c:CompOk X scope N' k) (hc:X.calm=true) (I:Inv X pins σ H s)
  (hf:∀ b∈fp,FpOk X pins H b) (hfl:∀ b∈fp,b < s.heap.objs.size) (hb:∀ b∈fp,X.base.get? b=none) (hns:s₄.heap.Ns s.heap.objs.size m) (hk:∀ b o,s.heap.get? b=some o->s₄.heap.get? b=some o) (ho:s₄.os=s.os) (hg:s₄.gens=s.gens) :
  Inv (cCx X scope N' s.heap.objs.size s H fp (X.pn++pins)) [] (List.replicate k none++σ) H s₄:=by
 have hcl:=c.cells I
 have sub:∀ x a,(clOf X.env.cells scope.names []).lookup x=some a->X.env.cells.lookup x=some a:=λ x a e=>by
  rcases clOf_sub hcl e with q|q
  ·simp at q
  ·exact q
 have kinds:∀ x,(compEnvC scope (clOf X.env.cells scope.names []) s.heap.objs.size X.env).kindOf x=some .cell\/(compEnvC scope (clOf X.env.cells scope.names []) s.heap.objs.size X.env).kindOf x=some .free->scope.names.lookup x=some .free:=λ x hx=>by
  have e:(compEnvC scope (clOf X.env.cells scope.names []) s.heap.objs.size X.env).kindOf x=(scope.names.lookup x).map λ k=>if (k == NameKind.free && X.env.scope.kind == .function && X.env.kindOf x == some .cell) then NameKind.cell else k:=lookup_relabel
  rw [e] at hx
  cases q:scope.names.lookup x with
  | none=>rw [q] at hx;simp at hx
  | some j=>
   rw [q] at hx
   have hj:j ≠ .cell:=c.cell (x,j) (lookup_mem q)
   cases j<;>simp_all
 have fresh:∀ b,s.heap.objs.size<=b->s.heap.get? b=none:=λ b hb=>Heap.get?_none_of_le hb
 have ne:∀ b o,s.heap.get? b=some o->b ≠ s.heap.objs.size:=λ b o e=>Nat.ne_of_lt (Heap.lt_size e)
 have cl_lt:∀ x a,X.env.cells.lookup x=some a->a < s.heap.objs.size:=λ x a e=>by
  obtain ⟨v,o,h1,_⟩:=I.cell x a e
  exact Heap.lt_size h1
 refine ⟨⟨I.ok.mod,c.kind,I.ok.glob,I.ok.blt,Nat.le_refl _,λ x y a e1 e2=>I.ok.inj x y a (sub x a e1) (sub y a e2),λ x hx=>clOf_has hcl (kinds x hx),(λ _ _ z=>nomatch z),I.ok.hd,I.ok.frames,.inl rfl,λ b hb'=>⟨Nat.ne_of_lt (hfl b hb'),λ x a e=>(hf b hb').2.2.2.2.1 x a (sub x a e)⟩,
   I.bs,Nat.le_trans I.ok.bsz I.sz,(λ b o e hb'=>by rw [hb b hb'] at e;cases e),λ b hb' hz=>?_,I.stack,I.stkFree⟩,ho,by rw [hg];exact I.bare,Un.kept hk,⟨m,hns,λ i x v e1 e2 e3=>?_⟩,λ x a e=>?_,I.hok.fresh (Nat.le_refl _),λ x a e=>I.freeC x a (sub x a e),λ p hp=>?_,I.hok.kept hk,?_⟩
 ·rcases List.mem_cons.mp (I.stkSub b hz) with z|z
  ·exact (hf b hb').2.1 z
  ·exact (hf b hb').2.2.1 z
 ·have hi:k<=i:=by
   refine Nat.le_of_not_lt λ hi=>?_
   rw [List.getElem?_append_left (by simpa using hi)] at e2
   simp [List.getElem?_replicate,hi] at e2
  obtain ⟨j,rfl⟩:∃ j,i=k+j:=⟨i - k,by omega⟩
  rw [List.getElem?_append_right (by simp)] at e2
  have e2':σ[j]? = some (some v):=by simpa using e2
  have e:(relabel scope X.env).names.lookup x=(scope.names.lookup x).map λ k=>if (k == NameKind.free && X.env.scope.kind == .function && X.env.kindOf x == some .cell) then NameKind.cell else k:=lookup_relabel
  have hfree:scope.names.lookup x=some .free:=by
   cases q:scope.names.lookup x with
   | none=>
    rcases e3 with z|z|z
    all_goals (have z':(relabel scope X.env).names.lookup x=some _:=z;rw [e,q] at z';simp at z')
   | some j'=>
    have h1:j' ≠ .cell:=c.cell (x,j') (lookup_mem q)
    have h2:j' ≠ .local:=λ z=>c.loc j x e1 (by rw [q,z])
    rcases e3 with z|z|z
    all_goals (have z':(relabel scope X.env).names.lookup x=some _:=z;rw [e,q] at z';cases j'<;>simp_all)
  have hX:=c.sub j x e1 hfree
  have hcellX:=c.free (x,.free) (lookup_mem hfree) rfl
  obtain ⟨m0,hn0,hl0⟩:=I.loc
  obtain ⟨u,r,l⟩:=hl0 j x v hX e2' (.inr (.inl hcellX))
  refine ⟨u,r,?_⟩
  rcases l with ⟨z,_⟩|⟨_,a,ea,hz⟩
  ·have z':X.env.scope.names.lookup x=some .local:=z
   rw [hcellX] at z';cases z'
  ·obtain ⟨a',ea'⟩:=clOf_has (acc:=[]) hcl hfree
   have e4:=sub x a' ea'
   rw [ea] at e4
   cases e4
   refine .inr ⟨.inl ?_,a,ea',?_⟩
   ·show (relabel scope X.env).names.lookup x=some .cell
    rw [e,hfree]
    have k1:(X.env.scope.kind == .function)=true:=by rw [I.ok.kind];rfl
    have k2:(X.env.kindOf x == some .cell)=true:=by
     have:X.env.kindOf x=some .cell:=hcellX
     rw [this];rfl
    simp [k1,k2]
   ·obtain ⟨o,h1,h2⟩:=hz
    exact ⟨o,hk _ _ h1,h2⟩
 ·obtain ⟨v,o,h1,h2⟩:=I.cell x a (sub x a e)
  exact ⟨v,o,hk _ _ h1,h2⟩
 ·have hp':p∈X.pn++pins:=by simpa using hp
  obtain ⟨e,n,nl,nf,d⟩:=I.pin p hp'
  refine ⟨hk _ _ e,n,ne _ _ e,λ z=>?_,d⟩
  rcases List.mem_cons.mp (I.stkSub _ z) with z|z
  ·exact nl z
  ·exact nf z
 ·show (List.replicate k none++σ).length=N'.length
  rw [c.len,List.length_append,List.length_replicate,I.len]
theorem comp_block {elt iter tg:Expr}{ifs:List Expr}{scope:Scope}{pos:Pos}{g:TG}{tt:TT}{te:TE}{N':List Str}{k:Nat}{it:Addr}{J:It}{fp:List Addr}{tn:Nat->Heap->Prop}{pins:List (Addr × Obj)}{σ:St}{H:Hp}{s:Shared}{Q:VK}{RR:Value->Addr->Result->Shared->Prop}{E:Value->Shared->Prop}
  (c:CompOk X scope N' k) (hc:X.calm=true) (I:Inv X pins σ H s) (T:Turn X.prog X.w X.K tg J fp it tn) (st:tn 0 s.heap) (hf:∀ b∈fp,FpOk X pins H b)
  (hg:∀ C s₀ H₀ ex pn,PG (cCx X scope N' C s₀ H₀ ex pn) tg g) (ht:∀ C s₀ H₀ ex pn,PTs (cCx X scope N' C s₀ H₀ ex pn) ifs tt) (he:∀ C s₀ H₀ ex pn,PE (cCx X scope N' C s₀ H₀ ex pn) elt te)
  (h:∀ D,H D=none->∃ W:Nat->Nat->List V->Hp->Prop,(∃ m,W 0 m [] (upd H D (.lst [])))/\∀ i m ys H,W i m ys H →
   (J.stop i H/\Q (.ref D) H)\/(J.go i H/\∃ N:List V->Hp->Prop,(∀ ys' H',N ys' H'->∃ m',m' < m/\W (i+1) m' ys' H') /\
    ∀ x H',J.yld i H x H'->g x (List.replicate k none++σ) H' λ σ2 H2=>(∃ vs:St,vs.length=k/\σ2=vs++σ)/\tt σ2 H2 λ b H3=>if b=true then te σ2 H3 λ y H4=>H4 D=some (.lst ys)/\ys.length < sizeLine/\N (ys++[y]) (upd H4 D (.lst (ys++[y]))) else N ys H3))
  (fin:∀ D C s' H' m,s'.heap.Ns C m->C ≠ X.env.locals->(∀ x a,X.env.cells.lookup x=some a->a ≠ C)->(H' C=none/\X.s₀.heap.objs.size<=C/\∀ p∈X.pn++pins,p.1 ≠ C)->(∀ h',Heap.SameBut C s'.heap h'->Inv X pins σ H' { s' with heap:=h' })->Q (.ref D) H'->RR (.ref D) C (.ok .next) s') :
  wpAny (model X.prog X.w) X.A (newList []) (λ acc s₃=>wpAny (model X.prog X.w) X.A (newFunctionEnv scope X.env.globals (clOf X.env.cells scope.names []) [] X.env.qual none .none (some X.env)) (λ cenv s₄=>
   codeAny (model X.prog X.w) X.A (.compStart (.ListComp elt [⟨tg,iter,ifs,0⟩] scope pos) 0 (.ref it) acc { cenv with scope:=relabel scope X.env }) (RR acc cenv.locals) s₄) E s₃) E s:=by
 refine wpAny_newObj_type (wpAny_newFunctionEnv c.cell (by intro y hy;simp at hy) (λ h₁ hns₁ hsb₁=>?_) c.kind)
 dsimp only at hns₁ hsb₁ ⊢
 have I3:Inv X pins σ (upd H s.heap.objs.size (.lst [])) { s with heap:=s.heap.push { cls:=.type "list",data:=.seq ([]:List Value).toArray },toks:=s.toks }:=I.lnew (ys:=[]) (its:=[]) .nil (Nat.zero_le _)
 generalize hH2:s.heap.push { cls:=.type "list",dict:=none,data:=.seq ([]:List Value).toArray }=hp at hns₁ hsb₁ I3 ⊢
 have hlt:∀ b o,s.heap.get? b=some o->hp.get? b=some o:=λ b o e=>by rw [←hH2];exact Heap.get?_push_of_some _ e
 have hnD:H s.heap.objs.size=none:=I.hok.fresh (Nat.le_refl _)
 have kp:∀ b o,hp.get? b=some o->h₁.get? b=some o:=λ b o e=>hsb₁.extBut b o (Nat.ne_of_lt (Heap.lt_size e)) (Heap.get?_push_of_some _ e)
 have stk:∀ b∈fp,s.heap.get? b ≠ none:=λ b hb z=>by
  obtain ⟨o,e,_⟩:=T.obj _ _ st b hb
  rw [z] at e;cases e
 have flt:∀ b∈fp,b < s.heap.objs.size:=λ b hb=>by
  obtain ⟨o,e,_⟩:=T.obj _ _ st b hb
  exact Heap.lt_size e
 have fpD:∀ b∈fp,b ≠ s.heap.objs.size:=λ b hb=>Nat.ne_of_lt (flt b hb)
 have hf3:∀ b∈fp,FpOk X pins (upd H s.heap.objs.size (.lst [])) b:=λ b hb=>by
  obtain ⟨a1,a2⟩:=hf b hb
  exact ⟨by rw [upd_ne (fpD b hb)];exact a1,a2⟩
 have hnb:∀ b∈fp,X.base.get? b=none:=λ b hb=>by
  cases e:X.base.get? b with
  | none=>rfl
  | some o=>
   rcases (hf b hb).2.2.2.1 with z|z
   ·exact absurd z (I.ok.noex b o e)
   ·have:=Heap.lt_size (I.ok.bs b o e).1
    exact absurd (Nat.lt_of_lt_of_le this z) (Nat.lt_irrefl _)
 have hsz:s.heap.objs.size < hp.objs.size:=by rw [←hH2,Heap.size_push];exact Nat.lt_succ_self _
 have IY:=inv_comp (s₄:={ s with heap:=h₁,toks:=s.toks+([]:List (Str × Value)).length }) (fp:=fp) c hc I3 hf3 (λ b hb=>Nat.lt_trans (flt b hb) hsz) hnb hns₁ kp rfl rfl
 obtain ⟨W,⟨m0,w0⟩,turn⟩:=h s.heap.objs.size hnD
 have run:=comp_loop (Y:=cCx X scope N' hp.objs.size { s with heap:=hp,toks:=s.toks } (upd H s.heap.objs.size (.lst [])) fp (X.pn++pins)) (tg:=tg) (elt:=elt) (iter:=iter) (ifs:=ifs) (scope:=scope) (pos:=pos) (it:=it) (D:=s.heap.objs.size) (k:=k) (σ:=σ) (Q:=Q)
  hc rfl (hg _ _ _ _ _) (ht _ _ _ _ _) (he _ _ _ _ _) T (λ H' hn b hb=>⟨hn b hb,Nat.ne_of_lt (Nat.lt_trans (flt b hb) hsz),λ z=>(IY.ok.exfs b hb) z,.inl hb,λ x a e=>(IY.ok.exf b hb).2 x a e,λ p hp=>by
   have hp':p∈X.pn++pins:=by simpa using hp
   exact (hf b hb).2.2.2.2.2 p hp'⟩) W turn m0
 have st₁:tn 0 h₁:=T.keep _ _ _ st λ b hb o e=>kp b o (hlt b o e)
 have go:=run { s with heap:=h₁,toks:=s.toks+([]:List (Str × Value)).length } ⟨0,[],_,IY,st₁,λ b hb=>(hf3 b hb).1,w0⟩
 have out:∀ r s',(r=Except.ok Flow.next/\∃ H',Inv (cCx X scope N' hp.objs.size { s with heap:=hp,toks:=s.toks } (upd H s.heap.objs.size (.lst [])) fp (X.pn++pins)) [] (List.replicate k none++σ) H' s'/\Q (.ref s.heap.objs.size) H')->RR (.ref s.heap.objs.size) hp.objs.size r s':=by
  rintro r s' ⟨rfl,H',J',q⟩
  obtain ⟨m,hn,_⟩:=J'.loc
  have hC:hp.objs.size ≠ X.env.locals:=Nat.ne_of_gt (Nat.lt_of_lt_of_le I.lt (Nat.le_of_lt hsz))
  refine fin _ _ s' H' m hn hC (λ x a e=>?_) ⟨J'.free,Nat.le_trans I.sz (Nat.le_of_lt hsz),λ p hp'=>Nat.ne_of_lt (Nat.lt_trans (Heap.lt_size (I.pin p hp').1) hsz)⟩ (λ h' hs'=>?_) q
  ·obtain ⟨v,o,h1,_⟩:=I.cell x a e
   exact Nat.ne_of_lt (Nat.lt_trans (Heap.lt_size h1) hsz)
  ·refine I.call' (ch:=fp) ?_ ?_ ?_ J'.bare λ b hb=>⟨(hf b hb).2.2.2.1,(hf b hb).2.1,(hf b hb).2.2.2.2.1,(hf b hb).2.2.2.2.2⟩
   ·exact J'.os
   ·have u1:Un (frs X.stack) fp H (upd H s.heap.objs.size (.lst [])) s.heap hp:=Un.laid hlt (Nat.le_refl _) hnD
    exact (u1.trans J'.base).but hs' λ b o e=>Nat.ne_of_lt (Nat.lt_trans (Heap.lt_size e) hsz)
   ·exact J'.hok.but J'.free hs'
 exact codeAny_compStart_list (codeAny_mono go out) (T.self _ 0 _ _ _ st₁ (codeAny_mono go out))
theorem pe_comp {elt iter tg:Expr}{ifs:List Expr}{scope:Scope}{pos:Pos}{wi:TI}{g:TG}{tt:TT}{te:TE}{N':List Str}{k:Nat}
  (c:CompOk X scope N' k) (hc:X.calm=true) (hi:PI X tg iter wi)
  (hg:∀ C s₀ H₀ ex pn,PG (cCx X scope N' C s₀ H₀ ex pn) tg g) (ht:∀ C s₀ H₀ ex pn,PTs (cCx X scope N' C s₀ H₀ ex pn) ifs tt) (he:∀ C s₀ H₀ ex pn,PE (cCx X scope N' C s₀ H₀ ex pn) elt te)
  (hs:∀ x,foldedSetIterable iter X.env x=pure x:=by intro _;rfl):PE X (.ListComp elt [⟨tg,iter,ifs,0⟩] scope pos) (tComp k wi g tt te):=by
 intro pins s σ H Q I h
 rw [PySem.eval_ListComp]
 refine PySem.wpAny_comprehension_free (use:=none) rfl hs (closureFor_eq (c.cells I)) c.kind c.names (thn (hi pins s σ H _ I h) λ v s1 h1=>thn h1 λ itv s2 h2=>?_)
 obtain ⟨it,fp,tn,J,H2,rfl,I2,T,st2,f2,hW⟩:=h2
 refine comp_block (RR:=λ acc C=>PySem.compPost (model X.prog X.w) X.A X.xe none (EP X pins σ Q) acc C) c hc I2 T st2 f2 hg ht he hW ?_
 intro D C s' H' m hn _ _ _ hI q
 exact ⟨m,hn,λ h' hs'=>⟨.ref D,H',hI h' hs',rfl,q⟩⟩
def tSetC (i:Nat) (te:TE):TS:=λ D σ H=>te σ H λ x H1=>D.nx (σ.set i (some x)) H1
theorem ps_setC {elt iter tg:Expr}{ifs:List Expr}{scope:Scope}{pos spos py:Pos}{wi:TI}{g:TG}{tt:TT}{te:TE}{N':List Str}{k i:Nat}{y:Str}
  (hN:X.N.Nodup) (hi':X.N[i]? = some y) (hy:Loc X.env.scope y)
  (c:CompOk X scope N' k) (hc:X.calm=true) (hi:PI X tg iter wi)
  (hg:∀ C s₀ H₀ ex pn,PG (cCx X scope N' C s₀ H₀ ex pn) tg g) (ht:∀ C s₀ H₀ ex pn,PTs (cCx X scope N' C s₀ H₀ ex pn) ifs tt) (he:∀ C s₀ H₀ ex pn,PE (cCx X scope N' C s₀ H₀ ex pn) elt te)
  (hsw:swapsWith (.ListComp elt [⟨tg,iter,ifs,0⟩] scope pos) (some (.Name y py)) spos.line X.env=pure true:=by rfl)
  (hs:∀ x,foldedSetIterable iter X.env x=pure x:=by intro _;rfl) (hf:X.fn y=true\/X.env.scope.names.lookup y=some .local:=by first|exact .inl rfl|exact .inr rfl|assumption) :
  PS X (.Assign [.Name y py] (.ListComp elt [⟨tg,iter,ifs,0⟩] scope pos) spos) (tSetC i (tComp k wi g tt te)):=by
 intro pins s σ H D I h
 rw [PySem.exec_Assign_Name_used _ _ _ _ hsw]
 refine wpAny_bind (wpAny_standAt (wpAny_bind ?_))
 show wpAny _ X.A (do let _ ←comprehension (.ListComp elt [⟨tg,iter,ifs,0⟩] scope pos) scope X.env _ (newList []) false (eval iter X.env) (some (assign (.Name y py) X.env))) _ _ s
 refine wpAny_bind (thn (PySem.wpAny_comprehension_free (use:=some (assign (.Name y py) X.env)) (Q:=λ _ s'=>SP X pins D .next s') rfl hs (closureFor_eq (c.cells I)) c.kind c.names (thn (hi pins s σ H _ I h) λ v s1 h1=>thn h1 λ itv s2 h2=>?_)) λ _ s' hq=>wpAny_pure (wpAny_pure hq))
 obtain ⟨it,fp,tn,J,H2,rfl,I2,T,st2,f2,hW⟩:=h2
 refine comp_block (Q:=λ x H1=>D.nx (σ.set i (some x)) H1) (RR:=λ acc C=>PySem.compPost (model X.prog X.w) X.A X.xe (some (assign (.Name y py) X.env)) (λ _ s'=>SP X pins D .next s') acc C) c hc I2 T st2 f2 hg ht he hW ?_
 intro D' C s' H' m hn hCl hCc hCo hI q
 show wpAny _ X.A (assign (.Name y py) X.env (.ref D')) _ _ s'
 have I':Inv X pins σ H' s':=hI s'.heap (Heap.SameBut.refl _ _)
 refine wpAny_assign_Name (store_ok2 I' hN hi' hy (show RelV (.ref D') (.ref D') from rfl) (λ s'' I'' ⟨a,sb,ha⟩=>?_) hf)
 have hCa:C ≠ a:=by
  rcases ha with rfl|ha
  ·exact hCl
  ·exact λ z=>hCc _ _ ha z.symm
 refine ⟨m,hn.sameBut sb hCa,λ h' hs'=>⟨_,H',?_,q⟩⟩
 exact I''.turned (t':=s''.toks) (λ b o hb e=>(hs'.2 b hb).trans e) hCo.1 hCl (.inr hCo.2.1) hCc hCo.2.2
end
end L2
set_option Elab.async false
set_option linter.all false
set_option maxRecDepth 100000
set_option maxHeartbeats 4000000
namespace L2
open PySem PySem.Spec PyProof.Rows
def ExcAt (h:Heap) (e:Addr) (cls:Value) (d:Option Addr) (T:Addr):Prop:=
 ∃ oe vs oT ts,h.get? e=some oe/\oe.cls=cls/\oe.dict=d/\oe.data=.fields vs/\vs[1]? = some (.ref T)/\T ≠ e/\h.get? T=some oT/\oT.data=.fields ts/\ts[3]? = some .none/\vs[2]? = some .none
def CX1 (P:Program) (w:World):CXT:=λ outer H s E ev s'=>∃ e T cls d H',ev=.ref e/\s'.os=s.os/\AllBare s'.gens/\Un (frs outer) [] H H' s.heap s'.heap/\HOk P w H' s'.heap /\
 s.heap.get? e=none/\s.heap.get? T=none/\H' e=none/\H' T=none/\ExcAt s'.heap e cls d T/\(∀ dx,d=some dx->∃ fs,H' dx=some (.xd fs))/\E cls d H'
theorem dict_mapF (f:Array Value->Array Value) (o:Obj):(Obj.mapFields f o).dict=o.dict:=by
 unfold Obj.mapFields;split<;>rfl
structure Noted (fs:List Addr) (e:Addr) (no:Addr->Prop) (h h':Heap):Prop where
 keep:∀ b o,b ≠ e->¬ no b->b ∉ fs->h.get? b=some o->h'.get? b=some o
 slot:∀ b o,b ≠ e->¬ no b->b∈fs->h.get? b=some o->∃ sl,h'.get? b=some { o with slots:=sl }
 size:h.objs.size<=h'.objs.size
section
variable {M:Model}{A:Around}{E:Value->Shared->Prop}{s:Shared}
theorem entry1 {base:Heap}{env:Env}{outer:List Env}{L e:Addr}{oe:Obj}{vs:Array Value}{head:Value}{hadNext:Bool}{Q:Unit->Shared->Prop}
  (hfr:A.frames=some (env::outer)) (hl:s.heap.FunFrames base (env::outer)) (hf:env.frame=some L) (he:s.heap.get? e=some oe) (hd:oe.data=.fields vs) (hsz:1 < vs.size) (h2c:vs[2]? = some .none)
  (hQ:∀ h',Noted (frs (env::outer)) e (λ _=>False) s.heap h'->(∃ T oe' vs' oT ts,s.heap.get? T=none/\h'.get? e=some oe'/\oe'.cls=oe.cls/\oe'.dict=oe.dict/\oe'.data=.fields vs'/\vs'[1]? = some (.ref T)/\T ≠ e/\h'.get? T=some oT/\oT.data=.fields ts/\ts[3]? = some (rawInt L)/\vs'[2]? = some .none)->Q () { s with heap:=h' }) :
  wpAny M A (do let a ←frameOf env;let pl ←entryPlaceOf L hadNext;let b ←EntryCells.newEntry head a .none (rawInt L) .none pl;setField (.ref e) 1 b) Q E s:=by
 have efr:e ∉ frs (env::outer):=λ z=>by
  obtain ⟨_,o,q1,q2⟩:=hl.mem z
  rw [he] at q1
  cases q1
  exact q2 vs hd
 refine wpAny_bind (wpAny_frameOf_fun hfr hl hf λ g1 sg=>?_)
 refine wpAny_bind (wpAny_entryPlaceOf λ pl ipl=>?_)
 unfold EntryCells.newEntry newFields
 refine wpAny_bind (wpAny_newObj_type ?_ (ipl.sizeOk5 _ _ _ _ _))
 have e1:g1.get? e=some oe:=(sg.2.1 e efr).trans he
 generalize hnew:({ cls:=.type "traceback",dict:=none,data:=.fields ([head,.ref L,.none,rawInt L,.none]++(if pl.isEmpty then List.replicate 6 Value.none else pl)).toArray }:Obj)=oN
 have dN:oN.data=.fields ([head,.ref L,.none,rawInt L,.none]++(if pl.isEmpty then List.replicate 6 Value.none else pl)).toArray:=by rw [←hnew]
 have e2:(g1.push oN).get? e=some oe:=Heap.get?_push_of_some _ e1
 refine wpAny_setField e2 hd hsz (hQ _ ?_ ?_)
 ·have other:∀ b o,b ≠ e->g1.get? b=some o->((g1.push oN).update e (Obj.mapFields (·.setIfInBounds 1 (Value.ref g1.objs.size)))).get? b=some o:=λ b o hb q=>by
   rw [Heap.get?_update_other _ _ (Ne.symm hb)]
   exact Heap.get?_push_of_some _ q
  refine ⟨λ b o hb _ hfs q=>other b o hb ((sg.2.1 b hfs).trans q),λ b o hb _ _ q=>?_,?_⟩
  ·obtain ⟨sl,q'⟩:=sg.2.2 b o q
   exact ⟨sl,other b _ hb q'⟩
  ·have z1:g1.objs.size=s.heap.objs.size:=sg.1
   have z2:=((Heap.SameBut.update (g1.push oN) e (Obj.mapFields (·.setIfInBounds 1 (Value.ref g1.objs.size))))).1
   rw [z2,Heap.size_push]
   omega
 ·have ne:g1.objs.size ≠ e:=Nat.ne_of_gt (Heap.lt_size e1)
  have d3:=Obj.data_mapFields hd (·.setIfInBounds 1 (Value.ref g1.objs.size))
  refine ⟨g1.objs.size,_,_,oN,_,?_,Heap.get?_update_self _ e2 (Obj.isFreed_of_fields d3),Obj.cls_mapFields _ _,dict_mapF _ _,d3,by simp [hsz],ne,?_,dN,by simp,by rw [Array.getElem?_setIfInBounds_ne (by decide)];exact h2c⟩
  ·have z1:g1.objs.size=s.heap.objs.size:=sg.1
   rw [z1]
   exact Heap.get?_none_of_le (Nat.le_refl _)
  ·rw [Heap.get?_update_other _ _ (Ne.symm ne)]
   exact Heap.get?_push_size _ (Obj.isFreed_of_fields dN)
theorem flight0 {e T:Addr}{oe oT:Obj}{vs ts:Array Value}{Q:Unit->Shared->Prop}(he:s.heap.get? e=some oe) (hd:oe.data=.fields vs) (h1:vs[1]? = some (.ref T)) (hT:s.heap.get? T=some oT) (hdT:oT.data=.fields ts) (h3:3 < ts.size) (ne:T ≠ e) (h2c:vs[2]? = some .none)
  (hQ:∀ h',(∀ b,b ≠ T->h'.get? b=s.heap.get? b)->h'.objs.size=s.heap.objs.size->ExcAt h' e oe.cls oe.dict T->Q () { s with heap:=h' }):wpAny M A (setFlight (.ref e) none) Q E s:=by
 unfold setFlight
 refine wpAny_bind (wpAny_field he hd h1 ?_)
 rw [if_pos (show (Value.ref T != Value.none)=true from by simp)]
 have sb:=Heap.SameBut.update s.heap T (Obj.mapFields (·.setIfInBounds 3 ((none:Option Addr).elim Value.none λ f=>rawInt f)))
 refine wpAny_setField hT hdT h3 (hQ _ sb.2 sb.1 ?_)
 have d3:=Obj.data_mapFields hdT (·.setIfInBounds 3 ((none:Option Addr).elim Value.none λ f=>rawInt f))
 exact ⟨oe,vs,_,_,(sb.2 e (Ne.symm ne)).trans he,rfl,rfl,hd,h1,ne,Heap.get?_update_self _ hT (Obj.isFreed_of_fields d3),d3,by simp [h3],h2c⟩
theorem note_new {base:Heap}{env:Env}{outer:List Env}{L e:Addr}{oe:Obj}{vs:Array Value}{Q:Unit->Shared->Prop}
  (hfr:A.frames=some (env::outer)) (hl:s.heap.FunFrames base (env::outer)) (hf:env.frame=some L) (he:s.heap.get? e=some oe) (hd:oe.data=.fields vs) (h1:vs[1]? = some .none) (h2c:vs[2]? = some .none)
  (hQ:∀ h' T,Noted (frs (env::outer)) e (λ _=>False) s.heap h'->s.heap.get? T=none->ExcAt h' e oe.cls oe.dict T->Q () { s with heap:=h' }) :
  wpAny M A (noteFrame (.ref e) env) (λ _ s2=>wpAny M A (setFlight (.ref e) none) Q E s2) E s:=by
 unfold noteFrame
 simp only [hf]
 refine wpAny_bind (wpAny_field he hd h1 ?_)
 rw [if_neg (by decide)]
 refine entry1 hfr hl hf he hd (Array.getElem?_eq_some_iff.mp h1).1 h2c λ g ng hx=>?_
 obtain ⟨T,oe',vs',oT,ts,nT,q1,q2,q2d,q3,q4,ne,q5,q6,q7,q8⟩:=hx
 refine flight0 (s:={ s with heap:=g }) q1 q3 q4 q5 q6 (Array.getElem?_eq_some_iff.mp q7).1 ne q8 λ g' sb sz ex=>?_
 rw [q2,q2d] at ex
 have lt:∀ b o,s.heap.get? b=some o->b ≠ T:=λ b o q z=>by rw [z,nT] at q;cases q
 exact hQ g' T ⟨λ b o hb hn hfs q=>(sb b (lt b o q)).trans (ng.keep b o hb hn hfs q),λ b o hb hn hfs q=>by
  obtain ⟨sl,q'⟩:=ng.slot b o hb hn hfs q
  exact ⟨sl,(sb b (lt b o q)).trans q'⟩,Nat.le_trans ng.size (Nat.le_of_eq sz.symm)⟩ nT ex
theorem note_next {base:Heap}{env:Env}{outer:List Env}{L e T:Addr}{cls:Value}{dd:Option Addr}{Q:Unit->Shared->Prop}
  (hfr:A.frames=some (env::outer)) (hl:s.heap.FunFrames base (env::outer)) (hf:env.frame=some L) (hx:ExcAt s.heap e cls dd T) (hfe:e ∉ frs (env::outer)) (hfT:T ∉ frs (env::outer)) (hb:base.get? T=none)
  (hQ:∀ h' T',Noted (frs (env::outer)) e (λ b=>b=T) s.heap h'->s.heap.get? T'=none->ExcAt h' e cls dd T'->Q () { s with heap:=h' }) :
  wpAny M A (noteFrame (.ref e) env) (λ _ s2=>wpAny M A (setFlight (.ref e) none) Q E s2) E s:=by
 obtain ⟨oe,vs,oT,ts,he,rfl,rfl,hd,h1,ne,hT,hdT,h3,h2c⟩:=hx
 unfold noteFrame
 simp only [hf]
 refine wpAny_bind (wpAny_field he hd h1 ?_)
 rw [if_pos (show (Value.ref T != Value.none)=true from by simp)]
 refine wpAny_bind (wpAny_field hT hdT h3 ?_)
 rw [if_neg (show ¬ ((Value.none == rawInt L)=true) from by simp [rawInt])]
 have sb0:=Heap.SameBut.update s.heap T (Obj.mapFields (·.setIfInBounds 3 Value.none))
 refine wpAny_bind (wpAny_setField hT hdT (Array.getElem?_eq_some_iff.mp h3).1 ?_)
 generalize hg0:s.heap.update T (Obj.mapFields (·.setIfInBounds 3 Value.none))=g0 at sb0
 have fl:g0.FunFrames base (env::outer):=hl.of_keeps λ b o q hnf=>⟨o,(sb0.2 b (λ z=>by rw [z,hT] at q;cases q;exact hnf ts hdT)).trans q,rfl⟩
 have he0:g0.get? e=some oe:=(sb0.2 e (Ne.symm ne)).trans he
 refine entry1 (s:={ s with heap:=g0 }) hfr fl hf he0 hd (Array.getElem?_eq_some_iff.mp h1).1 h2c λ g ng hx=>?_
 obtain ⟨T',oe',vs',oT',ts',nT,q1,q2,q2d,q3,q4,ne',q5,q6,q7,q8⟩:=hx
 refine flight0 (s:={ s with heap:=g }) q1 q3 q4 q5 q6 (Array.getElem?_eq_some_iff.mp q7).1 ne' q8 λ g' sb sz ex=>?_
 rw [q2,q2d] at ex
 have tT:T ≠ T':=λ z=>by
  subst z
  have:=Heap.get?_update_self (Obj.mapFields (·.setIfInBounds 3 Value.none)) hT (Obj.isFreed_of_fields (Obj.data_mapFields hdT _))
  rw [hg0] at this
  have nT':g0.get? T=none:=nT
  rw [this] at nT'
  cases nT'
 have nT0:s.heap.get? T'=none:=(sb0.2 T' (Ne.symm tT)).symm.trans nT
 have lt:∀ b o,s.heap.get? b=some o->b ≠ T':=λ b o q z=>by rw [z,nT0] at q;cases q
 exact hQ g' T' ⟨λ b o hb hn hfs q=>(sb b (lt b o q)).trans (ng.keep b o hb (λ z=>z) hfs ((sb0.2 b hn).trans q)),λ b o hb hn hfs q=>by
  obtain ⟨sl,q'⟩:=ng.slot b o hb (λ z=>z) hfs ((sb0.2 b hn).trans q)
  exact ⟨sl,(sb b (lt b o q)).trans q'⟩,Nat.le_trans (Nat.le_of_eq sb0.1.symm) (Nat.le_trans ng.size (Nat.le_of_eq sz.symm))⟩ nT0 ex
end
theorem HOk.noted {P:Program}{w:World}{H:Hp}{h h':Heap}{fs:List Addr}{e:Addr}{no:Addr->Prop}(ok:HOk P w H h) (n:Noted fs e no h h') (he:H e=none) (hn:∀ b,no b->H b=none) (hf:∀ b∈fs,H b=none):HOk P w H h':=λ b ob q=>by
 refine (ok b ob q).stay (λ c v hc r=>n.keep c v ?_ ?_ ?_ r) (λ _ z=>z) λ _ _ z=>z
 all_goals
  rcases hc with z|z
  all_goals intro k
 ·rw [←z,k,he] at q;cases q
 ·rw [k,he] at z;cases z
 ·rw [←z,hn _ k] at q;cases q
 ·rw [hn _ k] at z;cases z
 ·rw [←z,hf _ k] at q;cases q
 ·rw [hf _ k] at z;cases z
theorem Un.noted {fs fs':List Addr}{H H':Hp}{h h1 h2:Heap}{e:Addr}{no:Addr->Prop}(u:Un fs [] H H' h h1) (n:Noted fs' e no h1 h2) (he:h.get? e=none) (hn:∀ b,no b->h.get? b=none) (hs:∀ b∈fs',b∈fs\/h.get? b=none):Un fs [] H H' h h2:=by
 have ne:∀ b o,h.get? b=some o->b ≠ e/\¬ no b:=λ b o q=>⟨λ z=>(by rw [z,he] at q;cases q),λ z=>(by rw [hn b z] at q;cases q)⟩
 have nf:∀ b o,h.get? b=some o->b ∉ fs->b ∉ fs':=λ b o q hb z=>by
  rcases hs b z with k|k
  ·exact hb k
  ·rw [k] at q;cases q
 refine ⟨λ b o q a hb hx=>n.keep b o (ne b o q).1 (ne b o q).2 (nf b o q hb) (u.keep b o q a hb hx),λ b o q a hb hx=>?_,u.free,λ b o q hx=>?_,u.tups,u.frzs,u.tbls⟩
 ·obtain ⟨sl,r⟩:=u.slot b o q a hb hx
  by_cases hb':b∈fs'
  ·obtain ⟨sl',r'⟩:=n.slot b _ (ne b o q).1 (ne b o q).2 hb' r
   exact ⟨sl',r'⟩
  ·exact ⟨sl,n.keep b _ (ne b o q).1 (ne b o q).2 hb' r⟩
 ·obtain ⟨o',r⟩:=u.there b o q hx
  by_cases hb':b∈fs'
  ·obtain ⟨sl',r'⟩:=n.slot b _ (ne b o q).1 (ne b o q).2 hb' r
   exact ⟨_,r'⟩
  ·exact ⟨_,n.keep b _ (ne b o q).1 (ne b o q).2 hb' r⟩
def PassAt (CX:CXT) (X:Cx) (E:XK) (σ:St):Prop:=∀ (pins:List (Addr × Obj)) (H:Hp) (s:Shared) (e:Value) (s':Shared),Inv X pins σ H s->CX X.stack H s E e s'->X.xe e s'
theorem ObjOk.there {P:Program}{w:World}{H:Hp}{h:Heap}{a:Addr}{o:HO}(x:ObjOk P w H h a o):∃ ob,h.get? a=some ob:=by
 cases o with
 | lst xs=>obtain ⟨_,_,_,_,e⟩:=x;exact ⟨_,e⟩
 | tup xs=>obtain ⟨_,_,_,ob,e,_⟩:=x;exact ⟨ob,e⟩
 | dK kvs=>obtain ⟨_,_,_,_,ob,_,_,e,_⟩:=x;exact ⟨ob,e⟩
 | dT kvs=>obtain ⟨_,_,_,_,ob,_,_,e,_⟩:=x;exact ⟨ob,e⟩
 | set S n=>obtain ⟨ob,_,_,_,e,_⟩:=x;exact ⟨ob,e⟩
 | ins C dx fs=>obtain ⟨_,_,_,e,_⟩:=x;exact ⟨_,e⟩
 | own y=>exact x
 | xd fs=>obtain ⟨_,⟨ob,_,_,e,_⟩,_⟩:=x;exact ⟨ob,e⟩
 | rng lo hi=>obtain ⟨_,_,_,e⟩:=x;exact ⟨_,e⟩
 | frz ob u=>exact ⟨_,x.1⟩
 | tbl ps=>exact ⟨_,x⟩
 | met f y=>exact ⟨_,x⟩
 | ext φ=>exact x.2.1
theorem HOk.gone {P:Program}{w:World}{H:Hp}{h:Heap}{a:Addr}(ok:HOk P w H h) (e:h.get? a=none):H a=none:=by
 cases q:H a with
 | none=>rfl
 | some o=>
  obtain ⟨ob,z⟩:=(ok a o q).there
  rw [e] at z;cases z
theorem Un.gone {fs:List Addr}{H H':Hp}{h h1:Heap}{a:Addr}(u:Un fs [] H H' h h1) (e:h1.get? a=none):h.get? a=none:=by
 cases q:h.get? a with
 | none=>rfl
 | some o=>
  obtain ⟨o',z⟩:=u.there a o q (by simp)
  rw [e] at z;cases z
theorem passes_def {P:Program}{w:World}{K:W.Frag}{mg:Str->Option Value}{base:Heap}{N:List Str}{qual:Str}{scope:Scope}{f:Addr}{cd:Value}{A:Around}{outer:List Env}{s₀:Shared}{H₀:Hp}{E:XK} :
  Passes (CX1 P w) (cxOf (CX1 P w) P w K mg base N qual scope f cd A outer s₀ H₀ E) E:=by
 intro pins σ H s ev s' I hc
 obtain ⟨e,T,cls,dd,H',rfl,os,bare,un1,hok,ne,nT,He,HT,ex,hxd,hE⟩:=hc
 show wpAny (model P w) (A.deeper (envOfC qual scope s₀.heap.objs.size f cd)) (leaving (envOfC qual scope s₀.heap.objs.size f cd) (.ref e)) _ _ _
 unfold leaving
 have I2:Inv _ pins σ H' s':=I.call' (ch:=[]) os un1 hok bare (λ b z=>absurd z (by simp))
 have nf:∀ b,s.heap.get? b=none->b ∉ frs (envOfC qual scope s₀.heap.objs.size f cd::outer):=λ b hb z=>by
  obtain ⟨_,o,q,_⟩:=I.stack.mem z
  rw [hb] at q;cases q
 have nb:base.get? T=none:=by
  cases q:base.get? T with
  | none=>rfl
  | some o=>
   have:=I.bk T o q
   rw [nT] at this;cases this
 have fl:s'.heap.FunFrames base (envOfC qual scope s₀.heap.objs.size f cd::outer):=I2.stack
 refine wpAny_bind (note_next (base:=base) (outer:=outer) I.ok.frames fl rfl ex (nf e ne) (nf T nT) nb λ g T' ng nT' ex'=>?_)
 have un0:Un (frs outer) [] H₀ H s₀.heap s.heap:=I.base
 have un2:Un (frs outer) [] H₀ H' s₀.heap s'.heap:=I2.base
 refine ⟨e,T',cls,dd,H',rfl,I2.os,bare,un2.noted ng (un0.gone ne) (λ b z=>by rw [z];exact un0.gone nT) (λ b hb=>?_),hok.noted ng He (λ b z=>by rw [z];exact HT) I2.stkFree,un0.gone ne,un2.gone nT',He,hok.gone nT',ex',hxd,hE⟩
 rcases List.mem_cons.mp (I.stkSub b hb) with z|z
 ·exact .inr (by rw [z];exact Heap.get?_none_of_le (Nat.le_refl _))
 ·exact .inl z
section
variable {X:Cx}
def tCallX (sp:Sp) (dvs:List V) (E:St->XK) (t:TA):TE:=λ σ H Q=>t σ H λ vs H1=>sp (vs++dvs) H1 Q (E σ)
theorem pe_callX {CX:CXT}{k:Nat}{f:Addr}{fd:FuncData}{ps:List Str}{sp:Sp}{ds:List Value}{dvs:List V}{E:St->XK}{x:Str}{e:Expr}{es:List Expr}{t:TA}{p pos:Pos}
  (F:FnOk X.prog X.w X.K X.mg X.base CX k f fd ps sp) (hr:Room k X.A) (hg:Gl X x) (hm:X.mg x=some (.ref f)) (hk:W.keepIn X.K (.ref f)=true) (hb:Binds X.K fd ps ds) (hd:Vals dvs ds) (hx:∀ σ,PassAt CX X (E σ) σ)
  (ha:PA X (e::es) t) (hdb:(x == ("__debug__":Str))=false:=by decide) (he:starEach (e::es) X.env=(false,eval e X.env)::starEach es X.env:=by rfl) (hpl:(backTo pos (starEach es X.env)).any (·.1)=false:=by rfl) :
  PE X (.Call (.Name x p) (e::es) [] pos) (tCallX sp dvs E t):=by
 intro pins s σ H Q I h
 refine wpAny_Call_Name_kw (ld_glob I hg hm ?_ hdb)
 refine W.callWith_K (h₀:=X.base) I.ok.mod.kin hk (thn (ha pos pins s σ H _ I h) λ us s1 ⟨vs,H1,I1,r,q⟩=>⟨I1.kIn,?_⟩) he hpl
 have r2:Vals (vs++dvs) (us++ds):=r.append hd
 have hl:(us++ds).length=ps.length:=by rw [←r2.length];exact F.len _ _ _ _ q
 refine wpAny_call (codeAny_mono (F.run X.A X.stack s1 H1 ⟨us,[]⟩ (us++ds) (vs++dvs) Q (E σ) hr I1.env0 (hb s1 us I1.kIn hl) r2 q) λ rr s' hq=>?_)
 cases rr with
 | error ev=>exact hx σ pins H1 s1 ev s' I1 hq
 | ok fl=>
  cases fl with
  | ret u=>exact I1.after hq
  | next=>exact False.elim hq
  | brk=>exact False.elim hq
  | cont=>exact False.elim hq
set_option genInjectivity false in
structure ClsD where
 nm:Str
 q:Str
 N:Addr
 bs:List Value
 bm:List Value
 hdct:Bool
 sn:List Str
 sub:List Value
 ab:Bool
 col:Option Bool
 dd:Option Addr
 k0:Option Value
 k1:Option Value
 k2:Option Value
 k3:Option Value
 k5:Option Value
def ownIn0 (K:W.Frag) (C:Addr) (z:Option Value) (bmB:List Value) (newId:String):Bool:=match K.lookup C with
 | some ⟨.type "type",_,.cls dat,slt⟩=>(match dat.mro,slt.toList with
  | .ref C'::up,[_,_,_,_,some (.builtin n),_]=>C' == C && n == newId && !dat.hasDel && W.tailIn K bmB up && W.nsOkIn K dat.ns && W.nsIn K dat.ns "__init__" == some z
  | _,_=>false)
 | _=>false
theorem cls_op {K:W.Frag}{C:Addr}{z:Option Value}(q0:ownIn0 K C z [.type "ValueError",.type "Exception",.type "BaseException",.type "object"] "ValueError.__new__"=true) :
  ∃ c:ClsD,K.lookup C=some (excClassObj c.nm c.q C c.N c.bs c.bm c.hdct c.sn c.sub c.ab c.col c.dd c.k0 c.k1 c.k2 c.k3 c.k5 "ValueError.__new__")/\W.tailIn K [.type "ValueError",.type "Exception",.type "BaseException",.type "object"] c.bm=true/\W.nsOkIn K c.N=true/\W.nsIn K c.N "__init__"=some z:=by
 unfold ownIn0 at q0
 split at q0
 ·rename_i dd0 cdat slots0 look0
  split at q0
  ·rename_i Cx0 tl0 g0 g1 g2 g3 nw g5 em es0
   simp only [Bool.and_eq_true,beq_iff_eq,Bool.not_eq_true'] at q0<;>skip
   obtain ⟨⟨⟨⟨⟨rfl,rfl⟩,ndel⟩,tok⟩,nok⟩,noi⟩:=q0
   obtain ⟨c1,c2,c3,c4,c5,c6,c7,c8,c9,c10,c11⟩:=cdat
   dsimp only at em ndel nok noi
   subst em ndel
   obtain ⟨lst0⟩:=slots0
   have es1:lst0=[g0,g1,g2,g3,some (.builtin "ValueError.__new__"),g5]:=es0
   subst es1
   exact ⟨⟨c1,c5,c4,c2,tl0,c6,c7,c8,c9,c10,dd0,g0,g1,g2,g3,g5⟩,look0,tok,nok,noi⟩
  ·cases q0
 ·cases q0
abbrev Cx.mark (X:Cx) (e:Addr):Cx:={ X with A:=X.A.mark (some (.ref e)),calm:=false,xe:=λ _ _=>False }
theorem Inv.mark {pins:List (Addr × Obj)}{σ:St}{H:Hp}{s:Shared}(I:Inv X pins σ H s) (e:Addr):Inv (X.mark e) pins σ H s:=
 ⟨⟨I.ok.mod,I.ok.kind,I.ok.glob,I.ok.blt,I.ok.above,I.ok.inj,I.ok.has,I.ok.cab,(λ z=>by cases z),I.ok.frames,I.ok.stk,I.ok.exf,I.ok.bs,I.ok.bsz,I.ok.noex,I.ok.exfs,I.ok.funs,I.ok.frf⟩,I.os,I.bare,I.base,I.loc,I.cell,I.free,I.freeC,I.pin,I.hok,I.len⟩
theorem Inv.unmark {pins:List (Addr × Obj)}{σ:St}{H:Hp}{s:Shared}{e:Addr}(ok:X.Ok) (I:Inv (X.mark e) pins σ H s):Inv X pins σ H s:=
 ⟨ok,I.os,I.bare,I.base,I.loc,I.cell,I.free,I.freeC,I.pin,I.hok,I.len⟩
end
end L2
set_option Elab.async false
set_option linter.all false
set_option maxRecDepth 100000
set_option maxHeartbeats 4000000
namespace L2
open PySem PySem.Spec PyProof.Rows
structure FunX (K:W.Frag) (x qual:Str) (st:Stmt) (f:Addr) (fd:FuncData):Prop where
 ex:∃ (oc:Value) (od:Option Addr) (dV kV doc pm:Value) (an:Option Addr) (cdv ct:Value) (osl:Array (Option Value)),
  fd=W.fnOf x qual (defArgs st) (defBody st) (defScope st) dV kV doc pm an cdv ct/\K.lookup f=some ⟨oc,od,.func fd,osl⟩/\W.codeIn K cdv qual=true
 kp:W.keepIn K (.ref f)=true
section
variable {P:Program}{w:World}{K:PySem.W.Frag}{mg:Str->Option Value}{base:Heap}
theorem FunX.ok {CX:CXT}{x qual:Str}{st:Stmt}{f:Addr}{fd:FuncData}{N ps:List Str}{k:Nat}{sp:Sp}(F:FunX K x qual st f fd) (S:FnScope N ps (defScope st)) (len:∀ vs H Q E,sp vs H Q E->vs.length=ps.length)
  (hbody:∀ (cdv:Value) (A:Around) (outer:List Env) (s:Shared) (H:Hp) (vs:List V) (Q:VK) (E:XK),Room k (A.deeper (envOfC qual (defScope st) s.heap.objs.size f cdv))->sp vs H Q E →
   ∃ t,PSs (cxOf CX P w K mg base N qual (defScope st) f cdv A outer s H E) (defBody st) t/\t { nx:=λ _ H'=>Q .non H',rt:=Q } (start N vs) H):FnOk P w K mg base CX (k+1) f fd ps sp:=by
 obtain ⟨oc,od,dV,kV,doc,pm,an,cdv,ct,osl,rfl,lk,hcd⟩:=F.ex
 exact fn_of lk hcd S len λ A outer s H vs Q E hr hsp=>hbody cdv A outer s H vs Q E hr hsp
theorem funX_mk {x qual:Str}{st:Stmt}{f:Addr}{oc:Value}{od an:Option Addr}{osl:Array (Option Value)}{dV kV doc pm cdv ct:Value}(l:K.lookup f=some ⟨oc,od,.func (W.fnOf x qual (defArgs st) (defBody st) (defScope st) dV kV doc pm an cdv ct),osl⟩)
  (c:W.codeIn K cdv qual=true) (k:W.keepIn K (.ref f)=true):FunX K x qual st f (W.fnOf x qual (defArgs st) (defBody st) (defScope st) dV kV doc pm an cdv ct):=⟨⟨oc,od,dV,kV,doc,pm,an,cdv,ct,osl,rfl,l,c⟩,k⟩
theorem pass1 {P:Program}{w:World}{X:Cx}:Passes (CX1 P w) X E0:=λ _ _ _ _ _ _ _ h=>by
 obtain ⟨_,_,_,_,_,_,_,_,_,_,_,_,_,_,_,_,z⟩:=h
 exact z.elim
end
end L2
set_option Elab.async false
set_option linter.all false
set_option maxRecDepth 100000
set_option maxHeartbeats 4000000
namespace L2
open PySem PySem.Spec PyProof.Rows PySem.W
structure ECls (K:W.Frag) (C:Addr):Prop where
 ga:W.findIn K (.ref C) "__getattribute__"=some (some (.builtin "BaseException.__getattribute__"))
 no:W.findIn K (.ref C) "__getattr__"=some none
 mb:W.mroIn K C (.type "BaseException")=some true
 mo:W.mroIn K C (.type "object")=some true
 cl:W.findIn K (.ref C) "__class__"=some (some (.builtin "object.__class__"))
 sp:W.specialIn K (.builtin "object.__class__") "__get__"=some (some (.builtin "getset_descriptor.__get__"))
 tk:W.takesIn K (.builtin "object.__class__")=some true
 hd:W.hasDictIn K C=true
section
variable {prog:Program}{w:World}{A:Around}{E:Value->Shared->Prop}{s:Shared}{K:PySem.W.Frag}{x C:Addr}{ox:Obj}{od:Option Obj}{name:Str}
theorem exc_check {M:Model}{nameV:Value}{Q:Unit->Shared->Prop}(c:ECls K C) (X:K.In s.heap) (I:InstAt s.heap x ox C od) (hq:Q () s):wpAny M A (checkBuiltinCall "BaseException.__getattribute__" ⟨[.ref x,nameV],[]⟩) Q E s:=by
 have hk:builtinKind "BaseException.__getattribute__"=some .slot:=by decide +kernel
 have hsplit:splitId "BaseException.__getattribute__"=some ("BaseException", "__getattribute__"):=by decide +kernel
 have ha:=F.args_bexc_ga (.ref x) nameV
 have L0:=I.type (M:=M)
 have L1:=looks_mroIn (M:=M) X c.mb
 obtain ⟨hh,g,d,t,os⟩:=s
 simp only [checkBuiltinCall,hk,hsplit]
 have LI:Looks M hh (isInstance (.ref x) (.type "BaseException")) true:=L0.andThen L1
 refine wpAny_bind (LI.at ?_)
 first|exact hq|exact wpAny_pure hq|(simp only [Bool.not_true,Bool.false_eq_true,if_false];exact hq)
end
end L2
set_option Elab.async false
set_option linter.all false
set_option maxRecDepth 100000
set_option maxHeartbeats 4000000
namespace L2
open PySem PySem.Spec PyProof.Rows
def excO (oe:Obj):HO:=.frz oe (.ext λ _=>True)
structure NewAt (X:Cx) (pins:List (Addr × Obj)) (e:Addr):Prop where
 s0:X.s₀.heap.get? e=none
 loc:e ≠ X.env.locals
 cel:∀ x c,X.env.cells.lookup x=some c->c ≠ e
 fs:e ∉ X.fs
 pin:∀ p∈X.pn++pins,p.1 ≠ e
section
variable {X:Cx}
theorem NewAt.of {pins:List (Addr × Obj)}{σ:St}{H:Hp}{s:Shared}{e:Addr}(I:Inv X pins σ H s) (hx:X.ex=[]) (h:s.heap.get? e=none):NewAt X pins e where
 s0:=by
  cases q:X.s₀.heap.get? e with
  | none=>rfl
  | some o=>
   obtain ⟨o',z⟩:=I.base.there e o q (by rw [hx];simp)
   rw [h] at z;cases z
 loc:=λ z=>by
  obtain ⟨m,⟨o,_,_,q,_⟩,_⟩:=I.loc
  rw [←z,h] at q;cases q
 cel:=λ x c q z=>by
  obtain ⟨v,o,r,_⟩:=I.cell x c q
  rw [z,h] at r;cases r
 fs:=λ z=>by
  obtain ⟨_,o,q,_⟩:=I.funs.mem z
  rw [h] at q;cases q
 pin:=λ p hp z=>by
  have q:=(I.pin p hp).1
  rw [z,h] at q;cases q
theorem Inv.track {pins:List (Addr × Obj)}{σ:St}{H:Hp}{s:Shared}{e:Addr}{oe:Obj}(I:Inv X pins σ H s) (N:NewAt X pins e) (he:s.heap.get? e=some oe) (hn:H e=none):Inv X pins σ (upd H e (excO oe)) s:=by
 have ne:∀ {b:Addr} {o:HO},H b=some o->b ≠ e:=λ q z=>by rw [z,hn] at q;cases q
 refine ⟨I.ok,I.os,I.bare,⟨I.base.keep,I.base.slot,λ b o q n hx=>?_,I.base.there,λ b xs q=>?_,λ b o u q=>?_,λ b ps q=>?_⟩,I.loc,I.cell,?_,λ x c q=>?_,λ p hp=>?_,λ b o q=>?_,I.len⟩
 ·rw [upd_ne (λ z=>by rw [z,N.s0] at q;cases q)];exact I.base.free b o q n hx
 ·have z:=I.base.tups b xs q;rw [upd_ne (ne z)];exact z
 ·have z:=I.base.frzs b o u q;rw [upd_ne (ne z)];exact z
 ·obtain ⟨m,z⟩:=I.base.tbls b ps q;exact ⟨m,by rw [upd_ne (ne z)];exact z⟩
 ·rw [upd_ne (Ne.symm N.loc)];exact I.free
 ·rw [upd_ne (N.cel x c q)];exact I.freeC x c q
 ·obtain ⟨a,b,c,d,f⟩:=I.pin p hp
  exact ⟨a,by rw [upd_ne (N.pin p hp)];exact b,c,d,f⟩
 ·by_cases hb:b=e
  ·subst hb
   rw [upd_same] at q
   cases q
   exact ⟨he,trivial,⟨oe,he⟩,λ _ _ _ _=>trivial⟩
  ·rw [upd_ne hb] at q
   exact (I.hok b o q).stay (λ _ _ _ r=>r) (λ c r=>by rw [upd_ne (ne r)];exact r) λ c xs r=>by rw [upd_ne (ne r)];exact r
def PHs (X:Cx) (hs:List ExceptHandler) (th:Value->Option Addr->TS):Prop:=
 ∀ (pins:List (Addr × Obj)) (s:Shared) (σ:St) (H:Hp) (D:Ends) (e T:Addr) (cls:Value) (d:Option Addr),Inv X pins σ H s->NewAt X pins e->H e=none->ExcAt s.heap e cls d T->th cls d D σ H->wpAny (model X.prog X.w) X.A (handleBy (.ref e) X.env hs) (SP X pins D) X.xe s
theorem flight1 {M:Model}{A:Around}{E:Value->Shared->Prop}{s:Shared}{e T:Addr}{cls:Value}{d:Option Addr}{Q:Unit->Shared->Prop}(x:ExcAt s.heap e cls d T) (hQ:∀ h',(∀ b o,s.heap.get? b=some o->h'.get? b=some o)->Q () { s with heap:=h' }) :
  wpAny M A (setFlight (.ref e) none) Q E s:=by
 obtain ⟨oe,vs,oT,ts,he,rfl,rfl,hd,h1,ne,hT,hdT,h3,h2c⟩:=x
 unfold setFlight
 refine wpAny_bind (wpAny_field he hd h1 ?_)
 rw [if_pos (show (Value.ref T != Value.none)=true from by simp)]
 refine wpAny_setField hT hdT (Array.getElem?_eq_some_iff.mp h3).1 (hQ _ λ b o q=>?_)
 by_cases hb:b=T
 ·subst hb
  rw [hT] at q;cases q
  have same:Obj.mapFields (·.setIfInBounds 3 ((none:Option Addr).elim Value.none λ f=>rawInt f)) oT=oT:=by
   obtain ⟨c,d,dat,sl⟩:=oT
   cases hdT
   have e3:ts.setIfInBounds 3 ((none:Option Addr).elim Value.none λ f=>rawInt f)=ts:=by
    apply Array.ext_getElem?
    intro i
    by_cases hi:i=3
    ·subst hi
     obtain ⟨hlt,hv⟩:=Array.getElem?_eq_some_iff.mp h3
     simp [Array.getElem?_setIfInBounds,hlt,hv]
    ·rw [Array.getElem?_setIfInBounds_ne (Ne.symm hi)]
   show (⟨c,d,.fields (ts.setIfInBounds 3 ((none:Option Addr).elim Value.none λ f=>rawInt f)),sl⟩:Obj)=_
   rw [e3]
  have:=Heap.get?_update_self (Obj.mapFields (·.setIfInBounds 3 ((none:Option Addr).elim Value.none λ f=>rawInt f))) hT (Obj.isFreed_of_fields (Obj.data_mapFields hdT _))
  rw [same] at this
  exact this
 ·rw [Heap.get?_update_other _ _ (Ne.symm hb)]
  exact q
def tLost:Value->Option Addr->TS:=λ _ _ _ _ _=>False
theorem phs_nil:PHs X [] tLost:=λ _ _ _ _ _ _ _ _ _ _ _ _ _ h=>h.elim
theorem SP.unmark {pins:List (Addr × Obj)}{D:Ends}{f:Flow}{s2:Shared}{e:Addr}(ok:X.Ok) (q:SP (X.mark e) pins D f s2):SP X pins D f s2:=by
 cases f with
 | next=>obtain ⟨σ',H',J,q⟩:=q;exact ⟨σ',H',J.unmark ok,q⟩
 | brk=>obtain ⟨σ',H',J,q⟩:=q;exact ⟨σ',H',J.unmark ok,q⟩
 | cont=>obtain ⟨σ',H',J,q⟩:=q;exact ⟨σ',H',J.unmark ok,q⟩
 | ret u=>obtain ⟨v,σ',H',J,r,q⟩:=q;exact ⟨v,σ',H',J.unmark ok,r,q⟩
theorem exc_ty {M:Model}{h:Heap}{e T:Addr}{cls:Value}{d:Option Addr}(ex:ExcAt h e cls d T):W.Looks M h (typeOf (.ref e)) cls:=by
 obtain ⟨oe,vs,oT,ts,he,rfl,_⟩:=ex
 exact (W.Looks.ld he).andThen .now
def gDel (i:Nat):St->Hp->(St->Hp->Prop)->Prop:=λ σ H Q=>Q (σ.set i none) H
def kDel (i:Nat) (nx:St->Hp->Prop):St->Hp->Prop:=λ σ H=>gDel i σ H nx
def Ends.del (i:Nat) (D:Ends):Ends:=⟨kDel i D.nx,D.rt,kDel i D.bk,kDel i D.ct⟩
theorem gone_ok {M:Model}{A:Around}{E:Value->Shared->Prop}{pins:List (Addr × Obj)}{σ:St}{H:Hp}{s:Shared}{i:Nat}{x:Str}{pos:Pos}{Q:Unit->Shared->Prop}(I:Inv X pins σ H s) (hi:X.N[i]? = some x) (hk:X.env.scope.names.lookup x=some .local) (hN:X.N.Nodup)
  (h:∀ s',Inv X pins (σ.set i none) H s'->Q () s'):wpAny M A (do bindName X.env x .none;unbindBehindTheSuite X.env x pos) Q E s:=by
 obtain ⟨m,hn,hl⟩:=id I.loc
 have hcls:(X.env.scope.kind == .class || (X.env.scope.kind == .module && X.env.locals != X.env.globals))=false:=by rw [I.ok.kind];rfl
 have cne:=I.cne
 refine PySem.wpAny_nameGoes_keeps hk hn hcls λ h' v hn' hs=>?_
 obtain ⟨oL,_,_,hoL,_⟩:=id hn
 refine h _ ⟨I.ok,I.os,I.bare,⟨λ b o e n hb hx=>?_,λ b o e n hb hx=>?_,I.base.free,λ b o e hx=>?_,I.base.tups,I.base.frzs,I.base.tbls⟩,⟨_,hn',λ j y v' e1 e2 e3=>?_⟩,λ y c e=>?_,I.free,I.freeC,λ p hp=>?_,λ b ob e=>?_,by simpa using I.len⟩
 ·exact (hs.2 b (Nat.ne_of_lt (Nat.lt_of_lt_of_le (Heap.lt_size e) I.ok.above))).trans (I.base.keep b o e n hb hx)
 ·obtain ⟨sl,e1⟩:=I.base.slot b o e n hb hx
  exact ⟨sl,(hs.2 b (Nat.ne_of_lt (Nat.lt_of_lt_of_le (Heap.lt_size e) I.ok.above))).trans e1⟩
 ·obtain ⟨o',e1⟩:=I.base.there b o e hx
  exact ⟨o',(hs.2 b (Nat.ne_of_lt (Nat.lt_of_lt_of_le (Heap.lt_size e) I.ok.above))).trans e1⟩
 ·have hj:j ≠ i:=by
   rintro rfl
   by_cases hlt:j < σ.length
   ·rw [List.getElem?_set_self hlt] at e2;cases e2
   ·rw [List.getElem?_eq_none (by simpa using Nat.le_of_not_lt hlt)] at e2;cases e2
  rw [List.getElem?_set_ne (Ne.symm hj)] at e2
  obtain ⟨u',r',q⟩:=hl j y v' e1 e2 e3
  refine ⟨u',r',?_⟩
  rcases q with ⟨k,e⟩|⟨k,c,e,z⟩
  ·refine .inl ⟨k,?_⟩
   have:y ≠ x:=λ e=>hj (nodup_ix hN e1 (e ▸ hi))
   simp [this,e]
  ·exact .inr ⟨k,c,e,z.sameBut hs (cne y c e)⟩
 ·obtain ⟨w',z⟩:=I.cell y c e
  exact ⟨w',z.sameBut hs (cne y c e)⟩
 ·obtain ⟨e,n,ne,nf,d⟩:=I.pin p hp
  exact ⟨(hs.2 p.1 ne).trans e,n,ne,nf,d⟩
 ·refine (I.hok b ob e).stay (λ c w' hc q=>(hs.2 c ?_).trans q) (λ _ q=>q) λ _ _ q=>q
  rintro rfl
  rcases hc with rfl|hc
  ·rw [I.free] at e;cases e
  ·rw [I.free] at hc;cases hc
def tExcAs (K:W.Frag) (C:Value) (i:Nat) (tb:TS) (tr:Value->Option Addr->TS):Value->Option Addr->TS:=λ cls d D σ H=>∃ b,W.exmOne K cls C=some b /\
 if b=true then ∀ (e:Addr) (oe:Obj),H e=none->oe.cls=cls->oe.dict=d->(∃ vs,oe.data=.fields vs)->tb (D.del i) (σ.set i (some (.ref e))) (upd H e (excO oe)) else tr cls d D σ H
theorem phs_as {x n:Str}{i:Nat}{np pos:Pos}{b₀:Stmt}{body:List Stmt}{rest:List ExceptHandler}{C:Value}{tb:TS}{tr:Value->Option Addr->TS}(hN:X.N.Nodup) (hi:X.N[i]? = some n) (hk:X.env.scope.names.lookup n=some .local) (hg:Gl X x) (hm:X.mg x=some C\/(X.mg x=none/\bootBuiltins x=some C/\x ≠ "__name__")) (hb:∀ e,PSs (X.mark e) (b₀::body) tb) (hr:PHs X rest tr)
  (hdb:(x == ("__debug__":Str))=false:=by decide):PHs X (.ExceptHandler (some (.Name x np)) (some n) (b₀::body) pos::rest) (tExcAs X.K C i tb tr):=by
 intro pins s σ H D e T cls d I N hn ex h
 obtain ⟨b,hx,h⟩:=h
 have Im:=I.mark e
 have ld:∀ {Q:Value->Shared->Prop} {E:Value->Shared->Prop},Q C s->wpAny (model X.prog X.w) (X.A.mark (some (.ref e))) (eval (.Name x np) X.env) Q E s:=λ {Q E} q=>by
  rcases hm with z|⟨z1,z2,z3⟩
  ·exact ld_glob (X:=X.mark e) Im hg z q hdb
  ·exact ld_blt (X:=X.mark e) Im hg z1 z2 q z3 hdb
 refine PySem.wpAny_handleBy_cons (PySem.codeAny_handlers_test (ld ((W.exm_one I.kIn (exc_ty ex) hx).here ?_))) (by intro q;cases q)
 cases b with
 | false=>
  rw [if_neg Bool.false_ne_true] at h
  exact hr pins s σ H D e T cls d I N hn ex h
 | true=>
  rw [if_pos rfl] at h
  refine PySem.codeAny_handlers_suite_as (flight1 ex λ h' kp=>?_)
  obtain ⟨oe,vs,oT,ts,he,hc,hd,hdat,_⟩:=ex
  have N':NewAt (X.mark e) pins e:=⟨N.s0,N.loc,N.cel,N.fs,N.pin⟩
  have I':Inv (X.mark e) pins σ (upd H e (excO oe)) { s with heap:=h' }:=(Im.kept (t':=s.toks) kp).track N' (kp _ _ he) hn
  refine store_ok (X:=X.mark e) I' hN hi (.inl hk) (show RelV (.ref e) (.ref e) from rfl) (λ s1 I1=>?_) (.inr hk)
  refine wpAny_mono (hb e pins s1 _ _ (D.del i) I1 (h e oe hn hc hd ⟨vs,hdat⟩)) (λ f s2 q=>?_) λ _ _ z=>z.elim
  show wpAny _ X.A _ _ _ s2
  have q':=SP.unmark I.ok q
  cases f with
  | next=>obtain ⟨σ',H',J,q⟩:=q';exact gone_ok J hi hk hN λ s3 J3=>⟨_,H',J3,q⟩
  | brk=>obtain ⟨σ',H',J,q⟩:=q';exact gone_ok J hi hk hN λ s3 J3=>⟨_,H',J3,q⟩
  | cont=>obtain ⟨σ',H',J,q⟩:=q';exact gone_ok J hi hk hN λ s3 J3=>⟨_,H',J3,q⟩
  | ret u=>obtain ⟨v,σ',H',J,r,q⟩:=q';exact gone_ok J hi hk hN λ s3 J3=>⟨v,_,H',J3,r,q⟩
def tTry (tb:(St->XK)->TS) (th:Value->Option Addr->TS):TS:=λ D σ H=>tb (λ σ' cls d H'=>th cls d D σ' H') D σ H
abbrev Cx.tried (X:Cx) (E:Value->Shared->Prop) (pn:List (Addr × Obj)):Cx:={ X with xe:=E,pn:=pn }
theorem ps_try {body:List Stmt}{h₀:ExceptHandler}{hs:List ExceptHandler}{pos:Pos}{tb:(St->XK)->TS}{th:Value->Option Addr->TS}(hstk:X.stack=X.env::X.outer/\X.env.frame=some X.env.locals/\X.ex=[])
  (hb:∀ (EX:St->XK) (E:Value->Shared->Prop) (pn:List (Addr × Obj)),(∀ σ,PassAt (CX1 X.prog X.w) (X.tried E pn) (EX σ) σ)->PSs (X.tried E pn) body (tb EX)) (hh:PHs X (h₀::hs) th) :
  PS X (.Try body (h₀::hs) [] [] pos) (tTry tb th):=by
 intro pins s σ H D I h
 refine PySem.wpAny_Try_except ?_
 have okT:∀ E pn,(X.tried E pn).Ok:=λ E pn=>⟨I.ok.mod,I.ok.kind,I.ok.glob,I.ok.blt,I.ok.above,I.ok.inj,I.ok.has,I.ok.cab,I.ok.hd,I.ok.frames,I.ok.stk,I.ok.exf,I.ok.bs,I.ok.bsz,I.ok.noex,I.ok.exfs,I.ok.funs,I.ok.frf⟩
 have back:∀ {E:Value->Shared->Prop} {pins':List (Addr × Obj)} {σ':St} {H':Hp} {s':Shared},Inv (X.tried E (X.pn++pins)) pins' σ' H' s'->Inv X pins σ' H' s':=λ {E pins' σ' H' s'} J=>
  ⟨I.ok,J.os,J.bare,J.base,J.loc,J.cell,J.free,J.freeC,λ p hp=>J.pin p (List.mem_append_left _ hp),J.hok,J.len⟩
 have I0:∀ E,Inv (X.tried E (X.pn++pins)) [] σ H s:=λ E=>⟨okT E _,I.os,I.bare,I.base,I.loc,I.cell,I.free,I.freeC,λ p hp=>I.pin p (by simpa using hp),I.hok,I.len⟩
 refine thn (hb (λ σ' cls d H'=>th cls d D σ' H') _ (X.pn++pins) ?_ [] s σ H D (I0 _) h) λ f s1 q=>?_
 ·intro σ1 pins1 H1 s1 ev s2 I1 hc
  obtain ⟨e,T,cls,dd,H',rfl,os,bare,un1,hok,ne,nT,He,HT,ex,hxd,hE⟩:=hc
  have I2:=I1.call' (ch:=[]) os un1 hok bare (λ b z=>absurd z (by simp))
  have nf:∀ b,s1.heap.get? b=none->b ∉ frs (X.env::X.outer):=λ b hb z=>by
   have st:=I1.stack
   have st':s1.heap.FunFrames X.base (X.env::X.outer):=by rw [←hstk.1];exact st
   obtain ⟨_,o,q,_⟩:=st'.mem z
   rw [hb] at q;cases q
  have nb:X.base.get? T=none:=by
   cases q:X.base.get? T with
   | none=>rfl
   | some o=>
    have:=I1.bk T o q
    rw [nT] at this;cases this
  have fl:s2.heap.FunFrames X.base (X.env::X.outer):=by rw [←hstk.1];exact I2.stack
  have fr:X.A.frames=some (X.env::X.outer):=by rw [←hstk.1];exact I.ok.frames
  refine note_next (base:=X.base) (outer:=X.outer) fr fl hstk.2.1 ex (nf e ne) (nf T nT) nb λ g T' ng nT' ex'=>?_
  have fs:∀ b∈frs (X.env::X.outer),b∈frs X.stack:=λ b hb=>by rw [hstk.1];exact hb
  have I3:=I1.call' (s':={ s2 with heap:=g }) (ch:=[]) os (un1.noted ng ne (λ b z=>by rw [z];exact nT) λ b hb=>.inl (fs b hb)) (hok.noted ng He (λ b z=>by rw [z];exact HT) λ b hb=>I2.stkFree b (fs b hb)) bare (λ b z=>absurd z (by simp))
  exact hh pins _ σ1 H' D e T' cls dd (back I3) (NewAt.of (back I1) hstk.2.2 ne) He ex' hE
 ·cases f with
  | next=>obtain ⟨σ',H',J,q⟩:=q;exact wpAny_execs_nil ⟨σ',H',back J,q⟩
  | brk=>obtain ⟨σ',H',J,q⟩:=q;exact ⟨σ',H',back J,q⟩
  | cont=>obtain ⟨σ',H',J,q⟩:=q;exact ⟨σ',H',back J,q⟩
  | ret u=>obtain ⟨v,σ',H',J,r,q⟩:=q;exact ⟨v,σ',H',back J,r,q⟩
end
end L2
set_option Elab.async false
set_option linter.all false
set_option maxRecDepth 100000
set_option maxHeartbeats 4000000
namespace L2
open PySem PySem.Spec PyProof.Rows PySem.W
def excInI (K:Frag) (C fI:Addr) (bmB:List Value) (newId:String):Bool:=ownIn0 K C (some (.ref fI)) bmB newId
section
variable {prog:Program}{w:World}{A:Around}{R:Result->Shared->Prop}{h:Heap}{g:Array GenState}{d:Drawn}{t:Nat}{os:OsState}{K:Frag}
variable {nm q:Str}{C N fI:Addr}{bs bm bmB:List Value}{hdct:Bool}{sn:List Str}{sub:List Value}{ab:Bool}{col:Option Bool}{dd:Option Addr}{k0 k1 k2 k3 k5:Option Value}{B Bn newId nid initId inN:String}{bmN:List Value}
abbrev exNew (C:Addr) (rest:List Value) (h:Heap):Heap:=(h.push { cls:=.type "tuple",data:=.seq rest.toArray }).push { cls:=.ref C,data:=.fields #[.ref h.objs.size,.none,.none,.none,.bool false,.none] }
theorem exc_own (Fn:ExcBaseFacts Bn newId inN bmN) (hBn:bmB.contains (.type Bn)=true) (F:ExcBaseFacts B nid initId bmB) (T:OwnTail h bmB bm){mN:Str->Option Value}{rest:List Value}
  (hC:h.get? C=some (excClassObj nm q C N bs bm hdct sn sub ab col dd k0 k1 k2 k3 k5 newId)) (hn:h.Ns N mN) (hni:mN "__init__"=some (.ref fI)) (X:K.In h) (hf:typeIn K (.ref fI)=some (.type "function")) (hrest:rest.length<=sizeLine)
  (hq:codeAny (model prog w) (A.under (.builtin "type.__call__" ⟨.ref C::rest,[]⟩)) (.call (.ref fI) ⟨.ref (h.objs.size+1)::rest,[]⟩) (InitBack (h.objs.size+1) R) ⟨exNew C rest h,g,d,t,os⟩) :
  codeAny (model prog w) A (.call (.ref C) ⟨rest,[]⟩) R ⟨h,g,d,t,os⟩:=by
 have f1:=tc_lookup
 have f2:=tc_bind (.ref C)
 have hT:(⟨h,g,d,t,os⟩:Shared).TypeIs (.ref C) "type":=⟨_,hC,rfl⟩
 refine codeAny_of_tree ?_
 show wpAny _ _ (callAny (.ref C) _) _ _ _
 repeat (any_goals (first|assumption|with_reducible refine wpAny_loadPart_at hC ?_|wp_step))
 refine ⟨rfl,?_⟩
 refine codeAny_call_builtin_at (Code.quiet_builtin _ (by decide +kernel)) entry_typeCall (wpAny_check_type_call_sub hC ?_)
 repeat (first|with_reducible refine wpAny_loadPart_at hC ?_|with_reducible refine wpAny_madeBy_exc hC ?_|wp_step)
 refine codeAny_call_builtin_code (Code.quiet_builtin _ Fn.quiet) (wpAny_check_new_subU Fn hBn T hC (codeAny_exc_new_subU Fn hBn F T hC ?_ hrest))
 show wpAny _ _ _ _ _ _
 have kp:∀ b o,h.get? b=some o->(exNew C rest h).get? b=some o:=λ b o e=>Heap.get?_push_of_some _ (Heap.get?_push_of_some _ e)
 have hC1:=kp _ _ hC
 have hn1:(exNew C rest h).Ns N mN:=let ⟨o,es,ep,e,r⟩:=hn;⟨o,es,ep,kp _ _ e,r⟩
 have hg:(exNew C rest h).get? (h.objs.size+1)=some { cls:=.ref C,data:=.fields #[.ref h.objs.size,.none,.none,.none,.bool false,.none] }:=by unfold exNew;heap_get
 have hcC:(Value.ref C::bm).contains (.ref C)=true:=by simp
 have T1:=T.keeps (h':=exNew C rest h) kp
 have X1:K.In (exNew C rest h):=λ b o e=>kp b o (X b o e)
 unfold isInstance
 repeat (first|with_reducible refine wpAny_loadPart_at hg ?_|wp_step)
 show wpAny _ _ (isSubtype (.ref C) (.ref C)) _ _ ⟨exNew C rest h,g,d,t,os⟩
 refine wpAny_isSubtype_exc hC1 ?_
 rw [hcC]
 repeat (first|with_reducible refine wpAny_loadPart_at hg ?_|wp_step)
 show wpAny _ _ (typeLookup (.ref C) _) _ _ _
 refine wpAny_typeLookup_tail hC1 hn1 T1 F.mroIs F.init.lookup ?_
 rw [hni]
 refine wpAny_holding (wpAny_bind ((bind_fn X1 _ hf).at ?_))
 refine wpAny_bind (wpAny_call (codeAny_mono hq λ r s' z=>?_))
 cases r with
 | error e=>exact z
 | ok f=>
  cases f with
  | ret v=>obtain ⟨rfl,y⟩:=z;exact wpAny_pure (wpAny_pure y)
  | next=>exact z.elim
  | brk=>exact z.elim
  | cont=>exact z.elim
end
def dropRefs:List Value->List Value
 | .ref _::r=>dropRefs r
 | l=>l
theorem refuse_drop (self:Value):∀ l:List Value,refuseLoop self "__setattr__" l=refuseLoop self "__setattr__" (dropRefs l)
 | []=>rfl
 | v::r=>by
  cases v with
  | ref c=>rw [refuseLoop_ref];exact refuse_drop self r
  | _=>rfl
def onlyExc (l:List Value):Bool:=dropRefs l == [.type "ValueError",.type "Exception",.type "BaseException",.type "object"]
theorem refuse_exc (self:Value){l:List Value}(e:onlyExc l=true):refuseLoop self "__setattr__" l=pure ():=by
 rw [refuse_drop,beq_iff_eq.mp e];exact PySem.F.store_ValueError.passes self
def excOver (K:Frag) (C:Addr):Bool:=(clsIn K C).any λ cd=>onlyExc cd.mro && cd.mro.contains (.type "object")
structure EStore (K:Frag) (C:Addr):Prop where
 ov:excOver K C=true
 sa:findIn K (.ref C) "__setattr__"=some (some (.builtin "object.__setattr__"))
 hd:hasDictIn K C=true
section
variable {prog:Program}{w:World}{A:Around}{E:Value->Shared->Prop}{K:Frag}{x C:Addr}{s:Shared}{name:Str}{v:Value}
theorem osx_open {ox:Obj}{od:Option Obj}{tk:Tok}{R:Result->Shared->Prop}(X:K.In s.heap) (I:InstAt s.heap x ox C od) (hp:excOver K C=true) (ht:takerIn K C name=some none)
  (h:∀ b,wpAny (model prog w) A.in1 (Builtin.ObjectAttr.storeInOwnDict (.ref x) (.ref C) (.str name tk) name v b) (λ fin s'=>match fin with | .done f=>R (.ok f) s' | .again c'=>c'.quiet=true/\codeAny (model prog w) A c' R s') (λ e s'=>R (.error e) s') s) :
  codeAny (model prog w) A (.call (.builtin "object.__setattr__") ⟨[.ref x,.str name tk,v],[]⟩) R s:=by
 have sf:=PySem.F.store_object
 obtain ⟨dat,hcl,hov⟩:=any_some hp
 rw [Bool.and_eq_true] at hov
 have emp:dat.mro.isEmpty=false:=by cases q:dat.mro with|nil=>rw [q] at hov;cases hov.2|cons _ _=>rfl
 have isObj:Looks (model prog w) s.heap (isInstance (.ref x) (.type "object")) true:=I.type.andThen (looks_mroIn X (by unfold mroIn;rw [hcl,Option.bind_some,if_neg (by rw [emp];decide),hov.2]))
 refine codeAny_call_builtin sf.slot.plain sf.entry (@check_slot (model prog w) _ _ s "object.__setattr__" "object" "__setattr__" (.ref x) [.str name tk,v] [] _ sf.kind sf.split isObj (sf.args (.ref x) (.str name tk) v) ?_)
 obtain ⟨on,hon,hr⟩:=Option.bind_eq_some_iff.mp ht
 have lm:Looks (model prog w) s.heap (mroOf (.ref C)) dat.mro:=(looks_clsIn X hcl).andThen .now
 have lt:Looks (model prog w) s.heap (Builtin.ObjectAttr.storeTaker? on) none:=by
  cases on with
  | none=>exact .now
  | some a=>
   obtain ⟨b,hb,hz⟩:=Option.map_eq_some_iff.mp hr
   refine (looks_takesIn X hb).andThen ?_
   cases b
   ·exact .now
   ·cases hz
 rw [osa_eq,refuse_eq]
 refine wpAny_bind (wpAny_bind (I.type.here (wpAny_bind (lm.here (by rw [refuse_exc _ hov.1];refine wpAny_pure (wpAny_bind (I.type.here (wpAny_bind ((looks_findIn X hon).here (wpAny_bind (lt.here (h _))))))))))))
theorem set_exc {vs:Array Value}{sl:Array (Option Value)}{Q:Unit->Shared->Prop}(c:EStore K C) (X:K.In s.heap) (hx:s.heap.get? x=some ⟨.ref C,none,.fields vs,sl⟩) (ht:takerIn K C name=some none)
  (h:∀ h' tk,h'.get? x=some ⟨.ref C,some s.heap.objs.size,.fields vs,sl⟩->h'.Ns1 s.heap.objs.size (λ y=>if y=name then some v else none)->(∀ b o,b ≠ x->s.heap.get? b=some o->h'.get? b=some o)->Q () { s with heap:=h',toks:=tk }) :
  wpAny (model prog w) A (setAttr (.ref x) name v) Q E s:=by
 have I:InstAt s.heap x ⟨.ref C,none,.fields vs,sl⟩ C none:=⟨hx,rfl,rfl,trivial⟩
 refine set_plain X I c.sa (osx_open (s:={ s with toks:=s.toks+1 }) X I c.ov ht λ b=>?_)
 obtain ⟨cd,hc,hd'⟩:=any_some c.hd
 have hxs:x ≠ s.heap.objs.size:=Nat.ne_of_lt (Heap.lt_size hx)
 have hx1:(s.heap.push { cls:=.type "dict",data:=.dict #[] }).get? x=some ⟨.ref C,none,.fields vs,sl⟩:=Heap.get?_push_of_some _ hx
 refine wpAny_bind (wpAny_pure (wpAny_bind (wpAny_bind (wpAny_loadPart hx ?_))))
 show wpAny _ _ (do if !(←classData C).hasDict then pure none else _) _ _ _
 refine wpAny_bind (Looks.here (s:={ s with toks:=s.toks+1 }) (looks_clsIn X hc) ?_)
 rw [hd',if_neg (by decide)]
 show wpAny _ _ (do let d ←alloc { cls:=.type "dict",data:=.dict #[] };update x λ o=>{ o with dict:=some d };dictMade (.ref C) x d) _ _ _
 refine wpAny_bind (wpAny_alloc (wpAny_bind (wpAny_update hx1 (wpAny_pure (a:=some s.heap.objs.size) ?_))))
 generalize hg:(s.heap.push { cls:=.type "dict",data:=.dict #[] }).update x (λ o=>{ o with dict:=some s.heap.objs.size })=g0
 have gx:g0.get? x=some ⟨.ref C,some s.heap.objs.size,.fields vs,sl⟩:=by rw [←hg];exact Heap.get?_update_self _ hx1 rfl
 have gd:g0.get? s.heap.objs.size=some { cls:=.type "dict",data:=.dict #[] }:=by rw [←hg];exact (Heap.get?_update_ne _ _ _ _ hxs.symm).trans (Heap.get?_push_at rfl rfl)
 have gk:∀ b o,b ≠ x->s.heap.get? b=some o->g0.get? b=some o:=λ b o hb e=>by rw [←hg];exact (Heap.get?_update_ne _ _ _ _ hb).trans (Heap.get?_push_of_some _ e)
 have gn:g0.Ns s.heap.objs.size (λ _=>none):=⟨_,#[],_,gd,rfl,λ e he=>absurd he (by simp),λ _=>rfl⟩
 show wpAny _ _ (Builtin.ObjectAttr.storeInDict s.heap.objs.size (.str name s.toks) name v) _ _ _
 unfold Builtin.ObjectAttr.storeInDict Builtin.ObjectAttr.newKeyGuard
 refine wpAny_bind (wpAny_pure (wpAny_bind (wpAny_nsSet1 (Heap.Ns1.of_empty gn) λ h2 n2 s2=>?_)))
 obtain ⟨oD,eD,pD,q1,q2,q3⟩:=n2.count (Within.cons name v Within.nil)
 refine wpAny_bind (wpAny_lookBehind q1 (by rw [q2];exact pastItsLine_dict (Nat.le_trans q3 (by rw [List.length_cons,List.length_nil,sizeLine_eq];omega))) ?_)
 exact wpAny_pure (h h2 _ ((s2.2 x hxs).trans gx) n2 λ b o hb e=>(s2.2 b (Nat.ne_of_lt (Heap.lt_size e))).trans (gk b o hb e))
end
end L2
set_option Elab.async false
set_option linter.all false
set_option maxRecDepth 100000
set_option maxHeartbeats 4000000
namespace L2
open PySem PySem.Spec PyProof.Rows PySem.W
section
variable {prog:Program}{w:World}{A:Around}{E:Value->Shared->Prop}{s:Shared}{K:PySem.W.Frag}{x C dx:Addr}{ox:Obj}{od:Option Obj}{name:Str}{mA:Str->Option Value}{u:Value}
theorem exc_get {expr:Bool}{Q:Value->Shared->Prop}(c:ECls K C) (X:K.In s.heap) (hx:s.heap.get? x=some ox) (hcl:ox.cls=.ref C) (hno:notCls ox=true) (hd:ox.dict=some dx) (hn:s.heap.Ns1 dx mA) (ha:NoAttr K C name) (hv:mA name=some u) (hh:handedIn u=true)
  (h:Q u { s with toks:=s.toks+1 }):wpAny (model prog w) A (getAttr (.ref x) name expr) Q E s:=by
 obtain ⟨oD,ho,hl⟩:=lookIn_ns hn
 have I:InstAt s.heap x ox C (some oD):=⟨hx,hcl,hno,by rw [hd];exact ho⟩
 have hf:findObj K C (some oD) name=some (.value u):=findObj_own c.hd ha rfl (by rw [hl,hv])
 have L0:=I.type (M:=model prog w)
 have L1:=looks_findIn (M:=model prog w) X c.ga
 have L2:=looks_findIn (M:=model prog w) X c.no
 have L3:=looks_find (M:=model prog w) X I hf
 have ck:=λ {M:Model} {A:Around} {E:Value->Shared->Prop} {Q:Unit->Shared->Prop} (q:Q () { s with toks:=s.toks+1 })=>exc_check (M:=M) (A:=A) (E:=E) (nameV:=.str name s.toks) (s:={ s with toks:=s.toks+1 }) c X I q
 obtain ⟨hp,g,d,t,os⟩:=s
 unfold getAttr getAttrBy
 refine wpAny_bind (wpAny_mkText (wpAny_holding (wpAny_bind (L0.at (wpAny_bind (L1.at ?_))))))
 show wpAny _ _ (getAttrByItsOwn _ _ _ _ _ _) _ _ _
 unfold getAttrByItsOwn
 show wpAny _ _ (do let before ←typeLookup (.ref C) "__getattr__";_) _ _ _
 refine wpAny_bind (L2.at (wpAny_bind (wpAny_attempt (wpAny_holding ?_))))
 unfold callGetattribute
 rw [show (expr && onTheHeap (Value.builtin "BaseException.__getattribute__"))=false from Bool.and_false _,if_neg (by decide)]
 unfold boundAndCalled
 rw [F.attr_ValueError.ga.bind (.ref x)]
 refine wpAny_bind (wpAny_pure (wpAny_call (codeAny_call_builtin F.attr_ValueError.ga.plain F.entry_bexc_ga (ck ?_))))
 refine wpAny_bind (wpAny_pure (wpAny_bind (wpAny_pure (wpAny_bind (L0.at (wpAny_bind (L3.at (wpAny_pure ?_))))))))
 show wpAny _ _ (handedOut u) _ _ _
 rw [handedOut_of hh]
 exact wpAny_pure h
end
section
variable {prog:Program}{w:World}{A:Around}{E:Value->Shared->Prop}{h:Heap}{g:Array GenState}{d:Drawn}{t:Nat}{os:OsState}{e a0:Addr}{dct:Option Addr}
variable {nm q:Str}{C N:Addr}{bs bm bmB:List Value}{hdct:Bool}{sn:List Str}{sub:List Value}{ab:Bool}{col:Option Bool}{dd:Option Addr}{k0 k1 k2 k3 k5:Option Value}{B newId nid initId:String}
theorem init_base (F:ExcBaseFacts B nid initId bmB) (T:OwnTail h bmB bm){rest:List Value}{Q:Value->Shared->Prop}(hC:h.get? C=some (excClassObj nm q C N bs bm hdct sn sub ab col dd k0 k1 k2 k3 k5 newId))
  (he:h.get? e=some ⟨.ref C,dct,.fields #[.ref a0,.none,.none,.none,.bool false,.none],#[]⟩) (hrest:rest.length<=sizeLine)
  (hq:∀ h' a1,h'.get? e=some ⟨.ref C,dct,.fields #[.ref a1,.none,.none,.none,.bool false,.none],#[]⟩->(∀ b o,b ≠ e->h.get? b=some o->h'.get? b=some o)->Q .none ⟨h',g,d,t,os⟩) :
  wpAny (model prog w) A (call (.builtin initId) (.ref e::rest)) Q E ⟨h,g,d,t,os⟩:=by
 refine wpAny_call (codeAny_call_builtin F.init.plain F.initEntry (wpAny_check_init_subU F T hC he rfl ?_))
 wp_walk
 refine hq _ h.objs.size ?_ λ b o hb z=>?_
 ·rw [Heap.get?_update_self _ (Heap.get?_push_of_some _ he) rfl];rfl
 ·rw [Heap.get?_update_other _ _ (Ne.symm hb)];exact Heap.get?_push_of_some _ z
end
theorem ns_at {K:Frag}{h:Heap}{N:Addr}{mg:Str->Option Value}{n:Str}{v:Value}(X:K.In h) (G:h.Ns N mg) (e:nsIn K N n=some (some v)):mg n=some v:=by
 obtain ⟨ob,ents,prev,hob,hdat,_,hfind⟩:=G
 unfold nsIn at e
 split at e
 ·rename_i c0 d0 es0 n0 sl0 look
  have z:=X _ _ look
  rw [hob] at z
  cases z
  cases hdat
  split at e
  ·rename_i ent hent
   cases e
   rw [←hfind]
   unfold nsFind findBy
   rw [←Array.find?_toList,hent];rfl
  ·split at e<;>cases e
 ·cases e
structure OwnI (K:W.Frag) (C fI:Addr):Prop where
 ex:excInI K C fI [.type "ValueError",.type "Exception",.type "BaseException",.type "object"] "ValueError.__new__"=true
 fn:typeIn K (.ref fI)=some (.type "function")
 st:EStore K C
theorem OwnI.op {K:W.Frag}{C fI:Addr}{h:Heap}(O:OwnI K C fI) (X:K.In h):∃ c:ClsD,h.get? C=some (excClassObj c.nm c.q C c.N c.bs c.bm c.hdct c.sn c.sub c.ab c.col c.dd c.k0 c.k1 c.k2 c.k3 c.k5 "ValueError.__new__") /\
  OwnTail h [.type "ValueError",.type "Exception",.type "BaseException",.type "object"] c.bm/\h.Ns c.N (h.nsMap c.N)/\h.nsMap c.N "__init__"=some (.ref fI):=by
 obtain ⟨c,look0,tok,nok,noi⟩:=cls_op O.ex
 have nsb:h.Ns c.N (h.nsMap c.N):=.of_isNs (W.isNs_of_in X nok)
 exact ⟨c,X _ _ look0,W.tail_of_in X tok,nsb,ns_at X nsb noi⟩
def exO (e C:Addr) (d:Option Addr):Heap->Prop:=λ h=>∃ t,h.get? e=some ⟨.ref C,d,.fields #[.ref t,.none,.none,.none,.bool false,.none],#[]⟩
def exH (e C:Addr) (d:Option Addr):HO:=.ext (exO e C d)
theorem exH_ok {P:Program}{w:World}{H:Hp}{h:Heap}{e C:Addr}{d:Option Addr}(q:exO e C d h):ObjOk P w H h e (exH e C d):=by
 obtain ⟨t,he⟩:=id q
 exact ⟨q,⟨_,he⟩,λ h1 h2 ⟨t,a⟩ b=>⟨t,b _ a⟩⟩
theorem exH_get {P:Program}{w:World}{H:Hp}{h:Heap}{e C:Addr}{d:Option Addr}(q:ObjOk P w H h e (exH e C d)):exO e C d h:=q.1
section
variable {X:Cx}{pins:List (Addr × Obj)}{σ:St}{H:Hp}{s:Shared}
theorem Inv.adopt {a:Addr}{o:HO}(I:Inv X pins σ H s) (N:NewAt X pins a) (hn:H a=none) (new:ObjOk X.prog X.w (upd H a o) s.heap a o):Inv X pins σ (upd H a o) s:=by
 have ne:∀ {b:Addr} {u:HO},H b=some u->b ≠ a:=λ q z=>by rw [z,hn] at q;cases q
 refine ⟨I.ok,I.os,I.bare,⟨I.base.keep,I.base.slot,λ b u q n hx=>?_,I.base.there,λ b xs q=>?_,λ b u v q=>?_,λ b ps q=>?_⟩,I.loc,I.cell,?_,λ x c q=>?_,λ p hp=>?_,λ b u q=>?_,I.len⟩
 ·rw [upd_ne (λ z=>by rw [z,N.s0] at q;cases q)];exact I.base.free b u q n hx
 ·have z:=I.base.tups b xs q;rw [upd_ne (ne z)];exact z
 ·have z:=I.base.frzs b u v q;rw [upd_ne (ne z)];exact z
 ·obtain ⟨m,z⟩:=I.base.tbls b ps q;exact ⟨m,by rw [upd_ne (ne z)];exact z⟩
 ·rw [upd_ne (Ne.symm N.loc)];exact I.free
 ·rw [upd_ne (N.cel x c q)];exact I.freeC x c q
 ·obtain ⟨a1,b1,c1,d1,f1⟩:=I.pin p hp
  exact ⟨a1,by rw [upd_ne (N.pin p hp)];exact b1,c1,d1,f1⟩
 ·by_cases hb:b=a
  ·subst hb;rw [upd_same] at q;cases q;exact new
  ·rw [upd_ne hb] at q
   exact (I.hok b u q).stay (λ _ _ _ r=>r) (λ c r=>by rw [upd_ne (ne r)];exact r) λ c xs r=>by rw [upd_ne (ne r)];exact r
theorem Inv.newAt {a:Addr}(I:Inv X pins σ H s) (ha:s.heap.objs.size<=a):NewAt X pins a where
 s0:=Heap.get?_none_of_le (Nat.le_trans I.sz ha)
 loc:=Nat.ne_of_gt (Nat.lt_of_lt_of_le I.lt ha)
 cel:=λ x c e z=>by
  obtain ⟨v,o,q,_⟩:=I.cell x c e
  exact absurd (Nat.lt_of_lt_of_le (Heap.lt_size q) (by rw [z];exact ha)) (Nat.lt_irrefl _)
 fs:=I.nofs ha
 pin:=λ p hp z=>absurd (Nat.lt_of_lt_of_le (Heap.lt_size (I.pin p hp).1) (by rw [z];exact ha)) (Nat.lt_irrefl _)
structure BaseI (K:W.Frag) (B:Addr):Prop where
 sp:specialIn K (.ref B) "__getattribute__"=some (some (.builtin "type.__getattribute__"))
 rd:readsIn K B (.type "type")=true
 fc:findCls K (.ref B) (.type "type") "__init__"=some (.val (.builtin "ValueError.__init__"))
def kXI (K:W.Frag) (Q:VK):List V->Hp->Prop:=λ vs H=>∃ e C d fI rest,vs=.ref e::rest/\H e=some (exH e C d)/\OwnI K C fI/\rest.length<=sizeLine/\Q .non H
def tXI (K:W.Frag) (t:TA):TE:=λ σ H Q=>t σ H (kXI K Q)
theorem pe_xinit {x:Str}{B:Addr}{p apos pos:Pos}{e:Expr}{es:List Expr}{t:TA}{pl:Sem Bool}(hg:Gl X x) (hm:X.mg x=some (.ref B)) (b:BaseI X.K B) (ha:PA X (e::es) t) (hdb:(x == ("__debug__":Str))=false:=by decide)
  (hst:starEach (e::es) X.env=(false,eval e X.env)::starEach es X.env:=by rfl) (hpl:(backTo pos (starEach es X.env)).any (·.1)=false:=by rfl)
  (ht:eval (.Call (.Attribute (.Name x p) "__init__" apos) (e::es) [] pos) X.env=(do
   let ov ←eval (.Name x p) X.env
   standAt apos.atName
   let (f,first) ←holding [ov] (getMethod ov "__init__" pl)
   callWith pos f first (backTo pos (starEach (e::es) X.env)) (backToKw pos (keywordEach [] X.env))):=by rfl) :
  PE X (.Call (.Attribute (.Name x p) "__init__" apos) (e::es) [] pos) (tXI X.K t):=by
 intro pins s σ H Q I h
 refine W.methodCall_KW (pl:=pl) (ld_glob I hg hm ?_ hdb) ht
 refine method_cls I.kIn b.sp (cls_value I.kIn b.rd b.fc (by decide +kernel) ?_)
 have I1:=I.tok (s.toks+1)
 refine PyProof.Rows.callWith_builtin1 (thn (ha pos pins _ σ H _ I1 h) λ us s1 ⟨vs,H1,J,r1,q1⟩=>?_) hst hpl
 obtain ⟨ex,C,d,fI,rest,rfl,he,O,hl,q⟩:=q1
 cases r1 with
 | cons r rr=>
  cases r
  obtain ⟨t0,h0⟩:=exH_get (J.hok ex _ he)
  obtain ⟨c,hC,T,_,_⟩:=O.op J.kIn
  refine init_base (h:=s1.heap) (g:=s1.gens) (d:=s1.drawn) (t:=s1.toks) (os:=s1.os) PySem.F.excBase_ValueError T hC h0 (by rw [←rr.length];exact hl) λ h' a1 q1 q2=>?_
  have same:upd H1 ex (exH ex C d)=H1:=funext λ b=>by
   by_cases hb:b=ex
   ·rw [hb,upd_same,he]
   ·rw [upd_ne hb]
  have J2:=J.write (t':=s1.toks) (x:=ex) (e:=ex) (o:=exH ex C d) (by rw [he];trivial) (.inl rfl) (λ b u hb z=>q2 b u hb z) ⟨_,q1⟩ (exH_ok ⟨a1,q1⟩)
  rw [same] at J2
  exact ⟨.non,H1,J2,rfl,q⟩
end
end L2
set_option Elab.async false
set_option linter.all false
set_option maxRecDepth 100000
set_option maxHeartbeats 4000000
namespace L2
open PySem PySem.Spec PyProof.Rows PySem.W
def kXS1 (K:W.Frag) (f:Str) (y:V) (σ:St) (nx:St->Hp->Prop):VK:=λ x H=>∃ e C,x=.ref e/\H e=some (exH e C none)/\EStore K C/\takerIn K C f=some none /\
 ∀ dx H',H dx=none->dx ≠ e->(∀ b o,b ≠ e->H b=some o->H' b=some o)->H' e=some (exH e C (some dx))->H' dx=some (.xd [(f,y)])->nx σ H'
def kXS0 (K:W.Frag) (f:Str) (ta:TE) (σ:St) (nx:St->Hp->Prop):VK:=λ y H=>ta σ H (kXS1 K f y σ nx)
def xSetF (K:W.Frag) (ta tv:TE) (f:Str):TS:=λ D σ H=>tv σ H (kXS0 K f ta σ D.nx)
section
variable {X:Cx}{e o value:Expr}{ta tv:TE}{f:Str}{pos pos':Pos}
theorem ps_xset (ha:PE X o ta) (hv:PE X value tv) (hs:swapsWith value (some (.Attribute o f pos')) pos.line X.env=pure false):PS X (.Assign [.Attribute o f pos'] value pos) (xSetF X.K ta tv f):=by
 intro pins s σ H D I h
 refine plainObj_wpAny_Assign_Attribute (thn (hv pins s σ H _ I h) λ u s1 ⟨y,H1,I1,ry,q⟩=>thn (ha pins s1 σ H1 _ I1 q) λ ov s2 ⟨x,H2,I2,rx,q1⟩=>?_) hs
 obtain ⟨ex,C,rfl,he,st,ht,k⟩:=q1
 obtain rfl:ov=Value.ref ex:=rx
 obtain ⟨t0,h0⟩:=exH_get (I2.hok ex _ he)
 refine set_exc st I2.kIn h0 ht λ h' tk q1 q2 q3=>?_
 have fr:H2 s2.heap.objs.size=none:=I2.hok.fresh (Nat.le_refl _)
 have ne:s2.heap.objs.size ≠ ex:=Nat.ne_of_gt (Heap.lt_size h0)
 have J:=I2.write (t':=tk) (x:=ex) (e:=ex) (o:=exH ex C (some s2.heap.objs.size)) (by rw [he];trivial) (.inl rfl) (λ b u hb z=>q3 b u hb z) ⟨_,q1⟩ (exH_ok ⟨t0,q1⟩)
 have J2:=J.adopt (a:=s2.heap.objs.size) (o:=.xd [(f,y)]) (I2.newAt (Nat.le_refl _)) (by rw [upd_ne ne];exact fr) ⟨_,q2,λ g=>?_⟩
 ·refine ⟨σ,_,J2,k s2.heap.objs.size _ fr ne (λ b u hb z=>?_) ?_ upd_same⟩
  ·rw [upd_ne (ne_of_none z fr),upd_ne hb];exact z
  ·rw [upd_ne (Ne.symm ne),upd_same]
 ·show RelO (List.lookup g [(f,y)]) (if g=f then some u else none)
  by_cases hg:g=f
  ·subst hg
   rw [if_pos rfl,List.lookup_cons_self];exact ry
  ·have hb:(g == f)=false:=beq_eq_false_iff_ne.mpr hg
   rw [if_neg hg,List.lookup_cons,hb];exact True.intro
end
def del (H:Hp) (e:Addr):Hp:=λ b=>if b=e then none else H b
theorem del_same {H:Hp}{e:Addr}:del H e e=none:=if_pos rfl
theorem del_ne {H:Hp}{e b:Addr}(h:b ≠ e):del H e b=H b:=if_neg h
theorem Inv.untrack {X:Cx}{pins:List (Addr × Obj)}{σ:St}{H:Hp}{s:Shared}{e C:Addr}{d:Option Addr}(I:Inv X pins σ H s) (he:H e=some (exH e C d)):Inv X pins σ (del H e) s:=by
 have ne:∀ {b:Addr} {u:HO},H b=some u->u ≠ exH e C d->b ≠ e:=λ q z k=>by rw [k,he] at q;exact z (Option.some.inj q).symm
 have no:∀ {b:Addr},H b=none->del H e b=none:=λ {b} q=>by
  by_cases hb:b=e
  ·rw [hb];exact del_same
  ·rw [del_ne hb];exact q
 refine ⟨I.ok,I.os,I.bare,⟨I.base.keep,I.base.slot,λ b u q n hx=>no (I.base.free b u q n hx),I.base.there,λ b xs q=>?_,λ b u v q=>?_,λ b ps q=>?_⟩,I.loc,I.cell,no I.free,λ x c q=>no (I.freeC x c q),λ p hp=>?_,λ b u q=>?_,I.len⟩
 ·have z:=I.base.tups b xs q;rw [del_ne (ne z (by intro k;cases k))];exact z
 ·have z:=I.base.frzs b u v q;rw [del_ne (ne z (by intro k;cases k))];exact z
 ·obtain ⟨m,z⟩:=I.base.tbls b ps q;exact ⟨m,by rw [del_ne (ne z (by intro k;cases k))];exact z⟩
 ·obtain ⟨a1,b1,c1,d1,f1⟩:=I.pin p hp
  exact ⟨a1,no b1,c1,d1,f1⟩
 ·have hb:b ≠ e:=λ z=>by rw [z,del_same] at q;cases q
  rw [del_ne hb] at q
  exact (I.hok b u q).stay (λ _ _ _ r=>r) (λ c r=>by rw [del_ne (ne r (by intro k;cases k))];exact r) λ c xs r=>by rw [del_ne (ne r (by intro k;cases k))];exact r
def RaisesD (X:Cx) (E:XK) (σ:St):Prop:=∀ (pins:List (Addr × Obj)) (H:Hp) (s:Shared) (e C:Addr) (d:Option Addr),Inv X pins σ H s->H e=none->X.s₀.heap.get? e=none->exO e C d s.heap->(∀ dx,d=some dx->∃ fs,H dx=some (.xd fs))->E (.ref C) d H->X.xe (.ref e) s
theorem raisesD_def {P:Program}{w:World}{K:W.Frag}{mg:Str->Option Value}{base:Heap}{N:List Str}{qual:Str}{scope:Scope}{f:Addr}{cd:Value}{A:Around}{outer:List Env}{s₀:Shared}{H₀:Hp}{E:XK}{σ:St} :
  RaisesD (cxOf (CX1 P w) P w K mg base N qual scope f cd A outer s₀ H₀ E) E σ:=by
 intro pins H s e C d I hn hn0 hx hd hE
 obtain ⟨t,he⟩:=hx
 show wpAny (model P w) (A.deeper (envOfC qual scope s₀.heap.objs.size f cd)) (leaving (envOfC qual scope s₀.heap.objs.size f cd) (.ref e)) _ _ _
 unfold leaving
 have un:Un (frs outer) [] H₀ H s₀.heap s.heap:=I.base
 refine wpAny_bind (note_new (s:=s) (base:=base) (outer:=outer) I.ok.frames I.stack rfl he rfl rfl rfl λ g T ng nT ex=>?_)
 refine ⟨e,T,.ref C,d,H,rfl,I.os,I.bare,un.noted ng hn0 (λ _ z=>z.elim) (λ b hb=>?_),I.hok.noted ng hn (λ _ z=>z.elim) I.stkFree,hn0,un.gone nT,hn,I.hok.gone nT,ex,hd,hE⟩
 rcases List.mem_cons.mp (I.stkSub b hb) with z|z
 ·exact .inr (by rw [z];exact Heap.get?_none_of_le (Nat.le_refl _))
 ·exact .inl z
theorem raise_made {M:Model}{A:Around}{E:Value->Shared->Prop}{env:Env}{s:Shared}{x:Sem Value}{Q:Flow->Shared->Prop}{C:Addr}(hh:A.handled=none)
  (h:wpAny M A x (λ v s1=>∃ (e:Addr) (d:Option Addr) (c:ClsD) (newId:String),v=.ref e/\s1.heap.get? C=some (excClassObj c.nm c.q C c.N c.bs c.bm c.hdct c.sn c.sub c.ab c.col c.dd c.k0 c.k1 c.k2 c.k3 c.k5 newId)/\c.bm.contains (.type "BaseException")=true/\exO e C d s1.heap/\E (.ref e) s1) E s) :
  wpAny M A (raiseStmt env (some x) none) Q E s:=by
 unfold raiseStmt
 refine wpAny_bind (wpAny_mono h (λ v s1 h1=>?_) λ _ _ z=>z)
 obtain ⟨e,d,c,newId,rfl,hC,hb,⟨t,he⟩,hE⟩:=h1
 have hcB:(Value.ref C::c.bm).contains (.type "BaseException")=true:=by rw [List.contains_cons,hb,Bool.or_true]
 obtain ⟨hp,g,dr,tk,os⟩:=s1
 repeat (first|with_reducible refine wpAny_loadPart_at he ?_|with_reducible refine wpAny_loadPart_at hC ?_|(with_reducible refine wpAny_isSubtype_exc hC ?_;rw [hcB])|wp_step)
 exact wpAny_raiseNew_none hh hE
section
variable {X:Cx}
def kRz (e C:Addr) (E:XK):VK:=λ v H=>v=.non/\∃ d,H e=some (exH e C d)/\(∀ dx,d=some dx->∃ fs,del H e dx=some (.xd fs))/\E (.ref C) d (del H e)
def kRI (C:Addr) (sp:Sp) (E:XK):List V->Hp->Prop:=λ vs H=>vs.length<=sizeLine/\∀ e,H e=none->sp (.ref e::vs) (upd H e (exH e C none)) (kRz e C E) E0
def tRaiseI (C:Addr) (sp:Sp) (E:St->XK) (t:TA):TS:=λ _ σ H=>t σ H (kRI C sp (E σ))
theorem ps_raiseI {C fI:Addr}{fd:FuncData}{ps:List Str}{sp:Sp}{k:Nat}{x:Str}{e₀:Expr}{rest:List Expr}{np cpos pos:Pos}{t:TA}{E:St->XK}(hc:X.calm=true) (hg:Gl X x) (hmg:X.mg x=some (.ref C)) (O:OwnI X.K C fI)
  (F:FnOk X.prog X.w X.K X.mg X.base CX0 k fI fd ps sp) (hr:Room (k+1) X.A) (hb:Binds X.K fd ps []) (hx:∀ σ,RaisesD X (E σ) σ) (ha:PA X (e₀::rest) t)
  (he:starEach (e₀::rest) X.env=(false,eval e₀ X.env)::starEach rest X.env:=by rfl) (hplain:(backTo cpos (starEach rest X.env)).any (·.1)=false:=by rfl) (hdb:(x == ("__debug__":Str))=false:=by decide) :
  PS X (.Raise (some (.Call (.Name x np) (e₀::rest) [] cpos)) none pos) (tRaiseI C sp E t):=by
 intro pins s σ H D I h
 rw [arm_exec_Raise]
 refine wpAny_bind (wpAny_standAt (raise_made (C:=C) (I.ok.hd hc) (wpAny_bind (wpAny_mono (wpAny_Call_ofName (ld_glob I hg hmg ?_ hdb)) (λ v s3 h3=>wpAny_bind (wpAny_standAt (wpAny_pure h3))) λ _ _ z=>z))))
 unfold callWith
 have hh:=ha cpos pins s σ H _ I h
 rw [he] at hh ⊢
 refine wpAny_bind (wpAny_holding (Calls.evalArgs_plain (thn hh λ us s2 ⟨vs,H2,I2,r,hl,hsp⟩=>wpAny_bind (wpAny_standAt ?_))))
 obtain ⟨c,hC,T,hN,hi⟩:=O.op I2.kIn
 have hpl2:(backTo cpos ((false,eval e₀ X.env)::starEach rest X.env)).any (·.1)=false:=(Bool.false_or _).trans hplain
 have I3:Inv X pins σ (upd H2 (s2.heap.objs.size+1) (exH (s2.heap.objs.size+1) C none)) { s2 with heap:=exNew C us s2.heap }:=by
  have J:=I2.kept (t':=s2.toks) (h':=s2.heap.push { cls:=.type "tuple",data:=.seq us.toArray }) λ b u q=>Heap.get?_push_of_some _ q
  refine J.laid (t':=s2.toks) (a:=s2.heap.objs.size+1) (o:=exH (s2.heap.objs.size+1) C none) (λ b u q=>Heap.get?_push_of_some _ q) (Nat.le_of_eq (Heap.size_push _ _)) (exH_ok ⟨s2.heap.objs.size,?_⟩)
  have:=Heap.get?_push_size (s2.heap.push { cls:=.type "tuple",data:=.seq us.toArray }) (o:=⟨.ref C,none,.fields #[.ref s2.heap.objs.size,.none,.none,.none,.bool false,.none],#[]⟩) rfl
  rwa [Heap.size_push] at this
 have hq:=hsp (s2.heap.objs.size+1) (I2.hok.fresh (Nat.le_succ _))
 have r2:Vals (V.ref (s2.heap.objs.size+1)::vs) (Value.ref (s2.heap.objs.size+1)::us):=.cons rfl r
 have hl2:(Value.ref (s2.heap.objs.size+1)::us++[]).length=ps.length:=by
  rw [List.append_nil,←r2.length];exact F.len _ _ _ _ hq
 simp only [hpl2]
 refine wpAny_bind (wpAny_keeperOf_exc (h:=s2.heap) (g:=s2.gens) (d:=s2.drawn) (t:=s2.toks) (os:=s2.os) hC ?_)
 refine wpAny_bind (wpAny_call (exc_own (h:=s2.heap) (g:=s2.gens) (d:=s2.drawn) (t:=s2.toks) (os:=s2.os) PySem.F.excBase_ValueError (by decide +kernel) PySem.F.excBase_ValueError T hC hN hi I2.kIn O.fn (by show us.length<=sizeLine;rw [←r.length];exact hl) ?_))
 have hbind:=hb { s2 with heap:=exNew C us s2.heap } (Value.ref (s2.heap.objs.size+1)::us) I3.kIn hl2
 rw [List.append_nil] at hbind
 refine codeAny_mono (F.run _ X.stack _ _ ⟨Value.ref (s2.heap.objs.size+1)::us,[]⟩ (Value.ref (s2.heap.objs.size+1)::us) _ _ E0 (hr.make C us []) (I3.env0.make C us []) hbind r2 hq) λ rr s' hq'=>?_
 cases rr with
 | error e=>exact hq'.elim
 | ok fl=>
  cases fl with
  | ret u=>
   obtain ⟨v,H',I4,rv,rfl,d,hd1,hd2,hE⟩:=I3.after hq'
   cases rv
   refine ⟨rfl,wpAny_bind (wpAny_holding (wpAny_point (wpAny_pure ?_)))⟩
   obtain ⟨c',hC',T',_,_⟩:=O.op I4.kIn
   exact ⟨s2.heap.objs.size+1,d,c',_,rfl,hC',T'.hasType (by decide +kernel),exH_get (I4.hok _ _ hd1),
    hx σ pins (del H' (s2.heap.objs.size+1)) s' _ C d (I4.untrack hd1) del_same (Heap.get?_none_of_le (Nat.le_trans I2.sz (Nat.le_succ _))) (exH_get (I4.hok _ _ hd1)) hd2 hE⟩
  | next=>exact False.elim hq'
  | brk=>exact False.elim hq'
  | cont=>exact False.elim hq'
def kXF (K:W.Frag) (f:Str) (Q:VK):VK:=λ x H=>∃ e oe C dx fs v,x=.ref e/\H e=some (excO oe)/\oe.cls=.ref C/\oe.dict=some dx/\(∃ vs,oe.data=.fields vs)/\H dx=some (.xd fs)/\ECls K C/\NoAttr K C f/\fs.lookup f=some v/\Q v H
def tXF (K:W.Frag) (ta:TE) (f:Str):TE:=λ σ H Q=>ta σ H (kXF K f Q)
theorem pe_xfld {e:Expr}{f:Str}{pos:Pos}{ta:TE}(he:PE X e ta) (hb:attributeBase e f X.env (eval e X.env)=eval e X.env):PE X (.Attribute e f pos) (tXF X.K ta f):=by
 intro pins s σ H Q I h
 refine attr_of hb (thn (he pins s σ H _ I h) λ u s1 ⟨x,H1,I1,rx,q1⟩=>?_)
 obtain ⟨ex,oe,C,dx,fs,v,rfl,hx,hcl,hd,⟨vs,hdat⟩,hxd,c,n,l,q⟩:=q1
 obtain rfl:u=Value.ref ex:=rx
 have h1:s1.heap.get? ex=some oe:=(I1.hok ex _ hx).1
 obtain ⟨mA,hn,hr⟩:=I1.hok dx _ hxd
 obtain ⟨u,hu,ru⟩:=RelO.some_of (v:=v) (o:=mA f) (by rw [←l];exact hr f)
 exact exc_get c I1.kIn h1 hcl (by unfold notCls;rw [hdat]) hd hn n hu (handed_of ru) ⟨v,H1,I1.tok _,ru,q⟩
theorem pe_xfld' {K:W.Frag}(hK:X.K=K){e:Expr}{f:Str}{pos:Pos}{ta:TE}(he:PE X e ta) (hb:attributeBase e f X.env (eval e X.env)=eval e X.env):PE X (.Attribute e f pos) (tXF K ta f):=hK ▸ pe_xfld he hb
end
end L2
set_option Elab.async false
set_option linter.all false
set_option maxRecDepth 100000
set_option maxHeartbeats 4000000
namespace L2
open PySem
open PySem.Spec PyProof.Rows
theorem gName_0 {a:Option V}{v:V}{σ:St}{H:Hp}{Q:St->Hp->Prop}:gName 0 v (a::σ) H Q=Q (some v::σ) H:=rfl
theorem gName_1 {a0:Option V}{a:Option V}{v:V}{σ:St}{H:Hp}{Q:St->Hp->Prop}:gName 1 v (a0::a::σ) H Q=Q (a0::some v::σ) H:=rfl
theorem gName_2 {a0 a1:Option V}{a:Option V}{v:V}{σ:St}{H:Hp}{Q:St->Hp->Prop}:gName 2 v (a0::a1::a::σ) H Q=Q (a0::a1::some v::σ) H:=rfl
theorem gName_3 {a0 a1 a2:Option V}{a:Option V}{v:V}{σ:St}{H:Hp}{Q:St->Hp->Prop}:gName 3 v (a0::a1::a2::a::σ) H Q=Q (a0::a1::a2::some v::σ) H:=rfl
theorem gName_4 {a0 a1 a2 a3:Option V}{a:Option V}{v:V}{σ:St}{H:Hp}{Q:St->Hp->Prop}:gName 4 v (a0::a1::a2::a3::a::σ) H Q=Q (a0::a1::a2::a3::some v::σ) H:=rfl
theorem gName_5 {a0 a1 a2 a3 a4:Option V}{a:Option V}{v:V}{σ:St}{H:Hp}{Q:St->Hp->Prop}:gName 5 v (a0::a1::a2::a3::a4::a::σ) H Q=Q (a0::a1::a2::a3::a4::some v::σ) H:=rfl
theorem gName_6 {a0 a1 a2 a3 a4 a5:Option V}{a:Option V}{v:V}{σ:St}{H:Hp}{Q:St->Hp->Prop}:gName 6 v (a0::a1::a2::a3::a4::a5::a::σ) H Q=Q (a0::a1::a2::a3::a4::a5::some v::σ) H:=rfl
theorem gName_7 {a0 a1 a2 a3 a4 a5 a6:Option V}{a:Option V}{v:V}{σ:St}{H:Hp}{Q:St->Hp->Prop}:gName 7 v (a0::a1::a2::a3::a4::a5::a6::a::σ) H Q=Q (a0::a1::a2::a3::a4::a5::a6::some v::σ) H:=rfl
theorem gName_8 {a0 a1 a2 a3 a4 a5 a6 a7:Option V}{a:Option V}{v:V}{σ:St}{H:Hp}{Q:St->Hp->Prop}:gName 8 v (a0::a1::a2::a3::a4::a5::a6::a7::a::σ) H Q=Q (a0::a1::a2::a3::a4::a5::a6::a7::some v::σ) H:=rfl
theorem gName_9 {a0 a1 a2 a3 a4 a5 a6 a7 a8:Option V}{a:Option V}{v:V}{σ:St}{H:Hp}{Q:St->Hp->Prop}:gName 9 v (a0::a1::a2::a3::a4::a5::a6::a7::a8::a::σ) H Q=Q (a0::a1::a2::a3::a4::a5::a6::a7::a8::some v::σ) H:=rfl
def optK {α:Type}:Option α->(α->Prop)->Prop
 | some x,k=>k x
 | none,_=>False
theorem optK_some {α:Type}(x:α) (k:α->Prop):optK (some x) k=k x:=rfl
theorem optK_ex {α:Type}{o:Option α}{k:α->Prop}(h:optK o k):∃ x,o=some x/\k x:=by
 cases o with
 | none=>exact h.elim
 | some x=>exact ⟨x,rfl,h⟩
def seqO:HO->Option (List V)
 | .lst xs=>some xs
 | .tup xs=>some xs
 | .frz _ (.lst xs)=>some xs
 | _=>none
def lstO:HO->Option (List V)
 | .lst xs=>some xs
 | _=>none
def tupO:HO->Option (List V)
 | .tup xs=>some xs
 | _=>none
def itemsAt (H:Hp) (p:Addr):Option (List V):=(H p).bind seqO
def lstAt (H:Hp) (p:Addr):Option (List V):=(H p).bind lstO
def tupAt (H:Hp) (p:Addr):Option (List V):=(H p).bind tupO
theorem seqO_lst (xs:List V):seqO (.lst xs)=some xs:=rfl
theorem seqO_tup (xs:List V):seqO (.tup xs)=some xs:=rfl
theorem lstO_lst (xs:List V):lstO (.lst xs)=some xs:=rfl
theorem tupO_tup (xs:List V):tupO (.tup xs)=some xs:=rfl
theorem bind_some' {α β:Type}(x:α) (f:α->Option β):(some x).bind f=f x:=rfl
abbrev Ext (H H':Hp):Prop:=(∀ a,(H a).isSome=true->H' a=H a)/\∀ (K:PySem.W.Frag) a xs,SqL K H a xs->SqL K H' a xs
def kOp' (r:R2) (x:V) (Q:VK):VK:=λ y H=>r x y H Q
theorem m_kOp' (r:R2) (x y:V) (H:Hp) (Q:VK):(kOp' r x Q y H)=(r x y H Q):=rfl
def kOp (r:R2) (tb:TE) (σ:St) (Q:VK):VK:=λ x H=>tb σ H (kOp' r x Q)
theorem m_kOp (r:R2) (tb:TE) (σ:St) (Q:VK) (x:V) (H:Hp):(kOp r tb σ Q x H)=(tb σ H (kOp' r x Q)):=rfl
theorem m_tOp (r:R2) (ta tb:TE) (σ:St) (H:Hp) (Q:VK):(tOp r ta tb σ H Q)=(ta σ H (kOp r tb σ Q)):=rfl
theorem m_tC (v:V) (σ:St) (H:Hp) (Q:VK):(tC v σ H Q)=(Q v H):=rfl
def kUn (r:V->Hp->VK->Prop) (Q:VK):VK:=λ x H=>r x H Q
theorem m_kUn (r:V->Hp->VK->Prop) (Q:VK) (x:V) (H:Hp):(kUn r Q x H)=(r x H Q):=rfl
theorem m_tUn (r:V->Hp->VK->Prop) (ta:TE) (σ:St) (H:Hp) (Q:VK):(tUn r ta σ H Q)=(ta σ H (kUn r Q)):=rfl
def rNotN:R2:=λ x y H Q=>y=.non/\Q (.bl (!decide (x=.non))) H
theorem m_rNotN_non (H:Hp) (Q:VK):rNotN (.non) .non H Q=Q (.bl false) H:=propext ⟨λ h=>h.2,λ h=>⟨rfl,h⟩⟩
theorem m_rNotN_int (i:Int) (H:Hp) (Q:VK):rNotN (.int i) .non H Q=Q (.bl true) H:=propext ⟨λ h=>h.2,λ h=>⟨rfl,h⟩⟩
theorem m_rNotN_ref (i:Addr) (H:Hp) (Q:VK):rNotN (.ref i) .non H Q=Q (.bl true) H:=propext ⟨λ h=>h.2,λ h=>⟨rfl,h⟩⟩
def kTest (Q:Bool->Hp->Prop):VK:=λ x H=>∃ k,x=.bl k/\Q k H
def kNot (Q:Bool->Hp->Prop):Bool->Hp->Prop:=λ c H=>Q (!c) H
theorem m_kNot (Q:Bool->Hp->Prop) (c:Bool) (H:Hp):(kNot Q c H)=(Q (!c) H):=rfl
theorem m_tNot (t:TT) (σ:St) (H:Hp) (Q:Bool->Hp->Prop):(tNot t σ H Q)=(t σ H (kNot Q)):=rfl
def kAnd (u:TT) (σ:St) (Q:Bool->Hp->Prop):Bool->Hp->Prop:=λ c H=>if c=true then u σ H Q else Q false H
theorem m_kAnd (u:TT) (σ:St) (Q:Bool->Hp->Prop) (c:Bool) (H:Hp):(kAnd u σ Q c H)=(if c=true then u σ H Q else Q false H):=rfl
theorem m_tAnd (t u:TT) (σ:St) (H:Hp) (Q:Bool->Hp->Prop):(tAnd t u σ H Q)=(t σ H (kAnd u σ Q)):=rfl
def kOr (u:TT) (σ:St) (Q:Bool->Hp->Prop):Bool->Hp->Prop:=λ c H=>if c=true then Q true H else u σ H Q
theorem m_kOr (u:TT) (σ:St) (Q:Bool->Hp->Prop) (c:Bool) (H:Hp):(kOr u σ Q c H)=(if c=true then Q true H else u σ H Q):=rfl
theorem m_tOr (t u:TT) (σ:St) (H:Hp) (Q:Bool->Hp->Prop):(tOr t u σ H Q)=(t σ H (kOr u σ Q)):=rfl
def kAndV (tb:TE) (σ:St) (Q:VK):VK:=λ x H=>∃ c,x=.bl c/\if c=true then tb σ H Q else Q (.bl false) H
def kNotV (Q:VK):VK:=λ x H=>∃ c,x=.bl c/\Q (.bl (!c)) H
def kIfE (ta tb:TE) (σ:St) (Q:VK):Bool->Hp->Prop:=λ c H=>if c=true then ta σ H Q else tb σ H Q
theorem m_kIfE (ta tb:TE) (σ:St) (Q:VK) (c:Bool) (H:Hp):(kIfE ta tb σ Q c H)=(if c=true then ta σ H Q else tb σ H Q):=rfl
theorem m_tIf (t:TT) (ta tb:TE) (σ:St) (H:Hp) (Q:VK):(tIf t ta tb σ H Q)=(t σ H (kIfE ta tb σ Q)):=rfl
def kCh3 (r':R2) (y:V) (Q:VK):VK:=λ w H=>r' y w H Q
theorem m_kCh3 (r':R2) (y w:V) (Q:VK) (H:Hp):(kCh3 r' y Q w H)=(r' y w H Q):=rfl
def kCh2 (r':R2) (tc:TE) (σ:St) (y:V) (Q:VK):VK:=λ z H=>∃ k,z=.bl k/\(if k=true then tc σ H (kCh3 r' y Q) else Q (.bl false) H)
def kCh1 (r r':R2) (tc:TE) (σ:St) (x:V) (Q:VK):VK:=λ y H=>r x y H (kCh2 r' tc σ y Q)
def kCh0 (r r':R2) (tb tc:TE) (σ:St) (Q:VK):VK:=λ x H=>tb σ H (kCh1 r r' tc σ x Q)
theorem m_tNil (σ:St) (H:Hp) (Q:List V->Hp->Prop):(tNil σ H Q)=(Q [] H):=rfl
def kCons' (x:V) (Q:List V->Hp->Prop):List V->Hp->Prop:=λ xs H=>Q (x::xs) H
theorem m_kCons' (x:V) (Q:List V->Hp->Prop) (xs:List V) (H:Hp):(kCons' x Q xs H)=(Q (x::xs) H):=rfl
def kCons (tr:TA) (σ:St) (Q:List V->Hp->Prop):VK:=λ x H=>tr σ H (kCons' x Q)
theorem m_kCons (tr:TA) (σ:St) (Q:List V->Hp->Prop) (x:V) (H:Hp):(kCons tr σ Q x H)=(tr σ H (kCons' x Q)):=rfl
theorem m_tCons (ta:TE) (tr:TA) (σ:St) (H:Hp) (Q:List V->Hp->Prop):(tCons ta tr σ H Q)=(ta σ H (kCons tr σ Q)):=rfl
def kCall (sp:Sp) (dvs:List V) (E:XK) (Q:VK):List V->Hp->Prop:=λ vs H=>sp (vs++dvs) H Q E
theorem m_kCall_1 (v0:V) (sp:Sp) (dvs:List V) (E:XK) (Q:VK) (H:Hp):kCall sp dvs E Q [v0] H=sp (v0::dvs) H Q E:=rfl
theorem m_kCall_2 (v0 v1:V) (sp:Sp) (dvs:List V) (E:XK) (Q:VK) (H:Hp):kCall sp dvs E Q [v0,v1] H=sp (v0::v1::dvs) H Q E:=rfl
theorem m_kCall_3 (v0 v1 v2:V) (sp:Sp) (dvs:List V) (E:XK) (Q:VK) (H:Hp):kCall sp dvs E Q [v0,v1,v2] H=sp (v0::v1::v2::dvs) H Q E:=rfl
theorem m_kCall_5 (v0 v1 v2 v3 v4:V) (sp:Sp) (dvs:List V) (E:XK) (Q:VK) (H:Hp):kCall sp dvs E Q [v0,v1,v2,v3,v4] H=sp (v0::v1::v2::v3::v4::dvs) H Q E:=rfl
theorem m_tCall (sp:Sp) (dvs:List V) (E:XK) (t:TA) (σ:St) (H:Hp) (Q:VK):(tCall sp dvs E t σ H Q)=(t σ H (kCall sp dvs E Q)):=rfl
def kCB (r:List V->Hp->VK->Prop) (Q:VK):List V->Hp->Prop:=λ vs H=>r vs H Q
theorem m_kCB (r:List V->Hp->VK->Prop) (Q:VK) (vs:List V) (H:Hp):(kCB r Q vs H)=(r vs H Q):=rfl
theorem m_tCB (r:List V->Hp->VK->Prop) (t:TA) (σ:St) (H:Hp) (Q:VK):(tCB r t σ H Q)=(t σ H (kCB r Q)):=rfl
theorem m_tNext (nx:St->Hp->Prop) (rt:VK) (bk ct:St->Hp->Prop) (σ:St) (H:Hp):(tNext ⟨nx,rt,bk,ct⟩ σ H)=(nx σ H):=rfl
theorem m_tSeq (t u:TS) (nx:St->Hp->Prop) (rt:VK) (bk ct:St->Hp->Prop) (σ:St) (H:Hp):(tSeq t u ⟨nx,rt,bk,ct⟩ σ H)=(t ⟨u ⟨nx,rt,bk,ct⟩,rt,bk,ct⟩ σ H):=rfl
theorem m_tRet (te:TE) (nx:St->Hp->Prop) (rt:VK) (bk ct:St->Hp->Prop) (σ:St) (H:Hp):(tRet te ⟨nx,rt,bk,ct⟩ σ H)=(te σ H rt):=rfl
def kDrop (nx:St->Hp->Prop) (σ:St):VK:=λ x H=>nx σ H
theorem m_kDrop (nx:St->Hp->Prop) (σ:St) (x:V) (H:Hp):(kDrop nx σ x H)=(nx σ H):=rfl
theorem m_tDrop (te:TE) (nx:St->Hp->Prop) (rt:VK) (bk ct:St->Hp->Prop) (σ:St) (H:Hp):(tDrop te ⟨nx,rt,bk,ct⟩ σ H)=(te σ H (kDrop nx σ)):=rfl
def kIfS (t u:TS) (D:Ends) (σ:St):Bool->Hp->Prop:=λ b H=>if b=true then t D σ H else u D σ H
theorem m_kIfS (t u:TS) (D:Ends) (σ:St) (b:Bool) (H:Hp):(kIfS t u D σ b H)=(if b=true then t D σ H else u D σ H):=rfl
theorem m_tIfS (c:TT) (t u:TS) (D:Ends) (σ:St) (H:Hp):(tIfS c t u D σ H)=(c σ H (kIfS t u D σ)):=rfl
def kAsg (g:TG) (σ:St) (nx:St->Hp->Prop):VK:=λ x H=>g x σ H nx
theorem m_kAsg (g:TG) (σ:St) (nx:St->Hp->Prop) (x:V) (H:Hp):(kAsg g σ nx x H)=(g x σ H nx):=rfl
theorem m_tAsg (te:TE) (g:TG) (nx:St->Hp->Prop) (rt:VK) (bk ct:St->Hp->Prop) (σ:St) (H:Hp):(tAsg te g ⟨nx,rt,bk,ct⟩ σ H)=(te σ H (kAsg g σ nx)):=rfl
def kGs (u:TGs) (r:List V) (Q:St->Hp->Prop):St->Hp->Prop:=λ σ' H'=>u r σ' H' Q
theorem m_kGs (u:TGs) (r:List V) (Q:St->Hp->Prop) (σ:St) (H:Hp):(kGs u r Q σ H)=(u r σ H Q):=rfl
end L2
set_option Elab.async false
set_option linter.all false
set_option maxRecDepth 100000
set_option maxHeartbeats 4000000
namespace L2
open PySem PySem.Spec PyProof.Rows
section
variable {X:Cx}
theorem OpR.mono {f:Value->Value->Sem Value}{r r':R2}(h:OpR X f r) (m:∀ x y H Q,r' x y H Q->r x y H Q):OpR X f r':=λ pins s σ H x y v u Q I rx ry hq=>h pins s σ H x y v u Q I rx ry (m _ _ _ _ hq)
theorem CallR.mono {f:Value}{r r':List V->Hp->VK->Prop}(h:CallR X f r) (m:∀ xs H Q,r' xs H Q->r xs H Q):CallR X f r':=λ pins s σ H xs us Q I rx hq=>h pins s σ H xs us Q I rx (m _ _ _ hq)
theorem IxR.mono {r r':R2}(h:IxR X r) (m:∀ x y H Q,r' x y H Q->r x y H Q):IxR X r':=λ a b pins s σ H x y v u Q I rx ry hq=>h a b pins s σ H x y v u Q I rx ry (m _ _ _ _ hq)
theorem SlR.mono {r r':V->Option Int->Option Int->Hp->VK->Prop}(h:SlR X r) (m:∀ x lo hi H Q,r' x lo hi H Q->r x lo hi H Q):SlR X r':=λ pins s σ H x v vl vu lo hi sl Q I rx a b c hq=>h pins s σ H x v vl vu lo hi sl Q I rx a b c (m _ _ _ _ _ hq)
theorem PG.mono {tg:Expr}{g g':TG}(h:PG X tg g) (m:∀ v σ H Q,g' v σ H Q->g v σ H Q):PG X tg g':=λ pins s σ H v u Q I r hq=>h pins s σ H v u Q I r (m _ _ _ _ hq)
theorem items_seq {K:W.Frag}{H:Hp}{p:Addr}{ys:List V}(h:itemsAt H p=some ys):SqL K H p ys\/SqT K H p ys:=by
 unfold itemsAt at h
 cases e:H p with
 | none=>rw [e] at h;cases h
 | some o=>
  rw [e] at h
  have h':seqO o=some ys:=h
  cases o with
  | lst xs=>cases h';exact .inl (SqL.of e)
  | tup xs=>cases h';exact .inr (SqT.of e)
  | frz ob u=>
   cases u with
   | lst xs=>cases h';exact .inl (.inl (.inr ⟨ob,e⟩))
   | _=>cases h'
  | _=>cases h'
theorem lst_of {H:Hp}{p:Addr}{ys:List V}(h:lstAt H p=some ys):H p=some (.lst ys):=by
 unfold lstAt at h
 cases e:H p with
 | none=>rw [e] at h;cases h
 | some o=>
  rw [e] at h
  have h':lstO o=some ys:=h
  cases o with
  | lst xs=>cases h';rfl
  | _=>cases h'
theorem tup_of {H:Hp}{p:Addr}{ys:List V}(h:tupAt H p=some ys):H p=some (.tup ys):=by
 unfold tupAt at h
 cases e:H p with
 | none=>rw [e] at h;cases h
 | some o=>
  rw [e] at h
  have h':tupO o=some ys:=h
  cases o with
  | tup xs=>cases h';rfl
  | _=>cases h'
def kLen (H:Hp) (Q:VK):List V->Prop:=λ ys=>Q (.int ys.length) H
theorem m_kLen (H:Hp) (Q:VK) (ys:List V):kLen H Q ys=Q (.int ys.length) H:=rfl
def qLen (xs:List V) (H:Hp) (Q:VK):Prop:=match xs with
 | [.ref p]=>optK (itemsAt H p) (kLen H Q)
 | [.str z]=>z.length<=sizeLine/\Q (.int z.length) H
 | _=>False
theorem m_qLen (p:Addr) (H:Hp) (Q:VK):qLen [.ref p] H Q=optK (itemsAt H p) (kLen H Q):=rfl
theorem call_qLen:CallR X (.builtin "len") qLen:=by
 refine (call_len_seq.or call_len_str).mono λ xs H Q h=>?_
 unfold qLen at h
 split at h
 ·rename_i p
  obtain ⟨ys,e,q⟩:=optK_ex h
  exact .inl ⟨p,ys,rfl,items_seq e,q⟩
 ·rename_i z
  exact .inr ⟨z,rfl,h.1,h.2⟩
 ·exact h.elim
def kIx' (H:Hp) (Q:VK):V->Prop:=λ v=>Q v H
theorem m_kIx' (H:Hp) (Q:VK) (v:V):kIx' H Q v=Q v H:=rfl
def kIx (i:Int) (H:Hp) (Q:VK):List V->Prop:=λ ys=>optK (atI ys i) (kIx' H Q)
theorem m_kIx (i:Int) (H:Hp) (Q:VK) (ys:List V):kIx i H Q ys=optK (atI ys i) (kIx' H Q):=rfl
def qIx:R2:=λ x y H Q=>match x,y with
 | .ref p,.int i=>optK (itemsAt H p) (kIx i H Q)
 | _,_=>False
theorem m_qIx (p:Addr) (i:Int) (H:Hp) (Q:VK):qIx (.ref p) (.int i) H Q=optK (itemsAt H p) (kIx i H Q):=rfl
theorem ix_q:IxR X qIx:=by
 refine (ix_list.or ix_tup).mono λ x y H Q h=>?_
 unfold qIx at h
 split at h
 ·rename_i p i
  obtain ⟨ys,e,q⟩:=optK_ex h
  obtain ⟨v,e2,q2⟩:=optK_ex q
  rcases items_seq (K:=X.K) e with z|z
  ·exact .inl ⟨p,ys,i,v,rfl,rfl,z,e2,q2⟩
  ·exact .inr ⟨p,ys,i,v,rfl,rfl,z,e2,q2⟩
 ·exact h.elim
theorem atI_0 {α:Type}(a:α) (xs:List α):atI (a::xs) 0=some a:=atI_nat (j:=0) rfl
theorem atI_1 {α:Type}(a b:α) (xs:List α):atI (a::b::xs) 1=some b:=atI_nat (j:=1) rfl
theorem atI_2 {α:Type}(a b c:α) (xs:List α):atI (a::b::c::xs) 2=some c:=atI_nat (j:=2) rfl
def kNewL (H:Hp) (Q:VK):List V->Prop:=λ ys=>∀ l,H l=none->Q (.ref l) (upd H l (.lst ys))
def qList (xs:List V) (H:Hp) (Q:VK):Prop:=match xs with
 | [.ref p]=>optK (itemsAt H p) (kNewL H Q)
 | _=>False
theorem call_qList:CallR X (.type "list") qList:=by
 refine call_list_of.mono λ xs H Q h=>?_
 unfold qList at h
 split at h
 ·rename_i p
  obtain ⟨ys,e,q⟩:=optK_ex h
  exact ⟨p,ys,rfl,items_seq e,q⟩
 ·exact h.elim
def kTupO (p:Addr) (H:Hp) (Q:VK):HO->Prop:=λ o=>match o with
 | .lst ys=>∀ l,H l=none->Q (.ref l) (upd H l (.tup ys))
 | .tup _=>Q (.ref p) H
 | _=>False
def qTuple (xs:List V) (H:Hp) (Q:VK):Prop:=match xs with
 | [.ref p]=>optK (H p) (kTupO p H Q)
 | _=>False
theorem call_qTuple:CallR X (.type "tuple") qTuple:=by
 refine call_tuple_of.mono λ xs H Q h=>?_
 unfold qTuple at h
 split at h
 ·rename_i p
  obtain ⟨o,e,q⟩:=optK_ex h
  unfold kTupO at q
  split at q
  ·rename_i ys;exact ⟨p,ys,rfl,.inl ⟨SqL.of e,q⟩⟩
  ·rename_i ys;exact ⟨p,ys,rfl,.inr ⟨SqT.of e,q⟩⟩
  ·exact q.elim
 ·exact h.elim
def qMax (xs:List V) (H:Hp) (Q:VK):Prop:=match xs with
 | [.int i,.int j]=>Q (.int (if i < j then j else i)) H
 | _=>False
theorem m_qMax (i j:Int) (H:Hp) (Q:VK):qMax [.int i,.int j] H Q=Q (.int (if i < j then j else i)) H:=rfl
theorem call_qMax (hc:X.calm=true):CallR X (.builtin "max") qMax:=by
 refine (call_max2 hc).mono λ xs H Q h=>?_
 unfold qMax at h
 split at h
 ·rename_i i j;exact ⟨i,j,rfl,h⟩
 ·exact h.elim
def qMin (xs:List V) (H:Hp) (Q:VK):Prop:=match xs with
 | [.int i,.int j]=>Q (.int (if j < i then j else i)) H
 | _=>False
theorem m_qMin (i j:Int) (H:Hp) (Q:VK):qMin [.int i,.int j] H Q=Q (.int (if j < i then j else i)) H:=rfl
theorem call_qMin (hc:X.calm=true):CallR X (.builtin "min") qMin:=by
 refine (call_min2 hc).mono λ xs H Q h=>?_
 unfold qMin at h
 split at h
 ·rename_i i j;exact ⟨i,j,rfl,h⟩
 ·exact h.elim
def tyO:HO->Option String
 | .lst _=>some "list"
 | .tup _=>some "tuple"
 | .frz _ (.lst _)=>some "list"
 | .dK _=>some "dict"
 | .dT _=>some "dict"
 | _=>none
theorem tyO_lst (xs:List V):tyO (.lst xs)=some "list":=rfl
theorem tyO_tup (xs:List V):tyO (.tup xs)=some "tuple":=rfl
def tyN (H:Hp):V->Option String
 | .non=>some "NoneType"
 | .bl _=>some "bool"
 | .int _=>some "int"
 | .str _=>some "str"
 | .ref p=>(H p).bind tyO
 | _=>none
theorem tyN_non (H:Hp):tyN H .non=some "NoneType":=rfl
theorem tyN_bl (H:Hp) (b:Bool):tyN H (.bl b)=some "bool":=rfl
theorem tyN_int (H:Hp) (i:Int):tyN H (.int i)=some "int":=rfl
theorem tyN_str (H:Hp) (x:Str):tyN H (.str x)=some "str":=rfl
theorem tyN_ref (H:Hp) (p:Addr):tyN H (.ref p)=(H p).bind tyO:=rfl
theorem tyN_ok {K:W.Frag}{H:Hp}{x:V}{t:String}(h:tyN H x=some t):TyOf K H x (.type t):=by
 cases x with
 | non=>cases h;exact .non
 | bl b=>cases h;exact .bl b
 | int i=>cases h;exact .int i
 | str x=>cases h;exact .str x
 | ref p=>
  have h':(H p).bind tyO=some t:=h
  cases e:H p with
  | none=>rw [e] at h';cases h'
  | some o=>
   rw [e] at h'
   have h2:tyO o=some t:=h'
   cases o with
   | lst xs=>cases h2;exact .lst e
   | tup xs=>cases h2;exact .tup e
   | dK xs=>cases h2;exact .dK e
   | dT xs=>cases h2;exact .dT e
   | frz ob u=>
    cases u with
    | lst xs=>cases h2;exact .frz e
    | _=>cases h2
   | _=>cases h2
 | _=>cases h
def kTypes:List String:=["NoneType", "bool", "int", "str", "list", "tuple", "dict"]
def isiN (t n:String):Bool:=t == n || (t == "bool" && n == "int")
theorem kit_isiN (K:W.Frag):∀ t∈kTypes,∀ n∈kTypes,W.kitOne K (.type t) (.type n)=some (isiN t n):=by
 intro t ht n hn
 unfold kTypes at ht hn
 simp only [List.mem_cons,List.not_mem_nil,or_false] at ht hn
 rcases ht with rfl|rfl|rfl|rfl|rfl|rfl|rfl<;>rcases hn with rfl|rfl|rfl|rfl|rfl|rfl|rfl<;>exact kitOne_ty K _ _ _ (by decide +kernel)
def kIsi (n:String) (H:Hp) (Q:VK):String->Prop:=λ t=>t∈kTypes/\Q (.bl (isiN t n)) H
def qIsi (xs:List V) (H:Hp) (Q:VK):Prop:=match xs with
 | [x,.ty n]=>n∈kTypes/\optK (tyN H x) (kIsi n H Q)
 | _=>False
theorem call_qIsi:CallR X (.builtin "isinstance") qIsi:=by
 refine call_isi.mono λ xs H Q h=>?_
 unfold qIsi at h
 split at h
 ·rename_i x n
  obtain ⟨hn,h⟩:=h
  obtain ⟨t,e,ht,q⟩:=optK_ex h
  exact ⟨x,n,_,_,rfl,tyN_ok e,kit_isiN _ t ht n hn,q⟩
 ·exact h.elim
theorem m_qIsi_int (x:V) (H:Hp) (Q:VK):qIsi [x,.ty "int"] H Q=optK (tyN H x) (kIsi "int" H Q):=by
 unfold qIsi;exact propext ⟨λ h=>h.2,λ h=>⟨by decide,h⟩⟩
theorem m_qIsi_bool (x:V) (H:Hp) (Q:VK):qIsi [x,.ty "bool"] H Q=optK (tyN H x) (kIsi "bool" H Q):=by
 unfold qIsi;exact propext ⟨λ h=>h.2,λ h=>⟨by decide,h⟩⟩
theorem m_qIsi_tuple (x:V) (H:Hp) (Q:VK):qIsi [x,.ty "tuple"] H Q=optK (tyN H x) (kIsi "tuple" H Q):=by
 unfold qIsi;exact propext ⟨λ h=>h.2,λ h=>⟨by decide,h⟩⟩
theorem m_qIsi_list (x:V) (H:Hp) (Q:VK):qIsi [x,.ty "list"] H Q=optK (tyN H x) (kIsi "list" H Q):=by
 unfold qIsi;exact propext ⟨λ h=>h.2,λ h=>⟨by decide,h⟩⟩
theorem m_kIsi_Ni (H:Hp) (Q:VK):kIsi "int" H Q "NoneType"=Q (.bl false) H:=propext ⟨λ h=>h.2,λ h=>⟨by decide,h⟩⟩
theorem m_kIsi_bb (H:Hp) (Q:VK):kIsi "bool" H Q "bool"=Q (.bl true) H:=propext ⟨λ h=>h.2,λ h=>⟨by decide,h⟩⟩
theorem m_kIsi_bi (H:Hp) (Q:VK):kIsi "int" H Q "bool"=Q (.bl true) H:=propext ⟨λ h=>h.2,λ h=>⟨by decide,h⟩⟩
theorem m_kIsi_ib (H:Hp) (Q:VK):kIsi "bool" H Q "int"=Q (.bl false) H:=propext ⟨λ h=>h.2,λ h=>⟨by decide,h⟩⟩
theorem m_kIsi_ii (H:Hp) (Q:VK):kIsi "int" H Q "int"=Q (.bl true) H:=propext ⟨λ h=>h.2,λ h=>⟨by decide,h⟩⟩
theorem m_kIsi_si (H:Hp) (Q:VK):kIsi "int" H Q "str"=Q (.bl false) H:=propext ⟨λ h=>h.2,λ h=>⟨by decide,h⟩⟩
theorem m_kIsi_li (H:Hp) (Q:VK):kIsi "int" H Q "list"=Q (.bl false) H:=propext ⟨λ h=>h.2,λ h=>⟨by decide,h⟩⟩
theorem m_kIsi_ll (H:Hp) (Q:VK):kIsi "list" H Q "list"=Q (.bl true) H:=propext ⟨λ h=>h.2,λ h=>⟨by decide,h⟩⟩
theorem m_kIsi_ti (H:Hp) (Q:VK):kIsi "int" H Q "tuple"=Q (.bl false) H:=propext ⟨λ h=>h.2,λ h=>⟨by decide,h⟩⟩
theorem m_kIsi_tt (H:Hp) (Q:VK):kIsi "tuple" H Q "tuple"=Q (.bl true) H:=propext ⟨λ h=>h.2,λ h=>⟨by decide,h⟩⟩
theorem m_kIsi_di (H:Hp) (Q:VK):kIsi "int" H Q "dict"=Q (.bl false) H:=propext ⟨λ h=>h.2,λ h=>⟨by decide,h⟩⟩
def kBM' (r:V->List V->Hp->VK->Prop) (x:V) (Q:VK):List V->Hp->Prop:=λ xs H=>r x xs H Q
theorem m_kBM' (r:V->List V->Hp->VK->Prop) (x:V) (Q:VK) (xs:List V) (H:Hp):kBM' r x Q xs H=r x xs H Q:=rfl
def kBM (K:W.Frag) (T:String) (r:V->List V->Hp->VK->Prop) (t:TA) (σ:St) (Q:VK):VK:=λ x H=>tyV K T x H/\t σ H (kBM' r x Q)
theorem m_kBM (K:W.Frag) (T:String) (r:V->List V->Hp->VK->Prop) (t:TA) (σ:St) (Q:VK) (x:V) (H:Hp):kBM K T r t σ Q x H=(tyV K T x H/\t σ H (kBM' r x Q)):=rfl
theorem m_tBM (K:W.Frag) (T:String) (r:V->List V->Hp->VK->Prop) (to:TE) (t:TA) (σ:St) (H:Hp) (Q:VK):tBM K T r to t σ H Q=to σ H (kBM K T r t σ Q):=rfl
def kBM0 (K:W.Frag) (T:String) (r:V->List V->Hp->VK->Prop) (Q:VK):VK:=λ x H=>tyV K T x H/\r x [] H Q
theorem m_kBM0 (K:W.Frag) (T:String) (r:V->List V->Hp->VK->Prop) (Q:VK) (x:V) (H:Hp):kBM0 K T r Q x H=(tyV K T x H/\r x [] H Q):=rfl
theorem m_tBM0 (K:W.Frag) (T:String) (r:V->List V->Hp->VK->Prop) (to:TE) (σ:St) (H:Hp) (Q:VK):tBM0 K T r to σ H Q=to σ H (kBM0 K T r Q):=rfl
theorem tyV_list (K:W.Frag) (p:Addr) (H:Hp) (h:(lstAt H p).isSome=true):tyV K "list" (.ref p) H=True:=by
 cases e:lstAt H p with
 | none=>rw [e] at h;cases h
 | some ys=>exact eq_true (.inl ⟨rfl,ys,SqL.of (lst_of e)⟩)
def kApp (l:Addr) (y:V) (H:Hp) (Q:VK):List V->Prop:=λ xs=>xs.length < sizeLine/\Q .non (upd H l (.lst (xs++[y])))
theorem m_kApp (l:Addr) (y:V) (H:Hp) (Q:VK) (xs:List V):kApp l y H Q xs=(xs.length < sizeLine/\Q .non (upd H l (.lst (xs++[y])))):=rfl
theorem m_rAppend (l:Addr) (y:V) (H:Hp) (Q:VK):rAppend (.ref l) [y] H Q=optK (lstAt H l) (kApp l y H Q):=by
 refine propext ⟨λ h=>?_,λ h=>?_⟩
 ·obtain ⟨_,xs,_,e1,e2,e3,a,b⟩:=h
  cases e1;cases e2
  have e:lstAt H l=some xs:=by unfold lstAt;rw [e3];rfl
  rw [e];exact ⟨a,b⟩
 ·obtain ⟨xs,e,a,b⟩:=optK_ex h
  exact ⟨l,xs,y,rfl,rfl,lst_of e,a,b⟩
def kRev (l:Addr) (H:Hp) (Q:VK):List V->Prop:=λ xs=>Q .non (upd H l (.lst xs.reverse))
theorem m_kRev (l:Addr) (H:Hp) (Q:VK) (xs:List V):kRev l H Q xs=Q .non (upd H l (.lst xs.reverse)):=rfl
theorem m_rReverse (l:Addr) (H:Hp) (Q:VK):rReverse (.ref l) [] H Q=optK (lstAt H l) (kRev l H Q):=by
 refine propext ⟨λ h=>?_,λ h=>?_⟩
 ·obtain ⟨_,xs,e1,_,e3,b⟩:=h
  cases e1
  have e:lstAt H l=some xs:=by unfold lstAt;rw [e3];rfl
  rw [e];exact b
 ·obtain ⟨xs,e,b⟩:=optK_ex h
  exact ⟨l,xs,rfl,rfl,lst_of e,b⟩
def kCat2 (xs:List V) (H:Hp) (Q:VK):List V->Prop:=λ ys=>xs.length+ys.length<=sizeLine/\∀ p,H p=none->Q (.ref p) (upd H p (.lst (xs++ys)))
def kCat1 (b:Addr) (H:Hp) (Q:VK):List V->Prop:=λ xs=>optK (lstAt H b) (kCat2 xs H Q)
theorem m_rCat (l b:Addr) (H:Hp) (Q:VK):rCat (.ref l) (.ref b) H Q=optK (lstAt H l) (kCat1 b H Q):=by
 refine propext ⟨λ h=>?_,λ h=>?_⟩
 ·obtain ⟨l',b',xs,zs,e1,e2,e3,e4,hz,hq⟩:=h
  cases e1;cases e2
  have e:lstAt H l=some xs:=by unfold lstAt;rw [e3];rfl
  have e':lstAt H b=some zs:=by unfold lstAt;rw [e4];rfl
  rw [e]
  show optK (lstAt H b) _
  rw [e'];exact ⟨hz,hq⟩
 ·obtain ⟨xs,e,q⟩:=optK_ex h
  obtain ⟨zs,e',a,q⟩:=optK_ex q
  exact ⟨l,b,xs,zs,rfl,rfl,lst_of e,lst_of e',a,q⟩
def kSet' (p:Addr) (xs:List V) (v:V) (H:Hp) (Q:Hp->Prop):Nat->Prop:=λ j=>Q (upd H p (.lst (xs.set j v)))
theorem m_kSet' (p:Addr) (xs:List V) (v:V) (H:Hp) (Q:Hp->Prop) (j:Nat):kSet' p xs v H Q j=Q (upd H p (.lst (xs.set j v))):=rfl
def kSet (p:Addr) (i:Int) (v:V) (H:Hp) (Q:Hp->Prop):List V->Prop:=λ xs=>optK (ixN xs.length i) (kSet' p xs v H Q)
theorem m_kSet (p:Addr) (i:Int) (v:V) (H:Hp) (Q:Hp->Prop) (xs:List V):kSet p i v H Q xs=optK (ixN xs.length i) (kSet' p xs v H Q):=rfl
theorem m_rSetL (p:Addr) (i:Int) (v:V) (H:Hp) (Q:Hp->Prop):rSetL (.ref p) (.int i) v H Q=optK (lstAt H p) (kSet p i v H Q):=by
 refine propext ⟨λ h=>?_,λ h=>?_⟩
 ·obtain ⟨_,xs,_,j,e1,e2,e3,e4,b⟩:=h
  cases e1;cases e2
  have e:lstAt H p=some xs:=by unfold lstAt;rw [e3];rfl
  rw [e]
  show optK (ixN xs.length i) _
  rw [e4];exact b
 ·obtain ⟨xs,e,q⟩:=optK_ex h
  obtain ⟨j,e4,q⟩:=optK_ex q
  exact ⟨p,xs,i,j,rfl,rfl,lst_of e,e4,q⟩
def kGSub3 (t:TSet) (o v:V) (σ:St) (Q:St->Hp->Prop):VK:=λ i H=>t o i v H λ H3=>Q σ H3
theorem m_kGSub3 (t:TSet) (o v:V) (σ:St) (Q:St->Hp->Prop) (i:V) (H:Hp):kGSub3 t o v σ Q i H=t o i v H (Q σ):=rfl
def kGSub2 (ti:TE) (t:TSet) (v:V) (σ:St) (Q:St->Hp->Prop):VK:=λ o H=>ti σ H (kGSub3 t o v σ Q)
theorem m_kGSub2 (ti:TE) (t:TSet) (v:V) (σ:St) (Q:St->Hp->Prop) (o:V) (H:Hp):kGSub2 ti t v σ Q o H=ti σ H (kGSub3 t o v σ Q):=rfl
theorem m_gSub (to ti:TE) (t:TSet) (v:V) (σ:St) (H:Hp) (Q:St->Hp->Prop):gSub to ti t v σ H Q=to σ H (kGSub2 ti t v σ Q):=rfl
def kGT (n:Nat) (t:TGs) (σ:St) (H:Hp) (Q:St->Hp->Prop):List V->Prop:=λ xs=>xs.length=n/\t xs σ H Q
theorem m_kGT (n:Nat) (t:TGs) (σ:St) (H:Hp) (Q:St->Hp->Prop) (xs:List V):kGT n t σ H Q xs=(xs.length=n/\t xs σ H Q):=rfl
def qGT (n:Nat) (t:TGs):TG:=λ v σ H Q=>match v with
 | .ref a=>optK (tupAt H a) (kGT n t σ H Q)
 | _=>False
theorem m_qGT (n:Nat) (t:TGs) (a:Addr) (σ:St) (H:Hp) (Q:St->Hp->Prop):qGT n t (.ref a) σ H Q=optK (tupAt H a) (kGT n t σ H Q):=rfl
theorem gTup_q {K:W.Frag}{n:Nat}{t:TGs}{v:V}{σ:St}{H:Hp}{Q:St->Hp->Prop}(h:qGT n t v σ H Q):gTup K n t v σ H Q:=by
 unfold qGT at h
 split at h
 ·rename_i a
  obtain ⟨xs,e,hl,q⟩:=optK_ex h
  exact ⟨a,xs,rfl,SqT.of (tup_of e),hl,q⟩
 ·exact h.elim
theorem op_qIsnt:OpR X (compareOp .IsNot) rNotN:=op_notN
def kBody (tb:TS) (D:Ends):St->Hp->Prop:=λ σ H=>tb D σ H
theorem m_kBody (tb:TS) (D:Ends) (σ:St) (H:Hp):kBody tb D σ H=tb D σ H:=rfl
def kFor (g:TG) (tb:TS) (D:Ends) (σ:St) (J:It) (H1:Hp):Prop:=∃ W:Nat->Nat->St->Hp->Prop,(∃ m,W 0 m σ H1)/\∀ i m σ H,W i m σ H →
 (J.stop i H/\D.nx σ H)\/(J.go i H/\∃ N:St->Hp->Prop,(∀ σ' H',N σ' H'->∃ m',m' < m/\W (i+1) m' σ' H')/\∀ x H',J.yld i H x H'->g x σ H' λ σ2 H2=>tb { D with nx:=N,ct:=N,bk:=D.nx } σ2 H2)
theorem m_tFor (wi:TI) (g:TG) (tb:TS) (D:Ends) (σ:St) (H:Hp):tFor wi g tb D σ H=wi σ H (kFor g tb D σ):=rfl
def kR1 (R:It->Hp->Prop):List V->Hp->Prop:=λ vs H=>∃ j:Int,vs=[.int j]/\-(2 ^ 62)<=j/\j < 2 ^ 62/\R (Itr 0 j.toNat) H
theorem m_kR1 (R:It->Hp->Prop) (j:Int) (H:Hp):kR1 R [.int j] H=(-(2 ^ 62)<=j/\j < 2 ^ 62/\R (Itr 0 j.toNat) H):=propext ⟨λ ⟨_,e,q⟩=>by cases e;exact q,λ q=>⟨j,rfl,q⟩⟩
theorem m_iRng1 (ta:TA) (σ:St) (H:Hp) (R:It->Hp->Prop):iRng1 ta σ H R=ta σ H (kR1 R):=rfl
def kISq' (K:W.Frag) (a:Addr) (H:Hp) (R:It->Hp->Prop):HO->Prop:=λ o=>match o with
 | .lst _=>R (Itl K a) H
 | .frz _ (.lst _)=>R (Itl K a) H
 | .tup _=>R (Itt K a) H
 | _=>False
theorem m_kISq'_l (K:W.Frag) (a:Addr) (H:Hp) (R:It->Hp->Prop) (xs:List V):kISq' K a H R (.lst xs)=R (Itl K a) H:=rfl
theorem m_kISq'_t (K:W.Frag) (a:Addr) (H:Hp) (R:It->Hp->Prop) (xs:List V):kISq' K a H R (.tup xs)=R (Itt K a) H:=rfl
def kISq (K:W.Frag) (R:It->Hp->Prop):VK:=λ x H=>match x with
 | .ref a=>optK (H a) (kISq' K a H R)
 | _=>False
theorem m_kISq (K:W.Frag) (R:It->Hp->Prop) (a:Addr) (H:Hp):kISq K R (.ref a) H=optK (H a) (kISq' K a H R):=rfl
def iSeq (K:W.Frag) (tl:TE):TI:=λ σ H R=>tl σ H (kISq K R)
theorem m_iSeq (K:W.Frag) (tl:TE) (σ:St) (H:Hp) (R:It->Hp->Prop):iSeq K tl σ H R=tl σ H (kISq K R):=rfl
theorem pi_seq {tg l:Expr}{tl:TE}(hl:PE X l tl):PI X tg l (iSeq X.K tl):=by
 intro pins s σ H R I h
 refine thn (hl pins s σ H _ I h) λ v s1 ⟨x,H1,I1,r1,q1⟩=>?_
 unfold kISq at q1
 split at q1
 ·rename_i a
  cases r1
  obtain ⟨o,e,q⟩:=optK_ex q1
  have fp:∀ b∈[s1.heap.objs.size],FpOk X pins H1 b:=λ b hb=>by
   have e:b=s1.heap.objs.size:=by simpa using hb
   subst e
   exact I1.fpOk (Nat.le_refl _) (I1.hok.fresh (Nat.le_refl _))
  have lst:∀ xs,SqL X.K H1 a xs->R (Itl X.K a) H1->wpAny (model X.prog X.w) X.A (pyIter (.ref a)) (PIE X pins σ tg R) X.xe s1:=λ xs hq q=>by
   obtain ⟨its,rv,p,hz⟩:=I1.list hq
   refine wpAny_pyIter_list p.isList ?_
   exact ⟨s1.heap.objs.size,[s1.heap.objs.size],_,_,H1,rfl,I1.kept (t':=s1.toks) λ b o e=>Heap.get?_push_of_some _ e,turn_list a _,⟨_,Heap.get?_push_size _ rfl,rfl,rfl⟩,fp,q⟩
  unfold kISq' at q
  split at q
  ·exact lst _ (SqL.of e) q
  ·exact lst _ (.inl (.inr ⟨_,e⟩)) q
  ·obtain ⟨its,rv,p,hz⟩:=I1.tuple (SqT.of e)
   refine wpAny_pyIter_tuple (show s1.heap.IsTuple a its.toArray from p) ?_
   exact ⟨s1.heap.objs.size,[s1.heap.objs.size],_,_,H1,rfl,I1.kept (t':=s1.toks) λ b o e=>Heap.get?_push_of_some _ e,turn_tuple a _,⟨_,Heap.get?_push_size _ rfl,rfl,rfl⟩,fp,q⟩
  ·exact q.elim
 ·exact q1.elim
theorem for_rng {lo:Int}{n:Nat}{g:TG}{tb:TS}{nx:St->Hp->Prop}{rt:VK}{bk ct:St->Hp->Prop}{σ:St}{H:Hp}(Pv:Nat->St->Hp->Prop) (h0:Pv 0 σ H)
  (hs:∀ i σ H,i < n->Pv i σ H->g (.int (lo+i)) σ H (kBody tb ⟨Pv (i+1),rt,nx,Pv (i+1)⟩)) (hd:∀ σ H,Pv n σ H->nx σ H):kFor g tb ⟨nx,rt,bk,ct⟩ σ (Itr lo n) H:=for_range Pv h0 hs hd
theorem for_lst {K:W.Frag}{a:Addr}{xs:List V}{g:TG}{tb:TS}{nx:St->Hp->Prop}{rt:VK}{bk ct:St->Hp->Prop}{σ:St}{H:Hp}(Pv:Nat->St->Hp->Prop) (h0:Pv 0 σ H) (hl:∀ i σ H,i<=xs.length->Pv i σ H->H a=some (.lst xs))
  (hs:∀ i x σ H,xs[i]? = some x->Pv i σ H->g x σ H (kBody tb ⟨Pv (i+1),rt,nx,Pv (i+1)⟩)) (hd:∀ σ H,Pv xs.length σ H->nx σ H):kFor g tb ⟨nx,rt,bk,ct⟩ σ (Itl K a) H:=for_list (xs:=xs) Pv h0 (λ i σ H hi p=>SqL.of (hl i σ H hi p)) hs hd
def kWh (tb:TS) (nx:St->Hp->Prop) (rt:VK) (Pv:Nat->St->Hp->Prop) (m:Nat) (σ:St):Bool->Hp->Prop:=λ b H=>if b=true then tb ⟨λ σ' H'=>∃ m',m' < m/\Pv m' σ' H',rt,nx,λ σ' H'=>∃ m',m' < m/\Pv m' σ' H'⟩ σ H else nx σ H
theorem m_kWh (tb:TS) (nx:St->Hp->Prop) (rt:VK) (Pv:Nat->St->Hp->Prop) (m:Nat) (σ:St) (b:Bool) (H:Hp):kWh tb nx rt Pv m σ b H=(if b=true then tb ⟨λ σ' H'=>∃ m',m' < m/\Pv m' σ' H',rt,nx,λ σ' H'=>∃ m',m' < m/\Pv m' σ' H'⟩ σ H else nx σ H):=rfl
theorem while_m {c:TT}{tb:TS}{nx:St->Hp->Prop}{rt:VK}{bk ct:St->Hp->Prop}{σ:St}{H:Hp}(Pv:Nat->St->Hp->Prop) (m0:Nat) (h0:Pv m0 σ H)
  (mono:∀ σ H Q Q',(∀ b H1,Q b H1->Q' b H1)->c σ H Q->c σ H Q')
  (hs:∀ m σ H,Pv m σ H->c σ H (kWh tb nx rt Pv m σ)):tWhile c tb ⟨nx,rt,bk,ct⟩ σ H:=by
 refine ⟨Pv,⟨m0,h0⟩,λ m σ H p=>mono σ H _ _ (λ b H1 q=>?_) (hs m σ H p)⟩
 unfold kWh at q
 cases b with
 | true=>exact ⟨_,λ σ' H' z=>z,q⟩
 | false=>exact q
end
end L2
set_option Elab.async false
set_option linter.all false
set_option maxRecDepth 100000
set_option maxHeartbeats 4000000
namespace L2
open PySem PySem.Spec PyProof.Rows
theorem m_tCallX (sp:Sp) (dvs:List V) (E:St->XK) (t:TA) (σ:St) (H:Hp) (Q:VK):tCallX sp dvs E t σ H Q=t σ H (kCall sp dvs (E σ) Q):=rfl
def kTry (th:Value->Option Addr->TS) (D:Ends):St->XK:=λ σ cls d H=>th cls d D σ H
theorem m_kTry (th:Value->Option Addr->TS) (D:Ends) (σ:St) (cls:Value) (d:Option Addr) (H:Hp):kTry th D σ cls d H=th cls d D σ H:=rfl
theorem m_tTry (tb:(St->XK)->TS) (th:Value->Option Addr->TS) (D:Ends) (σ:St) (H:Hp):tTry tb th D σ H=tb (kTry th D) D σ H:=rfl
def kSetE (i:Nat) (tb:TS) (D:Ends):St->Hp->Prop:=λ σ H=>tb D σ H
theorem m_kSetE (i:Nat) (tb:TS) (D:Ends) (σ:St) (H:Hp):kSetE i tb D σ H=tb D σ H:=rfl
def kExcAs (i:Nat) (tb:TS) (tr:Value->Option Addr->TS) (cls:Value) (d:Option Addr) (D:Ends) (σ:St) (H:Hp):Bool->Prop:=λ b=>if b=true then ∀ (e:Addr) (oe:Obj),H e=none->oe.cls=cls->oe.dict=d->(∃ vs,oe.data=.fields vs)->gName i (.ref e) σ (upd H e (excO oe)) (kSetE i tb (D.del i)) else tr cls d D σ H
theorem m_kExcAs (i:Nat) (tb:TS) (tr:Value->Option Addr->TS) (cls:Value) (d:Option Addr) (D:Ends) (σ:St) (H:Hp) (b:Bool):kExcAs i tb tr cls d D σ H b=(if b=true then ∀ (e:Addr) (oe:Obj),H e=none->oe.cls=cls->oe.dict=d->(∃ vs,oe.data=.fields vs)->gName i (.ref e) σ (upd H e (excO oe)) (kSetE i tb (D.del i)) else tr cls d D σ H):=rfl
theorem m_tExcAs (K:W.Frag) (C:Value) (i:Nat) (tb:TS) (tr:Value->Option Addr->TS) (cls:Value) (d:Option Addr) (D:Ends) (σ:St) (H:Hp):tExcAs K C i tb tr cls d D σ H=optK (W.exmOne K cls C) (kExcAs i tb tr cls d D σ H):=by
 refine propext ⟨λ ⟨b,e,h⟩=>?_,λ h=>?_⟩
 ·rw [e];exact h
 ·obtain ⟨b,e,h⟩:=optK_ex h
  exact ⟨b,e,h⟩
theorem m_del (i:Nat) (nx:St->Hp->Prop) (rt:VK) (bk ct:St->Hp->Prop):Ends.del i ⟨nx,rt,bk,ct⟩=⟨kDel i nx,rt,kDel i bk,kDel i ct⟩:=rfl
def kE4 (H:Hp) (Q:VK):Bool->Prop:=λ b=>Q (.bl b) H
theorem m_kE4 (H:Hp) (Q:VK) (b:Bool):kE4 H Q b=Q (.bl b) H:=rfl
def kC3 (D:Addr) (ys:List V) (N:List V->Hp->Prop):VK:=λ y H=>H D=some (.lst ys)/\ys.length < sizeLine/\N (ys++[y]) (upd H D (.lst (ys++[y])))
def kC2 (te:TE) (σ2:St) (D:Addr) (ys:List V) (N:List V->Hp->Prop):Bool->Hp->Prop:=λ b H=>if b=true then te σ2 H (kC3 D ys N) else N ys H
def kC1 (k:Nat) (tt:TT) (te:TE) (σ:St) (D:Addr) (ys:List V) (N:List V->Hp->Prop):St->Hp->Prop:=λ σ2 H=>(∃ vs:St,vs.length=k/\σ2=vs++σ)/\tt σ2 H (kC2 te σ2 D ys N)
theorem m_tYes (σ:St) (H:Hp) (Q:Bool->Hp->Prop):tYes σ H Q=Q true H:=rfl
def kComp (k:Nat) (g:TG) (tt:TT) (te:TE) (σ:St) (Q:VK):It->Hp->Prop:=λ J H1=>∀ D,H1 D=none->∃ W:Nat->Nat->List V->Hp->Prop,(∃ m,W 0 m [] (upd H1 D (.lst [])))/\∀ i m ys H,W i m ys H →
 (J.stop i H/\Q (.ref D) H)\/(J.go i H/\∃ N:List V->Hp->Prop,(∀ ys' H',N ys' H'->∃ m',m' < m/\W (i+1) m' ys' H') /\
  ∀ x H',J.yld i H x H'->g x (List.replicate k none++σ) H' (kC1 k tt te σ D ys N))
theorem m_tComp (k:Nat) (wi:TI) (g:TG) (tt:TT) (te:TE) (σ:St) (H:Hp) (Q:VK):tComp k wi g tt te σ H Q=wi σ H (kComp k g tt te σ Q):=rfl
def kSetC (i:Nat) (σ:St) (nx:St->Hp->Prop):VK:=λ x H=>gName i x σ H nx
theorem m_kSetC (i:Nat) (σ:St) (nx:St->Hp->Prop) (x:V) (H:Hp):kSetC i σ nx x H=gName i x σ H nx:=rfl
theorem m_tSetC (i:Nat) (te:TE) (nx:St->Hp->Prop) (rt:VK) (bk ct:St->Hp->Prop) (σ:St) (H:Hp):tSetC i te ⟨nx,rt,bk,ct⟩ σ H=te σ H (kSetC i σ nx):=rfl
section
variable {k:Nat}{g:TG}{tt:TT}{te:TE}{σ:St}{Q:VK}{H:Hp}{K:PySem.W.Frag}
end
def allSome {α:Type}:List (Option α)->Option (List α)
 | []=>some []
 | o::r=>o.bind λ x=>(allSome r).map λ xs=>x::xs
def datO (f:V->Option PyData):HO->Option PyData
 | .lst xs=>(allSome (xs.map f)).map .list
 | .tup xs=>(allSome (xs.map f)).map .tuple
 | _=>none
def datF (H:Hp) (f:V->Option PyData):V->Option PyData
 | .non=>some .none
 | .bl b=>some (.bool b)
 | .int i=>some (.int i)
 | .str z=>if PyData.strOk z=true then some (.str z) else none
 | .ref p=>(H p).bind (datO f)
 | _=>none
def datV (H:Hp):Nat->V->Option PyData
 | 0,_=>none
 | n+1,x=>datF H (datV H n) x
def noD:V->Option PyData:=λ _=>none
theorem m_datV (H:Hp) (x:V):datV H 6 x=datF H (datF H (datF H (datF H (datF H (datF H noD))))) x:=rfl
theorem m_datV_str (H:Hp) (n:Nat) (z:Str):datV H (n+1) (.str z)=if PyData.strOk z=true then some (.str z) else none:=rfl
theorem m_datV_ref (H:Hp) (n:Nat) (p:Addr):datV H (n+1) (.ref p)=(H p).bind (datO (datV H n)):=rfl
theorem m_datF_int (H:Hp) (f:V->Option PyData) (i:Int):datF H f (.int i)=some (.int i):=rfl
theorem m_datF_ref (H:Hp) (f:V->Option PyData) (p:Addr):datF H f (.ref p)=(H p).bind (datO f):=rfl
theorem m_datO_lst (f:V->Option PyData) (xs:List V):datO f (.lst xs)=(allSome (xs.map f)).map .list:=rfl
theorem m_datO_tup (f:V->Option PyData) (xs:List V):datO f (.tup xs)=(allSome (xs.map f)).map .tuple:=rfl
theorem m_allSome_nil {α:Type}:allSome ([]:List (Option α))=some []:=rfl
theorem m_allSome_cons {α:Type}(x:α) (r:List (Option α)):allSome (some x::r)=(allSome r).map λ xs=>x::xs:=rfl
theorem allSome_ints (H:Hp) (f:V->Option PyData):∀ ns:List Int,allSome ((ns.map V.int).map (datF H f))=some (ns.map PyData.int)
 | []=>rfl
 | i::r=>by
  show (allSome ((r.map V.int).map (datF H f))).map _=_
  rw [allSome_ints H f r];rfl
theorem datVs_ok {K:W.Frag}{H:Hp}{n:Nat}(ih:∀ x d,datV H n x=some d->DatV K H x d/\d.canLay0=true/\d.depth<=n):∀ (xs:List V) (ds:List PyData),allSome (xs.map (datV H n))=some ds->DatVs K H xs ds/\PyData.canLayAll0 ds=true/\PyData.depthAll ds<=n
 | [],ds,h=>by cases h;exact ⟨.nil,rfl,Nat.zero_le _⟩
 | x::xs,ds,h=>by
  have h':(datV H n x).bind (λ d=>(allSome (xs.map (datV H n))).map λ ds=>d::ds)=some ds:=h
  cases e:datV H n x with
  | none=>rw [e] at h';cases h'
  | some d=>
   rw [e] at h'
   have h2:(allSome (xs.map (datV H n))).map (λ ds=>d::ds)=some ds:=h'
   cases e2:allSome (xs.map (datV H n)) with
   | none=>rw [e2] at h2;cases h2
   | some es=>
    rw [e2] at h2
    cases h2
    obtain ⟨a,b,c⟩:=ih x d e
    obtain ⟨a',b',c'⟩:=datVs_ok ih xs es e2
    exact ⟨.cons a a',by simp [PyData.canLayAll0,b,b'],by simp only [PyData.depthAll];omega⟩
theorem datV_ok {K:W.Frag}{H:Hp}:∀ (n:Nat) (x:V) (d:PyData),datV H n x=some d->DatV K H x d/\d.canLay0=true/\d.depth<=n
 | 0,x,d,h=>by cases h
 | n+1,x,d,h=>by
  cases x with
  | non=>cases h;exact ⟨.non,rfl,Nat.zero_le _⟩
  | bl b=>cases h;exact ⟨.bl b,rfl,Nat.zero_le _⟩
  | int i=>cases h;exact ⟨.int i,rfl,Nat.zero_le _⟩
  | str z=>
   rw [m_datV_str] at h
   split at h
   ·rename_i hz;cases h;exact ⟨.str z,by simpa [PyData.canLay0] using hz,Nat.zero_le _⟩
   ·cases h
  | ref p=>
   rw [m_datV_ref] at h
   cases e:H p with
   | none=>rw [e] at h;cases h
   | some o=>
    rw [e] at h
    have h':datO (datV H n) o=some d:=h
    cases o with
    | lst xs=>
     rw [m_datO_lst] at h'
     cases e2:allSome (xs.map (datV H n)) with
     | none=>rw [e2] at h';cases h'
     | some ds=>
      rw [e2] at h';cases h'
      obtain ⟨a,b,c⟩:=datVs_ok (K:=K) (datV_ok n) xs ds e2
      exact ⟨.lst (SqL.of e) a,by simpa [PyData.canLay0] using b,by simp only [PyData.depth];omega⟩
    | tup xs=>
     rw [m_datO_tup] at h'
     cases e2:allSome (xs.map (datV H n)) with
     | none=>rw [e2] at h';cases h'
     | some ds=>
      rw [e2] at h';cases h'
      obtain ⟨a,b,c⟩:=datVs_ok (K:=K) (datV_ok n) xs ds e2
      exact ⟨.tup (SqT.of e) a,by simpa [PyData.canLay0] using b,by simp only [PyData.depth];omega⟩
    | _=>cases h'
  | _=>cases h
theorem datV_shaped {K:W.Frag}{H:Hp}{n:Nat}{x:V}{d:PyData}(hn:n<=64) (h:datV H n x=some d):DatV K H x d/\SeqAt.shaped d=true:=by
 obtain ⟨a,b,c⟩:=datV_ok (K:=K) n x d h
 refine ⟨a,?_⟩
 unfold SeqAt.shaped
 rw [b,decide_eq_true (show d.depth<=64 by omega)]
 rfl
def kEq2 (neg:Bool) (H:Hp) (Q:VK) (d:PyData):PyData->Prop:=λ e=>Q (.bl (if neg=true then !PyData.eqv d e else PyData.eqv d e)) H
theorem m_kEq2_t (H:Hp) (Q:VK) (d e:PyData):kEq2 true H Q d e=Q (.bl (!PyData.eqv d e)) H:=rfl
theorem m_kEq2_f (H:Hp) (Q:VK) (d e:PyData):kEq2 false H Q d e=Q (.bl (PyData.eqv d e)) H:=rfl
def kEq1 (neg:Bool) (y:V) (H:Hp) (Q:VK):PyData->Prop:=λ d=>optK (datV H 6 y) (kEq2 neg H Q d)
theorem m_kEq1 (neg:Bool) (y:V) (H:Hp) (Q:VK) (d:PyData):kEq1 neg y H Q d=optK (datV H 6 y) (kEq2 neg H Q d):=rfl
def qEq (neg:Bool):R2:=λ x y H Q=>if scal x y=true then Q (.bl (if neg=true then !decide (x=y) else decide (x=y))) H else optK (datV H 6 x) (kEq1 neg y H Q)
theorem m_qEq_refr (neg:Bool) (p:Addr) (x:V) (H:Hp) (Q:VK):qEq neg x (.ref p) H Q=optK (datV H 6 x) (kEq1 neg (.ref p) H Q):=by
 show (if scal x (.ref p)=true then _ else _)=_
 rw [if_neg (by cases x<;>exact Bool.false_ne_true)]
theorem m_qEq_int_int (i:Int) (j:Int) (H:Hp) (Q:VK):qEq false (V.int i) (V.int j) H Q=Q (.bl (decide (i=j))) H:=by
 have e:decide (((V.int i):V)=(V.int j))=decide (i=j):=by simp
 show Q (.bl (if false=true then !decide ((V.int i)=(V.int j)) else decide ((V.int i)=(V.int j)))) H=_
 rw [e];rfl
theorem m_qNe_int_int (i:Int) (j:Int) (H:Hp) (Q:VK):qEq true (V.int i) (V.int j) H Q=Q (.bl (!decide (i=j))) H:=by
 have e:decide (((V.int i):V)=(V.int j))=decide (i=j):=by simp
 show Q (.bl (if true=true then !decide ((V.int i)=(V.int j)) else decide ((V.int i)=(V.int j)))) H=_
 rw [e];rfl
section
variable {X:Cx}
theorem op_qEq (hu:X.A.units+64 < cLine):OpR X (compareOp .Eq) (qEq false):=by
 refine (op_eq.or (op_eqD hu)).mono λ x y H Q h=>?_
 unfold qEq at h
 split at h
 ·rename_i hs;exact .inl ⟨hs,h⟩
 obtain ⟨d,e1,h⟩:=optK_ex h
 obtain ⟨e,e2,h⟩:=optK_ex h
 obtain ⟨a,b⟩:=datV_shaped (K:=X.K) (by decide) e1
 obtain ⟨a',b'⟩:=datV_shaped (K:=X.K) (by decide) e2
 exact .inr ⟨d,e,a,a',b,b',h⟩
theorem op_qNe (hu:X.A.units+64 < cLine):OpR X (compareOp .NotEq) (qEq true):=by
 refine (op_ne.or (op_neD hu)).mono λ x y H Q h=>?_
 unfold qEq at h
 split at h
 ·rename_i hs;exact .inl ⟨hs,h⟩
 obtain ⟨d,e1,h⟩:=optK_ex h
 obtain ⟨e,e2,h⟩:=optK_ex h
 obtain ⟨a,b⟩:=datV_shaped (K:=X.K) (by decide) e1
 obtain ⟨a',b'⟩:=datV_shaped (K:=X.K) (by decide) e2
 exact .inr ⟨d,e,a,a',b,b',h⟩
end
theorem eqv_int (i j:Int):PyData.eqv (.int i) (.int j)=decide (i=j):=Bool.beq_eq_decide_eq i j
theorem eqv_tuple (xs ys:List PyData):PyData.eqv (.tuple xs) (.tuple ys)=PyData.eqvAll xs ys:=by simp only [PyData.eqv]
theorem eqv_list (xs ys:List PyData):PyData.eqv (.list xs) (.list ys)=PyData.eqvAll xs ys:=by simp only [PyData.eqv]
theorem eqvAll_nil:PyData.eqvAll [] []=true:=by simp only [PyData.eqvAll]
theorem eqvAll_cons (x y:PyData) (xs ys:List PyData):PyData.eqvAll (x::xs) (y::ys)=(PyData.eqv x y && PyData.eqvAll xs ys):=by simp only [PyData.eqvAll]
theorem eqvAll_l (x:PyData) (xs:List PyData):PyData.eqvAll (x::xs) []=false:=by simp only [PyData.eqvAll]
theorem eqvAll_r (x:PyData) (xs:List PyData):PyData.eqvAll [] (x::xs)=false:=by simp only [PyData.eqvAll]
theorem eqvAll_ints:∀ ns ms:List Int,PyData.eqvAll (ns.map PyData.int) (ms.map PyData.int)=decide (ns=ms)
 | [],[]=>by rw [List.map_nil,eqvAll_nil];rfl
 | [],_::_=>by rw [List.map_nil,List.map_cons,eqvAll_r];rfl
 | _::_,[]=>by rw [List.map_nil,List.map_cons,eqvAll_l];rfl
 | i::r,j::t=>by
  rw [List.map_cons,List.map_cons,eqvAll_cons,eqv_int,eqvAll_ints r t]
  by_cases h:i=j<;>by_cases h2:r=t<;>simp [h,h2]
end L2
set_option Elab.async false
set_option linter.all false
set_option maxRecDepth 100000
set_option maxHeartbeats 4000000
namespace L2
open PySem PySem.Spec PyProof.Rows
theorem CDiv_eq (i j:Int):CDiv i j=(0 < j/\j < 1073741824):=rfl
theorem CMul_r (i j:Int) (h:-18446744073709551616 < j) (h':j < 18446744073709551616):CMul i j=True:=eq_true (.inr ⟨by omega,by omega⟩)
theorem CPow_10 (j:Int):CPow 10 j=(0<=j/\j<=1000000):=propext ⟨λ h=>⟨h.1,h.2.1⟩,λ h=>⟨h.1,h.2,by decide⟩⟩
theorem lenLe (n:Nat) (h:n<=1000):(n<=sizeLine)=True:=eq_true (Nat.le_of_lt (small1000 h))
theorem lenLt (n:Nat) (h:n<=1000):(n < sizeLine)=True:=eq_true (small1000 h)
theorem Ext.of {H H':Hp}(h:∀ a,(H a).isSome=true->H' a=H a):Ext H H':=⟨h,λ K a xs q=>by
 have s:Same H H':=λ b o e=>(h b (by rw [e];rfl)).trans e
 exact s.seq q⟩
theorem Ext.same {H H':Hp}(h:Ext H H'):Same H H':=λ b o e=>(h.1 b (by rw [e];rfl)).trans e
theorem Same.ext {H H':Hp}(h:Same H H'):Ext H H':=Ext.of λ a q=>by
 cases e:H a with
 | none=>rw [e] at q;cases q
 | some o=>exact h a o e
theorem Ext.refl (H:Hp):Ext H H:=(Same.refl H).ext
theorem Ext.trans {H H1 H2:Hp}(a:Ext H H1) (b:Ext H1 H2):Ext H H2:=(a.same.trans b.same).ext
theorem Ext.new {H:Hp}{p:Addr}{o:HO}(h:H p=none):Ext H (upd H p o):=(same_upd h).ext
theorem Ext.put {H H1:Hp}{p:Addr}{o:HO}(a:Ext H H1) (h:H p=none):Ext H (upd H1 p o):=Same.ext λ b u e=>by
 rw [upd_ne (ne_of_none e h)];exact a.same b u e
theorem Ext.free {H H1:Hp}{p:Addr}(a:Ext H H1) (h:H1 p=none):H p=none:=a.same.free h
theorem Ext.at {H H1:Hp}{p:Addr}{o:HO}(a:Ext H H1) (h:H p=some o):H1 p=some o:=a.same _ _ h
theorem optK_at {xs:List V}{i:Int}{k:V->Prop}(h0:0<=i) (h1:i < xs.length) (h:∀ v∈xs,k v):optK (atI xs i) k:=by
 obtain ⟨v,e,m⟩:=atI_lt xs i h0 h1
 rw [e];exact h v m
theorem cx_K (CX:CXT) (P:Program) (w:World) (K:W.Frag) (mg:Str->Option Value) (base:Heap) (N:List Str) (qual:Str) (scope:Scope) (f:Addr) (cd:Value) (A:Around) (outer:List Env) (s:Shared) (H:Hp) (E:XK):(cxOf CX P w K mg base N qual scope f cd A outer s H E).K=K:=rfl
def isW (H:Hp):V->Option Bool
 | .int _=>some true
 | .bl _=>some false
 | .non=>some false
 | .str _=>some false
 | .ref p=>((H p).bind tyO).map λ _=>false
 | _=>none
theorem isW_int' (H:Hp) (i:Int):isW H (.int i)=some true:=rfl
theorem isW_bl' (H:Hp) (i:Bool):isW H (.bl i)=some false:=rfl
theorem isW_non' (H:Hp):isW H .non=some false:=rfl
theorem isW_str' (H:Hp) (i:Str):isW H (.str i)=some false:=rfl
theorem isW_ref' (H:Hp) (p:Addr):isW H (.ref p)=((H p).bind tyO).map λ _=>false:=rfl
theorem isW_obj {H:Hp}{p:Addr}{b:Bool}(h:isW H (.ref p)=some b):b=false/\∃ o,H p=some o/\(tyO o=some "list" \/ tyO o=some "tuple" \/ tyO o=some "dict"):=by
 rw [isW_ref'] at h
 cases e:H p with
 | none=>rw [e] at h;cases h
 | some o=>
  rw [e] at h
  have h':(tyO o).map (λ _=>false)=some b:=h
  cases e2:tyO o with
  | none=>rw [e2] at h';cases h'
  | some t=>
   rw [e2] at h';cases h'
   refine ⟨rfl,o,rfl,?_⟩
   cases o with
   | lst xs=>exact .inl rfl
   | tup xs=>exact .inr (.inl rfl)
   | dK xs=>exact .inr (.inr rfl)
   | dT xs=>exact .inr (.inr rfl)
   | frz ob u=>cases u with
    | lst xs=>exact .inl rfl
    | _=>cases e2
   | _=>cases e2
end L2
set_option Elab.async false
set_option linter.all false
set_option maxRecDepth 100000
set_option maxHeartbeats 4000000
namespace L2
open PySem PySem.Spec PyProof.Rows
def ME (t:TE):Prop:=∀ σ H (Q Q':VK),(∀ v H,Q v H->Q' v H)->t σ H Q->t σ H Q'
def MT (t:TT):Prop:=∀ σ H (Q Q':Bool->Hp->Prop),(∀ b H,Q b H->Q' b H)->t σ H Q->t σ H Q'
def MA (t:TA):Prop:=∀ σ H (Q Q':List V->Hp->Prop),(∀ b H,Q b H->Q' b H)->t σ H Q->t σ H Q'
def MR (r:R2):Prop:=∀ x y H (Q Q':VK),(∀ v H,Q v H->Q' v H)->r x y H Q->r x y H Q'
theorem optK_mono {α:Type}{o:Option α}{k k':α->Prop}(m:∀ x,k x->k' x) (h:optK o k):optK o k':=by
 obtain ⟨x,e,q⟩:=optK_ex h
 rw [e];exact m x q
theorem mo_var {i:Nat}:ME (tVar i):=λ σ H Q Q' m ⟨v,e,q⟩=>⟨v,e,m _ _ q⟩
theorem mo_op {r:R2}{a b:TE}(hr:MR r) (ha:ME a) (hb:ME b):ME (tOp r a b):=λ σ H Q Q' m q=>ha σ H _ _ (λ _ _ q=>hb σ _ _ _ (λ _ _ q=>hr _ _ _ _ _ m q) q) q
theorem mo_qEq {n:Bool}:MR (qEq n):=λ x y H Q Q' m q=>by
 unfold qEq at q ⊢
 by_cases hs:scal x y=true
 ·rw [if_pos hs] at q ⊢;exact m _ _ q
 ·rw [if_neg hs] at q ⊢;exact optK_mono (λ _ q=>optK_mono (λ _ q=>m _ _ q) q) q
theorem mo_nil:MA tNil:=λ σ H Q Q' m q=>m _ _ q
theorem mo_test {t:TE}(h:ME t):MT (tTest t):=λ σ H Q Q' m q=>h σ H _ _ (λ _ _ ⟨k,e,q⟩=>⟨k,e,m _ _ q⟩) q
theorem while_w {c:TT}{tb:TS}{nx:St->Hp->Prop}{rt:VK}{bk ct:St->Hp->Prop}{σ:St}{H:Hp}(mono:MT c) (Pv:Nat->St->Hp->Prop) (m0:Nat) (h0:Pv m0 σ H)
  (hs:∀ m σ H,Pv m σ H->c σ H (kWh tb nx rt Pv m σ)):tWhile c tb ⟨nx,rt,bk,ct⟩ σ H:=while_m Pv m0 h0 (λ σ H Q Q'=>mono σ H Q Q') hs
theorem ints_inj:∀ {ns ms:List Int},ns.map V.int=ms.map V.int->ns=ms
 | [],[],_=>rfl
 | [],_::_,h=>by cases h
 | _::_,[],h=>by cases h
 | i::r,j::t,h=>by
  simp only [List.map_cons,List.cons.injEq,V.int.injEq] at h
  rw [h.1,ints_inj h.2]
def kInts (F:List Int->Prop):List V->Prop:=λ xs=>∃ ns,xs=ns.map V.int/\F ns
theorem m_kInts (F:List Int->Prop) (ns:List Int):kInts F (ns.map V.int)=F ns:=propext ⟨λ ⟨ms,e,h⟩=>by rw [ints_inj e];exact h,λ h=>⟨ns,rfl,h⟩⟩
theorem optK_ints {xs:List V}{i:Int}{k:V->Prop}(P:Int->Prop) (h0:0<=i) (h1:i < xs.length) (hx:∀ v∈xs,∃ j,v=.int j/\P j) (h:∀ j,P j->k (.int j)):optK (atI xs i) k:=optK_at h0 h1 λ v hv=>by
 obtain ⟨j,rfl,hj⟩:=hx v hv
 exact h j hj
theorem CMulB_of (i j:Int) (h:i.natAbs < 2 ^ 256) (h':j.natAbs < 2 ^ 256):CMulB i j=True:=eq_true ⟨h,h'⟩
def kSlN (lo hi:Option Int) (H:Hp) (Q:VK):List V->Prop:=λ xs=>∀ p,H p=none->Q (.ref p) (upd H p (.lst (cutV xs lo hi)))
def qSlL:V->Option Int->Option Int->Hp->VK->Prop:=λ x lo hi H Q=>match x with
 | .ref a=>optK (lstAt H a) (kSlN lo hi H Q)
 | _=>False
theorem sl_q {X:Cx}:SlR X qSlL:=sl_list.mono λ x lo hi H Q h=>by
 unfold qSlL at h
 split at h
 ·rename_i a
  obtain ⟨xs,e,q⟩:=optK_ex h
  exact ⟨a,xs,rfl,SqL.of (lst_of e),q⟩
 ·exact h.elim
def kSl3 (r:V->Option Int->Option Int->Hp->VK->Prop) (x:V) (l:Option Int) (Q:VK):Option Int->Hp->Prop:=λ u H=>r x l u H Q
theorem m_kSl3 (r:V->Option Int->Option Int->Hp->VK->Prop) (x:V) (l:Option Int) (Q:VK) (u:Option Int) (H:Hp):kSl3 r x l Q u H=r x l u H Q:=rfl
def kSl2 (r:V->Option Int->Option Int->Hp->VK->Prop) (th:TO) (σ:St) (x:V) (Q:VK):Option Int->Hp->Prop:=λ l H=>th σ H (kSl3 r x l Q)
theorem m_kSl2 (r:V->Option Int->Option Int->Hp->VK->Prop) (th:TO) (σ:St) (x:V) (Q:VK) (l:Option Int) (H:Hp):kSl2 r th σ x Q l H=th σ H (kSl3 r x l Q):=rfl
def kSl1 (r:V->Option Int->Option Int->Hp->VK->Prop) (tl th:TO) (σ:St) (Q:VK):VK:=λ x H=>tl σ H (kSl2 r th σ x Q)
theorem m_kSl1 (r:V->Option Int->Option Int->Hp->VK->Prop) (tl th:TO) (σ:St) (Q:VK) (x:V) (H:Hp):kSl1 r tl th σ Q x H=tl σ H (kSl2 r th σ x Q):=rfl
theorem m_tSl (r:V->Option Int->Option Int->Hp->VK->Prop) (te:TE) (tl th:TO) (σ:St) (H:Hp) (Q:VK):tSl r te tl th σ H Q=te σ H (kSl1 r tl th σ Q):=rfl
theorem m_tNoPart (σ:St) (H:Hp) (Q:Option Int->Hp->Prop):tNoPart σ H Q=Q none H:=rfl
def kPart (Q:Option Int->Hp->Prop):VK:=λ x H=>∃ i,x=.int i/\Q (some i) H
theorem m_kPart (Q:Option Int->Hp->Prop) (i:Int) (H:Hp):kPart Q (.int i) H=Q (some i) H:=propext ⟨λ ⟨_,e,q⟩=>by cases e;exact q,λ q=>⟨i,rfl,q⟩⟩
theorem m_tPart (t:TE) (σ:St) (H:Hp) (Q:Option Int->Hp->Prop):tPart t σ H Q=t σ H (kPart Q):=rfl
end L2
set_option Elab.async false
set_option linter.all false
set_option maxRecDepth 100000
set_option maxHeartbeats 4000000
namespace L2
open PySem PySem.Spec PyProof.Rows
def newK (o:HO) (H:Hp) (Q:VK):Prop:=∀ (p:Addr) (H':Hp),H p=none->Ext H H'->H' p=some o->Q (.ref p) H'
theorem newK.to {o:HO}{H:Hp}{Q:VK}(h:newK o H Q):∀ p,H p=none->Q (.ref p) (upd H p o):=λ p hp=>h p _ hp (Ext.new hp) upd_same
def kQT (Q:VK):List V->Hp->Prop:=λ xs H=>xs.length<=sizeLine/\newK (.tup xs) H Q
theorem m_kQT (Q:VK) (xs:List V) (H:Hp):kQT Q xs H=(xs.length<=sizeLine/\newK (.tup xs) H Q):=rfl
def kQL (Q:VK):List V->Hp->Prop:=λ xs H=>xs.length<=sizeLine/\newK (.lst xs) H Q
theorem m_kQL (Q:VK) (xs:List V) (H:Hp):kQL Q xs H=(xs.length<=sizeLine/\newK (.lst xs) H Q):=rfl
def qTup (t:TA):TE:=λ σ H Q=>t σ H (kQT Q)
theorem m_qTup (t:TA) (σ:St) (H:Hp) (Q:VK):qTup t σ H Q=t σ H (kQT Q):=rfl
def qLst (t:TA):TE:=λ σ H Q=>t σ H (kQL Q)
theorem m_qLst (t:TA) (σ:St) (H:Hp) (Q:VK):qLst t σ H Q=t σ H (kQL Q):=rfl
section
variable {X:Cx}{es:List Expr}{t:TA}{pos:Pos}
theorem pe_qTup {x1}(h:PA X es t):PE X (.Tuple es x1 pos) (qTup t):=by
 intro pins s σ H Q I hq
 refine wpAny_Tuple_spliced (thn (h pos pins s σ H _ I hq) λ us s1 ⟨xs,H1,I1,r,z,q⟩=>⟨by rw [←r.length];exact z,?_⟩)
 have hf:H1 s1.heap.objs.size=none:=I1.hok.fresh (Nat.le_refl _)
 refine ⟨.ref s1.heap.objs.size,upd H1 s1.heap.objs.size (.tup xs),I1.laid (t':=s1.toks) (λ b u e=>Heap.get?_push_of_some _ e) (Nat.le_refl _) ?_,rfl,q.to _ hf⟩
 exact ⟨z,us,r,⟨_,Heap.get?_push_size _ rfl,rfl,_,rfl⟩⟩
theorem pe_qLst (h:PA X es t):PE X (.List es pos) (qLst t):=by
 intro pins s σ H Q I hq
 refine wpAny_List_spliced (thn (h pos pins s σ H _ I hq) λ us s1 ⟨xs,H1,I1,r,z,q⟩=>⟨by rw [←r.length];exact z,?_⟩)
 have hf:H1 s1.heap.objs.size=none:=I1.hok.fresh (Nat.le_refl _)
 refine ⟨.ref s1.heap.objs.size,upd H1 s1.heap.objs.size (.lst xs),I1.laid (t':=s1.toks) (λ b u e=>Heap.get?_push_of_some _ e) (Nat.le_refl _) ?_,rfl,q.to _ hf⟩
 exact ⟨z,us,0,r,Heap.get?_push_size _ rfl⟩
end
def kN (f:List V->HO) (H:Hp) (Q:VK):List V->Prop:=λ ys=>newK (f ys) H Q
theorem m_kN (f:List V->HO) (H:Hp) (Q:VK) (ys:List V):kN f H Q ys=newK (f ys) H Q:=rfl
def nList (xs:List V) (H:Hp) (Q:VK):Prop:=match xs with
 | [.ref p]=>optK (itemsAt H p) (kN .lst H Q)
 | _=>False
theorem m_nList (p:Addr) (H:Hp) (Q:VK):nList [.ref p] H Q=optK (itemsAt H p) (kN .lst H Q):=rfl
theorem call_nList {X:Cx}:CallR X (.type "list") nList:=call_qList.mono λ xs H Q h=>by
 unfold nList at h
 split at h
 ·exact optK_mono (λ _ q=>q.to) h
 ·exact h.elim
def kNT (p:Addr) (H:Hp) (Q:VK):HO->Prop:=λ o=>match o with
 | .lst ys=>newK (.tup ys) H Q
 | .tup _=>Q (.ref p) H
 | _=>False
theorem m_kNT_l (p:Addr) (H:Hp) (Q:VK) (ys:List V):kNT p H Q (.lst ys)=newK (.tup ys) H Q:=rfl
def nTuple (xs:List V) (H:Hp) (Q:VK):Prop:=match xs with
 | [.ref p]=>optK (H p) (kNT p H Q)
 | _=>False
theorem m_nTuple (p:Addr) (H:Hp) (Q:VK):nTuple [.ref p] H Q=optK (H p) (kNT p H Q):=rfl
theorem call_nTuple {X:Cx}:CallR X (.type "tuple") nTuple:=call_qTuple.mono λ xs H Q h=>by
 unfold nTuple at h
 split at h
 ·refine optK_mono (λ o q=>?_) h
  unfold kNT at q
  unfold kTupO
  split at q
  ·exact q.to
  ·exact q
  ·exact q.elim
 ·exact h.elim
def kNC2 (xs:List V) (H:Hp) (Q:VK):List V->Prop:=λ ys=>xs.length+ys.length<=sizeLine/\newK (.lst (xs++ys)) H Q
def kNC1 (b:Addr) (H:Hp) (Q:VK):List V->Prop:=λ xs=>optK (lstAt H b) (kNC2 xs H Q)
def nCat:R2:=λ x y H Q=>match x,y with
 | .ref l,.ref b=>optK (lstAt H l) (kNC1 b H Q)
 | _,_=>False
theorem m_nCat (l b:Addr) (H:Hp) (Q:VK):nCat (.ref l) (.ref b) H Q=optK (lstAt H l) (kNC1 b H Q):=rfl
theorem op_nCat {X:Cx}:OpR X (binaryOp .Add) nCat:=op_cat.mono λ x y H Q h=>by
 unfold nCat at h
 split at h
 ·rw [m_rCat]
  exact optK_mono (λ _ q=>optK_mono (λ _ q=>⟨q.1,q.2.to⟩) q) h
 ·exact h.elim
def kNS (lo hi:Option Int) (H:Hp) (Q:VK):List V->Prop:=λ xs=>newK (.lst (cutV xs lo hi)) H Q
theorem m_kNS (lo hi:Option Int) (H:Hp) (Q:VK) (xs:List V):kNS lo hi H Q xs=newK (.lst (cutV xs lo hi)) H Q:=rfl
def nSl:V->Option Int->Option Int->Hp->VK->Prop:=λ x lo hi H Q=>match x with
 | .ref a=>optK (lstAt H a) (kNS lo hi H Q)
 | _=>False
theorem m_nSl (a:Addr) (lo hi:Option Int) (H:Hp) (Q:VK):nSl (.ref a) lo hi H Q=optK (lstAt H a) (kNS lo hi H Q):=rfl
theorem sl_n {X:Cx}:SlR X nSl:=sl_q.mono λ x lo hi H Q h=>by
 unfold nSl at h
 split at h
 ·exact optK_mono (λ _ q=>q.to) h
 ·exact h.elim
theorem PE.mono {X:Cx}{e:Expr}{t t':TE}(h:PE X e t) (m:∀ σ H Q,t' σ H Q->t σ H Q):PE X e t':=λ pins s σ H Q I q=>h pins s σ H Q I (m _ _ _ q)
def nDNew:TE:=λ _ H Q=>newK (.dK []) H Q
theorem m_nDNew (σ:St) (H:Hp) (Q:VK):nDNew σ H Q=newK (.dK []) H Q:=rfl
theorem pe_nDNew {X:Cx}{pos:Pos}:PE X (.Dict [] [] pos) nDNew:=pe_dnewK.mono λ _ _ _ h=>h.to
end L2
set_option Elab.async false
set_option linter.all false
set_option maxRecDepth 100000
set_option maxHeartbeats 4000000
namespace L2
open PySem PySem.Spec PyProof.Rows
section
variable {prog:Program}{w:World}{A:Around}{E:Value->Shared->Prop}{s:Shared}
end
section
variable {X:Cx}{pos:Pos}
end
end L2
set_option Elab.async false
set_option linter.all false
set_option maxRecDepth 100000
set_option maxHeartbeats 4000000
namespace L2
open PySem PySem.Spec PyProof.Rows
def Itv (K:W.Frag) (a:Addr) (xs:List V):It:=
 ⟨λ i H=>SqL K H a xs/\i < xs.length,λ i H x H'=>H'=H/\xs[xs.length - 1 - i]? = some x,λ i _=>i=xs.length⟩
theorem turn_rev {P:Program}{w:World}{K:W.Frag}{tg:Expr}(a it:Addr) (xs:List V):Turn P w K tg (Itv K a xs) [it] it (λ i h=>i<=xs.length/\h.IsRevIter it a ((xs.length:Int) - 1 - (i:Int))) where
 mem:=by simp
 obj:=λ i h st b hb=>by
  have e:b=it:=by simpa using hb
  subst e
  obtain ⟨_,o,e,c,d⟩:=st
  exact ⟨o,e,λ v z=>by rw [d] at z;cases z⟩
 keep:=λ i h h' st k=>⟨st.1,st.2.at λ o e=>k it (by simp) o e⟩
 item:=by
  intro X hP hw hK hc i pins s σ H E I hf st hg
  subst hP hw hK
  obtain ⟨hq,hlt⟩:=hg
  obtain ⟨its,rv,p,hz⟩:=I.list hq
  have hx:xs[xs.length - 1 - i]? = some (xs[xs.length - 1 - i]'(by omega)):=List.getElem?_eq_getElem (by omega)
  obtain ⟨u,hu,ru⟩:=rv.get hx
  obtain ⟨f0,f1,f2,f3,f4,f5⟩:=hf it (by simp)
  have st1:=st.2
  rw [show ((xs.length:Int) - 1 - (i:Int))=((xs.length - 1 - i:Nat):Int) by omega] at st1
  refine wpAny_pyNext_rev_item st1 p.isList (x:=u) (by simpa using hu) λ h' st' sb=>?_
  have I1:Inv X pins σ H { s with heap:=h' }:=I.turned (t':=s.toks) (λ b o hb e=>(sb.2 b hb).trans e) f0 f1 f3 f4 f5
  obtain ⟨o,e,c,d⟩:=id st'
  rw [show (((xs.length - 1 - i:Nat):Int) - 1)=(xs.length:Int) - 1 - ((i+1:Nat):Int) by omega] at st'
  exact ⟨u,rfl,go_of (s:={ s with heap:=h' }) e c d (by decide) ⟨_,H,I1,ru,⟨rfl,hx⟩,⟨hlt,st'⟩,λ b hb=>(hf b hb).1⟩⟩
 done:=by
  intro X hP hw hK hc i pins s σ H E I hf st hg
  subst hP hw hK
  have e:i=xs.length:=hg
  subst e
  obtain ⟨f0,f1,f2,f3,f4,f5⟩:=hf it (by simp)
  have st1:=st.2
  rw [show ((xs.length:Int) - 1 - (xs.length:Int))=-1 by omega] at st1
  exact wpAny_pyNext_rev_end (I.ok.hd hc) st1 λ h' eb=>⟨rfl,I.turned (t':=s.toks) (λ b o hb e=>eb b o hb e) f0 f1 f3 f4 f5⟩
 self:=λ _ _ _ _ _ st h=>wpAny_pyIter_revIter st.2 h
def kRvJ (K:W.Frag) (a:Addr) (H:Hp) (R:It->Hp->Prop):List V->Prop:=λ xs=>R (Itv K a xs) H
theorem m_kRvJ (K:W.Frag) (a:Addr) (H:Hp) (R:It->Hp->Prop) (xs:List V):kRvJ K a H R xs=R (Itv K a xs) H:=rfl
def kRvI (K:W.Frag) (R:It->Hp->Prop):List V->Hp->Prop:=λ vs H=>match vs with
 | [.ref a]=>optK (lstAt H a) (kRvJ K a H R)
 | _=>False
theorem m_kRvI (K:W.Frag) (R:It->Hp->Prop) (a:Addr) (H:Hp):kRvI K R [.ref a] H=optK (lstAt H a) (kRvJ K a H R):=rfl
def iRev (K:W.Frag) (ta:TA):TI:=λ σ H R=>ta σ H (kRvI K R)
theorem m_iRev (K:W.Frag) (ta:TA) (σ:St) (H:Hp) (R:It->Hp->Prop):iRev K ta σ H R=ta σ H (kRvI K R):=rfl
section
variable {X:Cx}{tg:Expr}
theorem pi_rev {a:Expr}{ta:TA}{p pos:Pos}(hg:Gl X "reversed") (hm:X.mg "reversed"=none) (ha:PA X [a] ta) (hs:starEach [a] X.env=[(false,eval a X.env)]:=by rfl):PI X tg (.Call (.Name "reversed" p) [a] [] pos) (iRev X.K ta):=by
 intro pins s σ H R I h
 refine Call_ (ld_blt I hg hm (show bootBuiltins "reversed"=some (.type "reversed") by decide +kernel) (PyProof.Rows.callWith_type1 (thn (ha pos pins s σ H _ I h) λ us s1 ⟨vs,H1,I1,r1,q1⟩=>?_) hs rfl))
 unfold kRvI at q1
 split at q1
 ·rename_i b
  obtain ⟨xs,e,q⟩:=optK_ex q1
  cases r1 with
  | cons r rr=>
   cases rr
   cases r
   obtain ⟨its,rv,pl,hz⟩:=I1.list (SqL.of (lst_of e))
   refine call_reversed_list pl.isList ?_
   have hsz:(its.toArray.size:Int)=(xs.length:Int):=by rw [←rv.length.symm];simp
   have I2:Inv X pins σ H1 { s1 with heap:=s1.heap.push (revObj b ((its.toArray.size:Int) - 1)) }:=I1.kept (t':=s1.toks) λ b o e=>Heap.get?_push_of_some _ e
   have hit:(s1.heap.push (revObj b ((its.toArray.size:Int) - 1))).IsRevIter s1.heap.objs.size b ((xs.length:Int) - 1 - ((0:Nat):Int)):=⟨_,Heap.get?_push_size _ rfl,rfl,by rw [hsz];simp [revObj]⟩
   refine wpAny_pyIter_revIter hit ⟨s1.heap.objs.size,[s1.heap.objs.size],_,_,H1,rfl,I2,turn_rev b _ xs,⟨Nat.zero_le _,hit⟩,λ c hb=>?_,q⟩
   have e:c=s1.heap.objs.size:=by simpa using hb
   subst e
   exact I1.fpOk (Nat.le_refl _) (I1.hok.fresh (Nat.le_refl _))
 ·exact q1.elim
end
theorem for_rev {K:W.Frag}{a:Addr}{xs:List V}{g:TG}{tb:TS}{nx:St->Hp->Prop}{rt:VK}{bk ct:St->Hp->Prop}{σ:St}{H:Hp}(Pv:Nat->St->Hp->Prop) (h0:Pv 0 σ H) (hl:∀ i σ H,i<=xs.length->Pv i σ H->SqL K H a xs)
  (hs:∀ i x σ H,i < xs.length->xs[xs.length - 1 - i]? = some x->Pv i σ H->g x σ H (kBody tb ⟨Pv (i+1),rt,nx,Pv (i+1)⟩)) (hd:∀ σ H,Pv xs.length σ H->nx σ H):kFor g tb ⟨nx,rt,bk,ct⟩ σ (Itv K a xs) H:=by
 refine ⟨λ i m σ H=>m=xs.length - i/\i<=xs.length/\Pv i σ H,⟨xs.length,by simp,Nat.zero_le _,h0⟩,?_⟩
 rintro i m σ H ⟨rfl,hi,p⟩
 have q:=hl i σ H hi p
 by_cases hlt:i < xs.length
 ·refine .inr ⟨⟨q,hlt⟩,Pv (i+1),λ σ' H' p'=>⟨xs.length - (i+1),by omega,rfl,hlt,p'⟩,λ x H' y=>?_⟩
  obtain ⟨e,y⟩:=y
  subst e
  exact hs i x σ _ hlt y p
 ·have e:i=xs.length:=by omega
  subst e
  exact .inl ⟨rfl,hd σ H p⟩
end L2
set_option Elab.async false
set_option linter.all false
set_option maxRecDepth 100000
set_option maxHeartbeats 4000000
namespace L2
open PySem PySem.Spec PyProof.Rows
theorem preSum_ints:∀ (n:Nat) (ns:List Int) (val:Nat->Int),(∀ i,val i=ns.getD i 0)->n<=ns.length->preSum val n=(ns.take n).sum
 | 0,ns,val,h,hl=>by simp [preSum]
 | n+1,ns,val,h,hl=>by
  have ih:=preSum_ints n ns val h (by omega)
  have e:ns.take (n+1)=ns.take n++[ns.getD n 0]:=by
   rw [List.take_succ,List.getElem?_eq_getElem (by omega)]
   simp [List.getD,List.getElem?_eq_getElem (show n < ns.length by omega)]
  rw [preSum,ih,e,List.sum_append,h]
  simp
def kSumI (H:Hp) (Q:VK):List Int->Prop:=λ ns=>Q (.int ns.sum) H
theorem m_kSumI (H:Hp) (Q:VK) (ns:List Int):kSumI H Q ns=Q (.int ns.sum) H:=rfl
def qSum:List V->Hp->VK->Prop:=λ vs H Q=>match vs with
 | [.ref p]=>optK (lstAt H p) (kInts (kSumI H Q))
 | _=>False
theorem m_qSum (p:Addr) (H:Hp) (Q:VK):qSum [.ref p] H Q=optK (lstAt H p) (kInts (kSumI H Q)):=rfl
def kBls (F:List Bool->Prop):List V->Prop:=λ xs=>∃ bs,xs=bs.map V.bl/\F bs
theorem bls_inj:∀ {ns ms:List Bool},ns.map V.bl=ms.map V.bl->ns=ms
 | [],[],_=>rfl
 | [],_::_,h=>by cases h
 | _::_,[],h=>by cases h
 | i::r,j::t,h=>by
  simp only [List.map_cons,List.cons.injEq,V.bl.injEq] at h
  rw [h.1,bls_inj h.2]
theorem m_kBls (F:List Bool->Prop) (bs:List Bool):kBls F (bs.map V.bl)=F bs:=propext ⟨λ ⟨ms,e,h⟩=>by rw [bls_inj e];exact h,λ h=>⟨bs,rfl,h⟩⟩
def kAllB (H:Hp) (Q:VK):List Bool->Prop:=λ bs=>Q (.bl (bs.all id)) H
theorem m_kAllB (H:Hp) (Q:VK) (bs:List Bool):kAllB H Q bs=Q (.bl (bs.all id)) H:=rfl
def qAll:List V->Hp->VK->Prop:=λ vs H Q=>match vs with
 | [.ref p]=>optK (lstAt H p) (kBls (kAllB H Q))
 | _=>False
theorem m_qAll (p:Addr) (H:Hp) (Q:VK):qAll [.ref p] H Q=optK (lstAt H p) (kBls (kAllB H Q)):=rfl
section
variable {X:Cx}
theorem call_qSum (hc:X.calm=true):CallR X (.builtin "sum") qSum:=by
 intro pins s σ H vs us Q I r h
 unfold qSum at h
 split at h
 ·rename_i p
  obtain ⟨xs,e,ns,rfl,q⟩:=optK_ex h
  cases r with
  | cons r rr=>
   cases rr
   cases r
   obtain ⟨its,rv,pl,hz⟩:=I.list (SqL.of (lst_of e))
   have hlt:p < s.heap.objs.size:=by obtain ⟨_,e,_⟩:=pl.isList;exact Heap.lt_size e
   have hlen:its.length=ns.length:=by have:=rv.length;simpa using this.symm
   refine call_sum_walkAnyS (wpAny_pyIter_list pl.isList ⟨s.heap.objs.size,_,_,_,_,_,_,λ i=>ns.getD i 0,rfl,(Walks.list (show X.A.in1.handled=none from I.ok.hd hc) _ p (Nat.ne_of_lt hlt) its.toArray).toS,⟨⟨_,Heap.get?_push_size _ rfl,rfl,rfl⟩,pl.isList.push _⟩,λ b hb=>?_,λ i v hP=>?_,λ s' t' hm=>?_⟩)
   ·rw [Heap.size_push]
    rcases List.mem_cons.mp hb with rfl|hb
    ·exact Nat.lt_succ_self _
    ·rw [List.mem_singleton.mp hb];exact Nat.lt_succ_of_lt hlt
   ·have hv:its[i]? = some v:=by simpa using hP
    have hi:i < ns.length:=by rw [←hlen];exact (List.getElem?_eq_some_iff.mp hv).1
    obtain ⟨u,hu,ru⟩:=rv.get (i:=i) (x:=.int (ns.getD i 0)) (by rw [List.getElem?_map,List.getElem?_eq_getElem hi];simp [List.getD,List.getElem?_eq_getElem hi])
    rw [hv] at hu
    cases hu
    exact ru
   ·obtain ⟨hp,g,d,tk,os⟩:=s'
    have kp:∀ b o,s.heap.get? b=some o->hp.get? b=some o:=λ b o e=>hm.heap b o (λ hmem=>by
     have:b=s.heap.objs.size:=by simpa using hmem
     subst this
     exact absurd (Heap.lt_size e) (Nat.lt_irrefl _)) (Heap.get?_push_of_some _ e)
    have e1:g=s.gens:=hm.gens
    have e2:d=s.drawn:=hm.drawn
    have e3:os=s.os:=hm.os
    subst e1 e2 e3
    refine ⟨.int ns.sum,H,I.kept (t':=tk) kp,?_,q⟩
    have es:=preSum_ints its.toArray.size ns (λ i=>ns.getD i 0) (λ _=>rfl) (by simp [hlen])
    rw [show its.toArray.size=ns.length by simp [hlen],List.take_length] at es
    rw [show its.toArray.size=ns.length by simp [hlen],es]
    exact ⟨t',rfl⟩
 ·exact h.elim
theorem all_range (bs:List Bool):(List.range bs.length).all (λ i=>bs.getD i false)=bs.all id:=by
 rw [Bool.eq_iff_iff,List.all_eq_true,List.all_eq_true]
 refine ⟨λ h x hx=>?_,λ h i hi=>?_⟩
 ·obtain ⟨i,hi,e⟩:=List.getElem_of_mem hx
  have:=h i (List.mem_range.mpr hi)
  simpa [List.getD,List.getElem?_eq_getElem hi,e] using this
 ·have hi':=List.mem_range.mp hi
  have:=h (bs[i]) (List.getElem_mem hi')
  simpa [List.getD,List.getElem?_eq_getElem hi'] using this
theorem call_qAll (hc:X.calm=true):CallR X (.builtin "all") qAll:=by
 intro pins s σ H vs us Q I r h
 unfold qAll at h
 split at h
 ·rename_i p
  obtain ⟨xs,e,bs,rfl,q⟩:=optK_ex h
  cases r with
  | cons r rr=>
   cases rr
   cases r
   obtain ⟨its,rv,pl,hz⟩:=I.list (SqL.of (lst_of e))
   have hlt:p < s.heap.objs.size:=by obtain ⟨_,e,_⟩:=pl.isList;exact Heap.lt_size e
   have hlen:its.length=bs.length:=by have:=rv.length;simpa using this.symm
   refine call_all_walk (wpAny_pyIter_list pl.isList ⟨s.heap.objs.size,_,_,_,_,_,λ i=>bs.getD i false,rfl,Walks.list (show X.A.in1.handled=none from I.ok.hd hc) _ p (Nat.ne_of_lt hlt) its.toArray,⟨⟨_,Heap.get?_push_size _ rfl,rfl,rfl⟩,pl.isList.push _⟩,λ i v s' Q' E' hP hQ=>?_,λ h' tk hk=>?_⟩)
   ·have hv:its[i]? = some v:=by simpa using hP
    have hi:i < bs.length:=by rw [←hlen];exact (List.getElem?_eq_some_iff.mp hv).1
    obtain ⟨u,hu,ru⟩:=rv.get (i:=i) (x:=.bl (bs.getD i false)) (by rw [List.getElem?_map,List.getElem?_eq_getElem hi];simp [List.getD,List.getElem?_eq_getElem hi])
    rw [hv] at hu
    cases hu
    have e2:v=.bool (bs.getD i false):=ru
    subst e2
    exact wpAny_truthy_bool hQ
   ·have kp:∀ b o,s.heap.get? b=some o->h'.get? b=some o:=λ b o e=>hk b o (λ hmem=>by
     have:b=s.heap.objs.size:=by simpa using hmem
     subst this
     exact absurd (Heap.lt_size e) (Nat.lt_irrefl _)) (Heap.get?_push_of_some _ e)
    refine ⟨.bl (bs.all id),H,I.kept (t':=tk) kp,?_,q⟩
    rw [show its.toArray.size=bs.length by simp [hlen],all_range]
    exact rfl
 ·exact h.elim
end
end L2
set_option Elab.async false
set_option linter.all false
set_option maxRecDepth 100000
set_option maxHeartbeats 4000000
namespace L2
open PySem PySem.Spec PyProof.Rows
structure Src (prog:Program) (w:World) (it:Addr) (fr:List Addr) (st:Nat->Heap->Prop) (val:Nat->Option Value):Prop where
 mem:it∈fr
 there:∀ k h,st k h->∀ b∈fr,∃ o,h.get? b=some o
 keep:∀ k h h',st k h->(∀ b∈fr,∀ o,h.get? b=some o->h'.get? b=some o)->st k h'
 item:∀ (A:Around) k s v (Q:Value->Shared->Prop) (E:Value->Shared->Prop),st k s.heap->val k=some v->(∀ h',st (k+1) h'->Heap.SameBut it s.heap h'->Q v { s with heap:=h' })->wpAny (model prog w) A (Builtin.SmallTypes.nextOf (.ref it)) Q E s
 fin:∀ (A:Around) k s (Q:Value->Shared->Prop) (E:Value->Shared->Prop),A.handled=none->st k s.heap->val k=none->(∀ h' e,Heap.ExtBut it s.heap h'->(∃ o,h'.get? e=some o/\o.cls=.type "StopIteration")->E (.ref e) { s with heap:=h' })->wpAny (model prog w) A (Builtin.SmallTypes.nextOf (.ref it)) Q E s
theorem src_list {prog:Program}{w:World}(it l:Addr) (hne:l ≠ it) (xs:Array Value):Src prog w it [it,l] (λ k h=>h.IsListIter it l k/\h.IsList l xs) (λ k=>xs[k]?) where
 mem:=List.mem_cons_self
 there:=λ k h st b hb=>by
  rcases List.mem_cons.mp hb with e|hb
  ·obtain ⟨o,q,_⟩:=st.1;exact ⟨o,by rw [e];exact q⟩
  ·obtain ⟨o,q,_⟩:=st.2;exact ⟨o,by rw [List.mem_singleton.mp hb];exact q⟩
 keep:=λ k h h' st q=>⟨st.1.at λ o e=>q it (by simp) o e,st.2.at λ o e=>q l (by simp) o e⟩
 item:=λ A k s v Q E st hv hQ=>wpAny_nextOf_list_item st.1 st.2 hv λ h' a b=>hQ h' ⟨a,st.2.extBut b.extBut hne⟩ b
 fin:=λ A k s Q E hh st hv hE=>wpAny_nextOf_list_end hh st.1 st.2 hv hE
section
variable {prog:Program}{w:World}{A:Around}{E:Value->Shared->Prop}{s:Shared}
theorem next_tup_item {j t:Addr}{k:Nat}{xs:Array Value}{v:Value}{Q:Value->Shared->Prop}(hj:s.heap.IsTupleIter j t k) (ht:s.heap.IsTuple t xs) (hv:xs[k]? = some v)
  (hQ:∀ g,g.IsTupleIter j t (k+1)->Heap.SameBut j s.heap g->Q v { s with heap:=g }):wpAny (model prog w) A (Builtin.SmallTypes.nextOf (.ref j)) Q E s:=by
 obtain ⟨oj,h0,h1,h2⟩:=id hj
 obtain ⟨ot,g0,_,n,g1⟩:=ht
 unfold Builtin.SmallTypes.nextOf
 refine wpAny_bind (wpAny_callSpecial?_slot (name:=Str.ofString "__next__") hj.typeIs F.slot_tuple_iterator_next (wpAny_call_entry F.slot_tuple_iterator_next hj.typeIs F.entry_tuple_iterator_next ?_ (F.args_tuple_iterator_next_1 _)))
 refine wpAny_bind (m:=field (.ref j) 0) (wpAny_field h0 h2 (x:=.ref t) rfl ?_)
 show wpAny _ _ (if (Value.ref t == Value.none)=true then _ else _) _ _ _
 rw [if_neg (show ¬ ((.ref t:Value) == .none)=true from Bool.false_ne_true)]
 refine wpAny_bind (m:=field (.ref j) 1) (wpAny_field h0 h2 (x:=.int k 0) rfl ?_)
 refine wpAny_bind (m:=seqItems? (.ref t)) (wpAny_seqItems g0 g1 ?_)
 simp only [Int.toNat_natCast,hv]
 refine wpAny_bind (wpAny_setField h0 h2 (by simp) (wpAny_pure ⟨v,rfl,wpAny_pure (hQ _ ⟨_,Heap.get?_update_self _ h0 (Obj.isFreed_of_fields (Obj.data_mapFields h2 _)),(Obj.cls_mapFields ..).trans h1,?_⟩ (Heap.SameBut.update ..))⟩))
 rw [Obj.data_mapFields h2];simp [rawInt]
theorem next_tup_end {j t:Addr}{k:Nat}{xs:Array Value}{Q:Value->Shared->Prop}(hh:A.handled=none) (hj:s.heap.IsTupleIter j t k) (ht:s.heap.IsTuple t xs) (hv:xs[k]? = none)
  (hE:∀ g e,Heap.ExtBut j s.heap g->(∃ o,g.get? e=some o/\o.cls=.type "StopIteration")->E (.ref e) { s with heap:=g }):wpAny (model prog w) A (Builtin.SmallTypes.nextOf (.ref j)) Q E s:=by
 obtain ⟨oj,h0,h1,h2⟩:=id hj
 obtain ⟨ot,g0,_,n,g1⟩:=ht
 unfold Builtin.SmallTypes.nextOf
 refine wpAny_bind (wpAny_callSpecial?_slot (name:=Str.ofString "__next__") hj.typeIs F.slot_tuple_iterator_next (wpAny_call_entry F.slot_tuple_iterator_next hj.typeIs F.entry_tuple_iterator_next ?_ (F.args_tuple_iterator_next_1 _)))
 refine wpAny_bind (m:=field (.ref j) 0) (wpAny_field h0 h2 (x:=.ref t) rfl ?_)
 show wpAny _ _ (if (Value.ref t == Value.none)=true then _ else _) _ _ _
 rw [if_neg (show ¬ ((.ref t:Value) == .none)=true from Bool.false_ne_true)]
 refine wpAny_bind (m:=field (.ref j) 1) (wpAny_field h0 h2 (x:=.int k 0) rfl ?_)
 refine wpAny_bind (m:=seqItems? (.ref t)) (wpAny_seqItems g0 g1 ?_)
 simp only [Int.toNat_natCast,hv]
 refine wpAny_bind (wpAny_rule (wpAny_bind (wpAny_setField h0 h2 (by simp) (wpAny_bind (m:=newExc (.type "StopIteration") []) ?_))))
 simp only [newExc,newTuple]
 refine wpAny_bind (wpAny_newObj_type (wpAny_bind (m:=firstArgMember _ _) (wpAny_of_eq (a:=Value.none) (by first|rfl|(simp only [firstArgMember];rfl)) (wpAny_newObj_type ?_ (by size_fits)))) (by size_fits))
 simp only [raiseNew]
 refine wpAny_bind (wpAny_handled ?_);first|rw [show A.in1.handled=none from hh]|rw [hh]
 exact wpAny_bind (wpAny_pure (wpAny_throw (hE _ _ (((Heap.SameBut.update ..).extBut.push _).push _) ⟨_,Heap.get?_push_size _ rfl,rfl⟩)))
theorem src_tup (it l:Addr) (hne:l ≠ it) (xs:Array Value):Src prog w it [it,l] (λ k h=>h.IsTupleIter it l k/\h.IsTuple l xs) (λ k=>xs[k]?) where
 mem:=List.mem_cons_self
 there:=λ k h st b hb=>by
  rcases List.mem_cons.mp hb with e|hb
  ·obtain ⟨o,q,_⟩:=st.1;exact ⟨o,by rw [e];exact q⟩
  ·obtain ⟨o,q,_⟩:=st.2;exact ⟨o,by rw [List.mem_singleton.mp hb];exact q⟩
 keep:=λ k h h' st q=>⟨st.1.at λ o e=>q it (by simp) o e,st.2.at λ o e=>q l (by simp) o e⟩
 item:=λ A k s v Q E st hv hQ=>next_tup_item st.1 st.2 hv λ h' a b=>hQ h' ⟨a,st.2.extBut b.extBut hne⟩ b
 fin:=λ A k s Q E hh st hv hE=>next_tup_end hh st.1 st.2 hv hE
structure Apart2 (z TI TO i j:Addr) (f g:List Addr):Prop where
 ti:TI ≠ z/\TI ≠ TO/\TI ≠ i/\TI ≠ j
 zt:z ≠ TO
 zf:z ∉ f
 zg:z ∉ g
 tf:TO ∉ f
 tg:TO ∉ g
 ig:i ∉ g
 jf:j ∉ f
variable {z TI TO i j:Addr}{f g:List Addr}{ti tj:Nat->Heap->Prop}{vi vj:Nat->Option Value}{k m:Nat}{x y a b:Value}
theorem ne_mem {p q:Addr}{l:List Addr}(hp:p∈l) (hq:q ∉ l):p ≠ q:=λ e=>hq (e ▸ hp)
theorem Src.but {prog:Program}{w:World}{it:Addr}{fr:List Addr}{st:Nat->Heap->Prop}{val:Nat->Option Value}(S:Src prog w it fr st val){k:Nat}{c:Addr}{h h':Heap}(q:st k h) (e:Heap.ExtBut c h h') (hc:c ∉ fr):st k h':=
 S.keep k h h' q λ b hb o ho=>e b o (ne_mem hb hc) ho
theorem zip2_item (S:Src prog w i f ti vi) (T:Src prog w j g tj vj) (D:Apart2 z TI TO i j f g){Q:Value->Shared->Prop}
  (hz:IsZip s.heap z TI TO .none) (hTI:IsPair s.heap TI (.ref i) (.ref j)) (hTO:IsPair s.heap TO a b) (hi:ti k s.heap) (hj:tj m s.heap) (hx:vi k=some x) (hy:vj m=some y)
  (hQ:∀ h',IsZip h' z TI TO (rawInt s.heap.objs.size)->IsPair h' TO x y->ti (k+1) h'->tj (m+1) h'->IsPair h' s.heap.objs.size x y->h'.objs.size=s.heap.objs.size+1->(∀ c o,c ∉ [z,TO,i,j]->s.heap.get? c=some o->h'.get? c=some o)->Q (.ref s.heap.objs.size) { s with heap:=h' }) :
  wpAny (model prog w) A (Builtin.«zip.__next__» ⟨[.ref z],[]⟩) (λ fin s'=>∃ v,fin=.done (.ret v)/\Q v s') E s:=by
 have iz:i ≠ z:=ne_mem S.mem D.zf
 have jz:j ≠ z:=ne_mem T.mem D.zg
 have iTO:i ≠ TO:=ne_mem S.mem D.tf
 have jTO:j ≠ TO:=ne_mem T.mem D.tg
 have ij:i ≠ j:=ne_mem S.mem D.jf
 refine wpAny_bind (m:=field (.ref z) 2) (wpAny_field hz rfl (x:=.bool false) rfl ?_)
 refine wpAny_bind (m:=field (.ref z) 3) (wpAny_field hz rfl (x:=.ref TI) rfl (wpAny_bind (wpAny_seqItems hTI rfl ?_)))
 refine wpAny_bind (m:=Builtin.SmallTypes.ownedTupleIsFree (.ref z)) ?_
 unfold Builtin.SmallTypes.ownedTupleIsFree
 refine wpAny_bind (wpAny_field hz rfl (x:=.none) rfl (wpAny_pure ?_));simp only [if_true]
 refine wpAny_bind (wpAny_rule (wpAny_bind (wpAny_field hz rfl (x:=.ref TO) rfl (wpAny_bind (wpAny_setField_rec hz (by simp) λ q1 z1 s1=>?_)))))
 replace z1:IsZip q1 z TI TO .ellipsis:=z1
 refine wpAny_bind ?_;simp only [List.zipIdx_cons,List.zipIdx_nil,List.forIn_cons,List.forIn_nil]
 refine wpAny_bind (wpAny_bind (wpAny_onRaise (wpAny_bind (m:=Builtin.SmallTypes.nextOf (.ref i)) (S.item _ k _ x _ _ (S.but hi s1.extBut D.zf) hx λ q2 i2 s2=>wpAny_pure ?_))))
 have o2:IsPair q2 TO a b:=s2.extBut _ _ iTO.symm (s1.extBut _ _ D.zt.symm hTO)
 refine wpAny_bind (wpAny_seqItems o2 rfl (wpAny_bind (wpAny_updateSeq_pair o2 λ q3 o3 s3=>wpAny_bind (wpAny_letGo (wpAny_pure ?_)))))
 replace o3:IsPair q3 TO x b:=o3
 have j3:tj m q3:=T.but (T.but (T.but hj s1.extBut D.zg) s2.extBut D.ig) s3.extBut D.tg
 refine wpAny_bind (wpAny_bind (wpAny_onRaise (wpAny_bind (m:=Builtin.SmallTypes.nextOf (.ref j)) (T.item _ m _ y _ _ j3 hy λ q4 j4 s4=>wpAny_pure ?_))))
 have o4:IsPair q4 TO x b:=s4.extBut _ _ jTO.symm o3
 refine wpAny_bind (wpAny_seqItems o4 rfl (wpAny_bind (wpAny_updateSeq_pair o4 λ q5 o5 s5=>wpAny_bind (wpAny_letGo (wpAny_pure (wpAny_pure ?_))))))
 replace o5:IsPair q5 TO x y:=o5
 refine wpAny_bind (wpAny_seqItems o5 rfl (wpAny_bind (wpAny_newTuple ?_)))
 have sz:q5.objs.size=s.heap.objs.size:=by rw [s5.1,s4.1,s3.1,s2.1,s1.1]
 have z5:IsZip q5 z TI TO .ellipsis:=s5.extBut _ _ D.zt (s4.extBut _ _ jz.symm (s3.extBut _ _ D.zt (s2.extBut _ _ iz.symm z1)))
 have k5:∀ c o,c ∉ [z,TO,i,j]->s.heap.get? c=some o->q5.get? c=some o:=λ c o hc e=>by
  simp only [List.mem_cons,List.not_mem_nil,or_false,not_or] at hc
  exact s5.extBut _ _ hc.2.1 (s4.extBut _ _ hc.2.2.2 (s3.extBut _ _ hc.2.1 (s2.extBut _ _ hc.2.2.1 (s1.extBut _ _ hc.1 e))))
 have i5:ti (k+1) q5:=S.but (S.but (S.but i2 s3.extBut D.tf) s4.extBut D.jf) s5.extBut D.tf
 have j5:tj (m+1) q5:=T.but j4 s5.extBut D.tg
 have zlt:z < q5.objs.size:=Heap.lt_size z5
 refine wpAny_bind (m:=Builtin.SmallTypes.ownedTupleHandOut (.ref z) (.ref q5.objs.size)) ?_
 unfold Builtin.SmallTypes.ownedTupleHandOut
 have z6:IsZip (q5.push { cls:=.type "tuple",data:=.seq #[x,y] }) z TI TO .ellipsis:=Heap.get?_push_of_some _ z5
 refine wpAny_bind (wpAny_setField_rec z6 (by simp) λ q7 z7 s7=>?_)
 replace z7:IsZip q7 z TI TO (rawInt q5.objs.size):=z7
 refine wpAny_setField_rec z7 (by simp) λ q8 z8 s8=>?_
 replace z8:IsZip q8 z TI TO (rawInt q5.objs.size):=z8
 have up:∀ c o,c ≠ z->q5.get? c=some o->q8.get? c=some o:=λ c o hc e=>s8.extBut _ _ hc (s7.extBut _ _ hc (Heap.get?_push_of_some _ e))
 have t8:IsPair q8 q5.objs.size x y:=s8.extBut _ _ (Nat.ne_of_gt zlt) (s7.extBut _ _ (Nat.ne_of_gt zlt) (Heap.get?_push_size _ rfl))
 have n8:q8.objs.size=q5.objs.size+1:=by rw [s8.1,s7.1,Heap.size_push]
 rw [sz] at z8 t8 n8
 refine wpAny_pure ⟨_,rfl,?_⟩
 show Q (.ref q5.objs.size) _
 rw [sz]
 exact hQ q8 z8 (up _ _ D.zt.symm o5) (S.keep _ _ _ i5 λ c hc o e=>up c o (ne_mem hc D.zf) e) (T.keep _ _ _ j5 λ c hc o e=>up c o (ne_mem hc D.zg) e) t8 n8 λ c o hc e=>up c o (λ q=>hc (by simp [q])) (k5 c o hc e)
theorem zip2_end (hh:A.handled=none) (S:Src prog w i f ti vi) (T:Src prog w j g tj vj) (D:Apart2 z TI TO i j f g){Q:Fin->Shared->Prop}
  (hz:IsZip s.heap z TI TO .none) (hTI:IsPair s.heap TI (.ref i) (.ref j)) (hTO:IsPair s.heap TO a b) (hi:ti k s.heap) (hj:tj m s.heap) (hxy:vi k=none\/vj m=none)
  (hE:∀ h' e,(∀ c o,c ∉ [z,TO,i,j]->s.heap.get? c=some o->h'.get? c=some o)->(∃ o,h'.get? e=some o/\o.cls=.type "StopIteration")->E (.ref e) { s with heap:=h' }) :
  wpAny (model prog w) A (Builtin.«zip.__next__» ⟨[.ref z],[]⟩) Q E s:=by
 have iz:i ≠ z:=ne_mem S.mem D.zf
 have jz:j ≠ z:=ne_mem T.mem D.zg
 have iTO:i ≠ TO:=ne_mem S.mem D.tf
 have jTO:j ≠ TO:=ne_mem T.mem D.tg
 refine wpAny_bind (m:=field (.ref z) 2) (wpAny_field hz rfl (x:=.bool false) rfl ?_)
 refine wpAny_bind (m:=field (.ref z) 3) (wpAny_field hz rfl (x:=.ref TI) rfl (wpAny_bind (wpAny_seqItems hTI rfl ?_)))
 refine wpAny_bind (m:=Builtin.SmallTypes.ownedTupleIsFree (.ref z)) ?_
 unfold Builtin.SmallTypes.ownedTupleIsFree
 refine wpAny_bind (wpAny_field hz rfl (x:=.none) rfl (wpAny_pure ?_));simp only [if_true]
 refine wpAny_bind (wpAny_rule (wpAny_bind (wpAny_field hz rfl (x:=.ref TO) rfl (wpAny_bind (wpAny_setField_rec hz (by simp) λ q1 z1 s1=>?_)))))
 replace z1:IsZip q1 z TI TO .ellipsis:=z1
 refine wpAny_bind ?_;simp only [List.zipIdx_cons,List.zipIdx_nil,List.forIn_cons,List.forIn_nil]
 refine wpAny_bind (wpAny_bind (wpAny_onRaise (wpAny_bind (m:=Builtin.SmallTypes.nextOf (.ref i)) ?_)))
 cases hx:vi k with
 | none=>
  refine S.fin _ k _ _ _ hh (S.but hi s1.extBut D.zf) hx λ q2 e s2 ⟨oe,he,hce⟩=>?_
  have z2:IsZip q2 z TI TO .ellipsis:=s2 _ _ iz.symm z1
  have ez:e ≠ z:=λ q=>by subst q;rw [z2] at he;cases he;simp at hce
  refine wpAny_setField_rec z2 (by simp) λ q3 _ s3=>hE q3 e (λ c o hc q=>?_) ⟨oe,s3.extBut _ _ ez he,hce⟩
  simp only [List.mem_cons,List.not_mem_nil,or_false,not_or] at hc
  exact s3.extBut _ _ hc.1 (s2 _ _ hc.2.2.1 (s1.extBut _ _ hc.1 q))
 | some x=>
  have hy:vj m=none:=hxy.resolve_left (by rw [hx];exact Option.some_ne_none x)
  refine S.item _ k _ x _ _ (S.but hi s1.extBut D.zf) hx λ q2 i2 s2=>wpAny_pure ?_
  have o2:IsPair q2 TO a b:=s2.extBut _ _ iTO.symm (s1.extBut _ _ D.zt.symm hTO)
  refine wpAny_bind (wpAny_seqItems o2 rfl (wpAny_bind (wpAny_updateSeq_pair o2 λ q3 o3 s3=>wpAny_bind (wpAny_letGo (wpAny_pure ?_)))))
  have j3:tj m q3:=T.but (T.but (T.but hj s1.extBut D.zg) s2.extBut D.ig) s3.extBut D.tg
  refine wpAny_bind (wpAny_bind (wpAny_onRaise (wpAny_bind (m:=Builtin.SmallTypes.nextOf (.ref j)) (T.fin _ m _ _ _ hh j3 hy λ q4 e s4 ⟨oe,he,hce⟩=>?_))))
  have z4:IsZip q4 z TI TO .ellipsis:=s4 _ _ jz.symm (s3.extBut _ _ D.zt (s2.extBut _ _ iz.symm z1))
  have ez:e ≠ z:=λ q=>by subst q;rw [z4] at he;cases he;simp at hce
  refine wpAny_setField_rec z4 (by simp) λ q5 _ s5=>hE q5 e (λ c o hc q=>?_) ⟨oe,s5.extBut _ _ ez he,hce⟩
  simp only [List.mem_cons,List.not_mem_nil,or_false,not_or] at hc
  exact s5.extBut _ _ hc.1 (s4 _ _ hc.2.2.2 (s3.extBut _ _ hc.2.1 (s2.extBut _ _ hc.2.2.1 (s1.extBut _ _ hc.1 q))))
theorem zip2_next_item (S:Src prog w i f ti vi) (T:Src prog w j g tj vj) (D:Apart2 z TI TO i j f g){Q:Option Value->Shared->Prop}
  (hz:IsZip s.heap z TI TO .none) (hTI:IsPair s.heap TI (.ref i) (.ref j)) (hTO:IsPair s.heap TO a b) (hi:ti k s.heap) (hj:tj m s.heap) (hx:vi k=some x) (hy:vj m=some y)
  (hQ:∀ h',IsZip h' z TI TO (rawInt s.heap.objs.size)->IsPair h' TO x y->ti (k+1) h'->tj (m+1) h'->IsPair h' s.heap.objs.size x y->h'.objs.size=s.heap.objs.size+1->(∀ c o,c ∉ [z,TO,i,j]->s.heap.get? c=some o->h'.get? c=some o)->Q (some (.ref s.heap.objs.size)) { s with heap:=h' }) :
  wpAny (model prog w) A (pyNext (.ref z)) Q E s:=by
 have ty:s.TypeIs (.ref z) "zip":=⟨_,hz,rfl⟩
 unfold pyNext
 exact wpAny_bind (wpAny_attempt (wpAny_callSpecial?_slot (name:=Str.ofString "__next__") ty F.slot_zip_next (wpAny_call_entry F.slot_zip_next ty F.entry_zip_next (zip2_item S T D hz hTI hTO hi hj hx hy λ h' c1 c2 c3 c4 c5 c6 c7=>wpAny_pure (hQ h' c1 c2 c3 c4 c5 c6 c7)) (F.args_zip_next_1 _))))
theorem zip2_next_end (hh:A.handled=none) (S:Src prog w i f ti vi) (T:Src prog w j g tj vj) (D:Apart2 z TI TO i j f g){Q:Option Value->Shared->Prop}
  (hz:IsZip s.heap z TI TO .none) (hTI:IsPair s.heap TI (.ref i) (.ref j)) (hTO:IsPair s.heap TO a b) (hi:ti k s.heap) (hj:tj m s.heap) (hxy:vi k=none\/vj m=none)
  (hQ:∀ h',(∀ c o,c ∉ [z,TO,i,j]->s.heap.get? c=some o->h'.get? c=some o)->Q none { s with heap:=h' }):wpAny (model prog w) A (pyNext (.ref z)) Q E s:=by
 have ty:s.TypeIs (.ref z) "zip":=⟨_,hz,rfl⟩
 unfold pyNext
 refine wpAny_bind (wpAny_attempt (wpAny_callSpecial?_slot (name:=Str.ofString "__next__") ty F.slot_zip_next (wpAny_call_entry F.slot_zip_next ty F.entry_zip_next (zip2_end (show A.in1.handled=none from hh) S T D hz hTI hTO hi hj hxy λ h' e kp he=>?_) (F.args_zip_next_1 _))))
 obtain ⟨o,ho,hc⟩:=he
 exact wpAny_bind (wpAny_isInstance (T := "StopIteration") (b:=true) ⟨o,ho,hc⟩ isSubtype_stop (wpAny_pure (hQ _ kp)))
end
end L2
set_option Elab.async false
set_option linter.all false
set_option maxRecDepth 100000
set_option maxHeartbeats 4000000
namespace L2
open PySem PySem.Spec PyProof.Rows
def SeqAt (h:Heap) (k:Bool) (l:Addr) (xs:Array Value):Prop:=match k with
 | true=>h.IsTuple l xs
 | false=>h.IsList l xs
def IterAt (h:Heap) (k:Bool) (it l:Addr) (n:Nat):Prop:=match k with
 | true=>h.IsTupleIter it l n
 | false=>h.IsListIter it l n
def itObj (k:Bool) (l:Addr):Obj:=match k with
 | true=>{ cls:=.type "tuple_iterator",data:=.fields #[.ref l,.int 0 0] }
 | false=>{ cls:=.type "list_iterator",data:=.fields #[.ref l,.int 0 0] }
theorem SeqAt.at {h h':Heap}{k:Bool}{l:Addr}{xs:Array Value}(q:SeqAt h k l xs) (e:∀ o,h.get? l=some o->h'.get? l=some o):SeqAt h' k l xs:=by
 cases k
 ·exact Heap.IsList.at q e
 ·exact Heap.IsTuple.at q e
theorem SeqAt.obj {h:Heap}{k:Bool}{l:Addr}{xs:Array Value}(q:SeqAt h k l xs):∃ o n,h.get? l=some o/\o.data=.seq xs n:=by
 cases k
 ·obtain ⟨o,e,_,n,d⟩:=(show h.IsList l xs from q);exact ⟨o,n,e,d⟩
 ·obtain ⟨o,e,_,n,d⟩:=(show h.IsTuple l xs from q);exact ⟨o,n,e,d⟩
theorem IterAt.at {h h':Heap}{k:Bool}{it l:Addr}{n:Nat}(q:IterAt h k it l n) (e:∀ o,h.get? it=some o->h'.get? it=some o):IterAt h' k it l n:=by
 cases k
 ·exact Heap.IsListIter.at q e
 ·exact Heap.IsTupleIter.at q e
theorem IterAt.obj {h:Heap}{k:Bool}{it l:Addr}{n:Nat}(q:IterAt h k it l n):∃ o fs,h.get? it=some o/\o.data=.fields fs:=by
 cases k
 ·obtain ⟨o,e,_,d⟩:=(show h.IsListIter it l n from q);exact ⟨o,_,e,d⟩
 ·obtain ⟨o,e,_,d⟩:=(show h.IsTupleIter it l n from q);exact ⟨o,_,e,d⟩
theorem src_sq {prog:Program}{w:World}(k:Bool) (it l:Addr) (hne:l ≠ it) (xs:Array Value):Src prog w it [it,l] (λ n h=>IterAt h k it l n/\SeqAt h k l xs) (λ n=>xs[n]?):=by
 cases k
 ·exact src_list it l hne xs
 ·exact src_tup it l hne xs
section
variable {prog:Program}{w:World}{A:Around}{E:Value->Shared->Prop}{s:Shared}
theorem iter_sq {k:Bool}{l:Addr}{xs:Array Value}{Q:Value->Shared->Prop}(h:SeqAt s.heap k l xs) (hQ:Q (.ref s.heap.objs.size) { s with heap:=s.heap.push (itObj k l) }):wpAny (model prog w) A (pyIter (.ref l)) Q E s:=by
 cases k
 ·exact wpAny_pyIter_list h hQ
 ·exact wpAny_pyIter_tuple h hQ
abbrev zq1 (ka:Bool) (a:Addr) (h:Heap):Heap:=h.push (itObj ka a)
abbrev zq2 (ka kb:Bool) (a b:Addr) (h:Heap):Heap:=(zq1 ka a h).push (itObj kb b)
abbrev zq3 (ka kb:Bool) (a b:Addr) (h:Heap):Heap:=(zq2 ka kb a b h).push { cls:=.type "tuple",data:=.seq #[.ref h.objs.size,.ref (zq1 ka a h).objs.size] }
abbrev zq4 (ka kb:Bool) (a b:Addr) (h:Heap):Heap:=(zq3 ka kb a b h).push { cls:=.type "tuple",data:=.seq #[.none,.none] }
abbrev zq5 (ka kb:Bool) (a b:Addr) (h:Heap):Heap:=(zq4 ka kb a b h).push { cls:=.type "zip",data:=.fields #[.none,.bool false,.bool false,.ref (zq2 ka kb a b h).objs.size,.ref (zq3 ka kb a b h).objs.size] }
theorem zip_meets (ka kb:Bool) (a b:Addr) (xs ys:Array Value):Meets (Builtin.«zip.__new__» ⟨[.type "zip",.ref a,.ref b],[]⟩) (λ _ R s=>SeqAt s.heap ka a xs/\SeqAt s.heap kb b ys/\R (.ok (.ret (.ref (zq4 ka kb a b s.heap).objs.size))) { s with heap:=zq5 ka kb a b s.heap }):=
 .of_wp λ prog w A R s h=>by
  obtain ⟨hp,g,d,tk,os⟩:=s;obtain ⟨h1,h2,h⟩:=h;have hsub:=sub_zip
  have q1:SeqAt (Shared.heap ⟨hp,g,d,tk,os⟩) ka a xs:=h1
  have q2:SeqAt (Shared.heap ⟨hp.push (itObj ka a),g,d,tk,os⟩) kb b ys:=h2.at λ o e=>Heap.get?_push_of_some _ e
  wp_walk using iter_sq q1,iter_sq q2
  exact ⟨_,rfl,h⟩
theorem call_zq {ka kb:Bool}{a b:Addr}{xs ys:Array Value}{Q:Value->Shared->Prop}(h1:SeqAt s.heap ka a xs) (h2:SeqAt s.heap kb b ys)
  (h:∀ h' n,n=s.heap.objs.size->IsZip h' (n+4) (n+2) (n+3) .none->IsPair h' (n+2) (.ref n) (.ref (n+1))->IsPair h' (n+3) .none .none->IterAt h' ka n a 0->IterAt h' kb (n+1) b 0->h'.objs.size=n+5->(∀ c o,s.heap.get? c=some o->h'.get? c=some o)->Q (.ref (n+4)) { s with heap:=h' }) :
  wpAny (model prog w) A (call (.type "zip") [.ref a,.ref b]) Q E s:=by
 refine callType_new F.called_zip (by decide) (F.typeCall_zip_2 _ _) (F.newCall_zip_2 _ _) (λ ob=>F.args_object_init_3 ob _ _) F.entry_zip_new (zip_meets ka kb a b xs ys) ⟨h1,h2,?_⟩
 have n1:(zq1 ka a s.heap).objs.size=s.heap.objs.size+1:=Heap.size_push ..
 have n2:(zq2 ka kb a b s.heap).objs.size=s.heap.objs.size+2:=by rw [Heap.size_push,n1]
 have n3:(zq3 ka kb a b s.heap).objs.size=s.heap.objs.size+3:=by rw [Heap.size_push,n2]
 have n4:(zq4 ka kb a b s.heap).objs.size=s.heap.objs.size+4:=by rw [Heap.size_push,n3]
 have n5:(zq5 ka kb a b s.heap).objs.size=s.heap.objs.size+5:=by rw [Heap.size_push,n4]
 have f1:IterAt (zq1 ka a s.heap) ka s.heap.objs.size a 0:=by
  cases ka<;>exact ⟨_,Heap.get?_push_size _ rfl,rfl,rfl⟩
 have f2:IterAt (zq2 ka kb a b s.heap) kb (zq1 ka a s.heap).objs.size b 0:=by
  cases kb<;>exact ⟨_,Heap.get?_push_size _ rfl,rfl,rfl⟩
 have u2:∀ c o,(zq2 ka kb a b s.heap).get? c=some o->(zq5 ka kb a b s.heap).get? c=some o:=λ c o e=>Heap.get?_push_of_some _ (Heap.get?_push_of_some _ (Heap.get?_push_of_some _ e))
 have g5:(zq5 ka kb a b s.heap).get? (zq4 ka kb a b s.heap).objs.size=some _:=Heap.get?_push_size _ rfl
 have g4:(zq5 ka kb a b s.heap).get? (zq3 ka kb a b s.heap).objs.size=some _:=Heap.get?_push_of_some _ (Heap.get?_push_size _ rfl)
 have g3:(zq5 ka kb a b s.heap).get? (zq2 ka kb a b s.heap).objs.size=some _:=Heap.get?_push_of_some _ (Heap.get?_push_of_some _ (Heap.get?_push_size _ rfl))
 have e1:IterAt (zq5 ka kb a b s.heap) ka s.heap.objs.size a 0:=f1.at λ o e=>u2 _ o (Heap.get?_push_of_some _ e)
 have e2:IterAt (zq5 ka kb a b s.heap) kb (zq1 ka a s.heap).objs.size b 0:=f2.at λ o e=>u2 _ o e
 show _/\_
 rw [n2,n3,n4] at g5
 rw [n1,n2] at g3
 rw [n3] at g4
 rw [n1] at e2
 rw [n4]
 exact ⟨⟨_,g5,rfl⟩,h _ _ rfl g5 g3 g4 e1 e2 n5 λ c o e=>u2 c o (Heap.get?_push_of_some _ (Heap.get?_push_of_some _ e))⟩
end
section
variable {X:Cx}{pins:List (Addr × Obj)}{σ:List (Option V)}{H:Hp}{s:Shared}{h':Heap}
theorem Inv.turnNew {t':Nat}{ch:List Addr}{n:Addr}{o:HO}(I:Inv X pins σ H s) (hch:∀ b∈ch,FpOk X pins H b) (k:∀ b ob,b ∉ ch->s.heap.get? b=some ob->h'.get? b=some ob) (hn:s.heap.objs.size<=n) (new:ObjOk X.prog X.w (upd H n o) h' n o) :
  Inv X pins σ (upd H n o) { s with heap:=h',toks:=t' }:=by
 have fn:=I.hok.fresh hn
 have up:∀ {b u},H b=some u->upd H n o b=some u:=λ {b u} e=>by rw [upd_ne (ne_of_none e fn)];exact e
 have nch:∀ {b u},H b=some u->b ∉ ch:=λ {b u} e z=>by rw [(hch b z).1] at e;cases e
 refine I.step (g':=s.gens) (d':=s.drawn) (ch:=ch) (λ b hb=>⟨(hch b hb).2.2.2.1,(hch b hb).2.1,(hch b hb).2.2.2.2.1,(hch b hb).2.2.2.2.2⟩) (λ b ob _ _ hc e _=>k b ob hc e) (λ b ob _ _ hc e _=>⟨ob.slots,k b ob hc e⟩)
  (λ b ob _ e q=>?_) (λ b ob hc e=>⟨ob,k b ob hc e⟩) (λ _ _ e=>up e) (λ _ _ _ e=>up e) (λ b ps e=>⟨#[],by rw [up e];simp⟩) (λ m hm=>?_) (λ b u e=>?_) I.bare
 ·rw [upd_ne (Nat.ne_of_lt (Nat.lt_of_lt_of_le (Heap.lt_size e) hn))];exact q
 ·obtain ⟨ol,es,ep,ho,r⟩:=hm
  exact ⟨ol,es,ep,k _ ol (λ z=>(hch _ z).2.1 rfl) ho,r⟩
 ·by_cases hb:b=n
  ·subst hb;rw [upd_same] at e;cases e;exact new
  ·rw [upd_ne hb] at e
   refine (I.hok b u e).stay (λ c v hc q=>k c v ?_ q) (λ c q=>up q) λ c xs q=>up q
   rcases hc with rfl|hc
   ·exact nch e
   ·exact nch hc
theorem Inv.turnL {t':Nat}{ch:List Addr}(I:Inv X pins σ H s) (hch:∀ b∈ch,FpOk X pins H b) (k:∀ b ob,b ∉ ch->s.heap.get? b=some ob->h'.get? b=some ob):Inv X pins σ H { s with heap:=h',toks:=t' }:=by
 have nch:∀ {b u},H b=some u->b ∉ ch:=λ {b u} e z=>by rw [(hch b z).1] at e;cases e
 refine I.step (g':=s.gens) (d':=s.drawn) (ch:=ch) (λ b hb=>⟨(hch b hb).2.2.2.1,(hch b hb).2.1,(hch b hb).2.2.2.2.1,(hch b hb).2.2.2.2.2⟩) (λ b ob _ _ hc e _=>k b ob hc e) (λ b ob _ _ hc e _=>⟨ob.slots,k b ob hc e⟩)
  (λ _ _ _ _ q=>q) (λ b ob hc e=>⟨ob,k b ob hc e⟩) (λ _ _ e=>e) (λ _ _ _ e=>e) (λ b ps e=>⟨#[],by rw [e];simp⟩) (λ m hm=>?_) (λ b u e=>?_) I.bare
 ·obtain ⟨ol,es,ep,ho,r⟩:=hm
  exact ⟨ol,es,ep,k _ ol (λ z=>(hch _ z).2.1 rfl) ho,r⟩
 ·refine (I.hok b u e).stay (λ c v hc q=>k c v ?_ q) (λ _ q=>q) λ _ _ q=>q
  rcases hc with rfl|hc
  ·exact nch e
  ·exact nch hc
end
def SqK (k:Bool) (H:Hp) (a:Addr) (xs:List V):Prop:=match k with
 | true=>H a=some (.tup xs)
 | false=>H a=some (.lst xs)
theorem SqK.ne {k:Bool}{H:Hp}{a b:Addr}{xs:List V}(h:SqK k H a xs) (e:H b=none):a ≠ b:=λ z=>by
 subst z
 cases k
 ·rw [show H a=some (.lst xs) from h] at e;cases e
 ·rw [show H a=some (.tup xs) from h] at e;cases e
theorem Inv.sq {X:Cx}{pins:List (Addr × Obj)}{σ:St}{H:Hp}{s:Shared}{k:Bool}{a:Addr}{xs:List V}(I:Inv X pins σ H s) (h:SqK k H a xs):∃ its:List Value,Vals xs its/\SeqAt s.heap k a its.toArray:=by
 cases k
 ·obtain ⟨its,r,p,_⟩:=I.list (SqL.of h);exact ⟨its,r,p.isList⟩
 ·obtain ⟨its,r,p,_⟩:=I.tuple (SqT.of h);exact ⟨its,r,p⟩
def Itz (ka kb:Bool) (a b:Addr) (xs ys:List V):It:=
 ⟨λ i H=>SqK ka H a xs/\SqK kb H b ys/\i < xs.length/\i < ys.length,λ i H x H'=>∃ p u v,H p=none/\x=.ref p/\xs[i]? = some u/\ys[i]? = some v/\H'=upd H p (.tup [u,v]),λ i H=>SqK ka H a xs/\SqK kb H b ys/\(xs.length<=i\/ys.length<=i)⟩
def Tnz (ka kb:Bool) (a b z TI TO p q:Addr) (i:Nat) (h:Heap):Prop:=IsZip h z TI TO .none/\IsPair h TI (.ref p) (.ref q)/\(∃ u v,IsPair h TO u v)/\IterAt h ka p a i/\IterAt h kb q b i
theorem turn_zip {P:Program}{w:World}{K:W.Frag}{elts:List Expr} {x1}{tp:Pos}(ka kb:Bool) (a b z TI TO p q:Addr) (xs ys:List V) (nd:[z,TI,TO,p,q].Nodup):Turn P w K (.Tuple elts x1 tp) (Itz ka kb a b xs ys) [z,TI,TO,p,q] z (Tnz ka kb a b z TI TO p q) where
 mem:=List.mem_cons_self
 obj:=λ i h st c hc=>by
  obtain ⟨e1,e2,⟨u,v,e3⟩,e4,e5⟩:=st
  simp only [List.mem_cons,List.not_mem_nil,or_false] at hc
  rcases hc with rfl|rfl|rfl|rfl|rfl
  ·exact ⟨_,e1,λ v z=>by cases z⟩
  ·exact ⟨_,e2,λ v z=>by cases z⟩
  ·exact ⟨_,e3,λ v z=>by cases z⟩
  ·obtain ⟨o,fs,e,d⟩:=e4.obj;exact ⟨o,e,λ v z=>by rw [d] at z;cases z⟩
  ·obtain ⟨o,fs,e,d⟩:=e5.obj;exact ⟨o,e,λ v z=>by rw [d] at z;cases z⟩
 keep:=λ i h h' st k=>by
  obtain ⟨e1,e2,⟨u,v,e3⟩,e4,e5⟩:=st
  exact ⟨k z (by simp) _ e1,k TI (by simp) _ e2,⟨u,v,k TO (by simp) _ e3⟩,e4.at λ o e=>k p (by simp) o e,e5.at λ o e=>k q (by simp) o e⟩
 item:=by
  intro X hP hw hK hc i pins s σ H E I hf st hg
  subst hP hw hK
  obtain ⟨e1,e2,⟨u0,v0,e3⟩,e4,e5⟩:=st
  obtain ⟨ha,hb,l1,l2⟩:=hg
  obtain ⟨as,ra,sa⟩:=I.sq ha
  obtain ⟨bs,rb,sb⟩:=I.sq hb
  have hx:xs[i]? = some xs[i]:=List.getElem?_eq_getElem l1
  have hy:ys[i]? = some ys[i]:=List.getElem?_eq_getElem l2
  obtain ⟨u,hu,ru⟩:=ra.get hx
  obtain ⟨v,hv,rv⟩:=rb.get hy
  have free:∀ c∈[z,TI,TO,p,q],H c=none:=λ c h=>(hf c h).1
  have naz:∀ c∈[z,TI,TO,p,q],a ≠ c:=λ c h=>ha.ne (free c h)
  have nbz:∀ c∈[z,TI,TO,p,q],b ≠ c:=λ c h=>hb.ne (free c h)
  simp only [List.nodup_cons,List.mem_cons,List.not_mem_nil,or_false,not_or,not_false_eq_true,and_true,List.nodup_nil] at nd
  obtain ⟨⟨z1,z2,z3,z4⟩,⟨t1,t2,t3⟩,⟨w1,w2⟩,y1⟩:=nd
  have S:=src_sq (prog:=X.prog) (w:=X.w) ka p a (naz p (by simp)) as.toArray
  have T:=src_sq (prog:=X.prog) (w:=X.w) kb q b (nbz q (by simp)) bs.toArray
  have D:Apart2 z TI TO p q [p,a] [q,b]:=⟨⟨Ne.symm z1,t1,t2,t3⟩,z2,by simp [z3,Ne.symm (naz z (by simp))],by simp [z4,Ne.symm (nbz z (by simp))],by simp [w1,Ne.symm (naz TO (by simp))],by simp [w2,Ne.symm (nbz TO (by simp))],by simp [y1,Ne.symm (nbz p (by simp))],by simp [Ne.symm y1,Ne.symm (naz q (by simp))]⟩
  refine zip2_next_item S T D e1 e2 e3 ⟨e4,sa⟩ ⟨e5,sb⟩ (x:=u) (y:=v) (by simpa using hu) (by simpa using hv) λ h1 c1 c2 c3 c4 c5 c6 c7=>?_
  refine ⟨_,rfl,wpAny_letOwnedTupleGo_zip (s:={ s with heap:=h1 }) c1 λ h2 d1 d2=>?_⟩
  have lt:z < s.heap.objs.size:=Heap.lt_size e1
  have kp:∀ c o,c ∉ [z,TO,p,q]->s.heap.get? c=some o->h2.get? c=some o:=λ c o hc e=>d2.extBut _ _ (λ q=>hc (by simp [q])) (c7 c o hc e)
  have hn:h2.get? s.heap.objs.size=some { cls:=.type "tuple",data:=.seq #[u,v] }:=d2.extBut _ _ (Nat.ne_of_gt lt) c5
  have I2:Inv X pins σ (upd H s.heap.objs.size (.tup [xs[i],ys[i]])) { s with heap:=h2 }:=I.turnNew (t':=s.toks) (ch:=[z,TO,p,q]) (λ c hc=>hf c (by simp only [List.mem_cons,List.not_mem_nil,or_false] at hc ⊢;rcases hc with h|h|h|h<;>simp [h])) kp (Nat.le_refl _) ⟨(show 2<=sizeLine by decide),[u,v],.cons ru (.cons rv .nil),⟨_,hn,rfl,_,rfl⟩⟩
  have fr:H s.heap.objs.size=none:=I.hok.fresh (Nat.le_refl _)
  refine ⟨.ref s.heap.objs.size,_,I2,rfl,⟨_,_,_,fr,rfl,hx,hy,rfl⟩,⟨d1,d2.extBut _ _ (Ne.symm z1) (c7 TI _ (by simp [Ne.symm z1,t1,t2,t3]) e2),⟨u,v,d2.extBut _ _ (Ne.symm z2) c2⟩,c3.1.at λ o e=>d2.extBut _ _ (Ne.symm z3) e,c4.1.at λ o e=>d2.extBut _ _ (Ne.symm z4) e⟩,λ c hc=>?_⟩
  obtain ⟨o,ho,_⟩:∃ o,s.heap.get? c=some o/\True:=by
   simp only [List.mem_cons,List.not_mem_nil,or_false] at hc
   rcases hc with rfl|rfl|rfl|rfl|rfl
   ·exact ⟨_,e1,trivial⟩
   ·exact ⟨_,e2,trivial⟩
   ·exact ⟨_,e3,trivial⟩
   ·obtain ⟨o,_,e,_⟩:=e4.obj;exact ⟨o,e,trivial⟩
   ·obtain ⟨o,_,e,_⟩:=e5.obj;exact ⟨o,e,trivial⟩
  rw [upd_ne (Nat.ne_of_lt (Heap.lt_size ho))]
  exact free c hc
 done:=by
  intro X hP hw hK hc i pins s σ H E I hf st hg
  subst hP hw hK
  obtain ⟨e1,e2,⟨u0,v0,e3⟩,e4,e5⟩:=st
  obtain ⟨ha,hb,l⟩:=hg
  obtain ⟨as,ra,sa⟩:=I.sq ha
  obtain ⟨bs,rb,sb⟩:=I.sq hb
  have free:∀ c∈[z,TI,TO,p,q],H c=none:=λ c h=>(hf c h).1
  have naz:∀ c∈[z,TI,TO,p,q],a ≠ c:=λ c h=>ha.ne (free c h)
  have nbz:∀ c∈[z,TI,TO,p,q],b ≠ c:=λ c h=>hb.ne (free c h)
  simp only [List.nodup_cons,List.mem_cons,List.not_mem_nil,or_false,not_or,not_false_eq_true,and_true,List.nodup_nil] at nd
  obtain ⟨⟨z1,z2,z3,z4⟩,⟨t1,t2,t3⟩,⟨w1,w2⟩,y1⟩:=nd
  have S:=src_sq (prog:=X.prog) (w:=X.w) ka p a (naz p (by simp)) as.toArray
  have T:=src_sq (prog:=X.prog) (w:=X.w) kb q b (nbz q (by simp)) bs.toArray
  have D:Apart2 z TI TO p q [p,a] [q,b]:=⟨⟨Ne.symm z1,t1,t2,t3⟩,z2,by simp [z3,Ne.symm (naz z (by simp))],by simp [z4,Ne.symm (nbz z (by simp))],by simp [w1,Ne.symm (naz TO (by simp))],by simp [w2,Ne.symm (nbz TO (by simp))],by simp [y1,Ne.symm (nbz p (by simp))],by simp [Ne.symm y1,Ne.symm (naz q (by simp))]⟩
  have la:=ra.length
  have lb:=rb.length
  refine zip2_next_end (I.ok.hd hc) S T D e1 e2 e3 ⟨e4,sa⟩ ⟨e5,sb⟩ (l.imp (λ h=>by simp;omega) λ h=>by simp;omega) λ h1 kp=>⟨rfl,I.turnL (t':=s.toks) (ch:=[z,TO,p,q]) (λ c hc=>hf c (by simp only [List.mem_cons,List.not_mem_nil,or_false] at hc ⊢;rcases hc with h|h|h|h<;>simp [h])) kp⟩
 self:=λ _ _ _ _ _ st h=>wpAny_pyIter_zip st.1 h
def kZ2 (ka:Bool) (a b:Addr) (xs:List V) (H:Hp) (R:It->Hp->Prop):HO->Prop:=λ o=>match o with
 | .lst ys=>R (Itz ka false a b xs ys) H
 | .tup ys=>R (Itz ka true a b xs ys) H
 | _=>False
theorem m_kZ2_l (ka:Bool) (a b:Addr) (xs ys:List V) (H:Hp) (R:It->Hp->Prop):kZ2 ka a b xs H R (.lst ys)=R (Itz ka false a b xs ys) H:=rfl
def kZ1 (a b:Addr) (H:Hp) (R:It->Hp->Prop):HO->Prop:=λ o=>match o with
 | .lst xs=>optK (H b) (kZ2 false a b xs H R)
 | .tup xs=>optK (H b) (kZ2 true a b xs H R)
 | _=>False
theorem m_kZ1_l (a b:Addr) (xs:List V) (H:Hp) (R:It->Hp->Prop):kZ1 a b H R (.lst xs)=optK (H b) (kZ2 false a b xs H R):=rfl
def kZ0 (R:It->Hp->Prop):List V->Hp->Prop:=λ vs H=>match vs with
 | [.ref a,.ref b]=>optK (H a) (kZ1 a b H R)
 | _=>False
theorem m_kZ0 (R:It->Hp->Prop) (a b:Addr) (H:Hp):kZ0 R [.ref a,.ref b] H=optK (H a) (kZ1 a b H R):=rfl
def iZip (ta:TA):TI:=λ σ H R=>ta σ H (kZ0 R)
theorem m_iZip (ta:TA) (σ:St) (H:Hp) (R:It->Hp->Prop):iZip ta σ H R=ta σ H (kZ0 R):=rfl
theorem kZ0_ex {R:It->Hp->Prop}{vs:List V}{H:Hp}(h:kZ0 R vs H):∃ a b ka kb xs ys,vs=[.ref a,.ref b]/\SqK ka H a xs/\SqK kb H b ys/\R (Itz ka kb a b xs ys) H:=by
 unfold kZ0 at h
 split at h
 ·rename_i a b
  obtain ⟨o,e,h⟩:=optK_ex h
  unfold kZ1 at h
  split at h
  ·rename_i xs
   obtain ⟨o',e',h⟩:=optK_ex h
   unfold kZ2 at h
   split at h
   ·exact ⟨a,b,false,false,xs,_,rfl,e,e',h⟩
   ·exact ⟨a,b,false,true,xs,_,rfl,e,e',h⟩
   ·exact h.elim
  ·rename_i xs
   obtain ⟨o',e',h⟩:=optK_ex h
   unfold kZ2 at h
   split at h
   ·exact ⟨a,b,true,false,xs,_,rfl,e,e',h⟩
   ·exact ⟨a,b,true,true,xs,_,rfl,e,e',h⟩
   ·exact h.elim
  ·exact h.elim
 ·exact h.elim
section
variable {X:Cx}
theorem pi_zip {a b:Expr}{elts:List Expr} {x1}{tp:Pos}{ta:TA}{p pos:Pos}(hg:Gl X "zip") (hm:X.mg "zip"=none) (ha:PA X [a,b] ta) (hs:starEach [a,b] X.env=[(false,eval a X.env),(false,eval b X.env)]:=by rfl) (hs2:starEach [b] X.env=[(false,eval b X.env)]:=by rfl) :
  PI X (.Tuple elts x1 tp) (.Call (.Name "zip" p) [a,b] [] pos) (iZip ta):=by
 intro pins s σ H R I h
 refine Call_ (ld_blt I hg hm (show bootBuiltins "zip"=some (.type "zip") by decide +kernel) (PyProof.Rows.callWith_type1 (thn (ha pos pins s σ H _ I h) λ us s1 ⟨vs,H1,I1,r1,q1⟩=>?_) (by rw [hs,hs2]) (by rw [hs2];rfl)))
 obtain ⟨a,b,ka,kb,xs,ys,rfl,sa,sb,q⟩:=kZ0_ex q1
 cases r1 with
 | cons r rr=>
  cases rr with
  | cons r' rr=>
   cases rr
   cases r
   cases r'
   obtain ⟨as,ra,s1a⟩:=I1.sq sa
   obtain ⟨bs,rb,s1b⟩:=I1.sq sb
   refine call_zq s1a s1b λ h' n hn e1 e2 e3 e4 e5 e6 e7=>?_
   have I2:Inv X pins σ H1 { s1 with heap:=h' }:=I1.kept (t':=s1.toks) e7
   refine wpAny_pyIter_zip (s:={ s1 with heap:=h' }) e1 ⟨n+4,[n+4,n+2,n+3,n,n+1],_,_,H1,rfl,I2,turn_zip ka kb a b (n+4) (n+2) (n+3) n (n+1) xs ys (by simp),⟨e1,e2,⟨_,_,e3⟩,e4,e5⟩,λ c hc=>?_,q⟩
   have hle:s1.heap.objs.size<=c:=by
    rw [←hn]
    simp only [List.mem_cons,List.not_mem_nil,or_false] at hc
    rcases hc with rfl|rfl|rfl|rfl|rfl
    ·exact Nat.le_add_right ..
    ·exact Nat.le_add_right ..
    ·exact Nat.le_add_right ..
    ·exact Nat.le_refl _
    ·exact Nat.le_add_right ..
   exact I1.fpOk hle (I1.hok.fresh hle)
end
end L2
set_option Elab.async false
set_option linter.all false
set_option maxRecDepth 100000
set_option maxHeartbeats 4000000
namespace L2
open PySem PySem.Spec PyProof.Rows
def kCm2 (te:TE) (σ2:St) (N1:VK) (N0:Hp->Prop):Bool->Hp->Prop:=λ b H=>if b=true then te σ2 H N1 else N0 H
theorem m_kCm2 (te:TE) (σ2:St) (N1:VK) (N0:Hp->Prop) (b:Bool) (H:Hp):kCm2 te σ2 N1 N0 b H=(if b=true then te σ2 H N1 else N0 H):=rfl
def kCm (k:Nat) (tt:TT) (te:TE) (σ:St) (N1:VK) (N0:Hp->Prop):St->Hp->Prop:=λ σ2 H=>(∃ vs:St,vs.length=k/\σ2=vs++σ)/\tt σ2 H (kCm2 te σ2 N1 N0)
theorem m_kCm_1 (tt:TT) (te:TE) (σ:St) (N1:VK) (N0:Hp->Prop) (a:Option V) (H:Hp):kCm 1 tt te σ N1 N0 (a::σ) H=tt (a::σ) H (kCm2 te (a::σ) N1 N0):=propext ⟨λ h=>h.2,λ h=>⟨⟨[a],rfl,rfl⟩,h⟩⟩
theorem m_kCm_2 (tt:TT) (te:TE) (σ:St) (N1:VK) (N0:Hp->Prop) (a b:Option V) (H:Hp):kCm 2 tt te σ N1 N0 (a::b::σ) H=tt (a::b::σ) H (kCm2 te (a::b::σ) N1 N0):=propext ⟨λ h=>h.2,λ h=>⟨⟨[a,b],rfl,rfl⟩,h⟩⟩
theorem m_rep_1 (σ:St):List.replicate 1 (none:Option V)++σ=none::σ:=rfl
theorem m_rep_2 (σ:St):List.replicate 2 (none:Option V)++σ=none::none::σ:=rfl
def Al {α:Type}(R:α->V->Prop) (zs:List α) (ys:List V):Prop:=ys.length=zs.length/\∀ (i:Nat) z y,zs[i]? = some z->ys[i]? = some y->R z y
theorem Al.nil {α:Type}{R:α->V->Prop}:Al R [] []:=⟨rfl,λ i z y h=>by simp at h⟩
theorem Al.snoc {α:Type}{R:α->V->Prop}{zs:List α}{ys:List V}{z:α}{y:V}(h:Al R zs ys) (r:R z y):Al R (zs++[z]) (ys++[y]):=by
 refine ⟨by simp [h.1],λ i z' y' h1 h2=>?_⟩
 by_cases hi:i < zs.length
 ·rw [List.getElem?_append_left hi] at h1
  rw [List.getElem?_append_left (by rw [h.1];exact hi)] at h2
  exact h.2 i z' y' h1 h2
 ·rw [List.getElem?_append_right (by omega)] at h1
  rw [List.getElem?_append_right (by rw [h.1];omega),h.1] at h2
  by_cases h0:i - zs.length=0
  ·rw [h0] at h1 h2;simp at h1 h2;subst h1;subst h2;exact r
  ·rw [List.getElem?_eq_none (by simp;omega)] at h1;cases h1
theorem Al.imp {α:Type}{R S:α->V->Prop}{zs:List α}{ys:List V}(h:Al R zs ys) (f:∀ z y,R z y->S z y):Al S zs ys:=⟨h.1,λ i z y a b=>f z y (h.2 i z y a b)⟩
theorem Al.map {α:Type}{f:α->V}{zs:List α}{ys:List V}(h:Al (λ z y=>y=f z) zs ys):ys=zs.map f:=by
 apply List.ext_getElem?
 intro i
 rw [List.getElem?_map]
 by_cases hi:i < zs.length
 ·have e1:zs[i]? = some zs[i]:=List.getElem?_eq_getElem hi
  have e2:ys[i]? = some (ys[i]'(by rw [h.1];exact hi)):=List.getElem?_eq_getElem _
  rw [e1,e2,h.2 i _ _ e1 e2];rfl
 ·have:=h.1;rw [List.getElem?_eq_none (show ys.length<=i by omega),List.getElem?_eq_none (show zs.length<=i by omega)];rfl
section
variable {k:Nat}{g:TG}{tt:TT}{te:TE}{σ:St}{Q:VK}{H:Hp}{K:PySem.W.Frag}
theorem comp_rel {α:Type}{J:It}(zs:List α) (c:α->Bool) (P:α->V->Hp->Prop) (R:Addr->α->V->Hp->Prop)
  (hgo:∀ i z H',zs[i]? = some z->Ext H H'->J.go i H'/\∀ x H'',J.yld i H' x H''->Ext H' H''/\P z x H'')
  (hst:∀ H',Ext H H'->J.stop zs.length H')
  (hR1:∀ D z y H1 H2,R D z y H1->Ext H1 H2->R D z y H2) (hR2:∀ D z y H1 o,R D z y H1->R D z y (upd H1 D o))
  (hl:zs.length<=sizeLine)
  (hs:∀ D z x H' N1 N0,z∈zs->H D=none->Ext H H'->(∃ ys,H' D=some (.lst ys))->P z x H'->(c z=true->∀ y H'',Ext H' H''->R D z y H''->N1 y H'')->(c z=false->∀ H'',Ext H' H''->N0 H'')->g x (List.replicate k none++σ) H' (kCm k tt te σ N1 N0))
  (hd:∀ D ys H',H D=none->Ext H H'->H' D=some (.lst ys)->Al (λ z y=>R D z y H') (zs.filter c) ys->Q (.ref D) H'):kComp k g tt te σ Q J H:=by
 intro D hD
 refine ⟨λ i m ys H'=>m=zs.length - i/\i<=zs.length/\Ext H H'/\H' D=some (.lst ys)/\Al (λ z y=>R D z y H') ((zs.take i).filter c) ys,⟨zs.length,by simp,Nat.zero_le _,Ext.new hD,upd_same,by simpa using Al.nil⟩,?_⟩
 rintro i m ys H' ⟨rfl,hi,e,hD',al⟩
 by_cases hlt:i < zs.length
 ·have hz:zs[i]? = some zs[i]:=List.getElem?_eq_getElem hlt
  obtain ⟨go,y⟩:=hgo i zs[i] H' hz e
  have tk:zs.take (i+1)=zs.take i++[zs[i]]:=by rw [List.take_succ,hz];rfl
  have ln:ys.length < sizeLine:=by
   have h1:=al.1
   have h2:=List.length_filter_le c (zs.take i)
   simp only [List.length_take] at h2
   omega
  refine .inr ⟨go,λ ys' H2=>Ext H H2/\H2 D=some (.lst ys')/\Al (λ z y=>R D z y H2) ((zs.take (i+1)).filter c) ys',λ ys' H2 p=>⟨zs.length - (i+1),by omega,rfl,hlt,p⟩,λ x H2 z=>?_⟩
  obtain ⟨e2,p2⟩:=y x H2 z
  refine hs D zs[i] x H2 (kC3 D ys _) _ (List.getElem_mem hlt) hD (e.trans e2) ⟨ys,e2.at hD'⟩ p2 (λ hc y H3 e3 r3=>?_) λ hc H3 e3=>?_
  ·refine ⟨e3.at (e2.at hD'),ln,(e.trans (e2.trans e3)).put hD,upd_same,?_⟩
   rw [tk,List.filter_append,show [zs[i]].filter c=[zs[i]] by simp [hc]]
   exact Al.snoc (al.imp λ z y r=>hR2 _ _ _ _ _ (hR1 _ _ _ _ _ r (e2.trans e3))) (hR2 _ _ _ _ _ r3)
  ·refine ⟨e.trans (e2.trans e3),(e2.trans e3).at hD',?_⟩
   rw [tk,List.filter_append,show [zs[i]].filter c=[] by simp [hc],List.append_nil]
   exact al.imp λ z y r=>hR1 _ _ _ _ _ r (e2.trans e3)
 ·have e':i=zs.length:=by omega
  subst e'
  rw [List.take_length] at al
  exact .inl ⟨hst H' e,hd D ys H' hD e hD' al⟩
theorem comp_fm {α:Type}{J:It}(zs:List α) (c:α->Bool) (f:α->V) (P:α->V->Hp->Prop)
  (hgo:∀ i z H',zs[i]? = some z->Ext H H'->J.go i H'/\∀ x H'',J.yld i H' x H''->Ext H' H''/\P z x H'')
  (hst:∀ H',Ext H H'->J.stop zs.length H') (hl:zs.length<=sizeLine)
  (hs:∀ D z x H' N1 N0,z∈zs->H D=none->Ext H H'->P z x H'->(c z=true->∀ H'',Ext H' H''->N1 (f z) H'')->(c z=false->∀ H'',Ext H' H''->N0 H'')->g x (List.replicate k none++σ) H' (kCm k tt te σ N1 N0))
  (hd:∀ D H',H D=none->Ext H H'->H' D=some (.lst ((zs.filter c).map f))->Q (.ref D) H'):kComp k g tt te σ Q J H:=
 comp_rel zs c P (λ _ z y _=>y=f z) hgo hst (λ _ _ _ _ _ r _=>r) (λ _ _ _ _ _ r=>r) hl (λ D z x H' N1 N0 hz hD e _ p k1 k0=>hs D z x H' N1 N0 hz hD e p (λ hc H'' e'=>k1 hc _ H'' e' rfl) k0) λ D ys H' hD e hD' al=>hd D H' hD e (by rw [←al.map];exact hD')
theorem wk_rng {lo:Int}{n:Nat}:(∀ i z H',(List.range n)[i]? = some z->Ext H H'->(Itr lo n).go i H'/\∀ x H'',(Itr lo n).yld i H' x H''->Ext H' H''/\x=.int (lo+(z:Nat)))/\∀ H',Ext H H'->(Itr lo n).stop (List.range n).length H':=by
 refine ⟨λ i z H' hz _=>?_,λ H' _=>by simp [Itr]⟩
 obtain ⟨h1,h2⟩:=List.getElem?_eq_some_iff.mp hz
 have e:i=z:=by simpa using h2
 subst e
 exact ⟨(show i < n by simpa using h1),λ x H'' y=>⟨by rw [y.1];exact Ext.refl _,y.2⟩⟩
theorem wk_lst {a:Addr}{xs:List V}(h:H a=some (.lst xs)):(∀ i z H',xs[i]? = some z->Ext H H'->(Itl K a).go i H'/\∀ x H'',(Itl K a).yld i H' x H''->Ext H' H''/\(x=z/\H'' a=some (.lst xs)))/\∀ H',Ext H H'->(Itl K a).stop xs.length H':=
 ⟨λ i z H' hz e=>⟨⟨xs,z,SqL.of (e.at h),hz⟩,λ x H'' y=>⟨by rw [y.1];exact Ext.refl _,Option.some.inj ((y.2 xs (SqL.of (e.at h))).symm.trans hz),by rw [y.1];exact e.at h⟩⟩,λ H' e=>⟨xs,SqL.of (e.at h),Nat.le_refl _⟩⟩
theorem wk_tup {a:Addr}{xs:List V}(h:H a=some (.tup xs)):(∀ i z H',xs[i]? = some z->Ext H H'->(Itt K a).go i H'/\∀ x H'',(Itt K a).yld i H' x H''->Ext H' H''/\(x=z/\H'' a=some (.tup xs)))/\∀ H',Ext H H'->(Itt K a).stop xs.length H':=
 ⟨λ i z H' hz e=>⟨⟨xs,z,SqT.of (e.at h),hz⟩,λ x H'' y=>⟨by rw [y.1];exact Ext.refl _,Option.some.inj ((y.2 xs (SqT.of (e.at h))).symm.trans hz),by rw [y.1];exact e.at h⟩⟩,λ H' e=>⟨xs,SqT.of (e.at h),Nat.le_refl _⟩⟩
theorem SqK.ext {kk:Bool}{H H':Hp}{a:Addr}{xs:List V}(h:SqK kk H a xs) (e:Ext H H'):SqK kk H' a xs:=by
 cases kk
 ·exact e.at (show H a=some (.lst xs) from h)
 ·exact e.at (show H a=some (.tup xs) from h)
def zipP (z:V × V) (x:V) (H:Hp):Prop:=∃ p,x=.ref p/\H p=some (.tup [z.1,z.2])
theorem wk_zip {ka kb:Bool}{a b:Addr}{xs ys:List V}(ha:SqK ka H a xs) (hb:SqK kb H b ys):(∀ i z H',(xs.zip ys)[i]? = some z->Ext H H'->(Itz ka kb a b xs ys).go i H'/\∀ x H'',(Itz ka kb a b xs ys).yld i H' x H''->Ext H' H''/\zipP z x H'')/\∀ H',Ext H H'->(Itz ka kb a b xs ys).stop (xs.zip ys).length H':=by
 refine ⟨λ i z H' hz e=>?_,λ H' e=>⟨ha.ext e,hb.ext e,?_⟩⟩
 ·obtain ⟨h1,h2⟩:=List.getElem?_eq_some_iff.mp hz
  rw [List.length_zip] at h1
  refine ⟨⟨ha.ext e,hb.ext e,by omega,by omega⟩,λ x H'' y=>?_⟩
  obtain ⟨p,u,v,hp,rfl,hu,hv,rfl⟩:=y
  refine ⟨Ext.new hp,p,rfl,?_⟩
  rw [upd_same]
  rw [List.getElem?_eq_getElem (by omega)] at hu hv
  cases hu;cases hv
  rw [←h2,List.getElem_zip]
 ·rw [List.length_zip];omega
theorem for_zip {tb:TS}{nx:St->Hp->Prop}{rt:VK}{bk ct:St->Hp->Prop}{ka kb:Bool}{a b:Addr}{xs ys:List V}(Pv:Nat->St->Hp->Prop) (h0:Pv 0 σ H) (hl:∀ i σ H,Pv i σ H->SqK ka H a xs/\SqK kb H b ys)
  (hs:∀ i u v p σ H H',xs[i]? = some u->ys[i]? = some v->Pv i σ H->H p=none->Ext H H'->H' p=some (.tup [u,v])->g (.ref p) σ H' (kBody tb ⟨Pv (i+1),rt,nx,Pv (i+1)⟩)) (hd:∀ σ H,Pv (min xs.length ys.length) σ H->nx σ H):kFor g tb ⟨nx,rt,bk,ct⟩ σ (Itz ka kb a b xs ys) H:=by
 refine ⟨λ i m σ H=>m=min xs.length ys.length - i/\i<=min xs.length ys.length/\Pv i σ H,⟨min xs.length ys.length,by simp,Nat.zero_le _,h0⟩,?_⟩
 rintro i m σ H ⟨rfl,hi,p⟩
 obtain ⟨qa,qb⟩:=hl i σ H p
 by_cases hlt:i < min xs.length ys.length
 ·refine .inr ⟨⟨qa,qb,by omega,by omega⟩,Pv (i+1),λ σ' H' p'=>⟨min xs.length ys.length - (i+1),by omega,rfl,hlt,p'⟩,λ x H' y=>?_⟩
  obtain ⟨r,u,v,hr,rfl,hu,hv,rfl⟩:=y
  exact hs i u v r σ H _ hu hv p hr (Ext.new hr) upd_same
 ·have e:i=min xs.length ys.length:=by omega
  subst e
  exact .inl ⟨⟨qa,qb,by omega⟩,hd σ H p⟩
end
def compB (sc:Scope) (N:List Str) (scope:Scope) (N':List Str) (k:Nat):Bool:=
 scope.names.all (λ y=>!(y.2 == .cell)) && (scope.kind == .function) && scope.names.all (λ y=>!(y.2 == .local) || scope.names.lookup y.1 == some .local) && scope.names.all (λ y=>!(y.2 == .free) || sc.names.lookup y.1 == some .cell) && decide (N'.length=k+N.length) &&
  ((N'.drop k).zip N).all (λ p=>(!(scope.names.lookup p.1 == some .free) || decide (p.1=p.2)) && !(scope.names.lookup p.1 == some .local))
theorem comp_ok {X:Cx}{scope:Scope}{N':List Str}{k:Nat}(sc:Scope) (N:List Str) (h1:X.env.scope=sc) (h2:X.N=N) (h:compB sc N scope N' k=true):CompOk X scope N' k:=by
 unfold compB at h
 simp only [Bool.and_eq_true,decide_eq_true_eq] at h
 obtain ⟨⟨⟨⟨⟨a1,a2⟩,a3⟩,a4⟩,a5⟩,a6⟩:=h
 rw [List.all_eq_true] at a1 a3 a4 a6
 have pr:∀ i x,N'[k+i]? = some x->∃ y,N[i]? = some y/\(x,y)∈(N'.drop k).zip N:=λ i x hx=>by
  have h0:=(List.getElem?_eq_some_iff.mp hx).1
  have hi:i < N.length:=by omega
  have e1:(N'.drop k)[i]? = some x:=by rw [List.getElem?_drop];exact hx
  have e2:N[i]? = some N[i]:=List.getElem?_eq_getElem hi
  refine ⟨_,e2,List.mem_of_getElem? (i:=i) ?_⟩
  rw [List.getElem?_zip_eq_some]
  exact ⟨e1,e2⟩
 refine ⟨λ y hy e=>?_,by simpa using a2,λ y hy e=>?_,λ y hy e=>?_,by rw [h2];exact a5,λ i x hx hf=>?_,λ i x hx hf=>?_⟩
 ·have:=a1 y hy;rw [e] at this;simp at this
 ·have:=a3 y hy;rw [e] at this;simpa using this
 ·have:=a4 y hy;rw [e] at this;rw [h1];simpa using this
 ·obtain ⟨y,hy,hm⟩:=pr i x hx
  have:=a6 _ hm
  simp only [hf] at this
  rw [h2,hy]
  simp at this
  rw [this]
 ·obtain ⟨y,hy,hm⟩:=pr i x hx
  have:=a6 _ hm
  simp [hf] at this
end L2
set_option Elab.async false
set_option linter.all false
set_option maxRecDepth 100000
set_option maxHeartbeats 4000000
namespace L2
open PySem PySem.Spec PyProof.Rows
def kFldV (H:Hp) (Q:VK):V->Prop:=λ v=>Q v H
theorem m_kFldV (H:Hp) (Q:VK) (v:V):kFldV H Q v=Q v H:=rfl
def kFldO (K:W.Frag) (f:Str) (H:Hp) (Q:VK):HO->Prop:=λ o=>match o with
 | .ins C dx fs=>Cls K C/\NoAttr K C f/\optK (fs.lookup f) (kFldV H Q)
 | _=>False
theorem m_kFldO (K:W.Frag) (f:Str) (H:Hp) (Q:VK) (C dx:Addr) (fs:List (Str × V)):kFldO K f H Q (.ins C dx fs)=(Cls K C/\NoAttr K C f/\optK (fs.lookup f) (kFldV H Q)):=rfl
def kFld (K:W.Frag) (f:Str) (Q:VK):VK:=λ x H=>match x with
 | .ref a=>optK (H a) (kFldO K f H Q)
 | _=>False
theorem m_kFld (K:W.Frag) (f:Str) (Q:VK) (a:Addr) (H:Hp):kFld K f Q (.ref a) H=optK (H a) (kFldO K f H Q):=rfl
def nFld (K:W.Frag) (ta:TE) (f:Str):TE:=λ σ H Q=>ta σ H (kFld K f Q)
theorem m_nFld (K:W.Frag) (ta:TE) (f:Str) (σ:St) (H:Hp) (Q:VK):nFld K ta f σ H Q=ta σ H (kFld K f Q):=rfl
theorem kFld_ex {K:W.Frag}{f:Str}{Q:VK}{x:V}{H:Hp}(h:kFld K f Q x H):∃ a C dx fs v,x=.ref a/\H a=some (.ins C dx fs)/\Cls K C/\NoAttr K C f/\fs.lookup f=some v/\Q v H:=by
 unfold kFld at h
 split at h
 ·obtain ⟨o,e,h⟩:=optK_ex h
  unfold kFldO at h
  split at h
  ·obtain ⟨c,n,h⟩:=h
   obtain ⟨v,l,q⟩:=optK_ex h
   exact ⟨_,_,_,_,v,rfl,e,c,n,l,q⟩
  ·exact h.elim
 ·exact h.elim
section
variable {X:Cx}{e o value:Expr}{ta tv:TE}{f:Str}{pos pos':Pos}
theorem pe_nFld (he:PE X e ta) (hb:attributeBase e f X.env (eval e X.env)=eval e X.env):PE X (.Attribute e f pos) (nFld X.K ta f):=by
 intro pins s σ H Q I h
 refine attr_of hb (thn (he pins s σ H _ I h) λ u s1 ⟨x,H1,I1,rx,q1⟩=>?_)
 obtain ⟨a,C,dx,fs,v,ex,ea,c,n,l,q⟩:=kFld_ex q1
 subst ex
 obtain rfl:u=Value.ref a:=rx
 exact getattr_ok I1 ea c n l λ u' s2 I2 ru=>⟨v,H1,I2,ru,q⟩
def kSetO (K:W.Frag) (f:Str) (y:V) (a:Addr) (σ:St) (nx:St->Hp->Prop) (H:Hp):HO->Prop:=λ o=>match o with
 | .ins C dx fs=>Cls K C/\NoAttr K C f/\fs.length < 1000/\nx σ (upd H a (.ins C dx (putF f y fs)))
 | _=>False
theorem m_kSetO (K:W.Frag) (f:Str) (y:V) (a:Addr) (σ:St) (nx:St->Hp->Prop) (H:Hp) (C dx:Addr) (fs:List (Str × V)):kSetO K f y a σ nx H (.ins C dx fs)=(Cls K C/\NoAttr K C f/\fs.length < 1000/\nx σ (upd H a (.ins C dx (putF f y fs)))):=rfl
def kSet1 (K:W.Frag) (f:Str) (y:V) (σ:St) (nx:St->Hp->Prop):VK:=λ x H=>match x with
 | .ref a=>optK (H a) (kSetO K f y a σ nx H)
 | _=>False
theorem m_kSet1 (K:W.Frag) (f:Str) (y:V) (σ:St) (nx:St->Hp->Prop) (a:Addr) (H:Hp):kSet1 K f y σ nx (.ref a) H=optK (H a) (kSetO K f y a σ nx H):=rfl
def kSet0 (K:W.Frag) (f:Str) (ta:TE) (σ:St) (nx:St->Hp->Prop):VK:=λ y H=>ta σ H (kSet1 K f y σ nx)
theorem m_kSet0 (K:W.Frag) (f:Str) (ta:TE) (σ:St) (nx:St->Hp->Prop) (y:V) (H:Hp):kSet0 K f ta σ nx y H=ta σ H (kSet1 K f y σ nx):=rfl
def nSetF (K:W.Frag) (ta tv:TE) (f:Str):TS:=λ D σ H=>tv σ H (kSet0 K f ta σ D.nx)
theorem m_nSetF (K:W.Frag) (ta tv:TE) (f:Str) (nx:St->Hp->Prop) (rt:VK) (bk ct:St->Hp->Prop) (σ:St) (H:Hp):nSetF K ta tv f ⟨nx,rt,bk,ct⟩ σ H=tv σ H (kSet0 K f ta σ nx):=rfl
theorem ps_nSetF (ha:PE X o ta) (hv:PE X value tv) (hs:swapsWith value (some (.Attribute o f pos')) pos.line X.env=pure false):PS X (.Assign [.Attribute o f pos'] value pos) (nSetF X.K ta tv f):=by
 intro pins s σ H D I h
 refine plainObj_wpAny_Assign_Attribute (thn (hv pins s σ H _ I h) λ u s1 ⟨y,H1,I1,ry,q⟩=>thn (ha pins s1 σ H1 _ I1 q) λ ov s2 ⟨x,H2,I2,rx,q1⟩=>?_) hs
 unfold kSet1 at q1
 split at q1
 ·rename_i a
  obtain rfl:ov=Value.ref a:=rx
  obtain ⟨ob,ea,q1⟩:=optK_ex q1
  unfold kSetO at q1
  split at q1
  ·obtain ⟨c,n,l,q2⟩:=q1
   exact setattr_ok I2 ea c n l ry λ s3 I3=>⟨σ,_,I3,q2⟩
  ·exact q1.elim
 ·exact q1.elim
end
def kMethA (sp:Sp) (dvs:List V) (E:XK) (a:Addr) (Q:VK):List V->Hp->Prop:=λ vs H=>sp (.ref a::(vs++dvs)) H Q E
theorem m_kMethA_0 (sp:Sp) (dvs:List V) (E:XK) (a:Addr) (Q:VK) (H:Hp):kMethA sp dvs E a Q [] H=sp (.ref a::dvs) H Q E:=rfl
def kMethO (C:Addr) (m:Str) (sp:Sp) (dvs:List V) (E:XK) (t:TA) (σ:St) (Q:VK) (a:Addr) (H:Hp):HO->Prop:=λ o=>match o with
 | .ins C' dx fs=>C'=C/\fs.lookup m=none/\t σ H (kMethA sp dvs E a Q)
 | _=>False
theorem m_kMethO (C:Addr) (m:Str) (sp:Sp) (dvs:List V) (E:XK) (t:TA) (σ:St) (Q:VK) (a:Addr) (H:Hp) (dx:Addr) (fs:List (Str × V)):kMethO C m sp dvs E t σ Q a H (.ins C dx fs)=(fs.lookup m=none/\t σ H (kMethA sp dvs E a Q)):=propext ⟨λ h=>h.2,λ h=>⟨rfl,h⟩⟩
def kMeth (C:Addr) (m:Str) (sp:Sp) (dvs:List V) (E:XK) (t:TA) (σ:St) (Q:VK):VK:=λ x H=>match x with
 | .ref a=>optK (H a) (kMethO C m sp dvs E t σ Q a H)
 | _=>False
theorem m_kMeth (C:Addr) (m:Str) (sp:Sp) (dvs:List V) (E:XK) (t:TA) (σ:St) (Q:VK) (a:Addr) (H:Hp):kMeth C m sp dvs E t σ Q (.ref a) H=optK (H a) (kMethO C m sp dvs E t σ Q a H):=rfl
def nMeth (C:Addr) (m:Str) (sp:Sp) (dvs:List V) (E:XK) (ta:TE) (t:TA):TE:=λ σ H Q=>ta σ H (kMeth C m sp dvs E t σ Q)
theorem m_nMeth (C:Addr) (m:Str) (sp:Sp) (dvs:List V) (E:XK) (ta:TE) (t:TA) (σ:St) (H:Hp) (Q:VK):nMeth C m sp dvs E ta t σ H Q=ta σ H (kMeth C m sp dvs E t σ Q):=rfl
theorem kMeth_ex {C:Addr}{m:Str}{sp:Sp}{dvs:List V}{E:XK}{t:TA}{σ:St}{Q:VK}{x:V}{H:Hp}(h:kMeth C m sp dvs E t σ Q x H):∃ a dx fs,x=.ref a/\H a=some (.ins C dx fs)/\fs.lookup m=none/\t σ H λ vs H2=>sp (x::(vs++dvs)) H2 Q E:=by
 unfold kMeth at h
 split at h
 ·obtain ⟨o,e,h⟩:=optK_ex h
  unfold kMethO at h
  split at h
  ·obtain ⟨rfl,l,h⟩:=h
   exact ⟨_,_,_,rfl,e,l,h⟩
  ·exact h.elim
 ·exact h.elim
section
variable {X:Cx}{CX:CXT}{k:Nat}{f C:Addr}{fd:FuncData}{ps:List Str}{sp:Sp}{dvs:List V}{ds:List Value}{E:XK}{x m:Str}{p pos apos:Pos}{e o:Expr}{es:List Expr}{ta:TE}{t:TA}
theorem pe_nMeth0 {pl:Sem Bool}(he:PE X o ta) (c:Cls X.K C) (hm:Meth X.K C m f) (F:FnOk X.prog X.w X.K X.mg X.base CX k f fd ps sp) (hr:Room k X.A) (hb:Binds X.K fd ps ds) (hd:Vals dvs ds) (hx:Passes CX X E)
  (ht:eval (.Call (.Attribute o m apos) [] [] pos) X.env=(do
   let ov ←eval o X.env
   standAt apos.atName
   let (f,first) ←holding [ov] (getMethod ov m pl)
   callWith pos f first (backTo pos (starEach [] X.env)) (backToKw pos (keywordEach [] X.env))):=by rfl) :
  PE X (.Call (.Attribute o m apos) [] [] pos) (nMeth C m sp dvs E ta tNil):=by
 intro pins s σ H Q I h
 refine W.methodCall_KW (pl:=pl) (thn (he pins s σ H _ I h) λ u s1 ⟨x,H1,I1,rx,q0⟩=>?_) ht
 obtain ⟨a,dx,fs,ex,ea,l,q⟩:=kMeth_ex q0
 subst ex
 obtain rfl:u=Value.ref a:=rx
 refine getmeth_ok I1 ea c hm l ?_
 exact W.callWith_K0 (first:=[.ref a]) I1.kIn hm.kp (run_fn (us:=[.ref a]) (vs:=[.ref a]) F hr hb hd hx I1 (.cons rfl .nil) q)
end
def kMade (x:Addr) (Q:VK):VK:=λ v H=>v=.non/\Q (.ref x) H
theorem m_kMade (x:Addr) (Q:VK) (H:Hp):kMade x Q .non H=Q (.ref x) H:=propext ⟨λ h=>h.2,λ h=>⟨rfl,h⟩⟩
def kMake (C:Addr) (sp:Sp) (dvs:List V) (E:XK) (Q:VK):List V->Hp->Prop:=λ vs H=>∀ (x dx:Addr) (H':Hp),H x=none->H dx=none->dx ≠ x->Ext H H'->H' x=some (.ins C dx [])->H' dx=some (.own x)->sp (.ref x::(vs++dvs)) H' (kMade x Q) E
theorem m_kMake_3 (C:Addr) (sp:Sp) (dvs:List V) (E:XK) (Q:VK) (a b c:V) (H:Hp):kMake C sp dvs E Q [a,b,c] H=∀ (x dx:Addr) (H':Hp),H x=none->H dx=none->dx ≠ x->Ext H H'->H' x=some (.ins C dx [])->H' dx=some (.own x)->sp (.ref x::a::b::c::dvs) H' (kMade x Q) E:=rfl
def nMake (C:Addr) (sp:Sp) (dvs:List V) (E:XK) (t:TA):TE:=λ σ H Q=>t σ H (kMake C sp dvs E Q)
theorem m_nMake (C:Addr) (sp:Sp) (dvs:List V) (E:XK) (t:TA) (σ:St) (H:Hp) (Q:VK):nMake C sp dvs E t σ H Q=t σ H (kMake C sp dvs E Q):=rfl
section
variable {X:Cx}{CX:CXT}{k:Nat}{f C:Addr}{fd:FuncData}{ps:List Str}{sp:Sp}{dvs:List V}{ds:List Value}{E:XK}{x m:Str}{p pos apos:Pos}{e o:Expr}{es:List Expr}{ta:TE}{t:TA}
theorem kMake.to {Q:VK}{vs:List V}{H:Hp}(h:kMake C sp dvs E Q vs H):∀ x dx,H x=none->H dx=none->dx ≠ x->sp (.ref x::(vs++dvs)) (upd (upd H dx (.own x)) x (.ins C dx [])) (λ v H2=>v=.non/\Q (.ref x) H2) E:=λ x dx hx hd ne=>
 h x dx _ hx hd ne ((Ext.new hd).put hx) upd_same (by rw [upd_ne ne,upd_same])
theorem pe_nMake (M:Mk X.K C f) (F:FnOk X.prog X.w X.K X.mg X.base CX k f fd ps sp) (hr:Room (k+1) X.A) (hg:Gl X x) (hm:X.mg x=some (.ref C)) (hb:Binds X.K fd ps ds) (hd:Vals dvs ds) (hx:Passes CX X E)
  (ha:PA X (e::es) t) (hdb:(x == ("__debug__":Str))=false:=by decide) (he:starEach (e::es) X.env=(false,eval e X.env)::starEach es X.env:=by rfl) (hpl:(backTo pos (starEach es X.env)).any (·.1)=false:=by rfl) :
  PE X (.Call (.Name x p) (e::es) [] pos) (nMake C sp dvs E t):=by
 intro pins s σ H Q I h
 refine wpAny_Call_Name_kw (ld_glob I hg hm ?_ hdb)
 refine W.callWith_K (h₀:=X.base) I.ok.mod.kin M.kp (thn (ha pos pins s σ H _ I h) λ us s1 ⟨vs,H1,I1,r,q⟩=>⟨I1.kIn,?_⟩) he hpl
 exact run_make M F hr hb hd hx I1 r q.to
end
end L2
set_option Elab.async false
set_option linter.all false
set_option maxRecDepth 100000
set_option maxHeartbeats 4000000
namespace L2
open PySem PySem.Spec PyProof.Rows
def notStar:Expr->Bool
 | .Starred ..=>false
 | _=>true
theorem star_ok {e:Expr}{es:List Expr}{env:Env}(h:notStar e=true):starEach (e::es) env=(false,eval e env)::starEach es env:=by
 cases e<;>first|rfl|cases h
theorem pa_c {X:Cx}{e:Expr}{es:List Expr}{te:TE}{t:TA}(ha:PE X e te) (hr:PA X es t) (hn:notStar e=true:=by rfl):PA X (e::es) (tCons te t):=pa_cons ha hr (star_ok hn)
theorem m_tXI (K:W.Frag) (t:TA) (σ:St) (H:Hp) (Q:VK):tXI K t σ H Q=t σ H (kXI K Q):=rfl
theorem m_xSetF (K:W.Frag) (ta tv:TE) (f:Str) (nx:St->Hp->Prop) (rt:VK) (bk ct:St->Hp->Prop) (σ:St) (H:Hp):xSetF K ta tv f ⟨nx,rt,bk,ct⟩ σ H=tv σ H (kXS0 K f ta σ nx):=rfl
theorem m_kXS0 (K:W.Frag) (f:Str) (ta:TE) (σ:St) (nx:St->Hp->Prop) (y:V) (H:Hp):kXS0 K f ta σ nx y H=ta σ H (kXS1 K f y σ nx):=rfl
theorem m_tRaiseI (C:Addr) (sp:Sp) (E:St->XK) (t:TA) (D:Ends) (σ:St) (H:Hp):tRaiseI C sp E t D σ H=t σ H (kRI C sp (E σ)):=rfl
theorem m_tXF (K:W.Frag) (ta:TE) (f:Str) (σ:St) (H:Hp) (Q:VK):tXF K ta f σ H Q=ta σ H (kXF K f Q):=rfl
end L2
namespace L2
open PySem PySem.Spec PyProof.Rows
def TupV (H:Hp) (z:List Int) (y:V):Prop:=∃ q,y=.ref q/\H q=some (.tup (z.map V.int))
theorem TupV.ext {H H':Hp}{z:List Int}{y:V}(h:TupV H z y) (e:Ext H H'):TupV H' z y:=by
 obtain ⟨q,rfl,hq⟩:=h
 exact ⟨q,rfl,e.at hq⟩
theorem TupV.upd {H:Hp}{z:List Int}{y:V}{p:Addr}{xs:List V}{o:HO}(h:TupV H z y) (hp:H p=some (.lst xs)):TupV (upd H p o) z y:=by
 obtain ⟨q,rfl,hq⟩:=h
 exact ⟨q,rfl,by rw [upd_ne (λ z=>by rw [z,hp] at hq;cases hq)];exact hq⟩
def TupsAt (H:Hp) (p:Addr) (zs:List (List Int)):Prop:=∃ ys,H p=some (.lst ys)/\Al (TupV H) zs ys
theorem TupsAt.ext {H H':Hp}{p:Addr}{zs:List (List Int)}(h:TupsAt H p zs) (e:Ext H H'):TupsAt H' p zs:=by
 obtain ⟨ys,hp,al⟩:=h
 exact ⟨ys,e.at hp,al.imp λ _ _ r=>r.ext e⟩
theorem tups_all {H:Hp}{f:V->Option PyData}:∀ {zs:List (List Int)}{ys:List V},Al (TupV H) zs ys->allSome (ys.map (datF H (datF H f)))=some (zs.map λ z=>PyData.tuple (z.map PyData.int))
 | [],ys,h=>by rw [List.eq_nil_of_length_eq_zero h.1];rfl
 | z::zs,[],h=>by have:=h.1;simp at this
 | z::zs,y::ys,h=>by
  obtain ⟨q,rfl,hq⟩:=h.2 0 z y rfl rfl
  have ih:=tups_all (H:=H) (f:=f) (zs:=zs) (ys:=ys) ⟨by have:=h.1;simpa using this,λ i z y a b=>h.2 (i+1) z y (by simpa using a) (by simpa using b)⟩
  have e1:datF H (datF H f) (.ref q)=some (.tuple (z.map PyData.int)):=by
   rw [m_datF_ref,hq]
   show datO (datF H f) (.tup (z.map V.int))=_
   rw [m_datO_tup,allSome_ints];rfl
  rw [List.map_cons,e1,m_allSome_cons,ih];rfl
theorem len5000 {n:Nat}(h:n<=5000):n<=sizeLine:=Nat.le_trans h (by decide)
theorem lt5000 {n:Nat}(h:n < 5000):n < sizeLine:=Nat.lt_of_lt_of_le h (by decide)
def kCT2 (xs:List V) (H:Hp) (Q:VK):List V->Prop:=λ ys=>xs.length+ys.length<=sizeLine/\∀ (p:Addr) (H':Hp),Ext H H'->H' p=some (.tup (xs++ys))->Q (.ref p) H'
theorem x_kCT2 (xs:List V) (H:Hp) (Q:VK) (ys:List V):kCT2 xs H Q ys=(xs.length+ys.length<=sizeLine/\∀ (p:Addr) (H':Hp),Ext H H'->H' p=some (.tup (xs++ys))->Q (.ref p) H'):=rfl
def kCT1 (b:Addr) (H:Hp) (Q:VK):List V->Prop:=λ xs=>optK (tupAt H b) (kCT2 xs H Q)
theorem m_kCT1 (b:Addr) (H:Hp) (Q:VK) (xs:List V):kCT1 b H Q xs=optK (tupAt H b) (kCT2 xs H Q):=rfl
def nCatT:R2:=λ x y H Q=>match x,y with
 | .ref l,.ref b=>optK (tupAt H l) (kCT1 b H Q)
 | _,_=>False
theorem m_nCatT (l b:Addr) (H:Hp) (Q:VK):nCatT (.ref l) (.ref b) H Q=optK (tupAt H l) (kCT1 b H Q):=rfl
theorem op_nCatT {X:Cx}:OpR X (binaryOp .Add) nCatT:=by
 intro pins s σ H x y v u Q I rx ry h
 unfold nCatT at h
 split at h
 ·rename_i l b
  obtain ⟨xs,e1,h⟩:=optK_ex h
  obtain ⟨ys,e2,hz,k⟩:=optK_ex h
  have g1:=tup_of e1
  have g2:=tup_of e2
  by_cases hx:xs=[]
  ·subst hx
   cases rx
   cases ry
   obtain ⟨its,r1,p1,_⟩:=I.tuple (SqT.of g1)
   obtain ⟨its2,r2,p2,_⟩:=I.tuple (SqT.of g2)
   obtain ⟨⟨cls,dd,data,sl⟩,ho,hc,n,hd⟩:=id p1
   obtain ⟨⟨cls2,dd2,data2,sl2⟩,ho2,hc2,n2,hd2⟩:=id p2
   simp only at hc hd hc2 hd2
   subst hc hd hc2 hd2
   cases r1
   exact concat_meets ⟨_,ho,rfl⟩ ⟨_,ho2,rfl⟩ noFill_tuple_add seq_tuple_add PySem.F.slot_tuple_add PySem.F.entry_tuple_add (PySem.F.args_tuple_add_2 _ _)
    (tuple_addW0 l b #[] its2.toArray n n2 dd dd2 sl sl2 (by simp)) ⟨ho,ho2,show EP X pins σ Q (.ref b) s from ⟨.ref b,H,I,rfl,k b H (Ext.refl _) (by rw [List.nil_append];exact g2)⟩⟩
  ·refine op_catT pins s σ H (.ref l) (.ref b) v u Q I rx ry ⟨l,b,xs,ys,rfl,rfl,SqT.of g1,SqT.of g2,hx,hz,λ hy=>?_,λ hy p hp=>k p _ (Ext.new hp) upd_same⟩
   subst hy
   exact k l H (Ext.refl _) (by rw [List.append_nil];exact g1)
 ·exact h.elim
end L2
set_option Elab.async false
set_option linter.all false
set_option maxRecDepth 100000
set_option maxHeartbeats 4000000
namespace L2
open PySem PySem.Spec PyProof.Rows
theorem wk_al {K:W.Frag}{H:Hp} {α:Type}{R:α->V->Hp->Prop}(hR:∀ z y H H',R z y H->Ext H H'->R z y H'){l:Addr}{ys:List V}{zs:List α}(h:H l=some (.lst ys)) (al:Al (λ z y=>R z y H) zs ys) :
  (∀ i z H',zs[i]? = some z->Ext H H'->(Itl K l).go i H'/\∀ x H'',(Itl K l).yld i H' x H''->Ext H' H''/\R z x H'')/\∀ H',Ext H H'->(Itl K l).stop zs.length H':=by
 refine ⟨λ i z H' hz e=>?_,λ H' e=>⟨ys,SqL.of (e.at h),by rw [al.1];exact Nat.le_refl _⟩⟩
 have hi:i < ys.length:=by rw [al.1];exact (List.getElem?_eq_some_iff.mp hz).1
 have hy:ys[i]? = some ys[i]:=List.getElem?_eq_getElem hi
 refine ⟨⟨ys,ys[i],SqL.of (e.at h),hy⟩,λ x H'' y=>?_⟩
 have hx:x=ys[i]:=Option.some.inj ((y.2 ys (SqL.of (e.at h))).symm.trans hy)
 refine ⟨by rw [y.1];exact Ext.refl _,?_⟩
 rw [hx,y.1]
 exact hR _ _ _ _ (al.2 i z _ hz hy) e
def axP (a:Int × Int) (x:V) (H:Hp):Prop:=∃ q,x=.ref q/\H q=some (.tup [.int a.1,.int a.2])
theorem axP.ext {a:Int × Int}{x:V}{H H':Hp}(h:axP a x H) (e:Ext H H'):axP a x H':=by
 obtain ⟨q,rfl,hq⟩:=h
 exact ⟨q,rfl,e.at hq⟩
theorem al_axP {H:Hp}{axs:List (Int × Int)}{ys:List V}(al:Al (TupV H) (axs.map λ a=>[a.1,a.2]) ys):Al (λ a y=>axP a y H) axs ys:=by
 refine ⟨by rw [al.1,List.length_map],λ i a y ha hy=>?_⟩
 obtain ⟨q,hq,h⟩:=al.2 i [a.1,a.2] y (by rw [List.getElem?_map,ha];rfl) hy
 exact ⟨q,hq,h⟩
end L2
set_option Elab.async false
set_option linter.all false
set_option maxRecDepth 100000
set_option maxHeartbeats 4000000
namespace L2
open PySem PySem.Spec PyProof.Rows
abbrev IsZipF (h:Heap) (z TI TO:Addr) (f0:Value) (f:Bool):Prop:=
 h.get? z=some { cls:=.type "zip",dict:=none,data:=.fields #[f0,.bool f,.bool false,.ref TI,.ref TO],slots:=#[] }
section
variable {prog:Program}{w:World}{A:Around}{E:Value->Shared->Prop}{s:Shared}
theorem alive_at {a:Addr}{o:Obj}{Q:Option Obj->Shared->Prop}(ho:s.heap.get? a=some o) (h:Q (some o) s):wpAny (model prog w) A (loadIfAlive a) Q E s:=by
 have h':Q (s.heap.get? a) s:=by rw [ho];exact h
 exact λ _ _ _=>h'
variable {z TI TO i j:Addr}{f g:List Addr}{ti tj:Nat->Heap->Prop}{vi vj:Nat->Option Value}{k m:Nat}{x y:Value}{t:Addr}{fl:Bool}{ot:Obj}
theorem zipO_free {Q:Bool->Shared->Prop}(hz:IsZipF s.heap z TI TO (rawInt t) fl) (ht:s.heap.get? t=some ot)
  (hQ:∀ h',IsZipF h' z TI TO (rawInt t) true->Heap.SameBut z s.heap h'->Q false { s with heap:=h' }):wpAny (model prog w) A (Builtin.SmallTypes.ownedTupleIsFree (.ref z)) Q E s:=by
 unfold Builtin.SmallTypes.ownedTupleIsFree
 refine wpAny_bind (wpAny_field hz rfl (x:=rawInt t) rfl ?_)
 show wpAny _ _ (loadIfAlive ((t:Int).toNat) >>= _) _ _ _
 rw [Int.toNat_natCast]
 refine wpAny_bind (alive_at ht ?_)
 simp only [Option.isNone_some,Bool.false_eq_true,if_false]
 refine wpAny_bind (wpAny_field hz rfl (x:=.bool fl) rfl ?_)
 cases fl with
 | true=>
  rw [if_neg (show ¬ ((Value.bool true != Value.bool true)=true) from Bool.false_ne_true)]
  exact wpAny_pure (hQ s.heap hz (Heap.SameBut.refl _ _))
 | false=>
  rw [if_pos (show (Value.bool false != Value.bool true)=true from rfl)]
  exact wpAny_bind (wpAny_setField_rec hz (by simp) λ h3 z3 s3=>wpAny_pure (hQ h3 z3 s3))
theorem zipO_item (S:Src prog w i f ti vi) (T:Src prog w j g tj vj) (D:Apart2 z TI TO i j f g){Q:Value->Shared->Prop}
  (hz:IsZipF s.heap z TI TO (rawInt t) fl) (ht:s.heap.get? t=some ot) (hTI:IsPair s.heap TI (.ref i) (.ref j)) (hi:ti k s.heap) (hj:tj m s.heap) (hx:vi k=some x) (hy:vj m=some y)
  (hQ:∀ h',IsZipF h' z TI TO (rawInt t) true->ti (k+1) h'->tj (m+1) h'->IsPair h' s.heap.objs.size x y->h'.objs.size=s.heap.objs.size+1->(∀ c o,c ∉ [z,i,j]->s.heap.get? c=some o->h'.get? c=some o)->Q (.ref s.heap.objs.size) { s with heap:=h' }) :
  wpAny (model prog w) A (Builtin.«zip.__next__» ⟨[.ref z],[]⟩) (λ fin s'=>∃ v,fin=.done (.ret v)/\Q v s') E s:=by
 have iz:i ≠ z:=ne_mem S.mem D.zf
 have jz:j ≠ z:=ne_mem T.mem D.zg
 refine wpAny_bind (m:=field (.ref z) 2) (wpAny_field hz rfl (x:=.bool false) rfl ?_)
 refine wpAny_bind (m:=field (.ref z) 3) (wpAny_field hz rfl (x:=.ref TI) rfl (wpAny_bind (wpAny_seqItems hTI rfl ?_)))
 refine wpAny_bind (m:=Builtin.SmallTypes.ownedTupleIsFree (.ref z)) (zipO_free hz ht λ q1 z1 s1=>?_)
 simp only [Bool.false_eq_true,if_false]
 refine wpAny_bind ?_
 simp only [List.forIn_toArray,List.forIn_cons,List.forIn_nil]
 refine wpAny_bind (wpAny_bind (wpAny_holding (wpAny_bind (m:=Builtin.SmallTypes.nextOf (.ref i)) (S.item _ k _ x _ _ (S.but hi s1.extBut D.zf) hx λ q2 i2 s2=>wpAny_pure ?_))))
 have j2:tj m q2:=T.but (T.but hj s1.extBut D.zg) s2.extBut D.ig
 refine wpAny_pure ?_
 refine wpAny_bind (wpAny_bind (wpAny_holding (wpAny_bind (m:=Builtin.SmallTypes.nextOf (.ref j)) (T.item _ m _ y _ _ j2 hy λ q3 j3 s3=>wpAny_pure ?_))))
 refine wpAny_pure (wpAny_pure ?_)
 refine wpAny_bind (wpAny_newTuple (hsz:=(show 2<=sizeLine by decide)) ?_)
 have sz:q3.objs.size=s.heap.objs.size:=by rw [s3.1,s2.1,s1.1]
 have z3:IsZipF q3 z TI TO (rawInt t) true:=s3.extBut _ _ jz.symm (s2.extBut _ _ iz.symm z1)
 have i3:ti (k+1) q3:=S.but i2 s3.extBut D.jf
 refine wpAny_pure ⟨_,rfl,?_⟩
 show Q (.ref q3.objs.size) _
 have n3:IsPair (q3.push { cls:=.type "tuple",data:=.seq #[x,y] }) q3.objs.size x y:=Heap.get?_push_size _ rfl
 have n4:(q3.push { cls:=.type "tuple",data:=.seq #[x,y] }).objs.size=q3.objs.size+1:=Heap.size_push ..
 rw [sz] at n3 n4
 rw [sz]
 refine hQ _ (Heap.get?_push_of_some _ z3) (S.keep _ _ _ i3 λ c hc o e=>Heap.get?_push_of_some _ e) (T.keep _ _ _ j3 λ c hc o e=>Heap.get?_push_of_some _ e) n3 n4 λ c o hc e=>?_
 simp only [List.mem_cons,List.not_mem_nil,or_false,not_or] at hc
 exact Heap.get?_push_of_some _ (s3.extBut _ _ hc.2.2 (s2.extBut _ _ hc.2.1 (s1.extBut _ _ hc.1 e)))
theorem zipO_end (hh:A.handled=none) (S:Src prog w i f ti vi) (T:Src prog w j g tj vj) (D:Apart2 z TI TO i j f g){Q:Fin->Shared->Prop}
  (hz:IsZipF s.heap z TI TO (rawInt t) fl) (ht:s.heap.get? t=some ot) (hTI:IsPair s.heap TI (.ref i) (.ref j)) (hi:ti k s.heap) (hj:tj m s.heap) (hxy:vi k=none\/vj m=none)
  (hE:∀ h' e,(∀ c o,c ∉ [z,i,j]->s.heap.get? c=some o->h'.get? c=some o)->(∃ o,h'.get? e=some o/\o.cls=.type "StopIteration")->E (.ref e) { s with heap:=h' }) :
  wpAny (model prog w) A (Builtin.«zip.__next__» ⟨[.ref z],[]⟩) Q E s:=by
 refine wpAny_bind (m:=field (.ref z) 2) (wpAny_field hz rfl (x:=.bool false) rfl ?_)
 refine wpAny_bind (m:=field (.ref z) 3) (wpAny_field hz rfl (x:=.ref TI) rfl (wpAny_bind (wpAny_seqItems hTI rfl ?_)))
 refine wpAny_bind (m:=Builtin.SmallTypes.ownedTupleIsFree (.ref z)) (zipO_free hz ht λ q1 z1 s1=>?_)
 simp only [Bool.false_eq_true,if_false]
 refine wpAny_bind ?_
 simp only [List.forIn_toArray,List.forIn_cons,List.forIn_nil]
 refine wpAny_bind (wpAny_bind (wpAny_holding (wpAny_bind (m:=Builtin.SmallTypes.nextOf (.ref i)) ?_)))
 cases hx:vi k with
 | none=>
  refine S.fin _ k _ _ _ hh (S.but hi s1.extBut D.zf) hx λ q2 e s2 he=>hE q2 e (λ c o hc q=>?_) he
  simp only [List.mem_cons,List.not_mem_nil,or_false,not_or] at hc
  exact s2 _ _ hc.2.1 (s1.extBut _ _ hc.1 q)
 | some x=>
  have hy:vj m=none:=hxy.resolve_left (by rw [hx];exact Option.some_ne_none x)
  refine S.item _ k _ x _ _ (S.but hi s1.extBut D.zf) hx λ q2 i2 s2=>wpAny_pure (wpAny_pure ?_)
  have j2:tj m q2:=T.but (T.but hj s1.extBut D.zg) s2.extBut D.ig
  refine wpAny_bind (wpAny_bind (wpAny_holding (wpAny_bind (m:=Builtin.SmallTypes.nextOf (.ref j)) (T.fin _ m _ _ _ hh j2 hy λ q3 e s3 he=>hE q3 e (λ c o hc q=>?_) he))))
  simp only [List.mem_cons,List.not_mem_nil,or_false,not_or] at hc
  exact s3 _ _ hc.2.2 (s2.extBut _ _ hc.2.1 (s1.extBut _ _ hc.1 q))
theorem zipO_next_item (S:Src prog w i f ti vi) (T:Src prog w j g tj vj) (D:Apart2 z TI TO i j f g){Q:Option Value->Shared->Prop}
  (hz:IsZipF s.heap z TI TO (rawInt t) fl) (ht:s.heap.get? t=some ot) (hTI:IsPair s.heap TI (.ref i) (.ref j)) (hi:ti k s.heap) (hj:tj m s.heap) (hx:vi k=some x) (hy:vj m=some y)
  (hQ:∀ h',IsZipF h' z TI TO (rawInt t) true->ti (k+1) h'->tj (m+1) h'->IsPair h' s.heap.objs.size x y->h'.objs.size=s.heap.objs.size+1->(∀ c o,c ∉ [z,i,j]->s.heap.get? c=some o->h'.get? c=some o)->Q (some (.ref s.heap.objs.size)) { s with heap:=h' }) :
  wpAny (model prog w) A (pyNext (.ref z)) Q E s:=by
 have ty:s.TypeIs (.ref z) "zip":=⟨_,hz,rfl⟩
 unfold pyNext
 exact wpAny_bind (wpAny_attempt (wpAny_callSpecial?_slot (name:=Str.ofString "__next__") ty F.slot_zip_next (wpAny_call_entry F.slot_zip_next ty F.entry_zip_next (zipO_item S T D hz ht hTI hi hj hx hy λ h' c1 c2 c3 c4 c5 c6=>wpAny_pure (hQ h' c1 c2 c3 c4 c5 c6)) (F.args_zip_next_1 _))))
theorem zipO_next_end (hh:A.handled=none) (S:Src prog w i f ti vi) (T:Src prog w j g tj vj) (D:Apart2 z TI TO i j f g){Q:Option Value->Shared->Prop}
  (hz:IsZipF s.heap z TI TO (rawInt t) fl) (ht:s.heap.get? t=some ot) (hTI:IsPair s.heap TI (.ref i) (.ref j)) (hi:ti k s.heap) (hj:tj m s.heap) (hxy:vi k=none\/vj m=none)
  (hQ:∀ h',(∀ c o,c ∉ [z,i,j]->s.heap.get? c=some o->h'.get? c=some o)->Q none { s with heap:=h' }):wpAny (model prog w) A (pyNext (.ref z)) Q E s:=by
 have ty:s.TypeIs (.ref z) "zip":=⟨_,hz,rfl⟩
 unfold pyNext
 refine wpAny_bind (wpAny_attempt (wpAny_callSpecial?_slot (name:=Str.ofString "__next__") ty F.slot_zip_next (wpAny_call_entry F.slot_zip_next ty F.entry_zip_next (zipO_end (show A.in1.handled=none from hh) S T D hz ht hTI hi hj hxy λ h' e kp he=>?_) (F.args_zip_next_1 _))))
 obtain ⟨o,ho,hc⟩:=he
 exact wpAny_bind (wpAny_isInstance (T := "StopIteration") (b:=true) ⟨o,ho,hc⟩ isSubtype_stop (wpAny_pure (hQ _ kp)))
def Zst (ka kb:Bool) (a b z TI TO p q:Addr) (as bs:Array Value) (n:Nat) (h:Heap):Prop:=
 (IsZip h z TI TO .none\/∃ (t:Addr) (fl:Bool) (ot:Obj),IsZipF h z TI TO (rawInt t) fl/\h.get? t=some ot/\t ∉ [z,TI,TO,p,q])/\IsPair h TI (.ref p) (.ref q)/\(∃ u v,IsPair h TO u v)/\(IterAt h ka p a n/\SeqAt h ka a as)/\(IterAt h kb q b n/\SeqAt h kb b bs)
theorem Zst.keep {ka kb:Bool}{a b z TI TO p q:Addr}{as bs:Array Value}{n:Nat}{h h':Heap}(st:Zst ka kb a b z TI TO p q as bs n h) (k:∀ c o,h.get? c=some o->h'.get? c=some o):Zst ka kb a b z TI TO p q as bs n h':=by
 obtain ⟨e0,e1,⟨u,v,e2⟩,⟨e3,e4⟩,e5,e6⟩:=st
 refine ⟨e0.imp (λ e=>k _ _ e) (λ ⟨t,fl,ot,x1,x2,x3⟩=>⟨t,fl,ot,k _ _ x1,k _ _ x2,x3⟩),k _ _ e1,⟨u,v,k _ _ e2⟩,⟨e3.at λ o e=>k _ o e,e4.at λ o e=>k _ o e⟩,e5.at λ o e=>k _ o e,e6.at λ o e=>k _ o e⟩
variable {ka kb:Bool}{a b p q:Addr}{as bs:Array Value}{n:Nat}
theorem zst_item (nd:[z,TI,TO,p,q].Nodup) (na:a ∉ [z,TI,TO,p,q]) (nb:b ∉ [z,TI,TO,p,q]){Q:Option Value->Shared->Prop}(st:Zst ka kb a b z TI TO p q as bs n s.heap) (hx:as[n]? = some x) (hy:bs[n]? = some y)
  (hQ:∀ h',Zst ka kb a b z TI TO p q as bs (n+1) h'->IsPair h' s.heap.objs.size x y->h'.objs.size=s.heap.objs.size+1->(∀ c o,c ∉ [z,TI,TO,p,q]->s.heap.get? c=some o->h'.get? c=some o)->Q (some (.ref s.heap.objs.size)) { s with heap:=h' }) :
  wpAny (model prog w) A (pyNext (.ref z)) Q E s:=by
 obtain ⟨e0,e1,⟨u,v,e2⟩,e3,e4⟩:=st
 simp only [List.nodup_cons,List.mem_cons,List.not_mem_nil,or_false,not_or,not_false_eq_true,and_true,List.nodup_nil] at nd na nb
 obtain ⟨⟨z1,z2,z3,z4⟩,⟨t1,t2,t3⟩,⟨w1,w2⟩,y1⟩:=nd
 obtain ⟨a1,a2,a3,a4,a5⟩:=na
 obtain ⟨b1,b2,b3,b4,b5⟩:=nb
 have S:=src_sq (prog:=prog) (w:=w) ka p a a4 as
 have T:=src_sq (prog:=prog) (w:=w) kb q b b5 bs
 have D:Apart2 z TI TO p q [p,a] [q,b]:=⟨⟨Ne.symm z1,t1,t2,t3⟩,z2,by simp [z3,Ne.symm a1],by simp [z4,Ne.symm b1],by simp [w1,Ne.symm a3],by simp [w2,Ne.symm b3],by simp [y1,Ne.symm b4],by simp [Ne.symm y1,Ne.symm a5]⟩
 have zl:z < s.heap.objs.size/\TI < s.heap.objs.size/\TO < s.heap.objs.size/\p < s.heap.objs.size/\q < s.heap.objs.size:=by
  refine ⟨?_,Heap.lt_size e1,Heap.lt_size e2,?_,?_⟩
  ·rcases e0 with e|⟨_,_,_,e,_⟩<;>exact Heap.lt_size e
  ·obtain ⟨o,_,e,_⟩:=e3.1.obj;exact Heap.lt_size e
  ·obtain ⟨o,_,e,_⟩:=e4.1.obj;exact Heap.lt_size e
 have nw:s.heap.objs.size ∉ [z,TI,TO,p,q]:=by
  simp only [List.mem_cons,List.not_mem_nil,or_false,not_or]
  exact ⟨Nat.ne_of_gt zl.1,Nat.ne_of_gt zl.2.1,Nat.ne_of_gt zl.2.2.1,Nat.ne_of_gt zl.2.2.2.1,Nat.ne_of_gt zl.2.2.2.2⟩
 rcases e0 with e0|⟨t,fl,ot,e0,et,nt⟩
 ·refine zip2_next_item S T D e0 e1 e2 e3 e4 hx hy λ h1 c1 c2 c3 c4 c5 c6 c7=>hQ h1 ⟨.inr ⟨_,false,_,c1,c5,nw⟩,c7 TI _ (by simp [Ne.symm z1,t1,t2,t3]) e1,⟨_,_,c2⟩,c3,c4⟩ c5 c6 λ c o hc e=>c7 c o (λ z=>hc ?_) e
  simp only [List.mem_cons,List.not_mem_nil,or_false] at z ⊢
  rcases z with h|h|h|h<;>simp [h]
 ·refine zipO_next_item S T D e0 et e1 e3 e4 hx hy λ h1 c1 c3 c4 c5 c6 c7=>hQ h1 ⟨.inr ⟨_,true,_,c1,c7 t _ (λ z=>nt ?_) et,nt⟩,c7 TI _ (by simp [Ne.symm z1,t2,t3]) e1,⟨_,_,c7 TO _ (by simp [Ne.symm z2,w1,w2]) e2⟩,c3,c4⟩ c5 c6 λ c o hc e=>c7 c o (λ z=>hc ?_) e
  all_goals
   simp only [List.mem_cons,List.not_mem_nil,or_false] at z ⊢
   rcases z with h|h|h<;>simp [h]
theorem zst_end (hh:A.handled=none) (nd:[z,TI,TO,p,q].Nodup) (na:a ∉ [z,TI,TO,p,q]) (nb:b ∉ [z,TI,TO,p,q]){Q:Option Value->Shared->Prop}(st:Zst ka kb a b z TI TO p q as bs n s.heap) (hxy:as[n]? = none\/bs[n]? = none)
  (hQ:∀ h',(∀ c o,c ∉ [z,TI,TO,p,q]->s.heap.get? c=some o->h'.get? c=some o)->Q none { s with heap:=h' }) :
  wpAny (model prog w) A (pyNext (.ref z)) Q E s:=by
 obtain ⟨e0,e1,⟨u,v,e2⟩,e3,e4⟩:=st
 simp only [List.nodup_cons,List.mem_cons,List.not_mem_nil,or_false,not_or,not_false_eq_true,and_true,List.nodup_nil] at nd na nb
 obtain ⟨⟨z1,z2,z3,z4⟩,⟨t1,t2,t3⟩,⟨w1,w2⟩,y1⟩:=nd
 obtain ⟨a1,a2,a3,a4,a5⟩:=na
 obtain ⟨b1,b2,b3,b4,b5⟩:=nb
 have S:=src_sq (prog:=prog) (w:=w) ka p a a4 as
 have T:=src_sq (prog:=prog) (w:=w) kb q b b5 bs
 have D:Apart2 z TI TO p q [p,a] [q,b]:=⟨⟨Ne.symm z1,t1,t2,t3⟩,z2,by simp [z3,Ne.symm a1],by simp [z4,Ne.symm b1],by simp [w1,Ne.symm a3],by simp [w2,Ne.symm b3],by simp [y1,Ne.symm b4],by simp [Ne.symm y1,Ne.symm a5]⟩
 rcases e0 with e0|⟨t,fl,ot,e0,et,nt⟩
 ·refine zip2_next_end hh S T D e0 e1 e2 e3 e4 hxy λ h1 kp=>hQ h1 λ c o hc e=>kp c o (λ z=>hc ?_) e
  simp only [List.mem_cons,List.not_mem_nil,or_false] at z ⊢
  rcases z with h|h|h|h<;>simp [h]
 ·refine zipO_next_end hh S T D e0 et e1 e3 e4 hxy λ h1 kp=>hQ h1 λ c o hc e=>kp c o (λ z=>hc ?_) e
  simp only [List.mem_cons,List.not_mem_nil,or_false] at z ⊢
  rcases z with h|h|h<;>simp [h]
structure Got (h:Heap) (lo:Nat) (as bs:Array Value) (ts:List Addr):Prop where
 nd:ts.Nodup
 lo:∀ t∈ts,lo<=t
 get:∀ (m:Nat) t,ts[m]? = some t->∃ x y,as[m]? = some x/\bs[m]? = some y/\IsPair h t x y
theorem Got.lt {h:Heap}{lo:Nat}{as bs:Array Value}{ts:List Addr}(G:Got h lo as bs ts):∀ t∈ts,t < h.objs.size:=λ t ht=>by
 obtain ⟨m,hm,rfl⟩:=List.getElem_of_mem ht
 obtain ⟨x,y,_,_,e⟩:=G.get m _ (List.getElem?_eq_getElem hm)
 exact Heap.lt_size e
theorem zip_loop {R:Result->Shared->Prop}(hh:A.handled=none) (nd:[z,TI,TO,p,q].Nodup) (na:a ∉ [z,TI,TO,p,q]) (nb:b ∉ [z,TI,TO,p,q]) (S lo:Addr) (hS:S ∉ [z,TI,TO,p,q]) (aS:a ≠ S) (bS:b ≠ S) (hlo:∀ c∈[z,TI,TO,p,q],lo<=c) (hlS:lo<=S) (hsz:min as.size bs.size<=sizeLine) :
  ∀ (k n:Nat) (s:Shared) (ts:List Addr) (c:Nat),min as.size bs.size - n=k->n<=min as.size bs.size->Zst ka kb a b z TI TO p q as bs n s.heap->s.heap.get? S=some { cls:=.type "list",dict:=none,data:=.seq (ts.map Value.ref).toArray c,slots:=#[] }->ts.length=n->Got s.heap lo as bs ts->S ∉ ts->(∀ t∈ts,t ∉ [z,TI,TO,p,q])->lo<=s.heap.objs.size →
  (∀ h' ts' c',h'.get? S=some { cls:=.type "list",dict:=none,data:=.seq (ts'.map Value.ref).toArray c',slots:=#[] }->ts'.length=min as.size bs.size->Got h' lo as bs ts'->S ∉ ts'->(∀ d o,d < lo->s.heap.get? d=some o->h'.get? d=some o)->R (.ok (.ret .none)) { s with heap:=h' }) →
  codeAny (model prog w) A (.builtin "list.extend.loop" ⟨[.ref S,.ref z,.none],[]⟩) R s:=by
 intro k
 induction k with
 | zero=>
  intro n s ts c hk hn st hL hl G hSt hts hlz hR
  refine codeAny_builtin PySem.F.entry_extend_loop ?_
  rw [Around.under_plainId PySem.F.plain_extend_loop _]
  show wpAny _ A.in1 (pyNext (.ref z) >>= _) _ _ s
  refine wpAny_bind (zst_end (show A.in1.handled=none from hh) nd na nb st ?_ λ h' kp=>?_)
  ·by_cases h1:as.size<=n
   ·exact .inl (Array.getElem?_eq_none h1)
   ·exact .inr (Array.getElem?_eq_none (by omega))
  ·exact wpAny_pure (hR h' ts c (kp _ _ hS hL) (by omega) ⟨G.nd,G.lo,λ m t ht=>by
    obtain ⟨x,y,e1,e2,e3⟩:=G.get m t ht
    exact ⟨x,y,e1,e2,kp _ _ (hts t (List.mem_of_getElem? ht)) e3⟩⟩ hSt λ d o hd e=>kp d o (λ z=>absurd (hlo d z) (Nat.not_le.mpr hd)) e)
 | succ k ih=>
  intro n s ts c hk hn st hL hl G hSt hts hlz hR
  have h1:n < as.size:=by omega
  have h2:n < bs.size:=by omega
  refine codeAny_builtin PySem.F.entry_extend_loop ?_
  rw [Around.under_plainId PySem.F.plain_extend_loop _]
  show wpAny _ A.in1 (pyNext (.ref z) >>= _) _ _ s
  refine wpAny_bind (zst_item nd na nb st (Array.getElem?_eq_getElem h1) (Array.getElem?_eq_getElem h2) λ h' st' pr sz kp=>?_)
  have hL':=kp _ _ hS hL
  show wpAny _ A.in1 (updateSeq S (·.push (.ref s.heap.objs.size)) >>= _) _ _ _
  refine wpAny_bind ?_
  have Sn:S ≠ s.heap.objs.size:=Nat.ne_of_lt (Heap.lt_size hL)
  have kp2:∀ d o,d ≠ S->h'.get? d=some o->(h'.update S (Obj.mapSeq (·.push (.ref s.heap.objs.size)))).get? d=some o:=λ d o hd e=>(Heap.get?_update_other _ _ (Ne.symm hd)).trans e
  have G':Got (h'.update S (Obj.mapSeq (·.push (.ref s.heap.objs.size)))) lo as bs (ts++[s.heap.objs.size]):=by
   refine ⟨?_,λ t ht=>?_,λ m t ht=>?_⟩
   ·rw [List.nodup_append]
    refine ⟨G.nd,by simp,λ x hx y hy=>?_⟩
    rw [List.mem_singleton.mp hy]
    exact Nat.ne_of_lt (G.lt x hx)
   ·rcases List.mem_append.mp ht with ht|ht
    ·exact G.lo t ht
    ·rw [List.mem_singleton.mp ht];exact hlz
   ·by_cases hm:m < ts.length
    ·rw [List.getElem?_append_left hm] at ht
     obtain ⟨x,y,e1,e2,e3⟩:=G.get m t ht
     have hmem:=List.mem_of_getElem? ht
     exact ⟨x,y,e1,e2,kp2 _ _ (λ z=>hSt (z ▸ hmem)) (kp _ _ (hts t hmem) e3)⟩
    ·rw [List.getElem?_append_right (by omega)] at ht
     have h0:m - ts.length=0:=by
      rcases Nat.eq_zero_or_pos (m - ts.length) with h|h
      ·exact h
      ·rw [List.getElem?_eq_none (by simp;omega)] at ht;cases ht
     rw [h0] at ht
     simp at ht
     subst ht
     have hmn:m=n:=by omega
     subst hmn
     exact ⟨_,_,Array.getElem?_eq_getElem h1,Array.getElem?_eq_getElem h2,kp2 _ _ (Ne.symm Sn) pr⟩
  have nw:s.heap.objs.size ∉ [z,TI,TO,p,q]:=by
   obtain ⟨e0,e1,⟨u,v,e2⟩,e3,e4⟩:=st
   simp only [List.mem_cons,List.not_mem_nil,or_false,not_or]
   refine ⟨?_,Nat.ne_of_gt (Heap.lt_size e1),Nat.ne_of_gt (Heap.lt_size e2),?_,?_⟩
   ·rcases e0 with e|⟨_,_,_,e,_⟩<;>exact Nat.ne_of_gt (Heap.lt_size e)
   ·obtain ⟨o,_,e,_⟩:=e3.1.obj;exact Nat.ne_of_gt (Heap.lt_size e)
   ·obtain ⟨o,_,e,_⟩:=e4.1.obj;exact Nat.ne_of_gt (Heap.lt_size e)
  have stK:Zst ka kb a b z TI TO p q as bs (n+1) (h'.update S (Obj.mapSeq (·.push (.ref s.heap.objs.size)))):=by
   obtain ⟨e0,e1,⟨u,v,e2⟩,⟨e3,e4⟩,e5,e6⟩:=st'
   simp only [List.mem_cons,List.not_mem_nil,or_false,not_or] at hS
   obtain ⟨n1,n2,n3,n4,n5⟩:=hS
   refine ⟨e0.imp (λ e=>kp2 _ _ (Ne.symm n1) e) (λ ⟨t,fl,ot,x1,x2,x3⟩=>?_),kp2 _ _ (Ne.symm n2) e1,⟨u,v,kp2 _ _ (Ne.symm n3) e2⟩,⟨e3.at λ o e=>kp2 _ o (Ne.symm n4) e,e4.at λ o e=>kp2 _ o aS e⟩,e5.at λ o e=>kp2 _ o (Ne.symm n5) e,e6.at λ o e=>kp2 _ o bS e⟩
   by_cases htS:t=S
   ·subst htS
    exact ⟨t,fl,_,kp2 _ _ (Ne.symm n1) x1,Heap.get?_update_self _ hL' rfl,x3⟩
   ·exact ⟨t,fl,ot,kp2 _ _ (Ne.symm n1) x1,kp2 _ _ htS x2,x3⟩
  have hLn:(h'.update S (Obj.mapSeq (·.push (Value.ref s.heap.objs.size)))).get? S=some { cls:=.type "list",dict:=none,data:=.seq ((ts++[s.heap.objs.size]).map Value.ref).toArray (c+1),slots:=#[] }:=by
   rw [Heap.get?_update_self (Obj.mapSeq (·.push (Value.ref s.heap.objs.size))) hL' rfl]
   simp [Obj.mapSeq]
  refine wpAny_updateSeq hL' rfl (wpAny_pure ⟨plainId_quiet PySem.F.plain_extend_loop _,ih (n+1) _ (ts++[s.heap.objs.size]) _ (by omega) (by omega) stK hLn (by simp [hl]) G' ?_ ?_ ?_ λ h3 ts3 c3 r1 r2 r3 r4 r5=>hR h3 ts3 c3 r1 r2 r3 r4 λ d o hd e=>r5 d o hd ?_⟩) ?_ ?_
  ·intro hm
   rcases List.mem_append.mp hm with hm|hm
   ·exact hSt hm
   ·exact Sn (List.mem_singleton.mp hm)
  ·intro t ht
   rcases List.mem_append.mp ht with ht|ht
   ·exact hts t ht
   ·rw [List.mem_singleton.mp ht];exact nw
  ·show lo<=(h'.update S _).objs.size
   rw [Heap.size_update,sz];exact Nat.le_trans hlz (Nat.le_succ _)
  ·exact kp2 _ _ (Nat.ne_of_lt (Nat.lt_of_lt_of_le hd hlS)) (kp d o (λ z=>absurd (hlo d z) (Nat.not_le.mpr hd)) e)
  ·simp;omega
  ·simp;omega
theorem zip_no_len:typeLookup (.type "zip") "__len__"=pure none:=by rw [typeLookup_type,builtinLookup_eq_fast];kernel_rfl
theorem zip_no_hint:typeLookup (.type "zip") "__length_hint__"=pure none:=by rw [typeLookup_type,builtinLookup_eq_fast];kernel_rfl
theorem Zst.ty (st:Zst ka kb a b z TI TO p q as bs n s.heap):s.TypeIs (.ref z) "zip":=by
 rcases st.1 with e|⟨_,_,_,e,_⟩
 ·exact ⟨_,e,rfl⟩
 ·exact ⟨_,e,rfl⟩
theorem Zst.but {h h':Heap}{S:Addr}(st:Zst ka kb a b z TI TO p q as bs 0 h) (e0:IsZip h z TI TO .none) (hS:S ∉ [z,TI,TO,p,q]) (aS:a ≠ S) (bS:b ≠ S) (k:∀ c o,c ≠ S->h.get? c=some o->h'.get? c=some o):Zst ka kb a b z TI TO p q as bs 0 h':=by
 obtain ⟨_,e1,⟨u,v,e2⟩,⟨e3,e4⟩,e5,e6⟩:=st
 simp only [List.mem_cons,List.not_mem_nil,or_false,not_or] at hS
 obtain ⟨n1,n2,n3,n4,n5⟩:=hS
 exact ⟨.inl (k _ _ (Ne.symm n1) e0),k _ _ (Ne.symm n2) e1,⟨u,v,k _ _ (Ne.symm n3) e2⟩,⟨e3.at λ o e=>k _ o (Ne.symm n4) e,e4.at λ o e=>k _ o aS e⟩,e5.at λ o e=>k _ o (Ne.symm n5) e,e6.at λ o e=>k _ o bS e⟩
theorem call_list_zip {Q:Value->Shared->Prop}(hh:A.handled=none) (nd:[z,TI,TO,p,q].Nodup) (na:a ∉ [z,TI,TO,p,q]) (nb:b ∉ [z,TI,TO,p,q]) (lo:Addr) (hlo:∀ c∈[z,TI,TO,p,q],lo<=c) (hsz:min as.size bs.size<=sizeLine)
  (e0:IsZip s.heap z TI TO .none) (st:Zst ka kb a b z TI TO p q as bs 0 s.heap)
  (hQ:∀ h' ts' c',h'.get? s.heap.objs.size=some { cls:=.type "list",dict:=none,data:=.seq (ts'.map Value.ref).toArray c',slots:=#[] }->ts'.length=min as.size bs.size->Got h' lo as bs ts'->s.heap.objs.size ∉ ts'->(∀ d o,d < lo->s.heap.get? d=some o->h'.get? d=some o)->Q (.ref s.heap.objs.size) { s with heap:=h' }) :
  wpAny (model prog w) A (call (.type "list") [.ref z]) Q E s:=by
 have zl:∀ c∈[z,TI,TO,p,q],c < s.heap.objs.size:=by
  obtain ⟨_,e1,⟨u,v,e2⟩,⟨e3,e4⟩,e5,e6⟩:=st
  intro c hc
  simp only [List.mem_cons,List.not_mem_nil,or_false] at hc
  rcases hc with rfl|rfl|rfl|rfl|rfl
  ·exact Heap.lt_size e0
  ·exact Heap.lt_size e1
  ·exact Heap.lt_size e2
  ·obtain ⟨o,_,e,_⟩:=e3.obj;exact Heap.lt_size e
  ·obtain ⟨o,_,e,_⟩:=e5.obj;exact Heap.lt_size e
 have hSf:s.heap.objs.size ∉ [z,TI,TO,p,q]:=λ hm=>Nat.lt_irrefl _ (zl _ hm)
 have hSz:s.heap.objs.size ≠ z:=λ e=>hSf (by simp [e])
 have al:a < s.heap.objs.size:=by obtain ⟨o,_,e,_⟩:=st.2.2.2.1.2.obj;exact Heap.lt_size e
 have bl:b < s.heap.objs.size:=by obtain ⟨o,_,e,_⟩:=st.2.2.2.2.2.obj;exact Heap.lt_size e
 have hlS:lo<=s.heap.objs.size:=Nat.le_of_lt (Nat.lt_of_le_of_lt (hlo z (by simp)) (zl z (by simp)))
 refine callType_codes (Q₁:=λ obj s₁=>obj=.ref s.heap.objs.size/\s₁={ s with heap:=s.heap.push { cls:=.type "list",data:=.seq #[] } }) PySem.F.called_list (PySem.F.typeCall_list_1 _) PySem.F.entry_list_init
  (code_list_new _ ⟨rfl,rfl⟩) λ obj s₁ h₁=>?_
 obtain ⟨rfl,rfl⟩:=h₁
 have hS:(s.heap.push { cls:=.type "list",data:=.seq #[] }).get? s.heap.objs.size=some { cls:=.type "list",data:=.seq #[] }:=Heap.get?_push_size _ rfl
 refine ⟨⟨_,hS,rfl⟩,PySem.F.args_list_init_2 _ _,?_⟩
 show wpAny _ A.in1.in1 (do let old ←Builtin.List.listItems (.ref s.heap.objs.size);Builtin.List.listUpdate (.ref s.heap.objs.size) (λ _=>#[]);letGo old.toList.reverse;Builtin.List.listExtendWith (.ref s.heap.objs.size) (.ref z) .none) _ _ _
 refine wpAny_bind ?_
 unfold Builtin.List.listItems
 refine wpAny_bind (wpAny_seqItems hS rfl (wpAny_pure ?_))
 show wpAny _ A.in1.in1 (updateSeq s.heap.objs.size (λ _=>#[]) >>= λ _=>letGo (#[]:Array Value).toList.reverse >>= λ _=>Builtin.List.listExtendWith (.ref s.heap.objs.size) (.ref z) .none) _ _ _
 refine wpAny_bind (wpAny_updateSeq hS rfl ?_)
 have hS₂:=Heap.get?_update_self (Obj.mapSeq (λ _=>(#[]:Array Value))) hS rfl
 refine wpAny_bind (wpAny_letGo ?_)
 have k1:∀ c o,s.heap.get? c=some o->((s.heap.push { cls:=.type "list",data:=.seq #[] }).update s.heap.objs.size (Obj.mapSeq (λ _=>(#[]:Array Value)))).get? c=some o:=λ c o e=>(Heap.get?_update_other _ _ (Nat.ne_of_gt (Heap.lt_size e))).trans (Heap.get?_push_of_some _ e)
 have st1:=st.keep k1
 have e1:=k1 _ _ e0
 have sz1:((s.heap.push { cls:=.type "list",data:=.seq #[] }).update s.heap.objs.size (Obj.mapSeq (λ _=>(#[]:Array Value)))).objs.size=s.heap.objs.size+1:=by rw [Heap.size_update,Heap.size_push]
 generalize (s.heap.push { cls:=.type "list",data:=.seq #[] }).update s.heap.objs.size (Obj.mapSeq (λ _=>(#[]:Array Value)))=hp at hS₂ k1 st1 e1 sz1
 unfold Builtin.List.listExtendWith
 have ty1:Shared.TypeIs { s with heap:=hp } (.ref z) "zip":=Zst.ty (s:={ s with heap:=hp }) st1
 refine wpAny_bind (wpAny_typeOf ty1 ?_)
 have h1:Builtin.List.listSameRef (.ref s.heap.objs.size) (.ref z)=false:=by simp [Builtin.List.listSameRef,hSz]
 have h2:(Value.type "zip" == Value.type "list")=false:=by decide
 have h3:(Value.type "zip" == Value.type "tuple")=false:=by decide
 simp only [h1,h2,h3,Bool.or_false,Bool.false_eq_true,if_false]
 refine wpAny_bind (wpAny_pyIter_zip e1 ?_)
 refine wpAny_bind (wpAny_holding ?_)
 unfold Builtin.List.listLengthHint
 refine wpAny_bind (wpAny_specialOf ty1 zip_no_len ?_)
 show wpAny _ A.in1.in1 (specialOf (Value.ref z) (Str.ofString "__length_hint__") >>= _) _ _ _
 refine wpAny_bind (wpAny_specialOf ty1 zip_no_hint ?_)
 refine wpAny_pure ?_
 show wpAny _ A.in1.in1 (rule "list.extend.makes-room" >>= λ _=>Builtin.List.listTouch (.ref s.heap.objs.size) >>= λ _=>
  again (.builtin "list.extend.loop" ⟨[.ref s.heap.objs.size,.ref z,.none],[]⟩)) _ _ _
 refine wpAny_bind (wpAny_rule ?_)
 refine wpAny_bind ?_
 show wpAny _ A.in1.in1 (updateSeq s.heap.objs.size (·.push .none) >>= λ _=>updateSeq s.heap.objs.size (·.pop)) _ _ _
 refine wpAny_bind (wpAny_updateSeq hS₂ rfl ?_)
 have hS₃:=Heap.get?_update_self (Obj.mapSeq (·.push Value.none)) hS₂ rfl
 refine wpAny_updateSeq (hz:=by seq_fits) hS₃ rfl ?_
 have hS₄:=Heap.get?_update_self (Obj.mapSeq (·.pop)) hS₃ rfl
 have oth:∀ c o,c ≠ s.heap.objs.size->hp.get? c=some o->((hp.update s.heap.objs.size (Obj.mapSeq (·.push Value.none))).update s.heap.objs.size (Obj.mapSeq (·.pop))).get? c=some o:=
  λ c o hc e=>(Heap.get?_update_other _ _ (Ne.symm hc)).trans ((Heap.get?_update_other _ _ (Ne.symm hc)).trans e)
 have st4:=st1.but e1 hSf (Nat.ne_of_lt al) (Nat.ne_of_lt bl) oth
 refine wpAny_pure ⟨plainId_quiet PySem.F.plain_extend_loop _,zip_loop (A:=A.in1) hh nd na nb s.heap.objs.size lo hSf (Nat.ne_of_lt al) (Nat.ne_of_lt bl) hlo hlS hsz _ 0 _ [] _ rfl (Nat.zero_le _) st4 (by exact hS₄) rfl ⟨List.nodup_nil,λ t h=>absurd h List.not_mem_nil,λ m t h=>by simp at h⟩ (by simp) (λ t h=>absurd h List.not_mem_nil) ?_ λ h' ts' c' r1 r2 r3 r4 r5=>?_⟩
 ·show lo<=((hp.update _ _).update _ _).objs.size
  rw [Heap.size_update,Heap.size_update,sz1];exact Nat.le_trans hlS (Nat.le_succ _)
 ·refine ⟨rfl,hQ h' ts' c' r1 r2 r3 r4 λ d o hd e=>r5 d o hd (oth d o (Nat.ne_of_lt (Heap.lt_size e)) (k1 d o e))⟩
end
section
variable {X:Cx}{pins:List (Addr × Obj)}{σ:St}{s:Shared}
theorem Inv.adoptAll:∀ (ts:List Addr) (zs:List (V × V)){H:Hp},Inv X pins σ H s->ts.length=zs.length->ts.Nodup->(∀ t∈ts,NewAt X pins t/\H t=none)->(∀ (m:Nat) t z,ts[m]? = some t->zs[m]? = some z->∃ u v,RelV z.1 u/\RelV z.2 v/\IsPair s.heap t u v) →
  ∃ H',Inv X pins σ H' s/\Ext H H'/\(∀ c,c ∉ ts->H' c=H c)/\∀ (m:Nat) t z,ts[m]? = some t->zs[m]? = some z->H' t=some (.tup [z.1,z.2])
 | [],zs,H,I,_,_,_,_=>⟨H,I,Ext.refl _,λ _ _=>rfl,λ m t z h=>by simp at h⟩
 | t::ts,[],H,I,hl,_,_,_=>by simp at hl
 | t::ts,z::zs,H,I,hl,nd,hn,hp=>by
  rw [List.nodup_cons] at nd
  obtain ⟨N,ht⟩:=hn t List.mem_cons_self
  obtain ⟨u,v,ru,rv,pr⟩:=hp 0 t z rfl rfl
  have I1:=I.adopt (o:=.tup [z.1,z.2]) N ht ⟨(show 2<=sizeLine by decide),[u,v],.cons ru (.cons rv .nil),⟨_,pr,rfl,_,rfl⟩⟩
  have up:∀ c∈ts,c ≠ t:=λ c hc e=>nd.1 (e ▸ hc)
  obtain ⟨H',I',e',q',g'⟩:=Inv.adoptAll ts zs I1 (by simpa using hl) nd.2 (λ c hc=>⟨(hn c (List.mem_cons_of_mem _ hc)).1,by rw [upd_ne (up c hc)];exact (hn c (List.mem_cons_of_mem _ hc)).2⟩) λ m t' z' h1 h2=>hp (m+1) t' z' (by simpa using h1) (by simpa using h2)
  refine ⟨H',I',(Ext.new ht).trans e',λ c hc=>?_,λ m t' z' h1 h2=>?_⟩
  ·rw [q' c (λ h=>hc (List.mem_cons_of_mem _ h)),upd_ne (λ h=>hc (by rw [h];exact List.mem_cons_self))]
  ·cases m with
   | zero=>
    simp at h1 h2
    subst h1;subst h2
    rw [q' t nd.1,upd_same]
   | succ m=>exact g' m t' z' (by simpa using h1) (by simpa using h2)
end
def lzK (xs ys:List V) (H:Hp) (Q:VK):Prop:=∀ (D:Addr) (ts:List V) (H':Hp),H D=none->Ext H H'->H' D=some (.lst ts)->Al (λ z y=>zipP z y H') (xs.zip ys) ts->Q (.ref D) H'
theorem x_lzK (xs ys:List V) (H:Hp) (Q:VK):lzK xs ys H Q=∀ (D:Addr) (ts:List V) (H':Hp),H D=none->Ext H H'->H' D=some (.lst ts)->Al (λ z y=>zipP z y H') (xs.zip ys) ts->Q (.ref D) H':=rfl
def kLZ2 (xs:List V) (H:Hp) (Q:VK):HO->Prop:=λ o=>match o with
 | .lst ys=>lzK xs ys H Q
 | .tup ys=>lzK xs ys H Q
 | _=>False
theorem m_kLZ2_l (xs ys:List V) (H:Hp) (Q:VK):kLZ2 xs H Q (.lst ys)=lzK xs ys H Q:=rfl
def kLZ1 (b:Addr) (H:Hp) (Q:VK):HO->Prop:=λ o=>match o with
 | .lst xs=>optK (H b) (kLZ2 xs H Q)
 | .tup xs=>optK (H b) (kLZ2 xs H Q)
 | _=>False
theorem m_kLZ1_l (b:Addr) (xs:List V) (H:Hp) (Q:VK):kLZ1 b H Q (.lst xs)=optK (H b) (kLZ2 xs H Q):=rfl
def kLZ0 (Q:VK):List V->Hp->Prop:=λ vs H=>match vs with
 | [.ref a,.ref b]=>optK (H a) (kLZ1 b H Q)
 | _=>False
theorem m_kLZ0 (Q:VK) (a b:Addr) (H:Hp):kLZ0 Q [.ref a,.ref b] H=optK (H a) (kLZ1 b H Q):=rfl
def tLZ (ta:TA):TE:=λ σ H Q=>ta σ H (kLZ0 Q)
theorem m_tLZ (ta:TA) (σ:St) (H:Hp) (Q:VK):tLZ ta σ H Q=ta σ H (kLZ0 Q):=rfl
theorem kLZ0_ex {Q:VK}{vs:List V}{H:Hp}(h:kLZ0 Q vs H):∃ a b ka kb xs ys,vs=[.ref a,.ref b]/\SqK ka H a xs/\SqK kb H b ys/\lzK xs ys H Q:=by
 unfold kLZ0 at h
 split at h
 ·rename_i a b
  obtain ⟨o,e,h⟩:=optK_ex h
  unfold kLZ1 at h
  split at h
  ·rename_i xs
   obtain ⟨o',e',h⟩:=optK_ex h
   unfold kLZ2 at h
   split at h
   ·exact ⟨a,b,false,false,xs,_,rfl,e,e',h⟩
   ·exact ⟨a,b,false,true,xs,_,rfl,e,e',h⟩
   ·exact h.elim
  ·rename_i xs
   obtain ⟨o',e',h⟩:=optK_ex h
   unfold kLZ2 at h
   split at h
   ·exact ⟨a,b,true,false,xs,_,rfl,e,e',h⟩
   ·exact ⟨a,b,true,true,xs,_,rfl,e,e',h⟩
   ·exact h.elim
  ·exact h.elim
 ·exact h.elim
theorem Inv.sqLe {X:Cx}{pins:List (Addr × Obj)}{σ:St}{H:Hp}{s:Shared}{k:Bool}{a:Addr}{xs:List V}(I:Inv X pins σ H s) (h:SqK k H a xs):xs.length<=sizeLine:=by
 cases k
 ·obtain ⟨_,_,_,h⟩:=I.list (SqL.of h);exact h
 ·obtain ⟨_,_,_,h⟩:=I.tuple (SqT.of h);exact h
section
variable {X:Cx}
theorem vals_refs:∀ ts:List Addr,Vals (ts.map V.ref) (ts.map Value.ref)
 | []=>.nil
 | _::ts=>.cons rfl (vals_refs ts)
theorem pe_listzip {a b:Expr}{ta:TA}{p p2 pos pos2:Pos}(hc:X.calm=true) (hg:Gl X "list") (hm:X.mg "list"=none) (hg2:Gl X "zip") (hm2:X.mg "zip"=none) (ha:PA X [a,b] ta) (hs:starEach [a,b] X.env=[(false,eval a X.env),(false,eval b X.env)]:=by rfl) (hs2:starEach [b] X.env=[(false,eval b X.env)]:=by rfl) (hs3:starEach [Expr.Call (.Name "zip" p2) [a,b] [] pos2] X.env=[(false,eval (Expr.Call (.Name "zip" p2) [a,b] [] pos2) X.env)]:=by rfl) (hs4:starEach ([]:List Expr) X.env=[]:=by rfl) :
  PE X (.Call (.Name "list" p) [.Call (.Name "zip" p2) [a,b] [] pos2] [] pos) (tLZ ta):=by
 intro pins s σ H Q I h
 refine wpAny_Call_Name_kw (ld_blt I hg hm (show bootBuiltins "list"=some (.type "list") by decide +kernel) ?_)
 refine PyProof.Rows.callWith_type1 ?_ (by rw [hs3,hs4]) (by rw [hs4];rfl)
 rw [hs3]
 show wpAny _ _ (spliced ((false,eval _ X.env)::[])) _ _ s
 refine Calls.spliced_cons ?_
 refine Call_ (ld_blt I hg2 hm2 (show bootBuiltins "zip"=some (.type "zip") by decide +kernel) (PyProof.Rows.callWith_type1 (thn (ha pos2 pins s σ H _ I h) λ us s1 ⟨vs,H1,I1,r1,q1⟩=>?_) (by rw [hs,hs2]) (by rw [hs2];rfl)))
 obtain ⟨a,b,ka,kb,xs,ys,rfl,sa,sb,q⟩:=kLZ0_ex q1
 cases r1 with
 | cons r rr=>
  cases rr with
  | cons r' rr=>
   cases rr
   cases r
   cases r'
   obtain ⟨as,ra,s1a⟩:=I1.sq sa
   obtain ⟨bs,rb,s1b⟩:=I1.sq sb
   have la:=ra.length
   have lb:=rb.length
   have lz:=I1.sqLe sa
   have lz2:=I1.sqLe sb
   refine call_zq s1a s1b λ h' n hn e1 e2 e3 e4 e5 e6 e7=>?_
   refine Calls.spliced_nil ?_
   have nn:∀ c∈[n+4,n+2,n+3,n,n+1],n<=c:=λ c hc=>by
    simp only [List.mem_cons,List.not_mem_nil,or_false] at hc
    rcases hc with rfl|rfl|rfl|rfl|rfl<;>omega
   have al:a < n:=by rw [hn];obtain ⟨o,_,e,_⟩:=s1a.obj;exact Heap.lt_size e
   have bl:b < n:=by rw [hn];obtain ⟨o,_,e,_⟩:=s1b.obj;exact Heap.lt_size e
   refine call_list_zip (s:={ s1 with heap:=h' }) (I1.ok.hd hc) (by simp) (λ z=>absurd (nn a z) (Nat.not_le.mpr al)) (λ z=>absurd (nn b z) (Nat.not_le.mpr bl)) n nn (by simp;omega) e1 ⟨.inl e1,e2,⟨_,_,e3⟩,⟨e4,s1a.at λ o e=>e7 _ o e⟩,e5,s1b.at λ o e=>e7 _ o e⟩ λ h2 ts c r1 r2 G r4 r5=>?_
   have r1':h2.get? (n+5)=some { cls:=.type "list",dict:=none,data:=.seq (ts.map Value.ref).toArray c,slots:=#[] }:=by rw [←e6];exact r1
   have I2:Inv X pins σ H1 { s1 with heap:=h2 }:=I1.kept (t':=s1.toks) λ c o e=>r5 c o (by rw [hn];exact Heap.lt_size e) (e7 c o e)
   have hln:ts.length=(xs.zip ys).length:=by rw [r2,List.length_zip];simp;omega
   have fr:∀ t,n<=t->NewAt X pins t/\H1 t=none:=λ t ht=>⟨I1.newAt (by rw [←hn];exact ht),I1.hok.fresh (by rw [←hn];exact ht)⟩
   obtain ⟨H2,I3,x2,q2,g2⟩:=I2.adoptAll ts (xs.zip ys) hln G.nd (λ t ht=>fr t (G.lo t ht)) λ m t z h1 h2=>by
    obtain ⟨u,v,g1,g2,g3⟩:=G.get m t h1
    rw [List.getElem?_zip_eq_some] at h2
    obtain ⟨u',hu,ru⟩:=ra.get h2.1
    obtain ⟨v',hv,rv⟩:=rb.get h2.2
    have hu':as.toArray[m]? = some u':=by simpa using hu
    have hv':bs.toArray[m]? = some v':=by simpa using hv
    rw [g1] at hu'
    rw [g2] at hv'
    cases hu';cases hv'
    exact ⟨u,v,ru,rv,g3⟩
   have hD:H2 (n+5)=none:=by
    rw [q2 _ (by rw [←e6];exact r4)]
    exact (fr (n+5) (Nat.le_add_right ..)).2
   have I4:=I3.adopt (o:=.lst (ts.map V.ref)) (fr (n+5) (Nat.le_add_right ..)).1 hD ⟨by rw [List.length_map,r2];simp;omega,ts.map Value.ref,c,vals_refs ts,r1'⟩
   refine ⟨.ref (n+5),_,I4,by rw [←e6];rfl,q (n+5) (ts.map V.ref) _ (fr (n+5) (Nat.le_add_right ..)).2 (x2.trans (Ext.new hD)) upd_same ⟨by rw [List.length_map,hln],λ m z y hz hy=>?_⟩⟩
   rw [List.getElem?_map] at hy
   obtain ⟨t,ht,rfl⟩:=Option.map_eq_some_iff.mp hy
   exact ⟨t,rfl,by rw [upd_ne (λ e=>r4 (by rw [e6,←e];exact List.mem_of_getElem? ht))];exact g2 m t z ht hz⟩
end
end L2
set_option Elab.async false
set_option linter.all false
set_option maxRecDepth 100000
set_option maxHeartbeats 4000000
namespace L2
open PySem PySem.Spec PyProof.Rows
section
variable {X:Cx}
end
def kExt2 (l:Addr) (xs:List V) (H:Hp) (Q:VK):List V->Prop:=λ zs=>xs.length+zs.length<=sizeLine/\Q .non (upd H l (.lst (xs++zs)))
theorem m_kExt2 (l:Addr) (xs:List V) (H:Hp) (Q:VK) (zs:List V):kExt2 l xs H Q zs=(xs.length+zs.length<=sizeLine/\Q .non (upd H l (.lst (xs++zs)))):=rfl
def kExt1 (l b:Addr) (H:Hp) (Q:VK):List V->Prop:=λ xs=>optK (lstAt H b) (kExt2 l xs H Q)
theorem m_kExt1 (l b:Addr) (H:Hp) (Q:VK) (xs:List V):kExt1 l b H Q xs=optK (lstAt H b) (kExt2 l xs H Q):=rfl
theorem m_rExtend (l b:Addr) (H:Hp) (Q:VK):rExtend (.ref l) [.ref b] H Q=optK (lstAt H l) (kExt1 l b H Q):=by
 refine propext ⟨λ h=>?_,λ h=>?_⟩
 ·obtain ⟨l',b',xs,zs,e1,e2,h1,h2,h3,q⟩:=h
  cases e1
  cases e2
  unfold lstAt
  rw [h1]
  show optK (lstAt H b) _
  unfold lstAt
  rw [h2]
  exact ⟨h3,q⟩
 ·obtain ⟨xs,e,h⟩:=optK_ex h
  obtain ⟨zs,e2,h3,q⟩:=optK_ex h
  exact ⟨l,b,xs,zs,rfl,rfl,lst_of e,lst_of e2,h3,q⟩
section
variable {X:Cx}{a b c d:Expr}{ta tb tc td:TE}{pos:Pos}
end
section
variable {k:Nat}{g:TG}{tt:TT}{te:TE}{σ:St}{Q:VK}{H:Hp}{K:PySem.W.Frag}
theorem comp_rel2 {α:Type}{J:It}(zs:List α) (c:α->Bool) (P:α->V->Hp->Prop) (R:Addr->α->V->Hp->Prop)
  (hgo:∀ i z H',zs[i]? = some z->Ext H H'->J.go i H'/\∀ x H'',J.yld i H' x H''->Ext H' H''/\P z x H'')
  (hst:∀ H',Ext H H'->J.stop zs.length H')
  (hR1:∀ D z y H1 H2,R D z y H1->Ext H1 H2->R D z y H2) (hR2:∀ D z y H1 xs o,R D z y H1->H1 D=some (.lst xs)->R D z y (upd H1 D o))
  (hl:zs.length<=sizeLine)
  (hs:∀ D z x H' N1 N0,z∈zs->H D=none->Ext H H'->(∃ ys,H' D=some (.lst ys))->P z x H'->(c z=true->∀ y H'',Ext H' H''->R D z y H''->N1 y H'')->(c z=false->∀ H'',Ext H' H''->N0 H'')->g x (List.replicate k none++σ) H' (kCm k tt te σ N1 N0))
  (hd:∀ D ys H',H D=none->Ext H H'->H' D=some (.lst ys)->Al (λ z y=>R D z y H') (zs.filter c) ys->Q (.ref D) H'):kComp k g tt te σ Q J H:=by
 intro D hD
 refine ⟨λ i m ys H'=>m=zs.length - i/\i<=zs.length/\Ext H H'/\H' D=some (.lst ys)/\Al (λ z y=>R D z y H') ((zs.take i).filter c) ys,⟨zs.length,by simp,Nat.zero_le _,Ext.new hD,upd_same,by simpa using Al.nil⟩,?_⟩
 rintro i m ys H' ⟨rfl,hi,e,hD',al⟩
 by_cases hlt:i < zs.length
 ·have hz:zs[i]? = some zs[i]:=List.getElem?_eq_getElem hlt
  obtain ⟨go,y⟩:=hgo i zs[i] H' hz e
  have tk:zs.take (i+1)=zs.take i++[zs[i]]:=by rw [List.take_succ,hz];rfl
  have ln:ys.length < sizeLine:=by
   have h1:=al.1
   have h2:=List.length_filter_le c (zs.take i)
   simp only [List.length_take] at h2
   omega
  refine .inr ⟨go,λ ys' H2=>Ext H H2/\H2 D=some (.lst ys')/\Al (λ z y=>R D z y H2) ((zs.take (i+1)).filter c) ys',λ ys' H2 p=>⟨zs.length - (i+1),by omega,rfl,hlt,p⟩,λ x H2 z=>?_⟩
  obtain ⟨e2,p2⟩:=y x H2 z
  refine hs D zs[i] x H2 (kC3 D ys _) _ (List.getElem_mem hlt) hD (e.trans e2) ⟨ys,e2.at hD'⟩ p2 (λ hc y H3 e3 r3=>?_) λ hc H3 e3=>?_
  ·refine ⟨e3.at (e2.at hD'),ln,(e.trans (e2.trans e3)).put hD,upd_same,?_⟩
   rw [tk,List.filter_append,show [zs[i]].filter c=[zs[i]] by simp [hc]]
   exact Al.snoc (al.imp λ z y r=>hR2 _ _ _ _ _ _ (hR1 _ _ _ _ _ r (e2.trans e3)) (e3.at (e2.at hD'))) (hR2 _ _ _ _ _ _ r3 (e3.at (e2.at hD')))
  ·refine ⟨e.trans (e2.trans e3),(e2.trans e3).at hD',?_⟩
   rw [tk,List.filter_append,show [zs[i]].filter c=[] by simp [hc],List.append_nil]
   exact al.imp λ z y r=>hR1 _ _ _ _ _ r (e2.trans e3)
 ·have e':i=zs.length:=by omega
  subst e'
  rw [List.take_length] at al
  exact .inl ⟨hst H' e,hd D ys H' hD e hD' al⟩
end
end L2
set_option Elab.async false
set_option linter.all false
set_option maxRecDepth 100000
set_option maxHeartbeats 4000000
namespace L2
open PySem PySem.Spec PyProof.Rows
def Ite (l:Addr) (xs:List V):It:=
 ⟨λ i H=>H l=some (.lst xs)/\i < xs.length,λ i H x H'=>∃ p u,H p=none/\x=.ref p/\xs[i]? = some u/\H'=upd H p (.tup [.int (i:Int),u]),λ i H=>H l=some (.lst xs)/\i=xs.length⟩
def Tne (l e it:Addr) (i:Nat) (h:Heap):Prop:=(∃ old,IsEnum h e it (i:Int) old)/\h.IsListIter it l i
theorem turn_enum {P:Program}{w:World}{K:PySem.W.Frag}{elts:List Expr} {x1}{tp:Pos}(l e it:Addr) (xs:List V) (ne:e ≠ it):Turn P w K (.Tuple elts x1 tp) (Ite l xs) [e,it] e (Tne l e it) where
 mem:=List.mem_cons_self
 obj:=λ i h st c hc=>by
  obtain ⟨⟨old,e1⟩,e2⟩:=st
  simp only [List.mem_cons,List.not_mem_nil,or_false] at hc
  rcases hc with rfl|rfl
  ·exact ⟨_,e1,λ v z=>by cases z⟩
  ·obtain ⟨o,e,_,d⟩:=e2;exact ⟨o,e,λ v z=>by rw [d] at z;cases z⟩
 keep:=λ i h h' st k=>by
  obtain ⟨⟨old,e1⟩,e2⟩:=st
  exact ⟨⟨old,k e (by simp) _ e1⟩,e2.at λ o q=>k it (by simp) o q⟩
 item:=by
  intro X hP hw hK hc i pins s σ H E I hf st hg
  subst hP hw hK
  obtain ⟨ha,l1⟩:=hg
  obtain ⟨as,ra,pl,_⟩:=I.list (SqL.of ha)
  have hx:xs[i]? = some xs[i]:=List.getElem?_eq_getElem l1
  obtain ⟨u,hu,ru⟩:=ra.get hx
  have free:∀ c∈[e,it],H c=none:=λ c h=>(hf c h).1
  have nle:l ≠ e:=λ z=>by have:=free e (by simp);rw [←z,ha] at this;cases this
  have nlt:l ≠ it:=λ z=>by have:=free it (by simp);rw [←z,ha] at this;cases this
  have W:=WalksT.enumerate (prog:=X.prog) (w:=X.w) (I.ok.hd hc) e it l ne nle nlt as.toArray
  have la:=ra.length
  obtain ⟨e1,e2⟩:=st
  obtain ⟨old,e1'⟩:=e1
  refine W.item i s _ E (by simp;omega) ⟨⟨old,e1'⟩,e2,pl.isList⟩ λ T vals h1 tk hp hle hT hmid kp=>⟨_,rfl,?_⟩
  refine W.go elts x1 tp i T ⟨h1,s.gens,s.drawn,tk,s.os⟩ _ E hmid λ h2 st2 kp2=>?_
  have nT:=W.apart i T h1 hmid
  obtain ⟨tk',x,hx',rfl⟩:=hp
  have hxu:x=u:=by
   have:as[i]? = some x:=by simpa using hx'
   rw [hu] at this;exact (Option.some.inj this).symm
  subst hxu
  have hT2:h2.IsTuple T #[.int (i:Int) tk',x]:=hT.at λ o q=>kp2 T o nT q
  have I2:Inv X pins σ (upd H T (.tup [.int (i:Int),xs[i]])) { s with heap:=h2,toks:=tk }:=I.turnNew (t':=tk) (ch:=[e,it]) (λ c hc=>hf c hc) (λ c o hc q=>kp2 c o hc (kp c o hc q)) hle ⟨(show 2<=sizeLine by decide),[.int (i:Int) tk',x],.cons ⟨tk',rfl⟩ (.cons ru .nil),hT2⟩
  have fr:H T=none:=I.hok.fresh hle
  refine ⟨.ref T,_,I2,rfl,⟨_,_,fr,rfl,hx,rfl⟩,⟨st2.1,st2.2.1⟩,λ c hc=>?_⟩
  have hlt:c < s.heap.objs.size:=by
   simp only [List.mem_cons,List.not_mem_nil,or_false] at hc
   rcases hc with rfl|rfl
   ·exact Heap.lt_size e1'
   ·obtain ⟨o,q,_⟩:=e2;exact Heap.lt_size q
  rw [upd_ne (Nat.ne_of_lt (Nat.lt_of_lt_of_le hlt hle))]
  exact free c hc
 done:=by
  intro X hP hw hK hc i pins s σ H E I hf st hg
  subst hP hw hK
  obtain ⟨ha,rfl⟩:=hg
  obtain ⟨as,ra,pl,_⟩:=I.list (SqL.of ha)
  have free:∀ c∈[e,it],H c=none:=λ c h=>(hf c h).1
  have nle:l ≠ e:=λ z=>by have:=free e (by simp);rw [←z,ha] at this;cases this
  have nlt:l ≠ it:=λ z=>by have:=free it (by simp);rw [←z,ha] at this;cases this
  have W:=WalksT.enumerate (prog:=X.prog) (w:=X.w) (I.ok.hd hc) e it l ne nle nlt as.toArray
  have la:=ra.length
  have hsz:as.toArray.size=xs.length:=by simp [la]
  obtain ⟨e1,e2⟩:=st
  refine W.done s _ E (by rw [hsz];exact ⟨e1,e2,pl.isList⟩) λ h' tk kp=>⟨rfl,I.turnL (t':=tk) (ch:=[e,it]) (λ c hc=>hf c hc) kp⟩
 self:=λ A i s Q E st h=>by
  obtain ⟨⟨old,e1⟩,e2⟩:=st
  exact wpAny_pyIter_enum e1 h
def kEn1 (l:Addr) (H:Hp) (R:It->Hp->Prop):List V->Prop:=λ xs=>R (Ite l xs) H
theorem m_kEn1 (l:Addr) (H:Hp) (R:It->Hp->Prop) (xs:List V):kEn1 l H R xs=R (Ite l xs) H:=rfl
def kEn0 (R:It->Hp->Prop):List V->Hp->Prop:=λ vs H=>match vs with
 | [.ref l]=>optK (lstAt H l) (kEn1 l H R)
 | _=>False
theorem m_kEn0 (R:It->Hp->Prop) (l:Addr) (H:Hp):kEn0 R [.ref l] H=optK (lstAt H l) (kEn1 l H R):=rfl
def iEnum (ta:TA):TI:=λ σ H R=>ta σ H (kEn0 R)
theorem m_iEnum (ta:TA) (σ:St) (H:Hp) (R:It->Hp->Prop):iEnum ta σ H R=ta σ H (kEn0 R):=rfl
section
variable {X:Cx}
theorem pi_enum {a:Expr}{elts:List Expr} {x1}{tp:Pos}{ta:TA}{p pos:Pos}(hg:Gl X "enumerate") (hm:X.mg "enumerate"=none) (ha:PA X [a] ta) (he:starEach [a] X.env=[(false,eval a X.env)]:=by rfl) :
  PI X (.Tuple elts x1 tp) (.Call (.Name "enumerate" p) [a] [] pos) (iEnum ta):=by
 intro pins s σ H R I h
 refine Call_ (ld_blt I hg hm (show bootBuiltins "enumerate"=some (.type "enumerate") by decide +kernel) (PyProof.Rows.callWith_type1 (thn (ha pos pins s σ H _ I h) λ us s1 ⟨vs,H1,I1,r1,q1⟩=>?_) (by rw [he];rfl) (by rfl)))
 unfold kEn0 at q1
 split at q1
 ·rename_i l
  obtain ⟨xs,e,q⟩:=optK_ex q1
  replace e:=lst_of e
  cases r1 with
  | cons r rr=>
   cases rr
   cases r
   obtain ⟨as,ra,pl,_⟩:=I1.list (SqL.of e)
   refine call_enumerate_list pl.isList λ h' e1 e2 e3 e4=>?_
   have I2:Inv X pins σ H1 { s1 with heap:=h' }:=I1.kept (t':=s1.toks) e4
   refine wpAny_pyIter_enum (s:={ s1 with heap:=h' }) e1 ⟨s1.heap.objs.size+1,[s1.heap.objs.size+1,s1.heap.objs.size],_,_,H1,rfl,I2,turn_enum l (s1.heap.objs.size+1) s1.heap.objs.size xs (by simp),⟨⟨_,e1⟩,e2⟩,λ c hc=>?_,q⟩
   have hle:s1.heap.objs.size<=c:=by
    simp only [List.mem_cons,List.not_mem_nil,or_false] at hc
    rcases hc with rfl|rfl
    ·exact Nat.le_add_right ..
    ·exact Nat.le_refl _
   exact I1.fpOk hle (I1.hok.fresh hle)
 ·exact q1.elim
end
section
variable {g:TG}{σ:St}{Q:VK}{H:Hp}{K:PySem.W.Frag}
theorem for_enum {tb:TS}{nx:St->Hp->Prop}{rt:VK}{bk ct:St->Hp->Prop}{l:Addr}{xs:List V}(Pv:Nat->St->Hp->Prop) (h0:Pv 0 σ H) (hl:∀ i σ H,Pv i σ H->H l=some (.lst xs))
  (hs:∀ i u p σ H H',xs[i]? = some u->Pv i σ H->H p=none->Ext H H'->H' p=some (.tup [.int (i:Int),u])->g (.ref p) σ H' (kBody tb ⟨Pv (i+1),rt,nx,Pv (i+1)⟩)) (hd:∀ σ H,Pv xs.length σ H->nx σ H):kFor g tb ⟨nx,rt,bk,ct⟩ σ (Ite l xs) H:=by
 refine ⟨λ i m σ H=>m=xs.length - i/\i<=xs.length/\Pv i σ H,⟨xs.length,by simp,Nat.zero_le _,h0⟩,?_⟩
 rintro i m σ H ⟨rfl,hi,p⟩
 have qa:=hl i σ H p
 by_cases hlt:i < xs.length
 ·refine .inr ⟨⟨qa,hlt⟩,Pv (i+1),λ σ' H' p'=>⟨xs.length - (i+1),by omega,rfl,hlt,p'⟩,λ x H' y=>?_⟩
  obtain ⟨r,u,hr,rfl,hu,rfl⟩:=y
  exact hs i u r σ H _ hu p hr (Ext.new hr) upd_same
 ·have e:i=xs.length:=by omega
  subst e
  exact .inl ⟨⟨qa,rfl⟩,hd σ H p⟩
end
section
variable {X:Cx}{CX:CXT}{k:Nat}{f C:Addr}{fd:FuncData}{ps:List Str}{sp:Sp}{dvs:List V}{ds:List Value}{E:St->XK}{x m:Str}{p pos apos:Pos}{e o:Expr}{es:List Expr}{ta:TE}{t:TA}
end
end L2
set_option Elab.async false
set_option linter.all false
set_option maxRecDepth 100000
set_option maxHeartbeats 1000000
namespace L2
open PySem PySem.Spec PyProof.Rows
section
variable {X:Cx}{e st:Expr}{te tst:TE}{pos p2:Pos}
end
end L2
set_option Elab.async false
set_option linter.all false
set_option maxRecDepth 100000
set_option maxHeartbeats 1000000
namespace L2
open PySem PySem.Spec PyProof.Rows
def rngV (n:Int):List V:=(List.range n.toNat).map λ (i:Nat)=>V.int (i:Int)
def kLR (Q:VK):List V->Hp->Prop:=λ vs H=>match vs with
 | [.int n]=>0<=n/\n<=4096/\newK (.lst (rngV n)) H Q
 | _=>False
theorem x_kLR (Q:VK) (n:Int) (H:Hp):kLR Q [.int n] H=(0<=n/\n<=4096/\newK (.lst (rngV n)) H Q):=rfl
def tLR (ta:TA):TE:=λ σ H Q=>ta σ H (kLR Q)
theorem m_tLR (ta:TA) (σ:St) (H:Hp) (Q:VK):tLR ta σ H Q=ta σ H (kLR Q):=rfl
theorem range_small {n:Int}(h0:n<=4096) (h1:-5000<=n):Builtin.Range.small 0 n 1=true/\Builtin.Range.rangeSize 0 n 1=((n.toNat:Nat):Int):=by
 have e:Builtin.Range.rangeSize 0 n 1=((n.toNat:Nat):Int):=by
  unfold Builtin.Range.rangeSize
  rw [if_pos (by decide)]
  split
  ·rw [Int.ediv_one];omega
  ·omega
 refine ⟨?_,e⟩
 unfold Builtin.Range.small
 rw [e,if_pos (by decide)]
 unfold Builtin.Range.rangeFitsLong
 simp
 omega
theorem vals_of_get:∀ {xs:List V}{us:List Value},us.length=xs.length->(∀ (i:Nat) (x:V) (u:Value),xs[i]? = some x->us[i]? = some u->RelV x u)->Vals xs us
 | [],[],_,_=>.nil
 | [],_::_,h,_=>by cases h
 | _::_,[],h,_=>by cases h
 | x::xs,u::us,h,k=>.cons (k 0 x u rfl rfl) (vals_of_get (by simpa using h) λ i y w a b=>k (i+1) y w (by simpa using a) (by simpa using b))
section
variable {X:Cx}
theorem pe_listrange {a:Expr}{ta:TA}{p p2 pos pos2:Pos}(hc:X.calm=true) (hg:Gl X "list") (hm:X.mg "list"=none) (hg2:Gl X "range") (hm2:X.mg "range"=none) (ha:PA X [a] ta) (hs:starEach [a] X.env=[(false,eval a X.env)]:=by rfl) (hs3:starEach [Expr.Call (.Name "range" p2) [a] [] pos2] X.env=[(false,eval (Expr.Call (.Name "range" p2) [a] [] pos2) X.env)]:=by rfl) (hs4:starEach ([]:List Expr) X.env=[]:=by rfl) :
  PE X (.Call (.Name "list" p) [.Call (.Name "range" p2) [a] [] pos2] [] pos) (tLR ta):=by
 intro pins s σ H Q I h
 refine wpAny_Call_Name_kw (ld_blt I hg hm (show bootBuiltins "list"=some (.type "list") by decide +kernel) ?_)
 refine PyProof.Rows.callWith_type1 ?_ (by rw [hs3,hs4]) (by rw [hs4];rfl)
 rw [hs3]
 show wpAny _ _ (spliced ((false,eval _ X.env)::[])) _ _ s
 refine Calls.spliced_cons ?_
 refine Call_ (ld_blt I hg2 hm2 boot_range (PyProof.Rows.callWith_type1 (thn (ha pos2 pins s σ H _ I h) λ us s1 ⟨vs,H1,I1,r1,q1⟩=>?_) hs rfl))
 unfold kLR at q1
 split at q1
 ·rename_i n
  obtain ⟨hn0,hn,q⟩:=q1
  cases r1 with
  | cons r rr=>
   cases rr
   obtain ⟨t,rfl⟩:=r
   refine call_range_1 ?_
   refine Calls.spliced_nil ?_
   obtain ⟨k1,k2⟩:=range_small hn (by omega)
   have I2:Inv X pins σ H1 { s1 with heap:=s1.heap.push { cls:=.type "range",data:=.fields #[.int 0 s1.toks,.int n t,.int 1 (s1.toks+1)] },toks:=s1.toks+1+1 }:=I1.kept (t':=s1.toks+1+1) λ b ob e=>Heap.get?_push_of_some _ e
   refine call_list_range (s:={ s1 with heap:=s1.heap.push { cls:=.type "range",data:=.fields #[.int 0 s1.toks,.int n t,.int 1 (s1.toks+1)] },toks:=s1.toks+1+1 }) (n:=n.toNat) (I1.ok.hd hc) (Heap.get?_push_size _ rfl) k1 k2 (by omega) λ h' tk acc c kp hget hit=>?_
   have fr:=I2.hok.fresh (Nat.le_refl _)
   have hv:Vals (rngV n) acc.toList:=by
    refine vals_of_get (by unfold rngV;rw [List.length_map,List.length_range,Array.length_toList,hit.1]) λ i x u hx hu=>?_
    unfold rngV at hx
    rw [List.getElem?_map] at hx
    obtain ⟨j,hj,rfl⟩:=Option.map_eq_some_iff.mp hx
    obtain ⟨hj1,hj2⟩:=List.getElem?_eq_some_iff.mp hj
    have ej:i=j:=by simpa using hj2
    subst ej
    obtain ⟨tk',e⟩:=hit.2 i u (by simpa using hu)
    exact ⟨tk',by rw [e];congr 1;omega⟩
   refine ⟨.ref (s1.heap.push { cls:=.type "range",data:=.fields #[.int 0 s1.toks,.int n t,.int 1 (s1.toks+1)] }).objs.size,_,I2.laid (t':=tk) (o:=.lst (rngV n)) kp (Nat.le_refl _) ⟨?_,acc.toList,c,hv,?_⟩,rfl,q _ _ fr (Ext.new fr) upd_same⟩
   ·unfold rngV;rw [List.length_map,List.length_range];exact len5000 (by omega)
   ·exact hget
 ·exact q1.elim
end
end L2
set_option Elab.async false
set_option linter.all false
set_option maxRecDepth 100000
set_option maxHeartbeats 1000000
namespace L2
open PySem PySem.Spec PyProof.Rows
theorem units1 {n:Nat}(h:n+64 < cLine):n+1 < cLine:=by omega
def kDG1 (Q:VK) (x:V):VK:=λ y H=>∃ a v,x=.ref a/\DGet H a y (some v)/\Q v H
def kDG0 (ty:TE) (σ:St) (Q:VK):VK:=λ x H=>ty σ H (kDG1 Q x)
theorem m_kDG0 (ty:TE) (σ:St) (Q:VK) (x:V) (H:Hp):kDG0 ty σ Q x H=ty σ H (kDG1 Q x):=rfl
theorem m_tDGet (td ty:TE) (σ:St) (H:Hp) (Q:VK):tDGet td ty σ H Q=td σ H (kDG0 ty σ Q):=rfl
theorem use_dg {H:Hp}{a:Addr}{kvs:List (Key × V)}{k:Key}{v:V}{Q:VK}(e:H a=some (.dK kvs)) (h:valV kvs k=some v) (q:Q v H):kDG1 Q (.ref a) (kV k) H:=⟨a,v,rfl,h ▸ DGet.k e,q⟩
def rInD (neg:Bool):R2:=λ y x H Q=>∃ a o,x=.ref a/\DGet H a y o/\Q (.bl (if neg=true then !o.isSome else o.isSome)) H
theorem use_in {neg:Bool}{H:Hp}{a:Addr}{kvs:List (Key × V)}{k:Key}{Q:VK}(e:H a=some (.dK kvs)) (q:Q (.bl (if neg=true then !(valV kvs k).isSome else (valV kvs k).isSome)) H):rInD neg (kV k) (.ref a) H Q:=⟨a,_,rfl,DGet.k e,q⟩
section
variable {X:Cx}
theorem op_inD (hu:X.A.units+1 < cLine):OpR X (compareOp .In) (rInD false):=by
 intro pins s σ H x y v u Q I rx ry h
 obtain ⟨a,o,rfl,g,q⟩:=h
 obtain rfl:u=Value.ref a:=ry
 exact d_in hu I g rx λ s3 I3=>⟨.bl o.isSome,H,I3,rfl,q⟩
end
def kDP2 (nx:St->Hp->Prop) (σ:St) (v x:V):VK:=λ y H=>∃ a H4,x=.ref a/\DPut H a y v H4/\nx σ H4
def kDP1 (ty:TE) (nx:St->Hp->Prop) (σ:St) (v:V):VK:=λ x H=>ty σ H (kDP2 nx σ v x)
theorem m_kDP1 (ty:TE) (nx:St->Hp->Prop) (σ:St) (v x:V) (H:Hp):kDP1 ty nx σ v x H=ty σ H (kDP2 nx σ v x):=rfl
def kDP0 (td ty:TE) (nx:St->Hp->Prop) (σ:St):VK:=λ v H=>td σ H (kDP1 ty nx σ v)
theorem m_kDP0 (td ty:TE) (nx:St->Hp->Prop) (σ:St) (v:V) (H:Hp):kDP0 td ty nx σ v H=td σ H (kDP1 ty nx σ v):=rfl
theorem m_sDPut (td ty tv:TE) (nx:St->Hp->Prop) (rt:VK) (bk ct:St->Hp->Prop) (σ:St) (H:Hp):sDPut td ty tv ⟨nx,rt,bk,ct⟩ σ H=tv σ H (kDP0 td ty nx σ):=rfl
theorem use_dp {H:Hp}{a:Addr}{kvs:List (Key × V)}{k:Key}{v:V}{nx:St->Hp->Prop}{σ:St}(e:H a=some (.dK kvs)) (hl:kvs.length < sizeLine) (q:nx σ (upd H a (.dK (putK kvs k v)))):kDP2 nx σ v (.ref a) (kV k) H:=⟨a,_,rfl,DPut.k e hl,q⟩
end L2
set_option Elab.async false
set_option linter.all false
set_option maxRecDepth 100000
set_option maxHeartbeats 4000000
namespace L2
open PySem PySem.Spec PyProof.Rows
section
variable {X:Cx}
end
end L2
set_option Elab.async false
set_option linter.all false
set_option maxRecDepth 100000
set_option maxHeartbeats 4000000
namespace L2
open PySem PySem.Spec PyProof.Rows
def tV (i:Nat):TE:=λ σ H Q=>match σ[i]? with
 | some (some v)=>Q v H
 | _=>False
theorem tV_eq (i:Nat):tVar i=tV i:=by
 funext σ H Q
 refine propext ⟨λ ⟨v,e,q⟩=>?_,λ h=>?_⟩
 ·unfold tV;rw [e];exact q
 ·unfold tV at h
  split at h
  ·rename_i v e;exact ⟨v,e,h⟩
  ·exact h.elim
theorem m_tV_0 {v:V}{σ:St}{H:Hp}{Q:VK}:tV 0 (some v::σ) H Q=Q v H:=rfl
theorem m_tV_1 {a0:Option V}{v:V}{σ:St}{H:Hp}{Q:VK}:tV 1 (a0::some v::σ) H Q=Q v H:=rfl
theorem m_tV_2 {a0 a1:Option V}{v:V}{σ:St}{H:Hp}{Q:VK}:tV 2 (a0::a1::some v::σ) H Q=Q v H:=rfl
theorem m_tV_3 {a0 a1 a2:Option V}{v:V}{σ:St}{H:Hp}{Q:VK}:tV 3 (a0::a1::a2::some v::σ) H Q=Q v H:=rfl
theorem m_tV_4 {a0 a1 a2 a3:Option V}{v:V}{σ:St}{H:Hp}{Q:VK}:tV 4 (a0::a1::a2::a3::some v::σ) H Q=Q v H:=rfl
theorem m_tV_5 {a0 a1 a2 a3 a4:Option V}{v:V}{σ:St}{H:Hp}{Q:VK}:tV 5 (a0::a1::a2::a3::a4::some v::σ) H Q=Q v H:=rfl
theorem m_tV_6 {a0 a1 a2 a3 a4 a5:Option V}{v:V}{σ:St}{H:Hp}{Q:VK}:tV 6 (a0::a1::a2::a3::a4::a5::some v::σ) H Q=Q v H:=rfl
theorem m_tV_7 {a0 a1 a2 a3 a4 a5 a6:Option V}{v:V}{σ:St}{H:Hp}{Q:VK}:tV 7 (a0::a1::a2::a3::a4::a5::a6::some v::σ) H Q=Q v H:=rfl
theorem m_tV_8 {a0 a1 a2 a3 a4 a5 a6 a7:Option V}{v:V}{σ:St}{H:Hp}{Q:VK}:tV 8 (a0::a1::a2::a3::a4::a5::a6::a7::some v::σ) H Q=Q v H:=rfl
theorem m_tV_9 {a0 a1 a2 a3 a4 a5 a6 a7 a8:Option V}{v:V}{σ:St}{H:Hp}{Q:VK}:tV 9 (a0::a1::a2::a3::a4::a5::a6::a7::a8::some v::σ) H Q=Q v H:=rfl
def nI0 (g:Int->Int->V):R2:=λ x y H Q=>match x,y with
 | .int i,.int j=>Q (g i j) H
 | _,_=>False
theorem m_nI0 (g:Int->Int->V) (i j:Int) (H:Hp) (Q:VK):nI0 g (.int i) (.int j) H Q=Q (g i j) H:=rfl
theorem nI0_eq (g:Int->Int->V):rI0 g=nI0 g:=by
 funext x y H Q
 refine propext ⟨λ ⟨i,j,e,e',q⟩=>by subst e e';exact q,λ h=>?_⟩
 unfold nI0 at h
 split at h
 ·exact ⟨_,_,rfl,rfl,h⟩
 ·exact h.elim
def nI (C:Int->Int->Prop) (g:Int->Int->V):R2:=λ x y H Q=>match x,y with
 | .int i,.int j=>C i j/\Q (g i j) H
 | _,_=>False
theorem m_nI (C:Int->Int->Prop) (g:Int->Int->V) (i j:Int) (H:Hp) (Q:VK):nI C g (.int i) (.int j) H Q=(C i j/\Q (g i j) H):=rfl
theorem nI_eq (C:Int->Int->Prop) (g:Int->Int->V):rI C g=nI C g:=by
 funext x y H Q
 refine propext ⟨λ ⟨i,j,e,e',q⟩=>by subst e e';exact q,λ h=>?_⟩
 unfold nI at h
 split at h
 ·exact ⟨_,_,rfl,rfl,h⟩
 ·exact h.elim
def nU (g:Int->V):V->Hp->VK->Prop:=λ x H Q=>match x with
 | .int i=>Q (g i) H
 | _=>False
theorem m_nU (g:Int->V) (i:Int) (H:Hp) (Q:VK):nU g (.int i) H Q=Q (g i) H:=rfl
theorem nU_eq (g:Int->V):rU g=nU g:=by
 funext x H Q
 refine propext ⟨λ ⟨i,e,q⟩=>by subst e;exact q,λ h=>?_⟩
 unfold nU at h
 split at h
 ·exact ⟨_,rfl,h⟩
 ·exact h.elim
def kTestN (Q:Bool->Hp->Prop):VK:=λ x H=>match x with
 | .bl k=>Q k H
 | _=>False
theorem m_kTestN (Q:Bool->Hp->Prop) (k:Bool) (H:Hp):kTestN Q (.bl k) H=Q k H:=rfl
theorem kTest_eq (Q:Bool->Hp->Prop):kTest Q=kTestN Q:=by
 funext x H
 refine propext ⟨λ ⟨k,e,q⟩=>by subst e;exact q,λ h=>?_⟩
 unfold kTestN at h
 split at h
 ·exact ⟨_,rfl,h⟩
 ·exact h.elim
def nTest (t:TE):TT:=λ σ H Q=>t σ H (kTestN Q)
theorem m_nTest (t:TE) (σ:St) (H:Hp) (Q:Bool->Hp->Prop):nTest t σ H Q=t σ H (kTestN Q):=rfl
theorem nTest_eq (t:TE):tTest t=nTest t:=by
 funext σ H Q
 show t σ H (kTest Q)=t σ H (kTestN Q)
 rw [kTest_eq]
theorem nTest_eqB (t:TE):tB t=nTest t:=nTest_eq t
def kAndN (tb:TE) (σ:St) (Q:VK):VK:=λ x H=>match x with
 | .bl c=>if c=true then tb σ H Q else Q (.bl false) H
 | _=>False
theorem m_kAndN (tb:TE) (σ:St) (Q:VK) (c:Bool) (H:Hp):kAndN tb σ Q (.bl c) H=(if c=true then tb σ H Q else Q (.bl false) H):=rfl
def nAndV (ta tb:TE):TE:=λ σ H Q=>ta σ H (kAndN tb σ Q)
theorem m_nAndV (ta tb:TE) (σ:St) (H:Hp) (Q:VK):nAndV ta tb σ H Q=ta σ H (kAndN tb σ Q):=rfl
theorem nAndV_eq (ta tb:TE):tAndV ta tb=nAndV ta tb:=by
 funext σ H Q
 show ta σ H (kAndV tb σ Q)=ta σ H (kAndN tb σ Q)
 congr 1
 funext x H
 refine propext ⟨λ ⟨k,e,q⟩=>by subst e;exact q,λ h=>?_⟩
 unfold kAndN at h
 split at h
 ·exact ⟨_,rfl,h⟩
 ·exact h.elim
def kNotN (Q:VK):VK:=λ x H=>match x with
 | .bl c=>Q (.bl (!c)) H
 | _=>False
theorem m_kNotN (Q:VK) (c:Bool) (H:Hp):kNotN Q (.bl c) H=Q (.bl (!c)) H:=rfl
def nNotV (ta:TE):TE:=λ σ H Q=>ta σ H (kNotN Q)
theorem m_nNotV (ta:TE) (σ:St) (H:Hp) (Q:VK):nNotV ta σ H Q=ta σ H (kNotN Q):=rfl
theorem nNotV_eq (ta:TE):tNotV ta=nNotV ta:=by
 funext σ H Q
 show ta σ H (kNotV Q)=ta σ H (kNotN Q)
 congr 1
 funext x H
 refine propext ⟨λ ⟨k,e,q⟩=>by subst e;exact q,λ h=>?_⟩
 unfold kNotN at h
 split at h
 ·exact ⟨_,rfl,h⟩
 ·exact h.elim
def kChN2 (r':R2) (tc:TE) (σ:St) (y:V) (Q:VK):VK:=λ z H=>match z with
 | .bl k=>if k=true then tc σ H (kCh3 r' y Q) else Q (.bl false) H
 | _=>False
theorem m_kChN2 (r':R2) (tc:TE) (σ:St) (y:V) (Q:VK) (k:Bool) (H:Hp):kChN2 r' tc σ y Q (.bl k) H=(if k=true then tc σ H (kCh3 r' y Q) else Q (.bl false) H):=rfl
theorem kCh2_eq (r':R2) (tc:TE) (σ:St) (y:V) (Q:VK):kCh2 r' tc σ y Q=kChN2 r' tc σ y Q:=by
 funext z H
 refine propext ⟨λ ⟨k,e,q⟩=>by subst e;exact q,λ h=>?_⟩
 unfold kChN2 at h
 split at h
 ·exact ⟨_,rfl,h⟩
 ·exact h.elim
def kChN1 (r r':R2) (tc:TE) (σ:St) (x:V) (Q:VK):VK:=λ y H=>r x y H (kChN2 r' tc σ y Q)
theorem m_kChN1 (r r':R2) (tc:TE) (σ:St) (x y:V) (Q:VK) (H:Hp):kChN1 r r' tc σ x Q y H=r x y H (kChN2 r' tc σ y Q):=rfl
def kChN0 (r r':R2) (tb tc:TE) (σ:St) (Q:VK):VK:=λ x H=>tb σ H (kChN1 r r' tc σ x Q)
theorem m_kChN0 (r r':R2) (tb tc:TE) (σ:St) (Q:VK) (x:V) (H:Hp):kChN0 r r' tb tc σ Q x H=tb σ H (kChN1 r r' tc σ x Q):=rfl
def nChain (r r':R2) (ta tb tc:TE):TE:=λ σ H Q=>ta σ H (kChN0 r r' tb tc σ Q)
theorem m_nChain (r r':R2) (ta tb tc:TE) (σ:St) (H:Hp) (Q:VK):nChain r r' ta tb tc σ H Q=ta σ H (kChN0 r r' tb tc σ Q):=rfl
theorem nChain_eq (r r':R2) (ta tb tc:TE):tChain r r' ta tb tc=nChain r r' ta tb tc:=by
 funext σ H Q
 show ta σ H (kCh0 r r' tb tc σ Q)=ta σ H (kChN0 r r' tb tc σ Q)
 congr 1
 funext x H1
 show tb σ H1 (kCh1 r r' tc σ x Q)=tb σ H1 (kChN1 r r' tc σ x Q)
 congr 1
 funext y H2
 show r x y H2 (kCh2 r' tc σ y Q)=r x y H2 (kChN2 r' tc σ y Q)
 rw [kCh2_eq]
def gNilN:TGs:=λ vs σ H Q=>match vs with
 | []=>Q σ H
 | _=>False
theorem m_gNilN (σ:St) (H:Hp) (Q:St->Hp->Prop):gNilN [] σ H Q=Q σ H:=rfl
theorem gNil_eq:gNil=gNilN:=by
 funext vs σ H Q
 refine propext ⟨λ ⟨e,q⟩=>by subst e;exact q,λ h=>?_⟩
 unfold gNilN at h
 split at h
 ·exact ⟨rfl,h⟩
 ·exact h.elim
def gConsN (t:TG) (u:TGs):TGs:=λ vs σ H Q=>match vs with
 | v::r=>t v σ H (kGs u r Q)
 | _=>False
theorem m_gConsN (t:TG) (u:TGs) (v:V) (r:List V) (σ:St) (H:Hp) (Q:St->Hp->Prop):gConsN t u (v::r) σ H Q=t v σ H (kGs u r Q):=rfl
theorem gCons_eq (t:TG) (u:TGs):gCons t u=gConsN t u:=by
 funext vs σ H Q
 refine propext ⟨λ ⟨v,r,e,q⟩=>by subst e;exact q,λ h=>?_⟩
 unfold gConsN at h
 split at h
 ·exact ⟨_,_,rfl,h⟩
 ·exact h.elim
theorem spx1 {α0:Type}{f:α0->List V}{B:α0->Prop}(inj:∀ a a',f a=f a'->a=a') (a:α0):(∃ a',f a=f a'/\B a')=B a:=propext ⟨λ ⟨a',e,q⟩=>by obtain rfl:=inj _ _ e;exact q,λ q=>⟨a,rfl,q⟩⟩
theorem spl1 {α0:Type}{f:α0->List V}{B:α0->Prop}{vs:List V}{n:Nat}(h:∃ a,vs=f a/\B a) (l:∀ a,(f a).length=n):vs.length=n:=by
 obtain ⟨_,rfl,_⟩:=h
 exact l _
theorem spx2 {α0 α1:Type}{f:α0->α1->List V}{B:α0->α1->Prop}(inj:∀ a b a' b',f a b=f a' b'->a=a'/\b=b') (a:α0) (b:α1):(∃ a' b',f a b=f a' b'/\B a' b')=B a b:=propext ⟨λ ⟨a',b',e,q⟩=>by obtain ⟨rfl,rfl⟩:=inj _ _ _ _ e;exact q,λ q=>⟨a,b,rfl,q⟩⟩
theorem spl2 {α0 α1:Type}{f:α0->α1->List V}{B:α0->α1->Prop}{vs:List V}{n:Nat}(h:∃ a b,vs=f a b/\B a b) (l:∀ a b,(f a b).length=n):vs.length=n:=by
 obtain ⟨_,_,rfl,_⟩:=h
 exact l _ _
theorem spx3 {α0 α1 α2:Type}{f:α0->α1->α2->List V}{B:α0->α1->α2->Prop}(inj:∀ a b c a' b' c',f a b c=f a' b' c'->a=a'/\b=b'/\c=c') (a:α0) (b:α1) (c:α2):(∃ a' b' c',f a b c=f a' b' c'/\B a' b' c')=B a b c:=propext ⟨λ ⟨a',b',c',e,q⟩=>by obtain ⟨rfl,rfl,rfl⟩:=inj _ _ _ _ _ _ e;exact q,λ q=>⟨a,b,c,rfl,q⟩⟩
theorem spl3 {α0 α1 α2:Type}{f:α0->α1->α2->List V}{B:α0->α1->α2->Prop}{vs:List V}{n:Nat}(h:∃ a b c,vs=f a b c/\B a b c) (l:∀ a b c,(f a b c).length=n):vs.length=n:=by
 obtain ⟨_,_,_,rfl,_⟩:=h
 exact l _ _ _
theorem spx4 {α0 α1 α2 α3:Type}{f:α0->α1->α2->α3->List V}{B:α0->α1->α2->α3->Prop}(inj:∀ a b c d a' b' c' d',f a b c d=f a' b' c' d'->a=a'/\b=b'/\c=c'/\d=d') (a:α0) (b:α1) (c:α2) (d:α3):(∃ a' b' c' d',f a b c d=f a' b' c' d'/\B a' b' c' d')=B a b c d:=propext ⟨λ ⟨a',b',c',d',e,q⟩=>by obtain ⟨rfl,rfl,rfl,rfl⟩:=inj _ _ _ _ _ _ _ _ e;exact q,λ q=>⟨a,b,c,d,rfl,q⟩⟩
theorem spl4 {α0 α1 α2 α3:Type}{f:α0->α1->α2->α3->List V}{B:α0->α1->α2->α3->Prop}{vs:List V}{n:Nat}(h:∃ a b c d,vs=f a b c d/\B a b c d) (l:∀ a b c d,(f a b c d).length=n):vs.length=n:=by
 obtain ⟨_,_,_,_,rfl,_⟩:=h
 exact l _ _ _ _
theorem spx5 {α0 α1 α2 α3 α4:Type}{f:α0->α1->α2->α3->α4->List V}{B:α0->α1->α2->α3->α4->Prop}(inj:∀ a b c d i a' b' c' d' i',f a b c d i=f a' b' c' d' i'->a=a'/\b=b'/\c=c'/\d=d'/\i=i') (a:α0) (b:α1) (c:α2) (d:α3) (i:α4):(∃ a' b' c' d' i',f a b c d i=f a' b' c' d' i'/\B a' b' c' d' i')=B a b c d i:=propext ⟨λ ⟨a',b',c',d',i',e,q⟩=>by obtain ⟨rfl,rfl,rfl,rfl,rfl⟩:=inj _ _ _ _ _ _ _ _ _ _ e;exact q,λ q=>⟨a,b,c,d,i,rfl,q⟩⟩
theorem spl5 {α0 α1 α2 α3 α4:Type}{f:α0->α1->α2->α3->α4->List V}{B:α0->α1->α2->α3->α4->Prop}{vs:List V}{n:Nat}(h:∃ a b c d i,vs=f a b c d i/\B a b c d i) (l:∀ a b c d i,(f a b c d i).length=n):vs.length=n:=by
 obtain ⟨_,_,_,_,_,rfl,_⟩:=h
 exact l _ _ _ _ _
theorem len0 {P:List Value->Prop}(h:P []):∀ us:List Value,us.length=0->P us:=λ us e=>by
 cases us with
 | nil=>exact h
 | cons a r=>cases e
theorem len1 {P:List Value->Prop}(h:∀ a,P [a]):∀ us:List Value,us.length=1->P us:=λ us e=>by
 cases us with
 | nil=>cases e
 | cons x r=>exact len0 (P:=λ r=>P (x::r)) (h x) r (Nat.succ.inj e)
theorem len2 {P:List Value->Prop}(h:∀ a b,P [a,b]):∀ us:List Value,us.length=2->P us:=λ us e=>by
 cases us with
 | nil=>cases e
 | cons x r=>exact len1 (P:=λ r=>P (x::r)) (h x) r (Nat.succ.inj e)
theorem len3 {P:List Value->Prop}(h:∀ a b c,P [a,b,c]):∀ us:List Value,us.length=3->P us:=λ us e=>by
 cases us with
 | nil=>cases e
 | cons x r=>exact len2 (P:=λ r=>P (x::r)) (h x) r (Nat.succ.inj e)
theorem len4 {P:List Value->Prop}(h:∀ a b c d,P [a,b,c,d]):∀ us:List Value,us.length=4->P us:=λ us e=>by
 cases us with
 | nil=>cases e
 | cons x r=>exact len3 (P:=λ r=>P (x::r)) (h x) r (Nat.succ.inj e)
theorem len5 {P:List Value->Prop}(h:∀ a b c d i,P [a,b,c,d,i]):∀ us:List Value,us.length=5->P us:=λ us e=>by
 cases us with
 | nil=>cases e
 | cons x r=>exact len4 (P:=λ r=>P (x::r)) (h x) r (Nat.succ.inj e)
section
variable {X:Cx}
theorem pvN (i:Nat){x:Str}{pos:Pos}(hN:X.N[i]? = some x:=by rfl) (hv:Vis X.env.scope x:=by first|exact Or.inl rfl|exact Or.inr (Or.inl rfl)|exact Or.inr (Or.inr rfl)) (hd:(x == ("__debug__":Str))=false:=by decide)
  (hcd:(x == ("__classdict__":Str))=false:=by decide):PE X (.Name x pos) (tV i):=by rw [←tV_eq];exact pv i hN hv hd hcd
theorem on_add:OpR X (binaryOp .Add) (nI0 λ i j=>.int (i+j)):=by rw [←nI0_eq];exact op_add
theorem on_sub:OpR X (binaryOp .Sub) (nI0 λ i j=>.int (i - j)):=by rw [←nI0_eq];exact op_sub
theorem on_lt:OpR X (compareOp .Lt) (nI0 λ i j=>.bl (decide (i < j))):=by rw [←nI0_eq];exact op_lt
theorem on_le:OpR X (compareOp .LtE) (nI0 λ i j=>.bl (decide (i<=j))):=by rw [←nI0_eq];exact op_le
theorem on_gt:OpR X (compareOp .Gt) (nI0 λ i j=>.bl (decide (j < i))):=by rw [←nI0_eq];exact op_gt
theorem on_ge:OpR X (compareOp .GtE) (nI0 λ i j=>.bl (decide (j<=i))):=by rw [←nI0_eq];exact op_ge
theorem on_mul:OpR X (binaryOp .Mult) (nI CMul λ i j=>.int (i * j)):=by rw [←nI_eq];exact op_mul
theorem on_mulB:OpR X (binaryOp .Mult) (nI CMulB λ i j=>.int (i * j)):=by rw [←nI_eq];exact op_mulB
theorem on_fdiv:OpR X (binaryOp .FloorDiv) (nI CDiv λ i j=>.int (i / j)):=by rw [←nI_eq];exact op_fdiv
theorem on_mod:OpR X (binaryOp .Mod) (nI (λ _ j=>0 < j) λ i j=>.int (i % j)):=by rw [←nI_eq];exact op_mod
theorem on_pow:OpR X (binaryOp .Pow) (nI CPow λ i j=>.int (i ^ j.toNat)):=by rw [←nI_eq];exact op_pow
theorem un_negN:UnR X (unaryOp .USub) (nU λ i=>.int (-i)):=by rw [←nU_eq];exact un_neg
variable {a b c d e:Expr}{ta tb tc td t:TE}{pos:Pos}
theorem pt_cmpRN {op:CmpOp}{r:R2}(ho:OpR X (compareOp op) r) (ha:PE X a ta) (hb:PE X b tb) (hm:behindInMarks op b=false):PT X (.Compare a [op] [b] pos) (nTest (tOp r ta tb)):=by rw [←nTest_eq];exact pt_cmpR ho ha hb hm
theorem pt_valN (h:PE X e t) (he:∀ whole,isTrue e X.env whole=(do let v ←whole;standAt e.pos;holding [v] (truthy v)):=by intro _;rfl):PT X e (nTest t):=by rw [←nTest_eqB];exact pt_val h he
theorem pe_chainN {op op':CmpOp}{r r':R2}(ho:OpR X (compareOp op) r) (ho':OpR X (compareOp op') r') (ha:PE X a ta) (hb:PE X b tb) (hc:PE X c tc)
  (hm:lastMarks [op,op'] [b,c]=false:=by with_unfolding_all rfl):PE X (.Compare a [op,op'] [b,c] pos) (nChain r r' ta tb tc):=by rw [←nChain_eq];exact pe_chain ho ho' ha hb hc hm
variable {rest:List Expr}
theorem pe_andN (ha:PE X a ta) (hb:PE X (.BoolOp .And (b::rest) pos) tb):PE X (.BoolOp .And (a::b::rest) pos) (nAndV ta tb):=by rw [←nAndV_eq];exact pe_and ha hb
theorem pe_notN (ha:PE X a ta):PE X (.UnaryOp .Not a pos) (nNotV ta):=by rw [←nNotV_eq];exact pe_not ha
theorem pgs_nilN:PGs X [] gNilN:=by rw [←gNil_eq];exact pgs_nil
theorem pgs_consN {e:Expr}{es:List Expr}{t:TG}{u:TGs}(h1:PG X e t) (h2:PGs X es u)
  (hs:(assignEach (e::es) X.env).map (·.2)=assign e X.env::(assignEach es X.env).map (·.2):=by rfl):PGs X (e::es) (gConsN t u):=by rw [←gCons_eq];exact pgs_cons h1 h2 hs
end
theorem if_gen {c:TT}{t u:TS}{nx:St->Hp->Prop}{rt:VK}{bk ct:St->Hp->Prop}{σ:St}{H:Hp}(R:St->Hp->Prop) (h:∀ nx':St->Hp->Prop,(∀ σ' H',R σ' H'->nx' σ' H')->tIfS c t u ⟨nx',rt,bk,ct⟩ σ H) (k:∀ σ' H',R σ' H'->nx σ' H'):tIfS c t u ⟨nx,rt,bk,ct⟩ σ H:=h nx k
theorem mo_tV {i:Nat}:ME (tV i):=by rw [←tV_eq];exact mo_var
theorem mo_nTest {t:TE}(h:ME t):MT (nTest t):=by rw [←nTest_eq];exact mo_test h
end L2
set_option Elab.async false
set_option linter.all false
set_option maxRecDepth 100000
set_option maxHeartbeats 4000000
namespace L2
open PySem PySem.Spec PyProof.Rows
def kRep (k:Int) (H:Hp) (Q:VK):List V->Prop:=λ xs=>0<=k/\k<=4096/\xs.length * k.toNat<=sizeLine/\newK (.lst (List.replicate k.toNat xs).flatten) H Q
theorem m_kRep (k:Int) (H:Hp) (Q:VK) (xs:List V):kRep k H Q xs=(0<=k/\k<=4096/\xs.length * k.toNat<=sizeLine/\newK (.lst (List.replicate k.toNat xs).flatten) H Q):=rfl
def nRep:R2:=λ x y H Q=>match x,y with
 | .ref l,.int k=>optK (lstAt H l) (kRep k H Q)
 | _,_=>False
theorem m_nRep (l:Addr) (k:Int) (H:Hp) (Q:VK):nRep (.ref l) (.int k) H Q=optK (lstAt H l) (kRep k H Q):=rfl
theorem op_nRep {X:Cx}:OpR X (binaryOp .Mult) nRep:=op_rep.mono λ x y H Q h=>by
 unfold nRep at h
 split at h
 ·rename_i l k
  obtain ⟨xs,e,h0,h1,h2,q⟩:=optK_ex h
  exact ⟨l,k,xs,rfl,rfl,lst_of e,by omega,by omega,h2,q.to⟩
 ·exact h.elim
def kPopA2 (l:Addr) (i:Int) (xs:List V) (H:Hp) (Q:VK):V->Prop:=λ y=>Q y (upd H l (.lst (xs.eraseIdx i.toNat)))
theorem m_kPopA2 (l:Addr) (i:Int) (xs:List V) (H:Hp) (Q:VK) (y:V):kPopA2 l i xs H Q y=Q y (upd H l (.lst (xs.eraseIdx i.toNat))):=rfl
def kPopA (l:Addr) (i:Int) (H:Hp) (Q:VK):List V->Prop:=λ xs=>0<=i/\i < xs.length/\xs.length<=4096/\optK (xs[i.toNat]?) (kPopA2 l i xs H Q)
theorem m_kPopA (l:Addr) (i:Int) (H:Hp) (Q:VK) (xs:List V):kPopA l i H Q xs=(0<=i/\i < xs.length/\xs.length<=4096/\optK (xs[i.toNat]?) (kPopA2 l i xs H Q)):=rfl
def nPopAt:V->List V->Hp->VK->Prop:=λ x vs H Q=>match x,vs with
 | .ref l,[.int i]=>optK (lstAt H l) (kPopA l i H Q)
 | _,_=>False
theorem m_nPopAt (l:Addr) (i:Int) (H:Hp) (Q:VK):nPopAt (.ref l) [.int i] H Q=optK (lstAt H l) (kPopA l i H Q):=rfl
theorem mt_nPopAt {X:Cx}:MtM X "list.pop" nPopAt:=λ pins s σ H x vs v us Q I rx rv h=>mt_popAt pins s σ H x vs v us Q I rx rv (by
 unfold nPopAt at h
 split at h
 ·rename_i l i
  obtain ⟨xs,e,h0,h1,h2,q⟩:=optK_ex h
  obtain ⟨y,hy,q⟩:=optK_ex q
  exact ⟨l,xs,i,i.toNat,y,rfl,rfl,lst_of e,by omega,by omega,seqIndex_of h0 h1,hy,q⟩
 ·exact h.elim)
theorem mo_qLst {t:TA}(h:MA t):ME (qLst t):=λ σ H Q Q' m q=>h σ H _ _ (λ xs H1 ⟨l,n⟩=>⟨l,λ p H' a b c=>m _ _ (n p H' a b c)⟩) q
end L2
set_option Elab.async false
set_option linter.all false
set_option maxRecDepth 100000
set_option maxHeartbeats 4000000
namespace L2
open PySem PySem.Spec PyProof.Rows
def setL (ns:List Int):List Int:=firstMet (λ i=>ns.getD i 0) ns.length
def setN (ns:List Int):Nat:=(setL ns).length
def setM (ns:List Int):Int->Bool:=λ k=>(setL ns).any λ x=>x == k
def qSet:List V->Hp->VK->Prop:=λ vs H Q=>∃ p ns,vs=[.ref p]/\H p=some (.lst (ns.map V.int))/\ns.length<=4000/\newK (.set (setM ns) (setN ns)) H Q
theorem use_set {p:Addr}{ns:List Int}{H:Hp}{Q:VK}(e:H p=some (.lst (ns.map V.int))) (hl:ns.length<=4000) (q:newK (.set (setM ns) (setN ns)) H Q):qSet [.ref p] H Q:=⟨p,ns,rfl,e,hl,q⟩
def qLenS:List V->Hp->VK->Prop:=λ vs H Q=>∃ p S n,vs=[.ref p]/\H p=some (.set S n)/\Q (.int n) H
theorem use_lenS {p:Addr}{S:Int->Bool}{n:Nat}{H:Hp}{Q:VK}(e:H p=some (.set S n)) (q:Q (.int n) H):qLenS [.ref p] H Q:=⟨p,S,n,rfl,e,q⟩
section
variable {X:Cx}
theorem call_qSet (hc:X.calm=true):CallR X (.type "set") qSet:=by
 intro pins s σ H vs us Q I r h
 obtain ⟨p,ns,rfl,e,hl,q⟩:=h
 cases r with
 | cons r rr=>
  cases rr
  cases r
  obtain ⟨its,r',pl,hz⟩:=I.list (SqL.of e)
  have hlen:=r'.length
  rw [List.length_map] at hlen
  have hI:IntsAre its ns:=intsAre_of r'
  refine call_set_list (ns:=ns) (I.ok.hd hc) pl.isList (by simpa using hI) (by rw [List.size_toArray];unfold scanBound;omega) λ h' tk hset kp=>?_
  have es:its.toArray.size=ns.length:=by rw [List.size_toArray,hlen]
  rw [es] at hset
  have fr:=I.hok.fresh (Nat.le_refl _)
  exact ⟨.ref s.heap.objs.size,_,I.laid (t':=tk) (h':=h') (o:=.set (setM ns) (setN ns)) (λ b u hb=>kp b u (Heap.lt_size hb) hb) (Nat.le_refl _) hset,rfl,q _ _ fr (Ext.new fr) upd_same⟩
theorem call_qLenS:CallR X (.builtin "len") qLenS:=by
 intro pins s σ H vs us Q I r h
 obtain ⟨p,S,n,rfl,e,q⟩:=h
 obtain ⟨u,rfl,rx⟩:=vals1 r
 cases rx
 have hn:=line63
 obtain ⟨o,es,ep,t,h1,h2,h3,h4,h5,h6,h7,h8⟩:=I.hok _ _ e
 unfold scanBound at h6
 exact call_len_set h1 h2 h3 h7 (by omega) ⟨.int n,H,I.tok _,⟨s.toks+1,by rw [h8]⟩,q⟩
end
theorem step_len_le (σ:List Int) (v:Int):(step_dedup σ v).length<=σ.length+1:=by rw [step_length];split<;>omega
theorem fold_le:∀ (ns σ:List Int),(List.foldl step_dedup σ ns).length<=σ.length+ns.length
 | [],σ=>Nat.le_refl _
 | v::ns,σ=>by
  have h1:=fold_le ns (step_dedup σ v)
  have h2:=step_len_le σ v
  simp only [List.foldl_cons,List.length_cons]
  omega
theorem fold_eq:∀ (ns σ:List Int),(List.foldl step_dedup σ ns).length=σ.length+ns.length ↔ ns.Nodup/\∀ x∈ns,x ∉ σ
 | [],σ=>⟨λ _=>⟨List.nodup_nil,λ _ h=>absurd h List.not_mem_nil⟩,λ _=>rfl⟩
 | v::ns,σ=>by
  have ih:=fold_eq ns (step_dedup σ v)
  have hl:=fold_le ns (step_dedup σ v)
  simp only [List.foldl_cons,List.length_cons,List.nodup_cons,List.mem_cons,forall_eq_or_imp]
  by_cases hv:v∈σ
  ·have e:step_dedup σ v=σ:=by unfold step_dedup;rw [if_pos (by rw [List.any_eq_true];exact ⟨v,hv,by simp⟩)]
   rw [e] at hl ⊢
   exact ⟨λ h=>absurd h (by omega),λ h=>absurd hv h.2.1⟩
  ·have e:step_dedup σ v=σ++[v]:=by
    unfold step_dedup
    rw [if_neg]
    intro h
    rw [List.any_eq_true] at h
    obtain ⟨x,hx,he⟩:=h
    exact hv ((of_decide_eq_true (by simpa using he):x=v) ▸ hx)
   rw [e] at ih ⊢
   rw [List.length_append,List.length_singleton] at ih
   constructor
   ·intro h
    obtain ⟨a,b⟩:=ih.mp (by omega)
    exact ⟨⟨λ hm=>b v hm (List.mem_append_right _ (List.mem_singleton.mpr rfl)),a⟩,hv,λ x hx hs=>b x hx (List.mem_append_left _ hs)⟩
   ·rintro ⟨⟨a,b⟩,_,c⟩
    have:=ih.mpr ⟨b,λ x hx hs=>by
     rcases List.mem_append.mp hs with h|h
     ·exact c x hx h
     ·exact a (List.mem_singleton.mp h ▸ hx)⟩
    omega
theorem getD_range (ns:List Int):(List.range ns.length).map (λ i=>ns.getD i 0)=ns:=by
 refine List.ext_getElem (by rw [List.length_map,List.length_range]) λ i h1 h2=>?_
 rw [List.getElem_map,List.getElem_range,List.getD_eq_getElem?_getD,List.getElem?_eq_getElem h2]
 rfl
theorem setN_eq (ns:List Int):setN ns=ns.length ↔ ns.Nodup:=by
 unfold setN setL firstMet
 rw [getD_range]
 have:=fold_eq ns []
 simp only [List.length_nil,Nat.zero_add] at this
 rw [this]
 exact ⟨λ h=>h.1,λ h=>⟨h,λ _ _=>List.not_mem_nil⟩⟩
end L2
set_option Elab.async false
set_option linter.all false
set_option maxRecDepth 100000
set_option maxHeartbeats 4000000
namespace L2
open PySem PySem.Spec PyProof.Rows
section
variable {prog:Program}{w:World}{A:Around}{E:Value->Shared->Prop}{s:Shared}
end
section
variable {X:Cx}
end
end L2
set_option Elab.async false
set_option linter.all false
set_option maxRecDepth 100000
set_option maxHeartbeats 4000000
namespace L2
open PySem PySem.Spec PyProof.Rows
end L2
set_option Elab.async false
set_option linter.all false
set_option maxRecDepth 100000
set_option maxHeartbeats 4000000
namespace L2
open PySem PySem.Spec PyProof.Rows
section
variable {k:Nat}{g:TG}{tt:TT}{te:TE}{σ:St}{Q:VK}{H:Hp}
end
end L2
set_option Elab.async false
set_option linter.all false
set_option maxRecDepth 100000
set_option maxHeartbeats 4000000
namespace L2
open PySem PySem.Spec PyProof.Rows
structure IsC (K:W.Frag) (C:Addr):Prop where
 cl:Cls K C
 fc:W.findIn K (.ref C) "__class__"=some (some (.builtin "object.__class__"))
 ocs:W.specialIn K (.builtin "object.__class__") "__get__"=some (some (.builtin "getset_descriptor.__get__"))
 oct:W.takesIn K (.builtin "object.__class__")=some true
 mo:W.mroIn K C (.type "object")=some true
end L2
set_option Elab.async false
set_option linter.all false
set_option maxRecDepth 100000
set_option maxHeartbeats 4000000
namespace L2
open PySem PySem.Spec PyProof.Rows
section
variable {X:Cx}
end
end L2
set_option Elab.async false
set_option linter.all false
set_option maxRecDepth 100000
set_option maxHeartbeats 4000000
namespace L2
open PySem PySem.Spec PyProof.Rows PySem.W
section
variable {prog:Program}{w:World}{A:Around}{E:Value->Shared->Prop}{K:Frag}{x C dx:Addr}{s:Shared}{name:Str}{v:Value}
theorem set_exc2 {vs:Array Value}{sl:Array (Option Value)}{m:Str->Option Value}{names:List Str}{Q:Unit->Shared->Prop}(c:EStore K C) (X:K.In s.heap) (hx:s.heap.get? x=some ⟨.ref C,some dx,.fields vs,sl⟩) (hn:s.heap.Ns1 dx m) (hw:PySem.Within m names) (hl:names.length<=100) (hne:x ≠ dx) (ht:takerIn K C name=some none)
  (h:∀ h' tk,h'.Ns1 dx (λ y=>if y=name then some v else m y)->(∀ b o,b ≠ dx->s.heap.get? b=some o->h'.get? b=some o)->Q () { s with heap:=h',toks:=tk }) :
  wpAny (model prog w) A (setAttr (.ref x) name v) Q E s:=by
 obtain ⟨oD0,_,_,hd0,_⟩:=id hn
 have I:InstAt s.heap x ⟨.ref C,some dx,.fields vs,sl⟩ C (some oD0):=⟨hx,rfl,rfl,hd0⟩
 refine set_plain X I c.sa (osx_open (s:={ s with toks:=s.toks+1 }) X I c.ov ht λ b=>?_)
 obtain ⟨cd,hc,hd'⟩:=any_some c.hd
 refine wpAny_bind (wpAny_pure (wpAny_bind (wpAny_bind (wpAny_loadPart hx ?_))))
 show wpAny _ _ (do if !(←classData C).hasDict then pure none else _) _ _ _
 refine wpAny_bind (Looks.here (s:={ s with toks:=s.toks+1 }) (looks_clsIn X hc) ?_)
 rw [hd',if_neg (by decide)]
 show wpAny _ _ (pure (some dx)) _ _ _
 refine wpAny_pure ?_
 show wpAny _ _ (Builtin.ObjectAttr.storeInDict dx (.str name s.toks) name v) _ _ _
 unfold Builtin.ObjectAttr.storeInDict Builtin.ObjectAttr.newKeyGuard
 refine wpAny_bind (wpAny_pure (wpAny_bind (wpAny_nsSet1 hn λ h2 n2 s2=>?_)))
 obtain ⟨oD,eD,pD,q1,q2,q3⟩:=n2.count (Within.cons name v hw)
 refine wpAny_bind (wpAny_lookBehind q1 (by rw [q2];exact pastItsLine_dict (Nat.le_trans q3 (by rw [List.length_cons,sizeLine_eq];omega))) ?_)
 exact wpAny_pure (h h2 _ n2 λ b o hb e=>(s2.2 b hb).trans e)
end
def kXS2 (K:Frag) (f:Str) (y:V) (σ:St) (nx:St->Hp->Prop):VK:=λ x H=>∃ e C dx fs,x=.ref e/\H e=some (exH e C (some dx))/\H dx=some (.xd fs)/\fs.length<=100/\EStore K C/\takerIn K C f=some none/\nx σ (upd H dx (.xd ((f,y)::fs)))
def kXS02 (K:Frag) (f:Str) (ta:TE) (σ:St) (nx:St->Hp->Prop):VK:=λ y H=>ta σ H (kXS2 K f y σ nx)
def xSetF2 (K:Frag) (ta tv:TE) (f:Str):TS:=λ D σ H=>tv σ H (kXS02 K f ta σ D.nx)
section
variable {X:Cx}{e o value:Expr}{ta tv:TE}{f:Str}{pos pos':Pos}
theorem within_xd:∀ {fs:List (Str × V)}{m:Str->Option Value},(∀ g,RelO (fs.lookup g) (m g))->PySem.Within m (fs.map Prod.fst):=by
 intro fs m hr y hy
 have h:=hr y
 cases hl:fs.lookup y with
 | none=>
  rw [hl] at h
  cases hm:m y with
  | none=>exact absurd hm hy
  | some u=>rw [hm] at h;exact h.elim
 | some v=>
  clear h hr
  induction fs with
  | nil=>cases hl
  | cons p fs ih=>
   rw [List.lookup_cons] at hl
   by_cases e:y=p.1
   ·rw [List.map_cons,e];exact List.mem_cons_self
   ·rw [beq_eq_false_iff_ne.mpr e] at hl
    exact List.mem_cons_of_mem _ (ih hl)
theorem Inv.writeX {pins:List (Addr × Obj)}{σ:St}{H:Hp}{s:Shared}{h':Heap}{x:Addr}{fs fs':List (Str × V)}{t':Nat}(I:Inv X pins σ H s) (hx:H x=some (.xd fs)) (k:∀ b u,b ≠ x->s.heap.get? b=some u->h'.get? b=some u) (heo:∃ u,h'.get? x=some u)
  (new:ObjOk X.prog X.w (upd H x (.xd fs')) h' x (.xd fs')):Inv X pins σ (upd H x (.xd fs')) { s with heap:=h',toks:=t' }:=by
 have ne:∀ {b:Addr} {u:HO},H b=some u->u ≠ .xd fs->b ≠ x:=λ q n z=>by rw [z,hx] at q;exact n (Option.some.inj q).symm
 have no:∀ {b:Addr},H b=none->b ≠ x:=λ n z=>by rw [z,hx] at n;cases n
 refine I.un ⟨λ b u q n _ _=>k b u (no n) q,λ b u q n _ _=>⟨u.slots,k b u (no n) q⟩,λ b u q n _=>by rw [upd_ne (no n)];exact n,λ b u q _=>?_,λ b xs q=>?_,λ b u v q=>?_,λ b ps q=>⟨#[],?_⟩⟩ λ b u q=>?_
 ·by_cases hb:b=x
  ·subst hb;exact heo
  ·exact ⟨u,k b u hb q⟩
 ·rw [upd_ne (ne q (by intro z;cases z))];exact q
 ·rw [upd_ne (ne q (by intro z;cases z))];exact q
 ·rw [upd_ne (ne q (by intro z;cases z)),q];simp
 ·by_cases hb:b=x
  ·subst hb;rw [upd_same] at q;cases q;exact new
  ·rw [upd_ne hb] at q
   refine (I.hok b u q).stay (λ c v hc r=>k c v ?_ r) (λ c r=>by rw [upd_ne (ne r (by intro z;cases z))];exact r) λ c xs r=>by rw [upd_ne (ne r (by intro z;cases z))];exact r
   rcases hc with rfl|hc
   ·exact hb
   ·exact ne hc (by intro z;cases z)
theorem ps_xset2 (ha:PE X o ta) (hv:PE X value tv) (hs:swapsWith value (some (.Attribute o f pos')) pos.line X.env=pure false):PS X (.Assign [.Attribute o f pos'] value pos) (xSetF2 X.K ta tv f):=by
 intro pins s σ H D I h
 refine plainObj_wpAny_Assign_Attribute (thn (hv pins s σ H _ I h) λ u s1 ⟨y,H1,I1,ry,q⟩=>thn (ha pins s1 σ H1 _ I1 q) λ ov s2 ⟨x,H2,I2,rx,q1⟩=>?_) hs
 obtain ⟨ex,C,dx,fs,rfl,he,hd,hl,st,ht,k⟩:=q1
 obtain rfl:ov=Value.ref ex:=rx
 obtain ⟨t0,h0⟩:=exH_get (I2.hok ex _ he)
 obtain ⟨mA,hn,hr⟩:=I2.hok dx _ hd
 have ne:ex ≠ dx:=λ z=>by rw [z,hd] at he;cases he
 refine set_exc2 st I2.kIn h0 hn (within_xd hr) (by rw [List.length_map];exact hl) ne ht λ h' tk q1 q2=>?_
 obtain ⟨_,_,_,q3,_⟩:=id q1
 have J:=I2.writeX (t':=tk) (x:=dx) (fs':=(f,y)::fs) hd (λ b u hb z=>q2 b u hb z) ⟨_,q3⟩ ⟨_,q1,λ g=>?_⟩
 ·exact ⟨σ,_,J,k⟩
 ·show RelO (List.lookup g ((f,y)::fs)) (if g=f then some u else mA g)
  by_cases hg:g=f
  ·subst hg
   rw [if_pos rfl,List.lookup_cons_self];exact ry
  ·have hb:(g == f)=false:=beq_eq_false_iff_ne.mpr hg
   rw [if_neg hg,List.lookup_cons,hb];exact hr g
end
theorem m_xSetF2 (K:Frag) (ta tv:TE) (f:Str) (nx:St->Hp->Prop) (rt:VK) (bk ct:St->Hp->Prop) (σ:St) (H:Hp):xSetF2 K ta tv f ⟨nx,rt,bk,ct⟩ σ H=tv σ H (kXS02 K f ta σ nx):=rfl
theorem m_kXS02 (K:Frag) (f:Str) (ta:TE) (σ:St) (nx:St->Hp->Prop) (y:V) (H:Hp):kXS02 K f ta σ nx y H=ta σ H (kXS2 K f y σ nx):=rfl
def spX2 (C:Addr) (f g:Str):Sp:=λ vs H Q E=>∃ e x y,vs=[.ref e,x,y]/\H e=some (exH e C none)/\∀ dx H',H dx=none->dx ≠ e->(∀ b o,b ≠ e->H b=some o->H' b=some o)->H' e=some (exH e C (some dx))->H' dx=some (.xd [(g,y),(f,x)])->Q .non H'
theorem l_spX2 (C:Addr) (f g:Str){vs:List V}{H:Hp}{Q:VK}{E:XK}(h:spX2 C f g vs H Q E):vs.length=3:=by
 obtain ⟨_,_,_,rfl,_⟩:=h
 rfl
theorem kRI_x2 {C:Addr}{f g:Str}{E:XK}{x y:V}{H:Hp}(h:∀ dx H',Ext H H'->H' dx=some (.xd [(g,y),(f,x)])->E (.ref C) (some dx) H'):kRI C (spX2 C f g) E [x,y] H:=by
 refine ⟨(show 2<=sizeLine by decide),λ e he=>⟨e,x,y,rfl,upd_same,λ dx H' h1 h2 h3 h4 h5=>⟨rfl,some dx,h4,λ _ z=>by cases z;exact ⟨_,by rw [del_ne h2];exact h5⟩,h dx _ (Same.ext λ b o q=>?_) (by rw [del_ne h2];exact h5)⟩⟩⟩
 have hb:b ≠ e:=ne_of_none q he
 rw [del_ne hb]
 exact h3 b o hb (by rw [upd_ne hb];exact q)
end L2
set_option Elab.async false
set_option linter.all false
set_option maxRecDepth 100000
set_option maxHeartbeats 4000000
namespace L2
open PySem PySem.Spec PyProof.Rows
open Sem (wp)
open AutoSeq1 (wpAny_loadPart')
section
variable {X:Cx}
end
end L2
set_option Elab.async false
set_option linter.all false
set_option maxRecDepth 100000
set_option maxHeartbeats 4000000
namespace L2
open PySem PySem.Spec PyProof.Rows
end L2
set_option Elab.async false
set_option linter.all false
set_option maxRecDepth 100000
set_option maxHeartbeats 4000000
namespace L2
open PySem PySem.Spec PyProof.Rows
def NoCtx (o:Obj):Prop:=∃ vs,o.data=.fields vs/\vs[2]? = some .none
section
variable {prog:Program}{w:World}{A:Around}{E:Value->Shared->Prop}{s:Shared}
end
def Hand (X:Cx):Prop:=∃ (e:Addr) (oe:Obj) (u:HO),X.A.handled=some (.ref e)/\X.H₀ e=some (.frz oe u)/\NoCtx oe
structure TurnH (P:Program) (w:World) (K:W.Frag) (tg:Expr) (J:It) (fp:List Addr) (it:Addr) (tn:Nat->Heap->Prop):Prop where
 mem:it∈fp
 obj:∀ i h,tn i h->∀ b∈fp,∃ o,h.get? b=some o/\∀ v,o.data ≠ .cell v
 keep:∀ i h h',tn i h->(∀ b∈fp,∀ o,h.get? b=some o->h'.get? b=some o)->tn i h'
 item:∀ (X:Cx),X.prog=P->X.w=w->X.K=K->Hand X->∀ (i:Nat) (pins:List (Addr × Obj)) (s:Shared) (σ:St) (H:Hp) (E:Value->Shared->Prop),Inv X pins σ H s->(∀ b∈fp,FpOk X pins H b)->tn i s.heap->J.go i H →
  wpAny (model P w) X.A (pyNext (.ref it)) (λ r s1=>∃ u,r=some u /\
   wpAny (model P w) X.A (letOwnedTupleGo tg (.ref it) u) (λ _ s2=>∃ x H',Inv X pins σ H' s2/\RelV x u/\J.yld i H x H'/\tn (i+1) s2.heap/\∀ b∈fp,H' b=none) E s1) E s
 done:∀ (X:Cx),X.prog=P->X.w=w->X.K=K->Hand X->∀ (i:Nat) (pins:List (Addr × Obj)) (s:Shared) (σ:St) (H:Hp) (E:Value->Shared->Prop),Inv X pins σ H s->(∀ b∈fp,FpOk X pins H b)->tn i s.heap->J.stop i H →
  wpAny (model P w) X.A (pyNext (.ref it)) (λ r s1=>r=none/\Inv X pins σ H s1) E s
section
variable {X:Cx}{tg:Expr}
end
structure RoomH (k:Nat) (e:Addr) (A:Around):Prop where
 hd:A.handled=some (.ref e)
 dp:A.depth+3 * k+5 < recursionLimit
 un:A.units+16 * k+200 < cLine
structure FnOkH (P:Program) (w:World) (K:W.Frag) (mg:Str->Option Value) (base:Heap) (CX:CXT) (k:Nat) (f:Addr) (fd:FuncData) (ps:List Str) (sp:Sp):Prop where
 len:∀ vs H Q E,sp vs H Q E->vs.length=ps.length
 run:∀ (A:Around) (outer:List Env) (s:Shared) (H:Hp) (args:Args) (us:List Value) (vs:List V) (Q:VK) (E:XK) (e:Addr) (oe:Obj) (u:HO),RoomH k e A->H e=some (.frz oe u)->NoCtx oe->Env0 P w K mg base A outer s H->BindsTo s fd args (ps.zip us)->Vals vs us->sp vs H Q E →
  codeAny (model P w) A (.call (.ref f) args) (CR CX outer P w H s Q E) s
section
variable {X:Cx}
end
end L2
set_option Elab.async false
set_option linter.all false
set_option maxRecDepth 100000
set_option maxHeartbeats 4000000
namespace L2
open PySem PySem.Spec PyProof.Rows
abbrev IsTri (h:Heap) (T:Addr) (a b c:Value):Prop:=h.get? T=some { cls:=.type "tuple",data:=.seq #[a,b,c] }
section
variable {prog:Program}{w:World}{A:Around}{E:Value->Shared->Prop}{s:Shared}
theorem updateSeq_tri {T:Addr}{a b c x:Value}{k:Nat}{Q:Unit->Shared->Prop}(hT:IsTri s.heap T a b c)
  (h:∀ h',h'.get? T=some { cls:=.type "tuple",data:=.seq ((#[a,b,c]:Array Value).setIfInBounds k x) }->Heap.SameBut T s.heap h'->Q () { s with heap:=h' }) :
  wpAny (model prog w) A (updateSeq T (·.setIfInBounds k x)) Q E s:=by
 refine wpAny_updateSeq hT rfl (h _ ?_ (Heap.SameBut.update ..))
 rw [Heap.get?_update_self _ hT rfl]
 simp [Obj.mapSeq]
structure Apart3 (z TI TO i j l:Addr) (f g e:List Addr):Prop where
 ti:TI ≠ z/\TI ≠ TO/\TI ≠ i/\TI ≠ j/\TI ≠ l
 zt:z ≠ TO
 zf:z ∉ f
 zg:z ∉ g
 ze:z ∉ e
 tf:TO ∉ f
 tg:TO ∉ g
 te:TO ∉ e
 ig:i ∉ g
 ie:i ∉ e
 jf:j ∉ f
 je:j ∉ e
 lf:l ∉ f
 lg:l ∉ g
variable {z TI TO i j l:Addr}{f g e:List Addr}{ti tj tl:Nat->Heap->Prop}{vi vj vl:Nat->Option Value}{k m n:Nat}{x y u a b c:Value}
theorem zip3_item (S:Src prog w i f ti vi) (T:Src prog w j g tj vj) (U:Src prog w l e tl vl) (D:Apart3 z TI TO i j l f g e){Q:Value->Shared->Prop}
  (hz:IsZip s.heap z TI TO .none) (hTI:IsTri s.heap TI (.ref i) (.ref j) (.ref l)) (hTO:IsTri s.heap TO a b c) (hi:ti k s.heap) (hj:tj m s.heap) (hl:tl n s.heap) (hx:vi k=some x) (hy:vj m=some y) (hu:vl n=some u)
  (hQ:∀ h',IsZip h' z TI TO (rawInt s.heap.objs.size)->IsTri h' TO x y u->ti (k+1) h'->tj (m+1) h'->tl (n+1) h'->IsTri h' s.heap.objs.size x y u->h'.objs.size=s.heap.objs.size+1->(∀ c o,c ∉ [z,TO,i,j,l]->s.heap.get? c=some o->h'.get? c=some o)->Q (.ref s.heap.objs.size) { s with heap:=h' }) :
  wpAny (model prog w) A (Builtin.«zip.__next__» ⟨[.ref z],[]⟩) (λ fin s'=>∃ v,fin=.done (.ret v)/\Q v s') E s:=by
 have iz:i ≠ z:=ne_mem S.mem D.zf
 have jz:j ≠ z:=ne_mem T.mem D.zg
 have lz:l ≠ z:=ne_mem U.mem D.ze
 have iTO:i ≠ TO:=ne_mem S.mem D.tf
 have jTO:j ≠ TO:=ne_mem T.mem D.tg
 have lTO:l ≠ TO:=ne_mem U.mem D.te
 refine wpAny_bind (m:=field (.ref z) 2) (wpAny_field hz rfl (x:=.bool false) rfl ?_)
 refine wpAny_bind (m:=field (.ref z) 3) (wpAny_field hz rfl (x:=.ref TI) rfl (wpAny_bind (wpAny_seqItems hTI rfl ?_)))
 refine wpAny_bind (m:=Builtin.SmallTypes.ownedTupleIsFree (.ref z)) ?_
 unfold Builtin.SmallTypes.ownedTupleIsFree
 refine wpAny_bind (wpAny_field hz rfl (x:=.none) rfl (wpAny_pure ?_));simp only [if_true]
 refine wpAny_bind (wpAny_rule (wpAny_bind (wpAny_field hz rfl (x:=.ref TO) rfl (wpAny_bind (wpAny_setField_rec hz (by simp) λ q1 z1 s1=>?_)))))
 replace z1:IsZip q1 z TI TO .ellipsis:=z1
 refine wpAny_bind ?_;simp only [List.zipIdx_cons,List.zipIdx_nil,List.forIn_cons,List.forIn_nil]
 refine wpAny_bind (wpAny_bind (wpAny_onRaise (wpAny_bind (m:=Builtin.SmallTypes.nextOf (.ref i)) (S.item _ k _ x _ _ (S.but hi s1.extBut D.zf) hx λ q2 i2 s2=>wpAny_pure ?_))))
 have o2:IsTri q2 TO a b c:=s2.extBut _ _ iTO.symm (s1.extBut _ _ D.zt.symm hTO)
 refine wpAny_bind (wpAny_seqItems o2 rfl (wpAny_bind (updateSeq_tri o2 λ q3 o3 s3=>wpAny_bind (wpAny_letGo (wpAny_pure ?_)))))
 replace o3:IsTri q3 TO x b c:=o3
 have j3:tj m q3:=T.but (T.but (T.but hj s1.extBut D.zg) s2.extBut D.ig) s3.extBut D.tg
 refine wpAny_bind (wpAny_bind (wpAny_onRaise (wpAny_bind (m:=Builtin.SmallTypes.nextOf (.ref j)) (T.item _ m _ y _ _ j3 hy λ q4 j4 s4=>wpAny_pure ?_))))
 have o4:IsTri q4 TO x b c:=s4.extBut _ _ jTO.symm o3
 refine wpAny_bind (wpAny_seqItems o4 rfl (wpAny_bind (updateSeq_tri o4 λ q5 o5 s5=>wpAny_bind (wpAny_letGo (wpAny_pure ?_)))))
 replace o5:IsTri q5 TO x y c:=o5
 have l5:tl n q5:=U.but (U.but (U.but (U.but (U.but hl s1.extBut D.ze) s2.extBut D.ie) s3.extBut D.te) s4.extBut D.je) s5.extBut D.te
 refine wpAny_bind (wpAny_bind (wpAny_onRaise (wpAny_bind (m:=Builtin.SmallTypes.nextOf (.ref l)) (U.item _ n _ u _ _ l5 hu λ q6 l6 s6=>wpAny_pure ?_))))
 have o6:IsTri q6 TO x y c:=s6.extBut _ _ lTO.symm o5
 refine wpAny_bind (wpAny_seqItems o6 rfl (wpAny_bind (updateSeq_tri o6 λ q7 o7 s7=>wpAny_bind (wpAny_letGo (wpAny_pure (wpAny_pure ?_))))))
 replace o7:IsTri q7 TO x y u:=o7
 refine wpAny_bind (wpAny_seqItems o7 rfl (wpAny_bind (wpAny_newTuple ?_)))
 have sz:q7.objs.size=s.heap.objs.size:=by rw [s7.1,s6.1,s5.1,s4.1,s3.1,s2.1,s1.1]
 have z7:IsZip q7 z TI TO .ellipsis:=s7.extBut _ _ D.zt (s6.extBut _ _ lz.symm (s5.extBut _ _ D.zt (s4.extBut _ _ jz.symm (s3.extBut _ _ D.zt (s2.extBut _ _ iz.symm z1)))))
 have k7:∀ c o,c ∉ [z,TO,i,j,l]->s.heap.get? c=some o->q7.get? c=some o:=λ c o hc e=>by
  simp only [List.mem_cons,List.not_mem_nil,or_false,not_or] at hc
  exact s7.extBut _ _ hc.2.1 (s6.extBut _ _ hc.2.2.2.2 (s5.extBut _ _ hc.2.1 (s4.extBut _ _ hc.2.2.2.1 (s3.extBut _ _ hc.2.1 (s2.extBut _ _ hc.2.2.1 (s1.extBut _ _ hc.1 e))))))
 have i7:ti (k+1) q7:=S.but (S.but (S.but (S.but (S.but i2 s3.extBut D.tf) s4.extBut D.jf) s5.extBut D.tf) s6.extBut D.lf) s7.extBut D.tf
 have j7:tj (m+1) q7:=T.but (T.but (T.but j4 s5.extBut D.tg) s6.extBut D.lg) s7.extBut D.tg
 have l7:tl (n+1) q7:=U.but l6 s7.extBut D.te
 have zlt:z < q7.objs.size:=Heap.lt_size z7
 refine wpAny_bind (m:=Builtin.SmallTypes.ownedTupleHandOut (.ref z) (.ref q7.objs.size)) ?_
 unfold Builtin.SmallTypes.ownedTupleHandOut
 have z8:IsZip (q7.push { cls:=.type "tuple",data:=.seq #[x,y,u] }) z TI TO .ellipsis:=Heap.get?_push_of_some _ z7
 refine wpAny_bind (wpAny_setField_rec z8 (by simp) λ q9 z9 s9=>?_)
 replace z9:IsZip q9 z TI TO (rawInt q7.objs.size):=z9
 refine wpAny_setField_rec z9 (by simp) λ q10 z10 s10=>?_
 replace z10:IsZip q10 z TI TO (rawInt q7.objs.size):=z10
 have up:∀ c o,c ≠ z->q7.get? c=some o->q10.get? c=some o:=λ c o hc e=>s10.extBut _ _ hc (s9.extBut _ _ hc (Heap.get?_push_of_some _ e))
 have t10:IsTri q10 q7.objs.size x y u:=s10.extBut _ _ (Nat.ne_of_gt zlt) (s9.extBut _ _ (Nat.ne_of_gt zlt) (Heap.get?_push_size _ rfl))
 have n10:q10.objs.size=q7.objs.size+1:=by rw [s10.1,s9.1,Heap.size_push]
 rw [sz] at z10 t10 n10
 refine wpAny_pure ⟨_,rfl,?_⟩
 show Q (.ref q7.objs.size) _
 rw [sz]
 exact hQ q10 z10 (up _ _ D.zt.symm o7) (S.keep _ _ _ i7 λ c hc o e=>up c o (ne_mem hc D.zf) e) (T.keep _ _ _ j7 λ c hc o e=>up c o (ne_mem hc D.zg) e) (U.keep _ _ _ l7 λ c hc o e=>up c o (ne_mem hc D.ze) e) t10 n10 λ c o hc e=>up c o (λ q=>hc (by simp [q])) (k7 c o hc e)
theorem zip3_end (hh:A.handled=none) (S:Src prog w i f ti vi) (T:Src prog w j g tj vj) (U:Src prog w l e tl vl) (D:Apart3 z TI TO i j l f g e){Q:Fin->Shared->Prop}
  (hz:IsZip s.heap z TI TO .none) (hTI:IsTri s.heap TI (.ref i) (.ref j) (.ref l)) (hTO:IsTri s.heap TO a b c) (hi:ti k s.heap) (hj:tj m s.heap) (hl:tl n s.heap) (hxy:vi k=none\/vj m=none\/vl n=none)
  (hE:∀ h' e,(∀ c o,c ∉ [z,TO,i,j,l]->s.heap.get? c=some o->h'.get? c=some o)->(∃ o,h'.get? e=some o/\o.cls=.type "StopIteration")->E (.ref e) { s with heap:=h' }) :
  wpAny (model prog w) A (Builtin.«zip.__next__» ⟨[.ref z],[]⟩) Q E s:=by
 have iz:i ≠ z:=ne_mem S.mem D.zf
 have jz:j ≠ z:=ne_mem T.mem D.zg
 have lz:l ≠ z:=ne_mem U.mem D.ze
 have iTO:i ≠ TO:=ne_mem S.mem D.tf
 have jTO:j ≠ TO:=ne_mem T.mem D.tg
 refine wpAny_bind (m:=field (.ref z) 2) (wpAny_field hz rfl (x:=.bool false) rfl ?_)
 refine wpAny_bind (m:=field (.ref z) 3) (wpAny_field hz rfl (x:=.ref TI) rfl (wpAny_bind (wpAny_seqItems hTI rfl ?_)))
 refine wpAny_bind (m:=Builtin.SmallTypes.ownedTupleIsFree (.ref z)) ?_
 unfold Builtin.SmallTypes.ownedTupleIsFree
 refine wpAny_bind (wpAny_field hz rfl (x:=.none) rfl (wpAny_pure ?_));simp only [if_true]
 refine wpAny_bind (wpAny_rule (wpAny_bind (wpAny_field hz rfl (x:=.ref TO) rfl (wpAny_bind (wpAny_setField_rec hz (by simp) λ q1 z1 s1=>?_)))))
 replace z1:IsZip q1 z TI TO .ellipsis:=z1
 refine wpAny_bind ?_;simp only [List.zipIdx_cons,List.zipIdx_nil,List.forIn_cons,List.forIn_nil]
 refine wpAny_bind (wpAny_bind (wpAny_onRaise (wpAny_bind (m:=Builtin.SmallTypes.nextOf (.ref i)) ?_)))
 cases hx:vi k with
 | none=>
  refine S.fin _ k _ _ _ hh (S.but hi s1.extBut D.zf) hx λ q2 e s2 ⟨oe,he,hce⟩=>?_
  have z2:IsZip q2 z TI TO .ellipsis:=s2 _ _ iz.symm z1
  have ez:e ≠ z:=λ q=>by subst q;rw [z2] at he;cases he;simp at hce
  refine wpAny_setField_rec z2 (by simp) λ q3 _ s3=>hE q3 e (λ c o hc q=>?_) ⟨oe,s3.extBut _ _ ez he,hce⟩
  simp only [List.mem_cons,List.not_mem_nil,or_false,not_or] at hc
  exact s3.extBut _ _ hc.1 (s2 _ _ hc.2.2.1 (s1.extBut _ _ hc.1 q))
 | some x=>
  refine S.item _ k _ x _ _ (S.but hi s1.extBut D.zf) hx λ q2 i2 s2=>wpAny_pure ?_
  have o2:IsTri q2 TO a b c:=s2.extBut _ _ iTO.symm (s1.extBut _ _ D.zt.symm hTO)
  refine wpAny_bind (wpAny_seqItems o2 rfl (wpAny_bind (updateSeq_tri o2 λ q3 o3 s3=>wpAny_bind (wpAny_letGo (wpAny_pure ?_)))))
  replace o3:IsTri q3 TO x b c:=o3
  have j3:tj m q3:=T.but (T.but (T.but hj s1.extBut D.zg) s2.extBut D.ig) s3.extBut D.tg
  refine wpAny_bind (wpAny_bind (wpAny_onRaise (wpAny_bind (m:=Builtin.SmallTypes.nextOf (.ref j)) ?_)))
  cases hy:vj m with
  | none=>
   refine T.fin _ m _ _ _ hh j3 hy λ q4 e s4 ⟨oe,he,hce⟩=>?_
   have z4:IsZip q4 z TI TO .ellipsis:=s4 _ _ jz.symm (s3.extBut _ _ D.zt (s2.extBut _ _ iz.symm z1))
   have ez:e ≠ z:=λ q=>by subst q;rw [z4] at he;cases he;simp at hce
   refine wpAny_setField_rec z4 (by simp) λ q5 _ s5=>hE q5 e (λ c o hc q=>?_) ⟨oe,s5.extBut _ _ ez he,hce⟩
   simp only [List.mem_cons,List.not_mem_nil,or_false,not_or] at hc
   exact s5.extBut _ _ hc.1 (s4 _ _ hc.2.2.2.1 (s3.extBut _ _ hc.2.1 (s2.extBut _ _ hc.2.2.1 (s1.extBut _ _ hc.1 q))))
  | some y=>
   have hu:vl n=none:=by
    rcases hxy with h|h|h
    ·rw [hx] at h;cases h
    ·rw [hy] at h;cases h
    ·exact h
   refine T.item _ m _ y _ _ j3 hy λ q4 j4 s4=>wpAny_pure ?_
   have o4:IsTri q4 TO x b c:=s4.extBut _ _ jTO.symm o3
   refine wpAny_bind (wpAny_seqItems o4 rfl (wpAny_bind (updateSeq_tri o4 λ q5 o5 s5=>wpAny_bind (wpAny_letGo (wpAny_pure ?_)))))
   have l5:tl n q5:=U.but (U.but (U.but (U.but (U.but hl s1.extBut D.ze) s2.extBut D.ie) s3.extBut D.te) s4.extBut D.je) s5.extBut D.te
   refine wpAny_bind (wpAny_bind (wpAny_onRaise (wpAny_bind (m:=Builtin.SmallTypes.nextOf (.ref l)) (U.fin _ n _ _ _ hh l5 hu λ q6 e s6 ⟨oe,he,hce⟩=>?_))))
   have z6:IsZip q6 z TI TO .ellipsis:=s6 _ _ lz.symm (s5.extBut _ _ D.zt (s4.extBut _ _ jz.symm (s3.extBut _ _ D.zt (s2.extBut _ _ iz.symm z1))))
   have ez:e ≠ z:=λ q=>by subst q;rw [z6] at he;cases he;simp at hce
   refine wpAny_setField_rec z6 (by simp) λ q7 _ s7=>hE q7 e (λ c o hc q=>?_) ⟨oe,s7.extBut _ _ ez he,hce⟩
   simp only [List.mem_cons,List.not_mem_nil,or_false,not_or] at hc
   exact s7.extBut _ _ hc.1 (s6 _ _ hc.2.2.2.2 (s5.extBut _ _ hc.2.1 (s4.extBut _ _ hc.2.2.2.1 (s3.extBut _ _ hc.2.1 (s2.extBut _ _ hc.2.2.1 (s1.extBut _ _ hc.1 q))))))
theorem zip3_next_item (S:Src prog w i f ti vi) (T:Src prog w j g tj vj) (U:Src prog w l e tl vl) (D:Apart3 z TI TO i j l f g e){Q:Option Value->Shared->Prop}
  (hz:IsZip s.heap z TI TO .none) (hTI:IsTri s.heap TI (.ref i) (.ref j) (.ref l)) (hTO:IsTri s.heap TO a b c) (hi:ti k s.heap) (hj:tj m s.heap) (hl:tl n s.heap) (hx:vi k=some x) (hy:vj m=some y) (hu:vl n=some u)
  (hQ:∀ h',IsZip h' z TI TO (rawInt s.heap.objs.size)->IsTri h' TO x y u->ti (k+1) h'->tj (m+1) h'->tl (n+1) h'->IsTri h' s.heap.objs.size x y u->h'.objs.size=s.heap.objs.size+1->(∀ c o,c ∉ [z,TO,i,j,l]->s.heap.get? c=some o->h'.get? c=some o)->Q (some (.ref s.heap.objs.size)) { s with heap:=h' }) :
  wpAny (model prog w) A (pyNext (.ref z)) Q E s:=by
 have ty:s.TypeIs (.ref z) "zip":=⟨_,hz,rfl⟩
 unfold pyNext
 exact wpAny_bind (wpAny_attempt (wpAny_callSpecial?_slot (name:=Str.ofString "__next__") ty F.slot_zip_next (wpAny_call_entry F.slot_zip_next ty F.entry_zip_next (zip3_item S T U D hz hTI hTO hi hj hl hx hy hu λ h' c1 c2 c3 c4 c5 c6 c7 c8=>wpAny_pure (hQ h' c1 c2 c3 c4 c5 c6 c7 c8)) (F.args_zip_next_1 _))))
theorem zip3_next_end (hh:A.handled=none) (S:Src prog w i f ti vi) (T:Src prog w j g tj vj) (U:Src prog w l e tl vl) (D:Apart3 z TI TO i j l f g e){Q:Option Value->Shared->Prop}
  (hz:IsZip s.heap z TI TO .none) (hTI:IsTri s.heap TI (.ref i) (.ref j) (.ref l)) (hTO:IsTri s.heap TO a b c) (hi:ti k s.heap) (hj:tj m s.heap) (hl:tl n s.heap) (hxy:vi k=none\/vj m=none\/vl n=none)
  (hQ:∀ h',(∀ c o,c ∉ [z,TO,i,j,l]->s.heap.get? c=some o->h'.get? c=some o)->Q none { s with heap:=h' }):wpAny (model prog w) A (pyNext (.ref z)) Q E s:=by
 have ty:s.TypeIs (.ref z) "zip":=⟨_,hz,rfl⟩
 unfold pyNext
 refine wpAny_bind (wpAny_attempt (wpAny_callSpecial?_slot (name:=Str.ofString "__next__") ty F.slot_zip_next (wpAny_call_entry F.slot_zip_next ty F.entry_zip_next (zip3_end (show A.in1.handled=none from hh) S T U D hz hTI hTO hi hj hl hxy λ h' e kp he=>?_) (F.args_zip_next_1 _))))
 obtain ⟨o,ho,hc⟩:=he
 exact wpAny_bind (wpAny_isInstance (T := "StopIteration") (b:=true) ⟨o,ho,hc⟩ isSubtype_stop (wpAny_pure (hQ _ kp)))
end
theorem typeCall_zip_3 (a b c:Value):checkTypeCall "zip" ⟨[a,b,c],[]⟩=pure ():=by kernel_rfl
theorem newCall_zip_3 (a b c:Value):checkBuiltinCall "zip.__new__" ⟨[.type "zip",a,b,c],[]⟩=pure ():=by kernel_rfl
theorem args_object_init_4 (a b c d:Value):argsOk "object.__init__" ⟨[a,b,c,d],[]⟩:=by
 unfold argsOk;rw [signature?_of (id := "object.__init__") (n:=['_','_','t','i','n','i','_','_']) (o:=['t','c','e','j','b','o']) (by kernel_rfl) F.owner_object];kernel_rfl
section
variable {prog:Program}{w:World}{A:Around}{E:Value->Shared->Prop}{s:Shared}
abbrev yq1 (a:Addr) (h:Heap):Heap:=h.push (itObj false a)
abbrev yq2 (a b:Addr) (h:Heap):Heap:=(yq1 a h).push (itObj false b)
abbrev yq2c (a b c:Addr) (h:Heap):Heap:=(yq2 a b h).push (itObj false c)
abbrev yq3 (a b c:Addr) (h:Heap):Heap:=(yq2c a b c h).push { cls:=.type "tuple",data:=.seq #[.ref h.objs.size,.ref (yq1 a h).objs.size,.ref (yq2 a b h).objs.size] }
abbrev yq4 (a b c:Addr) (h:Heap):Heap:=(yq3 a b c h).push { cls:=.type "tuple",data:=.seq #[.none,.none,.none] }
abbrev yq5 (a b c:Addr) (h:Heap):Heap:=(yq4 a b c h).push { cls:=.type "zip",data:=.fields #[.none,.bool false,.bool false,.ref (yq2c a b c h).objs.size,.ref (yq3 a b c h).objs.size] }
theorem zip3_meets (a b c:Addr) (xs ys us:Array Value):Meets (Builtin.«zip.__new__» ⟨[.type "zip",.ref a,.ref b,.ref c],[]⟩) (λ _ R s=>SeqAt s.heap false a xs/\SeqAt s.heap false b ys/\SeqAt s.heap false c us/\R (.ok (.ret (.ref (yq4 a b c s.heap).objs.size))) { s with heap:=yq5 a b c s.heap }):=
 .of_wp λ prog w A R s h=>by
  obtain ⟨hp,g,d,tk,os⟩:=s;obtain ⟨h1,h2,h3,h⟩:=h;have hsub:=sub_zip
  have q1:SeqAt (Shared.heap ⟨hp,g,d,tk,os⟩) false a xs:=h1
  have q2:SeqAt (Shared.heap ⟨hp.push (itObj false a),g,d,tk,os⟩) false b ys:=h2.at λ o e=>Heap.get?_push_of_some _ e
  have q3:SeqAt (Shared.heap ⟨(hp.push (itObj false a)).push (itObj false b),g,d,tk,os⟩) false c us:=h3.at λ o e=>Heap.get?_push_of_some _ (Heap.get?_push_of_some _ e)
  wp_walk using iter_sq q1,iter_sq q2,iter_sq q3
  exact ⟨_,rfl,h⟩
theorem call_z3 {a b c:Addr}{xs ys us:Array Value}{Q:Value->Shared->Prop}(h1:SeqAt s.heap false a xs) (h2:SeqAt s.heap false b ys) (h3:SeqAt s.heap false c us)
  (h:∀ h' n,n=s.heap.objs.size->IsZip h' (n+5) (n+3) (n+4) .none->IsTri h' (n+3) (.ref n) (.ref (n+1)) (.ref (n+2))->IsTri h' (n+4) .none .none .none->IterAt h' false n a 0->IterAt h' false (n+1) b 0->IterAt h' false (n+2) c 0->h'.objs.size=n+6->(∀ c o,s.heap.get? c=some o->h'.get? c=some o)->Q (.ref (n+5)) { s with heap:=h' }) :
  wpAny (model prog w) A (call (.type "zip") [.ref a,.ref b,.ref c]) Q E s:=by
 refine callType_new F.called_zip (by decide) (typeCall_zip_3 _ _ _) (newCall_zip_3 _ _ _) (λ ob=>args_object_init_4 ob _ _ _) F.entry_zip_new (zip3_meets a b c xs ys us) ⟨h1,h2,h3,?_⟩
 have n1:(yq1 a s.heap).objs.size=s.heap.objs.size+1:=Heap.size_push ..
 have n2:(yq2 a b s.heap).objs.size=s.heap.objs.size+2:=by rw [Heap.size_push,n1]
 have n3:(yq2c a b c s.heap).objs.size=s.heap.objs.size+3:=by rw [Heap.size_push,n2]
 have n4:(yq3 a b c s.heap).objs.size=s.heap.objs.size+4:=by rw [Heap.size_push,n3]
 have n5:(yq4 a b c s.heap).objs.size=s.heap.objs.size+5:=by rw [Heap.size_push,n4]
 have n6:(yq5 a b c s.heap).objs.size=s.heap.objs.size+6:=by rw [Heap.size_push,n5]
 have f1:IterAt (yq1 a s.heap) false s.heap.objs.size a 0:=⟨_,Heap.get?_push_size _ rfl,rfl,rfl⟩
 have f2:IterAt (yq2 a b s.heap) false (yq1 a s.heap).objs.size b 0:=⟨_,Heap.get?_push_size _ rfl,rfl,rfl⟩
 have f3:IterAt (yq2c a b c s.heap) false (yq2 a b s.heap).objs.size c 0:=⟨_,Heap.get?_push_size _ rfl,rfl,rfl⟩
 have u2:∀ d o,(yq2c a b c s.heap).get? d=some o->(yq5 a b c s.heap).get? d=some o:=λ d o e=>Heap.get?_push_of_some _ (Heap.get?_push_of_some _ (Heap.get?_push_of_some _ e))
 have g5:(yq5 a b c s.heap).get? (yq4 a b c s.heap).objs.size=some _:=Heap.get?_push_size _ rfl
 have g4:(yq5 a b c s.heap).get? (yq3 a b c s.heap).objs.size=some _:=Heap.get?_push_of_some _ (Heap.get?_push_size _ rfl)
 have g3:(yq5 a b c s.heap).get? (yq2c a b c s.heap).objs.size=some _:=Heap.get?_push_of_some _ (Heap.get?_push_of_some _ (Heap.get?_push_size _ rfl))
 have e1:IterAt (yq5 a b c s.heap) false s.heap.objs.size a 0:=f1.at λ o e=>u2 _ o (Heap.get?_push_of_some _ (Heap.get?_push_of_some _ e))
 have e2:IterAt (yq5 a b c s.heap) false (yq1 a s.heap).objs.size b 0:=f2.at λ o e=>u2 _ o (Heap.get?_push_of_some _ e)
 have e3:IterAt (yq5 a b c s.heap) false (yq2 a b s.heap).objs.size c 0:=f3.at λ o e=>u2 _ o e
 show _/\_
 rw [n3,n4,n5] at g5
 rw [n1,n2,n3] at g3
 rw [n4] at g4
 rw [n1] at e2
 rw [n2] at e3
 rw [n5]
 exact ⟨⟨_,g5,rfl⟩,h _ _ rfl g5 g3 g4 e1 e2 e3 n6 λ d o e=>u2 d o (Heap.get?_push_of_some _ (Heap.get?_push_of_some _ (Heap.get?_push_of_some _ e)))⟩
end
def It3 (a b c:Addr) (xs ys us:List V):It:=
 ⟨λ i H=>SqK false H a xs/\SqK false H b ys/\SqK false H c us/\i < xs.length/\i < ys.length/\i < us.length,λ i H x H'=>∃ p u v t,H p=none/\x=.ref p/\xs[i]? = some u/\ys[i]? = some v/\us[i]? = some t/\H'=upd H p (.tup [u,v,t]),λ i H=>SqK false H a xs/\SqK false H b ys/\SqK false H c us/\(xs.length<=i\/ys.length<=i\/us.length<=i)⟩
def Tn3 (a b c z TI TO p q r:Addr) (i:Nat) (h:Heap):Prop:=IsZip h z TI TO .none/\IsTri h TI (.ref p) (.ref q) (.ref r)/\(∃ u v t,IsTri h TO u v t)/\IterAt h false p a i/\IterAt h false q b i/\IterAt h false r c i
theorem turn_zip3 {P:Program}{w:World}{K:W.Frag}{elts:List Expr} {x1}{tp:Pos}(a b c z TI TO p q r:Addr) (xs ys us:List V) (nd:[z,TI,TO,p,q,r].Nodup):Turn P w K (.Tuple elts x1 tp) (It3 a b c xs ys us) [z,TI,TO,p,q,r] z (Tn3 a b c z TI TO p q r) where
 mem:=List.mem_cons_self
 obj:=λ i h st d hd=>by
  obtain ⟨e1,e2,⟨u,v,t,e3⟩,e4,e5,e6⟩:=st
  simp only [List.mem_cons,List.not_mem_nil,or_false] at hd
  rcases hd with rfl|rfl|rfl|rfl|rfl|rfl
  ·exact ⟨_,e1,λ v z=>by cases z⟩
  ·exact ⟨_,e2,λ v z=>by cases z⟩
  ·exact ⟨_,e3,λ v z=>by cases z⟩
  ·obtain ⟨o,fs,e,d⟩:=e4.obj;exact ⟨o,e,λ v z=>by rw [d] at z;cases z⟩
  ·obtain ⟨o,fs,e,d⟩:=e5.obj;exact ⟨o,e,λ v z=>by rw [d] at z;cases z⟩
  ·obtain ⟨o,fs,e,d⟩:=e6.obj;exact ⟨o,e,λ v z=>by rw [d] at z;cases z⟩
 keep:=λ i h h' st k=>by
  obtain ⟨e1,e2,⟨u,v,t,e3⟩,e4,e5,e6⟩:=st
  exact ⟨k z (by simp) _ e1,k TI (by simp) _ e2,⟨u,v,t,k TO (by simp) _ e3⟩,e4.at λ o e=>k p (by simp) o e,e5.at λ o e=>k q (by simp) o e,e6.at λ o e=>k r (by simp) o e⟩
 item:=by
  intro X hP hw hK hc i pins s σ H E I hf st hg
  subst hP hw hK
  obtain ⟨e1,e2,⟨u0,v0,t0,e3⟩,e4,e5,e6⟩:=st
  obtain ⟨ha,hb,hc',l1,l2,l3⟩:=hg
  obtain ⟨as,ra,sa⟩:=I.sq ha
  obtain ⟨bs,rb,sb⟩:=I.sq hb
  obtain ⟨cs,rc,sc⟩:=I.sq hc'
  have hx:xs[i]? = some xs[i]:=List.getElem?_eq_getElem l1
  have hy:ys[i]? = some ys[i]:=List.getElem?_eq_getElem l2
  have ht:us[i]? = some us[i]:=List.getElem?_eq_getElem l3
  obtain ⟨u,hu,ru⟩:=ra.get hx
  obtain ⟨v,hv,rv⟩:=rb.get hy
  obtain ⟨y,hyy,ry⟩:=rc.get ht
  have free:∀ d∈[z,TI,TO,p,q,r],H d=none:=λ d h=>(hf d h).1
  have naz:∀ d∈[z,TI,TO,p,q,r],a ≠ d:=λ d h=>ha.ne (free d h)
  have nbz:∀ d∈[z,TI,TO,p,q,r],b ≠ d:=λ d h=>hb.ne (free d h)
  have ncz:∀ d∈[z,TI,TO,p,q,r],c ≠ d:=λ d h=>hc'.ne (free d h)
  simp only [List.nodup_cons,List.mem_cons,List.not_mem_nil,or_false,not_or,not_false_eq_true,and_true,List.nodup_nil] at nd
  obtain ⟨⟨z1,z2,z3,z4,z5⟩,⟨t1,t2,t3,t4⟩,⟨w1,w2,w3⟩,⟨y1,y2⟩,y3⟩:=nd
  have S:=src_sq (prog:=X.prog) (w:=X.w) false p a (naz p (by simp)) as.toArray
  have T:=src_sq (prog:=X.prog) (w:=X.w) false q b (nbz q (by simp)) bs.toArray
  have U:=src_sq (prog:=X.prog) (w:=X.w) false r c (ncz r (by simp)) cs.toArray
  have D:Apart3 z TI TO p q r [p,a] [q,b] [r,c]:=⟨⟨Ne.symm z1,t1,t2,t3,t4⟩,z2,by simp [z3,Ne.symm (naz z (by simp))],by simp [z4,Ne.symm (nbz z (by simp))],by simp [z5,Ne.symm (ncz z (by simp))],by simp [w1,Ne.symm (naz TO (by simp))],by simp [w2,Ne.symm (nbz TO (by simp))],by simp [w3,Ne.symm (ncz TO (by simp))],by simp [y1,Ne.symm (nbz p (by simp))],by simp [y2,Ne.symm (ncz p (by simp))],by simp [Ne.symm y1,Ne.symm (naz q (by simp))],by simp [y3,Ne.symm (ncz q (by simp))],by simp [Ne.symm y2,Ne.symm (naz r (by simp))],by simp [Ne.symm y3,Ne.symm (nbz r (by simp))]⟩
  refine zip3_next_item S T U D e1 e2 e3 ⟨e4,sa⟩ ⟨e5,sb⟩ ⟨e6,sc⟩ (x:=u) (y:=v) (u:=y) (by simpa using hu) (by simpa using hv) (by simpa using hyy) λ h1 c1 c2 c3 c4 c4' c5 c6 c7=>?_
  refine ⟨_,rfl,wpAny_letOwnedTupleGo_zip (s:={ s with heap:=h1 }) c1 λ h2 d1 d2=>?_⟩
  have lt:z < s.heap.objs.size:=Heap.lt_size e1
  have kp:∀ d o,d ∉ [z,TO,p,q,r]->s.heap.get? d=some o->h2.get? d=some o:=λ d o hd e=>d2.extBut _ _ (λ q=>hd (by simp [q])) (c7 d o hd e)
  have hn:h2.get? s.heap.objs.size=some { cls:=.type "tuple",data:=.seq #[u,v,y] }:=d2.extBut _ _ (Nat.ne_of_gt lt) c5
  have I2:Inv X pins σ (upd H s.heap.objs.size (.tup [xs[i],ys[i],us[i]])) { s with heap:=h2 }:=I.turnNew (t':=s.toks) (ch:=[z,TO,p,q,r]) (λ d hd=>hf d (by simp only [List.mem_cons,List.not_mem_nil,or_false] at hd ⊢;rcases hd with h|h|h|h|h<;>simp [h])) kp (Nat.le_refl _) ⟨(show 3<=sizeLine by decide),[u,v,y],.cons ru (.cons rv (.cons ry .nil)),⟨_,hn,rfl,_,rfl⟩⟩
  have fr:H s.heap.objs.size=none:=I.hok.fresh (Nat.le_refl _)
  refine ⟨.ref s.heap.objs.size,_,I2,rfl,⟨_,_,_,_,fr,rfl,hx,hy,ht,rfl⟩,⟨d1,d2.extBut _ _ (Ne.symm z1) (c7 TI _ (by simp [Ne.symm z1,t1,t2,t3,t4]) e2),⟨u,v,y,d2.extBut _ _ (Ne.symm z2) c2⟩,c3.1.at λ o e=>d2.extBut _ _ (Ne.symm z3) e,c4.1.at λ o e=>d2.extBut _ _ (Ne.symm z4) e,c4'.1.at λ o e=>d2.extBut _ _ (Ne.symm z5) e⟩,λ d hd=>?_⟩
  obtain ⟨o,ho,_⟩:∃ o,s.heap.get? d=some o/\True:=by
   simp only [List.mem_cons,List.not_mem_nil,or_false] at hd
   rcases hd with rfl|rfl|rfl|rfl|rfl|rfl
   ·exact ⟨_,e1,trivial⟩
   ·exact ⟨_,e2,trivial⟩
   ·exact ⟨_,e3,trivial⟩
   ·obtain ⟨o,_,e,_⟩:=e4.obj;exact ⟨o,e,trivial⟩
   ·obtain ⟨o,_,e,_⟩:=e5.obj;exact ⟨o,e,trivial⟩
   ·obtain ⟨o,_,e,_⟩:=e6.obj;exact ⟨o,e,trivial⟩
  rw [upd_ne (Nat.ne_of_lt (Heap.lt_size ho))]
  exact free d hd
 done:=by
  intro X hP hw hK hc i pins s σ H E I hf st hg
  subst hP hw hK
  obtain ⟨e1,e2,⟨u0,v0,t0,e3⟩,e4,e5,e6⟩:=st
  obtain ⟨ha,hb,hc',l⟩:=hg
  obtain ⟨as,ra,sa⟩:=I.sq ha
  obtain ⟨bs,rb,sb⟩:=I.sq hb
  obtain ⟨cs,rc,sc⟩:=I.sq hc'
  have free:∀ d∈[z,TI,TO,p,q,r],H d=none:=λ d h=>(hf d h).1
  have naz:∀ d∈[z,TI,TO,p,q,r],a ≠ d:=λ d h=>ha.ne (free d h)
  have nbz:∀ d∈[z,TI,TO,p,q,r],b ≠ d:=λ d h=>hb.ne (free d h)
  have ncz:∀ d∈[z,TI,TO,p,q,r],c ≠ d:=λ d h=>hc'.ne (free d h)
  simp only [List.nodup_cons,List.mem_cons,List.not_mem_nil,or_false,not_or,not_false_eq_true,and_true,List.nodup_nil] at nd
  obtain ⟨⟨z1,z2,z3,z4,z5⟩,⟨t1,t2,t3,t4⟩,⟨w1,w2,w3⟩,⟨y1,y2⟩,y3⟩:=nd
  have S:=src_sq (prog:=X.prog) (w:=X.w) false p a (naz p (by simp)) as.toArray
  have T:=src_sq (prog:=X.prog) (w:=X.w) false q b (nbz q (by simp)) bs.toArray
  have U:=src_sq (prog:=X.prog) (w:=X.w) false r c (ncz r (by simp)) cs.toArray
  have D:Apart3 z TI TO p q r [p,a] [q,b] [r,c]:=⟨⟨Ne.symm z1,t1,t2,t3,t4⟩,z2,by simp [z3,Ne.symm (naz z (by simp))],by simp [z4,Ne.symm (nbz z (by simp))],by simp [z5,Ne.symm (ncz z (by simp))],by simp [w1,Ne.symm (naz TO (by simp))],by simp [w2,Ne.symm (nbz TO (by simp))],by simp [w3,Ne.symm (ncz TO (by simp))],by simp [y1,Ne.symm (nbz p (by simp))],by simp [y2,Ne.symm (ncz p (by simp))],by simp [Ne.symm y1,Ne.symm (naz q (by simp))],by simp [y3,Ne.symm (ncz q (by simp))],by simp [Ne.symm y2,Ne.symm (naz r (by simp))],by simp [Ne.symm y3,Ne.symm (nbz r (by simp))]⟩
  have la:=ra.length
  have lb:=rb.length
  have lc:=rc.length
  refine zip3_next_end (I.ok.hd hc) S T U D e1 e2 e3 ⟨e4,sa⟩ ⟨e5,sb⟩ ⟨e6,sc⟩ (l.imp (λ h=>by simp;omega) (Or.imp (λ h=>by simp;omega) λ h=>by simp;omega)) λ h1 kp=>⟨rfl,I.turnL (t':=s.toks) (ch:=[z,TO,p,q,r]) (λ d hd=>hf d (by simp only [List.mem_cons,List.not_mem_nil,or_false] at hd ⊢;rcases hd with h|h|h|h|h<;>simp [h])) kp⟩
 self:=λ _ _ _ _ _ st h=>wpAny_pyIter_zip st.1 h
def kY2 (a b c:Addr) (xs ys:List V) (H:Hp) (R:It->Hp->Prop):List V->Prop:=λ us=>R (It3 a b c xs ys us) H
theorem m_kY2 (a b c:Addr) (xs ys us:List V) (H:Hp) (R:It->Hp->Prop):kY2 a b c xs ys H R us=R (It3 a b c xs ys us) H:=rfl
def kY1 (a b c:Addr) (xs:List V) (H:Hp) (R:It->Hp->Prop):List V->Prop:=λ ys=>optK (lstAt H c) (kY2 a b c xs ys H R)
theorem m_kY1 (a b c:Addr) (xs ys:List V) (H:Hp) (R:It->Hp->Prop):kY1 a b c xs H R ys=optK (lstAt H c) (kY2 a b c xs ys H R):=rfl
def kY (a b c:Addr) (H:Hp) (R:It->Hp->Prop):List V->Prop:=λ xs=>optK (lstAt H b) (kY1 a b c xs H R)
theorem m_kY (a b c:Addr) (xs:List V) (H:Hp) (R:It->Hp->Prop):kY a b c H R xs=optK (lstAt H b) (kY1 a b c xs H R):=rfl
def kY0 (R:It->Hp->Prop):List V->Hp->Prop:=λ vs H=>match vs with
 | [.ref a,.ref b,.ref c]=>optK (lstAt H a) (kY a b c H R)
 | _=>False
theorem m_kY0 (R:It->Hp->Prop) (a b c:Addr) (H:Hp):kY0 R [.ref a,.ref b,.ref c] H=optK (lstAt H a) (kY a b c H R):=rfl
def iZip3 (ta:TA):TI:=λ σ H R=>ta σ H (kY0 R)
theorem m_iZip3 (ta:TA) (σ:St) (H:Hp) (R:It->Hp->Prop):iZip3 ta σ H R=ta σ H (kY0 R):=rfl
section
variable {X:Cx}
theorem pi_zip3 {a b c:Expr}{elts:List Expr} {x1}{tp:Pos}{ta:TA}{p pos:Pos}(hg:Gl X "zip") (hm:X.mg "zip"=none) (ha:PA X [a,b,c] ta) (hs:starEach [a,b,c] X.env=[(false,eval a X.env),(false,eval b X.env),(false,eval c X.env)]:=by rfl) (hs2:starEach [b,c] X.env=[(false,eval b X.env),(false,eval c X.env)]:=by rfl) :
  PI X (.Tuple elts x1 tp) (.Call (.Name "zip" p) [a,b,c] [] pos) (iZip3 ta):=by
 intro pins s σ H R I h
 refine Call_ (ld_blt I hg hm (show bootBuiltins "zip"=some (.type "zip") by decide +kernel) (PyProof.Rows.callWith_type1 (thn (ha pos pins s σ H _ I h) λ us s1 ⟨vs,H1,I1,r1,q1⟩=>?_) (by rw [hs,hs2]) (by rw [hs2];rfl)))
 unfold kY0 at q1
 split at q1
 ·rename_i a b c
  obtain ⟨xs,e1,q1⟩:=optK_ex q1
  obtain ⟨ys,e2,q1⟩:=optK_ex q1
  obtain ⟨zs,e3,q⟩:=optK_ex q1
  have sa:SqK false H1 a xs:=lst_of e1
  have sb:SqK false H1 b ys:=lst_of e2
  have sc:SqK false H1 c zs:=lst_of e3
  cases r1 with
  | cons r rr=>
   cases rr with
   | cons r' rr=>
    cases rr with
    | cons r'' rr=>
     cases rr
     cases r
     cases r'
     cases r''
     obtain ⟨as,ra,s1a⟩:=I1.sq sa
     obtain ⟨bs,rb,s1b⟩:=I1.sq sb
     obtain ⟨cs,rc,s1c⟩:=I1.sq sc
     refine call_z3 s1a s1b s1c λ h' n hn e1 e2 e3 e4 e5 e5' e6 e7=>?_
     have I2:Inv X pins σ H1 { s1 with heap:=h' }:=I1.kept (t':=s1.toks) e7
     refine wpAny_pyIter_zip (s:={ s1 with heap:=h' }) e1 ⟨n+5,[n+5,n+3,n+4,n,n+1,n+2],_,_,H1,rfl,I2,turn_zip3 a b c (n+5) (n+3) (n+4) n (n+1) (n+2) xs ys zs (by simp),⟨e1,e2,⟨_,_,_,e3⟩,e4,e5,e5'⟩,λ d hd=>?_,q⟩
     have hle:s1.heap.objs.size<=d:=by
      rw [←hn]
      simp only [List.mem_cons,List.not_mem_nil,or_false] at hd
      rcases hd with rfl|rfl|rfl|rfl|rfl|rfl
      ·exact Nat.le_add_right ..
      ·exact Nat.le_add_right ..
      ·exact Nat.le_add_right ..
      ·exact Nat.le_refl _
      ·exact Nat.le_add_right ..
      ·exact Nat.le_add_right ..
     exact I1.fpOk hle (I1.hok.fresh hle)
 ·exact q1.elim
end
theorem for_zip3 {g:TG}{σ:St}{H:Hp}{tb:TS}{nx:St->Hp->Prop}{rt:VK}{bk ct:St->Hp->Prop}{a b c:Addr}{xs ys us:List V}(Pv:Nat->St->Hp->Prop) (h0:Pv 0 σ H) (hl:∀ i σ H,Pv i σ H->H a=some (.lst xs)/\H b=some (.lst ys)/\H c=some (.lst us))
  (hs:∀ i u v t p σ H H',xs[i]? = some u->ys[i]? = some v->us[i]? = some t->Pv i σ H->H p=none->Ext H H'->H' p=some (.tup [u,v,t])->g (.ref p) σ H' (kBody tb ⟨Pv (i+1),rt,nx,Pv (i+1)⟩)) (hd:∀ σ H,Pv (min xs.length (min ys.length us.length)) σ H->nx σ H):kFor g tb ⟨nx,rt,bk,ct⟩ σ (It3 a b c xs ys us) H:=by
 refine ⟨λ i m σ H=>m=min xs.length (min ys.length us.length) - i/\i<=min xs.length (min ys.length us.length)/\Pv i σ H,⟨min xs.length (min ys.length us.length),by simp,Nat.zero_le _,h0⟩,?_⟩
 rintro i m σ H ⟨rfl,hi,p⟩
 obtain ⟨qa,qb,qc⟩:=hl i σ H p
 by_cases hlt:i < min xs.length (min ys.length us.length)
 ·refine .inr ⟨⟨qa,qb,qc,by omega,by omega,by omega⟩,Pv (i+1),λ σ' H' p'=>⟨min xs.length (min ys.length us.length) - (i+1),by omega,rfl,hlt,p'⟩,λ x H' y=>?_⟩
  obtain ⟨r,u,v,t,hr,rfl,hu,hv,ht,rfl⟩:=y
  exact hs i u v t r σ H _ hu hv ht p hr (Ext.new hr) upd_same
 ·have e:i=min xs.length (min ys.length us.length):=by omega
  subst e
  exact .inl ⟨⟨qa,qb,qc,by omega⟩,hd σ H p⟩
end L2
set_option Elab.async false
set_option linter.all false
set_option maxRecDepth 100000
set_option maxHeartbeats 4000000
namespace L2
open PySem PySem.Spec PyProof.Rows
def kGD1 (Q:VK) (a:Addr):VK:=λ y H=>∃ o,DGet H a y o/\Q (o.getD .non) H
def kGD0 (ty:TE) (σ:St) (Q:VK):VK:=λ x H=>∃ a,x=.ref a/\IsD H a/\ty σ H (kGD1 Q a)
theorem m_tDGet1 (td ty:TE) (σ:St) (H:Hp) (Q:VK):tDGet1 td ty σ H Q=td σ H (kGD0 ty σ Q):=rfl
theorem use_get0 {ty:TE}{σ:St}{Q:VK}{H:Hp}{a:Addr}{kvs:List (Key × V)}(e:H a=some (.dK kvs)) (q:ty σ H (kGD1 Q a)):kGD0 ty σ Q (.ref a) H:=⟨a,rfl,.inl ⟨kvs,.inl e⟩,q⟩
theorem use_get {Q:VK}{H:Hp}{a:Addr}{kvs:List (Key × V)}{k:Key}(e:H a=some (.dK kvs)) (q:Q ((valV kvs k).getD .non) H):kGD1 Q a (kV k) H:=⟨_,DGet.k e,q⟩
end L2
set_option Elab.async false
set_option linter.all false
set_option maxRecDepth 100000
set_option maxHeartbeats 4000000
namespace L2
open PySem PySem.Spec PyProof.Rows
def rInA (neg:Bool):R2:=λ x y H Q=>∃ d ds,datV H 6 x=some d/\datV H 6 y=some (.list ds)/\Q (.bl (if neg=true then !(ds.any λ y=>PyData.eqv y d) else ds.any λ y=>PyData.eqv y d)) H
section
variable {X:Cx}
theorem lay_list {ds:List PyData}(h:(PyData.list ds).canLay0=true):PyData.canLayAll0 ds=true:=by simpa [PyData.canLay0] using h
theorem op_notInA (hu:X.A.units+64 < cLine):OpR X (compareOp .NotIn) (rInA true):=by
 intro pins s σ H x y v u Q I rx ry h
 obtain ⟨d,ds,e1,e2,q⟩:=h
 obtain ⟨a,b,c⟩:=datV_ok (K:=X.K) 6 x d e1
 obtain ⟨a',b',c'⟩:=datV_ok (K:=X.K) 6 y _ e2
 obtain ⟨as,z⟩:=a.reads I rx
 obtain ⟨bs,z'⟩:=a'.reads I ry
 exact SeqAt.notIn_list_reads z' z (lay_list b') b (by have:=Nat.min_le_right (PyData.depthAll ds) d.depth;omega) ⟨.bl _,H,I,rfl,q⟩
def rIndex:V->List V->Hp->VK->Prop:=λ x vs H Q=>∃ l xs y d ds j,x=.ref l/\vs=[y]/\H l=some (.lst xs)/\datV H 6 y=some d/\allSome (xs.map (datV H 5))=some ds/\ds.findIdx? (λ z=>PyData.eqv z d)=some j/\Q (.int (j:Int)) H
theorem mt_index (hu:X.A.units+64 < cLine):MtM X "list.index" rIndex:=by
 intro pins s σ H x vs v us Q I rx rv h
 obtain ⟨l,xs,y,d,ds,j,rfl,rfl,hH,e1,e2,hj,q⟩:=h
 cases rx
 obtain ⟨u,rfl,ru⟩:=rv.one
 obtain ⟨z,its,n,r,hl,e⟩:=I.lstM hH
 obtain ⟨a,b,c⟩:=datV_ok (K:=X.K) 6 y d e1
 obtain ⟨as,zy⟩:=a.reads I ru
 obtain ⟨a',b',c'⟩:=datVs_ok (K:=X.K) (datV_ok 5) xs ds e2
 obtain ⟨bs,zs⟩:=a'.reads I r
 have hm:=SeqAt.readsAll_map ds _ _ b' zs
 rw [List.findIdx?_eq_some_iff_getElem] at hj
 obtain ⟨hjl,hje,hjn⟩:=hj
 have hln:ds.length=its.length:=by rw [←hm,List.length_map]
 have hs:its.length<=sizeLine:=by omega
 rw [sizeLine_eq] at hs
 refine call_meets F.slot_list_index ⟨_,e,rfl⟩ F.entry_list_index (F.args_list_index_2 _ _) (SeqAt.list_indexAt l its.toArray n none #[] u (λ y=>PyData.eqv (SeqAt.readOf s.heap y) d) j (by rw [List.size_toArray];omega) (by omega) ?_ ?_) ⟨e,?_,?_⟩
 ·show PyData.eqv (SeqAt.readOf s.heap its.toArray[j]) d=true
  rw [List.getElem_toArray,←hje]
  congr 1
  rw [←List.getElem_map (f:=SeqAt.readOf s.heap) (h:=by rw [List.length_map];omega)]
  exact List.getElem_of_eq hm _
 ·intro m hm' hlt
  have hml:m < ds.length:=by omega
  have h2:=hjn m hlt
  show PyData.eqv (SeqAt.readOf s.heap its.toArray[m]) d=false
  rw [List.getElem_toArray]
  have e3:SeqAt.readOf s.heap (its[m]'(by omega))=ds[m]:=by
   rw [←List.getElem_map (f:=SeqAt.readOf s.heap) (h:=by rw [List.length_map];omega)]
   exact List.getElem_of_eq hm _
  rw [e3]
  exact Bool.eq_false_iff.mpr h2
 ·exact SeqAt.items_eqAt (by simpa using zs) zy b' b (by have:=Nat.min_le_right (PyData.depthAll ds) d.depth;omega)
 ·exact ⟨.int _,H,I.tok _,⟨_,rfl⟩,q⟩
end
end L2
set_option Elab.async false
set_option linter.all false
set_option maxRecDepth 100000
set_option maxHeartbeats 4000000
namespace L2
open PySem PySem.Spec PyProof.Rows
section
variable {prog:Program}{w:World}{A:Around}{R:Result->Shared->Prop}{J:Addr}{fp wr:List Addr}{G:Array GenState->Array GenState->Prop}{n:Nat}{P:Nat->Value->Prop}{St:Nat->Shared->Prop}
end
section
variable {prog:Program}{w:World}{A:Around}{R:Result->Shared->Prop}{J:Addr}{fp wr:List Addr}{G:Array GenState->Array GenState->Prop}{n:Nat}{P:Nat->Value->Prop}{St:Nat->Shared->Prop}
end
end L2
set_option Elab.async false
set_option linter.all false
set_option maxRecDepth 100000
set_option maxHeartbeats 4000000
namespace L2
open PySem PySem.Spec PyProof.Rows
end L2
namespace PH
def Sizes (ns:List Int):Prop:=ns.length<=8/\∀ n∈ns,1<=n/\n<=1000000000
def prodL:List Int->Int
 | []=>1
 | n::r=>n * prodL r
def splitL:List Int->Int->List Int
 | [],_=>[]
 | n::r,x=>x / prodL r % n::splitL r x
theorem prodL_append:∀ ns ms:List Int,prodL (ns++ms)=prodL ns * prodL ms
 | [],ms=>by simp [prodL]
 | n::r,ms=>by simp only [List.cons_append,prodL,prodL_append r ms,Int.mul_assoc]
theorem prodL_take (ns:List Int) (i:Nat) (z:Int) (h:ns[i]? = some z):prodL (ns.take (i+1))=prodL (ns.take i) * z:=by
 rw [List.take_add_one,h,prodL_append]
 simp [prodL]
theorem prodL_pos:∀ ns:List Int,(∀ n∈ns,1<=n/\n<=1000000000)->1<=prodL ns/\prodL ns<=1000000000 ^ ns.length
 | [],_=>by simp [prodL]
 | n::r,h=>by
  obtain ⟨h1,h2⟩:=prodL_pos r λ m hm=>h m (List.mem_cons_of_mem _ hm)
  obtain ⟨g1,g2⟩:=h n List.mem_cons_self
  refine ⟨?_,?_⟩
  ·show 1<=n * prodL r
   exact Int.le_trans (by omega) (Int.mul_le_mul g1 h1 (by decide) (by omega):1 * 1<=n * prodL r)
  ·show n * prodL r<=1000000000 ^ (r.length+1)
   rw [Int.pow_succ,Int.mul_comm]
   exact Int.mul_le_mul h2 g2 (by omega) (Int.le_trans (by omega) h2)
theorem pow9_le:∀ {k:Nat},k<=8->(1000000000:Int) ^ k<=1000000000 ^ 8
 | 0,_=>by decide
 | 1,_=>by decide
 | 2,_=>by decide
 | 3,_=>by decide
 | 4,_=>by decide
 | 5,_=>by decide
 | 6,_=>by decide
 | 7,_=>by decide
 | 8,_=>by decide
 | k+9,h=>by omega
theorem Sizes.prod {ns:List Int}(h:Sizes ns):1<=prodL ns/\prodL ns<=1000000000 ^ 8:=by
 obtain ⟨a,b⟩:=prodL_pos ns h.2
 exact ⟨a,Int.le_trans b (pow9_le h.1)⟩
theorem Sizes.take {ns:List Int}(h:Sizes ns) (i:Nat):Sizes (ns.take i):=⟨by have:=h.1;simp;omega,λ n hn=>h.2 n (List.mem_of_mem_take hn)⟩
theorem Sizes.drop {ns:List Int}(h:Sizes ns) (i:Nat):Sizes (ns.drop i):=⟨by have:=h.1;simp;omega,λ n hn=>h.2 n (List.mem_of_mem_drop hn)⟩
theorem drop_step (ns:List Int) (i:Nat) (z:Int) (hi:i < ns.length) (h:ns[ns.length - 1 - i]? = some z):ns.drop (ns.length - (i+1))=z::ns.drop (ns.length - i):=by
 have e:ns.length - (i+1)=ns.length - 1 - i:=by omega
 have e2:ns.length - i=ns.length - 1 - i+1:=by omega
 rw [e,e2]
 obtain ⟨hl,hz⟩:=List.getElem?_eq_some_iff.mp h
 rw [←hz]
 exact List.drop_eq_getElem_cons hl
theorem prodL_step (ns:List Int) (i:Nat) (z:Int) (hi:i < ns.length) (h:ns[ns.length - 1 - i]? = some z):prodL (ns.drop (ns.length - (i+1)))=prodL (ns.drop (ns.length - i)) * z:=by
 rw [drop_step ns i z hi h];exact Int.mul_comm _ _
theorem splitL_step (ns:List Int) (x:Int) (i:Nat) (z:Int) (hi:i < ns.length) (h:ns[ns.length - 1 - i]? = some z):(splitL (ns.drop (ns.length - (i+1))) x).reverse=(splitL (ns.drop (ns.length - i)) x).reverse++[x / prodL (ns.drop (ns.length - i)) % z]:=by
 rw [drop_step ns i z hi h];simp [splitL]
theorem left_step (ns:List Int) (x:Int) (i:Nat) (z:Int) (hi:i < ns.length) (h:ns[ns.length - 1 - i]? = some z) (hz:0<=prodL (ns.drop (ns.length - i))):x / prodL (ns.drop (ns.length - (i+1)))=x / prodL (ns.drop (ns.length - i)) / z:=by
 rw [prodL_step ns i z hi h]
 exact (Int.ediv_ediv_of_nonneg hz).symm
theorem splitL_len:∀ (ns:List Int) (x:Int),(splitL ns x).length=ns.length
 | [],_=>rfl
 | _::r,x=>by simp [splitL,splitL_len r x]
def numL:List Int->List Int->Int
 | _::r,x::xs=>x * prodL r+numL r xs
 | _,_=>0
end PH
namespace PH
open PySem L2
def vi:V->Int
 | .int i=>i
 | _=>0
def belowF (x:V) (b:Int):Bool:=match x with
 | .int i=>decide (0<=i) && decide (i < b)
 | _=>false
end PH
namespace PH
end PH
namespace PH
open PySem L2
theorem filt {α:Type}(l:List α):(l.filter λ _=>true)=l:=List.filter_eq_self.mpr λ _ _=>rfl
end PH
namespace PH
open PySem L2
def keptA (a:Int × Int):Int × Int:=(a.1,if a.1 > 1 then a.2 else 0)
def axL (axs:List (Int × Int)):List (List Int):=axs.map λ a=>[a.1,a.2]
def leastL (axs:List (Int × Int)):Int:=(axs.map λ a=>min 0 ((a.1 - 1) * a.2)).sum
def greatL (axs:List (Int × Int)):Int:=(axs.map λ a=>max 0 ((a.1 - 1) * a.2)).sum
def Axes (axs:List (Int × Int)):Prop:=axs.length<=8/\∀ a∈axs,1<=a.1/\a.1<=1000000000
structure ViewOk (room first:Int) (axs:List (Int × Int)):Prop where
 ax:Axes axs
 r1:1<=room
 r2:room<=1000000000000000000
 lo:0<=first+leastL (axs.map keptA)
 hi:first+greatL (axs.map keptA) < room
theorem Axes.kept {axs:List (Int × Int)}(h:Axes axs):Axes (axs.map keptA):=⟨by rw [List.length_map];exact h.1,λ a ha=>by
 obtain ⟨b,hb,rfl⟩:=List.mem_map.mp ha
 exact h.2 b hb⟩
theorem Axes.sizes {axs:List (Int × Int)}(h:Axes axs):Sizes (axs.map λ a=>a.1):=⟨by rw [List.length_map];exact h.1,λ n hn=>by
 obtain ⟨b,hb,rfl⟩:=List.mem_map.mp hn
 exact h.2 b hb⟩
def viewF (room first:Int) (l:Addr):List (Str × V):=putF "axes" (.ref l) (putF "first" (.int first) (putF "room" (.int room) []))
theorem ne_ra:¬ (("room":Str) = "axes"):=by decide +kernel
theorem ne_rf:¬ (("room":Str) = "first"):=by decide +kernel
theorem ne_fa:¬ (("first":Str) = "axes"):=by decide +kernel
theorem viewF_room (room first:Int) (l:Addr):(viewF room first l).lookup ("room":Str)=some (.int room):=by
 unfold viewF
 rw [lookup_putF,if_neg ne_ra,lookup_putF,if_neg ne_rf,lookup_putF,if_pos rfl]
theorem viewF_first (room first:Int) (l:Addr):(viewF room first l).lookup ("first":Str)=some (.int first):=by
 unfold viewF
 rw [lookup_putF,if_neg ne_fa,lookup_putF,if_pos rfl]
theorem viewF_axes (room first:Int) (l:Addr):(viewF room first l).lookup ("axes":Str)=some (.ref l):=by
 unfold viewF
 rw [lookup_putF,if_pos rfl]
theorem viewF_no (room first:Int) (l:Addr){m:Str}(h1:¬ m = "axes") (h2:¬ m = "first") (h3:¬ m = "room"):(viewF room first l).lookup m=none:=by
 unfold viewF
 rw [lookup_putF,if_neg h1,lookup_putF,if_neg h2,lookup_putF,if_neg h3]
 rfl
end PH
namespace PH
open PySem L2
theorem prodL_one:∀ ns:List Int,(∀ n∈ns,(1:Int)<=n)->1<=prodL ns
 | [],_=>by simp [prodL]
 | n::ns,h=>by
  have h1:=h n List.mem_cons_self
  have h2:=prodL_one ns λ m hm=>h m (List.mem_cons_of_mem _ hm)
  show 1<=n * prodL ns
  have:=Int.mul_le_mul h1 h2 (by decide) (by omega)
  omega
theorem leastL_cons (a:Int × Int) (l:List (Int × Int)):leastL (a::l)=min 0 ((a.1 - 1) * a.2)+leastL l:=by unfold leastL;simp
theorem greatL_cons (a:Int × Int) (l:List (Int × Int)):greatL (a::l)=max 0 ((a.1 - 1) * a.2)+greatL l:=by unfold greatL;simp
end PH
namespace PH
open PySem L2
end PH
namespace PH
theorem prodL_take_le (ns:List Int) (h:∀ n∈ns,(1:Int)<=n) (i:Nat):prodL (ns.take i)<=prodL ns:=by
 have e:prodL ns=prodL (ns.take i) * prodL (ns.drop i):=by rw [←prodL_append,List.take_append_drop]
 have a:=prodL_one (ns.take i) λ n hn=>h n (List.mem_of_mem_take hn)
 have b:=prodL_one (ns.drop i) λ n hn=>h n (List.mem_of_mem_drop hn)
 rw [e]
 have:=Int.mul_le_mul_of_nonneg_left b (show 0<=prodL (ns.take i) by omega)
 omega
def wideL (cs:List Int) (a:Int × Int):List Int:=cs.flatMap λ c=>(List.range a.1.toNat).map λ (n:Nat)=>c+(n:Int) * a.2
def cellsL (first:Int) (axs:List (Int × Int)):List Int:=axs.foldl wideL [first]
theorem wideL_len (cs:List Int) (a:Int × Int):(wideL cs a).length=cs.length * a.1.toNat:=by
 unfold wideL
 induction cs with
 | nil=>simp
 | cons c r ih=>rw [List.flatMap_cons,List.length_append,ih,List.length_map,List.length_range,List.length_cons,Nat.add_mul];omega
theorem cellsL_snoc (first:Int) (axs:List (Int × Int)) (a:Int × Int):cellsL first (axs++[a])=wideL (cellsL first axs) a:=by
 unfold cellsL;rw [List.foldl_append];rfl
theorem foldW_len:∀ (axs:List (Int × Int)) (cs:List Int),(∀ a∈axs,(1:Int)<=a.1)->((axs.foldl wideL cs).length:Int)=cs.length * prodL (axs.map λ a=>a.1)
 | [],cs,_=>by simp [prodL]
 | a::r,cs,h=>by
  have ha:=h a List.mem_cons_self
  rw [List.foldl_cons,foldW_len r (wideL cs a) λ b hb=>h b (List.mem_cons_of_mem _ hb),wideL_len,Int.natCast_mul,Int.toNat_of_nonneg (by omega),Int.mul_assoc]
  rfl
theorem cellsL_len (first:Int) (axs:List (Int × Int)) (h:∀ a∈axs,(1:Int)<=a.1):((cellsL first axs).length:Int)=prodL (axs.map λ a=>a.1):=by
 unfold cellsL
 rw [foldW_len axs [first] h]
 simp
end PH
namespace PH
def scaleL (b:Int) (axs:List (Int × Int)):List (Int × Int):=axs.map λ a=>(a.1,a.2 * b)
theorem scale_axes {b:Int}{axs:List (Int × Int)}(h:Axes axs):Axes (scaleL b axs):=⟨by unfold scaleL;rw [List.length_map];exact h.1,λ a ha=>by
 unfold scaleL at ha
 obtain ⟨c,hc,rfl⟩:=List.mem_map.mp ha
 exact h.2 c hc⟩
end PH
namespace PH
open PySem L2
end PH
namespace PH
open PySem L2
def rowsL (ns:List Int):List (List Int):=(List.range (prodL ns).toNat).map λ i=>splitL ns ((i:Nat):Int)
theorem splitL_snoc:∀ (p:List Int) (n x:Int),0 < n->splitL (p++[n]) x=splitL p (x / n)++[x % n]
 | [],n,x,hn=>by simp [splitL,prodL]
 | m::p,n,x,hn=>by
  have ih:=splitL_snoc p n x hn
  show x / prodL (p++[n]) % m::splitL (p++[n]) x=x / n / prodL p % m::(splitL p (x / n)++[x % n])
  rw [ih,prodL_append,show prodL [n]=n by simp [prodL],Int.mul_comm,Int.ediv_ediv_of_nonneg (by omega)]
theorem range_mul (b:Nat):∀ a:Nat,List.range (a * b)=(List.range a).flatMap λ j=>(List.range b).map λ k=>j * b+k
 | 0=>by simp
 | a+1=>by
  rw [Nat.succ_mul,List.range_add,range_mul b a,List.range_succ,List.flatMap_append]
  simp
theorem rowsL_snoc (p:List Int) (n:Int) (hp:0<=prodL p) (hn:0 < n):rowsL (p++[n])=(rowsL p).flatMap λ row=>(List.range n.toNat).map λ k=>row++[((k:Nat):Int)]:=by
 unfold rowsL
 have e:(prodL (p++[n])).toNat=(prodL p).toNat * n.toNat:=by
  rw [prodL_append,show prodL [n]=n by simp [prodL]]
  obtain ⟨a,ha⟩:=Int.eq_ofNat_of_zero_le hp
  obtain ⟨b,hb⟩:=Int.eq_ofNat_of_zero_le (show 0<=n by omega)
  rw [ha,hb]
  rfl
 rw [e,range_mul,List.map_flatMap,List.flatMap_map]
 congr 1
 funext j
 rw [List.map_map]
 apply List.map_congr_left
 intro k hk
 have hk':k < n.toNat:=by simpa using hk
 show splitL (p++[n]) ((j * n.toNat+k:Nat):Int)=splitL p (j:Nat)++[((k:Nat):Int)]
 rw [splitL_snoc p n _ hn]
 have c:((j * n.toNat+k:Nat):Int)=(k:Int)+(j:Int) * n:=by
  push_cast
  rw [show ((n.toNat:Nat):Int)=n by omega];omega
 rw [c,Int.add_mul_ediv_right _ _ (by omega),Int.ediv_eq_zero_of_lt (by omega) (by omega),Int.zero_add,Int.add_mul_emod_self_right,Int.emod_eq_of_lt (by omega) (by omega)]
theorem rowsL_len (ns:List Int):(rowsL ns).length=(prodL ns).toNat:=by simp [rowsL]
end PH
namespace PH
end PH
namespace PH
theorem num_split:∀ (ns:List Int) (x:Int),(∀ n∈ns,(1:Int)<=n)->numL ns (splitL ns x)=x % prodL ns
 | [],x,_=>by show 0=x % 1;rw [Int.emod_one]
 | n::r,x,h=>by
  have ih:=num_split r x λ m hm=>h m (List.mem_cons_of_mem _ hm)
  have hp:=prodL_one r λ m hm=>h m (List.mem_cons_of_mem _ hm)
  show x / prodL r % n * prodL r+numL r (splitL r x)=x % (n * prodL r)
  rw [ih]
  generalize prodL r=P at hp
  have a:=Int.emod_add_mul_ediv x (n * P)
  have b:=Int.emod_add_mul_ediv x P
  have c:=Int.emod_add_mul_ediv (x / P) n
  have d:x / P / n=x / (n * P):=by rw [Int.ediv_ediv_of_nonneg (by omega),Int.mul_comm P n]
  rw [d] at c
  have e1:n * P * (x / (n * P))=P * (n * (x / (n * P))):=by rw [Int.mul_comm n P,Int.mul_assoc]
  have e2:P * (x / P)=P * (x / P % n)+P * (n * (x / (n * P))):=by rw [←Int.mul_add,c]
  have e3:x / P % n * P=P * (x / P % n):=Int.mul_comm _ _
  omega
theorem split_inj {ns:List Int}{i j:Int}(h:∀ n∈ns,(1:Int)<=n) (i0:0<=i) (i1:i < prodL ns) (j0:0<=j) (j1:j < prodL ns) (e:splitL ns i=splitL ns j):i=j:=by
 have a:=num_split ns i h
 have b:=num_split ns j h
 rw [Int.emod_eq_of_lt i0 i1] at a
 rw [Int.emod_eq_of_lt j0 j1] at b
 rw [←a,←b,e]
end PH
namespace PH
def sizT (ms:List Int):Int:=(ms.map λ s=>s - 1).sum
def spanS:List Int->List Int->Int
 | s::ms,p::ps=>(s - 1) * (p.natAbs:Int)+spanS ms ps
 | _,_=>0
theorem abs_mul {s p:Int}(hs:1<=s):max 0 ((s - 1) * p) - min 0 ((s - 1) * p)=(s - 1) * (p.natAbs:Int)/\0<=(s - 1) * (p.natAbs:Int):=by
 rcases Int.le_total 0 p with h|h
 ·have:=Int.mul_nonneg (show 0<=s - 1 by omega) h
  rw [show (p.natAbs:Int)=p by omega]
  omega
 ·have:=Int.mul_nonneg (show 0<=s - 1 by omega) (show 0<=-p by omega)
  rw [Int.mul_neg] at this
  rw [show (p.natAbs:Int)=-p by omega,Int.mul_neg]
  omega
theorem span_zip:∀ (ms ps:List Int),(∀ m∈ms,(1:Int)<=m)->ps.length=ms.length->greatL (ms.zip ps) - leastL (ms.zip ps)=spanS ms ps/\leastL (ms.zip ps)<=0/\0<=greatL (ms.zip ps)/\0<=spanS ms ps
 | [],[],_,_=>by decide
 | [],_::_,_,h=>by simp at h
 | _::_,[],_,h=>by simp at h
 | s::ms,p::ps,h,hl=>by
  obtain ⟨i1,i2,i3,i4⟩:=span_zip ms ps (λ m hm=>h m (List.mem_cons_of_mem _ hm)) (by simpa using hl)
  obtain ⟨a1,a2⟩:=abs_mul (p:=p) (h s List.mem_cons_self)
  rw [List.zip_cons_cons,leastL_cons,greatL_cons]
  show _=(s - 1) * (p.natAbs:Int)+spanS ms ps/\_/\_/\0<=(s - 1) * (p.natAbs:Int)+spanS ms ps
  generalize (s - 1) * (p.natAbs:Int)=y at *
  generalize (s - 1) * p=x at *
  omega
theorem sizT_nn {ms:List Int}(h:∀ m∈ms,(1:Int)<=m):0<=sizT ms:=by
 unfold sizT
 induction ms with
 | nil=>decide
 | cons s r ih=>
  have:=ih λ m hm=>h m (List.mem_cons_of_mem _ hm)
  have:=h s List.mem_cons_self
  rw [List.map_cons,List.sum_cons]
  omega
theorem span_le48:∀ (ms ps:List Int) (B:Int),(∀ m∈ms,(1:Int)<=m)->ps.length=ms.length->(∀ p∈ps,(p.natAbs:Int)<=B)->0<=B->spanS ms ps<=sizT ms * B
 | [],[],B,_,_,_,_=>by show (0:Int)<=0 * B;omega
 | [],_::_,_,_,h,_,_=>by simp at h
 | _::_,[],_,_,h,_,_=>by simp at h
 | s::ms,p::ps,B,h,hl,hb,h0=>by
  have ih:=span_le48 ms ps B (λ m hm=>h m (List.mem_cons_of_mem _ hm)) (by simpa using hl) (λ q hq=>hb q (List.mem_cons_of_mem _ hq)) h0
  have hs:=h s List.mem_cons_self
  have hp:=hb p List.mem_cons_self
  have m1:=Int.mul_le_mul_of_nonneg_left hp (show 0<=s - 1 by omega)
  have e:sizT (s::ms)=(s - 1)+sizT ms:=by unfold sizT;rw [List.map_cons,List.sum_cons]
  show (s - 1) * (p.natAbs:Int)+spanS ms ps<=_
  rw [e,Int.add_mul]
  omega
theorem sizT_cons (s:Int) (ms:List Int):sizT (s::ms)=(s - 1)+sizT ms:=by unfold sizT;rw [List.map_cons,List.sum_cons]
theorem sizT_wide {ms:List Int}(h:∀ m∈ms,1<=m/\m<=3) (hp:prodL ms<=60):sizT ms<=7:=by
 have key:∀ l:List Int,(∀ m∈l,1<=m/\m<=3)->(3:Int) ^ (sizT l).toNat<=prodL l * prodL l/\0<=sizT l/\1<=prodL l:=by
  intro l
  induction l with
  | nil=>intro _;decide
  | cons s r ih=>
   intro hl
   obtain ⟨i1,i2,i3⟩:=ih λ m hm=>hl m (List.mem_cons_of_mem _ hm)
   have hs:=hl s List.mem_cons_self
   rw [sizT_cons]
   show _<=s * prodL r * (s * prodL r)/\_/\1<=s * prodL r
   have e:s * prodL r * (s * prodL r)=s * s * (prodL r * prodL r):=by
    rw [Int.mul_assoc,Int.mul_assoc,Int.mul_left_comm (prodL r) s (prodL r)]
   rw [e]
   generalize hP:prodL r * prodL r=P at *
   generalize prodL r=p at *
   generalize sizT r=t at *
   obtain ⟨n,rfl⟩:=Int.eq_ofNat_of_zero_le i2
   rcases (show s=1\/s=2\/s=3 by omega) with rfl|rfl|rfl
   ·rw [show ((1:Int) - 1+(n:Int)).toNat=n by omega]
    rw [Int.toNat_natCast] at i1
    omega
   ·rw [show ((2:Int) - 1+(n:Int)).toNat=n+1 by omega,Int.pow_succ]
    rw [Int.toNat_natCast] at i1
    have:(0:Int)<=3 ^ n:=Int.pow_nonneg (by decide)
    omega
   ·rw [show ((3:Int) - 1+(n:Int)).toNat=n+1+1 by omega,Int.pow_succ,Int.pow_succ]
    rw [Int.toNat_natCast] at i1
    omega
 obtain ⟨k1,k2,k3⟩:=key ms h
 have hpp:=Int.mul_le_mul hp hp (by omega) (by decide)
 obtain ⟨n,hn⟩:=Int.eq_ofNat_of_zero_le k2
 rw [hn,Int.toNat_natCast] at k1
 rw [hn]
 rcases Nat.lt_or_ge n 8 with h8|h8
 ·omega
 ·have:(3:Int) ^ 8<=3 ^ n:=by
   obtain ⟨d,rfl⟩:=Nat.exists_eq_add_of_le h8
   rw [Int.pow_add]
   have:(1:Int)<=3 ^ d:=by
    have:(0:Int) < 3 ^ d:=Int.pow_pos (by decide)
    omega
   have:=Int.mul_le_mul_of_nonneg_left this (show (0:Int)<=3 ^ 8 by decide)
   omega
  have:(3:Int) ^ 8=6561:=by decide
  omega
theorem sizT_le {k:Int}(hk:0<=k):∀ ms:List Int,(∀ m∈ms,1<=m/\m<=k+1)->sizT ms<=k * ms.length
 | [],_=>by show (0:Int)<=k * 0;omega
 | s::r,h=>by
  have ih:=sizT_le hk r λ m hm=>h m (List.mem_cons_of_mem _ hm)
  have hs:=h s List.mem_cons_self
  rw [sizT_cons,List.length_cons,show ((r.length+1:Nat):Int)=(r.length:Int)+1 by omega,Int.mul_add,Int.mul_one]
  omega
end PH
set_option Elab.async false
set_option linter.all false
set_option maxRecDepth 100000
set_option maxHeartbeats 4000000
namespace PH
open PySem L2
def top (i:Nat):Stmt:=PySem.Challenge.pw_pacehall_k71_bound_pairs.main.body.getD i (.Pass ⟨0,0,0,0⟩)
abbrev s_TooMany___init__:Stmt:=inClass (top 7) 0
theorem c_TooMany___init__:FnScope ["self", "number"] ["self", "number"] (defScope s_TooMany___init__):=⟨rfl,rfl,rfl,by decide +kernel,rfl,by decide +kernel,by decide +kernel⟩
abbrev s_Twice___init__:Stmt:=inClass (top 8) 0
theorem c_Twice___init__:FnScope ["self", "one", "other"] ["self", "one", "other"] (defScope s_Twice___init__):=⟨rfl,rfl,rfl,by decide +kernel,rfl,by decide +kernel,by decide +kernel⟩
abbrev s_is_whole:Stmt:=top 10
theorem c_is_whole:FnScope ["thing"] ["thing"] (defScope s_is_whole):=⟨rfl,rfl,rfl,by decide +kernel,rfl,by decide +kernel,by decide +kernel⟩
abbrev s_count_of:Stmt:=top 13
theorem c_count_of:FnScope ["sizes", "count", "size"] ["sizes"] (defScope s_count_of):=⟨rfl,rfl,rfl,by decide +kernel,rfl,by decide +kernel,by decide +kernel⟩
abbrev s_is_number_below:Stmt:=top 14
theorem c_is_number_below:FnScope ["thing", "bound"] ["thing", "bound"] (defScope s_is_number_below):=⟨rfl,rfl,rfl,by decide +kernel,rfl,by decide +kernel,by decide +kernel⟩
abbrev s_is_place:Stmt:=top 15
theorem c_is_place:FnScope ["sizes", "thing"] ["sizes", "thing"] (defScope s_is_place):=⟨rfl,rfl,rfl,by decide +kernel,rfl,by decide +kernel,by decide +kernel⟩
abbrev s_split_number:Stmt:=top 16
theorem c_split_number:FnScope ["sizes", "number", "place", "left", "size"] ["sizes", "number"] (defScope s_split_number):=⟨rfl,rfl,rfl,by decide +kernel,rfl,by decide +kernel,by decide +kernel⟩
abbrev s_place_at:Stmt:=top 17
theorem c_place_at:FnScope ["sizes", "number"] ["sizes", "number"] (defScope s_place_at):=⟨rfl,rfl,rfl,by decide +kernel,rfl,by decide +kernel,by decide +kernel⟩
abbrev s_refuse_long:Stmt:=top 18
theorem c_refuse_long:FnScope ["count"] ["count"] (defScope s_refuse_long):=⟨rfl,rfl,rfl,by decide +kernel,rfl,by decide +kernel,by decide +kernel⟩
abbrev s_places:Stmt:=top 19
theorem c_places:FnScope ["sizes", "count"] ["sizes"] (defScope s_places):=⟨rfl,rfl,rfl,by decide +kernel,rfl,by decide +kernel,by decide +kernel⟩
abbrev s_is_within:Stmt:=top 24
theorem c_is_within:FnScope ["thing", "low", "high"] ["thing", "low", "high"] (defScope s_is_within):=⟨rfl,rfl,rfl,by decide +kernel,rfl,by decide +kernel,by decide +kernel⟩
abbrev s_is_size:Stmt:=top 25
theorem c_is_size:FnScope ["thing"] ["thing"] (defScope s_is_size):=⟨rfl,rfl,rfl,by decide +kernel,rfl,by decide +kernel,by decide +kernel⟩
abbrev s_is_axis:Stmt:=top 26
theorem c_is_axis:FnScope ["thing"] ["thing"] (defScope s_is_axis):=⟨rfl,rfl,rfl,by decide +kernel,rfl,by decide +kernel,by decide +kernel⟩
abbrev s_are_axes:Stmt:=top 27
theorem c_are_axes:FnScope ["thing"] ["thing"] (defScope s_are_axes):=⟨rfl,rfl,rfl,by decide +kernel,rfl,by decide +kernel,by decide +kernel⟩
abbrev s_kept_axis:Stmt:=top 28
theorem c_kept_axis:FnScope ["axis"] ["axis"] (defScope s_kept_axis):=⟨rfl,rfl,rfl,by decide +kernel,rfl,by decide +kernel,by decide +kernel⟩
abbrev s_View___init__:Stmt:=inClass (top 29) 0
theorem c_View___init__:FnScope ["self", "room", "first", "axes"] ["self", "room", "first", "axes"] (defScope s_View___init__):=⟨rfl,rfl,rfl,by decide +kernel,rfl,by decide +kernel,by decide +kernel⟩
abbrev s_View_sizes:Stmt:=inClass (top 29) 1
theorem c_View_sizes:FnScope ["self"] ["self"] (defScope s_View_sizes):=⟨rfl,rfl,rfl,by decide +kernel,rfl,by decide +kernel,by decide +kernel⟩
abbrev s_View_paces:Stmt:=inClass (top 29) 2
theorem c_View_paces:FnScope ["self"] ["self"] (defScope s_View_paces):=⟨rfl,rfl,rfl,by decide +kernel,rfl,by decide +kernel,by decide +kernel⟩
abbrev s_View_count:Stmt:=inClass (top 29) 3
theorem c_View_count:FnScope ["self"] ["self"] (defScope s_View_count):=⟨rfl,rfl,rfl,by decide +kernel,rfl,by decide +kernel,by decide +kernel⟩
abbrev s_View_cell:Stmt:=inClass (top 29) 4
theorem c_View_cell:FnScope ["self", "place"] ["self", "place"] (defScope s_View_cell):=⟨rfl,rfl,rfl,by decide +kernel,rfl,by decide +kernel,by decide +kernel⟩
abbrev s_View_cells:Stmt:=inClass (top 29) 6
theorem c_View_cells:FnScope ["self", "found", "size", "pace"] ["self"] (defScope s_View_cells):=⟨rfl,rfl,rfl,by decide +kernel,rfl,by decide +kernel,by decide +kernel⟩
abbrev s_View_least:Stmt:=inClass (top 29) 7
theorem c_View_least:FnScope ["self"] ["self"] (defScope s_View_least):=⟨rfl,rfl,rfl,by decide +kernel,rfl,by decide +kernel,by decide +kernel⟩
abbrev s_View_greatest:Stmt:=inClass (top 29) 8
theorem c_View_greatest:FnScope ["self"] ["self"] (defScope s_View_greatest):=⟨rfl,rfl,rfl,by decide +kernel,rfl,by decide +kernel,by decide +kernel⟩
abbrev s_widened:Stmt:=top 30
theorem c_widened:FnScope ["cells", "size", "pace", "found", "cell"] ["cells", "size", "pace"] (defScope s_widened):=⟨rfl,rfl,rfl,by decide +kernel,rfl,by decide +kernel,by decide +kernel⟩
abbrev s_has_twice:Stmt:=top 32
theorem c_has_twice:FnScope ["view", "seen", "number", "cell"] ["view"] (defScope s_has_twice):=⟨rfl,rfl,rfl,by decide +kernel,rfl,by decide +kernel,by decide +kernel⟩
abbrev s_refuse_rooms:Stmt:=top 33
theorem c_refuse_rooms:FnScope ["one", "other"] ["one", "other"] (defScope s_refuse_rooms):=⟨rfl,rfl,rfl,by decide +kernel,rfl,by decide +kernel,by decide +kernel⟩
abbrev s_refuse_sizes_unlike:Stmt:=top 35
theorem c_refuse_sizes_unlike:FnScope ["to", "source"] ["to", "source"] (defScope s_refuse_sizes_unlike):=⟨rfl,rfl,rfl,by decide +kernel,rfl,by decide +kernel,by decide +kernel⟩
abbrev s_refuse_twice:Stmt:=top 37
theorem c_refuse_twice:FnScope ["view", "found"] ["view"] (defScope s_refuse_twice):=⟨rfl,rfl,rfl,by decide +kernel,rfl,by decide +kernel,by decide +kernel⟩
abbrev s_places_written_anew:Stmt:=top 38
theorem c_places_written_anew:FnScope ["to", "source", "spots", "found", "place", "cell", "origin"] ["to", "source", "spots"] (defScope s_places_written_anew):=⟨rfl,rfl,rfl,by decide +kernel,rfl,by decide +kernel,by decide +kernel⟩
abbrev s_bound_pairs:Stmt:=top 39
theorem c_bound_pairs:FnScope ["to", "source", "spots", "written", "found", "place", "cell"] ["to", "source"] (defScope s_bound_pairs):=⟨rfl,rfl,rfl,by decide +kernel,rfl,by decide +kernel,by decide +kernel⟩
abbrev s__law_draw:Stmt:=top 41
theorem c__law_draw:FnScope ["_law_script", "_law_k", "_law_many", "_law_number", "_law_cell"] ["_law_script", "_law_k", "_law_many"] (defScope s__law_draw):=⟨rfl,rfl,rfl,by decide +kernel,rfl,by decide +kernel,by decide +kernel⟩
abbrev s__law_whole:Stmt:=top 42
theorem c__law_whole:FnScope ["_law_found"] ["_law_found"] (defScope s__law_whole):=⟨rfl,rfl,rfl,by decide +kernel,rfl,by decide +kernel,by decide +kernel⟩
abbrev s__law_digits:Stmt:=top 43
theorem c__law_digits:FnScope ["_law_number", "_law_by", "_law_many", "_law_found", "_law_k"] ["_law_number", "_law_by", "_law_many"] (defScope s__law_digits):=⟨rfl,rfl,rfl,by decide +kernel,rfl,by decide +kernel,by decide +kernel⟩
abbrev s__law_sizes:Stmt:=top 44
theorem c__law_sizes:FnScope ["_law_script", "_law_most_here", "_law_wide", "_law_many", "_law_menu", "_law_sizes_here", "_law_count", "_law_digit", "_law_size"] ["_law_script", "_law_most_here", "_law_wide"] (defScope s__law_sizes):=⟨rfl,rfl,rfl,by decide +kernel,rfl,by decide +kernel,by decide +kernel⟩
abbrev s__law_once:Stmt:=top 45
theorem c__law_once:FnScope ["_law_script", "_law_sizes_here", "_law_unit", "_law_turn", "_law_signs", "_law_paces", "_law_left", "_law_axis"] ["_law_script", "_law_sizes_here"] (defScope s__law_once):=⟨rfl,rfl,rfl,by decide +kernel,rfl,by decide +kernel,by decide +kernel⟩
abbrev s__law_others:Stmt:=top 46
theorem c__law_others:FnScope ["_law_script", "_law_paces", "_law_way", "_law_k", "_law_axis"] ["_law_script", "_law_paces"] (defScope s__law_others):=⟨rfl,rfl,rfl,by decide +kernel,rfl,by decide +kernel,by decide +kernel⟩
abbrev s__law_least:Stmt:=top 47
theorem c__law_least:FnScope ["_law_sizes_here", "_law_paces"] ["_law_sizes_here", "_law_paces"] (defScope s__law_least):=⟨rfl,rfl,rfl,by decide +kernel,rfl,by decide +kernel,by decide +kernel⟩
abbrev s__law_most:Stmt:=top 48
theorem c__law_most:FnScope ["_law_sizes_here", "_law_paces"] ["_law_sizes_here", "_law_paces"] (defScope s__law_most):=⟨rfl,rfl,rfl,by decide +kernel,rfl,by decide +kernel,by decide +kernel⟩
abbrev s__law_cells:Stmt:=top 49
theorem c__law_cells:FnScope ["_law_first", "_law_sizes_here", "_law_paces", "_law_found", "_law_size", "_law_pace", "_law_longer", "_law_cell"] ["_law_first", "_law_sizes_here", "_law_paces"] (defScope s__law_cells):=⟨rfl,rfl,rfl,by decide +kernel,rfl,by decide +kernel,by decide +kernel⟩
abbrev s__law_two:Stmt:=top 50
theorem c__law_two:FnScope ["_law_script", "_law_sizes_here", "_law_paces", "_law_others_here", "_law_first", "_law_begin", "_law_last", "_law_room", "_law_one", "_law_other"] ["_law_script", "_law_sizes_here"] (defScope s__law_two):=⟨rfl,rfl,rfl,by decide +kernel,rfl,by decide +kernel,by decide +kernel⟩
abbrev s__law_far:Stmt:=top 51
theorem c__law_far:FnScope ["_law_script", "_law_view", "_law_by", "_law_more"] ["_law_script", "_law_view"] (defScope s__law_far):=⟨rfl,rfl,rfl,by decide +kernel,rfl,by decide +kernel,by decide +kernel⟩
abbrev s__law_places:Stmt:=top 52
theorem c__law_places:FnScope ["_law_sizes_here", "_law_found", "_law_size", "_law_longer", "_law_place"] ["_law_sizes_here"] (defScope s__law_places):=⟨rfl,rfl,rfl,by decide +kernel,rfl,by decide +kernel,by decide +kernel⟩
abbrev s__law_pairs:Stmt:=top 53
theorem c__law_pairs:FnScope ["_law_writes", "_law_reads", "_law_holder", "_law_n", "_law_found", "_law_j", "_law_i"] ["_law_writes", "_law_reads"] (defScope s__law_pairs):=⟨rfl,rfl,rfl,by decide +kernel,rfl,by decide +kernel,by decide +kernel⟩
abbrev s__law_asked:Stmt:=top 54
theorem c__law_asked:FnScope ["_law_one", "_law_other", "_law_found", "e"] ["_law_one", "_law_other"] (defScope s__law_asked):=⟨rfl,rfl,rfl,by decide +kernel,rfl,by decide +kernel,by decide +kernel⟩
abbrev s__law_is_twice:Stmt:=top 55
theorem c__law_is_twice:FnScope ["_law_found", "_law_some", "_law_writes"] ["_law_found", "_law_some", "_law_writes"] (defScope s__law_is_twice):=⟨rfl,rfl,rfl,by decide +kernel,rfl,by decide +kernel,by decide +kernel⟩
abbrev s__law_list:Stmt:=top 56
theorem c__law_list:FnScope ["_law_found", "_law_due", "_law_pair"] ["_law_found", "_law_due"] (defScope s__law_list):=⟨rfl,rfl,rfl,by decide +kernel,rfl,by decide +kernel,by decide +kernel⟩
abbrev s__law_right:Stmt:=top 57
theorem c__law_right:FnScope ["_law_one", "_law_other", "_law_some", "_law_writes", "_law_reads", "_law_found", "_law_due"] ["_law_one", "_law_other", "_law_some", "_law_writes", "_law_reads"] (defScope s__law_right):=⟨rfl,rfl,rfl,by decide +kernel,rfl,by decide +kernel,by decide +kernel⟩
abbrev s_law:Stmt:=top 58
theorem c_law:FnScope ["_law_script", "_law_sizes_here", "_law_one", "_law_other", "_law_writes", "_law_reads", "_law_some"] ["_law_script"] (defScope s_law):=⟨rfl,rfl,rfl,by decide +kernel,rfl,by decide +kernel,by decide +kernel⟩
set_option genInjectivity false in
structure Adr where
 a_PaceError:Addr
 a_NoPlace:Addr
 a_NoView:Addr
 a_NoCount:Addr
 a_NoPair:Addr
 a_TooMany:Addr
 a_Twice:Addr
 a_View:Addr
 a_TooMany___init__:Addr
 d_TooMany___init__:FuncData
 a_Twice___init__:Addr
 d_Twice___init__:FuncData
 a_is_whole:Addr
 d_is_whole:FuncData
 a_count_of:Addr
 d_count_of:FuncData
 a_is_number_below:Addr
 d_is_number_below:FuncData
 a_is_place:Addr
 d_is_place:FuncData
 a_split_number:Addr
 d_split_number:FuncData
 a_place_at:Addr
 d_place_at:FuncData
 a_refuse_long:Addr
 d_refuse_long:FuncData
 a_places:Addr
 d_places:FuncData
 a_is_within:Addr
 d_is_within:FuncData
 a_is_size:Addr
 d_is_size:FuncData
 a_is_axis:Addr
 d_is_axis:FuncData
 a_are_axes:Addr
 d_are_axes:FuncData
 a_kept_axis:Addr
 d_kept_axis:FuncData
 a_View___init__:Addr
 d_View___init__:FuncData
 a_View_sizes:Addr
 d_View_sizes:FuncData
 a_View_paces:Addr
 d_View_paces:FuncData
 a_View_count:Addr
 d_View_count:FuncData
 a_View_cell:Addr
 d_View_cell:FuncData
 a_View_cells:Addr
 d_View_cells:FuncData
 a_View_least:Addr
 d_View_least:FuncData
 a_View_greatest:Addr
 d_View_greatest:FuncData
 a_widened:Addr
 d_widened:FuncData
 a_has_twice:Addr
 d_has_twice:FuncData
 a_refuse_rooms:Addr
 d_refuse_rooms:FuncData
 a_refuse_sizes_unlike:Addr
 d_refuse_sizes_unlike:FuncData
 a_refuse_twice:Addr
 d_refuse_twice:FuncData
 a_places_written_anew:Addr
 d_places_written_anew:FuncData
 a_bound_pairs:Addr
 d_bound_pairs:FuncData
 a__law_draw:Addr
 d__law_draw:FuncData
 a__law_whole:Addr
 d__law_whole:FuncData
 a__law_digits:Addr
 d__law_digits:FuncData
 a__law_sizes:Addr
 d__law_sizes:FuncData
 a__law_once:Addr
 d__law_once:FuncData
 a__law_others:Addr
 d__law_others:FuncData
 a__law_least:Addr
 d__law_least:FuncData
 a__law_most:Addr
 d__law_most:FuncData
 a__law_cells:Addr
 d__law_cells:FuncData
 a__law_two:Addr
 d__law_two:FuncData
 a__law_far:Addr
 d__law_far:FuncData
 a__law_places:Addr
 d__law_places:FuncData
 a__law_pairs:Addr
 d__law_pairs:FuncData
 a__law_asked:Addr
 d__law_asked:FuncData
 a__law_is_twice:Addr
 d__law_is_twice:FuncData
 a__law_list:Addr
 d__law_list:FuncData
 a__law_right:Addr
 d__law_right:FuncData
 a_law:Addr
 d_law:FuncData
structure Tx (K:W.Frag) (mg:Str->Option Value) (t:Adr):Prop where
 m_PaceError:mg "PaceError"=some (.ref t.a_PaceError)
 m_NoPlace:mg "NoPlace"=some (.ref t.a_NoPlace)
 m_NoView:mg "NoView"=some (.ref t.a_NoView)
 m_NoCount:mg "NoCount"=some (.ref t.a_NoCount)
 m_NoPair:mg "NoPair"=some (.ref t.a_NoPair)
 m_TooMany:mg "TooMany"=some (.ref t.a_TooMany)
 m_Twice:mg "Twice"=some (.ref t.a_Twice)
 m_View:mg "View"=some (.ref t.a_View)
 x_Twice_Twice:W.exmOne K (.ref t.a_Twice) (.ref t.a_Twice)=some true
 ocs:W.specialIn K (.builtin "object.__class__") "__get__"=some (some (.builtin "getset_descriptor.__get__"))
 oct:W.takesIn K (.builtin "object.__class__")=some true
 ga_Twice:W.findIn K (.ref t.a_Twice) "__getattribute__"=some (some (.builtin "BaseException.__getattribute__"))
 gn_Twice:W.findIn K (.ref t.a_Twice) "__getattr__"=some none
 mb_Twice:W.mroIn K t.a_Twice (.type "BaseException")=some true
 mo_Twice:W.mroIn K t.a_Twice (.type "object")=some true
 fc_Twice:W.findIn K (.ref t.a_Twice) "__class__"=some (some (.builtin "object.__class__"))
 hd_Twice:W.hasDictIn K t.a_Twice=true
 m_MOST_TOLD:∃ tk,mg "MOST_TOLD"=some (.int 4096 tk)
 m_MOST_ROOM:∃ tk,mg "MOST_ROOM"=some (.int 1000000000000000000 tk)
 m_MOST_SIZE:∃ tk,mg "MOST_SIZE"=some (.int 1000000000 tk)
 m_MOST_AXES:∃ tk,mg "MOST_AXES"=some (.int 8 tk)
 oi_TooMany:OwnI K t.a_TooMany t.a_TooMany___init__
 tk_TooMany_number:W.takerIn K t.a_TooMany "number"=some none
 na_TooMany_number:NoAttr K t.a_TooMany "number"
 bi_PaceError:BaseI K t.a_PaceError
 oi_Twice:OwnI K t.a_Twice t.a_Twice___init__
 tk_Twice_one:W.takerIn K t.a_Twice "one"=some none
 na_Twice_one:NoAttr K t.a_Twice "one"
 tk_Twice_other:W.takerIn K t.a_Twice "other"=some none
 na_Twice_other:NoAttr K t.a_Twice "other"
 cl_View:Cls K t.a_View
 na_View_axes:NoAttr K t.a_View "axes"
 na_View_first:NoAttr K t.a_View "first"
 na_View_room:NoAttr K t.a_View "room"
 mk_View:Mk K t.a_View t.a_View___init__
 mt_View_sizes:Meth K t.a_View "sizes" t.a_View_sizes
 mt_View_paces:Meth K t.a_View "paces" t.a_View_paces
 mt_View_count:Meth K t.a_View "count" t.a_View_count
 mt_View_cell:Meth K t.a_View "cell" t.a_View_cell
 mt_View_cells:Meth K t.a_View "cells" t.a_View_cells
 mt_View_least:Meth K t.a_View "least" t.a_View_least
 mt_View_greatest:Meth K t.a_View "greatest" t.a_View_greatest
 F_TooMany___init__:Fun K "__init__" "TooMany.__init__" s_TooMany___init__ t.a_TooMany___init__ t.d_TooMany___init__
 b_TooMany___init__:Binds K t.d_TooMany___init__ ["self", "number"] []
 F_Twice___init__:Fun K "__init__" "Twice.__init__" s_Twice___init__ t.a_Twice___init__ t.d_Twice___init__
 b_Twice___init__:Binds K t.d_Twice___init__ ["self", "one", "other"] []
 F_is_whole:Fun K "is_whole" "is_whole" s_is_whole t.a_is_whole t.d_is_whole
 m_is_whole:mg "is_whole"=some (.ref t.a_is_whole)
 b_is_whole:Binds K t.d_is_whole ["thing"] []
 F_count_of:Fun K "count_of" "count_of" s_count_of t.a_count_of t.d_count_of
 m_count_of:mg "count_of"=some (.ref t.a_count_of)
 b_count_of:Binds K t.d_count_of ["sizes"] []
 F_is_number_below:Fun K "is_number_below" "is_number_below" s_is_number_below t.a_is_number_below t.d_is_number_below
 m_is_number_below:mg "is_number_below"=some (.ref t.a_is_number_below)
 b_is_number_below:Binds K t.d_is_number_below ["thing", "bound"] []
 F_is_place:Fun K "is_place" "is_place" s_is_place t.a_is_place t.d_is_place
 m_is_place:mg "is_place"=some (.ref t.a_is_place)
 b_is_place:Binds K t.d_is_place ["sizes", "thing"] []
 F_split_number:Fun K "split_number" "split_number" s_split_number t.a_split_number t.d_split_number
 m_split_number:mg "split_number"=some (.ref t.a_split_number)
 b_split_number:Binds K t.d_split_number ["sizes", "number"] []
 F_place_at:Fun K "place_at" "place_at" s_place_at t.a_place_at t.d_place_at
 m_place_at:mg "place_at"=some (.ref t.a_place_at)
 b_place_at:Binds K t.d_place_at ["sizes", "number"] []
 F_refuse_long:Fun K "refuse_long" "refuse_long" s_refuse_long t.a_refuse_long t.d_refuse_long
 m_refuse_long:mg "refuse_long"=some (.ref t.a_refuse_long)
 b_refuse_long:Binds K t.d_refuse_long ["count"] []
 F_places:Fun K "places" "places" s_places t.a_places t.d_places
 m_places:mg "places"=some (.ref t.a_places)
 b_places:Binds K t.d_places ["sizes"] []
 F_is_within:Fun K "is_within" "is_within" s_is_within t.a_is_within t.d_is_within
 m_is_within:mg "is_within"=some (.ref t.a_is_within)
 b_is_within:Binds K t.d_is_within ["thing", "low", "high"] []
 F_is_size:Fun K "is_size" "is_size" s_is_size t.a_is_size t.d_is_size
 m_is_size:mg "is_size"=some (.ref t.a_is_size)
 b_is_size:Binds K t.d_is_size ["thing"] []
 F_is_axis:Fun K "is_axis" "is_axis" s_is_axis t.a_is_axis t.d_is_axis
 m_is_axis:mg "is_axis"=some (.ref t.a_is_axis)
 b_is_axis:Binds K t.d_is_axis ["thing"] []
 F_are_axes:Fun K "are_axes" "are_axes" s_are_axes t.a_are_axes t.d_are_axes
 m_are_axes:mg "are_axes"=some (.ref t.a_are_axes)
 b_are_axes:Binds K t.d_are_axes ["thing"] []
 F_kept_axis:Fun K "kept_axis" "kept_axis" s_kept_axis t.a_kept_axis t.d_kept_axis
 m_kept_axis:mg "kept_axis"=some (.ref t.a_kept_axis)
 b_kept_axis:Binds K t.d_kept_axis ["axis"] []
 F_View___init__:Fun K "__init__" "View.__init__" s_View___init__ t.a_View___init__ t.d_View___init__
 b_View___init__:Binds K t.d_View___init__ ["self", "room", "first", "axes"] []
 F_View_sizes:Fun K "sizes" "View.sizes" s_View_sizes t.a_View_sizes t.d_View_sizes
 b_View_sizes:Binds K t.d_View_sizes ["self"] []
 F_View_paces:Fun K "paces" "View.paces" s_View_paces t.a_View_paces t.d_View_paces
 b_View_paces:Binds K t.d_View_paces ["self"] []
 F_View_count:Fun K "count" "View.count" s_View_count t.a_View_count t.d_View_count
 b_View_count:Binds K t.d_View_count ["self"] []
 F_View_cell:Fun K "cell" "View.cell" s_View_cell t.a_View_cell t.d_View_cell
 b_View_cell:Binds K t.d_View_cell ["self", "place"] []
 F_View_cells:Fun K "cells" "View.cells" s_View_cells t.a_View_cells t.d_View_cells
 b_View_cells:Binds K t.d_View_cells ["self"] []
 F_View_least:Fun K "least" "View.least" s_View_least t.a_View_least t.d_View_least
 b_View_least:Binds K t.d_View_least ["self"] []
 F_View_greatest:Fun K "greatest" "View.greatest" s_View_greatest t.a_View_greatest t.d_View_greatest
 b_View_greatest:Binds K t.d_View_greatest ["self"] []
 F_widened:Fun K "widened" "widened" s_widened t.a_widened t.d_widened
 m_widened:mg "widened"=some (.ref t.a_widened)
 b_widened:Binds K t.d_widened ["cells", "size", "pace"] []
 F_has_twice:Fun K "has_twice" "has_twice" s_has_twice t.a_has_twice t.d_has_twice
 m_has_twice:mg "has_twice"=some (.ref t.a_has_twice)
 b_has_twice:Binds K t.d_has_twice ["view"] []
 F_refuse_rooms:Fun K "refuse_rooms" "refuse_rooms" s_refuse_rooms t.a_refuse_rooms t.d_refuse_rooms
 m_refuse_rooms:mg "refuse_rooms"=some (.ref t.a_refuse_rooms)
 b_refuse_rooms:Binds K t.d_refuse_rooms ["one", "other"] []
 F_refuse_sizes_unlike:Fun K "refuse_sizes_unlike" "refuse_sizes_unlike" s_refuse_sizes_unlike t.a_refuse_sizes_unlike t.d_refuse_sizes_unlike
 m_refuse_sizes_unlike:mg "refuse_sizes_unlike"=some (.ref t.a_refuse_sizes_unlike)
 b_refuse_sizes_unlike:Binds K t.d_refuse_sizes_unlike ["to", "source"] []
 F_refuse_twice:FunX K "refuse_twice" "refuse_twice" s_refuse_twice t.a_refuse_twice t.d_refuse_twice
 m_refuse_twice:mg "refuse_twice"=some (.ref t.a_refuse_twice)
 b_refuse_twice:Binds K t.d_refuse_twice ["view"] []
 F_places_written_anew:Fun K "places_written_anew" "places_written_anew" s_places_written_anew t.a_places_written_anew t.d_places_written_anew
 m_places_written_anew:mg "places_written_anew"=some (.ref t.a_places_written_anew)
 b_places_written_anew:Binds K t.d_places_written_anew ["to", "source", "spots"] []
 F_bound_pairs:FunX K "bound_pairs" "bound_pairs" s_bound_pairs t.a_bound_pairs t.d_bound_pairs
 m_bound_pairs:mg "bound_pairs"=some (.ref t.a_bound_pairs)
 b_bound_pairs:Binds K t.d_bound_pairs ["to", "source"] []
 F__law_draw:Fun K "_law_draw" "_law_draw" s__law_draw t.a__law_draw t.d__law_draw
 m__law_draw:mg "_law_draw"=some (.ref t.a__law_draw)
 b__law_draw:Binds K t.d__law_draw ["_law_script", "_law_k", "_law_many"] []
 F__law_whole:Fun K "_law_whole" "_law_whole" s__law_whole t.a__law_whole t.d__law_whole
 m__law_whole:mg "_law_whole"=some (.ref t.a__law_whole)
 b__law_whole:Binds K t.d__law_whole ["_law_found"] []
 F__law_digits:Fun K "_law_digits" "_law_digits" s__law_digits t.a__law_digits t.d__law_digits
 m__law_digits:mg "_law_digits"=some (.ref t.a__law_digits)
 b__law_digits:Binds K t.d__law_digits ["_law_number", "_law_by", "_law_many"] []
 F__law_sizes:Fun K "_law_sizes" "_law_sizes" s__law_sizes t.a__law_sizes t.d__law_sizes
 m__law_sizes:mg "_law_sizes"=some (.ref t.a__law_sizes)
 b__law_sizes:Binds K t.d__law_sizes ["_law_script", "_law_most_here", "_law_wide"] []
 F__law_once:Fun K "_law_once" "_law_once" s__law_once t.a__law_once t.d__law_once
 m__law_once:mg "_law_once"=some (.ref t.a__law_once)
 b__law_once:Binds K t.d__law_once ["_law_script", "_law_sizes_here"] []
 F__law_others:Fun K "_law_others" "_law_others" s__law_others t.a__law_others t.d__law_others
 m__law_others:mg "_law_others"=some (.ref t.a__law_others)
 b__law_others:Binds K t.d__law_others ["_law_script", "_law_paces"] []
 F__law_least:Fun K "_law_least" "_law_least" s__law_least t.a__law_least t.d__law_least
 m__law_least:mg "_law_least"=some (.ref t.a__law_least)
 b__law_least:Binds K t.d__law_least ["_law_sizes_here", "_law_paces"] []
 F__law_most:Fun K "_law_most" "_law_most" s__law_most t.a__law_most t.d__law_most
 m__law_most:mg "_law_most"=some (.ref t.a__law_most)
 b__law_most:Binds K t.d__law_most ["_law_sizes_here", "_law_paces"] []
 F__law_cells:Fun K "_law_cells" "_law_cells" s__law_cells t.a__law_cells t.d__law_cells
 m__law_cells:mg "_law_cells"=some (.ref t.a__law_cells)
 b__law_cells:Binds K t.d__law_cells ["_law_first", "_law_sizes_here", "_law_paces"] []
 F__law_two:Fun K "_law_two" "_law_two" s__law_two t.a__law_two t.d__law_two
 m__law_two:mg "_law_two"=some (.ref t.a__law_two)
 b__law_two:Binds K t.d__law_two ["_law_script", "_law_sizes_here"] []
 F__law_far:Fun K "_law_far" "_law_far" s__law_far t.a__law_far t.d__law_far
 m__law_far:mg "_law_far"=some (.ref t.a__law_far)
 b__law_far:Binds K t.d__law_far ["_law_script", "_law_view"] []
 F__law_places:Fun K "_law_places" "_law_places" s__law_places t.a__law_places t.d__law_places
 m__law_places:mg "_law_places"=some (.ref t.a__law_places)
 b__law_places:Binds K t.d__law_places ["_law_sizes_here"] []
 F__law_pairs:Fun K "_law_pairs" "_law_pairs" s__law_pairs t.a__law_pairs t.d__law_pairs
 m__law_pairs:mg "_law_pairs"=some (.ref t.a__law_pairs)
 b__law_pairs:Binds K t.d__law_pairs ["_law_writes", "_law_reads"] []
 F__law_asked:Fun K "_law_asked" "_law_asked" s__law_asked t.a__law_asked t.d__law_asked
 m__law_asked:mg "_law_asked"=some (.ref t.a__law_asked)
 b__law_asked:Binds K t.d__law_asked ["_law_one", "_law_other"] []
 F__law_is_twice:Fun K "_law_is_twice" "_law_is_twice" s__law_is_twice t.a__law_is_twice t.d__law_is_twice
 m__law_is_twice:mg "_law_is_twice"=some (.ref t.a__law_is_twice)
 b__law_is_twice:Binds K t.d__law_is_twice ["_law_found", "_law_some", "_law_writes"] []
 F__law_list:Fun K "_law_list" "_law_list" s__law_list t.a__law_list t.d__law_list
 m__law_list:mg "_law_list"=some (.ref t.a__law_list)
 b__law_list:Binds K t.d__law_list ["_law_found", "_law_due"] []
 F__law_right:Fun K "_law_right" "_law_right" s__law_right t.a__law_right t.d__law_right
 m__law_right:mg "_law_right"=some (.ref t.a__law_right)
 b__law_right:Binds K t.d__law_right ["_law_one", "_law_other", "_law_some", "_law_writes", "_law_reads"] []
 F_law:Fun K "law" "law" s_law t.a_law t.d_law
 m_law:mg "law"=some (.ref t.a_law)
 b_law:Binds K t.d_law ["_law_script"] []
 z_ValueError:mg "ValueError"=none
 z_all:mg "all"=none
 z_bool:mg "bool"=none
 z_enumerate:mg "enumerate"=none
 z_int:mg "int"=none
 z_isinstance:mg "isinstance"=none
 z_len:mg "len"=none
 z_list:mg "list"=none
 z_max:mg "max"=none
 z_min:mg "min"=none
 z_range:mg "range"=none
 z_reversed:mg "reversed"=none
 z_set:mg "set"=none
 z_sum:mg "sum"=none
 z_tuple:mg "tuple"=none
 z_zip:mg "zip"=none
theorem Tx.e_Twice {K:W.Frag}{mg:Str->Option Value}{t:Adr}(T:Tx K mg t):ECls K t.a_Twice:=⟨T.ga_Twice,T.gn_Twice,T.mb_Twice,T.mo_Twice,T.fc_Twice,T.ocs,T.oct,T.hd_Twice⟩
local macro_rules | `(tactic| trivial) => `(tactic| first | exact Or.inl rfl | exact Or.inr rfl | exact Or.inr (Or.inl rfl) | exact Or.inr (Or.inr rfl) | assumption)
local macro_rules | `(tactic| simp! only [$xs,*]) => do
  let ys := xs.getElems.map λ x => (⟨x.raw⟩ : Lean.TSyntax `Lean.Parser.Tactic.simpLemma)
  let zs ← ("↓reduceIte ↓optK_some ↓gName_0 ↓gName_1 ↓gName_2 ↓gName_3 ↓gName_4 ↓gName_5 ↓gName_6 ↓gName_7 ↓gName_8 ↓gName_9 ↓m_kOp' ↓m_kOp ↓m_tOp ↓m_tC ↓m_kUn ↓m_tUn ↓m_rNotN_non ↓m_rNotN_int ↓m_rNotN_ref ↓m_kNot ↓m_tNot ↓m_kAnd ↓m_tAnd ↓m_kOr ↓m_tOr ↓m_kIfE ↓m_tIf ↓m_kCh3 ↓m_tNil ↓m_kCons' ↓m_kCons ↓m_tCons ↓m_kCall_1 ↓m_kCall_2 ↓m_kCall_3 ↓m_kCall_5 ↓m_tCall ↓m_kCB ↓m_tCB ↓m_tNext ↓m_tSeq ↓m_tRet ↓m_kDrop ↓m_tDrop ↓m_kIfS ↓m_tIfS ↓m_kAsg ↓m_tAsg ↓m_kGs ↓m_kLen ↓m_qLen ↓m_kIx' ↓m_kIx ↓m_qIx ↓m_qMax ↓m_qMin ↓m_qIsi_int ↓m_qIsi_bool ↓m_qIsi_tuple ↓m_qIsi_list ↓m_kIsi_Ni ↓m_kIsi_bb ↓m_kIsi_bi ↓m_kIsi_ib ↓m_kIsi_ii ↓m_kIsi_si ↓m_kIsi_li ↓m_kIsi_ll ↓m_kIsi_ti ↓m_kIsi_tt ↓m_kIsi_di ↓m_kBM' ↓m_kBM ↓m_tBM ↓m_kBM0 ↓m_tBM0 ↓m_kApp ↓m_rAppend ↓m_kRev ↓m_rReverse ↓m_kSet' ↓m_kSet ↓m_rSetL ↓m_kGSub3 ↓m_kGSub2 ↓m_gSub ↓m_kGT ↓m_qGT ↓m_kBody ↓m_tFor ↓m_kR1 ↓m_iRng1 ↓m_kISq'_l ↓m_kISq'_t ↓m_kISq ↓m_iSeq ↓m_kWh ↓m_tCallX ↓m_kTry ↓m_tTry ↓m_kSetE ↓m_kExcAs ↓m_tExcAs ↓m_del ↓m_kE4 ↓m_tYes ↓m_tComp ↓m_kSetC ↓m_tSetC ↓m_datV ↓m_datF_int ↓m_datF_ref ↓m_datO_lst ↓m_datO_tup ↓m_allSome_nil ↓m_allSome_cons ↓m_kEq2_t ↓m_kEq2_f ↓m_kEq1 ↓m_qEq_refr ↓m_qEq_int_int ↓m_qNe_int_int ↓m_kInts ↓m_kSl3 ↓m_kSl2 ↓m_kSl1 ↓m_tSl ↓m_tNoPart ↓m_kPart ↓m_tPart ↓m_kQT ↓m_kQL ↓m_qTup ↓m_qLst ↓m_kN ↓m_nList ↓m_kNT_l ↓m_nTuple ↓m_kNS ↓m_nSl ↓m_nDNew ↓m_kRvJ ↓m_kRvI ↓m_iRev ↓m_kSumI ↓m_qSum ↓m_kBls ↓m_kAllB ↓m_qAll ↓m_kZ2_l ↓m_kZ1_l ↓m_kZ0 ↓m_iZip ↓m_kCm2 ↓m_kCm_1 ↓m_kCm_2 ↓m_rep_1 ↓m_rep_2 ↓m_kFldV ↓m_kFldO ↓m_kFld ↓m_nFld ↓m_kSetO ↓m_kSet1 ↓m_kSet0 ↓m_nSetF ↓m_kMethA_0 ↓m_kMethO ↓m_kMeth ↓m_nMeth ↓m_kMade ↓m_kMake_3 ↓m_nMake ↓m_tXI ↓m_xSetF ↓m_kXS0 ↓m_tRaiseI ↓m_tXF ↓m_kCT1 ↓m_nCatT ↓m_kLZ2_l ↓m_kLZ1_l ↓m_kLZ0 ↓m_tLZ ↓m_kExt2 ↓m_kExt1 ↓m_rExtend ↓m_kEn1 ↓m_kEn0 ↓m_iEnum ↓m_tLR ↓m_kDG0 ↓m_tDGet ↓m_kDP1 ↓m_kDP0 ↓m_sDPut ↓m_tV_0 ↓m_tV_1 ↓m_tV_2 ↓m_tV_3 ↓m_tV_4 ↓m_tV_5 ↓m_tV_6 ↓m_tV_7 ↓m_tV_8 ↓m_tV_9 ↓m_nI0 ↓m_nI ↓m_nU ↓m_kTestN ↓m_nTest ↓m_kAndN ↓m_nAndV ↓m_kNotN ↓m_nNotV ↓m_kChN2 ↓m_kChN1 ↓m_kChN0 ↓m_nChain ↓m_gNilN ↓m_gConsN ↓m_kRep ↓m_nRep ↓m_kPopA ↓m_nPopAt ↓m_xSetF2 ↓m_kXS02 ↓m_kY2 ↓m_kY1 ↓m_kY ↓m_kY0 ↓m_iZip3 ↓m_tDGet1 optK_some itemsAt lstAt tupAt seqO_lst seqO_tup lstO_lst tupO_tup bind_some' upd_same upd_upd tyO_lst tyO_tup tyN_non tyN_bl tyN_int tyN_str tyN_ref tyV_list isW_int' isW_bl' isW_non' isW_str' cx_K atI_0 atI_1 atI_2 eqv_tuple eqv_list eqvAll_nil eqvAll_l eqvAll_ints allSome_ints CDiv_eq CMul_r CPow_10 Option.isSome_some Option.isSome_none Option.map_some List.length_cons List.length_nil List.length_map List.map_cons List.map_nil and_true true_and and_self implies_true reduceCtorEq decide_true decide_false Bool.not_true Bool.not_false if_true if_false decide_eq_true_eq Bool.false_eq_true Bool.not_eq_true' decide_eq_false_iff_not Bool.and_true Bool.true_and Bool.and_self Bool.and_eq_true Int.reduceToNat Int.reducePow Int.reduceMul Int.reduceAdd Int.reduceSub Int.reduceNeg Int.reduceLT Int.reduceLE Int.reduceEq Int.reduceNe Int.reduceDiv Int.reduceMod Nat.reduceAdd Nat.reduceLeDiff Nat.reduceLT Nat.reduceMul Nat.reducePow gt_iff_lt ge_iff_le ne_eq false_implies true_implies eq_self String.reduceEq Int.cast_ofNat_Int not_true_eq_false not_false_eq_true false_and and_false List.cons_append List.nil_append List.append_nil lenLe".splitOn " ").toArray.mapM λ s => if s.startsWith "↓" then `(Lean.Parser.Tactic.simpLemma| ↓ $(Lean.mkIdent (s.replace "↓" "").toName):ident) else `(Lean.Parser.Tactic.simpLemma| $(Lean.mkIdent s.toName):ident)
  `(tactic| simp (config := { failIfUnchanged := false, maxDischargeDepth := 30, maxSteps := 10000000 }) only [$zs,*, $ys,*, *])
local macro_rules | `(%[$xs,*|$k:num]) => match k.getNat with
  | 0 => `(@pvN _ $(xs.getElems[0]!) _ _ (by rfl) (by trivial) (by decide) (by decide))
  | 1 => `(@pa_c _ _ _ _ _ $(xs.getElems)*)
  | 2 => `(@pe_int _ _ _ $(xs.getElems)*)
  | 3 => `(@pss_cons _ _ _ _ _ $(xs.getElems)*)
  | 4 => `(@pss_one _ _ _ $(xs.getElems)*)
  | 5 => `(@pe_call _ _ _ _ _ _ _ _ _ _ _ _ _ _ _ _ $(xs.getElems)*)
  | 6 => `(@pe_op _ _ _ _ _ _ _ _ $(xs.getElems)*)
  | 7 => `(@ps_set _ _ $(xs.getElems)*)
  | 8 => `(@ps_ret _ _ _ _ $(xs.getElems)*)
  | 9 => `(@pg_name _ _ $(xs.getElems)*)
  | 10 => `(@pe_ix _ _ _ _ _ _ _ $(xs.getElems)*)
  | 11 => `(@pe_callB _ _ _ _ _ _ _ $(xs.getElems)*)
  | 12 => `(@pgs_consN _ _ _ _ _ $(xs.getElems)*)
  | 13 => `(@pt_cmpRN _ _ _ _ _ _ _ _ $(xs.getElems)*)
  | 14 => `(@ps_if _ _ _ _ _ _ _ _ $(xs.getElems)*)
  | 15 => `(@pe_qLst _ _ _ _ $(xs.getElems)*)
  | 16 => `(@pi_seq _ _ _ _ $(xs.getElems)*)
  | 17 => `(@pt_valN _ _ _ $(xs.getElems)*)
  | 18 => `(@ps_for _ _ _ _ _ _ _ _ $(xs.getElems)*)
  | 19 => `(@ps_expr _ _ _ _ $(xs.getElems)*)
  | 20 => `(@pt_not _ _ _ _ $(xs.getElems)*)
  | 21 => `(@pe_comp _ _ _ _ _ _ _ _ _ _ _ $(xs.getElems)*)
  | 22 => `(@pe_nMeth0 _ _ _ _ _ _ _ _ _ _ _ _ _ _ _ _ _ $(xs.getElems)*)
  | 23 => `(@pe_qTup _ _ _ _ _ $(xs.getElems)*)
  | 24 => `(@pg_tup _ _ _ _ _ $(xs.getElems)*)
  | 25 => `(@pe_nFld _ _ _ _ _ $(xs.getElems)*)
  | 26 => `(@pe_andN _ _ _ _ _ _ _ $(xs.getElems)*)
  | 27 => `(@pe_bm _ _ _ _ _ _ _ _ _ _ _ _ $(xs.getElems)*)
  | 28 => `(@pw_or _ _ _ _ _ _ _ $(xs.getElems)*)
  | 29 => `(@pe_slice _ _ _ _ _ _ _ _ _ _ $(xs.getElems)*)
  | 30 => `(@pi_range1 _ _ _ _ _ _ $(xs.getElems)*)
  | 31 => `(@pe_nMake _ _ _ _ _ _ _ _ _ _ _ _ _ _ _ _ _ $(xs.getElems)*)
  | _ => Lean.Macro.throwUnsupported
local macro_rules | `(∅) => `(by rfl)
local macro_rules | `(tactic| ac_rfl) => `(tactic| simp! only [and_true])
section
variable {P:Program}{w:World}{K:PySem.W.Frag}{mg:Str->Option Value}{base:Heap}{t:Adr}
def spDraw (K:W.Frag) (a:Addr) (ns:List Int):Sp:=λ vs H Q E=>∃ (k:Int) (m:Int),vs=[.ref a,.int k,.int m]/\(SqL K H a (ns.map V.int)/\ns.length<=63/\(0<=k/\k < 1000)/\0 < m/\∀ z:Int,0<=z->z < m->Q (.int z) H)
theorem c_spDraw (K:W.Frag) (a:Addr) (ns:List Int) (k:Int) (m:Int) (H:Hp) (Q:VK) (E:XK):spDraw K a ns [.ref a,.int k,.int m] H Q E=(SqL K H a (ns.map V.int)/\ns.length<=63/\(0<=k/\k < 1000)/\0 < m/\∀ z:Int,0<=z->z < m->Q (.int z) H):=spx2 (f:=λ (k:Int) (m:Int)=>[.ref a,.int k,.int m]) (λ _ _ _ _ h=>by cases h;exact ⟨rfl,rfl⟩) k m
theorem l_spDraw (K:W.Frag) (a:Addr) (ns:List Int){vs:List V}{H:Hp}{Q:VK}{E:XK}(h:spDraw K a ns vs H Q E):vs.length=3:=spl2 h λ _ _=>rfl
theorem ok__law_draw (T:Tx K mg t) (a:Addr) (ns:List Int):FnOk P w K mg base CX0 1 t.a__law_draw t.d__law_draw ["_law_script", "_law_k", "_law_many"] (spDraw K a ns):=by
 refine T.F__law_draw.ok c__law_draw (λ vs H Q E h=>l_spDraw _ _ _ h) (λ cdv A outer s H vs Q E hr h=>?_)
 ·obtain ⟨k,m,rfl,hS,hl,⟨hk0,hk1⟩,hm,kk⟩:=h
  have fin:∀ z:Int,Q (.int (z % m)) H:=λ z=>kk _ (Int.emod_nonneg _ (by omega)) (Int.emod_lt_of_pos _ hm)
  refine ⟨_,(pss_cons (ps_if (pt_cmpR op_lt (pv 1) (pe_callB (id := "len") call_len_seq ∅ T.z_len (by decide +kernel) (pa_c (pv 0) pa_nil)) (nomark _))
   (pss_one (ps_ret (pe_op op_mod (pe_ix ix_list (pv 0) (pv 1) (λ _ _=>rfl)) (pv 2))))
   pss_nil)
  (pss_cons (ps_set (i:=3) c__law_draw.nd rfl (Or.inl rfl) (pe_op op_add (pe_op op_mul (pe_op op_mul (pv 1) (pv 1)) pe_int) pe_int))
  (pss_cons (ps_if (pt_cmpR op_gt (pe_callB (id := "len") call_len_seq ∅ T.z_len (by decide +kernel) (pa_c (pv 0) pa_nil)) pe_int (nomark _))
   (pss_cons (ps_set (i:=4) c__law_draw.nd rfl (Or.inl rfl) (pe_op op_mod (pe_ix ix_list (pv 0) (pe_op op_mod (pv 1) (pe_callB (id := "len") call_len_seq ∅ T.z_len (by decide +kernel) (pa_c (pv 0) pa_nil))) (λ _ _=>rfl)) pe_int))
   (pss_one (ps_set (i:=3) c__law_draw.nd rfl (Or.inl rfl) (pe_op op_add (pe_op op_mul (pv 4) (pe_op op_add pe_int (pe_op op_mul (pe_op op_mul pe_int (pv 1)) (pv 1)))) (pe_op op_mul (pv 1) pe_int)))))
   pss_nil)
  (pss_one (ps_ret (pe_op op_mod (pe_op op_mod (pe_op op_mul (pe_op op_mod (pv 3) pe_int) pe_int) pe_int) (pv 2))))))),?_⟩
  refine ⟨_,rfl,_,rfl,a,_,rfl,.inl hS,_,_,rfl,rfl,_,rfl,?_⟩
  refine ite2 (λ h=>?_) (λ h=>?_)
  ·have h1:k < (ns.length:Int):=by simpa using h
   obtain ⟨z,hz,_⟩:=atI_ints ns k hk0 h1
   exact ⟨_,rfl,_,rfl,a,_,k,_,rfl,rfl,hS,hz,_,rfl,_,_,rfl,rfl,hm,fin _⟩
  ·refine ⟨_,rfl,_,rfl,_,_,rfl,rfl,.inl ⟨by omega,by omega⟩,_,_,rfl,rfl,.inr ⟨by decide,by decide⟩,_,_,rfl,rfl,?_⟩
   refine ⟨_,rfl,a,_,rfl,.inl hS,_,_,rfl,rfl,_,rfl,?_⟩
   refine ite2 (λ h2=>?_) (λ h2=>?_)
   ·have h3:0 < (ns.length:Int):=by simpa using h2
    have h4:(0:Int) < ((ns.map V.int).length:Int):=by simpa using h3
    obtain ⟨z,hz,_⟩:=atI_ints ns (k % ((ns.map V.int).length:Int)) (Int.emod_nonneg _ (by omega)) (by have:=Int.emod_lt_of_pos k h4;simpa using this)
    refine ⟨_,rfl,_,rfl,_,rfl,a,_,rfl,.inl hS,_,_,rfl,rfl,h4,a,_,_,_,rfl,rfl,hS,hz,_,_,rfl,rfl,(by first|decide|(show (0:Int) < _;decide)),?_⟩
    refine ⟨_,rfl,_,rfl,_,_,rfl,rfl,.inl ⟨by decide,by decide⟩,_,rfl,_,_,rfl,rfl,.inr ⟨by omega,by omega⟩,_,_,rfl,rfl,_,_,rfl,rfl,?_,?_⟩
    ·refine .inl ⟨?_,?_⟩
     ·have:=Int.emod_nonneg z (show (999999937:Int) ≠ 0 by decide);omega
     ·have:=Int.emod_lt_of_pos z (show (0:Int) < 999999937 by decide);omega
    refine ⟨_,rfl,_,_,rfl,rfl,.inr ⟨by decide,by decide⟩,_,_,rfl,rfl,?_⟩
    exact ⟨_,rfl,_,_,rfl,rfl,(by first|decide|(show (0:Int) < _;decide)),_,_,rfl,rfl,.inr ⟨by decide,by decide⟩,_,_,rfl,rfl,(by first|decide|(show (0:Int) < _;decide)),_,rfl,_,_,rfl,rfl,hm,fin _⟩
   ·exact ⟨_,rfl,_,_,rfl,rfl,(by first|decide|(show (0:Int) < _;decide)),_,_,rfl,rfl,.inr ⟨by decide,by decide⟩,_,_,rfl,rfl,(by first|decide|(show (0:Int) < _;decide)),_,rfl,_,_,rfl,rfl,hm,fin _⟩
def spWhole  : Sp:=λ vs H Q E=>∃ (x:V),vs=[x]/\(optK (isW H x) (kE4 H Q))
theorem c_spWhole  (x:V) (H:Hp) (Q:VK) (E:XK):spWhole  [x] H Q E=(optK (isW H x) (kE4 H Q)):=spx1 (f:=λ (x:V)=>[x]) (λ _ _ h=>by cases h;exact rfl) x
theorem l_spWhole  {vs:List V}{H:Hp}{Q:VK}{E:XK}(h:spWhole  vs H Q E):vs.length=1:=spl1 h λ _=>rfl
theorem ok__law_whole (T:Tx K mg t):FnOk P w K mg base CX0 1 t.a__law_whole t.d__law_whole ["_law_found"] spWhole:=by
 refine T.F__law_whole.ok c__law_whole (λ vs H Q E h=>l_spWhole h) (λ cdv A outer s H vs Q E hr h=>?_)
 ·obtain ⟨x,rfl,h⟩:=h
  obtain ⟨b,hb,k⟩:=optK_ex h
  clear h
  rw [m_kE4] at k
  refine ⟨_,%[%[%[%[("isinstance"),_,call_qIsi,∅,T.z_isinstance,(by decide +kernel),%[%[0|0],%[(@pe_bltn _ _ (.ty "int") (.type "int") _ ∅ T.z_int (by decide +kernel) rfl (by decide) (by decide)),(@pa_nil _),∅|1],∅|1],(by decide),(by decide),∅,∅|11],(@pe_one _ _ _ _ _ (@pe_notN _ _ _ _ %[("isinstance"),_,call_qIsi,∅,T.z_isinstance,(by decide +kernel),%[%[0|0],%[(@pe_bltn _ _ (.ty "bool") (.type "bool") _ ∅ T.z_bool (by decide +kernel) rfl (by decide) (by decide)),(@pa_nil _),∅|1],∅|1],(by decide),(by decide),∅,∅|11]))|26]|8]|4],?_⟩
  rw [show start ["_law_found"] [x]=[some (x)] from rfl]
  cases x with
  | int i=>cases hb;ac_rfl
  | bl i=>cases hb;ac_rfl
  | non=>cases hb;ac_rfl
  | str i=>cases hb;ac_rfl
  | ref p=>
   obtain ⟨rfl,o,ho,ht⟩:=isW_obj hb
   rcases ht with ht|ht|ht<;>ac_rfl
  | _=>cases hb
theorem ok_is_whole (T:Tx K mg t):FnOk P w K mg base CX0 1 t.a_is_whole t.d_is_whole ["thing"] spWhole:=by
 refine T.F_is_whole.ok c_is_whole (λ vs H Q E h=>l_spWhole h) (λ cdv A outer s H vs Q E hr h=>?_)
 ·obtain ⟨x,rfl,h⟩:=h
  obtain ⟨b,hb,k⟩:=optK_ex h
  clear h
  rw [m_kE4] at k
  refine ⟨_,%[%[%[%[("isinstance"),_,call_qIsi,∅,T.z_isinstance,(by decide +kernel),%[%[0|0],%[(@pe_bltn _ _ (.ty "int") (.type "int") _ ∅ T.z_int (by decide +kernel) rfl (by decide) (by decide)),(@pa_nil _),∅|1],∅|1],(by decide),(by decide),∅,∅|11],(@pe_one _ _ _ _ _ (@pe_notN _ _ _ _ %[("isinstance"),_,call_qIsi,∅,T.z_isinstance,(by decide +kernel),%[%[0|0],%[(@pe_bltn _ _ (.ty "bool") (.type "bool") _ ∅ T.z_bool (by decide +kernel) rfl (by decide) (by decide)),(@pa_nil _),∅|1],∅|1],(by decide),(by decide),∅,∅|11]))|26]|8]|4],?_⟩
  rw [show start ["thing"] [x]=[some (x)] from rfl]
  cases x with
  | int i=>cases hb;ac_rfl
  | bl i=>cases hb;ac_rfl
  | non=>cases hb;ac_rfl
  | str i=>cases hb;ac_rfl
  | ref p=>
   obtain ⟨rfl,o,ho,ht⟩:=isW_obj hb
   rcases ht with ht|ht|ht<;>ac_rfl
  | _=>cases hb
def kSz (F:List Int->Prop):List Int->Prop:=λ ns=>Sizes ns/\F ns
theorem m_kSz (F:List Int->Prop) (ns:List Int):kSz F ns=(Sizes ns/\F ns):=rfl
def kCnt (H:Hp) (Q:VK):List Int->Prop:=λ ns=>Q (.int (prodL ns)) H
theorem x_kCnt (H:Hp) (Q:VK) (ns:List Int):kCnt H Q ns=Q (.int (prodL ns)) H:=rfl
def spCount  : Sp:=λ vs H Q E=>∃ (p:Addr),vs=[.ref p]/\(optK (lstAt H p) (kInts (kSz (kCnt H Q))))
theorem c_spCount  (p:Addr) (H:Hp) (Q:VK) (E:XK):spCount  [.ref p] H Q E=(optK (lstAt H p) (kInts (kSz (kCnt H Q)))):=spx1 (f:=λ (p:Addr)=>[.ref p]) (λ _ _ h=>by cases h;exact rfl) p
theorem l_spCount  {vs:List V}{H:Hp}{Q:VK}{E:XK}(h:spCount  vs H Q E):vs.length=1:=spl1 h λ _=>rfl
theorem ok_count_of (T:Tx K mg t):FnOk P w K mg base CX0 1 t.a_count_of t.d_count_of ["sizes"] spCount:=by
 refine T.F_count_of.ok c_count_of (λ vs H Q E h=>l_spCount h) (λ cdv A outer s H vs Q E hr h=>?_)
 ·obtain ⟨p,rfl,h⟩:=h
  obtain ⟨xs,hp,ns,rfl,hs,k⟩:=optK_ex h
  replace hp:=lst_of hp
  rw [x_kCnt] at k
  refine ⟨_,%[%[(1),_,_,_,_,c_count_of.nd,rfl,(Or.inl rfl),%[_|2],∅,(by trivial)|7],%[%[PassesOwn.never,rfl,%[%[0|0]|16],%[(2),_,c_count_of.nd,rfl,(Or.inl rfl),(by trivial)|9],%[%[(1),_,_,_,_,c_count_of.nd,rfl,(Or.inl rfl),%[on_mulB,%[1|0],%[2|0]|6],∅,(by trivial)|7]|4],(by intros;rfl)|18],%[%[%[1|0]|8]|4]|3]|3],?_⟩
  rw [show start ["sizes", "count", "size"] [.ref p]=[some (.ref p),none,none] from rfl]
  ac_rfl
  refine for_lst (xs:=ns.map V.int) (λ i σ H'=>∃ v:Option V,σ=[some (.ref p),some (.int (prodL (ns.take i))),v]/\H'=H) ⟨_,rfl,rfl⟩ (λ i σ H' _ ⟨_,_,e⟩=>by subst e;exact hp) ?_ ?_
  ·rintro i x _ _ hi ⟨v,rfl,rfl⟩
   rw [List.getElem?_map] at hi
   obtain ⟨z,hz,rfl⟩:=Option.map_eq_some_iff.mp hi
   have e:=prodL_take ns i z hz
   have b1:=(hs.take i).prod
   have b2:=hs.2 z (List.mem_of_getElem? hz)
   have c1:(prodL (ns.take i)).natAbs < 2 ^ 256:=by
    generalize prodL (ns.take i)=y at b1
    have:(1000000000:Int) ^ 8 < 2 ^ 256:=by decide
    omega
   have c2:z.natAbs < 2 ^ 256:=by omega
   clear b1 b2
   simp! only [↓m_kBody,CMulB_of]
   exact ⟨_,rfl⟩
  ·rintro _ _ ⟨v,rfl,rfl⟩
   rw [List.length_map,List.take_length]
   ac_rfl
def spWithin  : Sp:=λ vs H Q E=>∃ (i:Int) (lo:Int) (hi:Int),vs=[.int i,.int lo,.int hi]/\(Q (.bl (decide (lo<=i) && decide (i<=hi))) H)
theorem c_spWithin  (i:Int) (lo:Int) (hi:Int) (H:Hp) (Q:VK) (E:XK):spWithin  [.int i,.int lo,.int hi] H Q E=(Q (.bl (decide (lo<=i) && decide (i<=hi))) H):=spx3 (f:=λ (i:Int) (lo:Int) (hi:Int)=>[.int i,.int lo,.int hi]) (λ _ _ _ _ _ _ h=>by cases h;exact ⟨rfl,rfl,rfl⟩) i lo hi
theorem l_spWithin  {vs:List V}{H:Hp}{Q:VK}{E:XK}(h:spWithin  vs H Q E):vs.length=3:=spl3 h λ _ _ _=>rfl
theorem ok_is_within (T:Tx K mg t):FnOk P w K mg base CX0 2 t.a_is_within t.d_is_within ["thing", "low", "high"] spWithin:=by
 have G_is_whole:=ok_is_whole (P:=P) (w:=w) (base:=base) T
 refine T.F_is_within.ok c_is_within (λ vs H Q E h=>l_spWithin h) (λ cdv A outer s H vs Q E hr h=>?_)
 ·obtain ⟨i,lo,hi,rfl,k⟩:=h
  refine ⟨_,%[%[%[%[G_is_whole,(hr.mono (by decide)),∅,T.m_is_whole,T.F_is_whole.kp,T.b_is_whole,.nil,pass0,%[%[0|0],(@pa_nil _),∅|1],(by decide),∅,∅|5],(@pe_one _ _ _ _ _ (@pe_chainN _ _ _ _ _ _ _ _ _ _ _ _ on_le on_le %[1|0] %[0|0] %[2|0] ∅))|26]|8]|4],?_⟩
  rw [show start ["thing", "low", "high"] [.int i,.int lo,.int hi]=[some (.int i),some (.int lo),some (.int hi)] from rfl]
  by_cases h0:lo<=i
  ·rw [decide_eq_true h0,Bool.true_and] at k
   simp! only [↓c_spWhole]
  ·rw [decide_eq_false h0,Bool.false_and] at k
   simp! only [↓c_spWhole]
def spSize  : Sp:=λ vs H Q E=>∃ (i:Int),vs=[.int i]/\(Q (.bl (decide (1<=i) && decide (i<=1000000000))) H)
theorem c_spSize  (i:Int) (H:Hp) (Q:VK) (E:XK):spSize  [.int i] H Q E=(Q (.bl (decide (1<=i) && decide (i<=1000000000))) H):=spx1 (f:=λ (i:Int)=>[.int i]) (λ _ _ h=>by cases h;exact rfl) i
theorem l_spSize  {vs:List V}{H:Hp}{Q:VK}{E:XK}(h:spSize  vs H Q E):vs.length=1:=spl1 h λ _=>rfl
theorem ok_is_size (T:Tx K mg t):FnOk P w K mg base CX0 3 t.a_is_size t.d_is_size ["thing"] spSize:=by
 have G_is_within:=ok_is_within (P:=P) (w:=w) (base:=base) T
 refine T.F_is_size.ok c_is_size (λ vs H Q E h=>l_spSize h) (λ cdv A outer s H vs Q E hr h=>?_)
 ·obtain ⟨i,rfl,k⟩:=h
  refine ⟨_,%[%[%[G_is_within,(hr.mono (by decide)),∅,T.m_is_within,T.F_is_within.kp,T.b_is_within,.nil,pass0,%[%[0|0],%[%[_|2],%[(@pe_glob _ _ (.int 1000000000) _ _ ∅ T.m_MOST_SIZE.choose_spec ⟨_,rfl⟩ (by decide)),(@pa_nil _),∅|1],∅|1],∅|1],(by decide),∅,∅|5]|8]|4],?_⟩
  rw [show start ["thing"] [.int i]=[some (.int i)] from rfl]
  simp! only [↓c_spWithin]
def spAxis  : Sp:=λ vs H Q E=>∃ (p:Addr),vs=[.ref p]/\(∃ a:Int × Int,H p=some (.tup [.int a.1,.int a.2])/\1<=a.1/\a.1<=1000000000/\Q (.bl true) H)
theorem c_spAxis  (p:Addr) (H:Hp) (Q:VK) (E:XK):spAxis  [.ref p] H Q E=(∃ a:Int × Int,H p=some (.tup [.int a.1,.int a.2])/\1<=a.1/\a.1<=1000000000/\Q (.bl true) H):=spx1 (f:=λ (p:Addr)=>[.ref p]) (λ _ _ h=>by cases h;exact rfl) p
theorem l_spAxis  {vs:List V}{H:Hp}{Q:VK}{E:XK}(h:spAxis  vs H Q E):vs.length=1:=spl1 h λ _=>rfl
theorem ok_is_axis (T:Tx K mg t):FnOk P w K mg base CX0 4 t.a_is_axis t.d_is_axis ["thing"] spAxis:=by
 have G_is_size:=ok_is_size (P:=P) (w:=w) (base:=base) T
 have G_is_whole:=ok_is_whole (P:=P) (w:=w) (base:=base) T
 refine T.F_is_axis.ok c_is_axis (λ vs H Q E h=>l_spAxis h) (λ cdv A outer s H vs Q E hr h=>?_)
 ·obtain ⟨p,rfl,a,hp,h1,h2,k⟩:=h
  refine ⟨_,%[%[%[%[("isinstance"),_,call_qIsi,∅,T.z_isinstance,(by decide +kernel),%[%[0|0],%[(@pe_bltn _ _ (.ty "tuple") (.type "tuple") _ ∅ T.z_tuple (by decide +kernel) rfl (by decide) (by decide)),(@pa_nil _),∅|1],∅|1],(by decide),(by decide),∅,∅|11],%[(@pe_cmpR _ _ _ _ _ _ _ _ (op_qEq hr.units) %[("len"),_,call_qLen,∅,T.z_len,(by decide +kernel),%[%[0|0],(@pa_nil _),∅|1],(by decide),(by decide),∅,∅|11] %[_|2] (nomark _)),%[%[G_is_size,(hr.mono (by decide)),∅,T.m_is_size,T.F_is_size.kp,T.b_is_size,.nil,pass0,%[%[ix_q,%[0|0],%[_|2],(λ _ _=>rfl)|10],(@pa_nil _),∅|1],(by decide),∅,∅|5],(@pe_one _ _ _ _ _ %[G_is_whole,(hr.mono (by decide)),∅,T.m_is_whole,T.F_is_whole.kp,T.b_is_whole,.nil,pass0,%[%[ix_q,%[0|0],%[_|2],(λ _ _=>rfl)|10],(@pa_nil _),∅|1],(by decide),∅,∅|5])|26]|26]|26]|8]|4],?_⟩
  rw [show start ["thing"] [.ref p]=[some (.ref p)] from rfl]
  simp! only [↓c_spSize,↓c_spWhole]
def spKept  : Sp:=λ vs H Q E=>∃ (p:Addr),vs=[.ref p]/\(∃ a:Int × Int,H p=some (.tup [.int a.1,.int a.2])/\∀ (r:Addr) (H':Hp),H r=none->Ext H H'->H' r=some (.tup [.int (keptA a).1,.int (keptA a).2])->Q (.ref r) H')
theorem c_spKept  (p:Addr) (H:Hp) (Q:VK) (E:XK):spKept  [.ref p] H Q E=(∃ a:Int × Int,H p=some (.tup [.int a.1,.int a.2])/\∀ (r:Addr) (H':Hp),H r=none->Ext H H'->H' r=some (.tup [.int (keptA a).1,.int (keptA a).2])->Q (.ref r) H'):=spx1 (f:=λ (p:Addr)=>[.ref p]) (λ _ _ h=>by cases h;exact rfl) p
theorem l_spKept  {vs:List V}{H:Hp}{Q:VK}{E:XK}(h:spKept  vs H Q E):vs.length=1:=spl1 h λ _=>rfl
theorem ok_kept_axis (T:Tx K mg t):FnOk P w K mg base CX0 1 t.a_kept_axis t.d_kept_axis ["axis"] spKept:=by
 refine T.F_kept_axis.ok c_kept_axis (λ vs H Q E h=>l_spKept h) (λ cdv A outer s H vs Q E hr h=>?_)
 ·obtain ⟨p,rfl,a,hp,k⟩:=h
  refine ⟨_,%[%[%[%[%[ix_q,%[0|0],%[_|2],(λ _ _=>rfl)|10],%[(@pe_ifExp _ _ _ _ _ _ _ _ %[on_gt,%[ix_q,%[0|0],%[_|2],(λ _ _=>rfl)|10],%[_|2],(nomark _)|13] %[ix_q,%[0|0],%[_|2],(λ _ _=>rfl)|10] %[_|2]),(@pa_nil _),∅|1],∅|1]|23]|8]|4],?_⟩
  rw [show start ["axis"] [.ref p]=[some (.ref p)] from rfl]
  have e1:(keptA a).1=a.1:=rfl
  by_cases h1:1 < a.1
  ·have e2:(keptA a).2=a.2:=if_pos h1
   rw [e1,e2] at k
   ac_rfl
   exact λ r H' h e h'=>k r H' h e h'
  ·have e2:(keptA a).2=0:=if_neg h1
   rw [e1,e2] at k
   ac_rfl
   exact λ r H' h e h'=>k r H' h e h'
def spAxes  : Sp:=λ vs H Q E=>∃ (p:Addr),vs=[.ref p]/\(∃ axs:List (Int × Int),TupsAt H p (axL axs)/\Axes axs/\∀ H',Ext H H'->Q (.bl true) H')
theorem c_spAxes  (p:Addr) (H:Hp) (Q:VK) (E:XK):spAxes  [.ref p] H Q E=(∃ axs:List (Int × Int),TupsAt H p (axL axs)/\Axes axs/\∀ H',Ext H H'->Q (.bl true) H'):=spx1 (f:=λ (p:Addr)=>[.ref p]) (λ _ _ h=>by cases h;exact rfl) p
theorem l_spAxes  {vs:List V}{H:Hp}{Q:VK}{E:XK}(h:spAxes  vs H Q E):vs.length=1:=spl1 h λ _=>rfl
theorem ok_are_axes (T:Tx K mg t):FnOk P w K mg base CX0 5 t.a_are_axes t.d_are_axes ["thing"] spAxes:=by
 have G_is_axis:=ok_is_axis (P:=P) (w:=w) (base:=base) T
 refine T.F_are_axes.ok c_are_axes (λ vs H Q E h=>l_spAxes h) (λ cdv A outer s H vs Q E hr h=>?_)
 ·obtain ⟨p,rfl,axs,⟨ys,hp,al⟩,ha,k⟩:=h
  refine ⟨_,%[%[%[%[("isinstance"),_,call_qIsi,∅,T.z_isinstance,(by decide +kernel),%[%[0|0],%[(@pe_bltn _ _ (.ty "list") (.type "list") _ ∅ T.z_list (by decide +kernel) rfl (by decide) (by decide)),(@pa_nil _),∅|1],∅|1],(by decide),(by decide),∅,∅|11],%[(@pe_cmpR _ _ _ _ _ _ _ _ on_le %[("len"),_,call_qLen,∅,T.z_len,(by decide +kernel),%[%[0|0],(@pa_nil _),∅|1],(by decide),(by decide),∅,∅|11] (@pe_glob _ _ (.int 8) _ _ ∅ T.m_MOST_AXES.choose_spec ⟨_,rfl⟩ (by decide)) (nomark _)),(@pe_one _ _ _ _ _ %[("all"),_,(call_qAll rfl),∅,T.z_all,(by decide +kernel),%[%[(["axis", "thing"]),(1),(comp_ok (defScope s_are_axes) ["thing"] rfl rfl (by decide +kernel)),rfl,%[%[0|0]|16],(λ C s₀ H₀ ex pn=>%[(0),_,(show List.Nodup (["axis", "thing"]:List Str) from by decide +kernel),rfl,(Or.inl rfl),(by trivial)|9]),(λ C s₀ H₀ ex pn=>(@pts_nil _)),(λ C s₀ H₀ ex pn=>%[G_is_axis,(hr.mono (by decide)),∅,T.m_is_axis,T.F_is_axis.kp,T.b_is_axis,.nil,pass0,%[%[0|0],(@pa_nil _),∅|1],(by decide),∅,∅|5]),(by intros;rfl)|21],(@pa_nil _),∅|1],(by decide),(by decide),∅,∅|11])|26]|26]|8]|4],?_⟩
  rw [show start ["thing"] [.ref p]=[some (.ref p)] from rfl]
  have hl:ys.length=axs.length:=by rw [al.1];unfold axL;rw [List.length_map]
  have hl8:(axs.length:Int)<=8:=by have:=ha.1;omega
  ac_rfl
  refine comp_fm ys (λ _=>true) (λ _=>.bl true) (λ z x H'=>x=z/\H' p=some (.lst ys)) (wk_lst hp).1 (wk_lst hp).2 (len5000 (by omega)) ?_ ?_
  ·intro D z x H' N1 N0 hz hD e ⟨hx,_⟩ k1 _
   subst hx
   obtain ⟨i,hi,rfl⟩:=List.getElem_of_mem hz
   have hi':i < axs.length:=by rw [←hl];exact hi
   obtain ⟨q,hq1,hq2⟩:=al.2 i [axs[i].1,axs[i].2] ys[i] (by unfold axL;rw [List.getElem?_map,List.getElem?_eq_getElem hi'];rfl) (List.getElem?_eq_getElem hi)
   have hb:=ha.2 _ (List.getElem_mem hi')
   have k1':=k1 rfl H' (Ext.refl _)
   have hq3:=e.at hq2
   rw [hq1]
   clear k1 k hp al
   simp! only [↓m_kCm_1,↓m_kCm2]
   rw [c_spAxis]
   exact ⟨axs[i],hq3,hb.1,hb.2,k1'⟩
  ·intro D H' hD e hD'
   have hD2:H' D=some (.lst ((ys.map λ _=>true).map V.bl)):=by rw [hD',filt,List.map_map];rfl
   have e2:((ys.map λ _=>true).all id)=true:=by rw [List.all_map];simp
   have k2:=k H' e
   clear k hD'
   ac_rfl
theorem getElem?_zs {zs:List (List Int)}{ys:List V}{H:Hp}(al:Al (TupV H) zs ys){i:Nat}{y:V}(h:ys[i]? = some y):∃ z,zs[i]? = some z/\TupV H z y:=by
 have hi:i < ys.length:=(List.getElem?_eq_some_iff.mp h).1
 have hz:zs[i]? = some (zs[i]'(by rw [←al.1];exact hi)):=List.getElem?_eq_getElem _
 exact ⟨_,hz,al.2 i _ y hz h⟩
def kBelow (x:V) (b:Int) (H:Hp) (Q:VK):Bool->Prop:=λ _=>Q (.bl (belowF x b)) H
theorem x_kBelow (x:V) (b:Int) (H:Hp) (Q:VK) (c:Bool):kBelow x b H Q c=Q (.bl (belowF x b)) H:=rfl
def spBelow  : Sp:=λ vs H Q E=>∃ (x:V) (b:Int),vs=[x,.int b]/\(optK (isW H x) (kBelow x b H Q))
theorem c_spBelow  (x:V) (b:Int) (H:Hp) (Q:VK) (E:XK):spBelow  [x,.int b] H Q E=(optK (isW H x) (kBelow x b H Q)):=spx2 (f:=λ (x:V) (b:Int)=>[x,.int b]) (λ _ _ _ _ h=>by cases h;exact ⟨rfl,rfl⟩) x b
theorem l_spBelow  {vs:List V}{H:Hp}{Q:VK}{E:XK}(h:spBelow  vs H Q E):vs.length=2:=spl2 h λ _ _=>rfl
theorem ok_is_number_below (T:Tx K mg t):FnOk P w K mg base CX0 2 t.a_is_number_below t.d_is_number_below ["thing", "bound"] spBelow:=by
 have G_is_whole:=ok_is_whole (P:=P) (w:=w) (base:=base) T
 refine T.F_is_number_below.ok c_is_number_below (λ vs H Q E h=>l_spBelow h) (λ cdv A outer s H vs Q E hr h=>?_)
 ·obtain ⟨x,b,rfl,h⟩:=h
  obtain ⟨c,hw,k⟩:=optK_ex h
  rw [x_kBelow] at k
  refine ⟨_,%[%[%[%[G_is_whole,(hr.mono (by decide)),∅,T.m_is_whole,T.F_is_whole.kp,T.b_is_whole,.nil,pass0,%[%[0|0],(@pa_nil _),∅|1],(by decide),∅,∅|5],(@pe_one _ _ _ _ _ (@pe_chainN _ _ _ _ _ _ _ _ _ _ _ _ on_le on_lt %[_|2] %[0|0] %[1|0] ∅))|26]|8]|4],?_⟩
  rw [show start ["thing", "bound"] [x,.int b]=[some (x),some (.int b)] from rfl]
  cases x with
  | int i=>
   cases hw
   have k':Q (.bl (decide (0<=i) && decide (i < b))) H:=k
   clear k h
   by_cases h0:0<=i
   ·rw [decide_eq_true h0,Bool.true_and] at k'
    simp! only [↓c_spWhole]
   ·rw [decide_eq_false h0,Bool.false_and] at k'
    simp! only [↓c_spWhole]
  | bl i=>cases hw;have k':Q (.bl false) H:=k;clear k h;simp! only [↓c_spWhole]
  | non=>cases hw;have k':Q (.bl false) H:=k;clear k h;simp! only [↓c_spWhole]
  | str i=>cases hw;have k':Q (.bl false) H:=k;clear k h;simp! only [↓c_spWhole]
  | ref p=>
   obtain ⟨rfl,o,ho,ht⟩:=isW_obj hw
   have k':Q (.bl false) H:=k
   clear k h
   simp! only [↓c_spWhole]
  | _=>cases hw
def kSpl (x:Int) (H:Hp) (Q:VK):List Int->Prop:=λ ns=>∀ (r:Addr) (H':Hp),H r=none->Ext H H'->H' r=some (.tup ((splitL ns x).map V.int))->Q (.ref r) H'
theorem x_kSpl (x:Int) (H:Hp) (Q:VK) (ns:List Int):kSpl x H Q ns=∀ (r:Addr) (H':Hp),H r=none->Ext H H'->H' r=some (.tup ((splitL ns x).map V.int))->Q (.ref r) H':=rfl
def spSplit  : Sp:=λ vs H Q E=>∃ (p:Addr) (x:Int),vs=[.ref p,.int x]/\(optK (lstAt H p) (kInts (kSz (kSpl x H Q))))
theorem c_spSplit  (p:Addr) (x:Int) (H:Hp) (Q:VK) (E:XK):spSplit  [.ref p,.int x] H Q E=(optK (lstAt H p) (kInts (kSz (kSpl x H Q)))):=spx2 (f:=λ (p:Addr) (x:Int)=>[.ref p,.int x]) (λ _ _ _ _ h=>by cases h;exact ⟨rfl,rfl⟩) p x
theorem l_spSplit  {vs:List V}{H:Hp}{Q:VK}{E:XK}(h:spSplit  vs H Q E):vs.length=2:=spl2 h λ _ _=>rfl
theorem ok_split_number (T:Tx K mg t):FnOk P w K mg base CX0 1 t.a_split_number t.d_split_number ["sizes", "number"] spSplit:=by
 refine T.F_split_number.ok c_split_number (λ vs H Q E h=>l_spSplit h) (λ cdv A outer s H vs Q E hr h=>?_)
 ·obtain ⟨p,x,rfl,h⟩:=h
  obtain ⟨xs,hp,ns,rfl,hs,k⟩:=optK_ex h
  replace hp:=lst_of hp
  rw [x_kSpl] at k
  refine ⟨_,%[%[(2),_,_,_,_,c_split_number.nd,rfl,(Or.inl rfl),%[(@pa_nil _)|15],∅,(by trivial)|7],%[%[(3),_,_,_,_,c_split_number.nd,rfl,(Or.inl rfl),%[1|0],∅,(by trivial)|7],%[%[PassesOwn.never,rfl,(@pi_rev _ _ _ _ _ _ ∅ T.z_reversed %[%[0|0],(@pa_nil _),∅|1] ∅),%[(4),_,c_split_number.nd,rfl,(Or.inl rfl),(by trivial)|9],%[%[%[PySem.F.plainAttrs_list,PySem.F.slot_list_append,PySem.F.type_list_append,mt_append,%[2|0],%[%[on_mod,%[3|0],%[4|0]|6],(@pa_nil _),∅|1],∅,∅,∅,∅,∅|27],∅|19],%[%[(3),_,_,_,_,c_split_number.nd,rfl,(Or.inl rfl),%[on_fdiv,%[3|0],%[4|0]|6],∅,(by trivial)|7]|4]|3],(by intros;rfl)|18],%[%[(@pe_bm0 _ _ _ _ _ _ _ _ _ PySem.F.plainAttrs_list PySem.F.slot_list_reverse PySem.F.type_list_reverse mt_reverse %[2|0] ∅ ∅),∅|19],%[%[(@pe_callTy _ _ _ _ _ _ _ _ _ call_nTuple ∅ T.z_tuple (by decide +kernel) %[%[2|0],(@pa_nil _),∅|1] (by decide) (by decide) ∅ ∅)|8]|4]|3]|3]|3]|3],?_⟩
  rw [show start ["sizes", "number", "place", "left", "size"] [.ref p,.int x]=[some (.ref p),some (.int x),none,none,none] from rfl]
  ac_rfl
  intro r H1 hr1 e1 h1
  have hrp:r ≠ p:=λ z=>by rw [z,hp] at hr1;cases hr1
  have hp1:=e1.at hp
  try ac_rfl
  refine for_rev (xs:=ns.map V.int) (λ i σ H'=>∃ v:Option V,σ=[some (.ref p),some (.int x),some (.ref r),some (.int (x / prodL (ns.drop (ns.length - i)))),v]/\Ext H H'/\H' r=some (.lst ((splitL (ns.drop (ns.length - i)) x).reverse.map V.int))) ⟨none,by simp [prodL],e1,by simpa [splitL] using h1⟩ (λ i σ H' _ ⟨_,_,e,_⟩=>SqL.of (e.at hp)) ?_ ?_
  ·rintro i y _ H2 hi hx ⟨v,rfl,e2,h2⟩
   rw [List.length_map] at hi hx
   rw [List.getElem?_map] at hx
   obtain ⟨z,hz,rfl⟩:=Option.map_eq_some_iff.mp hx
   have b1:=(hs.drop (ns.length - i)).prod
   have b2:=hs.2 z (List.mem_of_getElem? hz)
   have e:=left_step ns x i z hi hz (by omega)
   have e':=splitL_step ns x i z hi hz
   have hln:((splitL (ns.drop (ns.length - i)) x).reverse).length < sizeLine:=by
    rw [List.length_reverse,splitL_len]
    exact of_eq_true (lenLt _ (by have:=hs.1;simp;omega))
   have z0:0 < z:=by omega
   have z1:z < 1073741824:=by omega
   clear b1 b2
   simp! only [↓m_kBody]
   exact ⟨_,rfl,e2.put hr1,by rw [List.map_append];rfl⟩
  ·rintro _ H2 ⟨v,rfl,e2,h2⟩
   rw [List.length_map,Nat.sub_self,List.drop_zero] at h2
   ac_rfl
   intro q H3 hq e3 h3
   exact k q H3 ((e2.put hr1).free hq) ((e2.put hr1).trans e3) (by rw [h3,←List.map_reverse,List.reverse_reverse])
def spPlaceAt  : Sp:=λ vs H Q E=>∃ (p:Addr) (i:Int),vs=[.ref p,.int i]/\(∃ ns:List Int,H p=some (.lst (ns.map V.int))/\Sizes ns/\0<=i/\i < prodL ns/\kSpl i H Q ns)
theorem c_spPlaceAt  (p:Addr) (i:Int) (H:Hp) (Q:VK) (E:XK):spPlaceAt  [.ref p,.int i] H Q E=(∃ ns:List Int,H p=some (.lst (ns.map V.int))/\Sizes ns/\0<=i/\i < prodL ns/\kSpl i H Q ns):=spx2 (f:=λ (p:Addr) (i:Int)=>[.ref p,.int i]) (λ _ _ _ _ h=>by cases h;exact ⟨rfl,rfl⟩) p i
theorem l_spPlaceAt  {vs:List V}{H:Hp}{Q:VK}{E:XK}(h:spPlaceAt  vs H Q E):vs.length=2:=spl2 h λ _ _=>rfl
theorem ok_place_at (T:Tx K mg t):FnOk P w K mg base CX0 3 t.a_place_at t.d_place_at ["sizes", "number"] spPlaceAt:=by
 have G_count_of:=ok_count_of (P:=P) (w:=w) (base:=base) T
 have G_is_number_below:=ok_is_number_below (P:=P) (w:=w) (base:=base) T
 have G_split_number:=ok_split_number (P:=P) (w:=w) (base:=base) T
 refine T.F_place_at.ok c_place_at (λ vs H Q E h=>l_spPlaceAt h) (λ cdv A outer s H vs Q E hr h=>?_)
 ·obtain ⟨p,i,rfl,ns,hp,hs,i0,i1,k1⟩:=h
  have hbf:belowF (.int i) (prodL ns)=true:=by
   show (decide (0<=i) && decide (i < prodL ns))=true
   rw [decide_eq_true i0,decide_eq_true i1];rfl
  refine ⟨_,%[%[%[%[%[G_is_number_below,(hr.mono (by decide)),∅,T.m_is_number_below,T.F_is_number_below.kp,T.b_is_number_below,.nil,pass0,%[%[1|0],%[%[G_count_of,(hr.mono (by decide)),∅,T.m_count_of,T.F_count_of.kp,T.b_count_of,.nil,pass0,%[%[0|0],(@pa_nil _),∅|1],(by decide),∅,∅|5],(@pa_nil _),∅|1],∅|1],(by decide),∅,∅|5],(by intros;rfl)|17]|20],%[(@ps_never _ _)|4],(@pss_nil _)|14],%[%[%[G_split_number,(hr.mono (by decide)),∅,T.m_split_number,T.F_split_number.kp,T.b_split_number,.nil,pass0,%[%[0|0],%[%[1|0],(@pa_nil _),∅|1],∅|1],(by decide),∅,∅|5]|8]|4]|3],?_⟩
  rw [show start ["sizes", "number"] [.ref p,.int i]=[some (.ref p),some (.int i)] from rfl]
  simp! only [↓c_spCount,↓m_kSz,↓x_kCnt,↓c_spBelow,↓x_kBelow,↓c_spSplit]
def spLong (cT:Addr):Sp:=λ vs H Q E=>∃ (n:Int),vs=[.int n]/\((n<=4096->Q .non H)/\¬ 4096 < n)
theorem c_spLong (cT:Addr) (n:Int) (H:Hp) (Q:VK) (E:XK):spLong cT [.int n] H Q E=((n<=4096->Q .non H)/\¬ 4096 < n):=spx1 (f:=λ (n:Int)=>[.int n]) (λ _ _ h=>by cases h;exact rfl) n
theorem l_spLong (cT:Addr){vs:List V}{H:Hp}{Q:VK}{E:XK}(h:spLong cT vs H Q E):vs.length=1:=spl1 h λ _=>rfl
theorem ok_refuse_long (T:Tx K mg t):FnOk P w K mg base CX0 3 t.a_refuse_long t.d_refuse_long ["count"] (spLong t.a_TooMany):=by
 refine T.F_refuse_long.ok c_refuse_long (λ vs H Q E h=>l_spLong _ h) (λ cdv A outer s H vs Q E hr h=>?_)
 ·obtain ⟨n,rfl,k1,hn⟩:=h
  refine ⟨_,%[%[%[on_gt,%[0|0],(@pe_glob _ _ (.int 4096) _ _ ∅ T.m_MOST_TOLD.choose_spec ⟨_,rfl⟩ (by decide)),(nomark _)|13],%[(@ps_never _ _)|4],(@pss_nil _)|14]|4],?_⟩
  rw [show start ["count"] [.int n]=[some (.int n)] from rfl]
  have k1':=k1 (by omega)
  clear k1
  ac_rfl
theorem min0 (x:Int):min 0 x=if x < 0 then x else 0:=by split<;>omega
theorem max0 (x:Int):max 0 x=if 0 < x then x else 0:=by split<;>omega
structure ViewAt (C:Addr) (H:Hp) (v:Addr) (room first:Int) (axs:List (Int × Int)):Prop where
 ob:∃ dx l,H v=some (.ins C dx (viewF room first l))/\TupsAt H l (axL axs)
theorem ViewAt.ext {C:Addr}{H H':Hp}{v:Addr}{room first:Int}{axs:List (Int × Int)}(h:ViewAt C H v room first axs) (e:Ext H H'):ViewAt C H' v room first axs:=by
 obtain ⟨dx,l,h1,h2⟩:=h.ob
 exact ⟨⟨dx,l,e.at h1,h2.ext e⟩⟩
theorem ne_no {m:Str}(h:m∈([("sizes":Str), "paces", "count", "cell", "cell_at", "cells", "least", "greatest"]:List Str)):¬ m = "axes" /\ ¬ m = "first" /\ ¬ m = "room":=by
 revert m
 decide +kernel
theorem vn (room first:Int) (l:Addr){m:Str}(h:m∈([("sizes":Str), "paces", "count", "cell", "cell_at", "cells", "least", "greatest"]:List Str)):(viewF room first l).lookup m=none:=viewF_no room first l (ne_no h).1 (ne_no h).2.1 (ne_no h).2.2
theorem al_ax {H:Hp}{axs:List (Int × Int)}{ys:List V}(al:Al (TupV H) (axL axs) ys){i:Nat}{y:V}(h:ys[i]? = some y):∃ a q,axs[i]? = some a/\y=.ref q/\H q=some (.tup [.int a.1,.int a.2]):=by
 obtain ⟨z,hz,q,hq,hq2⟩:=getElem?_zs al h
 unfold axL at hz
 rw [List.getElem?_map] at hz
 obtain ⟨a,ha,rfl⟩:=Option.map_eq_some_iff.mp hz
 exact ⟨a,q,ha,hq,hq2⟩
def spLeast (C:Addr):Sp:=λ vs H Q E=>∃ (v:Addr),vs=[.ref v]/\(∃ (room first:Int) (axs:List (Int × Int)),ViewAt C H v room first axs/\Axes axs/\∀ H',Ext H H'->Q (.int (first+leastL axs)) H')
theorem c_spLeast (C:Addr) (v:Addr) (H:Hp) (Q:VK) (E:XK):spLeast C [.ref v] H Q E=(∃ (room first:Int) (axs:List (Int × Int)),ViewAt C H v room first axs/\Axes axs/\∀ H',Ext H H'->Q (.int (first+leastL axs)) H'):=spx1 (f:=λ (v:Addr)=>[.ref v]) (λ _ _ h=>by cases h;exact rfl) v
theorem l_spLeast (C:Addr){vs:List V}{H:Hp}{Q:VK}{E:XK}(h:spLeast C vs H Q E):vs.length=1:=spl1 h λ _=>rfl
theorem ok_View_least (T:Tx K mg t):FnOk P w K mg base CX0 1 t.a_View_least t.d_View_least ["self"] (spLeast t.a_View):=by
 refine T.F_View_least.ok c_View_least (λ vs H Q E h=>l_spLeast _ h) (λ cdv A outer s H vs Q E hr h=>?_)
 ·obtain ⟨v,rfl,room,first,axs,vo,hax,k⟩:=h
  obtain ⟨dx,l,hv,ys,hl,al⟩:=vo.ob
  have c1:=T.cl_View
  have c2:=T.na_View_first
  have c3:=T.na_View_axes
  have f1:=viewF_first room first l
  have f2:=viewF_axes room first l
  refine ⟨_,%[%[%[on_add,%[%[0|0],rfl|25],%[("sum"),_,(call_qSum rfl),∅,T.z_sum,(by decide +kernel),%[%[(["size", "pace", "self"]),(2),(comp_ok (defScope s_View_least) ["self"] rfl rfl (by decide +kernel)),rfl,%[%[%[0|0],rfl|25]|16],(λ C s₀ H₀ ex pn=>(%[(2),rfl,%[%[(0),_,(show List.Nodup (["size", "pace", "self"]:List Str) from by decide +kernel),rfl,(Or.inl rfl),(by trivial)|9],%[%[(1),_,(show List.Nodup (["size", "pace", "self"]:List Str) from by decide +kernel),rfl,(Or.inl rfl),(by trivial)|9],(@pgs_nilN _),∅|12],∅|12],∅,∅|24].mono λ _ _ _ _ h=>gTup_q h)),(λ C s₀ H₀ ex pn=>(@pts_nil _)),(λ C s₀ H₀ ex pn=>%[("min"),_,(call_qMin rfl),∅,T.z_min,(by decide +kernel),%[%[_|2],%[%[on_mul,%[on_sub,%[0|0],%[_|2]|6],%[1|0]|6],(@pa_nil _),∅|1],∅|1],(by decide),(by decide),∅,∅|11]),(by intros;rfl)|21],(@pa_nil _),∅|1],(by decide),(by decide),∅,∅|11]|6]|8]|4],?_⟩
  rw [show start ["self"] [.ref v]=[some (.ref v)] from rfl]
  ac_rfl
  have wk:=wk_al (K:=K) (R:=axP) (λ _ _ _ _ h e=>h.ext e) hl (al_axP al)
  refine comp_fm axs (λ _=>true) (λ a=>.int (min 0 ((a.1 - 1) * a.2))) axP wk.1 wk.2 (len5000 (by have:=hax.1;omega)) ?_ ?_
  ·intro D a x H' N1 N0 ha hD e ⟨q,hx,hq⟩ k1 _
   subst hx
   have hb:=hax.2 a ha
   have k1':=k1 rfl H' (Ext.refl _)
   have hcm:CMul (a.1 - 1) a.2:=.inl ⟨by omega,by omega⟩
   rw [min0] at k1'
   clear k1 k
   simp! only [↓m_kCm_2,↓m_kCm2]
  ·intro D H' hD e hD'
   have hD2:H' D=some (.lst ((axs.map λ a=>min 0 ((a.1 - 1) * a.2)).map V.int)):=by rw [hD',filt,List.map_map];rfl
   have k2:Q (.int (first+(axs.map λ a=>min 0 ((a.1 - 1) * a.2)).sum)) H':=k H' e
   clear k hD'
   ac_rfl
def spGreatest (C:Addr):Sp:=λ vs H Q E=>∃ (v:Addr),vs=[.ref v]/\(∃ (room first:Int) (axs:List (Int × Int)),ViewAt C H v room first axs/\Axes axs/\∀ H',Ext H H'->Q (.int (first+greatL axs)) H')
theorem c_spGreatest (C:Addr) (v:Addr) (H:Hp) (Q:VK) (E:XK):spGreatest C [.ref v] H Q E=(∃ (room first:Int) (axs:List (Int × Int)),ViewAt C H v room first axs/\Axes axs/\∀ H',Ext H H'->Q (.int (first+greatL axs)) H'):=spx1 (f:=λ (v:Addr)=>[.ref v]) (λ _ _ h=>by cases h;exact rfl) v
theorem l_spGreatest (C:Addr){vs:List V}{H:Hp}{Q:VK}{E:XK}(h:spGreatest C vs H Q E):vs.length=1:=spl1 h λ _=>rfl
theorem ok_View_greatest (T:Tx K mg t):FnOk P w K mg base CX0 1 t.a_View_greatest t.d_View_greatest ["self"] (spGreatest t.a_View):=by
 refine T.F_View_greatest.ok c_View_greatest (λ vs H Q E h=>l_spGreatest _ h) (λ cdv A outer s H vs Q E hr h=>?_)
 ·obtain ⟨v,rfl,room,first,axs,vo,hax,k⟩:=h
  obtain ⟨dx,l,hv,ys,hl,al⟩:=vo.ob
  have c1:=T.cl_View
  have c2:=T.na_View_first
  have c3:=T.na_View_axes
  have f1:=viewF_first room first l
  have f2:=viewF_axes room first l
  refine ⟨_,%[%[%[on_add,%[%[0|0],rfl|25],%[("sum"),_,(call_qSum rfl),∅,T.z_sum,(by decide +kernel),%[%[(["size", "pace", "self"]),(2),(comp_ok (defScope s_View_greatest) ["self"] rfl rfl (by decide +kernel)),rfl,%[%[%[0|0],rfl|25]|16],(λ C s₀ H₀ ex pn=>(%[(2),rfl,%[%[(0),_,(show List.Nodup (["size", "pace", "self"]:List Str) from by decide +kernel),rfl,(Or.inl rfl),(by trivial)|9],%[%[(1),_,(show List.Nodup (["size", "pace", "self"]:List Str) from by decide +kernel),rfl,(Or.inl rfl),(by trivial)|9],(@pgs_nilN _),∅|12],∅|12],∅,∅|24].mono λ _ _ _ _ h=>gTup_q h)),(λ C s₀ H₀ ex pn=>(@pts_nil _)),(λ C s₀ H₀ ex pn=>%[("max"),_,(call_qMax rfl),∅,T.z_max,(by decide +kernel),%[%[_|2],%[%[on_mul,%[on_sub,%[0|0],%[_|2]|6],%[1|0]|6],(@pa_nil _),∅|1],∅|1],(by decide),(by decide),∅,∅|11]),(by intros;rfl)|21],(@pa_nil _),∅|1],(by decide),(by decide),∅,∅|11]|6]|8]|4],?_⟩
  rw [show start ["self"] [.ref v]=[some (.ref v)] from rfl]
  ac_rfl
  have wk:=wk_al (K:=K) (R:=axP) (λ _ _ _ _ h e=>h.ext e) hl (al_axP al)
  refine comp_fm axs (λ _=>true) (λ a=>.int (max 0 ((a.1 - 1) * a.2))) axP wk.1 wk.2 (len5000 (by have:=hax.1;omega)) ?_ ?_
  ·intro D a x H' N1 N0 ha hD e ⟨q,hx,hq⟩ k1 _
   subst hx
   have hb:=hax.2 a ha
   have k1':=k1 rfl H' (Ext.refl _)
   have hcm:CMul (a.1 - 1) a.2:=.inl ⟨by omega,by omega⟩
   rw [max0] at k1'
   clear k1 k
   simp! only [↓m_kCm_2,↓m_kCm2]
  ·intro D H' hD e hD'
   have hD2:H' D=some (.lst ((axs.map λ a=>max 0 ((a.1 - 1) * a.2)).map V.int)):=by rw [hD',filt,List.map_map];rfl
   have k2:Q (.int (first+(axs.map λ a=>max 0 ((a.1 - 1) * a.2)).sum)) H':=k H' e
   clear k hD'
   ac_rfl
def kSzs (H:Hp) (Q:VK) (f:Int × Int->Int) (axs:List (Int × Int)):Prop:=∀ (r:Addr) (H':Hp),H r=none->Ext H H'->H' r=some (.lst ((axs.map f).map V.int))->Q (.ref r) H'
def spVSizes (C:Addr):Sp:=λ vs H Q E=>∃ (v:Addr),vs=[.ref v]/\(∃ (room first:Int) (axs:List (Int × Int)),ViewAt C H v room first axs/\axs.length<=8/\kSzs H Q (λ a=>a.1) axs)
theorem c_spVSizes (C:Addr) (v:Addr) (H:Hp) (Q:VK) (E:XK):spVSizes C [.ref v] H Q E=(∃ (room first:Int) (axs:List (Int × Int)),ViewAt C H v room first axs/\axs.length<=8/\kSzs H Q (λ a=>a.1) axs):=spx1 (f:=λ (v:Addr)=>[.ref v]) (λ _ _ h=>by cases h;exact rfl) v
theorem l_spVSizes (C:Addr){vs:List V}{H:Hp}{Q:VK}{E:XK}(h:spVSizes C vs H Q E):vs.length=1:=spl1 h λ _=>rfl
theorem ok_View_sizes (T:Tx K mg t):FnOk P w K mg base CX0 1 t.a_View_sizes t.d_View_sizes ["self"] (spVSizes t.a_View):=by
 refine T.F_View_sizes.ok c_View_sizes (λ vs H Q E h=>l_spVSizes _ h) (λ cdv A outer s H vs Q E hr h=>?_)
 ·obtain ⟨v,rfl,room,first,axs,vo,hax,k⟩:=h
  obtain ⟨dx,l,hv,ys,hl,al⟩:=vo.ob
  have c1:=T.cl_View
  have c3:=T.na_View_axes
  have f2:=viewF_axes room first l
  refine ⟨_,%[%[%[(["size", "pace", "self"]),(2),(comp_ok (defScope s_View_sizes) ["self"] rfl rfl (by decide +kernel)),rfl,%[%[%[0|0],rfl|25]|16],(λ C s₀ H₀ ex pn=>(%[(2),rfl,%[%[(0),_,(show List.Nodup (["size", "pace", "self"]:List Str) from by decide +kernel),rfl,(Or.inl rfl),(by trivial)|9],%[%[(1),_,(show List.Nodup (["size", "pace", "self"]:List Str) from by decide +kernel),rfl,(Or.inl rfl),(by trivial)|9],(@pgs_nilN _),∅|12],∅|12],∅,∅|24].mono λ _ _ _ _ h=>gTup_q h)),(λ C s₀ H₀ ex pn=>(@pts_nil _)),(λ C s₀ H₀ ex pn=>%[0|0]),(by intros;rfl)|21]|8]|4],?_⟩
  rw [show start ["self"] [.ref v]=[some (.ref v)] from rfl]
  ac_rfl
  have wk:=wk_al (K:=K) (R:=axP) (λ _ _ _ _ h e=>h.ext e) hl (al_axP al)
  refine comp_fm axs (λ _=>true) (λ a=>.int a.1) axP wk.1 wk.2 (len5000 (by omega)) ?_ ?_
  ·intro D a x H' N1 N0 ha hD e ⟨q,hx,hq⟩ k1 _
   subst hx
   have k1':=k1 rfl H' (Ext.refl _)
   clear k1 k
   simp! only [↓m_kCm_2,↓m_kCm2]
  ·intro D H' hD e hD'
   exact k D H' hD e (by rw [hD',filt,List.map_map];rfl)
def spVPaces (C:Addr):Sp:=λ vs H Q E=>∃ (v:Addr),vs=[.ref v]/\(∃ (room first:Int) (axs:List (Int × Int)),ViewAt C H v room first axs/\axs.length<=8/\kSzs H Q (λ a=>a.2) axs)
theorem c_spVPaces (C:Addr) (v:Addr) (H:Hp) (Q:VK) (E:XK):spVPaces C [.ref v] H Q E=(∃ (room first:Int) (axs:List (Int × Int)),ViewAt C H v room first axs/\axs.length<=8/\kSzs H Q (λ a=>a.2) axs):=spx1 (f:=λ (v:Addr)=>[.ref v]) (λ _ _ h=>by cases h;exact rfl) v
theorem l_spVPaces (C:Addr){vs:List V}{H:Hp}{Q:VK}{E:XK}(h:spVPaces C vs H Q E):vs.length=1:=spl1 h λ _=>rfl
theorem ok_View_paces (T:Tx K mg t):FnOk P w K mg base CX0 1 t.a_View_paces t.d_View_paces ["self"] (spVPaces t.a_View):=by
 refine T.F_View_paces.ok c_View_paces (λ vs H Q E h=>l_spVPaces _ h) (λ cdv A outer s H vs Q E hr h=>?_)
 ·obtain ⟨v,rfl,room,first,axs,vo,hax,k⟩:=h
  obtain ⟨dx,l,hv,ys,hl,al⟩:=vo.ob
  have c1:=T.cl_View
  have c3:=T.na_View_axes
  have f2:=viewF_axes room first l
  refine ⟨_,%[%[%[(["size", "pace", "self"]),(2),(comp_ok (defScope s_View_paces) ["self"] rfl rfl (by decide +kernel)),rfl,%[%[%[0|0],rfl|25]|16],(λ C s₀ H₀ ex pn=>(%[(2),rfl,%[%[(0),_,(show List.Nodup (["size", "pace", "self"]:List Str) from by decide +kernel),rfl,(Or.inl rfl),(by trivial)|9],%[%[(1),_,(show List.Nodup (["size", "pace", "self"]:List Str) from by decide +kernel),rfl,(Or.inl rfl),(by trivial)|9],(@pgs_nilN _),∅|12],∅|12],∅,∅|24].mono λ _ _ _ _ h=>gTup_q h)),(λ C s₀ H₀ ex pn=>(@pts_nil _)),(λ C s₀ H₀ ex pn=>%[1|0]),(by intros;rfl)|21]|8]|4],?_⟩
  rw [show start ["self"] [.ref v]=[some (.ref v)] from rfl]
  ac_rfl
  have wk:=wk_al (K:=K) (R:=axP) (λ _ _ _ _ h e=>h.ext e) hl (al_axP al)
  refine comp_fm axs (λ _=>true) (λ a=>.int a.2) axP wk.1 wk.2 (len5000 (by omega)) ?_ ?_
  ·intro D a x H' N1 N0 ha hD e ⟨q,hx,hq⟩ k1 _
   subst hx
   have k1':=k1 rfl H' (Ext.refl _)
   clear k1 k
   simp! only [↓m_kCm_2,↓m_kCm2]
  ·intro D H' hD e hD'
   exact k D H' hD e (by rw [hD',filt,List.map_map];rfl)
def spVCount (C:Addr):Sp:=λ vs H Q E=>∃ (v:Addr),vs=[.ref v]/\(∃ (room first:Int) (axs:List (Int × Int)),ViewAt C H v room first axs/\Axes axs/\∀ H',Ext H H'->Q (.int (prodL (axs.map λ a=>a.1))) H')
theorem c_spVCount (C:Addr) (v:Addr) (H:Hp) (Q:VK) (E:XK):spVCount C [.ref v] H Q E=(∃ (room first:Int) (axs:List (Int × Int)),ViewAt C H v room first axs/\Axes axs/\∀ H',Ext H H'->Q (.int (prodL (axs.map λ a=>a.1))) H'):=spx1 (f:=λ (v:Addr)=>[.ref v]) (λ _ _ h=>by cases h;exact rfl) v
theorem l_spVCount (C:Addr){vs:List V}{H:Hp}{Q:VK}{E:XK}(h:spVCount C vs H Q E):vs.length=1:=spl1 h λ _=>rfl
theorem ok_View_count (T:Tx K mg t):FnOk P w K mg base CX0 2 t.a_View_count t.d_View_count ["self"] (spVCount t.a_View):=by
 have G_View_sizes:=ok_View_sizes (P:=P) (w:=w) (base:=base) T
 have G_count_of:=ok_count_of (P:=P) (w:=w) (base:=base) T
 refine T.F_View_count.ok c_View_count (λ vs H Q E h=>l_spVCount _ h) (λ cdv A outer s H vs Q E hr h=>?_)
 ·obtain ⟨v,rfl,room,first,axs,vo,hax,k⟩:=h
  obtain ⟨dx,l,hv,_⟩:=vo.ob
  have f3:=vn room first l (m := "sizes") (by decide +kernel)
  refine ⟨_,%[%[%[G_count_of,(hr.mono (by decide)),∅,T.m_count_of,T.F_count_of.kp,T.b_count_of,.nil,pass0,%[%[%[0|0],T.cl_View,T.mt_View_sizes,G_View_sizes,(hr.mono (by decide)),T.b_View_sizes,.nil,pass0,∅|22],(@pa_nil _),∅|1],(by decide),∅,∅|5]|8]|4],?_⟩
  rw [show start ["self"] [.ref v]=[some (.ref v)] from rfl]
  ac_rfl
  rw [c_spVSizes]
  refine ⟨room,first,axs,vo,hax.1,λ r H' hr' e h'=>?_⟩
  have k':=k H' e
  have hsz:=hax.sizes
  clear k
  simp! only [↓c_spCount,↓m_kSz,↓x_kCnt]
def spVInit (C:Addr):Sp:=λ vs H Q E=>∃ (x:Addr) (room:Int) (first:Int) (l:Addr),vs=[.ref x,.int room,.int first,.ref l]/\(∃ (dx:Addr) (axs:List (Int × Int)),H x=some (.ins C dx [])/\TupsAt H l (axL axs)/\ViewOk room first axs/\∀ (H':Hp) (D:Addr),(∀ H0,Ext H0 H->H0 x=none->Ext H0 H')->H D=none->H' x=some (.ins C dx (viewF room first D))->TupsAt H' D (axL (axs.map keptA))->Q .non H')
theorem c_spVInit (C:Addr) (x:Addr) (room:Int) (first:Int) (l:Addr) (H:Hp) (Q:VK) (E:XK):spVInit C [.ref x,.int room,.int first,.ref l] H Q E=(∃ (dx:Addr) (axs:List (Int × Int)),H x=some (.ins C dx [])/\TupsAt H l (axL axs)/\ViewOk room first axs/\∀ (H':Hp) (D:Addr),(∀ H0,Ext H0 H->H0 x=none->Ext H0 H')->H D=none->H' x=some (.ins C dx (viewF room first D))->TupsAt H' D (axL (axs.map keptA))->Q .non H'):=spx4 (f:=λ (x:Addr) (room:Int) (first:Int) (l:Addr)=>[.ref x,.int room,.int first,.ref l]) (λ _ _ _ _ _ _ _ _ h=>by cases h;exact ⟨rfl,rfl,rfl,rfl⟩) x room first l
theorem l_spVInit (C:Addr){vs:List V}{H:Hp}{Q:VK}{E:XK}(h:spVInit C vs H Q E):vs.length=4:=spl4 h λ _ _ _ _=>rfl
theorem ok_View___init__ (T:Tx K mg t):FnOk P w K mg base CX0 6 t.a_View___init__ t.d_View___init__ ["self", "room", "first", "axes"] (spVInit t.a_View):=by
 have G_is_within:=ok_is_within (P:=P) (w:=w) (base:=base) T
 have G_is_whole:=ok_is_whole (P:=P) (w:=w) (base:=base) T
 have G_are_axes:=ok_are_axes (P:=P) (w:=w) (base:=base) T
 have G_kept_axis:=ok_kept_axis (P:=P) (w:=w) (base:=base) T
 have G_View_least:=ok_View_least (P:=P) (w:=w) (base:=base) T
 have G_View_greatest:=ok_View_greatest (P:=P) (w:=w) (base:=base) T
 refine T.F_View___init__.ok c_View___init__ (λ vs H Q E h=>l_spVInit _ h) (λ cdv A outer s H vs Q E hr h=>?_)
 ·obtain ⟨x,room,first,l,rfl,dx,axs,hx,tl,vok,k⟩:=h
  have c1:=T.cl_View
  have c2:=T.na_View_first
  have c3:=T.na_View_axes
  have c4:=T.na_View_room
  refine ⟨_,%[%[(PW.pt %[%[%[%[G_is_within,(hr.mono (by decide)),∅,T.m_is_within,T.F_is_within.kp,T.b_is_within,.nil,pass0,%[%[1|0],%[%[_|2],%[(@pe_glob _ _ (.int 1000000000000000000) _ _ ∅ T.m_MOST_ROOM.choose_spec ⟨_,rfl⟩ (by decide)),(@pa_nil _),∅|1],∅|1],∅|1],(by decide),∅,∅|5],(by intros;rfl)|17]|20],%[%[%[%[G_is_whole,(hr.mono (by decide)),∅,T.m_is_whole,T.F_is_whole.kp,T.b_is_whole,.nil,pass0,%[%[2|0],(@pa_nil _),∅|1],(by decide),∅,∅|5],(by intros;rfl)|17]|20],(@pw_or1 _ _ _ _ %[%[%[G_are_axes,(hr.mono (by decide)),∅,T.m_are_axes,T.F_are_axes.kp,T.b_are_axes,.nil,pass0,%[%[3|0],(@pa_nil _),∅|1],(by decide),∅,∅|5],(by intros;rfl)|17]|20])|28]|28]),%[(@ps_never _ _)|4],(@pss_nil _)|14],%[(@ps_nSetF _ _ _ _ _ _ _ _ %[0|0] %[1|0] rfl),%[(@ps_nSetF _ _ _ _ _ _ _ _ %[0|0] %[2|0] rfl),%[(@ps_nSetF _ _ _ _ _ _ _ _ %[0|0] %[(["axis", "self", "room", "first", "axes"]),(1),(comp_ok (defScope s_View___init__) ["self", "room", "first", "axes"] rfl rfl (by decide +kernel)),rfl,%[%[3|0]|16],(λ C s₀ H₀ ex pn=>%[(0),_,(show List.Nodup (["axis", "self", "room", "first", "axes"]:List Str) from by decide +kernel),rfl,(Or.inl rfl),(by trivial)|9]),(λ C s₀ H₀ ex pn=>(@pts_nil _)),(λ C s₀ H₀ ex pn=>%[G_kept_axis,(hr.mono (by decide)),∅,T.m_kept_axis,T.F_kept_axis.kp,T.b_kept_axis,.nil,pass0,%[%[0|0],(@pa_nil _),∅|1],(by decide),∅,∅|5]),(by intros;rfl)|21] rfl),%[%[(PW.pt %[%[on_lt,%[%[0|0],T.cl_View,T.mt_View_least,G_View_least,(hr.mono (by decide)),T.b_View_least,.nil,pass0,∅|22],%[_|2],(nomark _)|13],(@pw_or1 _ _ _ _ %[on_ge,%[%[0|0],T.cl_View,T.mt_View_greatest,G_View_greatest,(hr.mono (by decide)),T.b_View_greatest,.nil,pass0,∅|22],%[1|0],(nomark _)|13])|28]),%[(@ps_never _ _)|4],(@pss_nil _)|14]|4]|3]|3]|3]|3],?_⟩
  rw [show start ["self", "room", "first", "axes"] [.ref x,.int room,.int first,.ref l]=[some (.ref x),some (.int room),some (.int first),some (.ref l)] from rfl]
  have r1:=vok.r1
  have r2:=vok.r2
  simp! only [↓c_spWithin,↓c_spWhole]
  rw [c_spAxes]
  refine ⟨axs,tl,vok.ax,λ H1 e1=>?_⟩
  have hx1:=e1.at hx
  have tl1:=tl.ext e1
  clear hx tl
  ac_rfl
  refine ⟨(show (1:Nat) < 1000 by decide),?_⟩
  obtain ⟨ys,hl1,al1⟩:=tl1
  have hlx:l ≠ x:=λ z=>by rw [z,hx1] at hl1;cases hl1
  have hx2:(upd H1 x (HO.ins t.a_View dx (putF "first" (V.int first) (putF "room" (V.int room) [])))) x=some (HO.ins t.a_View dx (putF "first" (V.int first) (putF "room" (V.int room) []))):=upd_same
  have hl2:(upd H1 x (HO.ins t.a_View dx (putF "first" (V.int first) (putF "room" (V.int room) [])))) l=some (.lst ys):=by rw [upd_ne hlx];exact hl1
  have al2:Al (λ a y=>axP a y (upd H1 x (HO.ins t.a_View dx (putF "first" (V.int first) (putF "room" (V.int room) []))))) axs ys:=(al_axP al1).imp λ a y ⟨q,hy,hq⟩=>⟨q,hy,by rw [upd_ne (λ z=>by rw [z,hx1] at hq;cases hq)];exact hq⟩
  have b2:∀ H0,Ext H0 H->H0 x=none->Ext H0 (upd H1 x (HO.ins t.a_View dx (putF "first" (V.int first) (putF "room" (V.int room) [])))):=λ H0 q0 q1=>(q0.trans e1).put q1
  have b3:∀ b,b ≠ x->(upd H1 x (HO.ins t.a_View dx (putF "first" (V.int first) (putF "room" (V.int room) [])))) b=none->H b=none:=λ b hb q=>by rw [upd_ne hb] at q;exact e1.free q
  generalize upd H1 x (HO.ins t.a_View dx (putF "first" (V.int first) (putF "room" (V.int room) [])))=H2 at hx2 hl2 al2 b2 b3
  clear hl1 al1 hx1
  ac_rfl
  have wk:=wk_al (K:=K) (R:=axP) (λ _ _ _ _ h e=>h.ext e) hl2 al2
  refine comp_rel axs (λ _=>true) axP (λ D a y H'=>∃ q,y=.ref q/\q ≠ D/\H' q=some (.tup [.int (keptA a).1,.int (keptA a).2])) wk.1 wk.2 (λ D _ y H1 H2 ⟨q,h1,h2,h3⟩ e=>⟨q,h1,h2,e.at h3⟩) (λ D _ y H1 o ⟨q,h1,h2,h3⟩=>⟨q,h1,h2,by rw [upd_ne h2];exact h3⟩) (len5000 (by have:=vok.ax.1;omega)) ?_ ?_
  ·intro D a y H' N1 N0 ha hD e ⟨ys0,hys0⟩ ⟨q,hy,hq⟩ k1 _
   subst hy
   have k1':=k1 rfl
   clear k1 k
   simp! only [↓m_kCm_1,↓m_kCm2]
   rw [c_spKept]
   exact ⟨a,hq,λ r H'' hr' e' h'=>k1' _ H'' e' ⟨r,rfl,(λ z=>by rw [z,hys0] at hr';cases hr'),h'⟩⟩
  ·intro D zs H3 hD e3 hD3 al3
   rw [filt] at al3
   have hx3:=e3.at hx2
   have hDx:D ≠ x:=λ z=>by rw [z,hx2] at hD;cases hD
   clear wk
   ac_rfl
   refine ⟨(show (2:Nat) < 1000 by decide),?_⟩
   have tt:TupsAt (upd H3 x (HO.ins t.a_View dx (viewF room first D))) D (axL (axs.map keptA)):=by
    refine ⟨zs,by rw [upd_ne hDx];exact hD3,?_,λ i z y hz hy=>?_⟩
    ·rw [al3.1];unfold axL;rw [List.length_map,List.length_map]
    ·unfold axL at hz
     rw [List.map_map,List.getElem?_map] at hz
     obtain ⟨a,ha,rfl⟩:=Option.map_eq_some_iff.mp hz
     obtain ⟨q,hq1,_,hq3⟩:=al3.2 i a y ha hy
     exact ⟨q,hq1,by rw [upd_ne (λ z=>by rw [z,hx3] at hq3;cases hq3)];exact hq3⟩
   have b4:∀ H0,Ext H0 H->H0 x=none->Ext H0 (upd H3 x (HO.ins t.a_View dx (viewF room first D))):=λ H0 q0 q1=>((b2 H0 q0 q1).trans e3).put q1
   have hx4:(upd H3 x (HO.ins t.a_View dx (viewF room first D))) x=some (HO.ins t.a_View dx (viewF room first D)):=upd_same
   have f1:=vn room first D (m := "least") (by decide +kernel)
   have f2:=vn room first D (m := "greatest") (by decide +kernel)
   refine ⟨f1,?_⟩
   show spLeast t.a_View [V.ref x] (upd H3 x (HO.ins t.a_View dx (viewF room first D))) _ _
   generalize upd H3 x (HO.ins t.a_View dx (viewF room first D))=H4 at tt b4 hx4
   have vo:ViewAt t.a_View H4 x room first (axs.map keptA):=⟨dx,D,hx4,tt⟩
   rw [c_spLeast]
   refine ⟨room,first,axs.map keptA,vo,vok.ax.kept,λ H5 e5=>?_⟩
   have hlo:¬ first+leastL (axs.map keptA) < 0:=by have:=vok.lo;omega
   have hx5:=e5.at hx4
   ac_rfl
   rw [c_spGreatest]
   refine ⟨room,first,axs.map keptA,vo.ext e5,vok.ax.kept,λ H6 e6=>?_⟩
   have hhi:¬ room<=first+greatL (axs.map keptA):=by have:=vok.hi;omega
   have k':=k H6 D (λ H0 q0 q1=>((b4 H0 q0 q1).trans e5).trans e6) (b3 D hDx hD) (e6.at hx5) ((tt.ext e5).ext e6)
   clear k
   ac_rfl
theorem wideL_take (cs:List Int) (a:Int × Int) (i:Nat) (c:Int) (h:cs[i]? = some c):wideL (cs.take (i+1)) a=wideL (cs.take i) a++(List.range a.1.toNat).map λ (n:Nat)=>c+(n:Int) * a.2:=by
 unfold wideL
 rw [List.take_add_one,h,List.flatMap_append]
 simp
theorem take_len_le {α:Type}(xs:List α) (i:Nat):(xs.take i).length<=xs.length:=by rw [List.length_take];omega
def spWidened  : Sp:=λ vs H Q E=>∃ (p:Addr) (z:Int) (pc:Int),vs=[.ref p,.int z,.int pc]/\(∃ cs:List Int,H p=some (.lst (cs.map V.int))/\1<=z/\cs.length * z.toNat<=4096/\z<=1000000000/\∀ (r:Addr) (H':Hp),H r=none->Ext H H'->H' r=some (.lst ((wideL cs (z,pc)).map V.int))->Q (.ref r) H')
theorem c_spWidened  (p:Addr) (z:Int) (pc:Int) (H:Hp) (Q:VK) (E:XK):spWidened  [.ref p,.int z,.int pc] H Q E=(∃ cs:List Int,H p=some (.lst (cs.map V.int))/\1<=z/\cs.length * z.toNat<=4096/\z<=1000000000/\∀ (r:Addr) (H':Hp),H r=none->Ext H H'->H' r=some (.lst ((wideL cs (z,pc)).map V.int))->Q (.ref r) H'):=spx3 (f:=λ (p:Addr) (z:Int) (pc:Int)=>[.ref p,.int z,.int pc]) (λ _ _ _ _ _ _ h=>by cases h;exact ⟨rfl,rfl,rfl⟩) p z pc
theorem l_spWidened  {vs:List V}{H:Hp}{Q:VK}{E:XK}(h:spWidened  vs H Q E):vs.length=3:=spl3 h λ _ _ _=>rfl
theorem ok_widened (T:Tx K mg t):FnOk P w K mg base CX0 1 t.a_widened t.d_widened ["cells", "size", "pace"] spWidened:=by
 refine T.F_widened.ok c_widened (λ vs H Q E h=>l_spWidened h) (λ cdv A outer s H vs Q E hr h=>?_)
 ·obtain ⟨p,z,pc,rfl,cs,hp,hz,hln,hz2,k⟩:=h
  refine ⟨_,%[%[(3),_,_,_,_,c_widened.nd,rfl,(Or.inl rfl),%[(@pa_nil _)|15],∅,(by trivial)|7],%[%[PassesOwn.never,rfl,%[%[0|0]|16],%[(4),_,c_widened.nd,rfl,(Or.inr rfl),(by trivial)|9],%[%[%[PySem.F.plainAttrs_list,PySem.F.slot_list_extend,PySem.F.type_list_extend,mt_extend,%[3|0],%[%[(["number", "cells", "size", "pace", "found", "cell"]),(1),(comp_ok (defScope s_widened) ["cells", "size", "pace", "found", "cell"] rfl rfl (by decide +kernel)),rfl,%[∅,T.z_range,%[%[1|0],(@pa_nil _),∅|1],∅|30],(λ C s₀ H₀ ex pn=>%[(0),_,(show List.Nodup (["number", "cells", "size", "pace", "found", "cell"]:List Str) from by decide +kernel),rfl,(Or.inl rfl),(by trivial)|9]),(λ C s₀ H₀ ex pn=>(@pts_nil _)),(λ C s₀ H₀ ex pn=>%[on_add,%[5|0],%[on_mul,%[0|0],%[3|0]|6]|6]),(by intros;rfl)|21],(@pa_nil _),∅|1],∅,∅,∅,∅,∅|27],∅|19]|4],(by intros;rfl)|18],%[%[%[3|0]|8]|4]|3]|3],?_⟩
  rw [show start ["cells", "size", "pace", "found", "cell"] [.ref p,.int z,.int pc]=[some (.ref p),some (.int z),some (.int pc),none,none] from rfl]
  ac_rfl
  intro r H1 hr1 e1 h1
  have hp1:=e1.at hp
  ac_rfl
  refine for_lst (xs:=cs.map V.int) (λ i σ H'=>∃ v4:Option V,σ=[some (.ref p),some (.int z),some (.int pc),some (.ref r),v4]/\Ext H H'/\H' r=some (.lst ((wideL (cs.take i) (z,pc)).map V.int))) ⟨none,rfl,e1,h1⟩ (λ i σ H' _ ⟨_,_,e,_⟩=>e.at hp) ?_ ?_
  ·rintro i x _ H2 hi ⟨v4,rfl,e2,h2⟩
   rw [List.getElem?_map] at hi
   obtain ⟨c,hc,rfl⟩:=Option.map_eq_some_iff.mp hi
   have hil:i < cs.length:=(List.getElem?_eq_some_iff.mp hc).1
   have hzn:z.toNat<=4096:=by
    have:=Nat.mul_le_mul_right z.toNat (show 1<=cs.length by omega)
    omega
   have hwl:(wideL (cs.take i) (z,pc)).length+z.toNat<=4096:=by
    rw [wideL_len,List.length_take,show ((z,pc):Int × Int).1=z from rfl]
    have:(min i cs.length+1) * z.toNat<=cs.length * z.toNat:=Nat.mul_le_mul_right _ (by omega)
    rw [Nat.add_mul,Nat.one_mul] at this
    omega
   simp! only [↓m_kBody]
   refine ⟨by omega,by omega,?_⟩
   refine comp_fm (List.range z.toNat) (λ _=>true) (λ j=>.int (c+(j:Int) * pc)) (λ j x H'=>x=.int (0+(j:Nat))) wk_rng.1 wk_rng.2 (len5000 (by rw [List.length_range];omega)) ?_ ?_
   ·intro D j x H' N1 N0 hj hD e hx k1 _
    subst hx
    have hj':=List.mem_range.mp hj
    have k1':=k1 rfl H' (Ext.refl _)
    have hcm:CMul (j:Int) pc:=.inl (by omega)
    have e0:(0:Int)+(j:Int)=(j:Int):=Int.zero_add _
    clear k1 k hj
    simp! only [↓m_kCm_1,↓m_kCm2]
   ·intro D H3 hD e3 hD3
    have hD3':H3 D=some (.lst (((List.range z.toNat).map λ (j:Nat)=>c+(j:Int) * pc).map V.int)):=by rw [hD3,filt,List.map_map];rfl
    have h2_3:=e3.at h2
    have hle:(wideL (cs.take i) (z,pc)).length+(List.range z.toNat).length<=sizeLine:=len5000 (by rw [List.length_range];omega)
    clear hD3 hi
    ac_rfl
    refine ⟨_,rfl,(e2.trans e3).put hr1,?_⟩
    rw [wideL_take cs (z,pc) i c hc,List.map_append]
  ·rintro _ H2 ⟨v4,rfl,e2,h2⟩
   ac_rfl
   rw [List.length_map,List.take_length] at h2
   exact k r H2 hr1 e2 h2
def spCells (C cT:Addr):Sp:=λ vs H Q E=>∃ (v:Addr),vs=[.ref v]/\(∃ (room first:Int) (axs:List (Int × Int)),ViewAt C H v room first axs/\Axes axs/\(prodL (axs.map λ a=>a.1)<=4096->∀ (r:Addr) (H':Hp),H r=none->Ext H H'->H' r=some (.lst ((cellsL first axs).map V.int))->Q (.ref r) H')/\¬ 4096 < prodL (axs.map λ a=>a.1))
theorem c_spCells (C cT:Addr) (v:Addr) (H:Hp) (Q:VK) (E:XK):spCells C cT [.ref v] H Q E=(∃ (room first:Int) (axs:List (Int × Int)),ViewAt C H v room first axs/\Axes axs/\(prodL (axs.map λ a=>a.1)<=4096->∀ (r:Addr) (H':Hp),H r=none->Ext H H'->H' r=some (.lst ((cellsL first axs).map V.int))->Q (.ref r) H')/\¬ 4096 < prodL (axs.map λ a=>a.1)):=spx1 (f:=λ (v:Addr)=>[.ref v]) (λ _ _ h=>by cases h;exact rfl) v
theorem l_spCells (C cT:Addr){vs:List V}{H:Hp}{Q:VK}{E:XK}(h:spCells C cT vs H Q E):vs.length=1:=spl1 h λ _=>rfl
theorem ok_View_cells (T:Tx K mg t):FnOk P w K mg base CX0 4 t.a_View_cells t.d_View_cells ["self"] (spCells t.a_View t.a_TooMany):=by
 have G_View_count:=ok_View_count (P:=P) (w:=w) (base:=base) T
 have G_refuse_long:=ok_refuse_long (P:=P) (w:=w) (base:=base) T
 have G_widened:=ok_widened (P:=P) (w:=w) (base:=base) T
 refine T.F_View_cells.ok c_View_cells (λ vs H Q E h=>l_spCells _ _ h) (λ cdv A outer s H vs Q E hr h=>?_)
 ·obtain ⟨v,rfl,room,first,axs,vo,hax,kQ,kE⟩:=h
  obtain ⟨dx,l,hv,ys,hl,al⟩:=vo.ob
  have c1:=T.cl_View
  have c2:=T.na_View_first
  have c3:=T.na_View_axes
  have f1:=viewF_first room first l
  have f2:=viewF_axes room first l
  have f3:=vn room first l (m := "count") (by decide +kernel)
  refine ⟨_,%[%[%[G_refuse_long,(hr.mono (by decide)),∅,T.m_refuse_long,T.F_refuse_long.kp,T.b_refuse_long,.nil,pass0,%[%[%[0|0],T.cl_View,T.mt_View_count,G_View_count,(hr.mono (by decide)),T.b_View_count,.nil,pass0,∅|22],(@pa_nil _),∅|1],(by decide),∅,∅|5],∅|19],%[%[(1),_,_,_,_,c_View_cells.nd,rfl,(Or.inl rfl),%[%[%[%[0|0],rfl|25],(@pa_nil _),∅|1]|15],∅,(by trivial)|7],%[%[PassesOwn.never,rfl,%[%[%[0|0],rfl|25]|16],(%[(2),rfl,%[%[(2),_,c_View_cells.nd,rfl,(Or.inl rfl),(by trivial)|9],%[%[(3),_,c_View_cells.nd,rfl,(Or.inl rfl),(by trivial)|9],(@pgs_nilN _),∅|12],∅|12],∅,∅|24].mono λ _ _ _ _ h=>gTup_q h),%[%[(1),_,_,_,_,c_View_cells.nd,rfl,(Or.inl rfl),%[G_widened,(hr.mono (by decide)),∅,T.m_widened,T.F_widened.kp,T.b_widened,.nil,pass0,%[%[1|0],%[%[2|0],%[%[3|0],(@pa_nil _),∅|1],∅|1],∅|1],(by decide),∅,∅|5],∅,(by trivial)|7]|4],(by intros;rfl)|18],%[%[%[1|0]|8]|4]|3]|3]|3],?_⟩
  rw [show start ["self", "found", "size", "pace"] [.ref v]=[some (.ref v),none,none,none] from rfl]
  clear G_View_count G_refuse_long G_widened
  ac_rfl
  rw [c_spVCount]
  refine ⟨room,first,axs,vo,hax,λ H1 e1=>?_⟩
  have hv1:=e1.at hv
  have hl1:=e1.at hl
  ac_rfl
  rw [c_spLong]
  refine ⟨λ hc=>?_,kE⟩
  have kQ':=kQ hc
  clear kQ kE
  ac_rfl
  intro r H2 hr2 e2 h2
  have hv2:=e2.at hv1
  have hl2:=e2.at hl1
  ac_rfl
  have hpos:∀ a∈axs,(1:Int)<=a.1:=λ a ha=>(hax.2 a ha).1
  refine for_lst (xs:=ys) (λ i σ H'=>∃ (r:Addr) (v2 v3:Option V),σ=[some (.ref v),some (.ref r),v2,v3]/\Ext H H'/\H r=none/\H' r=some (.lst ((cellsL first (axs.take i)).map V.int))) ⟨r,none,none,rfl,e1.trans e2,e1.free hr2,h2⟩ (λ i σ H' _ ⟨_,_,_,_,e,_,_⟩=>e.at hl) ?_ ?_
  ·rintro i y _ H3 hi ⟨r3,v2,v3,rfl,e3,hr3,h3⟩
   obtain ⟨a,q,ha,rfl,hq⟩:=al_ax al hi
   have hq3:=e3.at hq
   have hm:=hax.2 a (List.mem_of_getElem? ha)
   simp! only [↓m_kBody]
   rw [c_spWidened]
   refine ⟨_,h3,hm.1,?_,hm.2,λ r4 H4 hr4 e4 h4=>?_⟩
   ·have hl4:=cellsL_len first (axs.take i) λ b hb=>hpos b (List.mem_of_mem_take hb)
    have hp:=prodL_take_le (axs.map λ a=>a.1) (λ n hn=>by obtain ⟨b,hb,rfl⟩:=List.mem_map.mp hn;exact hpos b hb) (i+1)
    rw [prodL_take _ i a.1 (by rw [List.getElem?_map,ha];rfl),←List.map_take,←hl4] at hp
    have hza:((a.1.toNat:Nat):Int)=a.1:=Int.toNat_of_nonneg (by omega)
    have:(((cellsL first (axs.take i)).length * a.1.toNat:Nat):Int)<=4096:=by rw [Int.natCast_mul,hza];omega
    omega
   ·ac_rfl
    refine ⟨r4,_,_,rfl,e3.trans e4,e3.free hr4,?_⟩
    rw [h4,List.take_add_one,ha]
    show _=some (HO.lst (List.map V.int (cellsL first (axs.take i++[a]))))
    rw [cellsL_snoc]
  ·rintro _ H3 ⟨r3,v2,v3,rfl,e3,hr3,h3⟩
   have hyl:ys.length=axs.length:=by rw [al.1];unfold axL;rw [List.length_map]
   rw [hyl,List.take_length] at h3
   ac_rfl
   exact kQ' r3 H3 hr3 e3 h3
def kAllP (cT:Addr) (H:Hp) (Q:VK) (E:XK):List Int->Prop:=λ ns=>(prodL ns<=4096->∀ D H',H D=none->Ext H H'->TupsAt H' D (rowsL ns)->Q (.ref D) H')/\¬ 4096 < prodL ns
theorem x_kAllP (cT:Addr) (H:Hp) (Q:VK) (E:XK) (ns:List Int):kAllP cT H Q E ns=((prodL ns<=4096->∀ D H',H D=none->Ext H H'->TupsAt H' D (rowsL ns)->Q (.ref D) H')/\¬ 4096 < prodL ns):=rfl
def spPlaces (cT:Addr):Sp:=λ vs H Q E=>∃ (p:Addr),vs=[.ref p]/\(optK (lstAt H p) (kInts (kSz (kAllP cT H Q E))))
theorem c_spPlaces (cT:Addr) (p:Addr) (H:Hp) (Q:VK) (E:XK):spPlaces cT [.ref p] H Q E=(optK (lstAt H p) (kInts (kSz (kAllP cT H Q E)))):=spx1 (f:=λ (p:Addr)=>[.ref p]) (λ _ _ h=>by cases h;exact rfl) p
theorem l_spPlaces (cT:Addr){vs:List V}{H:Hp}{Q:VK}{E:XK}(h:spPlaces cT vs H Q E):vs.length=1:=spl1 h λ _=>rfl
theorem ok_places (T:Tx K mg t):FnOk P w K mg base CX0 4 t.a_places t.d_places ["sizes"] (spPlaces t.a_TooMany):=by
 have G_count_of:=ok_count_of (P:=P) (w:=w) (base:=base) T
 have G_refuse_long:=ok_refuse_long (P:=P) (w:=w) (base:=base) T
 have G_split_number:=ok_split_number (P:=P) (w:=w) (base:=base) T
 refine T.F_places.ok c_places (λ vs H Q E h=>l_spPlaces _ h) (λ cdv A outer s H vs Q E hr h=>?_)
 ·obtain ⟨p,rfl,h⟩:=h
  obtain ⟨xs,hp,ns,rfl,hs,k1,k2⟩:=optK_ex h
  replace hp:=lst_of hp
  clear h
  refine ⟨_,%[%[(1),_,_,_,_,c_places.nd,rfl,(Or.inl rfl),%[G_count_of,(hr.mono (by decide)),∅,T.m_count_of,T.F_count_of.kp,T.b_count_of,.nil,pass0,%[%[0|0],(@pa_nil _),∅|1],(by decide),∅,∅|5],∅,(by trivial)|7],%[%[%[G_refuse_long,(hr.mono (by decide)),∅,T.m_refuse_long,T.F_refuse_long.kp,T.b_refuse_long,.nil,pass0,%[%[1|0],(@pa_nil _),∅|1],(by decide),∅,∅|5],∅|19],%[%[%[(["number", "sizes", "count"]),(1),(comp_ok (defScope s_places) ["sizes", "count"] rfl rfl (by decide +kernel)),rfl,%[∅,T.z_range,%[%[1|0],(@pa_nil _),∅|1],∅|30],(λ C s₀ H₀ ex pn=>%[(0),_,(show List.Nodup (["number", "sizes", "count"]:List Str) from by decide +kernel),rfl,(Or.inl rfl),(by trivial)|9]),(λ C s₀ H₀ ex pn=>(@pts_nil _)),(λ C s₀ H₀ ex pn=>%[G_split_number,(hr.mono (by decide)),∅,T.m_split_number,T.F_split_number.kp,T.b_split_number,.nil,pass0,%[%[1|0],%[%[0|0],(@pa_nil _),∅|1],∅|1],(by decide),∅,∅|5]),(by intros;rfl)|21]|8]|4]|3]|3],?_⟩
  rw [show start ["sizes", "count"] [.ref p]=[some (.ref p),none] from rfl]
  have hpos:=hs.prod.1
  simp! only [↓c_spCount,↓m_kSz,↓x_kCnt]
  rw [c_spLong]
  refine ⟨λ hn=>?_,k2⟩
  have k1':=k1 hn
  clear k1 k2
  have hr2:prodL ns < 2 ^ 62:=by omega
  have hr1:-(2 ^ 62)<=prodL ns:=by omega
  ac_rfl
  refine ⟨hr1,hr2,?_⟩
  refine comp_rel (List.range (prodL ns).toNat) (λ _=>true) (λ j x H'=>x=.int (0+(j:Nat))) (λ D j y H'=>∃ q,y=.ref q/\q ≠ D/\H' q=some (.tup ((splitL ns (j:Nat)).map V.int))) wk_rng.1 wk_rng.2 (λ D _ y H1 H2 ⟨q,h1,h2,h3⟩ e=>⟨q,h1,h2,e.at h3⟩) (λ D _ y H1 o ⟨q,h1,h2,h3⟩=>⟨q,h1,h2,by rw [upd_ne h2];exact h3⟩) (len5000 (by rw [List.length_range];omega)) ?_ ?_
  ·intro D j x H' N1 N0 hz hD e ⟨ys0,hys0⟩ hx kk _
   subst hx
   have hp':=e.at hp
   have kk':=kk rfl
   clear kk
   simp! only [↓m_kCm_1,↓m_kCm2,↓c_spSplit,↓m_kSz]
   rw [x_kSpl]
   intro r H2 hr2 e2 h2
   rw [Int.zero_add] at h2
   exact kk' _ H2 e2 ⟨r,rfl,(λ z=>by rw [z,hys0] at hr2;cases hr2),h2⟩
  ·intro D ys H' hD e hD' al
   rw [filt] at al
   refine k1' D H' hD e ⟨ys,hD',?_,λ i z y hz hy=>?_⟩
   ·rw [al.1,List.length_range,rowsL_len]
   ·unfold rowsL at hz
    rw [List.getElem?_map] at hz
    obtain ⟨j,hj,rfl⟩:=Option.map_eq_some_iff.mp hz
    obtain ⟨q,h1,_,h3⟩:=al.2 i j y hj hy
    exact ⟨q,h1,h3⟩
def spDigits  : Sp:=λ vs H Q E=>∃ (n:Int) (b:Int) (m:Int),vs=[.int n,.int b,.int m]/\(1<=b/\b<=1000/\0<=m/\m<=8/\∀ (ds:List Int) (r:Addr) (H':Hp),H r=none->Ext H H'->H' r=some (.lst (ds.map V.int))->(ds.length:Int)=m->(∀ d∈ds,0<=d/\d < b)->Q (.ref r) H')
theorem c_spDigits  (n:Int) (b:Int) (m:Int) (H:Hp) (Q:VK) (E:XK):spDigits  [.int n,.int b,.int m] H Q E=(1<=b/\b<=1000/\0<=m/\m<=8/\∀ (ds:List Int) (r:Addr) (H':Hp),H r=none->Ext H H'->H' r=some (.lst (ds.map V.int))->(ds.length:Int)=m->(∀ d∈ds,0<=d/\d < b)->Q (.ref r) H'):=spx3 (f:=λ (n:Int) (b:Int) (m:Int)=>[.int n,.int b,.int m]) (λ _ _ _ _ _ _ h=>by cases h;exact ⟨rfl,rfl,rfl⟩) n b m
theorem l_spDigits  {vs:List V}{H:Hp}{Q:VK}{E:XK}(h:spDigits  vs H Q E):vs.length=3:=spl3 h λ _ _ _=>rfl
theorem ok__law_digits (T:Tx K mg t):FnOk P w K mg base CX0 1 t.a__law_digits t.d__law_digits ["_law_number", "_law_by", "_law_many"] spDigits:=by
 refine T.F__law_digits.ok c__law_digits (λ vs H Q E h=>l_spDigits h) (λ cdv A outer s H vs Q E hr h=>?_)
 ·obtain ⟨n,b,m,rfl,hb,hb1,hm0,hm1,k⟩:=h
  refine ⟨_,%[%[(3),_,_,_,_,c__law_digits.nd,rfl,(Or.inl rfl),%[(@pa_nil _)|15],∅,(by trivial)|7],%[%[PassesOwn.never,rfl,%[∅,T.z_range,%[%[2|0],(@pa_nil _),∅|1],∅|30],%[(4),_,c__law_digits.nd,rfl,(Or.inl rfl),(by trivial)|9],%[%[%[PySem.F.plainAttrs_list,PySem.F.slot_list_append,PySem.F.type_list_append,mt_append,%[3|0],%[%[on_mod,%[0|0],%[1|0]|6],(@pa_nil _),∅|1],∅,∅,∅,∅,∅|27],∅|19],%[%[(0),_,_,_,_,c__law_digits.nd,rfl,(Or.inl rfl),%[on_fdiv,%[0|0],%[1|0]|6],∅,(by trivial)|7]|4]|3],(by intros;rfl)|18],%[%[%[3|0]|8]|4]|3]|3],?_⟩
  rw [show start ["_law_number", "_law_by", "_law_many", "_law_found", "_law_k"] [.int n,.int b,.int m]=[some (.int n),some (.int b),some (.int m),none,none] from rfl]
  have hb0:0 < b:=by omega
  ac_rfl
  intro r H1 hr1 e1 h1
  ac_rfl
  refine ⟨by omega,by omega,?_⟩
  refine for_rng (λ i σ H'=>∃ (x:Int) (ds:List Int) (v4:Option V),σ=[some (.int x),some (.int b),some (.int m),some (.ref r),v4]/\Ext H H'/\H' r=some (.lst (ds.map V.int))/\ds.length=i/\∀ d∈ds,0<=d/\d < b) ⟨n,[],none,rfl,e1,h1,rfl,λ _ h=>absurd h List.not_mem_nil⟩ ?_ ?_
  ·rintro i _ H2 hi ⟨x,ds,v4,rfl,e2,h2,hdl,hdb⟩
   have hi':i < m.toNat:=hi
   have g1:=Int.emod_nonneg x (show b ≠ 0 by omega)
   have g2:=Int.emod_lt_of_pos x hb0
   have hln:ds.length < sizeLine:=lt5000 (by omega)
   replace hdb:=λ (_:Unit)=>hdb
   clear hi k
   simp! only [↓m_kBody]
   refine ⟨lt5000 (by omega),by omega,x / b,ds++[x % b],_,rfl,e2.put hr1,by rw [List.map_append];rfl,by simp [hdl],λ d hd=>?_⟩
   rcases List.mem_append.mp hd with h|h
   ·exact hdb () d h
   ·rw [List.mem_singleton.mp h];exact ⟨g1,g2⟩
  ·rintro _ H2 ⟨x,ds,v4,rfl,e2,h2,hdl,hdb⟩
   have k1:=k ds r H2 hr1 e2 h2 (by omega) hdb
   clear k hdb
   ac_rfl
theorem erase_ints:∀ (xs:List Int) (k:Nat),(xs.map V.int).eraseIdx k=(xs.eraseIdx k).map V.int
 | [],k=>by cases k<;>rfl
 | x::xs,0=>rfl
 | x::xs,k+1=>congrArg (V.int x::·) (erase_ints xs k)
theorem erase_perm:∀ {xs:List Int}{k:Nat}{x:Int},xs[k]? = some x->(x::xs.eraseIdx k).Perm xs
 | [],k,x,h=>by simp at h
 | y::xs,0,x,h=>by cases h;exact List.Perm.refl _
 | y::xs,k+1,x,h=>(List.Perm.swap y x _).trans ((erase_perm (xs:=xs) (k:=k) (by simpa using h)).cons y)
theorem rep_ints (n:Nat):(List.replicate n [V.int 0]).flatten=(List.replicate n (0:Int)).map V.int:=by
 induction n with
 | zero=>rfl
 | succ n ih=>rw [List.replicate_succ,List.flatten_cons,ih,List.replicate_succ,List.map_cons];rfl
theorem getD_in {ms:List Int}{c:Int}(h0:0<=c) (h1:c < (ms.length:Int)):ms.getD c.toNat 0∈ms:=by
 have hn:c.toNat < ms.length:=by omega
 rw [List.getD_eq_getElem?_getD,List.getElem?_eq_getElem hn]
 exact List.getElem_mem hn
theorem at_vals {vals:List Int}{c:Int}(h0:0<=c) (h1:c < vals.length):atI (vals.map V.int) c=some (.int (vals.getD c.toNat 0)):=by
 obtain ⟨n,rfl⟩:=Int.eq_ofNat_of_zero_le h0
 have hn:n < vals.length:=by omega
 refine atI_nat ?_
 rw [List.getElem?_map,List.getElem?_eq_getElem hn]
 simp [List.getD,List.getElem?_eq_getElem hn]
theorem optK_pick {xs:List V}{i:Int}{k:V->Prop}(P:V->Prop) (h0:0<=i) (h1:i < xs.length) (ha:∀ v∈xs,P v) (hk:∀ v,P v->k v):optK (atI xs i) k:=optK_at h0 h1 λ v hv=>hk v (ha v hv)
def SzK (ms:List Int):Prop:=(ms.length<=3/\(∀ m∈ms,1<=m/\m<=6)/\prodL ms<=60)\/(ms.length<=8/\(∀ m∈ms,1<=m/\m<=3)/\prodL ms<=54)
def okP:List Int:=[1,2,3,4,6,8,9,12,16,18,24,27,32,36,48,54]
theorem okP_step {c s:Int}(hc:c∈okP) (h1:1<=s) (h3:s<=3) (h:c * s<=60):c * s∈okP:=by
 have key:∀ c∈okP,(c * 2<=60->c * 2∈okP)/\(c * 3<=60->c * 3∈okP):=by decide
 obtain ⟨k2,k3⟩:=key c hc
 rcases (show s=1\/s=2\/s=3 by omega) with rfl|rfl|rfl
 ·rw [Int.mul_one];exact hc
 ·exact k2 h
 ·exact k3 h
theorem okP_le {c:Int}(hc:c∈okP):c<=54:=by
 have key:∀ c∈okP,c<=54:=by decide
 exact key c hc
def SzI (mu ms:List Int) (i:Nat):Prop:=ms.length=i/\prodL ms<=60/\((∀ m∈ms,1<=m/\m<=6)/\((∀ m∈mu,1<=m/\m<=3)->(∀ m∈ms,1<=m/\m<=3)/\prodL ms∈okP))
def spKSz (K:W.Frag) (a:Addr) (ns:List Int):Sp:=λ vs H Q E=>∃ (p:Addr),vs=[.ref p,.int 60,.bl true]/\(p=a/\SqL K H a (ns.map V.int)/\ns.length<=63/\∀ (ms:List Int) (r:Addr) (H':Hp),Ext H H'->H' r=some (.lst (ms.map V.int))->SzK ms->Q (.ref r) H')
theorem c_spKSz (K:W.Frag) (a:Addr) (ns:List Int) (p:Addr) (H:Hp) (Q:VK) (E:XK):spKSz K a ns [.ref p,.int 60,.bl true] H Q E=(p=a/\SqL K H a (ns.map V.int)/\ns.length<=63/\∀ (ms:List Int) (r:Addr) (H':Hp),Ext H H'->H' r=some (.lst (ms.map V.int))->SzK ms->Q (.ref r) H'):=spx1 (f:=λ (p:Addr)=>[.ref p,.int 60,.bl true]) (λ _ _ h=>by cases h;exact rfl) p
theorem l_spKSz (K:W.Frag) (a:Addr) (ns:List Int){vs:List V}{H:Hp}{Q:VK}{E:XK}(h:spKSz K a ns vs H Q E):vs.length=3:=spl1 h λ _=>rfl
theorem ok__law_sizes (T:Tx K mg t) (a:Addr) (ns:List Int):FnOk P w K mg base CX0 2 t.a__law_sizes t.d__law_sizes ["_law_script", "_law_most_here", "_law_wide"] (spKSz K a ns):=by
 have G__law_draw:=ok__law_draw (P:=P) (w:=w) (base:=base) T a ns
 have G__law_digits:=ok__law_digits (P:=P) (w:=w) (base:=base) T
 refine T.F__law_sizes.ok c__law_sizes (λ vs H Q E h=>l_spKSz _ _ _ h) (λ cdv A outer s H vs Q E hr h=>?_)
 ·obtain ⟨_,rfl,rfl,hS,hl,kk⟩:=h
  rename_i a
  refine ⟨_,%[%[(3),_,_,_,_,c__law_sizes.nd,rfl,(Or.inl rfl),%[ix_q,%[%[%[_|2],%[%[_|2],%[%[_|2],%[%[_|2],%[%[_|2],%[%[_|2],%[%[_|2],%[%[_|2],(@pa_nil _),∅|1],∅|1],∅|1],∅|1],∅|1],∅|1],∅|1],∅|1]|15],%[G__law_draw,(hr.mono (by decide)),∅,T.m__law_draw,T.F__law_draw.kp,T.b__law_draw,.nil,pass0,%[%[0|0],%[%[_|2],%[%[_|2],(@pa_nil _),∅|1],∅|1],∅|1],(by decide),∅,∅|5],(λ _ _=>rfl)|10],∅,(by trivial)|7],%[%[(4),_,_,_,_,c__law_sizes.nd,rfl,(Or.inl rfl),%[%[%[_|2],%[%[_|2],%[%[_|2],%[%[_|2],%[%[_|2],%[%[_|2],%[%[_|2],%[%[_|2],(@pa_nil _),∅|1],∅|1],∅|1],∅|1],∅|1],∅|1],∅|1],∅|1]|15],∅,(by trivial)|7],%[%[(PW.pt (@pw_and _ _ _ _ _ _ _ %[%[2|0],(by intros;rfl)|17] (@pw_and1 _ _ _ _ %[(op_qEq hr.units),%[G__law_draw,(hr.mono (by decide)),∅,T.m__law_draw,T.F__law_draw.kp,T.b__law_draw,.nil,pass0,%[%[0|0],%[%[_|2],%[%[_|2],(@pa_nil _),∅|1],∅|1],∅|1],(by decide),∅,∅|5],%[_|2],(nomark _)|13]))),%[%[(3),_,_,_,_,c__law_sizes.nd,rfl,(Or.inl rfl),%[on_add,%[_|2],%[G__law_draw,(hr.mono (by decide)),∅,T.m__law_draw,T.F__law_draw.kp,T.b__law_draw,.nil,pass0,%[%[0|0],%[%[_|2],%[%[_|2],(@pa_nil _),∅|1],∅|1],∅|1],(by decide),∅,∅|5]|6],∅,(by trivial)|7],%[%[(4),_,_,_,_,c__law_sizes.nd,rfl,(Or.inl rfl),%[%[%[_|2],%[%[_|2],%[%[_|2],%[%[_|2],%[%[_|2],%[%[_|2],%[%[_|2],%[%[_|2],(@pa_nil _),∅|1],∅|1],∅|1],∅|1],∅|1],∅|1],∅|1],∅|1]|15],∅,(by trivial)|7]|4]|3],(@pss_nil _)|14],%[%[(5),_,_,_,_,c__law_sizes.nd,rfl,(Or.inl rfl),%[(@pa_nil _)|15],∅,(by trivial)|7],%[%[(6),_,_,_,_,c__law_sizes.nd,rfl,(Or.inl rfl),%[_|2],∅,(by trivial)|7],%[%[PassesOwn.never,rfl,%[%[G__law_digits,(hr.mono (by decide)),∅,T.m__law_digits,T.F__law_digits.kp,T.b__law_digits,.nil,pass0,%[%[G__law_draw,(hr.mono (by decide)),∅,T.m__law_draw,T.F__law_draw.kp,T.b__law_draw,.nil,pass0,%[%[0|0],%[%[_|2],%[%[_|2],(@pa_nil _),∅|1],∅|1],∅|1],(by decide),∅,∅|5],%[%[_|2],%[%[3|0],(@pa_nil _),∅|1],∅|1],∅|1],(by decide),∅,∅|5]|16],%[(7),_,c__law_sizes.nd,rfl,(Or.inl rfl),(by trivial)|9],%[%[(8),_,_,_,_,c__law_sizes.nd,rfl,(Or.inl rfl),%[ix_q,%[4|0],%[7|0],(λ _ _=>rfl)|10],∅,(by trivial)|7],%[%[%[on_gt,%[on_mul,%[6|0],%[8|0]|6],%[1|0],(nomark _)|13],%[%[(8),_,_,_,_,c__law_sizes.nd,rfl,(Or.inl rfl),%[_|2],∅,(by trivial)|7]|4],(@pss_nil _)|14],%[%[(6),_,_,_,_,c__law_sizes.nd,rfl,(Or.inl rfl),%[on_mul,%[6|0],%[8|0]|6],∅,(by trivial)|7],%[%[%[PySem.F.plainAttrs_list,PySem.F.slot_list_append,PySem.F.type_list_append,mt_append,%[5|0],%[%[8|0],(@pa_nil _),∅|1],∅,∅,∅,∅,∅|27],∅|19]|4]|3]|3]|3],(by intros;rfl)|18],%[%[%[5|0]|8]|4]|3]|3]|3]|3]|3]|3],?_⟩
  rw [show start ["_law_script", "_law_most_here", "_law_wide", "_law_many", "_law_menu", "_law_sizes_here", "_law_count", "_law_digit", "_law_size"] [.ref a,.int 60,.bl true]=[some (.ref a),some (.int 60),some (.bl true),none,none,none,none,none,none] from rfl]
  clear G__law_draw G__law_digits
  replace kk:=λ (_:Unit)=>kk
  ac_rfl
  intro q1 H1 hq1 e1 h1
  have hS1:=e1.2 K a _ hS
  clear hq1
  ac_rfl
  rw [c_spDraw]
  refine ⟨hS1,hl,⟨by decide,by decide⟩,by decide,λ d d0 d1=>?_⟩
  ac_rfl
  refine optK_ints (λ j=>0<=j/\j<=3) d0 d1 (λ v hv=>?_) λ mn hmn=>?_
  ·simp only [List.mem_cons,List.not_mem_nil,or_false] at hv
   rcases hv with rfl|rfl|rfl|rfl|rfl|rfl|rfl|rfl<;>exact ⟨_,rfl,by decide⟩
  clear h1
  ac_rfl
  intro q2 H2 hq2 e2 h2
  have hS2:=e2.2 K a _ hS1
  clear hq2
  simp! only [-m_tIfS]
  refine if_gen (λ σ' H'=>∃ (mn:Int) (q:Addr) (mu:List Int),σ'=[some (.ref a),some (.int 60),some (.bl true),some (.int mn),some (.ref q),none,none,none,none]/\Ext H2 H'/\H' q=some (.lst (mu.map V.int))/\mu.length=8/\0<=mn/\mn<=8/\((mn<=3/\∀ m∈mu,1<=m/\m<=6)\/∀ m∈mu,1<=m/\m<=3)) (λ nx' hn=>?_) ?_
  ·replace hn:=λ (_:Unit)=>hn
   ac_rfl
   rw [c_spDraw]
   refine ⟨hS2,hl,⟨by decide,by decide⟩,by decide,λ g g0 g1=>?_⟩
   by_cases hg:g=1
   ·ac_rfl
    rw [c_spDraw]
    refine ⟨hS2,hl,⟨by decide,by decide⟩,by decide,λ x x0 x1=>?_⟩
    ac_rfl
    intro q3 H3 hq3 e3 h3
    have hn':=hn () [some (.ref a),some (.int 60),some (.bl true),some (.int (4+x)),some (.ref q3),none,none,none,none] H3 ⟨_,q3,[1,2,3,2,1,2,3,2],rfl,e3,h3,rfl,by omega,by omega,.inr (by decide)⟩
    clear hn
    ac_rfl
   ·have hn':=hn () [some (.ref a),some (.int 60),some (.bl true),some (.int mn),some (.ref q2),none,none,none,none] H2 ⟨_,q2,[2,3,4,2,5,1,3,6],rfl,Ext.refl _,h2,rfl,hmn.1,by omega,.inl ⟨hmn.2,by decide⟩⟩
    clear hn
    ac_rfl
  rintro _ H3 ⟨mn,q,mu,rfl,e3,h3,hml,mn0,mn8,hmu⟩
  have hS3:=e3.2 K a _ hS2
  clear h2 hmn
  ac_rfl
  intro r H4 hr4 e4 h4
  have hS4:=e4.2 K a _ hS3
  have h3_4:=e4.at h3
  clear h3
  ac_rfl
  rw [c_spDraw]
  refine ⟨hS4,hl,⟨by decide,by decide⟩,by decide,λ c c0 c1=>?_⟩
  ac_rfl
  rw [c_spDigits]
  refine ⟨by decide,by decide,mn0,mn8,λ ds dr H5 hd5 e5 h5 hdl hdb=>?_⟩
  have h4_5:=e5.at h4
  have h3_5:=e5.at h3_4
  have nqr:q ≠ r:=λ z=>by rw [z,h4_5] at h3_5;have:=congrArg List.length (HO.lst.inj (Option.some.inj h3_5));rw [List.length_map,hml] at this;simp at this
  have ndr:dr ≠ r:=λ z=>by rw [z,h4] at hd5;cases hd5
  have e05:=e1.trans (e2.trans (e3.trans (e4.trans e5)))
  have hr0:H r=none:=(e1.trans (e2.trans e3)).free hr4
  replace hdl:=λ (_:Unit)=>hdl
  replace hml:=λ (_:Unit)=>hml
  replace hmu:=λ (_:Unit)=>hmu
  replace hdb:=λ (_:Unit)=>hdb
  clear h4 h3_4 hd5 e1 e2 e3 e4 e5 hS1 hS2 hS3 hS4
  ac_rfl
  refine for_lst (xs:=ds.map V.int) (λ i σ H'=>∃ (ms:List Int) (v7 v8:Option V),σ=[some (.ref a),some (.int 60),some (.bl true),some (.int mn),some (.ref q),some (.ref r),some (.int (prodL ms)),v7,v8]/\Ext H H'/\H' q=some (.lst (mu.map V.int))/\H' dr=some (.lst (ds.map V.int))/\H' r=some (.lst (ms.map V.int))/\SzI mu ms i) ⟨[],none,none,rfl,e05,h3_5,h5,h4_5,⟨rfl,by decide,λ _ h=>absurd h List.not_mem_nil,λ _=>⟨λ _ h=>absurd h List.not_mem_nil,by decide⟩⟩⟩ (λ i σ H' _ ⟨_,_,_,_,_,_,h,_⟩=>h) ?_ ?_
  ·rintro i y _ H6 hi ⟨ms,v7,v8,rfl,e6,q6,d6,h6,⟨hmsl,hms60,hm6,hmw⟩⟩
   rw [List.getElem?_map] at hi
   obtain ⟨g,hg,rfl⟩:=Option.map_eq_some_iff.mp hi
   obtain ⟨g0,g8⟩:=hdb () g (List.mem_of_getElem? hg)
   have hil:i < ds.length:=(List.getElem?_eq_some_iff.mp hg).1
   have hat:=at_vals (vals:=mu) g0 (by rw [hml ()];omega)
   have hin:mu.getD g.toNat 0∈mu:=by
    have:g.toNat < mu.length:=by rw [hml ()];omega
    rw [List.getD,List.getElem?_eq_getElem this]
    exact List.getElem_mem this
   have hx6:1<=mu.getD g.toNat 0/\mu.getD g.toNat 0<=6:=by
    rcases hmu () with h|h
    ·exact h.2 _ hin
    ·have:=h _ hin;omega
   have hx3:(∀ m∈mu,1<=m/\m<=3)->mu.getD g.toNat 0<=3:=λ h=>(h _ hin).2
   generalize mu.getD g.toNat 0=z at hat hx6 hx3
   have p1:=prodL_one ms λ m hm=>(hm6 m hm).1
   have cm:CMul (prodL ms) z:=.inr ⟨by omega,by omega⟩
   have hll:ms.length < sizeLine:=lt5000 (by have:=hdl ();omega)
   have hpa:∀ s:Int,prodL (ms++[s])=prodL ms * s:=λ s=>by rw [prodL_append];show _ * (s * 1)=_;rw [Int.mul_one]
   have fin:∀ s:Int,1<=s->s<=6->((∀ m∈mu,1<=m/\m<=3)->s<=3)->prodL ms * s<=60->SzI mu (ms++[s]) (i+1):=by
    intro s s1 s6 s3 hs
    refine ⟨by rw [List.length_append,hmsl];rfl,by rw [hpa];exact hs,λ m hm=>?_,λ hw=>⟨λ m hm=>?_,by rw [hpa];exact okP_step (hmw hw).2 s1 (s3 hw) hs⟩⟩
    ·rcases List.mem_append.mp hm with h|h
     ·exact hm6 m h
     ·rw [List.mem_singleton.mp h];exact ⟨s1,s6⟩
    ·rcases List.mem_append.mp hm with h|h
     ·exact (hmw hw).1 m h
     ·rw [List.mem_singleton.mp h];exact ⟨s1,s3 hw⟩
   replace fin:=λ (_:Unit)=>fin
   replace hpa:=λ (_:Unit)=>hpa
   replace hx3:=λ (_:Unit)=>hx3
   replace hx6:=λ (_:Unit)=>hx6
   replace hmw:=λ (_:Unit)=>hmw
   replace hm6:=λ (_:Unit)=>hm6
   replace hmsl:=λ (_:Unit)=>hmsl
   clear hi hg hr4 h5 h4_5 h3_5 e05 hS p1 hil g0 g8 c0 c1 mn0 mn8 d0 d1 hin
   by_cases hbig:60 < prodL ms * z
   ·have cm1:CMul (prodL ms) 1:=.inr ⟨by decide,by decide⟩
    have f1:=λ (_:Unit)=>fin () 1 (by decide) (by decide) (λ _=>by decide) (by rw [Int.mul_one];exact hms60)
    clear fin
    simp! only [↓m_kBody]
    refine ⟨ms++[1],_,_,by rw [hpa ()],e6.put hr0,by rw [upd_ne nqr];exact q6,by rw [upd_ne ndr];exact d6,by rw [List.map_append];rfl,f1 ()⟩
   ·have hle:prodL ms * z<=60:=by omega
    have f1:=λ (_:Unit)=>fin () z (hx6 ()).1 (hx6 ()).2 (hx3 ()) hle
    clear fin
    simp! only [↓m_kBody]
    refine ⟨ms++[z],_,_,by rw [hpa ()],e6.put hr0,by rw [upd_ne nqr];exact q6,by rw [upd_ne ndr];exact d6,by rw [List.map_append];rfl,f1 ()⟩
  ·rintro _ H6 ⟨ms,v7,v8,rfl,e6,q6,d6,h6,⟨hmsl,hms60,hm6,hmw⟩⟩
   rw [List.length_map] at hmsl
   have hsz:SzK ms:=by
    rcases hmu () with h|h
    ·exact .inl ⟨by have:=hdl ();omega,hm6,hms60⟩
    ·exact .inr ⟨by have:=hdl ();omega,(hmw h).1,okP_le (hmw h).2⟩
   have k':=kk () ms r H6 e6 h6 hsz
   clear kk hsz
   ac_rfl
theorem prodL_perm {l1 l2:List Int}(h:l1.Perm l2):prodL l1=prodL l2:=by
 induction h with
 | nil=>rfl
 | cons x _ ih=>show x * _=x * _;rw [ih]
 | swap x y l=>show y * (x * prodL l)=x * (y * prodL l);rw [←Int.mul_assoc,←Int.mul_assoc,Int.mul_comm y x]
 | trans _ _ i1 i2=>exact i1.trans i2
def szAt (ms:List Int) (v:Int):Int:=ms.getD v.toNat 0
theorem range_sz (ms:List Int):((List.range ms.length).map λ (i:Nat)=>(i:Int)).map (szAt ms)=ms:=by
 rw [List.map_map]
 apply List.ext_getElem?
 intro i
 rw [List.getElem?_map]
 by_cases hi:i < ms.length
 ·rw [List.getElem?_range hi,List.getElem?_eq_getElem hi]
  show some (ms.getD ((i:Int)).toNat 0)=_
  rw [Int.toNat_natCast,List.getD,List.getElem?_eq_getElem hi]
  rfl
 ·rw [List.getElem?_eq_none (by rw [List.length_range];omega),List.getElem?_eq_none (by omega)]
  rfl
theorem span_set:∀ (ms ps:List Int) (x:Nat) (p:Int),ps.length=ms.length->x < ms.length->ps.getD x 0=0->spanS ms (ps.set x p)=spanS ms ps+(ms.getD x 0 - 1) * (p.natAbs:Int)
 | [],_,_,_,_,h,_=>by simp at h
 | _::_,[],_,_,h,_,_=>by simp at h
 | m::ms,q::ps,0,p,hl,hx,h0=>by
  have h0':q=0:=h0
  subst h0'
  show (m - 1) * (p.natAbs:Int)+spanS ms ps=(m - 1) * ((0:Int).natAbs:Int)+spanS ms ps+(m - 1) * (p.natAbs:Int)
  rw [show (((0:Int).natAbs:Nat):Int)=0 from rfl,Int.mul_zero]
  omega
 | m::ms,q::ps,x+1,p,hl,hx,h0=>by
  have ih:=span_set ms ps x p (by simpa using hl) (by simpa using hx) (by simpa using h0)
  show (m - 1) * (q.natAbs:Int)+spanS ms (ps.set x p)=(m - 1) * (q.natAbs:Int)+spanS ms ps+(ms.getD x 0 - 1) * (p.natAbs:Int)
  rw [ih]
  omega
theorem span_zero:∀ ms:List Int,spanS ms (List.replicate ms.length 0)=0
 | []=>rfl
 | m::ms=>by
  show (m - 1) * (((0:Int).natAbs:Nat):Int)+spanS ms (List.replicate ms.length 0)=0
  rw [span_zero ms,show (((0:Int).natAbs:Nat):Int)=0 from rfl,Int.mul_zero]
  rfl
structure OnceI (ms ls ps:List Int) (u B:Int):Prop where
 len:ps.length=ms.length
 sub:∀ x∈ls,0<=x/\x < (ms.length:Int)
 nd:ls.Nodup
 lle:ls.length<=ms.length
 zer:∀ x∈ls,ps.getD x.toNat 0=0
 u1:1<=u
 c:∃ c:Int,1<=c/\prodL (ls.map (szAt ms)) * c=prodL ms
 ub:u * prodL (ls.map (szAt ms))<=(2+((ms.length:Int) - ls.length)) * prodL ms
 sp:spanS ms ps<=u
 pb:∀ p∈ps,(p.natAbs:Int)<=B
theorem OnceI.one {ms ls ps:List Int}{u B:Int}(h:OnceI ms ls ps u B) (h1:∀ m∈ms,(1:Int)<=m):∀ m∈ls.map (szAt ms),(1:Int)<=m:=λ m hm=>by
 obtain ⟨x,hx,rfl⟩:=List.mem_map.mp hm
 have:=h.sub x hx
 exact h1 _ (getD_in this.1 this.2)
theorem OnceI.ule {ms ls ps:List Int}{u B:Int}(h:OnceI ms ls ps u B) (h1:∀ m∈ms,(1:Int)<=m):u<=(2+((ms.length:Int) - ls.length)) * prodL ms:=by
 have q1:=prodL_one _ (h.one h1)
 have:=Int.mul_le_mul_of_nonneg_left q1 (show 0<=u by have:=h.u1;omega)
 have:=h.ub
 omega
theorem OnceI.step {ms ls es ps:List Int}{u B x b p:Int}(h:OnceI ms ls ps u B) (h1:∀ m∈ms,(1:Int)<=m) (hp:(x::es).Perm ls) (hb0:0<=b) (hb1:b<=1) (hpu:(p.natAbs:Int)=u) (hB:((ms.length:Int)+1) * prodL ms<=B):OnceI ms es (ps.set x.toNat p) (u * szAt ms x+b) B:=by
 have hxm:x∈ls:=hp.mem_iff.mp List.mem_cons_self
 have hx:=h.sub x hxm
 have hnd:(x::es).Nodup:=hp.nodup_iff.mpr h.nd
 have hll:es.length+1=ls.length:=by rw [←hp.length_eq];rfl
 have hsub:∀ y∈es,y∈ls:=λ y hy=>hp.mem_iff.mp (List.mem_cons_of_mem _ hy)
 have hq:prodL (ls.map (szAt ms))=szAt ms x * prodL (es.map (szAt ms)):=by
  rw [←prodL_perm (hp.map (szAt ms))]
  rfl
 have s1:1<=szAt ms x:=h1 _ (getD_in hx.1 hx.2)
 have q1:1<=prodL (es.map (szAt ms)):=prodL_one _ λ m hm=>by
  obtain ⟨y,hy,rfl⟩:=List.mem_map.mp hm
  have:=h.sub y (hsub y hy)
  exact h1 _ (getD_in this.1 this.2)
 obtain ⟨c,c1,hc⟩:=h.c
 have u1:=h.u1
 have us:u<=u * szAt ms x:=by
  have:=Int.mul_le_mul_of_nonneg_left s1 (show 0<=u by omega)
  omega
 have hle:=h.lle
 have hP:=prodL_one ms h1
 refine ⟨by rw [List.length_set];exact h.len,λ y hy=>h.sub y (hsub y hy),(List.nodup_cons.mp hnd).2,by omega,λ y hy=>?_,by omega,⟨c * szAt ms x,?_,?_⟩,?_,?_,λ q hq=>?_⟩
 ·have hyx:y ≠ x:=λ e=>(List.nodup_cons.mp hnd).1 (e ▸ hy)
  have hy0:=h.sub y (hsub y hy)
  have:=h.zer y (hsub y hy)
  rw [List.getD,List.getElem?_set_ne (by omega)]
  exact this
 ·have:=Int.mul_le_mul c1 s1 (by decide) (by omega)
  omega
 ·rw [←hc,hq,Int.mul_comm c,Int.mul_comm (szAt ms x) (prodL _),Int.mul_assoc]
 ·have e1:(u * szAt ms x+b) * prodL (es.map (szAt ms))=u * prodL (ls.map (szAt ms))+b * prodL (es.map (szAt ms)):=by rw [hq,Int.add_mul,Int.mul_assoc]
  have hQ:prodL (es.map (szAt ms))<=prodL ms:=by
   have w1:=Int.mul_le_mul_of_nonneg_right s1 (show 0<=prodL (es.map (szAt ms)) by omega)
   have w2:=Int.mul_le_mul_of_nonneg_left c1 (show 0<=szAt ms x * prodL (es.map (szAt ms)) by omega)
   rw [hq] at hc
   omega
  have hbQ:=Int.mul_le_mul_of_nonneg_right hb1 (show 0<=prodL (es.map (szAt ms)) by omega)
  have hub:=h.ub
  have e2:(2+((ms.length:Int) - (es.length:Int))) * prodL ms=(2+((ms.length:Int) - (ls.length:Int))) * prodL ms+prodL ms:=by
   rw [show 2+((ms.length:Int) - (es.length:Int))=2+((ms.length:Int) - (ls.length:Int))+1 by omega,Int.add_mul (2+((ms.length:Int) - (ls.length:Int))) 1,Int.one_mul]
  rw [e1,e2]
  omega
 ·have hz:=h.zer x hxm
  rw [span_set ms ps x.toNat p h.len (by omega) hz,hpu]
  have hsp:=h.sp
  have e:(ms.getD x.toNat 0 - 1) * u=u * szAt ms x - u:=by
   show (szAt ms x - 1) * u=_
   rw [Int.sub_mul,Int.one_mul,Int.mul_comm]
  rw [e]
  omega
 ·rcases List.mem_or_eq_of_mem_set hq with hq|rfl
  ·exact h.pb q hq
  ·rw [hpu]
   have hule:=h.ule h1
   have:(2+((ms.length:Int) - (ls.length:Int))) * prodL ms<=((ms.length:Int)+1) * prodL ms:=Int.mul_le_mul_of_nonneg_right (by omega) (by omega)
   omega
theorem OnceI.init {ms:List Int}{u B:Int}(h1:∀ m∈ms,(1:Int)<=m) (u1:1<=u) (u2:u<=2) (hB:0<=B):OnceI ms ((List.range ms.length).map λ (i:Nat)=>(i:Int)) (List.replicate ms.length 0) u B:=by
 have hP:=prodL_one ms h1
 refine ⟨List.length_replicate,λ x hx=>?_,?_,by rw [List.length_map,List.length_range];exact Nat.le_refl _,λ x hx=>?_,u1,⟨1,by decide,by rw [range_sz,Int.mul_one]⟩,?_,by rw [span_zero];omega,λ p hp=>?_⟩
 ·obtain ⟨i,hi,rfl⟩:=List.mem_map.mp hx
  have:=List.mem_range.mp hi
  omega
 ·refine List.Pairwise.map _ (λ a b hab=>?_) List.nodup_range
  omega
 ·rw [List.getD,List.getElem?_replicate]
  split<;>rfl
 ·rw [range_sz,List.length_map,List.length_range]
  have:=Int.mul_le_mul_of_nonneg_right u2 (show 0<=prodL ms by omega)
  rw [show 2+((ms.length:Int) - (ms.length:Int))=2 by omega]
  exact this
 ·rw [List.eq_of_mem_replicate hp]
  exact hB
def PcK (ms ps:List Int):Prop:=ps.length=ms.length/\∃ S B:Int,spanS ms ps<=S/\(∀ p∈ps,(p.natAbs:Int)<=B)/\6<=B/\0<=S/\S+sizT ms * (B+2)<=3960
theorem SzK.pos {ms:List Int}(h:SzK ms):(∀ m∈ms,1<=m/\m<=6)/\ms.length<=8/\prodL ms<=60:=by
 rcases h with h|h
 ·exact ⟨h.2.1,by omega,h.2.2⟩
 ·exact ⟨λ m hm=>by have:=h.2.1 m hm;omega,h.1,by omega⟩
theorem SzK.bounds {ms:List Int}(h:SzK ms):∃ B:Int,((ms.length:Int)+1) * prodL ms<=B/\6<=B/\(2+(ms.length:Int)) * prodL ms+sizT ms * (B+2)<=3960/\0<=sizT ms/\sizT ms<=15:=by
 have h1:∀ m∈ms,(1:Int)<=m:=λ m hm=>(h.pos.1 m hm).1
 have hP:=prodL_one ms h1
 have nn:=sizT_nn h1
 rcases h with ⟨h3,h6,hp⟩|⟨h8,h3,hp⟩
 ·have t:=sizT_le (k:=5) (by decide) ms h6
  have hl:(ms.length:Int)<=3:=by omega
  have m1:=Int.mul_le_mul (show (ms.length:Int)+1<=4 by omega) hp (by omega) (by decide)
  have m2:=Int.mul_le_mul (show 2+(ms.length:Int)<=5 by omega) hp (by omega) (by decide)
  exact ⟨240,by omega,by decide,by omega,nn,by omega⟩
 ·have t:=sizT_wide h3 (by omega)
  have hl:(ms.length:Int)<=8:=by omega
  have m1:=Int.mul_le_mul (show (ms.length:Int)+1<=9 by omega) hp (by omega) (by decide)
  have m2:=Int.mul_le_mul (show 2+(ms.length:Int)<=10 by omega) hp (by omega) (by decide)
  exact ⟨486,by omega,by decide,by omega,nn,by omega⟩
theorem OnceI.done {ms ps:List Int}{u B:Int}(h:OnceI ms [] ps u B) (h1:∀ m∈ms,(1:Int)<=m) (hB:6<=B) (hb:(2+(ms.length:Int)) * prodL ms+sizT ms * (B+2)<=3960):PcK ms ps:=by
 have hu:=h.ule h1
 have hP:=prodL_one ms h1
 rw [show 2+((ms.length:Int) - (([]:List Int).length:Int))=2+(ms.length:Int) by simp] at hu
 have:=Int.mul_nonneg (show 0<=2+(ms.length:Int) by omega) (show 0<=prodL ms by omega)
 exact ⟨h.len,(2+(ms.length:Int)) * prodL ms,B,by have:=h.sp;omega,h.pb,hB,this,hb⟩
theorem map_set' (xs:List Int) (j:Nat) (z:Int):(xs.map V.int).set j (.int z)=(xs.set j z).map V.int:=by
 rw [List.map_set]
theorem ix_in {n:Nat}{c:Int}(h0:0<=c) (h1:c < n):ixN n c=some c.toNat:=by
 unfold ixN
 rw [if_pos h0,if_pos (by omega)]
def spOnce (K:W.Frag) (a:Addr) (ns:List Int):Sp:=λ vs H Q E=>∃ (p:Addr) (l:Addr),vs=[.ref p,.ref l]/\(p=a/\SqL K H a (ns.map V.int)/\ns.length<=63/\∃ ms:List Int,H l=some (.lst (ms.map V.int))/\SzK ms/\∀ (ps:List Int) (r:Addr) (H':Hp),Ext H H'->H' r=some (.lst (ps.map V.int))->PcK ms ps->Q (.ref r) H')
theorem c_spOnce (K:W.Frag) (a:Addr) (ns:List Int) (p:Addr) (l:Addr) (H:Hp) (Q:VK) (E:XK):spOnce K a ns [.ref p,.ref l] H Q E=(p=a/\SqL K H a (ns.map V.int)/\ns.length<=63/\∃ ms:List Int,H l=some (.lst (ms.map V.int))/\SzK ms/\∀ (ps:List Int) (r:Addr) (H':Hp),Ext H H'->H' r=some (.lst (ps.map V.int))->PcK ms ps->Q (.ref r) H'):=spx2 (f:=λ (p:Addr) (l:Addr)=>[.ref p,.ref l]) (λ _ _ _ _ h=>by cases h;exact ⟨rfl,rfl⟩) p l
theorem l_spOnce (K:W.Frag) (a:Addr) (ns:List Int){vs:List V}{H:Hp}{Q:VK}{E:XK}(h:spOnce K a ns vs H Q E):vs.length=2:=spl2 h λ _ _=>rfl
theorem ok__law_once (T:Tx K mg t) (a:Addr) (ns:List Int):FnOk P w K mg base CX0 2 t.a__law_once t.d__law_once ["_law_script", "_law_sizes_here"] (spOnce K a ns):=by
 have G__law_draw:=ok__law_draw (P:=P) (w:=w) (base:=base) T a ns
 have G__law_digits:=ok__law_digits (P:=P) (w:=w) (base:=base) T
 refine T.F__law_once.ok c__law_once (λ vs H Q E h=>l_spOnce _ _ _ h) (λ cdv A outer s H vs Q E hr h=>?_)
 ·obtain ⟨_,l,rfl,rfl,hS,hl,ms,hm,hsz,kk⟩:=h
  rename_i a
  refine ⟨_,%[%[(2),_,_,_,_,c__law_once.nd,rfl,(Or.inl rfl),%[on_add,%[_|2],%[G__law_draw,(hr.mono (by decide)),∅,T.m__law_draw,T.F__law_draw.kp,T.b__law_draw,.nil,pass0,%[%[0|0],%[%[_|2],%[%[_|2],(@pa_nil _),∅|1],∅|1],∅|1],(by decide),∅,∅|5]|6],∅,(by trivial)|7],%[%[(3),_,_,_,_,c__law_once.nd,rfl,(Or.inl rfl),%[G__law_draw,(hr.mono (by decide)),∅,T.m__law_draw,T.F__law_draw.kp,T.b__law_draw,.nil,pass0,%[%[0|0],%[%[_|2],%[%[_|2],(@pa_nil _),∅|1],∅|1],∅|1],(by decide),∅,∅|5],∅,(by trivial)|7],%[%[(4),_,_,_,_,c__law_once.nd,rfl,(Or.inl rfl),%[G__law_digits,(hr.mono (by decide)),∅,T.m__law_digits,T.F__law_digits.kp,T.b__law_digits,.nil,pass0,%[%[G__law_draw,(hr.mono (by decide)),∅,T.m__law_draw,T.F__law_draw.kp,T.b__law_draw,.nil,pass0,%[%[0|0],%[%[_|2],%[%[_|2],(@pa_nil _),∅|1],∅|1],∅|1],(by decide),∅,∅|5],%[%[_|2],%[%[("len"),_,call_qLen,∅,T.z_len,(by decide +kernel),%[%[1|0],(@pa_nil _),∅|1],(by decide),(by decide),∅,∅|11],(@pa_nil _),∅|1],∅|1],∅|1],(by decide),∅,∅|5],∅,(by trivial)|7],%[%[(5),_,_,_,_,c__law_once.nd,rfl,(Or.inl rfl),%[op_nRep,%[%[%[_|2],(@pa_nil _),∅|1]|15],%[("len"),_,call_qLen,∅,T.z_len,(by decide +kernel),%[%[1|0],(@pa_nil _),∅|1],(by decide),(by decide),∅,∅|11]|6],∅,(by trivial)|7],%[%[(6),_,_,_,_,c__law_once.nd,rfl,(Or.inl rfl),(@pe_listrange _ _ _ _ _ _ _ rfl ∅ T.z_list ∅ T.z_range %[%[("len"),_,call_qLen,∅,T.z_len,(by decide +kernel),%[%[1|0],(@pa_nil _),∅|1],(by decide),(by decide),∅,∅|11],(@pa_nil _),∅|1] ∅ ∅ ∅),∅,(by trivial)|7],%[(@ps_while _ _ _ _ _ _ PassesOwn.never %[(op_qNe hr.units),%[6|0],%[(@pa_nil _)|15],(nomark _)|13] %[%[(7),_,_,_,_,c__law_once.nd,rfl,(Or.inl rfl),%[PySem.F.plainAttrs_list,PySem.F.slot_list_pop,PySem.F.type_list_pop,mt_nPopAt,%[6|0],%[%[on_mod,%[3|0],%[("len"),_,call_qLen,∅,T.z_len,(by decide +kernel),%[%[6|0],(@pa_nil _),∅|1],(by decide),(by decide),∅,∅|11]|6],(@pa_nil _),∅|1],∅,∅,∅,∅,∅|27],∅,(by trivial)|7],%[%[(3),_,_,_,_,c__law_once.nd,rfl,(Or.inl rfl),%[on_fdiv,%[3|0],%[on_add,%[("len"),_,call_qLen,∅,T.z_len,(by decide +kernel),%[%[6|0],(@pa_nil _),∅|1],(by decide),(by decide),∅,∅|11],%[_|2]|6]|6],∅,(by trivial)|7],%[(@ps_asg _ _ _ _ _ _ %[on_mul,%[2|0],%[ix_q,%[%[%[_|2],%[(@pe_un _ _ _ _ _ _ un_negN %[_|2]),%[%[_|2],%[(@pe_un _ _ _ _ _ _ un_negN %[_|2]),(@pa_nil _),∅|1],∅|1],∅|1],∅|1]|15],%[ix_q,%[4|0],%[7|0],(λ _ _=>rfl)|10],(λ _ _=>rfl)|10]|6] (@pg_sub _ _ _ _ _ _ _ %[5|0] %[7|0] set_list (by intros;rfl)) ∅ ∅ ∅),%[%[(2),_,_,_,_,c__law_once.nd,rfl,(Or.inl rfl),%[on_add,%[on_mul,%[2|0],%[ix_q,%[1|0],%[7|0],(λ _ _=>rfl)|10]|6],%[on_fdiv,%[ix_q,%[4|0],%[7|0],(λ _ _=>rfl)|10],%[_|2]|6]|6],∅,(by trivial)|7]|4]|3]|3]|3]),%[%[%[5|0]|8]|4]|3]|3]|3]|3]|3]|3],?_⟩
  rw [show start ["_law_script", "_law_sizes_here", "_law_unit", "_law_turn", "_law_signs", "_law_paces", "_law_left", "_law_axis"] [.ref a,.ref l]=[some (.ref a),some (.ref l),none,none,none,none,none,none] from rfl]
  clear G__law_draw G__law_digits
  have h8:=hsz.pos.2.1
  have one:∀ m∈ms,(1:Int)<=m:=λ m hm=>(hsz.pos.1 m hm).1
  have m6:∀ m∈ms,m<=6:=λ m hm=>(hsz.pos.1 m hm).2
  have p60:=hsz.pos.2.2
  obtain ⟨B,hB1,hB6,hBb,_,_⟩:=hsz.bounds
  replace kk:=λ (_:Unit)=>kk
  replace one:=λ (_:Unit)=>one
  replace m6:=λ (_:Unit)=>m6
  replace hB1:=λ (_:Unit)=>hB1
  replace hBb:=λ (_:Unit)=>hBb
  have n8:(ms.length:Int)<=8:=by omega
  ac_rfl
  rw [c_spDraw]
  refine ⟨hS,hl,⟨by decide,by decide⟩,by decide,λ u0 u00 u01=>?_⟩
  ac_rfl
  rw [c_spDraw]
  refine ⟨hS,hl,⟨by decide,by decide⟩,by decide,λ tn t0 t1=>?_⟩
  ac_rfl
  rw [c_spDraw]
  refine ⟨hS,hl,⟨by decide,by decide⟩,by decide,λ c c0 c1=>?_⟩
  ac_rfl
  rw [c_spDigits]
  refine ⟨by decide,by decide,by omega,n8,λ ds d H1 hd1 e1 h1 hdl hdb=>?_⟩
  have hm1:=e1.at hm
  have hle:((List.replicate ms.length [V.int 0]).flatten).length<=sizeLine:=by rw [rep_ints,List.length_map,List.length_replicate];exact len5000 (by omega)
  ac_rfl
  intro z1 H2 hz1 e2 h2
  have hm2:=e2.at hm1
  clear hz1
  ac_rfl
  refine ⟨by omega,by omega,len5000 (by simp;omega),?_⟩
  intro r H3 hr3 e3 h3
  rw [Int.toNat_natCast,rep_ints] at h3
  have hm3:=e3.at hm2
  clear hm1 hm2 h2
  ac_rfl
  rw [x_kLR]
  refine ⟨by omega,by omega,?_⟩
  intro lf H4 hlf e4 h4
  have hrng:rngV (ms.length:Int)=((List.range ms.length).map λ (i:Nat)=>(i:Int)).map V.int:=by unfold rngV;rw [List.map_map,Int.toNat_natCast];rfl
  rw [hrng] at h4
  have h3_4:=e4.at h3
  have e04:=e1.trans (e2.trans (e3.trans e4))
  have hm4:=e04.at hm
  have h1_4:=(e2.trans (e3.trans e4)).at h1
  have hlf0:H lf=none:=(e1.trans (e2.trans e3)).free hlf
  have hr0:H r=none:=(e1.trans e2).free hr3
  have hlr:lf ≠ r:=λ z=>by rw [z,h3] at hlf;cases hlf
  have nl:l ≠ lf:=λ z=>by rw [←z,hm3] at hlf;cases hlf
  have nlr:l ≠ r:=λ z=>by rw [←z,(e1.trans e2).at hm] at hr3;cases hr3
  have ndf:d ≠ lf:=λ z=>by rw [←z,(e2.trans e3).at h1] at hlf;cases hlf
  have ndr:d ≠ r:=λ z=>by rw [←z,e2.at h1] at hr3;cases hr3
  have ini:=OnceI.init (ms:=ms) (B:=B) (one ()) (show 1<=1+u0 by omega) (by omega) (by omega)
  replace hdl:=λ (_:Unit)=>hdl
  replace hdb:=λ (_:Unit)=>hdb
  clear h1 h3 hm3 hd1 hrng e1 e2 e3 e4 hlf hr3 hsz p60 c0 c1 t1 u00 u01
  ac_rfl
  refine while_w (by repeat' first|exact mo_tV|exact mo_nI0|exact mo_nI|apply mo_nTest|apply mo_unN|exact mo_var|exact mo_c|exact mo_rI0|exact mo_rI|exact mo_rIsN|exact mo_rNotN|exact mo_qEq|exact mo_qIx|exact mo_nil|exact mo_qLen|apply mo_test|apply mo_tB|apply mo_not|apply mo_and|apply mo_or|apply mo_op|apply mo_un|apply mo_cons|apply mo_qLst|apply mo_cb) (λ m σ H'=>∃ (ls ps:List Int) (u tn:Int) (v7:Option V),σ=[some (.ref a),some (.ref l),some (.int u),some (.int tn),some (.ref d),some (.ref r),some (.ref lf),v7]/\m=ls.length/\Ext H H'/\H' l=some (.lst (ms.map V.int))/\H' lf=some (.lst (ls.map V.int))/\H' r=some (.lst (ps.map V.int))/\H' d=some (.lst (ds.map V.int))/\0<=tn/\OnceI ms ls ps u B) _ ⟨_,_,_,tn,none,rfl,rfl,e04,hm4,h4,h3_4,h1_4,t0,ini⟩ ?_
  rintro m _ H5 ⟨ls,ps,u,tn,v7,rfl,rfl,e5,hm5,hl5,hr5,hd5,tn0,hI⟩
  clear h4 h3_4 h1_4 hm4 e04 ini
  cases ls with
  | nil=>
   have fin:=hI.done (one ()) hB6 (hBb ())
   replace fin:=λ (_:Unit)=>fin
   clear hI
   ac_rfl
   intro q H6 hq e6 h6
   have hl6:=e6.at hl5
   have k1:=kk () ps r H6 (e5.trans e6) (e6.at hr5) (fin ())
   clear hl5 kk fin hq
   ac_rfl
  | cons l0 ls=>
   have hlen:=hI.lle
   rw [List.length_cons] at hlen
   have hule:=hI.ule (one ())
   have hu1:=hI.u1
   have hsub:=hI.sub
   replace hI:=λ (_:Unit)=>hI
   replace hule:=λ (_:Unit)=>hule
   replace hsub:=λ (_:Unit)=>hsub
   ac_rfl
   intro q H6 hq e6 h6
   have hl6:=e6.at hl5
   clear hl5 hq
   have i0:=Int.emod_nonneg tn (show ((ls.length+1:Nat):Int) ≠ 0 by omega)
   have i1:=Int.emod_lt_of_pos tn (show (0:Int) < ((ls.length+1:Nat):Int) by omega)
   ac_rfl
   generalize hix:(tn % ((ls.length+1:Nat):Int))=ix at i0 i1 ⊢
   refine ⟨by omega,by omega,?_⟩
   obtain ⟨x,hx⟩:∃ x,(l0::ls)[ix.toNat]? = some x:=⟨_,List.getElem?_eq_getElem (by rw [List.length_cons];omega)⟩
   have hx':(V.int l0::List.map V.int ls)[ix.toNat]? = some (.int x):=by
    show ((l0::ls).map V.int)[ix.toNat]? = _
    rw [List.getElem?_map,hx];rfl
   have hxm:0<=x/\x < (ms.length:Int):=hsub () x (List.mem_of_getElem? hx)
   have her:(V.int l0::List.map V.int ls).eraseIdx ix.toNat=((l0::ls).eraseIdx ix.toNat).map V.int:=by
    rw [show (V.int l0::List.map V.int ls)=(l0::ls).map V.int from rfl,erase_ints]
   have hle':((l0::ls).eraseIdx ix.toNat).length=ls.length:=by rw [List.length_eraseIdx_of_lt (by rw [List.length_cons];omega)];rfl
   rw [hx',optK_some,m_kPopA2,her]
   have hpe:=erase_perm hx
   generalize (l0::ls).eraseIdx ix.toNat=es at hle' hpe ⊢
   have hl7:(upd H6 lf (.lst (es.map V.int))) lf=some (.lst (es.map V.int)):=upd_same
   have hr7:(upd H6 lf (.lst (es.map V.int))) r=some (.lst (ps.map V.int)):=by rw [upd_ne (Ne.symm hlr)];exact e6.at hr5
   have hd7:(upd H6 lf (.lst (es.map V.int))) d=some (.lst (ds.map V.int)):=by rw [upd_ne ndf];exact e6.at hd5
   have hm7:(upd H6 lf (.lst (es.map V.int))) l=some (.lst (ms.map V.int)):=by rw [upd_ne nl];exact e6.at hm5
   have e7:Ext H (upd H6 lf (.lst (es.map V.int))):=(e5.trans e6).put hlf0
   generalize upd H6 lf (.lst (es.map V.int))=H7 at hl7 hr7 hd7 hm7 e7 ⊢
   obtain ⟨z,hz,hzm⟩:=atI_ints ds x hxm.1 (by have:=hdl ();omega)
   have hzb:=hdb () z hzm
   have hat:=at_vals (vals:=ms) hxm.1 hxm.2
   have hin:=getD_in (ms:=ms) hxm.1 hxm.2
   have hs1:=one () _ hin
   have hs6:=m6 () _ hin
   have hpl:ps.length=ms.length:=(hI ()).len
   have hixp:ixN ps.length x=some x.toNat:=ix_in hxm.1 (by rw [hpl];exact hxm.2)
   replace hule:u<=3960:=by
    have hP:=prodL_one ms (one ())
    have hb:=hBb ()
    have:=hule ()
    rw [List.length_cons] at this
    have m1:(2+((ms.length:Int) - ((ls.length+1:Nat):Int))) * prodL ms<=(2+(ms.length:Int)) * prodL ms:=Int.mul_le_mul_of_nonneg_right (by omega) (by omega)
    have nn:=Int.mul_nonneg (sizT_nn (one ())) (show 0<=B+2 by omega)
    omega
   have cmz:CMul u (ms.getD x.toNat 0):=.inr ⟨by omega,by omega⟩
   have stp:=λ (b p:Int) hb0 hb1 hpu=>(hI ()).step (b:=b) (p:=p) (one ()) hpe hb0 hb1 hpu (hB1 ())
   replace stp:=λ (_:Unit)=>stp
   replace hzb:=λ (_:Unit)=>hzb
   replace hs1:=λ (_:Unit)=>hs1
   replace hs6:=λ (_:Unit)=>hs6
   replace hpl:=λ (_:Unit)=>hpl
   clear hl6 hr5 hd5 hm5 h6 hx' her hx hix hI hsub hpe hin i0 i1 e5 e6
   ac_rfl
   refine ⟨(by omega),?_⟩
   intro w2 H8 hw2 e8 h8
   have hd8:=e8.at hd7
   clear hw2
   ac_rfl
   refine optK_ints (λ j=>j=1\/j=-1) (hzb ()).1 (show z < 4 from (hzb ()).2) (λ v hv=>?_) λ j hj=>?_
   ·simp only [List.mem_cons,List.not_mem_nil,or_false] at hv
    rcases hv with rfl|rfl|rfl|rfl
    ·exact ⟨_,rfl,.inl rfl⟩
    ·exact ⟨_,rfl,.inr rfl⟩
    ·exact ⟨_,rfl,.inl rfl⟩
    ·exact ⟨_,rfl,.inr rfl⟩
   have hja:((u * j).natAbs:Int)=u:=by
    rcases hj with rfl|rfl
    ·rw [Int.mul_one];omega
    ·omega
   have cmj:CMul u j:=.inl ⟨by omega,by omega⟩
   have hr8:=e8.at hr7
   have hz2:0<=z / 2/\z / 2<=1:=by have:=hzb ();omega
   have fin:=λ (_:Unit)=>stp () (z / 2) (u * j) hz2.1 hz2.2 hja
   clear h8 stp hj hja
   ac_rfl
   rw [map_set']
   have hm9:upd H8 r (.lst ((ps.set x.toNat (u * j)).map V.int)) l=some (.lst (ms.map V.int)):=by rw [upd_ne nlr];exact e8.at hm7
   have hl9:upd H8 r (.lst ((ps.set x.toNat (u * j)).map V.int)) lf=some (.lst (es.map V.int)):=by rw [upd_ne hlr];exact e8.at hl7
   have hd9:upd H8 r (.lst ((ps.set x.toNat (u * j)).map V.int)) d=some (.lst (ds.map V.int)):=by rw [upd_ne ndr];exact hd8
   have hr9:upd H8 r (.lst ((ps.set x.toNat (u * j)).map V.int)) r=some (.lst ((ps.set x.toNat (u * j)).map V.int)):=upd_same
   have e9:Ext H (upd H8 r (.lst ((ps.set x.toNat (u * j)).map V.int))):=(e7.trans e8).put hr0
   generalize upd H8 r (.lst ((ps.set x.toNat (u * j)).map V.int))=H9 at hm9 hl9 hd9 hr9 e9 ⊢
   clear hr8 hd8 hr7 hd7 hm7 hl7 e8
   ac_rfl
   exact ⟨es.length,by omega,es,ps.set x.toNat (u * j),_,_,_,rfl,rfl,e9,rfl,rfl,Int.ediv_nonneg tn0 (by omega),fin ()⟩
def OtK (ms ps qs:List Int):Prop:=qs.length=ms.length/\∀ B:Int,6<=B->(∀ p∈ps,(p.natAbs:Int)<=B)->∀ q∈qs,(q.natAbs:Int)<=B+2
theorem cut_from (xs:List V) (z:Int) (h:0<=z):cutV xs (some z) none=xs.drop z.toNat:=by
 unfold cutV
 obtain ⟨n,rfl⟩:=Int.eq_ofNat_of_zero_le h
 rw [HT.sIx_none,HT.sIx_nat]
 show _=xs.drop n
 rcases Nat.le_total n xs.length with q|q
 ·rw [Nat.min_eq_left q]
  exact List.take_of_length_le (by rw [List.length_drop];omega)
 ·rw [Nat.min_eq_right q,List.drop_of_length_le (Nat.le_refl _),List.drop_of_length_le q,List.take_nil]
theorem cut_to (xs:List V) (z:Int) (h:0<=z):cutV xs none (some z)=xs.take z.toNat:=by
 unfold cutV
 obtain ⟨n,rfl⟩:=Int.eq_ofNat_of_zero_le h
 rw [HT.sIx_none,HT.sIx_nat,List.drop_zero,Nat.sub_zero]
 show xs.take (min n xs.length)=xs.take n
 rcases Nat.le_total n xs.length with q|q
 ·rw [Nat.min_eq_left q]
 ·rw [Nat.min_eq_right q,List.take_length,List.take_of_length_le q]
theorem use_cat {l b:Addr}{xs ys:List V}{H:Hp}{Q:VK}(h:H l=some (.lst xs)) (h':H b=some (.lst ys)) (hl:xs.length+ys.length<=sizeLine) (q:newK (.lst (xs++ys)) H Q):kOp' nCat (.ref l) Q (.ref b) H:=by
 rw [m_kOp',m_nCat,lstAt,h]
 show optK (lstAt H b) (kNC2 xs H Q)
 rw [lstAt,h']
 exact ⟨hl,q⟩
theorem OtK.refl {ms ps:List Int}(h:ps.length=ms.length):OtK ms ps ps:=⟨h,λ B _ hb q hq=>by have:=hb q hq;omega⟩
theorem OtK.put {ms ps:List Int}{x:Nat}{z:Int}(h:ps.length=ms.length) (hx:x < ps.length) (hz:∀ B:Int,6<=B->(∀ p∈ps,(p.natAbs:Int)<=B)->(z.natAbs:Int)<=B+2):OtK ms ps (ps.take x++[z]++ps.drop (x+1)):=by
 refine ⟨by rw [List.length_append,List.length_append,List.length_take,List.length_drop,List.length_singleton];omega,λ B h6 hb q hq=>?_⟩
 rcases List.mem_append.mp hq with hq|hq
 ·rcases List.mem_append.mp hq with hq|hq
  ·have:=hb q (List.mem_of_mem_take hq);omega
  ·rw [List.mem_singleton.mp hq];exact hz B h6 hb
 ·have:=hb q (List.mem_of_mem_drop hq);omega
theorem OtK.turn {ms ps:List Int}{x:Nat}(h:ps.length=ms.length) (hx:x < ps.length):OtK ms ps (ps.drop x++ps.take x):=by
 refine ⟨by rw [List.length_append,List.length_take,List.length_drop];omega,λ B h6 hb q hq=>?_⟩
 rcases List.mem_append.mp hq with hq|hq
 ·have:=hb q (List.mem_of_mem_drop hq);omega
 ·have:=hb q (List.mem_of_mem_take hq);omega
theorem OtK.small {ms ps qs:List Int}(h:qs.length=ms.length) (hq:∀ q∈qs,-6<=q/\q<=6):OtK ms ps qs:=⟨h,λ B h6 _ q hm=>by have:=hq q hm;omega⟩
def spOthP (K:W.Frag) (a:Addr) (ns:List Int):Sp:=λ vs H Q E=>∃ (p:Addr) (l:Addr),vs=[.ref p,.ref l]/\(p=a/\SqL K H a (ns.map V.int)/\ns.length<=63/\∃ ms ps:List Int,H l=some (.lst (ps.map V.int))/\ps.length=ms.length/\ps.length<=8/\∀ (qs:List Int) (r:Addr) (H':Hp),Ext H H'->H' r=some (.lst (qs.map V.int))->OtK ms ps qs->Q (.ref r) H')
theorem c_spOthP (K:W.Frag) (a:Addr) (ns:List Int) (p:Addr) (l:Addr) (H:Hp) (Q:VK) (E:XK):spOthP K a ns [.ref p,.ref l] H Q E=(p=a/\SqL K H a (ns.map V.int)/\ns.length<=63/\∃ ms ps:List Int,H l=some (.lst (ps.map V.int))/\ps.length=ms.length/\ps.length<=8/\∀ (qs:List Int) (r:Addr) (H':Hp),Ext H H'->H' r=some (.lst (qs.map V.int))->OtK ms ps qs->Q (.ref r) H'):=spx2 (f:=λ (p:Addr) (l:Addr)=>[.ref p,.ref l]) (λ _ _ _ _ h=>by cases h;exact ⟨rfl,rfl⟩) p l
theorem l_spOthP (K:W.Frag) (a:Addr) (ns:List Int){vs:List V}{H:Hp}{Q:VK}{E:XK}(h:spOthP K a ns vs H Q E):vs.length=2:=spl2 h λ _ _=>rfl
theorem ok__law_others (T:Tx K mg t) (a:Addr) (ns:List Int):FnOk P w K mg base CX0 2 t.a__law_others t.d__law_others ["_law_script", "_law_paces"] (spOthP K a ns):=by
 have G__law_draw:=ok__law_draw (P:=P) (w:=w) (base:=base) T a ns
 have G__law_digits:=ok__law_digits (P:=P) (w:=w) (base:=base) T
 refine T.F__law_others.ok c__law_others (λ vs H Q E h=>l_spOthP _ _ _ h) (λ cdv A outer s H vs Q E hr h=>?_)
 ·obtain ⟨_,l,rfl,rfl,hS,hl,ms,ps,hp,hpl,hp8,kk⟩:=h
  rename_i a
  refine ⟨_,%[%[(2),_,_,_,_,c__law_others.nd,rfl,(Or.inl rfl),%[G__law_draw,(hr.mono (by decide)),∅,T.m__law_draw,T.F__law_draw.kp,T.b__law_draw,.nil,pass0,%[%[0|0],%[%[_|2],%[%[_|2],(@pa_nil _),∅|1],∅|1],∅|1],(by decide),∅,∅|5],∅,(by trivial)|7],%[%[(3),_,_,_,_,c__law_others.nd,rfl,(Or.inl rfl),%[G__law_draw,(hr.mono (by decide)),∅,T.m__law_draw,T.F__law_draw.kp,T.b__law_draw,.nil,pass0,%[%[0|0],%[%[_|2],%[%[_|2],(@pa_nil _),∅|1],∅|1],∅|1],(by decide),∅,∅|5],∅,(by trivial)|7],%[%[(PW.pt %[%[on_lt,%[2|0],%[_|2],(nomark _)|13],(@pw_or1 _ _ _ _ %[(op_qEq hr.units),%[1|0],%[(@pa_nil _)|15],(nomark _)|13])|28]),%[%[(@pe_callTy _ _ _ _ _ _ _ _ _ call_nList ∅ T.z_list (by decide +kernel) %[%[1|0],(@pa_nil _),∅|1] (by decide) (by decide) ∅ ∅)|8]|4],(@pss_nil _)|14],%[%[(4),_,_,_,_,c__law_others.nd,rfl,(Or.inl rfl),%[on_mod,%[3|0],%[("len"),_,call_qLen,∅,T.z_len,(by decide +kernel),%[%[1|0],(@pa_nil _),∅|1],(by decide),(by decide),∅,∅|11]|6],∅,(by trivial)|7],%[%[%[(op_qEq hr.units),%[2|0],%[_|2],(nomark _)|13],%[%[%[op_nCat,%[op_nCat,%[sl_n,%[1|0],(@po_none _),(@po_some _ _ _ %[4|0])|29],%[%[%[on_sub,%[_|2],%[ix_q,%[1|0],%[4|0],(λ _ _=>rfl)|10]|6],(@pa_nil _),∅|1]|15]|6],%[sl_n,%[1|0],(@po_some _ _ _ %[on_add,%[4|0],%[_|2]|6]),(@po_none _)|29]|6]|8]|4],(@pss_nil _)|14],%[%[%[(op_qEq hr.units),%[2|0],%[_|2],(nomark _)|13],%[%[%[op_nCat,%[sl_n,%[1|0],(@po_some _ _ _ %[4|0]),(@po_none _)|29],%[sl_n,%[1|0],(@po_none _),(@po_some _ _ _ %[4|0])|29]|6]|8]|4],(@pss_nil _)|14],%[%[%[(op_qEq hr.units),%[2|0],%[_|2],(nomark _)|13],%[%[%[(["_law_digit", "_law_script", "_law_paces", "_law_way", "_law_k", "_law_axis"]),(1),(comp_ok (defScope s__law_others) ["_law_script", "_law_paces", "_law_way", "_law_k", "_law_axis"] rfl rfl (by decide +kernel)),rfl,%[%[G__law_digits,(hr.mono (by decide)),∅,T.m__law_digits,T.F__law_digits.kp,T.b__law_digits,.nil,pass0,%[%[G__law_draw,(hr.mono (by decide)),∅,T.m__law_draw,T.F__law_draw.kp,T.b__law_draw,.nil,pass0,%[%[0|0],%[%[_|2],%[%[_|2],(@pa_nil _),∅|1],∅|1],∅|1],(by decide),∅,∅|5],%[%[_|2],%[%[("len"),_,call_qLen,∅,T.z_len,(by decide +kernel),%[%[1|0],(@pa_nil _),∅|1],(by decide),(by decide),∅,∅|11],(@pa_nil _),∅|1],∅|1],∅|1],(by decide),∅,∅|5]|16],(λ C s₀ H₀ ex pn=>%[(0),_,(show List.Nodup (["_law_digit", "_law_script", "_law_paces", "_law_way", "_law_k", "_law_axis"]:List Str) from by decide +kernel),rfl,(Or.inl rfl),(by trivial)|9]),(λ C s₀ H₀ ex pn=>(@pts_nil _)),(λ C s₀ H₀ ex pn=>%[on_sub,%[0|0],%[_|2]|6]),(by intros;rfl)|21]|8]|4],(@pss_nil _)|14],%[%[%[(op_qEq hr.units),%[2|0],%[_|2],(nomark _)|13],%[%[%[op_nCat,%[op_nCat,%[sl_n,%[1|0],(@po_none _),(@po_some _ _ _ %[4|0])|29],%[%[%[_|2],(@pa_nil _),∅|1]|15]|6],%[sl_n,%[1|0],(@po_some _ _ _ %[on_add,%[4|0],%[_|2]|6]),(@po_none _)|29]|6]|8]|4],(@pss_nil _)|14],%[%[%[op_nCat,%[op_nCat,%[sl_n,%[1|0],(@po_none _),(@po_some _ _ _ %[4|0])|29],%[%[%[on_add,%[ix_q,%[1|0],%[4|0],(λ _ _=>rfl)|10],%[ix_q,%[%[%[_|2],%[(@pe_un _ _ _ _ _ _ un_negN %[_|2]),%[%[_|2],(@pa_nil _),∅|1],∅|1],∅|1]|15],%[on_mod,%[on_fdiv,%[3|0],%[_|2]|6],%[_|2]|6],(λ _ _=>rfl)|10]|6],(@pa_nil _),∅|1]|15]|6],%[sl_n,%[1|0],(@po_some _ _ _ %[on_add,%[4|0],%[_|2]|6]),(@po_none _)|29]|6]|8]|4]|3]|3]|3]|3]|3]|3]|3]|3],?_⟩
  rw [show start ["_law_script", "_law_paces", "_law_way", "_law_k", "_law_axis"] [.ref a,.ref l]=[some (.ref a),some (.ref l),none,none,none] from rfl]
  clear G__law_draw G__law_digits
  replace kk:=λ (_:Unit)=>kk
  replace hpl:=λ (_:Unit)=>hpl
  ac_rfl
  rw [c_spDraw]
  refine ⟨hS,hl,⟨by decide,by decide⟩,by decide,λ wy w0 w1=>?_⟩
  ac_rfl
  rw [c_spDraw]
  refine ⟨hS,hl,⟨by decide,by decide⟩,by decide,λ k k0 k1=>?_⟩
  by_cases hw3:wy < 3
  ·ac_rfl
   intro r1 H1 hr1 e1 h1
   exact kk () ps r1 H1 e1 h1 (OtK.refl (hpl ()))
  ·cases hps:ps with
   | nil=>
    have hp':H l=some (.lst []):=by rw [hp,hps];rfl
    clear hp
    ac_rfl
    intro r1 H1 hr1 e1 h1
    have hp1:=e1.at hp'
    clear hr1 hp'
    ac_rfl
    intro r2 H2 hr2 e2 h2
    exact kk () ps r2 H2 (e1.trans e2) (by rw [h2,hps];rfl) (OtK.refl (hpl ()))
   | cons y0 ys=>
   have hpos:0 < (ps.length:Int):=by rw [hps,List.length_cons];omega
   have hne:¬ ps=[]:=λ z=>by rw [hps] at z;cases z
   have hp':H l=some (.lst (.int y0::ys.map V.int)):=by rw [hp,hps];rfl
   have hlen:ps.length=ys.length+1:=by rw [hps];rfl
   have x0:=Int.emod_nonneg k (show (ps.length:Int) ≠ 0 by omega)
   have x1:=Int.emod_lt_of_pos k hpos
   obtain ⟨x,hx⟩:∃ x,k % ((ys.length+1:Nat):Int)=x:=⟨_,rfl⟩
   rw [hlen,hx] at x0 x1
   clear hp
   ac_rfl
   intro r1 H1 hr1 e1 h1
   have hp1:=e1.at hp'
   have hS1:=e1.2 K a _ hS
   clear hr1 hp'
   have hcons:V.int y0::ys.map V.int=ps.map V.int:=by rw [hps];rfl
   have hxl:x.toNat < ps.length:=by omega
   have hat:atI (V.int y0::ys.map V.int) x=some (.int (ps.getD x.toNat 0)):=by rw [hcons];exact at_vals x0 (by rw [hlen];exact x1)
   have hpin:ps.getD x.toNat 0∈ps:=by
    rw [List.getD,List.getElem?_eq_getElem hxl]
    exact List.getElem_mem hxl
   have hpos':(0:Int) < ((ys.length+1:Nat):Int):=by omega
   have ct:=cut_to (.int y0::ys.map V.int) x x0
   have cf:=cut_from (.int y0::ys.map V.int) x x0
   have cf1:=cut_from (.int y0::ys.map V.int) (x+1) (by omega)
   rw [show (x+1).toNat=x.toNat+1 by omega] at cf1
   have hys:ys.length+1<=8:=by omega
   replace hcons:=λ (_:Unit)=>hcons
   replace hlen:=λ (_:Unit)=>hlen
   clear hps hpos hne hS hp8
   by_cases h3:wy=3
   ·ac_rfl
    intro r2 H2 hr2 e2 h2
    have hp2:=e2.at hp1
    have hS2:=e2.2 K a _ hS1
    clear hr2
    ac_rfl
    intro q2 G2 hq2 g2 k2
    have h_2:=g2.at h2
    have hp_2:=g2.at hp2
    clear hq2 h2 hp2
    refine use_cat h_2 k2 (len5000 (by rw [List.length_take,List.length_singleton,List.length_cons,List.length_map];omega)) ?_
    intro q3 G3 hq3 g3 k3
    have hp_3:=g3.at hp_2
    clear hq3 h_2 k2 hp_2
    ac_rfl
    intro q4 G4 hq4 g4 k4
    have k3_4:=g4.at k3
    clear hq4 k3 hp_3
    refine use_cat k3_4 k4 (len5000 (by rw [List.length_append,List.length_take,List.length_drop,List.length_singleton,List.length_cons,List.length_map];omega)) ?_
    intro q5 G5 hq5 g5 k5
    have fin:=kk () (ps.take x.toNat++[0 - ps.getD x.toNat 0]++ps.drop (x.toNat+1)) q5 G5 (e1.trans (e2.trans (g2.trans (g3.trans (g4.trans g5))))) (by rw [k5,hcons (),List.map_append,List.map_append,List.map_take,List.map_drop];rfl) (OtK.put (hpl ()) hxl λ B h6 hb=>by have:=hb _ hpin;omega)
    clear kk k3_4 k4 k5
    ac_rfl
   by_cases h4:wy=4
   ·ac_rfl
    intro r2 H2 hr2 e2 h2
    have hp2:=e2.at hp1
    clear hr2
    ac_rfl
    intro r3 H3 hr3 e3 h3'
    have h2_3:=e3.at h2
    clear hr3 h2 hp2
    refine use_cat h2_3 h3' (len5000 (by rw [List.length_take,List.length_drop,List.length_cons,List.length_map];omega)) ?_
    intro r4 H4 hr4 e4 h4'
    have fin:=kk () (ps.drop x.toNat++ps.take x.toNat) r4 H4 (e1.trans (e2.trans (e3.trans e4))) (by rw [h4',hcons (),List.map_append,List.map_take,List.map_drop]) (OtK.turn (hpl ()) hxl)
    clear kk h2_3 h3' h4'
    ac_rfl
   by_cases h5:wy=5
   ·ac_rfl
    rw [c_spDraw]
    refine ⟨hS1,hl,⟨by decide,by decide⟩,by decide,λ c c0 c1=>?_⟩
    ac_rfl
    rw [c_spDigits]
    refine ⟨by decide,by decide,by omega,by omega,λ ds d H2 hd2 e2 h2 hdl hdb=>?_⟩
    have hd8:ds.length<=9:=by omega
    replace hdl:=λ (_:Unit)=>hdl
    replace hdb:=λ (_:Unit)=>hdb
    clear hd2
    ac_rfl
    refine comp_fm (ds.map V.int) (λ _=>true) (λ z=>.int (vi z - 6)) (λ z x H'=>x=z/\H' d=some (.lst (ds.map V.int))) (wk_lst h2).1 (wk_lst h2).2 (len5000 (by rw [List.length_map];omega)) ?_ ?_
    ·intro D z y H' N1 N0 hz hD e ⟨hy,_⟩ kx _
     subst hy
     obtain ⟨i,_,rfl⟩:=List.mem_map.mp hz
     have k1':N1 (.int (i - 6)) H':=kx rfl H' (Ext.refl _)
     clear kx kk hz
     simp! only [↓m_kCm_1,↓m_kCm2]
    ·intro D H3 hD e3 h3'
     rw [filt,List.map_map] at h3'
     have fin:=kk () (ds.map λ i=>i - 6) D H3 (e1.trans (e2.trans e3)) (by rw [h3',List.map_map];rfl) (OtK.small (by rw [List.length_map,←hpl ()];have:=hdl ();have:=hlen ();omega) λ q hq=>by
      obtain ⟨i,hi,rfl⟩:=List.mem_map.mp hq
      have:=hdb () i hi
      omega)
     clear kk h3'
     ac_rfl
   by_cases h6:wy=6
   ·ac_rfl
    intro r2 H2 hr2 e2 h2
    have hp2:=e2.at hp1
    have hS2:=e2.2 K a _ hS1
    clear hr2
    ac_rfl
    intro q2 G2 hq2 g2 k2
    have h_2:=g2.at h2
    have hp_2:=g2.at hp2
    clear hq2 h2 hp2
    refine use_cat h_2 k2 (len5000 (by rw [List.length_take,List.length_singleton,List.length_cons,List.length_map];omega)) ?_
    intro q3 G3 hq3 g3 k3
    have hp_3:=g3.at hp_2
    clear hq3 h_2 k2 hp_2
    ac_rfl
    intro q4 G4 hq4 g4 k4
    have k3_4:=g4.at k3
    clear hq4 k3 hp_3
    refine use_cat k3_4 k4 (len5000 (by rw [List.length_append,List.length_take,List.length_drop,List.length_singleton,List.length_cons,List.length_map];omega)) ?_
    intro q5 G5 hq5 g5 k5
    have fin:=kk () (ps.take x.toNat++[0]++ps.drop (x.toNat+1)) q5 G5 (e1.trans (e2.trans (g2.trans (g3.trans (g4.trans g5))))) (by rw [k5,hcons (),List.map_append,List.map_append,List.map_take,List.map_drop];rfl) (OtK.put (hpl ()) hxl λ B h6 hb=>by show (0:Int)<=B+2;omega)
    clear kk k3_4 k4 k5
    ac_rfl
   ·have m0:=Int.emod_nonneg (k / 8) (show (3:Int) ≠ 0 by decide)
    have m1:=Int.emod_lt_of_pos (k / 8) (show (0:Int) < 3 by decide)
    ac_rfl
    intro r2 H2 hr2 e2 h2
    have hp2:=e2.at hp1
    have hS2:=e2.2 K a _ hS1
    clear hr2
    ac_rfl
    intro q1 G1 hq1 g1 k1
    clear hq1
    ac_rfl
    refine optK_ints (λ j=>-1<=j/\j<=2) m0 m1 (λ v hv=>?_) λ j hj=>?_
    ·simp only [List.mem_cons,List.not_mem_nil,or_false] at hv
     rcases hv with rfl|rfl|rfl<;>exact ⟨_,rfl,by decide⟩
    clear k1
    ac_rfl
    intro q2 G2 hq2 g2 k2
    have h_2:=(g1.trans g2).at h2
    have hp_2:=(g1.trans g2).at hp2
    clear hq2 h2 hp2
    refine use_cat h_2 k2 (len5000 (by rw [List.length_take,List.length_singleton,List.length_cons,List.length_map];omega)) ?_
    intro q3 G3 hq3 g3 k3
    have hp_3:=g3.at hp_2
    clear hq3 h_2 k2 hp_2
    ac_rfl
    intro q4 G4 hq4 g4 k4
    have k3_4:=g4.at k3
    clear hq4 k3 hp_3
    refine use_cat k3_4 k4 (len5000 (by rw [List.length_append,List.length_take,List.length_drop,List.length_singleton,List.length_cons,List.length_map];omega)) ?_
    intro q5 G5 hq5 g5 k5
    have fin:=kk () (ps.take x.toNat++[ps.getD x.toNat 0+j]++ps.drop (x.toNat+1)) q5 G5 (e1.trans (e2.trans (g1.trans (g2.trans (g3.trans (g4.trans g5)))))) (by rw [k5,hcons (),List.map_append,List.map_append,List.map_take,List.map_drop];rfl) (OtK.put (hpl ()) hxl λ B h6 hb=>by have:=hb _ hpin;omega)
    clear kk k3_4 k4 k5
    ac_rfl
def spLst  : Sp:=λ vs H Q E=>∃ (l:Addr) (r:Addr),vs=[.ref l,.ref r]/\(∃ ms ps:List Int,H l=some (.lst (ms.map V.int))/\H r=some (.lst (ps.map V.int))/\(∀ m∈ms,1<=m/\m<=6)/\ms.length<=8/\ps.length=ms.length/\∀ H',Ext H H'->Q (.int (leastL (ms.zip ps))) H')
theorem c_spLst  (l:Addr) (r:Addr) (H:Hp) (Q:VK) (E:XK):spLst  [.ref l,.ref r] H Q E=(∃ ms ps:List Int,H l=some (.lst (ms.map V.int))/\H r=some (.lst (ps.map V.int))/\(∀ m∈ms,1<=m/\m<=6)/\ms.length<=8/\ps.length=ms.length/\∀ H',Ext H H'->Q (.int (leastL (ms.zip ps))) H'):=spx2 (f:=λ (l:Addr) (r:Addr)=>[.ref l,.ref r]) (λ _ _ _ _ h=>by cases h;exact ⟨rfl,rfl⟩) l r
theorem l_spLst  {vs:List V}{H:Hp}{Q:VK}{E:XK}(h:spLst  vs H Q E):vs.length=2:=spl2 h λ _ _=>rfl
theorem ok__law_least (T:Tx K mg t):FnOk P w K mg base CX0 1 t.a__law_least t.d__law_least ["_law_sizes_here", "_law_paces"] spLst:=by
 refine T.F__law_least.ok c__law_least (λ vs H Q E h=>l_spLst h) (λ cdv A outer s H vs Q E hr h=>?_)
 ·obtain ⟨l,r,rfl,ms,ps,hm,hp,h6,h8,hpl,k⟩:=h
  refine ⟨_,%[%[%[("sum"),_,(call_qSum rfl),∅,T.z_sum,(by decide +kernel),%[%[(["_law_size", "_law_pace", "_law_sizes_here", "_law_paces"]),(2),(comp_ok (defScope s__law_least) ["_law_sizes_here", "_law_paces"] rfl rfl (by decide +kernel)),rfl,(@pi_zip _ _ _ _ _ _ _ _ _ ∅ T.z_zip %[%[0|0],%[%[1|0],(@pa_nil _),∅|1],∅|1] ∅ ∅),(λ C s₀ H₀ ex pn=>(%[(2),rfl,%[%[(0),_,(show List.Nodup (["_law_size", "_law_pace", "_law_sizes_here", "_law_paces"]:List Str) from by decide +kernel),rfl,(Or.inl rfl),(by trivial)|9],%[%[(1),_,(show List.Nodup (["_law_size", "_law_pace", "_law_sizes_here", "_law_paces"]:List Str) from by decide +kernel),rfl,(Or.inl rfl),(by trivial)|9],(@pgs_nilN _),∅|12],∅|12],∅,∅|24].mono λ _ _ _ _ h=>gTup_q h)),(λ C s₀ H₀ ex pn=>(@pts_nil _)),(λ C s₀ H₀ ex pn=>%[("min"),_,(call_qMin rfl),∅,T.z_min,(by decide +kernel),%[%[_|2],%[%[on_mul,%[1|0],%[on_sub,%[0|0],%[_|2]|6]|6],(@pa_nil _),∅|1],∅|1],(by decide),(by decide),∅,∅|11]),(by intros;rfl)|21],(@pa_nil _),∅|1],(by decide),(by decide),∅,∅|11]|8]|4],?_⟩
  rw [show start ["_law_sizes_here", "_law_paces"] [.ref l,.ref r]=[some (.ref l),some (.ref r)] from rfl]
  replace h6:=λ (_:Unit)=>h6
  ac_rfl
  refine comp_fm ((ms.map V.int).zip (ps.map V.int)) (λ _=>true) (λ z=>.int (min 0 ((vi z.1 - 1) * vi z.2))) zipP (wk_zip (ka:=false) (kb:=false) hm hp).1 (wk_zip (ka:=false) (kb:=false) hm hp).2 (len5000 (by rw [List.length_zip,List.length_map,List.length_map];omega)) ?_ ?_
  ·intro D z y H' N1 N0 hz hD e ⟨u,hu,hu2⟩ k1 _
   subst hu
   obtain ⟨x0,n0⟩:=z
   have hmz:=List.of_mem_zip hz
   obtain ⟨a,ha,rfl⟩:=List.mem_map.mp hmz.1
   obtain ⟨b,hb2,rfl⟩:=List.mem_map.mp hmz.2
   have k1':N1 (.int (min 0 ((a - 1) * b))) H':=k1 rfl H' (Ext.refl _)
   have ca:=h6 () a ha
   have hcm:CMul b (a - 1):=.inr ⟨by omega,by omega⟩
   rw [min0,Int.mul_comm] at k1'
   clear k1 hmz hz k
   simp! only [↓m_kCm_2,↓m_kCm2]
  ·intro D H' hD e hD'
   have hD2:H' D=some (.lst (((ms.zip ps).map λ a=>min 0 ((a.1 - 1) * a.2)).map V.int)):=by
    rw [hD',filt,List.zip_map,List.map_map,List.map_map];rfl
   have hsum:((ms.zip ps).map λ a=>min 0 ((a.1 - 1) * a.2)).sum=leastL (ms.zip ps):=rfl
   have k2:=k H' e
   clear k hD'
   ac_rfl
def spMst  : Sp:=λ vs H Q E=>∃ (l:Addr) (r:Addr),vs=[.ref l,.ref r]/\(∃ ms ps:List Int,H l=some (.lst (ms.map V.int))/\H r=some (.lst (ps.map V.int))/\(∀ m∈ms,1<=m/\m<=6)/\ms.length<=8/\ps.length=ms.length/\∀ H',Ext H H'->Q (.int (greatL (ms.zip ps))) H')
theorem c_spMst  (l:Addr) (r:Addr) (H:Hp) (Q:VK) (E:XK):spMst  [.ref l,.ref r] H Q E=(∃ ms ps:List Int,H l=some (.lst (ms.map V.int))/\H r=some (.lst (ps.map V.int))/\(∀ m∈ms,1<=m/\m<=6)/\ms.length<=8/\ps.length=ms.length/\∀ H',Ext H H'->Q (.int (greatL (ms.zip ps))) H'):=spx2 (f:=λ (l:Addr) (r:Addr)=>[.ref l,.ref r]) (λ _ _ _ _ h=>by cases h;exact ⟨rfl,rfl⟩) l r
theorem l_spMst  {vs:List V}{H:Hp}{Q:VK}{E:XK}(h:spMst  vs H Q E):vs.length=2:=spl2 h λ _ _=>rfl
theorem ok__law_most (T:Tx K mg t):FnOk P w K mg base CX0 1 t.a__law_most t.d__law_most ["_law_sizes_here", "_law_paces"] spMst:=by
 refine T.F__law_most.ok c__law_most (λ vs H Q E h=>l_spMst h) (λ cdv A outer s H vs Q E hr h=>?_)
 ·obtain ⟨l,r,rfl,ms,ps,hm,hp,h6,h8,hpl,k⟩:=h
  refine ⟨_,%[%[%[("sum"),_,(call_qSum rfl),∅,T.z_sum,(by decide +kernel),%[%[(["_law_size", "_law_pace", "_law_sizes_here", "_law_paces"]),(2),(comp_ok (defScope s__law_most) ["_law_sizes_here", "_law_paces"] rfl rfl (by decide +kernel)),rfl,(@pi_zip _ _ _ _ _ _ _ _ _ ∅ T.z_zip %[%[0|0],%[%[1|0],(@pa_nil _),∅|1],∅|1] ∅ ∅),(λ C s₀ H₀ ex pn=>(%[(2),rfl,%[%[(0),_,(show List.Nodup (["_law_size", "_law_pace", "_law_sizes_here", "_law_paces"]:List Str) from by decide +kernel),rfl,(Or.inl rfl),(by trivial)|9],%[%[(1),_,(show List.Nodup (["_law_size", "_law_pace", "_law_sizes_here", "_law_paces"]:List Str) from by decide +kernel),rfl,(Or.inl rfl),(by trivial)|9],(@pgs_nilN _),∅|12],∅|12],∅,∅|24].mono λ _ _ _ _ h=>gTup_q h)),(λ C s₀ H₀ ex pn=>(@pts_nil _)),(λ C s₀ H₀ ex pn=>%[("max"),_,(call_qMax rfl),∅,T.z_max,(by decide +kernel),%[%[_|2],%[%[on_mul,%[1|0],%[on_sub,%[0|0],%[_|2]|6]|6],(@pa_nil _),∅|1],∅|1],(by decide),(by decide),∅,∅|11]),(by intros;rfl)|21],(@pa_nil _),∅|1],(by decide),(by decide),∅,∅|11]|8]|4],?_⟩
  rw [show start ["_law_sizes_here", "_law_paces"] [.ref l,.ref r]=[some (.ref l),some (.ref r)] from rfl]
  replace h6:=λ (_:Unit)=>h6
  ac_rfl
  refine comp_fm ((ms.map V.int).zip (ps.map V.int)) (λ _=>true) (λ z=>.int (max 0 ((vi z.1 - 1) * vi z.2))) zipP (wk_zip (ka:=false) (kb:=false) hm hp).1 (wk_zip (ka:=false) (kb:=false) hm hp).2 (len5000 (by rw [List.length_zip,List.length_map,List.length_map];omega)) ?_ ?_
  ·intro D z y H' N1 N0 hz hD e ⟨u,hu,hu2⟩ k1 _
   subst hu
   obtain ⟨x0,n0⟩:=z
   have hmz:=List.of_mem_zip hz
   obtain ⟨a,ha,rfl⟩:=List.mem_map.mp hmz.1
   obtain ⟨b,hb2,rfl⟩:=List.mem_map.mp hmz.2
   have k1':N1 (.int (max 0 ((a - 1) * b))) H':=k1 rfl H' (Ext.refl _)
   have ca:=h6 () a ha
   have hcm:CMul b (a - 1):=.inr ⟨by omega,by omega⟩
   rw [max0,Int.mul_comm] at k1'
   clear k1 hmz hz k
   simp! only [↓m_kCm_2,↓m_kCm2]
  ·intro D H' hD e hD'
   have hD2:H' D=some (.lst (((ms.zip ps).map λ a=>max 0 ((a.1 - 1) * a.2)).map V.int)):=by
    rw [hD',filt,List.zip_map,List.map_map,List.map_map];rfl
   have hsum:((ms.zip ps).map λ a=>max 0 ((a.1 - 1) * a.2)).sum=greatL (ms.zip ps):=rfl
   have k2:=k H' e
   clear k hD'
   ac_rfl
def spKCl  : Sp:=λ vs H Q E=>∃ (f:Int) (l:Addr) (q:Addr),vs=[.int f,.ref l,.ref q]/\(∃ ms ps:List Int,H l=some (.lst (ms.map V.int))/\H q=some (.lst (ps.map V.int))/\(∀ m∈ms,1<=m/\m<=6)/\ms.length<=8/\ps.length=ms.length/\prodL ms<=60/\∀ (r:Addr) (H':Hp),Ext H H'->H' r=some (.lst ((cellsL f (ms.zip ps)).map V.int))->Q (.ref r) H')
theorem c_spKCl  (f:Int) (l:Addr) (q:Addr) (H:Hp) (Q:VK) (E:XK):spKCl  [.int f,.ref l,.ref q] H Q E=(∃ ms ps:List Int,H l=some (.lst (ms.map V.int))/\H q=some (.lst (ps.map V.int))/\(∀ m∈ms,1<=m/\m<=6)/\ms.length<=8/\ps.length=ms.length/\prodL ms<=60/\∀ (r:Addr) (H':Hp),Ext H H'->H' r=some (.lst ((cellsL f (ms.zip ps)).map V.int))->Q (.ref r) H'):=spx3 (f:=λ (f:Int) (l:Addr) (q:Addr)=>[.int f,.ref l,.ref q]) (λ _ _ _ _ _ _ h=>by cases h;exact ⟨rfl,rfl,rfl⟩) f l q
theorem l_spKCl  {vs:List V}{H:Hp}{Q:VK}{E:XK}(h:spKCl  vs H Q E):vs.length=3:=spl3 h λ _ _ _=>rfl
theorem ok__law_cells (T:Tx K mg t):FnOk P w K mg base CX0 1 t.a__law_cells t.d__law_cells ["_law_first", "_law_sizes_here", "_law_paces"] spKCl:=by
 refine T.F__law_cells.ok c__law_cells (λ vs H Q E h=>l_spKCl h) (λ cdv A outer s H vs Q E hr h=>?_)
 ·obtain ⟨first,l,q,rfl,ms,ps,hm,hp,h6,h8,hpl,hpr,k⟩:=h
  refine ⟨_,%[%[(3),_,_,_,_,c__law_cells.nd,rfl,(Or.inl rfl),%[%[%[0|0],(@pa_nil _),∅|1]|15],∅,(by trivial)|7],%[%[PassesOwn.never,rfl,(@pi_zip _ _ _ _ _ _ _ _ _ ∅ T.z_zip %[%[1|0],%[%[2|0],(@pa_nil _),∅|1],∅|1] ∅ ∅),(%[(2),rfl,%[%[(4),_,c__law_cells.nd,rfl,(Or.inl rfl),(by trivial)|9],%[%[(5),_,c__law_cells.nd,rfl,(Or.inr rfl),(by trivial)|9],(@pgs_nilN _),∅|12],∅|12],∅,∅|24].mono λ _ _ _ _ h=>gTup_q h),%[%[(6),_,_,_,_,c__law_cells.nd,rfl,(Or.inl rfl),%[(@pa_nil _)|15],∅,(by trivial)|7],%[%[PassesOwn.never,rfl,%[%[3|0]|16],%[(7),_,c__law_cells.nd,rfl,(Or.inr rfl),(by trivial)|9],%[%[%[PySem.F.plainAttrs_list,PySem.F.slot_list_extend,PySem.F.type_list_extend,mt_extend,%[6|0],%[%[(["_law_k", "_law_first", "_law_sizes_here", "_law_paces", "_law_found", "_law_size", "_law_pace", "_law_longer", "_law_cell"]),(1),(comp_ok (defScope s__law_cells) ["_law_first", "_law_sizes_here", "_law_paces", "_law_found", "_law_size", "_law_pace", "_law_longer", "_law_cell"] rfl rfl (by decide +kernel)),rfl,%[∅,T.z_range,%[%[4|0],(@pa_nil _),∅|1],∅|30],(λ C s₀ H₀ ex pn=>%[(0),_,(show List.Nodup (["_law_k", "_law_first", "_law_sizes_here", "_law_paces", "_law_found", "_law_size", "_law_pace", "_law_longer", "_law_cell"]:List Str) from by decide +kernel),rfl,(Or.inl rfl),(by trivial)|9]),(λ C s₀ H₀ ex pn=>(@pts_nil _)),(λ C s₀ H₀ ex pn=>%[on_add,%[8|0],%[on_mul,%[6|0],%[0|0]|6]|6]),(by intros;rfl)|21],(@pa_nil _),∅|1],∅,∅,∅,∅,∅|27],∅|19]|4],(by intros;rfl)|18],%[%[(3),_,_,_,_,c__law_cells.nd,rfl,(Or.inl rfl),%[6|0],∅,(by trivial)|7]|4]|3]|3],(by intros;rfl)|18],%[%[%[3|0]|8]|4]|3]|3],?_⟩
  rw [show start ["_law_first", "_law_sizes_here", "_law_paces", "_law_found", "_law_size", "_law_pace", "_law_longer", "_law_cell"] [.int first,.ref l,.ref q]=[some (.int first),some (.ref l),some (.ref q),none,none,none,none,none] from rfl]
  have hfst:(ms.zip ps).map (λ a=>a.1)=ms:=by
   rw [show (λ a:Int × Int=>a.1)=Prod.fst from rfl,List.map_fst_zip (by omega)]
  have hpos:∀ a∈ms.zip ps,(1:Int)<=a.1:=λ a ha=>(h6 a.1 (List.of_mem_zip (show (a.1,a.2)∈ms.zip ps from ha)).1).1
  replace hpos:=λ (_:Unit)=>hpos
  replace hfst:=λ (_:Unit)=>hfst
  replace h6:=λ (_:Unit)=>h6
  replace k:=λ (_:Unit)=>k
  ac_rfl
  intro r H1 hr1 e1 h1
  have hm1:=e1.at hm
  have hp1:=e1.at hp
  ac_rfl
  refine for_zip (ka:=false) (kb:=false) (xs:=ms.map V.int) (ys:=ps.map V.int) (λ i σ H'=>∃ (r:Addr) (v4 v5 v6 v7:Option V),σ=[some (.int first),some (.ref l),some (.ref q),some (.ref r),v4,v5,v6,v7]/\Ext H H'/\H' r=some (.lst ((cellsL first ((ms.zip ps).take i)).map V.int))) ⟨r,none,none,none,none,rfl,e1,h1⟩ (λ i σ H' ⟨_,_,_,_,_,_,e,_⟩=>⟨e.at hm,e.at hp⟩) ?_ ?_
  ·rintro i x y w' _ H2 H3 hx hy ⟨r,v4,v5,v6,v7,rfl,e2,h2⟩ hw e3 h3
   rw [List.getElem?_map] at hx hy
   obtain ⟨a,ha,rfl⟩:=Option.map_eq_some_iff.mp hx
   obtain ⟨b,hb,rfl⟩:=Option.map_eq_some_iff.mp hy
   have hab:(ms.zip ps)[i]? = some (a,b):=by rw [List.getElem?_zip_eq_some];exact ⟨ha,hb⟩
   have ham:=h6 () a (List.mem_of_getElem? ha)
   have hlen:(cellsL first ((ms.zip ps).take i)).length * a.toNat<=60:=by
    have hl4:=cellsL_len first ((ms.zip ps).take i) λ b hb=>hpos () b (List.mem_of_mem_take hb)
    have hpp:=prodL_take_le ms (λ n hn=>(h6 () n hn).1) (i+1)
    rw [prodL_take _ i a ha] at hpp
    rw [List.map_take,hfst ()] at hl4
    rw [←hl4] at hpp
    have hza:((a.toNat:Nat):Int)=a:=Int.toNat_of_nonneg (by omega)
    have:(((cellsL first ((ms.zip ps).take i)).length * a.toNat:Nat):Int)<=60:=by rw [Int.natCast_mul,hza];omega
    omega
   have hsn:cellsL first ((ms.zip ps).take (i+1))=wideL (cellsL first ((ms.zip ps).take i)) (a,b):=by
    rw [List.take_add_one,hab]
    show cellsL first ((ms.zip ps).take i++[(a,b)])=_
    rw [cellsL_snoc]
   rw [hsn]
   have h2_3:=e3.at h2
   have e03:=e2.trans e3
   generalize cellsL first ((ms.zip ps).take i)=cs at hlen h2_3 h2
   replace hlen:=λ (_:Unit)=>hlen
   clear hsn hx hy ha hb hab hw h2 e2 e3 h1 hr1 hm1 hp1 e1
   simp! only [↓m_kBody]
   intro g H4 hg4 e4 h4
   have h2_4:=e4.at h2_3
   have hg0:H g=none:=e03.free hg4
   ac_rfl
   refine for_lst (xs:=cs.map V.int) (λ j σ H'=>∃ v7:Option V,σ=[some (.int first),some (.ref l),some (.ref q),some (.ref r),some (.int a),some (.int b),some (.ref g),v7]/\Ext H H'/\Ext H3 H'/\H' g=some (.lst ((wideL (cs.take j) (a,b)).map V.int))) ⟨_,rfl,e03.trans e4,e4,h4⟩ (λ j σ H' _ ⟨_,_,_,e,_⟩=>e.at h2_3) ?_ ?_
   ·rintro j x _ H5 hj ⟨v7',rfl,e5,e35,h5⟩
    rw [List.getElem?_map] at hj
    obtain ⟨c,hc,rfl⟩:=Option.map_eq_some_iff.mp hj
    have hjl:j < cs.length:=(List.getElem?_eq_some_iff.mp hc).1
    have hwl:(wideL (cs.take j) (a,b)).length+a.toNat<=60:=by
     rw [wideL_len,List.length_take]
     show min j cs.length * a.toNat+a.toNat<=60
     have:(min j cs.length+1) * a.toNat<=cs.length * a.toNat:=Nat.mul_le_mul_right _ (by omega)
     rw [Nat.add_mul,Nat.one_mul] at this
     have:=hlen ()
     omega
    rw [wideL_take cs (a,b) j c hc]
    generalize wideL (cs.take j) (a,b)=ws at h5 hwl
    clear hj hc h2_4 h4 e4 k
    simp! only [↓m_kBody]
    refine ⟨by omega,by omega,?_⟩
    refine comp_fm (List.range a.toNat) (λ _=>true) (λ m=>.int (c+(m:Int) * b)) (λ j x H'=>x=.int (0+(j:Nat))) wk_rng.1 wk_rng.2 (len5000 (by rw [List.length_range];omega)) ?_ ?_
    ·intro D m x H' N1 N0 hm' hD e hx k1 _
     subst hx
     have hmr:=List.mem_range.mp hm'
     have k1':N1 (.int (c+b * (0+(m:Int)))) H':=by
      rw [Int.zero_add,Int.mul_comm b]
      exact k1 rfl H' (Ext.refl _)
     have hcm:CMul b (0+(m:Int)):=.inr ⟨by omega,by omega⟩
     clear k1 hm'
     simp! only [↓m_kCm_1,↓m_kCm2]
    ·intro D H6 hD e6 h6'
     rw [filt] at h6'
     have h5_6:=e6.at h5
     have hll:ws.length+(List.range a.toNat).length<=sizeLine:=len5000 (by rw [List.length_range];omega)
     clear h5
     ac_rfl
     refine ⟨_,rfl,(e5.trans e6).put hg0,(e35.trans e6).put hg4,?_⟩
     rw [List.map_append,List.map_map]
     rfl
   ·rintro _ H5 ⟨v7',rfl,e5,e35,h5⟩
    rw [List.length_map,List.take_length] at h5
    ac_rfl
    exact ⟨g,_,_,_,_,rfl,e5,h5⟩
  ·rintro _ H3 ⟨r3,v4,v5,v6,v7,rfl,e3,h3⟩
   have hmn:min (ms.map V.int).length (ps.map V.int).length=(ms.zip ps).length:=by rw [List.length_map,List.length_map,List.length_zip]
   rw [hmn,List.take_length] at h3
   ac_rfl
   exact k () r3 H3 e3 h3
theorem wide_kept (cs:List Int) (a:Int × Int) (h:1<=a.1):wideL cs (keptA a)=wideL cs a:=by
 unfold wideL
 show (cs.flatMap λ c=>(List.range a.1.toNat).map λ (n:Nat)=>c+(n:Int) * (if a.1 > 1 then a.2 else 0))=_
 by_cases h1:a.1 > 1
 ·rw [if_pos h1]
 ·rw [if_neg h1]
  have e:a.1.toNat=1:=by omega
  rw [e]
  refine congrArg (λ f=>cs.flatMap f) (funext λ c=>?_)
  simp
theorem fold_kept:∀ (axs:List (Int × Int)) (cs:List Int),(∀ a∈axs,(1:Int)<=a.1)->(axs.map keptA).foldl wideL cs=axs.foldl wideL cs
 | [],cs,_=>rfl
 | a::r,cs,h=>by
  rw [List.map_cons,List.foldl_cons,List.foldl_cons,wide_kept cs a (h a List.mem_cons_self),fold_kept r _ λ b hb=>h b (List.mem_cons_of_mem _ hb)]
theorem cells_kept (f:Int) (axs:List (Int × Int)) (h:∀ a∈axs,(1:Int)<=a.1):cellsL f (axs.map keptA)=cellsL f axs:=fold_kept axs [f] h
theorem kept_sizes (axs:List (Int × Int)):(axs.map keptA).map (λ a=>a.1)=axs.map λ a=>a.1:=by rw [List.map_map];rfl
theorem kept_axes {axs:List (Int × Int)}(h:Axes axs):Axes (axs.map keptA):=⟨by rw [List.length_map];exact h.1,λ a ha=>by
 obtain ⟨b,hb,rfl⟩:=List.mem_map.mp ha
 exact h.2 b hb⟩
theorem span_kept:∀ l:List (Int × Int),(∀ a∈l,(1:Int)<=a.1)->leastL (l.map keptA)=leastL l/\greatL (l.map keptA)=greatL l
 | [],_=>⟨rfl,rfl⟩
 | a::r,h=>by
  obtain ⟨i1,i2⟩:=span_kept r λ b hb=>h b (List.mem_cons_of_mem _ hb)
  have ha:=h a List.mem_cons_self
  have e:((keptA a).1 - 1) * (keptA a).2=(a.1 - 1) * a.2:=by
   show (a.1 - 1) * (if a.1 > 1 then a.2 else 0)=_
   split
   ·rfl
   ·have:a.1=1:=by omega
    rw [this];simp
  rw [List.map_cons,leastL_cons,greatL_cons,leastL_cons,greatL_cons,e,i1,i2]
  exact ⟨rfl,rfl⟩
theorem zip_ints (ms ws:List Int):(ms.map V.int).zip (ws.map V.int)=(ms.zip ws).map λ z=>(V.int z.1,V.int z.2):=by
 rw [List.zip_map];rfl
theorem al_zip {H:Hp}{ms ws:List Int}{ts:List V}(al:Al (λ z y=>zipP z y H) ((ms.map V.int).zip (ws.map V.int)) ts):Al (TupV H) (axL (ms.zip ws)) ts:=by
 rw [zip_ints] at al
 refine ⟨by rw [al.1];unfold axL;rw [List.length_map,List.length_map],λ i z y hz hy=>?_⟩
 unfold axL at hz
 rw [List.getElem?_map] at hz
 obtain ⟨x,hx,rfl⟩:=Option.map_eq_some_iff.mp hz
 obtain ⟨p,hp,hq⟩:=al.2 i (V.int x.1,V.int x.2) y (by rw [List.getElem?_map,hx];rfl) hy
 exact ⟨p,hp,hq⟩
theorem small_pc {ms ps:List Int}(h:SzK ms) (hl:ps.length=ms.length) (hp:∀ p∈ps,-3<=p/\p<=3):PcK ms ps:=by
 obtain ⟨_,_,_,_,t0,t15⟩:=h.bounds
 have one:∀ m∈ms,(1:Int)<=m:=λ m hm=>(h.pos.1 m hm).1
 have hs:=span_le48 ms ps 3 one hl (λ p hq=>by have:=hp p hq;omega) (by decide)
 exact ⟨hl,sizT ms * 3,6,hs,λ p hq=>by have:=hp p hq;omega,by decide,by omega,by omega⟩
structure OneK (ms:List Int) (room f:Int) (ps:List Int):Prop where
 len:ps.length=ms.length
 lo:0<=f+leastL (ms.zip ps)
 hi:f+greatL (ms.zip ps) < room
theorem zip_axes {ms ps:List Int}(h:SzK ms) (hl:ps.length=ms.length):Axes (ms.zip ps):=⟨by rw [List.length_zip];have:=h.pos.2.1;omega,λ a ha=>by
 have:=h.pos.1 a.1 (List.of_mem_zip (show (a.1,a.2)∈ms.zip ps from ha)).1
 omega⟩
theorem zip_fst {ms ps:List Int}(hl:ps.length=ms.length):(ms.zip ps).map (λ a=>a.1)=ms:=by
 rw [show (λ a:Int × Int=>a.1)=Prod.fst from rfl,List.map_fst_zip (by omega)]
theorem OneK.view {ms ps:List Int}{room f:Int}(h:OneK ms room f ps) (hs:SzK ms) (r1:1<=room) (r2:room<=4096):ViewOk room f (ms.zip ps):=by
 have hax:=zip_axes hs h.len
 obtain ⟨g1,g2⟩:=span_kept (ms.zip ps) λ a ha=>(hax.2 a ha).1
 have:=h.lo
 have:=h.hi
 exact ⟨hax,r1,by omega,by rw [g1];omega,by rw [g2];omega⟩
theorem two_bound {ms ps qs:List Int}(hs:SzK ms) (hp:PcK ms ps) (hq:OtK ms ps qs):∃ S1 S2:Int,greatL (ms.zip ps) - leastL (ms.zip ps)<=S1/\greatL (ms.zip qs) - leastL (ms.zip qs)<=S2/\S1+S2<=3960/\leastL (ms.zip ps)<=0/\0<=greatL (ms.zip ps)/\leastL (ms.zip qs)<=0/\0<=greatL (ms.zip qs):=by
 have one:∀ m∈ms,(1:Int)<=m:=λ m hm=>(hs.pos.1 m hm).1
 obtain ⟨hl,S,B,h1,h2,h3,h4,h5⟩:=hp
 obtain ⟨a1,a2,a3,_⟩:=span_zip ms ps one hl
 obtain ⟨b1,b2,b3,_⟩:=span_zip ms qs one hq.1
 have hb:=span_le48 ms qs (B+2) one hq.1 (hq.2 B h3 h2) (by omega)
 exact ⟨S,sizT ms * (B+2),by omega,by omega,h5,a2,a3,b2,b3⟩
def spTwo (K:W.Frag) (a:Addr) (ns:List Int) (C:Addr):Sp:=λ vs H Q E=>∃ (p:Addr) (l:Addr),vs=[.ref p,.ref l]/\(p=a/\SqL K H a (ns.map V.int)/\ns.length<=63/\∃ ms:List Int,H l=some (.lst (ms.map V.int))/\SzK ms/\∀ (room f1 f2:Int) (ps qs:List Int) (x1 x2 c1 c2 r:Addr) (H':Hp),Ext H H'->H' r=some (.tup [.ref x1,.ref x2,.ref c1,.ref c2])->ViewAt C H' x1 room f1 ((ms.zip ps).map keptA)->ViewAt C H' x2 room f2 ((ms.zip qs).map keptA)->H' c1=some (.lst ((cellsL f1 (ms.zip ps)).map V.int))->H' c2=some (.lst ((cellsL f2 (ms.zip qs)).map V.int))->OneK ms room f1 ps->OneK ms room f2 qs->1<=room->room<=4096->Q (.ref r) H')
theorem c_spTwo (K:W.Frag) (a:Addr) (ns:List Int) (C:Addr) (p:Addr) (l:Addr) (H:Hp) (Q:VK) (E:XK):spTwo K a ns C [.ref p,.ref l] H Q E=(p=a/\SqL K H a (ns.map V.int)/\ns.length<=63/\∃ ms:List Int,H l=some (.lst (ms.map V.int))/\SzK ms/\∀ (room f1 f2:Int) (ps qs:List Int) (x1 x2 c1 c2 r:Addr) (H':Hp),Ext H H'->H' r=some (.tup [.ref x1,.ref x2,.ref c1,.ref c2])->ViewAt C H' x1 room f1 ((ms.zip ps).map keptA)->ViewAt C H' x2 room f2 ((ms.zip qs).map keptA)->H' c1=some (.lst ((cellsL f1 (ms.zip ps)).map V.int))->H' c2=some (.lst ((cellsL f2 (ms.zip qs)).map V.int))->OneK ms room f1 ps->OneK ms room f2 qs->1<=room->room<=4096->Q (.ref r) H'):=spx2 (f:=λ (p:Addr) (l:Addr)=>[.ref p,.ref l]) (λ _ _ _ _ h=>by cases h;exact ⟨rfl,rfl⟩) p l
theorem l_spTwo (K:W.Frag) (a:Addr) (ns:List Int) (C:Addr){vs:List V}{H:Hp}{Q:VK}{E:XK}(h:spTwo K a ns C vs H Q E):vs.length=2:=spl2 h λ _ _=>rfl
theorem ok__law_two (T:Tx K mg t) (a:Addr) (ns:List Int):FnOk P w K mg base CX0 8 t.a__law_two t.d__law_two ["_law_script", "_law_sizes_here"] (spTwo K a ns t.a_View):=by
 have G__law_draw:=ok__law_draw (P:=P) (w:=w) (base:=base) T a ns
 have G__law_digits:=ok__law_digits (P:=P) (w:=w) (base:=base) T
 have G__law_once:=ok__law_once (P:=P) (w:=w) (base:=base) T a ns
 have G__law_others:=ok__law_others (P:=P) (w:=w) (base:=base) T a ns
 have G__law_least:=ok__law_least (P:=P) (w:=w) (base:=base) T
 have G__law_most:=ok__law_most (P:=P) (w:=w) (base:=base) T
 have G__law_cells:=ok__law_cells (P:=P) (w:=w) (base:=base) T
 have G_View___init__:=ok_View___init__ (P:=P) (w:=w) (base:=base) T
 refine T.F__law_two.ok c__law_two (λ vs H Q E h=>l_spTwo _ _ _ _ h) (λ cdv A outer s H vs Q E hr h=>?_)
 ·obtain ⟨_,l,rfl,rfl,hS,hl,ms,hm,hsz,kk⟩:=h
  rename_i a
  refine ⟨_,%[%[(2),_,_,_,_,c__law_two.nd,rfl,(Or.inl rfl),%[G__law_once,(hr.mono (by decide)),∅,T.m__law_once,T.F__law_once.kp,T.b__law_once,.nil,pass0,%[%[0|0],%[%[1|0],(@pa_nil _),∅|1],∅|1],(by decide),∅,∅|5],∅,(by trivial)|7],%[%[%[(op_qEq hr.units),%[G__law_draw,(hr.mono (by decide)),∅,T.m__law_draw,T.F__law_draw.kp,T.b__law_draw,.nil,pass0,%[%[0|0],%[%[_|2],%[%[_|2],(@pa_nil _),∅|1],∅|1],∅|1],(by decide),∅,∅|5],%[_|2],(nomark _)|13],%[(@ps_setC _ _ _ _ _ _ _ _ _ _ _ _ _ (["_law_digit", "_law_script", "_law_sizes_here", "_law_paces", "_law_others_here", "_law_first", "_law_begin", "_law_last", "_law_room", "_law_one", "_law_other"]) (1) (2) _ c__law_two.nd rfl (Or.inl rfl) (comp_ok (defScope s__law_two) ["_law_script", "_law_sizes_here", "_law_paces", "_law_others_here", "_law_first", "_law_begin", "_law_last", "_law_room", "_law_one", "_law_other"] rfl rfl (by decide +kernel)) rfl %[%[G__law_digits,(hr.mono (by decide)),∅,T.m__law_digits,T.F__law_digits.kp,T.b__law_digits,.nil,pass0,%[%[G__law_draw,(hr.mono (by decide)),∅,T.m__law_draw,T.F__law_draw.kp,T.b__law_draw,.nil,pass0,%[%[0|0],%[%[_|2],%[%[_|2],(@pa_nil _),∅|1],∅|1],∅|1],(by decide),∅,∅|5],%[%[_|2],%[%[("len"),_,call_qLen,∅,T.z_len,(by decide +kernel),%[%[1|0],(@pa_nil _),∅|1],(by decide),(by decide),∅,∅|11],(@pa_nil _),∅|1],∅|1],∅|1],(by decide),∅,∅|5]|16] (λ C s₀ H₀ ex pn=>%[(0),_,(show List.Nodup (["_law_digit", "_law_script", "_law_sizes_here", "_law_paces", "_law_others_here", "_law_first", "_law_begin", "_law_last", "_law_room", "_law_one", "_law_other"]:List Str) from by decide +kernel),rfl,(Or.inl rfl),(by trivial)|9]) (λ C s₀ H₀ ex pn=>(@pts_nil _)) (λ C s₀ H₀ ex pn=>%[on_sub,%[0|0],%[_|2]|6]) ∅ (by intros;rfl) (by trivial))|4],(@pss_nil _)|14],%[%[(3),_,_,_,_,c__law_two.nd,rfl,(Or.inl rfl),%[G__law_others,(hr.mono (by decide)),∅,T.m__law_others,T.F__law_others.kp,T.b__law_others,.nil,pass0,%[%[0|0],%[%[2|0],(@pa_nil _),∅|1],∅|1],(by decide),∅,∅|5],∅,(by trivial)|7],%[%[(4),_,_,_,_,c__law_two.nd,rfl,(Or.inl rfl),%[on_sub,%[G__law_draw,(hr.mono (by decide)),∅,T.m__law_draw,T.F__law_draw.kp,T.b__law_draw,.nil,pass0,%[%[0|0],%[%[_|2],%[%[_|2],(@pa_nil _),∅|1],∅|1],∅|1],(by decide),∅,∅|5],%[G__law_least,(hr.mono (by decide)),∅,T.m__law_least,T.F__law_least.kp,T.b__law_least,.nil,pass0,%[%[1|0],%[%[2|0],(@pa_nil _),∅|1],∅|1],(by decide),∅,∅|5]|6],∅,(by trivial)|7],%[%[(5),_,_,_,_,c__law_two.nd,rfl,(Or.inl rfl),%[on_sub,%[G__law_draw,(hr.mono (by decide)),∅,T.m__law_draw,T.F__law_draw.kp,T.b__law_draw,.nil,pass0,%[%[0|0],%[%[_|2],%[%[_|2],(@pa_nil _),∅|1],∅|1],∅|1],(by decide),∅,∅|5],%[G__law_least,(hr.mono (by decide)),∅,T.m__law_least,T.F__law_least.kp,T.b__law_least,.nil,pass0,%[%[1|0],%[%[3|0],(@pa_nil _),∅|1],∅|1],(by decide),∅,∅|5]|6],∅,(by trivial)|7],%[%[%[(op_qEq hr.units),%[G__law_draw,(hr.mono (by decide)),∅,T.m__law_draw,T.F__law_draw.kp,T.b__law_draw,.nil,pass0,%[%[0|0],%[%[_|2],%[%[_|2],(@pa_nil _),∅|1],∅|1],∅|1],(by decide),∅,∅|5],%[_|2],(nomark _)|13],%[%[(5),_,_,_,_,c__law_two.nd,rfl,(Or.inl rfl),%[("max"),_,(call_qMax rfl),∅,T.z_max,(by decide +kernel),%[%[on_add,%[4|0],%[ix_q,%[%[%[_|2],%[%[_|2],%[(@pe_un _ _ _ _ _ _ un_negN %[_|2]),(@pa_nil _),∅|1],∅|1],∅|1]|15],%[G__law_draw,(hr.mono (by decide)),∅,T.m__law_draw,T.F__law_draw.kp,T.b__law_draw,.nil,pass0,%[%[0|0],%[%[_|2],%[%[_|2],(@pa_nil _),∅|1],∅|1],∅|1],(by decide),∅,∅|5],(λ _ _=>rfl)|10]|6],%[%[on_sub,%[_|2],%[G__law_least,(hr.mono (by decide)),∅,T.m__law_least,T.F__law_least.kp,T.b__law_least,.nil,pass0,%[%[1|0],%[%[3|0],(@pa_nil _),∅|1],∅|1],(by decide),∅,∅|5]|6],(@pa_nil _),∅|1],∅|1],(by decide),(by decide),∅,∅|11],∅,(by trivial)|7]|4],(@pss_nil _)|14],%[%[(6),_,_,_,_,c__law_two.nd,rfl,(Or.inl rfl),%[("max"),_,(call_qMax rfl),∅,T.z_max,(by decide +kernel),%[%[on_add,%[4|0],%[G__law_most,(hr.mono (by decide)),∅,T.m__law_most,T.F__law_most.kp,T.b__law_most,.nil,pass0,%[%[1|0],%[%[2|0],(@pa_nil _),∅|1],∅|1],(by decide),∅,∅|5]|6],%[%[on_add,%[5|0],%[G__law_most,(hr.mono (by decide)),∅,T.m__law_most,T.F__law_most.kp,T.b__law_most,.nil,pass0,%[%[1|0],%[%[3|0],(@pa_nil _),∅|1],∅|1],(by decide),∅,∅|5]|6],(@pa_nil _),∅|1],∅|1],(by decide),(by decide),∅,∅|11],∅,(by trivial)|7],%[%[(7),_,_,_,_,c__law_two.nd,rfl,(Or.inl rfl),%[on_add,%[on_add,%[6|0],%[_|2]|6],%[G__law_draw,(hr.mono (by decide)),∅,T.m__law_draw,T.F__law_draw.kp,T.b__law_draw,.nil,pass0,%[%[0|0],%[%[_|2],%[%[_|2],(@pa_nil _),∅|1],∅|1],∅|1],(by decide),∅,∅|5]|6],∅,(by trivial)|7],%[%[(8),_,_,_,_,c__law_two.nd,rfl,(Or.inl rfl),%[T.mk_View,G_View___init__,(hr.mono (by decide)),∅,T.m_View,T.b_View___init__,.nil,pass0,%[%[7|0],%[%[4|0],%[(@pe_listzip _ _ _ _ _ _ _ _ rfl ∅ T.z_list ∅ T.z_zip %[%[1|0],%[%[2|0],(@pa_nil _),∅|1],∅|1] ∅ ∅ ∅ ∅),(@pa_nil _),∅|1],∅|1],∅|1],(by decide),∅,∅|31],∅,(by trivial)|7],%[%[(9),_,_,_,_,c__law_two.nd,rfl,(Or.inl rfl),%[T.mk_View,G_View___init__,(hr.mono (by decide)),∅,T.m_View,T.b_View___init__,.nil,pass0,%[%[7|0],%[%[5|0],%[(@pe_listzip _ _ _ _ _ _ _ _ rfl ∅ T.z_list ∅ T.z_zip %[%[1|0],%[%[3|0],(@pa_nil _),∅|1],∅|1] ∅ ∅ ∅ ∅),(@pa_nil _),∅|1],∅|1],∅|1],(by decide),∅,∅|31],∅,(by trivial)|7],%[%[%[%[%[8|0],%[%[9|0],%[%[G__law_cells,(hr.mono (by decide)),∅,T.m__law_cells,T.F__law_cells.kp,T.b__law_cells,.nil,pass0,%[%[4|0],%[%[1|0],%[%[2|0],(@pa_nil _),∅|1],∅|1],∅|1],(by decide),∅,∅|5],%[%[G__law_cells,(hr.mono (by decide)),∅,T.m__law_cells,T.F__law_cells.kp,T.b__law_cells,.nil,pass0,%[%[5|0],%[%[1|0],%[%[3|0],(@pa_nil _),∅|1],∅|1],∅|1],(by decide),∅,∅|5],(@pa_nil _),∅|1],∅|1],∅|1],∅|1]|23]|8]|4]|3]|3]|3]|3]|3]|3]|3]|3]|3]|3],?_⟩
  rw [show start ["_law_script", "_law_sizes_here", "_law_paces", "_law_others_here", "_law_first", "_law_begin", "_law_last", "_law_room", "_law_one", "_law_other"] [.ref a,.ref l]=[some (.ref a),some (.ref l),none,none,none,none,none,none,none,none] from rfl]
  clear G__law_draw G__law_digits G__law_once G__law_others G__law_least G__law_most G__law_cells G_View___init__
  have h8:=hsz.pos.2.1
  have p60:=hsz.pos.2.2
  have m6:=λ (_:Unit)=>hsz.pos.1
  replace kk:=λ (_:Unit)=>kk
  ac_rfl
  rw [c_spOnce]
  refine ⟨rfl,hS,hl,ms,hm,hsz,λ ps r1 H1 e1 h1 hpc=>?_⟩
  have hS1:=e1.2 K a _ hS
  have hm1:=e1.at hm
  simp! only [-m_tIfS]
  refine if_gen (λ σ' H'=>∃ (ps:List Int) (r1:Addr),σ'=[some (.ref a),some (.ref l),some (.ref r1),none,none,none,none,none,none,none]/\Ext H H'/\H' r1=some (.lst (ps.map V.int))/\PcK ms ps) (λ nx' hn=>?_) ?_
  ·replace hn:=λ (_:Unit)=>hn
   ac_rfl
   rw [c_spDraw]
   refine ⟨hS1,hl,⟨by decide,by decide⟩,by decide,λ g g0 g1=>?_⟩
   by_cases hg:g=7
   ·ac_rfl
    rw [c_spDraw]
    refine ⟨hS1,hl,⟨by decide,by decide⟩,by decide,λ c c0 c1=>?_⟩
    ac_rfl
    rw [c_spDigits]
    refine ⟨by decide,by decide,by omega,by omega,λ ds d H2 hd2 e2 h2 hdl hdb=>?_⟩
    have hd8:ds.length<=9:=by omega
    replace hdl:=λ (_:Unit)=>hdl
    replace hdb:=λ (_:Unit)=>hdb
    clear hd2
    ac_rfl
    refine comp_fm (ds.map V.int) (λ _=>true) (λ z=>.int (vi z - 3)) (λ z x H'=>x=z/\H' d=some (.lst (ds.map V.int))) (wk_lst h2).1 (wk_lst h2).2 (len5000 (by rw [List.length_map];omega)) ?_ ?_
    ·intro D z y H' N1 N0 hz hD e ⟨hy,_⟩ kx _
     subst hy
     obtain ⟨i,_,rfl⟩:=List.mem_map.mp hz
     have k1':N1 (.int (i - 3)) H':=kx rfl H' (Ext.refl _)
     clear kx kk hn hz
     simp! only [↓m_kCm_1,↓m_kCm2]
    ·intro D H3 hD e3 h3'
     rw [filt,List.map_map] at h3'
     have hn':=hn () [some (.ref a),some (.ref l),some (.ref D),none,none,none,none,none,none,none] H3 ⟨ds.map λ i=>i - 3,D,rfl,e1.trans (e2.trans e3),by rw [h3',List.map_map];rfl,small_pc hsz (by rw [List.length_map];have:=hdl ();omega) λ q hq=>by
      obtain ⟨i,hi,rfl⟩:=List.mem_map.mp hq
      have:=hdb () i hi
      omega⟩
     clear hn h3'
     ac_rfl
   ·have hn':=hn () [some (.ref a),some (.ref l),some (.ref r1),none,none,none,none,none,none,none] H1 ⟨ps,r1,rfl,e1,h1,hpc⟩
    clear hn
    ac_rfl
  clear h1 hS1 hm1 hpc e1
  rintro _ H2 ⟨ps,r1,rfl,e2,h2,hpc⟩
  have hS2:=e2.2 K a _ hS
  have hm2:=e2.at hm
  have hpl:=hpc.1
  ac_rfl
  rw [c_spOthP]
  refine ⟨rfl,hS2,hl,ms,ps,h2,hpl,by omega,λ qs r3 H3 e3 h3 hot=>?_⟩
  have hS3:=e3.2 K a _ hS2
  have hm3:=e3.at hm2
  have h2_3:=e3.at h2
  have hql:=hot.1
  obtain ⟨S1,S2,b1,b2,b3,b4,b5,b6,b7⟩:=two_bound hsz hpc hot
  replace hpc:=λ (_:Unit)=>hpc
  replace hot:=λ (_:Unit)=>hot
  replace hpl:=λ (_:Unit)=>hpl
  replace hql:=λ (_:Unit)=>hql
  replace hsz:=λ (_:Unit)=>hsz
  have e03:=e2.trans e3
  clear h2 hm2 hS2 e2 e3 hS hm
  ac_rfl
  rw [c_spDraw]
  refine ⟨hS3,hl,⟨by decide,by decide⟩,by decide,λ d1 d10 d11=>?_⟩
  ac_rfl
  rw [c_spLst]
  refine ⟨ms,ps,hm3,h2_3,m6 (),h8,hpl (),λ H4 e4=>?_⟩
  have hS4:=e4.2 K a _ hS3
  ac_rfl
  rw [c_spDraw]
  refine ⟨hS4,hl,⟨by decide,by decide⟩,by decide,λ d2 d20 d21=>?_⟩
  ac_rfl
  rw [c_spLst]
  refine ⟨ms,qs,e4.at hm3,e4.at h3,m6 (),h8,hql (),λ H5 e5=>?_⟩
  have hS5:=e5.2 K a _ hS4
  have e35:=e4.trans e5
  obtain ⟨f1,hf1⟩:∃ f,d1 - leastL (ms.zip ps)=f:=⟨_,rfl⟩
  obtain ⟨g2,hg2⟩:∃ f,d2 - leastL (ms.zip qs)=f:=⟨_,rfl⟩
  clear hS3 hS4
  simp! only [-m_tIfS]
  refine if_gen (λ σ' H'=>∃ f2:Int,σ'=[some (.ref a),some (.ref l),some (.ref r1),some (.ref r3),some (.int f1),some (.int f2),none,none,none,none]/\Ext H5 H'/\0<=f2+leastL (ms.zip qs)/\f2+greatL (ms.zip qs)<=13+S1+S2) (λ nx' hn=>?_) ?_
  ·replace hn:=λ (_:Unit)=>hn
   ac_rfl
   rw [c_spDraw]
   refine ⟨hS5,hl,⟨by decide,by decide⟩,by decide,λ g g0 g1=>?_⟩
   by_cases hg:g=0
   ·ac_rfl
    intro q6 H6 hq6 e6 h6
    have hS6:=e6.2 K a _ hS5
    clear hq6
    ac_rfl
    rw [c_spDraw]
    refine ⟨hS6,hl,⟨by decide,by decide⟩,by decide,λ x x0 x1=>?_⟩
    ac_rfl
    refine optK_ints (λ j=>-1<=j/\j<=1) x0 x1 (λ v hv=>?_) λ j hj=>?_
    ·simp only [List.mem_cons,List.not_mem_nil,or_false] at hv
     rcases hv with rfl|rfl|rfl<;>exact ⟨_,rfl,by decide⟩
    clear h6
    ac_rfl
    rw [c_spLst]
    refine ⟨ms,qs,(e35.trans e6).at hm3,(e35.trans e6).at h3,m6 (),h8,hql (),λ H7 e7=>?_⟩
    have hn':=hn () [some (.ref a),some (.ref l),some (.ref r1),some (.ref r3),some (.int f1),some (.int (if f1+j < 0 - leastL (ms.zip qs) then 0 - leastL (ms.zip qs) else f1+j)),none,none,none,none] H7 ⟨_,rfl,e6.trans e7,by split<;>omega,by split<;>omega⟩
    clear hn
    ac_rfl
   ·have hn':=hn () [some (.ref a),some (.ref l),some (.ref r1),some (.ref r3),some (.int f1),some (.int g2),none,none,none,none] H5 ⟨g2,rfl,Ext.refl _,by omega,by omega⟩
    clear hn
    ac_rfl
  rintro _ H6 ⟨f2,rfl,e6,lo2,hi2⟩
  have e36:=e35.trans e6
  have hm6:=e36.at hm3
  have h2_6:=e36.at h2_3
  have h3_6:=e36.at h3
  have hS6:=e6.2 K a _ hS5
  have lo1:0<=f1+leastL (ms.zip ps):=by omega
  have hi1:f1+greatL (ms.zip ps)<=12+S1:=by omega
  clear hS5 e4 e5 e6 e35 hm3 h2_3 h3 hf1 hg2
  ac_rfl
  rw [c_spMst]
  refine ⟨ms,ps,hm6,h2_6,m6 (),h8,hpl (),λ H7 e7=>?_⟩
  ac_rfl
  rw [c_spMst]
  refine ⟨ms,qs,e7.at hm6,e7.at h3_6,m6 (),h8,hql (),λ H8 e8=>?_⟩
  have e68:=e7.trans e8
  have hS8:=e68.2 K a _ hS6
  have hm8:=e68.at hm6
  have h2_8:=e68.at h2_6
  have h3_8:=e68.at h3_6
  obtain ⟨la,hla⟩:∃ la,(if f1+greatL (ms.zip ps) < f2+greatL (ms.zip qs) then f2+greatL (ms.zip qs) else f1+greatL (ms.zip ps))=la:=⟨_,rfl⟩
  have la1:f1+greatL (ms.zip ps)<=la/\f2+greatL (ms.zip qs)<=la/\la<=13+S1+S2:=by
   rw [←hla]
   split<;>omega
  clear hm6 h2_6 h3_6 hS6 e7
  ac_rfl
  rw [c_spDraw]
  refine ⟨hS8,hl,⟨by decide,by decide⟩,by decide,λ d3 d30 d31=>?_⟩
  obtain ⟨room,hroom⟩:∃ r,la+1+d3=r:=⟨_,rfl⟩
  have rm1:1<=room:=by omega
  have rm2:room<=4096:=by omega
  have o1:OneK ms room f1 ps:=⟨hpl (),lo1,by omega⟩
  have o2:OneK ms room f2 qs:=⟨hql (),lo2,by omega⟩
  have v1:=o1.view (hsz ()) rm1 rm2
  have v2:=o2.view (hsz ()) rm1 rm2
  replace o1:=λ (_:Unit)=>o1
  replace o2:=λ (_:Unit)=>o2
  clear hla la1 lo1 hi1 lo2 hi2 b1 b2 b3 b4 b5 b6 b7 d10 d11 d20 d21
  ac_rfl
  rw [x_lzK]
  intro D1 ts1 H9 hD1 e9 h9 al9
  have t9:=al_zip al9
  have hm9:=e9.at hm8
  have h3_9:=e9.at h3_8
  clear al9 hD1
  ac_rfl
  intro x1 dx1 G1 hx1 hdx1 hne1 g1 k1 k1'
  rw [c_spVInit]
  refine ⟨dx1,ms.zip ps,k1,TupsAt.ext ⟨ts1,h9,t9⟩ g1,v1,λ G2 D2 g2' hD2 hx2 tt2=>?_⟩
  have eg:=g2' H9 g1 hx1
  have vo1:ViewAt t.a_View G2 x1 room f1 ((ms.zip ps).map keptA):=⟨dx1,D2,hx2,tt2⟩
  have e82:=e9.trans eg
  have hm10:=eg.at hm9
  have h3_10:=eg.at h3_9
  clear h9 t9 hm9 h3_9 k1 k1' hx1 hdx1 hne1 g1 g2' hD2 hx2 tt2 eg
  ac_rfl
  rw [x_lzK]
  intro D3 ts3 G3 hD3 g3 k3 al3
  have t3:=al_zip al3
  clear al3 hD3
  ac_rfl
  intro x2 dx2 G4 hx2 hdx2 hne2 g4 k4 k4'
  rw [c_spVInit]
  refine ⟨dx2,ms.zip qs,k4,TupsAt.ext ⟨ts3,k3,t3⟩ g4,v2,λ G5 D5 g5' hD5 hx5 tt5=>?_⟩
  have eg2:=g3.trans (g5' G3 g4 hx2)
  have vo2:ViewAt t.a_View G5 x2 room f2 ((ms.zip qs).map keptA):=⟨dx2,D5,hx5,tt5⟩
  have e85:=e82.trans eg2
  replace vo1:=vo1.ext eg2
  clear k3 t3 k4 k4' hx2 hdx2 hne2 g4 g5' hD5 hx5 tt5 hm10 h3_10
  ac_rfl
  rw [c_spKCl]
  refine ⟨ms,ps,e85.at hm8,e85.at h2_8,m6 (),h8,hpl (),p60,λ c1 G6 g6 k6=>?_⟩
  ac_rfl
  rw [c_spKCl]
  refine ⟨ms,qs,(e85.trans g6).at hm8,(e85.trans g6).at h3_8,m6 (),h8,hql (),p60,λ c2 G7 g7 k7=>?_⟩
  ac_rfl
  intro r G8 hr8 g8 k8
  exact kk () room f1 f2 ps qs x1 x2 c1 c2 r G8 (e03.trans (e36.trans (e68.trans (e85.trans (g6.trans (g7.trans g8)))))) k8 (vo1.ext (g6.trans (g7.trans g8))) (vo2.ext (g6.trans (g7.trans g8))) ((g7.trans g8).at k6) (g8.at k7) (o1 ()) (o2 ()) rm1 rm2
def spTwice (C:Addr):Sp:=λ vs H Q E=>∃ (v:Addr),vs=[.ref v]/\(∃ (room first:Int) (axs:List (Int × Int)),ViewAt C H v room first axs/\Axes axs/\prodL (axs.map λ a=>a.1)<=4096/\((cellsL first axs).Nodup->∀ H',Ext H H'->Q .non H')/\(∀ (i j:Nat) (c:Int) (r p q:Addr) (H':Hp),i < j->(cellsL first axs)[i]? = some c->(cellsL first axs)[j]? = some c->Ext H H'->H' r=some (.tup [.ref p,.ref q])->H' p=some (.tup ((splitL (axs.map λ a=>a.1) (i:Int)).map V.int))->H' q=some (.tup ((splitL (axs.map λ a=>a.1) (j:Int)).map V.int))->Q (.ref r) H'))
theorem c_spTwice (C:Addr) (v:Addr) (H:Hp) (Q:VK) (E:XK):spTwice C [.ref v] H Q E=(∃ (room first:Int) (axs:List (Int × Int)),ViewAt C H v room first axs/\Axes axs/\prodL (axs.map λ a=>a.1)<=4096/\((cellsL first axs).Nodup->∀ H',Ext H H'->Q .non H')/\(∀ (i j:Nat) (c:Int) (r p q:Addr) (H':Hp),i < j->(cellsL first axs)[i]? = some c->(cellsL first axs)[j]? = some c->Ext H H'->H' r=some (.tup [.ref p,.ref q])->H' p=some (.tup ((splitL (axs.map λ a=>a.1) (i:Int)).map V.int))->H' q=some (.tup ((splitL (axs.map λ a=>a.1) (j:Int)).map V.int))->Q (.ref r) H')):=spx1 (f:=λ (v:Addr)=>[.ref v]) (λ _ _ h=>by cases h;exact rfl) v
theorem l_spTwice (C:Addr){vs:List V}{H:Hp}{Q:VK}{E:XK}(h:spTwice C vs H Q E):vs.length=1:=spl1 h λ _=>rfl
theorem ok_has_twice (T:Tx K mg t):FnOk P w K mg base CX0 5 t.a_has_twice t.d_has_twice ["view"] (spTwice t.a_View):=by
 have G_View_cells:=ok_View_cells (P:=P) (w:=w) (base:=base) T
 have G_View_sizes:=ok_View_sizes (P:=P) (w:=w) (base:=base) T
 have G_place_at:=ok_place_at (P:=P) (w:=w) (base:=base) T
 refine T.F_has_twice.ok c_has_twice (λ vs H Q E h=>l_spTwice _ h) (λ cdv A outer s H vs Q E hr h=>?_)
 ·obtain ⟨v,rfl,room,first,axs,vo,hax,hc,kN,kT⟩:=h
  replace kN:=λ (_:Unit)=>kN
  replace kT:=λ (_:Unit)=>kT
  obtain ⟨dx,l,hv,_⟩:=vo.ob
  have vo_hv:=hv
  have c1:=T.cl_View
  have f3:=vn room first l (m := "cells") (by decide +kernel)
  have f4:=vn room first l (m := "sizes") (by decide +kernel)
  refine ⟨_,%[%[(1),_,_,_,_,c_has_twice.nd,rfl,(Or.inl rfl),(@pe_nDNew _ _),∅,(by trivial)|7],%[%[PassesOwn.never,rfl,(@pi_enum _ _ _ _ _ _ _ _ ∅ T.z_enumerate %[%[%[0|0],T.cl_View,T.mt_View_cells,G_View_cells,(hr.mono (by decide)),T.b_View_cells,.nil,pass0,∅|22],(@pa_nil _),∅|1] ∅),(%[(2),rfl,%[%[(2),_,c_has_twice.nd,rfl,(Or.inl rfl),(by trivial)|9],%[%[(3),_,c_has_twice.nd,rfl,(Or.inl rfl),(by trivial)|9],(@pgs_nilN _),∅|12],∅|12],∅,∅|24].mono λ _ _ _ _ h=>gTup_q h),%[%[%[(op_inD (units1 hr.units)),%[3|0],%[1|0],(by with_unfolding_all rfl)|13],%[%[%[%[%[G_place_at,(hr.mono (by decide)),∅,T.m_place_at,T.F_place_at.kp,T.b_place_at,.nil,pass0,%[%[%[0|0],T.cl_View,T.mt_View_sizes,G_View_sizes,(hr.mono (by decide)),T.b_View_sizes,.nil,pass0,∅|22],%[(@pe_dget _ _ _ _ _ _ (units1 hr.units) %[1|0] %[3|0] (λ _ _=>rfl)),(@pa_nil _),∅|1],∅|1],(by decide),∅,∅|5],%[%[G_place_at,(hr.mono (by decide)),∅,T.m_place_at,T.F_place_at.kp,T.b_place_at,.nil,pass0,%[%[%[0|0],T.cl_View,T.mt_View_sizes,G_View_sizes,(hr.mono (by decide)),T.b_View_sizes,.nil,pass0,∅|22],%[%[2|0],(@pa_nil _),∅|1],∅|1],(by decide),∅,∅|5],(@pa_nil _),∅|1],∅|1]|23]|8]|4],(@pss_nil _)|14],%[(@ps_dput _ _ _ _ _ _ _ _ _ (units1 hr.units) %[1|0] %[3|0] %[2|0] rfl)|4]|3],(by intros;rfl)|18],%[%[(@pe_non _ _ _)|8]|4]|3]|3],?_⟩
  rw [show start ["view", "seen", "number", "cell"] [.ref v]=[some (.ref v),none,none,none] from rfl]
  clear G_View_cells G_View_sizes G_place_at
  ac_rfl
  intro d H1 hd1 e1 h1
  have hv1:=e1.at hv
  ac_rfl
  rw [c_spCells]
  refine ⟨room,first,axs,vo.ext e1,hax,λ _ r2 H2 hr2 e2 h2=>?_,by omega⟩
  have hcl:((cellsL first axs).length:Int)=prodL (axs.map λ a=>a.1):=cellsL_len first axs λ b hb=>(hax.2 b hb).1
  generalize cellsL first axs=cs at h2 kN kT hcl
  have h1_2:=e2.at h1
  have hv2:=e2.at hv1
  ac_rfl
  have hsz:=hax.sizes
  have hc4:cs.length<=4096:=by omega
  have e02:=e1.trans e2
  clear h1 hv1 hv
  refine for_enum (λ i σ H'=>∃ (kvs:List (Key × V)) (v2 v3:Option V),σ=[some (.ref v),some (.ref d),v2,v3]/\Ext H H'/\H' r2=some (.lst (cs.map V.int))/\H' d=some (.dK kvs)/\kvs.length<=i/\(cs.take i).Nodup/\(∀ c,valV kvs (.inl c)=none->c ∉ cs.take i)/\∀ c x,valV kvs (.inl c)=some x->∃ k:Nat,k < i/\x=.int (k:Int)/\cs[k]? = some c) ⟨[],none,none,rfl,e02,h2,h1_2,Nat.le_refl _,List.nodup_nil,λ c _=>List.not_mem_nil,λ c x h=>by cases h⟩ (λ i σ H' ⟨_,_,_,_,_,h,_⟩=>h) ?_ ?_
  ·rintro i u p _ H3 H4 hi ⟨kvs,v2,v3,rfl,e3,h3,hd3,hkl,hnd,hB,hC⟩ hp3 e4 h4
   rw [List.getElem?_map] at hi
   obtain ⟨c,hci,rfl⟩:=Option.map_eq_some_iff.mp hi
   have hil:i < cs.length:=(List.getElem?_eq_some_iff.mp hci).1
   have hd4:=e4.at hd3
   have h3_4:=e4.at h3
   have eH4:=e3.trans e4
   have hv4:=eH4.at vo_hv
   clear hi
   simp! only [↓m_kBody]
   refine use_in (k:=.inl c) hd4 ?_
   cases hvv:valV kvs (.inl c) with
   | some x=>
    obtain ⟨k,hki,rfl,hck⟩:=hC c x hvv
    have hkl':k < cs.length:=by omega
    clear kN hB hC hnd
    ac_rfl
    rw [c_spVSizes]
    refine ⟨room,first,axs,vo.ext eH4,hax.1,λ r5 H5 hr5 e5 h5=>?_⟩
    have hd5:=e5.at hd4
    have hv5:=e5.at hv4
    clear hd4 hv4
    ac_rfl
    refine use_dg (k:=.inl c) hd5 hvv ?_
    ac_rfl
    rw [c_spPlaceAt]
    refine ⟨_,h5,hsz,by omega,by omega,?_⟩
    rw [x_kSpl]
    intro r6 H6 hr6 e6 h6
    have hv6:=e6.at hv5
    clear hv5
    ac_rfl
    rw [c_spVSizes]
    refine ⟨room,first,axs,vo.ext (eH4.trans (e5.trans e6)),hax.1,λ r7 H7 hr7 e7 h7=>?_⟩
    ac_rfl
    rw [c_spPlaceAt]
    refine ⟨_,h7,hsz,by omega,by omega,?_⟩
    rw [x_kSpl]
    intro r8 H8 hr8 e8 h8
    ac_rfl
    intro r9 H9 hr9 e9 h9
    exact kT () k i c r9 r6 r8 H9 hki hck hci (eH4.trans (e5.trans (e6.trans (e7.trans (e8.trans e9))))) h9 ((e7.trans (e8.trans e9)).at h6) (e9.at h8)
   | none=>
    have hlt:kvs.length < sizeLine:=lt5000 (by omega)
    have hnr:r2 ≠ d:=λ z=>by rw [z,hd4] at h3_4;cases h3_4
    clear kN kT
    ac_rfl
    refine use_dp (k:=.inl c) hd4 hlt ?_
    refine ⟨_,_,_,rfl,eH4.put hd1,by rw [upd_ne hnr];exact h3_4,upd_same,?_,?_,λ c' hc' hm=>?_,λ c' x hc'=>?_⟩
    ·rw [putK_new _ hvv,List.length_append];simp;omega
    ·rw [List.take_add_one,hci]
     exact List.nodup_append.mpr ⟨hnd,by simp,λ a ha b hb=>by rw [Option.toList_some,List.mem_singleton] at hb;subst hb;exact λ e=>hB _ hvv (e ▸ ha)⟩
    ·rw [valV_put] at hc'
     split at hc'
     ·cases hc'
     ·rename_i hne
      rw [List.take_add_one,hci] at hm
      rcases List.mem_append.mp hm with hm|hm
      ·exact hB c' hc' hm
      ·rw [Option.toList_some,List.mem_singleton] at hm
       exact hne (by rw [hm])
    ·rw [valV_put] at hc'
     split at hc'
     ·rename_i he
      cases hc'
      cases he
      exact ⟨i,Nat.lt_succ_self _,rfl,hci⟩
     ·obtain ⟨k,k1,k2,k3⟩:=hC c' x hc'
      exact ⟨k,by omega,k2,k3⟩
  ·rintro _ H3 ⟨kvs,v2,v3,rfl,e3,h3,hd3,hkl,hnd,hB,hC⟩
   rw [List.length_map,List.take_length] at hnd
   have k':=kN () hnd H3 e3
   clear kN kT
   ac_rfl
def spRooms (C:Addr):Sp:=λ vs H Q E=>∃ (u:Addr) (v:Addr),vs=[.ref u,.ref v]/\(∃ (room f1 f2:Int) (A B:List (Int × Int)),ViewAt C H u room f1 A/\ViewAt C H v room f2 B/\Q .non H)
theorem c_spRooms (C:Addr) (u:Addr) (v:Addr) (H:Hp) (Q:VK) (E:XK):spRooms C [.ref u,.ref v] H Q E=(∃ (room f1 f2:Int) (A B:List (Int × Int)),ViewAt C H u room f1 A/\ViewAt C H v room f2 B/\Q .non H):=spx2 (f:=λ (u:Addr) (v:Addr)=>[.ref u,.ref v]) (λ _ _ _ _ h=>by cases h;exact ⟨rfl,rfl⟩) u v
theorem l_spRooms (C:Addr){vs:List V}{H:Hp}{Q:VK}{E:XK}(h:spRooms C vs H Q E):vs.length=2:=spl2 h λ _ _=>rfl
theorem ok_refuse_rooms (T:Tx K mg t):FnOk P w K mg base CX0 1 t.a_refuse_rooms t.d_refuse_rooms ["one", "other"] (spRooms t.a_View):=by
 refine T.F_refuse_rooms.ok c_refuse_rooms (λ vs H Q E h=>l_spRooms _ h) (λ cdv A outer s H vs Q E hr h=>?_)
 ·obtain ⟨u,v,rfl,room,f1,f2,A,B,vu,vv,k⟩:=h
  obtain ⟨dx,D,hu,_⟩:=vu.ob
  obtain ⟨dy,D2,hv,_⟩:=vv.ob
  have c1:=T.cl_View
  have c4:=T.na_View_room
  have g1:=viewF_room room f1 D
  have g2:=viewF_room room f2 D2
  refine ⟨_,%[%[%[(op_qNe hr.units),%[%[0|0],rfl|25],%[%[1|0],rfl|25],(nomark _)|13],%[(@ps_never _ _)|4],(@pss_nil _)|14]|4],?_⟩
  rw [show start ["one", "other"] [.ref u,.ref v]=[some (.ref u),some (.ref v)] from rfl]
  ac_rfl
def spUnlike (C:Addr):Sp:=λ vs H Q E=>∃ (u:Addr) (v:Addr),vs=[.ref u,.ref v]/\(∃ (r1 r2 f1 f2:Int) (A B:List (Int × Int)),ViewAt C H u r1 f1 A/\ViewAt C H v r2 f2 B/\A.length<=8/\(A.map λ a=>a.1)=(B.map λ a=>a.1)/\∀ H',Ext H H'->Q .non H')
theorem c_spUnlike (C:Addr) (u:Addr) (v:Addr) (H:Hp) (Q:VK) (E:XK):spUnlike C [.ref u,.ref v] H Q E=(∃ (r1 r2 f1 f2:Int) (A B:List (Int × Int)),ViewAt C H u r1 f1 A/\ViewAt C H v r2 f2 B/\A.length<=8/\(A.map λ a=>a.1)=(B.map λ a=>a.1)/\∀ H',Ext H H'->Q .non H'):=spx2 (f:=λ (u:Addr) (v:Addr)=>[.ref u,.ref v]) (λ _ _ _ _ h=>by cases h;exact ⟨rfl,rfl⟩) u v
theorem l_spUnlike (C:Addr){vs:List V}{H:Hp}{Q:VK}{E:XK}(h:spUnlike C vs H Q E):vs.length=2:=spl2 h λ _ _=>rfl
theorem ok_refuse_sizes_unlike (T:Tx K mg t):FnOk P w K mg base CX0 2 t.a_refuse_sizes_unlike t.d_refuse_sizes_unlike ["to", "source"] (spUnlike t.a_View):=by
 have G_View_sizes:=ok_View_sizes (P:=P) (w:=w) (base:=base) T
 refine T.F_refuse_sizes_unlike.ok c_refuse_sizes_unlike (λ vs H Q E h=>l_spUnlike _ h) (λ cdv A outer s H vs Q E hr h=>?_)
 ·obtain ⟨u,v,rfl,r1,r2,f1,f2,A,B,vu,vv,h8,hs,k⟩:=h
  obtain ⟨dx,D,hu,_⟩:=vu.ob
  obtain ⟨dy,D2,hv,_⟩:=vv.ob
  have c1:=T.cl_View
  have g1:=vn r1 f1 D (m := "sizes") (by decide +kernel)
  have g2:=vn r2 f2 D2 (m := "sizes") (by decide +kernel)
  refine ⟨_,%[%[%[(op_qNe hr.units),%[%[0|0],T.cl_View,T.mt_View_sizes,G_View_sizes,(hr.mono (by decide)),T.b_View_sizes,.nil,pass0,∅|22],%[%[1|0],T.cl_View,T.mt_View_sizes,G_View_sizes,(hr.mono (by decide)),T.b_View_sizes,.nil,pass0,∅|22],(nomark _)|13],%[(@ps_never _ _)|4],(@pss_nil _)|14]|4],?_⟩
  rw [show start ["to", "source"] [.ref u,.ref v]=[some (.ref u),some (.ref v)] from rfl]
  clear G_View_sizes
  have hl:B.length<=8:=by have:=congrArg List.length hs;rw [List.length_map,List.length_map] at this;omega
  replace k:=λ (_:Unit)=>k
  replace hs:=λ (_:Unit)=>hs
  ac_rfl
  rw [c_spVSizes]
  refine ⟨r1,f1,A,vu,h8,λ q1 H1 hq1 e1 h1=>?_⟩
  have hv1:=e1.at hv
  clear hq1
  ac_rfl
  rw [c_spVSizes]
  refine ⟨r2,f2,B,vv.ext e1,hl,λ q2 H2 hq2 e2 h2=>?_⟩
  have h1_2:=e2.at h1
  rw [←hs ()] at h2
  have k':=k () H2 (e1.trans e2)
  clear k hq2 h1
  ac_rfl
theorem ok_Twice___init__ (T:Tx K mg t):FnOk P w K mg base CX0 1 t.a_Twice___init__ t.d_Twice___init__ ["self", "one", "other"] (spX2 t.a_Twice "one" "other"):=by
 refine T.F_Twice___init__.ok c_Twice___init__ (λ vs H Q E h=>l_spX2 _ _ _ h) (λ cdv A outer s H vs Q E hr h=>?_)
 ·obtain ⟨e,x,y,rfl,he,k⟩:=h
  refine ⟨_,%[%[(@pe_xinit _ _ _ _ _ _ _ _ _ _ ∅ T.m_PaceError T.bi_PaceError %[%[0|0],%[%[1|0],%[%[2|0],(@pa_nil _),∅|1],∅|1],∅|1] (by decide) ∅ ∅ ∅),∅|19],%[(@ps_xset _ _ _ _ _ _ _ _ %[0|0] %[1|0] rfl),%[(@ps_xset2 _ _ _ _ _ _ _ _ %[0|0] %[2|0] rfl)|4]|3]|3],?_⟩
  rw [show start ["self", "one", "other"] [.ref e,x,y]=[some (.ref e),some (x),some (y)] from rfl]
  ac_rfl
  refine ⟨e,_,_,_,[x,y],rfl,he,T.oi_Twice,(show 2<=sizeLine by decide),?_⟩
  ac_rfl
  refine ⟨e,_,rfl,he,T.oi_Twice.st,T.tk_Twice_one,λ dx H' h1 h2 h3 h4 h5=>?_⟩
  ac_rfl
  refine ⟨e,_,dx,[("one",x)],rfl,h4,h5,(show 1<=100 by decide),T.oi_Twice.st,T.tk_Twice_other,?_⟩
  ac_rfl
  refine k dx _ h1 h2 (λ b o hb hH=>?_) ?_ ?_
  ·rw [upd_ne (ne_of_none hH h1)];exact h3 b o hb hH
  ·rw [upd_ne (Ne.symm h2)];exact h4
  ·exact upd_same
def spRefTw (C cE:Addr):Sp:=λ vs H Q E=>∃ (v:Addr),vs=[.ref v]/\(∃ (room first:Int) (axs:List (Int × Int)),ViewAt C H v room first axs/\Axes axs/\prodL (axs.map λ a=>a.1)<=4096/\((cellsL first axs).Nodup->∀ H',Ext H H'->Q .non H')/\(∀ (i j:Nat) (c:Int) (dx p q:Addr) (H':Hp),i < j->(cellsL first axs)[i]? = some c->(cellsL first axs)[j]? = some c->Ext H H'->H' dx=some (.xd [("other",.ref q),("one",.ref p)])->H' p=some (.tup ((splitL (axs.map λ a=>a.1) (i:Int)).map V.int))->H' q=some (.tup ((splitL (axs.map λ a=>a.1) (j:Int)).map V.int))->E (.ref cE) (some dx) H'))
theorem c_spRefTw (C cE:Addr) (v:Addr) (H:Hp) (Q:VK) (E:XK):spRefTw C cE [.ref v] H Q E=(∃ (room first:Int) (axs:List (Int × Int)),ViewAt C H v room first axs/\Axes axs/\prodL (axs.map λ a=>a.1)<=4096/\((cellsL first axs).Nodup->∀ H',Ext H H'->Q .non H')/\(∀ (i j:Nat) (c:Int) (dx p q:Addr) (H':Hp),i < j->(cellsL first axs)[i]? = some c->(cellsL first axs)[j]? = some c->Ext H H'->H' dx=some (.xd [("other",.ref q),("one",.ref p)])->H' p=some (.tup ((splitL (axs.map λ a=>a.1) (i:Int)).map V.int))->H' q=some (.tup ((splitL (axs.map λ a=>a.1) (j:Int)).map V.int))->E (.ref cE) (some dx) H')):=spx1 (f:=λ (v:Addr)=>[.ref v]) (λ _ _ h=>by cases h;exact rfl) v
theorem l_spRefTw (C cE:Addr){vs:List V}{H:Hp}{Q:VK}{E:XK}(h:spRefTw C cE vs H Q E):vs.length=1:=spl1 h λ _=>rfl
theorem ok_refuse_twice (T:Tx K mg t):FnOk P w K mg base (CX1 P  w) 6 t.a_refuse_twice t.d_refuse_twice ["view"] (spRefTw t.a_View t.a_Twice):=by
 have G_has_twice:=ok_has_twice (P:=P) (w:=w) (base:=base) T
 have G_Twice___init__:=ok_Twice___init__ (P:=P) (w:=w) (base:=base) T
 refine T.F_refuse_twice.ok c_refuse_twice (λ vs H Q E h=>l_spRefTw _ _ h) (λ cdv A outer s H vs Q E hr h=>?_)
 ·obtain ⟨v,rfl,room,first,axs,vo,hax,hc,kN,kT⟩:=h
  refine ⟨_,%[%[(1),_,_,_,_,c_refuse_twice.nd,rfl,(Or.inl rfl),%[G_has_twice,(hr.mono (by decide)),∅,T.m_has_twice,T.F_has_twice.kp,T.b_has_twice,.nil,pass0,%[%[0|0],(@pa_nil _),∅|1],(by decide),∅,∅|5],∅,(by trivial)|7],%[%[%[op_qIsnt,%[1|0],(@pe_non _ _ _),(nomark _)|13],%[(@ps_raiseI _ _ _ _ _ _ _ _ _ _ _ _ _ _ _ rfl ∅ T.m_Twice T.oi_Twice G_Twice___init__ (hr.mono (by decide)) T.b_Twice___init__ (λ σ=>raisesD_def) %[%[ix_q,%[1|0],%[_|2],(λ _ _=>rfl)|10],%[%[ix_q,%[1|0],%[_|2],(λ _ _=>rfl)|10],(@pa_nil _),∅|1],∅|1] ∅ ∅ (by decide))|4],(@pss_nil _)|14]|4]|3],?_⟩
  rw [show start ["view", "found"] [.ref v]=[some (.ref v),none] from rfl]
  clear G_has_twice G_Twice___init__
  replace kN:=λ (_:Unit)=>kN
  replace kT:=λ (_:Unit)=>kT
  ac_rfl
  rw [c_spTwice]
  refine ⟨room,first,axs,vo,hax,hc,λ hnd H1 e1=>?_,λ i j c r p q H1 hij hi hj e1 hr1 hp1 hq1=>?_⟩
  ·have k':=kN () hnd H1 e1
   clear kN kT hnd
   ac_rfl
  ·have kT':=λ dx H'=>kT () i j c dx p q H' hij hi hj
   clear kN kT hi hj
   replace kT':=λ (_:Unit)=>kT'
   ac_rfl
   exact kRI_x2 λ dx H2 e2 h2=>kT' () dx H2 (e1.trans e2) h2 (e2.at hp1) (e2.at hq1)
theorem putK_len {κ:Type} [DecidableEq κ] (kvs:List (κ × V)) (k:κ) (v:V):(putK kvs k v).length<=kvs.length+1:=by
 unfold putK
 split
 ·rw [List.length_map];omega
 ·rw [List.length_append];simp
structure WrOk (ws rs:List Int) (ys:List V) (i:Nat) (kvs:List (Key × V)):Prop where
 len:kvs.length<=i
 get:∀ c x,valV kvs (.inl c)=some x->∃ n,n < i/\ws[n]? = some c/\rs[n]? ≠ some c/\ys[n]? = some x
 has:∀ n c,n < i->ws[n]? = some c->rs[n]? ≠ some c->valV kvs (.inl c) ≠ none
theorem WrOk.nil {ws rs:List Int}{ys:List V}:WrOk ws rs ys 0 []:=⟨Nat.le_refl _,(λ c x h=>by cases h),λ n c h=>absurd h (Nat.not_lt_zero _)⟩
theorem WrOk.skip {ws rs:List Int}{ys:List V}{i:Nat}{kvs:List (Key × V)}{c:Int}(h:WrOk ws rs ys i kvs) (hw:ws[i]? = some c) (hr:rs[i]? = some c):WrOk ws rs ys (i+1) kvs:=by
 refine ⟨by have:=h.len;omega,λ c x hc=>?_,λ n c' hn h1 h2=>?_⟩
 ·obtain ⟨n,a,b⟩:=h.get c x hc
  exact ⟨n,by omega,b⟩
 ·by_cases hni:n=i
  ·subst hni
   rw [hw] at h1
   cases h1
   exact absurd hr h2
  ·exact h.has n c' (by omega) h1 h2
theorem WrOk.put {ws rs:List Int}{ys:List V}{i:Nat}{kvs:List (Key × V)}{c d:Int}{u:V}(h:WrOk ws rs ys i kvs) (hw:ws[i]? = some c) (hr:rs[i]? = some d) (hcd:¬ c=d) (hu:ys[i]? = some u):WrOk ws rs ys (i+1) (putK kvs (.inl c) u):=by
 refine ⟨by have:=h.len;have:=putK_len kvs (.inl c) u;omega,λ c' x hc=>?_,λ n c' hn h1 h2=>?_⟩
 ·rw [valV_put] at hc
  split at hc
  ·rename_i he
   cases hc
   cases he
   exact ⟨i,Nat.lt_succ_self _,hw,λ e=>hcd (by rw [hr] at e;exact (Option.some.inj e).symm),hu⟩
  ·obtain ⟨n,a,b⟩:=h.get c' x hc
   exact ⟨n,by omega,b⟩
 ·rw [valV_put]
  split
  ·exact Option.some_ne_none _
  ·rename_i hne
   by_cases hni:n=i
   ·subst hni
    rw [hw] at h1
    cases h1
    exact absurd rfl hne
   ·exact h.has n c' (by omega) h1 h2
def spAnew (C:Addr):Sp:=λ vs H Q E=>∃ (u:Addr) (v:Addr) (l:Addr),vs=[.ref u,.ref v,.ref l]/\(∃ (room f1 f2:Int) (A B:List (Int × Int)) (ys:List V),ViewAt C H u room f1 A/\ViewAt C H v room f2 B/\Axes A/\Axes B/\(A.map λ a=>a.1)=(B.map λ a=>a.1)/\prodL (A.map λ a=>a.1)<=4096/\H l=some (.lst ys)/\(ys.length:Int)=prodL (A.map λ a=>a.1)/\∀ (d:Addr) (kvs:List (Key × V)) (H':Hp),Ext H H'->H d=none->H' d=some (.dK kvs)->WrOk (cellsL f1 A) (cellsL f2 B) ys ys.length kvs->Q (.ref d) H')
theorem c_spAnew (C:Addr) (u:Addr) (v:Addr) (l:Addr) (H:Hp) (Q:VK) (E:XK):spAnew C [.ref u,.ref v,.ref l] H Q E=(∃ (room f1 f2:Int) (A B:List (Int × Int)) (ys:List V),ViewAt C H u room f1 A/\ViewAt C H v room f2 B/\Axes A/\Axes B/\(A.map λ a=>a.1)=(B.map λ a=>a.1)/\prodL (A.map λ a=>a.1)<=4096/\H l=some (.lst ys)/\(ys.length:Int)=prodL (A.map λ a=>a.1)/\∀ (d:Addr) (kvs:List (Key × V)) (H':Hp),Ext H H'->H d=none->H' d=some (.dK kvs)->WrOk (cellsL f1 A) (cellsL f2 B) ys ys.length kvs->Q (.ref d) H'):=spx3 (f:=λ (u:Addr) (v:Addr) (l:Addr)=>[.ref u,.ref v,.ref l]) (λ _ _ _ _ _ _ h=>by cases h;exact ⟨rfl,rfl,rfl⟩) u v l
theorem l_spAnew (C:Addr){vs:List V}{H:Hp}{Q:VK}{E:XK}(h:spAnew C vs H Q E):vs.length=3:=spl3 h λ _ _ _=>rfl
theorem ok_places_written_anew (T:Tx K mg t):FnOk P w K mg base CX0 5 t.a_places_written_anew t.d_places_written_anew ["to", "source", "spots"] (spAnew t.a_View):=by
 have G_View_cells:=ok_View_cells (P:=P) (w:=w) (base:=base) T
 refine T.F_places_written_anew.ok c_places_written_anew (λ vs H Q E h=>l_spAnew _ h) (λ cdv A outer s H vs Q E hr h=>?_)
 ·obtain ⟨u,v,l,rfl,room,f1,f2,A,B,ys,vu,vv,hA,hB,hs,hc,hl,hyl,k⟩:=h
  obtain ⟨dx,D,hu,_⟩:=vu.ob
  obtain ⟨dy,D2,hv,_⟩:=vv.ob
  have c1:=T.cl_View
  have g1:=vn room f1 D (m := "cells") (by decide +kernel)
  have g2:=vn room f2 D2 (m := "cells") (by decide +kernel)
  refine ⟨_,%[%[(3),_,_,_,_,c_places_written_anew.nd,rfl,(Or.inl rfl),(@pe_nDNew _ _),∅,(by trivial)|7],%[%[PassesOwn.never,rfl,(@pi_zip3 _ _ _ _ _ _ _ _ _ _ ∅ T.z_zip %[%[2|0],%[%[%[0|0],T.cl_View,T.mt_View_cells,G_View_cells,(hr.mono (by decide)),T.b_View_cells,.nil,pass0,∅|22],%[%[%[1|0],T.cl_View,T.mt_View_cells,G_View_cells,(hr.mono (by decide)),T.b_View_cells,.nil,pass0,∅|22],(@pa_nil _),∅|1],∅|1],∅|1] ∅ ∅),(%[(3),rfl,%[%[(4),_,c_places_written_anew.nd,rfl,(Or.inl rfl),(by trivial)|9],%[%[(5),_,c_places_written_anew.nd,rfl,(Or.inl rfl),(by trivial)|9],%[%[(6),_,c_places_written_anew.nd,rfl,(Or.inl rfl),(by trivial)|9],(@pgs_nilN _),∅|12],∅|12],∅|12],∅,∅|24].mono λ _ _ _ _ h=>gTup_q h),%[%[%[(op_qNe hr.units),%[5|0],%[6|0],(nomark _)|13],%[(@ps_dput _ _ _ _ _ _ _ _ _ (units1 hr.units) %[3|0] %[5|0] %[4|0] rfl)|4],(@pss_nil _)|14]|4],(by intros;rfl)|18],%[%[%[3|0]|8]|4]|3]|3],?_⟩
  rw [show start ["to", "source", "spots", "found", "place", "cell", "origin"] [.ref u,.ref v,.ref l]=[some (.ref u),some (.ref v),some (.ref l),none,none,none,none] from rfl]
  clear G_View_cells
  replace k:=λ (_:Unit)=>k
  have l1:=cellsL_len f1 A λ b hb=>(hA.2 b hb).1
  have l2:=cellsL_len f2 B λ b hb=>(hB.2 b hb).1
  rw [←hs] at l2
  ac_rfl
  intro d H1 hd e1 h1
  have hu1:=e1.at hu
  have hl1:=e1.at hl
  ac_rfl
  rw [c_spCells]
  refine ⟨room,f1,A,vu.ext e1,hA,λ _ r2 H2 hr2 e2 h2=>?_,by omega⟩
  have hv2:=(e1.trans e2).at hv
  have hl2:=e2.at hl1
  have h1_2:=e2.at h1
  clear hr2 hu1 hl1 h1
  ac_rfl
  rw [c_spCells]
  refine ⟨room,f2,B,vv.ext (e1.trans e2),hB,λ _ r3 H3 hr3 e3 h3=>?_,by rw [←hs];omega⟩
  have h2_3:=e3.at h2
  have hl3:=e3.at hl2
  have h1_3:=e3.at h1_2
  have e03:=e1.trans (e2.trans e3)
  generalize cellsL f1 A=ws at *
  generalize cellsL f2 B=rs at *
  clear hr3 hv2 hl2 h1_2 h2 hu hv
  ac_rfl
  refine for_zip3 (xs:=ys) (ys:=ws.map V.int) (us:=rs.map V.int) (λ i σ H'=>∃ (kvs:List (Key × V)) (v4 v5 v6:Option V),σ=[some (.ref u),some (.ref v),some (.ref l),some (.ref d),v4,v5,v6]/\Ext H H'/\H' l=some (.lst ys)/\H' r2=some (.lst (ws.map V.int))/\H' r3=some (.lst (rs.map V.int))/\H' d=some (.dK kvs)/\WrOk ws rs ys i kvs) ⟨[],none,none,none,rfl,e03,hl3,h2_3,h3,h1_3,WrOk.nil⟩ (λ i σ H' ⟨_,_,_,_,_,_,a,b,c,_⟩=>⟨a,b,c⟩) ?_ ?_
  ·rintro i x y z p _ H4 H5 hx hy hz ⟨kvs,v4,v5,v6,rfl,e4,hl4,h2_4,h3_4,hd4,hwr⟩ hp e5 h5
   rw [List.getElem?_map] at hy hz
   obtain ⟨wc,hw,rfl⟩:=Option.map_eq_some_iff.mp hy
   obtain ⟨rc,hr',rfl⟩:=Option.map_eq_some_iff.mp hz
   have hi:i < ys.length:=(List.getElem?_eq_some_iff.mp hx).1
   have hl5:=e5.at hl4
   have h2_5:=e5.at h2_4
   have h3_5:=e5.at h3_4
   have hd5:=e5.at hd4
   have hlt:kvs.length < sizeLine:=lt5000 (by have:=hwr.len;omega)
   have e05:=e4.trans e5
   by_cases hne:wc=rc
   ·subst hne
    have hn:=hwr.skip hw hr'
    replace hn:=λ (_:Unit)=>hn
    clear hwr hx hy hz hw hr' hl4 h2_4 h3_4 hd4 k hp
    simp! only [↓m_kBody]
    exact ⟨kvs,_,_,_,rfl,e05,rfl,hn ()⟩
   ·have hn:=hwr.put hw hr' hne hx
    replace hn:=λ (_:Unit)=>hn
    have n1:l ≠ d:=λ z=>by rw [z,hd5] at hl5;cases hl5
    have n2:r2 ≠ d:=λ z=>by rw [z,hd5] at h2_5;cases h2_5
    have n3:r3 ≠ d:=λ z=>by rw [z,hd5] at h3_5;cases h3_5
    clear hwr hx hy hz hw hr' hl4 h2_4 h3_4 hd4 k hp
    simp! only [↓m_kBody]
    refine use_dp (k:=.inl wc) hd5 hlt ?_
    exact ⟨_,_,_,_,rfl,e05.put hd,by rw [upd_ne n1];exact hl5,by rw [upd_ne n2];exact h2_5,by rw [upd_ne n3];exact h3_5,upd_same,hn ()⟩
  ·rintro _ H4 ⟨kvs,v4,v5,v6,rfl,e4,hl4,h2_4,h3_4,hd4,hwr⟩
   have hmn:min ys.length (min (ws.map V.int).length (rs.map V.int).length)=ys.length:=by rw [List.length_map,List.length_map];omega
   rw [hmn] at hwr
   have k':=k () d kvs H4 e4 hd hd4 hwr
   clear k hwr hmn
   ac_rfl
def pairAt (ws rs:List Int) (j:Nat):List (Nat × Nat):=match rs[j]? with
 | some c=>(match ws.findIdx? (λ x=>decide (x=c)) with
  | some i=>if rs[i]? = some c then [] else [(i,j)]
  | none=>[])
 | none=>[]
def pairsL (ws rs:List Int) (n:Nat):List (Nat × Nat):=(List.range n).flatMap (pairAt ws rs)
theorem pairsL_succ (ws rs:List Int) (n:Nat):pairsL ws rs (n+1)=pairsL ws rs n++pairAt ws rs n:=by
 unfold pairsL
 rw [List.range_succ,List.flatMap_append,List.flatMap_singleton]
theorem find_of {ws:List Int}{c:Int}{n:Nat}(hnd:ws.Nodup) (h:ws[n]? = some c):ws.findIdx? (λ x=>decide (x=c))=some n:=by
 obtain ⟨hn,he⟩:=List.getElem?_eq_some_iff.mp h
 rw [List.findIdx?_eq_some_iff_getElem]
 refine ⟨hn,decide_eq_true he,λ j hj=>?_⟩
 intro hjc
 have e2:=of_decide_eq_true hjc
 exact absurd ((List.getElem_inj hnd).mp (e2.trans he.symm)) (by omega)
theorem WrOk.pair {ws rs:List Int}{ys:List V}{kvs:List (Key × V)}{c:Int}{j n:Nat}(h:WrOk ws rs ys n kvs) (hnd:ws.Nodup) (hl:ws.length<=n) (hj:rs[j]? = some c) :
  (valV kvs (.inl c)=none->pairAt ws rs j=[])/\∀ x,valV kvs (.inl c)=some x->∃ i,pairAt ws rs j=[(i,j)]/\ys[i]? = some x:=by
 refine ⟨λ hv=>?_,λ x hv=>?_⟩
 ·unfold pairAt
  rw [hj]
  show (match ws.findIdx? (λ x=>decide (x=c)) with|some i=>if rs[i]? = some c then [] else [(i,j)]|none=>[])=[]
  cases hf:ws.findIdx? (λ x=>decide (x=c)) with
  | none=>rfl
  | some i=>
   rw [List.findIdx?_eq_some_iff_getElem] at hf
   obtain ⟨hi,he,_⟩:=hf
   have he':=of_decide_eq_true he
   by_cases hr:rs[i]? = some c
   ·show (if rs[i]? = some c then [] else [(i,j)])=[]
    rw [if_pos hr]
   ·exact absurd hv (h.has i c (by omega) (by rw [List.getElem?_eq_getElem hi,he']) hr)
 ·obtain ⟨i,hi,hw,hr,hx⟩:=h.get c x hv
  refine ⟨i,?_,hx⟩
  unfold pairAt
  rw [hj]
  show (match ws.findIdx? (λ x=>decide (x=c)) with|some i=>if rs[i]? = some c then [] else [(i,j)]|none=>[])=_
  rw [find_of hnd hw]
  show (if rs[i]? = some c then [] else [(i,j)])=_
  rw [if_neg hr]
def PairV (H:Hp) (ys:List V) (ij:Nat × Nat) (y:V):Prop:=∃ q u v,y=.ref q/\H q=some (.tup [u,v])/\ys[ij.1]? = some u/\ys[ij.2]? = some v
theorem PairV.ext {H H':Hp}{ys:List V}{ij:Nat × Nat}{y:V}(h:PairV H ys ij y) (e:Ext H H'):PairV H' ys ij y:=by
 obtain ⟨q,u,v,h1,h2,h3⟩:=h
 exact ⟨q,u,v,h1,e.at h2,h3⟩
theorem PairV.upd {H:Hp}{ys:List V}{ij:Nat × Nat}{y:V}{r:Addr}{zs:List V}{o:HO}(h:PairV H ys ij y) (hr:H r=some (.lst zs)):PairV (upd H r o) ys ij y:=by
 obtain ⟨q,u,v,h1,h2,h3⟩:=h
 exact ⟨q,u,v,h1,by rw [upd_ne (λ z=>by rw [z,hr] at h2;cases h2)];exact h2,h3⟩
theorem al_snoc {α:Type}{R:α->V->Prop}{zs:List α}{z:α}{ys:List V}{y:V}(h:Al R zs ys) (r:R z y):Al R (zs++[z]) (ys++[y]):=by
 refine ⟨by rw [List.length_append,List.length_append,h.1];rfl,λ i a b ha hb=>?_⟩
 by_cases hi:i < zs.length
 ·rw [List.getElem?_append_left hi] at ha
  rw [List.getElem?_append_left (by rw [h.1];exact hi)] at hb
  exact h.2 i a b ha hb
 ·rw [List.getElem?_append_right (by omega)] at ha
  rw [List.getElem?_append_right (by rw [h.1];omega),h.1] at hb
  have h0:i - zs.length=0:=by
   have:=(List.getElem?_eq_some_iff.mp ha).1
   simp at this
   omega
  rw [h0] at ha hb
  cases ha
  cases hb
  exact r
def spBound (C cE:Addr):Sp:=λ vs H Q E=>∃ (u:Addr) (v:Addr),vs=[.ref u,.ref v]/\(∃ (room f1 f2:Int) (A B:List (Int × Int)),ViewAt C H u room f1 A/\ViewAt C H v room f2 B/\Axes A/\Axes B/\(A.map λ a=>a.1)=(B.map λ a=>a.1)/\prodL (A.map λ a=>a.1)<=4096/\((cellsL f1 A).Nodup->∀ (l r:Addr) (ys zs:List V) (H':Hp),Ext H H'->H r=none->H' l=some (.lst ys)->Al (TupV H') (rowsL (A.map λ a=>a.1)) ys->H' r=some (.lst zs)->Al (PairV H' ys) (pairsL (cellsL f1 A) (cellsL f2 B) (cellsL f2 B).length) zs->Q (.ref r) H')/\(∀ (i j:Nat) (c:Int) (dx p q:Addr) (H':Hp),i < j->(cellsL f1 A)[i]? = some c->(cellsL f1 A)[j]? = some c->Ext H H'->H' dx=some (.xd [("other",.ref q),("one",.ref p)])->H' p=some (.tup ((splitL (A.map λ a=>a.1) (i:Int)).map V.int))->H' q=some (.tup ((splitL (A.map λ a=>a.1) (j:Int)).map V.int))->E (.ref cE) (some dx) H'))
theorem c_spBound (C cE:Addr) (u:Addr) (v:Addr) (H:Hp) (Q:VK) (E:XK):spBound C cE [.ref u,.ref v] H Q E=(∃ (room f1 f2:Int) (A B:List (Int × Int)),ViewAt C H u room f1 A/\ViewAt C H v room f2 B/\Axes A/\Axes B/\(A.map λ a=>a.1)=(B.map λ a=>a.1)/\prodL (A.map λ a=>a.1)<=4096/\((cellsL f1 A).Nodup->∀ (l r:Addr) (ys zs:List V) (H':Hp),Ext H H'->H r=none->H' l=some (.lst ys)->Al (TupV H') (rowsL (A.map λ a=>a.1)) ys->H' r=some (.lst zs)->Al (PairV H' ys) (pairsL (cellsL f1 A) (cellsL f2 B) (cellsL f2 B).length) zs->Q (.ref r) H')/\(∀ (i j:Nat) (c:Int) (dx p q:Addr) (H':Hp),i < j->(cellsL f1 A)[i]? = some c->(cellsL f1 A)[j]? = some c->Ext H H'->H' dx=some (.xd [("other",.ref q),("one",.ref p)])->H' p=some (.tup ((splitL (A.map λ a=>a.1) (i:Int)).map V.int))->H' q=some (.tup ((splitL (A.map λ a=>a.1) (j:Int)).map V.int))->E (.ref cE) (some dx) H')):=spx2 (f:=λ (u:Addr) (v:Addr)=>[.ref u,.ref v]) (λ _ _ _ _ h=>by cases h;exact ⟨rfl,rfl⟩) u v
theorem l_spBound (C cE:Addr){vs:List V}{H:Hp}{Q:VK}{E:XK}(h:spBound C cE vs H Q E):vs.length=2:=spl2 h λ _ _=>rfl
theorem ok_bound_pairs (T:Tx K mg t):FnOk P w K mg base (CX1 P  w) 7 t.a_bound_pairs t.d_bound_pairs ["to", "source"] (spBound t.a_View t.a_Twice):=by
 have G_refuse_rooms:=ok_refuse_rooms (P:=P) (w:=w) (base:=base) T
 have G_refuse_sizes_unlike:=ok_refuse_sizes_unlike (P:=P) (w:=w) (base:=base) T
 have G_refuse_twice:=ok_refuse_twice (P:=P) (w:=w) (base:=base) T
 have G_places:=ok_places (P:=P) (w:=w) (base:=base) T
 have G_View_sizes:=ok_View_sizes (P:=P) (w:=w) (base:=base) T
 have G_View_cells:=ok_View_cells (P:=P) (w:=w) (base:=base) T
 have G_places_written_anew:=ok_places_written_anew (P:=P) (w:=w) (base:=base) T
 refine T.F_bound_pairs.ok c_bound_pairs (λ vs H Q E h=>l_spBound _ _ h) (λ cdv A outer s H vs Q E hr h=>?_)
 ·obtain ⟨u,v,rfl,room,f1,f2,A,B,vu,vv,hA,hB,hs,hc,kN,kT⟩:=h
  obtain ⟨dx,D,hu,_⟩:=vu.ob
  obtain ⟨dy,D2,hv,_⟩:=vv.ob
  have c1:=T.cl_View
  have g1:=vn room f1 D (m := "sizes") (by decide +kernel)
  have g2:=vn room f2 D2 (m := "cells") (by decide +kernel)
  refine ⟨_,%[%[%[G_refuse_rooms,(hr.mono (by decide)),∅,T.m_refuse_rooms,T.F_refuse_rooms.kp,T.b_refuse_rooms,.nil,pass0,%[%[0|0],%[%[1|0],(@pa_nil _),∅|1],∅|1],(by decide),∅,∅|5],∅|19],%[%[%[G_refuse_sizes_unlike,(hr.mono (by decide)),∅,T.m_refuse_sizes_unlike,T.F_refuse_sizes_unlike.kp,T.b_refuse_sizes_unlike,.nil,pass0,%[%[0|0],%[%[1|0],(@pa_nil _),∅|1],∅|1],(by decide),∅,∅|5],∅|19],%[%[%[G_refuse_twice,(hr.mono (by decide)),∅,T.m_refuse_twice,T.F_refuse_twice.kp,T.b_refuse_twice,.nil,passes_def,%[%[0|0],(@pa_nil _),∅|1],(by decide),∅,∅|5],∅|19],%[%[(2),_,_,_,_,c_bound_pairs.nd,rfl,(Or.inl rfl),%[G_places,(hr.mono (by decide)),∅,T.m_places,T.F_places.kp,T.b_places,.nil,pass0,%[%[%[0|0],T.cl_View,T.mt_View_sizes,G_View_sizes,(hr.mono (by decide)),T.b_View_sizes,.nil,pass0,∅|22],(@pa_nil _),∅|1],(by decide),∅,∅|5],∅,(by trivial)|7],%[%[(3),_,_,_,_,c_bound_pairs.nd,rfl,(Or.inl rfl),%[G_places_written_anew,(hr.mono (by decide)),∅,T.m_places_written_anew,T.F_places_written_anew.kp,T.b_places_written_anew,.nil,pass0,%[%[0|0],%[%[1|0],%[%[2|0],(@pa_nil _),∅|1],∅|1],∅|1],(by decide),∅,∅|5],∅,(by trivial)|7],%[%[(4),_,_,_,_,c_bound_pairs.nd,rfl,(Or.inl rfl),%[(@pa_nil _)|15],∅,(by trivial)|7],%[%[PassesOwn.leaving,rfl,(@pi_zip _ _ _ _ _ _ _ _ _ ∅ T.z_zip %[%[2|0],%[%[%[1|0],T.cl_View,T.mt_View_cells,G_View_cells,(hr.mono (by decide)),T.b_View_cells,.nil,pass0,∅|22],(@pa_nil _),∅|1],∅|1] ∅ ∅),(%[(2),rfl,%[%[(5),_,c_bound_pairs.nd,rfl,(Or.inl rfl),(by trivial)|9],%[%[(6),_,c_bound_pairs.nd,rfl,(Or.inl rfl),(by trivial)|9],(@pgs_nilN _),∅|12],∅|12],∅,∅|24].mono λ _ _ _ _ h=>gTup_q h),%[%[%[(op_inD (units1 hr.units)),%[6|0],%[3|0],(by with_unfolding_all rfl)|13],%[%[%[PySem.F.plainAttrs_list,PySem.F.slot_list_append,PySem.F.type_list_append,mt_append,%[4|0],%[%[%[(@pe_dget _ _ _ _ _ _ (units1 hr.units) %[3|0] %[6|0] (λ _ _=>rfl)),%[%[5|0],(@pa_nil _),∅|1],∅|1]|23],(@pa_nil _),∅|1],∅,∅,∅,∅,∅|27],∅|19]|4],(@pss_nil _)|14]|4],(by intros;rfl)|18],%[%[%[4|0]|8]|4]|3]|3]|3]|3]|3]|3]|3],?_⟩
  rw [show start ["to", "source", "spots", "written", "found", "place", "cell"] [.ref u,.ref v]=[some (.ref u),some (.ref v),none,none,none,none,none] from rfl]
  clear G_refuse_rooms G_refuse_sizes_unlike G_refuse_twice G_places G_View_sizes G_View_cells G_places_written_anew
  replace hs:=λ (_:Unit)=>hs
  replace kN:=λ (_:Unit)=>kN
  replace kT:=λ (_:Unit)=>kT
  ac_rfl
  rw [c_spRooms]
  refine ⟨room,f1,f2,A,B,vu,vv,?_⟩
  ac_rfl
  rw [c_spUnlike]
  refine ⟨room,room,f1,f2,A,B,vu,vv,hA.1,hs (),λ H1 e1=>?_⟩
  have vu1:=vu.ext e1
  have vv1:=vv.ext e1
  ac_rfl
  rw [c_spRefTw]
  refine ⟨room,f1,A,vu1,hA,hc,λ hnd H2 e2=>?_,λ i j c dx p q H2 hij hi hj e2 h1 h2 h3=>kT () i j c dx p q H2 hij hi hj (e1.trans e2) h1 h2 h3⟩
  have kN':=kN () hnd
  have e02:=e1.trans e2
  have hu2:=e02.at hu
  have vu2:=vu.ext e02
  have vv2:=vv.ext e02
  replace kN':=λ (_:Unit)=>kN'
  clear kN kT vu1 vv1
  ac_rfl
  rw [c_spVSizes]
  refine ⟨room,f1,A,vu2,hA.1,λ r3 H3 hr3 e3 h3=>?_⟩
  have hsz:Sizes (A.map λ a=>a.1):=hA.sizes
  have e03:=e02.trans e3
  have vu3:=vu.ext e03
  have vv3:=vv.ext e03
  clear hr3 hu2 vu2 vv2
  simp! only [↓c_spPlaces,↓m_kSz,↓x_kAllP]
  refine ⟨λ r4 H4 hr4 e4 t4=>?_,by omega⟩
  obtain ⟨ys,h4,al4⟩:=t4
  have e04:=e03.trans e4
  have vu4:=vu.ext e04
  have vv4:=vv.ext e04
  have p1:1<=prodL (A.map λ a=>a.1):=prodL_one _ λ m hm=>(hsz.2 m hm).1
  have hyl:(ys.length:Int)=prodL (A.map λ a=>a.1):=by rw [al4.1,rowsL_len];omega
  clear hr4 vu3 vv3 h3
  ac_rfl
  rw [c_spAnew]
  refine ⟨room,f1,f2,A,B,ys,vu4,vv4,hA,hB,hs (),hc,h4,hyl,λ d kvs H5 e5 hd5 h5 hwr=>?_⟩
  have e05:=e04.trans e5
  have h4_5:=e5.at h4
  have al5:=al4.imp λ _ _ t=>TupV.ext t e5
  have hv5:=e05.at hv
  have vv5:=vv.ext e05
  have l1:=cellsL_len f1 A λ b hb=>(hA.2 b hb).1
  have l2:=cellsL_len f2 B λ b hb=>(hB.2 b hb).1
  rw [←hs ()] at l2
  clear vu4 vv4 h4 al4
  ac_rfl
  intro r6 H6 hr6 e6 h6
  have hv6:=e6.at hv5
  have h4_6:=e6.at h4_5
  have h5_6:=e6.at h5
  have f6:H r6=none:=e05.free hr6
  have n4:r4 ≠ r6:=λ z=>by rw [z,hr6] at h4_5;cases h4_5
  have nd:d ≠ r6:=λ z=>by rw [z,hr6] at h5;cases h5
  clear hv5 h4_5 h5
  ac_rfl
  rw [c_spCells]
  refine ⟨room,f2,B,vv5.ext e6,hB,λ _ r7 H7 hr7 e7 h7=>?_,by rw [←hs ()];omega⟩
  have n7:r7 ≠ r6:=λ z=>by rw [z,h6] at hr7;cases hr7
  have h4_7:=e7.at h4_6
  have h5_7:=e7.at h5_6
  have h6_7:=e7.at h6
  have e07:=e05.trans (e6.trans e7)
  have e57:=e6.trans e7
  have al7:=al5.imp λ _ _ t=>TupV.ext t e57
  generalize cellsL f1 A=ws at *
  generalize cellsL f2 B=rs at *
  have hpr:=λ (_:Unit)=>λ {j:Nat} {c:Int} (hj:rs[j]? = some c)=>hwr.pair hnd (by omega) hj
  clear hr7 hv6 h4_6 h5_6 h6 al5 hr6
  ac_rfl
  refine for_zip (ka:=false) (kb:=false) (xs:=ys) (ys:=rs.map V.int) (λ i σ H'=>∃ (zs:List V) (v5 v6:Option V),σ=[some (.ref u),some (.ref v),some (.ref r4),some (.ref d),some (.ref r6),v5,v6]/\Ext H H'/\H' r4=some (.lst ys)/\H' r7=some (.lst (rs.map V.int))/\H' d=some (.dK kvs)/\H' r6=some (.lst zs)/\Al (TupV H') (rowsL (A.map λ a=>a.1)) ys/\zs.length<=i/\Al (PairV H' ys) (pairsL ws rs i) zs) ⟨[],none,none,rfl,e07,h4_7,h7,h5_7,h6_7,al7,Nat.le_refl _,Al.nil⟩ (λ i σ H' ⟨_,_,_,_,_,a,b,_⟩=>⟨a,b⟩) ?_ ?_
  ·rintro i x y p _ H8 H9 hx hy ⟨zs,v5,v6,rfl,e8,h4_8,h7_8,h5_8,h6_8,al8,hzl,alp⟩ hp e9 h9
   rw [List.getElem?_map] at hy
   obtain ⟨c,hcr,rfl⟩:=Option.map_eq_some_iff.mp hy
   have hi:i < ys.length:=(List.getElem?_eq_some_iff.mp hx).1
   have e09:=e8.trans e9
   have h4_9:=e9.at h4_8
   have h7_9:=e9.at h7_8
   have h5_9:=e9.at h5_8
   have h6_9:=e9.at h6_8
   have al9:=al8.imp λ _ _ t=>TupV.ext t e9
   have alp9:=alp.imp λ _ _ t=>PairV.ext t e9
   obtain ⟨hno,hyes⟩:=hpr () hcr
   have hsc:=pairsL_succ ws rs i
   have hlt:zs.length < sizeLine:=lt5000 (by omega)
   replace hsc:=λ (_:Unit)=>hsc
   replace al9:=λ (_:Unit)=>al9
   replace alp9:=λ (_:Unit)=>alp9
   replace hno:=λ (_:Unit)=>hno
   replace hyes:=λ (_:Unit)=>hyes
   replace hx:=λ (_:Unit)=>hx
   clear hy hcr h4_8 h7_8 h5_8 h6_8 al8 alp hp al7
   simp! only [↓m_kBody]
   refine use_in (k:=.inl c) h5_9 ?_
   cases hvv:valV kvs (.inl c) with
   | none=>
    have hn:=hno () hvv
    have fin:Al (PairV H9 ys) (pairsL ws rs (i+1)) zs:=by rw [hsc (),hn,List.append_nil];exact alp9 ()
    replace fin:=λ (_:Unit)=>fin
    clear hno hyes hn hvv
    ac_rfl
    exact ⟨zs,_,_,rfl,e09,rfl,al9 (),by omega,fin ()⟩
   | some x0=>
    obtain ⟨i0,hpa,hy0⟩:=hyes () x0 hvv
    replace hpa:=λ (_:Unit)=>hpa
    replace hy0:=λ (_:Unit)=>hy0
    have hvv':=hvv
    replace hvv:=λ (_:Unit)=>hvv
    clear hno hyes hvv'
    ac_rfl
    refine use_dg (k:=.inl c) h5_9 (hvv ()) ?_
    ac_rfl
    intro q10 H10 hq10 e10 h10
    have h6_10:=e10.at h6_9
    have h4_10:=e10.at h4_9
    have h7_10:=e10.at h7_9
    have h5_10:=e10.at h5_9
    clear hq10 h6_9 h4_9 h7_9 h5_9
    ac_rfl
    refine ⟨_,_,_,rfl,(e09.trans e10).put f6,by rw [upd_ne n4];exact h4_10,by rw [upd_ne n7];exact h7_10,by rw [upd_ne nd];exact h5_10,rfl,?_,?_,?_⟩
    ·exact (al9 ()).imp λ _ _ t=>(TupV.ext t e10).upd h6_10
    ·rw [List.length_append];show _+1<=_;omega
    ·rw [hsc (),hpa ()]
     exact al_snoc ((alp9 ()).imp λ _ _ t=>(PairV.ext t e10).upd h6_10) (PairV.upd ⟨q10,x0,x,rfl,h10,hy0 (),hx ()⟩ h6_10)
  ·rintro _ H8 ⟨zs,v5,v6,rfl,e8,h4_8,h7_8,h5_8,h6_8,al8,hzl,alp⟩
   have hmn:min ys.length (rs.map V.int).length=rs.length:=by rw [List.length_map];omega
   rw [hmn] at alp
   have k':=kN' () r4 r6 ys zs H8 e8 f6 h4_8 al8 h6_8 alp
   clear kN' alp al8 hmn hpr hwr
   ac_rfl
structure HoOk (ws:List Int) (i:Nat) (kvs:List (Key × V)):Prop where
 len:kvs.length<=i
 get:∀ c x,valV kvs (.inl c)=some x->∃ n,n < i/\ws[n]? = some c/\x=.int (n:Int)
 has:∀ n c,n < i->ws[n]? = some c->valV kvs (.inl c) ≠ none
theorem HoOk.nil {ws:List Int}:HoOk ws 0 []:=⟨Nat.le_refl _,(λ c x h=>by cases h),λ n c h=>absurd h (Nat.not_lt_zero _)⟩
theorem HoOk.put {ws:List Int}{i:Nat}{kvs:List (Key × V)}{c:Int}(h:HoOk ws i kvs) (hw:ws[i]? = some c):HoOk ws (i+1) (putK kvs (.inl c) (.int (i:Int))):=by
 refine ⟨by have:=h.len;have:=putK_len kvs (.inl c) (.int (i:Int));omega,λ c' x hc=>?_,λ n c' hn h1=>?_⟩
 ·rw [valV_put] at hc
  split at hc
  ·rename_i he
   cases hc
   cases he
   exact ⟨i,Nat.lt_succ_self _,hw,rfl⟩
  ·obtain ⟨n,a,b⟩:=h.get c' x hc
   exact ⟨n,by omega,b⟩
 ·rw [valV_put]
  split
  ·exact Option.some_ne_none _
  ·rename_i hne
   by_cases hni:n=i
   ·subst hni
    rw [hw] at h1
    cases h1
    exact absurd rfl hne
   ·exact h.has n c' (by omega) h1
theorem HoOk.none' {ws rs:List Int}{kvs:List (Key × V)}{c:Int}{j n:Nat}(h:HoOk ws n kvs) (hl:ws.length<=n) (hj:rs[j]? = some c) (hv:valV kvs (.inl c)=none):pairAt ws rs j=[]:=by
 unfold pairAt
 rw [hj]
 show (match ws.findIdx? (λ x=>decide (x=c)) with|some i=>if rs[i]? = some c then [] else [(i,j)]|none=>[])=[]
 cases hf:ws.findIdx? (λ x=>decide (x=c)) with
 | none=>rfl
 | some i=>
  rw [List.findIdx?_eq_some_iff_getElem] at hf
  obtain ⟨hi,he,_⟩:=hf
  have he':=of_decide_eq_true he
  exact absurd hv (h.has i c (by omega) (by rw [List.getElem?_eq_getElem hi,he']))
theorem pairAt_of {ws rs:List Int}{c:Int}{j i:Nat}(hnd:ws.Nodup) (hj:rs[j]? = some c) (hi:ws[i]? = some c):pairAt ws rs j=if rs[i]? = some c then [] else [(i,j)]:=by
 unfold pairAt
 rw [hj]
 show (match ws.findIdx? (λ x=>decide (x=c)) with|some i=>if rs[i]? = some c then [] else [(i,j)]|none=>[])=_
 rw [find_of hnd hi]
def ijL (zs:List (Nat × Nat)):List (Int × Int):=zs.map λ z=>((z.1:Int),(z.2:Int))
theorem pairAt_len (ws rs:List Int) (j:Nat):(pairAt ws rs j).length<=1:=by
 unfold pairAt
 repeat' split
 all_goals simp
theorem pairsL_len (ws rs:List Int):∀ n,(pairsL ws rs n).length<=n
 | 0=>Nat.le_refl _
 | n+1=>by
  rw [pairsL_succ,List.length_append]
  have:=pairsL_len ws rs n
  have:=pairAt_len ws rs n
  omega
theorem tups_snoc {H:Hp}{r q:Addr}{zs:List (Nat × Nat)}{z:Nat × Nat}{ys:List V}(h:Al (TupV H) (axL (ijL zs)) ys) (hr:H r=some (.lst ys)) (hq:H q=some (.tup [.int (z.1:Int),.int (z.2:Int)])):Al (TupV (upd H r (.lst (ys++[.ref q])))) (axL (ijL (zs++[z]))) (ys++[.ref q]):=by
 have e:axL (ijL (zs++[z]))=axL (ijL zs)++[[(z.1:Int),(z.2:Int)]]:=by unfold axL ijL;rw [List.map_append,List.map_append];rfl
 rw [e]
 exact al_snoc (h.imp λ _ _ t=>TupV.upd t hr) (TupV.upd ⟨q,rfl,hq⟩ hr)
def spLPairs  : Sp:=λ vs H Q E=>∃ (p:Addr) (q:Addr),vs=[.ref p,.ref q]/\(∃ ws rs:List Int,H p=some (.lst (ws.map V.int))/\H q=some (.lst (rs.map V.int))/\ws.Nodup/\rs.length=ws.length/\ws.length<=60/\∀ (r:Addr) (H':Hp),H r=none->Ext H H'->TupsAt H' r (axL (ijL (pairsL ws rs rs.length)))->Q (.ref r) H')
theorem c_spLPairs  (p:Addr) (q:Addr) (H:Hp) (Q:VK) (E:XK):spLPairs  [.ref p,.ref q] H Q E=(∃ ws rs:List Int,H p=some (.lst (ws.map V.int))/\H q=some (.lst (rs.map V.int))/\ws.Nodup/\rs.length=ws.length/\ws.length<=60/\∀ (r:Addr) (H':Hp),H r=none->Ext H H'->TupsAt H' r (axL (ijL (pairsL ws rs rs.length)))->Q (.ref r) H'):=spx2 (f:=λ (p:Addr) (q:Addr)=>[.ref p,.ref q]) (λ _ _ _ _ h=>by cases h;exact ⟨rfl,rfl⟩) p q
theorem l_spLPairs  {vs:List V}{H:Hp}{Q:VK}{E:XK}(h:spLPairs  vs H Q E):vs.length=2:=spl2 h λ _ _=>rfl
theorem ok__law_pairs (T:Tx K mg t):FnOk P w K mg base CX0 1 t.a__law_pairs t.d__law_pairs ["_law_writes", "_law_reads"] spLPairs:=by
 refine T.F__law_pairs.ok c__law_pairs (λ vs H Q E h=>l_spLPairs h) (λ cdv A outer s H vs Q E hr h=>?_)
 ·obtain ⟨p,q,rfl,ws,rs,hp,hq,hnd,hlen,h60,k⟩:=h
  refine ⟨_,%[%[(2),_,_,_,_,c__law_pairs.nd,rfl,(Or.inl rfl),(@pe_nDNew _ _),∅,(by trivial)|7],%[%[PassesOwn.never,rfl,%[∅,T.z_range,%[%[("len"),_,call_qLen,∅,T.z_len,(by decide +kernel),%[%[0|0],(@pa_nil _),∅|1],(by decide),(by decide),∅,∅|11],(@pa_nil _),∅|1],∅|30],%[(3),_,c__law_pairs.nd,rfl,(Or.inl rfl),(by trivial)|9],%[(@ps_dput _ _ _ _ _ _ _ _ _ (units1 hr.units) %[2|0] %[ix_q,%[0|0],%[3|0],(λ _ _=>rfl)|10] %[3|0] rfl)|4],(by intros;rfl)|18],%[%[(4),_,_,_,_,c__law_pairs.nd,rfl,(Or.inl rfl),%[(@pa_nil _)|15],∅,(by trivial)|7],%[%[PassesOwn.never,rfl,%[∅,T.z_range,%[%[("len"),_,call_qLen,∅,T.z_len,(by decide +kernel),%[%[1|0],(@pa_nil _),∅|1],(by decide),(by decide),∅,∅|11],(@pa_nil _),∅|1],∅|30],%[(5),_,c__law_pairs.nd,rfl,(Or.inl rfl),(by trivial)|9],%[%[(6),_,_,_,_,c__law_pairs.nd,rfl,(Or.inl rfl),(@pe_dget1 _ _ _ _ _ _ _ (units1 hr.units) %[2|0] %[ix_q,%[1|0],%[5|0],(λ _ _=>rfl)|10] ⟨by rfl,by rfl,by rfl,by rfl⟩),∅,(by trivial)|7],%[%[(PW.pt (@pw_and _ _ _ _ _ _ _ %[op_qIsnt,%[6|0],(@pe_non _ _ _),(nomark _)|13] (@pw_and _ _ _ _ _ _ _ %[(op_qNe hr.units),%[6|0],%[5|0],(nomark _)|13] (@pw_and1 _ _ _ _ %[(op_qNe hr.units),%[ix_q,%[1|0],%[6|0],(λ _ _=>rfl)|10],%[ix_q,%[0|0],%[6|0],(λ _ _=>rfl)|10],(nomark _)|13])))),%[%[%[PySem.F.plainAttrs_list,PySem.F.slot_list_append,PySem.F.type_list_append,mt_append,%[4|0],%[%[%[%[6|0],%[%[5|0],(@pa_nil _),∅|1],∅|1]|23],(@pa_nil _),∅|1],∅,∅,∅,∅,∅|27],∅|19]|4],(@pss_nil _)|14]|4]|3],(by intros;rfl)|18],%[%[%[4|0]|8]|4]|3]|3]|3]|3],?_⟩
  rw [show start ["_law_writes", "_law_reads", "_law_holder", "_law_n", "_law_found", "_law_j", "_law_i"] [.ref p,.ref q]=[some (.ref p),some (.ref q),none,none,none,none,none] from rfl]
  replace k:=λ (_:Unit)=>k
  replace hnd:=λ (_:Unit)=>hnd
  ac_rfl
  intro d H1 hd e1 h1
  have hp1:=e1.at hp
  have hq1:=e1.at hq
  ac_rfl
  refine ⟨by omega,by omega,?_⟩
  refine for_rng (λ i σ H'=>∃ (kvs:List (Key × V)) (v3:Option V),σ=[some (.ref p),some (.ref q),some (.ref d),v3,none,none,none]/\Ext H H'/\H' d=some (.dK kvs)/\HoOk ws i kvs) ⟨[],none,rfl,e1,h1,HoOk.nil⟩ ?_ ?_
  ·rintro i _ H2 hi ⟨kvs,v3,rfl,e2,h2,ho⟩
   have hi':i < ws.length:=by have:i < ((ws.length:Int)).toNat:=hi;omega
   obtain ⟨c,hc⟩:∃ c,ws[i]? = some c:=⟨_,List.getElem?_eq_getElem hi'⟩
   have hn:=ho.put hc
   have hlt:kvs.length < sizeLine:=lt5000 (by have:=ho.len;omega)
   have hat:atI (ws.map V.int) (0+(i:Int))=some (V.int c):=by rw [Int.zero_add];exact atI_nat (by rw [List.getElem?_map,hc];rfl)
   have hp2:=e2.at hp
   replace hn:=λ (_:Unit)=>hn
   clear ho hc hi k hp1 hq1 h1
   simp! only [↓m_kBody]
   refine use_dp (k:=.inl c) h2 hlt ?_
   exact ⟨_,_,rfl,e2.put hd,upd_same,by rw [Int.zero_add];exact hn ()⟩
  ·rintro _ H2 ⟨kvs,v3,rfl,e2,h2,ho⟩
   have hp2:=e2.at hp
   have hq2:=e2.at hq
   have hl2:((ws.length:Int)).toNat=ws.length:=by omega
   rw [hl2] at ho
   clear hp1 hq1 h1 e1 hl2
   ac_rfl
   intro r H3 hr3 e3 h3
   have hp3:=e3.at hp2
   have hq3:=e3.at hq2
   have h2_3:=e3.at h2
   have e03:=e2.trans e3
   have hr0:H r=none:=e2.free hr3
   replace ho:=λ (_:Unit)=>ho
   have nd:d ≠ r:=λ z=>by rw [z,hr3] at h2;cases h2
   have np:p ≠ r:=λ z=>by rw [z,hr3] at hp2;cases hp2
   have nq:q ≠ r:=λ z=>by rw [z,hr3] at hq2;cases hq2
   clear hp2 hq2 h2
   ac_rfl
   refine ⟨by omega,by omega,?_⟩
   refine for_rng (λ i σ H'=>∃ (ys:List V) (v5 v6:Option V),σ=[some (.ref p),some (.ref q),some (.ref d),v3,some (.ref r),v5,v6]/\Ext H H'/\H' d=some (.dK kvs)/\H' r=some (.lst ys)/\Al (TupV H') (axL (ijL (pairsL ws rs i))) ys) ⟨[],none,none,rfl,e03,h2_3,h3,⟨rfl,λ i z y hz=>by cases hz⟩⟩ ?_ ?_
   ·rintro j _ H4 hj ⟨ys,v5,v6,rfl,e4,hd4,h4,al⟩
    have hj':j < rs.length:=by have:j < ((ws.length:Int)).toNat:=hj;omega
    obtain ⟨c,hc⟩:∃ c,rs[j]? = some c:=⟨_,List.getElem?_eq_getElem hj'⟩
    have hat:atI (rs.map V.int) (0+(j:Int))=some (V.int c):=by rw [Int.zero_add];exact atI_nat (by rw [List.getElem?_map,hc];rfl)
    have hp4:=e4.at hp
    have hq4:=e4.at hq
    have hsc:=pairsL_succ ws rs j
    have hyl:ys.length<=60:=by
     have:=pairsL_len ws rs j
     have:=al.1
     unfold axL ijL at this
     rw [List.length_map,List.length_map] at this
     omega
    have hno:valV kvs (.inl c)=none->pairAt ws rs j=[]:=λ hv=>(ho ()).none' (Nat.le_refl _) hc hv
    have hyes:∀ x,valV kvs (.inl c)=some x->∃ n,n < ws.length/\x=.int (n:Int)/\ws[n]? = some c/\pairAt ws rs j=if rs[n]? = some c then [] else [(n,j)]:=λ x hv=>by
     obtain ⟨n,h1,h2,h3⟩:=(ho ()).get c x hv
     exact ⟨n,h1,h3,h2,pairAt_of (hnd ()) hc h2⟩
    replace hno:=λ (_:Unit)=>hno
    replace hyes:=λ (_:Unit)=>hyes
    replace al:=λ (_:Unit)=>al
    replace hsc:=λ (_:Unit)=>hsc
    replace hc:=λ (_:Unit)=>hc
    clear k hj h3 hp3 hq3 h2_3 e2
    simp! only [↓m_kBody]
    refine use_get0 hd4 ?_
    ac_rfl
    refine use_get (k:=.inl c) hd4 ?_
    cases hvv:valV kvs (.inl c) with
    | none=>
     have hn:=hno () hvv
     have fin:Al (TupV H4) (axL (ijL (pairsL ws rs (j+1)))) ys:=by rw [hsc (),hn,List.append_nil];exact al ()
     replace fin:=λ (_:Unit)=>fin
     clear hno hyes hn hvv hsc al
     rw [Option.getD_none]
     ac_rfl
     exact ⟨_,_,_,rfl,e4,rfl,fin ()⟩
    | some x0=>
     obtain ⟨n,hn,rfl,hwn,hpa⟩:=hyes () x0 hvv
     clear hno hyes hvv
     obtain ⟨b,hb⟩:∃ b,rs[n]? = some b:=⟨_,List.getElem?_eq_getElem (by omega)⟩
     have hat2:atI (rs.map V.int) (n:Int)=some (V.int b):=atI_nat (by rw [List.getElem?_map,hb];rfl)
     have hat3:atI (ws.map V.int) (n:Int)=some (V.int c):=atI_nat (by rw [List.getElem?_map,hwn];rfl)
     replace hsc:=hsc ()
     rw [hpa] at hsc
     rw [Option.getD_some]
     by_cases hnj:n=j
     ·subst hnj
      have hnot:rs[n]? = some c:=hc ()
      rw [if_pos hnot,List.append_nil] at hsc
      have fin:Al (TupV H4) (axL (ijL (pairsL ws rs (n+1)))) ys:=by rw [hsc];exact al ()
      replace fin:=λ (_:Unit)=>fin
      clear hsc hpa al hwn hb hnot hc
      ac_rfl
      rw [if_neg (show ¬ ¬ (n:Int)=0+(n:Int) from λ h=>h (Int.zero_add _).symm)]
      exact ⟨_,_,_,rfl,e4,rfl,fin ()⟩
     by_cases hbc:b=c
     ·subst hbc
      rw [if_pos hb,List.append_nil] at hsc
      have fin:Al (TupV H4) (axL (ijL (pairsL ws rs (j+1)))) ys:=by rw [hsc];exact al ()
      replace fin:=λ (_:Unit)=>fin
      have hnj':¬ (n:Int)=0+(j:Int):=by omega
      clear hsc hpa al hwn hb hc
      ac_rfl
      exact ⟨_,_,_,rfl,e4,rfl,fin ()⟩
     ·rw [if_neg (by rw [hb];intro z;exact hbc (Option.some.inj z))] at hsc
      replace hsc:=λ (_:Unit)=>hsc
      have hnj':¬ (n:Int)=0+(j:Int):=by omega
      have hlt:ys.length < sizeLine:=lt5000 (by omega)
      clear hpa hwn hb hc
      ac_rfl
      intro g H5 hg e5 h5
      have h4_5:=e5.at h4
      have hd5:=e5.at hd4
      ac_rfl
      refine ⟨_,_,_,rfl,(e4.trans e5).put hr0,by rw [upd_ne nd];exact hd5,rfl,?_⟩
      rw [hsc ()]
      exact tups_snoc (z:=(n,j)) ((al ()).imp λ _ _ t=>TupV.ext t e5) h4_5 (by rw [h5,Int.zero_add])
   ·rintro _ H4 ⟨ys,v5,v6,rfl,e4,hd4,h4,al⟩
    have hl2:((ws.length:Int)).toNat=rs.length:=by omega
    rw [hl2] at al
    have k':=k () r H4 hr0 e4 ⟨ys,h4,al⟩
    clear k al hl2
    ac_rfl
def drawF (ns:List Int) (k m:Int):Int:=(if k < (ns.length:Int) then ns.getD k.toNat 0 else (if 0 < (ns.length:Int) then ns.getD (k % (ns.length:Int)).toNat 0 % 999999937 * (48271+2 * k * k)+k * 69621 else k * k * 7919+104729) % 2147483647 * 16807 % 2147483629) % m
theorem getD_at {ns:List Int}{k z:Int}(h0:0<=k) (h1:k < (ns.length:Int)) (hz:atI (ns.map V.int) k=some (.int z)):ns.getD k.toNat 0=z:=by
 obtain ⟨n,rfl⟩:=Int.eq_ofNat_of_zero_le h0
 have hn:n < ns.length:=by omega
 have e:atI (ns.map V.int) (n:Int)=some (.int ns[n]):=atI_nat (by rw [List.getElem?_map,List.getElem?_eq_getElem hn];rfl)
 rw [hz] at e
 have e2:=Option.some.inj e
 simp only [V.int.injEq] at e2
 rw [Int.toNat_natCast,List.getD_eq_getElem?_getD,List.getElem?_eq_getElem hn,e2]
 rfl
theorem drawF_1 {ns:List Int}{k m z:Int}(h0:0<=k) (h1:k < (ns.length:Int)) (hz:atI (ns.map V.int) k=some (.int z)):drawF ns k m=z % m:=by
 unfold drawF
 rw [if_pos h1,getD_at h0 h1 hz]
theorem drawF_2 {ns:List Int}{k m z:Int}(h1:¬ k < (ns.length:Int)) (h2:0 < (ns.length:Int)) (hz:atI (ns.map V.int) (k % (ns.length:Int))=some (.int z)):drawF ns k m=(z % 999999937 * (48271+2 * k * k)+k * 69621) % 2147483647 * 16807 % 2147483629 % m:=by
 unfold drawF
 rw [if_neg h1,if_pos h2,getD_at (Int.emod_nonneg _ (by omega)) (Int.emod_lt_of_pos _ h2) hz]
theorem drawF_3 {ns:List Int}{k m:Int}(h1:¬ k < (ns.length:Int)) (h2:¬ 0 < (ns.length:Int)):drawF ns k m=(k * k * 7919+104729) % 2147483647 * 16807 % 2147483629 % m:=by
 unfold drawF
 rw [if_neg h1,if_neg h2]
def spDrawX (K:W.Frag) (a:Addr) (ns:List Int):Sp:=λ vs H Q E=>∃ (k:Int) (m:Int),vs=[.ref a,.int k,.int m]/\(SqL K H a (ns.map V.int)/\ns.length<=63/\(0<=k/\k < 1000)/\0 < m/\Q (.int (drawF ns k m)) H)
theorem c_spDrawX (K:W.Frag) (a:Addr) (ns:List Int) (k:Int) (m:Int) (H:Hp) (Q:VK) (E:XK):spDrawX K a ns [.ref a,.int k,.int m] H Q E=(SqL K H a (ns.map V.int)/\ns.length<=63/\(0<=k/\k < 1000)/\0 < m/\Q (.int (drawF ns k m)) H):=spx2 (f:=λ (k:Int) (m:Int)=>[.ref a,.int k,.int m]) (λ _ _ _ _ h=>by cases h;exact ⟨rfl,rfl⟩) k m
theorem l_spDrawX (K:W.Frag) (a:Addr) (ns:List Int){vs:List V}{H:Hp}{Q:VK}{E:XK}(h:spDrawX K a ns vs H Q E):vs.length=3:=spl2 h λ _ _=>rfl
theorem okx__law_draw (T:Tx K mg t) (a:Addr) (ns:List Int):FnOk P w K mg base CX0 1 t.a__law_draw t.d__law_draw ["_law_script", "_law_k", "_law_many"] (spDrawX K a ns):=by
 refine T.F__law_draw.ok c__law_draw (λ vs H Q E h=>l_spDrawX _ _ _ h) (λ cdv A outer s H vs Q E hr h=>?_)
 ·obtain ⟨k,m,rfl,hS,hl,⟨hk0,hk1⟩,hm,kk⟩:=h
  refine ⟨_,(pss_cons (ps_if (pt_cmpR op_lt (pv 1) (pe_callB (id := "len") call_len_seq ∅ T.z_len (by decide +kernel) (pa_c (pv 0) pa_nil)) (nomark _))
   (pss_one (ps_ret (pe_op op_mod (pe_ix ix_list (pv 0) (pv 1) (λ _ _=>rfl)) (pv 2))))
   pss_nil)
  (pss_cons (ps_set (i:=3) c__law_draw.nd rfl (Or.inl rfl) (pe_op op_add (pe_op op_mul (pe_op op_mul (pv 1) (pv 1)) pe_int) pe_int))
  (pss_cons (ps_if (pt_cmpR op_gt (pe_callB (id := "len") call_len_seq ∅ T.z_len (by decide +kernel) (pa_c (pv 0) pa_nil)) pe_int (nomark _))
   (pss_cons (ps_set (i:=4) c__law_draw.nd rfl (Or.inl rfl) (pe_op op_mod (pe_ix ix_list (pv 0) (pe_op op_mod (pv 1) (pe_callB (id := "len") call_len_seq ∅ T.z_len (by decide +kernel) (pa_c (pv 0) pa_nil))) (λ _ _=>rfl)) pe_int))
   (pss_one (ps_set (i:=3) c__law_draw.nd rfl (Or.inl rfl) (pe_op op_add (pe_op op_mul (pv 4) (pe_op op_add pe_int (pe_op op_mul (pe_op op_mul pe_int (pv 1)) (pv 1)))) (pe_op op_mul (pv 1) pe_int)))))
   pss_nil)
  (pss_one (ps_ret (pe_op op_mod (pe_op op_mod (pe_op op_mul (pe_op op_mod (pv 3) pe_int) pe_int) pe_int) (pv 2))))))),?_⟩
  refine ⟨_,rfl,_,rfl,a,_,rfl,.inl hS,_,_,rfl,rfl,_,rfl,?_⟩
  refine ite2 (λ h=>?_) (λ h=>?_)
  ·have h1:k < (ns.length:Int):=by simpa using h
   obtain ⟨z,hz,_⟩:=atI_ints ns k hk0 h1
   exact ⟨_,rfl,_,rfl,a,_,k,_,rfl,rfl,hS,hz,_,rfl,_,_,rfl,rfl,hm,by rw [drawF_1 hk0 h1 hz] at kk;exact kk⟩
  ·have h1:¬ k < (ns.length:Int):=by simpa using h
   refine ⟨_,rfl,_,rfl,_,_,rfl,rfl,.inl ⟨by omega,by omega⟩,_,_,rfl,rfl,.inr ⟨by decide,by decide⟩,_,_,rfl,rfl,?_⟩
   refine ⟨_,rfl,a,_,rfl,.inl hS,_,_,rfl,rfl,_,rfl,?_⟩
   refine ite2 (λ h2=>?_) (λ h2=>?_)
   ·have h3:0 < (ns.length:Int):=by simpa using h2
    have h4:(0:Int) < ((ns.map V.int).length:Int):=by simpa using h3
    obtain ⟨z,hz,_⟩:=atI_ints ns (k % ((ns.map V.int).length:Int)) (Int.emod_nonneg _ (by omega)) (by have:=Int.emod_lt_of_pos k h4;simpa using this)
    refine ⟨_,rfl,_,rfl,_,rfl,a,_,rfl,.inl hS,_,_,rfl,rfl,h4,a,_,_,_,rfl,rfl,hS,hz,_,_,rfl,rfl,(by first|decide|(show (0:Int) < _;decide)),?_⟩
    refine ⟨_,rfl,_,rfl,_,_,rfl,rfl,.inl ⟨by decide,by decide⟩,_,rfl,_,_,rfl,rfl,.inr ⟨by omega,by omega⟩,_,_,rfl,rfl,_,_,rfl,rfl,?_,?_⟩
    ·refine .inl ⟨?_,?_⟩
     ·have:=Int.emod_nonneg z (show (999999937:Int) ≠ 0 by decide);omega
     ·have:=Int.emod_lt_of_pos z (show (0:Int) < 999999937 by decide);omega
    refine ⟨_,rfl,_,_,rfl,rfl,.inr ⟨by decide,by decide⟩,_,_,rfl,rfl,?_⟩
    exact ⟨_,rfl,_,_,rfl,rfl,(by first|decide|(show (0:Int) < _;decide)),_,_,rfl,rfl,.inr ⟨by decide,by decide⟩,_,_,rfl,rfl,(by first|decide|(show (0:Int) < _;decide)),_,rfl,_,_,rfl,rfl,hm,by rw [drawF_2 h1 h3 (show atI (ns.map V.int) (k % (ns.length:Int))=some (.int z) by rw [←hz,List.length_map])] at kk;exact kk⟩
   ·exact ⟨_,rfl,_,_,rfl,rfl,(by first|decide|(show (0:Int) < _;decide)),_,_,rfl,rfl,.inr ⟨by decide,by decide⟩,_,_,rfl,rfl,(by first|decide|(show (0:Int) < _;decide)),_,rfl,_,_,rfl,rfl,hm,by rw [drawF_3 h1 (show ¬ (0:Int) < (ns.length:Int) by simpa using h2)] at kk;exact kk⟩
theorem scale_lg {b:Int}(hb:0<=b):∀ axs:List (Int × Int),leastL (scaleL b axs)=leastL axs * b/\greatL (scaleL b axs)=greatL axs * b
 | []=>⟨(Int.zero_mul b).symm,(Int.zero_mul b).symm⟩
 | a::r=>by
  obtain ⟨i1,i2⟩:=scale_lg hb r
  have e:scaleL b (a::r)=(a.1,a.2 * b)::scaleL b r:=rfl
  rw [e,leastL_cons,greatL_cons,leastL_cons,greatL_cons,i1,i2,Int.add_mul,Int.add_mul]
  show min 0 ((a.1 - 1) * (a.2 * b))+_=_/\max 0 ((a.1 - 1) * (a.2 * b))+_=_
  rw [←Int.mul_assoc]
  generalize (a.1 - 1) * a.2=x
  rcases Int.le_total 0 x with hx|hx
  ·have:=Int.mul_nonneg hx hb
   have m1:min 0 x=0:=by omega
   have m2:max 0 x=x:=by omega
   rw [m1,m2,Int.zero_mul]
   omega
  ·have:x * b<=0:=Int.mul_nonpos_of_nonpos_of_nonneg hx hb
   have m1:min 0 x=x:=by omega
   have m2:max 0 x=0:=by omega
   rw [m1,m2,Int.zero_mul]
   omega
theorem far_span {room f times:Int}{axs:List (Int × Int)}(h0:0<=f+leastL axs) (h1:f+greatL axs < room) (ht:1<=times):0<=f * times+leastL (scaleL times axs)/\f * times+greatL (scaleL times axs) < room * times:=by
 obtain ⟨e1,e2⟩:=scale_lg (show 0<=times by omega) axs
 rw [e1,e2,←Int.add_mul,←Int.add_mul]
 refine ⟨Int.mul_nonneg h0 (by omega),?_⟩
 have:=Int.mul_le_mul_of_nonneg_right (show f+greatL axs+1<=room by omega) (show 0<=times by omega)
 rw [Int.add_mul _ 1,Int.one_mul] at this
 omega
theorem foldW_scale (b m:Int):∀ (axs:List (Int × Int)) (cs:List Int),(scaleL b axs).foldl wideL (cs.map λ c=>c * b+m)=(axs.foldl wideL cs).map λ c=>c * b+m
 | [],cs=>rfl
 | a::r,cs=>by
  have e:wideL (cs.map λ c=>c * b+m) (a.1,a.2 * b)=(wideL cs a).map λ c=>c * b+m:=by
   unfold wideL
   rw [List.flatMap_map,List.map_flatMap]
   congr 1
   funext c
   rw [List.map_map]
   congr 1
   funext n
   show c * b+m+(n:Int) * (a.2 * b)=(c+(n:Int) * a.2) * b+m
   rw [Int.add_mul,Int.mul_assoc]
   omega
  have e2:scaleL b (a::r)=(a.1,a.2 * b)::scaleL b r:=rfl
  rw [e2,List.foldl_cons,List.foldl_cons,e,foldW_scale b m r]
theorem cellsL_scale (b m f:Int) (axs:List (Int × Int)):cellsL (f * b+m) (scaleL b axs)=(cellsL f axs).map λ c=>c * b+m:=foldW_scale b m axs [f]
theorem scale_keptA (b:Int) (axs:List (Int × Int)):(scaleL b (axs.map keptA)).map keptA=scaleL b (axs.map keptA):=by
 unfold scaleL
 rw [List.map_map,List.map_map,List.map_map]
 refine List.map_congr_left λ a _=>?_
 show keptA ((keptA a).1,(keptA a).2 * b)=((keptA a).1,(keptA a).2 * b)
 unfold keptA
 show (a.1,if a.1 > 1 then (if a.1 > 1 then a.2 else 0) * b else 0)=_
 split
 ·rfl
 ·rw [Int.zero_mul]
def farB (ns:List Int):Int:=1+drawF ns 15 100000000000000
def farM (ns:List Int):Int:=drawF ns 16 1000000000
theorem farB_b (ns:List Int):1<=farB ns/\farB ns<=100000000000000:=by
 have h0:0<=drawF ns 15 100000000000000:=Int.emod_nonneg _ (by decide)
 have h1:drawF ns 15 100000000000000 < 100000000000000:=Int.emod_lt_of_pos _ (by decide)
 unfold farB
 omega
theorem farM_b (ns:List Int):0<=farM ns/\farM ns < 1000000000:=⟨Int.emod_nonneg _ (by decide),Int.emod_lt_of_pos _ (by decide)⟩
theorem far_ok {room f b m:Int}{axs:List (Int × Int)}(hx:Axes axs) (r1:1<=room) (r2:room<=4096) (h0:0<=f+leastL axs) (h1:f+greatL axs < room) (hb:1<=b/\b<=100000000000000) (hm:0<=m/\m < 1000000000):ViewOk (room * b+m) (f * b+m) (scaleL b axs):=by
 have hax:Axes (scaleL b axs):=scale_axes hx
 obtain ⟨g1,g2⟩:=span_kept (scaleL b axs) λ a ha=>(hax.2 a ha).1
 obtain ⟨s1,s2⟩:=far_span h0 h1 hb.1
 have k1:room * b<=4096 * b:=Int.mul_le_mul_of_nonneg_right r2 (by omega)
 have k2:1 * b<=room * b:=Int.mul_le_mul_of_nonneg_right r1 (by omega)
 exact ⟨hax,by omega,by omega,by rw [g1];omega,by rw [g2];omega⟩
def spKFar (K:W.Frag) (a:Addr) (ns:List Int) (C:Addr):Sp:=λ vs H Q E=>∃ (p:Addr) (v:Addr),vs=[.ref p,.ref v]/\(p=a/\SqL K H a (ns.map V.int)/\ns.length<=63/\∃ (room f:Int) (A:List (Int × Int)),ViewAt C H v room f A/\Axes A/\1<=room/\room<=4096/\0<=f+leastL A/\f+greatL A < room/\∀ (x:Addr) (H':Hp),Ext H H'->ViewAt C H' x (room * farB ns+farM ns) (f * farB ns+farM ns) ((scaleL (farB ns) A).map keptA)->Q (.ref x) H')
theorem c_spKFar (K:W.Frag) (a:Addr) (ns:List Int) (C:Addr) (p:Addr) (v:Addr) (H:Hp) (Q:VK) (E:XK):spKFar K a ns C [.ref p,.ref v] H Q E=(p=a/\SqL K H a (ns.map V.int)/\ns.length<=63/\∃ (room f:Int) (A:List (Int × Int)),ViewAt C H v room f A/\Axes A/\1<=room/\room<=4096/\0<=f+leastL A/\f+greatL A < room/\∀ (x:Addr) (H':Hp),Ext H H'->ViewAt C H' x (room * farB ns+farM ns) (f * farB ns+farM ns) ((scaleL (farB ns) A).map keptA)->Q (.ref x) H'):=spx2 (f:=λ (p:Addr) (v:Addr)=>[.ref p,.ref v]) (λ _ _ _ _ h=>by cases h;exact ⟨rfl,rfl⟩) p v
theorem l_spKFar (K:W.Frag) (a:Addr) (ns:List Int) (C:Addr){vs:List V}{H:Hp}{Q:VK}{E:XK}(h:spKFar K a ns C vs H Q E):vs.length=2:=spl2 h λ _ _=>rfl
theorem ok__law_far (T:Tx K mg t) (a:Addr) (ns:List Int):FnOk P w K mg base CX0 8 t.a__law_far t.d__law_far ["_law_script", "_law_view"] (spKFar K a ns t.a_View):=by
 have G__law_draw:=okx__law_draw (P:=P) (w:=w) (base:=base) T a ns
 have G_View___init__:=ok_View___init__ (P:=P) (w:=w) (base:=base) T
 refine T.F__law_far.ok c__law_far (λ vs H Q E h=>l_spKFar _ _ _ _ h) (λ cdv A outer s H vs Q E hr h=>?_)
 ·obtain ⟨_,v,rfl,rfl,hS,hl,room,f,axs,vu,hx,r1,r2,h0,h1,kk⟩:=h
  rename_i a
  obtain ⟨dx,D,hu,tt⟩:=vu.ob
  refine ⟨_,%[%[(2),_,_,_,_,c__law_far.nd,rfl,(Or.inr rfl),%[on_add,%[_|2],%[G__law_draw,(hr.mono (by decide)),∅,T.m__law_draw,T.F__law_draw.kp,T.b__law_draw,.nil,pass0,%[%[0|0],%[%[_|2],%[%[on_pow,%[_|2],%[_|2]|6],(@pa_nil _),∅|1],∅|1],∅|1],(by decide),∅,∅|5]|6],∅,(by trivial)|7],%[%[(3),_,_,_,_,c__law_far.nd,rfl,(Or.inl rfl),%[G__law_draw,(hr.mono (by decide)),∅,T.m__law_draw,T.F__law_draw.kp,T.b__law_draw,.nil,pass0,%[%[0|0],%[%[_|2],%[%[on_pow,%[_|2],%[_|2]|6],(@pa_nil _),∅|1],∅|1],∅|1],(by decide),∅,∅|5],∅,(by trivial)|7],%[%[%[T.mk_View,G_View___init__,(hr.mono (by decide)),∅,T.m_View,T.b_View___init__,.nil,pass0,%[%[on_add,%[on_mul,%[%[1|0],rfl|25],%[2|0]|6],%[3|0]|6],%[%[on_add,%[on_mul,%[%[1|0],rfl|25],%[2|0]|6],%[3|0]|6],%[%[(["_law_size", "_law_pace", "_law_script", "_law_view", "_law_by", "_law_more"]),(2),(comp_ok (defScope s__law_far) ["_law_script", "_law_view", "_law_by", "_law_more"] rfl rfl (by decide +kernel)),rfl,%[%[%[1|0],rfl|25]|16],(λ C s₀ H₀ ex pn=>(%[(2),rfl,%[%[(0),_,(show List.Nodup (["_law_size", "_law_pace", "_law_script", "_law_view", "_law_by", "_law_more"]:List Str) from by decide +kernel),rfl,(Or.inl rfl),(by trivial)|9],%[%[(1),_,(show List.Nodup (["_law_size", "_law_pace", "_law_script", "_law_view", "_law_by", "_law_more"]:List Str) from by decide +kernel),rfl,(Or.inl rfl),(by trivial)|9],(@pgs_nilN _),∅|12],∅|12],∅,∅|24].mono λ _ _ _ _ h=>gTup_q h)),(λ C s₀ H₀ ex pn=>(@pts_nil _)),(λ C s₀ H₀ ex pn=>%[%[%[0|0],%[%[on_mul,%[1|0],%[4|0]|6],(@pa_nil _),∅|1],∅|1]|23]),(by intros;rfl)|21],(@pa_nil _),∅|1],∅|1],∅|1],(by decide),∅,∅|31]|8]|4]|3]|3],?_⟩
  rw [show start ["_law_script", "_law_view", "_law_by", "_law_more"] [.ref a,.ref v]=[some (.ref a),some (.ref v),none,none] from rfl]
  clear G__law_draw G_View___init__
  obtain ⟨ys,hD,al⟩:=tt
  have hok:=far_ok hx r1 r2 h0 h1 (farB_b ns) (farM_b ns)
  have hB:=farB_b ns
  replace kk:=λ (_:Unit)=>kk
  have c1:=T.cl_View
  have c2:=T.na_View_first
  have c3:=T.na_View_axes
  have c4:=T.na_View_room
  have g1:=viewF_room room f D
  have g2:=viewF_first room f D
  have g3:=viewF_axes room f D
  ac_rfl
  rw [c_spDrawX]
  refine ⟨hS,hl,⟨by decide,by decide⟩,by decide,?_⟩
  have eB:1+drawF ns 15 100000000000000=farB ns:=rfl
  have eM:drawF ns 16 1000000000=farM ns:=rfl
  ac_rfl
  rw [c_spDrawX]
  refine ⟨hS,hl,⟨by decide,by decide⟩,by decide,?_⟩
  rw [eM]
  generalize farB ns=b at *
  generalize farM ns=m at *
  have hcm1:CMul room b:=.inr (by omega)
  have hcm2:CMul f b:=.inr (by omega)
  clear eB eM hS
  ac_rfl
  have wk:=wk_al (K:=K) (R:=axP) (λ _ _ _ _ h e=>h.ext e) hD (al_axP al)
  have h8:=hx.1
  refine comp_rel2 axs (λ _=>true) axP (λ D a y H'=>∃ q,y=.ref q/\H' q=some (.tup [.int a.1,.int (a.2 * b)])) wk.1 wk.2 (λ D _ y H1 H2 ⟨q,h1,h3⟩ e=>⟨q,h1,e.at h3⟩) (λ D _ y H1 xs o ⟨q,h1,h3⟩ hD=>⟨q,h1,by rw [upd_ne (λ z=>by rw [z,hD] at h3;cases h3)];exact h3⟩) (len5000 (by omega)) ?_ ?_
  ·intro D' x y H' N1 N0 ha hD e _ ⟨q,hy,hq⟩ k1 _
   subst hy
   have k1':=k1 rfl
   have hcm:CMul x.2 b:=.inr (by omega)
   clear k1 kk
   simp! only [↓m_kCm_2,↓m_kCm2]
   intro t1 H6 ht1 e6 h6
   exact k1' _ H6 e6 ⟨t1,rfl,h6⟩
  intro D2 zs H2 hD2' e2 hD2 al2
  rw [filt] at al2
  have tt2:TupsAt H2 D2 (axL (scaleL b axs)):=by
   refine ⟨zs,hD2,by rw [al2.1];unfold axL scaleL;rw [List.length_map,List.length_map],λ i z y hz hy=>?_⟩
   unfold axL scaleL at hz
   rw [List.map_map,List.getElem?_map] at hz
   obtain ⟨x,hx,rfl⟩:=Option.map_eq_some_iff.mp hz
   obtain ⟨q,hq1,hq3⟩:=al2.2 i x y hx hy
   exact ⟨q,hq1,hq3⟩
  clear wk al2 hD2
  ac_rfl
  intro x1 dx1 G1 hx1 hdx1 hne1 ge1 k1 k1'
  rw [c_spVInit]
  refine ⟨dx1,scaleL b axs,k1,tt2.ext ge1,hok,λ G2 D3 g2' hD3 hx2 tt3=>?_⟩
  have eg:=g2' H2 ge1 hx1
  have kq:=kk () x1 G2 (e2.trans eg) ⟨dx1,D3,hx2,tt3⟩
  clear kk tt3 hok al
  ac_rfl
theorem flat_step {α β:Type}(zs:List α) (f:α->List β) (j:Nat) (z:α) (h:zs[j]? = some z):(zs.take (j+1)).flatMap f=(zs.take j).flatMap f++f z:=by
 rw [List.take_succ,h,List.flatMap_append];simp
theorem flat_len (zs:List (List Int)) (n:Nat):∀ j:Nat,((zs.take j).flatMap λ row=>(List.range n).map λ k=>row++[((k:Nat):Int)]).length<=zs.length * n:=by
 intro j
 have e:((zs.take j).flatMap λ row=>(List.range n).map λ k=>row++[((k:Nat):Int)]).length=(zs.take j).length * n:=by
  generalize zs.take j=l
  induction l with
  | nil=>simp
  | cons a r ih=>rw [List.flatMap_cons,List.length_append,ih,List.length_map,List.length_range,List.length_cons,Nat.succ_mul,Nat.add_comm]
 rw [e]
 exact Nat.mul_le_mul_right n (by rw [List.length_take];omega)
theorem al_app {α:Type}{R:α->V->Prop}{zs zs':List α}{ys ys':List V}(h:Al R zs ys) (h':Al R zs' ys'):Al R (zs++zs') (ys++ys'):=by
 refine ⟨by rw [List.length_append,List.length_append,h.1,h'.1],λ i a b ha hb=>?_⟩
 by_cases hi:i < zs.length
 ·rw [List.getElem?_append_left hi] at ha
  rw [List.getElem?_append_left (by rw [h.1];exact hi)] at hb
  exact h.2 i a b ha hb
 ·rw [List.getElem?_append_right (by omega)] at ha
  rw [List.getElem?_append_right (by rw [h.1];omega),h.1] at hb
  exact h'.2 _ a b ha hb
def spKPl  : Sp:=λ vs H Q E=>∃ (p:Addr),vs=[.ref p]/\(∃ ns:List Int,H p=some (.lst (ns.map V.int))/\Sizes ns/\prodL ns<=4096/\∀ (r:Addr) (H':Hp),Ext H H'->TupsAt H' r (rowsL ns)->Q (.ref r) H')
theorem c_spKPl  (p:Addr) (H:Hp) (Q:VK) (E:XK):spKPl  [.ref p] H Q E=(∃ ns:List Int,H p=some (.lst (ns.map V.int))/\Sizes ns/\prodL ns<=4096/\∀ (r:Addr) (H':Hp),Ext H H'->TupsAt H' r (rowsL ns)->Q (.ref r) H'):=spx1 (f:=λ (p:Addr)=>[.ref p]) (λ _ _ h=>by cases h;exact rfl) p
theorem l_spKPl  {vs:List V}{H:Hp}{Q:VK}{E:XK}(h:spKPl  vs H Q E):vs.length=1:=spl1 h λ _=>rfl
theorem ok__law_places (T:Tx K mg t):FnOk P w K mg base CX0 1 t.a__law_places t.d__law_places ["_law_sizes_here"] spKPl:=by
 refine T.F__law_places.ok c__law_places (λ vs H Q E h=>l_spKPl h) (λ cdv A outer s H vs Q E hr h=>?_)
 ·obtain ⟨p,rfl,ns,hp,hs,hc,kk⟩:=h
  refine ⟨_,%[%[(1),_,_,_,_,c__law_places.nd,rfl,(Or.inl rfl),%[%[%[(@pa_nil _)|23],(@pa_nil _),∅|1]|15],∅,(by trivial)|7],%[%[PassesOwn.never,rfl,%[%[0|0]|16],%[(2),_,c__law_places.nd,rfl,(Or.inl rfl),(by trivial)|9],%[%[(3),_,_,_,_,c__law_places.nd,rfl,(Or.inl rfl),%[(@pa_nil _)|15],∅,(by trivial)|7],%[%[PassesOwn.never,rfl,%[%[1|0]|16],%[(4),_,c__law_places.nd,rfl,(Or.inr rfl),(by trivial)|9],%[%[%[PySem.F.plainAttrs_list,PySem.F.slot_list_extend,PySem.F.type_list_extend,mt_extend,%[3|0],%[%[(["_law_k", "_law_sizes_here", "_law_found", "_law_size", "_law_longer", "_law_place"]),(1),(comp_ok (defScope s__law_places) ["_law_sizes_here", "_law_found", "_law_size", "_law_longer", "_law_place"] rfl rfl (by decide +kernel)),rfl,%[∅,T.z_range,%[%[2|0],(@pa_nil _),∅|1],∅|30],(λ C s₀ H₀ ex pn=>%[(0),_,(show List.Nodup (["_law_k", "_law_sizes_here", "_law_found", "_law_size", "_law_longer", "_law_place"]:List Str) from by decide +kernel),rfl,(Or.inl rfl),(by trivial)|9]),(λ C s₀ H₀ ex pn=>(@pts_nil _)),(λ C s₀ H₀ ex pn=>%[op_nCatT,%[5|0],%[%[%[0|0],(@pa_nil _),∅|1]|23]|6]),(by intros;rfl)|21],(@pa_nil _),∅|1],∅,∅,∅,∅,∅|27],∅|19]|4],(by intros;rfl)|18],%[%[(1),_,_,_,_,c__law_places.nd,rfl,(Or.inl rfl),%[3|0],∅,(by trivial)|7]|4]|3]|3],(by intros;rfl)|18],%[%[%[1|0]|8]|4]|3]|3],?_⟩
  rw [show start ["_law_sizes_here", "_law_found", "_law_size", "_law_longer", "_law_place"] [.ref p]=[some (.ref p),none,none,none,none] from rfl]
  ac_rfl
  intro q0 H0 hq0 e0 h0
  ac_rfl
  intro r H1 hr1 e1 h1
  have hp1:=(e0.trans e1).at hp
  ac_rfl
  refine for_lst (xs:=ns.map V.int) (λ i σ H'=>∃ (r:Addr) (v2 v3 v4:Option V),σ=[some (.ref p),some (.ref r),v2,v3,v4]/\Ext H H'/\TupsAt H' r (rowsL (ns.take i))) ⟨r,_,_,_,rfl,e0.trans e1,⟨_,h1,rfl,λ i z y hz hy=>?_⟩⟩ (λ i σ H' _ ⟨_,_,_,_,_,e,_⟩=>e.at hp) ?_ ?_
  ·have e':rowsL (ns.take 0)=[[]]:=rfl
   rw [e'] at hz
   cases i with
   | zero=>simp at hz hy;subst hz;subst hy;exact ⟨q0,rfl,e1.at h0⟩
   | succ i=>simp at hz
  ·rintro i x _ H2 hi ⟨r,v2,v3,v4,rfl,e2,⟨ys,hr2,al⟩⟩
   rw [List.getElem?_map] at hi
   obtain ⟨n,hn,rfl⟩:=Option.map_eq_some_iff.mp hi
   have hb:=hs.2 n (List.mem_of_getElem? hn)
   have hpp:=(hs.take i).prod.1
   have htk:ns.take (i+1)=ns.take i++[n]:=by rw [List.take_add_one,hn];rfl
   have hrow:rowsL (ns.take (i+1))=(rowsL (ns.take i)).flatMap λ row=>(List.range n.toNat).map λ k=>row++[((k:Nat):Int)]:=by
    rw [htk];exact rowsL_snoc _ n (by omega) (by omega)
   have hlen:(rowsL (ns.take i)).length * n.toNat<=4096:=by
    have q1:=prodL_take_le ns (λ m hm=>(hs.2 m hm).1) (i+1)
    rw [htk,prodL_append,show prodL [n]=n by simp [prodL]] at q1
    rw [rowsL_len]
    have q2:((prodL (ns.take i)).toNat * n.toNat:Nat)=(prodL (ns.take i) * n).toNat:=by
     obtain ⟨a,ha⟩:=Int.eq_ofNat_of_zero_le (show 0<=prodL (ns.take i) by omega)
     obtain ⟨b,hb'⟩:=Int.eq_ofNat_of_zero_le (show 0<=n by omega)
     rw [ha,hb'];rfl
    omega
   have hsm:∀ z∈rowsL (ns.take i),z.length<=8:=λ z hz=>by
    unfold rowsL at hz
    obtain ⟨j,_,rfl⟩:=List.mem_map.mp hz
    rw [splitL_len]
    exact (hs.take i).1
   clear hi htk
   simp! only [↓m_kBody]
   intro L H3 hL e3 h3
   have hrL:r ≠ L:=λ z=>by rw [z,hL] at hr2;cases hr2
   ac_rfl
   have hr3:=e3.at hr2
   ac_rfl
   refine for_lst (xs:=ys) (λ j σ H'=>∃ (v4:Option V) (zs':List V),σ=[some (.ref p),some (.ref r),some (.int n),some (.ref L),v4]/\Ext H2 H'/\H' L=some (.lst zs')/\Al (TupV H') (((rowsL (ns.take i)).take j).flatMap λ row=>(List.range n.toNat).map λ k=>row++[((k:Nat):Int)]) zs') ⟨_,[],rfl,e3,h3,by simpa using Al.nil⟩ (λ j σ H' _ ⟨_,_,_,e,_⟩=>e.at hr2) ?_ ?_
   ·rintro j y _ H4 hj ⟨v4,zs',rfl,e4,g4,al4⟩
    obtain ⟨z,hz,q,rfl,hq⟩:=getElem?_zs (al.imp λ _ _ t=>t.ext e4) hj
    have hzl:=hsm z (List.mem_of_getElem? hz)
    have hst:=flat_step (rowsL (ns.take i)) (λ row=>(List.range n.toNat).map λ k=>row++[((k:Nat):Int)]) j z hz
    have hfl:=flat_len (rowsL (ns.take i)) n.toNat (j+1)
    rw [hst,List.length_append,List.length_map,List.length_range] at hfl
    have hzs:=al4.1
    rw [hst]
    generalize ((rowsL (ns.take i)).take j).flatMap (λ row=>(List.range n.toNat).map λ k=>row++[((k:Nat):Int)])=fs at al4 hzs hfl
    have hsz:(z.map V.int).length+1<=sizeLine:=len5000 (by rw [List.length_map];omega)
    replace al4:=λ (_:Unit)=>al4
    clear hst hz hj
    simp! only [↓m_kBody]
    refine ⟨by omega,by omega,?_⟩
    refine comp_rel2 (List.range n.toNat) (λ _=>true) (λ j x H'=>x=.int (0+(j:Nat))) (λ D k y H'=>∃ g,y=.ref g/\H' g=some (.tup ((z++[((k:Nat):Int)]).map V.int))) wk_rng.1 wk_rng.2 (λ D _ y H1 H2 ⟨q,h1,h3⟩ e=>⟨q,h1,e.at h3⟩) (λ D _ y H1 xs o ⟨q,h1,h3⟩ hD=>⟨q,h1,by rw [upd_ne (λ z=>by rw [z,hD] at h3;cases h3)];exact h3⟩) (len5000 (by rw [List.length_range];omega)) ?_ ?_
    ·intro D k x H' N1 N0 hk hD e _ hx k1 _
     subst hx
     have k1':=k1 rfl
     have hq5:=e.at hq
     clear k1 hk kk
     simp! only [↓m_kCm_1,↓m_kCm2]
     intro t1 H6 ht1 e6 h6
     have hq6:=e6.at hq5
     ac_rfl
     rw [x_kCT2]
     refine ⟨hsz,λ t2 H7 e7 h7=>?_⟩
     exact k1' _ H7 (e6.trans e7) ⟨t2,rfl,by rw [h7,List.map_append,Int.zero_add];rfl⟩
    intro D zs6 H6 hD e6 h6' al6
    rw [filt] at al6
    have g6:=e6.at g4
    have hl6:=al6.1
    rw [List.length_range] at hl6
    have hll:zs'.length+zs6.length<=sizeLine:=len5000 (by rw [hzs,hl6];omega)
    have al7:Al (TupV H6) (fs++(List.range n.toNat).map λ k=>z++[((k:Nat):Int)]) (zs'++zs6):=al_app ((al4 ()).imp λ _ _ t=>t.ext e6) ⟨by rw [hl6,List.length_map,List.length_range],λ i' a b ha hb=>by
     rw [List.getElem?_map] at ha
     obtain ⟨k,hk,rfl⟩:=Option.map_eq_some_iff.mp ha
     obtain ⟨g,h1,h2⟩:=al6.2 i' k b hk hb
     exact ⟨g,h1,h2⟩⟩
    replace al7:=λ (_:Unit)=>al7
    clear al4 al6 kk
    ac_rfl
    refine ⟨len5000 (by omega),_,_,rfl,(e4.trans e6).put hL,rfl,(al7 ()).imp λ _ _ t=>t.upd g6⟩
   ·rintro _ H4 ⟨v4,zs',rfl,e4,g4,al4⟩
    rw [al.1,List.take_length] at al4
    ac_rfl
    exact ⟨L,_,_,_,rfl,e2.trans e4,zs',g4,al4⟩
  ·rintro _ H2 ⟨r,v2,v3,v4,rfl,e2,tt⟩
   rw [List.length_map,List.take_length] at tt
   ac_rfl
   exact kk r H2 e2 tt
def spAsked (C:Addr):Sp:=λ vs H Q E=>∃ (u:Addr) (v:Addr),vs=[.ref u,.ref v]/\(∃ (room f1 f2:Int) (A B:List (Int × Int)),ViewAt C H u room f1 A/\ViewAt C H v room f2 B/\Axes A/\Axes B/\(A.map λ a=>a.1)=(B.map λ a=>a.1)/\prodL (A.map λ a=>a.1)<=4096/\((cellsL f1 A).Nodup->∀ (l r x:Addr) (ys zs:List V) (H':Hp),Ext H H'->H r=none->H' l=some (.lst ys)->Al (TupV H') (rowsL (A.map λ a=>a.1)) ys->H' r=some (.lst zs)->Al (PairV H' ys) (pairsL (cellsL f1 A) (cellsL f2 B) (cellsL f2 B).length) zs->H' x=some (.tup [.bl true,.ref r])->Q (.ref x) H')/\(∀ (i j:Nat) (c:Int) (x p q:Addr) (H':Hp),i < j->(cellsL f1 A)[i]? = some c->(cellsL f1 A)[j]? = some c->Ext H H'->H' x=some (.tup [.bl false,.ref p,.ref q])->H' p=some (.tup ((splitL (A.map λ a=>a.1) (i:Int)).map V.int))->H' q=some (.tup ((splitL (A.map λ a=>a.1) (j:Int)).map V.int))->Q (.ref x) H'))
theorem c_spAsked (C:Addr) (u:Addr) (v:Addr) (H:Hp) (Q:VK) (E:XK):spAsked C [.ref u,.ref v] H Q E=(∃ (room f1 f2:Int) (A B:List (Int × Int)),ViewAt C H u room f1 A/\ViewAt C H v room f2 B/\Axes A/\Axes B/\(A.map λ a=>a.1)=(B.map λ a=>a.1)/\prodL (A.map λ a=>a.1)<=4096/\((cellsL f1 A).Nodup->∀ (l r x:Addr) (ys zs:List V) (H':Hp),Ext H H'->H r=none->H' l=some (.lst ys)->Al (TupV H') (rowsL (A.map λ a=>a.1)) ys->H' r=some (.lst zs)->Al (PairV H' ys) (pairsL (cellsL f1 A) (cellsL f2 B) (cellsL f2 B).length) zs->H' x=some (.tup [.bl true,.ref r])->Q (.ref x) H')/\(∀ (i j:Nat) (c:Int) (x p q:Addr) (H':Hp),i < j->(cellsL f1 A)[i]? = some c->(cellsL f1 A)[j]? = some c->Ext H H'->H' x=some (.tup [.bl false,.ref p,.ref q])->H' p=some (.tup ((splitL (A.map λ a=>a.1) (i:Int)).map V.int))->H' q=some (.tup ((splitL (A.map λ a=>a.1) (j:Int)).map V.int))->Q (.ref x) H')):=spx2 (f:=λ (u:Addr) (v:Addr)=>[.ref u,.ref v]) (λ _ _ _ _ h=>by cases h;exact ⟨rfl,rfl⟩) u v
theorem l_spAsked (C:Addr){vs:List V}{H:Hp}{Q:VK}{E:XK}(h:spAsked C vs H Q E):vs.length=2:=spl2 h λ _ _=>rfl
theorem ok__law_asked (T:Tx K mg t):FnOk P w K mg base CX0 8 t.a__law_asked t.d__law_asked ["_law_one", "_law_other"] (spAsked t.a_View):=by
 have G_bound_pairs:=ok_bound_pairs (P:=P) (w:=w) (base:=base) T
 refine T.F__law_asked.ok c__law_asked (λ vs H Q E h=>l_spAsked _ h) (λ cdv A outer s H vs Q E hr h=>?_)
 ·obtain ⟨u,v,rfl,room,f1,f2,A,B,vu,vv,hA,hB,hs,hc,kN,kT⟩:=h
  have hx1:=T.x_Twice_Twice
  refine ⟨_,%[(@ps_try _ _ _ _ _ _ _ ⟨rfl,rfl,rfl⟩ (λ EX E pn hx=>%[%[(2),_,_,_,_,c__law_asked.nd,rfl,(Or.inl rfl),(@pe_callX _ _ _ _ _ _ _ _ _ _ _ _ _ _ _ _ G_bound_pairs (hr.mono (by decide)) ∅ T.m_bound_pairs T.F_bound_pairs.kp T.b_bound_pairs .nil hx %[%[0|0],%[%[1|0],(@pa_nil _),∅|1],∅|1] (by decide) ∅ ∅),∅,(by trivial)|7]|4]) (@phs_as _ _ _ (3) _ _ _ _ _ _ _ _ c__law_asked.nd rfl rfl ∅ (.inl T.m_Twice) (λ ee=>%[%[%[%[(@pe_bl _ _ _ _),%[(@pe_xfld' _ (K) rfl _ _ _ _ %[3|0] rfl),%[(@pe_xfld' _ (K) rfl _ _ _ _ %[3|0] rfl),(@pa_nil _),∅|1],∅|1],∅|1]|23]|8]|4]) (@phs_nil _) (by decide))),%[%[%[%[(@pe_bl _ _ _ _),%[%[2|0],(@pa_nil _),∅|1],∅|1]|23]|8]|4]|3],?_⟩
  rw [show start ["_law_one", "_law_other", "_law_found", "e"] [.ref u,.ref v]=[some (.ref u),some (.ref v),none,none] from rfl]
  clear G_bound_pairs
  replace kN:=λ (_:Unit)=>kN
  replace kT:=λ (_:Unit)=>kT
  ac_rfl
  rw [c_spBound]
  refine ⟨room,f1,f2,A,B,vu,vv,hA,hB,hs,hc,λ hnd l r ys zs H1 e1 hr0 hl al hz alp=>?_,λ i j c dx p q H1 hij hi hj e1 hdx hp hq=>?_⟩
  ·have kN':=kN () hnd
   replace kN':=λ (_:Unit)=>kN'
   replace al:=λ (_:Unit)=>al
   replace alp:=λ (_:Unit)=>alp
   clear kN kT
   ac_rfl
   intro x H2 hx e2 h2
   exact kN' () l r x ys zs H2 (e1.trans e2) hr0 (e2.at hl) ((al ()).imp λ _ _ t=>TupV.ext t e2) (e2.at hz) ((alp ()).imp λ _ _ t=>PairV.ext t e2) h2
  ·clear kN
   ac_rfl
   intro e' oe he hcl hdc hdat
   have hdx':dx ≠ e':=ne_of_none hdx he
   have hp':p ≠ e':=ne_of_none hp he
   have hq':q ≠ e':=ne_of_none hq he
   refine ⟨e',oe,t.a_Twice,dx,[("other",.ref q),("one",.ref p)],.ref p,rfl,upd_same,hcl,hdc,hdat,by rw [upd_ne hdx'];exact hdx,T.e_Twice,T.na_Twice_one,rfl,?_⟩
   ac_rfl
   refine ⟨e',oe,t.a_Twice,dx,[("other",.ref q),("one",.ref p)],.ref q,rfl,upd_same,hcl,hdc,hdat,by rw [upd_ne hdx'];exact hdx,T.e_Twice,T.na_Twice_other,rfl,?_⟩
   ac_rfl
   intro x H2 hx2 e2 h2
   have en:Ext H1 (upd H1 e' (excO oe)):=Ext.new he
   exact kT () i j c x p q H2 hij hi hj ((e1.trans en).trans e2) h2 ((en.trans e2).at hp) ((en.trans e2).at hq)
theorem dat_tup {H:Hp}{f:V->Option PyData}{p:Addr}{z:List Int}(h:H p=some (.tup (z.map V.int))):datF H (datF H f) (.ref p)=some (.tuple (z.map PyData.int)):=by
 rw [m_datF_ref,h]
 show datO (datF H f) (.tup (z.map V.int))=_
 rw [m_datO_tup,allSome_ints];rfl
theorem eqv_tups (a b:List Int):PyData.eqv (.tuple (a.map PyData.int)) (.tuple (b.map PyData.int))=decide (a=b):=by rw [eqv_tuple,eqvAll_ints]
def rowsD (ms:List Int):List PyData:=(rowsL ms).map λ z=>PyData.tuple (z.map PyData.int)
theorem rows_at {ms:List Int}{i:Nat}(h:(i:Int) < prodL ms):(rowsL ms)[i]? = some (splitL ms (i:Int)):=by
 unfold rowsL
 rw [List.getElem?_map,List.getElem?_range (by omega)]
 rfl
theorem rows_find {ms:List Int}{i:Nat}(hs:∀ n∈ms,(1:Int)<=n) (h:(i:Int) < prodL ms):(rowsD ms).findIdx? (λ z=>PyData.eqv z (.tuple ((splitL ms (i:Int)).map PyData.int)))=some i:=by
 have hl:(rowsD ms).length=(prodL ms).toNat:=by unfold rowsD;rw [List.length_map,rowsL_len]
 have hg:∀ (j:Nat) (hj:j < (rowsD ms).length),(rowsD ms)[j]=.tuple ((splitL ms (j:Int)).map PyData.int):=λ j hj=>by
  have h2:(rowsD ms)[j]? = some (.tuple ((splitL ms (j:Int)).map PyData.int)):=by
   unfold rowsD
   rw [List.getElem?_map,rows_at (by omega)]
   rfl
  rw [List.getElem?_eq_getElem hj] at h2
  exact Option.some.inj h2
 rw [List.findIdx?_eq_some_iff_getElem]
 refine ⟨by omega,by rw [hg,eqv_tups];exact decide_eq_true rfl,λ j hj=>?_⟩
 rw [hg,eqv_tups]
 intro z
 have:=split_inj hs (by omega) (by omega) (by omega) (by omega) (of_decide_eq_true z)
 omega
theorem rows_any {ms:List Int}{i:Nat}(hs:∀ n∈ms,(1:Int)<=n) (h:(i:Int) < prodL ms):(rowsD ms).any (λ z=>PyData.eqv z (.tuple ((splitL ms (i:Int)).map PyData.int)))=true:=by
 have:=rows_find hs h
 rw [List.findIdx?_eq_some_iff_getElem] at this
 obtain ⟨hi,he,_⟩:=this
 exact List.any_eq_true.mpr ⟨_,List.getElem_mem hi,he⟩
def spIsTw  : Sp:=λ vs H Q E=>∃ (f:Addr) (l:Addr) (o:Addr),vs=[.ref f,.ref l,.ref o]/\(∃ (p q:Addr) (i j:Nat) (c:Int) (ms ws:List Int),H f=some (.tup [.bl false,.ref p,.ref q])/\H p=some (.tup ((splitL ms (i:Int)).map V.int))/\H q=some (.tup ((splitL ms (j:Int)).map V.int))/\i < j/\(j:Int) < prodL ms/\(∀ n∈ms,(1:Int)<=n)/\TupsAt H l (rowsL ms)/\H o=some (.lst (ws.map V.int))/\ws[i]? = some c/\ws[j]? = some c/\Q (.bl true) H)
theorem c_spIsTw  (f:Addr) (l:Addr) (o:Addr) (H:Hp) (Q:VK) (E:XK):spIsTw  [.ref f,.ref l,.ref o] H Q E=(∃ (p q:Addr) (i j:Nat) (c:Int) (ms ws:List Int),H f=some (.tup [.bl false,.ref p,.ref q])/\H p=some (.tup ((splitL ms (i:Int)).map V.int))/\H q=some (.tup ((splitL ms (j:Int)).map V.int))/\i < j/\(j:Int) < prodL ms/\(∀ n∈ms,(1:Int)<=n)/\TupsAt H l (rowsL ms)/\H o=some (.lst (ws.map V.int))/\ws[i]? = some c/\ws[j]? = some c/\Q (.bl true) H):=spx3 (f:=λ (f:Addr) (l:Addr) (o:Addr)=>[.ref f,.ref l,.ref o]) (λ _ _ _ _ _ _ h=>by cases h;exact ⟨rfl,rfl,rfl⟩) f l o
theorem l_spIsTw  {vs:List V}{H:Hp}{Q:VK}{E:XK}(h:spIsTw  vs H Q E):vs.length=3:=spl3 h λ _ _ _=>rfl
theorem ok__law_is_twice (T:Tx K mg t):FnOk P w K mg base CX0 1 t.a__law_is_twice t.d__law_is_twice ["_law_found", "_law_some", "_law_writes"] spIsTw:=by
 refine T.F__law_is_twice.ok c__law_is_twice (λ vs H Q E h=>l_spIsTw h) (λ cdv A outer s H vs Q E hr h=>?_)
 ·obtain ⟨f,l,o,rfl,p,q,i,j,c,ms,ws,hf,hp,hq,hij,hj,hs,⟨ys,hl,al⟩,ho,hwi,hwj,k⟩:=h
  refine ⟨_,%[%[(PW.pt %[%[(op_notInA hr.units),%[ix_q,%[0|0],%[_|2],(λ _ _=>rfl)|10],%[1|0],(by with_unfolding_all rfl)|13],%[%[(op_notInA hr.units),%[ix_q,%[0|0],%[_|2],(λ _ _=>rfl)|10],%[1|0],(by with_unfolding_all rfl)|13],(@pw_or1 _ _ _ _ %[(op_qEq hr.units),%[ix_q,%[0|0],%[_|2],(λ _ _=>rfl)|10],%[ix_q,%[0|0],%[_|2],(λ _ _=>rfl)|10],(nomark _)|13])|28]|28]),%[%[(@pe_bl _ _ _ _)|8]|4],(@pss_nil _)|14],%[%[(PW.pt %[%[%[%[("isinstance"),_,call_qIsi,∅,T.z_isinstance,(by decide +kernel),%[%[ix_q,%[0|0],%[_|2],(λ _ _=>rfl)|10],%[(@pe_bltn _ _ (.ty "tuple") (.type "tuple") _ ∅ T.z_tuple (by decide +kernel) rfl (by decide) (by decide)),(@pa_nil _),∅|1],∅|1],(by decide),(by decide),∅,∅|11],(by intros;rfl)|17]|20],(@pw_or1 _ _ _ _ %[%[%[("isinstance"),_,call_qIsi,∅,T.z_isinstance,(by decide +kernel),%[%[ix_q,%[0|0],%[_|2],(λ _ _=>rfl)|10],%[(@pe_bltn _ _ (.ty "tuple") (.type "tuple") _ ∅ T.z_tuple (by decide +kernel) rfl (by decide) (by decide)),(@pa_nil _),∅|1],∅|1],(by decide),(by decide),∅,∅|11],(by intros;rfl)|17]|20])|28]),%[%[(@pe_bl _ _ _ _)|8]|4],(@pss_nil _)|14],%[%[(@pe_cmpR _ _ _ _ _ _ _ _ (op_qEq hr.units) %[ix_q,%[2|0],%[PySem.F.plainAttrs_list,PySem.F.slot_list_index,PySem.F.type_list_index,(mt_index hr.units),%[1|0],%[%[ix_q,%[0|0],%[_|2],(λ _ _=>rfl)|10],(@pa_nil _),∅|1],∅,∅,∅,∅,∅|27],(λ _ _=>rfl)|10] %[ix_q,%[2|0],%[PySem.F.plainAttrs_list,PySem.F.slot_list_index,PySem.F.type_list_index,(mt_index hr.units),%[1|0],%[%[ix_q,%[0|0],%[_|2],(λ _ _=>rfl)|10],(@pa_nil _),∅|1],∅,∅,∅,∅,∅|27],(λ _ _=>rfl)|10] (nomark _))|8]|4]|3]|3],?_⟩
  rw [show start ["_law_found", "_law_some", "_law_writes"] [.ref f,.ref l,.ref o]=[some (.ref f),some (.ref l),some (.ref o)] from rfl]
  have dp:datV H 6 (.ref p)=some (.tuple ((splitL ms (i:Int)).map PyData.int)):=by rw [m_datV];exact dat_tup hp
  have dq:datV H 6 (.ref q)=some (.tuple ((splitL ms (j:Int)).map PyData.int)):=by rw [m_datV];exact dat_tup hq
  have d0:allSome (ys.map (datV H 5))=some (rowsD ms):=tups_all (f:=datF H (datF H (datF H noD))) al
  have dl:datV H 6 (.ref l)=some (.list (rowsD ms)):=by
   rw [m_datV_ref,hl]
   show datO (datV H 5) (.lst ys)=_
   rw [m_datO_lst,d0];rfl
  have a1:=rows_any hs (show (i:Int) < prodL ms by omega)
  have a2:=rows_any hs hj
  have f1:=rows_find hs (show (i:Int) < prodL ms by omega)
  have f2:=rows_find hs hj
  have hne:¬ splitL ms (i:Int)=splitL ms (j:Int):=λ e=>by
   have:=split_inj hs (by omega) (by omega) (by omega) hj e
   omega
  have hat1:atI (ws.map V.int) (i:Int)=some (V.int c):=atI_nat (by rw [List.getElem?_map,hwi];rfl)
  have hat2:atI (ws.map V.int) (j:Int)=some (V.int c):=atI_nat (by rw [List.getElem?_map,hwj];rfl)
  replace dp:=λ (_:Unit)=>dp
  replace dq:=λ (_:Unit)=>dq
  replace dl:=λ (_:Unit)=>dl
  replace d0:=λ (_:Unit)=>d0
  replace a1:=λ (_:Unit)=>a1
  replace a2:=λ (_:Unit)=>a2
  replace f1:=λ (_:Unit)=>f1
  replace f2:=λ (_:Unit)=>f2
  ac_rfl
  refine ⟨_,_,dp (),dl (),?_⟩
  rw [if_pos rfl,a1 ()]
  ac_rfl
  refine ⟨_,_,dq (),dl (),?_⟩
  rw [if_pos rfl,a2 ()]
  ac_rfl
  refine ⟨l,ys,.ref p,_,rowsD ms,i,rfl,rfl,hl,dp (),d0 (),f1 (),?_⟩
  ac_rfl
  refine ⟨l,ys,.ref q,_,rowsD ms,j,rfl,rfl,hl,dq (),d0 (),f2 (),?_⟩
  ac_rfl
def wholeC (x:V):Bool:=match x with
 | .int _=>false
 | _=>true
theorem filter_ints (xs:List Int):(xs.map V.int).filter wholeC=[]:=by
 rw [List.filter_eq_nil_iff]
 intro a ha
 obtain ⟨i,_,rfl⟩:=List.mem_map.mp ha
 simp [wholeC]
def PrV (H:Hp) (z:List Int × List Int) (y:V):Prop:=∃ q u v,y=.ref q/\H q=some (.tup [.ref u,.ref v])/\H u=some (.tup (z.1.map V.int))/\H v=some (.tup (z.2.map V.int))
theorem PrV.ext {H H':Hp}{z:List Int × List Int}{y:V}(h:PrV H z y) (e:Ext H H'):PrV H' z y:=by
 obtain ⟨q,u,v,h1,h2,h3,h4⟩:=h
 exact ⟨q,u,v,h1,e.at h2,e.at h3,e.at h4⟩
theorem PrV.upd {H:Hp}{z:List Int × List Int}{y:V}{r:Addr}{zs:List V}{o:HO}(h:PrV H z y) (hr:H r=some (.lst zs)):PrV (upd H r o) z y:=by
 obtain ⟨q,u,v,h1,h2,h3,h4⟩:=h
 exact ⟨q,u,v,h1,by rw [upd_ne (λ z=>by rw [z,hr] at h2;cases h2)];exact h2,by rw [upd_ne (λ z=>by rw [z,hr] at h3;cases h3)];exact h3,by rw [upd_ne (λ z=>by rw [z,hr] at h4;cases h4)];exact h4⟩
def prD (z:List Int × List Int):PyData:=.tuple [.tuple (z.1.map PyData.int),.tuple (z.2.map PyData.int)]
theorem prs_all {H:Hp}{f:V->Option PyData}:∀ {zs:List (List Int × List Int)}{ys:List V},Al (PrV H) zs ys->allSome (ys.map (datF H (datF H (datF H f))))=some (zs.map prD)
 | [],ys,h=>by rw [List.eq_nil_of_length_eq_zero h.1];rfl
 | z::zs,[],h=>by have:=h.1;simp at this
 | z::zs,y::ys,h=>by
  obtain ⟨q,u,v,rfl,hq,hu,hv⟩:=h.2 0 z y rfl rfl
  have ih:=prs_all (H:=H) (f:=f) (zs:=zs) (ys:=ys) ⟨by have:=h.1;simpa using this,λ i z y a b=>h.2 (i+1) z y (by simpa using a) (by simpa using b)⟩
  have e1:datF H (datF H (datF H f)) (.ref q)=some (prD z):=by
   rw [m_datF_ref,hq]
   show datO (datF H (datF H f)) (.tup [.ref u,.ref v])=_
   rw [m_datO_tup]
   show (allSome [datF H (datF H f) (.ref u),datF H (datF H f) (.ref v)]).map PyData.tuple=_
   rw [dat_tup hu,dat_tup hv]
   rfl
  rw [List.map_cons,e1,m_allSome_cons,ih];rfl
theorem prs_eqv:∀ zs:List (List Int × List Int),PyData.eqvAll (zs.map prD) (zs.map prD)=true
 | []=>by rw [List.map_nil,eqvAll_nil]
 | z::zs=>by
  have e:PyData.eqv (prD z) (prD z)=true:=by
   unfold prD
   rw [eqv_tuple,eqvAll_cons,eqvAll_cons,eqvAll_nil,eqv_tups,eqv_tups]
   simp
  rw [List.map_cons,eqvAll_cons,e,prs_eqv zs];rfl
def spKList  : Sp:=λ vs H Q E=>∃ (p:Addr) (q:Addr),vs=[.ref p,.ref q]/\(∃ (Z:List (List Int × List Int)) (xs ys:List V),H p=some (.lst xs)/\H q=some (.lst ys)/\Al (PrV H) Z xs/\Al (PrV H) Z ys/\(∀ z∈Z,z.1.length<=8/\z.2.length<=8)/\∀ H',Ext H H'->Q (.bl true) H')
theorem c_spKList  (p:Addr) (q:Addr) (H:Hp) (Q:VK) (E:XK):spKList  [.ref p,.ref q] H Q E=(∃ (Z:List (List Int × List Int)) (xs ys:List V),H p=some (.lst xs)/\H q=some (.lst ys)/\Al (PrV H) Z xs/\Al (PrV H) Z ys/\(∀ z∈Z,z.1.length<=8/\z.2.length<=8)/\∀ H',Ext H H'->Q (.bl true) H'):=spx2 (f:=λ (p:Addr) (q:Addr)=>[.ref p,.ref q]) (λ _ _ _ _ h=>by cases h;exact ⟨rfl,rfl⟩) p q
theorem l_spKList  {vs:List V}{H:Hp}{Q:VK}{E:XK}(h:spKList  vs H Q E):vs.length=2:=spl2 h λ _ _=>rfl
theorem ok__law_list (T:Tx K mg t):FnOk P w K mg base CX0 2 t.a__law_list t.d__law_list ["_law_found", "_law_due"] spKList:=by
 have G__law_whole:=ok__law_whole (P:=P) (w:=w) (base:=base) T
 refine T.F__law_list.ok c__law_list (λ vs H Q E h=>l_spKList h) (λ cdv A outer s H vs Q E hr h=>?_)
 ·obtain ⟨p,q,rfl,Z,xs,ys,hp,hq,al1,al2,h8,k⟩:=h
  refine ⟨_,%[%[(PW.pt %[%[%[%[("isinstance"),_,call_qIsi,∅,T.z_isinstance,(by decide +kernel),%[%[0|0],%[(@pe_bltn _ _ (.ty "list") (.type "list") _ ∅ T.z_list (by decide +kernel) rfl (by decide) (by decide)),(@pa_nil _),∅|1],∅|1],(by decide),(by decide),∅,∅|11],(by intros;rfl)|17]|20],(@pw_or1 _ _ _ _ %[(op_qNe hr.units),%[0|0],%[1|0],(nomark _)|13])|28]),%[%[(@pe_bl _ _ _ _)|8]|4],(@pss_nil _)|14],%[%[PassesOwn.never,rfl,%[%[0|0]|16],%[(2),_,c__law_list.nd,rfl,(Or.inl rfl),(by trivial)|9],%[%[(PW.pt %[%[%[%[("isinstance"),_,call_qIsi,∅,T.z_isinstance,(by decide +kernel),%[%[2|0],%[(@pe_bltn _ _ (.ty "tuple") (.type "tuple") _ ∅ T.z_tuple (by decide +kernel) rfl (by decide) (by decide)),(@pa_nil _),∅|1],∅|1],(by decide),(by decide),∅,∅|11],(by intros;rfl)|17]|20],%[%[%[%[("isinstance"),_,call_qIsi,∅,T.z_isinstance,(by decide +kernel),%[%[ix_q,%[2|0],%[_|2],(λ _ _=>rfl)|10],%[(@pe_bltn _ _ (.ty "tuple") (.type "tuple") _ ∅ T.z_tuple (by decide +kernel) rfl (by decide) (by decide)),(@pa_nil _),∅|1],∅|1],(by decide),(by decide),∅,∅|11],(by intros;rfl)|17]|20],(@pw_or1 _ _ _ _ %[%[%[("isinstance"),_,call_qIsi,∅,T.z_isinstance,(by decide +kernel),%[%[ix_q,%[2|0],%[_|2],(λ _ _=>rfl)|10],%[(@pe_bltn _ _ (.ty "tuple") (.type "tuple") _ ∅ T.z_tuple (by decide +kernel) rfl (by decide) (by decide)),(@pa_nil _),∅|1],∅|1],(by decide),(by decide),∅,∅|11],(by intros;rfl)|17]|20])|28]|28]),%[%[(@pe_bl _ _ _ _)|8]|4],(@pss_nil _)|14],%[%[%[(op_qNe hr.units),%[(["_law_number", "_law_found", "_law_due", "_law_pair"]),(1),(comp_ok (defScope s__law_list) ["_law_found", "_law_due", "_law_pair"] rfl rfl (by decide +kernel)),rfl,%[%[op_nCatT,%[ix_q,%[2|0],%[_|2],(λ _ _=>rfl)|10],%[ix_q,%[2|0],%[_|2],(λ _ _=>rfl)|10]|6]|16],(λ C s₀ H₀ ex pn=>%[(0),_,(show List.Nodup (["_law_number", "_law_found", "_law_due", "_law_pair"]:List Str) from by decide +kernel),rfl,(Or.inl rfl),(by trivial)|9]),(λ C s₀ H₀ ex pn=>(@pts_one _ _ _ %[%[%[G__law_whole,(hr.mono (by decide)),∅,T.m__law_whole,T.F__law_whole.kp,T.b__law_whole,.nil,pass0,%[%[0|0],(@pa_nil _),∅|1],(by decide),∅,∅|5],(by intros;rfl)|17]|20])),(λ C s₀ H₀ ex pn=>%[0|0]),(by intros;rfl)|21],%[(@pa_nil _)|15],(nomark _)|13],%[%[(@pe_bl _ _ _ _)|8]|4],(@pss_nil _)|14]|4]|3],(by intros;rfl)|18],%[%[(@pe_bl _ _ _ _)|8]|4]|3]|3],?_⟩
  rw [show start ["_law_found", "_law_due", "_law_pair"] [.ref p,.ref q]=[some (.ref p),some (.ref q),none] from rfl]
  clear G__law_whole
  have d1:=prs_all (f:=datF H (datF H noD)) al1
  have d2:=prs_all (f:=datF H (datF H noD)) al2
  have d3:=prs_eqv Z
  replace h8:=λ (_:Unit)=>h8
  replace k:=λ (_:Unit)=>k
  ac_rfl
  refine for_lst (xs:=xs) (λ i σ H'=>∃ v2:Option V,σ=[some (.ref p),some (.ref q),v2]/\Ext H H') ⟨none,rfl,Ext.refl _⟩ (λ i σ H' _ ⟨_,_,e⟩=>e.at hp) ?_ ?_
  ·rintro i y _ H1 hi ⟨v2,rfl,e1⟩
   have hi':i < Z.length:=by have:=(List.getElem?_eq_some_iff.mp hi).1;rw [al1.1] at this;exact this
   obtain ⟨g,u,v,rfl,hg,hu,hv⟩:=al1.2 i _ y (List.getElem?_eq_getElem hi') hi
   have hz:=h8 () _ (List.getElem_mem hi')
   generalize Z[i]=z at *
   have hg1:=e1.at hg
   have hu1:=e1.at hu
   have hv1:=e1.at hv
   clear d1 d2 d3 hi hi' k al1 al2
   simp! only [↓m_kBody]
   rw [x_kCT2]
   refine ⟨len5000 (by rw [List.length_map,List.length_map];omega),λ c H2 e2 h2=>?_⟩
   rw [←List.map_append] at h2
   have hln:(z.1++z.2).length<=16:=by rw [List.length_append];omega
   generalize z.1++z.2=ns at h2 hln
   clear hg hu hv hg1 hu1 hv1 hz
   ac_rfl
   have wk:=wk_tup (K:=K) h2
   refine comp_fm (ns.map V.int) wholeC id (λ z x H'=>x=z/\H' c=some (.tup (ns.map V.int))) wk.1 wk.2 (len5000 (by rw [List.length_map];omega)) ?_ ?_
   ·intro D z x H' N1 N0 hz hD e ⟨hx,_⟩ k1 k0
    subst hx
    obtain ⟨i,_,rfl⟩:=List.mem_map.mp hz
    have k0':=k0 rfl H' (Ext.refl _)
    clear k1 k0
    simp! only [↓m_kCm_1,↓m_kCm2,↓c_spWhole]
   ·intro D H3 hD e3 h3
    rw [filter_ints] at h3
    have h3':H3 D=some (.lst []):=h3
    clear h3 wk
    ac_rfl
    intro q2 H4 hq2 e4 h4
    have h3_4:=e4.at h3'
    have e04:Ext H H4:=e1.trans (e2.trans (e3.trans e4))
    clear h3'
    ac_rfl
    exact ⟨_,rfl,e04⟩
  ·rintro _ H1 ⟨v2,rfl,e1⟩
   have k':=k () H1 e1
   clear k d1 d2 d3 al1 al2
   ac_rfl
theorem pairAt_map {g:Int->Int}(hg:∀ x y,g x=g y->x=y) (ws rs:List Int) (j:Nat):pairAt (ws.map g) (rs.map g) j=pairAt ws rs j:=by
 unfold pairAt
 rw [List.getElem?_map]
 cases hj:rs[j]? with
 | none=>rfl
 | some c=>
  show (match (ws.map g).findIdx? (λ x=>decide (x=g c)) with|some i=>if (rs.map g)[i]? = some (g c) then [] else [(i,j)]|none=>[])=(match ws.findIdx? (λ x=>decide (x=c)) with|some i=>if rs[i]? = some c then [] else [(i,j)]|none=>[])
  have e:(ws.map g).findIdx? (λ x=>decide (x=g c))=ws.findIdx? (λ x=>decide (x=c)):=by
   rw [List.findIdx?_map]
   congr 1
   funext x
   show decide (g x=g c)=decide (x=c)
   exact decide_eq_decide.mpr ⟨hg x c,λ h=>by rw [h]⟩
  rw [e]
  cases ws.findIdx? (λ x=>decide (x=c)) with
  | none=>rfl
  | some i=>
   show (if (rs.map g)[i]? = some (g c) then [] else [(i,j)])=(if rs[i]? = some c then [] else [(i,j)])
   rw [List.getElem?_map]
   cases hi:rs[i]? with
   | none=>rfl
   | some d=>
    show (if some (g d)=some (g c) then [] else [(i,j)])=(if some d=some c then [] else [(i,j)])
    by_cases hdc:d=c
    ·rw [hdc,if_pos rfl,if_pos rfl]
    ·rw [if_neg (λ h=>hdc (hg d c (Option.some.inj h))),if_neg (λ h=>hdc (Option.some.inj h))]
theorem pairsL_map {g:Int->Int}(hg:∀ x y,g x=g y->x=y) (ws rs:List Int) (n:Nat):pairsL (ws.map g) (rs.map g) n=pairsL ws rs n:=by
 unfold pairsL
 refine congrArg (λ f=>(List.range n).flatMap f) (funext λ j=>pairAt_map hg ws rs j)
theorem nodup_map {g:Int->Int}(hg:∀ x y,g x=g y->x=y) (ws:List Int):(ws.map g).Nodup ↔ ws.Nodup:=by
 unfold List.Nodup
 rw [List.pairwise_map]
 exact ⟨λ h=>h.imp λ h e=>h (by rw [e]),λ h=>h.imp λ h e=>h (hg _ _ e)⟩
def rowP (ms:List Int) (z:Nat × Nat):List Int × List Int:=(splitL ms (z.1:Int),splitL ms (z.2:Int))
theorem row_is {H:Hp}{ms:List Int}{ys:List V}{i:Nat}{y:V}(al:Al (TupV H) (rowsL ms) ys) (h:ys[i]? = some y):∃ q,y=.ref q/\H q=some (.tup ((splitL ms (i:Int)).map V.int)):=by
 obtain ⟨z,hz,q,hq,hq2⟩:=getElem?_zs al h
 unfold rowsL at hz
 rw [List.getElem?_map] at hz
 obtain ⟨k,hk,rfl⟩:=Option.map_eq_some_iff.mp hz
 have:k=i:=by
  have hi:=(List.getElem?_eq_some_iff.mp hk).1
  rw [List.getElem?_eq_getElem hi] at hk
  have:=Option.some.inj hk
  rw [List.getElem_range] at this
  exact this.symm
 subst this
 exact ⟨q,hq,hq2⟩
theorem pair_pr {H:Hp}{ms:List Int}{ys zs:List V}{L:List (Nat × Nat)}(al:Al (TupV H) (rowsL ms) ys) (alp:Al (PairV H ys) L zs):Al (PrV H) (L.map (rowP ms)) zs:=by
 refine ⟨by rw [alp.1,List.length_map],λ k z y hz hy=>?_⟩
 rw [List.getElem?_map] at hz
 obtain ⟨ij,hk,rfl⟩:=Option.map_eq_some_iff.mp hz
 obtain ⟨q,u,v,rfl,hq,hu,hv⟩:=alp.2 k ij y hk hy
 obtain ⟨a,rfl,ha⟩:=row_is al hu
 obtain ⟨b,rfl,hb⟩:=row_is al hv
 exact ⟨q,a,b,rfl,hq,ha,hb⟩
theorem rowP_len {ms:List Int}(h:ms.length<=8) (L:List (Nat × Nat)):∀ z∈L.map (rowP ms),z.1.length<=8/\z.2.length<=8:=λ z hz=>by
 obtain ⟨ij,_,rfl⟩:=List.mem_map.mp hz
 show (splitL ms _).length<=8/\(splitL ms _).length<=8
 rw [splitL_len,splitL_len]
 exact ⟨h,h⟩
theorem pairAt_lt {ws rs:List Int}{j:Nat}:∀ z∈pairAt ws rs j,z.1 < ws.length/\z.2 < rs.length:=λ z hz=>by
 unfold pairAt at hz
 cases hj:rs[j]? with
 | none=>rw [hj] at hz;cases hz
 | some c=>
  rw [hj] at hz
  have hz':z∈(match ws.findIdx? (λ x=>decide (x=c)) with|some i=>if rs[i]? = some c then [] else [(i,j)]|none=>[]):=hz
  cases hf:ws.findIdx? (λ x=>decide (x=c)) with
  | none=>rw [hf] at hz';cases hz'
  | some i=>
   rw [hf] at hz'
   have hz2:z∈(if rs[i]? = some c then [] else [(i,j)]):=hz'
   rw [List.findIdx?_eq_some_iff_getElem] at hf
   split at hz2
   ·cases hz2
   ·rw [List.mem_singleton.mp hz2]
    exact ⟨hf.1,(List.getElem?_eq_some_iff.mp hj).1⟩
theorem pairsL_lt {ws rs:List Int}{n:Nat}:∀ z∈pairsL ws rs n,z.1 < ws.length/\z.2 < rs.length:=λ z hz=>by
 unfold pairsL at hz
 obtain ⟨j,_,h⟩:=List.mem_flatMap.mp hz
 exact pairAt_lt z h
theorem nodup_ne {ws:List Int}{i j:Nat}{c:Int}(h:ws.Nodup) (hij:i < j) (h1:ws[i]? = some c) (h2:ws[j]? = some c):False:=by
 obtain ⟨a,ha⟩:=List.getElem?_eq_some_iff.mp h1
 obtain ⟨b,hb⟩:=List.getElem?_eq_some_iff.mp h2
 have:=(List.getElem_inj h).mp (ha.trans hb.symm)
 omega
def InjG (g:Int->Int):Prop:=∀ x y,g x=g y->x=y
theorem inj_id:InjG id:=λ _ _ h=>h
theorem inj_lin {b m:Int}(h:1<=b):InjG (λ c=>c * b+m):=λ x y e=>by
 have e':x * b+m=y * b+m:=e
 exact Int.eq_of_mul_eq_mul_right (show b ≠ 0 by omega) (by omega)
def rowI (ms:List Int) (a:Int × Int):List Int × List Int:=(splitL ms a.1,splitL ms a.2)
theorem rowI_map (ms:List Int) (L:List (Nat × Nat)):(ijL L).map (rowI ms)=L.map (rowP ms):=by
 unfold ijL
 rw [List.map_map]
 rfl
theorem al_map {α β:Type}{f:α->β}{R:β->V->Prop}{zs:List α}{ys:List V}(h:Al (λ z y=>R (f z) y) zs ys):Al R (zs.map f) ys:=by
 refine ⟨by rw [h.1,List.length_map],λ i z y hz hy=>?_⟩
 rw [List.getElem?_map] at hz
 obtain ⟨a,ha,rfl⟩:=Option.map_eq_some_iff.mp hz
 exact h.2 i a y ha hy
theorem row_at {H:Hp}{ms:List Int}{ys:List V}{i:Nat}(al:Al (TupV H) (rowsL ms) ys) (h:i < ys.length):∃ q,atI ys (i:Int)=some (.ref q)/\H q=some (.tup ((splitL ms (i:Int)).map V.int)):=by
 obtain ⟨q,hq,hq2⟩:=row_is al (List.getElem?_eq_getElem h)
 exact ⟨q,atI_nat (by rw [List.getElem?_eq_getElem h,hq]),hq2⟩
def spKRight (C:Addr):Sp:=λ vs H Q E=>∃ (u:Addr) (v:Addr) (l:Addr) (o:Addr) (o2:Addr),vs=[.ref u,.ref v,.ref l,.ref o,.ref o2]/\(∃ (room f1 f2:Int) (A B:List (Int × Int)) (ms ws rs:List Int) (g:Int->Int),ViewAt C H u room f1 A/\ViewAt C H v room f2 B/\Axes A/\Axes B/\(A.map λ a=>a.1)=ms/\(B.map λ a=>a.1)=ms/\prodL ms<=60/\TupsAt H l (rowsL ms)/\H o=some (.lst (ws.map V.int))/\H o2=some (.lst (rs.map V.int))/\InjG g/\cellsL f1 A=ws.map g/\cellsL f2 B=rs.map g/\∀ H',Ext H H'->Q (.bl true) H')
theorem c_spKRight (C:Addr) (u:Addr) (v:Addr) (l:Addr) (o:Addr) (o2:Addr) (H:Hp) (Q:VK) (E:XK):spKRight C [.ref u,.ref v,.ref l,.ref o,.ref o2] H Q E=(∃ (room f1 f2:Int) (A B:List (Int × Int)) (ms ws rs:List Int) (g:Int->Int),ViewAt C H u room f1 A/\ViewAt C H v room f2 B/\Axes A/\Axes B/\(A.map λ a=>a.1)=ms/\(B.map λ a=>a.1)=ms/\prodL ms<=60/\TupsAt H l (rowsL ms)/\H o=some (.lst (ws.map V.int))/\H o2=some (.lst (rs.map V.int))/\InjG g/\cellsL f1 A=ws.map g/\cellsL f2 B=rs.map g/\∀ H',Ext H H'->Q (.bl true) H'):=spx5 (f:=λ (u:Addr) (v:Addr) (l:Addr) (o:Addr) (o2:Addr)=>[.ref u,.ref v,.ref l,.ref o,.ref o2]) (λ _ _ _ _ _ _ _ _ _ _ h=>by cases h;exact ⟨rfl,rfl,rfl,rfl,rfl⟩) u v l o o2
theorem l_spKRight (C:Addr){vs:List V}{H:Hp}{Q:VK}{E:XK}(h:spKRight C vs H Q E):vs.length=5:=spl5 h λ _ _ _ _ _=>rfl
theorem ok__law_right (T:Tx K mg t):FnOk P w K mg base CX0 9 t.a__law_right t.d__law_right ["_law_one", "_law_other", "_law_some", "_law_writes", "_law_reads"] (spKRight t.a_View):=by
 have G__law_asked:=ok__law_asked (P:=P) (w:=w) (base:=base) T
 have G__law_is_twice:=ok__law_is_twice (P:=P) (w:=w) (base:=base) T
 have G__law_pairs:=ok__law_pairs (P:=P) (w:=w) (base:=base) T
 have G__law_list:=ok__law_list (P:=P) (w:=w) (base:=base) T
 have G_bound_pairs:=ok_bound_pairs (P:=P) (w:=w) (base:=base) T
 refine T.F__law_right.ok c__law_right (λ vs H Q E h=>l_spKRight _ h) (λ cdv A outer s H vs Q E hr h=>?_)
 ·obtain ⟨u,v,l,o,o2,rfl,room,f1,f2,A,B,ms,ws,rs,g,vu,vv,hA,hB,hm,hm2,h60,ht,ho,ho2,hg,hc1,hc2,k⟩:=h
  refine ⟨_,%[%[(5),_,_,_,_,c__law_right.nd,rfl,(Or.inl rfl),%[G__law_asked,(hr.mono (by decide)),∅,T.m__law_asked,T.F__law_asked.kp,T.b__law_asked,.nil,pass0,%[%[0|0],%[%[1|0],(@pa_nil _),∅|1],∅|1],(by decide),∅,∅|5],∅,(by trivial)|7],%[%[%[(op_qNe hr.units),%[("len"),_,call_qLenS,∅,T.z_len,(by decide +kernel),%[(@pe_callTy _ _ _ _ _ _ _ _ _ (call_qSet rfl) ∅ T.z_set (by decide +kernel) %[%[3|0],(@pa_nil _),∅|1] (by decide) (by decide) ∅ ∅),(@pa_nil _),∅|1],(by decide),(by decide),∅,∅|11],%[("len"),_,call_qLen,∅,T.z_len,(by decide +kernel),%[%[3|0],(@pa_nil _),∅|1],(by decide),(by decide),∅,∅|11],(nomark _)|13],%[%[%[(@pe_notN _ _ _ _ %[ix_q,%[5|0],%[_|2],(λ _ _=>rfl)|10]),(@pe_one _ _ _ _ _ %[G__law_is_twice,(hr.mono (by decide)),∅,T.m__law_is_twice,T.F__law_is_twice.kp,T.b__law_is_twice,.nil,pass0,%[%[5|0],%[%[2|0],%[%[3|0],(@pa_nil _),∅|1],∅|1],∅|1],(by decide),∅,∅|5])|26]|8]|4],(@pss_nil _)|14],%[(@ps_setC _ _ _ _ _ _ _ _ _ _ _ _ _ (["_law_i", "_law_j", "_law_one", "_law_other", "_law_some", "_law_writes", "_law_reads", "_law_found", "_law_due"]) (2) (6) _ c__law_right.nd rfl (Or.inl rfl) (comp_ok (defScope s__law_right) ["_law_one", "_law_other", "_law_some", "_law_writes", "_law_reads", "_law_found", "_law_due"] rfl rfl (by decide +kernel)) rfl %[%[G__law_pairs,(hr.mono (by decide)),∅,T.m__law_pairs,T.F__law_pairs.kp,T.b__law_pairs,.nil,pass0,%[%[3|0],%[%[4|0],(@pa_nil _),∅|1],∅|1],(by decide),∅,∅|5]|16] (λ C s₀ H₀ ex pn=>(%[(2),rfl,%[%[(0),_,(show List.Nodup (["_law_i", "_law_j", "_law_one", "_law_other", "_law_some", "_law_writes", "_law_reads", "_law_found", "_law_due"]:List Str) from by decide +kernel),rfl,(Or.inl rfl),(by trivial)|9],%[%[(1),_,(show List.Nodup (["_law_i", "_law_j", "_law_one", "_law_other", "_law_some", "_law_writes", "_law_reads", "_law_found", "_law_due"]:List Str) from by decide +kernel),rfl,(Or.inl rfl),(by trivial)|9],(@pgs_nilN _),∅|12],∅|12],∅,∅|24].mono λ _ _ _ _ h=>gTup_q h)) (λ C s₀ H₀ ex pn=>(@pts_nil _)) (λ C s₀ H₀ ex pn=>%[%[%[ix_q,%[4|0],%[0|0],(λ _ _=>rfl)|10],%[%[ix_q,%[4|0],%[1|0],(λ _ _=>rfl)|10],(@pa_nil _),∅|1],∅|1]|23]) ∅ (by intros;rfl) (by trivial)),%[%[(PW.pt %[%[%[%[ix_q,%[5|0],%[_|2],(λ _ _=>rfl)|10],(by intros;rfl)|17]|20],(@pw_or1 _ _ _ _ %[%[%[G__law_list,(hr.mono (by decide)),∅,T.m__law_list,T.F__law_list.kp,T.b__law_list,.nil,pass0,%[%[ix_q,%[5|0],%[_|2],(λ _ _=>rfl)|10],%[%[6|0],(@pa_nil _),∅|1],∅|1],(by decide),∅,∅|5],(by intros;rfl)|17]|20])|28]),%[%[(@pe_bl _ _ _ _)|8]|4],(@pss_nil _)|14],%[%[%[PySem.F.plainAttrs_list,PySem.F.slot_list_append,PySem.F.type_list_append,mt_append,%[ix_q,%[5|0],%[_|2],(λ _ _=>rfl)|10],%[%[%[%[(@pa_nil _)|23],%[%[(@pa_nil _)|23],(@pa_nil _),∅|1],∅|1]|23],(@pa_nil _),∅|1],∅,∅,∅,∅,∅|27],∅|19],%[%[%[G__law_list,(hr.mono (by decide)),∅,T.m__law_list,T.F__law_list.kp,T.b__law_list,.nil,pass0,%[%[G_bound_pairs,(hr.mono (by decide)),∅,T.m_bound_pairs,T.F_bound_pairs.kp,T.b_bound_pairs,.nil,pass1,%[%[0|0],%[%[1|0],(@pa_nil _),∅|1],∅|1],(by decide),∅,∅|5],%[%[6|0],(@pa_nil _),∅|1],∅|1],(by decide),∅,∅|5]|8]|4]|3]|3]|3]|3]|3],?_⟩
  rw [show start ["_law_one", "_law_other", "_law_some", "_law_writes", "_law_reads", "_law_found", "_law_due"] [.ref u,.ref v,.ref l,.ref o,.ref o2]=[some (.ref u),some (.ref v),some (.ref l),some (.ref o),some (.ref o2),none,none] from rfl]
  clear G__law_asked G__law_is_twice G__law_pairs G__law_list G_bound_pairs
  have one:∀ n∈ms,(1:Int)<=n:=λ n hn=>by
   rw [←hm] at hn
   obtain ⟨a,ha,rfl⟩:=List.mem_map.mp hn
   exact (hA.2 a ha).1
  have l8:ms.length<=8:=by rw [←hm,List.length_map];exact hA.1
  have n1:=cellsL_len f1 A λ b hb=>(hA.2 b hb).1
  have n2:=cellsL_len f2 B λ b hb=>(hB.2 b hb).1
  rw [hm,hc1,List.length_map] at n1
  rw [hm2,hc2,List.length_map] at n2
  have w60:ws.length<=60:=by omega
  have rw':rs.length=ws.length:=by omega
  have hnd1:=nodup_map hg ws
  have hpp:=pairsL_map hg ws rs rs.length
  replace k:=λ (_:Unit)=>k
  replace one:=λ (_:Unit)=>one
  replace hnd1:=λ (_:Unit)=>hnd1
  replace hpp:=λ (_:Unit)=>hpp
  replace hm:=λ (_:Unit)=>hm
  replace hm2:=λ (_:Unit)=>hm2
  replace hc1:=λ (_:Unit)=>hc1
  replace hc2:=λ (_:Unit)=>hc2
  replace hg:=λ (_:Unit)=>hg
  replace rw':=λ (_:Unit)=>rw'
  replace ht:=λ (_:Unit)=>ht
  ac_rfl
  rw [c_spAsked]
  refine ⟨room,f1,f2,A,B,vu,vv,hA,hB,by rw [hm (),hm2 ()],by rw [hm ()];omega,λ hnd l1 r1 x1 ys zs H1 e1 hr1 hl1 al1 hz1 alp1 hx1=>?_,λ i j c x p q H1 hij hi hj e1 hx1 hp hq=>?_⟩
  ·rw [hc1 ()] at hnd
   have hw:=(hnd1 ()).mp hnd
   have hst:=(setN_eq ws).mpr hw
   rw [hm ()] at al1
   rw [hc1 (),hc2 (),List.length_map,hpp ()] at alp1
   have pr1:=pair_pr al1 alp1
   have ho1:=e1.at ho
   replace hw:=λ (_:Unit)=>hw
   replace pr1:=λ (_:Unit)=>pr1
   clear alp1 al1 hl1 hnd
   ac_rfl
   refine use_set ho1 (by omega) ?_
   intro S H2 hS e2 h2
   have ho_2:=e2.at ho1
   have hx_2:=e2.at hx1
   clear hS
   ac_rfl
   refine use_lenS h2 ?_
   ac_rfl
   rw [c_spLPairs]
   refine ⟨ws,rs,ho_2,(e1.trans e2).at ho2,hw (),rw' (),w60,λ r3 H3 hr3 e3 t3=>?_⟩
   obtain ⟨ts,hts,al3⟩:=t3
   obtain ⟨ls,hls,alr⟩:=ht ()
   have e03:Ext H H3:=e1.trans (e2.trans e3)
   have hlen:ls.length=ws.length:=by rw [alr.1];unfold rowsL;rw [List.length_map,List.length_range];omega
   have hpl:=pairsL_len ws rs rs.length
   have hx_3:=e3.at hx_2
   have hz_3:=(e2.trans e3).at hz1
   have hls3:=e03.at hls
   have alr3:=alr.imp λ _ _ t=>TupV.ext t e03
   have wk:=wk_al (K:=K) (R:=axP) (λ _ _ _ _ h e=>h.ext e) hts (al_axP al3)
   replace hlen:=λ (_:Unit)=>hlen
   replace alr3:=λ (_:Unit)=>alr3
   have e13:=e2.trans e3
   clear ho_2 hx_2 hls alr al3 e3 e2 h2 ho1 hx1 hz1 hst
   ac_rfl
   refine comp_rel2 (ijL (pairsL ws rs rs.length)) (λ _=>true) axP (λ D a y H'=>PrV H' (rowI ms a) y) wk.1 wk.2 (λ D _ y H1 H2 h e=>h.ext e) (λ D _ y H1 xs o h hD=>h.upd hD) (len5000 (by unfold ijL;rw [List.length_map];omega)) ?_ ?_
   ·intro D' x y H' N1 N0 ha hD e _ ⟨q,hy,hq⟩ k1 _
    subst hy
    have k1':=k1 rfl
    obtain ⟨z,hz,rfl⟩:=List.mem_map.mp ha
    obtain ⟨b1,b2⟩:=pairsL_lt z hz
    obtain ⟨q1,ha1,hq1⟩:=row_at (alr3 ()) (i:=z.1) (by rw [hlen ()];exact b1)
    obtain ⟨q2,ha2,hq2⟩:=row_at (alr3 ()) (i:=z.2) (by rw [hlen (),←rw' ()];exact b2)
    have hls':=e.at hls3
    have f1':=e.at hq1
    have f2':=e.at hq2
    clear k1 wk k ha hz
    simp! only [↓m_kCm_2,↓m_kCm2]
    intro t1 H6 ht1 e6 h6
    exact k1' _ H6 e6 ⟨t1,q1,q2,rfl,h6,e6.at f1',e6.at f2'⟩
   intro D2 zs2 H4 hD2' e4 hD2 al4
   rw [filt] at al4
   have al4':=al_map al4
   rw [rowI_map] at al4'
   have hx_4:=e4.at hx_3
   have hz_4:=e4.at hz_3
   have e04:=e03.trans e4
   have nD:D2 ≠ r1:=λ z=>by rw [z,hz_3] at hD2';cases hD2'
   replace al4':=λ (_:Unit)=>al4'
   clear wk al4 hts hD2' hx_3
   ac_rfl
   rw [c_spKList]
   refine ⟨_,zs,zs2,hz_4,hD2,(pr1 ()).imp λ _ _ t=>PrV.ext t (e13.trans e4),al4' (),rowP_len l8 _,λ H5 e5=>?_⟩
   have hx_5:=e5.at hx_4
   have hz_5:=e5.at hz_4
   have hD_5:=e5.at hD2
   have al5:=(al4' ()).imp λ _ _ t=>PrV.ext t e5
   have hzl:zs.length<=60:=by have:=(pr1 ()).1;rw [List.length_map] at this;omega
   replace al5:=λ (_:Unit)=>al5
   clear hx_4 hz_4 hD2
   ac_rfl
   intro t1 H6 ht1 e6 h6
   clear ht1
   ac_rfl
   intro t2 H7 ht2 e7 h7
   clear ht2
   ac_rfl
   intro t3 H8 ht3 e8 h8
   have e58:=e6.trans (e7.trans e8)
   have hz_8:=e58.at hz_5
   have hD_8:=e58.at hD_5
   have al8:=(al5 ()).imp λ _ _ t=>PrV.ext t e58
   have hzs:zs.length < sizeLine:=lt5000 (by omega)
   have hD9:(upd H8 r1 (.lst (zs++[.ref t3]))) D2=some (.lst zs2):=by rw [upd_ne nD];exact hD_8
   have al9:=al8.imp λ _ _ t=>PrV.upd (o:=.lst (zs++[.ref t3])) t hz_8
   have e9:Ext H (upd H8 r1 (.lst (zs++[.ref t3]))):=(e04.trans (e5.trans e58)).put hr1
   replace al9:=λ (_:Unit)=>al9
   clear ht3 h6 h7 h8 hz_5 hD_5 al5 al8 hx_5 pr1
   ac_rfl
   generalize upd H8 r1 (.lst (zs++[.ref t3]))=H9 at hD9 al9 e9 ⊢
   rw [c_spBound]
   refine ⟨room,f1,f2,A,B,vu.ext e9,vv.ext e9,hA,hB,by rw [hm (),hm2 ()],by rw [hm ()];omega,λ _ l10 r10 ys10 zs10 H10 e10 hr10 hl10 al10 hz10 alp10=>?_,λ i j c dx p q H10 hij hi hj _ _ _ _=>(nodup_ne ((hnd1 ()).mpr (hw ())) hij (by rw [←hc1 ()];exact hi) (by rw [←hc1 ()];exact hj)).elim⟩
   rw [hm ()] at al10
   rw [hc1 (),hc2 (),List.length_map,hpp ()] at alp10
   have pr10:=pair_pr al10 alp10
   have hD10:=e10.at hD9
   replace pr10:=λ (_:Unit)=>pr10
   clear al10 alp10 hl10 hr10
   ac_rfl
   rw [c_spKList]
   refine ⟨_,zs10,zs2,hz10,hD10,pr10 (),(al9 ()).imp λ _ _ t=>PrV.ext t e10,rowP_len l8 _,λ H11 e11=>?_⟩
   have k':=k () H11 (e9.trans (e10.trans e11))
   clear k
   ac_rfl
  ·rw [hc1 (),List.getElem?_map] at hi hj
   obtain ⟨c1,hi1,hgc⟩:=Option.map_eq_some_iff.mp hi
   obtain ⟨c2,hj1,hgc2⟩:=Option.map_eq_some_iff.mp hj
   have hcc:=hg () _ _ (hgc.trans hgc2.symm)
   subst hcc
   rw [hm ()] at hp hq
   have hst:¬ setN ws=ws.length:=λ z=>nodup_ne ((setN_eq ws).mp z) hij hi1 hj1
   have hst':¬ (setN ws:Int)=(ws.length:Int):=by omega
   have ho1:=e1.at ho
   have hjl:j < ws.length:=(List.getElem?_eq_some_iff.mp hj1).1
   clear hi hj hgc hgc2
   ac_rfl
   refine use_set ho1 (by omega) ?_
   intro S H2 hS e2 h2
   have ho_2:=e2.at ho1
   have hx_2:=e2.at hx1
   clear hS
   ac_rfl
   refine use_lenS h2 ?_
   ac_rfl
   rw [if_pos (show ¬ (setN ws:Int)=prodL ms by omega),c_spIsTw]
   have k':=k () H2 (e1.trans e2)
   refine ⟨p,q,i,j,c1,ms,ws,hx_2,e2.at hp,e2.at hq,hij,by omega,one (),(ht ()).ext (e1.trans e2),ho_2,hi1,hj1,?_⟩
   clear k
   ac_rfl
def spLaw (K:W.Frag):Sp:=λ vs H Q E=>∃ (a:Addr),vs=[.ref a]/\(∃ ns:List Int,SqL K H a (ns.map V.int)/\ns.length<=63/\∀ H',Q (.bl true) H')
theorem c_spLaw (K:W.Frag) (a:Addr) (H:Hp) (Q:VK) (E:XK):spLaw K [.ref a] H Q E=(∃ ns:List Int,SqL K H a (ns.map V.int)/\ns.length<=63/\∀ H',Q (.bl true) H'):=spx1 (f:=λ (a:Addr)=>[.ref a]) (λ _ _ h=>by cases h;exact rfl) a
theorem l_spLaw (K:W.Frag){vs:List V}{H:Hp}{Q:VK}{E:XK}(h:spLaw K vs H Q E):vs.length=1:=spl1 h λ _=>rfl
theorem scale_fst1 (b:Int) (axs:List (Int × Int)):(scaleL b axs).map (λ a=>a.1)=axs.map λ a=>a.1:=by
 unfold scaleL
 rw [List.map_map]
 rfl
theorem ok_law (T:Tx K mg t):FnOk P w K mg base CX0 10 t.a_law t.d_law ["_law_script"] (spLaw K):=by
 refine T.F_law.ok c_law (λ vs H Q E h=>l_spLaw _ h) (λ cdv A outer s' H vs Q E hr h=>?_)
 ·obtain ⟨a,rfl,ns,hS,hl,kk⟩:=h
  have G__law_sizes:=ok__law_sizes (P:=P) (w:=w) (base:=base) T a ns
  have G__law_two:=ok__law_two (P:=P) (w:=w) (base:=base) T a ns
  have G__law_places:=ok__law_places (P:=P) (w:=w) (base:=base) T
  have G__law_right:=ok__law_right (P:=P) (w:=w) (base:=base) T
  have G__law_far:=ok__law_far (P:=P) (w:=w) (base:=base) T a ns
  have G_View_cells:=ok_View_cells (P:=P) (w:=w) (base:=base) T
  have c2:=T.cl_View
  refine ⟨_,%[%[(1),_,_,_,_,c_law.nd,rfl,(Or.inl rfl),%[G__law_sizes,(hr.mono (by decide)),∅,T.m__law_sizes,T.F__law_sizes.kp,T.b__law_sizes,.nil,pass0,%[%[0|0],%[%[_|2],%[(@pe_bl _ _ _ _),(@pa_nil _),∅|1],∅|1],∅|1],(by decide),∅,∅|5],∅,(by trivial)|7],%[(@ps_asg _ _ _ _ _ _ %[G__law_two,(hr.mono (by decide)),∅,T.m__law_two,T.F__law_two.kp,T.b__law_two,.nil,pass0,%[%[0|0],%[%[1|0],(@pa_nil _),∅|1],∅|1],(by decide),∅,∅|5] (%[(4),rfl,%[%[(2),_,c_law.nd,rfl,(Or.inl rfl),(by trivial)|9],%[%[(3),_,c_law.nd,rfl,(Or.inl rfl),(by trivial)|9],%[%[(4),_,c_law.nd,rfl,(Or.inl rfl),(by trivial)|9],%[%[(5),_,c_law.nd,rfl,(Or.inl rfl),(by trivial)|9],(@pgs_nilN _),∅|12],∅|12],∅|12],∅|12],∅,∅|24].mono λ _ _ _ _ h=>gTup_q h) ∅ ∅ ∅),%[%[(6),_,_,_,_,c_law.nd,rfl,(Or.inl rfl),%[G__law_places,(hr.mono (by decide)),∅,T.m__law_places,T.F__law_places.kp,T.b__law_places,.nil,pass0,%[%[1|0],(@pa_nil _),∅|1],(by decide),∅,∅|5],∅,(by trivial)|7],%[%[(PW.pt %[%[%[%[G__law_right,(hr.mono (by decide)),∅,T.m__law_right,T.F__law_right.kp,T.b__law_right,.nil,pass0,%[%[2|0],%[%[3|0],%[%[6|0],%[%[4|0],%[%[5|0],(@pa_nil _),∅|1],∅|1],∅|1],∅|1],∅|1],(by decide),∅,∅|5],(by intros;rfl)|17]|20],(@pw_or1 _ _ _ _ %[%[%[G__law_right,(hr.mono (by decide)),∅,T.m__law_right,T.F__law_right.kp,T.b__law_right,.nil,pass0,%[%[3|0],%[%[2|0],%[%[6|0],%[%[5|0],%[%[4|0],(@pa_nil _),∅|1],∅|1],∅|1],∅|1],∅|1],(by decide),∅,∅|5],(by intros;rfl)|17]|20])|28]),%[%[(@pe_bl _ _ _ _)|8]|4],(@pss_nil _)|14],%[%[%[%[%[G__law_right,(hr.mono (by decide)),∅,T.m__law_right,T.F__law_right.kp,T.b__law_right,.nil,pass0,%[%[G__law_far,(hr.mono (by decide)),∅,T.m__law_far,T.F__law_far.kp,T.b__law_far,.nil,pass0,%[%[0|0],%[%[2|0],(@pa_nil _),∅|1],∅|1],(by decide),∅,∅|5],%[%[G__law_far,(hr.mono (by decide)),∅,T.m__law_far,T.F__law_far.kp,T.b__law_far,.nil,pass0,%[%[0|0],%[%[3|0],(@pa_nil _),∅|1],∅|1],(by decide),∅,∅|5],%[%[6|0],%[%[4|0],%[%[5|0],(@pa_nil _),∅|1],∅|1],∅|1],∅|1],∅|1],(by decide),∅,∅|5],(by intros;rfl)|17]|20],%[%[(@pe_bl _ _ _ _)|8]|4],(@pss_nil _)|14],%[%[%[%[G__law_right,(hr.mono (by decide)),∅,T.m__law_right,T.F__law_right.kp,T.b__law_right,.nil,pass0,%[%[2|0],%[%[2|0],%[%[6|0],%[%[4|0],%[%[4|0],(@pa_nil _),∅|1],∅|1],∅|1],∅|1],∅|1],(by decide),∅,∅|5],%[(@pe_cmpR _ _ _ _ _ _ _ _ (op_qEq hr.units) %[%[2|0],T.cl_View,T.mt_View_cells,G_View_cells,(hr.mono (by decide)),T.b_View_cells,.nil,pass0,∅|22] %[4|0] (nomark _)),(@pe_one _ _ _ _ _ (@pe_cmpR _ _ _ _ _ _ _ _ (op_qEq hr.units) %[%[3|0],T.cl_View,T.mt_View_cells,G_View_cells,(hr.mono (by decide)),T.b_View_cells,.nil,pass0,∅|22] %[5|0] (nomark _)))|26]|26]|8]|4]|3]|3]|3]|3]|3],?_⟩
  rw [show start ["_law_script", "_law_sizes_here", "_law_one", "_law_other", "_law_writes", "_law_reads", "_law_some"] [.ref a]=[some (.ref a),none,none,none,none,none,none] from rfl]
  clear G__law_sizes G__law_two G__law_places G__law_right G__law_far G_View_cells
  replace kk:=λ (_:Unit)=>kk
  ac_rfl
  rw [c_spKSz]
  refine ⟨rfl,hS,hl,λ ms pl H1 e1 h1 hsz=>?_⟩
  have hS1:=e1.2 K a _ hS
  ac_rfl
  rw [c_spTwo]
  refine ⟨rfl,hS1,hl,ms,h1,hsz,λ room f1 f2 ps qs x1 x2 w1 w2 r2 H2 e2 h2 v1 v2 hw1 hw2 o1 o2 rm1 rm2=>?_⟩
  have hS2:=e2.2 K a _ hS1
  have h1_2:=e2.at h1
  have h8:=hsz.pos.2.1
  have p60:=hsz.pos.2.2
  have hsz8:Sizes ms:=⟨h8,λ n hn=>by have:=hsz.pos.1 n hn;omega⟩
  have mz1:=zip_fst o1.len
  have mz2:=zip_fst o2.len
  have ax1:=zip_axes hsz o1.len
  have ax2:=zip_axes hsz o2.len
  have ck1:=cells_kept f1 (ms.zip ps) λ a ha=>(ax1.2 a ha).1
  have ck2:=cells_kept f2 (ms.zip qs) λ a ha=>(ax2.2 a ha).1
  have cl1:=cellsL_len f1 (ms.zip ps) λ a ha=>(ax1.2 a ha).1
  have cl2:=cellsL_len f2 (ms.zip qs) λ a ha=>(ax2.2 a ha).1
  rw [mz1] at cl1
  rw [mz2] at cl2
  have kx1:=kept_axes ax1
  have kx2:=kept_axes ax2
  have ks1:((ms.zip ps).map keptA).map (λ a=>a.1)=ms:=by rw [kept_sizes];exact mz1
  have ks2:((ms.zip qs).map keptA).map (λ a=>a.1)=ms:=by rw [kept_sizes];exact mz2
  obtain ⟨sl1,sg1⟩:=span_kept (ms.zip ps) λ a ha=>(ax1.2 a ha).1
  obtain ⟨sl2,sg2⟩:=span_kept (ms.zip qs) λ a ha=>(ax2.2 a ha).1
  have lo1:=o1.lo
  have hi1:=o1.hi
  have lo2:=o2.lo
  have hi2:=o2.hi
  rw [←sl1] at lo1
  rw [←sg1] at hi1
  rw [←sl2] at lo2
  rw [←sg2] at hi2
  have sk1:=λ (_:Unit)=>scale_keptA (farB ns) (ms.zip ps)
  have sk2:=λ (_:Unit)=>scale_keptA (farB ns) (ms.zip qs)
  have hB:=(farB_b ns).1
  generalize cellsL f1 (ms.zip ps)=ws at *
  generalize cellsL f2 (ms.zip qs)=rs at *
  generalize (ms.zip ps).map keptA=A1 at *
  generalize (ms.zip qs).map keptA=A2 at *
  have gB:∀ (f:Int) (A:List (Int × Int)) (cs:List Int),cellsL f A=cs->cellsL (f * farB ns+farM ns) (scaleL (farB ns) A)=cs.map λ c=>c * farB ns+farM ns:=λ f A cs h=>by rw [cellsL_scale,h]
  have gS:∀ (A:List (Int × Int)),A.map (λ a=>a.1)=ms->(scaleL (farB ns) A).map (λ a=>a.1)=ms:=λ A h=>by rw [scale_fst1];exact h
  replace gB:=λ (_:Unit)=>gB
  replace gS:=λ (_:Unit)=>gS
  have hin:InjG λ c=>c * farB ns+farM ns:=inj_lin hB
  replace ck1:=λ (_:Unit)=>ck1
  replace ck2:=λ (_:Unit)=>ck2
  replace ks1:=λ (_:Unit)=>ks1
  replace ks2:=λ (_:Unit)=>ks2
  have id1:∀ cs:List Int,cs=cs.map id:=λ cs=>(List.map_id cs).symm
  replace id1:=λ (_:Unit)=>id1
  clear mz1 mz2 ax1 ax2 sl1 sl2 sg1 sg2 o1 o2 hS1 hS e1 h1
  ac_rfl
  rw [c_spKPl]
  refine ⟨ms,h1_2,hsz8,by omega,λ l H3 e3 t3=>?_⟩
  have hS3:=e3.2 K a _ hS2
  have v1_3:=v1.ext e3
  have v2_3:=v2.ext e3
  have hw1_3:=e3.at hw1
  have hw2_3:=e3.at hw2
  clear v1 v2 hw1 hw2 hS2 h1_2 h2 e3
  ac_rfl
  rw [c_spKRight]
  refine ⟨room,f1,f2,A1,A2,ms,ws,rs,id,v1_3,v2_3,kx1,kx2,ks1 (),ks2 (),p60,t3,hw1_3,hw2_3,inj_id,(ck1 ()).trans (id1 () _),(ck2 ()).trans (id1 () _),λ H4 e4=>?_⟩
  ac_rfl
  rw [c_spKRight]
  refine ⟨room,f2,f1,A2,A1,ms,rs,ws,id,v2_3.ext e4,v1_3.ext e4,kx2,kx1,ks2 (),ks1 (),p60,t3.ext e4,e4.at hw2_3,e4.at hw1_3,inj_id,(ck2 ()).trans (id1 () _),(ck1 ()).trans (id1 () _),λ H5 e5=>?_⟩
  have e35:=e4.trans e5
  clear e4 e5
  ac_rfl
  rw [c_spKFar]
  refine ⟨rfl,e35.2 K a _ hS3,hl,room,f1,A1,v1_3.ext e35,kx1,rm1,rm2,lo1,hi1,λ y1 H6 e6 u1=>?_⟩
  rw [sk1 ()] at u1
  have e36:=e35.trans e6
  clear e35 e6
  ac_rfl
  rw [c_spKFar]
  refine ⟨rfl,e36.2 K a _ hS3,hl,room,f2,A2,v2_3.ext e36,kx2,rm1,rm2,lo2,hi2,λ y2 H7 e7 u2=>?_⟩
  rw [sk2 ()] at u2
  have e37:=e36.trans e7
  have u1_7:=u1.ext e7
  clear e36 e7 u1
  ac_rfl
  rw [c_spKRight]
  refine ⟨_,_,_,_,_,ms,ws,rs,_,u1_7,u2,scale_axes kx1,scale_axes kx2,gS () _ (ks1 ()),gS () _ (ks2 ()),p60,t3.ext e37,e37.at hw1_3,e37.at hw2_3,hin,gB () _ _ _ (ck1 ()),gB () _ _ _ (ck2 ()),λ H8 e8=>?_⟩
  have e38:=e37.trans e8
  clear e37 e8 u1_7 u2
  ac_rfl
  rw [c_spKRight]
  refine ⟨room,f1,f1,A1,A1,ms,ws,ws,id,v1_3.ext e38,v1_3.ext e38,kx1,kx1,ks1 (),ks1 (),p60,t3.ext e38,e38.at hw1_3,e38.at hw1_3,inj_id,(ck1 ()).trans (id1 () _),(ck1 ()).trans (id1 () _),λ H9 e9=>?_⟩
  have e39:=e38.trans e9
  have v1_9:=v1_3.ext e39
  obtain ⟨dxa,Da,hx9,_⟩:=v1_9.ob
  have gc:=viewF_no room f1 Da (m := "cells") (by decide +kernel) (by decide +kernel) (by decide +kernel)
  clear e38 e9
  ac_rfl
  rw [c_spCells]
  refine ⟨_,f1,_,v1_9,kx1,λ _ r10 H10 hr10 e10 h10=>?_,by rw [ks1 ()];omega⟩
  rw [ck1 ()] at h10
  have e310:=e39.trans e10
  have hw1_10:=e310.at hw1_3
  have v2_10:=v2_3.ext e310
  obtain ⟨dxb,Db,hx10,_⟩:=v2_10.ob
  have gc2:=viewF_no room f2 Db (m := "cells") (by decide +kernel) (by decide +kernel) (by decide +kernel)
  have c1l:ws.length<=4096:=by omega
  have c2l:rs.length<=4096:=by omega
  clear hr10 e39 hx9 gc e10
  ac_rfl
  rw [c_spCells]
  refine ⟨_,f2,_,v2_10,kx2,λ _ r11 H11 hr11 e11 h11=>?_,by rw [ks2 ()];omega⟩
  rw [ck2 ()] at h11
  have hw2_11:=(e310.trans e11).at hw2_3
  have k':=kk () H11
  clear hr11 kk hw1_10 h10
  ac_rfl
end
theorem all_mk {l:W.OpenLaw}{w:World}{K:W.Frag}{h:Heap}{mg:Str->Option Value}{fa:Addr}(X:K.In h) (G:h.Ns mainGlobals mg) (hfa:mg "law"=some (.ref fa))
  {C0:Addr} (y0:W.nsIn K mainGlobals "PaceError"=some (some (.ref C0)))
  {C1:Addr} (y1:W.nsIn K mainGlobals "NoPlace"=some (some (.ref C1)))
  {C2:Addr} (y2:W.nsIn K mainGlobals "NoView"=some (some (.ref C2)))
  {C3:Addr} (y3:W.nsIn K mainGlobals "NoCount"=some (some (.ref C3)))
  {C4:Addr} (y4:W.nsIn K mainGlobals "NoPair"=some (some (.ref C4)))
  {C5:Addr} (y5:W.nsIn K mainGlobals "TooMany"=some (some (.ref C5)))
  {C6:Addr} (y6:W.nsIn K mainGlobals "Twice"=some (some (.ref C6)))
  {C7:Addr} (y7:W.nsIn K mainGlobals "View"=some (some (.ref C7)))
  (x_Twice_Twice:W.exmOne K (.ref C6) (.ref C6)=some true)
  (ocs:W.specialIn K (.builtin "object.__class__") "__get__"=some (some (.builtin "getset_descriptor.__get__")))
  (oct:W.takesIn K (.builtin "object.__class__")=some true)
  (ga_Twice:W.findIn K (.ref C6) "__getattribute__"=some (some (.builtin "BaseException.__getattribute__")))
  (gn_Twice:W.findIn K (.ref C6) "__getattr__"=some none)
  (mb_Twice:W.mroIn K C6 (.type "BaseException")=some true)
  (mo_Twice:W.mroIn K C6 (.type "object")=some true)
  (fc_Twice:W.findIn K (.ref C6) "__class__"=some (some (.builtin "object.__class__")))
  (hd_Twice:W.hasDictIn K C6=true)
  {f0:Addr} {od0 an0:Option Addr} {sl0:Array (Option Value)} {oc0 kV0 dc0 pm0 cd0 ct0:Value}
  (l0:K.lookup f0=some ⟨oc0,od0,.func (W.fnOf "__init__" "TooMany.__init__" (defArgs s_TooMany___init__) (defBody s_TooMany___init__) (defScope s_TooMany___init__) .none kV0 dc0 pm0 an0 cd0 ct0),sl0⟩)
  (c0:W.codeIn K cd0 "TooMany.__init__"=true) (k0:W.keepIn K (.ref f0)=true)
  {f1:Addr} {od1 an1:Option Addr} {sl1:Array (Option Value)} {oc1 kV1 dc1 pm1 cd1 ct1:Value}
  (l1:K.lookup f1=some ⟨oc1,od1,.func (W.fnOf "__init__" "Twice.__init__" (defArgs s_Twice___init__) (defBody s_Twice___init__) (defScope s_Twice___init__) .none kV1 dc1 pm1 an1 cd1 ct1),sl1⟩)
  (c1:W.codeIn K cd1 "Twice.__init__"=true) (k1:W.keepIn K (.ref f1)=true)
  {f2:Addr} {od2 an2:Option Addr} {sl2:Array (Option Value)} {oc2 kV2 dc2 pm2 cd2 ct2:Value}
  (a2:W.nsIn K mainGlobals "is_whole"=some (some (.ref f2))) (l2:K.lookup f2=some ⟨oc2,od2,.func (W.fnOf "is_whole" "is_whole" (defArgs s_is_whole) (defBody s_is_whole) (defScope s_is_whole) .none kV2 dc2 pm2 an2 cd2 ct2),sl2⟩)
  (c2:W.codeIn K cd2 "is_whole"=true) (k2:W.keepIn K (.ref f2)=true)
  {f3:Addr} {od3 an3:Option Addr} {sl3:Array (Option Value)} {oc3 kV3 dc3 pm3 cd3 ct3:Value}
  (a3:W.nsIn K mainGlobals "count_of"=some (some (.ref f3))) (l3:K.lookup f3=some ⟨oc3,od3,.func (W.fnOf "count_of" "count_of" (defArgs s_count_of) (defBody s_count_of) (defScope s_count_of) .none kV3 dc3 pm3 an3 cd3 ct3),sl3⟩)
  (c3:W.codeIn K cd3 "count_of"=true) (k3:W.keepIn K (.ref f3)=true)
  {f4:Addr} {od4 an4:Option Addr} {sl4:Array (Option Value)} {oc4 kV4 dc4 pm4 cd4 ct4:Value}
  (a4:W.nsIn K mainGlobals "is_number_below"=some (some (.ref f4))) (l4:K.lookup f4=some ⟨oc4,od4,.func (W.fnOf "is_number_below" "is_number_below" (defArgs s_is_number_below) (defBody s_is_number_below) (defScope s_is_number_below) .none kV4 dc4 pm4 an4 cd4 ct4),sl4⟩)
  (c4:W.codeIn K cd4 "is_number_below"=true) (k4:W.keepIn K (.ref f4)=true)
  {f5:Addr} {od5 an5:Option Addr} {sl5:Array (Option Value)} {oc5 kV5 dc5 pm5 cd5 ct5:Value}
  (a5:W.nsIn K mainGlobals "is_place"=some (some (.ref f5))) (l5:K.lookup f5=some ⟨oc5,od5,.func (W.fnOf "is_place" "is_place" (defArgs s_is_place) (defBody s_is_place) (defScope s_is_place) .none kV5 dc5 pm5 an5 cd5 ct5),sl5⟩)
  (c5:W.codeIn K cd5 "is_place"=true) (k5:W.keepIn K (.ref f5)=true)
  {f6:Addr} {od6 an6:Option Addr} {sl6:Array (Option Value)} {oc6 kV6 dc6 pm6 cd6 ct6:Value}
  (a6:W.nsIn K mainGlobals "split_number"=some (some (.ref f6))) (l6:K.lookup f6=some ⟨oc6,od6,.func (W.fnOf "split_number" "split_number" (defArgs s_split_number) (defBody s_split_number) (defScope s_split_number) .none kV6 dc6 pm6 an6 cd6 ct6),sl6⟩)
  (c6:W.codeIn K cd6 "split_number"=true) (k6:W.keepIn K (.ref f6)=true)
  {f7:Addr} {od7 an7:Option Addr} {sl7:Array (Option Value)} {oc7 kV7 dc7 pm7 cd7 ct7:Value}
  (a7:W.nsIn K mainGlobals "place_at"=some (some (.ref f7))) (l7:K.lookup f7=some ⟨oc7,od7,.func (W.fnOf "place_at" "place_at" (defArgs s_place_at) (defBody s_place_at) (defScope s_place_at) .none kV7 dc7 pm7 an7 cd7 ct7),sl7⟩)
  (c7:W.codeIn K cd7 "place_at"=true) (k7:W.keepIn K (.ref f7)=true)
  {f8:Addr} {od8 an8:Option Addr} {sl8:Array (Option Value)} {oc8 kV8 dc8 pm8 cd8 ct8:Value}
  (a8:W.nsIn K mainGlobals "refuse_long"=some (some (.ref f8))) (l8:K.lookup f8=some ⟨oc8,od8,.func (W.fnOf "refuse_long" "refuse_long" (defArgs s_refuse_long) (defBody s_refuse_long) (defScope s_refuse_long) .none kV8 dc8 pm8 an8 cd8 ct8),sl8⟩)
  (c8:W.codeIn K cd8 "refuse_long"=true) (k8:W.keepIn K (.ref f8)=true)
  {f9:Addr} {od9 an9:Option Addr} {sl9:Array (Option Value)} {oc9 kV9 dc9 pm9 cd9 ct9:Value}
  (a9:W.nsIn K mainGlobals "places"=some (some (.ref f9))) (l9:K.lookup f9=some ⟨oc9,od9,.func (W.fnOf "places" "places" (defArgs s_places) (defBody s_places) (defScope s_places) .none kV9 dc9 pm9 an9 cd9 ct9),sl9⟩)
  (c9:W.codeIn K cd9 "places"=true) (k9:W.keepIn K (.ref f9)=true)
  {f10:Addr} {od10 an10:Option Addr} {sl10:Array (Option Value)} {oc10 kV10 dc10 pm10 cd10 ct10:Value}
  (a10:W.nsIn K mainGlobals "is_within"=some (some (.ref f10))) (l10:K.lookup f10=some ⟨oc10,od10,.func (W.fnOf "is_within" "is_within" (defArgs s_is_within) (defBody s_is_within) (defScope s_is_within) .none kV10 dc10 pm10 an10 cd10 ct10),sl10⟩)
  (c10:W.codeIn K cd10 "is_within"=true) (k10:W.keepIn K (.ref f10)=true)
  {f11:Addr} {od11 an11:Option Addr} {sl11:Array (Option Value)} {oc11 kV11 dc11 pm11 cd11 ct11:Value}
  (a11:W.nsIn K mainGlobals "is_size"=some (some (.ref f11))) (l11:K.lookup f11=some ⟨oc11,od11,.func (W.fnOf "is_size" "is_size" (defArgs s_is_size) (defBody s_is_size) (defScope s_is_size) .none kV11 dc11 pm11 an11 cd11 ct11),sl11⟩)
  (c11:W.codeIn K cd11 "is_size"=true) (k11:W.keepIn K (.ref f11)=true)
  {f12:Addr} {od12 an12:Option Addr} {sl12:Array (Option Value)} {oc12 kV12 dc12 pm12 cd12 ct12:Value}
  (a12:W.nsIn K mainGlobals "is_axis"=some (some (.ref f12))) (l12:K.lookup f12=some ⟨oc12,od12,.func (W.fnOf "is_axis" "is_axis" (defArgs s_is_axis) (defBody s_is_axis) (defScope s_is_axis) .none kV12 dc12 pm12 an12 cd12 ct12),sl12⟩)
  (c12:W.codeIn K cd12 "is_axis"=true) (k12:W.keepIn K (.ref f12)=true)
  {f13:Addr} {od13 an13:Option Addr} {sl13:Array (Option Value)} {oc13 kV13 dc13 pm13 cd13 ct13:Value}
  (a13:W.nsIn K mainGlobals "are_axes"=some (some (.ref f13))) (l13:K.lookup f13=some ⟨oc13,od13,.func (W.fnOf "are_axes" "are_axes" (defArgs s_are_axes) (defBody s_are_axes) (defScope s_are_axes) .none kV13 dc13 pm13 an13 cd13 ct13),sl13⟩)
  (c13:W.codeIn K cd13 "are_axes"=true) (k13:W.keepIn K (.ref f13)=true)
  {f14:Addr} {od14 an14:Option Addr} {sl14:Array (Option Value)} {oc14 kV14 dc14 pm14 cd14 ct14:Value}
  (a14:W.nsIn K mainGlobals "kept_axis"=some (some (.ref f14))) (l14:K.lookup f14=some ⟨oc14,od14,.func (W.fnOf "kept_axis" "kept_axis" (defArgs s_kept_axis) (defBody s_kept_axis) (defScope s_kept_axis) .none kV14 dc14 pm14 an14 cd14 ct14),sl14⟩)
  (c14:W.codeIn K cd14 "kept_axis"=true) (k14:W.keepIn K (.ref f14)=true)
  {f15:Addr} {od15 an15:Option Addr} {sl15:Array (Option Value)} {oc15 kV15 dc15 pm15 cd15 ct15:Value}
  (l15:K.lookup f15=some ⟨oc15,od15,.func (W.fnOf "__init__" "View.__init__" (defArgs s_View___init__) (defBody s_View___init__) (defScope s_View___init__) .none kV15 dc15 pm15 an15 cd15 ct15),sl15⟩)
  (c15:W.codeIn K cd15 "View.__init__"=true) (k15:W.keepIn K (.ref f15)=true)
  {f16:Addr} {od16 an16:Option Addr} {sl16:Array (Option Value)} {oc16 kV16 dc16 pm16 cd16 ct16:Value}
  (l16:K.lookup f16=some ⟨oc16,od16,.func (W.fnOf "sizes" "View.sizes" (defArgs s_View_sizes) (defBody s_View_sizes) (defScope s_View_sizes) .none kV16 dc16 pm16 an16 cd16 ct16),sl16⟩)
  (c16:W.codeIn K cd16 "View.sizes"=true) (k16:W.keepIn K (.ref f16)=true)
  {f17:Addr} {od17 an17:Option Addr} {sl17:Array (Option Value)} {oc17 kV17 dc17 pm17 cd17 ct17:Value}
  (l17:K.lookup f17=some ⟨oc17,od17,.func (W.fnOf "paces" "View.paces" (defArgs s_View_paces) (defBody s_View_paces) (defScope s_View_paces) .none kV17 dc17 pm17 an17 cd17 ct17),sl17⟩)
  (c17:W.codeIn K cd17 "View.paces"=true) (k17:W.keepIn K (.ref f17)=true)
  {f18:Addr} {od18 an18:Option Addr} {sl18:Array (Option Value)} {oc18 kV18 dc18 pm18 cd18 ct18:Value}
  (l18:K.lookup f18=some ⟨oc18,od18,.func (W.fnOf "count" "View.count" (defArgs s_View_count) (defBody s_View_count) (defScope s_View_count) .none kV18 dc18 pm18 an18 cd18 ct18),sl18⟩)
  (c18:W.codeIn K cd18 "View.count"=true) (k18:W.keepIn K (.ref f18)=true)
  {f19:Addr} {od19 an19:Option Addr} {sl19:Array (Option Value)} {oc19 kV19 dc19 pm19 cd19 ct19:Value}
  (l19:K.lookup f19=some ⟨oc19,od19,.func (W.fnOf "cell" "View.cell" (defArgs s_View_cell) (defBody s_View_cell) (defScope s_View_cell) .none kV19 dc19 pm19 an19 cd19 ct19),sl19⟩)
  (c19:W.codeIn K cd19 "View.cell"=true) (k19:W.keepIn K (.ref f19)=true)
  {f20:Addr} {od20 an20:Option Addr} {sl20:Array (Option Value)} {oc20 kV20 dc20 pm20 cd20 ct20:Value}
  (l20:K.lookup f20=some ⟨oc20,od20,.func (W.fnOf "cells" "View.cells" (defArgs s_View_cells) (defBody s_View_cells) (defScope s_View_cells) .none kV20 dc20 pm20 an20 cd20 ct20),sl20⟩)
  (c20:W.codeIn K cd20 "View.cells"=true) (k20:W.keepIn K (.ref f20)=true)
  {f21:Addr} {od21 an21:Option Addr} {sl21:Array (Option Value)} {oc21 kV21 dc21 pm21 cd21 ct21:Value}
  (l21:K.lookup f21=some ⟨oc21,od21,.func (W.fnOf "least" "View.least" (defArgs s_View_least) (defBody s_View_least) (defScope s_View_least) .none kV21 dc21 pm21 an21 cd21 ct21),sl21⟩)
  (c21:W.codeIn K cd21 "View.least"=true) (k21:W.keepIn K (.ref f21)=true)
  {f22:Addr} {od22 an22:Option Addr} {sl22:Array (Option Value)} {oc22 kV22 dc22 pm22 cd22 ct22:Value}
  (l22:K.lookup f22=some ⟨oc22,od22,.func (W.fnOf "greatest" "View.greatest" (defArgs s_View_greatest) (defBody s_View_greatest) (defScope s_View_greatest) .none kV22 dc22 pm22 an22 cd22 ct22),sl22⟩)
  (c22:W.codeIn K cd22 "View.greatest"=true) (k22:W.keepIn K (.ref f22)=true)
  {f23:Addr} {od23 an23:Option Addr} {sl23:Array (Option Value)} {oc23 kV23 dc23 pm23 cd23 ct23:Value}
  (a23:W.nsIn K mainGlobals "widened"=some (some (.ref f23))) (l23:K.lookup f23=some ⟨oc23,od23,.func (W.fnOf "widened" "widened" (defArgs s_widened) (defBody s_widened) (defScope s_widened) .none kV23 dc23 pm23 an23 cd23 ct23),sl23⟩)
  (c23:W.codeIn K cd23 "widened"=true) (k23:W.keepIn K (.ref f23)=true)
  {f24:Addr} {od24 an24:Option Addr} {sl24:Array (Option Value)} {oc24 kV24 dc24 pm24 cd24 ct24:Value}
  (a24:W.nsIn K mainGlobals "has_twice"=some (some (.ref f24))) (l24:K.lookup f24=some ⟨oc24,od24,.func (W.fnOf "has_twice" "has_twice" (defArgs s_has_twice) (defBody s_has_twice) (defScope s_has_twice) .none kV24 dc24 pm24 an24 cd24 ct24),sl24⟩)
  (c24:W.codeIn K cd24 "has_twice"=true) (k24:W.keepIn K (.ref f24)=true)
  {f25:Addr} {od25 an25:Option Addr} {sl25:Array (Option Value)} {oc25 kV25 dc25 pm25 cd25 ct25:Value}
  (a25:W.nsIn K mainGlobals "refuse_rooms"=some (some (.ref f25))) (l25:K.lookup f25=some ⟨oc25,od25,.func (W.fnOf "refuse_rooms" "refuse_rooms" (defArgs s_refuse_rooms) (defBody s_refuse_rooms) (defScope s_refuse_rooms) .none kV25 dc25 pm25 an25 cd25 ct25),sl25⟩)
  (c25:W.codeIn K cd25 "refuse_rooms"=true) (k25:W.keepIn K (.ref f25)=true)
  {f26:Addr} {od26 an26:Option Addr} {sl26:Array (Option Value)} {oc26 kV26 dc26 pm26 cd26 ct26:Value}
  (a26:W.nsIn K mainGlobals "refuse_sizes_unlike"=some (some (.ref f26))) (l26:K.lookup f26=some ⟨oc26,od26,.func (W.fnOf "refuse_sizes_unlike" "refuse_sizes_unlike" (defArgs s_refuse_sizes_unlike) (defBody s_refuse_sizes_unlike) (defScope s_refuse_sizes_unlike) .none kV26 dc26 pm26 an26 cd26 ct26),sl26⟩)
  (c26:W.codeIn K cd26 "refuse_sizes_unlike"=true) (k26:W.keepIn K (.ref f26)=true)
  {f27:Addr} {od27 an27:Option Addr} {sl27:Array (Option Value)} {oc27 kV27 dc27 pm27 cd27 ct27:Value}
  (a27:W.nsIn K mainGlobals "refuse_twice"=some (some (.ref f27))) (l27:K.lookup f27=some ⟨oc27,od27,.func (W.fnOf "refuse_twice" "refuse_twice" (defArgs s_refuse_twice) (defBody s_refuse_twice) (defScope s_refuse_twice) .none kV27 dc27 pm27 an27 cd27 ct27),sl27⟩)
  (c27:W.codeIn K cd27 "refuse_twice"=true) (k27:W.keepIn K (.ref f27)=true)
  {f28:Addr} {od28 an28:Option Addr} {sl28:Array (Option Value)} {oc28 kV28 dc28 pm28 cd28 ct28:Value}
  (a28:W.nsIn K mainGlobals "places_written_anew"=some (some (.ref f28))) (l28:K.lookup f28=some ⟨oc28,od28,.func (W.fnOf "places_written_anew" "places_written_anew" (defArgs s_places_written_anew) (defBody s_places_written_anew) (defScope s_places_written_anew) .none kV28 dc28 pm28 an28 cd28 ct28),sl28⟩)
  (c28:W.codeIn K cd28 "places_written_anew"=true) (k28:W.keepIn K (.ref f28)=true)
  {f29:Addr} {od29 an29:Option Addr} {sl29:Array (Option Value)} {oc29 kV29 dc29 pm29 cd29 ct29:Value}
  (a29:W.nsIn K mainGlobals "bound_pairs"=some (some (.ref f29))) (l29:K.lookup f29=some ⟨oc29,od29,.func (W.fnOf "bound_pairs" "bound_pairs" (defArgs s_bound_pairs) (defBody s_bound_pairs) (defScope s_bound_pairs) .none kV29 dc29 pm29 an29 cd29 ct29),sl29⟩)
  (c29:W.codeIn K cd29 "bound_pairs"=true) (k29:W.keepIn K (.ref f29)=true)
  {f30:Addr} {od30 an30:Option Addr} {sl30:Array (Option Value)} {oc30 kV30 dc30 pm30 cd30 ct30:Value}
  (a30:W.nsIn K mainGlobals "_law_draw"=some (some (.ref f30))) (l30:K.lookup f30=some ⟨oc30,od30,.func (W.fnOf "_law_draw" "_law_draw" (defArgs s__law_draw) (defBody s__law_draw) (defScope s__law_draw) .none kV30 dc30 pm30 an30 cd30 ct30),sl30⟩)
  (c30:W.codeIn K cd30 "_law_draw"=true) (k30:W.keepIn K (.ref f30)=true)
  {f31:Addr} {od31 an31:Option Addr} {sl31:Array (Option Value)} {oc31 kV31 dc31 pm31 cd31 ct31:Value}
  (a31:W.nsIn K mainGlobals "_law_whole"=some (some (.ref f31))) (l31:K.lookup f31=some ⟨oc31,od31,.func (W.fnOf "_law_whole" "_law_whole" (defArgs s__law_whole) (defBody s__law_whole) (defScope s__law_whole) .none kV31 dc31 pm31 an31 cd31 ct31),sl31⟩)
  (c31:W.codeIn K cd31 "_law_whole"=true) (k31:W.keepIn K (.ref f31)=true)
  {f32:Addr} {od32 an32:Option Addr} {sl32:Array (Option Value)} {oc32 kV32 dc32 pm32 cd32 ct32:Value}
  (a32:W.nsIn K mainGlobals "_law_digits"=some (some (.ref f32))) (l32:K.lookup f32=some ⟨oc32,od32,.func (W.fnOf "_law_digits" "_law_digits" (defArgs s__law_digits) (defBody s__law_digits) (defScope s__law_digits) .none kV32 dc32 pm32 an32 cd32 ct32),sl32⟩)
  (c32:W.codeIn K cd32 "_law_digits"=true) (k32:W.keepIn K (.ref f32)=true)
  {f33:Addr} {od33 an33:Option Addr} {sl33:Array (Option Value)} {oc33 kV33 dc33 pm33 cd33 ct33:Value}
  (a33:W.nsIn K mainGlobals "_law_sizes"=some (some (.ref f33))) (l33:K.lookup f33=some ⟨oc33,od33,.func (W.fnOf "_law_sizes" "_law_sizes" (defArgs s__law_sizes) (defBody s__law_sizes) (defScope s__law_sizes) .none kV33 dc33 pm33 an33 cd33 ct33),sl33⟩)
  (c33:W.codeIn K cd33 "_law_sizes"=true) (k33:W.keepIn K (.ref f33)=true)
  {f34:Addr} {od34 an34:Option Addr} {sl34:Array (Option Value)} {oc34 kV34 dc34 pm34 cd34 ct34:Value}
  (a34:W.nsIn K mainGlobals "_law_once"=some (some (.ref f34))) (l34:K.lookup f34=some ⟨oc34,od34,.func (W.fnOf "_law_once" "_law_once" (defArgs s__law_once) (defBody s__law_once) (defScope s__law_once) .none kV34 dc34 pm34 an34 cd34 ct34),sl34⟩)
  (c34:W.codeIn K cd34 "_law_once"=true) (k34:W.keepIn K (.ref f34)=true)
  {f35:Addr} {od35 an35:Option Addr} {sl35:Array (Option Value)} {oc35 kV35 dc35 pm35 cd35 ct35:Value}
  (a35:W.nsIn K mainGlobals "_law_others"=some (some (.ref f35))) (l35:K.lookup f35=some ⟨oc35,od35,.func (W.fnOf "_law_others" "_law_others" (defArgs s__law_others) (defBody s__law_others) (defScope s__law_others) .none kV35 dc35 pm35 an35 cd35 ct35),sl35⟩)
  (c35:W.codeIn K cd35 "_law_others"=true) (k35:W.keepIn K (.ref f35)=true)
  {f36:Addr} {od36 an36:Option Addr} {sl36:Array (Option Value)} {oc36 kV36 dc36 pm36 cd36 ct36:Value}
  (a36:W.nsIn K mainGlobals "_law_least"=some (some (.ref f36))) (l36:K.lookup f36=some ⟨oc36,od36,.func (W.fnOf "_law_least" "_law_least" (defArgs s__law_least) (defBody s__law_least) (defScope s__law_least) .none kV36 dc36 pm36 an36 cd36 ct36),sl36⟩)
  (c36:W.codeIn K cd36 "_law_least"=true) (k36:W.keepIn K (.ref f36)=true)
  {f37:Addr} {od37 an37:Option Addr} {sl37:Array (Option Value)} {oc37 kV37 dc37 pm37 cd37 ct37:Value}
  (a37:W.nsIn K mainGlobals "_law_most"=some (some (.ref f37))) (l37:K.lookup f37=some ⟨oc37,od37,.func (W.fnOf "_law_most" "_law_most" (defArgs s__law_most) (defBody s__law_most) (defScope s__law_most) .none kV37 dc37 pm37 an37 cd37 ct37),sl37⟩)
  (c37:W.codeIn K cd37 "_law_most"=true) (k37:W.keepIn K (.ref f37)=true)
  {f38:Addr} {od38 an38:Option Addr} {sl38:Array (Option Value)} {oc38 kV38 dc38 pm38 cd38 ct38:Value}
  (a38:W.nsIn K mainGlobals "_law_cells"=some (some (.ref f38))) (l38:K.lookup f38=some ⟨oc38,od38,.func (W.fnOf "_law_cells" "_law_cells" (defArgs s__law_cells) (defBody s__law_cells) (defScope s__law_cells) .none kV38 dc38 pm38 an38 cd38 ct38),sl38⟩)
  (c38:W.codeIn K cd38 "_law_cells"=true) (k38:W.keepIn K (.ref f38)=true)
  {f39:Addr} {od39 an39:Option Addr} {sl39:Array (Option Value)} {oc39 kV39 dc39 pm39 cd39 ct39:Value}
  (a39:W.nsIn K mainGlobals "_law_two"=some (some (.ref f39))) (l39:K.lookup f39=some ⟨oc39,od39,.func (W.fnOf "_law_two" "_law_two" (defArgs s__law_two) (defBody s__law_two) (defScope s__law_two) .none kV39 dc39 pm39 an39 cd39 ct39),sl39⟩)
  (c39:W.codeIn K cd39 "_law_two"=true) (k39:W.keepIn K (.ref f39)=true)
  {f40:Addr} {od40 an40:Option Addr} {sl40:Array (Option Value)} {oc40 kV40 dc40 pm40 cd40 ct40:Value}
  (a40:W.nsIn K mainGlobals "_law_far"=some (some (.ref f40))) (l40:K.lookup f40=some ⟨oc40,od40,.func (W.fnOf "_law_far" "_law_far" (defArgs s__law_far) (defBody s__law_far) (defScope s__law_far) .none kV40 dc40 pm40 an40 cd40 ct40),sl40⟩)
  (c40:W.codeIn K cd40 "_law_far"=true) (k40:W.keepIn K (.ref f40)=true)
  {f41:Addr} {od41 an41:Option Addr} {sl41:Array (Option Value)} {oc41 kV41 dc41 pm41 cd41 ct41:Value}
  (a41:W.nsIn K mainGlobals "_law_places"=some (some (.ref f41))) (l41:K.lookup f41=some ⟨oc41,od41,.func (W.fnOf "_law_places" "_law_places" (defArgs s__law_places) (defBody s__law_places) (defScope s__law_places) .none kV41 dc41 pm41 an41 cd41 ct41),sl41⟩)
  (c41:W.codeIn K cd41 "_law_places"=true) (k41:W.keepIn K (.ref f41)=true)
  {f42:Addr} {od42 an42:Option Addr} {sl42:Array (Option Value)} {oc42 kV42 dc42 pm42 cd42 ct42:Value}
  (a42:W.nsIn K mainGlobals "_law_pairs"=some (some (.ref f42))) (l42:K.lookup f42=some ⟨oc42,od42,.func (W.fnOf "_law_pairs" "_law_pairs" (defArgs s__law_pairs) (defBody s__law_pairs) (defScope s__law_pairs) .none kV42 dc42 pm42 an42 cd42 ct42),sl42⟩)
  (c42:W.codeIn K cd42 "_law_pairs"=true) (k42:W.keepIn K (.ref f42)=true)
  {f43:Addr} {od43 an43:Option Addr} {sl43:Array (Option Value)} {oc43 kV43 dc43 pm43 cd43 ct43:Value}
  (a43:W.nsIn K mainGlobals "_law_asked"=some (some (.ref f43))) (l43:K.lookup f43=some ⟨oc43,od43,.func (W.fnOf "_law_asked" "_law_asked" (defArgs s__law_asked) (defBody s__law_asked) (defScope s__law_asked) .none kV43 dc43 pm43 an43 cd43 ct43),sl43⟩)
  (c43:W.codeIn K cd43 "_law_asked"=true) (k43:W.keepIn K (.ref f43)=true)
  {f44:Addr} {od44 an44:Option Addr} {sl44:Array (Option Value)} {oc44 kV44 dc44 pm44 cd44 ct44:Value}
  (a44:W.nsIn K mainGlobals "_law_is_twice"=some (some (.ref f44))) (l44:K.lookup f44=some ⟨oc44,od44,.func (W.fnOf "_law_is_twice" "_law_is_twice" (defArgs s__law_is_twice) (defBody s__law_is_twice) (defScope s__law_is_twice) .none kV44 dc44 pm44 an44 cd44 ct44),sl44⟩)
  (c44:W.codeIn K cd44 "_law_is_twice"=true) (k44:W.keepIn K (.ref f44)=true)
  {f45:Addr} {od45 an45:Option Addr} {sl45:Array (Option Value)} {oc45 kV45 dc45 pm45 cd45 ct45:Value}
  (a45:W.nsIn K mainGlobals "_law_list"=some (some (.ref f45))) (l45:K.lookup f45=some ⟨oc45,od45,.func (W.fnOf "_law_list" "_law_list" (defArgs s__law_list) (defBody s__law_list) (defScope s__law_list) .none kV45 dc45 pm45 an45 cd45 ct45),sl45⟩)
  (c45:W.codeIn K cd45 "_law_list"=true) (k45:W.keepIn K (.ref f45)=true)
  {f46:Addr} {od46 an46:Option Addr} {sl46:Array (Option Value)} {oc46 kV46 dc46 pm46 cd46 ct46:Value}
  (a46:W.nsIn K mainGlobals "_law_right"=some (some (.ref f46))) (l46:K.lookup f46=some ⟨oc46,od46,.func (W.fnOf "_law_right" "_law_right" (defArgs s__law_right) (defBody s__law_right) (defScope s__law_right) .none kV46 dc46 pm46 an46 cd46 ct46),sl46⟩)
  (c46:W.codeIn K cd46 "_law_right"=true) (k46:W.keepIn K (.ref f46)=true)
  {f47:Addr} {od47 an47:Option Addr} {sl47:Array (Option Value)} {oc47 kV47 dc47 pm47 cd47 ct47:Value}
  (a47:W.nsIn K mainGlobals "law"=some (some (.ref f47))) (l47:K.lookup f47=some ⟨oc47,od47,.func (W.fnOf "law" "law" (defArgs s_law) (defBody s_law) (defScope s_law) .none kV47 dc47 pm47 an47 cd47 ct47),sl47⟩)
  (c47:W.codeIn K cd47 "law"=true) (k47:W.keepIn K (.ref f47)=true)
  (fi_TooMany:W.findIn K (.ref C5) "__init__"=some (some (.ref f0)))
  (xe_TooMany:excInI K C5 f0 [.type "ValueError",.type "Exception",.type "BaseException",.type "object"] "ValueError.__new__"=true)
  (xf_TooMany:W.typeIn K (.ref f0)=some (.type "function"))
  (xo_TooMany:excOver K C5=true)
  (xs_TooMany:W.findIn K (.ref C5) "__setattr__"=some (some (.builtin "object.__setattr__")))
  (xh_TooMany:W.hasDictIn K C5=true)
  (nt_TooMany_number:W.takerIn K C5 "number"=some none)
  (nf_TooMany_number:W.findIn K (.ref C5) "number"=some none)
  (bs_PaceError:W.specialIn K (.ref C0) "__getattribute__"=some (some (.builtin "type.__getattribute__")))
  (br_PaceError:W.readsIn K C0 (.type "type")=true)
  (bf_PaceError:W.findCls K (.ref C0) (.type "type") "__init__"=some (.val (.builtin "ValueError.__init__")))
  (fi_Twice:W.findIn K (.ref C6) "__init__"=some (some (.ref f1)))
  (xe_Twice:excInI K C6 f1 [.type "ValueError",.type "Exception",.type "BaseException",.type "object"] "ValueError.__new__"=true)
  (xf_Twice:W.typeIn K (.ref f1)=some (.type "function"))
  (xo_Twice:excOver K C6=true)
  (xs_Twice:W.findIn K (.ref C6) "__setattr__"=some (some (.builtin "object.__setattr__")))
  (xh_Twice:W.hasDictIn K C6=true)
  (nt_Twice_one:W.takerIn K C6 "one"=some none)
  (nf_Twice_one:W.findIn K (.ref C6) "one"=some none)
  (nt_Twice_other:W.takerIn K C6 "other"=some none)
  (nf_Twice_other:W.findIn K (.ref C6) "other"=some none)
  (pg_View:W.plainGet K C7 Str.empty=true)
  (hd_View:W.hasDictIn K C7=true)
  (po_View:W.plainOver K C7=true)
  (sa_View:W.findIn K (.ref C7) "__setattr__"=some (some (.builtin "object.__setattr__")))
  (nf_View_axes:W.findIn K (.ref C7) "axes"=some none)
  (nf_View_first:W.findIn K (.ref C7) "first"=some none)
  (nf_View_room:W.findIn K (.ref C7) "room"=some none)
  (fi_View___init__:W.findIn K (.ref C7) "__init__"=some (some (.ref f15)))
  (fn_View___init__:W.isFn K (.ref f15)=true)
  (mm_View:W.makesIn K C7=true)
  (ck_View:W.keepIn K (.ref C7)=true)
  (fi_View_sizes:W.findIn K (.ref C7) "sizes"=some (some (.ref f16)))
  (fn_View_sizes:W.isFn K (.ref f16)=true)
  (fi_View_paces:W.findIn K (.ref C7) "paces"=some (some (.ref f17)))
  (fn_View_paces:W.isFn K (.ref f17)=true)
  (fi_View_count:W.findIn K (.ref C7) "count"=some (some (.ref f18)))
  (fn_View_count:W.isFn K (.ref f18)=true)
  (fi_View_cell:W.findIn K (.ref C7) "cell"=some (some (.ref f19)))
  (fn_View_cell:W.isFn K (.ref f19)=true)
  (fi_View_cells:W.findIn K (.ref C7) "cells"=some (some (.ref f20)))
  (fn_View_cells:W.isFn K (.ref f20)=true)
  (fi_View_least:W.findIn K (.ref C7) "least"=some (some (.ref f21)))
  (fn_View_least:W.isFn K (.ref f21)=true)
  (fi_View_greatest:W.findIn K (.ref C7) "greatest"=some (some (.ref f22)))
  (fn_View_greatest:W.isFn K (.ref f22)=true)
  {tk0:Tok} (w0:W.nsIn K mainGlobals "MOST_TOLD"=some (some (.int 4096 tk0)))
  {tk1:Tok} (w1:W.nsIn K mainGlobals "MOST_ROOM"=some (some (.int 1000000000000000000 tk1)))
  {tk2:Tok} (w2:W.nsIn K mainGlobals "MOST_SIZE"=some (some (.int 1000000000 tk2)))
  {tk3:Tok} (w3:W.nsIn K mainGlobals "MOST_AXES"=some (some (.int 8 tk3)))
  (z0:W.nsIn K mainGlobals "ValueError"=some none)
  (z1:W.nsIn K mainGlobals "all"=some none)
  (z2:W.nsIn K mainGlobals "bool"=some none)
  (z3:W.nsIn K mainGlobals "enumerate"=some none)
  (z4:W.nsIn K mainGlobals "int"=some none)
  (z5:W.nsIn K mainGlobals "isinstance"=some none)
  (z6:W.nsIn K mainGlobals "len"=some none)
  (z7:W.nsIn K mainGlobals "list"=some none)
  (z8:W.nsIn K mainGlobals "max"=some none)
  (z9:W.nsIn K mainGlobals "min"=some none)
  (z10:W.nsIn K mainGlobals "range"=some none)
  (z11:W.nsIn K mainGlobals "reversed"=some none)
  (z12:W.nsIn K mainGlobals "set"=some none)
  (z13:W.nsIn K mainGlobals "sum"=some none)
  (z14:W.nsIn K mainGlobals "tuple"=some none)
  (z15:W.nsIn K mainGlobals "zip"=some none)
  : ∃ fd:FuncData,(∀ (s:Shared) (v:Value),BindsTo s fd ⟨[v],[]⟩ [("_law_script",v)])/\∀ base:Heap,K.In base->base.Ns mainGlobals mg->FnOk l.prog w K mg base CX0 10 fa fd ["_law_script"] (spLaw K):=by
 have e:=hfa.symm.trans (W.mg_of X G a47)
 cases e
 have F0:=fun_mk (st:=s_TooMany___init__) l0 c0 k0
 have F1:=fun_mk (st:=s_Twice___init__) l1 c1 k1
 have F2:=fun_mk (st:=s_is_whole) l2 c2 k2
 have F3:=fun_mk (st:=s_count_of) l3 c3 k3
 have F4:=fun_mk (st:=s_is_number_below) l4 c4 k4
 have F5:=fun_mk (st:=s_is_place) l5 c5 k5
 have F6:=fun_mk (st:=s_split_number) l6 c6 k6
 have F7:=fun_mk (st:=s_place_at) l7 c7 k7
 have F8:=fun_mk (st:=s_refuse_long) l8 c8 k8
 have F9:=fun_mk (st:=s_places) l9 c9 k9
 have F10:=fun_mk (st:=s_is_within) l10 c10 k10
 have F11:=fun_mk (st:=s_is_size) l11 c11 k11
 have F12:=fun_mk (st:=s_is_axis) l12 c12 k12
 have F13:=fun_mk (st:=s_are_axes) l13 c13 k13
 have F14:=fun_mk (st:=s_kept_axis) l14 c14 k14
 have F15:=fun_mk (st:=s_View___init__) l15 c15 k15
 have F16:=fun_mk (st:=s_View_sizes) l16 c16 k16
 have F17:=fun_mk (st:=s_View_paces) l17 c17 k17
 have F18:=fun_mk (st:=s_View_count) l18 c18 k18
 have F19:=fun_mk (st:=s_View_cell) l19 c19 k19
 have F20:=fun_mk (st:=s_View_cells) l20 c20 k20
 have F21:=fun_mk (st:=s_View_least) l21 c21 k21
 have F22:=fun_mk (st:=s_View_greatest) l22 c22 k22
 have F23:=fun_mk (st:=s_widened) l23 c23 k23
 have F24:=fun_mk (st:=s_has_twice) l24 c24 k24
 have F25:=fun_mk (st:=s_refuse_rooms) l25 c25 k25
 have F26:=fun_mk (st:=s_refuse_sizes_unlike) l26 c26 k26
 have F27:=funX_mk (st:=s_refuse_twice) l27 c27 k27
 have F28:=fun_mk (st:=s_places_written_anew) l28 c28 k28
 have F29:=funX_mk (st:=s_bound_pairs) l29 c29 k29
 have F30:=fun_mk (st:=s__law_draw) l30 c30 k30
 have F31:=fun_mk (st:=s__law_whole) l31 c31 k31
 have F32:=fun_mk (st:=s__law_digits) l32 c32 k32
 have F33:=fun_mk (st:=s__law_sizes) l33 c33 k33
 have F34:=fun_mk (st:=s__law_once) l34 c34 k34
 have F35:=fun_mk (st:=s__law_others) l35 c35 k35
 have F36:=fun_mk (st:=s__law_least) l36 c36 k36
 have F37:=fun_mk (st:=s__law_most) l37 c37 k37
 have F38:=fun_mk (st:=s__law_cells) l38 c38 k38
 have F39:=fun_mk (st:=s__law_two) l39 c39 k39
 have F40:=fun_mk (st:=s__law_far) l40 c40 k40
 have F41:=fun_mk (st:=s__law_places) l41 c41 k41
 have F42:=fun_mk (st:=s__law_pairs) l42 c42 k42
 have F43:=fun_mk (st:=s__law_asked) l43 c43 k43
 have F44:=fun_mk (st:=s__law_is_twice) l44 c44 k44
 have F45:=fun_mk (st:=s__law_list) l45 c45 k45
 have F46:=fun_mk (st:=s__law_right) l46 c46 k46
 have F47:=fun_mk (st:=s_law) l47 c47 k47
 have T:Tx K mg ⟨C0,C1,C2,C3,C4,C5,C6,C7,f0,_,f1,_,f2,_,f3,_,f4,_,f5,_,f6,_,f7,_,f8,_,f9,_,f10,_,f11,_,f12,_,f13,_,f14,_,f15,_,f16,_,f17,_,f18,_,f19,_,f20,_,f21,_,f22,_,f23,_,f24,_,f25,_,f26,_,f27,_,f28,_,f29,_,f30,_,f31,_,f32,_,f33,_,f34,_,f35,_,f36,_,f37,_,f38,_,f39,_,f40,_,f41,_,f42,_,f43,_,f44,_,f45,_,f46,_,fa,_⟩:=⟨W.mg_of X G y0,W.mg_of X G y1,W.mg_of X G y2,W.mg_of X G y3,W.mg_of X G y4,W.mg_of X G y5,W.mg_of X G y6,W.mg_of X G y7,x_Twice_Twice,ocs,oct,ga_Twice,gn_Twice,mb_Twice,mo_Twice,fc_Twice,hd_Twice,⟨_,W.mg_of X G w0⟩,⟨_,W.mg_of X G w1⟩,⟨_,W.mg_of X G w2⟩,⟨_,W.mg_of X G w3⟩,⟨xe_TooMany,xf_TooMany,⟨xo_TooMany,xs_TooMany,xh_TooMany⟩⟩,nt_TooMany_number,nf_TooMany_number,⟨bs_PaceError,br_PaceError,bf_PaceError⟩,⟨xe_Twice,xf_Twice,⟨xo_Twice,xs_Twice,xh_Twice⟩⟩,nt_Twice_one,nf_Twice_one,nt_Twice_other,nf_Twice_other,⟨pg_View,hd_View,po_View,sa_View⟩,nf_View_axes,nf_View_first,nf_View_room,⟨mm_View,fi_View___init__,fn_View___init__,ck_View⟩,⟨fi_View_sizes,fn_View_sizes,k16⟩,⟨fi_View_paces,fn_View_paces,k17⟩,⟨fi_View_count,fn_View_count,k18⟩,⟨fi_View_cell,fn_View_cell,k19⟩,⟨fi_View_cells,fn_View_cells,k20⟩,⟨fi_View_least,fn_View_least,k21⟩,⟨fi_View_greatest,fn_View_greatest,k22⟩,F0,F0.binds (ps:=["self", "number"]) (λ _ _ _ _ _ _=>len2 (λ _ _=>rfl)),F1,F1.binds (ps:=["self", "one", "other"]) (λ _ _ _ _ _ _=>len3 (λ _ _ _=>rfl)),F2,W.mg_of X G a2,F2.binds (ps:=["thing"]) (λ _ _ _ _ _ _=>len1 (λ _=>rfl)),F3,W.mg_of X G a3,F3.binds (ps:=["sizes"]) (λ _ _ _ _ _ _=>len1 (λ _=>rfl)),F4,W.mg_of X G a4,F4.binds (ps:=["thing", "bound"]) (λ _ _ _ _ _ _=>len2 (λ _ _=>rfl)),F5,W.mg_of X G a5,F5.binds (ps:=["sizes", "thing"]) (λ _ _ _ _ _ _=>len2 (λ _ _=>rfl)),F6,W.mg_of X G a6,F6.binds (ps:=["sizes", "number"]) (λ _ _ _ _ _ _=>len2 (λ _ _=>rfl)),F7,W.mg_of X G a7,F7.binds (ps:=["sizes", "number"]) (λ _ _ _ _ _ _=>len2 (λ _ _=>rfl)),F8,W.mg_of X G a8,F8.binds (ps:=["count"]) (λ _ _ _ _ _ _=>len1 (λ _=>rfl)),F9,W.mg_of X G a9,F9.binds (ps:=["sizes"]) (λ _ _ _ _ _ _=>len1 (λ _=>rfl)),F10,W.mg_of X G a10,F10.binds (ps:=["thing", "low", "high"]) (λ _ _ _ _ _ _=>len3 (λ _ _ _=>rfl)),F11,W.mg_of X G a11,F11.binds (ps:=["thing"]) (λ _ _ _ _ _ _=>len1 (λ _=>rfl)),F12,W.mg_of X G a12,F12.binds (ps:=["thing"]) (λ _ _ _ _ _ _=>len1 (λ _=>rfl)),F13,W.mg_of X G a13,F13.binds (ps:=["thing"]) (λ _ _ _ _ _ _=>len1 (λ _=>rfl)),F14,W.mg_of X G a14,F14.binds (ps:=["axis"]) (λ _ _ _ _ _ _=>len1 (λ _=>rfl)),F15,F15.binds (ps:=["self", "room", "first", "axes"]) (λ _ _ _ _ _ _=>len4 (λ _ _ _ _=>rfl)),F16,F16.binds (ps:=["self"]) (λ _ _ _ _ _ _=>len1 (λ _=>rfl)),F17,F17.binds (ps:=["self"]) (λ _ _ _ _ _ _=>len1 (λ _=>rfl)),F18,F18.binds (ps:=["self"]) (λ _ _ _ _ _ _=>len1 (λ _=>rfl)),F19,F19.binds (ps:=["self", "place"]) (λ _ _ _ _ _ _=>len2 (λ _ _=>rfl)),F20,F20.binds (ps:=["self"]) (λ _ _ _ _ _ _=>len1 (λ _=>rfl)),F21,F21.binds (ps:=["self"]) (λ _ _ _ _ _ _=>len1 (λ _=>rfl)),F22,F22.binds (ps:=["self"]) (λ _ _ _ _ _ _=>len1 (λ _=>rfl)),F23,W.mg_of X G a23,F23.binds (ps:=["cells", "size", "pace"]) (λ _ _ _ _ _ _=>len3 (λ _ _ _=>rfl)),F24,W.mg_of X G a24,F24.binds (ps:=["view"]) (λ _ _ _ _ _ _=>len1 (λ _=>rfl)),F25,W.mg_of X G a25,F25.binds (ps:=["one", "other"]) (λ _ _ _ _ _ _=>len2 (λ _ _=>rfl)),F26,W.mg_of X G a26,F26.binds (ps:=["to", "source"]) (λ _ _ _ _ _ _=>len2 (λ _ _=>rfl)),F27,W.mg_of X G a27,Binds.all (len1 (λ _=>rfl)),F28,W.mg_of X G a28,F28.binds (ps:=["to", "source", "spots"]) (λ _ _ _ _ _ _=>len3 (λ _ _ _=>rfl)),F29,W.mg_of X G a29,Binds.all (len2 (λ _ _=>rfl)),F30,W.mg_of X G a30,F30.binds (ps:=["_law_script", "_law_k", "_law_many"]) (λ _ _ _ _ _ _=>len3 (λ _ _ _=>rfl)),F31,W.mg_of X G a31,F31.binds (ps:=["_law_found"]) (λ _ _ _ _ _ _=>len1 (λ _=>rfl)),F32,W.mg_of X G a32,F32.binds (ps:=["_law_number", "_law_by", "_law_many"]) (λ _ _ _ _ _ _=>len3 (λ _ _ _=>rfl)),F33,W.mg_of X G a33,F33.binds (ps:=["_law_script", "_law_most_here", "_law_wide"]) (λ _ _ _ _ _ _=>len3 (λ _ _ _=>rfl)),F34,W.mg_of X G a34,F34.binds (ps:=["_law_script", "_law_sizes_here"]) (λ _ _ _ _ _ _=>len2 (λ _ _=>rfl)),F35,W.mg_of X G a35,F35.binds (ps:=["_law_script", "_law_paces"]) (λ _ _ _ _ _ _=>len2 (λ _ _=>rfl)),F36,W.mg_of X G a36,F36.binds (ps:=["_law_sizes_here", "_law_paces"]) (λ _ _ _ _ _ _=>len2 (λ _ _=>rfl)),F37,W.mg_of X G a37,F37.binds (ps:=["_law_sizes_here", "_law_paces"]) (λ _ _ _ _ _ _=>len2 (λ _ _=>rfl)),F38,W.mg_of X G a38,F38.binds (ps:=["_law_first", "_law_sizes_here", "_law_paces"]) (λ _ _ _ _ _ _=>len3 (λ _ _ _=>rfl)),F39,W.mg_of X G a39,F39.binds (ps:=["_law_script", "_law_sizes_here"]) (λ _ _ _ _ _ _=>len2 (λ _ _=>rfl)),F40,W.mg_of X G a40,F40.binds (ps:=["_law_script", "_law_view"]) (λ _ _ _ _ _ _=>len2 (λ _ _=>rfl)),F41,W.mg_of X G a41,F41.binds (ps:=["_law_sizes_here"]) (λ _ _ _ _ _ _=>len1 (λ _=>rfl)),F42,W.mg_of X G a42,F42.binds (ps:=["_law_writes", "_law_reads"]) (λ _ _ _ _ _ _=>len2 (λ _ _=>rfl)),F43,W.mg_of X G a43,F43.binds (ps:=["_law_one", "_law_other"]) (λ _ _ _ _ _ _=>len2 (λ _ _=>rfl)),F44,W.mg_of X G a44,F44.binds (ps:=["_law_found", "_law_some", "_law_writes"]) (λ _ _ _ _ _ _=>len3 (λ _ _ _=>rfl)),F45,W.mg_of X G a45,F45.binds (ps:=["_law_found", "_law_due"]) (λ _ _ _ _ _ _=>len2 (λ _ _=>rfl)),F46,W.mg_of X G a46,F46.binds (ps:=["_law_one", "_law_other", "_law_some", "_law_writes", "_law_reads"]) (λ _ _ _ _ _ _=>len5 (λ _ _ _ _ _=>rfl)),F47,W.mg_of X G a47,F47.binds (ps:=["_law_script"]) (λ _ _ _ _ _ _=>len1 (λ _=>rfl)),W.mg_none_of X G z0,W.mg_none_of X G z1,W.mg_none_of X G z2,W.mg_none_of X G z3,W.mg_none_of X G z4,W.mg_none_of X G z5,W.mg_none_of X G z6,W.mg_none_of X G z7,W.mg_none_of X G z8,W.mg_none_of X G z9,W.mg_none_of X G z10,W.mg_none_of X G z11,W.mg_none_of X G z12,W.mg_none_of X G z13,W.mg_none_of X G z14,W.mg_none_of X G z15⟩
 exact ⟨W.fnOf "law" "law" (defArgs s_law) (defBody s_law) (defScope s_law) .none kV47 dc47 pm47 an47 cd47 ct47,λ s v=>.of_eq rfl,λ base _ _=>ok_law T⟩
theorem walk {l:W.OpenLaw}{q:Program}{loose:List Str}{XP:(Str->Option Value)->Heap->Prop}{YP:World->Heap->Prop}{d:DefRec}{K:Params->W.Frag}(hn:l.most=some 63) (hdf:d.params.defaults=[])
  (hY:∀ (w:World) (h:Heap),YP w h->(K w.params).In h)
  (F:∀ (w:World) (mg:Str->Option Value) (fa:Addr) (h:Heap),(K w.params).In h->h.Ns mainGlobals mg->mg d.name=some (.ref fa) →
   ∃ fd:FuncData,(∀ (s:Shared) (u:Value),BindsTo s fd ⟨[u],[]⟩ [("_law_script",u)])/\∀ base:Heap,(K w.params).In base->base.Ns mainGlobals mg->FnOk l.prog w (K w.params) mg base CX0 10 fa fd ["_law_script"] (spLaw (K w.params))) :
  W.WalkO q loose XP YP l.row.toRowW d [] (λ f vs=>PySem.call f vs):=
 L2.walk_of (n:=63) (k:=10) (x := "_law_script") (CX:=λ _=>CX0) (sp:=λ w=>spLaw (K w.params)) hn (by decide) hdf ⟨rfl,by decide,by decide⟩ hY F (λ _ _ a ns hl _ hS=>⟨a,rfl,ns,hS,hl,λ _=>rfl⟩) λ _ _ _ _ _ z=>z
end PH
namespace PySem.W.Fast
def tw3422107604636677714:=0
def tw16752954297724678788:=0
def tw18411185743410783993:=0
def tw1140098655861408303:=0
def tw1023910103575665961:=0
def tw11493092195604574554:=0
def tw13540676574272266792:=0
def tw14467383760447501707:=0
def tw4320165545294686847:=0
def tw17192232356055747630:=0
def tw9804292113334828617:=0
def tw4322620862304966598:=0
def tw5397212247576365175:=0
def tw8370822993487564455:=0
def tw8236378546667141605:=0
def tw14332436017133103265:=0
def tw16772368832340015715:=0
def tw2610607773331718194:=0
def tw18413565674172133017:=0
def tw12993185907174517877:=0
def tw13237296627998708980:=0
def tw3228911400363887464:=0
def tw9293258283478601682:=0
def tw15973869932137423729:=0
def tw12114634693861241949:=0
def tw11824280614897651213:=0
def tw87264760775839137:=0
def tw4268847711304374712:=0
def tw13029539159886267121:=0
def tw2829991026422344817:=0
def tw4439763094437559105:=0
def tw9291169473140369336:=0
def tw3008197232054010195:=0
def tw15506130071354092408:=0
def tw12670359941430119114:=0
def tw11803074260368343727:=0
def tw9829571017916229918:=0
def tw2953210810796009531:=0
def tw2944826660073241196:=0
def tw15008384632031060758:=0
def tw13437824241153745915:=0
def tw12522008734455021662:=0
def tw12624541325520928758:=0
def tw3061829445372195218:=0
def tw4556553334753927937:=0
def tw1888508011991862756:=0
def tw2060238010476018086:=0
def tw15521464064614183400:=0
def tw13355394646893883940:=0
def tw9473643909212826819:=0
def tw17675067082655890938:=0
def tw6469864911024790373:=0
def tw17605881360128814332:=0
def tw1313315810781933639:=0
def tw18427643684120918063:=0
def tw15482539470535353733:=0
def tw13442331476167229948:=0
def tw16820289080686373765:=0
def tw4534774213285486816:=0
def tw2156062890610545460:=0
def tw676083819199015995:=0
def tw4560863252468690187:=0
def tw5969332678366478375:=0
def tw6890001062548825259:=0
def tw6316966871040469968:=0
def tw10312501295454995465:=0
def tw10768324490104443532:=0
def tw2869174181142250247:=0
def tw12305274632692726331:=0
def tw6284765689196723888:=0
def tw16617604216341881696:=0
def tw11517003485123136695:=0
def tw3437444120052068995:=0
def tw9164541101326794697:=0
def tw2876114629738694067:=0
def tw11677836752244847866:=0
def tw14769842595272923826:=0
def tw13244294865430479963:=0
def tw1157789405166939330:=0
def tw11937392643710262361:=0
def tw5452663912932679025:=0
def tw4014772571442117312:=0
def tw2004376783820968969:=0
def tw14076011813360700392:=0
def tw13706722795124109881:=0
def tw6419684183046201914:=0
def tw8327288102715263853:=0
def tw11887627205824154480:=0
def tw16482343892385483033:=0
def tw9352555696688346501:=0
def tw4855036514914469102:=0
def tw2812957997861767618:=0
def tw6147257388721500953:=0
def tw6598721625321917063:=0
def tw15954060986230025982:=0
def tw6244924788836867703:=0
def tw1065086989365117711:=0
def tw18140376637737559136:=0
def tw16565171955208362128:=0
def tw3876798073984138687:=0
def tw11492480250367938648:=0
def tw997252995361608614:=0
def tw13487508498387488553:=0
def tw11143962683680657179:=0
def tw17793554439599874080:=0
def tw1348318122497386960:=0
def tw14953867335140548796:=0
def tw8632103231598354591:=0
def tw18190309330266595939:=0
def tw3529043397633894803:=0
def tw7516603804142164418:=0
def tw12057082567805782763:=0
def tw2771548658327204183:=0
def tw6868909498514654140:=0
def tw2451832851129011205:=0
def tw4703279013129500883:=0
def tw737340906038696693:=0
def tw920621737019498078:=0
def tw1811328827710119992:=0
def tw11916466407838955738:=0
def tw534594808139609799:=0
def tw14960913524038351411:=0
def tw12295614006212166619:=0
def tw17451949311599062580:=0
def tw10782033635311757638:=0
def tw15009436740254114341:=0
def tw12208130914629216226:=0
def tw15437756504127819028:=0
def tw7660292335232019769:=0
def tw4892779387714441610:=0
def tw15568519085470520798:=0
def tw16623608108787634775:=0
def tw11260973658011693374:=0
def tw4802673963500612601:=0
def tw10293143691475006958:=0
def tw1965533176651097285:=0
def tw2224911159722820330:=0
def tw2220193959224070857:=0
def tw3131994427501629615:=0
def tw12102609660041128984:=0
def tw11521198114191825588:=0
def tw16083979884346177909:=0
def tw8183562184040859164:=0
def tw14971010435970553711:=0
def tw15251001249121566585:=0
def tw1504526390053509753:=0
def tw9666260087836832468:=0
def tw17436411721679640934:=0
def tw15298191323104099754:=0
def tw9752969674258169825:=0
def tw9464458279356462039:=0
def tw8670106144525370607:=0
def tw9485762066993229873:=0
def tw8849698669340402305:=0
def tw17125386953672204111:=0
def tw701656899915226330:=0
def tw14108178434859794690:=0
def tw5014188917945436908:=0
def tw16542913506147099207:=0
def tw7082373489569957849:=0
def tw2888916474384730538:=0
def tw7454531329810878486:=0
def tw7170108156739532345:=0
def tw6732042847905572400:=0
def tw2658618962800963920:=0
def tw6030252682816100816:=0
def tw7705085903508369782:=0
def tw3522355408330865410:=0
def tw387562413391866877:=0
def tw8058680837104762576:=0
def tw764755330917473457:=0
def tw10772615161732844534:=0
def tw5803797959362110586:=0
def tw12923234349601009804:=0
def tw4094718393403509341:=0
def tw5393378548874014853:=0
def tw1344786902973947165:=0
def tw2403106279825305872:=0
def tw11906000618980759065:=0
def tw98461726378015963:=0
def tw4165935157891845057:=0
def tw3418599613010795711:=0
def tw9145978650463767712:=0
def tw9056585080061938973:=0
def tw12970119365274605796:=0
def tw12574510654031257383:=0
def tw7015918865786607377:=0
def tw10913471476614224993:=0
def tw7746315539771316261:=0
def tw5324244479706226439:=0
def tw15275848527797914459:=0
def tw17685257102434289975:=0
def tw8156435285899731548:=0
def tw16123857974870761695:=0
def tw12447305691746850214:=0
def tw11443311598467058488:=0
def tw2232912885705113626:=0
def tw17736856072192044150:=0
def tw17994656201582572196:=0
def tw15490557718152788456:=0
def tw8437601642646735749:=0
def tw10738111333634703007:=0
def tw2921513536880352948:=0
def tw16760147251422611953:=0
def tw2396667902615873925:=0
def tw16742621728329556258:=0
def tw4452177651286511464:=0
def tw10365404738157634794:=0
def tw17861750439199906668:=0
def tw5843093099558189849:=0
def tw13408750186906129782:=0
def tw14648077892815402650:=0
def tw13148686779061635617:=0
def tw13732315367739710598:=0
def tw3782002103169383436:=0
def tw14603123481209444882:=0
def tw8519219921313671721:=0
def tw13453729449920238614:=0
def tw1650272765344468044:=0
def tw11653266526504656429:=0
def tw2461858239485523304:=0
def tw7785233186721310276:=0
def tw7129179037795928922:=0
def tw13086762444702481019:=0
def tw8556481292733359816:=0
def tw7636647796961920051:=0
def tw4919449461963678622:=0
def tw13964834411477106299:=0
def tw1967628632147436097:=0
def tw682310892798785631:=0
def tw17119926721032695707:=0
def tw7455370955650622577:=0
def tw10687248968669805174:=0
def tw10966301121296420450:=0
def tw3720327674851118360:=0
def tw13446332561379037128:=0
def tw6848030610340016159:=0
end PySem.W.Fast
open PySem PySem.W PyProof.Rows
set_option maxHeartbeats 0 in
theorem PySem.Challenge.cw_pacehall_k71_bound_pairs_holds : PySem.Challenge.rw_pacehall_k71_bound_pairs.Holds := by
 w_on;o_law;k_head;(case hw=>w_witness2)
 k_fill
 refine PH.walk (l:=PySem.Challenge.rw_pacehall_k71_bound_pairs) rfl rfl (λ w h Y=>PySem.W.kIn_of Y) ?F
 case F=>
  intro w mg fa h KX G hmg
  refine' PH.all_mk KX G hmg ?y0 ?y1 ?y2 ?y3 ?y4 ?y5 ?y6 ?y7 ?x_Twice_Twice ?ocs ?oct ?ga_Twice ?gn_Twice ?mb_Twice ?mo_Twice ?fc_Twice ?hd_Twice ?l0 ?c0 ?k0 ?l1 ?c1 ?k1 ?a2 ?l2 ?c2 ?k2 ?a3 ?l3 ?c3 ?k3 ?a4 ?l4 ?c4 ?k4 ?a5 ?l5 ?c5 ?k5 ?a6 ?l6 ?c6 ?k6 ?a7 ?l7 ?c7 ?k7 ?a8 ?l8 ?c8 ?k8 ?a9 ?l9 ?c9 ?k9 ?a10 ?l10 ?c10 ?k10 ?a11 ?l11 ?c11 ?k11 ?a12 ?l12 ?c12 ?k12 ?a13 ?l13 ?c13 ?k13 ?a14 ?l14 ?c14 ?k14 ?l15 ?c15 ?k15 ?l16 ?c16 ?k16 ?l17 ?c17 ?k17 ?l18 ?c18 ?k18 ?l19 ?c19 ?k19 ?l20 ?c20 ?k20 ?l21 ?c21 ?k21 ?l22 ?c22 ?k22 ?a23 ?l23 ?c23 ?k23 ?a24 ?l24 ?c24 ?k24 ?a25 ?l25 ?c25 ?k25 ?a26 ?l26 ?c26 ?k26 ?a27 ?l27 ?c27 ?k27 ?a28 ?l28 ?c28 ?k28 ?a29 ?l29 ?c29 ?k29 ?a30 ?l30 ?c30 ?k30 ?a31 ?l31 ?c31 ?k31 ?a32 ?l32 ?c32 ?k32 ?a33 ?l33 ?c33 ?k33 ?a34 ?l34 ?c34 ?k34 ?a35 ?l35 ?c35 ?k35 ?a36 ?l36 ?c36 ?k36 ?a37 ?l37 ?c37 ?k37 ?a38 ?l38 ?c38 ?k38 ?a39 ?l39 ?c39 ?k39 ?a40 ?l40 ?c40 ?k40 ?a41 ?l41 ?c41 ?k41 ?a42 ?l42 ?c42 ?k42 ?a43 ?l43 ?c43 ?k43 ?a44 ?l44 ?c44 ?k44 ?a45 ?l45 ?c45 ?k45 ?a46 ?l46 ?c46 ?k46 ?a47 ?l47 ?c47 ?k47 ?fi_TooMany ?xe_TooMany ?xf_TooMany ?xo_TooMany ?xs_TooMany ?xh_TooMany ?nt_TooMany_number ?nf_TooMany_number ?bs_PaceError ?br_PaceError ?bf_PaceError ?fi_Twice ?xe_Twice ?xf_Twice ?xo_Twice ?xs_Twice ?xh_Twice ?nt_Twice_one ?nf_Twice_one ?nt_Twice_other ?nf_Twice_other ?pg_View ?hd_View ?po_View ?sa_View ?nf_View_axes ?nf_View_first ?nf_View_room ?fi_View___init__ ?fn_View___init__ ?mm_View ?ck_View ?fi_View_sizes ?fn_View_sizes ?fi_View_paces ?fn_View_paces ?fi_View_count ?fn_View_count ?fi_View_cell ?fn_View_cell ?fi_View_cells ?fn_View_cells ?fi_View_least ?fn_View_least ?fi_View_greatest ?fn_View_greatest ?w0 ?w1 ?w2 ?w3 ?z0 ?z1 ?z2 ?z3 ?z4 ?z5 ?z6 ?z7 ?z8 ?z9 ?z10 ?z11 ?z12 ?z13 ?z14 ?z15
  (case y0|y1|y2|y3|y4|y5|y6|y7|fi_TooMany|fi_Twice|fi_View___init__|fi_View_sizes=>first|k_is|k_exc|kts_exm|decide|rfl|decide +kernel|kernel_rfl)
  (case fi_View_paces|fi_View_count|fi_View_cell|fi_View_cells|fi_View_least|fi_View_greatest|x_Twice_Twice|ocs|oct|ga_Twice|gn_Twice|mb_Twice=>first|k_is|k_exc|kts_exm|decide|rfl|decide +kernel|kernel_rfl)
  (case mo_Twice|fc_Twice|hd_Twice|l0|c0|k0|l1|c1|k1|a2|l2|c2=>first|k_is|k_exc|kts_exm|decide|rfl|decide +kernel|kernel_rfl)
  (case k2|a3|l3|c3|k3|a4|l4|c4|k4|a5|l5|c5=>first|k_is|k_exc|kts_exm|decide|rfl|decide +kernel|kernel_rfl)
  (case k5|a6|l6|c6|k6|a7|l7|c7|k7|a8|l8|c8=>first|k_is|k_exc|kts_exm|decide|rfl|decide +kernel|kernel_rfl)
  (case k8|a9|l9|c9|k9|a10|l10|c10|k10|a11|l11|c11=>first|k_is|k_exc|kts_exm|decide|rfl|decide +kernel|kernel_rfl)
  (case k11|a12|l12|c12|k12|a13|l13|c13|k13|a14|l14|c14=>first|k_is|k_exc|kts_exm|decide|rfl|decide +kernel|kernel_rfl)
  (case k14|l15|c15|k15|l16|c16|k16|l17|c17|k17|l18|c18=>first|k_is|k_exc|kts_exm|decide|rfl|decide +kernel|kernel_rfl)
  (case k18|l19|c19|k19|l20|c20|k20|l21|c21|k21|l22|c22=>first|k_is|k_exc|kts_exm|decide|rfl|decide +kernel|kernel_rfl)
  (case k22|a23|l23|c23|k23|a24|l24|c24|k24|a25|l25|c25=>first|k_is|k_exc|kts_exm|decide|rfl|decide +kernel|kernel_rfl)
  (case k25|a26|l26|c26|k26|a27|l27|c27|k27|a28|l28|c28=>first|k_is|k_exc|kts_exm|decide|rfl|decide +kernel|kernel_rfl)
  (case k28|a29|l29|c29|k29|a30|l30|c30|k30|a31|l31|c31=>first|k_is|k_exc|kts_exm|decide|rfl|decide +kernel|kernel_rfl)
  (case k31|a32|l32|c32|k32|a33|l33|c33|k33|a34|l34|c34=>first|k_is|k_exc|kts_exm|decide|rfl|decide +kernel|kernel_rfl)
  (case k34|a35|l35|c35|k35|a36|l36|c36|k36|a37|l37|c37=>first|k_is|k_exc|kts_exm|decide|rfl|decide +kernel|kernel_rfl)
  (case k37|a38|l38|c38|k38|a39|l39|c39|k39|a40|l40|c40=>first|k_is|k_exc|kts_exm|decide|rfl|decide +kernel|kernel_rfl)
  (case k40|a41|l41|c41|k41|a42|l42|c42|k42|a43|l43|c43=>first|k_is|k_exc|kts_exm|decide|rfl|decide +kernel|kernel_rfl)
  (case k43|a44|l44|c44|k44|a45|l45|c45|k45|a46|l46|c46=>first|k_is|k_exc|kts_exm|decide|rfl|decide +kernel|kernel_rfl)
  (case k46|a47|l47|c47|k47|xe_TooMany|xf_TooMany|xo_TooMany|xs_TooMany|xh_TooMany|nt_TooMany_number|nf_TooMany_number=>first|k_is|k_exc|kts_exm|decide|rfl|decide +kernel|kernel_rfl)
  (case bs_PaceError|br_PaceError|bf_PaceError|xe_Twice|xf_Twice|xo_Twice|xs_Twice|xh_Twice|nt_Twice_one|nf_Twice_one|nt_Twice_other|nf_Twice_other=>first|k_is|k_exc|kts_exm|decide|rfl|decide +kernel|kernel_rfl)
  (case pg_View|hd_View|po_View|sa_View|nf_View_axes|nf_View_first|nf_View_room|fn_View___init__|mm_View|ck_View|fn_View_sizes|fn_View_paces=>first|k_is|k_exc|kts_exm|decide|rfl|decide +kernel|kernel_rfl)
  (case fn_View_count|fn_View_cell|fn_View_cells|fn_View_least|fn_View_greatest|w0|w1|w2|w3|z0|z1|z2=>first|k_is|k_exc|kts_exm|decide|rfl|decide +kernel|kernel_rfl)
  (case z3|z4|z5|z6|z7|z8|z9|z10|z11|z12|z13|z14=>first|k_is|k_exc|kts_exm|decide|rfl|decide +kernel|kernel_rfl)
  (case z15=>first|k_is|k_exc|kts_exm|decide|rfl|decide +kernel|kernel_rfl)
#print axioms PySem.Challenge.cw_pacehall_k71_bound_pairs_holds