import PyProof.Rows.All
import Wide.All
import OpenK.AllK
import Wide.FinOn
import Lean
import PyProof.EqAt
import PyProof.EqKinds
import PyProof.TupleCall
import PySem.Challenge.RW_pacehall_k86_done_and_back
set_option Elab.async false
set_option linter.all false
set_option maxRecDepth 100000
namespace L2
open PySem PySem.Spec PyProof.Rows
abbrev Key:=Sum Int Str
def keyIs:Key->Value->Bool
 | .inl k,v=>Value.isInt k v
 | .inr x,v=>Value.isStrOf x v
def keyH (w:World):Key->Int
 | .inl k=>hashInt k
 | .inr x=>hashStr w x
theorem keyIs_shape:∀ {k:Key}{v:Value},keyIs k v=true->(∃ i t,k=Sum.inl i/\v=Value.int i t)\/(∃ x t,k=Sum.inr x/\v=Value.str x t)
 | .inl i,v,h=>by
  obtain ⟨t,e⟩:=Value.isInt_shape (k:=i) (v:=v) h
  exact .inl ⟨i,t,rfl,e⟩
 | .inr x,v,h=>by
  obtain ⟨t,e⟩:=Value.isStrOf_shape (x:=x) (v:=v) h
  exact .inr ⟨x,t,rfl,e⟩
theorem keyIs_int (i:Int) (t:Tok):keyIs (.inl i) (.int i t)=true:=by simp [keyIs,Value.isInt]
theorem keyIs_str (x:Str) (t:Tok):keyIs (.inr x) (.str x t)=true:=by simp [keyIs,Value.isStrOf]
theorem key_ll (a b:Int):decide ((Sum.inl a:Key)=Sum.inl b)=(a == b):=by
 by_cases e:a=b
 ·subst e;simp
 ·have h:¬ (Sum.inl a:Key)=Sum.inl b:=λ q=>e (Sum.inl.inj q)
  rw [decide_eq_false h]
  exact (beq_eq_false_iff_ne.mpr e).symm
theorem key_rr (a b:Str):decide ((Sum.inr a:Key)=Sum.inr b)=decide (a=b):=by
 by_cases e:a=b
 ·subst e;simp
 ·have h:¬ (Sum.inr a:Key)=Sum.inr b:=λ q=>e (Sum.inr.inj q)
  rw [decide_eq_false h,decide_eq_false e]
theorem key_lr (a:Int) (b:Str):decide ((Sum.inl a:Key)=Sum.inr b)=false:=decide_eq_false (λ q=>nomatch q)
theorem key_rl (a:Str) (b:Int):decide ((Sum.inr a:Key)=Sum.inl b)=false:=decide_eq_false (λ q=>nomatch q)
def mixKind (prog:Program) (w:World):PySem.KeyKind prog w Key where
 is:=keyIs
 hash:=keyH w
 inj:=λ v a b ha hb=>by
  rcases keyIs_shape ha with ⟨i,t,rfl,rfl⟩|⟨x,t,rfl,rfl⟩
  ·rcases keyIs_shape hb with ⟨j,u,rfl,e⟩|⟨y,u,rfl,e⟩
   ·injection e with e1 _;rw [e1]
   ·exact nomatch e
  ·rcases keyIs_shape hb with ⟨j,u,rfl,e⟩|⟨y,u,rfl,e⟩
   ·exact nomatch e
   ·injection e with e1 _;rw [e1]
 byValue:=λ k v h=>by
  rcases keyIs_shape h with ⟨i,t,rfl,rfl⟩|⟨x,t,rfl,rfl⟩<;>rfl
 pyHash:=λ hv h=>by
  rcases keyIs_shape hv with ⟨i,t,rfl,rfl⟩|⟨x,t,rfl,rfl⟩
  ·exact wpAny_pyHash_int h
  ·exact wpAny_pyHash_str h
 eqBool:=λ hu hv h=>by
  rcases keyIs_shape hu with ⟨i,t,rfl,rfl⟩|⟨x,t,rfl,rfl⟩
  ·rcases keyIs_shape hv with ⟨j,u,rfl,rfl⟩|⟨y,u,rfl,rfl⟩
   ·rw [key_ll] at h;exact wpAny_eqBool_int h
   ·rw [key_lr] at h;exact SeqAt.EqAt.int_str i t y u _ _ _ _ h
  ·rcases keyIs_shape hv with ⟨j,u,rfl,rfl⟩|⟨y,u,rfl,rfl⟩
   ·rw [key_rl] at h;exact SeqAt.EqAt.str_int x t j u _ _ _ _ h
   ·rw [key_rr] at h;exact wpAny_eqBool_str h
 «strs»:=λ k x t v h=>by
  rcases keyIs_shape h with ⟨i,u,rfl,e⟩|⟨y,u,rfl,e⟩
  ·exact nomatch e
  ·injection e with e1 _
   subst e1
   cases v<;>rfl
theorem mixKind_int (prog:Program) (w:World) (i:Int) (t:Tok):(mixKind prog w).is (.inl i) (.int i t)=true:=keyIs_int i t
theorem mixKind_str (prog:Program) (w:World) (x:Str) (t:Tok):(mixKind prog w).is (.inr x) (.str x t)=true:=keyIs_str x t
end L2
namespace L2
open PySem PySem.Spec PyProof.Rows
inductive V where
 | non|bl (b:Bool)|int (i:Int)|str (x:Str)|byt (b:Array UInt8)|flt (b:UInt64)|ref (a:Addr)|ty (n:String)
 deriving DecidableEq
def RelV:V->Value->Prop
 | .non,u=>u=Value.none
 | .bl b,u=>u=Value.bool b
 | .int i,u=>∃ t,u=Value.int i t
 | .str x,u=>∃ t,u=Value.str x t
 | .byt b,u=>∃ t,u=Value.bytes b t
 | .flt b,u=>∃ t,u=Value.float b t
 | .ref a,u=>u=Value.ref a
 | .ty n,u=>u=Value.type n
abbrev Vals:List V->List Value->Prop:=Paired RelV
theorem Vals.length {xs:List V}{us:List Value}(r:Vals xs us):xs.length=us.length:=Paired.length r
theorem Vals.get:∀ {xs:List V}{us:List Value}{i:Nat}{x:V},Vals xs us->xs[i]? = some x->∃ u,us[i]? = some u/\RelV x u
 | _,_,_,_,.nil,e=>by simp at e
 | _,_,0,_,.cons r _,e=>by simp at e;subst e;exact ⟨_,rfl,r⟩
 | _,_,i+1,x,.cons _ t,e=>by
  obtain ⟨u,h1,h2⟩:=Vals.get (i:=i) (x:=x) t (by simpa using e)
  exact ⟨u,by simpa using h1,h2⟩
theorem Vals.set {x:V}{u:Value}(r:RelV x u):∀ {xs:List V}{us:List Value}(i:Nat),Vals xs us->Vals (xs.set i x) (us.set i u)
 | _,_,_,.nil=>.nil
 | _,_,0,.cons _ t=>.cons r t
 | _,_,i+1,.cons q t=>.cons q (Vals.set r i t)
theorem Vals.append:∀ {xs ys:List V}{us ws:List Value},Vals xs us->Vals ys ws->Vals (xs++ys) (us++ws)
 | _,_,_,_,.nil,s=>s
 | _,_,_,_,.cons r t,s=>.cons r (Vals.append t s)
def RelO:Option V->Option Value->Prop
 | some v,some u=>RelV v u
 | none,none=>True
 | _,_=>False
def KV {κ:Type}:List (κ × V)->List (κ × Value)->Prop:=Paired λ (p:κ × V) (q:κ × Value)=>p.1=q.1/\RelV p.2 q.2
def kV:Key->V
 | .inl i=>.int i
 | .inr x=>.str x
inductive HO where
 | lst (xs:List V)
 | tup (xs:List V)
 | dK (kvs:List (Key × V))|dT (kvs:List (List Key × V))
 | set (S:Int->Bool) (n:Nat)
 | ins (C dx:Addr) (fs:List (Str × V))
 | own (x:Addr)
 | xd (fs:List (Str × V))
 | met (f x:Addr)
 | rng (lo hi:Int)
 | frz (o:Obj) (u:HO)
 | tbl (ps:Array Value)
 | ext (φ:Heap->Prop)
abbrev Hp:=Addr->Option HO
def upd (H:Hp) (a:Addr) (o:HO):Hp:=λ b=>if b=a then some o else H b
theorem upd_same {H:Hp}{a:Addr}{o:HO}:upd H a o a=some o:=by unfold upd;rw [if_pos rfl]
theorem upd_ne {H:Hp}{a b:Addr}{o:HO}(h:b ≠ a):upd H a o b=H b:=by unfold upd;rw [if_neg h]
theorem upd_upd {H:Hp}{a:Addr}{o u:HO}:upd (upd H a o) a u=upd H a u:=by
 funext b;unfold upd;split<;>rfl
theorem ne_of {H:Hp}{a b:Addr}{o u:HO}(h:H a=some o) (h':H b=some u) (d:o ≠ u):a ≠ b:=by
 intro e;subst e;rw [h] at h';exact d (Option.some.inj h')
theorem ne_of_none {H:Hp}{a b:Addr}{o:HO}(h:H a=some o) (h':H b=none):a ≠ b:=by
 intro e;subst e;rw [h] at h';cases h'
section
variable (P:Program) (w:World)
def ObjOk (H:Hp) (h:Heap) (a:Addr):HO->Prop
 | .lst xs=>xs.length<=sizeLine/\∃ (its:List Value) (n:Nat),Vals xs its/\h.get? a=some { cls:=.type "list",data:=.seq its.toArray n }
 | .tup xs=>xs.length<=sizeLine/\∃ its:List Value,Vals xs its/\IsTup h a its.toArray
 | .dK kvs=>kvs.length<=sizeLine/\(a == sysModules)=false/\∃ vs,KV kvs vs/\h.DictOf (mixKind P w) a vs
 | .dT kvs=>kvs.length<=sizeLine/\(a == sysModules)=false/\∃ xs:List (List Key × Addr × Value),
   Paired (λ (p:List Key × V) (q:List Key × Addr × Value)=>p.1=q.1/\H q.2.1=some (.tup (p.1.map kV))/\RelV p.2 q.2.2) kvs xs /\
   ∃ o es ep,h.get? a=some o/\o.ExactDict/\o.data=.dict es ep/\es.toList=xs.map (entryOfKey (tupleKind (mixKind P w)))/\(xs.map (·.1)).Nodup
 | .set S n=>h.SetOf (intKind P w) a S n
 | .ins C dx fs=>H dx=some (.own a)/\fs.length<=1000/\dx ≠ a/\h.get? a=some (W.instObj C dx) /\
   ∃ mA,h.Ns1 dx mA/\(∀ f,RelO (fs.lookup f) (mA f))/\PySem.Within mA (fs.map (·.1))
 | .own _=>∃ o,h.get? a=some o
 | .xd fs=>∃ mA,h.Ns1 a mA/\∀ f,RelO (fs.lookup f) (mA f)
 | .rng lo hi=>∃ t u v,h.get? a=some { cls:=.type "range",data:=.fields #[.int lo t,.int hi u,.int 1 v] }
 | .frz o u=>h.get? a=some o/\ObjOk H h a u
 | .tbl ps=>h.get? a=some { cls:=.none,data:=.fields ps }
 | .met f x=>h.get? a=some (W.methodObj (.ref f) (.ref x))
 | .ext φ=>φ h/\(∃ o,h.get? a=some o)/\∀ h1 h2:Heap,φ h1->(∀ o,h1.get? a=some o->h2.get? a=some o)->φ h2
def HOk (H:Hp) (h:Heap):Prop:=∀ a o,H a=some o->ObjOk P w H h a o
end
section
variable {P:Program}{w:World}{H H':Hp}{h h':Heap}{a:Addr}{o:HO}
theorem ObjOk.lt (x:ObjOk P w H h a o):a < h.objs.size:=by
 cases o with
 | lst xs=>obtain ⟨_,_,_,_,e⟩:=x;exact Heap.lt_size e
 | tup xs=>obtain ⟨_,_,_,p⟩:=x;exact p.lt
 | dK kvs=>obtain ⟨_,_,_,_,o,_,_,e,_⟩:=x;exact Heap.lt_size e
 | dT kvs=>obtain ⟨_,_,_,_,o,_,_,e,_⟩:=x;exact Heap.lt_size e
 | set S n=>obtain ⟨o,_,_,_,e,_⟩:=x;exact Heap.lt_size e
 | ins C dx fs=>obtain ⟨_,_,_,e,_⟩:=x;exact Heap.lt_size e
 | own y=>obtain ⟨_,e⟩:=x;exact Heap.lt_size e
 | xd fs=>obtain ⟨_,⟨_,_,_,e,_⟩,_⟩:=x;exact Heap.lt_size e
 | rng lo hi=>obtain ⟨_,_,_,e⟩:=x;exact Heap.lt_size e
 | frz ob u=>obtain ⟨e,_⟩:=x;exact Heap.lt_size e
 | tbl ps=>exact Heap.lt_size (show h.get? a=some _ from x)
 | met f y=>exact Heap.lt_size (show h.get? a=some _ from x)
 | ext φ=>obtain ⟨_,⟨_,e⟩,_⟩:=x;exact Heap.lt_size e
theorem Paired.mapP {α β:Type}{F G:α->β->Prop}:∀ {l₁:List α}{l₂:List β},Paired F l₁ l₂->(∀ a b,F a b->G a b)->Paired G l₁ l₂
 | _,_,.nil,_=>.nil
 | _,_,.cons r t,f=>.cons (f _ _ r) (Paired.mapP t f)
theorem ObjOk.stay (x:ObjOk P w H h a o) (k:∀ b u,(b=a\/H b=some (.own a))->h.get? b=some u->h'.get? b=some u)
  (ho:∀ b,H b=some (.own a)->H' b=some (.own a)) (ht:∀ b xs,H b=some (.tup xs)->H' b=some (.tup xs)):ObjOk P w H' h' a o:=by
 induction o with
 | lst xs=>obtain ⟨z,its,n,r,e⟩:=x;exact ⟨z,its,n,r,k _ _ (.inl rfl) e⟩
 | tup xs=>obtain ⟨z,its,r,ob,e,c⟩:=x;exact ⟨z,its,r,ob,k _ _ (.inl rfl) e,c⟩
 | dK kvs=>obtain ⟨z,y,vs,r,ob,es,ep,e,c⟩:=x;exact ⟨z,y,vs,r,ob,es,ep,k _ _ (.inl rfl) e,c⟩
 | dT kvs=>
  obtain ⟨z,y,xs,r,ob,es,ep,e,c⟩:=x
  exact ⟨z,y,xs,Paired.mapP r λ p q z=>⟨z.1,ht _ _ z.2.1,z.2.2⟩,ob,es,ep,k _ _ (.inl rfl) e,c⟩
 | set S n=>obtain ⟨ob,es,ep,t,e,c⟩:=x;exact ⟨ob,es,ep,t,k _ _ (.inl rfl) e,c⟩
 | ins C dx fs=>
  obtain ⟨d,z,ne,e,mA,⟨od,es,ep,e2,c⟩,r⟩:=x
  exact ⟨ho _ d,z,ne,k _ _ (.inl rfl) e,mA,⟨od,es,ep,k _ _ (.inr d) e2,c⟩,r⟩
 | own y=>obtain ⟨ob,e⟩:=x;exact ⟨ob,k _ _ (.inl rfl) e⟩
 | xd fs=>obtain ⟨mA,⟨od,es,ep,e,c⟩,r⟩:=x;exact ⟨mA,⟨od,es,ep,k _ _ (.inl rfl) e,c⟩,r⟩
 | rng lo hi=>obtain ⟨t,u,v,e⟩:=x;exact ⟨t,u,v,k _ _ (.inl rfl) e⟩
 | frz ob u ih=>obtain ⟨e,q⟩:=x;exact ⟨k _ _ (.inl rfl) e,ih q⟩
 | tbl ps=>
  have e:h.get? a=some { cls:=.none,data:=.fields ps }:=x
  show h'.get? a=some { cls:=.none,data:=.fields ps }
  exact k a _ (.inl rfl) e
 | met f y=>
  have e:h.get? a=some (W.methodObj (.ref f) (.ref y)):=x
  show h'.get? a=some (W.methodObj (.ref f) (.ref y))
  exact k a _ (.inl rfl) e
 | ext φ=>obtain ⟨p,⟨o,e⟩,st⟩:=x;exact ⟨st _ _ p λ o q=>k _ _ (.inl rfl) q,⟨o,k _ _ (.inl rfl) e⟩,st⟩
theorem HOk.lt (x:HOk P w H h) (e:H a=some o):a < h.objs.size:=(x a o e).lt
theorem HOk.fresh (x:HOk P w H h) (e:h.objs.size<=a):H a=none:=by
 cases q:H a with
 | none=>rfl
 | some u=>exact absurd (Nat.lt_of_lt_of_le (x.lt q) e) (Nat.lt_irrefl _)
theorem HOk.kept (x:HOk P w H h) (k:∀ b u,h.get? b=some u->h'.get? b=some u):HOk P w H h':=λ a o e=>
 (x a o e).stay (λ b u _ q=>k b u q) (λ _ q=>q) λ _ _ q=>q
theorem HOk.laid (x:HOk P w H h) (k:∀ b u,h.get? b=some u->h'.get? b=some u) (hp:h.objs.size<=a) (new:ObjOk P w (upd H a o) h' a o):HOk P w (upd H a o) h':=λ b u e=>by
 have hn:=x.fresh hp
 by_cases hb:b=a
 ·subst hb;rw [upd_same] at e;cases e;exact new
 ·rw [upd_ne hb] at e
  exact (x b u e).stay (λ c v _ q=>k c v q) (λ c q=>by rw [upd_ne (ne_of_none q hn)];exact q) λ c xs q=>by rw [upd_ne (ne_of_none q hn)];exact q
end
def Rd (H:Hp) (a:Addr) (u:HO):Prop:=H a=some u\/∃ o,H a=some (.frz o u)
theorem Rd.ok {P:Program}{w:World}{H:Hp}{h:Heap}{a:Addr}{u:HO}(r:Rd H a u) (x:HOk P w H h):ObjOk P w H h a u:=by
 rcases r with r|⟨o,r⟩
 ·exact x a u r
 ·obtain ⟨_,q⟩:=x a _ r
  exact q
def Mut:Option HO->Prop
 | some (.lst _)=>True
 | some (.dK _)=>True
 | some (.dT _)=>True
 | some (.set _ _)=>True
 | some (.ins _ _ _)=>True
 | some (.ext _)=>True
 | _=>False
section
variable {P:Program}{w:World}{H:Hp}{h h':Heap}{x e:Addr}{o':HO}
theorem HOk.write (ok:HOk P w H h) (mu:Mut (H x)) (he:e=x\/H e=some (.own x)) (k:∀ b u,b ≠ e->h.get? b=some u->h'.get? b=some u) (heo:∃ u,h'.get? e=some u)
  (new:ObjOk P w (upd H x o') h' x o'):HOk P w (upd H x o') h':=λ b u q=>by
 have nown:∀ c y,H c=some (.own y)->c ≠ x:=λ c y r z=>by subst z;rw [r] at mu;exact mu
 have ntup:∀ c xs,H c=some (.tup xs)->c ≠ x:=λ c xs r z=>by subst z;rw [r] at mu;exact mu
 by_cases hb:b=x
 ·subst hb;rw [upd_same] at q;cases q;exact new
 ·rw [upd_ne hb] at q
  by_cases hbe:b=e
  ·have q':H b=some (.own x):=by
    rcases he with z|z
    ·exact absurd (hbe.trans z) hb
    ·rw [hbe];exact z
   rw [q] at q';cases q'
   obtain ⟨v,hv⟩:=heo
   exact ⟨v,by rw [hbe];exact hv⟩
  ·refine (ok b u q).stay (λ c v hc r=>k c v ?_ r) (λ c r=>by rw [upd_ne (nown c b r)];exact r) λ c xs r=>by rw [upd_ne (ntup c xs r)];exact r
   rcases hc with rfl|hc
   ·exact hbe
   ·rintro rfl
    rcases he with z|z
    ·exact nown c b hc z
    ·rw [hc] at z;cases z;exact hb rfl
end
structure Un (fs ex:List Addr) (H H':Hp) (h h':Heap):Prop where
 keep:∀ b o,h.get? b=some o->H b=none->b ∉ fs->b ∉ ex->h'.get? b=some o
 slot:∀ b o,h.get? b=some o->H b=none->b∈fs->b ∉ ex->∃ sl,h'.get? b=some { o with slots:=sl }
 free:∀ b o,h.get? b=some o->H b=none->b ∉ ex->H' b=none
 there:∀ b o,h.get? b=some o->b ∉ ex->∃ o',h'.get? b=some o'
 tups:∀ b xs,H b=some (.tup xs)->H' b=some (.tup xs)
 frzs:∀ b o u,H b=some (.frz o u)->H' b=some (.frz o u)
 tbls:∀ b ps,H b=some (.tbl ps)->∃ more,H' b=some (.tbl (ps++more))
section
variable {fs fs' ex ex':List Addr}{H H1 H2:Hp}{h h1 h2 h':Heap}{a x e:Addr}{o:HO}
theorem Un.any (u:Un fs ex H H1 h h1){b:Addr}{ob:Obj}(q:h.get? b=some ob) (n:H b=none) (hx:b ∉ ex):∃ sl,h1.get? b=some { ob with slots:=sl }:=by
 by_cases hb:b∈fs
 ·exact u.slot b ob q n hb hx
 ·exact ⟨ob.slots,u.keep b ob q n hb hx⟩
theorem Un.trans (a:Un fs ex H H1 h h1) (b:Un fs ex H1 H2 h1 h2):Un fs ex H H2 h h2 where
 keep:=λ c ob q n hc hx=>b.keep c ob (a.keep c ob q n hc hx) (a.free c ob q n hx) hc hx
 slot:=λ c ob q n hc hx=>by
  obtain ⟨sl,e1⟩:=a.slot c ob q n hc hx
  obtain ⟨sl',e2⟩:=b.slot c _ e1 (a.free c ob q n hx) hc hx
  exact ⟨sl',e2⟩
 free:=λ c ob q n hx=>by
  obtain ⟨o',e1⟩:=a.there c ob q hx
  exact b.free c o' e1 (a.free c ob q n hx) hx
 there:=λ c ob q hx=>by
  obtain ⟨o',e1⟩:=a.there c ob q hx
  exact b.there c o' e1 hx
 tups:=λ c xs q=>b.tups c xs (a.tups c xs q)
 frzs:=λ c ob xs q=>b.frzs c ob xs (a.frzs c ob xs q)
 tbls:=λ c ps q=>by
  obtain ⟨m1,e1⟩:=a.tbls c ps q
  obtain ⟨m2,e2⟩:=b.tbls c _ e1
  exact ⟨m1++m2,by rw [e2,Array.append_assoc]⟩
theorem Un.kept (k:∀ b u,h.get? b=some u->h'.get? b=some u):Un fs ex H H h h':=
 ⟨λ b ob q _ _ _=>k b ob q,λ b ob q _ _ _=>⟨ob.slots,k b ob q⟩,λ _ _ _ n _=>n,λ b ob q _=>⟨ob,k b ob q⟩,λ _ _ q=>q,λ _ _ _ q=>q,λ _ ps q=>⟨#[],by rw [q];simp⟩⟩
theorem Un.refl:Un fs ex H H h h:=Un.kept λ _ _ q=>q
theorem Un.laid (k:∀ b u,h.get? b=some u->h'.get? b=some u) (hp:h.objs.size<=a) (hn:H a=none):Un fs ex H (upd H a o) h h' where
 keep:=λ b u q _ _ _=>k b u q
 slot:=λ b u q _ _ _=>⟨u.slots,k b u q⟩
 free:=λ b u q n _=>by rw [upd_ne (Nat.ne_of_lt (Nat.lt_of_lt_of_le (Heap.lt_size q) hp))];exact n
 there:=λ b u q _=>⟨u,k b u q⟩
 tups:=λ b xs q=>by rw [upd_ne (ne_of_none q hn)];exact q
 frzs:=λ b u xs q=>by rw [upd_ne (ne_of_none q hn)];exact q
 tbls:=λ b ps q=>⟨#[],by rw [upd_ne (ne_of_none q hn),q];simp⟩
theorem Un.write (mu:Mut (H x)) (he:e=x\/H e=some (.own x)) (k:∀ b u,b ≠ e->h.get? b=some u->h'.get? b=some u) (heo:∃ u,h'.get? e=some u):Un fs ex H (upd H x o) h h':=by
 have hx:∀ b,H b=none->b ≠ x:=λ b n z=>by subst z;rw [n] at mu;exact mu
 have hb:∀ b,H b=none->b ≠ e:=λ b n z=>by
  subst z
  rcases he with r|r
  ·exact hx b n r
  ·rw [n] at r;cases r
 have hm:∀ b u,H b=some u->¬ Mut (some u)->b ≠ x:=λ b u q nm z=>by subst z;rw [q] at mu;exact nm mu
 refine ⟨λ b u q n _ _=>k b u (hb b n) q,λ b u q n _ _=>⟨u.slots,k b u (hb b n) q⟩,λ b u q n _=>by rw [upd_ne (hx b n)];exact n,λ b u q _=>?_,
  λ b xs q=>by rw [upd_ne (hm b _ q λ z=>z)];exact q,λ b u xs q=>by rw [upd_ne (hm b _ q λ z=>z)];exact q,λ b ps q=>⟨#[],by rw [upd_ne (hm b _ q λ z=>z),q];simp⟩⟩
 by_cases hbe:b=e
 ·subst hbe;exact heo
 ·exact ⟨u,k b u hbe q⟩
end
def trk (h:Heap) (H:Hp):List Addr:=(List.range h.objs.size).filter λ a=>(H a).isSome
def hidT (h:Heap) (H:Hp):Heap:=W.hideAll h (trk h H)
theorem hidT_size (h:Heap) (H:Hp):(hidT h H).objs.size=h.objs.size:=W.hideAll_size _ _
theorem hidT_get {h:Heap}{H:Hp}{b:Addr}{o:Obj}(e:h.get? b=some o) (n:H b=none):(hidT h H).get? b=some o:=
 W.hideAll_get _ e λ hm=>by
  have q:(H b).isSome=true:=(List.mem_filter.mp hm).2
  rw [n] at q;simp at q
theorem of_hidT {h:Heap}{H:Hp}{b:Addr}{o:Obj}(e:(hidT h H).get? b=some o):h.get? b=some o/\H b=none:=by
 have e':h.get? b=some o:=W.of_hideAll (trk h H) e
 refine ⟨e',?_⟩
 cases q:H b with
 | none=>rfl
 | some x=>
  have hm:b∈trk h H:=List.mem_filter.mpr ⟨List.mem_range.mpr (Heap.lt_size e'),by simp [q]⟩
  have z:(hidT h H).get? b=none:=W.hideAll_none (trk h H) hm
  rw [z] at e;cases e
def allNews (g h:Heap) (L:Addr):List (Addr × Obj):=(List.range h.objs.size).filterMap λ a=>if a=L\/(g.get? a).isSome=true then none else (h.get? a).map λ o=>(a,o)
def rest (g h:Heap) (L d:Addr):List (Addr × Obj):=(allNews g h L).filter λ p=>decide (p.1 ≠ d)
end L2
namespace L2
open PySem PySem.Spec PyProof.Rows
structure Mod (K:W.Frag) (mg:Str->Option Value) (base:Heap):Prop where
 kin:K.In base
 glob:base.Ns mainGlobals mg
 blt:∃ mb,base.Ns builtinsNs mb/\∀ x:Str,x ≠ "__name__" → mb x=bootBuiltins x
 nolimit:base.NoLimit
structure Cx where
 prog:Program
 w:World
 K:W.Frag
 mg:Str->Option Value
 base:Heap
 A:Around
 N:List Str
 s₀:Shared
 H₀:Hp
 env:Env
 outer:List Env
 stack:List Env
 ex:List Addr
 fn:Str->Bool
 calm:Bool
 pn:List (Addr × Obj)
 xe:Value->Shared->Prop
def frs (l:List Env):List Addr:=l.filterMap (·.frame)
abbrev Cx.fs (X:Cx):List Addr:=frs X.outer
def Vis (sc:Scope) (x:Str):Prop:=sc.names.lookup x=some .local\/sc.names.lookup x=some .cell\/sc.names.lookup x=some .free
def Loc (sc:Scope) (x:Str):Prop:=sc.names.lookup x=some .local\/sc.names.lookup x=some .cell
def Look (env:Env) (h:Heap) (m:Str->Option Value) (x:Str) (u:Value):Prop:=
 (env.kindOf x=some .local/\m x=some u)\/((env.kindOf x=some .cell\/env.kindOf x=some .free)/\∃ c,env.cells.lookup x=some c/\h.IsCell c (some u))
structure Cx.Ok (X:Cx):Prop where
 mod:Mod X.K X.mg X.base
 kind:X.env.scope.kind=.function
 glob:X.env.globals=mainGlobals
 blt:X.env.builtins=builtinsNs
 above:X.s₀.heap.objs.size<=X.env.locals
 inj:∀ x y c,X.env.cells.lookup x=some c->X.env.cells.lookup y=some c->x=y
 has:∀ x,(X.env.kindOf x=some .cell\/X.env.kindOf x=some .free)->∃ c,X.env.cells.lookup x=some c
 cab:∀ x c,X.fn x=true->X.env.cells.lookup x=some c->X.s₀.heap.objs.size<=c
 hd:X.calm=true->X.A.handled=none
 frames:X.A.frames=some X.stack
 stk:X.stack=X.outer\/(X.stack=X.env::X.outer/\X.env.frame=some X.env.locals)
 exf:∀ b∈X.ex,b ≠ X.env.locals/\∀ x c,X.env.cells.lookup x=some c->c ≠ b
 bs:∀ b o,X.base.get? b=some o->X.s₀.heap.get? b=some o/\X.H₀ b=none
 bsz:X.base.objs.size<=X.s₀.heap.objs.size
 noex:∀ b o,X.base.get? b=some o->b ∉ X.ex
 exfs:∀ b∈X.ex,b ∉ X.fs
 funs:X.s₀.heap.FunFrames X.base X.outer
 frf:∀ b∈X.fs,X.H₀ b=none
structure Inv (X:Cx) (pins:List (Addr × Obj)) (σ:List (Option V)) (H:Hp) (s:Shared):Prop where
 ok:X.Ok
 os:s.os=X.s₀.os
 bare:AllBare s.gens
 base:Un X.fs X.ex X.H₀ H X.s₀.heap s.heap
 loc:∃ m,s.heap.Ns X.env.locals m/\∀ (i:Nat) (x:Str) (v:V),X.N[i]? = some x->σ[i]? = some (some v)->Vis X.env.scope x->∃ u,RelV v u/\Look X.env s.heap m x u
 cell:∀ x c,X.env.cells.lookup x=some c->∃ v,s.heap.IsCell c v
 free:H X.env.locals=none
 freeC:∀ x c,X.env.cells.lookup x=some c->H c=none
 pin:∀ p∈X.pn++pins,s.heap.get? p.1=some p.2/\H p.1=none/\p.1 ≠ X.env.locals/\p.1 ∉ X.fs/\∀ v,p.2.data ≠ .cell v
 hok:HOk X.prog X.w H s.heap
 len:σ.length=X.N.length
section
variable {X:Cx}{pins:List (Addr × Obj)}{σ:List (Option V)}{H H':Hp}{s:Shared}{h':Heap}
theorem Cx.Ok.nofr (ok:X.Ok){b:Addr}{o:Obj}(e:X.base.get? b=some o):b ∉ X.fs:=λ hb=>by
 have:=(ok.funs.mem hb).1
 rw [e] at this;cases this
theorem Inv.bs (I:Inv X pins σ H s):∀ b o,X.base.get? b=some o->s.heap.get? b=some o/\H b=none:=λ b o e=>
 ⟨I.base.keep b o (I.ok.bs b o e).1 (I.ok.bs b o e).2 (I.ok.nofr e) (I.ok.noex b o e),I.base.free b o (I.ok.bs b o e).1 (I.ok.bs b o e).2 (I.ok.noex b o e)⟩
theorem Inv.bk (I:Inv X pins σ H s):∀ b o,X.base.get? b=some o->s.heap.get? b=some o:=λ b o e=>(I.bs b o e).1
theorem Inv.mod (I:Inv X pins σ H s):Mod X.K X.mg X.base:=I.ok.mod
theorem Inv.kIn (I:Inv X pins σ H s):X.K.In s.heap:=I.ok.mod.kin.keeps I.bk
theorem Inv.lt (I:Inv X pins σ H s):X.env.locals < s.heap.objs.size:=let ⟨_,hn,_⟩:=I.loc;hn.lt
theorem Inv.sz (I:Inv X pins σ H s):X.s₀.heap.objs.size<=s.heap.objs.size:=Nat.le_trans I.ok.above (Nat.le_of_lt I.lt)
theorem Inv.nofs (I:Inv X pins σ H s){a:Addr}(h:s.heap.objs.size<=a):a ∉ X.fs:=λ hb=>by
 obtain ⟨_,o,ho,_⟩:=I.ok.funs.mem hb
 exact absurd (Nat.lt_of_lt_of_le (Heap.lt_size ho) (Nat.le_trans I.sz h)) (Nat.lt_irrefl _)
theorem Inv.cne (I:Inv X pins σ H s):∀ x c,X.env.cells.lookup x=some c->c ≠ X.env.locals:=λ x c e z=>by
 obtain ⟨v,o,ho,hd⟩:=I.cell x c e
 obtain ⟨m,⟨o',es,ep,ho',hd',_⟩,_⟩:=I.loc
 rw [z,ho'] at ho;cases ho;rw [hd'] at hd;cases hd
theorem Inv.funs (I:Inv X pins σ H s):s.heap.FunFrames X.base X.outer:=by
 have all:∀ (l:List Env),(∀ b∈frs l,b∈X.fs)->X.s₀.heap.FunFrames X.base l->s.heap.FunFrames X.base l:=by
  intro l
  induction l with
  | nil=>intro _ _;trivial
  | cons env r ih=>
   intro hs hl
   obtain ⟨hk,⟨L,o,hf,hn,ho,hd⟩,hr⟩:=hl
   have hL:L∈X.fs:=hs L (by unfold frs;rw [List.filterMap_cons,hf];exact List.mem_cons_self)
   obtain ⟨sl,e⟩:=I.base.slot L o ho (I.ok.frf L hL) hL λ z=>I.ok.exfs L z hL
   exact ⟨hk,⟨L,_,hf,hn,e,hd⟩,ih (λ b hb=>hs b (by unfold frs;rw [List.filterMap_cons,hf];exact List.mem_cons_of_mem _ hb)) hr⟩
 exact all X.outer (λ _ hb=>hb) I.ok.funs
theorem Inv.stack (I:Inv X pins σ H s):s.heap.FunFrames X.base X.stack:=by
 rcases I.ok.stk with e|⟨e,hf⟩
 ·rw [e];exact I.funs
 ·rw [e]
  obtain ⟨m,hn,_⟩:=I.loc
  refine .cons (by rw [I.ok.kind];decide) hf hn ?_ I.funs
  exact Heap.get?_none_of_le (Nat.le_trans I.ok.bsz I.ok.above)
theorem Inv.stkSub (I:Inv X pins σ H s):∀ b∈frs X.stack,b∈X.env.locals::X.fs:=λ b hb=>by
 rcases I.ok.stk with e|⟨e,hf⟩
 ·rw [e] at hb;exact List.mem_cons_of_mem _ hb
 ·rw [e] at hb
  unfold frs at hb
  rw [List.filterMap_cons,hf] at hb
  exact hb
theorem Inv.stkFree (I:Inv X pins σ H s):∀ b∈frs X.stack,H b=none:=λ b hb=>by
 rcases List.mem_cons.mp (I.stkSub b hb) with e|hb
 ·rw [e];exact I.free
 ·obtain ⟨_,o,ho,_⟩:=I.ok.funs.mem hb
  exact I.base.free b o ho (I.ok.frf b hb) λ z=>I.ok.exfs b z hb
theorem Inv.step {g':Array GenState}{t':Nat}{d':Drawn}{ch:List Addr}(I:Inv X pins σ H s)
  (hch:∀ b∈ch,(b∈X.ex\/X.s₀.heap.objs.size<=b)/\b ≠ X.env.locals/\(∀ x c,X.env.cells.lookup x=some c->c ≠ b)/\∀ p∈X.pn++pins,p.1 ≠ b)
  (keep:∀ b o,b ≠ X.env.locals->b ∉ X.fs->b ∉ ch->s.heap.get? b=some o->H b=none->h'.get? b=some o)
  (slot:∀ b o,b ≠ X.env.locals->b∈X.fs->b ∉ ch->s.heap.get? b=some o->H b=none->∃ sl,h'.get? b=some { o with slots:=sl }) (free:∀ b o,b ∉ ch->s.heap.get? b=some o->H b=none->H' b=none)
  (there:∀ b o,b ∉ ch->s.heap.get? b=some o->∃ o',h'.get? b=some o')
  (tups:∀ b xs,H b=some (.tup xs)->H' b=some (.tup xs)) (frzs:∀ b o u,H b=some (.frz o u)->H' b=some (.frz o u)) (tbls:∀ b ps,H b=some (.tbl ps)->∃ more,H' b=some (.tbl (ps++more)))
  (ns:∀ m,s.heap.Ns X.env.locals m->h'.Ns X.env.locals m) (hok:HOk X.prog X.w H' h') (hg:AllBare g') :
  Inv X pins σ H' { s with heap:=h',gens:=g',drawn:=d',toks:=t' }:=by
 have neL:∀ b o,X.s₀.heap.get? b=some o->b ≠ X.env.locals:=λ b o e=>Nat.ne_of_lt (Nat.lt_of_lt_of_le (Heap.lt_size e) I.ok.above)
 have neC:∀ b o,X.s₀.heap.get? b=some o->b ∉ X.ex->b ∉ ch:=λ b o e hx hb=>by
  rcases (hch b hb).1 with z|z
  ·exact hx z
  ·exact absurd (Nat.lt_of_lt_of_le (Heap.lt_size e) z) (Nat.lt_irrefl _)
 have cellK:∀ x c,X.env.cells.lookup x=some c->∀ v,s.heap.IsCell c v->h'.IsCell c v:=λ x c e v ⟨o,ho,hd⟩=>by
  have nch:c ∉ ch:=λ z=>(hch c z).2.2.1 x c e rfl
  by_cases hc:c∈X.fs
  ·obtain ⟨sl,q⟩:=slot c o (I.cne x c e) hc nch ho (I.freeC x c e)
   exact ⟨_,q,hd⟩
  ·exact ⟨o,keep c o (I.cne x c e) hc nch ho (I.freeC x c e),hd⟩
 refine ⟨I.ok,I.os,hg,⟨λ b o e n hb hx=>?_,λ b o e n hb hx=>?_,λ b o e n hx=>?_,λ b o e hx=>?_,λ b xs e=>tups b xs (I.base.tups b xs e),λ b o xs e=>frzs b o xs (I.base.frzs b o xs e),λ b ps e=>?_⟩,?_,λ x c e=>?_,?_,λ x c e=>?_,λ p hp=>?_,hok,I.len⟩
 ·exact keep b o (neL b o e) hb (neC b o e hx) (I.base.keep b o e n hb hx) (I.base.free b o e n hx)
 ·obtain ⟨sl,e1⟩:=I.base.slot b o e n hb hx
  obtain ⟨sl',e2⟩:=slot b _ (neL b o e) hb (neC b o e hx) e1 (I.base.free b o e n hx)
  exact ⟨sl',e2⟩
 ·obtain ⟨o',e1⟩:=I.base.there b o e hx
  exact free b o' (neC b o e hx) e1 (I.base.free b o e n hx)
 ·obtain ⟨o',e1⟩:=I.base.there b o e hx
  exact there b o' (neC b o e hx) e1
 ·obtain ⟨m1,e1⟩:=I.base.tbls b ps e
  obtain ⟨m2,e2⟩:=tbls b _ e1
  exact ⟨m1++m2,by rw [e2,Array.append_assoc]⟩
 ·obtain ⟨m,hn,hl⟩:=I.loc
  refine ⟨m,ns m hn,λ i x v e1 e2 e3=>?_⟩
  obtain ⟨u,r,l⟩:=hl i x v e1 e2 e3
  refine ⟨u,r,?_⟩
  rcases l with l|⟨k,c,e,z⟩
  ·exact .inl l
  ·exact .inr ⟨k,c,e,cellK x c e _ z⟩
 ·obtain ⟨v,z⟩:=I.cell x c e
  exact ⟨v,cellK x c e v z⟩
 ·obtain ⟨m,⟨o,_,_,ho,_⟩,_⟩:=I.loc
  exact free _ o (λ z=>(hch _ z).2.1 rfl) ho I.free
 ·obtain ⟨v,o,ho,hd⟩:=I.cell x c e
  exact free c o (λ z=>(hch c z).2.2.1 x c e rfl) ho (I.freeC x c e)
 ·obtain ⟨e,n,ne,nf,d⟩:=I.pin p hp
  have nch:p.1 ∉ ch:=λ z=>(hch p.1 z).2.2.2 p hp rfl
  exact ⟨keep p.1 p.2 ne nf nch e n,free p.1 p.2 nch e n,ne,nf,d⟩
theorem Inv.un {t':Nat}(I:Inv X pins σ H s) (u:Un X.fs [] H H' s.heap h') (hok:HOk X.prog X.w H' h'):Inv X pins σ H' { s with heap:=h',toks:=t' }:=by
 obtain ⟨m,⟨o,es,ep,ho,r⟩,_⟩:=id I.loc
 obtain ⟨sl,hL⟩:=u.any ho I.free (by simp)
 exact I.step (g':=s.gens) (d':=s.drawn) (ch:=[]) (λ _ z=>nomatch z) (λ b o _ hb _ e n=>u.keep b o e n hb (by simp)) (λ b o _ hb _ e n=>u.slot b o e n hb (by simp)) (λ b o _ e n=>u.free b o e n (by simp)) (λ b o _ e=>u.there b o e (by simp)) u.tups u.frzs u.tbls (λ m' hm=>by
  obtain ⟨o',es',ep',ho',r'⟩:=hm
  rw [ho] at ho';cases ho'
  exact ⟨_,es',ep',hL,r'⟩) hok I.bare
theorem Inv.call {g':Array GenState}{t':Nat}{d':Drawn}{ch:List Addr}(I:Inv X pins σ H s) (u:Un (frs X.stack) ch H H' s.heap h') (hok:HOk X.prog X.w H' h') (hg:AllBare g')
  (hch:∀ b∈ch,(b∈X.ex\/X.s₀.heap.objs.size<=b)/\b ≠ X.env.locals/\(∀ x c,X.env.cells.lookup x=some c->c ≠ b)/\∀ p∈X.pn++pins,p.1 ≠ b) :
  Inv X pins σ H' { s with heap:=h',gens:=g',drawn:=d',toks:=t' }:=by
 obtain ⟨m,⟨o,es,ep,ho,r⟩,_⟩:=id I.loc
 obtain ⟨sl,hL⟩:=u.any ho I.free λ z=>(hch _ z).2.1 rfl
 exact I.step (ch:=ch) hch (λ b o hL hb hc e n=>u.keep b o e n (λ z=>(List.mem_cons.mp (I.stkSub b z)).elim hL hb) hc) (λ b o _ _ hc e n=>u.any e n hc) (λ b o hc e n=>u.free b o e n hc) (λ b o hc e=>u.there b o e hc) u.tups u.frzs u.tbls (λ m' hm=>by
  obtain ⟨o',es',ep',ho',r'⟩:=hm
  rw [ho] at ho';cases ho'
  exact ⟨_,es',ep',hL,r'⟩) hok hg
theorem Inv.turned {t':Nat}{it:Addr}(I:Inv X pins σ H s) (k:∀ b o,b ≠ it->s.heap.get? b=some o->h'.get? b=some o) (hn:H it=none) (hL:it ≠ X.env.locals)
  (h1:it∈X.ex\/X.s₀.heap.objs.size<=it) (h2:∀ x c,X.env.cells.lookup x=some c->c ≠ it) (h3:∀ p∈X.pn++pins,p.1 ≠ it):Inv X pins σ H { s with heap:=h',toks:=t' }:=by
 have nit:∀ b u,H b=some u->b ≠ it:=λ b u e z=>by rw [z,hn] at e;cases e
 refine I.step (g':=s.gens) (d':=s.drawn) (ch:=[it]) (λ b hb=>?_) (λ b o _ _ hc e _=>k b o (λ z=>hc (by simp [z])) e) (λ b o _ _ hc e _=>⟨o.slots,k b o (λ z=>hc (by simp [z])) e⟩) (λ _ _ _ _ n=>n)
  (λ b o hc e=>⟨o,k b o (λ z=>hc (by simp [z])) e⟩) (λ _ _ e=>e) (λ _ _ _ e=>e) (λ b ps e=>⟨#[],by rw [e];simp⟩) (λ m hm=>?_) (λ b u e=>?_) I.bare
 ·have e:b=it:=by simpa using hb
  subst e
  exact ⟨h1,hL,h2,h3⟩
 ·obtain ⟨o,es,ep,ho,r⟩:=hm
  exact ⟨o,es,ep,k _ o (Ne.symm hL) ho,r⟩
 ·refine (I.hok b u e).stay (λ c v hc q=>k c v ?_ q) (λ _ q=>q) λ _ _ q=>q
  rcases hc with z|z
  ·rw [z];exact nit b u e
  ·exact nit c _ z
theorem Inv.tok (I:Inv X pins σ H s) (t:Nat):Inv X pins σ H { s with toks:=t }:=I.un (h':=s.heap) (t':=t) Un.refl I.hok
theorem Inv.kept {t':Nat}(I:Inv X pins σ H s) (k:∀ b u,s.heap.get? b=some u->h'.get? b=some u):Inv X pins σ H { s with heap:=h',toks:=t' }:=I.un (Un.kept k) (I.hok.kept k)
theorem Inv.laid {a:Addr}{o:HO}{t':Nat}(I:Inv X pins σ H s) (k:∀ b u,s.heap.get? b=some u->h'.get? b=some u) (hp:s.heap.objs.size<=a) (new:ObjOk X.prog X.w (upd H a o) h' a o) :
  Inv X pins σ (upd H a o) { s with heap:=h',toks:=t' }:=I.un (Un.laid k hp (I.hok.fresh hp)) (I.hok.laid k hp new)
theorem Inv.write {x e:Addr}{o:HO}{t':Nat}(I:Inv X pins σ H s) (mu:Mut (H x)) (he:e=x\/H e=some (.own x)) (k:∀ b u,b ≠ e->s.heap.get? b=some u->h'.get? b=some u) (heo:∃ u,h'.get? e=some u)
  (new:ObjOk X.prog X.w (upd H x o) h' x o):Inv X pins σ (upd H x o) { s with heap:=h',toks:=t' }:=I.un (Un.write mu he k heo) (I.hok.write mu he k heo new)
theorem Inv.weak {σ':List (Option V)}(I:Inv X pins σ H s) (hl:σ'.length=σ.length) (w:∀ (i:Nat) v,σ'[i]? = some (some v)->σ[i]? = some (some v)):Inv X pins σ' H s:=
 ⟨I.ok,I.os,I.bare,I.base,let ⟨m,hn,hl'⟩:=I.loc;⟨m,hn,λ i x v e1 e2 e3=>hl' i x v e1 (w i v e2) e3⟩,I.cell,I.free,I.freeC,I.pin,I.hok,hl.trans I.len⟩
theorem Inv.pins_of {pins':List (Addr × Obj)}(I:Inv X pins σ H s) (h:∀ p∈pins',s.heap.get? p.1=some p.2/\H p.1=none/\p.1 ≠ X.env.locals/\p.1 ∉ X.fs/\∀ v,p.2.data ≠ .cell v):Inv X pins' σ H s:=
 ⟨I.ok,I.os,I.bare,I.base,I.loc,I.cell,I.free,I.freeC,λ p hp=>(List.mem_append.mp hp).elim (λ z=>I.pin p (List.mem_append_left _ z)) (h p),I.hok,I.len⟩
theorem nodup_ix {N:List Str}(hN:N.Nodup){i j:Nat}{x:Str}(a:N[i]? = some x) (b:N[j]? = some x):i=j:=by
 obtain ⟨h1,e1⟩:=List.getElem?_eq_some_iff.mp a
 obtain ⟨h2,e2⟩:=List.getElem?_eq_some_iff.mp b
 exact (List.getElem_inj hN).mp (e1.trans e2.symm)
theorem store_ok2 {M:Model}{A:Around}{E:Value->Shared->Prop}{i:Nat}{x:Str}{v:V}{u:Value}{Q:Unit->Shared->Prop}(I:Inv X pins σ H s) (hN:X.N.Nodup) (hi:X.N[i]? = some x) (hx:Loc X.env.scope x) (r:RelV v u)
  (h:∀ s',Inv X pins (σ.set i (some v)) H s'->(∃ a,Heap.SameBut a s.heap s'.heap/\(a=X.env.locals\/X.env.cells.lookup x=some a))->Q () s') (hf:X.fn x=true\/X.env.scope.names.lookup x=some .local:=by first|exact .inl rfl|exact .inr rfl|assumption):wpAny M A (storeName X.env x u) Q E s:=by
 obtain ⟨m,hn,hl⟩:=id I.loc
 have hcls:(X.env.scope.kind == .class || (X.env.scope.kind == .module && X.env.locals != X.env.globals))=false:=by rw [I.ok.kind];rfl
 have hiσ:i < σ.length:=by rw [I.len];exact (List.getElem?_eq_some_iff.mp hi).1
 have cne:=I.cne
 have tracked:∀ {a:Addr} {h':Heap},(∃ o,s.heap.get? a=some o/\H a=none)->Heap.SameBut a s.heap h'->HOk X.prog X.w H h':=λ {a h'} ha hs b ob e=>by
  obtain ⟨_,_,hfree⟩:=ha
  refine (I.hok b ob e).stay (λ c w' hc q=>(hs.2 c ?_).trans q) (λ _ q=>q) λ _ _ q=>q
  rintro rfl
  rcases hc with rfl|hc
  ·rw [hfree] at e;cases e
  ·rw [hfree] at hc;cases hc
 rcases hx with hk|hk
 ·refine wpAny_storeName_local hk hn (λ h' hn' hs=>?_) hcls
  obtain ⟨oL,_,_,hoL,_⟩:=id hn
  refine h _ ⟨I.ok,I.os,I.bare,⟨λ b o e n hb hx=>?_,λ b o e n hb hx=>?_,I.base.free,λ b o e hx=>?_,I.base.tups,I.base.frzs,I.base.tbls⟩,⟨_,hn',λ j y v' e1 e2 e3=>?_⟩,λ y c e=>?_,I.free,I.freeC,λ p hp=>?_,tracked ⟨oL,hoL,I.free⟩ hs,by simpa using I.len⟩ ⟨_,hs,.inl rfl⟩
  ·exact (hs.2 b (Nat.ne_of_lt (Nat.lt_of_lt_of_le (Heap.lt_size e) I.ok.above))).trans (I.base.keep b o e n hb hx)
  ·obtain ⟨sl,e1⟩:=I.base.slot b o e n hb hx
   exact ⟨sl,(hs.2 b (Nat.ne_of_lt (Nat.lt_of_lt_of_le (Heap.lt_size e) I.ok.above))).trans e1⟩
  ·obtain ⟨o',e1⟩:=I.base.there b o e hx
   exact ⟨o',(hs.2 b (Nat.ne_of_lt (Nat.lt_of_lt_of_le (Heap.lt_size e) I.ok.above))).trans e1⟩
  ·by_cases hj:j=i
   ·subst hj
    rw [hi] at e1;cases e1
    rw [List.getElem?_set_self hiσ] at e2
    cases e2
    exact ⟨u,r,.inl ⟨hk,by simp⟩⟩
   ·rw [List.getElem?_set_ne (Ne.symm hj)] at e2
    obtain ⟨u',r',q⟩:=hl j y v' e1 e2 e3
    refine ⟨u',r',?_⟩
    rcases q with ⟨k,e⟩|⟨k,c,e,z⟩
    ·refine .inl ⟨k,?_⟩
     have:y ≠ x:=λ e=>hj (nodup_ix hN e1 (e ▸ hi))
     simp [this,e]
    ·exact .inr ⟨k,c,e,z.sameBut hs (cne y c e)⟩
  ·obtain ⟨w',z⟩:=I.cell y c e
   exact ⟨w',z.sameBut hs (cne y c e)⟩
  ·obtain ⟨e,n,ne,nf,d⟩:=I.pin p hp
   exact ⟨(hs.2 p.1 ne).trans e,n,ne,nf,d⟩
 ·have hfn:X.fn x=true:=by
   rcases hf with z|z
   ·exact z
   ·rw [z] at hk;cases hk
  obtain ⟨c,hc⟩:=I.ok.has x (.inl hk)
  obtain ⟨w',z⟩:=I.cell x c hc
  refine wpAny_storeName_cell I.ok.kind hk hc z (λ h' hc' hs=>?_)
  obtain ⟨oc,hoc,hocd⟩:=id z
  refine h { s with heap:=h' } ⟨I.ok,I.os,I.bare,⟨λ b o e n hb hx=>?_,λ b o e n hb hx=>?_,I.base.free,λ b o e hx=>?_,I.base.tups,I.base.frzs,I.base.tbls⟩,⟨m,hn.sameBut hs (Ne.symm (cne x c hc)),λ j y v' e1 e2 e3=>?_⟩,λ y c' e=>?_,I.free,I.freeC,λ p hp=>?_,tracked ⟨oc,hoc,I.freeC x c hc⟩ hs,by simpa using I.len⟩ ⟨c,hs,.inr hc⟩
  ·exact (hs.2 b (Nat.ne_of_lt (Nat.lt_of_lt_of_le (Heap.lt_size e) (I.ok.cab x c hfn hc)))).trans (I.base.keep b o e n hb hx)
  ·obtain ⟨sl,e1⟩:=I.base.slot b o e n hb hx
   exact ⟨sl,(hs.2 b (Nat.ne_of_lt (Nat.lt_of_lt_of_le (Heap.lt_size e) (I.ok.cab x c hfn hc)))).trans e1⟩
  ·obtain ⟨o',e1⟩:=I.base.there b o e hx
   exact ⟨o',(hs.2 b (Nat.ne_of_lt (Nat.lt_of_lt_of_le (Heap.lt_size e) (I.ok.cab x c hfn hc)))).trans e1⟩
  ·by_cases hj:j=i
   ·subst hj
    rw [hi] at e1;cases e1
    rw [List.getElem?_set_self hiσ] at e2
    cases e2
    exact ⟨u,r,.inr ⟨.inl hk,c,hc,hc'⟩⟩
   ·rw [List.getElem?_set_ne (Ne.symm hj)] at e2
    obtain ⟨u',r',q⟩:=hl j y v' e1 e2 e3
    refine ⟨u',r',?_⟩
    rcases q with q|⟨k,c',e,z'⟩
    ·exact .inl q
    ·refine .inr ⟨k,c',e,z'.sameBut hs ?_⟩
     rintro rfl
     exact hj (nodup_ix hN e1 (I.ok.inj _ _ _ e hc ▸ hi))
  ·by_cases hcc:c'=c
   ·subst hcc;exact ⟨_,hc'⟩
   ·obtain ⟨w2,z2⟩:=I.cell y c' e
    exact ⟨w2,z2.sameBut hs hcc⟩
  ·obtain ⟨e,n,ne,nf,d⟩:=I.pin p hp
   refine ⟨(hs.2 p.1 ?_).trans e,n,ne,nf,d⟩
   intro q
   rw [q,hoc] at e
   have q':oc=p.2:=Option.some.inj e
   exact d w' (by rw [←q'];exact hocd)
theorem store_ok {M:Model}{A:Around}{E:Value->Shared->Prop}{i:Nat}{x:Str}{v:V}{u:Value}{Q:Unit->Shared->Prop}(I:Inv X pins σ H s) (hN:X.N.Nodup) (hi:X.N[i]? = some x) (hx:Loc X.env.scope x) (r:RelV v u)
  (h:∀ s',Inv X pins (σ.set i (some v)) H s'->Q () s') (hf:X.fn x=true\/X.env.scope.names.lookup x=some .local:=by first|exact .inl rfl|exact .inr rfl|assumption):wpAny M A (storeName X.env x u) Q E s:=
 store_ok2 I hN hi hx r (λ s' I' _=>h s' I') hf
theorem Inv.call' {s':Shared}{ch:List Addr}(I:Inv X pins σ H s) (ho:s'.os=s.os) (u:Un (frs X.stack) ch H H' s.heap s'.heap) (hok:HOk X.prog X.w H' s'.heap) (hg:AllBare s'.gens)
  (hch:∀ b∈ch,(b∈X.ex\/X.s₀.heap.objs.size<=b)/\b ≠ X.env.locals/\(∀ x c,X.env.cells.lookup x=some c->c ≠ b)/\∀ p∈X.pn++pins,p.1 ≠ b):Inv X pins σ H' s':=by
 obtain ⟨h',g',d',t',o'⟩:=s'
 have e:o'=s.os:=ho
 subst e
 exact I.call (g':=g') (t':=t') (d':=d') u hok hg hch
end
abbrev XK:=Value->Option Addr->Hp->Prop
abbrev St:=List (Option V)
abbrev VK:=V->Hp->Prop
abbrev TE:=St->Hp->VK->Prop
abbrev TT:=St->Hp->(Bool->Hp->Prop)->Prop
abbrev TA:=St->Hp->(List V->Hp->Prop)->Prop
structure Ends where
 nx:St->Hp->Prop
 rt:VK
 bk:St->Hp->Prop:=λ _ _=>False
 ct:St->Hp->Prop:=λ _ _=>False
abbrev TS:=Ends->St->Hp->Prop
def EP (X:Cx) (pins:List (Addr × Obj)) (σ:St) (Q:VK) (u:Value) (s':Shared):Prop:=∃ v H',Inv X pins σ H' s'/\RelV v u/\Q v H'
def TP (X:Cx) (pins:List (Addr × Obj)) (σ:St) (Q:Bool->Hp->Prop) (b:Bool) (s':Shared):Prop:=∃ H',Inv X pins σ H' s'/\Q b H'
def AP (X:Cx) (pins:List (Addr × Obj)) (σ:St) (Q:List V->Hp->Prop) (us:List Value) (s':Shared):Prop:=∃ vs H',Inv X pins σ H' s'/\Vals vs us/\Q vs H'
def SP (X:Cx) (pins:List (Addr × Obj)) (D:Ends) (f:Flow) (s':Shared):Prop:=
 match f with
 | .next=>∃ σ' H',Inv X pins σ' H' s'/\D.nx σ' H'
 | .brk=>∃ σ' H',Inv X pins σ' H' s'/\D.bk σ' H'
 | .cont=>∃ σ' H',Inv X pins σ' H' s'/\D.ct σ' H'
 | .ret u=>∃ v σ' H',Inv X pins σ' H' s'/\RelV v u/\D.rt v H'
def PE (X:Cx) (e:Expr) (t:TE):Prop:=
 ∀ (pins:List (Addr × Obj)) (s:Shared) (σ:St) (H:Hp) (Q:VK),Inv X pins σ H s->t σ H Q->wpAny (model X.prog X.w) X.A (eval e X.env) (EP X pins σ Q) X.xe s
def PT (X:Cx) (e:Expr) (t:TT):Prop:=
 ∀ (pins:List (Addr × Obj)) (s:Shared) (σ:St) (H:Hp) (Q:Bool->Hp->Prop),Inv X pins σ H s->t σ H Q->wpAny (model X.prog X.w) X.A (isTrue e X.env (eval e X.env)) (TP X pins σ Q) X.xe s
def PW (X:Cx) (e:Expr) (t:TT):Prop:=
 ∀ (whole:Sem Value) (pins:List (Addr × Obj)) (s:Shared) (σ:St) (H:Hp) (Q:Bool->Hp->Prop),Inv X pins σ H s->t σ H Q->wpAny (model X.prog X.w) X.A (isTrue e X.env whole) (TP X pins σ Q) X.xe s
theorem PW.pt {X:Cx}{e:Expr}{t:TT}(h:PW X e t):PT X e t:=h _
def PA (X:Cx) (es:List Expr) (t:TA):Prop:=
 ∀ (pos:Pos) (pins:List (Addr × Obj)) (s:Shared) (σ:St) (H:Hp) (Q:List V->Hp->Prop),Inv X pins σ H s->t σ H Q->wpAny (model X.prog X.w) X.A (spliced (backTo pos (starEach es X.env))) (AP X pins σ Q) X.xe s
def PS (X:Cx) (st:Stmt) (t:TS):Prop:=
 ∀ (pins:List (Addr × Obj)) (s:Shared) (σ:St) (H:Hp) (D:Ends),Inv X pins σ H s->t D σ H->wpAny (model X.prog X.w) X.A (exec st X.env) (SP X pins D) X.xe s
def PSs (X:Cx) (st:List Stmt) (t:TS):Prop:=
 ∀ (pins:List (Addr × Obj)) (s:Shared) (σ:St) (H:Hp) (D:Ends),Inv X pins σ H s->t D σ H->wpAny (model X.prog X.w) X.A (execs st X.env) (SP X pins D) X.xe s
theorem thn {α:Type}{t:Sem α}{Q Q':α->Shared->Prop}{M:Model}{A:Around}{E:Value->Shared->Prop}{s:Shared}(h:wpAny M A t Q E s) (hQ:∀ a s,Q a s->Q' a s):wpAny M A t Q' E s:=wpAny_mono h hQ λ _ _ x=>x
end L2
namespace L2
open PySem PySem.Spec PyProof.Rows
section
variable {X:Cx}
def tVar (i:Nat):TE:=λ σ H Q=>∃ v,σ[i]? = some (some v)/\Q v H
def tC (v:V):TE:=λ _ H Q=>Q v H
theorem pe_var {i:Nat}{x:Str}{pos:Pos}(hN:X.N[i]? = some x) (hv:Vis X.env.scope x) (hd:(x == ("__debug__":Str))=false:=by decide) (hcd:(x == ("__classdict__":Str))=false:=by decide):PE X (.Name x pos) (tVar i):=by
 intro pins s σ H Q I h
 obtain ⟨v,e,h⟩:=h
 obtain ⟨m,hn,hl⟩:=I.loc
 obtain ⟨u,r,l⟩:=hl i x v hN e hv
 have fin:EP X pins σ Q u s:=⟨v,H,I,r,h⟩
 rcases l with ⟨hk,hm⟩|⟨hk,c,hc,hcell⟩
 ·exact wpAny_Name (wpAny_loadName_local I.ok.kind hk hn hm fin) hd
 ·rcases hk with hk|hk
  ·exact wpAny_Name (wpAny_loadName_cell I.ok.kind hk hc hcell fin) hd
  ·exact wpAny_Name (wpAny_loadName_free I.ok.kind hk hc hcell fin hcd) hd
theorem pe_int {i j pos}:PE X (.Constant (.int i) j pos) (tC (.int i)):=λ _ _ _ H _ I h=>wpAny_Constant_int ⟨.int i,H,I.tok _,⟨_,rfl⟩,h⟩
theorem pe_bl {b j pos}:PE X (.Constant (.bool b) j pos) (tC (.bl b)):=λ _ _ _ H _ I h=>Constant_bool ⟨.bl b,H,I,rfl,h⟩
theorem pe_non {j pos}:PE X (.Constant .none j pos) (tC .non):=λ _ _ _ H _ I h=>Constant_none ⟨.non,H,I,rfl,h⟩
theorem pe_str {x j pos}:PE X (.Constant (.str x) j pos) (tC (.str x)):=λ _ _ _ H _ I h=>Calls.Constant_str ⟨.str x,H,I.tok _,⟨_,rfl⟩,h⟩
def Gl (X:Cx) (x:Str):Prop:=X.env.kindOf x=some .globalImplicit
theorem ld_glob {E:Value->Shared->Prop}{pins:List (Addr × Obj)}{s:Shared}{σ:St}{H:Hp}{x:Str}{u:Value}{pos:Pos}{Q:Value->Shared->Prop}(I:Inv X pins σ H s) (hg:Gl X x) (hm:X.mg x=some u) (h:Q u s)
  (hd:(x == ("__debug__":Str))=false:=by decide):wpAny (model X.prog X.w) X.A (eval (.Name x pos) X.env) Q E s:=
 Calls.Name_function_global I.ok.kind hg (Calls.loadGlobal_global (by rw [I.ok.glob];exact I.mod.glob.keeps I.bk) hm h) hd
theorem ld_blt {E:Value->Shared->Prop}{pins:List (Addr × Obj)}{s:Shared}{σ:St}{H:Hp}{x:Str}{u:Value}{pos:Pos}{Q:Value->Shared->Prop}(I:Inv X pins σ H s) (hg:Gl X x) (hm:X.mg x=none) (hv:bootBuiltins x=some u) (h:Q u s)
  (hn:x ≠ "__name__":=by decide) (hd:(x == ("__debug__":Str))=false:=by decide):wpAny (model X.prog X.w) X.A (eval (.Name x pos) X.env) Q E s:=by
 obtain ⟨mb,h1,h2⟩:=I.mod.blt
 exact Calls.Name_function_global I.ok.kind hg (Calls.loadGlobal_builtin (by rw [I.ok.glob];exact I.mod.glob.keeps I.bk) hm (by rw [I.ok.blt];exact h1.keeps I.bk) ((h2 x hn).trans hv) h) hd
theorem pe_glob {x:Str}{v:V}{u:Value}{pos:Pos}(hg:Gl X x) (hm:X.mg x=some u) (r:RelV v u) (hd:(x == ("__debug__":Str))=false:=by decide):PE X (.Name x pos) (tC v):=
 λ _ _ _ H _ I h=>ld_glob I hg hm ⟨v,H,I,r,h⟩ hd
theorem pe_bltn {x:Str}{v:V}{u:Value}{pos:Pos}(hg:Gl X x) (hm:X.mg x=none) (hv:bootBuiltins x=some u) (r:RelV v u) (hn:x ≠ "__name__":=by decide) (hd:(x == ("__debug__":Str))=false:=by decide):PE X (.Name x pos) (tC v):=
 λ _ _ _ H _ I h=>ld_blt I hg hm hv ⟨v,H,I,r,h⟩ hn hd
variable {a b:Expr}{ta tb:TE}{pos:Pos}
def tB (t:TE):TT:=λ σ H Q=>t σ H λ x H1=>∃ c,x=.bl c/\Q c H1
theorem pt_val {e:Expr}{t:TE}(h:PE X e t) (he:∀ whole,isTrue e X.env whole=(do let v ←whole;standAt e.pos;holding [v] (truthy v)):=by intro _;rfl):PT X e (tB t):=by
 intro pins s σ H Q I hw
 refine isTrue_plain (thn (h pins s σ H _ I hw) λ v s1 ⟨x,H1,I1,r1,q1⟩=>?_) (he _)
 obtain ⟨d,rfl,q⟩:=q1
 cases r1
 exact wpAny_truthy_bool ⟨H1,I1,q⟩
variable {tA tB':TT}{rest:List Expr}
def tOr (t u:TT):TT:=λ σ H Q=>t σ H λ c H1=>if c=true then Q true H1 else u σ H1 Q
def tNot (t:TT):TT:=λ σ H Q=>t σ H λ c H1=>Q (!c) H1
theorem pw_or1 (ha:PT X a tA):PW X (.BoolOp .Or [a] pos) tA:=by
 intro wh pins s σ H Q I h
 refine isTrue_or (thn (ha pins s σ H Q I h) λ c s1 e=>?_)
 cases c with
 | false=>exact isTrue_or_nil e
 | true=>exact e
theorem pw_or (ha:PT X a tA) (hb:PW X (.BoolOp .Or (b::rest) pos) tB'):PW X (.BoolOp .Or (a::b::rest) pos) (tOr tA tB'):=by
 intro wh pins s σ H Q I h
 refine isTrue_or (thn (ha pins s σ H _ I h) λ c s1 ⟨H1,I1,q1⟩=>?_)
 cases c with
 | true=>exact ⟨H1,I1,q1⟩
 | false=>exact hb wh pins s1 σ H1 Q I1 q1
theorem pt_not (ha:PT X a tA):PT X (.UnaryOp .Not a pos) (tNot tA):=by
 intro pins s σ H Q I h
 exact isTrue_not (ha pins s σ H (λ c H1=>Q (!c) H1) I h)
def tAndV (ta tb:TE):TE:=λ σ H Q=>ta σ H λ x H1=>∃ c,x=.bl c/\if c=true then tb σ H1 Q else Q (.bl false) H1
def tNotV (ta:TE):TE:=λ σ H Q=>ta σ H λ x H1=>∃ c,x=.bl c/\Q (.bl (!c)) H1
theorem pe_one {op}{t:TE}(h:PE X a t):PE X (.BoolOp op [a] pos) t:=λ pins s σ H Q I hw=>BoolOp_one (h pins s σ H Q I hw)
theorem pe_and (ha:PE X a ta) (hb:PE X (.BoolOp .And (b::rest) pos) tb):PE X (.BoolOp .And (a::b::rest) pos) (tAndV ta tb):=by
 intro pins s σ H Q I h
 refine BoolOp_and (thn (ha pins s σ H _ I h) λ v s1 ⟨x,H1,I1,r1,q1⟩=>?_)
 obtain ⟨c,rfl,q1⟩:=q1
 cases r1
 refine wpAny_truthy_bool ?_
 cases c with
 | true=>exact hb pins s1 σ H1 Q I1 q1
 | false=>exact ⟨.bl false,H1,I1,rfl,q1⟩
theorem pe_not (ha:PE X a ta):PE X (.UnaryOp .Not a pos) (tNotV ta):=by
 intro pins s σ H Q I h
 refine UnaryOp_ (thn (ha pins s σ H _ I h) λ v s1 ⟨x,H1,I1,r1,q1⟩=>?_)
 obtain ⟨c,rfl,q1⟩:=q1
 cases r1
 exact not_of (wpAny_truthy_bool ⟨.bl (!c),H1,I1,rfl,q1⟩)
def tIf (t:TT) (ta tb:TE):TE:=λ σ H Q=>t σ H λ c H1=>if c=true then ta σ H1 Q else tb σ H1 Q
theorem pe_ifExp {c:Expr}(hc:PT X c tA) (ha:PE X a ta) (hb:PE X b tb):PE X (.IfExp c a b pos) (tIf tA ta tb):=by
 intro pins s σ H Q I h
 refine wpAny_IfExp (thn (hc pins s σ H _ I h) λ d s1 ⟨H1,I1,q1⟩=>?_)
 cases d with
 | true=>exact ha pins s1 σ H1 Q I1 q1
 | false=>exact hb pins s1 σ H1 Q I1 q1
end
end L2
namespace L2
open PySem PySem.Spec PyProof.Rows
def SqL (K:W.Frag) (H:Hp) (a:Addr) (xs:List V):Prop:=
 Rd H a (.lst xs) \/
  ∃ (o:Obj) (its:Array Value) (n:Nat),K.lookup a=some o/\o.cls=.type "list" /\ o.dict=none/\o.data=.seq its n/\its.size<=sizeLine/\Vals xs its.toList
def SqT (K:W.Frag) (H:Hp) (a:Addr) (xs:List V):Prop:=
 Rd H a (.tup xs) \/
  ∃ (o:Obj) (its:Array Value) (n:Nat),K.lookup a=some o/\o.cls=.type "tuple" /\ o.data=.seq its n/\its.size<=sizeLine/\Vals xs its.toList
def absV:Value->Option V
 | .none=>some .non
 | .bool b=>some (.bl b)
 | .int i _=>some (.int i)
 | .str x _=>some (.str x)
 | .bytes b _=>some (.byt b)
 | .float b _=>some (.flt b)
 | .ref a=>some (.ref a)
 | .type n=>some (.ty n)
 | _=>none
theorem RelV.abs {x:V}{u:Value}(r:RelV x u):absV u=some x:=by
 cases x with
 | non=>cases r;rfl
 | bl _=>cases r;rfl
 | int _=>obtain ⟨t,rfl⟩:=r;rfl
 | str _=>obtain ⟨t,rfl⟩:=r;rfl
 | byt _=>obtain ⟨t,rfl⟩:=r;rfl
 | flt _=>obtain ⟨t,rfl⟩:=r;rfl
 | ref _=>cases r;rfl
 | ty _=>cases r;rfl
theorem RelV.inj {x y:V}{u:Value}(r:RelV x u) (q:RelV y u):x=y:=Option.some.inj (r.abs.symm.trans q.abs)
theorem Vals.inj:∀ {xs ys:List V}{us:List Value},Vals xs us->Vals ys us->xs=ys
 | _,_,_,.nil,.nil=>rfl
 | _,_,_,.cons r t,.cons r' t'=>by rw [r.inj r',Vals.inj t t']
section
variable {X:Cx}{pins:List (Addr × Obj)}{σ:St}{H:Hp}{s:Shared}{a:Addr}{xs ys:List V}
theorem SqL.of {K:W.Frag}(h:H a=some (.lst xs)):SqL K H a xs:=.inl (.inl h)
theorem SqT.of {K:W.Frag}(h:H a=some (.tup xs)):SqT K H a xs:=.inl (.inl h)
theorem Inv.list (I:Inv X pins σ H s) (h:SqL X.K H a xs):∃ its:List Value,Vals xs its/\PlainL s.heap a its.toArray/\xs.length<=sizeLine:=by
 rcases h with h|⟨o,its,n,hk,hc,hd,hs,hz,r⟩
 ·obtain ⟨z,its,n,r,e⟩:=h.ok I.hok
  exact ⟨its,r,⟨_,n,e,rfl,rfl,rfl⟩,z⟩
 ·refine ⟨its.toList,r,⟨o,n,I.kIn a o hk,hc,hd,by simpa using hs⟩,?_⟩
  have e:=r.length
  simp only [Array.length_toList] at e
  omega
theorem Inv.tuple (I:Inv X pins σ H s) (h:SqT X.K H a xs):∃ its:List Value,Vals xs its/\IsTup s.heap a its.toArray/\xs.length<=sizeLine:=by
 rcases h with h|⟨o,its,n,hk,hc,hs,hz,r⟩
 ·obtain ⟨z,its,r,p⟩:=h.ok I.hok
  exact ⟨its,r,p,z⟩
 ·refine ⟨its.toList,r,⟨o,I.kIn a o hk,hc,n,by simpa using hs⟩,?_⟩
  have e:=r.length
  simp only [Array.length_toList] at e
  omega
theorem Inv.list_inj (I:Inv X pins σ H s) (h:SqL X.K H a xs) (h':SqL X.K H a ys):xs=ys:=by
 obtain ⟨its,r,⟨o,n,e,_,_,d⟩,_⟩:=I.list h
 obtain ⟨its',r',⟨o',n',e',_,_,d'⟩,_⟩:=I.list h'
 rw [e] at e';cases e'
 rw [d] at d'
 injection d' with d1 _
 have:its=its':=by simpa using congrArg Array.toList d1
 subst this
 exact r.inj r'
theorem Inv.tuple_inj (I:Inv X pins σ H s) (h:SqT X.K H a xs) (h':SqT X.K H a ys):xs=ys:=by
 obtain ⟨its,r,⟨o,e,_,n,d⟩,_⟩:=I.tuple h
 obtain ⟨its',r',⟨o',e',_,n',d'⟩,_⟩:=I.tuple h'
 rw [e] at e';cases e'
 rw [d] at d'
 injection d' with d1 _
 have:its=its':=by simpa using congrArg Array.toList d1
 subst this
 exact r.inj r'
end
abbrev Cx.wish (X:Cx) (E:Value->Shared->Prop):Cx:={ X with xe:=E }
abbrev Cx.nox (X:Cx):Cx:=X.wish λ _ _=>False
theorem Cx.Ok.wish {X:Cx}(ok:X.Ok) (E:Value->Shared->Prop):(X.wish E).Ok:=
 ⟨ok.mod,ok.kind,ok.glob,ok.blt,ok.above,ok.inj,ok.has,ok.cab,ok.hd,ok.frames,ok.stk,ok.exf,ok.bs,ok.bsz,ok.noex,ok.exfs,ok.funs,ok.frf⟩
theorem Cx.Ok.unwish {X:Cx}{E:Value->Shared->Prop}(ok:(X.wish E).Ok):X.Ok:=
 ⟨ok.mod,ok.kind,ok.glob,ok.blt,ok.above,ok.inj,ok.has,ok.cab,ok.hd,ok.frames,ok.stk,ok.exf,ok.bs,ok.bsz,ok.noex,ok.exfs,ok.funs,ok.frf⟩
section
variable {X:Cx}{pins:List (Addr × Obj)}{σ:St}{H:Hp}{s:Shared}{E:Value->Shared->Prop}
theorem Inv.wish (I:Inv X pins σ H s) (E:Value->Shared->Prop):Inv (X.wish E) pins σ H s:=⟨I.ok.wish E,I.os,I.bare,I.base,I.loc,I.cell,I.free,I.freeC,I.pin,I.hok,I.len⟩
theorem Inv.unwish (I:Inv (X.wish E) pins σ H s):Inv X pins σ H s:=⟨I.ok.unwish,I.os,I.bare,I.base,I.loc,I.cell,I.free,I.freeC,I.pin,I.hok,I.len⟩
theorem SP.unwish {D:Ends}{f:Flow}{s':Shared}(h:SP (X.wish E) pins D f s'):SP X pins D f s':=by
 cases f with
 | next=>obtain ⟨σ',H',I,q⟩:=h;exact ⟨σ',H',I.unwish,q⟩
 | brk=>obtain ⟨σ',H',I,q⟩:=h;exact ⟨σ',H',I.unwish,q⟩
 | cont=>obtain ⟨σ',H',I,q⟩:=h;exact ⟨σ',H',I.unwish,q⟩
 | ret u=>obtain ⟨v,σ',H',I,r,q⟩:=h;exact ⟨v,σ',H',I.unwish,r,q⟩
theorem PSs.nox {st:List Stmt}{t:TS}(h:PSs X.nox st t):PSs X st t:=λ pins s σ H D I hw=>
 wpAny_mono (h pins s σ H D (I.wish _) hw) (λ _ _ q=>q.unwish) λ _ _ z=>False.elim z
end
section
variable {X:Cx}{st:Stmt}{rest:List Stmt}{t u:TS}{e:Expr}{te:TE}{pos:Pos}
def tNext:TS:=λ D σ H=>D.nx σ H
def tSeq (t u:TS):TS:=λ D σ H=>t { D with nx:=u D } σ H
theorem pss_nil:PSs X [] tNext:=λ _ _ σ H _ I h=>wpAny_execs_nil ⟨σ,H,I,h⟩
theorem pss_cons (h1:PS X st t) (h2:PSs X rest u):PSs X (st::rest) (tSeq t u):=by
 intro pins s σ H D I h
 refine wpAny_execs_cons (thn (h1 pins s σ H { D with nx:=u D } I h) λ f s1 q=>?_)
 cases f with
 | next=>
  obtain ⟨σ',H',I',q⟩:=q
  exact h2 pins s1 σ' H' D I' q
 | ret v=>exact q
 | brk=>exact q
 | cont=>exact q
theorem pss_one (h1:PS X st t):PSs X [st] t:=by
 intro pins s σ H D I h
 refine wpAny_execs_cons (thn (h1 pins s σ H D I h) λ f s1 q=>?_)
 cases f with
 | next=>exact wpAny_execs_nil q
 | ret v=>exact q
 | brk=>exact q
 | cont=>exact q
theorem ps_pass:PS X (.Pass pos) tNext:=λ _ _ σ H _ I h=>wpAny_Pass ⟨σ,H,I,h⟩
theorem Inv.quiet {pins:List (Addr × Obj)}{σ:St}{H:Hp}{s:Shared}(I:Inv X pins σ H s):interactive X.env=false:=by simp [interactive,I.ok.kind]
def tDrop (te:TE):TS:=λ D σ H=>te σ H λ _ H1=>D.nx σ H1
theorem ps_expr (he:PE X e te) (hs:swapsWith e none pos.line X.env=pure false:=by rfl):PS X (.Expr e pos) (tDrop te):=by
 intro pins s σ H D I h
 exact wpAny_Expr_any (thn (he pins s σ H _ I h) λ v s1 ⟨x,H1,I1,r1,q1⟩=>⟨σ,H1,I1,q1⟩) I.quiet hs
def tRet (te:TE):TS:=λ D σ H=>te σ H D.rt
theorem ps_ret (he:PE X e te):PS X (.Return (some e) pos) (tRet te):=by
 intro pins s σ H D I h
 exact wpAny_Return_some (thn (he pins s σ H _ I h) λ v s1 ⟨x,H1,I1,r1,q1⟩=>⟨x,σ,H1,I1,r1,q1⟩)
def tIfS (c:TT) (t u:TS):TS:=λ D σ H=>c σ H λ b H1=>if b=true then t D σ H1 else u D σ H1
theorem ps_if {c:Expr}{a b:List Stmt}{tc:TT}(hc:PT X c tc) (ha:PSs X a t) (hb:PSs X b u):PS X (.If c a b pos) (tIfS tc t u):=by
 intro pins s σ H D I h
 refine wpAny_If (thn (hc pins s σ H _ I h) λ d s1 ⟨H1,I1,q1⟩=>?_)
 cases d with
 | true=>exact ha pins s1 σ H1 D I1 q1
 | false=>exact hb pins s1 σ H1 D I1 q1
def tNever:TS:=λ _ _ _=>False
theorem ps_never:PS X st tNever:=λ _ _ _ _ _ _ h=>h.elim
end
abbrev TG:=V->St->Hp->(St->Hp->Prop)->Prop
abbrev TGs:=List V->St->Hp->(St->Hp->Prop)->Prop
def PG (X:Cx) (target:Expr) (t:TG):Prop:=
 ∀ (pins:List (Addr × Obj)) (s:Shared) (σ:St) (H:Hp) (v:V) (u:Value) (Q:St->Hp->Prop),Inv X pins σ H s->RelV v u->t v σ H Q →
  wpAny (model X.prog X.w) X.A (assign target X.env u) (λ _ s'=>∃ σ' H',Inv X pins σ' H' s'/\Q σ' H') X.xe s
def PGs (X:Cx) (ts:List Expr) (t:TGs):Prop:=
 ∀ (pins:List (Addr × Obj)) (s:Shared) (σ:St) (H:Hp) (vs:List V) (us:List Value) (Q:St->Hp->Prop),Inv X pins σ H s->Vals vs us->t vs σ H Q →
  wpAny (model X.prog X.w) X.A (assignInOrder ((assignEach ts X.env).map (·.2)) us) (λ _ s'=>∃ σ' H',Inv X pins σ' H' s'/\Q σ' H') X.xe s
abbrev TSet:=V->V->V->Hp->(Hp->Prop)->Prop
def PSet (X:Cx) (t:TSet):Prop:=
 ∀ (pins:List (Addr × Obj)) (s:Shared) (σ:St) (H:Hp) (o i v:V) (ov iv u:Value) (Q:Hp->Prop),Inv X pins σ H s->RelV o ov->RelV i iv->RelV v u->t o i v H Q →
  wpAny (model X.prog X.w) X.A (setItem ov iv u) (λ _ s'=>∃ H',Inv X pins σ H' s'/\Q H') X.xe s
section
variable {X:Cx}{pos:Pos}
def gName (i:Nat):TG:=λ v σ H Q=>Q (σ.set i (some v)) H
theorem pg_name {i:Nat}{x:Str}(hN:X.N.Nodup) (hi:X.N[i]? = some x) (hx:Loc X.env.scope x) (hf:X.fn x=true\/X.env.scope.names.lookup x=some .local:=by first|exact .inl rfl|exact .inr rfl|assumption):PG X (.Name x pos) (gName i):=by
 intro pins s σ H v u Q I r h
 exact wpAny_assign_Name (store_ok I hN hi hx r (λ s' I'=>⟨_,H,I',h⟩) hf)
def gNil:TGs:=λ vs σ H Q=>vs=[]/\Q σ H
def gCons (t:TG) (u:TGs):TGs:=λ vs σ H Q=>∃ v r,vs=v::r/\t v σ H λ σ' H'=>u r σ' H' Q
theorem pgs_nil:PGs X [] gNil:=by
 intro pins s σ H vs us Q I r h
 obtain ⟨e,h⟩:=h
 subst e
 cases r
 exact assignInOrder_nil ⟨σ,H,I,h⟩
theorem pgs_cons {e:Expr}{es:List Expr}{t:TG}{u:TGs}(h1:PG X e t) (h2:PGs X es u)
  (hs:(assignEach (e::es) X.env).map (·.2)=assign e X.env::(assignEach es X.env).map (·.2):=by rfl):PGs X (e::es) (gCons t u):=by
 intro pins s σ H vs us Q I r h
 obtain ⟨v,vr,e1,h⟩:=h
 subst e1
 cases r with
 | cons r rr=>
  rw [hs]
  refine assignInOrder_cons (thn (h1 pins s σ H _ _ _ I r h) λ _ s1 ⟨σ1,H1,I1,q1⟩=>?_)
  exact h2 pins s1 σ1 H1 _ _ Q I1 rr q1
def gTup (K:W.Frag) (n:Nat) (t:TGs):TG:=λ v σ H Q=>∃ a xs,v=.ref a/\SqT K H a xs/\xs.length=n/\t xs σ H Q
theorem pg_tup {es:List Expr}{k:Nat}{t:TGs}{n:Nat}(hc:X.calm=true) (h:PGs X es t)
  (hn:(assignEach es X.env).length=n:=by rfl) (hst:(assignEach es X.env).findIdx? (·.1)=none:=by rfl):PG X (.Tuple es k pos) (gTup X.K n t):=by
 intro pins s σ H v u Q I r hw
 obtain ⟨a,xs,e1,hq,hl,hw⟩:=hw
 subst e1
 cases r
 obtain ⟨its,rv,ht,hz⟩:=I.tuple hq
 refine assign_Tuple_tuple (I.ok.hd hc) ht (by simp [hn,←hl,rv.length]) hst λ h' hx=>?_
 have I1:Inv X pins σ H { s with heap:=h' }:=I.kept (t':=s.toks) λ b o e=>hx b o (Nat.ne_of_lt (Heap.lt_size e)) e
 exact h pins _ σ H xs _ Q I1 (by simpa using rv) hw
def gSub (to ti:TE) (t:TSet):TG:=λ v σ H Q=>to σ H λ o H1=>ti σ H1 λ i H2=>t o i v H2 λ H3=>Q σ H3
theorem pg_sub {o i:Expr}{to ti:TE}{t:TSet}(ho:PE X o to) (hi:PE X i ti) (hs:PSet X t)
  (ha:∀ v,assign (.Subscript o i pos) X.env v=(do
   let ov ←holding [v] (eval o X.env)
   let iv ←holding [v,ov] (eval i X.env)
   standAt pos
   holding [v,ov,iv] (setItem ov iv v)
   release [v,ov,iv] []):=by intro _;rfl):PG X (.Subscript o i pos) (gSub to ti t):=by
 intro pins s σ H v u Q I r h
 rw [ha]
 refine wpAny_bind (wpAny_holding (thn (ho pins s σ H _ I h) λ ov s1 ⟨x,H1,I1,r1,q1⟩=>?_))
 refine wpAny_bind (wpAny_holding (thn (hi pins s1 σ H1 _ I1 q1) λ iv s2 ⟨y,H2,I2,r2,q2⟩=>?_))
 refine wpAny_bind (wpAny_standAt (wpAny_bind (wpAny_holding (thn (hs pins s2 σ H2 x y v ov iv u _ I2 r1 r2 r q2) λ _ s3 ⟨H3,I3,q3⟩=>?_))))
 exact wpAny_release ⟨σ,H3,I3,q3⟩
def tAsg (te:TE) (g:TG):TS:=λ D σ H=>te σ H λ x H1=>g x σ H1 D.nx
theorem ps_asg {tg e:Expr}{te:TE}{g:TG}(he:PE X e te) (hg:PG X tg g) (hs:swapsWithSole [tg] e pos.line X.env=pure false:=by rfl) (hw:swappedStores [tg] e X.env=pure none:=by rfl)
  (h1:(assignEach [tg] X.env).map (·.2)=[assign tg X.env]:=by rfl):PS X (.Assign [tg] e pos) (tAsg te g):=by
 intro pins s σ H D I h
 refine wpAny_Assign_stores (thn (he pins s σ H _ I h) λ v s1 ⟨x,H1,I1,r1,q1⟩=>?_) hs hw
 rw [h1]
 exact thn (hg pins s1 σ H1 x v _ I1 r1 q1) λ _ s2 q=>q
theorem ps_set {i:Nat}{x:Str}{e:Expr}{te:TE}{pos':Pos}(hN:X.N.Nodup) (hi:X.N[i]? = some x) (hx:Loc X.env.scope x) (he:PE X e te) (hs:swapsWith e (some (.Name x pos')) pos.line X.env=pure false:=by rfl) (hf:X.fn x=true\/X.env.scope.names.lookup x=some .local:=by first|exact .inl rfl|exact .inr rfl|assumption) :
  PS X (.Assign [.Name x pos'] e pos) (tAsg te (gName i)):=by
 intro pins s σ H D I h
 refine wpAny_Assign_Name (thn (he pins s σ H _ I h) λ v s1 ⟨y,H1,I1,r1,q1⟩=>?_) hs
 exact store_ok I1 hN hi hx r1 (λ s2 I2=>⟨_,H1,I2,q1⟩) hf
end
section
variable {X:Cx}{pos:Pos}
end
structure It where
 go:Nat->Hp->Prop
 yld:Nat->Hp->V->Hp->Prop
 stop:Nat->Hp->Prop
def FpOk (X:Cx) (pins:List (Addr × Obj)) (H:Hp) (b:Addr):Prop:=
 H b=none/\b ≠ X.env.locals/\b ∉ X.fs/\(b∈X.ex\/X.s₀.heap.objs.size<=b)/\(∀ x c,X.env.cells.lookup x=some c->c ≠ b)/\∀ p∈X.pn++pins,p.1 ≠ b
theorem Inv.fpOk {X:Cx}{pins:List (Addr × Obj)}{σ:St}{H H':Hp}{s:Shared}{b:Addr}(I:Inv X pins σ H s) (hb:s.heap.objs.size<=b) (hn:H' b=none):FpOk X pins H' b:=by
 refine ⟨hn,Nat.ne_of_gt (Nat.lt_of_lt_of_le I.lt hb),I.nofs hb,.inr (Nat.le_trans I.sz hb),λ x c e z=>?_,λ p hp z=>?_⟩
 ·obtain ⟨v,q⟩:=I.cell x c e
  exact absurd (Nat.lt_of_lt_of_le q.lt (by rw [z];exact hb)) (Nat.lt_irrefl _)
 ·exact absurd (Nat.lt_of_lt_of_le (Heap.lt_size (I.pin p hp).1) (by rw [z];exact hb)) (Nat.lt_irrefl _)
structure Turn (P:Program) (w:World) (K:W.Frag) (tg:Expr) (J:It) (fp:List Addr) (it:Addr) (tn:Nat->Heap->Prop):Prop where
 mem:it∈fp
 obj:∀ i h,tn i h->∀ b∈fp,∃ o,h.get? b=some o/\∀ v,o.data ≠ .cell v
 keep:∀ i h h',tn i h->(∀ b∈fp,∀ o,h.get? b=some o->h'.get? b=some o)->tn i h'
 item:∀ (X:Cx),X.prog=P->X.w=w->X.K=K->X.calm=true->∀ (i:Nat) (pins:List (Addr × Obj)) (s:Shared) (σ:St) (H:Hp) (E:Value->Shared->Prop),Inv X pins σ H s->(∀ b∈fp,FpOk X pins H b)->tn i s.heap->J.go i H →
  wpAny (model P w) X.A (pyNext (.ref it)) (λ r s1=>∃ u,r=some u /\
   wpAny (model P w) X.A (letOwnedTupleGo tg (.ref it) u) (λ _ s2=>∃ x H',Inv X pins σ H' s2/\RelV x u/\J.yld i H x H'/\tn (i+1) s2.heap/\∀ b∈fp,H' b=none) E s1) E s
 done:∀ (X:Cx),X.prog=P->X.w=w->X.K=K->X.calm=true->∀ (i:Nat) (pins:List (Addr × Obj)) (s:Shared) (σ:St) (H:Hp) (E:Value->Shared->Prop),Inv X pins σ H s->(∀ b∈fp,FpOk X pins H b)->tn i s.heap->J.stop i H →
  wpAny (model P w) X.A (pyNext (.ref it)) (λ r s1=>r=none/\Inv X pins σ H s1) E s
 self:∀ (A:Around) (i:Nat) (s:Shared) (Q:Value->Shared->Prop) (E:Value->Shared->Prop),tn i s.heap->Q (.ref it) s->wpAny (model P w) A (pyIter (.ref it)) Q E s
abbrev TI:=St->Hp->(It->Hp->Prop)->Prop
def PIE (X:Cx) (pins:List (Addr × Obj)) (σ:St) (tg:Expr) (R:It->Hp->Prop) (itv:Value) (s2:Shared):Prop:=
 ∃ (it:Addr) (fp:List Addr) (tn:Nat->Heap->Prop) (J:It) (H':Hp),itv=.ref it/\Inv X pins σ H' s2/\Turn X.prog X.w X.K tg J fp it tn/\tn 0 s2.heap/\(∀ b∈fp,FpOk X pins H' b)/\R J H'
def PI (X:Cx) (tg iter:Expr) (wi:TI):Prop:=
 ∀ (pins:List (Addr × Obj)) (s:Shared) (σ:St) (H:Hp) (R:It->Hp->Prop),Inv X pins σ H s->wi σ H R →
  wpAny (model X.prog X.w) X.A (eval iter X.env) (λ v s1=>wpAny (model X.prog X.w) X.A (pyIter v) (PIE X pins σ tg R) X.xe s1) X.xe s
theorem go_of {M:Model}{A:Around}{E:Value->Shared->Prop}{s:Shared}{tg:Expr}{it:Addr}{u:Value}{o:Obj}{n:String}{vs:Array Value}{Q:Unit->Shared->Prop}(ho:s.heap.get? it=some o) (hc:o.cls=.type n) (hd:o.data=.fields vs)
    (hn:["enumerate", "zip", "dict_itemiterator", "dict_reverseitemiterator", "odict_iterator", "itertools.zip_longest", "itertools.pairwise"].contains n=false) (hQ:Q () s):wpAny M A (letOwnedTupleGo tg (.ref it) u) Q E s:=by
  unfold letOwnedTupleGo
  cases tg<;>first
    | exact wpAny_pure hQ
    | (cases u<;>first
        | exact wpAny_pure hQ
        | (refine wpAny_bind (wpAny_load ho ?_)
           rw [hc,hd]
           show wpAny M A (if (["enumerate", "zip", "dict_itemiterator", "dict_reverseitemiterator", "odict_iterator", "itertools.zip_longest", "itertools.pairwise"].contains n && vs[0]? == some (rawInt _))=true then _ else _) Q E s
           rw [if_neg (by intro h;rw [hn,Bool.false_and] at h;cases h)]
           exact wpAny_pure hQ))
def Itl (K:W.Frag) (a:Addr):It:=
 ⟨λ i H=>∃ xs x,SqL K H a xs/\xs[i]? = some x,λ i H x H'=>H'=H/\∀ xs,SqL K H a xs->xs[i]? = some x,λ i H=>∃ xs,SqL K H a xs/\xs.length<=i⟩
def Itt (K:W.Frag) (a:Addr):It:=
 ⟨λ i H=>∃ xs x,SqT K H a xs/\xs[i]? = some x,λ i H x H'=>H'=H/\∀ xs,SqT K H a xs->xs[i]? = some x,λ i H=>∃ xs,SqT K H a xs/\xs.length<=i⟩
def Itr (lo:Int) (n:Nat):It:=⟨λ i _=>i < n,λ i H x H'=>H'=H/\x=.int (lo+i),λ i _=>n<=i⟩
theorem turn_list {P:Program}{w:World}{K:W.Frag}{tg:Expr}(a it:Addr):Turn P w K tg (Itl K a) [it] it (λ i h=>h.IsListIter it a i) where
 mem:=by simp
 obj:=λ i h st b hb=>by
  have e:b=it:=by simpa using hb
  subst e
  obtain ⟨o,e,c,d⟩:=st
  exact ⟨o,e,λ v z=>by rw [d] at z;cases z⟩
 keep:=λ i h h' st k=>st.at λ o e=>k it (by simp) o e
 item:=by
  intro X hP hw hK hc i pins s σ H E I hf st hg
  subst hP hw hK
  obtain ⟨xs,x,hq,hx⟩:=hg
  obtain ⟨its,rv,p,hz⟩:=I.list hq
  obtain ⟨u,hu,ru⟩:=rv.get hx
  obtain ⟨f0,f1,f2,f3,f4,f5⟩:=hf it (by simp)
  refine wpAny_pyNext_list_item st p.isList (x:=u) (by simpa using hu) λ h' st' sb=>?_
  have I1:Inv X pins σ H { s with heap:=h' }:=I.turned (t':=s.toks) (λ b o hb e=>(sb.2 b hb).trans e) f0 f1 f3 f4 f5
  obtain ⟨o,e,c,d⟩:=id st'
  exact ⟨u,rfl,go_of (s:={ s with heap:=h' }) e c d (by decide) ⟨x,H,I1,ru,⟨rfl,λ ys hy=>by rw [I.list_inj hy hq];exact hx⟩,st',λ b hb=>(hf b hb).1⟩⟩
 done:=by
  intro X hP hw hK hc i pins s σ H E I hf st hg
  subst hP hw hK
  obtain ⟨xs,hq,hx⟩:=hg
  obtain ⟨its,rv,p,hz⟩:=I.list hq
  obtain ⟨f0,f1,f2,f3,f4,f5⟩:=hf it (by simp)
  have hl:=rv.length
  exact wpAny_pyNext_list_end (I.ok.hd hc) st p.isList (by simp;omega) λ h' eb=>⟨rfl,I.turned (t':=s.toks) (λ b o hb e=>eb b o hb e) f0 f1 f3 f4 f5⟩
 self:=λ _ _ _ _ _ st h=>wpAny_pyIter_listiter st h
theorem turn_tuple {P:Program}{w:World}{K:W.Frag}{tg:Expr}(a it:Addr):Turn P w K tg (Itt K a) [it] it (λ i h=>h.IsTupleIter it a i) where
 mem:=by simp
 obj:=λ i h st b hb=>by
  have e:b=it:=by simpa using hb
  subst e
  obtain ⟨o,e,c,d⟩:=st
  exact ⟨o,e,λ v z=>by rw [d] at z;cases z⟩
 keep:=λ i h h' st k=>st.at λ o e=>k it (by simp) o e
 item:=by
  intro X hP hw hK hc i pins s σ H E I hf st hg
  subst hP hw hK
  obtain ⟨xs,x,hq,hx⟩:=hg
  obtain ⟨its,rv,p,hz⟩:=I.tuple hq
  obtain ⟨u,hu,ru⟩:=rv.get hx
  obtain ⟨f0,f1,f2,f3,f4,f5⟩:=hf it (by simp)
  refine wpAny_pyNext_tuple_item st (show s.heap.IsTuple a its.toArray from p) (x:=u) (by simpa using hu) λ h' st' sb=>?_
  have I1:Inv X pins σ H { s with heap:=h' }:=I.turned (t':=s.toks) (λ b o hb e=>(sb.2 b hb).trans e) f0 f1 f3 f4 f5
  obtain ⟨o,e,c,d⟩:=id st'
  exact ⟨u,rfl,go_of (s:={ s with heap:=h' }) e c d (by decide) ⟨x,H,I1,ru,⟨rfl,λ ys hy=>by rw [I.tuple_inj hy hq];exact hx⟩,st',λ b hb=>(hf b hb).1⟩⟩
 done:=by
  intro X hP hw hK hc i pins s σ H E I hf st hg
  subst hP hw hK
  obtain ⟨xs,hq,hx⟩:=hg
  obtain ⟨its,rv,p,hz⟩:=I.tuple hq
  obtain ⟨f0,f1,f2,f3,f4,f5⟩:=hf it (by simp)
  have hl:=rv.length
  exact wpAny_pyNext_tuple_end (I.ok.hd hc) st (show s.heap.IsTuple a its.toArray from p) (by simp;omega) λ h' eb=>⟨rfl,I.turned (t':=s.toks) (λ b o hb e=>eb b o hb e) f0 f1 f3 f4 f5⟩
 self:=λ _ _ _ _ _ st h=>wpAny_pyIter_tupleiter st h
theorem turn_range {P:Program}{w:World}{K:PySem.W.Frag}{tg:Expr}(it:Addr) (lo:Int) (n:Nat):Turn P w K tg (Itr lo n) [it] it (λ i h=>IsRangeIter h it (lo+(i:Nat) * 1) ((n:Int) - (i:Nat)) 1) where
 mem:=by simp
 obj:=λ i h st b hb=>by
  have e:b=it:=by simpa using hb
  subst e
  exact ⟨_,st,λ v z=>by
   have z':Data.fields _=Data.cell v:=z
   cases z'⟩
 keep:=λ i h h' st k=>k it (by simp) _ st
 item:=by
  intro X hP hw hK hc i pins s σ H E I hf st hg
  subst hP hw hK
  obtain ⟨f0,f1,f2,f3,f4,f5⟩:=hf it (by simp)
  have W:=Walks.range (prog:=X.prog) (w:=X.w) (I.ok.hd hc) it lo 1 n
  refine W.item i s _ _ hg st λ v h' tk hv st' kk=>?_
  obtain ⟨t,rfl⟩:=hv
  have I1:Inv X pins σ H { s with heap:=h',toks:=tk }:=I.turned (λ b o hb e=>kk b o (by simpa using hb) e) f0 f1 f3 f4 f5
  refine ⟨_,rfl,go_of (s:={ s with heap:=h',toks:=tk }) (n := "range_iterator") st' rfl rfl (by decide) ⟨.int (lo+i),H,I1,⟨t,?_⟩,⟨rfl,rfl⟩,st',λ b hb=>(hf b hb).1⟩⟩
  rw [Int.mul_one]
 done:=by
  intro X hP hw hK hc i pins s σ H E I hf st hg
  subst hP hw hK
  obtain ⟨f0,f1,f2,f3,f4,f5⟩:=hf it (by simp)
  exact wpAny_pyNext_range_end (I.ok.hd hc) st (by have:n<=i:=hg;omega) λ h' eb=>⟨rfl,I.turned (t':=s.toks) (λ b o hb e=>eb b o hb e) f0 f1 f3 f4 f5⟩
 self:=λ _ _ _ _ _ st h=>wpAny_pyIter_rangeiter st h
end L2
namespace L2
open PySem PySem.Spec PyProof.Rows
section
variable {X:Cx}{tg:Expr}
theorem range_it {pins:List (Addr × Obj)}{σ:St}{H:Hp}{s:Shared}{R:It->Hp->Prop}{E:Value->Shared->Prop}{lo hi:Int}{t u v:Tok}{tk:Nat}(I:Inv X pins σ H s) (h1:-(2 ^ 62)<=lo) (h2:lo < 2 ^ 62) (h3:-(2 ^ 62)<=hi) (h4:hi < 2 ^ 62)
  (q:R (Itr lo (hi - lo).toNat) H):wpAny (model X.prog X.w) X.A (pyIter (.ref s.heap.objs.size)) (PIE X pins σ tg R) E { s with heap:=s.heap.push { cls:=.type "range",data:=.fields #[.int lo t,.int hi u,.int 1 v] },toks:=tk }:=by
 refine wpAny_pyIter_range (IsRange.new ..) (small_one h1 h2 h3 h4) ?_
 have I1:Inv X pins σ H { s with heap:=s.heap.push { cls:=.type "range",data:=.fields #[.int lo t,.int hi u,.int 1 v] },toks:=tk }:=I.kept λ b o e=>Heap.get?_push_of_some _ e
 refine ⟨(s.heap.push { cls:=.type "range",data:=.fields #[.int lo t,.int hi u,.int 1 v] }).objs.size,[(s.heap.push { cls:=.type "range",data:=.fields #[.int lo t,.int hi u,.int 1 v] }).objs.size],_,_,H,rfl,
  I1.kept (t':=tk) λ b o e=>Heap.get?_push_of_some _ e,turn_range _ lo (hi - lo).toNat,?_,λ b hb=>?_,q⟩
 ·have e1:lo+((0:Nat):Int) * 1=lo:=by simp
  have e2:(((hi - lo).toNat:Nat):Int) - ((0:Nat):Int)=Builtin.Range.rangeSize lo hi 1:=by rw [rangeSize_one];split<;>omega
  show IsRangeIter _ _ (lo+((0:Nat):Int) * 1) ((((hi - lo).toNat:Nat):Int) - ((0:Nat):Int)) 1
  rw [e1,e2]
  exact Heap.get?_push_size _ rfl
 ·have e:b=(s.heap.push { cls:=.type "range",data:=.fields #[.int lo t,.int hi u,.int 1 v] }).objs.size:=by simpa using hb
  subst e
  exact I1.fpOk (Nat.le_refl _) (I1.hok.fresh (Nat.le_refl _))
def iRng1 (ta:TA):TI:=λ σ H R=>ta σ H λ vs H1=>∃ j:Int,vs=[.int j]/\-(2 ^ 62)<=j/\j < 2 ^ 62/\R (Itr 0 j.toNat) H1
theorem pi_range1 {a:Expr}{ta:TA}{p pos:Pos}(hg:Gl X "range") (hm:X.mg "range"=none) (ha:PA X [a] ta) (hs:starEach [a] X.env=[(false,eval a X.env)]:=by rfl):PI X tg (.Call (.Name "range" p) [a] [] pos) (iRng1 ta):=by
 intro pins s σ H R I h
 refine Call_ (ld_blt I hg hm boot_range (PyProof.Rows.callWith_type1 (thn (ha pos pins s σ H _ I h) λ us s1 ⟨vs,H1,I1,r1,q1⟩=>?_) hs rfl))
 obtain ⟨j,e,q1,q2,q⟩:=q1
 subst e
 cases r1 with
 | cons r rr=>
  cases rr
  obtain ⟨t,rfl⟩:=r
  exact call_range_1 (range_it I1 (by omega) (by omega) q1 q2 (by simpa using q))
def tFor (wi:TI) (g:TG) (tb:TS):TS:=λ D σ H=>wi σ H λ J H1=>∃ W:Nat->Nat->St->Hp->Prop,(∃ m,W 0 m σ H1)/\∀ i m σ H,W i m σ H →
 (J.stop i H/\D.nx σ H)\/(J.go i H/\∃ N:St->Hp->Prop,(∀ σ' H',N σ' H'->∃ m',m' < m/\W (i+1) m' σ' H')/\∀ x H',J.yld i H x H'->g x σ H' λ σ2 H2=>tb { D with nx:=N,ct:=N,bk:=D.nx } σ2 H2)
def pinsAt (fp:List Addr) (h:Heap):List (Addr × Obj):=fp.filterMap λ b=>(h.get? b).map λ o=>(b,o)
theorem mem_pinsAt {fp:List Addr}{h:Heap}{b:Addr}{o:Obj}(hb:b∈fp) (e:h.get? b=some o):(b,o)∈pinsAt fp h:=List.mem_filterMap.mpr ⟨b,hb,by rw [e];rfl⟩
theorem of_pinsAt {fp:List Addr}{h:Heap}{p:Addr × Obj}(hp:p∈pinsAt fp h):p.1∈fp/\h.get? p.1=some p.2:=by
 obtain ⟨b,hb,e⟩:=List.mem_filterMap.mp hp
 cases q:h.get? b with
 | none=>rw [q] at e;cases e
 | some o=>
  rw [q] at e
  have e':(b,o)=p:=Option.some.inj e
  subst e'
  exact ⟨hb,q⟩
theorem Inv.pinned {pins:List (Addr × Obj)}{σ:St}{H:Hp}{s:Shared}{fp:List Addr}(I:Inv X pins σ H s) (hf:∀ b∈fp,FpOk X pins H b) (ho:∀ b∈fp,∃ o,s.heap.get? b=some o/\∀ v,o.data ≠ .cell v):Inv X (pins++pinsAt fp s.heap) σ H s:=
 I.pins_of λ p hp=>(List.mem_append.mp hp).elim (λ z=>I.pin p (List.mem_append_right _ z)) λ z=>by
  obtain ⟨hb,e⟩:=of_pinsAt z
  obtain ⟨f0,f1,f2,_⟩:=hf p.1 hb
  obtain ⟨o,e',d⟩:=ho p.1 hb
  rw [e] at e';cases e'
  exact ⟨e,f0,f1,f2,d⟩
theorem Inv.unpinned {pins pl:List (Addr × Obj)}{σ:St}{H:Hp}{s:Shared}(I:Inv X (pins++pl) σ H s):Inv X pins σ H s:=I.pins_of λ p hp=>I.pin p (List.mem_append_right _ (List.mem_append_left _ hp))
theorem ps_for {iter:Expr}{body:List Stmt}{wi:TI}{g:TG}{tb:TS}{pos:Pos}(hp:PassesOwn (model X.prog X.w) X.A X.env X.xe) (hc:X.calm=true) (hi:PI X tg iter wi) (hg:PG X tg g) (hb:PSs X body tb)
  (hs:∀ x,foldedSetIterable iter X.env x=pure x:=by intro _;rfl):PS X (.For tg iter body [] pos) (tFor wi g tb):=by
 intro pins s σ H D I h
 refine wpAny_For (thn (hi pins s σ H _ I h) λ v s1 h1=>thn h1 λ itv s2 h2=>?_) hs
 obtain ⟨it,fp,tn,J,H2,e,I2,T,st2,f2,W,⟨m0,w0⟩,turn⟩:=h2
 subst e
 have stat:∀ {H':Hp},(∀ b∈fp,H' b=none)->∀ b∈fp,FpOk X pins H' b:=λ hn b hb=>⟨hn b hb,(f2 b hb).2⟩
 refine codeAny_forLoop_any (λ n s'=>∃ i σ' H',Inv X pins σ' H' s'/\tn i s'.heap/\(∀ b∈fp,H' b=none)/\W i n σ' H') ?_ m0 ⟨0,σ,H2,I2,st2,λ b hb=>(f2 b hb).1,w0⟩
 rintro n s3 ⟨i,σ3,H3,I3,st3,fr3,w3⟩
 rcases turn i n σ3 H3 w3 with ⟨stop,qn⟩|⟨go,N,hN,step⟩
 ·refine wpAny_passesOwn hp (thn (T.done X rfl rfl rfl hc i pins s3 σ3 H3 X.xe I3 (stat fr3) st3 stop) λ r s4 ⟨hr,I4⟩=>?_)
  subst hr
  exact wpAny_execs_nil ⟨σ3,H3,I4,qn⟩
 ·refine wpAny_passesOwn hp (thn (T.item X rfl rfl rfl hc i pins s3 σ3 H3 X.xe I3 (stat fr3) st3 go) λ r s4 ⟨u,hr,h4⟩=>?_)
  subst hr
  refine wpAny_passesOwn hp (thn h4 λ _ s5 ⟨x,H5,I5,r5,y5,st5,fr5⟩=>?_)
  have I5':=I5.pinned (stat fr5) (T.obj _ _ st5)
  refine wpAny_passesOwn hp (thn (hg _ s5 σ3 H5 x u _ I5' r5 (step x H5 y5)) λ _ s6 ⟨σ6,H6,I6,q6⟩=>?_)
  refine wpAny_passesOwn hp (thn (hb _ s6 σ6 H6 _ I6 q6) λ f s7 q7=>?_)
  have again:∀ {σ7:St} {H7:Hp},Inv X (pins++pinsAt fp s5.heap) σ7 H7 s7->N σ7 H7->∃ m,m < n/\∃ i σ' H',Inv X pins σ' H' s7/\tn i s7.heap/\(∀ b∈fp,H' b=none)/\W i m σ' H':=λ {σ7 H7} I7 n7=>by
   obtain ⟨m',hm,w7⟩:=hN σ7 H7 n7
   refine ⟨m',hm,i+1,σ7,H7,I7.unpinned,T.keep _ _ _ st5 λ b hb o e=>(I7.pin (b,o) (List.mem_append_right _ (List.mem_append_right _ (mem_pinsAt hb e)))).1,λ b hb=>?_,w7⟩
   obtain ⟨o,e,d⟩:=T.obj _ _ st5 b hb
   exact (I7.pin (b,o) (List.mem_append_right _ (List.mem_append_right _ (mem_pinsAt hb e)))).2.1
  cases f with
  | next=>obtain ⟨σ7,H7,I7,n7⟩:=q7;exact again I7 n7
  | cont=>obtain ⟨σ7,H7,I7,n7⟩:=q7;exact again I7 n7
  | brk=>obtain ⟨σ7,H7,I7,q7⟩:=q7;exact ⟨σ7,H7,I7.unpinned,q7⟩
  | ret v=>obtain ⟨x7,σ7,H7,I7,r7,q7⟩:=q7;exact ⟨x7,σ7,H7,I7.unpinned,r7,q7⟩
end
theorem for_list {K:PySem.W.Frag}{a:Addr}{xs:List V}{g:TG}{tb:TS}{D:Ends}{σ:St}{H:Hp}(Pv:Nat->St->Hp->Prop) (h0:Pv 0 σ H) (hl:∀ i σ H,i<=xs.length->Pv i σ H->SqL K H a xs)
  (hs:∀ i x σ H,xs[i]? = some x->Pv i σ H->g x σ H λ σ2 H2=>tb { D with nx:=Pv (i+1),ct:=Pv (i+1),bk:=D.nx } σ2 H2) (hd:∀ σ H,Pv xs.length σ H->D.nx σ H) :
  ∃ W:Nat->Nat->St->Hp->Prop,(∃ m,W 0 m σ H)/\∀ i m σ H,W i m σ H →
   ((Itl K a).stop i H/\D.nx σ H)\/((Itl K a).go i H/\∃ N:St->Hp->Prop,(∀ σ' H',N σ' H'->∃ m',m' < m/\W (i+1) m' σ' H')/\∀ x H',(Itl K a).yld i H x H'->g x σ H' λ σ2 H2=>tb { D with nx:=N,ct:=N,bk:=D.nx } σ2 H2):=by
 refine ⟨λ i m σ H=>m=xs.length - i/\i<=xs.length/\Pv i σ H,⟨xs.length,by simp,Nat.zero_le _,h0⟩,?_⟩
 rintro i m σ H ⟨rfl,hi,p⟩
 have q:=hl i σ H hi p
 by_cases hlt:i < xs.length
 ·refine .inr ⟨⟨xs,xs[i],q,by simp [hlt]⟩,Pv (i+1),λ σ' H' p'=>⟨xs.length - (i+1),by omega,rfl,hlt,p'⟩,λ x H' y=>?_⟩
  obtain ⟨e,y⟩:=y
  subst e
  exact hs i x σ _ (y xs q) p
 ·have e:i=xs.length:=by omega
  subst e
  exact .inl ⟨⟨xs,q,Nat.le_refl _⟩,hd σ H p⟩
theorem for_range {lo:Int}{n:Nat}{g:TG}{tb:TS}{D:Ends}{σ:St}{H:Hp}(Pv:Nat->St->Hp->Prop) (h0:Pv 0 σ H)
  (hs:∀ i σ H,i < n->Pv i σ H->g (.int (lo+i)) σ H λ σ2 H2=>tb { D with nx:=Pv (i+1),ct:=Pv (i+1),bk:=D.nx } σ2 H2) (hd:∀ σ H,Pv n σ H->D.nx σ H) :
  ∃ W:Nat->Nat->St->Hp->Prop,(∃ m,W 0 m σ H)/\∀ i m σ H,W i m σ H →
   ((Itr lo n).stop i H/\D.nx σ H)\/((Itr lo n).go i H/\∃ N:St->Hp->Prop,(∀ σ' H',N σ' H'->∃ m',m' < m/\W (i+1) m' σ' H')/\∀ x H',(Itr lo n).yld i H x H'->g x σ H' λ σ2 H2=>tb { D with nx:=N,ct:=N,bk:=D.nx } σ2 H2):=by
 refine ⟨λ i m σ H=>m=n - i/\i<=n/\Pv i σ H,⟨n,by simp,Nat.zero_le _,h0⟩,?_⟩
 rintro i m σ H ⟨rfl,hi,p⟩
 by_cases hlt:i < n
 ·refine .inr ⟨hlt,Pv (i+1),λ σ' H' p'=>⟨n - (i+1),by omega,rfl,hlt,p'⟩,λ x H' y=>?_⟩
  obtain ⟨e,y⟩:=y
  subst e y
  exact hs i σ _ hlt p
 ·have e:i=n:=by omega
  subst e
  exact .inl ⟨Nat.le_refl _,hd σ H p⟩
end L2
namespace L2
open PySem PySem.Spec PyProof.Rows
abbrev R2:=V->V->Hp->VK->Prop
def OpR (X:Cx) (f:Value->Value->Sem Value) (r:R2):Prop:=
 ∀ (pins:List (Addr × Obj)) (s:Shared) (σ:St) (H:Hp) (x y:V) (v u:Value) (Q:VK),Inv X pins σ H s->RelV x v->RelV y u->r x y H Q →
  wpAny (model X.prog X.w) X.A (f v u) (EP X pins σ Q) X.xe s
def UnR (X:Cx) (f:Value->Sem Value) (r:V->Hp->VK->Prop):Prop:=
 ∀ (pins:List (Addr × Obj)) (s:Shared) (σ:St) (H:Hp) (x:V) (v:Value) (Q:VK),Inv X pins σ H s->RelV x v->r x H Q →
  wpAny (model X.prog X.w) X.A (f v) (EP X pins σ Q) X.xe s
def CallR (X:Cx) (f:Value) (r:List V->Hp->VK->Prop):Prop:=
 ∀ (pins:List (Addr × Obj)) (s:Shared) (σ:St) (H:Hp) (xs:List V) (us:List Value) (Q:VK),Inv X pins σ H s->Vals xs us->r xs H Q →
  wpAny (model X.prog X.w) X.A (call f us) (EP X pins σ Q) X.xe s
def tOp (r:R2) (ta tb:TE):TE:=λ σ H Q=>ta σ H λ x H1=>tb σ H1 λ y H2=>r x y H2 Q
def tUn (r:V->Hp->VK->Prop) (ta:TE):TE:=λ σ H Q=>ta σ H λ x H1=>r x H1 Q
def rI (C:Int->Int->Prop) (g:Int->Int->V):R2:=λ x y H Q=>∃ i j,x=.int i/\y=.int j/\C i j/\Q (g i j) H
def rI0 (g:Int->Int->V):R2:=λ x y H Q=>∃ i j,x=.int i/\y=.int j/\Q (g i j) H
def rU (g:Int->V):V->Hp->VK->Prop:=λ x H Q=>∃ i,x=.int i/\Q (g i) H
section
variable {X:Cx}{a b c:Expr}{ta tb tc:TE}{pos:Pos}
theorem binT (ha:PE X a ta) (hb:PE X b tb){pins:List (Addr × Obj)}{s:Shared}{σ:St}{H:Hp}{R:V->V->Hp->Prop}(I:Inv X pins σ H s)
  (h:ta σ H λ x H1=>tb σ H1 λ y H2=>R x y H2) {Q:Value->Shared->Prop} {f:Value->Value->Sem Value}
  (hf:∀ v u s2 x y H2,Inv X pins σ H2 s2->RelV x v->RelV y u->R x y H2->wpAny (model X.prog X.w) X.A (f v u) Q X.xe s2) :
  wpAny (model X.prog X.w) X.A (eval a X.env) (λ v s₁=>wpAny (model X.prog X.w) X.A (eval b X.env) (λ u s₂=>wpAny (model X.prog X.w) X.A (f v u) Q X.xe s₂) X.xe s₁) X.xe s:=by
 refine thn (ha pins s σ H _ I h) λ v s1 ⟨x,H1,I1,r1,q1⟩=>?_
 refine thn (hb pins s1 σ H1 _ I1 q1) λ u s2 ⟨y,H2,I2,r2,q2⟩=>?_
 exact hf v u s2 x y H2 I2 r1 r2 q2
theorem pe_op {op:Operator}{r:R2}(ho:OpR X (binaryOp op) r) (ha:PE X a ta) (hb:PE X b tb):PE X (.BinOp a op b pos) (tOp r ta tb):=by
 intro pins s σ H Q I h
 exact wpAny_BinOp (binT ha hb I h λ v u s2 x y H2 I2 rx ry q=>ho pins s2 σ H2 x y v u Q I2 rx ry q)
theorem pe_un {op:UnaryOp}{r:V->Hp->VK->Prop}(ho:UnR X (unaryOp op) r) (ha:PE X a ta):PE X (.UnaryOp op a pos) (tUn r ta):=by
 intro pins s σ H Q I h
 exact UnaryOp_ (thn (ha pins s σ H _ I h) λ v s1 ⟨x,H1,I1,r1,q1⟩=>ho pins s1 σ H1 x v Q I1 r1 q1)
theorem opI {f:Value->Value->Sem Value}{C:Int->Int->Prop}{g:Int->Int->Int}
  (rule:∀ (i j:Int) (t u:Tok) (s:Shared) (Q:Value->Shared->Prop) (E:Value->Shared->Prop),C i j->Q (.int (g i j) s.toks) { s with toks:=s.toks+1 }->wpAny (model X.prog X.w) X.A (f (.int i t) (.int j u)) Q E s) :
  OpR X f (rI C λ i j=>.int (g i j)):=by
 intro pins s σ H x y v u Q I rx ry h
 obtain ⟨i,j,rfl,rfl,hc,q⟩:=h
 obtain ⟨t,rfl⟩:=rx
 obtain ⟨t',rfl⟩:=ry
 exact rule i j t t' s _ _ hc ⟨.int (g i j),H,I.tok _,⟨_,rfl⟩,q⟩
theorem opI0 {f:Value->Value->Sem Value}{g:Int->Int->Int}
  (rule:∀ (i j:Int) (t u:Tok) (s:Shared) (Q:Value->Shared->Prop) (E:Value->Shared->Prop),Q (.int (g i j) s.toks) { s with toks:=s.toks+1 }->wpAny (model X.prog X.w) X.A (f (.int i t) (.int j u)) Q E s) :
  OpR X f (rI0 λ i j=>.int (g i j)):=by
 intro pins s σ H x y v u Q I rx ry h
 obtain ⟨i,j,rfl,rfl,q⟩:=h
 obtain ⟨t,rfl⟩:=rx
 obtain ⟨t',rfl⟩:=ry
 exact rule i j t t' s _ _ ⟨.int (g i j),H,I.tok _,⟨_,rfl⟩,q⟩
theorem opB0 {f:Value->Value->Sem Value}{g:Int->Int->Bool}
  (rule:∀ (i j:Int) (t u:Tok) (s:Shared) (Q:Value->Shared->Prop) (E:Value->Shared->Prop),Q (.bool (g i j)) s->wpAny (model X.prog X.w) X.A (f (.int i t) (.int j u)) Q E s) :
  OpR X f (rI0 λ i j=>.bl (g i j)):=by
 intro pins s σ H x y v u Q I rx ry h
 obtain ⟨i,j,rfl,rfl,q⟩:=h
 obtain ⟨t,rfl⟩:=rx
 obtain ⟨t',rfl⟩:=ry
 exact rule i j t t' s _ _ ⟨.bl (g i j),H,I,rfl,q⟩
def CDiv (i j:Int):Prop:=0 < j/\j < 1073741824
def CPow (i j:Int):Prop:=0<=j/\j<=1000000/\i.natAbs < 2 ^ 64
def CMul (i j:Int):Prop:=(-(2 ^ 64) < i/\i < 2 ^ 64)\/(-(2 ^ 64) < j/\j < 2 ^ 64)
theorem CMul.ok {i j:Int}(h:CMul i j):IntMulOk i j:=by
 rcases h with ⟨h1,h2⟩|⟨h1,h2⟩
 ·exact .of_left (intBits_le_64 h1 h2)
 ·exact .of_right (intBits_le_64 h1 h2)
theorem op_add:OpR X (binaryOp .Add) (rI0 λ i j=>.int (i+j)):=opI0 λ _ _ _ _ _ _ _ q=>add_int q
theorem op_sub:OpR X (binaryOp .Sub) (rI0 λ i j=>.int (i - j)):=opI0 λ _ _ _ _ _ _ _ q=>sub_int q
theorem op_mul:OpR X (binaryOp .Mult) (rI CMul λ i j=>.int (i * j)):=opI λ _ _ _ _ _ _ _ hc q=>mul_int q hc.ok
theorem op_fdiv:OpR X (binaryOp .FloorDiv) (rI CDiv λ i j=>.int (i / j)):=opI λ i j _ _ _ _ _ hc q=>by
 have h1:(0:Int) < j:=hc.1
 have h2:j < 1073741824:=hc.2
 exact floordiv_int (by omega) (by rw [Int.fdiv_eq_ediv_of_nonneg i (by omega)];exact q) (.inl (PyProof.noPylong_small (by omega)))
theorem op_mod:OpR X (binaryOp .Mod) (rI (λ _ j=>0 < j) λ i j=>.int (i % j)):=opI λ i j _ _ _ _ _ hc q=>by
 have h1:(0:Int) < j:=hc
 exact mod_int' (by omega) (by rw [Int.fmod_eq_emod_of_nonneg i (by omega)];exact q)
theorem op_pow:OpR X (binaryOp .Pow) (rI CPow λ i j=>.int (i ^ j.toNat)):=opI λ _ _ _ _ _ _ _ hc q=>pow_int_small hc.1 hc.2.1 hc.2.2 q
theorem unI {f:Value->Sem Value}{g:Int->Int}
  (rule:∀ (i:Int) (t:Tok) (s:Shared) (Q:Value->Shared->Prop) (E:Value->Shared->Prop),Q (.int (g i) s.toks) { s with toks:=s.toks+1 }->wpAny (model X.prog X.w) X.A (f (.int i t)) Q E s) :
  UnR X f (rU λ i=>.int (g i)):=by
 intro pins s σ H x v Q I rx h
 obtain ⟨i,rfl,q⟩:=h
 obtain ⟨t,rfl⟩:=rx
 exact rule i t s _ _ ⟨.int (g i),H,I.tok _,⟨_,rfl⟩,q⟩
theorem un_neg:UnR X (unaryOp .USub) (rU λ i=>.int (-i)):=unI λ _ _ _ _ _ q=>neg_int q
end
def scal:V->V->Bool
 | .non,.non=>true | .non,.int _=>true | .int _,.non=>true | .non,.bl _=>true | .bl _,.non=>true | .non,.str _=>true | .str _,.non=>true
 | .int _,.int _=>true | .bl _,.bl _=>true | .str _,.str _=>true | .byt _,.byt _=>true
 | .int _,.str _=>true | .str _,.int _=>true | .bl _,.str _=>true | .str _,.bl _=>true
 | _,_=>false
def rEq:R2:=λ x y H Q=>scal x y=true/\Q (.bl (decide (x=y))) H
def rNe:R2:=λ x y H Q=>scal x y=true/\Q (.bl (!decide (x=y))) H
theorem dec_int {i j:Int}:decide (V.int i=V.int j)=(i == j):=by
 rw [Bool.eq_iff_iff]
 simp
theorem dec_bl {i j:Bool}:decide (V.bl i=V.bl j)=(i == j):=by
 rw [Bool.eq_iff_iff]
 simp
theorem dec_str {i j:Str}:decide (V.str i=V.str j)=(i == j):=by
 rw [Bool.eq_iff_iff]
 simp
theorem dec_byt {i j:Array UInt8}:decide (V.byt i=V.byt j)=(i.toList == j.toList):=by
 rw [Bool.eq_iff_iff]
 cases i
 cases j
 simp
section
variable {X:Cx}{a b c:Expr}{ta tb tc:TE}{pos:Pos}
theorem fin_bl {pins:List (Addr × Obj)}{σ:St}{H:Hp}{s:Shared}{Q:VK}{k k':Bool}(I:Inv X pins σ H s) (q:Q (.bl k) H) (e:k=k'):EP X pins σ Q (.bool k') s:=by
 subst e
 exact ⟨.bl k,H,I,rfl,q⟩
theorem op_eq:OpR X (compareOp .Eq) rEq:=by
 intro pins s σ H x y v u Q I rx ry h
 obtain ⟨hs,q⟩:=h
 cases x with
 | non=>
  cases rx
  cases y with
  | non=>cases ry;exact PySem.EqNone.eq_none_none (fin_bl I q (by simp))
  | bl j=>cases ry;exact PySem.EqNone.eq_none_bool (fin_bl I q (by simp))
  | int j=>obtain ⟨t',rfl⟩:=ry;exact PySem.EqNone.eq_none_int (fin_bl I q (by simp))
  | str j=>obtain ⟨t',rfl⟩:=ry;exact PySem.EqNone.eq_none_str (fin_bl I q (by simp))
  | _=>exact absurd (show false=true from hs) Bool.false_ne_true
 | bl i=>
  cases rx
  cases y with
  | non=>cases ry;exact PySem.EqNone.eq_bool_none (fin_bl I q (by simp))
  | bl j=>cases ry;exact eq_bool (fin_bl I q dec_bl)
  | str j=>obtain ⟨t',rfl⟩:=ry;exact PySem.EqMixed.eq_bool_str (fin_bl I q (by simp))
  | _=>exact absurd (show false=true from hs) Bool.false_ne_true
 | int i=>
  obtain ⟨t,rfl⟩:=rx
  cases y with
  | non=>cases ry;exact PySem.EqNone.eq_int_none (fin_bl I q (by simp))
  | int j=>obtain ⟨t',rfl⟩:=ry;exact eq_int (fin_bl I q dec_int)
  | str j=>obtain ⟨t',rfl⟩:=ry;exact PySem.EqMixed.eq_int_str (fin_bl I q (by simp))
  | _=>exact absurd (show false=true from hs) Bool.false_ne_true
 | str i=>
  obtain ⟨t,rfl⟩:=rx
  cases y with
  | non=>cases ry;exact PySem.EqNone.eq_str_none (fin_bl I q (by simp))
  | bl j=>cases ry;exact PySem.EqMixed.eq_str_bool (fin_bl I q (by simp))
  | int j=>obtain ⟨t',rfl⟩:=ry;exact PySem.EqMixed.eq_str_int (fin_bl I q (by simp))
  | str j=>obtain ⟨t',rfl⟩:=ry;exact eq_str (fin_bl I q dec_str)
  | _=>exact absurd (show false=true from hs) Bool.false_ne_true
 | byt i=>
  obtain ⟨t,rfl⟩:=rx
  cases y with
  | byt j=>obtain ⟨t',rfl⟩:=ry;exact W.eq_bytes (fin_bl I q dec_byt)
  | _=>exact absurd (show false=true from hs) Bool.false_ne_true
 | _=>cases y<;>exact absurd (show false=true from hs) Bool.false_ne_true
theorem op_ne:OpR X (compareOp .NotEq) rNe:=by
 intro pins s σ H x y v u Q I rx ry h
 obtain ⟨hs,q⟩:=h
 cases x with
 | non=>
  cases rx
  cases y with
  | non=>cases ry;exact PySem.EqNone.ne_none_none (fin_bl I q (by simp))
  | bl j=>cases ry;exact PySem.EqNone.ne_none_bool (fin_bl I q (by simp))
  | int j=>obtain ⟨t',rfl⟩:=ry;exact PySem.EqNone.ne_none_int (fin_bl I q (by simp))
  | str j=>obtain ⟨t',rfl⟩:=ry;exact PySem.EqNone.ne_none_str (fin_bl I q (by simp))
  | _=>exact absurd (show false=true from hs) Bool.false_ne_true
 | bl i=>
  cases rx
  cases y with
  | non=>cases ry;exact PySem.EqNone.ne_bool_none (fin_bl I q (by simp))
  | bl j=>cases ry;exact ne_bool (fin_bl I q (congrArg not dec_bl))
  | str j=>obtain ⟨t',rfl⟩:=ry;exact PySem.EqMixed.ne_bool_str (fin_bl I q (by simp))
  | _=>exact absurd (show false=true from hs) Bool.false_ne_true
 | int i=>
  obtain ⟨t,rfl⟩:=rx
  cases y with
  | non=>cases ry;exact PySem.EqNone.ne_int_none (fin_bl I q (by simp))
  | int j=>obtain ⟨t',rfl⟩:=ry;exact ne_int (fin_bl I q (congrArg not dec_int))
  | str j=>obtain ⟨t',rfl⟩:=ry;exact PySem.EqMixed.ne_int_str (fin_bl I q (by simp))
  | _=>exact absurd (show false=true from hs) Bool.false_ne_true
 | str i=>
  obtain ⟨t,rfl⟩:=rx
  cases y with
  | non=>cases ry;exact PySem.EqNone.ne_str_none (fin_bl I q (by simp))
  | bl j=>cases ry;exact PySem.EqMixed.ne_str_bool (fin_bl I q (by simp))
  | int j=>obtain ⟨t',rfl⟩:=ry;exact PySem.EqMixed.ne_str_int (fin_bl I q (by simp))
  | str j=>obtain ⟨t',rfl⟩:=ry;exact ne_str (fin_bl I q (congrArg not dec_str))
  | _=>exact absurd (show false=true from hs) Bool.false_ne_true
 | byt i=>
  obtain ⟨t,rfl⟩:=rx
  cases y with
  | byt j=>obtain ⟨t',rfl⟩:=ry;exact W.ne_bytes (fin_bl I q (congrArg not dec_byt))
  | _=>exact absurd (show false=true from hs) Bool.false_ne_true
 | _=>cases y<;>exact absurd (show false=true from hs) Bool.false_ne_true
theorem op_lt:OpR X (compareOp .Lt) (rI0 λ i j=>.bl (decide (i < j))):=opB0 λ _ _ _ _ _ _ _ q=>lt_int q
theorem op_le:OpR X (compareOp .LtE) (rI0 λ i j=>.bl (decide (i<=j))):=opB0 λ _ _ _ _ _ _ _ q=>le_int q
theorem op_gt:OpR X (compareOp .Gt) (rI0 λ i j=>.bl (decide (j < i))):=opB0 λ _ _ _ _ _ _ _ q=>gt_int q
theorem op_ge:OpR X (compareOp .GtE) (rI0 λ i j=>.bl (decide (j<=i))):=opB0 λ _ _ _ _ _ _ _ q=>ge_int q
theorem op_in_str:OpR X (compareOp .In) (λ x y H Q=>∃ i j,x=.str i/\y=.str j/\Q (.bl (!(Builtin.Str.occurrences j i 0 j.length 1).isEmpty)) H):=by
 intro pins s σ H x y v u Q I rx ry h
 obtain ⟨i,j,rfl,rfl,q⟩:=h
 obtain ⟨t,rfl⟩:=rx
 obtain ⟨t',rfl⟩:=ry
 exact in_str (fin_bl I q rfl)
theorem op_isN:OpR X (compareOp .Is) (λ x y H Q=>y=.non/\Q (.bl (decide (x=.non))) H):=by
 intro pins s σ H x y v u Q I rx ry h
 obtain ⟨rfl,q⟩:=h
 cases ry
 refine is_none_gen (fin_bl I q ?_)
 cases x<;>first
  | (cases rx;rfl)
  | (obtain ⟨t,rfl⟩:=rx;rfl)
theorem OpR.or {f:Value->Value->Sem Value}{r r':R2}(h:OpR X f r) (h':OpR X f r'):OpR X f (λ x y H Q=>r x y H Q\/r' x y H Q):=by
 intro pins s σ H x y v u Q I rx ry q
 rcases q with q|q
 ·exact h pins s σ H x y v u Q I rx ry q
 ·exact h' pins s σ H x y v u Q I rx ry q
theorem nomark (b:Expr){op:CmpOp}(h:op ≠ .In:=by decide) (h2:op ≠ .NotIn:=by decide):behindInMarks op b=false:=by
 have e1:(op == CmpOp.In)=false:=by cases op<;>first|rfl|exact absurd rfl h
 have e2:(op == CmpOp.NotIn)=false:=by cases op<;>first|rfl|exact absurd rfl h2
 cases b<;>simp [behindInMarks,e1,e2]
theorem pe_cmpR {op:CmpOp}{r:R2}(ho:OpR X (compareOp op) r) (ha:PE X a ta) (hb:PE X b tb) (hm:behindInMarks op b=false):PE X (.Compare a [op] [b] pos) (tOp r ta tb):=by
 intro pins s σ H Q I h
 exact wpAny_Compare1 (binT ha hb I h λ v u s2 x y H2 I2 rx ry q=>ho pins s2 σ H2 x y v u Q I2 rx ry q) hm
def tTest (t:TE):TT:=λ σ H Q=>t σ H λ x H'=>∃ k,x=.bl k/\Q k H'
theorem pt_cmpR {op:CmpOp}{r:R2}(ho:OpR X (compareOp op) r) (ha:PE X a ta) (hb:PE X b tb) (hm:behindInMarks op b=false):PT X (.Compare a [op] [b] pos) (tTest (tOp r ta tb)):=by
 intro pins s σ H Q I h
 refine wpAny_isTrue_Compare1 (thn (ha pins s σ H _ I h) λ v s1 ⟨x,H1,I1,r1,q1⟩=>thn (hb pins s1 σ H1 _ I1 q1) λ u s2 ⟨y,H2,I2,r2,q2⟩=>
  thn (ho pins s2 σ H2 x y v u _ I2 r1 r2 q2) λ c s3 ⟨z,H3,I3,r3,k,e,q3⟩=>?_) hm
 subst e
 cases r3
 exact wpAny_truthy_bool ⟨H3,I3,q3⟩
def tChain (r r':R2) (ta tb tc:TE):TE:=λ σ H Q=>ta σ H λ x H1=>tb σ H1 λ y H2=>r x y H2 λ z H3=>∃ k,z=.bl k /\
 (if k=true then tc σ H3 λ w' H4=>r' y w' H4 Q else Q (.bl false) H3)
theorem pe_chain {op op':CmpOp}{r r':R2}(ho:OpR X (compareOp op) r) (ho':OpR X (compareOp op') r') (ha:PE X a ta) (hb:PE X b tb) (hc:PE X c tc)
  (hm:lastMarks [op,op'] [b,c]=false:=by with_unfolding_all rfl):PE X (.Compare a [op,op'] [b,c] pos) (tChain r r' ta tb tc):=by
 intro pins s σ H Q I h
 refine Compare_chain (thn (ha pins s σ H _ I h) λ v s1 ⟨x,H1,I1,r1,q1⟩=>chain_link (thn (hb pins s1 σ H1 _ I1 q1) λ u s2 ⟨y,H2,I2,r2,q2⟩=>
  thn (ho pins s2 σ H2 x y v u _ I2 r1 r2 q2) λ d s3 ⟨z,H3,I3,r3,k,e,q3⟩=>?_)) hm
 subst e
 cases r3
 refine wpAny_truthy_bool ?_
 cases k with
 | false=>exact ite_ff ⟨.bl false,H3,I3,rfl,q3⟩
 | true=>exact ite_tt (chain_last (thn (hc pins s3 σ H3 _ I3 q3) λ w' s4 ⟨z',H4,I4,r4,q4⟩=>ho' pins s4 σ H4 y z' u w' Q I4 r2 r4 q4))
theorem pt_chain {op op':CmpOp}{r r':R2}(ho:OpR X (compareOp op) r) (ho':OpR X (compareOp op') r') (ha:PE X a ta) (hb:PE X b tb) (hc:PE X c tc)
  (hm:lastMarks [op,op'] [b,c]=false:=by with_unfolding_all rfl):PT X (.Compare a [op,op'] [b,c] pos) (tTest (tChain r r' ta tb tc)):=by
 intro pins s σ H Q I h
 refine isTrue_chain (thn (ha pins s σ H _ I h) λ v s1 ⟨x,H1,I1,r1,q1⟩=>test_link (thn (hb pins s1 σ H1 _ I1 q1) λ u s2 ⟨y,H2,I2,r2,q2⟩=>
  thn (ho pins s2 σ H2 x y v u _ I2 r1 r2 q2) λ d s3 ⟨z,H3,I3,r3,k,e,q3⟩=>?_)) hm
 subst e
 cases r3
 refine wpAny_truthy_bool ?_
 cases k with
 | false=>
  obtain ⟨k',e',q'⟩:=q3
  cases e'
  exact ite_ff ⟨H3,I3,q'⟩
 | true=>
  refine ite_tt (test_last (thn (hc pins s3 σ H3 _ I3 q3) λ w' s4 ⟨z',H4,I4,r4,q4⟩=>thn (ho' pins s4 σ H4 y z' u w' _ I4 r2 r4 q4) λ d' s5 ⟨z2,H5,I5,r5,k2,e2,q5⟩=>?_))
  subst e2
  cases r5
  exact wpAny_truthy_bool ⟨H5,I5,q5⟩
theorem line63:(sizeLine:Nat) < 2 ^ 63:=by rw [sizeLine_eq];decide
theorem vals1 {x:V}{us:List Value}(r:Vals [x] us):∃ u,us=[u]/\RelV x u:=by
 cases r with
 | cons r1 r2=>cases r2;exact ⟨_,rfl,r1⟩
theorem vals2 {x y:V}{us:List Value}(r:Vals [x,y] us):∃ u w',us=[u,w']/\RelV x u/\RelV y w':=by
 cases r with
 | cons r1 r2=>
  cases r2 with
  | cons r3 r4=>cases r4;exact ⟨_,_,rfl,r1,r3⟩
theorem call_abs:CallR X (.builtin "abs") (λ xs H Q=>∃ i,xs=[.int i]/\Q (.int (if i < 0 then -i else i)) H):=by
 intro pins s σ H xs us Q I r h
 obtain ⟨i,rfl,q⟩:=h
 obtain ⟨u,rfl,t,rfl⟩:=vals1 r
 exact call_abs_int λ u tk=>⟨.int (if i < 0 then -i else i),H,I.tok _,⟨_,rfl⟩,q⟩
theorem call_max2 (hc:X.calm=true):CallR X (.builtin "max") (λ xs H Q=>∃ i j,xs=[.int i,.int j]/\Q (.int (if j > i then j else i)) H):=by
 intro pins s σ H xs us Q I r h
 obtain ⟨i,j,rfl,q⟩:=h
 obtain ⟨u,w',rfl,⟨t,rfl⟩,⟨t',rfl⟩⟩:=vals2 r
 refine max_two_ints (I.ok.hd hc) λ h' tk k=>⟨_,H,I.kept k,?_,q⟩
 by_cases hj:j > i
 ·rw [if_pos hj,if_pos hj];exact ⟨_,rfl⟩
 ·rw [if_neg hj,if_neg hj];exact ⟨_,rfl⟩
theorem call_min2 (hc:X.calm=true):CallR X (.builtin "min") (λ xs H Q=>∃ i j,xs=[.int i,.int j]/\Q (.int (if j < i then j else i)) H):=by
 intro pins s σ H xs us Q I r h
 obtain ⟨i,j,rfl,q⟩:=h
 obtain ⟨u,w',rfl,⟨t,rfl⟩,⟨t',rfl⟩⟩:=vals2 r
 refine min_two_ints (I.ok.hd hc) λ h' tk k=>⟨_,H,I.kept k,?_,q⟩
 by_cases hj:j < i
 ·rw [if_pos hj,if_pos hj];exact ⟨_,rfl⟩
 ·rw [if_neg hj,if_neg hj];exact ⟨_,rfl⟩
theorem call_int1:CallR X (.type "int") (λ xs H Q=>(∃ i,xs=[.int i]/\Q (.int i) H)\/∃ k,xs=[.bl k]/\Q (.int (if k then 1 else 0)) H):=by
 intro pins s σ H xs us Q I r h
 rcases h with ⟨i,rfl,q⟩|⟨k,rfl,q⟩
 ·obtain ⟨u,rfl,t,rfl⟩:=vals1 r
  exact call_int_int ⟨.int i,H,I,⟨_,rfl⟩,q⟩
 ·obtain ⟨u,rfl,r1⟩:=vals1 r
  cases r1
  exact call_int_bool ⟨.int (if k then 1 else 0),H,I.tok _,⟨_,rfl⟩,q⟩
end
end L2
namespace L2
open PySem PySem.Spec PyProof.Rows
structure ObjM (h:Heap) (x dx C:Addr) (mA:Str->Option Value):Prop where
 obj:h.get? x=some (W.instObj C dx)
 ns:h.Ns1 dx mA
 ne:dx ≠ x
theorem lookIn_ns {h:Heap}{dx:Addr}{mA:Str->Option Value}(n:h.Ns1 dx mA):∃ od,h.get? dx=some od/\∀ name,W.lookIn name od=some (mA name):=by
 obtain ⟨o,es,ep,ho,hd,hk,_,hm⟩:=n
 refine ⟨o,ho,λ name=>?_⟩
 have e:=hm name
 unfold nsFind findBy at e
 rw [←Array.find?_toList] at e
 unfold W.lookIn
 rw [hd]
 dsimp only
 split
 ·rename_i y q
  rw [q] at e
  exact congrArg some e
 ·rename_i q
  rw [q] at e
  have a:es.toList.any (·.refKey)=false:=by
   rw [List.any_eq_false]
   intro y hy
   obtain ⟨z,t,hkey⟩:=hk y (Array.mem_toList_iff.mp hy)
   simp [DictEntry.refKey,hkey]
  have a':¬ es.toList.any (·.refKey)=true:=by rw [a];exact Bool.false_ne_true
  rw [if_neg a']
  exact congrArg some e
theorem ObjM.look {h:Heap}{x dx C:Addr}{mA:Str->Option Value}(I:ObjM h x dx C mA):∃ od,W.InstAt h x (W.instObj C dx) C (some od)/\∀ name,W.lookIn name od=some (mA name):=
 let ⟨od,ho,hl⟩:=lookIn_ns I.ns
 ⟨od,⟨I.obj,rfl,rfl,ho⟩,hl⟩
section
variable {prog:Program}{w:World}{A:Around}{E:Value->Shared->Prop}{s:Shared}{K:PySem.W.Frag}{x dx C f:Addr}{mA:Str->Option Value}{name:Str}{v:Value}
theorem get_map {expr:Bool}{Q:Value->Shared->Prop}(X:K.In s.heap) (I:ObjM s.heap x dx C mA) (hg:W.plainGet K C name=true) (hh:W.hasDictIn K C=true)
  (ha:W.findIn K (.ref C) name=some none) (hv:mA name=some v) (hv':W.handedIn v=true) (h:Q v { s with toks:=s.toks+1 }) :
  wpAny (model prog w) A (getAttr (.ref x) name expr) Q E s:=by
 obtain ⟨od,J,hl⟩:=I.look
 exact W.get_value X J (W.plainGet_of hg).1 (W.findObj_own hh ha rfl (by rw [hl,hv])) hv' h
theorem get_meth {pl:Sem Bool}{Q:Value × List Value->Shared->Prop}(X:K.In s.heap) (I:ObjM s.heap x dx C mA) (hg:W.plainGet K C name=true)
  (hf:W.findIn K (.ref C) name=some (some (.ref f))) (ht:W.isFn K (.ref f)=true) (hv:mA name=none) (h:Q (.ref f,[.ref x]) s) :
  wpAny (model prog w) A (getMethod (.ref x) name pl) Q E s:=by
 obtain ⟨od,J,hl⟩:=I.look
 exact W.method_fn X J (W.plainGet_of hg).1 (W.plainGet_of hg).2 hf (beq_iff_eq.mp ht) (by show (W.lookIn name od).map (·.isSome)=some false;rw [hl,hv];rfl) h
theorem set_map {ns:List Str}{Q:Unit->Shared->Prop}(X:K.In s.heap) (I:ObjM s.heap x dx C mA)
  (hs:W.findIn K (.ref C) "__setattr__"=some (some (.builtin "object.__setattr__"))) (hp:W.plainOver K C=true) (ht:W.takerIn K C name=some none) (hh:W.hasDictIn K C=true)
  (hw:PySem.Within mA ns) (hsz:ns.length<=sizeLine)
  (h:∀ h',ObjM h' x dx C (λ y=>if y=name then some v else mA y)->Heap.SameBut dx s.heap h'->Q () { s with heap:=h',toks:=s.toks+2 }) :
  wpAny (model prog w) A (setAttr (.ref x) name v) Q E s:=by
 obtain ⟨od,J,hl⟩:=I.look
 refine W.set_plain X J hs (W.osa_open (s:={ s with toks:=s.toks+1 }) (r:=none) X J hp ht λ b=>?_)
 obtain ⟨cd,hc,hd'⟩:=W.any_some hh
 have hx:s.heap.get? x=some ⟨.ref C,some dx,.plain,#[]⟩:=I.obj
 refine wpAny_bind (wpAny_pure (wpAny_bind (wpAny_bind (wpAny_loadPart hx (wpAny_bind (W.Looks.here (s:={ s with toks:=s.toks+1 }) (W.looks_clsIn X hc) ?_))))))
 rw [hd']
 refine wpAny_pure (a:=some dx) (wpAny_bind (wpAny_pure (wpAny_bind ?_)))
 refine wpAny_nsSet1 (s:={ s with toks:=s.toks+1 }) I.ns λ h' hn2 hs2=>?_
 obtain ⟨oD,esD,epD,hoD,hdD,hcD⟩:=hn2.count (PySem.Within.cons name v hw)
 refine wpAny_bind (wpAny_lookBehind hoD (by rw [hdD];exact pastItsLine_dict (Nat.le_trans hcD (by rw [List.length_cons];omega))) ?_)
 exact wpAny_pure (h _ ⟨(hs2.2 _ (Ne.symm I.ne)).trans I.obj,hn2,I.ne⟩ hs2)
theorem make_map {R:Result->Shared->Prop}{vs:List Value}{kw:List (Str × Value)}(X:K.In s.heap) (hm:W.makesIn K C=true)
  (hi:W.findIn K (.ref C) "__init__"=some (some (.ref f))) (hf:W.typeIn K (.ref f)=some (.type "function"))
  (h:codeAny (model prog w) (A.under (.builtin "type.__call__" ⟨.ref C::vs,kw⟩)) (.call (.ref f) ⟨.ref (s.heap.objs.size+1)::vs,kw⟩) (W.InitBack (s.heap.objs.size+1) R)
   { s with heap:=(s.heap.push W.emptyDict).push (W.instObj C s.heap.objs.size) }) :
  codeAny (model prog w) A (.call (.ref C) ⟨vs,kw⟩) R s:=by
 obtain ⟨hh,g,d,t,os⟩:=s
 exact W.make_core (W.makes_of X hm) (W.looks_findIn X hi) (λ self=>W.bind_fn X self hf) (.inl rfl) h
theorem make_map0 {R:Result->Shared->Prop}(X:K.In s.heap) (hm:W.makesIn K C=true)
  (hi:W.findIn K (.ref C) "__init__"=some (some (.builtin "object.__init__")))
  (hb:∀ self,W.Looks (model prog w) s.heap (bindSpecial (.builtin "object.__init__") self) (.builtin "object.__init__",[self]))
  (h:codeAny (model prog w) (A.under (.builtin "type.__call__" ⟨[.ref C],[]⟩)) (.call (.builtin "object.__init__") ⟨[.ref (s.heap.objs.size+1)],[]⟩) (W.InitBack (s.heap.objs.size+1) R)
   { s with heap:=(s.heap.push W.emptyDict).push (W.instObj C s.heap.objs.size) }) :
  codeAny (model prog w) A (.call (.ref C) ⟨[],[]⟩) R s:=by
 obtain ⟨hh,g,d,t,os⟩:=s
 exact W.make_core (W.makes_of X hm) (W.looks_findIn X hi) hb (.inr ⟨rfl,rfl⟩) h
end
def putF (f:Str) (v:V):List (Str × V)->List (Str × V)
 | []=>[(f,v)]
 | (g,x)::r=>if g=f then (g,v)::r else (g,x)::putF f v r
theorem lookup_putF (f g:Str) (v:V):∀ fs:List (Str × V),(putF f v fs).lookup g=if g=f then some v else fs.lookup g
 | []=>by
  show List.lookup g [(f,v)]=_
  by_cases h:g=f
  ·have hb:(g == f)=true:=beq_iff_eq.mpr h
   simp only [List.lookup,hb,if_pos h]
  ·have hb:(g == f)=false:=beq_eq_false_iff_ne.mpr h
   simp only [List.lookup,hb,if_neg h]
 | (k,x)::r=>by
  have ih:=lookup_putF f g v r
  rw [show putF f v ((k,x)::r)=(if k=f then (k,v)::r else (k,x)::putF f v r) from rfl]
  by_cases hk:k=f
  ·rw [if_pos hk]
   by_cases h:g=k
   ·have hb:(g == k)=true:=beq_iff_eq.mpr h
    simp only [List.lookup,hb,if_pos (h.trans hk)]
   ·have hb:(g == k)=false:=beq_eq_false_iff_ne.mpr h
    simp only [List.lookup,hb,if_neg (λ e:g=f=>h (e.trans hk.symm))]
  ·rw [if_neg hk]
   by_cases h:g=k
   ·have hb:(g == k)=true:=beq_iff_eq.mpr h
    simp only [List.lookup,hb,if_neg (λ e:g=f=>hk (h.symm.trans e))]
   ·have hb:(g == k)=false:=beq_eq_false_iff_ne.mpr h
    simp only [List.lookup,hb]
    exact ih
theorem keys_putF (f:Str) (v:V):∀ fs:List (Str × V),f∈(putF f v fs).map (·.1)/\∀ g,g∈fs.map (·.1)->g∈(putF f v fs).map (·.1)
 | []=>⟨by simp [putF],λ g h=>by simp at h⟩
 | (k,x)::r=>by
  obtain ⟨i1,i2⟩:=keys_putF f v r
  rw [show putF f v ((k,x)::r)=(if k=f then (k,v)::r else (k,x)::putF f v r) from rfl]
  by_cases hk:k=f
  ·rw [if_pos hk]
   subst hk
   exact ⟨by simp,λ g h=>by simpa using h⟩
  ·rw [if_neg hk]
   refine ⟨?_,λ g h=>?_⟩
   ·rw [List.map_cons]
    exact List.mem_cons_of_mem _ i1
   ·rw [List.map_cons] at h ⊢
    rcases List.mem_cons.mp h with e|e
    ·exact List.mem_cons.mpr (.inl e)
    ·exact List.mem_cons_of_mem _ (i2 g e)
theorem length_putF (f:Str) (v:V):∀ fs:List (Str × V),(putF f v fs).length<=fs.length+1
 | []=>by simp [putF]
 | (k,x)::r=>by
  have ih:=length_putF f v r
  rw [show putF f v ((k,x)::r)=(if k=f then (k,v)::r else (k,x)::putF f v r) from rfl]
  by_cases hk:k=f
  ·rw [if_pos hk,List.length_cons,List.length_cons];omega
  ·rw [if_neg hk,List.length_cons,List.length_cons];omega
theorem RelO.some_of {v:V}{o:Option Value}(r:RelO (some v) o):∃ u,o=some u/\RelV v u:=by
 cases o with
 | none=>exact (show False from r).elim
 | some u=>exact ⟨u,rfl,r⟩
theorem RelO.none_of {o:Option Value}(r:RelO none o):o=none:=by
 cases o with
 | none=>rfl
 | some u=>exact (show False from r).elim
theorem handed_of {v:V}{u:Value}(r:RelV v u):W.handedIn u=true:=by
 cases v with
 | non=>cases (show u=Value.none from r);rfl
 | bl b=>cases (show u=Value.bool b from r);rfl
 | int i=>obtain ⟨t,e⟩:=(show ∃ t,u=Value.int i t from r);cases e;rfl
 | str x=>obtain ⟨t,e⟩:=(show ∃ t,u=Value.str x t from r);cases e;rfl
 | byt b=>obtain ⟨t,e⟩:=(show ∃ t,u=Value.bytes b t from r);cases e;rfl
 | flt b=>obtain ⟨t,e⟩:=(show ∃ t,u=Value.float b t from r);cases e;rfl
 | ref a=>cases (show u=Value.ref a from r);rfl
 | ty n=>cases (show u=Value.type n from r);rfl
section
variable {P:Program}{w:World}{H H':Hp}{h h':Heap}{a C dx:Addr}{fs fs':List (Str × V)}
theorem ins_get (hok:HOk P w H h) (e:H a=some (.ins C dx fs)):∃ mA,ObjM h a dx C mA/\(∀ f,RelO (fs.lookup f) (mA f))/\PySem.Within mA (fs.map (·.1))/\fs.length<=1000/\H dx=some (.own a):=by
 obtain ⟨d,z,ne,ob,mA,n,r,q⟩:=(show ObjOk P w H h a (.ins C dx fs) from hok a _ e)
 exact ⟨mA,⟨ob,n,ne⟩,r,q,z,d⟩
end
structure Cls (K:W.Frag) (C:Addr):Prop where
 pg:W.plainGet K C Str.empty=true
 hd:W.hasDictIn K C=true
 po:W.plainOver K C=true
 sa:W.findIn K (.ref C) "__setattr__"=some (some (.builtin "object.__setattr__"))
theorem Cls.get {K:W.Frag}{C:Addr}(c:Cls K C) (f:Str):W.plainGet K C f=true:=c.pg
def NoAttr (K:W.Frag) (C:Addr) (f:Str):Prop:=W.findIn K (.ref C) f=some none
theorem NoAttr.taker {K:W.Frag}{C:Addr}{f:Str}(n:NoAttr K C f):W.takerIn K C f=some none:=by
 unfold W.takerIn
 rw [show W.findIn K (.ref C) f=some none from n]
 rfl
structure Meth (K:W.Frag) (C:Addr) (m:Str) (f:Addr):Prop where
 at_:W.findIn K (.ref C) m=some (some (.ref f))
 fn:W.isFn K (.ref f)=true
 kp:W.keepIn K (.ref f)=true
section
variable {X:Cx}{pins:List (Addr × Obj)}{σ:St}{H:Hp}{s:Shared}{a C dx:Addr}{fs:List (Str × V)}{f:Str}{v:V}{A:Around}{E:Value->Shared->Prop}
theorem getattr_ok {b:Bool}{Q:Value->Shared->Prop}(I:Inv X pins σ H s) (e:H a=some (.ins C dx fs)) (c:Cls X.K C) (n:NoAttr X.K C f) (l:fs.lookup f=some v)
  (h:∀ u s',Inv X pins σ H s'->RelV v u->Q u s'):wpAny (model X.prog X.w) A (getAttr (.ref a) f b) Q E s:=by
 obtain ⟨mA,O,r,_,_,_⟩:=ins_get I.hok e
 obtain ⟨u,hu,ru⟩:=RelO.some_of (v:=v) (o:=mA f) (by rw [←l];exact r f)
 exact get_map I.kIn O (c.get f) c.hd n hu (handed_of ru) (h u _ (I.tok _) ru)
theorem getmeth_ok {m:Str}{g:Addr}{pl:Sem Bool}{Q:Value × List Value->Shared->Prop}(I:Inv X pins σ H s) (e:H a=some (.ins C dx fs)) (c:Cls X.K C) (k:Meth X.K C m g) (l:fs.lookup m=none)
  (h:Q (.ref g,[.ref a]) s):wpAny (model X.prog X.w) A (getMethod (.ref a) m pl) Q E s:=by
 obtain ⟨mA,O,r,_,_,_⟩:=ins_get I.hok e
 have hn:mA m=none:=RelO.none_of (by rw [←l];exact r m)
 exact get_meth I.kIn O (c.get m) k.at_ k.fn hn h
theorem setattr_ok {y:V}{u:Value}{Q:Unit->Shared->Prop}(I:Inv X pins σ H s) (e:H a=some (.ins C dx fs)) (c:Cls X.K C) (n:NoAttr X.K C f) (hl:fs.length < 1000) (ry:RelV y u)
  (h:∀ s',Inv X pins σ (upd H a (.ins C dx (putF f y fs))) s'->Q () s'):wpAny (model X.prog X.w) A (setAttr (.ref a) f u) Q E s:=by
 obtain ⟨mA,O,r,wi,_,ho⟩:=ins_get I.hok e
 have hz:(fs.map (·.1)).length<=sizeLine:=by rw [List.length_map,sizeLine_eq];omega
 refine set_map I.kIn O c.sa c.po n.taker c.hd wi hz λ h' O' sb=>h _ ?_
 have hd:∃ o,h'.get? dx=some o:=let ⟨o,_,_,e',_⟩:=O'.ns;⟨o,e'⟩
 refine I.write (x:=a) (e:=dx) (by rw [e];exact True.intro) (.inr ho) (λ b q hb z=>(sb.2 b hb).trans z) hd ?_
 refine ⟨by rw [upd_ne O.ne];exact ho,?_,O.ne,O'.obj,_,O'.ns,λ g=>?_,λ g hg=>?_⟩
 ·have:=length_putF f y fs;omega
 ·show RelO ((putF f y fs).lookup g) (if g=f then some u else mA g)
  rw [lookup_putF]
  by_cases q:g=f
  ·rw [if_pos q,if_pos q];exact ry
  ·rw [if_neg q,if_neg q];exact r g
 ·by_cases q:g=f
  ·rw [q];exact (keys_putF f y fs).1
  ·refine (keys_putF f y fs).2 g (wi g λ z=>hg ?_)
   show (if g=f then some u else mA g)=none
   rw [if_neg q];exact z
theorem Inv.made (I:Inv X pins σ H s):Inv X pins σ (upd (upd H s.heap.objs.size (.own (s.heap.objs.size+1))) (s.heap.objs.size+1) (.ins C s.heap.objs.size []))
  { s with heap:=(s.heap.push W.emptyDict).push (W.instObj C s.heap.objs.size) }:=by
 have e1:(s.heap.push W.emptyDict).get? s.heap.objs.size=some W.emptyDict:=Heap.get?_push_size s.heap rfl
 have e2:((s.heap.push W.emptyDict).push (W.instObj C s.heap.objs.size)).get? (s.heap.objs.size+1)=some (W.instObj C s.heap.objs.size):=by
  have:=Heap.get?_push_size (s.heap.push W.emptyDict) (o:=W.instObj C s.heap.objs.size) rfl
  rwa [Heap.size_push] at this
 have e3:(s.heap.push W.emptyDict).Ns s.heap.objs.size (λ _=>none):=⟨W.emptyDict,#[],_,e1,rfl,(λ e he=>absurd he (by simp)),λ _=>rfl⟩
 have I1:=I.laid (a:=s.heap.objs.size) (o:=.own (s.heap.objs.size+1)) (h':=s.heap.push W.emptyDict) (t':=s.toks) (λ b u q=>Heap.get?_push_of_some _ q) (Nat.le_refl _) ⟨_,e1⟩
 refine I1.laid (a:=s.heap.objs.size+1) (o:=.ins C s.heap.objs.size []) (t':=s.toks) (λ b u q=>Heap.get?_push_of_some _ q) (Nat.le_of_eq (Heap.size_push _ _)) ?_
 have ne:s.heap.objs.size ≠ s.heap.objs.size+1:=Nat.ne_of_lt (Nat.lt_succ_self _)
 refine ⟨by rw [upd_ne ne,upd_same],Nat.zero_le _,ne,e2,λ _=>none,(Heap.Ns1.of_empty e3).at λ o q=>Heap.get?_push_of_some _ q,λ _=>True.intro,λ y hy=>absurd rfl hy⟩
theorem attr_of {prog:Program}{w:World}{env:Env}{e:Expr}{f:Str}{pos:Pos}{s:Shared}{Q:Value->Shared->Prop}(hb:attributeBase e f env (eval e env)=eval e env)
  (h:wpAny (model prog w) A (eval e env) (λ o s₁=>wpAny (model prog w) A (getAttr o f true) Q E s₁) E s):wpAny (model prog w) A (eval (.Attribute e f pos) env) Q E s:=
 Attribute_any_ h (by rw [arm_eval_Attribute,hb])
end
section
variable {X:Cx}{o e value:Expr}{f:Str}{pos pos' tpos:Pos}{ta tv:TE}
end
section
variable {X:Cx}{pins:List (Addr × Obj)}{σ:St}{H:Hp}{s:Shared}{A:Around}{E:Value->Shared->Prop}{Q:Value->Shared->Prop}{c:Value}{b:Bool}
inductive TyOf (K:PySem.W.Frag) (H:Hp):V->Value->Prop where
 | non:TyOf K H .non (.type "NoneType")
 | bl (x:Bool):TyOf K H (.bl x) (.type "bool")
 | int (i:Int):TyOf K H (.int i) (.type "int")
 | str (x:Str):TyOf K H (.str x) (.type "str")
 | flt (x:UInt64):TyOf K H (.flt x) (.type "float")
 | lst {a:Addr} {xs:List V} (e:H a=some (.lst xs)):TyOf K H (.ref a) (.type "list")
 | frz {a:Addr} {o:Obj} {xs:List V} (e:H a=some (.frz o (.lst xs))):TyOf K H (.ref a) (.type "list")
 | tup {a:Addr} {xs:List V} (e:H a=some (.tup xs)):TyOf K H (.ref a) (.type "tuple")
 | dK {a:Addr} {kvs:List (Key × V)} (e:H a=some (.dK kvs)):TyOf K H (.ref a) (.type "dict")
 | dT {a:Addr} {kvs:List (List Key × V)} (e:H a=some (.dT kvs)):TyOf K H (.ref a) (.type "dict")
 | ins {a C dx:Addr} {fs:List (Str × V)} (e:H a=some (.ins C dx fs)) (cl:Cls K C) (ha:PySem.W.findIn K (.ref C) "__class__"=some (some (.builtin "object.__class__")))
   (hn:PySem.W.specialIn K (.builtin "object.__class__") "__get__"=some (some (.builtin "getset_descriptor.__get__"))) (htk:PySem.W.takesIn K (.builtin "object.__class__")=some true)
   (hm:PySem.W.mroIn K C (.type "object")=some true):TyOf K H (.ref a) (.ref C)
theorem isinst_ok {x:V}{u t:Value}(I:Inv X pins σ H s) (rx:RelV x u) (ty:TyOf X.K H x t) (e:W.kitOne X.K t c=some b) (h:∀ tk,Q (.bool b) { s with toks:=tk }) :
  wpAny (model X.prog X.w) A (call (.builtin "isinstance") [u,c]) Q E s:=by
 cases ty with
 | non=>cases (show u=Value.none from rx);exact W.kia_one W.kitx_none I.kIn True.intro e (λ z=>nomatch z) h
 | bl y=>cases (show u=Value.bool y from rx);exact W.kia_one W.kitx_bool I.kIn True.intro e (λ z=>nomatch z) h
 | int i=>obtain ⟨t,q⟩:=(show ∃ t,u=Value.int i t from rx);cases q;exact W.kia_one W.kitx_int I.kIn True.intro e (λ z=>nomatch z) h
 | str y=>obtain ⟨t,q⟩:=(show ∃ t,u=Value.str y t from rx);cases q;exact W.kia_one W.kitx_str I.kIn True.intro e (λ z=>nomatch z) h
 | flt y=>obtain ⟨t,q⟩:=(show ∃ t,u=Value.float y t from rx);cases q;exact W.kia_one W.kitx_float I.kIn True.intro e (λ z=>nomatch z) h
 | @lst a xs ea=>
  cases (show u=Value.ref a from rx)
  obtain ⟨_,_,n,_,h1⟩:=(show ObjOk X.prog X.w H s.heap a (.lst xs) from I.hok a _ ea)
  exact W.kia_one W.kitx_list I.kIn ⟨_,h1,rfl⟩ e (λ z=>nomatch z) h
 | @frz a ob xs ea=>
  cases (show u=Value.ref a from rx)
  obtain ⟨_,_,_,n,_,h1⟩:=(show ObjOk X.prog X.w H s.heap a (.frz ob (.lst xs)) from I.hok a _ ea)
  exact W.kia_one W.kitx_list I.kIn ⟨_,h1,rfl⟩ e (λ z=>nomatch z) h
 | @tup a xs ea=>
  cases (show u=Value.ref a from rx)
  obtain ⟨_,_,_,p⟩:=(show ObjOk X.prog X.w H s.heap a (.tup xs) from I.hok a _ ea)
  obtain ⟨o,h1,h2,_⟩:=p
  exact W.kia_one W.kitx_tuple I.kIn ⟨o,h1,h2⟩ e (λ z=>nomatch z) h
 | @dK a kvs ea=>
  cases (show u=Value.ref a from rx)
  obtain ⟨_,_,vs,_,p⟩:=(show ObjOk X.prog X.w H s.heap a (.dK kvs) from I.hok a _ ea)
  obtain ⟨o,es,ep,h1,h2,_⟩:=p
  exact W.kia_one W.kitx_dict I.kIn ⟨o,h1,h2.1⟩ e (λ z=>nomatch z) h
 | @dT a kvs ea=>
  cases (show u=Value.ref a from rx)
  obtain ⟨_,_,xs,_,o,es,ep,h1,h2,_⟩:=(show ObjOk X.prog X.w H s.heap a (.dT kvs) from I.hok a _ ea)
  exact W.kia_one W.kitx_dict I.kIn ⟨o,h1,h2.1⟩ e (λ z=>nomatch z) h
 | @ins a C dx fs ea cl ha hn htk hm=>
  cases (show u=Value.ref a from rx)
  obtain ⟨mA,O,_⟩:=ins_get I.hok ea
  obtain ⟨od,J,_⟩:=O.look
  exact W.kia_one (W.kitx_own (cl.get _) cl.hd ha hn htk hm) I.kIn J e (λ z=>nomatch z) h
end
end L2
namespace L2
open PySem PySem.Spec PyProof.Rows
structure Room (k:Nat) (A:Around):Prop where
 hd:A.handled=none
 dp:A.depth+3 * k+5 < recursionLimit
 un:A.units+16 * k+200 < cLine
theorem Room.mono {j k:Nat}{A:Around}(r:Room k A) (h:j<=k):Room j A:=⟨r.hd,by have:=r.dp;omega,by have:=r.un;omega⟩
theorem Room.deeper {k:Nat}{A:Around}(r:Room (k+1) A) (env:Env):Room k (A.deeper env):=
 ⟨r.hd,by have:=r.dp;show A.depth+1+3 * k+5 < _;omega,by have:=r.un;show A.units+3+16 * k+200 < _;omega⟩
theorem make_depth {A:Around}{C:Addr}{us:List Value}{kw:List (Str × Value)}:(A.under (.builtin "type.__call__" ⟨.ref C::us,kw⟩)).depth=A.depth+1:=by
 first|rfl|simp [Around.under,Code.weight,Code.isCreation,Code.isGuard,Code.isCaller,Code.frames,Code.isFrame,guardIds]
theorem make_units {A:Around}{C:Addr}{us:List Value}{kw:List (Str × Value)}:(A.under (.builtin "type.__call__" ⟨.ref C::us,kw⟩)).units=A.units+1:=by
 first|rfl|simp [Around.under,Code.cUnits,Code.frames,Code.isFrame]
theorem Room.make {k:Nat}{A:Around}(r:Room (k+1) A) (C:Addr) (us:List Value) (kw:List (Str × Value)):Room k (A.under (.builtin "type.__call__" ⟨.ref C::us,kw⟩)):=
 ⟨r.hd,by have:=r.dp;rw [make_depth];omega,by have:=r.un;rw [make_units];omega⟩
theorem Room.depth {k:Nat}{A:Around}(r:Room k A):A.depth < recursionLimit:=by have:=r.dp;omega
theorem Room.units {k:Nat}{A:Around}(r:Room k A):A.units+64 < cLine:=by have:=r.un;omega
def tNil:TA:=λ _ H Q=>Q [] H
def tCons (ta:TE) (tr:TA):TA:=λ σ H Q=>ta σ H λ x H1=>tr σ H1 λ xs H2=>Q (x::xs) H2
section
variable {X:Cx}{e:Expr}{es:List Expr}{te:TE}{t:TA}{pos:Pos}
theorem pa_nil:PA X [] tNil:=λ _ _ _ _ H Q I h=>Calls.spliced_nil ⟨[],H,I,.nil,h⟩
theorem pa_cons (ha:PE X e te) (hr:PA X es t) (hs:starEach (e::es) X.env=(false,eval e X.env)::starEach es X.env:=by rfl):PA X (e::es) (tCons te t):=by
 intro pos pins s σ H Q I h
 rw [hs]
 show wpAny _ _ (spliced ((false,eval e X.env)::backTo pos (starEach es X.env))) _ _ s
 refine Calls.spliced_cons (thn (ha pins s σ H _ I h) λ u s1 ⟨x,H1,I1,r1,q1⟩=>?_)
 exact thn (hr pos pins s1 σ H1 _ I1 q1) λ us s2 ⟨xs,H2,I2,r2,q2⟩=>⟨x::xs,H2,I2,.cons r1 r2,q2⟩
end
abbrev Sp:=List V->Hp->VK->XK->Prop
abbrev CXT:=List Env->Hp->Shared->XK->Value->Shared->Prop
structure Env0 (P:Program) (w:World) (K:W.Frag) (mg:Str->Option Value) (base:Heap) (A:Around) (outer:List Env) (s:Shared) (H:Hp):Prop where
 frames:A.frames=some outer
 mod:Mod K mg base
 bs:∀ b o,base.get? b=some o->s.heap.get? b=some o/\H b=none
 bsz:base.objs.size<=s.heap.objs.size
 funs:s.heap.FunFrames base outer
 frf:∀ b∈frs outer,H b=none
 hok:HOk P w H s.heap
 bare:AllBare s.gens
def CE (outer:List Env) (P:Program) (w:World) (H:Hp) (s:Shared) (Q:VK) (u:Value) (s':Shared):Prop:=
 ∃ v H',s'.os=s.os/\AllBare s'.gens/\Un (frs outer) [] H H' s.heap s'.heap/\HOk P w H' s'.heap/\RelV v u/\Q v H'
def CR (CX:CXT) (outer:List Env) (P:Program) (w:World) (H:Hp) (s:Shared) (Q:VK) (E:XK) (r:Result) (s':Shared):Prop:=
 match r with
 | .ok (.ret u)=>CE outer P w H s Q u s'
 | .ok _=>False
 | .error e=>CX outer H s E e s'
structure FnOk (P:Program) (w:World) (K:W.Frag) (mg:Str->Option Value) (base:Heap) (CX:CXT) (k:Nat) (f:Addr) (fd:FuncData) (ps:List Str) (sp:Sp):Prop where
 len:∀ vs H Q E,sp vs H Q E->vs.length=ps.length
 run:∀ (A:Around) (outer:List Env) (s:Shared) (H:Hp) (args:Args) (us:List Value) (vs:List V) (Q:VK) (E:XK),Room k A->Env0 P w K mg base A outer s H->BindsTo s fd args (ps.zip us)->Vals vs us->sp vs H Q E →
  codeAny (model P w) A (.call (.ref f) args) (CR CX outer P w H s Q E) s
theorem FnOk.imp {P:Program}{w:World}{K:W.Frag}{mg:Str->Option Value}{base:Heap}{CX:CXT}{k:Nat}{f:Addr}{fd:FuncData}{ps:List Str}{sp sp':Sp}(F:FnOk P w K mg base CX k f fd ps sp)
  (h:∀ vs H Q E,sp' vs H Q E->sp vs H Q E):FnOk P w K mg base CX k f fd ps sp':=
 ⟨λ vs H Q E q=>F.len vs H Q E (h _ _ _ _ q),λ A outer s H args us vs Q E hr he hb hv hs=>F.run A outer s H args us vs Q E hr he hb hv (h _ _ _ _ hs)⟩
theorem Env0.make {P:Program}{w:World}{K:W.Frag}{mg:Str->Option Value}{base:Heap}{A:Around}{outer:List Env}{s:Shared}{H:Hp}(e:Env0 P w K mg base A outer s H) (C:Addr) (us:List Value) (kw:List (Str × Value)) :
  Env0 P w K mg base (A.under (.builtin "type.__call__" ⟨.ref C::us,kw⟩)) outer s H:=⟨by first|exact e.frames|(simpa [Around.under,Code.envs,Code.isFrame,pushEnvs] using e.frames),e.mod,e.bs,e.bsz,e.funs,e.frf,e.hok,e.bare⟩
section
variable {X:Cx}{pins:List (Addr × Obj)}{σ:St}{H:Hp}{s s':Shared}
theorem Inv.env0 (I:Inv X pins σ H s):Env0 X.prog X.w X.K X.mg X.base X.A X.stack s H:=
 ⟨I.ok.frames,I.ok.mod,I.bs,Nat.le_trans I.ok.bsz I.sz,I.stack,I.stkFree,I.hok,I.bare⟩
theorem Inv.after {Q:VK}{u:Value}(I:Inv X pins σ H s) (h:CE X.stack X.prog X.w H s Q u s'):EP X pins σ Q u s':=by
 obtain ⟨v,H',os,bare,un,hok,r,q⟩:=h
 obtain ⟨hh,g,d,t,os'⟩:=s'
 obtain rfl:os'=s.os:=os
 exact ⟨v,H',I.call (h':=hh) (g':=g) (d':=d) (t':=t) (ch:=[]) un hok bare (λ b z=>absurd z (by simp)),r,q⟩
end
def tCall (sp:Sp) (dvs:List V) (E:XK) (t:TA):TE:=λ σ H Q=>t σ H λ vs H1=>sp (vs++dvs) H1 Q E
def Binds (K:W.Frag) (fd:FuncData) (ps:List Str) (ds:List Value):Prop:=
 ∀ (s:Shared) (us:List Value),K.In s.heap->(us++ds).length=ps.length->BindsTo s fd ⟨us,[]⟩ (ps.zip (us++ds))
theorem Binds.all {K:W.Frag}{fd:FuncData}{ps:List Str}(h:∀ us:List Value,us.length=ps.length->bindArgs fd ⟨us,[]⟩=pure (ps.zip us)):Binds K fd ps []:=λ s us _ hl=>by
 rw [List.append_nil] at hl ⊢
 exact .of_eq (h us hl)
def Passes (CX:CXT) (X:Cx) (E:XK):Prop:=∀ (pins:List (Addr × Obj)) (σ:St) (H:Hp) (s:Shared) (e:Value) (s':Shared),Inv X pins σ H s->CX X.stack H s E e s'->X.xe e s'
section
variable {X:Cx}{CX:CXT}{k:Nat}{f C:Addr}{fd:FuncData}{ps:List Str}{sp:Sp}{dvs:List V}{ds:List Value}{E:XK}{x m:Str}{p pos apos:Pos}{e o:Expr}{es:List Expr}{ta:TE}{t:TA}
theorem run_fn {pins:List (Addr × Obj)}{σ:St}{H:Hp}{s:Shared}{Q:VK}{us:List Value}{vs:List V}(F:FnOk X.prog X.w X.K X.mg X.base CX k f fd ps sp) (hr:Room k X.A) (hb:Binds X.K fd ps ds) (hd:Vals dvs ds) (hx:Passes CX X E)
  (I:Inv X pins σ H s) (r:Vals vs us) (h:sp (vs++dvs) H Q E):wpAny (model X.prog X.w) X.A (call (.ref f) us) (EP X pins σ Q) X.xe s:=by
 have r2:Vals (vs++dvs) (us++ds):=r.append hd
 have hl:(us++ds).length=ps.length:=by rw [←r2.length];exact F.len _ _ _ _ h
 refine wpAny_call (codeAny_mono (F.run X.A X.stack s H ⟨us,[]⟩ (us++ds) (vs++dvs) Q E hr I.env0 (hb s us I.kIn hl) r2 h) λ r s' hq=>?_)
 cases r with
 | error e=>exact hx pins σ H s e s' I hq
 | ok fl=>
  cases fl with
  | ret u=>exact I.after hq
  | next=>exact False.elim hq
  | brk=>exact False.elim hq
  | cont=>exact False.elim hq
theorem pe_call (F:FnOk X.prog X.w X.K X.mg X.base CX k f fd ps sp) (hr:Room k X.A) (hg:Gl X x) (hm:X.mg x=some (.ref f)) (hk:W.keepIn X.K (.ref f)=true) (hb:Binds X.K fd ps ds) (hd:Vals dvs ds) (hx:Passes CX X E)
  (ha:PA X (e::es) t) (hdb:(x == ("__debug__":Str))=false:=by decide) (he:starEach (e::es) X.env=(false,eval e X.env)::starEach es X.env:=by rfl) (hpl:(backTo pos (starEach es X.env)).any (·.1)=false:=by rfl) :
  PE X (.Call (.Name x p) (e::es) [] pos) (tCall sp dvs E t):=by
 intro pins s σ H Q I h
 refine wpAny_Call_Name_kw (ld_glob I hg hm ?_ hdb)
 refine W.callWith_K (h₀:=X.base) I.ok.mod.kin hk (thn (ha pos pins s σ H _ I h) λ us s1 ⟨vs,H1,I1,r,q⟩=>⟨I1.kIn,?_⟩) he hpl
 exact run_fn F hr hb hd hx I1 r q
structure Mk (K:W.Frag) (C f:Addr):Prop where
 makes:W.makesIn K C=true
 init:W.findIn K (.ref C) "__init__"=some (some (.ref f))
 fn:W.isFn K (.ref f)=true
 kp:W.keepIn K (.ref C)=true
theorem run_make {pins:List (Addr × Obj)}{σ:St}{H:Hp}{s:Shared}{Q:VK}{us:List Value}{vs:List V}(M:Mk X.K C f) (F:FnOk X.prog X.w X.K X.mg X.base CX k f fd ps sp) (hr:Room (k+1) X.A) (hb:Binds X.K fd ps ds) (hd:Vals dvs ds)
  (hx:Passes CX X E) (I:Inv X pins σ H s) (r:Vals vs us)
  (h:∀ x dx,H x=none->H dx=none->dx ≠ x->sp (.ref x::(vs++dvs)) (upd (upd H dx (.own x)) x (.ins C dx [])) (λ v H2=>v=.non/\Q (.ref x) H2) E) :
  wpAny (model X.prog X.w) X.A (call (.ref C) us) (EP X pins σ Q) X.xe s:=by
 have hq:=h (s.heap.objs.size+1) s.heap.objs.size (I.hok.fresh (Nat.le_succ _)) (I.hok.fresh (Nat.le_refl _)) (Nat.ne_of_lt (Nat.lt_succ_self _))
 have I2:=Inv.made (C:=C) I
 have r2:Vals (V.ref (s.heap.objs.size+1)::(vs++dvs)) (Value.ref (s.heap.objs.size+1)::(us++ds)):=.cons rfl (r.append hd)
 have hl:(Value.ref (s.heap.objs.size+1)::us++ds).length=ps.length:=by
  have e:=r2.length
  rw [F.len _ _ _ _ hq] at e
  exact e.symm
 refine wpAny_call (make_map (f:=f) I.kIn M.makes M.init (beq_iff_eq.mp M.fn) (codeAny_mono (F.run _ X.stack _ _ ⟨Value.ref (s.heap.objs.size+1)::us,[]⟩ (Value.ref (s.heap.objs.size+1)::(us++ds)) _ _ E (hr.make C us [])
  (I2.env0.make C us []) (hb _ (Value.ref (s.heap.objs.size+1)::us) I2.kIn hl) r2 hq) λ r s' hq'=>?_))
 cases r with
 | error e=>exact hx pins σ _ _ e s' I2 hq'
 | ok fl=>
  cases fl with
  | ret u=>
   obtain ⟨v,H',I3,rv,ev,q3⟩:=I2.after hq'
   subst ev
   exact ⟨rv,⟨V.ref (s.heap.objs.size+1),H',I3,rfl,q3⟩⟩
  | next=>exact False.elim hq'
  | brk=>exact False.elim hq'
  | cont=>exact False.elim hq'
end
section
variable {X:Cx}{CX:CXT}{k:Nat}{f C:Addr}{fd:FuncData}{ps ks:List Str}{sp:Sp}{E:XK}{x m:Str}{p pos apos kpos:Pos}{e o:Expr}{es:List Expr}{kws:List Keyword}{te ta:TE}{t tk:TA}{nm:Option Str}
variable {g:List Value->List Value->List Value}{gV:List V->List V->List V}
end
structure FnScope (N P:List Str) (sc:Scope):Prop where
 kind:sc.kind=.function
 co:sc.isCoroutine=false
 gen:sc.isGenerator=false
 nd:N.Nodup
 pre:N.take P.length=P
 par:∀ x∈P,sc.names.lookup x=some .local\/sc.names.lookup x=some .cell
 nofree:∀ y∈sc.names,y.2 ≠ .free
theorem bindL_out {kindOf:Str->Option NameKind}{x:Str}:∀ {binds:List (Str × Value)}{m:Str->Option Value},(∀ v,(x,v) ∉ binds)->bindL kindOf binds m x=m x
 | [],_,_=>rfl
 | (n,v)::r,m,h=>by
  unfold bindL
  rw [bindL_out λ w hw=>h w (List.mem_cons_of_mem _ hw)]
  split
  ·have:x ≠ n:=by rintro rfl;exact h v List.mem_cons_self
   simp [this]
  ·rfl
theorem bindC_out {kindOf:Str->Option NameKind}{x:Str}:∀ {binds:List (Str × Value)}{m:Str->Option Value},(∀ v,(x,v) ∉ binds)->bindC kindOf binds m x=m x
 | [],_,_=>rfl
 | (n,v)::r,m,h=>by
  unfold bindC
  rw [bindC_out λ w hw=>h w (List.mem_cons_of_mem _ hw)]
  split
  ·rfl
  ·have:x ≠ n:=by rintro rfl;exact h v List.mem_cons_self
   simp [this]
theorem bindL_get {kindOf:Str->Option NameKind}{x:Str}{v:Value}:∀ {P:List Str}{vs:List Value}{i:Nat}{m:Str->Option Value},P.Nodup->P[i]? = some x->vs[i]? = some v->kindOf x=some .local →
  bindL kindOf (P.zip vs) m x=some v
 | [],_,_,_,_,h,_,_=>by simp at h
 | _::_,[],_,_,_,_,h,_=>by simp at h
 | p::P,w::vs,0,m,nd,h1,h2,hk=>by
  simp at h1 h2;subst h1;subst h2
  show bindL kindOf ((p,w)::P.zip vs) m p=_
  unfold bindL
  rw [bindL_out λ v hv=>(List.nodup_cons.mp nd).1 (List.of_mem_zip hv).1,if_pos hk]
  simp
 | p::P,w::vs,i+1,m,nd,h1,h2,hk=>by
  show bindL kindOf ((p,w)::P.zip vs) m x=_
  unfold bindL
  exact bindL_get (i:=i) (List.nodup_cons.mp nd).2 (by simpa using h1) (by simpa using h2) hk
theorem bindC_get {kindOf:Str->Option NameKind}{x:Str}{v:Value}:∀ {P:List Str}{vs:List Value}{i:Nat}{m:Str->Option Value},P.Nodup->P[i]? = some x->vs[i]? = some v->kindOf x ≠ some .local →
  bindC kindOf (P.zip vs) m x=some v
 | [],_,_,_,_,h,_,_=>by simp at h
 | _::_,[],_,_,_,_,h,_=>by simp at h
 | p::P,w::vs,0,m,nd,h1,h2,hk=>by
  simp at h1 h2;subst h1;subst h2
  show bindC kindOf ((p,w)::P.zip vs) m p=_
  unfold bindC
  rw [bindC_out λ v hv=>(List.nodup_cons.mp nd).1 (List.of_mem_zip hv).1,if_neg hk]
  simp
 | p::P,w::vs,i+1,m,nd,h1,h2,hk=>by
  show bindC kindOf ((p,w)::P.zip vs) m x=_
  unfold bindC
  exact bindC_get (i:=i) (List.nodup_cons.mp nd).2 (by simpa using h1) (by simpa using h2) hk
def start (N:List Str) (vs:List V):St:=vs.map some++List.replicate (N.length - vs.length) none
def cxOf (CX:CXT) (P:Program) (w:World) (K:W.Frag) (mg:Str->Option Value) (base:Heap) (N:List Str) (qual:Str) (scope:Scope) (f:Addr) (cd:Value) (A:Around) (outer:List Env) (s:Shared) (H:Hp) (E:XK):Cx where
 prog:=P
 w:=w
 K:=K
 mg:=mg
 base:=base
 A:=A.deeper (envOfC qual scope s.heap.objs.size f cd)
 N:=N
 s₀:=s
 H₀:=H
 env:=envOfC qual scope s.heap.objs.size f cd
 outer:=outer
 stack:=envOfC qual scope s.heap.objs.size f cd::outer
 ex:=[]
 calm:=true
 fn:=λ _=>true
 pn:=[]
 xe:=λ e s'=>wpAny (model P w) (A.deeper (envOfC qual scope s.heap.objs.size f cd)) (leaving (envOfC qual scope s.heap.objs.size f cd) e) (λ _ s''=>CX outer H s E e s'') (λ e' s''=>CX outer H s E e' s'') s'
theorem cell_has {sc:Scope}{n:Nat}{x:Str}(h:sc.names.lookup x=some .cell):∃ c,(cellsFrom n sc.names []).lookup x=some c:=by
 have q:=W.cellsFrom_some sc.names n [] (.inl h)
 exact Option.isSome_iff_exists.mp q
theorem inv_start {CX:CXT}{P:Program}{w:World}{K:W.Frag}{mg:Str->Option Value}{base:Heap}{N ps:List Str}{qual:Str}{scope:Scope}{f:Addr}{cd:Value}{A:Around}{outer:List Env}{s s1:Shared}{H:Hp}{E:XK}{us:List Value}{vs:List V}
  (S:FnScope N ps scope) (hd:A.handled=none) (e0:Env0 P w K mg base A outer s H) (hl:vs.length=ps.length) (r:Vals vs us)
  (x:InCallC s s.heap.objs.size (bindL (envOfC qual scope s.heap.objs.size f cd).kindOf (ps.zip us) λ _=>none) (cellsFrom (s.heap.objs.size+1) scope.names []) (bindC (envOfC qual scope s.heap.objs.size f cd).kindOf (ps.zip us) λ _=>none) s1) :
  Inv (cxOf CX P w K mg base N qual scope f cd A outer s H E) [] (start N vs) H s1:=by
 have hpl:ps.length<=N.length:=by have:=congrArg List.length S.pre;rw [List.length_take] at this;omega
 obtain ⟨h1,tk,rfl,hk⟩:=x.done
 have noA:∀ b:Addr,b ∉ (cxOf CX P w K mg base N qual scope f cd A outer s H E).ex:=λ b z=>absurd (show b∈([]:List Addr) from z) (by simp)
 refine ⟨⟨e0.mod,S.kind,rfl,rfl,Nat.le_refl _,λ y z c h1 h2=>?_,λ y hy=>?_,λ y c _ h=>?_,λ _=>hd,Around.frames_deeper e0.frames,.inr ⟨rfl,rfl⟩,λ b z=>absurd z (noA b),e0.bs,e0.bsz,λ b _ _=>noA b,λ b z=>absurd z (noA b),e0.funs,e0.frf⟩,
  rfl,e0.bare,Un.kept hk,⟨_,x.toInCall.ns,λ i y v h1 h2 h3=>?_⟩,λ y c h=>⟨_,x.cell y c h⟩,e0.hok.fresh (Nat.le_refl _),λ y c h=>?_,λ p hp=>absurd (show p∈([]:List (Addr × Obj)) from hp) (by simp),e0.hok.kept hk,?_⟩
 ·exact name_of_addr x.apart (PySem.mem_of_lookup h1) (PySem.mem_of_lookup h2)
 ·have hy:scope.names.lookup y=some .cell\/scope.names.lookup y=some .free:=hy
  rcases hy with hy|hy
  ·exact cell_has hy
  ·exact absurd rfl (S.nofree _ (PySem.mem_of_lookup hy))
 ·exact Nat.le_of_lt (x.above y c (PySem.mem_of_lookup h))
 ·have hi:i < vs.length:=by
   unfold start at h2
   by_cases hi:i < vs.length
   ·exact hi
   ·rw [List.getElem?_append_right (by simpa using hi)] at h2
    rw [List.getElem?_replicate] at h2
    split at h2<;>cases h2
  have ha:vs[i]? = some v:=by
   unfold start at h2
   rw [List.getElem?_append_left (by simpa using hi),List.getElem?_map] at h2
   cases e:vs[i]? with
   | none=>rw [e] at h2;cases h2
   | some a=>rw [e] at h2;cases h2;rfl
  obtain ⟨u,hu,rv⟩:=r.get ha
  have hp:ps[i]? = some y:=by
   rw [←S.pre,List.getElem?_take_of_lt (by omega)];exact h1
  have ndP:ps.Nodup:=by rw [←S.pre];exact S.nd.sublist (List.take_sublist _ _)
  refine ⟨u,rv,?_⟩
  rcases S.par y (List.mem_of_getElem? hp) with k|k
  ·exact .inl ⟨k,bindL_get ndP hp hu k⟩
  ·obtain ⟨c,e⟩:=cell_has (n:=s.heap.objs.size+1) k
   refine .inr ⟨.inl k,c,e,?_⟩
   have q:=x.cell y c e
   rw [bindC_get ndP hp hu (by show scope.names.lookup y ≠ _;rw [k];decide)] at q
   exact q
 ·exact e0.hok.fresh (Nat.le_of_lt (x.above y c (PySem.mem_of_lookup h)))
 ·unfold start
  show _=N.length
  rw [List.length_append,List.length_map,List.length_replicate]
  omega
theorem fn_of {CX:CXT}{P:Program}{w:World}{K:W.Frag}{mg:Str->Option Value}{base:Heap}{k:Nat}{f:Addr}{name qual:Str}{params:Arguments}{body:List Stmt}{scope:Scope}{dV kV doc pm cdv ct oc:Value}{an od:Option Addr}
  {osl:Array (Option Value)} {N ps:List Str} {sp:Sp} (lk:K.lookup f=some ⟨oc,od,.func (W.fnOf name qual params body scope dV kV doc pm an cdv ct),osl⟩) (hcd:W.codeIn K cdv qual=true) (S:FnScope N ps scope)
  (len:∀ vs H Q E,sp vs H Q E->vs.length=ps.length)
  (hbody:∀ (A:Around) (outer:List Env) (s:Shared) (H:Hp) (vs:List V) (Q:VK) (E:XK),Room k (A.deeper (envOfC qual scope s.heap.objs.size f cdv))->sp vs H Q E →
   ∃ t,PSs (cxOf CX P w K mg base N qual scope f cdv A outer s H E) body t/\t { nx:=λ _ H'=>Q .non H',rt:=Q } (start N vs) H) :
  FnOk P w K mg base CX (k+1) f (W.fnOf name qual params body scope dV kV doc pm an cdv ct) ps sp:=by
 refine ⟨len,λ A outer s H args us vs Q E hr e0 hb r hsp=>?_⟩
 have hl:=len _ _ _ _ hsp
 have KX:K.In s.heap:=e0.mod.kin.keeps λ b o e=>(e0.bs b o e).1
 have lim:s.heap.NoLimit:=e0.mod.nolimit.keeps λ b o e=>(e0.bs b o e).1
 have hkind:∀ y∈ps.zip us,scope.names.lookup y.1=some .local\/(scope.names.lookup y.1=some .cell/\((cellsFrom (s.heap.objs.size+1) scope.names []).lookup y.1).isSome=true):=λ ⟨n,v⟩ hy=>by
  rcases S.par n (List.of_mem_zip hy).1 with q|q
  ·exact .inl q
  ·exact .inr ⟨q,W.cellsFrom_some _ _ _ (.inl q)⟩
 refine codeAny_call_function hr.depth (KX _ _ lk) rfl S.co S.gen rfl (W.codeRec_of KX hcd) (hb _ _ _ _ ?_)
 refine wpAny_newFunctionEnv_cells S.kind hkind λ env he s1 x=>?_
 subst he
 refine ⟨lim.keeps x.toInCall.keep,codeAny_func ?_⟩
 obtain ⟨t,ht,hq⟩:=hbody A outer s H vs Q E (hr.deeper _) hsp
 have I:Inv (cxOf CX P w K mg base N qual scope f cdv A outer s H E) [] (start N vs) H s1:=inv_start S hr.hd e0 hl r x
 refine wpAny_mono (ht [] s1 (start N vs) H _ I hq) (λ fl s' hs=>?_) λ e s' hs=>hs
 have fin:∀ {σ':St} {H':Hp} {v:V} {u:Value},Inv (cxOf CX P w K mg base N qual scope f cdv A outer s H E) [] σ' H' s'->RelV v u->Q v H'->CE outer P w H s Q u s':=
  λ {σ' H' v u} J rv q=>⟨v,H',J.os,J.bare,J.base,J.hok,rv,q⟩
 cases fl with
 | ret u=>
  obtain ⟨v,σ',H',J,rv,q⟩:=hs
  exact fin J rv q
 | next=>
  obtain ⟨σ',H',J,q⟩:=hs
  exact fin (v:=V.non) (u:=Value.none) J rfl q
 | brk=>
  obtain ⟨_,_,_,q⟩:=hs
  exact False.elim q
 | cont=>
  obtain ⟨_,_,_,q⟩:=hs
  exact False.elim q
end L2
namespace L2
open PySem PySem.Spec PyProof.Rows
section
variable {X:Cx}{x:Str}{p pos:Pos}{e:Expr}{es:List Expr}{t:TA}{id T:String}{r:List V->Hp->VK->Prop}
def tCB (r:List V->Hp->VK->Prop) (t:TA):TE:=λ σ H Q=>t σ H λ vs H1=>r vs H1 Q
theorem pe_callB (hc:CallR X (.builtin id) r) (hg:Gl X x) (hm:X.mg x=none) (hv:bootBuiltins x=some (.builtin id)) (ha:PA X (e::es) t) (hn:x ≠ "__name__":=by decide) (hdb:(x == ("__debug__":Str))=false:=by decide)
  (he:starEach (e::es) X.env=(false,eval e X.env)::starEach es X.env:=by rfl) (hpl:(backTo pos (starEach es X.env)).any (·.1)=false:=by rfl):PE X (.Call (.Name x p) (e::es) [] pos) (tCB r t):=by
 intro pins s σ H Q I h
 refine wpAny_Call_Name_kw (ld_blt I hg hm hv ?_ hn hdb)
 exact PyProof.Rows.callWith_builtin1 (thn (ha pos pins s σ H _ I h) λ us s1 ⟨vs,H1,I1,r1,q1⟩=>hc pins s1 σ H1 vs us Q I1 r1 q1) he hpl
theorem pe_callTy (hc:CallR X (.type T) r) (hg:Gl X x) (hm:X.mg x=none) (hv:bootBuiltins x=some (.type T)) (ha:PA X (e::es) t) (hn:x ≠ "__name__":=by decide) (hdb:(x == ("__debug__":Str))=false:=by decide)
  (he:starEach (e::es) X.env=(false,eval e X.env)::starEach es X.env:=by rfl) (hpl:(backTo pos (starEach es X.env)).any (·.1)=false:=by rfl):PE X (.Call (.Name x p) (e::es) [] pos) (tCB r t):=by
 intro pins s σ H Q I h
 refine wpAny_Call_Name_kw (ld_blt I hg hm hv ?_ hn hdb)
 exact PyProof.Rows.callWith_type1 (thn (ha pos pins s σ H _ I h) λ us s1 ⟨vs,H1,I1,r1,q1⟩=>hc pins s1 σ H1 vs us Q I1 r1 q1) he hpl
end
end L2
namespace HT
open PySem PyProof.Rows
section
open PySem.SeqAt
open PySem.AutoSeq1 (wpAny_loadPart')
open PySem.MeetsSeq PySem.MeetsSeq2 PySem.MeetsSeq3
end
section
variable {prog:Program}{w:World}{A:Around}{E:Value->Shared->Prop}{s:Shared}
def sIx (n d:Nat):Option Int->Nat
 | none=>d
 | some v=>if v < 0 then (v+(n:Int)).toNat else min v.toNat n
theorem sIx_none (n d:Nat):sIx n d none=d:=rfl
end
end HT
namespace L2
open PySem PySem.Spec PyProof.Rows
abbrev TO:=St->Hp->(Option Int->Hp->Prop)->Prop
section
variable {X:Cx}{e:Expr}{te:TE}{lo hi:Option Expr}{tl th:TO}{pos p2:Pos}
def cutV (xs:List V) (lo hi:Option Int):List V:=(xs.drop (HT.sIx xs.length 0 lo)).take (HT.sIx xs.length xs.length hi - HT.sIx xs.length 0 lo)
end
end L2
namespace L2
open PySem PySem.Spec PyProof.Rows
def ixN (n:Nat) (i:Int):Option Nat:=if 0<=i then (if i < n then some i.toNat else none) else if -(n:Int)<=i then some (i+n).toNat else none
def atI {α:Type}(xs:List α) (i:Int):Option α:=(ixN xs.length i).bind λ j=>xs[j]?
theorem ixN_seq {n:Nat}{i:Int}{j:Nat}(h:ixN n i=some j):seqIndex? i n=some j/\j < n/\-(n:Int)<=i/\i < n:=by
 unfold ixN at h
 by_cases h0:0<=i
 ·rw [if_pos h0] at h
  by_cases h1:i < n
  ·rw [if_pos h1] at h
   have e:i.toNat=j:=Option.some.inj h
   exact ⟨by rw [seqIndex_of h0 h1,e],by omega,by omega,h1⟩
  ·rw [if_neg h1] at h;cases h
 ·rw [if_neg h0] at h
  by_cases h1:-(n:Int)<=i
  ·rw [if_pos h1] at h
   have e:(i+n).toNat=j:=Option.some.inj h
   exact ⟨by rw [seqIndex_neg (by omega) h1,e],by omega,h1,by omega⟩
  ·rw [if_neg h1] at h;cases h
theorem atI_get {α:Type}{xs:List α}{i:Int}{v:α}(h:atI xs i=some v):∃ j,seqIndex? i xs.length=some j/\xs[j]? = some v/\j < xs.length/\-(xs.length:Int)<=i/\i < xs.length:=by
 unfold atI at h
 cases e:ixN xs.length i with
 | none=>rw [e] at h;cases h
 | some j=>
  rw [e] at h
  obtain ⟨h1,h2,h3,h4⟩:=ixN_seq e
  exact ⟨j,h1,h,h2,h3,h4⟩
theorem atI_nat {α:Type}{xs:List α}{j:Nat}{v:α}(h:xs[j]? = some v):atI xs (j:Int)=some v:=by
 have hj:j < xs.length:=(List.getElem?_eq_some_iff.mp h).1
 have e:ixN xs.length (j:Int)=some j:=by
  unfold ixN
  rw [if_pos (by omega),if_pos (by omega)];simp
 unfold atI;rw [e];exact h
theorem atI_last {α:Type}(xs:List α) (v:α):atI (xs++[v]) (-1)=some v:=by
 have hl:(xs++[v]).length=xs.length+1:=by simp
 have e:ixN (xs++[v]).length (-1)=some xs.length:=by
  unfold ixN
  rw [hl,if_neg (by decide),if_pos (by omega)]
  congr 1
  omega
 unfold atI
 rw [e]
 show (xs++[v])[xs.length]? = some v
 simp
def PlainIx (b:Expr):Prop:=∀ o i,subscripted b false o i=operate [o,i] (getItem o i)
def IxR (X:Cx) (r:R2):Prop:=
 ∀ (value slice:Expr) (pins:List (Addr × Obj)) (s:Shared) (σ:St) (H:Hp) (x y:V) (v u:Value) (Q:VK),Inv X pins σ H s->RelV x v->RelV y u->r x y H Q →
  subscripted slice false v u=operate [v,u] (getItem v u)->wpAny (model X.prog X.w) X.A (subscriptTail value slice v u) (EP X pins σ Q) X.xe s
def MtR (X:Cx) (id:String) (r:V->List V->Hp->VK->Prop):Prop:=
 ∀ (pins:List (Addr × Obj)) (s:Shared) (σ:St) (H:Hp) (x:V) (xs:List V) (v:Value) (us:List Value) (Q:VK),Inv X pins σ H s->RelV x v->Vals xs us->r x xs H Q →
  wpAny (model X.prog X.w) X.A (call (.builtin id) (v::us)) (EP X pins σ Q) X.xe s
section
variable {X:Cx}{a b:Expr}{ta tb:TE}{pos:Pos}
theorem IxR.or {r r':R2}(h:IxR X r) (h':IxR X r'):IxR X (λ x y H Q=>r x y H Q\/r' x y H Q):=by
 intro value slice pins s σ H x y v u Q I rx ry q hs
 rcases q with q|q
 ·exact h value slice pins s σ H x y v u Q I rx ry q hs
 ·exact h' value slice pins s σ H x y v u Q I rx ry q hs
theorem pe_ix {r:R2}(hr:IxR X r) (ha:PE X a ta) (hb:PE X b tb) (hs:PlainIx b):PE X (.Subscript a b pos) (tOp r ta tb):=by
 intro pins s σ H Q I h
 exact Subscript_ (binT ha hb I h λ v u s2 x y H2 I2 rx ry q=>hr a b pins s2 σ H2 x y v u Q I2 rx ry q (hs _ _))
def rIxL (K:W.Frag):R2:=λ x y H Q=>∃ p xs i v,x=.ref p/\y=.int i/\SqL K H p xs/\atI xs i=some v/\Q v H
def rIxT (K:W.Frag):R2:=λ x y H Q=>∃ p xs i v,x=.ref p/\y=.int i/\SqT K H p xs/\atI xs i=some v/\Q v H
def rIxS:R2:=λ x y H Q=>∃ z i c,x=.str z/\y=.int i/\z.length<=sizeLine/\atI z.cps.toList i=some c/\Q (.str ⟨#[c]⟩) H
theorem ix_list:IxR X (rIxL X.K):=by
 intro value slice pins s σ H x y v u Q I rx ry h hs
 obtain ⟨p,xs,i,z,rfl,rfl,hq,he,q⟩:=h
 cases rx
 obtain ⟨t,rfl⟩:=ry
 obtain ⟨its,r,pl,hz⟩:=I.list hq
 obtain ⟨j,h1,h2,h3,h4,h5⟩:=atI_get he
 obtain ⟨w,ew,rw'⟩:=r.get h2
 have hl:=r.length
 have hn:=line63
 have fin:EP X pins σ Q w s:=⟨z,H,I,rw',q⟩
 by_cases h0:0<=i
 ·have hj:i.toNat=j:=by
   rw [seqIndex_of h0 h5] at h1
   exact Option.some.inj h1
  exact item_listR pl.isList h0 (by omega) (by rw [hj];simpa using ew) fin hs
 ·have hj:(i+(its.toArray.size:Int)).toNat=j:=by
   rw [seqIndex_neg (by omega) h4] at h1
   rw [List.size_toArray,←hl]
   exact Option.some.inj h1
  exact subscriptTail_builtinR (x:=w) pl.isList.typeIs slot_list_getitem.lookup
   (wpAny_getItem_list_neg (Q:=λ r s'=>r=w/\EP X pins σ Q r s') pl.isList (by omega) (by rw [List.size_toArray]<;>omega) (by omega) (by rw [hj];simpa using ew) ⟨rfl,fin⟩) hs
theorem ix_tup:IxR X (rIxT X.K):=by
 intro value slice pins s σ H x y v u Q I rx ry h hs
 obtain ⟨p,xs,i,z,rfl,rfl,hq,he,q⟩:=h
 cases rx
 obtain ⟨t,rfl⟩:=ry
 obtain ⟨its,r,pl,hz⟩:=I.tuple hq
 obtain ⟨j,h1,h2,h3,h4,h5⟩:=atI_get he
 obtain ⟨w,ew,rw'⟩:=r.get h2
 have hl:=r.length
 have hn:=line63
 have fin:EP X pins σ Q w s:=⟨z,H,I,rw',q⟩
 exact subscriptTail_builtinR (x:=w) pl.typeIs slot_tuple_getitem.lookup
  (getItem_tuple (j:=j) (Q:=λ r s'=>r=w/\EP X pins σ Q r s') pl (by omega) (by omega) (by rw [List.size_toArray,←hl];exact h1) (by simpa using ew) ⟨rfl,fin⟩) hs
theorem ix_str:IxR X rIxS:=by
 intro value slice pins s σ H x y v u Q I rx ry h hs
 obtain ⟨z,i,c,rfl,rfl,hz,he,q⟩:=h
 obtain ⟨t,rfl⟩:=rx
 obtain ⟨t',rfl⟩:=ry
 obtain ⟨j,h1,h2,h3,h4,h5⟩:=atI_get he
 have hl:z.cps.toList.length=z.length:=by simp [Str.length]
 rw [hl] at h1 h4 h5
 have hn:=line63
 exact tail_any (typeIs_str s z t) slot_str_getitem.lookup (getItem_str (c:=c) (by
  have e1:decide (i < -(2 ^ 63:Int))=false:=decide_eq_false (by omega)
  have e2:decide (i >= 2 ^ 63)=false:=decide_eq_false (by omega)
  rw [e1,e2,Bool.or_false]) (by rw [h1];simpa using h2) ⟨.str ⟨#[c]⟩,H,I.tok _,⟨_,rfl⟩,q⟩) hs
theorem mapSeq_set (its:List Value) (n j:Nat) (u:Value):Obj.mapSeq (·.setIfInBounds j u) { cls:=.type "list",data:=.seq its.toArray n }={ cls:=.type "list",data:=.seq (its.set j u).toArray n }:=by
 simp [Obj.mapSeq]
theorem Inv.lst {pins:List (Addr × Obj)}{σ:St}{H:Hp}{s:Shared}{p:Addr}{xs:List V}(I:Inv X pins σ H s) (h:H p=some (.lst xs)) :
  ∃ (its:List Value) (n:Nat),Vals xs its/\s.heap.get? p=some { cls:=.type "list",data:=.seq its.toArray n }/\xs.length<=sizeLine:=by
 obtain ⟨z,its,n,r,e⟩:=I.hok p _ h
 exact ⟨its,n,r,e,z⟩
theorem Inv.lstUpd {pins:List (Addr × Obj)}{σ:St}{H:Hp}{s:Shared}{p:Addr}{xs ys:List V}{its its':List Value}{n n':Nat}{f:Obj->Obj}(I:Inv X pins σ H s) (h:H p=some (.lst xs))
  (ho:s.heap.get? p=some { cls:=.type "list",data:=.seq its.toArray n }) (hf:f { cls:=.type "list",data:=.seq its.toArray n }={ cls:=.type "list",data:=.seq its'.toArray n' }) (r:Vals ys its') (hz:ys.length<=sizeLine) (t:Nat) :
  Inv X pins σ (upd H p (.lst ys)) { s with heap:=s.heap.update p f,toks:=t }:=by
 have e:(s.heap.update p f).get? p=some { cls:=.type "list",data:=.seq its'.toArray n' }:=by
  rw [Heap.get?_update_self f ho (by rw [hf]<;>rfl),hf]
 refine I.write (x:=p) (e:=p) (by rw [h];trivial) (.inl rfl) (λ b u hb q=>(Heap.get?_update_other _ _ (Ne.symm hb)).trans q) ⟨_,e⟩ ?_
 exact ⟨hz,its',n',r,e⟩
def rSetL:V->V->V->Hp->(Hp->Prop)->Prop:=λ o i v H Q=>∃ p xs k j,o=.ref p/\i=.int k/\H p=some (.lst xs)/\ixN xs.length k=some j/\Q (upd H p (.lst (xs.set j v)))
theorem set_list:PSet X rSetL:=by
 intro pins s σ H o i v ov iv u Q I ro ri rv h
 obtain ⟨p,xs,k,j,rfl,rfl,hp,hj,q⟩:=h
 cases ro
 obtain ⟨t,rfl⟩:=ri
 obtain ⟨its,n,r,ho,hz⟩:=I.lst hp
 obtain ⟨h1,h2,h3,h4⟩:=ixN_seq hj
 have hl:=r.length
 have hn:=line63
 have I':Inv X pins σ (upd H p (.lst (xs.set j v))) { s with heap:=s.heap.update p (Obj.mapSeq (·.setIfInBounds j u)) }:=
  I.lstUpd hp ho (mapSeq_set its n j u) (r.set rv j) (by rw [List.length_set];exact hz) s.toks
 by_cases h0:0<=k
 ·have hk:k.toNat=j:=by
   rw [seqIndex_of h0 h4] at h1
   exact Option.some.inj h1
  exact W.ki_setAt ho h0 (by omega) (by rw [List.size_toArray,←hl];exact h4) (by rw [hk];exact ⟨_,I',q⟩)
 ·have hk:(k+(its.toArray.size:Int)).toNat=j:=by
   rw [seqIndex_neg (by omega) h3] at h1
   rw [List.size_toArray,←hl]
   exact Option.some.inj h1
  exact W.ki_setBack ho (by omega) (by rw [List.size_toArray,←hl];exact h3) (by omega) (by rw [hk];exact ⟨_,I',q⟩)
theorem call_len_seq:CallR X (.builtin "len") (λ xs H Q=>∃ p ys,xs=[.ref p]/\(SqL X.K H p ys\/SqT X.K H p ys)/\Q (.int ys.length) H):=by
 intro pins s σ H xs us Q I r h
 obtain ⟨p,ys,rfl,hq,q⟩:=h
 obtain ⟨u,rfl,rx⟩:=vals1 r
 cases rx
 have hn:=line63
 rcases hq with hq|hq
 ·obtain ⟨its,r',pl,hz⟩:=I.list hq
  have hlen:=r'.length
  exact Calls.call_len_list pl.isList (by simp only [List.size_toArray]<;>omega) ⟨.int ys.length,H,I.tok _,⟨s.toks+1,by rw [List.size_toArray,hlen]⟩,q⟩
 ·obtain ⟨its,r',pl,hz⟩:=I.tuple hq
  have hlen:=r'.length
  exact len_tuple pl (by simp only [List.size_toArray]<;>omega) ⟨.int ys.length,H,I.tok _,⟨s.toks+1,by rw [List.size_toArray,hlen]⟩,q⟩
theorem call_len_str:CallR X (.builtin "len") (λ xs H Q=>∃ z,xs=[.str z]/\z.length<=sizeLine/\Q (.int z.length) H):=by
 intro pins s σ H xs us Q I r h
 obtain ⟨z,rfl,hz,q⟩:=h
 obtain ⟨u,rfl,t,rfl⟩:=vals1 r
 have hn:=line63
 exact len_str (by omega) ⟨.int z.length,H,I.tok _,⟨_,rfl⟩,q⟩
theorem CallR.or {f:Value}{r r':List V->Hp->VK->Prop}(h:CallR X f r) (h':CallR X f r'):CallR X f (λ xs H Q=>r xs H Q\/r' xs H Q):=by
 intro pins s σ H xs us Q I rs q
 rcases q with q|q
 ·exact h pins s σ H xs us Q I rs q
 ·exact h' pins s σ H xs us Q I rs q
theorem call_list_of:CallR X (.type "list") (λ xs H Q=>∃ p ys,xs=[.ref p]/\(SqL X.K H p ys\/SqT X.K H p ys)/\∀ l,H l=none->Q (.ref l) (upd H l (.lst ys))):=by
 intro pins s σ H xs us Q I r h
 obtain ⟨p,ys,rfl,hq,q⟩:=h
 obtain ⟨u,rfl,rx⟩:=vals1 r
 cases rx
 have fin:∀ (its:List Value),Vals ys its->ys.length<=sizeLine->∀ (h':Heap) (c':Nat),(∀ b o',s.heap.get? b=some o'->h'.get? b=some o') →
   h'.get? s.heap.objs.size=some { cls:=.type "list",dict:=none,data:=.seq its.toArray c',slots:=#[] }->EP X pins σ Q (.ref s.heap.objs.size) { s with heap:=h' }:=λ its r' hz h' c' kp e=>
  ⟨.ref s.heap.objs.size,_,I.laid (t':=s.toks) kp (Nat.le_refl _) (show ObjOk X.prog X.w _ h' _ (.lst ys) from ⟨hz,its,c',r',e⟩),rfl,q _ (I.hok.fresh (Nat.le_refl _))⟩
 rcases hq with hq|hq
 ·obtain ⟨its,r',pl,hz⟩:=I.list hq
  have hlen:=r'.length
  obtain ⟨o,ho,hc,n,hd⟩:=pl.isList
  exact call_list_seq p (.inl rfl) ho hc hd (λ h' c' kp e=>fin its r' hz h' c' kp e) (by simp only [List.size_toArray]<;>omega)
 ·obtain ⟨its,r',pl,hz⟩:=I.tuple hq
  have hlen:=r'.length
  obtain ⟨o,ho,hc,n,hd⟩:=pl
  exact call_list_seq p (.inr rfl) ho hc hd (λ h' c' kp e=>fin its r' hz h' c' kp e) (by simp only [List.size_toArray]<;>omega)
def tyV (K:W.Frag) (T:String) (x:V) (H:Hp):Prop:=match x with
 | .str _=>T = "str"
 | .int _=>T = "int"
 | .ref p=>(T = "list" /\ ∃ xs,SqL K H p xs)\/(T = "tuple" /\ ∃ o,K.lookup p=some o/\o.cls=.type "tuple" /\ o.dict=none) \/
   (T = "dict" /\ ((∃ kvs,H p=some (.dK kvs))\/∃ kvs,H p=some (.dT kvs)))\/(T = "set" /\ ∃ S n,H p=some (.set S n))
 | _=>False
theorem tyV_is {pins:List (Addr × Obj)}{σ:St}{H:Hp}{s:Shared}{T:String}{x:V}{v:Value}(I:Inv X pins σ H s) (r:RelV x v) (ty:tyV X.K T x H) :
  s.TypeIs v T/\∀ a,v=.ref a->∃ ob,s.heap.get? a=some ob/\ob.dict=none:=by
 cases x with
 | str z=>
  obtain ⟨t,rfl⟩:=r
  cases (show T = "str" from ty)
  exact ⟨typeIs_str s z t,λ _ e=>nomatch e⟩
 | int i=>
  obtain ⟨t,rfl⟩:=r
  cases (show T = "int" from ty)
  exact ⟨typeIs_int s i t,λ _ e=>nomatch e⟩
 | ref p=>
  cases r
  rcases ty with ⟨rfl,xs,hq⟩|⟨rfl,o,hk,hc,hd⟩|⟨rfl,hk⟩|⟨rfl,S,n,hk⟩
  ·obtain ⟨its,_,pl,_⟩:=I.list hq
   refine ⟨pl.isList.typeIs,λ a e=>?_⟩
   cases e
   obtain ⟨o,n,e,c,hd,_⟩:=pl
   exact ⟨o,e,hd⟩
  ·refine ⟨⟨o,I.kIn p o hk,hc⟩,λ a e=>?_⟩
   cases e
   exact ⟨o,I.kIn _ o hk,hd⟩
  ·have z:∃ o,s.heap.get? p=some o/\o.ExactDict:=by
    rcases hk with ⟨kvs,hk⟩|⟨kvs,hk⟩
    ·obtain ⟨_,_,_,_,o,_,_,e,ex,_⟩:=I.hok p _ hk
     exact ⟨o,e,ex⟩
    ·obtain ⟨_,_,_,_,o,_,_,e,ex,_⟩:=I.hok p _ hk
     exact ⟨o,e,ex⟩
   obtain ⟨o,e,ex⟩:=z
   refine ⟨⟨o,e,ex.1⟩,λ a e2=>?_⟩
   cases e2
   exact ⟨o,e,ex.2.1⟩
  ·obtain ⟨o,_,_,_,e,ex,_⟩:=I.hok p _ hk
   refine ⟨⟨o,e,ex.1⟩,λ a e2=>?_⟩
   cases e2
   exact ⟨o,e,ex.2.1⟩
 | _=>exact False.elim ty
def tBM0 (K:W.Frag) (T:String) (r:V->List V->Hp->VK->Prop) (to:TE):TE:=λ σ H Q=>to σ H λ x H1=>tyV K T x H1/\r x [] H1 Q
def tBM (K:W.Frag) (T:String) (r:V->List V->Hp->VK->Prop) (to:TE) (t:TA):TE:=λ σ H Q=>to σ H λ x H1=>tyV K T x H1/\t σ H1 λ xs H2=>r x xs H2 Q
variable {o e:Expr}{es:List Expr}{to:TE}{t:TA}{name:Str}{apos cpos:Pos}{T id:String}{r:V->List V->Hp->VK->Prop}
theorem pe_bm0 (pa:PlainAttrs T) (slot:Slot T name id) (hty:typeOf (.builtin id)=pure (.type "method_descriptor")) (hm:MtR X id r) (ho:PE X o to)
  (hbase:attributeBase o name X.env (eval o X.env)=eval o X.env:=by rfl) (hline:(apos.endLine == cpos.line)=true:=by rfl):PE X (.Call (.Attribute o name apos) [] [] cpos) (tBM0 X.K T r to):=by
 intro pins s σ H Q I h
 refine wpAny_Call_method0_late hbase hline (thn (ho pins s σ H _ I h) λ v s1 ⟨x,H1,I1,r1,ty,q1⟩=>?_)
 obtain ⟨h1,h2⟩:=tyV_is I1 r1 ty
 exact ⟨T,id,pa,slot,hty,h1,h2,Calls.callWith_builtin rfl (PySem.evalArgs_none (hm pins s1 σ H1 x [] v [] Q I1 r1 .nil q1))⟩
theorem pe_bm (pa:PlainAttrs T) (slot:Slot T name id) (hty:typeOf (.builtin id)=pure (.type "method_descriptor")) (hm:MtR X id r) (ho:PE X o to) (ha:PA X (e::es) t)
  (hbase:attributeBase o name X.env (eval o X.env)=eval o X.env:=by rfl)
  (hfew:((backTo cpos (starEach (e::es) X.env)).all (λ x=>!x.1) && (backToKw cpos (keywordEach [] X.env)).all (λ x=>x.1.isSome)
   && decide ((e::es).length+([]:List Keyword).length+(if ([]:List Keyword).isEmpty then 0 else 1) < 30))=true:=by rfl)
  (hline:(apos.endLine == cpos.line)=true:=by rfl) (hs:starEach (e::es) X.env=(false,eval e X.env)::starEach es X.env:=by rfl) (hplain:(backTo cpos (starEach es X.env)).any (·.1)=false:=by rfl) :
  PE X (.Call (.Attribute o name apos) (e::es) [] cpos) (tBM X.K T r to t):=by
 intro pins s σ H Q I h
 refine wpAny_Call_method_late hbase hfew hline rfl (thn (ho pins s σ H _ I h) λ v s1 ⟨x,H1,I1,r1,ty,q1⟩=>?_)
 obtain ⟨h1,h2⟩:=tyV_is I1 r1 ty
 refine ⟨T,id,pa,slot,hty,h1,h2,?_⟩
 have hA:=ha cpos pins s1 σ H1 _ I1 q1
 rw [hs] at hA ⊢
 refine Calls.callWith_builtin (by show (false || (backTo cpos (starEach es X.env)).any (·.1))=false;rw [hplain]<;>rfl) (Calls.evalArgs_plain ?_)
 exact thn hA λ us s2 ⟨vs,H2,I2,r2,q2⟩=>hm pins s2 σ H2 x vs v us Q I2 r1 r2 q2
/- xs.append(e),list.index on a module's tuple .. are MtR facts of 06m -/
end
end L2
namespace L2
open PySem PySem.Spec PyProof.Rows
def MtM (X:Cx) (id:String) (r:V->List V->Hp->VK->Prop):Prop:=
 ∀ (pins:List (Addr × Obj)) (s:Shared) (σ:St) (H:Hp) (x:V) (xs:List V) (v:Value) (us:List Value) (Q:VK),Inv X pins σ H s->RelV x v->Vals xs us->r x xs H Q →
  wpAny (model X.prog X.w) X.A (call (.builtin id) (v::us)) (EP X pins σ Q) X.xe s
theorem Vals.one:∀ {x:V}{us:List Value},Vals [x] us->∃ u,us=[u]/\RelV x u
 | _,_,.cons r .nil=>⟨_,rfl,r⟩
theorem Vals.zero:∀ {us:List Value},Vals [] us->us=[]
 | _,.nil=>rfl
theorem Vals.dropLast {xs:List V}{us:List Value}(h:Vals xs us):Vals xs.dropLast us.dropLast:=by
 induction h with
 | nil=>exact .nil
 | cons r t ih=>
  cases t with
  | nil=>exact .nil
  | cons q t'=>exact .cons r ih
theorem Vals.reverse {xs:List V}{us:List Value}(h:Vals xs us):Vals xs.reverse us.reverse:=by
 induction h with
 | nil=>exact .nil
 | cons r t ih=>rw [List.reverse_cons,List.reverse_cons];exact Vals.append ih (.cons r .nil)
theorem erase_last {α:Type}(l:List α):l.eraseIdx (l.length - 1)=l.dropLast:=by
 induction l with
 | nil=>rfl
 | cons a r ih=>
  cases r with
  | nil=>rfl
  | cons b r=>
   have e:(a::b::r).length - 1=((b::r).length - 1)+1:=by
    have h1:(a::b::r).length=r.length+2:=rfl
    have h2:(b::r).length=r.length+1:=rfl
    omega
   rw [e,List.eraseIdx_cons_succ,ih]
   all_goals rfl
section
variable {X:Cx}{pins:List (Addr × Obj)}{σ:St}{H:Hp}{s:Shared}{l b:Addr}{xs ys zs:List V}
theorem Inv.lset {its its':List Value}{n:Nat}{f:Array Value->Array Value}{t':Nat}(I:Inv X pins σ H s) (hH:H l=some (.lst xs))
  (e:s.heap.get? l=some { cls:=.type "list",data:=.seq its.toArray n }) (hf:f its.toArray=its'.toArray) (hv:Vals ys its') (hz:ys.length<=sizeLine) :
  Inv X pins σ (upd H l (.lst ys)) { s with heap:=s.heap.update l (Obj.mapSeq f),toks:=t' }:=by
 have q:=PySem.IsL.update e f
 rw [hf] at q
 refine I.write (x:=l) (e:=l) (by rw [hH];exact trivial) (.inl rfl) (λ b' u hb hu=>(Heap.get?_update_other s.heap (Obj.mapSeq f) (Ne.symm hb)).trans hu) ⟨_,q⟩ ?_
 exact ⟨hz,its',_,hv,q⟩
theorem Inv.lnew {its:List Value}{t':Nat}(I:Inv X pins σ H s) (hv:Vals ys its) (hz:ys.length<=sizeLine) :
  Inv X pins σ (upd H s.heap.objs.size (.lst ys)) { s with heap:=s.heap.push { cls:=.type "list",data:=.seq its.toArray },toks:=t' }:=
 I.laid (λ _ _ q=>Heap.get?_push_of_some _ q) (Nat.le_refl _) ⟨hz,its,0,hv,Heap.get?_push_size _ rfl⟩
theorem Inv.lstM (I:Inv X pins σ H s) (hH:H l=some (.lst xs)):xs.length<=sizeLine/\∃ (its:List Value) (n:Nat),Vals xs its/\xs.length=its.length/\s.heap.get? l=some { cls:=.type "list",data:=.seq its.toArray n }:=by
 obtain ⟨z,its,n,r,e⟩:=I.hok l _ hH
 exact ⟨z,its,n,r,r.length,e⟩
theorem notLongL {n:Nat}(h:n<=sizeLine):Builtin.List.listTooLong n=false:=by
 unfold Builtin.List.listTooLong
 exact decide_eq_false (by omega)
end
section
variable {X:Cx}
def rAppend:V->List V->Hp->VK->Prop:=λ x vs H Q=>∃ l xs y,x=.ref l/\vs=[y]/\H l=some (.lst xs)/\xs.length < sizeLine/\Q .non (upd H l (.lst (xs++[y])))
theorem mt_append:MtM X "list.append" rAppend:=by
 intro pins s σ H x vs v us Q I rx rv h
 obtain ⟨l,xs,y,rfl,rfl,hH,hz,q⟩:=h
 cases rx
 obtain ⟨u,rfl,ru⟩:=rv.one
 obtain ⟨z,its,n,r,hl,e⟩:=I.lstM hH
 refine call_meets F.slot_list_append ⟨_,e,rfl⟩ F.entry_list_append (F.args_list_append_2 _ _) (PySem.list_append l its.toArray n u (by rw [List.size_toArray];omega)) ⟨e,?_⟩
 refine ⟨.non,_,I.lset (its':=its++[u]) hH e (by simp) (r.append (.cons ru .nil)) ?_,rfl,q⟩
 rw [List.length_append,List.length_singleton]
 omega
def rExtend:V->List V->Hp->VK->Prop:=λ x vs H Q=>∃ l b xs zs,x=.ref l/\vs=[.ref b]/\H l=some (.lst xs)/\H b=some (.lst zs)/\xs.length+zs.length<=sizeLine/\Q .non (upd H l (.lst (xs++zs)))
theorem mt_extend:MtM X "list.extend" rExtend:=by
 intro pins s σ H x vs v us Q I rx rv h
 obtain ⟨l,b,xs,zs,rfl,rfl,hH,hB,hz,q⟩:=h
 cases rx
 obtain ⟨u,rfl,ru⟩:=rv.one
 cases ru
 obtain ⟨z,its,n,r,hl,e⟩:=I.lstM hH
 obtain ⟨z2,its2,n2,r2,hl2,e2⟩:=I.lstM hB
 have hsz:its.toArray.size+its2.toArray.size<=sizeLine:=by rw [List.size_toArray,List.size_toArray];omega
 have hlong:¬ (!its.toArray.isEmpty && Builtin.List.listTooLong (its.toArray.size+its2.toArray.size))=true:=by
  rw [notLongL hsz,Bool.and_false]
  exact Bool.false_ne_true
 refine call_meets F.slot_list_extend ⟨_,e,rfl⟩ F.entry_list_extend (F.args_list_extend_2 _ _)
  (AutoSeq1.list_extend_list_list_0 l its.toArray n b its2.toArray n2 hlong (by rw [List.size_toArray];omega) (by omega)) ⟨e,e2,?_⟩
 refine ⟨.non,_,I.lset (its':=its++its2) hH e (by simp) (r.append r2) ?_,rfl,q⟩
 rw [List.length_append]
 omega
def rPop:V->List V->Hp->VK->Prop:=λ x vs H Q=>∃ l xs y,x=.ref l/\vs=[]/\H l=some (.lst xs)/\xs[xs.length - 1]? = some y/\Q y (upd H l (.lst xs.dropLast))
theorem mt_pop:MtM X "list.pop" rPop:=by
 intro pins s σ H x vs v us Q I rx rv h
 obtain ⟨l,xs,y,rfl,rfl,hH,hy,q⟩:=h
 cases rx
 have hus:=rv.zero
 subst hus
 obtain ⟨z,its,n,r,hl,e⟩:=I.lstM hH
 obtain ⟨u,hu,ru⟩:=r.get hy
 have hy':its.toArray[its.toArray.size - 1]? = some u:=by
  show its.toArray[its.length - 1]? = some u
  rw [←Array.getElem?_toList,←hl]
  exact hu
 refine call_meets F.slot_list_pop ⟨_,e,rfl⟩ F.entry_list_pop (F.args_list_pop_1 _) (MeetsSeq.list_pop_last l its.toArray n u hy' (by rw [List.size_toArray];omega)) ⟨e,?_⟩
 refine ⟨y,_,I.lset (its':=its.dropLast) hH e ?_ r.dropLast ?_,ru,q⟩
 ·show its.toArray.eraseIdxIfInBounds (its.toArray.size - 1)=its.dropLast.toArray
  rw [List.size_toArray,List.eraseIdxIfInBounds_toArray,erase_last]
 ·rw [List.length_dropLast]
  omega
def rReverse:V->List V->Hp->VK->Prop:=λ x vs H Q=>∃ l xs,x=.ref l/\vs=[]/\H l=some (.lst xs)/\Q .non (upd H l (.lst xs.reverse))
theorem mt_reverse:MtM X "list.reverse" rReverse:=by
 intro pins s σ H x vs v us Q I rx rv h
 obtain ⟨l,xs,rfl,rfl,hH,q⟩:=h
 cases rx
 have hus:=rv.zero
 subst hus
 obtain ⟨z,its,n,r,hl,e⟩:=I.lstM hH
 refine call_meets F.slot_list_reverse ⟨_,e,rfl⟩ F.entry_list_reverse (F.args_list_reverse_1 _) (AutoSeq1.list_reverse_list_0 l its.toArray n (by rw [List.size_toArray];omega)) ⟨e,?_⟩
 refine ⟨.non,_,I.lset (its':=its.reverse) hH e (by simp) r.reverse ?_,rfl,q⟩
 rw [List.length_reverse]
 omega
end
section
variable {prog:Program}{w:World}{A:Around}{E:Value->Shared->Prop}{s:Shared}
end
section
variable {X:Cx}
end
end L2
namespace Att
open PySem PySem.W PySem.Calls PyProof.Rows
theorem ints_of_wellAll {P:Params}{h:Heap}:∀ (ns:List Int) (vs:List Value),WellAll P h vs (ns.map WData.int)->IntsAre vs ns:=by
 intro ns
 induction ns with
 | nil=>
  intro vs w
  rw [List.map_nil] at w
  cases w
  exact .nil
 | cons n ns ih=>
  intro vs w
  rw [List.map_cons] at w
  cases w with
  | cons a b=>
   cases a
   exact .cons _ _ (ih _ b)
theorem script_of {l:OpenLaw}{n:Nat}(hn:l.most=some n){P:Params}{h:Heap}{args:List WData}{vals:List Value}
  (hpre:l.row.toRowW.claim.pre args=true) (hwl:WellAll P h vals args) :
  ∃ a vs ns,vals=[Value.ref a]/\args=[WData.list (ns.map WData.int)]/\h.get? a=some { cls:=.type "list",data:=.seq vs.toArray }/\IntsAre vs ns/\ns.length<=n:=by
 have hsh:WShape.hasAll [] args [.list .int]=true:=(pre_splitW hpre).1
 have hc:l.pre.holds [] { args:=args }=true:=(pre_splitW hpre).2
 obtain ⟨d,r,rfl,h1,h2⟩:=hasAllW_cons hsh
 obtain rfl:=hasAllW_nil h2
 obtain ⟨xs,rfl,h3⟩:=hasW_list h1
 obtain ⟨ns,rfl⟩:=items_int h3
 have hlen:ns.length<=n:=by
  unfold OpenLaw.pre at hc
  have h4:(WTm.not (.lt (.lit (.int (n:Int))) (.len (.arg 0)))).holds [] { args:=[.list (ns.map .int)] }=true:=by
   have h4:=(holds_andW hc).1
   rw [hn] at h4
   exact h4
  have h5:=condW_of h4 (w_not (w_lt w_lit (w_len_list (w_arg rfl))))
  rw [List.length_map] at h5
  refine Nat.le_of_not_lt λ q=>?_
  have q':(n:Int) < ((ns.length:Nat):Int):=by omega
  first
   | (rw [decide_eq_true q'] at h5;exact absurd h5 (by decide))
   | (simp at h5;omega)
 cases hwl with
 | cons w1 w2=>
  cases w2
  cases w1 with
  | list ho hall=>exact ⟨_,_,ns,rfl,rfl,ho,ints_of_wellAll ns _ hall,hlen⟩
theorem post_true (l:OpenLaw) (args:List WData):l.row.toRowW.claim.post args (.bool true) args=true:=
 postW_of (r:=l.row.toRowW) (X:=(true == true))
  (show WShape.has [] (.bool true) .bool=true by first|rfl|decide|simp [WShape.has,WShape.arms,WShape.armsAll])
  (show (WTm.eq .res (.lit (.bool true))).value [] { args:=args,res:=some (.bool true),after:=args }=some (.bool (true == true)) from w_eq_bool (w_res rfl) w_lit) rfl
theorem attach_call {l:OpenLaw}{n:Nat}{q:Program}{loose:List Str}{XP:(Str->Option Value)->Heap->Prop}{YP:World->Heap->Prop}{d:DefRec}
  (hn:l.most=some n) (hdf:d.params.defaults=[])
  (call:∀ (w:World) (s₀ s₁:Shared) (mg mb:Str->Option Value) (fa:Addr) (o:Obj) (pm cd doc:Value) (a:Addr) (vs:List Value) (ns:List Int),
   Ground q loose [] XP w s₀ mg mb s₁.heap->YP w s₁.heap →
   s₁.heap.get? fa=some o->o.data=.func (docDef d.name d.params d.body d.scope pm cd doc)->s₁.heap.CodeRec cd d.name->mg d.name=some (.ref fa) →
   s₁.heap.get? a=some { cls:=.type "list",data:=.seq vs.toArray }->IntsAre vs ns->ns.length<=n->s₁.gens=#[] →
   codeAny (model l.prog w) callerA (.call (.ref fa) ⟨[.ref a],[]⟩) (λ r s'=>r=.ok (.ret (.bool true))/\OldK s₁.heap s'.heap/\s'.os=s₁.os/\AllBare s'.gens) s₁) :
  WalkO q loose XP YP l.row.toRowW d [] (λ f vs=>PySem.call f vs):=by
 intro w s₀ s₁ mg mb G Y fa o pm cd doc dV kV ho hd hcd hD hmg hg args vals as hpre hlay hrd hwl hlo
 obtain rfl:dV=.none:=Dflts.none hD hdf
 obtain rfl:kV=.none:=Dflts.noKw hD
 obtain ⟨a,vs,ns,rfl,rfl,hobj,hints,hlen⟩:=script_of hn hpre hwl
 refine enter_call (codeAny_mono (call w s₀ s₁ mg mb fa o pm cd doc a vs ns G Y ho (fd_plain hd) hcd hmg hobj hints hlen hg) λ r s' hq=>?_)
 obtain ⟨rfl,h2,h3,h4⟩:=hq
 exact ⟨.inl ⟨.bool true,.bool true,[],rfl,λ _=>rfl,.bool true,post_true l _,λ _=>⟨List.Pairwise.nil,λ _ hm=>(nomatch hm)⟩⟩,h2,h3,h4⟩
section
variable {prog:Program}{w:World}{A:Around}{E:Value->Shared->Prop}{s:Shared}{K:Frag}
def ledger (h:Heap) (L d:Addr):List (Addr × Obj):=(List.range h.objs.size).filterMap λ a=>if a=L\/a=d then none else (h.get? a).map λ o=>(a,o)
end
end Att
namespace L2
open PySem PySem.Spec PyProof.Rows
theorem vals_ints:∀ {vs:List Value}{ns:List Int},IntsAre vs ns->Vals (ns.map V.int) vs
 | _,_,.nil=>.nil
 | _,_,.cons n t h=>.cons ⟨t,rfl⟩ (vals_ints h)
def Only (H:Hp):Prop:=∀ b,H b=none\/∃ o xs,H b=some (.frz o (.lst xs))
theorem law_call {P:Program}{w:World}{K:W.Frag}{mg mb:Str->Option Value}{CX:CXT}{k:Nat}{fa a:Addr}{fd:FuncData}{x:Str}{sp:Sp}{s₁:Shared}{vs:List Value}{ns:List Int}
  (KX:K.In s₁.heap) (hns:s₁.heap.Ns mainGlobals mg) (hb:s₁.heap.Ns builtinsNs mb) (hbb:∀ x:Str,x ≠ "__name__" → mb x=bootBuiltins x) (hlim:s₁.heap.NoLimit) (hg:s₁.gens=#[])
  (ha:s₁.heap.get? a=some { cls:=.type "list",data:=.seq vs.toArray }) (hi:IntsAre vs ns) (hl:ns.length<=sizeLine) (hr:Room k callerA)
  (F:∀ base:Heap,K.In base->base.Ns mainGlobals mg->FnOk P w K mg base CX k fa fd [x] sp) (hbind:∀ (s:Shared) (u:Value),BindsTo s fd ⟨[u],[]⟩ [(x,u)])
  (hsp:∀ H:Hp,Only H->SqL K H a (ns.map V.int)->sp [.ref a] H (λ v _=>v=.bl true) λ _ _ _=>False)
  (hCX:∀ H e s',CX [] H s₁ (λ _ _ _=>False) e s'->False) :
  codeAny (model P w) callerA (.call (.ref fa) ⟨[.ref a],[]⟩) (λ r s'=>r=.ok (.ret (.bool true))/\OldK s₁.heap s'.heap/\s'.os=s₁.os/\AllBare s'.gens) s₁:=by
 have rv:=vals_ints hi
 have lenV:=hi.length
 have core:∀ H:Hp,Only H->SqL K H a (ns.map V.int)->HOk P w H s₁.heap->(∀ b,H b ≠ none->b=a)->(H a ≠ none->K.lookup a=none) →
   codeAny (model P w) callerA (.call (.ref fa) ⟨[.ref a],[]⟩) (λ r s'=>r=.ok (.ret (.bool true))/\OldK s₁.heap s'.heap/\s'.os=s₁.os/\AllBare s'.gens) s₁:=by
  intro H hO hS hok hA hK
  have base_of:∀ {b:Addr} {o:Obj},s₁.heap.get? b=some o->H b=none->(hidT s₁.heap H).get? b=some o:=λ e n=>hidT_get e n
  have noA:∀ {b:Addr} {o:Obj} {es:Array DictEntry} {ep:Nat},s₁.heap.get? b=some o->o.data=.dict es ep->H b=none:=λ {b o es ep} e d=>by
   cases q:H b with
   | none=>rfl
   | some u=>
    have e':b=a:=hA b (by rw [q];simp)
    subst e'
    rw [ha] at e;cases e
    have d':Data.seq vs.toArray _=Data.dict es ep:=d
    cases d'
  have nsK:∀ {b:Addr} {m:Str->Option Value},s₁.heap.Ns b m->(hidT s₁.heap H).Ns b m:=λ {b m} ⟨o,es,ep,e,d,r⟩=>⟨o,es,ep,base_of e (noA e d),d,r⟩
  have hKb:K.In (hidT s₁.heap H):=λ b o e=>base_of (KX b o e) (by
   cases q:H b with
   | none=>rfl
   | some u=>
    have e':b=a:=hA b (by rw [q];simp)
    subst e'
    rw [hK (by rw [q];simp)] at e;cases e)
  have hM:Mod K mg (hidT s₁.heap H):=⟨hKb,nsK hns,⟨mb,nsK hb,hbb⟩,let ⟨mc,h1,h2⟩:=hlim;⟨mc,nsK h1,h2⟩⟩
  have e0:Env0 P w K mg (hidT s₁.heap H) callerA [] s₁ H:=⟨rfl,hM,λ b o e=>of_hidT e,Nat.le_of_eq (hidT_size _ _),trivial,λ b hb=>absurd (show b∈([]:List Addr) from hb) (by simp),hok,.of_eq hg⟩
  refine codeAny_mono ((F _ hKb (nsK hns)).run callerA [] s₁ H ⟨[.ref a],[]⟩ [.ref a] [.ref a] _ _ hr e0 (hbind s₁ (.ref a)) (.cons rfl .nil) (hsp H hO hS)) λ r s' h=>?_
  cases r with
  | error e=>exact (hCX H e s' h).elim
  | ok fl=>
   cases fl with
   | next=>exact False.elim h
   | brk=>exact False.elim h
   | cont=>exact False.elim h
   | ret u=>
    obtain ⟨v,H',os,bare,un,hok',r',q⟩:=h
    have q':v=.bl true:=q
    subst q'
    obtain rfl:u=Value.bool true:=r'
    refine ⟨rfl,OldK.of_keep λ b o e=>?_,os,bare⟩
    cases q:H b with
    | none=>exact un.keep b o e q (by intro z;exact absurd (show b∈([]:List Addr) from z) (by simp)) (by simp)
    | some u=>
     rcases hO b with z|⟨ob,xs,z⟩
     ·rw [q] at z;cases z
     ·have z2:=un.frzs b ob _ z
      obtain ⟨e1,_⟩:=hok b _ z
      obtain ⟨e2,_⟩:=hok' b _ z2
      rw [e] at e1;cases e1
      exact e2
 cases hk:K.lookup a with
 | some o=>
  have e:=KX a o hk
  rw [ha] at e
  cases e
  refine core (λ _=>none) (λ _=>.inl rfl) (.inr ⟨_,vs.toArray,_,hk,rfl,rfl,rfl,by rw [List.size_toArray,lenV];exact hl,by simpa using rv⟩) (λ b u z=>by have z':(none:Option HO)=some u:=z;cases z') (λ b z=>absurd rfl z) λ z=>absurd rfl z
 | none=>
  refine core (λ b=>if b=a then some (.frz { cls:=.type "list",data:=.seq vs.toArray } (.lst (ns.map V.int))) else none) (λ b=>?_) (.inl (.inr ⟨{ cls:=.type "list",data:=.seq vs.toArray },if_pos rfl⟩)) (λ b u z=>?_) (λ b z=>?_) λ _=>hk
  ·by_cases hb:b=a
   ·exact .inr ⟨_,_,if_pos hb⟩
   ·exact .inl (if_neg hb)
  ·by_cases hb:b=a
   ·have z':=(if_pos hb).symm.trans z
    cases z'
    subst hb
    exact ⟨ha,by rw [List.length_map];exact hl,vs,_,rv,ha⟩
   ·have z':=(if_neg hb).symm.trans z
    cases z'
  ·by_cases hb:b=a
   ·exact hb
   ·exact absurd (if_neg hb) z
end L2
namespace L2
open PySem PySem.Spec PyProof.Rows
abbrev KOf {K:PySem.W.Frag} {h:Heap} (_:K.In h):PySem.W.Frag:=K
theorem walk_of {l:W.OpenLaw}{n k:Nat}{q:Program}{loose:List Str}{XP:(Str->Option Value)->Heap->Prop}{YP:World->Heap->Prop}{d:DefRec}{K:Params->W.Frag}{CX:World->CXT}{sp:World->Sp}{x:Str}
  (hn:l.most=some n) (hn2:n<=sizeLine) (hdf:d.params.defaults=[]) (hr:Room k callerA)
  (hY:∀ (w:World) (h:Heap),YP w h->(K w.params).In h)
  (F:∀ (w:World) (mg:Str->Option Value) (fa:Addr) (h:Heap),(K w.params).In h->h.Ns mainGlobals mg->mg d.name=some (.ref fa) →
   ∃ fd:FuncData,(∀ (s:Shared) (u:Value),BindsTo s fd ⟨[u],[]⟩ [(x,u)]) /\
    ∀ base:Heap,(K w.params).In base->base.Ns mainGlobals mg->FnOk l.prog w (K w.params) mg base (CX w) k fa fd [x] (sp w))
  (hsp:∀ (w:World) (H:Hp) (a:Addr) (ns:List Int),ns.length<=n->Only H->SqL (K w.params) H a (ns.map V.int)->sp w [.ref a] H (λ v _=>v=.bl true) λ _ _ _=>False)
  (hCX:∀ (w:World) (H:Hp) (s:Shared) (e:Value) (s':Shared),CX w [] H s (λ _ _ _=>False) e s'->False) :
  W.WalkO q loose XP YP l.row.toRowW d [] (λ f vs=>PySem.call f vs):=by
 refine Att.attach_call hn hdf λ w s₀ s₁ mg mb fa o pm cd doc a vs ns G Y ho hd hcd hmg hobj hints hlen hg=>?_
 have KX:=hY w _ Y
 obtain ⟨fd,hb,hF⟩:=F w mg fa _ KX G.T.g hmg
 exact law_call KX G.T.g G.T.b G.T.builtins G.T.nolimit hg hobj hints (Nat.le_trans hlen hn2) hr hF hb (λ H hO hS=>hsp w H a ns hlen hO hS) λ H e s'=>hCX w H s₁ e s'
end L2
/- THE LAST THEOREM (shape;LID,My.* are yours):
   My.Adr: a structure of the addresses that your layer names (classes,functions);My.Txt K t: a structure (Prop) of the equations over K;
   My.txt_mk:{K} {implicit addresses ..} (e1:nsIn K mainGlobals "law"=some (some (.ref f))) (e2:K.lookup f=some ⟨oc,od,.func (fnOf "law" "law" params body scope dV kV doc pm an cdv ct),sl⟩) (e3:codeIn K cdv "law"=true) ..:∃ t,My.Txt K t
theorem PySem.Challenge.cw_LID_holds : PySem.Challenge.rw_LID.Holds := by
 w_on;o_law;k_head;(case hw=>w_witness2)
 k_fill
 refine L2.walk_of (l:=PySem.Challenge.rw_LID) (n:=63) (k:=40) (x := "script") (CX:=λ w=>..) (sp:=λ _=>My.sp_law) rfl (by decide) rfl ⟨rfl,by decide,by decide⟩ (λ w h Y=>PySem.W.kIn_of Y) ?F ?S ?C
 case F=>
  intro w mg fa h KX G hmg
  have T:∃ t,My.Txt (L2.KOf KX) t:=by
   dsimp only [L2.KOf]                          -- K must stand as «<heap const> w.params» for k_is
   refine' My.txt_mk ?e1 ?e2 ?e3 ..
   (case e1=>PySem.W.k_is)                    -- in the order: a name -> its address -> its object -> its parts
   (case e2=>PySem.W.k_is)
   ..
  obtain ⟨t,T⟩:=T
  have e0:=hmg.symm.trans (PySem.W.mg_of KX G T.law)
  cases e0                                       -- fa is the law's own address
  exact ⟨_,λ s u=>.of_eq rfl,λ base kb nb=>My.law_fn T kb nb⟩     -- if «.of_eq rfl» comes too early: refine' ⟨_,?b,λ base kb nb=>My.law_fn T kb nb⟩;exact λ s u=>.of_eq rfl
 case S=>exact λ w H a ns hl hO hS=>..
 case C=>exact ..
(the tactic k_is has no namespace: write k_is) -/
namespace L2
open PySem PySem.Spec PyProof.Rows
def inClass (s:Stmt) (j:Nat):Stmt:=match s with
 | .ClassDef _ _ _ body _ _ _ _ _ _ _=>body.getD j (.Pass ⟨0,0,0,0⟩)
 | _=>.Pass ⟨0,0,0,0⟩
def defArgs (s:Stmt):Arguments:=match s with
 | .FunctionDef _ a _ _ _ _ _ _ _ _=>a
 | _=>{ posonlyargs:=[],args:=[],vararg:=none,kwonlyargs:=[],kw_defaults:=[],kwarg:=none,defaults:=[] }
def defBody (s:Stmt):List Stmt:=match s with
 | .FunctionDef _ _ b _ _ _ _ _ _ _=>b
 | _=>[]
def defScope (s:Stmt):Scope:=match s with
 | .FunctionDef _ _ _ _ _ _ sc _ _ _=>sc
 | _=>{ kind:=.function,names:=[],isGenerator:=false,isCoroutine:=false }
abbrev CX0:CXT:=λ _ _ _ _ _ _=>False
abbrev E0:XK:=λ _ _ _=>False
theorem pass0 {X:Cx}:Passes CX0 X E0:=λ _ _ _ _ _ _ _ h=>h.elim
structure Fun (K:W.Frag) (x qual:Str) (st:Stmt) (f:Addr) (fd:FuncData):Prop where
 ex:∃ (oc:Value) (od:Option Addr) (kV doc pm:Value) (an:Option Addr) (cdv ct:Value) (osl:Array (Option Value)),
  fd=W.fnOf x qual (defArgs st) (defBody st) (defScope st) .none kV doc pm an cdv ct/\K.lookup f=some ⟨oc,od,.func fd,osl⟩/\W.codeIn K cdv qual=true
 kp:W.keepIn K (.ref f)=true
section
variable {P:Program}{w:World}{K:PySem.W.Frag}{mg:Str->Option Value}{base:Heap}
theorem Fun.ok {x qual:Str}{st:Stmt}{f:Addr}{fd:FuncData}{N ps:List Str}{k:Nat}{sp:Sp}(F:Fun K x qual st f fd) (S:FnScope N ps (defScope st)) (len:∀ vs H Q E,sp vs H Q E->vs.length=ps.length)
  (hbody:∀ (cdv:Value) (A:Around) (outer:List Env) (s:Shared) (H:Hp) (vs:List V) (Q:VK) (E:XK),Room k (A.deeper (envOfC qual (defScope st) s.heap.objs.size f cdv))->sp vs H Q E →
   ∃ t,PSs (cxOf CX0 P w K mg base N qual (defScope st) f cdv A outer s H E).nox (defBody st) t/\t { nx:=λ _ H'=>Q .non H',rt:=Q } (start N vs) H):FnOk P w K mg base CX0 (k+1) f fd ps sp:=by
 obtain ⟨oc,od,kV,doc,pm,an,cdv,ct,osl,rfl,lk,hcd⟩:=F.ex
 refine fn_of lk hcd S len λ A outer s H vs Q E hr hsp=>?_
 obtain ⟨t,h,q⟩:=hbody cdv A outer s H vs Q E hr hsp
 exact ⟨t,h.nox,q⟩
theorem Fun.binds {x qual:Str}{st:Stmt}{f:Addr}{fd:FuncData}{ps:List Str}(F:Fun K x qual st f fd)
  (h:∀ (kV doc pm:Value) (an:Option Addr) (cdv ct:Value) (us:List Value),us.length=ps.length->bindArgs (W.fnOf x qual (defArgs st) (defBody st) (defScope st) .none kV doc pm an cdv ct) ⟨us,[]⟩=pure (ps.zip us)):Binds K fd ps []:=by
 obtain ⟨oc,od,kV,doc,pm,an,cdv,ct,osl,rfl,lk,hcd⟩:=F.ex
 exact .all (h kV doc pm an cdv ct)
theorem fun_mk {x qual:Str}{st:Stmt}{f:Addr}{oc:Value}{od an:Option Addr}{osl:Array (Option Value)}{kV doc pm cdv ct:Value}(l:K.lookup f=some ⟨oc,od,.func (W.fnOf x qual (defArgs st) (defBody st) (defScope st) .none kV doc pm an cdv ct),osl⟩)
  (c:W.codeIn K cdv qual=true) (k:W.keepIn K (.ref f)=true):Fun K x qual st f (W.fnOf x qual (defArgs st) (defBody st) (defScope st) .none kV doc pm an cdv ct):=⟨⟨oc,od,kV,doc,pm,an,cdv,ct,osl,rfl,l,c⟩,k⟩
end
theorem small1000 {n:Nat}(h:n<=1000):n < sizeLine:=Nat.lt_of_le_of_lt h (by decide)
section
variable {X:Cx}
theorem pv (i:Nat){x:Str}{pos:Pos}(hN:X.N[i]? = some x:=by rfl) (hv:Vis X.env.scope x:=by first|exact Or.inl rfl|exact Or.inr (Or.inl rfl)|exact Or.inr (Or.inr rfl)) (hd:(x == ("__debug__":Str))=false:=by decide)
  (hcd:(x == ("__classdict__":Str))=false:=by decide):PE X (.Name x pos) (tVar i):=pe_var hN hv hd hcd
end
theorem ite2 {c A B:Prop} [Decidable c] (h1:c->A) (h2:¬ c->B):if c then A else B:=by
 by_cases h:c
 ·rw [if_pos h]
  exact h1 h
 ·rw [if_neg h]
  exact h2 h
def Same (H H':Hp):Prop:=∀ b o,H b=some o->H' b=some o
theorem Same.refl (H:Hp):Same H H:=λ _ _ h=>h
theorem Same.trans {H H1 H2:Hp}(a:Same H H1) (b:Same H1 H2):Same H H2:=λ c o h=>b c o (a c o h)
theorem Same.free {H H':Hp}(e:Same H H'){l:Addr}(h:H' l=Option.none):H l=Option.none:=by
 cases q:H l with
 | none=>rfl
 | some o=>
  rw [e l o q] at h
  cases h
theorem Same.seq {K:W.Frag}{H H':Hp}{a:Addr}{xs:List V}(e:Same H H') (h:SqL K H a xs):SqL K H' a xs:=by
 rcases h with (h|⟨o,h⟩)|h
 ·exact .inl (.inl (e _ _ h))
 ·exact .inl (.inr ⟨o,e _ _ h⟩)
 ·exact .inr h
end L2
set_option maxHeartbeats 0
namespace L2
open PySem PySem.Spec PyProof.Rows
section
variable {κ:Type} [DecidableEq κ]
def valV (kvs:List (κ × V)) (k:κ):Option V:=(kvs.find? λ kv=>decide (kv.1=k)).map (·.2)
def putK (kvs:List (κ × V)) (k:κ) (v:V):List (κ × V):=
 if (kvs.any λ kv=>decide (kv.1=k))=true then kvs.map (λ kv=>if kv.1=k then (kv.1,v) else kv) else kvs++[(k,v)]
theorem valV_pos {p:κ × V}{r:List (κ × V)}{k:κ}(e:p.1=k):valV (p::r) k=some p.2:=by simp [valV,List.find?_cons,e]
theorem valV_neg {p:κ × V}{r:List (κ × V)}{k:κ}(e:¬ p.1=k):valV (p::r) k=valV r k:=by simp [valV,List.find?_cons,e]
theorem valV_any (k:κ):∀ kvs:List (κ × V),(kvs.any λ kv=>decide (kv.1=k))=(valV kvs k).isSome
 | []=>rfl
 | p::r=>by
  rw [List.any_cons]
  by_cases e:p.1=k
  ·simp only [valV_pos e,decide_eq_true e,Bool.true_or,Option.isSome_some]
  ·rw [valV_neg e,decide_eq_false e,Bool.false_or];exact valV_any k r
theorem valV_map (k j:κ) (y:V):∀ kvs:List (κ × V),valV (kvs.map λ kv=>if kv.1=k then (kv.1,y) else kv) j=(valV kvs j).map λ x=>if j=k then y else x
 | []=>rfl
 | p::r=>by
  have ih:=valV_map k j y r
  rw [List.map_cons]
  by_cases h:p.1=k
  ·rw [if_pos h]
   by_cases e:p.1=j
   ·rw [valV_pos (p:=(p.1,y)) e,valV_pos e,Option.map_some,if_pos (e.symm.trans h)]
   ·rw [valV_neg (p:=(p.1,y)) e,valV_neg e,ih]
  ·rw [if_neg h]
   by_cases e:p.1=j
   ·rw [valV_pos (p:=p) e,valV_pos e,Option.map_some,if_neg (λ z=>h (e.trans z))]
   ·rw [valV_neg (p:=p) e,valV_neg e,ih]
theorem valV_snoc (k j:κ) (y:V):∀ kvs:List (κ × V),valV kvs k=none->valV (kvs++[(k,y)]) j=if j=k then some y else valV kvs j
 | [],_=>by
  by_cases e:k=j
  ·rw [if_pos e.symm];exact valV_pos (p:=(k,y)) e
  ·rw [if_neg (λ z=>e z.symm)];exact valV_neg (p:=(k,y)) e
 | p::r,hn=>by
  rw [List.cons_append]
  have hk:¬ p.1=k:=λ z=>by rw [valV_pos z] at hn;cases hn
  rw [valV_neg hk] at hn
  have ih:=valV_snoc k j y r hn
  by_cases e:p.1=j
  ·rw [valV_pos e,valV_pos e,if_neg (λ z=>hk (e.trans z))]
  ·rw [valV_neg e,valV_neg e,ih]
theorem valV_put (kvs:List (κ × V)) (k j:κ) (y:V):valV (putK kvs k y) j=if j=k then some y else valV kvs j:=by
 unfold putK
 by_cases a:(kvs.any λ kv=>decide (kv.1=k))=true
 ·rw [if_pos a,valV_map]
  rw [valV_any] at a
  by_cases e:j=k
  ·obtain ⟨x,hx⟩:=Option.isSome_iff_exists.mp a
   rw [if_pos e,e,hx,Option.map_some,if_pos rfl]
  ·rw [if_neg e]
   cases valV kvs j with
   | none=>rfl
   | some x=>rw [Option.map_some,if_neg e]
 ·rw [if_neg a]
  refine valV_snoc k j y kvs ?_
  rw [valV_any] at a
  cases q:valV kvs k with
  | none=>rfl
  | some x=>rw [q] at a;exact (a rfl).elim
theorem length_putK (kvs:List (κ × V)) (k:κ) (v:V):(putK kvs k v).length<=kvs.length+1:=by
 unfold putK
 split
 ·rw [List.length_map];omega
 ·rw [List.length_append,List.length_cons,List.length_nil];omega
theorem RelO.isSome_eq {o:Option V}{u:Option Value}(r:RelO o u):o.isSome=u.isSome:=by
 cases o with
 | none=>cases u with
  | none=>rfl
  | some _=>exact (show False from r).elim
 | some _=>cases u with
  | none=>exact (show False from r).elim
  | some _=>rfl
theorem KV.val {kvs:List (κ × V)}{vs:List (κ × Value)}(r:KV kvs vs) (k:κ):RelO (valV kvs k) (valueAt vs k):=by
 unfold KV at r
 induction r with
 | nil=>exact True.intro
 | @cons p q ps qs h t ih=>
  obtain ⟨h1,h2⟩:=h
  by_cases e:p.1=k
  ·have e':q.1=k:=h1.symm.trans e
   have b:valueAt (q::qs) k=some q.2:=by simp [valueAt,List.find?_cons,e']
   rw [valV_pos e,b];exact h2
  ·have e':¬ q.1=k:=λ z=>e (h1.trans z)
   have b:valueAt (q::qs) k=valueAt qs k:=by simp [valueAt,List.find?_cons,e']
   rw [valV_neg e,b];exact ih
theorem KV.any {kvs:List (κ × V)}{vs:List (κ × Value)}(r:KV kvs vs) (k:κ):(kvs.any λ kv=>decide (kv.1=k))=vs.any λ kv=>decide (kv.1=k):=by
 unfold KV at r
 induction r with
 | nil=>rfl
 | cons h t ih=>rw [List.any_cons,List.any_cons,ih,h.1]
theorem KV.repl {kvs:List (κ × V)}{vs:List (κ × Value)}(r:KV kvs vs) (k:κ){y:V}{u:Value}(ry:RelV y u) :
  KV (kvs.map λ kv=>if kv.1=k then (kv.1,y) else kv) (vs.map λ kv=>if kv.1=k then (kv.1,u) else kv):=by
 unfold KV at r ⊢
 induction r with
 | nil=>exact .nil
 | @cons p q ps qs h t ih=>
  rw [List.map_cons,List.map_cons]
  refine .cons ?_ ih
  obtain ⟨h1,h2⟩:=h
  by_cases e:p.1=k
  ·rw [if_pos e,if_pos (h1.symm.trans e)];exact ⟨h1,ry⟩
  ·rw [if_neg e,if_neg (λ z=>e (h1.trans z))];exact ⟨h1,h2⟩
theorem KV.put {kvs:List (κ × V)}{vs:List (κ × Value)}(r:KV kvs vs) (k:κ){y:V}{u:Value}(ry:RelV y u):KV (putK kvs k y) (stored vs k u):=by
 unfold putK stored
 rw [r.any k]
 by_cases e:(vs.any λ kv=>decide (kv.1=k))=true
 ·rw [if_pos e,if_pos e];exact r.repl k ry
 ·rw [if_neg e,if_neg e];exact Paired.snoc r ⟨rfl,ry⟩
theorem KV.length {kvs:List (κ × V)}{vs:List (κ × Value)}(r:KV kvs vs):kvs.length=vs.length:=Paired.length r
end
theorem kV_is {P:Program}{w:World}{k:Key}{u:Value}(r:RelV (kV k) u):(mixKind P w).is k u=true:=by
 cases k with
 | inl i=>obtain ⟨t,e⟩:=(show ∃ t,u=Value.int i t from r);subst e;exact mixKind_int P w i t
 | inr x=>obtain ⟨t,e⟩:=(show ∃ t,u=Value.str x t from r);subst e;exact mixKind_str P w x t
theorem items_are {P:Program}{w:World}:∀ {ks:List Key}{us:List Value},Vals (ks.map kV) us->ItemsAre (mixKind P w) ks us
 | [],_,r=>by rw [List.map_nil] at r;cases r;exact .nil
 | k::ks,_,r=>by
  rw [List.map_cons] at r
  cases r with
  | cons h t=>exact .cons (kV_is h) (items_are t)
abbrev KT (H:Hp):List (List Key × V)->List (List Key × Addr × Value)->Prop:=Paired λ p q=>p.1=q.1/\H q.2.1=some (.tup (p.1.map kV))/\RelV p.2 q.2.2
theorem KT.val {H:Hp}{kvs:List (List Key × V)}{xs:List (List Key × Addr × Value)}(r:KT H kvs xs) (k:List Key):RelO (valV kvs k) ((atKey xs k).map (·.2)):=by
 induction r with
 | nil=>exact True.intro
 | @cons p q ps qs h t ih=>
  obtain ⟨h1,_,h2⟩:=h
  by_cases e:p.1=k
  ·have e':q.1=k:=h1.symm.trans e
   have b:atKey (q::qs) k=some q.2:=by simp [atKey,List.find?_cons,e']
   rw [valV_pos e,b];exact h2
  ·have e':¬ q.1=k:=λ z=>e (h1.trans z)
   have b:atKey (q::qs) k=atKey qs k:=by simp [atKey,List.find?_cons,e']
   rw [valV_neg e,b];exact ih
theorem KT.repl {H:Hp}{kvs:List (List Key × V)}{xs:List (List Key × Addr × Value)}(r:KT H kvs xs) (k:List Key){y:V}{u:Value}(ry:RelV y u) :
  KT H (kvs.map λ kv=>if kv.1=k then (kv.1,y) else kv) (xs.map (putAt k u)):=by
 induction r with
 | nil=>exact .nil
 | @cons p q ps qs h t ih=>
  rw [List.map_cons,List.map_cons]
  refine .cons ?_ ih
  obtain ⟨h1,h2,h3⟩:=h
  unfold putAt
  by_cases e:p.1=k
  ·rw [if_pos e,if_pos (h1.symm.trans e)];exact ⟨h1,h2,ry⟩
  ·rw [if_neg e,if_neg (λ z=>e (h1.trans z))];exact ⟨h1,h2,h3⟩
theorem KT.put {H:Hp}{kvs:List (List Key × V)}{xs:List (List Key × Addr × Value)}(r:KT H kvs xs) (k:List Key){b:Addr}{y:V}{u:Value}(hb:H b=some (.tup (k.map kV))) (ry:RelV y u) :
  KT H (putK kvs k y) (storedH xs k b u):=by
 have e:(kvs.any λ kv=>decide (kv.1=k))=(atKey xs k).isSome:=by
  rw [valV_any,(r.val k).isSome_eq,Option.isSome_map]
 unfold putK storedH
 rw [e]
 by_cases q:(atKey xs k).isSome=true
 ·rw [if_pos q,if_pos q];exact r.repl k ry
 ·rw [if_neg q,if_neg q];exact Paired.snoc r ⟨rfl,hb,ry⟩
theorem KT.keeps {H H':Hp}{kvs:List (List Key × V)}{xs:List (List Key × Addr × Value)}(r:KT H kvs xs) (ht:∀ b ys,H b=some (.tup ys)->H' b=some (.tup ys)):KT H' kvs xs:=
 Paired.mapP r λ _ _ z=>⟨z.1,ht _ _ z.2.1,z.2.2⟩
section
variable {P:Program}{w:World}{H:Hp}{h:Heap}{a:Addr}
theorem rd_of {u:HO}(ok:HOk P w H h) (e:Rd H a u):ObjOk P w H h a u:=e.ok ok
theorem dk_rd {kvs:List (Key × V)}(ok:HOk P w H h) (e:Rd H a (.dK kvs)):kvs.length<=sizeLine/\(a == sysModules)=false/\∃ vs,KV kvs vs/\h.DictOf (mixKind P w) a vs:=
 show ObjOk P w H h a (.dK kvs) from rd_of ok e
theorem dk_of {kvs:List (Key × V)}(ok:HOk P w H h) (e:H a=some (.dK kvs)):kvs.length<=sizeLine/\(a == sysModules)=false/\∃ vs,KV kvs vs/\h.DictOf (mixKind P w) a vs:=dk_rd ok (.inl e)
theorem key_of {ks:List Key}(ok:HOk P w H h) (e:H a=some (.tup (ks.map kV))):(tupleKind (mixKind P w)).is h ks a:=by
 obtain ⟨_,its,r,o,h1,h2,n,h3⟩:=(show ObjOk P w H h a (.tup (ks.map kV)) from ok a _ e)
 exact ⟨o,its.toArray,n,h1,h2,h3,by simpa using items_are r⟩
theorem dt_rd {kvs:List (List Key × V)}(ok:HOk P w H h) (e:Rd H a (.dT kvs)):kvs.length<=sizeLine/\(a == sysModules)=false /\
  ∃ xs,KT H kvs xs/\h.DictOfH (tupleKind (mixKind P w)) a xs:=by
 obtain ⟨z,y,xs,r,o,es,ep,h1,h2,h3,h4,h5⟩:=(show ObjOk P w H h a (.dT kvs) from rd_of ok e)
 refine ⟨z,y,xs,r,o,es,ep,h1,h2,h3,h4,λ x hx=>?_,h5⟩
 have all:∀ {l:List (List Key × V)} {m:List (List Key × Addr × Value)},KT H l m->∀ x∈m,(tupleKind (mixKind P w)).is h x.1 x.2.1:=by
  intro l m q
  induction q with
  | nil=>intro x hx;exact nomatch hx
  | @cons p q ps qs hq t ih=>
   intro x hx
   rcases List.mem_cons.mp hx with e|hx
   ·subst e
    exact key_of ok (by rw [←hq.1];exact hq.2.1)
   ·exact ih x hx
 exact all r x hx
theorem dt_of {kvs:List (List Key × V)}(ok:HOk P w H h) (e:H a=some (.dT kvs)):kvs.length<=sizeLine/\(a == sysModules)=false /\
  ∃ xs,KT H kvs xs/\h.DictOfH (tupleKind (mixKind P w)) a xs:=dt_rd ok (.inl e)
end
def DGet (H:Hp) (a:Addr) (y:V) (r:Option V):Prop:=
 (∃ kvs k,Rd H a (.dK kvs)/\y=kV k/\r=valV kvs k)\/∃ kvs k b,Rd H a (.dT kvs)/\y=.ref b/\H b=some (.tup (k.map kV))/\r=valV kvs k
def DPut (H:Hp) (a:Addr) (y v:V) (H':Hp):Prop:=
 (∃ kvs k,H a=some (.dK kvs)/\y=kV k/\kvs.length < sizeLine/\H'=upd H a (.dK (putK kvs k v))) \/
 ∃ kvs k b,H a=some (.dT kvs)/\y=.ref b/\H b=some (.tup (k.map kV))/\kvs.length < sizeLine/\H'=upd H a (.dT (putK kvs k v))
theorem DGet.k {H:Hp}{a:Addr}{kvs:List (Key × V)}{k:Key}(e:H a=some (.dK kvs)):DGet H a (kV k) (valV kvs k):=.inl ⟨kvs,k,.inl e,rfl,rfl⟩
theorem DPut.k {H:Hp}{a:Addr}{kvs:List (Key × V)}{k:Key}{v:V}(e:H a=some (.dK kvs)) (hl:kvs.length < sizeLine):DPut H a (kV k) v (upd H a (.dK (putK kvs k v))):=.inl ⟨kvs,k,e,rfl,hl,rfl⟩
section
variable {X:Cx}{pins:List (Addr × Obj)}{σ:St}{H:Hp}{s:Shared}{a:Addr}{y v:V}{u r:Value}{o:Option V}{A:Around}{E:Value->Shared->Prop}
theorem Inv.big (I:Inv X pins σ H s):sysModules < s.heap.objs.size:=by
 have h:mainGlobals < s.heap.objs.size:=(I.mod.glob.keeps I.bk).lt
 exact Nat.lt_trans (by decide) h
theorem d_getItem {Q:Value->Shared->Prop}(hu:A.units+1 < cLine) (I:Inv X pins σ H s) (g:DGet H a y (some v)) (ry:RelV y u) (h:∀ w' s',Inv X pins σ H s'->RelV v w'->Q w' s') :
  wpAny (model X.prog X.w) A (getItem (.ref a) u) Q E s:=by
 rcases g with ⟨kvs,k,e,ey,l⟩|⟨kvs,k,b,e,ey,eb,l⟩
 ·subst ey
  obtain ⟨z,hd,vs,rel,dd⟩:=dk_rd I.hok e
  obtain ⟨w',hw,rw'⟩:=RelO.some_of (v:=v) (o:=valueAt vs k) (by rw [l];exact rel.val k)
  exact wpAny_getItem_of (kV_is ry) dd.mapOf hw (h w' _ (I.tok _) rw')
 ·subst ey
  cases (show u=Value.ref b from ry)
  obtain ⟨z,hd,xs,rel,dd⟩:=dt_rd I.hok e
  obtain ⟨w',hw,rw'⟩:=RelO.some_of (v:=v) (o:=(atKey xs k).map (·.2)) (by rw [l];exact rel.val k)
  obtain ⟨p,hp,hp2⟩:=Option.map_eq_some_iff.mp hw
  refine wpAny_getItem_heap (tupleKind_room_in1 hu) (key_of I.hok eb) dd hp ?_
  rw [hp2]
  exact h w' _ (I.tok _) rw'
theorem d_in {Q:Value->Shared->Prop}(hu:A.units+1 < cLine) (I:Inv X pins σ H s) (g:DGet H a y o) (ry:RelV y u) (h:∀ s',Inv X pins σ H s'->Q (.bool o.isSome) s') :
  wpAny (model X.prog X.w) A (compareOp .In u (.ref a)) Q E s:=by
 rcases g with ⟨kvs,k,e,ey,l⟩|⟨kvs,k,b,e,ey,eb,l⟩
 ·subst ey
  obtain ⟨z,hd,vs,rel,dd⟩:=dk_rd I.hok e
  refine wpAny_in_of (kV_is ry) hd dd.mapOf ?_
  rw [←(rel.val k).isSome_eq,←l]
  exact h _ (I.tok _)
 ·subst ey
  cases (show u=Value.ref b from ry)
  obtain ⟨z,hd,xs,rel,dd⟩:=dt_rd I.hok e
  refine wpAny_in_heap (tupleKind_room_in1 hu) (key_of I.hok eb) hd dd ?_
  have q:=(rel.val k).isSome_eq
  rw [Option.isSome_map] at q
  rw [←q,←l]
  exact h _ (I.tok _)
theorem d_write {h':Heap}{t':Nat}{ob:HO}(I:Inv X pins σ H s) (mu:Mut (H a)) (hs:Heap.SameBut a s.heap h') (he:∃ q,h'.get? a=some q) (new:ObjOk X.prog X.w (upd H a ob) h' a ob) :
  Inv X pins σ (upd H a ob) { s with heap:=h',toks:=t' }:=
 I.write (x:=a) (e:=a) mu (.inl rfl) (λ b q hb z=>(hs.2 b hb).trans z) he new
theorem dk_new {P:Program}{w:World}{H':Hp}{h':Heap}{kvs:List (Key × V)}{vs:List (Key × Value)}(z:kvs.length<=sizeLine) (hd:(a == sysModules)=false) (rel:KV kvs vs) (dd:h'.DictOf (mixKind P w) a vs) :
  ObjOk P w H' h' a (.dK kvs):=⟨z,hd,vs,rel,dd⟩
theorem d_setItem {H':Hp}{Q:Unit->Shared->Prop}(hu:A.units+1 < cLine) (I:Inv X pins σ H s) (g:DPut H a y v H') (ry:RelV y u) (rv:RelV v r) (h:∀ s',Inv X pins σ H' s'->Q () s') :
  wpAny (model X.prog X.w) A (setItem (.ref a) u r) Q E s:=by
 rcases g with ⟨kvs,k,e,ey,l,eH⟩|⟨kvs,k,b,e,ey,eb,l,eH⟩
 ·subst ey eH
  obtain ⟨z,hd,vs,rel,dd⟩:=dk_of I.hok e
  have hz:vs.length<=sizeLine:=by rw [←rel.length];exact z
  have hl:(putK kvs k v).length<=sizeLine:=by have:=length_putK kvs k v;omega
  refine wpAny_setItem_pairs (hsz:=hz) (kV_is ry) dd λ h' dd' hs=>h _ ?_
  have he:∃ q,h'.get? a=some q:=let ⟨q,_,_,hq,_⟩:=dd';⟨q,hq⟩
  exact d_write I (by rw [e];exact True.intro) hs he (dk_new hl hd (rel.put k rv) dd')
 ·subst ey eH
  cases (show u=Value.ref b from ry)
  obtain ⟨z,hd,xs,rel,dd⟩:=dt_of I.hok e
  have hz:xs.length<=sizeLine:=by rw [←Paired.length rel];exact z
  have hl:(putK kvs k v).length<=sizeLine:=by have:=length_putK kvs k v;omega
  refine wpAny_setItem_heap (hsz:=hz) (tupleKind_room_in1 hu) (key_of I.hok eb) dd λ h' dd' hs=>h _ ?_
  obtain ⟨q,es,ep,hq,h2,h3,h4,_,h5⟩:=dd'
  refine d_write I (by rw [e];exact True.intro) hs ⟨q,hq⟩ ⟨hl,hd,_,(rel.put k eb rv).keeps λ c ys ec=>?_,q,es,ep,hq,h2,h3,h4,h5⟩
  rw [upd_ne (ne_of ec e (λ z=>nomatch z))]
  exact ec
end
section
variable {X:Cx}{pins:List (Addr × Obj)}{σ:St}{H:Hp}{s:Shared}{a:Addr}{kvs:List (Key × V)}{k:Key}{u:Value}{A:Around}{E:Value->Shared->Prop}
end
def NoSl (i:Expr):Prop:=∀ ov iv,subscripted i false ov iv=operate [ov,iv] (getItem ov iv)
theorem subD_of {prog:Program}{w:World}{A:Around}{E:Value->Shared->Prop}{s:Shared}{env:Env}{value slice:Expr}{pos:Pos}{T id:String}{Q:Value->Shared->Prop}
  (hl:typeLookup (.type T) "__getitem__"=pure (some (.builtin id))) (hs:NoSl slice)
  (h:wpAny (model prog w) A (eval value env) (λ o s₁=>wpAny (model prog w) A (eval slice env) (λ i s₂=>s₂.TypeIs o T/\wpAny (model prog w) A (getItem o i) Q E s₂) E s₁) E s) :
  wpAny (model prog w) A (eval (.Subscript value slice pos) env) Q E s:=by
 refine Subscript_ (wpAny_mono h (λ o s₁ h₁=>wpAny_mono h₁ (λ i s₂ h₂=>?_) λ _ _ x=>x) λ _ _ x=>x)
 obtain ⟨hT,h₂⟩:=h₂
 unfold subscriptTail
 refine wpAny_bind ?_
 rw [getitemInPython_of_ne hT.not_modules]
 refine wpAny_bind (wpAny_specialOf hT hl ?_)
 have fin:wpAny (model prog w) A (subscripted slice false o i) (λ r s₃=>wpAny (model prog w) A (letTemporaryGo value o r >>= λ _=>pure r) Q E s₃) E s₂:=by
  rw [hs o i]
  exact wpAny_operating (wpAny_mono h₂ (λ r s₃ h₃=>wpAny_bind (wpAny_letTemporaryGo (wpAny_pure h₃))) λ _ _ x=>x)
 first
  | exact wpAny_pure (wpAny_bind fin)
  | exact wpAny_bind (wpAny_pure (wpAny_bind fin))
  | exact wpAny_bind fin
theorem dict_typeIs {X:Cx}{pins:List (Addr × Obj)}{σ:St}{H:Hp}{s:Shared}{a:Addr}{y:V}{o:Option V}(I:Inv X pins σ H s) (g:DGet H a y o):s.TypeIs (.ref a) "dict":=by
 rcases g with ⟨kvs,k,e,_,_⟩|⟨kvs,k,b,e,_,_,_⟩
 ·obtain ⟨_,_,vs,_,dd⟩:=dk_rd I.hok e
  exact dd.typeIs
 ·obtain ⟨_,_,xs,_,dd⟩:=dt_rd I.hok e
  exact dd.typeIs
def tDGet (td ty:TE):TE:=λ σ H Q=>td σ H λ x H1=>ty σ H1 λ y H2=>∃ a v,x=.ref a/\DGet H2 a y (some v)/\Q v H2
def sDPut (td ty tv:TE):TS:=λ D σ H=>tv σ H λ v H1=>td σ H1 λ x H2=>ty σ H2 λ y H3=>∃ a H4,x=.ref a/\DPut H3 a y v H4/\D.nx σ H4
section
variable {X:Cx}{o i e value:Expr}{pos pos' tpos:Pos}{td ty tv:TE}
theorem pe_dget (hu:X.A.units+1 < cLine) (ho:PE X o td) (hi:PE X i ty) (hs:NoSl i):PE X (.Subscript o i pos) (tDGet td ty):=by
 intro pins s σ H Q I h
 refine subD_of PySem.F.slot_dict_getitem.lookup hs (thn (ho pins s σ H _ I h) λ u s1 ⟨x,H1,I1,rx,q1⟩=>thn (hi pins s1 σ H1 _ I1 q1) λ iv s2 ⟨y,H2,I2,ry,a,v,ex,g,q2⟩=>?_)
 subst ex
 obtain rfl:u=Value.ref a:=rx
 exact ⟨dict_typeIs I2 g,d_getItem hu I2 g ry λ w' s3 I3 rw'=>⟨v,H2,I3,rw',q2⟩⟩
theorem ps_dput (hu:X.A.units+1 < cLine) (ho:PE X o td) (hi:PE X i ty) (hv:PE X value tv) (hs:swapsWith value (some (.Subscript o i pos')) pos.line X.env=pure false) :
  PS X (.Assign [.Subscript o i pos'] value pos) (sDPut td ty tv):=by
 intro pins s σ H D I h
 refine wpAny_Assign_Subscript (thn (hv pins s σ H _ I h) λ r s1 ⟨v,H1,I1,rv,q1⟩=>thn (ho pins s1 σ H1 _ I1 q1) λ u s2 ⟨x,H2,I2,rx,q2⟩=>thn (hi pins s2 σ H2 _ I2 q2) λ iv s3 ⟨y,H3,I3,ry,a,H4,ex,g,q3⟩=>?_) hs
 subst ex
 obtain rfl:u=Value.ref a:=rx
 exact d_setItem hu I3 g ry rv λ s4 I4=>⟨σ,H4,I4,q3⟩
end
theorem dk_empty {P:Program}{w:World}{H:Hp}(h:Heap) (hb:sysModules < h.objs.size):ObjOk P w H (h.push { cls:=.type "dict",data:=.dict #[] }) h.objs.size (.dK []):=
 ⟨Nat.zero_le _,beq_eq_false_iff_ne.mpr (Ne.symm (Nat.ne_of_lt hb)),[],.nil,Heap.DictOf.new h⟩
def tDNewK:TE:=λ _ H Q=>∀ p,H p=none->Q (.ref p) (upd H p (.dK []))
section
variable {X:Cx}{pos:Pos}
theorem pe_dnewK:PE X (.Dict [] [] pos) tDNewK:=λ pins s σ H Q I h=>
 wpAny_Dict_empty ⟨.ref s.heap.objs.size,_,I.laid (a:=s.heap.objs.size) (o:=.dK []) (t':=s.toks) (λ _ _ q=>Heap.get?_push_of_some _ q) (Nat.le_refl _) (dk_empty s.heap I.big),rfl,h _ (I.hok.fresh (Nat.le_refl _))⟩
end
structure M1 (X:Cx) (o:Expr) (m:Str) (apos:Pos) (e:Expr) (cpos:Pos):Prop where
 base:attributeBase o m X.env (eval o X.env)=eval o X.env
 few:((backTo cpos (starEach [e] X.env)).all (λ x=>!x.1) && (backToKw cpos (keywordEach [] X.env)).all (λ x=>x.1.isSome)
  && decide (([e]:List Expr).length+([]:List Keyword).length+(if ([]:List Keyword).isEmpty then 0 else 1) < 30))=true
 line:(apos.endLine == cpos.line)=true
 trees:backTo cpos (starEach [e] X.env)=[(false,eval e X.env)]
structure M2 (X:Cx) (o:Expr) (m:Str) (apos:Pos) (e f:Expr) (cpos:Pos):Prop where
 base:attributeBase o m X.env (eval o X.env)=eval o X.env
 few:((backTo cpos (starEach [e,f] X.env)).all (λ x=>!x.1) && (backToKw cpos (keywordEach [] X.env)).all (λ x=>x.1.isSome)
  && decide (([e,f]:List Expr).length+([]:List Keyword).length+(if ([]:List Keyword).isEmpty then 0 else 1) < 30))=true
 line:(apos.endLine == cpos.line)=true
 trees:backTo cpos (starEach [e,f] X.env)=[(false,eval e X.env),(false,eval f X.env)]
section
variable {X:Cx}{pins:List (Addr × Obj)}{σ:St}{H:Hp}{s:Shared}{a:Addr}{y d:V}{u r:Value}{o:Option V}{A:Around}{E:Value->Shared->Prop}
end
section
variable {X:Cx}{o e f:Expr}{apos cpos:Pos}{td ty tx:TE}
end
section
variable {X:Cx}{pins:List (Addr × Obj)}{σ:St}{H:Hp}{s:Shared}{a:Addr}{kvs:List (Key × V)}{A:Around}{E:Value->Shared->Prop}
end
section
variable {X:Cx}{pins:List (Addr × Obj)}{σ:St}{H:Hp}{s:Shared}{a:Addr}{y:V}{u:Value}{A:Around}{E:Value->Shared->Prop}
end
end L2
namespace L2
open PySem PySem.Spec PyProof.Rows
section
variable {κ:Type} [DecidableEq κ]
end
end L2
namespace L2
open PySem PySem.Spec PyProof.Rows
section
variable {X:Cx}
def CMulB (i j:Int):Prop:=i.natAbs < 2 ^ 256/\j.natAbs < 2 ^ 256
theorem bits256 {i:Int}(h:i.natAbs < 2 ^ 256):Builtin.Int.intBits i<=2 ^ 20:=Nat.le_trans (intBits_le h) (by decide)
theorem op_mulB:OpR X (binaryOp .Mult) (rI CMulB λ i j=>.int (i * j)):=opI λ _ _ _ _ _ _ _ hc q=>mul_int q (IntMulOk.of_bits (bits256 hc.1) (bits256 hc.2))
def CDivB (_ j:Int):Prop:=j ≠ 0/\j.natAbs < 2 ^ 256
theorem log256 {j:Int}(h:j ≠ 0) (hj:j.natAbs < 2 ^ 256):j.natAbs.log2 < 9000:=by
 have h0:j.natAbs ≠ 0:=by omega
 have h1:=(Nat.log2_lt h0).mpr hj
 omega
theorem op_fdivB:OpR X (binaryOp .FloorDiv) (rI CDivB λ i j=>.int (i.fdiv j)):=opI λ _ _ _ _ _ _ _ hc q=>floordiv_int hc.1 q (.inl (PyProof.noPylong_of_log2 (log256 hc.1 hc.2)))
theorem call_isi:CallR X (.builtin "isinstance") (λ xs H Q=>∃ x n ty b,xs=[x,.ty n]/\TyOf X.K H x ty/\W.kitOne X.K ty (.type n)=some b/\Q (.bl b) H):=by
 intro pins s σ H xs us Q I r h
 obtain ⟨x,n,ty,b,rfl,hty,hk,q⟩:=h
 obtain ⟨u,w',rfl,rx,rc⟩:=vals2 r
 cases (show w'=Value.type n from rc)
 exact isinst_ok I rx hty hk (λ tk=>⟨.bl b,H,I.tok _,rfl,q⟩)
theorem kitOne_ty (K:W.Frag) (A B:String) (r:Bool)
  (h:(if (Value.type A == Value.type B)=true then some true else if W.kitMeta B=true then (fastBuiltinMro A).map (·.contains (.type B)) else none)=some r):W.kitOne K (.type A) (.type B)=some r:=h
mutual
inductive DatV (K:PySem.W.Frag) (H:Hp):V->PyData->Prop
 | non:DatV K H .non .none
 | bl (b:Bool):DatV K H (.bl b) (.bool b)
 | int (i:Int):DatV K H (.int i) (.int i)
 | str (x:Str):DatV K H (.str x) (.str x)
 | lst {a:Addr} {xs:List V} {ds:List PyData} (h:SqL K H a xs) (r:DatVs K H xs ds):DatV K H (.ref a) (.list ds)
 | tup {a:Addr} {xs:List V} {ds:List PyData} (h:SqT K H a xs) (r:DatVs K H xs ds):DatV K H (.ref a) (.tuple ds)
inductive DatVs (K:PySem.W.Frag) (H:Hp):List V->List PyData->Prop
 | nil:DatVs K H [] []
 | cons {x:V} {d:PyData} {xs:List V} {ds:List PyData} (h:DatV K H x d) (t:DatVs K H xs ds):DatVs K H (x::xs) (d::ds)
end
mutual
theorem DatV.reads {pins:List (Addr × Obj)}{σ:St}{H:Hp}{s:Shared}(I:Inv X pins σ H s):∀ {x:V}{d:PyData}{u:Value},DatV X.K H x d->RelV x u->∃ as,Reads s.heap u d as
 | _,_,_,.non,r=>by cases (show _=Value.none from r);exact ⟨_,.none⟩
 | _,_,_,.bl b,r=>by cases (show _=Value.bool b from r);exact ⟨_,.bool b⟩
 | _,_,_,.int i,r=>by obtain ⟨t,rfl⟩:=r;exact ⟨_,.int i t⟩
 | _,_,_,.str x,r=>by obtain ⟨t,rfl⟩:=r;exact ⟨_,.str x t⟩
 | _,_,_,@DatV.lst _ _ a xs ds h q,r=>by
  cases (show _=Value.ref a from r)
  obtain ⟨its,hv,hp,_⟩:=I.list h
  obtain ⟨o,n,e,c,_,d⟩:=hp
  obtain ⟨as,z⟩:=DatVs.reads I q hv
  exact ⟨_,.list e c d (by simpa using z)⟩
 | _,_,_,@DatV.tup _ _ a xs ds h q,r=>by
  cases (show _=Value.ref a from r)
  obtain ⟨its,hv,hp,_⟩:=I.tuple h
  obtain ⟨o,e,c,n,d⟩:=hp
  obtain ⟨as,z⟩:=DatVs.reads I q hv
  exact ⟨_,.tuple e c d (by simpa using z)⟩
theorem DatVs.reads {pins:List (Addr × Obj)}{σ:St}{H:Hp}{s:Shared}(I:Inv X pins σ H s):∀ {xs:List V}{ds:List PyData}{us:List Value},DatVs X.K H xs ds->Vals xs us->∃ as,ReadsAll s.heap us ds as
 | _,_,_,.nil,.nil=>⟨_,.nil⟩
 | _,_,_,.cons h t,.cons r q=>by
  obtain ⟨as,z⟩:=DatV.reads I h r
  obtain ⟨bs,y⟩:=DatVs.reads I t q
  exact ⟨_,.cons z y⟩
end
def rEqD (K:W.Frag):R2:=λ x y H Q=>∃ d e,DatV K H x d/\DatV K H y e/\SeqAt.shaped d=true/\SeqAt.shaped e=true/\Q (.bl (PyData.eqv d e)) H
def rNeD (K:W.Frag):R2:=λ x y H Q=>∃ d e,DatV K H x d/\DatV K H y e/\SeqAt.shaped d=true/\SeqAt.shaped e=true/\Q (.bl (!PyData.eqv d e)) H
theorem op_eqD (hu:X.A.units+64 < cLine):OpR X (compareOp .Eq) (rEqD X.K):=by
 intro pins s σ H x y v u Q I rx ry h
 obtain ⟨d,e,hd,he,sd,se,q⟩:=h
 obtain ⟨as,z⟩:=hd.reads I rx
 obtain ⟨bs,z'⟩:=he.reads I ry
 exact SeqAt.compareEq_shaped z z' sd se hu ⟨.bl _,H,I,rfl,q⟩
theorem op_neD (hu:X.A.units+64 < cLine):OpR X (compareOp .NotEq) (rNeD X.K):=by
 intro pins s σ H x y v u Q I rx ry h
 obtain ⟨d,e,hd,he,sd,se,q⟩:=h
 obtain ⟨as,z⟩:=hd.reads I rx
 obtain ⟨bs,z'⟩:=he.reads I ry
 exact SeqAt.compareNe_shaped z z' sd se hu ⟨.bl _,H,I,rfl,q⟩
end
theorem same_upd {H:Hp}{p:Addr}{o:HO}(h:H p=none):Same H (upd H p o):=λ b u e=>by
 rw [upd_ne (ne_of_none e h)];exact e
theorem atI_lt {α:Type}(xs:List α) (i:Int) (h0:0<=i) (h1:i < xs.length):∃ v,atI xs i=some v/\v∈xs:=by
 have hl:i.toNat < xs.length:=by omega
 refine ⟨xs[i.toNat],?_,List.getElem_mem hl⟩
 have e:((i.toNat:Nat):Int)=i:=by omega
 have:=atI_nat (xs:=xs) (j:=i.toNat) (v:=xs[i.toNat]) (List.getElem?_eq_getElem hl)
 rw [e] at this
 exact this
theorem atI_ints (ns:List Int) (i:Int) (h0:0<=i) (h1:i < ns.length):∃ z,atI (ns.map V.int) i=some (.int z)/\z∈ns:=by
 obtain ⟨v,e,m⟩:=atI_lt (ns.map V.int) i h0 (by simpa using h1)
 obtain ⟨z,hz,rfl⟩:=List.mem_map.mp m
 exact ⟨z,e,hz⟩
end L2
namespace L2
open PySem PySem.Spec PyProof.Rows
def clOf (cells:List (Str × Addr)):List (Str × NameKind)->List (Str × Addr)->List (Str × Addr)
 | [],acc=>acc
 | (n,k)::r,acc=>if (k == .free)=true then clOf cells r ((n,(cells.lookup n).getD 0)::acc) else clOf cells r acc
theorem closure_run {env:Env}:∀ (names:List (Str × NameKind)) (acc:List (Str × Addr)),(∀ y∈names,y.2=.free->∃ c,env.cells.lookup y.1=some c) →
  (forIn names acc (λ (x:Str × NameKind) (cs:List (Str × Addr))=>match x with
   | (name,kind)=>if (kind == .free)=true then (do let a ←cellOf env name;pure (ForInStep.yield ((name,a)::cs))) else (do pure PUnit.unit;pure (ForInStep.yield cs))):Sem (List (Str × Addr)))=pure (clOf env.cells names acc)
 | [],acc,_=>rfl
 | (n,k)::r,acc,h=>by
  rw [List.forIn_cons]
  have hr:∀ y∈r,y.2=.free->∃ c,env.cells.lookup y.1=some c:=λ y hy=>h y (List.mem_cons_of_mem _ hy)
  by_cases hk:(k == .free)=true
  ·obtain ⟨c,hc⟩:=h (n,k) List.mem_cons_self (by simpa using hk)
   have hc':env.cells.lookup n=some c:=hc
   simp only [hk,if_true,clOf,hc',Option.getD_some]
   have e:cellOf env n=pure c:=by unfold cellOf;rw [hc']
   rw [e]
   exact closure_run r _ hr
  ·simp only [hk,if_false,clOf]
   exact closure_run r acc hr
theorem closureFor_eq {scope:Scope}{env:Env}(h:∀ y∈scope.names,y.2=.free->∃ c,env.cells.lookup y.1=some c):closureFor scope env=pure (clOf env.cells scope.names []):=by
 unfold closureFor
 have:=closure_run (env:=env) scope.names [] h
 first
  | exact (congrArg (λ m=>m >>= λ cs=>pure cs) this).trans (pure_bind _ _)
  | (simp only [] at this ⊢;rw [this];rfl)
theorem clOf_sub {cells:List (Str × Addr)}{x:Str}{c:Addr}:∀ {names:List (Str × NameKind)}{acc:List (Str × Addr)},(∀ y∈names,y.2=.free->∃ c,cells.lookup y.1=some c)->(clOf cells names acc).lookup x=some c->acc.lookup x=some c\/cells.lookup x=some c
 | [],acc,_,h=>.inl h
 | (n,k)::r,acc,hf,h=>by
  have hr:∀ y∈r,y.2=.free->∃ c,cells.lookup y.1=some c:=λ y hy=>hf y (List.mem_cons_of_mem _ hy)
  unfold clOf at h
  by_cases hk:(k == .free)=true
  ·rw [if_pos hk] at h
   rcases clOf_sub hr h with q|q
   ·rw [List.lookup_cons] at q
    cases hx:x == n with
    | true=>
     rw [hx] at q
     obtain ⟨d,hd⟩:=hf (n,k) List.mem_cons_self (by simpa using hk)
     have e:x=n:=by simpa using hx
     subst e
     have hd':cells.lookup x=some d:=hd
     rw [hd'] at q ⊢
     exact .inr (by simpa using q)
    | false=>rw [hx] at q;exact .inl q
   ·exact .inr q
  ·rw [if_neg hk] at h
   exact clOf_sub hr h
theorem clOf_acc {cells:List (Str × Addr)}{x:Str}:∀ {names:List (Str × NameKind)}{acc:List (Str × Addr)},(∀ y∈names,y.2=.free->∃ c,cells.lookup y.1=some c)->(∃ c,acc.lookup x=some c)->∃ c,(clOf cells names acc).lookup x=some c
 | [],acc,_,h=>h
 | (n,k)::r,acc,hf,h=>by
  have hr:∀ y∈r,y.2=.free->∃ c,cells.lookup y.1=some c:=λ y hy=>hf y (List.mem_cons_of_mem _ hy)
  unfold clOf
  by_cases hk:(k == .free)=true
  ·rw [if_pos hk]
   refine clOf_acc hr ?_
   rw [List.lookup_cons]
   cases hx:x == n with
   | true=>exact ⟨_,rfl⟩
   | false=>exact h
  ·rw [if_neg hk]
   exact clOf_acc hr h
theorem clOf_has {cells:List (Str × Addr)}{x:Str}:∀ {names:List (Str × NameKind)}{acc:List (Str × Addr)},(∀ y∈names,y.2=.free->∃ c,cells.lookup y.1=some c)->names.lookup x=some .free->∃ c,(clOf cells names acc).lookup x=some c
 | [],acc,_,h=>by simp at h
 | (n,k)::r,acc,hf,h=>by
  have hr:∀ y∈r,y.2=.free->∃ c,cells.lookup y.1=some c:=λ y hy=>hf y (List.mem_cons_of_mem _ hy)
  rw [List.lookup_cons] at h
  unfold clOf
  cases hx:x == n with
  | true=>
   rw [hx] at h
   have hk:k=.free:=by simpa using h
   subst hk
   rw [if_pos (show (NameKind.free == NameKind.free)=true from rfl)]
   refine clOf_acc hr ⟨(cells.lookup n).getD 0,?_⟩
   rw [List.lookup_cons,hx]
  | false=>
   rw [hx] at h
   by_cases hk:(k == .free)=true
   ·rw [if_pos hk];exact clOf_has hr h
   ·rw [if_neg hk];exact clOf_has hr h
theorem lookup_mem {x:Str}{k:NameKind}:∀ {names:List (Str × NameKind)},names.lookup x=some k->(x,k)∈names
 | [],h=>by simp at h
 | (n,j)::r,h=>by
  rw [List.lookup_cons] at h
  cases hx:x == n with
  | true=>
   rw [hx] at h
   have e:x=n:=by simpa using hx
   have e2:j=k:=by simpa using h
   subst e;subst e2
   exact List.mem_cons_self
  | false=>rw [hx] at h;exact List.mem_cons_of_mem _ (lookup_mem h)
theorem lookup_relabel {env:Env}{x:Str}:∀ {names:List (Str × NameKind)},
  (names.map λ (n,k)=>if (k == NameKind.free && env.scope.kind == .function && env.kindOf n == some .cell) then (n,NameKind.cell) else (n,k)).lookup x
   = (names.lookup x).map λ k=>if (k == NameKind.free && env.scope.kind == .function && env.kindOf x == some .cell) then NameKind.cell else k
 | []=>rfl
 | (n,k)::r=>by
  have ih:=@lookup_relabel env x r
  show List.lookup x ((if (k == NameKind.free && env.scope.kind == .function && env.kindOf n == some .cell)=true then (n,NameKind.cell) else (n,k))::_)=_
  cases hx:x == n with
  | true=>
   have e:x=n:=by simpa using hx
   subst e
   by_cases hc:(k == NameKind.free && env.scope.kind == .function && env.kindOf x == some .cell)=true
   ·rw [if_pos hc]
    simp only [List.lookup_cons,beq_self_eq_true,Option.map_some]
    rw [if_pos hc]
   ·rw [if_neg hc]
    simp only [List.lookup_cons,beq_self_eq_true,Option.map_some]
    rw [if_neg hc]
  | false=>
   by_cases hc:(k == NameKind.free && env.scope.kind == .function && env.kindOf n == some .cell)=true
   ·rw [if_pos hc];simp only [List.lookup_cons,hx];exact ih
   ·rw [if_neg hc];simp only [List.lookup_cons,hx];exact ih
abbrev cCx (X:Cx) (scope:Scope) (N':List Str) (C:Addr) (s₀:Shared) (H₀:Hp) (ex:List Addr) (pn:List (Addr × Obj)):Cx:=
 { X with N:=N',s₀:=s₀,H₀:=H₀,env:=compEnvC scope (clOf X.env.cells scope.names []) C X.env,outer:=X.stack,stack:=X.stack,ex:=ex,fn:=λ _=>false,pn:=pn,xe:=λ _ _=>False }
def PTs (Y:Cx) (ifs:List Expr) (t:TT):Prop:=
 ∀ (pins:List (Addr × Obj)) (s:Shared) (σ:St) (H:Hp) (Q:Bool->Hp->Prop),Inv Y pins σ H s->t σ H Q →
  wpAny (model Y.prog Y.w) Y.A (forIn ifs true λ c r=>if r=true then do let ok ←isTrue c Y.env (eval c Y.env);pure (ForInStep.yield ok) else pure (ForInStep.yield r)) (TP Y pins σ Q) Y.xe s
def tYes:TT:=λ _ H Q=>Q true H
theorem pts_nil {Y:Cx}:PTs Y [] tYes:=λ _ _ _ H _ I h=>wpAny_pure ⟨H,I,h⟩
theorem pts_one {Y:Cx}{c:Expr}{t:TT}(h:PT Y c t):PTs Y [c] t:=λ pins s σ H Q I hw=>PySem.wpAny_tests_one (h pins s σ H Q I hw)
theorem HOk.but {P:Program}{w:World}{H:Hp}{h h':Heap}{C:Addr}(ok:HOk P w H h) (hn:H C=none) (hs:Heap.SameBut C h h'):HOk P w H h':=λ b ob e=>by
 refine (ok b ob e).stay (λ c w' hc q=>(hs.2 c ?_).trans q) (λ _ q=>q) λ _ _ q=>q
 rintro rfl
 rcases hc with rfl|hc
 ·rw [hn] at e;cases e
 ·rw [hn] at hc;cases hc
theorem Un.but {fs ex:List Addr}{H H':Hp}{h h1 h2:Heap}{C:Addr}(u:Un fs ex H H' h h1) (hs:Heap.SameBut C h1 h2) (hC:∀ b o,h.get? b=some o->b ≠ C):Un fs ex H H' h h2 where
 keep:=λ b o e n hb hx=>(hs.2 b (hC b o e)).trans (u.keep b o e n hb hx)
 slot:=λ b o e n hb hx=>by
  obtain ⟨sl,q⟩:=u.slot b o e n hb hx
  exact ⟨sl,(hs.2 b (hC b o e)).trans q⟩
 free:=u.free
 there:=λ b o e hx=>by
  obtain ⟨o',q⟩:=u.there b o e hx
  exact ⟨o',(hs.2 b (hC b o e)).trans q⟩
 tups:=u.tups
 frzs:=u.frzs
 tbls:=u.tbls
section
variable {X:Cx}
def tComp (k:Nat) (wi:TI) (g:TG) (tt:TT) (te:TE):TE:=λ σ H Q=>wi σ H λ J H1=>∀ D,H1 D=none->∃ W:Nat->Nat->List V->Hp->Prop,(∃ m,W 0 m [] (upd H1 D (.lst [])))/\∀ i m ys H,W i m ys H →
 (J.stop i H/\Q (.ref D) H)\/(J.go i H/\∃ N:List V->Hp->Prop,(∀ ys' H',N ys' H'->∃ m',m' < m/\W (i+1) m' ys' H') /\
  ∀ x H',J.yld i H x H'->g x (List.replicate k none++σ) H' λ σ2 H2=>(∃ vs:St,vs.length=k/\σ2=vs++σ)/\tt σ2 H2 λ b H3=>if b=true then te σ2 H3 λ y H4=>H4 D=some (.lst ys)/\ys.length < sizeLine/\N (ys++[y]) (upd H4 D (.lst (ys++[y]))) else N ys H3)
theorem comp_loop {Y:Cx}{tg elt iter:Expr}{ifs:List Expr}{scope:Scope}{pos:Pos}{it D:Addr}{g:TG}{tt:TT}{te:TE}{J:It}{fp:List Addr}{tn:Nat->Heap->Prop}{k:Nat}{σ:St}{Q:VK}
  (hc:Y.calm=true) (hx:Y.xe=λ _ _=>False) (hg:PG Y tg g) (ht:PTs Y ifs tt) (he:PE Y elt te) (T:Turn Y.prog Y.w Y.K tg J fp it tn) (hf:∀ H:Hp,(∀ b∈fp,H b=none)->∀ b∈fp,FpOk Y [] H b)
  (W:Nat->Nat->List V->Hp->Prop)
  (turn:∀ i m ys H,W i m ys H->(J.stop i H/\Q (.ref D) H)\/(J.go i H/\∃ N:List V->Hp->Prop,(∀ ys' H',N ys' H'->∃ m',m' < m/\W (i+1) m' ys' H') /\
   ∀ x H',J.yld i H x H'->g x (List.replicate k none++σ) H' λ σ2 H2=>(∃ vs:St,vs.length=k/\σ2=vs++σ)/\tt σ2 H2 λ b H3=>if b=true then te σ2 H3 λ y H4=>H4 D=some (.lst ys)/\ys.length < sizeLine/\N (ys++[y]) (upd H4 D (.lst (ys++[y]))) else N ys H3))
  (n:Nat) (s:Shared) (h:∃ i ys H,Inv Y [] (List.replicate k none++σ) H s/\tn i s.heap/\(∀ b∈fp,H b=none)/\W i n ys H) :
  codeAny (model Y.prog Y.w) Y.A (.compLoop (.ListComp elt [⟨tg,iter,ifs,0⟩] scope pos) 0 (.ref it) (.ref D) Y.env) (λ r s'=>r=.ok .next/\∃ H',Inv Y [] (List.replicate k none++σ) H' s'/\Q (.ref D) H') s:=by
 refine codeAny_loop rfl (λ n s=>∃ i ys H,Inv Y [] (List.replicate k none++σ) H s/\tn i s.heap/\(∀ b∈fp,H b=none)/\W i n ys H) ?_ n h
 rintro n s3 ⟨i,ys,H3,I3,st3,fr3,w3⟩
 show wpAny _ Y.A ((compTurn (.ListComp elt [⟨tg,iter,ifs,0⟩] scope pos) 0 (.ref it) (.ref D) Y.env).onRaise (λ x=>do noteFrame x Y.env;theTreesLotGoes x)) _ _ s3
 refine PySem.wpAny_noted ?_
 rw [PySem.compTurn_list]
 have no:∀ {α:Type} {m:Sem α} {P:α->Shared->Prop} {E:Value->Shared->Prop} {s:Shared},wpAny (model Y.prog Y.w) Y.A m P Y.xe s->wpAny (model Y.prog Y.w) Y.A m P E s:=λ {α m P E s} h=>
  wpAny_mono h (λ _ _ q=>q) λ _ _ q=>by rw [hx] at q;exact q.elim
 refine wpAny_bind (wpAny_standAt (wpAny_bind ?_))
 rcases turn i n ys H3 w3 with ⟨stop,qn⟩|⟨go,N,hN,step⟩
 ·refine thn (T.done Y rfl rfl rfl hc i [] s3 (List.replicate k none++σ) H3 _ I3 (hf H3 fr3) st3 stop) λ r s4 ⟨hr,I4⟩=>?_
  subst hr
  exact wpAny_pure ⟨rfl,H3,I4,qn⟩
 ·refine thn (T.item Y rfl rfl rfl hc i [] s3 (List.replicate k none++σ) H3 _ I3 (hf H3 fr3) st3 go) λ r s4 ⟨u,hr,h4⟩=>?_
  subst hr
  refine wpAny_bind (thn h4 λ _ s5 ⟨x,H5,I5,r5,y5,st5,fr5⟩=>?_)
  have I5':=I5.pinned (hf H5 fr5) (T.obj _ _ st5)
  refine wpAny_bind (no (thn (hg _ s5 (List.replicate k none++σ) H5 x u _ I5' r5 (step x H5 y5)) λ _ s6 ⟨σ6,H6,I6,⟨vs,hvs,e6⟩,q6⟩=>?_))
  subst e6
  have forget:∀ {pins:List (Addr × Obj)} {H:Hp} {s:Shared},Inv Y pins (vs++σ) H s->Inv Y pins (List.replicate k none++σ) H s:=λ {pins H s} I=>I.weak (by simp [hvs]) λ i v e=>by
   by_cases hi:i < k
   ·rw [List.getElem?_append_left (by simpa using hi)] at e
    simp [List.getElem?_replicate,hi] at e
   ·rw [List.getElem?_append_right (by simpa using Nat.le_of_not_lt hi)] at e
    rw [List.getElem?_append_right (by omega)]
    simpa [hvs] using e
  refine wpAny_bind (no (thn (ht _ s6 (vs++σ) H6 _ I6 q6) λ b s7 ⟨H7,I7,q7⟩=>?_))
  have again:∀ {H8:Hp} {s8:Shared} {ys':List V},Inv Y ([]++pinsAt fp s5.heap) (vs++σ) H8 s8->N ys' H8->∃ m,m < n/\∃ i ys H,Inv Y [] (List.replicate k none++σ) H s8/\tn i s8.heap/\(∀ b∈fp,H b=none)/\W i m ys H:=λ {H8 s8 ys'} I8 n8=>by
   obtain ⟨m',hm,w8⟩:=hN ys' H8 n8
   refine ⟨m',hm,i+1,ys',H8,forget I8.unpinned,T.keep _ _ _ st5 λ b hb o e=>(I8.pin (b,o) (List.mem_append_right _ (List.mem_append_right _ (mem_pinsAt hb e)))).1,λ b hb=>?_,w8⟩
   obtain ⟨o,e,d⟩:=T.obj _ _ st5 b hb
   exact (I8.pin (b,o) (List.mem_append_right _ (List.mem_append_right _ (mem_pinsAt hb e)))).2.1
  cases b with
  | false=>
   rw [if_neg Bool.false_ne_true] at q7
   exact wpAny_pure ⟨rfl,again I7 q7⟩
  | true=>
   rw [if_pos rfl] at q7
   refine wpAny_bind (wpAny_bind (no (thn (he _ s7 (vs++σ) H7 _ I7 q7) λ y s8 ⟨y',H8,I8,ry,q8,l8,n8⟩=>?_)))
   exact wpAny_bind (no (thn (mt_append _ s8 (vs++σ) H8 (.ref D) [y'] (.ref D) [y] (λ _ H'=>N (ys++[y']) H') I8 rfl (.cons ry .nil) ⟨D,ys,y',rfl,rfl,q8,l8,n8⟩) λ _ s9 ⟨_,H9,I9,_,q9⟩=>wpAny_pure (wpAny_pure ⟨rfl,again I9 q9⟩)))
structure CompOk (X:Cx) (scope:Scope) (N':List Str) (k:Nat):Prop where
 cell:∀ y∈scope.names,y.2 ≠ .cell
 kind:scope.kind=.function
 names:∀ y∈scope.names,y.2=.local->scope.names.lookup y.1=some .local
 free:∀ y∈scope.names,y.2=.free->X.env.scope.names.lookup y.1=some .cell
 len:N'.length=k+X.N.length
 sub:∀ i x,N'[k+i]? = some x->scope.names.lookup x=some .free->X.N[i]? = some x
 loc:∀ i x,N'[k+i]? = some x->scope.names.lookup x ≠ some .local
theorem CompOk.cells {scope:Scope}{N':List Str}{k:Nat}{pins:List (Addr × Obj)}{σ:St}{H:Hp}{s:Shared}(c:CompOk X scope N' k) (I:Inv X pins σ H s):∀ y∈scope.names,y.2=.free->∃ a,X.env.cells.lookup y.1=some a:=λ y hy e=>
 I.ok.has y.1 (.inl (c.free y hy e))
theorem inv_comp {scope:Scope}{N':List Str}{k:Nat}{pins:List (Addr × Obj)}{σ:St}{H:Hp}{s s₄:Shared}{fp:List Addr}{m:Str->Option Value}(c:CompOk X scope N' k) (hc:X.calm=true) (I:Inv X pins σ H s)
  (hf:∀ b∈fp,FpOk X pins H b) (hfl:∀ b∈fp,b < s.heap.objs.size) (hb:∀ b∈fp,X.base.get? b=none) (hns:s₄.heap.Ns s.heap.objs.size m) (hk:∀ b o,s.heap.get? b=some o->s₄.heap.get? b=some o) (ho:s₄.os=s.os) (hg:s₄.gens=s.gens) :
  Inv (cCx X scope N' s.heap.objs.size s H fp (X.pn++pins)) [] (List.replicate k none++σ) H s₄:=by
 have hcl:=c.cells I
 have sub:∀ x a,(clOf X.env.cells scope.names []).lookup x=some a->X.env.cells.lookup x=some a:=λ x a e=>by
  rcases clOf_sub hcl e with q|q
  ·simp at q
  ·exact q
 have kinds:∀ x,(compEnvC scope (clOf X.env.cells scope.names []) s.heap.objs.size X.env).kindOf x=some .cell\/(compEnvC scope (clOf X.env.cells scope.names []) s.heap.objs.size X.env).kindOf x=some .free->scope.names.lookup x=some .free:=λ x hx=>by
  have e:(compEnvC scope (clOf X.env.cells scope.names []) s.heap.objs.size X.env).kindOf x=(scope.names.lookup x).map λ k=>if (k == NameKind.free && X.env.scope.kind == .function && X.env.kindOf x == some .cell) then NameKind.cell else k:=lookup_relabel
  rw [e] at hx
  cases q:scope.names.lookup x with
  | none=>rw [q] at hx;simp at hx
  | some j=>
   rw [q] at hx
   have hj:j ≠ .cell:=c.cell (x,j) (lookup_mem q)
   cases j<;>simp_all
 have fresh:∀ b,s.heap.objs.size<=b->s.heap.get? b=none:=λ b hb=>Heap.get?_none_of_le hb
 have ne:∀ b o,s.heap.get? b=some o->b ≠ s.heap.objs.size:=λ b o e=>Nat.ne_of_lt (Heap.lt_size e)
 have cl_lt:∀ x a,X.env.cells.lookup x=some a->a < s.heap.objs.size:=λ x a e=>by
  obtain ⟨v,o,h1,_⟩:=I.cell x a e
  exact Heap.lt_size h1
 refine ⟨⟨I.ok.mod,c.kind,I.ok.glob,I.ok.blt,Nat.le_refl _,λ x y a e1 e2=>I.ok.inj x y a (sub x a e1) (sub y a e2),λ x hx=>clOf_has hcl (kinds x hx),(λ _ _ z=>nomatch z),I.ok.hd,I.ok.frames,.inl rfl,λ b hb'=>⟨Nat.ne_of_lt (hfl b hb'),λ x a e=>(hf b hb').2.2.2.2.1 x a (sub x a e)⟩,
   I.bs,Nat.le_trans I.ok.bsz I.sz,(λ b o e hb'=>by rw [hb b hb'] at e;cases e),λ b hb' hz=>?_,I.stack,I.stkFree⟩,ho,by rw [hg];exact I.bare,Un.kept hk,⟨m,hns,λ i x v e1 e2 e3=>?_⟩,λ x a e=>?_,I.hok.fresh (Nat.le_refl _),λ x a e=>I.freeC x a (sub x a e),λ p hp=>?_,I.hok.kept hk,?_⟩
 ·rcases List.mem_cons.mp (I.stkSub b hz) with z|z
  ·exact (hf b hb').2.1 z
  ·exact (hf b hb').2.2.1 z
 ·have hi:k<=i:=by
   refine Nat.le_of_not_lt λ hi=>?_
   rw [List.getElem?_append_left (by simpa using hi)] at e2
   simp [List.getElem?_replicate,hi] at e2
  obtain ⟨j,rfl⟩:∃ j,i=k+j:=⟨i - k,by omega⟩
  rw [List.getElem?_append_right (by simp)] at e2
  have e2':σ[j]? = some (some v):=by simpa using e2
  have e:(relabel scope X.env).names.lookup x=(scope.names.lookup x).map λ k=>if (k == NameKind.free && X.env.scope.kind == .function && X.env.kindOf x == some .cell) then NameKind.cell else k:=lookup_relabel
  have hfree:scope.names.lookup x=some .free:=by
   cases q:scope.names.lookup x with
   | none=>
    rcases e3 with z|z|z
    all_goals (have z':(relabel scope X.env).names.lookup x=some _:=z;rw [e,q] at z';simp at z')
   | some j'=>
    have h1:j' ≠ .cell:=c.cell (x,j') (lookup_mem q)
    have h2:j' ≠ .local:=λ z=>c.loc j x e1 (by rw [q,z])
    rcases e3 with z|z|z
    all_goals (have z':(relabel scope X.env).names.lookup x=some _:=z;rw [e,q] at z';cases j'<;>simp_all)
  have hX:=c.sub j x e1 hfree
  have hcellX:=c.free (x,.free) (lookup_mem hfree) rfl
  obtain ⟨m0,hn0,hl0⟩:=I.loc
  obtain ⟨u,r,l⟩:=hl0 j x v hX e2' (.inr (.inl hcellX))
  refine ⟨u,r,?_⟩
  rcases l with ⟨z,_⟩|⟨_,a,ea,hz⟩
  ·have z':X.env.scope.names.lookup x=some .local:=z
   rw [hcellX] at z';cases z'
  ·obtain ⟨a',ea'⟩:=clOf_has (acc:=[]) hcl hfree
   have e4:=sub x a' ea'
   rw [ea] at e4
   cases e4
   refine .inr ⟨.inl ?_,a,ea',?_⟩
   ·show (relabel scope X.env).names.lookup x=some .cell
    rw [e,hfree]
    have k1:(X.env.scope.kind == .function)=true:=by rw [I.ok.kind];rfl
    have k2:(X.env.kindOf x == some .cell)=true:=by
     have:X.env.kindOf x=some .cell:=hcellX
     rw [this];rfl
    simp [k1,k2]
   ·obtain ⟨o,h1,h2⟩:=hz
    exact ⟨o,hk _ _ h1,h2⟩
 ·obtain ⟨v,o,h1,h2⟩:=I.cell x a (sub x a e)
  exact ⟨v,o,hk _ _ h1,h2⟩
 ·have hp':p∈X.pn++pins:=by simpa using hp
  obtain ⟨e,n,nl,nf,d⟩:=I.pin p hp'
  refine ⟨hk _ _ e,n,ne _ _ e,λ z=>?_,d⟩
  rcases List.mem_cons.mp (I.stkSub _ z) with z|z
  ·exact nl z
  ·exact nf z
 ·show (List.replicate k none++σ).length=N'.length
  rw [c.len,List.length_append,List.length_replicate,I.len]
theorem comp_block {elt iter tg:Expr}{ifs:List Expr}{scope:Scope}{pos:Pos}{g:TG}{tt:TT}{te:TE}{N':List Str}{k:Nat}{it:Addr}{J:It}{fp:List Addr}{tn:Nat->Heap->Prop}{pins:List (Addr × Obj)}{σ:St}{H:Hp}{s:Shared}{Q:VK}{RR:Value->Addr->Result->Shared->Prop}{E:Value->Shared->Prop}
  (c:CompOk X scope N' k) (hc:X.calm=true) (I:Inv X pins σ H s) (T:Turn X.prog X.w X.K tg J fp it tn) (st:tn 0 s.heap) (hf:∀ b∈fp,FpOk X pins H b)
  (hg:∀ C s₀ H₀ ex pn,PG (cCx X scope N' C s₀ H₀ ex pn) tg g) (ht:∀ C s₀ H₀ ex pn,PTs (cCx X scope N' C s₀ H₀ ex pn) ifs tt) (he:∀ C s₀ H₀ ex pn,PE (cCx X scope N' C s₀ H₀ ex pn) elt te)
  (h:∀ D,H D=none->∃ W:Nat->Nat->List V->Hp->Prop,(∃ m,W 0 m [] (upd H D (.lst [])))/\∀ i m ys H,W i m ys H →
   (J.stop i H/\Q (.ref D) H)\/(J.go i H/\∃ N:List V->Hp->Prop,(∀ ys' H',N ys' H'->∃ m',m' < m/\W (i+1) m' ys' H') /\
    ∀ x H',J.yld i H x H'->g x (List.replicate k none++σ) H' λ σ2 H2=>(∃ vs:St,vs.length=k/\σ2=vs++σ)/\tt σ2 H2 λ b H3=>if b=true then te σ2 H3 λ y H4=>H4 D=some (.lst ys)/\ys.length < sizeLine/\N (ys++[y]) (upd H4 D (.lst (ys++[y]))) else N ys H3))
  (fin:∀ D C s' H' m,s'.heap.Ns C m->C ≠ X.env.locals->(∀ x a,X.env.cells.lookup x=some a->a ≠ C)->(H' C=none/\X.s₀.heap.objs.size<=C/\∀ p∈X.pn++pins,p.1 ≠ C)->(∀ h',Heap.SameBut C s'.heap h'->Inv X pins σ H' { s' with heap:=h' })->Q (.ref D) H'->RR (.ref D) C (.ok .next) s') :
  wpAny (model X.prog X.w) X.A (newList []) (λ acc s₃=>wpAny (model X.prog X.w) X.A (newFunctionEnv scope X.env.globals (clOf X.env.cells scope.names []) [] X.env.qual none .none (some X.env)) (λ cenv s₄=>
   codeAny (model X.prog X.w) X.A (.compStart (.ListComp elt [⟨tg,iter,ifs,0⟩] scope pos) 0 (.ref it) acc { cenv with scope:=relabel scope X.env }) (RR acc cenv.locals) s₄) E s₃) E s:=by
 refine wpAny_newObj_type (wpAny_newFunctionEnv c.cell (by intro y hy;simp at hy) (λ h₁ hns₁ hsb₁=>?_) c.kind)
 dsimp only at hns₁ hsb₁ ⊢
 have I3:Inv X pins σ (upd H s.heap.objs.size (.lst [])) { s with heap:=s.heap.push { cls:=.type "list",data:=.seq ([]:List Value).toArray },toks:=s.toks }:=I.lnew (ys:=[]) (its:=[]) .nil (Nat.zero_le _)
 generalize hH2:s.heap.push { cls:=.type "list",dict:=none,data:=.seq ([]:List Value).toArray }=hp at hns₁ hsb₁ I3 ⊢
 have hlt:∀ b o,s.heap.get? b=some o->hp.get? b=some o:=λ b o e=>by rw [←hH2];exact Heap.get?_push_of_some _ e
 have hnD:H s.heap.objs.size=none:=I.hok.fresh (Nat.le_refl _)
 have kp:∀ b o,hp.get? b=some o->h₁.get? b=some o:=λ b o e=>hsb₁.extBut b o (Nat.ne_of_lt (Heap.lt_size e)) (Heap.get?_push_of_some _ e)
 have stk:∀ b∈fp,s.heap.get? b ≠ none:=λ b hb z=>by
  obtain ⟨o,e,_⟩:=T.obj _ _ st b hb
  rw [z] at e;cases e
 have flt:∀ b∈fp,b < s.heap.objs.size:=λ b hb=>by
  obtain ⟨o,e,_⟩:=T.obj _ _ st b hb
  exact Heap.lt_size e
 have fpD:∀ b∈fp,b ≠ s.heap.objs.size:=λ b hb=>Nat.ne_of_lt (flt b hb)
 have hf3:∀ b∈fp,FpOk X pins (upd H s.heap.objs.size (.lst [])) b:=λ b hb=>by
  obtain ⟨a1,a2⟩:=hf b hb
  exact ⟨by rw [upd_ne (fpD b hb)];exact a1,a2⟩
 have hnb:∀ b∈fp,X.base.get? b=none:=λ b hb=>by
  cases e:X.base.get? b with
  | none=>rfl
  | some o=>
   rcases (hf b hb).2.2.2.1 with z|z
   ·exact absurd z (I.ok.noex b o e)
   ·have:=Heap.lt_size (I.ok.bs b o e).1
    exact absurd (Nat.lt_of_lt_of_le this z) (Nat.lt_irrefl _)
 have hsz:s.heap.objs.size < hp.objs.size:=by rw [←hH2,Heap.size_push];exact Nat.lt_succ_self _
 have IY:=inv_comp (s₄:={ s with heap:=h₁,toks:=s.toks+([]:List (Str × Value)).length }) (fp:=fp) c hc I3 hf3 (λ b hb=>Nat.lt_trans (flt b hb) hsz) hnb hns₁ kp rfl rfl
 obtain ⟨W,⟨m0,w0⟩,turn⟩:=h s.heap.objs.size hnD
 have run:=comp_loop (Y:=cCx X scope N' hp.objs.size { s with heap:=hp,toks:=s.toks } (upd H s.heap.objs.size (.lst [])) fp (X.pn++pins)) (tg:=tg) (elt:=elt) (iter:=iter) (ifs:=ifs) (scope:=scope) (pos:=pos) (it:=it) (D:=s.heap.objs.size) (k:=k) (σ:=σ) (Q:=Q)
  hc rfl (hg _ _ _ _ _) (ht _ _ _ _ _) (he _ _ _ _ _) T (λ H' hn b hb=>⟨hn b hb,Nat.ne_of_lt (Nat.lt_trans (flt b hb) hsz),λ z=>(IY.ok.exfs b hb) z,.inl hb,λ x a e=>(IY.ok.exf b hb).2 x a e,λ p hp=>by
   have hp':p∈X.pn++pins:=by simpa using hp
   exact (hf b hb).2.2.2.2.2 p hp'⟩) W turn m0
 have st₁:tn 0 h₁:=T.keep _ _ _ st λ b hb o e=>kp b o (hlt b o e)
 have go:=run { s with heap:=h₁,toks:=s.toks+([]:List (Str × Value)).length } ⟨0,[],_,IY,st₁,λ b hb=>(hf3 b hb).1,w0⟩
 have out:∀ r s',(r=Except.ok Flow.next/\∃ H',Inv (cCx X scope N' hp.objs.size { s with heap:=hp,toks:=s.toks } (upd H s.heap.objs.size (.lst [])) fp (X.pn++pins)) [] (List.replicate k none++σ) H' s'/\Q (.ref s.heap.objs.size) H')->RR (.ref s.heap.objs.size) hp.objs.size r s':=by
  rintro r s' ⟨rfl,H',J',q⟩
  obtain ⟨m,hn,_⟩:=J'.loc
  have hC:hp.objs.size ≠ X.env.locals:=Nat.ne_of_gt (Nat.lt_of_lt_of_le I.lt (Nat.le_of_lt hsz))
  refine fin _ _ s' H' m hn hC (λ x a e=>?_) ⟨J'.free,Nat.le_trans I.sz (Nat.le_of_lt hsz),λ p hp'=>Nat.ne_of_lt (Nat.lt_trans (Heap.lt_size (I.pin p hp').1) hsz)⟩ (λ h' hs'=>?_) q
  ·obtain ⟨v,o,h1,_⟩:=I.cell x a e
   exact Nat.ne_of_lt (Nat.lt_trans (Heap.lt_size h1) hsz)
  ·refine I.call' (ch:=fp) ?_ ?_ ?_ J'.bare λ b hb=>⟨(hf b hb).2.2.2.1,(hf b hb).2.1,(hf b hb).2.2.2.2.1,(hf b hb).2.2.2.2.2⟩
   ·exact J'.os
   ·have u1:Un (frs X.stack) fp H (upd H s.heap.objs.size (.lst [])) s.heap hp:=Un.laid hlt (Nat.le_refl _) hnD
    exact (u1.trans J'.base).but hs' λ b o e=>Nat.ne_of_lt (Nat.lt_trans (Heap.lt_size e) hsz)
   ·exact J'.hok.but J'.free hs'
 exact codeAny_compStart_list (codeAny_mono go out) (T.self _ 0 _ _ _ st₁ (codeAny_mono go out))
theorem pe_comp {elt iter tg:Expr}{ifs:List Expr}{scope:Scope}{pos:Pos}{wi:TI}{g:TG}{tt:TT}{te:TE}{N':List Str}{k:Nat}
  (c:CompOk X scope N' k) (hc:X.calm=true) (hi:PI X tg iter wi)
  (hg:∀ C s₀ H₀ ex pn,PG (cCx X scope N' C s₀ H₀ ex pn) tg g) (ht:∀ C s₀ H₀ ex pn,PTs (cCx X scope N' C s₀ H₀ ex pn) ifs tt) (he:∀ C s₀ H₀ ex pn,PE (cCx X scope N' C s₀ H₀ ex pn) elt te)
  (hs:∀ x,foldedSetIterable iter X.env x=pure x:=by intro _;rfl):PE X (.ListComp elt [⟨tg,iter,ifs,0⟩] scope pos) (tComp k wi g tt te):=by
 intro pins s σ H Q I h
 rw [PySem.eval_ListComp]
 refine PySem.wpAny_comprehension_free (use:=none) rfl hs (closureFor_eq (c.cells I)) c.kind c.names (thn (hi pins s σ H _ I h) λ v s1 h1=>thn h1 λ itv s2 h2=>?_)
 obtain ⟨it,fp,tn,J,H2,rfl,I2,T,st2,f2,hW⟩:=h2
 refine comp_block (RR:=λ acc C=>PySem.compPost (model X.prog X.w) X.A X.xe none (EP X pins σ Q) acc C) c hc I2 T st2 f2 hg ht he hW ?_
 intro D C s' H' m hn _ _ _ hI q
 exact ⟨m,hn,λ h' hs'=>⟨.ref D,H',hI h' hs',rfl,q⟩⟩
def tSetC (i:Nat) (te:TE):TS:=λ D σ H=>te σ H λ x H1=>D.nx (σ.set i (some x)) H1
theorem ps_setC {elt iter tg:Expr}{ifs:List Expr}{scope:Scope}{pos spos py:Pos}{wi:TI}{g:TG}{tt:TT}{te:TE}{N':List Str}{k i:Nat}{y:Str}
  (hN:X.N.Nodup) (hi':X.N[i]? = some y) (hy:Loc X.env.scope y)
  (c:CompOk X scope N' k) (hc:X.calm=true) (hi:PI X tg iter wi)
  (hg:∀ C s₀ H₀ ex pn,PG (cCx X scope N' C s₀ H₀ ex pn) tg g) (ht:∀ C s₀ H₀ ex pn,PTs (cCx X scope N' C s₀ H₀ ex pn) ifs tt) (he:∀ C s₀ H₀ ex pn,PE (cCx X scope N' C s₀ H₀ ex pn) elt te)
  (hsw:swapsWith (.ListComp elt [⟨tg,iter,ifs,0⟩] scope pos) (some (.Name y py)) spos.line X.env=pure true:=by rfl)
  (hs:∀ x,foldedSetIterable iter X.env x=pure x:=by intro _;rfl) (hf:X.fn y=true\/X.env.scope.names.lookup y=some .local:=by first|exact .inl rfl|exact .inr rfl|assumption) :
  PS X (.Assign [.Name y py] (.ListComp elt [⟨tg,iter,ifs,0⟩] scope pos) spos) (tSetC i (tComp k wi g tt te)):=by
 intro pins s σ H D I h
 rw [PySem.exec_Assign_Name_used _ _ _ _ hsw]
 refine wpAny_bind (wpAny_standAt (wpAny_bind ?_))
 show wpAny _ X.A (do let _ ←comprehension (.ListComp elt [⟨tg,iter,ifs,0⟩] scope pos) scope X.env _ (newList []) false (eval iter X.env) (some (assign (.Name y py) X.env))) _ _ s
 refine wpAny_bind (thn (PySem.wpAny_comprehension_free (use:=some (assign (.Name y py) X.env)) (Q:=λ _ s'=>SP X pins D .next s') rfl hs (closureFor_eq (c.cells I)) c.kind c.names (thn (hi pins s σ H _ I h) λ v s1 h1=>thn h1 λ itv s2 h2=>?_)) λ _ s' hq=>wpAny_pure (wpAny_pure hq))
 obtain ⟨it,fp,tn,J,H2,rfl,I2,T,st2,f2,hW⟩:=h2
 refine comp_block (Q:=λ x H1=>D.nx (σ.set i (some x)) H1) (RR:=λ acc C=>PySem.compPost (model X.prog X.w) X.A X.xe (some (assign (.Name y py) X.env)) (λ _ s'=>SP X pins D .next s') acc C) c hc I2 T st2 f2 hg ht he hW ?_
 intro D' C s' H' m hn hCl hCc hCo hI q
 show wpAny _ X.A (assign (.Name y py) X.env (.ref D')) _ _ s'
 have I':Inv X pins σ H' s':=hI s'.heap (Heap.SameBut.refl _ _)
 refine wpAny_assign_Name (store_ok2 I' hN hi' hy (show RelV (.ref D') (.ref D') from rfl) (λ s'' I'' ⟨a,sb,ha⟩=>?_) hf)
 have hCa:C ≠ a:=by
  rcases ha with rfl|ha
  ·exact hCl
  ·exact λ z=>hCc _ _ ha z.symm
 refine ⟨m,hn.sameBut sb hCa,λ h' hs'=>⟨_,H',?_,q⟩⟩
 exact I''.turned (t':=s''.toks) (λ b o hb e=>(hs'.2 b hb).trans e) hCo.1 hCl (.inr hCo.2.1) hCc hCo.2.2
end
end L2
namespace L2
open PySem PySem.Spec PyProof.Rows
def ExcAt (h:Heap) (e:Addr) (cls:Value) (d:Option Addr) (T:Addr):Prop:=
 ∃ oe vs oT ts,h.get? e=some oe/\oe.cls=cls/\oe.dict=d/\oe.data=.fields vs/\vs[1]? = some (.ref T)/\T ≠ e/\h.get? T=some oT/\oT.data=.fields ts/\ts[3]? = some .none/\vs[2]? = some .none
def CX1 (P:Program) (w:World):CXT:=λ outer H s E ev s'=>∃ e T cls d H',ev=.ref e/\s'.os=s.os/\AllBare s'.gens/\Un (frs outer) [] H H' s.heap s'.heap/\HOk P w H' s'.heap /\
 s.heap.get? e=none/\s.heap.get? T=none/\H' e=none/\H' T=none/\ExcAt s'.heap e cls d T/\(∀ dx,d=some dx->∃ fs,H' dx=some (.xd fs))/\E cls d H'
theorem dict_mapF (f:Array Value->Array Value) (o:Obj):(Obj.mapFields f o).dict=o.dict:=by
 unfold Obj.mapFields;split<;>rfl
structure Noted (fs:List Addr) (e:Addr) (no:Addr->Prop) (h h':Heap):Prop where
 keep:∀ b o,b ≠ e->¬ no b->b ∉ fs->h.get? b=some o->h'.get? b=some o
 slot:∀ b o,b ≠ e->¬ no b->b∈fs->h.get? b=some o->∃ sl,h'.get? b=some { o with slots:=sl }
 size:h.objs.size<=h'.objs.size
section
variable {M:Model}{A:Around}{E:Value->Shared->Prop}{s:Shared}
theorem entry1 {base:Heap}{env:Env}{outer:List Env}{L e:Addr}{oe:Obj}{vs:Array Value}{head:Value}{hadNext:Bool}{Q:Unit->Shared->Prop}
  (hfr:A.frames=some (env::outer)) (hl:s.heap.FunFrames base (env::outer)) (hf:env.frame=some L) (he:s.heap.get? e=some oe) (hd:oe.data=.fields vs) (hsz:1 < vs.size) (h2c:vs[2]? = some .none)
  (hQ:∀ h',Noted (frs (env::outer)) e (λ _=>False) s.heap h'->(∃ T oe' vs' oT ts,s.heap.get? T=none/\h'.get? e=some oe'/\oe'.cls=oe.cls/\oe'.dict=oe.dict/\oe'.data=.fields vs'/\vs'[1]? = some (.ref T)/\T ≠ e/\h'.get? T=some oT/\oT.data=.fields ts/\ts[3]? = some (rawInt L)/\vs'[2]? = some .none)->Q () { s with heap:=h' }) :
  wpAny M A (do let a ←frameOf env;let pl ←entryPlaceOf L hadNext;let b ←EntryCells.newEntry head a .none (rawInt L) .none pl;setField (.ref e) 1 b) Q E s:=by
 have efr:e ∉ frs (env::outer):=λ z=>by
  obtain ⟨_,o,q1,q2⟩:=hl.mem z
  rw [he] at q1
  cases q1
  exact q2 vs hd
 refine wpAny_bind (wpAny_frameOf_fun hfr hl hf λ g1 sg=>?_)
 refine wpAny_bind (wpAny_entryPlaceOf λ pl ipl=>?_)
 unfold EntryCells.newEntry newFields
 refine wpAny_bind (wpAny_newObj_type ?_ (ipl.sizeOk5 _ _ _ _ _))
 have e1:g1.get? e=some oe:=(sg.2.1 e efr).trans he
 generalize hnew:({ cls:=.type "traceback",dict:=none,data:=.fields ([head,.ref L,.none,rawInt L,.none]++(if pl.isEmpty then List.replicate 6 Value.none else pl)).toArray }:Obj)=oN
 have dN:oN.data=.fields ([head,.ref L,.none,rawInt L,.none]++(if pl.isEmpty then List.replicate 6 Value.none else pl)).toArray:=by rw [←hnew]
 have e2:(g1.push oN).get? e=some oe:=Heap.get?_push_of_some _ e1
 refine wpAny_setField e2 hd hsz (hQ _ ?_ ?_)
 ·have other:∀ b o,b ≠ e->g1.get? b=some o->((g1.push oN).update e (Obj.mapFields (·.setIfInBounds 1 (Value.ref g1.objs.size)))).get? b=some o:=λ b o hb q=>by
   rw [Heap.get?_update_other _ _ (Ne.symm hb)]
   exact Heap.get?_push_of_some _ q
  refine ⟨λ b o hb _ hfs q=>other b o hb ((sg.2.1 b hfs).trans q),λ b o hb _ _ q=>?_,?_⟩
  ·obtain ⟨sl,q'⟩:=sg.2.2 b o q
   exact ⟨sl,other b _ hb q'⟩
  ·have z1:g1.objs.size=s.heap.objs.size:=sg.1
   have z2:=((Heap.SameBut.update (g1.push oN) e (Obj.mapFields (·.setIfInBounds 1 (Value.ref g1.objs.size))))).1
   rw [z2,Heap.size_push]
   omega
 ·have ne:g1.objs.size ≠ e:=Nat.ne_of_gt (Heap.lt_size e1)
  have d3:=Obj.data_mapFields hd (·.setIfInBounds 1 (Value.ref g1.objs.size))
  refine ⟨g1.objs.size,_,_,oN,_,?_,Heap.get?_update_self _ e2 (Obj.isFreed_of_fields d3),Obj.cls_mapFields _ _,dict_mapF _ _,d3,by simp [hsz],ne,?_,dN,by simp,by rw [Array.getElem?_setIfInBounds_ne (by decide)];exact h2c⟩
  ·have z1:g1.objs.size=s.heap.objs.size:=sg.1
   rw [z1]
   exact Heap.get?_none_of_le (Nat.le_refl _)
  ·rw [Heap.get?_update_other _ _ (Ne.symm ne)]
   exact Heap.get?_push_size _ (Obj.isFreed_of_fields dN)
theorem flight0 {e T:Addr}{oe oT:Obj}{vs ts:Array Value}{Q:Unit->Shared->Prop}(he:s.heap.get? e=some oe) (hd:oe.data=.fields vs) (h1:vs[1]? = some (.ref T)) (hT:s.heap.get? T=some oT) (hdT:oT.data=.fields ts) (h3:3 < ts.size) (ne:T ≠ e) (h2c:vs[2]? = some .none)
  (hQ:∀ h',(∀ b,b ≠ T->h'.get? b=s.heap.get? b)->h'.objs.size=s.heap.objs.size->ExcAt h' e oe.cls oe.dict T->Q () { s with heap:=h' }):wpAny M A (setFlight (.ref e) none) Q E s:=by
 unfold setFlight
 refine wpAny_bind (wpAny_field he hd h1 ?_)
 rw [if_pos (show (Value.ref T != Value.none)=true from by simp)]
 have sb:=Heap.SameBut.update s.heap T (Obj.mapFields (·.setIfInBounds 3 ((none:Option Addr).elim Value.none λ f=>rawInt f)))
 refine wpAny_setField hT hdT h3 (hQ _ sb.2 sb.1 ?_)
 have d3:=Obj.data_mapFields hdT (·.setIfInBounds 3 ((none:Option Addr).elim Value.none λ f=>rawInt f))
 exact ⟨oe,vs,_,_,(sb.2 e (Ne.symm ne)).trans he,rfl,rfl,hd,h1,ne,Heap.get?_update_self _ hT (Obj.isFreed_of_fields d3),d3,by simp [h3],h2c⟩
theorem note_new {base:Heap}{env:Env}{outer:List Env}{L e:Addr}{oe:Obj}{vs:Array Value}{Q:Unit->Shared->Prop}
  (hfr:A.frames=some (env::outer)) (hl:s.heap.FunFrames base (env::outer)) (hf:env.frame=some L) (he:s.heap.get? e=some oe) (hd:oe.data=.fields vs) (h1:vs[1]? = some .none) (h2c:vs[2]? = some .none)
  (hQ:∀ h' T,Noted (frs (env::outer)) e (λ _=>False) s.heap h'->s.heap.get? T=none->ExcAt h' e oe.cls oe.dict T->Q () { s with heap:=h' }) :
  wpAny M A (noteFrame (.ref e) env) (λ _ s2=>wpAny M A (setFlight (.ref e) none) Q E s2) E s:=by
 unfold noteFrame
 simp only [hf]
 refine wpAny_bind (wpAny_field he hd h1 ?_)
 rw [if_neg (by decide)]
 refine entry1 hfr hl hf he hd (Array.getElem?_eq_some_iff.mp h1).1 h2c λ g ng hx=>?_
 obtain ⟨T,oe',vs',oT,ts,nT,q1,q2,q2d,q3,q4,ne,q5,q6,q7,q8⟩:=hx
 refine flight0 (s:={ s with heap:=g }) q1 q3 q4 q5 q6 (Array.getElem?_eq_some_iff.mp q7).1 ne q8 λ g' sb sz ex=>?_
 rw [q2,q2d] at ex
 have lt:∀ b o,s.heap.get? b=some o->b ≠ T:=λ b o q z=>by rw [z,nT] at q;cases q
 exact hQ g' T ⟨λ b o hb hn hfs q=>(sb b (lt b o q)).trans (ng.keep b o hb hn hfs q),λ b o hb hn hfs q=>by
  obtain ⟨sl,q'⟩:=ng.slot b o hb hn hfs q
  exact ⟨sl,(sb b (lt b o q)).trans q'⟩,Nat.le_trans ng.size (Nat.le_of_eq sz.symm)⟩ nT ex
theorem note_next {base:Heap}{env:Env}{outer:List Env}{L e T:Addr}{cls:Value}{dd:Option Addr}{Q:Unit->Shared->Prop}
  (hfr:A.frames=some (env::outer)) (hl:s.heap.FunFrames base (env::outer)) (hf:env.frame=some L) (hx:ExcAt s.heap e cls dd T) (hfe:e ∉ frs (env::outer)) (hfT:T ∉ frs (env::outer)) (hb:base.get? T=none)
  (hQ:∀ h' T',Noted (frs (env::outer)) e (λ b=>b=T) s.heap h'->s.heap.get? T'=none->ExcAt h' e cls dd T'->Q () { s with heap:=h' }) :
  wpAny M A (noteFrame (.ref e) env) (λ _ s2=>wpAny M A (setFlight (.ref e) none) Q E s2) E s:=by
 obtain ⟨oe,vs,oT,ts,he,rfl,rfl,hd,h1,ne,hT,hdT,h3,h2c⟩:=hx
 unfold noteFrame
 simp only [hf]
 refine wpAny_bind (wpAny_field he hd h1 ?_)
 rw [if_pos (show (Value.ref T != Value.none)=true from by simp)]
 refine wpAny_bind (wpAny_field hT hdT h3 ?_)
 rw [if_neg (show ¬ ((Value.none == rawInt L)=true) from by simp [rawInt])]
 have sb0:=Heap.SameBut.update s.heap T (Obj.mapFields (·.setIfInBounds 3 Value.none))
 refine wpAny_bind (wpAny_setField hT hdT (Array.getElem?_eq_some_iff.mp h3).1 ?_)
 generalize hg0:s.heap.update T (Obj.mapFields (·.setIfInBounds 3 Value.none))=g0 at sb0
 have fl:g0.FunFrames base (env::outer):=hl.of_keeps λ b o q hnf=>⟨o,(sb0.2 b (λ z=>by rw [z,hT] at q;cases q;exact hnf ts hdT)).trans q,rfl⟩
 have he0:g0.get? e=some oe:=(sb0.2 e (Ne.symm ne)).trans he
 refine entry1 (s:={ s with heap:=g0 }) hfr fl hf he0 hd (Array.getElem?_eq_some_iff.mp h1).1 h2c λ g ng hx=>?_
 obtain ⟨T',oe',vs',oT',ts',nT,q1,q2,q2d,q3,q4,ne',q5,q6,q7,q8⟩:=hx
 refine flight0 (s:={ s with heap:=g }) q1 q3 q4 q5 q6 (Array.getElem?_eq_some_iff.mp q7).1 ne' q8 λ g' sb sz ex=>?_
 rw [q2,q2d] at ex
 have tT:T ≠ T':=λ z=>by
  subst z
  have:=Heap.get?_update_self (Obj.mapFields (·.setIfInBounds 3 Value.none)) hT (Obj.isFreed_of_fields (Obj.data_mapFields hdT _))
  rw [hg0] at this
  have nT':g0.get? T=none:=nT
  rw [this] at nT'
  cases nT'
 have nT0:s.heap.get? T'=none:=(sb0.2 T' (Ne.symm tT)).symm.trans nT
 have lt:∀ b o,s.heap.get? b=some o->b ≠ T':=λ b o q z=>by rw [z,nT0] at q;cases q
 exact hQ g' T' ⟨λ b o hb hn hfs q=>(sb b (lt b o q)).trans (ng.keep b o hb (λ z=>z) hfs ((sb0.2 b hn).trans q)),λ b o hb hn hfs q=>by
  obtain ⟨sl,q'⟩:=ng.slot b o hb (λ z=>z) hfs ((sb0.2 b hn).trans q)
  exact ⟨sl,(sb b (lt b o q)).trans q'⟩,Nat.le_trans (Nat.le_of_eq sb0.1.symm) (Nat.le_trans ng.size (Nat.le_of_eq sz.symm))⟩ nT0 ex
end
theorem HOk.noted {P:Program}{w:World}{H:Hp}{h h':Heap}{fs:List Addr}{e:Addr}{no:Addr->Prop}(ok:HOk P w H h) (n:Noted fs e no h h') (he:H e=none) (hn:∀ b,no b->H b=none) (hf:∀ b∈fs,H b=none):HOk P w H h':=λ b ob q=>by
 refine (ok b ob q).stay (λ c v hc r=>n.keep c v ?_ ?_ ?_ r) (λ _ z=>z) λ _ _ z=>z
 all_goals
  rcases hc with z|z
  all_goals intro k
 ·rw [←z,k,he] at q;cases q
 ·rw [k,he] at z;cases z
 ·rw [←z,hn _ k] at q;cases q
 ·rw [hn _ k] at z;cases z
 ·rw [←z,hf _ k] at q;cases q
 ·rw [hf _ k] at z;cases z
theorem Un.noted {fs fs':List Addr}{H H':Hp}{h h1 h2:Heap}{e:Addr}{no:Addr->Prop}(u:Un fs [] H H' h h1) (n:Noted fs' e no h1 h2) (he:h.get? e=none) (hn:∀ b,no b->h.get? b=none) (hs:∀ b∈fs',b∈fs\/h.get? b=none):Un fs [] H H' h h2:=by
 have ne:∀ b o,h.get? b=some o->b ≠ e/\¬ no b:=λ b o q=>⟨λ z=>(by rw [z,he] at q;cases q),λ z=>(by rw [hn b z] at q;cases q)⟩
 have nf:∀ b o,h.get? b=some o->b ∉ fs->b ∉ fs':=λ b o q hb z=>by
  rcases hs b z with k|k
  ·exact hb k
  ·rw [k] at q;cases q
 refine ⟨λ b o q a hb hx=>n.keep b o (ne b o q).1 (ne b o q).2 (nf b o q hb) (u.keep b o q a hb hx),λ b o q a hb hx=>?_,u.free,λ b o q hx=>?_,u.tups,u.frzs,u.tbls⟩
 ·obtain ⟨sl,r⟩:=u.slot b o q a hb hx
  by_cases hb':b∈fs'
  ·obtain ⟨sl',r'⟩:=n.slot b _ (ne b o q).1 (ne b o q).2 hb' r
   exact ⟨sl',r'⟩
  ·exact ⟨sl,n.keep b _ (ne b o q).1 (ne b o q).2 hb' r⟩
 ·obtain ⟨o',r⟩:=u.there b o q hx
  by_cases hb':b∈fs'
  ·obtain ⟨sl',r'⟩:=n.slot b _ (ne b o q).1 (ne b o q).2 hb' r
   exact ⟨_,r'⟩
  ·exact ⟨_,n.keep b _ (ne b o q).1 (ne b o q).2 hb' r⟩
def PassAt (CX:CXT) (X:Cx) (E:XK) (σ:St):Prop:=∀ (pins:List (Addr × Obj)) (H:Hp) (s:Shared) (e:Value) (s':Shared),Inv X pins σ H s->CX X.stack H s E e s'->X.xe e s'
def RaisesAt (X:Cx) (E:XK) (σ:St):Prop:=∀ (pins:List (Addr × Obj)) (H:Hp) (s:Shared) (h':Heap) (e:Addr) (C:Addr) (us:List Value),Inv X pins σ H s->Heap.MadeExcOf s.heap h' e (.ref C) us->E (.ref C) none H->X.xe (.ref e) { s with heap:=h' }
theorem ObjOk.there {P:Program}{w:World}{H:Hp}{h:Heap}{a:Addr}{o:HO}(x:ObjOk P w H h a o):∃ ob,h.get? a=some ob:=by
 cases o with
 | lst xs=>obtain ⟨_,_,_,_,e⟩:=x;exact ⟨_,e⟩
 | tup xs=>obtain ⟨_,_,_,ob,e,_⟩:=x;exact ⟨ob,e⟩
 | dK kvs=>obtain ⟨_,_,_,_,ob,_,_,e,_⟩:=x;exact ⟨ob,e⟩
 | dT kvs=>obtain ⟨_,_,_,_,ob,_,_,e,_⟩:=x;exact ⟨ob,e⟩
 | set S n=>obtain ⟨ob,_,_,_,e,_⟩:=x;exact ⟨ob,e⟩
 | ins C dx fs=>obtain ⟨_,_,_,e,_⟩:=x;exact ⟨_,e⟩
 | own y=>exact x
 | xd fs=>obtain ⟨_,⟨ob,_,_,e,_⟩,_⟩:=x;exact ⟨ob,e⟩
 | rng lo hi=>obtain ⟨_,_,_,e⟩:=x;exact ⟨_,e⟩
 | frz ob u=>exact ⟨_,x.1⟩
 | tbl ps=>exact ⟨_,x⟩
 | met f y=>exact ⟨_,x⟩
 | ext φ=>exact x.2.1
theorem HOk.gone {P:Program}{w:World}{H:Hp}{h:Heap}{a:Addr}(ok:HOk P w H h) (e:h.get? a=none):H a=none:=by
 cases q:H a with
 | none=>rfl
 | some o=>
  obtain ⟨ob,z⟩:=(ok a o q).there
  rw [e] at z;cases z
theorem Un.gone {fs:List Addr}{H H':Hp}{h h1:Heap}{a:Addr}(u:Un fs [] H H' h h1) (e:h1.get? a=none):h.get? a=none:=by
 cases q:h.get? a with
 | none=>rfl
 | some o=>
  obtain ⟨o',z⟩:=u.there a o q (by simp)
  rw [e] at z;cases z
theorem raises_def {P:Program}{w:World}{K:W.Frag}{mg:Str->Option Value}{base:Heap}{N:List Str}{qual:Str}{scope:Scope}{f:Addr}{cd:Value}{A:Around}{outer:List Env}{s₀:Shared}{H₀:Hp}{E:XK}{σ:St} :
  RaisesAt (cxOf (CX1 P w) P w K mg base N qual scope f cd A outer s₀ H₀ E) E σ:=by
 intro pins H s h' e C us I hm hE
 obtain ⟨t,he,_,_⟩:=hm.there
 show wpAny (model P w) (A.deeper (envOfC qual scope s₀.heap.objs.size f cd)) (leaving (envOfC qual scope s₀.heap.objs.size f cd) (.ref e)) _ _ _
 unfold leaving
 have un:Un (frs outer) [] H₀ H s₀.heap s.heap:=I.base
 have fl:h'.FunFrames base (envOfC qual scope s₀.heap.objs.size f cd::outer):=I.stack.of_keeps λ b o q _=>⟨o,hm.keeps b o q,rfl⟩
 refine wpAny_bind (note_new (s:={ s with heap:=h' }) (base:=base) (outer:=outer) I.ok.frames fl rfl he rfl rfl rfl λ g T ng nT ex=>?_)
 have nT':s.heap.get? T=none:=by
  cases q:s.heap.get? T with
  | none=>rfl
  | some o=>
   have z:=hm.keeps T o q
   have nT2:h'.get? T=none:=nT
   rw [nT2] at z;cases z
 have u2:Un (frs outer) [] H₀ H s₀.heap h':=un.trans (Un.kept hm.keeps)
 refine ⟨e,T,.ref C,none,H,rfl,I.os,I.bare,u2.noted ng (un.gone hm.new) (λ _ z=>z.elim) (λ b hb=>?_),(I.hok.kept hm.keeps).noted ng (I.hok.gone hm.new) (λ _ z=>z.elim) I.stkFree,un.gone hm.new,un.gone nT',I.hok.gone hm.new,I.hok.gone nT',ex,(λ _ z=>nomatch z),hE⟩
 rcases List.mem_cons.mp (I.stkSub b hb) with z|z
 ·exact .inr (by rw [z];exact Heap.get?_none_of_le (Nat.le_refl _))
 ·exact .inl z
section
variable {X:Cx}
set_option genInjectivity false in
structure ClsD where
 nm:Str
 q:Str
 N:Addr
 bs:List Value
 bm:List Value
 hdct:Bool
 sn:List Str
 sub:List Value
 ab:Bool
 col:Option Bool
 dd:Option Addr
 k0:Option Value
 k1:Option Value
 k2:Option Value
 k3:Option Value
 k5:Option Value
def ownIn0 (K:W.Frag) (C:Addr) (z:Option Value) (bmB:List Value) (newId:String):Bool:=match K.lookup C with
 | some ⟨.type "type",_,.cls dat,slt⟩=>(match dat.mro,slt.toList with
  | .ref C'::up,[_,_,_,_,some (.builtin n),_]=>C' == C && n == newId && !dat.hasDel && W.tailIn K bmB up && W.nsOkIn K dat.ns && W.nsIn K dat.ns "__init__" == some z
  | _,_=>false)
 | _=>false
theorem cls_op {K:W.Frag}{C:Addr}{z:Option Value}(q0:ownIn0 K C z [.type "ValueError",.type "Exception",.type "BaseException",.type "object"] "ValueError.__new__"=true) :
  ∃ c:ClsD,K.lookup C=some (excClassObj c.nm c.q C c.N c.bs c.bm c.hdct c.sn c.sub c.ab c.col c.dd c.k0 c.k1 c.k2 c.k3 c.k5 "ValueError.__new__")/\W.tailIn K [.type "ValueError",.type "Exception",.type "BaseException",.type "object"] c.bm=true/\W.nsOkIn K c.N=true/\W.nsIn K c.N "__init__"=some z:=by
 unfold ownIn0 at q0
 split at q0
 ·rename_i dd0 cdat slots0 look0
  split at q0
  ·rename_i Cx0 tl0 g0 g1 g2 g3 nw g5 em es0
   simp only [Bool.and_eq_true,beq_iff_eq,Bool.not_eq_true'] at q0<;>skip
   obtain ⟨⟨⟨⟨⟨rfl,rfl⟩,ndel⟩,tok⟩,nok⟩,noi⟩:=q0
   obtain ⟨c1,c2,c3,c4,c5,c6,c7,c8,c9,c10,c11⟩:=cdat
   dsimp only at em ndel nok noi
   subst em ndel
   obtain ⟨lst0⟩:=slots0
   have es1:lst0=[g0,g1,g2,g3,some (.builtin "ValueError.__new__"),g5]:=es0
   subst es1
   exact ⟨⟨c1,c5,c4,c2,tl0,c6,c7,c8,c9,c10,dd0,g0,g1,g2,g3,g5⟩,look0,tok,nok,noi⟩
  ·cases q0
 ·cases q0
structure OwnE (K:W.Frag) (C:Addr):Prop where
 ex:W.excIn K C [.type "ValueError",.type "Exception",.type "BaseException",.type "object"] "ValueError.__new__"=true
def tRaise (C:Addr) (E:St->XK) (t:TA):TS:=λ _ σ H=>t σ H λ vs H1=>vs.length<=sizeLine/\E σ (.ref C) none H1
theorem ps_raise {C:Addr}{x:Str}{e₀:Expr}{rest:List Expr}{np cpos pos:Pos}{t:TA}{E:St->XK}(hc:X.calm=true) (hg:Gl X x) (hmg:X.mg x=some (.ref C)) (O:OwnE X.K C) (hx:∀ σ,RaisesAt X (E σ) σ) (ha:PA X (e₀::rest) t)
  (he:starEach (e₀::rest) X.env=(false,eval e₀ X.env)::starEach rest X.env:=by rfl) (hplain:(backTo cpos (starEach rest X.env)).any (·.1)=false:=by rfl) (hdb:(x == ("__debug__":Str))=false:=by decide) :
  PS X (.Raise (some (.Call (.Name x np) (e₀::rest) [] cpos)) none pos) (tRaise C E t):=by
 intro pins s σ H D I h
 obtain ⟨c,look0,tok,nok,noi⟩:=cls_op (z:=none) O.ex
 have nsb:X.base.Ns c.N (X.base.nsMap c.N):=.of_isNs (W.isNs_of_in I.mod.kin nok)
 refine PySem.wpAny_Raise_call_subU (C:=C) (nm:=c.nm) (q:=c.q) (N:=c.N) (bs:=c.bs) (bm:=c.bm) (hdct:=c.hdct) (sn:=c.sn) (sub:=c.sub) (ab:=c.ab) (col:=c.col) (dd:=c.dd) (k0:=c.k0) (k1:=c.k1) (k2:=c.k2) (k3:=c.k3) (k5:=c.k5)
  PySem.F.excBase_ValueError (by decide +kernel) PySem.F.excBase_ValueError (mN:=X.base.nsMap c.N) ((W.tail_of_in I.kIn tok).hasType (by decide +kernel)) (I.ok.hd hc) (by rw [he];exact (Bool.false_or _).trans hplain) (W.nsMap_none_of_in I.mod.kin nok noi) (ld_glob I hg hmg ⟨rfl,?_⟩ hdb)
 have hh:=ha cpos pins s σ H _ I h
 rw [he] at hh ⊢
 exact Calls.evalArgs_plain (thn hh λ us s2 ⟨vs,H2,I2,r,hl,hE⟩=>⟨rfl,by rw [←r.length];exact hl,I2.kIn _ _ look0,nsb.keeps I2.bk,W.tail_of_in I2.kIn tok,λ h' e hm=>hx σ pins H2 s2 h' e C us I2 hm hE⟩)
abbrev Cx.mark (X:Cx) (e:Addr):Cx:={ X with A:=X.A.mark (some (.ref e)),calm:=false,xe:=λ _ _=>False }
theorem Inv.mark {pins:List (Addr × Obj)}{σ:St}{H:Hp}{s:Shared}(I:Inv X pins σ H s) (e:Addr):Inv (X.mark e) pins σ H s:=
 ⟨⟨I.ok.mod,I.ok.kind,I.ok.glob,I.ok.blt,I.ok.above,I.ok.inj,I.ok.has,I.ok.cab,(λ z=>by cases z),I.ok.frames,I.ok.stk,I.ok.exf,I.ok.bs,I.ok.bsz,I.ok.noex,I.ok.exfs,I.ok.funs,I.ok.frf⟩,I.os,I.bare,I.base,I.loc,I.cell,I.free,I.freeC,I.pin,I.hok,I.len⟩
theorem Inv.unmark {pins:List (Addr × Obj)}{σ:St}{H:Hp}{s:Shared}{e:Addr}(ok:X.Ok) (I:Inv (X.mark e) pins σ H s):Inv X pins σ H s:=
 ⟨ok,I.os,I.bare,I.base,I.loc,I.cell,I.free,I.freeC,I.pin,I.hok,I.len⟩
end
end L2
namespace L2
open PySem PySem.Spec PyProof.Rows
structure FunX (K:W.Frag) (x qual:Str) (st:Stmt) (f:Addr) (fd:FuncData):Prop where
 ex:∃ (oc:Value) (od:Option Addr) (dV kV doc pm:Value) (an:Option Addr) (cdv ct:Value) (osl:Array (Option Value)),
  fd=W.fnOf x qual (defArgs st) (defBody st) (defScope st) dV kV doc pm an cdv ct/\K.lookup f=some ⟨oc,od,.func fd,osl⟩/\W.codeIn K cdv qual=true
 kp:W.keepIn K (.ref f)=true
section
variable {P:Program}{w:World}{K:PySem.W.Frag}{mg:Str->Option Value}{base:Heap}
theorem FunX.ok {CX:CXT}{x qual:Str}{st:Stmt}{f:Addr}{fd:FuncData}{N ps:List Str}{k:Nat}{sp:Sp}(F:FunX K x qual st f fd) (S:FnScope N ps (defScope st)) (len:∀ vs H Q E,sp vs H Q E->vs.length=ps.length)
  (hbody:∀ (cdv:Value) (A:Around) (outer:List Env) (s:Shared) (H:Hp) (vs:List V) (Q:VK) (E:XK),Room k (A.deeper (envOfC qual (defScope st) s.heap.objs.size f cdv))->sp vs H Q E →
   ∃ t,PSs (cxOf CX P w K mg base N qual (defScope st) f cdv A outer s H E) (defBody st) t/\t { nx:=λ _ H'=>Q .non H',rt:=Q } (start N vs) H):FnOk P w K mg base CX (k+1) f fd ps sp:=by
 obtain ⟨oc,od,dV,kV,doc,pm,an,cdv,ct,osl,rfl,lk,hcd⟩:=F.ex
 exact fn_of lk hcd S len λ A outer s H vs Q E hr hsp=>hbody cdv A outer s H vs Q E hr hsp
theorem funX_mk {x qual:Str}{st:Stmt}{f:Addr}{oc:Value}{od an:Option Addr}{osl:Array (Option Value)}{dV kV doc pm cdv ct:Value}(l:K.lookup f=some ⟨oc,od,.func (W.fnOf x qual (defArgs st) (defBody st) (defScope st) dV kV doc pm an cdv ct),osl⟩)
  (c:W.codeIn K cdv qual=true) (k:W.keepIn K (.ref f)=true):FunX K x qual st f (W.fnOf x qual (defArgs st) (defBody st) (defScope st) dV kV doc pm an cdv ct):=⟨⟨oc,od,dV,kV,doc,pm,an,cdv,ct,osl,rfl,l,c⟩,k⟩
end
end L2
namespace L2
open PySem PySem.Spec PyProof.Rows PySem.W
structure ECls (K:W.Frag) (C:Addr):Prop where
 ga:W.findIn K (.ref C) "__getattribute__"=some (some (.builtin "BaseException.__getattribute__"))
 no:W.findIn K (.ref C) "__getattr__"=some none
 mb:W.mroIn K C (.type "BaseException")=some true
 mo:W.mroIn K C (.type "object")=some true
 cl:W.findIn K (.ref C) "__class__"=some (some (.builtin "object.__class__"))
 sp:W.specialIn K (.builtin "object.__class__") "__get__"=some (some (.builtin "getset_descriptor.__get__"))
 tk:W.takesIn K (.builtin "object.__class__")=some true
 hd:W.hasDictIn K C=true
section
variable {prog:Program}{w:World}{A:Around}{E:Value->Shared->Prop}{s:Shared}{K:PySem.W.Frag}{x C:Addr}{ox:Obj}{od:Option Obj}{name:Str}
theorem exc_check {M:Model}{nameV:Value}{Q:Unit->Shared->Prop}(c:ECls K C) (X:K.In s.heap) (I:InstAt s.heap x ox C od) (hq:Q () s):wpAny M A (checkBuiltinCall "BaseException.__getattribute__" ⟨[.ref x,nameV],[]⟩) Q E s:=by
 have hk:builtinKind "BaseException.__getattribute__"=some .slot:=by decide +kernel
 have hsplit:splitId "BaseException.__getattribute__"=some ("BaseException", "__getattribute__"):=by decide +kernel
 have ha:=F.args_bexc_ga (.ref x) nameV
 have L0:=I.type (M:=M)
 have L1:=looks_mroIn (M:=M) X c.mb
 obtain ⟨hh,g,d,t,os⟩:=s
 simp only [checkBuiltinCall,hk,hsplit]
 have LI:Looks M hh (isInstance (.ref x) (.type "BaseException")) true:=L0.andThen L1
 refine wpAny_bind (LI.at ?_)
 first|exact hq|exact wpAny_pure hq|(simp only [Bool.not_true,Bool.false_eq_true,if_false];exact hq)
def FinP (M:Model) (A:Around) (P:Value->Shared->Prop) (fin:PySem.Fin) (s:Shared):Prop:=match fin with
 | .done (.ret v)=>P v s
 | .again c=>c.quiet=true/\codeAny M A c (λ r s'=>match r with | .ok (.ret v)=>P v s'|_=>False) s
 | _=>False
theorem exc_get? {Q:Option Value->Shared->Prop}(c:ECls K C) (X:K.In s.heap) (I:InstAt s.heap x ox C od)
  (h:∀ A':Around,wpAny (model prog w) A' (Builtin.«object.__getattribute__» ⟨[.ref x,.str name s.toks],[]⟩) (FinP (model prog w) A λ v s'=>wpAny (model prog w) A (handedOut v) (λ v s''=>Q (some v) s'') (λ _ _=>False) s') (λ _ _=>False) { s with toks:=s.toks+1 }) :
  wpAny (model prog w) A (getAttr? (.ref x) name) Q E s:=by
 obtain ⟨hh,g,d,t,os⟩:=s
 have L0:=I.type (M:=model prog w)
 have L1:=looks_findIn (M:=model prog w) X c.ga
 have L2:=looks_findIn (M:=model prog w) X c.no
 unfold getAttr? getAttrBy? getAttrBy
 refine wpAny_bind (wpAny_mkText (wpAny_bind (wpAny_attempt (wpAny_holding (wpAny_bind (L0.at (wpAny_bind (L1.at ?_))))))))
 show wpAny _ _ (getAttrByItsOwn _ _ _ _ _ _) _ _ _
 unfold getAttrByItsOwn
 show wpAny _ _ (do let before ←typeLookup (.ref C) "__getattr__";_) _ _ _
 refine wpAny_bind (L2.at (wpAny_bind (wpAny_attempt (wpAny_holding ?_))))
 unfold callGetattribute
 rw [if_neg (by simp)]
 unfold boundAndCalled
 rw [F.attr_ValueError.ga.bind (.ref x)]
 refine wpAny_bind (wpAny_pure (wpAny_call (codeAny_call_builtin F.attr_ValueError.ga.plain F.entry_bexc_ga (exc_check c X I ?_))))
 have fin1:∀ v s',wpAny (model prog w) A (handedOut v) (λ v s''=>Q (some v) s'') (λ _ _=>False) s'->wpAny (model prog w) A (handedOut v) (λ a s'=>wpAny (model prog w) A (pure (some a)) Q E s') (λ e s'=>wpAny (model prog w) A (do if ←isInstance e (.type "AttributeError") then pure none else throw e) Q E s') s':=λ v s' z=>wpAny_mono z (λ _ _ q=>wpAny_pure q) λ _ _ q=>q.elim
 refine wpAny_mono (h _) (λ fin s' z=>?_) λ _ _ z=>z.elim
 cases fin with
 | done f=>cases f with
  | ret v=>exact fin1 v s' z
  | _=>exact z.elim
 | again c'=>
  obtain ⟨z1,z2⟩:=z
  refine ⟨z1,codeAny_mono z2 λ r s'' q=>?_⟩
  cases r with
  | error e=>exact q.elim
  | ok f=>cases f with
   | ret v=>exact fin1 v s'' q
   | _=>exact q.elim
theorem findObj_data' {a g:Value}(hc:(clsIn K C).isSome=true) (ha:findIn K (.ref C) name=some (some a)) (hg:specialIn K a "__get__"=some (some g)) (ht:takesIn K a=some true):findObj K C od name=some (.bind g a):=by
 obtain ⟨cd,hc⟩:=Option.isSome_iff_exists.mp hc
 unfold findObj
 rw [hc,Option.bind_some,ha,Option.bind_some]
 simp [hg,ht]
theorem ECls.some (c:ECls K C):(clsIn K C).isSome=true:=by
 obtain ⟨cd,hc,_⟩:=any_some c.hd
 rw [hc];rfl
theorem exc_class {Q:Option Value->Shared->Prop}(c:ECls K C) (X:K.In s.heap) (I:InstAt s.heap x ox C od) (hq:Q (some (.ref C)) { s with toks:=s.toks+1 }):wpAny (model prog w) A (getAttr? (.ref x) "__class__") Q E s:=by
 have hf:findObj K C od "__class__"=some (.bind (.builtin "getset_descriptor.__get__") (.builtin "object.__class__")):=findObj_data' c.some c.cl c.sp c.tk
 refine exc_get? c X I λ A'=>?_
 have L0:=I.type (M:=model prog w)
 have L1:=looks_find (M:=model prog w) X I hf
 have cg:∀ {A:Around} {R:Result->Shared->Prop},R (.ok (.ret (.ref C))) { s with toks:=s.toks+1 }->codeAny (model prog w) A (.call (.builtin "getset_descriptor.__get__") ⟨[.builtin "object.__class__",.ref x,.ref C],[]⟩) R { s with toks:=s.toks+1 }:=λ h=>class_get (s:={ s with toks:=s.toks+1 }) (ox:=ox) (od:=od) X I c.mo h
 obtain ⟨hh,gg,d,t,os⟩:=s
 refine wpAny_bind (wpAny_pure (wpAny_bind (wpAny_pure (wpAny_bind (L0.at (wpAny_bind (L1.at ?_)))))))
 show wpAny _ _ (do ret (←holding [.builtin "object.__class__"] (call (.builtin "getset_descriptor.__get__") [.builtin "object.__class__",.ref x,.ref C]))) _ _ _
 exact wpAny_bind (wpAny_holding (wpAny_call (cg (wpAny_pure (show FinP _ _ _ (.done (.ret (.ref C))) _ from handed_on rfl hq)))))
theorem kitx_exc (c:ECls K C):KitX K (.ref x) (.ref C) (λ h=>InstAt h x ox C od) where
 ty:=λ _ _ _ I=>I.type
 it:=λ _ _ X _=>by
  obtain ⟨cdD,hcD,_⟩:=any_some c.hd
  unfold clsIn at hcD
  split at hcD
  ·rename_i c' d' cd' sl' ho
   intro A' Q' E' s' k q
   unfold isType loadHead
   exact wpAny_bind (wpAny_loadPart (k _ _ (X _ _ ho)) (wpAny_pure q))
  ·cases hcD
 ne:=λ h tp dd its n sl X htp=>by
  obtain ⟨cdD,hcD,_⟩:=any_some c.hd
  refine Bool.eq_false_iff.mpr λ q=>?_
  have e:C=tp:=Value.ref.inj (beq_iff_eq.mp q)
  subst e
  unfold clsIn at hcD
  split at hcD
  ·rename_i c' d' cd' sl' ho
   have z:=(X _ _ ho).symm.trans htp
   cases z
  ·cases hcD
 ca:=λ X I k=>exc_class c X I k
end
end L2
namespace L2
open PySem PySem.Spec PyProof.Rows
def excO (oe:Obj):HO:=.frz oe (.ext λ _=>True)
structure NewAt (X:Cx) (pins:List (Addr × Obj)) (e:Addr):Prop where
 s0:X.s₀.heap.get? e=none
 loc:e ≠ X.env.locals
 cel:∀ x c,X.env.cells.lookup x=some c->c ≠ e
 fs:e ∉ X.fs
 pin:∀ p∈X.pn++pins,p.1 ≠ e
section
variable {X:Cx}
theorem NewAt.of {pins:List (Addr × Obj)}{σ:St}{H:Hp}{s:Shared}{e:Addr}(I:Inv X pins σ H s) (hx:X.ex=[]) (h:s.heap.get? e=none):NewAt X pins e where
 s0:=by
  cases q:X.s₀.heap.get? e with
  | none=>rfl
  | some o=>
   obtain ⟨o',z⟩:=I.base.there e o q (by rw [hx];simp)
   rw [h] at z;cases z
 loc:=λ z=>by
  obtain ⟨m,⟨o,_,_,q,_⟩,_⟩:=I.loc
  rw [←z,h] at q;cases q
 cel:=λ x c q z=>by
  obtain ⟨v,o,r,_⟩:=I.cell x c q
  rw [z,h] at r;cases r
 fs:=λ z=>by
  obtain ⟨_,o,q,_⟩:=I.funs.mem z
  rw [h] at q;cases q
 pin:=λ p hp z=>by
  have q:=(I.pin p hp).1
  rw [z,h] at q;cases q
theorem Inv.track {pins:List (Addr × Obj)}{σ:St}{H:Hp}{s:Shared}{e:Addr}{oe:Obj}(I:Inv X pins σ H s) (N:NewAt X pins e) (he:s.heap.get? e=some oe) (hn:H e=none):Inv X pins σ (upd H e (excO oe)) s:=by
 have ne:∀ {b:Addr} {o:HO},H b=some o->b ≠ e:=λ q z=>by rw [z,hn] at q;cases q
 refine ⟨I.ok,I.os,I.bare,⟨I.base.keep,I.base.slot,λ b o q n hx=>?_,I.base.there,λ b xs q=>?_,λ b o u q=>?_,λ b ps q=>?_⟩,I.loc,I.cell,?_,λ x c q=>?_,λ p hp=>?_,λ b o q=>?_,I.len⟩
 ·rw [upd_ne (λ z=>by rw [z,N.s0] at q;cases q)];exact I.base.free b o q n hx
 ·have z:=I.base.tups b xs q;rw [upd_ne (ne z)];exact z
 ·have z:=I.base.frzs b o u q;rw [upd_ne (ne z)];exact z
 ·obtain ⟨m,z⟩:=I.base.tbls b ps q;exact ⟨m,by rw [upd_ne (ne z)];exact z⟩
 ·rw [upd_ne (Ne.symm N.loc)];exact I.free
 ·rw [upd_ne (N.cel x c q)];exact I.freeC x c q
 ·obtain ⟨a,b,c,d,f⟩:=I.pin p hp
  exact ⟨a,by rw [upd_ne (N.pin p hp)];exact b,c,d,f⟩
 ·by_cases hb:b=e
  ·subst hb
   rw [upd_same] at q
   cases q
   exact ⟨he,trivial,⟨oe,he⟩,λ _ _ _ _=>trivial⟩
  ·rw [upd_ne hb] at q
   exact (I.hok b o q).stay (λ _ _ _ r=>r) (λ c r=>by rw [upd_ne (ne r)];exact r) λ c xs r=>by rw [upd_ne (ne r)];exact r
def PHs (X:Cx) (hs:List ExceptHandler) (th:Value->Option Addr->TS):Prop:=
 ∀ (pins:List (Addr × Obj)) (s:Shared) (σ:St) (H:Hp) (D:Ends) (e T:Addr) (cls:Value) (d:Option Addr),Inv X pins σ H s->NewAt X pins e->H e=none->ExcAt s.heap e cls d T->th cls d D σ H->wpAny (model X.prog X.w) X.A (handleBy (.ref e) X.env hs) (SP X pins D) X.xe s
theorem flight1 {M:Model}{A:Around}{E:Value->Shared->Prop}{s:Shared}{e T:Addr}{cls:Value}{d:Option Addr}{Q:Unit->Shared->Prop}(x:ExcAt s.heap e cls d T) (hQ:∀ h',(∀ b o,s.heap.get? b=some o->h'.get? b=some o)->Q () { s with heap:=h' }) :
  wpAny M A (setFlight (.ref e) none) Q E s:=by
 obtain ⟨oe,vs,oT,ts,he,rfl,rfl,hd,h1,ne,hT,hdT,h3,h2c⟩:=x
 unfold setFlight
 refine wpAny_bind (wpAny_field he hd h1 ?_)
 rw [if_pos (show (Value.ref T != Value.none)=true from by simp)]
 refine wpAny_setField hT hdT (Array.getElem?_eq_some_iff.mp h3).1 (hQ _ λ b o q=>?_)
 by_cases hb:b=T
 ·subst hb
  rw [hT] at q;cases q
  have same:Obj.mapFields (·.setIfInBounds 3 ((none:Option Addr).elim Value.none λ f=>rawInt f)) oT=oT:=by
   obtain ⟨c,d,dat,sl⟩:=oT
   cases hdT
   have e3:ts.setIfInBounds 3 ((none:Option Addr).elim Value.none λ f=>rawInt f)=ts:=by
    apply Array.ext_getElem?
    intro i
    by_cases hi:i=3
    ·subst hi
     obtain ⟨hlt,hv⟩:=Array.getElem?_eq_some_iff.mp h3
     simp [Array.getElem?_setIfInBounds,hlt,hv]
    ·rw [Array.getElem?_setIfInBounds_ne (Ne.symm hi)]
   show (⟨c,d,.fields (ts.setIfInBounds 3 ((none:Option Addr).elim Value.none λ f=>rawInt f)),sl⟩:Obj)=_
   rw [e3]
  have:=Heap.get?_update_self (Obj.mapFields (·.setIfInBounds 3 ((none:Option Addr).elim Value.none λ f=>rawInt f))) hT (Obj.isFreed_of_fields (Obj.data_mapFields hdT _))
  rw [same] at this
  exact this
 ·rw [Heap.get?_update_other _ _ (Ne.symm hb)]
  exact q
def tLost:Value->Option Addr->TS:=λ _ _ _ _ _=>False
theorem phs_nil:PHs X [] tLost:=λ _ _ _ _ _ _ _ _ _ _ _ _ _ h=>h.elim
theorem SP.unmark {pins:List (Addr × Obj)}{D:Ends}{f:Flow}{s2:Shared}{e:Addr}(ok:X.Ok) (q:SP (X.mark e) pins D f s2):SP X pins D f s2:=by
 cases f with
 | next=>obtain ⟨σ',H',J,q⟩:=q;exact ⟨σ',H',J.unmark ok,q⟩
 | brk=>obtain ⟨σ',H',J,q⟩:=q;exact ⟨σ',H',J.unmark ok,q⟩
 | cont=>obtain ⟨σ',H',J,q⟩:=q;exact ⟨σ',H',J.unmark ok,q⟩
 | ret u=>obtain ⟨v,σ',H',J,r,q⟩:=q;exact ⟨v,σ',H',J.unmark ok,r,q⟩
theorem exc_ty {M:Model}{h:Heap}{e T:Addr}{cls:Value}{d:Option Addr}(ex:ExcAt h e cls d T):W.Looks M h (typeOf (.ref e)) cls:=by
 obtain ⟨oe,vs,oT,ts,he,rfl,_⟩:=ex
 exact (W.Looks.ld he).andThen .now
def gDel (i:Nat):St->Hp->(St->Hp->Prop)->Prop:=λ σ H Q=>Q (σ.set i none) H
def kDel (i:Nat) (nx:St->Hp->Prop):St->Hp->Prop:=λ σ H=>gDel i σ H nx
def Ends.del (i:Nat) (D:Ends):Ends:=⟨kDel i D.nx,D.rt,kDel i D.bk,kDel i D.ct⟩
theorem gone_ok {M:Model}{A:Around}{E:Value->Shared->Prop}{pins:List (Addr × Obj)}{σ:St}{H:Hp}{s:Shared}{i:Nat}{x:Str}{pos:Pos}{Q:Unit->Shared->Prop}(I:Inv X pins σ H s) (hi:X.N[i]? = some x) (hk:X.env.scope.names.lookup x=some .local) (hN:X.N.Nodup)
  (h:∀ s',Inv X pins (σ.set i none) H s'->Q () s'):wpAny M A (do bindName X.env x .none;unbindBehindTheSuite X.env x pos) Q E s:=by
 obtain ⟨m,hn,hl⟩:=id I.loc
 have hcls:(X.env.scope.kind == .class || (X.env.scope.kind == .module && X.env.locals != X.env.globals))=false:=by rw [I.ok.kind];rfl
 have cne:=I.cne
 refine PySem.wpAny_nameGoes_keeps hk hn hcls λ h' v hn' hs=>?_
 obtain ⟨oL,_,_,hoL,_⟩:=id hn
 refine h _ ⟨I.ok,I.os,I.bare,⟨λ b o e n hb hx=>?_,λ b o e n hb hx=>?_,I.base.free,λ b o e hx=>?_,I.base.tups,I.base.frzs,I.base.tbls⟩,⟨_,hn',λ j y v' e1 e2 e3=>?_⟩,λ y c e=>?_,I.free,I.freeC,λ p hp=>?_,λ b ob e=>?_,by simpa using I.len⟩
 ·exact (hs.2 b (Nat.ne_of_lt (Nat.lt_of_lt_of_le (Heap.lt_size e) I.ok.above))).trans (I.base.keep b o e n hb hx)
 ·obtain ⟨sl,e1⟩:=I.base.slot b o e n hb hx
  exact ⟨sl,(hs.2 b (Nat.ne_of_lt (Nat.lt_of_lt_of_le (Heap.lt_size e) I.ok.above))).trans e1⟩
 ·obtain ⟨o',e1⟩:=I.base.there b o e hx
  exact ⟨o',(hs.2 b (Nat.ne_of_lt (Nat.lt_of_lt_of_le (Heap.lt_size e) I.ok.above))).trans e1⟩
 ·have hj:j ≠ i:=by
   rintro rfl
   by_cases hlt:j < σ.length
   ·rw [List.getElem?_set_self hlt] at e2;cases e2
   ·rw [List.getElem?_eq_none (by simpa using Nat.le_of_not_lt hlt)] at e2;cases e2
  rw [List.getElem?_set_ne (Ne.symm hj)] at e2
  obtain ⟨u',r',q⟩:=hl j y v' e1 e2 e3
  refine ⟨u',r',?_⟩
  rcases q with ⟨k,e⟩|⟨k,c,e,z⟩
  ·refine .inl ⟨k,?_⟩
   have:y ≠ x:=λ e=>hj (nodup_ix hN e1 (e ▸ hi))
   simp [this,e]
  ·exact .inr ⟨k,c,e,z.sameBut hs (cne y c e)⟩
 ·obtain ⟨w',z⟩:=I.cell y c e
  exact ⟨w',z.sameBut hs (cne y c e)⟩
 ·obtain ⟨e,n,ne,nf,d⟩:=I.pin p hp
  exact ⟨(hs.2 p.1 ne).trans e,n,ne,nf,d⟩
 ·refine (I.hok b ob e).stay (λ c w' hc q=>(hs.2 c ?_).trans q) (λ _ q=>q) λ _ _ q=>q
  rintro rfl
  rcases hc with rfl|hc
  ·rw [I.free] at e;cases e
  ·rw [I.free] at hc;cases hc
def tExcAs (K:W.Frag) (C:Value) (i:Nat) (tb:TS) (tr:Value->Option Addr->TS):Value->Option Addr->TS:=λ cls d D σ H=>∃ b,W.exmOne K cls C=some b /\
 if b=true then ∀ (e:Addr) (oe:Obj),H e=none->oe.cls=cls->oe.dict=d->(∃ vs,oe.data=.fields vs)->tb (D.del i) (σ.set i (some (.ref e))) (upd H e (excO oe)) else tr cls d D σ H
theorem phs_as {x n:Str}{i:Nat}{np pos:Pos}{b₀:Stmt}{body:List Stmt}{rest:List ExceptHandler}{C:Value}{tb:TS}{tr:Value->Option Addr->TS}(hN:X.N.Nodup) (hi:X.N[i]? = some n) (hk:X.env.scope.names.lookup n=some .local) (hg:Gl X x) (hm:X.mg x=some C\/(X.mg x=none/\bootBuiltins x=some C/\x ≠ "__name__")) (hb:∀ e,PSs (X.mark e) (b₀::body) tb) (hr:PHs X rest tr)
  (hdb:(x == ("__debug__":Str))=false:=by decide):PHs X (.ExceptHandler (some (.Name x np)) (some n) (b₀::body) pos::rest) (tExcAs X.K C i tb tr):=by
 intro pins s σ H D e T cls d I N hn ex h
 obtain ⟨b,hx,h⟩:=h
 have Im:=I.mark e
 have ld:∀ {Q:Value->Shared->Prop} {E:Value->Shared->Prop},Q C s->wpAny (model X.prog X.w) (X.A.mark (some (.ref e))) (eval (.Name x np) X.env) Q E s:=λ {Q E} q=>by
  rcases hm with z|⟨z1,z2,z3⟩
  ·exact ld_glob (X:=X.mark e) Im hg z q hdb
  ·exact ld_blt (X:=X.mark e) Im hg z1 z2 q z3 hdb
 refine PySem.wpAny_handleBy_cons (PySem.codeAny_handlers_test (ld ((W.exm_one I.kIn (exc_ty ex) hx).here ?_))) (by intro q;cases q)
 cases b with
 | false=>
  rw [if_neg Bool.false_ne_true] at h
  exact hr pins s σ H D e T cls d I N hn ex h
 | true=>
  rw [if_pos rfl] at h
  refine PySem.codeAny_handlers_suite_as (flight1 ex λ h' kp=>?_)
  obtain ⟨oe,vs,oT,ts,he,hc,hd,hdat,_⟩:=ex
  have N':NewAt (X.mark e) pins e:=⟨N.s0,N.loc,N.cel,N.fs,N.pin⟩
  have I':Inv (X.mark e) pins σ (upd H e (excO oe)) { s with heap:=h' }:=(Im.kept (t':=s.toks) kp).track N' (kp _ _ he) hn
  refine store_ok (X:=X.mark e) I' hN hi (.inl hk) (show RelV (.ref e) (.ref e) from rfl) (λ s1 I1=>?_) (.inr hk)
  refine wpAny_mono (hb e pins s1 _ _ (D.del i) I1 (h e oe hn hc hd ⟨vs,hdat⟩)) (λ f s2 q=>?_) λ _ _ z=>z.elim
  show wpAny _ X.A _ _ _ s2
  have q':=SP.unmark I.ok q
  cases f with
  | next=>obtain ⟨σ',H',J,q⟩:=q';exact gone_ok J hi hk hN λ s3 J3=>⟨_,H',J3,q⟩
  | brk=>obtain ⟨σ',H',J,q⟩:=q';exact gone_ok J hi hk hN λ s3 J3=>⟨_,H',J3,q⟩
  | cont=>obtain ⟨σ',H',J,q⟩:=q';exact gone_ok J hi hk hN λ s3 J3=>⟨_,H',J3,q⟩
  | ret u=>obtain ⟨v,σ',H',J,r,q⟩:=q';exact gone_ok J hi hk hN λ s3 J3=>⟨v,_,H',J3,r,q⟩
def tTry (tb:(St->XK)->TS) (th:Value->Option Addr->TS):TS:=λ D σ H=>tb (λ σ' cls d H'=>th cls d D σ' H') D σ H
abbrev Cx.tried (X:Cx) (E:Value->Shared->Prop) (pn:List (Addr × Obj)):Cx:={ X with xe:=E,pn:=pn }
theorem ps_try {body:List Stmt}{h₀:ExceptHandler}{hs:List ExceptHandler}{pos:Pos}{tb:(St->XK)->TS}{th:Value->Option Addr->TS}(hstk:X.stack=X.env::X.outer/\X.env.frame=some X.env.locals/\X.ex=[])
  (hb:∀ (EX:St->XK) (E:Value->Shared->Prop) (pn:List (Addr × Obj)),(∀ σ,PassAt (CX1 X.prog X.w) (X.tried E pn) (EX σ) σ)->PSs (X.tried E pn) body (tb EX)) (hh:PHs X (h₀::hs) th) :
  PS X (.Try body (h₀::hs) [] [] pos) (tTry tb th):=by
 intro pins s σ H D I h
 refine PySem.wpAny_Try_except ?_
 have okT:∀ E pn,(X.tried E pn).Ok:=λ E pn=>⟨I.ok.mod,I.ok.kind,I.ok.glob,I.ok.blt,I.ok.above,I.ok.inj,I.ok.has,I.ok.cab,I.ok.hd,I.ok.frames,I.ok.stk,I.ok.exf,I.ok.bs,I.ok.bsz,I.ok.noex,I.ok.exfs,I.ok.funs,I.ok.frf⟩
 have back:∀ {E:Value->Shared->Prop} {pins':List (Addr × Obj)} {σ':St} {H':Hp} {s':Shared},Inv (X.tried E (X.pn++pins)) pins' σ' H' s'->Inv X pins σ' H' s':=λ {E pins' σ' H' s'} J=>
  ⟨I.ok,J.os,J.bare,J.base,J.loc,J.cell,J.free,J.freeC,λ p hp=>J.pin p (List.mem_append_left _ hp),J.hok,J.len⟩
 have I0:∀ E,Inv (X.tried E (X.pn++pins)) [] σ H s:=λ E=>⟨okT E _,I.os,I.bare,I.base,I.loc,I.cell,I.free,I.freeC,λ p hp=>I.pin p (by simpa using hp),I.hok,I.len⟩
 refine thn (hb (λ σ' cls d H'=>th cls d D σ' H') _ (X.pn++pins) ?_ [] s σ H D (I0 _) h) λ f s1 q=>?_
 ·intro σ1 pins1 H1 s1 ev s2 I1 hc
  obtain ⟨e,T,cls,dd,H',rfl,os,bare,un1,hok,ne,nT,He,HT,ex,hxd,hE⟩:=hc
  have I2:=I1.call' (ch:=[]) os un1 hok bare (λ b z=>absurd z (by simp))
  have nf:∀ b,s1.heap.get? b=none->b ∉ frs (X.env::X.outer):=λ b hb z=>by
   have st:=I1.stack
   have st':s1.heap.FunFrames X.base (X.env::X.outer):=by rw [←hstk.1];exact st
   obtain ⟨_,o,q,_⟩:=st'.mem z
   rw [hb] at q;cases q
  have nb:X.base.get? T=none:=by
   cases q:X.base.get? T with
   | none=>rfl
   | some o=>
    have:=I1.bk T o q
    rw [nT] at this;cases this
  have fl:s2.heap.FunFrames X.base (X.env::X.outer):=by rw [←hstk.1];exact I2.stack
  have fr:X.A.frames=some (X.env::X.outer):=by rw [←hstk.1];exact I.ok.frames
  refine note_next (base:=X.base) (outer:=X.outer) fr fl hstk.2.1 ex (nf e ne) (nf T nT) nb λ g T' ng nT' ex'=>?_
  have fs:∀ b∈frs (X.env::X.outer),b∈frs X.stack:=λ b hb=>by rw [hstk.1];exact hb
  have I3:=I1.call' (s':={ s2 with heap:=g }) (ch:=[]) os (un1.noted ng ne (λ b z=>by rw [z];exact nT) λ b hb=>.inl (fs b hb)) (hok.noted ng He (λ b z=>by rw [z];exact HT) λ b hb=>I2.stkFree b (fs b hb)) bare (λ b z=>absurd z (by simp))
  exact hh pins _ σ1 H' D e T' cls dd (back I3) (NewAt.of (back I1) hstk.2.2 ne) He ex' hE
 ·cases f with
  | next=>obtain ⟨σ',H',J,q⟩:=q;exact wpAny_execs_nil ⟨σ',H',back J,q⟩
  | brk=>obtain ⟨σ',H',J,q⟩:=q;exact ⟨σ',H',back J,q⟩
  | cont=>obtain ⟨σ',H',J,q⟩:=q;exact ⟨σ',H',back J,q⟩
  | ret u=>obtain ⟨v,σ',H',J,r,q⟩:=q;exact ⟨v,σ',H',back J,r,q⟩
def kXd:HO->Prop:=λ o=>match o with
 | .xd _=>True
 | _=>False
def dictO (H:Hp):Option Addr->Prop
 | none=>True
 | some dx=>∃ o,H dx=some o/\kXd o
theorem call_isiE:CallR X (.builtin "isinstance") (λ xs H Q=>∃ e oe C D b,xs=[.ref e,D]/\(∃ u,H e=some (.frz oe u))/\oe.cls=.ref C/\dictO H oe.dict/\(∃ vs,oe.data=.fields vs)/\ECls X.K C/\(∃ u,RelV D u/\W.kitOne X.K (.ref C) u=some b)/\Q (.bl b) H):=by
 intro pins s σ H xs us Q I r h
 obtain ⟨e,oe,C,D,b,rfl,⟨uu,hH⟩,hc,hd,⟨vs,hv⟩,ec,⟨u,ru,hk⟩,q⟩:=h
 obtain ⟨u1,u2,rfl,r1,r2⟩:=vals2 r
 cases (show u1=Value.ref e from r1)
 have hu:u2=u:=by
  cases D with
  | ref a=>exact (show u2=Value.ref a from r2).trans (show u=Value.ref a from ru).symm
  | ty n=>exact (show u2=Value.type n from r2).trans (show u=Value.type n from ru).symm
  | non=>exact (show u2=Value.none from r2).trans (show u=Value.none from ru).symm
  | bl b'=>exact (show u2=Value.bool b' from r2).trans (show u=Value.bool b' from ru).symm
  | int i=>obtain ⟨t,rfl⟩:=ru;simp [W.kitOne,W.kitCls] at hk
  | str i=>obtain ⟨t,rfl⟩:=ru;simp [W.kitOne,W.kitCls] at hk
  | byt i=>obtain ⟨t,rfl⟩:=ru;simp [W.kitOne,W.kitCls] at hk
  | flt i=>obtain ⟨t,rfl⟩:=ru;simp [W.kitOne,W.kitCls] at hk
 subst hu
 obtain ⟨he,_⟩:=(show ObjOk X.prog X.w H s.heap e (.frz oe uu) from I.hok e _ hH)
 have hno:W.notCls oe=true:=by unfold W.notCls;rw [hv]
 cases q0:oe.dict with
 | none=>
  have J:W.InstAt s.heap e oe C none:=⟨he,hc,hno,by rw [q0];trivial⟩
  exact W.kia_one (kitx_exc ec) I.kIn J hk (λ z=>nomatch z) λ tk=>⟨.bl b,H,I.tok _,rfl,q⟩
 | some dx=>
  rw [q0] at hd
  obtain ⟨o,ho,hx⟩:=hd
  cases o with
  | xd fs=>
   obtain ⟨mA,hn,_⟩:=I.hok dx _ ho
   obtain ⟨oD,hoD,_⟩:=lookIn_ns hn
   have J:W.InstAt s.heap e oe C (some oD):=⟨he,hc,hno,by rw [q0];exact hoD⟩
   exact W.kia_one (kitx_exc ec) I.kIn J hk (λ z=>nomatch z) λ tk=>⟨.bl b,H,I.tok _,rfl,q⟩
  | _=>exact hx.elim
end
end L2
namespace L2
open PySem PySem.Spec PyProof.Rows PySem.W
def excInI (K:Frag) (C fI:Addr) (bmB:List Value) (newId:String):Bool:=ownIn0 K C (some (.ref fI)) bmB newId
section
variable {prog:Program}{w:World}{A:Around}{R:Result->Shared->Prop}{h:Heap}{g:Array GenState}{d:Drawn}{t:Nat}{os:OsState}{K:Frag}
variable {nm q:Str}{C N fI:Addr}{bs bm bmB:List Value}{hdct:Bool}{sn:List Str}{sub:List Value}{ab:Bool}{col:Option Bool}{dd:Option Addr}{k0 k1 k2 k3 k5:Option Value}{B Bn newId nid initId inN:String}{bmN:List Value}
end
def dropRefs:List Value->List Value
 | .ref _::r=>dropRefs r
 | l=>l
def onlyExc (l:List Value):Bool:=dropRefs l == [.type "ValueError",.type "Exception",.type "BaseException",.type "object"]
def excOver (K:Frag) (C:Addr):Bool:=(clsIn K C).any λ cd=>onlyExc cd.mro && cd.mro.contains (.type "object")
structure EStore (K:Frag) (C:Addr):Prop where
 ov:excOver K C=true
 sa:findIn K (.ref C) "__setattr__"=some (some (.builtin "object.__setattr__"))
 hd:hasDictIn K C=true
section
variable {prog:Program}{w:World}{A:Around}{E:Value->Shared->Prop}{K:Frag}{x C:Addr}{s:Shared}{name:Str}{v:Value}
end
end L2
namespace L2
open PySem PySem.Spec PyProof.Rows PySem.W
section
variable {prog:Program}{w:World}{A:Around}{E:Value->Shared->Prop}{s:Shared}{K:PySem.W.Frag}{x C dx:Addr}{ox:Obj}{od:Option Obj}{name:Str}{mA:Str->Option Value}{u:Value}
end
section
variable {prog:Program}{w:World}{A:Around}{E:Value->Shared->Prop}{h:Heap}{g:Array GenState}{d:Drawn}{t:Nat}{os:OsState}{e a0:Addr}{dct:Option Addr}
variable {nm q:Str}{C N:Addr}{bs bm bmB:List Value}{hdct:Bool}{sn:List Str}{sub:List Value}{ab:Bool}{col:Option Bool}{dd:Option Addr}{k0 k1 k2 k3 k5:Option Value}{B newId nid initId:String}
end
structure OwnI (K:W.Frag) (C fI:Addr):Prop where
 ex:excInI K C fI [.type "ValueError",.type "Exception",.type "BaseException",.type "object"] "ValueError.__new__"=true
 fn:typeIn K (.ref fI)=some (.type "function")
 st:EStore K C
section
variable {X:Cx}{pins:List (Addr × Obj)}{σ:St}{H:Hp}{s:Shared}
theorem Inv.adopt {a:Addr}{o:HO}(I:Inv X pins σ H s) (N:NewAt X pins a) (hn:H a=none) (new:ObjOk X.prog X.w (upd H a o) s.heap a o):Inv X pins σ (upd H a o) s:=by
 have ne:∀ {b:Addr} {u:HO},H b=some u->b ≠ a:=λ q z=>by rw [z,hn] at q;cases q
 refine ⟨I.ok,I.os,I.bare,⟨I.base.keep,I.base.slot,λ b u q n hx=>?_,I.base.there,λ b xs q=>?_,λ b u v q=>?_,λ b ps q=>?_⟩,I.loc,I.cell,?_,λ x c q=>?_,λ p hp=>?_,λ b u q=>?_,I.len⟩
 ·rw [upd_ne (λ z=>by rw [z,N.s0] at q;cases q)];exact I.base.free b u q n hx
 ·have z:=I.base.tups b xs q;rw [upd_ne (ne z)];exact z
 ·have z:=I.base.frzs b u v q;rw [upd_ne (ne z)];exact z
 ·obtain ⟨m,z⟩:=I.base.tbls b ps q;exact ⟨m,by rw [upd_ne (ne z)];exact z⟩
 ·rw [upd_ne (Ne.symm N.loc)];exact I.free
 ·rw [upd_ne (N.cel x c q)];exact I.freeC x c q
 ·obtain ⟨a1,b1,c1,d1,f1⟩:=I.pin p hp
  exact ⟨a1,by rw [upd_ne (N.pin p hp)];exact b1,c1,d1,f1⟩
 ·by_cases hb:b=a
  ·subst hb;rw [upd_same] at q;cases q;exact new
  ·rw [upd_ne hb] at q
   exact (I.hok b u q).stay (λ _ _ _ r=>r) (λ c r=>by rw [upd_ne (ne r)];exact r) λ c xs r=>by rw [upd_ne (ne r)];exact r
theorem Inv.newAt {a:Addr}(I:Inv X pins σ H s) (ha:s.heap.objs.size<=a):NewAt X pins a where
 s0:=Heap.get?_none_of_le (Nat.le_trans I.sz ha)
 loc:=Nat.ne_of_gt (Nat.lt_of_lt_of_le I.lt ha)
 cel:=λ x c e z=>by
  obtain ⟨v,o,q,_⟩:=I.cell x c e
  exact absurd (Nat.lt_of_lt_of_le (Heap.lt_size q) (by rw [z];exact ha)) (Nat.lt_irrefl _)
 fs:=I.nofs ha
 pin:=λ p hp z=>absurd (Nat.lt_of_lt_of_le (Heap.lt_size (I.pin p hp).1) (by rw [z];exact ha)) (Nat.lt_irrefl _)
structure BaseI (K:W.Frag) (B:Addr):Prop where
 sp:specialIn K (.ref B) "__getattribute__"=some (some (.builtin "type.__getattribute__"))
 rd:readsIn K B (.type "type")=true
 fc:findCls K (.ref B) (.type "type") "__init__"=some (.val (.builtin "ValueError.__init__"))
end
end L2
namespace L2
open PySem PySem.Spec PyProof.Rows PySem.W
section
variable {X:Cx}{e o value:Expr}{ta tv:TE}{f:Str}{pos pos':Pos}
end
def del (H:Hp) (e:Addr):Hp:=λ b=>if b=e then none else H b
section
variable {X:Cx}
end
end L2
namespace L2
open PySem
open PySem.Spec PyProof.Rows
theorem gName_0 {a:Option V}{v:V}{σ:St}{H:Hp}{Q:St->Hp->Prop}:gName 0 v (a::σ) H Q=Q (some v::σ) H:=rfl
theorem gName_1 {a0:Option V}{a:Option V}{v:V}{σ:St}{H:Hp}{Q:St->Hp->Prop}:gName 1 v (a0::a::σ) H Q=Q (a0::some v::σ) H:=rfl
theorem gName_2 {a0 a1:Option V}{a:Option V}{v:V}{σ:St}{H:Hp}{Q:St->Hp->Prop}:gName 2 v (a0::a1::a::σ) H Q=Q (a0::a1::some v::σ) H:=rfl
theorem gName_3 {a0 a1 a2:Option V}{a:Option V}{v:V}{σ:St}{H:Hp}{Q:St->Hp->Prop}:gName 3 v (a0::a1::a2::a::σ) H Q=Q (a0::a1::a2::some v::σ) H:=rfl
theorem gName_4 {a0 a1 a2 a3:Option V}{a:Option V}{v:V}{σ:St}{H:Hp}{Q:St->Hp->Prop}:gName 4 v (a0::a1::a2::a3::a::σ) H Q=Q (a0::a1::a2::a3::some v::σ) H:=rfl
theorem gName_5 {a0 a1 a2 a3 a4:Option V}{a:Option V}{v:V}{σ:St}{H:Hp}{Q:St->Hp->Prop}:gName 5 v (a0::a1::a2::a3::a4::a::σ) H Q=Q (a0::a1::a2::a3::a4::some v::σ) H:=rfl
theorem gName_6 {a0 a1 a2 a3 a4 a5:Option V}{a:Option V}{v:V}{σ:St}{H:Hp}{Q:St->Hp->Prop}:gName 6 v (a0::a1::a2::a3::a4::a5::a::σ) H Q=Q (a0::a1::a2::a3::a4::a5::some v::σ) H:=rfl
theorem gName_7 {a0 a1 a2 a3 a4 a5 a6:Option V}{a:Option V}{v:V}{σ:St}{H:Hp}{Q:St->Hp->Prop}:gName 7 v (a0::a1::a2::a3::a4::a5::a6::a::σ) H Q=Q (a0::a1::a2::a3::a4::a5::a6::some v::σ) H:=rfl
theorem gName_8 {a0 a1 a2 a3 a4 a5 a6 a7:Option V}{a:Option V}{v:V}{σ:St}{H:Hp}{Q:St->Hp->Prop}:gName 8 v (a0::a1::a2::a3::a4::a5::a6::a7::a::σ) H Q=Q (a0::a1::a2::a3::a4::a5::a6::a7::some v::σ) H:=rfl
theorem gName_9 {a0 a1 a2 a3 a4 a5 a6 a7 a8:Option V}{a:Option V}{v:V}{σ:St}{H:Hp}{Q:St->Hp->Prop}:gName 9 v (a0::a1::a2::a3::a4::a5::a6::a7::a8::a::σ) H Q=Q (a0::a1::a2::a3::a4::a5::a6::a7::a8::some v::σ) H:=rfl
theorem gName_10 {a0 a1 a2 a3 a4 a5 a6 a7 a8 a9:Option V}{a:Option V}{v:V}{σ:St}{H:Hp}{Q:St->Hp->Prop}:gName 10 v (a0::a1::a2::a3::a4::a5::a6::a7::a8::a9::a::σ) H Q=Q (a0::a1::a2::a3::a4::a5::a6::a7::a8::a9::some v::σ) H:=rfl
theorem gName_11 {a0 a1 a2 a3 a4 a5 a6 a7 a8 a9 a10:Option V}{a:Option V}{v:V}{σ:St}{H:Hp}{Q:St->Hp->Prop}:gName 11 v (a0::a1::a2::a3::a4::a5::a6::a7::a8::a9::a10::a::σ) H Q=Q (a0::a1::a2::a3::a4::a5::a6::a7::a8::a9::a10::some v::σ) H:=rfl
def optK {α:Type}:Option α->(α->Prop)->Prop
 | some x,k=>k x
 | none,_=>False
theorem optK_some {α:Type}(x:α) (k:α->Prop):optK (some x) k=k x:=rfl
theorem optK_ex {α:Type}{o:Option α}{k:α->Prop}(h:optK o k):∃ x,o=some x/\k x:=by
 cases o with
 | none=>exact h.elim
 | some x=>exact ⟨x,rfl,h⟩
def seqO:HO->Option (List V)
 | .lst xs=>some xs
 | .tup xs=>some xs
 | .frz _ (.lst xs)=>some xs
 | _=>none
def lstO:HO->Option (List V)
 | .lst xs=>some xs
 | _=>none
def tupO:HO->Option (List V)
 | .tup xs=>some xs
 | _=>none
def itemsAt (H:Hp) (p:Addr):Option (List V):=(H p).bind seqO
def lstAt (H:Hp) (p:Addr):Option (List V):=(H p).bind lstO
def tupAt (H:Hp) (p:Addr):Option (List V):=(H p).bind tupO
theorem seqO_lst (xs:List V):seqO (.lst xs)=some xs:=rfl
theorem seqO_tup (xs:List V):seqO (.tup xs)=some xs:=rfl
theorem lstO_lst (xs:List V):lstO (.lst xs)=some xs:=rfl
theorem tupO_tup (xs:List V):tupO (.tup xs)=some xs:=rfl
theorem bind_some' {α β:Type}(x:α) (f:α->Option β):(some x).bind f=f x:=rfl
abbrev Ext (H H':Hp):Prop:=(∀ a,(H a).isSome=true->H' a=H a)/\∀ (K:PySem.W.Frag) a xs,SqL K H a xs->SqL K H' a xs
def kOp' (r:R2) (x:V) (Q:VK):VK:=λ y H=>r x y H Q
theorem m_kOp' (r:R2) (x y:V) (H:Hp) (Q:VK):(kOp' r x Q y H)=(r x y H Q):=rfl
def kOp (r:R2) (tb:TE) (σ:St) (Q:VK):VK:=λ x H=>tb σ H (kOp' r x Q)
theorem m_kOp (r:R2) (tb:TE) (σ:St) (Q:VK) (x:V) (H:Hp):(kOp r tb σ Q x H)=(tb σ H (kOp' r x Q)):=rfl
theorem m_tOp (r:R2) (ta tb:TE) (σ:St) (H:Hp) (Q:VK):(tOp r ta tb σ H Q)=(ta σ H (kOp r tb σ Q)):=rfl
theorem m_tC (v:V) (σ:St) (H:Hp) (Q:VK):(tC v σ H Q)=(Q v H):=rfl
def kUn (r:V->Hp->VK->Prop) (Q:VK):VK:=λ x H=>r x H Q
theorem m_kUn (r:V->Hp->VK->Prop) (Q:VK) (x:V) (H:Hp):(kUn r Q x H)=(r x H Q):=rfl
theorem m_tUn (r:V->Hp->VK->Prop) (ta:TE) (σ:St) (H:Hp) (Q:VK):(tUn r ta σ H Q)=(ta σ H (kUn r Q)):=rfl
def rIsN:R2:=λ x y H Q=>y=.non/\Q (.bl (decide (x=.non))) H
theorem m_rIsN_non (H:Hp) (Q:VK):rIsN (.non) .non H Q=Q (.bl true) H:=propext ⟨λ h=>h.2,λ h=>⟨rfl,h⟩⟩
theorem m_rIsN_ref (i:Addr) (H:Hp) (Q:VK):rIsN (.ref i) .non H Q=Q (.bl false) H:=propext ⟨λ h=>h.2,λ h=>⟨rfl,h⟩⟩
def kTest (Q:Bool->Hp->Prop):VK:=λ x H=>∃ k,x=.bl k/\Q k H
def kNot (Q:Bool->Hp->Prop):Bool->Hp->Prop:=λ c H=>Q (!c) H
theorem m_kNot (Q:Bool->Hp->Prop) (c:Bool) (H:Hp):(kNot Q c H)=(Q (!c) H):=rfl
theorem m_tNot (t:TT) (σ:St) (H:Hp) (Q:Bool->Hp->Prop):(tNot t σ H Q)=(t σ H (kNot Q)):=rfl
def kOr (u:TT) (σ:St) (Q:Bool->Hp->Prop):Bool->Hp->Prop:=λ c H=>if c=true then Q true H else u σ H Q
theorem m_kOr (u:TT) (σ:St) (Q:Bool->Hp->Prop) (c:Bool) (H:Hp):(kOr u σ Q c H)=(if c=true then Q true H else u σ H Q):=rfl
theorem m_tOr (t u:TT) (σ:St) (H:Hp) (Q:Bool->Hp->Prop):(tOr t u σ H Q)=(t σ H (kOr u σ Q)):=rfl
def kAndV (tb:TE) (σ:St) (Q:VK):VK:=λ x H=>∃ c,x=.bl c/\if c=true then tb σ H Q else Q (.bl false) H
def kNotV (Q:VK):VK:=λ x H=>∃ c,x=.bl c/\Q (.bl (!c)) H
def kIfE (ta tb:TE) (σ:St) (Q:VK):Bool->Hp->Prop:=λ c H=>if c=true then ta σ H Q else tb σ H Q
theorem m_kIfE (ta tb:TE) (σ:St) (Q:VK) (c:Bool) (H:Hp):(kIfE ta tb σ Q c H)=(if c=true then ta σ H Q else tb σ H Q):=rfl
theorem m_tIf (t:TT) (ta tb:TE) (σ:St) (H:Hp) (Q:VK):(tIf t ta tb σ H Q)=(t σ H (kIfE ta tb σ Q)):=rfl
def kCh3 (r':R2) (y:V) (Q:VK):VK:=λ w H=>r' y w H Q
theorem m_kCh3 (r':R2) (y w:V) (Q:VK) (H:Hp):(kCh3 r' y Q w H)=(r' y w H Q):=rfl
def kCh2 (r':R2) (tc:TE) (σ:St) (y:V) (Q:VK):VK:=λ z H=>∃ k,z=.bl k/\(if k=true then tc σ H (kCh3 r' y Q) else Q (.bl false) H)
def kCh1 (r r':R2) (tc:TE) (σ:St) (x:V) (Q:VK):VK:=λ y H=>r x y H (kCh2 r' tc σ y Q)
def kCh0 (r r':R2) (tb tc:TE) (σ:St) (Q:VK):VK:=λ x H=>tb σ H (kCh1 r r' tc σ x Q)
theorem m_tNil (σ:St) (H:Hp) (Q:List V->Hp->Prop):(tNil σ H Q)=(Q [] H):=rfl
def kCons' (x:V) (Q:List V->Hp->Prop):List V->Hp->Prop:=λ xs H=>Q (x::xs) H
theorem m_kCons' (x:V) (Q:List V->Hp->Prop) (xs:List V) (H:Hp):(kCons' x Q xs H)=(Q (x::xs) H):=rfl
def kCons (tr:TA) (σ:St) (Q:List V->Hp->Prop):VK:=λ x H=>tr σ H (kCons' x Q)
theorem m_kCons (tr:TA) (σ:St) (Q:List V->Hp->Prop) (x:V) (H:Hp):(kCons tr σ Q x H)=(tr σ H (kCons' x Q)):=rfl
theorem m_tCons (ta:TE) (tr:TA) (σ:St) (H:Hp) (Q:List V->Hp->Prop):(tCons ta tr σ H Q)=(ta σ H (kCons tr σ Q)):=rfl
def kCall (sp:Sp) (dvs:List V) (E:XK) (Q:VK):List V->Hp->Prop:=λ vs H=>sp (vs++dvs) H Q E
theorem m_kCall_1 (v0:V) (sp:Sp) (dvs:List V) (E:XK) (Q:VK) (H:Hp):kCall sp dvs E Q [v0] H=sp (v0::dvs) H Q E:=rfl
theorem m_kCall_2 (v0 v1:V) (sp:Sp) (dvs:List V) (E:XK) (Q:VK) (H:Hp):kCall sp dvs E Q [v0,v1] H=sp (v0::v1::dvs) H Q E:=rfl
theorem m_kCall_3 (v0 v1 v2:V) (sp:Sp) (dvs:List V) (E:XK) (Q:VK) (H:Hp):kCall sp dvs E Q [v0,v1,v2] H=sp (v0::v1::v2::dvs) H Q E:=rfl
theorem m_tCall (sp:Sp) (dvs:List V) (E:XK) (t:TA) (σ:St) (H:Hp) (Q:VK):(tCall sp dvs E t σ H Q)=(t σ H (kCall sp dvs E Q)):=rfl
def kCB (r:List V->Hp->VK->Prop) (Q:VK):List V->Hp->Prop:=λ vs H=>r vs H Q
theorem m_kCB (r:List V->Hp->VK->Prop) (Q:VK) (vs:List V) (H:Hp):(kCB r Q vs H)=(r vs H Q):=rfl
theorem m_tCB (r:List V->Hp->VK->Prop) (t:TA) (σ:St) (H:Hp) (Q:VK):(tCB r t σ H Q)=(t σ H (kCB r Q)):=rfl
theorem m_tNext (nx:St->Hp->Prop) (rt:VK) (bk ct:St->Hp->Prop) (σ:St) (H:Hp):(tNext ⟨nx,rt,bk,ct⟩ σ H)=(nx σ H):=rfl
theorem m_tSeq (t u:TS) (nx:St->Hp->Prop) (rt:VK) (bk ct:St->Hp->Prop) (σ:St) (H:Hp):(tSeq t u ⟨nx,rt,bk,ct⟩ σ H)=(t ⟨u ⟨nx,rt,bk,ct⟩,rt,bk,ct⟩ σ H):=rfl
theorem m_tRet (te:TE) (nx:St->Hp->Prop) (rt:VK) (bk ct:St->Hp->Prop) (σ:St) (H:Hp):(tRet te ⟨nx,rt,bk,ct⟩ σ H)=(te σ H rt):=rfl
def kDrop (nx:St->Hp->Prop) (σ:St):VK:=λ x H=>nx σ H
theorem m_kDrop (nx:St->Hp->Prop) (σ:St) (x:V) (H:Hp):(kDrop nx σ x H)=(nx σ H):=rfl
theorem m_tDrop (te:TE) (nx:St->Hp->Prop) (rt:VK) (bk ct:St->Hp->Prop) (σ:St) (H:Hp):(tDrop te ⟨nx,rt,bk,ct⟩ σ H)=(te σ H (kDrop nx σ)):=rfl
def kIfS (t u:TS) (D:Ends) (σ:St):Bool->Hp->Prop:=λ b H=>if b=true then t D σ H else u D σ H
theorem m_kIfS (t u:TS) (D:Ends) (σ:St) (b:Bool) (H:Hp):(kIfS t u D σ b H)=(if b=true then t D σ H else u D σ H):=rfl
theorem m_tIfS (c:TT) (t u:TS) (D:Ends) (σ:St) (H:Hp):(tIfS c t u D σ H)=(c σ H (kIfS t u D σ)):=rfl
def kAsg (g:TG) (σ:St) (nx:St->Hp->Prop):VK:=λ x H=>g x σ H nx
theorem m_kAsg (g:TG) (σ:St) (nx:St->Hp->Prop) (x:V) (H:Hp):(kAsg g σ nx x H)=(g x σ H nx):=rfl
theorem m_tAsg (te:TE) (g:TG) (nx:St->Hp->Prop) (rt:VK) (bk ct:St->Hp->Prop) (σ:St) (H:Hp):(tAsg te g ⟨nx,rt,bk,ct⟩ σ H)=(te σ H (kAsg g σ nx)):=rfl
def kGs (u:TGs) (r:List V) (Q:St->Hp->Prop):St->Hp->Prop:=λ σ' H'=>u r σ' H' Q
theorem m_kGs (u:TGs) (r:List V) (Q:St->Hp->Prop) (σ:St) (H:Hp):(kGs u r Q σ H)=(u r σ H Q):=rfl
end L2
namespace L2
open PySem PySem.Spec PyProof.Rows
section
variable {X:Cx}
theorem OpR.mono {f:Value->Value->Sem Value}{r r':R2}(h:OpR X f r) (m:∀ x y H Q,r' x y H Q->r x y H Q):OpR X f r':=λ pins s σ H x y v u Q I rx ry hq=>h pins s σ H x y v u Q I rx ry (m _ _ _ _ hq)
theorem CallR.mono {f:Value}{r r':List V->Hp->VK->Prop}(h:CallR X f r) (m:∀ xs H Q,r' xs H Q->r xs H Q):CallR X f r':=λ pins s σ H xs us Q I rx hq=>h pins s σ H xs us Q I rx (m _ _ _ hq)
theorem IxR.mono {r r':R2}(h:IxR X r) (m:∀ x y H Q,r' x y H Q->r x y H Q):IxR X r':=λ a b pins s σ H x y v u Q I rx ry hq=>h a b pins s σ H x y v u Q I rx ry (m _ _ _ _ hq)
theorem PG.mono {tg:Expr}{g g':TG}(h:PG X tg g) (m:∀ v σ H Q,g' v σ H Q->g v σ H Q):PG X tg g':=λ pins s σ H v u Q I r hq=>h pins s σ H v u Q I r (m _ _ _ _ hq)
theorem items_seq {K:W.Frag}{H:Hp}{p:Addr}{ys:List V}(h:itemsAt H p=some ys):SqL K H p ys\/SqT K H p ys:=by
 unfold itemsAt at h
 cases e:H p with
 | none=>rw [e] at h;cases h
 | some o=>
  rw [e] at h
  have h':seqO o=some ys:=h
  cases o with
  | lst xs=>cases h';exact .inl (SqL.of e)
  | tup xs=>cases h';exact .inr (SqT.of e)
  | frz ob u=>
   cases u with
   | lst xs=>cases h';exact .inl (.inl (.inr ⟨ob,e⟩))
   | _=>cases h'
  | _=>cases h'
theorem lst_of {H:Hp}{p:Addr}{ys:List V}(h:lstAt H p=some ys):H p=some (.lst ys):=by
 unfold lstAt at h
 cases e:H p with
 | none=>rw [e] at h;cases h
 | some o=>
  rw [e] at h
  have h':lstO o=some ys:=h
  cases o with
  | lst xs=>cases h';rfl
  | _=>cases h'
theorem tup_of {H:Hp}{p:Addr}{ys:List V}(h:tupAt H p=some ys):H p=some (.tup ys):=by
 unfold tupAt at h
 cases e:H p with
 | none=>rw [e] at h;cases h
 | some o=>
  rw [e] at h
  have h':tupO o=some ys:=h
  cases o with
  | tup xs=>cases h';rfl
  | _=>cases h'
def kLen (H:Hp) (Q:VK):List V->Prop:=λ ys=>Q (.int ys.length) H
theorem m_kLen (H:Hp) (Q:VK) (ys:List V):kLen H Q ys=Q (.int ys.length) H:=rfl
def qLen (xs:List V) (H:Hp) (Q:VK):Prop:=match xs with
 | [.ref p]=>optK (itemsAt H p) (kLen H Q)
 | [.str z]=>z.length<=sizeLine/\Q (.int z.length) H
 | _=>False
theorem m_qLen (p:Addr) (H:Hp) (Q:VK):qLen [.ref p] H Q=optK (itemsAt H p) (kLen H Q):=rfl
theorem m_qLenS (z:Str) (H:Hp) (Q:VK):qLen [.str z] H Q=(z.length<=sizeLine/\Q (.int z.length) H):=rfl
theorem call_qLen:CallR X (.builtin "len") qLen:=by
 refine (call_len_seq.or call_len_str).mono λ xs H Q h=>?_
 unfold qLen at h
 split at h
 ·rename_i p
  obtain ⟨ys,e,q⟩:=optK_ex h
  exact .inl ⟨p,ys,rfl,items_seq e,q⟩
 ·rename_i z
  exact .inr ⟨z,rfl,h.1,h.2⟩
 ·exact h.elim
def kIx' (H:Hp) (Q:VK):V->Prop:=λ v=>Q v H
theorem m_kIx' (H:Hp) (Q:VK) (v:V):kIx' H Q v=Q v H:=rfl
def kIx (i:Int) (H:Hp) (Q:VK):List V->Prop:=λ ys=>optK (atI ys i) (kIx' H Q)
theorem m_kIx (i:Int) (H:Hp) (Q:VK) (ys:List V):kIx i H Q ys=optK (atI ys i) (kIx' H Q):=rfl
def qIx:R2:=λ x y H Q=>match x,y with
 | .ref p,.int i=>optK (itemsAt H p) (kIx i H Q)
 | _,_=>False
theorem m_qIx (p:Addr) (i:Int) (H:Hp) (Q:VK):qIx (.ref p) (.int i) H Q=optK (itemsAt H p) (kIx i H Q):=rfl
theorem ix_q:IxR X qIx:=by
 refine (ix_list.or ix_tup).mono λ x y H Q h=>?_
 unfold qIx at h
 split at h
 ·rename_i p i
  obtain ⟨ys,e,q⟩:=optK_ex h
  obtain ⟨v,e2,q2⟩:=optK_ex q
  rcases items_seq (K:=X.K) e with z|z
  ·exact .inl ⟨p,ys,i,v,rfl,rfl,z,e2,q2⟩
  ·exact .inr ⟨p,ys,i,v,rfl,rfl,z,e2,q2⟩
 ·exact h.elim
theorem atI_0 {α:Type}(a:α) (xs:List α):atI (a::xs) 0=some a:=atI_nat (j:=0) rfl
theorem atI_1 {α:Type}(a b:α) (xs:List α):atI (a::b::xs) 1=some b:=atI_nat (j:=1) rfl
theorem atI_2 {α:Type}(a b c:α) (xs:List α):atI (a::b::c::xs) 2=some c:=atI_nat (j:=2) rfl
def kNewL (H:Hp) (Q:VK):List V->Prop:=λ ys=>∀ l,H l=none->Q (.ref l) (upd H l (.lst ys))
def qList (xs:List V) (H:Hp) (Q:VK):Prop:=match xs with
 | [.ref p]=>optK (itemsAt H p) (kNewL H Q)
 | _=>False
theorem call_qList:CallR X (.type "list") qList:=by
 refine call_list_of.mono λ xs H Q h=>?_
 unfold qList at h
 split at h
 ·rename_i p
  obtain ⟨ys,e,q⟩:=optK_ex h
  exact ⟨p,ys,rfl,items_seq e,q⟩
 ·exact h.elim
def qAbs (xs:List V) (H:Hp) (Q:VK):Prop:=match xs with
 | [.int i]=>Q (.int (if i < 0 then -i else i)) H
 | _=>False
theorem m_qAbs (i:Int) (H:Hp) (Q:VK):qAbs [.int i] H Q=Q (.int (if i < 0 then -i else i)) H:=rfl
theorem call_qAbs:CallR X (.builtin "abs") qAbs:=by
 refine call_abs.mono λ xs H Q h=>?_
 unfold qAbs at h
 split at h
 ·rename_i i;exact ⟨i,rfl,h⟩
 ·exact h.elim
def qMax (xs:List V) (H:Hp) (Q:VK):Prop:=match xs with
 | [.int i,.int j]=>Q (.int (if i < j then j else i)) H
 | _=>False
theorem m_qMax (i j:Int) (H:Hp) (Q:VK):qMax [.int i,.int j] H Q=Q (.int (if i < j then j else i)) H:=rfl
theorem call_qMax (hc:X.calm=true):CallR X (.builtin "max") qMax:=by
 refine (call_max2 hc).mono λ xs H Q h=>?_
 unfold qMax at h
 split at h
 ·rename_i i j;exact ⟨i,j,rfl,h⟩
 ·exact h.elim
def qMin (xs:List V) (H:Hp) (Q:VK):Prop:=match xs with
 | [.int i,.int j]=>Q (.int (if j < i then j else i)) H
 | _=>False
theorem m_qMin (i j:Int) (H:Hp) (Q:VK):qMin [.int i,.int j] H Q=Q (.int (if j < i then j else i)) H:=rfl
theorem call_qMin (hc:X.calm=true):CallR X (.builtin "min") qMin:=by
 refine (call_min2 hc).mono λ xs H Q h=>?_
 unfold qMin at h
 split at h
 ·rename_i i j;exact ⟨i,j,rfl,h⟩
 ·exact h.elim
def tyO:HO->Option String
 | .lst _=>some "list"
 | .tup _=>some "tuple"
 | .frz _ (.lst _)=>some "list"
 | .dK _=>some "dict"
 | .dT _=>some "dict"
 | _=>none
theorem tyO_lst (xs:List V):tyO (.lst xs)=some "list":=rfl
theorem tyO_tup (xs:List V):tyO (.tup xs)=some "tuple":=rfl
def tyN (H:Hp):V->Option String
 | .non=>some "NoneType"
 | .bl _=>some "bool"
 | .int _=>some "int"
 | .str _=>some "str"
 | .ref p=>(H p).bind tyO
 | _=>none
theorem tyN_non (H:Hp):tyN H .non=some "NoneType":=rfl
theorem tyN_bl (H:Hp) (b:Bool):tyN H (.bl b)=some "bool":=rfl
theorem tyN_int (H:Hp) (i:Int):tyN H (.int i)=some "int":=rfl
theorem tyN_str (H:Hp) (x:Str):tyN H (.str x)=some "str":=rfl
theorem tyN_ref (H:Hp) (p:Addr):tyN H (.ref p)=(H p).bind tyO:=rfl
theorem tyN_ok {K:W.Frag}{H:Hp}{x:V}{t:String}(h:tyN H x=some t):TyOf K H x (.type t):=by
 cases x with
 | non=>cases h;exact .non
 | bl b=>cases h;exact .bl b
 | int i=>cases h;exact .int i
 | str x=>cases h;exact .str x
 | ref p=>
  have h':(H p).bind tyO=some t:=h
  cases e:H p with
  | none=>rw [e] at h';cases h'
  | some o=>
   rw [e] at h'
   have h2:tyO o=some t:=h'
   cases o with
   | lst xs=>cases h2;exact .lst e
   | tup xs=>cases h2;exact .tup e
   | dK xs=>cases h2;exact .dK e
   | dT xs=>cases h2;exact .dT e
   | frz ob u=>
    cases u with
    | lst xs=>cases h2;exact .frz e
    | _=>cases h2
   | _=>cases h2
 | _=>cases h
def kTypes:List String:=["NoneType", "bool", "int", "str", "list", "tuple", "dict"]
def isiN (t n:String):Bool:=t == n || (t == "bool" && n == "int")
theorem kit_isiN (K:W.Frag):∀ t∈kTypes,∀ n∈kTypes,W.kitOne K (.type t) (.type n)=some (isiN t n):=by
 intro t ht n hn
 unfold kTypes at ht hn
 simp only [List.mem_cons,List.not_mem_nil,or_false] at ht hn
 rcases ht with rfl|rfl|rfl|rfl|rfl|rfl|rfl<;>rcases hn with rfl|rfl|rfl|rfl|rfl|rfl|rfl<;>exact kitOne_ty K _ _ _ (by decide +kernel)
def kIsi (n:String) (H:Hp) (Q:VK):String->Prop:=λ t=>t∈kTypes/\Q (.bl (isiN t n)) H
def qIsi (xs:List V) (H:Hp) (Q:VK):Prop:=match xs with
 | [x,.ty n]=>n∈kTypes/\optK (tyN H x) (kIsi n H Q)
 | _=>False
theorem call_qIsi:CallR X (.builtin "isinstance") qIsi:=by
 refine call_isi.mono λ xs H Q h=>?_
 unfold qIsi at h
 split at h
 ·rename_i x n
  obtain ⟨hn,h⟩:=h
  obtain ⟨t,e,ht,q⟩:=optK_ex h
  exact ⟨x,n,_,_,rfl,tyN_ok e,kit_isiN _ t ht n hn,q⟩
 ·exact h.elim
theorem m_qIsi_int (x:V) (H:Hp) (Q:VK):qIsi [x,.ty "int"] H Q=optK (tyN H x) (kIsi "int" H Q):=by
 unfold qIsi;exact propext ⟨λ h=>h.2,λ h=>⟨by decide,h⟩⟩
theorem m_qIsi_bool (x:V) (H:Hp) (Q:VK):qIsi [x,.ty "bool"] H Q=optK (tyN H x) (kIsi "bool" H Q):=by
 unfold qIsi;exact propext ⟨λ h=>h.2,λ h=>⟨by decide,h⟩⟩
theorem m_qIsi_tuple (x:V) (H:Hp) (Q:VK):qIsi [x,.ty "tuple"] H Q=optK (tyN H x) (kIsi "tuple" H Q):=by
 unfold qIsi;exact propext ⟨λ h=>h.2,λ h=>⟨by decide,h⟩⟩
theorem m_qIsi_list (x:V) (H:Hp) (Q:VK):qIsi [x,.ty "list"] H Q=optK (tyN H x) (kIsi "list" H Q):=by
 unfold qIsi;exact propext ⟨λ h=>h.2,λ h=>⟨by decide,h⟩⟩
theorem m_qIsi_str (x:V) (H:Hp) (Q:VK):qIsi [x,.ty "str"] H Q=optK (tyN H x) (kIsi "str" H Q):=by
 unfold qIsi;exact propext ⟨λ h=>h.2,λ h=>⟨by decide,h⟩⟩
theorem m_kIsi_Ni (H:Hp) (Q:VK):kIsi "int" H Q "NoneType"=Q (.bl false) H:=propext ⟨λ h=>h.2,λ h=>⟨by decide,h⟩⟩
theorem m_kIsi_bb (H:Hp) (Q:VK):kIsi "bool" H Q "bool"=Q (.bl true) H:=propext ⟨λ h=>h.2,λ h=>⟨by decide,h⟩⟩
theorem m_kIsi_bi (H:Hp) (Q:VK):kIsi "int" H Q "bool"=Q (.bl true) H:=propext ⟨λ h=>h.2,λ h=>⟨by decide,h⟩⟩
theorem m_kIsi_ib (H:Hp) (Q:VK):kIsi "bool" H Q "int"=Q (.bl false) H:=propext ⟨λ h=>h.2,λ h=>⟨by decide,h⟩⟩
theorem m_kIsi_ii (H:Hp) (Q:VK):kIsi "int" H Q "int"=Q (.bl true) H:=propext ⟨λ h=>h.2,λ h=>⟨by decide,h⟩⟩
theorem m_kIsi_si (H:Hp) (Q:VK):kIsi "int" H Q "str"=Q (.bl false) H:=propext ⟨λ h=>h.2,λ h=>⟨by decide,h⟩⟩
theorem m_kIsi_ss (H:Hp) (Q:VK):kIsi "str" H Q "str"=Q (.bl true) H:=propext ⟨λ h=>h.2,λ h=>⟨by decide,h⟩⟩
theorem m_kIsi_li (H:Hp) (Q:VK):kIsi "int" H Q "list"=Q (.bl false) H:=propext ⟨λ h=>h.2,λ h=>⟨by decide,h⟩⟩
theorem m_kIsi_ll (H:Hp) (Q:VK):kIsi "list" H Q "list"=Q (.bl true) H:=propext ⟨λ h=>h.2,λ h=>⟨by decide,h⟩⟩
theorem m_kIsi_ti (H:Hp) (Q:VK):kIsi "int" H Q "tuple"=Q (.bl false) H:=propext ⟨λ h=>h.2,λ h=>⟨by decide,h⟩⟩
theorem m_kIsi_tt (H:Hp) (Q:VK):kIsi "tuple" H Q "tuple"=Q (.bl true) H:=propext ⟨λ h=>h.2,λ h=>⟨by decide,h⟩⟩
theorem m_kIsi_di (H:Hp) (Q:VK):kIsi "int" H Q "dict"=Q (.bl false) H:=propext ⟨λ h=>h.2,λ h=>⟨by decide,h⟩⟩
def kBM' (r:V->List V->Hp->VK->Prop) (x:V) (Q:VK):List V->Hp->Prop:=λ xs H=>r x xs H Q
theorem m_kBM' (r:V->List V->Hp->VK->Prop) (x:V) (Q:VK) (xs:List V) (H:Hp):kBM' r x Q xs H=r x xs H Q:=rfl
def kBM (K:W.Frag) (T:String) (r:V->List V->Hp->VK->Prop) (t:TA) (σ:St) (Q:VK):VK:=λ x H=>tyV K T x H/\t σ H (kBM' r x Q)
theorem m_kBM (K:W.Frag) (T:String) (r:V->List V->Hp->VK->Prop) (t:TA) (σ:St) (Q:VK) (x:V) (H:Hp):kBM K T r t σ Q x H=(tyV K T x H/\t σ H (kBM' r x Q)):=rfl
theorem m_tBM (K:W.Frag) (T:String) (r:V->List V->Hp->VK->Prop) (to:TE) (t:TA) (σ:St) (H:Hp) (Q:VK):tBM K T r to t σ H Q=to σ H (kBM K T r t σ Q):=rfl
def kBM0 (K:W.Frag) (T:String) (r:V->List V->Hp->VK->Prop) (Q:VK):VK:=λ x H=>tyV K T x H/\r x [] H Q
theorem m_kBM0 (K:W.Frag) (T:String) (r:V->List V->Hp->VK->Prop) (Q:VK) (x:V) (H:Hp):kBM0 K T r Q x H=(tyV K T x H/\r x [] H Q):=rfl
theorem m_tBM0 (K:W.Frag) (T:String) (r:V->List V->Hp->VK->Prop) (to:TE) (σ:St) (H:Hp) (Q:VK):tBM0 K T r to σ H Q=to σ H (kBM0 K T r Q):=rfl
theorem tyV_list (K:W.Frag) (p:Addr) (H:Hp) (h:(lstAt H p).isSome=true):tyV K "list" (.ref p) H=True:=by
 cases e:lstAt H p with
 | none=>rw [e] at h;cases h
 | some ys=>exact eq_true (.inl ⟨rfl,ys,SqL.of (lst_of e)⟩)
def kApp (l:Addr) (y:V) (H:Hp) (Q:VK):List V->Prop:=λ xs=>xs.length < sizeLine/\Q .non (upd H l (.lst (xs++[y])))
theorem m_kApp (l:Addr) (y:V) (H:Hp) (Q:VK) (xs:List V):kApp l y H Q xs=(xs.length < sizeLine/\Q .non (upd H l (.lst (xs++[y])))):=rfl
theorem m_rAppend (l:Addr) (y:V) (H:Hp) (Q:VK):rAppend (.ref l) [y] H Q=optK (lstAt H l) (kApp l y H Q):=by
 refine propext ⟨λ h=>?_,λ h=>?_⟩
 ·obtain ⟨_,xs,_,e1,e2,e3,a,b⟩:=h
  cases e1;cases e2
  have e:lstAt H l=some xs:=by unfold lstAt;rw [e3];rfl
  rw [e];exact ⟨a,b⟩
 ·obtain ⟨xs,e,a,b⟩:=optK_ex h
  exact ⟨l,xs,y,rfl,rfl,lst_of e,a,b⟩
def kRev (l:Addr) (H:Hp) (Q:VK):List V->Prop:=λ xs=>Q .non (upd H l (.lst xs.reverse))
theorem m_kRev (l:Addr) (H:Hp) (Q:VK) (xs:List V):kRev l H Q xs=Q .non (upd H l (.lst xs.reverse)):=rfl
theorem m_rReverse (l:Addr) (H:Hp) (Q:VK):rReverse (.ref l) [] H Q=optK (lstAt H l) (kRev l H Q):=by
 refine propext ⟨λ h=>?_,λ h=>?_⟩
 ·obtain ⟨_,xs,e1,_,e3,b⟩:=h
  cases e1
  have e:lstAt H l=some xs:=by unfold lstAt;rw [e3];rfl
  rw [e];exact b
 ·obtain ⟨xs,e,b⟩:=optK_ex h
  exact ⟨l,xs,rfl,rfl,lst_of e,b⟩
def kSet' (p:Addr) (xs:List V) (v:V) (H:Hp) (Q:Hp->Prop):Nat->Prop:=λ j=>Q (upd H p (.lst (xs.set j v)))
theorem m_kSet' (p:Addr) (xs:List V) (v:V) (H:Hp) (Q:Hp->Prop) (j:Nat):kSet' p xs v H Q j=Q (upd H p (.lst (xs.set j v))):=rfl
def kSet (p:Addr) (i:Int) (v:V) (H:Hp) (Q:Hp->Prop):List V->Prop:=λ xs=>optK (ixN xs.length i) (kSet' p xs v H Q)
theorem m_kSet (p:Addr) (i:Int) (v:V) (H:Hp) (Q:Hp->Prop) (xs:List V):kSet p i v H Q xs=optK (ixN xs.length i) (kSet' p xs v H Q):=rfl
theorem m_rSetL (p:Addr) (i:Int) (v:V) (H:Hp) (Q:Hp->Prop):rSetL (.ref p) (.int i) v H Q=optK (lstAt H p) (kSet p i v H Q):=by
 refine propext ⟨λ h=>?_,λ h=>?_⟩
 ·obtain ⟨_,xs,_,j,e1,e2,e3,e4,b⟩:=h
  cases e1;cases e2
  have e:lstAt H p=some xs:=by unfold lstAt;rw [e3];rfl
  rw [e]
  show optK (ixN xs.length i) _
  rw [e4];exact b
 ·obtain ⟨xs,e,q⟩:=optK_ex h
  obtain ⟨j,e4,q⟩:=optK_ex q
  exact ⟨p,xs,i,j,rfl,rfl,lst_of e,e4,q⟩
def kGSub3 (t:TSet) (o v:V) (σ:St) (Q:St->Hp->Prop):VK:=λ i H=>t o i v H λ H3=>Q σ H3
theorem m_kGSub3 (t:TSet) (o v:V) (σ:St) (Q:St->Hp->Prop) (i:V) (H:Hp):kGSub3 t o v σ Q i H=t o i v H (Q σ):=rfl
def kGSub2 (ti:TE) (t:TSet) (v:V) (σ:St) (Q:St->Hp->Prop):VK:=λ o H=>ti σ H (kGSub3 t o v σ Q)
theorem m_kGSub2 (ti:TE) (t:TSet) (v:V) (σ:St) (Q:St->Hp->Prop) (o:V) (H:Hp):kGSub2 ti t v σ Q o H=ti σ H (kGSub3 t o v σ Q):=rfl
theorem m_gSub (to ti:TE) (t:TSet) (v:V) (σ:St) (H:Hp) (Q:St->Hp->Prop):gSub to ti t v σ H Q=to σ H (kGSub2 ti t v σ Q):=rfl
def kGT (n:Nat) (t:TGs) (σ:St) (H:Hp) (Q:St->Hp->Prop):List V->Prop:=λ xs=>xs.length=n/\t xs σ H Q
theorem m_kGT (n:Nat) (t:TGs) (σ:St) (H:Hp) (Q:St->Hp->Prop) (xs:List V):kGT n t σ H Q xs=(xs.length=n/\t xs σ H Q):=rfl
def qGT (n:Nat) (t:TGs):TG:=λ v σ H Q=>match v with
 | .ref a=>optK (tupAt H a) (kGT n t σ H Q)
 | _=>False
theorem m_qGT (n:Nat) (t:TGs) (a:Addr) (σ:St) (H:Hp) (Q:St->Hp->Prop):qGT n t (.ref a) σ H Q=optK (tupAt H a) (kGT n t σ H Q):=rfl
theorem gTup_q {K:W.Frag}{n:Nat}{t:TGs}{v:V}{σ:St}{H:Hp}{Q:St->Hp->Prop}(h:qGT n t v σ H Q):gTup K n t v σ H Q:=by
 unfold qGT at h
 split at h
 ·rename_i a
  obtain ⟨xs,e,hl,q⟩:=optK_ex h
  exact ⟨a,xs,rfl,SqT.of (tup_of e),hl,q⟩
 ·exact h.elim
theorem op_qIs:OpR X (compareOp .Is) rIsN:=op_isN
def kBody (tb:TS) (D:Ends):St->Hp->Prop:=λ σ H=>tb D σ H
theorem m_kBody (tb:TS) (D:Ends) (σ:St) (H:Hp):kBody tb D σ H=tb D σ H:=rfl
def kFor (g:TG) (tb:TS) (D:Ends) (σ:St) (J:It) (H1:Hp):Prop:=∃ W:Nat->Nat->St->Hp->Prop,(∃ m,W 0 m σ H1)/\∀ i m σ H,W i m σ H →
 (J.stop i H/\D.nx σ H)\/(J.go i H/\∃ N:St->Hp->Prop,(∀ σ' H',N σ' H'->∃ m',m' < m/\W (i+1) m' σ' H')/\∀ x H',J.yld i H x H'->g x σ H' λ σ2 H2=>tb { D with nx:=N,ct:=N,bk:=D.nx } σ2 H2)
theorem m_tFor (wi:TI) (g:TG) (tb:TS) (D:Ends) (σ:St) (H:Hp):tFor wi g tb D σ H=wi σ H (kFor g tb D σ):=rfl
def kR1 (R:It->Hp->Prop):List V->Hp->Prop:=λ vs H=>∃ j:Int,vs=[.int j]/\-(2 ^ 62)<=j/\j < 2 ^ 62/\R (Itr 0 j.toNat) H
theorem m_kR1 (R:It->Hp->Prop) (j:Int) (H:Hp):kR1 R [.int j] H=(-(2 ^ 62)<=j/\j < 2 ^ 62/\R (Itr 0 j.toNat) H):=propext ⟨λ ⟨_,e,q⟩=>by cases e;exact q,λ q=>⟨j,rfl,q⟩⟩
theorem m_iRng1 (ta:TA) (σ:St) (H:Hp) (R:It->Hp->Prop):iRng1 ta σ H R=ta σ H (kR1 R):=rfl
def kISq' (K:W.Frag) (a:Addr) (H:Hp) (R:It->Hp->Prop):HO->Prop:=λ o=>match o with
 | .lst _=>R (Itl K a) H
 | .frz _ (.lst _)=>R (Itl K a) H
 | .tup _=>R (Itt K a) H
 | _=>False
theorem m_kISq'_l (K:W.Frag) (a:Addr) (H:Hp) (R:It->Hp->Prop) (xs:List V):kISq' K a H R (.lst xs)=R (Itl K a) H:=rfl
def kISq (K:W.Frag) (R:It->Hp->Prop):VK:=λ x H=>match x with
 | .ref a=>optK (H a) (kISq' K a H R)
 | _=>False
theorem m_kISq (K:W.Frag) (R:It->Hp->Prop) (a:Addr) (H:Hp):kISq K R (.ref a) H=optK (H a) (kISq' K a H R):=rfl
def iSeq (K:W.Frag) (tl:TE):TI:=λ σ H R=>tl σ H (kISq K R)
theorem m_iSeq (K:W.Frag) (tl:TE) (σ:St) (H:Hp) (R:It->Hp->Prop):iSeq K tl σ H R=tl σ H (kISq K R):=rfl
theorem pi_seq {tg l:Expr}{tl:TE}(hl:PE X l tl):PI X tg l (iSeq X.K tl):=by
 intro pins s σ H R I h
 refine thn (hl pins s σ H _ I h) λ v s1 ⟨x,H1,I1,r1,q1⟩=>?_
 unfold kISq at q1
 split at q1
 ·rename_i a
  cases r1
  obtain ⟨o,e,q⟩:=optK_ex q1
  have fp:∀ b∈[s1.heap.objs.size],FpOk X pins H1 b:=λ b hb=>by
   have e:b=s1.heap.objs.size:=by simpa using hb
   subst e
   exact I1.fpOk (Nat.le_refl _) (I1.hok.fresh (Nat.le_refl _))
  have lst:∀ xs,SqL X.K H1 a xs->R (Itl X.K a) H1->wpAny (model X.prog X.w) X.A (pyIter (.ref a)) (PIE X pins σ tg R) X.xe s1:=λ xs hq q=>by
   obtain ⟨its,rv,p,hz⟩:=I1.list hq
   refine wpAny_pyIter_list p.isList ?_
   exact ⟨s1.heap.objs.size,[s1.heap.objs.size],_,_,H1,rfl,I1.kept (t':=s1.toks) λ b o e=>Heap.get?_push_of_some _ e,turn_list a _,⟨_,Heap.get?_push_size _ rfl,rfl,rfl⟩,fp,q⟩
  unfold kISq' at q
  split at q
  ·exact lst _ (SqL.of e) q
  ·exact lst _ (.inl (.inr ⟨_,e⟩)) q
  ·obtain ⟨its,rv,p,hz⟩:=I1.tuple (SqT.of e)
   refine wpAny_pyIter_tuple (show s1.heap.IsTuple a its.toArray from p) ?_
   exact ⟨s1.heap.objs.size,[s1.heap.objs.size],_,_,H1,rfl,I1.kept (t':=s1.toks) λ b o e=>Heap.get?_push_of_some _ e,turn_tuple a _,⟨_,Heap.get?_push_size _ rfl,rfl,rfl⟩,fp,q⟩
  ·exact q.elim
 ·exact q1.elim
theorem for_rng {lo:Int}{n:Nat}{g:TG}{tb:TS}{nx:St->Hp->Prop}{rt:VK}{bk ct:St->Hp->Prop}{σ:St}{H:Hp}(Pv:Nat->St->Hp->Prop) (h0:Pv 0 σ H)
  (hs:∀ i σ H,i < n->Pv i σ H->g (.int (lo+i)) σ H (kBody tb ⟨Pv (i+1),rt,nx,Pv (i+1)⟩)) (hd:∀ σ H,Pv n σ H->nx σ H):kFor g tb ⟨nx,rt,bk,ct⟩ σ (Itr lo n) H:=for_range Pv h0 hs hd
theorem for_lst {K:W.Frag}{a:Addr}{xs:List V}{g:TG}{tb:TS}{nx:St->Hp->Prop}{rt:VK}{bk ct:St->Hp->Prop}{σ:St}{H:Hp}(Pv:Nat->St->Hp->Prop) (h0:Pv 0 σ H) (hl:∀ i σ H,i<=xs.length->Pv i σ H->H a=some (.lst xs))
  (hs:∀ i x σ H,xs[i]? = some x->Pv i σ H->g x σ H (kBody tb ⟨Pv (i+1),rt,nx,Pv (i+1)⟩)) (hd:∀ σ H,Pv xs.length σ H->nx σ H):kFor g tb ⟨nx,rt,bk,ct⟩ σ (Itl K a) H:=for_list (xs:=xs) Pv h0 (λ i σ H hi p=>SqL.of (hl i σ H hi p)) hs hd
end
end L2
namespace L2
open PySem PySem.Spec PyProof.Rows
def kTry (th:Value->Option Addr->TS) (D:Ends):St->XK:=λ σ cls d H=>th cls d D σ H
theorem m_kTry (th:Value->Option Addr->TS) (D:Ends) (σ:St) (cls:Value) (d:Option Addr) (H:Hp):kTry th D σ cls d H=th cls d D σ H:=rfl
theorem m_tTry (tb:(St->XK)->TS) (th:Value->Option Addr->TS) (D:Ends) (σ:St) (H:Hp):tTry tb th D σ H=tb (kTry th D) D σ H:=rfl
def kRaise (C:Addr) (E:XK):List V->Hp->Prop:=λ vs H=>vs.length<=sizeLine/\E (.ref C) none H
theorem m_kRaise (C:Addr) (E:XK) (vs:List V) (H:Hp):kRaise C E vs H=(vs.length<=sizeLine/\E (.ref C) none H):=rfl
theorem m_tRaise (C:Addr) (E:St->XK) (t:TA) (D:Ends) (σ:St) (H:Hp):tRaise C E t D σ H=t σ H (kRaise C (E σ)):=rfl
def kSetE (i:Nat) (tb:TS) (D:Ends):St->Hp->Prop:=λ σ H=>tb D σ H
theorem m_kSetE (i:Nat) (tb:TS) (D:Ends) (σ:St) (H:Hp):kSetE i tb D σ H=tb D σ H:=rfl
def kExcAs (i:Nat) (tb:TS) (tr:Value->Option Addr->TS) (cls:Value) (d:Option Addr) (D:Ends) (σ:St) (H:Hp):Bool->Prop:=λ b=>if b=true then ∀ (e:Addr) (oe:Obj),H e=none->oe.cls=cls->oe.dict=d->(∃ vs,oe.data=.fields vs)->gName i (.ref e) σ (upd H e (excO oe)) (kSetE i tb (D.del i)) else tr cls d D σ H
theorem m_kExcAs (i:Nat) (tb:TS) (tr:Value->Option Addr->TS) (cls:Value) (d:Option Addr) (D:Ends) (σ:St) (H:Hp) (b:Bool):kExcAs i tb tr cls d D σ H b=(if b=true then ∀ (e:Addr) (oe:Obj),H e=none->oe.cls=cls->oe.dict=d->(∃ vs,oe.data=.fields vs)->gName i (.ref e) σ (upd H e (excO oe)) (kSetE i tb (D.del i)) else tr cls d D σ H):=rfl
theorem m_tExcAs (K:W.Frag) (C:Value) (i:Nat) (tb:TS) (tr:Value->Option Addr->TS) (cls:Value) (d:Option Addr) (D:Ends) (σ:St) (H:Hp):tExcAs K C i tb tr cls d D σ H=optK (W.exmOne K cls C) (kExcAs i tb tr cls d D σ H):=by
 refine propext ⟨λ ⟨b,e,h⟩=>?_,λ h=>?_⟩
 ·rw [e];exact h
 ·obtain ⟨b,e,h⟩:=optK_ex h
  exact ⟨b,e,h⟩
theorem m_del (i:Nat) (nx:St->Hp->Prop) (rt:VK) (bk ct:St->Hp->Prop):Ends.del i ⟨nx,rt,bk,ct⟩=⟨kDel i nx,rt,kDel i bk,kDel i ct⟩:=rfl
theorem m_dictO_none (H:Hp):dictO H none=True:=rfl
def refC:Value->Option Addr
 | .ref C=>some C
 | _=>none
theorem refC_ref (C:Addr):refC (.ref C)=some C:=rfl
def clsV:V->Option Value
 | .ref C=>some (.ref C)
 | .ty n=>some (.type n)
 | _=>none
theorem clsV_ref (C:Addr):clsV (.ref C)=some (.ref C):=rfl
theorem clsV_ty (n:String):clsV (.ty n)=some (.type n):=rfl
def kE4 (H:Hp) (Q:VK):Bool->Prop:=λ b=>Q (.bl b) H
theorem m_kE4 (H:Hp) (Q:VK) (b:Bool):kE4 H Q b=Q (.bl b) H:=rfl
def kE3 (K:W.Frag) (C:Addr) (H:Hp) (Q:VK):Value->Prop:=λ u=>optK (W.kitOne K (.ref C) u) (kE4 H Q)
theorem m_kE3 (K:W.Frag) (C:Addr) (H:Hp) (Q:VK) (u:Value):kE3 K C H Q u=optK (W.kitOne K (.ref C) u) (kE4 H Q):=rfl
def kE2 (K:W.Frag) (oe:Obj) (D:V) (H:Hp) (Q:VK):Addr->Prop:=λ C=>dictO H oe.dict/\(∃ vs,oe.data=.fields vs)/\ECls K C/\optK (clsV D) (kE3 K C H Q)
theorem m_kE2 (K:W.Frag) (oe:Obj) (D:V) (H:Hp) (Q:VK) (C:Addr):kE2 K oe D H Q C=(dictO H oe.dict/\(∃ vs,oe.data=.fields vs)/\ECls K C/\optK (clsV D) (kE3 K C H Q)):=rfl
def kE1 (K:W.Frag) (D:V) (H:Hp) (Q:VK):HO->Prop:=λ o=>match o with
 | .frz oe (.ext _)=>optK (refC oe.cls) (kE2 K oe D H Q)
 | _=>False
theorem m_kE1 (K:W.Frag) (D:V) (H:Hp) (Q:VK) (oe:Obj):kE1 K D H Q (excO oe)=optK (refC oe.cls) (kE2 K oe D H Q):=rfl
def qIsE (K:W.Frag) (xs:List V) (H:Hp) (Q:VK):Prop:=match xs with
 | [.ref e,D]=>optK (H e) (kE1 K D H Q)
 | _=>False
theorem m_qIsE (K:W.Frag) (e:Addr) (D:V) (H:Hp) (Q:VK):qIsE K [.ref e,D] H Q=optK (H e) (kE1 K D H Q):=rfl
theorem call_qIsE {X:Cx}:CallR X (.builtin "isinstance") (qIsE X.K):=by
 refine call_isiE.mono λ xs H Q h=>?_
 unfold qIsE at h
 split at h
 ·rename_i e D
  obtain ⟨o,h1,h⟩:=optK_ex h
  unfold kE1 at h
  split at h
  ·rename_i oe φ
   obtain ⟨C,h2,h⟩:=optK_ex h
   obtain ⟨h3,h4,h5,h⟩:=h
   obtain ⟨u,h6,h⟩:=optK_ex h
   obtain ⟨b,h7,h⟩:=optK_ex h
   have hc:oe.cls=.ref C:=by
    cases q:oe.cls with
    | ref C'=>rw [q] at h2;cases h2;rfl
    | _=>rw [q] at h2;cases h2
   refine ⟨e,oe,C,D,b,rfl,⟨_,h1⟩,hc,h3,h4,h5,⟨u,?_,h7⟩,h⟩
   cases D with
   | ref a=>cases h6;rfl
   | ty n=>cases h6;rfl
   | _=>cases h6
  ·exact h.elim
 ·exact h.elim
def kC3 (D:Addr) (ys:List V) (N:List V->Hp->Prop):VK:=λ y H=>H D=some (.lst ys)/\ys.length < sizeLine/\N (ys++[y]) (upd H D (.lst (ys++[y])))
def kC2 (te:TE) (σ2:St) (D:Addr) (ys:List V) (N:List V->Hp->Prop):Bool->Hp->Prop:=λ b H=>if b=true then te σ2 H (kC3 D ys N) else N ys H
def kC1 (k:Nat) (tt:TT) (te:TE) (σ:St) (D:Addr) (ys:List V) (N:List V->Hp->Prop):St->Hp->Prop:=λ σ2 H=>(∃ vs:St,vs.length=k/\σ2=vs++σ)/\tt σ2 H (kC2 te σ2 D ys N)
theorem m_tYes (σ:St) (H:Hp) (Q:Bool->Hp->Prop):tYes σ H Q=Q true H:=rfl
def kComp (k:Nat) (g:TG) (tt:TT) (te:TE) (σ:St) (Q:VK):It->Hp->Prop:=λ J H1=>∀ D,H1 D=none->∃ W:Nat->Nat->List V->Hp->Prop,(∃ m,W 0 m [] (upd H1 D (.lst [])))/\∀ i m ys H,W i m ys H →
 (J.stop i H/\Q (.ref D) H)\/(J.go i H/\∃ N:List V->Hp->Prop,(∀ ys' H',N ys' H'->∃ m',m' < m/\W (i+1) m' ys' H') /\
  ∀ x H',J.yld i H x H'->g x (List.replicate k none++σ) H' (kC1 k tt te σ D ys N))
theorem m_tComp (k:Nat) (wi:TI) (g:TG) (tt:TT) (te:TE) (σ:St) (H:Hp) (Q:VK):tComp k wi g tt te σ H Q=wi σ H (kComp k g tt te σ Q):=rfl
def kSetC (i:Nat) (σ:St) (nx:St->Hp->Prop):VK:=λ x H=>gName i x σ H nx
theorem m_kSetC (i:Nat) (σ:St) (nx:St->Hp->Prop) (x:V) (H:Hp):kSetC i σ nx x H=gName i x σ H nx:=rfl
theorem m_tSetC (i:Nat) (te:TE) (nx:St->Hp->Prop) (rt:VK) (bk ct:St->Hp->Prop) (σ:St) (H:Hp):tSetC i te ⟨nx,rt,bk,ct⟩ σ H=te σ H (kSetC i σ nx):=rfl
section
variable {k:Nat}{g:TG}{tt:TT}{te:TE}{σ:St}{Q:VK}{H:Hp}{K:PySem.W.Frag}
end
def allSome {α:Type}:List (Option α)->Option (List α)
 | []=>some []
 | o::r=>o.bind λ x=>(allSome r).map λ xs=>x::xs
def datO (f:V->Option PyData):HO->Option PyData
 | .lst xs=>(allSome (xs.map f)).map .list
 | .tup xs=>(allSome (xs.map f)).map .tuple
 | _=>none
def datF (H:Hp) (f:V->Option PyData):V->Option PyData
 | .non=>some .none
 | .bl b=>some (.bool b)
 | .int i=>some (.int i)
 | .str z=>if PyData.strOk z=true then some (.str z) else none
 | .ref p=>(H p).bind (datO f)
 | _=>none
def datV (H:Hp):Nat->V->Option PyData
 | 0,_=>none
 | n+1,x=>datF H (datV H n) x
def noD:V->Option PyData:=λ _=>none
theorem m_datV (H:Hp) (x:V):datV H 6 x=datF H (datF H (datF H (datF H (datF H (datF H noD))))) x:=rfl
theorem m_datV_str (H:Hp) (n:Nat) (z:Str):datV H (n+1) (.str z)=if PyData.strOk z=true then some (.str z) else none:=rfl
theorem m_datV_ref (H:Hp) (n:Nat) (p:Addr):datV H (n+1) (.ref p)=(H p).bind (datO (datV H n)):=rfl
theorem m_datF_bl (H:Hp) (f:V->Option PyData) (b:Bool):datF H f (.bl b)=some (.bool b):=rfl
theorem m_datF_str (H:Hp) (f:V->Option PyData) (z:Str):datF H f (.str z)=if PyData.strOk z=true then some (.str z) else none:=rfl
theorem m_datF_ref (H:Hp) (f:V->Option PyData) (p:Addr):datF H f (.ref p)=(H p).bind (datO f):=rfl
theorem m_datO_lst (f:V->Option PyData) (xs:List V):datO f (.lst xs)=(allSome (xs.map f)).map .list:=rfl
theorem m_datO_tup (f:V->Option PyData) (xs:List V):datO f (.tup xs)=(allSome (xs.map f)).map .tuple:=rfl
theorem m_allSome_nil {α:Type}:allSome ([]:List (Option α))=some []:=rfl
theorem m_allSome_cons {α:Type}(x:α) (r:List (Option α)):allSome (some x::r)=(allSome r).map λ xs=>x::xs:=rfl
theorem allSome_ints (H:Hp) (f:V->Option PyData):∀ ns:List Int,allSome ((ns.map V.int).map (datF H f))=some (ns.map PyData.int)
 | []=>rfl
 | i::r=>by
  show (allSome ((r.map V.int).map (datF H f))).map _=_
  rw [allSome_ints H f r];rfl
theorem datVs_ok {K:W.Frag}{H:Hp}{n:Nat}(ih:∀ x d,datV H n x=some d->DatV K H x d/\d.canLay0=true/\d.depth<=n):∀ (xs:List V) (ds:List PyData),allSome (xs.map (datV H n))=some ds->DatVs K H xs ds/\PyData.canLayAll0 ds=true/\PyData.depthAll ds<=n
 | [],ds,h=>by cases h;exact ⟨.nil,rfl,Nat.zero_le _⟩
 | x::xs,ds,h=>by
  have h':(datV H n x).bind (λ d=>(allSome (xs.map (datV H n))).map λ ds=>d::ds)=some ds:=h
  cases e:datV H n x with
  | none=>rw [e] at h';cases h'
  | some d=>
   rw [e] at h'
   have h2:(allSome (xs.map (datV H n))).map (λ ds=>d::ds)=some ds:=h'
   cases e2:allSome (xs.map (datV H n)) with
   | none=>rw [e2] at h2;cases h2
   | some es=>
    rw [e2] at h2
    cases h2
    obtain ⟨a,b,c⟩:=ih x d e
    obtain ⟨a',b',c'⟩:=datVs_ok ih xs es e2
    exact ⟨.cons a a',by simp [PyData.canLayAll0,b,b'],by simp only [PyData.depthAll];omega⟩
theorem datV_ok {K:W.Frag}{H:Hp}:∀ (n:Nat) (x:V) (d:PyData),datV H n x=some d->DatV K H x d/\d.canLay0=true/\d.depth<=n
 | 0,x,d,h=>by cases h
 | n+1,x,d,h=>by
  cases x with
  | non=>cases h;exact ⟨.non,rfl,Nat.zero_le _⟩
  | bl b=>cases h;exact ⟨.bl b,rfl,Nat.zero_le _⟩
  | int i=>cases h;exact ⟨.int i,rfl,Nat.zero_le _⟩
  | str z=>
   rw [m_datV_str] at h
   split at h
   ·rename_i hz;cases h;exact ⟨.str z,by simpa [PyData.canLay0] using hz,Nat.zero_le _⟩
   ·cases h
  | ref p=>
   rw [m_datV_ref] at h
   cases e:H p with
   | none=>rw [e] at h;cases h
   | some o=>
    rw [e] at h
    have h':datO (datV H n) o=some d:=h
    cases o with
    | lst xs=>
     rw [m_datO_lst] at h'
     cases e2:allSome (xs.map (datV H n)) with
     | none=>rw [e2] at h';cases h'
     | some ds=>
      rw [e2] at h';cases h'
      obtain ⟨a,b,c⟩:=datVs_ok (K:=K) (datV_ok n) xs ds e2
      exact ⟨.lst (SqL.of e) a,by simpa [PyData.canLay0] using b,by simp only [PyData.depth];omega⟩
    | tup xs=>
     rw [m_datO_tup] at h'
     cases e2:allSome (xs.map (datV H n)) with
     | none=>rw [e2] at h';cases h'
     | some ds=>
      rw [e2] at h';cases h'
      obtain ⟨a,b,c⟩:=datVs_ok (K:=K) (datV_ok n) xs ds e2
      exact ⟨.tup (SqT.of e) a,by simpa [PyData.canLay0] using b,by simp only [PyData.depth];omega⟩
    | _=>cases h'
  | _=>cases h
theorem datV_shaped {K:W.Frag}{H:Hp}{n:Nat}{x:V}{d:PyData}(hn:n<=64) (h:datV H n x=some d):DatV K H x d/\SeqAt.shaped d=true:=by
 obtain ⟨a,b,c⟩:=datV_ok (K:=K) n x d h
 refine ⟨a,?_⟩
 unfold SeqAt.shaped
 rw [b,decide_eq_true (show d.depth<=64 by omega)]
 rfl
def kEq2 (neg:Bool) (H:Hp) (Q:VK) (d:PyData):PyData->Prop:=λ e=>Q (.bl (if neg=true then !PyData.eqv d e else PyData.eqv d e)) H
theorem m_kEq2_t (H:Hp) (Q:VK) (d e:PyData):kEq2 true H Q d e=Q (.bl (!PyData.eqv d e)) H:=rfl
theorem m_kEq2_f (H:Hp) (Q:VK) (d e:PyData):kEq2 false H Q d e=Q (.bl (PyData.eqv d e)) H:=rfl
def kEq1 (neg:Bool) (y:V) (H:Hp) (Q:VK):PyData->Prop:=λ d=>optK (datV H 6 y) (kEq2 neg H Q d)
theorem m_kEq1 (neg:Bool) (y:V) (H:Hp) (Q:VK) (d:PyData):kEq1 neg y H Q d=optK (datV H 6 y) (kEq2 neg H Q d):=rfl
def qEq (neg:Bool):R2:=λ x y H Q=>if scal x y=true then Q (.bl (if neg=true then !decide (x=y) else decide (x=y))) H else optK (datV H 6 x) (kEq1 neg y H Q)
theorem m_qEq_refr (neg:Bool) (p:Addr) (x:V) (H:Hp) (Q:VK):qEq neg x (.ref p) H Q=optK (datV H 6 x) (kEq1 neg (.ref p) H Q):=by
 show (if scal x (.ref p)=true then _ else _)=_
 rw [if_neg (by cases x<;>exact Bool.false_ne_true)]
theorem m_qEq_int_int (i:Int) (j:Int) (H:Hp) (Q:VK):qEq false (V.int i) (V.int j) H Q=Q (.bl (decide (i=j))) H:=by
 have e:decide (((V.int i):V)=(V.int j))=decide (i=j):=by simp
 show Q (.bl (if false=true then !decide ((V.int i)=(V.int j)) else decide ((V.int i)=(V.int j)))) H=_
 rw [e];rfl
theorem m_qNe_int_int (i:Int) (j:Int) (H:Hp) (Q:VK):qEq true (V.int i) (V.int j) H Q=Q (.bl (!decide (i=j))) H:=by
 have e:decide (((V.int i):V)=(V.int j))=decide (i=j):=by simp
 show Q (.bl (if true=true then !decide ((V.int i)=(V.int j)) else decide ((V.int i)=(V.int j)))) H=_
 rw [e];rfl
theorem m_qEq_str_str (i:Str) (j:Str) (H:Hp) (Q:VK):qEq false (V.str i) (V.str j) H Q=Q (.bl (decide (i=j))) H:=by
 have e:decide (((V.str i):V)=(V.str j))=decide (i=j):=by simp
 show Q (.bl (if false=true then !decide ((V.str i)=(V.str j)) else decide ((V.str i)=(V.str j)))) H=_
 rw [e];rfl
section
variable {X:Cx}
theorem op_qEq (hu:X.A.units+64 < cLine):OpR X (compareOp .Eq) (qEq false):=by
 refine (op_eq.or (op_eqD hu)).mono λ x y H Q h=>?_
 unfold qEq at h
 split at h
 ·rename_i hs;exact .inl ⟨hs,h⟩
 obtain ⟨d,e1,h⟩:=optK_ex h
 obtain ⟨e,e2,h⟩:=optK_ex h
 obtain ⟨a,b⟩:=datV_shaped (K:=X.K) (by decide) e1
 obtain ⟨a',b'⟩:=datV_shaped (K:=X.K) (by decide) e2
 exact .inr ⟨d,e,a,a',b,b',h⟩
theorem op_qNe (hu:X.A.units+64 < cLine):OpR X (compareOp .NotEq) (qEq true):=by
 refine (op_ne.or (op_neD hu)).mono λ x y H Q h=>?_
 unfold qEq at h
 split at h
 ·rename_i hs;exact .inl ⟨hs,h⟩
 obtain ⟨d,e1,h⟩:=optK_ex h
 obtain ⟨e,e2,h⟩:=optK_ex h
 obtain ⟨a,b⟩:=datV_shaped (K:=X.K) (by decide) e1
 obtain ⟨a',b'⟩:=datV_shaped (K:=X.K) (by decide) e2
 exact .inr ⟨d,e,a,a',b,b',h⟩
end
theorem eqv_int (i j:Int):PyData.eqv (.int i) (.int j)=decide (i=j):=Bool.beq_eq_decide_eq i j
theorem eqv_bool (i j:Bool):PyData.eqv (.bool i) (.bool j)=decide (i=j):=by cases i<;>cases j<;>rfl
theorem eqv_str (i j:Str):PyData.eqv (.str i) (.str j)=(i == j):=rfl
theorem eqv_tuple (xs ys:List PyData):PyData.eqv (.tuple xs) (.tuple ys)=PyData.eqvAll xs ys:=by simp only [PyData.eqv]
theorem eqv_list (xs ys:List PyData):PyData.eqv (.list xs) (.list ys)=PyData.eqvAll xs ys:=by simp only [PyData.eqv]
theorem eqvAll_nil:PyData.eqvAll [] []=true:=by simp only [PyData.eqvAll]
theorem eqvAll_cons (x y:PyData) (xs ys:List PyData):PyData.eqvAll (x::xs) (y::ys)=(PyData.eqv x y && PyData.eqvAll xs ys):=by simp only [PyData.eqvAll]
theorem eqvAll_l (x:PyData) (xs:List PyData):PyData.eqvAll (x::xs) []=false:=by simp only [PyData.eqvAll]
theorem eqvAll_r (x:PyData) (xs:List PyData):PyData.eqvAll [] (x::xs)=false:=by simp only [PyData.eqvAll]
theorem eqvAll_ints:∀ ns ms:List Int,PyData.eqvAll (ns.map PyData.int) (ms.map PyData.int)=decide (ns=ms)
 | [],[]=>by rw [List.map_nil,eqvAll_nil];rfl
 | [],_::_=>by rw [List.map_nil,List.map_cons,eqvAll_r];rfl
 | _::_,[]=>by rw [List.map_nil,List.map_cons,eqvAll_l];rfl
 | i::r,j::t=>by
  rw [List.map_cons,List.map_cons,eqvAll_cons,eqv_int,eqvAll_ints r t]
  by_cases h:i=j<;>by_cases h2:r=t<;>simp [h,h2]
end L2
namespace L2
open PySem PySem.Spec PyProof.Rows
theorem CDiv_eq (i j:Int):CDiv i j=(0 < j/\j < 1073741824):=rfl
theorem CMul_l (i j:Int) (h:-18446744073709551616 < i) (h':i < 18446744073709551616):CMul i j=True:=eq_true (.inl ⟨by omega,by omega⟩)
theorem CPow_10 (j:Int):CPow 10 j=(0<=j/\j<=1000000):=propext ⟨λ h=>⟨h.1,h.2.1⟩,λ h=>⟨h.1,h.2,by decide⟩⟩
theorem lenLe (n:Nat) (h:n<=1000):(n<=sizeLine)=True:=eq_true (Nat.le_of_lt (small1000 h))
theorem lenLt (n:Nat) (h:n<=1000):(n < sizeLine)=True:=eq_true (small1000 h)
theorem Ext.of {H H':Hp}(h:∀ a,(H a).isSome=true->H' a=H a):Ext H H':=⟨h,λ K a xs q=>by
 have s:Same H H':=λ b o e=>(h b (by rw [e];rfl)).trans e
 exact s.seq q⟩
theorem Ext.same {H H':Hp}(h:Ext H H'):Same H H':=λ b o e=>(h.1 b (by rw [e];rfl)).trans e
theorem Same.ext {H H':Hp}(h:Same H H'):Ext H H':=Ext.of λ a q=>by
 cases e:H a with
 | none=>rw [e] at q;cases q
 | some o=>exact h a o e
theorem Ext.refl (H:Hp):Ext H H:=(Same.refl H).ext
theorem Ext.trans {H H1 H2:Hp}(a:Ext H H1) (b:Ext H1 H2):Ext H H2:=(a.same.trans b.same).ext
theorem Ext.new {H:Hp}{p:Addr}{o:HO}(h:H p=none):Ext H (upd H p o):=(same_upd h).ext
theorem Ext.put {H H1:Hp}{p:Addr}{o:HO}(a:Ext H H1) (h:H p=none):Ext H (upd H1 p o):=Same.ext λ b u e=>by
 rw [upd_ne (ne_of_none e h)];exact a.same b u e
theorem Ext.free {H H1:Hp}{p:Addr}(a:Ext H H1) (h:H1 p=none):H p=none:=a.same.free h
theorem Ext.at {H H1:Hp}{p:Addr}{o:HO}(a:Ext H H1) (h:H p=some o):H1 p=some o:=a.same _ _ h
theorem optK_at {xs:List V}{i:Int}{k:V->Prop}(h0:0<=i) (h1:i < xs.length) (h:∀ v∈xs,k v):optK (atI xs i) k:=by
 obtain ⟨v,e,m⟩:=atI_lt xs i h0 h1
 rw [e];exact h v m
theorem cx_K (CX:CXT) (P:Program) (w:World) (K:W.Frag) (mg:Str->Option Value) (base:Heap) (N:List Str) (qual:Str) (scope:Scope) (f:Addr) (cd:Value) (A:Around) (outer:List Env) (s:Shared) (H:Hp) (E:XK):(cxOf CX P w K mg base N qual scope f cd A outer s H E).K=K:=rfl
theorem call_qIsE' {X:Cx}{K:W.Frag}(h:X.K=K):CallR X (.builtin "isinstance") (qIsE K):=h ▸ call_qIsE
theorem map_toNat_inj:∀ {a b:List Char},a.map Char.toNat=b.map Char.toNat->a=b
 | [],[],_=>rfl
 | [],_::_,h=>by cases h
 | _::_,[],h=>by cases h
 | x::r,y::q,h=>by
  simp only [List.map_cons,List.cons.injEq] at h
  have e:x=y:=by
   have z:x.val.toNat=y.val.toNat:=h.1
   exact Char.ext (UInt32.toNat_inj.mp z)
  rw [e,map_toNat_inj h.2]
theorem ofString_inj (a b:String):(Str.ofString a=Str.ofString b)=(a=b):=by
 refine propext ⟨λ h=>?_,λ h=>by rw [h]⟩
 rw [Str.ofString_eq_toList,Str.ofString_eq_toList] at h
 have e:(a.toList.map Char.toNat).toArray=(b.toList.map Char.toNat).toArray:=congrArg Str.cps h
 have e2:=map_toNat_inj (congrArg Array.toList e)
 exact String.ext e2
theorem cls_some {K:W.Frag}{C:Addr}(h:W.hasDictIn K C=true):(W.clsIn K C).isSome=true:=by
 obtain ⟨cd,hc,_⟩:=W.any_some h
 rw [hc];rfl
theorem kit_yes {K:W.Frag}{A C:Addr}(h1:W.hasDictIn K C=true) (h2:W.typeIn K (.ref C)=some (.type "type")) (h3:W.subIn K (.ref A) (.ref C)=some true):W.kitOne K (.ref A) (.ref C)=some true:=by
 unfold W.kitOne
 split
 ·rfl
 ·show (if _ then _ else _)=_
  rw [cls_some h1,h2,if_pos (by decide),h3]
theorem kit_ty {K:W.Frag}{A:Addr}{n:String}{b:Bool}(h1:W.kitMeta n=true) (h3:W.subIn K (.ref A) (.type n)=some b):W.kitOne K (.ref A) (.type n)=some b:=by
 unfold W.kitOne
 rw [if_neg (by intro z;have e:=beq_iff_eq.mp z;cases e)]
 show (if _ then _ else _)=_
 rw [if_pos h1,h3]
def isW (H:Hp):V->Option Bool
 | .int _=>some true
 | .bl _=>some false
 | .non=>some false
 | .str _=>some false
 | .ref p=>((H p).bind tyO).map λ _=>false
 | _=>none
theorem isW_int' (H:Hp) (i:Int):isW H (.int i)=some true:=rfl
theorem isW_ref' (H:Hp) (p:Addr):isW H (.ref p)=((H p).bind tyO).map λ _=>false:=rfl
theorem isW_obj {H:Hp}{p:Addr}{b:Bool}(h:isW H (.ref p)=some b):b=false/\∃ o,H p=some o/\(tyO o=some "list" \/ tyO o=some "tuple" \/ tyO o=some "dict"):=by
 rw [isW_ref'] at h
 cases e:H p with
 | none=>rw [e] at h;cases h
 | some o=>
  rw [e] at h
  have h':(tyO o).map (λ _=>false)=some b:=h
  cases e2:tyO o with
  | none=>rw [e2] at h';cases h'
  | some t=>
   rw [e2] at h';cases h'
   refine ⟨rfl,o,rfl,?_⟩
   cases o with
   | lst xs=>exact .inl rfl
   | tup xs=>exact .inr (.inl rfl)
   | dK xs=>exact .inr (.inr rfl)
   | dT xs=>exact .inr (.inr rfl)
   | frz ob u=>cases u with
    | lst xs=>exact .inl rfl
    | _=>cases e2
   | _=>cases e2
end L2
namespace L2
open PySem PySem.Spec PyProof.Rows
theorem optK_mono {α:Type}{o:Option α}{k k':α->Prop}(m:∀ x,k x->k' x) (h:optK o k):optK o k':=by
 obtain ⟨x,e,q⟩:=optK_ex h
 rw [e];exact m x q
theorem ints_inj:∀ {ns ms:List Int},ns.map V.int=ms.map V.int->ns=ms
 | [],[],_=>rfl
 | [],_::_,h=>by cases h
 | _::_,[],h=>by cases h
 | i::r,j::t,h=>by
  simp only [List.map_cons,List.cons.injEq,V.int.injEq] at h
  rw [h.1,ints_inj h.2]
def kInts (F:List Int->Prop):List V->Prop:=λ xs=>∃ ns,xs=ns.map V.int/\F ns
theorem m_kInts (F:List Int->Prop) (ns:List Int):kInts F (ns.map V.int)=F ns:=propext ⟨λ ⟨ms,e,h⟩=>by rw [ints_inj e];exact h,λ h=>⟨ns,rfl,h⟩⟩
theorem m_kInts_1 (F:List Int->Prop) (a:Int):kInts F [.int a]=F [a]:=m_kInts F [a]
theorem CMulB_of (i j:Int) (h:i.natAbs < 2 ^ 256) (h':j.natAbs < 2 ^ 256):CMulB i j=True:=eq_true ⟨h,h'⟩
end L2
namespace L2
open PySem PySem.Spec PyProof.Rows
def newK (o:HO) (H:Hp) (Q:VK):Prop:=∀ (p:Addr) (H':Hp),H p=none->Ext H H'->H' p=some o->Q (.ref p) H'
theorem newK.to {o:HO}{H:Hp}{Q:VK}(h:newK o H Q):∀ p,H p=none->Q (.ref p) (upd H p o):=λ p hp=>h p _ hp (Ext.new hp) upd_same
def kQT (Q:VK):List V->Hp->Prop:=λ xs H=>xs.length<=sizeLine/\newK (.tup xs) H Q
theorem m_kQT (Q:VK) (xs:List V) (H:Hp):kQT Q xs H=(xs.length<=sizeLine/\newK (.tup xs) H Q):=rfl
def kQL (Q:VK):List V->Hp->Prop:=λ xs H=>xs.length<=sizeLine/\newK (.lst xs) H Q
theorem m_kQL (Q:VK) (xs:List V) (H:Hp):kQL Q xs H=(xs.length<=sizeLine/\newK (.lst xs) H Q):=rfl
def qTup (t:TA):TE:=λ σ H Q=>t σ H (kQT Q)
theorem m_qTup (t:TA) (σ:St) (H:Hp) (Q:VK):qTup t σ H Q=t σ H (kQT Q):=rfl
def qLst (t:TA):TE:=λ σ H Q=>t σ H (kQL Q)
theorem m_qLst (t:TA) (σ:St) (H:Hp) (Q:VK):qLst t σ H Q=t σ H (kQL Q):=rfl
section
variable {X:Cx}{es:List Expr}{t:TA}{pos:Pos}
theorem pe_qTup {x1}(h:PA X es t):PE X (.Tuple es x1 pos) (qTup t):=by
 intro pins s σ H Q I hq
 refine wpAny_Tuple_spliced (thn (h pos pins s σ H _ I hq) λ us s1 ⟨xs,H1,I1,r,z,q⟩=>⟨by rw [←r.length];exact z,?_⟩)
 have hf:H1 s1.heap.objs.size=none:=I1.hok.fresh (Nat.le_refl _)
 refine ⟨.ref s1.heap.objs.size,upd H1 s1.heap.objs.size (.tup xs),I1.laid (t':=s1.toks) (λ b u e=>Heap.get?_push_of_some _ e) (Nat.le_refl _) ?_,rfl,q.to _ hf⟩
 exact ⟨z,us,r,⟨_,Heap.get?_push_size _ rfl,rfl,_,rfl⟩⟩
theorem pe_qLst (h:PA X es t):PE X (.List es pos) (qLst t):=by
 intro pins s σ H Q I hq
 refine wpAny_List_spliced (thn (h pos pins s σ H _ I hq) λ us s1 ⟨xs,H1,I1,r,z,q⟩=>⟨by rw [←r.length];exact z,?_⟩)
 have hf:H1 s1.heap.objs.size=none:=I1.hok.fresh (Nat.le_refl _)
 refine ⟨.ref s1.heap.objs.size,upd H1 s1.heap.objs.size (.lst xs),I1.laid (t':=s1.toks) (λ b u e=>Heap.get?_push_of_some _ e) (Nat.le_refl _) ?_,rfl,q.to _ hf⟩
 exact ⟨z,us,0,r,Heap.get?_push_size _ rfl⟩
end
def kN (f:List V->HO) (H:Hp) (Q:VK):List V->Prop:=λ ys=>newK (f ys) H Q
theorem m_kN (f:List V->HO) (H:Hp) (Q:VK) (ys:List V):kN f H Q ys=newK (f ys) H Q:=rfl
def nList (xs:List V) (H:Hp) (Q:VK):Prop:=match xs with
 | [.ref p]=>optK (itemsAt H p) (kN .lst H Q)
 | _=>False
theorem m_nList (p:Addr) (H:Hp) (Q:VK):nList [.ref p] H Q=optK (itemsAt H p) (kN .lst H Q):=rfl
theorem call_nList {X:Cx}:CallR X (.type "list") nList:=call_qList.mono λ xs H Q h=>by
 unfold nList at h
 split at h
 ·exact optK_mono (λ _ q=>q.to) h
 ·exact h.elim
def kNC2 (xs:List V) (H:Hp) (Q:VK):List V->Prop:=λ ys=>xs.length+ys.length<=sizeLine/\newK (.lst (xs++ys)) H Q
def kNC1 (b:Addr) (H:Hp) (Q:VK):List V->Prop:=λ xs=>optK (lstAt H b) (kNC2 xs H Q)
def nCat:R2:=λ x y H Q=>match x,y with
 | .ref l,.ref b=>optK (lstAt H l) (kNC1 b H Q)
 | _,_=>False
theorem PE.mono {X:Cx}{e:Expr}{t t':TE}(h:PE X e t) (m:∀ σ H Q,t' σ H Q->t σ H Q):PE X e t':=λ pins s σ H Q I q=>h pins s σ H Q I (m _ _ _ q)
def nDNew:TE:=λ _ H Q=>newK (.dK []) H Q
theorem m_nDNew (σ:St) (H:Hp) (Q:VK):nDNew σ H Q=newK (.dK []) H Q:=rfl
theorem pe_nDNew {X:Cx}{pos:Pos}:PE X (.Dict [] [] pos) nDNew:=pe_dnewK.mono λ _ _ _ h=>h.to
end L2
namespace L2
open PySem PySem.Spec PyProof.Rows
section
variable {prog:Program}{w:World}{A:Around}{E:Value->Shared->Prop}{s:Shared}
end
section
variable {X:Cx}{pos:Pos}
end
end L2
namespace L2
open PySem PySem.Spec PyProof.Rows
def Itv (K:W.Frag) (a:Addr) (xs:List V):It:=
 ⟨λ i H=>SqL K H a xs/\i < xs.length,λ i H x H'=>H'=H/\xs[xs.length - 1 - i]? = some x,λ i _=>i=xs.length⟩
theorem turn_rev {P:Program}{w:World}{K:W.Frag}{tg:Expr}(a it:Addr) (xs:List V):Turn P w K tg (Itv K a xs) [it] it (λ i h=>i<=xs.length/\h.IsRevIter it a ((xs.length:Int) - 1 - (i:Int))) where
 mem:=by simp
 obj:=λ i h st b hb=>by
  have e:b=it:=by simpa using hb
  subst e
  obtain ⟨_,o,e,c,d⟩:=st
  exact ⟨o,e,λ v z=>by rw [d] at z;cases z⟩
 keep:=λ i h h' st k=>⟨st.1,st.2.at λ o e=>k it (by simp) o e⟩
 item:=by
  intro X hP hw hK hc i pins s σ H E I hf st hg
  subst hP hw hK
  obtain ⟨hq,hlt⟩:=hg
  obtain ⟨its,rv,p,hz⟩:=I.list hq
  have hx:xs[xs.length - 1 - i]? = some (xs[xs.length - 1 - i]'(by omega)):=List.getElem?_eq_getElem (by omega)
  obtain ⟨u,hu,ru⟩:=rv.get hx
  obtain ⟨f0,f1,f2,f3,f4,f5⟩:=hf it (by simp)
  have st1:=st.2
  rw [show ((xs.length:Int) - 1 - (i:Int))=((xs.length - 1 - i:Nat):Int) by omega] at st1
  refine wpAny_pyNext_rev_item st1 p.isList (x:=u) (by simpa using hu) λ h' st' sb=>?_
  have I1:Inv X pins σ H { s with heap:=h' }:=I.turned (t':=s.toks) (λ b o hb e=>(sb.2 b hb).trans e) f0 f1 f3 f4 f5
  obtain ⟨o,e,c,d⟩:=id st'
  rw [show (((xs.length - 1 - i:Nat):Int) - 1)=(xs.length:Int) - 1 - ((i+1:Nat):Int) by omega] at st'
  exact ⟨u,rfl,go_of (s:={ s with heap:=h' }) e c d (by decide) ⟨_,H,I1,ru,⟨rfl,hx⟩,⟨hlt,st'⟩,λ b hb=>(hf b hb).1⟩⟩
 done:=by
  intro X hP hw hK hc i pins s σ H E I hf st hg
  subst hP hw hK
  have e:i=xs.length:=hg
  subst e
  obtain ⟨f0,f1,f2,f3,f4,f5⟩:=hf it (by simp)
  have st1:=st.2
  rw [show ((xs.length:Int) - 1 - (xs.length:Int))=-1 by omega] at st1
  exact wpAny_pyNext_rev_end (I.ok.hd hc) st1 λ h' eb=>⟨rfl,I.turned (t':=s.toks) (λ b o hb e=>eb b o hb e) f0 f1 f3 f4 f5⟩
 self:=λ _ _ _ _ _ st h=>wpAny_pyIter_revIter st.2 h
def kRvJ (K:W.Frag) (a:Addr) (H:Hp) (R:It->Hp->Prop):List V->Prop:=λ xs=>R (Itv K a xs) H
theorem m_kRvJ (K:W.Frag) (a:Addr) (H:Hp) (R:It->Hp->Prop) (xs:List V):kRvJ K a H R xs=R (Itv K a xs) H:=rfl
def kRvI (K:W.Frag) (R:It->Hp->Prop):List V->Hp->Prop:=λ vs H=>match vs with
 | [.ref a]=>optK (lstAt H a) (kRvJ K a H R)
 | _=>False
theorem m_kRvI (K:W.Frag) (R:It->Hp->Prop) (a:Addr) (H:Hp):kRvI K R [.ref a] H=optK (lstAt H a) (kRvJ K a H R):=rfl
def iRev (K:W.Frag) (ta:TA):TI:=λ σ H R=>ta σ H (kRvI K R)
theorem m_iRev (K:W.Frag) (ta:TA) (σ:St) (H:Hp) (R:It->Hp->Prop):iRev K ta σ H R=ta σ H (kRvI K R):=rfl
section
variable {X:Cx}{tg:Expr}
theorem pi_rev {a:Expr}{ta:TA}{p pos:Pos}(hg:Gl X "reversed") (hm:X.mg "reversed"=none) (ha:PA X [a] ta) (hs:starEach [a] X.env=[(false,eval a X.env)]:=by rfl):PI X tg (.Call (.Name "reversed" p) [a] [] pos) (iRev X.K ta):=by
 intro pins s σ H R I h
 refine Call_ (ld_blt I hg hm (show bootBuiltins "reversed"=some (.type "reversed") by decide +kernel) (PyProof.Rows.callWith_type1 (thn (ha pos pins s σ H _ I h) λ us s1 ⟨vs,H1,I1,r1,q1⟩=>?_) hs rfl))
 unfold kRvI at q1
 split at q1
 ·rename_i b
  obtain ⟨xs,e,q⟩:=optK_ex q1
  cases r1 with
  | cons r rr=>
   cases rr
   cases r
   obtain ⟨its,rv,pl,hz⟩:=I1.list (SqL.of (lst_of e))
   refine call_reversed_list pl.isList ?_
   have hsz:(its.toArray.size:Int)=(xs.length:Int):=by rw [←rv.length.symm];simp
   have I2:Inv X pins σ H1 { s1 with heap:=s1.heap.push (revObj b ((its.toArray.size:Int) - 1)) }:=I1.kept (t':=s1.toks) λ b o e=>Heap.get?_push_of_some _ e
   have hit:(s1.heap.push (revObj b ((its.toArray.size:Int) - 1))).IsRevIter s1.heap.objs.size b ((xs.length:Int) - 1 - ((0:Nat):Int)):=⟨_,Heap.get?_push_size _ rfl,rfl,by rw [hsz];simp [revObj]⟩
   refine wpAny_pyIter_revIter hit ⟨s1.heap.objs.size,[s1.heap.objs.size],_,_,H1,rfl,I2,turn_rev b _ xs,⟨Nat.zero_le _,hit⟩,λ c hb=>?_,q⟩
   have e:c=s1.heap.objs.size:=by simpa using hb
   subst e
   exact I1.fpOk (Nat.le_refl _) (I1.hok.fresh (Nat.le_refl _))
 ·exact q1.elim
end
theorem for_rev {K:W.Frag}{a:Addr}{xs:List V}{g:TG}{tb:TS}{nx:St->Hp->Prop}{rt:VK}{bk ct:St->Hp->Prop}{σ:St}{H:Hp}(Pv:Nat->St->Hp->Prop) (h0:Pv 0 σ H) (hl:∀ i σ H,i<=xs.length->Pv i σ H->SqL K H a xs)
  (hs:∀ i x σ H,i < xs.length->xs[xs.length - 1 - i]? = some x->Pv i σ H->g x σ H (kBody tb ⟨Pv (i+1),rt,nx,Pv (i+1)⟩)) (hd:∀ σ H,Pv xs.length σ H->nx σ H):kFor g tb ⟨nx,rt,bk,ct⟩ σ (Itv K a xs) H:=by
 refine ⟨λ i m σ H=>m=xs.length - i/\i<=xs.length/\Pv i σ H,⟨xs.length,by simp,Nat.zero_le _,h0⟩,?_⟩
 rintro i m σ H ⟨rfl,hi,p⟩
 have q:=hl i σ H hi p
 by_cases hlt:i < xs.length
 ·refine .inr ⟨⟨q,hlt⟩,Pv (i+1),λ σ' H' p'=>⟨xs.length - (i+1),by omega,rfl,hlt,p'⟩,λ x H' y=>?_⟩
  obtain ⟨e,y⟩:=y
  subst e
  exact hs i x σ _ hlt y p
 ·have e:i=xs.length:=by omega
  subst e
  exact .inl ⟨rfl,hd σ H p⟩
end L2
namespace L2
open PySem PySem.Spec PyProof.Rows
theorem preSum_ints:∀ (n:Nat) (ns:List Int) (val:Nat->Int),(∀ i,val i=ns.getD i 0)->n<=ns.length->preSum val n=(ns.take n).sum
 | 0,ns,val,h,hl=>by simp [preSum]
 | n+1,ns,val,h,hl=>by
  have ih:=preSum_ints n ns val h (by omega)
  have e:ns.take (n+1)=ns.take n++[ns.getD n 0]:=by
   rw [List.take_succ,List.getElem?_eq_getElem (by omega)]
   simp [List.getD,List.getElem?_eq_getElem (show n < ns.length by omega)]
  rw [preSum,ih,e,List.sum_append,h]
  simp
def kSumI (H:Hp) (Q:VK):List Int->Prop:=λ ns=>Q (.int ns.sum) H
theorem m_kSumI (H:Hp) (Q:VK) (ns:List Int):kSumI H Q ns=Q (.int ns.sum) H:=rfl
def qSum:List V->Hp->VK->Prop:=λ vs H Q=>match vs with
 | [.ref p]=>optK (lstAt H p) (kInts (kSumI H Q))
 | _=>False
theorem m_qSum (p:Addr) (H:Hp) (Q:VK):qSum [.ref p] H Q=optK (lstAt H p) (kInts (kSumI H Q)):=rfl
def kBls (F:List Bool->Prop):List V->Prop:=λ xs=>∃ bs,xs=bs.map V.bl/\F bs
theorem bls_inj:∀ {ns ms:List Bool},ns.map V.bl=ms.map V.bl->ns=ms
 | [],[],_=>rfl
 | [],_::_,h=>by cases h
 | _::_,[],h=>by cases h
 | i::r,j::t,h=>by
  simp only [List.map_cons,List.cons.injEq,V.bl.injEq] at h
  rw [h.1,bls_inj h.2]
theorem m_kBls (F:List Bool->Prop) (bs:List Bool):kBls F (bs.map V.bl)=F bs:=propext ⟨λ ⟨ms,e,h⟩=>by rw [bls_inj e];exact h,λ h=>⟨bs,rfl,h⟩⟩
def kAllB (H:Hp) (Q:VK):List Bool->Prop:=λ bs=>Q (.bl (bs.all id)) H
theorem m_kAllB (H:Hp) (Q:VK) (bs:List Bool):kAllB H Q bs=Q (.bl (bs.all id)) H:=rfl
def qAll:List V->Hp->VK->Prop:=λ vs H Q=>match vs with
 | [.ref p]=>optK (lstAt H p) (kBls (kAllB H Q))
 | _=>False
theorem m_qAll (p:Addr) (H:Hp) (Q:VK):qAll [.ref p] H Q=optK (lstAt H p) (kBls (kAllB H Q)):=rfl
section
variable {X:Cx}
theorem call_qSum (hc:X.calm=true):CallR X (.builtin "sum") qSum:=by
 intro pins s σ H vs us Q I r h
 unfold qSum at h
 split at h
 ·rename_i p
  obtain ⟨xs,e,ns,rfl,q⟩:=optK_ex h
  cases r with
  | cons r rr=>
   cases rr
   cases r
   obtain ⟨its,rv,pl,hz⟩:=I.list (SqL.of (lst_of e))
   have hlt:p < s.heap.objs.size:=by obtain ⟨_,e,_⟩:=pl.isList;exact Heap.lt_size e
   have hlen:its.length=ns.length:=by have:=rv.length;simpa using this.symm
   refine call_sum_walkAnyS (wpAny_pyIter_list pl.isList ⟨s.heap.objs.size,_,_,_,_,_,_,λ i=>ns.getD i 0,rfl,(Walks.list (show X.A.in1.handled=none from I.ok.hd hc) _ p (Nat.ne_of_lt hlt) its.toArray).toS,⟨⟨_,Heap.get?_push_size _ rfl,rfl,rfl⟩,pl.isList.push _⟩,λ b hb=>?_,λ i v hP=>?_,λ s' t' hm=>?_⟩)
   ·rw [Heap.size_push]
    rcases List.mem_cons.mp hb with rfl|hb
    ·exact Nat.lt_succ_self _
    ·rw [List.mem_singleton.mp hb];exact Nat.lt_succ_of_lt hlt
   ·have hv:its[i]? = some v:=by simpa using hP
    have hi:i < ns.length:=by rw [←hlen];exact (List.getElem?_eq_some_iff.mp hv).1
    obtain ⟨u,hu,ru⟩:=rv.get (i:=i) (x:=.int (ns.getD i 0)) (by rw [List.getElem?_map,List.getElem?_eq_getElem hi];simp [List.getD,List.getElem?_eq_getElem hi])
    rw [hv] at hu
    cases hu
    exact ru
   ·obtain ⟨hp,g,d,tk,os⟩:=s'
    have kp:∀ b o,s.heap.get? b=some o->hp.get? b=some o:=λ b o e=>hm.heap b o (λ hmem=>by
     have:b=s.heap.objs.size:=by simpa using hmem
     subst this
     exact absurd (Heap.lt_size e) (Nat.lt_irrefl _)) (Heap.get?_push_of_some _ e)
    have e1:g=s.gens:=hm.gens
    have e2:d=s.drawn:=hm.drawn
    have e3:os=s.os:=hm.os
    subst e1 e2 e3
    refine ⟨.int ns.sum,H,I.kept (t':=tk) kp,?_,q⟩
    have es:=preSum_ints its.toArray.size ns (λ i=>ns.getD i 0) (λ _=>rfl) (by simp [hlen])
    rw [show its.toArray.size=ns.length by simp [hlen],List.take_length] at es
    rw [show its.toArray.size=ns.length by simp [hlen],es]
    exact ⟨t',rfl⟩
 ·exact h.elim
theorem all_range (bs:List Bool):(List.range bs.length).all (λ i=>bs.getD i false)=bs.all id:=by
 rw [Bool.eq_iff_iff,List.all_eq_true,List.all_eq_true]
 refine ⟨λ h x hx=>?_,λ h i hi=>?_⟩
 ·obtain ⟨i,hi,e⟩:=List.getElem_of_mem hx
  have:=h i (List.mem_range.mpr hi)
  simpa [List.getD,List.getElem?_eq_getElem hi,e] using this
 ·have hi':=List.mem_range.mp hi
  have:=h (bs[i]) (List.getElem_mem hi')
  simpa [List.getD,List.getElem?_eq_getElem hi'] using this
theorem call_qAll (hc:X.calm=true):CallR X (.builtin "all") qAll:=by
 intro pins s σ H vs us Q I r h
 unfold qAll at h
 split at h
 ·rename_i p
  obtain ⟨xs,e,bs,rfl,q⟩:=optK_ex h
  cases r with
  | cons r rr=>
   cases rr
   cases r
   obtain ⟨its,rv,pl,hz⟩:=I.list (SqL.of (lst_of e))
   have hlt:p < s.heap.objs.size:=by obtain ⟨_,e,_⟩:=pl.isList;exact Heap.lt_size e
   have hlen:its.length=bs.length:=by have:=rv.length;simpa using this.symm
   refine call_all_walk (wpAny_pyIter_list pl.isList ⟨s.heap.objs.size,_,_,_,_,_,λ i=>bs.getD i false,rfl,Walks.list (show X.A.in1.handled=none from I.ok.hd hc) _ p (Nat.ne_of_lt hlt) its.toArray,⟨⟨_,Heap.get?_push_size _ rfl,rfl,rfl⟩,pl.isList.push _⟩,λ i v s' Q' E' hP hQ=>?_,λ h' tk hk=>?_⟩)
   ·have hv:its[i]? = some v:=by simpa using hP
    have hi:i < bs.length:=by rw [←hlen];exact (List.getElem?_eq_some_iff.mp hv).1
    obtain ⟨u,hu,ru⟩:=rv.get (i:=i) (x:=.bl (bs.getD i false)) (by rw [List.getElem?_map,List.getElem?_eq_getElem hi];simp [List.getD,List.getElem?_eq_getElem hi])
    rw [hv] at hu
    cases hu
    have e2:v=.bool (bs.getD i false):=ru
    subst e2
    exact wpAny_truthy_bool hQ
   ·have kp:∀ b o,s.heap.get? b=some o->h'.get? b=some o:=λ b o e=>hk b o (λ hmem=>by
     have:b=s.heap.objs.size:=by simpa using hmem
     subst this
     exact absurd (Heap.lt_size e) (Nat.lt_irrefl _)) (Heap.get?_push_of_some _ e)
    refine ⟨.bl (bs.all id),H,I.kept (t':=tk) kp,?_,q⟩
    rw [show its.toArray.size=bs.length by simp [hlen],all_range]
    exact rfl
 ·exact h.elim
end
end L2
namespace L2
open PySem PySem.Spec PyProof.Rows
structure Src (prog:Program) (w:World) (it:Addr) (fr:List Addr) (st:Nat->Heap->Prop) (val:Nat->Option Value):Prop where
 mem:it∈fr
 there:∀ k h,st k h->∀ b∈fr,∃ o,h.get? b=some o
 keep:∀ k h h',st k h->(∀ b∈fr,∀ o,h.get? b=some o->h'.get? b=some o)->st k h'
 item:∀ (A:Around) k s v (Q:Value->Shared->Prop) (E:Value->Shared->Prop),st k s.heap->val k=some v->(∀ h',st (k+1) h'->Heap.SameBut it s.heap h'->Q v { s with heap:=h' })->wpAny (model prog w) A (Builtin.SmallTypes.nextOf (.ref it)) Q E s
 fin:∀ (A:Around) k s (Q:Value->Shared->Prop) (E:Value->Shared->Prop),A.handled=none->st k s.heap->val k=none->(∀ h' e,Heap.ExtBut it s.heap h'->(∃ o,h'.get? e=some o/\o.cls=.type "StopIteration")->E (.ref e) { s with heap:=h' })->wpAny (model prog w) A (Builtin.SmallTypes.nextOf (.ref it)) Q E s
theorem src_list {prog:Program}{w:World}(it l:Addr) (hne:l ≠ it) (xs:Array Value):Src prog w it [it,l] (λ k h=>h.IsListIter it l k/\h.IsList l xs) (λ k=>xs[k]?) where
 mem:=List.mem_cons_self
 there:=λ k h st b hb=>by
  rcases List.mem_cons.mp hb with e|hb
  ·obtain ⟨o,q,_⟩:=st.1;exact ⟨o,by rw [e];exact q⟩
  ·obtain ⟨o,q,_⟩:=st.2;exact ⟨o,by rw [List.mem_singleton.mp hb];exact q⟩
 keep:=λ k h h' st q=>⟨st.1.at λ o e=>q it (by simp) o e,st.2.at λ o e=>q l (by simp) o e⟩
 item:=λ A k s v Q E st hv hQ=>wpAny_nextOf_list_item st.1 st.2 hv λ h' a b=>hQ h' ⟨a,st.2.extBut b.extBut hne⟩ b
 fin:=λ A k s Q E hh st hv hE=>wpAny_nextOf_list_end hh st.1 st.2 hv hE
section
variable {prog:Program}{w:World}{A:Around}{E:Value->Shared->Prop}{s:Shared}
theorem next_tup_item {j t:Addr}{k:Nat}{xs:Array Value}{v:Value}{Q:Value->Shared->Prop}(hj:s.heap.IsTupleIter j t k) (ht:s.heap.IsTuple t xs) (hv:xs[k]? = some v)
  (hQ:∀ g,g.IsTupleIter j t (k+1)->Heap.SameBut j s.heap g->Q v { s with heap:=g }):wpAny (model prog w) A (Builtin.SmallTypes.nextOf (.ref j)) Q E s:=by
 obtain ⟨oj,h0,h1,h2⟩:=id hj
 obtain ⟨ot,g0,_,n,g1⟩:=ht
 unfold Builtin.SmallTypes.nextOf
 refine wpAny_bind (wpAny_callSpecial?_slot (name:=Str.ofString "__next__") hj.typeIs F.slot_tuple_iterator_next (wpAny_call_entry F.slot_tuple_iterator_next hj.typeIs F.entry_tuple_iterator_next ?_ (F.args_tuple_iterator_next_1 _)))
 refine wpAny_bind (m:=field (.ref j) 0) (wpAny_field h0 h2 (x:=.ref t) rfl ?_)
 show wpAny _ _ (if (Value.ref t == Value.none)=true then _ else _) _ _ _
 rw [if_neg (show ¬ ((.ref t:Value) == .none)=true from Bool.false_ne_true)]
 refine wpAny_bind (m:=field (.ref j) 1) (wpAny_field h0 h2 (x:=.int k 0) rfl ?_)
 refine wpAny_bind (m:=seqItems? (.ref t)) (wpAny_seqItems g0 g1 ?_)
 simp only [Int.toNat_natCast,hv]
 refine wpAny_bind (wpAny_setField h0 h2 (by simp) (wpAny_pure ⟨v,rfl,wpAny_pure (hQ _ ⟨_,Heap.get?_update_self _ h0 (Obj.isFreed_of_fields (Obj.data_mapFields h2 _)),(Obj.cls_mapFields ..).trans h1,?_⟩ (Heap.SameBut.update ..))⟩))
 rw [Obj.data_mapFields h2];simp [rawInt]
theorem next_tup_end {j t:Addr}{k:Nat}{xs:Array Value}{Q:Value->Shared->Prop}(hh:A.handled=none) (hj:s.heap.IsTupleIter j t k) (ht:s.heap.IsTuple t xs) (hv:xs[k]? = none)
  (hE:∀ g e,Heap.ExtBut j s.heap g->(∃ o,g.get? e=some o/\o.cls=.type "StopIteration")->E (.ref e) { s with heap:=g }):wpAny (model prog w) A (Builtin.SmallTypes.nextOf (.ref j)) Q E s:=by
 obtain ⟨oj,h0,h1,h2⟩:=id hj
 obtain ⟨ot,g0,_,n,g1⟩:=ht
 unfold Builtin.SmallTypes.nextOf
 refine wpAny_bind (wpAny_callSpecial?_slot (name:=Str.ofString "__next__") hj.typeIs F.slot_tuple_iterator_next (wpAny_call_entry F.slot_tuple_iterator_next hj.typeIs F.entry_tuple_iterator_next ?_ (F.args_tuple_iterator_next_1 _)))
 refine wpAny_bind (m:=field (.ref j) 0) (wpAny_field h0 h2 (x:=.ref t) rfl ?_)
 show wpAny _ _ (if (Value.ref t == Value.none)=true then _ else _) _ _ _
 rw [if_neg (show ¬ ((.ref t:Value) == .none)=true from Bool.false_ne_true)]
 refine wpAny_bind (m:=field (.ref j) 1) (wpAny_field h0 h2 (x:=.int k 0) rfl ?_)
 refine wpAny_bind (m:=seqItems? (.ref t)) (wpAny_seqItems g0 g1 ?_)
 simp only [Int.toNat_natCast,hv]
 refine wpAny_bind (wpAny_rule (wpAny_bind (wpAny_setField h0 h2 (by simp) (wpAny_bind (m:=newExc (.type "StopIteration") []) ?_))))
 simp only [newExc,newTuple]
 refine wpAny_bind (wpAny_newObj_type (wpAny_bind (m:=firstArgMember _ _) (wpAny_of_eq (a:=Value.none) (by first|rfl|(simp only [firstArgMember];rfl)) (wpAny_newObj_type ?_ (by size_fits)))) (by size_fits))
 simp only [raiseNew]
 refine wpAny_bind (wpAny_handled ?_);first|rw [show A.in1.handled=none from hh]|rw [hh]
 exact wpAny_bind (wpAny_pure (wpAny_throw (hE _ _ (((Heap.SameBut.update ..).extBut.push _).push _) ⟨_,Heap.get?_push_size _ rfl,rfl⟩)))
theorem src_tup (it l:Addr) (hne:l ≠ it) (xs:Array Value):Src prog w it [it,l] (λ k h=>h.IsTupleIter it l k/\h.IsTuple l xs) (λ k=>xs[k]?) where
 mem:=List.mem_cons_self
 there:=λ k h st b hb=>by
  rcases List.mem_cons.mp hb with e|hb
  ·obtain ⟨o,q,_⟩:=st.1;exact ⟨o,by rw [e];exact q⟩
  ·obtain ⟨o,q,_⟩:=st.2;exact ⟨o,by rw [List.mem_singleton.mp hb];exact q⟩
 keep:=λ k h h' st q=>⟨st.1.at λ o e=>q it (by simp) o e,st.2.at λ o e=>q l (by simp) o e⟩
 item:=λ A k s v Q E st hv hQ=>next_tup_item st.1 st.2 hv λ h' a b=>hQ h' ⟨a,st.2.extBut b.extBut hne⟩ b
 fin:=λ A k s Q E hh st hv hE=>next_tup_end hh st.1 st.2 hv hE
structure Apart2 (z TI TO i j:Addr) (f g:List Addr):Prop where
 ti:TI ≠ z/\TI ≠ TO/\TI ≠ i/\TI ≠ j
 zt:z ≠ TO
 zf:z ∉ f
 zg:z ∉ g
 tf:TO ∉ f
 tg:TO ∉ g
 ig:i ∉ g
 jf:j ∉ f
variable {z TI TO i j:Addr}{f g:List Addr}{ti tj:Nat->Heap->Prop}{vi vj:Nat->Option Value}{k m:Nat}{x y a b:Value}
theorem ne_mem {p q:Addr}{l:List Addr}(hp:p∈l) (hq:q ∉ l):p ≠ q:=λ e=>hq (e ▸ hp)
theorem Src.but {prog:Program}{w:World}{it:Addr}{fr:List Addr}{st:Nat->Heap->Prop}{val:Nat->Option Value}(S:Src prog w it fr st val){k:Nat}{c:Addr}{h h':Heap}(q:st k h) (e:Heap.ExtBut c h h') (hc:c ∉ fr):st k h':=
 S.keep k h h' q λ b hb o ho=>e b o (ne_mem hb hc) ho
theorem zip2_item (S:Src prog w i f ti vi) (T:Src prog w j g tj vj) (D:Apart2 z TI TO i j f g){Q:Value->Shared->Prop}
  (hz:IsZip s.heap z TI TO .none) (hTI:IsPair s.heap TI (.ref i) (.ref j)) (hTO:IsPair s.heap TO a b) (hi:ti k s.heap) (hj:tj m s.heap) (hx:vi k=some x) (hy:vj m=some y)
  (hQ:∀ h',IsZip h' z TI TO (rawInt s.heap.objs.size)->IsPair h' TO x y->ti (k+1) h'->tj (m+1) h'->IsPair h' s.heap.objs.size x y->h'.objs.size=s.heap.objs.size+1->(∀ c o,c ∉ [z,TO,i,j]->s.heap.get? c=some o->h'.get? c=some o)->Q (.ref s.heap.objs.size) { s with heap:=h' }) :
  wpAny (model prog w) A (Builtin.«zip.__next__» ⟨[.ref z],[]⟩) (λ fin s'=>∃ v,fin=.done (.ret v)/\Q v s') E s:=by
 have iz:i ≠ z:=ne_mem S.mem D.zf
 have jz:j ≠ z:=ne_mem T.mem D.zg
 have iTO:i ≠ TO:=ne_mem S.mem D.tf
 have jTO:j ≠ TO:=ne_mem T.mem D.tg
 have ij:i ≠ j:=ne_mem S.mem D.jf
 refine wpAny_bind (m:=field (.ref z) 2) (wpAny_field hz rfl (x:=.bool false) rfl ?_)
 refine wpAny_bind (m:=field (.ref z) 3) (wpAny_field hz rfl (x:=.ref TI) rfl (wpAny_bind (wpAny_seqItems hTI rfl ?_)))
 refine wpAny_bind (m:=Builtin.SmallTypes.ownedTupleIsFree (.ref z)) ?_
 unfold Builtin.SmallTypes.ownedTupleIsFree
 refine wpAny_bind (wpAny_field hz rfl (x:=.none) rfl (wpAny_pure ?_));simp only [if_true]
 refine wpAny_bind (wpAny_rule (wpAny_bind (wpAny_field hz rfl (x:=.ref TO) rfl (wpAny_bind (wpAny_setField_rec hz (by simp) λ q1 z1 s1=>?_)))))
 replace z1:IsZip q1 z TI TO .ellipsis:=z1
 refine wpAny_bind ?_;simp only [List.zipIdx_cons,List.zipIdx_nil,List.forIn_cons,List.forIn_nil]
 refine wpAny_bind (wpAny_bind (wpAny_onRaise (wpAny_bind (m:=Builtin.SmallTypes.nextOf (.ref i)) (S.item _ k _ x _ _ (S.but hi s1.extBut D.zf) hx λ q2 i2 s2=>wpAny_pure ?_))))
 have o2:IsPair q2 TO a b:=s2.extBut _ _ iTO.symm (s1.extBut _ _ D.zt.symm hTO)
 refine wpAny_bind (wpAny_seqItems o2 rfl (wpAny_bind (wpAny_updateSeq_pair o2 λ q3 o3 s3=>wpAny_bind (wpAny_letGo (wpAny_pure ?_)))))
 replace o3:IsPair q3 TO x b:=o3
 have j3:tj m q3:=T.but (T.but (T.but hj s1.extBut D.zg) s2.extBut D.ig) s3.extBut D.tg
 refine wpAny_bind (wpAny_bind (wpAny_onRaise (wpAny_bind (m:=Builtin.SmallTypes.nextOf (.ref j)) (T.item _ m _ y _ _ j3 hy λ q4 j4 s4=>wpAny_pure ?_))))
 have o4:IsPair q4 TO x b:=s4.extBut _ _ jTO.symm o3
 refine wpAny_bind (wpAny_seqItems o4 rfl (wpAny_bind (wpAny_updateSeq_pair o4 λ q5 o5 s5=>wpAny_bind (wpAny_letGo (wpAny_pure (wpAny_pure ?_))))))
 replace o5:IsPair q5 TO x y:=o5
 refine wpAny_bind (wpAny_seqItems o5 rfl (wpAny_bind (wpAny_newTuple ?_)))
 have sz:q5.objs.size=s.heap.objs.size:=by rw [s5.1,s4.1,s3.1,s2.1,s1.1]
 have z5:IsZip q5 z TI TO .ellipsis:=s5.extBut _ _ D.zt (s4.extBut _ _ jz.symm (s3.extBut _ _ D.zt (s2.extBut _ _ iz.symm z1)))
 have k5:∀ c o,c ∉ [z,TO,i,j]->s.heap.get? c=some o->q5.get? c=some o:=λ c o hc e=>by
  simp only [List.mem_cons,List.not_mem_nil,or_false,not_or] at hc
  exact s5.extBut _ _ hc.2.1 (s4.extBut _ _ hc.2.2.2 (s3.extBut _ _ hc.2.1 (s2.extBut _ _ hc.2.2.1 (s1.extBut _ _ hc.1 e))))
 have i5:ti (k+1) q5:=S.but (S.but (S.but i2 s3.extBut D.tf) s4.extBut D.jf) s5.extBut D.tf
 have j5:tj (m+1) q5:=T.but j4 s5.extBut D.tg
 have zlt:z < q5.objs.size:=Heap.lt_size z5
 refine wpAny_bind (m:=Builtin.SmallTypes.ownedTupleHandOut (.ref z) (.ref q5.objs.size)) ?_
 unfold Builtin.SmallTypes.ownedTupleHandOut
 have z6:IsZip (q5.push { cls:=.type "tuple",data:=.seq #[x,y] }) z TI TO .ellipsis:=Heap.get?_push_of_some _ z5
 refine wpAny_bind (wpAny_setField_rec z6 (by simp) λ q7 z7 s7=>?_)
 replace z7:IsZip q7 z TI TO (rawInt q5.objs.size):=z7
 refine wpAny_setField_rec z7 (by simp) λ q8 z8 s8=>?_
 replace z8:IsZip q8 z TI TO (rawInt q5.objs.size):=z8
 have up:∀ c o,c ≠ z->q5.get? c=some o->q8.get? c=some o:=λ c o hc e=>s8.extBut _ _ hc (s7.extBut _ _ hc (Heap.get?_push_of_some _ e))
 have t8:IsPair q8 q5.objs.size x y:=s8.extBut _ _ (Nat.ne_of_gt zlt) (s7.extBut _ _ (Nat.ne_of_gt zlt) (Heap.get?_push_size _ rfl))
 have n8:q8.objs.size=q5.objs.size+1:=by rw [s8.1,s7.1,Heap.size_push]
 rw [sz] at z8 t8 n8
 refine wpAny_pure ⟨_,rfl,?_⟩
 show Q (.ref q5.objs.size) _
 rw [sz]
 exact hQ q8 z8 (up _ _ D.zt.symm o5) (S.keep _ _ _ i5 λ c hc o e=>up c o (ne_mem hc D.zf) e) (T.keep _ _ _ j5 λ c hc o e=>up c o (ne_mem hc D.zg) e) t8 n8 λ c o hc e=>up c o (λ q=>hc (by simp [q])) (k5 c o hc e)
theorem zip2_end (hh:A.handled=none) (S:Src prog w i f ti vi) (T:Src prog w j g tj vj) (D:Apart2 z TI TO i j f g){Q:Fin->Shared->Prop}
  (hz:IsZip s.heap z TI TO .none) (hTI:IsPair s.heap TI (.ref i) (.ref j)) (hTO:IsPair s.heap TO a b) (hi:ti k s.heap) (hj:tj m s.heap) (hxy:vi k=none\/vj m=none)
  (hE:∀ h' e,(∀ c o,c ∉ [z,TO,i,j]->s.heap.get? c=some o->h'.get? c=some o)->(∃ o,h'.get? e=some o/\o.cls=.type "StopIteration")->E (.ref e) { s with heap:=h' }) :
  wpAny (model prog w) A (Builtin.«zip.__next__» ⟨[.ref z],[]⟩) Q E s:=by
 have iz:i ≠ z:=ne_mem S.mem D.zf
 have jz:j ≠ z:=ne_mem T.mem D.zg
 have iTO:i ≠ TO:=ne_mem S.mem D.tf
 have jTO:j ≠ TO:=ne_mem T.mem D.tg
 refine wpAny_bind (m:=field (.ref z) 2) (wpAny_field hz rfl (x:=.bool false) rfl ?_)
 refine wpAny_bind (m:=field (.ref z) 3) (wpAny_field hz rfl (x:=.ref TI) rfl (wpAny_bind (wpAny_seqItems hTI rfl ?_)))
 refine wpAny_bind (m:=Builtin.SmallTypes.ownedTupleIsFree (.ref z)) ?_
 unfold Builtin.SmallTypes.ownedTupleIsFree
 refine wpAny_bind (wpAny_field hz rfl (x:=.none) rfl (wpAny_pure ?_));simp only [if_true]
 refine wpAny_bind (wpAny_rule (wpAny_bind (wpAny_field hz rfl (x:=.ref TO) rfl (wpAny_bind (wpAny_setField_rec hz (by simp) λ q1 z1 s1=>?_)))))
 replace z1:IsZip q1 z TI TO .ellipsis:=z1
 refine wpAny_bind ?_;simp only [List.zipIdx_cons,List.zipIdx_nil,List.forIn_cons,List.forIn_nil]
 refine wpAny_bind (wpAny_bind (wpAny_onRaise (wpAny_bind (m:=Builtin.SmallTypes.nextOf (.ref i)) ?_)))
 cases hx:vi k with
 | none=>
  refine S.fin _ k _ _ _ hh (S.but hi s1.extBut D.zf) hx λ q2 e s2 ⟨oe,he,hce⟩=>?_
  have z2:IsZip q2 z TI TO .ellipsis:=s2 _ _ iz.symm z1
  have ez:e ≠ z:=λ q=>by subst q;rw [z2] at he;cases he;simp at hce
  refine wpAny_setField_rec z2 (by simp) λ q3 _ s3=>hE q3 e (λ c o hc q=>?_) ⟨oe,s3.extBut _ _ ez he,hce⟩
  simp only [List.mem_cons,List.not_mem_nil,or_false,not_or] at hc
  exact s3.extBut _ _ hc.1 (s2 _ _ hc.2.2.1 (s1.extBut _ _ hc.1 q))
 | some x=>
  have hy:vj m=none:=hxy.resolve_left (by rw [hx];exact Option.some_ne_none x)
  refine S.item _ k _ x _ _ (S.but hi s1.extBut D.zf) hx λ q2 i2 s2=>wpAny_pure ?_
  have o2:IsPair q2 TO a b:=s2.extBut _ _ iTO.symm (s1.extBut _ _ D.zt.symm hTO)
  refine wpAny_bind (wpAny_seqItems o2 rfl (wpAny_bind (wpAny_updateSeq_pair o2 λ q3 o3 s3=>wpAny_bind (wpAny_letGo (wpAny_pure ?_)))))
  have j3:tj m q3:=T.but (T.but (T.but hj s1.extBut D.zg) s2.extBut D.ig) s3.extBut D.tg
  refine wpAny_bind (wpAny_bind (wpAny_onRaise (wpAny_bind (m:=Builtin.SmallTypes.nextOf (.ref j)) (T.fin _ m _ _ _ hh j3 hy λ q4 e s4 ⟨oe,he,hce⟩=>?_))))
  have z4:IsZip q4 z TI TO .ellipsis:=s4 _ _ jz.symm (s3.extBut _ _ D.zt (s2.extBut _ _ iz.symm z1))
  have ez:e ≠ z:=λ q=>by subst q;rw [z4] at he;cases he;simp at hce
  refine wpAny_setField_rec z4 (by simp) λ q5 _ s5=>hE q5 e (λ c o hc q=>?_) ⟨oe,s5.extBut _ _ ez he,hce⟩
  simp only [List.mem_cons,List.not_mem_nil,or_false,not_or] at hc
  exact s5.extBut _ _ hc.1 (s4 _ _ hc.2.2.2 (s3.extBut _ _ hc.2.1 (s2.extBut _ _ hc.2.2.1 (s1.extBut _ _ hc.1 q))))
theorem zip2_next_item (S:Src prog w i f ti vi) (T:Src prog w j g tj vj) (D:Apart2 z TI TO i j f g){Q:Option Value->Shared->Prop}
  (hz:IsZip s.heap z TI TO .none) (hTI:IsPair s.heap TI (.ref i) (.ref j)) (hTO:IsPair s.heap TO a b) (hi:ti k s.heap) (hj:tj m s.heap) (hx:vi k=some x) (hy:vj m=some y)
  (hQ:∀ h',IsZip h' z TI TO (rawInt s.heap.objs.size)->IsPair h' TO x y->ti (k+1) h'->tj (m+1) h'->IsPair h' s.heap.objs.size x y->h'.objs.size=s.heap.objs.size+1->(∀ c o,c ∉ [z,TO,i,j]->s.heap.get? c=some o->h'.get? c=some o)->Q (some (.ref s.heap.objs.size)) { s with heap:=h' }) :
  wpAny (model prog w) A (pyNext (.ref z)) Q E s:=by
 have ty:s.TypeIs (.ref z) "zip":=⟨_,hz,rfl⟩
 unfold pyNext
 exact wpAny_bind (wpAny_attempt (wpAny_callSpecial?_slot (name:=Str.ofString "__next__") ty F.slot_zip_next (wpAny_call_entry F.slot_zip_next ty F.entry_zip_next (zip2_item S T D hz hTI hTO hi hj hx hy λ h' c1 c2 c3 c4 c5 c6 c7=>wpAny_pure (hQ h' c1 c2 c3 c4 c5 c6 c7)) (F.args_zip_next_1 _))))
theorem zip2_next_end (hh:A.handled=none) (S:Src prog w i f ti vi) (T:Src prog w j g tj vj) (D:Apart2 z TI TO i j f g){Q:Option Value->Shared->Prop}
  (hz:IsZip s.heap z TI TO .none) (hTI:IsPair s.heap TI (.ref i) (.ref j)) (hTO:IsPair s.heap TO a b) (hi:ti k s.heap) (hj:tj m s.heap) (hxy:vi k=none\/vj m=none)
  (hQ:∀ h',(∀ c o,c ∉ [z,TO,i,j]->s.heap.get? c=some o->h'.get? c=some o)->Q none { s with heap:=h' }):wpAny (model prog w) A (pyNext (.ref z)) Q E s:=by
 have ty:s.TypeIs (.ref z) "zip":=⟨_,hz,rfl⟩
 unfold pyNext
 refine wpAny_bind (wpAny_attempt (wpAny_callSpecial?_slot (name:=Str.ofString "__next__") ty F.slot_zip_next (wpAny_call_entry F.slot_zip_next ty F.entry_zip_next (zip2_end (show A.in1.handled=none from hh) S T D hz hTI hTO hi hj hxy λ h' e kp he=>?_) (F.args_zip_next_1 _))))
 obtain ⟨o,ho,hc⟩:=he
 exact wpAny_bind (wpAny_isInstance (T := "StopIteration") (b:=true) ⟨o,ho,hc⟩ isSubtype_stop (wpAny_pure (hQ _ kp)))
end
end L2
namespace L2
open PySem PySem.Spec PyProof.Rows
def SeqAt (h:Heap) (k:Bool) (l:Addr) (xs:Array Value):Prop:=match k with
 | true=>h.IsTuple l xs
 | false=>h.IsList l xs
def IterAt (h:Heap) (k:Bool) (it l:Addr) (n:Nat):Prop:=match k with
 | true=>h.IsTupleIter it l n
 | false=>h.IsListIter it l n
def itObj (k:Bool) (l:Addr):Obj:=match k with
 | true=>{ cls:=.type "tuple_iterator",data:=.fields #[.ref l,.int 0 0] }
 | false=>{ cls:=.type "list_iterator",data:=.fields #[.ref l,.int 0 0] }
theorem SeqAt.at {h h':Heap}{k:Bool}{l:Addr}{xs:Array Value}(q:SeqAt h k l xs) (e:∀ o,h.get? l=some o->h'.get? l=some o):SeqAt h' k l xs:=by
 cases k
 ·exact Heap.IsList.at q e
 ·exact Heap.IsTuple.at q e
theorem SeqAt.obj {h:Heap}{k:Bool}{l:Addr}{xs:Array Value}(q:SeqAt h k l xs):∃ o n,h.get? l=some o/\o.data=.seq xs n:=by
 cases k
 ·obtain ⟨o,e,_,n,d⟩:=(show h.IsList l xs from q);exact ⟨o,n,e,d⟩
 ·obtain ⟨o,e,_,n,d⟩:=(show h.IsTuple l xs from q);exact ⟨o,n,e,d⟩
theorem IterAt.at {h h':Heap}{k:Bool}{it l:Addr}{n:Nat}(q:IterAt h k it l n) (e:∀ o,h.get? it=some o->h'.get? it=some o):IterAt h' k it l n:=by
 cases k
 ·exact Heap.IsListIter.at q e
 ·exact Heap.IsTupleIter.at q e
theorem IterAt.obj {h:Heap}{k:Bool}{it l:Addr}{n:Nat}(q:IterAt h k it l n):∃ o fs,h.get? it=some o/\o.data=.fields fs:=by
 cases k
 ·obtain ⟨o,e,_,d⟩:=(show h.IsListIter it l n from q);exact ⟨o,_,e,d⟩
 ·obtain ⟨o,e,_,d⟩:=(show h.IsTupleIter it l n from q);exact ⟨o,_,e,d⟩
theorem src_sq {prog:Program}{w:World}(k:Bool) (it l:Addr) (hne:l ≠ it) (xs:Array Value):Src prog w it [it,l] (λ n h=>IterAt h k it l n/\SeqAt h k l xs) (λ n=>xs[n]?):=by
 cases k
 ·exact src_list it l hne xs
 ·exact src_tup it l hne xs
section
variable {prog:Program}{w:World}{A:Around}{E:Value->Shared->Prop}{s:Shared}
theorem iter_sq {k:Bool}{l:Addr}{xs:Array Value}{Q:Value->Shared->Prop}(h:SeqAt s.heap k l xs) (hQ:Q (.ref s.heap.objs.size) { s with heap:=s.heap.push (itObj k l) }):wpAny (model prog w) A (pyIter (.ref l)) Q E s:=by
 cases k
 ·exact wpAny_pyIter_list h hQ
 ·exact wpAny_pyIter_tuple h hQ
abbrev zq1 (ka:Bool) (a:Addr) (h:Heap):Heap:=h.push (itObj ka a)
abbrev zq2 (ka kb:Bool) (a b:Addr) (h:Heap):Heap:=(zq1 ka a h).push (itObj kb b)
abbrev zq3 (ka kb:Bool) (a b:Addr) (h:Heap):Heap:=(zq2 ka kb a b h).push { cls:=.type "tuple",data:=.seq #[.ref h.objs.size,.ref (zq1 ka a h).objs.size] }
abbrev zq4 (ka kb:Bool) (a b:Addr) (h:Heap):Heap:=(zq3 ka kb a b h).push { cls:=.type "tuple",data:=.seq #[.none,.none] }
abbrev zq5 (ka kb:Bool) (a b:Addr) (h:Heap):Heap:=(zq4 ka kb a b h).push { cls:=.type "zip",data:=.fields #[.none,.bool false,.bool false,.ref (zq2 ka kb a b h).objs.size,.ref (zq3 ka kb a b h).objs.size] }
theorem zip_meets (ka kb:Bool) (a b:Addr) (xs ys:Array Value):Meets (Builtin.«zip.__new__» ⟨[.type "zip",.ref a,.ref b],[]⟩) (λ _ R s=>SeqAt s.heap ka a xs/\SeqAt s.heap kb b ys/\R (.ok (.ret (.ref (zq4 ka kb a b s.heap).objs.size))) { s with heap:=zq5 ka kb a b s.heap }):=
 .of_wp λ prog w A R s h=>by
  obtain ⟨hp,g,d,tk,os⟩:=s;obtain ⟨h1,h2,h⟩:=h;have hsub:=sub_zip
  have q1:SeqAt (Shared.heap ⟨hp,g,d,tk,os⟩) ka a xs:=h1
  have q2:SeqAt (Shared.heap ⟨hp.push (itObj ka a),g,d,tk,os⟩) kb b ys:=h2.at λ o e=>Heap.get?_push_of_some _ e
  wp_walk using iter_sq q1,iter_sq q2
  exact ⟨_,rfl,h⟩
theorem call_zq {ka kb:Bool}{a b:Addr}{xs ys:Array Value}{Q:Value->Shared->Prop}(h1:SeqAt s.heap ka a xs) (h2:SeqAt s.heap kb b ys)
  (h:∀ h' n,n=s.heap.objs.size->IsZip h' (n+4) (n+2) (n+3) .none->IsPair h' (n+2) (.ref n) (.ref (n+1))->IsPair h' (n+3) .none .none->IterAt h' ka n a 0->IterAt h' kb (n+1) b 0->h'.objs.size=n+5->(∀ c o,s.heap.get? c=some o->h'.get? c=some o)->Q (.ref (n+4)) { s with heap:=h' }) :
  wpAny (model prog w) A (call (.type "zip") [.ref a,.ref b]) Q E s:=by
 refine callType_new F.called_zip (by decide) (F.typeCall_zip_2 _ _) (F.newCall_zip_2 _ _) (λ ob=>F.args_object_init_3 ob _ _) F.entry_zip_new (zip_meets ka kb a b xs ys) ⟨h1,h2,?_⟩
 have n1:(zq1 ka a s.heap).objs.size=s.heap.objs.size+1:=Heap.size_push ..
 have n2:(zq2 ka kb a b s.heap).objs.size=s.heap.objs.size+2:=by rw [Heap.size_push,n1]
 have n3:(zq3 ka kb a b s.heap).objs.size=s.heap.objs.size+3:=by rw [Heap.size_push,n2]
 have n4:(zq4 ka kb a b s.heap).objs.size=s.heap.objs.size+4:=by rw [Heap.size_push,n3]
 have n5:(zq5 ka kb a b s.heap).objs.size=s.heap.objs.size+5:=by rw [Heap.size_push,n4]
 have f1:IterAt (zq1 ka a s.heap) ka s.heap.objs.size a 0:=by
  cases ka<;>exact ⟨_,Heap.get?_push_size _ rfl,rfl,rfl⟩
 have f2:IterAt (zq2 ka kb a b s.heap) kb (zq1 ka a s.heap).objs.size b 0:=by
  cases kb<;>exact ⟨_,Heap.get?_push_size _ rfl,rfl,rfl⟩
 have u2:∀ c o,(zq2 ka kb a b s.heap).get? c=some o->(zq5 ka kb a b s.heap).get? c=some o:=λ c o e=>Heap.get?_push_of_some _ (Heap.get?_push_of_some _ (Heap.get?_push_of_some _ e))
 have g5:(zq5 ka kb a b s.heap).get? (zq4 ka kb a b s.heap).objs.size=some _:=Heap.get?_push_size _ rfl
 have g4:(zq5 ka kb a b s.heap).get? (zq3 ka kb a b s.heap).objs.size=some _:=Heap.get?_push_of_some _ (Heap.get?_push_size _ rfl)
 have g3:(zq5 ka kb a b s.heap).get? (zq2 ka kb a b s.heap).objs.size=some _:=Heap.get?_push_of_some _ (Heap.get?_push_of_some _ (Heap.get?_push_size _ rfl))
 have e1:IterAt (zq5 ka kb a b s.heap) ka s.heap.objs.size a 0:=f1.at λ o e=>u2 _ o (Heap.get?_push_of_some _ e)
 have e2:IterAt (zq5 ka kb a b s.heap) kb (zq1 ka a s.heap).objs.size b 0:=f2.at λ o e=>u2 _ o e
 show _/\_
 rw [n2,n3,n4] at g5
 rw [n1,n2] at g3
 rw [n3] at g4
 rw [n1] at e2
 rw [n4]
 exact ⟨⟨_,g5,rfl⟩,h _ _ rfl g5 g3 g4 e1 e2 n5 λ c o e=>u2 c o (Heap.get?_push_of_some _ (Heap.get?_push_of_some _ e))⟩
end
section
variable {X:Cx}{pins:List (Addr × Obj)}{σ:List (Option V)}{H:Hp}{s:Shared}{h':Heap}
theorem Inv.turnNew {t':Nat}{ch:List Addr}{n:Addr}{o:HO}(I:Inv X pins σ H s) (hch:∀ b∈ch,FpOk X pins H b) (k:∀ b ob,b ∉ ch->s.heap.get? b=some ob->h'.get? b=some ob) (hn:s.heap.objs.size<=n) (new:ObjOk X.prog X.w (upd H n o) h' n o) :
  Inv X pins σ (upd H n o) { s with heap:=h',toks:=t' }:=by
 have fn:=I.hok.fresh hn
 have up:∀ {b u},H b=some u->upd H n o b=some u:=λ {b u} e=>by rw [upd_ne (ne_of_none e fn)];exact e
 have nch:∀ {b u},H b=some u->b ∉ ch:=λ {b u} e z=>by rw [(hch b z).1] at e;cases e
 refine I.step (g':=s.gens) (d':=s.drawn) (ch:=ch) (λ b hb=>⟨(hch b hb).2.2.2.1,(hch b hb).2.1,(hch b hb).2.2.2.2.1,(hch b hb).2.2.2.2.2⟩) (λ b ob _ _ hc e _=>k b ob hc e) (λ b ob _ _ hc e _=>⟨ob.slots,k b ob hc e⟩)
  (λ b ob _ e q=>?_) (λ b ob hc e=>⟨ob,k b ob hc e⟩) (λ _ _ e=>up e) (λ _ _ _ e=>up e) (λ b ps e=>⟨#[],by rw [up e];simp⟩) (λ m hm=>?_) (λ b u e=>?_) I.bare
 ·rw [upd_ne (Nat.ne_of_lt (Nat.lt_of_lt_of_le (Heap.lt_size e) hn))];exact q
 ·obtain ⟨ol,es,ep,ho,r⟩:=hm
  exact ⟨ol,es,ep,k _ ol (λ z=>(hch _ z).2.1 rfl) ho,r⟩
 ·by_cases hb:b=n
  ·subst hb;rw [upd_same] at e;cases e;exact new
  ·rw [upd_ne hb] at e
   refine (I.hok b u e).stay (λ c v hc q=>k c v ?_ q) (λ c q=>up q) λ c xs q=>up q
   rcases hc with rfl|hc
   ·exact nch e
   ·exact nch hc
theorem Inv.turnL {t':Nat}{ch:List Addr}(I:Inv X pins σ H s) (hch:∀ b∈ch,FpOk X pins H b) (k:∀ b ob,b ∉ ch->s.heap.get? b=some ob->h'.get? b=some ob):Inv X pins σ H { s with heap:=h',toks:=t' }:=by
 have nch:∀ {b u},H b=some u->b ∉ ch:=λ {b u} e z=>by rw [(hch b z).1] at e;cases e
 refine I.step (g':=s.gens) (d':=s.drawn) (ch:=ch) (λ b hb=>⟨(hch b hb).2.2.2.1,(hch b hb).2.1,(hch b hb).2.2.2.2.1,(hch b hb).2.2.2.2.2⟩) (λ b ob _ _ hc e _=>k b ob hc e) (λ b ob _ _ hc e _=>⟨ob.slots,k b ob hc e⟩)
  (λ _ _ _ _ q=>q) (λ b ob hc e=>⟨ob,k b ob hc e⟩) (λ _ _ e=>e) (λ _ _ _ e=>e) (λ b ps e=>⟨#[],by rw [e];simp⟩) (λ m hm=>?_) (λ b u e=>?_) I.bare
 ·obtain ⟨ol,es,ep,ho,r⟩:=hm
  exact ⟨ol,es,ep,k _ ol (λ z=>(hch _ z).2.1 rfl) ho,r⟩
 ·refine (I.hok b u e).stay (λ c v hc q=>k c v ?_ q) (λ _ q=>q) λ _ _ q=>q
  rcases hc with rfl|hc
  ·exact nch e
  ·exact nch hc
end
def SqK (k:Bool) (H:Hp) (a:Addr) (xs:List V):Prop:=match k with
 | true=>H a=some (.tup xs)
 | false=>H a=some (.lst xs)
theorem SqK.ne {k:Bool}{H:Hp}{a b:Addr}{xs:List V}(h:SqK k H a xs) (e:H b=none):a ≠ b:=λ z=>by
 subst z
 cases k
 ·rw [show H a=some (.lst xs) from h] at e;cases e
 ·rw [show H a=some (.tup xs) from h] at e;cases e
theorem Inv.sq {X:Cx}{pins:List (Addr × Obj)}{σ:St}{H:Hp}{s:Shared}{k:Bool}{a:Addr}{xs:List V}(I:Inv X pins σ H s) (h:SqK k H a xs):∃ its:List Value,Vals xs its/\SeqAt s.heap k a its.toArray:=by
 cases k
 ·obtain ⟨its,r,p,_⟩:=I.list (SqL.of h);exact ⟨its,r,p.isList⟩
 ·obtain ⟨its,r,p,_⟩:=I.tuple (SqT.of h);exact ⟨its,r,p⟩
def Itz (ka kb:Bool) (a b:Addr) (xs ys:List V):It:=
 ⟨λ i H=>SqK ka H a xs/\SqK kb H b ys/\i < xs.length/\i < ys.length,λ i H x H'=>∃ p u v,H p=none/\x=.ref p/\xs[i]? = some u/\ys[i]? = some v/\H'=upd H p (.tup [u,v]),λ i H=>SqK ka H a xs/\SqK kb H b ys/\(xs.length<=i\/ys.length<=i)⟩
def Tnz (ka kb:Bool) (a b z TI TO p q:Addr) (i:Nat) (h:Heap):Prop:=IsZip h z TI TO .none/\IsPair h TI (.ref p) (.ref q)/\(∃ u v,IsPair h TO u v)/\IterAt h ka p a i/\IterAt h kb q b i
theorem turn_zip {P:Program}{w:World}{K:W.Frag}{elts:List Expr} {x1}{tp:Pos}(ka kb:Bool) (a b z TI TO p q:Addr) (xs ys:List V) (nd:[z,TI,TO,p,q].Nodup):Turn P w K (.Tuple elts x1 tp) (Itz ka kb a b xs ys) [z,TI,TO,p,q] z (Tnz ka kb a b z TI TO p q) where
 mem:=List.mem_cons_self
 obj:=λ i h st c hc=>by
  obtain ⟨e1,e2,⟨u,v,e3⟩,e4,e5⟩:=st
  simp only [List.mem_cons,List.not_mem_nil,or_false] at hc
  rcases hc with rfl|rfl|rfl|rfl|rfl
  ·exact ⟨_,e1,λ v z=>by cases z⟩
  ·exact ⟨_,e2,λ v z=>by cases z⟩
  ·exact ⟨_,e3,λ v z=>by cases z⟩
  ·obtain ⟨o,fs,e,d⟩:=e4.obj;exact ⟨o,e,λ v z=>by rw [d] at z;cases z⟩
  ·obtain ⟨o,fs,e,d⟩:=e5.obj;exact ⟨o,e,λ v z=>by rw [d] at z;cases z⟩
 keep:=λ i h h' st k=>by
  obtain ⟨e1,e2,⟨u,v,e3⟩,e4,e5⟩:=st
  exact ⟨k z (by simp) _ e1,k TI (by simp) _ e2,⟨u,v,k TO (by simp) _ e3⟩,e4.at λ o e=>k p (by simp) o e,e5.at λ o e=>k q (by simp) o e⟩
 item:=by
  intro X hP hw hK hc i pins s σ H E I hf st hg
  subst hP hw hK
  obtain ⟨e1,e2,⟨u0,v0,e3⟩,e4,e5⟩:=st
  obtain ⟨ha,hb,l1,l2⟩:=hg
  obtain ⟨as,ra,sa⟩:=I.sq ha
  obtain ⟨bs,rb,sb⟩:=I.sq hb
  have hx:xs[i]? = some xs[i]:=List.getElem?_eq_getElem l1
  have hy:ys[i]? = some ys[i]:=List.getElem?_eq_getElem l2
  obtain ⟨u,hu,ru⟩:=ra.get hx
  obtain ⟨v,hv,rv⟩:=rb.get hy
  have free:∀ c∈[z,TI,TO,p,q],H c=none:=λ c h=>(hf c h).1
  have naz:∀ c∈[z,TI,TO,p,q],a ≠ c:=λ c h=>ha.ne (free c h)
  have nbz:∀ c∈[z,TI,TO,p,q],b ≠ c:=λ c h=>hb.ne (free c h)
  simp only [List.nodup_cons,List.mem_cons,List.not_mem_nil,or_false,not_or,not_false_eq_true,and_true,List.nodup_nil] at nd
  obtain ⟨⟨z1,z2,z3,z4⟩,⟨t1,t2,t3⟩,⟨w1,w2⟩,y1⟩:=nd
  have S:=src_sq (prog:=X.prog) (w:=X.w) ka p a (naz p (by simp)) as.toArray
  have T:=src_sq (prog:=X.prog) (w:=X.w) kb q b (nbz q (by simp)) bs.toArray
  have D:Apart2 z TI TO p q [p,a] [q,b]:=⟨⟨Ne.symm z1,t1,t2,t3⟩,z2,by simp [z3,Ne.symm (naz z (by simp))],by simp [z4,Ne.symm (nbz z (by simp))],by simp [w1,Ne.symm (naz TO (by simp))],by simp [w2,Ne.symm (nbz TO (by simp))],by simp [y1,Ne.symm (nbz p (by simp))],by simp [Ne.symm y1,Ne.symm (naz q (by simp))]⟩
  refine zip2_next_item S T D e1 e2 e3 ⟨e4,sa⟩ ⟨e5,sb⟩ (x:=u) (y:=v) (by simpa using hu) (by simpa using hv) λ h1 c1 c2 c3 c4 c5 c6 c7=>?_
  refine ⟨_,rfl,wpAny_letOwnedTupleGo_zip (s:={ s with heap:=h1 }) c1 λ h2 d1 d2=>?_⟩
  have lt:z < s.heap.objs.size:=Heap.lt_size e1
  have kp:∀ c o,c ∉ [z,TO,p,q]->s.heap.get? c=some o->h2.get? c=some o:=λ c o hc e=>d2.extBut _ _ (λ q=>hc (by simp [q])) (c7 c o hc e)
  have hn:h2.get? s.heap.objs.size=some { cls:=.type "tuple",data:=.seq #[u,v] }:=d2.extBut _ _ (Nat.ne_of_gt lt) c5
  have I2:Inv X pins σ (upd H s.heap.objs.size (.tup [xs[i],ys[i]])) { s with heap:=h2 }:=I.turnNew (t':=s.toks) (ch:=[z,TO,p,q]) (λ c hc=>hf c (by simp only [List.mem_cons,List.not_mem_nil,or_false] at hc ⊢;rcases hc with h|h|h|h<;>simp [h])) kp (Nat.le_refl _) ⟨(show 2<=sizeLine by decide),[u,v],.cons ru (.cons rv .nil),⟨_,hn,rfl,_,rfl⟩⟩
  have fr:H s.heap.objs.size=none:=I.hok.fresh (Nat.le_refl _)
  refine ⟨.ref s.heap.objs.size,_,I2,rfl,⟨_,_,_,fr,rfl,hx,hy,rfl⟩,⟨d1,d2.extBut _ _ (Ne.symm z1) (c7 TI _ (by simp [Ne.symm z1,t1,t2,t3]) e2),⟨u,v,d2.extBut _ _ (Ne.symm z2) c2⟩,c3.1.at λ o e=>d2.extBut _ _ (Ne.symm z3) e,c4.1.at λ o e=>d2.extBut _ _ (Ne.symm z4) e⟩,λ c hc=>?_⟩
  obtain ⟨o,ho,_⟩:∃ o,s.heap.get? c=some o/\True:=by
   simp only [List.mem_cons,List.not_mem_nil,or_false] at hc
   rcases hc with rfl|rfl|rfl|rfl|rfl
   ·exact ⟨_,e1,trivial⟩
   ·exact ⟨_,e2,trivial⟩
   ·exact ⟨_,e3,trivial⟩
   ·obtain ⟨o,_,e,_⟩:=e4.obj;exact ⟨o,e,trivial⟩
   ·obtain ⟨o,_,e,_⟩:=e5.obj;exact ⟨o,e,trivial⟩
  rw [upd_ne (Nat.ne_of_lt (Heap.lt_size ho))]
  exact free c hc
 done:=by
  intro X hP hw hK hc i pins s σ H E I hf st hg
  subst hP hw hK
  obtain ⟨e1,e2,⟨u0,v0,e3⟩,e4,e5⟩:=st
  obtain ⟨ha,hb,l⟩:=hg
  obtain ⟨as,ra,sa⟩:=I.sq ha
  obtain ⟨bs,rb,sb⟩:=I.sq hb
  have free:∀ c∈[z,TI,TO,p,q],H c=none:=λ c h=>(hf c h).1
  have naz:∀ c∈[z,TI,TO,p,q],a ≠ c:=λ c h=>ha.ne (free c h)
  have nbz:∀ c∈[z,TI,TO,p,q],b ≠ c:=λ c h=>hb.ne (free c h)
  simp only [List.nodup_cons,List.mem_cons,List.not_mem_nil,or_false,not_or,not_false_eq_true,and_true,List.nodup_nil] at nd
  obtain ⟨⟨z1,z2,z3,z4⟩,⟨t1,t2,t3⟩,⟨w1,w2⟩,y1⟩:=nd
  have S:=src_sq (prog:=X.prog) (w:=X.w) ka p a (naz p (by simp)) as.toArray
  have T:=src_sq (prog:=X.prog) (w:=X.w) kb q b (nbz q (by simp)) bs.toArray
  have D:Apart2 z TI TO p q [p,a] [q,b]:=⟨⟨Ne.symm z1,t1,t2,t3⟩,z2,by simp [z3,Ne.symm (naz z (by simp))],by simp [z4,Ne.symm (nbz z (by simp))],by simp [w1,Ne.symm (naz TO (by simp))],by simp [w2,Ne.symm (nbz TO (by simp))],by simp [y1,Ne.symm (nbz p (by simp))],by simp [Ne.symm y1,Ne.symm (naz q (by simp))]⟩
  have la:=ra.length
  have lb:=rb.length
  refine zip2_next_end (I.ok.hd hc) S T D e1 e2 e3 ⟨e4,sa⟩ ⟨e5,sb⟩ (l.imp (λ h=>by simp;omega) λ h=>by simp;omega) λ h1 kp=>⟨rfl,I.turnL (t':=s.toks) (ch:=[z,TO,p,q]) (λ c hc=>hf c (by simp only [List.mem_cons,List.not_mem_nil,or_false] at hc ⊢;rcases hc with h|h|h|h<;>simp [h])) kp⟩
 self:=λ _ _ _ _ _ st h=>wpAny_pyIter_zip st.1 h
def kZ2 (ka:Bool) (a b:Addr) (xs:List V) (H:Hp) (R:It->Hp->Prop):HO->Prop:=λ o=>match o with
 | .lst ys=>R (Itz ka false a b xs ys) H
 | .tup ys=>R (Itz ka true a b xs ys) H
 | _=>False
theorem m_kZ2_l (ka:Bool) (a b:Addr) (xs ys:List V) (H:Hp) (R:It->Hp->Prop):kZ2 ka a b xs H R (.lst ys)=R (Itz ka false a b xs ys) H:=rfl
def kZ1 (a b:Addr) (H:Hp) (R:It->Hp->Prop):HO->Prop:=λ o=>match o with
 | .lst xs=>optK (H b) (kZ2 false a b xs H R)
 | .tup xs=>optK (H b) (kZ2 true a b xs H R)
 | _=>False
theorem m_kZ1_l (a b:Addr) (xs:List V) (H:Hp) (R:It->Hp->Prop):kZ1 a b H R (.lst xs)=optK (H b) (kZ2 false a b xs H R):=rfl
def kZ0 (R:It->Hp->Prop):List V->Hp->Prop:=λ vs H=>match vs with
 | [.ref a,.ref b]=>optK (H a) (kZ1 a b H R)
 | _=>False
theorem m_kZ0 (R:It->Hp->Prop) (a b:Addr) (H:Hp):kZ0 R [.ref a,.ref b] H=optK (H a) (kZ1 a b H R):=rfl
def iZip (ta:TA):TI:=λ σ H R=>ta σ H (kZ0 R)
theorem m_iZip (ta:TA) (σ:St) (H:Hp) (R:It->Hp->Prop):iZip ta σ H R=ta σ H (kZ0 R):=rfl
theorem kZ0_ex {R:It->Hp->Prop}{vs:List V}{H:Hp}(h:kZ0 R vs H):∃ a b ka kb xs ys,vs=[.ref a,.ref b]/\SqK ka H a xs/\SqK kb H b ys/\R (Itz ka kb a b xs ys) H:=by
 unfold kZ0 at h
 split at h
 ·rename_i a b
  obtain ⟨o,e,h⟩:=optK_ex h
  unfold kZ1 at h
  split at h
  ·rename_i xs
   obtain ⟨o',e',h⟩:=optK_ex h
   unfold kZ2 at h
   split at h
   ·exact ⟨a,b,false,false,xs,_,rfl,e,e',h⟩
   ·exact ⟨a,b,false,true,xs,_,rfl,e,e',h⟩
   ·exact h.elim
  ·rename_i xs
   obtain ⟨o',e',h⟩:=optK_ex h
   unfold kZ2 at h
   split at h
   ·exact ⟨a,b,true,false,xs,_,rfl,e,e',h⟩
   ·exact ⟨a,b,true,true,xs,_,rfl,e,e',h⟩
   ·exact h.elim
  ·exact h.elim
 ·exact h.elim
section
variable {X:Cx}
theorem pi_zip {a b:Expr}{elts:List Expr} {x1}{tp:Pos}{ta:TA}{p pos:Pos}(hg:Gl X "zip") (hm:X.mg "zip"=none) (ha:PA X [a,b] ta) (hs:starEach [a,b] X.env=[(false,eval a X.env),(false,eval b X.env)]:=by rfl) (hs2:starEach [b] X.env=[(false,eval b X.env)]:=by rfl) :
  PI X (.Tuple elts x1 tp) (.Call (.Name "zip" p) [a,b] [] pos) (iZip ta):=by
 intro pins s σ H R I h
 refine Call_ (ld_blt I hg hm (show bootBuiltins "zip"=some (.type "zip") by decide +kernel) (PyProof.Rows.callWith_type1 (thn (ha pos pins s σ H _ I h) λ us s1 ⟨vs,H1,I1,r1,q1⟩=>?_) (by rw [hs,hs2]) (by rw [hs2];rfl)))
 obtain ⟨a,b,ka,kb,xs,ys,rfl,sa,sb,q⟩:=kZ0_ex q1
 cases r1 with
 | cons r rr=>
  cases rr with
  | cons r' rr=>
   cases rr
   cases r
   cases r'
   obtain ⟨as,ra,s1a⟩:=I1.sq sa
   obtain ⟨bs,rb,s1b⟩:=I1.sq sb
   refine call_zq s1a s1b λ h' n hn e1 e2 e3 e4 e5 e6 e7=>?_
   have I2:Inv X pins σ H1 { s1 with heap:=h' }:=I1.kept (t':=s1.toks) e7
   refine wpAny_pyIter_zip (s:={ s1 with heap:=h' }) e1 ⟨n+4,[n+4,n+2,n+3,n,n+1],_,_,H1,rfl,I2,turn_zip ka kb a b (n+4) (n+2) (n+3) n (n+1) xs ys (by simp),⟨e1,e2,⟨_,_,e3⟩,e4,e5⟩,λ c hc=>?_,q⟩
   have hle:s1.heap.objs.size<=c:=by
    rw [←hn]
    simp only [List.mem_cons,List.not_mem_nil,or_false] at hc
    rcases hc with rfl|rfl|rfl|rfl|rfl
    ·exact Nat.le_add_right ..
    ·exact Nat.le_add_right ..
    ·exact Nat.le_add_right ..
    ·exact Nat.le_refl _
    ·exact Nat.le_add_right ..
   exact I1.fpOk hle (I1.hok.fresh hle)
end
end L2
namespace L2
open PySem PySem.Spec PyProof.Rows
def kCm2 (te:TE) (σ2:St) (N1:VK) (N0:Hp->Prop):Bool->Hp->Prop:=λ b H=>if b=true then te σ2 H N1 else N0 H
theorem m_kCm2 (te:TE) (σ2:St) (N1:VK) (N0:Hp->Prop) (b:Bool) (H:Hp):kCm2 te σ2 N1 N0 b H=(if b=true then te σ2 H N1 else N0 H):=rfl
def kCm (k:Nat) (tt:TT) (te:TE) (σ:St) (N1:VK) (N0:Hp->Prop):St->Hp->Prop:=λ σ2 H=>(∃ vs:St,vs.length=k/\σ2=vs++σ)/\tt σ2 H (kCm2 te σ2 N1 N0)
theorem m_kCm_1 (tt:TT) (te:TE) (σ:St) (N1:VK) (N0:Hp->Prop) (a:Option V) (H:Hp):kCm 1 tt te σ N1 N0 (a::σ) H=tt (a::σ) H (kCm2 te (a::σ) N1 N0):=propext ⟨λ h=>h.2,λ h=>⟨⟨[a],rfl,rfl⟩,h⟩⟩
theorem m_kCm_2 (tt:TT) (te:TE) (σ:St) (N1:VK) (N0:Hp->Prop) (a b:Option V) (H:Hp):kCm 2 tt te σ N1 N0 (a::b::σ) H=tt (a::b::σ) H (kCm2 te (a::b::σ) N1 N0):=propext ⟨λ h=>h.2,λ h=>⟨⟨[a,b],rfl,rfl⟩,h⟩⟩
theorem m_rep_1 (σ:St):List.replicate 1 (none:Option V)++σ=none::σ:=rfl
theorem m_rep_2 (σ:St):List.replicate 2 (none:Option V)++σ=none::none::σ:=rfl
def Al {α:Type}(R:α->V->Prop) (zs:List α) (ys:List V):Prop:=ys.length=zs.length/\∀ (i:Nat) z y,zs[i]? = some z->ys[i]? = some y->R z y
theorem Al.nil {α:Type}{R:α->V->Prop}:Al R [] []:=⟨rfl,λ i z y h=>by simp at h⟩
theorem Al.snoc {α:Type}{R:α->V->Prop}{zs:List α}{ys:List V}{z:α}{y:V}(h:Al R zs ys) (r:R z y):Al R (zs++[z]) (ys++[y]):=by
 refine ⟨by simp [h.1],λ i z' y' h1 h2=>?_⟩
 by_cases hi:i < zs.length
 ·rw [List.getElem?_append_left hi] at h1
  rw [List.getElem?_append_left (by rw [h.1];exact hi)] at h2
  exact h.2 i z' y' h1 h2
 ·rw [List.getElem?_append_right (by omega)] at h1
  rw [List.getElem?_append_right (by rw [h.1];omega),h.1] at h2
  by_cases h0:i - zs.length=0
  ·rw [h0] at h1 h2;simp at h1 h2;subst h1;subst h2;exact r
  ·rw [List.getElem?_eq_none (by simp;omega)] at h1;cases h1
theorem Al.imp {α:Type}{R S:α->V->Prop}{zs:List α}{ys:List V}(h:Al R zs ys) (f:∀ z y,R z y->S z y):Al S zs ys:=⟨h.1,λ i z y a b=>f z y (h.2 i z y a b)⟩
theorem Al.map {α:Type}{f:α->V}{zs:List α}{ys:List V}(h:Al (λ z y=>y=f z) zs ys):ys=zs.map f:=by
 apply List.ext_getElem?
 intro i
 rw [List.getElem?_map]
 by_cases hi:i < zs.length
 ·have e1:zs[i]? = some zs[i]:=List.getElem?_eq_getElem hi
  have e2:ys[i]? = some (ys[i]'(by rw [h.1];exact hi)):=List.getElem?_eq_getElem _
  rw [e1,e2,h.2 i _ _ e1 e2];rfl
 ·have:=h.1;rw [List.getElem?_eq_none (show ys.length<=i by omega),List.getElem?_eq_none (show zs.length<=i by omega)];rfl
section
variable {k:Nat}{g:TG}{tt:TT}{te:TE}{σ:St}{Q:VK}{H:Hp}{K:PySem.W.Frag}
theorem comp_rel {α:Type}{J:It}(zs:List α) (c:α->Bool) (P:α->V->Hp->Prop) (R:Addr->α->V->Hp->Prop)
  (hgo:∀ i z H',zs[i]? = some z->Ext H H'->J.go i H'/\∀ x H'',J.yld i H' x H''->Ext H' H''/\P z x H'')
  (hst:∀ H',Ext H H'->J.stop zs.length H')
  (hR1:∀ D z y H1 H2,R D z y H1->Ext H1 H2->R D z y H2) (hR2:∀ D z y H1 o,R D z y H1->R D z y (upd H1 D o))
  (hl:zs.length<=sizeLine)
  (hs:∀ D z x H' N1 N0,z∈zs->H D=none->Ext H H'->(∃ ys,H' D=some (.lst ys))->P z x H'->(c z=true->∀ y H'',Ext H' H''->R D z y H''->N1 y H'')->(c z=false->∀ H'',Ext H' H''->N0 H'')->g x (List.replicate k none++σ) H' (kCm k tt te σ N1 N0))
  (hd:∀ D ys H',H D=none->Ext H H'->H' D=some (.lst ys)->Al (λ z y=>R D z y H') (zs.filter c) ys->Q (.ref D) H'):kComp k g tt te σ Q J H:=by
 intro D hD
 refine ⟨λ i m ys H'=>m=zs.length - i/\i<=zs.length/\Ext H H'/\H' D=some (.lst ys)/\Al (λ z y=>R D z y H') ((zs.take i).filter c) ys,⟨zs.length,by simp,Nat.zero_le _,Ext.new hD,upd_same,by simpa using Al.nil⟩,?_⟩
 rintro i m ys H' ⟨rfl,hi,e,hD',al⟩
 by_cases hlt:i < zs.length
 ·have hz:zs[i]? = some zs[i]:=List.getElem?_eq_getElem hlt
  obtain ⟨go,y⟩:=hgo i zs[i] H' hz e
  have tk:zs.take (i+1)=zs.take i++[zs[i]]:=by rw [List.take_succ,hz];rfl
  have ln:ys.length < sizeLine:=by
   have h1:=al.1
   have h2:=List.length_filter_le c (zs.take i)
   simp only [List.length_take] at h2
   omega
  refine .inr ⟨go,λ ys' H2=>Ext H H2/\H2 D=some (.lst ys')/\Al (λ z y=>R D z y H2) ((zs.take (i+1)).filter c) ys',λ ys' H2 p=>⟨zs.length - (i+1),by omega,rfl,hlt,p⟩,λ x H2 z=>?_⟩
  obtain ⟨e2,p2⟩:=y x H2 z
  refine hs D zs[i] x H2 (kC3 D ys _) _ (List.getElem_mem hlt) hD (e.trans e2) ⟨ys,e2.at hD'⟩ p2 (λ hc y H3 e3 r3=>?_) λ hc H3 e3=>?_
  ·refine ⟨e3.at (e2.at hD'),ln,(e.trans (e2.trans e3)).put hD,upd_same,?_⟩
   rw [tk,List.filter_append,show [zs[i]].filter c=[zs[i]] by simp [hc]]
   exact Al.snoc (al.imp λ z y r=>hR2 _ _ _ _ _ (hR1 _ _ _ _ _ r (e2.trans e3))) (hR2 _ _ _ _ _ r3)
  ·refine ⟨e.trans (e2.trans e3),(e2.trans e3).at hD',?_⟩
   rw [tk,List.filter_append,show [zs[i]].filter c=[] by simp [hc],List.append_nil]
   exact al.imp λ z y r=>hR1 _ _ _ _ _ r (e2.trans e3)
 ·have e':i=zs.length:=by omega
  subst e'
  rw [List.take_length] at al
  exact .inl ⟨hst H' e,hd D ys H' hD e hD' al⟩
theorem comp_fm {α:Type}{J:It}(zs:List α) (c:α->Bool) (f:α->V) (P:α->V->Hp->Prop)
  (hgo:∀ i z H',zs[i]? = some z->Ext H H'->J.go i H'/\∀ x H'',J.yld i H' x H''->Ext H' H''/\P z x H'')
  (hst:∀ H',Ext H H'->J.stop zs.length H') (hl:zs.length<=sizeLine)
  (hs:∀ D z x H' N1 N0,z∈zs->H D=none->Ext H H'->P z x H'->(c z=true->∀ H'',Ext H' H''->N1 (f z) H'')->(c z=false->∀ H'',Ext H' H''->N0 H'')->g x (List.replicate k none++σ) H' (kCm k tt te σ N1 N0))
  (hd:∀ D H',H D=none->Ext H H'->H' D=some (.lst ((zs.filter c).map f))->Q (.ref D) H'):kComp k g tt te σ Q J H:=
 comp_rel zs c P (λ _ z y _=>y=f z) hgo hst (λ _ _ _ _ _ r _=>r) (λ _ _ _ _ _ r=>r) hl (λ D z x H' N1 N0 hz hD e _ p k1 k0=>hs D z x H' N1 N0 hz hD e p (λ hc H'' e'=>k1 hc _ H'' e' rfl) k0) λ D ys H' hD e hD' al=>hd D H' hD e (by rw [←al.map];exact hD')
theorem wk_rng {lo:Int}{n:Nat}:(∀ i z H',(List.range n)[i]? = some z->Ext H H'->(Itr lo n).go i H'/\∀ x H'',(Itr lo n).yld i H' x H''->Ext H' H''/\x=.int (lo+(z:Nat)))/\∀ H',Ext H H'->(Itr lo n).stop (List.range n).length H':=by
 refine ⟨λ i z H' hz _=>?_,λ H' _=>by simp [Itr]⟩
 obtain ⟨h1,h2⟩:=List.getElem?_eq_some_iff.mp hz
 have e:i=z:=by simpa using h2
 subst e
 exact ⟨(show i < n by simpa using h1),λ x H'' y=>⟨by rw [y.1];exact Ext.refl _,y.2⟩⟩
theorem wk_lst {a:Addr}{xs:List V}(h:H a=some (.lst xs)):(∀ i z H',xs[i]? = some z->Ext H H'->(Itl K a).go i H'/\∀ x H'',(Itl K a).yld i H' x H''->Ext H' H''/\(x=z/\H'' a=some (.lst xs)))/\∀ H',Ext H H'->(Itl K a).stop xs.length H':=
 ⟨λ i z H' hz e=>⟨⟨xs,z,SqL.of (e.at h),hz⟩,λ x H'' y=>⟨by rw [y.1];exact Ext.refl _,Option.some.inj ((y.2 xs (SqL.of (e.at h))).symm.trans hz),by rw [y.1];exact e.at h⟩⟩,λ H' e=>⟨xs,SqL.of (e.at h),Nat.le_refl _⟩⟩
theorem SqK.ext {kk:Bool}{H H':Hp}{a:Addr}{xs:List V}(h:SqK kk H a xs) (e:Ext H H'):SqK kk H' a xs:=by
 cases kk
 ·exact e.at (show H a=some (.lst xs) from h)
 ·exact e.at (show H a=some (.tup xs) from h)
def zipP (z:V × V) (x:V) (H:Hp):Prop:=∃ p,x=.ref p/\H p=some (.tup [z.1,z.2])
theorem wk_zip {ka kb:Bool}{a b:Addr}{xs ys:List V}(ha:SqK ka H a xs) (hb:SqK kb H b ys):(∀ i z H',(xs.zip ys)[i]? = some z->Ext H H'->(Itz ka kb a b xs ys).go i H'/\∀ x H'',(Itz ka kb a b xs ys).yld i H' x H''->Ext H' H''/\zipP z x H'')/\∀ H',Ext H H'->(Itz ka kb a b xs ys).stop (xs.zip ys).length H':=by
 refine ⟨λ i z H' hz e=>?_,λ H' e=>⟨ha.ext e,hb.ext e,?_⟩⟩
 ·obtain ⟨h1,h2⟩:=List.getElem?_eq_some_iff.mp hz
  rw [List.length_zip] at h1
  refine ⟨⟨ha.ext e,hb.ext e,by omega,by omega⟩,λ x H'' y=>?_⟩
  obtain ⟨p,u,v,hp,rfl,hu,hv,rfl⟩:=y
  refine ⟨Ext.new hp,p,rfl,?_⟩
  rw [upd_same]
  rw [List.getElem?_eq_getElem (by omega)] at hu hv
  cases hu;cases hv
  rw [←h2,List.getElem_zip]
 ·rw [List.length_zip];omega
theorem for_zip {tb:TS}{nx:St->Hp->Prop}{rt:VK}{bk ct:St->Hp->Prop}{ka kb:Bool}{a b:Addr}{xs ys:List V}(Pv:Nat->St->Hp->Prop) (h0:Pv 0 σ H) (hl:∀ i σ H,Pv i σ H->SqK ka H a xs/\SqK kb H b ys)
  (hs:∀ i u v p σ H H',xs[i]? = some u->ys[i]? = some v->Pv i σ H->H p=none->Ext H H'->H' p=some (.tup [u,v])->g (.ref p) σ H' (kBody tb ⟨Pv (i+1),rt,nx,Pv (i+1)⟩)) (hd:∀ σ H,Pv (min xs.length ys.length) σ H->nx σ H):kFor g tb ⟨nx,rt,bk,ct⟩ σ (Itz ka kb a b xs ys) H:=by
 refine ⟨λ i m σ H=>m=min xs.length ys.length - i/\i<=min xs.length ys.length/\Pv i σ H,⟨min xs.length ys.length,by simp,Nat.zero_le _,h0⟩,?_⟩
 rintro i m σ H ⟨rfl,hi,p⟩
 obtain ⟨qa,qb⟩:=hl i σ H p
 by_cases hlt:i < min xs.length ys.length
 ·refine .inr ⟨⟨qa,qb,by omega,by omega⟩,Pv (i+1),λ σ' H' p'=>⟨min xs.length ys.length - (i+1),by omega,rfl,hlt,p'⟩,λ x H' y=>?_⟩
  obtain ⟨r,u,v,hr,rfl,hu,hv,rfl⟩:=y
  exact hs i u v r σ H _ hu hv p hr (Ext.new hr) upd_same
 ·have e:i=min xs.length ys.length:=by omega
  subst e
  exact .inl ⟨⟨qa,qb,by omega⟩,hd σ H p⟩
end
def compB (sc:Scope) (N:List Str) (scope:Scope) (N':List Str) (k:Nat):Bool:=
 scope.names.all (λ y=>!(y.2 == .cell)) && (scope.kind == .function) && scope.names.all (λ y=>!(y.2 == .local) || scope.names.lookup y.1 == some .local) && scope.names.all (λ y=>!(y.2 == .free) || sc.names.lookup y.1 == some .cell) && decide (N'.length=k+N.length) &&
  ((N'.drop k).zip N).all (λ p=>(!(scope.names.lookup p.1 == some .free) || decide (p.1=p.2)) && !(scope.names.lookup p.1 == some .local))
theorem comp_ok {X:Cx}{scope:Scope}{N':List Str}{k:Nat}(sc:Scope) (N:List Str) (h1:X.env.scope=sc) (h2:X.N=N) (h:compB sc N scope N' k=true):CompOk X scope N' k:=by
 unfold compB at h
 simp only [Bool.and_eq_true,decide_eq_true_eq] at h
 obtain ⟨⟨⟨⟨⟨a1,a2⟩,a3⟩,a4⟩,a5⟩,a6⟩:=h
 rw [List.all_eq_true] at a1 a3 a4 a6
 have pr:∀ i x,N'[k+i]? = some x->∃ y,N[i]? = some y/\(x,y)∈(N'.drop k).zip N:=λ i x hx=>by
  have h0:=(List.getElem?_eq_some_iff.mp hx).1
  have hi:i < N.length:=by omega
  have e1:(N'.drop k)[i]? = some x:=by rw [List.getElem?_drop];exact hx
  have e2:N[i]? = some N[i]:=List.getElem?_eq_getElem hi
  refine ⟨_,e2,List.mem_of_getElem? (i:=i) ?_⟩
  rw [List.getElem?_zip_eq_some]
  exact ⟨e1,e2⟩
 refine ⟨λ y hy e=>?_,by simpa using a2,λ y hy e=>?_,λ y hy e=>?_,by rw [h2];exact a5,λ i x hx hf=>?_,λ i x hx hf=>?_⟩
 ·have:=a1 y hy;rw [e] at this;simp at this
 ·have:=a3 y hy;rw [e] at this;simpa using this
 ·have:=a4 y hy;rw [e] at this;rw [h1];simpa using this
 ·obtain ⟨y,hy,hm⟩:=pr i x hx
  have:=a6 _ hm
  simp only [hf] at this
  rw [h2,hy]
  simp at this
  rw [this]
 ·obtain ⟨y,hy,hm⟩:=pr i x hx
  have:=a6 _ hm
  simp [hf] at this
end L2
namespace L2
open PySem PySem.Spec PyProof.Rows
def kFldV (H:Hp) (Q:VK):V->Prop:=λ v=>Q v H
theorem m_kFldV (H:Hp) (Q:VK) (v:V):kFldV H Q v=Q v H:=rfl
def kFldO (K:W.Frag) (f:Str) (H:Hp) (Q:VK):HO->Prop:=λ o=>match o with
 | .ins C dx fs=>Cls K C/\NoAttr K C f/\optK (fs.lookup f) (kFldV H Q)
 | _=>False
theorem m_kFldO (K:W.Frag) (f:Str) (H:Hp) (Q:VK) (C dx:Addr) (fs:List (Str × V)):kFldO K f H Q (.ins C dx fs)=(Cls K C/\NoAttr K C f/\optK (fs.lookup f) (kFldV H Q)):=rfl
def kFld (K:W.Frag) (f:Str) (Q:VK):VK:=λ x H=>match x with
 | .ref a=>optK (H a) (kFldO K f H Q)
 | _=>False
theorem m_kFld (K:W.Frag) (f:Str) (Q:VK) (a:Addr) (H:Hp):kFld K f Q (.ref a) H=optK (H a) (kFldO K f H Q):=rfl
def nFld (K:W.Frag) (ta:TE) (f:Str):TE:=λ σ H Q=>ta σ H (kFld K f Q)
theorem m_nFld (K:W.Frag) (ta:TE) (f:Str) (σ:St) (H:Hp) (Q:VK):nFld K ta f σ H Q=ta σ H (kFld K f Q):=rfl
theorem kFld_ex {K:W.Frag}{f:Str}{Q:VK}{x:V}{H:Hp}(h:kFld K f Q x H):∃ a C dx fs v,x=.ref a/\H a=some (.ins C dx fs)/\Cls K C/\NoAttr K C f/\fs.lookup f=some v/\Q v H:=by
 unfold kFld at h
 split at h
 ·obtain ⟨o,e,h⟩:=optK_ex h
  unfold kFldO at h
  split at h
  ·obtain ⟨c,n,h⟩:=h
   obtain ⟨v,l,q⟩:=optK_ex h
   exact ⟨_,_,_,_,v,rfl,e,c,n,l,q⟩
  ·exact h.elim
 ·exact h.elim
section
variable {X:Cx}{e o value:Expr}{ta tv:TE}{f:Str}{pos pos':Pos}
theorem pe_nFld (he:PE X e ta) (hb:attributeBase e f X.env (eval e X.env)=eval e X.env):PE X (.Attribute e f pos) (nFld X.K ta f):=by
 intro pins s σ H Q I h
 refine attr_of hb (thn (he pins s σ H _ I h) λ u s1 ⟨x,H1,I1,rx,q1⟩=>?_)
 obtain ⟨a,C,dx,fs,v,ex,ea,c,n,l,q⟩:=kFld_ex q1
 subst ex
 obtain rfl:u=Value.ref a:=rx
 exact getattr_ok I1 ea c n l λ u' s2 I2 ru=>⟨v,H1,I2,ru,q⟩
def kSetO (K:W.Frag) (f:Str) (y:V) (a:Addr) (σ:St) (nx:St->Hp->Prop) (H:Hp):HO->Prop:=λ o=>match o with
 | .ins C dx fs=>Cls K C/\NoAttr K C f/\fs.length < 1000/\nx σ (upd H a (.ins C dx (putF f y fs)))
 | _=>False
theorem m_kSetO (K:W.Frag) (f:Str) (y:V) (a:Addr) (σ:St) (nx:St->Hp->Prop) (H:Hp) (C dx:Addr) (fs:List (Str × V)):kSetO K f y a σ nx H (.ins C dx fs)=(Cls K C/\NoAttr K C f/\fs.length < 1000/\nx σ (upd H a (.ins C dx (putF f y fs)))):=rfl
def kSet1 (K:W.Frag) (f:Str) (y:V) (σ:St) (nx:St->Hp->Prop):VK:=λ x H=>match x with
 | .ref a=>optK (H a) (kSetO K f y a σ nx H)
 | _=>False
theorem m_kSet1 (K:W.Frag) (f:Str) (y:V) (σ:St) (nx:St->Hp->Prop) (a:Addr) (H:Hp):kSet1 K f y σ nx (.ref a) H=optK (H a) (kSetO K f y a σ nx H):=rfl
def kSet0 (K:W.Frag) (f:Str) (ta:TE) (σ:St) (nx:St->Hp->Prop):VK:=λ y H=>ta σ H (kSet1 K f y σ nx)
theorem m_kSet0 (K:W.Frag) (f:Str) (ta:TE) (σ:St) (nx:St->Hp->Prop) (y:V) (H:Hp):kSet0 K f ta σ nx y H=ta σ H (kSet1 K f y σ nx):=rfl
def nSetF (K:W.Frag) (ta tv:TE) (f:Str):TS:=λ D σ H=>tv σ H (kSet0 K f ta σ D.nx)
theorem m_nSetF (K:W.Frag) (ta tv:TE) (f:Str) (nx:St->Hp->Prop) (rt:VK) (bk ct:St->Hp->Prop) (σ:St) (H:Hp):nSetF K ta tv f ⟨nx,rt,bk,ct⟩ σ H=tv σ H (kSet0 K f ta σ nx):=rfl
theorem ps_nSetF (ha:PE X o ta) (hv:PE X value tv) (hs:swapsWith value (some (.Attribute o f pos')) pos.line X.env=pure false):PS X (.Assign [.Attribute o f pos'] value pos) (nSetF X.K ta tv f):=by
 intro pins s σ H D I h
 refine plainObj_wpAny_Assign_Attribute (thn (hv pins s σ H _ I h) λ u s1 ⟨y,H1,I1,ry,q⟩=>thn (ha pins s1 σ H1 _ I1 q) λ ov s2 ⟨x,H2,I2,rx,q1⟩=>?_) hs
 unfold kSet1 at q1
 split at q1
 ·rename_i a
  obtain rfl:ov=Value.ref a:=rx
  obtain ⟨ob,ea,q1⟩:=optK_ex q1
  unfold kSetO at q1
  split at q1
  ·obtain ⟨c,n,l,q2⟩:=q1
   exact setattr_ok I2 ea c n l ry λ s3 I3=>⟨σ,_,I3,q2⟩
  ·exact q1.elim
 ·exact q1.elim
end
def kMethA (sp:Sp) (dvs:List V) (E:XK) (a:Addr) (Q:VK):List V->Hp->Prop:=λ vs H=>sp (.ref a::(vs++dvs)) H Q E
theorem m_kMethA_0 (sp:Sp) (dvs:List V) (E:XK) (a:Addr) (Q:VK) (H:Hp):kMethA sp dvs E a Q [] H=sp (.ref a::dvs) H Q E:=rfl
theorem m_kMethA_1 (sp:Sp) (dvs:List V) (E:XK) (a:Addr) (Q:VK) (x:V) (H:Hp):kMethA sp dvs E a Q [x] H=sp (.ref a::x::dvs) H Q E:=rfl
theorem m_kMethA_2 (sp:Sp) (dvs:List V) (E:XK) (a:Addr) (Q:VK) (x y:V) (H:Hp):kMethA sp dvs E a Q [x,y] H=sp (.ref a::x::y::dvs) H Q E:=rfl
def kMethO (C:Addr) (m:Str) (sp:Sp) (dvs:List V) (E:XK) (t:TA) (σ:St) (Q:VK) (a:Addr) (H:Hp):HO->Prop:=λ o=>match o with
 | .ins C' dx fs=>C'=C/\fs.lookup m=none/\t σ H (kMethA sp dvs E a Q)
 | _=>False
theorem m_kMethO (C:Addr) (m:Str) (sp:Sp) (dvs:List V) (E:XK) (t:TA) (σ:St) (Q:VK) (a:Addr) (H:Hp) (dx:Addr) (fs:List (Str × V)):kMethO C m sp dvs E t σ Q a H (.ins C dx fs)=(fs.lookup m=none/\t σ H (kMethA sp dvs E a Q)):=propext ⟨λ h=>h.2,λ h=>⟨rfl,h⟩⟩
def kMeth (C:Addr) (m:Str) (sp:Sp) (dvs:List V) (E:XK) (t:TA) (σ:St) (Q:VK):VK:=λ x H=>match x with
 | .ref a=>optK (H a) (kMethO C m sp dvs E t σ Q a H)
 | _=>False
theorem m_kMeth (C:Addr) (m:Str) (sp:Sp) (dvs:List V) (E:XK) (t:TA) (σ:St) (Q:VK) (a:Addr) (H:Hp):kMeth C m sp dvs E t σ Q (.ref a) H=optK (H a) (kMethO C m sp dvs E t σ Q a H):=rfl
def nMeth (C:Addr) (m:Str) (sp:Sp) (dvs:List V) (E:XK) (ta:TE) (t:TA):TE:=λ σ H Q=>ta σ H (kMeth C m sp dvs E t σ Q)
theorem m_nMeth (C:Addr) (m:Str) (sp:Sp) (dvs:List V) (E:XK) (ta:TE) (t:TA) (σ:St) (H:Hp) (Q:VK):nMeth C m sp dvs E ta t σ H Q=ta σ H (kMeth C m sp dvs E t σ Q):=rfl
theorem kMeth_ex {C:Addr}{m:Str}{sp:Sp}{dvs:List V}{E:XK}{t:TA}{σ:St}{Q:VK}{x:V}{H:Hp}(h:kMeth C m sp dvs E t σ Q x H):∃ a dx fs,x=.ref a/\H a=some (.ins C dx fs)/\fs.lookup m=none/\t σ H λ vs H2=>sp (x::(vs++dvs)) H2 Q E:=by
 unfold kMeth at h
 split at h
 ·obtain ⟨o,e,h⟩:=optK_ex h
  unfold kMethO at h
  split at h
  ·obtain ⟨rfl,l,h⟩:=h
   exact ⟨_,_,_,rfl,e,l,h⟩
  ·exact h.elim
 ·exact h.elim
section
variable {X:Cx}{CX:CXT}{k:Nat}{f C:Addr}{fd:FuncData}{ps:List Str}{sp:Sp}{dvs:List V}{ds:List Value}{E:XK}{x m:Str}{p pos apos:Pos}{e o:Expr}{es:List Expr}{ta:TE}{t:TA}
theorem pe_nMeth {pl:Sem Bool}(he:PE X o ta) (c:Cls X.K C) (hm:Meth X.K C m f) (F:FnOk X.prog X.w X.K X.mg X.base CX k f fd ps sp) (hr:Room k X.A) (hb:Binds X.K fd ps ds) (hd:Vals dvs ds) (hx:Passes CX X E) (ha:PA X (e::es) t)
  (hst:starEach (e::es) X.env=(false,eval e X.env)::starEach es X.env:=by rfl) (hpl:(backTo pos (starEach es X.env)).any (·.1)=false:=by rfl)
  (ht:eval (.Call (.Attribute o m apos) (e::es) [] pos) X.env=(do
   let ov ←eval o X.env
   standAt apos.atName
   let (f,first) ←holding [ov] (getMethod ov m pl)
   callWith pos f first (backTo pos (starEach (e::es) X.env)) (backToKw pos (keywordEach [] X.env))):=by rfl) :
  PE X (.Call (.Attribute o m apos) (e::es) [] pos) (nMeth C m sp dvs E ta t):=by
 intro pins s σ H Q I h
 refine W.methodCall_KW (pl:=pl) (thn (he pins s σ H _ I h) λ u s1 ⟨x,H1,I1,rx,q0⟩=>?_) ht
 obtain ⟨a,dx,fs,ex,ea,l,q⟩:=kMeth_ex q0
 subst ex
 obtain rfl:u=Value.ref a:=rx
 refine getmeth_ok I1 ea c hm l ?_
 refine W.callWith_K (first:=[.ref a]) (h₀:=X.base) I.ok.mod.kin hm.kp (thn (ha pos pins s1 σ H1 _ I1 q) λ us s2 ⟨vs,H2,I2,r,q2⟩=>⟨I2.kIn,?_⟩) hst hpl
 exact run_fn (us:=.ref a::us) (vs:=.ref a::vs) F hr hb hd hx I2 (.cons rfl r) q2
theorem pe_nMeth0 {pl:Sem Bool}(he:PE X o ta) (c:Cls X.K C) (hm:Meth X.K C m f) (F:FnOk X.prog X.w X.K X.mg X.base CX k f fd ps sp) (hr:Room k X.A) (hb:Binds X.K fd ps ds) (hd:Vals dvs ds) (hx:Passes CX X E)
  (ht:eval (.Call (.Attribute o m apos) [] [] pos) X.env=(do
   let ov ←eval o X.env
   standAt apos.atName
   let (f,first) ←holding [ov] (getMethod ov m pl)
   callWith pos f first (backTo pos (starEach [] X.env)) (backToKw pos (keywordEach [] X.env))):=by rfl) :
  PE X (.Call (.Attribute o m apos) [] [] pos) (nMeth C m sp dvs E ta tNil):=by
 intro pins s σ H Q I h
 refine W.methodCall_KW (pl:=pl) (thn (he pins s σ H _ I h) λ u s1 ⟨x,H1,I1,rx,q0⟩=>?_) ht
 obtain ⟨a,dx,fs,ex,ea,l,q⟩:=kMeth_ex q0
 subst ex
 obtain rfl:u=Value.ref a:=rx
 refine getmeth_ok I1 ea c hm l ?_
 exact W.callWith_K0 (first:=[.ref a]) I1.kIn hm.kp (run_fn (us:=[.ref a]) (vs:=[.ref a]) F hr hb hd hx I1 (.cons rfl .nil) q)
end
def kMade (x:Addr) (Q:VK):VK:=λ v H=>v=.non/\Q (.ref x) H
theorem m_kMade (x:Addr) (Q:VK) (H:Hp):kMade x Q .non H=Q (.ref x) H:=propext ⟨λ h=>h.2,λ h=>⟨rfl,h⟩⟩
def kMake (C:Addr) (sp:Sp) (dvs:List V) (E:XK) (Q:VK):List V->Hp->Prop:=λ vs H=>∀ (x dx:Addr) (H':Hp),H x=none->H dx=none->dx ≠ x->Ext H H'->H' x=some (.ins C dx [])->H' dx=some (.own x)->sp (.ref x::(vs++dvs)) H' (kMade x Q) E
theorem m_kMake_1 (C:Addr) (sp:Sp) (dvs:List V) (E:XK) (Q:VK) (a:V) (H:Hp):kMake C sp dvs E Q [a] H=∀ (x dx:Addr) (H':Hp),H x=none->H dx=none->dx ≠ x->Ext H H'->H' x=some (.ins C dx [])->H' dx=some (.own x)->sp (.ref x::a::dvs) H' (kMade x Q) E:=rfl
theorem m_kMake_2 (C:Addr) (sp:Sp) (dvs:List V) (E:XK) (Q:VK) (a b:V) (H:Hp):kMake C sp dvs E Q [a,b] H=∀ (x dx:Addr) (H':Hp),H x=none->H dx=none->dx ≠ x->Ext H H'->H' x=some (.ins C dx [])->H' dx=some (.own x)->sp (.ref x::a::b::dvs) H' (kMade x Q) E:=rfl
theorem m_kMake_3 (C:Addr) (sp:Sp) (dvs:List V) (E:XK) (Q:VK) (a b c:V) (H:Hp):kMake C sp dvs E Q [a,b,c] H=∀ (x dx:Addr) (H':Hp),H x=none->H dx=none->dx ≠ x->Ext H H'->H' x=some (.ins C dx [])->H' dx=some (.own x)->sp (.ref x::a::b::c::dvs) H' (kMade x Q) E:=rfl
def nMake (C:Addr) (sp:Sp) (dvs:List V) (E:XK) (t:TA):TE:=λ σ H Q=>t σ H (kMake C sp dvs E Q)
theorem m_nMake (C:Addr) (sp:Sp) (dvs:List V) (E:XK) (t:TA) (σ:St) (H:Hp) (Q:VK):nMake C sp dvs E t σ H Q=t σ H (kMake C sp dvs E Q):=rfl
section
variable {X:Cx}{CX:CXT}{k:Nat}{f C:Addr}{fd:FuncData}{ps:List Str}{sp:Sp}{dvs:List V}{ds:List Value}{E:XK}{x m:Str}{p pos apos:Pos}{e o:Expr}{es:List Expr}{ta:TE}{t:TA}
theorem kMake.to {Q:VK}{vs:List V}{H:Hp}(h:kMake C sp dvs E Q vs H):∀ x dx,H x=none->H dx=none->dx ≠ x->sp (.ref x::(vs++dvs)) (upd (upd H dx (.own x)) x (.ins C dx [])) (λ v H2=>v=.non/\Q (.ref x) H2) E:=λ x dx hx hd ne=>
 h x dx _ hx hd ne ((Ext.new hd).put hx) upd_same (by rw [upd_ne ne,upd_same])
theorem pe_nMake (M:Mk X.K C f) (F:FnOk X.prog X.w X.K X.mg X.base CX k f fd ps sp) (hr:Room (k+1) X.A) (hg:Gl X x) (hm:X.mg x=some (.ref C)) (hb:Binds X.K fd ps ds) (hd:Vals dvs ds) (hx:Passes CX X E)
  (ha:PA X (e::es) t) (hdb:(x == ("__debug__":Str))=false:=by decide) (he:starEach (e::es) X.env=(false,eval e X.env)::starEach es X.env:=by rfl) (hpl:(backTo pos (starEach es X.env)).any (·.1)=false:=by rfl) :
  PE X (.Call (.Name x p) (e::es) [] pos) (nMake C sp dvs E t):=by
 intro pins s σ H Q I h
 refine wpAny_Call_Name_kw (ld_glob I hg hm ?_ hdb)
 refine W.callWith_K (h₀:=X.base) I.ok.mod.kin M.kp (thn (ha pos pins s σ H _ I h) λ us s1 ⟨vs,H1,I1,r,q⟩=>⟨I1.kIn,?_⟩) he hpl
 exact run_make M F hr hb hd hx I1 r q.to
end
end L2
namespace L2
open PySem PySem.Spec PyProof.Rows
def notStar:Expr->Bool
 | .Starred ..=>false
 | _=>true
theorem star_ok {e:Expr}{es:List Expr}{env:Env}(h:notStar e=true):starEach (e::es) env=(false,eval e env)::starEach es env:=by
 cases e<;>first|rfl|cases h
theorem pa_c {X:Cx}{e:Expr}{es:List Expr}{te:TE}{t:TA}(ha:PE X e te) (hr:PA X es t) (hn:notStar e=true:=by rfl):PA X (e::es) (tCons te t):=pa_cons ha hr (star_ok hn)
end L2
namespace L2
open PySem PySem.Spec PyProof.Rows
def TupV (H:Hp) (z:List Int) (y:V):Prop:=∃ q,y=.ref q/\H q=some (.tup (z.map V.int))
theorem TupV.ext {H H':Hp}{z:List Int}{y:V}(h:TupV H z y) (e:Ext H H'):TupV H' z y:=by
 obtain ⟨q,rfl,hq⟩:=h
 exact ⟨q,rfl,e.at hq⟩
theorem TupV.upd {H:Hp}{z:List Int}{y:V}{p:Addr}{xs:List V}{o:HO}(h:TupV H z y) (hp:H p=some (.lst xs)):TupV (upd H p o) z y:=by
 obtain ⟨q,rfl,hq⟩:=h
 exact ⟨q,rfl,by rw [upd_ne (λ z=>by rw [z,hp] at hq;cases hq)];exact hq⟩
def TupsAt (H:Hp) (p:Addr) (zs:List (List Int)):Prop:=∃ ys,H p=some (.lst ys)/\Al (TupV H) zs ys
theorem TupsAt.ext {H H':Hp}{p:Addr}{zs:List (List Int)}(h:TupsAt H p zs) (e:Ext H H'):TupsAt H' p zs:=by
 obtain ⟨ys,hp,al⟩:=h
 exact ⟨ys,e.at hp,al.imp λ _ _ r=>r.ext e⟩
theorem len5000 {n:Nat}(h:n<=5000):n<=sizeLine:=Nat.le_trans h (by decide)
theorem lt5000 {n:Nat}(h:n < 5000):n < sizeLine:=Nat.lt_of_lt_of_le h (by decide)
end L2
namespace L2
open PySem PySem.Spec PyProof.Rows
theorem wk_al {K:W.Frag}{H:Hp} {α:Type}{R:α->V->Hp->Prop}(hR:∀ z y H H',R z y H->Ext H H'->R z y H'){l:Addr}{ys:List V}{zs:List α}(h:H l=some (.lst ys)) (al:Al (λ z y=>R z y H) zs ys) :
  (∀ i z H',zs[i]? = some z->Ext H H'->(Itl K l).go i H'/\∀ x H'',(Itl K l).yld i H' x H''->Ext H' H''/\R z x H'')/\∀ H',Ext H H'->(Itl K l).stop zs.length H':=by
 refine ⟨λ i z H' hz e=>?_,λ H' e=>⟨ys,SqL.of (e.at h),by rw [al.1];exact Nat.le_refl _⟩⟩
 have hi:i < ys.length:=by rw [al.1];exact (List.getElem?_eq_some_iff.mp hz).1
 have hy:ys[i]? = some ys[i]:=List.getElem?_eq_getElem hi
 refine ⟨⟨ys,ys[i],SqL.of (e.at h),hy⟩,λ x H'' y=>?_⟩
 have hx:x=ys[i]:=Option.some.inj ((y.2 ys (SqL.of (e.at h))).symm.trans hy)
 refine ⟨by rw [y.1];exact Ext.refl _,?_⟩
 rw [hx,y.1]
 exact hR _ _ _ _ (al.2 i z _ hz hy) e
def axP (a:Int × Int) (x:V) (H:Hp):Prop:=∃ q,x=.ref q/\H q=some (.tup [.int a.1,.int a.2])
theorem axP.ext {a:Int × Int}{x:V}{H H':Hp}(h:axP a x H) (e:Ext H H'):axP a x H':=by
 obtain ⟨q,rfl,hq⟩:=h
 exact ⟨q,rfl,e.at hq⟩
theorem al_axP {H:Hp}{axs:List (Int × Int)}{ys:List V}(al:Al (TupV H) (axs.map λ a=>[a.1,a.2]) ys):Al (λ a y=>axP a y H) axs ys:=by
 refine ⟨by rw [al.1,List.length_map],λ i a y ha hy=>?_⟩
 obtain ⟨q,hq,h⟩:=al.2 i [a.1,a.2] y (by rw [List.getElem?_map,ha];rfl) hy
 exact ⟨q,hq,h⟩
end L2
namespace L2
open PySem PySem.Spec PyProof.Rows
abbrev IsZipF (h:Heap) (z TI TO:Addr) (f0:Value) (f:Bool):Prop:=
 h.get? z=some { cls:=.type "zip",dict:=none,data:=.fields #[f0,.bool f,.bool false,.ref TI,.ref TO],slots:=#[] }
section
variable {prog:Program}{w:World}{A:Around}{E:Value->Shared->Prop}{s:Shared}
theorem alive_at {a:Addr}{o:Obj}{Q:Option Obj->Shared->Prop}(ho:s.heap.get? a=some o) (h:Q (some o) s):wpAny (model prog w) A (loadIfAlive a) Q E s:=by
 have h':Q (s.heap.get? a) s:=by rw [ho];exact h
 exact λ _ _ _=>h'
variable {z TI TO i j:Addr}{f g:List Addr}{ti tj:Nat->Heap->Prop}{vi vj:Nat->Option Value}{k m:Nat}{x y:Value}{t:Addr}{fl:Bool}{ot:Obj}
theorem zipO_free {Q:Bool->Shared->Prop}(hz:IsZipF s.heap z TI TO (rawInt t) fl) (ht:s.heap.get? t=some ot)
  (hQ:∀ h',IsZipF h' z TI TO (rawInt t) true->Heap.SameBut z s.heap h'->Q false { s with heap:=h' }):wpAny (model prog w) A (Builtin.SmallTypes.ownedTupleIsFree (.ref z)) Q E s:=by
 unfold Builtin.SmallTypes.ownedTupleIsFree
 refine wpAny_bind (wpAny_field hz rfl (x:=rawInt t) rfl ?_)
 show wpAny _ _ (loadIfAlive ((t:Int).toNat) >>= _) _ _ _
 rw [Int.toNat_natCast]
 refine wpAny_bind (alive_at ht ?_)
 simp only [Option.isNone_some,Bool.false_eq_true,if_false]
 refine wpAny_bind (wpAny_field hz rfl (x:=.bool fl) rfl ?_)
 cases fl with
 | true=>
  rw [if_neg (show ¬ ((Value.bool true != Value.bool true)=true) from Bool.false_ne_true)]
  exact wpAny_pure (hQ s.heap hz (Heap.SameBut.refl _ _))
 | false=>
  rw [if_pos (show (Value.bool false != Value.bool true)=true from rfl)]
  exact wpAny_bind (wpAny_setField_rec hz (by simp) λ h3 z3 s3=>wpAny_pure (hQ h3 z3 s3))
theorem zipO_item (S:Src prog w i f ti vi) (T:Src prog w j g tj vj) (D:Apart2 z TI TO i j f g){Q:Value->Shared->Prop}
  (hz:IsZipF s.heap z TI TO (rawInt t) fl) (ht:s.heap.get? t=some ot) (hTI:IsPair s.heap TI (.ref i) (.ref j)) (hi:ti k s.heap) (hj:tj m s.heap) (hx:vi k=some x) (hy:vj m=some y)
  (hQ:∀ h',IsZipF h' z TI TO (rawInt t) true->ti (k+1) h'->tj (m+1) h'->IsPair h' s.heap.objs.size x y->h'.objs.size=s.heap.objs.size+1->(∀ c o,c ∉ [z,i,j]->s.heap.get? c=some o->h'.get? c=some o)->Q (.ref s.heap.objs.size) { s with heap:=h' }) :
  wpAny (model prog w) A (Builtin.«zip.__next__» ⟨[.ref z],[]⟩) (λ fin s'=>∃ v,fin=.done (.ret v)/\Q v s') E s:=by
 have iz:i ≠ z:=ne_mem S.mem D.zf
 have jz:j ≠ z:=ne_mem T.mem D.zg
 refine wpAny_bind (m:=field (.ref z) 2) (wpAny_field hz rfl (x:=.bool false) rfl ?_)
 refine wpAny_bind (m:=field (.ref z) 3) (wpAny_field hz rfl (x:=.ref TI) rfl (wpAny_bind (wpAny_seqItems hTI rfl ?_)))
 refine wpAny_bind (m:=Builtin.SmallTypes.ownedTupleIsFree (.ref z)) (zipO_free hz ht λ q1 z1 s1=>?_)
 simp only [Bool.false_eq_true,if_false]
 refine wpAny_bind ?_
 simp only [List.forIn_toArray,List.forIn_cons,List.forIn_nil]
 refine wpAny_bind (wpAny_bind (wpAny_holding (wpAny_bind (m:=Builtin.SmallTypes.nextOf (.ref i)) (S.item _ k _ x _ _ (S.but hi s1.extBut D.zf) hx λ q2 i2 s2=>wpAny_pure ?_))))
 have j2:tj m q2:=T.but (T.but hj s1.extBut D.zg) s2.extBut D.ig
 refine wpAny_pure ?_
 refine wpAny_bind (wpAny_bind (wpAny_holding (wpAny_bind (m:=Builtin.SmallTypes.nextOf (.ref j)) (T.item _ m _ y _ _ j2 hy λ q3 j3 s3=>wpAny_pure ?_))))
 refine wpAny_pure (wpAny_pure ?_)
 refine wpAny_bind (wpAny_newTuple (hsz:=(show 2<=sizeLine by decide)) ?_)
 have sz:q3.objs.size=s.heap.objs.size:=by rw [s3.1,s2.1,s1.1]
 have z3:IsZipF q3 z TI TO (rawInt t) true:=s3.extBut _ _ jz.symm (s2.extBut _ _ iz.symm z1)
 have i3:ti (k+1) q3:=S.but i2 s3.extBut D.jf
 refine wpAny_pure ⟨_,rfl,?_⟩
 show Q (.ref q3.objs.size) _
 have n3:IsPair (q3.push { cls:=.type "tuple",data:=.seq #[x,y] }) q3.objs.size x y:=Heap.get?_push_size _ rfl
 have n4:(q3.push { cls:=.type "tuple",data:=.seq #[x,y] }).objs.size=q3.objs.size+1:=Heap.size_push ..
 rw [sz] at n3 n4
 rw [sz]
 refine hQ _ (Heap.get?_push_of_some _ z3) (S.keep _ _ _ i3 λ c hc o e=>Heap.get?_push_of_some _ e) (T.keep _ _ _ j3 λ c hc o e=>Heap.get?_push_of_some _ e) n3 n4 λ c o hc e=>?_
 simp only [List.mem_cons,List.not_mem_nil,or_false,not_or] at hc
 exact Heap.get?_push_of_some _ (s3.extBut _ _ hc.2.2 (s2.extBut _ _ hc.2.1 (s1.extBut _ _ hc.1 e)))
theorem zipO_end (hh:A.handled=none) (S:Src prog w i f ti vi) (T:Src prog w j g tj vj) (D:Apart2 z TI TO i j f g){Q:Fin->Shared->Prop}
  (hz:IsZipF s.heap z TI TO (rawInt t) fl) (ht:s.heap.get? t=some ot) (hTI:IsPair s.heap TI (.ref i) (.ref j)) (hi:ti k s.heap) (hj:tj m s.heap) (hxy:vi k=none\/vj m=none)
  (hE:∀ h' e,(∀ c o,c ∉ [z,i,j]->s.heap.get? c=some o->h'.get? c=some o)->(∃ o,h'.get? e=some o/\o.cls=.type "StopIteration")->E (.ref e) { s with heap:=h' }) :
  wpAny (model prog w) A (Builtin.«zip.__next__» ⟨[.ref z],[]⟩) Q E s:=by
 refine wpAny_bind (m:=field (.ref z) 2) (wpAny_field hz rfl (x:=.bool false) rfl ?_)
 refine wpAny_bind (m:=field (.ref z) 3) (wpAny_field hz rfl (x:=.ref TI) rfl (wpAny_bind (wpAny_seqItems hTI rfl ?_)))
 refine wpAny_bind (m:=Builtin.SmallTypes.ownedTupleIsFree (.ref z)) (zipO_free hz ht λ q1 z1 s1=>?_)
 simp only [Bool.false_eq_true,if_false]
 refine wpAny_bind ?_
 simp only [List.forIn_toArray,List.forIn_cons,List.forIn_nil]
 refine wpAny_bind (wpAny_bind (wpAny_holding (wpAny_bind (m:=Builtin.SmallTypes.nextOf (.ref i)) ?_)))
 cases hx:vi k with
 | none=>
  refine S.fin _ k _ _ _ hh (S.but hi s1.extBut D.zf) hx λ q2 e s2 he=>hE q2 e (λ c o hc q=>?_) he
  simp only [List.mem_cons,List.not_mem_nil,or_false,not_or] at hc
  exact s2 _ _ hc.2.1 (s1.extBut _ _ hc.1 q)
 | some x=>
  have hy:vj m=none:=hxy.resolve_left (by rw [hx];exact Option.some_ne_none x)
  refine S.item _ k _ x _ _ (S.but hi s1.extBut D.zf) hx λ q2 i2 s2=>wpAny_pure (wpAny_pure ?_)
  have j2:tj m q2:=T.but (T.but hj s1.extBut D.zg) s2.extBut D.ig
  refine wpAny_bind (wpAny_bind (wpAny_holding (wpAny_bind (m:=Builtin.SmallTypes.nextOf (.ref j)) (T.fin _ m _ _ _ hh j2 hy λ q3 e s3 he=>hE q3 e (λ c o hc q=>?_) he))))
  simp only [List.mem_cons,List.not_mem_nil,or_false,not_or] at hc
  exact s3 _ _ hc.2.2 (s2.extBut _ _ hc.2.1 (s1.extBut _ _ hc.1 q))
theorem zipO_next_item (S:Src prog w i f ti vi) (T:Src prog w j g tj vj) (D:Apart2 z TI TO i j f g){Q:Option Value->Shared->Prop}
  (hz:IsZipF s.heap z TI TO (rawInt t) fl) (ht:s.heap.get? t=some ot) (hTI:IsPair s.heap TI (.ref i) (.ref j)) (hi:ti k s.heap) (hj:tj m s.heap) (hx:vi k=some x) (hy:vj m=some y)
  (hQ:∀ h',IsZipF h' z TI TO (rawInt t) true->ti (k+1) h'->tj (m+1) h'->IsPair h' s.heap.objs.size x y->h'.objs.size=s.heap.objs.size+1->(∀ c o,c ∉ [z,i,j]->s.heap.get? c=some o->h'.get? c=some o)->Q (some (.ref s.heap.objs.size)) { s with heap:=h' }) :
  wpAny (model prog w) A (pyNext (.ref z)) Q E s:=by
 have ty:s.TypeIs (.ref z) "zip":=⟨_,hz,rfl⟩
 unfold pyNext
 exact wpAny_bind (wpAny_attempt (wpAny_callSpecial?_slot (name:=Str.ofString "__next__") ty F.slot_zip_next (wpAny_call_entry F.slot_zip_next ty F.entry_zip_next (zipO_item S T D hz ht hTI hi hj hx hy λ h' c1 c2 c3 c4 c5 c6=>wpAny_pure (hQ h' c1 c2 c3 c4 c5 c6)) (F.args_zip_next_1 _))))
theorem zipO_next_end (hh:A.handled=none) (S:Src prog w i f ti vi) (T:Src prog w j g tj vj) (D:Apart2 z TI TO i j f g){Q:Option Value->Shared->Prop}
  (hz:IsZipF s.heap z TI TO (rawInt t) fl) (ht:s.heap.get? t=some ot) (hTI:IsPair s.heap TI (.ref i) (.ref j)) (hi:ti k s.heap) (hj:tj m s.heap) (hxy:vi k=none\/vj m=none)
  (hQ:∀ h',(∀ c o,c ∉ [z,i,j]->s.heap.get? c=some o->h'.get? c=some o)->Q none { s with heap:=h' }):wpAny (model prog w) A (pyNext (.ref z)) Q E s:=by
 have ty:s.TypeIs (.ref z) "zip":=⟨_,hz,rfl⟩
 unfold pyNext
 refine wpAny_bind (wpAny_attempt (wpAny_callSpecial?_slot (name:=Str.ofString "__next__") ty F.slot_zip_next (wpAny_call_entry F.slot_zip_next ty F.entry_zip_next (zipO_end (show A.in1.handled=none from hh) S T D hz ht hTI hi hj hxy λ h' e kp he=>?_) (F.args_zip_next_1 _))))
 obtain ⟨o,ho,hc⟩:=he
 exact wpAny_bind (wpAny_isInstance (T := "StopIteration") (b:=true) ⟨o,ho,hc⟩ isSubtype_stop (wpAny_pure (hQ _ kp)))
def Zst (ka kb:Bool) (a b z TI TO p q:Addr) (as bs:Array Value) (n:Nat) (h:Heap):Prop:=
 (IsZip h z TI TO .none\/∃ (t:Addr) (fl:Bool) (ot:Obj),IsZipF h z TI TO (rawInt t) fl/\h.get? t=some ot/\t ∉ [z,TI,TO,p,q])/\IsPair h TI (.ref p) (.ref q)/\(∃ u v,IsPair h TO u v)/\(IterAt h ka p a n/\SeqAt h ka a as)/\(IterAt h kb q b n/\SeqAt h kb b bs)
theorem Zst.keep {ka kb:Bool}{a b z TI TO p q:Addr}{as bs:Array Value}{n:Nat}{h h':Heap}(st:Zst ka kb a b z TI TO p q as bs n h) (k:∀ c o,h.get? c=some o->h'.get? c=some o):Zst ka kb a b z TI TO p q as bs n h':=by
 obtain ⟨e0,e1,⟨u,v,e2⟩,⟨e3,e4⟩,e5,e6⟩:=st
 refine ⟨e0.imp (λ e=>k _ _ e) (λ ⟨t,fl,ot,x1,x2,x3⟩=>⟨t,fl,ot,k _ _ x1,k _ _ x2,x3⟩),k _ _ e1,⟨u,v,k _ _ e2⟩,⟨e3.at λ o e=>k _ o e,e4.at λ o e=>k _ o e⟩,e5.at λ o e=>k _ o e,e6.at λ o e=>k _ o e⟩
variable {ka kb:Bool}{a b p q:Addr}{as bs:Array Value}{n:Nat}
theorem zst_item (nd:[z,TI,TO,p,q].Nodup) (na:a ∉ [z,TI,TO,p,q]) (nb:b ∉ [z,TI,TO,p,q]){Q:Option Value->Shared->Prop}(st:Zst ka kb a b z TI TO p q as bs n s.heap) (hx:as[n]? = some x) (hy:bs[n]? = some y)
  (hQ:∀ h',Zst ka kb a b z TI TO p q as bs (n+1) h'->IsPair h' s.heap.objs.size x y->h'.objs.size=s.heap.objs.size+1->(∀ c o,c ∉ [z,TI,TO,p,q]->s.heap.get? c=some o->h'.get? c=some o)->Q (some (.ref s.heap.objs.size)) { s with heap:=h' }) :
  wpAny (model prog w) A (pyNext (.ref z)) Q E s:=by
 obtain ⟨e0,e1,⟨u,v,e2⟩,e3,e4⟩:=st
 simp only [List.nodup_cons,List.mem_cons,List.not_mem_nil,or_false,not_or,not_false_eq_true,and_true,List.nodup_nil] at nd na nb
 obtain ⟨⟨z1,z2,z3,z4⟩,⟨t1,t2,t3⟩,⟨w1,w2⟩,y1⟩:=nd
 obtain ⟨a1,a2,a3,a4,a5⟩:=na
 obtain ⟨b1,b2,b3,b4,b5⟩:=nb
 have S:=src_sq (prog:=prog) (w:=w) ka p a a4 as
 have T:=src_sq (prog:=prog) (w:=w) kb q b b5 bs
 have D:Apart2 z TI TO p q [p,a] [q,b]:=⟨⟨Ne.symm z1,t1,t2,t3⟩,z2,by simp [z3,Ne.symm a1],by simp [z4,Ne.symm b1],by simp [w1,Ne.symm a3],by simp [w2,Ne.symm b3],by simp [y1,Ne.symm b4],by simp [Ne.symm y1,Ne.symm a5]⟩
 have zl:z < s.heap.objs.size/\TI < s.heap.objs.size/\TO < s.heap.objs.size/\p < s.heap.objs.size/\q < s.heap.objs.size:=by
  refine ⟨?_,Heap.lt_size e1,Heap.lt_size e2,?_,?_⟩
  ·rcases e0 with e|⟨_,_,_,e,_⟩<;>exact Heap.lt_size e
  ·obtain ⟨o,_,e,_⟩:=e3.1.obj;exact Heap.lt_size e
  ·obtain ⟨o,_,e,_⟩:=e4.1.obj;exact Heap.lt_size e
 have nw:s.heap.objs.size ∉ [z,TI,TO,p,q]:=by
  simp only [List.mem_cons,List.not_mem_nil,or_false,not_or]
  exact ⟨Nat.ne_of_gt zl.1,Nat.ne_of_gt zl.2.1,Nat.ne_of_gt zl.2.2.1,Nat.ne_of_gt zl.2.2.2.1,Nat.ne_of_gt zl.2.2.2.2⟩
 rcases e0 with e0|⟨t,fl,ot,e0,et,nt⟩
 ·refine zip2_next_item S T D e0 e1 e2 e3 e4 hx hy λ h1 c1 c2 c3 c4 c5 c6 c7=>hQ h1 ⟨.inr ⟨_,false,_,c1,c5,nw⟩,c7 TI _ (by simp [Ne.symm z1,t1,t2,t3]) e1,⟨_,_,c2⟩,c3,c4⟩ c5 c6 λ c o hc e=>c7 c o (λ z=>hc ?_) e
  simp only [List.mem_cons,List.not_mem_nil,or_false] at z ⊢
  rcases z with h|h|h|h<;>simp [h]
 ·refine zipO_next_item S T D e0 et e1 e3 e4 hx hy λ h1 c1 c3 c4 c5 c6 c7=>hQ h1 ⟨.inr ⟨_,true,_,c1,c7 t _ (λ z=>nt ?_) et,nt⟩,c7 TI _ (by simp [Ne.symm z1,t2,t3]) e1,⟨_,_,c7 TO _ (by simp [Ne.symm z2,w1,w2]) e2⟩,c3,c4⟩ c5 c6 λ c o hc e=>c7 c o (λ z=>hc ?_) e
  all_goals
   simp only [List.mem_cons,List.not_mem_nil,or_false] at z ⊢
   rcases z with h|h|h<;>simp [h]
theorem zst_end (hh:A.handled=none) (nd:[z,TI,TO,p,q].Nodup) (na:a ∉ [z,TI,TO,p,q]) (nb:b ∉ [z,TI,TO,p,q]){Q:Option Value->Shared->Prop}(st:Zst ka kb a b z TI TO p q as bs n s.heap) (hxy:as[n]? = none\/bs[n]? = none)
  (hQ:∀ h',(∀ c o,c ∉ [z,TI,TO,p,q]->s.heap.get? c=some o->h'.get? c=some o)->Q none { s with heap:=h' }) :
  wpAny (model prog w) A (pyNext (.ref z)) Q E s:=by
 obtain ⟨e0,e1,⟨u,v,e2⟩,e3,e4⟩:=st
 simp only [List.nodup_cons,List.mem_cons,List.not_mem_nil,or_false,not_or,not_false_eq_true,and_true,List.nodup_nil] at nd na nb
 obtain ⟨⟨z1,z2,z3,z4⟩,⟨t1,t2,t3⟩,⟨w1,w2⟩,y1⟩:=nd
 obtain ⟨a1,a2,a3,a4,a5⟩:=na
 obtain ⟨b1,b2,b3,b4,b5⟩:=nb
 have S:=src_sq (prog:=prog) (w:=w) ka p a a4 as
 have T:=src_sq (prog:=prog) (w:=w) kb q b b5 bs
 have D:Apart2 z TI TO p q [p,a] [q,b]:=⟨⟨Ne.symm z1,t1,t2,t3⟩,z2,by simp [z3,Ne.symm a1],by simp [z4,Ne.symm b1],by simp [w1,Ne.symm a3],by simp [w2,Ne.symm b3],by simp [y1,Ne.symm b4],by simp [Ne.symm y1,Ne.symm a5]⟩
 rcases e0 with e0|⟨t,fl,ot,e0,et,nt⟩
 ·refine zip2_next_end hh S T D e0 e1 e2 e3 e4 hxy λ h1 kp=>hQ h1 λ c o hc e=>kp c o (λ z=>hc ?_) e
  simp only [List.mem_cons,List.not_mem_nil,or_false] at z ⊢
  rcases z with h|h|h|h<;>simp [h]
 ·refine zipO_next_end hh S T D e0 et e1 e3 e4 hxy λ h1 kp=>hQ h1 λ c o hc e=>kp c o (λ z=>hc ?_) e
  simp only [List.mem_cons,List.not_mem_nil,or_false] at z ⊢
  rcases z with h|h|h<;>simp [h]
structure Got (h:Heap) (lo:Nat) (as bs:Array Value) (ts:List Addr):Prop where
 nd:ts.Nodup
 lo:∀ t∈ts,lo<=t
 get:∀ (m:Nat) t,ts[m]? = some t->∃ x y,as[m]? = some x/\bs[m]? = some y/\IsPair h t x y
theorem Got.lt {h:Heap}{lo:Nat}{as bs:Array Value}{ts:List Addr}(G:Got h lo as bs ts):∀ t∈ts,t < h.objs.size:=λ t ht=>by
 obtain ⟨m,hm,rfl⟩:=List.getElem_of_mem ht
 obtain ⟨x,y,_,_,e⟩:=G.get m _ (List.getElem?_eq_getElem hm)
 exact Heap.lt_size e
theorem zip_loop {R:Result->Shared->Prop}(hh:A.handled=none) (nd:[z,TI,TO,p,q].Nodup) (na:a ∉ [z,TI,TO,p,q]) (nb:b ∉ [z,TI,TO,p,q]) (S lo:Addr) (hS:S ∉ [z,TI,TO,p,q]) (aS:a ≠ S) (bS:b ≠ S) (hlo:∀ c∈[z,TI,TO,p,q],lo<=c) (hlS:lo<=S) (hsz:min as.size bs.size<=sizeLine) :
  ∀ (k n:Nat) (s:Shared) (ts:List Addr) (c:Nat),min as.size bs.size - n=k->n<=min as.size bs.size->Zst ka kb a b z TI TO p q as bs n s.heap->s.heap.get? S=some { cls:=.type "list",dict:=none,data:=.seq (ts.map Value.ref).toArray c,slots:=#[] }->ts.length=n->Got s.heap lo as bs ts->S ∉ ts->(∀ t∈ts,t ∉ [z,TI,TO,p,q])->lo<=s.heap.objs.size →
  (∀ h' ts' c',h'.get? S=some { cls:=.type "list",dict:=none,data:=.seq (ts'.map Value.ref).toArray c',slots:=#[] }->ts'.length=min as.size bs.size->Got h' lo as bs ts'->S ∉ ts'->(∀ d o,d < lo->s.heap.get? d=some o->h'.get? d=some o)->R (.ok (.ret .none)) { s with heap:=h' }) →
  codeAny (model prog w) A (.builtin "list.extend.loop" ⟨[.ref S,.ref z,.none],[]⟩) R s:=by
 intro k
 induction k with
 | zero=>
  intro n s ts c hk hn st hL hl G hSt hts hlz hR
  refine codeAny_builtin PySem.F.entry_extend_loop ?_
  rw [Around.under_plainId PySem.F.plain_extend_loop _]
  show wpAny _ A.in1 (pyNext (.ref z) >>= _) _ _ s
  refine wpAny_bind (zst_end (show A.in1.handled=none from hh) nd na nb st ?_ λ h' kp=>?_)
  ·by_cases h1:as.size<=n
   ·exact .inl (Array.getElem?_eq_none h1)
   ·exact .inr (Array.getElem?_eq_none (by omega))
  ·exact wpAny_pure (hR h' ts c (kp _ _ hS hL) (by omega) ⟨G.nd,G.lo,λ m t ht=>by
    obtain ⟨x,y,e1,e2,e3⟩:=G.get m t ht
    exact ⟨x,y,e1,e2,kp _ _ (hts t (List.mem_of_getElem? ht)) e3⟩⟩ hSt λ d o hd e=>kp d o (λ z=>absurd (hlo d z) (Nat.not_le.mpr hd)) e)
 | succ k ih=>
  intro n s ts c hk hn st hL hl G hSt hts hlz hR
  have h1:n < as.size:=by omega
  have h2:n < bs.size:=by omega
  refine codeAny_builtin PySem.F.entry_extend_loop ?_
  rw [Around.under_plainId PySem.F.plain_extend_loop _]
  show wpAny _ A.in1 (pyNext (.ref z) >>= _) _ _ s
  refine wpAny_bind (zst_item nd na nb st (Array.getElem?_eq_getElem h1) (Array.getElem?_eq_getElem h2) λ h' st' pr sz kp=>?_)
  have hL':=kp _ _ hS hL
  show wpAny _ A.in1 (updateSeq S (·.push (.ref s.heap.objs.size)) >>= _) _ _ _
  refine wpAny_bind ?_
  have Sn:S ≠ s.heap.objs.size:=Nat.ne_of_lt (Heap.lt_size hL)
  have kp2:∀ d o,d ≠ S->h'.get? d=some o->(h'.update S (Obj.mapSeq (·.push (.ref s.heap.objs.size)))).get? d=some o:=λ d o hd e=>(Heap.get?_update_other _ _ (Ne.symm hd)).trans e
  have G':Got (h'.update S (Obj.mapSeq (·.push (.ref s.heap.objs.size)))) lo as bs (ts++[s.heap.objs.size]):=by
   refine ⟨?_,λ t ht=>?_,λ m t ht=>?_⟩
   ·rw [List.nodup_append]
    refine ⟨G.nd,by simp,λ x hx y hy=>?_⟩
    rw [List.mem_singleton.mp hy]
    exact Nat.ne_of_lt (G.lt x hx)
   ·rcases List.mem_append.mp ht with ht|ht
    ·exact G.lo t ht
    ·rw [List.mem_singleton.mp ht];exact hlz
   ·by_cases hm:m < ts.length
    ·rw [List.getElem?_append_left hm] at ht
     obtain ⟨x,y,e1,e2,e3⟩:=G.get m t ht
     have hmem:=List.mem_of_getElem? ht
     exact ⟨x,y,e1,e2,kp2 _ _ (λ z=>hSt (z ▸ hmem)) (kp _ _ (hts t hmem) e3)⟩
    ·rw [List.getElem?_append_right (by omega)] at ht
     have h0:m - ts.length=0:=by
      rcases Nat.eq_zero_or_pos (m - ts.length) with h|h
      ·exact h
      ·rw [List.getElem?_eq_none (by simp;omega)] at ht;cases ht
     rw [h0] at ht
     simp at ht
     subst ht
     have hmn:m=n:=by omega
     subst hmn
     exact ⟨_,_,Array.getElem?_eq_getElem h1,Array.getElem?_eq_getElem h2,kp2 _ _ (Ne.symm Sn) pr⟩
  have nw:s.heap.objs.size ∉ [z,TI,TO,p,q]:=by
   obtain ⟨e0,e1,⟨u,v,e2⟩,e3,e4⟩:=st
   simp only [List.mem_cons,List.not_mem_nil,or_false,not_or]
   refine ⟨?_,Nat.ne_of_gt (Heap.lt_size e1),Nat.ne_of_gt (Heap.lt_size e2),?_,?_⟩
   ·rcases e0 with e|⟨_,_,_,e,_⟩<;>exact Nat.ne_of_gt (Heap.lt_size e)
   ·obtain ⟨o,_,e,_⟩:=e3.1.obj;exact Nat.ne_of_gt (Heap.lt_size e)
   ·obtain ⟨o,_,e,_⟩:=e4.1.obj;exact Nat.ne_of_gt (Heap.lt_size e)
  have stK:Zst ka kb a b z TI TO p q as bs (n+1) (h'.update S (Obj.mapSeq (·.push (.ref s.heap.objs.size)))):=by
   obtain ⟨e0,e1,⟨u,v,e2⟩,⟨e3,e4⟩,e5,e6⟩:=st'
   simp only [List.mem_cons,List.not_mem_nil,or_false,not_or] at hS
   obtain ⟨n1,n2,n3,n4,n5⟩:=hS
   refine ⟨e0.imp (λ e=>kp2 _ _ (Ne.symm n1) e) (λ ⟨t,fl,ot,x1,x2,x3⟩=>?_),kp2 _ _ (Ne.symm n2) e1,⟨u,v,kp2 _ _ (Ne.symm n3) e2⟩,⟨e3.at λ o e=>kp2 _ o (Ne.symm n4) e,e4.at λ o e=>kp2 _ o aS e⟩,e5.at λ o e=>kp2 _ o (Ne.symm n5) e,e6.at λ o e=>kp2 _ o bS e⟩
   by_cases htS:t=S
   ·subst htS
    exact ⟨t,fl,_,kp2 _ _ (Ne.symm n1) x1,Heap.get?_update_self _ hL' rfl,x3⟩
   ·exact ⟨t,fl,ot,kp2 _ _ (Ne.symm n1) x1,kp2 _ _ htS x2,x3⟩
  have hLn:(h'.update S (Obj.mapSeq (·.push (Value.ref s.heap.objs.size)))).get? S=some { cls:=.type "list",dict:=none,data:=.seq ((ts++[s.heap.objs.size]).map Value.ref).toArray (c+1),slots:=#[] }:=by
   rw [Heap.get?_update_self (Obj.mapSeq (·.push (Value.ref s.heap.objs.size))) hL' rfl]
   simp [Obj.mapSeq]
  refine wpAny_updateSeq hL' rfl (wpAny_pure ⟨plainId_quiet PySem.F.plain_extend_loop _,ih (n+1) _ (ts++[s.heap.objs.size]) _ (by omega) (by omega) stK hLn (by simp [hl]) G' ?_ ?_ ?_ λ h3 ts3 c3 r1 r2 r3 r4 r5=>hR h3 ts3 c3 r1 r2 r3 r4 λ d o hd e=>r5 d o hd ?_⟩) ?_ ?_
  ·intro hm
   rcases List.mem_append.mp hm with hm|hm
   ·exact hSt hm
   ·exact Sn (List.mem_singleton.mp hm)
  ·intro t ht
   rcases List.mem_append.mp ht with ht|ht
   ·exact hts t ht
   ·rw [List.mem_singleton.mp ht];exact nw
  ·show lo<=(h'.update S _).objs.size
   rw [Heap.size_update,sz];exact Nat.le_trans hlz (Nat.le_succ _)
  ·exact kp2 _ _ (Nat.ne_of_lt (Nat.lt_of_lt_of_le hd hlS)) (kp d o (λ z=>absurd (hlo d z) (Nat.not_le.mpr hd)) e)
  ·simp;omega
  ·simp;omega
theorem zip_no_len:typeLookup (.type "zip") "__len__"=pure none:=by rw [typeLookup_type,builtinLookup_eq_fast];kernel_rfl
theorem zip_no_hint:typeLookup (.type "zip") "__length_hint__"=pure none:=by rw [typeLookup_type,builtinLookup_eq_fast];kernel_rfl
theorem Zst.ty (st:Zst ka kb a b z TI TO p q as bs n s.heap):s.TypeIs (.ref z) "zip":=by
 rcases st.1 with e|⟨_,_,_,e,_⟩
 ·exact ⟨_,e,rfl⟩
 ·exact ⟨_,e,rfl⟩
theorem Zst.but {h h':Heap}{S:Addr}(st:Zst ka kb a b z TI TO p q as bs 0 h) (e0:IsZip h z TI TO .none) (hS:S ∉ [z,TI,TO,p,q]) (aS:a ≠ S) (bS:b ≠ S) (k:∀ c o,c ≠ S->h.get? c=some o->h'.get? c=some o):Zst ka kb a b z TI TO p q as bs 0 h':=by
 obtain ⟨_,e1,⟨u,v,e2⟩,⟨e3,e4⟩,e5,e6⟩:=st
 simp only [List.mem_cons,List.not_mem_nil,or_false,not_or] at hS
 obtain ⟨n1,n2,n3,n4,n5⟩:=hS
 exact ⟨.inl (k _ _ (Ne.symm n1) e0),k _ _ (Ne.symm n2) e1,⟨u,v,k _ _ (Ne.symm n3) e2⟩,⟨e3.at λ o e=>k _ o (Ne.symm n4) e,e4.at λ o e=>k _ o aS e⟩,e5.at λ o e=>k _ o (Ne.symm n5) e,e6.at λ o e=>k _ o bS e⟩
theorem call_list_zip {Q:Value->Shared->Prop}(hh:A.handled=none) (nd:[z,TI,TO,p,q].Nodup) (na:a ∉ [z,TI,TO,p,q]) (nb:b ∉ [z,TI,TO,p,q]) (lo:Addr) (hlo:∀ c∈[z,TI,TO,p,q],lo<=c) (hsz:min as.size bs.size<=sizeLine)
  (e0:IsZip s.heap z TI TO .none) (st:Zst ka kb a b z TI TO p q as bs 0 s.heap)
  (hQ:∀ h' ts' c',h'.get? s.heap.objs.size=some { cls:=.type "list",dict:=none,data:=.seq (ts'.map Value.ref).toArray c',slots:=#[] }->ts'.length=min as.size bs.size->Got h' lo as bs ts'->s.heap.objs.size ∉ ts'->(∀ d o,d < lo->s.heap.get? d=some o->h'.get? d=some o)->Q (.ref s.heap.objs.size) { s with heap:=h' }) :
  wpAny (model prog w) A (call (.type "list") [.ref z]) Q E s:=by
 have zl:∀ c∈[z,TI,TO,p,q],c < s.heap.objs.size:=by
  obtain ⟨_,e1,⟨u,v,e2⟩,⟨e3,e4⟩,e5,e6⟩:=st
  intro c hc
  simp only [List.mem_cons,List.not_mem_nil,or_false] at hc
  rcases hc with rfl|rfl|rfl|rfl|rfl
  ·exact Heap.lt_size e0
  ·exact Heap.lt_size e1
  ·exact Heap.lt_size e2
  ·obtain ⟨o,_,e,_⟩:=e3.obj;exact Heap.lt_size e
  ·obtain ⟨o,_,e,_⟩:=e5.obj;exact Heap.lt_size e
 have hSf:s.heap.objs.size ∉ [z,TI,TO,p,q]:=λ hm=>Nat.lt_irrefl _ (zl _ hm)
 have hSz:s.heap.objs.size ≠ z:=λ e=>hSf (by simp [e])
 have al:a < s.heap.objs.size:=by obtain ⟨o,_,e,_⟩:=st.2.2.2.1.2.obj;exact Heap.lt_size e
 have bl:b < s.heap.objs.size:=by obtain ⟨o,_,e,_⟩:=st.2.2.2.2.2.obj;exact Heap.lt_size e
 have hlS:lo<=s.heap.objs.size:=Nat.le_of_lt (Nat.lt_of_le_of_lt (hlo z (by simp)) (zl z (by simp)))
 refine callType_codes (Q₁:=λ obj s₁=>obj=.ref s.heap.objs.size/\s₁={ s with heap:=s.heap.push { cls:=.type "list",data:=.seq #[] } }) PySem.F.called_list (PySem.F.typeCall_list_1 _) PySem.F.entry_list_init
  (code_list_new _ ⟨rfl,rfl⟩) λ obj s₁ h₁=>?_
 obtain ⟨rfl,rfl⟩:=h₁
 have hS:(s.heap.push { cls:=.type "list",data:=.seq #[] }).get? s.heap.objs.size=some { cls:=.type "list",data:=.seq #[] }:=Heap.get?_push_size _ rfl
 refine ⟨⟨_,hS,rfl⟩,PySem.F.args_list_init_2 _ _,?_⟩
 show wpAny _ A.in1.in1 (do let old ←Builtin.List.listItems (.ref s.heap.objs.size);Builtin.List.listUpdate (.ref s.heap.objs.size) (λ _=>#[]);letGo old.toList.reverse;Builtin.List.listExtendWith (.ref s.heap.objs.size) (.ref z) .none) _ _ _
 refine wpAny_bind ?_
 unfold Builtin.List.listItems
 refine wpAny_bind (wpAny_seqItems hS rfl (wpAny_pure ?_))
 show wpAny _ A.in1.in1 (updateSeq s.heap.objs.size (λ _=>#[]) >>= λ _=>letGo (#[]:Array Value).toList.reverse >>= λ _=>Builtin.List.listExtendWith (.ref s.heap.objs.size) (.ref z) .none) _ _ _
 refine wpAny_bind (wpAny_updateSeq hS rfl ?_)
 have hS₂:=Heap.get?_update_self (Obj.mapSeq (λ _=>(#[]:Array Value))) hS rfl
 refine wpAny_bind (wpAny_letGo ?_)
 have k1:∀ c o,s.heap.get? c=some o->((s.heap.push { cls:=.type "list",data:=.seq #[] }).update s.heap.objs.size (Obj.mapSeq (λ _=>(#[]:Array Value)))).get? c=some o:=λ c o e=>(Heap.get?_update_other _ _ (Nat.ne_of_gt (Heap.lt_size e))).trans (Heap.get?_push_of_some _ e)
 have st1:=st.keep k1
 have e1:=k1 _ _ e0
 have sz1:((s.heap.push { cls:=.type "list",data:=.seq #[] }).update s.heap.objs.size (Obj.mapSeq (λ _=>(#[]:Array Value)))).objs.size=s.heap.objs.size+1:=by rw [Heap.size_update,Heap.size_push]
 generalize (s.heap.push { cls:=.type "list",data:=.seq #[] }).update s.heap.objs.size (Obj.mapSeq (λ _=>(#[]:Array Value)))=hp at hS₂ k1 st1 e1 sz1
 unfold Builtin.List.listExtendWith
 have ty1:Shared.TypeIs { s with heap:=hp } (.ref z) "zip":=Zst.ty (s:={ s with heap:=hp }) st1
 refine wpAny_bind (wpAny_typeOf ty1 ?_)
 have h1:Builtin.List.listSameRef (.ref s.heap.objs.size) (.ref z)=false:=by simp [Builtin.List.listSameRef,hSz]
 have h2:(Value.type "zip" == Value.type "list")=false:=by decide
 have h3:(Value.type "zip" == Value.type "tuple")=false:=by decide
 simp only [h1,h2,h3,Bool.or_false,Bool.false_eq_true,if_false]
 refine wpAny_bind (wpAny_pyIter_zip e1 ?_)
 refine wpAny_bind (wpAny_holding ?_)
 unfold Builtin.List.listLengthHint
 refine wpAny_bind (wpAny_specialOf ty1 zip_no_len ?_)
 show wpAny _ A.in1.in1 (specialOf (Value.ref z) (Str.ofString "__length_hint__") >>= _) _ _ _
 refine wpAny_bind (wpAny_specialOf ty1 zip_no_hint ?_)
 refine wpAny_pure ?_
 show wpAny _ A.in1.in1 (rule "list.extend.makes-room" >>= λ _=>Builtin.List.listTouch (.ref s.heap.objs.size) >>= λ _=>
  again (.builtin "list.extend.loop" ⟨[.ref s.heap.objs.size,.ref z,.none],[]⟩)) _ _ _
 refine wpAny_bind (wpAny_rule ?_)
 refine wpAny_bind ?_
 show wpAny _ A.in1.in1 (updateSeq s.heap.objs.size (·.push .none) >>= λ _=>updateSeq s.heap.objs.size (·.pop)) _ _ _
 refine wpAny_bind (wpAny_updateSeq hS₂ rfl ?_)
 have hS₃:=Heap.get?_update_self (Obj.mapSeq (·.push Value.none)) hS₂ rfl
 refine wpAny_updateSeq (hz:=by seq_fits) hS₃ rfl ?_
 have hS₄:=Heap.get?_update_self (Obj.mapSeq (·.pop)) hS₃ rfl
 have oth:∀ c o,c ≠ s.heap.objs.size->hp.get? c=some o->((hp.update s.heap.objs.size (Obj.mapSeq (·.push Value.none))).update s.heap.objs.size (Obj.mapSeq (·.pop))).get? c=some o:=
  λ c o hc e=>(Heap.get?_update_other _ _ (Ne.symm hc)).trans ((Heap.get?_update_other _ _ (Ne.symm hc)).trans e)
 have st4:=st1.but e1 hSf (Nat.ne_of_lt al) (Nat.ne_of_lt bl) oth
 refine wpAny_pure ⟨plainId_quiet PySem.F.plain_extend_loop _,zip_loop (A:=A.in1) hh nd na nb s.heap.objs.size lo hSf (Nat.ne_of_lt al) (Nat.ne_of_lt bl) hlo hlS hsz _ 0 _ [] _ rfl (Nat.zero_le _) st4 (by exact hS₄) rfl ⟨List.nodup_nil,λ t h=>absurd h List.not_mem_nil,λ m t h=>by simp at h⟩ (by simp) (λ t h=>absurd h List.not_mem_nil) ?_ λ h' ts' c' r1 r2 r3 r4 r5=>?_⟩
 ·show lo<=((hp.update _ _).update _ _).objs.size
  rw [Heap.size_update,Heap.size_update,sz1];exact Nat.le_trans hlS (Nat.le_succ _)
 ·refine ⟨rfl,hQ h' ts' c' r1 r2 r3 r4 λ d o hd e=>r5 d o hd (oth d o (Nat.ne_of_lt (Heap.lt_size e)) (k1 d o e))⟩
end
section
variable {X:Cx}{pins:List (Addr × Obj)}{σ:St}{s:Shared}
theorem Inv.adoptAll:∀ (ts:List Addr) (zs:List (V × V)){H:Hp},Inv X pins σ H s->ts.length=zs.length->ts.Nodup->(∀ t∈ts,NewAt X pins t/\H t=none)->(∀ (m:Nat) t z,ts[m]? = some t->zs[m]? = some z->∃ u v,RelV z.1 u/\RelV z.2 v/\IsPair s.heap t u v) →
  ∃ H',Inv X pins σ H' s/\Ext H H'/\(∀ c,c ∉ ts->H' c=H c)/\∀ (m:Nat) t z,ts[m]? = some t->zs[m]? = some z->H' t=some (.tup [z.1,z.2])
 | [],zs,H,I,_,_,_,_=>⟨H,I,Ext.refl _,λ _ _=>rfl,λ m t z h=>by simp at h⟩
 | t::ts,[],H,I,hl,_,_,_=>by simp at hl
 | t::ts,z::zs,H,I,hl,nd,hn,hp=>by
  rw [List.nodup_cons] at nd
  obtain ⟨N,ht⟩:=hn t List.mem_cons_self
  obtain ⟨u,v,ru,rv,pr⟩:=hp 0 t z rfl rfl
  have I1:=I.adopt (o:=.tup [z.1,z.2]) N ht ⟨(show 2<=sizeLine by decide),[u,v],.cons ru (.cons rv .nil),⟨_,pr,rfl,_,rfl⟩⟩
  have up:∀ c∈ts,c ≠ t:=λ c hc e=>nd.1 (e ▸ hc)
  obtain ⟨H',I',e',q',g'⟩:=Inv.adoptAll ts zs I1 (by simpa using hl) nd.2 (λ c hc=>⟨(hn c (List.mem_cons_of_mem _ hc)).1,by rw [upd_ne (up c hc)];exact (hn c (List.mem_cons_of_mem _ hc)).2⟩) λ m t' z' h1 h2=>hp (m+1) t' z' (by simpa using h1) (by simpa using h2)
  refine ⟨H',I',(Ext.new ht).trans e',λ c hc=>?_,λ m t' z' h1 h2=>?_⟩
  ·rw [q' c (λ h=>hc (List.mem_cons_of_mem _ h)),upd_ne (λ h=>hc (by rw [h];exact List.mem_cons_self))]
  ·cases m with
   | zero=>
    simp at h1 h2
    subst h1;subst h2
    rw [q' t nd.1,upd_same]
   | succ m=>exact g' m t' z' (by simpa using h1) (by simpa using h2)
end
def lzK (xs ys:List V) (H:Hp) (Q:VK):Prop:=∀ (D:Addr) (ts:List V) (H':Hp),H D=none->Ext H H'->H' D=some (.lst ts)->Al (λ z y=>zipP z y H') (xs.zip ys) ts->Q (.ref D) H'
theorem x_lzK (xs ys:List V) (H:Hp) (Q:VK):lzK xs ys H Q=∀ (D:Addr) (ts:List V) (H':Hp),H D=none->Ext H H'->H' D=some (.lst ts)->Al (λ z y=>zipP z y H') (xs.zip ys) ts->Q (.ref D) H':=rfl
def kLZ2 (xs:List V) (H:Hp) (Q:VK):HO->Prop:=λ o=>match o with
 | .lst ys=>lzK xs ys H Q
 | .tup ys=>lzK xs ys H Q
 | _=>False
theorem m_kLZ2_l (xs ys:List V) (H:Hp) (Q:VK):kLZ2 xs H Q (.lst ys)=lzK xs ys H Q:=rfl
def kLZ1 (b:Addr) (H:Hp) (Q:VK):HO->Prop:=λ o=>match o with
 | .lst xs=>optK (H b) (kLZ2 xs H Q)
 | .tup xs=>optK (H b) (kLZ2 xs H Q)
 | _=>False
theorem m_kLZ1_l (b:Addr) (xs:List V) (H:Hp) (Q:VK):kLZ1 b H Q (.lst xs)=optK (H b) (kLZ2 xs H Q):=rfl
def kLZ0 (Q:VK):List V->Hp->Prop:=λ vs H=>match vs with
 | [.ref a,.ref b]=>optK (H a) (kLZ1 b H Q)
 | _=>False
theorem m_kLZ0 (Q:VK) (a b:Addr) (H:Hp):kLZ0 Q [.ref a,.ref b] H=optK (H a) (kLZ1 b H Q):=rfl
def tLZ (ta:TA):TE:=λ σ H Q=>ta σ H (kLZ0 Q)
theorem m_tLZ (ta:TA) (σ:St) (H:Hp) (Q:VK):tLZ ta σ H Q=ta σ H (kLZ0 Q):=rfl
theorem kLZ0_ex {Q:VK}{vs:List V}{H:Hp}(h:kLZ0 Q vs H):∃ a b ka kb xs ys,vs=[.ref a,.ref b]/\SqK ka H a xs/\SqK kb H b ys/\lzK xs ys H Q:=by
 unfold kLZ0 at h
 split at h
 ·rename_i a b
  obtain ⟨o,e,h⟩:=optK_ex h
  unfold kLZ1 at h
  split at h
  ·rename_i xs
   obtain ⟨o',e',h⟩:=optK_ex h
   unfold kLZ2 at h
   split at h
   ·exact ⟨a,b,false,false,xs,_,rfl,e,e',h⟩
   ·exact ⟨a,b,false,true,xs,_,rfl,e,e',h⟩
   ·exact h.elim
  ·rename_i xs
   obtain ⟨o',e',h⟩:=optK_ex h
   unfold kLZ2 at h
   split at h
   ·exact ⟨a,b,true,false,xs,_,rfl,e,e',h⟩
   ·exact ⟨a,b,true,true,xs,_,rfl,e,e',h⟩
   ·exact h.elim
  ·exact h.elim
 ·exact h.elim
theorem Inv.sqLe {X:Cx}{pins:List (Addr × Obj)}{σ:St}{H:Hp}{s:Shared}{k:Bool}{a:Addr}{xs:List V}(I:Inv X pins σ H s) (h:SqK k H a xs):xs.length<=sizeLine:=by
 cases k
 ·obtain ⟨_,_,_,h⟩:=I.list (SqL.of h);exact h
 ·obtain ⟨_,_,_,h⟩:=I.tuple (SqT.of h);exact h
section
variable {X:Cx}
theorem vals_refs:∀ ts:List Addr,Vals (ts.map V.ref) (ts.map Value.ref)
 | []=>.nil
 | _::ts=>.cons rfl (vals_refs ts)
theorem pe_listzip {a b:Expr}{ta:TA}{p p2 pos pos2:Pos}(hc:X.calm=true) (hg:Gl X "list") (hm:X.mg "list"=none) (hg2:Gl X "zip") (hm2:X.mg "zip"=none) (ha:PA X [a,b] ta) (hs:starEach [a,b] X.env=[(false,eval a X.env),(false,eval b X.env)]:=by rfl) (hs2:starEach [b] X.env=[(false,eval b X.env)]:=by rfl) (hs3:starEach [Expr.Call (.Name "zip" p2) [a,b] [] pos2] X.env=[(false,eval (Expr.Call (.Name "zip" p2) [a,b] [] pos2) X.env)]:=by rfl) (hs4:starEach ([]:List Expr) X.env=[]:=by rfl) :
  PE X (.Call (.Name "list" p) [.Call (.Name "zip" p2) [a,b] [] pos2] [] pos) (tLZ ta):=by
 intro pins s σ H Q I h
 refine wpAny_Call_Name_kw (ld_blt I hg hm (show bootBuiltins "list"=some (.type "list") by decide +kernel) ?_)
 refine PyProof.Rows.callWith_type1 ?_ (by rw [hs3,hs4]) (by rw [hs4];rfl)
 rw [hs3]
 show wpAny _ _ (spliced ((false,eval _ X.env)::[])) _ _ s
 refine Calls.spliced_cons ?_
 refine Call_ (ld_blt I hg2 hm2 (show bootBuiltins "zip"=some (.type "zip") by decide +kernel) (PyProof.Rows.callWith_type1 (thn (ha pos2 pins s σ H _ I h) λ us s1 ⟨vs,H1,I1,r1,q1⟩=>?_) (by rw [hs,hs2]) (by rw [hs2];rfl)))
 obtain ⟨a,b,ka,kb,xs,ys,rfl,sa,sb,q⟩:=kLZ0_ex q1
 cases r1 with
 | cons r rr=>
  cases rr with
  | cons r' rr=>
   cases rr
   cases r
   cases r'
   obtain ⟨as,ra,s1a⟩:=I1.sq sa
   obtain ⟨bs,rb,s1b⟩:=I1.sq sb
   have la:=ra.length
   have lb:=rb.length
   have lz:=I1.sqLe sa
   have lz2:=I1.sqLe sb
   refine call_zq s1a s1b λ h' n hn e1 e2 e3 e4 e5 e6 e7=>?_
   refine Calls.spliced_nil ?_
   have nn:∀ c∈[n+4,n+2,n+3,n,n+1],n<=c:=λ c hc=>by
    simp only [List.mem_cons,List.not_mem_nil,or_false] at hc
    rcases hc with rfl|rfl|rfl|rfl|rfl<;>omega
   have al:a < n:=by rw [hn];obtain ⟨o,_,e,_⟩:=s1a.obj;exact Heap.lt_size e
   have bl:b < n:=by rw [hn];obtain ⟨o,_,e,_⟩:=s1b.obj;exact Heap.lt_size e
   refine call_list_zip (s:={ s1 with heap:=h' }) (I1.ok.hd hc) (by simp) (λ z=>absurd (nn a z) (Nat.not_le.mpr al)) (λ z=>absurd (nn b z) (Nat.not_le.mpr bl)) n nn (by simp;omega) e1 ⟨.inl e1,e2,⟨_,_,e3⟩,⟨e4,s1a.at λ o e=>e7 _ o e⟩,e5,s1b.at λ o e=>e7 _ o e⟩ λ h2 ts c r1 r2 G r4 r5=>?_
   have r1':h2.get? (n+5)=some { cls:=.type "list",dict:=none,data:=.seq (ts.map Value.ref).toArray c,slots:=#[] }:=by rw [←e6];exact r1
   have I2:Inv X pins σ H1 { s1 with heap:=h2 }:=I1.kept (t':=s1.toks) λ c o e=>r5 c o (by rw [hn];exact Heap.lt_size e) (e7 c o e)
   have hln:ts.length=(xs.zip ys).length:=by rw [r2,List.length_zip];simp;omega
   have fr:∀ t,n<=t->NewAt X pins t/\H1 t=none:=λ t ht=>⟨I1.newAt (by rw [←hn];exact ht),I1.hok.fresh (by rw [←hn];exact ht)⟩
   obtain ⟨H2,I3,x2,q2,g2⟩:=I2.adoptAll ts (xs.zip ys) hln G.nd (λ t ht=>fr t (G.lo t ht)) λ m t z h1 h2=>by
    obtain ⟨u,v,g1,g2,g3⟩:=G.get m t h1
    rw [List.getElem?_zip_eq_some] at h2
    obtain ⟨u',hu,ru⟩:=ra.get h2.1
    obtain ⟨v',hv,rv⟩:=rb.get h2.2
    have hu':as.toArray[m]? = some u':=by simpa using hu
    have hv':bs.toArray[m]? = some v':=by simpa using hv
    rw [g1] at hu'
    rw [g2] at hv'
    cases hu';cases hv'
    exact ⟨u,v,ru,rv,g3⟩
   have hD:H2 (n+5)=none:=by
    rw [q2 _ (by rw [←e6];exact r4)]
    exact (fr (n+5) (Nat.le_add_right ..)).2
   have I4:=I3.adopt (o:=.lst (ts.map V.ref)) (fr (n+5) (Nat.le_add_right ..)).1 hD ⟨by rw [List.length_map,r2];simp;omega,ts.map Value.ref,c,vals_refs ts,r1'⟩
   refine ⟨.ref (n+5),_,I4,by rw [←e6];rfl,q (n+5) (ts.map V.ref) _ (fr (n+5) (Nat.le_add_right ..)).2 (x2.trans (Ext.new hD)) upd_same ⟨by rw [List.length_map,hln],λ m z y hz hy=>?_⟩⟩
   rw [List.getElem?_map] at hy
   obtain ⟨t,ht,rfl⟩:=Option.map_eq_some_iff.mp hy
   exact ⟨t,rfl,by rw [upd_ne (λ e=>r4 (by rw [e6,←e];exact List.mem_of_getElem? ht))];exact g2 m t z ht hz⟩
end
def qInt (xs:List V) (H:Hp) (Q:VK):Prop:=match xs with
 | [.int i]=>Q (.int i) H
 | [.bl k]=>Q (.int (if k=true then 1 else 0)) H
 | _=>False
theorem m_qInt_b (k:Bool) (H:Hp) (Q:VK):qInt [.bl k] H Q=Q (.int (if k=true then 1 else 0)) H:=rfl
theorem call_qInt {X:Cx}:CallR X (.type "int") qInt:=call_int1.mono λ xs H Q h=>by
 unfold qInt at h
 split at h
 ·exact .inl ⟨_,rfl,h⟩
 ·exact .inr ⟨_,rfl,h⟩
 ·exact h.elim
end L2
namespace L2
open PySem PySem.Spec PyProof.Rows
section
variable {X:Cx}
end
def kExt2 (l:Addr) (xs:List V) (H:Hp) (Q:VK):List V->Prop:=λ zs=>xs.length+zs.length<=sizeLine/\Q .non (upd H l (.lst (xs++zs)))
theorem m_kExt2 (l:Addr) (xs:List V) (H:Hp) (Q:VK) (zs:List V):kExt2 l xs H Q zs=(xs.length+zs.length<=sizeLine/\Q .non (upd H l (.lst (xs++zs)))):=rfl
def kExt1 (l b:Addr) (H:Hp) (Q:VK):List V->Prop:=λ xs=>optK (lstAt H b) (kExt2 l xs H Q)
theorem m_kExt1 (l b:Addr) (H:Hp) (Q:VK) (xs:List V):kExt1 l b H Q xs=optK (lstAt H b) (kExt2 l xs H Q):=rfl
theorem m_rExtend (l b:Addr) (H:Hp) (Q:VK):rExtend (.ref l) [.ref b] H Q=optK (lstAt H l) (kExt1 l b H Q):=by
 refine propext ⟨λ h=>?_,λ h=>?_⟩
 ·obtain ⟨l',b',xs,zs,e1,e2,h1,h2,h3,q⟩:=h
  cases e1
  cases e2
  unfold lstAt
  rw [h1]
  show optK (lstAt H b) _
  unfold lstAt
  rw [h2]
  exact ⟨h3,q⟩
 ·obtain ⟨xs,e,h⟩:=optK_ex h
  obtain ⟨zs,e2,h3,q⟩:=optK_ex h
  exact ⟨l,b,xs,zs,rfl,rfl,lst_of e,lst_of e2,h3,q⟩
section
variable {X:Cx}{a b c d:Expr}{ta tb tc td:TE}{pos:Pos}
end
section
variable {k:Nat}{g:TG}{tt:TT}{te:TE}{σ:St}{Q:VK}{H:Hp}{K:PySem.W.Frag}
end
end L2
namespace L2
open PySem PySem.Spec PyProof.Rows
def Ite (l:Addr) (xs:List V):It:=
 ⟨λ i H=>H l=some (.lst xs)/\i < xs.length,λ i H x H'=>∃ p u,H p=none/\x=.ref p/\xs[i]? = some u/\H'=upd H p (.tup [.int (i:Int),u]),λ i H=>H l=some (.lst xs)/\i=xs.length⟩
def Tne (l e it:Addr) (i:Nat) (h:Heap):Prop:=(∃ old,IsEnum h e it (i:Int) old)/\h.IsListIter it l i
theorem turn_enum {P:Program}{w:World}{K:PySem.W.Frag}{elts:List Expr} {x1}{tp:Pos}(l e it:Addr) (xs:List V) (ne:e ≠ it):Turn P w K (.Tuple elts x1 tp) (Ite l xs) [e,it] e (Tne l e it) where
 mem:=List.mem_cons_self
 obj:=λ i h st c hc=>by
  obtain ⟨⟨old,e1⟩,e2⟩:=st
  simp only [List.mem_cons,List.not_mem_nil,or_false] at hc
  rcases hc with rfl|rfl
  ·exact ⟨_,e1,λ v z=>by cases z⟩
  ·obtain ⟨o,e,_,d⟩:=e2;exact ⟨o,e,λ v z=>by rw [d] at z;cases z⟩
 keep:=λ i h h' st k=>by
  obtain ⟨⟨old,e1⟩,e2⟩:=st
  exact ⟨⟨old,k e (by simp) _ e1⟩,e2.at λ o q=>k it (by simp) o q⟩
 item:=by
  intro X hP hw hK hc i pins s σ H E I hf st hg
  subst hP hw hK
  obtain ⟨ha,l1⟩:=hg
  obtain ⟨as,ra,pl,_⟩:=I.list (SqL.of ha)
  have hx:xs[i]? = some xs[i]:=List.getElem?_eq_getElem l1
  obtain ⟨u,hu,ru⟩:=ra.get hx
  have free:∀ c∈[e,it],H c=none:=λ c h=>(hf c h).1
  have nle:l ≠ e:=λ z=>by have:=free e (by simp);rw [←z,ha] at this;cases this
  have nlt:l ≠ it:=λ z=>by have:=free it (by simp);rw [←z,ha] at this;cases this
  have W:=WalksT.enumerate (prog:=X.prog) (w:=X.w) (I.ok.hd hc) e it l ne nle nlt as.toArray
  have la:=ra.length
  obtain ⟨e1,e2⟩:=st
  obtain ⟨old,e1'⟩:=e1
  refine W.item i s _ E (by simp;omega) ⟨⟨old,e1'⟩,e2,pl.isList⟩ λ T vals h1 tk hp hle hT hmid kp=>⟨_,rfl,?_⟩
  refine W.go elts x1 tp i T ⟨h1,s.gens,s.drawn,tk,s.os⟩ _ E hmid λ h2 st2 kp2=>?_
  have nT:=W.apart i T h1 hmid
  obtain ⟨tk',x,hx',rfl⟩:=hp
  have hxu:x=u:=by
   have:as[i]? = some x:=by simpa using hx'
   rw [hu] at this;exact (Option.some.inj this).symm
  subst hxu
  have hT2:h2.IsTuple T #[.int (i:Int) tk',x]:=hT.at λ o q=>kp2 T o nT q
  have I2:Inv X pins σ (upd H T (.tup [.int (i:Int),xs[i]])) { s with heap:=h2,toks:=tk }:=I.turnNew (t':=tk) (ch:=[e,it]) (λ c hc=>hf c hc) (λ c o hc q=>kp2 c o hc (kp c o hc q)) hle ⟨(show 2<=sizeLine by decide),[.int (i:Int) tk',x],.cons ⟨tk',rfl⟩ (.cons ru .nil),hT2⟩
  have fr:H T=none:=I.hok.fresh hle
  refine ⟨.ref T,_,I2,rfl,⟨_,_,fr,rfl,hx,rfl⟩,⟨st2.1,st2.2.1⟩,λ c hc=>?_⟩
  have hlt:c < s.heap.objs.size:=by
   simp only [List.mem_cons,List.not_mem_nil,or_false] at hc
   rcases hc with rfl|rfl
   ·exact Heap.lt_size e1'
   ·obtain ⟨o,q,_⟩:=e2;exact Heap.lt_size q
  rw [upd_ne (Nat.ne_of_lt (Nat.lt_of_lt_of_le hlt hle))]
  exact free c hc
 done:=by
  intro X hP hw hK hc i pins s σ H E I hf st hg
  subst hP hw hK
  obtain ⟨ha,rfl⟩:=hg
  obtain ⟨as,ra,pl,_⟩:=I.list (SqL.of ha)
  have free:∀ c∈[e,it],H c=none:=λ c h=>(hf c h).1
  have nle:l ≠ e:=λ z=>by have:=free e (by simp);rw [←z,ha] at this;cases this
  have nlt:l ≠ it:=λ z=>by have:=free it (by simp);rw [←z,ha] at this;cases this
  have W:=WalksT.enumerate (prog:=X.prog) (w:=X.w) (I.ok.hd hc) e it l ne nle nlt as.toArray
  have la:=ra.length
  have hsz:as.toArray.size=xs.length:=by simp [la]
  obtain ⟨e1,e2⟩:=st
  refine W.done s _ E (by rw [hsz];exact ⟨e1,e2,pl.isList⟩) λ h' tk kp=>⟨rfl,I.turnL (t':=tk) (ch:=[e,it]) (λ c hc=>hf c hc) kp⟩
 self:=λ A i s Q E st h=>by
  obtain ⟨⟨old,e1⟩,e2⟩:=st
  exact wpAny_pyIter_enum e1 h
def kEn1 (l:Addr) (H:Hp) (R:It->Hp->Prop):List V->Prop:=λ xs=>R (Ite l xs) H
theorem m_kEn1 (l:Addr) (H:Hp) (R:It->Hp->Prop) (xs:List V):kEn1 l H R xs=R (Ite l xs) H:=rfl
def kEn0 (R:It->Hp->Prop):List V->Hp->Prop:=λ vs H=>match vs with
 | [.ref l]=>optK (lstAt H l) (kEn1 l H R)
 | _=>False
theorem m_kEn0 (R:It->Hp->Prop) (l:Addr) (H:Hp):kEn0 R [.ref l] H=optK (lstAt H l) (kEn1 l H R):=rfl
def iEnum (ta:TA):TI:=λ σ H R=>ta σ H (kEn0 R)
theorem m_iEnum (ta:TA) (σ:St) (H:Hp) (R:It->Hp->Prop):iEnum ta σ H R=ta σ H (kEn0 R):=rfl
section
variable {X:Cx}
theorem pi_enum {a:Expr}{elts:List Expr} {x1}{tp:Pos}{ta:TA}{p pos:Pos}(hg:Gl X "enumerate") (hm:X.mg "enumerate"=none) (ha:PA X [a] ta) (he:starEach [a] X.env=[(false,eval a X.env)]:=by rfl) :
  PI X (.Tuple elts x1 tp) (.Call (.Name "enumerate" p) [a] [] pos) (iEnum ta):=by
 intro pins s σ H R I h
 refine Call_ (ld_blt I hg hm (show bootBuiltins "enumerate"=some (.type "enumerate") by decide +kernel) (PyProof.Rows.callWith_type1 (thn (ha pos pins s σ H _ I h) λ us s1 ⟨vs,H1,I1,r1,q1⟩=>?_) (by rw [he];rfl) (by rfl)))
 unfold kEn0 at q1
 split at q1
 ·rename_i l
  obtain ⟨xs,e,q⟩:=optK_ex q1
  replace e:=lst_of e
  cases r1 with
  | cons r rr=>
   cases rr
   cases r
   obtain ⟨as,ra,pl,_⟩:=I1.list (SqL.of e)
   refine call_enumerate_list pl.isList λ h' e1 e2 e3 e4=>?_
   have I2:Inv X pins σ H1 { s1 with heap:=h' }:=I1.kept (t':=s1.toks) e4
   refine wpAny_pyIter_enum (s:={ s1 with heap:=h' }) e1 ⟨s1.heap.objs.size+1,[s1.heap.objs.size+1,s1.heap.objs.size],_,_,H1,rfl,I2,turn_enum l (s1.heap.objs.size+1) s1.heap.objs.size xs (by simp),⟨⟨_,e1⟩,e2⟩,λ c hc=>?_,q⟩
   have hle:s1.heap.objs.size<=c:=by
    simp only [List.mem_cons,List.not_mem_nil,or_false] at hc
    rcases hc with rfl|rfl
    ·exact Nat.le_add_right ..
    ·exact Nat.le_refl _
   exact I1.fpOk hle (I1.hok.fresh hle)
 ·exact q1.elim
end
section
variable {g:TG}{σ:St}{Q:VK}{H:Hp}{K:PySem.W.Frag}
theorem for_enum {tb:TS}{nx:St->Hp->Prop}{rt:VK}{bk ct:St->Hp->Prop}{l:Addr}{xs:List V}(Pv:Nat->St->Hp->Prop) (h0:Pv 0 σ H) (hl:∀ i σ H,Pv i σ H->H l=some (.lst xs))
  (hs:∀ i u p σ H H',xs[i]? = some u->Pv i σ H->H p=none->Ext H H'->H' p=some (.tup [.int (i:Int),u])->g (.ref p) σ H' (kBody tb ⟨Pv (i+1),rt,nx,Pv (i+1)⟩)) (hd:∀ σ H,Pv xs.length σ H->nx σ H):kFor g tb ⟨nx,rt,bk,ct⟩ σ (Ite l xs) H:=by
 refine ⟨λ i m σ H=>m=xs.length - i/\i<=xs.length/\Pv i σ H,⟨xs.length,by simp,Nat.zero_le _,h0⟩,?_⟩
 rintro i m σ H ⟨rfl,hi,p⟩
 have qa:=hl i σ H p
 by_cases hlt:i < xs.length
 ·refine .inr ⟨⟨qa,hlt⟩,Pv (i+1),λ σ' H' p'=>⟨xs.length - (i+1),by omega,rfl,hlt,p'⟩,λ x H' y=>?_⟩
  obtain ⟨r,u,hr,rfl,hu,rfl⟩:=y
  exact hs i u r σ H _ hu p hr (Ext.new hr) upd_same
 ·have e:i=xs.length:=by omega
  subst e
  exact .inl ⟨⟨qa,rfl⟩,hd σ H p⟩
end
def nMethX (C:Addr) (m:Str) (sp:Sp) (dvs:List V) (E:St->XK) (ta:TE) (t:TA):TE:=λ σ H Q=>nMeth C m sp dvs (E σ) ta t σ H Q
theorem m_nMethX (C:Addr) (m:Str) (sp:Sp) (dvs:List V) (E:St->XK) (ta:TE) (t:TA) (σ:St) (H:Hp) (Q:VK):nMethX C m sp dvs E ta t σ H Q=ta σ H (kMeth C m sp dvs (E σ) t σ Q):=rfl
section
variable {X:Cx}{CX:CXT}{k:Nat}{f C:Addr}{fd:FuncData}{ps:List Str}{sp:Sp}{dvs:List V}{ds:List Value}{E:St->XK}{x m:Str}{p pos apos:Pos}{e o:Expr}{es:List Expr}{ta:TE}{t:TA}
theorem run_fnX {pins:List (Addr × Obj)}{σ:St}{H:Hp}{s:Shared}{us:List Value}{vs:List V}{Q:VK}(F:FnOk X.prog X.w X.K X.mg X.base CX k f fd ps sp) (hr:Room k X.A) (hb:Binds X.K fd ps ds) (hd:Vals dvs ds) (hx:∀ σ,PassAt CX X (E σ) σ) (I:Inv X pins σ H s) (r:Vals vs us) (q:sp (vs++dvs) H Q (E σ)) :
  wpAny (model X.prog X.w) X.A (call (.ref f) us) (EP X pins σ Q) X.xe s:=by
 have r2:Vals (vs++dvs) (us++ds):=r.append hd
 have hl:(us++ds).length=ps.length:=by rw [←r2.length];exact F.len _ _ _ _ q
 refine wpAny_call (codeAny_mono (F.run X.A X.stack s H ⟨us,[]⟩ (us++ds) (vs++dvs) Q (E σ) hr I.env0 (hb s us I.kIn hl) r2 q) λ rr s' hq=>?_)
 cases rr with
 | error ev=>exact hx σ pins H s ev s' I hq
 | ok fl=>
  cases fl with
  | ret u=>exact I.after hq
  | next=>exact False.elim hq
  | brk=>exact False.elim hq
  | cont=>exact False.elim hq
theorem pe_nMethX0 {pl:Sem Bool}(he:PE X o ta) (c:Cls X.K C) (hm:Meth X.K C m f) (F:FnOk X.prog X.w X.K X.mg X.base CX k f fd ps sp) (hr:Room k X.A) (hb:Binds X.K fd ps ds) (hd:Vals dvs ds) (hx:∀ σ,PassAt CX X (E σ) σ)
  (ht:eval (.Call (.Attribute o m apos) [] [] pos) X.env=(do
   let ov ←eval o X.env
   standAt apos.atName
   let (f,first) ←holding [ov] (getMethod ov m pl)
   callWith pos f first (backTo pos (starEach [] X.env)) (backToKw pos (keywordEach [] X.env))):=by rfl) :
  PE X (.Call (.Attribute o m apos) [] [] pos) (nMethX C m sp dvs E ta tNil):=by
 intro pins s σ H Q I h
 refine W.methodCall_KW (pl:=pl) (thn (he pins s σ H _ I h) λ u s1 ⟨x,H1,I1,rx,q0⟩=>?_) ht
 obtain ⟨a,dx,fs,ex,ea,l,q⟩:=kMeth_ex q0
 subst ex
 obtain rfl:u=Value.ref a:=rx
 refine getmeth_ok I1 ea c hm l ?_
 exact W.callWith_K0 (first:=[.ref a]) I1.kIn hm.kp (run_fnX (us:=[.ref a]) (vs:=[.ref a]) F hr hb hd hx I1 (.cons rfl .nil) q)
end
end L2
namespace L2
open PySem PySem.Spec PyProof.Rows
theorem filterMap_map_some {α β:Type}(f:α->Option β) (g:α->β):∀ xs:List α,(∀ x∈xs,f x=some (g x))->xs.filterMap f=xs.map g
 | [],_=>rfl
 | x::r,h=>by
  rw [List.filterMap_cons,h x List.mem_cons_self]
  show g x::_=_
  rw [filterMap_map_some f g r λ y hy=>h y (List.mem_cons_of_mem _ hy)]
  rfl
theorem slicePick_rev (its:List Value):slicePick its.toArray none none (some (-1))=its.reverse.toArray:=by
 unfold slicePick sliceBounds sliceRange
 simp only [Option.getD_some,List.size_toArray,show ¬ ((-1:Int) > 0) by decide,if_false]
 have e:(List.range (if (its.length:Int) - 1 > -1 then ((its.length:Int) - 1 - -1 - -1 - 1) / - -1 else 0).toNat)=List.range its.length:=by
  congr 1
  by_cases h:(its.length:Int) - 1 > -1
  ·rw [if_pos h,show (- -1:Int)=1 from rfl,Int.ediv_one];omega
  ·rw [if_neg h];omega
 rw [e]
 congr 1
 rw [List.filterMap_map]
 apply List.ext_getElem?
 intro i
 by_cases hi:i < its.length
 ·rw [filterMap_map_some _ (λ k=>(its.reverse[k]?).getD .none) (List.range its.length) (λ k hk=>?_)]
  ·rw [List.getElem?_map,List.getElem?_range hi]
   show some ((its.reverse[i]?).getD .none)=_
   rw [List.getElem?_eq_getElem (by simpa using hi)];rfl
  ·have hk':=List.mem_range.mp hk
   show its.toArray[((its.length:Int) - 1 + -1 * (k:Int)).toNat]? = _
   have hn:((its.length:Int) - 1 + -1 * (k:Int)).toNat=its.length - 1 - k:=by omega
   rw [hn,List.getElem?_toArray,List.getElem?_reverse hk',List.getElem?_eq_getElem (by omega)];rfl
 ·rw [List.getElem?_eq_none (show its.reverse.length<=i by rw [List.length_reverse];omega)]
  refine List.getElem?_eq_none (Nat.le_trans (List.length_filterMap_le _ _) ?_)
  rw [List.length_range];omega
def kRevS (H:Hp) (Q:VK):List V->Prop:=λ xs=>newK (.lst xs.reverse) H Q
theorem m_kRv0S (H:Hp) (Q:VK) (xs:List V):kRevS H Q xs=newK (.lst xs.reverse) H Q:=rfl
def kRv0 (Q:VK):VK:=λ x H=>match x with
 | .ref p=>optK (lstAt H p) (kRevS H Q)
 | _=>False
theorem m_kRv0 (Q:VK) (p:Addr) (H:Hp):kRv0 Q (.ref p) H=optK (lstAt H p) (kRevS H Q):=rfl
def tRvS (te:TE):TE:=λ σ H Q=>te σ H (kRv0 Q)
theorem m_tRvS (te:TE) (σ:St) (H:Hp) (Q:VK):tRvS te σ H Q=te σ H (kRv0 Q):=rfl
section
variable {X:Cx}{e st:Expr}{te tst:TE}{pos p2:Pos}
theorem pe_rev (he:PE X e te) (hs:PE X st tst) (h1:∀ (σ:St) (H:Hp) (Q:VK),Q (.int (-1)) H->tst σ H Q):PE X (.Subscript e (.Slice none none (some st) p2) pos) (tRvS te):=by
 intro pins s σ H Q I h
 refine Subscript_ (thn (he pins s σ H _ I h) λ v s1 ⟨x,H1,I1,r1,q1⟩=>?_)
 unfold kRv0 at q1
 split at q1
 ·rename_i p
  obtain ⟨xs,ex,q⟩:=optK_ex q1
  replace ex:=lst_of ex
  cases r1
  refine wpAny_Slice ?_
  rw [evalPart_none]
  refine wpAny_pure ?_
  refine wpAny_pure ?_
  rw [evalPart_some]
  refine thn (hs pins s1 σ H1 (λ y H'=>y=.int (-1)/\H'=H1) I1 (h1 σ H1 _ ⟨rfl,rfl⟩)) λ u s2 ⟨y,H2,I2,r2,e2,e3⟩=>?_
  subst e2 e3
  obtain ⟨tk,rfl⟩:=r2
  have I4:Inv X pins σ H2 { s2 with heap:=s2.heap.push { cls:=.type "slice",data:=.fields #[.none,.none,.int (-1) tk] } }:=I2.kept (t':=s2.toks) λ b ob q=>Heap.get?_push_of_some _ q
  show wpAny (model X.prog X.w) X.A (subscriptTail e (.Slice none none (some st) p2) (.ref p) (.ref s2.heap.objs.size)) (EP X pins σ Q) X.xe { s2 with heap:=s2.heap.push { cls:=.type "slice",data:=.fields #[.none,.none,.int (-1) tk] } }
  obtain ⟨its,r,ht,hz⟩:=I4.list (SqL.of ex)
  refine tail_any (ops:=[.ref p,.ref s2.heap.objs.size]) ht.isList.typeIs slot_list_getitem.lookup ?_ (by with_unfolding_all rfl)
  have hlen:=r.length
  refine wpAny_getItem_list_slice (st:=some (-1)) ht.isList (Heap.IsSliceOf.new ..) .none .none (.int (-1) tk) (by simp) ?_ (by rw [List.size_toArray]<;>omega)
  rw [slicePick_rev]
  have fr:=I4.hok.fresh (Nat.le_refl (Heap.objs (s2.heap.push { cls:=.type "slice",data:=.fields #[.none,.none,.int (-1) tk] })).size)
  refine ⟨.ref (s2.heap.push { cls:=.type "slice",data:=.fields #[.none,.none,.int (-1) tk] }).objs.size,_,I4.laid (t':=s2.toks) (o:=.lst xs.reverse) (λ b ob q=>Heap.get?_push_of_some _ q) (Nat.le_refl _) ?_,rfl,q _ _ fr (Ext.new fr) upd_same⟩
  exact ⟨by rw [List.length_reverse];exact hz,its.reverse,0,r.reverse,Heap.get?_push_size _ rfl⟩
 ·exact q1.elim
end
end L2
namespace L2
open PySem PySem.Spec PyProof.Rows
theorem vals_of_get:∀ {xs:List V}{us:List Value},us.length=xs.length->(∀ (i:Nat) (x:V) (u:Value),xs[i]? = some x->us[i]? = some u->RelV x u)->Vals xs us
 | [],[],_,_=>.nil
 | [],_::_,h,_=>by cases h
 | _::_,[],h,_=>by cases h
 | x::xs,u::us,h,k=>.cons (k 0 x u rfl rfl) (vals_of_get (by simpa using h) λ i y w a b=>k (i+1) y w (by simpa using a) (by simpa using b))
section
variable {X:Cx}
end
end L2
namespace L2
open PySem PySem.Spec PyProof.Rows
theorem units1 {n:Nat}(h:n+64 < cLine):n+1 < cLine:=by omega
def kDG1 (Q:VK) (x:V):VK:=λ y H=>∃ a v,x=.ref a/\DGet H a y (some v)/\Q v H
def kDG0 (ty:TE) (σ:St) (Q:VK):VK:=λ x H=>ty σ H (kDG1 Q x)
theorem m_kDG0 (ty:TE) (σ:St) (Q:VK) (x:V) (H:Hp):kDG0 ty σ Q x H=ty σ H (kDG1 Q x):=rfl
theorem m_tDGet (td ty:TE) (σ:St) (H:Hp) (Q:VK):tDGet td ty σ H Q=td σ H (kDG0 ty σ Q):=rfl
def rInD (neg:Bool):R2:=λ y x H Q=>∃ a o,x=.ref a/\DGet H a y o/\Q (.bl (if neg=true then !o.isSome else o.isSome)) H
theorem use_in {neg:Bool}{H:Hp}{a:Addr}{kvs:List (Key × V)}{k:Key}{Q:VK}(e:H a=some (.dK kvs)) (q:Q (.bl (if neg=true then !(valV kvs k).isSome else (valV kvs k).isSome)) H):rInD neg (kV k) (.ref a) H Q:=⟨a,_,rfl,DGet.k e,q⟩
section
variable {X:Cx}
theorem op_inD (hu:X.A.units+1 < cLine):OpR X (compareOp .In) (rInD false):=by
 intro pins s σ H x y v u Q I rx ry h
 obtain ⟨a,o,rfl,g,q⟩:=h
 obtain rfl:u=Value.ref a:=ry
 exact d_in hu I g rx λ s3 I3=>⟨.bl o.isSome,H,I3,rfl,q⟩
end
def kDP2 (nx:St->Hp->Prop) (σ:St) (v x:V):VK:=λ y H=>∃ a H4,x=.ref a/\DPut H a y v H4/\nx σ H4
def kDP1 (ty:TE) (nx:St->Hp->Prop) (σ:St) (v:V):VK:=λ x H=>ty σ H (kDP2 nx σ v x)
theorem m_kDP1 (ty:TE) (nx:St->Hp->Prop) (σ:St) (v x:V) (H:Hp):kDP1 ty nx σ v x H=ty σ H (kDP2 nx σ v x):=rfl
def kDP0 (td ty:TE) (nx:St->Hp->Prop) (σ:St):VK:=λ v H=>td σ H (kDP1 ty nx σ v)
theorem m_kDP0 (td ty:TE) (nx:St->Hp->Prop) (σ:St) (v:V) (H:Hp):kDP0 td ty nx σ v H=td σ H (kDP1 ty nx σ v):=rfl
theorem m_sDPut (td ty tv:TE) (nx:St->Hp->Prop) (rt:VK) (bk ct:St->Hp->Prop) (σ:St) (H:Hp):sDPut td ty tv ⟨nx,rt,bk,ct⟩ σ H=tv σ H (kDP0 td ty nx σ):=rfl
theorem use_dp {H:Hp}{a:Addr}{kvs:List (Key × V)}{k:Key}{v:V}{nx:St->Hp->Prop}{σ:St}(e:H a=some (.dK kvs)) (hl:kvs.length < sizeLine) (q:nx σ (upd H a (.dK (putK kvs k v)))):kDP2 nx σ v (.ref a) (kV k) H:=⟨a,_,rfl,DPut.k e hl,q⟩
end L2
namespace L2
open PySem PySem.Spec PyProof.Rows
section
variable {X:Cx}
end
def zipA {α β:Type}(R1:α->V->Hp->Prop) (R2:β->V->Hp->Prop) (z:α × β) (x:V) (H:Hp):Prop:=∃ p q1 q2,x=.ref p/\H p=some (.tup [q1,q2])/\R1 z.1 q1 H/\R2 z.2 q2 H
theorem wk_zipA {H:Hp} {α β:Type}{R1:α->V->Hp->Prop}{R2:β->V->Hp->Prop}(h1:∀ z y H H',R1 z y H->Ext H H'->R1 z y H') (h2:∀ z y H H',R2 z y H->Ext H H'->R2 z y H'){a b:Addr}{xs ys:List V}{zs:List α}{ws:List β}(ha:H a=some (.lst xs)) (hb:H b=some (.lst ys)) (al:Al (λ z y=>R1 z y H) zs xs) (bl:Al (λ z y=>R2 z y H) ws ys) :
  (∀ i z H',(zs.zip ws)[i]? = some z->Ext H H'->(Itz false false a b xs ys).go i H'/\∀ x H'',(Itz false false a b xs ys).yld i H' x H''->Ext H' H''/\zipA R1 R2 z x H'')/\∀ H',Ext H H'->(Itz false false a b xs ys).stop (zs.zip ws).length H':=by
 have wk:=wk_zip (ka:=false) (kb:=false) ha hb
 refine ⟨λ i z H' hz e=>?_,λ H' e=>?_⟩
 ·obtain ⟨i1,i2⟩:=List.getElem?_eq_some_iff.mp hz
  rw [List.length_zip] at i1
  have hx:xs[i]? = some (xs[i]'(by rw [al.1];omega)):=List.getElem?_eq_getElem _
  have hy:ys[i]? = some (ys[i]'(by rw [bl.1];omega)):=List.getElem?_eq_getElem _
  have g1:=al.2 i zs[i] _ (List.getElem?_eq_getElem _) hx
  have g2:=bl.2 i ws[i] _ (List.getElem?_eq_getElem _) hy
  generalize (xs[i]'(by rw [al.1];omega))=x0 at hx g1
  generalize (ys[i]'(by rw [bl.1];omega))=y0 at hy g2
  have hzz:(xs.zip ys)[i]? = some (x0,y0):=by
   rw [List.getElem?_zip_eq_some]
   exact ⟨hx,hy⟩
  obtain ⟨go,yd⟩:=wk.1 i _ H' hzz e
  refine ⟨go,λ x H'' y=>?_⟩
  obtain ⟨e2,p,hp,hp2⟩:=yd x H'' y
  have ez:z=(zs[i],ws[i]):=by rw [←i2,List.getElem_zip]
  subst ez
  exact ⟨e2,p,x0,y0,hp,hp2,h1 _ _ _ _ g1 (e.trans e2),h2 _ _ _ _ g2 (e.trans e2)⟩
 ·have:=wk.2 H' e
  rwa [show (zs.zip ws).length=(xs.zip ys).length by rw [List.length_zip,List.length_zip,al.1,bl.1]]
end L2
namespace L2
open PySem PySem.Spec PyProof.Rows
def tV (i:Nat):TE:=λ σ H Q=>match σ[i]? with
 | some (some v)=>Q v H
 | _=>False
theorem tV_eq (i:Nat):tVar i=tV i:=by
 funext σ H Q
 refine propext ⟨λ ⟨v,e,q⟩=>?_,λ h=>?_⟩
 ·unfold tV;rw [e];exact q
 ·unfold tV at h
  split at h
  ·rename_i v e;exact ⟨v,e,h⟩
  ·exact h.elim
theorem m_tV_0 {v:V}{σ:St}{H:Hp}{Q:VK}:tV 0 (some v::σ) H Q=Q v H:=rfl
theorem m_tV_1 {a0:Option V}{v:V}{σ:St}{H:Hp}{Q:VK}:tV 1 (a0::some v::σ) H Q=Q v H:=rfl
theorem m_tV_2 {a0 a1:Option V}{v:V}{σ:St}{H:Hp}{Q:VK}:tV 2 (a0::a1::some v::σ) H Q=Q v H:=rfl
theorem m_tV_3 {a0 a1 a2:Option V}{v:V}{σ:St}{H:Hp}{Q:VK}:tV 3 (a0::a1::a2::some v::σ) H Q=Q v H:=rfl
theorem m_tV_4 {a0 a1 a2 a3:Option V}{v:V}{σ:St}{H:Hp}{Q:VK}:tV 4 (a0::a1::a2::a3::some v::σ) H Q=Q v H:=rfl
theorem m_tV_5 {a0 a1 a2 a3 a4:Option V}{v:V}{σ:St}{H:Hp}{Q:VK}:tV 5 (a0::a1::a2::a3::a4::some v::σ) H Q=Q v H:=rfl
theorem m_tV_6 {a0 a1 a2 a3 a4 a5:Option V}{v:V}{σ:St}{H:Hp}{Q:VK}:tV 6 (a0::a1::a2::a3::a4::a5::some v::σ) H Q=Q v H:=rfl
theorem m_tV_7 {a0 a1 a2 a3 a4 a5 a6:Option V}{v:V}{σ:St}{H:Hp}{Q:VK}:tV 7 (a0::a1::a2::a3::a4::a5::a6::some v::σ) H Q=Q v H:=rfl
theorem m_tV_8 {a0 a1 a2 a3 a4 a5 a6 a7:Option V}{v:V}{σ:St}{H:Hp}{Q:VK}:tV 8 (a0::a1::a2::a3::a4::a5::a6::a7::some v::σ) H Q=Q v H:=rfl
theorem m_tV_9 {a0 a1 a2 a3 a4 a5 a6 a7 a8:Option V}{v:V}{σ:St}{H:Hp}{Q:VK}:tV 9 (a0::a1::a2::a3::a4::a5::a6::a7::a8::some v::σ) H Q=Q v H:=rfl
theorem m_tV_10 {a0 a1 a2 a3 a4 a5 a6 a7 a8 a9:Option V}{v:V}{σ:St}{H:Hp}{Q:VK}:tV 10 (a0::a1::a2::a3::a4::a5::a6::a7::a8::a9::some v::σ) H Q=Q v H:=rfl
theorem m_tV_11 {a0 a1 a2 a3 a4 a5 a6 a7 a8 a9 a10:Option V}{v:V}{σ:St}{H:Hp}{Q:VK}:tV 11 (a0::a1::a2::a3::a4::a5::a6::a7::a8::a9::a10::some v::σ) H Q=Q v H:=rfl
def nI0 (g:Int->Int->V):R2:=λ x y H Q=>match x,y with
 | .int i,.int j=>Q (g i j) H
 | _,_=>False
theorem m_nI0 (g:Int->Int->V) (i j:Int) (H:Hp) (Q:VK):nI0 g (.int i) (.int j) H Q=Q (g i j) H:=rfl
theorem nI0_eq (g:Int->Int->V):rI0 g=nI0 g:=by
 funext x y H Q
 refine propext ⟨λ ⟨i,j,e,e',q⟩=>by subst e e';exact q,λ h=>?_⟩
 unfold nI0 at h
 split at h
 ·exact ⟨_,_,rfl,rfl,h⟩
 ·exact h.elim
def nI (C:Int->Int->Prop) (g:Int->Int->V):R2:=λ x y H Q=>match x,y with
 | .int i,.int j=>C i j/\Q (g i j) H
 | _,_=>False
theorem m_nI (C:Int->Int->Prop) (g:Int->Int->V) (i j:Int) (H:Hp) (Q:VK):nI C g (.int i) (.int j) H Q=(C i j/\Q (g i j) H):=rfl
theorem nI_eq (C:Int->Int->Prop) (g:Int->Int->V):rI C g=nI C g:=by
 funext x y H Q
 refine propext ⟨λ ⟨i,j,e,e',q⟩=>by subst e e';exact q,λ h=>?_⟩
 unfold nI at h
 split at h
 ·exact ⟨_,_,rfl,rfl,h⟩
 ·exact h.elim
def nU (g:Int->V):V->Hp->VK->Prop:=λ x H Q=>match x with
 | .int i=>Q (g i) H
 | _=>False
theorem m_nU (g:Int->V) (i:Int) (H:Hp) (Q:VK):nU g (.int i) H Q=Q (g i) H:=rfl
theorem nU_eq (g:Int->V):rU g=nU g:=by
 funext x H Q
 refine propext ⟨λ ⟨i,e,q⟩=>by subst e;exact q,λ h=>?_⟩
 unfold nU at h
 split at h
 ·exact ⟨_,rfl,h⟩
 ·exact h.elim
def kTestN (Q:Bool->Hp->Prop):VK:=λ x H=>match x with
 | .bl k=>Q k H
 | _=>False
theorem m_kTestN (Q:Bool->Hp->Prop) (k:Bool) (H:Hp):kTestN Q (.bl k) H=Q k H:=rfl
theorem kTest_eq (Q:Bool->Hp->Prop):kTest Q=kTestN Q:=by
 funext x H
 refine propext ⟨λ ⟨k,e,q⟩=>by subst e;exact q,λ h=>?_⟩
 unfold kTestN at h
 split at h
 ·exact ⟨_,rfl,h⟩
 ·exact h.elim
def nTest (t:TE):TT:=λ σ H Q=>t σ H (kTestN Q)
theorem m_nTest (t:TE) (σ:St) (H:Hp) (Q:Bool->Hp->Prop):nTest t σ H Q=t σ H (kTestN Q):=rfl
theorem nTest_eq (t:TE):tTest t=nTest t:=by
 funext σ H Q
 show t σ H (kTest Q)=t σ H (kTestN Q)
 rw [kTest_eq]
theorem nTest_eqB (t:TE):tB t=nTest t:=nTest_eq t
def kAndN (tb:TE) (σ:St) (Q:VK):VK:=λ x H=>match x with
 | .bl c=>if c=true then tb σ H Q else Q (.bl false) H
 | _=>False
theorem m_kAndN (tb:TE) (σ:St) (Q:VK) (c:Bool) (H:Hp):kAndN tb σ Q (.bl c) H=(if c=true then tb σ H Q else Q (.bl false) H):=rfl
def nAndV (ta tb:TE):TE:=λ σ H Q=>ta σ H (kAndN tb σ Q)
theorem m_nAndV (ta tb:TE) (σ:St) (H:Hp) (Q:VK):nAndV ta tb σ H Q=ta σ H (kAndN tb σ Q):=rfl
theorem nAndV_eq (ta tb:TE):tAndV ta tb=nAndV ta tb:=by
 funext σ H Q
 show ta σ H (kAndV tb σ Q)=ta σ H (kAndN tb σ Q)
 congr 1
 funext x H
 refine propext ⟨λ ⟨k,e,q⟩=>by subst e;exact q,λ h=>?_⟩
 unfold kAndN at h
 split at h
 ·exact ⟨_,rfl,h⟩
 ·exact h.elim
def kNotN (Q:VK):VK:=λ x H=>match x with
 | .bl c=>Q (.bl (!c)) H
 | _=>False
theorem m_kNotN (Q:VK) (c:Bool) (H:Hp):kNotN Q (.bl c) H=Q (.bl (!c)) H:=rfl
def nNotV (ta:TE):TE:=λ σ H Q=>ta σ H (kNotN Q)
theorem m_nNotV (ta:TE) (σ:St) (H:Hp) (Q:VK):nNotV ta σ H Q=ta σ H (kNotN Q):=rfl
theorem nNotV_eq (ta:TE):tNotV ta=nNotV ta:=by
 funext σ H Q
 show ta σ H (kNotV Q)=ta σ H (kNotN Q)
 congr 1
 funext x H
 refine propext ⟨λ ⟨k,e,q⟩=>by subst e;exact q,λ h=>?_⟩
 unfold kNotN at h
 split at h
 ·exact ⟨_,rfl,h⟩
 ·exact h.elim
def kChN2 (r':R2) (tc:TE) (σ:St) (y:V) (Q:VK):VK:=λ z H=>match z with
 | .bl k=>if k=true then tc σ H (kCh3 r' y Q) else Q (.bl false) H
 | _=>False
theorem m_kChN2 (r':R2) (tc:TE) (σ:St) (y:V) (Q:VK) (k:Bool) (H:Hp):kChN2 r' tc σ y Q (.bl k) H=(if k=true then tc σ H (kCh3 r' y Q) else Q (.bl false) H):=rfl
theorem kCh2_eq (r':R2) (tc:TE) (σ:St) (y:V) (Q:VK):kCh2 r' tc σ y Q=kChN2 r' tc σ y Q:=by
 funext z H
 refine propext ⟨λ ⟨k,e,q⟩=>by subst e;exact q,λ h=>?_⟩
 unfold kChN2 at h
 split at h
 ·exact ⟨_,rfl,h⟩
 ·exact h.elim
def kChN1 (r r':R2) (tc:TE) (σ:St) (x:V) (Q:VK):VK:=λ y H=>r x y H (kChN2 r' tc σ y Q)
theorem m_kChN1 (r r':R2) (tc:TE) (σ:St) (x y:V) (Q:VK) (H:Hp):kChN1 r r' tc σ x Q y H=r x y H (kChN2 r' tc σ y Q):=rfl
def kChN0 (r r':R2) (tb tc:TE) (σ:St) (Q:VK):VK:=λ x H=>tb σ H (kChN1 r r' tc σ x Q)
theorem m_kChN0 (r r':R2) (tb tc:TE) (σ:St) (Q:VK) (x:V) (H:Hp):kChN0 r r' tb tc σ Q x H=tb σ H (kChN1 r r' tc σ x Q):=rfl
def nChain (r r':R2) (ta tb tc:TE):TE:=λ σ H Q=>ta σ H (kChN0 r r' tb tc σ Q)
theorem m_nChain (r r':R2) (ta tb tc:TE) (σ:St) (H:Hp) (Q:VK):nChain r r' ta tb tc σ H Q=ta σ H (kChN0 r r' tb tc σ Q):=rfl
theorem nChain_eq (r r':R2) (ta tb tc:TE):tChain r r' ta tb tc=nChain r r' ta tb tc:=by
 funext σ H Q
 show ta σ H (kCh0 r r' tb tc σ Q)=ta σ H (kChN0 r r' tb tc σ Q)
 congr 1
 funext x H1
 show tb σ H1 (kCh1 r r' tc σ x Q)=tb σ H1 (kChN1 r r' tc σ x Q)
 congr 1
 funext y H2
 show r x y H2 (kCh2 r' tc σ y Q)=r x y H2 (kChN2 r' tc σ y Q)
 rw [kCh2_eq]
def gNilN:TGs:=λ vs σ H Q=>match vs with
 | []=>Q σ H
 | _=>False
theorem m_gNilN (σ:St) (H:Hp) (Q:St->Hp->Prop):gNilN [] σ H Q=Q σ H:=rfl
theorem gNil_eq:gNil=gNilN:=by
 funext vs σ H Q
 refine propext ⟨λ ⟨e,q⟩=>by subst e;exact q,λ h=>?_⟩
 unfold gNilN at h
 split at h
 ·exact ⟨rfl,h⟩
 ·exact h.elim
def gConsN (t:TG) (u:TGs):TGs:=λ vs σ H Q=>match vs with
 | v::r=>t v σ H (kGs u r Q)
 | _=>False
theorem m_gConsN (t:TG) (u:TGs) (v:V) (r:List V) (σ:St) (H:Hp) (Q:St->Hp->Prop):gConsN t u (v::r) σ H Q=t v σ H (kGs u r Q):=rfl
theorem gCons_eq (t:TG) (u:TGs):gCons t u=gConsN t u:=by
 funext vs σ H Q
 refine propext ⟨λ ⟨v,r,e,q⟩=>by subst e;exact q,λ h=>?_⟩
 unfold gConsN at h
 split at h
 ·exact ⟨_,_,rfl,h⟩
 ·exact h.elim
theorem spx1 {α0:Type}{f:α0->List V}{B:α0->Prop}(inj:∀ a a',f a=f a'->a=a') (a:α0):(∃ a',f a=f a'/\B a')=B a:=propext ⟨λ ⟨a',e,q⟩=>by obtain rfl:=inj _ _ e;exact q,λ q=>⟨a,rfl,q⟩⟩
theorem spl1 {α0:Type}{f:α0->List V}{B:α0->Prop}{vs:List V}{n:Nat}(h:∃ a,vs=f a/\B a) (l:∀ a,(f a).length=n):vs.length=n:=by
 obtain ⟨_,rfl,_⟩:=h
 exact l _
theorem spx2 {α0 α1:Type}{f:α0->α1->List V}{B:α0->α1->Prop}(inj:∀ a b a' b',f a b=f a' b'->a=a'/\b=b') (a:α0) (b:α1):(∃ a' b',f a b=f a' b'/\B a' b')=B a b:=propext ⟨λ ⟨a',b',e,q⟩=>by obtain ⟨rfl,rfl⟩:=inj _ _ _ _ e;exact q,λ q=>⟨a,b,rfl,q⟩⟩
theorem spl2 {α0 α1:Type}{f:α0->α1->List V}{B:α0->α1->Prop}{vs:List V}{n:Nat}(h:∃ a b,vs=f a b/\B a b) (l:∀ a b,(f a b).length=n):vs.length=n:=by
 obtain ⟨_,_,rfl,_⟩:=h
 exact l _ _
theorem spx3 {α0 α1 α2:Type}{f:α0->α1->α2->List V}{B:α0->α1->α2->Prop}(inj:∀ a b c a' b' c',f a b c=f a' b' c'->a=a'/\b=b'/\c=c') (a:α0) (b:α1) (c:α2):(∃ a' b' c',f a b c=f a' b' c'/\B a' b' c')=B a b c:=propext ⟨λ ⟨a',b',c',e,q⟩=>by obtain ⟨rfl,rfl,rfl⟩:=inj _ _ _ _ _ _ e;exact q,λ q=>⟨a,b,c,rfl,q⟩⟩
theorem spl3 {α0 α1 α2:Type}{f:α0->α1->α2->List V}{B:α0->α1->α2->Prop}{vs:List V}{n:Nat}(h:∃ a b c,vs=f a b c/\B a b c) (l:∀ a b c,(f a b c).length=n):vs.length=n:=by
 obtain ⟨_,_,_,rfl,_⟩:=h
 exact l _ _ _
theorem spx4 {α0 α1 α2 α3:Type}{f:α0->α1->α2->α3->List V}{B:α0->α1->α2->α3->Prop}(inj:∀ a b c d a' b' c' d',f a b c d=f a' b' c' d'->a=a'/\b=b'/\c=c'/\d=d') (a:α0) (b:α1) (c:α2) (d:α3):(∃ a' b' c' d',f a b c d=f a' b' c' d'/\B a' b' c' d')=B a b c d:=propext ⟨λ ⟨a',b',c',d',e,q⟩=>by obtain ⟨rfl,rfl,rfl,rfl⟩:=inj _ _ _ _ _ _ _ _ e;exact q,λ q=>⟨a,b,c,d,rfl,q⟩⟩
theorem spl4 {α0 α1 α2 α3:Type}{f:α0->α1->α2->α3->List V}{B:α0->α1->α2->α3->Prop}{vs:List V}{n:Nat}(h:∃ a b c d,vs=f a b c d/\B a b c d) (l:∀ a b c d,(f a b c d).length=n):vs.length=n:=by
 obtain ⟨_,_,_,_,rfl,_⟩:=h
 exact l _ _ _ _
theorem len0 {P:List Value->Prop}(h:P []):∀ us:List Value,us.length=0->P us:=λ us e=>by
 cases us with
 | nil=>exact h
 | cons a r=>cases e
theorem len1 {P:List Value->Prop}(h:∀ a,P [a]):∀ us:List Value,us.length=1->P us:=λ us e=>by
 cases us with
 | nil=>cases e
 | cons x r=>exact len0 (P:=λ r=>P (x::r)) (h x) r (Nat.succ.inj e)
theorem len2 {P:List Value->Prop}(h:∀ a b,P [a,b]):∀ us:List Value,us.length=2->P us:=λ us e=>by
 cases us with
 | nil=>cases e
 | cons x r=>exact len1 (P:=λ r=>P (x::r)) (h x) r (Nat.succ.inj e)
theorem len3 {P:List Value->Prop}(h:∀ a b c,P [a,b,c]):∀ us:List Value,us.length=3->P us:=λ us e=>by
 cases us with
 | nil=>cases e
 | cons x r=>exact len2 (P:=λ r=>P (x::r)) (h x) r (Nat.succ.inj e)
theorem len4 {P:List Value->Prop}(h:∀ a b c d,P [a,b,c,d]):∀ us:List Value,us.length=4->P us:=λ us e=>by
 cases us with
 | nil=>cases e
 | cons x r=>exact len3 (P:=λ r=>P (x::r)) (h x) r (Nat.succ.inj e)
section
variable {X:Cx}
theorem pvN (i:Nat){x:Str}{pos:Pos}(hN:X.N[i]? = some x:=by rfl) (hv:Vis X.env.scope x:=by first|exact Or.inl rfl|exact Or.inr (Or.inl rfl)|exact Or.inr (Or.inr rfl)) (hd:(x == ("__debug__":Str))=false:=by decide)
  (hcd:(x == ("__classdict__":Str))=false:=by decide):PE X (.Name x pos) (tV i):=by rw [←tV_eq];exact pv i hN hv hd hcd
theorem on_add:OpR X (binaryOp .Add) (nI0 λ i j=>.int (i+j)):=by rw [←nI0_eq];exact op_add
theorem on_sub:OpR X (binaryOp .Sub) (nI0 λ i j=>.int (i - j)):=by rw [←nI0_eq];exact op_sub
theorem on_lt:OpR X (compareOp .Lt) (nI0 λ i j=>.bl (decide (i < j))):=by rw [←nI0_eq];exact op_lt
theorem on_le:OpR X (compareOp .LtE) (nI0 λ i j=>.bl (decide (i<=j))):=by rw [←nI0_eq];exact op_le
theorem on_gt:OpR X (compareOp .Gt) (nI0 λ i j=>.bl (decide (j < i))):=by rw [←nI0_eq];exact op_gt
theorem on_ge:OpR X (compareOp .GtE) (nI0 λ i j=>.bl (decide (j<=i))):=by rw [←nI0_eq];exact op_ge
theorem on_mul:OpR X (binaryOp .Mult) (nI CMul λ i j=>.int (i * j)):=by rw [←nI_eq];exact op_mul
theorem on_mulB:OpR X (binaryOp .Mult) (nI CMulB λ i j=>.int (i * j)):=by rw [←nI_eq];exact op_mulB
theorem on_fdiv:OpR X (binaryOp .FloorDiv) (nI CDiv λ i j=>.int (i / j)):=by rw [←nI_eq];exact op_fdiv
theorem on_fdivB:OpR X (binaryOp .FloorDiv) (nI CDivB λ i j=>.int (i.fdiv j)):=by rw [←nI_eq];exact op_fdivB
theorem on_mod:OpR X (binaryOp .Mod) (nI (λ _ j=>0 < j) λ i j=>.int (i % j)):=by rw [←nI_eq];exact op_mod
theorem on_pow:OpR X (binaryOp .Pow) (nI CPow λ i j=>.int (i ^ j.toNat)):=by rw [←nI_eq];exact op_pow
theorem un_negN:UnR X (unaryOp .USub) (nU λ i=>.int (-i)):=by rw [←nU_eq];exact un_neg
variable {a b c d e:Expr}{ta tb tc td t:TE}{pos:Pos}
theorem pt_cmpRN {op:CmpOp}{r:R2}(ho:OpR X (compareOp op) r) (ha:PE X a ta) (hb:PE X b tb) (hm:behindInMarks op b=false):PT X (.Compare a [op] [b] pos) (nTest (tOp r ta tb)):=by rw [←nTest_eq];exact pt_cmpR ho ha hb hm
theorem pt_valN (h:PE X e t) (he:∀ whole,isTrue e X.env whole=(do let v ←whole;standAt e.pos;holding [v] (truthy v)):=by intro _;rfl):PT X e (nTest t):=by rw [←nTest_eqB];exact pt_val h he
theorem pe_chainN {op op':CmpOp}{r r':R2}(ho:OpR X (compareOp op) r) (ho':OpR X (compareOp op') r') (ha:PE X a ta) (hb:PE X b tb) (hc:PE X c tc)
  (hm:lastMarks [op,op'] [b,c]=false:=by with_unfolding_all rfl):PE X (.Compare a [op,op'] [b,c] pos) (nChain r r' ta tb tc):=by rw [←nChain_eq];exact pe_chain ho ho' ha hb hc hm
theorem pt_chainN {op op':CmpOp}{r r':R2}(ho:OpR X (compareOp op) r) (ho':OpR X (compareOp op') r') (ha:PE X a ta) (hb:PE X b tb) (hc:PE X c tc)
  (hm:lastMarks [op,op'] [b,c]=false:=by with_unfolding_all rfl):PT X (.Compare a [op,op'] [b,c] pos) (nTest (nChain r r' ta tb tc)):=by rw [←nTest_eq,←nChain_eq];exact pt_chain ho ho' ha hb hc hm
variable {rest:List Expr}
theorem pe_andN (ha:PE X a ta) (hb:PE X (.BoolOp .And (b::rest) pos) tb):PE X (.BoolOp .And (a::b::rest) pos) (nAndV ta tb):=by rw [←nAndV_eq];exact pe_and ha hb
theorem pe_notN (ha:PE X a ta):PE X (.UnaryOp .Not a pos) (nNotV ta):=by rw [←nNotV_eq];exact pe_not ha
theorem pgs_nilN:PGs X [] gNilN:=by rw [←gNil_eq];exact pgs_nil
theorem pgs_consN {e:Expr}{es:List Expr}{t:TG}{u:TGs}(h1:PG X e t) (h2:PGs X es u)
  (hs:(assignEach (e::es) X.env).map (·.2)=assign e X.env::(assignEach es X.env).map (·.2):=by rfl):PGs X (e::es) (gConsN t u):=by rw [←gCons_eq];exact pgs_cons h1 h2 hs
end
theorem if_gen {c:TT}{t u:TS}{nx:St->Hp->Prop}{rt:VK}{bk ct:St->Hp->Prop}{σ:St}{H:Hp}(R:St->Hp->Prop) (h:∀ nx':St->Hp->Prop,(∀ σ' H',R σ' H'->nx' σ' H')->tIfS c t u ⟨nx',rt,bk,ct⟩ σ H) (k:∀ σ' H',R σ' H'->nx σ' H'):tIfS c t u ⟨nx,rt,bk,ct⟩ σ H:=h nx k
theorem pe_nFld' {X:Cx}{e:Expr}{f:Str}{pos:Pos}{ta:TE}{K:W.Frag}(hK:X.K=K) (he:PE X e ta) (hb:attributeBase e f X.env (eval e X.env)=eval e X.env):PE X (.Attribute e f pos) (nFld K ta f):=by subst hK;exact pe_nFld he hb
end L2
namespace L2
open PySem PySem.Spec PyProof.Rows
end L2
namespace L2
open PySem PySem.Spec PyProof.Rows
section
variable {X:Cx}
end
end L2
namespace L2
open PySem PySem.Spec PyProof.Rows
section
variable {prog:Program}{w:World}{A:Around}{E:Value->Shared->Prop}{s:Shared}
end
section
variable {X:Cx}
end
end L2
namespace L2
open PySem PySem.Spec PyProof.Rows
theorem kv_get':∀ {kvs:List (Key × V)}{xs:List (Key × Value)},KV kvs xs->∀ {i:Nat}{p:Key × V},kvs[i]? = some p->∃ q,xs[i]? = some q/\p.1=q.1/\RelV p.2 q.2
 | _,_,.nil,i,q,h=>by simp at h
 | _::_,q::_,.cons h t,0,p,hq=>by cases hq;exact ⟨q,rfl,h⟩
 | _::_,_::_,.cons h t,i+1,p,hq=>kv_get' t (i:=i) (by simpa using hq)
end L2
namespace L2
open PySem PySem.Spec PyProof.Rows
def Itd (a:Addr) (ob:Obj) (kvs:List (Key × V)):It:=
 ⟨λ i H=>H a=some (.frz ob (.dK kvs))/\i < kvs.length,λ i H x H'=>H'=H/\∃ p,kvs[i]? = some p/\x=kV p.1,λ i H=>H a=some (.frz ob (.dK kvs))/\kvs.length<=i⟩
theorem relV_key:∀ {k:Key}{u:Value},keyIs k u=true->RelV (kV k) u
 | .inl i,u,h=>by
  rcases keyIs_shape h with ⟨j,t,e1,e2⟩|⟨j,t,e1,e2⟩
  ·cases e1;exact ⟨t,e2⟩
  ·cases e1
 | .inr x,u,h=>by
  rcases keyIs_shape h with ⟨j,t,e1,e2⟩|⟨j,t,e1,e2⟩
  ·cases e1
  ·cases e1;exact ⟨t,e2⟩
def DObj (P:Program) (w:World) (ob:Obj) (vs:List (Key × Value)) (ep:Nat):Prop:=∀ (h:Heap) (a:Addr),h.get? a=some ob->h.DictAt (mixKind P w) a vs ep
theorem turn_dict {P:Program}{w:World}{K:W.Frag}{tg:Expr}(a it:Addr) (ob:Obj) (kvs:List (Key × V)) (vs:List (Key × Value)) (ep:Nat) (kx:KV kvs vs) (dx:DObj P w ob vs ep):Turn P w K tg (Itd a ob kvs) [it] it (λ i h=>h.IsKeyIter it a i vs.length ep) where
 mem:=by simp
 obj:=λ i h st b hb=>by
  have e:b=it:=by simpa using hb
  subst e
  obtain ⟨o,e,c,d⟩:=st
  exact ⟨o,e,λ v z=>by rw [d] at z;cases z⟩
 keep:=λ i h h' st k=>st.at λ o e=>k it (by simp) o e
 item:=by
  intro X hP hw hK hc i pins s σ H E I hf st hg
  subst hP hw hK
  obtain ⟨ha,hi⟩:=hg
  have hob:=(show ObjOk X.prog X.w H s.heap a (.frz ob (.dK kvs)) from I.hok a _ ha).1
  have hlen:kvs.length=vs.length:=Paired.length kx
  obtain ⟨q,hq,hk,hr⟩:=kv_get' kx (List.getElem?_eq_getElem hi)
  obtain ⟨f0,f1,f2,f3,f4,f5⟩:=hf it (by simp)
  refine wpAny_pyNext_dict_item st (dx _ a hob) hq λ key h' hkey st' hs'=>?_
  have I1:Inv X pins σ H { s with heap:=h' }:=I.turned (t':=s.toks) (λ b o hb e=>hs'.extBut b o hb e) f0 f1 f3 f4 f5
  obtain ⟨o,e,c,d⟩:=id st'
  refine ⟨key,rfl,go_of (s:={ s with heap:=h' }) e c d (by decide) ⟨kV kvs[i].1,H,I1,?_,⟨rfl,kvs[i],List.getElem?_eq_getElem hi,rfl⟩,st',λ b hb=>(hf b hb).1⟩⟩
  rw [hk]
  exact relV_key hkey
 done:=by
  intro X hP hw hK hc i pins s σ H E I hf st hg
  subst hP hw hK
  obtain ⟨ha,hi⟩:=hg
  have hob:=(show ObjOk X.prog X.w H s.heap a (.frz ob (.dK kvs)) from I.hok a _ ha).1
  have hlen:kvs.length=vs.length:=Paired.length kx
  obtain ⟨f0,f1,f2,f3,f4,f5⟩:=hf it (by simp)
  exact wpAny_pyNext_dict_end (I.ok.hd hc) st (dx _ a hob) (by simp;omega) λ h' eb=>⟨rfl,I.turned (t':=s.toks) (λ b o hb e=>eb b o hb e) f0 f1 f3 f4 f5⟩
 self:=λ _ _ _ _ _ st h=>wpAny_pyIter_keyiter st h
def kIDc (R:It->Hp->Prop):VK:=λ x H1=>∃ a kvs,x=.ref a/\H1 a=some (.dK kvs)/\∀ ob,R (Itd a ob kvs) (upd H1 a (.frz ob (.dK kvs)))
def iDict (tl:TE):TI:=λ σ H R=>tl σ H (kIDc R)
theorem m_iDict (tl:TE) (σ:St) (H:Hp) (R:It->Hp->Prop):iDict tl σ H R=tl σ H (kIDc R):=rfl
theorem pi_dict {X:Cx}{tg l:Expr}{tl:TE}(hl:PE X l tl):PI X tg l (iDict tl):=by
 intro pins s σ H R I h
 refine thn (hl pins s σ H _ I h) λ v s1 ⟨x,H1,I1,r1,q1⟩=>?_
 obtain ⟨a,kvs,e,ha,q⟩:=q1
 subst e
 cases r1
 have hO:ObjOk X.prog X.w H1 s1.heap a (.dK kvs):=I1.hok a _ ha
 obtain ⟨z0,lo,vs,kx,dd⟩:=id hO
 obtain ⟨ep,hat⟩:=dd.dictAt
 obtain ⟨ob,es,ho,rest⟩:=id hat
 have dx:DObj X.prog X.w ob vs ep:=λ h b hb=>⟨ob,es,hb,rest⟩
 have hO':ObjOk X.prog X.w (upd H1 a (.frz ob (.dK kvs))) s1.heap a (.frz ob (.dK kvs)):=⟨ho,⟨z0,lo,vs,kx,dd⟩⟩
 have I2:=I1.write (t':=s1.toks) (x:=a) (e:=a) (o:=.frz ob (.dK kvs)) (h':=s1.heap) (by rw [ha];trivial) (.inl rfl) (λ b u _ e=>e) ⟨ob,ho⟩ hO'
 refine wpAny_pyIter_dict lo hat ?_
 refine ⟨s1.heap.objs.size,[s1.heap.objs.size],_,_,_,rfl,I2.kept (t':=s1.toks) λ b o e=>Heap.get?_push_of_some _ e,turn_dict a _ ob kvs vs ep kx dx,⟨_,Heap.get?_push_size _ rfl,rfl,rfl⟩,λ b hb=>?_,q ob⟩
 have e:b=s1.heap.objs.size:=by simpa using hb
 subst e
 exact I2.fpOk (Nat.le_refl _) (I2.hok.fresh (Nat.le_refl _))
theorem Inv.thaw {X:Cx}{pins:List (Addr × Obj)}{σ:St}{H:Hp}{s:Shared}{a:Addr}{ob:Obj}{kvs:List (Key × V)}(I:Inv X pins σ H s) (ha:H a=some (.frz ob (.dK kvs))) (hn:∀ o u,X.H₀ a ≠ some (.frz o u)):Inv X pins σ (upd H a (.dK kvs)) s:=by
 have ne:∀ b,H b=none->b ≠ a:=λ b e z=>by rw [z,ha] at e;cases e
 have keepN:∀ b,H b=none->upd H a (.dK kvs) b=none:=λ b e=>by rw [upd_ne (ne b e)];exact e
 refine ⟨I.ok,I.os,I.bare,⟨I.base.keep,I.base.slot,λ b o e n hx=>keepN b (I.base.free b o e n hx),I.base.there,λ b xs e=>?_,λ b o u e=>?_,λ b ps e=>?_⟩,I.loc,I.cell,keepN _ I.free,λ x c e=>keepN _ (I.freeC x c e),λ p hp=>?_,λ b u e=>?_,I.len⟩
 ·have h:=I.base.tups b xs e
  rw [upd_ne (λ z=>by rw [z,ha] at h;cases h)];exact h
 ·have h:=I.base.frzs b o u e
  rw [upd_ne (λ z=>hn o u (by rw [←z];exact e))];exact h
 ·obtain ⟨m,h⟩:=I.base.tbls b ps e
  exact ⟨m,by rw [upd_ne (λ z=>by rw [z,ha] at h;cases h)];exact h⟩
 ·obtain ⟨h1,h2,h3⟩:=I.pin p hp
  exact ⟨h1,keepN _ h2,h3⟩
 ·have stay:∀ (c:Addr) (v:HO),ObjOk X.prog X.w H s.heap c v->ObjOk X.prog X.w (upd H a (.dK kvs)) s.heap c v:=λ c v x=>x.stay (λ _ _ _ q=>q) (λ d q=>by rw [upd_ne (λ z=>by rw [z,ha] at q;cases q)];exact q) λ d xs q=>by rw [upd_ne (λ z=>by rw [z,ha] at q;cases q)];exact q
  by_cases hb:b=a
  ·subst hb
   rw [upd_same] at e
   cases e
   exact stay _ _ (show ObjOk X.prog X.w H s.heap b (.frz ob (.dK kvs)) from I.hok b _ ha).2
  ·rw [upd_ne hb] at e
   exact stay b u (I.hok b u e)
def kThaw (H:Hp) (Q:VK):VK:=λ v H'=>∃ a ob kvs kvs0,H a=some (.dK kvs0)/\H' a=some (.frz ob (.dK kvs))/\Q v (upd H' a (.dK kvs))
def nThaw (t:TE):TE:=λ σ H Q=>t σ H (kThaw H Q)
theorem m_nThaw (t:TE) (σ:St) (H:Hp) (Q:VK):nThaw t σ H Q=t σ H (kThaw H Q):=rfl
theorem pe_thaw {X:Cx}{e:Expr}{t:TE}(h:PE X e t):PE X e (nThaw t):=by
 intro pins s σ H Q I hh
 refine thn (h pins s σ H _ I hh) λ u s1 ⟨v,H1,I1,r1,a,ob,kvs,kvs0,h0,hf,q⟩=>?_
 exact ⟨v,_,I1.thaw hf λ o w z=>(by have:=I.base.frzs a o w z;rw [h0] at this;cases this),r1,q⟩
theorem Ext.thaw {H H1:Hp}{a:Addr}{ob:Obj}{kvs:List (Key × V)}(ha:H a=some (.dK kvs)) (e:Ext (upd H a (.frz ob (.dK kvs))) H1):Ext H (upd H1 a (.dK kvs)):=by
 have h1:∀ b,(H b).isSome=true->upd H1 a (.dK kvs) b=H b:=λ b hb=>by
  by_cases hba:b=a
  ·rw [hba,upd_same,ha]
  ·rw [upd_ne hba,e.1 b (by rw [upd_ne hba];exact hb),upd_ne hba]
 refine ⟨h1,λ K b xs h=>?_⟩
 rcases h with (h|⟨o,h⟩)|h
 ·exact .inl (.inl (by rw [h1 b (by rw [h];rfl)];exact h))
 ·exact .inl (.inr ⟨o,by rw [h1 b (by rw [h];rfl)];exact h⟩)
 ·exact .inr h
section
variable {k:Nat}{g:TG}{tt:TT}{te:TE}{σ:St}{Q:VK}{H:Hp}
theorem use_cd {a:Addr}{kvs:List (Key × V)}(c:Key × V->Bool) (f:Key × V->V) (ha:H a=some (.dK kvs)) (hl:kvs.length<=sizeLine)
  (hs:∀ D ob z H' N1 N0,z∈kvs->H D=none->Ext (upd H a (.frz ob (.dK kvs))) H'->H' a=some (.frz ob (.dK kvs))->(c z=true->∀ H'',Ext H' H''->N1 (f z) H'')->(c z=false->∀ H'',Ext H' H''->N0 H'')->g (kV z.1) (List.replicate k none++σ) H' (kCm k tt te σ N1 N0))
  (hd:∀ D H',H D=none->Ext H H'->H' D=some (.lst ((kvs.filter c).map f))->Q (.ref D) H'):kIDc (kComp k g tt te σ (kThaw H Q)) (.ref a) H:=by
 refine ⟨a,kvs,rfl,ha,λ ob=>?_⟩
 have hfr:upd H a (.frz ob (.dK kvs)) a=some (.frz ob (.dK kvs)):=upd_same
 refine comp_fm kvs c f (λ z x H'=>x=kV z.1/\H' a=some (.frz ob (.dK kvs))) (λ i z H' hz e=>?_) (λ H' e=>?_) hl (λ D z x H' N1 N0 hz hD e p k1 k0=>?_) λ D H' hD e hD'=>?_
 ·have h1:H' a=some (.frz ob (.dK kvs)):=by rw [e.1 a (by rw [hfr];rfl)];exact hfr
  refine ⟨⟨h1,(List.getElem?_eq_some_iff.mp hz).1⟩,λ x H'' ⟨e1,p,hp,ex⟩=>?_⟩
  rw [hz] at hp
  cases hp
  subst e1
  exact ⟨Ext.refl _,ex,h1⟩
 ·exact ⟨by rw [e.1 a (by rw [hfr];rfl)];exact hfr,Nat.le_refl _⟩
 ·obtain ⟨rfl,hp⟩:=p
  exact hs D ob z H' N1 N0 hz (by rwa [upd_ne (λ z=>by rw [z,hfr] at hD;cases hD)] at hD) e hp k1 k0
 ·have hDa:D ≠ a:=λ z=>by rw [z,hfr] at hD;cases hD
  refine ⟨a,ob,kvs,kvs,ha,by rw [e.1 a (by rw [hfr];rfl)];exact hfr,hd D _ (by rwa [upd_ne hDa] at hD) (Ext.thaw ha e) (by rw [upd_ne hDa];exact hD')⟩
end
theorem use_dgF {H:Hp}{a:Addr}{ob:Obj}{kvs:List (Key × V)}{k:Key}{v:V}{Q:VK}(e:H a=some (.frz ob (.dK kvs))) (h:valV kvs k=some v) (q:Q v H):kDG1 Q (.ref a) (kV k) H:=⟨a,v,rfl,h ▸ .inl ⟨kvs,k,.inr ⟨ob,e⟩,rfl,rfl⟩,q⟩
end L2
namespace L2
open PySem PySem.Spec PyProof.Rows
structure IsC (K:W.Frag) (C:Addr):Prop where
 cl:Cls K C
 fc:W.findIn K (.ref C) "__class__"=some (some (.builtin "object.__class__"))
 ocs:W.specialIn K (.builtin "object.__class__") "__get__"=some (some (.builtin "getset_descriptor.__get__"))
 oct:W.takesIn K (.builtin "object.__class__")=some true
 mo:W.mroIn K C (.type "object")=some true
end L2
namespace L2
open PySem PySem.Spec PyProof.Rows
section
variable {X:Cx}
end
end L2
namespace L2
open PySem PySem.Spec PyProof.Rows PySem.W
section
variable {prog:Program}{w:World}{A:Around}{E:Value->Shared->Prop}{K:Frag}{x C dx:Addr}{s:Shared}{name:Str}{v:Value}
end
section
variable {X:Cx}{e o value:Expr}{ta tv:TE}{f:Str}{pos pos':Pos}
end
end L2
namespace L2
open PySem PySem.Spec PyProof.Rows
open Sem (wp)
open AutoSeq1 (wpAny_loadPart')
section
variable {X:Cx}
end
end L2
namespace L2
open PySem PySem.Spec PyProof.Rows
end L2
namespace L2
open PySem PySem.Spec PyProof.Rows
def NoCtx (o:Obj):Prop:=∃ vs,o.data=.fields vs/\vs[2]? = some .none
section
variable {prog:Program}{w:World}{A:Around}{E:Value->Shared->Prop}{s:Shared}
end
def Hand (X:Cx):Prop:=∃ (e:Addr) (oe:Obj) (u:HO),X.A.handled=some (.ref e)/\X.H₀ e=some (.frz oe u)/\NoCtx oe
structure TurnH (P:Program) (w:World) (K:W.Frag) (tg:Expr) (J:It) (fp:List Addr) (it:Addr) (tn:Nat->Heap->Prop):Prop where
 mem:it∈fp
 obj:∀ i h,tn i h->∀ b∈fp,∃ o,h.get? b=some o/\∀ v,o.data ≠ .cell v
 keep:∀ i h h',tn i h->(∀ b∈fp,∀ o,h.get? b=some o->h'.get? b=some o)->tn i h'
 item:∀ (X:Cx),X.prog=P->X.w=w->X.K=K->Hand X->∀ (i:Nat) (pins:List (Addr × Obj)) (s:Shared) (σ:St) (H:Hp) (E:Value->Shared->Prop),Inv X pins σ H s->(∀ b∈fp,FpOk X pins H b)->tn i s.heap->J.go i H →
  wpAny (model P w) X.A (pyNext (.ref it)) (λ r s1=>∃ u,r=some u /\
   wpAny (model P w) X.A (letOwnedTupleGo tg (.ref it) u) (λ _ s2=>∃ x H',Inv X pins σ H' s2/\RelV x u/\J.yld i H x H'/\tn (i+1) s2.heap/\∀ b∈fp,H' b=none) E s1) E s
 done:∀ (X:Cx),X.prog=P->X.w=w->X.K=K->Hand X->∀ (i:Nat) (pins:List (Addr × Obj)) (s:Shared) (σ:St) (H:Hp) (E:Value->Shared->Prop),Inv X pins σ H s->(∀ b∈fp,FpOk X pins H b)->tn i s.heap->J.stop i H →
  wpAny (model P w) X.A (pyNext (.ref it)) (λ r s1=>r=none/\Inv X pins σ H s1) E s
section
variable {X:Cx}{tg:Expr}
end
structure RoomH (k:Nat) (e:Addr) (A:Around):Prop where
 hd:A.handled=some (.ref e)
 dp:A.depth+3 * k+5 < recursionLimit
 un:A.units+16 * k+200 < cLine
structure FnOkH (P:Program) (w:World) (K:W.Frag) (mg:Str->Option Value) (base:Heap) (CX:CXT) (k:Nat) (f:Addr) (fd:FuncData) (ps:List Str) (sp:Sp):Prop where
 len:∀ vs H Q E,sp vs H Q E->vs.length=ps.length
 run:∀ (A:Around) (outer:List Env) (s:Shared) (H:Hp) (args:Args) (us:List Value) (vs:List V) (Q:VK) (E:XK) (e:Addr) (oe:Obj) (u:HO),RoomH k e A->H e=some (.frz oe u)->NoCtx oe->Env0 P w K mg base A outer s H->BindsTo s fd args (ps.zip us)->Vals vs us->sp vs H Q E →
  codeAny (model P w) A (.call (.ref f) args) (CR CX outer P w H s Q E) s
section
variable {X:Cx}
end
end L2
namespace L2
open PySem PySem.Spec PyProof.Rows
section
variable {prog:Program}{w:World}{A:Around}{E:Value->Shared->Prop}{s:Shared}
structure Apart3 (z TI TO i j l:Addr) (f g e:List Addr):Prop where
 ti:TI ≠ z/\TI ≠ TO/\TI ≠ i/\TI ≠ j/\TI ≠ l
 zt:z ≠ TO
 zf:z ∉ f
 zg:z ∉ g
 ze:z ∉ e
 tf:TO ∉ f
 tg:TO ∉ g
 te:TO ∉ e
 ig:i ∉ g
 ie:i ∉ e
 jf:j ∉ f
 je:j ∉ e
 lf:l ∉ f
 lg:l ∉ g
variable {z TI TO i j l:Addr}{f g e:List Addr}{ti tj tl:Nat->Heap->Prop}{vi vj vl:Nat->Option Value}{k m n:Nat}{x y u a b c:Value}
end
section
variable {prog:Program}{w:World}{A:Around}{E:Value->Shared->Prop}{s:Shared}
end
section
variable {X:Cx}
end
end L2
namespace L2
open PySem PySem.Spec PyProof.Rows
end L2
namespace L2
open PySem PySem.Spec PyProof.Rows
section
variable {X:Cx}
end
end L2
namespace L2
open PySem PySem.Spec PyProof.Rows
section
variable {prog:Program}{w:World}{A:Around}{R:Result->Shared->Prop}{J:Addr}{fp wr:List Addr}{G:Array GenState->Array GenState->Prop}{n:Nat}{P:Nat->Value->Prop}{St:Nat->Shared->Prop}
end
section
variable {prog:Program}{w:World}{A:Around}{R:Result->Shared->Prop}{J:Addr}{fp wr:List Addr}{G:Array GenState->Array GenState->Prop}{n:Nat}{P:Nat->Value->Prop}{St:Nat->Shared->Prop}
end
end L2
namespace L2
open PySem PySem.Spec PyProof.Rows
end L2
namespace L2
open PySem PySem.Spec PyProof.Rows
abbrev PKy:=List Int × List Int
section
variable {prog:Program}{w:World}
end
section
variable {P:Program}{w:World}{H:Hp}{h:Heap}{a:Addr}
end
section
variable {X:Cx}{pins:List (Addr × Obj)}{σ:St}{H:Hp}{s:Shared}{d b:Addr}{k:PKy}{Z:List PKy}{A:Around}{E:Value->Shared->Prop}
end
section
variable {X:Cx}
end
theorem pi_seq' {X:Cx}{tg l:Expr}{tl:TE}{K:W.Frag}(hK:X.K=K) (hl:PE X l tl):PI X tg l (iSeq K tl):=by subst hK;exact pi_seq hl
end L2
namespace L2
open PySem PySem.Spec PyProof.Rows
end L2
namespace L2
open PySem PySem.Spec PyProof.Rows
section
variable {X:Cx}{e st:Expr}{te tst:TE}{pos p2:Pos}
end
end L2
namespace L2
open PySem PySem.Spec PyProof.Rows
section
variable {X:Cx}
end
end L2
namespace L2
open PySem PySem.Spec PyProof.Rows
section
variable {X:Cx}{a b:Expr}{ta tb:TE}{pos:Pos}{rest:List Expr}
end
end L2
namespace L2
open PySem PySem.Spec PyProof.Rows PySem.SeqAt
def kAnyB (H:Hp) (Q:VK):List Bool->Prop:=λ bs=>Q (.bl (bs.any id)) H
theorem m_kAnyB (H:Hp) (Q:VK) (bs:List Bool):kAnyB H Q bs=Q (.bl (bs.any id)) H:=rfl
def qAny:List V->Hp->VK->Prop:=λ vs H Q=>match vs with
 | [.ref p]=>optK (lstAt H p) (kBls (kAnyB H Q))
 | _=>False
theorem m_qAny (p:Addr) (H:Hp) (Q:VK):qAny [.ref p] H Q=optK (lstAt H p) (kBls (kAnyB H Q)):=rfl
section
variable {X:Cx}
theorem any_range (bs:List Bool):(List.range bs.length).any (λ i=>bs.getD i false)=bs.any id:=by
 rw [Bool.eq_iff_iff,List.any_eq_true,List.any_eq_true]
 refine ⟨λ ⟨i,hi,e⟩=>?_,λ ⟨x,hx,e⟩=>?_⟩
 ·have hi':=List.mem_range.mp hi
  exact ⟨bs[i],List.getElem_mem hi',by simpa [List.getD,List.getElem?_eq_getElem hi'] using e⟩
 ·obtain ⟨i,hi,h⟩:=List.getElem_of_mem hx
  exact ⟨i,List.mem_range.mpr hi,by simpa [List.getD,List.getElem?_eq_getElem hi,h] using e⟩
theorem call_qAny (hc:X.calm=true):CallR X (.builtin "any") qAny:=by
 intro pins s σ H vs us Q I r h
 unfold qAny at h
 split at h
 ·rename_i p
  obtain ⟨xs,e,bs,rfl,q⟩:=optK_ex h
  cases r with
  | cons r rr=>
   cases rr
   cases r
   obtain ⟨its,rv,pl,hz⟩:=I.list (SqL.of (lst_of e))
   have hlt:p < s.heap.objs.size:=by obtain ⟨_,e,_⟩:=pl.isList;exact Heap.lt_size e
   have hlen:its.length=bs.length:=by have:=rv.length;simpa using this.symm
   refine call_any_walk (wpAny_pyIter_list pl.isList ⟨s.heap.objs.size,_,_,_,_,_,λ i=>bs.getD i false,rfl,Walks.list (show X.A.in1.handled=none from I.ok.hd hc) _ p (Nat.ne_of_lt hlt) its.toArray,⟨⟨_,Heap.get?_push_size _ rfl,rfl,rfl⟩,pl.isList.push _⟩,λ i v s' Q' E' hP hQ=>?_,λ h' tk hk=>?_⟩)
   ·have hv:its[i]? = some v:=by simpa using hP
    have hi:i < bs.length:=by rw [←hlen];exact (List.getElem?_eq_some_iff.mp hv).1
    obtain ⟨u,hu,ru⟩:=rv.get (i:=i) (x:=.bl (bs.getD i false)) (by rw [List.getElem?_map,List.getElem?_eq_getElem hi];simp [List.getD,List.getElem?_eq_getElem hi])
    rw [hv] at hu
    cases hu
    have e2:v=.bool (bs.getD i false):=ru
    subst e2
    exact wpAny_truthy_bool hQ
   ·have kp:∀ b o,s.heap.get? b=some o->h'.get? b=some o:=λ b o e=>hk b o (λ hmem=>by
     have:b=s.heap.objs.size:=by simpa using hmem
     subst this
     exact absurd (Heap.lt_size e) (Nat.lt_irrefl _)) (Heap.get?_push_of_some _ e)
    refine ⟨.bl (bs.any id),H,I.kept (t':=tk) kp,?_,q⟩
    rw [show its.toArray.size=bs.length by simp [hlen],any_range]
    exact rfl
 ·exact h.elim
end
structure Mk0 (K:W.Frag) (C:Addr):Prop where
 makes:W.makesIn K C=true
 init:W.findIn K (.ref C) "__init__"=some (some (.builtin "object.__init__"))
 kp:W.keepIn K (.ref C)=true
def nMk0 (C:Addr):TE:=λ _ H Q=>∀ x dx H',H x=none->H dx=none->dx ≠ x->Ext H H'->H' x=some (.ins C dx [])->H' dx=some (.own x)->Q (.ref x) H'
theorem m_nMk0 (C:Addr) (σ:St) (H:Hp) (Q:VK):nMk0 C σ H Q=∀ x dx H',H x=none->H dx=none->dx ≠ x->Ext H H'->H' x=some (.ins C dx [])->H' dx=some (.own x)->Q (.ref x) H':=rfl
theorem pe_nMk0 {X:Cx}{C:Addr}{x:Str}{p pos:Pos}(M:Mk0 X.K C) (hg:Gl X x) (hm:X.mg x=some (.ref C)) (hdb:(x == ("__debug__":Str))=false:=by decide):PE X (.Call (.Name x p) [] [] pos) (nMk0 C):=by
 intro pins s σ H Q I h
 refine wpAny_Call_Name_kw (ld_glob I hg hm ?_ hdb)
 refine W.callWith_K0 I.kIn M.kp ?_
 have hx:H (s.heap.objs.size+1)=none:=I.hok.fresh (Nat.le_succ _)
 have hd:H s.heap.objs.size=none:=I.hok.fresh (Nat.le_refl _)
 have ne:s.heap.objs.size ≠ s.heap.objs.size+1:=Nat.ne_of_lt (Nat.lt_succ_self _)
 have hq:=h (s.heap.objs.size+1) s.heap.objs.size (upd (upd H s.heap.objs.size (.own (s.heap.objs.size+1))) (s.heap.objs.size+1) (.ins C s.heap.objs.size [])) hx hd ne ((Ext.new hd).put hx) upd_same (by rw [upd_ne ne,upd_same])
 have I2:=Inv.made (C:=C) I
 refine wpAny_call (make_map0 I.kIn M.makes M.init (λ self=>W.Looks.of_pure (W.oi_bind self)) ?_)
 have Y:=W.makes_of (M:=model X.prog X.w) I.kIn M.makes
 have e2:((s.heap.push W.emptyDict).push (W.instObj C s.heap.objs.size)).get? (s.heap.objs.size+1)=some (W.instObj C s.heap.objs.size):=by
  have:=Heap.get?_push_size (s.heap.push W.emptyDict) (o:=W.instObj C s.heap.objs.size) rfl
  rwa [Heap.size_push] at this
 have t1:W.Looks (model X.prog X.w) ((s.heap.push W.emptyDict).push (W.instObj C s.heap.objs.size)) (typeOf (.ref (s.heap.objs.size+1))) (.ref C):=(W.Looks.ld e2).andThen .now
 have t2:W.Looks (model X.prog X.w) ((s.heap.push W.emptyDict).push (W.instObj C s.heap.objs.size)) (isInstance (.ref (s.heap.objs.size+1)) (.type "object")) true:=t1.andThen (Y.top.keeps λ b o e=>Heap.get?_push_of_some _ (Heap.get?_push_of_some _ e))
 refine codeAny_call_builtin W.oi_plain W.entry_oi (@W.check_slot (model X.prog X.w) _ _ _ "object.__init__" "object" "__init__" (.ref (s.heap.objs.size+1)) [] [] _ W.oi_kind W.oi_split t2 (W.oi_args (.ref (s.heap.objs.size+1))) ?_)
 rw [W.oi_run]
 exact wpAny_pure (And.intro rfl ⟨V.ref (s.heap.objs.size+1),_,I2,rfl,hq⟩)
end L2
namespace L2
open PySem PySem.Spec PyProof.Rows
structure MD (P:Program) (w:World) (K:W.Frag) (mg:Str->Option Value) (base:Heap) (CX:CXT) (k:Nat) (m:Str) (C:Addr) (sp:Sp):Prop where
 c:Cls K C
 ex:∃ f fd ps,Meth K C m f/\FnOk P w K mg base CX k f fd ps sp/\Binds K fd ps []
section
variable {k:Nat}{g:TG}{tt:TT}{te:TE}{σ:St}{Q:VK}{H:Hp}
end
end L2
namespace L2
open PySem PySem.Spec PyProof.Rows
section
variable {X:Cx}
end
end L2
namespace L2
open PySem PySem.Spec PyProof.Rows
def kMethD1 (n:Nat) (cl:Nat->Addr) (m:Str) (sp:Nat->Sp) (E:XK) (t:TA) (σ:St) (Q:VK):VK:=λ x H=>∃ a i dx fs,x=.ref a/\i < n/\H a=some (.ins (cl i) dx fs)/\fs.lookup m=none/\t σ H (λ vs H2=>sp i (.ref a::vs) H2 Q E)
def nMethD1 (n:Nat) (cl:Nat->Addr) (m:Str) (sp:Nat->Sp) (E:XK) (ta:TE) (t:TA):TE:=λ σ H Q=>ta σ H (kMethD1 n cl m sp E t σ Q)
theorem m_nMethD1 (n:Nat) (cl:Nat->Addr) (m:Str) (sp:Nat->Sp) (E:XK) (ta:TE) (t:TA) (σ:St) (H:Hp) (Q:VK):nMethD1 n cl m sp E ta t σ H Q=ta σ H (kMethD1 n cl m sp E t σ Q):=rfl
section
variable {X:Cx}{CX:CXT}{n k:Nat}{cl:Nat->Addr}{m:Str}{sp:Nat->Sp}{pos apos:Pos}{o e:Expr}{es:List Expr}{ta:TE}{t:TA}
theorem pe_nMethD1 {E:XK}{pl:Sem Bool}(he:PE X o ta) (hT:∀ i,i < n->MD X.prog X.w X.K X.mg X.base CX k m (cl i) (sp i)) (hr:Room k X.A) (hx:Passes CX X E) (ha:PA X (e::es) t)
  (hst:starEach (e::es) X.env=(false,eval e X.env)::starEach es X.env:=by rfl) (hpl:(backTo pos (starEach es X.env)).any (·.1)=false:=by rfl)
  (ht:eval (.Call (.Attribute o m apos) (e::es) [] pos) X.env=(do
   let ov ←eval o X.env
   standAt apos.atName
   let (f,first) ←holding [ov] (getMethod ov m pl)
   callWith pos f first (backTo pos (starEach (e::es) X.env)) (backToKw pos (keywordEach [] X.env))):=by rfl) :
  PE X (.Call (.Attribute o m apos) (e::es) [] pos) (nMethD1 n cl m sp E ta t):=by
 intro pins s σ H Q I h
 refine W.methodCall_KW (pl:=pl) (thn (he pins s σ H _ I h) λ u s1 ⟨x,H1,I1,rx,q0⟩=>?_) ht
 obtain ⟨a,i,dx,fs,ex,hi,ea,l,q⟩:=q0
 obtain ⟨c,f,fd,ps,hm,F,hb⟩:=hT i hi
 subst ex
 obtain rfl:u=Value.ref a:=rx
 refine getmeth_ok I1 ea c hm l ?_
 refine W.callWith_K (first:=[.ref a]) (h₀:=X.base) I.ok.mod.kin hm.kp (thn (ha pos pins s1 σ H1 _ I1 q) λ us s2 ⟨vs,H2,I2,r,q2⟩=>⟨I2.kIn,?_⟩) hst hpl
 exact run_fn (us:=.ref a::us) (vs:=.ref a::vs) (ds:=[]) (dvs:=[]) F hr hb .nil hx I2 (.cons rfl r) (by rw [List.append_nil];exact q2)
end
end L2
namespace L2
open PySem PySem.Spec PyProof.Rows
section
variable {X:Cx}{CX:CXT}{k:Nat}{f C:Addr}{fd:FuncData}{ps:List Str}{sp:Sp}{dvs:List V}{ds:List Value}{E:St->XK}{x:Str}{p pos:Pos}{e:Expr}{es:List Expr}{t:TA}
end
end L2
namespace L2
open PySem PySem.Spec PyProof.Rows
def qLenD:List V->Hp->VK->Prop:=λ vs H Q=>∃ p kvs,vs=[.ref p]/\H p=some (.dK kvs)/\Q (.int kvs.length) H
theorem use_lenD {p:Addr}{kvs:List (Key × V)}{H:Hp}{Q:VK}(e:H p=some (.dK kvs)) (q:Q (.int kvs.length) H):qLenD [.ref p] H Q:=⟨p,kvs,rfl,e,q⟩
section
variable {X:Cx}
theorem call_qLenD:CallR X (.builtin "len") qLenD:=by
 intro pins s σ H vs us Q I r h
 obtain ⟨p,kvs,rfl,e,q⟩:=h
 obtain ⟨u,rfl,rx⟩:=vals1 r
 cases rx
 have hn:=line63
 obtain ⟨h1,h2,vs',h3,h4⟩:=I.hok _ _ e
 have hlen:vs'.length=kvs.length:=h3.length.symm
 exact call_len_dict h2 h4 (by omega) ⟨.int kvs.length,H,I.tok _,⟨s.toks+1,by rw [hlen]⟩,q⟩
end
end L2
namespace L2
open PySem PySem.Spec PyProof.Rows
section
variable {X:Cx}
end
end L2
namespace L2
open PySem PySem.Spec PyProof.Rows
section
variable {X:Cx}
end
end L2
namespace L2
open PySem PySem.Spec PyProof.Rows
section
variable {X:Cx}{tg:Expr}
end
section
variable {X:Cx}
end
end L2
namespace L2
open PySem PySem.Spec PyProof.Rows
end L2
namespace HT
open PySem PySem.Spec PyProof.Rows
section
variable {prog:Program}{w:World}{A:Around}{E:Value->Shared->Prop}{s:Shared}
end
end HT
namespace L2
open PySem PySem.Spec PyProof.Rows
end L2
namespace L2
open PySem PySem.Spec PyProof.Rows
section
variable {X:Cx}
end
end L2
namespace L2
open PySem PySem.Spec PyProof.Rows
def Its (x:Str):It:=⟨λ i _=>i < x.cps.size,λ i H v H'=>H'=H/\∃ c,x.cps[i]? = some c/\v=.str ⟨#[c]⟩,λ i _=>x.cps.size<=i⟩
theorem turn_str {P:Program}{w:World}{K:W.Frag}{tg:Expr}(it:Addr) (x:Str) (t:Tok):Turn P w K tg (Its x) [it] it (λ i h=>h.IsStrIter it "str_ascii_iterator" x t i) where
 mem:=by simp
 obj:=λ i h st b hb=>by
  have e:b=it:=by simpa using hb
  subst e
  obtain ⟨o,e,c,d⟩:=st
  exact ⟨o,e,λ v z=>by rw [d] at z;cases z⟩
 keep:=λ i h h' st k=>let ⟨o,ho,r⟩:=st;⟨o,k it (by simp) o ho,r⟩
 item:=by
  intro X hP hw hK hc i pins s σ H E I hf st hg
  subst hP hw hK
  have hi:i < x.cps.size:=hg
  have hx:x.cps[i]? = some x.cps[i]:=by simp [hi]
  obtain ⟨f0,f1,f2,f3,f4,f5⟩:=hf it (by simp)
  refine wpAny_pyNext_ascii_item st hx λ h' st' sb=>?_
  have I1:Inv X pins σ H { s with heap:=h',toks:=s.toks+1 }:=I.turned (λ b o hb e=>(sb.2 b hb).trans e) f0 f1 f3 f4 f5
  obtain ⟨o,e,c,d⟩:=id st'
  exact ⟨_,rfl,go_of (s:={ s with heap:=h',toks:=s.toks+1 }) e c d (by decide) ⟨.str ⟨#[x.cps[i]]⟩,H,I1,⟨_,rfl⟩,⟨rfl,_,hx,rfl⟩,st',λ b hb=>(hf b hb).1⟩⟩
 done:=by
  intro X hP hw hK hc i pins s σ H E I hf st hg
  subst hP hw hK
  have hi:x.cps.size<=i:=hg
  obtain ⟨f0,f1,f2,f3,f4,f5⟩:=hf it (by simp)
  exact wpAny_pyNext_ascii_end (I.ok.hd hc) st (by simp [hi]) λ h' eb=>⟨rfl,I.turned (t':=s.toks) (λ b o hb e=>eb b o hb e) f0 f1 f3 f4 f5⟩
 self:=λ _ _ _ _ _ st h=>wpAny_pyIter_striter_ascii st h
def kIStr (R:It->Hp->Prop):VK:=λ v H=>∃ x:Str,v=.str x/\x.cps.all (· < 128)=true/\R (Its x) H
def iStr (tl:TE):TI:=λ σ H R=>tl σ H (kIStr R)
theorem m_iStr (tl:TE) (σ:St) (H:Hp) (R:It->Hp->Prop):iStr tl σ H R=tl σ H (kIStr R):=rfl
theorem pi_str {X:Cx}{tg l:Expr}{tl:TE}(hl:PE X l tl):PI X tg l (iStr tl):=by
 intro pins s σ H R I h
 refine thn (hl pins s σ H _ I h) λ v s1 ⟨x,H1,I1,r1,q1⟩=>?_
 obtain ⟨z,rfl,ha,q⟩:=q1
 obtain ⟨t,rfl⟩:=r1
 refine wpAny_pyIter_ascii ha ?_
 refine ⟨s1.heap.objs.size,[s1.heap.objs.size],_,_,H1,rfl,I1.kept (t':=s1.toks) λ b o e=>Heap.get?_push_of_some _ e,turn_str _ z t,⟨_,Heap.get?_push_size _ rfl,rfl,rfl⟩,λ b hb=>?_,q⟩
 have e:b=s1.heap.objs.size:=by simpa using hb
 subst e
 exact I1.fpOk (Nat.le_refl _) (I1.hok.fresh (Nat.le_refl _))
def sgn (c:Nat):V:=.str ⟨#[c]⟩
theorem wk_str {H:Hp}(x:Str):(∀ i z H',x.cps.toList[i]? = some z->Ext H H'->(Its x).go i H'/\∀ v H'',(Its x).yld i H' v H''->Ext H' H''/\v=sgn z)/\∀ H',Ext H H'->(Its x).stop x.cps.toList.length H':=by
 refine ⟨λ i z H' hz _=>?_,λ H' _=>by simp [Its]⟩
 have hz':x.cps[i]? = some z:=by simpa using hz
 refine ⟨?_,λ v H'' y=>⟨by rw [y.1];exact Ext.refl _,?_⟩⟩
 ·have:=(List.getElem?_eq_some_iff.mp hz).1
  show i < x.cps.size
  simpa using this
 ·obtain ⟨c,hc,rfl⟩:=y.2
  rw [hz'] at hc
  cases hc
  rfl
def repS (x:Str) (n:Int):Str:=if (n == 1 || x.length == 0)=true then x else ⟨(List.replicate n.toNat x.cps).foldl (· ++ ·) #[]⟩
theorem rep_size (a:Array Nat):∀ (k:Nat) (b:Array Nat),((List.replicate k a).foldl (· ++ ·) b).size=b.size+k * a.size
 | 0,b=>by simp
 | k+1,b=>by
  rw [List.replicate_succ,List.foldl_cons,rep_size a k,Array.size_append,Nat.succ_mul]
  omega
def nMulS:R2:=λ x y H Q=>match x,y with
 | .str z,.int n=>1<=n/\n<=100/\z.length<=100/\Q (.str (repS z n)) H
 | _,_=>False
theorem m_nMulS (z:Str) (n:Int) (H:Hp) (Q:VK):nMulS (.str z) (.int n) H Q=(1<=n/\n<=100/\z.length<=100/\Q (.str (repS z n)) H):=rfl
theorem op_nMulS {X:Cx}:OpR X (binaryOp .Mult) nMulS:=by
 intro pins s σ H x y v u Q I rx ry h
 unfold nMulS at h
 split at h
 ·rename_i z n
  obtain ⟨h1,h2,h3,q⟩:=h
  obtain ⟨t,rfl⟩:=rx
  obtain ⟨t',rfl⟩:=ry
  have hn:¬ n < 1:=by omega
  have e1:decide (n < -(2 ^ 63:Int))=false:=decide_eq_false (by omega)
  have e2:decide (n >= 2 ^ 63)=false:=decide_eq_false (by omega)
  refine P.mul_str (by rw [e1,e2];rfl) (λ _ _=>?_) (λ _ _=>?_) ?_
  ·have:(2 ^ 63 - 1) / n >= 92233720368547758:=by
    have hp:(0:Int) < n:=by omega
    exact (Int.le_ediv_iff_mul_le hp).mpr (by omega)
   omega
  ·have:z.length * n.toNat<=10000:=Nat.mul_le_mul h3 (show n.toNat<=100 by omega)
   show decide (z.length * n.toNat > 2 ^ 24)=false
   exact decide_eq_false (by omega)
  ·rw [if_neg hn]
   unfold repS at q
   split
   ·rename_i hc
    rw [if_pos hc] at q
    exact ⟨.str z,H,I,⟨_,rfl⟩,q⟩
   ·rename_i hc
    rw [if_neg hc] at q
    have hlen:(⟨(List.replicate n.toNat z.cps).foldl (· ++ ·) #[]⟩:Str).length<=sizeLine:=by
     show ((List.replicate n.toNat z.cps).foldl (· ++ ·) #[]).size<=2 ^ 24
     rw [rep_size]
     have h4:n.toNat * z.cps.size<=100 * 100:=Nat.mul_le_mul (show n.toNat<=100 by omega) h3
     have h5:(#[]:Array Nat).size=0:=rfl
     omega
    exact ⟨hlen,⟨.str _,H,I.tok _,⟨_,rfl⟩,q⟩⟩
 ·exact h.elim
def inS (i j:Str):Bool:=!(Builtin.Str.occurrences j i 0 j.length 1).isEmpty
def nInS:R2:=λ x y H Q=>match x,y with
 | .str i,.str j=>Q (.bl (inS i j)) H
 | _,_=>False
theorem m_nInS (i j:Str) (H:Hp) (Q:VK):nInS (.str i) (.str j) H Q=Q (.bl (inS i j)) H:=rfl
theorem op_qInS {X:Cx}:OpR X (compareOp .In) nInS:=op_in_str.mono λ x y H Q h=>by
 unfold nInS at h
 split at h
 ·exact ⟨_,_,rfl,rfl,h⟩
 ·exact h.elim
def kPopL (l:Addr) (H:Hp) (Q:VK):List V->Prop:=λ xs=>∃ y ys,xs=ys++[y]/\Q y (upd H l (.lst ys))
def nPop:V->List V->Hp->VK->Prop:=λ x vs H Q=>match x,vs with
 | .ref l,[]=>optK (lstAt H l) (kPopL l H Q)
 | _,_=>False
theorem x_nPop (l:Addr) (H:Hp) (Q:VK):nPop (.ref l) [] H Q=optK (lstAt H l) (kPopL l H Q):=rfl
theorem use_pop {l:Addr}{H:Hp}{Q:VK}{ys:List V}{y:V}(h:H l=some (.lst (ys++[y]))) (q:Q y (upd H l (.lst ys))):nPop (.ref l) [] H Q:=by
 rw [x_nPop,lstAt,h]
 exact ⟨y,ys,rfl,q⟩
theorem mt_nPop {X:Cx}:MtM X "list.pop" nPop:=λ pins s σ H x vs v us Q I rx rv h=>mt_pop pins s σ H x vs v us Q I rx rv (by
 unfold nPop at h
 split at h
 ·rename_i l
  obtain ⟨xs,e,y,ys,rfl,q⟩:=optK_ex h
  exact ⟨l,ys++[y],y,rfl,rfl,lst_of e,by simp,by rw [List.dropLast_concat];exact q⟩
 ·exact h.elim)
end L2
namespace L2
open PySem PySem.Spec PyProof.Rows
section
variable {prog:Program}{w:World}{A:Around}{E:Value->Shared->Prop}{s:Shared}
theorem extend_dict {R:Result->Shared->Prop}{d:Addr}{kvs:List (Key × Value)}{ep:Nat}(hh:A.handled=none) (lo:(d == sysModules)=false) (hd:s.heap.DictAt (mixKind prog w) d kvs ep) (S:Addr) (res:Value) (c₀:Nat) (hS:s.heap.get? S=some { cls:=.type "list",data:=.seq #[] c₀ })
  (hn:kvs.length<=sizeLine)
  (hR:∀ h' tk acc' c',(∀ b o,b ≠ S->s.heap.get? b=some o->h'.get? b=some o)->h'.get? S=some { cls:=.type "list",dict:=none,data:=.seq acc' c',slots:=#[] } →
   ItemsOf (λ i v=>∃ k x,kvs[i]? = some (k,x)/\(mixKind prog w).is k v=true) acc' kvs.length->R (.ok (.ret res)) { s with heap:=h',toks:=tk }) :
  wpAny (model prog w) A.in1 (Builtin.List.listExtendWith (.ref S) (.ref d) res)
   (λ fin s'=>match fin with | .done f=>R (.ok f) s' | .again c'=>c'.quiet=true/\codeAny (model prog w) A c' R s') (λ e s'=>R (.error e) s') s:=by
 have hT:s.TypeIs (.ref d) "dict":=hd.dictOf.typeIs
 have hSd:S ≠ d:=λ e=>by
  obtain ⟨o,ho,hc⟩:=hT
  rw [←e,hS] at ho
  cases ho
  have:Value.type "list"=Value.type "dict":=hc
  exact absurd this (by decide)
 have hSI:S ≠ s.heap.objs.size:=Nat.ne_of_lt (Heap.lt_size hS)
 have hdlt:d < s.heap.objs.size:=by obtain ⟨o,ho,_⟩:=hT;exact Heap.lt_size ho
 have hdI:d ≠ s.heap.objs.size:=Nat.ne_of_lt hdlt
 have hSf:S ∉ [s.heap.objs.size,d]:=λ hm=>by
  rcases List.mem_cons.mp hm with e|hm
  ·exact hSI e
  ·exact hSd (List.mem_singleton.mp hm)
 have W:=(Walks.dictKeys (prog:=prog) (w:=w) (knd:=mixKind prog w) (A:=A.in1) hh s.heap.objs.size d hdI kvs ep).toS
 unfold Builtin.List.listExtendWith
 refine wpAny_bind (wpAny_typeOf (T := "dict") hT ?_)
 have h1:Builtin.List.listSameRef (.ref S) (.ref d)=false:=by simp [Builtin.List.listSameRef,hSd]
 have h2:(Value.type "dict" == Value.type "list")=false:=by decide
 have h3:(Value.type "dict" == Value.type "tuple")=false:=by decide
 simp only [h1,h2,h3,Bool.or_false,Bool.false_eq_true,if_false]
 refine wpAny_bind (wpAny_pyIter_dict lo hd ?_)
 have hd₁:(s.heap.push { cls:=.type "dict_keyiterator",data:=.fields #[.ref d,.int 0 0,.int kvs.length 0,.int ep 0] }).DictAt (mixKind prog w) d kvs ep:=hd.at' λ o e=>Heap.get?_push_of_some _ e
 have hit₁:(s.heap.push { cls:=.type "dict_keyiterator",data:=.fields #[.ref d,.int 0 0,.int kvs.length 0,.int ep 0] }).IsKeyIter s.heap.objs.size d 0 kvs.length ep:=⟨_,Heap.get?_push_size _ rfl,rfl,rfl⟩
 have hS₁:=Heap.get?_push_of_some { cls:=.type "dict_keyiterator",data:=.fields #[.ref d,.int 0 0,.int kvs.length 0,.int ep 0] } hS
 have kp₁:∀ b o,s.heap.get? b=some o->(s.heap.push { cls:=.type "dict_keyiterator",data:=.fields #[.ref d,.int 0 0,.int kvs.length 0,.int ep 0] }).get? b=some o:=λ b o e=>Heap.get?_push_of_some _ e
 generalize (s.heap.push { cls:=.type "dict_keyiterator",data:=.fields #[.ref d,.int 0 0,.int kvs.length 0,.int ep 0] })=hp at *
 have hT₁:({ s with heap:=hp }:Shared).TypeIs (.ref d) "dict":=hd₁.dictOf.typeIs
 refine wpAny_bind (wpAny_holding ?_)
 unfold Builtin.List.listLengthHint
 refine wpAny_bind (wpAny_specialOf (T := "dict") hT₁ PySem.F.slot_dict_len.lookup ?_)
 wp_delta
 refine wpAny_bind (wpAny_isInstance (T := "dict") (b:=true) hT₁ (by rw [isSubtype_type];kernel_rfl) ?_)
 show wpAny _ _ (typeOf (Value.ref d) >>= _) _ _ _
 refine wpAny_bind (wpAny_typeOf (T := "dict") hT₁ ?_)
 refine wpAny_pure ?_
 rw [if_pos (by decide)]
 refine wpAny_bind (wpAny_rule ?_)
 refine wpAny_bind ?_
 show wpAny _ _ (updateSeq S (·.push .none) >>= λ _=>updateSeq S (·.pop)) _ _ _
 refine wpAny_bind (wpAny_updateSeq hS₁ rfl ?_)
 have hS₂:=Heap.get?_update_self (Obj.mapSeq (·.push Value.none)) hS₁ rfl
 refine wpAny_updateSeq (hz:=by seq_fits) hS₂ rfl ?_
 have hS₃:=Heap.get?_update_self (Obj.mapSeq (·.pop)) hS₂ rfl
 have oth:∀ b o,b ≠ S->hp.get? b=some o->((hp.update S (Obj.mapSeq (·.push Value.none))).update S (Obj.mapSeq (·.pop))).get? b=some o:=λ b o hb e=>(Heap.get?_update_other _ _ (Ne.symm hb)).trans ((Heap.get?_update_other _ _ (Ne.symm hb)).trans e)
 refine wpAny_pure ⟨plainId_quiet F.plain_extend_loop _,?_⟩
 refine codeAny_extend_loopS W hn S hSf res kvs.length 0 _ #[] _ rfl (Nat.zero_le _) ⟨hit₁.at λ o e=>oth _ o (Ne.symm hSI) e,hd₁.at' λ o e=>oth _ o (Ne.symm hSd) e⟩ hS₃ (ItemsOf.nil _) λ s' acc' c' hm hS' hacc=>?_
 rw [Moved.eq_with hm]
 refine hR s'.heap s'.toks acc' c' (λ b o hb e=>hm.heap b o (λ hmem=>?_) (oth b o hb (kp₁ b o e))) hS' hacc
 rcases List.mem_cons.mp hmem with e'|hmem
 ·exact hb e'
 ·exact absurd (Heap.lt_size e) (by rw [List.mem_singleton.mp hmem];exact Nat.lt_irrefl _)
theorem init_dict {R:Result->Shared->Prop}{d:Addr}{kvs:List (Key × Value)}{ep:Nat}(hh:A.handled=none) (lo:(d == sysModules)=false) (hd:s.heap.DictAt (mixKind prog w) d kvs ep) (S:Addr) (hSd:S ≠ d) (hS:s.heap.get? S=some { cls:=.type "list",data:=.seq #[] })
  (hn:kvs.length<=sizeLine)
  (hR:∀ h' tk acc' c',(∀ b o,b ≠ S->s.heap.get? b=some o->h'.get? b=some o)->h'.get? S=some { cls:=.type "list",dict:=none,data:=.seq acc' c',slots:=#[] } →
   ItemsOf (λ i v=>∃ k x,kvs[i]? = some (k,x)/\(mixKind prog w).is k v=true) acc' kvs.length->R (.ok (.ret .none)) { s with heap:=h',toks:=tk }) :
  wpAny (model prog w) A.in1 (Builtin.«list.__init__» ⟨[.ref S,.ref d],[]⟩)
   (λ fin s'=>match fin with | .done f=>R (.ok f) s' | .again c'=>c'.quiet=true/\codeAny (model prog w) A c' R s') (λ e s'=>R (.error e) s') s:=by
 show wpAny _ _ (do let old ←Builtin.List.listItems (.ref S);Builtin.List.listUpdate (.ref S) (λ _=>#[]);letGo old.toList.reverse;Builtin.List.listExtendWith (.ref S) (.ref d) .none) _ _ s
 refine wpAny_bind ?_
 unfold Builtin.List.listItems
 refine wpAny_bind (wpAny_seqItems hS rfl (wpAny_pure ?_))
 show wpAny _ _ (updateSeq S (λ _=>#[]) >>= λ _=>letGo (#[]:Array Value).toList.reverse >>= λ _=>Builtin.List.listExtendWith (.ref S) (.ref d) .none) _ _ s
 refine wpAny_bind (wpAny_updateSeq hS rfl ?_)
 have hS₂:=Heap.get?_update_self (Obj.mapSeq (λ _=>(#[]:Array Value))) hS rfl
 have oth:∀ b o,b ≠ S->s.heap.get? b=some o->(s.heap.update S (Obj.mapSeq (λ _=>(#[]:Array Value)))).get? b=some o:=
  λ b o hb e=>(Heap.get?_update_other _ _ (Ne.symm hb)).trans e
 refine wpAny_bind (wpAny_letGo ?_)
 refine extend_dict hh lo (hd.at' λ o e=>oth _ o (Ne.symm hSd) e) S .none _ hS₂ hn λ h' tk acc' c' hk hS' hacc=>?_
 exact hR h' tk acc' c' (λ b o hb e=>hk b o hb (oth b o hb e)) hS' hacc
theorem call_list_dict {Q:Value->Shared->Prop}{d:Addr}{kvs:List (Key × Value)}{ep:Nat}(hh:A.handled=none) (lo:(d == sysModules)=false) (hd:s.heap.DictAt (mixKind prog w) d kvs ep) (hn:kvs.length<=sizeLine)
  (hQ:∀ h' tk acc' c',(∀ b o,s.heap.get? b=some o->h'.get? b=some o) →
   h'.get? s.heap.objs.size=some { cls:=.type "list",dict:=none,data:=.seq acc' c',slots:=#[] }->ItemsOf (λ i v=>∃ k x,kvs[i]? = some (k,x)/\(mixKind prog w).is k v=true) acc' kvs.length->Q (.ref s.heap.objs.size) { s with heap:=h',toks:=tk }) :
  wpAny (model prog w) A (call (.type "list") [.ref d]) Q E s:=by
 refine callType_codes (Q₁:=λ obj s₁=>obj=.ref s.heap.objs.size/\s₁={ s with heap:=s.heap.push { cls:=.type "list",data:=.seq #[] } }) F.called_list (F.typeCall_list_1 _) F.entry_list_init
  (code_list_new _ ⟨rfl,rfl⟩) λ obj s₁ h₁=>?_
 obtain ⟨rfl,rfl⟩:=h₁
 have hS:(s.heap.push { cls:=.type "list",data:=.seq #[] }).get? s.heap.objs.size=some { cls:=.type "list",data:=.seq #[] }:=Heap.get?_push_size _ rfl
 have hSd:s.heap.objs.size ≠ d:=λ e=>by obtain ⟨o,es,ho,_⟩:=hd;rw [←e] at ho;exact absurd (Heap.lt_size ho) (Nat.lt_irrefl _)
 refine ⟨⟨_,hS,rfl⟩,F.args_list_init_2 _ _,init_dict (A:=A.in1) hh lo (hd.at' λ o e=>Heap.get?_push_of_some _ e) _ hSd hS hn λ h' tk acc' c' hk hS' hacc=>?_⟩
 exact ⟨rfl,hQ h' tk acc' c' (λ b o e=>hk b o (Nat.ne_of_lt (Heap.lt_size e)) (Heap.get?_push_of_some _ e)) hS' hacc⟩
end
def qListD:List V->Hp->VK->Prop:=λ vs H Q=>∃ p kvs,vs=[.ref p]/\H p=some (.dK kvs)/\kvs.length<=sizeLine/\newK (.lst (kvs.map λ z=>kV z.1)) H Q
theorem use_listD {p:Addr}{kvs:List (Key × V)}{H:Hp}{Q:VK}(e:H p=some (.dK kvs)) (hl:kvs.length<=sizeLine) (q:newK (.lst (kvs.map λ z=>kV z.1)) H Q):qListD [.ref p] H Q:=⟨p,kvs,rfl,e,hl,q⟩
theorem call_qListD {X:Cx}(hc:X.calm=true):CallR X (.type "list") qListD:=by
 intro pins s σ H vs us Q I r h
 obtain ⟨p,kvs,rfl,ha,hl,q⟩:=h
 cases r with
 | cons r rr=>
  cases rr
  cases r
  have hO:ObjOk X.prog X.w H s.heap p (.dK kvs):=I.hok p _ ha
  obtain ⟨z0,lo,xs,kx,dd⟩:=id hO
  obtain ⟨ep,hat⟩:=dd.dictAt
  refine call_list_dict (I.ok.hd hc) lo hat (by rw [←kx.length];exact hl) λ h' tk acc c kp hget hit=>?_
  have fr:=I.hok.fresh (Nat.le_refl _)
  have hv:Vals (kvs.map λ z=>kV z.1) acc.toList:=by
   have hlen:kvs.length=xs.length:=Paired.length kx
   refine vals_of_get (by rw [List.length_map,Array.length_toList,hit.1,hlen]) λ i x u hx hu=>?_
   rw [List.getElem?_map] at hx
   obtain ⟨z,hz,rfl⟩:=Option.map_eq_some_iff.mp hx
   obtain ⟨q',hq',hk',_⟩:=kv_get' kx hz
   obtain ⟨k,y,hy,his⟩:=hit.2 i u (by simpa using hu)
   rw [hq'] at hy
   cases hy
   have hk'':z.1=k:=hk'
   rw [hk'']
   exact relV_key his
  refine ⟨.ref s.heap.objs.size,_,I.laid (t':=tk) (o:=.lst (kvs.map λ z=>kV z.1)) kp (Nat.le_refl _) ⟨by rw [List.length_map];exact hl,acc.toList,c,hv,hget⟩,rfl,q _ _ fr (Ext.new fr) upd_same⟩
end L2
namespace PH
def Sizes (ns:List Int):Prop:=ns.length<=8/\∀ n∈ns,1<=n/\n<=1000000000
def prodL:List Int->Int
 | []=>1
 | n::r=>n * prodL r
def pacesL:List Int->List Int
 | []=>[]
 | _::r=>prodL r::pacesL r
theorem prodL_append:∀ ns ms:List Int,prodL (ns++ms)=prodL ns * prodL ms
 | [],ms=>by simp [prodL]
 | n::r,ms=>by simp only [List.cons_append,prodL,prodL_append r ms,Int.mul_assoc]
theorem prodL_take (ns:List Int) (i:Nat) (z:Int) (h:ns[i]? = some z):prodL (ns.take (i+1))=prodL (ns.take i) * z:=by
 rw [List.take_add_one,h,prodL_append]
 simp [prodL]
theorem prodL_pos:∀ ns:List Int,(∀ n∈ns,1<=n/\n<=1000000000)->1<=prodL ns/\prodL ns<=1000000000 ^ ns.length
 | [],_=>by simp [prodL]
 | n::r,h=>by
  obtain ⟨h1,h2⟩:=prodL_pos r λ m hm=>h m (List.mem_cons_of_mem _ hm)
  obtain ⟨g1,g2⟩:=h n List.mem_cons_self
  refine ⟨?_,?_⟩
  ·show 1<=n * prodL r
   exact Int.le_trans (by omega) (Int.mul_le_mul g1 h1 (by decide) (by omega):1 * 1<=n * prodL r)
  ·show n * prodL r<=1000000000 ^ (r.length+1)
   rw [Int.pow_succ,Int.mul_comm]
   exact Int.mul_le_mul h2 g2 (by omega) (Int.le_trans (by omega) h2)
theorem pow9_le:∀ {k:Nat},k<=8->(1000000000:Int) ^ k<=1000000000 ^ 8
 | 0,_=>by decide
 | 1,_=>by decide
 | 2,_=>by decide
 | 3,_=>by decide
 | 4,_=>by decide
 | 5,_=>by decide
 | 6,_=>by decide
 | 7,_=>by decide
 | 8,_=>by decide
 | k+9,h=>by omega
theorem Sizes.prod {ns:List Int}(h:Sizes ns):1<=prodL ns/\prodL ns<=1000000000 ^ 8:=by
 obtain ⟨a,b⟩:=prodL_pos ns h.2
 exact ⟨a,Int.le_trans b (pow9_le h.1)⟩
theorem Sizes.take {ns:List Int}(h:Sizes ns) (i:Nat):Sizes (ns.take i):=⟨by have:=h.1;simp;omega,λ n hn=>h.2 n (List.mem_of_mem_take hn)⟩
theorem Sizes.drop {ns:List Int}(h:Sizes ns) (i:Nat):Sizes (ns.drop i):=⟨by have:=h.1;simp;omega,λ n hn=>h.2 n (List.mem_of_mem_drop hn)⟩
theorem drop_step (ns:List Int) (i:Nat) (z:Int) (hi:i < ns.length) (h:ns[ns.length - 1 - i]? = some z):ns.drop (ns.length - (i+1))=z::ns.drop (ns.length - i):=by
 have e:ns.length - (i+1)=ns.length - 1 - i:=by omega
 have e2:ns.length - i=ns.length - 1 - i+1:=by omega
 rw [e,e2]
 obtain ⟨hl,hz⟩:=List.getElem?_eq_some_iff.mp h
 rw [←hz]
 exact List.drop_eq_getElem_cons hl
theorem prodL_step (ns:List Int) (i:Nat) (z:Int) (hi:i < ns.length) (h:ns[ns.length - 1 - i]? = some z):prodL (ns.drop (ns.length - (i+1)))=prodL (ns.drop (ns.length - i)) * z:=by
 rw [drop_step ns i z hi h];exact Int.mul_comm _ _
theorem pacesL_step (ns:List Int) (i:Nat) (z:Int) (hi:i < ns.length) (h:ns[ns.length - 1 - i]? = some z):(pacesL (ns.drop (ns.length - (i+1)))).reverse=(pacesL (ns.drop (ns.length - i))).reverse++[prodL (ns.drop (ns.length - i))]:=by
 rw [drop_step ns i z hi h];simp [pacesL]
theorem pacesL_len:∀ ns:List Int,(pacesL ns).length=ns.length
 | []=>rfl
 | _::r=>by simp [pacesL,pacesL_len r]
def InR:List Int->List Int->Prop
 | [],[]=>True
 | n::r,x::xs=>(0<=x/\x < n)/\InR r xs
 | _,_=>False
end PH
namespace PH
open PySem L2
def vi:V->Int
 | .int i=>i
 | _=>0
end PH
namespace PH
end PH
namespace PH
open PySem L2
theorem filt {α:Type}(l:List α):(l.filter λ _=>true)=l:=List.filter_eq_self.mpr λ _ _=>rfl
end PH
namespace PH
open PySem L2
def keptA (a:Int × Int):Int × Int:=(a.1,if a.1 > 1 then a.2 else 0)
def axL (axs:List (Int × Int)):List (List Int):=axs.map λ a=>[a.1,a.2]
def leastL (axs:List (Int × Int)):Int:=(axs.map λ a=>min 0 ((a.1 - 1) * a.2)).sum
def greatL (axs:List (Int × Int)):Int:=(axs.map λ a=>max 0 ((a.1 - 1) * a.2)).sum
def Axes (axs:List (Int × Int)):Prop:=axs.length<=8/\∀ a∈axs,1<=a.1/\a.1<=1000000000
structure ViewOk (room first:Int) (axs:List (Int × Int)):Prop where
 ax:Axes axs
 r1:1<=room
 r2:room<=1000000000000000000
 lo:0<=first+leastL (axs.map keptA)
 hi:first+greatL (axs.map keptA) < room
theorem Axes.kept {axs:List (Int × Int)}(h:Axes axs):Axes (axs.map keptA):=⟨by rw [List.length_map];exact h.1,λ a ha=>by
 obtain ⟨b,hb,rfl⟩:=List.mem_map.mp ha
 exact h.2 b hb⟩
theorem Axes.sizes {axs:List (Int × Int)}(h:Axes axs):Sizes (axs.map λ a=>a.1):=⟨by rw [List.length_map];exact h.1,λ n hn=>by
 obtain ⟨b,hb,rfl⟩:=List.mem_map.mp hn
 exact h.2 b hb⟩
def viewF (room first:Int) (l:Addr):List (Str × V):=putF "axes" (.ref l) (putF "first" (.int first) (putF "room" (.int room) []))
theorem ne_ra:¬ (("room":Str) = "axes"):=by decide +kernel
theorem ne_rf:¬ (("room":Str) = "first"):=by decide +kernel
theorem ne_fa:¬ (("first":Str) = "axes"):=by decide +kernel
theorem viewF_room (room first:Int) (l:Addr):(viewF room first l).lookup ("room":Str)=some (.int room):=by
 unfold viewF
 rw [lookup_putF,if_neg ne_ra,lookup_putF,if_neg ne_rf,lookup_putF,if_pos rfl]
theorem viewF_first (room first:Int) (l:Addr):(viewF room first l).lookup ("first":Str)=some (.int first):=by
 unfold viewF
 rw [lookup_putF,if_neg ne_fa,lookup_putF,if_pos rfl]
theorem viewF_axes (room first:Int) (l:Addr):(viewF room first l).lookup ("axes":Str)=some (.ref l):=by
 unfold viewF
 rw [lookup_putF,if_pos rfl]
theorem viewF_no (room first:Int) (l:Addr){m:Str}(h1:¬ m = "axes") (h2:¬ m = "first") (h3:¬ m = "room"):(viewF room first l).lookup m=none:=by
 unfold viewF
 rw [lookup_putF,if_neg h1,lookup_putF,if_neg h2,lookup_putF,if_neg h3]
 rfl
end PH
namespace PH
open PySem L2
theorem prodL_one:∀ ns:List Int,(∀ n∈ns,(1:Int)<=n)->1<=prodL ns
 | [],_=>by simp [prodL]
 | n::ns,h=>by
  have h1:=h n List.mem_cons_self
  have h2:=prodL_one ns λ m hm=>h m (List.mem_cons_of_mem _ hm)
  show 1<=n * prodL ns
  have:=Int.mul_le_mul h1 h2 (by decide) (by omega)
  omega
theorem leastL_snoc (l:List (Int × Int)) (a:Int × Int):leastL (l++[a])=leastL l+min 0 (a.2 * (a.1 - 1)):=by
 unfold leastL;rw [List.map_append,List.sum_append,Int.mul_comm a.2];simp
theorem greatL_snoc (l:List (Int × Int)) (a:Int × Int):greatL (l++[a])=greatL l+max 0 (a.2 * (a.1 - 1)):=by
 unfold greatL;rw [List.map_append,List.sum_append,Int.mul_comm a.2];simp
theorem leastL_cons (a:Int × Int) (l:List (Int × Int)):leastL (a::l)=min 0 ((a.1 - 1) * a.2)+leastL l:=by unfold leastL;simp
theorem greatL_cons (a:Int × Int) (l:List (Int × Int)):greatL (a::l)=max 0 ((a.1 - 1) * a.2)+greatL l:=by unfold greatL;simp
end PH
namespace PH
open PySem L2
end PH
namespace PH
def dotL (xs ps:List Int):Int:=(List.zipWith (λ x p=>x * p) xs ps).sum
theorem mul_between {x p s:Int}(h0:0<=x) (h1:x<=s - 1):min 0 ((s - 1) * p)<=x * p/\x * p<=max 0 ((s - 1) * p):=by
 rcases Int.le_total 0 p with hp|hp
 ·have a:=Int.mul_nonneg h0 hp
  have b:=Int.mul_le_mul_of_nonneg_right h1 hp
  omega
 ·have a:=Int.mul_nonneg h0 (show 0<=-p by omega)
  have b:=Int.mul_le_mul_of_nonneg_right h1 (show 0<=-p by omega)
  rw [Int.mul_neg] at a b
  rw [Int.mul_neg] at b
  omega
theorem dot_between:∀ (axs:List (Int × Int)) (xs:List Int),InR (axs.map λ a=>a.1) xs->leastL axs<=dotL xs (axs.map λ a=>a.2)/\dotL xs (axs.map λ a=>a.2)<=greatL axs
 | [],[],_=>by decide
 | [],_::_,h=>h.elim
 | _::_,[],h=>h.elim
 | a::r,x::xs,⟨⟨h0,h1⟩,h⟩=>by
  obtain ⟨b1,b2⟩:=dot_between r xs h
  have e:dotL (x::xs) ((a::r).map λ a=>a.2)=x * a.2+dotL xs (r.map λ a=>a.2):=by
   unfold dotL;rw [List.map_cons,List.zipWith_cons_cons,List.sum_cons]
  rw [leastL_cons,greatL_cons,e]
  have h1':x < a.1:=h1
  obtain ⟨c1,c2⟩:=mul_between (p:=a.2) h0 (show x<=a.1 - 1 by omega)
  omega
theorem prodL_take_le (ns:List Int) (h:∀ n∈ns,(1:Int)<=n) (i:Nat):prodL (ns.take i)<=prodL ns:=by
 have e:prodL ns=prodL (ns.take i) * prodL (ns.drop i):=by rw [←prodL_append,List.take_append_drop]
 have a:=prodL_one (ns.take i) λ n hn=>h n (List.mem_of_mem_take hn)
 have b:=prodL_one (ns.drop i) λ n hn=>h n (List.mem_of_mem_drop hn)
 rw [e]
 have:=Int.mul_le_mul_of_nonneg_left b (show 0<=prodL (ns.take i) by omega)
 omega
def wideL (cs:List Int) (a:Int × Int):List Int:=cs.flatMap λ c=>(List.range a.1.toNat).map λ (n:Nat)=>c+(n:Int) * a.2
def cellsL (first:Int) (axs:List (Int × Int)):List Int:=axs.foldl wideL [first]
theorem wideL_len (cs:List Int) (a:Int × Int):(wideL cs a).length=cs.length * a.1.toNat:=by
 unfold wideL
 induction cs with
 | nil=>simp
 | cons c r ih=>rw [List.flatMap_cons,List.length_append,ih,List.length_map,List.length_range,List.length_cons,Nat.add_mul];omega
theorem cellsL_snoc (first:Int) (axs:List (Int × Int)) (a:Int × Int):cellsL first (axs++[a])=wideL (cellsL first axs) a:=by
 unfold cellsL;rw [List.foldl_append];rfl
theorem foldW_len:∀ (axs:List (Int × Int)) (cs:List Int),(∀ a∈axs,(1:Int)<=a.1)->((axs.foldl wideL cs).length:Int)=cs.length * prodL (axs.map λ a=>a.1)
 | [],cs,_=>by simp [prodL]
 | a::r,cs,h=>by
  have ha:=h a List.mem_cons_self
  rw [List.foldl_cons,foldW_len r (wideL cs a) λ b hb=>h b (List.mem_cons_of_mem _ hb),wideL_len,Int.natCast_mul,Int.toNat_of_nonneg (by omega),Int.mul_assoc]
  rfl
theorem cellsL_len (first:Int) (axs:List (Int × Int)) (h:∀ a∈axs,(1:Int)<=a.1):((cellsL first axs).length:Int)=prodL (axs.map λ a=>a.1):=by
 unfold cellsL
 rw [foldW_len axs [first] h]
 simp
theorem foldW_mem:∀ (axs:List (Int × Int)) (cs:List Int) (M:Int),M∈axs.foldl wideL cs ↔ ∃ c∈cs,∃ xs,InR (axs.map λ a=>a.1) xs/\M=c+dotL xs (axs.map λ a=>a.2)
 | [],cs,M=>by
  refine ⟨λ h=>⟨M,h,[],trivial,by simp [dotL]⟩,λ ⟨c,hc,xs,hx,e⟩=>?_⟩
  match xs,hx with
  | [],_=>rw [e];simpa [dotL] using hc
 | a::r,cs,M=>by
  rw [List.foldl_cons,foldW_mem r (wideL cs a) M]
  have de:∀ (x:Int) (xs:List Int),dotL (x::xs) ((a::r).map λ a=>a.2)=x * a.2+dotL xs (r.map λ a=>a.2):=λ x xs=>by
   unfold dotL;rw [List.map_cons,List.zipWith_cons_cons,List.sum_cons]
  constructor
  ·rintro ⟨c,hc,xs,hx,e⟩
   unfold wideL at hc
   obtain ⟨c0,hc0,hc1⟩:=List.mem_flatMap.mp hc
   obtain ⟨n,hn,rfl⟩:=List.mem_map.mp hc1
   have hn':=List.mem_range.mp hn
   refine ⟨c0,hc0,(n:Int)::xs,⟨⟨by omega,?_⟩,hx⟩,by rw [de,e];omega⟩
   show (n:Int) < a.1
   omega
  ·rintro ⟨c,hc,xs,hx,e⟩
   match xs,hx with
   | x::xs,⟨⟨h0,h1⟩,hx⟩=>
    have h1':x < a.1:=h1
    refine ⟨c+x * a.2,?_,xs,hx,by rw [e,de];omega⟩
    unfold wideL
    refine List.mem_flatMap.mpr ⟨c,hc,List.mem_map.mpr ⟨x.toNat,List.mem_range.mpr (by omega),?_⟩⟩
    rw [Int.toNat_of_nonneg h0]
theorem cellsL_mem (first:Int) (axs:List (Int × Int)) (M:Int):M∈cellsL first axs ↔ ∃ xs,InR (axs.map λ a=>a.1) xs/\M=first+dotL xs (axs.map λ a=>a.2):=by
 unfold cellsL
 rw [foldW_mem]
 refine ⟨λ ⟨c,hc,xs,hx,e⟩=>⟨xs,hx,by rw [e,List.mem_singleton.mp hc]⟩,λ ⟨xs,hx,e⟩=>⟨first,List.mem_singleton.mpr rfl,xs,hx,e⟩⟩
end PH
namespace PH
end PH
namespace PH
open PySem L2
def top (i:Nat):Stmt:=PySem.Challenge.pw_pacehall_k86_done_and_back.main.body.getD i (.Pass ⟨0,0,0,0⟩)
abbrev s_TooMany___init__:Stmt:=inClass (top 9) 0
abbrev s_NoName___init__:Stmt:=inClass (top 10) 0
abbrev s_Known___init__:Stmt:=inClass (top 11) 0
abbrev s_is_whole:Stmt:=top 13
theorem c_is_whole:FnScope ["thing"] ["thing"] (defScope s_is_whole):=⟨rfl,rfl,rfl,by decide +kernel,rfl,by decide +kernel,by decide +kernel⟩
abbrev s_count_of:Stmt:=top 16
theorem c_count_of:FnScope ["sizes", "count", "size"] ["sizes"] (defScope s_count_of):=⟨rfl,rfl,rfl,by decide +kernel,rfl,by decide +kernel,by decide +kernel⟩
abbrev s_paces_of:Stmt:=top 17
theorem c_paces_of:FnScope ["sizes", "paces", "pace", "size"] ["sizes"] (defScope s_paces_of):=⟨rfl,rfl,rfl,by decide +kernel,rfl,by decide +kernel,by decide +kernel⟩
abbrev s_is_number_below:Stmt:=top 18
abbrev s_is_place:Stmt:=top 19
abbrev s_refuse_long:Stmt:=top 20
theorem c_refuse_long:FnScope ["count"] ["count"] (defScope s_refuse_long):=⟨rfl,rfl,rfl,by decide +kernel,rfl,by decide +kernel,by decide +kernel⟩
abbrev s_is_within:Stmt:=top 25
theorem c_is_within:FnScope ["thing", "low", "high"] ["thing", "low", "high"] (defScope s_is_within):=⟨rfl,rfl,rfl,by decide +kernel,rfl,by decide +kernel,by decide +kernel⟩
abbrev s_is_size:Stmt:=top 26
theorem c_is_size:FnScope ["thing"] ["thing"] (defScope s_is_size):=⟨rfl,rfl,rfl,by decide +kernel,rfl,by decide +kernel,by decide +kernel⟩
abbrev s_is_axis:Stmt:=top 27
theorem c_is_axis:FnScope ["thing"] ["thing"] (defScope s_is_axis):=⟨rfl,rfl,rfl,by decide +kernel,rfl,by decide +kernel,by decide +kernel⟩
abbrev s_are_axes:Stmt:=top 28
theorem c_are_axes:FnScope ["thing"] ["thing"] (defScope s_are_axes):=⟨rfl,rfl,rfl,by decide +kernel,rfl,by decide +kernel,by decide +kernel⟩
abbrev s_kept_axis:Stmt:=top 29
theorem c_kept_axis:FnScope ["axis"] ["axis"] (defScope s_kept_axis):=⟨rfl,rfl,rfl,by decide +kernel,rfl,by decide +kernel,by decide +kernel⟩
abbrev s_View___init__:Stmt:=inClass (top 30) 0
theorem c_View___init__:FnScope ["self", "room", "first", "axes"] ["self", "room", "first", "axes"] (defScope s_View___init__):=⟨rfl,rfl,rfl,by decide +kernel,rfl,by decide +kernel,by decide +kernel⟩
abbrev s_View_sizes:Stmt:=inClass (top 30) 1
theorem c_View_sizes:FnScope ["self"] ["self"] (defScope s_View_sizes):=⟨rfl,rfl,rfl,by decide +kernel,rfl,by decide +kernel,by decide +kernel⟩
abbrev s_View_paces:Stmt:=inClass (top 30) 2
abbrev s_View_count:Stmt:=inClass (top 30) 3
theorem c_View_count:FnScope ["self"] ["self"] (defScope s_View_count):=⟨rfl,rfl,rfl,by decide +kernel,rfl,by decide +kernel,by decide +kernel⟩
abbrev s_View_cell:Stmt:=inClass (top 30) 4
abbrev s_View_cells:Stmt:=inClass (top 30) 6
theorem c_View_cells:FnScope ["self", "found", "size", "pace"] ["self"] (defScope s_View_cells):=⟨rfl,rfl,rfl,by decide +kernel,rfl,by decide +kernel,by decide +kernel⟩
abbrev s_View_least:Stmt:=inClass (top 30) 7
theorem c_View_least:FnScope ["self"] ["self"] (defScope s_View_least):=⟨rfl,rfl,rfl,by decide +kernel,rfl,by decide +kernel,by decide +kernel⟩
abbrev s_View_greatest:Stmt:=inClass (top 30) 8
theorem c_View_greatest:FnScope ["self"] ["self"] (defScope s_View_greatest):=⟨rfl,rfl,rfl,by decide +kernel,rfl,by decide +kernel,by decide +kernel⟩
abbrev s_widened:Stmt:=top 31
theorem c_widened:FnScope ["cells", "size", "pace", "found", "cell"] ["cells", "size", "pace"] (defScope s_widened):=⟨rfl,rfl,rfl,by decide +kernel,rfl,by decide +kernel,by decide +kernel⟩
abbrev s_whole:Stmt:=top 33
theorem c_whole:FnScope ["sizes", "room", "cells"] ["sizes", "room"] (defScope s_whole):=⟨rfl,rfl,rfl,by decide +kernel,rfl,by decide +kernel,by decide +kernel⟩
abbrev s_refuse_rooms:Stmt:=top 34
theorem c_refuse_rooms:FnScope ["one", "other"] ["one", "other"] (defScope s_refuse_rooms):=⟨rfl,rfl,rfl,by decide +kernel,rfl,by decide +kernel,by decide +kernel⟩
abbrev s_refuse_count:Stmt:=top 36
theorem c_refuse_count:FnScope ["view", "many"] ["view", "many"] (defScope s_refuse_count):=⟨rfl,rfl,rfl,by decide +kernel,rfl,by decide +kernel,by decide +kernel⟩
abbrev s_Store___init__:Stmt:=inClass (top 37) 0
theorem c_Store___init__:FnScope ["self", "values"] ["self", "values"] (defScope s_Store___init__):=⟨rfl,rfl,rfl,by decide +kernel,rfl,by decide +kernel,by decide +kernel⟩
abbrev s_Store_all_values:Stmt:=inClass (top 37) 1
theorem c_Store_all_values:FnScope ["self"] ["self"] (defScope s_Store_all_values):=⟨rfl,rfl,rfl,by decide +kernel,rfl,by decide +kernel,by decide +kernel⟩
abbrev s_Store_refuse_room:Stmt:=inClass (top 37) 2
theorem c_Store_refuse_room:FnScope ["self", "view"] ["self", "view"] (defScope s_Store_refuse_room):=⟨rfl,rfl,rfl,by decide +kernel,rfl,by decide +kernel,by decide +kernel⟩
abbrev s_Store_read:Stmt:=inClass (top 37) 3
theorem c_Store_read:FnScope ["self", "view"] ["self", "view"] (defScope s_Store_read):=⟨rfl,rfl,rfl,by decide +kernel,rfl,by decide +kernel,by decide +kernel⟩
abbrev s_Store_put:Stmt:=inClass (top 37) 4
theorem c_Store_put:FnScope ["self", "view", "values", "cell", "value"] ["self", "view", "values"] (defScope s_Store_put):=⟨rfl,rfl,rfl,by decide +kernel,rfl,by decide +kernel,by decide +kernel⟩
abbrev s_Store_fill:Stmt:=inClass (top 37) 5
theorem c_Store_fill:FnScope ["self", "view", "value", "cell"] ["self", "view", "value"] (defScope s_Store_fill):=⟨rfl,rfl,rfl,by decide +kernel,rfl,by decide +kernel,by decide +kernel⟩
abbrev s_Store_copied:Stmt:=inClass (top 37) 6
theorem c_Store_copied:FnScope ["self", "to", "source"] ["self", "to", "source"] (defScope s_Store_copied):=⟨rfl,rfl,rfl,by decide +kernel,rfl,by decide +kernel,by decide +kernel⟩
abbrev s_is_name:Stmt:=top 41
theorem c_is_name:FnScope ["thing"] ["thing"] (defScope s_is_name):=⟨rfl,rfl,rfl,by decide +kernel,rfl,by decide +kernel,by decide +kernel⟩
abbrev s_Hall___init__:Stmt:=inClass (top 42) 0
theorem c_Hall___init__:FnScope ["self", "values"] ["self", "values"] (defScope s_Hall___init__):=⟨rfl,rfl,rfl,by decide +kernel,rfl,by decide +kernel,by decide +kernel⟩
abbrev s_Hall_refuse_new:Stmt:=inClass (top 42) 1
theorem c_Hall_refuse_new:FnScope ["self", "name"] ["self", "name"] (defScope s_Hall_refuse_new):=⟨rfl,rfl,rfl,by decide +kernel,rfl,by decide +kernel,by decide +kernel⟩
abbrev s_Hall_call:Stmt:=inClass (top 42) 2
theorem c_Hall_call:FnScope ["self", "name", "view"] ["self", "name", "view"] (defScope s_Hall_call):=⟨rfl,rfl,rfl,by decide +kernel,rfl,by decide +kernel,by decide +kernel⟩
abbrev s_Hall_view:Stmt:=inClass (top 42) 5
abbrev s_Hall_names:Stmt:=inClass (top 42) 7
theorem c_Hall_names:FnScope ["self"] ["self"] (defScope s_Hall_names):=⟨rfl,rfl,rfl,by decide +kernel,rfl,by decide +kernel,by decide +kernel⟩
abbrev s_Hall_all_values:Stmt:=inClass (top 42) 8
theorem c_Hall_all_values:FnScope ["self"] ["self"] (defScope s_Hall_all_values):=⟨rfl,rfl,rfl,by decide +kernel,rfl,by decide +kernel,by decide +kernel⟩
abbrev s_Hall_changed_since:Stmt:=inClass (top 42) 9
theorem c_Hall_changed_since:FnScope ["self", "before", "changed", "cell", "value"] ["self", "before"] (defScope s_Hall_changed_since):=⟨rfl,rfl,rfl,by decide +kernel,rfl,by decide +kernel,by decide +kernel⟩
abbrev s_Hall_do:Stmt:=inClass (top 42) 10
theorem c_Hall_do:FnScope ["self", "statement", "before"] ["self", "statement"] (defScope s_Hall_do):=⟨rfl,rfl,rfl,by decide +kernel,rfl,by decide +kernel,by decide +kernel⟩
abbrev s_Hall_back:Stmt:=inClass (top 42) 11
theorem c_Hall_back:FnScope ["self", "before"] ["self"] (defScope s_Hall_back):=⟨rfl,rfl,rfl,by decide +kernel,rfl,by decide +kernel,by decide +kernel⟩
abbrev s_refuse_two:Stmt:=top 44
theorem c_refuse_two:FnScope ["one", "other"] ["one", "other"] (defScope s_refuse_two):=⟨rfl,rfl,rfl,by decide +kernel,rfl,by decide +kernel,by decide +kernel⟩
abbrev s_Statement_run:Stmt:=inClass (top 45) 2
theorem c_Statement_run:FnScope ["self", "store"] ["self", "store"] (defScope s_Statement_run):=⟨rfl,rfl,rfl,by decide +kernel,rfl,by decide +kernel,by decide +kernel⟩
abbrev s_Fill___init__:Stmt:=inClass (top 46) 0
theorem c_Fill___init__:FnScope ["self", "to", "value"] ["self", "to", "value"] (defScope s_Fill___init__):=⟨rfl,rfl,rfl,by decide +kernel,rfl,by decide +kernel,by decide +kernel⟩
abbrev s_Fill_run:Stmt:=inClass (top 46) 2
theorem c_Fill_run:FnScope ["self", "store"] ["self", "store"] (defScope s_Fill_run):=⟨rfl,rfl,rfl,by decide +kernel,rfl,by decide +kernel,by decide +kernel⟩
abbrev s_Copy___init__:Stmt:=inClass (top 47) 0
theorem c_Copy___init__:FnScope ["self", "to", "source"] ["self", "to", "source"] (defScope s_Copy___init__):=⟨rfl,rfl,rfl,by decide +kernel,rfl,by decide +kernel,by decide +kernel⟩
abbrev s_Copy_run:Stmt:=inClass (top 47) 3
theorem c_Copy_run:FnScope ["self", "store"] ["self", "store"] (defScope s_Copy_run):=⟨rfl,rfl,rfl,by decide +kernel,rfl,by decide +kernel,by decide +kernel⟩
abbrev s_Swap___init__:Stmt:=inClass (top 48) 0
theorem c_Swap___init__:FnScope ["self", "one", "other"] ["self", "one", "other"] (defScope s_Swap___init__):=⟨rfl,rfl,rfl,by decide +kernel,rfl,by decide +kernel,by decide +kernel⟩
abbrev s_Swap_run:Stmt:=inClass (top 48) 3
theorem c_Swap_run:FnScope ["self", "store", "ours", "theirs"] ["self", "store"] (defScope s_Swap_run):=⟨rfl,rfl,rfl,by decide +kernel,rfl,by decide +kernel,by decide +kernel⟩
abbrev s_Raise___init__:Stmt:=inClass (top 49) 0
theorem c_Raise___init__:FnScope ["self", "to", "source"] ["self", "to", "source"] (defScope s_Raise___init__):=⟨rfl,rfl,rfl,by decide +kernel,rfl,by decide +kernel,by decide +kernel⟩
abbrev s_Raise_run:Stmt:=inClass (top 49) 3
theorem c_Raise_run:FnScope ["self", "store", "more"] ["self", "store"] (defScope s_Raise_run):=⟨rfl,rfl,rfl,by decide +kernel,rfl,by decide +kernel,by decide +kernel⟩
abbrev s__law_draw:Stmt:=top 51
theorem c__law_draw:FnScope ["_law_script", "_law_k", "_law_many", "_law_number"] ["_law_script", "_law_k", "_law_many"] (defScope s__law_draw):=⟨rfl,rfl,rfl,by decide +kernel,rfl,by decide +kernel,by decide +kernel⟩
abbrev s__law_like:Stmt:=top 52
theorem c__law_like:FnScope ["_law_cell", "_law_room", "_law_sizes", "_law_axes", "_law_low", "_law_high", "_law_size", "_law_pace"] ["_law_cell", "_law_room", "_law_sizes"] (defScope s__law_like):=⟨rfl,rfl,rfl,by decide +kernel,rfl,by decide +kernel,by decide +kernel⟩
abbrev s__law_parts:Stmt:=top 53
theorem c__law_parts:FnScope ["_law_cell", "_law_room", "_law_sizes", "_law_k"] ["_law_cell", "_law_room"] (defScope s__law_parts):=⟨rfl,rfl,rfl,by decide +kernel,rfl,by decide +kernel,by decide +kernel⟩
abbrev s__law_cells:Stmt:=top 54
theorem c__law_cells:FnScope ["_law_parts_here", "_law_found", "_law_size", "_law_pace", "_law_longer", "_law_cell", "_law_number"] ["_law_parts_here"] (defScope s__law_cells):=⟨rfl,rfl,rfl,by decide +kernel,rfl,by decide +kernel,by decide +kernel⟩
abbrev s__law_view:Stmt:=top 55
theorem c__law_view:FnScope ["_law_parts_here"] ["_law_parts_here"] (defScope s__law_view):=⟨rfl,rfl,rfl,by decide +kernel,rfl,by decide +kernel,by decide +kernel⟩
abbrev s__law_drawn:Stmt:=top 56
theorem c__law_drawn:FnScope ["_law_cell", "_law_room", "_law_word", "_law_one", "_law_other", "_law_value"] ["_law_cell", "_law_room"] (defScope s__law_drawn):=⟨rfl,rfl,rfl,by decide +kernel,rfl,by decide +kernel,by decide +kernel⟩
abbrev s__law_statement:Stmt:=top 57
theorem c__law_statement:FnScope ["_law_deed", "_law_word", "_law_one", "_law_other", "_law_value"] ["_law_deed"] (defScope s__law_statement):=⟨rfl,rfl,rfl,by decide +kernel,rfl,by decide +kernel,by decide +kernel⟩
abbrev s__law_read:Stmt:=top 58
theorem c__law_read:FnScope ["_law_values", "_law_parts_here"] ["_law_values", "_law_parts_here"] (defScope s__law_read):=⟨rfl,rfl,rfl,by decide +kernel,rfl,by decide +kernel,by decide +kernel⟩
abbrev s__law_put:Stmt:=top 59
theorem c__law_put:FnScope ["_law_values", "_law_parts_here", "_law_some", "_law_cell", "_law_value"] ["_law_values", "_law_parts_here", "_law_some"] (defScope s__law_put):=⟨rfl,rfl,rfl,by decide +kernel,rfl,by decide +kernel,by decide +kernel⟩
abbrev s__law_done:Stmt:=top 60
theorem c__law_done:FnScope ["_law_values", "_law_deed", "_law_word", "_law_one", "_law_other", "_law_value", "_law_found", "_law_here", "_law_there"] ["_law_values", "_law_deed"] (defScope s__law_done):=⟨rfl,rfl,rfl,by decide +kernel,rfl,by decide +kernel,by decide +kernel⟩
abbrev s__law_others:Stmt:=top 61
theorem c__law_others:FnScope ["_law_names", "_law_before", "_law_behind"] ["_law_names", "_law_before", "_law_behind"] (defScope s__law_others):=⟨rfl,rfl,rfl,by decide +kernel,rfl,by decide +kernel,by decide +kernel⟩
abbrev s__law_told:Stmt:=top 62
theorem c__law_told:FnScope ["_law_hall", "_law_statement_here", "_law_found", "e"] ["_law_hall", "_law_statement_here"] (defScope s__law_told):=⟨rfl,rfl,rfl,by decide +kernel,rfl,by decide +kernel,by decide +kernel⟩
abbrev s__law_right:Stmt:=top 63
theorem c__law_right:FnScope ["_law_found", "_law_due"] ["_law_found", "_law_due"] (defScope s__law_right):=⟨rfl,rfl,rfl,by decide +kernel,rfl,by decide +kernel,by decide +kernel⟩
abbrev s_law:Stmt:=top 64
theorem c_law:FnScope ["_law_script", "_law_room", "_law_most", "_law_values", "_law_hall", "_law_names", "_law_k", "_law_rows", "_law_cell", "_law_before", "_law_due", "_law_deed"] ["_law_script"] (defScope s_law):=⟨rfl,rfl,rfl,by decide +kernel,rfl,by decide +kernel,by decide +kernel⟩
set_option genInjectivity false in
structure Adr where
 a_PaceError:Addr
 a_NoPlace:Addr
 a_NoCells:Addr
 a_NoView:Addr
 a_NoCount:Addr
 a_NoPair:Addr
 a_NoDeed:Addr
 a_TooMany:Addr
 a_NoName:Addr
 a_Known:Addr
 a_View:Addr
 a_Store:Addr
 a_Hall:Addr
 a_Statement:Addr
 a_Fill:Addr
 a_Copy:Addr
 a_Swap:Addr
 a_Raise:Addr
 a_TooMany___init__:Addr
 d_TooMany___init__:FuncData
 a_NoName___init__:Addr
 d_NoName___init__:FuncData
 a_Known___init__:Addr
 d_Known___init__:FuncData
 a_is_whole:Addr
 d_is_whole:FuncData
 a_count_of:Addr
 d_count_of:FuncData
 a_paces_of:Addr
 d_paces_of:FuncData
 a_is_number_below:Addr
 d_is_number_below:FuncData
 a_is_place:Addr
 d_is_place:FuncData
 a_refuse_long:Addr
 d_refuse_long:FuncData
 a_is_within:Addr
 d_is_within:FuncData
 a_is_size:Addr
 d_is_size:FuncData
 a_is_axis:Addr
 d_is_axis:FuncData
 a_are_axes:Addr
 d_are_axes:FuncData
 a_kept_axis:Addr
 d_kept_axis:FuncData
 a_View___init__:Addr
 d_View___init__:FuncData
 a_View_sizes:Addr
 d_View_sizes:FuncData
 a_View_paces:Addr
 d_View_paces:FuncData
 a_View_count:Addr
 d_View_count:FuncData
 a_View_cell:Addr
 d_View_cell:FuncData
 a_View_cells:Addr
 d_View_cells:FuncData
 a_View_least:Addr
 d_View_least:FuncData
 a_View_greatest:Addr
 d_View_greatest:FuncData
 a_widened:Addr
 d_widened:FuncData
 a_whole:Addr
 d_whole:FuncData
 a_refuse_rooms:Addr
 d_refuse_rooms:FuncData
 a_refuse_count:Addr
 d_refuse_count:FuncData
 a_Store___init__:Addr
 d_Store___init__:FuncData
 a_Store_all_values:Addr
 d_Store_all_values:FuncData
 a_Store_refuse_room:Addr
 d_Store_refuse_room:FuncData
 a_Store_read:Addr
 d_Store_read:FuncData
 a_Store_put:Addr
 d_Store_put:FuncData
 a_Store_fill:Addr
 d_Store_fill:FuncData
 a_Store_copied:Addr
 d_Store_copied:FuncData
 a_is_name:Addr
 d_is_name:FuncData
 a_Hall___init__:Addr
 d_Hall___init__:FuncData
 a_Hall_refuse_new:Addr
 d_Hall_refuse_new:FuncData
 a_Hall_call:Addr
 d_Hall_call:FuncData
 a_Hall_view:Addr
 d_Hall_view:FuncData
 a_Hall_names:Addr
 d_Hall_names:FuncData
 a_Hall_all_values:Addr
 d_Hall_all_values:FuncData
 a_Hall_changed_since:Addr
 d_Hall_changed_since:FuncData
 a_Hall_do:Addr
 d_Hall_do:FuncData
 a_Hall_back:Addr
 d_Hall_back:FuncData
 a_refuse_two:Addr
 d_refuse_two:FuncData
 a_Statement_run:Addr
 d_Statement_run:FuncData
 a_Fill___init__:Addr
 d_Fill___init__:FuncData
 a_Fill_run:Addr
 d_Fill_run:FuncData
 a_Copy___init__:Addr
 d_Copy___init__:FuncData
 a_Copy_run:Addr
 d_Copy_run:FuncData
 a_Swap___init__:Addr
 d_Swap___init__:FuncData
 a_Swap_run:Addr
 d_Swap_run:FuncData
 a_Raise___init__:Addr
 d_Raise___init__:FuncData
 a_Raise_run:Addr
 d_Raise_run:FuncData
 a__law_draw:Addr
 d__law_draw:FuncData
 a__law_like:Addr
 d__law_like:FuncData
 a__law_parts:Addr
 d__law_parts:FuncData
 a__law_cells:Addr
 d__law_cells:FuncData
 a__law_view:Addr
 d__law_view:FuncData
 a__law_drawn:Addr
 d__law_drawn:FuncData
 a__law_statement:Addr
 d__law_statement:FuncData
 a__law_read:Addr
 d__law_read:FuncData
 a__law_put:Addr
 d__law_put:FuncData
 a__law_done:Addr
 d__law_done:FuncData
 a__law_others:Addr
 d__law_others:FuncData
 a__law_told:Addr
 d__law_told:FuncData
 a__law_right:Addr
 d__law_right:FuncData
 a_law:Addr
 d_law:FuncData
structure Tx (K:W.Frag) (mg:Str->Option Value) (t:Adr):Prop where
 m_PaceError:mg "PaceError"=some (.ref t.a_PaceError)
 m_NoPlace:mg "NoPlace"=some (.ref t.a_NoPlace)
 m_NoCells:mg "NoCells"=some (.ref t.a_NoCells)
 m_NoView:mg "NoView"=some (.ref t.a_NoView)
 m_NoCount:mg "NoCount"=some (.ref t.a_NoCount)
 m_NoPair:mg "NoPair"=some (.ref t.a_NoPair)
 m_NoDeed:mg "NoDeed"=some (.ref t.a_NoDeed)
 m_TooMany:mg "TooMany"=some (.ref t.a_TooMany)
 m_NoName:mg "NoName"=some (.ref t.a_NoName)
 m_Known:mg "Known"=some (.ref t.a_Known)
 m_View:mg "View"=some (.ref t.a_View)
 m_Store:mg "Store"=some (.ref t.a_Store)
 m_Hall:mg "Hall"=some (.ref t.a_Hall)
 m_Statement:mg "Statement"=some (.ref t.a_Statement)
 m_Fill:mg "Fill"=some (.ref t.a_Fill)
 m_Copy:mg "Copy"=some (.ref t.a_Copy)
 m_Swap:mg "Swap"=some (.ref t.a_Swap)
 m_Raise:mg "Raise"=some (.ref t.a_Raise)
 o_NoDeed:W.excIn K t.a_NoDeed [.type "ValueError",.type "Exception",.type "BaseException",.type "object"] "ValueError.__new__"=true
 x_NoDeed_NoDeed:W.exmOne K (.ref t.a_NoDeed) (.ref t.a_NoDeed)=some true
 ocs:W.specialIn K (.builtin "object.__class__") "__get__"=some (some (.builtin "getset_descriptor.__get__"))
 oct:W.takesIn K (.builtin "object.__class__")=some true
 ga_NoDeed:W.findIn K (.ref t.a_NoDeed) "__getattribute__"=some (some (.builtin "BaseException.__getattribute__"))
 gn_NoDeed:W.findIn K (.ref t.a_NoDeed) "__getattr__"=some none
 mb_NoDeed:W.mroIn K t.a_NoDeed (.type "BaseException")=some true
 mo_NoDeed:W.mroIn K t.a_NoDeed (.type "object")=some true
 fc_NoDeed:W.findIn K (.ref t.a_NoDeed) "__class__"=some (some (.builtin "object.__class__"))
 hd_NoDeed:W.hasDictIn K t.a_NoDeed=true
 kc_NoDeed_PaceError:W.hasDictIn K t.a_PaceError=true
 kt_NoDeed_PaceError:W.typeIn K (.ref t.a_PaceError)=some (.type "type")
 ks_NoDeed_PaceError:W.subIn K (.ref t.a_NoDeed) (.ref t.a_PaceError)=some true
 ks_NoDeed_ValueError:W.subIn K (.ref t.a_NoDeed) (.type "ValueError")=some true
 m_MOST_TOLD:∃ tk,mg "MOST_TOLD"=some (.int 4096 tk)
 m_MOST_ROOM:∃ tk,mg "MOST_ROOM"=some (.int 1000000000000000000 tk)
 m_MOST_SIZE:∃ tk,mg "MOST_SIZE"=some (.int 1000000000 tk)
 m_MOST_AXES:∃ tk,mg "MOST_AXES"=some (.int 8 tk)
 m_LETTERS:∃ tk,mg "LETTERS"=some (.str "abcdefghijklmnopqrstuvwxyz" tk)
 m_MOST_LETTERS:∃ tk,mg "MOST_LETTERS"=some (.int 8 tk)
 oi_TooMany:OwnI K t.a_TooMany t.a_TooMany___init__
 tk_TooMany_number:W.takerIn K t.a_TooMany "number"=some none
 na_TooMany_number:NoAttr K t.a_TooMany "number"
 bi_PaceError:BaseI K t.a_PaceError
 oi_NoName:OwnI K t.a_NoName t.a_NoName___init__
 tk_NoName_name:W.takerIn K t.a_NoName "name"=some none
 na_NoName_name:NoAttr K t.a_NoName "name"
 oi_Known:OwnI K t.a_Known t.a_Known___init__
 tk_Known_name:W.takerIn K t.a_Known "name"=some none
 na_Known_name:NoAttr K t.a_Known "name"
 cl_View:Cls K t.a_View
 na_View_axes:NoAttr K t.a_View "axes"
 na_View_first:NoAttr K t.a_View "first"
 na_View_room:NoAttr K t.a_View "room"
 mk_View:Mk K t.a_View t.a_View___init__
 mt_View_sizes:Meth K t.a_View "sizes" t.a_View_sizes
 mt_View_paces:Meth K t.a_View "paces" t.a_View_paces
 mt_View_count:Meth K t.a_View "count" t.a_View_count
 mt_View_cell:Meth K t.a_View "cell" t.a_View_cell
 mt_View_cells:Meth K t.a_View "cells" t.a_View_cells
 mt_View_least:Meth K t.a_View "least" t.a_View_least
 mt_View_greatest:Meth K t.a_View "greatest" t.a_View_greatest
 cl_Store:Cls K t.a_Store
 na_Store_floor:NoAttr K t.a_Store "floor"
 mk_Store:Mk K t.a_Store t.a_Store___init__
 mt_Store_all_values:Meth K t.a_Store "all_values" t.a_Store_all_values
 mt_Store_refuse_room:Meth K t.a_Store "refuse_room" t.a_Store_refuse_room
 mt_Store_read:Meth K t.a_Store "read" t.a_Store_read
 mt_Store_put:Meth K t.a_Store "put" t.a_Store_put
 mt_Store_fill:Meth K t.a_Store "fill" t.a_Store_fill
 mt_Store_copied:Meth K t.a_Store "copied" t.a_Store_copied
 cl_Hall:Cls K t.a_Hall
 na_Hall_past:NoAttr K t.a_Hall "past"
 na_Hall_store:NoAttr K t.a_Hall "store"
 na_Hall_views:NoAttr K t.a_Hall "views"
 mk_Hall:Mk K t.a_Hall t.a_Hall___init__
 mt_Hall_refuse_new:Meth K t.a_Hall "refuse_new" t.a_Hall_refuse_new
 mt_Hall_call:Meth K t.a_Hall "call" t.a_Hall_call
 mt_Hall_view:Meth K t.a_Hall "view" t.a_Hall_view
 mt_Hall_names:Meth K t.a_Hall "names" t.a_Hall_names
 mt_Hall_all_values:Meth K t.a_Hall "all_values" t.a_Hall_all_values
 mt_Hall_changed_since:Meth K t.a_Hall "changed_since" t.a_Hall_changed_since
 mt_Hall_do:Meth K t.a_Hall "do" t.a_Hall_do
 mt_Hall_back:Meth K t.a_Hall "back" t.a_Hall_back
 cl_Statement:Cls K t.a_Statement
 mk0_Statement:Mk0 K t.a_Statement
 mt_Statement_run:Meth K t.a_Statement "run" t.a_Statement_run
 cl_Fill:Cls K t.a_Fill
 na_Fill_to:NoAttr K t.a_Fill "to"
 na_Fill_value:NoAttr K t.a_Fill "value"
 mt_Fill_run:Meth K t.a_Fill "run" t.a_Fill_run
 mk_Fill:Mk K t.a_Fill t.a_Fill___init__
 cl_Copy:Cls K t.a_Copy
 na_Copy_source:NoAttr K t.a_Copy "source"
 na_Copy_to:NoAttr K t.a_Copy "to"
 mt_Copy_run:Meth K t.a_Copy "run" t.a_Copy_run
 mk_Copy:Mk K t.a_Copy t.a_Copy___init__
 cl_Swap:Cls K t.a_Swap
 na_Swap_one:NoAttr K t.a_Swap "one"
 na_Swap_other:NoAttr K t.a_Swap "other"
 mt_Swap_run:Meth K t.a_Swap "run" t.a_Swap_run
 mk_Swap:Mk K t.a_Swap t.a_Swap___init__
 cl_Raise:Cls K t.a_Raise
 na_Raise_source:NoAttr K t.a_Raise "source"
 na_Raise_to:NoAttr K t.a_Raise "to"
 mt_Raise_run:Meth K t.a_Raise "run" t.a_Raise_run
 mk_Raise:Mk K t.a_Raise t.a_Raise___init__
 F_TooMany___init__:Fun K "__init__" "TooMany.__init__" s_TooMany___init__ t.a_TooMany___init__ t.d_TooMany___init__
 b_TooMany___init__:Binds K t.d_TooMany___init__ ["self", "number"] []
 F_NoName___init__:Fun K "__init__" "NoName.__init__" s_NoName___init__ t.a_NoName___init__ t.d_NoName___init__
 b_NoName___init__:Binds K t.d_NoName___init__ ["self", "name"] []
 F_Known___init__:Fun K "__init__" "Known.__init__" s_Known___init__ t.a_Known___init__ t.d_Known___init__
 b_Known___init__:Binds K t.d_Known___init__ ["self", "name"] []
 F_is_whole:Fun K "is_whole" "is_whole" s_is_whole t.a_is_whole t.d_is_whole
 m_is_whole:mg "is_whole"=some (.ref t.a_is_whole)
 b_is_whole:Binds K t.d_is_whole ["thing"] []
 F_count_of:Fun K "count_of" "count_of" s_count_of t.a_count_of t.d_count_of
 m_count_of:mg "count_of"=some (.ref t.a_count_of)
 b_count_of:Binds K t.d_count_of ["sizes"] []
 F_paces_of:Fun K "paces_of" "paces_of" s_paces_of t.a_paces_of t.d_paces_of
 m_paces_of:mg "paces_of"=some (.ref t.a_paces_of)
 b_paces_of:Binds K t.d_paces_of ["sizes"] []
 F_is_number_below:Fun K "is_number_below" "is_number_below" s_is_number_below t.a_is_number_below t.d_is_number_below
 m_is_number_below:mg "is_number_below"=some (.ref t.a_is_number_below)
 b_is_number_below:Binds K t.d_is_number_below ["thing", "bound"] []
 F_is_place:Fun K "is_place" "is_place" s_is_place t.a_is_place t.d_is_place
 m_is_place:mg "is_place"=some (.ref t.a_is_place)
 b_is_place:Binds K t.d_is_place ["sizes", "thing"] []
 F_refuse_long:Fun K "refuse_long" "refuse_long" s_refuse_long t.a_refuse_long t.d_refuse_long
 m_refuse_long:mg "refuse_long"=some (.ref t.a_refuse_long)
 b_refuse_long:Binds K t.d_refuse_long ["count"] []
 F_is_within:Fun K "is_within" "is_within" s_is_within t.a_is_within t.d_is_within
 m_is_within:mg "is_within"=some (.ref t.a_is_within)
 b_is_within:Binds K t.d_is_within ["thing", "low", "high"] []
 F_is_size:Fun K "is_size" "is_size" s_is_size t.a_is_size t.d_is_size
 m_is_size:mg "is_size"=some (.ref t.a_is_size)
 b_is_size:Binds K t.d_is_size ["thing"] []
 F_is_axis:Fun K "is_axis" "is_axis" s_is_axis t.a_is_axis t.d_is_axis
 m_is_axis:mg "is_axis"=some (.ref t.a_is_axis)
 b_is_axis:Binds K t.d_is_axis ["thing"] []
 F_are_axes:Fun K "are_axes" "are_axes" s_are_axes t.a_are_axes t.d_are_axes
 m_are_axes:mg "are_axes"=some (.ref t.a_are_axes)
 b_are_axes:Binds K t.d_are_axes ["thing"] []
 F_kept_axis:Fun K "kept_axis" "kept_axis" s_kept_axis t.a_kept_axis t.d_kept_axis
 m_kept_axis:mg "kept_axis"=some (.ref t.a_kept_axis)
 b_kept_axis:Binds K t.d_kept_axis ["axis"] []
 F_View___init__:Fun K "__init__" "View.__init__" s_View___init__ t.a_View___init__ t.d_View___init__
 b_View___init__:Binds K t.d_View___init__ ["self", "room", "first", "axes"] []
 F_View_sizes:Fun K "sizes" "View.sizes" s_View_sizes t.a_View_sizes t.d_View_sizes
 b_View_sizes:Binds K t.d_View_sizes ["self"] []
 F_View_paces:Fun K "paces" "View.paces" s_View_paces t.a_View_paces t.d_View_paces
 b_View_paces:Binds K t.d_View_paces ["self"] []
 F_View_count:Fun K "count" "View.count" s_View_count t.a_View_count t.d_View_count
 b_View_count:Binds K t.d_View_count ["self"] []
 F_View_cell:Fun K "cell" "View.cell" s_View_cell t.a_View_cell t.d_View_cell
 b_View_cell:Binds K t.d_View_cell ["self", "place"] []
 F_View_cells:Fun K "cells" "View.cells" s_View_cells t.a_View_cells t.d_View_cells
 b_View_cells:Binds K t.d_View_cells ["self"] []
 F_View_least:Fun K "least" "View.least" s_View_least t.a_View_least t.d_View_least
 b_View_least:Binds K t.d_View_least ["self"] []
 F_View_greatest:Fun K "greatest" "View.greatest" s_View_greatest t.a_View_greatest t.d_View_greatest
 b_View_greatest:Binds K t.d_View_greatest ["self"] []
 F_widened:Fun K "widened" "widened" s_widened t.a_widened t.d_widened
 m_widened:mg "widened"=some (.ref t.a_widened)
 b_widened:Binds K t.d_widened ["cells", "size", "pace"] []
 F_whole:FunX K "whole" "whole" s_whole t.a_whole t.d_whole
 m_whole:mg "whole"=some (.ref t.a_whole)
 b_whole:Binds K t.d_whole ["sizes", "room"] []
 b_whole_1:Binds K t.d_whole ["sizes", "room"] [Value.none]
 F_refuse_rooms:Fun K "refuse_rooms" "refuse_rooms" s_refuse_rooms t.a_refuse_rooms t.d_refuse_rooms
 m_refuse_rooms:mg "refuse_rooms"=some (.ref t.a_refuse_rooms)
 b_refuse_rooms:Binds K t.d_refuse_rooms ["one", "other"] []
 F_refuse_count:Fun K "refuse_count" "refuse_count" s_refuse_count t.a_refuse_count t.d_refuse_count
 m_refuse_count:mg "refuse_count"=some (.ref t.a_refuse_count)
 b_refuse_count:Binds K t.d_refuse_count ["view", "many"] []
 F_Store___init__:Fun K "__init__" "Store.__init__" s_Store___init__ t.a_Store___init__ t.d_Store___init__
 b_Store___init__:Binds K t.d_Store___init__ ["self", "values"] []
 F_Store_all_values:Fun K "all_values" "Store.all_values" s_Store_all_values t.a_Store_all_values t.d_Store_all_values
 b_Store_all_values:Binds K t.d_Store_all_values ["self"] []
 F_Store_refuse_room:Fun K "refuse_room" "Store.refuse_room" s_Store_refuse_room t.a_Store_refuse_room t.d_Store_refuse_room
 b_Store_refuse_room:Binds K t.d_Store_refuse_room ["self", "view"] []
 F_Store_read:Fun K "read" "Store.read" s_Store_read t.a_Store_read t.d_Store_read
 b_Store_read:Binds K t.d_Store_read ["self", "view"] []
 F_Store_put:Fun K "put" "Store.put" s_Store_put t.a_Store_put t.d_Store_put
 b_Store_put:Binds K t.d_Store_put ["self", "view", "values"] []
 F_Store_fill:Fun K "fill" "Store.fill" s_Store_fill t.a_Store_fill t.d_Store_fill
 b_Store_fill:Binds K t.d_Store_fill ["self", "view", "value"] []
 F_Store_copied:Fun K "copied" "Store.copied" s_Store_copied t.a_Store_copied t.d_Store_copied
 b_Store_copied:Binds K t.d_Store_copied ["self", "to", "source"] []
 F_is_name:Fun K "is_name" "is_name" s_is_name t.a_is_name t.d_is_name
 m_is_name:mg "is_name"=some (.ref t.a_is_name)
 b_is_name:Binds K t.d_is_name ["thing"] []
 F_Hall___init__:Fun K "__init__" "Hall.__init__" s_Hall___init__ t.a_Hall___init__ t.d_Hall___init__
 b_Hall___init__:Binds K t.d_Hall___init__ ["self", "values"] []
 F_Hall_refuse_new:Fun K "refuse_new" "Hall.refuse_new" s_Hall_refuse_new t.a_Hall_refuse_new t.d_Hall_refuse_new
 b_Hall_refuse_new:Binds K t.d_Hall_refuse_new ["self", "name"] []
 F_Hall_call:Fun K "call" "Hall.call" s_Hall_call t.a_Hall_call t.d_Hall_call
 b_Hall_call:Binds K t.d_Hall_call ["self", "name", "view"] []
 F_Hall_view:Fun K "view" "Hall.view" s_Hall_view t.a_Hall_view t.d_Hall_view
 b_Hall_view:Binds K t.d_Hall_view ["self", "name"] []
 F_Hall_names:Fun K "names" "Hall.names" s_Hall_names t.a_Hall_names t.d_Hall_names
 b_Hall_names:Binds K t.d_Hall_names ["self"] []
 F_Hall_all_values:Fun K "all_values" "Hall.all_values" s_Hall_all_values t.a_Hall_all_values t.d_Hall_all_values
 b_Hall_all_values:Binds K t.d_Hall_all_values ["self"] []
 F_Hall_changed_since:Fun K "changed_since" "Hall.changed_since" s_Hall_changed_since t.a_Hall_changed_since t.d_Hall_changed_since
 b_Hall_changed_since:Binds K t.d_Hall_changed_since ["self", "before"] []
 F_Hall_do:Fun K "do" "Hall.do" s_Hall_do t.a_Hall_do t.d_Hall_do
 b_Hall_do:Binds K t.d_Hall_do ["self", "statement"] []
 F_Hall_back:Fun K "back" "Hall.back" s_Hall_back t.a_Hall_back t.d_Hall_back
 b_Hall_back:Binds K t.d_Hall_back ["self"] []
 F_refuse_two:Fun K "refuse_two" "refuse_two" s_refuse_two t.a_refuse_two t.d_refuse_two
 m_refuse_two:mg "refuse_two"=some (.ref t.a_refuse_two)
 b_refuse_two:Binds K t.d_refuse_two ["one", "other"] []
 F_Statement_run:Fun K "run" "Statement.run" s_Statement_run t.a_Statement_run t.d_Statement_run
 b_Statement_run:Binds K t.d_Statement_run ["self", "store"] []
 F_Fill___init__:Fun K "__init__" "Fill.__init__" s_Fill___init__ t.a_Fill___init__ t.d_Fill___init__
 b_Fill___init__:Binds K t.d_Fill___init__ ["self", "to", "value"] []
 F_Fill_run:Fun K "run" "Fill.run" s_Fill_run t.a_Fill_run t.d_Fill_run
 b_Fill_run:Binds K t.d_Fill_run ["self", "store"] []
 F_Copy___init__:Fun K "__init__" "Copy.__init__" s_Copy___init__ t.a_Copy___init__ t.d_Copy___init__
 b_Copy___init__:Binds K t.d_Copy___init__ ["self", "to", "source"] []
 F_Copy_run:Fun K "run" "Copy.run" s_Copy_run t.a_Copy_run t.d_Copy_run
 b_Copy_run:Binds K t.d_Copy_run ["self", "store"] []
 F_Swap___init__:Fun K "__init__" "Swap.__init__" s_Swap___init__ t.a_Swap___init__ t.d_Swap___init__
 b_Swap___init__:Binds K t.d_Swap___init__ ["self", "one", "other"] []
 F_Swap_run:Fun K "run" "Swap.run" s_Swap_run t.a_Swap_run t.d_Swap_run
 b_Swap_run:Binds K t.d_Swap_run ["self", "store"] []
 F_Raise___init__:Fun K "__init__" "Raise.__init__" s_Raise___init__ t.a_Raise___init__ t.d_Raise___init__
 b_Raise___init__:Binds K t.d_Raise___init__ ["self", "to", "source"] []
 F_Raise_run:Fun K "run" "Raise.run" s_Raise_run t.a_Raise_run t.d_Raise_run
 b_Raise_run:Binds K t.d_Raise_run ["self", "store"] []
 F__law_draw:Fun K "_law_draw" "_law_draw" s__law_draw t.a__law_draw t.d__law_draw
 m__law_draw:mg "_law_draw"=some (.ref t.a__law_draw)
 b__law_draw:Binds K t.d__law_draw ["_law_script", "_law_k", "_law_many"] []
 F__law_like:Fun K "_law_like" "_law_like" s__law_like t.a__law_like t.d__law_like
 m__law_like:mg "_law_like"=some (.ref t.a__law_like)
 b__law_like:Binds K t.d__law_like ["_law_cell", "_law_room", "_law_sizes"] []
 F__law_parts:Fun K "_law_parts" "_law_parts" s__law_parts t.a__law_parts t.d__law_parts
 m__law_parts:mg "_law_parts"=some (.ref t.a__law_parts)
 b__law_parts:Binds K t.d__law_parts ["_law_cell", "_law_room"] []
 F__law_cells:Fun K "_law_cells" "_law_cells" s__law_cells t.a__law_cells t.d__law_cells
 m__law_cells:mg "_law_cells"=some (.ref t.a__law_cells)
 b__law_cells:Binds K t.d__law_cells ["_law_parts_here"] []
 F__law_view:Fun K "_law_view" "_law_view" s__law_view t.a__law_view t.d__law_view
 m__law_view:mg "_law_view"=some (.ref t.a__law_view)
 b__law_view:Binds K t.d__law_view ["_law_parts_here"] []
 F__law_drawn:Fun K "_law_drawn" "_law_drawn" s__law_drawn t.a__law_drawn t.d__law_drawn
 m__law_drawn:mg "_law_drawn"=some (.ref t.a__law_drawn)
 b__law_drawn:Binds K t.d__law_drawn ["_law_cell", "_law_room"] []
 F__law_statement:Fun K "_law_statement" "_law_statement" s__law_statement t.a__law_statement t.d__law_statement
 m__law_statement:mg "_law_statement"=some (.ref t.a__law_statement)
 b__law_statement:Binds K t.d__law_statement ["_law_deed"] []
 F__law_read:Fun K "_law_read" "_law_read" s__law_read t.a__law_read t.d__law_read
 m__law_read:mg "_law_read"=some (.ref t.a__law_read)
 b__law_read:Binds K t.d__law_read ["_law_values", "_law_parts_here"] []
 F__law_put:Fun K "_law_put" "_law_put" s__law_put t.a__law_put t.d__law_put
 m__law_put:mg "_law_put"=some (.ref t.a__law_put)
 b__law_put:Binds K t.d__law_put ["_law_values", "_law_parts_here", "_law_some"] []
 F__law_done:Fun K "_law_done" "_law_done" s__law_done t.a__law_done t.d__law_done
 m__law_done:mg "_law_done"=some (.ref t.a__law_done)
 b__law_done:Binds K t.d__law_done ["_law_values", "_law_deed"] []
 F__law_others:Fun K "_law_others" "_law_others" s__law_others t.a__law_others t.d__law_others
 m__law_others:mg "_law_others"=some (.ref t.a__law_others)
 b__law_others:Binds K t.d__law_others ["_law_names", "_law_before", "_law_behind"] []
 F__law_told:Fun K "_law_told" "_law_told" s__law_told t.a__law_told t.d__law_told
 m__law_told:mg "_law_told"=some (.ref t.a__law_told)
 b__law_told:Binds K t.d__law_told ["_law_hall", "_law_statement_here"] []
 F__law_right:Fun K "_law_right" "_law_right" s__law_right t.a__law_right t.d__law_right
 m__law_right:mg "_law_right"=some (.ref t.a__law_right)
 b__law_right:Binds K t.d__law_right ["_law_found", "_law_due"] []
 F_law:Fun K "law" "law" s_law t.a_law t.d_law
 m_law:mg "law"=some (.ref t.a_law)
 b_law:Binds K t.d_law ["_law_script"] []
 z_ValueError:mg "ValueError"=none
 z_abs:mg "abs"=none
 z_all:mg "all"=none
 z_any:mg "any"=none
 z_bool:mg "bool"=none
 z_enumerate:mg "enumerate"=none
 z_int:mg "int"=none
 z_isinstance:mg "isinstance"=none
 z_len:mg "len"=none
 z_list:mg "list"=none
 z_max:mg "max"=none
 z_min:mg "min"=none
 z_range:mg "range"=none
 z_reversed:mg "reversed"=none
 z_str:mg "str"=none
 z_sum:mg "sum"=none
 z_tuple:mg "tuple"=none
 z_zip:mg "zip"=none
theorem Tx.e_NoDeed {K:W.Frag}{mg:Str->Option Value}{t:Adr}(T:Tx K mg t):ECls K t.a_NoDeed:=⟨T.ga_NoDeed,T.gn_NoDeed,T.mb_NoDeed,T.mo_NoDeed,T.fc_NoDeed,T.ocs,T.oct,T.hd_NoDeed⟩
theorem Tx.k_NoDeed_PaceError {K:W.Frag}{mg:Str->Option Value}{t:Adr}(T:Tx K mg t):W.kitOne K (.ref t.a_NoDeed) (.ref t.a_PaceError)=some true:=kit_yes T.kc_NoDeed_PaceError T.kt_NoDeed_PaceError T.ks_NoDeed_PaceError
theorem Tx.k_NoDeed_ValueError {K:W.Frag}{mg:Str->Option Value}{t:Adr}(T:Tx K mg t):W.kitOne K (.ref t.a_NoDeed) (.type "ValueError")=some true:=kit_ty (by decide +kernel) T.ks_NoDeed_ValueError
local macro_rules | `(tactic| trivial) => `(tactic| first | exact Or.inl rfl | exact Or.inr rfl | exact Or.inr (Or.inl rfl) | exact Or.inr (Or.inr rfl) | assumption)
local macro_rules | `(tactic| simp! only [$xs,*]) => do
  let ys := xs.getElems.map λ x => (⟨x.raw⟩ : Lean.TSyntax `Lean.Parser.Tactic.simpLemma)
  let zs ← ("↓reduceIte ↓optK_some ↓gName_0 ↓gName_1 ↓gName_2 ↓gName_3 ↓gName_4 ↓gName_5 ↓gName_6 ↓gName_7 ↓gName_8 ↓gName_9 ↓gName_10 ↓gName_11 ↓m_kOp' ↓m_kOp ↓m_tOp ↓m_tC ↓m_kUn ↓m_tUn ↓m_rIsN_non ↓m_rIsN_ref ↓m_kNot ↓m_tNot ↓m_kOr ↓m_tOr ↓m_kIfE ↓m_tIf ↓m_kCh3 ↓m_tNil ↓m_kCons' ↓m_kCons ↓m_tCons ↓m_kCall_1 ↓m_kCall_2 ↓m_kCall_3 ↓m_tCall ↓m_kCB ↓m_tCB ↓m_tNext ↓m_tSeq ↓m_tRet ↓m_kDrop ↓m_tDrop ↓m_kIfS ↓m_tIfS ↓m_kAsg ↓m_tAsg ↓m_kGs ↓m_kLen ↓m_qLen ↓m_qLenS ↓m_kIx' ↓m_kIx ↓m_qIx ↓m_qAbs ↓m_qMax ↓m_qMin ↓m_qIsi_int ↓m_qIsi_bool ↓m_qIsi_tuple ↓m_qIsi_list ↓m_qIsi_str ↓m_kIsi_Ni ↓m_kIsi_bb ↓m_kIsi_bi ↓m_kIsi_ib ↓m_kIsi_ii ↓m_kIsi_si ↓m_kIsi_ss ↓m_kIsi_li ↓m_kIsi_ll ↓m_kIsi_ti ↓m_kIsi_tt ↓m_kIsi_di ↓m_kBM' ↓m_kBM ↓m_tBM ↓m_kBM0 ↓m_tBM0 ↓m_kApp ↓m_rAppend ↓m_kRev ↓m_rReverse ↓m_kSet' ↓m_kSet ↓m_rSetL ↓m_kGSub3 ↓m_kGSub2 ↓m_gSub ↓m_kGT ↓m_qGT ↓m_kBody ↓m_tFor ↓m_kR1 ↓m_iRng1 ↓m_kISq'_l ↓m_kISq ↓m_iSeq ↓m_kTry ↓m_tTry ↓m_kRaise ↓m_tRaise ↓m_kSetE ↓m_kExcAs ↓m_tExcAs ↓m_del ↓m_dictO_none ↓m_kE4 ↓m_kE3 ↓m_kE2 ↓m_kE1 ↓m_qIsE ↓m_tYes ↓m_tComp ↓m_kSetC ↓m_tSetC ↓m_datV ↓m_datF_bl ↓m_datF_str ↓m_datF_ref ↓m_datO_lst ↓m_datO_tup ↓m_allSome_nil ↓m_allSome_cons ↓m_kEq2_t ↓m_kEq2_f ↓m_kEq1 ↓m_qEq_refr ↓m_qEq_int_int ↓m_qNe_int_int ↓m_qEq_str_str ↓m_kInts ↓m_kInts_1 ↓m_kQT ↓m_kQL ↓m_qTup ↓m_qLst ↓m_kN ↓m_nList ↓m_nDNew ↓m_kRvJ ↓m_kRvI ↓m_iRev ↓m_kSumI ↓m_qSum ↓m_kBls ↓m_kAllB ↓m_qAll ↓m_kZ2_l ↓m_kZ1_l ↓m_kZ0 ↓m_iZip ↓m_kCm2 ↓m_kCm_1 ↓m_kCm_2 ↓m_rep_1 ↓m_rep_2 ↓m_kFldV ↓m_kFldO ↓m_kFld ↓m_nFld ↓m_kSetO ↓m_kSet1 ↓m_kSet0 ↓m_nSetF ↓m_kMethA_0 ↓m_kMethA_1 ↓m_kMethA_2 ↓m_kMethO ↓m_kMeth ↓m_nMeth ↓m_kMade ↓m_kMake_1 ↓m_kMake_2 ↓m_kMake_3 ↓m_nMake ↓m_kLZ2_l ↓m_kLZ1_l ↓m_kLZ0 ↓m_tLZ ↓m_qInt_b ↓m_kExt2 ↓m_kExt1 ↓m_rExtend ↓m_kEn1 ↓m_kEn0 ↓m_iEnum ↓m_nMethX ↓m_kRv0S ↓m_kRv0 ↓m_tRvS ↓m_kDG0 ↓m_tDGet ↓m_kDP1 ↓m_kDP0 ↓m_sDPut ↓m_tV_0 ↓m_tV_1 ↓m_tV_2 ↓m_tV_3 ↓m_tV_4 ↓m_tV_5 ↓m_tV_6 ↓m_tV_7 ↓m_tV_8 ↓m_tV_9 ↓m_tV_10 ↓m_tV_11 ↓m_nI0 ↓m_nI ↓m_nU ↓m_kTestN ↓m_nTest ↓m_kAndN ↓m_nAndV ↓m_kNotN ↓m_nNotV ↓m_kChN2 ↓m_kChN1 ↓m_kChN0 ↓m_nChain ↓m_gNilN ↓m_gConsN ↓m_iDict ↓m_nThaw ↓m_kAnyB ↓m_qAny ↓m_nMk0 ↓m_nMethD1 ↓m_iStr ↓m_nMulS ↓m_nInS optK_some itemsAt lstAt tupAt seqO_lst seqO_tup lstO_lst tupO_tup bind_some' upd_same upd_upd tyO_lst tyO_tup tyN_non tyN_bl tyN_int tyN_str tyN_ref tyV_list isW_int' cx_K ofString_inj refC_ref clsV_ref clsV_ty atI_0 atI_1 atI_2 eqv_bool eqv_str eqv_tuple eqv_list eqvAll_nil eqvAll_cons allSome_ints CDiv_eq CMul_l CPow_10 Option.isSome_some Option.isSome_none Option.map_some List.length_cons List.length_nil List.length_map List.map_cons List.map_nil and_true true_and and_self implies_true reduceCtorEq decide_true decide_false Bool.not_true Bool.not_false if_true if_false decide_eq_true_eq Bool.false_eq_true Bool.not_eq_true' decide_eq_false_iff_not Bool.and_true Bool.true_and Bool.and_self Bool.and_eq_true Int.reduceToNat Int.reducePow Int.reduceMul Int.reduceAdd Int.reduceSub Int.reduceNeg Int.reduceLT Int.reduceLE Int.reduceEq Int.reduceNe Int.reduceDiv Int.reduceMod Nat.reduceAdd Nat.reduceLeDiff Nat.reduceLT Nat.reduceMul Nat.reducePow gt_iff_lt ge_iff_le ne_eq false_implies true_implies eq_self String.reduceEq Int.cast_ofNat_Int not_true_eq_false not_false_eq_true false_and and_false List.cons_append List.nil_append List.append_nil lenLe".splitOn " ").toArray.mapM λ s => if s.startsWith "↓" then `(Lean.Parser.Tactic.simpLemma| ↓ $(Lean.mkIdent (s.replace "↓" "").toName):ident) else `(Lean.Parser.Tactic.simpLemma| $(Lean.mkIdent s.toName):ident)
  `(tactic| simp (config := { failIfUnchanged := false, maxDischargeDepth := 30, maxSteps := 10000000 }) only [$zs,*, $ys,*, *])
local macro_rules | `(%[$xs,*|$k:num]) => do
  let a := xs.getElems
  let s (i : Nat) : String := a[i]!.raw.getId.toString
  let I (n : String) : Lean.TSyntax `term := ⟨(Lean.mkIdent n.toName).raw⟩
  match k.getNat with
  | 36 => `($(a[0]!) (P := $(I "P")) (w := $(I "w")) (base := $(I "base")) $(I "T"))
  | 0 => `(@pvN _ $(a[0]!) _ _ (by rfl) (by trivial) (by decide) (by decide))
  | 1 => if a.size = 1 then `(@pa_c _ _ _ _ _ $(a[0]!) (@pa_nil _) (by rfl)) else `(@pa_c _ _ _ _ _ $(a[0]!) $(a[1]!) (by rfl))
  | 2 => `(@pe_int _ _ _ _)
  | 7 => `(by trivial)
  | 8 => `(by omega)
  | 3 => `(@pe_call _ _ _ _ _ _ _ _ _ _ _ _ _ _ _ _ $(I ("G_" ++ s 0)) ($(I "hr.mono") (by decide)) (by rfl) $(I ("T.m_" ++ s 0)) $(I ("T.F_" ++ s 0 ++ ".kp")) $(I ("T.b_" ++ s 0)) .nil pass0 $(a[1]!) (by decide) (by rfl) (by rfl))
  | 4 => `(@ps_set _ _ $(a[0]!) _ _ _ _ ($(a[1]!)).nd rfl (Or.inl rfl) $(a[2]!) (by rfl) (by trivial))
  | 5 => `(@pg_name _ _ $(a[0]!) _ ($(a[1]!)).nd rfl (Or.inl rfl) (by trivial))
  | 6 => `(@pe_callB _ _ _ _ _ _ _ $(Lean.Syntax.mkStrLit (s 0)) _ $(a[1]!) (by rfl) $(I ("T.z_" ++ s 0)) (by decide +kernel) $(a[2]!) (by decide) (by decide) (by rfl) (by rfl))
  | 9 => `(@pss_cons _ _ _ _ _ $(a)*)
  | 10 => `(@pss_one _ _ _ $(a)*)
  | 11 => `(@pe_op _ _ _ _ _ _ _ _ $(a)*)
  | 12 => `(@ps_ret _ _ _ _ $(a)*)
  | 13 => `(@ps_expr _ _ _ _ $(a)*)
  | 14 => `(@pe_nFld _ _ _ _ _ $(a)*)
  | 15 => `(@pe_ix _ _ _ _ _ _ _ $(a)*)
  | 16 => `(@ps_if _ _ _ _ _ _ _ _ $(a)*)
  | 17 => `(@pt_cmpRN _ _ _ _ _ _ _ _ $(a)*)
  | 18 => `(@pgs_consN _ _ _ _ _ $(a)*)
  | 19 => `(@pg_name _ _ $(a)*)
  | 20 => `(@pe_str _ _ _ $(a)*)
  | 21 => `(@pe_nMeth _ _ _ _ _ _ _ _ _ _ _ _ _ _ _ _ _ _ _ _ $(a)*)
  | 22 => `(@pi_seq _ _ _ _ $(a)*)
  | 23 => `(@pe_nMeth0 _ _ _ _ _ _ _ _ _ _ _ _ _ _ _ _ _ $(a)*)
  | 24 => `(@pe_comp _ _ _ _ _ _ _ _ _ _ _ $(a)*)
  | 25 => `(@pe_qLst _ _ _ _ $(a)*)
  | 26 => `(@ps_for _ _ _ _ _ _ _ _ $(a)*)
  | 27 => `(@ps_nSetF _ _ _ _ _ _ _ _ $(a)*)
  | 28 => `(@pg_tup _ _ _ _ _ $(a)*)
  | 29 => `(@pe_qTup _ _ _ _ _ $(a)*)
  | 30 => `(@pe_bm _ _ _ _ _ _ _ _ _ _ _ _ $(a)*)
  | 31 => `(@pe_nMake _ _ _ _ _ _ _ _ _ _ _ _ _ _ _ _ _ $(a)*)
  | 32 => `(@pe_andN _ _ _ _ _ _ _ $(a)*)
  | 33 => `(@pi_range1 _ _ _ _ _ _ $(a)*)
  | 34 => `(@pe_cmpR _ _ _ _ _ _ _ _ $(a)*)
  | 35 => `(@pe_callTy _ _ _ _ _ _ _ _ _ $(a)*)
  | _ => Lean.Macro.throwUnsupported
local macro_rules | `(∅) => `(by rfl)
local macro_rules | `(⋯) => `(by decide)
local macro_rules | `(nofun) => `(by decide +kernel)
local macro_rules | `(tactic| ac_rfl) => `(tactic| simp! only [and_true])
local macro_rules | `(tactic| exists $x:ident) => `(tactic| replace $x := λ (_ : Unit) => $x)
section
variable {P:Program}{w:World}{K:PySem.W.Frag}{mg:Str->Option Value}{base:Heap}{t:Adr}
def spDraw (K:W.Frag) (a:Addr) (ns:List Int):Sp:=λ vs H Q E=>∃ (k:Int) (m:Int),vs=[.ref a,.int k,.int m]/\(SqL K H a (ns.map V.int)/\ns.length<=63/\(0<=k/\k < 1000)/\0 < m/\∀ z:Int,0<=z->z < m->Q (.int z) H)
theorem c_spDraw (K:W.Frag) (a:Addr) (ns:List Int) (k:Int) (m:Int) (H:Hp) (Q:VK) (E:XK):spDraw K a ns [.ref a,.int k,.int m] H Q E=(SqL K H a (ns.map V.int)/\ns.length<=63/\(0<=k/\k < 1000)/\0 < m/\∀ z:Int,0<=z->z < m->Q (.int z) H):=spx2 (f:=λ (k:Int) (m:Int)=>[.ref a,.int k,.int m]) (λ _ _ _ _ h=>by cases h;exact ⟨rfl,rfl⟩) k m
theorem l_spDraw (K:W.Frag) (a:Addr) (ns:List Int){vs:List V}{H:Hp}{Q:VK}{E:XK}(h:spDraw K a ns vs H Q E):vs.length=3:=spl2 h λ _ _=>rfl
theorem ok__law_draw (T:Tx K mg t) (a:Addr) (ns:List Int):FnOk P w K mg base CX0 1 t.a__law_draw t.d__law_draw ["_law_script", "_law_k", "_law_many"] (spDraw K a ns):=by
 refine T.F__law_draw.ok c__law_draw (λ vs H Q E h=>l_spDraw _ _ _ h) (λ c A o s H vs Q E hr h=>?_)
 ·obtain ⟨k,m,rfl,hS,hl,⟨hk0,hk1⟩,hm,kk⟩:=h
  have fin:∀ z:Int,Q (.int (z % m)) H:=λ z=>kk _ (Int.emod_nonneg _ %[0|8]) (Int.emod_lt_of_pos _ hm)
  refine ⟨_,(pss_cons (ps_if (pt_cmpR op_lt (pv 1) (pe_callB (id := "len") call_len_seq ∅ T.z_len nofun (pa_c (pv 0) pa_nil)) (nomark _))
   (pss_one (ps_ret (pe_op op_mod (pe_ix ix_list (pv 0) (pv 1) (λ _ _=>rfl)) (pv 2))))
   pss_nil)
  (pss_cons (ps_set (i:=3) c__law_draw.nd rfl (Or.inl rfl) (pe_op op_add (pe_op op_mul (pe_op op_mul (pv 1) (pv 1)) pe_int) pe_int))
  (pss_cons (ps_if (pt_cmpR op_gt (pe_callB (id := "len") call_len_seq ∅ T.z_len nofun (pa_c (pv 0) pa_nil)) pe_int (nomark _))
   (pss_cons (ps_set (i:=3) c__law_draw.nd rfl (Or.inl rfl) (pe_op op_mod (pe_ix ix_list (pv 0) (pe_op op_mod (pv 1) (pe_callB (id := "len") call_len_seq ∅ T.z_len nofun (pa_c (pv 0) pa_nil))) (λ _ _=>rfl)) pe_int))
   (pss_one (ps_set (i:=3) c__law_draw.nd rfl (Or.inl rfl) (pe_op op_add (pe_op op_mul (pv 3) (pe_op op_add pe_int (pe_op op_mul (pe_op op_mul pe_int (pv 1)) (pv 1)))) (pe_op op_mul (pv 1) pe_int)))))
   pss_nil)
  (pss_one (ps_ret (pe_op op_mod (pe_op op_mod (pe_op op_mul (pe_op op_mod (pv 3) pe_int) pe_int) pe_int) (pv 2))))))),?_⟩
  refine ⟨_,rfl,_,rfl,a,_,rfl,.inl hS,_,_,rfl,rfl,_,rfl,?_⟩
  refine ite2 (λ h=>?_) (λ h=>?_)
  ·have h1:k < (ns.length:Int):=by simpa using h
   obtain ⟨z,hz,_⟩:=atI_ints ns k hk0 h1
   exact ⟨_,rfl,_,rfl,a,_,k,_,rfl,rfl,hS,hz,_,rfl,_,_,rfl,rfl,hm,fin _⟩
  ·refine ⟨_,rfl,_,rfl,_,_,rfl,rfl,.inl ⟨by omega,by omega⟩,_,_,rfl,rfl,.inr ⟨by decide,by decide⟩,_,_,rfl,rfl,?_⟩
   refine ⟨_,rfl,a,_,rfl,.inl hS,_,_,rfl,rfl,_,rfl,?_⟩
   refine ite2 (λ h2=>?_) (λ h2=>?_)
   ·have h3:0 < (ns.length:Int):=by simpa using h2
    have h4:(0:Int) < ((ns.map V.int).length:Int):=by simpa using h3
    obtain ⟨z,hz,_⟩:=atI_ints ns (k % ((ns.map V.int).length:Int)) (Int.emod_nonneg _ %[0|8]) (by have:=Int.emod_lt_of_pos k h4;simpa using this)
    refine ⟨_,rfl,_,rfl,_,rfl,a,_,rfl,.inl hS,_,_,rfl,rfl,h4,a,_,_,_,rfl,rfl,hS,hz,_,_,rfl,rfl,(by first|decide|(show (0:Int) < _;decide)),?_⟩
    refine ⟨_,rfl,_,rfl,_,_,rfl,rfl,.inl ⟨by decide,by decide⟩,_,rfl,_,_,rfl,rfl,.inr ⟨by omega,by omega⟩,_,_,rfl,rfl,_,_,rfl,rfl,?_,?_⟩
    ·refine .inl ⟨?_,?_⟩
     ·have:=Int.emod_nonneg z (show (999999937:Int) ≠ 0 by decide);omega
     ·have:=Int.emod_lt_of_pos z (show (0:Int) < 999999937 by decide);omega
    refine ⟨_,rfl,_,_,rfl,rfl,.inr ⟨by decide,by decide⟩,_,_,rfl,rfl,?_⟩
    exact ⟨_,rfl,_,_,rfl,rfl,(by first|decide|(show (0:Int) < _;decide)),_,_,rfl,rfl,.inr ⟨by decide,by decide⟩,_,_,rfl,rfl,(by first|decide|(show (0:Int) < _;decide)),_,rfl,_,_,rfl,rfl,hm,fin _⟩
   ·exact ⟨_,rfl,_,_,rfl,rfl,(by first|decide|(show (0:Int) < _;decide)),_,_,rfl,rfl,.inr ⟨by decide,by decide⟩,_,_,rfl,rfl,(by first|decide|(show (0:Int) < _;decide)),_,rfl,_,_,rfl,rfl,hm,fin _⟩
def spWhole  : Sp:=λ vs H Q E=>∃ (x:V),vs=[x]/\(optK (isW H x) (kE4 H Q))
theorem c_spWhole  (x:V) (H:Hp) (Q:VK) (E:XK):spWhole  [x] H Q E=(optK (isW H x) (kE4 H Q)):=spx1 (f:=λ (x:V)=>[x]) (λ _ _ h=>by cases h;exact rfl) x
theorem l_spWhole  {vs:List V}{H:Hp}{Q:VK}{E:XK}(h:spWhole  vs H Q E):vs.length=1:=spl1 h λ _=>rfl
theorem ok_is_whole (T:Tx K mg t):FnOk P w K mg base CX0 1 t.a_is_whole t.d_is_whole ["thing"] spWhole:=by
 refine T.F_is_whole.ok c_is_whole (λ vs H Q E h=>l_spWhole h) (λ c A o s H vs Q E hr h=>?_)
 ·obtain ⟨x,rfl,h⟩:=h
  obtain ⟨b,hb,k⟩:=optK_ex h
  clear h
  rw [m_kE4] at k
  refine ⟨_,%[%[%[%[isinstance,call_qIsi,%[%[0|0],%[(@pe_bltn _ _ (.ty "int") (.type "int") _ ∅ T.z_int nofun rfl ⋯ ⋯)|1]|1]|6],(@pe_one _ _ _ _ _ (@pe_notN _ _ _ _ %[isinstance,call_qIsi,%[%[0|0],%[(@pe_bltn _ _ (.ty "bool") (.type "bool") _ ∅ T.z_bool nofun rfl ⋯ ⋯)|1]|1]|6]))|32]|12]|10],?_⟩
  rw [show start ["thing"] [x]=[some (x)] from rfl]
  cases x with
  | int i=>cases hb;ac_rfl
  | bl i=>cases hb;ac_rfl
  | non=>cases hb;ac_rfl
  | str i=>cases hb;ac_rfl
  | ref p=>
   obtain ⟨rfl,o,ho,ht⟩:=isW_obj hb
   rcases ht with ht|ht|ht<;>ac_rfl
  | _=>cases hb
def kSz (F:List Int->Prop):List Int->Prop:=λ ns=>Sizes ns/\F ns
theorem m_kSz (F:List Int->Prop) (ns:List Int):kSz F ns=(Sizes ns/\F ns):=rfl
def kCnt (H:Hp) (Q:VK):List Int->Prop:=λ ns=>Q (.int (prodL ns)) H
theorem x_kCnt (H:Hp) (Q:VK) (ns:List Int):kCnt H Q ns=Q (.int (prodL ns)) H:=rfl
def spCount  : Sp:=λ vs H Q E=>∃ (p:Addr),vs=[.ref p]/\(optK (lstAt H p) (kInts (kSz (kCnt H Q))))
theorem c_spCount  (p:Addr) (H:Hp) (Q:VK) (E:XK):spCount  [.ref p] H Q E=(optK (lstAt H p) (kInts (kSz (kCnt H Q)))):=spx1 (f:=λ (p:Addr)=>[.ref p]) (λ _ _ h=>by cases h;exact rfl) p
theorem l_spCount  {vs:List V}{H:Hp}{Q:VK}{E:XK}(h:spCount  vs H Q E):vs.length=1:=spl1 h λ _=>rfl
theorem ok_count_of (T:Tx K mg t):FnOk P w K mg base CX0 1 t.a_count_of t.d_count_of ["sizes"] spCount:=by
 refine T.F_count_of.ok c_count_of (λ vs H Q E h=>l_spCount h) (λ c A o s H vs Q E hr h=>?_)
 ·obtain ⟨p,rfl,h⟩:=h
  obtain ⟨xs,hp,ns,rfl,hs,k⟩:=optK_ex h
  replace hp:=lst_of hp
  rw [x_kCnt] at k
  refine ⟨_,%[%[1,c_count_of,%[0|2]|4],%[%[PassesOwn.never,rfl,%[%[0|0]|22],%[2,c_count_of|5],%[%[1,c_count_of,%[on_mulB,%[1|0],%[2|0]|11]|4]|10],(by intros;rfl)|26],%[%[%[1|0]|12]|10]|9]|9],?_⟩
  rw [show start ["sizes", "count", "size"] [.ref p]=[some (.ref p),none,none] from rfl]
  ac_rfl
  refine for_lst (xs:=ns.map V.int) (λ i σ H'=>∃ v:Option V,σ=[some (.ref p),some (.int (prodL (ns.take i))),v]/\H'=H) ⟨_,rfl,rfl⟩ (λ i σ H' _ ⟨_,_,e⟩=>by subst e;exact hp) ?_ ?_
  ·rintro i x _ _ hi ⟨v,rfl,rfl⟩
   rw [List.getElem?_map] at hi
   obtain ⟨z,hz,rfl⟩:=Option.map_eq_some_iff.mp hi
   have e:=prodL_take ns i z hz
   have b1:=(hs.take i).prod
   have b2:=hs.2 z (List.mem_of_getElem? hz)
   have c1:(prodL (ns.take i)).natAbs < 2 ^ 256:=by
    generalize prodL (ns.take i)=y at b1
    have:(1000000000:Int) ^ 8 < 2 ^ 256:=by decide
    omega
   have c2:z.natAbs < 2 ^ 256:=by omega
   clear b1 b2
   simp! only [↓m_kBody,CMulB_of]
   exact ⟨_,rfl⟩
  ·rintro _ _ ⟨v,rfl,rfl⟩
   rw [List.length_map,List.take_length]
   ac_rfl
def spWithin  : Sp:=λ vs H Q E=>∃ (i:Int) (lo:Int) (hi:Int),vs=[.int i,.int lo,.int hi]/\(Q (.bl (decide (lo<=i) && decide (i<=hi))) H)
theorem c_spWithin  (i:Int) (lo:Int) (hi:Int) (H:Hp) (Q:VK) (E:XK):spWithin  [.int i,.int lo,.int hi] H Q E=(Q (.bl (decide (lo<=i) && decide (i<=hi))) H):=spx3 (f:=λ (i:Int) (lo:Int) (hi:Int)=>[.int i,.int lo,.int hi]) (λ _ _ _ _ _ _ h=>by cases h;exact ⟨rfl,rfl,rfl⟩) i lo hi
theorem l_spWithin  {vs:List V}{H:Hp}{Q:VK}{E:XK}(h:spWithin  vs H Q E):vs.length=3:=spl3 h λ _ _ _=>rfl
theorem ok_is_within (T:Tx K mg t):FnOk P w K mg base CX0 2 t.a_is_within t.d_is_within ["thing", "low", "high"] spWithin:=by
 have G_is_whole:=%[ok_is_whole|36]
 refine T.F_is_within.ok c_is_within (λ vs H Q E h=>l_spWithin h) (λ c A o s H vs Q E hr h=>?_)
 ·obtain ⟨i,lo,hi,rfl,k⟩:=h
  refine ⟨_,%[%[%[%[is_whole,%[%[0|0]|1]|3],(@pe_one _ _ _ _ _ (@pe_chainN _ _ _ _ _ _ _ _ _ _ _ _ on_le on_le %[1|0] %[0|0] %[2|0] ∅))|32]|12]|10],?_⟩
  rw [show start ["thing", "low", "high"] [.int i,.int lo,.int hi]=[some (.int i),some (.int lo),some (.int hi)] from rfl]
  by_cases h0:lo<=i
  ·rw [decide_eq_true h0,Bool.true_and] at k
   simp! only [↓c_spWhole]
  ·rw [decide_eq_false h0,Bool.false_and] at k
   simp! only [↓c_spWhole]
def spSize  : Sp:=λ vs H Q E=>∃ (i:Int),vs=[.int i]/\(Q (.bl (decide (1<=i) && decide (i<=1000000000))) H)
theorem c_spSize  (i:Int) (H:Hp) (Q:VK) (E:XK):spSize  [.int i] H Q E=(Q (.bl (decide (1<=i) && decide (i<=1000000000))) H):=spx1 (f:=λ (i:Int)=>[.int i]) (λ _ _ h=>by cases h;exact rfl) i
theorem l_spSize  {vs:List V}{H:Hp}{Q:VK}{E:XK}(h:spSize  vs H Q E):vs.length=1:=spl1 h λ _=>rfl
theorem ok_is_size (T:Tx K mg t):FnOk P w K mg base CX0 3 t.a_is_size t.d_is_size ["thing"] spSize:=by
 have G_is_within:=%[ok_is_within|36]
 refine T.F_is_size.ok c_is_size (λ vs H Q E h=>l_spSize h) (λ c A o s H vs Q E hr h=>?_)
 ·obtain ⟨i,rfl,k⟩:=h
  refine ⟨_,%[%[%[is_within,%[%[0|0],%[%[0|2],%[(@pe_glob _ _ (.int 1000000000) _ _ ∅ T.m_MOST_SIZE.choose_spec ⟨_,rfl⟩ ⋯)|1]|1]|1]|3]|12]|10],?_⟩
  rw [show start ["thing"] [.int i]=[some (.int i)] from rfl]
  simp! only [↓c_spWithin]
abbrev B_spAxis  (p:Addr) (H:Hp) (Q:VK) (E:XK):Prop:=∃ a:Int × Int,H p=some (.tup [.int a.1,.int a.2])/\1<=a.1/\a.1<=1000000000/\Q (.bl true) H
def spAxis  : Sp:=λ vs H Q E=>∃ (p:Addr),vs=[.ref p]/\(B_spAxis  p H Q E)
theorem c_spAxis  (p:Addr) (H:Hp) (Q:VK) (E:XK):spAxis  [.ref p] H Q E=(B_spAxis  p H Q E):=spx1 (f:=λ (p:Addr)=>[.ref p]) (λ _ _ h=>by cases h;exact rfl) p
theorem l_spAxis  {vs:List V}{H:Hp}{Q:VK}{E:XK}(h:spAxis  vs H Q E):vs.length=1:=spl1 h λ _=>rfl
theorem ok_is_axis (T:Tx K mg t):FnOk P w K mg base CX0 4 t.a_is_axis t.d_is_axis ["thing"] spAxis:=by
 have G_is_size:=%[ok_is_size|36]
 have G_is_whole:=%[ok_is_whole|36]
 refine T.F_is_axis.ok c_is_axis (λ vs H Q E h=>l_spAxis h) (λ c A o s H vs Q E hr h=>?_)
 ·obtain ⟨p,rfl,a,hp,h1,h2,k⟩:=h
  refine ⟨_,%[%[%[%[isinstance,call_qIsi,%[%[0|0],%[(@pe_bltn _ _ (.ty "tuple") (.type "tuple") _ ∅ T.z_tuple nofun rfl ⋯ ⋯)|1]|1]|6],%[%[(op_qEq hr.units),%[len,call_qLen,%[%[0|0]|1]|6],%[0|2],(nomark _)|34],%[%[is_size,%[%[ix_q,%[0|0],%[0|2],(λ _ _=>rfl)|15]|1]|3],(@pe_one _ _ _ _ _ %[is_whole,%[%[ix_q,%[0|0],%[0|2],(λ _ _=>rfl)|15]|1]|3])|32]|32]|32]|12]|10],?_⟩
  rw [show start ["thing"] [.ref p]=[some (.ref p)] from rfl]
  simp! only [↓c_spSize,↓c_spWhole]
abbrev B_spKept  (p:Addr) (H:Hp) (Q:VK) (E:XK):Prop:=∃ a:Int × Int,H p=some (.tup [.int a.1,.int a.2])/\∀ (r:Addr) (H':Hp),H r=none->Ext H H'->H' r=some (.tup [.int (keptA a).1,.int (keptA a).2])->Q (.ref r) H'
def spKept  : Sp:=λ vs H Q E=>∃ (p:Addr),vs=[.ref p]/\(B_spKept  p H Q E)
theorem c_spKept  (p:Addr) (H:Hp) (Q:VK) (E:XK):spKept  [.ref p] H Q E=(B_spKept  p H Q E):=spx1 (f:=λ (p:Addr)=>[.ref p]) (λ _ _ h=>by cases h;exact rfl) p
theorem l_spKept  {vs:List V}{H:Hp}{Q:VK}{E:XK}(h:spKept  vs H Q E):vs.length=1:=spl1 h λ _=>rfl
theorem ok_kept_axis (T:Tx K mg t):FnOk P w K mg base CX0 1 t.a_kept_axis t.d_kept_axis ["axis"] spKept:=by
 refine T.F_kept_axis.ok c_kept_axis (λ vs H Q E h=>l_spKept h) (λ c A o s H vs Q E hr h=>?_)
 ·obtain ⟨p,rfl,a,hp,k⟩:=h
  refine ⟨_,%[%[%[%[%[ix_q,%[0|0],%[0|2],(λ _ _=>rfl)|15],%[(@pe_ifExp _ _ _ _ _ _ _ _ %[on_gt,%[ix_q,%[0|0],%[0|2],(λ _ _=>rfl)|15],%[0|2],(nomark _)|17] %[ix_q,%[0|0],%[0|2],(λ _ _=>rfl)|15] %[0|2])|1]|1]|29]|12]|10],?_⟩
  rw [show start ["axis"] [.ref p]=[some (.ref p)] from rfl]
  have e1:(keptA a).1=a.1:=rfl
  by_cases h1:1 < a.1
  ·have e2:(keptA a).2=a.2:=if_pos h1
   rw [e1,e2] at k
   ac_rfl
   exact λ r H' h e h'=>k r H' h e h'
  ·have e2:(keptA a).2=0:=if_neg h1
   rw [e1,e2] at k
   ac_rfl
   exact λ r H' h e h'=>k r H' h e h'
abbrev B_spAxes  (p:Addr) (H:Hp) (Q:VK) (E:XK):Prop:=∃ axs:List (Int × Int),TupsAt H p (axL axs)/\Axes axs/\∀ H',Ext H H'->Q (.bl true) H'
def spAxes  : Sp:=λ vs H Q E=>∃ (p:Addr),vs=[.ref p]/\(B_spAxes  p H Q E)
theorem c_spAxes  (p:Addr) (H:Hp) (Q:VK) (E:XK):spAxes  [.ref p] H Q E=(B_spAxes  p H Q E):=spx1 (f:=λ (p:Addr)=>[.ref p]) (λ _ _ h=>by cases h;exact rfl) p
theorem l_spAxes  {vs:List V}{H:Hp}{Q:VK}{E:XK}(h:spAxes  vs H Q E):vs.length=1:=spl1 h λ _=>rfl
theorem ok_are_axes (T:Tx K mg t):FnOk P w K mg base CX0 5 t.a_are_axes t.d_are_axes ["thing"] spAxes:=by
 have G_is_axis:=%[ok_is_axis|36]
 refine T.F_are_axes.ok c_are_axes (λ vs H Q E h=>l_spAxes h) (λ c A o s H vs Q E hr h=>?_)
 ·obtain ⟨p,rfl,axs,⟨ys,hp,al⟩,ha,k⟩:=h
  refine ⟨_,%[%[%[%[isinstance,call_qIsi,%[%[0|0],%[(@pe_bltn _ _ (.ty "list") (.type "list") _ ∅ T.z_list nofun rfl ⋯ ⋯)|1]|1]|6],%[%[on_le,%[len,call_qLen,%[%[0|0]|1]|6],(@pe_glob _ _ (.int 8) _ _ ∅ T.m_MOST_AXES.choose_spec ⟨_,rfl⟩ ⋯),(nomark _)|34],(@pe_one _ _ _ _ _ %[all,(call_qAll rfl),%[%[(["axis", "thing"]),(1),(comp_ok (defScope s_are_axes) ["thing"] rfl rfl nofun),rfl,%[%[0|0]|22],(λ C s₀ H₀ ex pn=>%[(0),_,(show List.Nodup (["axis", "thing"]:List Str) from by decide +kernel),rfl,(Or.inl rfl),%[0|7]|19]),(λ C s₀ H₀ ex pn=>(@pts_nil _)),(λ C s₀ H₀ ex pn=>%[is_axis,%[%[0|0]|1]|3]),(by intros;rfl)|24]|1]|6])|32]|32]|12]|10],?_⟩
  rw [show start ["thing"] [.ref p]=[some (.ref p)] from rfl]
  have hl:ys.length=axs.length:=by rw [al.1];unfold axL;rw [List.length_map]
  have hl8:(axs.length:Int)<=8:=by have:=ha.1;omega
  ac_rfl
  refine comp_fm ys (λ _=>true) (λ _=>.bl true) (λ z x H'=>x=z/\H' p=some (.lst ys)) (wk_lst hp).1 (wk_lst hp).2 (len5000 %[0|8]) ?_ ?_
  ·intro D z x H' N1 N0 hz hD e ⟨hx,_⟩ k1 _
   subst hx
   obtain ⟨i,hi,rfl⟩:=List.getElem_of_mem hz
   have hi':i < axs.length:=by rw [←hl];exact hi
   obtain ⟨q,hq1,hq2⟩:=al.2 i [axs[i].1,axs[i].2] ys[i] (by unfold axL;rw [List.getElem?_map,List.getElem?_eq_getElem hi'];rfl) (List.getElem?_eq_getElem hi)
   have hb:=ha.2 _ (List.getElem_mem hi')
   have k1':=k1 rfl H' (Ext.refl _)
   have hq3:=e.at hq2
   rw [hq1]
   clear k1 k hp al
   simp! only [↓m_kCm_1,↓m_kCm2]
   rw [c_spAxis]
   exact ⟨axs[i],hq3,hb.1,hb.2,k1'⟩
  ·intro D H' hD e hD'
   have hD2:H' D=some (.lst ((ys.map λ _=>true).map V.bl)):=by rw [hD',filt,List.map_map];rfl
   have e2:((ys.map λ _=>true).all id)=true:=by rw [List.all_map];simp
   have k2:=k H' e
   clear k hD'
   ac_rfl
theorem getElem?_zs {zs:List (List Int)}{ys:List V}{H:Hp}(al:Al (TupV H) zs ys){i:Nat}{y:V}(h:ys[i]? = some y):∃ z,zs[i]? = some z/\TupV H z y:=by
 have hi:i < ys.length:=(List.getElem?_eq_some_iff.mp h).1
 have hz:zs[i]? = some (zs[i]'(by rw [←al.1];exact hi)):=List.getElem?_eq_getElem _
 exact ⟨_,hz,al.2 i _ y hz h⟩
abbrev B_spLong (cT:Addr) (n:Int) (H:Hp) (Q:VK) (E:XK):Prop:=(n<=4096->Q .non H)/\¬ 4096 < n
def spLong (cT:Addr):Sp:=λ vs H Q E=>∃ (n:Int),vs=[.int n]/\(B_spLong cT n H Q E)
theorem c_spLong (cT:Addr) (n:Int) (H:Hp) (Q:VK) (E:XK):spLong cT [.int n] H Q E=(B_spLong cT n H Q E):=spx1 (f:=λ (n:Int)=>[.int n]) (λ _ _ h=>by cases h;exact rfl) n
theorem l_spLong (cT:Addr){vs:List V}{H:Hp}{Q:VK}{E:XK}(h:spLong cT vs H Q E):vs.length=1:=spl1 h λ _=>rfl
theorem ok_refuse_long (T:Tx K mg t):FnOk P w K mg base CX0 3 t.a_refuse_long t.d_refuse_long ["count"] (spLong t.a_TooMany):=by
 refine T.F_refuse_long.ok c_refuse_long (λ vs H Q E h=>l_spLong _ h) (λ c A o s H vs Q E hr h=>?_)
 ·obtain ⟨n,rfl,k1,hn⟩:=h
  refine ⟨_,%[%[%[on_gt,%[0|0],(@pe_glob _ _ (.int 4096) _ _ ∅ T.m_MOST_TOLD.choose_spec ⟨_,rfl⟩ ⋯),(nomark _)|17],%[(@ps_never _ _)|10],(@pss_nil _)|16]|10],?_⟩
  rw [show start ["count"] [.int n]=[some (.int n)] from rfl]
  have k1':=k1 %[0|8]
  clear k1
  ac_rfl
theorem min0 (x:Int):min 0 x=if x < 0 then x else 0:=by split<;>omega
theorem max0 (x:Int):max 0 x=if 0 < x then x else 0:=by split<;>omega
structure ViewAt (C:Addr) (H:Hp) (v:Addr) (room first:Int) (axs:List (Int × Int)):Prop where
 ob:∃ dx l,H v=some (.ins C dx (viewF room first l))/\TupsAt H l (axL axs)
theorem ViewAt.ext {C:Addr}{H H':Hp}{v:Addr}{room first:Int}{axs:List (Int × Int)}(h:ViewAt C H v room first axs) (e:Ext H H'):ViewAt C H' v room first axs:=by
 obtain ⟨dx,l,h1,h2⟩:=h.ob
 exact ⟨⟨dx,l,e.at h1,h2.ext e⟩⟩
theorem ne_no {m:Str}(h:m∈([("sizes":Str), "paces", "count", "cell", "cell_at", "cells", "least", "greatest"]:List Str)):¬ m = "axes" /\ ¬ m = "first" /\ ¬ m = "room":=by
 revert m
 decide +kernel
theorem vn (room first:Int) (l:Addr){m:Str}(h:m∈([("sizes":Str), "paces", "count", "cell", "cell_at", "cells", "least", "greatest"]:List Str)):(viewF room first l).lookup m=none:=viewF_no room first l (ne_no h).1 (ne_no h).2.1 (ne_no h).2.2
theorem al_ax {H:Hp}{axs:List (Int × Int)}{ys:List V}(al:Al (TupV H) (axL axs) ys){i:Nat}{y:V}(h:ys[i]? = some y):∃ a q,axs[i]? = some a/\y=.ref q/\H q=some (.tup [.int a.1,.int a.2]):=by
 obtain ⟨z,hz,q,hq,hq2⟩:=getElem?_zs al h
 unfold axL at hz
 rw [List.getElem?_map] at hz
 obtain ⟨a,ha,rfl⟩:=Option.map_eq_some_iff.mp hz
 exact ⟨a,q,ha,hq,hq2⟩
abbrev B_spLeast (C:Addr) (v:Addr) (H:Hp) (Q:VK) (E:XK):Prop:=∃ (room first:Int) (axs:List (Int × Int)),ViewAt C H v room first axs/\Axes axs/\∀ H',Ext H H'->Q (.int (first+leastL axs)) H'
def spLeast (C:Addr):Sp:=λ vs H Q E=>∃ (v:Addr),vs=[.ref v]/\(B_spLeast C v H Q E)
theorem c_spLeast (C:Addr) (v:Addr) (H:Hp) (Q:VK) (E:XK):spLeast C [.ref v] H Q E=(B_spLeast C v H Q E):=spx1 (f:=λ (v:Addr)=>[.ref v]) (λ _ _ h=>by cases h;exact rfl) v
theorem l_spLeast (C:Addr){vs:List V}{H:Hp}{Q:VK}{E:XK}(h:spLeast C vs H Q E):vs.length=1:=spl1 h λ _=>rfl
theorem ok_View_least (T:Tx K mg t):FnOk P w K mg base CX0 1 t.a_View_least t.d_View_least ["self"] (spLeast t.a_View):=by
 refine T.F_View_least.ok c_View_least (λ vs H Q E h=>l_spLeast _ h) (λ c A o s H vs Q E hr h=>?_)
 ·obtain ⟨v,rfl,room,first,axs,vo,hax,k⟩:=h
  obtain ⟨dx,l,hv,ys,hl,al⟩:=vo.ob
  have c1:=T.cl_View
  have c2:=T.na_View_first
  have c3:=T.na_View_axes
  have f1:=viewF_first room first l
  have f2:=viewF_axes room first l
  refine ⟨_,%[%[%[on_add,%[%[0|0],rfl|14],%[sum,(call_qSum rfl),%[%[(["size", "pace", "self"]),(2),(comp_ok (defScope s_View_least) ["self"] rfl rfl nofun),rfl,%[%[%[0|0],rfl|14]|22],(λ C s₀ H₀ ex pn=>(%[(2),rfl,%[%[(0),_,(show List.Nodup (["size", "pace", "self"]:List Str) from by decide +kernel),rfl,(Or.inl rfl),%[0|7]|19],%[%[(1),_,(show List.Nodup (["size", "pace", "self"]:List Str) from by decide +kernel),rfl,(Or.inl rfl),%[0|7]|19],(@pgs_nilN _),∅|18],∅|18],∅,∅|28].mono λ _ _ _ _ h=>gTup_q h)),(λ C s₀ H₀ ex pn=>(@pts_nil _)),(λ C s₀ H₀ ex pn=>%[min,(call_qMin rfl),%[%[0|2],%[%[on_mul,%[on_sub,%[0|0],%[0|2]|11],%[1|0]|11]|1]|1]|6]),(by intros;rfl)|24]|1]|6]|11]|12]|10],?_⟩
  rw [show start ["self"] [.ref v]=[some (.ref v)] from rfl]
  ac_rfl
  have wk:=wk_al (K:=K) (R:=axP) (λ _ _ _ _ h e=>h.ext e) hl (al_axP al)
  refine comp_fm axs (λ _=>true) (λ a=>.int (min 0 ((a.1 - 1) * a.2))) axP wk.1 wk.2 (len5000 (by have:=hax.1;omega)) ?_ ?_
  ·intro D a x H' N1 N0 ha hD e ⟨q,hx,hq⟩ k1 _
   subst hx
   have hb:=hax.2 a ha
   have k1':=k1 rfl H' (Ext.refl _)
   have hcm:CMul (a.1 - 1) a.2:=.inl ⟨by omega,by omega⟩
   rw [min0] at k1'
   clear k1 k
   simp! only [↓m_kCm_2,↓m_kCm2]
  ·intro D H' hD e hD'
   have hD2:H' D=some (.lst ((axs.map λ a=>min 0 ((a.1 - 1) * a.2)).map V.int)):=by rw [hD',filt,List.map_map];rfl
   have k2:Q (.int (first+(axs.map λ a=>min 0 ((a.1 - 1) * a.2)).sum)) H':=k H' e
   clear k hD'
   ac_rfl
abbrev B_spGreatest (C:Addr) (v:Addr) (H:Hp) (Q:VK) (E:XK):Prop:=∃ (room first:Int) (axs:List (Int × Int)),ViewAt C H v room first axs/\Axes axs/\∀ H',Ext H H'->Q (.int (first+greatL axs)) H'
def spGreatest (C:Addr):Sp:=λ vs H Q E=>∃ (v:Addr),vs=[.ref v]/\(B_spGreatest C v H Q E)
theorem c_spGreatest (C:Addr) (v:Addr) (H:Hp) (Q:VK) (E:XK):spGreatest C [.ref v] H Q E=(B_spGreatest C v H Q E):=spx1 (f:=λ (v:Addr)=>[.ref v]) (λ _ _ h=>by cases h;exact rfl) v
theorem l_spGreatest (C:Addr){vs:List V}{H:Hp}{Q:VK}{E:XK}(h:spGreatest C vs H Q E):vs.length=1:=spl1 h λ _=>rfl
theorem ok_View_greatest (T:Tx K mg t):FnOk P w K mg base CX0 1 t.a_View_greatest t.d_View_greatest ["self"] (spGreatest t.a_View):=by
 refine T.F_View_greatest.ok c_View_greatest (λ vs H Q E h=>l_spGreatest _ h) (λ c A o s H vs Q E hr h=>?_)
 ·obtain ⟨v,rfl,room,first,axs,vo,hax,k⟩:=h
  obtain ⟨dx,l,hv,ys,hl,al⟩:=vo.ob
  have c1:=T.cl_View
  have c2:=T.na_View_first
  have c3:=T.na_View_axes
  have f1:=viewF_first room first l
  have f2:=viewF_axes room first l
  refine ⟨_,%[%[%[on_add,%[%[0|0],rfl|14],%[sum,(call_qSum rfl),%[%[(["size", "pace", "self"]),(2),(comp_ok (defScope s_View_greatest) ["self"] rfl rfl nofun),rfl,%[%[%[0|0],rfl|14]|22],(λ C s₀ H₀ ex pn=>(%[(2),rfl,%[%[(0),_,(show List.Nodup (["size", "pace", "self"]:List Str) from by decide +kernel),rfl,(Or.inl rfl),%[0|7]|19],%[%[(1),_,(show List.Nodup (["size", "pace", "self"]:List Str) from by decide +kernel),rfl,(Or.inl rfl),%[0|7]|19],(@pgs_nilN _),∅|18],∅|18],∅,∅|28].mono λ _ _ _ _ h=>gTup_q h)),(λ C s₀ H₀ ex pn=>(@pts_nil _)),(λ C s₀ H₀ ex pn=>%[max,(call_qMax rfl),%[%[0|2],%[%[on_mul,%[on_sub,%[0|0],%[0|2]|11],%[1|0]|11]|1]|1]|6]),(by intros;rfl)|24]|1]|6]|11]|12]|10],?_⟩
  rw [show start ["self"] [.ref v]=[some (.ref v)] from rfl]
  ac_rfl
  have wk:=wk_al (K:=K) (R:=axP) (λ _ _ _ _ h e=>h.ext e) hl (al_axP al)
  refine comp_fm axs (λ _=>true) (λ a=>.int (max 0 ((a.1 - 1) * a.2))) axP wk.1 wk.2 (len5000 (by have:=hax.1;omega)) ?_ ?_
  ·intro D a x H' N1 N0 ha hD e ⟨q,hx,hq⟩ k1 _
   subst hx
   have hb:=hax.2 a ha
   have k1':=k1 rfl H' (Ext.refl _)
   have hcm:CMul (a.1 - 1) a.2:=.inl ⟨by omega,by omega⟩
   rw [max0] at k1'
   clear k1 k
   simp! only [↓m_kCm_2,↓m_kCm2]
  ·intro D H' hD e hD'
   have hD2:H' D=some (.lst ((axs.map λ a=>max 0 ((a.1 - 1) * a.2)).map V.int)):=by rw [hD',filt,List.map_map];rfl
   have k2:Q (.int (first+(axs.map λ a=>max 0 ((a.1 - 1) * a.2)).sum)) H':=k H' e
   clear k hD'
   ac_rfl
def kSzs (H:Hp) (Q:VK) (f:Int × Int->Int) (axs:List (Int × Int)):Prop:=∀ (r:Addr) (H':Hp),H r=none->Ext H H'->H' r=some (.lst ((axs.map f).map V.int))->Q (.ref r) H'
abbrev B_spVSizes (C:Addr) (v:Addr) (H:Hp) (Q:VK) (E:XK):Prop:=∃ (room first:Int) (axs:List (Int × Int)),ViewAt C H v room first axs/\axs.length<=8/\kSzs H Q (λ a=>a.1) axs
def spVSizes (C:Addr):Sp:=λ vs H Q E=>∃ (v:Addr),vs=[.ref v]/\(B_spVSizes C v H Q E)
theorem c_spVSizes (C:Addr) (v:Addr) (H:Hp) (Q:VK) (E:XK):spVSizes C [.ref v] H Q E=(B_spVSizes C v H Q E):=spx1 (f:=λ (v:Addr)=>[.ref v]) (λ _ _ h=>by cases h;exact rfl) v
theorem l_spVSizes (C:Addr){vs:List V}{H:Hp}{Q:VK}{E:XK}(h:spVSizes C vs H Q E):vs.length=1:=spl1 h λ _=>rfl
theorem ok_View_sizes (T:Tx K mg t):FnOk P w K mg base CX0 1 t.a_View_sizes t.d_View_sizes ["self"] (spVSizes t.a_View):=by
 refine T.F_View_sizes.ok c_View_sizes (λ vs H Q E h=>l_spVSizes _ h) (λ c A o s H vs Q E hr h=>?_)
 ·obtain ⟨v,rfl,room,first,axs,vo,hax,k⟩:=h
  obtain ⟨dx,l,hv,ys,hl,al⟩:=vo.ob
  have c1:=T.cl_View
  have c3:=T.na_View_axes
  have f2:=viewF_axes room first l
  refine ⟨_,%[%[%[(["size", "pace", "self"]),(2),(comp_ok (defScope s_View_sizes) ["self"] rfl rfl nofun),rfl,%[%[%[0|0],rfl|14]|22],(λ C s₀ H₀ ex pn=>(%[(2),rfl,%[%[(0),_,(show List.Nodup (["size", "pace", "self"]:List Str) from by decide +kernel),rfl,(Or.inl rfl),%[0|7]|19],%[%[(1),_,(show List.Nodup (["size", "pace", "self"]:List Str) from by decide +kernel),rfl,(Or.inl rfl),%[0|7]|19],(@pgs_nilN _),∅|18],∅|18],∅,∅|28].mono λ _ _ _ _ h=>gTup_q h)),(λ C s₀ H₀ ex pn=>(@pts_nil _)),(λ C s₀ H₀ ex pn=>%[0|0]),(by intros;rfl)|24]|12]|10],?_⟩
  rw [show start ["self"] [.ref v]=[some (.ref v)] from rfl]
  ac_rfl
  have wk:=wk_al (K:=K) (R:=axP) (λ _ _ _ _ h e=>h.ext e) hl (al_axP al)
  refine comp_fm axs (λ _=>true) (λ a=>.int a.1) axP wk.1 wk.2 (len5000 %[0|8]) ?_ ?_
  ·intro D a x H' N1 N0 ha hD e ⟨q,hx,hq⟩ k1 _
   subst hx
   have k1':=k1 rfl H' (Ext.refl _)
   clear k1 k
   simp! only [↓m_kCm_2,↓m_kCm2]
  ·intro D H' hD e hD'
   exact k D H' hD e (by rw [hD',filt,List.map_map];rfl)
abbrev B_spVPaces (C:Addr) (v:Addr) (H:Hp) (Q:VK) (E:XK):Prop:=∃ (room first:Int) (axs:List (Int × Int)),ViewAt C H v room first axs/\axs.length<=8/\kSzs H Q (λ a=>a.2) axs
def spVPaces (C:Addr):Sp:=λ vs H Q E=>∃ (v:Addr),vs=[.ref v]/\(B_spVPaces C v H Q E)
abbrev B_spVCount (C:Addr) (v:Addr) (H:Hp) (Q:VK) (E:XK):Prop:=∃ (room first:Int) (axs:List (Int × Int)),ViewAt C H v room first axs/\Axes axs/\∀ H',Ext H H'->Q (.int (prodL (axs.map λ a=>a.1))) H'
def spVCount (C:Addr):Sp:=λ vs H Q E=>∃ (v:Addr),vs=[.ref v]/\(B_spVCount C v H Q E)
theorem c_spVCount (C:Addr) (v:Addr) (H:Hp) (Q:VK) (E:XK):spVCount C [.ref v] H Q E=(B_spVCount C v H Q E):=spx1 (f:=λ (v:Addr)=>[.ref v]) (λ _ _ h=>by cases h;exact rfl) v
theorem l_spVCount (C:Addr){vs:List V}{H:Hp}{Q:VK}{E:XK}(h:spVCount C vs H Q E):vs.length=1:=spl1 h λ _=>rfl
theorem ok_View_count (T:Tx K mg t):FnOk P w K mg base CX0 2 t.a_View_count t.d_View_count ["self"] (spVCount t.a_View):=by
 have G_View_sizes:=%[ok_View_sizes|36]
 have G_count_of:=%[ok_count_of|36]
 refine T.F_View_count.ok c_View_count (λ vs H Q E h=>l_spVCount _ h) (λ c A o s H vs Q E hr h=>?_)
 ·obtain ⟨v,rfl,room,first,axs,vo,hax,k⟩:=h
  obtain ⟨dx,l,hv,_⟩:=vo.ob
  have f3:=vn room first l (m := "sizes") nofun
  refine ⟨_,%[%[%[count_of,%[%[%[0|0],T.cl_View,T.mt_View_sizes,G_View_sizes,(hr.mono ⋯),T.b_View_sizes,.nil,pass0,∅|23]|1]|3]|12]|10],?_⟩
  rw [show start ["self"] [.ref v]=[some (.ref v)] from rfl]
  ac_rfl
  rw [c_spVSizes]
  refine ⟨room,first,axs,vo,hax.1,λ r H' hr' e h'=>?_⟩
  have k':=k H' e
  have hsz:=hax.sizes
  clear k
  simp! only [↓c_spCount,↓m_kSz,↓x_kCnt]
def spVInit (C:Addr):Sp:=λ vs H Q E=>∃ (x:Addr) (room:Int) (first:Int) (l:Addr),vs=[.ref x,.int room,.int first,.ref l]/\(∃ (dx:Addr) (axs:List (Int × Int)),H x=some (.ins C dx [])/\TupsAt H l (axL axs)/\ViewOk room first axs/\∀ (H':Hp) (D:Addr),(∀ H0,Ext H0 H->H0 x=none->Ext H0 H')->H D=none->H' x=some (.ins C dx (viewF room first D))->TupsAt H' D (axL (axs.map keptA))->Q .non H')
theorem c_spVInit (C:Addr) (x:Addr) (room:Int) (first:Int) (l:Addr) (H:Hp) (Q:VK) (E:XK):spVInit C [.ref x,.int room,.int first,.ref l] H Q E=(∃ (dx:Addr) (axs:List (Int × Int)),H x=some (.ins C dx [])/\TupsAt H l (axL axs)/\ViewOk room first axs/\∀ (H':Hp) (D:Addr),(∀ H0,Ext H0 H->H0 x=none->Ext H0 H')->H D=none->H' x=some (.ins C dx (viewF room first D))->TupsAt H' D (axL (axs.map keptA))->Q .non H'):=spx4 (f:=λ (x:Addr) (room:Int) (first:Int) (l:Addr)=>[.ref x,.int room,.int first,.ref l]) (λ _ _ _ _ _ _ _ _ h=>by cases h;exact ⟨rfl,rfl,rfl,rfl⟩) x room first l
theorem l_spVInit (C:Addr){vs:List V}{H:Hp}{Q:VK}{E:XK}(h:spVInit C vs H Q E):vs.length=4:=spl4 h λ _ _ _ _=>rfl
theorem ok_View___init__ (T:Tx K mg t):FnOk P w K mg base CX0 6 t.a_View___init__ t.d_View___init__ ["self", "room", "first", "axes"] (spVInit t.a_View):=by
 have G_is_within:=%[ok_is_within|36]
 have G_is_whole:=%[ok_is_whole|36]
 have G_are_axes:=%[ok_are_axes|36]
 have G_kept_axis:=%[ok_kept_axis|36]
 have G_View_least:=%[ok_View_least|36]
 have G_View_greatest:=%[ok_View_greatest|36]
 refine T.F_View___init__.ok c_View___init__ (λ vs H Q E h=>l_spVInit _ h) (λ c A o s H vs Q E hr h=>?_)
 ·obtain ⟨x,room,first,l,rfl,dx,axs,hx,tl,vok,k⟩:=h
  have c1:=T.cl_View
  have c2:=T.na_View_first
  have c3:=T.na_View_axes
  have c4:=T.na_View_room
  refine ⟨_,%[%[(PW.pt (@pw_or _ _ _ _ _ _ _ (@pt_not _ _ _ _ (@pt_valN _ _ _ %[is_within,%[%[1|0],%[%[0|2],%[(@pe_glob _ _ (.int 1000000000000000000) _ _ ∅ T.m_MOST_ROOM.choose_spec ⟨_,rfl⟩ ⋯)|1]|1]|1]|3] (by intros;rfl))) (@pw_or _ _ _ _ _ _ _ (@pt_not _ _ _ _ (@pt_valN _ _ _ %[is_whole,%[%[2|0]|1]|3] (by intros;rfl))) (@pw_or1 _ _ _ _ (@pt_not _ _ _ _ (@pt_valN _ _ _ %[are_axes,%[%[3|0]|1]|3] (by intros;rfl))))))),%[(@ps_never _ _)|10],(@pss_nil _)|16],%[%[%[0|0],%[1|0],rfl|27],%[%[%[0|0],%[2|0],rfl|27],%[%[%[0|0],%[(["axis", "self", "room", "first", "axes"]),(1),(comp_ok (defScope s_View___init__) ["self", "room", "first", "axes"] rfl rfl nofun),rfl,%[%[3|0]|22],(λ C s₀ H₀ ex pn=>%[(0),_,(show List.Nodup (["axis", "self", "room", "first", "axes"]:List Str) from by decide +kernel),rfl,(Or.inl rfl),%[0|7]|19]),(λ C s₀ H₀ ex pn=>(@pts_nil _)),(λ C s₀ H₀ ex pn=>%[kept_axis,%[%[0|0]|1]|3]),(by intros;rfl)|24],rfl|27],%[%[(PW.pt (@pw_or _ _ _ _ _ _ _ %[on_lt,%[%[0|0],T.cl_View,T.mt_View_least,G_View_least,(hr.mono ⋯),T.b_View_least,.nil,pass0,∅|23],%[0|2],(nomark _)|17] (@pw_or1 _ _ _ _ %[on_ge,%[%[0|0],T.cl_View,T.mt_View_greatest,G_View_greatest,(hr.mono ⋯),T.b_View_greatest,.nil,pass0,∅|23],%[1|0],(nomark _)|17]))),%[(@ps_never _ _)|10],(@pss_nil _)|16]|10]|9]|9]|9]|9],?_⟩
  rw [show start ["self", "room", "first", "axes"] [.ref x,.int room,.int first,.ref l]=[some (.ref x),some (.int room),some (.int first),some (.ref l)] from rfl]
  have r1:=vok.r1
  have r2:=vok.r2
  simp! only [↓c_spWithin,↓c_spWhole]
  rw [c_spAxes]
  refine ⟨axs,tl,vok.ax,λ H1 e1=>?_⟩
  have hx1:=e1.at hx
  have tl1:=tl.ext e1
  clear hx tl
  ac_rfl
  refine ⟨(show (1:Nat) < 1000 by decide),?_⟩
  obtain ⟨ys,hl1,al1⟩:=tl1
  have hlx:l ≠ x:=λ z=>by rw [z,hx1] at hl1;cases hl1
  have hx2:(upd H1 x (HO.ins t.a_View dx (putF "first" (V.int first) (putF "room" (V.int room) [])))) x=some (HO.ins t.a_View dx (putF "first" (V.int first) (putF "room" (V.int room) []))):=upd_same
  have hl2:(upd H1 x (HO.ins t.a_View dx (putF "first" (V.int first) (putF "room" (V.int room) [])))) l=some (.lst ys):=by rw [upd_ne hlx];exact hl1
  have al2:Al (λ a y=>axP a y (upd H1 x (HO.ins t.a_View dx (putF "first" (V.int first) (putF "room" (V.int room) []))))) axs ys:=(al_axP al1).imp λ a y ⟨q,hy,hq⟩=>⟨q,hy,by rw [upd_ne (λ z=>by rw [z,hx1] at hq;cases hq)];exact hq⟩
  have b2:∀ H0,Ext H0 H->H0 x=none->Ext H0 (upd H1 x (HO.ins t.a_View dx (putF "first" (V.int first) (putF "room" (V.int room) [])))):=λ H0 q0 q1=>(q0.trans e1).put q1
  have b3:∀ b,b ≠ x->(upd H1 x (HO.ins t.a_View dx (putF "first" (V.int first) (putF "room" (V.int room) [])))) b=none->H b=none:=λ b hb q=>by rw [upd_ne hb] at q;exact e1.free q
  generalize upd H1 x (HO.ins t.a_View dx (putF "first" (V.int first) (putF "room" (V.int room) [])))=H2 at hx2 hl2 al2 b2 b3
  clear hl1 al1 hx1
  ac_rfl
  have wk:=wk_al (K:=K) (R:=axP) (λ _ _ _ _ h e=>h.ext e) hl2 al2
  refine comp_rel axs (λ _=>true) axP (λ D a y H'=>∃ q,y=.ref q/\q ≠ D/\H' q=some (.tup [.int (keptA a).1,.int (keptA a).2])) wk.1 wk.2 (λ D _ y H1 H2 ⟨q,h1,h2,h3⟩ e=>⟨q,h1,h2,e.at h3⟩) (λ D _ y H1 o ⟨q,h1,h2,h3⟩=>⟨q,h1,h2,by rw [upd_ne h2];exact h3⟩) (len5000 (by have:=vok.ax.1;omega)) ?_ ?_
  ·intro D a y H' N1 N0 ha hD e ⟨ys0,hys0⟩ ⟨q,hy,hq⟩ k1 _
   subst hy
   have k1':=k1 rfl
   clear k1 k
   simp! only [↓m_kCm_1,↓m_kCm2]
   rw [c_spKept]
   exact ⟨a,hq,λ r H'' hr' e' h'=>k1' _ H'' e' ⟨r,rfl,(λ z=>by rw [z,hys0] at hr';cases hr'),h'⟩⟩
  ·intro D zs H3 hD e3 hD3 al3
   rw [filt] at al3
   have hx3:=e3.at hx2
   have hDx:D ≠ x:=λ z=>by rw [z,hx2] at hD;cases hD
   clear wk
   ac_rfl
   refine ⟨(show (2:Nat) < 1000 by decide),?_⟩
   have tt:TupsAt (upd H3 x (HO.ins t.a_View dx (viewF room first D))) D (axL (axs.map keptA)):=by
    refine ⟨zs,by rw [upd_ne hDx];exact hD3,?_,λ i z y hz hy=>?_⟩
    ·rw [al3.1];unfold axL;rw [List.length_map,List.length_map]
    ·unfold axL at hz
     rw [List.map_map,List.getElem?_map] at hz
     obtain ⟨a,ha,rfl⟩:=Option.map_eq_some_iff.mp hz
     obtain ⟨q,hq1,_,hq3⟩:=al3.2 i a y ha hy
     exact ⟨q,hq1,by rw [upd_ne (λ z=>by rw [z,hx3] at hq3;cases hq3)];exact hq3⟩
   have b4:∀ H0,Ext H0 H->H0 x=none->Ext H0 (upd H3 x (HO.ins t.a_View dx (viewF room first D))):=λ H0 q0 q1=>((b2 H0 q0 q1).trans e3).put q1
   have hx4:(upd H3 x (HO.ins t.a_View dx (viewF room first D))) x=some (HO.ins t.a_View dx (viewF room first D)):=upd_same
   have f1:=vn room first D (m := "least") nofun
   have f2:=vn room first D (m := "greatest") nofun
   refine ⟨f1,?_⟩
   show spLeast t.a_View [V.ref x] (upd H3 x (HO.ins t.a_View dx (viewF room first D))) _ _
   generalize upd H3 x (HO.ins t.a_View dx (viewF room first D))=H4 at tt b4 hx4
   have vo:ViewAt t.a_View H4 x room first (axs.map keptA):=⟨dx,D,hx4,tt⟩
   rw [c_spLeast]
   refine ⟨room,first,axs.map keptA,vo,vok.ax.kept,λ H5 e5=>?_⟩
   have hlo:¬ first+leastL (axs.map keptA) < 0:=by have:=vok.lo;omega
   have hx5:=e5.at hx4
   ac_rfl
   rw [c_spGreatest]
   refine ⟨room,first,axs.map keptA,vo.ext e5,vok.ax.kept,λ H6 e6=>?_⟩
   have hhi:¬ room<=first+greatL (axs.map keptA):=by have:=vok.hi;omega
   have k':=k H6 D (λ H0 q0 q1=>((b4 H0 q0 q1).trans e5).trans e6) (b3 D hDx hD) (e6.at hx5) ((tt.ext e5).ext e6)
   clear k
   ac_rfl
theorem wideL_take (cs:List Int) (a:Int × Int) (i:Nat) (c:Int) (h:cs[i]? = some c):wideL (cs.take (i+1)) a=wideL (cs.take i) a++(List.range a.1.toNat).map λ (n:Nat)=>c+(n:Int) * a.2:=by
 unfold wideL
 rw [List.take_add_one,h,List.flatMap_append]
 simp
abbrev B_spWidened  (p:Addr) (z:Int) (pc:Int) (H:Hp) (Q:VK) (E:XK):Prop:=∃ cs:List Int,H p=some (.lst (cs.map V.int))/\1<=z/\cs.length * z.toNat<=4096/\z<=1000000000/\∀ (r:Addr) (H':Hp),H r=none->Ext H H'->H' r=some (.lst ((wideL cs (z,pc)).map V.int))->Q (.ref r) H'
def spWidened  : Sp:=λ vs H Q E=>∃ (p:Addr) (z:Int) (pc:Int),vs=[.ref p,.int z,.int pc]/\(B_spWidened  p z pc H Q E)
theorem c_spWidened  (p:Addr) (z:Int) (pc:Int) (H:Hp) (Q:VK) (E:XK):spWidened  [.ref p,.int z,.int pc] H Q E=(B_spWidened  p z pc H Q E):=spx3 (f:=λ (p:Addr) (z:Int) (pc:Int)=>[.ref p,.int z,.int pc]) (λ _ _ _ _ _ _ h=>by cases h;exact ⟨rfl,rfl,rfl⟩) p z pc
theorem l_spWidened  {vs:List V}{H:Hp}{Q:VK}{E:XK}(h:spWidened  vs H Q E):vs.length=3:=spl3 h λ _ _ _=>rfl
theorem ok_widened (T:Tx K mg t):FnOk P w K mg base CX0 1 t.a_widened t.d_widened ["cells", "size", "pace"] spWidened:=by
 refine T.F_widened.ok c_widened (λ vs H Q E h=>l_spWidened h) (λ c A o s H vs Q E hr h=>?_)
 ·obtain ⟨p,z,pc,rfl,cs,hp,hz,hln,hz2,k⟩:=h
  refine ⟨_,%[%[3,c_widened,%[(@pa_nil _)|25]|4],%[%[PassesOwn.never,rfl,%[%[0|0]|22],%[(4),_,c_widened.nd,rfl,(Or.inr rfl),%[0|7]|19],%[%[%[PySem.F.plainAttrs_list,PySem.F.slot_list_extend,PySem.F.type_list_extend,mt_extend,%[3|0],%[%[(["number", "cells", "size", "pace", "found", "cell"]),(1),(comp_ok (defScope s_widened) ["cells", "size", "pace", "found", "cell"] rfl rfl nofun),rfl,%[∅,T.z_range,%[%[1|0]|1],∅|33],(λ C s₀ H₀ ex pn=>%[(0),_,(show List.Nodup (["number", "cells", "size", "pace", "found", "cell"]:List Str) from by decide +kernel),rfl,(Or.inl rfl),%[0|7]|19]),(λ C s₀ H₀ ex pn=>(@pts_nil _)),(λ C s₀ H₀ ex pn=>%[on_add,%[5|0],%[on_mul,%[0|0],%[3|0]|11]|11]),(by intros;rfl)|24]|1],∅,∅,∅,∅,∅|30],∅|13]|10],(by intros;rfl)|26],%[%[%[3|0]|12]|10]|9]|9],?_⟩
  rw [show start ["cells", "size", "pace", "found", "cell"] [.ref p,.int z,.int pc]=[some (.ref p),some (.int z),some (.int pc),none,none] from rfl]
  ac_rfl
  intro r H1 hr1 e1 h1
  have hp1:=e1.at hp
  ac_rfl
  refine for_lst (xs:=cs.map V.int) (λ i σ H'=>∃ v4:Option V,σ=[some (.ref p),some (.int z),some (.int pc),some (.ref r),v4]/\Ext H H'/\H' r=some (.lst ((wideL (cs.take i) (z,pc)).map V.int))) ⟨none,rfl,e1,h1⟩ (λ i σ H' _ ⟨_,_,e,_⟩=>e.at hp) ?_ ?_
  ·rintro i x _ H2 hi ⟨v4,rfl,e2,h2⟩
   rw [List.getElem?_map] at hi
   obtain ⟨c,hc,rfl⟩:=Option.map_eq_some_iff.mp hi
   have hil:i < cs.length:=(List.getElem?_eq_some_iff.mp hc).1
   have hzn:z.toNat<=4096:=by
    have:=Nat.mul_le_mul_right z.toNat (show 1<=cs.length by omega)
    omega
   have hwl:(wideL (cs.take i) (z,pc)).length+z.toNat<=4096:=by
    rw [wideL_len,List.length_take,show ((z,pc):Int × Int).1=z from rfl]
    have:(min i cs.length+1) * z.toNat<=cs.length * z.toNat:=Nat.mul_le_mul_right _ %[0|8]
    rw [Nat.add_mul,Nat.one_mul] at this
    omega
   simp! only [↓m_kBody]
   refine ⟨by omega,by omega,?_⟩
   refine comp_fm (List.range z.toNat) (λ _=>true) (λ j=>.int (c+(j:Int) * pc)) (λ j x H'=>x=.int (0+(j:Nat))) wk_rng.1 wk_rng.2 (len5000 (by rw [List.length_range];omega)) ?_ ?_
   ·intro D j x H' N1 N0 hj hD e hx k1 _
    subst hx
    have hj':=List.mem_range.mp hj
    have k1':=k1 rfl H' (Ext.refl _)
    have hcm:CMul (j:Int) pc:=.inl %[0|8]
    have e0:(0:Int)+(j:Int)=(j:Int):=Int.zero_add _
    clear k1 k hj
    simp! only [↓m_kCm_1,↓m_kCm2]
   ·intro D H3 hD e3 hD3
    have hD3':H3 D=some (.lst (((List.range z.toNat).map λ (j:Nat)=>c+(j:Int) * pc).map V.int)):=by rw [hD3,filt,List.map_map];rfl
    have h2_3:=e3.at h2
    have hle:(wideL (cs.take i) (z,pc)).length+(List.range z.toNat).length<=sizeLine:=len5000 (by rw [List.length_range];omega)
    clear hD3 hi
    ac_rfl
    refine ⟨_,rfl,(e2.trans e3).put hr1,?_⟩
    rw [wideL_take cs (z,pc) i c hc,List.map_append]
  ·rintro _ H2 ⟨v4,rfl,e2,h2⟩
   ac_rfl
   rw [List.length_map,List.take_length] at h2
   exact k r H2 hr1 e2 h2
abbrev B_spCells (C cT:Addr) (v:Addr) (H:Hp) (Q:VK) (E:XK):Prop:=∃ (room first:Int) (axs:List (Int × Int)),ViewAt C H v room first axs/\Axes axs/\(prodL (axs.map λ a=>a.1)<=4096->∀ (r:Addr) (H':Hp),H r=none->Ext H H'->H' r=some (.lst ((cellsL first axs).map V.int))->Q (.ref r) H')/\¬ 4096 < prodL (axs.map λ a=>a.1)
def spCells (C cT:Addr):Sp:=λ vs H Q E=>∃ (v:Addr),vs=[.ref v]/\(B_spCells C cT v H Q E)
theorem c_spCells (C cT:Addr) (v:Addr) (H:Hp) (Q:VK) (E:XK):spCells C cT [.ref v] H Q E=(B_spCells C cT v H Q E):=spx1 (f:=λ (v:Addr)=>[.ref v]) (λ _ _ h=>by cases h;exact rfl) v
theorem l_spCells (C cT:Addr){vs:List V}{H:Hp}{Q:VK}{E:XK}(h:spCells C cT vs H Q E):vs.length=1:=spl1 h λ _=>rfl
theorem ok_View_cells (T:Tx K mg t):FnOk P w K mg base CX0 4 t.a_View_cells t.d_View_cells ["self"] (spCells t.a_View t.a_TooMany):=by
 have G_View_count:=%[ok_View_count|36]
 have G_refuse_long:=%[ok_refuse_long|36]
 have G_widened:=%[ok_widened|36]
 refine T.F_View_cells.ok c_View_cells (λ vs H Q E h=>l_spCells _ _ h) (λ c A o s H vs Q E hr h=>?_)
 ·obtain ⟨v,rfl,room,first,axs,vo,hax,kQ,kE⟩:=h
  obtain ⟨dx,l,hv,ys,hl,al⟩:=vo.ob
  have c1:=T.cl_View
  have c2:=T.na_View_first
  have c3:=T.na_View_axes
  have f1:=viewF_first room first l
  have f2:=viewF_axes room first l
  have f3:=vn room first l (m := "count") nofun
  refine ⟨_,%[%[%[refuse_long,%[%[%[0|0],T.cl_View,T.mt_View_count,G_View_count,(hr.mono ⋯),T.b_View_count,.nil,pass0,∅|23]|1]|3],∅|13],%[%[1,c_View_cells,%[%[%[%[0|0],rfl|14]|1]|25]|4],%[%[PassesOwn.never,rfl,%[%[%[0|0],rfl|14]|22],(%[(2),rfl,%[%[2,c_View_cells|5],%[%[3,c_View_cells|5],(@pgs_nilN _),∅|18],∅|18],∅,∅|28].mono λ _ _ _ _ h=>gTup_q h),%[%[1,c_View_cells,%[widened,%[%[1|0],%[%[2|0],%[%[3|0]|1]|1]|1]|3]|4]|10],(by intros;rfl)|26],%[%[%[1|0]|12]|10]|9]|9]|9],?_⟩
  rw [show start ["self", "found", "size", "pace"] [.ref v]=[some (.ref v),none,none,none] from rfl]
  clear G_View_count G_refuse_long G_widened
  ac_rfl
  rw [c_spVCount]
  refine ⟨room,first,axs,vo,hax,λ H1 e1=>?_⟩
  have hv1:=e1.at hv
  have hl1:=e1.at hl
  ac_rfl
  rw [c_spLong]
  refine ⟨λ hc=>?_,kE⟩
  have kQ':=kQ hc
  clear kQ kE
  ac_rfl
  intro r H2 hr2 e2 h2
  have hv2:=e2.at hv1
  have hl2:=e2.at hl1
  ac_rfl
  have hpos:∀ a∈axs,(1:Int)<=a.1:=λ a ha=>(hax.2 a ha).1
  refine for_lst (xs:=ys) (λ i σ H'=>∃ (r:Addr) (v2 v3:Option V),σ=[some (.ref v),some (.ref r),v2,v3]/\Ext H H'/\H r=none/\H' r=some (.lst ((cellsL first (axs.take i)).map V.int))) ⟨r,none,none,rfl,e1.trans e2,e1.free hr2,h2⟩ (λ i σ H' _ ⟨_,_,_,_,e,_,_⟩=>e.at hl) ?_ ?_
  ·rintro i y _ H3 hi ⟨r3,v2,v3,rfl,e3,hr3,h3⟩
   obtain ⟨a,q,ha,rfl,hq⟩:=al_ax al hi
   have hq3:=e3.at hq
   have hm:=hax.2 a (List.mem_of_getElem? ha)
   simp! only [↓m_kBody]
   rw [c_spWidened]
   refine ⟨_,h3,hm.1,?_,hm.2,λ r4 H4 hr4 e4 h4=>?_⟩
   ·have hl4:=cellsL_len first (axs.take i) λ b hb=>hpos b (List.mem_of_mem_take hb)
    have hp:=prodL_take_le (axs.map λ a=>a.1) (λ n hn=>by obtain ⟨b,hb,rfl⟩:=List.mem_map.mp hn;exact hpos b hb) (i+1)
    rw [prodL_take _ i a.1 (by rw [List.getElem?_map,ha];rfl),←List.map_take,←hl4] at hp
    have hza:((a.1.toNat:Nat):Int)=a.1:=Int.toNat_of_nonneg %[0|8]
    have:(((cellsL first (axs.take i)).length * a.1.toNat:Nat):Int)<=4096:=by rw [Int.natCast_mul,hza];omega
    omega
   ·ac_rfl
    refine ⟨r4,_,_,rfl,e3.trans e4,e3.free hr4,?_⟩
    rw [h4,List.take_add_one,ha]
    show _=some (HO.lst (List.map V.int (cellsL first (axs.take i++[a]))))
    rw [cellsL_snoc]
  ·rintro _ H3 ⟨r3,v2,v3,rfl,e3,hr3,h3⟩
   have hyl:ys.length=axs.length:=by rw [al.1];unfold axL;rw [List.length_map]
   rw [hyl,List.take_length] at h3
   ac_rfl
   exact kQ' r3 H3 hr3 e3 h3
def storeF (l:Addr):List (Str × V):=putF "floor" (V.ref l) []
theorem storeF_floor (l:Addr):(storeF l).lookup ("floor":Str)=some (.ref l):=by
 unfold storeF
 rw [lookup_putF,if_pos rfl]
theorem storeF_no (l:Addr){m:Str}(h:m∈([("all_values":Str), "refuse_room", "read", "put", "copied", "fill"]:List Str)):(storeF l).lookup m=none:=by
 have:¬ m = "floor":=by
  revert m
  decide +kernel
 unfold storeF
 rw [lookup_putF,if_neg this]
 rfl
structure StoreAt (C:Addr) (H:Hp) (s l:Addr) (vals:List Int):Prop where
 ob:∃ dx,H s=some (.ins C dx (storeF l))
 fl:H l=some (.lst (vals.map V.int))
theorem StoreAt.ext {C:Addr}{H H':Hp}{s l:Addr}{vals:List Int}(h:StoreAt C H s l vals) (e:Ext H H'):StoreAt C H' s l vals:=by
 obtain ⟨dx,h1⟩:=h.ob
 exact ⟨⟨dx,e.at h1⟩,e.at h.fl⟩
abbrev B_spSInit (C:Addr) (x:Addr) (p:Addr) (H:Hp) (Q:VK) (E:XK):Prop:=∃ (dx:Addr) (vals:List Int),H x=some (.ins C dx [])/\H p=some (.lst (vals.map V.int))/\1<=vals.length/\vals.length<=4096/\∀ (H':Hp) (l:Addr),(∀ H0,Ext H0 H->H0 x=none->Ext H0 H')->H l=none->H' x=some (.ins C dx (storeF l))->H' l=some (.lst (vals.map V.int))->Q .non H'
def spSInit (C:Addr):Sp:=λ vs H Q E=>∃ (x:Addr) (p:Addr),vs=[.ref x,.ref p]/\(B_spSInit C x p H Q E)
theorem c_spSInit (C:Addr) (x:Addr) (p:Addr) (H:Hp) (Q:VK) (E:XK):spSInit C [.ref x,.ref p] H Q E=(B_spSInit C x p H Q E):=spx2 (f:=λ (x:Addr) (p:Addr)=>[.ref x,.ref p]) (λ _ _ _ _ h=>by cases h;exact ⟨rfl,rfl⟩) x p
theorem l_spSInit (C:Addr){vs:List V}{H:Hp}{Q:VK}{E:XK}(h:spSInit C vs H Q E):vs.length=2:=spl2 h λ _ _=>rfl
theorem ok_Store___init__ (T:Tx K mg t):FnOk P w K mg base CX0 4 t.a_Store___init__ t.d_Store___init__ ["self", "values"] (spSInit t.a_Store):=by
 have G_refuse_long:=%[ok_refuse_long|36]
 refine T.F_Store___init__.ok c_Store___init__ (λ vs H Q E h=>l_spSInit _ h) (λ c A o s H vs Q E hr h=>?_)
 ·obtain ⟨x,p,rfl,dx,vals,hx,hp,hv1,hv2,k⟩:=h
  have c1:=T.cl_Store
  have c2:=T.na_Store_floor
  refine ⟨_,%[%[%[(op_qEq hr.units),%[len,call_qLen,%[%[1|0]|1]|6],%[0|2],(nomark _)|17],%[(@ps_never _ _)|10],(@pss_nil _)|16],%[%[%[refuse_long,%[%[len,call_qLen,%[%[1|0]|1]|6]|1]|3],∅|13],%[%[%[0|0],%[call_nList,∅,T.z_list,nofun,%[%[1|0]|1],⋯,⋯,∅,∅|35],rfl|27]|10]|9]|9],?_⟩
  rw [show start ["self", "values"] [.ref x,.ref p]=[some (.ref x),some (.ref p)] from rfl]
  clear G_refuse_long
  have hv0:¬ ((vals.length:Int)=0):=by omega
  ac_rfl
  rw [c_spLong]
  refine ⟨λ _=>?_,λ h=>absurd h %[0|8]⟩
  ac_rfl
  intro l H1 hl e1 h1
  have hx1:=e1.at hx
  have hlx:l ≠ x:=λ z=>by rw [z,hx] at hl;cases hl
  ac_rfl
  exact k _ l (λ H0 q0 q1=>(q0.trans e1).put q1) hl upd_same (by rw [upd_ne hlx];exact h1)
abbrev B_spAllV (C:Addr) (s:Addr) (H:Hp) (Q:VK) (E:XK):Prop:=∃ (l:Addr) (vals:List Int),StoreAt C H s l vals/\vals.length<=4096/\∀ (r:Addr) (H':Hp),H r=none->Ext H H'->H' r=some (.lst (vals.map V.int))->Q (.ref r) H'
def spAllV (C:Addr):Sp:=λ vs H Q E=>∃ (s:Addr),vs=[.ref s]/\(B_spAllV C s H Q E)
theorem c_spAllV (C:Addr) (s:Addr) (H:Hp) (Q:VK) (E:XK):spAllV C [.ref s] H Q E=(B_spAllV C s H Q E):=spx1 (f:=λ (s:Addr)=>[.ref s]) (λ _ _ h=>by cases h;exact rfl) s
theorem l_spAllV (C:Addr){vs:List V}{H:Hp}{Q:VK}{E:XK}(h:spAllV C vs H Q E):vs.length=1:=spl1 h λ _=>rfl
theorem ok_Store_all_values (T:Tx K mg t):FnOk P w K mg base CX0 1 t.a_Store_all_values t.d_Store_all_values ["self"] (spAllV t.a_Store):=by
 refine T.F_Store_all_values.ok c_Store_all_values (λ vs H Q E h=>l_spAllV _ h) (λ c A o s' H vs Q E hr h=>?_)
 ·obtain ⟨s,rfl,l,vals,so,hv2,k⟩:=h
  obtain ⟨dx,hs⟩:=so.ob
  have hfl:=so.fl
  have c1:=T.cl_Store
  have c2:=T.na_Store_floor
  have f1:=storeF_floor l
  refine ⟨_,%[%[%[call_nList,∅,T.z_list,nofun,%[%[%[0|0],rfl|14]|1],⋯,⋯,∅,∅|35]|12]|10],?_⟩
  rw [show start ["self"] [.ref s]=[some (.ref s)] from rfl]
  ac_rfl
  intro r H1 hr1 e1 h1
  exact k r H1 hr1 e1 h1
abbrev B_spRoom (CS CV:Addr) (s:Addr) (v:Addr) (H:Hp) (Q:VK) (E:XK):Prop:=∃ (l:Addr) (vals:List Int) (room first:Int) (axs:List (Int × Int)),StoreAt CS H s l vals/\ViewAt CV H v room first axs/\room=vals.length/\Q .non H
def spRoom (CS CV:Addr):Sp:=λ vs H Q E=>∃ (s:Addr) (v:Addr),vs=[.ref s,.ref v]/\(B_spRoom CS CV s v H Q E)
theorem c_spRoom (CS CV:Addr) (s:Addr) (v:Addr) (H:Hp) (Q:VK) (E:XK):spRoom CS CV [.ref s,.ref v] H Q E=(B_spRoom CS CV s v H Q E):=spx2 (f:=λ (s:Addr) (v:Addr)=>[.ref s,.ref v]) (λ _ _ _ _ h=>by cases h;exact ⟨rfl,rfl⟩) s v
theorem l_spRoom (CS CV:Addr){vs:List V}{H:Hp}{Q:VK}{E:XK}(h:spRoom CS CV vs H Q E):vs.length=2:=spl2 h λ _ _=>rfl
theorem ok_Store_refuse_room (T:Tx K mg t):FnOk P w K mg base CX0 1 t.a_Store_refuse_room t.d_Store_refuse_room ["self", "view"] (spRoom t.a_Store t.a_View):=by
 refine T.F_Store_refuse_room.ok c_Store_refuse_room (λ vs H Q E h=>l_spRoom _ _ h) (λ c A o s' H vs Q E hr h=>?_)
 ·obtain ⟨s,v,rfl,l,vals,room,first,axs,so,vo,hroom,k⟩:=h
  obtain ⟨dx,hs⟩:=so.ob
  obtain ⟨dy,D,hv,_⟩:=vo.ob
  have hfl:=so.fl
  have c1:=T.cl_Store
  have c2:=T.na_Store_floor
  have c3:=T.cl_View
  have c4:=T.na_View_room
  have f1:=storeF_floor l
  have f2:=viewF_room room first D
  refine ⟨_,%[%[%[(op_qNe hr.units),%[%[1|0],rfl|14],%[len,call_qLen,%[%[%[0|0],rfl|14]|1]|6],(nomark _)|17],%[(@ps_never _ _)|10],(@pss_nil _)|16]|10],?_⟩
  rw [show start ["self", "view"] [.ref s,.ref v]=[some (.ref s),some (.ref v)] from rfl]
  subst hroom
  ac_rfl
def spRCount (CV:Addr):Sp:=λ vs H Q E=>∃ (v:Addr) (n:Int),vs=[.ref v,.int n]/\(∃ (room first:Int) (axs:List (Int × Int)),ViewAt CV H v room first axs/\Axes axs/\n=prodL (axs.map λ a=>a.1)/\∀ H',Ext H H'->Q .non H')
theorem c_spRCount (CV:Addr) (v:Addr) (n:Int) (H:Hp) (Q:VK) (E:XK):spRCount CV [.ref v,.int n] H Q E=(∃ (room first:Int) (axs:List (Int × Int)),ViewAt CV H v room first axs/\Axes axs/\n=prodL (axs.map λ a=>a.1)/\∀ H',Ext H H'->Q .non H'):=spx2 (f:=λ (v:Addr) (n:Int)=>[.ref v,.int n]) (λ _ _ _ _ h=>by cases h;exact ⟨rfl,rfl⟩) v n
theorem l_spRCount (CV:Addr){vs:List V}{H:Hp}{Q:VK}{E:XK}(h:spRCount CV vs H Q E):vs.length=2:=spl2 h λ _ _=>rfl
theorem ok_refuse_count (T:Tx K mg t):FnOk P w K mg base CX0 3 t.a_refuse_count t.d_refuse_count ["view", "many"] (spRCount t.a_View):=by
 have G_View_count:=%[ok_View_count|36]
 refine T.F_refuse_count.ok c_refuse_count (λ vs H Q E h=>l_spRCount _ h) (λ c A o s' H vs Q E hr h=>?_)
 ·obtain ⟨v,n,rfl,room,first,axs,vo,hax,hn,k⟩:=h
  obtain ⟨dy,D,hv,_⟩:=vo.ob
  have f3:=vn room first D (m := "count") nofun
  have c3:=T.cl_View
  refine ⟨_,%[%[%[(op_qNe hr.units),%[%[0|0],T.cl_View,T.mt_View_count,G_View_count,(hr.mono ⋯),T.b_View_count,.nil,pass0,∅|23],%[1|0],(nomark _)|17],%[(@ps_never _ _)|10],(@pss_nil _)|16]|10],?_⟩
  rw [show start ["view", "many"] [.ref v,.int n]=[some (.ref v),some (.int n)] from rfl]
  clear G_View_count
  subst hn
  ac_rfl
  rw [c_spVCount]
  refine ⟨room,first,axs,vo,hax,λ H1 e1=>?_⟩
  have k1:=k H1 e1
  clear k
  ac_rfl
theorem at_vals {vals:List Int}{c:Int}(h0:0<=c) (h1:c < vals.length):atI (vals.map V.int) c=some (.int (vals.getD c.toNat 0)):=by
 obtain ⟨n,rfl⟩:=Int.eq_ofNat_of_zero_le h0
 have hn:n < vals.length:=by omega
 refine atI_nat ?_
 rw [List.getElem?_map,List.getElem?_eq_getElem hn]
 simp [List.getD,List.getElem?_eq_getElem hn]
theorem ix_in {n:Nat}{c:Int}(h0:0<=c) (h1:c < n):ixN n c=some c.toNat:=by
 unfold ixN
 rw [if_pos h0,if_pos %[0|8]]
theorem al_ints (cs:List Int):Al (λ (z:Int) (y:V)=>y=.int z) cs (cs.map V.int):=by
 refine ⟨by rw [List.length_map],λ i z y hz hy=>?_⟩
 rw [List.getElem?_map,hz] at hy
 cases hy
 rfl
def OnFloor (cs:List Int) (n:Nat):Prop:=∀ c∈cs,0<=c/\c < (n:Int)
def readL (vals cs:List Int):List Int:=cs.map λ c=>vals.getD c.toNat 0
def putL (vals cs ws:List Int):List Int:=(cs.zip ws).foldl (λ vs p=>vs.set p.1.toNat p.2) vals
abbrev B_spRead (CS CV:Addr) (s:Addr) (v:Addr) (H:Hp) (Q:VK) (E:XK):Prop:=∃ (l:Addr) (vals:List Int) (room first:Int) (axs:List (Int × Int)),StoreAt CS H s l vals/\ViewAt CV H v room first axs/\Axes axs/\room=vals.length/\prodL (axs.map λ a=>a.1)<=4096/\OnFloor (cellsL first axs) vals.length/\∀ (r:Addr) (H':Hp),H r=none->Ext H H'->H' r=some (.lst ((readL vals (cellsL first axs)).map V.int))->Q (.ref r) H'
def spRead (CS CV:Addr):Sp:=λ vs H Q E=>∃ (s:Addr) (v:Addr),vs=[.ref s,.ref v]/\(B_spRead CS CV s v H Q E)
theorem c_spRead (CS CV:Addr) (s:Addr) (v:Addr) (H:Hp) (Q:VK) (E:XK):spRead CS CV [.ref s,.ref v] H Q E=(B_spRead CS CV s v H Q E):=spx2 (f:=λ (s:Addr) (v:Addr)=>[.ref s,.ref v]) (λ _ _ _ _ h=>by cases h;exact ⟨rfl,rfl⟩) s v
theorem l_spRead (CS CV:Addr){vs:List V}{H:Hp}{Q:VK}{E:XK}(h:spRead CS CV vs H Q E):vs.length=2:=spl2 h λ _ _=>rfl
theorem ok_Store_read (T:Tx K mg t):FnOk P w K mg base CX0 5 t.a_Store_read t.d_Store_read ["self", "view"] (spRead t.a_Store t.a_View):=by
 have G_Store_refuse_room:=%[ok_Store_refuse_room|36]
 have G_View_cells:=%[ok_View_cells|36]
 refine T.F_Store_read.ok c_Store_read (λ vs H Q E h=>l_spRead _ _ h) (λ c A o s' H vs Q E hr h=>?_)
 ·obtain ⟨s,v,rfl,l,vals,room,first,axs,so,vo,hax,hroom,hpr,hon,k⟩:=h
  subst hroom
  obtain ⟨dx,hs⟩:=so.ob
  obtain ⟨dy,D,hv,_⟩:=vo.ob
  have hfl:=so.fl
  have c1:=T.cl_Store
  have c2:=T.na_Store_floor
  have c3:=T.cl_View
  have f1:=storeF_floor l
  have f2:=storeF_no l (m := "refuse_room") nofun
  have f3:=vn (vals.length:Int) first D (m := "cells") nofun
  refine ⟨_,%[%[%[%[0|0],T.cl_Store,T.mt_Store_refuse_room,G_Store_refuse_room,(hr.mono ⋯),T.b_Store_refuse_room,.nil,pass0,%[%[1|0]|1],∅,∅,∅|21],∅|13],%[%[%[(["cell", "self", "view"]),(1),(comp_ok (defScope s_Store_read) ["self", "view"] rfl rfl nofun),rfl,%[%[%[1|0],T.cl_View,T.mt_View_cells,G_View_cells,(hr.mono ⋯),T.b_View_cells,.nil,pass0,∅|23]|22],(λ C s₀ H₀ ex pn=>%[(0),_,(show List.Nodup (["cell", "self", "view"]:List Str) from by decide +kernel),rfl,(Or.inl rfl),%[0|7]|19]),(λ C s₀ H₀ ex pn=>(@pts_nil _)),(λ C s₀ H₀ ex pn=>%[ix_q,(@pe_nFld' _ _ _ _ _ (K) rfl %[1|0] rfl),%[0|0],(λ _ _=>rfl)|15]),(by intros;rfl)|24]|12]|10]|9],?_⟩
  rw [show start ["self", "view"] [.ref s,.ref v]=[some (.ref s),some (.ref v)] from rfl]
  clear G_Store_refuse_room G_View_cells
  ac_rfl
  rw [c_spRoom]
  refine ⟨l,vals,_,first,axs,so,vo,rfl,?_⟩
  ac_rfl
  rw [c_spCells]
  refine ⟨_,first,axs,vo,hax,λ _ r1 H1 hr1 e1 h1=>?_,λ h=>absurd h %[0|8]⟩
  have hcl:=cellsL_len first axs λ a ha=>(hax.2 a ha).1
  have hs1:=e1.at hs
  have hfl1:=e1.at hfl
  unfold readL at k
  generalize cellsL first axs=cs at h1 hon k hcl
  have hcl2:cs.length<=4096:=by omega
  ac_rfl
  have wk:=wk_al (K:=K) (R:=λ (z:Int) y _=>y=.int z) (λ _ _ _ _ h _=>h) h1 (al_ints cs)
  refine comp_fm cs (λ _=>true) (λ c=>.int (vals.getD c.toNat 0)) (λ z y _=>y=.int z) wk.1 wk.2 (len5000 %[0|8]) ?_ ?_
  ·intro D2 c y H' N1 N0 hc hD e hy k1 _
   subst hy
   have hat:=at_vals (hon c hc).1 (hon c hc).2
   have k1':=k1 rfl H' (Ext.refl _)
   have hs':=e.at hs1
   have hfl':=e.at hfl1
   clear k1 k hon hc
   simp! only [↓m_kCm_1,↓m_kCm2]
  ·intro D2 H2 hD2 e2 h2
   rw [filt] at h2
   have k2:=k D2 H2 (e1.free hD2) (e1.trans e2) (by rw [h2,List.map_map];rfl)
   clear k hon
   ac_rfl
theorem putL_take {vals cs ws:List Int}{i:Nat}{c z:Int}(hc:cs[i]? = some c) (hw:ws[i]? = some z):putL vals (cs.take (i+1)) (ws.take (i+1))=(putL vals (cs.take i) (ws.take i)).set c.toNat z:=by
 unfold putL
 have e1:(cs.take (i+1)).zip (ws.take (i+1))=(cs.take i).zip (ws.take i)++[(c,z)]:=by
  rw [List.take_add_one,List.take_add_one,hc,hw,List.zip_append (by
   have h1:=(List.getElem?_eq_some_iff.mp hc).1
   have h2:=(List.getElem?_eq_some_iff.mp hw).1
   rw [List.length_take,List.length_take];omega)]
  rfl
 rw [e1,List.foldl_append]
 rfl
theorem putL_len (vals:List Int):∀ (ps:List (Int × Int)),(ps.foldl (λ vs p=>vs.set p.1.toNat p.2) vals).length=vals.length:=by
 intro ps
 induction ps generalizing vals with
 | nil=>rfl
 | cons p ps ih=>rw [List.foldl_cons,ih,List.length_set]
theorem putL_length (vals cs ws:List Int):(putL vals cs ws).length=vals.length:=putL_len vals _
theorem map_set' (xs:List Int) (j:Nat) (z:Int):(xs.map V.int).set j (.int z)=(xs.set j z).map V.int:=by
 rw [List.map_set]
def spPut (CS CV:Addr):Sp:=λ vs H Q E=>∃ (s:Addr) (v:Addr) (p:Addr),vs=[.ref s,.ref v,.ref p]/\(∃ (l:Addr) (vals:List Int) (room first:Int) (axs:List (Int × Int)) (ws:List Int),StoreAt CS H s l vals/\ViewAt CV H v room first axs/\Axes axs/\room=vals.length/\vals.length<=4096/\prodL (axs.map λ a=>a.1)<=4096/\OnFloor (cellsL first axs) vals.length/\H p=some (.lst (ws.map V.int))/\p ≠ l/\(ws.length:Int)=prodL (axs.map λ a=>a.1)/\∀ H',(∀ H0,Ext H0 H->H0 l=none->Ext H0 H')->(∀ b o,b ≠ l->H b=some o->H' b=some o)->H' l=some (.lst ((putL vals (cellsL first axs) ws).map V.int))->Q .non H')
theorem c_spPut (CS CV:Addr) (s:Addr) (v:Addr) (p:Addr) (H:Hp) (Q:VK) (E:XK):spPut CS CV [.ref s,.ref v,.ref p] H Q E=(∃ (l:Addr) (vals:List Int) (room first:Int) (axs:List (Int × Int)) (ws:List Int),StoreAt CS H s l vals/\ViewAt CV H v room first axs/\Axes axs/\room=vals.length/\vals.length<=4096/\prodL (axs.map λ a=>a.1)<=4096/\OnFloor (cellsL first axs) vals.length/\H p=some (.lst (ws.map V.int))/\p ≠ l/\(ws.length:Int)=prodL (axs.map λ a=>a.1)/\∀ H',(∀ H0,Ext H0 H->H0 l=none->Ext H0 H')->(∀ b o,b ≠ l->H b=some o->H' b=some o)->H' l=some (.lst ((putL vals (cellsL first axs) ws).map V.int))->Q .non H'):=spx3 (f:=λ (s:Addr) (v:Addr) (p:Addr)=>[.ref s,.ref v,.ref p]) (λ _ _ _ _ _ _ h=>by cases h;exact ⟨rfl,rfl,rfl⟩) s v p
theorem l_spPut (CS CV:Addr){vs:List V}{H:Hp}{Q:VK}{E:XK}(h:spPut CS CV vs H Q E):vs.length=3:=spl3 h λ _ _ _=>rfl
theorem ok_Store_put (T:Tx K mg t):FnOk P w K mg base CX0 5 t.a_Store_put t.d_Store_put ["self", "view", "values"] (spPut t.a_Store t.a_View):=by
 have G_Store_refuse_room:=%[ok_Store_refuse_room|36]
 have G_refuse_count:=%[ok_refuse_count|36]
 have G_View_cells:=%[ok_View_cells|36]
 refine T.F_Store_put.ok c_Store_put (λ vs H Q E h=>l_spPut _ _ h) (λ c A o s' H vs Q E hr h=>?_)
 ·obtain ⟨s,v,p,rfl,l,vals,room,first,axs,ws,so,vo,hax,hroom,hv2,hpr,hon,hp,hpl,hwl,k⟩:=h
  subst hroom
  obtain ⟨dx,hs⟩:=so.ob
  obtain ⟨dy,D,hv,_⟩:=vo.ob
  have hfl:=so.fl
  have c1:=T.cl_Store
  have c2:=T.na_Store_floor
  have c3:=T.cl_View
  have f1:=storeF_floor l
  have f2:=storeF_no l (m := "refuse_room") nofun
  have f3:=vn (vals.length:Int) first D (m := "cells") nofun
  refine ⟨_,%[%[%[%[0|0],T.cl_Store,T.mt_Store_refuse_room,G_Store_refuse_room,(hr.mono ⋯),T.b_Store_refuse_room,.nil,pass0,%[%[1|0]|1],∅,∅,∅|21],∅|13],%[%[%[refuse_count,%[%[1|0],%[%[len,call_qLen,%[%[2|0]|1]|6]|1]|1]|3],∅|13],%[%[PassesOwn.never,rfl,(@pi_zip _ _ _ _ _ _ _ _ _ ∅ T.z_zip %[%[%[1|0],T.cl_View,T.mt_View_cells,G_View_cells,(hr.mono ⋯),T.b_View_cells,.nil,pass0,∅|23],%[%[2|0]|1]|1] ∅ ∅),(%[(2),rfl,%[%[3,c_Store_put|5],%[%[4,c_Store_put|5],(@pgs_nilN _),∅|18],∅|18],∅,∅|28].mono λ _ _ _ _ h=>gTup_q h),%[(@ps_asg _ _ _ _ _ _ %[4|0] (@pg_sub _ _ _ _ _ _ _ %[%[0|0],rfl|14] %[3|0] set_list (by intros;rfl)) ∅ ∅ ∅)|10],(by intros;rfl)|26]|10]|9]|9],?_⟩
  rw [show start ["self", "view", "values", "cell", "value"] [.ref s,.ref v,.ref p]=[some (.ref s),some (.ref v),some (.ref p),none,none] from rfl]
  clear G_Store_refuse_room G_refuse_count G_View_cells
  ac_rfl
  rw [c_spRoom]
  refine ⟨l,vals,_,first,axs,so,vo,rfl,?_⟩
  ac_rfl
  rw [c_spRCount]
  refine ⟨_,first,axs,vo,hax,(by first|rfl|exact hwl),λ H1 e1=>?_⟩
  have hv1:=e1.at hv
  have hp1:=e1.at hp
  ac_rfl
  rw [c_spCells]
  refine ⟨_,first,axs,vo.ext e1,hax,λ _ r2 H2 hr2 e2 h2=>?_,λ h=>absurd h %[0|8]⟩
  have hcl:=cellsL_len first axs λ a ha=>(hax.2 a ha).1
  generalize cellsL first axs=cs at h2 hon k hcl
  have hcl2:cs.length=ws.length:=by omega
  have hp2:=e2.at hp1
  have hs2:=(e1.trans e2).at hs
  have hfl2:=(e1.trans e2).at hfl
  have hr2l:r2 ≠ l:=λ z=>by rw [z,e1.at hfl] at hr2;cases hr2
  ac_rfl
  refine for_zip (ka:=false) (kb:=false) (xs:=cs.map V.int) (ys:=ws.map V.int) (λ i σ H'=>∃ v3 v4:Option V,σ=[some (.ref s),some (.ref v),some (.ref p),v3,v4]/\(∀ H0,Ext H0 H2->H0 l=none->Ext H0 H')/\(∀ b o,b ≠ l->H2 b=some o->H' b=some o)/\H' l=some (.lst ((putL vals (cs.take i) (ws.take i)).map V.int))) ⟨none,none,rfl,λ _ q _=>q,λ _ _ _ q=>q,hfl2⟩ (λ i σ H' ⟨_,_,_,_,hk,_⟩=>⟨hk _ _ hr2l h2,hk _ _ hpl hp2⟩) ?_ ?_
  ·rintro i u x q _ H3 H4 hu hx ⟨v3,v4,rfl,ha3,hk3,h3⟩ hq e4 h4
   rw [List.getElem?_map] at hu hx
   obtain ⟨c,hc,rfl⟩:=Option.map_eq_some_iff.mp hu
   obtain ⟨z,hz,rfl⟩:=Option.map_eq_some_iff.mp hx
   have hcb:=hon c (List.mem_of_getElem? hc)
   have hs4:=e4.at (hk3 _ _ (λ z=>by rw [z,hfl2] at hs2;cases hs2) hs2)
   have h3_4:=e4.at h3
   have hlen:=putL_length vals (cs.take i) (ws.take i)
   have hput:=λ (_:Unit)=>putL_take (vals:=vals) hc hz
   generalize putL vals (cs.take i) (ws.take i)=vv at h3 h3_4 hlen hput
   have hix:ixN vv.length c=some c.toNat:=ix_in hcb.1 (by rw [hlen];exact hcb.2)
   clear hu hx hc hz k hon hlen h3
   simp! only [↓m_kBody]
   refine ⟨_,_,rfl,λ H0 q0 q1=>((ha3 H0 q0 q1).trans e4).put q1,λ b o hb hbo=>by rw [upd_ne hb];exact e4.at (hk3 b o hb hbo),?_⟩
   rw [hput (),←map_set']
  ·rintro _ H3 ⟨v3,v4,rfl,ha3,hk3,h3⟩
   have hm:min (cs.map V.int).length (ws.map V.int).length=cs.length:=by rw [List.length_map,List.length_map];omega
   rw [hm,List.take_length,hcl2,List.take_length] at h3
   exact k H3 (λ H0 q0 q1=>ha3 H0 (q0.trans (e1.trans e2)) q1) (λ b o hb hbo=>hk3 b o hb ((e1.trans e2).at hbo)) h3
def fillL (vals cs:List Int) (z:Int):List Int:=cs.foldl (λ vs c=>vs.set c.toNat z) vals
theorem fillL_len (z:Int):∀ (cs vals:List Int),(fillL vals cs z).length=vals.length
 | [],vals=>rfl
 | c::cs,vals=>by
  show (fillL (vals.set c.toNat z) cs z).length=_
  rw [fillL_len z cs,List.length_set]
theorem fillL_take {vals cs:List Int}{z:Int}{i:Nat}{c:Int}(hc:cs[i]? = some c):fillL vals (cs.take (i+1)) z=(fillL vals (cs.take i) z).set c.toNat z:=by
 unfold fillL
 rw [List.take_add_one,hc,List.foldl_append]
 rfl
abbrev B_spFill (CS CV:Addr) (s:Addr) (v:Addr) (z:Int) (H:Hp) (Q:VK) (E:XK):Prop:=∃ (l:Addr) (vals:List Int) (room first:Int) (axs:List (Int × Int)),StoreAt CS H s l vals/\ViewAt CV H v room first axs/\Axes axs/\room=vals.length/\vals.length<=4096/\prodL (axs.map λ a=>a.1)<=4096/\OnFloor (cellsL first axs) vals.length/\∀ H',(∀ H0,Ext H0 H->H0 l=none->Ext H0 H')->(∀ b o,b ≠ l->H b=some o->H' b=some o)->H' l=some (.lst ((fillL vals (cellsL first axs) z).map V.int))->Q .non H'
def spFill (CS CV:Addr):Sp:=λ vs H Q E=>∃ (s:Addr) (v:Addr) (z:Int),vs=[.ref s,.ref v,.int z]/\(B_spFill CS CV s v z H Q E)
theorem c_spFill (CS CV:Addr) (s:Addr) (v:Addr) (z:Int) (H:Hp) (Q:VK) (E:XK):spFill CS CV [.ref s,.ref v,.int z] H Q E=(B_spFill CS CV s v z H Q E):=spx3 (f:=λ (s:Addr) (v:Addr) (z:Int)=>[.ref s,.ref v,.int z]) (λ _ _ _ _ _ _ h=>by cases h;exact ⟨rfl,rfl,rfl⟩) s v z
theorem l_spFill (CS CV:Addr){vs:List V}{H:Hp}{Q:VK}{E:XK}(h:spFill CS CV vs H Q E):vs.length=3:=spl3 h λ _ _ _=>rfl
theorem ok_Store_fill (T:Tx K mg t):FnOk P w K mg base CX0 5 t.a_Store_fill t.d_Store_fill ["self", "view", "value"] (spFill t.a_Store t.a_View):=by
 have G_Store_refuse_room:=%[ok_Store_refuse_room|36]
 have G_View_cells:=%[ok_View_cells|36]
 refine T.F_Store_fill.ok c_Store_fill (λ vs H Q E h=>l_spFill _ _ h) (λ c A o s' H vs Q E hr h=>?_)
 ·obtain ⟨s,v,z,rfl,l,vals,room,first,axs,so,vo,hax,hroom,hv2,hpr,hon,k⟩:=h
  subst hroom
  obtain ⟨dx,hs⟩:=so.ob
  obtain ⟨dy,D,hv,_⟩:=vo.ob
  have hfl:=so.fl
  have c1:=T.cl_Store
  have c2:=T.na_Store_floor
  have c3:=T.cl_View
  have f1:=storeF_floor l
  have f2:=storeF_no l (m := "refuse_room") nofun
  have f3:=vn (vals.length:Int) first D (m := "cells") nofun
  refine ⟨_,%[%[%[%[0|0],T.cl_Store,T.mt_Store_refuse_room,G_Store_refuse_room,(hr.mono ⋯),T.b_Store_refuse_room,.nil,pass0,%[%[1|0]|1],∅,∅,∅|21],∅|13],%[%[PassesOwn.never,rfl,%[%[%[1|0],T.cl_View,T.mt_View_cells,G_View_cells,(hr.mono ⋯),T.b_View_cells,.nil,pass0,∅|23]|22],%[3,c_Store_fill|5],%[(@ps_asg _ _ _ _ _ _ %[2|0] (@pg_sub _ _ _ _ _ _ _ %[%[0|0],rfl|14] %[3|0] set_list (by intros;rfl)) ∅ ∅ ∅)|10],(by intros;rfl)|26]|10]|9],?_⟩
  rw [show start ["self", "view", "value", "cell"] [.ref s,.ref v,.int z]=[some (.ref s),some (.ref v),some (.int z),none] from rfl]
  clear G_Store_refuse_room G_View_cells
  ac_rfl
  rw [c_spRoom]
  refine ⟨l,vals,_,first,axs,so,vo,rfl,?_⟩
  ac_rfl
  rw [c_spCells]
  refine ⟨_,first,axs,vo,hax,λ _ r2 H2 hr2 e2 h2=>?_,λ h=>absurd h %[0|8]⟩
  generalize cellsL first axs=cs at h2 hon k
  have hs2:=e2.at hs
  have hfl2:=e2.at hfl
  have hr2l:r2 ≠ l:=λ z=>by rw [z,hfl] at hr2;cases hr2
  ac_rfl
  refine for_lst (xs:=cs.map V.int) (λ i σ H'=>∃ v3:Option V,σ=[some (.ref s),some (.ref v),some (.int z),v3]/\(∀ H0,Ext H0 H2->H0 l=none->Ext H0 H')/\(∀ b o,b ≠ l->H2 b=some o->H' b=some o)/\H' l=some (.lst ((fillL vals (cs.take i) z).map V.int))) ⟨none,rfl,λ _ q _=>q,λ _ _ _ q=>q,hfl2⟩ (λ i σ H' _ ⟨_,_,_,hk,_⟩=>hk _ _ hr2l h2) ?_ ?_
  ·rintro i x _ H3 hx ⟨v3,rfl,ha3,hk3,h3⟩
   rw [List.getElem?_map] at hx
   obtain ⟨c,hc,rfl⟩:=Option.map_eq_some_iff.mp hx
   have hcb:=hon c (List.mem_of_getElem? hc)
   have hs3:=hk3 _ _ (λ z=>by rw [z,hfl2] at hs2;cases hs2) hs2
   have hlen:=fillL_len z (cs.take i) vals
   have hput:=λ (_:Unit)=>fillL_take (vals:=vals) (z:=z) hc
   generalize fillL vals (cs.take i) z=vv at h3 hlen hput
   have hix:ixN vv.length c=some c.toNat:=ix_in hcb.1 (by rw [hlen];exact hcb.2)
   clear hx hc k hon hlen
   simp! only [↓m_kBody]
   refine ⟨_,rfl,λ H0 q0 q1=>(ha3 H0 q0 q1).put q1,λ b o hb hbo=>by rw [upd_ne hb];exact hk3 b o hb hbo,?_⟩
   rw [hput (),←map_set']
  ·rintro _ H3 ⟨v3,rfl,ha3,hk3,h3⟩
   rw [List.length_map,List.take_length] at h3
   have k':=k H3 (λ H0 q0 q1=>ha3 H0 (q0.trans e2) q1) (λ b o hb hbo=>hk3 b o hb (e2.at hbo)) h3
   clear k
   ac_rfl
abbrev B_spCopied (CS CV:Addr) (s:Addr) (v:Addr) (u:Addr) (H:Hp) (Q:VK) (E:XK):Prop:=∃ (l:Addr) (vals:List Int) (f1 f2:Int) (a1 a2:List (Int × Int)),StoreAt CS H s l vals/\ViewAt CV H v vals.length f1 a1/\ViewAt CV H u vals.length f2 a2/\Axes a1/\Axes a2/\vals.length<=4096/\prodL (a1.map λ a=>a.1)<=4096/\prodL (a2.map λ a=>a.1)=prodL (a1.map λ a=>a.1)/\OnFloor (cellsL f1 a1) vals.length/\OnFloor (cellsL f2 a2) vals.length/\∀ H',(∀ H0,Ext H0 H->H0 l=none->Ext H0 H')->(∀ b o,b ≠ l->H b=some o->H' b=some o)->H' l=some (.lst ((putL vals (cellsL f1 a1) (readL vals (cellsL f2 a2))).map V.int))->Q .non H'
def spCopied (CS CV:Addr):Sp:=λ vs H Q E=>∃ (s:Addr) (v:Addr) (u:Addr),vs=[.ref s,.ref v,.ref u]/\(B_spCopied CS CV s v u H Q E)
theorem c_spCopied (CS CV:Addr) (s:Addr) (v:Addr) (u:Addr) (H:Hp) (Q:VK) (E:XK):spCopied CS CV [.ref s,.ref v,.ref u] H Q E=(B_spCopied CS CV s v u H Q E):=spx3 (f:=λ (s:Addr) (v:Addr) (u:Addr)=>[.ref s,.ref v,.ref u]) (λ _ _ _ _ _ _ h=>by cases h;exact ⟨rfl,rfl,rfl⟩) s v u
theorem l_spCopied (CS CV:Addr){vs:List V}{H:Hp}{Q:VK}{E:XK}(h:spCopied CS CV vs H Q E):vs.length=3:=spl3 h λ _ _ _=>rfl
theorem ok_Store_copied (T:Tx K mg t):FnOk P w K mg base CX0 6 t.a_Store_copied t.d_Store_copied ["self", "to", "source"] (spCopied t.a_Store t.a_View):=by
 have G_Store_refuse_room:=%[ok_Store_refuse_room|36]
 have G_refuse_count:=%[ok_refuse_count|36]
 have G_View_count:=%[ok_View_count|36]
 have G_Store_read:=%[ok_Store_read|36]
 have G_Store_put:=%[ok_Store_put|36]
 refine T.F_Store_copied.ok c_Store_copied (λ vs H Q E h=>l_spCopied _ _ h) (λ c A o s' H vs Q E hr h=>?_)
 ·obtain ⟨s,v,u,rfl,l,vals,f1,f2,a1,a2,so,vo,wo,hx1,hx2,hv2,hp1,hp2,ho1,ho2,k⟩:=h
  obtain ⟨dx,hs⟩:=so.ob
  obtain ⟨dy,D,hv,_⟩:=vo.ob
  obtain ⟨dz,D2,hu,_⟩:=wo.ob
  have hfl:=so.fl
  have c1:=T.cl_Store
  have c3:=T.cl_View
  have g1:=storeF_no l (m := "refuse_room") nofun
  have g2:=storeF_no l (m := "read") nofun
  have g3:=storeF_no l (m := "put") nofun
  have g4:=vn (vals.length:Int) f2 D2 (m := "count") nofun
  refine ⟨_,%[%[%[%[0|0],T.cl_Store,T.mt_Store_refuse_room,G_Store_refuse_room,(hr.mono ⋯),T.b_Store_refuse_room,.nil,pass0,%[%[1|0]|1],∅,∅,∅|21],∅|13],%[%[%[%[0|0],T.cl_Store,T.mt_Store_refuse_room,G_Store_refuse_room,(hr.mono ⋯),T.b_Store_refuse_room,.nil,pass0,%[%[2|0]|1],∅,∅,∅|21],∅|13],%[%[%[refuse_count,%[%[1|0],%[%[%[2|0],T.cl_View,T.mt_View_count,G_View_count,(hr.mono ⋯),T.b_View_count,.nil,pass0,∅|23]|1]|1]|3],∅|13],%[%[%[%[0|0],T.cl_Store,T.mt_Store_put,G_Store_put,(hr.mono ⋯),T.b_Store_put,.nil,pass0,%[%[1|0],%[%[%[0|0],T.cl_Store,T.mt_Store_read,G_Store_read,(hr.mono ⋯),T.b_Store_read,.nil,pass0,%[%[2|0]|1],∅,∅,∅|21]|1]|1],∅,∅,∅|21],∅|13]|10]|9]|9]|9],?_⟩
  rw [show start ["self", "to", "source"] [.ref s,.ref v,.ref u]=[some (.ref s),some (.ref v),some (.ref u)] from rfl]
  clear G_Store_refuse_room G_refuse_count G_View_count G_Store_read G_Store_put
  ac_rfl
  rw [c_spRoom]
  refine ⟨l,vals,_,f1,a1,so,vo,rfl,?_⟩
  ac_rfl
  rw [c_spRoom]
  refine ⟨l,vals,_,f2,a2,so,wo,rfl,?_⟩
  ac_rfl
  rw [c_spVCount]
  refine ⟨_,f2,a2,wo,hx2,λ H1 e1=>?_⟩
  exists hp2
  ac_rfl
  rw [c_spRCount]
  refine ⟨_,f1,a1,vo.ext e1,hx1,hp2 (),λ H2 e2=>?_⟩
  have e12:=e1.trans e2
  have hs2:=e12.at hs
  ac_rfl
  rw [c_spRead]
  refine ⟨l,vals,_,f2,a2,so.ext e12,wo.ext e12,hx2,rfl,by rw [hp2 ()];exact hp1,ho2,λ r H3 hr3 e3 h3=>?_⟩
  have hrl:r ≠ l:=λ z=>by rw [z,e12.at hfl] at hr3;cases hr3
  have e13:=e12.trans e3
  ac_rfl
  rw [c_spPut]
  refine ⟨l,vals,_,f1,a1,_,so.ext e13,vo.ext e13,hx1,rfl,hv2,hp1,ho1,h3,hrl,?_,λ H4 q1 q2 q3=>?_⟩
  ·unfold readL
   rw [List.length_map,←hp2 ()]
   exact cellsL_len f2 a2 λ a ha=>(hx2.2 a ha).1
  ·have k1:=k H4 (λ H0 x0 x1=>q1 H0 (x0.trans e13) x1) (λ b o hb hbo=>q2 b o hb (e13.at hbo)) q3
   clear k
   ac_rfl
def clsW (t:Adr):Nat->Addr
 | 0=>t.a_Statement
 | 1=>t.a_Fill
 | 2=>t.a_Copy
 | 3=>t.a_Swap
 | _=>t.a_Raise
def fldW:Nat->Addr->Addr->V->List (Str × V)
 | 0,_,_,_=>[]
 | 1,u,_,x=>[("to",.ref u),("value",x)]
 | 2,u,v,_=>[("to",.ref u),("source",.ref v)]
 | 3,u,v,_=>[("one",.ref u),("other",.ref v)]
 | _,u,v,_=>[("to",.ref u),("source",.ref v)]
def wrs:Nat->Addr->Addr->List Addr
 | 0,_,_=>[]
 | 3,u,v=>[u,v]
 | _,u,_=>[u]
def rds:Nat->Addr->Addr->List Addr
 | 0,_,_=>[]
 | 1,_,_=>[]
 | 2,_,v=>[v]
 | _,u,v=>[u,v]
def StAt (t:Adr) (H:Hp) (s:Addr) (w:Nat) (u v:Addr):Prop:=w < 5/\∃ dx x,H s=some (.ins (clsW t w) dx (fldW w u v x))
abbrev B_spRooms (C:Addr) (u:Addr) (v:Addr) (H:Hp) (Q:VK) (E:XK):Prop:=∃ (r f1 f2:Int) (A B:List (Int × Int)),ViewAt C H u r f1 A/\ViewAt C H v r f2 B/\Q .non H
def spRooms (C:Addr):Sp:=λ vs H Q E=>∃ (u:Addr) (v:Addr),vs=[.ref u,.ref v]/\(B_spRooms C u v H Q E)
theorem c_spRooms (C:Addr) (u:Addr) (v:Addr) (H:Hp) (Q:VK) (E:XK):spRooms C [.ref u,.ref v] H Q E=(B_spRooms C u v H Q E):=spx2 (f:=λ (u:Addr) (v:Addr)=>[.ref u,.ref v]) (λ _ _ _ _ h=>by cases h;exact ⟨rfl,rfl⟩) u v
theorem l_spRooms (C:Addr){vs:List V}{H:Hp}{Q:VK}{E:XK}(h:spRooms C vs H Q E):vs.length=2:=spl2 h λ _ _=>rfl
theorem ok_refuse_rooms (T:Tx K mg t):FnOk P w K mg base CX0 1 t.a_refuse_rooms t.d_refuse_rooms ["one", "other"] (spRooms t.a_View):=by
 refine T.F_refuse_rooms.ok c_refuse_rooms (λ vs H Q E h=>l_spRooms _ h) (λ c A o s H vs Q E hr h=>?_)
 ·obtain ⟨u,v,rfl,ra,f1,f2,A,B,vu,vv,k⟩:=h
  obtain ⟨dx,D,hu,_⟩:=vu.ob
  obtain ⟨dy,D2,hv,_⟩:=vv.ob
  have c1:=T.cl_View
  have c4:=T.na_View_room
  have g1:=viewF_room ra f1 D
  have g2:=viewF_room ra f2 D2
  refine ⟨_,%[%[%[(op_qNe hr.units),%[%[0|0],rfl|14],%[%[1|0],rfl|14],(nomark _)|17],%[(@ps_never _ _)|10],(@pss_nil _)|16]|10],?_⟩
  rw [show start ["one", "other"] [.ref u,.ref v]=[some (.ref u),some (.ref v)] from rfl]
  ac_rfl
abbrev B_spTwo (C:Addr) (u:Addr) (v:Addr) (H:Hp) (Q:VK) (E:XK):Prop:=∃ (r f1 f2:Int) (A B:List (Int × Int)),ViewAt C H u r f1 A/\ViewAt C H v r f2 B/\Axes A/\Axes B/\prodL (A.map λ a=>a.1)=prodL (B.map λ a=>a.1)/\∀ H',Ext H H'->Q .non H'
def spTwo (C:Addr):Sp:=λ vs H Q E=>∃ (u:Addr) (v:Addr),vs=[.ref u,.ref v]/\(B_spTwo C u v H Q E)
theorem c_spTwo (C:Addr) (u:Addr) (v:Addr) (H:Hp) (Q:VK) (E:XK):spTwo C [.ref u,.ref v] H Q E=(B_spTwo C u v H Q E):=spx2 (f:=λ (u:Addr) (v:Addr)=>[.ref u,.ref v]) (λ _ _ _ _ h=>by cases h;exact ⟨rfl,rfl⟩) u v
theorem l_spTwo (C:Addr){vs:List V}{H:Hp}{Q:VK}{E:XK}(h:spTwo C vs H Q E):vs.length=2:=spl2 h λ _ _=>rfl
theorem ok_refuse_two (T:Tx K mg t):FnOk P w K mg base CX0 4 t.a_refuse_two t.d_refuse_two ["one", "other"] (spTwo t.a_View):=by
 have G_refuse_rooms:=%[ok_refuse_rooms|36]
 have G_View_count:=%[ok_View_count|36]
 have G_refuse_count:=%[ok_refuse_count|36]
 refine T.F_refuse_two.ok c_refuse_two (λ vs H Q E h=>l_spTwo _ h) (λ c A o s H vs Q E hr h=>?_)
 ·obtain ⟨u,v,rfl,ra,f1,f2,A,B,vu,vv,hA,hB,hc,k⟩:=h
  obtain ⟨dy,D2,hv,_⟩:=vv.ob
  have f3:=vn ra f2 D2 (m := "count") nofun
  have c1:=T.cl_View
  refine ⟨_,%[%[%[refuse_rooms,%[%[0|0],%[%[1|0]|1]|1]|3],∅|13],%[%[%[refuse_count,%[%[0|0],%[%[%[1|0],T.cl_View,T.mt_View_count,G_View_count,(hr.mono ⋯),T.b_View_count,.nil,pass0,∅|23]|1]|1]|3],∅|13]|10]|9],?_⟩
  rw [show start ["one", "other"] [.ref u,.ref v]=[some (.ref u),some (.ref v)] from rfl]
  clear G_refuse_rooms G_View_count G_refuse_count
  exists k
  ac_rfl
  rw [c_spRooms]
  refine ⟨ra,f1,f2,A,B,vu,vv,?_⟩
  ac_rfl
  rw [c_spVCount]
  refine ⟨ra,f2,B,vv,hB,λ H1 e1=>?_⟩
  ac_rfl
  rw [c_spRCount]
  refine ⟨ra,f1,A,vu.ext e1,hA,hc.symm,λ H2 e2=>?_⟩
  have k2:=k () H2 (e1.trans e2)
  clear k
  ac_rfl
abbrev B_spFInit (C:Addr) (x:Addr) (u:Addr) (y:V) (H:Hp) (Q:VK) (E:XK):Prop:=∃ dx:Addr,H x=some (.ins C dx [])/\∀ H':Hp,(∀ H0,Ext H0 H->H0 x=none->Ext H0 H')->H' x=some (.ins C dx [("to",.ref u),("value",y)])->Q .non H'
def spFInit (C:Addr):Sp:=λ vs H Q E=>∃ (x:Addr) (u:Addr) (y:V),vs=[.ref x,.ref u,y]/\(B_spFInit C x u y H Q E)
theorem c_spFInit (C:Addr) (x:Addr) (u:Addr) (y:V) (H:Hp) (Q:VK) (E:XK):spFInit C [.ref x,.ref u,y] H Q E=(B_spFInit C x u y H Q E):=spx3 (f:=λ (x:Addr) (u:Addr) (y:V)=>[.ref x,.ref u,y]) (λ _ _ _ _ _ _ h=>by cases h;exact ⟨rfl,rfl,rfl⟩) x u y
theorem l_spFInit (C:Addr){vs:List V}{H:Hp}{Q:VK}{E:XK}(h:spFInit C vs H Q E):vs.length=3:=spl3 h λ _ _ _=>rfl
theorem ok_Fill___init__ (T:Tx K mg t):FnOk P w K mg base CX0 1 t.a_Fill___init__ t.d_Fill___init__ ["self", "to", "value"] (spFInit t.a_Fill):=by
 refine T.F_Fill___init__.ok c_Fill___init__ (λ vs H Q E h=>l_spFInit _ h) (λ c A o s H vs Q E hr h=>?_)
 ·obtain ⟨x,u,y,rfl,dx,hx,k⟩:=h
  have c1:=T.cl_Fill
  have c2:=T.na_Fill_to
  have c3:=T.na_Fill_value
  refine ⟨_,%[%[%[0|0],%[1|0],rfl|27],%[%[%[0|0],%[2|0],rfl|27]|10]|9],?_⟩
  rw [show start ["self", "to", "value"] [.ref x,.ref u,y]=[some (.ref x),some (.ref u),some (y)] from rfl]
  have k2:=λ (_:Unit)=>k (upd H x (.ins t.a_Fill dx [("to",.ref u),("value",y)])) (λ H0 q0 q1=>q0.put q1) upd_same
  clear k
  ac_rfl
  refine ⟨(show (1:Nat) < 1000 by decide),?_⟩
  ac_rfl
  exact k2 ()
abbrev B_spCopyInit (C CV:Addr) (x:Addr) (u:Addr) (v:Addr) (H:Hp) (Q:VK) (E:XK):Prop:=∃ (dx:Addr) (r f1 f2:Int) (A B:List (Int × Int)),H x=some (.ins C dx [])/\ViewAt CV H u r f1 A/\ViewAt CV H v r f2 B/\Axes A/\Axes B/\prodL (A.map λ a=>a.1)=prodL (B.map λ a=>a.1)/\∀ H':Hp,(∀ H0,Ext H0 H->H0 x=none->Ext H0 H')->H' x=some (.ins C dx [("to",.ref u),("source",.ref v)])->Q .non H'
def spCopyInit (C CV:Addr):Sp:=λ vs H Q E=>∃ (x:Addr) (u:Addr) (v:Addr),vs=[.ref x,.ref u,.ref v]/\(B_spCopyInit C CV x u v H Q E)
theorem c_spCopyInit (C CV:Addr) (x:Addr) (u:Addr) (v:Addr) (H:Hp) (Q:VK) (E:XK):spCopyInit C CV [.ref x,.ref u,.ref v] H Q E=(B_spCopyInit C CV x u v H Q E):=spx3 (f:=λ (x:Addr) (u:Addr) (v:Addr)=>[.ref x,.ref u,.ref v]) (λ _ _ _ _ _ _ h=>by cases h;exact ⟨rfl,rfl,rfl⟩) x u v
theorem l_spCopyInit (C CV:Addr){vs:List V}{H:Hp}{Q:VK}{E:XK}(h:spCopyInit C CV vs H Q E):vs.length=3:=spl3 h λ _ _ _=>rfl
theorem ok_Copy___init__ (T:Tx K mg t):FnOk P w K mg base CX0 5 t.a_Copy___init__ t.d_Copy___init__ ["self", "to", "source"] (spCopyInit t.a_Copy t.a_View):=by
 have G_refuse_two:=%[ok_refuse_two|36]
 refine T.F_Copy___init__.ok c_Copy___init__ (λ vs H Q E h=>l_spCopyInit _ _ h) (λ cdv A' outer s H vs Q E hr h=>?_)
 ·obtain ⟨x,u,v,rfl,dx,r,f1,f2,A,B,hx,vu,vv,hA,hB,hc,k⟩:=h
  have c1:=T.cl_Copy
  have c2:=T.na_Copy_to
  have c3:=T.na_Copy_source
  refine ⟨_,%[%[%[refuse_two,%[%[1|0],%[%[2|0]|1]|1]|3],∅|13],%[%[%[0|0],%[1|0],rfl|27],%[%[%[0|0],%[2|0],rfl|27]|10]|9]|9],?_⟩
  rw [show start ["self", "to", "source"] [.ref x,.ref u,.ref v]=[some (.ref x),some (.ref u),some (.ref v)] from rfl]
  clear G_refuse_two
  exists k
  ac_rfl
  rw [c_spTwo]
  refine ⟨r,f1,f2,A,B,vu,vv,hA,hB,hc,λ H1 e1=>?_⟩
  have hx1:=e1.at hx
  have k2:=λ (_:Unit)=>k () (upd H1 x (.ins t.a_Copy dx [("to",.ref u),("source",.ref v)])) (λ H0 q0 q1=>(q0.trans e1).put q1) upd_same
  clear k hx
  ac_rfl
  refine ⟨(show (1:Nat) < 1000 by decide),?_⟩
  ac_rfl
  exact k2 ()
abbrev B_spSwapInit (C CV:Addr) (x:Addr) (u:Addr) (v:Addr) (H:Hp) (Q:VK) (E:XK):Prop:=∃ (dx:Addr) (r f1 f2:Int) (A B:List (Int × Int)),H x=some (.ins C dx [])/\ViewAt CV H u r f1 A/\ViewAt CV H v r f2 B/\Axes A/\Axes B/\prodL (A.map λ a=>a.1)=prodL (B.map λ a=>a.1)/\∀ H':Hp,(∀ H0,Ext H0 H->H0 x=none->Ext H0 H')->H' x=some (.ins C dx [("one",.ref u),("other",.ref v)])->Q .non H'
def spSwapInit (C CV:Addr):Sp:=λ vs H Q E=>∃ (x:Addr) (u:Addr) (v:Addr),vs=[.ref x,.ref u,.ref v]/\(B_spSwapInit C CV x u v H Q E)
theorem c_spSwapInit (C CV:Addr) (x:Addr) (u:Addr) (v:Addr) (H:Hp) (Q:VK) (E:XK):spSwapInit C CV [.ref x,.ref u,.ref v] H Q E=(B_spSwapInit C CV x u v H Q E):=spx3 (f:=λ (x:Addr) (u:Addr) (v:Addr)=>[.ref x,.ref u,.ref v]) (λ _ _ _ _ _ _ h=>by cases h;exact ⟨rfl,rfl,rfl⟩) x u v
theorem l_spSwapInit (C CV:Addr){vs:List V}{H:Hp}{Q:VK}{E:XK}(h:spSwapInit C CV vs H Q E):vs.length=3:=spl3 h λ _ _ _=>rfl
theorem ok_Swap___init__ (T:Tx K mg t):FnOk P w K mg base CX0 5 t.a_Swap___init__ t.d_Swap___init__ ["self", "one", "other"] (spSwapInit t.a_Swap t.a_View):=by
 have G_refuse_two:=%[ok_refuse_two|36]
 refine T.F_Swap___init__.ok c_Swap___init__ (λ vs H Q E h=>l_spSwapInit _ _ h) (λ cdv A' outer s H vs Q E hr h=>?_)
 ·obtain ⟨x,u,v,rfl,dx,r,f1,f2,A,B,hx,vu,vv,hA,hB,hc,k⟩:=h
  have c1:=T.cl_Swap
  have c2:=T.na_Swap_one
  have c3:=T.na_Swap_other
  refine ⟨_,%[%[%[refuse_two,%[%[1|0],%[%[2|0]|1]|1]|3],∅|13],%[%[%[0|0],%[1|0],rfl|27],%[%[%[0|0],%[2|0],rfl|27]|10]|9]|9],?_⟩
  rw [show start ["self", "one", "other"] [.ref x,.ref u,.ref v]=[some (.ref x),some (.ref u),some (.ref v)] from rfl]
  clear G_refuse_two
  exists k
  ac_rfl
  rw [c_spTwo]
  refine ⟨r,f1,f2,A,B,vu,vv,hA,hB,hc,λ H1 e1=>?_⟩
  have hx1:=e1.at hx
  have k2:=λ (_:Unit)=>k () (upd H1 x (.ins t.a_Swap dx [("one",.ref u),("other",.ref v)])) (λ H0 q0 q1=>(q0.trans e1).put q1) upd_same
  clear k hx
  ac_rfl
  refine ⟨(show (1:Nat) < 1000 by decide),?_⟩
  ac_rfl
  exact k2 ()
abbrev B_spRaiseInit (C CV:Addr) (x:Addr) (u:Addr) (v:Addr) (H:Hp) (Q:VK) (E:XK):Prop:=∃ (dx:Addr) (r f1 f2:Int) (A B:List (Int × Int)),H x=some (.ins C dx [])/\ViewAt CV H u r f1 A/\ViewAt CV H v r f2 B/\Axes A/\Axes B/\prodL (A.map λ a=>a.1)=prodL (B.map λ a=>a.1)/\∀ H':Hp,(∀ H0,Ext H0 H->H0 x=none->Ext H0 H')->H' x=some (.ins C dx [("to",.ref u),("source",.ref v)])->Q .non H'
def spRaiseInit (C CV:Addr):Sp:=λ vs H Q E=>∃ (x:Addr) (u:Addr) (v:Addr),vs=[.ref x,.ref u,.ref v]/\(B_spRaiseInit C CV x u v H Q E)
theorem c_spRaiseInit (C CV:Addr) (x:Addr) (u:Addr) (v:Addr) (H:Hp) (Q:VK) (E:XK):spRaiseInit C CV [.ref x,.ref u,.ref v] H Q E=(B_spRaiseInit C CV x u v H Q E):=spx3 (f:=λ (x:Addr) (u:Addr) (v:Addr)=>[.ref x,.ref u,.ref v]) (λ _ _ _ _ _ _ h=>by cases h;exact ⟨rfl,rfl,rfl⟩) x u v
theorem l_spRaiseInit (C CV:Addr){vs:List V}{H:Hp}{Q:VK}{E:XK}(h:spRaiseInit C CV vs H Q E):vs.length=3:=spl3 h λ _ _ _=>rfl
theorem ok_Raise___init__ (T:Tx K mg t):FnOk P w K mg base CX0 5 t.a_Raise___init__ t.d_Raise___init__ ["self", "to", "source"] (spRaiseInit t.a_Raise t.a_View):=by
 have G_refuse_two:=%[ok_refuse_two|36]
 refine T.F_Raise___init__.ok c_Raise___init__ (λ vs H Q E h=>l_spRaiseInit _ _ h) (λ cdv A' outer s H vs Q E hr h=>?_)
 ·obtain ⟨x,u,v,rfl,dx,r,f1,f2,A,B,hx,vu,vv,hA,hB,hc,k⟩:=h
  have c1:=T.cl_Raise
  have c2:=T.na_Raise_to
  have c3:=T.na_Raise_source
  refine ⟨_,%[%[%[refuse_two,%[%[1|0],%[%[2|0]|1]|1]|3],∅|13],%[%[%[0|0],%[1|0],rfl|27],%[%[%[0|0],%[2|0],rfl|27]|10]|9]|9],?_⟩
  rw [show start ["self", "to", "source"] [.ref x,.ref u,.ref v]=[some (.ref x),some (.ref u),some (.ref v)] from rfl]
  clear G_refuse_two
  exists k
  ac_rfl
  rw [c_spTwo]
  refine ⟨r,f1,f2,A,B,vu,vv,hA,hB,hc,λ H1 e1=>?_⟩
  have hx1:=e1.at hx
  have k2:=λ (_:Unit)=>k () (upd H1 x (.ins t.a_Raise dx [("to",.ref u),("source",.ref v)])) (λ H0 q0 q1=>(q0.trans e1).put q1) upd_same
  clear k hx
  ac_rfl
  refine ⟨(show (1:Nat) < 1000 by decide),?_⟩
  ac_rfl
  exact k2 ()
def ViZ (C:Addr) (l:Addr) (H:Hp) (u:Addr) (room f:Int) (A:List (Int × Int)):Prop:=∃ dx D,H u=some (.ins C dx (viewF room f D))/\D ≠ l/\TupsAt H D (axL A)
theorem ViZ.at {C l:Addr}{H:Hp}{u:Addr}{room f:Int}{A:List (Int × Int)}(h:ViZ C l H u room f A):ViewAt C H u room f A:=by
 obtain ⟨dx,D,h1,_,h3⟩:=h
 exact ⟨dx,D,h1,h3⟩
theorem ViZ.ext {C l:Addr}{H H':Hp}{u:Addr}{room f:Int}{A:List (Int × Int)}(h:ViZ C l H u room f A) (e:Ext H H'):ViZ C l H' u room f A:=by
 obtain ⟨dx,D,h1,h2,h3⟩:=h
 exact ⟨dx,D,e.at h1,h2,h3.ext e⟩
def KpL (l:Addr) (H H':Hp):Prop:=∀ b o,b ≠ l->H b=some o->H' b=some o
theorem KpL.trans {l:Addr}{H H' H'':Hp}(h:KpL l H H') (h':KpL l H' H''):KpL l H H'':=λ b o hb q=>h' b o hb (h b o hb q)
theorem Ext.kp {l:Addr}{H H':Hp}(h:Ext H H'):KpL l H H':=λ _ _ _ q=>h.at q
theorem ViZ.kp {C l:Addr}{H H':Hp}{u:Addr}{room f:Int}{A:List (Int × Int)}{xs:List V}(h:ViZ C l H u room f A) (hl:H l=some (.lst xs)) (k:KpL l H H'):ViZ C l H' u room f A:=by
 obtain ⟨dx,D,h1,h2,ys,h3,h4⟩:=h
 exact ⟨dx,D,k _ _ (λ e=>by rw [e,hl] at h1;cases h1) h1,h2,ys,k _ _ h2 h3,h4.imp λ _ _ ⟨q,a1,a2⟩=>⟨q,a1,k _ _ (λ e=>by rw [e,hl] at a2;cases a2) a2⟩⟩
def runL (i:Nat) (vals c1 c2:List Int) (z:Int):List Int:=match i with
 | 0=>vals
 | 1=>fillL vals c1 z
 | 2=>putL vals c1 (readL vals c2)
 | 3=>putL (putL vals c1 (readL vals c2)) c2 (readL vals c1)
 | _=>putL vals c1 (List.zipWith (· + ·) (readL vals c1) (readL vals c2))
structure RunV (CV l:Addr) (H:Hp) (u:Addr) (vals:List Int) (f:Int) (A:List (Int × Int)):Prop where
 v:ViZ CV l H u vals.length f A
 ax:Axes A
 pr:prodL (A.map λ a=>a.1)<=4096
 on:OnFloor (cellsL f A) vals.length
abbrev B_spRun (t:Adr) (i:Nat) (s:Addr) (st:Addr) (H:Hp) (Q:VK) (E:XK):Prop:=∃ (u v dx l:Addr) (z:Int) (vals:List Int) (f1:Int) (A1:List (Int × Int)) (f2:Int) (A2:List (Int × Int)),H s=some (.ins (clsW t i) dx (fldW i u v (.int z)))/\StoreAt t.a_Store H st l vals/\vals.length<=4096/\RunV t.a_View l H u vals f1 A1/\RunV t.a_View l H v vals f2 A2/\prodL (A2.map λ a=>a.1)=prodL (A1.map λ a=>a.1)/\∀ H',(∀ H0,Ext H0 H->H0 l=none->Ext H0 H')->KpL l H H'->H' l=some (.lst ((runL i vals (cellsL f1 A1) (cellsL f2 A2) z).map V.int))->Q .non H'
def spRun (t:Adr) (i:Nat):Sp:=λ vs H Q E=>∃ (s:Addr) (st:Addr),vs=[.ref s,.ref st]/\(B_spRun t i s st H Q E)
theorem c_spRun (t:Adr) (i:Nat) (s:Addr) (st:Addr) (H:Hp) (Q:VK) (E:XK):spRun t i [.ref s,.ref st] H Q E=(B_spRun t i s st H Q E):=spx2 (f:=λ (s:Addr) (st:Addr)=>[.ref s,.ref st]) (λ _ _ _ _ h=>by cases h;exact ⟨rfl,rfl⟩) s st
theorem l_spRun (t:Adr) (i:Nat){vs:List V}{H:Hp}{Q:VK}{E:XK}(h:spRun t i vs H Q E):vs.length=2:=spl2 h λ _ _=>rfl
theorem ok_Statement_run (T:Tx K mg t):FnOk P w K mg base CX0 7 t.a_Statement_run t.d_Statement_run ["self", "store"] (spRun t 0):=by
 refine T.F_Statement_run.ok c_Statement_run (λ vs H Q E h=>l_spRun _ _ h) (λ cdv A outer s0 H vs Q E hr h=>?_)
 ·obtain ⟨s,st,rfl,u,v,dx,l,z,vals,f1,A1,f2,A2,hs,so,hv,w1,w2,hpe,k⟩:=h
  refine ⟨_,%[(@ps_pass _ _)|10],?_⟩
  rw [show start ["self", "store"] [.ref s,.ref st]=[some (.ref s),some (.ref st)] from rfl]
  have k2:=k H (λ _ e _=>e) (λ _ _ _ q=>q) so.fl
  clear k hs
  ac_rfl
theorem zw_zip:∀ a b:List Int,List.zipWith (· + ·) a b=(a.zip b).map λ z=>z.1+z.2
 | [],_=>rfl
 | _::_,[]=>rfl
 | x::a,y::b=>by
  show (x+y)::List.zipWith (· + ·) a b=(x+y)::(a.zip b).map λ z=>z.1+z.2
  rw [zw_zip a b]
theorem rd_len (vals cs:List Int):(readL vals cs).length=cs.length:=by unfold readL;rw [List.length_map]
theorem ok_Fill_run (T:Tx K mg t):FnOk P w K mg base CX0 7 t.a_Fill_run t.d_Fill_run ["self", "store"] (spRun t 1):=by
 have G_Store_fill:=%[ok_Store_fill|36]
 refine T.F_Fill_run.ok c_Fill_run (λ vs H Q E h=>l_spRun _ _ h) (λ cdv A outer s0 H vs Q E hr h=>?_)
 ·obtain ⟨s,st,rfl,u,v,dx,l,z,vals,f1,A1,f2,A2,hs,so,hv,w1,w2,hpe,k⟩:=h
  have hs':H s=some (.ins t.a_Fill dx [("to",V.ref u),("value",V.int z)]):=hs
  obtain ⟨ds,hst⟩:=so.ob
  have hfl:=so.fl
  have c8:=T.cl_Fill
  have c9:=T.cl_Store
  have m0:=storeF_no l (m := "fill") nofun
  have c0:=T.na_Fill_to
  have l0:([("to",V.ref u),("value",V.int z)]:List (Str × V)).lookup (Str.ofString "to")=some (V.ref u):=by rfl
  have c1:=T.na_Fill_value
  have l1:([("to",V.ref u),("value",V.int z)]:List (Str × V)).lookup (Str.ofString "value")=some (V.int z):=by rfl
  refine ⟨_,%[%[%[%[1|0],T.cl_Store,T.mt_Store_fill,G_Store_fill,(hr.mono ⋯),T.b_Store_fill,.nil,pass0,%[%[%[0|0],rfl|14],%[%[%[0|0],rfl|14]|1]|1],∅,∅,∅|21],∅|13]|10],?_⟩
  rw [show start ["self", "store"] [.ref s,.ref st]=[some (.ref s),some (.ref st)] from rfl]
  clear G_Store_fill hs
  exists k
  ac_rfl
  rw [c_spFill]
  refine ⟨l,vals,vals.length,f1,A1,so,w1.v.at,w1.ax,rfl,hv,w1.pr,w1.on,λ H' q1 q2 q3=>?_⟩
  have k2:=k () H' q1 q2 q3
  clear k
  ac_rfl
theorem ok_Copy_run (T:Tx K mg t):FnOk P w K mg base CX0 7 t.a_Copy_run t.d_Copy_run ["self", "store"] (spRun t 2):=by
 have G_Store_copied:=%[ok_Store_copied|36]
 refine T.F_Copy_run.ok c_Copy_run (λ vs H Q E h=>l_spRun _ _ h) (λ cdv A outer s0 H vs Q E hr h=>?_)
 ·obtain ⟨s,st,rfl,u,v,dx,l,z,vals,f1,A1,f2,A2,hs,so,hv,w1,w2,hpe,k⟩:=h
  have hs':H s=some (.ins t.a_Copy dx [("to",V.ref u),("source",V.ref v)]):=hs
  obtain ⟨ds,hst⟩:=so.ob
  have hfl:=so.fl
  have c8:=T.cl_Copy
  have c9:=T.cl_Store
  have m0:=storeF_no l (m := "copied") nofun
  have c0:=T.na_Copy_to
  have l0:([("to",V.ref u),("source",V.ref v)]:List (Str × V)).lookup (Str.ofString "to")=some (V.ref u):=by rfl
  have c1:=T.na_Copy_source
  have l1:([("to",V.ref u),("source",V.ref v)]:List (Str × V)).lookup (Str.ofString "source")=some (V.ref v):=by rfl
  refine ⟨_,%[%[%[%[1|0],T.cl_Store,T.mt_Store_copied,G_Store_copied,(hr.mono ⋯),T.b_Store_copied,.nil,pass0,%[%[%[0|0],rfl|14],%[%[%[0|0],rfl|14]|1]|1],∅,∅,∅|21],∅|13]|10],?_⟩
  rw [show start ["self", "store"] [.ref s,.ref st]=[some (.ref s),some (.ref st)] from rfl]
  clear G_Store_copied hs
  exists k
  ac_rfl
  rw [c_spCopied]
  refine ⟨l,vals,f1,f2,A1,A2,so,w1.v.at,w2.v.at,w1.ax,w2.ax,hv,w1.pr,hpe,w1.on,w2.on,λ H' q1 q2 q3=>?_⟩
  have k2:=k () H' q1 q2 q3
  clear k
  ac_rfl
theorem ok_Swap_run (T:Tx K mg t):FnOk P w K mg base CX0 7 t.a_Swap_run t.d_Swap_run ["self", "store"] (spRun t 3):=by
 have G_Store_read:=%[ok_Store_read|36]
 have G_Store_put:=%[ok_Store_put|36]
 refine T.F_Swap_run.ok c_Swap_run (λ vs H Q E h=>l_spRun _ _ h) (λ cdv A outer s0 H vs Q E hr h=>?_)
 ·obtain ⟨s,st,rfl,u,v,dx,l,z,vals,f1,A1,f2,A2,hs,so,hv,w1,w2,hpe,k⟩:=h
  have hs':H s=some (.ins t.a_Swap dx [("one",V.ref u),("other",V.ref v)]):=hs
  obtain ⟨ds,hst⟩:=so.ob
  have hfl:=so.fl
  have c8:=T.cl_Swap
  have c9:=T.cl_Store
  have m0:=storeF_no l (m := "read") nofun
  have m1:=storeF_no l (m := "put") nofun
  have c0:=T.na_Swap_one
  have l0:([("one",V.ref u),("other",V.ref v)]:List (Str × V)).lookup (Str.ofString "one")=some (V.ref u):=by rfl
  have c1:=T.na_Swap_other
  have l1:([("one",V.ref u),("other",V.ref v)]:List (Str × V)).lookup (Str.ofString "other")=some (V.ref v):=by rfl
  refine ⟨_,%[%[2,c_Swap_run,%[%[1|0],T.cl_Store,T.mt_Store_read,G_Store_read,(hr.mono ⋯),T.b_Store_read,.nil,pass0,%[%[%[0|0],rfl|14]|1],∅,∅,∅|21]|4],%[%[3,c_Swap_run,%[%[1|0],T.cl_Store,T.mt_Store_read,G_Store_read,(hr.mono ⋯),T.b_Store_read,.nil,pass0,%[%[%[0|0],rfl|14]|1],∅,∅,∅|21]|4],%[%[%[%[1|0],T.cl_Store,T.mt_Store_put,G_Store_put,(hr.mono ⋯),T.b_Store_put,.nil,pass0,%[%[%[0|0],rfl|14],%[%[3|0]|1]|1],∅,∅,∅|21],∅|13],%[%[%[%[1|0],T.cl_Store,T.mt_Store_put,G_Store_put,(hr.mono ⋯),T.b_Store_put,.nil,pass0,%[%[%[0|0],rfl|14],%[%[2|0]|1]|1],∅,∅,∅|21],∅|13]|10]|9]|9]|9],?_⟩
  rw [show start ["self", "store", "ours", "theirs"] [.ref s,.ref st]=[some (.ref s),some (.ref st),none,none] from rfl]
  clear G_Store_read G_Store_put hs
  exists k
  have hp1:=w1.pr
  have hp2:=w2.pr
  have hc1:=cellsL_len f1 A1 λ a ha=>(w1.ax.2 a ha).1
  have hc2:=cellsL_len f2 A2 λ a ha=>(w2.ax.2 a ha).1
  ac_rfl
  rw [c_spRead]
  refine ⟨l,vals,vals.length,f1,A1,so,w1.v.at,w1.ax,rfl,w1.pr,w1.on,λ r1 H1 hr1 e1 h1=>?_⟩
  have nr1:r1 ≠ l:=λ e=>by rw [e,hfl] at hr1;cases hr1
  have hs1:=e1.at hs'
  have hst1:=e1.at hst
  clear hs' hst hr1
  ac_rfl
  rw [c_spRead]
  refine ⟨l,vals,vals.length,f2,A2,so.ext e1,w2.v.at.ext e1,w2.ax,rfl,w2.pr,w2.on,λ r2 H2 hr2 e2 h2=>?_⟩
  have e02:=e1.trans e2
  have nr2:r2 ≠ l:=λ e=>by rw [e,e1.at hfl] at hr2;cases hr2
  have hs2:=e2.at hs1
  have hst2:=e2.at hst1
  have h1_2:=e2.at h1
  have hfl2:=e02.at hfl
  clear hs1 hst1 hr2 h1
  ac_rfl
  rw [c_spPut]
  refine ⟨l,vals,vals.length,f1,A1,_,so.ext e02,w1.v.at.ext e02,w1.ax,rfl,hv,w1.pr,w1.on,h2,nr2,by rw [rd_len];omega,λ H3 q1 q2 q3=>?_⟩
  have kp:KpL l H2 H3:=q2
  have hs3:=kp _ _ (λ e=>by rw [e,hfl2] at hs2;cases hs2) hs2
  have hst3:=kp _ _ (λ e=>by rw [e,hfl2] at hst2;cases hst2) hst2
  have h1_3:=kp _ _ nr1 h1_2
  have w2':=(w2.v.ext e02).kp hfl2 kp
  have hpl:=putL_length vals (cellsL f1 A1) (readL vals (cellsL f2 A2))
  have so3:StoreAt t.a_Store H3 st l (putL vals (cellsL f1 A1) (readL vals (cellsL f2 A2))):=⟨⟨ds,hst3⟩,q3⟩
  have hlr:((readL vals (cellsL f1 A1)).length:Int)=prodL (A2.map λ a=>a.1):=by rw [rd_len];omega
  have on2:OnFloor (cellsL f2 A2) (putL vals (cellsL f1 A1) (readL vals (cellsL f2 A2))).length:=by rw [hpl];exact w2.on
  have hv3:(putL vals (cellsL f1 A1) (readL vals (cellsL f2 A2))).length<=4096:=by rw [hpl];exact hv
  have vw3:ViewAt t.a_View H3 v (putL vals (cellsL f1 A1) (readL vals (cellsL f2 A2))).length f2 A2:=by rw [hpl];exact w2'.at
  clear hs2 hst2 h1_2 h2 q2 hpl
  exists q1
  ac_rfl
  rw [c_spPut]
  refine ⟨l,_,_,f2,A2,_,so3,vw3,w2.ax,rfl,hv3,w2.pr,on2,h1_3,nr1,hlr,λ H4 p1 p2 p3=>?_⟩
  have k2:=k () H4 (λ H0 e0 h0=>p1 H0 (q1 () H0 (e0.trans e02) h0) h0) ((Ext.kp e02).trans (kp.trans p2)) p3
  clear k q1
  ac_rfl
theorem ok_Raise_run (T:Tx K mg t):FnOk P w K mg base CX0 7 t.a_Raise_run t.d_Raise_run ["self", "store"] (spRun t 4):=by
 have G_Store_read:=%[ok_Store_read|36]
 have G_Store_put:=%[ok_Store_put|36]
 refine T.F_Raise_run.ok c_Raise_run (λ vs H Q E h=>l_spRun _ _ h) (λ cdv A outer s0 H vs Q E hr h=>?_)
 ·obtain ⟨s,st,rfl,u,v,dx,l,z,vals,f1,A1,f2,A2,hs,so,hv,w1,w2,hpe,k⟩:=h
  have hs':H s=some (.ins t.a_Raise dx [("to",V.ref u),("source",V.ref v)]):=hs
  obtain ⟨ds,hst⟩:=so.ob
  have hfl:=so.fl
  have c8:=T.cl_Raise
  have c9:=T.cl_Store
  have m0:=storeF_no l (m := "read") nofun
  have m1:=storeF_no l (m := "put") nofun
  have c0:=T.na_Raise_to
  have l0:([("to",V.ref u),("source",V.ref v)]:List (Str × V)).lookup (Str.ofString "to")=some (V.ref u):=by rfl
  have c1:=T.na_Raise_source
  have l1:([("to",V.ref u),("source",V.ref v)]:List (Str × V)).lookup (Str.ofString "source")=some (V.ref v):=by rfl
  refine ⟨_,%[%[2,c_Raise_run,%[%[1|0],T.cl_Store,T.mt_Store_read,G_Store_read,(hr.mono ⋯),T.b_Store_read,.nil,pass0,%[%[%[0|0],rfl|14]|1],∅,∅,∅|21]|4],%[%[%[%[1|0],T.cl_Store,T.mt_Store_put,G_Store_put,(hr.mono ⋯),T.b_Store_put,.nil,pass0,%[%[%[0|0],rfl|14],%[%[(["value", "other", "self", "store", "more"]),(2),(comp_ok (defScope s_Raise_run) ["self", "store", "more"] rfl rfl nofun),rfl,(@pi_zip _ _ _ _ _ _ _ _ _ ∅ T.z_zip %[%[%[1|0],T.cl_Store,T.mt_Store_read,G_Store_read,(hr.mono ⋯),T.b_Store_read,.nil,pass0,%[%[%[0|0],rfl|14]|1],∅,∅,∅|21],%[%[2|0]|1]|1] ∅ ∅),(λ C s₀ H₀ ex pn=>(%[(2),rfl,%[%[(0),_,(show List.Nodup (["value", "other", "self", "store", "more"]:List Str) from by decide +kernel),rfl,(Or.inl rfl),%[0|7]|19],%[%[(1),_,(show List.Nodup (["value", "other", "self", "store", "more"]:List Str) from by decide +kernel),rfl,(Or.inl rfl),%[0|7]|19],(@pgs_nilN _),∅|18],∅|18],∅,∅|28].mono λ _ _ _ _ h=>gTup_q h)),(λ C s₀ H₀ ex pn=>(@pts_nil _)),(λ C s₀ H₀ ex pn=>%[on_add,%[0|0],%[1|0]|11]),(by intros;rfl)|24]|1]|1],∅,∅,∅|21],∅|13]|10]|9],?_⟩
  rw [show start ["self", "store", "more"] [.ref s,.ref st]=[some (.ref s),some (.ref st),none] from rfl]
  clear G_Store_read G_Store_put hs
  exists k
  have hp1:=w1.pr
  have hp2:=w2.pr
  have hc1:=cellsL_len f1 A1 λ a ha=>(w1.ax.2 a ha).1
  have hc2:=cellsL_len f2 A2 λ a ha=>(w2.ax.2 a ha).1
  ac_rfl
  rw [c_spRead]
  refine ⟨l,vals,vals.length,f2,A2,so,w2.v.at,w2.ax,rfl,w2.pr,w2.on,λ r1 H1 hr1 e1 h1=>?_⟩
  have hs1:=e1.at hs'
  have hst1:=e1.at hst
  clear hs' hst hr1
  ac_rfl
  rw [c_spRead]
  refine ⟨l,vals,vals.length,f1,A1,so.ext e1,w1.v.at.ext e1,w1.ax,rfl,w1.pr,w1.on,λ r2 H2 hr2 e2 h2=>?_⟩
  have e02:=e1.trans e2
  have hs2:=e2.at hs1
  have hst2:=e2.at hst1
  have h1_2:=e2.at h1
  have hfl2:=e02.at hfl
  clear hs1 hst1 hr2 h1
  ac_rfl
  have wk:=wk_zipA (R1:=λ (z:Int) y _=>y=V.int z) (R2:=λ (z:Int) y _=>y=V.int z) (λ _ _ _ _ h _=>h) (λ _ _ _ _ h _=>h) h2 h1_2 (al_ints _) (al_ints _)
  refine comp_fm ((readL vals (cellsL f1 A1)).zip (readL vals (cellsL f2 A2))) (λ _=>true) (λ z=>.int (z.1+z.2)) (zipA (λ (z:Int) y _=>y=V.int z) (λ (z:Int) y _=>y=V.int z)) wk.1 wk.2 (len5000 (by rw [List.length_zip,rd_len,rd_len];omega)) ?_ ?_
  ·intro D z y H' N1 N0 hz hD e ⟨p,q1,q2,hu,hu2,ha,hb⟩ k1 _
   subst hu ha hb
   have k1':=k1 rfl H' (Ext.refl _)
   clear k1 k wk hz
   simp! only [↓m_kCm_2,↓m_kCm2]
  intro D H3 hD e3 h3
  have h3':H3 D=some (.lst ((List.zipWith (· + ·) (readL vals (cellsL f1 A1)) (readL vals (cellsL f2 A2))).map V.int)):=by
   rw [h3,filt,zw_zip,List.map_map]
   rfl
  have nD:D ≠ l:=λ e=>by rw [e,hfl2] at hD;cases hD
  have e03:=e02.trans e3
  clear h3 wk hD h1_2 h2
  ac_rfl
  rw [c_spPut]
  refine ⟨l,vals,vals.length,f1,A1,_,so.ext e03,w1.v.at.ext e03,w1.ax,rfl,hv,w1.pr,w1.on,h3',nD,by rw [List.length_zipWith,rd_len,rd_len];omega,λ H4 p1 p2 p3=>?_⟩
  have k2:=k () H4 (λ H0 e0 h0=>p1 H0 (e0.trans e03) h0) ((Ext.kp e03).trans p2) p3
  clear k
  ac_rfl
theorem MDR {P:Program}{w:World}{K:W.Frag}{mg:Str->Option Value}{base:Heap}{t:Adr}(T:Tx K mg t):∀ i,i < 5->MD P w K mg base CX0 7 "run" (clsW t i) (spRun t i)
 | 0,_=>⟨T.cl_Statement,_,_,_,T.mt_Statement_run,ok_Statement_run T,T.b_Statement_run⟩
 | 1,_=>⟨T.cl_Fill,_,_,_,T.mt_Fill_run,ok_Fill_run T,T.b_Fill_run⟩
 | 2,_=>⟨T.cl_Copy,_,_,_,T.mt_Copy_run,ok_Copy_run T,T.b_Copy_run⟩
 | 3,_=>⟨T.cl_Swap,_,_,_,T.mt_Swap_run,ok_Swap_run T,T.b_Swap_run⟩
 | 4,_=>⟨T.cl_Raise,_,_,_,T.mt_Raise_run,ok_Raise_run T,T.b_Raise_run⟩
 | n+5,h=>absurd h %[0|8]
def abcS:Str := "abcdefghijklmnopqrstuvwxyz"
structure NameOk (x:Str):Prop where
 asc:x.cps.all (· < 128)=true
 l1:1<=x.length
 l8:x.length<=8
 let':∀ c∈x.cps.toList,inS ⟨#[c]⟩ "abcdefghijklmnopqrstuvwxyz"=true
abbrev B_spName  (x:Str) (H:Hp) (Q:VK) (E:XK):Prop:=NameOk x/\∀ H',Ext H H'->Q (.bl true) H'
def spName  : Sp:=λ vs H Q E=>∃ (x:Str),vs=[.str x]/\(B_spName  x H Q E)
theorem c_spName  (x:Str) (H:Hp) (Q:VK) (E:XK):spName  [.str x] H Q E=(B_spName  x H Q E):=spx1 (f:=λ (x:Str)=>[.str x]) (λ _ _ h=>by cases h;exact rfl) x
theorem l_spName  {vs:List V}{H:Hp}{Q:VK}{E:XK}(h:spName  vs H Q E):vs.length=1:=spl1 h λ _=>rfl
theorem ok_is_name (T:Tx K mg t):FnOk P w K mg base CX0 1 t.a_is_name t.d_is_name ["thing"] spName:=by
 refine T.F_is_name.ok c_is_name (λ vs H Q E h=>l_spName h) (λ c A o s H vs Q E hr h=>?_)
 ·obtain ⟨x,rfl,hx,k⟩:=h
  refine ⟨_,%[%[(PW.pt (@pw_or _ _ _ _ _ _ _ (@pt_not _ _ _ _ (@pt_valN _ _ _ %[isinstance,call_qIsi,%[%[0|0],%[(@pe_bltn _ _ (.ty "str") (.type "str") _ ∅ T.z_str nofun rfl ⋯ ⋯)|1]|1]|6] (by intros;rfl))) (@pw_or1 _ _ _ _ (@pt_not _ _ _ _ (@pt_chainN _ _ _ _ _ _ _ _ _ _ _ _ on_le on_le %[0|2] %[len,call_qLen,%[%[0|0]|1]|6] (@pe_glob _ _ (.int 8) _ _ ∅ T.m_MOST_LETTERS.choose_spec ⟨_,rfl⟩ ⋯) ∅))))),%[%[(@pe_bl _ _ _ _)|12]|10],(@pss_nil _)|16],%[%[%[all,(call_qAll rfl),%[%[(["letter", "thing"]),(1),(comp_ok (defScope s_is_name) ["thing"] rfl rfl nofun),rfl,(@pi_str _ _ _ _ %[0|0]),(λ C s₀ H₀ ex pn=>%[(0),_,(show List.Nodup (["letter", "thing"]:List Str) from by decide +kernel),rfl,(Or.inl rfl),%[0|7]|19]),(λ C s₀ H₀ ex pn=>(@pts_nil _)),(λ C s₀ H₀ ex pn=>%[op_qInS,%[0|0],(@pe_glob _ _ (.str "abcdefghijklmnopqrstuvwxyz") _ _ ∅ T.m_LETTERS.choose_spec ⟨_,rfl⟩ ⋯),(by with_unfolding_all rfl)|34]),(by intros;rfl)|24]|1]|6]|12]|10]|9],?_⟩
  rw [show start ["thing"] [.str x]=[some (.str x)] from rfl]
  exists k
  have n1:(1:Int)<=(x.length:Int):=by have:=hx.l1;omega
  have n8:(x.length:Int)<=8:=by have:=hx.l8;omega
  have hlen:x.cps.toList.length<=8:=by have:=hx.l8;simpa [Str.length] using this
  ac_rfl
  refine ⟨len5000 (by have:=hx.l8;omega),x,rfl,hx.asc,?_⟩
  refine comp_fm x.cps.toList (λ _=>true) (λ _=>.bl true) (λ z v _=>v=sgn z) (wk_str x).1 (wk_str x).2 (len5000 %[0|8]) ?_ ?_
  ·intro D z v H' N1 N0 hz hD e hv k1 _
   subst hv
   have hin:=hx.let' z hz
   have k1':=k1 rfl H' (Ext.refl _)
   clear k1 k n1 n8 hz
   unfold sgn
   simp! only [↓m_kCm_1,↓m_kCm2]
  intro D H1 hD e1 hD'
  rw [filt,show List.map (λ (_:Nat)=>V.bl true) x.cps.toList=(x.cps.toList.map λ _=>true).map V.bl from by rw [List.map_map];rfl] at hD'
  have hall:(x.cps.toList.map λ _=>true).all id=true:=by
   rw [List.all_eq_true]
   intro b hb
   obtain ⟨_,_,rfl⟩:=List.mem_map.mp hb
   rfl
  have k2:=k () H1 e1
  clear k
  generalize (x.cps.toList.map λ _=>true)=bs at *
  ac_rfl
def hallF (st D Pp:Addr):List (Str × V):=putF "past" (V.ref Pp) (putF "views" (V.ref D) (putF "store" (V.ref st) []))
theorem hallF_store (st D Pp:Addr):(hallF st D Pp).lookup ("store":Str)=some (.ref st):=by
 unfold hallF
 rw [lookup_putF,if_neg nofun,lookup_putF,if_neg nofun,lookup_putF,if_pos rfl]
theorem hallF_views (st D Pp:Addr):(hallF st D Pp).lookup ("views":Str)=some (.ref D):=by
 unfold hallF
 rw [lookup_putF,if_neg nofun,lookup_putF,if_pos rfl]
theorem hallF_past (st D Pp:Addr):(hallF st D Pp).lookup ("past":Str)=some (.ref Pp):=by
 unfold hallF
 rw [lookup_putF,if_pos rfl]
theorem hallF_no (st D Pp:Addr){m:Str}(h:m∈([("call":Str), "refuse_new", "names", "all_values", "changed_since", "do", "back"]:List Str)):(hallF st D Pp).lookup m=none:=by
 have n1:¬ m = "past":=by revert m;decide +kernel
 have n2:¬ m = "views":=by revert m;decide +kernel
 have n3:¬ m = "store":=by revert m;decide +kernel
 unfold hallF
 rw [lookup_putF,if_neg n1,lookup_putF,if_neg n2,lookup_putF,if_neg n3]
 rfl
structure NVw where
 nm:Str
 ad:Addr
 f:Int
 A:List (Int × Int)
def nvD (nv:List NVw):List (Key × V):=nv.map λ p=>(Sum.inr p.nm,V.ref p.ad)
structure HallAt (t:Adr) (H:Hp) (h st l D Pp:Addr) (vals:List Int) (nv:List NVw) (ps:List V):Prop where
 ob:∃ dx,H h=some (.ins t.a_Hall dx (hallF st D Pp))
 so:StoreAt t.a_Store H st l vals
 dk:H D=some (.dK (nvD nv))
 pa:H Pp=some (.lst ps)
theorem HallAt.ext {t:Adr}{H H':Hp}{h st l D Pp:Addr}{vals:List Int}{nv:List NVw}{ps:List V}(a:HallAt t H h st l D Pp vals nv ps) (e:Ext H H'):HallAt t H' h st l D Pp vals nv ps:=by
 obtain ⟨⟨dx,h1⟩,h2,h3,h4⟩:=a
 exact ⟨⟨dx,e.at h1⟩,h2.ext e,e.at h3,e.at h4⟩
abbrev B_spHInit (t:Adr) (x:Addr) (p:Addr) (H:Hp) (Q:VK) (E:XK):Prop:=∃ (dx:Addr) (vals:List Int),H x=some (.ins t.a_Hall dx [])/\H p=some (.lst (vals.map V.int))/\1<=vals.length/\vals.length<=4096/\∀ (H':Hp) (st l D Pp:Addr),(∀ H0,Ext H0 H->H0 x=none->Ext H0 H')->H st=none->H l=none->H D=none->H Pp=none->l ≠ Pp->HallAt t H' x st l D Pp vals [] []->Q .non H'
def spHInit (t:Adr):Sp:=λ vs H Q E=>∃ (x:Addr) (p:Addr),vs=[.ref x,.ref p]/\(B_spHInit t x p H Q E)
theorem c_spHInit (t:Adr) (x:Addr) (p:Addr) (H:Hp) (Q:VK) (E:XK):spHInit t [.ref x,.ref p] H Q E=(B_spHInit t x p H Q E):=spx2 (f:=λ (x:Addr) (p:Addr)=>[.ref x,.ref p]) (λ _ _ _ _ h=>by cases h;exact ⟨rfl,rfl⟩) x p
theorem l_spHInit (t:Adr){vs:List V}{H:Hp}{Q:VK}{E:XK}(h:spHInit t vs H Q E):vs.length=2:=spl2 h λ _ _=>rfl
theorem ok_Hall___init__ (T:Tx K mg t):FnOk P w K mg base CX0 6 t.a_Hall___init__ t.d_Hall___init__ ["self", "values"] (spHInit t):=by
 have G_Store___init__:=%[ok_Store___init__|36]
 refine T.F_Hall___init__.ok c_Hall___init__ (λ vs H Q E h=>l_spHInit _ h) (λ c A o s H vs Q E hr h=>?_)
 ·obtain ⟨x,p,rfl,dx,vals,hx,hp,hv1,hv2,k⟩:=h
  have c1:=T.cl_Hall
  have c2:=T.na_Hall_store
  have c3:=T.na_Hall_views
  have c4:=T.na_Hall_past
  refine ⟨_,%[%[%[0|0],%[T.mk_Store,G_Store___init__,(hr.mono ⋯),∅,T.m_Store,T.b_Store___init__,.nil,pass0,%[%[1|0]|1],⋯,∅,∅|31],rfl|27],%[%[%[0|0],(@pe_nDNew _ _),rfl|27],%[%[%[0|0],%[(@pa_nil _)|25],rfl|27]|10]|9]|9],?_⟩
  rw [show start ["self", "values"] [.ref x,.ref p]=[some (.ref x),some (.ref p)] from rfl]
  clear G_Store___init__
  exists k
  ac_rfl
  intro st dxs G1 hxs hds hqs gs ks ks'
  rw [c_spSInit]
  refine ⟨dxs,vals,ks,gs.at hp,hv1,hv2,λ H1 l hE hl hst hfl=>?_⟩
  have e1:=hE H gs hxs
  have hx1:=e1.at hx
  have hl0:H l=none:=gs.free hl
  have nlx:l ≠ x:=λ z=>by rw [z,hx] at hl0;cases hl0
  have nsx:st ≠ x:=λ z=>by rw [z,hx] at hxs;cases hxs
  have nsl:st ≠ l:=λ z=>by rw [z] at ks;rw [hl] at ks;cases ks
  clear ks ks' hE hqs hds gs hl
  ac_rfl
  have hx2:upd H1 x (.ins t.a_Hall dx (putF "store" (V.ref st) [])) x=some (.ins t.a_Hall dx (putF "store" (V.ref st) [])):=upd_same
  have hst2:upd H1 x (.ins t.a_Hall dx (putF "store" (V.ref st) [])) st=some (.ins t.a_Store dxs (storeF l)):=(upd_ne nsx).trans hst
  have hfl2:upd H1 x (.ins t.a_Hall dx (putF "store" (V.ref st) [])) l=some (.lst (vals.map V.int)):=(upd_ne nlx).trans hfl
  have b2:∀ H0,Ext H0 H->H0 x=none->Ext H0 (upd H1 x (.ins t.a_Hall dx (putF "store" (V.ref st) []))):=λ H0 q0 q1=>(q0.trans e1).put q1
  have f2:∀ y,upd H1 x (.ins t.a_Hall dx (putF "store" (V.ref st) [])) y=none->H y=none:=λ y hy=>by
   refine e1.free ?_
   by_cases hyx:y=x
   ·rw [hyx,upd_same] at hy;cases hy
   ·rwa [upd_ne hyx] at hy
  generalize upd H1 x (.ins t.a_Hall dx (putF "store" (V.ref st) []))=H2 at *
  exists b2
  exists f2
  clear hst hfl e1 hx1
  intro D H3 hD e3 hD3
  have hx3:=e3.at hx2
  have hst3:=e3.at hst2
  have hfl3:=e3.at hfl2
  have hD0:=f2 () D hD
  have nDx:D ≠ x:=λ z=>by rw [z] at hD;rw [hx2] at hD;cases hD
  have f3:∀ y,H3 y=none->H y=none:=λ y hy=>f2 () y (e3.free hy)
  exists f3
  clear hx2 hst2 hfl2 hD
  ac_rfl
  have hx4:upd H3 x (.ins t.a_Hall dx (putF "views" (V.ref D) (putF "store" (V.ref st) []))) x=some (.ins t.a_Hall dx (putF "views" (V.ref D) (putF "store" (V.ref st) []))):=upd_same
  have hst4:=(show upd H3 x (.ins t.a_Hall dx (putF "views" (V.ref D) (putF "store" (V.ref st) []))) st=_ from upd_ne nsx).trans hst3
  have hfl4:=(show upd H3 x (.ins t.a_Hall dx (putF "views" (V.ref D) (putF "store" (V.ref st) []))) l=_ from upd_ne nlx).trans hfl3
  have hD4:=(show upd H3 x (.ins t.a_Hall dx (putF "views" (V.ref D) (putF "store" (V.ref st) []))) D=_ from upd_ne nDx).trans hD3
  have b4:∀ H0,Ext H0 H->H0 x=none->Ext H0 (upd H3 x (.ins t.a_Hall dx (putF "views" (V.ref D) (putF "store" (V.ref st) [])))):=λ H0 q0 q1=>((b2 () H0 q0 q1).trans e3).put q1
  have f4:∀ y,upd H3 x (.ins t.a_Hall dx (putF "views" (V.ref D) (putF "store" (V.ref st) []))) y=none->H y=none:=λ y hy=>by
   refine f3 () y ?_
   by_cases hyx:y=x
   ·rw [hyx,upd_same] at hy;cases hy
   ·rwa [upd_ne hyx] at hy
  generalize upd H3 x (.ins t.a_Hall dx (putF "views" (V.ref D) (putF "store" (V.ref st) [])))=H4 at *
  exists b4
  exists f4
  clear hx3 hst3 hfl3 hD3
  refine ⟨(show 1 < 1000 by decide),?_⟩
  intro Pp H5 hP e5 hP5
  have hx5:=e5.at hx4
  have hst5:=e5.at hst4
  have hfl5:=e5.at hfl4
  have hD5:=e5.at hD4
  have hP0:=f4 () Pp hP
  have nPx:Pp ≠ x:=λ z=>by rw [z] at hP;rw [hx4] at hP;cases hP
  have nlP:l ≠ Pp:=λ z=>by rw [←z] at hP;rw [hfl4] at hP;cases hP
  clear hx4 hst4 hfl4 hD4 hP
  ac_rfl
  try refine ⟨(show 2 < 1000 by decide),?_⟩
  exact k () _ st l D Pp (λ H0 q0 q1=>((b4 () H0 q0 q1).trans e5).put q1) hxs hl0 hD0 hP0 nlP ⟨⟨dx,upd_same⟩,⟨⟨dxs,by rw [upd_ne nsx];exact hst5⟩,by rw [upd_ne nlx];exact hfl5⟩,by rw [upd_ne nDx];exact hD5,by rw [upd_ne nPx];exact hP5⟩
abbrev B_spHNew (t:Adr) (h:Addr) (x:Str) (H:Hp) (Q:VK) (E:XK):Prop:=∃ (st l D Pp:Addr) (vals:List Int) (nv:List NVw) (ps:List V),HallAt t H h st l D Pp vals nv ps/\NameOk x/\(∀ p∈nv,p.nm ≠ x)/\∀ H',Ext H H'->Q .non H'
def spHNew (t:Adr):Sp:=λ vs H Q E=>∃ (h:Addr) (x:Str),vs=[.ref h,.str x]/\(B_spHNew t h x H Q E)
theorem c_spHNew (t:Adr) (h:Addr) (x:Str) (H:Hp) (Q:VK) (E:XK):spHNew t [.ref h,.str x] H Q E=(B_spHNew t h x H Q E):=spx2 (f:=λ (h:Addr) (x:Str)=>[.ref h,.str x]) (λ _ _ _ _ h=>by cases h;exact ⟨rfl,rfl⟩) h x
theorem l_spHNew (t:Adr){vs:List V}{H:Hp}{Q:VK}{E:XK}(h:spHNew t vs H Q E):vs.length=2:=spl2 h λ _ _=>rfl
theorem nvD_no {nv:List NVw}{x:Str}(h:∀ p∈nv,p.nm ≠ x):valV (nvD nv) (Sum.inr x)=none:=by
 induction nv with
 | nil=>rfl
 | cons p r ih=>
  show valV ((Sum.inr p.nm,V.ref p.ad)::nvD r) (Sum.inr x)=none
  rw [valV_neg (λ e=>h p List.mem_cons_self (Sum.inr.inj e)),ih λ q hq=>h q (List.mem_cons_of_mem _ hq)]
theorem ok_Hall_refuse_new (T:Tx K mg t):FnOk P w K mg base CX0 2 t.a_Hall_refuse_new t.d_Hall_refuse_new ["self", "name"] (spHNew t):=by
 have G_is_name:=%[ok_is_name|36]
 refine T.F_Hall_refuse_new.ok c_Hall_refuse_new (λ vs H Q E h=>l_spHNew _ h) (λ c A o s H vs Q E hr h=>?_)
 ·obtain ⟨h,x,rfl,st,l,D,Pp,vals,nv,ps,ha,hn,hno,k⟩:=h
  have c1:=T.cl_Hall
  have c2:=T.na_Hall_views
  have f1:=hallF_views st D Pp
  refine ⟨_,%[%[(@pt_not _ _ _ _ (@pt_valN _ _ _ %[is_name,%[%[1|0]|1]|3] (by intros;rfl))),%[(@ps_never _ _)|10],(@pss_nil _)|16],%[%[%[(op_inD (units1 hr.units)),%[1|0],%[%[0|0],rfl|14],(by with_unfolding_all rfl)|17],%[(@ps_never _ _)|10],(@pss_nil _)|16]|10]|9],?_⟩
  rw [show start ["self", "name"] [.ref h,.str x]=[some (.ref h),some (.str x)] from rfl]
  clear G_is_name
  exists k
  ac_rfl
  rw [c_spName]
  refine ⟨hn,λ H1 e1=>?_⟩
  obtain ⟨⟨dx,h1⟩,_,h3,_⟩:=ha.ext e1
  have hv:=nvD_no hno
  ac_rfl
  refine use_in (k:=Sum.inr x) h3 ?_
  have k2:=k () H1 e1
  rw [hv]
  clear k h3
  ac_rfl
abbrev B_spHAll (t:Adr) (h:Addr) (H:Hp) (Q:VK) (E:XK):Prop:=∃ (st l D Pp:Addr) (vals:List Int) (nv:List NVw) (ps:List V),HallAt t H h st l D Pp vals nv ps/\vals.length<=4096/\∀ (r:Addr) (H':Hp),H r=none->Ext H H'->H' r=some (.lst (vals.map V.int))->Q (.ref r) H'
def spHAll (t:Adr):Sp:=λ vs H Q E=>∃ (h:Addr),vs=[.ref h]/\(B_spHAll t h H Q E)
theorem c_spHAll (t:Adr) (h:Addr) (H:Hp) (Q:VK) (E:XK):spHAll t [.ref h] H Q E=(B_spHAll t h H Q E):=spx1 (f:=λ (h:Addr)=>[.ref h]) (λ _ _ h=>by cases h;exact rfl) h
theorem l_spHAll (t:Adr){vs:List V}{H:Hp}{Q:VK}{E:XK}(h:spHAll t vs H Q E):vs.length=1:=spl1 h λ _=>rfl
theorem ok_Hall_all_values (T:Tx K mg t):FnOk P w K mg base CX0 2 t.a_Hall_all_values t.d_Hall_all_values ["self"] (spHAll t):=by
 have G_Store_all_values:=%[ok_Store_all_values|36]
 refine T.F_Hall_all_values.ok c_Hall_all_values (λ vs H Q E h=>l_spHAll _ h) (λ c A o s H vs Q E hr h=>?_)
 ·obtain ⟨h,rfl,st,l,D,Pp,vals,nv,ps,ha,hv,k⟩:=h
  have c1:=T.cl_Hall
  have c2:=T.na_Hall_store
  have c3:=T.cl_Store
  have f1:=hallF_store st D Pp
  have m1:=storeF_no l (m := "all_values") nofun
  obtain ⟨⟨dx,h1⟩,so,_,_⟩:=ha
  obtain ⟨dxs,hs⟩:=so.ob
  refine ⟨_,%[%[%[%[%[0|0],rfl|14],T.cl_Store,T.mt_Store_all_values,G_Store_all_values,(hr.mono ⋯),T.b_Store_all_values,.nil,pass0,∅|23]|12]|10],?_⟩
  rw [show start ["self"] [.ref h]=[some (.ref h)] from rfl]
  clear G_Store_all_values
  exists k
  exists so
  ac_rfl
  rw [c_spAllV]
  refine ⟨l,vals,so (),hv,λ r H1 hr1 e1 h1'=>?_⟩
  have k2:=k () r H1 hr1 e1 h1'
  clear k
  ac_rfl
theorem nvD_snoc {nv:List NVw}{p:NVw}(h:∀ q∈nv,q.nm ≠ p.nm):putK (nvD nv) (Sum.inr p.nm) (.ref p.ad)=nvD (nv++[p]):=by
 unfold putK
 rw [if_neg]
 ·unfold nvD;rw [List.map_append];rfl
 ·intro ha
  rw [List.any_eq_true] at ha
  obtain ⟨kv,hk,he⟩:=ha
  obtain ⟨q,hq,rfl⟩:=List.mem_map.mp hk
  exact h q hq (Sum.inr.inj (of_decide_eq_true he))
abbrev B_spHCall (t:Adr) (h:Addr) (x:Str) (v:Addr) (H:Hp) (Q:VK) (E:XK):Prop:=∃ (st l D Pp:Addr) (vals:List Int) (nv:List NVw) (ps:List V) (f:Int) (A:List (Int × Int)),HallAt t H h st l D Pp vals nv ps/\NameOk x/\(∀ p∈nv,p.nm ≠ x)/\nv.length<=100/\ViewAt t.a_View H v vals.length f A/\Axes A/\prodL (A.map λ a=>a.1)<=4096/\∀ H',(∀ H0,Ext H0 H->H0 D=none->Ext H0 H')->(∀ b o,b ≠ D->H b=some o->H' b=some o)->H' D=some (.dK (nvD (nv++[⟨x,v,f,A⟩])))->Q .non H'
def spHCall (t:Adr):Sp:=λ vs H Q E=>∃ (h:Addr) (x:Str) (v:Addr),vs=[.ref h,.str x,.ref v]/\(B_spHCall t h x v H Q E)
theorem c_spHCall (t:Adr) (h:Addr) (x:Str) (v:Addr) (H:Hp) (Q:VK) (E:XK):spHCall t [.ref h,.str x,.ref v] H Q E=(B_spHCall t h x v H Q E):=spx3 (f:=λ (h:Addr) (x:Str) (v:Addr)=>[.ref h,.str x,.ref v]) (λ _ _ _ _ _ _ h=>by cases h;exact ⟨rfl,rfl,rfl⟩) h x v
theorem l_spHCall (t:Adr){vs:List V}{H:Hp}{Q:VK}{E:XK}(h:spHCall t vs H Q E):vs.length=3:=spl3 h λ _ _ _=>rfl
theorem ok_Hall_call (T:Tx K mg t):FnOk P w K mg base CX0 4 t.a_Hall_call t.d_Hall_call ["self", "name", "view"] (spHCall t):=by
 have G_Hall_refuse_new:=%[ok_Hall_refuse_new|36]
 have G_Store_refuse_room:=%[ok_Store_refuse_room|36]
 have G_refuse_long:=%[ok_refuse_long|36]
 have G_View_count:=%[ok_View_count|36]
 refine T.F_Hall_call.ok c_Hall_call (λ vs H Q E h=>l_spHCall _ h) (λ cdv A' outer s H vs Q E hr h=>?_)
 ·obtain ⟨h,x,v,rfl,st,l,D,Pp,vals,nv,ps,f,A,ha,hn,hno,hl,vo,hax,hpr,k⟩:=h
  have c1:=T.cl_Hall
  have c2:=T.na_Hall_store
  have c3:=T.na_Hall_views
  have c4:=T.cl_Store
  have c5:=T.cl_View
  have f1:=hallF_store st D Pp
  have f2:=hallF_views st D Pp
  have f3:=hallF_no st D Pp (m := "refuse_new") nofun
  have m1:=storeF_no l (m := "refuse_room") nofun
  obtain ⟨dx,h1⟩:=ha.ob
  refine ⟨_,%[%[%[%[0|0],T.cl_Hall,T.mt_Hall_refuse_new,G_Hall_refuse_new,(hr.mono ⋯),T.b_Hall_refuse_new,.nil,pass0,%[%[1|0]|1],∅,∅,∅|21],∅|13],%[%[%[%[%[0|0],rfl|14],T.cl_Store,T.mt_Store_refuse_room,G_Store_refuse_room,(hr.mono ⋯),T.b_Store_refuse_room,.nil,pass0,%[%[2|0]|1],∅,∅,∅|21],∅|13],%[%[%[refuse_long,%[%[%[2|0],T.cl_View,T.mt_View_count,G_View_count,(hr.mono ⋯),T.b_View_count,.nil,pass0,∅|23]|1]|3],∅|13],%[(@ps_dput _ _ _ _ _ _ _ _ _ (units1 hr.units) %[%[0|0],rfl|14] %[1|0] %[2|0] rfl)|10]|9]|9]|9],?_⟩
  rw [show start ["self", "name", "view"] [.ref h,.str x,.ref v]=[some (.ref h),some (.str x),some (.ref v)] from rfl]
  clear G_Hall_refuse_new G_Store_refuse_room G_refuse_long G_View_count
  exists k
  exists ha
  ac_rfl
  rw [c_spHNew]
  refine ⟨st,l,D,Pp,vals,nv,ps,ha (),hn,hno,λ H1 e1=>?_⟩
  have g1:=e1.at h1
  have vo1:=vo.ext e1
  have ha1:=(ha ()).ext e1
  obtain ⟨dxs,hs⟩:=ha1.so.ob
  obtain ⟨dv,Dv,hv,_⟩:=vo1.ob
  have m2:=viewF_no (vals.length:Int) f Dv (m := "count") nofun
  exists ha1
  exists vo1
  clear h1
  ac_rfl
  rw [c_spRoom]
  refine ⟨l,vals,_,f,A,(ha1 ()).so,vo1 (),rfl,?_⟩
  ac_rfl
  rw [c_spVCount]
  refine ⟨_,f,A,vo1 (),hax,λ H2 e2=>?_⟩
  have g2:=e2.at g1
  have hd2:=e2.at (ha1 ()).dk
  clear g1 hs hv
  ac_rfl
  rw [c_spLong]
  refine ⟨λ _=>?_,λ h=>absurd h %[0|8]⟩
  ac_rfl
  refine use_dp (k:=Sum.inr x) hd2 (lt5000 (by unfold nvD;rw [List.length_map];omega)) ?_
  rw [nvD_snoc (p:=⟨x,v,f,A⟩) hno]
  exact k () _ (λ H0 q0 q1=>((q0.trans e1).trans e2).put q1) (λ b o hb hbo=>by rw [upd_ne hb];exact e2.at (e1.at hbo)) upd_same
def VwsAt (CV:Addr) (H:Hp) (n:Nat) (nv:List NVw):Prop:=∀ p∈nv,ViewAt CV H p.ad (n:Int) p.f p.A/\Axes p.A/\prodL (p.A.map λ a=>a.1)<=4096/\OnFloor (cellsL p.f p.A) n
theorem VwsAt.ext {CV:Addr}{H H':Hp}{n:Nat}{nv:List NVw}(h:VwsAt CV H n nv) (e:Ext H H'):VwsAt CV H' n nv:=λ p hp=>⟨(h p hp).1.ext e,(h p hp).2⟩
def NmNd (nv:List NVw):Prop:=(nv.map NVw.nm).Nodup
theorem NmNd.inj {nv:List NVw}(h:NmNd nv){p q:NVw}(hp:p∈nv) (hq:q∈nv) (e:p.nm=q.nm):p=q:=by
 induction nv with
 | nil=>cases hp
 | cons a r ih=>
  have h2:=List.nodup_cons.mp (show (a.nm::r.map NVw.nm).Nodup from h)
  rcases List.mem_cons.mp hp with ea|hp
  ·rcases List.mem_cons.mp hq with eb|hq
   ·rw [ea,eb]
   ·exact absurd (List.mem_map.mpr ⟨q,hq,by rw [←e,ea]⟩) h2.1
  ·rcases List.mem_cons.mp hq with eb|hq
   ·exact absurd (List.mem_map.mpr ⟨p,hp,by rw [e,eb]⟩) h2.1
   ·exact ih h2.2 hp hq
theorem nvD_val {nv:List NVw}(h:NmNd nv){p:NVw}(hp:p∈nv):valV (nvD nv) (Sum.inr p.nm)=some (.ref p.ad):=by
 induction nv with
 | nil=>cases hp
 | cons a r ih=>
  have h2:=List.nodup_cons.mp (show (a.nm::r.map NVw.nm).Nodup from h)
  show valV ((Sum.inr a.nm,V.ref a.ad)::nvD r) _=_
  rcases List.mem_cons.mp hp with ea|hp
  ·rw [ea];exact valV_pos rfl
  ·rw [valV_neg (λ e=>h2.1 (List.mem_map.mpr ⟨p,hp,(Sum.inr.inj e).symm⟩))]
   exact ih h2.2 hp
def chgB (vals old:List Int) (p:NVw):Bool:=(cellsL p.f p.A).any λ c=>decide (vals.getD c.toNat 0 ≠ old.getD c.toNat 0)
def chgN (vals old:List Int) (nv:List NVw):List V:=(nv.filter (chgB vals old)).map λ p=>V.str p.nm
def cN (vals old:List Int) (nv:List NVw) (z:Key × V):Bool:=nv.any λ p=>decide (z.1=Sum.inr p.nm) && chgB vals old p
theorem cN_at {vals old:List Int}{nv:List NVw}(h:NmNd nv){p:NVw}(hp:p∈nv):cN vals old nv (Sum.inr p.nm,V.ref p.ad)=chgB vals old p:=by
 unfold cN
 cases hc:chgB vals old p with
 | true=>
  rw [List.any_eq_true]
  exact ⟨p,hp,by rw [hc];simp⟩
 | false=>
  rw [List.any_eq_false]
  intro q hq he
  rw [Bool.and_eq_true] at he
  have e:=Sum.inr.inj (of_decide_eq_true he.1)
  rw [h.inj hp hq e,he.2] at hc
  cases hc
theorem cN_all {vals old:List Int}{nv:List NVw}(h:NmNd nv):((nvD nv).filter (cN vals old nv)).map (λ z=>kV z.1)=chgN vals old nv:=by
 unfold chgN nvD
 rw [List.filter_map,List.map_map]
 have:List.filter (cN vals old nv ∘ λ p=>(Sum.inr p.nm,V.ref p.ad)) nv=List.filter (chgB vals old) nv:=List.filter_congr λ p hp=>cN_at h hp
 rw [this]
 rfl
def ChgI (vals old:List Int) (i:Nat) (kvs:List (Key × V)):Prop:=kvs.length<=i/\∀ c:Int,(valV kvs (Sum.inl c)).isSome=decide (0<=c/\c < (i:Int)/\vals.getD c.toNat 0 ≠ old.getD c.toNat 0)
theorem ChgI.nil (vals old:List Int):ChgI vals old 0 []:=⟨Nat.le_refl _,λ c=>by
 show false=_
 exact (decide_eq_false (λ h=>by have:=h.1;have:=h.2.1;omega)).symm⟩
theorem ChgI.same {vals old:List Int}{i:Nat}{kvs:List (Key × V)}(h:ChgI vals old i kvs) (e:vals.getD i 0=old.getD i 0):ChgI vals old (i+1) kvs:=⟨Nat.le_succ_of_le h.1,λ c=>by
 rw [h.2 c]
 by_cases hc:c=(i:Int)
 ·subst hc
  rw [decide_eq_false (λ h=>by have:=h.2.1;omega),decide_eq_false (λ h=>h.2.2 (by rw [Int.toNat_natCast];exact e))]
 ·exact decide_eq_decide.mpr ⟨λ h=>⟨h.1,by have:=h.2.1;omega,h.2.2⟩,λ h=>⟨h.1,by have:=h.2.1;omega,h.2.2⟩⟩⟩
theorem ChgI.put {vals old:List Int}{i:Nat}{kvs:List (Key × V)}(h:ChgI vals old i kvs) (e:vals.getD i 0 ≠ old.getD i 0):ChgI vals old (i+1) (putK kvs (Sum.inl (i:Int)) (.bl true)):=⟨Nat.le_trans (length_putK _ _ _) (Nat.succ_le_succ h.1),λ c=>by
 rw [valV_put]
 by_cases hc:c=(i:Int)
 ·subst hc
  rw [if_pos rfl,decide_eq_true ⟨Int.natCast_nonneg _,by omega,by rw [Int.toNat_natCast];exact e⟩]
  rfl
 ·rw [if_neg (λ z=>hc (Sum.inl.inj z)),h.2 c]
  exact decide_eq_decide.mpr ⟨λ h=>⟨h.1,by have:=h.2.1;omega,h.2.2⟩,λ h=>⟨h.1,by have:=h.2.1;omega,h.2.2⟩⟩⟩
theorem ChgI.at {vals old:List Int}{n:Nat}{kvs:List (Key × V)}(h:ChgI vals old n kvs){c:Int}(h0:0<=c) (h1:c < (n:Int)):(valV kvs (Sum.inl c)).isSome=decide (vals.getD c.toNat 0 ≠ old.getD c.toNat 0):=by
 rw [h.2 c]
 exact decide_eq_decide.mpr ⟨λ h=>h.2.2,λ h=>⟨h0,h1,h⟩⟩
theorem ChgI.none {vals old:List Int}{n:Nat}{nv:List NVw}(h:ChgI vals old n []) (hv:∀ p∈nv,OnFloor (cellsL p.f p.A) n):chgN vals old nv=[]:=by
 unfold chgN
 rw [List.map_eq_nil_iff,List.filter_eq_nil_iff]
 intro p hp hc
 obtain ⟨c,hc1,hc2⟩:=List.any_eq_true.mp hc
 have o:=hv p hp c hc1
 have:=h.at o.1 o.2
 rw [hc2] at this
 cases this
theorem ViewAt.dk {C:Addr}{H:Hp}{v D:Addr}{room f:Int}{A:List (Int × Int)}{kvs:List (Key × V)}{o:HO}(h:ViewAt C H v room f A) (hD:H D=some (.dK kvs)):ViewAt C (upd H D o) v room f A:=by
 obtain ⟨dx,l,h1,ys,h2,h3⟩:=h.ob
 refine ⟨⟨dx,l,?_,ys,?_,h3.imp λ _ _ ⟨q,a1,a2⟩=>⟨q,a1,?_⟩⟩⟩
 ·rw [upd_ne (λ e=>by rw [e,hD] at h1;cases h1)];exact h1
 ·rw [upd_ne (λ e=>by rw [e,hD] at h2;cases h2)];exact h2
 ·rw [upd_ne (λ e=>by rw [e,hD] at a2;cases a2)];exact a2
abbrev B_spHSince (t:Adr) (h:Addr) (b:Addr) (H:Hp) (Q:VK) (E:XK):Prop:=∃ (st l D Pp:Addr) (vals old:List Int) (nv:List NVw) (ps:List V),HallAt t H h st l D Pp vals nv ps/\vals.length<=4096/\H b=some (.lst (old.map V.int))/\old.length=vals.length/\VwsAt t.a_View H vals.length nv/\NmNd nv/\nv.length<=100/\∀ (r:Addr) (H':Hp),H r=none->Ext H H'->H' r=some (.lst (chgN vals old nv))->Q (.ref r) H'
def spHSince (t:Adr):Sp:=λ vs H Q E=>∃ (h:Addr) (b:Addr),vs=[.ref h,.ref b]/\(B_spHSince t h b H Q E)
theorem c_spHSince (t:Adr) (h:Addr) (b:Addr) (H:Hp) (Q:VK) (E:XK):spHSince t [.ref h,.ref b] H Q E=(B_spHSince t h b H Q E):=spx2 (f:=λ (h:Addr) (b:Addr)=>[.ref h,.ref b]) (λ _ _ _ _ h=>by cases h;exact ⟨rfl,rfl⟩) h b
theorem l_spHSince (t:Adr){vs:List V}{H:Hp}{Q:VK}{E:XK}(h:spHSince t vs H Q E):vs.length=2:=spl2 h λ _ _=>rfl
theorem ok_Hall_changed_since (T:Tx K mg t):FnOk P w K mg base CX0 5 t.a_Hall_changed_since t.d_Hall_changed_since ["self", "before"] (spHSince t):=by
 have G_Store_all_values:=%[ok_Store_all_values|36]
 have G_View_cells:=%[ok_View_cells|36]
 refine T.F_Hall_changed_since.ok c_Hall_changed_since (λ vs H Q E h=>l_spHSince _ h) (λ cdv A' outer s H vs Q E hr h=>?_)
 ·obtain ⟨h,b,rfl,st,l,D,Pp,vals,old,nv,ps,ha,hv4,hb,hol,hvw,hnd,hnl,k⟩:=h
  have c1:=T.cl_Hall
  have c2:=T.na_Hall_store
  have c3:=T.na_Hall_views
  have c4:=T.cl_Store
  have c5:=T.cl_View
  have f1:=hallF_store st D Pp
  have f2:=hallF_views st D Pp
  have m1:=storeF_no l (m := "all_values") nofun
  obtain ⟨dx,h1⟩:=ha.ob
  refine ⟨_,%[(@ps_set _ _ (2) _ _ _ _ c_Hall_changed_since.nd rfl (Or.inr rfl) (@pe_nDNew _ _) ∅ %[0|7]),%[%[PassesOwn.never,rfl,(@pi_enum _ _ _ _ _ _ _ _ ∅ T.z_enumerate %[%[%[%[0|0],rfl|14],T.cl_Store,T.mt_Store_all_values,G_Store_all_values,(hr.mono ⋯),T.b_Store_all_values,.nil,pass0,∅|23]|1] ∅),(%[(2),rfl,%[%[3,c_Hall_changed_since|5],%[%[4,c_Hall_changed_since|5],(@pgs_nilN _),∅|18],∅|18],∅,∅|28].mono λ _ _ _ _ h=>gTup_q h),%[%[%[(op_qNe hr.units),%[4|0],%[ix_q,%[1|0],%[3|0],(λ _ _=>rfl)|15],(nomark _)|17],%[(@ps_dput _ _ _ _ _ _ _ _ _ (units1 hr.units) %[2|0] %[3|0] (@pe_bl _ _ _ _) rfl)|10],(@pss_nil _)|16]|10],(by intros;rfl)|26],%[%[%[(op_qEq hr.units),%[len,call_qLenD,%[%[2|0]|1]|6],%[0|2],(nomark _)|17],%[%[%[(@pa_nil _)|25]|12]|10],(@pss_nil _)|16],%[%[(@pe_thaw _ _ _ %[(["name", "self", "before", "changed", "cell", "value"]),(1),(comp_ok (defScope s_Hall_changed_since) ["self", "before", "changed", "cell", "value"] rfl rfl nofun),rfl,(@pi_dict _ _ _ _ %[%[0|0],rfl|14]),(λ C s₀ H₀ ex pn=>%[(0),_,(show List.Nodup (["name", "self", "before", "changed", "cell", "value"]:List Str) from by decide +kernel),rfl,(Or.inl rfl),%[0|7]|19]),(λ C s₀ H₀ ex pn=>(@pts_one _ _ _ (@pt_valN _ _ _ %[any,(call_qAny rfl),%[%[(["cell", "name", "self", "before", "changed", "!cell", "value"]),(1),(comp_ok _ ["name", "self", "before", "changed", "cell", "value"] rfl rfl (by kernel_rfl)),rfl,(@pi_seq' _ _ _ _ (K) rfl %[(@pe_dget _ _ _ _ _ _ (units1 hr.units) (@pe_nFld' _ _ _ _ _ (K) rfl %[1|0] rfl) %[0|0] (λ _ _=>rfl)),T.cl_View,T.mt_View_cells,G_View_cells,(hr.mono ⋯),T.b_View_cells,.nil,pass0,∅|23]),(λ C s₀ H₀ ex pn=>%[(0),_,(show List.Nodup (["cell", "name", "self", "before", "changed", "!cell", "value"]:List Str) from by decide +kernel),rfl,(Or.inl rfl),%[0|7]|19]),(λ C s₀ H₀ ex pn=>(@pts_nil _)),(λ C s₀ H₀ ex pn=>%[(op_inD (units1 hr.units)),%[0|0],%[4|0],(by with_unfolding_all rfl)|34]),(by intros;rfl)|24]|1]|6] (by intros;rfl)))),(λ C s₀ H₀ ex pn=>%[0|0]),(by intros;rfl)|24])|12]|10]|9]|9]|9],?_⟩
  rw [show start ["self", "before", "changed", "cell", "value"] [.ref h,.ref b]=[some (.ref h),some (.ref b),none,none,none] from rfl]
  clear G_Store_all_values G_View_cells
  exists k
  exists ha
  exists hvw
  exists hnd
  ac_rfl
  intro C H1 hC e1 hC1
  have g1:=e1.at h1
  have ha1:=(ha ()).ext e1
  obtain ⟨dxs,hs⟩:=ha1.so.ob
  exists ha1
  ac_rfl
  rw [c_spAllV]
  refine ⟨l,vals,(ha1 ()).so,hv4,λ r H2 hr2 e2 h2=>?_⟩
  have e02:=e1.trans e2
  have hC2:=e2.at hC1
  have nrC:r ≠ C:=λ z=>by rw [z,hC1] at hr2;cases hr2
  have hCn:H C=none:=hC
  exists hb
  exists h1
  clear g1 hs hC1
  ac_rfl
  refine for_enum (λ i σ H'=>∃ (kvs:List (Key × V)) (v3 v4:Option V),σ=[some (.ref h),some (.ref b),some (.ref C),v3,v4]/\Ext H H'/\H' r=some (.lst (vals.map V.int))/\H' C=some (.dK kvs)/\ChgI vals old i kvs) ⟨[],_,_,rfl,e02,h2,hC2,ChgI.nil _ _⟩ (λ i σ H' ⟨_,_,_,_,_,a,_⟩=>a) ?_ ?_
  ·rintro i u p _ H3 H4 hu ⟨kvs,v3,v4,rfl,e3,h3,hC3,hI⟩ hp e4 hp4
   rw [List.getElem?_map] at hu
   obtain ⟨x,hx,rfl⟩:=Option.map_eq_some_iff.mp hu
   have hi:i < vals.length:=(List.getElem?_eq_some_iff.mp hx).1
   have hxv:vals.getD i 0=x:=by rw [List.getD_eq_getElem?_getD,hx];rfl
   have e04:=e3.trans e4
   have hb4:=e04.at (hb ())
   have h3_4:=e4.at h3
   have hC4:=e4.at hC3
   have gi:atI (old.map V.int) (i:Int)=some (.int (old.getD i 0)):=atI_nat (by rw [List.getElem?_map,List.getD_eq_getElem?_getD,List.getElem?_eq_getElem %[0|8]];rfl)
   generalize hy:old.getD i 0=y at gi
   exists hxv
   exists hy
   exists hI
   clear hu h2 hC2 hx h3 hC3
   by_cases hxy:x=y
   ·simp! only [↓m_kBody]
    exact ⟨kvs,_,_,rfl,e04,(by first|rfl|exact hC4),(hI ()).same (by rw [hxv (),hy ()];exact hxy)⟩
   ·simp! only [↓m_kBody]
    refine use_dp (k:=Sum.inl (i:Int)) hC4 (lt5000 (by have:=(hI ()).1;omega)) ?_
    exact ⟨_,_,_,rfl,e04.put hCn,by rw [upd_ne nrC];exact h3_4,upd_same,(hI ()).put (by rw [hxv (),hy ()];exact hxy)⟩
  ·rintro _ H3 ⟨kvs,v3,v4,rfl,e3,h3,hC3,hI⟩
   rw [List.length_map] at hI
   clear h2 hC2 nrC e1 e2 e02 hr2 hC
   ac_rfl
   refine use_lenD hC3 ?_
   exists hI
   have on:∀ p∈nv,OnFloor (cellsL p.f p.A) vals.length:=λ p hp=>(hvw () p hp).2.2.2
   exists on
   by_cases hz:kvs=[]
   ·subst hz
    have k1:=k ()
    rw [ChgI.none (hI ()) (on ())] at k1
    exists k1
    clear k
    ac_rfl
    intro r2 H4 hr4 e4 h4
    exact k1 () r2 H4 (e3.free hr4) (e3.trans e4) h4
   ·have hz':¬ ((kvs.length:Int)=0):=λ z=>hz (List.length_eq_zero_iff.mp %[0|8])
    have g3:=e3.at (h1 ())
    have hD3:=e3.at (ha ()).dk
    have hvw3:=(hvw ()).ext e3
    exists hvw3
    clear hz
    ac_rfl
    refine use_cd (cN vals old nv) (λ z=>kV z.1) hD3 (len5000 (by unfold nvD;rw [List.length_map];omega)) ?_ ?_
    ·intro L ob z H4 N1 N0 hz hL e4 hf4 k1 k0
     obtain ⟨p,hp,rfl⟩:=List.mem_map.mp hz
     rw [cN_at (hnd ()) hp] at k1 k0
     obtain ⟨vo,hax,hpr,hon⟩:=hvw3 () p hp
     have vo4:=(vo.dk (o:=.frz ob (.dK (nvD nv))) hD3).ext e4
     have hval:=nvD_val (hnd ()) hp
     have nhD:h ≠ D:=λ e=>by rw [e,hD3] at g3;cases g3
     have nCD:C ≠ D:=λ e=>by have q:=(ha ()).dk;rw [←e,hCn] at q;cases q
     have g4:H4 h=some (.ins t.a_Hall dx (hallF st D Pp)):=e4.at (by rw [upd_ne nhD];exact g3)
     have hC4:H4 C=some (.dK kvs):=e4.at (by rw [upd_ne nCD];exact hC3)
     obtain ⟨dv,Dv,hv,_⟩:=vo4.ob
     have m2:=viewF_no (vals.length:Int) p.f Dv (m := "cells") nofun
     clear k hz' g3 hC3 hz vo
     show gName 0 (.str p.nm) _ H4 _
     exists k1
     exists k0
     exists vo4
     generalize hnm:p.nm=nm at *
     generalize hpa:p.ad=pa at *
     exists hnm
     exists hpa
     simp! only [↓m_kCm_1,↓m_kCm2]
     refine use_dgF (k:=Sum.inr nm) hf4 hval ?_
     ac_rfl
     rw [c_spCells]
     refine ⟨_,p.f,p.A,vo4 (),hax,λ _ c5 H5 hc5 e5 h5=>?_,by omega⟩
     have hC5:=e5.at hC4
     have clen:=cellsL_len p.f p.A λ a ha=>(hax.2 a ha).1
     clear hval hf4 g4 hv
     ac_rfl
     refine comp_fm ((cellsL p.f p.A).map V.int) (λ _=>true) (λ z=>.bl (valV kvs (Sum.inl (vi z))).isSome) (λ z x H'=>x=z/\H' c5=some (.lst ((cellsL p.f p.A).map V.int))) (wk_lst h5).1 (wk_lst h5).2 (len5000 (by rw [List.length_map];omega)) ?_ ?_
     ·intro L2 z x H' M1 M0 hz hL2 e ⟨hx,_⟩ j1 _
      subst hx
      obtain ⟨c,_,rfl⟩:=List.mem_map.mp hz
      have hC6:=e.at hC5
      have j1':M1 (.bl (valV kvs (Sum.inl c)).isSome) H':=j1 rfl H' (Ext.refl _)
      clear j1 hz k1 k0
      simp! only [↓m_kCm_1,↓m_kCm2]
      refine use_in (k:=Sum.inl c) hC6 ?_
      simp! only [↓m_kCm_1,↓m_kCm2]
     intro L2 H6 hL2 e6 hL6
     have hany:(((cellsL p.f p.A).map λ c=>(valV kvs (Sum.inl c)).isSome)).any id=chgB vals old p:=by
      unfold chgB
      rw [List.any_map]
      have aux:∀ cs:List Int,(∀ c∈cs,0<=c/\c < (vals.length:Int))->(cs.any (id ∘ λ c=>(valV kvs (Sum.inl c)).isSome))=cs.any λ c=>decide (vals.getD c.toNat 0 ≠ old.getD c.toNat 0):=by
       intro cs
       induction cs with
       | nil=>intro _;rfl
       | cons c r ih=>
        intro hcs
        have o:=hcs c List.mem_cons_self
        rw [List.any_cons,List.any_cons,ih λ d hd=>hcs d (List.mem_cons_of_mem _ hd)]
        show ((valV kvs (Sum.inl c)).isSome || _)=_
        rw [(hI ()).at o.1 o.2]
      exact aux _ hon
     have hL6':H6 L2=some (.lst (((cellsL p.f p.A).map λ c=>(valV kvs (Sum.inl c)).isSome).map V.bl)):=by
      rw [hL6,filt,List.map_map,List.map_map];rfl
     have bl5:((cellsL p.f p.A).map λ c=>(valV kvs (Sum.inl c)).isSome).length<=4096:=by rw [List.length_map];omega
     generalize ((cellsL p.f p.A).map λ c=>(valV kvs (Sum.inl c)).isSome)=bs at hany hL6' bl5
     clear hL6 h5 hC5
     cases hc:chgB vals old p with
     | true=>
      rw [hc] at hany
      have k1':N1 (.str nm) H6:=k1 () hc H6 (e5.trans e6)
      clear k1 k0
      ac_rfl
     | false=>
      rw [hc] at hany
      have k0':=k0 () hc H6 (e5.trans e6)
      clear k1 k0
      ac_rfl
    ·intro L H4 hL e4 hL4
     rw [cN_all (hnd ())] at hL4
     exact k () L H4 (e3.free hL) (e3.trans e4) hL4
theorem wide_kept (cs:List Int) (a:Int × Int) (h:1<=a.1):wideL cs (keptA a)=wideL cs a:=by
 unfold wideL
 show (cs.flatMap λ c=>(List.range a.1.toNat).map λ (n:Nat)=>c+(n:Int) * (if a.1 > 1 then a.2 else 0))=_
 by_cases h1:a.1 > 1
 ·rw [if_pos h1]
 ·rw [if_neg h1]
  have e:a.1.toNat=1:=by omega
  rw [e]
  refine congrArg (λ f=>cs.flatMap f) (funext λ c=>?_)
  simp
theorem fold_kept:∀ (axs:List (Int × Int)) (cs:List Int),(∀ a∈axs,(1:Int)<=a.1)->(axs.map keptA).foldl wideL cs=axs.foldl wideL cs
 | [],cs,_=>rfl
 | a::r,cs,h=>by
  rw [List.map_cons,List.foldl_cons,List.foldl_cons,wide_kept cs a (h a List.mem_cons_self),fold_kept r _ λ b hb=>h b (List.mem_cons_of_mem _ hb)]
theorem cells_kept (f:Int) (axs:List (Int × Int)) (h:∀ a∈axs,(1:Int)<=a.1):cellsL f (axs.map keptA)=cellsL f axs:=fold_kept axs [f] h
theorem kept_sizes (axs:List (Int × Int)):(axs.map keptA).map (λ a=>a.1)=axs.map λ a=>a.1:=by rw [List.map_map];rfl
theorem span_kept:∀ l:List (Int × Int),(∀ a∈l,(1:Int)<=a.1)->leastL (l.map keptA)=leastL l/\greatL (l.map keptA)=greatL l
 | [],_=>⟨rfl,rfl⟩
 | a::r,h=>by
  obtain ⟨i1,i2⟩:=span_kept r λ b hb=>h b (List.mem_cons_of_mem _ hb)
  have ha:=h a List.mem_cons_self
  have e:((keptA a).1 - 1) * (keptA a).2=(a.1 - 1) * a.2:=by
   show (a.1 - 1) * (if a.1 > 1 then a.2 else 0)=_
   split
   ·rfl
   ·have:a.1=1:=by omega
    rw [this];simp
  rw [List.map_cons,leastL_cons,greatL_cons,leastL_cons,greatL_cons,e,i1,i2]
  exact ⟨rfl,rfl⟩
def kPcs (H:Hp) (Q:VK):List Int->Prop:=λ ns=>∀ (r:Addr) (H':Hp),H r=none->Ext H H'->H' r=some (.lst ((pacesL ns).map V.int))->Q (.ref r) H'
theorem x_kPcs (H:Hp) (Q:VK) (ns:List Int):kPcs H Q ns=∀ (r:Addr) (H':Hp),H r=none->Ext H H'->H' r=some (.lst ((pacesL ns).map V.int))->Q (.ref r) H':=rfl
def spPaces  : Sp:=λ vs H Q E=>∃ (p:Addr),vs=[.ref p]/\(optK (lstAt H p) (kInts (kSz (kPcs H Q))))
theorem c_spPaces  (p:Addr) (H:Hp) (Q:VK) (E:XK):spPaces  [.ref p] H Q E=(optK (lstAt H p) (kInts (kSz (kPcs H Q)))):=spx1 (f:=λ (p:Addr)=>[.ref p]) (λ _ _ h=>by cases h;exact rfl) p
theorem l_spPaces  {vs:List V}{H:Hp}{Q:VK}{E:XK}(h:spPaces  vs H Q E):vs.length=1:=spl1 h λ _=>rfl
theorem ok_paces_of (T:Tx K mg t):FnOk P w K mg base CX0 1 t.a_paces_of t.d_paces_of ["sizes"] spPaces:=by
 refine T.F_paces_of.ok c_paces_of (λ vs H Q E h=>l_spPaces h) (λ c A o s H vs Q E hr h=>?_)
 ·obtain ⟨p,rfl,h⟩:=h
  obtain ⟨xs,hp,ns,rfl,hs,k⟩:=optK_ex h
  replace hp:=lst_of hp
  rw [x_kPcs] at k
  refine ⟨_,%[%[1,c_paces_of,%[(@pa_nil _)|25]|4],%[%[2,c_paces_of,%[0|2]|4],%[%[PassesOwn.never,rfl,(@pi_rev _ _ _ _ _ _ ∅ T.z_reversed %[%[0|0]|1] ∅),%[3,c_paces_of|5],%[%[%[PySem.F.plainAttrs_list,PySem.F.slot_list_append,PySem.F.type_list_append,mt_append,%[1|0],%[%[2|0]|1],∅,∅,∅,∅,∅|30],∅|13],%[%[2,c_paces_of,%[on_mulB,%[2|0],%[3|0]|11]|4]|10]|9],(by intros;rfl)|26],%[%[(@pe_bm0 _ _ _ _ _ _ _ _ _ PySem.F.plainAttrs_list PySem.F.slot_list_reverse PySem.F.type_list_reverse mt_reverse %[1|0] ∅ ∅),∅|13],%[%[%[1|0]|12]|10]|9]|9]|9]|9],?_⟩
  rw [show start ["sizes", "paces", "pace", "size"] [.ref p]=[some (.ref p),none,none,none] from rfl]
  ac_rfl
  intro r H1 hr1 e1 h1
  have hp1:=e1.at hp
  have hrp:r ≠ p:=λ z=>by rw [z,hp] at hr1;cases hr1
  ac_rfl
  refine for_rev (xs:=ns.map V.int) (λ i σ H'=>∃ v:Option V,σ=[some (.ref p),some (.ref r),some (.int (prodL (ns.drop (ns.length - i)))),v]/\Ext H H'/\H' r=some (.lst ((pacesL (ns.drop (ns.length - i))).reverse.map V.int))) ⟨none,by simp [prodL],e1,by simpa [pacesL] using h1⟩ (λ i σ H' _ ⟨_,_,e,_⟩=>SqL.of (e.at hp)) ?_ ?_
  ·rintro i x _ H2 hi hx ⟨v,rfl,e2,h2⟩
   rw [List.length_map] at hi hx
   rw [List.getElem?_map] at hx
   obtain ⟨z,hz,rfl⟩:=Option.map_eq_some_iff.mp hx
   have e:=prodL_step ns i z hi hz
   have e':=pacesL_step ns i z hi hz
   have b1:=(hs.drop (ns.length - i)).prod
   have b2:=hs.2 z (List.mem_of_getElem? hz)
   have hln:((pacesL (ns.drop (ns.length - i))).reverse).length < sizeLine:=by
    rw [List.length_reverse,pacesL_len]
    exact of_eq_true (lenLt _ (by have:=hs.1;simp;omega))
   have c1:(prodL (ns.drop (ns.length - i))).natAbs < 2 ^ 256:=by
    generalize prodL (ns.drop (ns.length - i))=y at b1
    have:(1000000000:Int) ^ 8 < 2 ^ 256:=by decide
    omega
   have c2:z.natAbs < 2 ^ 256:=by omega
   clear b1 b2
   simp! only [↓m_kBody,CMulB_of]
   exact ⟨_,rfl,e2.put hr1,by rw [List.map_append];rfl⟩
  ·rintro _ H2 ⟨v,rfl,e2,h2⟩
   rw [List.length_map,Nat.sub_self,List.drop_zero] at h2
   ac_rfl
   exact k r _ hr1 (e2.put hr1) (by rw [upd_same,←List.map_reverse,List.reverse_reverse])
theorem Fun.x {K:W.Frag}{x qual:Str}{st:Stmt}{f:Addr}{fd:FuncData}(F:Fun K x qual st f fd):FunX K x qual st f fd:=by
 obtain ⟨oc,od,kV,doc,pm,an,cdv,ct,osl,e,lk,hcd⟩:=F.ex
 exact ⟨⟨oc,od,.none,kV,doc,pm,an,cdv,ct,osl,e,lk,hcd⟩,F.kp⟩
theorem zip_ints (ms ws:List Int):(ms.map V.int).zip (ws.map V.int)=(ms.zip ws).map λ z=>(V.int z.1,V.int z.2):=by
 rw [List.zip_map];rfl
theorem al_zip {H:Hp}{ms ws:List Int}{ts:List V}(al:Al (λ z y=>zipP z y H) ((ms.map V.int).zip (ws.map V.int)) ts):Al (TupV H) (axL (ms.zip ws)) ts:=by
 rw [zip_ints] at al
 refine ⟨by rw [al.1];unfold axL;rw [List.length_map,List.length_map],λ i z y hz hy=>?_⟩
 unfold axL at hz
 rw [List.getElem?_map] at hz
 obtain ⟨x,hx,rfl⟩:=Option.map_eq_some_iff.mp hz
 obtain ⟨p,hp,hq⟩:=al.2 i (V.int x.1,V.int x.2) y (by rw [List.getElem?_map,hx];rfl) hy
 exact ⟨p,hp,hq⟩
theorem put_take (vals ws:List Int) (n:Nat) (hv:vals.length=n) (hw:ws.length=n):∀ i:Nat,i<=n->putL vals (((List.range n).map λ (k:Nat)=>(k:Int)).take i) (ws.take i)=ws.take i++vals.drop i
 | 0,_=>rfl
 | i+1,hi=>by
  have ih:=put_take vals ws n hv hw i %[0|8]
  have hc:((List.range n).map λ (k:Nat)=>(k:Int))[i]? = some (i:Int):=by rw [List.getElem?_map,List.getElem?_range %[0|8]];rfl
  have hwi:ws[i]? = some ws[i]:=List.getElem?_eq_getElem %[0|8]
  have hl:(ws.take i).length=i:=by rw [List.length_take];omega
  rw [putL_take hc hwi,ih,Int.toNat_natCast,List.set_append,if_neg %[0|8],hl,Nat.sub_self,List.drop_eq_getElem_cons (show i < vals.length by omega),List.set_cons_zero,List.take_add_one,hwi,List.append_assoc]
  rfl
theorem put_all {vals ws:List Int}(h:ws.length=vals.length):putL vals ((List.range vals.length).map λ (k:Nat)=>(k:Int)) ws=ws:=by
 have:=put_take vals ws vals.length rfl h vals.length (Nat.le_refl _)
 rw [List.take_of_length_le (by rw [List.length_map,List.length_range];exact Nat.le_refl _),List.take_of_length_le %[0|8],List.drop_of_length_le (Nat.le_refl _),List.append_nil] at this
 exact this
theorem whole_cells (n:Nat) (h:1<=n):cellsL 0 ([((n:Int),(1:Int))].map keptA)=(List.range n).map λ (k:Nat)=>(k:Int):=by
 rw [cells_kept 0 _ (λ a ha=>by rw [List.mem_singleton.mp ha];show (1:Int)<=n;omega)]
 show wideL [0] ((n:Int),(1:Int))=_
 unfold wideL
 simp
abbrev B_spWh1 (C:Addr) (p:Addr) (H:Hp) (Q:VK) (E:XK):Prop:=∃ n:Int,H p=some (.lst [.int n])/\1<=n/\n<=4096/\∀ (x:Addr) (H':Hp),Ext H H'->ViewAt C H' x n 0 ([(n,1)].map keptA)->Q (.ref x) H'
def spWh1 (C:Addr):Sp:=λ vs H Q E=>∃ (p:Addr),vs=[.ref p,.non]/\(B_spWh1 C p H Q E)
theorem c_spWh1 (C:Addr) (p:Addr) (H:Hp) (Q:VK) (E:XK):spWh1 C [.ref p,.non] H Q E=(B_spWh1 C p H Q E):=spx1 (f:=λ (p:Addr)=>[.ref p,.non]) (λ _ _ h=>by cases h;exact rfl) p
theorem l_spWh1 (C:Addr){vs:List V}{H:Hp}{Q:VK}{E:XK}(h:spWh1 C vs H Q E):vs.length=2:=spl1 h λ _=>rfl
theorem ok_whole (T:Tx K mg t):FnOk P w K mg base CX0 8 t.a_whole t.d_whole ["sizes", "room"] (spWh1 t.a_View):=by
 have G_count_of:=%[ok_count_of|36]
 have G_paces_of:=%[ok_paces_of|36]
 have G_View___init__:=%[ok_View___init__|36]
 refine T.F_whole.ok c_whole (λ vs H Q E h=>l_spWh1 _ h) (λ c A o s H vs Q E hr h=>?_)
 ·obtain ⟨p,rfl,n,hp,n1,n2,k⟩:=h
  refine ⟨_,%[%[2,c_whole,(@pe_ifExp _ _ _ _ _ _ _ _ %[op_qIs,%[1|0],(@pe_non _ _ _),(nomark _)|17] %[count_of,%[%[0|0]|1]|3] %[1|0])|4],%[%[%[T.mk_View,G_View___init__,(hr.mono ⋯),∅,T.m_View,T.b_View___init__,.nil,pass0,%[%[2|0],%[%[0|2],%[(@pe_listzip _ _ _ _ _ _ _ _ rfl ∅ T.z_list ∅ T.z_zip %[%[0|0],%[%[paces_of,%[%[0|0]|1]|3]|1]|1] ∅ ∅ ∅ ∅)|1]|1]|1],⋯,∅,∅|31]|12]|10]|9],?_⟩
  rw [show start ["sizes", "room", "cells"] [.ref p,.non]=[some (.ref p),some (.non),none] from rfl]
  clear G_count_of G_paces_of G_View___init__
  have hsz:Sizes [n]:=⟨by simp,λ m hm=>by rw [List.mem_singleton.mp hm];omega⟩
  have hp':H p=some (.lst (([n]:List Int).map V.int)):=hp
  have hpr:prodL [n]=n:=by show n * 1=n;omega
  have hpa:pacesL [n]=[1]:=rfl
  have hax:Axes [(n,(1:Int))]:=⟨by simp,λ a ha=>by rw [List.mem_singleton.mp ha];show 1<=n/\n<=1000000000;omega⟩
  have hv:ViewOk n 0 [(n,(1:Int))]:=by
   obtain ⟨g1,g2⟩:=span_kept [(n,(1:Int))] λ a ha=>(hax.2 a ha).1
   refine ⟨hax,n1,by omega,?_,?_⟩
   ·rw [g1,leastL_cons];show 0<=0+(min 0 ((n - 1) * 1)+0);omega
   ·rw [g2,greatL_cons];show 0+(max 0 ((n - 1) * 1)+0) < n;omega
  exists k
  clear hp
  simp! only [↓c_spCount,↓m_kSz,↓x_kCnt,↓c_spPaces,↓x_kPcs]
  intro q H1 hq1 e1 h1
  have hp1:=e1.at hp'
  clear hq1 hp'
  ac_rfl
  rw [x_lzK]
  intro D ts H2 hD e2 h2 al2
  have t2:Al (TupV H2) (axL [(n,(1:Int))]) ts:=al_zip (ms:=[n]) (ws:=[1]) al2
  clear hD al2
  ac_rfl
  intro x dx H3 hx hdx hne e3 h3 h3'
  rw [c_spVInit]
  refine ⟨dx,[(n,1)],h3,TupsAt.ext ⟨ts,h2,t2⟩ e3,hv,λ H4 D2 e4 hD2 hx4 tt4=>?_⟩
  have k':=k () x H4 (e1.trans (e2.trans (e4 H2 e3 hx))) ⟨dx,D2,hx4,tt4⟩
  clear k
  ac_rfl
theorem fld_run {w:Nat}{u v:Addr}{x:V}(hw:w < 5):(fldW w u v x).lookup (Str.ofString "run")=none:=by
 match w,hw with
 | 0,_=>rfl
 | 1,_=>rfl
 | 2,_=>rfl
 | 3,_=>rfl
 | 4,_=>rfl
structure HallB (t:Adr) (B:Hp) (h st l D Pp:Addr) (nv:List NVw):Prop where
 ob:∃ dx,B h=some (.ins t.a_Hall dx (hallF st D Pp))
 so:∃ dx,B st=some (.ins t.a_Store dx (storeF l))
 dk:B D=some (.dK (nvD nv))
 nl:B l=none
 nP:B Pp=none
 lP:l ≠ Pp
 nd:NmNd nv
 n100:nv.length<=100
theorem HallB.at {t:Adr}{B H:Hp}{h st l D Pp:Addr}{nv:List NVw}{vals:List Int}{ps:List V}(a:HallB t B h st l D Pp nv) (e:Ext B H) (hl:H l=some (.lst (vals.map V.int))) (hP:H Pp=some (.lst ps)):HallAt t H h st l D Pp vals nv ps:=by
 obtain ⟨⟨dx,h1⟩,⟨dy,h2⟩,h3,_,_,_,_,_⟩:=a
 exact ⟨⟨dx,e.at h1⟩,⟨⟨dy,e.at h2⟩,hl⟩,e.at h3,hP⟩
theorem ViewAt.viz {C:Addr}{B H:Hp}{v l:Addr}{room f:Int}{A:List (Int × Int)}(h:ViewAt C B v room f A) (e:Ext B H) (hl:B l=none):ViZ C l H v room f A:=by
 obtain ⟨dx,D,h1,h2⟩:=h.ob
 exact ⟨dx,D,e.at h1,(λ z=>by obtain ⟨ys,h3,_⟩:=h2;rw [z,hl] at h3;cases h3),h2.ext e⟩
structure VwB (CV:Addr) (B:Hp) (u:Addr) (n:Nat) (f:Int) (A:List (Int × Int)):Prop where
 v:ViewAt CV B u (n:Int) f A
 ax:Axes A
 pr:prodL (A.map λ a=>a.1)<=4096
 on:OnFloor (cellsL f A) n
theorem VwB.run {CV:Addr}{B H:Hp}{u l:Addr}{vals:List Int}{f:Int}{A:List (Int × Int)}(h:VwB CV B u vals.length f A) (e:Ext B H) (hl:B l=none):RunV CV l H u vals f A:=⟨h.v.viz e hl,h.ax,h.pr,h.on⟩
theorem runL_len (i:Nat) (vals c1 c2:List Int) (z:Int):(runL i vals c1 c2 z).length=vals.length:=by
 unfold runL
 split
 ·rfl
 ·exact fillL_len z c1 vals
 ·exact putL_length _ _ _
 ·rw [putL_length,putL_length]
 ·exact putL_length _ _ _
theorem fresh_of {H H':Hp}{l Pp y:Addr}(eA:∀ H0,Ext H0 H->H0 l=none->H0 Pp=none->Ext H0 H') (hy:H' y=none) (n1:y ≠ l) (n2:y ≠ Pp):H y=none:=by
 cases hq:H y with
 | none=>rfl
 | some o=>
  have e4:=eA (λ x=>if x=l\/x=Pp then none else H x) (Same.ext λ x o' hx=>by
   by_cases hc:x=l\/x=Pp
   ·rw [if_pos hc] at hx;cases hx
   ·rw [if_neg hc] at hx;exact hx) (by rw [if_pos (.inl rfl)]) (by rw [if_pos (.inr rfl)])
  have:=e4.at (p:=y) (o:=o) (by rw [if_neg (λ hc=>hc.elim n1 n2)];exact hq)
  rw [hy] at this
  cases this
theorem ViewAt.updP {C:Addr}{H:Hp}{v Pp q:Addr}{room f:Int}{A:List (Int × Int)}{ps:List V}{xs:List V}{o:HO}(h:ViewAt C H v room f A) (hP:H Pp=some (.lst (ps++[.ref q]))) (hq:H q=some (.lst xs)):ViewAt C (upd H Pp o) v room f A:=by
 obtain ⟨dx,D,h1,ys,h2,h3⟩:=h.ob
 have nD:D ≠ Pp:=λ e=>by
  rw [e,hP] at h2
  injection h2 with h2
  injection h2 with h2
  subst h2
  have hl:=h3.1
  rw [List.length_append] at hl
  have hl':ps.length < (axL A).length:=by simp at hl;omega
  obtain ⟨q',a1,a2⟩:=h3.2 ps.length _ (.ref q) (List.getElem?_eq_getElem hl') (by simp)
  cases a1
  rw [hq] at a2
  cases a2
 refine ⟨⟨dx,D,?_,ys,?_,h3.imp λ _ _ ⟨q,a1,a2⟩=>⟨q,a1,?_⟩⟩⟩
 ·rw [upd_ne (λ e=>by rw [e,hP] at h1;cases h1)];exact h1
 ·rw [upd_ne nD];exact h2
 ·rw [upd_ne (λ e=>by rw [e,hP] at a2;cases a2)];exact a2
def spHDo (t:Adr):Sp:=λ vs H Q E=>∃ (h:Addr) (s:Addr),vs=[.ref h,.ref s]/\(∃ (B:Hp) (st l D Pp:Addr) (vals:List Int) (nv:List NVw) (ps:List V) (i:Nat) (u v dx:Addr) (z:Int) (f1:Int) (A1:List (Int × Int)) (f2:Int) (A2:List (Int × Int)),HallB t B h st l D Pp nv/\Ext B H/\H l=some (.lst (vals.map V.int))/\H Pp=some (.lst ps)/\ps.length<=100/\vals.length<=4096/\VwsAt t.a_View B vals.length nv/\i < 5/\B s=some (.ins (clsW t i) dx (fldW i u v (.int z)))/\VwB t.a_View B u vals.length f1 A1/\VwB t.a_View B v vals.length f2 A2/\prodL (A2.map λ a=>a.1)=prodL (A1.map λ a=>a.1)/\∀ (r b:Addr) (H':Hp),Ext B H'->H b=none->H r=none->r ≠ b->(∀ H0,Ext H0 H->H0 l=none->H0 Pp=none->Ext H0 H')->H' l=some (.lst ((runL i vals (cellsL f1 A1) (cellsL f2 A2) z).map V.int))->H' Pp=some (.lst (ps++[.ref b]))->H' b=some (.lst (vals.map V.int))->H' r=some (.lst (chgN (runL i vals (cellsL f1 A1) (cellsL f2 A2) z) vals nv))->Q (.ref r) H')
theorem c_spHDo (t:Adr) (h:Addr) (s:Addr) (H:Hp) (Q:VK) (E:XK):spHDo t [.ref h,.ref s] H Q E=(∃ (B:Hp) (st l D Pp:Addr) (vals:List Int) (nv:List NVw) (ps:List V) (i:Nat) (u v dx:Addr) (z:Int) (f1:Int) (A1:List (Int × Int)) (f2:Int) (A2:List (Int × Int)),HallB t B h st l D Pp nv/\Ext B H/\H l=some (.lst (vals.map V.int))/\H Pp=some (.lst ps)/\ps.length<=100/\vals.length<=4096/\VwsAt t.a_View B vals.length nv/\i < 5/\B s=some (.ins (clsW t i) dx (fldW i u v (.int z)))/\VwB t.a_View B u vals.length f1 A1/\VwB t.a_View B v vals.length f2 A2/\prodL (A2.map λ a=>a.1)=prodL (A1.map λ a=>a.1)/\∀ (r b:Addr) (H':Hp),Ext B H'->H b=none->H r=none->r ≠ b->(∀ H0,Ext H0 H->H0 l=none->H0 Pp=none->Ext H0 H')->H' l=some (.lst ((runL i vals (cellsL f1 A1) (cellsL f2 A2) z).map V.int))->H' Pp=some (.lst (ps++[.ref b]))->H' b=some (.lst (vals.map V.int))->H' r=some (.lst (chgN (runL i vals (cellsL f1 A1) (cellsL f2 A2) z) vals nv))->Q (.ref r) H'):=spx2 (f:=λ (h:Addr) (s:Addr)=>[.ref h,.ref s]) (λ _ _ _ _ h=>by cases h;exact ⟨rfl,rfl⟩) h s
theorem l_spHDo (t:Adr){vs:List V}{H:Hp}{Q:VK}{E:XK}(h:spHDo t vs H Q E):vs.length=2:=spl2 h λ _ _=>rfl
theorem ok_Hall_do (T:Tx K mg t):FnOk P w K mg base CX0 9 t.a_Hall_do t.d_Hall_do ["self", "statement"] (spHDo t):=by
 have G_Store_all_values:=%[ok_Store_all_values|36]
 have G_Hall_changed_since:=%[ok_Hall_changed_since|36]
 have MD_run:=MDR (P:=P) (w:=w) (base:=base) T
 refine T.F_Hall_do.ok c_Hall_do (λ vs H Q E h=>l_spHDo _ h) (λ cdv A' outer s0 H vs Q E hr h=>?_)
 ·obtain ⟨h,s,rfl,B,st,l,D,Pp,vals,nv,ps,i,u,v,dx,z,f1,A1,f2,A2,hb,eB,hl,hP,hp100,hv4,hvw,hi,hs,w1,w2,hpe,k⟩:=h
  have c1:=T.cl_Hall
  have c2:=T.na_Hall_store
  have c3:=T.na_Hall_past
  have c4:=T.cl_Store
  have f1':=hallF_store st D Pp
  have f2':=hallF_past st D Pp
  have f3':=hallF_no st D Pp (m := "changed_since") nofun
  have m1:=storeF_no l (m := "all_values") nofun
  obtain ⟨dxh,hh⟩:=hb.ob
  obtain ⟨dxs,hst⟩:=hb.so
  have hh0:=eB.at hh
  have hst0:=eB.at hst
  refine ⟨_,%[%[2,c_Hall_do,%[%[%[0|0],rfl|14],T.cl_Store,T.mt_Store_all_values,G_Store_all_values,(hr.mono ⋯),T.b_Store_all_values,.nil,pass0,∅|23]|4],%[%[(@pe_nMethD1 _ _ _ _ _ _ _ _ _ _ _ _ _ _ _ _ %[1|0] MD_run (hr.mono ⋯) pass0 %[%[%[0|0],rfl|14]|1] ∅ ∅ ∅),∅|13],%[%[%[PySem.F.plainAttrs_list,PySem.F.slot_list_append,PySem.F.type_list_append,mt_append,%[%[0|0],rfl|14],%[%[2|0]|1],∅,∅,∅,∅,∅|30],∅|13],%[%[%[%[0|0],T.cl_Hall,T.mt_Hall_changed_since,G_Hall_changed_since,(hr.mono ⋯),T.b_Hall_changed_since,.nil,pass0,%[%[2|0]|1],∅,∅,∅|21]|12]|10]|9]|9]|9],?_⟩
  rw [show start ["self", "statement", "before"] [.ref h,.ref s]=[some (.ref h),some (.ref s),none] from rfl]
  clear G_Store_all_values G_Hall_changed_since MD_run
  exists k
  exists hb
  exists hvw
  exists hh
  exists hst
  exists hs
  exists w1
  exists w2
  exists hpe
  ac_rfl
  rw [c_spAllV]
  refine ⟨l,vals,((hb ()).at eB hl hP).so,hv4,λ b H1 hb1 e1 h1=>?_⟩
  have eB1:=eB.trans e1
  have hh1:=eB1.at (hh ())
  have hst1:=eB1.at (hst ())
  have hs1:=eB1.at (hs ())
  have hl1:=e1.at hl
  have hP1:=e1.at hP
  have nbl:b ≠ l:=λ e=>by rw [e,hl] at hb1;cases hb1
  have nbP:b ≠ Pp:=λ e=>by rw [e,hP] at hb1;cases hb1
  clear hh0 hst0 hl hP
  ac_rfl
  refine ⟨s,i,dx,_,rfl,hi,hs1,fld_run hi,?_⟩
  ac_rfl
  rw [c_spRun]
  refine ⟨u,v,dx,l,z,vals,f1,A1,f2,A2,hs1,((hb ()).at eB1 hl1 hP1).so,hv4,(w1 ()).run eB1 (hb ()).nl,(w2 ()).run eB1 (hb ()).nl,hpe (),λ H2 q1 q2 h2=>?_⟩
  have eB2:=q1 B eB1 (hb ()).nl
  have hh2:=eB2.at (hh ())
  have hst2:=eB2.at (hst ())
  have hP2:=q2 _ _ (Ne.symm (hb ()).lP) hP1
  have hb2:=q2 _ _ nbl h1
  have rl:=runL_len i vals (cellsL f1 A1) (cellsL f2 A2) z
  generalize hv2:runL i vals (cellsL f1 A1) (cellsL f2 A2) z=vals2 at *
  exists hv2
  exists q1
  clear q2 hh1 hst1 hs1 hl1 hP1 h1
  have hp9:ps.length < sizeLine:=lt5000 %[0|8]
  ac_rfl
  have g3:upd H2 Pp (.lst (ps++[.ref b])) Pp=some (.lst (ps++[.ref b])):=upd_same
  have g4:upd H2 Pp (.lst (ps++[.ref b])) l=some (.lst (vals2.map V.int)):=(upd_ne (hb ()).lP).trans h2
  have g5:upd H2 Pp (.lst (ps++[.ref b])) b=some (.lst (vals.map V.int)):=(upd_ne nbP).trans hb2
  have eB3:Ext B (upd H2 Pp (.lst (ps++[.ref b]))):=eB2.put (hb ()).nP
  have eA:∀ H0,Ext H0 H->H0 l=none->H0 Pp=none->Ext H0 (upd H2 Pp (.lst (ps++[.ref b]))):=λ H0 a1 a2 a3=>(q1 () H0 (a1.trans e1) a2).put a3
  have fr:∀ y,upd H2 Pp (.lst (ps++[.ref b])) y=none->y ≠ l/\y ≠ Pp:=λ y hy=>⟨(λ e=>by rw [e,g4] at hy;cases hy),(λ e=>by rw [e,g3] at hy;cases hy)⟩
  generalize upd H2 Pp (.lst (ps++[.ref b]))=H3 at *
  have hh3:=eB3.at (hh ())
  have nb:∀ y,H3 y=none->H y=none:=λ y hy=>fresh_of eA hy (fr y hy).1 (fr y hy).2
  exists nb
  exists eA
  exists g3
  exists g4
  clear h2 hh2 hst2 hP2 hb2 fr q1 eB2 eB1 eB
  ac_rfl
  rw [c_spHSince]
  refine ⟨st,l,D,Pp,vals2,vals,nv,_,(hb ()).at eB3 (g4 ()) (g3 ()),by omega,g5,rl.symm,by rw [rl];exact (hvw ()).ext eB3,(hb ()).nd,(hb ()).n100,λ r H4 hr4 e4 h4=>?_⟩
  have k2:=k () r b H4 (eB3.trans e4) hb1 (nb () r hr4) (λ e=>by rw [e,g5] at hr4;cases hr4) (λ H0 a1 a2 a3=>(eA () H0 a1 a2 a3).trans e4) (e4.at (g4 ())) (e4.at (g3 ())) (e4.at g5) h4
  clear k
  ac_rfl
def BackQ (t:Adr) (B H:Hp) (l Pp:Addr) (vals:List Int) (nv:List NVw) (ps:List V) (Q:VK):Prop:=∃ (ps':List V) (q:Addr) (ws:List Int),ps=ps'++[.ref q]/\B q=some (.lst (ws.map V.int))/\ws.length=vals.length/\∀ (r:Addr) (H':Hp),Ext B H'->H r=none->(∀ H0,Ext H0 H->H0 l=none->H0 Pp=none->Ext H0 H')->H' l=some (.lst (ws.map V.int))->H' Pp=some (.lst ps')->H' r=some (.lst (chgN ws vals nv))->Q (.ref r) H'
abbrev B_spHBack (t:Adr) (h:Addr) (H:Hp) (Q:VK) (E:XK):Prop:=∃ (B:Hp) (st l D Pp:Addr) (vals:List Int) (nv:List NVw) (ps:List V),HallB t B h st l D Pp nv/\Ext B H/\H l=some (.lst (vals.map V.int))/\H Pp=some (.lst ps)/\ps.length<=100/\1<=vals.length/\vals.length<=4096/\VwsAt t.a_View B vals.length nv/\((ps=[]/\∀ H',Ext H H'->E (.ref t.a_NoDeed) none H')\/BackQ t B H l Pp vals nv ps Q)
def spHBack (t:Adr):Sp:=λ vs H Q E=>∃ (h:Addr),vs=[.ref h]/\(B_spHBack t h H Q E)
theorem c_spHBack (t:Adr) (h:Addr) (H:Hp) (Q:VK) (E:XK):spHBack t [.ref h] H Q E=(B_spHBack t h H Q E):=spx1 (f:=λ (h:Addr)=>[.ref h]) (λ _ _ h=>by cases h;exact rfl) h
theorem l_spHBack (t:Adr){vs:List V}{H:Hp}{Q:VK}{E:XK}(h:spHBack t vs H Q E):vs.length=1:=spl1 h λ _=>rfl
theorem okB_Hall_back (T:Tx K mg t):FnOk P w K mg base (CX1 P  w) 10 t.a_Hall_back t.d_Hall_back ["self"] (spHBack t):=by
 have G_Store_all_values:=%[ok_Store_all_values|36]
 have G_Store_put:=%[ok_Store_put|36]
 have G_whole:=%[ok_whole|36]
 have G_Hall_changed_since:=%[ok_Hall_changed_since|36]
 refine (Fun.x T.F_Hall_back).ok c_Hall_back (λ vs H Q E h=>l_spHBack _ h) (λ cdv A' outer s0 H vs Q E hr h=>?_)
 ·obtain ⟨h,rfl,B,st,l,D,Pp,vals,nv,ps,hb,eB,hl,hP,hp100,hv1,hv4,hvw,hc⟩:=h
  have c1:=T.cl_Hall
  have c2:=T.na_Hall_store
  have c3:=T.na_Hall_past
  have c4:=T.cl_Store
  have f1':=hallF_store st D Pp
  have f2':=hallF_past st D Pp
  have f3':=hallF_no st D Pp (m := "changed_since") nofun
  have m1:=storeF_no l (m := "all_values") nofun
  have m2:=storeF_no l (m := "put") nofun
  obtain ⟨dxh,hh⟩:=hb.ob
  obtain ⟨dxs,hst⟩:=hb.so
  have hh0:=eB.at hh
  have hst0:=eB.at hst
  refine ⟨_,%[%[%[(op_qEq hr.units),%[len,call_qLen,%[%[%[0|0],rfl|14]|1]|6],%[0|2],(nomark _)|17],%[(@ps_raise _ _ _ _ _ _ _ _ _ _ rfl ∅ T.m_NoDeed ⟨T.o_NoDeed⟩ (λ σ=>raises_def) %[(@pe_str _ _ _ _)|1] ∅ ∅ ⋯)|10],(@pss_nil _)|16],%[%[1,c_Hall_back,%[%[%[0|0],rfl|14],T.cl_Store,T.mt_Store_all_values,G_Store_all_values,(hr.mono ⋯),T.b_Store_all_values,.nil,pass0,∅|23]|4],%[%[%[%[%[0|0],rfl|14],T.cl_Store,T.mt_Store_put,G_Store_put,(hr.mono ⋯),T.b_Store_put,.nil,pass0,%[(@pe_call _ _ _ _ _ _ _ _ _ _ _ _ _ _ _ _ G_whole (hr.mono ⋯) ∅ T.m_whole T.F_whole.kp T.b_whole_1 (.cons (show RelV V.non Value.none from rfl) .nil) pass0 %[%[%[%[len,call_qLen,%[%[1|0]|1]|6]|1]|25]|1] ⋯ ∅ ∅),%[(@pe_bm0 _ _ _ _ _ _ _ _ _ PySem.F.plainAttrs_list PySem.F.slot_list_pop PySem.F.type_list_pop mt_nPop %[%[0|0],rfl|14] ∅ ∅)|1]|1],∅,∅,∅|21],∅|13],%[%[%[%[0|0],T.cl_Hall,T.mt_Hall_changed_since,G_Hall_changed_since,(hr.mono ⋯),T.b_Hall_changed_since,.nil,pass0,%[%[1|0]|1],∅,∅,∅|21]|12]|10]|9]|9]|9],?_⟩
  rw [show start ["self", "before"] [.ref h]=[some (.ref h),none] from rfl]
  clear G_Store_all_values G_Store_put G_whole G_Hall_changed_since
  exists hb
  exists hvw
  exists hh
  exists hst
  rcases hc with ⟨rfl,kE⟩|⟨ps',q,ws,rfl,hq,hwl,k⟩
  ·have kE':=kE H (Ext.refl _)
   exists kE
   ac_rfl
  ·exists k
   have hz:¬ (((ps'++[V.ref q]).length:Int)=0):=by rw [List.length_append];show ¬ (((ps'.length+1:Nat):Int)=0);omega
   ac_rfl
   rw [c_spAllV]
   refine ⟨l,vals,((hb ()).at eB hl hP).so,hv4,λ b H1 hb1 e1 h1=>?_⟩
   have nbl:b ≠ l:=λ e=>by rw [e,hl] at hb1;cases hb1
   have nbP:b ≠ Pp:=λ e=>by rw [e,hP] at hb1;cases hb1
   have eB1:=eB.trans e1
   have hl1:=e1.at hl
   have hP1:=e1.at hP
   have hh1:=eB1.at (hh ())
   have hst1:=eB1.at (hst ())
   clear hh0 hst0 hl hP hz
   ac_rfl
   intro n1 H2 _ e2 hn1
   have e12:=e1.trans e2
   have eB2:=eB.trans e12
   have hl2:=e2.at hl1
   have hP2:=e2.at hP1
   have h2:=e2.at h1
   clear hh1 hst1 hl1 hP1 h1 eB1 e1
   ac_rfl
   rw [c_spWh1]
   refine ⟨(vals.length:Int),hn1,by omega,by omega,λ x H3 e3 vx=>?_⟩
   have e13:=e12.trans e3
   have eB3:=eB.trans e13
   have hl3:=e3.at hl2
   have hP3:=e3.at hP2
   have h3:=e3.at h2
   have hh3:=eB3.at (hh ())
   have hst3:=eB3.at (hst ())
   have hq3:=eB3.at hq
   clear hl2 hP2 h2 hn1 e12 eB2 e2 e3
   ac_rfl
   refine use_pop hP3 ?_
   have vx4:ViewAt t.a_View (upd H3 Pp (.lst ps')) x _ _ _:=vx.updP hP3 hq3
   have g1:upd H3 Pp (.lst ps') Pp=some (.lst ps'):=upd_same
   have g2:upd H3 Pp (.lst ps') l=some (.lst (vals.map V.int)):=(upd_ne (hb ()).lP).trans hl3
   have g3:upd H3 Pp (.lst ps') b=some (.lst (vals.map V.int)):=(upd_ne nbP).trans h3
   have eB4:Ext B (upd H3 Pp (.lst ps')):=eB3.put (hb ()).nP
   have eA:∀ H0,Ext H0 H->H0 l=none->H0 Pp=none->Ext H0 (upd H3 Pp (.lst ps')):=λ H0 a1 _ a3=>(a1.trans e13).put a3
   generalize upd H3 Pp (.lst ps')=H4 at *
   have hq4:=eB4.at hq
   have hh4:=eB4.at (hh ())
   have hst4:=eB4.at (hst ())
   exists vx4
   exists hq
   exists eA
   clear vx hl3 hP3 h3 hh3 hst3 hq3 eB3 e13
   have nql:q ≠ l:=λ e=>by have:=hq ();rw [e,(hb ()).nl] at this;cases this
   have wc:=whole_cells vals.length hv1
   exists wc
   have wax:Axes ([((vals.length:Int),(1:Int))].map keptA):=Axes.kept ⟨by simp,λ a ha=>by rw [List.mem_singleton.mp ha];show (1:Int)<=vals.length/\(vals.length:Int)<=1000000000;omega⟩
   have wpr:prodL (([((vals.length:Int),(1:Int))].map keptA).map λ a=>a.1)=(vals.length:Int):=by
    rw [kept_sizes];show (vals.length:Int) * 1=_;omega
   exists wpr
   ac_rfl
   rw [c_spPut]
   refine ⟨l,vals,_,0,_,ws,((hb ()).at eB4 g2 g1).so,vx4 (),wax,rfl,hv4,by rw [wpr ()];omega,?_,hq4,nql,by rw [wpr (),hwl],λ H5 q1 q2 h5=>?_⟩
   ·rw [wc ()]
    intro c hc
    obtain ⟨j,hj,rfl⟩:=List.mem_map.mp hc
    have:=List.mem_range.mp hj
    omega
   rw [wc (),put_all hwl] at h5
   have eB5:=q1 B eB4 (hb ()).nl
   have g15:=q2 _ _ (Ne.symm (hb ()).lP) g1
   have g35:=q2 _ _ nbl g3
   have eA5:∀ H0,Ext H0 H->H0 l=none->H0 Pp=none->Ext H0 H5:=λ H0 a1 a2 a3=>q1 H0 (eA () H0 a1 a2 a3) a2
   have hh5:=eB5.at (hh ())
   have nb:∀ y,H5 y=none->H y=none:=λ y hy=>fresh_of eA5 hy (λ e=>by rw [e,h5] at hy;cases hy) (λ e=>by rw [e,g15] at hy;cases hy)
   exists nb
   exists eA5
   exists g15
   exists h5
   clear q1 q2 vx4 hh4 hst4 hq4 g1 g2 g3 eA wax
   ac_rfl
   rw [c_spHSince]
   refine ⟨st,l,D,Pp,ws,vals,nv,_,(hb ()).at eB5 (h5 ()) (g15 ()),by omega,g35,hwl.symm,by rw [hwl];exact (hvw ()).ext eB5,(hb ()).nd,(hb ()).n100,λ r H6 hr6 e6 h6=>?_⟩
   have k2:=k () r H6 (eB5.trans e6) (nb () r hr6) (λ H0 a1 a2 a3=>(eA5 () H0 a1 a2 a3).trans e6) (e6.at (h5 ())) (e6.at (g15 ())) h6
   clear k
   ac_rfl
theorem cellsL_in {first:Int}{axs:List (Int × Int)}{M:Int}(h:∀ a∈axs,1<=a.1/\a.1<=1000000000) (hM:M∈cellsL first axs):first+leastL axs<=M/\M<=first+greatL axs:=by
 obtain ⟨xs,hx,e⟩:=(cellsL_mem _ _ _).mp hM
 have b:=dot_between axs xs hx
 omega
theorem min_if (x:Int):(if x < 0 then x else 0)=min 0 x:=by split<;>omega
theorem max_if (x:Int):(if 0 < x then x else 0)=max 0 x:=by split<;>omega
def PtAt (H:Hp) (q:Addr) (n f:Int) (A:List (Int × Int)):Prop:=∃ D,H q=some (.tup [.int n,.int f,.ref D])/\TupsAt H D (axL A)
theorem PtAt.ext {H H':Hp}{q:Addr}{n f:Int}{A:List (Int × Int)}(h:PtAt H q n f A) (e:Ext H H'):PtAt H' q n f A:=by
 obtain ⟨D,h1,h2⟩:=h
 exact ⟨D,e.at h1,h2.ext e⟩
structure LkI (room:Int) (A:List (Int × Int)):Prop where
 sz:∀ a∈A,(1:Int)<=a.1/\a.1<=4/\keptA a=a
 sp:greatL A - leastL A < room
 lo:leastL A<=0
 hi:0<=greatL A
structure PtOk (n f:Int) (A:List (Int × Int)):Prop where
 len:A.length<=3
 sz:∀ a∈A,(1:Int)<=a.1/\a.1<=4/\keptA a=a
 lo:0<=f+leastL A
 hi:f+greatL A < n
theorem PtOk.kp {n f:Int}{A:List (Int × Int)}(h:PtOk n f A):A.map keptA=A:=by
 have:∀ B:List (Int × Int),(∀ a∈B,keptA a=a)->B.map keptA=B:=by
  intro B
  induction B with
  | nil=>intro _;rfl
  | cons b r ih=>intro hb;rw [List.map_cons,hb b List.mem_cons_self,ih λ a ha=>hb a (List.mem_cons_of_mem _ ha)]
 exact this A λ a ha=>(h.sz a ha).2.2
theorem PtOk.ax {n f:Int}{A:List (Int × Int)}(h:PtOk n f A):Axes A:=⟨by have:=h.len;omega,λ a ha=>by have:=h.sz a ha;omega⟩
theorem PtOk.pr {n f:Int}{A:List (Int × Int)}(h:PtOk n f A):prodL (A.map λ a=>a.1)<=64:=by
 obtain ⟨hl,hs,_,_⟩:=h
 match A,hl,hs with
 | [],_,_=>decide
 | [a],_,hs=>
  have:=hs a (by simp)
  show a.1 * 1<=64
  omega
 | [a,b],_,hs=>
  have h1:=hs a (by simp)
  have h2:=hs b (by simp)
  show a.1 * (b.1 * 1)<=64
  have:a.1 * (b.1 * 1)<=4 * 4:=Int.mul_le_mul h1.2.1 %[0|8] %[0|8] ⋯
  omega
 | [a,b,c],_,hs=>
  have h1:=hs a (by simp)
  have h2:=hs b (by simp)
  have h3:=hs c (by simp)
  show a.1 * (b.1 * (c.1 * 1))<=64
  have e1:b.1 * (c.1 * 1)<=4 * 4:=Int.mul_le_mul h2.2.1 %[0|8] %[0|8] ⋯
  have e0:0<=b.1 * (c.1 * 1):=Int.mul_nonneg %[0|8] %[0|8]
  have:a.1 * (b.1 * (c.1 * 1))<=4 * 16:=Int.mul_le_mul h1.2.1 %[0|8] e0 ⋯
  omega
theorem PtOk.on {n f:Int}{A:List (Int × Int)}(h:PtOk n f A){m:Nat}(hm:n=(m:Int)):OnFloor (cellsL f A) m:=λ c hc=>by
 have:=cellsL_in h.ax.2 hc
 have h1:=h.lo
 have h2:=h.hi
 omega
theorem LkI.snoc {room:Int}{A:List (Int × Int)}{m p b:Int}(h:LkI room A) (m1:1<=m) (m4:m<=4) (p1:-4<=p) (p4:p<=4) (hb:b=if 1 < m then 1 else 0) (hc:greatL A - leastL A+(if p < 0 then -p else p) * (m - 1) < room) :
  LkI room (A++[(m,p * b)])/\leastL (A++[(m,p * b)])=leastL A+min 0 (p * (m - 1))/\greatL (A++[(m,p * b)])=greatL A+max 0 (p * (m - 1)):=by
 obtain ⟨hs,hsp,hlo,hhi⟩:=h
 have e1:=leastL_snoc A (m,p * b)
 have e2:=greatL_snoc A (m,p * b)
 have hk:keptA (m,p * b)=(m,p * b):=by
  unfold keptA
  show (m,if m > 1 then p * b else 0)=(m,p * b)
  by_cases h1:m > 1
  ·rw [if_pos h1]
  ·rw [if_neg h1,hb,if_neg h1,Int.mul_zero]
 have hmul:p * b * (m - 1)=p * (m - 1):=by
  by_cases h1:1 < m
  ·rw [hb,if_pos h1,Int.mul_one]
  ·rw [hb,if_neg h1,Int.mul_zero,Int.zero_mul,show m - 1=0 by omega,Int.mul_zero]
 have e1':leastL (A++[(m,p * b)])=leastL A+min 0 (p * (m - 1)):=by rw [e1];show _+min 0 (p * b * (m - 1))=_;rw [hmul]
 have e2':greatL (A++[(m,p * b)])=greatL A+max 0 (p * (m - 1)):=by rw [e2];show _+max 0 (p * b * (m - 1))=_;rw [hmul]
 refine ⟨⟨λ a ha=>?_,?_,?_,?_⟩,e1',e2'⟩
 ·rcases List.mem_append.mp ha with ha|ha
  ·exact hs a ha
  ·rw [List.mem_singleton.mp ha];exact ⟨m1,m4,hk⟩
 ·rw [e1',e2']
  obtain rfl|rfl|rfl|rfl:m=1\/m=2\/m=3\/m=4:=by omega
  all_goals (split at hc<;>omega)
 ·rw [e1'];omega
 ·rw [e2'];omega
abbrev B_spLike  (c:Int) (room:Int) (l:Addr) (H:Hp) (Q:VK) (E:XK):Prop:=∃ ms:List Int,H l=some (.lst (ms.map V.int))/\ms.length<=3/\(∀ m∈ms,(1:Int)<=m/\m<=4)/\0<=c/\1<=room/\room<=60/\∀ (q D:Addr) (f:Int) (A:List (Int × Int)) (H':Hp),Ext H H'->H q=none->H D=none->H' q=some (.tup [.int room,.int f,.ref D])->TupsAt H' D (axL A)->(A.map λ a=>a.1)=ms->PtOk room f A->Q (.ref q) H'
def spLike  : Sp:=λ vs H Q E=>∃ (c:Int) (room:Int) (l:Addr),vs=[.int c,.int room,.ref l]/\(B_spLike  c room l H Q E)
theorem c_spLike  (c:Int) (room:Int) (l:Addr) (H:Hp) (Q:VK) (E:XK):spLike  [.int c,.int room,.ref l] H Q E=(B_spLike  c room l H Q E):=spx3 (f:=λ (c:Int) (room:Int) (l:Addr)=>[.int c,.int room,.ref l]) (λ _ _ _ _ _ _ h=>by cases h;exact ⟨rfl,rfl,rfl⟩) c room l
theorem l_spLike  {vs:List V}{H:Hp}{Q:VK}{E:XK}(h:spLike  vs H Q E):vs.length=3:=spl3 h λ _ _ _=>rfl
theorem ok__law_like (T:Tx K mg t):FnOk P w K mg base CX0 1 t.a__law_like t.d__law_like ["_law_cell", "_law_room", "_law_sizes"] spLike:=by
 refine T.F__law_like.ok c__law_like (λ vs H Q E h=>l_spLike h) (λ cdv A' outer s H vs Q E hr h=>?_)
 ·obtain ⟨c,room,l,rfl,ms,hl,hm3,hms,hc0,r1,r60,k⟩:=h
  refine ⟨_,%[%[3,c__law_like,%[(@pa_nil _)|25]|4],%[%[4,c__law_like,%[0|2]|4],%[%[5,c__law_like,%[0|2]|4],%[%[PassesOwn.never,rfl,%[%[2|0]|22],%[6,c__law_like|5],%[%[7,c__law_like,%[on_sub,%[on_mod,%[0|0],%[0|2]|11],%[0|2]|11]|4],%[%[0,c__law_like,%[on_fdiv,%[0|0],%[0|2]|11]|4],%[%[%[on_ge,%[on_add,%[on_sub,%[5|0],%[4|0]|11],%[on_mul,%[abs,call_qAbs,%[%[7|0]|1]|6],%[on_sub,%[6|0],%[0|2]|11]|11]|11],%[1|0],(nomark _)|17],%[%[7,c__law_like,%[0|2]|4]|10],(@pss_nil _)|16],%[%[4,c__law_like,%[on_add,%[4|0],%[min,(call_qMin rfl),%[%[0|2],%[%[on_mul,%[7|0],%[on_sub,%[6|0],%[0|2]|11]|11]|1]|1]|6]|11]|4],%[%[5,c__law_like,%[on_add,%[5|0],%[max,(call_qMax rfl),%[%[0|2],%[%[on_mul,%[7|0],%[on_sub,%[6|0],%[0|2]|11]|11]|1]|1]|6]|11]|4],%[%[%[PySem.F.plainAttrs_list,PySem.F.slot_list_append,PySem.F.type_list_append,mt_append,%[3|0],%[%[%[%[6|0],%[%[on_mul,%[7|0],%[call_qInt,∅,T.z_int,nofun,%[%[on_gt,%[6|0],%[0|2],(nomark _)|34]|1],⋯,⋯,∅,∅|35]|11]|1]|1]|29]|1],∅,∅,∅,∅,∅|30],∅|13]|10]|9]|9]|9]|9]|9],(by intros;rfl)|26],%[%[%[%[%[1|0],%[%[on_sub,%[on_mod,%[0|0],%[on_add,%[on_sub,%[1|0],%[5|0]|11],%[4|0]|11]|11],%[4|0]|11],%[%[3|0]|1]|1]|1]|29]|12]|10]|9]|9]|9]|9],?_⟩
  rw [show start ["_law_cell", "_law_room", "_law_sizes", "_law_axes", "_law_low", "_law_high", "_law_size", "_law_pace"] [.int c,.int room,.ref l]=[some (.int c),some (.int room),some (.ref l),none,none,none,none,none] from rfl]
  exists k
  ac_rfl
  intro D H1 hD e1 h1
  ac_rfl
  refine for_lst (xs:=ms.map V.int) (λ i σ H'=>∃ (c:Int) (A:List (Int × Int)) (ys:List V) (v6 v7:Option V),σ=[some (.int c),some (.int room),some (.ref l),some (.ref D),some (.int (leastL A)),some (.int (greatL A)),v6,v7]/\0<=c/\Ext H H'/\H' D=some (.lst ys)/\Al (TupV H') (axL A) ys/\(A.map λ a=>a.1)=ms.take i/\LkI room A) ⟨c,[],[],_,_,rfl,hc0,e1,h1,Al.nil,rfl,⟨(λ _ h=>by cases h),(by show (0:Int) - 0 < room;omega),Int.le_refl _,Int.le_refl _⟩⟩ (λ i σ H' _ ⟨_,_,_,_,_,_,_,e,_⟩=>e.at hl) ?_ ?_
  ·rintro i x _ H2 hi ⟨c,A,ys,v6,v7,rfl,hc0,e2,h2,al,hA,lk⟩
   rw [List.getElem?_map] at hi
   obtain ⟨m,hm,rfl⟩:=Option.map_eq_some_iff.mp hi
   obtain ⟨m1,m4⟩:=hms m (List.mem_of_getElem? hm)
   have p1:-4<=c % 9 - 4:=by omega
   have p4:c % 9 - 4<=4:=by omega
   clear hi h1
   have hyl:ys.length < sizeLine:=lt5000 (by
    have:=congrArg List.length hA
    rw [List.length_map,List.length_take] at this
    rw [al.1];unfold axL;rw [List.length_map];omega)
   exists hA
   exists al
   exists lk
   exists hm
   simp! only [↓m_kBody]
   simp only [min_if,max_if]
   refine ⟨.inl ⟨by split<;>omega,by split<;>omega⟩,?_⟩
   have fin:∀ (p:Int) (t1:Addr) (H3:Hp),Ext H2 H3->H3 t1=some (.tup [.int m,.int (p * if 1 < m then 1 else 0)])->-4<=p->p<=4->greatL A - leastL A+(if p < 0 then -p else p) * (m - 1) < room →
     ∃ (c':Int) (A':List (Int × Int)) (ys':List V) (v6 v7:Option V),[some (V.int (c / 9)),some (.int room),some (.ref l),some (.ref D),some (.int (leastL A+min 0 (p * (m - 1)))),some (.int (greatL A+max 0 (p * (m - 1)))),some (.int m),some (.int p)]=[some (.int c'),some (.int room),some (.ref l),some (.ref D),some (.int (leastL A')),some (.int (greatL A')),v6,v7]/\0<=c'/\Ext H (upd H3 D (.lst (ys++[.ref t1])))/\some (HO.lst (ys++[V.ref t1]))=some (HO.lst ys')/\Al (TupV (upd H3 D (.lst (ys++[.ref t1])))) (axL A') ys'/\(A'.map λ a=>a.1)=ms.take (i+1)/\LkI room A':=λ p t1 H3 e3 h3 p1 p4 hc=>by
    obtain ⟨l1,l2,l3⟩:=(lk ()).snoc m1 m4 p1 p4 rfl hc
    refine ⟨c / 9,_,_,_,_,by rw [l2,l3],by omega,(e2.trans e3).put hD,rfl,?_,?_,l1⟩
    ·have hD3:=e3.at h2
     have al3:Al (TupV H3) (axL A) ys:=(al ()).imp λ z y q=>q.ext e3
     unfold axL
     rw [List.map_append]
     exact (al3.snoc (show TupV H3 [m,p * if 1 < m then 1 else 0] (.ref t1) from ⟨t1,rfl,h3⟩)).imp λ z y q=>q.upd hD3
    ·rw [List.map_append,hA (),List.take_add_one,hm ()];rfl
   by_cases hcond:room<=greatL A - leastL A+(if c % 9 - 4 < 0 then -(c % 9 - 4) else c % 9 - 4) * (m - 1)
   ·rw [if_pos hcond]
    intro t1 H3 _ e3 h3
    have h2_3:=e3.at h2
    have f2:=fin 0 t1 H3 e3 h3 ⋯ ⋯ (by have:=(lk ()).sp;simp;omega)
    exists f2
    clear fin h2 k hcond
    ac_rfl
    exact f2 ()
   ·rw [if_neg hcond]
    refine ⟨.inl ⟨by omega,by omega⟩,.inl ⟨by omega,by omega⟩,.inl ⟨by omega,by omega⟩,?_⟩
    intro t1 H3 _ e3 h3
    have h2_3:=e3.at h2
    have f2:=fin _ t1 H3 e3 h3 p1 p4 %[0|8]
    exists f2
    clear fin h2 k hcond
    ac_rfl
    exact f2 ()
  ·rintro _ H2 ⟨c,A,ys,v6,v7,rfl,hc0,e2,h2,al,hA,lk⟩
   rw [List.length_map,List.take_length] at hA
   have hd:0 < room - greatL A+leastL A:=by have:=lk.sp;omega
   have d0:=Int.emod_nonneg c (show room - greatL A+leastL A ≠ 0 by omega)
   have d1:=Int.emod_lt_of_pos c hd
   have hAl:A.length<=3:=by have:=congrArg List.length hA;rw [List.length_map] at this;omega
   exists al
   exists hA
   exists lk
   clear h1
   ac_rfl
   intro q H3 hq e3 h3
   exact k () q D _ A H3 (e2.trans e3) (e2.free hq) hD h3 ⟨ys,e3.at h2,(al ()).imp λ z y r=>r.ext e3⟩ (hA ()) ⟨hAl,(lk ()).sz,by have:=(lk ()).hi;omega,by omega⟩
def CutS (S:List Addr) (H:Hp):Hp:=λ b=>if b∈S then none else H b
def LstS (S:List Addr) (H:Hp):Prop:=∀ s∈S,∃ xs,H s=some (.lst xs)
theorem LstS.ext {S:List Addr}{H H':Hp}(h:LstS S H) (e:Ext H H'):LstS S H':=λ s hs=>by
 obtain ⟨xs,hx⟩:=h s hs
 exact ⟨xs,e.at hx⟩
theorem cut_sub (S:List Addr) (H:Hp):Ext (CutS S H) H:=Same.ext λ b o h=>by
 unfold CutS at h
 by_cases hb:b∈S
 ·rw [if_pos hb] at h;cases h
 ·rwa [if_neg hb] at h
theorem cut_ext {S:List Addr}{H H':Hp}(e:Ext H H'):Ext (CutS S H) (CutS S H'):=Same.ext λ b o h=>by
 unfold CutS at h ⊢
 by_cases hb:b∈S
 ·rw [if_pos hb] at h;cases h
 ·rw [if_neg hb] at h ⊢;exact e.at h
theorem cut_none {S:List Addr}{H:Hp}{b:Addr}(h:b∈S):CutS S H b=none:=if_pos h
theorem cut_new {S:List Addr}{H H':Hp}{b:Addr}{o:HO}(hS:LstS S H) (hn:H b=none) (h:H' b=some o):CutS S H' b=some o:=by
 unfold CutS
 rw [if_neg]
 ·exact h
 ·intro hb
  obtain ⟨xs,hx⟩:=hS b hb
  rw [hn] at hx
  cases hx
theorem cut_obj {S:List Addr}{H:Hp}{b:Addr}{o:HO}(hS:LstS S H) (h:H b=some o) (hn:∀ xs,o ≠ .lst xs):CutS S H b=some o:=by
 unfold CutS
 rw [if_neg]
 ·exact h
 ·intro hb
  obtain ⟨xs,hx⟩:=hS b hb
  rw [h] at hx
  cases hx
  exact hn xs rfl
theorem cut_tups {S:List Addr}{H H':Hp}{D:Addr}{zs:List (List Int)}(hS:LstS S H) (e:Ext H H') (hn:H D=none) (h:TupsAt H' D zs):TupsAt (CutS S H') D zs:=by
 obtain ⟨ys,h1,h2⟩:=h
 exact ⟨ys,cut_new hS hn h1,h2.imp λ z y ⟨q,a1,a2⟩=>⟨q,a1,cut_obj (hS.ext e) a2 (λ _ h=>by cases h)⟩⟩
def SzQ (ms:List Int):Prop:=∀ m∈ms,(1:Int)<=m/\m<=4
theorem SzQ.snoc {ms:List Int}{j:Int}(h:SzQ ms) (h1:1<=j) (h2:j<=4):SzQ (ms++[j]):=λ m hm=>by
 rcases List.mem_append.mp hm with hm|hm
 ·exact h m hm
 ·rw [List.mem_singleton.mp hm];exact ⟨h1,h2⟩
def spParts  : Sp:=λ vs H Q E=>∃ (c:Int) (room:Int),vs=[.int c,.int room]/\(0<=c/\1<=room/\room<=60/\∀ (q D:Addr) (f:Int) (A:List (Int × Int)) (H':Hp),Ext H H'->H q=none->H D=none->H' q=some (.tup [.int room,.int f,.ref D])->TupsAt H' D (axL A)->PtOk room f A->Q (.ref q) H')
theorem c_spParts  (c:Int) (room:Int) (H:Hp) (Q:VK) (E:XK):spParts  [.int c,.int room] H Q E=(0<=c/\1<=room/\room<=60/\∀ (q D:Addr) (f:Int) (A:List (Int × Int)) (H':Hp),Ext H H'->H q=none->H D=none->H' q=some (.tup [.int room,.int f,.ref D])->TupsAt H' D (axL A)->PtOk room f A->Q (.ref q) H'):=spx2 (f:=λ (c:Int) (room:Int)=>[.int c,.int room]) (λ _ _ _ _ h=>by cases h;exact ⟨rfl,rfl⟩) c room
theorem l_spParts  {vs:List V}{H:Hp}{Q:VK}{E:XK}(h:spParts  vs H Q E):vs.length=2:=spl2 h λ _ _=>rfl
theorem ok__law_parts (T:Tx K mg t):FnOk P w K mg base CX0 2 t.a__law_parts t.d__law_parts ["_law_cell", "_law_room"] spParts:=by
 have G__law_like:=%[ok__law_like|36]
 refine T.F__law_parts.ok c__law_parts (λ vs H Q E h=>l_spParts h) (λ cdv A' outer s H vs Q E hr h=>?_)
 ·obtain ⟨c,room,rfl,hc0,r1,r60,k⟩:=h
  refine ⟨_,%[%[2,c__law_parts,%[(@pa_nil _)|25]|4],%[%[PassesOwn.never,rfl,%[∅,T.z_range,%[%[on_mod,%[0|0],%[0|2]|11]|1],∅|33],%[3,c__law_parts|5],%[%[%[PySem.F.plainAttrs_list,PySem.F.slot_list_append,PySem.F.type_list_append,mt_append,%[2|0],%[%[on_add,%[0|2],%[on_mod,%[on_fdiv,%[0|0],%[0|2]|11],%[0|2]|11]|11]|1],∅,∅,∅,∅,∅|30],∅|13],%[%[0,c__law_parts,%[on_fdiv,%[0|0],%[0|2]|11]|4]|10]|9],(by intros;rfl)|26],%[%[%[_law_like,%[%[on_fdiv,%[0|0],%[0|2]|11],%[%[1|0],%[%[2|0]|1]|1]|1]|3]|12]|10]|9]|9],?_⟩
  rw [show start ["_law_cell", "_law_room", "_law_sizes", "_law_k"] [.int c,.int room]=[some (.int c),some (.int room),none,none] from rfl]
  clear G__law_like
  exists k
  ac_rfl
  intro L H1 hL e1 h1
  have hc4:0<=c % 4/\c % 4 < 4:=by omega
  generalize hz:c % 4=z at hc4
  clear hz
  ac_rfl
  refine ⟨by omega,by omega,?_⟩
  refine for_rng (λ i σ H'=>∃ (c:Int) (ms:List Int) (v3:Option V),σ=[some (.int c),some (.int room),some (.ref L),v3]/\0<=c/\Ext H H'/\H' L=some (.lst (ms.map V.int))/\ms.length<=i/\SzQ ms) ⟨c,[],_,rfl,hc0,e1,h1,Nat.le_refl _,(λ _ h=>by cases h)⟩ ?_ ?_
  ·rintro i _ H2 hi ⟨c,ms,v3,rfl,hc0,e2,h2,hml,hms⟩
   have hln:ms.length < sizeLine:=lt5000 %[0|8]
   clear h1 k
   simp! only [↓m_kBody]
   exact ⟨c / 4,ms++[1+c / 4 % 4],_,rfl,by omega,e2.put hL,by rw [List.map_append];rfl,by simp;omega,hms.snoc %[0|8] %[0|8]⟩
  ·rintro _ H2 ⟨c,ms,v3,rfl,hc0,e2,h2,hml,hms⟩
   clear h1
   ac_rfl
   rw [c_spLike]
   refine ⟨ms,h2,by omega,hms,by omega,r1,r60,λ q D f A H3 e3 hq hD h3 t3 _ pk=>?_⟩
   have k2:=k () q D f A H3 (e2.trans e3) (e2.free hq) (e2.free hD) h3 t3 pk
   clear k
   ac_rfl
abbrev B_spLCells  (q:Addr) (H:Hp) (Q:VK) (E:XK):Prop:=∃ (n f:Int) (A:List (Int × Int)),PtAt H q n f A/\PtOk n f A/\∀ (r:Addr) (H':Hp),H r=none->Ext H H'->H' r=some (.lst ((cellsL f A).map V.int))->Q (.ref r) H'
def spLCells  : Sp:=λ vs H Q E=>∃ (q:Addr),vs=[.ref q]/\(B_spLCells  q H Q E)
theorem c_spLCells  (q:Addr) (H:Hp) (Q:VK) (E:XK):spLCells  [.ref q] H Q E=(B_spLCells  q H Q E):=spx1 (f:=λ (q:Addr)=>[.ref q]) (λ _ _ h=>by cases h;exact rfl) q
theorem l_spLCells  {vs:List V}{H:Hp}{Q:VK}{E:XK}(h:spLCells  vs H Q E):vs.length=1:=spl1 h λ _=>rfl
theorem ok__law_cells (T:Tx K mg t):FnOk P w K mg base CX0 1 t.a__law_cells t.d__law_cells ["_law_parts_here"] spLCells:=by
 refine T.F__law_cells.ok c__law_cells (λ vs H Q E h=>l_spLCells h) (λ cdv A' outer s H vs Q E hr h=>?_)
 ·obtain ⟨q0,rfl,n,first,axs,⟨l,hq0,ys,hl,al⟩,pk,k⟩:=h
  refine ⟨_,%[%[1,c__law_cells,%[%[%[ix_q,%[0|0],%[0|2],(λ _ _=>rfl)|15]|1]|25]|4],%[%[PassesOwn.never,rfl,%[%[ix_q,%[0|0],%[0|2],(λ _ _=>rfl)|15]|22],(%[(2),rfl,%[%[2,c__law_cells|5],%[%[3,c__law_cells|5],(@pgs_nilN _),∅|18],∅|18],∅,∅|28].mono λ _ _ _ _ h=>gTup_q h),%[%[4,c__law_cells,%[(@pa_nil _)|25]|4],%[%[PassesOwn.never,rfl,%[%[1|0]|22],%[5,c__law_cells|5],%[%[PassesOwn.never,rfl,%[∅,T.z_range,%[%[2|0]|1],∅|33],%[6,c__law_cells|5],%[%[%[PySem.F.plainAttrs_list,PySem.F.slot_list_append,PySem.F.type_list_append,mt_append,%[4|0],%[%[on_add,%[5|0],%[on_mul,%[6|0],%[3|0]|11]|11]|1],∅,∅,∅,∅,∅|30],∅|13]|10],(by intros;rfl)|26]|10],(by intros;rfl)|26],%[%[1,c__law_cells,%[4|0]|4]|10]|9]|9],(by intros;rfl)|26],%[%[%[1|0]|12]|10]|9]|9],?_⟩
  rw [show start ["_law_parts_here", "_law_found", "_law_size", "_law_pace", "_law_longer", "_law_cell", "_law_number"] [.ref q0]=[some (.ref q0),none,none,none,none,none,none] from rfl]
  exists k
  have hax:=pk.ax
  have hpr:=pk.pr
  ac_rfl
  intro r H1 hr1 e1 h1
  have hl1:=e1.at hl
  have hq1:=e1.at hq0
  have hpos:∀ a∈axs,(1:Int)<=a.1:=λ a ha=>(hax.2 a ha).1
  have hpsz:=pk.sz
  exists hpos
  exists hpsz
  ac_rfl
  refine for_lst (xs:=ys) (λ i σ H'=>∃ (r:Addr) (v2 v3 v4 v5 v6:Option V),σ=[some (.ref q0),some (.ref r),v2,v3,v4,v5,v6]/\Ext H H'/\H r=none/\H' r=some (.lst ((cellsL first (axs.take i)).map V.int))) ⟨r,none,none,none,none,none,rfl,e1,hr1,h1⟩ (λ i σ H' _ ⟨_,_,_,_,_,_,_,e,_,_⟩=>e.at hl) ?_ ?_
  ·rintro i y _ H3 hi ⟨r3,v2,v3,v4,v5,v6,rfl,e3,hr3,h3⟩
   obtain ⟨a,q,ha,rfl,hq⟩:=al_ax al hi
   have hq3:=e3.at hq
   have hm:=hpsz () a (List.mem_of_getElem? ha)
   have hlen:(cellsL first (axs.take i)).length * a.1.toNat<=4096:=by
    have hl4:=cellsL_len first (axs.take i) λ b hb=>hpos () b (List.mem_of_mem_take hb)
    have hp:=prodL_take_le (axs.map λ a=>a.1) (λ n hn=>by obtain ⟨b,hb,rfl⟩:=List.mem_map.mp hn;exact hpos () b hb) (i+1)
    rw [prodL_take _ i a.1 (by rw [List.getElem?_map,ha];rfl),←List.map_take,←hl4] at hp
    have hza:((a.1.toNat:Nat):Int)=a.1:=Int.toNat_of_nonneg %[0|8]
    have:(((cellsL first (axs.take i)).length * a.1.toNat:Nat):Int)<=4096:=by rw [Int.natCast_mul,hza];omega
    omega
   have hsn:cellsL first (axs.take (i+1))=wideL (cellsL first (axs.take i)) a:=by
    rw [List.take_add_one,ha]
    show cellsL first (axs.take i++[a])=_
    rw [cellsL_snoc]
   rw [hsn]
   generalize cellsL first (axs.take i)=cs at hlen h3
   clear hsn hi k h1 hl1 hq1
   simp! only [↓m_kBody]
   intro g H4 hg4 e4 h4
   have h3_4:=e4.at h3
   have hg0:H g=none:=e3.free hg4
   ac_rfl
   refine for_lst (xs:=cs.map V.int) (λ j σ H'=>∃ v5 v6:Option V,σ=[some (.ref q0),some (.ref r3),some (.int a.1),some (.int a.2),some (.ref g),v5,v6]/\Ext H H'/\Ext H3 H'/\H' g=some (.lst ((wideL (cs.take j) a).map V.int))) ⟨_,_,rfl,e3.trans e4,e4,h4⟩ (λ j σ H' _ ⟨_,_,_,_,e,_⟩=>e.at h3) ?_ ?_
   ·rintro j x _ H5 hj ⟨v5',v6',rfl,e5,e35,h5⟩
    rw [List.getElem?_map] at hj
    obtain ⟨c,hc,rfl⟩:=Option.map_eq_some_iff.mp hj
    have hjl:j < cs.length:=(List.getElem?_eq_some_iff.mp hc).1
    have hwl:(wideL (cs.take j) a).length+a.1.toNat<=4096:=by
     rw [wideL_len,List.length_take]
     have:(min j cs.length+1) * a.1.toNat<=cs.length * a.1.toNat:=Nat.mul_le_mul_right _ %[0|8]
     rw [Nat.add_mul,Nat.one_mul] at this
     omega
    rw [wideL_take cs a j c hc]
    generalize wideL (cs.take j) a=ws at h5 hwl
    clear hj h4 h3_4
    simp! only [↓m_kBody]
    refine ⟨by omega,by omega,?_⟩
    refine for_rng (λ m σ H'=>∃ v6:Option V,σ=[some (.ref q0),some (.ref r3),some (.int a.1),some (.int a.2),some (.ref g),some (.int c),v6]/\Ext H H'/\Ext H3 H'/\H' g=some (.lst ((ws++(List.range m).map λ (n:Nat)=>c+(n:Int) * a.2).map V.int))) ⟨_,rfl,e5,e35,by rw [List.range_zero,List.map_nil,List.append_nil];exact h5⟩ ?_ ?_
    ·rintro m _ H6 hm6 ⟨v6'',rfl,e6,e36,h6⟩
     have hcm:CMul (0+(m:Int)) a.2:=.inl ⟨by omega,by omega⟩
     have hll:(ws++(List.range m).map λ (n:Nat)=>c+(n:Int) * a.2).length < sizeLine:=lt5000 (by rw [List.length_append,List.length_map,List.length_range];omega)
     have hsn:(ws++(List.range (m+1)).map λ (n:Nat)=>c+(n:Int) * a.2).map V.int=(ws++(List.range m).map λ (n:Nat)=>c+(n:Int) * a.2).map V.int++[.int (c+(0+(m:Int)) * a.2)]:=by
      rw [List.range_succ,Int.zero_add];simp
     rw [hsn]
     clear hsn h5
     generalize (ws++(List.range m).map λ (n:Nat)=>c+(n:Int) * a.2)=us at *
     simp! only [↓m_kBody]
     exact ⟨_,rfl,e6.put hg0,e36.put hg4⟩
    ·rintro _ H6 ⟨v6'',rfl,e6,e36,h6⟩
     ac_rfl
     exact ⟨_,_,rfl,e6,e36⟩
   ·rintro _ H5 ⟨v5',v6',rfl,e5,e35,h5⟩
    rw [List.length_map,List.take_length] at h5
    ac_rfl
    exact ⟨g,_,_,_,_,_,rfl,e5,hg0,h5⟩
  ·rintro _ H3 ⟨r3,v2,v3,v4,v5,v6,rfl,e3,hr3,h3⟩
   have hyl:ys.length=axs.length:=by rw [al.1];unfold axL;rw [List.length_map]
   rw [hyl,List.take_length] at h3
   ac_rfl
   exact k () r3 H3 hr3 e3 h3
abbrev B_spLView (C:Addr) (q:Addr) (H:Hp) (Q:VK) (E:XK):Prop:=∃ (n f:Int) (A:List (Int × Int)),PtAt H q n f A/\PtOk n f A/\1<=n/\n<=60/\∀ (x:Addr) (H':Hp),H x=none->Ext H H'->(∀ S,LstS S H->ViewAt C (CutS S H') x n f A)->Q (.ref x) H'
def spLView (C:Addr):Sp:=λ vs H Q E=>∃ (q:Addr),vs=[.ref q]/\(B_spLView C q H Q E)
theorem c_spLView (C:Addr) (q:Addr) (H:Hp) (Q:VK) (E:XK):spLView C [.ref q] H Q E=(B_spLView C q H Q E):=spx1 (f:=λ (q:Addr)=>[.ref q]) (λ _ _ h=>by cases h;exact rfl) q
theorem l_spLView (C:Addr){vs:List V}{H:Hp}{Q:VK}{E:XK}(h:spLView C vs H Q E):vs.length=1:=spl1 h λ _=>rfl
theorem ok__law_view (T:Tx K mg t):FnOk P w K mg base CX0 8 t.a__law_view t.d__law_view ["_law_parts_here"] (spLView t.a_View):=by
 have G_View___init__:=%[ok_View___init__|36]
 refine T.F__law_view.ok c__law_view (λ vs H Q E h=>l_spLView _ h) (λ cdv A' outer s H vs Q E hr h=>?_)
 ·obtain ⟨q0,rfl,n,first,axs,⟨l,hq0,ys,hl,al⟩,pk,n1,n60,k⟩:=h
  refine ⟨_,%[%[%[T.mk_View,G_View___init__,(hr.mono ⋯),∅,T.m_View,T.b_View___init__,.nil,pass0,%[%[ix_q,%[0|0],%[0|2],(λ _ _=>rfl)|15],%[%[ix_q,%[0|0],%[0|2],(λ _ _=>rfl)|15],%[%[call_nList,∅,T.z_list,nofun,%[%[ix_q,%[0|0],%[0|2],(λ _ _=>rfl)|15]|1],⋯,⋯,∅,∅|35]|1]|1]|1],⋯,∅,∅|31]|12]|10],?_⟩
  rw [show start ["_law_parts_here"] [.ref q0]=[some (.ref q0)] from rfl]
  clear G_View___init__
  exists k
  have hv:ViewOk n first axs:=by
   obtain ⟨g1,g2⟩:=span_kept axs λ a ha=>(pk.ax.2 a ha).1
   exact ⟨pk.ax,n1,by omega,by rw [g1];exact pk.lo,by rw [g2];exact pk.hi⟩
  have hkp:=pk.kp
  exists hkp
  have hyl:ys.length=axs.length:=by rw [al.1];unfold axL;rw [List.length_map]
  have h3:=pk.len
  have hys:ys.length<=3:=by omega
  clear hyl
  ac_rfl
  intro D H1 hD e1 h1
  ac_rfl
  intro x dx H3 hx hdx hne e3 h3 h3'
  rw [c_spVInit]
  refine ⟨dx,axs,h3,TupsAt.ext ⟨ys,h1,al.imp λ z y q=>q.ext e1⟩ e3,hv,λ H4 D2 e4 hD2 hx4 tt4=>?_⟩
  rw [hkp ()] at tt4
  have e14:=e1.trans (e4 H1 e3 hx)
  have hD20:=(e1.trans e3).free hD2
  have k':=k () x H4 (e1.free hx) e14 λ S hS=>⟨dx,D2,cut_obj (hS.ext e14) hx4 (λ _ h=>by cases h),cut_tups hS e14 hD20 tt4⟩
  clear k
  ac_rfl
theorem prodL_rev:∀ ms:List Int,prodL ms.reverse=prodL ms
 | []=>rfl
 | m::r=>by
  rw [List.reverse_cons,prodL_append,prodL_rev r]
  show prodL r * (m * 1)=m * prodL r
  rw [Int.mul_one,Int.mul_comm]
def wordS:Nat->Str
 | 0 => "stay"
 | 1 => "fill"
 | 2 => "copy"
 | 3 => "swap"
 | _ => "raise"
structure DdAt (H:Hp) (d:Addr) (i:Nat) (q1 q2:Addr) (z n:Int) (f1:Int) (A1:List (Int × Int)) (f2:Int) (A2:List (Int × Int)):Prop where
 tp:H d=some (.tup [.str (wordS i),.ref q1,.ref q2,.int z])
 p1:PtAt H q1 n f1 A1
 p2:PtAt H q2 n f2 A2
theorem DdAt.ext {H H':Hp}{d:Addr}{i:Nat}{q1 q2:Addr}{z n:Int}{f1:Int}{A1:List (Int × Int)}{f2:Int}{A2:List (Int × Int)}(h:DdAt H d i q1 q2 z n f1 A1 f2 A2) (e:Ext H H'):DdAt H' d i q1 q2 z n f1 A1 f2 A2:=⟨e.at h.tp,h.p1.ext e,h.p2.ext e⟩
structure DdOk (i:Nat) (n:Int) (f1:Int) (A1:List (Int × Int)) (f2:Int) (A2:List (Int × Int)):Prop where
 i5:i < 5
 k1:PtOk n f1 A1
 k2:PtOk n f2 A2
 pe:prodL (A2.map λ a=>a.1)=prodL (A1.map λ a=>a.1)
theorem optK_pick {xs:List V}{i:Int}{k:V->Prop}(P:V->Prop) (h0:0<=i) (h1:i < xs.length) (ha:∀ v∈xs,P v) (hk:∀ v,P v->k v):optK (atI xs i) k:=optK_at h0 h1 λ v hv=>hk v (ha v hv)
abbrev B_spDrawn  (c:Int) (room:Int) (H:Hp) (Q:VK) (E:XK):Prop:=∃ S:List Addr,LstS S H/\0<=c/\1<=room/\room<=60/\∀ (d:Addr) (i:Nat) (q1 q2:Addr) (z:Int) (f1:Int) (A1:List (Int × Int)) (f2:Int) (A2:List (Int × Int)) (H':Hp),Ext H H'->DdAt (CutS S H') d i q1 q2 z room f1 A1 f2 A2->DdOk i room f1 A1 f2 A2->Q (.ref d) H'
def spDrawn  : Sp:=λ vs H Q E=>∃ (c:Int) (room:Int),vs=[.int c,.int room]/\(B_spDrawn  c room H Q E)
theorem c_spDrawn  (c:Int) (room:Int) (H:Hp) (Q:VK) (E:XK):spDrawn  [.int c,.int room] H Q E=(B_spDrawn  c room H Q E):=spx2 (f:=λ (c:Int) (room:Int)=>[.int c,.int room]) (λ _ _ _ _ h=>by cases h;exact ⟨rfl,rfl⟩) c room
theorem l_spDrawn  {vs:List V}{H:Hp}{Q:VK}{E:XK}(h:spDrawn  vs H Q E):vs.length=2:=spl2 h λ _ _=>rfl
theorem ok__law_drawn (T:Tx K mg t):FnOk P w K mg base CX0 3 t.a__law_drawn t.d__law_drawn ["_law_cell", "_law_room"] spDrawn:=by
 have G__law_parts:=%[ok__law_parts|36]
 have G__law_like:=%[ok__law_like|36]
 refine T.F__law_drawn.ok c__law_drawn (λ vs H Q E h=>l_spDrawn h) (λ cdv A' outer s H vs Q E hr h=>?_)
 ·obtain ⟨c,room,rfl,S,hS,hc0,r1,r60,k⟩:=h
  refine ⟨_,%[%[2,c__law_drawn,%[ix_q,%[%[(@pe_str _ _ _ _),%[(@pe_str _ _ _ _),%[(@pe_str _ _ _ _),%[(@pe_str _ _ _ _),%[(@pe_str _ _ _ _),%[(@pe_str _ _ _ _)|1]|1]|1]|1]|1]|1]|25],%[on_mod,%[0|0],%[0|2]|11],(λ _ _=>rfl)|15]|4],%[%[3,c__law_drawn,%[_law_parts,%[%[on_mod,%[on_fdiv,%[0|0],%[0|2]|11],%[on_pow,%[0|2],%[0|2]|11]|11],%[%[1|0]|1]|1]|3]|4],%[%[4,c__law_drawn,%[_law_like,%[%[on_mod,%[on_fdivB,%[0|0],%[on_pow,%[0|2],%[0|2]|11]|11],%[on_pow,%[0|2],%[0|2]|11]|11],%[%[1|0],%[(@pe_rev _ _ _ _ _ _ _ %[(["_law_size", "_law_pace", "_law_cell", "_law_room", "_law_word", "_law_one", "_law_other", "_law_value"]),(2),(comp_ok (defScope s__law_drawn) ["_law_cell", "_law_room", "_law_word", "_law_one", "_law_other", "_law_value"] rfl rfl nofun),rfl,%[%[ix_q,%[3|0],%[0|2],(λ _ _=>rfl)|15]|22],(λ C s₀ H₀ ex pn=>(%[(2),rfl,%[%[(0),_,(show List.Nodup (["_law_size", "_law_pace", "_law_cell", "_law_room", "_law_word", "_law_one", "_law_other", "_law_value"]:List Str) from by decide +kernel),rfl,(Or.inl rfl),%[0|7]|19],%[%[(1),_,(show List.Nodup (["_law_size", "_law_pace", "_law_cell", "_law_room", "_law_word", "_law_one", "_law_other", "_law_value"]:List Str) from by decide +kernel),rfl,(Or.inl rfl),%[0|7]|19],(@pgs_nilN _),∅|18],∅|18],∅,∅|28].mono λ _ _ _ _ h=>gTup_q h)),(λ C s₀ H₀ ex pn=>(@pts_nil _)),(λ C s₀ H₀ ex pn=>%[0|0]),(by intros;rfl)|24] (@pe_un _ _ _ _ _ _ un_negN %[0|2]) (λ _ _ _ h=>h))|1]|1]|1]|3]|4],%[%[5,c__law_drawn,%[on_mod,%[on_fdivB,%[0|0],%[on_pow,%[0|2],%[0|2]|11]|11],%[ix_q,%[%[%[0|2],%[%[on_pow,%[0|2],%[0|2]|11]|1]|1]|25],%[on_mod,%[on_fdivB,%[0|0],%[on_pow,%[0|2],%[0|2]|11]|11],%[0|2]|11],(λ _ _=>rfl)|15]|11]|4],%[%[%[%[%[2|0],%[%[3|0],%[%[4|0],%[%[5|0]|1]|1]|1]|1]|29]|12]|10]|9]|9]|9]|9],?_⟩
  rw [show start ["_law_cell", "_law_room", "_law_word", "_law_one", "_law_other", "_law_value"] [.int c,.int room]=[some (.int c),some (.int room),none,none,none,none] from rfl]
  clear G__law_parts G__law_like
  exists k
  exists hS
  ac_rfl
  intro w1 H1 _ e1 h1
  ac_rfl
  refine optK_pick (λ v=>∃ i:Nat,i < 5/\v=.str (wordS i)) (Int.emod_nonneg _ ⋯) (Int.emod_lt_of_pos _ ⋯) (λ v hv=>?_) λ v hv=>?_
  ·simp only [List.mem_cons,List.not_mem_nil,or_false] at hv
   rcases hv with rfl|rfl|rfl|rfl|rfl|rfl
   ·exact ⟨1,by decide,rfl⟩
   ·exact ⟨2,by decide,rfl⟩
   ·exact ⟨3,by decide,rfl⟩
   ·exact ⟨4,by decide,rfl⟩
   ·exact ⟨2,by decide,rfl⟩
   ·exact ⟨0,by decide,rfl⟩
  obtain ⟨i,hi5,rfl⟩:=hv
  clear h1
  have f0:=Int.emod_nonneg (c / 6) (show (100000000000000:Int) ≠ 0 by decide)
  generalize hwd:wordS i=wd
  exists hwd
  ac_rfl
  rw [c_spParts]
  refine ⟨f0,r1,r60,λ q1 D1 f1 A1 H2 e2 hq1 hD1 h2 t2 pk1=>?_⟩
  have e02:=e1.trans e2
  have e1':=e1
  have h8:=pk1.len
  obtain ⟨ys,hl,al⟩:=t2
  clear e1 e2 f0
  ac_rfl
  refine ⟨⟨by decide,by decide⟩,?_⟩
  have wk:=wk_al (K:=K) (R:=axP) (λ _ _ _ _ h e=>h.ext e) hl (al_axP al)
  refine comp_fm A1 (λ _=>true) (λ a=>.int a.1) axP wk.1 wk.2 (len5000 %[0|8]) ?_ ?_
  ·intro D a x H' N1 N0 ha hD e ⟨q,hx,hq⟩ k1 _
   subst hx
   have k1':=k1 rfl H' (Ext.refl _)
   clear k1 k
   simp! only [↓m_kCm_2,↓m_kCm2]
  intro L3 H3 hL3 e3 h3
  have h3':H3 L3=some (.lst ((A1.map λ a=>a.1).map V.int)):=by rw [h3,filt,List.map_map];rfl
  have e03:=e02.trans e3
  have h2_3:=e3.at h2
  have hml:(A1.map λ a=>a.1).length<=3:=by rw [List.length_map];exact h8
  have hmm:∀ m∈(A1.map λ a=>a.1),(1:Int)<=m/\m<=4:=λ m hm=>by
   obtain ⟨a,ha,rfl⟩:=List.mem_map.mp hm
   exact ⟨(pk1.sz a ha).1,(pk1.sz a ha).2.1⟩
  have hpr:=prodL_rev (A1.map λ a=>a.1)
  exists hpr
  obtain ⟨ms,hms⟩:∃ ms,ms=A1.map λ a=>a.1:=⟨_,rfl⟩
  rw [←hms] at h3' hml hmm
  exists hms
  exists hmm
  have T2:TupsAt H2 D1 (axL A1):=⟨ys,hl,al⟩
  exists T2
  clear h3 wk hl al h2
  ac_rfl
  intro L4 H4 hL4 e4 h4
  rw [←List.map_reverse] at h4
  have e04:=e03.trans e4
  have h2_4:=e4.at h2_3
  have g0:=Int.emod_nonneg (c.fdiv 1000000000000000) (show (1000000000:Int) ≠ 0 by decide)
  clear h2_3 h3'
  ac_rfl
  rw [c_spLike]
  refine ⟨ms.reverse,h4,by rw [List.length_reverse];exact hml,λ m hm=>hmm () m (List.mem_reverse.mp hm),g0,r1,r60,λ q2 D2 f2 A2 H5 e5 hq2 hD2 h5 t5 hA2 pk2=>?_⟩
  have e05:=e04.trans e5
  have h2_5:=e5.at h2_4
  have hq20:=e04.free hq2
  have hD20:=e04.free hD2
  exists t5
  exists hA2
  clear h2_4 h4 g0
  ac_rfl
  try refine ⟨⟨by decide,by decide⟩,?_⟩
  intro L6 H6 _ e6 h6
  have e06:=e05.trans e6
  have h2_6:=e6.at h2_5
  have h5_6:=e6.at h5
  clear h2_5 h5
  ac_rfl
  try refine ⟨⟨by decide,by decide⟩,?_⟩
  refine optK_pick (λ v=>∃ j:Int,v=.int j/\0 < j) (Int.emod_nonneg _ ⋯) (Int.emod_lt_of_pos _ ⋯) (λ v hv=>?_) λ v hv=>?_
  ·simp only [List.mem_cons,List.not_mem_nil,or_false] at hv
   rcases hv with rfl|rfl
   ·exact ⟨_,rfl,by decide⟩
   ·exact ⟨_,rfl,by decide⟩
  obtain ⟨j,rfl,hj⟩:=hv
  clear h6
  ac_rfl
  intro d H7 hd e7 h7
  have e07:=e06.trans e7
  have hS7:=(hS ()).ext e07
  have hD10:H D1=none:=e1'.free hD1
  refine k () d i q1 q2 _ f1 A1 f2 A2 H7 e07 ⟨cut_obj hS7 (by rw [hwd ()];exact h7) (λ _ h=>by cases h),⟨D1,cut_obj hS7 (e7.at h2_6) (λ _ h=>by cases h),cut_tups (hS ()) e07 hD10 ((T2 ()).ext ((e3.trans (e4.trans (e5.trans (e6.trans e7))))))⟩,⟨D2,cut_obj hS7 (e7.at h5_6) (λ _ h=>by cases h),cut_tups (hS ()) e07 hD20 ((t5 ()).ext (e6.trans e7))⟩⟩ ⟨hi5,pk1,pk2,by rw [hA2 (),hms ()];exact hpr ()⟩
abbrev B_spRead2  (p:Addr) (q:Addr) (H:Hp) (Q:VK) (E:XK):Prop:=∃ (vals:List Int) (n f:Int) (A:List (Int × Int)),H p=some (.lst (vals.map V.int))/\PtAt H q n f A/\PtOk n f A/\n=vals.length/\∀ (r:Addr) (H':Hp),H r=none->Ext H H'->H' r=some (.lst ((readL vals (cellsL f A)).map V.int))->Q (.ref r) H'
def spRead2  : Sp:=λ vs H Q E=>∃ (p:Addr) (q:Addr),vs=[.ref p,.ref q]/\(B_spRead2  p q H Q E)
theorem c_spRead2  (p:Addr) (q:Addr) (H:Hp) (Q:VK) (E:XK):spRead2  [.ref p,.ref q] H Q E=(B_spRead2  p q H Q E):=spx2 (f:=λ (p:Addr) (q:Addr)=>[.ref p,.ref q]) (λ _ _ _ _ h=>by cases h;exact ⟨rfl,rfl⟩) p q
theorem l_spRead2  {vs:List V}{H:Hp}{Q:VK}{E:XK}(h:spRead2  vs H Q E):vs.length=2:=spl2 h λ _ _=>rfl
theorem cl64 {n f:Int}{A:List (Int × Int)}(h:PtOk n f A):(cellsL f A).length<=64:=by
 have:=cellsL_len f A λ a ha=>(h.ax.2 a ha).1
 have:=h.pr
 omega
theorem ok__law_read (T:Tx K mg t):FnOk P w K mg base CX0 2 t.a__law_read t.d__law_read ["_law_values", "_law_parts_here"] spRead2:=by
 have G__law_cells:=%[ok__law_cells|36]
 refine T.F__law_read.ok c__law_read (λ vs H Q E h=>l_spRead2 h) (λ cdv A' outer s H vs Q E hr h=>?_)
 ·obtain ⟨p,q,rfl,vals,n,f,A,hp,pt,pk,hn,k⟩:=h
  refine ⟨_,%[%[%[(["_law_cell", "_law_values", "_law_parts_here"]),(1),(comp_ok (defScope s__law_read) ["_law_values", "_law_parts_here"] rfl rfl nofun),rfl,%[%[_law_cells,%[%[1|0]|1]|3]|22],(λ C s₀ H₀ ex pn=>%[(0),_,(show List.Nodup (["_law_cell", "_law_values", "_law_parts_here"]:List Str) from by decide +kernel),rfl,(Or.inl rfl),%[0|7]|19]),(λ C s₀ H₀ ex pn=>(@pts_nil _)),(λ C s₀ H₀ ex pn=>%[ix_q,%[1|0],%[0|0],(λ _ _=>rfl)|15]),(by intros;rfl)|24]|12]|10],?_⟩
  rw [show start ["_law_values", "_law_parts_here"] [.ref p,.ref q]=[some (.ref p),some (.ref q)] from rfl]
  clear G__law_cells
  exists k
  exists pt
  ac_rfl
  rw [c_spLCells]
  refine ⟨n,f,A,pt (),pk,λ r H1 hr1 e1 h1=>?_⟩
  have hp1:=e1.at hp
  have on:=pk.on hn
  have c64:=cl64 pk
  exists on
  ac_rfl
  refine comp_fm ((cellsL f A).map V.int) (λ _=>true) (λ z=>.int (vals.getD (vi z).toNat 0)) (λ z x H'=>x=z/\H' r=some (.lst ((cellsL f A).map V.int))) (wk_lst h1).1 (wk_lst h1).2 (len5000 (by rw [List.length_map];omega)) ?_ ?_
  ·intro D z x H' N1 N0 hz hD e ⟨hx,_⟩ k1 _
   subst hx
   obtain ⟨c,hc,rfl⟩:=List.mem_map.mp hz
   obtain ⟨o1,o2⟩:=on () c hc
   have hp2:=e.at hp1
   have ga:=at_vals o1 o2
   have k1':N1 (.int (vals.getD c.toNat 0)) H':=k1 rfl H' (Ext.refl _)
   clear k1 k hz
   generalize vals.getD c.toNat 0=y at *
   simp! only [↓m_kCm_1,↓m_kCm2]
  intro D H2 hD e2 hD'
  refine k () D H2 (e1.free hD) (e1.trans e2) ?_
  rw [hD',filt,List.map_map]
  unfold readL
  rw [List.map_map]
  rfl
abbrev B_spPut2  (p:Addr) (q:Addr) (w:Addr) (H:Hp) (Q:VK) (E:XK):Prop:=∃ (vals ws:List Int) (n f:Int) (A:List (Int × Int)),H p=some (.lst (vals.map V.int))/\PtAt H q n f A/\PtOk n f A/\n=vals.length/\H w=some (.lst (ws.map V.int))/\w ≠ p/\ws.length=(cellsL f A).length/\∀ (H':Hp),(∀ H0,Ext H0 H->H0 p=none->Ext H0 H')->(∀ b o,b ≠ p->H b=some o->H' b=some o)->H' p=some (.lst ((putL vals (cellsL f A) ws).map V.int))->Q .non H'
def spPut2  : Sp:=λ vs H Q E=>∃ (p:Addr) (q:Addr) (w:Addr),vs=[.ref p,.ref q,.ref w]/\(B_spPut2  p q w H Q E)
theorem c_spPut2  (p:Addr) (q:Addr) (w:Addr) (H:Hp) (Q:VK) (E:XK):spPut2  [.ref p,.ref q,.ref w] H Q E=(B_spPut2  p q w H Q E):=spx3 (f:=λ (p:Addr) (q:Addr) (w:Addr)=>[.ref p,.ref q,.ref w]) (λ _ _ _ _ _ _ h=>by cases h;exact ⟨rfl,rfl,rfl⟩) p q w
theorem l_spPut2  {vs:List V}{H:Hp}{Q:VK}{E:XK}(h:spPut2  vs H Q E):vs.length=3:=spl3 h λ _ _ _=>rfl
theorem ok__law_put (T:Tx K mg t):FnOk P w K mg base CX0 2 t.a__law_put t.d__law_put ["_law_values", "_law_parts_here", "_law_some"] spPut2:=by
 have G__law_cells:=%[ok__law_cells|36]
 refine T.F__law_put.ok c__law_put (λ vs H Q E h=>l_spPut2 h) (λ cdv A' outer s H vs Q E hr h=>?_)
 ·obtain ⟨p,q,w,rfl,vals,ws,n,f,A,hp,pt,pk,hn,hw,nwp,hwl,k⟩:=h
  refine ⟨_,%[%[PassesOwn.never,rfl,(@pi_zip _ _ _ _ _ _ _ _ _ ∅ T.z_zip %[%[_law_cells,%[%[1|0]|1]|3],%[%[2|0]|1]|1] ∅ ∅),(%[(2),rfl,%[%[3,c__law_put|5],%[%[4,c__law_put|5],(@pgs_nilN _),∅|18],∅|18],∅,∅|28].mono λ _ _ _ _ h=>gTup_q h),%[(@ps_asg _ _ _ _ _ _ %[4|0] (@pg_sub _ _ _ _ _ _ _ %[0|0] %[3|0] set_list (by intros;rfl)) ∅ ∅ ∅)|10],(by intros;rfl)|26]|10],?_⟩
  rw [show start ["_law_values", "_law_parts_here", "_law_some", "_law_cell", "_law_value"] [.ref p,.ref q,.ref w]=[some (.ref p),some (.ref q),some (.ref w),none,none] from rfl]
  clear G__law_cells
  exists k
  exists pt
  ac_rfl
  rw [c_spLCells]
  refine ⟨n,f,A,pt (),pk,λ r H1 hr1 e1 h1=>?_⟩
  have hp1:=e1.at hp
  have hw1:=e1.at hw
  have nrp:r ≠ p:=λ e=>by rw [e,hp] at hr1;cases hr1
  have on:=pk.on hn
  have c64:=cl64 pk
  exists on
  generalize cellsL f A=cs at *
  ac_rfl
  refine for_zip (ka:=false) (kb:=false) (xs:=cs.map V.int) (ys:=ws.map V.int) (λ i σ H'=>∃ v3 v4:Option V,σ=[some (.ref p),some (.ref q),some (.ref w),v3,v4]/\(∀ H0,Ext H0 H1->H0 p=none->Ext H0 H')/\(∀ b o,b ≠ p->H1 b=some o->H' b=some o)/\H' p=some (.lst ((putL vals (cs.take i) (ws.take i)).map V.int))) ⟨none,none,rfl,λ _ q _=>q,λ _ _ _ q=>q,hp1⟩ (λ i σ H' ⟨_,_,_,_,hk,_⟩=>⟨hk _ _ nrp h1,hk _ _ nwp hw1⟩) ?_ ?_
  ·rintro i u x tq _ H3 H4 hu hx ⟨v3,v4,rfl,ha3,hk3,h3⟩ hq e4 h4
   rw [List.getElem?_map] at hu hx
   obtain ⟨c,hc,rfl⟩:=Option.map_eq_some_iff.mp hu
   obtain ⟨z,hz,rfl⟩:=Option.map_eq_some_iff.mp hx
   have hcb:=on () c (List.mem_of_getElem? hc)
   have h3_4:=e4.at h3
   have hlen:=putL_length vals (cs.take i) (ws.take i)
   have hput:=λ (_:Unit)=>putL_take (vals:=vals) hc hz
   generalize putL vals (cs.take i) (ws.take i)=vv at h3 h3_4 hlen hput
   have hix:ixN vv.length c=some c.toNat:=ix_in hcb.1 (by rw [hlen];exact hcb.2)
   exists ha3
   exists hk3
   clear hu hx hc hz k hlen h3 hp1 hw1 h1
   simp! only [↓m_kBody]
   refine ⟨_,_,rfl,λ H0 q0 q1=>((ha3 () H0 q0 q1).trans e4).put q1,λ b o hb hbo=>by rw [upd_ne hb];exact e4.at (hk3 () b o hb hbo),?_⟩
   rw [hput (),←map_set']
  ·rintro _ H3 ⟨v3,v4,rfl,ha3,hk3,h3⟩
   have hm:min (cs.map V.int).length (ws.map V.int).length=cs.length:=by rw [List.length_map,List.length_map];omega
   rw [hm,List.take_length,←hwl,List.take_length] at h3
   exact k () H3 (λ H0 q0 q1=>ha3 H0 (q0.trans e1) q1) (λ b o hb hbo=>hk3 b o hb (e1.at hbo)) h3
abbrev B_spStm (t:Adr) (d:Addr) (H:Hp) (Q:VK) (E:XK):Prop:=∃ (S:List Addr) (i:Nat) (q1 q2:Addr) (z n:Int) (f1:Int) (A1:List (Int × Int)) (f2:Int) (A2:List (Int × Int)) (u0:Addr) (f0:Int) (A0:List (Int × Int)),LstS S H/\DdAt (CutS S H) d i q1 q2 z n f1 A1 f2 A2/\DdOk i n f1 A1 f2 A2/\1<=n/\n<=60/\ViewAt t.a_View (CutS S H) u0 n f0 A0/\PtOk n f0 A0/\∀ (s u v dx:Addr) (g1:Int) (B1:List (Int × Int)) (g2:Int) (B2:List (Int × Int)) (H':Hp),Ext H H'->CutS S H' s=some (.ins (clsW t i) dx (fldW i u v (.int z)))->ViewAt t.a_View (CutS S H') u n g1 B1->PtOk n g1 B1->ViewAt t.a_View (CutS S H') v n g2 B2->PtOk n g2 B2->prodL (B2.map λ a=>a.1)=prodL (B1.map λ a=>a.1)->(∀ vals,runL i vals (cellsL g1 B1) (cellsL g2 B2) z=runL i vals (cellsL f1 A1) (cellsL f2 A2) z)->Q (.ref s) H'
def spStm (t:Adr):Sp:=λ vs H Q E=>∃ (d:Addr),vs=[.ref d]/\(B_spStm t d H Q E)
theorem c_spStm (t:Adr) (d:Addr) (H:Hp) (Q:VK) (E:XK):spStm t [.ref d] H Q E=(B_spStm t d H Q E):=spx1 (f:=λ (d:Addr)=>[.ref d]) (λ _ _ h=>by cases h;exact rfl) d
theorem l_spStm (t:Adr){vs:List V}{H:Hp}{Q:VK}{E:XK}(h:spStm t vs H Q E):vs.length=1:=spl1 h λ _=>rfl
theorem ok__law_statement (T:Tx K mg t):FnOk P w K mg base CX0 9 t.a__law_statement t.d__law_statement ["_law_deed"] (spStm t):=by
 have G__law_view:=%[ok__law_view|36]
 have G_Fill___init__:=%[ok_Fill___init__|36]
 have G_Copy___init__:=%[ok_Copy___init__|36]
 have G_Swap___init__:=%[ok_Swap___init__|36]
 have G_Raise___init__:=%[ok_Raise___init__|36]
 refine T.F__law_statement.ok c__law_statement (λ vs H Q E h=>l_spStm _ h) (λ cdv A' outer s0 H vs Q E hr h=>?_)
 ·obtain ⟨d,rfl,S,i,q1,q2,z,n,f1,A1,f2,A2,u0,f0,A0,hS,dd,dk,n1,n60,v0,pk0,k⟩:=h
  refine ⟨_,%[(@ps_asg _ _ _ _ _ _ %[0|0] (%[(4),rfl,%[%[1,c__law_statement|5],%[%[2,c__law_statement|5],%[%[3,c__law_statement|5],%[%[4,c__law_statement|5],(@pgs_nilN _),∅|18],∅|18],∅|18],∅|18],∅,∅|28].mono λ _ _ _ _ h=>gTup_q h) ∅ ∅ ∅),%[%[%[(op_qEq hr.units),%[1|0],(@pe_str _ _ _ _),(nomark _)|17],%[%[%[T.mk_Fill,G_Fill___init__,(hr.mono ⋯),∅,T.m_Fill,T.b_Fill___init__,.nil,pass0,%[%[_law_view,%[%[2|0]|1]|3],%[%[4|0]|1]|1],⋯,∅,∅|31]|12]|10],(@pss_nil _)|16],%[%[%[(op_qEq hr.units),%[1|0],(@pe_str _ _ _ _),(nomark _)|17],%[%[%[T.mk_Copy,G_Copy___init__,(hr.mono ⋯),∅,T.m_Copy,T.b_Copy___init__,.nil,pass0,%[%[_law_view,%[%[2|0]|1]|3],%[%[_law_view,%[%[3|0]|1]|3]|1]|1],⋯,∅,∅|31]|12]|10],(@pss_nil _)|16],%[%[%[(op_qEq hr.units),%[1|0],(@pe_str _ _ _ _),(nomark _)|17],%[%[%[T.mk_Swap,G_Swap___init__,(hr.mono ⋯),∅,T.m_Swap,T.b_Swap___init__,.nil,pass0,%[%[_law_view,%[%[2|0]|1]|3],%[%[_law_view,%[%[3|0]|1]|3]|1]|1],⋯,∅,∅|31]|12]|10],(@pss_nil _)|16],%[%[%[(op_qEq hr.units),%[1|0],(@pe_str _ _ _ _),(nomark _)|17],%[%[%[T.mk_Raise,G_Raise___init__,(hr.mono ⋯),∅,T.m_Raise,T.b_Raise___init__,.nil,pass0,%[%[_law_view,%[%[2|0]|1]|3],%[%[_law_view,%[%[3|0]|1]|3]|1]|1],⋯,∅,∅|31]|12]|10],(@pss_nil _)|16],%[%[(@pe_nMk0 _ _ _ _ _ T.mk0_Statement ∅ T.m_Statement ⋯)|12]|10]|9]|9]|9]|9]|9],?_⟩
  rw [show start ["_law_deed", "_law_word", "_law_one", "_law_other", "_law_value"] [.ref d]=[some (.ref d),none,none,none,none] from rfl]
  clear G__law_view G_Fill___init__ G_Copy___init__ G_Swap___init__ G_Raise___init__
  obtain ⟨htp,hp1,hp2⟩:=dd.ext (cut_sub S H)
  obtain ⟨hi5,k1,k2,hpe⟩:=dk
  exists k
  exists hS
  exists hp1
  exists hp2
  exists v0
  exists hpe
  have w01:¬ (wordS 0=Str.ofString "fill"):=by decide +kernel
  have w02:¬ (wordS 0=Str.ofString "copy"):=by decide +kernel
  have w03:¬ (wordS 0=Str.ofString "swap"):=by decide +kernel
  have w04:¬ (wordS 0=Str.ofString "raise"):=by decide +kernel
  have w21:¬ (wordS 2=Str.ofString "fill"):=by decide +kernel
  have w31:¬ (wordS 3=Str.ofString "fill"):=by decide +kernel
  have w32:¬ (wordS 3=Str.ofString "copy"):=by decide +kernel
  have w41:¬ (wordS 4=Str.ofString "fill"):=by decide +kernel
  have w42:¬ (wordS 4=Str.ofString "copy"):=by decide +kernel
  have w43:¬ (wordS 4=Str.ofString "swap"):=by decide +kernel
  match i,hi5 with
  | 0,_=>
   ac_rfl
   intro sx dx G6 _ _ _ e6 h6 _
   have kf:=k () sx u0 u0 dx f0 A0 f0 A0 G6 e6 (cut_obj ((hS ()).ext e6) h6 (λ _ h=>by cases h)) ((v0 ()).ext (cut_ext e6)) pk0 ((v0 ()).ext (cut_ext e6)) pk0 rfl (λ _=>rfl)
   clear k
   ac_rfl
  | 1,_=>
   have pw:wordS 1=Str.ofString "fill":=rfl
   ac_rfl
   rw [c_spLView]
   refine ⟨n,f1,A1,hp1 (),k1,n1,n60,λ u H1 hu e1 vu=>?_⟩
   have vu2:=vu S (hS ())
   exists vu2
   clear vu
   ac_rfl
   intro sx dx G6 hx6 _ _ g6 k6 _
   rw [c_spFInit]
   refine ⟨dx,k6,λ G7 g7' h7=>?_⟩
   have e17:=g7' H1 g6 hx6
   have e07:=e1.trans e17
   have kf:=k () sx u u dx f1 A1 f1 A1 G7 e07 (cut_obj ((hS ()).ext e07) h7 (λ _ h=>by cases h)) ((vu2 ()).ext (cut_ext e17)) k1 ((vu2 ()).ext (cut_ext e17)) k1 rfl (λ _=>rfl)
   clear k
   ac_rfl
  | 2,_=>
   have pw:wordS 2=Str.ofString "copy":=rfl
   ac_rfl
   rw [c_spLView]
   refine ⟨n,f1,A1,hp1 (),k1,n1,n60,λ u H1 hu e1 vu=>?_⟩
   ac_rfl
   rw [c_spLView]
   refine ⟨n,f2,A2,(hp2 ()).ext e1,k2,n1,n60,λ v H2 hv e2 vv=>?_⟩
   have vu2:=(vu S (hS ())).ext (cut_ext (S:=S) e2)
   have vv2:=vv S ((hS ()).ext e1)
   exists vu2
   exists vv2
   clear vu vv
   ac_rfl
   intro sx dx G6 hx6 _ _ g6 k6 _
   rw [c_spCopyInit]
   refine ⟨dx,n,f1,f2,A1,A2,k6,((vu2 ()).ext (cut_sub S H2)).ext g6,((vv2 ()).ext (cut_sub S H2)).ext g6,k1.ax,k2.ax,(hpe ()).symm,λ G7 g7' h7=>?_⟩
   have e27:=g7' H2 g6 hx6
   have e07:=e1.trans (e2.trans e27)
   have kf:=k () sx u v dx f1 A1 f2 A2 G7 e07 (cut_obj ((hS ()).ext e07) h7 (λ _ h=>by cases h)) ((vu2 ()).ext (cut_ext e27)) k1 ((vv2 ()).ext (cut_ext e27)) k2 (hpe ()) (λ _=>rfl)
   clear k
   ac_rfl
  | 3,_=>
   have pw:wordS 3=Str.ofString "swap":=rfl
   ac_rfl
   rw [c_spLView]
   refine ⟨n,f1,A1,hp1 (),k1,n1,n60,λ u H1 hu e1 vu=>?_⟩
   ac_rfl
   rw [c_spLView]
   refine ⟨n,f2,A2,(hp2 ()).ext e1,k2,n1,n60,λ v H2 hv e2 vv=>?_⟩
   have vu2:=(vu S (hS ())).ext (cut_ext (S:=S) e2)
   have vv2:=vv S ((hS ()).ext e1)
   exists vu2
   exists vv2
   clear vu vv
   ac_rfl
   intro sx dx G6 hx6 _ _ g6 k6 _
   rw [c_spSwapInit]
   refine ⟨dx,n,f1,f2,A1,A2,k6,((vu2 ()).ext (cut_sub S H2)).ext g6,((vv2 ()).ext (cut_sub S H2)).ext g6,k1.ax,k2.ax,(hpe ()).symm,λ G7 g7' h7=>?_⟩
   have e27:=g7' H2 g6 hx6
   have e07:=e1.trans (e2.trans e27)
   have kf:=k () sx u v dx f1 A1 f2 A2 G7 e07 (cut_obj ((hS ()).ext e07) h7 (λ _ h=>by cases h)) ((vu2 ()).ext (cut_ext e27)) k1 ((vv2 ()).ext (cut_ext e27)) k2 (hpe ()) (λ _=>rfl)
   clear k
   ac_rfl
  | 4,_=>
   have pw:wordS 4=Str.ofString "raise":=rfl
   ac_rfl
   rw [c_spLView]
   refine ⟨n,f1,A1,hp1 (),k1,n1,n60,λ u H1 hu e1 vu=>?_⟩
   ac_rfl
   rw [c_spLView]
   refine ⟨n,f2,A2,(hp2 ()).ext e1,k2,n1,n60,λ v H2 hv e2 vv=>?_⟩
   have vu2:=(vu S (hS ())).ext (cut_ext (S:=S) e2)
   have vv2:=vv S ((hS ()).ext e1)
   exists vu2
   exists vv2
   clear vu vv
   ac_rfl
   intro sx dx G6 hx6 _ _ g6 k6 _
   rw [c_spRaiseInit]
   refine ⟨dx,n,f1,f2,A1,A2,k6,((vu2 ()).ext (cut_sub S H2)).ext g6,((vv2 ()).ext (cut_sub S H2)).ext g6,k1.ax,k2.ax,(hpe ()).symm,λ G7 g7' h7=>?_⟩
   have e27:=g7' H2 g6 hx6
   have e07:=e1.trans (e2.trans e27)
   have kf:=k () sx u v dx f1 A1 f2 A2 G7 e07 (cut_obj ((hS ()).ext e07) h7 (λ _ h=>by cases h)) ((vu2 ()).ext (cut_ext e27)) k1 ((vv2 ()).ext (cut_ext e27)) k2 (hpe ()) (λ _=>rfl)
   clear k
   ac_rfl
theorem put_fill (z:Int):∀ (cs vals:List Int),putL vals cs (cs.map λ _=>z)=fillL vals cs z
 | [],_=>rfl
 | c::r,vals=>by
  show putL (vals.set c.toNat z) r (r.map λ _=>z)=fillL (vals.set c.toNat z) r z
  exact put_fill z r _
theorem rd_len2 (vals cs:List Int):(readL vals cs).length=cs.length:=by unfold readL;rw [List.length_map]
theorem cl_eq {n f1 f2:Int}{A1 A2:List (Int × Int)}(k1:PtOk n f1 A1) (k2:PtOk n f2 A2) (pe:prodL (A2.map λ a=>a.1)=prodL (A1.map λ a=>a.1)):(cellsL f2 A2).length=(cellsL f1 A1).length:=by
 have h1:=cellsL_len f1 A1 λ a ha=>(k1.ax.2 a ha).1
 have h2:=cellsL_len f2 A2 λ a ha=>(k2.ax.2 a ha).1
 omega
theorem zw_range (as bs:List Int) (h:bs.length=as.length):(List.range as.length).map (λ k=>as.getD k 0+bs.getD k 0)=List.zipWith (· + ·) as bs:=by
 apply List.ext_getElem?
 intro i
 rw [List.getElem?_map,List.getElem?_zipWith]
 by_cases hi:i < as.length
 ·rw [List.getElem?_range hi,List.getElem?_eq_getElem hi,List.getElem?_eq_getElem (by omega:i < bs.length)]
  simp [List.getD,List.getElem?_eq_getElem hi,List.getElem?_eq_getElem (by omega:i < bs.length)]
 ·rw [List.getElem?_eq_none (by simp;omega),List.getElem?_eq_none (by omega:as.length<=i)]
  rfl
abbrev B_spDone2  (p:Addr) (d:Addr) (H:Hp) (Q:VK) (E:XK):Prop:=∃ (vals:List Int) (i:Nat) (q1 q2:Addr) (z n:Int) (f1:Int) (A1:List (Int × Int)) (f2:Int) (A2:List (Int × Int)),H p=some (.lst (vals.map V.int))/\DdAt H d i q1 q2 z n f1 A1 f2 A2/\DdOk i n f1 A1 f2 A2/\n=vals.length/\n<=60/\∀ (r:Addr) (H':Hp),H r=none->Ext H H'->H' r=some (.lst ((runL i vals (cellsL f1 A1) (cellsL f2 A2) z).map V.int))->Q (.ref r) H'
def spDone2  : Sp:=λ vs H Q E=>∃ (p:Addr) (d:Addr),vs=[.ref p,.ref d]/\(B_spDone2  p d H Q E)
theorem c_spDone2  (p:Addr) (d:Addr) (H:Hp) (Q:VK) (E:XK):spDone2  [.ref p,.ref d] H Q E=(B_spDone2  p d H Q E):=spx2 (f:=λ (p:Addr) (d:Addr)=>[.ref p,.ref d]) (λ _ _ _ _ h=>by cases h;exact ⟨rfl,rfl⟩) p d
theorem l_spDone2  {vs:List V}{H:Hp}{Q:VK}{E:XK}(h:spDone2  vs H Q E):vs.length=2:=spl2 h λ _ _=>rfl
theorem ok__law_done (T:Tx K mg t):FnOk P w K mg base CX0 3 t.a__law_done t.d__law_done ["_law_values", "_law_deed"] spDone2:=by
 have G__law_read:=%[ok__law_read|36]
 have G__law_put:=%[ok__law_put|36]
 refine T.F__law_done.ok c__law_done (λ vs H Q E h=>l_spDone2 h) (λ cdv A' outer s0 H vs Q E hr h=>?_)
 ·obtain ⟨p,d,rfl,vals,i,q1,q2,z,n,f1,A1,f2,A2,hp,⟨htp,hp1,hp2⟩,⟨hi5,k1,k2,hpe⟩,hn,n60,k⟩:=h
  refine ⟨_,%[(@ps_asg _ _ _ _ _ _ %[1|0] (%[(4),rfl,%[%[2,c__law_done|5],%[%[3,c__law_done|5],%[%[4,c__law_done|5],%[%[(5),_,c__law_done.nd,rfl,(Or.inr rfl),%[0|7]|19],(@pgs_nilN _),∅|18],∅|18],∅|18],∅|18],∅,∅|28].mono λ _ _ _ _ h=>gTup_q h) ∅ ∅ ∅),%[%[6,c__law_done,%[call_nList,∅,T.z_list,nofun,%[%[0|0]|1],⋯,⋯,∅,∅|35]|4],%[(@ps_set _ _ (7) _ _ _ _ c__law_done.nd rfl (Or.inr rfl) %[_law_read,%[%[0|0],%[%[3|0]|1]|1]|3] ∅ %[0|7]),%[(@ps_set _ _ (8) _ _ _ _ c__law_done.nd rfl (Or.inr rfl) %[_law_read,%[%[0|0],%[%[4|0]|1]|1]|3] ∅ %[0|7]),%[%[%[(op_qEq hr.units),%[2|0],(@pe_str _ _ _ _),(nomark _)|17],%[%[%[_law_put,%[%[6|0],%[%[3|0],%[%[(["_law_cell", "_law_values", "_law_deed", "_law_word", "_law_one", "_law_other", "_law_value", "_law_found", "_law_here", "_law_there"]),(1),(comp_ok (defScope s__law_done) ["_law_values", "_law_deed", "_law_word", "_law_one", "_law_other", "_law_value", "_law_found", "_law_here", "_law_there"] rfl rfl nofun),rfl,%[%[7|0]|22],(λ C s₀ H₀ ex pn=>%[(0),_,(show List.Nodup (["_law_cell", "_law_values", "_law_deed", "_law_word", "_law_one", "_law_other", "_law_value", "_law_found", "_law_here", "_law_there"]:List Str) from by decide +kernel),rfl,(Or.inl rfl),%[0|7]|19]),(λ C s₀ H₀ ex pn=>(@pts_nil _)),(λ C s₀ H₀ ex pn=>%[6|0]),(by intros;rfl)|24]|1]|1]|1]|3],∅|13]|10],(@pss_nil _)|16],%[%[(PW.pt (@pw_or _ _ _ _ _ _ _ %[(op_qEq hr.units),%[2|0],(@pe_str _ _ _ _),(nomark _)|17] (@pw_or1 _ _ _ _ %[(op_qEq hr.units),%[2|0],(@pe_str _ _ _ _),(nomark _)|17]))),%[%[%[_law_put,%[%[6|0],%[%[3|0],%[%[8|0]|1]|1]|1]|3],∅|13]|10],(@pss_nil _)|16],%[%[%[(op_qEq hr.units),%[2|0],(@pe_str _ _ _ _),(nomark _)|17],%[%[%[_law_put,%[%[6|0],%[%[4|0],%[%[7|0]|1]|1]|1]|3],∅|13]|10],(@pss_nil _)|16],%[%[%[(op_qEq hr.units),%[2|0],(@pe_str _ _ _ _),(nomark _)|17],%[%[%[_law_put,%[%[6|0],%[%[3|0],%[%[(["_law_k", "_law_values", "_law_deed", "_law_word", "_law_one", "_law_other", "_law_value", "_law_found", "_law_here", "_law_there"]),(1),(comp_ok (defScope s__law_done) ["_law_values", "_law_deed", "_law_word", "_law_one", "_law_other", "_law_value", "_law_found", "_law_here", "_law_there"] rfl rfl nofun),rfl,%[∅,T.z_range,%[%[len,call_qLen,%[%[7|0]|1]|6]|1],∅|33],(λ C s₀ H₀ ex pn=>%[(0),_,(show List.Nodup (["_law_k", "_law_values", "_law_deed", "_law_word", "_law_one", "_law_other", "_law_value", "_law_found", "_law_here", "_law_there"]:List Str) from by decide +kernel),rfl,(Or.inl rfl),%[0|7]|19]),(λ C s₀ H₀ ex pn=>(@pts_nil _)),(λ C s₀ H₀ ex pn=>%[on_add,%[ix_q,%[8|0],%[0|0],(λ _ _=>rfl)|15],%[ix_q,%[9|0],%[0|0],(λ _ _=>rfl)|15]|11]),(by intros;rfl)|24]|1]|1]|1]|3],∅|13]|10],(@pss_nil _)|16],%[%[%[6|0]|12]|10]|9]|9]|9]|9]|9]|9]|9]|9],?_⟩
  rw [show start ["_law_values", "_law_deed", "_law_word", "_law_one", "_law_other", "_law_value", "_law_found", "_law_here", "_law_there"] [.ref p,.ref d]=[some (.ref p),some (.ref d),none,none,none,none,none,none,none] from rfl]
  clear G__law_read G__law_put
  exists k
  exists hp1
  exists hp2
  exists hn
  have hvl:vals.length<=60:=by have:=hn ();omega
  have c1:=cl64 k1
  have c2:=cl64 k2
  have ce:=cl_eq k1 k2 hpe
  have r1:=rd_len2 vals (cellsL f1 A1)
  have r2:=rd_len2 vals (cellsL f2 A2)
  exists ce
  exists r1
  exists r2
  clear hpe
  ac_rfl
  intro F H1 hF e1 hF1
  have hp_1:=e1.at hp
  ac_rfl
  rw [c_spRead2]
  refine ⟨vals,n,f1,A1,hp_1,(hp1 ()).ext e1,k1,hn (),λ a1 H2 ha1 e2 h2=>?_⟩
  have hp_2:=e2.at hp_1
  have hF2:=e2.at hF1
  have naF:a1 ≠ F:=λ e=>by rw [e,hF1] at ha1;cases ha1
  clear hp_1 hF1
  ac_rfl
  rw [c_spRead2]
  refine ⟨vals,n,f2,A2,hp_2,(hp2 ()).ext (e1.trans e2),k2,hn (),λ a2 H3 ha2 e3 h3=>?_⟩
  have hF3:=e3.at hF2
  have h2_3:=e3.at h2
  have nbF:a2 ≠ F:=λ e=>by rw [e,hF2] at ha2;cases ha2
  have e03:=e1.trans (e2.trans e3)
  clear hp_2 hF2 h2 e1 e2 e3 ha1 ha2 hp htp
  match i,hi5 with
  | 0,_=>
   have w1:¬ (wordS 0=Str.ofString "fill"):=by decide +kernel
   have w2:¬ (wordS 0=Str.ofString "copy"):=by decide +kernel
   have w3:¬ (wordS 0=Str.ofString "swap"):=by decide +kernel
   have w4:¬ (wordS 0=Str.ofString "raise"):=by decide +kernel
   have kf:=k () F H3 hF e03 hF3
   clear k
   ac_rfl
  | 1,_=>
   have w1:wordS 1=Str.ofString "fill":=rfl
   have w2:¬ (wordS 1=Str.ofString "copy"):=by decide +kernel
   have w3:¬ (wordS 1=Str.ofString "swap"):=by decide +kernel
   have w4:¬ (wordS 1=Str.ofString "raise"):=by decide +kernel
   have rl:(readL vals (cellsL f1 A1)).length<=64:=by have:=r1 ();omega
   ac_rfl
   refine comp_fm ((readL vals (cellsL f1 A1)).map V.int) (λ _=>true) (λ _=>.int z) (λ z x H'=>x=z/\H' a1=some (.lst ((readL vals (cellsL f1 A1)).map V.int))) (wk_lst h2_3).1 (wk_lst h2_3).2 (len5000 (by rw [List.length_map];omega)) ?_ ?_
   ·intro D y x H' N1 N0 hz hD e ⟨hx,_⟩ j1 _
    subst hx
    have j1':=j1 rfl H' (Ext.refl _)
    clear j1 k hz
    simp! only [↓m_kCm_1,↓m_kCm2]
   intro L H4 hL e4 hL4
   have hL4':H4 L=some (.lst (((cellsL f1 A1).map λ _=>z).map V.int)):=by
    rw [hL4,filt,List.map_map]
    unfold readL
    rw [List.map_map,List.map_map]
    rfl
   have hF4:=e4.at hF3
   have nLF:L ≠ F:=λ e=>by rw [e,hF3] at hL;cases hL
   have e04:=e03.trans e4
   clear hL4 hF3 h2_3 h3
   ac_rfl
   rw [c_spPut2]
   refine ⟨vals,_,n,f1,A1,hF4,(hp1 ()).ext e04,k1,hn (),hL4',nLF,by rw [List.length_map],λ H5 g1 g2 g3=>?_⟩
   rw [put_fill] at g3
   have kf:=k () F H5 hF (g1 H e04 hF) g3
   clear k
   ac_rfl
  | 2,_=>
   have w1:¬ (wordS 2=Str.ofString "fill"):=by decide +kernel
   have w2:wordS 2=Str.ofString "copy":=rfl
   have w3:¬ (wordS 2=Str.ofString "swap"):=by decide +kernel
   have w4:¬ (wordS 2=Str.ofString "raise"):=by decide +kernel
   ac_rfl
   rw [c_spPut2]
   refine ⟨vals,_,n,f1,A1,hF3,(hp1 ()).ext e03,k1,hn (),h3,nbF,by rw [r2 ()];exact ce (),λ H5 g1 g2 g3=>?_⟩
   have kf:=k () F H5 hF (g1 H e03 hF) g3
   clear k h3 h2_3 hF3
   ac_rfl
  | 3,_=>
   have w1:¬ (wordS 3=Str.ofString "fill"):=by decide +kernel
   have w2:¬ (wordS 3=Str.ofString "copy"):=by decide +kernel
   have w3:wordS 3=Str.ofString "swap":=rfl
   have w4:¬ (wordS 3=Str.ofString "raise"):=by decide +kernel
   ac_rfl
   rw [c_spPut2]
   refine ⟨vals,_,n,f1,A1,hF3,(hp1 ()).ext e03,k1,hn (),h3,nbF,by rw [r2 ()];exact ce (),λ H5 g1 g2 g3=>?_⟩
   have e05:=g1 H e03 hF
   have h2_5:=g2 _ _ naF h2_3
   clear g1 g2 h3 h2_3 hF3
   ac_rfl
   rw [c_spPut2]
   refine ⟨_,_,n,f2,A2,g3,(hp2 ()).ext e05,k2,by rw [putL_length];exact hn (),h2_5,naF,by rw [r1 ()];exact (ce ()).symm,λ H6 j1 j2 j3=>?_⟩
   have kf:=k () F H6 hF (j1 H e05 hF) j3
   clear k h2_5 g3
   ac_rfl
  | 4,_=>
   have w1:¬ (wordS 4=Str.ofString "fill"):=by decide +kernel
   have w2:¬ (wordS 4=Str.ofString "copy"):=by decide +kernel
   have w3:¬ (wordS 4=Str.ofString "swap"):=by decide +kernel
   have w4:wordS 4=Str.ofString "raise":=rfl
   have rl:(readL vals (cellsL f1 A1)).length<=64:=by have:=r1 ();omega
   have rl2:(readL vals (cellsL f2 A2)).length=(readL vals (cellsL f1 A1)).length:=by rw [r1 (),r2 ()];exact ce ()
   have zw:=zw_range (readL vals (cellsL f1 A1)) (readL vals (cellsL f2 A2)) rl2
   have hlc:=r1 ()
   exists zw
   exists rl2
   exists hlc
   have kk:∀ (H':Hp),Ext H H'->H' F=some (.lst ((putL vals (cellsL f1 A1) (List.zipWith (· + ·) (readL vals (cellsL f1 A1)) (readL vals (cellsL f2 A2)))).map V.int))->Q (.ref F) H':=λ H' a b=>k () F H' hF a b
   exists kk
   clear k
   generalize readL vals (cellsL f1 A1)=as at *
   generalize readL vals (cellsL f2 A2)=bs at *
   ac_rfl
   refine ⟨by omega,by omega,?_⟩
   refine comp_fm (List.range as.length) (λ _=>true) (λ j=>.int (as.getD j 0+bs.getD j 0)) (λ j x H'=>x=.int (0+(j:Nat))) wk_rng.1 wk_rng.2 (len5000 (by rw [List.length_range];omega)) ?_ ?_
   ·intro D j x H' N1 N0 hj hD e hx j1 _
    subst hx
    have hjl:=List.mem_range.mp hj
    have ga:atI (as.map V.int) (0+(j:Int))=some (.int (as.getD j 0)):=by
     rw [Int.zero_add];exact atI_nat (by rw [List.getElem?_map,List.getD_eq_getElem?_getD,List.getElem?_eq_getElem hjl];rfl)
    have gb:atI (bs.map V.int) (0+(j:Int))=some (.int (bs.getD j 0)):=by
     rw [Int.zero_add];exact atI_nat (by rw [List.getElem?_map,List.getD_eq_getElem?_getD,List.getElem?_eq_getElem (by have:=rl2 ();omega)];rfl)
    have ha':=e.at h2_3
    have hb':=e.at h3
    have j1':=j1 rfl H' (Ext.refl _)
    clear j1 hj h2_3 h3
    generalize as.getD j 0=x1 at *
    generalize bs.getD j 0=x2 at *
    simp! only [↓m_kCm_1,↓m_kCm2]
   intro L H4 hL e4 hL4
   have hL4':H4 L=some (.lst ((List.zipWith (· + ·) as bs).map V.int)):=by
    rw [hL4,filt,←zw (),List.map_map]
    rfl
   have hF4:=e4.at hF3
   have nLF:L ≠ F:=λ e=>by rw [e,hF3] at hL;cases hL
   have e04:=e03.trans e4
   clear hL4 hF3 h2_3 h3
   ac_rfl
   rw [c_spPut2]
   refine ⟨vals,_,n,f1,A1,hF4,(hp1 ()).ext e04,k1,hn (),hL4',nLF,by rw [List.length_zipWith,rl2 (),Nat.min_self];exact hlc (),λ H5 g1 g2 g3=>?_⟩
   have kf:=kk () H5 (g1 H e04 hF) g3
   clear kk
   ac_rfl
def NmV (n:Int) (p:NVw) (y:V) (H:Hp):Prop:=∃ q qp,y=.ref q/\H q=some (.tup [.str p.nm,.ref qp])/\PtAt H qp n p.f p.A
theorem NmV.ext {n:Int}{p:NVw}{y:V}{H H':Hp}(h:NmV n p y H) (e:Ext H H'):NmV n p y H':=by
 obtain ⟨q,qp,h1,h2,h3⟩:=h
 exact ⟨q,qp,h1,e.at h2,h3.ext e⟩
def PksOk (n:Int) (nv:List NVw):Prop:=∀ p∈nv,PtOk n p.f p.A
theorem read_chg {vals vals2:List Int}{p:NVw}:decide (readL vals (cellsL p.f p.A)=readL vals2 (cellsL p.f p.A)) = !chgB vals2 vals p:=by
 unfold chgB readL
 have aux:∀ cs:List Int,decide (cs.map (λ c=>vals.getD c.toNat 0)=cs.map λ c=>vals2.getD c.toNat 0) = !(cs.any λ c=>decide (vals2.getD c.toNat 0 ≠ vals.getD c.toNat 0)):=by
  intro cs
  induction cs with
  | nil=>rfl
  | cons c r ih=>
   rw [List.map_cons,List.map_cons,List.any_cons,Bool.not_or,←ih]
   by_cases hc:vals.getD c.toNat 0=vals2.getD c.toNat 0
   ·rw [hc];simp
   ·have h2:¬ (vals2.getD c.toNat 0=vals.getD c.toNat 0):=λ e=>hc e.symm
    simp only [List.cons.injEq,hc,h2,ne_eq,not_false_eq_true,decide_true,Bool.not_true,Bool.false_and,false_and,decide_false]
 exact aux _
abbrev B_spOth  (L:Addr) (p:Addr) (b:Addr) (H:Hp) (Q:VK) (E:XK):Prop:=∃ (vals vals2:List Int) (nv:List NVw) (ys:List V) (n:Int),H L=some (.lst ys)/\Al (λ p y=>NmV n p y H) nv ys/\H p=some (.lst (vals.map V.int))/\H b=some (.lst (vals2.map V.int))/\n=vals.length/\vals2.length=vals.length/\n<=60/\nv.length<=100/\PksOk n nv/\∀ (r:Addr) (H':Hp),H r=none->Ext H H'->H' r=some (.lst (chgN vals2 vals nv))->Q (.ref r) H'
def spOth  : Sp:=λ vs H Q E=>∃ (L:Addr) (p:Addr) (b:Addr),vs=[.ref L,.ref p,.ref b]/\(B_spOth  L p b H Q E)
theorem c_spOth  (L:Addr) (p:Addr) (b:Addr) (H:Hp) (Q:VK) (E:XK):spOth  [.ref L,.ref p,.ref b] H Q E=(B_spOth  L p b H Q E):=spx3 (f:=λ (L:Addr) (p:Addr) (b:Addr)=>[.ref L,.ref p,.ref b]) (λ _ _ _ _ _ _ h=>by cases h;exact ⟨rfl,rfl,rfl⟩) L p b
theorem l_spOth  {vs:List V}{H:Hp}{Q:VK}{E:XK}(h:spOth  vs H Q E):vs.length=3:=spl3 h λ _ _ _=>rfl
theorem ok__law_others (T:Tx K mg t):FnOk P w K mg base CX0 3 t.a__law_others t.d__law_others ["_law_names", "_law_before", "_law_behind"] spOth:=by
 have G__law_read:=%[ok__law_read|36]
 refine T.F__law_others.ok c__law_others (λ vs H Q E h=>l_spOth h) (λ cdv A' outer s0 H vs Q E hr h=>?_)
 ·obtain ⟨L,p,b,rfl,vals,vals2,nv,ys,n,hL,al,hp,hb,hn,hl2,n60,n100,hpk,k⟩:=h
  refine ⟨_,%[%[%[(["_law_name", "_law_parts_here", "_law_names", "_law_before", "_law_behind"]),(2),(comp_ok (defScope s__law_others) ["_law_names", "_law_before", "_law_behind"] rfl rfl nofun),rfl,%[%[0|0]|22],(λ C s₀ H₀ ex pn=>(%[(2),rfl,%[%[(0),_,(show List.Nodup (["_law_name", "_law_parts_here", "_law_names", "_law_before", "_law_behind"]:List Str) from by decide +kernel),rfl,(Or.inl rfl),%[0|7]|19],%[%[(1),_,(show List.Nodup (["_law_name", "_law_parts_here", "_law_names", "_law_before", "_law_behind"]:List Str) from by decide +kernel),rfl,(Or.inl rfl),%[0|7]|19],(@pgs_nilN _),∅|18],∅|18],∅,∅|28].mono λ _ _ _ _ h=>gTup_q h)),(λ C s₀ H₀ ex pn=>(@pts_one _ _ _ %[(op_qNe hr.units),%[_law_read,%[%[3|0],%[%[1|0]|1]|1]|3],%[_law_read,%[%[4|0],%[%[1|0]|1]|1]|3],(nomark _)|17])),(λ C s₀ H₀ ex pn=>%[0|0]),(by intros;rfl)|24]|12]|10],?_⟩
  rw [show start ["_law_names", "_law_before", "_law_behind"] [.ref L,.ref p,.ref b]=[some (.ref L),some (.ref p),some (.ref b)] from rfl]
  clear G__law_read
  exists k
  exists hpk
  exists hn
  ac_rfl
  have wk:=wk_al (K:=K) (R:=NmV n) (λ _ _ _ _ h e=>h.ext e) hL al
  refine comp_fm nv (chgB vals2 vals) (λ p=>.str p.nm) (NmV n) wk.1 wk.2 (len5000 %[0|8]) ?_ ?_
  ·intro D pv x H' N1 N0 hpv hD e ⟨q,qp,hx,hq,hpt⟩ k1 k0
   subst hx
   have pk:=hpk () pv hpv
   have hp1:=e.at hp
   have hb1:=e.at hb
   exists hpt
   exists k1
   exists k0
   clear k hpv hL al wk hp hb
   simp! only [↓m_kCm_2,↓m_kCm2]
   rw [c_spRead2]
   refine ⟨vals,n,pv.f,pv.A,hp1,hpt (),pk,hn (),λ r1 H1 hr1 e1 h1=>?_⟩
   have hb2:=e1.at hb1
   clear hp1 hb1 hq
   ac_rfl
   rw [c_spRead2]
   refine ⟨vals2,n,pv.f,pv.A,hb2,(hpt ()).ext e1,pk,by rw [hl2];exact hn (),λ r2 H2 hr2 e2 h2=>?_⟩
   have h1_2:=e2.at h1
   have eq:=eqvAll_ints (readL vals (cellsL pv.f pv.A)) (readL vals2 (cellsL pv.f pv.A))
   rw [read_chg] at eq
   clear h1 hb2
   cases hc:chgB vals2 vals pv with
   | true=>
    rw [hc] at eq
    have k1':N1 (.str pv.nm) H2:=k1 () hc H2 (e1.trans e2)
    clear k1 k0 hc
    ac_rfl
   | false=>
    rw [hc] at eq
    have k0':=k0 () hc H2 (e1.trans e2)
    clear k1 k0 hc
    ac_rfl
  intro D H1 hD e1 hD'
  exact k () D H1 hD e1 hD'
def TQ (Q:VK):VK:=λ v H=>∀ (tq:Addr) (H':Hp),H tq=none->Ext H H'->H' tq=some (.tup [.str "told",v])->Q (.ref tq) H'
def TE (Q:VK) (H:Hp):Prop:=∀ (tq lq:Addr) (H':Hp),Ext H H'->H' tq=some (.tup [.str "deed",.ref lq])->H' lq=some (.lst [.bl true,.bl true])->Q (.ref tq) H'
def ToldC (t:Adr) (H:Hp) (Q:VK) (h:Addr) (x:V):Prop:=
 (x=.non/\∃ (B:Hp) (st l D Pp:Addr) (vals:List Int) (nv:List NVw) (ps:List V),HallB t B h st l D Pp nv/\Ext B H/\H l=some (.lst (vals.map V.int))/\H Pp=some (.lst ps)/\ps.length<=100/\1<=vals.length/\vals.length<=4096/\VwsAt t.a_View B vals.length nv/\((ps=[]/\TE Q H)\/BackQ t B H l Pp vals nv ps (TQ Q))) \/
 (∃ s,x=.ref s/\spHDo t [.ref h,.ref s] H (TQ Q) E0)
def spTold (t:Adr):Sp:=λ vs H Q E=>∃ (h:Addr) (x:V),vs=[.ref h,x]/\(ToldC t H Q h x)
theorem c_spTold (t:Adr) (h:Addr) (x:V) (H:Hp) (Q:VK) (E:XK):spTold t [.ref h,x] H Q E=(ToldC t H Q h x):=spx2 (f:=λ (h:Addr) (x:V)=>[.ref h,x]) (λ _ _ _ _ h=>by cases h;exact ⟨rfl,rfl⟩) h x
theorem l_spTold (t:Adr){vs:List V}{H:Hp}{Q:VK}{E:XK}(h:spTold t vs H Q E):vs.length=2:=spl2 h λ _ _=>rfl
theorem ok__law_told (T:Tx K mg t):FnOk P w K mg base CX0 11 t.a__law_told t.d__law_told ["_law_hall", "_law_statement_here"] (spTold t):=by
 have G_Hall_back:=%[okB_Hall_back|36]
 have G_Hall_do:=%[ok_Hall_do|36]
 refine T.F__law_told.ok c__law_told (λ vs H Q E h=>l_spTold _ h) (λ cdv A' outer s0 H vs Q E hr h=>?_)
 ·obtain ⟨h,x,rfl,hc⟩:=h
  have hx1:=T.x_NoDeed_NoDeed
  have c1:=T.cl_Hall
  refine ⟨_,%[%[2,c__law_told,(@pe_non _ _ _)|4],%[(@ps_try _ _ _ _ _ _ _ ⟨rfl,rfl,rfl⟩ (λ EX E pn hx=>%[%[%[op_qIs,%[1|0],(@pe_non _ _ _),(nomark _)|17],%[%[2,c__law_told,(@pe_nMethX0 _ _ _ _ _ _ _ _ _ _ _ _ _ _ _ _ _ %[0|0] T.cl_Hall T.mt_Hall_back G_Hall_back (hr.mono ⋯) T.b_Hall_back .nil hx ∅)|4]|10],%[%[2,c__law_told,%[%[0|0],T.cl_Hall,T.mt_Hall_do,G_Hall_do,(hr.mono ⋯),T.b_Hall_do,.nil,pass0,%[%[1|0]|1],∅,∅,∅|21]|4]|10]|16]|10]) (@phs_as _ _ _ (3) _ _ _ _ _ _ _ _ c__law_told.nd rfl rfl ∅ (.inl T.m_NoDeed) (λ ee=>%[%[%[%[(@pe_str _ _ _ _),%[%[%[%[isinstance,(call_qIsE' (K:=K) rfl),%[%[3|0],%[(@pe_glob _ _ (.ref t.a_PaceError) _ _ ∅ T.m_PaceError rfl ⋯)|1]|1]|6],%[%[isinstance,(call_qIsE' (K:=K) rfl),%[%[3|0],%[(@pe_bltn _ _ (.ty "ValueError") (.type "ValueError") _ ∅ T.z_ValueError nofun rfl ⋯ ⋯)|1]|1]|6]|1]|1]|25]|1]|1]|29]|12]|10]) (@phs_nil _) ⋯)),%[%[%[%[(@pe_str _ _ _ _),%[%[2|0]|1]|1]|29]|12]|10]|9]|9],?_⟩
  rw [show start ["_law_hall", "_law_statement_here", "_law_found", "e"] [.ref h,x]=[some (.ref h),some (x),none,none] from rfl]
  clear G_Hall_back G_Hall_do
  rcases hc with ⟨rfl,B,st,l,D,Pp,vals,nv,ps,hb,eB,hl,hP,hp1,hv1,hv4,hvw,hq⟩|⟨s,rfl,hdo⟩
  ·obtain ⟨dxh,hh⟩:=hb.ob
   have hh0:=eB.at hh
   have f3':=hallF_no st D Pp (m := "back") nofun
   exists hq
   exists hvw
   ac_rfl
   rw [c_spHBack]
   refine ⟨B,st,l,D,Pp,vals,nv,ps,hb,eB,hl,hP,hp1,hv1,hv4,hvw (),?_⟩
   rcases hq () with ⟨rfl,te⟩|⟨ps',q,ws,rfl,hq1,hwl,k⟩
   ·refine .inl ⟨rfl,λ H1 e1=>?_⟩
    clear hb eB hl hP hh hh0 hq hvw
    exists te
    ac_rfl
    intro e oe he hcl hdc hdat
    have g4:(upd H1 e (excO oe)) e=some (excO oe):=upd_same
    have e3:Ext H (upd H1 e (excO oe)):=e1.trans (Ext.new he)
    generalize upd H1 e (excO oe)=H3 at e3 g4
    clear he
    simp! only [T.e_NoDeed,T.k_NoDeed_PaceError,T.k_NoDeed_ValueError]
    intro lq H4 _ e4 h4
    clear g4
    ac_rfl
    intro tq H5 _ e5 h5
    exact te () tq lq H5 (e3.trans (e4.trans e5)) h5 (e5.at h4)
   ·refine .inr ⟨ps',q,ws,rfl,hq1,hwl,λ r H1 a1 a2 a3 a4 a5 a6=>?_⟩
    have kf:=k r H1 a1 a2 a3 a4 a5 a6
    exists kf
    clear k hb eB hl hP hh hh0 hq hvw a1 a2 a3 a4 a5 a6
    ac_rfl
    intro tq H2 htq e2 h2
    exact kf () tq H2 htq e2 h2
  ·rw [c_spHDo] at hdo
   obtain ⟨B,st,l,D,Pp,vals,nv,ps,i,u,v,dx,z,f1,A1,f2,A2,hb,eB,hl,hP,hp100,hv4,hvw,hi,hs,w1,w2,hpe,k⟩:=hdo
   obtain ⟨dxh,hh⟩:=hb.ob
   have hh0:H h=some (.ins t.a_Hall dxh (hallF st D Pp)):=eB.at hh
   have f3':=hallF_no st D Pp (m := "do") nofun
   exists k
   exists hvw
   exists hs
   exists hpe
   exists hl
   exists hP
   clear hh
   ac_rfl
   rw [c_spHDo]
   refine ⟨B,st,l,D,Pp,vals,nv,ps,i,u,v,dx,z,f1,A1,f2,A2,hb,eB,hl (),hP (),hp100,hv4,hvw (),hi,hs (),w1,w2,hpe (),λ r b H1 a1 a2 a3 a4 a5 a6 a7 a8 a9=>?_⟩
   have kf:=k () r b H1 a1 a2 a3 a4 a5 a6 a7 a8 a9
   exists kf
   clear k hb eB hl hP hh0 hvw a1 a2 a3 a4 a5 a6 a7 a8 a9 w1 w2 hs hpe
   ac_rfl
   intro tq H2 htq e2 h2
   exact kf () tq H2 htq e2 h2
def StOk (ns:List Str):Prop:=∀ x∈ns,PyData.strOk x=true
theorem allSome_strs (H:Hp) (f:V->Option PyData):∀ ns:List Str,StOk ns->allSome ((ns.map V.str).map (datF H f))=some (ns.map PyData.str)
 | [],_=>rfl
 | n::ns,h=>by
  have ih:=allSome_strs H f ns λ x hx=>h x (List.mem_cons_of_mem _ hx)
  have hn:datF H f (V.str n)=some (PyData.str n):=by
   show (if PyData.strOk n=true then some (PyData.str n) else none)=_
   rw [if_pos (h n List.mem_cons_self)]
  rw [List.map_cons,List.map_cons,hn]
  show (allSome ((ns.map V.str).map (datF H f))).map _=_
  rw [ih];rfl
theorem eqv_strs:∀ bs:List Str,PyData.eqvAll (bs.map PyData.str) (bs.map PyData.str)=true
 | []=>by simp only [List.map_nil,PyData.eqvAll]
 | b::r=>by
  simp only [List.map_cons,PyData.eqvAll]
  rw [eqv_strs r]
  simp [PyData.eqv]
def spRight  : Sp:=λ vs H Q E=>∃ (f:Addr) (d:Addr),vs=[.ref f,.ref d]/\((∃ (r r2:Addr) (ns:List Str),H f=some (.tup [.str "told",.ref r])/\H d=some (.tup [.str "told",.ref r2])/\H r=some (.lst (ns.map V.str))/\H r2=some (.lst (ns.map V.str))/\ns.length<=100/\StOk ns/\∀ H',(∀ H0,Ext H0 H->H0 r=none->Ext H0 H')->(∀ b o,b ≠ r->H b=some o->H' b=some o)->Q (.bl true) H')\/(∃ (r r2:Addr),H f=some (.tup [.str "deed",.ref r])/\H d=some (.tup [.str "deed",.ref r2])/\H r=some (.lst [.bl true,.bl true])/\H r2=some (.lst [.bl true,.bl true])/\Q (.bl true) H))
theorem c_spRight  (f:Addr) (d:Addr) (H:Hp) (Q:VK) (E:XK):spRight  [.ref f,.ref d] H Q E=((∃ (r r2:Addr) (ns:List Str),H f=some (.tup [.str "told",.ref r])/\H d=some (.tup [.str "told",.ref r2])/\H r=some (.lst (ns.map V.str))/\H r2=some (.lst (ns.map V.str))/\ns.length<=100/\StOk ns/\∀ H',(∀ H0,Ext H0 H->H0 r=none->Ext H0 H')->(∀ b o,b ≠ r->H b=some o->H' b=some o)->Q (.bl true) H')\/(∃ (r r2:Addr),H f=some (.tup [.str "deed",.ref r])/\H d=some (.tup [.str "deed",.ref r2])/\H r=some (.lst [.bl true,.bl true])/\H r2=some (.lst [.bl true,.bl true])/\Q (.bl true) H)):=spx2 (f:=λ (f:Addr) (d:Addr)=>[.ref f,.ref d]) (λ _ _ _ _ h=>by cases h;exact ⟨rfl,rfl⟩) f d
theorem l_spRight  {vs:List V}{H:Hp}{Q:VK}{E:XK}(h:spRight  vs H Q E):vs.length=2:=spl2 h λ _ _=>rfl
theorem ok__law_right (T:Tx K mg t):FnOk P w K mg base CX0 1 t.a__law_right t.d__law_right ["_law_found", "_law_due"] spRight:=by
 refine T.F__law_right.ok c__law_right (λ vs H Q E h=>l_spRight h) (λ cdv A' outer s0 H vs Q E hr h=>?_)
 ·obtain ⟨f,d,rfl,hc⟩:=h
  refine ⟨_,%[%[%[(op_qNe hr.units),%[0|0],%[1|0],(nomark _)|17],%[%[(@pe_bl _ _ _ _)|12]|10],(@pss_nil _)|16],%[%[%[(op_qEq hr.units),%[ix_q,%[0|0],%[0|2],(λ _ _=>rfl)|15],(@pe_str _ _ _ _),(nomark _)|17],%[%[(@pt_not _ _ _ _ (@pt_valN _ _ _ %[isinstance,call_qIsi,%[%[ix_q,%[0|0],%[0|2],(λ _ _=>rfl)|15],%[(@pe_bltn _ _ (.ty "list") (.type "list") _ ∅ T.z_list nofun rfl ⋯ ⋯)|1]|1]|6] (by intros;rfl))),%[%[(@pe_bl _ _ _ _)|12]|10],(@pss_nil _)|16],%[%[%[PySem.F.plainAttrs_list,PySem.F.slot_list_append,PySem.F.type_list_append,mt_append,%[ix_q,%[0|0],%[0|2],(λ _ _=>rfl)|15],%[(@pe_str _ _ _ _)|1],∅,∅,∅,∅,∅|30],∅|13]|10]|9],(@pss_nil _)|16],%[%[(@pe_bl _ _ _ _)|12]|10]|9]|9],?_⟩
  rw [show start ["_law_found", "_law_due"] [.ref f,.ref d]=[some (.ref f),some (.ref d)] from rfl]
  have so1:PyData.strOk (Str.ofString "told")=true:=by decide +kernel
  have so2:PyData.strOk (Str.ofString "deed")=true:=by decide +kernel
  have bq1:(Str.ofString "told" == Str.ofString "told")=true:=by decide +kernel
  have bq2:(Str.ofString "deed" == Str.ofString "deed")=true:=by decide +kernel
  have ne1:¬ (Str.ofString "deed"=Str.ofString "told"):=by decide +kernel
  rcases hc with ⟨r,r2,ns,hf,hd,h1,h2,hl,hso,k⟩|⟨r,r2,hf,hd,h1,h2,k⟩
  ·have a1:=λ g=>allSome_strs H g ns hso
   clear hso
   have a2:=eqv_strs ns
   have hls:ns.length < sizeLine:=lt5000 %[0|8]
   exists k
   ac_rfl
   have k2:=k () (upd H r (.lst (ns.map V.str++[.str "z"]))) (λ H0 q0 q1=>q0.put q1) (λ b o hb hbo=>by rw [upd_ne hb];exact hbo)
   clear k
   ac_rfl
  ·ac_rfl
abbrev B_spHNames (t:Adr) (h:Addr) (H:Hp) (Q:VK) (E:XK):Prop:=∃ (st l D Pp:Addr) (vals:List Int) (nv:List NVw) (ps:List V),HallAt t H h st l D Pp vals nv ps/\nv.length<=100/\∀ (r:Addr) (H':Hp),H r=none->Ext H H'->H' r=some (.lst ((nv.map NVw.nm).map V.str))->Q (.ref r) H'
def spHNames (t:Adr):Sp:=λ vs H Q E=>∃ (h:Addr),vs=[.ref h]/\(B_spHNames t h H Q E)
theorem c_spHNames (t:Adr) (h:Addr) (H:Hp) (Q:VK) (E:XK):spHNames t [.ref h] H Q E=(B_spHNames t h H Q E):=spx1 (f:=λ (h:Addr)=>[.ref h]) (λ _ _ h=>by cases h;exact rfl) h
theorem l_spHNames (t:Adr){vs:List V}{H:Hp}{Q:VK}{E:XK}(h:spHNames t vs H Q E):vs.length=1:=spl1 h λ _=>rfl
theorem nvD_keys (nv:List NVw):(nvD nv).map (λ z=>kV z.1)=(nv.map NVw.nm).map V.str:=by
 unfold nvD
 rw [List.map_map,List.map_map]
 rfl
theorem ok_Hall_names (T:Tx K mg t):FnOk P w K mg base CX0 1 t.a_Hall_names t.d_Hall_names ["self"] (spHNames t):=by
 refine T.F_Hall_names.ok c_Hall_names (λ vs H Q E h=>l_spHNames _ h) (λ c A o s H vs Q E hr h=>?_)
 ·obtain ⟨h,rfl,st,l,D,Pp,vals,nv,ps,ha,hl,k⟩:=h
  have c1:=T.cl_Hall
  have c2:=T.na_Hall_views
  have f1:=hallF_views st D Pp
  obtain ⟨⟨dx,h1⟩,_,h3,_⟩:=ha
  refine ⟨_,%[%[%[(call_qListD rfl),∅,T.z_list,nofun,%[%[%[0|0],rfl|14]|1],⋯,⋯,∅,∅|35]|12]|10],?_⟩
  rw [show start ["self"] [.ref h]=[some (.ref h)] from rfl]
  exists k
  ac_rfl
  refine use_listD h3 (len5000 (by unfold nvD;rw [List.length_map];omega)) ?_
  rw [nvD_keys]
  clear h3
  intro r H1 hr1 e1 hr
  exact k () r H1 hr1 e1 hr
theorem cut_upd {S:List Addr}{H:Hp}{p:Addr}{o:HO}(h:p∈S):CutS S (upd H p o)=CutS S H:=by
 funext b
 unfold CutS
 by_cases hb:b∈S
 ·rw [if_pos hb,if_pos hb]
 ·rw [if_neg hb,if_neg hb,upd_ne (λ e=>hb (by rw [e];exact h))]
theorem cut_into {S:List Addr}{H H':Hp}(e:Ext (CutS S H) H'):Ext (CutS S H) (CutS S H'):=Same.ext λ b o h=>by
 have hb:b ∉ S:=λ hb=>by rw [cut_none hb] at h;cases h
 have:=e.at h
 unfold CutS
 rw [if_neg hb]
 exact this
theorem al_snoc_inv {α:Type}{R:α->V->Prop}{zs:List α}{z:α}{ys:List V}(h:Al R (zs++[z]) ys):∃ ys1 y,ys=ys1++[y]/\Al R zs ys1/\R z y:=by
 obtain ⟨hl,hr⟩:=h
 rw [List.length_append] at hl
 have hn:ys ≠ []:=λ e=>by rw [e] at hl;simp at hl
 refine ⟨ys.dropLast,ys.getLast hn,(List.dropLast_concat_getLast hn).symm,⟨by rw [List.length_dropLast,hl];simp,λ i x y hx hy=>?_⟩,?_⟩
 ·have hi:i < zs.length:=(List.getElem?_eq_some_iff.mp hx).1
  refine hr i x y (by rw [List.getElem?_append_left hi];exact hx) ?_
  rw [List.getElem?_dropLast] at hy
  split at hy
  ·exact hy
  ·cases hy
 ·refine hr zs.length z _ (by rw [List.getElem?_append_right (Nat.le_refl _)];simp) ?_
  rw [List.getLast_eq_getElem,List.getElem?_eq_getElem (by simp at hl;omega)]
  congr 1
  congr 1
  simp at hl;omega
def RowL (B:Hp) (rows:List (List Int)) (rs:List V):Prop:=Al (λ (row:List Int) y=>∃ q,y=.ref q/\B q=some (.lst (row.map V.int))) rows rs
theorem RowL.ext {B B':Hp}{rows:List (List Int)}{rs:List V}(h:RowL B rows rs) (e:Ext B B'):RowL B' rows rs:=h.imp λ _ _ ⟨q,a,b⟩=>⟨q,a,e.at b⟩
theorem HallB.ext {t:Adr}{B B':Hp}{h st l D Pp:Addr}{nv:List NVw}(a:HallB t B h st l D Pp nv) (e:Ext B B') (n1:B' l=none) (n2:B' Pp=none):HallB t B' h st l D Pp nv:=by
 obtain ⟨⟨dx,h1⟩,⟨dy,h2⟩,h3,_,_,h6,h7,h8⟩:=a
 exact ⟨⟨dx,e.at h1⟩,⟨dy,e.at h2⟩,e.at h3,n1,n2,h6,h7,h8⟩
structure DayI (t:Adr) (H0 H':Hp) (h st l D Pp W NL:Addr) (n:Nat) (nv:List NVw) (ys:List V) (old:List (List Int)) (last:List Int) (rs ps:List V):Prop where
 e0:Ext H0 H'
 hb:HallB t (CutS [l,Pp,W] H') h st l D Pp nv
 vw:VwsAt t.a_View (CutS [l,Pp,W] H') n nv
 nl:CutS [l,Pp,W] H' NL=some (.lst ys)
 nm:Al (λ p y=>NmV (n:Int) p y (CutS [l,Pp,W] H')) nv ys
 hl:H' l=some (.lst (last.map V.int))
 hP:H' Pp=some (.lst ps)
 hW:H' W=some (.lst rs)
 rw':RowL (CutS [l,Pp,W] H') (old++[last]) rs
 pw:RowL (CutS [l,Pp,W] H') old ps
 ln:∀ row∈old++[last],row.length=n
 nW:l ≠ W/\Pp ≠ W
 fr:H0 l=none/\H0 Pp=none/\H0 W=none
theorem DayI.lst {t:Adr}{H0 H':Hp}{h st l D Pp W NL:Addr}{n:Nat}{nv:List NVw}{ys:List V}{old:List (List Int)}{last:List Int}{rs ps:List V}(d:DayI t H0 H' h st l D Pp W NL n nv ys old last rs ps):LstS [l,Pp,W] H':=λ s hs=>by
 simp only [List.mem_cons,List.not_mem_nil,or_false] at hs
 rcases hs with rfl|rfl|rfl
 ·exact ⟨_,d.hl⟩
 ·exact ⟨_,d.hP⟩
 ·exact ⟨_,d.hW⟩
theorem DayI.move {t:Adr}{H0 H' H'':Hp}{h st l D Pp W NL:Addr}{n:Nat}{nv:List NVw}{ys:List V}{old:List (List Int)}{last:List Int}{rs ps:List V}(d:DayI t H0 H' h st l D Pp W NL n nv ys old last rs ps) (e:Ext H' H''):DayI t H0 H'' h st l D Pp W NL n nv ys old last rs ps:=
 have c:=cut_ext (S:=[l,Pp,W]) e
 ⟨d.e0.trans e,d.hb.ext c (cut_none (by simp)) (cut_none (by simp)),d.vw.ext c,c.at d.nl,d.nm.imp λ _ _ q=>q.ext c,e.at d.hl,e.at d.hP,e.at d.hW,d.rw'.ext c,d.pw.ext c,d.ln,d.nW,d.fr⟩
theorem DayI.next {t:Adr}{H0 H' H'':Hp}{h st l D Pp W NL:Addr}{n:Nat}{nv:List NVw}{ys:List V}{old old':List (List Int)}{last last':List Int}{rs ps rs' ps':List V}(d:DayI t H0 H' h st l D Pp W NL n nv ys old last rs ps)
  (e:Ext (CutS [l,Pp,W] H') H'') (e0:Ext H0 H'') (hl:H'' l=some (.lst (last'.map V.int))) (hP:H'' Pp=some (.lst ps')) (hW:H'' W=some (.lst rs')) (r1:RowL (CutS [l,Pp,W] H'') (old'++[last']) rs') (r2:RowL (CutS [l,Pp,W] H'') old' ps') (ln:∀ row∈old'++[last'],row.length=n) :
  DayI t H0 H'' h st l D Pp W NL n nv ys old' last' rs' ps':=
 have c:=cut_into e
 ⟨e0,d.hb.ext c (cut_none (by simp)) (cut_none (by simp)),d.vw.ext c,c.at d.nl,d.nm.imp λ _ _ q=>q.ext c,hl,hP,hW,r1,r2,ln,d.nW,d.fr⟩
theorem ints_of {zs:List Nat}:∀ {ys:List V},(∀ y∈ys,∃ v:Int,y=.int v)->∃ vs:List Int,ys=vs.map V.int
 | [],_=>⟨[],rfl⟩
 | y::r,h=>by
  obtain ⟨v,rfl⟩:=h y List.mem_cons_self
  obtain ⟨vs,rfl⟩:=ints_of (zs:=zs) λ y hy=>h y (List.mem_cons_of_mem _ hy)
  exact ⟨v::vs,rfl⟩
def nmK (k:Nat):Str:=repS ⟨#[97+k]⟩ (1+(k:Int) % 3)
theorem abc_at:∀ k:Nat,k < 6->atI (Str.ofString "abcdef").cps.toList (0+(k:Int))=some (97+k)
 | 0,_=>by decide +kernel
 | 1,_=>by decide +kernel
 | 2,_=>by decide +kernel
 | 3,_=>by decide +kernel
 | 4,_=>by decide +kernel
 | 5,_=>by decide +kernel
 | n+6,h=>absurd h %[0|8]
theorem nmK_ok:∀ k:Nat,k < 6->NameOk (nmK k)/\PyData.strOk (nmK k)=true
 | 0,_=>⟨⟨by decide +kernel,by decide +kernel,by decide +kernel,by decide +kernel⟩,by decide +kernel⟩
 | 1,_=>⟨⟨by decide +kernel,by decide +kernel,by decide +kernel,by decide +kernel⟩,by decide +kernel⟩
 | 2,_=>⟨⟨by decide +kernel,by decide +kernel,by decide +kernel,by decide +kernel⟩,by decide +kernel⟩
 | 3,_=>⟨⟨by decide +kernel,by decide +kernel,by decide +kernel,by decide +kernel⟩,by decide +kernel⟩
 | 4,_=>⟨⟨by decide +kernel,by decide +kernel,by decide +kernel,by decide +kernel⟩,by decide +kernel⟩
 | 5,_=>⟨⟨by decide +kernel,by decide +kernel,by decide +kernel,by decide +kernel⟩,by decide +kernel⟩
 | n+6,h=>absurd h %[0|8]
theorem nmK_new:∀ i:Nat,i < 6->nmK i ∉ (List.range i).map nmK
 | 0,_=>by decide +kernel
 | 1,_=>by decide +kernel
 | 2,_=>by decide +kernel
 | 3,_=>by decide +kernel
 | 4,_=>by decide +kernel
 | 5,_=>by decide +kernel
 | n+6,h=>absurd h %[0|8]
theorem cutD_obj {B:Hp}{D b:Addr}{kvs:List (Key × V)}{o:HO}(hD:B D=some (.dK kvs)) (h:B b=some o) (hn:∀ k,o ≠ .dK k):CutS [D] B b=some o:=by
 unfold CutS
 rw [if_neg]
 ·exact h
 ·intro hb
  rw [List.mem_singleton.mp hb,hD] at h
  cases h
  exact hn _ rfl
theorem TupsAt.cutD {B:Hp}{D p:Addr}{kvs:List (Key × V)}{zs:List (List Int)}(hD:B D=some (.dK kvs)) (h:TupsAt B p zs):TupsAt (CutS [D] B) p zs:=by
 obtain ⟨ys,h1,h2⟩:=h
 exact ⟨ys,cutD_obj hD h1 (λ _ h=>by cases h),h2.imp λ _ _ ⟨q,a1,a2⟩=>⟨q,a1,cutD_obj hD a2 (λ _ h=>by cases h)⟩⟩
theorem ViewAt.cutD {C:Addr}{B:Hp}{D v:Addr}{kvs:List (Key × V)}{room f:Int}{A:List (Int × Int)}(hD:B D=some (.dK kvs)) (h:ViewAt C B v room f A):ViewAt C (CutS [D] B) v room f A:=by
 obtain ⟨dx,l,h1,h2⟩:=h.ob
 exact ⟨⟨dx,l,cutD_obj hD h1 (λ _ h=>by cases h),TupsAt.cutD hD h2⟩⟩
theorem NmV.cutD {n:Int}{p:NVw}{y:V}{B:Hp}{D:Addr}{kvs:List (Key × V)}(hD:B D=some (.dK kvs)) (h:NmV n p y B):NmV n p y (CutS [D] B):=by
 obtain ⟨q,qp,h1,h2,D2,h3,h4⟩:=h
 exact ⟨q,qp,h1,cutD_obj hD h2 (λ _ h=>by cases h),D2,cutD_obj hD h3 (λ _ h=>by cases h),TupsAt.cutD hD h4⟩
theorem cut_at {S:List Addr}{H:Hp}{b:Addr}{o:HO}(hb:b ∉ S) (h:H b=some o):CutS S H b=some o:=by
 unfold CutS
 rw [if_neg hb]
 exact h
theorem cut_not {S:List Addr}{H:Hp}{b:Addr}{o:HO}(h:CutS S H b=some o):b ∉ S:=λ hb=>by rw [cut_none hb] at h;cases h
theorem nmK_nd':∀ i:Nat,i<=6->((List.range i).map nmK).Nodup
 | 0,_=>by decide +kernel
 | 1,_=>by decide +kernel
 | 2,_=>by decide +kernel
 | 3,_=>by decide +kernel
 | 4,_=>by decide +kernel
 | 5,_=>by decide +kernel
 | 6,_=>by decide +kernel
 | n+7,h=>absurd h %[0|8]
theorem keep_of {H H':Hp}{l Pp b:Addr}{o:HO}(eA:∀ H0,Ext H0 H->H0 l=none->H0 Pp=none->Ext H0 H') (n1:b ≠ l) (n2:b ≠ Pp) (h:H b=some o):H' b=some o:=by
 have e:=eA (CutS [l,Pp] H) (cut_sub _ _) (cut_none (by simp)) (cut_none (by simp))
 exact e.at (cut_at (by simp only [List.mem_cons,List.not_mem_nil,or_false,not_or];exact ⟨n1,n2⟩) h)
theorem chgN_strs (v o:List Int) (nv:List NVw):chgN v o nv=((nv.filter (chgB v o)).map NVw.nm).map V.str:=by
 unfold chgN
 rw [List.map_map]
 rfl
theorem StOk.flt {nv:List NVw}(h:StOk (nv.map NVw.nm)) (f:NVw->Bool):StOk ((nv.filter f).map NVw.nm):=λ x hx=>by
 obtain ⟨p,hp,rfl⟩:=List.mem_map.mp hx
 exact h _ (List.mem_map.mpr ⟨p,(List.mem_filter.mp hp).1,rfl⟩)
theorem ne_of2 {H:Hp}{a b:Addr}{o:HO}(h:H a=some o) (h':H b=none):a ≠ b:=λ e=>by rw [e,h'] at h;cases h
structure CalI (t:Adr) (H0 H':Hp) (h st l D Pp NL vl:Addr) (vals:List Int) (nv:List NVw) (ys:List V) (i:Nat):Prop where
 e0:Ext H0 H'
 hb:HallB t (CutS [NL,l,Pp] H') h st l D Pp nv
 hv:CutS [NL,l,Pp] H' vl=some (.lst (vals.map V.int))
 vw:VwsAt t.a_View (CutS [NL,l,Pp] H') vals.length nv
 nm:Al (λ p y=>NmV (vals.length:Int) p y (CutS [NL,l,Pp] H')) nv ys
 ok:PksOk (vals.length:Int) nv
 na:nv.map NVw.nm=(List.range i).map nmK
 hN:H' NL=some (.lst ys)
 hl:H' l=some (.lst (vals.map V.int))
 hP:H' Pp=some (.lst [])
 ne:NL ≠ l/\NL ≠ Pp
 fr:H0 l=none/\H0 D=none/\H0 Pp=none/\H0 NL=none
theorem CalI.lst {t:Adr}{H0 H':Hp}{h st l D Pp NL vl:Addr}{vals:List Int}{nv:List NVw}{ys:List V}{i:Nat}(d:CalI t H0 H' h st l D Pp NL vl vals nv ys i):LstS [NL,l,Pp] H':=λ s hs=>by
 simp only [List.mem_cons,List.not_mem_nil,or_false] at hs
 rcases hs with rfl|rfl|rfl
 ·exact ⟨_,d.hN⟩
 ·exact ⟨_,d.hl⟩
 ·exact ⟨_,d.hP⟩
theorem CalI.move {t:Adr}{H0 H' H'':Hp}{h st l D Pp NL vl:Addr}{vals:List Int}{nv:List NVw}{ys:List V}{i:Nat}(d:CalI t H0 H' h st l D Pp NL vl vals nv ys i) (e:Ext H' H''):CalI t H0 H'' h st l D Pp NL vl vals nv ys i:=
 have c:=cut_ext (S:=[NL,l,Pp]) e
 ⟨d.e0.trans e,d.hb.ext c (cut_none (by simp)) (cut_none (by simp)),c.at d.hv,d.vw.ext c,d.nm.imp λ _ _ q=>q.ext c,d.ok,d.na,e.at d.hN,e.at d.hl,e.at d.hP,d.ne,d.fr⟩
theorem CalI.len {t:Adr}{H0 H':Hp}{h st l D Pp NL vl:Addr}{vals:List Int}{nv:List NVw}{ys:List V}{i:Nat}(d:CalI t H0 H' h st l D Pp NL vl vals nv ys i):nv.length=i:=by
 have:=congrArg List.length d.na
 rw [List.length_map,List.length_map,List.length_range] at this
 exact this
abbrev B_spLaw (K:PySem.W.Frag) (a:Addr) (H:Hp) (Q:VK) (E:XK):Prop:=∃ ns:List Int,SqL K H a (ns.map V.int)/\ns.length<=63/\∀ H',Q (.bl true) H'
def spLaw (K:W.Frag):Sp:=λ vs H Q E=>∃ (a:Addr),vs=[.ref a]/\(B_spLaw K a H Q E)
theorem l_spLaw (K:W.Frag){vs:List V}{H:Hp}{Q:VK}{E:XK}(h:spLaw K vs H Q E):vs.length=1:=spl1 h λ _=>rfl
theorem ok_law (T:Tx K mg t):FnOk P w K mg base CX0 12 t.a_law t.d_law ["_law_script"] (spLaw K):=by
 refine T.F_law.ok c_law (λ vs H Q E h=>l_spLaw _ h) (λ cdv A' outer s H vs Q E hr h=>?_)
 ·obtain ⟨a,rfl,ns,hS,hl,kk⟩:=h
  have G__law_draw:=%[ok__law_draw|36] a ns
  have G__law_parts:=%[ok__law_parts|36]
  have G__law_view:=%[ok__law_view|36]
  have G__law_drawn:=%[ok__law_drawn|36]
  have G__law_done:=%[ok__law_done|36]
  have G__law_others:=%[ok__law_others|36]
  have G__law_right:=%[ok__law_right|36]
  have G__law_told:=%[ok__law_told|36]
  have G__law_statement:=%[ok__law_statement|36]
  have G_Hall___init__:=%[ok_Hall___init__|36]
  have G_Hall_call:=%[ok_Hall_call|36]
  have G_Hall_all_values:=%[ok_Hall_all_values|36]
  have G_Hall_names:=%[ok_Hall_names|36]
  have cH:=T.cl_Hall
  refine ⟨_,%[%[1,c_law,%[on_add,%[0|2],%[_law_draw,%[%[0|0],%[%[0|2],%[%[0|2]|1]|1]|1]|3]|11]|4],%[(@ps_set _ _ (2) _ _ _ _ c_law.nd rfl (Or.inr rfl) %[ix_q,%[%[%[0|2],%[%[0|2],%[%[on_pow,%[0|2],%[0|2]|11]|1]|1]|1]|25],%[_law_draw,%[%[0|0],%[%[0|2],%[%[0|2]|1]|1]|1]|3],(λ _ _=>rfl)|15] ∅ %[0|7]),%[(@ps_setC _ _ _ _ _ _ _ _ _ _ _ _ _ (["_law_j", "_law_script", "_law_room", "_law_most", "_law_values", "_law_hall", "_law_names", "_law_k", "_law_rows", "_law_cell", "_law_before", "_law_due", "_law_deed"]) (1) (3) _ c_law.nd rfl (Or.inl rfl) (comp_ok (defScope s_law) ["_law_script", "_law_room", "_law_most", "_law_values", "_law_hall", "_law_names", "_law_k", "_law_rows", "_law_cell", "_law_before", "_law_due", "_law_deed"] rfl rfl nofun) rfl %[∅,T.z_range,%[%[1|0]|1],∅|33] (λ C s₀ H₀ ex pn=>%[(0),_,(show List.Nodup (["_law_j", "_law_script", "_law_room", "_law_most", "_law_values", "_law_hall", "_law_names", "_law_k", "_law_rows", "_law_cell", "_law_before", "_law_due", "_law_deed"]:List Str) from by decide +kernel),rfl,(Or.inl rfl),%[0|7]|19]) (λ C s₀ H₀ ex pn=>(@pts_nil _)) (λ C s₀ H₀ ex pn=>%[on_mod,%[on_mulB,%[_law_draw,%[%[1|0],%[%[on_add,%[0|2],%[on_mod,%[0|0],%[0|2]|11]|11],%[%[on_mulB,%[3|0],%[0|2]|11]|1]|1]|1]|3],%[on_add,%[0|0],%[0|2]|11]|11],%[3|0]|11]) ∅ (by intros;rfl) %[0|7]),%[%[4,c_law,%[T.mk_Hall,G_Hall___init__,(hr.mono ⋯),∅,T.m_Hall,T.b_Hall___init__,.nil,pass0,%[%[3|0]|1],⋯,∅,∅|31]|4],%[%[5,c_law,%[(@pa_nil _)|25]|4],%[%[PassesOwn.never,rfl,%[∅,T.z_range,%[%[on_add,%[0|2],%[_law_draw,%[%[0|0],%[%[0|2],%[%[0|2]|1]|1]|1]|3]|11]|1],∅|33],%[6,c_law|5],%[%[%[PySem.F.plainAttrs_list,PySem.F.slot_list_append,PySem.F.type_list_append,mt_append,%[5|0],%[%[%[%[op_nMulS,%[ix_str,(@pe_str _ _ _ _),%[6|0],(λ _ _=>rfl)|15],%[on_add,%[0|2],%[on_mod,%[6|0],%[0|2]|11]|11]|11],%[%[_law_parts,%[%[_law_draw,%[%[0|0],%[%[on_add,%[0|2],%[6|0]|11],%[%[on_pow,%[0|2],%[0|2]|11]|1]|1]|1]|3],%[%[1|0]|1]|1]|3]|1]|1]|29]|1],∅,∅,∅,∅,∅|30],∅|13],%[%[%[%[4|0],T.cl_Hall,T.mt_Hall_call,G_Hall_call,(hr.mono ⋯),T.b_Hall_call,.nil,pass0,%[%[ix_q,%[ix_q,%[5|0],(@pe_un _ _ _ _ _ _ un_negN %[0|2]),(λ _ _=>rfl)|15],%[0|2],(λ _ _=>rfl)|15],%[%[_law_view,%[%[ix_q,%[ix_q,%[5|0],(@pe_un _ _ _ _ _ _ un_negN %[0|2]),(λ _ _=>rfl)|15],%[0|2],(λ _ _=>rfl)|15]|1]|3]|1]|1],∅,∅,∅|21],∅|13]|10]|9],(by intros;rfl)|26],%[%[7,c_law,%[%[%[3|0]|1]|25]|4],%[%[PassesOwn.never,rfl,%[∅,T.z_range,%[%[0|2]|1],∅|33],%[6,c_law|5],%[%[8,c_law,%[_law_draw,%[%[0|0],%[%[on_add,%[0|2],%[6|0]|11],%[%[on_pow,%[0|2],%[0|2]|11]|1]|1]|1]|3]|4],%[%[9,c_law,%[ix_q,%[7|0],(@pe_un _ _ _ _ _ _ un_negN %[0|2]),(λ _ _=>rfl)|15]|4],%[%[%[(op_qEq hr.units),%[on_mod,%[8|0],%[0|2]|11],%[0|2],(nomark _)|17],%[%[10,c_law,%[%[(@pe_str _ _ _ _),%[%[%[(@pe_bl _ _ _ _),%[(@pe_bl _ _ _ _)|1]|1]|25]|1]|1]|29]|4],%[%[%[on_gt,%[len,call_qLen,%[%[7|0]|1]|6],%[0|2],(nomark _)|17],%[%[(@pe_bm0 _ _ _ _ _ _ _ _ _ PySem.F.plainAttrs_list PySem.F.slot_list_pop PySem.F.type_list_pop mt_nPop %[7|0] ∅ ∅),∅|13],%[%[10,c_law,%[%[(@pe_str _ _ _ _),%[%[_law_others,%[%[5|0],%[%[9|0],%[%[ix_q,%[7|0],(@pe_un _ _ _ _ _ _ un_negN %[0|2]),(λ _ _=>rfl)|15]|1]|1]|1]|3]|1]|1]|29]|4]|10]|9],(@pss_nil _)|16],%[%[(@pt_not _ _ _ _ (@pt_valN _ _ _ %[_law_right,%[%[_law_told,%[%[4|0],%[(@pe_non _ _ _)|1]|1]|3],%[%[10|0]|1]|1]|3] (by intros;rfl))),%[%[(@pe_bl _ _ _ _)|12]|10],(@pss_nil _)|16]|10]|9]|9],%[%[11,c_law,%[_law_drawn,%[%[on_fdiv,%[8|0],%[0|2]|11],%[%[1|0]|1]|1]|3]|4],%[%[%[PySem.F.plainAttrs_list,PySem.F.slot_list_append,PySem.F.type_list_append,mt_append,%[7|0],%[%[_law_done,%[%[9|0],%[%[11|0]|1]|1]|3]|1],∅,∅,∅,∅,∅|30],∅|13],%[%[10,c_law,%[%[(@pe_str _ _ _ _),%[%[_law_others,%[%[5|0],%[%[9|0],%[%[ix_q,%[7|0],(@pe_un _ _ _ _ _ _ un_negN %[0|2]),(λ _ _=>rfl)|15]|1]|1]|1]|3]|1]|1]|29]|4],%[%[(@pt_not _ _ _ _ (@pt_valN _ _ _ %[_law_right,%[%[_law_told,%[%[4|0],%[%[_law_statement,%[%[11|0]|1]|3]|1]|1]|3],%[%[10|0]|1]|1]|3] (by intros;rfl))),%[%[(@pe_bl _ _ _ _)|12]|10],(@pss_nil _)|16]|10]|9]|9]|9]|16],%[%[%[(op_qNe hr.units),%[%[4|0],T.cl_Hall,T.mt_Hall_all_values,G_Hall_all_values,(hr.mono ⋯),T.b_Hall_all_values,.nil,pass0,∅|23],%[ix_q,%[7|0],(@pe_un _ _ _ _ _ _ un_negN %[0|2]),(λ _ _=>rfl)|15],(nomark _)|17],%[%[(@pe_bl _ _ _ _)|12]|10],(@pss_nil _)|16]|10]|9]|9]|9],(by intros;rfl)|26],%[%[%[(op_qEq hr.units),%[%[4|0],T.cl_Hall,T.mt_Hall_names,G_Hall_names,(hr.mono ⋯),T.b_Hall_names,.nil,pass0,∅|23],%[(["_law_row", "_law_script", "_law_room", "_law_most", "_law_values", "_law_hall", "_law_names", "_law_k", "_law_rows", "_law_cell", "_law_before", "_law_due", "_law_deed"]),(1),(comp_ok (defScope s_law) ["_law_script", "_law_room", "_law_most", "_law_values", "_law_hall", "_law_names", "_law_k", "_law_rows", "_law_cell", "_law_before", "_law_due", "_law_deed"] rfl rfl nofun),rfl,%[%[5|0]|22],(λ C s₀ H₀ ex pn=>%[(0),_,(show List.Nodup (["_law_row", "_law_script", "_law_room", "_law_most", "_law_values", "_law_hall", "_law_names", "_law_k", "_law_rows", "_law_cell", "_law_before", "_law_due", "_law_deed"]:List Str) from by decide +kernel),rfl,(Or.inl rfl),%[0|7]|19]),(λ C s₀ H₀ ex pn=>(@pts_nil _)),(λ C s₀ H₀ ex pn=>%[ix_q,%[0|0],%[0|2],(λ _ _=>rfl)|15]),(by intros;rfl)|24],(nomark _)|34]|12]|10]|9]|9]|9]|9]|9]|9]|9]|9],?_⟩
  rw [show start ["_law_script", "_law_room", "_law_most", "_law_values", "_law_hall", "_law_names", "_law_k", "_law_rows", "_law_cell", "_law_before", "_law_due", "_law_deed"] [.ref a]=[some (.ref a),none,none,none,none,none,none,none,none,none,none,none] from rfl]
  clear G__law_draw G__law_parts G__law_view G__law_drawn G__law_done G__law_others G__law_right G__law_told G__law_statement G_Hall___init__ G_Hall_call G_Hall_all_values G_Hall_names
  exists kk
  ac_rfl
  rw [c_spDraw]
  refine ⟨hS,hl,⟨by decide,by decide⟩,by decide,λ rm rm0 rm1=>?_⟩
  ac_rfl
  intro L0 H1 _ e1 h1
  have hS1:=e1.2 K a _ hS
  ac_rfl
  rw [c_spDraw]
  refine ⟨hS1,hl,⟨by decide,by decide⟩,by decide,λ m m0 m1=>?_⟩
  ac_rfl
  refine optK_pick (λ v=>∃ j:Int,v=.int j/\3<=j/\j<=100000000000000000000000000000000000000000000000000) m0 (by show m < (3:Int);exact m1) (λ v hv=>?_) λ v hv=>?_
  ·simp only [List.mem_cons,List.not_mem_nil,or_false] at hv
   rcases hv with rfl|rfl|rfl<;>exact ⟨_,rfl,by decide,by decide⟩
  obtain ⟨mo,rfl,mo0,mo1⟩:=hv
  generalize hroom:1+rm=room
  have r1:1<=room:=by omega
  have r60:room<=60:=by omega
  clear h1 m0 m1 hroom rm0 rm1
  ac_rfl
  refine ⟨by omega,by omega,?_⟩
  refine comp_rel (List.range room.toNat) (λ _=>true) (λ j x H'=>x=.int (0+(j:Nat))) (λ _ _ y _=>∃ v:Int,y=.int v) wk_rng.1 wk_rng.2 (λ _ _ _ _ _ r _=>r) (λ _ _ _ _ _ r=>r) (len5000 (by rw [List.length_range];omega)) ?_ ?_
  ·intro D j x H' N1 N0 hz hD e _ hx k1 _
   subst hx
   have hj:j < room.toNat:=by simpa using hz
   have hS':=e.2 K a _ hS1
   have k1':=k1 rfl
   have j0:0<=(2:Int)+(0+(j:Int)) % 50/\(2:Int)+(0+(j:Int)) % 50 < 1000:=by omega
   have c1:CMulB mo 61:=⟨by omega,by decide⟩
   exists k1'
   clear k1 kk hz
   simp! only [↓m_kCm_1,↓m_kCm2]
   rw [c_spDraw]
   refine ⟨hS',hl,j0,by omega,λ z z0 z1=>?_⟩
   have c2:CMulB z (0+(j:Int)+3):=⟨by omega,by omega⟩
   have mp:0 < mo:=by omega
   simp! only [↓m_kCm_1,↓m_kCm2]
   exact k1' () _ H' (Ext.refl _) ⟨_,rfl⟩
  intro vl ws H2 hvl e2 h2 al
  rw [filt] at al
  have hwl:ws.length=room.toNat:=by rw [al.1,List.length_range]
  obtain ⟨vals,rfl⟩:=ints_of (zs:=[]) (ys:=ws) λ y hy=>by
   obtain ⟨i,hi,rfl⟩:=List.getElem_of_mem hy
   exact al.2 i i _ (by rw [List.getElem?_range %[0|8]]) (List.getElem?_eq_getElem hi)
  rw [List.length_map] at hwl
  have hv1:1<=vals.length:=by omega
  have hv60:vals.length<=60:=by omega
  have hvn:room=(vals.length:Int):=by omega
  have e02:=e1.trans e2
  have hvl0:=e1.free hvl
  clear al hS1 e1 e2 hvl hwl mo0 mo1
  subst hvn
  ac_rfl
  intro h dxh G1 hxh hdxh _ g1 kh _
  rw [c_spHInit]
  refine ⟨dxh,vals,kh,g1.at h2,hv1,by omega,λ H3 st l D Pp hE hst hll hD hP nlP ha=>?_⟩
  have e23:=hE H2 g1 hxh
  have e03:=e02.trans e23
  have h3:=e23.at h2
  have l0:H l=none:=e02.free (g1.free hll)
  have nvll:vl ≠ l:=λ e=>by have:=g1.free hll;rw [←e,h2] at this;cases this
  have nvlP:vl ≠ Pp:=λ e=>by have:=g1.free hP;rw [←e,h2] at this;cases this
  have D0:H D=none:=e02.free (g1.free hD)
  have P0:H Pp=none:=e02.free (g1.free hP)
  exists ha
  clear hE g1 kh h2 hst hll hD hP e23 hdxh
  ac_rfl
  intro NL H4 hNL e4 hNL4
  have N0:H NL=none:=e03.free hNL
  have e04:=e03.trans e4
  have hS4:=e04.2 K a _ hS
  ac_rfl
  rw [c_spDraw]
  refine ⟨hS4,hl,⟨by decide,by decide⟩,by decide,λ kn kn0 kn1=>?_⟩
  ac_rfl
  refine ⟨by omega,by omega,?_⟩
  have hN3:NL ≠ l/\NL ≠ D/\NL ≠ Pp/\NL ≠ h/\NL ≠ st/\NL ≠ vl:=by
   refine ⟨λ e=>?_,λ e=>?_,λ e=>?_,λ e=>?_,λ e=>?_,λ e=>?_⟩
   ·have:=(ha ()).so.fl;rw [←e,hNL] at this;cases this
   ·have:=(ha ()).dk;rw [←e,hNL] at this;cases this
   ·have:=(ha ()).pa;rw [←e,hNL] at this;cases this
   ·obtain ⟨dx,this⟩:=(ha ()).ob;rw [←e,hNL] at this;cases this
   ·obtain ⟨dx,this⟩:=(ha ()).so.ob;rw [←e,hNL] at this;cases this
   ·have:=h3;rw [←e,hNL] at this;cases this
  have ci:CalI t H H4 h st l D Pp NL vl vals [] [] 0:=by
   have a4:=(ha ()).ext e4
   obtain ⟨⟨dx,q1⟩,⟨⟨dy,q2⟩,q3⟩,q4,q5⟩:=a4
   have ls:LstS [NL,l,Pp] H4:=λ s hs=>by
    simp only [List.mem_cons,List.not_mem_nil,or_false] at hs
    rcases hs with rfl|rfl|rfl
    ·exact ⟨_,hNL4⟩
    ·exact ⟨_,q3⟩
    ·exact ⟨_,q5⟩
   refine ⟨e04,⟨⟨dx,cut_obj ls q1 (λ _ h=>by cases h)⟩,⟨dy,cut_obj ls q2 (λ _ h=>by cases h)⟩,cut_obj ls q4 (λ _ h=>by cases h),cut_none (by simp),cut_none (by simp),nlP,List.nodup_nil,by simp⟩,?_,(λ _ h=>by cases h),Al.nil,(λ _ h=>by cases h),rfl,hNL4,q3,q5,⟨hN3.1,hN3.2.2.1⟩,l0,D0,P0,N0⟩
   refine cut_at ?_ (e4.at h3)
   simp only [List.mem_cons,List.not_mem_nil,or_false,not_or]
   exact ⟨Ne.symm hN3.2.2.2.2.2,nvll,nvlP⟩
  clear ha h3 hNL4 e03 e04 e4 hNL hS4
  refine for_rng (λ i σ H'=>∃ (nv:List NVw) (ys:List V) (v6:Option V),σ=[some (.ref a),some (.int (vals.length:Int)),some (.int mo),some (.ref vl),some (.ref h),some (.ref NL),v6,none,none,none,none,none]/\CalI t H H' h st l D Pp NL vl vals nv ys i) ⟨[],[],none,rfl,ci⟩ ?_ ?_
  ·rintro i _ H5 hi ⟨nv,ys,v6,rfl,ci⟩
   have hi6:i < 6:=by omega
   have hyn:ys.length=i:=by rw [ci.nm.1,ci.len]
   have hS5:=ci.e0.2 K a _ hS
   have ab:=abc_at i hi6
   have hN5:=ci.hN
   exists ci
   clear hi kk
   simp! only [↓m_kBody]
   refine ⟨_,_,_,rfl,rfl,by decide +kernel,ab,?_⟩
   have i0:0<=(0+(i:Int)):=by omega
   have hnm:repS ⟨#[97+i]⟩ (1+(0+(i:Int)) % 3)=nmK i:=by unfold nmK;rw [Int.zero_add]
   have m1:1<=1+(0+(i:Int)) % 3:=by omega
   have m2:1+(0+(i:Int)) % 3<=100:=by omega
   have m3:(⟨#[97+i]⟩:Str).length<=100:=(show 1<=100 by decide)
   clear ab
   ac_rfl
   rw [c_spDraw]
   refine ⟨hS5,hl,⟨by omega,by omega⟩,by decide,λ c c0 c1=>?_⟩
   ac_rfl
   rw [c_spParts]
   refine ⟨c0,by omega,by omega,λ q D1 f A H6 e6 hq hD1 h6 t6 pk=>?_⟩
   have ls5:=(ci ()).lst
   have ptc:PtAt (CutS [NL,l,Pp] H6) q (vals.length:Int) f A:=⟨D1,cut_obj (ls5.ext e6) h6 (λ _ h=>by cases h),cut_tups ls5 e6 hD1 t6⟩
   have hN6:=e6.at hN5
   exists ptc
   clear h6 t6 hq hD1 hN5 c0 c1
   ac_rfl
   intro tq H7 htq e7 h7
   have e57:=e6.trans e7
   have hN7:=e7.at hN6
   have c7:=(ci ()).move e57
   have pt7:=(ptc ()).ext (cut_ext (S:=[NL,l,Pp]) e7)
   have nt:tq ≠ NL:=λ e=>by rw [e,hN7] at h7;cases h7
   have hyl:ys.length < sizeLine:=lt5000 %[0|8]
   exists c7
   exists pt7
   clear ptc hN6 e6 e7 hS5
   ac_rfl
   have hc8:CutS [NL,l,Pp] (upd H7 NL (.lst (ys++[.ref tq])))=CutS [NL,l,Pp] H7:=cut_upd (by simp)
   have e08:Ext H (upd H7 NL (.lst (ys++[.ref tq]))):=(c7 ()).e0.put N0
   have hN8:upd H7 NL (.lst (ys++[.ref tq])) NL=some (.lst (ys++[.ref tq])):=upd_same
   have ht8:upd H7 NL (.lst (ys++[.ref tq])) tq=some (.tup [.str (nmK i),.ref q]):=(upd_ne nt).trans h7
   have htc:CutS [NL,l,Pp] H7 tq=some (.tup [.str (nmK i),.ref q]):=cut_obj (c7 ()).lst h7 (λ _ h=>by cases h)
   have hl8:upd H7 NL (.lst (ys++[.ref tq])) l=some (.lst (vals.map V.int)):=(upd_ne (Ne.symm (c7 ()).ne.1)).trans (c7 ()).hl
   have hP8:upd H7 NL (.lst (ys++[.ref tq])) Pp=some (.lst []):=(upd_ne (Ne.symm (c7 ()).ne.2)).trans (c7 ()).hP
   generalize upd H7 NL (.lst (ys++[.ref tq]))=H8 at *
   have ls8:LstS [NL,l,Pp] H8:=λ s hs=>by
    simp only [List.mem_cons,List.not_mem_nil,or_false] at hs
    rcases hs with rfl|rfl|rfl
    ·exact ⟨_,hN8⟩
    ·exact ⟨_,hl8⟩
    ·exact ⟨_,hP8⟩
   have la:=atI_last ys (V.ref tq)
   obtain ⟨dxl,hh8⟩:=(c7 ()).hb.ob
   rw [←hc8] at hh8
   have hh8':=(cut_sub [NL,l,Pp] H8).at hh8
   have f3':=hallF_no st D Pp (m := "call") nofun
   have pt8:=pt7 ()
   rw [←hc8] at pt8
   exists pt8
   exists htc
   exists hc8
   clear hN7 h7 hh8
   ac_rfl
   refine ⟨lt5000 %[0|8],?_⟩
   rw [c_spLView]
   refine ⟨_,f,A,(pt8 ()).ext (cut_sub [NL,l,Pp] H8),pk,by omega,by omega,λ x H9 hx e9 vx=>?_⟩
   have vx9:=vx [NL,l,Pp] ls8
   have hh9:=e9.at hh8'
   have c78:=cut_ext (S:=[NL,l,Pp]) e9
   rw [hc8 ()] at c78
   have ha9:=(c7 ()).hb.ext c78 (cut_none (by simp)) (cut_none (by simp))
   have hl9:=e9.at hl8
   have hP9:=e9.at hP8
   have hno:∀ p∈nv,p.nm ≠ nmK i:=λ p hp e=>nmK_new i hi6 (by rw [←(c7 ()).na];exact List.mem_map.mpr ⟨p,hp,e⟩)
   exists vx9
   exists ha9
   exists hno
   have hN9:=e9.at hN8
   have nvl:=(c7 ()).len
   have ppr:=pk.pr
   clear vx hh8' ht8 hN8
   ac_rfl
   rw [c_spHCall]
   refine ⟨st,l,D,Pp,vals,nv,[],f,A,(ha9 ()).at (cut_sub [NL,l,Pp] H9) hl9 hP9,(nmK_ok i hi6).1,hno (),by omega,(vx9 ()).ext (cut_sub [NL,l,Pp] H9),pk.ax,by omega,λ H10 q1 q2 hD10=>?_⟩
   have hDB:=(ha9 ()).dk
   have nD:=cut_not hDB
   have nDN:D ≠ NL:=λ e=>nD (by rw [e];simp)
   have nDl:D ≠ l:=λ e=>nD (by rw [e];simp)
   have nDP:D ≠ Pp:=λ e=>nD (by rw [e];simp)
   have cD:Ext (CutS [D] (CutS [NL,l,Pp] H9)) (CutS [NL,l,Pp] H10):=Same.ext λ b o hb=>by
    have hbD:b ≠ D:=λ e=>by rw [e,cut_none (by simp)] at hb;cases hb
    have hb2:=(cut_sub [D] _).at hb
    exact cut_at (cut_not hb2) (q2 b o hbD ((cut_sub [NL,l,Pp] H9).at hb2))
   have hD10':CutS [NL,l,Pp] H10 D=some (.dK (nvD (nv++[⟨nmK i,x,f,A⟩]))):=cut_at nD hD10
   have fin:CalI t H H10 h st l D Pp NL vl vals (nv++[⟨nmK i,x,f,A⟩]) (ys++[.ref tq]) (i+1):=by
    obtain ⟨⟨dx,o1⟩,⟨dy,o2⟩,o3,o4,o5,o6,o7,o8⟩:=ha9 ()
    have hna:(nv++[(⟨nmK i,x,f,A⟩:NVw)]).map NVw.nm=(List.range (i+1)).map nmK:=by rw [List.map_append,(c7 ()).na,List.range_succ,List.map_append];rfl
    refine ⟨q1 H (e08.trans e9) D0,⟨⟨dx,cD.at (cutD_obj hDB o1 (λ _ h=>by cases h))⟩,⟨dy,cD.at (cutD_obj hDB o2 (λ _ h=>by cases h))⟩,hD10',cut_none (by simp),cut_none (by simp),o6,by unfold NmNd;rw [hna];exact nmK_nd' _ %[0|8],by rw [List.length_append];simp;omega⟩,cD.at (cutD_obj hDB (c78.at (c7 ()).hv) (λ _ h=>by cases h)),?_,?_,?_,hna,q2 _ _ (Ne.symm nDN) hN9,q2 _ _ (Ne.symm nDl) hl9,q2 _ _ (Ne.symm nDP) hP9,(c7 ()).ne,(c7 ()).fr⟩
    ·intro p hp
     rcases List.mem_append.mp hp with hp|hp
     ·have w:=(c7 ()).vw p hp
      exact ⟨((w.1.ext c78).cutD hDB).ext cD,w.2⟩
     ·rw [List.mem_singleton.mp hp]
      exact ⟨((vx9 ()).cutD hDB).ext cD,pk.ax,by show prodL (A.map λ a=>a.1)<=4096;omega,pk.on rfl⟩
    ·refine Al.snoc ((c7 ()).nm.imp λ _ _ z=>((z.ext c78).cutD hDB).ext cD) ?_
     exact ((NmV.ext (H:=CutS [NL,l,Pp] H7) (show NmV (vals.length:Int) ⟨nmK i,x,f,A⟩ (.ref tq) (CutS [NL,l,Pp] H7) from ⟨tq,q,rfl,htc (),pt7 ()⟩) c78).cutD hDB).ext cD
    ·intro p hp
     rcases List.mem_append.mp hp with hp|hp
     ·exact (c7 ()).ok p hp
     ·rw [List.mem_singleton.mp hp];exact pk
   exists fin
   clear q1 q2 hD10 cD hDB hD10' hh9
   ac_rfl
   exact ⟨_,_,_,rfl,fin ()⟩
  ·rintro _ H5 ⟨nv,ys,v6,rfl,ci⟩
   have hS5:=ci.e0.2 K a _ hS
   have hnv:1<=nv.length:=by rw [ci.len];omega
   have hnv6:nv.length<=6:=by rw [ci.len];omega
   exists ci
   ac_rfl
   intro W H6 hW e6 hW6
   have dI:DayI t H H6 h st l D Pp W NL vals.length nv ys [] vals [.ref vl] []:=by
    have c5:=ci ()
    have eS:Ext (CutS [NL,l,Pp] H5) (CutS [l,Pp,W] H6):=Same.ext λ b o hb=>by
     have n1:=cut_not hb
     have hb5:=(cut_sub _ H5).at hb
     have n2:b ≠ W:=λ e=>by rw [e,hW] at hb5;cases hb5
     refine cut_at ?_ (e6.at hb5)
     simp only [List.mem_cons,List.not_mem_nil,or_false,not_or] at n1 ⊢
     exact ⟨n1.2.1,n1.2.2,n2⟩
    have nlW:l ≠ W:=λ e=>by have:=c5.hl;rw [e,hW] at this;cases this
    have nPW:Pp ≠ W:=λ e=>by have:=c5.hP;rw [e,hW] at this;cases this
    have nNW:NL ≠ W:=λ e=>by have:=c5.hN;rw [e,hW] at this;cases this
    refine ⟨c5.e0.trans e6,c5.hb.ext eS (cut_none (by simp)) (cut_none (by simp)),c5.vw.ext eS,cut_at ?_ (e6.at c5.hN),c5.nm.imp λ _ _ q=>q.ext eS,e6.at c5.hl,e6.at c5.hP,hW6,?_,Al.nil,?_,⟨nlW,nPW⟩,c5.fr.1,c5.fr.2.2.1,c5.e0.free hW⟩
    ·simp only [List.mem_cons,List.not_mem_nil,or_false,not_or]
     exact ⟨c5.ne.1,c5.ne.2,nNW⟩
    ·exact Al.snoc (zs:=[]) (ys:=[]) Al.nil ⟨vl,rfl,eS.at c5.hv⟩
    ·intro row hrow
     rw [List.mem_singleton.mp hrow]
   have pks:=(ci ()).ok
   have nst:StOk (nv.map NVw.nm):=λ x hx=>by
    rw [(ci ()).na] at hx
    obtain ⟨j,hj,rfl⟩:=List.mem_map.mp hx
    exact (nmK_ok j (by have:=List.mem_range.mp hj;omega)).2
   exists pks
   exists nst
   clear ci hS5 hW6 e6 hW
   ac_rfl
   refine for_rng (λ i σ H'=>∃ (old:List (List Int)) (last:List Int) (rs ps:List V) (v6 v8 v9 v10 v11:Option V),σ=[some (.ref a),some (.int (vals.length:Int)),some (.int mo),some (.ref vl),some (.ref h),some (.ref NL),v6,some (.ref W),v8,v9,v10,v11]/\DayI t H H' h st l D Pp W NL vals.length nv ys old last rs ps/\old.length<=i) ⟨[],vals,_,_,_,_,_,_,_,rfl,dI,Nat.le_refl _⟩ ?_ ?_
   ·clear dI
    rintro i _ H7 hi ⟨old,last,rs,ps,v6,v8,v9,v10,v11,rfl,dI,hol⟩
    obtain ⟨rs1,y,rfl,ral,lr,rfl,hlr⟩:=al_snoc_inv dI.rw'
    have hS7:=dI.e0.2 K a _ hS
    have hlr7:=(cut_sub _ H7).at hlr
    have la:=atI_last rs1 (V.ref lr)
    have hW7:=dI.hW
    have r1l:rs1.length=old.length:=ral.1
    have hll:=dI.ln last (by simp)
    obtain ⟨dxh,hh7⟩:=dI.hb.ob
    replace hh7:=(cut_sub _ H7).at hh7
    exists dI
    exists ral
    exists hlr
    clear kk
    simp! only [↓m_kBody]
    rw [c_spDraw]
    refine ⟨hS7,hl,⟨by omega,by omega⟩,by decide,λ c c0 c1=>?_⟩
    simp! only [-m_tIfS]
    refine if_gen (λ σ' H'=>∃ (old':List (List Int)) (last':List Int) (rs' ps':List V) (v8 v9 v10 v11:Option V),σ'=[some (.ref a),some (.int (vals.length:Int)),some (.int mo),some (.ref vl),some (.ref h),some (.ref NL),some (.int (0+(i:Int))),some (.ref W),v8,v9,v10,v11]/\DayI t H H' h st l D Pp W NL vals.length nv ys old' last' rs' ps'/\old'.length<=i+1) (λ nx' hnx=>?_) ?_
    ·by_cases h3:c % 3=0
     ·ac_rfl
      intro Lq H8 _ e8 h8
      ac_rfl
      intro dq H9 _ e9 h9
      have e79:=e8.trans e9
      have d9:=(dI ()).move e79
      have h8_9:=e9.at h8
      have hW9:=d9.hW
      have hh9:=e79.at hh7
      have hlr9:=e79.at hlr7
      exists d9
      clear hh7 hW7 hlr7 h8 e8 e9 hS7 c0 c1
      by_cases ho:old=[]
      ·subst ho
       have hr1:rs1=[]:=List.length_eq_zero_iff.mp r1l
       subst hr1
       have hps:ps=[]:=List.length_eq_zero_iff.mp (d9 ()).pw.1
       ac_rfl
       rw [c_spTold]
       refine .inl ⟨rfl,CutS [l,Pp,W] H9,st,l,D,Pp,last,nv,ps,(d9 ()).hb,cut_sub _ _,(d9 ()).hl,(d9 ()).hP,by rw [hps];simp,by omega,by omega,by rw [hll];exact (d9 ()).vw,.inl ⟨hps,λ tq lq H10 e10 h10 hl10=>?_⟩⟩
       have d10:=(d9 ()).move e10
       have h9_10:=e10.at h9
       have h8_10:=e10.at h8_9
       have kf:=hnx
       exists d10
       exists kf
       clear hW9 hh9 hlr9 h9 h8_9 hnx
       ac_rfl
       rw [c_spRight]
       refine .inr ⟨lq,Lq,h10,h9_10,hl10,h8_10,?_⟩
       ac_rfl
       exact kf () _ H10 ⟨[],last,_,ps,_,_,_,_,rfl,d10 (),by simp⟩
      ·obtain ⟨old1,prev,rfl⟩:∃ o p,old=o++[p]:=⟨old.dropLast,old.getLast ho,(List.dropLast_concat_getLast ho).symm⟩
       obtain ⟨rs0,y,rfl,ral0,lp,rfl,hlp⟩:=al_snoc_inv (ral ())
       obtain ⟨ps0,y,hpse,pal0,bp,rfl,hbp⟩:=al_snoc_inv (d9 ()).pw
       subst hpse
       have c79:=cut_ext (S:=[l,Pp,W]) e79
       have hlp9:=c79.at hlp
       have hpl:=(d9 ()).ln prev (by simp)
       have p100:(ps0++[V.ref bp]).length<=100:=by
        have:=(d9 ()).pw.1
        rw [this];omega
       have hgt:(1:Int) < ((rs0++[V.ref lp]++[V.ref lr]).length:Int):=by simp;omega
       exists ral0
       exists pal0
       exists hlp9
       exists hbp
       clear r1l la ho hlp h9 h8_9
       ac_rfl
       refine use_pop (ys:=rs0++[V.ref lp]) hW9 ?_
       have hc10:CutS [l,Pp,W] (upd H9 W (.lst (rs0++[V.ref lp])))=CutS [l,Pp,W] H9:=cut_upd (by simp)
       have e010:Ext H (upd H9 W (.lst (rs0++[V.ref lp]))):=(d9 ()).e0.put (d9 ()).fr.2.2
       have hW10:upd H9 W (.lst (rs0++[V.ref lp])) W=some (.lst (rs0++[V.ref lp])):=upd_same
       have hl10:upd H9 W (.lst (rs0++[V.ref lp])) l=some (.lst (last.map V.int)):=(upd_ne (d9 ()).nW.1).trans (d9 ()).hl
       have hP10:upd H9 W (.lst (rs0++[V.ref lp])) Pp=some (.lst (ps0++[V.ref bp])):=(upd_ne (d9 ()).nW.2).trans (d9 ()).hP
       generalize upd H9 W (.lst (rs0++[V.ref lp]))=H10 at *
       have hlr10:H10 lr=some (.lst (last.map V.int)):=(cut_sub [l,Pp,W] H10).at (by rw [hc10];exact c79.at (hlr ()))
       have hlp10:H10 lp=some (.lst (prev.map V.int)):=(cut_sub [l,Pp,W] H10).at (by rw [hc10];exact hlp9 ())
       have hnl10:H10 NL=some (.lst ys):=(cut_sub [l,Pp,W] H10).at (by rw [hc10];exact (d9 ()).nl)
       have nm10:Al (λ p y=>NmV (vals.length:Int) p y H10) nv ys:=(d9 ()).nm.imp λ _ _ q=>q.ext (by rw [←hc10];exact cut_sub [l,Pp,W] H10)
       have hh10:∃ dx,H10 h=some (.ins t.a_Hall dx (hallF st D Pp)):=by
        obtain ⟨dx,q⟩:=(d9 ()).hb.ob
        exact ⟨dx,(cut_sub [l,Pp,W] H10).at (by rw [hc10];exact q)⟩
       have ls10:LstS [l,Pp,W] H10:=λ s hs=>by
        simp only [List.mem_cons,List.not_mem_nil,or_false] at hs
        rcases hs with rfl|rfl|rfl
        ·exact ⟨_,hl10⟩
        ·exact ⟨_,hP10⟩
        ·exact ⟨_,hW10⟩
       have la:=atI_last rs0 (V.ref lp)
       exists nm10
       exists hc10
       exists hnx
       clear hW9 hlr9 hh9
       ac_rfl
       rw [c_spOth]
       refine ⟨last,prev,nv,ys,(vals.length:Int),hnl10,nm10 (),hlr10,hlp10,by omega,by omega,by omega,by omega,pks (),λ r2 H11 hr2 e11 h11=>?_⟩
       have hr2c:CutS [l,Pp,W] H11 r2=some (.lst (chgN prev last nv)):=cut_new ls10 hr2 h11
       clear hnl10 hlr10 hlp10
       ac_rfl
       intro dq2 H12 hdq2 e12 h12
       have e1012:=e11.trans e12
       have ls12:=ls10.ext e1012
       have hdqc:CutS [l,Pp,W] H12 dq2=some (.tup [.str "told",.ref r2]):=cut_obj ls12 h12 (λ _ h=>by cases h)
       have hr2c12:=(cut_ext (S:=[l,Pp,W]) e12).at hr2c
       have c912:Ext (CutS [l,Pp,W] H9) (CutS [l,Pp,W] H12):=by
        have:=cut_ext (S:=[l,Pp,W]) e1012
        rw [hc10 ()] at this
        exact this
       have hl12:=e1012.at hl10
       have hP12:=e1012.at hP10
       have hW12:=e1012.at hW10
       have e012:=e010.trans e1012
       have B12:=(d9 ()).hb.ext c912 (cut_none (by simp)) (cut_none (by simp))
       have V12:=(d9 ()).vw.ext c912
       exists B12
       exists V12
       exists hr2c12
       exists hdqc
       clear hr2c h11 h12 hl10 hP10 hW10 ls10 e11 e12 e1012 hh10 hr2 hdq2
       ac_rfl
       rw [c_spTold]
       refine .inl ⟨rfl,CutS [l,Pp,W] H12,st,l,D,Pp,last,nv,ps0++[.ref bp],B12 (),cut_sub _ _,hl12,hP12,p100,by omega,by omega,by rw [hll];exact V12 (),.inr ⟨ps0,bp,prev,rfl,c912.at (hbp ()),by omega,λ r H13 a1 a2 a3 a4 a5 a6=>?_⟩⟩
       intro tq H14 htq e14 h14
       have a6':=a6
       rw [chgN_strs] at a6'
       have hr14:=e14.at a6'
       have hdq14:=(a1.trans e14).at (hdqc ())
       have hr214:=(a1.trans e14).at (hr2c12 ())
       rw [chgN_strs] at hr214
       have fl:=(nst ()).flt (chgB prev last)
       have fl100:((nv.filter (chgB prev last)).map NVw.nm).length<=100:=by
        rw [List.length_map]
        have:=List.length_filter_le (chgB prev last) nv
        omega
       have dfin:∀ H15,(∀ H0,Ext H0 H14->H0 r=none->Ext H0 H15)->(∀ b o,b ≠ r->H14 b=some o->H15 b=some o)->DayI t H H15 h st l D Pp W NL vals.length nv ys old1 prev (rs0++[V.ref lp]) ps0:=λ H15 q1 q2=>by
        have nlr:=ne_of2 hl12 a2
        have nPr:=ne_of2 hP12 a2
        have nWr:=ne_of2 hW12 a2
        have e915:Ext (CutS [l,Pp,W] H9) H15:=c912.trans (q1 _ (a1.trans e14) (by
         cases hq:CutS [l,Pp,W] H12 r with
         | none=>rfl
         | some o=>rw [(cut_sub _ H12).at hq] at a2;cases a2))
        have ci:=cut_into e915
        refine (d9 ()).next e915 (q1 H ((a3 H e012 (d9 ()).fr.1 (d9 ()).fr.2.1).trans e14) (e012.free a2)) (q2 _ _ nlr (e14.at a4)) (q2 _ _ nPr (e14.at a5)) (q2 _ _ nWr (e14.at (keep_of a3 (Ne.symm (d9 ()).nW.1) (Ne.symm (d9 ()).nW.2) hW12))) ?_ (RowL.ext (pal0 ()) ci) (λ row hrow=>(d9 ()).ln row (List.mem_append_left _ hrow))
        exact Al.snoc (RowL.ext (RowL.ext (ral0 ()) c79) ci) ⟨lp,rfl,ci.at (hlp9 ())⟩
       exists dfin
       clear a1 a3 a4 a5 a6 a6' hl12 hP12 hW12 ls12 htq
       ac_rfl
       rw [c_spRight]
       refine .inl ⟨r,r2,_,h14,hdq14,hr14,hr214,fl100,fl,λ H15 q1 q2=>?_⟩
       have dI15:=dfin () H15 q1 q2
       exists dI15
       clear hr14 hdq14 hr214 h14 q1 q2 dfin
       ac_rfl
       exact hnx () _ H15 ⟨old1,prev,_,_,_,_,_,_,rfl,dI15 (),by rw [List.length_append] at hol;simp at hol;omega⟩
     ·have c30:0<=c / 3:=by omega
      have hnl7:=(cut_sub _ H7).at (dI ()).nl
      obtain ⟨p0,hp0⟩:∃ p,p∈nv:=by
       cases nv with
       | nil=>exact absurd hnv (by simp)
       | cons p r=>exact ⟨p,List.mem_cons_self⟩
      have pk0:=pks () p0 hp0
      exists hnx
      clear hS7 c0 c1 hnl7
      ac_rfl
      rw [c_spDrawn]
      refine ⟨[l,Pp,W],(dI ()).lst,c30,by omega,by omega,λ d j q1 q2 z f1 A1 f2 A2 H8 e8 dd dk=>?_⟩
      have hlr8:=e8.at hlr7
      have hW8:=e8.at hW7
      have hn8:(vals.length:Int)=(last.length:Int):=by omega
      exists dd
      exists hn8
      clear hlr7 hh7 hW7
      ac_rfl
      rw [c_spDone2]
      refine ⟨last,j,q1,q2,z,_,f1,A1,f2,A2,hlr8,(dd ()).ext (cut_sub _ H8),dk,hn8 (),by omega,λ rN H9 hrN e9 h9=>?_⟩
      have e79:=e8.trans e9
      have d9:=(dI ()).move e79
      have hW9:=d9.hW
      have hlr9:=e9.at hlr8
      have dd9:=(dd ()).ext (cut_ext (S:=[l,Pp,W]) e9)
      have c79:=cut_ext (S:=[l,Pp,W]) e79
      have hrNc:CutS [l,Pp,W] H9 rN=some (.lst ((runL j last (cellsL f1 A1) (cellsL f2 A2) z).map V.int)):=cut_new ((dI ()).lst.ext e8) hrN h9
      have rlen:=runL_len j last (cellsL f1 A1) (cellsL f2 A2) z
      obtain ⟨vals2,hv2⟩:∃ v2,v2=runL j last (cellsL f1 A1) (cellsL f2 A2) z:=⟨_,rfl⟩
      rw [←hv2] at hrNc rlen h9
      have rsl:(rs1++[V.ref lr]).length < sizeLine:=lt5000 (by rw [List.length_append];simp;omega)
      exists hv2
      exists d9
      exists dd9
      exists hrNc
      clear hlr8 dd hrN h9 r1l la hW8
      ac_rfl
      have hc10:CutS [l,Pp,W] (upd H9 W (.lst (rs1++[V.ref lr]++[V.ref rN])))=CutS [l,Pp,W] H9:=cut_upd (by simp)
      have e010:Ext H (upd H9 W (.lst (rs1++[V.ref lr]++[V.ref rN]))):=(d9 ()).e0.put (d9 ()).fr.2.2
      have hW10:upd H9 W (.lst (rs1++[V.ref lr]++[V.ref rN])) W=some (.lst (rs1++[V.ref lr]++[V.ref rN])):=upd_same
      have hl10:upd H9 W (.lst (rs1++[V.ref lr]++[V.ref rN])) l=some (.lst (last.map V.int)):=(upd_ne (d9 ()).nW.1).trans (d9 ()).hl
      have hP10:upd H9 W (.lst (rs1++[V.ref lr]++[V.ref rN])) Pp=some (.lst ps):=(upd_ne (d9 ()).nW.2).trans (d9 ()).hP
      have ne9:rN ≠ W:=λ e=>cut_not (hrNc ()) (by rw [e];simp)
      generalize upd H9 W (.lst (rs1++[V.ref lr]++[V.ref rN]))=H10 at *
      have hrN10:H10 rN=some (.lst (vals2.map V.int)):=(cut_sub [l,Pp,W] H10).at (by rw [hc10];exact hrNc ())
      have hlr10:H10 lr=some (.lst (last.map V.int)):=(cut_sub [l,Pp,W] H10).at (by rw [hc10];exact c79.at (hlr ()))
      have hnl10:H10 NL=some (.lst ys):=(cut_sub [l,Pp,W] H10).at (by rw [hc10];exact (d9 ()).nl)
      have nm10:Al (λ p y=>NmV (vals.length:Int) p y H10) nv ys:=(d9 ()).nm.imp λ _ _ q=>q.ext (by rw [←hc10];exact cut_sub [l,Pp,W] H10)
      have ls10:LstS [l,Pp,W] H10:=λ s hs=>by
       simp only [List.mem_cons,List.not_mem_nil,or_false] at hs
       rcases hs with rfl|rfl|rfl
       ·exact ⟨_,hl10⟩
       ·exact ⟨_,hP10⟩
       ·exact ⟨_,hW10⟩
      have la:=atI_last (rs1++[V.ref lr]) (V.ref rN)
      exists nm10
      exists hc10
      clear hW9 hlr9
      ac_rfl
      rw [c_spOth]
      refine ⟨last,vals2,nv,ys,(vals.length:Int),hnl10,nm10 (),hlr10,hrN10,by omega,by omega,by omega,by omega,pks (),λ r2 H11 hr2 e11 h11=>?_⟩
      have hr2c:CutS [l,Pp,W] H11 r2=some (.lst (chgN vals2 last nv)):=cut_new ls10 hr2 h11
      clear hnl10 hlr10 hrN10 la
      ac_rfl
      intro dq2 H12 hdq2 e12 h12
      have e1012:=e11.trans e12
      have ls12:=ls10.ext e1012
      have hdqc:CutS [l,Pp,W] H12 dq2=some (.tup [.str "told",.ref r2]):=cut_obj ls12 h12 (λ _ h=>by cases h)
      have hr2c12:=(cut_ext (S:=[l,Pp,W]) e12).at hr2c
      have c912:Ext (CutS [l,Pp,W] H9) (CutS [l,Pp,W] H12):=by
       have:=cut_ext (S:=[l,Pp,W]) e1012
       rw [hc10 ()] at this
       exact this
      have hl12:=e1012.at hl10
      have hP12:=e1012.at hP10
      have hW12:=e1012.at hW10
      have e012:=e010.trans e1012
      have dd12:=(dd9 ()).ext c912
      have v012:=((d9 ()).vw.ext c912) p0 hp0
      exists dd12
      exists v012
      exists hr2c12
      exists hdqc
      clear hr2c h11 h12 hl10 hP10 hW10 ls10 e11 e12 e1012 hr2 hdq2
      ac_rfl
      rw [c_spStm]
      refine ⟨[l,Pp,W],j,q1,q2,z,_,f1,A1,f2,A2,p0.ad,p0.f,p0.A,ls12,dd12 (),dk,by omega,by omega,(v012 ()).1,pk0,λ sx u v dxs g1 B1 g2 B2 H13 e13 hsx vu pu vv pv hpe hrun=>?_⟩
      have c1213:=cut_ext (S:=[l,Pp,W]) e13
      have c913:=c912.trans c1213
      have hl13:=e13.at hl12
      have hP13:=e13.at hP12
      have hW13:=e13.at hW12
      have e013:=e012.trans e13
      have hr2c13:=c1213.at (hr2c12 ())
      have hdqc13:=c1213.at (hdqc ())
      have B13:=(d9 ()).hb.ext c913 (cut_none (by simp)) (cut_none (by simp))
      have V13:=(d9 ()).vw.ext c913
      exists B13
      exists V13
      exists hr2c13
      exists hdqc13
      exists hsx
      exists vu
      exists vv
      exists hpe
      exists hrun
      have ppu:=pu.pr
      have ppv:=pv.pr
      have psl:ps.length<=100:=by
       have:=(d9 ()).pw.1
       rw [this];omega
      clear hl12 hP12 hW12 e012 ls12 hr2c12 hdqc c1213 e13 dd12 dd9 v012
      ac_rfl
      rw [c_spTold]
      refine .inr ⟨sx,rfl,?_⟩
      rw [c_spHDo]
      refine ⟨CutS [l,Pp,W] H13,st,l,D,Pp,last,nv,ps,j,u,v,dxs,z,g1,B1,g2,B2,B13 (),cut_sub _ _,hl13,hP13,psl,by omega,by rw [hll];exact V13 (),dk.i5,hsx (),⟨by rw [hll];exact vu (),pu.ax,by omega,pu.on %[0|8]⟩,⟨by rw [hll];exact vv (),pv.ax,by omega,pv.on %[0|8]⟩,hpe (),λ r b H14 a1 ab a2 nrb a3 a4 a5 a6 a7=>?_⟩
      rw [hrun () last,←hv2 ()] at a4 a7
      intro tq H15 htq e15 h15
      rw [chgN_strs] at a7
      have hr15:=e15.at a7
      have hdq15:=(a1.trans e15).at (hdqc13 ())
      have hr215:=(a1.trans e15).at (hr2c13 ())
      rw [chgN_strs] at hr215
      have fl:=(nst ()).flt (chgB vals2 last)
      have fl100:((nv.filter (chgB vals2 last)).map NVw.nm).length<=100:=by
       rw [List.length_map]
       have:=List.length_filter_le (chgB vals2 last) nv
       omega
      have dfin:∀ H16,(∀ H0,Ext H0 H15->H0 r=none->Ext H0 H16)->(∀ b o,b ≠ r->H15 b=some o->H16 b=some o)->DayI t H H16 h st l D Pp W NL vals.length nv ys (old++[last]) vals2 (rs1++[V.ref lr]++[V.ref rN]) (ps++[V.ref b]):=λ H16 q1' q2'=>by
       have nlr:=ne_of2 hl13 a2
       have nPr:=ne_of2 hP13 a2
       have nWr:=ne_of2 hW13 a2
       have e916:Ext (CutS [l,Pp,W] H9) H16:=c913.trans (q1' _ (a1.trans e15) (by
        cases hq:CutS [l,Pp,W] H13 r with
        | none=>rfl
        | some o=>rw [(cut_sub _ H13).at hq] at a2;cases a2))
       have ci:=cut_into e916
       have nbS:b ∉ [l,Pp,W]:=by
        simp only [List.mem_cons,List.not_mem_nil,or_false,not_or]
        exact ⟨Ne.symm (ne_of2 hl13 ab),Ne.symm (ne_of2 hP13 ab),Ne.symm (ne_of2 hW13 ab)⟩
       refine (d9 ()).next e916 (q1' H ((a3 H e013 (d9 ()).fr.1 (d9 ()).fr.2.1).trans e15) (e013.free a2)) (q2' _ _ nlr (e15.at a4)) (q2' _ _ nPr (e15.at a5)) (q2' _ _ nWr (e15.at (keep_of a3 (Ne.symm (d9 ()).nW.1) (Ne.symm (d9 ()).nW.2) hW13))) ?_ ?_ ?_
       ·exact Al.snoc (RowL.ext (d9 ()).rw' ci) ⟨rN,rfl,ci.at (hrNc ())⟩
       ·exact Al.snoc (RowL.ext (d9 ()).pw ci) ⟨b,rfl,cut_at nbS (q2' _ _ (Ne.symm nrb) (e15.at a6))⟩
       ·intro row hrow
        rcases List.mem_append.mp hrow with hrow|hrow
        ·exact (d9 ()).ln row hrow
        ·rw [List.mem_singleton.mp hrow];omega
      exists dfin
      clear a1 a3 a4 a5 a6 a7 hl13 hP13 hW13 htq
      ac_rfl
      rw [c_spRight]
      refine .inl ⟨r,r2,_,h15,hdq15,hr15,hr215,fl100,fl,λ H16 q1' q2'=>?_⟩
      have dI16:=dfin () H16 q1' q2'
      exists dI16
      clear hr15 hdq15 hr215 h15 q1' q2' dfin
      ac_rfl
      exact hnx () _ H16 ⟨old++[last],vals2,_,_,_,_,_,_,rfl,dI16 (),by rw [List.length_append];simp;omega⟩
    ·rintro _ H8 ⟨old',last',rs',ps',v8,v9,v10,v11,rfl,dJ,hol'⟩
     obtain ⟨rs2,y,rfl,ral2,lr2,rfl,hlr2⟩:=al_snoc_inv dJ.rw'
     have la2:=atI_last rs2 (V.ref lr2)
     have f3':=hallF_no st D Pp (m := "all_values") nofun
     obtain ⟨dxh8,hh8⟩:=dJ.hb.ob
     replace hh8:=(cut_sub _ H8).at hh8
     have hll2:=dJ.ln last' (by simp)
     exists dJ
     clear hh7 hW7 hlr7 la hS7
     ac_rfl
     rw [c_spHAll]
     refine ⟨st,l,D,Pp,last',nv,ps',(dJ ()).hb.at (cut_sub _ H8) (dJ ()).hl (dJ ()).hP,by omega,λ r9 H9 hr9 e9 h9=>?_⟩
     have dK:=(dJ ()).move e9
     have hW9:=dK.hW
     have hlr9:=e9.at ((cut_sub _ H8).at hlr2)
     exists dK
     have eq:=eqvAll_ints last' last'
     rw [decide_eq_true rfl] at eq
     clear hh8
     ac_rfl
     exact ⟨old',last',rs2++[.ref lr2],ps',_,_,_,_,_,rfl,dK (),hol'⟩
   ·rintro _ H7 ⟨old,last,rs,ps,v6,v8,v9,v10,v11,rfl,dI2,hol⟩
    clear dI
    obtain ⟨dxh,hh7⟩:=dI2.hb.ob
    replace hh7:=(cut_sub _ H7).at hh7
    have f3':=hallF_no st D Pp (m := "names") nofun
    have hnl:=(cut_sub _ H7).at dI2.nl
    exists dI2
    ac_rfl
    rw [c_spHNames]
    refine ⟨st,l,D,Pp,last,nv,ps,(dI2 ()).hb.at (cut_sub _ H7) (dI2 ()).hl (dI2 ()).hP,by omega,λ r8 H8 hr8 e8 h8=>?_⟩
    have al8:Al (λ p y=>NmV (vals.length:Int) p y H8) nv ys:=(dI2 ()).nm.imp λ _ _ q=>(q.ext (cut_sub _ H7)).ext e8
    have hnl8:=e8.at hnl
    clear hh7 hnl dI2
    ac_rfl
    have wk:=wk_al (K:=K) (R:=NmV (vals.length:Int)) (λ _ _ _ _ h e=>h.ext e) hnl8 al8
    refine comp_fm nv (λ _=>true) (λ p=>.str p.nm) (NmV (vals.length:Int)) wk.1 wk.2 (len5000 %[0|8]) ?_ ?_
    ·intro D' pv x H' N1 N0 hpv hD e ⟨q,qp,hx,hq,hpt⟩ k1 _
     subst hx
     have k1':N1 (.str pv.nm) H':=k1 rfl H' (Ext.refl _)
     clear k1 hpt wk al8 hnl8 kk h8
     simp! only [↓m_kCm_1,↓m_kCm2]
    intro L H9 hL e9 hL9
    have hL9':H9 L=some (.lst ((nv.map NVw.nm).map V.str)):=by rw [hL9,filt,List.map_map];rfl
    have h8_9:=e9.at h8
    have a1:=λ g=>allSome_strs H9 g (nv.map NVw.nm) (nst ())
    have a2:=eqv_strs (nv.map NVw.nm)
    have k2:=kk () H9
    clear hL9 h8 kk wk al8 hnl8
    generalize nv.map NVw.nm=nms at *
    ac_rfl
end
theorem all_mk {l:W.OpenLaw}{w:World}{K:W.Frag}{h:Heap}{mg:Str->Option Value}{fa:Addr}(X:K.In h) (G:h.Ns mainGlobals mg) (hfa:mg "law"=some (.ref fa))
  {C0:Addr} (y0:W.nsIn K mainGlobals "PaceError"=some (some (.ref C0)))
  {C1:Addr} (y1:W.nsIn K mainGlobals "NoPlace"=some (some (.ref C1)))
  {C2:Addr} (y2:W.nsIn K mainGlobals "NoCells"=some (some (.ref C2)))
  {C3:Addr} (y3:W.nsIn K mainGlobals "NoView"=some (some (.ref C3)))
  {C4:Addr} (y4:W.nsIn K mainGlobals "NoCount"=some (some (.ref C4)))
  {C5:Addr} (y5:W.nsIn K mainGlobals "NoPair"=some (some (.ref C5)))
  {C6:Addr} (y6:W.nsIn K mainGlobals "NoDeed"=some (some (.ref C6)))
  {C7:Addr} (y7:W.nsIn K mainGlobals "TooMany"=some (some (.ref C7)))
  {C8:Addr} (y8:W.nsIn K mainGlobals "NoName"=some (some (.ref C8)))
  {C9:Addr} (y9:W.nsIn K mainGlobals "Known"=some (some (.ref C9)))
  {C10:Addr} (y10:W.nsIn K mainGlobals "View"=some (some (.ref C10)))
  {C11:Addr} (y11:W.nsIn K mainGlobals "Store"=some (some (.ref C11)))
  {C12:Addr} (y12:W.nsIn K mainGlobals "Hall"=some (some (.ref C12)))
  {C13:Addr} (y13:W.nsIn K mainGlobals "Statement"=some (some (.ref C13)))
  {C14:Addr} (y14:W.nsIn K mainGlobals "Fill"=some (some (.ref C14)))
  {C15:Addr} (y15:W.nsIn K mainGlobals "Copy"=some (some (.ref C15)))
  {C16:Addr} (y16:W.nsIn K mainGlobals "Swap"=some (some (.ref C16)))
  {C17:Addr} (y17:W.nsIn K mainGlobals "Raise"=some (some (.ref C17)))
  (o_NoDeed:W.excIn K C6 [.type "ValueError",.type "Exception",.type "BaseException",.type "object"] "ValueError.__new__"=true)
  (x_NoDeed_NoDeed:W.exmOne K (.ref C6) (.ref C6)=some true)
  (ocs:W.specialIn K (.builtin "object.__class__") "__get__"=some (some (.builtin "getset_descriptor.__get__")))
  (oct:W.takesIn K (.builtin "object.__class__")=some true)
  (ga_NoDeed:W.findIn K (.ref C6) "__getattribute__"=some (some (.builtin "BaseException.__getattribute__")))
  (gn_NoDeed:W.findIn K (.ref C6) "__getattr__"=some none)
  (mb_NoDeed:W.mroIn K C6 (.type "BaseException")=some true)
  (mo_NoDeed:W.mroIn K C6 (.type "object")=some true)
  (fc_NoDeed:W.findIn K (.ref C6) "__class__"=some (some (.builtin "object.__class__")))
  (hd_NoDeed:W.hasDictIn K C6=true)
  (kc_NoDeed_PaceError:W.hasDictIn K C0=true)
  (kt_NoDeed_PaceError:W.typeIn K (.ref C0)=some (.type "type"))
  (ks_NoDeed_PaceError:W.subIn K (.ref C6) (.ref C0)=some true)
  (ks_NoDeed_ValueError:W.subIn K (.ref C6) (.type "ValueError")=some true)
  {f0:Addr} {d0:FuncData} (F0:Fun K "__init__" "TooMany.__init__" s_TooMany___init__ f0 d0)
  {f1:Addr} {d1:FuncData} (F1:Fun K "__init__" "NoName.__init__" s_NoName___init__ f1 d1)
  {f2:Addr} {d2:FuncData} (F2:Fun K "__init__" "Known.__init__" s_Known___init__ f2 d2)
  {f3:Addr} {d3:FuncData} (a3:W.nsIn K mainGlobals "is_whole"=some (some (.ref f3))) (F3:Fun K "is_whole" "is_whole" s_is_whole f3 d3)
  {f4:Addr} {d4:FuncData} (a4:W.nsIn K mainGlobals "count_of"=some (some (.ref f4))) (F4:Fun K "count_of" "count_of" s_count_of f4 d4)
  {f5:Addr} {d5:FuncData} (a5:W.nsIn K mainGlobals "paces_of"=some (some (.ref f5))) (F5:Fun K "paces_of" "paces_of" s_paces_of f5 d5)
  {f6:Addr} {d6:FuncData} (a6:W.nsIn K mainGlobals "is_number_below"=some (some (.ref f6))) (F6:Fun K "is_number_below" "is_number_below" s_is_number_below f6 d6)
  {f7:Addr} {d7:FuncData} (a7:W.nsIn K mainGlobals "is_place"=some (some (.ref f7))) (F7:Fun K "is_place" "is_place" s_is_place f7 d7)
  {f8:Addr} {d8:FuncData} (a8:W.nsIn K mainGlobals "refuse_long"=some (some (.ref f8))) (F8:Fun K "refuse_long" "refuse_long" s_refuse_long f8 d8)
  {f9:Addr} {d9:FuncData} (a9:W.nsIn K mainGlobals "is_within"=some (some (.ref f9))) (F9:Fun K "is_within" "is_within" s_is_within f9 d9)
  {f10:Addr} {d10:FuncData} (a10:W.nsIn K mainGlobals "is_size"=some (some (.ref f10))) (F10:Fun K "is_size" "is_size" s_is_size f10 d10)
  {f11:Addr} {d11:FuncData} (a11:W.nsIn K mainGlobals "is_axis"=some (some (.ref f11))) (F11:Fun K "is_axis" "is_axis" s_is_axis f11 d11)
  {f12:Addr} {d12:FuncData} (a12:W.nsIn K mainGlobals "are_axes"=some (some (.ref f12))) (F12:Fun K "are_axes" "are_axes" s_are_axes f12 d12)
  {f13:Addr} {d13:FuncData} (a13:W.nsIn K mainGlobals "kept_axis"=some (some (.ref f13))) (F13:Fun K "kept_axis" "kept_axis" s_kept_axis f13 d13)
  {f14:Addr} {d14:FuncData} (F14:Fun K "__init__" "View.__init__" s_View___init__ f14 d14)
  {f15:Addr} {d15:FuncData} (F15:Fun K "sizes" "View.sizes" s_View_sizes f15 d15)
  {f16:Addr} {d16:FuncData} (F16:Fun K "paces" "View.paces" s_View_paces f16 d16)
  {f17:Addr} {d17:FuncData} (F17:Fun K "count" "View.count" s_View_count f17 d17)
  {f18:Addr} {d18:FuncData} (F18:Fun K "cell" "View.cell" s_View_cell f18 d18)
  {f19:Addr} {d19:FuncData} (F19:Fun K "cells" "View.cells" s_View_cells f19 d19)
  {f20:Addr} {d20:FuncData} (F20:Fun K "least" "View.least" s_View_least f20 d20)
  {f21:Addr} {d21:FuncData} (F21:Fun K "greatest" "View.greatest" s_View_greatest f21 d21)
  {f22:Addr} {d22:FuncData} (a22:W.nsIn K mainGlobals "widened"=some (some (.ref f22))) (F22:Fun K "widened" "widened" s_widened f22 d22)
  {D23:Addr} {qc23:Value} {qd23:Option Addr} {qn23:Nat} {qs23:Array (Option Value)}
  {f23:Addr} {od23 an23:Option Addr} {sl23:Array (Option Value)} {oc23 kV23 dc23 pm23 cd23 ct23:Value}
  (a23:W.nsIn K mainGlobals "whole"=some (some (.ref f23))) (l23:K.lookup f23=some ⟨oc23,od23,.func (W.fnOf "whole" "whole" (defArgs s_whole) (defBody s_whole) (defScope s_whole) (.ref D23) kV23 dc23 pm23 an23 cd23 ct23),sl23⟩)
  (q23:K.lookup D23=some ⟨qc23,qd23,.seq #[Value.none] qn23,qs23⟩)
  (c23:W.codeIn K cd23 "whole"=true) (k23:W.keepIn K (.ref f23)=true)
  {f24:Addr} {d24:FuncData} (a24:W.nsIn K mainGlobals "refuse_rooms"=some (some (.ref f24))) (F24:Fun K "refuse_rooms" "refuse_rooms" s_refuse_rooms f24 d24)
  {f25:Addr} {d25:FuncData} (a25:W.nsIn K mainGlobals "refuse_count"=some (some (.ref f25))) (F25:Fun K "refuse_count" "refuse_count" s_refuse_count f25 d25)
  {f26:Addr} {d26:FuncData} (F26:Fun K "__init__" "Store.__init__" s_Store___init__ f26 d26)
  {f27:Addr} {d27:FuncData} (F27:Fun K "all_values" "Store.all_values" s_Store_all_values f27 d27)
  {f28:Addr} {d28:FuncData} (F28:Fun K "refuse_room" "Store.refuse_room" s_Store_refuse_room f28 d28)
  {f29:Addr} {d29:FuncData} (F29:Fun K "read" "Store.read" s_Store_read f29 d29)
  {f30:Addr} {d30:FuncData} (F30:Fun K "put" "Store.put" s_Store_put f30 d30)
  {f31:Addr} {d31:FuncData} (F31:Fun K "fill" "Store.fill" s_Store_fill f31 d31)
  {f32:Addr} {d32:FuncData} (F32:Fun K "copied" "Store.copied" s_Store_copied f32 d32)
  {f33:Addr} {d33:FuncData} (a33:W.nsIn K mainGlobals "is_name"=some (some (.ref f33))) (F33:Fun K "is_name" "is_name" s_is_name f33 d33)
  {f34:Addr} {d34:FuncData} (F34:Fun K "__init__" "Hall.__init__" s_Hall___init__ f34 d34)
  {f35:Addr} {d35:FuncData} (F35:Fun K "refuse_new" "Hall.refuse_new" s_Hall_refuse_new f35 d35)
  {f36:Addr} {d36:FuncData} (F36:Fun K "call" "Hall.call" s_Hall_call f36 d36)
  {f37:Addr} {d37:FuncData} (F37:Fun K "view" "Hall.view" s_Hall_view f37 d37)
  {f38:Addr} {d38:FuncData} (F38:Fun K "names" "Hall.names" s_Hall_names f38 d38)
  {f39:Addr} {d39:FuncData} (F39:Fun K "all_values" "Hall.all_values" s_Hall_all_values f39 d39)
  {f40:Addr} {d40:FuncData} (F40:Fun K "changed_since" "Hall.changed_since" s_Hall_changed_since f40 d40)
  {f41:Addr} {d41:FuncData} (F41:Fun K "do" "Hall.do" s_Hall_do f41 d41)
  {f42:Addr} {d42:FuncData} (F42:Fun K "back" "Hall.back" s_Hall_back f42 d42)
  {f43:Addr} {d43:FuncData} (a43:W.nsIn K mainGlobals "refuse_two"=some (some (.ref f43))) (F43:Fun K "refuse_two" "refuse_two" s_refuse_two f43 d43)
  {f44:Addr} {d44:FuncData} (F44:Fun K "run" "Statement.run" s_Statement_run f44 d44)
  {f45:Addr} {d45:FuncData} (F45:Fun K "__init__" "Fill.__init__" s_Fill___init__ f45 d45)
  {f46:Addr} {d46:FuncData} (F46:Fun K "run" "Fill.run" s_Fill_run f46 d46)
  {f47:Addr} {d47:FuncData} (F47:Fun K "__init__" "Copy.__init__" s_Copy___init__ f47 d47)
  {f48:Addr} {d48:FuncData} (F48:Fun K "run" "Copy.run" s_Copy_run f48 d48)
  {f49:Addr} {d49:FuncData} (F49:Fun K "__init__" "Swap.__init__" s_Swap___init__ f49 d49)
  {f50:Addr} {d50:FuncData} (F50:Fun K "run" "Swap.run" s_Swap_run f50 d50)
  {f51:Addr} {d51:FuncData} (F51:Fun K "__init__" "Raise.__init__" s_Raise___init__ f51 d51)
  {f52:Addr} {d52:FuncData} (F52:Fun K "run" "Raise.run" s_Raise_run f52 d52)
  {f53:Addr} {d53:FuncData} (a53:W.nsIn K mainGlobals "_law_draw"=some (some (.ref f53))) (F53:Fun K "_law_draw" "_law_draw" s__law_draw f53 d53)
  {f54:Addr} {d54:FuncData} (a54:W.nsIn K mainGlobals "_law_like"=some (some (.ref f54))) (F54:Fun K "_law_like" "_law_like" s__law_like f54 d54)
  {f55:Addr} {d55:FuncData} (a55:W.nsIn K mainGlobals "_law_parts"=some (some (.ref f55))) (F55:Fun K "_law_parts" "_law_parts" s__law_parts f55 d55)
  {f56:Addr} {d56:FuncData} (a56:W.nsIn K mainGlobals "_law_cells"=some (some (.ref f56))) (F56:Fun K "_law_cells" "_law_cells" s__law_cells f56 d56)
  {f57:Addr} {d57:FuncData} (a57:W.nsIn K mainGlobals "_law_view"=some (some (.ref f57))) (F57:Fun K "_law_view" "_law_view" s__law_view f57 d57)
  {f58:Addr} {d58:FuncData} (a58:W.nsIn K mainGlobals "_law_drawn"=some (some (.ref f58))) (F58:Fun K "_law_drawn" "_law_drawn" s__law_drawn f58 d58)
  {f59:Addr} {d59:FuncData} (a59:W.nsIn K mainGlobals "_law_statement"=some (some (.ref f59))) (F59:Fun K "_law_statement" "_law_statement" s__law_statement f59 d59)
  {f60:Addr} {d60:FuncData} (a60:W.nsIn K mainGlobals "_law_read"=some (some (.ref f60))) (F60:Fun K "_law_read" "_law_read" s__law_read f60 d60)
  {f61:Addr} {d61:FuncData} (a61:W.nsIn K mainGlobals "_law_put"=some (some (.ref f61))) (F61:Fun K "_law_put" "_law_put" s__law_put f61 d61)
  {f62:Addr} {d62:FuncData} (a62:W.nsIn K mainGlobals "_law_done"=some (some (.ref f62))) (F62:Fun K "_law_done" "_law_done" s__law_done f62 d62)
  {f63:Addr} {d63:FuncData} (a63:W.nsIn K mainGlobals "_law_others"=some (some (.ref f63))) (F63:Fun K "_law_others" "_law_others" s__law_others f63 d63)
  {f64:Addr} {d64:FuncData} (a64:W.nsIn K mainGlobals "_law_told"=some (some (.ref f64))) (F64:Fun K "_law_told" "_law_told" s__law_told f64 d64)
  {f65:Addr} {d65:FuncData} (a65:W.nsIn K mainGlobals "_law_right"=some (some (.ref f65))) (F65:Fun K "_law_right" "_law_right" s__law_right f65 d65)
  {f66:Addr} {od66 an66:Option Addr} {sl66:Array (Option Value)} {oc66 kV66 dc66 pm66 cd66 ct66:Value}
  (a66:W.nsIn K mainGlobals "law"=some (some (.ref f66))) (l66:K.lookup f66=some ⟨oc66,od66,.func (W.fnOf "law" "law" (defArgs s_law) (defBody s_law) (defScope s_law) .none kV66 dc66 pm66 an66 cd66 ct66),sl66⟩)
  (c66:W.codeIn K cd66 "law"=true) (k66:W.keepIn K (.ref f66)=true)
  (fi_TooMany:W.findIn K (.ref C7) "__init__"=some (some (.ref f0)))
  (xe_TooMany:excInI K C7 f0 [.type "ValueError",.type "Exception",.type "BaseException",.type "object"] "ValueError.__new__"=true)
  (xf_TooMany:W.typeIn K (.ref f0)=some (.type "function"))
  (xo_TooMany:excOver K C7=true)
  (xs_TooMany:W.findIn K (.ref C7) "__setattr__"=some (some (.builtin "object.__setattr__")))
  (xh_TooMany:W.hasDictIn K C7=true)
  (nt_TooMany_number:W.takerIn K C7 "number"=some none)
  (nf_TooMany_number:W.findIn K (.ref C7) "number"=some none)
  (bs_PaceError:W.specialIn K (.ref C0) "__getattribute__"=some (some (.builtin "type.__getattribute__")))
  (br_PaceError:W.readsIn K C0 (.type "type")=true)
  (bf_PaceError:W.findCls K (.ref C0) (.type "type") "__init__"=some (.val (.builtin "ValueError.__init__")))
  (fi_NoName:W.findIn K (.ref C8) "__init__"=some (some (.ref f1)))
  (xe_NoName:excInI K C8 f1 [.type "ValueError",.type "Exception",.type "BaseException",.type "object"] "ValueError.__new__"=true)
  (xf_NoName:W.typeIn K (.ref f1)=some (.type "function"))
  (xo_NoName:excOver K C8=true)
  (xs_NoName:W.findIn K (.ref C8) "__setattr__"=some (some (.builtin "object.__setattr__")))
  (xh_NoName:W.hasDictIn K C8=true)
  (nt_NoName_name:W.takerIn K C8 "name"=some none)
  (nf_NoName_name:W.findIn K (.ref C8) "name"=some none)
  (fi_Known:W.findIn K (.ref C9) "__init__"=some (some (.ref f2)))
  (xe_Known:excInI K C9 f2 [.type "ValueError",.type "Exception",.type "BaseException",.type "object"] "ValueError.__new__"=true)
  (xf_Known:W.typeIn K (.ref f2)=some (.type "function"))
  (xo_Known:excOver K C9=true)
  (xs_Known:W.findIn K (.ref C9) "__setattr__"=some (some (.builtin "object.__setattr__")))
  (xh_Known:W.hasDictIn K C9=true)
  (nt_Known_name:W.takerIn K C9 "name"=some none)
  (nf_Known_name:W.findIn K (.ref C9) "name"=some none)
  (pg_View:W.plainGet K C10 Str.empty=true)
  (hd_View:W.hasDictIn K C10=true)
  (po_View:W.plainOver K C10=true)
  (sa_View:W.findIn K (.ref C10) "__setattr__"=some (some (.builtin "object.__setattr__")))
  (nf_View_axes:W.findIn K (.ref C10) "axes"=some none)
  (nf_View_first:W.findIn K (.ref C10) "first"=some none)
  (nf_View_room:W.findIn K (.ref C10) "room"=some none)
  (fi_View___init__:W.findIn K (.ref C10) "__init__"=some (some (.ref f14)))
  (fn_View___init__:W.isFn K (.ref f14)=true)
  (mm_View:W.makesIn K C10=true)
  (ck_View:W.keepIn K (.ref C10)=true)
  (fi_View_sizes:W.findIn K (.ref C10) "sizes"=some (some (.ref f15)))
  (fn_View_sizes:W.isFn K (.ref f15)=true)
  (fi_View_paces:W.findIn K (.ref C10) "paces"=some (some (.ref f16)))
  (fn_View_paces:W.isFn K (.ref f16)=true)
  (fi_View_count:W.findIn K (.ref C10) "count"=some (some (.ref f17)))
  (fn_View_count:W.isFn K (.ref f17)=true)
  (fi_View_cell:W.findIn K (.ref C10) "cell"=some (some (.ref f18)))
  (fn_View_cell:W.isFn K (.ref f18)=true)
  (fi_View_cells:W.findIn K (.ref C10) "cells"=some (some (.ref f19)))
  (fn_View_cells:W.isFn K (.ref f19)=true)
  (fi_View_least:W.findIn K (.ref C10) "least"=some (some (.ref f20)))
  (fn_View_least:W.isFn K (.ref f20)=true)
  (fi_View_greatest:W.findIn K (.ref C10) "greatest"=some (some (.ref f21)))
  (fn_View_greatest:W.isFn K (.ref f21)=true)
  (pg_Store:W.plainGet K C11 Str.empty=true)
  (hd_Store:W.hasDictIn K C11=true)
  (po_Store:W.plainOver K C11=true)
  (sa_Store:W.findIn K (.ref C11) "__setattr__"=some (some (.builtin "object.__setattr__")))
  (nf_Store_floor:W.findIn K (.ref C11) "floor"=some none)
  (fi_Store___init__:W.findIn K (.ref C11) "__init__"=some (some (.ref f26)))
  (fn_Store___init__:W.isFn K (.ref f26)=true)
  (mm_Store:W.makesIn K C11=true)
  (ck_Store:W.keepIn K (.ref C11)=true)
  (fi_Store_all_values:W.findIn K (.ref C11) "all_values"=some (some (.ref f27)))
  (fn_Store_all_values:W.isFn K (.ref f27)=true)
  (fi_Store_refuse_room:W.findIn K (.ref C11) "refuse_room"=some (some (.ref f28)))
  (fn_Store_refuse_room:W.isFn K (.ref f28)=true)
  (fi_Store_read:W.findIn K (.ref C11) "read"=some (some (.ref f29)))
  (fn_Store_read:W.isFn K (.ref f29)=true)
  (fi_Store_put:W.findIn K (.ref C11) "put"=some (some (.ref f30)))
  (fn_Store_put:W.isFn K (.ref f30)=true)
  (fi_Store_fill:W.findIn K (.ref C11) "fill"=some (some (.ref f31)))
  (fn_Store_fill:W.isFn K (.ref f31)=true)
  (fi_Store_copied:W.findIn K (.ref C11) "copied"=some (some (.ref f32)))
  (fn_Store_copied:W.isFn K (.ref f32)=true)
  (pg_Hall:W.plainGet K C12 Str.empty=true)
  (hd_Hall:W.hasDictIn K C12=true)
  (po_Hall:W.plainOver K C12=true)
  (sa_Hall:W.findIn K (.ref C12) "__setattr__"=some (some (.builtin "object.__setattr__")))
  (nf_Hall_past:W.findIn K (.ref C12) "past"=some none)
  (nf_Hall_store:W.findIn K (.ref C12) "store"=some none)
  (nf_Hall_views:W.findIn K (.ref C12) "views"=some none)
  (fi_Hall___init__:W.findIn K (.ref C12) "__init__"=some (some (.ref f34)))
  (fn_Hall___init__:W.isFn K (.ref f34)=true)
  (mm_Hall:W.makesIn K C12=true)
  (ck_Hall:W.keepIn K (.ref C12)=true)
  (fi_Hall_refuse_new:W.findIn K (.ref C12) "refuse_new"=some (some (.ref f35)))
  (fn_Hall_refuse_new:W.isFn K (.ref f35)=true)
  (fi_Hall_call:W.findIn K (.ref C12) "call"=some (some (.ref f36)))
  (fn_Hall_call:W.isFn K (.ref f36)=true)
  (fi_Hall_view:W.findIn K (.ref C12) "view"=some (some (.ref f37)))
  (fn_Hall_view:W.isFn K (.ref f37)=true)
  (fi_Hall_names:W.findIn K (.ref C12) "names"=some (some (.ref f38)))
  (fn_Hall_names:W.isFn K (.ref f38)=true)
  (fi_Hall_all_values:W.findIn K (.ref C12) "all_values"=some (some (.ref f39)))
  (fn_Hall_all_values:W.isFn K (.ref f39)=true)
  (fi_Hall_changed_since:W.findIn K (.ref C12) "changed_since"=some (some (.ref f40)))
  (fn_Hall_changed_since:W.isFn K (.ref f40)=true)
  (fi_Hall_do:W.findIn K (.ref C12) "do"=some (some (.ref f41)))
  (fn_Hall_do:W.isFn K (.ref f41)=true)
  (fi_Hall_back:W.findIn K (.ref C12) "back"=some (some (.ref f42)))
  (fn_Hall_back:W.isFn K (.ref f42)=true)
  (pg_Statement:W.plainGet K C13 Str.empty=true)
  (hd_Statement:W.hasDictIn K C13=true)
  (po_Statement:W.plainOver K C13=true)
  (sa_Statement:W.findIn K (.ref C13) "__setattr__"=some (some (.builtin "object.__setattr__")))
  (mm_Statement:W.makesIn K C13=true)
  (ck_Statement:W.keepIn K (.ref C13)=true)
  (fi0_Statement:W.findIn K (.ref C13) "__init__"=some (some (.builtin "object.__init__")))
  (fi_Statement_run:W.findIn K (.ref C13) "run"=some (some (.ref f44)))
  (fn_Statement_run:W.isFn K (.ref f44)=true)
  (pg_Fill:W.plainGet K C14 Str.empty=true)
  (hd_Fill:W.hasDictIn K C14=true)
  (po_Fill:W.plainOver K C14=true)
  (sa_Fill:W.findIn K (.ref C14) "__setattr__"=some (some (.builtin "object.__setattr__")))
  (nf_Fill_to:W.findIn K (.ref C14) "to"=some none)
  (nf_Fill_value:W.findIn K (.ref C14) "value"=some none)
  (fi_Fill_run:W.findIn K (.ref C14) "run"=some (some (.ref f46)))
  (fn_Fill_run:W.isFn K (.ref f46)=true)
  (fi_Fill___init__:W.findIn K (.ref C14) "__init__"=some (some (.ref f45)))
  (fn_Fill___init__:W.isFn K (.ref f45)=true)
  (mm_Fill:W.makesIn K C14=true)
  (ck_Fill:W.keepIn K (.ref C14)=true)
  (pg_Copy:W.plainGet K C15 Str.empty=true)
  (hd_Copy:W.hasDictIn K C15=true)
  (po_Copy:W.plainOver K C15=true)
  (sa_Copy:W.findIn K (.ref C15) "__setattr__"=some (some (.builtin "object.__setattr__")))
  (nf_Copy_source:W.findIn K (.ref C15) "source"=some none)
  (nf_Copy_to:W.findIn K (.ref C15) "to"=some none)
  (fi_Copy_run:W.findIn K (.ref C15) "run"=some (some (.ref f48)))
  (fn_Copy_run:W.isFn K (.ref f48)=true)
  (fi_Copy___init__:W.findIn K (.ref C15) "__init__"=some (some (.ref f47)))
  (fn_Copy___init__:W.isFn K (.ref f47)=true)
  (mm_Copy:W.makesIn K C15=true)
  (ck_Copy:W.keepIn K (.ref C15)=true)
  (pg_Swap:W.plainGet K C16 Str.empty=true)
  (hd_Swap:W.hasDictIn K C16=true)
  (po_Swap:W.plainOver K C16=true)
  (sa_Swap:W.findIn K (.ref C16) "__setattr__"=some (some (.builtin "object.__setattr__")))
  (nf_Swap_one:W.findIn K (.ref C16) "one"=some none)
  (nf_Swap_other:W.findIn K (.ref C16) "other"=some none)
  (fi_Swap_run:W.findIn K (.ref C16) "run"=some (some (.ref f50)))
  (fn_Swap_run:W.isFn K (.ref f50)=true)
  (fi_Swap___init__:W.findIn K (.ref C16) "__init__"=some (some (.ref f49)))
  (fn_Swap___init__:W.isFn K (.ref f49)=true)
  (mm_Swap:W.makesIn K C16=true)
  (ck_Swap:W.keepIn K (.ref C16)=true)
  (pg_Raise:W.plainGet K C17 Str.empty=true)
  (hd_Raise:W.hasDictIn K C17=true)
  (po_Raise:W.plainOver K C17=true)
  (sa_Raise:W.findIn K (.ref C17) "__setattr__"=some (some (.builtin "object.__setattr__")))
  (nf_Raise_source:W.findIn K (.ref C17) "source"=some none)
  (nf_Raise_to:W.findIn K (.ref C17) "to"=some none)
  (fi_Raise_run:W.findIn K (.ref C17) "run"=some (some (.ref f52)))
  (fn_Raise_run:W.isFn K (.ref f52)=true)
  (fi_Raise___init__:W.findIn K (.ref C17) "__init__"=some (some (.ref f51)))
  (fn_Raise___init__:W.isFn K (.ref f51)=true)
  (mm_Raise:W.makesIn K C17=true)
  (ck_Raise:W.keepIn K (.ref C17)=true)
  {tk0:Tok} (w0:W.nsIn K mainGlobals "MOST_TOLD"=some (some (.int 4096 tk0)))
  {tk1:Tok} (w1:W.nsIn K mainGlobals "MOST_ROOM"=some (some (.int 1000000000000000000 tk1)))
  {tk2:Tok} (w2:W.nsIn K mainGlobals "MOST_SIZE"=some (some (.int 1000000000 tk2)))
  {tk3:Tok} (w3:W.nsIn K mainGlobals "MOST_AXES"=some (some (.int 8 tk3)))
  {tk4:Tok} (w4:W.nsIn K mainGlobals "LETTERS"=some (some (.str "abcdefghijklmnopqrstuvwxyz" tk4)))
  {tk5:Tok} (w5:W.nsIn K mainGlobals "MOST_LETTERS"=some (some (.int 8 tk5)))
  (z0:W.nsIn K mainGlobals "ValueError"=some none)
  (z1:W.nsIn K mainGlobals "abs"=some none)
  (z2:W.nsIn K mainGlobals "all"=some none)
  (z3:W.nsIn K mainGlobals "any"=some none)
  (z4:W.nsIn K mainGlobals "bool"=some none)
  (z5:W.nsIn K mainGlobals "enumerate"=some none)
  (z6:W.nsIn K mainGlobals "int"=some none)
  (z7:W.nsIn K mainGlobals "isinstance"=some none)
  (z8:W.nsIn K mainGlobals "len"=some none)
  (z9:W.nsIn K mainGlobals "list"=some none)
  (z10:W.nsIn K mainGlobals "max"=some none)
  (z11:W.nsIn K mainGlobals "min"=some none)
  (z12:W.nsIn K mainGlobals "range"=some none)
  (z13:W.nsIn K mainGlobals "reversed"=some none)
  (z14:W.nsIn K mainGlobals "str"=some none)
  (z15:W.nsIn K mainGlobals "sum"=some none)
  (z16:W.nsIn K mainGlobals "tuple"=some none)
  (z17:W.nsIn K mainGlobals "zip"=some none)
  : ∃ fd:FuncData,(∀ (s:Shared) (v:Value),BindsTo s fd ⟨[v],[]⟩ [("_law_script",v)])/\∀ base:Heap,K.In base->base.Ns mainGlobals mg->FnOk l.prog w K mg base CX0 12 fa fd ["_law_script"] (spLaw K):=by
 have e:=hfa.symm.trans (W.mg_of X G a66)
 cases e
 have F23:=funX_mk (st:=s_whole) l23 c23 k23
 have F66:=fun_mk (st:=s_law) l66 c66 k66
 have T:Tx K mg ⟨C0,C1,C2,C3,C4,C5,C6,C7,C8,C9,C10,C11,C12,C13,C14,C15,C16,C17,f0,_,f1,_,f2,_,f3,_,f4,_,f5,_,f6,_,f7,_,f8,_,f9,_,f10,_,f11,_,f12,_,f13,_,f14,_,f15,_,f16,_,f17,_,f18,_,f19,_,f20,_,f21,_,f22,_,f23,_,f24,_,f25,_,f26,_,f27,_,f28,_,f29,_,f30,_,f31,_,f32,_,f33,_,f34,_,f35,_,f36,_,f37,_,f38,_,f39,_,f40,_,f41,_,f42,_,f43,_,f44,_,f45,_,f46,_,f47,_,f48,_,f49,_,f50,_,f51,_,f52,_,f53,_,f54,_,f55,_,f56,_,f57,_,f58,_,f59,_,f60,_,f61,_,f62,_,f63,_,f64,_,f65,_,fa,_⟩:=⟨W.mg_of X G y0,W.mg_of X G y1,W.mg_of X G y2,W.mg_of X G y3,W.mg_of X G y4,W.mg_of X G y5,W.mg_of X G y6,W.mg_of X G y7,W.mg_of X G y8,W.mg_of X G y9,W.mg_of X G y10,W.mg_of X G y11,W.mg_of X G y12,W.mg_of X G y13,W.mg_of X G y14,W.mg_of X G y15,W.mg_of X G y16,W.mg_of X G y17,o_NoDeed,x_NoDeed_NoDeed,ocs,oct,ga_NoDeed,gn_NoDeed,mb_NoDeed,mo_NoDeed,fc_NoDeed,hd_NoDeed,kc_NoDeed_PaceError,kt_NoDeed_PaceError,ks_NoDeed_PaceError,ks_NoDeed_ValueError,⟨_,W.mg_of X G w0⟩,⟨_,W.mg_of X G w1⟩,⟨_,W.mg_of X G w2⟩,⟨_,W.mg_of X G w3⟩,⟨_,W.mg_of X G w4⟩,⟨_,W.mg_of X G w5⟩,⟨xe_TooMany,xf_TooMany,⟨xo_TooMany,xs_TooMany,xh_TooMany⟩⟩,nt_TooMany_number,nf_TooMany_number,⟨bs_PaceError,br_PaceError,bf_PaceError⟩,⟨xe_NoName,xf_NoName,⟨xo_NoName,xs_NoName,xh_NoName⟩⟩,nt_NoName_name,nf_NoName_name,⟨xe_Known,xf_Known,⟨xo_Known,xs_Known,xh_Known⟩⟩,nt_Known_name,nf_Known_name,⟨pg_View,hd_View,po_View,sa_View⟩,nf_View_axes,nf_View_first,nf_View_room,⟨mm_View,fi_View___init__,fn_View___init__,ck_View⟩,⟨fi_View_sizes,fn_View_sizes,F15.kp⟩,⟨fi_View_paces,fn_View_paces,F16.kp⟩,⟨fi_View_count,fn_View_count,F17.kp⟩,⟨fi_View_cell,fn_View_cell,F18.kp⟩,⟨fi_View_cells,fn_View_cells,F19.kp⟩,⟨fi_View_least,fn_View_least,F20.kp⟩,⟨fi_View_greatest,fn_View_greatest,F21.kp⟩,⟨pg_Store,hd_Store,po_Store,sa_Store⟩,nf_Store_floor,⟨mm_Store,fi_Store___init__,fn_Store___init__,ck_Store⟩,⟨fi_Store_all_values,fn_Store_all_values,F27.kp⟩,⟨fi_Store_refuse_room,fn_Store_refuse_room,F28.kp⟩,⟨fi_Store_read,fn_Store_read,F29.kp⟩,⟨fi_Store_put,fn_Store_put,F30.kp⟩,⟨fi_Store_fill,fn_Store_fill,F31.kp⟩,⟨fi_Store_copied,fn_Store_copied,F32.kp⟩,⟨pg_Hall,hd_Hall,po_Hall,sa_Hall⟩,nf_Hall_past,nf_Hall_store,nf_Hall_views,⟨mm_Hall,fi_Hall___init__,fn_Hall___init__,ck_Hall⟩,⟨fi_Hall_refuse_new,fn_Hall_refuse_new,F35.kp⟩,⟨fi_Hall_call,fn_Hall_call,F36.kp⟩,⟨fi_Hall_view,fn_Hall_view,F37.kp⟩,⟨fi_Hall_names,fn_Hall_names,F38.kp⟩,⟨fi_Hall_all_values,fn_Hall_all_values,F39.kp⟩,⟨fi_Hall_changed_since,fn_Hall_changed_since,F40.kp⟩,⟨fi_Hall_do,fn_Hall_do,F41.kp⟩,⟨fi_Hall_back,fn_Hall_back,F42.kp⟩,⟨pg_Statement,hd_Statement,po_Statement,sa_Statement⟩,⟨mm_Statement,fi0_Statement,ck_Statement⟩,⟨fi_Statement_run,fn_Statement_run,F44.kp⟩,⟨pg_Fill,hd_Fill,po_Fill,sa_Fill⟩,nf_Fill_to,nf_Fill_value,⟨fi_Fill_run,fn_Fill_run,F46.kp⟩,⟨mm_Fill,fi_Fill___init__,fn_Fill___init__,ck_Fill⟩,⟨pg_Copy,hd_Copy,po_Copy,sa_Copy⟩,nf_Copy_source,nf_Copy_to,⟨fi_Copy_run,fn_Copy_run,F48.kp⟩,⟨mm_Copy,fi_Copy___init__,fn_Copy___init__,ck_Copy⟩,⟨pg_Swap,hd_Swap,po_Swap,sa_Swap⟩,nf_Swap_one,nf_Swap_other,⟨fi_Swap_run,fn_Swap_run,F50.kp⟩,⟨mm_Swap,fi_Swap___init__,fn_Swap___init__,ck_Swap⟩,⟨pg_Raise,hd_Raise,po_Raise,sa_Raise⟩,nf_Raise_source,nf_Raise_to,⟨fi_Raise_run,fn_Raise_run,F52.kp⟩,⟨mm_Raise,fi_Raise___init__,fn_Raise___init__,ck_Raise⟩,F0,F0.binds (ps:=["self", "number"]) (λ _ _ _ _ _ _=>len2 (λ _ _=>rfl)),F1,F1.binds (ps:=["self", "name"]) (λ _ _ _ _ _ _=>len2 (λ _ _=>rfl)),F2,F2.binds (ps:=["self", "name"]) (λ _ _ _ _ _ _=>len2 (λ _ _=>rfl)),F3,W.mg_of X G a3,F3.binds (ps:=["thing"]) (λ _ _ _ _ _ _=>len1 (λ _=>rfl)),F4,W.mg_of X G a4,F4.binds (ps:=["sizes"]) (λ _ _ _ _ _ _=>len1 (λ _=>rfl)),F5,W.mg_of X G a5,F5.binds (ps:=["sizes"]) (λ _ _ _ _ _ _=>len1 (λ _=>rfl)),F6,W.mg_of X G a6,F6.binds (ps:=["thing", "bound"]) (λ _ _ _ _ _ _=>len2 (λ _ _=>rfl)),F7,W.mg_of X G a7,F7.binds (ps:=["sizes", "thing"]) (λ _ _ _ _ _ _=>len2 (λ _ _=>rfl)),F8,W.mg_of X G a8,F8.binds (ps:=["count"]) (λ _ _ _ _ _ _=>len1 (λ _=>rfl)),F9,W.mg_of X G a9,F9.binds (ps:=["thing", "low", "high"]) (λ _ _ _ _ _ _=>len3 (λ _ _ _=>rfl)),F10,W.mg_of X G a10,F10.binds (ps:=["thing"]) (λ _ _ _ _ _ _=>len1 (λ _=>rfl)),F11,W.mg_of X G a11,F11.binds (ps:=["thing"]) (λ _ _ _ _ _ _=>len1 (λ _=>rfl)),F12,W.mg_of X G a12,F12.binds (ps:=["thing"]) (λ _ _ _ _ _ _=>len1 (λ _=>rfl)),F13,W.mg_of X G a13,F13.binds (ps:=["axis"]) (λ _ _ _ _ _ _=>len1 (λ _=>rfl)),F14,F14.binds (ps:=["self", "room", "first", "axes"]) (λ _ _ _ _ _ _=>len4 (λ _ _ _ _=>rfl)),F15,F15.binds (ps:=["self"]) (λ _ _ _ _ _ _=>len1 (λ _=>rfl)),F16,F16.binds (ps:=["self"]) (λ _ _ _ _ _ _=>len1 (λ _=>rfl)),F17,F17.binds (ps:=["self"]) (λ _ _ _ _ _ _=>len1 (λ _=>rfl)),F18,F18.binds (ps:=["self", "place"]) (λ _ _ _ _ _ _=>len2 (λ _ _=>rfl)),F19,F19.binds (ps:=["self"]) (λ _ _ _ _ _ _=>len1 (λ _=>rfl)),F20,F20.binds (ps:=["self"]) (λ _ _ _ _ _ _=>len1 (λ _=>rfl)),F21,F21.binds (ps:=["self"]) (λ _ _ _ _ _ _=>len1 (λ _=>rfl)),F22,W.mg_of X G a22,F22.binds (ps:=["cells", "size", "pace"]) (λ _ _ _ _ _ _=>len3 (λ _ _ _=>rfl)),F23,W.mg_of X G a23,(λ s us hin hl=>match us,(show us.length=2 by simp only [List.length_append,List.length_cons,List.length_nil] at hl;omega) with|[_,_],_=>BindsTo.of_defaults rfl (hin _ _ q23) rfl rfl rfl),(λ s us hin hl=>match us,(show us.length=1 by simp only [List.length_append,List.length_cons,List.length_nil] at hl;omega) with|[_],_=>BindsTo.of_defaults rfl (hin _ _ q23) rfl rfl rfl),F24,W.mg_of X G a24,F24.binds (ps:=["one", "other"]) (λ _ _ _ _ _ _=>len2 (λ _ _=>rfl)),F25,W.mg_of X G a25,F25.binds (ps:=["view", "many"]) (λ _ _ _ _ _ _=>len2 (λ _ _=>rfl)),F26,F26.binds (ps:=["self", "values"]) (λ _ _ _ _ _ _=>len2 (λ _ _=>rfl)),F27,F27.binds (ps:=["self"]) (λ _ _ _ _ _ _=>len1 (λ _=>rfl)),F28,F28.binds (ps:=["self", "view"]) (λ _ _ _ _ _ _=>len2 (λ _ _=>rfl)),F29,F29.binds (ps:=["self", "view"]) (λ _ _ _ _ _ _=>len2 (λ _ _=>rfl)),F30,F30.binds (ps:=["self", "view", "values"]) (λ _ _ _ _ _ _=>len3 (λ _ _ _=>rfl)),F31,F31.binds (ps:=["self", "view", "value"]) (λ _ _ _ _ _ _=>len3 (λ _ _ _=>rfl)),F32,F32.binds (ps:=["self", "to", "source"]) (λ _ _ _ _ _ _=>len3 (λ _ _ _=>rfl)),F33,W.mg_of X G a33,F33.binds (ps:=["thing"]) (λ _ _ _ _ _ _=>len1 (λ _=>rfl)),F34,F34.binds (ps:=["self", "values"]) (λ _ _ _ _ _ _=>len2 (λ _ _=>rfl)),F35,F35.binds (ps:=["self", "name"]) (λ _ _ _ _ _ _=>len2 (λ _ _=>rfl)),F36,F36.binds (ps:=["self", "name", "view"]) (λ _ _ _ _ _ _=>len3 (λ _ _ _=>rfl)),F37,F37.binds (ps:=["self", "name"]) (λ _ _ _ _ _ _=>len2 (λ _ _=>rfl)),F38,F38.binds (ps:=["self"]) (λ _ _ _ _ _ _=>len1 (λ _=>rfl)),F39,F39.binds (ps:=["self"]) (λ _ _ _ _ _ _=>len1 (λ _=>rfl)),F40,F40.binds (ps:=["self", "before"]) (λ _ _ _ _ _ _=>len2 (λ _ _=>rfl)),F41,F41.binds (ps:=["self", "statement"]) (λ _ _ _ _ _ _=>len2 (λ _ _=>rfl)),F42,F42.binds (ps:=["self"]) (λ _ _ _ _ _ _=>len1 (λ _=>rfl)),F43,W.mg_of X G a43,F43.binds (ps:=["one", "other"]) (λ _ _ _ _ _ _=>len2 (λ _ _=>rfl)),F44,F44.binds (ps:=["self", "store"]) (λ _ _ _ _ _ _=>len2 (λ _ _=>rfl)),F45,F45.binds (ps:=["self", "to", "value"]) (λ _ _ _ _ _ _=>len3 (λ _ _ _=>rfl)),F46,F46.binds (ps:=["self", "store"]) (λ _ _ _ _ _ _=>len2 (λ _ _=>rfl)),F47,F47.binds (ps:=["self", "to", "source"]) (λ _ _ _ _ _ _=>len3 (λ _ _ _=>rfl)),F48,F48.binds (ps:=["self", "store"]) (λ _ _ _ _ _ _=>len2 (λ _ _=>rfl)),F49,F49.binds (ps:=["self", "one", "other"]) (λ _ _ _ _ _ _=>len3 (λ _ _ _=>rfl)),F50,F50.binds (ps:=["self", "store"]) (λ _ _ _ _ _ _=>len2 (λ _ _=>rfl)),F51,F51.binds (ps:=["self", "to", "source"]) (λ _ _ _ _ _ _=>len3 (λ _ _ _=>rfl)),F52,F52.binds (ps:=["self", "store"]) (λ _ _ _ _ _ _=>len2 (λ _ _=>rfl)),F53,W.mg_of X G a53,F53.binds (ps:=["_law_script", "_law_k", "_law_many"]) (λ _ _ _ _ _ _=>len3 (λ _ _ _=>rfl)),F54,W.mg_of X G a54,F54.binds (ps:=["_law_cell", "_law_room", "_law_sizes"]) (λ _ _ _ _ _ _=>len3 (λ _ _ _=>rfl)),F55,W.mg_of X G a55,F55.binds (ps:=["_law_cell", "_law_room"]) (λ _ _ _ _ _ _=>len2 (λ _ _=>rfl)),F56,W.mg_of X G a56,F56.binds (ps:=["_law_parts_here"]) (λ _ _ _ _ _ _=>len1 (λ _=>rfl)),F57,W.mg_of X G a57,F57.binds (ps:=["_law_parts_here"]) (λ _ _ _ _ _ _=>len1 (λ _=>rfl)),F58,W.mg_of X G a58,F58.binds (ps:=["_law_cell", "_law_room"]) (λ _ _ _ _ _ _=>len2 (λ _ _=>rfl)),F59,W.mg_of X G a59,F59.binds (ps:=["_law_deed"]) (λ _ _ _ _ _ _=>len1 (λ _=>rfl)),F60,W.mg_of X G a60,F60.binds (ps:=["_law_values", "_law_parts_here"]) (λ _ _ _ _ _ _=>len2 (λ _ _=>rfl)),F61,W.mg_of X G a61,F61.binds (ps:=["_law_values", "_law_parts_here", "_law_some"]) (λ _ _ _ _ _ _=>len3 (λ _ _ _=>rfl)),F62,W.mg_of X G a62,F62.binds (ps:=["_law_values", "_law_deed"]) (λ _ _ _ _ _ _=>len2 (λ _ _=>rfl)),F63,W.mg_of X G a63,F63.binds (ps:=["_law_names", "_law_before", "_law_behind"]) (λ _ _ _ _ _ _=>len3 (λ _ _ _=>rfl)),F64,W.mg_of X G a64,F64.binds (ps:=["_law_hall", "_law_statement_here"]) (λ _ _ _ _ _ _=>len2 (λ _ _=>rfl)),F65,W.mg_of X G a65,F65.binds (ps:=["_law_found", "_law_due"]) (λ _ _ _ _ _ _=>len2 (λ _ _=>rfl)),F66,W.mg_of X G a66,F66.binds (ps:=["_law_script"]) (λ _ _ _ _ _ _=>len1 (λ _=>rfl)),W.mg_none_of X G z0,W.mg_none_of X G z1,W.mg_none_of X G z2,W.mg_none_of X G z3,W.mg_none_of X G z4,W.mg_none_of X G z5,W.mg_none_of X G z6,W.mg_none_of X G z7,W.mg_none_of X G z8,W.mg_none_of X G z9,W.mg_none_of X G z10,W.mg_none_of X G z11,W.mg_none_of X G z12,W.mg_none_of X G z13,W.mg_none_of X G z14,W.mg_none_of X G z15,W.mg_none_of X G z16,W.mg_none_of X G z17⟩
 exact ⟨W.fnOf "law" "law" (defArgs s_law) (defBody s_law) (defScope s_law) .none kV66 dc66 pm66 an66 cd66 ct66,λ s v=>.of_eq rfl,λ base _ _=>ok_law T⟩
theorem walk {l:W.OpenLaw}{q:Program}{loose:List Str}{XP:(Str->Option Value)->Heap->Prop}{YP:World->Heap->Prop}{d:DefRec}{K:Params->W.Frag}(hn:l.most=some 63) (hdf:d.params.defaults=[])
  (hY:∀ (w:World) (h:Heap),YP w h->(K w.params).In h)
  (F:∀ (w:World) (mg:Str->Option Value) (fa:Addr) (h:Heap),(K w.params).In h->h.Ns mainGlobals mg->mg d.name=some (.ref fa) →
   ∃ fd:FuncData,(∀ (s:Shared) (u:Value),BindsTo s fd ⟨[u],[]⟩ [("_law_script",u)])/\∀ base:Heap,(K w.params).In base->base.Ns mainGlobals mg->FnOk l.prog w (K w.params) mg base CX0 12 fa fd ["_law_script"] (spLaw (K w.params))) :
  W.WalkO q loose XP YP l.row.toRowW d [] (λ f vs=>PySem.call f vs):=
 L2.walk_of (n:=63) (k:=12) (x := "_law_script") (CX:=λ _=>CX0) (sp:=λ w=>spLaw (K w.params)) hn ⋯ hdf ⟨rfl,by decide,by decide⟩ hY F (λ _ _ a ns hl _ hS=>⟨a,rfl,ns,hS,hl,λ _=>rfl⟩) λ _ _ _ _ _ z=>z
end PH
namespace PySem.W.Fast
def tw2602135320006867190:=0
def tw3138642409289930292:=0
def tw10851467762959499186:=0
def tw1295561399283906845:=0
def tw11707669868253023218:=0
def tw2910105740900406675:=0
def tw4315203691056798366:=0
def tw8486748563229623553:=0
def tw14744622921848743696:=0
def tw6528549678028211000:=0
def tw4243895203169841967:=0
def tw4084288195199469439:=0
def tw13772938151230802267:=0
def tw2290480277543375153:=0
def tw7192305000623975584:=0
def tw301367107646859120:=0
def tw17365241303915487113:=0
def tw3006098640645810767:=0
def tw10186056659874373904:=0
def tw4801216514310776200:=0
def tw2854569411176621205:=0
def tw17412087750710951982:=0
def tw18201549046759555405:=0
def tw12568556660017456961:=0
def tw14260942103810737964:=0
def tw11130426523687538158:=0
def tw8084643125997240584:=0
def tw11595640850866933742:=0
def tw2432771418546416934:=0
def tw6859457000711042402:=0
def tw5641396885784307784:=0
def tw14227284094867601172:=0
def tw5472563465938779038:=0
def tw826535470794982898:=0
def tw15106095722841998318:=0
def tw8713824624614335953:=0
def tw4690342072556178989:=0
def tw14392479412790235700:=0
def tw12305679117920043984:=0
def tw9776999946271185708:=0
def tw4899440149814555006:=0
def tw6257644511875333672:=0
def tw16982230898974542861:=0
def tw16501495814681432808:=0
def tw18023114793034103116:=0
def tw11428120205189066180:=0
def tw17011854658342186935:=0
def tw11043998546566158793:=0
def tw17781759237386380932:=0
def tw15298814833142795876:=0
def tw39045371112746542:=0
def tw11782414684579429530:=0
def tw17600270697451786499:=0
def tw11287423660520512609:=0
def tw5699734151992189527:=0
def tw5430610887961605478:=0
def tw8045188278709966779:=0
def tw6048468813334700178:=0
def tw7825385385831008675:=0
def tw13987098534455043779:=0
def tw3334551208592009956:=0
def tw4404902980176086781:=0
def tw5601187015117638556:=0
def tw18222285267844505448:=0
def tw9823584623830302560:=0
def tw12445038564997714329:=0
def tw4907527739106924172:=0
def tw9944530679356450515:=0
def tw16291631951088736575:=0
def tw14553474675163358517:=0
def tw2602776931325528302:=0
def tw2114782852304897063:=0
def tw3949932649743959817:=0
def tw162658513025172892:=0
def tw6292921839525016886:=0
def tw299591874649031176:=0
def tw10104601628854281317:=0
def tw6221552422424942999:=0
def tw9715555826987091082:=0
def tw8633355503248104917:=0
def tw9372752243423035073:=0
def tw15133030002254072414:=0
def tw13183191530819723838:=0
def tw400533316032429868:=0
def tw15252199843563251498:=0
def tw925386567016725002:=0
def tw6195540122710645248:=0
def tw12032593718801928616:=0
def tw3070907938361999548:=0
def tw5026358558468856069:=0
def tw9334379642071090938:=0
def tw9687999418729360812:=0
def tw6077015412884415398:=0
def tw12650142249620418564:=0
def tw2707599156468667704:=0
def tw1555748541018909078:=0
def tw9628401905458753582:=0
def tw7365745874575201673:=0
def tw7579204580712397247:=0
def tw6997659297752617047:=0
def tw7374439512050256053:=0
def tw12211110253088573107:=0
def tw12331105000191007607:=0
def tw10124788909958409693:=0
end PySem.W.Fast
open PySem PySem.W PyProof.Rows
theorem PySem.Challenge.cw_pacehall_k86_done_and_back_holds : PySem.Challenge.rw_pacehall_k86_done_and_back.Holds := by
 w_on;o_law;k_head;(case hw=>w_witness2)
 k_fill
 refine PH.walk (l:=PySem.Challenge.rw_pacehall_k86_done_and_back) rfl rfl (λ w h Y=>PySem.W.kIn_of Y) ?F
 case F=>
  intro w mg fa h KX G hmg
  refine' PH.all_mk KX G hmg ?y0 ?y1 ?y2 ?y3 ?y4 ?y5 ?y6 ?y7 ?y8 ?y9 ?y10 ?y11 ?y12 ?y13 ?y14 ?y15 ?y16 ?y17 ?o_NoDeed ?x_NoDeed_NoDeed ?ocs ?oct ?ga_NoDeed ?gn_NoDeed ?mb_NoDeed ?mo_NoDeed ?fc_NoDeed ?hd_NoDeed ?kc_NoDeed_PaceError ?kt_NoDeed_PaceError ?ks_NoDeed_PaceError ?ks_NoDeed_ValueError ?F0 ?F1 ?F2 ?a3 ?F3 ?a4 ?F4 ?a5 ?F5 ?a6 ?F6 ?a7 ?F7 ?a8 ?F8 ?a9 ?F9 ?a10 ?F10 ?a11 ?F11 ?a12 ?F12 ?a13 ?F13 ?F14 ?F15 ?F16 ?F17 ?F18 ?F19 ?F20 ?F21 ?a22 ?F22 ?a23 ?l23 ?q23 ?c23 ?k23 ?a24 ?F24 ?a25 ?F25 ?F26 ?F27 ?F28 ?F29 ?F30 ?F31 ?F32 ?a33 ?F33 ?F34 ?F35 ?F36 ?F37 ?F38 ?F39 ?F40 ?F41 ?F42 ?a43 ?F43 ?F44 ?F45 ?F46 ?F47 ?F48 ?F49 ?F50 ?F51 ?F52 ?a53 ?F53 ?a54 ?F54 ?a55 ?F55 ?a56 ?F56 ?a57 ?F57 ?a58 ?F58 ?a59 ?F59 ?a60 ?F60 ?a61 ?F61 ?a62 ?F62 ?a63 ?F63 ?a64 ?F64 ?a65 ?F65 ?a66 ?l66 ?c66 ?k66 ?fi_TooMany ?xe_TooMany ?xf_TooMany ?xo_TooMany ?xs_TooMany ?xh_TooMany ?nt_TooMany_number ?nf_TooMany_number ?bs_PaceError ?br_PaceError ?bf_PaceError ?fi_NoName ?xe_NoName ?xf_NoName ?xo_NoName ?xs_NoName ?xh_NoName ?nt_NoName_name ?nf_NoName_name ?fi_Known ?xe_Known ?xf_Known ?xo_Known ?xs_Known ?xh_Known ?nt_Known_name ?nf_Known_name ?pg_View ?hd_View ?po_View ?sa_View ?nf_View_axes ?nf_View_first ?nf_View_room ?fi_View___init__ ?fn_View___init__ ?mm_View ?ck_View ?fi_View_sizes ?fn_View_sizes ?fi_View_paces ?fn_View_paces ?fi_View_count ?fn_View_count ?fi_View_cell ?fn_View_cell ?fi_View_cells ?fn_View_cells ?fi_View_least ?fn_View_least ?fi_View_greatest ?fn_View_greatest ?pg_Store ?hd_Store ?po_Store ?sa_Store ?nf_Store_floor ?fi_Store___init__ ?fn_Store___init__ ?mm_Store ?ck_Store ?fi_Store_all_values ?fn_Store_all_values ?fi_Store_refuse_room ?fn_Store_refuse_room ?fi_Store_read ?fn_Store_read ?fi_Store_put ?fn_Store_put ?fi_Store_fill ?fn_Store_fill ?fi_Store_copied ?fn_Store_copied ?pg_Hall ?hd_Hall ?po_Hall ?sa_Hall ?nf_Hall_past ?nf_Hall_store ?nf_Hall_views ?fi_Hall___init__ ?fn_Hall___init__ ?mm_Hall ?ck_Hall ?fi_Hall_refuse_new ?fn_Hall_refuse_new ?fi_Hall_call ?fn_Hall_call ?fi_Hall_view ?fn_Hall_view ?fi_Hall_names ?fn_Hall_names ?fi_Hall_all_values ?fn_Hall_all_values ?fi_Hall_changed_since ?fn_Hall_changed_since ?fi_Hall_do ?fn_Hall_do ?fi_Hall_back ?fn_Hall_back ?pg_Statement ?hd_Statement ?po_Statement ?sa_Statement ?mm_Statement ?ck_Statement ?fi0_Statement ?fi_Statement_run ?fn_Statement_run ?pg_Fill ?hd_Fill ?po_Fill ?sa_Fill ?nf_Fill_to ?nf_Fill_value ?fi_Fill_run ?fn_Fill_run ?fi_Fill___init__ ?fn_Fill___init__ ?mm_Fill ?ck_Fill ?pg_Copy ?hd_Copy ?po_Copy ?sa_Copy ?nf_Copy_source ?nf_Copy_to ?fi_Copy_run ?fn_Copy_run ?fi_Copy___init__ ?fn_Copy___init__ ?mm_Copy ?ck_Copy ?pg_Swap ?hd_Swap ?po_Swap ?sa_Swap ?nf_Swap_one ?nf_Swap_other ?fi_Swap_run ?fn_Swap_run ?fi_Swap___init__ ?fn_Swap___init__ ?mm_Swap ?ck_Swap ?pg_Raise ?hd_Raise ?po_Raise ?sa_Raise ?nf_Raise_source ?nf_Raise_to ?fi_Raise_run ?fn_Raise_run ?fi_Raise___init__ ?fn_Raise___init__ ?mm_Raise ?ck_Raise ?w0 ?w1 ?w2 ?w3 ?w4 ?w5 ?z0 ?z1 ?z2 ?z3 ?z4 ?z5 ?z6 ?z7 ?z8 ?z9 ?z10 ?z11 ?z12 ?z13 ?z14 ?z15 ?z16 ?z17
  (case y0|y1|y2|y3|y4|y5|y6|y7|y8|y9|y10|y11=>first|k_is|k_exc|kts_exm|decide|rfl|decide +kernel|kernel_rfl)
  (case y12|y13|y14|y15|y16|y17|fi_TooMany|fi_NoName|fi_Known|fi_View___init__|fi_View_sizes|fi_View_paces=>first|k_is|k_exc|kts_exm|decide|rfl|decide +kernel|kernel_rfl)
  (case fi_View_count|fi_View_cell|fi_View_cells|fi_View_least|fi_View_greatest|fi_Store___init__|fi_Store_all_values|fi_Store_refuse_room|fi_Store_read|fi_Store_put|fi_Store_fill|fi_Store_copied=>first|k_is|k_exc|kts_exm|decide|rfl|decide +kernel|kernel_rfl)
  (case fi_Hall___init__|fi_Hall_refuse_new|fi_Hall_call|fi_Hall_view|fi_Hall_names|fi_Hall_all_values|fi_Hall_changed_since|fi_Hall_do|fi_Hall_back|fi_Statement_run|fi_Fill_run|fi_Fill___init__=>first|k_is|k_exc|kts_exm|decide|rfl|decide +kernel|kernel_rfl)
  (case fi_Copy_run|fi_Copy___init__|fi_Swap_run|fi_Swap___init__|fi_Raise_run|fi_Raise___init__|a3|a4|a5|a6|a7|a8=>first|k_is|k_exc|kts_exm|decide|rfl|decide +kernel|kernel_rfl)
  (case a9|a10|a11|a12|a13|a22|a23|a24|a25|a33|a43|a53=>first|k_is|k_exc|kts_exm|decide|rfl|decide +kernel|kernel_rfl)
  (case a54|a55|a56|a57|a58|a59|a60|a61|a62|a63|a64|a65=>first|k_is|k_exc|kts_exm|decide|rfl|decide +kernel|kernel_rfl)
  (case a66=>first|k_is|k_exc|kts_exm|decide|rfl|decide +kernel|kernel_rfl)
  (case F0|F1|F2|F3|F4|F5|F6|F7|F8|F9|F10|F11=>(refine' L2.fun_mk ?l ?c ?k;(case l|c|k=>first|k_is|k_exc|kts_exm|decide|rfl|decide +kernel|kernel_rfl)))
  (case F12|F13|F14|F15|F16|F17|F18|F19|F20|F21|F22|F24=>(refine' L2.fun_mk ?l ?c ?k;(case l|c|k=>first|k_is|k_exc|kts_exm|decide|rfl|decide +kernel|kernel_rfl)))
  (case F25|F26|F27|F28|F29|F30|F31|F32|F33|F34|F35|F36=>(refine' L2.fun_mk ?l ?c ?k;(case l|c|k=>first|k_is|k_exc|kts_exm|decide|rfl|decide +kernel|kernel_rfl)))
  (case F37|F38|F39|F40|F41|F42|F43|F44|F45|F46|F47|F48=>(refine' L2.fun_mk ?l ?c ?k;(case l|c|k=>first|k_is|k_exc|kts_exm|decide|rfl|decide +kernel|kernel_rfl)))
  (case F49|F50|F51|F52|F53|F54|F55|F56|F57|F58|F59|F60=>(refine' L2.fun_mk ?l ?c ?k;(case l|c|k=>first|k_is|k_exc|kts_exm|decide|rfl|decide +kernel|kernel_rfl)))
  (case F61|F62|F63|F64|F65=>(refine' L2.fun_mk ?l ?c ?k;(case l|c|k=>first|k_is|k_exc|kts_exm|decide|rfl|decide +kernel|kernel_rfl)))
  (case o_NoDeed|x_NoDeed_NoDeed|ocs|oct|ga_NoDeed|gn_NoDeed|mb_NoDeed|mo_NoDeed|fc_NoDeed|hd_NoDeed|kc_NoDeed_PaceError|kt_NoDeed_PaceError=>first|k_is|k_exc|kts_exm|decide|rfl|decide +kernel|kernel_rfl)
  (case ks_NoDeed_PaceError|ks_NoDeed_ValueError|l23|q23|c23|k23|l66|c66|k66|xe_TooMany|xf_TooMany|xo_TooMany=>first|k_is|k_exc|kts_exm|decide|rfl|decide +kernel|kernel_rfl)
  (case xs_TooMany|xh_TooMany|nt_TooMany_number|nf_TooMany_number|bs_PaceError|br_PaceError|bf_PaceError|xe_NoName|xf_NoName|xo_NoName|xs_NoName|xh_NoName=>first|k_is|k_exc|kts_exm|decide|rfl|decide +kernel|kernel_rfl)
  (case nt_NoName_name|nf_NoName_name|xe_Known|xf_Known|xo_Known|xs_Known|xh_Known|nt_Known_name|nf_Known_name|pg_View|hd_View|po_View=>first|k_is|k_exc|kts_exm|decide|rfl|decide +kernel|kernel_rfl)
  (case sa_View|nf_View_axes|nf_View_first|nf_View_room|fn_View___init__|mm_View|ck_View|fn_View_sizes|fn_View_paces|fn_View_count|fn_View_cell|fn_View_cells=>first|k_is|k_exc|kts_exm|decide|rfl|decide +kernel|kernel_rfl)
  (case fn_View_least|fn_View_greatest|pg_Store|hd_Store|po_Store|sa_Store|nf_Store_floor|fn_Store___init__|mm_Store|ck_Store|fn_Store_all_values|fn_Store_refuse_room=>first|k_is|k_exc|kts_exm|decide|rfl|decide +kernel|kernel_rfl)
  (case fn_Store_read|fn_Store_put|fn_Store_fill|fn_Store_copied|pg_Hall|hd_Hall|po_Hall|sa_Hall|nf_Hall_past|nf_Hall_store|nf_Hall_views|fn_Hall___init__=>first|k_is|k_exc|kts_exm|decide|rfl|decide +kernel|kernel_rfl)
  (case mm_Hall|ck_Hall|fn_Hall_refuse_new|fn_Hall_call|fn_Hall_view|fn_Hall_names|fn_Hall_all_values|fn_Hall_changed_since|fn_Hall_do|fn_Hall_back|pg_Statement|hd_Statement=>first|k_is|k_exc|kts_exm|decide|rfl|decide +kernel|kernel_rfl)
  (case po_Statement|sa_Statement|mm_Statement|ck_Statement|fi0_Statement|fn_Statement_run|pg_Fill|hd_Fill|po_Fill|sa_Fill|nf_Fill_to|nf_Fill_value=>first|k_is|k_exc|kts_exm|decide|rfl|decide +kernel|kernel_rfl)
  (case fn_Fill_run|fn_Fill___init__|mm_Fill|ck_Fill|pg_Copy|hd_Copy|po_Copy|sa_Copy|nf_Copy_source|nf_Copy_to|fn_Copy_run|fn_Copy___init__=>first|k_is|k_exc|kts_exm|decide|rfl|decide +kernel|kernel_rfl)
  (case mm_Copy|ck_Copy|pg_Swap|hd_Swap|po_Swap|sa_Swap|nf_Swap_one|nf_Swap_other|fn_Swap_run|fn_Swap___init__|mm_Swap|ck_Swap=>first|k_is|k_exc|kts_exm|decide|rfl|decide +kernel|kernel_rfl)
  (case pg_Raise|hd_Raise|po_Raise|sa_Raise|nf_Raise_source|nf_Raise_to|fn_Raise_run|fn_Raise___init__|mm_Raise|ck_Raise|w0|w1=>first|k_is|k_exc|kts_exm|decide|rfl|decide +kernel|kernel_rfl)
  (case w2|w3|w4|w5|z0|z1|z2|z3|z4|z5|z6|z7=>first|k_is|k_exc|kts_exm|decide|rfl|decide +kernel|kernel_rfl)
  (case z8|z9|z10|z11|z12|z13|z14|z15|z16|z17=>first|k_is|k_exc|kts_exm|decide|rfl|decide +kernel|kernel_rfl)
#print axioms PySem.Challenge.cw_pacehall_k86_done_and_back_holds