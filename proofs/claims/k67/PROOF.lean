import PyProof.Rows.All
import Wide.All
import OpenK.AllK
import Wide.FinOn
import Lean
import PyProof.EqAt
import PyProof.EqKinds
import PyProof.TupleCall
import PySem.Challenge.RW_pacehall_k67_stores_refused
-- CHANGE: your row's module here, as the last of these rows
set_option Elab.async false
set_option linter.all false
set_option maxRecDepth 100000
namespace L2
open PySem PySem.Spec PyProof.Rows
abbrev Key:=Sum Int Str
def keyIs:Key->Value->Bool
 | .inl k,v=>Value.isInt k v
 | .inr x,v=>Value.isStrOf x v
def keyH (w:World):Key->Int
 | .inl k=>hashInt k
 | .inr x=>hashStr w x
theorem keyIs_shape:∀ {k:Key}{v:Value},keyIs k v=true->(∃ i t,k=Sum.inl i∧v=Value.int i t)∨(∃ x t,k=Sum.inr x∧v=Value.str x t)
 | .inl i,v,h=>by
  obtain ⟨t,e⟩:=Value.isInt_shape (k:=i) (v:=v) h
  exact .inl ⟨i,t,rfl,e⟩
 | .inr x,v,h=>by
  obtain ⟨t,e⟩:=Value.isStrOf_shape (x:=x) (v:=v) h
  exact .inr ⟨x,t,rfl,e⟩
theorem keyIs_int (i:Int) (t:Tok):keyIs (.inl i) (.int i t)=true:=by simp [keyIs,Value.isInt]
theorem keyIs_str (x:Str) (t:Tok):keyIs (.inr x) (.str x t)=true:=by simp [keyIs,Value.isStrOf]
theorem key_ll (a b:Int):decide ((Sum.inl a:Key)=Sum.inl b)=(a == b):=by
 by_cases e:a=b
 ·subst e;simp
 ·have h:¬ (Sum.inl a:Key)=Sum.inl b:=fun q=>e (Sum.inl.inj q)
  rw [decide_eq_false h]
  exact (beq_eq_false_iff_ne.mpr e).symm
theorem key_rr (a b:Str):decide ((Sum.inr a:Key)=Sum.inr b)=decide (a=b):=by
 by_cases e:a=b
 ·subst e;simp
 ·have h:¬ (Sum.inr a:Key)=Sum.inr b:=fun q=>e (Sum.inr.inj q)
  rw [decide_eq_false h,decide_eq_false e]
theorem key_lr (a:Int) (b:Str):decide ((Sum.inl a:Key)=Sum.inr b)=false:=decide_eq_false (fun q=>nomatch q)
theorem key_rl (a:Str) (b:Int):decide ((Sum.inr a:Key)=Sum.inl b)=false:=decide_eq_false (fun q=>nomatch q)
def mixKind (prog:Program) (w:World):PySem.KeyKind prog w Key where
 is:=keyIs
 hash:=keyH w
 inj:=fun v a b ha hb=>by
  rcases keyIs_shape ha with ⟨i,t,rfl,rfl⟩|⟨x,t,rfl,rfl⟩
  ·rcases keyIs_shape hb with ⟨j,u,rfl,e⟩|⟨y,u,rfl,e⟩
   ·injection e with e1 _;rw [e1]
   ·exact nomatch e
  ·rcases keyIs_shape hb with ⟨j,u,rfl,e⟩|⟨y,u,rfl,e⟩
   ·exact nomatch e
   ·injection e with e1 _;rw [e1]
 byValue:=fun k v h=>by
  rcases keyIs_shape h with ⟨i,t,rfl,rfl⟩|⟨x,t,rfl,rfl⟩<;>rfl
 pyHash:=fun hv h=>by
  rcases keyIs_shape hv with ⟨i,t,rfl,rfl⟩|⟨x,t,rfl,rfl⟩
  ·exact wpAny_pyHash_int h
  ·exact wpAny_pyHash_str h
 eqBool:=fun hu hv h=>by
  rcases keyIs_shape hu with ⟨i,t,rfl,rfl⟩|⟨x,t,rfl,rfl⟩
  ·rcases keyIs_shape hv with ⟨j,u,rfl,rfl⟩|⟨y,u,rfl,rfl⟩
   ·rw [key_ll] at h;exact wpAny_eqBool_int h
   ·rw [key_lr] at h;exact SeqAt.EqAt.int_str i t y u _ _ _ _ h
  ·rcases keyIs_shape hv with ⟨j,u,rfl,rfl⟩|⟨y,u,rfl,rfl⟩
   ·rw [key_rl] at h;exact SeqAt.EqAt.str_int x t j u _ _ _ _ h
   ·rw [key_rr] at h;exact wpAny_eqBool_str h
 «strs»:=fun k x t v h=>by
  rcases keyIs_shape h with ⟨i,u,rfl,e⟩|⟨y,u,rfl,e⟩
  ·exact nomatch e
  ·injection e with e1 _
   subst e1
   cases v<;>rfl
theorem mixKind_int (prog:Program) (w:World) (i:Int) (t:Tok):(mixKind prog w).is (.inl i) (.int i t)=true:=keyIs_int i t
theorem mixKind_str (prog:Program) (w:World) (x:Str) (t:Tok):(mixKind prog w).is (.inr x) (.str x t)=true:=keyIs_str x t
end L2
namespace L2
open PySem PySem.Spec PyProof.Rows
inductive V where
 | non|bl (b:Bool)|int (i:Int)|str (x:Str)|byt (b:Array UInt8)|flt (b:UInt64)|ref (a:Addr)|ty (n:String)
 deriving DecidableEq
def RelV:V->Value->Prop
 | .non,u=>u=Value.none
 | .bl b,u=>u=Value.bool b
 | .int i,u=>∃ t,u=Value.int i t
 | .str x,u=>∃ t,u=Value.str x t
 | .byt b,u=>∃ t,u=Value.bytes b t
 | .flt b,u=>∃ t,u=Value.float b t
 | .ref a,u=>u=Value.ref a
 | .ty n,u=>u=Value.type n
abbrev Vals:List V->List Value->Prop:=Paired RelV
theorem Vals.length {xs:List V}{us:List Value}(r:Vals xs us):xs.length=us.length:=Paired.length r
theorem Vals.get:∀ {xs:List V}{us:List Value}{i:Nat}{x:V},Vals xs us->xs[i]? = some x->∃ u,us[i]? = some u∧RelV x u
 | _,_,_,_,.nil,e=>by simp at e
 | _,_,0,_,.cons r _,e=>by simp at e;subst e;exact ⟨_,rfl,r⟩
 | _,_,i+1,x,.cons _ t,e=>by
  obtain ⟨u,h1,h2⟩:=Vals.get (i:=i) (x:=x) t (by simpa using e)
  exact ⟨u,by simpa using h1,h2⟩
theorem Vals.set {x:V}{u:Value}(r:RelV x u):∀ {xs:List V}{us:List Value}(i:Nat),Vals xs us->Vals (xs.set i x) (us.set i u)
 | _,_,_,.nil=>.nil
 | _,_,0,.cons _ t=>.cons r t
 | _,_,i+1,.cons q t=>.cons q (Vals.set r i t)
theorem Vals.append:∀ {xs ys:List V}{us ws:List Value},Vals xs us->Vals ys ws->Vals (xs++ys) (us++ws)
 | _,_,_,_,.nil,s=>s
 | _,_,_,_,.cons r t,s=>.cons r (Vals.append t s)
theorem Vals.take:∀ {xs:List V}{us:List Value}(n:Nat),Vals xs us->Vals (xs.take n) (us.take n)
 | _,_,0,_=>.nil
 | _,_,_+1,.nil=>.nil
 | _,_,n+1,.cons r t=>.cons r (Vals.take n t)
theorem Vals.drop:∀ {xs:List V}{us:List Value}(n:Nat),Vals xs us->Vals (xs.drop n) (us.drop n)
 | _,_,0,r=>r
 | _,_,_+1,.nil=>.nil
 | _,_,n+1,.cons _ t=>Vals.drop n t
def RelO:Option V->Option Value->Prop
 | some v,some u=>RelV v u
 | none,none=>True
 | _,_=>False
def KV {κ:Type}:List (κ × V)->List (κ × Value)->Prop:=Paired fun (p:κ × V) (q:κ × Value)=>p.1=q.1∧RelV p.2 q.2
def kV:Key->V
 | .inl i=>.int i
 | .inr x=>.str x
inductive HO where
 | lst (xs:List V)
 | tup (xs:List V)
 | dK (kvs:List (Key × V))|dT (kvs:List (List Key × V))
 | set (S:Int->Bool) (n:Nat)
 | ins (C dx:Addr) (fs:List (Str × V))
 | own (x:Addr)
 | xd (fs:List (Str × V))
 | met (f x:Addr)
 | rng (lo hi:Int)
 | frz (o:Obj) (u:HO)
 | tbl (ps:Array Value)
 | ext (φ:Heap->Prop)
abbrev Hp:=Addr->Option HO
def upd (H:Hp) (a:Addr) (o:HO):Hp:=fun b=>if b=a then some o else H b
theorem upd_same {H:Hp}{a:Addr}{o:HO}:upd H a o a=some o:=by unfold upd;rw [if_pos rfl]
theorem upd_ne {H:Hp}{a b:Addr}{o:HO}(h:b ≠ a):upd H a o b=H b:=by unfold upd;rw [if_neg h]
theorem upd_upd {H:Hp}{a:Addr}{o u:HO}:upd (upd H a o) a u=upd H a u:=by
 funext b;unfold upd;split<;>rfl
theorem ne_of {H:Hp}{a b:Addr}{o u:HO}(h:H a=some o) (h':H b=some u) (d:o ≠ u):a ≠ b:=by
 intro e;subst e;rw [h] at h';exact d (Option.some.inj h')
theorem ne_of_none {H:Hp}{a b:Addr}{o:HO}(h:H a=some o) (h':H b=none):a ≠ b:=by
 intro e;subst e;rw [h] at h';cases h'
section
variable (P:Program) (w:World)
def ObjOk (H:Hp) (h:Heap) (a:Addr):HO->Prop
 | .lst xs=>xs.length≤sizeLine∧∃ (its:List Value) (n:Nat),Vals xs its∧h.get? a=some { cls:=.type "list",data:=.seq its.toArray n }
 | .tup xs=>xs.length≤sizeLine∧∃ its:List Value,Vals xs its∧IsTup h a its.toArray
 | .dK kvs=>kvs.length≤sizeLine∧(a == sysModules)=false∧∃ vs,KV kvs vs∧h.DictOf (mixKind P w) a vs
 | .dT kvs=>kvs.length≤sizeLine∧(a == sysModules)=false∧∃ xs:List (List Key × Addr × Value),
   Paired (fun (p:List Key × V) (q:List Key × Addr × Value)=>p.1=q.1∧H q.2.1=some (.tup (p.1.map kV))∧RelV p.2 q.2.2) kvs xs ∧
   ∃ o es ep,h.get? a=some o∧o.ExactDict∧o.data=.dict es ep∧es.toList=xs.map (entryOfKey (tupleKind (mixKind P w)))∧(xs.map (·.1)).Nodup
 | .set S n=>h.SetOf (intKind P w) a S n
 | .ins C dx fs=>H dx=some (.own a)∧fs.length≤1000∧dx ≠ a∧h.get? a=some (PySem.W.instObj C dx) ∧
   ∃ mA,h.Ns1 dx mA∧(∀ f,RelO (fs.lookup f) (mA f))∧PySem.Within mA (fs.map (·.1))
 | .own _=>∃ o,h.get? a=some o
 | .xd fs=>∃ mA,h.Ns1 a mA∧∀ f,RelO (fs.lookup f) (mA f)
 | .rng lo hi=>∃ t u v,h.get? a=some { cls:=.type "range",data:=.fields #[.int lo t,.int hi u,.int 1 v] }
 | .frz o u=>h.get? a=some o∧ObjOk H h a u
 | .tbl ps=>h.get? a=some { cls:=.none,data:=.fields ps }
 | .met f x=>h.get? a=some (PySem.W.methodObj (.ref f) (.ref x))
 | .ext φ=>φ h∧(∃ o,h.get? a=some o)∧∀ h1 h2:Heap,φ h1->(∀ o,h1.get? a=some o->h2.get? a=some o)->φ h2
def HOk (H:Hp) (h:Heap):Prop:=∀ a o,H a=some o->ObjOk P w H h a o
end
section
variable {P:Program}{w:World}{H H':Hp}{h h':Heap}{a:Addr}{o:HO}
theorem ObjOk.lt (x:ObjOk P w H h a o):a < h.objs.size:=by
 cases o with
 | lst xs=>obtain ⟨_,_,_,_,e⟩:=x;exact Heap.lt_size e
 | tup xs=>obtain ⟨_,_,_,p⟩:=x;exact p.lt
 | dK kvs=>obtain ⟨_,_,_,_,o,_,_,e,_⟩:=x;exact Heap.lt_size e
 | dT kvs=>obtain ⟨_,_,_,_,o,_,_,e,_⟩:=x;exact Heap.lt_size e
 | set S n=>obtain ⟨o,_,_,_,e,_⟩:=x;exact Heap.lt_size e
 | ins C dx fs=>obtain ⟨_,_,_,e,_⟩:=x;exact Heap.lt_size e
 | own y=>obtain ⟨_,e⟩:=x;exact Heap.lt_size e
 | xd fs=>obtain ⟨_,⟨_,_,_,e,_⟩,_⟩:=x;exact Heap.lt_size e
 | rng lo hi=>obtain ⟨_,_,_,e⟩:=x;exact Heap.lt_size e
 | frz ob u=>obtain ⟨e,_⟩:=x;exact Heap.lt_size e
 | tbl ps=>exact Heap.lt_size (show h.get? a=some _ from x)
 | met f y=>exact Heap.lt_size (show h.get? a=some _ from x)
 | ext φ=>obtain ⟨_,⟨_,e⟩,_⟩:=x;exact Heap.lt_size e
theorem Paired.mapP {α β:Type}{F G:α->β->Prop}:∀ {l₁:List α}{l₂:List β},Paired F l₁ l₂->(∀ a b,F a b->G a b)->Paired G l₁ l₂
 | _,_,.nil,_=>.nil
 | _,_,.cons r t,f=>.cons (f _ _ r) (Paired.mapP t f)
theorem ObjOk.stay (x:ObjOk P w H h a o) (k:∀ b u,(b=a∨H b=some (.own a))->h.get? b=some u->h'.get? b=some u)
  (ho:∀ b,H b=some (.own a)->H' b=some (.own a)) (ht:∀ b xs,H b=some (.tup xs)->H' b=some (.tup xs)):ObjOk P w H' h' a o:=by
 induction o with
 | lst xs=>obtain ⟨z,its,n,r,e⟩:=x;exact ⟨z,its,n,r,k _ _ (.inl rfl) e⟩
 | tup xs=>obtain ⟨z,its,r,ob,e,c⟩:=x;exact ⟨z,its,r,ob,k _ _ (.inl rfl) e,c⟩
 | dK kvs=>obtain ⟨z,y,vs,r,ob,es,ep,e,c⟩:=x;exact ⟨z,y,vs,r,ob,es,ep,k _ _ (.inl rfl) e,c⟩
 | dT kvs=>
  obtain ⟨z,y,xs,r,ob,es,ep,e,c⟩:=x
  exact ⟨z,y,xs,Paired.mapP r fun p q z=>⟨z.1,ht _ _ z.2.1,z.2.2⟩,ob,es,ep,k _ _ (.inl rfl) e,c⟩
 | set S n=>obtain ⟨ob,es,ep,t,e,c⟩:=x;exact ⟨ob,es,ep,t,k _ _ (.inl rfl) e,c⟩
 | ins C dx fs=>
  obtain ⟨d,z,ne,e,mA,⟨od,es,ep,e2,c⟩,r⟩:=x
  exact ⟨ho _ d,z,ne,k _ _ (.inl rfl) e,mA,⟨od,es,ep,k _ _ (.inr d) e2,c⟩,r⟩
 | own y=>obtain ⟨ob,e⟩:=x;exact ⟨ob,k _ _ (.inl rfl) e⟩
 | xd fs=>obtain ⟨mA,⟨od,es,ep,e,c⟩,r⟩:=x;exact ⟨mA,⟨od,es,ep,k _ _ (.inl rfl) e,c⟩,r⟩
 | rng lo hi=>obtain ⟨t,u,v,e⟩:=x;exact ⟨t,u,v,k _ _ (.inl rfl) e⟩
 | frz ob u ih=>obtain ⟨e,q⟩:=x;exact ⟨k _ _ (.inl rfl) e,ih q⟩
 | tbl ps=>
  have e:h.get? a=some { cls:=.none,data:=.fields ps }:=x
  show h'.get? a=some { cls:=.none,data:=.fields ps }
  exact k a _ (.inl rfl) e
 | met f y=>
  have e:h.get? a=some (PySem.W.methodObj (.ref f) (.ref y)):=x
  show h'.get? a=some (PySem.W.methodObj (.ref f) (.ref y))
  exact k a _ (.inl rfl) e
 | ext φ=>obtain ⟨p,⟨o,e⟩,st⟩:=x;exact ⟨st _ _ p fun o q=>k _ _ (.inl rfl) q,⟨o,k _ _ (.inl rfl) e⟩,st⟩
theorem HOk.lt (x:HOk P w H h) (e:H a=some o):a < h.objs.size:=(x a o e).lt
theorem HOk.fresh (x:HOk P w H h) (e:h.objs.size≤a):H a=none:=by
 cases q:H a with
 | none=>rfl
 | some u=>exact absurd (Nat.lt_of_lt_of_le (x.lt q) e) (Nat.lt_irrefl _)
theorem HOk.kept (x:HOk P w H h) (k:∀ b u,h.get? b=some u->h'.get? b=some u):HOk P w H h':=fun a o e=>
 (x a o e).stay (fun b u _ q=>k b u q) (fun _ q=>q) fun _ _ q=>q
theorem HOk.laid (x:HOk P w H h) (k:∀ b u,h.get? b=some u->h'.get? b=some u) (hp:h.objs.size≤a) (new:ObjOk P w (upd H a o) h' a o):HOk P w (upd H a o) h':=fun b u e=>by
 have hn:=x.fresh hp
 by_cases hb:b=a
 ·subst hb;rw [upd_same] at e;cases e;exact new
 ·rw [upd_ne hb] at e
  exact (x b u e).stay (fun c v _ q=>k c v q) (fun c q=>by rw [upd_ne (ne_of_none q hn)];exact q) fun c xs q=>by rw [upd_ne (ne_of_none q hn)];exact q
end
def Rd (H:Hp) (a:Addr) (u:HO):Prop:=H a=some u∨∃ o,H a=some (.frz o u)
theorem Rd.ok {P:Program}{w:World}{H:Hp}{h:Heap}{a:Addr}{u:HO}(r:Rd H a u) (x:HOk P w H h):ObjOk P w H h a u:=by
 rcases r with r|⟨o,r⟩
 ·exact x a u r
 ·obtain ⟨_,q⟩:=x a _ r
  exact q
def Mut:Option HO->Prop
 | some (.lst _)=>True
 | some (.dK _)=>True
 | some (.dT _)=>True
 | some (.set _ _)=>True
 | some (.ins _ _ _)=>True
 | some (.ext _)=>True
 | _=>False
section
variable {P:Program}{w:World}{H:Hp}{h h':Heap}{x e:Addr}{o':HO}
theorem HOk.write (ok:HOk P w H h) (mu:Mut (H x)) (he:e=x∨H e=some (.own x)) (k:∀ b u,b ≠ e->h.get? b=some u->h'.get? b=some u) (heo:∃ u,h'.get? e=some u)
  (new:ObjOk P w (upd H x o') h' x o'):HOk P w (upd H x o') h':=fun b u q=>by
 have nown:∀ c y,H c=some (.own y)->c ≠ x:=fun c y r z=>by subst z;rw [r] at mu;exact mu
 have ntup:∀ c xs,H c=some (.tup xs)->c ≠ x:=fun c xs r z=>by subst z;rw [r] at mu;exact mu
 by_cases hb:b=x
 ·subst hb;rw [upd_same] at q;cases q;exact new
 ·rw [upd_ne hb] at q
  by_cases hbe:b=e
  ·have q':H b=some (.own x):=by
    rcases he with z|z
    ·exact absurd (hbe.trans z) hb
    ·rw [hbe];exact z
   rw [q] at q';cases q'
   obtain ⟨v,hv⟩:=heo
   exact ⟨v,by rw [hbe];exact hv⟩
  ·refine (ok b u q).stay (fun c v hc r=>k c v ?_ r) (fun c r=>by rw [upd_ne (nown c b r)];exact r) fun c xs r=>by rw [upd_ne (ntup c xs r)];exact r
   rcases hc with rfl|hc
   ·exact hbe
   ·rintro rfl
    rcases he with z|z
    ·exact nown c b hc z
    ·rw [hc] at z;cases z;exact hb rfl
end
structure Un (fs ex:List Addr) (H H':Hp) (h h':Heap):Prop where
 keep:∀ b o,h.get? b=some o->H b=none->b ∉ fs->b ∉ ex->h'.get? b=some o
 slot:∀ b o,h.get? b=some o->H b=none->b∈fs->b ∉ ex->∃ sl,h'.get? b=some { o with slots:=sl }
 free:∀ b o,h.get? b=some o->H b=none->b ∉ ex->H' b=none
 there:∀ b o,h.get? b=some o->b ∉ ex->∃ o',h'.get? b=some o'
 tups:∀ b xs,H b=some (.tup xs)->H' b=some (.tup xs)
 frzs:∀ b o u,H b=some (.frz o u)->H' b=some (.frz o u)
 tbls:∀ b ps,H b=some (.tbl ps)->∃ more,H' b=some (.tbl (ps++more))
section
variable {fs fs' ex ex':List Addr}{H H1 H2:Hp}{h h1 h2 h':Heap}{a x e:Addr}{o:HO}
theorem Un.any (u:Un fs ex H H1 h h1){b:Addr}{ob:Obj}(q:h.get? b=some ob) (n:H b=none) (hx:b ∉ ex):∃ sl,h1.get? b=some { ob with slots:=sl }:=by
 by_cases hb:b∈fs
 ·exact u.slot b ob q n hb hx
 ·exact ⟨ob.slots,u.keep b ob q n hb hx⟩
theorem Un.trans (a:Un fs ex H H1 h h1) (b:Un fs ex H1 H2 h1 h2):Un fs ex H H2 h h2 where
 keep:=fun c ob q n hc hx=>b.keep c ob (a.keep c ob q n hc hx) (a.free c ob q n hx) hc hx
 slot:=fun c ob q n hc hx=>by
  obtain ⟨sl,e1⟩:=a.slot c ob q n hc hx
  obtain ⟨sl',e2⟩:=b.slot c _ e1 (a.free c ob q n hx) hc hx
  exact ⟨sl',e2⟩
 free:=fun c ob q n hx=>by
  obtain ⟨o',e1⟩:=a.there c ob q hx
  exact b.free c o' e1 (a.free c ob q n hx) hx
 there:=fun c ob q hx=>by
  obtain ⟨o',e1⟩:=a.there c ob q hx
  exact b.there c o' e1 hx
 tups:=fun c xs q=>b.tups c xs (a.tups c xs q)
 frzs:=fun c ob xs q=>b.frzs c ob xs (a.frzs c ob xs q)
 tbls:=fun c ps q=>by
  obtain ⟨m1,e1⟩:=a.tbls c ps q
  obtain ⟨m2,e2⟩:=b.tbls c _ e1
  exact ⟨m1++m2,by rw [e2,Array.append_assoc]⟩
theorem Un.kept (k:∀ b u,h.get? b=some u->h'.get? b=some u):Un fs ex H H h h':=
 ⟨fun b ob q _ _ _=>k b ob q,fun b ob q _ _ _=>⟨ob.slots,k b ob q⟩,fun _ _ _ n _=>n,fun b ob q _=>⟨ob,k b ob q⟩,fun _ _ q=>q,fun _ _ _ q=>q,fun _ ps q=>⟨#[],by rw [q];simp⟩⟩
theorem Un.refl:Un fs ex H H h h:=Un.kept fun _ _ q=>q
theorem Un.laid (k:∀ b u,h.get? b=some u->h'.get? b=some u) (hp:h.objs.size≤a) (hn:H a=none):Un fs ex H (upd H a o) h h' where
 keep:=fun b u q _ _ _=>k b u q
 slot:=fun b u q _ _ _=>⟨u.slots,k b u q⟩
 free:=fun b u q n _=>by rw [upd_ne (Nat.ne_of_lt (Nat.lt_of_lt_of_le (Heap.lt_size q) hp))];exact n
 there:=fun b u q _=>⟨u,k b u q⟩
 tups:=fun b xs q=>by rw [upd_ne (ne_of_none q hn)];exact q
 frzs:=fun b u xs q=>by rw [upd_ne (ne_of_none q hn)];exact q
 tbls:=fun b ps q=>⟨#[],by rw [upd_ne (ne_of_none q hn),q];simp⟩
theorem Un.write (mu:Mut (H x)) (he:e=x∨H e=some (.own x)) (k:∀ b u,b ≠ e->h.get? b=some u->h'.get? b=some u) (heo:∃ u,h'.get? e=some u):Un fs ex H (upd H x o) h h':=by
 have hx:∀ b,H b=none->b ≠ x:=fun b n z=>by subst z;rw [n] at mu;exact mu
 have hb:∀ b,H b=none->b ≠ e:=fun b n z=>by
  subst z
  rcases he with r|r
  ·exact hx b n r
  ·rw [n] at r;cases r
 have hm:∀ b u,H b=some u->¬ Mut (some u)->b ≠ x:=fun b u q nm z=>by subst z;rw [q] at mu;exact nm mu
 refine ⟨fun b u q n _ _=>k b u (hb b n) q,fun b u q n _ _=>⟨u.slots,k b u (hb b n) q⟩,fun b u q n _=>by rw [upd_ne (hx b n)];exact n,fun b u q _=>?_,
  fun b xs q=>by rw [upd_ne (hm b _ q fun z=>z)];exact q,fun b u xs q=>by rw [upd_ne (hm b _ q fun z=>z)];exact q,fun b ps q=>⟨#[],by rw [upd_ne (hm b _ q fun z=>z),q];simp⟩⟩
 by_cases hbe:b=e
 ·subst hbe;exact heo
 ·exact ⟨u,k b u hbe q⟩
end
def trk (h:Heap) (H:Hp):List Addr:=(List.range h.objs.size).filter fun a=>(H a).isSome
def hidT (h:Heap) (H:Hp):Heap:=PySem.W.hideAll h (trk h H)
theorem hidT_size (h:Heap) (H:Hp):(hidT h H).objs.size=h.objs.size:=PySem.W.hideAll_size _ _
theorem hidT_get {h:Heap}{H:Hp}{b:Addr}{o:Obj}(e:h.get? b=some o) (n:H b=none):(hidT h H).get? b=some o:=
 PySem.W.hideAll_get _ e fun hm=>by
  have q:(H b).isSome=true:=(List.mem_filter.mp hm).2
  rw [n] at q;simp at q
theorem of_hidT {h:Heap}{H:Hp}{b:Addr}{o:Obj}(e:(hidT h H).get? b=some o):h.get? b=some o∧H b=none:=by
 have e':h.get? b=some o:=PySem.W.of_hideAll (trk h H) e
 refine ⟨e',?_⟩
 cases q:H b with
 | none=>rfl
 | some x=>
  have hm:b∈trk h H:=List.mem_filter.mpr ⟨List.mem_range.mpr (Heap.lt_size e'),by simp [q]⟩
  have z:(hidT h H).get? b=none:=PySem.W.hideAll_none (trk h H) hm
  rw [z] at e;cases e
def allNews (g h:Heap) (L:Addr):List (Addr × Obj):=(List.range h.objs.size).filterMap fun a=>if a=L∨(g.get? a).isSome=true then none else (h.get? a).map fun o=>(a,o)
def rest (g h:Heap) (L d:Addr):List (Addr × Obj):=(allNews g h L).filter fun p=>decide (p.1 ≠ d)
end L2
namespace L2
open PySem PySem.Spec PyProof.Rows
structure Mod (K:PySem.W.Frag) (mg:Str->Option Value) (base:Heap):Prop where
 kin:K.In base
 glob:base.Ns mainGlobals mg
 blt:∃ mb,base.Ns builtinsNs mb∧∀ x:Str,x ≠ "__name__" → mb x=bootBuiltins x
 nolimit:base.NoLimit
structure Cx where
 prog:Program
 w:World
 K:PySem.W.Frag
 mg:Str->Option Value
 base:Heap
 A:Around
 N:List Str
 s₀:Shared
 H₀:Hp
 env:Env
 outer:List Env
 stack:List Env
 ex:List Addr
 fn:Str->Bool
 calm:Bool
 pn:List (Addr × Obj)
 xe:Value->Shared->Prop
def frs (l:List Env):List Addr:=l.filterMap (·.frame)
abbrev Cx.fs (X:Cx):List Addr:=frs X.outer
def Vis (sc:Scope) (x:Str):Prop:=sc.names.lookup x=some .local∨sc.names.lookup x=some .cell∨sc.names.lookup x=some .free
def Loc (sc:Scope) (x:Str):Prop:=sc.names.lookup x=some .local∨sc.names.lookup x=some .cell
def Look (env:Env) (h:Heap) (m:Str->Option Value) (x:Str) (u:Value):Prop:=
 (env.kindOf x=some .local∧m x=some u)∨((env.kindOf x=some .cell∨env.kindOf x=some .free)∧∃ c,env.cells.lookup x=some c∧h.IsCell c (some u))
structure Cx.Ok (X:Cx):Prop where
 mod:Mod X.K X.mg X.base
 kind:X.env.scope.kind=.function
 glob:X.env.globals=mainGlobals
 blt:X.env.builtins=builtinsNs
 above:X.s₀.heap.objs.size≤X.env.locals
 inj:∀ x y c,X.env.cells.lookup x=some c->X.env.cells.lookup y=some c->x=y
 has:∀ x,(X.env.kindOf x=some .cell∨X.env.kindOf x=some .free)->∃ c,X.env.cells.lookup x=some c
 cab:∀ x c,X.fn x=true->X.env.cells.lookup x=some c->X.s₀.heap.objs.size≤c
 hd:X.calm=true->X.A.handled=none
 frames:X.A.frames=some X.stack
 stk:X.stack=X.outer∨(X.stack=X.env::X.outer∧X.env.frame=some X.env.locals)
 exf:∀ b∈X.ex,b ≠ X.env.locals∧∀ x c,X.env.cells.lookup x=some c->c ≠ b
 bs:∀ b o,X.base.get? b=some o->X.s₀.heap.get? b=some o∧X.H₀ b=none
 bsz:X.base.objs.size≤X.s₀.heap.objs.size
 noex:∀ b o,X.base.get? b=some o->b ∉ X.ex
 exfs:∀ b∈X.ex,b ∉ X.fs
 funs:X.s₀.heap.FunFrames X.base X.outer
 frf:∀ b∈X.fs,X.H₀ b=none
structure Inv (X:Cx) (pins:List (Addr × Obj)) (σ:List (Option V)) (H:Hp) (s:Shared):Prop where
 ok:X.Ok
 os:s.os=X.s₀.os
 bare:AllBare s.gens
 base:Un X.fs X.ex X.H₀ H X.s₀.heap s.heap
 loc:∃ m,s.heap.Ns X.env.locals m∧∀ (i:Nat) (x:Str) (v:V),X.N[i]? = some x->σ[i]? = some (some v)->Vis X.env.scope x->∃ u,RelV v u∧Look X.env s.heap m x u
 cell:∀ x c,X.env.cells.lookup x=some c->∃ v,s.heap.IsCell c v
 free:H X.env.locals=none
 freeC:∀ x c,X.env.cells.lookup x=some c->H c=none
 pin:∀ p∈X.pn++pins,s.heap.get? p.1=some p.2∧H p.1=none∧p.1 ≠ X.env.locals∧p.1 ∉ X.fs∧∀ v,p.2.data ≠ .cell v
 hok:HOk X.prog X.w H s.heap
 len:σ.length=X.N.length
section
variable {X:Cx}{pins:List (Addr × Obj)}{σ:List (Option V)}{H H':Hp}{s:Shared}{h':Heap}
theorem Cx.Ok.nofr (ok:X.Ok){b:Addr}{o:Obj}(e:X.base.get? b=some o):b ∉ X.fs:=fun hb=>by
 have:=(ok.funs.mem hb).1
 rw [e] at this;cases this
theorem Inv.bs (I:Inv X pins σ H s):∀ b o,X.base.get? b=some o->s.heap.get? b=some o∧H b=none:=fun b o e=>
 ⟨I.base.keep b o (I.ok.bs b o e).1 (I.ok.bs b o e).2 (I.ok.nofr e) (I.ok.noex b o e),I.base.free b o (I.ok.bs b o e).1 (I.ok.bs b o e).2 (I.ok.noex b o e)⟩
theorem Inv.bk (I:Inv X pins σ H s):∀ b o,X.base.get? b=some o->s.heap.get? b=some o:=fun b o e=>(I.bs b o e).1
theorem Inv.mod (I:Inv X pins σ H s):Mod X.K X.mg X.base:=I.ok.mod
theorem Inv.kIn (I:Inv X pins σ H s):X.K.In s.heap:=I.ok.mod.kin.keeps I.bk
theorem Inv.lt (I:Inv X pins σ H s):X.env.locals < s.heap.objs.size:=let ⟨_,hn,_⟩:=I.loc;hn.lt
theorem Inv.sz (I:Inv X pins σ H s):X.s₀.heap.objs.size≤s.heap.objs.size:=Nat.le_trans I.ok.above (Nat.le_of_lt I.lt)
theorem Inv.nofs (I:Inv X pins σ H s){a:Addr}(h:s.heap.objs.size≤a):a ∉ X.fs:=fun hb=>by
 obtain ⟨_,o,ho,_⟩:=I.ok.funs.mem hb
 exact absurd (Nat.lt_of_lt_of_le (Heap.lt_size ho) (Nat.le_trans I.sz h)) (Nat.lt_irrefl _)
theorem Inv.cne (I:Inv X pins σ H s):∀ x c,X.env.cells.lookup x=some c->c ≠ X.env.locals:=fun x c e z=>by
 obtain ⟨v,o,ho,hd⟩:=I.cell x c e
 obtain ⟨m,⟨o',es,ep,ho',hd',_⟩,_⟩:=I.loc
 rw [z,ho'] at ho;cases ho;rw [hd'] at hd;cases hd
theorem Inv.funs (I:Inv X pins σ H s):s.heap.FunFrames X.base X.outer:=by
 have all:∀ (l:List Env),(∀ b∈frs l,b∈X.fs)->X.s₀.heap.FunFrames X.base l->s.heap.FunFrames X.base l:=by
  intro l
  induction l with
  | nil=>intro _ _;trivial
  | cons env r ih=>
   intro hs hl
   obtain ⟨hk,⟨L,o,hf,hn,ho,hd⟩,hr⟩:=hl
   have hL:L∈X.fs:=hs L (by unfold frs;rw [List.filterMap_cons,hf];exact List.mem_cons_self)
   obtain ⟨sl,e⟩:=I.base.slot L o ho (I.ok.frf L hL) hL fun z=>I.ok.exfs L z hL
   exact ⟨hk,⟨L,_,hf,hn,e,hd⟩,ih (fun b hb=>hs b (by unfold frs;rw [List.filterMap_cons,hf];exact List.mem_cons_of_mem _ hb)) hr⟩
 exact all X.outer (fun _ hb=>hb) I.ok.funs
theorem Inv.stack (I:Inv X pins σ H s):s.heap.FunFrames X.base X.stack:=by
 rcases I.ok.stk with e|⟨e,hf⟩
 ·rw [e];exact I.funs
 ·rw [e]
  obtain ⟨m,hn,_⟩:=I.loc
  refine .cons (by rw [I.ok.kind];decide) hf hn ?_ I.funs
  exact Heap.get?_none_of_le (Nat.le_trans I.ok.bsz I.ok.above)
theorem Inv.stkSub (I:Inv X pins σ H s):∀ b∈frs X.stack,b∈X.env.locals::X.fs:=fun b hb=>by
 rcases I.ok.stk with e|⟨e,hf⟩
 ·rw [e] at hb;exact List.mem_cons_of_mem _ hb
 ·rw [e] at hb
  unfold frs at hb
  rw [List.filterMap_cons,hf] at hb
  exact hb
theorem Inv.stkFree (I:Inv X pins σ H s):∀ b∈frs X.stack,H b=none:=fun b hb=>by
 rcases List.mem_cons.mp (I.stkSub b hb) with e|hb
 ·rw [e];exact I.free
 ·obtain ⟨_,o,ho,_⟩:=I.ok.funs.mem hb
  exact I.base.free b o ho (I.ok.frf b hb) fun z=>I.ok.exfs b z hb
theorem Inv.step {g':Array GenState}{t':Nat}{d':Drawn}{ch:List Addr}(I:Inv X pins σ H s)
  (hch:∀ b∈ch,(b∈X.ex∨X.s₀.heap.objs.size≤b)∧b ≠ X.env.locals∧(∀ x c,X.env.cells.lookup x=some c->c ≠ b)∧∀ p∈X.pn++pins,p.1 ≠ b)
  (keep:∀ b o,b ≠ X.env.locals->b ∉ X.fs->b ∉ ch->s.heap.get? b=some o->H b=none->h'.get? b=some o)
  (slot:∀ b o,b ≠ X.env.locals->b∈X.fs->b ∉ ch->s.heap.get? b=some o->H b=none->∃ sl,h'.get? b=some { o with slots:=sl }) (free:∀ b o,b ∉ ch->s.heap.get? b=some o->H b=none->H' b=none)
  (there:∀ b o,b ∉ ch->s.heap.get? b=some o->∃ o',h'.get? b=some o')
  (tups:∀ b xs,H b=some (.tup xs)->H' b=some (.tup xs)) (frzs:∀ b o u,H b=some (.frz o u)->H' b=some (.frz o u)) (tbls:∀ b ps,H b=some (.tbl ps)->∃ more,H' b=some (.tbl (ps++more)))
  (ns:∀ m,s.heap.Ns X.env.locals m->h'.Ns X.env.locals m) (hok:HOk X.prog X.w H' h') (hg:AllBare g') :
  Inv X pins σ H' { s with heap:=h',gens:=g',drawn:=d',toks:=t' }:=by
 have neL:∀ b o,X.s₀.heap.get? b=some o->b ≠ X.env.locals:=fun b o e=>Nat.ne_of_lt (Nat.lt_of_lt_of_le (Heap.lt_size e) I.ok.above)
 have neC:∀ b o,X.s₀.heap.get? b=some o->b ∉ X.ex->b ∉ ch:=fun b o e hx hb=>by
  rcases (hch b hb).1 with z|z
  ·exact hx z
  ·exact absurd (Nat.lt_of_lt_of_le (Heap.lt_size e) z) (Nat.lt_irrefl _)
 have cellK:∀ x c,X.env.cells.lookup x=some c->∀ v,s.heap.IsCell c v->h'.IsCell c v:=fun x c e v ⟨o,ho,hd⟩=>by
  have nch:c ∉ ch:=fun z=>(hch c z).2.2.1 x c e rfl
  by_cases hc:c∈X.fs
  ·obtain ⟨sl,q⟩:=slot c o (I.cne x c e) hc nch ho (I.freeC x c e)
   exact ⟨_,q,hd⟩
  ·exact ⟨o,keep c o (I.cne x c e) hc nch ho (I.freeC x c e),hd⟩
 refine ⟨I.ok,I.os,hg,⟨fun b o e n hb hx=>?_,fun b o e n hb hx=>?_,fun b o e n hx=>?_,fun b o e hx=>?_,fun b xs e=>tups b xs (I.base.tups b xs e),fun b o xs e=>frzs b o xs (I.base.frzs b o xs e),fun b ps e=>?_⟩,?_,fun x c e=>?_,?_,fun x c e=>?_,fun p hp=>?_,hok,I.len⟩
 ·exact keep b o (neL b o e) hb (neC b o e hx) (I.base.keep b o e n hb hx) (I.base.free b o e n hx)
 ·obtain ⟨sl,e1⟩:=I.base.slot b o e n hb hx
  obtain ⟨sl',e2⟩:=slot b _ (neL b o e) hb (neC b o e hx) e1 (I.base.free b o e n hx)
  exact ⟨sl',e2⟩
 ·obtain ⟨o',e1⟩:=I.base.there b o e hx
  exact free b o' (neC b o e hx) e1 (I.base.free b o e n hx)
 ·obtain ⟨o',e1⟩:=I.base.there b o e hx
  exact there b o' (neC b o e hx) e1
 ·obtain ⟨m1,e1⟩:=I.base.tbls b ps e
  obtain ⟨m2,e2⟩:=tbls b _ e1
  exact ⟨m1++m2,by rw [e2,Array.append_assoc]⟩
 ·obtain ⟨m,hn,hl⟩:=I.loc
  refine ⟨m,ns m hn,fun i x v e1 e2 e3=>?_⟩
  obtain ⟨u,r,l⟩:=hl i x v e1 e2 e3
  refine ⟨u,r,?_⟩
  rcases l with l|⟨k,c,e,z⟩
  ·exact .inl l
  ·exact .inr ⟨k,c,e,cellK x c e _ z⟩
 ·obtain ⟨v,z⟩:=I.cell x c e
  exact ⟨v,cellK x c e v z⟩
 ·obtain ⟨m,⟨o,_,_,ho,_⟩,_⟩:=I.loc
  exact free _ o (fun z=>(hch _ z).2.1 rfl) ho I.free
 ·obtain ⟨v,o,ho,hd⟩:=I.cell x c e
  exact free c o (fun z=>(hch c z).2.2.1 x c e rfl) ho (I.freeC x c e)
 ·obtain ⟨e,n,ne,nf,d⟩:=I.pin p hp
  have nch:p.1 ∉ ch:=fun z=>(hch p.1 z).2.2.2 p hp rfl
  exact ⟨keep p.1 p.2 ne nf nch e n,free p.1 p.2 nch e n,ne,nf,d⟩
theorem Inv.un {t':Nat}(I:Inv X pins σ H s) (u:Un X.fs [] H H' s.heap h') (hok:HOk X.prog X.w H' h'):Inv X pins σ H' { s with heap:=h',toks:=t' }:=by
 obtain ⟨m,⟨o,es,ep,ho,r⟩,_⟩:=id I.loc
 obtain ⟨sl,hL⟩:=u.any ho I.free (by simp)
 exact I.step (g':=s.gens) (d':=s.drawn) (ch:=[]) (fun _ z=>nomatch z) (fun b o _ hb _ e n=>u.keep b o e n hb (by simp)) (fun b o _ hb _ e n=>u.slot b o e n hb (by simp)) (fun b o _ e n=>u.free b o e n (by simp)) (fun b o _ e=>u.there b o e (by simp)) u.tups u.frzs u.tbls (fun m' hm=>by
  obtain ⟨o',es',ep',ho',r'⟩:=hm
  rw [ho] at ho';cases ho'
  exact ⟨_,es',ep',hL,r'⟩) hok I.bare
theorem Inv.call {g':Array GenState}{t':Nat}{d':Drawn}{ch:List Addr}(I:Inv X pins σ H s) (u:Un (frs X.stack) ch H H' s.heap h') (hok:HOk X.prog X.w H' h') (hg:AllBare g')
  (hch:∀ b∈ch,(b∈X.ex∨X.s₀.heap.objs.size≤b)∧b ≠ X.env.locals∧(∀ x c,X.env.cells.lookup x=some c->c ≠ b)∧∀ p∈X.pn++pins,p.1 ≠ b) :
  Inv X pins σ H' { s with heap:=h',gens:=g',drawn:=d',toks:=t' }:=by
 obtain ⟨m,⟨o,es,ep,ho,r⟩,_⟩:=id I.loc
 obtain ⟨sl,hL⟩:=u.any ho I.free fun z=>(hch _ z).2.1 rfl
 exact I.step (ch:=ch) hch (fun b o hL hb hc e n=>u.keep b o e n (fun z=>(List.mem_cons.mp (I.stkSub b z)).elim hL hb) hc) (fun b o _ _ hc e n=>u.any e n hc) (fun b o hc e n=>u.free b o e n hc) (fun b o hc e=>u.there b o e hc) u.tups u.frzs u.tbls (fun m' hm=>by
  obtain ⟨o',es',ep',ho',r'⟩:=hm
  rw [ho] at ho';cases ho'
  exact ⟨_,es',ep',hL,r'⟩) hok hg
theorem Inv.turned {t':Nat}{it:Addr}(I:Inv X pins σ H s) (k:∀ b o,b ≠ it->s.heap.get? b=some o->h'.get? b=some o) (hn:H it=none) (hL:it ≠ X.env.locals)
  (h1:it∈X.ex∨X.s₀.heap.objs.size≤it) (h2:∀ x c,X.env.cells.lookup x=some c->c ≠ it) (h3:∀ p∈X.pn++pins,p.1 ≠ it):Inv X pins σ H { s with heap:=h',toks:=t' }:=by
 have nit:∀ b u,H b=some u->b ≠ it:=fun b u e z=>by rw [z,hn] at e;cases e
 refine I.step (g':=s.gens) (d':=s.drawn) (ch:=[it]) (fun b hb=>?_) (fun b o _ _ hc e _=>k b o (fun z=>hc (by simp [z])) e) (fun b o _ _ hc e _=>⟨o.slots,k b o (fun z=>hc (by simp [z])) e⟩) (fun _ _ _ _ n=>n)
  (fun b o hc e=>⟨o,k b o (fun z=>hc (by simp [z])) e⟩) (fun _ _ e=>e) (fun _ _ _ e=>e) (fun b ps e=>⟨#[],by rw [e];simp⟩) (fun m hm=>?_) (fun b u e=>?_) I.bare
 ·have e:b=it:=by simpa using hb
  subst e
  exact ⟨h1,hL,h2,h3⟩
 ·obtain ⟨o,es,ep,ho,r⟩:=hm
  exact ⟨o,es,ep,k _ o (Ne.symm hL) ho,r⟩
 ·refine (I.hok b u e).stay (fun c v hc q=>k c v ?_ q) (fun _ q=>q) fun _ _ q=>q
  rcases hc with z|z
  ·rw [z];exact nit b u e
  ·exact nit c _ z
theorem Inv.tok (I:Inv X pins σ H s) (t:Nat):Inv X pins σ H { s with toks:=t }:=I.un (h':=s.heap) (t':=t) Un.refl I.hok
theorem Inv.kept {t':Nat}(I:Inv X pins σ H s) (k:∀ b u,s.heap.get? b=some u->h'.get? b=some u):Inv X pins σ H { s with heap:=h',toks:=t' }:=I.un (Un.kept k) (I.hok.kept k)
theorem Inv.laid {a:Addr}{o:HO}{t':Nat}(I:Inv X pins σ H s) (k:∀ b u,s.heap.get? b=some u->h'.get? b=some u) (hp:s.heap.objs.size≤a) (new:ObjOk X.prog X.w (upd H a o) h' a o) :
  Inv X pins σ (upd H a o) { s with heap:=h',toks:=t' }:=I.un (Un.laid k hp (I.hok.fresh hp)) (I.hok.laid k hp new)
theorem Inv.write {x e:Addr}{o:HO}{t':Nat}(I:Inv X pins σ H s) (mu:Mut (H x)) (he:e=x∨H e=some (.own x)) (k:∀ b u,b ≠ e->s.heap.get? b=some u->h'.get? b=some u) (heo:∃ u,h'.get? e=some u)
  (new:ObjOk X.prog X.w (upd H x o) h' x o):Inv X pins σ (upd H x o) { s with heap:=h',toks:=t' }:=I.un (Un.write mu he k heo) (I.hok.write mu he k heo new)
theorem Inv.weak {σ':List (Option V)}(I:Inv X pins σ H s) (hl:σ'.length=σ.length) (w:∀ (i:Nat) v,σ'[i]? = some (some v)->σ[i]? = some (some v)):Inv X pins σ' H s:=
 ⟨I.ok,I.os,I.bare,I.base,let ⟨m,hn,hl'⟩:=I.loc;⟨m,hn,fun i x v e1 e2 e3=>hl' i x v e1 (w i v e2) e3⟩,I.cell,I.free,I.freeC,I.pin,I.hok,hl.trans I.len⟩
theorem Inv.pins_of {pins':List (Addr × Obj)}(I:Inv X pins σ H s) (h:∀ p∈pins',s.heap.get? p.1=some p.2∧H p.1=none∧p.1 ≠ X.env.locals∧p.1 ∉ X.fs∧∀ v,p.2.data ≠ .cell v):Inv X pins' σ H s:=
 ⟨I.ok,I.os,I.bare,I.base,I.loc,I.cell,I.free,I.freeC,fun p hp=>(List.mem_append.mp hp).elim (fun z=>I.pin p (List.mem_append_left _ z)) (h p),I.hok,I.len⟩
theorem nodup_ix {N:List Str}(hN:N.Nodup){i j:Nat}{x:Str}(a:N[i]? = some x) (b:N[j]? = some x):i=j:=by
 obtain ⟨h1,e1⟩:=List.getElem?_eq_some_iff.mp a
 obtain ⟨h2,e2⟩:=List.getElem?_eq_some_iff.mp b
 exact (List.getElem_inj hN).mp (e1.trans e2.symm)
theorem store_ok2 {M:Model}{A:Around}{E:Value->Shared->Prop}{i:Nat}{x:Str}{v:V}{u:Value}{Q:Unit->Shared->Prop}(I:Inv X pins σ H s) (hN:X.N.Nodup) (hi:X.N[i]? = some x) (hx:Loc X.env.scope x) (r:RelV v u)
  (h:∀ s',Inv X pins (σ.set i (some v)) H s'->(∃ a,Heap.SameBut a s.heap s'.heap∧(a=X.env.locals∨X.env.cells.lookup x=some a))->Q () s') (hf:X.fn x=true∨X.env.scope.names.lookup x=some .local:=by first|exact .inl rfl|exact .inr rfl|assumption):wpAny M A (storeName X.env x u) Q E s:=by
 obtain ⟨m,hn,hl⟩:=id I.loc
 have hcls:(X.env.scope.kind == .class || (X.env.scope.kind == .module && X.env.locals != X.env.globals))=false:=by rw [I.ok.kind];rfl
 have hiσ:i < σ.length:=by rw [I.len];exact (List.getElem?_eq_some_iff.mp hi).1
 have cne:=I.cne
 have tracked:∀ {a:Addr} {h':Heap},(∃ o,s.heap.get? a=some o∧H a=none)->Heap.SameBut a s.heap h'->HOk X.prog X.w H h':=fun {a h'} ha hs b ob e=>by
  obtain ⟨_,_,hfree⟩:=ha
  refine (I.hok b ob e).stay (fun c w' hc q=>(hs.2 c ?_).trans q) (fun _ q=>q) fun _ _ q=>q
  rintro rfl
  rcases hc with rfl|hc
  ·rw [hfree] at e;cases e
  ·rw [hfree] at hc;cases hc
 rcases hx with hk|hk
 ·refine wpAny_storeName_local hk hn (fun h' hn' hs=>?_) hcls
  obtain ⟨oL,_,_,hoL,_⟩:=id hn
  refine h _ ⟨I.ok,I.os,I.bare,⟨fun b o e n hb hx=>?_,fun b o e n hb hx=>?_,I.base.free,fun b o e hx=>?_,I.base.tups,I.base.frzs,I.base.tbls⟩,⟨_,hn',fun j y v' e1 e2 e3=>?_⟩,fun y c e=>?_,I.free,I.freeC,fun p hp=>?_,tracked ⟨oL,hoL,I.free⟩ hs,by simpa using I.len⟩ ⟨_,hs,.inl rfl⟩
  ·exact (hs.2 b (Nat.ne_of_lt (Nat.lt_of_lt_of_le (Heap.lt_size e) I.ok.above))).trans (I.base.keep b o e n hb hx)
  ·obtain ⟨sl,e1⟩:=I.base.slot b o e n hb hx
   exact ⟨sl,(hs.2 b (Nat.ne_of_lt (Nat.lt_of_lt_of_le (Heap.lt_size e) I.ok.above))).trans e1⟩
  ·obtain ⟨o',e1⟩:=I.base.there b o e hx
   exact ⟨o',(hs.2 b (Nat.ne_of_lt (Nat.lt_of_lt_of_le (Heap.lt_size e) I.ok.above))).trans e1⟩
  ·by_cases hj:j=i
   ·subst hj
    rw [hi] at e1;cases e1
    rw [List.getElem?_set_self hiσ] at e2
    cases e2
    exact ⟨u,r,.inl ⟨hk,by simp⟩⟩
   ·rw [List.getElem?_set_ne (Ne.symm hj)] at e2
    obtain ⟨u',r',q⟩:=hl j y v' e1 e2 e3
    refine ⟨u',r',?_⟩
    rcases q with ⟨k,e⟩|⟨k,c,e,z⟩
    ·refine .inl ⟨k,?_⟩
     have:y ≠ x:=fun e=>hj (nodup_ix hN e1 (e ▸ hi))
     simp [this,e]
    ·exact .inr ⟨k,c,e,z.sameBut hs (cne y c e)⟩
  ·obtain ⟨w',z⟩:=I.cell y c e
   exact ⟨w',z.sameBut hs (cne y c e)⟩
  ·obtain ⟨e,n,ne,nf,d⟩:=I.pin p hp
   exact ⟨(hs.2 p.1 ne).trans e,n,ne,nf,d⟩
 ·have hfn:X.fn x=true:=by
   rcases hf with z|z
   ·exact z
   ·rw [z] at hk;cases hk
  obtain ⟨c,hc⟩:=I.ok.has x (.inl hk)
  obtain ⟨w',z⟩:=I.cell x c hc
  refine wpAny_storeName_cell I.ok.kind hk hc z (fun h' hc' hs=>?_)
  obtain ⟨oc,hoc,hocd⟩:=id z
  refine h { s with heap:=h' } ⟨I.ok,I.os,I.bare,⟨fun b o e n hb hx=>?_,fun b o e n hb hx=>?_,I.base.free,fun b o e hx=>?_,I.base.tups,I.base.frzs,I.base.tbls⟩,⟨m,hn.sameBut hs (Ne.symm (cne x c hc)),fun j y v' e1 e2 e3=>?_⟩,fun y c' e=>?_,I.free,I.freeC,fun p hp=>?_,tracked ⟨oc,hoc,I.freeC x c hc⟩ hs,by simpa using I.len⟩ ⟨c,hs,.inr hc⟩
  ·exact (hs.2 b (Nat.ne_of_lt (Nat.lt_of_lt_of_le (Heap.lt_size e) (I.ok.cab x c hfn hc)))).trans (I.base.keep b o e n hb hx)
  ·obtain ⟨sl,e1⟩:=I.base.slot b o e n hb hx
   exact ⟨sl,(hs.2 b (Nat.ne_of_lt (Nat.lt_of_lt_of_le (Heap.lt_size e) (I.ok.cab x c hfn hc)))).trans e1⟩
  ·obtain ⟨o',e1⟩:=I.base.there b o e hx
   exact ⟨o',(hs.2 b (Nat.ne_of_lt (Nat.lt_of_lt_of_le (Heap.lt_size e) (I.ok.cab x c hfn hc)))).trans e1⟩
  ·by_cases hj:j=i
   ·subst hj
    rw [hi] at e1;cases e1
    rw [List.getElem?_set_self hiσ] at e2
    cases e2
    exact ⟨u,r,.inr ⟨.inl hk,c,hc,hc'⟩⟩
   ·rw [List.getElem?_set_ne (Ne.symm hj)] at e2
    obtain ⟨u',r',q⟩:=hl j y v' e1 e2 e3
    refine ⟨u',r',?_⟩
    rcases q with q|⟨k,c',e,z'⟩
    ·exact .inl q
    ·refine .inr ⟨k,c',e,z'.sameBut hs ?_⟩
     rintro rfl
     exact hj (nodup_ix hN e1 (I.ok.inj _ _ _ e hc ▸ hi))
  ·by_cases hcc:c'=c
   ·subst hcc;exact ⟨_,hc'⟩
   ·obtain ⟨w2,z2⟩:=I.cell y c' e
    exact ⟨w2,z2.sameBut hs hcc⟩
  ·obtain ⟨e,n,ne,nf,d⟩:=I.pin p hp
   refine ⟨(hs.2 p.1 ?_).trans e,n,ne,nf,d⟩
   intro q
   rw [q,hoc] at e
   have q':oc=p.2:=Option.some.inj e
   exact d w' (by rw [←q'];exact hocd)
theorem store_ok {M:Model}{A:Around}{E:Value->Shared->Prop}{i:Nat}{x:Str}{v:V}{u:Value}{Q:Unit->Shared->Prop}(I:Inv X pins σ H s) (hN:X.N.Nodup) (hi:X.N[i]? = some x) (hx:Loc X.env.scope x) (r:RelV v u)
  (h:∀ s',Inv X pins (σ.set i (some v)) H s'->Q () s') (hf:X.fn x=true∨X.env.scope.names.lookup x=some .local:=by first|exact .inl rfl|exact .inr rfl|assumption):wpAny M A (storeName X.env x u) Q E s:=
 store_ok2 I hN hi hx r (fun s' I' _=>h s' I') hf
theorem Inv.call' {s':Shared}{ch:List Addr}(I:Inv X pins σ H s) (ho:s'.os=s.os) (u:Un (frs X.stack) ch H H' s.heap s'.heap) (hok:HOk X.prog X.w H' s'.heap) (hg:AllBare s'.gens)
  (hch:∀ b∈ch,(b∈X.ex∨X.s₀.heap.objs.size≤b)∧b ≠ X.env.locals∧(∀ x c,X.env.cells.lookup x=some c->c ≠ b)∧∀ p∈X.pn++pins,p.1 ≠ b):Inv X pins σ H' s':=by
 obtain ⟨h',g',d',t',o'⟩:=s'
 have e:o'=s.os:=ho
 subst e
 exact I.call (g':=g') (t':=t') (d':=d') u hok hg hch
end
abbrev XK:=Value->Option Addr->Hp->Prop
abbrev St:=List (Option V)
abbrev VK:=V->Hp->Prop
abbrev TE:=St->Hp->VK->Prop
abbrev TT:=St->Hp->(Bool->Hp->Prop)->Prop
abbrev TA:=St->Hp->(List V->Hp->Prop)->Prop
structure Ends where
 nx:St->Hp->Prop
 rt:VK
 bk:St->Hp->Prop:=fun _ _=>False
 ct:St->Hp->Prop:=fun _ _=>False
abbrev TS:=Ends->St->Hp->Prop
def EP (X:Cx) (pins:List (Addr × Obj)) (σ:St) (Q:VK) (u:Value) (s':Shared):Prop:=∃ v H',Inv X pins σ H' s'∧RelV v u∧Q v H'
def TP (X:Cx) (pins:List (Addr × Obj)) (σ:St) (Q:Bool->Hp->Prop) (b:Bool) (s':Shared):Prop:=∃ H',Inv X pins σ H' s'∧Q b H'
def AP (X:Cx) (pins:List (Addr × Obj)) (σ:St) (Q:List V->Hp->Prop) (us:List Value) (s':Shared):Prop:=∃ vs H',Inv X pins σ H' s'∧Vals vs us∧Q vs H'
def SP (X:Cx) (pins:List (Addr × Obj)) (D:Ends) (f:Flow) (s':Shared):Prop:=
 match f with
 | .next=>∃ σ' H',Inv X pins σ' H' s'∧D.nx σ' H'
 | .brk=>∃ σ' H',Inv X pins σ' H' s'∧D.bk σ' H'
 | .cont=>∃ σ' H',Inv X pins σ' H' s'∧D.ct σ' H'
 | .ret u=>∃ v σ' H',Inv X pins σ' H' s'∧RelV v u∧D.rt v H'
def PE (X:Cx) (e:Expr) (t:TE):Prop:=
 ∀ (pins:List (Addr × Obj)) (s:Shared) (σ:St) (H:Hp) (Q:VK),Inv X pins σ H s->t σ H Q->wpAny (model X.prog X.w) X.A (eval e X.env) (EP X pins σ Q) X.xe s
def PT (X:Cx) (e:Expr) (t:TT):Prop:=
 ∀ (pins:List (Addr × Obj)) (s:Shared) (σ:St) (H:Hp) (Q:Bool->Hp->Prop),Inv X pins σ H s->t σ H Q->wpAny (model X.prog X.w) X.A (isTrue e X.env (eval e X.env)) (TP X pins σ Q) X.xe s
def PW (X:Cx) (e:Expr) (t:TT):Prop:=
 ∀ (whole:Sem Value) (pins:List (Addr × Obj)) (s:Shared) (σ:St) (H:Hp) (Q:Bool->Hp->Prop),Inv X pins σ H s->t σ H Q->wpAny (model X.prog X.w) X.A (isTrue e X.env whole) (TP X pins σ Q) X.xe s
theorem PW.pt {X:Cx}{e:Expr}{t:TT}(h:PW X e t):PT X e t:=h _
def PA (X:Cx) (es:List Expr) (t:TA):Prop:=
 ∀ (pos:Pos) (pins:List (Addr × Obj)) (s:Shared) (σ:St) (H:Hp) (Q:List V->Hp->Prop),Inv X pins σ H s->t σ H Q->wpAny (model X.prog X.w) X.A (spliced (backTo pos (starEach es X.env))) (AP X pins σ Q) X.xe s
def PS (X:Cx) (st:Stmt) (t:TS):Prop:=
 ∀ (pins:List (Addr × Obj)) (s:Shared) (σ:St) (H:Hp) (D:Ends),Inv X pins σ H s->t D σ H->wpAny (model X.prog X.w) X.A (exec st X.env) (SP X pins D) X.xe s
def PSs (X:Cx) (st:List Stmt) (t:TS):Prop:=
 ∀ (pins:List (Addr × Obj)) (s:Shared) (σ:St) (H:Hp) (D:Ends),Inv X pins σ H s->t D σ H->wpAny (model X.prog X.w) X.A (execs st X.env) (SP X pins D) X.xe s
theorem thn {α:Type}{t:Sem α}{Q Q':α->Shared->Prop}{M:Model}{A:Around}{E:Value->Shared->Prop}{s:Shared}(h:wpAny M A t Q E s) (hQ:∀ a s,Q a s->Q' a s):wpAny M A t Q' E s:=wpAny_mono h hQ fun _ _ x=>x
end L2
namespace L2
open PySem PySem.Spec PyProof.Rows
section
variable {X:Cx}
def tVar (i:Nat):TE:=fun σ H Q=>∃ v,σ[i]? = some (some v)∧Q v H
def tC (v:V):TE:=fun _ H Q=>Q v H
theorem pe_var {i:Nat}{x:Str}{pos:Pos}(hN:X.N[i]? = some x) (hv:Vis X.env.scope x) (hd:(x == ("__debug__":Str))=false:=by decide) (hcd:(x == ("__classdict__":Str))=false:=by decide):PE X (.Name x pos) (tVar i):=by
 intro pins s σ H Q I h
 obtain ⟨v,e,h⟩:=h
 obtain ⟨m,hn,hl⟩:=I.loc
 obtain ⟨u,r,l⟩:=hl i x v hN e hv
 have fin:EP X pins σ Q u s:=⟨v,H,I,r,h⟩
 rcases l with ⟨hk,hm⟩|⟨hk,c,hc,hcell⟩
 ·exact wpAny_Name (wpAny_loadName_local I.ok.kind hk hn hm fin) hd
 ·rcases hk with hk|hk
  ·exact wpAny_Name (wpAny_loadName_cell I.ok.kind hk hc hcell fin) hd
  ·exact wpAny_Name (wpAny_loadName_free I.ok.kind hk hc hcell fin hcd) hd
theorem pe_int {i j pos}:PE X (.Constant (.int i) j pos) (tC (.int i)):=fun _ _ _ H _ I h=>wpAny_Constant_int ⟨.int i,H,I.tok _,⟨_,rfl⟩,h⟩
theorem pe_bl {b j pos}:PE X (.Constant (.bool b) j pos) (tC (.bl b)):=fun _ _ _ H _ I h=>Constant_bool ⟨.bl b,H,I,rfl,h⟩
theorem pe_non {j pos}:PE X (.Constant .none j pos) (tC .non):=fun _ _ _ H _ I h=>Constant_none ⟨.non,H,I,rfl,h⟩
theorem pe_str {x j pos}:PE X (.Constant (.str x) j pos) (tC (.str x)):=fun _ _ _ H _ I h=>Calls.Constant_str ⟨.str x,H,I.tok _,⟨_,rfl⟩,h⟩
def Gl (X:Cx) (x:Str):Prop:=X.env.kindOf x=some .globalImplicit
theorem ld_glob {E:Value->Shared->Prop}{pins:List (Addr × Obj)}{s:Shared}{σ:St}{H:Hp}{x:Str}{u:Value}{pos:Pos}{Q:Value->Shared->Prop}(I:Inv X pins σ H s) (hg:Gl X x) (hm:X.mg x=some u) (h:Q u s)
  (hd:(x == ("__debug__":Str))=false:=by decide):wpAny (model X.prog X.w) X.A (eval (.Name x pos) X.env) Q E s:=
 Calls.Name_function_global I.ok.kind hg (Calls.loadGlobal_global (by rw [I.ok.glob];exact I.mod.glob.keeps I.bk) hm h) hd
theorem ld_blt {E:Value->Shared->Prop}{pins:List (Addr × Obj)}{s:Shared}{σ:St}{H:Hp}{x:Str}{u:Value}{pos:Pos}{Q:Value->Shared->Prop}(I:Inv X pins σ H s) (hg:Gl X x) (hm:X.mg x=none) (hv:bootBuiltins x=some u) (h:Q u s)
  (hn:x ≠ "__name__":=by decide) (hd:(x == ("__debug__":Str))=false:=by decide):wpAny (model X.prog X.w) X.A (eval (.Name x pos) X.env) Q E s:=by
 obtain ⟨mb,h1,h2⟩:=I.mod.blt
 exact Calls.Name_function_global I.ok.kind hg (Calls.loadGlobal_builtin (by rw [I.ok.glob];exact I.mod.glob.keeps I.bk) hm (by rw [I.ok.blt];exact h1.keeps I.bk) ((h2 x hn).trans hv) h) hd
theorem pe_glob {x:Str}{v:V}{u:Value}{pos:Pos}(hg:Gl X x) (hm:X.mg x=some u) (r:RelV v u) (hd:(x == ("__debug__":Str))=false:=by decide):PE X (.Name x pos) (tC v):=
 fun _ _ _ H _ I h=>ld_glob I hg hm ⟨v,H,I,r,h⟩ hd
theorem pe_bltn {x:Str}{v:V}{u:Value}{pos:Pos}(hg:Gl X x) (hm:X.mg x=none) (hv:bootBuiltins x=some u) (r:RelV v u) (hn:x ≠ "__name__":=by decide) (hd:(x == ("__debug__":Str))=false:=by decide):PE X (.Name x pos) (tC v):=
 fun _ _ _ H _ I h=>ld_blt I hg hm hv ⟨v,H,I,r,h⟩ hn hd
variable {a b:Expr}{ta tb:TE}{pos:Pos}
def tB (t:TE):TT:=fun σ H Q=>t σ H fun x H1=>∃ c,x=.bl c∧Q c H1
theorem pt_val {e:Expr}{t:TE}(h:PE X e t) (he:∀ whole,isTrue e X.env whole=(do let v ←whole;standAt e.pos;holding [v] (truthy v)):=by intro _;rfl):PT X e (tB t):=by
 intro pins s σ H Q I hw
 refine isTrue_plain (thn (h pins s σ H _ I hw) fun v s1 ⟨x,H1,I1,r1,q1⟩=>?_) (he _)
 obtain ⟨d,rfl,q⟩:=q1
 cases r1
 exact wpAny_truthy_bool ⟨H1,I1,q⟩
variable {tA tB':TT}{rest:List Expr}
def tOr (t u:TT):TT:=fun σ H Q=>t σ H fun c H1=>if c=true then Q true H1 else u σ H1 Q
def tNot (t:TT):TT:=fun σ H Q=>t σ H fun c H1=>Q (!c) H1
theorem pw_or1 (ha:PT X a tA):PW X (.BoolOp .Or [a] pos) tA:=by
 intro wh pins s σ H Q I h
 refine isTrue_or (thn (ha pins s σ H Q I h) fun c s1 e=>?_)
 cases c with
 | false=>exact isTrue_or_nil e
 | true=>exact e
theorem pw_or (ha:PT X a tA) (hb:PW X (.BoolOp .Or (b::rest) pos) tB'):PW X (.BoolOp .Or (a::b::rest) pos) (tOr tA tB'):=by
 intro wh pins s σ H Q I h
 refine isTrue_or (thn (ha pins s σ H _ I h) fun c s1 ⟨H1,I1,q1⟩=>?_)
 cases c with
 | true=>exact ⟨H1,I1,q1⟩
 | false=>exact hb wh pins s1 σ H1 Q I1 q1
theorem pt_not (ha:PT X a tA):PT X (.UnaryOp .Not a pos) (tNot tA):=by
 intro pins s σ H Q I h
 exact isTrue_not (ha pins s σ H (fun c H1=>Q (!c) H1) I h)
def tAndV (ta tb:TE):TE:=fun σ H Q=>ta σ H fun x H1=>∃ c,x=.bl c∧if c=true then tb σ H1 Q else Q (.bl false) H1
def tNotV (ta:TE):TE:=fun σ H Q=>ta σ H fun x H1=>∃ c,x=.bl c∧Q (.bl (!c)) H1
theorem pe_one {op}{t:TE}(h:PE X a t):PE X (.BoolOp op [a] pos) t:=fun pins s σ H Q I hw=>BoolOp_one (h pins s σ H Q I hw)
theorem pe_and (ha:PE X a ta) (hb:PE X (.BoolOp .And (b::rest) pos) tb):PE X (.BoolOp .And (a::b::rest) pos) (tAndV ta tb):=by
 intro pins s σ H Q I h
 refine BoolOp_and (thn (ha pins s σ H _ I h) fun v s1 ⟨x,H1,I1,r1,q1⟩=>?_)
 obtain ⟨c,rfl,q1⟩:=q1
 cases r1
 refine wpAny_truthy_bool ?_
 cases c with
 | true=>exact hb pins s1 σ H1 Q I1 q1
 | false=>exact ⟨.bl false,H1,I1,rfl,q1⟩
theorem pe_not (ha:PE X a ta):PE X (.UnaryOp .Not a pos) (tNotV ta):=by
 intro pins s σ H Q I h
 refine UnaryOp_ (thn (ha pins s σ H _ I h) fun v s1 ⟨x,H1,I1,r1,q1⟩=>?_)
 obtain ⟨c,rfl,q1⟩:=q1
 cases r1
 exact not_of (wpAny_truthy_bool ⟨.bl (!c),H1,I1,rfl,q1⟩)
def tIf (t:TT) (ta tb:TE):TE:=fun σ H Q=>t σ H fun c H1=>if c=true then ta σ H1 Q else tb σ H1 Q
theorem pe_ifExp {c:Expr}(hc:PT X c tA) (ha:PE X a ta) (hb:PE X b tb):PE X (.IfExp c a b pos) (tIf tA ta tb):=by
 intro pins s σ H Q I h
 refine wpAny_IfExp (thn (hc pins s σ H _ I h) fun d s1 ⟨H1,I1,q1⟩=>?_)
 cases d with
 | true=>exact ha pins s1 σ H1 Q I1 q1
 | false=>exact hb pins s1 σ H1 Q I1 q1
end
end L2
namespace L2
open PySem PySem.Spec PyProof.Rows
def SqL (K:PySem.W.Frag) (H:Hp) (a:Addr) (xs:List V):Prop:=
 Rd H a (.lst xs) ∨
  ∃ (o:Obj) (its:Array Value) (n:Nat),K.lookup a=some o∧o.cls=.type "list" ∧ o.dict=none∧o.data=.seq its n∧its.size≤sizeLine∧Vals xs its.toList
def SqT (K:PySem.W.Frag) (H:Hp) (a:Addr) (xs:List V):Prop:=
 Rd H a (.tup xs) ∨
  ∃ (o:Obj) (its:Array Value) (n:Nat),K.lookup a=some o∧o.cls=.type "tuple" ∧ o.data=.seq its n∧its.size≤sizeLine∧Vals xs its.toList
def absV:Value->Option V
 | .none=>some .non
 | .bool b=>some (.bl b)
 | .int i _=>some (.int i)
 | .str x _=>some (.str x)
 | .bytes b _=>some (.byt b)
 | .float b _=>some (.flt b)
 | .ref a=>some (.ref a)
 | .type n=>some (.ty n)
 | _=>none
theorem RelV.abs {x:V}{u:Value}(r:RelV x u):absV u=some x:=by
 cases x with
 | non=>cases r;rfl
 | bl _=>cases r;rfl
 | int _=>obtain ⟨t,rfl⟩:=r;rfl
 | str _=>obtain ⟨t,rfl⟩:=r;rfl
 | byt _=>obtain ⟨t,rfl⟩:=r;rfl
 | flt _=>obtain ⟨t,rfl⟩:=r;rfl
 | ref _=>cases r;rfl
 | ty _=>cases r;rfl
theorem RelV.inj {x y:V}{u:Value}(r:RelV x u) (q:RelV y u):x=y:=Option.some.inj (r.abs.symm.trans q.abs)
theorem Vals.inj:∀ {xs ys:List V}{us:List Value},Vals xs us->Vals ys us->xs=ys
 | _,_,_,.nil,.nil=>rfl
 | _,_,_,.cons r t,.cons r' t'=>by rw [r.inj r',Vals.inj t t']
section
variable {X:Cx}{pins:List (Addr × Obj)}{σ:St}{H:Hp}{s:Shared}{a:Addr}{xs ys:List V}
theorem SqL.of {K:PySem.W.Frag}(h:H a=some (.lst xs)):SqL K H a xs:=.inl (.inl h)
theorem SqT.of {K:PySem.W.Frag}(h:H a=some (.tup xs)):SqT K H a xs:=.inl (.inl h)
theorem Inv.list (I:Inv X pins σ H s) (h:SqL X.K H a xs):∃ its:List Value,Vals xs its∧PlainL s.heap a its.toArray∧xs.length≤sizeLine:=by
 rcases h with h|⟨o,its,n,hk,hc,hd,hs,hz,r⟩
 ·obtain ⟨z,its,n,r,e⟩:=h.ok I.hok
  exact ⟨its,r,⟨_,n,e,rfl,rfl,rfl⟩,z⟩
 ·refine ⟨its.toList,r,⟨o,n,I.kIn a o hk,hc,hd,by simpa using hs⟩,?_⟩
  have e:=r.length
  simp only [Array.length_toList] at e
  omega
theorem Inv.tuple (I:Inv X pins σ H s) (h:SqT X.K H a xs):∃ its:List Value,Vals xs its∧IsTup s.heap a its.toArray∧xs.length≤sizeLine:=by
 rcases h with h|⟨o,its,n,hk,hc,hs,hz,r⟩
 ·obtain ⟨z,its,r,p⟩:=h.ok I.hok
  exact ⟨its,r,p,z⟩
 ·refine ⟨its.toList,r,⟨o,I.kIn a o hk,hc,n,by simpa using hs⟩,?_⟩
  have e:=r.length
  simp only [Array.length_toList] at e
  omega
theorem Inv.list_inj (I:Inv X pins σ H s) (h:SqL X.K H a xs) (h':SqL X.K H a ys):xs=ys:=by
 obtain ⟨its,r,⟨o,n,e,_,_,d⟩,_⟩:=I.list h
 obtain ⟨its',r',⟨o',n',e',_,_,d'⟩,_⟩:=I.list h'
 rw [e] at e';cases e'
 rw [d] at d'
 injection d' with d1 _
 have:its=its':=by simpa using congrArg Array.toList d1
 subst this
 exact r.inj r'
theorem Inv.tuple_inj (I:Inv X pins σ H s) (h:SqT X.K H a xs) (h':SqT X.K H a ys):xs=ys:=by
 obtain ⟨its,r,⟨o,e,_,n,d⟩,_⟩:=I.tuple h
 obtain ⟨its',r',⟨o',e',_,n',d'⟩,_⟩:=I.tuple h'
 rw [e] at e';cases e'
 rw [d] at d'
 injection d' with d1 _
 have:its=its':=by simpa using congrArg Array.toList d1
 subst this
 exact r.inj r'
end
abbrev Cx.wish (X:Cx) (E:Value->Shared->Prop):Cx:={ X with xe:=E }
abbrev Cx.nox (X:Cx):Cx:=X.wish fun _ _=>False
theorem Cx.Ok.wish {X:Cx}(ok:X.Ok) (E:Value->Shared->Prop):(X.wish E).Ok:=
 ⟨ok.mod,ok.kind,ok.glob,ok.blt,ok.above,ok.inj,ok.has,ok.cab,ok.hd,ok.frames,ok.stk,ok.exf,ok.bs,ok.bsz,ok.noex,ok.exfs,ok.funs,ok.frf⟩
theorem Cx.Ok.unwish {X:Cx}{E:Value->Shared->Prop}(ok:(X.wish E).Ok):X.Ok:=
 ⟨ok.mod,ok.kind,ok.glob,ok.blt,ok.above,ok.inj,ok.has,ok.cab,ok.hd,ok.frames,ok.stk,ok.exf,ok.bs,ok.bsz,ok.noex,ok.exfs,ok.funs,ok.frf⟩
section
variable {X:Cx}{pins:List (Addr × Obj)}{σ:St}{H:Hp}{s:Shared}{E:Value->Shared->Prop}
theorem Inv.wish (I:Inv X pins σ H s) (E:Value->Shared->Prop):Inv (X.wish E) pins σ H s:=⟨I.ok.wish E,I.os,I.bare,I.base,I.loc,I.cell,I.free,I.freeC,I.pin,I.hok,I.len⟩
theorem Inv.unwish (I:Inv (X.wish E) pins σ H s):Inv X pins σ H s:=⟨I.ok.unwish,I.os,I.bare,I.base,I.loc,I.cell,I.free,I.freeC,I.pin,I.hok,I.len⟩
theorem SP.unwish {D:Ends}{f:Flow}{s':Shared}(h:SP (X.wish E) pins D f s'):SP X pins D f s':=by
 cases f with
 | next=>obtain ⟨σ',H',I,q⟩:=h;exact ⟨σ',H',I.unwish,q⟩
 | brk=>obtain ⟨σ',H',I,q⟩:=h;exact ⟨σ',H',I.unwish,q⟩
 | cont=>obtain ⟨σ',H',I,q⟩:=h;exact ⟨σ',H',I.unwish,q⟩
 | ret u=>obtain ⟨v,σ',H',I,r,q⟩:=h;exact ⟨v,σ',H',I.unwish,r,q⟩
theorem PSs.nox {st:List Stmt}{t:TS}(h:PSs X.nox st t):PSs X st t:=fun pins s σ H D I hw=>
 wpAny_mono (h pins s σ H D (I.wish _) hw) (fun _ _ q=>q.unwish) fun _ _ z=>False.elim z
end
section
variable {X:Cx}{st:Stmt}{rest:List Stmt}{t u:TS}{e:Expr}{te:TE}{pos:Pos}
def tNext:TS:=fun D σ H=>D.nx σ H
def tSeq (t u:TS):TS:=fun D σ H=>t { D with nx:=u D } σ H
theorem pss_nil:PSs X [] tNext:=fun _ _ σ H _ I h=>wpAny_execs_nil ⟨σ,H,I,h⟩
theorem pss_cons (h1:PS X st t) (h2:PSs X rest u):PSs X (st::rest) (tSeq t u):=by
 intro pins s σ H D I h
 refine wpAny_execs_cons (thn (h1 pins s σ H { D with nx:=u D } I h) fun f s1 q=>?_)
 cases f with
 | next=>
  obtain ⟨σ',H',I',q⟩:=q
  exact h2 pins s1 σ' H' D I' q
 | ret v=>exact q
 | brk=>exact q
 | cont=>exact q
theorem pss_one (h1:PS X st t):PSs X [st] t:=by
 intro pins s σ H D I h
 refine wpAny_execs_cons (thn (h1 pins s σ H D I h) fun f s1 q=>?_)
 cases f with
 | next=>exact wpAny_execs_nil q
 | ret v=>exact q
 | brk=>exact q
 | cont=>exact q
theorem Inv.quiet {pins:List (Addr × Obj)}{σ:St}{H:Hp}{s:Shared}(I:Inv X pins σ H s):interactive X.env=false:=by simp [interactive,I.ok.kind]
def tDrop (te:TE):TS:=fun D σ H=>te σ H fun _ H1=>D.nx σ H1
theorem ps_expr (he:PE X e te) (hs:swapsWith e none pos.line X.env=pure false:=by rfl):PS X (.Expr e pos) (tDrop te):=by
 intro pins s σ H D I h
 exact wpAny_Expr_any (thn (he pins s σ H _ I h) fun v s1 ⟨x,H1,I1,r1,q1⟩=>⟨σ,H1,I1,q1⟩) I.quiet hs
def tRet (te:TE):TS:=fun D σ H=>te σ H D.rt
theorem ps_ret (he:PE X e te):PS X (.Return (some e) pos) (tRet te):=by
 intro pins s σ H D I h
 exact wpAny_Return_some (thn (he pins s σ H _ I h) fun v s1 ⟨x,H1,I1,r1,q1⟩=>⟨x,σ,H1,I1,r1,q1⟩)
def tIfS (c:TT) (t u:TS):TS:=fun D σ H=>c σ H fun b H1=>if b=true then t D σ H1 else u D σ H1
theorem ps_if {c:Expr}{a b:List Stmt}{tc:TT}(hc:PT X c tc) (ha:PSs X a t) (hb:PSs X b u):PS X (.If c a b pos) (tIfS tc t u):=by
 intro pins s σ H D I h
 refine wpAny_If (thn (hc pins s σ H _ I h) fun d s1 ⟨H1,I1,q1⟩=>?_)
 cases d with
 | true=>exact ha pins s1 σ H1 D I1 q1
 | false=>exact hb pins s1 σ H1 D I1 q1
def tNever:TS:=fun _ _ _=>False
theorem ps_never:PS X st tNever:=fun _ _ _ _ _ _ h=>h.elim
end
abbrev TG:=V->St->Hp->(St->Hp->Prop)->Prop
abbrev TGs:=List V->St->Hp->(St->Hp->Prop)->Prop
def PG (X:Cx) (target:Expr) (t:TG):Prop:=
 ∀ (pins:List (Addr × Obj)) (s:Shared) (σ:St) (H:Hp) (v:V) (u:Value) (Q:St->Hp->Prop),Inv X pins σ H s->RelV v u->t v σ H Q →
  wpAny (model X.prog X.w) X.A (assign target X.env u) (fun _ s'=>∃ σ' H',Inv X pins σ' H' s'∧Q σ' H') X.xe s
def PGs (X:Cx) (ts:List Expr) (t:TGs):Prop:=
 ∀ (pins:List (Addr × Obj)) (s:Shared) (σ:St) (H:Hp) (vs:List V) (us:List Value) (Q:St->Hp->Prop),Inv X pins σ H s->Vals vs us->t vs σ H Q →
  wpAny (model X.prog X.w) X.A (assignInOrder ((assignEach ts X.env).map (·.2)) us) (fun _ s'=>∃ σ' H',Inv X pins σ' H' s'∧Q σ' H') X.xe s
abbrev TSet:=V->V->V->Hp->(Hp->Prop)->Prop
def PSet (X:Cx) (t:TSet):Prop:=
 ∀ (pins:List (Addr × Obj)) (s:Shared) (σ:St) (H:Hp) (o i v:V) (ov iv u:Value) (Q:Hp->Prop),Inv X pins σ H s->RelV o ov->RelV i iv->RelV v u->t o i v H Q →
  wpAny (model X.prog X.w) X.A (setItem ov iv u) (fun _ s'=>∃ H',Inv X pins σ H' s'∧Q H') X.xe s
section
variable {X:Cx}{pos:Pos}
def gName (i:Nat):TG:=fun v σ H Q=>Q (σ.set i (some v)) H
theorem pg_name {i:Nat}{x:Str}(hN:X.N.Nodup) (hi:X.N[i]? = some x) (hx:Loc X.env.scope x) (hf:X.fn x=true∨X.env.scope.names.lookup x=some .local:=by first|exact .inl rfl|exact .inr rfl|assumption):PG X (.Name x pos) (gName i):=by
 intro pins s σ H v u Q I r h
 exact wpAny_assign_Name (store_ok I hN hi hx r (fun s' I'=>⟨_,H,I',h⟩) hf)
def gNil:TGs:=fun vs σ H Q=>vs=[]∧Q σ H
def gCons (t:TG) (u:TGs):TGs:=fun vs σ H Q=>∃ v r,vs=v::r∧t v σ H fun σ' H'=>u r σ' H' Q
theorem pgs_nil:PGs X [] gNil:=by
 intro pins s σ H vs us Q I r h
 obtain ⟨e,h⟩:=h
 subst e
 cases r
 exact assignInOrder_nil ⟨σ,H,I,h⟩
theorem pgs_cons {e:Expr}{es:List Expr}{t:TG}{u:TGs}(h1:PG X e t) (h2:PGs X es u)
  (hs:(assignEach (e::es) X.env).map (·.2)=assign e X.env::(assignEach es X.env).map (·.2):=by rfl):PGs X (e::es) (gCons t u):=by
 intro pins s σ H vs us Q I r h
 obtain ⟨v,vr,e1,h⟩:=h
 subst e1
 cases r with
 | cons r rr=>
  rw [hs]
  refine assignInOrder_cons (thn (h1 pins s σ H _ _ _ I r h) fun _ s1 ⟨σ1,H1,I1,q1⟩=>?_)
  exact h2 pins s1 σ1 H1 _ _ Q I1 rr q1
def gTup (K:PySem.W.Frag) (n:Nat) (t:TGs):TG:=fun v σ H Q=>∃ a xs,v=.ref a∧SqT K H a xs∧xs.length=n∧t xs σ H Q
theorem pg_tup {es:List Expr}{k:Nat}{t:TGs}{n:Nat}(hc:X.calm=true) (h:PGs X es t)
  (hn:(assignEach es X.env).length=n:=by rfl) (hst:(assignEach es X.env).findIdx? (·.1)=none:=by rfl):PG X (.Tuple es k pos) (gTup X.K n t):=by
 intro pins s σ H v u Q I r hw
 obtain ⟨a,xs,e1,hq,hl,hw⟩:=hw
 subst e1
 cases r
 obtain ⟨its,rv,ht,hz⟩:=I.tuple hq
 refine assign_Tuple_tuple (I.ok.hd hc) ht (by simp [hn,←hl,rv.length]) hst fun h' hx=>?_
 have I1:Inv X pins σ H { s with heap:=h' }:=I.kept (t':=s.toks) fun b o e=>hx b o (Nat.ne_of_lt (Heap.lt_size e)) e
 exact h pins _ σ H xs _ Q I1 (by simpa using rv) hw
def gSub (to ti:TE) (t:TSet):TG:=fun v σ H Q=>to σ H fun o H1=>ti σ H1 fun i H2=>t o i v H2 fun H3=>Q σ H3
theorem pg_sub {o i:Expr}{to ti:TE}{t:TSet}(ho:PE X o to) (hi:PE X i ti) (hs:PSet X t)
  (ha:∀ v,assign (.Subscript o i pos) X.env v=(do
   let ov ←holding [v] (eval o X.env)
   let iv ←holding [v,ov] (eval i X.env)
   standAt pos
   holding [v,ov,iv] (setItem ov iv v)
   release [v,ov,iv] []):=by intro _;rfl):PG X (.Subscript o i pos) (gSub to ti t):=by
 intro pins s σ H v u Q I r h
 rw [ha]
 refine wpAny_bind (wpAny_holding (thn (ho pins s σ H _ I h) fun ov s1 ⟨x,H1,I1,r1,q1⟩=>?_))
 refine wpAny_bind (wpAny_holding (thn (hi pins s1 σ H1 _ I1 q1) fun iv s2 ⟨y,H2,I2,r2,q2⟩=>?_))
 refine wpAny_bind (wpAny_standAt (wpAny_bind (wpAny_holding (thn (hs pins s2 σ H2 x y v ov iv u _ I2 r1 r2 r q2) fun _ s3 ⟨H3,I3,q3⟩=>?_))))
 exact wpAny_release ⟨σ,H3,I3,q3⟩
def tAsg (te:TE) (g:TG):TS:=fun D σ H=>te σ H fun x H1=>g x σ H1 D.nx
theorem ps_asg {tg e:Expr}{te:TE}{g:TG}(he:PE X e te) (hg:PG X tg g) (hs:swapsWithSole [tg] e pos.line X.env=pure false:=by rfl) (hw:swappedStores [tg] e X.env=pure none:=by rfl)
  (h1:(assignEach [tg] X.env).map (·.2)=[assign tg X.env]:=by rfl):PS X (.Assign [tg] e pos) (tAsg te g):=by
 intro pins s σ H D I h
 refine wpAny_Assign_stores (thn (he pins s σ H _ I h) fun v s1 ⟨x,H1,I1,r1,q1⟩=>?_) hs hw
 rw [h1]
 exact thn (hg pins s1 σ H1 x v _ I1 r1 q1) fun _ s2 q=>q
theorem ps_set {i:Nat}{x:Str}{e:Expr}{te:TE}{pos':Pos}(hN:X.N.Nodup) (hi:X.N[i]? = some x) (hx:Loc X.env.scope x) (he:PE X e te) (hs:swapsWith e (some (.Name x pos')) pos.line X.env=pure false:=by rfl) (hf:X.fn x=true∨X.env.scope.names.lookup x=some .local:=by first|exact .inl rfl|exact .inr rfl|assumption) :
  PS X (.Assign [.Name x pos'] e pos) (tAsg te (gName i)):=by
 intro pins s σ H D I h
 refine wpAny_Assign_Name (thn (he pins s σ H _ I h) fun v s1 ⟨y,H1,I1,r1,q1⟩=>?_) hs
 exact store_ok I1 hN hi hx r1 (fun s2 I2=>⟨_,H1,I2,q1⟩) hf
end
section
variable {X:Cx}{pos:Pos}
end
structure It where
 go:Nat->Hp->Prop
 yld:Nat->Hp->V->Hp->Prop
 stop:Nat->Hp->Prop
def FpOk (X:Cx) (pins:List (Addr × Obj)) (H:Hp) (b:Addr):Prop:=
 H b=none∧b ≠ X.env.locals∧b ∉ X.fs∧(b∈X.ex∨X.s₀.heap.objs.size≤b)∧(∀ x c,X.env.cells.lookup x=some c->c ≠ b)∧∀ p∈X.pn++pins,p.1 ≠ b
theorem Inv.fpOk {X:Cx}{pins:List (Addr × Obj)}{σ:St}{H H':Hp}{s:Shared}{b:Addr}(I:Inv X pins σ H s) (hb:s.heap.objs.size≤b) (hn:H' b=none):FpOk X pins H' b:=by
 refine ⟨hn,Nat.ne_of_gt (Nat.lt_of_lt_of_le I.lt hb),I.nofs hb,.inr (Nat.le_trans I.sz hb),fun x c e z=>?_,fun p hp z=>?_⟩
 ·obtain ⟨v,q⟩:=I.cell x c e
  exact absurd (Nat.lt_of_lt_of_le q.lt (by rw [z];exact hb)) (Nat.lt_irrefl _)
 ·exact absurd (Nat.lt_of_lt_of_le (Heap.lt_size (I.pin p hp).1) (by rw [z];exact hb)) (Nat.lt_irrefl _)
structure Turn (P:Program) (w:World) (K:PySem.W.Frag) (tg:Expr) (J:It) (fp:List Addr) (it:Addr) (tn:Nat->Heap->Prop):Prop where
 mem:it∈fp
 obj:∀ i h,tn i h->∀ b∈fp,∃ o,h.get? b=some o∧∀ v,o.data ≠ .cell v
 keep:∀ i h h',tn i h->(∀ b∈fp,∀ o,h.get? b=some o->h'.get? b=some o)->tn i h'
 item:∀ (X:Cx),X.prog=P->X.w=w->X.K=K->X.calm=true->∀ (i:Nat) (pins:List (Addr × Obj)) (s:Shared) (σ:St) (H:Hp) (E:Value->Shared->Prop),Inv X pins σ H s->(∀ b∈fp,FpOk X pins H b)->tn i s.heap->J.go i H →
  wpAny (model P w) X.A (pyNext (.ref it)) (fun r s1=>∃ u,r=some u ∧
   wpAny (model P w) X.A (letOwnedTupleGo tg (.ref it) u) (fun _ s2=>∃ x H',Inv X pins σ H' s2∧RelV x u∧J.yld i H x H'∧tn (i+1) s2.heap∧∀ b∈fp,H' b=none) E s1) E s
 done:∀ (X:Cx),X.prog=P->X.w=w->X.K=K->X.calm=true->∀ (i:Nat) (pins:List (Addr × Obj)) (s:Shared) (σ:St) (H:Hp) (E:Value->Shared->Prop),Inv X pins σ H s->(∀ b∈fp,FpOk X pins H b)->tn i s.heap->J.stop i H →
  wpAny (model P w) X.A (pyNext (.ref it)) (fun r s1=>r=none∧Inv X pins σ H s1) E s
 self:∀ (A:Around) (i:Nat) (s:Shared) (Q:Value->Shared->Prop) (E:Value->Shared->Prop),tn i s.heap->Q (.ref it) s->wpAny (model P w) A (pyIter (.ref it)) Q E s
abbrev TI:=St->Hp->(It->Hp->Prop)->Prop
def PIE (X:Cx) (pins:List (Addr × Obj)) (σ:St) (tg:Expr) (R:It->Hp->Prop) (itv:Value) (s2:Shared):Prop:=
 ∃ (it:Addr) (fp:List Addr) (tn:Nat->Heap->Prop) (J:It) (H':Hp),itv=.ref it∧Inv X pins σ H' s2∧Turn X.prog X.w X.K tg J fp it tn∧tn 0 s2.heap∧(∀ b∈fp,FpOk X pins H' b)∧R J H'
def PI (X:Cx) (tg iter:Expr) (wi:TI):Prop:=
 ∀ (pins:List (Addr × Obj)) (s:Shared) (σ:St) (H:Hp) (R:It->Hp->Prop),Inv X pins σ H s->wi σ H R →
  wpAny (model X.prog X.w) X.A (eval iter X.env) (fun v s1=>wpAny (model X.prog X.w) X.A (pyIter v) (PIE X pins σ tg R) X.xe s1) X.xe s
theorem go_of {M:Model}{A:Around}{E:Value->Shared->Prop}{s:Shared}{tg:Expr}{it:Addr}{u:Value}{o:Obj}{n:String}{vs:Array Value}{Q:Unit->Shared->Prop}(ho:s.heap.get? it=some o) (hc:o.cls=.type n) (hd:o.data=.fields vs)
    (hn:["enumerate", "zip", "dict_itemiterator", "dict_reverseitemiterator", "odict_iterator", "itertools.zip_longest", "itertools.pairwise"].contains n=false) (hQ:Q () s):wpAny M A (letOwnedTupleGo tg (.ref it) u) Q E s:=by
  unfold letOwnedTupleGo
  cases tg<;>first
    | exact wpAny_pure hQ
    | (cases u<;>first
        | exact wpAny_pure hQ
        | (refine wpAny_bind (wpAny_load ho ?_)
           rw [hc,hd]
           show wpAny M A (if (["enumerate", "zip", "dict_itemiterator", "dict_reverseitemiterator", "odict_iterator", "itertools.zip_longest", "itertools.pairwise"].contains n && vs[0]? == some (rawInt _))=true then _ else _) Q E s
           rw [if_neg (by intro h;rw [hn,Bool.false_and] at h;cases h)]
           exact wpAny_pure hQ))
def Itl (K:PySem.W.Frag) (a:Addr):It:=
 ⟨fun i H=>∃ xs x,SqL K H a xs∧xs[i]? = some x,fun i H x H'=>H'=H∧∀ xs,SqL K H a xs->xs[i]? = some x,fun i H=>∃ xs,SqL K H a xs∧xs.length≤i⟩
def Itt (K:PySem.W.Frag) (a:Addr):It:=
 ⟨fun i H=>∃ xs x,SqT K H a xs∧xs[i]? = some x,fun i H x H'=>H'=H∧∀ xs,SqT K H a xs->xs[i]? = some x,fun i H=>∃ xs,SqT K H a xs∧xs.length≤i⟩
def Itr (lo:Int) (n:Nat):It:=⟨fun i _=>i < n,fun i H x H'=>H'=H∧x=.int (lo+i),fun i _=>n≤i⟩
theorem turn_list {P:Program}{w:World}{K:PySem.W.Frag}{tg:Expr}(a it:Addr):Turn P w K tg (Itl K a) [it] it (fun i h=>h.IsListIter it a i) where
 mem:=by simp
 obj:=fun i h st b hb=>by
  have e:b=it:=by simpa using hb
  subst e
  obtain ⟨o,e,c,d⟩:=st
  exact ⟨o,e,fun v z=>by rw [d] at z;cases z⟩
 keep:=fun i h h' st k=>st.at fun o e=>k it (by simp) o e
 item:=by
  intro X hP hw hK hc i pins s σ H E I hf st hg
  subst hP hw hK
  obtain ⟨xs,x,hq,hx⟩:=hg
  obtain ⟨its,rv,p,hz⟩:=I.list hq
  obtain ⟨u,hu,ru⟩:=rv.get hx
  obtain ⟨f0,f1,f2,f3,f4,f5⟩:=hf it (by simp)
  refine wpAny_pyNext_list_item st p.isList (x:=u) (by simpa using hu) fun h' st' sb=>?_
  have I1:Inv X pins σ H { s with heap:=h' }:=I.turned (t':=s.toks) (fun b o hb e=>(sb.2 b hb).trans e) f0 f1 f3 f4 f5
  obtain ⟨o,e,c,d⟩:=id st'
  exact ⟨u,rfl,go_of (s:={ s with heap:=h' }) e c d (by decide) ⟨x,H,I1,ru,⟨rfl,fun ys hy=>by rw [I.list_inj hy hq];exact hx⟩,st',fun b hb=>(hf b hb).1⟩⟩
 done:=by
  intro X hP hw hK hc i pins s σ H E I hf st hg
  subst hP hw hK
  obtain ⟨xs,hq,hx⟩:=hg
  obtain ⟨its,rv,p,hz⟩:=I.list hq
  obtain ⟨f0,f1,f2,f3,f4,f5⟩:=hf it (by simp)
  have hl:=rv.length
  exact wpAny_pyNext_list_end (I.ok.hd hc) st p.isList (by simp;omega) fun h' eb=>⟨rfl,I.turned (t':=s.toks) (fun b o hb e=>eb b o hb e) f0 f1 f3 f4 f5⟩
 self:=fun _ _ _ _ _ st h=>wpAny_pyIter_listiter st h
theorem turn_tuple {P:Program}{w:World}{K:PySem.W.Frag}{tg:Expr}(a it:Addr):Turn P w K tg (Itt K a) [it] it (fun i h=>h.IsTupleIter it a i) where
 mem:=by simp
 obj:=fun i h st b hb=>by
  have e:b=it:=by simpa using hb
  subst e
  obtain ⟨o,e,c,d⟩:=st
  exact ⟨o,e,fun v z=>by rw [d] at z;cases z⟩
 keep:=fun i h h' st k=>st.at fun o e=>k it (by simp) o e
 item:=by
  intro X hP hw hK hc i pins s σ H E I hf st hg
  subst hP hw hK
  obtain ⟨xs,x,hq,hx⟩:=hg
  obtain ⟨its,rv,p,hz⟩:=I.tuple hq
  obtain ⟨u,hu,ru⟩:=rv.get hx
  obtain ⟨f0,f1,f2,f3,f4,f5⟩:=hf it (by simp)
  refine wpAny_pyNext_tuple_item st (show s.heap.IsTuple a its.toArray from p) (x:=u) (by simpa using hu) fun h' st' sb=>?_
  have I1:Inv X pins σ H { s with heap:=h' }:=I.turned (t':=s.toks) (fun b o hb e=>(sb.2 b hb).trans e) f0 f1 f3 f4 f5
  obtain ⟨o,e,c,d⟩:=id st'
  exact ⟨u,rfl,go_of (s:={ s with heap:=h' }) e c d (by decide) ⟨x,H,I1,ru,⟨rfl,fun ys hy=>by rw [I.tuple_inj hy hq];exact hx⟩,st',fun b hb=>(hf b hb).1⟩⟩
 done:=by
  intro X hP hw hK hc i pins s σ H E I hf st hg
  subst hP hw hK
  obtain ⟨xs,hq,hx⟩:=hg
  obtain ⟨its,rv,p,hz⟩:=I.tuple hq
  obtain ⟨f0,f1,f2,f3,f4,f5⟩:=hf it (by simp)
  have hl:=rv.length
  exact wpAny_pyNext_tuple_end (I.ok.hd hc) st (show s.heap.IsTuple a its.toArray from p) (by simp;omega) fun h' eb=>⟨rfl,I.turned (t':=s.toks) (fun b o hb e=>eb b o hb e) f0 f1 f3 f4 f5⟩
 self:=fun _ _ _ _ _ st h=>wpAny_pyIter_tupleiter st h
theorem turn_range {P:Program}{w:World}{K:PySem.W.Frag}{tg:Expr}(it:Addr) (lo:Int) (n:Nat):Turn P w K tg (Itr lo n) [it] it (fun i h=>IsRangeIter h it (lo+(i:Nat) * 1) ((n:Int) - (i:Nat)) 1) where
 mem:=by simp
 obj:=fun i h st b hb=>by
  have e:b=it:=by simpa using hb
  subst e
  exact ⟨_,st,fun v z=>by
   have z':Data.fields _=Data.cell v:=z
   cases z'⟩
 keep:=fun i h h' st k=>k it (by simp) _ st
 item:=by
  intro X hP hw hK hc i pins s σ H E I hf st hg
  subst hP hw hK
  obtain ⟨f0,f1,f2,f3,f4,f5⟩:=hf it (by simp)
  have W:=Walks.range (prog:=X.prog) (w:=X.w) (I.ok.hd hc) it lo 1 n
  refine W.item i s _ _ hg st fun v h' tk hv st' kk=>?_
  obtain ⟨t,rfl⟩:=hv
  have I1:Inv X pins σ H { s with heap:=h',toks:=tk }:=I.turned (fun b o hb e=>kk b o (by simpa using hb) e) f0 f1 f3 f4 f5
  refine ⟨_,rfl,go_of (s:={ s with heap:=h',toks:=tk }) (n := "range_iterator") st' rfl rfl (by decide) ⟨.int (lo+i),H,I1,⟨t,?_⟩,⟨rfl,rfl⟩,st',fun b hb=>(hf b hb).1⟩⟩
  rw [Int.mul_one]
 done:=by
  intro X hP hw hK hc i pins s σ H E I hf st hg
  subst hP hw hK
  obtain ⟨f0,f1,f2,f3,f4,f5⟩:=hf it (by simp)
  exact wpAny_pyNext_range_end (I.ok.hd hc) st (by have:n≤i:=hg;omega) fun h' eb=>⟨rfl,I.turned (t':=s.toks) (fun b o hb e=>eb b o hb e) f0 f1 f3 f4 f5⟩
 self:=fun _ _ _ _ _ st h=>wpAny_pyIter_rangeiter st h
end L2
namespace L2
open PySem PySem.Spec PyProof.Rows
section
variable {X:Cx}{tg:Expr}
theorem range_it {pins:List (Addr × Obj)}{σ:St}{H:Hp}{s:Shared}{R:It->Hp->Prop}{E:Value->Shared->Prop}{lo hi:Int}{t u v:Tok}{tk:Nat}(I:Inv X pins σ H s) (h1:-(2 ^ 62)≤lo) (h2:lo < 2 ^ 62) (h3:-(2 ^ 62)≤hi) (h4:hi < 2 ^ 62)
  (q:R (Itr lo (hi - lo).toNat) H):wpAny (model X.prog X.w) X.A (pyIter (.ref s.heap.objs.size)) (PIE X pins σ tg R) E { s with heap:=s.heap.push { cls:=.type "range",data:=.fields #[.int lo t,.int hi u,.int 1 v] },toks:=tk }:=by
 refine wpAny_pyIter_range (IsRange.new ..) (small_one h1 h2 h3 h4) ?_
 have I1:Inv X pins σ H { s with heap:=s.heap.push { cls:=.type "range",data:=.fields #[.int lo t,.int hi u,.int 1 v] },toks:=tk }:=I.kept fun b o e=>Heap.get?_push_of_some _ e
 refine ⟨(s.heap.push { cls:=.type "range",data:=.fields #[.int lo t,.int hi u,.int 1 v] }).objs.size,[(s.heap.push { cls:=.type "range",data:=.fields #[.int lo t,.int hi u,.int 1 v] }).objs.size],_,_,H,rfl,
  I1.kept (t':=tk) fun b o e=>Heap.get?_push_of_some _ e,turn_range _ lo (hi - lo).toNat,?_,fun b hb=>?_,q⟩
 ·have e1:lo+((0:Nat):Int) * 1=lo:=by simp
  have e2:(((hi - lo).toNat:Nat):Int) - ((0:Nat):Int)=Builtin.Range.rangeSize lo hi 1:=by rw [rangeSize_one];split<;>omega
  show IsRangeIter _ _ (lo+((0:Nat):Int) * 1) ((((hi - lo).toNat:Nat):Int) - ((0:Nat):Int)) 1
  rw [e1,e2]
  exact Heap.get?_push_size _ rfl
 ·have e:b=(s.heap.push { cls:=.type "range",data:=.fields #[.int lo t,.int hi u,.int 1 v] }).objs.size:=by simpa using hb
  subst e
  exact I1.fpOk (Nat.le_refl _) (I1.hok.fresh (Nat.le_refl _))
def iRng1 (ta:TA):TI:=fun σ H R=>ta σ H fun vs H1=>∃ j:Int,vs=[.int j]∧-(2 ^ 62)≤j∧j < 2 ^ 62∧R (Itr 0 j.toNat) H1
theorem pi_range1 {a:Expr}{ta:TA}{p pos:Pos}(hg:Gl X "range") (hm:X.mg "range"=none) (ha:PA X [a] ta) (hs:starEach [a] X.env=[(false,eval a X.env)]:=by rfl):PI X tg (.Call (.Name "range" p) [a] [] pos) (iRng1 ta):=by
 intro pins s σ H R I h
 refine Call_ (ld_blt I hg hm boot_range (PyProof.Rows.callWith_type1 (thn (ha pos pins s σ H _ I h) fun us s1 ⟨vs,H1,I1,r1,q1⟩=>?_) hs rfl))
 obtain ⟨j,e,q1,q2,q⟩:=q1
 subst e
 cases r1 with
 | cons r rr=>
  cases rr
  obtain ⟨t,rfl⟩:=r
  exact call_range_1 (range_it I1 (by omega) (by omega) q1 q2 (by simpa using q))
def tFor (wi:TI) (g:TG) (tb:TS):TS:=fun D σ H=>wi σ H fun J H1=>∃ W:Nat->Nat->St->Hp->Prop,(∃ m,W 0 m σ H1)∧∀ i m σ H,W i m σ H →
 (J.stop i H∧D.nx σ H)∨(J.go i H∧∃ N:St->Hp->Prop,(∀ σ' H',N σ' H'->∃ m',m' < m∧W (i+1) m' σ' H')∧∀ x H',J.yld i H x H'->g x σ H' fun σ2 H2=>tb { D with nx:=N,ct:=N,bk:=D.nx } σ2 H2)
def pinsAt (fp:List Addr) (h:Heap):List (Addr × Obj):=fp.filterMap fun b=>(h.get? b).map fun o=>(b,o)
theorem mem_pinsAt {fp:List Addr}{h:Heap}{b:Addr}{o:Obj}(hb:b∈fp) (e:h.get? b=some o):(b,o)∈pinsAt fp h:=List.mem_filterMap.mpr ⟨b,hb,by rw [e];rfl⟩
theorem of_pinsAt {fp:List Addr}{h:Heap}{p:Addr × Obj}(hp:p∈pinsAt fp h):p.1∈fp∧h.get? p.1=some p.2:=by
 obtain ⟨b,hb,e⟩:=List.mem_filterMap.mp hp
 cases q:h.get? b with
 | none=>rw [q] at e;cases e
 | some o=>
  rw [q] at e
  have e':(b,o)=p:=Option.some.inj e
  subst e'
  exact ⟨hb,q⟩
theorem Inv.pinned {pins:List (Addr × Obj)}{σ:St}{H:Hp}{s:Shared}{fp:List Addr}(I:Inv X pins σ H s) (hf:∀ b∈fp,FpOk X pins H b) (ho:∀ b∈fp,∃ o,s.heap.get? b=some o∧∀ v,o.data ≠ .cell v):Inv X (pins++pinsAt fp s.heap) σ H s:=
 I.pins_of fun p hp=>(List.mem_append.mp hp).elim (fun z=>I.pin p (List.mem_append_right _ z)) fun z=>by
  obtain ⟨hb,e⟩:=of_pinsAt z
  obtain ⟨f0,f1,f2,_⟩:=hf p.1 hb
  obtain ⟨o,e',d⟩:=ho p.1 hb
  rw [e] at e';cases e'
  exact ⟨e,f0,f1,f2,d⟩
theorem Inv.unpinned {pins pl:List (Addr × Obj)}{σ:St}{H:Hp}{s:Shared}(I:Inv X (pins++pl) σ H s):Inv X pins σ H s:=I.pins_of fun p hp=>I.pin p (List.mem_append_right _ (List.mem_append_left _ hp))
theorem ps_for {iter:Expr}{body:List Stmt}{wi:TI}{g:TG}{tb:TS}{pos:Pos}(hp:PassesOwn (model X.prog X.w) X.A X.env X.xe) (hc:X.calm=true) (hi:PI X tg iter wi) (hg:PG X tg g) (hb:PSs X body tb)
  (hs:∀ x,foldedSetIterable iter X.env x=pure x:=by intro _;rfl):PS X (.For tg iter body [] pos) (tFor wi g tb):=by
 intro pins s σ H D I h
 refine wpAny_For (thn (hi pins s σ H _ I h) fun v s1 h1=>thn h1 fun itv s2 h2=>?_) hs
 obtain ⟨it,fp,tn,J,H2,e,I2,T,st2,f2,W,⟨m0,w0⟩,turn⟩:=h2
 subst e
 have stat:∀ {H':Hp},(∀ b∈fp,H' b=none)->∀ b∈fp,FpOk X pins H' b:=fun hn b hb=>⟨hn b hb,(f2 b hb).2⟩
 refine codeAny_forLoop_any (fun n s'=>∃ i σ' H',Inv X pins σ' H' s'∧tn i s'.heap∧(∀ b∈fp,H' b=none)∧W i n σ' H') ?_ m0 ⟨0,σ,H2,I2,st2,fun b hb=>(f2 b hb).1,w0⟩
 rintro n s3 ⟨i,σ3,H3,I3,st3,fr3,w3⟩
 rcases turn i n σ3 H3 w3 with ⟨stop,qn⟩|⟨go,N,hN,step⟩
 ·refine wpAny_passesOwn hp (thn (T.done X rfl rfl rfl hc i pins s3 σ3 H3 X.xe I3 (stat fr3) st3 stop) fun r s4 ⟨hr,I4⟩=>?_)
  subst hr
  exact wpAny_execs_nil ⟨σ3,H3,I4,qn⟩
 ·refine wpAny_passesOwn hp (thn (T.item X rfl rfl rfl hc i pins s3 σ3 H3 X.xe I3 (stat fr3) st3 go) fun r s4 ⟨u,hr,h4⟩=>?_)
  subst hr
  refine wpAny_passesOwn hp (thn h4 fun _ s5 ⟨x,H5,I5,r5,y5,st5,fr5⟩=>?_)
  have I5':=I5.pinned (stat fr5) (T.obj _ _ st5)
  refine wpAny_passesOwn hp (thn (hg _ s5 σ3 H5 x u _ I5' r5 (step x H5 y5)) fun _ s6 ⟨σ6,H6,I6,q6⟩=>?_)
  refine wpAny_passesOwn hp (thn (hb _ s6 σ6 H6 _ I6 q6) fun f s7 q7=>?_)
  have again:∀ {σ7:St} {H7:Hp},Inv X (pins++pinsAt fp s5.heap) σ7 H7 s7->N σ7 H7->∃ m,m < n∧∃ i σ' H',Inv X pins σ' H' s7∧tn i s7.heap∧(∀ b∈fp,H' b=none)∧W i m σ' H':=fun {σ7 H7} I7 n7=>by
   obtain ⟨m',hm,w7⟩:=hN σ7 H7 n7
   refine ⟨m',hm,i+1,σ7,H7,I7.unpinned,T.keep _ _ _ st5 fun b hb o e=>(I7.pin (b,o) (List.mem_append_right _ (List.mem_append_right _ (mem_pinsAt hb e)))).1,fun b hb=>?_,w7⟩
   obtain ⟨o,e,d⟩:=T.obj _ _ st5 b hb
   exact (I7.pin (b,o) (List.mem_append_right _ (List.mem_append_right _ (mem_pinsAt hb e)))).2.1
  cases f with
  | next=>obtain ⟨σ7,H7,I7,n7⟩:=q7;exact again I7 n7
  | cont=>obtain ⟨σ7,H7,I7,n7⟩:=q7;exact again I7 n7
  | brk=>obtain ⟨σ7,H7,I7,q7⟩:=q7;exact ⟨σ7,H7,I7.unpinned,q7⟩
  | ret v=>obtain ⟨x7,σ7,H7,I7,r7,q7⟩:=q7;exact ⟨x7,σ7,H7,I7.unpinned,r7,q7⟩
end
theorem for_list {K:PySem.W.Frag}{a:Addr}{xs:List V}{g:TG}{tb:TS}{D:Ends}{σ:St}{H:Hp}(Pv:Nat->St->Hp->Prop) (h0:Pv 0 σ H) (hl:∀ i σ H,i≤xs.length->Pv i σ H->SqL K H a xs)
  (hs:∀ i x σ H,xs[i]? = some x->Pv i σ H->g x σ H fun σ2 H2=>tb { D with nx:=Pv (i+1),ct:=Pv (i+1),bk:=D.nx } σ2 H2) (hd:∀ σ H,Pv xs.length σ H->D.nx σ H) :
  ∃ W:Nat->Nat->St->Hp->Prop,(∃ m,W 0 m σ H)∧∀ i m σ H,W i m σ H →
   ((Itl K a).stop i H∧D.nx σ H)∨((Itl K a).go i H∧∃ N:St->Hp->Prop,(∀ σ' H',N σ' H'->∃ m',m' < m∧W (i+1) m' σ' H')∧∀ x H',(Itl K a).yld i H x H'->g x σ H' fun σ2 H2=>tb { D with nx:=N,ct:=N,bk:=D.nx } σ2 H2):=by
 refine ⟨fun i m σ H=>m=xs.length - i∧i≤xs.length∧Pv i σ H,⟨xs.length,by simp,Nat.zero_le _,h0⟩,?_⟩
 rintro i m σ H ⟨rfl,hi,p⟩
 have q:=hl i σ H hi p
 by_cases hlt:i < xs.length
 ·refine .inr ⟨⟨xs,xs[i],q,by simp [hlt]⟩,Pv (i+1),fun σ' H' p'=>⟨xs.length - (i+1),by omega,rfl,hlt,p'⟩,fun x H' y=>?_⟩
  obtain ⟨e,y⟩:=y
  subst e
  exact hs i x σ _ (y xs q) p
 ·have e:i=xs.length:=by omega
  subst e
  exact .inl ⟨⟨xs,q,Nat.le_refl _⟩,hd σ H p⟩
end L2
namespace L2
open PySem PySem.Spec PyProof.Rows
abbrev R2:=V->V->Hp->VK->Prop
def OpR (X:Cx) (f:Value->Value->Sem Value) (r:R2):Prop:=
 ∀ (pins:List (Addr × Obj)) (s:Shared) (σ:St) (H:Hp) (x y:V) (v u:Value) (Q:VK),Inv X pins σ H s->RelV x v->RelV y u->r x y H Q →
  wpAny (model X.prog X.w) X.A (f v u) (EP X pins σ Q) X.xe s
def UnR (X:Cx) (f:Value->Sem Value) (r:V->Hp->VK->Prop):Prop:=
 ∀ (pins:List (Addr × Obj)) (s:Shared) (σ:St) (H:Hp) (x:V) (v:Value) (Q:VK),Inv X pins σ H s->RelV x v->r x H Q →
  wpAny (model X.prog X.w) X.A (f v) (EP X pins σ Q) X.xe s
def CallR (X:Cx) (f:Value) (r:List V->Hp->VK->Prop):Prop:=
 ∀ (pins:List (Addr × Obj)) (s:Shared) (σ:St) (H:Hp) (xs:List V) (us:List Value) (Q:VK),Inv X pins σ H s->Vals xs us->r xs H Q →
  wpAny (model X.prog X.w) X.A (call f us) (EP X pins σ Q) X.xe s
def tOp (r:R2) (ta tb:TE):TE:=fun σ H Q=>ta σ H fun x H1=>tb σ H1 fun y H2=>r x y H2 Q
def tUn (r:V->Hp->VK->Prop) (ta:TE):TE:=fun σ H Q=>ta σ H fun x H1=>r x H1 Q
def rI (C:Int->Int->Prop) (g:Int->Int->V):R2:=fun x y H Q=>∃ i j,x=.int i∧y=.int j∧C i j∧Q (g i j) H
def rI0 (g:Int->Int->V):R2:=fun x y H Q=>∃ i j,x=.int i∧y=.int j∧Q (g i j) H
def rU (g:Int->V):V->Hp->VK->Prop:=fun x H Q=>∃ i,x=.int i∧Q (g i) H
section
variable {X:Cx}{a b c:Expr}{ta tb tc:TE}{pos:Pos}
theorem binT (ha:PE X a ta) (hb:PE X b tb){pins:List (Addr × Obj)}{s:Shared}{σ:St}{H:Hp}{R:V->V->Hp->Prop}(I:Inv X pins σ H s)
  (h:ta σ H fun x H1=>tb σ H1 fun y H2=>R x y H2) {Q:Value->Shared->Prop} {f:Value->Value->Sem Value}
  (hf:∀ v u s2 x y H2,Inv X pins σ H2 s2->RelV x v->RelV y u->R x y H2->wpAny (model X.prog X.w) X.A (f v u) Q X.xe s2) :
  wpAny (model X.prog X.w) X.A (eval a X.env) (fun v s₁=>wpAny (model X.prog X.w) X.A (eval b X.env) (fun u s₂=>wpAny (model X.prog X.w) X.A (f v u) Q X.xe s₂) X.xe s₁) X.xe s:=by
 refine thn (ha pins s σ H _ I h) fun v s1 ⟨x,H1,I1,r1,q1⟩=>?_
 refine thn (hb pins s1 σ H1 _ I1 q1) fun u s2 ⟨y,H2,I2,r2,q2⟩=>?_
 exact hf v u s2 x y H2 I2 r1 r2 q2
theorem pe_op {op:Operator}{r:R2}(ho:OpR X (binaryOp op) r) (ha:PE X a ta) (hb:PE X b tb):PE X (.BinOp a op b pos) (tOp r ta tb):=by
 intro pins s σ H Q I h
 exact wpAny_BinOp (binT ha hb I h fun v u s2 x y H2 I2 rx ry q=>ho pins s2 σ H2 x y v u Q I2 rx ry q)
theorem pe_un {op:UnaryOp}{r:V->Hp->VK->Prop}(ho:UnR X (unaryOp op) r) (ha:PE X a ta):PE X (.UnaryOp op a pos) (tUn r ta):=by
 intro pins s σ H Q I h
 exact UnaryOp_ (thn (ha pins s σ H _ I h) fun v s1 ⟨x,H1,I1,r1,q1⟩=>ho pins s1 σ H1 x v Q I1 r1 q1)
theorem opI {f:Value->Value->Sem Value}{C:Int->Int->Prop}{g:Int->Int->Int}
  (rule:∀ (i j:Int) (t u:Tok) (s:Shared) (Q:Value->Shared->Prop) (E:Value->Shared->Prop),C i j->Q (.int (g i j) s.toks) { s with toks:=s.toks+1 }->wpAny (model X.prog X.w) X.A (f (.int i t) (.int j u)) Q E s) :
  OpR X f (rI C fun i j=>.int (g i j)):=by
 intro pins s σ H x y v u Q I rx ry h
 obtain ⟨i,j,rfl,rfl,hc,q⟩:=h
 obtain ⟨t,rfl⟩:=rx
 obtain ⟨t',rfl⟩:=ry
 exact rule i j t t' s _ _ hc ⟨.int (g i j),H,I.tok _,⟨_,rfl⟩,q⟩
theorem opI0 {f:Value->Value->Sem Value}{g:Int->Int->Int}
  (rule:∀ (i j:Int) (t u:Tok) (s:Shared) (Q:Value->Shared->Prop) (E:Value->Shared->Prop),Q (.int (g i j) s.toks) { s with toks:=s.toks+1 }->wpAny (model X.prog X.w) X.A (f (.int i t) (.int j u)) Q E s) :
  OpR X f (rI0 fun i j=>.int (g i j)):=by
 intro pins s σ H x y v u Q I rx ry h
 obtain ⟨i,j,rfl,rfl,q⟩:=h
 obtain ⟨t,rfl⟩:=rx
 obtain ⟨t',rfl⟩:=ry
 exact rule i j t t' s _ _ ⟨.int (g i j),H,I.tok _,⟨_,rfl⟩,q⟩
theorem opB0 {f:Value->Value->Sem Value}{g:Int->Int->Bool}
  (rule:∀ (i j:Int) (t u:Tok) (s:Shared) (Q:Value->Shared->Prop) (E:Value->Shared->Prop),Q (.bool (g i j)) s->wpAny (model X.prog X.w) X.A (f (.int i t) (.int j u)) Q E s) :
  OpR X f (rI0 fun i j=>.bl (g i j)):=by
 intro pins s σ H x y v u Q I rx ry h
 obtain ⟨i,j,rfl,rfl,q⟩:=h
 obtain ⟨t,rfl⟩:=rx
 obtain ⟨t',rfl⟩:=ry
 exact rule i j t t' s _ _ ⟨.bl (g i j),H,I,rfl,q⟩
def CPow (i j:Int):Prop:=0≤j∧j≤1000000∧i.natAbs < 2 ^ 64
def CMul (i j:Int):Prop:=(-(2 ^ 64) < i∧i < 2 ^ 64)∨(-(2 ^ 64) < j∧j < 2 ^ 64)
theorem CMul.ok {i j:Int}(h:CMul i j):IntMulOk i j:=by
 rcases h with ⟨h1,h2⟩|⟨h1,h2⟩
 ·exact .of_left (intBits_le_64 h1 h2)
 ·exact .of_right (intBits_le_64 h1 h2)
theorem op_add:OpR X (binaryOp .Add) (rI0 fun i j=>.int (i+j)):=opI0 fun _ _ _ _ _ _ _ q=>add_int q
theorem op_sub:OpR X (binaryOp .Sub) (rI0 fun i j=>.int (i - j)):=opI0 fun _ _ _ _ _ _ _ q=>sub_int q
theorem op_mul:OpR X (binaryOp .Mult) (rI CMul fun i j=>.int (i * j)):=opI fun _ _ _ _ _ _ _ hc q=>mul_int q hc.ok
theorem op_mod:OpR X (binaryOp .Mod) (rI (fun _ j=>0 < j) fun i j=>.int (i % j)):=opI fun i j _ _ _ _ _ hc q=>by
 have h1:(0:Int) < j:=hc
 exact mod_int' (by omega) (by rw [Int.fmod_eq_emod_of_nonneg i (by omega)];exact q)
theorem op_pow:OpR X (binaryOp .Pow) (rI CPow fun i j=>.int (i ^ j.toNat)):=opI fun _ _ _ _ _ _ _ hc q=>pow_int_small hc.1 hc.2.1 hc.2.2 q
theorem unI {f:Value->Sem Value}{g:Int->Int}
  (rule:∀ (i:Int) (t:Tok) (s:Shared) (Q:Value->Shared->Prop) (E:Value->Shared->Prop),Q (.int (g i) s.toks) { s with toks:=s.toks+1 }->wpAny (model X.prog X.w) X.A (f (.int i t)) Q E s) :
  UnR X f (rU fun i=>.int (g i)):=by
 intro pins s σ H x v Q I rx h
 obtain ⟨i,rfl,q⟩:=h
 obtain ⟨t,rfl⟩:=rx
 exact rule i t s _ _ ⟨.int (g i),H,I.tok _,⟨_,rfl⟩,q⟩
theorem un_neg:UnR X (unaryOp .USub) (rU fun i=>.int (-i)):=unI fun _ _ _ _ _ q=>neg_int q
end
def scal:V->V->Bool
 | .non,.non=>true | .non,.int _=>true | .int _,.non=>true | .non,.bl _=>true | .bl _,.non=>true | .non,.str _=>true | .str _,.non=>true
 | .int _,.int _=>true | .bl _,.bl _=>true | .str _,.str _=>true | .byt _,.byt _=>true
 | .int _,.str _=>true | .str _,.int _=>true | .bl _,.str _=>true | .str _,.bl _=>true
 | _,_=>false
def rEq:R2:=fun x y H Q=>scal x y=true∧Q (.bl (decide (x=y))) H
def rNe:R2:=fun x y H Q=>scal x y=true∧Q (.bl (!decide (x=y))) H
theorem dec_int {i j:Int}:decide (V.int i=V.int j)=(i == j):=by
 rw [Bool.eq_iff_iff]
 simp
theorem dec_bl {i j:Bool}:decide (V.bl i=V.bl j)=(i == j):=by
 rw [Bool.eq_iff_iff]
 simp
theorem dec_str {i j:Str}:decide (V.str i=V.str j)=(i == j):=by
 rw [Bool.eq_iff_iff]
 simp
theorem dec_byt {i j:Array UInt8}:decide (V.byt i=V.byt j)=(i.toList == j.toList):=by
 rw [Bool.eq_iff_iff]
 cases i
 cases j
 simp
section
variable {X:Cx}{a b c:Expr}{ta tb tc:TE}{pos:Pos}
theorem fin_bl {pins:List (Addr × Obj)}{σ:St}{H:Hp}{s:Shared}{Q:VK}{k k':Bool}(I:Inv X pins σ H s) (q:Q (.bl k) H) (e:k=k'):EP X pins σ Q (.bool k') s:=by
 subst e
 exact ⟨.bl k,H,I,rfl,q⟩
theorem op_eq:OpR X (compareOp .Eq) rEq:=by
 intro pins s σ H x y v u Q I rx ry h
 obtain ⟨hs,q⟩:=h
 cases x with
 | non=>
  cases rx
  cases y with
  | non=>cases ry;exact PySem.EqNone.eq_none_none (fin_bl I q (by simp))
  | bl j=>cases ry;exact PySem.EqNone.eq_none_bool (fin_bl I q (by simp))
  | int j=>obtain ⟨t',rfl⟩:=ry;exact PySem.EqNone.eq_none_int (fin_bl I q (by simp))
  | str j=>obtain ⟨t',rfl⟩:=ry;exact PySem.EqNone.eq_none_str (fin_bl I q (by simp))
  | _=>exact absurd (show false=true from hs) Bool.false_ne_true
 | bl i=>
  cases rx
  cases y with
  | non=>cases ry;exact PySem.EqNone.eq_bool_none (fin_bl I q (by simp))
  | bl j=>cases ry;exact eq_bool (fin_bl I q dec_bl)
  | str j=>obtain ⟨t',rfl⟩:=ry;exact PySem.EqMixed.eq_bool_str (fin_bl I q (by simp))
  | _=>exact absurd (show false=true from hs) Bool.false_ne_true
 | int i=>
  obtain ⟨t,rfl⟩:=rx
  cases y with
  | non=>cases ry;exact PySem.EqNone.eq_int_none (fin_bl I q (by simp))
  | int j=>obtain ⟨t',rfl⟩:=ry;exact eq_int (fin_bl I q dec_int)
  | str j=>obtain ⟨t',rfl⟩:=ry;exact PySem.EqMixed.eq_int_str (fin_bl I q (by simp))
  | _=>exact absurd (show false=true from hs) Bool.false_ne_true
 | str i=>
  obtain ⟨t,rfl⟩:=rx
  cases y with
  | non=>cases ry;exact PySem.EqNone.eq_str_none (fin_bl I q (by simp))
  | bl j=>cases ry;exact PySem.EqMixed.eq_str_bool (fin_bl I q (by simp))
  | int j=>obtain ⟨t',rfl⟩:=ry;exact PySem.EqMixed.eq_str_int (fin_bl I q (by simp))
  | str j=>obtain ⟨t',rfl⟩:=ry;exact eq_str (fin_bl I q dec_str)
  | _=>exact absurd (show false=true from hs) Bool.false_ne_true
 | byt i=>
  obtain ⟨t,rfl⟩:=rx
  cases y with
  | byt j=>obtain ⟨t',rfl⟩:=ry;exact PySem.W.eq_bytes (fin_bl I q dec_byt)
  | _=>exact absurd (show false=true from hs) Bool.false_ne_true
 | _=>cases y<;>exact absurd (show false=true from hs) Bool.false_ne_true
theorem op_ne:OpR X (compareOp .NotEq) rNe:=by
 intro pins s σ H x y v u Q I rx ry h
 obtain ⟨hs,q⟩:=h
 cases x with
 | non=>
  cases rx
  cases y with
  | non=>cases ry;exact PySem.EqNone.ne_none_none (fin_bl I q (by simp))
  | bl j=>cases ry;exact PySem.EqNone.ne_none_bool (fin_bl I q (by simp))
  | int j=>obtain ⟨t',rfl⟩:=ry;exact PySem.EqNone.ne_none_int (fin_bl I q (by simp))
  | str j=>obtain ⟨t',rfl⟩:=ry;exact PySem.EqNone.ne_none_str (fin_bl I q (by simp))
  | _=>exact absurd (show false=true from hs) Bool.false_ne_true
 | bl i=>
  cases rx
  cases y with
  | non=>cases ry;exact PySem.EqNone.ne_bool_none (fin_bl I q (by simp))
  | bl j=>cases ry;exact ne_bool (fin_bl I q (congrArg not dec_bl))
  | str j=>obtain ⟨t',rfl⟩:=ry;exact PySem.EqMixed.ne_bool_str (fin_bl I q (by simp))
  | _=>exact absurd (show false=true from hs) Bool.false_ne_true
 | int i=>
  obtain ⟨t,rfl⟩:=rx
  cases y with
  | non=>cases ry;exact PySem.EqNone.ne_int_none (fin_bl I q (by simp))
  | int j=>obtain ⟨t',rfl⟩:=ry;exact ne_int (fin_bl I q (congrArg not dec_int))
  | str j=>obtain ⟨t',rfl⟩:=ry;exact PySem.EqMixed.ne_int_str (fin_bl I q (by simp))
  | _=>exact absurd (show false=true from hs) Bool.false_ne_true
 | str i=>
  obtain ⟨t,rfl⟩:=rx
  cases y with
  | non=>cases ry;exact PySem.EqNone.ne_str_none (fin_bl I q (by simp))
  | bl j=>cases ry;exact PySem.EqMixed.ne_str_bool (fin_bl I q (by simp))
  | int j=>obtain ⟨t',rfl⟩:=ry;exact PySem.EqMixed.ne_str_int (fin_bl I q (by simp))
  | str j=>obtain ⟨t',rfl⟩:=ry;exact ne_str (fin_bl I q (congrArg not dec_str))
  | _=>exact absurd (show false=true from hs) Bool.false_ne_true
 | byt i=>
  obtain ⟨t,rfl⟩:=rx
  cases y with
  | byt j=>obtain ⟨t',rfl⟩:=ry;exact PySem.W.ne_bytes (fin_bl I q (congrArg not dec_byt))
  | _=>exact absurd (show false=true from hs) Bool.false_ne_true
 | _=>cases y<;>exact absurd (show false=true from hs) Bool.false_ne_true
theorem op_lt:OpR X (compareOp .Lt) (rI0 fun i j=>.bl (decide (i < j))):=opB0 fun _ _ _ _ _ _ _ q=>lt_int q
theorem op_le:OpR X (compareOp .LtE) (rI0 fun i j=>.bl (decide (i≤j))):=opB0 fun _ _ _ _ _ _ _ q=>le_int q
theorem op_gt:OpR X (compareOp .Gt) (rI0 fun i j=>.bl (decide (j < i))):=opB0 fun _ _ _ _ _ _ _ q=>gt_int q
theorem op_ge:OpR X (compareOp .GtE) (rI0 fun i j=>.bl (decide (j≤i))):=opB0 fun _ _ _ _ _ _ _ q=>ge_int q
def isObj:HO->Bool
 | .lst _=>true
 | .ins _ _ _=>true
 | _=>false
theorem OpR.or {f:Value->Value->Sem Value}{r r':R2}(h:OpR X f r) (h':OpR X f r'):OpR X f (fun x y H Q=>r x y H Q∨r' x y H Q):=by
 intro pins s σ H x y v u Q I rx ry q
 rcases q with q|q
 ·exact h pins s σ H x y v u Q I rx ry q
 ·exact h' pins s σ H x y v u Q I rx ry q
theorem nomark (b:Expr){op:CmpOp}(h:op ≠ .In:=by decide) (h2:op ≠ .NotIn:=by decide):behindInMarks op b=false:=by
 have e1:(op == CmpOp.In)=false:=by cases op<;>first|rfl|exact absurd rfl h
 have e2:(op == CmpOp.NotIn)=false:=by cases op<;>first|rfl|exact absurd rfl h2
 cases b<;>simp [behindInMarks,e1,e2]
theorem pe_cmpR {op:CmpOp}{r:R2}(ho:OpR X (compareOp op) r) (ha:PE X a ta) (hb:PE X b tb) (hm:behindInMarks op b=false):PE X (.Compare a [op] [b] pos) (tOp r ta tb):=by
 intro pins s σ H Q I h
 exact wpAny_Compare1 (binT ha hb I h fun v u s2 x y H2 I2 rx ry q=>ho pins s2 σ H2 x y v u Q I2 rx ry q) hm
def tTest (t:TE):TT:=fun σ H Q=>t σ H fun x H'=>∃ k,x=.bl k∧Q k H'
theorem pt_cmpR {op:CmpOp}{r:R2}(ho:OpR X (compareOp op) r) (ha:PE X a ta) (hb:PE X b tb) (hm:behindInMarks op b=false):PT X (.Compare a [op] [b] pos) (tTest (tOp r ta tb)):=by
 intro pins s σ H Q I h
 refine wpAny_isTrue_Compare1 (thn (ha pins s σ H _ I h) fun v s1 ⟨x,H1,I1,r1,q1⟩=>thn (hb pins s1 σ H1 _ I1 q1) fun u s2 ⟨y,H2,I2,r2,q2⟩=>
  thn (ho pins s2 σ H2 x y v u _ I2 r1 r2 q2) fun c s3 ⟨z,H3,I3,r3,k,e,q3⟩=>?_) hm
 subst e
 cases r3
 exact wpAny_truthy_bool ⟨H3,I3,q3⟩
def tChain (r r':R2) (ta tb tc:TE):TE:=fun σ H Q=>ta σ H fun x H1=>tb σ H1 fun y H2=>r x y H2 fun z H3=>∃ k,z=.bl k ∧
 (if k=true then tc σ H3 fun w' H4=>r' y w' H4 Q else Q (.bl false) H3)
theorem pe_chain {op op':CmpOp}{r r':R2}(ho:OpR X (compareOp op) r) (ho':OpR X (compareOp op') r') (ha:PE X a ta) (hb:PE X b tb) (hc:PE X c tc)
  (hm:lastMarks [op,op'] [b,c]=false:=by with_unfolding_all rfl):PE X (.Compare a [op,op'] [b,c] pos) (tChain r r' ta tb tc):=by
 intro pins s σ H Q I h
 refine Compare_chain (thn (ha pins s σ H _ I h) fun v s1 ⟨x,H1,I1,r1,q1⟩=>chain_link (thn (hb pins s1 σ H1 _ I1 q1) fun u s2 ⟨y,H2,I2,r2,q2⟩=>
  thn (ho pins s2 σ H2 x y v u _ I2 r1 r2 q2) fun d s3 ⟨z,H3,I3,r3,k,e,q3⟩=>?_)) hm
 subst e
 cases r3
 refine wpAny_truthy_bool ?_
 cases k with
 | false=>exact ite_ff ⟨.bl false,H3,I3,rfl,q3⟩
 | true=>exact ite_tt (chain_last (thn (hc pins s3 σ H3 _ I3 q3) fun w' s4 ⟨z',H4,I4,r4,q4⟩=>ho' pins s4 σ H4 y z' u w' Q I4 r2 r4 q4))
theorem line63:(sizeLine:Nat) < 2 ^ 63:=by rw [sizeLine_eq];decide
theorem vals1 {x:V}{us:List Value}(r:Vals [x] us):∃ u,us=[u]∧RelV x u:=by
 cases r with
 | cons r1 r2=>cases r2;exact ⟨_,rfl,r1⟩
theorem vals2 {x y:V}{us:List Value}(r:Vals [x,y] us):∃ u w',us=[u,w']∧RelV x u∧RelV y w':=by
 cases r with
 | cons r1 r2=>
  cases r2 with
  | cons r3 r4=>cases r4;exact ⟨_,_,rfl,r1,r3⟩
theorem call_max2 (hc:X.calm=true):CallR X (.builtin "max") (fun xs H Q=>∃ i j,xs=[.int i,.int j]∧Q (.int (if j > i then j else i)) H):=by
 intro pins s σ H xs us Q I r h
 obtain ⟨i,j,rfl,q⟩:=h
 obtain ⟨u,w',rfl,⟨t,rfl⟩,⟨t',rfl⟩⟩:=vals2 r
 refine max_two_ints (I.ok.hd hc) fun h' tk k=>⟨_,H,I.kept k,?_,q⟩
 by_cases hj:j > i
 ·rw [if_pos hj,if_pos hj];exact ⟨_,rfl⟩
 ·rw [if_neg hj,if_neg hj];exact ⟨_,rfl⟩
theorem call_min2 (hc:X.calm=true):CallR X (.builtin "min") (fun xs H Q=>∃ i j,xs=[.int i,.int j]∧Q (.int (if j < i then j else i)) H):=by
 intro pins s σ H xs us Q I r h
 obtain ⟨i,j,rfl,q⟩:=h
 obtain ⟨u,w',rfl,⟨t,rfl⟩,⟨t',rfl⟩⟩:=vals2 r
 refine min_two_ints (I.ok.hd hc) fun h' tk k=>⟨_,H,I.kept k,?_,q⟩
 by_cases hj:j < i
 ·rw [if_pos hj,if_pos hj];exact ⟨_,rfl⟩
 ·rw [if_neg hj,if_neg hj];exact ⟨_,rfl⟩
end
end L2
namespace L2
open PySem PySem.Spec PyProof.Rows
structure ObjM (h:Heap) (x dx C:Addr) (mA:Str->Option Value):Prop where
 obj:h.get? x=some (PySem.W.instObj C dx)
 ns:h.Ns1 dx mA
 ne:dx ≠ x
theorem lookIn_ns {h:Heap}{dx:Addr}{mA:Str->Option Value}(n:h.Ns1 dx mA):∃ od,h.get? dx=some od∧∀ name,PySem.W.lookIn name od=some (mA name):=by
 obtain ⟨o,es,ep,ho,hd,hk,_,hm⟩:=n
 refine ⟨o,ho,fun name=>?_⟩
 have e:=hm name
 unfold nsFind findBy at e
 rw [←Array.find?_toList] at e
 unfold PySem.W.lookIn
 rw [hd]
 dsimp only
 split
 ·rename_i y q
  rw [q] at e
  exact congrArg some e
 ·rename_i q
  rw [q] at e
  have a:es.toList.any (·.refKey)=false:=by
   rw [List.any_eq_false]
   intro y hy
   obtain ⟨z,t,hkey⟩:=hk y (Array.mem_toList_iff.mp hy)
   simp [DictEntry.refKey,hkey]
  have a':¬ es.toList.any (·.refKey)=true:=by rw [a];exact Bool.false_ne_true
  rw [if_neg a']
  exact congrArg some e
theorem ObjM.look {h:Heap}{x dx C:Addr}{mA:Str->Option Value}(I:ObjM h x dx C mA):∃ od,PySem.W.InstAt h x (PySem.W.instObj C dx) C (some od)∧∀ name,PySem.W.lookIn name od=some (mA name):=
 let ⟨od,ho,hl⟩:=lookIn_ns I.ns
 ⟨od,⟨I.obj,rfl,rfl,ho⟩,hl⟩
section
variable {prog:Program}{w:World}{A:Around}{E:Value->Shared->Prop}{s:Shared}{K:PySem.W.Frag}{x dx C f:Addr}{mA:Str->Option Value}{name:Str}{v:Value}
theorem get_map {expr:Bool}{Q:Value->Shared->Prop}(X:K.In s.heap) (I:ObjM s.heap x dx C mA) (hg:PySem.W.plainGet K C name=true) (hh:PySem.W.hasDictIn K C=true)
  (ha:PySem.W.findIn K (.ref C) name=some none) (hv:mA name=some v) (hv':PySem.W.handedIn v=true) (h:Q v { s with toks:=s.toks+1 }) :
  wpAny (model prog w) A (getAttr (.ref x) name expr) Q E s:=by
 obtain ⟨od,J,hl⟩:=I.look
 exact PySem.W.get_value X J (PySem.W.plainGet_of hg).1 (PySem.W.findObj_own hh ha rfl (by rw [hl,hv])) hv' h
theorem get_meth {pl:Sem Bool}{Q:Value × List Value->Shared->Prop}(X:K.In s.heap) (I:ObjM s.heap x dx C mA) (hg:PySem.W.plainGet K C name=true)
  (hf:PySem.W.findIn K (.ref C) name=some (some (.ref f))) (ht:PySem.W.isFn K (.ref f)=true) (hv:mA name=none) (h:Q (.ref f,[.ref x]) s) :
  wpAny (model prog w) A (getMethod (.ref x) name pl) Q E s:=by
 obtain ⟨od,J,hl⟩:=I.look
 exact PySem.W.method_fn X J (PySem.W.plainGet_of hg).1 (PySem.W.plainGet_of hg).2 hf (beq_iff_eq.mp ht) (by show (PySem.W.lookIn name od).map (·.isSome)=some false;rw [hl,hv];rfl) h
theorem set_map {ns:List Str}{Q:Unit->Shared->Prop}(X:K.In s.heap) (I:ObjM s.heap x dx C mA)
  (hs:PySem.W.findIn K (.ref C) "__setattr__"=some (some (.builtin "object.__setattr__"))) (hp:PySem.W.plainOver K C=true) (ht:PySem.W.takerIn K C name=some none) (hh:PySem.W.hasDictIn K C=true)
  (hw:PySem.Within mA ns) (hsz:ns.length≤sizeLine)
  (h:∀ h',ObjM h' x dx C (fun y=>if y=name then some v else mA y)->Heap.SameBut dx s.heap h'->Q () { s with heap:=h',toks:=s.toks+2 }) :
  wpAny (model prog w) A (setAttr (.ref x) name v) Q E s:=by
 obtain ⟨od,J,hl⟩:=I.look
 refine PySem.W.set_plain X J hs (PySem.W.osa_open (s:={ s with toks:=s.toks+1 }) (r:=none) X J hp ht fun b=>?_)
 obtain ⟨cd,hc,hd'⟩:=PySem.W.any_some hh
 have hx:s.heap.get? x=some ⟨.ref C,some dx,.plain,#[]⟩:=I.obj
 refine wpAny_bind (wpAny_pure (wpAny_bind (wpAny_bind (wpAny_loadPart hx (wpAny_bind (PySem.W.Looks.here (s:={ s with toks:=s.toks+1 }) (PySem.W.looks_clsIn X hc) ?_))))))
 rw [hd']
 refine wpAny_pure (a:=some dx) (wpAny_bind (wpAny_pure (wpAny_bind ?_)))
 refine wpAny_nsSet1 (s:={ s with toks:=s.toks+1 }) I.ns fun h' hn2 hs2=>?_
 obtain ⟨oD,esD,epD,hoD,hdD,hcD⟩:=hn2.count (PySem.Within.cons name v hw)
 refine wpAny_bind (wpAny_lookBehind hoD (by rw [hdD];exact pastItsLine_dict (Nat.le_trans hcD (by rw [List.length_cons];omega))) ?_)
 exact wpAny_pure (h _ ⟨(hs2.2 _ (Ne.symm I.ne)).trans I.obj,hn2,I.ne⟩ hs2)
theorem make_map {R:Result->Shared->Prop}{vs:List Value}{kw:List (Str × Value)}(X:K.In s.heap) (hm:PySem.W.makesIn K C=true)
  (hi:PySem.W.findIn K (.ref C) "__init__"=some (some (.ref f))) (hf:PySem.W.typeIn K (.ref f)=some (.type "function"))
  (h:codeAny (model prog w) (A.under (.builtin "type.__call__" ⟨.ref C::vs,kw⟩)) (.call (.ref f) ⟨.ref (s.heap.objs.size+1)::vs,kw⟩) (PySem.W.InitBack (s.heap.objs.size+1) R)
   { s with heap:=(s.heap.push PySem.W.emptyDict).push (PySem.W.instObj C s.heap.objs.size) }) :
  codeAny (model prog w) A (.call (.ref C) ⟨vs,kw⟩) R s:=by
 obtain ⟨hh,g,d,t,os⟩:=s
 exact PySem.W.make_core (PySem.W.makes_of X hm) (PySem.W.looks_findIn X hi) (fun self=>PySem.W.bind_fn X self hf) (.inl rfl) h
end
def putF (f:Str) (v:V):List (Str × V)->List (Str × V)
 | []=>[(f,v)]
 | (g,x)::r=>if g=f then (g,v)::r else (g,x)::putF f v r
theorem lookup_putF (f g:Str) (v:V):∀ fs:List (Str × V),(putF f v fs).lookup g=if g=f then some v else fs.lookup g
 | []=>by
  show List.lookup g [(f,v)]=_
  by_cases h:g=f
  ·have hb:(g == f)=true:=beq_iff_eq.mpr h
   simp only [List.lookup,hb,if_pos h]
  ·have hb:(g == f)=false:=beq_eq_false_iff_ne.mpr h
   simp only [List.lookup,hb,if_neg h]
 | (k,x)::r=>by
  have ih:=lookup_putF f g v r
  rw [show putF f v ((k,x)::r)=(if k=f then (k,v)::r else (k,x)::putF f v r) from rfl]
  by_cases hk:k=f
  ·rw [if_pos hk]
   by_cases h:g=k
   ·have hb:(g == k)=true:=beq_iff_eq.mpr h
    simp only [List.lookup,hb,if_pos (h.trans hk)]
   ·have hb:(g == k)=false:=beq_eq_false_iff_ne.mpr h
    simp only [List.lookup,hb,if_neg (fun e:g=f=>h (e.trans hk.symm))]
  ·rw [if_neg hk]
   by_cases h:g=k
   ·have hb:(g == k)=true:=beq_iff_eq.mpr h
    simp only [List.lookup,hb,if_neg (fun e:g=f=>hk (h.symm.trans e))]
   ·have hb:(g == k)=false:=beq_eq_false_iff_ne.mpr h
    simp only [List.lookup,hb]
    exact ih
theorem keys_putF (f:Str) (v:V):∀ fs:List (Str × V),f∈(putF f v fs).map (·.1)∧∀ g,g∈fs.map (·.1)->g∈(putF f v fs).map (·.1)
 | []=>⟨by simp [putF],fun g h=>by simp at h⟩
 | (k,x)::r=>by
  obtain ⟨i1,i2⟩:=keys_putF f v r
  rw [show putF f v ((k,x)::r)=(if k=f then (k,v)::r else (k,x)::putF f v r) from rfl]
  by_cases hk:k=f
  ·rw [if_pos hk]
   subst hk
   exact ⟨by simp,fun g h=>by simpa using h⟩
  ·rw [if_neg hk]
   refine ⟨?_,fun g h=>?_⟩
   ·rw [List.map_cons]
    exact List.mem_cons_of_mem _ i1
   ·rw [List.map_cons] at h ⊢
    rcases List.mem_cons.mp h with e|e
    ·exact List.mem_cons.mpr (.inl e)
    ·exact List.mem_cons_of_mem _ (i2 g e)
theorem length_putF (f:Str) (v:V):∀ fs:List (Str × V),(putF f v fs).length≤fs.length+1
 | []=>by simp [putF]
 | (k,x)::r=>by
  have ih:=length_putF f v r
  rw [show putF f v ((k,x)::r)=(if k=f then (k,v)::r else (k,x)::putF f v r) from rfl]
  by_cases hk:k=f
  ·rw [if_pos hk,List.length_cons,List.length_cons];omega
  ·rw [if_neg hk,List.length_cons,List.length_cons];omega
theorem RelO.some_of {v:V}{o:Option Value}(r:RelO (some v) o):∃ u,o=some u∧RelV v u:=by
 cases o with
 | none=>exact (show False from r).elim
 | some u=>exact ⟨u,rfl,r⟩
theorem RelO.none_of {o:Option Value}(r:RelO none o):o=none:=by
 cases o with
 | none=>rfl
 | some u=>exact (show False from r).elim
theorem handed_of {v:V}{u:Value}(r:RelV v u):PySem.W.handedIn u=true:=by
 cases v with
 | non=>cases (show u=Value.none from r);rfl
 | bl b=>cases (show u=Value.bool b from r);rfl
 | int i=>obtain ⟨t,e⟩:=(show ∃ t,u=Value.int i t from r);cases e;rfl
 | str x=>obtain ⟨t,e⟩:=(show ∃ t,u=Value.str x t from r);cases e;rfl
 | byt b=>obtain ⟨t,e⟩:=(show ∃ t,u=Value.bytes b t from r);cases e;rfl
 | flt b=>obtain ⟨t,e⟩:=(show ∃ t,u=Value.float b t from r);cases e;rfl
 | ref a=>cases (show u=Value.ref a from r);rfl
 | ty n=>cases (show u=Value.type n from r);rfl
section
variable {P:Program}{w:World}{H H':Hp}{h h':Heap}{a C dx:Addr}{fs fs':List (Str × V)}
theorem ins_get (hok:HOk P w H h) (e:H a=some (.ins C dx fs)):∃ mA,ObjM h a dx C mA∧(∀ f,RelO (fs.lookup f) (mA f))∧PySem.Within mA (fs.map (·.1))∧fs.length≤1000∧H dx=some (.own a):=by
 obtain ⟨d,z,ne,ob,mA,n,r,q⟩:=(show ObjOk P w H h a (.ins C dx fs) from hok a _ e)
 exact ⟨mA,⟨ob,n,ne⟩,r,q,z,d⟩
end
structure Cls (K:PySem.W.Frag) (C:Addr):Prop where
 pg:PySem.W.plainGet K C Str.empty=true
 hd:PySem.W.hasDictIn K C=true
 po:PySem.W.plainOver K C=true
 sa:PySem.W.findIn K (.ref C) "__setattr__"=some (some (.builtin "object.__setattr__"))
theorem Cls.get {K:PySem.W.Frag}{C:Addr}(c:Cls K C) (f:Str):PySem.W.plainGet K C f=true:=c.pg
def NoAttr (K:PySem.W.Frag) (C:Addr) (f:Str):Prop:=PySem.W.findIn K (.ref C) f=some none
theorem NoAttr.taker {K:PySem.W.Frag}{C:Addr}{f:Str}(n:NoAttr K C f):PySem.W.takerIn K C f=some none:=by
 unfold PySem.W.takerIn
 rw [show PySem.W.findIn K (.ref C) f=some none from n]
 rfl
structure Meth (K:PySem.W.Frag) (C:Addr) (m:Str) (f:Addr):Prop where
 at_:PySem.W.findIn K (.ref C) m=some (some (.ref f))
 fn:PySem.W.isFn K (.ref f)=true
 kp:PySem.W.keepIn K (.ref f)=true
section
variable {X:Cx}{pins:List (Addr × Obj)}{σ:St}{H:Hp}{s:Shared}{a C dx:Addr}{fs:List (Str × V)}{f:Str}{v:V}{A:Around}{E:Value->Shared->Prop}
theorem getattr_ok {b:Bool}{Q:Value->Shared->Prop}(I:Inv X pins σ H s) (e:H a=some (.ins C dx fs)) (c:Cls X.K C) (n:NoAttr X.K C f) (l:fs.lookup f=some v)
  (h:∀ u s',Inv X pins σ H s'->RelV v u->Q u s'):wpAny (model X.prog X.w) A (getAttr (.ref a) f b) Q E s:=by
 obtain ⟨mA,O,r,_,_,_⟩:=ins_get I.hok e
 obtain ⟨u,hu,ru⟩:=RelO.some_of (v:=v) (o:=mA f) (by rw [←l];exact r f)
 exact get_map I.kIn O (c.get f) c.hd n hu (handed_of ru) (h u _ (I.tok _) ru)
theorem getmeth_ok {m:Str}{g:Addr}{pl:Sem Bool}{Q:Value × List Value->Shared->Prop}(I:Inv X pins σ H s) (e:H a=some (.ins C dx fs)) (c:Cls X.K C) (k:Meth X.K C m g) (l:fs.lookup m=none)
  (h:Q (.ref g,[.ref a]) s):wpAny (model X.prog X.w) A (getMethod (.ref a) m pl) Q E s:=by
 obtain ⟨mA,O,r,_,_,_⟩:=ins_get I.hok e
 have hn:mA m=none:=RelO.none_of (by rw [←l];exact r m)
 exact get_meth I.kIn O (c.get m) k.at_ k.fn hn h
theorem setattr_ok {y:V}{u:Value}{Q:Unit->Shared->Prop}(I:Inv X pins σ H s) (e:H a=some (.ins C dx fs)) (c:Cls X.K C) (n:NoAttr X.K C f) (hl:fs.length < 1000) (ry:RelV y u)
  (h:∀ s',Inv X pins σ (upd H a (.ins C dx (putF f y fs))) s'->Q () s'):wpAny (model X.prog X.w) A (setAttr (.ref a) f u) Q E s:=by
 obtain ⟨mA,O,r,wi,_,ho⟩:=ins_get I.hok e
 have hz:(fs.map (·.1)).length≤sizeLine:=by rw [List.length_map,sizeLine_eq];omega
 refine set_map I.kIn O c.sa c.po n.taker c.hd wi hz fun h' O' sb=>h _ ?_
 have hd:∃ o,h'.get? dx=some o:=let ⟨o,_,_,e',_⟩:=O'.ns;⟨o,e'⟩
 refine I.write (x:=a) (e:=dx) (by rw [e];exact True.intro) (.inr ho) (fun b q hb z=>(sb.2 b hb).trans z) hd ?_
 refine ⟨by rw [upd_ne O.ne];exact ho,?_,O.ne,O'.obj,_,O'.ns,fun g=>?_,fun g hg=>?_⟩
 ·have:=length_putF f y fs;omega
 ·show RelO ((putF f y fs).lookup g) (if g=f then some u else mA g)
  rw [lookup_putF]
  by_cases q:g=f
  ·rw [if_pos q,if_pos q];exact ry
  ·rw [if_neg q,if_neg q];exact r g
 ·by_cases q:g=f
  ·rw [q];exact (keys_putF f y fs).1
  ·refine (keys_putF f y fs).2 g (wi g fun z=>hg ?_)
   show (if g=f then some u else mA g)=none
   rw [if_neg q];exact z
theorem Inv.made (I:Inv X pins σ H s):Inv X pins σ (upd (upd H s.heap.objs.size (.own (s.heap.objs.size+1))) (s.heap.objs.size+1) (.ins C s.heap.objs.size []))
  { s with heap:=(s.heap.push PySem.W.emptyDict).push (PySem.W.instObj C s.heap.objs.size) }:=by
 have e1:(s.heap.push PySem.W.emptyDict).get? s.heap.objs.size=some PySem.W.emptyDict:=Heap.get?_push_size s.heap rfl
 have e2:((s.heap.push PySem.W.emptyDict).push (PySem.W.instObj C s.heap.objs.size)).get? (s.heap.objs.size+1)=some (PySem.W.instObj C s.heap.objs.size):=by
  have:=Heap.get?_push_size (s.heap.push PySem.W.emptyDict) (o:=PySem.W.instObj C s.heap.objs.size) rfl
  rwa [Heap.size_push] at this
 have e3:(s.heap.push PySem.W.emptyDict).Ns s.heap.objs.size (fun _=>none):=⟨PySem.W.emptyDict,#[],_,e1,rfl,(fun e he=>absurd he (by simp)),fun _=>rfl⟩
 have I1:=I.laid (a:=s.heap.objs.size) (o:=.own (s.heap.objs.size+1)) (h':=s.heap.push PySem.W.emptyDict) (t':=s.toks) (fun b u q=>Heap.get?_push_of_some _ q) (Nat.le_refl _) ⟨_,e1⟩
 refine I1.laid (a:=s.heap.objs.size+1) (o:=.ins C s.heap.objs.size []) (t':=s.toks) (fun b u q=>Heap.get?_push_of_some _ q) (Nat.le_of_eq (Heap.size_push _ _)) ?_
 have ne:s.heap.objs.size ≠ s.heap.objs.size+1:=Nat.ne_of_lt (Nat.lt_succ_self _)
 refine ⟨by rw [upd_ne ne,upd_same],Nat.zero_le _,ne,e2,fun _=>none,(Heap.Ns1.of_empty e3).at fun o q=>Heap.get?_push_of_some _ q,fun _=>True.intro,fun y hy=>absurd rfl hy⟩
theorem attr_of {prog:Program}{w:World}{env:Env}{e:Expr}{f:Str}{pos:Pos}{s:Shared}{Q:Value->Shared->Prop}(hb:attributeBase e f env (eval e env)=eval e env)
  (h:wpAny (model prog w) A (eval e env) (fun o s₁=>wpAny (model prog w) A (getAttr o f true) Q E s₁) E s):wpAny (model prog w) A (eval (.Attribute e f pos) env) Q E s:=
 Attribute_any_ h (by rw [arm_eval_Attribute,hb])
end
section
variable {X:Cx}{o e value:Expr}{f:Str}{pos pos' tpos:Pos}{ta tv:TE}
end
section
variable {X:Cx}{pins:List (Addr × Obj)}{σ:St}{H:Hp}{s:Shared}{A:Around}{E:Value->Shared->Prop}{Q:Value->Shared->Prop}{c:Value}{b:Bool}
inductive TyOf (K:PySem.W.Frag) (H:Hp):V->Value->Prop where
 | non:TyOf K H .non (.type "NoneType")
 | bl (x:Bool):TyOf K H (.bl x) (.type "bool")
 | int (i:Int):TyOf K H (.int i) (.type "int")
 | str (x:Str):TyOf K H (.str x) (.type "str")
 | flt (x:UInt64):TyOf K H (.flt x) (.type "float")
 | lst {a:Addr} {xs:List V} (e:H a=some (.lst xs)):TyOf K H (.ref a) (.type "list")
 | frz {a:Addr} {o:Obj} {xs:List V} (e:H a=some (.frz o (.lst xs))):TyOf K H (.ref a) (.type "list")
 | tup {a:Addr} {xs:List V} (e:H a=some (.tup xs)):TyOf K H (.ref a) (.type "tuple")
 | dK {a:Addr} {kvs:List (Key × V)} (e:H a=some (.dK kvs)):TyOf K H (.ref a) (.type "dict")
 | dT {a:Addr} {kvs:List (List Key × V)} (e:H a=some (.dT kvs)):TyOf K H (.ref a) (.type "dict")
 | ins {a C dx:Addr} {fs:List (Str × V)} (e:H a=some (.ins C dx fs)) (cl:Cls K C) (ha:PySem.W.findIn K (.ref C) "__class__"=some (some (.builtin "object.__class__")))
   (hn:PySem.W.specialIn K (.builtin "object.__class__") "__get__"=some (some (.builtin "getset_descriptor.__get__"))) (htk:PySem.W.takesIn K (.builtin "object.__class__")=some true)
   (hm:PySem.W.mroIn K C (.type "object")=some true):TyOf K H (.ref a) (.ref C)
theorem isinst_ok {x:V}{u t:Value}(I:Inv X pins σ H s) (rx:RelV x u) (ty:TyOf X.K H x t) (e:PySem.W.kitOne X.K t c=some b) (h:∀ tk,Q (.bool b) { s with toks:=tk }) :
  wpAny (model X.prog X.w) A (call (.builtin "isinstance") [u,c]) Q E s:=by
 cases ty with
 | non=>cases (show u=Value.none from rx);exact PySem.W.kia_one PySem.W.kitx_none I.kIn True.intro e (fun z=>nomatch z) h
 | bl y=>cases (show u=Value.bool y from rx);exact PySem.W.kia_one PySem.W.kitx_bool I.kIn True.intro e (fun z=>nomatch z) h
 | int i=>obtain ⟨t,q⟩:=(show ∃ t,u=Value.int i t from rx);cases q;exact PySem.W.kia_one PySem.W.kitx_int I.kIn True.intro e (fun z=>nomatch z) h
 | str y=>obtain ⟨t,q⟩:=(show ∃ t,u=Value.str y t from rx);cases q;exact PySem.W.kia_one PySem.W.kitx_str I.kIn True.intro e (fun z=>nomatch z) h
 | flt y=>obtain ⟨t,q⟩:=(show ∃ t,u=Value.float y t from rx);cases q;exact PySem.W.kia_one PySem.W.kitx_float I.kIn True.intro e (fun z=>nomatch z) h
 | @lst a xs ea=>
  cases (show u=Value.ref a from rx)
  obtain ⟨_,_,n,_,h1⟩:=(show ObjOk X.prog X.w H s.heap a (.lst xs) from I.hok a _ ea)
  exact PySem.W.kia_one PySem.W.kitx_list I.kIn ⟨_,h1,rfl⟩ e (fun z=>nomatch z) h
 | @frz a ob xs ea=>
  cases (show u=Value.ref a from rx)
  obtain ⟨_,_,_,n,_,h1⟩:=(show ObjOk X.prog X.w H s.heap a (.frz ob (.lst xs)) from I.hok a _ ea)
  exact PySem.W.kia_one PySem.W.kitx_list I.kIn ⟨_,h1,rfl⟩ e (fun z=>nomatch z) h
 | @tup a xs ea=>
  cases (show u=Value.ref a from rx)
  obtain ⟨_,_,_,p⟩:=(show ObjOk X.prog X.w H s.heap a (.tup xs) from I.hok a _ ea)
  obtain ⟨o,h1,h2,_⟩:=p
  exact PySem.W.kia_one PySem.W.kitx_tuple I.kIn ⟨o,h1,h2⟩ e (fun z=>nomatch z) h
 | @dK a kvs ea=>
  cases (show u=Value.ref a from rx)
  obtain ⟨_,_,vs,_,p⟩:=(show ObjOk X.prog X.w H s.heap a (.dK kvs) from I.hok a _ ea)
  obtain ⟨o,es,ep,h1,h2,_⟩:=p
  exact PySem.W.kia_one PySem.W.kitx_dict I.kIn ⟨o,h1,h2.1⟩ e (fun z=>nomatch z) h
 | @dT a kvs ea=>
  cases (show u=Value.ref a from rx)
  obtain ⟨_,_,xs,_,o,es,ep,h1,h2,_⟩:=(show ObjOk X.prog X.w H s.heap a (.dT kvs) from I.hok a _ ea)
  exact PySem.W.kia_one PySem.W.kitx_dict I.kIn ⟨o,h1,h2.1⟩ e (fun z=>nomatch z) h
 | @ins a C dx fs ea cl ha hn htk hm=>
  cases (show u=Value.ref a from rx)
  obtain ⟨mA,O,_⟩:=ins_get I.hok ea
  obtain ⟨od,J,_⟩:=O.look
  exact PySem.W.kia_one (PySem.W.kitx_own (cl.get _) cl.hd ha hn htk hm) I.kIn J e (fun z=>nomatch z) h
end
end L2
namespace L2
open PySem PySem.Spec PyProof.Rows
structure Room (k:Nat) (A:Around):Prop where
 hd:A.handled=none
 dp:A.depth+3 * k+5 < recursionLimit
 un:A.units+16 * k+200 < cLine
theorem Room.mono {j k:Nat}{A:Around}(r:Room k A) (h:j≤k):Room j A:=⟨r.hd,by have:=r.dp;omega,by have:=r.un;omega⟩
theorem Room.deeper {k:Nat}{A:Around}(r:Room (k+1) A) (env:Env):Room k (A.deeper env):=
 ⟨r.hd,by have:=r.dp;show A.depth+1+3 * k+5 < _;omega,by have:=r.un;show A.units+3+16 * k+200 < _;omega⟩
theorem make_depth {A:Around}{C:Addr}{us:List Value}{kw:List (Str × Value)}:(A.under (.builtin "type.__call__" ⟨.ref C::us,kw⟩)).depth=A.depth+1:=by
 first|rfl|simp [Around.under,Code.weight,Code.isCreation,Code.isGuard,Code.isCaller,Code.frames,Code.isFrame,guardIds]
theorem make_units {A:Around}{C:Addr}{us:List Value}{kw:List (Str × Value)}:(A.under (.builtin "type.__call__" ⟨.ref C::us,kw⟩)).units=A.units+1:=by
 first|rfl|simp [Around.under,Code.cUnits,Code.frames,Code.isFrame]
theorem Room.make {k:Nat}{A:Around}(r:Room (k+1) A) (C:Addr) (us:List Value) (kw:List (Str × Value)):Room k (A.under (.builtin "type.__call__" ⟨.ref C::us,kw⟩)):=
 ⟨r.hd,by have:=r.dp;rw [make_depth];omega,by have:=r.un;rw [make_units];omega⟩
theorem Room.depth {k:Nat}{A:Around}(r:Room k A):A.depth < recursionLimit:=by have:=r.dp;omega
theorem Room.units {k:Nat}{A:Around}(r:Room k A):A.units+64 < cLine:=by have:=r.un;omega
def tNil:TA:=fun _ H Q=>Q [] H
def tCons (ta:TE) (tr:TA):TA:=fun σ H Q=>ta σ H fun x H1=>tr σ H1 fun xs H2=>Q (x::xs) H2
section
variable {X:Cx}{e:Expr}{es:List Expr}{te:TE}{t:TA}{pos:Pos}
theorem pa_nil:PA X [] tNil:=fun _ _ _ _ H Q I h=>Calls.spliced_nil ⟨[],H,I,.nil,h⟩
theorem pa_cons (ha:PE X e te) (hr:PA X es t) (hs:starEach (e::es) X.env=(false,eval e X.env)::starEach es X.env:=by rfl):PA X (e::es) (tCons te t):=by
 intro pos pins s σ H Q I h
 rw [hs]
 show wpAny _ _ (spliced ((false,eval e X.env)::backTo pos (starEach es X.env))) _ _ s
 refine Calls.spliced_cons (thn (ha pins s σ H _ I h) fun u s1 ⟨x,H1,I1,r1,q1⟩=>?_)
 exact thn (hr pos pins s1 σ H1 _ I1 q1) fun us s2 ⟨xs,H2,I2,r2,q2⟩=>⟨x::xs,H2,I2,.cons r1 r2,q2⟩
end
abbrev Sp:=List V->Hp->VK->XK->Prop
abbrev CXT:=List Env->Hp->Shared->XK->Value->Shared->Prop
structure Env0 (P:Program) (w:World) (K:PySem.W.Frag) (mg:Str->Option Value) (base:Heap) (A:Around) (outer:List Env) (s:Shared) (H:Hp):Prop where
 frames:A.frames=some outer
 mod:Mod K mg base
 bs:∀ b o,base.get? b=some o->s.heap.get? b=some o∧H b=none
 bsz:base.objs.size≤s.heap.objs.size
 funs:s.heap.FunFrames base outer
 frf:∀ b∈frs outer,H b=none
 hok:HOk P w H s.heap
 bare:AllBare s.gens
def CE (outer:List Env) (P:Program) (w:World) (H:Hp) (s:Shared) (Q:VK) (u:Value) (s':Shared):Prop:=
 ∃ v H',s'.os=s.os∧AllBare s'.gens∧Un (frs outer) [] H H' s.heap s'.heap∧HOk P w H' s'.heap∧RelV v u∧Q v H'
def CR (CX:CXT) (outer:List Env) (P:Program) (w:World) (H:Hp) (s:Shared) (Q:VK) (E:XK) (r:Result) (s':Shared):Prop:=
 match r with
 | .ok (.ret u)=>CE outer P w H s Q u s'
 | .ok _=>False
 | .error e=>CX outer H s E e s'
structure FnOk (P:Program) (w:World) (K:PySem.W.Frag) (mg:Str->Option Value) (base:Heap) (CX:CXT) (k:Nat) (f:Addr) (fd:FuncData) (ps:List Str) (sp:Sp):Prop where
 len:∀ vs H Q E,sp vs H Q E->vs.length=ps.length
 run:∀ (A:Around) (outer:List Env) (s:Shared) (H:Hp) (args:Args) (us:List Value) (vs:List V) (Q:VK) (E:XK),Room k A->Env0 P w K mg base A outer s H->BindsTo s fd args (ps.zip us)->Vals vs us->sp vs H Q E →
  codeAny (model P w) A (.call (.ref f) args) (CR CX outer P w H s Q E) s
theorem FnOk.imp {P:Program}{w:World}{K:PySem.W.Frag}{mg:Str->Option Value}{base:Heap}{CX:CXT}{k:Nat}{f:Addr}{fd:FuncData}{ps:List Str}{sp sp':Sp}(F:FnOk P w K mg base CX k f fd ps sp)
  (h:∀ vs H Q E,sp' vs H Q E->sp vs H Q E):FnOk P w K mg base CX k f fd ps sp':=
 ⟨fun vs H Q E q=>F.len vs H Q E (h _ _ _ _ q),fun A outer s H args us vs Q E hr he hb hv hs=>F.run A outer s H args us vs Q E hr he hb hv (h _ _ _ _ hs)⟩
theorem Env0.make {P:Program}{w:World}{K:PySem.W.Frag}{mg:Str->Option Value}{base:Heap}{A:Around}{outer:List Env}{s:Shared}{H:Hp}(e:Env0 P w K mg base A outer s H) (C:Addr) (us:List Value) (kw:List (Str × Value)) :
  Env0 P w K mg base (A.under (.builtin "type.__call__" ⟨.ref C::us,kw⟩)) outer s H:=⟨by first|exact e.frames|(simpa [Around.under,Code.envs,Code.isFrame,pushEnvs] using e.frames),e.mod,e.bs,e.bsz,e.funs,e.frf,e.hok,e.bare⟩
section
variable {X:Cx}{pins:List (Addr × Obj)}{σ:St}{H:Hp}{s s':Shared}
theorem Inv.env0 (I:Inv X pins σ H s):Env0 X.prog X.w X.K X.mg X.base X.A X.stack s H:=
 ⟨I.ok.frames,I.ok.mod,I.bs,Nat.le_trans I.ok.bsz I.sz,I.stack,I.stkFree,I.hok,I.bare⟩
theorem Inv.after {Q:VK}{u:Value}(I:Inv X pins σ H s) (h:CE X.stack X.prog X.w H s Q u s'):EP X pins σ Q u s':=by
 obtain ⟨v,H',os,bare,un,hok,r,q⟩:=h
 obtain ⟨hh,g,d,t,os'⟩:=s'
 obtain rfl:os'=s.os:=os
 exact ⟨v,H',I.call (h':=hh) (g':=g) (d':=d) (t':=t) (ch:=[]) un hok bare (fun b z=>absurd z (by simp)),r,q⟩
end
def tCall (sp:Sp) (dvs:List V) (E:XK) (t:TA):TE:=fun σ H Q=>t σ H fun vs H1=>sp (vs++dvs) H1 Q E
def Binds (K:PySem.W.Frag) (fd:FuncData) (ps:List Str) (ds:List Value):Prop:=
 ∀ (s:Shared) (us:List Value),K.In s.heap->(us++ds).length=ps.length->BindsTo s fd ⟨us,[]⟩ (ps.zip (us++ds))
theorem Binds.all {K:PySem.W.Frag}{fd:FuncData}{ps:List Str}(h:∀ us:List Value,us.length=ps.length->bindArgs fd ⟨us,[]⟩=pure (ps.zip us)):Binds K fd ps []:=fun s us _ hl=>by
 rw [List.append_nil] at hl ⊢
 exact .of_eq (h us hl)
def Passes (CX:CXT) (X:Cx) (E:XK):Prop:=∀ (pins:List (Addr × Obj)) (σ:St) (H:Hp) (s:Shared) (e:Value) (s':Shared),Inv X pins σ H s->CX X.stack H s E e s'->X.xe e s'
section
variable {X:Cx}{CX:CXT}{k:Nat}{f C:Addr}{fd:FuncData}{ps:List Str}{sp:Sp}{dvs:List V}{ds:List Value}{E:XK}{x m:Str}{p pos apos:Pos}{e o:Expr}{es:List Expr}{ta:TE}{t:TA}
theorem run_fn {pins:List (Addr × Obj)}{σ:St}{H:Hp}{s:Shared}{Q:VK}{us:List Value}{vs:List V}(F:FnOk X.prog X.w X.K X.mg X.base CX k f fd ps sp) (hr:Room k X.A) (hb:Binds X.K fd ps ds) (hd:Vals dvs ds) (hx:Passes CX X E)
  (I:Inv X pins σ H s) (r:Vals vs us) (h:sp (vs++dvs) H Q E):wpAny (model X.prog X.w) X.A (call (.ref f) us) (EP X pins σ Q) X.xe s:=by
 have r2:Vals (vs++dvs) (us++ds):=r.append hd
 have hl:(us++ds).length=ps.length:=by rw [←r2.length];exact F.len _ _ _ _ h
 refine wpAny_call (codeAny_mono (F.run X.A X.stack s H ⟨us,[]⟩ (us++ds) (vs++dvs) Q E hr I.env0 (hb s us I.kIn hl) r2 h) fun r s' hq=>?_)
 cases r with
 | error e=>exact hx pins σ H s e s' I hq
 | ok fl=>
  cases fl with
  | ret u=>exact I.after hq
  | next=>exact False.elim hq
  | brk=>exact False.elim hq
  | cont=>exact False.elim hq
theorem pe_call (F:FnOk X.prog X.w X.K X.mg X.base CX k f fd ps sp) (hr:Room k X.A) (hg:Gl X x) (hm:X.mg x=some (.ref f)) (hk:PySem.W.keepIn X.K (.ref f)=true) (hb:Binds X.K fd ps ds) (hd:Vals dvs ds) (hx:Passes CX X E)
  (ha:PA X (e::es) t) (hdb:(x == ("__debug__":Str))=false:=by decide) (he:starEach (e::es) X.env=(false,eval e X.env)::starEach es X.env:=by rfl) (hpl:(backTo pos (starEach es X.env)).any (·.1)=false:=by rfl) :
  PE X (.Call (.Name x p) (e::es) [] pos) (tCall sp dvs E t):=by
 intro pins s σ H Q I h
 refine wpAny_Call_Name_kw (ld_glob I hg hm ?_ hdb)
 refine PySem.W.callWith_K (h₀:=X.base) I.ok.mod.kin hk (thn (ha pos pins s σ H _ I h) fun us s1 ⟨vs,H1,I1,r,q⟩=>⟨I1.kIn,?_⟩) he hpl
 exact run_fn F hr hb hd hx I1 r q
structure Mk (K:PySem.W.Frag) (C f:Addr):Prop where
 makes:PySem.W.makesIn K C=true
 init:PySem.W.findIn K (.ref C) "__init__"=some (some (.ref f))
 fn:PySem.W.isFn K (.ref f)=true
 kp:PySem.W.keepIn K (.ref C)=true
theorem run_make {pins:List (Addr × Obj)}{σ:St}{H:Hp}{s:Shared}{Q:VK}{us:List Value}{vs:List V}(M:Mk X.K C f) (F:FnOk X.prog X.w X.K X.mg X.base CX k f fd ps sp) (hr:Room (k+1) X.A) (hb:Binds X.K fd ps ds) (hd:Vals dvs ds)
  (hx:Passes CX X E) (I:Inv X pins σ H s) (r:Vals vs us)
  (h:∀ x dx,H x=none->H dx=none->dx ≠ x->sp (.ref x::(vs++dvs)) (upd (upd H dx (.own x)) x (.ins C dx [])) (fun v H2=>v=.non∧Q (.ref x) H2) E) :
  wpAny (model X.prog X.w) X.A (call (.ref C) us) (EP X pins σ Q) X.xe s:=by
 have hq:=h (s.heap.objs.size+1) s.heap.objs.size (I.hok.fresh (Nat.le_succ _)) (I.hok.fresh (Nat.le_refl _)) (Nat.ne_of_lt (Nat.lt_succ_self _))
 have I2:=Inv.made (C:=C) I
 have r2:Vals (V.ref (s.heap.objs.size+1)::(vs++dvs)) (Value.ref (s.heap.objs.size+1)::(us++ds)):=.cons rfl (r.append hd)
 have hl:(Value.ref (s.heap.objs.size+1)::us++ds).length=ps.length:=by
  have e:=r2.length
  rw [F.len _ _ _ _ hq] at e
  exact e.symm
 refine wpAny_call (make_map (f:=f) I.kIn M.makes M.init (beq_iff_eq.mp M.fn) (codeAny_mono (F.run _ X.stack _ _ ⟨Value.ref (s.heap.objs.size+1)::us,[]⟩ (Value.ref (s.heap.objs.size+1)::(us++ds)) _ _ E (hr.make C us [])
  (I2.env0.make C us []) (hb _ (Value.ref (s.heap.objs.size+1)::us) I2.kIn hl) r2 hq) fun r s' hq'=>?_))
 cases r with
 | error e=>exact hx pins σ _ _ e s' I2 hq'
 | ok fl=>
  cases fl with
  | ret u=>
   obtain ⟨v,H',I3,rv,ev,q3⟩:=I2.after hq'
   subst ev
   exact ⟨rv,⟨V.ref (s.heap.objs.size+1),H',I3,rfl,q3⟩⟩
  | next=>exact False.elim hq'
  | brk=>exact False.elim hq'
  | cont=>exact False.elim hq'
end
section
variable {X:Cx}{CX:CXT}{k:Nat}{f C:Addr}{fd:FuncData}{ps ks:List Str}{sp:Sp}{E:XK}{x m:Str}{p pos apos kpos:Pos}{e o:Expr}{es:List Expr}{kws:List Keyword}{te ta:TE}{t tk:TA}{nm:Option Str}
variable {g:List Value->List Value->List Value}{gV:List V->List V->List V}
end
structure FnScope (N P:List Str) (sc:Scope):Prop where
 kind:sc.kind=.function
 co:sc.isCoroutine=false
 gen:sc.isGenerator=false
 nd:N.Nodup
 pre:N.take P.length=P
 par:∀ x∈P,sc.names.lookup x=some .local∨sc.names.lookup x=some .cell
 nofree:∀ y∈sc.names,y.2 ≠ .free
theorem bindL_out {kindOf:Str->Option NameKind}{x:Str}:∀ {binds:List (Str × Value)}{m:Str->Option Value},(∀ v,(x,v) ∉ binds)->bindL kindOf binds m x=m x
 | [],_,_=>rfl
 | (n,v)::r,m,h=>by
  unfold bindL
  rw [bindL_out fun w hw=>h w (List.mem_cons_of_mem _ hw)]
  split
  ·have:x ≠ n:=by rintro rfl;exact h v List.mem_cons_self
   simp [this]
  ·rfl
theorem bindC_out {kindOf:Str->Option NameKind}{x:Str}:∀ {binds:List (Str × Value)}{m:Str->Option Value},(∀ v,(x,v) ∉ binds)->bindC kindOf binds m x=m x
 | [],_,_=>rfl
 | (n,v)::r,m,h=>by
  unfold bindC
  rw [bindC_out fun w hw=>h w (List.mem_cons_of_mem _ hw)]
  split
  ·rfl
  ·have:x ≠ n:=by rintro rfl;exact h v List.mem_cons_self
   simp [this]
theorem bindL_get {kindOf:Str->Option NameKind}{x:Str}{v:Value}:∀ {P:List Str}{vs:List Value}{i:Nat}{m:Str->Option Value},P.Nodup->P[i]? = some x->vs[i]? = some v->kindOf x=some .local →
  bindL kindOf (P.zip vs) m x=some v
 | [],_,_,_,_,h,_,_=>by simp at h
 | _::_,[],_,_,_,_,h,_=>by simp at h
 | p::P,w::vs,0,m,nd,h1,h2,hk=>by
  simp at h1 h2;subst h1;subst h2
  show bindL kindOf ((p,w)::P.zip vs) m p=_
  unfold bindL
  rw [bindL_out fun v hv=>(List.nodup_cons.mp nd).1 (List.of_mem_zip hv).1,if_pos hk]
  simp
 | p::P,w::vs,i+1,m,nd,h1,h2,hk=>by
  show bindL kindOf ((p,w)::P.zip vs) m x=_
  unfold bindL
  exact bindL_get (i:=i) (List.nodup_cons.mp nd).2 (by simpa using h1) (by simpa using h2) hk
theorem bindC_get {kindOf:Str->Option NameKind}{x:Str}{v:Value}:∀ {P:List Str}{vs:List Value}{i:Nat}{m:Str->Option Value},P.Nodup->P[i]? = some x->vs[i]? = some v->kindOf x ≠ some .local →
  bindC kindOf (P.zip vs) m x=some v
 | [],_,_,_,_,h,_,_=>by simp at h
 | _::_,[],_,_,_,_,h,_=>by simp at h
 | p::P,w::vs,0,m,nd,h1,h2,hk=>by
  simp at h1 h2;subst h1;subst h2
  show bindC kindOf ((p,w)::P.zip vs) m p=_
  unfold bindC
  rw [bindC_out fun v hv=>(List.nodup_cons.mp nd).1 (List.of_mem_zip hv).1,if_neg hk]
  simp
 | p::P,w::vs,i+1,m,nd,h1,h2,hk=>by
  show bindC kindOf ((p,w)::P.zip vs) m x=_
  unfold bindC
  exact bindC_get (i:=i) (List.nodup_cons.mp nd).2 (by simpa using h1) (by simpa using h2) hk
def start (N:List Str) (vs:List V):St:=vs.map some++List.replicate (N.length - vs.length) none
def cxOf (CX:CXT) (P:Program) (w:World) (K:PySem.W.Frag) (mg:Str->Option Value) (base:Heap) (N:List Str) (qual:Str) (scope:Scope) (f:Addr) (cd:Value) (A:Around) (outer:List Env) (s:Shared) (H:Hp) (E:XK):Cx where
 prog:=P
 w:=w
 K:=K
 mg:=mg
 base:=base
 A:=A.deeper (envOfC qual scope s.heap.objs.size f cd)
 N:=N
 s₀:=s
 H₀:=H
 env:=envOfC qual scope s.heap.objs.size f cd
 outer:=outer
 stack:=envOfC qual scope s.heap.objs.size f cd::outer
 ex:=[]
 calm:=true
 fn:=fun _=>true
 pn:=[]
 xe:=fun e s'=>wpAny (model P w) (A.deeper (envOfC qual scope s.heap.objs.size f cd)) (leaving (envOfC qual scope s.heap.objs.size f cd) e) (fun _ s''=>CX outer H s E e s'') (fun e' s''=>CX outer H s E e' s'') s'
theorem cell_has {sc:Scope}{n:Nat}{x:Str}(h:sc.names.lookup x=some .cell):∃ c,(cellsFrom n sc.names []).lookup x=some c:=by
 have q:=PySem.W.cellsFrom_some sc.names n [] (.inl h)
 exact Option.isSome_iff_exists.mp q
theorem inv_start {CX:CXT}{P:Program}{w:World}{K:PySem.W.Frag}{mg:Str->Option Value}{base:Heap}{N ps:List Str}{qual:Str}{scope:Scope}{f:Addr}{cd:Value}{A:Around}{outer:List Env}{s s1:Shared}{H:Hp}{E:XK}{us:List Value}{vs:List V}
  (S:FnScope N ps scope) (hd:A.handled=none) (e0:Env0 P w K mg base A outer s H) (hl:vs.length=ps.length) (r:Vals vs us)
  (x:InCallC s s.heap.objs.size (bindL (envOfC qual scope s.heap.objs.size f cd).kindOf (ps.zip us) fun _=>none) (cellsFrom (s.heap.objs.size+1) scope.names []) (bindC (envOfC qual scope s.heap.objs.size f cd).kindOf (ps.zip us) fun _=>none) s1) :
  Inv (cxOf CX P w K mg base N qual scope f cd A outer s H E) [] (start N vs) H s1:=by
 have hpl:ps.length≤N.length:=by have:=congrArg List.length S.pre;rw [List.length_take] at this;omega
 obtain ⟨h1,tk,rfl,hk⟩:=x.done
 have noA:∀ b:Addr,b ∉ (cxOf CX P w K mg base N qual scope f cd A outer s H E).ex:=fun b z=>absurd (show b∈([]:List Addr) from z) (by simp)
 refine ⟨⟨e0.mod,S.kind,rfl,rfl,Nat.le_refl _,fun y z c h1 h2=>?_,fun y hy=>?_,fun y c _ h=>?_,fun _=>hd,Around.frames_deeper e0.frames,.inr ⟨rfl,rfl⟩,fun b z=>absurd z (noA b),e0.bs,e0.bsz,fun b _ _=>noA b,fun b z=>absurd z (noA b),e0.funs,e0.frf⟩,
  rfl,e0.bare,Un.kept hk,⟨_,x.toInCall.ns,fun i y v h1 h2 h3=>?_⟩,fun y c h=>⟨_,x.cell y c h⟩,e0.hok.fresh (Nat.le_refl _),fun y c h=>?_,fun p hp=>absurd (show p∈([]:List (Addr × Obj)) from hp) (by simp),e0.hok.kept hk,?_⟩
 ·exact name_of_addr x.apart (PySem.mem_of_lookup h1) (PySem.mem_of_lookup h2)
 ·have hy:scope.names.lookup y=some .cell∨scope.names.lookup y=some .free:=hy
  rcases hy with hy|hy
  ·exact cell_has hy
  ·exact absurd rfl (S.nofree _ (PySem.mem_of_lookup hy))
 ·exact Nat.le_of_lt (x.above y c (PySem.mem_of_lookup h))
 ·have hi:i < vs.length:=by
   unfold start at h2
   by_cases hi:i < vs.length
   ·exact hi
   ·rw [List.getElem?_append_right (by simpa using hi)] at h2
    rw [List.getElem?_replicate] at h2
    split at h2<;>cases h2
  have ha:vs[i]? = some v:=by
   unfold start at h2
   rw [List.getElem?_append_left (by simpa using hi),List.getElem?_map] at h2
   cases e:vs[i]? with
   | none=>rw [e] at h2;cases h2
   | some a=>rw [e] at h2;cases h2;rfl
  obtain ⟨u,hu,rv⟩:=r.get ha
  have hp:ps[i]? = some y:=by
   rw [←S.pre,List.getElem?_take_of_lt (by omega)];exact h1
  have ndP:ps.Nodup:=by rw [←S.pre];exact S.nd.sublist (List.take_sublist _ _)
  refine ⟨u,rv,?_⟩
  rcases S.par y (List.mem_of_getElem? hp) with k|k
  ·exact .inl ⟨k,bindL_get ndP hp hu k⟩
  ·obtain ⟨c,e⟩:=cell_has (n:=s.heap.objs.size+1) k
   refine .inr ⟨.inl k,c,e,?_⟩
   have q:=x.cell y c e
   rw [bindC_get ndP hp hu (by show scope.names.lookup y ≠ _;rw [k];decide)] at q
   exact q
 ·exact e0.hok.fresh (Nat.le_of_lt (x.above y c (PySem.mem_of_lookup h)))
 ·unfold start
  show _=N.length
  rw [List.length_append,List.length_map,List.length_replicate]
  omega
theorem fn_of {CX:CXT}{P:Program}{w:World}{K:PySem.W.Frag}{mg:Str->Option Value}{base:Heap}{k:Nat}{f:Addr}{name qual:Str}{params:Arguments}{body:List Stmt}{scope:Scope}{dV kV doc pm cdv ct oc:Value}{an od:Option Addr}
  {osl:Array (Option Value)} {N ps:List Str} {sp:Sp} (lk:K.lookup f=some ⟨oc,od,.func (PySem.W.fnOf name qual params body scope dV kV doc pm an cdv ct),osl⟩) (hcd:PySem.W.codeIn K cdv qual=true) (S:FnScope N ps scope)
  (len:∀ vs H Q E,sp vs H Q E->vs.length=ps.length)
  (hbody:∀ (A:Around) (outer:List Env) (s:Shared) (H:Hp) (vs:List V) (Q:VK) (E:XK),Room k (A.deeper (envOfC qual scope s.heap.objs.size f cdv))->sp vs H Q E →
   ∃ t,PSs (cxOf CX P w K mg base N qual scope f cdv A outer s H E) body t∧t { nx:=fun _ H'=>Q .non H',rt:=Q } (start N vs) H) :
  FnOk P w K mg base CX (k+1) f (PySem.W.fnOf name qual params body scope dV kV doc pm an cdv ct) ps sp:=by
 refine ⟨len,fun A outer s H args us vs Q E hr e0 hb r hsp=>?_⟩
 have hl:=len _ _ _ _ hsp
 have KX:K.In s.heap:=e0.mod.kin.keeps fun b o e=>(e0.bs b o e).1
 have lim:s.heap.NoLimit:=e0.mod.nolimit.keeps fun b o e=>(e0.bs b o e).1
 have hkind:∀ y∈ps.zip us,scope.names.lookup y.1=some .local∨(scope.names.lookup y.1=some .cell∧((cellsFrom (s.heap.objs.size+1) scope.names []).lookup y.1).isSome=true):=fun ⟨n,v⟩ hy=>by
  rcases S.par n (List.of_mem_zip hy).1 with q|q
  ·exact .inl q
  ·exact .inr ⟨q,PySem.W.cellsFrom_some _ _ _ (.inl q)⟩
 refine codeAny_call_function hr.depth (KX _ _ lk) rfl S.co S.gen rfl (PySem.W.codeRec_of KX hcd) (hb _ _ _ _ ?_)
 refine wpAny_newFunctionEnv_cells S.kind hkind fun env he s1 x=>?_
 subst he
 refine ⟨lim.keeps x.toInCall.keep,codeAny_func ?_⟩
 obtain ⟨t,ht,hq⟩:=hbody A outer s H vs Q E (hr.deeper _) hsp
 have I:Inv (cxOf CX P w K mg base N qual scope f cdv A outer s H E) [] (start N vs) H s1:=inv_start S hr.hd e0 hl r x
 refine wpAny_mono (ht [] s1 (start N vs) H _ I hq) (fun fl s' hs=>?_) fun e s' hs=>hs
 have fin:∀ {σ':St} {H':Hp} {v:V} {u:Value},Inv (cxOf CX P w K mg base N qual scope f cdv A outer s H E) [] σ' H' s'->RelV v u->Q v H'->CE outer P w H s Q u s':=
  fun {σ' H' v u} J rv q=>⟨v,H',J.os,J.bare,J.base,J.hok,rv,q⟩
 cases fl with
 | ret u=>
  obtain ⟨v,σ',H',J,rv,q⟩:=hs
  exact fin J rv q
 | next=>
  obtain ⟨σ',H',J,q⟩:=hs
  exact fin (v:=V.non) (u:=Value.none) J rfl q
 | brk=>
  obtain ⟨_,_,_,q⟩:=hs
  exact False.elim q
 | cont=>
  obtain ⟨_,_,_,q⟩:=hs
  exact False.elim q
end L2
namespace L2
open PySem PySem.Spec PyProof.Rows
section
variable {X:Cx}{x:Str}{p pos:Pos}{e:Expr}{es:List Expr}{t:TA}{id T:String}{r:List V->Hp->VK->Prop}
def tCB (r:List V->Hp->VK->Prop) (t:TA):TE:=fun σ H Q=>t σ H fun vs H1=>r vs H1 Q
theorem pe_callB (hc:CallR X (.builtin id) r) (hg:Gl X x) (hm:X.mg x=none) (hv:bootBuiltins x=some (.builtin id)) (ha:PA X (e::es) t) (hn:x ≠ "__name__":=by decide) (hdb:(x == ("__debug__":Str))=false:=by decide)
  (he:starEach (e::es) X.env=(false,eval e X.env)::starEach es X.env:=by rfl) (hpl:(backTo pos (starEach es X.env)).any (·.1)=false:=by rfl):PE X (.Call (.Name x p) (e::es) [] pos) (tCB r t):=by
 intro pins s σ H Q I h
 refine wpAny_Call_Name_kw (ld_blt I hg hm hv ?_ hn hdb)
 exact PyProof.Rows.callWith_builtin1 (thn (ha pos pins s σ H _ I h) fun us s1 ⟨vs,H1,I1,r1,q1⟩=>hc pins s1 σ H1 vs us Q I1 r1 q1) he hpl
theorem pe_callTy (hc:CallR X (.type T) r) (hg:Gl X x) (hm:X.mg x=none) (hv:bootBuiltins x=some (.type T)) (ha:PA X (e::es) t) (hn:x ≠ "__name__":=by decide) (hdb:(x == ("__debug__":Str))=false:=by decide)
  (he:starEach (e::es) X.env=(false,eval e X.env)::starEach es X.env:=by rfl) (hpl:(backTo pos (starEach es X.env)).any (·.1)=false:=by rfl):PE X (.Call (.Name x p) (e::es) [] pos) (tCB r t):=by
 intro pins s σ H Q I h
 refine wpAny_Call_Name_kw (ld_blt I hg hm hv ?_ hn hdb)
 exact PyProof.Rows.callWith_type1 (thn (ha pos pins s σ H _ I h) fun us s1 ⟨vs,H1,I1,r1,q1⟩=>hc pins s1 σ H1 vs us Q I1 r1 q1) he hpl
end
end L2
namespace HT
open PySem PyProof.Rows
section
open PySem.SeqAt
open PySem.AutoSeq1 (wpAny_loadPart')
open PySem.MeetsSeq PySem.MeetsSeq2 PySem.MeetsSeq3
end
section
variable {prog:Program}{w:World}{A:Around}{E:Value->Shared->Prop}{s:Shared}
def sIx (n d:Nat):Option Int->Nat
 | none=>d
 | some v=>if v < 0 then (v+(n:Int)).toNat else min v.toNat n
theorem sIx_nat (n d k:Nat):sIx n d (some (k:Int))=min k n:=by
 show (if (k:Int) < 0 then ((k:Int)+(n:Int)).toNat else min (k:Int).toNat n)=min k n
 rw [if_neg (by omega),Int.toNat_natCast]
end
end HT
namespace L2
open PySem PySem.Spec PyProof.Rows
abbrev TO:=St->Hp->(Option Int->Hp->Prop)->Prop
def PO (X:Cx) (e:Option Expr) (t:TO):Prop:=
 ∀ (pins:List (Addr × Obj)) (s:Shared) (σ:St) (H:Hp) (Q:Option Int->Hp->Prop),Inv X pins σ H s->t σ H Q →
  wpAny (model X.prog X.w) X.A (evalPart e X.env) (fun u s'=>∃ o H',Inv X pins σ H' s'∧IsPart u o∧Q o H') X.xe s
def tPart (t:TE):TO:=fun σ H Q=>t σ H fun x H1=>∃ i,x=.int i∧Q (some i) H1
section
variable {X:Cx}{e:Expr}{te:TE}{lo hi:Option Expr}{tl th:TO}{pos p2:Pos}
theorem po_some (h:PE X e te):PO X (some e) (tPart te):=by
 intro pins s σ H Q I hw
 rw [evalPart_some]
 refine thn (h pins s σ H _ I hw) fun u s1 ⟨x,H1,I1,r1,q1⟩=>?_
 obtain ⟨i,rfl,q⟩:=q1
 obtain ⟨t,rfl⟩:=r1
 exact ⟨some i,H1,I1,.int i t,q⟩
def SlR (X:Cx) (r:V->Option Int->Option Int->Hp->VK->Prop):Prop:=
 ∀ (pins:List (Addr × Obj)) (s:Shared) (σ:St) (H:Hp) (x:V) (v vl vu:Value) (lo hi:Option Int) (sl:Addr) (Q:VK),Inv X pins σ H s->RelV x v->s.heap.IsSliceOf sl vl vu .none->IsPart vl lo->IsPart vu hi->r x lo hi H Q →
  ∃ T id,typeLookup (.type T) "__getitem__"=pure (some (.builtin id))∧s.TypeIs v T∧wpAny (model X.prog X.w) X.A (getItem v (.ref sl)) (EP X pins σ Q) X.xe s
def tSl (r:V->Option Int->Option Int->Hp->VK->Prop) (te:TE) (tl th:TO):TE:=fun σ H Q=>te σ H fun x H1=>tl σ H1 fun l H2=>th σ H2 fun u H3=>r x l u H3 Q
theorem pe_slice {r:V->Option Int->Option Int->Hp->VK->Prop}(hr:SlR X r) (he:PE X e te) (hl:PO X lo tl) (hu:PO X hi th):PE X (.Subscript e (.Slice lo hi none p2) pos) (tSl r te tl th):=by
 intro pins s σ H Q I h
 refine Subscript_ (thn (he pins s σ H _ I h) fun v s1 ⟨x,H1,I1,r1,q1⟩=>?_)
 refine wpAny_Slice (thn (hl pins s1 σ H1 _ I1 q1) fun vl s2 ⟨l,H2,I2,pl,q2⟩=>thn (hu pins s2 σ H2 _ I2 q2) fun vu s3 ⟨u,H3,I3,pu,q3⟩=>?_)
 rw [evalPart_none]
 refine wpAny_pure ?_
 have I4:Inv X pins σ H3 { s3 with heap:=s3.heap.push { cls:=.type "slice",data:=.fields #[vl,vu,.none] } }:=I3.kept (t':=s3.toks) fun b ob q=>Heap.get?_push_of_some _ q
 obtain ⟨T,id,hT,ht,hg⟩:=hr pins { s3 with heap:=s3.heap.push { cls:=.type "slice",data:=.fields #[vl,vu,.none] } } σ H3 x v vl vu l u s3.heap.objs.size Q I4 r1 (Heap.IsSliceOf.new ..) pl pu q3
 show wpAny (model X.prog X.w) X.A (subscriptTail e (.Slice lo hi none p2) v (.ref s3.heap.objs.size)) (EP X pins σ Q) X.xe { s3 with heap:=s3.heap.push { cls:=.type "slice",data:=.fields #[vl,vu,.none] } }
 exact tail_any (ops:=[.ref s3.heap.objs.size,v]) ht hT hg (by with_unfolding_all rfl)
def cutV (xs:List V) (lo hi:Option Int):List V:=(xs.drop (HT.sIx xs.length 0 lo)).take (HT.sIx xs.length xs.length hi - HT.sIx xs.length 0 lo)
theorem cutV_length (xs:List V) (lo hi:Option Int):(cutV xs lo hi).length≤xs.length:=by
 unfold cutV
 rw [List.length_take,List.length_drop]
 omega
end
end L2
namespace L2
open PySem PySem.Spec PyProof.Rows
def ixN (n:Nat) (i:Int):Option Nat:=if 0≤i then (if i < n then some i.toNat else none) else if -(n:Int)≤i then some (i+n).toNat else none
def atI {α:Type}(xs:List α) (i:Int):Option α:=(ixN xs.length i).bind fun j=>xs[j]?
theorem ixN_seq {n:Nat}{i:Int}{j:Nat}(h:ixN n i=some j):seqIndex? i n=some j∧j < n∧-(n:Int)≤i∧i < n:=by
 unfold ixN at h
 by_cases h0:0≤i
 ·rw [if_pos h0] at h
  by_cases h1:i < n
  ·rw [if_pos h1] at h
   have e:i.toNat=j:=Option.some.inj h
   exact ⟨by rw [seqIndex_of h0 h1,e],by omega,by omega,h1⟩
  ·rw [if_neg h1] at h;cases h
 ·rw [if_neg h0] at h
  by_cases h1:-(n:Int)≤i
  ·rw [if_pos h1] at h
   have e:(i+n).toNat=j:=Option.some.inj h
   exact ⟨by rw [seqIndex_neg (by omega) h1,e],by omega,h1,by omega⟩
  ·rw [if_neg h1] at h;cases h
theorem atI_get {α:Type}{xs:List α}{i:Int}{v:α}(h:atI xs i=some v):∃ j,seqIndex? i xs.length=some j∧xs[j]? = some v∧j < xs.length∧-(xs.length:Int)≤i∧i < xs.length:=by
 unfold atI at h
 cases e:ixN xs.length i with
 | none=>rw [e] at h;cases h
 | some j=>
  rw [e] at h
  obtain ⟨h1,h2,h3,h4⟩:=ixN_seq e
  exact ⟨j,h1,h,h2,h3,h4⟩
theorem atI_nat {α:Type}{xs:List α}{j:Nat}{v:α}(h:xs[j]? = some v):atI xs (j:Int)=some v:=by
 have hj:j < xs.length:=(List.getElem?_eq_some_iff.mp h).1
 have e:ixN xs.length (j:Int)=some j:=by
  unfold ixN
  rw [if_pos (by omega),if_pos (by omega)];simp
 unfold atI;rw [e];exact h
def PlainIx (b:Expr):Prop:=∀ o i,subscripted b false o i=operate [o,i] (getItem o i)
def IxR (X:Cx) (r:R2):Prop:=
 ∀ (value slice:Expr) (pins:List (Addr × Obj)) (s:Shared) (σ:St) (H:Hp) (x y:V) (v u:Value) (Q:VK),Inv X pins σ H s->RelV x v->RelV y u->r x y H Q →
  subscripted slice false v u=operate [v,u] (getItem v u)->wpAny (model X.prog X.w) X.A (subscriptTail value slice v u) (EP X pins σ Q) X.xe s
def MtR (X:Cx) (id:String) (r:V->List V->Hp->VK->Prop):Prop:=
 ∀ (pins:List (Addr × Obj)) (s:Shared) (σ:St) (H:Hp) (x:V) (xs:List V) (v:Value) (us:List Value) (Q:VK),Inv X pins σ H s->RelV x v->Vals xs us->r x xs H Q →
  wpAny (model X.prog X.w) X.A (call (.builtin id) (v::us)) (EP X pins σ Q) X.xe s
section
variable {X:Cx}{a b:Expr}{ta tb:TE}{pos:Pos}
theorem IxR.or {r r':R2}(h:IxR X r) (h':IxR X r'):IxR X (fun x y H Q=>r x y H Q∨r' x y H Q):=by
 intro value slice pins s σ H x y v u Q I rx ry q hs
 rcases q with q|q
 ·exact h value slice pins s σ H x y v u Q I rx ry q hs
 ·exact h' value slice pins s σ H x y v u Q I rx ry q hs
theorem pe_ix {r:R2}(hr:IxR X r) (ha:PE X a ta) (hb:PE X b tb) (hs:PlainIx b):PE X (.Subscript a b pos) (tOp r ta tb):=by
 intro pins s σ H Q I h
 exact Subscript_ (binT ha hb I h fun v u s2 x y H2 I2 rx ry q=>hr a b pins s2 σ H2 x y v u Q I2 rx ry q (hs _ _))
def rIxL (K:PySem.W.Frag):R2:=fun x y H Q=>∃ p xs i v,x=.ref p∧y=.int i∧SqL K H p xs∧atI xs i=some v∧Q v H
def rIxT (K:PySem.W.Frag):R2:=fun x y H Q=>∃ p xs i v,x=.ref p∧y=.int i∧SqT K H p xs∧atI xs i=some v∧Q v H
theorem ix_list:IxR X (rIxL X.K):=by
 intro value slice pins s σ H x y v u Q I rx ry h hs
 obtain ⟨p,xs,i,z,rfl,rfl,hq,he,q⟩:=h
 cases rx
 obtain ⟨t,rfl⟩:=ry
 obtain ⟨its,r,pl,hz⟩:=I.list hq
 obtain ⟨j,h1,h2,h3,h4,h5⟩:=atI_get he
 obtain ⟨w,ew,rw'⟩:=r.get h2
 have hl:=r.length
 have hn:=line63
 have fin:EP X pins σ Q w s:=⟨z,H,I,rw',q⟩
 by_cases h0:0≤i
 ·have hj:i.toNat=j:=by
   rw [seqIndex_of h0 h5] at h1
   exact Option.some.inj h1
  exact item_listR pl.isList h0 (by omega) (by rw [hj];simpa using ew) fin hs
 ·have hj:(i+(its.toArray.size:Int)).toNat=j:=by
   rw [seqIndex_neg (by omega) h4] at h1
   rw [List.size_toArray,←hl]
   exact Option.some.inj h1
  exact subscriptTail_builtinR (x:=w) pl.isList.typeIs slot_list_getitem.lookup
   (wpAny_getItem_list_neg (Q:=fun r s'=>r=w∧EP X pins σ Q r s') pl.isList (by omega) (by rw [List.size_toArray]<;>omega) (by omega) (by rw [hj];simpa using ew) ⟨rfl,fin⟩) hs
theorem ix_tup:IxR X (rIxT X.K):=by
 intro value slice pins s σ H x y v u Q I rx ry h hs
 obtain ⟨p,xs,i,z,rfl,rfl,hq,he,q⟩:=h
 cases rx
 obtain ⟨t,rfl⟩:=ry
 obtain ⟨its,r,pl,hz⟩:=I.tuple hq
 obtain ⟨j,h1,h2,h3,h4,h5⟩:=atI_get he
 obtain ⟨w,ew,rw'⟩:=r.get h2
 have hl:=r.length
 have hn:=line63
 have fin:EP X pins σ Q w s:=⟨z,H,I,rw',q⟩
 exact subscriptTail_builtinR (x:=w) pl.typeIs slot_tuple_getitem.lookup
  (getItem_tuple (j:=j) (Q:=fun r s'=>r=w∧EP X pins σ Q r s') pl (by omega) (by omega) (by rw [List.size_toArray,←hl];exact h1) (by simpa using ew) ⟨rfl,fin⟩) hs
theorem mapSeq_set (its:List Value) (n j:Nat) (u:Value):Obj.mapSeq (·.setIfInBounds j u) { cls:=.type "list",data:=.seq its.toArray n }={ cls:=.type "list",data:=.seq (its.set j u).toArray n }:=by
 simp [Obj.mapSeq]
theorem Inv.lst {pins:List (Addr × Obj)}{σ:St}{H:Hp}{s:Shared}{p:Addr}{xs:List V}(I:Inv X pins σ H s) (h:H p=some (.lst xs)) :
  ∃ (its:List Value) (n:Nat),Vals xs its∧s.heap.get? p=some { cls:=.type "list",data:=.seq its.toArray n }∧xs.length≤sizeLine:=by
 obtain ⟨z,its,n,r,e⟩:=I.hok p _ h
 exact ⟨its,n,r,e,z⟩
theorem Inv.lstUpd {pins:List (Addr × Obj)}{σ:St}{H:Hp}{s:Shared}{p:Addr}{xs ys:List V}{its its':List Value}{n n':Nat}{f:Obj->Obj}(I:Inv X pins σ H s) (h:H p=some (.lst xs))
  (ho:s.heap.get? p=some { cls:=.type "list",data:=.seq its.toArray n }) (hf:f { cls:=.type "list",data:=.seq its.toArray n }={ cls:=.type "list",data:=.seq its'.toArray n' }) (r:Vals ys its') (hz:ys.length≤sizeLine) (t:Nat) :
  Inv X pins σ (upd H p (.lst ys)) { s with heap:=s.heap.update p f,toks:=t }:=by
 have e:(s.heap.update p f).get? p=some { cls:=.type "list",data:=.seq its'.toArray n' }:=by
  rw [Heap.get?_update_self f ho (by rw [hf]<;>rfl),hf]
 refine I.write (x:=p) (e:=p) (by rw [h];trivial) (.inl rfl) (fun b u hb q=>(Heap.get?_update_other _ _ (Ne.symm hb)).trans q) ⟨_,e⟩ ?_
 exact ⟨hz,its',n',r,e⟩
def rSetL:V->V->V->Hp->(Hp->Prop)->Prop:=fun o i v H Q=>∃ p xs k j,o=.ref p∧i=.int k∧H p=some (.lst xs)∧ixN xs.length k=some j∧Q (upd H p (.lst (xs.set j v)))
theorem set_list:PSet X rSetL:=by
 intro pins s σ H o i v ov iv u Q I ro ri rv h
 obtain ⟨p,xs,k,j,rfl,rfl,hp,hj,q⟩:=h
 cases ro
 obtain ⟨t,rfl⟩:=ri
 obtain ⟨its,n,r,ho,hz⟩:=I.lst hp
 obtain ⟨h1,h2,h3,h4⟩:=ixN_seq hj
 have hl:=r.length
 have hn:=line63
 have I':Inv X pins σ (upd H p (.lst (xs.set j v))) { s with heap:=s.heap.update p (Obj.mapSeq (·.setIfInBounds j u)) }:=
  I.lstUpd hp ho (mapSeq_set its n j u) (r.set rv j) (by rw [List.length_set];exact hz) s.toks
 by_cases h0:0≤k
 ·have hk:k.toNat=j:=by
   rw [seqIndex_of h0 h4] at h1
   exact Option.some.inj h1
  exact PySem.W.ki_setAt ho h0 (by omega) (by rw [List.size_toArray,←hl];exact h4) (by rw [hk];exact ⟨_,I',q⟩)
 ·have hk:(k+(its.toArray.size:Int)).toNat=j:=by
   rw [seqIndex_neg (by omega) h3] at h1
   rw [List.size_toArray,←hl]
   exact Option.some.inj h1
  exact PySem.W.ki_setBack ho (by omega) (by rw [List.size_toArray,←hl];exact h3) (by omega) (by rw [hk];exact ⟨_,I',q⟩)
theorem slice_bounds (lo hi:Option Int) (n:Nat):(sliceBounds lo hi none n).1=((HT.sIx n 0 lo:Nat):Int)∧(sliceBounds lo hi none n).2.1=((HT.sIx n n hi:Nat):Int)∧(sliceBounds lo hi none n).2.2=1:=by
 refine ⟨?_,?_,rfl⟩
 ·cases lo with
  | none=>simp [sliceBounds,HT.sIx]
  | some i=>
   simp only [sliceBounds,HT.sIx,Option.getD_none,show (1:Int) > 0 by decide,if_true]
   by_cases h:i < 0
   ·simp only [h,if_true]<;>omega
   ·simp only [h,if_false]<;>omega
 ·cases hi with
  | none=>simp [sliceBounds,HT.sIx]
  | some i=>
   simp only [sliceBounds,HT.sIx,Option.getD_none,show (1:Int) > 0 by decide,if_true]
   by_cases h:i < 0
   ·simp only [h,if_true]<;>omega
   ·simp only [h,if_false]<;>omega
theorem slicePick_cut (its:List Value) (lo hi:Option Int):slicePick its.toArray lo hi none=((its.drop (HT.sIx its.length 0 lo)).take (HT.sIx its.length its.length hi - HT.sIx its.length 0 lo)).toArray:=by
 obtain ⟨h1,h2,h3⟩:=slice_bounds lo hi its.toArray.size
 unfold slicePick
 rw [h1,h2,h3]
 simp only [sliceRange_one,pick_run,List.size_toArray]<;>rfl
def rSlL (K:PySem.W.Frag):V->Option Int->Option Int->Hp->VK->Prop:=fun x lo hi H Q=>∃ a xs,x=.ref a∧SqL K H a xs∧∀ p,H p=none->Q (.ref p) (upd H p (.lst (cutV xs lo hi)))
theorem sl_list:SlR X (rSlL X.K):=by
 intro pins s σ H x v vl vu lo hi sl Q I rx hs pl pu h
 obtain ⟨a,xs,rfl,hx,q⟩:=h
 cases rx
 obtain ⟨its,r,ht,hz⟩:=I.list hx
 have hlen:=r.length
 refine ⟨"list",_,slot_list_getitem.lookup,ht.isList.typeIs,?_⟩
 refine wpAny_getItem_list_slice ht.isList hs pl pu .none (by simp) ?_ (by rw [List.size_toArray]<;>omega)
 rw [slicePick_cut,←hlen]
 refine ⟨.ref s.heap.objs.size,_,I.laid (t':=s.toks) (o:=.lst (cutV xs lo hi)) (fun b ob q=>Heap.get?_push_of_some _ q) (Nat.le_refl _) ?_,rfl,q _ (I.hok.fresh (Nat.le_refl _))⟩
 exact ⟨Nat.le_trans (cutV_length xs lo hi) hz,_,0,(r.drop (HT.sIx xs.length 0 lo)).take (HT.sIx xs.length xs.length hi - HT.sIx xs.length 0 lo),Heap.get?_push_size _ rfl⟩
theorem call_len_seq:CallR X (.builtin "len") (fun xs H Q=>∃ p ys,xs=[.ref p]∧(SqL X.K H p ys∨SqT X.K H p ys)∧Q (.int ys.length) H):=by
 intro pins s σ H xs us Q I r h
 obtain ⟨p,ys,rfl,hq,q⟩:=h
 obtain ⟨u,rfl,rx⟩:=vals1 r
 cases rx
 have hn:=line63
 rcases hq with hq|hq
 ·obtain ⟨its,r',pl,hz⟩:=I.list hq
  have hlen:=r'.length
  exact Calls.call_len_list pl.isList (by simp only [List.size_toArray]<;>omega) ⟨.int ys.length,H,I.tok _,⟨s.toks+1,by rw [List.size_toArray,hlen]⟩,q⟩
 ·obtain ⟨its,r',pl,hz⟩:=I.tuple hq
  have hlen:=r'.length
  exact len_tuple pl (by simp only [List.size_toArray]<;>omega) ⟨.int ys.length,H,I.tok _,⟨s.toks+1,by rw [List.size_toArray,hlen]⟩,q⟩
theorem call_len_str:CallR X (.builtin "len") (fun xs H Q=>∃ z,xs=[.str z]∧z.length≤sizeLine∧Q (.int z.length) H):=by
 intro pins s σ H xs us Q I r h
 obtain ⟨z,rfl,hz,q⟩:=h
 obtain ⟨u,rfl,t,rfl⟩:=vals1 r
 have hn:=line63
 exact len_str (by omega) ⟨.int z.length,H,I.tok _,⟨_,rfl⟩,q⟩
theorem CallR.or {f:Value}{r r':List V->Hp->VK->Prop}(h:CallR X f r) (h':CallR X f r'):CallR X f (fun xs H Q=>r xs H Q∨r' xs H Q):=by
 intro pins s σ H xs us Q I rs q
 rcases q with q|q
 ·exact h pins s σ H xs us Q I rs q
 ·exact h' pins s σ H xs us Q I rs q
theorem call_list_of:CallR X (.type "list") (fun xs H Q=>∃ p ys,xs=[.ref p]∧(SqL X.K H p ys∨SqT X.K H p ys)∧∀ l,H l=none->Q (.ref l) (upd H l (.lst ys))):=by
 intro pins s σ H xs us Q I r h
 obtain ⟨p,ys,rfl,hq,q⟩:=h
 obtain ⟨u,rfl,rx⟩:=vals1 r
 cases rx
 have fin:∀ (its:List Value),Vals ys its->ys.length≤sizeLine->∀ (h':Heap) (c':Nat),(∀ b o',s.heap.get? b=some o'->h'.get? b=some o') →
   h'.get? s.heap.objs.size=some { cls:=.type "list",dict:=none,data:=.seq its.toArray c',slots:=#[] }->EP X pins σ Q (.ref s.heap.objs.size) { s with heap:=h' }:=fun its r' hz h' c' kp e=>
  ⟨.ref s.heap.objs.size,_,I.laid (t':=s.toks) kp (Nat.le_refl _) (show ObjOk X.prog X.w _ h' _ (.lst ys) from ⟨hz,its,c',r',e⟩),rfl,q _ (I.hok.fresh (Nat.le_refl _))⟩
 rcases hq with hq|hq
 ·obtain ⟨its,r',pl,hz⟩:=I.list hq
  have hlen:=r'.length
  obtain ⟨o,ho,hc,n,hd⟩:=pl.isList
  exact call_list_seq p (.inl rfl) ho hc hd (fun h' c' kp e=>fin its r' hz h' c' kp e) (by simp only [List.size_toArray]<;>omega)
 ·obtain ⟨its,r',pl,hz⟩:=I.tuple hq
  have hlen:=r'.length
  obtain ⟨o,ho,hc,n,hd⟩:=pl
  exact call_list_seq p (.inr rfl) ho hc hd (fun h' c' kp e=>fin its r' hz h' c' kp e) (by simp only [List.size_toArray]<;>omega)
def tyV (K:PySem.W.Frag) (T:String) (x:V) (H:Hp):Prop:=match x with
 | .str _=>T = "str"
 | .int _=>T = "int"
 | .ref p=>(T = "list" ∧ ∃ xs,SqL K H p xs)∨(T = "tuple" ∧ ∃ o,K.lookup p=some o∧o.cls=.type "tuple" ∧ o.dict=none) ∨
   (T = "dict" ∧ ((∃ kvs,H p=some (.dK kvs))∨∃ kvs,H p=some (.dT kvs)))∨(T = "set" ∧ ∃ S n,H p=some (.set S n))
 | _=>False
theorem tyV_is {pins:List (Addr × Obj)}{σ:St}{H:Hp}{s:Shared}{T:String}{x:V}{v:Value}(I:Inv X pins σ H s) (r:RelV x v) (ty:tyV X.K T x H) :
  s.TypeIs v T∧∀ a,v=.ref a->∃ ob,s.heap.get? a=some ob∧ob.dict=none:=by
 cases x with
 | str z=>
  obtain ⟨t,rfl⟩:=r
  cases (show T = "str" from ty)
  exact ⟨typeIs_str s z t,fun _ e=>nomatch e⟩
 | int i=>
  obtain ⟨t,rfl⟩:=r
  cases (show T = "int" from ty)
  exact ⟨typeIs_int s i t,fun _ e=>nomatch e⟩
 | ref p=>
  cases r
  rcases ty with ⟨rfl,xs,hq⟩|⟨rfl,o,hk,hc,hd⟩|⟨rfl,hk⟩|⟨rfl,S,n,hk⟩
  ·obtain ⟨its,_,pl,_⟩:=I.list hq
   refine ⟨pl.isList.typeIs,fun a e=>?_⟩
   cases e
   obtain ⟨o,n,e,c,hd,_⟩:=pl
   exact ⟨o,e,hd⟩
  ·refine ⟨⟨o,I.kIn p o hk,hc⟩,fun a e=>?_⟩
   cases e
   exact ⟨o,I.kIn _ o hk,hd⟩
  ·have z:∃ o,s.heap.get? p=some o∧o.ExactDict:=by
    rcases hk with ⟨kvs,hk⟩|⟨kvs,hk⟩
    ·obtain ⟨_,_,_,_,o,_,_,e,ex,_⟩:=I.hok p _ hk
     exact ⟨o,e,ex⟩
    ·obtain ⟨_,_,_,_,o,_,_,e,ex,_⟩:=I.hok p _ hk
     exact ⟨o,e,ex⟩
   obtain ⟨o,e,ex⟩:=z
   refine ⟨⟨o,e,ex.1⟩,fun a e2=>?_⟩
   cases e2
   exact ⟨o,e,ex.2.1⟩
  ·obtain ⟨o,_,_,_,e,ex,_⟩:=I.hok p _ hk
   refine ⟨⟨o,e,ex.1⟩,fun a e2=>?_⟩
   cases e2
   exact ⟨o,e,ex.2.1⟩
 | _=>exact False.elim ty
def tBM (K:PySem.W.Frag) (T:String) (r:V->List V->Hp->VK->Prop) (to:TE) (t:TA):TE:=fun σ H Q=>to σ H fun x H1=>tyV K T x H1∧t σ H1 fun xs H2=>r x xs H2 Q
variable {o e:Expr}{es:List Expr}{to:TE}{t:TA}{name:Str}{apos cpos:Pos}{T id:String}{r:V->List V->Hp->VK->Prop}
theorem pe_bm (pa:PlainAttrs T) (slot:Slot T name id) (hty:typeOf (.builtin id)=pure (.type "method_descriptor")) (hm:MtR X id r) (ho:PE X o to) (ha:PA X (e::es) t)
  (hbase:attributeBase o name X.env (eval o X.env)=eval o X.env:=by rfl)
  (hfew:((backTo cpos (starEach (e::es) X.env)).all (fun x=>!x.1) && (backToKw cpos (keywordEach [] X.env)).all (fun x=>x.1.isSome)
   && decide ((e::es).length+([]:List Keyword).length+(if ([]:List Keyword).isEmpty then 0 else 1) < 30))=true:=by rfl)
  (hline:(apos.endLine == cpos.line)=true:=by rfl) (hs:starEach (e::es) X.env=(false,eval e X.env)::starEach es X.env:=by rfl) (hplain:(backTo cpos (starEach es X.env)).any (·.1)=false:=by rfl) :
  PE X (.Call (.Attribute o name apos) (e::es) [] cpos) (tBM X.K T r to t):=by
 intro pins s σ H Q I h
 refine wpAny_Call_method_late hbase hfew hline rfl (thn (ho pins s σ H _ I h) fun v s1 ⟨x,H1,I1,r1,ty,q1⟩=>?_)
 obtain ⟨h1,h2⟩:=tyV_is I1 r1 ty
 refine ⟨T,id,pa,slot,hty,h1,h2,?_⟩
 have hA:=ha cpos pins s1 σ H1 _ I1 q1
 rw [hs] at hA ⊢
 refine Calls.callWith_builtin (by show (false || (backTo cpos (starEach es X.env)).any (·.1))=false;rw [hplain]<;>rfl) (Calls.evalArgs_plain ?_)
 exact thn hA fun us s2 ⟨vs,H2,I2,r2,q2⟩=>hm pins s2 σ H2 x vs v us Q I2 r1 r2 q2
/- xs.append(e),list.index on a module's tuple .. are MtR facts of 06m -/
end
end L2
namespace L2
open PySem PySem.Spec PyProof.Rows
def MtM (X:Cx) (id:String) (r:V->List V->Hp->VK->Prop):Prop:=
 ∀ (pins:List (Addr × Obj)) (s:Shared) (σ:St) (H:Hp) (x:V) (xs:List V) (v:Value) (us:List Value) (Q:VK),Inv X pins σ H s->RelV x v->Vals xs us->r x xs H Q →
  wpAny (model X.prog X.w) X.A (call (.builtin id) (v::us)) (EP X pins σ Q) X.xe s
theorem Vals.one:∀ {x:V}{us:List Value},Vals [x] us->∃ u,us=[u]∧RelV x u
 | _,_,.cons r .nil=>⟨_,rfl,r⟩
theorem Vals.rep {xs:List V}{us:List Value}(h:Vals xs us):∀ k:Nat,Vals (List.replicate k xs).flatten (List.replicate k us).flatten
 | 0=>.nil
 | k+1=>by
  rw [List.replicate_succ,List.replicate_succ,List.flatten_cons,List.flatten_cons]
  exact Vals.append h (Vals.rep h k)
theorem foldl_rep (its:List Value):∀ (k:Nat) (acc:List Value),
  List.foldl (fun x1 x2=>x1++x2) acc.toArray (List.replicate k its.toArray)=(acc++(List.replicate k its).flatten).toArray
 | 0,acc=>by simp
 | k+1,acc=>by
  have e:acc.toArray++its.toArray=(acc++its).toArray:=by simp
  have e2:(acc++its)++(List.replicate k its).flatten=acc++(List.replicate (k+1) its).flatten:=by
   rw [List.replicate_succ,List.flatten_cons,List.append_assoc]
  rw [←e2,←foldl_rep its k (acc++its),←e,List.replicate_succ,List.foldl_cons]
section
variable {X:Cx}{pins:List (Addr × Obj)}{σ:St}{H:Hp}{s:Shared}{l b:Addr}{xs ys zs:List V}
theorem Inv.lset {its its':List Value}{n:Nat}{f:Array Value->Array Value}{t':Nat}(I:Inv X pins σ H s) (hH:H l=some (.lst xs))
  (e:s.heap.get? l=some { cls:=.type "list",data:=.seq its.toArray n }) (hf:f its.toArray=its'.toArray) (hv:Vals ys its') (hz:ys.length≤sizeLine) :
  Inv X pins σ (upd H l (.lst ys)) { s with heap:=s.heap.update l (Obj.mapSeq f),toks:=t' }:=by
 have q:=PySem.IsL.update e f
 rw [hf] at q
 refine I.write (x:=l) (e:=l) (by rw [hH];exact trivial) (.inl rfl) (fun b' u hb hu=>(Heap.get?_update_other s.heap (Obj.mapSeq f) (Ne.symm hb)).trans hu) ⟨_,q⟩ ?_
 exact ⟨hz,its',_,hv,q⟩
theorem Inv.lnew {its:List Value}{t':Nat}(I:Inv X pins σ H s) (hv:Vals ys its) (hz:ys.length≤sizeLine) :
  Inv X pins σ (upd H s.heap.objs.size (.lst ys)) { s with heap:=s.heap.push { cls:=.type "list",data:=.seq its.toArray },toks:=t' }:=
 I.laid (fun _ _ q=>Heap.get?_push_of_some _ q) (Nat.le_refl _) ⟨hz,its,0,hv,Heap.get?_push_size _ rfl⟩
theorem Inv.fresh (I:Inv X pins σ H s):H s.heap.objs.size=none:=I.hok.fresh (Nat.le_refl _)
theorem Inv.lstM (I:Inv X pins σ H s) (hH:H l=some (.lst xs)):xs.length≤sizeLine∧∃ (its:List Value) (n:Nat),Vals xs its∧xs.length=its.length∧s.heap.get? l=some { cls:=.type "list",data:=.seq its.toArray n }:=by
 obtain ⟨z,its,n,r,e⟩:=I.hok l _ hH
 exact ⟨z,its,n,r,r.length,e⟩
theorem notLongL {n:Nat}(h:n≤sizeLine):Builtin.List.listTooLong n=false:=by
 unfold Builtin.List.listTooLong
 exact decide_eq_false (by omega)
end
section
variable {X:Cx}
def rAppend:V->List V->Hp->VK->Prop:=fun x vs H Q=>∃ l xs y,x=.ref l∧vs=[y]∧H l=some (.lst xs)∧xs.length < sizeLine∧Q .non (upd H l (.lst (xs++[y])))
theorem mt_append:MtM X "list.append" rAppend:=by
 intro pins s σ H x vs v us Q I rx rv h
 obtain ⟨l,xs,y,rfl,rfl,hH,hz,q⟩:=h
 cases rx
 obtain ⟨u,rfl,ru⟩:=rv.one
 obtain ⟨z,its,n,r,hl,e⟩:=I.lstM hH
 refine call_meets F.slot_list_append ⟨_,e,rfl⟩ F.entry_list_append (F.args_list_append_2 _ _) (PySem.list_append l its.toArray n u (by rw [List.size_toArray];omega)) ⟨e,?_⟩
 refine ⟨.non,_,I.lset (its':=its++[u]) hH e (by simp) (r.append (.cons ru .nil)) ?_,rfl,q⟩
 rw [List.length_append,List.length_singleton]
 omega
def rExtend:V->List V->Hp->VK->Prop:=fun x vs H Q=>∃ l b xs zs,x=.ref l∧vs=[.ref b]∧H l=some (.lst xs)∧H b=some (.lst zs)∧xs.length+zs.length≤sizeLine∧Q .non (upd H l (.lst (xs++zs)))
theorem mt_extend:MtM X "list.extend" rExtend:=by
 intro pins s σ H x vs v us Q I rx rv h
 obtain ⟨l,b,xs,zs,rfl,rfl,hH,hB,hz,q⟩:=h
 cases rx
 obtain ⟨u,rfl,ru⟩:=rv.one
 cases ru
 obtain ⟨z,its,n,r,hl,e⟩:=I.lstM hH
 obtain ⟨z2,its2,n2,r2,hl2,e2⟩:=I.lstM hB
 have hsz:its.toArray.size+its2.toArray.size≤sizeLine:=by rw [List.size_toArray,List.size_toArray];omega
 have hlong:¬ (!its.toArray.isEmpty && Builtin.List.listTooLong (its.toArray.size+its2.toArray.size))=true:=by
  rw [notLongL hsz,Bool.and_false]
  exact Bool.false_ne_true
 refine call_meets F.slot_list_extend ⟨_,e,rfl⟩ F.entry_list_extend (F.args_list_extend_2 _ _)
  (AutoSeq1.list_extend_list_list_0 l its.toArray n b its2.toArray n2 hlong (by rw [List.size_toArray];omega) (by omega)) ⟨e,e2,?_⟩
 refine ⟨.non,_,I.lset (its':=its++its2) hH e (by simp) (r.append r2) ?_,rfl,q⟩
 rw [List.length_append]
 omega
def rCat:R2:=fun x y H Q=>∃ l b xs zs,x=.ref l∧y=.ref b∧H l=some (.lst xs)∧H b=some (.lst zs)∧xs.length+zs.length≤sizeLine∧∀ p,H p=none->Q (.ref p) (upd H p (.lst (xs++zs)))
theorem op_cat:OpR X (binaryOp .Add) rCat:=by
 intro pins s σ H x y v u Q I rx ry h
 obtain ⟨l,b,xs,zs,rfl,rfl,hH,hB,hz,q⟩:=h
 cases rx
 cases ry
 obtain ⟨z,its,n,r,hl,e⟩:=I.lstM hH
 obtain ⟨z2,its2,n2,r2,hl2,e2⟩:=I.lstM hB
 refine PySem.P.add_list e e2 ?_ (by rw [List.size_toArray,List.size_toArray];omega)
 have ea:its.toArray++its2.toArray=(its++its2).toArray:=by simp
 rw [ea]
 exact ⟨.ref _,_,I.lnew (t':=s.toks) (r.append r2) (by rw [List.length_append];omega),rfl,q _ I.fresh⟩
def rRep:R2:=fun x y H Q=>∃ l k xs,x=.ref l∧y=.int k∧H l=some (.lst xs)∧-(2 ^ 63)≤k∧k < 2 ^ 63∧xs.length * k.toNat≤sizeLine ∧
 ∀ p,H p=none->Q (.ref p) (upd H p (.lst (List.replicate k.toNat xs).flatten))
theorem len_rep {α:Type}(xs:List α) (k:Nat):(List.replicate k xs).flatten.length=k * xs.length:=by
 induction k with
 | zero=>simp
 | succ k ih=>rw [List.replicate_succ,List.flatten_cons,List.length_append,ih,Nat.succ_mul,Nat.add_comm]
theorem op_rep:OpR X (binaryOp .Mult) rRep:=by
 intro pins s σ H x y v u Q I rx ry h
 obtain ⟨l,k,xs,rfl,rfl,hH,h1,h2,hz,q⟩:=h
 cases rx
 obtain ⟨t,rfl⟩:=ry
 obtain ⟨z,its,n,r,hl,e⟩:=I.lstM hH
 have hlen:its.toArray.size * k.toNat≤sizeLine:=by rw [List.size_toArray,←hl];exact hz
 have hcap:¬ its.toArray.size * k.toNat > (2 ^ 63 - 1) / 8:=by
  have:(sizeLine:Nat)≤(2 ^ 63 - 1) / 8:=by decide
  omega
 have hfit:¬ (!Builtin.List.listFitsIndex k)=true:=by
  rw [fitsIndex_both h1 h2]
  exact Bool.false_ne_true
 have hlong:¬ Builtin.List.listTooLong (its.toArray.size * k.toNat)=true:=by
  rw [notLongL hlen]
  exact Bool.false_ne_true
 have hnew:List.foldl (fun x1 x2=>x1++x2) #[] (List.replicate (if its.toArray.isEmpty=true then 0 else k.toNat) its.toArray)=(List.replicate k.toNat its).flatten.toArray:=by
  have f0:∀ m:Nat,List.foldl (fun x1 x2=>x1++x2) #[] (List.replicate m its.toArray)=(List.replicate m its).flatten.toArray:=fun m=>by
   have:=foldl_rep its m []
   rw [List.nil_append] at this
   exact this
  rw [f0]
  cases its with
  | nil=>simp
  | cons a r'=>rw [if_neg (by simp)]
 refine wpAny_binaryOp_repeat_ref (T := "list") (U := "int") (by decide) ⟨_,e,rfl⟩ (fun s'=>typeIs_int s' k t) noFill_list_mul F.fills_int_mul F.slot_int_rmul repeat_list F.slot_int_index.lookup
  (call_meets F.slot_int_rmul (typeIs_int s k t) F.entry_int_rmul (F.args_int_rmul_2 _ _) (int___rmul___int_list k t l its.toArray n)
   ⟨e,rfl,⟨_,e,rfl⟩,call_meets F.slot_list_mul ⟨_,e,rfl⟩ F.entry_list_mul (F.args_list_mul_2 _ _) (AutoListH.list___mul___list_int_3 l its.toArray n k t hfit hcap hlong) ⟨e,?_⟩⟩)
 rw [hnew]
 exact ⟨.ref _,_,I.lnew (t':=s.toks) (r.rep k.toNat) (by rw [len_rep,Nat.mul_comm];exact hz),rfl,q _ I.fresh⟩
end
section
variable {prog:Program}{w:World}{A:Around}{E:Value->Shared->Prop}{s:Shared}
set_option maxRecDepth 100000 in
end
section
variable {X:Cx}
end
end L2
namespace Att
open PySem PySem.W PySem.Calls PyProof.Rows
theorem ints_of_wellAll {P:Params}{h:Heap}:∀ (ns:List Int) (vs:List Value),WellAll P h vs (ns.map WData.int)->IntsAre vs ns:=by
 intro ns
 induction ns with
 | nil=>
  intro vs w
  rw [List.map_nil] at w
  cases w
  exact .nil
 | cons n ns ih=>
  intro vs w
  rw [List.map_cons] at w
  cases w with
  | cons a b=>
   cases a
   exact .cons _ _ (ih _ b)
theorem script_of {l:OpenLaw}{n:Nat}(hn:l.most=some n){P:Params}{h:Heap}{args:List WData}{vals:List Value}
  (hpre:l.row.toRowW.claim.pre args=true) (hwl:WellAll P h vals args) :
  ∃ a vs ns,vals=[Value.ref a]∧args=[WData.list (ns.map WData.int)]∧h.get? a=some { cls:=.type "list",data:=.seq vs.toArray }∧IntsAre vs ns∧ns.length≤n:=by
 have hsh:WShape.hasAll [] args [.list .int]=true:=(pre_splitW hpre).1
 have hc:l.pre.holds [] { args:=args }=true:=(pre_splitW hpre).2
 obtain ⟨d,r,rfl,h1,h2⟩:=hasAllW_cons hsh
 obtain rfl:=hasAllW_nil h2
 obtain ⟨xs,rfl,h3⟩:=hasW_list h1
 obtain ⟨ns,rfl⟩:=items_int h3
 have hlen:ns.length≤n:=by
  unfold OpenLaw.pre at hc
  have h4:(WTm.not (.lt (.lit (.int (n:Int))) (.len (.arg 0)))).holds [] { args:=[.list (ns.map .int)] }=true:=by
   have h4:=(holds_andW hc).1
   rw [hn] at h4
   exact h4
  have h5:=condW_of h4 (w_not (w_lt w_lit (w_len_list (w_arg rfl))))
  rw [List.length_map] at h5
  refine Nat.le_of_not_lt fun q=>?_
  have q':(n:Int) < ((ns.length:Nat):Int):=by omega
  first
   | (rw [decide_eq_true q'] at h5;exact absurd h5 (by decide))
   | (simp at h5;omega)
 cases hwl with
 | cons w1 w2=>
  cases w2
  cases w1 with
  | list ho hall=>exact ⟨_,_,ns,rfl,rfl,ho,ints_of_wellAll ns _ hall,hlen⟩
theorem post_true (l:OpenLaw) (args:List WData):l.row.toRowW.claim.post args (.bool true) args=true:=
 postW_of (r:=l.row.toRowW) (X:=(true == true))
  (show WShape.has [] (.bool true) .bool=true by first|rfl|decide|simp [WShape.has,WShape.arms,WShape.armsAll])
  (show (WTm.eq .res (.lit (.bool true))).value [] { args:=args,res:=some (.bool true),after:=args }=some (.bool (true == true)) from w_eq_bool (w_res rfl) w_lit) rfl
theorem attach_call {l:OpenLaw}{n:Nat}{q:Program}{loose:List Str}{XP:(Str->Option Value)->Heap->Prop}{YP:World->Heap->Prop}{d:DefRec}
  (hn:l.most=some n) (hdf:d.params.defaults=[])
  (call:∀ (w:World) (s₀ s₁:Shared) (mg mb:Str->Option Value) (fa:Addr) (o:Obj) (pm cd doc:Value) (a:Addr) (vs:List Value) (ns:List Int),
   Ground q loose [] XP w s₀ mg mb s₁.heap->YP w s₁.heap →
   s₁.heap.get? fa=some o->o.data=.func (docDef d.name d.params d.body d.scope pm cd doc)->s₁.heap.CodeRec cd d.name->mg d.name=some (.ref fa) →
   s₁.heap.get? a=some { cls:=.type "list",data:=.seq vs.toArray }->IntsAre vs ns->ns.length≤n->s₁.gens=#[] →
   codeAny (model l.prog w) callerA (.call (.ref fa) ⟨[.ref a],[]⟩) (fun r s'=>r=.ok (.ret (.bool true))∧OldK s₁.heap s'.heap∧s'.os=s₁.os∧AllBare s'.gens) s₁) :
  WalkO q loose XP YP l.row.toRowW d [] (fun f vs=>PySem.call f vs):=by
 intro w s₀ s₁ mg mb G Y fa o pm cd doc dV kV ho hd hcd hD hmg hg args vals as hpre hlay hrd hwl hlo
 obtain rfl:dV=.none:=Dflts.none hD hdf
 obtain rfl:kV=.none:=Dflts.noKw hD
 obtain ⟨a,vs,ns,rfl,rfl,hobj,hints,hlen⟩:=script_of hn hpre hwl
 refine enter_call (codeAny_mono (call w s₀ s₁ mg mb fa o pm cd doc a vs ns G Y ho (fd_plain hd) hcd hmg hobj hints hlen hg) fun r s' hq=>?_)
 obtain ⟨rfl,h2,h3,h4⟩:=hq
 exact ⟨.inl ⟨.bool true,.bool true,[],rfl,fun _=>rfl,.bool true,post_true l _,fun _=>⟨List.Pairwise.nil,fun _ hm=>(nomatch hm)⟩⟩,h2,h3,h4⟩
section
variable {prog:Program}{w:World}{A:Around}{E:Value->Shared->Prop}{s:Shared}{K:Frag}
def ledger (h:Heap) (L d:Addr):List (Addr × Obj):=(List.range h.objs.size).filterMap fun a=>if a=L∨a=d then none else (h.get? a).map fun o=>(a,o)
end
end Att
namespace L2
open PySem PySem.Spec PyProof.Rows
theorem vals_ints:∀ {vs:List Value}{ns:List Int},IntsAre vs ns->Vals (ns.map V.int) vs
 | _,_,.nil=>.nil
 | _,_,.cons n t h=>.cons ⟨t,rfl⟩ (vals_ints h)
def Only (H:Hp):Prop:=∀ b,H b=none∨∃ o xs,H b=some (.frz o (.lst xs))
theorem law_call {P:Program}{w:World}{K:PySem.W.Frag}{mg mb:Str->Option Value}{CX:CXT}{k:Nat}{fa a:Addr}{fd:FuncData}{x:Str}{sp:Sp}{s₁:Shared}{vs:List Value}{ns:List Int}
  (KX:K.In s₁.heap) (hns:s₁.heap.Ns mainGlobals mg) (hb:s₁.heap.Ns builtinsNs mb) (hbb:∀ x:Str,x ≠ "__name__" → mb x=bootBuiltins x) (hlim:s₁.heap.NoLimit) (hg:s₁.gens=#[])
  (ha:s₁.heap.get? a=some { cls:=.type "list",data:=.seq vs.toArray }) (hi:IntsAre vs ns) (hl:ns.length≤sizeLine) (hr:Room k callerA)
  (F:∀ base:Heap,K.In base->base.Ns mainGlobals mg->FnOk P w K mg base CX k fa fd [x] sp) (hbind:∀ (s:Shared) (u:Value),BindsTo s fd ⟨[u],[]⟩ [(x,u)])
  (hsp:∀ H:Hp,Only H->SqL K H a (ns.map V.int)->sp [.ref a] H (fun v _=>v=.bl true) fun _ _ _=>False)
  (hCX:∀ H e s',CX [] H s₁ (fun _ _ _=>False) e s'->False) :
  codeAny (model P w) callerA (.call (.ref fa) ⟨[.ref a],[]⟩) (fun r s'=>r=.ok (.ret (.bool true))∧OldK s₁.heap s'.heap∧s'.os=s₁.os∧AllBare s'.gens) s₁:=by
 have rv:=vals_ints hi
 have lenV:=hi.length
 have core:∀ H:Hp,Only H->SqL K H a (ns.map V.int)->HOk P w H s₁.heap->(∀ b,H b ≠ none->b=a)->(H a ≠ none->K.lookup a=none) →
   codeAny (model P w) callerA (.call (.ref fa) ⟨[.ref a],[]⟩) (fun r s'=>r=.ok (.ret (.bool true))∧OldK s₁.heap s'.heap∧s'.os=s₁.os∧AllBare s'.gens) s₁:=by
  intro H hO hS hok hA hK
  have base_of:∀ {b:Addr} {o:Obj},s₁.heap.get? b=some o->H b=none->(hidT s₁.heap H).get? b=some o:=fun e n=>hidT_get e n
  have noA:∀ {b:Addr} {o:Obj} {es:Array DictEntry} {ep:Nat},s₁.heap.get? b=some o->o.data=.dict es ep->H b=none:=fun {b o es ep} e d=>by
   cases q:H b with
   | none=>rfl
   | some u=>
    have e':b=a:=hA b (by rw [q];simp)
    subst e'
    rw [ha] at e;cases e
    have d':Data.seq vs.toArray _=Data.dict es ep:=d
    cases d'
  have nsK:∀ {b:Addr} {m:Str->Option Value},s₁.heap.Ns b m->(hidT s₁.heap H).Ns b m:=fun {b m} ⟨o,es,ep,e,d,r⟩=>⟨o,es,ep,base_of e (noA e d),d,r⟩
  have hKb:K.In (hidT s₁.heap H):=fun b o e=>base_of (KX b o e) (by
   cases q:H b with
   | none=>rfl
   | some u=>
    have e':b=a:=hA b (by rw [q];simp)
    subst e'
    rw [hK (by rw [q];simp)] at e;cases e)
  have hM:Mod K mg (hidT s₁.heap H):=⟨hKb,nsK hns,⟨mb,nsK hb,hbb⟩,let ⟨mc,h1,h2⟩:=hlim;⟨mc,nsK h1,h2⟩⟩
  have e0:Env0 P w K mg (hidT s₁.heap H) callerA [] s₁ H:=⟨rfl,hM,fun b o e=>of_hidT e,Nat.le_of_eq (hidT_size _ _),trivial,fun b hb=>absurd (show b∈([]:List Addr) from hb) (by simp),hok,.of_eq hg⟩
  refine codeAny_mono ((F _ hKb (nsK hns)).run callerA [] s₁ H ⟨[.ref a],[]⟩ [.ref a] [.ref a] _ _ hr e0 (hbind s₁ (.ref a)) (.cons rfl .nil) (hsp H hO hS)) fun r s' h=>?_
  cases r with
  | error e=>exact (hCX H e s' h).elim
  | ok fl=>
   cases fl with
   | next=>exact False.elim h
   | brk=>exact False.elim h
   | cont=>exact False.elim h
   | ret u=>
    obtain ⟨v,H',os,bare,un,hok',r',q⟩:=h
    have q':v=.bl true:=q
    subst q'
    obtain rfl:u=Value.bool true:=r'
    refine ⟨rfl,OldK.of_keep fun b o e=>?_,os,bare⟩
    cases q:H b with
    | none=>exact un.keep b o e q (by intro z;exact absurd (show b∈([]:List Addr) from z) (by simp)) (by simp)
    | some u=>
     rcases hO b with z|⟨ob,xs,z⟩
     ·rw [q] at z;cases z
     ·have z2:=un.frzs b ob _ z
      obtain ⟨e1,_⟩:=hok b _ z
      obtain ⟨e2,_⟩:=hok' b _ z2
      rw [e] at e1;cases e1
      exact e2
 cases hk:K.lookup a with
 | some o=>
  have e:=KX a o hk
  rw [ha] at e
  cases e
  refine core (fun _=>none) (fun _=>.inl rfl) (.inr ⟨_,vs.toArray,_,hk,rfl,rfl,rfl,by rw [List.size_toArray,lenV];exact hl,by simpa using rv⟩) (fun b u z=>by have z':(none:Option HO)=some u:=z;cases z') (fun b z=>absurd rfl z) fun z=>absurd rfl z
 | none=>
  refine core (fun b=>if b=a then some (.frz { cls:=.type "list",data:=.seq vs.toArray } (.lst (ns.map V.int))) else none) (fun b=>?_) (.inl (.inr ⟨{ cls:=.type "list",data:=.seq vs.toArray },if_pos rfl⟩)) (fun b u z=>?_) (fun b z=>?_) fun _=>hk
  ·by_cases hb:b=a
   ·exact .inr ⟨_,_,if_pos hb⟩
   ·exact .inl (if_neg hb)
  ·by_cases hb:b=a
   ·have z':=(if_pos hb).symm.trans z
    cases z'
    subst hb
    exact ⟨ha,by rw [List.length_map];exact hl,vs,_,rv,ha⟩
   ·have z':=(if_neg hb).symm.trans z
    cases z'
  ·by_cases hb:b=a
   ·exact hb
   ·exact absurd (if_neg hb) z
end L2
namespace L2
open PySem PySem.Spec PyProof.Rows
abbrev KOf {K:PySem.W.Frag} {h:Heap} (_:K.In h):PySem.W.Frag:=K
theorem walk_of {l:PySem.W.OpenLaw}{n k:Nat}{q:Program}{loose:List Str}{XP:(Str->Option Value)->Heap->Prop}{YP:World->Heap->Prop}{d:DefRec}{K:Params->PySem.W.Frag}{CX:World->CXT}{sp:World->Sp}{x:Str}
  (hn:l.most=some n) (hn2:n≤sizeLine) (hdf:d.params.defaults=[]) (hr:Room k callerA)
  (hY:∀ (w:World) (h:Heap),YP w h->(K w.params).In h)
  (F:∀ (w:World) (mg:Str->Option Value) (fa:Addr) (h:Heap),(K w.params).In h->h.Ns mainGlobals mg->mg d.name=some (.ref fa) →
   ∃ fd:FuncData,(∀ (s:Shared) (u:Value),BindsTo s fd ⟨[u],[]⟩ [(x,u)]) ∧
    ∀ base:Heap,(K w.params).In base->base.Ns mainGlobals mg->FnOk l.prog w (K w.params) mg base (CX w) k fa fd [x] (sp w))
  (hsp:∀ (w:World) (H:Hp) (a:Addr) (ns:List Int),ns.length≤n->Only H->SqL (K w.params) H a (ns.map V.int)->sp w [.ref a] H (fun v _=>v=.bl true) fun _ _ _=>False)
  (hCX:∀ (w:World) (H:Hp) (s:Shared) (e:Value) (s':Shared),CX w [] H s (fun _ _ _=>False) e s'->False) :
  PySem.W.WalkO q loose XP YP l.row.toRowW d [] (fun f vs=>PySem.call f vs):=by
 refine Att.attach_call hn hdf fun w s₀ s₁ mg mb fa o pm cd doc a vs ns G Y ho hd hcd hmg hobj hints hlen hg=>?_
 have KX:=hY w _ Y
 obtain ⟨fd,hb,hF⟩:=F w mg fa _ KX G.T.g hmg
 exact law_call KX G.T.g G.T.b G.T.builtins G.T.nolimit hg hobj hints (Nat.le_trans hlen hn2) hr hF hb (fun H hO hS=>hsp w H a ns hlen hO hS) fun H e s'=>hCX w H s₁ e s'
end L2
/- THE LAST THEOREM (shape;LID,My.* are yours):
   My.Adr: a structure of the addresses that your layer names (classes,functions);My.Txt K t: a structure (Prop) of the equations over K;
   My.txt_mk:{K} {implicit addresses ..} (e1:nsIn K mainGlobals "law"=some (some (.ref f))) (e2:K.lookup f=some ⟨oc,od,.func (fnOf "law" "law" params body scope dV kV doc pm an cdv ct),sl⟩) (e3:codeIn K cdv "law"=true) ..:∃ t,My.Txt K t
set_option maxRecDepth 100000 in
set_option maxHeartbeats 0 in
theorem PySem.Challenge.cw_LID_holds : PySem.Challenge.rw_LID.Holds := by
 w_on;o_law;k_head;(case hw=>w_witness2)
 k_fill
 refine L2.walk_of (l:=PySem.Challenge.rw_LID) (n:=63) (k:=40) (x := "script") (CX:=fun w=>..) (sp:=fun _=>My.sp_law) rfl (by decide) rfl ⟨rfl,by decide,by decide⟩ (fun w h Y=>PySem.W.kIn_of Y) ?F ?S ?C
 case F=>
  intro w mg fa h KX G hmg
  have T:∃ t,My.Txt (L2.KOf KX) t:=by
   dsimp only [L2.KOf]                          -- K must stand as «<heap const> w.params» for k_is
   refine' My.txt_mk ?e1 ?e2 ?e3 ..
   (case e1=>PySem.W.k_is)                    -- in the order: a name -> its address -> its object -> its parts
   (case e2=>PySem.W.k_is)
   ..
  obtain ⟨t,T⟩:=T
  have e0:=hmg.symm.trans (PySem.W.mg_of KX G T.law)
  cases e0                                       -- fa is the law's own address
  exact ⟨_,fun s u=>.of_eq rfl,fun base kb nb=>My.law_fn T kb nb⟩     -- if «.of_eq rfl» comes too early: refine' ⟨_,?b,fun base kb nb=>My.law_fn T kb nb⟩;exact fun s u=>.of_eq rfl
 case S=>exact fun w H a ns hl hO hS=>..
 case C=>exact ..
(the tactic k_is has no namespace: write k_is) -/
namespace L2
open PySem PySem.Spec PyProof.Rows
def inClass (s:Stmt) (j:Nat):Stmt:=match s with
 | .ClassDef _ _ _ body _ _ _ _ _ _ _=>body.getD j (.Pass ⟨0,0,0,0⟩)
 | _=>.Pass ⟨0,0,0,0⟩
def defArgs (s:Stmt):Arguments:=match s with
 | .FunctionDef _ a _ _ _ _ _ _ _ _=>a
 | _=>{ posonlyargs:=[],args:=[],vararg:=none,kwonlyargs:=[],kw_defaults:=[],kwarg:=none,defaults:=[] }
def defBody (s:Stmt):List Stmt:=match s with
 | .FunctionDef _ _ b _ _ _ _ _ _ _=>b
 | _=>[]
def defScope (s:Stmt):Scope:=match s with
 | .FunctionDef _ _ _ _ _ _ sc _ _ _=>sc
 | _=>{ kind:=.function,names:=[],isGenerator:=false,isCoroutine:=false }
abbrev CX0:CXT:=fun _ _ _ _ _ _=>False
abbrev E0:XK:=fun _ _ _=>False
theorem pass0 {X:Cx}:Passes CX0 X E0:=fun _ _ _ _ _ _ _ h=>h.elim
structure Fun (K:PySem.W.Frag) (x qual:Str) (st:Stmt) (f:Addr) (fd:FuncData):Prop where
 ex:∃ (oc:Value) (od:Option Addr) (kV doc pm:Value) (an:Option Addr) (cdv ct:Value) (osl:Array (Option Value)),
  fd=PySem.W.fnOf x qual (defArgs st) (defBody st) (defScope st) .none kV doc pm an cdv ct∧K.lookup f=some ⟨oc,od,.func fd,osl⟩∧PySem.W.codeIn K cdv qual=true
 kp:PySem.W.keepIn K (.ref f)=true
section
variable {P:Program}{w:World}{K:PySem.W.Frag}{mg:Str->Option Value}{base:Heap}
theorem Fun.ok {x qual:Str}{st:Stmt}{f:Addr}{fd:FuncData}{N ps:List Str}{k:Nat}{sp:Sp}(F:Fun K x qual st f fd) (S:FnScope N ps (defScope st)) (len:∀ vs H Q E,sp vs H Q E->vs.length=ps.length)
  (hbody:∀ (cdv:Value) (A:Around) (outer:List Env) (s:Shared) (H:Hp) (vs:List V) (Q:VK) (E:XK),Room k (A.deeper (envOfC qual (defScope st) s.heap.objs.size f cdv))->sp vs H Q E →
   ∃ t,PSs (cxOf CX0 P w K mg base N qual (defScope st) f cdv A outer s H E).nox (defBody st) t∧t { nx:=fun _ H'=>Q .non H',rt:=Q } (start N vs) H):FnOk P w K mg base CX0 (k+1) f fd ps sp:=by
 obtain ⟨oc,od,kV,doc,pm,an,cdv,ct,osl,rfl,lk,hcd⟩:=F.ex
 refine fn_of lk hcd S len fun A outer s H vs Q E hr hsp=>?_
 obtain ⟨t,h,q⟩:=hbody cdv A outer s H vs Q E hr hsp
 exact ⟨t,h.nox,q⟩
theorem Fun.binds {x qual:Str}{st:Stmt}{f:Addr}{fd:FuncData}{ps:List Str}(F:Fun K x qual st f fd)
  (h:∀ (kV doc pm:Value) (an:Option Addr) (cdv ct:Value) (us:List Value),us.length=ps.length->bindArgs (PySem.W.fnOf x qual (defArgs st) (defBody st) (defScope st) .none kV doc pm an cdv ct) ⟨us,[]⟩=pure (ps.zip us)):Binds K fd ps []:=by
 obtain ⟨oc,od,kV,doc,pm,an,cdv,ct,osl,rfl,lk,hcd⟩:=F.ex
 exact .all (h kV doc pm an cdv ct)
theorem fun_mk {x qual:Str}{st:Stmt}{f:Addr}{oc:Value}{od an:Option Addr}{osl:Array (Option Value)}{kV doc pm cdv ct:Value}(l:K.lookup f=some ⟨oc,od,.func (PySem.W.fnOf x qual (defArgs st) (defBody st) (defScope st) .none kV doc pm an cdv ct),osl⟩)
  (c:PySem.W.codeIn K cdv qual=true) (k:PySem.W.keepIn K (.ref f)=true):Fun K x qual st f (PySem.W.fnOf x qual (defArgs st) (defBody st) (defScope st) .none kV doc pm an cdv ct):=⟨⟨oc,od,kV,doc,pm,an,cdv,ct,osl,rfl,l,c⟩,k⟩
end
theorem small1000 {n:Nat}(h:n≤1000):n < sizeLine:=Nat.lt_of_le_of_lt h (by decide)
section
variable {X:Cx}
theorem pv (i:Nat){x:Str}{pos:Pos}(hN:X.N[i]? = some x:=by rfl) (hv:Vis X.env.scope x:=by first|exact Or.inl rfl|exact Or.inr (Or.inl rfl)|exact Or.inr (Or.inr rfl)) (hd:(x == ("__debug__":Str))=false:=by decide)
  (hcd:(x == ("__classdict__":Str))=false:=by decide):PE X (.Name x pos) (tVar i):=pe_var hN hv hd hcd
end
theorem ite2 {c A B:Prop} [Decidable c] (h1:c->A) (h2:¬ c->B):if c then A else B:=by
 by_cases h:c
 ·rw [if_pos h]
  exact h1 h
 ·rw [if_neg h]
  exact h2 h
def Same (H H':Hp):Prop:=∀ b o,H b=some o->H' b=some o
theorem Same.refl (H:Hp):Same H H:=fun _ _ h=>h
theorem Same.trans {H H1 H2:Hp}(a:Same H H1) (b:Same H1 H2):Same H H2:=fun c o h=>b c o (a c o h)
theorem Same.free {H H':Hp}(e:Same H H'){l:Addr}(h:H' l=Option.none):H l=Option.none:=by
 cases q:H l with
 | none=>rfl
 | some o=>
  rw [e l o q] at h
  cases h
theorem Same.seq {K:PySem.W.Frag}{H H':Hp}{a:Addr}{xs:List V}(e:Same H H') (h:SqL K H a xs):SqL K H' a xs:=by
 rcases h with (h|⟨o,h⟩)|h
 ·exact .inl (.inl (e _ _ h))
 ·exact .inl (.inr ⟨o,e _ _ h⟩)
 ·exact .inr h
end L2
set_option Elab.async false
set_option linter.all false
set_option maxRecDepth 100000
set_option maxHeartbeats 4000000
set_option Elab.async false
set_option linter.all false
set_option maxRecDepth 100000
namespace L2
open PySem PySem.Spec PyProof.Rows
section
variable {κ:Type} [DecidableEq κ]
def valV (kvs:List (κ × V)) (k:κ):Option V:=(kvs.find? fun kv=>decide (kv.1=k)).map (·.2)
def putK (kvs:List (κ × V)) (k:κ) (v:V):List (κ × V):=
 if (kvs.any fun kv=>decide (kv.1=k))=true then kvs.map (fun kv=>if kv.1=k then (kv.1,v) else kv) else kvs++[(k,v)]
theorem valV_pos {p:κ × V}{r:List (κ × V)}{k:κ}(e:p.1=k):valV (p::r) k=some p.2:=by simp [valV,List.find?_cons,e]
theorem valV_neg {p:κ × V}{r:List (κ × V)}{k:κ}(e:¬ p.1=k):valV (p::r) k=valV r k:=by simp [valV,List.find?_cons,e]
theorem valV_any (k:κ):∀ kvs:List (κ × V),(kvs.any fun kv=>decide (kv.1=k))=(valV kvs k).isSome
 | []=>rfl
 | p::r=>by
  rw [List.any_cons]
  by_cases e:p.1=k
  ·simp only [valV_pos e,decide_eq_true e,Bool.true_or,Option.isSome_some]
  ·rw [valV_neg e,decide_eq_false e,Bool.false_or];exact valV_any k r
theorem length_putK (kvs:List (κ × V)) (k:κ) (v:V):(putK kvs k v).length≤kvs.length+1:=by
 unfold putK
 split
 ·rw [List.length_map];omega
 ·rw [List.length_append,List.length_cons,List.length_nil];omega
theorem putK_new {kvs:List (κ × V)}{k:κ}(v:V) (h:valV kvs k=none):putK kvs k v=kvs++[(k,v)]:=by
 unfold putK
 rw [valV_any,h]
 exact if_neg (by decide)
theorem RelO.isSome_eq {o:Option V}{u:Option Value}(r:RelO o u):o.isSome=u.isSome:=by
 cases o with
 | none=>cases u with
  | none=>rfl
  | some _=>exact (show False from r).elim
 | some _=>cases u with
  | none=>exact (show False from r).elim
  | some _=>rfl
theorem KV.val {kvs:List (κ × V)}{vs:List (κ × Value)}(r:KV kvs vs) (k:κ):RelO (valV kvs k) (valueAt vs k):=by
 unfold KV at r
 induction r with
 | nil=>exact True.intro
 | @cons p q ps qs h t ih=>
  obtain ⟨h1,h2⟩:=h
  by_cases e:p.1=k
  ·have e':q.1=k:=h1.symm.trans e
   have b:valueAt (q::qs) k=some q.2:=by simp [valueAt,List.find?_cons,e']
   rw [valV_pos e,b];exact h2
  ·have e':¬ q.1=k:=fun z=>e (h1.trans z)
   have b:valueAt (q::qs) k=valueAt qs k:=by simp [valueAt,List.find?_cons,e']
   rw [valV_neg e,b];exact ih
theorem KV.any {kvs:List (κ × V)}{vs:List (κ × Value)}(r:KV kvs vs) (k:κ):(kvs.any fun kv=>decide (kv.1=k))=vs.any fun kv=>decide (kv.1=k):=by
 unfold KV at r
 induction r with
 | nil=>rfl
 | cons h t ih=>rw [List.any_cons,List.any_cons,ih,h.1]
theorem KV.repl {kvs:List (κ × V)}{vs:List (κ × Value)}(r:KV kvs vs) (k:κ){y:V}{u:Value}(ry:RelV y u) :
  KV (kvs.map fun kv=>if kv.1=k then (kv.1,y) else kv) (vs.map fun kv=>if kv.1=k then (kv.1,u) else kv):=by
 unfold KV at r ⊢
 induction r with
 | nil=>exact .nil
 | @cons p q ps qs h t ih=>
  rw [List.map_cons,List.map_cons]
  refine .cons ?_ ih
  obtain ⟨h1,h2⟩:=h
  by_cases e:p.1=k
  ·rw [if_pos e,if_pos (h1.symm.trans e)];exact ⟨h1,ry⟩
  ·rw [if_neg e,if_neg (fun z=>e (h1.trans z))];exact ⟨h1,h2⟩
theorem KV.put {kvs:List (κ × V)}{vs:List (κ × Value)}(r:KV kvs vs) (k:κ){y:V}{u:Value}(ry:RelV y u):KV (putK kvs k y) (stored vs k u):=by
 unfold putK stored
 rw [r.any k]
 by_cases e:(vs.any fun kv=>decide (kv.1=k))=true
 ·rw [if_pos e,if_pos e];exact r.repl k ry
 ·rw [if_neg e,if_neg e];exact Paired.snoc r ⟨rfl,ry⟩
theorem KV.length {kvs:List (κ × V)}{vs:List (κ × Value)}(r:KV kvs vs):kvs.length=vs.length:=Paired.length r
end
theorem kV_is {P:Program}{w:World}{k:Key}{u:Value}(r:RelV (kV k) u):(mixKind P w).is k u=true:=by
 cases k with
 | inl i=>obtain ⟨t,e⟩:=(show ∃ t,u=Value.int i t from r);subst e;exact mixKind_int P w i t
 | inr x=>obtain ⟨t,e⟩:=(show ∃ t,u=Value.str x t from r);subst e;exact mixKind_str P w x t
theorem items_are {P:Program}{w:World}:∀ {ks:List Key}{us:List Value},Vals (ks.map kV) us->ItemsAre (mixKind P w) ks us
 | [],_,r=>by rw [List.map_nil] at r;cases r;exact .nil
 | k::ks,_,r=>by
  rw [List.map_cons] at r
  cases r with
  | cons h t=>exact .cons (kV_is h) (items_are t)
abbrev KT (H:Hp):List (List Key × V)->List (List Key × Addr × Value)->Prop:=Paired fun p q=>p.1=q.1∧H q.2.1=some (.tup (p.1.map kV))∧RelV p.2 q.2.2
theorem KT.val {H:Hp}{kvs:List (List Key × V)}{xs:List (List Key × Addr × Value)}(r:KT H kvs xs) (k:List Key):RelO (valV kvs k) ((atKey xs k).map (·.2)):=by
 induction r with
 | nil=>exact True.intro
 | @cons p q ps qs h t ih=>
  obtain ⟨h1,_,h2⟩:=h
  by_cases e:p.1=k
  ·have e':q.1=k:=h1.symm.trans e
   have b:atKey (q::qs) k=some q.2:=by simp [atKey,List.find?_cons,e']
   rw [valV_pos e,b];exact h2
  ·have e':¬ q.1=k:=fun z=>e (h1.trans z)
   have b:atKey (q::qs) k=atKey qs k:=by simp [atKey,List.find?_cons,e']
   rw [valV_neg e,b];exact ih
theorem KT.repl {H:Hp}{kvs:List (List Key × V)}{xs:List (List Key × Addr × Value)}(r:KT H kvs xs) (k:List Key){y:V}{u:Value}(ry:RelV y u) :
  KT H (kvs.map fun kv=>if kv.1=k then (kv.1,y) else kv) (xs.map (putAt k u)):=by
 induction r with
 | nil=>exact .nil
 | @cons p q ps qs h t ih=>
  rw [List.map_cons,List.map_cons]
  refine .cons ?_ ih
  obtain ⟨h1,h2,h3⟩:=h
  unfold putAt
  by_cases e:p.1=k
  ·rw [if_pos e,if_pos (h1.symm.trans e)];exact ⟨h1,h2,ry⟩
  ·rw [if_neg e,if_neg (fun z=>e (h1.trans z))];exact ⟨h1,h2,h3⟩
theorem KT.put {H:Hp}{kvs:List (List Key × V)}{xs:List (List Key × Addr × Value)}(r:KT H kvs xs) (k:List Key){b:Addr}{y:V}{u:Value}(hb:H b=some (.tup (k.map kV))) (ry:RelV y u) :
  KT H (putK kvs k y) (storedH xs k b u):=by
 have e:(kvs.any fun kv=>decide (kv.1=k))=(atKey xs k).isSome:=by
  rw [valV_any,(r.val k).isSome_eq,Option.isSome_map]
 unfold putK storedH
 rw [e]
 by_cases q:(atKey xs k).isSome=true
 ·rw [if_pos q,if_pos q];exact r.repl k ry
 ·rw [if_neg q,if_neg q];exact Paired.snoc r ⟨rfl,hb,ry⟩
theorem KT.keeps {H H':Hp}{kvs:List (List Key × V)}{xs:List (List Key × Addr × Value)}(r:KT H kvs xs) (ht:∀ b ys,H b=some (.tup ys)->H' b=some (.tup ys)):KT H' kvs xs:=
 Paired.mapP r fun _ _ z=>⟨z.1,ht _ _ z.2.1,z.2.2⟩
section
variable {P:Program}{w:World}{H:Hp}{h:Heap}{a:Addr}
theorem rd_of {u:HO}(ok:HOk P w H h) (e:Rd H a u):ObjOk P w H h a u:=e.ok ok
theorem dk_rd {kvs:List (Key × V)}(ok:HOk P w H h) (e:Rd H a (.dK kvs)):kvs.length≤sizeLine∧(a == sysModules)=false∧∃ vs,KV kvs vs∧h.DictOf (mixKind P w) a vs:=
 show ObjOk P w H h a (.dK kvs) from rd_of ok e
theorem dk_of {kvs:List (Key × V)}(ok:HOk P w H h) (e:H a=some (.dK kvs)):kvs.length≤sizeLine∧(a == sysModules)=false∧∃ vs,KV kvs vs∧h.DictOf (mixKind P w) a vs:=dk_rd ok (.inl e)
theorem key_of {ks:List Key}(ok:HOk P w H h) (e:H a=some (.tup (ks.map kV))):(tupleKind (mixKind P w)).is h ks a:=by
 obtain ⟨_,its,r,o,h1,h2,n,h3⟩:=(show ObjOk P w H h a (.tup (ks.map kV)) from ok a _ e)
 exact ⟨o,its.toArray,n,h1,h2,h3,by simpa using items_are r⟩
theorem dt_rd {kvs:List (List Key × V)}(ok:HOk P w H h) (e:Rd H a (.dT kvs)):kvs.length≤sizeLine∧(a == sysModules)=false ∧
  ∃ xs,KT H kvs xs∧h.DictOfH (tupleKind (mixKind P w)) a xs:=by
 obtain ⟨z,y,xs,r,o,es,ep,h1,h2,h3,h4,h5⟩:=(show ObjOk P w H h a (.dT kvs) from rd_of ok e)
 refine ⟨z,y,xs,r,o,es,ep,h1,h2,h3,h4,fun x hx=>?_,h5⟩
 have all:∀ {l:List (List Key × V)} {m:List (List Key × Addr × Value)},KT H l m->∀ x∈m,(tupleKind (mixKind P w)).is h x.1 x.2.1:=by
  intro l m q
  induction q with
  | nil=>intro x hx;exact nomatch hx
  | @cons p q ps qs hq t ih=>
   intro x hx
   rcases List.mem_cons.mp hx with e|hx
   ·subst e
    exact key_of ok (by rw [←hq.1];exact hq.2.1)
   ·exact ih x hx
 exact all r x hx
theorem dt_of {kvs:List (List Key × V)}(ok:HOk P w H h) (e:H a=some (.dT kvs)):kvs.length≤sizeLine∧(a == sysModules)=false ∧
  ∃ xs,KT H kvs xs∧h.DictOfH (tupleKind (mixKind P w)) a xs:=dt_rd ok (.inl e)
end
def DGet (H:Hp) (a:Addr) (y:V) (r:Option V):Prop:=
 (∃ kvs k,Rd H a (.dK kvs)∧y=kV k∧r=valV kvs k)∨∃ kvs k b,Rd H a (.dT kvs)∧y=.ref b∧H b=some (.tup (k.map kV))∧r=valV kvs k
def DPut (H:Hp) (a:Addr) (y v:V) (H':Hp):Prop:=
 (∃ kvs k,H a=some (.dK kvs)∧y=kV k∧kvs.length < sizeLine∧H'=upd H a (.dK (putK kvs k v))) ∨
 ∃ kvs k b,H a=some (.dT kvs)∧y=.ref b∧H b=some (.tup (k.map kV))∧kvs.length < sizeLine∧H'=upd H a (.dT (putK kvs k v))
theorem DGet.k {H:Hp}{a:Addr}{kvs:List (Key × V)}{k:Key}(e:H a=some (.dK kvs)):DGet H a (kV k) (valV kvs k):=.inl ⟨kvs,k,.inl e,rfl,rfl⟩
theorem DPut.k {H:Hp}{a:Addr}{kvs:List (Key × V)}{k:Key}{v:V}(e:H a=some (.dK kvs)) (hl:kvs.length < sizeLine):DPut H a (kV k) v (upd H a (.dK (putK kvs k v))):=.inl ⟨kvs,k,e,rfl,hl,rfl⟩
section
variable {X:Cx}{pins:List (Addr × Obj)}{σ:St}{H:Hp}{s:Shared}{a:Addr}{y v:V}{u r:Value}{o:Option V}{A:Around}{E:Value->Shared->Prop}
theorem Inv.big (I:Inv X pins σ H s):sysModules < s.heap.objs.size:=by
 have h:mainGlobals < s.heap.objs.size:=(I.mod.glob.keeps I.bk).lt
 exact Nat.lt_trans (by decide) h
theorem d_getItem {Q:Value->Shared->Prop}(hu:A.units+1 < cLine) (I:Inv X pins σ H s) (g:DGet H a y (some v)) (ry:RelV y u) (h:∀ w' s',Inv X pins σ H s'->RelV v w'->Q w' s') :
  wpAny (model X.prog X.w) A (getItem (.ref a) u) Q E s:=by
 rcases g with ⟨kvs,k,e,ey,l⟩|⟨kvs,k,b,e,ey,eb,l⟩
 ·subst ey
  obtain ⟨z,hd,vs,rel,dd⟩:=dk_rd I.hok e
  obtain ⟨w',hw,rw'⟩:=RelO.some_of (v:=v) (o:=valueAt vs k) (by rw [l];exact rel.val k)
  exact wpAny_getItem_of (kV_is ry) dd.mapOf hw (h w' _ (I.tok _) rw')
 ·subst ey
  cases (show u=Value.ref b from ry)
  obtain ⟨z,hd,xs,rel,dd⟩:=dt_rd I.hok e
  obtain ⟨w',hw,rw'⟩:=RelO.some_of (v:=v) (o:=(atKey xs k).map (·.2)) (by rw [l];exact rel.val k)
  obtain ⟨p,hp,hp2⟩:=Option.map_eq_some_iff.mp hw
  refine wpAny_getItem_heap (tupleKind_room_in1 hu) (key_of I.hok eb) dd hp ?_
  rw [hp2]
  exact h w' _ (I.tok _) rw'
theorem d_write {h':Heap}{t':Nat}{ob:HO}(I:Inv X pins σ H s) (mu:Mut (H a)) (hs:Heap.SameBut a s.heap h') (he:∃ q,h'.get? a=some q) (new:ObjOk X.prog X.w (upd H a ob) h' a ob) :
  Inv X pins σ (upd H a ob) { s with heap:=h',toks:=t' }:=
 I.write (x:=a) (e:=a) mu (.inl rfl) (fun b q hb z=>(hs.2 b hb).trans z) he new
theorem dk_new {P:Program}{w:World}{H':Hp}{h':Heap}{kvs:List (Key × V)}{vs:List (Key × Value)}(z:kvs.length≤sizeLine) (hd:(a == sysModules)=false) (rel:KV kvs vs) (dd:h'.DictOf (mixKind P w) a vs) :
  ObjOk P w H' h' a (.dK kvs):=⟨z,hd,vs,rel,dd⟩
theorem d_setItem {H':Hp}{Q:Unit->Shared->Prop}(hu:A.units+1 < cLine) (I:Inv X pins σ H s) (g:DPut H a y v H') (ry:RelV y u) (rv:RelV v r) (h:∀ s',Inv X pins σ H' s'->Q () s') :
  wpAny (model X.prog X.w) A (setItem (.ref a) u r) Q E s:=by
 rcases g with ⟨kvs,k,e,ey,l,eH⟩|⟨kvs,k,b,e,ey,eb,l,eH⟩
 ·subst ey eH
  obtain ⟨z,hd,vs,rel,dd⟩:=dk_of I.hok e
  have hz:vs.length≤sizeLine:=by rw [←rel.length];exact z
  have hl:(putK kvs k v).length≤sizeLine:=by have:=length_putK kvs k v;omega
  refine wpAny_setItem_pairs (hsz:=hz) (kV_is ry) dd fun h' dd' hs=>h _ ?_
  have he:∃ q,h'.get? a=some q:=let ⟨q,_,_,hq,_⟩:=dd';⟨q,hq⟩
  exact d_write I (by rw [e];exact True.intro) hs he (dk_new hl hd (rel.put k rv) dd')
 ·subst ey eH
  cases (show u=Value.ref b from ry)
  obtain ⟨z,hd,xs,rel,dd⟩:=dt_of I.hok e
  have hz:xs.length≤sizeLine:=by rw [←Paired.length rel];exact z
  have hl:(putK kvs k v).length≤sizeLine:=by have:=length_putK kvs k v;omega
  refine wpAny_setItem_heap (hsz:=hz) (tupleKind_room_in1 hu) (key_of I.hok eb) dd fun h' dd' hs=>h _ ?_
  obtain ⟨q,es,ep,hq,h2,h3,h4,_,h5⟩:=dd'
  refine d_write I (by rw [e];exact True.intro) hs ⟨q,hq⟩ ⟨hl,hd,_,(rel.put k eb rv).keeps fun c ys ec=>?_,q,es,ep,hq,h2,h3,h4,h5⟩
  rw [upd_ne (ne_of ec e (fun z=>nomatch z))]
  exact ec
end
section
variable {X:Cx}{pins:List (Addr × Obj)}{σ:St}{H:Hp}{s:Shared}{a:Addr}{kvs:List (Key × V)}{k:Key}{u:Value}{A:Around}{E:Value->Shared->Prop}
end
def NoSl (i:Expr):Prop:=∀ ov iv,subscripted i false ov iv=operate [ov,iv] (getItem ov iv)
theorem subD_of {prog:Program}{w:World}{A:Around}{E:Value->Shared->Prop}{s:Shared}{env:Env}{value slice:Expr}{pos:Pos}{T id:String}{Q:Value->Shared->Prop}
  (hl:typeLookup (.type T) "__getitem__"=pure (some (.builtin id))) (hs:NoSl slice)
  (h:wpAny (model prog w) A (eval value env) (fun o s₁=>wpAny (model prog w) A (eval slice env) (fun i s₂=>s₂.TypeIs o T∧wpAny (model prog w) A (getItem o i) Q E s₂) E s₁) E s) :
  wpAny (model prog w) A (eval (.Subscript value slice pos) env) Q E s:=by
 refine Subscript_ (wpAny_mono h (fun o s₁ h₁=>wpAny_mono h₁ (fun i s₂ h₂=>?_) fun _ _ x=>x) fun _ _ x=>x)
 obtain ⟨hT,h₂⟩:=h₂
 unfold subscriptTail
 refine wpAny_bind ?_
 rw [getitemInPython_of_ne hT.not_modules]
 refine wpAny_bind (wpAny_specialOf hT hl ?_)
 have fin:wpAny (model prog w) A (subscripted slice false o i) (fun r s₃=>wpAny (model prog w) A (letTemporaryGo value o r >>= fun _=>pure r) Q E s₃) E s₂:=by
  rw [hs o i]
  exact wpAny_operating (wpAny_mono h₂ (fun r s₃ h₃=>wpAny_bind (wpAny_letTemporaryGo (wpAny_pure h₃))) fun _ _ x=>x)
 first
  | exact wpAny_pure (wpAny_bind fin)
  | exact wpAny_bind (wpAny_pure (wpAny_bind fin))
  | exact wpAny_bind fin
theorem dict_typeIs {X:Cx}{pins:List (Addr × Obj)}{σ:St}{H:Hp}{s:Shared}{a:Addr}{y:V}{o:Option V}(I:Inv X pins σ H s) (g:DGet H a y o):s.TypeIs (.ref a) "dict":=by
 rcases g with ⟨kvs,k,e,_,_⟩|⟨kvs,k,b,e,_,_,_⟩
 ·obtain ⟨_,_,vs,_,dd⟩:=dk_rd I.hok e
  exact dd.typeIs
 ·obtain ⟨_,_,xs,_,dd⟩:=dt_rd I.hok e
  exact dd.typeIs
def tDGet (td ty:TE):TE:=fun σ H Q=>td σ H fun x H1=>ty σ H1 fun y H2=>∃ a v,x=.ref a∧DGet H2 a y (some v)∧Q v H2
def sDPut (td ty tv:TE):TS:=fun D σ H=>tv σ H fun v H1=>td σ H1 fun x H2=>ty σ H2 fun y H3=>∃ a H4,x=.ref a∧DPut H3 a y v H4∧D.nx σ H4
section
variable {X:Cx}{o i e value:Expr}{pos pos' tpos:Pos}{td ty tv:TE}
theorem pe_dget (hu:X.A.units+1 < cLine) (ho:PE X o td) (hi:PE X i ty) (hs:NoSl i):PE X (.Subscript o i pos) (tDGet td ty):=by
 intro pins s σ H Q I h
 refine subD_of PySem.F.slot_dict_getitem.lookup hs (thn (ho pins s σ H _ I h) fun u s1 ⟨x,H1,I1,rx,q1⟩=>thn (hi pins s1 σ H1 _ I1 q1) fun iv s2 ⟨y,H2,I2,ry,a,v,ex,g,q2⟩=>?_)
 subst ex
 obtain rfl:u=Value.ref a:=rx
 exact ⟨dict_typeIs I2 g,d_getItem hu I2 g ry fun w' s3 I3 rw'=>⟨v,H2,I3,rw',q2⟩⟩
theorem ps_dput (hu:X.A.units+1 < cLine) (ho:PE X o td) (hi:PE X i ty) (hv:PE X value tv) (hs:swapsWith value (some (.Subscript o i pos')) pos.line X.env=pure false) :
  PS X (.Assign [.Subscript o i pos'] value pos) (sDPut td ty tv):=by
 intro pins s σ H D I h
 refine wpAny_Assign_Subscript (thn (hv pins s σ H _ I h) fun r s1 ⟨v,H1,I1,rv,q1⟩=>thn (ho pins s1 σ H1 _ I1 q1) fun u s2 ⟨x,H2,I2,rx,q2⟩=>thn (hi pins s2 σ H2 _ I2 q2) fun iv s3 ⟨y,H3,I3,ry,a,H4,ex,g,q3⟩=>?_) hs
 subst ex
 obtain rfl:u=Value.ref a:=rx
 exact d_setItem hu I3 g ry rv fun s4 I4=>⟨σ,H4,I4,q3⟩
end
theorem dk_empty {P:Program}{w:World}{H:Hp}(h:Heap) (hb:sysModules < h.objs.size):ObjOk P w H (h.push { cls:=.type "dict",data:=.dict #[] }) h.objs.size (.dK []):=
 ⟨Nat.zero_le _,beq_eq_false_iff_ne.mpr (Ne.symm (Nat.ne_of_lt hb)),[],.nil,Heap.DictOf.new h⟩
def tDNewK:TE:=fun _ H Q=>∀ p,H p=none->Q (.ref p) (upd H p (.dK []))
section
variable {X:Cx}{pos:Pos}
theorem pe_dnewK:PE X (.Dict [] [] pos) tDNewK:=fun pins s σ H Q I h=>
 wpAny_Dict_empty ⟨.ref s.heap.objs.size,_,I.laid (a:=s.heap.objs.size) (o:=.dK []) (t':=s.toks) (fun _ _ q=>Heap.get?_push_of_some _ q) (Nat.le_refl _) (dk_empty s.heap I.big),rfl,h _ (I.hok.fresh (Nat.le_refl _))⟩
end
structure M2 (X:Cx) (o:Expr) (m:Str) (apos:Pos) (e f:Expr) (cpos:Pos):Prop where
 base:attributeBase o m X.env (eval o X.env)=eval o X.env
 few:((backTo cpos (starEach [e,f] X.env)).all (fun x=>!x.1) && (backToKw cpos (keywordEach [] X.env)).all (fun x=>x.1.isSome)
  && decide (([e,f]:List Expr).length+([]:List Keyword).length+(if ([]:List Keyword).isEmpty then 0 else 1) < 30))=true
 line:(apos.endLine == cpos.line)=true
 trees:backTo cpos (starEach [e,f] X.env)=[(false,eval e X.env),(false,eval f X.env)]
section
variable {X:Cx}{pins:List (Addr × Obj)}{σ:St}{H:Hp}{s:Shared}{a:Addr}{y d:V}{u r:Value}{o:Option V}{A:Around}{E:Value->Shared->Prop}
end
section
variable {X:Cx}{o e f:Expr}{apos cpos:Pos}{td ty tx:TE}
end
section
variable {X:Cx}{pins:List (Addr × Obj)}{σ:St}{H:Hp}{s:Shared}{a:Addr}{kvs:List (Key × V)}{A:Around}{E:Value->Shared->Prop}
end
section
variable {X:Cx}{pins:List (Addr × Obj)}{σ:St}{H:Hp}{s:Shared}{a:Addr}{y:V}{u:Value}{A:Around}{E:Value->Shared->Prop}
end
end L2
namespace L2
open PySem PySem.Spec PyProof.Rows
section
variable {κ:Type} [DecidableEq κ]
theorem valV_not {kvs:List (κ × V)}{k:κ}(h:valV kvs k=none):¬ k∈kvs.map (·.1):=by
 intro m
 obtain ⟨p,hp,e⟩:=List.mem_map.mp m
 have q:(kvs.any fun kv=>decide (kv.1=k))=true:=List.any_eq_true.mpr ⟨p,hp,decide_eq_true e⟩
 rw [valV_any,h] at q
 exact absurd q (by simp)
theorem nd_snoc:∀ {l:List κ}{k:κ},l.Nodup->¬ k∈l->(l++[k]).Nodup
 | [],k,_,_=>by simp
 | a::r,k,h,hk=>by
  obtain ⟨h1,h2⟩:=List.nodup_cons.mp h
  show (a::(r++[k])).Nodup
  refine List.nodup_cons.mpr ⟨fun m=>?_,nd_snoc h2 fun m=>hk (List.mem_cons.mpr (Or.inr m))⟩
  rcases List.mem_append.mp m with q|q
  ·exact h1 q
  ·exact hk (List.mem_cons.mpr (Or.inl (List.mem_singleton.mp q).symm))
theorem nd_putK {kvs:List (κ × V)}{k:κ}(v:V) (hn:(kvs.map (·.1)).Nodup) (h:valV kvs k=none):((putK kvs k v).map (·.1)).Nodup:=by
 rw [putK_new v h,List.map_append]
 exact nd_snoc hn (valV_not h)
end
end L2
set_option Elab.async false
set_option linter.all false
set_option maxRecDepth 100000
set_option maxHeartbeats 4000000
namespace L2
open PySem PySem.Spec PyProof.Rows
section
variable {X:Cx}
def CMulB (i j:Int):Prop:=i.natAbs < 2 ^ 256∧j.natAbs < 2 ^ 256
theorem bits256 {i:Int}(h:i.natAbs < 2 ^ 256):Builtin.Int.intBits i≤2 ^ 20:=Nat.le_trans (intBits_le h) (by decide)
theorem op_mulB:OpR X (binaryOp .Mult) (rI CMulB fun i j=>.int (i * j)):=opI fun _ _ _ _ _ _ _ hc q=>mul_int q (IntMulOk.of_bits (bits256 hc.1) (bits256 hc.2))
theorem call_isi:CallR X (.builtin "isinstance") (fun xs H Q=>∃ x n ty b,xs=[x,.ty n]∧TyOf X.K H x ty∧PySem.W.kitOne X.K ty (.type n)=some b∧Q (.bl b) H):=by
 intro pins s σ H xs us Q I r h
 obtain ⟨x,n,ty,b,rfl,hty,hk,q⟩:=h
 obtain ⟨u,w',rfl,rx,rc⟩:=vals2 r
 cases (show w'=Value.type n from rc)
 exact isinst_ok I rx hty hk (fun tk=>⟨.bl b,H,I.tok _,rfl,q⟩)
theorem kitOne_ty (K:PySem.W.Frag) (A B:String) (r:Bool)
  (h:(if (Value.type A == Value.type B)=true then some true else if PySem.W.kitMeta B=true then (fastBuiltinMro A).map (·.contains (.type B)) else none)=some r):PySem.W.kitOne K (.type A) (.type B)=some r:=h
mutual
inductive DatV (K:PySem.W.Frag) (H:Hp):V->PyData->Prop
 | non:DatV K H .non .none
 | bl (b:Bool):DatV K H (.bl b) (.bool b)
 | int (i:Int):DatV K H (.int i) (.int i)
 | str (x:Str):DatV K H (.str x) (.str x)
 | lst {a:Addr} {xs:List V} {ds:List PyData} (h:SqL K H a xs) (r:DatVs K H xs ds):DatV K H (.ref a) (.list ds)
 | tup {a:Addr} {xs:List V} {ds:List PyData} (h:SqT K H a xs) (r:DatVs K H xs ds):DatV K H (.ref a) (.tuple ds)
inductive DatVs (K:PySem.W.Frag) (H:Hp):List V->List PyData->Prop
 | nil:DatVs K H [] []
 | cons {x:V} {d:PyData} {xs:List V} {ds:List PyData} (h:DatV K H x d) (t:DatVs K H xs ds):DatVs K H (x::xs) (d::ds)
end
mutual
theorem DatV.reads {pins:List (Addr × Obj)}{σ:St}{H:Hp}{s:Shared}(I:Inv X pins σ H s):∀ {x:V}{d:PyData}{u:Value},DatV X.K H x d->RelV x u->∃ as,Reads s.heap u d as
 | _,_,_,.non,r=>by cases (show _=Value.none from r);exact ⟨_,.none⟩
 | _,_,_,.bl b,r=>by cases (show _=Value.bool b from r);exact ⟨_,.bool b⟩
 | _,_,_,.int i,r=>by obtain ⟨t,rfl⟩:=r;exact ⟨_,.int i t⟩
 | _,_,_,.str x,r=>by obtain ⟨t,rfl⟩:=r;exact ⟨_,.str x t⟩
 | _,_,_,@DatV.lst _ _ a xs ds h q,r=>by
  cases (show _=Value.ref a from r)
  obtain ⟨its,hv,hp,_⟩:=I.list h
  obtain ⟨o,n,e,c,_,d⟩:=hp
  obtain ⟨as,z⟩:=DatVs.reads I q hv
  exact ⟨_,.list e c d (by simpa using z)⟩
 | _,_,_,@DatV.tup _ _ a xs ds h q,r=>by
  cases (show _=Value.ref a from r)
  obtain ⟨its,hv,hp,_⟩:=I.tuple h
  obtain ⟨o,e,c,n,d⟩:=hp
  obtain ⟨as,z⟩:=DatVs.reads I q hv
  exact ⟨_,.tuple e c d (by simpa using z)⟩
theorem DatVs.reads {pins:List (Addr × Obj)}{σ:St}{H:Hp}{s:Shared}(I:Inv X pins σ H s):∀ {xs:List V}{ds:List PyData}{us:List Value},DatVs X.K H xs ds->Vals xs us->∃ as,ReadsAll s.heap us ds as
 | _,_,_,.nil,.nil=>⟨_,.nil⟩
 | _,_,_,.cons h t,.cons r q=>by
  obtain ⟨as,z⟩:=DatV.reads I h r
  obtain ⟨bs,y⟩:=DatVs.reads I t q
  exact ⟨_,.cons z y⟩
end
def rEqD (K:PySem.W.Frag):R2:=fun x y H Q=>∃ d e,DatV K H x d∧DatV K H y e∧SeqAt.shaped d=true∧SeqAt.shaped e=true∧Q (.bl (PyData.eqv d e)) H
def rNeD (K:PySem.W.Frag):R2:=fun x y H Q=>∃ d e,DatV K H x d∧DatV K H y e∧SeqAt.shaped d=true∧SeqAt.shaped e=true∧Q (.bl (!PyData.eqv d e)) H
theorem op_eqD (hu:X.A.units+64 < cLine):OpR X (compareOp .Eq) (rEqD X.K):=by
 intro pins s σ H x y v u Q I rx ry h
 obtain ⟨d,e,hd,he,sd,se,q⟩:=h
 obtain ⟨as,z⟩:=hd.reads I rx
 obtain ⟨bs,z'⟩:=he.reads I ry
 exact SeqAt.compareEq_shaped z z' sd se hu ⟨.bl _,H,I,rfl,q⟩
theorem op_neD (hu:X.A.units+64 < cLine):OpR X (compareOp .NotEq) (rNeD X.K):=by
 intro pins s σ H x y v u Q I rx ry h
 obtain ⟨d,e,hd,he,sd,se,q⟩:=h
 obtain ⟨as,z⟩:=hd.reads I rx
 obtain ⟨bs,z'⟩:=he.reads I ry
 exact SeqAt.compareNe_shaped z z' sd se hu ⟨.bl _,H,I,rfl,q⟩
end
theorem same_upd {H:Hp}{p:Addr}{o:HO}(h:H p=none):Same H (upd H p o):=fun b u e=>by
 rw [upd_ne (ne_of_none e h)];exact e
theorem atI_lt {α:Type}(xs:List α) (i:Int) (h0:0≤i) (h1:i < xs.length):∃ v,atI xs i=some v∧v∈xs:=by
 have hl:i.toNat < xs.length:=by omega
 refine ⟨xs[i.toNat],?_,List.getElem_mem hl⟩
 have e:((i.toNat:Nat):Int)=i:=by omega
 have:=atI_nat (xs:=xs) (j:=i.toNat) (v:=xs[i.toNat]) (List.getElem?_eq_getElem hl)
 rw [e] at this
 exact this
theorem atI_ints (ns:List Int) (i:Int) (h0:0≤i) (h1:i < ns.length):∃ z,atI (ns.map V.int) i=some (.int z)∧z∈ns:=by
 obtain ⟨v,e,m⟩:=atI_lt (ns.map V.int) i h0 (by simpa using h1)
 obtain ⟨z,hz,rfl⟩:=List.mem_map.mp m
 exact ⟨z,e,hz⟩
end L2
set_option Elab.async false
set_option linter.all false
set_option maxRecDepth 100000
set_option maxHeartbeats 4000000
namespace L2
open PySem PySem.Spec PyProof.Rows
def clOf (cells:List (Str × Addr)):List (Str × NameKind)->List (Str × Addr)->List (Str × Addr)
 | [],acc=>acc
 | (n,k)::r,acc=>if (k == .free)=true then clOf cells r ((n,(cells.lookup n).getD 0)::acc) else clOf cells r acc
theorem closure_run {env:Env}:∀ (names:List (Str × NameKind)) (acc:List (Str × Addr)),(∀ y∈names,y.2=.free->∃ c,env.cells.lookup y.1=some c) →
  (forIn names acc (fun (x:Str × NameKind) (cs:List (Str × Addr))=>match x with
   | (name,kind)=>if (kind == .free)=true then (do let a ←cellOf env name;pure (ForInStep.yield ((name,a)::cs))) else (do pure PUnit.unit;pure (ForInStep.yield cs))):Sem (List (Str × Addr)))=pure (clOf env.cells names acc)
 | [],acc,_=>rfl
 | (n,k)::r,acc,h=>by
  rw [List.forIn_cons]
  have hr:∀ y∈r,y.2=.free->∃ c,env.cells.lookup y.1=some c:=fun y hy=>h y (List.mem_cons_of_mem _ hy)
  by_cases hk:(k == .free)=true
  ·obtain ⟨c,hc⟩:=h (n,k) List.mem_cons_self (by simpa using hk)
   have hc':env.cells.lookup n=some c:=hc
   simp only [hk,if_true,clOf,hc',Option.getD_some]
   have e:cellOf env n=pure c:=by unfold cellOf;rw [hc']
   rw [e]
   exact closure_run r _ hr
  ·simp only [hk,if_false,clOf]
   exact closure_run r acc hr
theorem closureFor_eq {scope:Scope}{env:Env}(h:∀ y∈scope.names,y.2=.free->∃ c,env.cells.lookup y.1=some c):closureFor scope env=pure (clOf env.cells scope.names []):=by
 unfold closureFor
 have:=closure_run (env:=env) scope.names [] h
 first
  | exact (congrArg (fun m=>m >>= fun cs=>pure cs) this).trans (pure_bind _ _)
  | (simp only [] at this ⊢;rw [this];rfl)
theorem clOf_sub {cells:List (Str × Addr)}{x:Str}{c:Addr}:∀ {names:List (Str × NameKind)}{acc:List (Str × Addr)},(∀ y∈names,y.2=.free->∃ c,cells.lookup y.1=some c)->(clOf cells names acc).lookup x=some c->acc.lookup x=some c∨cells.lookup x=some c
 | [],acc,_,h=>.inl h
 | (n,k)::r,acc,hf,h=>by
  have hr:∀ y∈r,y.2=.free->∃ c,cells.lookup y.1=some c:=fun y hy=>hf y (List.mem_cons_of_mem _ hy)
  unfold clOf at h
  by_cases hk:(k == .free)=true
  ·rw [if_pos hk] at h
   rcases clOf_sub hr h with q|q
   ·rw [List.lookup_cons] at q
    cases hx:x == n with
    | true=>
     rw [hx] at q
     obtain ⟨d,hd⟩:=hf (n,k) List.mem_cons_self (by simpa using hk)
     have e:x=n:=by simpa using hx
     subst e
     have hd':cells.lookup x=some d:=hd
     rw [hd'] at q ⊢
     exact .inr (by simpa using q)
    | false=>rw [hx] at q;exact .inl q
   ·exact .inr q
  ·rw [if_neg hk] at h
   exact clOf_sub hr h
theorem clOf_acc {cells:List (Str × Addr)}{x:Str}:∀ {names:List (Str × NameKind)}{acc:List (Str × Addr)},(∀ y∈names,y.2=.free->∃ c,cells.lookup y.1=some c)->(∃ c,acc.lookup x=some c)->∃ c,(clOf cells names acc).lookup x=some c
 | [],acc,_,h=>h
 | (n,k)::r,acc,hf,h=>by
  have hr:∀ y∈r,y.2=.free->∃ c,cells.lookup y.1=some c:=fun y hy=>hf y (List.mem_cons_of_mem _ hy)
  unfold clOf
  by_cases hk:(k == .free)=true
  ·rw [if_pos hk]
   refine clOf_acc hr ?_
   rw [List.lookup_cons]
   cases hx:x == n with
   | true=>exact ⟨_,rfl⟩
   | false=>exact h
  ·rw [if_neg hk]
   exact clOf_acc hr h
theorem clOf_has {cells:List (Str × Addr)}{x:Str}:∀ {names:List (Str × NameKind)}{acc:List (Str × Addr)},(∀ y∈names,y.2=.free->∃ c,cells.lookup y.1=some c)->names.lookup x=some .free->∃ c,(clOf cells names acc).lookup x=some c
 | [],acc,_,h=>by simp at h
 | (n,k)::r,acc,hf,h=>by
  have hr:∀ y∈r,y.2=.free->∃ c,cells.lookup y.1=some c:=fun y hy=>hf y (List.mem_cons_of_mem _ hy)
  rw [List.lookup_cons] at h
  unfold clOf
  cases hx:x == n with
  | true=>
   rw [hx] at h
   have hk:k=.free:=by simpa using h
   subst hk
   rw [if_pos (show (NameKind.free == NameKind.free)=true from rfl)]
   refine clOf_acc hr ⟨(cells.lookup n).getD 0,?_⟩
   rw [List.lookup_cons,hx]
  | false=>
   rw [hx] at h
   by_cases hk:(k == .free)=true
   ·rw [if_pos hk];exact clOf_has hr h
   ·rw [if_neg hk];exact clOf_has hr h
theorem lookup_mem {x:Str}{k:NameKind}:∀ {names:List (Str × NameKind)},names.lookup x=some k->(x,k)∈names
 | [],h=>by simp at h
 | (n,j)::r,h=>by
  rw [List.lookup_cons] at h
  cases hx:x == n with
  | true=>
   rw [hx] at h
   have e:x=n:=by simpa using hx
   have e2:j=k:=by simpa using h
   subst e;subst e2
   exact List.mem_cons_self
  | false=>rw [hx] at h;exact List.mem_cons_of_mem _ (lookup_mem h)
theorem lookup_relabel {env:Env}{x:Str}:∀ {names:List (Str × NameKind)},
  (names.map fun (n,k)=>if (k == NameKind.free && env.scope.kind == .function && env.kindOf n == some .cell) then (n,NameKind.cell) else (n,k)).lookup x
   = (names.lookup x).map fun k=>if (k == NameKind.free && env.scope.kind == .function && env.kindOf x == some .cell) then NameKind.cell else k
 | []=>rfl
 | (n,k)::r=>by
  have ih:=@lookup_relabel env x r
  show List.lookup x ((if (k == NameKind.free && env.scope.kind == .function && env.kindOf n == some .cell)=true then (n,NameKind.cell) else (n,k))::_)=_
  cases hx:x == n with
  | true=>
   have e:x=n:=by simpa using hx
   subst e
   by_cases hc:(k == NameKind.free && env.scope.kind == .function && env.kindOf x == some .cell)=true
   ·rw [if_pos hc]
    simp only [List.lookup_cons,beq_self_eq_true,Option.map_some]
    rw [if_pos hc]
   ·rw [if_neg hc]
    simp only [List.lookup_cons,beq_self_eq_true,Option.map_some]
    rw [if_neg hc]
  | false=>
   by_cases hc:(k == NameKind.free && env.scope.kind == .function && env.kindOf n == some .cell)=true
   ·rw [if_pos hc];simp only [List.lookup_cons,hx];exact ih
   ·rw [if_neg hc];simp only [List.lookup_cons,hx];exact ih
abbrev cCx (X:Cx) (scope:Scope) (N':List Str) (C:Addr) (s₀:Shared) (H₀:Hp) (ex:List Addr) (pn:List (Addr × Obj)):Cx:=
 { X with N:=N',s₀:=s₀,H₀:=H₀,env:=compEnvC scope (clOf X.env.cells scope.names []) C X.env,outer:=X.stack,stack:=X.stack,ex:=ex,fn:=fun _=>false,pn:=pn,xe:=fun _ _=>False }
def PTs (Y:Cx) (ifs:List Expr) (t:TT):Prop:=
 ∀ (pins:List (Addr × Obj)) (s:Shared) (σ:St) (H:Hp) (Q:Bool->Hp->Prop),Inv Y pins σ H s->t σ H Q →
  wpAny (model Y.prog Y.w) Y.A (forIn ifs true fun c r=>if r=true then do let ok ←isTrue c Y.env (eval c Y.env);pure (ForInStep.yield ok) else pure (ForInStep.yield r)) (TP Y pins σ Q) Y.xe s
def tYes:TT:=fun _ H Q=>Q true H
theorem pts_nil {Y:Cx}:PTs Y [] tYes:=fun _ _ _ H _ I h=>wpAny_pure ⟨H,I,h⟩
theorem HOk.but {P:Program}{w:World}{H:Hp}{h h':Heap}{C:Addr}(ok:HOk P w H h) (hn:H C=none) (hs:Heap.SameBut C h h'):HOk P w H h':=fun b ob e=>by
 refine (ok b ob e).stay (fun c w' hc q=>(hs.2 c ?_).trans q) (fun _ q=>q) fun _ _ q=>q
 rintro rfl
 rcases hc with rfl|hc
 ·rw [hn] at e;cases e
 ·rw [hn] at hc;cases hc
theorem Un.but {fs ex:List Addr}{H H':Hp}{h h1 h2:Heap}{C:Addr}(u:Un fs ex H H' h h1) (hs:Heap.SameBut C h1 h2) (hC:∀ b o,h.get? b=some o->b ≠ C):Un fs ex H H' h h2 where
 keep:=fun b o e n hb hx=>(hs.2 b (hC b o e)).trans (u.keep b o e n hb hx)
 slot:=fun b o e n hb hx=>by
  obtain ⟨sl,q⟩:=u.slot b o e n hb hx
  exact ⟨sl,(hs.2 b (hC b o e)).trans q⟩
 free:=u.free
 there:=fun b o e hx=>by
  obtain ⟨o',q⟩:=u.there b o e hx
  exact ⟨o',(hs.2 b (hC b o e)).trans q⟩
 tups:=u.tups
 frzs:=u.frzs
 tbls:=u.tbls
section
variable {X:Cx}
def tComp (k:Nat) (wi:TI) (g:TG) (tt:TT) (te:TE):TE:=fun σ H Q=>wi σ H fun J H1=>∀ D,H1 D=none->∃ W:Nat->Nat->List V->Hp->Prop,(∃ m,W 0 m [] (upd H1 D (.lst [])))∧∀ i m ys H,W i m ys H →
 (J.stop i H∧Q (.ref D) H)∨(J.go i H∧∃ N:List V->Hp->Prop,(∀ ys' H',N ys' H'->∃ m',m' < m∧W (i+1) m' ys' H') ∧
  ∀ x H',J.yld i H x H'->g x (List.replicate k none++σ) H' fun σ2 H2=>(∃ vs:St,vs.length=k∧σ2=vs++σ)∧tt σ2 H2 fun b H3=>if b=true then te σ2 H3 fun y H4=>H4 D=some (.lst ys)∧ys.length < sizeLine∧N (ys++[y]) (upd H4 D (.lst (ys++[y]))) else N ys H3)
theorem comp_loop {Y:Cx}{tg elt iter:Expr}{ifs:List Expr}{scope:Scope}{pos:Pos}{it D:Addr}{g:TG}{tt:TT}{te:TE}{J:It}{fp:List Addr}{tn:Nat->Heap->Prop}{k:Nat}{σ:St}{Q:VK}
  (hc:Y.calm=true) (hx:Y.xe=fun _ _=>False) (hg:PG Y tg g) (ht:PTs Y ifs tt) (he:PE Y elt te) (T:Turn Y.prog Y.w Y.K tg J fp it tn) (hf:∀ H:Hp,(∀ b∈fp,H b=none)->∀ b∈fp,FpOk Y [] H b)
  (W:Nat->Nat->List V->Hp->Prop)
  (turn:∀ i m ys H,W i m ys H->(J.stop i H∧Q (.ref D) H)∨(J.go i H∧∃ N:List V->Hp->Prop,(∀ ys' H',N ys' H'->∃ m',m' < m∧W (i+1) m' ys' H') ∧
   ∀ x H',J.yld i H x H'->g x (List.replicate k none++σ) H' fun σ2 H2=>(∃ vs:St,vs.length=k∧σ2=vs++σ)∧tt σ2 H2 fun b H3=>if b=true then te σ2 H3 fun y H4=>H4 D=some (.lst ys)∧ys.length < sizeLine∧N (ys++[y]) (upd H4 D (.lst (ys++[y]))) else N ys H3))
  (n:Nat) (s:Shared) (h:∃ i ys H,Inv Y [] (List.replicate k none++σ) H s∧tn i s.heap∧(∀ b∈fp,H b=none)∧W i n ys H) :
  codeAny (model Y.prog Y.w) Y.A (.compLoop (.ListComp elt [⟨tg,iter,ifs,0⟩] scope pos) 0 (.ref it) (.ref D) Y.env) (fun r s'=>r=.ok .next∧∃ H',Inv Y [] (List.replicate k none++σ) H' s'∧Q (.ref D) H') s:=by
 refine codeAny_loop rfl (fun n s=>∃ i ys H,Inv Y [] (List.replicate k none++σ) H s∧tn i s.heap∧(∀ b∈fp,H b=none)∧W i n ys H) ?_ n h
 rintro n s3 ⟨i,ys,H3,I3,st3,fr3,w3⟩
 show wpAny _ Y.A ((compTurn (.ListComp elt [⟨tg,iter,ifs,0⟩] scope pos) 0 (.ref it) (.ref D) Y.env).onRaise (fun x=>do noteFrame x Y.env;theTreesLotGoes x)) _ _ s3
 refine PySem.wpAny_noted ?_
 rw [PySem.compTurn_list]
 have no:∀ {α:Type} {m:Sem α} {P:α->Shared->Prop} {E:Value->Shared->Prop} {s:Shared},wpAny (model Y.prog Y.w) Y.A m P Y.xe s->wpAny (model Y.prog Y.w) Y.A m P E s:=fun {α m P E s} h=>
  wpAny_mono h (fun _ _ q=>q) fun _ _ q=>by rw [hx] at q;exact q.elim
 refine wpAny_bind (wpAny_standAt (wpAny_bind ?_))
 rcases turn i n ys H3 w3 with ⟨stop,qn⟩|⟨go,N,hN,step⟩
 ·refine thn (T.done Y rfl rfl rfl hc i [] s3 (List.replicate k none++σ) H3 _ I3 (hf H3 fr3) st3 stop) fun r s4 ⟨hr,I4⟩=>?_
  subst hr
  exact wpAny_pure ⟨rfl,H3,I4,qn⟩
 ·refine thn (T.item Y rfl rfl rfl hc i [] s3 (List.replicate k none++σ) H3 _ I3 (hf H3 fr3) st3 go) fun r s4 ⟨u,hr,h4⟩=>?_
  subst hr
  refine wpAny_bind (thn h4 fun _ s5 ⟨x,H5,I5,r5,y5,st5,fr5⟩=>?_)
  have I5':=I5.pinned (hf H5 fr5) (T.obj _ _ st5)
  refine wpAny_bind (no (thn (hg _ s5 (List.replicate k none++σ) H5 x u _ I5' r5 (step x H5 y5)) fun _ s6 ⟨σ6,H6,I6,⟨vs,hvs,e6⟩,q6⟩=>?_))
  subst e6
  have forget:∀ {pins:List (Addr × Obj)} {H:Hp} {s:Shared},Inv Y pins (vs++σ) H s->Inv Y pins (List.replicate k none++σ) H s:=fun {pins H s} I=>I.weak (by simp [hvs]) fun i v e=>by
   by_cases hi:i < k
   ·rw [List.getElem?_append_left (by simpa using hi)] at e
    simp [List.getElem?_replicate,hi] at e
   ·rw [List.getElem?_append_right (by simpa using Nat.le_of_not_lt hi)] at e
    rw [List.getElem?_append_right (by omega)]
    simpa [hvs] using e
  refine wpAny_bind (no (thn (ht _ s6 (vs++σ) H6 _ I6 q6) fun b s7 ⟨H7,I7,q7⟩=>?_))
  have again:∀ {H8:Hp} {s8:Shared} {ys':List V},Inv Y ([]++pinsAt fp s5.heap) (vs++σ) H8 s8->N ys' H8->∃ m,m < n∧∃ i ys H,Inv Y [] (List.replicate k none++σ) H s8∧tn i s8.heap∧(∀ b∈fp,H b=none)∧W i m ys H:=fun {H8 s8 ys'} I8 n8=>by
   obtain ⟨m',hm,w8⟩:=hN ys' H8 n8
   refine ⟨m',hm,i+1,ys',H8,forget I8.unpinned,T.keep _ _ _ st5 fun b hb o e=>(I8.pin (b,o) (List.mem_append_right _ (List.mem_append_right _ (mem_pinsAt hb e)))).1,fun b hb=>?_,w8⟩
   obtain ⟨o,e,d⟩:=T.obj _ _ st5 b hb
   exact (I8.pin (b,o) (List.mem_append_right _ (List.mem_append_right _ (mem_pinsAt hb e)))).2.1
  cases b with
  | false=>
   rw [if_neg Bool.false_ne_true] at q7
   exact wpAny_pure ⟨rfl,again I7 q7⟩
  | true=>
   rw [if_pos rfl] at q7
   refine wpAny_bind (wpAny_bind (no (thn (he _ s7 (vs++σ) H7 _ I7 q7) fun y s8 ⟨y',H8,I8,ry,q8,l8,n8⟩=>?_)))
   exact wpAny_bind (no (thn (mt_append _ s8 (vs++σ) H8 (.ref D) [y'] (.ref D) [y] (fun _ H'=>N (ys++[y']) H') I8 rfl (.cons ry .nil) ⟨D,ys,y',rfl,rfl,q8,l8,n8⟩) fun _ s9 ⟨_,H9,I9,_,q9⟩=>wpAny_pure (wpAny_pure ⟨rfl,again I9 q9⟩)))
structure CompOk (X:Cx) (scope:Scope) (N':List Str) (k:Nat):Prop where
 cell:∀ y∈scope.names,y.2 ≠ .cell
 kind:scope.kind=.function
 names:∀ y∈scope.names,y.2=.local->scope.names.lookup y.1=some .local
 free:∀ y∈scope.names,y.2=.free->X.env.scope.names.lookup y.1=some .cell
 len:N'.length=k+X.N.length
 sub:∀ i x,N'[k+i]? = some x->scope.names.lookup x=some .free->X.N[i]? = some x
 loc:∀ i x,N'[k+i]? = some x->scope.names.lookup x ≠ some .local
theorem CompOk.cells {scope:Scope}{N':List Str}{k:Nat}{pins:List (Addr × Obj)}{σ:St}{H:Hp}{s:Shared}(c:CompOk X scope N' k) (I:Inv X pins σ H s):∀ y∈scope.names,y.2=.free->∃ a,X.env.cells.lookup y.1=some a:=fun y hy e=>
 I.ok.has y.1 (.inl (c.free y hy e))
theorem inv_comp {scope:Scope}{N':List Str}{k:Nat}{pins:List (Addr × Obj)}{σ:St}{H:Hp}{s s₄:Shared}{fp:List Addr}{m:Str->Option Value}(c:CompOk X scope N' k) (hc:X.calm=true) (I:Inv X pins σ H s)
  (hf:∀ b∈fp,FpOk X pins H b) (hfl:∀ b∈fp,b < s.heap.objs.size) (hb:∀ b∈fp,X.base.get? b=none) (hns:s₄.heap.Ns s.heap.objs.size m) (hk:∀ b o,s.heap.get? b=some o->s₄.heap.get? b=some o) (ho:s₄.os=s.os) (hg:s₄.gens=s.gens) :
  Inv (cCx X scope N' s.heap.objs.size s H fp (X.pn++pins)) [] (List.replicate k none++σ) H s₄:=by
 have hcl:=c.cells I
 have sub:∀ x a,(clOf X.env.cells scope.names []).lookup x=some a->X.env.cells.lookup x=some a:=fun x a e=>by
  rcases clOf_sub hcl e with q|q
  ·simp at q
  ·exact q
 have kinds:∀ x,(compEnvC scope (clOf X.env.cells scope.names []) s.heap.objs.size X.env).kindOf x=some .cell∨(compEnvC scope (clOf X.env.cells scope.names []) s.heap.objs.size X.env).kindOf x=some .free->scope.names.lookup x=some .free:=fun x hx=>by
  have e:(compEnvC scope (clOf X.env.cells scope.names []) s.heap.objs.size X.env).kindOf x=(scope.names.lookup x).map fun k=>if (k == NameKind.free && X.env.scope.kind == .function && X.env.kindOf x == some .cell) then NameKind.cell else k:=lookup_relabel
  rw [e] at hx
  cases q:scope.names.lookup x with
  | none=>rw [q] at hx;simp at hx
  | some j=>
   rw [q] at hx
   have hj:j ≠ .cell:=c.cell (x,j) (lookup_mem q)
   cases j<;>simp_all
 have fresh:∀ b,s.heap.objs.size≤b->s.heap.get? b=none:=fun b hb=>Heap.get?_none_of_le hb
 have ne:∀ b o,s.heap.get? b=some o->b ≠ s.heap.objs.size:=fun b o e=>Nat.ne_of_lt (Heap.lt_size e)
 have cl_lt:∀ x a,X.env.cells.lookup x=some a->a < s.heap.objs.size:=fun x a e=>by
  obtain ⟨v,o,h1,_⟩:=I.cell x a e
  exact Heap.lt_size h1
 refine ⟨⟨I.ok.mod,c.kind,I.ok.glob,I.ok.blt,Nat.le_refl _,fun x y a e1 e2=>I.ok.inj x y a (sub x a e1) (sub y a e2),fun x hx=>clOf_has hcl (kinds x hx),(fun _ _ z=>nomatch z),I.ok.hd,I.ok.frames,.inl rfl,fun b hb'=>⟨Nat.ne_of_lt (hfl b hb'),fun x a e=>(hf b hb').2.2.2.2.1 x a (sub x a e)⟩,
   I.bs,Nat.le_trans I.ok.bsz I.sz,(fun b o e hb'=>by rw [hb b hb'] at e;cases e),fun b hb' hz=>?_,I.stack,I.stkFree⟩,ho,by rw [hg];exact I.bare,Un.kept hk,⟨m,hns,fun i x v e1 e2 e3=>?_⟩,fun x a e=>?_,I.hok.fresh (Nat.le_refl _),fun x a e=>I.freeC x a (sub x a e),fun p hp=>?_,I.hok.kept hk,?_⟩
 ·rcases List.mem_cons.mp (I.stkSub b hz) with z|z
  ·exact (hf b hb').2.1 z
  ·exact (hf b hb').2.2.1 z
 ·have hi:k≤i:=by
   refine Nat.le_of_not_lt fun hi=>?_
   rw [List.getElem?_append_left (by simpa using hi)] at e2
   simp [List.getElem?_replicate,hi] at e2
  obtain ⟨j,rfl⟩:∃ j,i=k+j:=⟨i - k,by omega⟩
  rw [List.getElem?_append_right (by simp)] at e2
  have e2':σ[j]? = some (some v):=by simpa using e2
  have e:(relabel scope X.env).names.lookup x=(scope.names.lookup x).map fun k=>if (k == NameKind.free && X.env.scope.kind == .function && X.env.kindOf x == some .cell) then NameKind.cell else k:=lookup_relabel
  have hfree:scope.names.lookup x=some .free:=by
   cases q:scope.names.lookup x with
   | none=>
    rcases e3 with z|z|z
    all_goals (have z':(relabel scope X.env).names.lookup x=some _:=z;rw [e,q] at z';simp at z')
   | some j'=>
    have h1:j' ≠ .cell:=c.cell (x,j') (lookup_mem q)
    have h2:j' ≠ .local:=fun z=>c.loc j x e1 (by rw [q,z])
    rcases e3 with z|z|z
    all_goals (have z':(relabel scope X.env).names.lookup x=some _:=z;rw [e,q] at z';cases j'<;>simp_all)
  have hX:=c.sub j x e1 hfree
  have hcellX:=c.free (x,.free) (lookup_mem hfree) rfl
  obtain ⟨m0,hn0,hl0⟩:=I.loc
  obtain ⟨u,r,l⟩:=hl0 j x v hX e2' (.inr (.inl hcellX))
  refine ⟨u,r,?_⟩
  rcases l with ⟨z,_⟩|⟨_,a,ea,hz⟩
  ·have z':X.env.scope.names.lookup x=some .local:=z
   rw [hcellX] at z';cases z'
  ·obtain ⟨a',ea'⟩:=clOf_has (acc:=[]) hcl hfree
   have e4:=sub x a' ea'
   rw [ea] at e4
   cases e4
   refine .inr ⟨.inl ?_,a,ea',?_⟩
   ·show (relabel scope X.env).names.lookup x=some .cell
    rw [e,hfree]
    have k1:(X.env.scope.kind == .function)=true:=by rw [I.ok.kind];rfl
    have k2:(X.env.kindOf x == some .cell)=true:=by
     have:X.env.kindOf x=some .cell:=hcellX
     rw [this];rfl
    simp [k1,k2]
   ·obtain ⟨o,h1,h2⟩:=hz
    exact ⟨o,hk _ _ h1,h2⟩
 ·obtain ⟨v,o,h1,h2⟩:=I.cell x a (sub x a e)
  exact ⟨v,o,hk _ _ h1,h2⟩
 ·have hp':p∈X.pn++pins:=by simpa using hp
  obtain ⟨e,n,nl,nf,d⟩:=I.pin p hp'
  refine ⟨hk _ _ e,n,ne _ _ e,fun z=>?_,d⟩
  rcases List.mem_cons.mp (I.stkSub _ z) with z|z
  ·exact nl z
  ·exact nf z
 ·show (List.replicate k none++σ).length=N'.length
  rw [c.len,List.length_append,List.length_replicate,I.len]
theorem comp_block {elt iter tg:Expr}{ifs:List Expr}{scope:Scope}{pos:Pos}{g:TG}{tt:TT}{te:TE}{N':List Str}{k:Nat}{it:Addr}{J:It}{fp:List Addr}{tn:Nat->Heap->Prop}{pins:List (Addr × Obj)}{σ:St}{H:Hp}{s:Shared}{Q:VK}{RR:Value->Addr->Result->Shared->Prop}{E:Value->Shared->Prop}
  (c:CompOk X scope N' k) (hc:X.calm=true) (I:Inv X pins σ H s) (T:Turn X.prog X.w X.K tg J fp it tn) (st:tn 0 s.heap) (hf:∀ b∈fp,FpOk X pins H b)
  (hg:∀ C s₀ H₀ ex pn,PG (cCx X scope N' C s₀ H₀ ex pn) tg g) (ht:∀ C s₀ H₀ ex pn,PTs (cCx X scope N' C s₀ H₀ ex pn) ifs tt) (he:∀ C s₀ H₀ ex pn,PE (cCx X scope N' C s₀ H₀ ex pn) elt te)
  (h:∀ D,H D=none->∃ W:Nat->Nat->List V->Hp->Prop,(∃ m,W 0 m [] (upd H D (.lst [])))∧∀ i m ys H,W i m ys H →
   (J.stop i H∧Q (.ref D) H)∨(J.go i H∧∃ N:List V->Hp->Prop,(∀ ys' H',N ys' H'->∃ m',m' < m∧W (i+1) m' ys' H') ∧
    ∀ x H',J.yld i H x H'->g x (List.replicate k none++σ) H' fun σ2 H2=>(∃ vs:St,vs.length=k∧σ2=vs++σ)∧tt σ2 H2 fun b H3=>if b=true then te σ2 H3 fun y H4=>H4 D=some (.lst ys)∧ys.length < sizeLine∧N (ys++[y]) (upd H4 D (.lst (ys++[y]))) else N ys H3))
  (fin:∀ D C s' H' m,s'.heap.Ns C m->C ≠ X.env.locals->(∀ x a,X.env.cells.lookup x=some a->a ≠ C)->(H' C=none∧X.s₀.heap.objs.size≤C∧∀ p∈X.pn++pins,p.1 ≠ C)->(∀ h',Heap.SameBut C s'.heap h'->Inv X pins σ H' { s' with heap:=h' })->Q (.ref D) H'->RR (.ref D) C (.ok .next) s') :
  wpAny (model X.prog X.w) X.A (newList []) (fun acc s₃=>wpAny (model X.prog X.w) X.A (newFunctionEnv scope X.env.globals (clOf X.env.cells scope.names []) [] X.env.qual none .none (some X.env)) (fun cenv s₄=>
   codeAny (model X.prog X.w) X.A (.compStart (.ListComp elt [⟨tg,iter,ifs,0⟩] scope pos) 0 (.ref it) acc { cenv with scope:=relabel scope X.env }) (RR acc cenv.locals) s₄) E s₃) E s:=by
 refine wpAny_newObj_type (wpAny_newFunctionEnv c.cell (by intro y hy;simp at hy) (fun h₁ hns₁ hsb₁=>?_) c.kind)
 dsimp only at hns₁ hsb₁ ⊢
 have I3:Inv X pins σ (upd H s.heap.objs.size (.lst [])) { s with heap:=s.heap.push { cls:=.type "list",data:=.seq ([]:List Value).toArray },toks:=s.toks }:=I.lnew (ys:=[]) (its:=[]) .nil (Nat.zero_le _)
 generalize hH2:s.heap.push { cls:=.type "list",dict:=none,data:=.seq ([]:List Value).toArray }=hp at hns₁ hsb₁ I3 ⊢
 have hlt:∀ b o,s.heap.get? b=some o->hp.get? b=some o:=fun b o e=>by rw [←hH2];exact Heap.get?_push_of_some _ e
 have hnD:H s.heap.objs.size=none:=I.hok.fresh (Nat.le_refl _)
 have kp:∀ b o,hp.get? b=some o->h₁.get? b=some o:=fun b o e=>hsb₁.extBut b o (Nat.ne_of_lt (Heap.lt_size e)) (Heap.get?_push_of_some _ e)
 have stk:∀ b∈fp,s.heap.get? b ≠ none:=fun b hb z=>by
  obtain ⟨o,e,_⟩:=T.obj _ _ st b hb
  rw [z] at e;cases e
 have flt:∀ b∈fp,b < s.heap.objs.size:=fun b hb=>by
  obtain ⟨o,e,_⟩:=T.obj _ _ st b hb
  exact Heap.lt_size e
 have fpD:∀ b∈fp,b ≠ s.heap.objs.size:=fun b hb=>Nat.ne_of_lt (flt b hb)
 have hf3:∀ b∈fp,FpOk X pins (upd H s.heap.objs.size (.lst [])) b:=fun b hb=>by
  obtain ⟨a1,a2⟩:=hf b hb
  exact ⟨by rw [upd_ne (fpD b hb)];exact a1,a2⟩
 have hnb:∀ b∈fp,X.base.get? b=none:=fun b hb=>by
  cases e:X.base.get? b with
  | none=>rfl
  | some o=>
   rcases (hf b hb).2.2.2.1 with z|z
   ·exact absurd z (I.ok.noex b o e)
   ·have:=Heap.lt_size (I.ok.bs b o e).1
    exact absurd (Nat.lt_of_lt_of_le this z) (Nat.lt_irrefl _)
 have hsz:s.heap.objs.size < hp.objs.size:=by rw [←hH2,Heap.size_push];exact Nat.lt_succ_self _
 have IY:=inv_comp (s₄:={ s with heap:=h₁,toks:=s.toks+([]:List (Str × Value)).length }) (fp:=fp) c hc I3 hf3 (fun b hb=>Nat.lt_trans (flt b hb) hsz) hnb hns₁ kp rfl rfl
 obtain ⟨W,⟨m0,w0⟩,turn⟩:=h s.heap.objs.size hnD
 have run:=comp_loop (Y:=cCx X scope N' hp.objs.size { s with heap:=hp,toks:=s.toks } (upd H s.heap.objs.size (.lst [])) fp (X.pn++pins)) (tg:=tg) (elt:=elt) (iter:=iter) (ifs:=ifs) (scope:=scope) (pos:=pos) (it:=it) (D:=s.heap.objs.size) (k:=k) (σ:=σ) (Q:=Q)
  hc rfl (hg _ _ _ _ _) (ht _ _ _ _ _) (he _ _ _ _ _) T (fun H' hn b hb=>⟨hn b hb,Nat.ne_of_lt (Nat.lt_trans (flt b hb) hsz),fun z=>(IY.ok.exfs b hb) z,.inl hb,fun x a e=>(IY.ok.exf b hb).2 x a e,fun p hp=>by
   have hp':p∈X.pn++pins:=by simpa using hp
   exact (hf b hb).2.2.2.2.2 p hp'⟩) W turn m0
 have st₁:tn 0 h₁:=T.keep _ _ _ st fun b hb o e=>kp b o (hlt b o e)
 have go:=run { s with heap:=h₁,toks:=s.toks+([]:List (Str × Value)).length } ⟨0,[],_,IY,st₁,fun b hb=>(hf3 b hb).1,w0⟩
 have out:∀ r s',(r=Except.ok Flow.next∧∃ H',Inv (cCx X scope N' hp.objs.size { s with heap:=hp,toks:=s.toks } (upd H s.heap.objs.size (.lst [])) fp (X.pn++pins)) [] (List.replicate k none++σ) H' s'∧Q (.ref s.heap.objs.size) H')->RR (.ref s.heap.objs.size) hp.objs.size r s':=by
  rintro r s' ⟨rfl,H',J',q⟩
  obtain ⟨m,hn,_⟩:=J'.loc
  have hC:hp.objs.size ≠ X.env.locals:=Nat.ne_of_gt (Nat.lt_of_lt_of_le I.lt (Nat.le_of_lt hsz))
  refine fin _ _ s' H' m hn hC (fun x a e=>?_) ⟨J'.free,Nat.le_trans I.sz (Nat.le_of_lt hsz),fun p hp'=>Nat.ne_of_lt (Nat.lt_trans (Heap.lt_size (I.pin p hp').1) hsz)⟩ (fun h' hs'=>?_) q
  ·obtain ⟨v,o,h1,_⟩:=I.cell x a e
   exact Nat.ne_of_lt (Nat.lt_trans (Heap.lt_size h1) hsz)
  ·refine I.call' (ch:=fp) ?_ ?_ ?_ J'.bare fun b hb=>⟨(hf b hb).2.2.2.1,(hf b hb).2.1,(hf b hb).2.2.2.2.1,(hf b hb).2.2.2.2.2⟩
   ·exact J'.os
   ·have u1:Un (frs X.stack) fp H (upd H s.heap.objs.size (.lst [])) s.heap hp:=Un.laid hlt (Nat.le_refl _) hnD
    exact (u1.trans J'.base).but hs' fun b o e=>Nat.ne_of_lt (Nat.lt_trans (Heap.lt_size e) hsz)
   ·exact J'.hok.but J'.free hs'
 exact codeAny_compStart_list (codeAny_mono go out) (T.self _ 0 _ _ _ st₁ (codeAny_mono go out))
theorem pe_comp {elt iter tg:Expr}{ifs:List Expr}{scope:Scope}{pos:Pos}{wi:TI}{g:TG}{tt:TT}{te:TE}{N':List Str}{k:Nat}
  (c:CompOk X scope N' k) (hc:X.calm=true) (hi:PI X tg iter wi)
  (hg:∀ C s₀ H₀ ex pn,PG (cCx X scope N' C s₀ H₀ ex pn) tg g) (ht:∀ C s₀ H₀ ex pn,PTs (cCx X scope N' C s₀ H₀ ex pn) ifs tt) (he:∀ C s₀ H₀ ex pn,PE (cCx X scope N' C s₀ H₀ ex pn) elt te)
  (hs:∀ x,foldedSetIterable iter X.env x=pure x:=by intro _;rfl):PE X (.ListComp elt [⟨tg,iter,ifs,0⟩] scope pos) (tComp k wi g tt te):=by
 intro pins s σ H Q I h
 rw [PySem.eval_ListComp]
 refine PySem.wpAny_comprehension_free (use:=none) rfl hs (closureFor_eq (c.cells I)) c.kind c.names (thn (hi pins s σ H _ I h) fun v s1 h1=>thn h1 fun itv s2 h2=>?_)
 obtain ⟨it,fp,tn,J,H2,rfl,I2,T,st2,f2,hW⟩:=h2
 refine comp_block (RR:=fun acc C=>PySem.compPost (model X.prog X.w) X.A X.xe none (EP X pins σ Q) acc C) c hc I2 T st2 f2 hg ht he hW ?_
 intro D C s' H' m hn _ _ _ hI q
 exact ⟨m,hn,fun h' hs'=>⟨.ref D,H',hI h' hs',rfl,q⟩⟩
def tSetC (i:Nat) (te:TE):TS:=fun D σ H=>te σ H fun x H1=>D.nx (σ.set i (some x)) H1
theorem ps_setC {elt iter tg:Expr}{ifs:List Expr}{scope:Scope}{pos spos py:Pos}{wi:TI}{g:TG}{tt:TT}{te:TE}{N':List Str}{k i:Nat}{y:Str}
  (hN:X.N.Nodup) (hi':X.N[i]? = some y) (hy:Loc X.env.scope y)
  (c:CompOk X scope N' k) (hc:X.calm=true) (hi:PI X tg iter wi)
  (hg:∀ C s₀ H₀ ex pn,PG (cCx X scope N' C s₀ H₀ ex pn) tg g) (ht:∀ C s₀ H₀ ex pn,PTs (cCx X scope N' C s₀ H₀ ex pn) ifs tt) (he:∀ C s₀ H₀ ex pn,PE (cCx X scope N' C s₀ H₀ ex pn) elt te)
  (hsw:swapsWith (.ListComp elt [⟨tg,iter,ifs,0⟩] scope pos) (some (.Name y py)) spos.line X.env=pure true:=by rfl)
  (hs:∀ x,foldedSetIterable iter X.env x=pure x:=by intro _;rfl) (hf:X.fn y=true∨X.env.scope.names.lookup y=some .local:=by first|exact .inl rfl|exact .inr rfl|assumption) :
  PS X (.Assign [.Name y py] (.ListComp elt [⟨tg,iter,ifs,0⟩] scope pos) spos) (tSetC i (tComp k wi g tt te)):=by
 intro pins s σ H D I h
 rw [PySem.exec_Assign_Name_used _ _ _ _ hsw]
 refine wpAny_bind (wpAny_standAt (wpAny_bind ?_))
 show wpAny _ X.A (do let _ ←comprehension (.ListComp elt [⟨tg,iter,ifs,0⟩] scope pos) scope X.env _ (newList []) false (eval iter X.env) (some (assign (.Name y py) X.env))) _ _ s
 refine wpAny_bind (thn (PySem.wpAny_comprehension_free (use:=some (assign (.Name y py) X.env)) (Q:=fun _ s'=>SP X pins D .next s') rfl hs (closureFor_eq (c.cells I)) c.kind c.names (thn (hi pins s σ H _ I h) fun v s1 h1=>thn h1 fun itv s2 h2=>?_)) fun _ s' hq=>wpAny_pure (wpAny_pure hq))
 obtain ⟨it,fp,tn,J,H2,rfl,I2,T,st2,f2,hW⟩:=h2
 refine comp_block (Q:=fun x H1=>D.nx (σ.set i (some x)) H1) (RR:=fun acc C=>PySem.compPost (model X.prog X.w) X.A X.xe (some (assign (.Name y py) X.env)) (fun _ s'=>SP X pins D .next s') acc C) c hc I2 T st2 f2 hg ht he hW ?_
 intro D' C s' H' m hn hCl hCc hCo hI q
 show wpAny _ X.A (assign (.Name y py) X.env (.ref D')) _ _ s'
 have I':Inv X pins σ H' s':=hI s'.heap (Heap.SameBut.refl _ _)
 refine wpAny_assign_Name (store_ok2 I' hN hi' hy (show RelV (.ref D') (.ref D') from rfl) (fun s'' I'' ⟨a,sb,ha⟩=>?_) hf)
 have hCa:C ≠ a:=by
  rcases ha with rfl|ha
  ·exact hCl
  ·exact fun z=>hCc _ _ ha z.symm
 refine ⟨m,hn.sameBut sb hCa,fun h' hs'=>⟨_,H',?_,q⟩⟩
 exact I''.turned (t':=s''.toks) (fun b o hb e=>(hs'.2 b hb).trans e) hCo.1 hCl (.inr hCo.2.1) hCc hCo.2.2
end
end L2
set_option Elab.async false
set_option linter.all false
set_option maxRecDepth 100000
set_option maxHeartbeats 4000000
namespace L2
open PySem PySem.Spec PyProof.Rows
def ExcAt (h:Heap) (e:Addr) (cls:Value) (d:Option Addr) (T:Addr):Prop:=
 ∃ oe vs oT ts,h.get? e=some oe∧oe.cls=cls∧oe.dict=d∧oe.data=.fields vs∧vs[1]? = some (.ref T)∧T ≠ e∧h.get? T=some oT∧oT.data=.fields ts∧ts[3]? = some .none∧vs[2]? = some .none
def CX1 (P:Program) (w:World):CXT:=fun outer H s E ev s'=>∃ e T cls d H',ev=.ref e∧s'.os=s.os∧AllBare s'.gens∧Un (frs outer) [] H H' s.heap s'.heap∧HOk P w H' s'.heap ∧
 s.heap.get? e=none∧s.heap.get? T=none∧H' e=none∧H' T=none∧ExcAt s'.heap e cls d T∧(∀ dx,d=some dx->∃ fs,H' dx=some (.xd fs))∧E cls d H'
theorem dict_mapF (f:Array Value->Array Value) (o:Obj):(Obj.mapFields f o).dict=o.dict:=by
 unfold Obj.mapFields;split<;>rfl
structure Noted (fs:List Addr) (e:Addr) (no:Addr->Prop) (h h':Heap):Prop where
 keep:∀ b o,b ≠ e->¬ no b->b ∉ fs->h.get? b=some o->h'.get? b=some o
 slot:∀ b o,b ≠ e->¬ no b->b∈fs->h.get? b=some o->∃ sl,h'.get? b=some { o with slots:=sl }
 size:h.objs.size≤h'.objs.size
section
variable {M:Model}{A:Around}{E:Value->Shared->Prop}{s:Shared}
theorem entry1 {base:Heap}{env:Env}{outer:List Env}{L e:Addr}{oe:Obj}{vs:Array Value}{head:Value}{hadNext:Bool}{Q:Unit->Shared->Prop}
  (hfr:A.frames=some (env::outer)) (hl:s.heap.FunFrames base (env::outer)) (hf:env.frame=some L) (he:s.heap.get? e=some oe) (hd:oe.data=.fields vs) (hsz:1 < vs.size) (h2c:vs[2]? = some .none)
  (hQ:∀ h',Noted (frs (env::outer)) e (fun _=>False) s.heap h'->(∃ T oe' vs' oT ts,s.heap.get? T=none∧h'.get? e=some oe'∧oe'.cls=oe.cls∧oe'.dict=oe.dict∧oe'.data=.fields vs'∧vs'[1]? = some (.ref T)∧T ≠ e∧h'.get? T=some oT∧oT.data=.fields ts∧ts[3]? = some (rawInt L)∧vs'[2]? = some .none)->Q () { s with heap:=h' }) :
  wpAny M A (do let a ←frameOf env;let pl ←entryPlaceOf L hadNext;let b ←EntryCells.newEntry head a .none (rawInt L) .none pl;setField (.ref e) 1 b) Q E s:=by
 have efr:e ∉ frs (env::outer):=fun z=>by
  obtain ⟨_,o,q1,q2⟩:=hl.mem z
  rw [he] at q1
  cases q1
  exact q2 vs hd
 refine wpAny_bind (wpAny_frameOf_fun hfr hl hf fun g1 sg=>?_)
 refine wpAny_bind (wpAny_entryPlaceOf fun pl ipl=>?_)
 unfold EntryCells.newEntry newFields
 refine wpAny_bind (wpAny_newObj_type ?_ (ipl.sizeOk5 _ _ _ _ _))
 have e1:g1.get? e=some oe:=(sg.2.1 e efr).trans he
 generalize hnew:({ cls:=.type "traceback",dict:=none,data:=.fields ([head,.ref L,.none,rawInt L,.none]++(if pl.isEmpty then List.replicate 6 Value.none else pl)).toArray }:Obj)=oN
 have dN:oN.data=.fields ([head,.ref L,.none,rawInt L,.none]++(if pl.isEmpty then List.replicate 6 Value.none else pl)).toArray:=by rw [←hnew]
 have e2:(g1.push oN).get? e=some oe:=Heap.get?_push_of_some _ e1
 refine wpAny_setField e2 hd hsz (hQ _ ?_ ?_)
 ·have other:∀ b o,b ≠ e->g1.get? b=some o->((g1.push oN).update e (Obj.mapFields (·.setIfInBounds 1 (Value.ref g1.objs.size)))).get? b=some o:=fun b o hb q=>by
   rw [Heap.get?_update_other _ _ (Ne.symm hb)]
   exact Heap.get?_push_of_some _ q
  refine ⟨fun b o hb _ hfs q=>other b o hb ((sg.2.1 b hfs).trans q),fun b o hb _ _ q=>?_,?_⟩
  ·obtain ⟨sl,q'⟩:=sg.2.2 b o q
   exact ⟨sl,other b _ hb q'⟩
  ·have z1:g1.objs.size=s.heap.objs.size:=sg.1
   have z2:=((Heap.SameBut.update (g1.push oN) e (Obj.mapFields (·.setIfInBounds 1 (Value.ref g1.objs.size))))).1
   rw [z2,Heap.size_push]
   omega
 ·have ne:g1.objs.size ≠ e:=Nat.ne_of_gt (Heap.lt_size e1)
  have d3:=Obj.data_mapFields hd (·.setIfInBounds 1 (Value.ref g1.objs.size))
  refine ⟨g1.objs.size,_,_,oN,_,?_,Heap.get?_update_self _ e2 (Obj.isFreed_of_fields d3),Obj.cls_mapFields _ _,dict_mapF _ _,d3,by simp [hsz],ne,?_,dN,by simp,by rw [Array.getElem?_setIfInBounds_ne (by decide)];exact h2c⟩
  ·have z1:g1.objs.size=s.heap.objs.size:=sg.1
   rw [z1]
   exact Heap.get?_none_of_le (Nat.le_refl _)
  ·rw [Heap.get?_update_other _ _ (Ne.symm ne)]
   exact Heap.get?_push_size _ (Obj.isFreed_of_fields dN)
theorem flight0 {e T:Addr}{oe oT:Obj}{vs ts:Array Value}{Q:Unit->Shared->Prop}(he:s.heap.get? e=some oe) (hd:oe.data=.fields vs) (h1:vs[1]? = some (.ref T)) (hT:s.heap.get? T=some oT) (hdT:oT.data=.fields ts) (h3:3 < ts.size) (ne:T ≠ e) (h2c:vs[2]? = some .none)
  (hQ:∀ h',(∀ b,b ≠ T->h'.get? b=s.heap.get? b)->h'.objs.size=s.heap.objs.size->ExcAt h' e oe.cls oe.dict T->Q () { s with heap:=h' }):wpAny M A (setFlight (.ref e) none) Q E s:=by
 unfold setFlight
 refine wpAny_bind (wpAny_field he hd h1 ?_)
 rw [if_pos (show (Value.ref T != Value.none)=true from by simp)]
 have sb:=Heap.SameBut.update s.heap T (Obj.mapFields (·.setIfInBounds 3 ((none:Option Addr).elim Value.none fun f=>rawInt f)))
 refine wpAny_setField hT hdT h3 (hQ _ sb.2 sb.1 ?_)
 have d3:=Obj.data_mapFields hdT (·.setIfInBounds 3 ((none:Option Addr).elim Value.none fun f=>rawInt f))
 exact ⟨oe,vs,_,_,(sb.2 e (Ne.symm ne)).trans he,rfl,rfl,hd,h1,ne,Heap.get?_update_self _ hT (Obj.isFreed_of_fields d3),d3,by simp [h3],h2c⟩
theorem note_new {base:Heap}{env:Env}{outer:List Env}{L e:Addr}{oe:Obj}{vs:Array Value}{Q:Unit->Shared->Prop}
  (hfr:A.frames=some (env::outer)) (hl:s.heap.FunFrames base (env::outer)) (hf:env.frame=some L) (he:s.heap.get? e=some oe) (hd:oe.data=.fields vs) (h1:vs[1]? = some .none) (h2c:vs[2]? = some .none)
  (hQ:∀ h' T,Noted (frs (env::outer)) e (fun _=>False) s.heap h'->s.heap.get? T=none->ExcAt h' e oe.cls oe.dict T->Q () { s with heap:=h' }) :
  wpAny M A (noteFrame (.ref e) env) (fun _ s2=>wpAny M A (setFlight (.ref e) none) Q E s2) E s:=by
 unfold noteFrame
 simp only [hf]
 refine wpAny_bind (wpAny_field he hd h1 ?_)
 rw [if_neg (by decide)]
 refine entry1 hfr hl hf he hd (Array.getElem?_eq_some_iff.mp h1).1 h2c fun g ng hx=>?_
 obtain ⟨T,oe',vs',oT,ts,nT,q1,q2,q2d,q3,q4,ne,q5,q6,q7,q8⟩:=hx
 refine flight0 (s:={ s with heap:=g }) q1 q3 q4 q5 q6 (Array.getElem?_eq_some_iff.mp q7).1 ne q8 fun g' sb sz ex=>?_
 rw [q2,q2d] at ex
 have lt:∀ b o,s.heap.get? b=some o->b ≠ T:=fun b o q z=>by rw [z,nT] at q;cases q
 exact hQ g' T ⟨fun b o hb hn hfs q=>(sb b (lt b o q)).trans (ng.keep b o hb hn hfs q),fun b o hb hn hfs q=>by
  obtain ⟨sl,q'⟩:=ng.slot b o hb hn hfs q
  exact ⟨sl,(sb b (lt b o q)).trans q'⟩,Nat.le_trans ng.size (Nat.le_of_eq sz.symm)⟩ nT ex
theorem note_next {base:Heap}{env:Env}{outer:List Env}{L e T:Addr}{cls:Value}{dd:Option Addr}{Q:Unit->Shared->Prop}
  (hfr:A.frames=some (env::outer)) (hl:s.heap.FunFrames base (env::outer)) (hf:env.frame=some L) (hx:ExcAt s.heap e cls dd T) (hfe:e ∉ frs (env::outer)) (hfT:T ∉ frs (env::outer)) (hb:base.get? T=none)
  (hQ:∀ h' T',Noted (frs (env::outer)) e (fun b=>b=T) s.heap h'->s.heap.get? T'=none->ExcAt h' e cls dd T'->Q () { s with heap:=h' }) :
  wpAny M A (noteFrame (.ref e) env) (fun _ s2=>wpAny M A (setFlight (.ref e) none) Q E s2) E s:=by
 obtain ⟨oe,vs,oT,ts,he,rfl,rfl,hd,h1,ne,hT,hdT,h3,h2c⟩:=hx
 unfold noteFrame
 simp only [hf]
 refine wpAny_bind (wpAny_field he hd h1 ?_)
 rw [if_pos (show (Value.ref T != Value.none)=true from by simp)]
 refine wpAny_bind (wpAny_field hT hdT h3 ?_)
 rw [if_neg (show ¬ ((Value.none == rawInt L)=true) from by simp [rawInt])]
 have sb0:=Heap.SameBut.update s.heap T (Obj.mapFields (·.setIfInBounds 3 Value.none))
 refine wpAny_bind (wpAny_setField hT hdT (Array.getElem?_eq_some_iff.mp h3).1 ?_)
 generalize hg0:s.heap.update T (Obj.mapFields (·.setIfInBounds 3 Value.none))=g0 at sb0
 have fl:g0.FunFrames base (env::outer):=hl.of_keeps fun b o q hnf=>⟨o,(sb0.2 b (fun z=>by rw [z,hT] at q;cases q;exact hnf ts hdT)).trans q,rfl⟩
 have he0:g0.get? e=some oe:=(sb0.2 e (Ne.symm ne)).trans he
 refine entry1 (s:={ s with heap:=g0 }) hfr fl hf he0 hd (Array.getElem?_eq_some_iff.mp h1).1 h2c fun g ng hx=>?_
 obtain ⟨T',oe',vs',oT',ts',nT,q1,q2,q2d,q3,q4,ne',q5,q6,q7,q8⟩:=hx
 refine flight0 (s:={ s with heap:=g }) q1 q3 q4 q5 q6 (Array.getElem?_eq_some_iff.mp q7).1 ne' q8 fun g' sb sz ex=>?_
 rw [q2,q2d] at ex
 have tT:T ≠ T':=fun z=>by
  subst z
  have:=Heap.get?_update_self (Obj.mapFields (·.setIfInBounds 3 Value.none)) hT (Obj.isFreed_of_fields (Obj.data_mapFields hdT _))
  rw [hg0] at this
  have nT':g0.get? T=none:=nT
  rw [this] at nT'
  cases nT'
 have nT0:s.heap.get? T'=none:=(sb0.2 T' (Ne.symm tT)).symm.trans nT
 have lt:∀ b o,s.heap.get? b=some o->b ≠ T':=fun b o q z=>by rw [z,nT0] at q;cases q
 exact hQ g' T' ⟨fun b o hb hn hfs q=>(sb b (lt b o q)).trans (ng.keep b o hb (fun z=>z) hfs ((sb0.2 b hn).trans q)),fun b o hb hn hfs q=>by
  obtain ⟨sl,q'⟩:=ng.slot b o hb (fun z=>z) hfs ((sb0.2 b hn).trans q)
  exact ⟨sl,(sb b (lt b o q)).trans q'⟩,Nat.le_trans (Nat.le_of_eq sb0.1.symm) (Nat.le_trans ng.size (Nat.le_of_eq sz.symm))⟩ nT0 ex
end
theorem HOk.noted {P:Program}{w:World}{H:Hp}{h h':Heap}{fs:List Addr}{e:Addr}{no:Addr->Prop}(ok:HOk P w H h) (n:Noted fs e no h h') (he:H e=none) (hn:∀ b,no b->H b=none) (hf:∀ b∈fs,H b=none):HOk P w H h':=fun b ob q=>by
 refine (ok b ob q).stay (fun c v hc r=>n.keep c v ?_ ?_ ?_ r) (fun _ z=>z) fun _ _ z=>z
 all_goals
  rcases hc with z|z
  all_goals intro k
 ·rw [←z,k,he] at q;cases q
 ·rw [k,he] at z;cases z
 ·rw [←z,hn _ k] at q;cases q
 ·rw [hn _ k] at z;cases z
 ·rw [←z,hf _ k] at q;cases q
 ·rw [hf _ k] at z;cases z
theorem Un.noted {fs fs':List Addr}{H H':Hp}{h h1 h2:Heap}{e:Addr}{no:Addr->Prop}(u:Un fs [] H H' h h1) (n:Noted fs' e no h1 h2) (he:h.get? e=none) (hn:∀ b,no b->h.get? b=none) (hs:∀ b∈fs',b∈fs∨h.get? b=none):Un fs [] H H' h h2:=by
 have ne:∀ b o,h.get? b=some o->b ≠ e∧¬ no b:=fun b o q=>⟨fun z=>(by rw [z,he] at q;cases q),fun z=>(by rw [hn b z] at q;cases q)⟩
 have nf:∀ b o,h.get? b=some o->b ∉ fs->b ∉ fs':=fun b o q hb z=>by
  rcases hs b z with k|k
  ·exact hb k
  ·rw [k] at q;cases q
 refine ⟨fun b o q a hb hx=>n.keep b o (ne b o q).1 (ne b o q).2 (nf b o q hb) (u.keep b o q a hb hx),fun b o q a hb hx=>?_,u.free,fun b o q hx=>?_,u.tups,u.frzs,u.tbls⟩
 ·obtain ⟨sl,r⟩:=u.slot b o q a hb hx
  by_cases hb':b∈fs'
  ·obtain ⟨sl',r'⟩:=n.slot b _ (ne b o q).1 (ne b o q).2 hb' r
   exact ⟨sl',r'⟩
  ·exact ⟨sl,n.keep b _ (ne b o q).1 (ne b o q).2 hb' r⟩
 ·obtain ⟨o',r⟩:=u.there b o q hx
  by_cases hb':b∈fs'
  ·obtain ⟨sl',r'⟩:=n.slot b _ (ne b o q).1 (ne b o q).2 hb' r
   exact ⟨_,r'⟩
  ·exact ⟨_,n.keep b _ (ne b o q).1 (ne b o q).2 hb' r⟩
def PassAt (CX:CXT) (X:Cx) (E:XK) (σ:St):Prop:=∀ (pins:List (Addr × Obj)) (H:Hp) (s:Shared) (e:Value) (s':Shared),Inv X pins σ H s->CX X.stack H s E e s'->X.xe e s'
def RaisesAt (X:Cx) (E:XK) (σ:St):Prop:=∀ (pins:List (Addr × Obj)) (H:Hp) (s:Shared) (h':Heap) (e:Addr) (C:Addr) (us:List Value),Inv X pins σ H s->Heap.MadeExcOf s.heap h' e (.ref C) us->E (.ref C) none H->X.xe (.ref e) { s with heap:=h' }
theorem ObjOk.there {P:Program}{w:World}{H:Hp}{h:Heap}{a:Addr}{o:HO}(x:ObjOk P w H h a o):∃ ob,h.get? a=some ob:=by
 cases o with
 | lst xs=>obtain ⟨_,_,_,_,e⟩:=x;exact ⟨_,e⟩
 | tup xs=>obtain ⟨_,_,_,ob,e,_⟩:=x;exact ⟨ob,e⟩
 | dK kvs=>obtain ⟨_,_,_,_,ob,_,_,e,_⟩:=x;exact ⟨ob,e⟩
 | dT kvs=>obtain ⟨_,_,_,_,ob,_,_,e,_⟩:=x;exact ⟨ob,e⟩
 | set S n=>obtain ⟨ob,_,_,_,e,_⟩:=x;exact ⟨ob,e⟩
 | ins C dx fs=>obtain ⟨_,_,_,e,_⟩:=x;exact ⟨_,e⟩
 | own y=>exact x
 | xd fs=>obtain ⟨_,⟨ob,_,_,e,_⟩,_⟩:=x;exact ⟨ob,e⟩
 | rng lo hi=>obtain ⟨_,_,_,e⟩:=x;exact ⟨_,e⟩
 | frz ob u=>exact ⟨_,x.1⟩
 | tbl ps=>exact ⟨_,x⟩
 | met f y=>exact ⟨_,x⟩
 | ext φ=>exact x.2.1
theorem HOk.gone {P:Program}{w:World}{H:Hp}{h:Heap}{a:Addr}(ok:HOk P w H h) (e:h.get? a=none):H a=none:=by
 cases q:H a with
 | none=>rfl
 | some o=>
  obtain ⟨ob,z⟩:=(ok a o q).there
  rw [e] at z;cases z
theorem Un.gone {fs:List Addr}{H H':Hp}{h h1:Heap}{a:Addr}(u:Un fs [] H H' h h1) (e:h1.get? a=none):h.get? a=none:=by
 cases q:h.get? a with
 | none=>rfl
 | some o=>
  obtain ⟨o',z⟩:=u.there a o q (by simp)
  rw [e] at z;cases z
theorem raises_def {P:Program}{w:World}{K:PySem.W.Frag}{mg:Str->Option Value}{base:Heap}{N:List Str}{qual:Str}{scope:Scope}{f:Addr}{cd:Value}{A:Around}{outer:List Env}{s₀:Shared}{H₀:Hp}{E:XK}{σ:St} :
  RaisesAt (cxOf (CX1 P w) P w K mg base N qual scope f cd A outer s₀ H₀ E) E σ:=by
 intro pins H s h' e C us I hm hE
 obtain ⟨t,he,_,_⟩:=hm.there
 show wpAny (model P w) (A.deeper (envOfC qual scope s₀.heap.objs.size f cd)) (leaving (envOfC qual scope s₀.heap.objs.size f cd) (.ref e)) _ _ _
 unfold leaving
 have un:Un (frs outer) [] H₀ H s₀.heap s.heap:=I.base
 have fl:h'.FunFrames base (envOfC qual scope s₀.heap.objs.size f cd::outer):=I.stack.of_keeps fun b o q _=>⟨o,hm.keeps b o q,rfl⟩
 refine wpAny_bind (note_new (s:={ s with heap:=h' }) (base:=base) (outer:=outer) I.ok.frames fl rfl he rfl rfl rfl fun g T ng nT ex=>?_)
 have nT':s.heap.get? T=none:=by
  cases q:s.heap.get? T with
  | none=>rfl
  | some o=>
   have z:=hm.keeps T o q
   have nT2:h'.get? T=none:=nT
   rw [nT2] at z;cases z
 have u2:Un (frs outer) [] H₀ H s₀.heap h':=un.trans (Un.kept hm.keeps)
 refine ⟨e,T,.ref C,none,H,rfl,I.os,I.bare,u2.noted ng (un.gone hm.new) (fun _ z=>z.elim) (fun b hb=>?_),(I.hok.kept hm.keeps).noted ng (I.hok.gone hm.new) (fun _ z=>z.elim) I.stkFree,un.gone hm.new,un.gone nT',I.hok.gone hm.new,I.hok.gone nT',ex,(fun _ z=>nomatch z),hE⟩
 rcases List.mem_cons.mp (I.stkSub b hb) with z|z
 ·exact .inr (by rw [z];exact Heap.get?_none_of_le (Nat.le_refl _))
 ·exact .inl z
theorem passes_def {P:Program}{w:World}{K:PySem.W.Frag}{mg:Str->Option Value}{base:Heap}{N:List Str}{qual:Str}{scope:Scope}{f:Addr}{cd:Value}{A:Around}{outer:List Env}{s₀:Shared}{H₀:Hp}{E:XK} :
  Passes (CX1 P w) (cxOf (CX1 P w) P w K mg base N qual scope f cd A outer s₀ H₀ E) E:=by
 intro pins σ H s ev s' I hc
 obtain ⟨e,T,cls,dd,H',rfl,os,bare,un1,hok,ne,nT,He,HT,ex,hxd,hE⟩:=hc
 show wpAny (model P w) (A.deeper (envOfC qual scope s₀.heap.objs.size f cd)) (leaving (envOfC qual scope s₀.heap.objs.size f cd) (.ref e)) _ _ _
 unfold leaving
 have I2:Inv _ pins σ H' s':=I.call' (ch:=[]) os un1 hok bare (fun b z=>absurd z (by simp))
 have nf:∀ b,s.heap.get? b=none->b ∉ frs (envOfC qual scope s₀.heap.objs.size f cd::outer):=fun b hb z=>by
  obtain ⟨_,o,q,_⟩:=I.stack.mem z
  rw [hb] at q;cases q
 have nb:base.get? T=none:=by
  cases q:base.get? T with
  | none=>rfl
  | some o=>
   have:=I.bk T o q
   rw [nT] at this;cases this
 have fl:s'.heap.FunFrames base (envOfC qual scope s₀.heap.objs.size f cd::outer):=I2.stack
 refine wpAny_bind (note_next (base:=base) (outer:=outer) I.ok.frames fl rfl ex (nf e ne) (nf T nT) nb fun g T' ng nT' ex'=>?_)
 have un0:Un (frs outer) [] H₀ H s₀.heap s.heap:=I.base
 have un2:Un (frs outer) [] H₀ H' s₀.heap s'.heap:=I2.base
 refine ⟨e,T',cls,dd,H',rfl,I2.os,bare,un2.noted ng (un0.gone ne) (fun b z=>by rw [z];exact un0.gone nT) (fun b hb=>?_),hok.noted ng He (fun b z=>by rw [z];exact HT) I2.stkFree,un0.gone ne,un2.gone nT',He,hok.gone nT',ex',hxd,hE⟩
 rcases List.mem_cons.mp (I.stkSub b hb) with z|z
 ·exact .inr (by rw [z];exact Heap.get?_none_of_le (Nat.le_refl _))
 ·exact .inl z
section
variable {X:Cx}
def tCallX (sp:Sp) (dvs:List V) (E:St->XK) (t:TA):TE:=fun σ H Q=>t σ H fun vs H1=>sp (vs++dvs) H1 Q (E σ)
theorem pe_callX {CX:CXT}{k:Nat}{f:Addr}{fd:FuncData}{ps:List Str}{sp:Sp}{ds:List Value}{dvs:List V}{E:St->XK}{x:Str}{e:Expr}{es:List Expr}{t:TA}{p pos:Pos}
  (F:FnOk X.prog X.w X.K X.mg X.base CX k f fd ps sp) (hr:Room k X.A) (hg:Gl X x) (hm:X.mg x=some (.ref f)) (hk:PySem.W.keepIn X.K (.ref f)=true) (hb:Binds X.K fd ps ds) (hd:Vals dvs ds) (hx:∀ σ,PassAt CX X (E σ) σ)
  (ha:PA X (e::es) t) (hdb:(x == ("__debug__":Str))=false:=by decide) (he:starEach (e::es) X.env=(false,eval e X.env)::starEach es X.env:=by rfl) (hpl:(backTo pos (starEach es X.env)).any (·.1)=false:=by rfl) :
  PE X (.Call (.Name x p) (e::es) [] pos) (tCallX sp dvs E t):=by
 intro pins s σ H Q I h
 refine wpAny_Call_Name_kw (ld_glob I hg hm ?_ hdb)
 refine PySem.W.callWith_K (h₀:=X.base) I.ok.mod.kin hk (thn (ha pos pins s σ H _ I h) fun us s1 ⟨vs,H1,I1,r,q⟩=>⟨I1.kIn,?_⟩) he hpl
 have r2:Vals (vs++dvs) (us++ds):=r.append hd
 have hl:(us++ds).length=ps.length:=by rw [←r2.length];exact F.len _ _ _ _ q
 refine wpAny_call (codeAny_mono (F.run X.A X.stack s1 H1 ⟨us,[]⟩ (us++ds) (vs++dvs) Q (E σ) hr I1.env0 (hb s1 us I1.kIn hl) r2 q) fun rr s' hq=>?_)
 cases rr with
 | error ev=>exact hx σ pins H1 s1 ev s' I1 hq
 | ok fl=>
  cases fl with
  | ret u=>exact I1.after hq
  | next=>exact False.elim hq
  | brk=>exact False.elim hq
  | cont=>exact False.elim hq
set_option genInjectivity false in
structure ClsD where
 nm:Str
 q:Str
 N:Addr
 bs:List Value
 bm:List Value
 hdct:Bool
 sn:List Str
 sub:List Value
 ab:Bool
 col:Option Bool
 dd:Option Addr
 k0:Option Value
 k1:Option Value
 k2:Option Value
 k3:Option Value
 k5:Option Value
def ownIn0 (K:PySem.W.Frag) (C:Addr) (z:Option Value) (bmB:List Value) (newId:String):Bool:=match K.lookup C with
 | some ⟨.type "type",_,.cls dat,slt⟩=>(match dat.mro,slt.toList with
  | .ref C'::up,[_,_,_,_,some (.builtin n),_]=>C' == C && n == newId && !dat.hasDel && PySem.W.tailIn K bmB up && PySem.W.nsOkIn K dat.ns && PySem.W.nsIn K dat.ns "__init__" == some z
  | _,_=>false)
 | _=>false
theorem cls_op {K:PySem.W.Frag}{C:Addr}{z:Option Value}(q0:ownIn0 K C z [.type "ValueError",.type "Exception",.type "BaseException",.type "object"] "ValueError.__new__"=true) :
  ∃ c:ClsD,K.lookup C=some (excClassObj c.nm c.q C c.N c.bs c.bm c.hdct c.sn c.sub c.ab c.col c.dd c.k0 c.k1 c.k2 c.k3 c.k5 "ValueError.__new__")∧PySem.W.tailIn K [.type "ValueError",.type "Exception",.type "BaseException",.type "object"] c.bm=true∧PySem.W.nsOkIn K c.N=true∧PySem.W.nsIn K c.N "__init__"=some z:=by
 unfold ownIn0 at q0
 split at q0
 ·rename_i dd0 cdat slots0 look0
  split at q0
  ·rename_i Cx0 tl0 g0 g1 g2 g3 nw g5 em es0
   simp only [Bool.and_eq_true,beq_iff_eq,Bool.not_eq_true'] at q0<;>skip
   obtain ⟨⟨⟨⟨⟨rfl,rfl⟩,ndel⟩,tok⟩,nok⟩,noi⟩:=q0
   obtain ⟨c1,c2,c3,c4,c5,c6,c7,c8,c9,c10,c11⟩:=cdat
   dsimp only at em ndel nok noi
   subst em ndel
   obtain ⟨lst0⟩:=slots0
   have es1:lst0=[g0,g1,g2,g3,some (.builtin "ValueError.__new__"),g5]:=es0
   subst es1
   exact ⟨⟨c1,c5,c4,c2,tl0,c6,c7,c8,c9,c10,dd0,g0,g1,g2,g3,g5⟩,look0,tok,nok,noi⟩
  ·cases q0
 ·cases q0
structure OwnE (K:PySem.W.Frag) (C:Addr):Prop where
 ex:PySem.W.excIn K C [.type "ValueError",.type "Exception",.type "BaseException",.type "object"] "ValueError.__new__"=true
def tRaise (C:Addr) (E:St->XK) (t:TA):TS:=fun _ σ H=>t σ H fun vs H1=>vs.length≤sizeLine∧E σ (.ref C) none H1
theorem ps_raise {C:Addr}{x:Str}{e₀:Expr}{rest:List Expr}{np cpos pos:Pos}{t:TA}{E:St->XK}(hc:X.calm=true) (hg:Gl X x) (hmg:X.mg x=some (.ref C)) (O:OwnE X.K C) (hx:∀ σ,RaisesAt X (E σ) σ) (ha:PA X (e₀::rest) t)
  (he:starEach (e₀::rest) X.env=(false,eval e₀ X.env)::starEach rest X.env:=by rfl) (hplain:(backTo cpos (starEach rest X.env)).any (·.1)=false:=by rfl) (hdb:(x == ("__debug__":Str))=false:=by decide) :
  PS X (.Raise (some (.Call (.Name x np) (e₀::rest) [] cpos)) none pos) (tRaise C E t):=by
 intro pins s σ H D I h
 obtain ⟨c,look0,tok,nok,noi⟩:=cls_op (z:=none) O.ex
 have nsb:X.base.Ns c.N (X.base.nsMap c.N):=.of_isNs (PySem.W.isNs_of_in I.mod.kin nok)
 refine PySem.wpAny_Raise_call_subU (C:=C) (nm:=c.nm) (q:=c.q) (N:=c.N) (bs:=c.bs) (bm:=c.bm) (hdct:=c.hdct) (sn:=c.sn) (sub:=c.sub) (ab:=c.ab) (col:=c.col) (dd:=c.dd) (k0:=c.k0) (k1:=c.k1) (k2:=c.k2) (k3:=c.k3) (k5:=c.k5)
  PySem.F.excBase_ValueError (by decide +kernel) PySem.F.excBase_ValueError (mN:=X.base.nsMap c.N) ((PySem.W.tail_of_in I.kIn tok).hasType (by decide +kernel)) (I.ok.hd hc) (by rw [he];exact (Bool.false_or _).trans hplain) (PySem.W.nsMap_none_of_in I.mod.kin nok noi) (ld_glob I hg hmg ⟨rfl,?_⟩ hdb)
 have hh:=ha cpos pins s σ H _ I h
 rw [he] at hh ⊢
 exact Calls.evalArgs_plain (thn hh fun us s2 ⟨vs,H2,I2,r,hl,hE⟩=>⟨rfl,by rw [←r.length];exact hl,I2.kIn _ _ look0,nsb.keeps I2.bk,PySem.W.tail_of_in I2.kIn tok,fun h' e hm=>hx σ pins H2 s2 h' e C us I2 hm hE⟩)
abbrev Cx.mark (X:Cx) (e:Addr):Cx:={ X with A:=X.A.mark (some (.ref e)),calm:=false,xe:=fun _ _=>False }
theorem Inv.mark {pins:List (Addr × Obj)}{σ:St}{H:Hp}{s:Shared}(I:Inv X pins σ H s) (e:Addr):Inv (X.mark e) pins σ H s:=
 ⟨⟨I.ok.mod,I.ok.kind,I.ok.glob,I.ok.blt,I.ok.above,I.ok.inj,I.ok.has,I.ok.cab,(fun z=>by cases z),I.ok.frames,I.ok.stk,I.ok.exf,I.ok.bs,I.ok.bsz,I.ok.noex,I.ok.exfs,I.ok.funs,I.ok.frf⟩,I.os,I.bare,I.base,I.loc,I.cell,I.free,I.freeC,I.pin,I.hok,I.len⟩
theorem Inv.unmark {pins:List (Addr × Obj)}{σ:St}{H:Hp}{s:Shared}{e:Addr}(ok:X.Ok) (I:Inv (X.mark e) pins σ H s):Inv X pins σ H s:=
 ⟨ok,I.os,I.bare,I.base,I.loc,I.cell,I.free,I.freeC,I.pin,I.hok,I.len⟩
end
end L2
set_option Elab.async false
set_option linter.all false
set_option maxRecDepth 100000
set_option maxHeartbeats 4000000
namespace L2
open PySem PySem.Spec PyProof.Rows
structure FunX (K:PySem.W.Frag) (x qual:Str) (st:Stmt) (f:Addr) (fd:FuncData):Prop where
 ex:∃ (oc:Value) (od:Option Addr) (dV kV doc pm:Value) (an:Option Addr) (cdv ct:Value) (osl:Array (Option Value)),
  fd=PySem.W.fnOf x qual (defArgs st) (defBody st) (defScope st) dV kV doc pm an cdv ct∧K.lookup f=some ⟨oc,od,.func fd,osl⟩∧PySem.W.codeIn K cdv qual=true
 kp:PySem.W.keepIn K (.ref f)=true
section
variable {P:Program}{w:World}{K:PySem.W.Frag}{mg:Str->Option Value}{base:Heap}
theorem FunX.ok {CX:CXT}{x qual:Str}{st:Stmt}{f:Addr}{fd:FuncData}{N ps:List Str}{k:Nat}{sp:Sp}(F:FunX K x qual st f fd) (S:FnScope N ps (defScope st)) (len:∀ vs H Q E,sp vs H Q E->vs.length=ps.length)
  (hbody:∀ (cdv:Value) (A:Around) (outer:List Env) (s:Shared) (H:Hp) (vs:List V) (Q:VK) (E:XK),Room k (A.deeper (envOfC qual (defScope st) s.heap.objs.size f cdv))->sp vs H Q E →
   ∃ t,PSs (cxOf CX P w K mg base N qual (defScope st) f cdv A outer s H E) (defBody st) t∧t { nx:=fun _ H'=>Q .non H',rt:=Q } (start N vs) H):FnOk P w K mg base CX (k+1) f fd ps sp:=by
 obtain ⟨oc,od,dV,kV,doc,pm,an,cdv,ct,osl,rfl,lk,hcd⟩:=F.ex
 exact fn_of lk hcd S len fun A outer s H vs Q E hr hsp=>hbody cdv A outer s H vs Q E hr hsp
end
end L2
set_option Elab.async false
set_option linter.all false
set_option maxRecDepth 100000
set_option maxHeartbeats 4000000
namespace L2
open PySem PySem.Spec PyProof.Rows PySem.W
structure ECls (K:PySem.W.Frag) (C:Addr):Prop where
 ga:PySem.W.findIn K (.ref C) "__getattribute__"=some (some (.builtin "BaseException.__getattribute__"))
 no:PySem.W.findIn K (.ref C) "__getattr__"=some none
 mb:PySem.W.mroIn K C (.type "BaseException")=some true
 mo:PySem.W.mroIn K C (.type "object")=some true
 cl:PySem.W.findIn K (.ref C) "__class__"=some (some (.builtin "object.__class__"))
 sp:PySem.W.specialIn K (.builtin "object.__class__") "__get__"=some (some (.builtin "getset_descriptor.__get__"))
 tk:PySem.W.takesIn K (.builtin "object.__class__")=some true
 hd:PySem.W.hasDictIn K C=true
section
variable {prog:Program}{w:World}{A:Around}{E:Value->Shared->Prop}{s:Shared}{K:PySem.W.Frag}{x C:Addr}{ox:Obj}{od:Option Obj}{name:Str}
theorem exc_check {M:Model}{nameV:Value}{Q:Unit->Shared->Prop}(c:ECls K C) (X:K.In s.heap) (I:InstAt s.heap x ox C od) (hq:Q () s):wpAny M A (checkBuiltinCall "BaseException.__getattribute__" ⟨[.ref x,nameV],[]⟩) Q E s:=by
 have hk:builtinKind "BaseException.__getattribute__"=some .slot:=by decide +kernel
 have hsplit:splitId "BaseException.__getattribute__"=some ("BaseException", "__getattribute__"):=by decide +kernel
 have ha:=F.args_bexc_ga (.ref x) nameV
 have L0:=I.type (M:=M)
 have L1:=looks_mroIn (M:=M) X c.mb
 obtain ⟨hh,g,d,t,os⟩:=s
 simp only [checkBuiltinCall,hk,hsplit]
 have LI:Looks M hh (isInstance (.ref x) (.type "BaseException")) true:=L0.andThen L1
 refine wpAny_bind (LI.at ?_)
 first|exact hq|exact wpAny_pure hq|(simp only [Bool.not_true,Bool.false_eq_true,if_false];exact hq)
def FinP (M:Model) (A:Around) (P:Value->Shared->Prop) (fin:PySem.Fin) (s:Shared):Prop:=match fin with
 | .done (.ret v)=>P v s
 | .again c=>c.quiet=true∧codeAny M A c (fun r s'=>match r with | .ok (.ret v)=>P v s'|_=>False) s
 | _=>False
theorem exc_get? {Q:Option Value->Shared->Prop}(c:ECls K C) (X:K.In s.heap) (I:InstAt s.heap x ox C od)
  (h:∀ A':Around,wpAny (model prog w) A' (Builtin.«object.__getattribute__» ⟨[.ref x,.str name s.toks],[]⟩) (FinP (model prog w) A fun v s'=>wpAny (model prog w) A (handedOut v) (fun v s''=>Q (some v) s'') (fun _ _=>False) s') (fun _ _=>False) { s with toks:=s.toks+1 }) :
  wpAny (model prog w) A (getAttr? (.ref x) name) Q E s:=by
 obtain ⟨hh,g,d,t,os⟩:=s
 have L0:=I.type (M:=model prog w)
 have L1:=looks_findIn (M:=model prog w) X c.ga
 have L2:=looks_findIn (M:=model prog w) X c.no
 unfold getAttr? getAttrBy? getAttrBy
 refine wpAny_bind (wpAny_mkText (wpAny_bind (wpAny_attempt (wpAny_holding (wpAny_bind (L0.at (wpAny_bind (L1.at ?_))))))))
 show wpAny _ _ (getAttrByItsOwn _ _ _ _ _ _) _ _ _
 unfold getAttrByItsOwn
 show wpAny _ _ (do let before ←typeLookup (.ref C) "__getattr__";_) _ _ _
 refine wpAny_bind (L2.at (wpAny_bind (wpAny_attempt (wpAny_holding ?_))))
 unfold callGetattribute
 rw [if_neg (by simp)]
 unfold boundAndCalled
 rw [F.attr_ValueError.ga.bind (.ref x)]
 refine wpAny_bind (wpAny_pure (wpAny_call (codeAny_call_builtin F.attr_ValueError.ga.plain F.entry_bexc_ga (exc_check c X I ?_))))
 have fin1:∀ v s',wpAny (model prog w) A (handedOut v) (fun v s''=>Q (some v) s'') (fun _ _=>False) s'->wpAny (model prog w) A (handedOut v) (fun a s'=>wpAny (model prog w) A (pure (some a)) Q E s') (fun e s'=>wpAny (model prog w) A (do if ←isInstance e (.type "AttributeError") then pure none else throw e) Q E s') s':=fun v s' z=>wpAny_mono z (fun _ _ q=>wpAny_pure q) fun _ _ q=>q.elim
 refine wpAny_mono (h _) (fun fin s' z=>?_) fun _ _ z=>z.elim
 cases fin with
 | done f=>cases f with
  | ret v=>exact fin1 v s' z
  | _=>exact z.elim
 | again c'=>
  obtain ⟨z1,z2⟩:=z
  refine ⟨z1,codeAny_mono z2 fun r s'' q=>?_⟩
  cases r with
  | error e=>exact q.elim
  | ok f=>cases f with
   | ret v=>exact fin1 v s'' q
   | _=>exact q.elim
theorem findObj_data' {a g:Value}(hc:(clsIn K C).isSome=true) (ha:findIn K (.ref C) name=some (some a)) (hg:specialIn K a "__get__"=some (some g)) (ht:takesIn K a=some true):findObj K C od name=some (.bind g a):=by
 obtain ⟨cd,hc⟩:=Option.isSome_iff_exists.mp hc
 unfold findObj
 rw [hc,Option.bind_some,ha,Option.bind_some]
 simp [hg,ht]
theorem ECls.some (c:ECls K C):(clsIn K C).isSome=true:=by
 obtain ⟨cd,hc,_⟩:=any_some c.hd
 rw [hc];rfl
theorem exc_class {Q:Option Value->Shared->Prop}(c:ECls K C) (X:K.In s.heap) (I:InstAt s.heap x ox C od) (hq:Q (some (.ref C)) { s with toks:=s.toks+1 }):wpAny (model prog w) A (getAttr? (.ref x) "__class__") Q E s:=by
 have hf:findObj K C od "__class__"=some (.bind (.builtin "getset_descriptor.__get__") (.builtin "object.__class__")):=findObj_data' c.some c.cl c.sp c.tk
 refine exc_get? c X I fun A'=>?_
 have L0:=I.type (M:=model prog w)
 have L1:=looks_find (M:=model prog w) X I hf
 have cg:∀ {A:Around} {R:Result->Shared->Prop},R (.ok (.ret (.ref C))) { s with toks:=s.toks+1 }->codeAny (model prog w) A (.call (.builtin "getset_descriptor.__get__") ⟨[.builtin "object.__class__",.ref x,.ref C],[]⟩) R { s with toks:=s.toks+1 }:=fun h=>class_get (s:={ s with toks:=s.toks+1 }) (ox:=ox) (od:=od) X I c.mo h
 obtain ⟨hh,gg,d,t,os⟩:=s
 refine wpAny_bind (wpAny_pure (wpAny_bind (wpAny_pure (wpAny_bind (L0.at (wpAny_bind (L1.at ?_)))))))
 show wpAny _ _ (do ret (←holding [.builtin "object.__class__"] (call (.builtin "getset_descriptor.__get__") [.builtin "object.__class__",.ref x,.ref C]))) _ _ _
 exact wpAny_bind (wpAny_holding (wpAny_call (cg (wpAny_pure (show FinP _ _ _ (.done (.ret (.ref C))) _ from handed_on rfl hq)))))
theorem kitx_exc (c:ECls K C):KitX K (.ref x) (.ref C) (fun h=>InstAt h x ox C od) where
 ty:=fun _ _ _ I=>I.type
 it:=fun _ _ X _=>by
  obtain ⟨cdD,hcD,_⟩:=any_some c.hd
  unfold clsIn at hcD
  split at hcD
  ·rename_i c' d' cd' sl' ho
   intro A' Q' E' s' k q
   unfold isType loadHead
   exact wpAny_bind (wpAny_loadPart (k _ _ (X _ _ ho)) (wpAny_pure q))
  ·cases hcD
 ne:=fun h tp dd its n sl X htp=>by
  obtain ⟨cdD,hcD,_⟩:=any_some c.hd
  refine Bool.eq_false_iff.mpr fun q=>?_
  have e:C=tp:=Value.ref.inj (beq_iff_eq.mp q)
  subst e
  unfold clsIn at hcD
  split at hcD
  ·rename_i c' d' cd' sl' ho
   have z:=(X _ _ ho).symm.trans htp
   cases z
  ·cases hcD
 ca:=fun X I k=>exc_class c X I k
end
end L2
set_option Elab.async false
set_option linter.all false
set_option maxRecDepth 100000
set_option maxHeartbeats 4000000
namespace L2
open PySem PySem.Spec PyProof.Rows
def excO (oe:Obj):HO:=.frz oe (.ext fun _=>True)
structure NewAt (X:Cx) (pins:List (Addr × Obj)) (e:Addr):Prop where
 s0:X.s₀.heap.get? e=none
 loc:e ≠ X.env.locals
 cel:∀ x c,X.env.cells.lookup x=some c->c ≠ e
 fs:e ∉ X.fs
 pin:∀ p∈X.pn++pins,p.1 ≠ e
section
variable {X:Cx}
theorem NewAt.of {pins:List (Addr × Obj)}{σ:St}{H:Hp}{s:Shared}{e:Addr}(I:Inv X pins σ H s) (hx:X.ex=[]) (h:s.heap.get? e=none):NewAt X pins e where
 s0:=by
  cases q:X.s₀.heap.get? e with
  | none=>rfl
  | some o=>
   obtain ⟨o',z⟩:=I.base.there e o q (by rw [hx];simp)
   rw [h] at z;cases z
 loc:=fun z=>by
  obtain ⟨m,⟨o,_,_,q,_⟩,_⟩:=I.loc
  rw [←z,h] at q;cases q
 cel:=fun x c q z=>by
  obtain ⟨v,o,r,_⟩:=I.cell x c q
  rw [z,h] at r;cases r
 fs:=fun z=>by
  obtain ⟨_,o,q,_⟩:=I.funs.mem z
  rw [h] at q;cases q
 pin:=fun p hp z=>by
  have q:=(I.pin p hp).1
  rw [z,h] at q;cases q
theorem Inv.track {pins:List (Addr × Obj)}{σ:St}{H:Hp}{s:Shared}{e:Addr}{oe:Obj}(I:Inv X pins σ H s) (N:NewAt X pins e) (he:s.heap.get? e=some oe) (hn:H e=none):Inv X pins σ (upd H e (excO oe)) s:=by
 have ne:∀ {b:Addr} {o:HO},H b=some o->b ≠ e:=fun q z=>by rw [z,hn] at q;cases q
 refine ⟨I.ok,I.os,I.bare,⟨I.base.keep,I.base.slot,fun b o q n hx=>?_,I.base.there,fun b xs q=>?_,fun b o u q=>?_,fun b ps q=>?_⟩,I.loc,I.cell,?_,fun x c q=>?_,fun p hp=>?_,fun b o q=>?_,I.len⟩
 ·rw [upd_ne (fun z=>by rw [z,N.s0] at q;cases q)];exact I.base.free b o q n hx
 ·have z:=I.base.tups b xs q;rw [upd_ne (ne z)];exact z
 ·have z:=I.base.frzs b o u q;rw [upd_ne (ne z)];exact z
 ·obtain ⟨m,z⟩:=I.base.tbls b ps q;exact ⟨m,by rw [upd_ne (ne z)];exact z⟩
 ·rw [upd_ne (Ne.symm N.loc)];exact I.free
 ·rw [upd_ne (N.cel x c q)];exact I.freeC x c q
 ·obtain ⟨a,b,c,d,f⟩:=I.pin p hp
  exact ⟨a,by rw [upd_ne (N.pin p hp)];exact b,c,d,f⟩
 ·by_cases hb:b=e
  ·subst hb
   rw [upd_same] at q
   cases q
   exact ⟨he,trivial,⟨oe,he⟩,fun _ _ _ _=>trivial⟩
  ·rw [upd_ne hb] at q
   exact (I.hok b o q).stay (fun _ _ _ r=>r) (fun c r=>by rw [upd_ne (ne r)];exact r) fun c xs r=>by rw [upd_ne (ne r)];exact r
def PHs (X:Cx) (hs:List ExceptHandler) (th:Value->Option Addr->TS):Prop:=
 ∀ (pins:List (Addr × Obj)) (s:Shared) (σ:St) (H:Hp) (D:Ends) (e T:Addr) (cls:Value) (d:Option Addr),Inv X pins σ H s->NewAt X pins e->H e=none->ExcAt s.heap e cls d T->th cls d D σ H->wpAny (model X.prog X.w) X.A (handleBy (.ref e) X.env hs) (SP X pins D) X.xe s
theorem flight1 {M:Model}{A:Around}{E:Value->Shared->Prop}{s:Shared}{e T:Addr}{cls:Value}{d:Option Addr}{Q:Unit->Shared->Prop}(x:ExcAt s.heap e cls d T) (hQ:∀ h',(∀ b o,s.heap.get? b=some o->h'.get? b=some o)->Q () { s with heap:=h' }) :
  wpAny M A (setFlight (.ref e) none) Q E s:=by
 obtain ⟨oe,vs,oT,ts,he,rfl,rfl,hd,h1,ne,hT,hdT,h3,h2c⟩:=x
 unfold setFlight
 refine wpAny_bind (wpAny_field he hd h1 ?_)
 rw [if_pos (show (Value.ref T != Value.none)=true from by simp)]
 refine wpAny_setField hT hdT (Array.getElem?_eq_some_iff.mp h3).1 (hQ _ fun b o q=>?_)
 by_cases hb:b=T
 ·subst hb
  rw [hT] at q;cases q
  have same:Obj.mapFields (·.setIfInBounds 3 ((none:Option Addr).elim Value.none fun f=>rawInt f)) oT=oT:=by
   obtain ⟨c,d,dat,sl⟩:=oT
   cases hdT
   have e3:ts.setIfInBounds 3 ((none:Option Addr).elim Value.none fun f=>rawInt f)=ts:=by
    apply Array.ext_getElem?
    intro i
    by_cases hi:i=3
    ·subst hi
     obtain ⟨hlt,hv⟩:=Array.getElem?_eq_some_iff.mp h3
     simp [Array.getElem?_setIfInBounds,hlt,hv]
    ·rw [Array.getElem?_setIfInBounds_ne (Ne.symm hi)]
   show (⟨c,d,.fields (ts.setIfInBounds 3 ((none:Option Addr).elim Value.none fun f=>rawInt f)),sl⟩:Obj)=_
   rw [e3]
  have:=Heap.get?_update_self (Obj.mapFields (·.setIfInBounds 3 ((none:Option Addr).elim Value.none fun f=>rawInt f))) hT (Obj.isFreed_of_fields (Obj.data_mapFields hdT _))
  rw [same] at this
  exact this
 ·rw [Heap.get?_update_other _ _ (Ne.symm hb)]
  exact q
def tLost:Value->Option Addr->TS:=fun _ _ _ _ _=>False
theorem phs_nil:PHs X [] tLost:=fun _ _ _ _ _ _ _ _ _ _ _ _ _ h=>h.elim
theorem SP.unmark {pins:List (Addr × Obj)}{D:Ends}{f:Flow}{s2:Shared}{e:Addr}(ok:X.Ok) (q:SP (X.mark e) pins D f s2):SP X pins D f s2:=by
 cases f with
 | next=>obtain ⟨σ',H',J,q⟩:=q;exact ⟨σ',H',J.unmark ok,q⟩
 | brk=>obtain ⟨σ',H',J,q⟩:=q;exact ⟨σ',H',J.unmark ok,q⟩
 | cont=>obtain ⟨σ',H',J,q⟩:=q;exact ⟨σ',H',J.unmark ok,q⟩
 | ret u=>obtain ⟨v,σ',H',J,r,q⟩:=q;exact ⟨v,σ',H',J.unmark ok,r,q⟩
theorem exc_ty {M:Model}{h:Heap}{e T:Addr}{cls:Value}{d:Option Addr}(ex:ExcAt h e cls d T):PySem.W.Looks M h (typeOf (.ref e)) cls:=by
 obtain ⟨oe,vs,oT,ts,he,rfl,_⟩:=ex
 exact (PySem.W.Looks.ld he).andThen .now
def gDel (i:Nat):St->Hp->(St->Hp->Prop)->Prop:=fun σ H Q=>Q (σ.set i none) H
def kDel (i:Nat) (nx:St->Hp->Prop):St->Hp->Prop:=fun σ H=>gDel i σ H nx
def Ends.del (i:Nat) (D:Ends):Ends:=⟨kDel i D.nx,D.rt,kDel i D.bk,kDel i D.ct⟩
theorem gone_ok {M:Model}{A:Around}{E:Value->Shared->Prop}{pins:List (Addr × Obj)}{σ:St}{H:Hp}{s:Shared}{i:Nat}{x:Str}{pos:Pos}{Q:Unit->Shared->Prop}(I:Inv X pins σ H s) (hi:X.N[i]? = some x) (hk:X.env.scope.names.lookup x=some .local) (hN:X.N.Nodup)
  (h:∀ s',Inv X pins (σ.set i none) H s'->Q () s'):wpAny M A (do bindName X.env x .none;unbindBehindTheSuite X.env x pos) Q E s:=by
 obtain ⟨m,hn,hl⟩:=id I.loc
 have hcls:(X.env.scope.kind == .class || (X.env.scope.kind == .module && X.env.locals != X.env.globals))=false:=by rw [I.ok.kind];rfl
 have cne:=I.cne
 refine PySem.wpAny_nameGoes_keeps hk hn hcls fun h' v hn' hs=>?_
 obtain ⟨oL,_,_,hoL,_⟩:=id hn
 refine h _ ⟨I.ok,I.os,I.bare,⟨fun b o e n hb hx=>?_,fun b o e n hb hx=>?_,I.base.free,fun b o e hx=>?_,I.base.tups,I.base.frzs,I.base.tbls⟩,⟨_,hn',fun j y v' e1 e2 e3=>?_⟩,fun y c e=>?_,I.free,I.freeC,fun p hp=>?_,fun b ob e=>?_,by simpa using I.len⟩
 ·exact (hs.2 b (Nat.ne_of_lt (Nat.lt_of_lt_of_le (Heap.lt_size e) I.ok.above))).trans (I.base.keep b o e n hb hx)
 ·obtain ⟨sl,e1⟩:=I.base.slot b o e n hb hx
  exact ⟨sl,(hs.2 b (Nat.ne_of_lt (Nat.lt_of_lt_of_le (Heap.lt_size e) I.ok.above))).trans e1⟩
 ·obtain ⟨o',e1⟩:=I.base.there b o e hx
  exact ⟨o',(hs.2 b (Nat.ne_of_lt (Nat.lt_of_lt_of_le (Heap.lt_size e) I.ok.above))).trans e1⟩
 ·have hj:j ≠ i:=by
   rintro rfl
   by_cases hlt:j < σ.length
   ·rw [List.getElem?_set_self hlt] at e2;cases e2
   ·rw [List.getElem?_eq_none (by simpa using Nat.le_of_not_lt hlt)] at e2;cases e2
  rw [List.getElem?_set_ne (Ne.symm hj)] at e2
  obtain ⟨u',r',q⟩:=hl j y v' e1 e2 e3
  refine ⟨u',r',?_⟩
  rcases q with ⟨k,e⟩|⟨k,c,e,z⟩
  ·refine .inl ⟨k,?_⟩
   have:y ≠ x:=fun e=>hj (nodup_ix hN e1 (e ▸ hi))
   simp [this,e]
  ·exact .inr ⟨k,c,e,z.sameBut hs (cne y c e)⟩
 ·obtain ⟨w',z⟩:=I.cell y c e
  exact ⟨w',z.sameBut hs (cne y c e)⟩
 ·obtain ⟨e,n,ne,nf,d⟩:=I.pin p hp
  exact ⟨(hs.2 p.1 ne).trans e,n,ne,nf,d⟩
 ·refine (I.hok b ob e).stay (fun c w' hc q=>(hs.2 c ?_).trans q) (fun _ q=>q) fun _ _ q=>q
  rintro rfl
  rcases hc with rfl|hc
  ·rw [I.free] at e;cases e
  ·rw [I.free] at hc;cases hc
def tTry (tb:(St->XK)->TS) (th:Value->Option Addr->TS):TS:=fun D σ H=>tb (fun σ' cls d H'=>th cls d D σ' H') D σ H
abbrev Cx.tried (X:Cx) (E:Value->Shared->Prop) (pn:List (Addr × Obj)):Cx:={ X with xe:=E,pn:=pn }
theorem ps_try {body:List Stmt}{h₀:ExceptHandler}{hs:List ExceptHandler}{pos:Pos}{tb:(St->XK)->TS}{th:Value->Option Addr->TS}(hstk:X.stack=X.env::X.outer∧X.env.frame=some X.env.locals∧X.ex=[])
  (hb:∀ (EX:St->XK) (E:Value->Shared->Prop) (pn:List (Addr × Obj)),(∀ σ,PassAt (CX1 X.prog X.w) (X.tried E pn) (EX σ) σ)->PSs (X.tried E pn) body (tb EX)) (hh:PHs X (h₀::hs) th) :
  PS X (.Try body (h₀::hs) [] [] pos) (tTry tb th):=by
 intro pins s σ H D I h
 refine PySem.wpAny_Try_except ?_
 have okT:∀ E pn,(X.tried E pn).Ok:=fun E pn=>⟨I.ok.mod,I.ok.kind,I.ok.glob,I.ok.blt,I.ok.above,I.ok.inj,I.ok.has,I.ok.cab,I.ok.hd,I.ok.frames,I.ok.stk,I.ok.exf,I.ok.bs,I.ok.bsz,I.ok.noex,I.ok.exfs,I.ok.funs,I.ok.frf⟩
 have back:∀ {E:Value->Shared->Prop} {pins':List (Addr × Obj)} {σ':St} {H':Hp} {s':Shared},Inv (X.tried E (X.pn++pins)) pins' σ' H' s'->Inv X pins σ' H' s':=fun {E pins' σ' H' s'} J=>
  ⟨I.ok,J.os,J.bare,J.base,J.loc,J.cell,J.free,J.freeC,fun p hp=>J.pin p (List.mem_append_left _ hp),J.hok,J.len⟩
 have I0:∀ E,Inv (X.tried E (X.pn++pins)) [] σ H s:=fun E=>⟨okT E _,I.os,I.bare,I.base,I.loc,I.cell,I.free,I.freeC,fun p hp=>I.pin p (by simpa using hp),I.hok,I.len⟩
 refine thn (hb (fun σ' cls d H'=>th cls d D σ' H') _ (X.pn++pins) ?_ [] s σ H D (I0 _) h) fun f s1 q=>?_
 ·intro σ1 pins1 H1 s1 ev s2 I1 hc
  obtain ⟨e,T,cls,dd,H',rfl,os,bare,un1,hok,ne,nT,He,HT,ex,hxd,hE⟩:=hc
  have I2:=I1.call' (ch:=[]) os un1 hok bare (fun b z=>absurd z (by simp))
  have nf:∀ b,s1.heap.get? b=none->b ∉ frs (X.env::X.outer):=fun b hb z=>by
   have st:=I1.stack
   have st':s1.heap.FunFrames X.base (X.env::X.outer):=by rw [←hstk.1];exact st
   obtain ⟨_,o,q,_⟩:=st'.mem z
   rw [hb] at q;cases q
  have nb:X.base.get? T=none:=by
   cases q:X.base.get? T with
   | none=>rfl
   | some o=>
    have:=I1.bk T o q
    rw [nT] at this;cases this
  have fl:s2.heap.FunFrames X.base (X.env::X.outer):=by rw [←hstk.1];exact I2.stack
  have fr:X.A.frames=some (X.env::X.outer):=by rw [←hstk.1];exact I.ok.frames
  refine note_next (base:=X.base) (outer:=X.outer) fr fl hstk.2.1 ex (nf e ne) (nf T nT) nb fun g T' ng nT' ex'=>?_
  have fs:∀ b∈frs (X.env::X.outer),b∈frs X.stack:=fun b hb=>by rw [hstk.1];exact hb
  have I3:=I1.call' (s':={ s2 with heap:=g }) (ch:=[]) os (un1.noted ng ne (fun b z=>by rw [z];exact nT) fun b hb=>.inl (fs b hb)) (hok.noted ng He (fun b z=>by rw [z];exact HT) fun b hb=>I2.stkFree b (fs b hb)) bare (fun b z=>absurd z (by simp))
  exact hh pins _ σ1 H' D e T' cls dd (back I3) (NewAt.of (back I1) hstk.2.2 ne) He ex' hE
 ·cases f with
  | next=>obtain ⟨σ',H',J,q⟩:=q;exact wpAny_execs_nil ⟨σ',H',back J,q⟩
  | brk=>obtain ⟨σ',H',J,q⟩:=q;exact ⟨σ',H',back J,q⟩
  | cont=>obtain ⟨σ',H',J,q⟩:=q;exact ⟨σ',H',back J,q⟩
  | ret u=>obtain ⟨v,σ',H',J,r,q⟩:=q;exact ⟨v,σ',H',back J,r,q⟩
def kXd:HO->Prop:=fun o=>match o with
 | .xd _=>True
 | _=>False
def dictO (H:Hp):Option Addr->Prop
 | none=>True
 | some dx=>∃ o,H dx=some o∧kXd o
theorem call_isiE:CallR X (.builtin "isinstance") (fun xs H Q=>∃ e oe C D b,xs=[.ref e,D]∧(∃ u,H e=some (.frz oe u))∧oe.cls=.ref C∧dictO H oe.dict∧(∃ vs,oe.data=.fields vs)∧ECls X.K C∧(∃ u,RelV D u∧PySem.W.kitOne X.K (.ref C) u=some b)∧Q (.bl b) H):=by
 intro pins s σ H xs us Q I r h
 obtain ⟨e,oe,C,D,b,rfl,⟨uu,hH⟩,hc,hd,⟨vs,hv⟩,ec,⟨u,ru,hk⟩,q⟩:=h
 obtain ⟨u1,u2,rfl,r1,r2⟩:=vals2 r
 cases (show u1=Value.ref e from r1)
 have hu:u2=u:=by
  cases D with
  | ref a=>exact (show u2=Value.ref a from r2).trans (show u=Value.ref a from ru).symm
  | ty n=>exact (show u2=Value.type n from r2).trans (show u=Value.type n from ru).symm
  | non=>exact (show u2=Value.none from r2).trans (show u=Value.none from ru).symm
  | bl b'=>exact (show u2=Value.bool b' from r2).trans (show u=Value.bool b' from ru).symm
  | int i=>obtain ⟨t,rfl⟩:=ru;simp [PySem.W.kitOne,PySem.W.kitCls] at hk
  | str i=>obtain ⟨t,rfl⟩:=ru;simp [PySem.W.kitOne,PySem.W.kitCls] at hk
  | byt i=>obtain ⟨t,rfl⟩:=ru;simp [PySem.W.kitOne,PySem.W.kitCls] at hk
  | flt i=>obtain ⟨t,rfl⟩:=ru;simp [PySem.W.kitOne,PySem.W.kitCls] at hk
 subst hu
 obtain ⟨he,_⟩:=(show ObjOk X.prog X.w H s.heap e (.frz oe uu) from I.hok e _ hH)
 have hno:PySem.W.notCls oe=true:=by unfold PySem.W.notCls;rw [hv]
 cases q0:oe.dict with
 | none=>
  have J:PySem.W.InstAt s.heap e oe C none:=⟨he,hc,hno,by rw [q0];trivial⟩
  exact PySem.W.kia_one (kitx_exc ec) I.kIn J hk (fun z=>nomatch z) fun tk=>⟨.bl b,H,I.tok _,rfl,q⟩
 | some dx=>
  rw [q0] at hd
  obtain ⟨o,ho,hx⟩:=hd
  cases o with
  | xd fs=>
   obtain ⟨mA,hn,_⟩:=I.hok dx _ ho
   obtain ⟨oD,hoD,_⟩:=lookIn_ns hn
   have J:PySem.W.InstAt s.heap e oe C (some oD):=⟨he,hc,hno,by rw [q0];exact hoD⟩
   exact PySem.W.kia_one (kitx_exc ec) I.kIn J hk (fun z=>nomatch z) fun tk=>⟨.bl b,H,I.tok _,rfl,q⟩
  | _=>exact hx.elim
end
end L2
set_option Elab.async false
set_option linter.all false
set_option maxRecDepth 100000
set_option maxHeartbeats 4000000
namespace L2
open PySem PySem.Spec PyProof.Rows PySem.W
def excInI (K:Frag) (C fI:Addr) (bmB:List Value) (newId:String):Bool:=ownIn0 K C (some (.ref fI)) bmB newId
section
variable {prog:Program}{w:World}{A:Around}{R:Result->Shared->Prop}{h:Heap}{g:Array GenState}{d:Drawn}{t:Nat}{os:OsState}{K:Frag}
variable {nm q:Str}{C N fI:Addr}{bs bm bmB:List Value}{hdct:Bool}{sn:List Str}{sub:List Value}{ab:Bool}{col:Option Bool}{dd:Option Addr}{k0 k1 k2 k3 k5:Option Value}{B Bn newId nid initId inN:String}{bmN:List Value}
abbrev exNew (C:Addr) (rest:List Value) (h:Heap):Heap:=(h.push { cls:=.type "tuple",data:=.seq rest.toArray }).push { cls:=.ref C,data:=.fields #[.ref h.objs.size,.none,.none,.none,.bool false,.none] }
theorem exc_own (Fn:ExcBaseFacts Bn newId inN bmN) (hBn:bmB.contains (.type Bn)=true) (F:ExcBaseFacts B nid initId bmB) (T:OwnTail h bmB bm){mN:Str->Option Value}{rest:List Value}
  (hC:h.get? C=some (excClassObj nm q C N bs bm hdct sn sub ab col dd k0 k1 k2 k3 k5 newId)) (hn:h.Ns N mN) (hni:mN "__init__"=some (.ref fI)) (X:K.In h) (hf:typeIn K (.ref fI)=some (.type "function")) (hrest:rest.length≤sizeLine)
  (hq:codeAny (model prog w) (A.under (.builtin "type.__call__" ⟨.ref C::rest,[]⟩)) (.call (.ref fI) ⟨.ref (h.objs.size+1)::rest,[]⟩) (InitBack (h.objs.size+1) R) ⟨exNew C rest h,g,d,t,os⟩) :
  codeAny (model prog w) A (.call (.ref C) ⟨rest,[]⟩) R ⟨h,g,d,t,os⟩:=by
 have f1:=tc_lookup
 have f2:=tc_bind (.ref C)
 have hT:(⟨h,g,d,t,os⟩:Shared).TypeIs (.ref C) "type":=⟨_,hC,rfl⟩
 refine codeAny_of_tree ?_
 show wpAny _ _ (callAny (.ref C) _) _ _ _
 repeat (any_goals (first|assumption|with_reducible refine wpAny_loadPart_at hC ?_|wp_step))
 refine ⟨rfl,?_⟩
 refine codeAny_call_builtin_at (Code.quiet_builtin _ (by decide +kernel)) entry_typeCall (wpAny_check_type_call_sub hC ?_)
 repeat (first|with_reducible refine wpAny_loadPart_at hC ?_|with_reducible refine wpAny_madeBy_exc hC ?_|wp_step)
 refine codeAny_call_builtin_code (Code.quiet_builtin _ Fn.quiet) (wpAny_check_new_subU Fn hBn T hC (codeAny_exc_new_subU Fn hBn F T hC ?_ hrest))
 show wpAny _ _ _ _ _ _
 have kp:∀ b o,h.get? b=some o->(exNew C rest h).get? b=some o:=fun b o e=>Heap.get?_push_of_some _ (Heap.get?_push_of_some _ e)
 have hC1:=kp _ _ hC
 have hn1:(exNew C rest h).Ns N mN:=let ⟨o,es,ep,e,r⟩:=hn;⟨o,es,ep,kp _ _ e,r⟩
 have hg:(exNew C rest h).get? (h.objs.size+1)=some { cls:=.ref C,data:=.fields #[.ref h.objs.size,.none,.none,.none,.bool false,.none] }:=by unfold exNew;heap_get
 have hcC:(Value.ref C::bm).contains (.ref C)=true:=by simp
 have T1:=T.keeps (h':=exNew C rest h) kp
 have X1:K.In (exNew C rest h):=fun b o e=>kp b o (X b o e)
 unfold isInstance
 repeat (first|with_reducible refine wpAny_loadPart_at hg ?_|wp_step)
 show wpAny _ _ (isSubtype (.ref C) (.ref C)) _ _ ⟨exNew C rest h,g,d,t,os⟩
 refine wpAny_isSubtype_exc hC1 ?_
 rw [hcC]
 repeat (first|with_reducible refine wpAny_loadPart_at hg ?_|wp_step)
 show wpAny _ _ (typeLookup (.ref C) _) _ _ _
 refine wpAny_typeLookup_tail hC1 hn1 T1 F.mroIs F.init.lookup ?_
 rw [hni]
 refine wpAny_holding (wpAny_bind ((bind_fn X1 _ hf).at ?_))
 refine wpAny_bind (wpAny_call (codeAny_mono hq fun r s' z=>?_))
 cases r with
 | error e=>exact z
 | ok f=>
  cases f with
  | ret v=>obtain ⟨rfl,y⟩:=z;exact wpAny_pure (wpAny_pure y)
  | next=>exact z.elim
  | brk=>exact z.elim
  | cont=>exact z.elim
end
def dropRefs:List Value->List Value
 | .ref _::r=>dropRefs r
 | l=>l
theorem refuse_drop (self:Value):∀ l:List Value,refuseLoop self "__setattr__" l=refuseLoop self "__setattr__" (dropRefs l)
 | []=>rfl
 | v::r=>by
  cases v with
  | ref c=>rw [refuseLoop_ref];exact refuse_drop self r
  | _=>rfl
def onlyExc (l:List Value):Bool:=dropRefs l == [.type "ValueError",.type "Exception",.type "BaseException",.type "object"]
theorem refuse_exc (self:Value){l:List Value}(e:onlyExc l=true):refuseLoop self "__setattr__" l=pure ():=by
 rw [refuse_drop,beq_iff_eq.mp e];exact PySem.F.store_ValueError.passes self
def excOver (K:Frag) (C:Addr):Bool:=(clsIn K C).any fun cd=>onlyExc cd.mro && cd.mro.contains (.type "object")
structure EStore (K:Frag) (C:Addr):Prop where
 ov:excOver K C=true
 sa:findIn K (.ref C) "__setattr__"=some (some (.builtin "object.__setattr__"))
 hd:hasDictIn K C=true
section
variable {prog:Program}{w:World}{A:Around}{E:Value->Shared->Prop}{K:Frag}{x C:Addr}{s:Shared}{name:Str}{v:Value}
theorem osx_open {ox:Obj}{od:Option Obj}{tk:Tok}{R:Result->Shared->Prop}(X:K.In s.heap) (I:InstAt s.heap x ox C od) (hp:excOver K C=true) (ht:takerIn K C name=some none)
  (h:∀ b,wpAny (model prog w) A.in1 (Builtin.ObjectAttr.storeInOwnDict (.ref x) (.ref C) (.str name tk) name v b) (fun fin s'=>match fin with | .done f=>R (.ok f) s' | .again c'=>c'.quiet=true∧codeAny (model prog w) A c' R s') (fun e s'=>R (.error e) s') s) :
  codeAny (model prog w) A (.call (.builtin "object.__setattr__") ⟨[.ref x,.str name tk,v],[]⟩) R s:=by
 have sf:=PySem.F.store_object
 obtain ⟨dat,hcl,hov⟩:=any_some hp
 rw [Bool.and_eq_true] at hov
 have emp:dat.mro.isEmpty=false:=by cases q:dat.mro with|nil=>rw [q] at hov;cases hov.2|cons _ _=>rfl
 have isObj:Looks (model prog w) s.heap (isInstance (.ref x) (.type "object")) true:=I.type.andThen (looks_mroIn X (by unfold mroIn;rw [hcl,Option.bind_some,if_neg (by rw [emp];decide),hov.2]))
 refine codeAny_call_builtin sf.slot.plain sf.entry (@check_slot (model prog w) _ _ s "object.__setattr__" "object" "__setattr__" (.ref x) [.str name tk,v] [] _ sf.kind sf.split isObj (sf.args (.ref x) (.str name tk) v) ?_)
 obtain ⟨on,hon,hr⟩:=Option.bind_eq_some_iff.mp ht
 have lm:Looks (model prog w) s.heap (mroOf (.ref C)) dat.mro:=(looks_clsIn X hcl).andThen .now
 have lt:Looks (model prog w) s.heap (Builtin.ObjectAttr.storeTaker? on) none:=by
  cases on with
  | none=>exact .now
  | some a=>
   obtain ⟨b,hb,hz⟩:=Option.map_eq_some_iff.mp hr
   refine (looks_takesIn X hb).andThen ?_
   cases b
   ·exact .now
   ·cases hz
 rw [osa_eq,refuse_eq]
 refine wpAny_bind (wpAny_bind (I.type.here (wpAny_bind (lm.here (by rw [refuse_exc _ hov.1];refine wpAny_pure (wpAny_bind (I.type.here (wpAny_bind ((looks_findIn X hon).here (wpAny_bind (lt.here (h _))))))))))))
theorem set_exc {vs:Array Value}{sl:Array (Option Value)}{Q:Unit->Shared->Prop}(c:EStore K C) (X:K.In s.heap) (hx:s.heap.get? x=some ⟨.ref C,none,.fields vs,sl⟩) (ht:takerIn K C name=some none)
  (h:∀ h' tk,h'.get? x=some ⟨.ref C,some s.heap.objs.size,.fields vs,sl⟩->h'.Ns1 s.heap.objs.size (fun y=>if y=name then some v else none)->(∀ b o,b ≠ x->s.heap.get? b=some o->h'.get? b=some o)->Q () { s with heap:=h',toks:=tk }) :
  wpAny (model prog w) A (setAttr (.ref x) name v) Q E s:=by
 have I:InstAt s.heap x ⟨.ref C,none,.fields vs,sl⟩ C none:=⟨hx,rfl,rfl,trivial⟩
 refine set_plain X I c.sa (osx_open (s:={ s with toks:=s.toks+1 }) X I c.ov ht fun b=>?_)
 obtain ⟨cd,hc,hd'⟩:=any_some c.hd
 have hxs:x ≠ s.heap.objs.size:=Nat.ne_of_lt (Heap.lt_size hx)
 have hx1:(s.heap.push { cls:=.type "dict",data:=.dict #[] }).get? x=some ⟨.ref C,none,.fields vs,sl⟩:=Heap.get?_push_of_some _ hx
 refine wpAny_bind (wpAny_pure (wpAny_bind (wpAny_bind (wpAny_loadPart hx ?_))))
 show wpAny _ _ (do if !(←classData C).hasDict then pure none else _) _ _ _
 refine wpAny_bind (Looks.here (s:={ s with toks:=s.toks+1 }) (looks_clsIn X hc) ?_)
 rw [hd',if_neg (by decide)]
 show wpAny _ _ (do let d ←alloc { cls:=.type "dict",data:=.dict #[] };update x fun o=>{ o with dict:=some d };dictMade (.ref C) x d) _ _ _
 refine wpAny_bind (wpAny_alloc (wpAny_bind (wpAny_update hx1 (wpAny_pure (a:=some s.heap.objs.size) ?_))))
 generalize hg:(s.heap.push { cls:=.type "dict",data:=.dict #[] }).update x (fun o=>{ o with dict:=some s.heap.objs.size })=g0
 have gx:g0.get? x=some ⟨.ref C,some s.heap.objs.size,.fields vs,sl⟩:=by rw [←hg];exact Heap.get?_update_self _ hx1 rfl
 have gd:g0.get? s.heap.objs.size=some { cls:=.type "dict",data:=.dict #[] }:=by rw [←hg];exact (Heap.get?_update_ne _ _ _ _ hxs.symm).trans (Heap.get?_push_at rfl rfl)
 have gk:∀ b o,b ≠ x->s.heap.get? b=some o->g0.get? b=some o:=fun b o hb e=>by rw [←hg];exact (Heap.get?_update_ne _ _ _ _ hb).trans (Heap.get?_push_of_some _ e)
 have gn:g0.Ns s.heap.objs.size (fun _=>none):=⟨_,#[],_,gd,rfl,fun e he=>absurd he (by simp),fun _=>rfl⟩
 show wpAny _ _ (Builtin.ObjectAttr.storeInDict s.heap.objs.size (.str name s.toks) name v) _ _ _
 unfold Builtin.ObjectAttr.storeInDict Builtin.ObjectAttr.newKeyGuard
 refine wpAny_bind (wpAny_pure (wpAny_bind (wpAny_nsSet1 (Heap.Ns1.of_empty gn) fun h2 n2 s2=>?_)))
 obtain ⟨oD,eD,pD,q1,q2,q3⟩:=n2.count (Within.cons name v Within.nil)
 refine wpAny_bind (wpAny_lookBehind q1 (by rw [q2];exact pastItsLine_dict (Nat.le_trans q3 (by rw [List.length_cons,List.length_nil,sizeLine_eq];omega))) ?_)
 exact wpAny_pure (h h2 _ ((s2.2 x hxs).trans gx) n2 fun b o hb e=>(s2.2 b (Nat.ne_of_lt (Heap.lt_size e))).trans (gk b o hb e))
end
end L2
set_option Elab.async false
set_option linter.all false
set_option maxRecDepth 100000
set_option maxHeartbeats 4000000
namespace L2
open PySem PySem.Spec PyProof.Rows PySem.W
section
variable {prog:Program}{w:World}{A:Around}{E:Value->Shared->Prop}{s:Shared}{K:PySem.W.Frag}{x C dx:Addr}{ox:Obj}{od:Option Obj}{name:Str}{mA:Str->Option Value}{u:Value}
theorem exc_get {expr:Bool}{Q:Value->Shared->Prop}(c:ECls K C) (X:K.In s.heap) (hx:s.heap.get? x=some ox) (hcl:ox.cls=.ref C) (hno:notCls ox=true) (hd:ox.dict=some dx) (hn:s.heap.Ns1 dx mA) (ha:NoAttr K C name) (hv:mA name=some u) (hh:handedIn u=true)
  (h:Q u { s with toks:=s.toks+1 }):wpAny (model prog w) A (getAttr (.ref x) name expr) Q E s:=by
 obtain ⟨oD,ho,hl⟩:=lookIn_ns hn
 have I:InstAt s.heap x ox C (some oD):=⟨hx,hcl,hno,by rw [hd];exact ho⟩
 have hf:findObj K C (some oD) name=some (.value u):=findObj_own c.hd ha rfl (by rw [hl,hv])
 have L0:=I.type (M:=model prog w)
 have L1:=looks_findIn (M:=model prog w) X c.ga
 have L2:=looks_findIn (M:=model prog w) X c.no
 have L3:=looks_find (M:=model prog w) X I hf
 have ck:=fun {M:Model} {A:Around} {E:Value->Shared->Prop} {Q:Unit->Shared->Prop} (q:Q () { s with toks:=s.toks+1 })=>exc_check (M:=M) (A:=A) (E:=E) (nameV:=.str name s.toks) (s:={ s with toks:=s.toks+1 }) c X I q
 obtain ⟨hp,g,d,t,os⟩:=s
 unfold getAttr getAttrBy
 refine wpAny_bind (wpAny_mkText (wpAny_holding (wpAny_bind (L0.at (wpAny_bind (L1.at ?_))))))
 show wpAny _ _ (getAttrByItsOwn _ _ _ _ _ _) _ _ _
 unfold getAttrByItsOwn
 show wpAny _ _ (do let before ←typeLookup (.ref C) "__getattr__";_) _ _ _
 refine wpAny_bind (L2.at (wpAny_bind (wpAny_attempt (wpAny_holding ?_))))
 unfold callGetattribute
 rw [show (expr && onTheHeap (Value.builtin "BaseException.__getattribute__"))=false from Bool.and_false _,if_neg (by decide)]
 unfold boundAndCalled
 rw [F.attr_ValueError.ga.bind (.ref x)]
 refine wpAny_bind (wpAny_pure (wpAny_call (codeAny_call_builtin F.attr_ValueError.ga.plain F.entry_bexc_ga (ck ?_))))
 refine wpAny_bind (wpAny_pure (wpAny_bind (wpAny_pure (wpAny_bind (L0.at (wpAny_bind (L3.at (wpAny_pure ?_))))))))
 show wpAny _ _ (handedOut u) _ _ _
 rw [handedOut_of hh]
 exact wpAny_pure h
end
section
variable {prog:Program}{w:World}{A:Around}{E:Value->Shared->Prop}{h:Heap}{g:Array GenState}{d:Drawn}{t:Nat}{os:OsState}{e a0:Addr}{dct:Option Addr}
variable {nm q:Str}{C N:Addr}{bs bm bmB:List Value}{hdct:Bool}{sn:List Str}{sub:List Value}{ab:Bool}{col:Option Bool}{dd:Option Addr}{k0 k1 k2 k3 k5:Option Value}{B newId nid initId:String}
theorem init_base (F:ExcBaseFacts B nid initId bmB) (T:OwnTail h bmB bm){rest:List Value}{Q:Value->Shared->Prop}(hC:h.get? C=some (excClassObj nm q C N bs bm hdct sn sub ab col dd k0 k1 k2 k3 k5 newId))
  (he:h.get? e=some ⟨.ref C,dct,.fields #[.ref a0,.none,.none,.none,.bool false,.none],#[]⟩) (hrest:rest.length≤sizeLine)
  (hq:∀ h' a1,h'.get? e=some ⟨.ref C,dct,.fields #[.ref a1,.none,.none,.none,.bool false,.none],#[]⟩->(∀ b o,b ≠ e->h.get? b=some o->h'.get? b=some o)->Q .none ⟨h',g,d,t,os⟩) :
  wpAny (model prog w) A (call (.builtin initId) (.ref e::rest)) Q E ⟨h,g,d,t,os⟩:=by
 refine wpAny_call (codeAny_call_builtin F.init.plain F.initEntry (wpAny_check_init_subU F T hC he rfl ?_))
 wp_walk
 refine hq _ h.objs.size ?_ fun b o hb z=>?_
 ·rw [Heap.get?_update_self _ (Heap.get?_push_of_some _ he) rfl];rfl
 ·rw [Heap.get?_update_other _ _ (Ne.symm hb)];exact Heap.get?_push_of_some _ z
end
theorem ns_at {K:Frag}{h:Heap}{N:Addr}{mg:Str->Option Value}{n:Str}{v:Value}(X:K.In h) (G:h.Ns N mg) (e:nsIn K N n=some (some v)):mg n=some v:=by
 obtain ⟨ob,ents,prev,hob,hdat,_,hfind⟩:=G
 unfold nsIn at e
 split at e
 ·rename_i c0 d0 es0 n0 sl0 look
  have z:=X _ _ look
  rw [hob] at z
  cases z
  cases hdat
  split at e
  ·rename_i ent hent
   cases e
   rw [←hfind]
   unfold nsFind findBy
   rw [←Array.find?_toList,hent];rfl
  ·split at e<;>cases e
 ·cases e
structure OwnI (K:PySem.W.Frag) (C fI:Addr):Prop where
 ex:excInI K C fI [.type "ValueError",.type "Exception",.type "BaseException",.type "object"] "ValueError.__new__"=true
 fn:typeIn K (.ref fI)=some (.type "function")
 st:EStore K C
theorem OwnI.op {K:PySem.W.Frag}{C fI:Addr}{h:Heap}(O:OwnI K C fI) (X:K.In h):∃ c:ClsD,h.get? C=some (excClassObj c.nm c.q C c.N c.bs c.bm c.hdct c.sn c.sub c.ab c.col c.dd c.k0 c.k1 c.k2 c.k3 c.k5 "ValueError.__new__") ∧
  OwnTail h [.type "ValueError",.type "Exception",.type "BaseException",.type "object"] c.bm∧h.Ns c.N (h.nsMap c.N)∧h.nsMap c.N "__init__"=some (.ref fI):=by
 obtain ⟨c,look0,tok,nok,noi⟩:=cls_op O.ex
 have nsb:h.Ns c.N (h.nsMap c.N):=.of_isNs (PySem.W.isNs_of_in X nok)
 exact ⟨c,X _ _ look0,PySem.W.tail_of_in X tok,nsb,ns_at X nsb noi⟩
def exO (e C:Addr) (d:Option Addr):Heap->Prop:=fun h=>∃ t,h.get? e=some ⟨.ref C,d,.fields #[.ref t,.none,.none,.none,.bool false,.none],#[]⟩
def exH (e C:Addr) (d:Option Addr):HO:=.ext (exO e C d)
theorem exH_ok {P:Program}{w:World}{H:Hp}{h:Heap}{e C:Addr}{d:Option Addr}(q:exO e C d h):ObjOk P w H h e (exH e C d):=by
 obtain ⟨t,he⟩:=id q
 exact ⟨q,⟨_,he⟩,fun h1 h2 ⟨t,a⟩ b=>⟨t,b _ a⟩⟩
theorem exH_get {P:Program}{w:World}{H:Hp}{h:Heap}{e C:Addr}{d:Option Addr}(q:ObjOk P w H h e (exH e C d)):exO e C d h:=q.1
section
variable {X:Cx}{pins:List (Addr × Obj)}{σ:St}{H:Hp}{s:Shared}
theorem Inv.adopt {a:Addr}{o:HO}(I:Inv X pins σ H s) (N:NewAt X pins a) (hn:H a=none) (new:ObjOk X.prog X.w (upd H a o) s.heap a o):Inv X pins σ (upd H a o) s:=by
 have ne:∀ {b:Addr} {u:HO},H b=some u->b ≠ a:=fun q z=>by rw [z,hn] at q;cases q
 refine ⟨I.ok,I.os,I.bare,⟨I.base.keep,I.base.slot,fun b u q n hx=>?_,I.base.there,fun b xs q=>?_,fun b u v q=>?_,fun b ps q=>?_⟩,I.loc,I.cell,?_,fun x c q=>?_,fun p hp=>?_,fun b u q=>?_,I.len⟩
 ·rw [upd_ne (fun z=>by rw [z,N.s0] at q;cases q)];exact I.base.free b u q n hx
 ·have z:=I.base.tups b xs q;rw [upd_ne (ne z)];exact z
 ·have z:=I.base.frzs b u v q;rw [upd_ne (ne z)];exact z
 ·obtain ⟨m,z⟩:=I.base.tbls b ps q;exact ⟨m,by rw [upd_ne (ne z)];exact z⟩
 ·rw [upd_ne (Ne.symm N.loc)];exact I.free
 ·rw [upd_ne (N.cel x c q)];exact I.freeC x c q
 ·obtain ⟨a1,b1,c1,d1,f1⟩:=I.pin p hp
  exact ⟨a1,by rw [upd_ne (N.pin p hp)];exact b1,c1,d1,f1⟩
 ·by_cases hb:b=a
  ·subst hb;rw [upd_same] at q;cases q;exact new
  ·rw [upd_ne hb] at q
   exact (I.hok b u q).stay (fun _ _ _ r=>r) (fun c r=>by rw [upd_ne (ne r)];exact r) fun c xs r=>by rw [upd_ne (ne r)];exact r
theorem Inv.newAt {a:Addr}(I:Inv X pins σ H s) (ha:s.heap.objs.size≤a):NewAt X pins a where
 s0:=Heap.get?_none_of_le (Nat.le_trans I.sz ha)
 loc:=Nat.ne_of_gt (Nat.lt_of_lt_of_le I.lt ha)
 cel:=fun x c e z=>by
  obtain ⟨v,o,q,_⟩:=I.cell x c e
  exact absurd (Nat.lt_of_lt_of_le (Heap.lt_size q) (by rw [z];exact ha)) (Nat.lt_irrefl _)
 fs:=I.nofs ha
 pin:=fun p hp z=>absurd (Nat.lt_of_lt_of_le (Heap.lt_size (I.pin p hp).1) (by rw [z];exact ha)) (Nat.lt_irrefl _)
structure BaseI (K:PySem.W.Frag) (B:Addr):Prop where
 sp:specialIn K (.ref B) "__getattribute__"=some (some (.builtin "type.__getattribute__"))
 rd:readsIn K B (.type "type")=true
 fc:findCls K (.ref B) (.type "type") "__init__"=some (.val (.builtin "ValueError.__init__"))
def kXI (K:PySem.W.Frag) (Q:VK):List V->Hp->Prop:=fun vs H=>∃ e C d fI rest,vs=.ref e::rest∧H e=some (exH e C d)∧OwnI K C fI∧rest.length≤sizeLine∧Q .non H
def tXI (K:PySem.W.Frag) (t:TA):TE:=fun σ H Q=>t σ H (kXI K Q)
theorem pe_xinit {x:Str}{B:Addr}{p apos pos:Pos}{e:Expr}{es:List Expr}{t:TA}{pl:Sem Bool}(hg:Gl X x) (hm:X.mg x=some (.ref B)) (b:BaseI X.K B) (ha:PA X (e::es) t) (hdb:(x == ("__debug__":Str))=false:=by decide)
  (hst:starEach (e::es) X.env=(false,eval e X.env)::starEach es X.env:=by rfl) (hpl:(backTo pos (starEach es X.env)).any (·.1)=false:=by rfl)
  (ht:eval (.Call (.Attribute (.Name x p) "__init__" apos) (e::es) [] pos) X.env=(do
   let ov ←eval (.Name x p) X.env
   standAt apos.atName
   let (f,first) ←holding [ov] (getMethod ov "__init__" pl)
   callWith pos f first (backTo pos (starEach (e::es) X.env)) (backToKw pos (keywordEach [] X.env))):=by rfl) :
  PE X (.Call (.Attribute (.Name x p) "__init__" apos) (e::es) [] pos) (tXI X.K t):=by
 intro pins s σ H Q I h
 refine PySem.W.methodCall_KW (pl:=pl) (ld_glob I hg hm ?_ hdb) ht
 refine method_cls I.kIn b.sp (cls_value I.kIn b.rd b.fc (by decide +kernel) ?_)
 have I1:=I.tok (s.toks+1)
 refine PyProof.Rows.callWith_builtin1 (thn (ha pos pins _ σ H _ I1 h) fun us s1 ⟨vs,H1,J,r1,q1⟩=>?_) hst hpl
 obtain ⟨ex,C,d,fI,rest,rfl,he,O,hl,q⟩:=q1
 cases r1 with
 | cons r rr=>
  cases r
  obtain ⟨t0,h0⟩:=exH_get (J.hok ex _ he)
  obtain ⟨c,hC,T,_,_⟩:=O.op J.kIn
  refine init_base (h:=s1.heap) (g:=s1.gens) (d:=s1.drawn) (t:=s1.toks) (os:=s1.os) PySem.F.excBase_ValueError T hC h0 (by rw [←rr.length];exact hl) fun h' a1 q1 q2=>?_
  have same:upd H1 ex (exH ex C d)=H1:=funext fun b=>by
   by_cases hb:b=ex
   ·rw [hb,upd_same,he]
   ·rw [upd_ne hb]
  have J2:=J.write (t':=s1.toks) (x:=ex) (e:=ex) (o:=exH ex C d) (by rw [he];trivial) (.inl rfl) (fun b u hb z=>q2 b u hb z) ⟨_,q1⟩ (exH_ok ⟨a1,q1⟩)
  rw [same] at J2
  exact ⟨.non,H1,J2,rfl,q⟩
end
end L2
set_option Elab.async false
set_option linter.all false
set_option maxRecDepth 100000
set_option maxHeartbeats 4000000
namespace L2
open PySem PySem.Spec PyProof.Rows PySem.W
def kXS1 (K:PySem.W.Frag) (f:Str) (y:V) (σ:St) (nx:St->Hp->Prop):VK:=fun x H=>∃ e C,x=.ref e∧H e=some (exH e C none)∧EStore K C∧takerIn K C f=some none ∧
 ∀ dx H',H dx=none->dx ≠ e->(∀ b o,b ≠ e->H b=some o->H' b=some o)->H' e=some (exH e C (some dx))->H' dx=some (.xd [(f,y)])->nx σ H'
def kXS0 (K:PySem.W.Frag) (f:Str) (ta:TE) (σ:St) (nx:St->Hp->Prop):VK:=fun y H=>ta σ H (kXS1 K f y σ nx)
def xSetF (K:PySem.W.Frag) (ta tv:TE) (f:Str):TS:=fun D σ H=>tv σ H (kXS0 K f ta σ D.nx)
section
variable {X:Cx}{e o value:Expr}{ta tv:TE}{f:Str}{pos pos':Pos}
theorem ps_xset (ha:PE X o ta) (hv:PE X value tv) (hs:swapsWith value (some (.Attribute o f pos')) pos.line X.env=pure false):PS X (.Assign [.Attribute o f pos'] value pos) (xSetF X.K ta tv f):=by
 intro pins s σ H D I h
 refine plainObj_wpAny_Assign_Attribute (thn (hv pins s σ H _ I h) fun u s1 ⟨y,H1,I1,ry,q⟩=>thn (ha pins s1 σ H1 _ I1 q) fun ov s2 ⟨x,H2,I2,rx,q1⟩=>?_) hs
 obtain ⟨ex,C,rfl,he,st,ht,k⟩:=q1
 obtain rfl:ov=Value.ref ex:=rx
 obtain ⟨t0,h0⟩:=exH_get (I2.hok ex _ he)
 refine set_exc st I2.kIn h0 ht fun h' tk q1 q2 q3=>?_
 have fr:H2 s2.heap.objs.size=none:=I2.hok.fresh (Nat.le_refl _)
 have ne:s2.heap.objs.size ≠ ex:=Nat.ne_of_gt (Heap.lt_size h0)
 have J:=I2.write (t':=tk) (x:=ex) (e:=ex) (o:=exH ex C (some s2.heap.objs.size)) (by rw [he];trivial) (.inl rfl) (fun b u hb z=>q3 b u hb z) ⟨_,q1⟩ (exH_ok ⟨t0,q1⟩)
 have J2:=J.adopt (a:=s2.heap.objs.size) (o:=.xd [(f,y)]) (I2.newAt (Nat.le_refl _)) (by rw [upd_ne ne];exact fr) ⟨_,q2,fun g=>?_⟩
 ·refine ⟨σ,_,J2,k s2.heap.objs.size _ fr ne (fun b u hb z=>?_) ?_ upd_same⟩
  ·rw [upd_ne (ne_of_none z fr),upd_ne hb];exact z
  ·rw [upd_ne (Ne.symm ne),upd_same]
 ·show RelO (List.lookup g [(f,y)]) (if g=f then some u else none)
  by_cases hg:g=f
  ·subst hg
   rw [if_pos rfl,List.lookup_cons_self];exact ry
  ·have hb:(g == f)=false:=beq_eq_false_iff_ne.mpr hg
   rw [if_neg hg,List.lookup_cons,hb];exact True.intro
end
def del (H:Hp) (e:Addr):Hp:=fun b=>if b=e then none else H b
theorem del_same {H:Hp}{e:Addr}:del H e e=none:=if_pos rfl
theorem del_ne {H:Hp}{e b:Addr}(h:b ≠ e):del H e b=H b:=if_neg h
theorem Inv.untrack {X:Cx}{pins:List (Addr × Obj)}{σ:St}{H:Hp}{s:Shared}{e C:Addr}{d:Option Addr}(I:Inv X pins σ H s) (he:H e=some (exH e C d)):Inv X pins σ (del H e) s:=by
 have ne:∀ {b:Addr} {u:HO},H b=some u->u ≠ exH e C d->b ≠ e:=fun q z k=>by rw [k,he] at q;exact z (Option.some.inj q).symm
 have no:∀ {b:Addr},H b=none->del H e b=none:=fun {b} q=>by
  by_cases hb:b=e
  ·rw [hb];exact del_same
  ·rw [del_ne hb];exact q
 refine ⟨I.ok,I.os,I.bare,⟨I.base.keep,I.base.slot,fun b u q n hx=>no (I.base.free b u q n hx),I.base.there,fun b xs q=>?_,fun b u v q=>?_,fun b ps q=>?_⟩,I.loc,I.cell,no I.free,fun x c q=>no (I.freeC x c q),fun p hp=>?_,fun b u q=>?_,I.len⟩
 ·have z:=I.base.tups b xs q;rw [del_ne (ne z (by intro k;cases k))];exact z
 ·have z:=I.base.frzs b u v q;rw [del_ne (ne z (by intro k;cases k))];exact z
 ·obtain ⟨m,z⟩:=I.base.tbls b ps q;exact ⟨m,by rw [del_ne (ne z (by intro k;cases k))];exact z⟩
 ·obtain ⟨a1,b1,c1,d1,f1⟩:=I.pin p hp
  exact ⟨a1,no b1,c1,d1,f1⟩
 ·have hb:b ≠ e:=fun z=>by rw [z,del_same] at q;cases q
  rw [del_ne hb] at q
  exact (I.hok b u q).stay (fun _ _ _ r=>r) (fun c r=>by rw [del_ne (ne r (by intro k;cases k))];exact r) fun c xs r=>by rw [del_ne (ne r (by intro k;cases k))];exact r
def RaisesD (X:Cx) (E:XK) (σ:St):Prop:=∀ (pins:List (Addr × Obj)) (H:Hp) (s:Shared) (e C:Addr) (d:Option Addr),Inv X pins σ H s->H e=none->X.s₀.heap.get? e=none->exO e C d s.heap->(∀ dx,d=some dx->∃ fs,H dx=some (.xd fs))->E (.ref C) d H->X.xe (.ref e) s
theorem raisesD_def {P:Program}{w:World}{K:PySem.W.Frag}{mg:Str->Option Value}{base:Heap}{N:List Str}{qual:Str}{scope:Scope}{f:Addr}{cd:Value}{A:Around}{outer:List Env}{s₀:Shared}{H₀:Hp}{E:XK}{σ:St} :
  RaisesD (cxOf (CX1 P w) P w K mg base N qual scope f cd A outer s₀ H₀ E) E σ:=by
 intro pins H s e C d I hn hn0 hx hd hE
 obtain ⟨t,he⟩:=hx
 show wpAny (model P w) (A.deeper (envOfC qual scope s₀.heap.objs.size f cd)) (leaving (envOfC qual scope s₀.heap.objs.size f cd) (.ref e)) _ _ _
 unfold leaving
 have un:Un (frs outer) [] H₀ H s₀.heap s.heap:=I.base
 refine wpAny_bind (note_new (s:=s) (base:=base) (outer:=outer) I.ok.frames I.stack rfl he rfl rfl rfl fun g T ng nT ex=>?_)
 refine ⟨e,T,.ref C,d,H,rfl,I.os,I.bare,un.noted ng hn0 (fun _ z=>z.elim) (fun b hb=>?_),I.hok.noted ng hn (fun _ z=>z.elim) I.stkFree,hn0,un.gone nT,hn,I.hok.gone nT,ex,hd,hE⟩
 rcases List.mem_cons.mp (I.stkSub b hb) with z|z
 ·exact .inr (by rw [z];exact Heap.get?_none_of_le (Nat.le_refl _))
 ·exact .inl z
theorem raise_made {M:Model}{A:Around}{E:Value->Shared->Prop}{env:Env}{s:Shared}{x:Sem Value}{Q:Flow->Shared->Prop}{C:Addr}(hh:A.handled=none)
  (h:wpAny M A x (fun v s1=>∃ (e:Addr) (d:Option Addr) (c:ClsD) (newId:String),v=.ref e∧s1.heap.get? C=some (excClassObj c.nm c.q C c.N c.bs c.bm c.hdct c.sn c.sub c.ab c.col c.dd c.k0 c.k1 c.k2 c.k3 c.k5 newId)∧c.bm.contains (.type "BaseException")=true∧exO e C d s1.heap∧E (.ref e) s1) E s) :
  wpAny M A (raiseStmt env (some x) none) Q E s:=by
 unfold raiseStmt
 refine wpAny_bind (wpAny_mono h (fun v s1 h1=>?_) fun _ _ z=>z)
 obtain ⟨e,d,c,newId,rfl,hC,hb,⟨t,he⟩,hE⟩:=h1
 have hcB:(Value.ref C::c.bm).contains (.type "BaseException")=true:=by rw [List.contains_cons,hb,Bool.or_true]
 obtain ⟨hp,g,dr,tk,os⟩:=s1
 repeat (first|with_reducible refine wpAny_loadPart_at he ?_|with_reducible refine wpAny_loadPart_at hC ?_|(with_reducible refine wpAny_isSubtype_exc hC ?_;rw [hcB])|wp_step)
 exact wpAny_raiseNew_none hh hE
section
variable {X:Cx}
def kRz (e C:Addr) (E:XK):VK:=fun v H=>v=.non∧∃ d,H e=some (exH e C d)∧(∀ dx,d=some dx->∃ fs,del H e dx=some (.xd fs))∧E (.ref C) d (del H e)
def kRI (C:Addr) (sp:Sp) (E:XK):List V->Hp->Prop:=fun vs H=>vs.length≤sizeLine∧∀ e,H e=none->sp (.ref e::vs) (upd H e (exH e C none)) (kRz e C E) E0
def tRaiseI (C:Addr) (sp:Sp) (E:St->XK) (t:TA):TS:=fun _ σ H=>t σ H (kRI C sp (E σ))
theorem ps_raiseI {C fI:Addr}{fd:FuncData}{ps:List Str}{sp:Sp}{k:Nat}{x:Str}{e₀:Expr}{rest:List Expr}{np cpos pos:Pos}{t:TA}{E:St->XK}(hc:X.calm=true) (hg:Gl X x) (hmg:X.mg x=some (.ref C)) (O:OwnI X.K C fI)
  (F:FnOk X.prog X.w X.K X.mg X.base CX0 k fI fd ps sp) (hr:Room (k+1) X.A) (hb:Binds X.K fd ps []) (hx:∀ σ,RaisesD X (E σ) σ) (ha:PA X (e₀::rest) t)
  (he:starEach (e₀::rest) X.env=(false,eval e₀ X.env)::starEach rest X.env:=by rfl) (hplain:(backTo cpos (starEach rest X.env)).any (·.1)=false:=by rfl) (hdb:(x == ("__debug__":Str))=false:=by decide) :
  PS X (.Raise (some (.Call (.Name x np) (e₀::rest) [] cpos)) none pos) (tRaiseI C sp E t):=by
 intro pins s σ H D I h
 rw [arm_exec_Raise]
 refine wpAny_bind (wpAny_standAt (raise_made (C:=C) (I.ok.hd hc) (wpAny_bind (wpAny_mono (wpAny_Call_ofName (ld_glob I hg hmg ?_ hdb)) (fun v s3 h3=>wpAny_bind (wpAny_standAt (wpAny_pure h3))) fun _ _ z=>z))))
 unfold callWith
 have hh:=ha cpos pins s σ H _ I h
 rw [he] at hh ⊢
 refine wpAny_bind (wpAny_holding (Calls.evalArgs_plain (thn hh fun us s2 ⟨vs,H2,I2,r,hl,hsp⟩=>wpAny_bind (wpAny_standAt ?_))))
 obtain ⟨c,hC,T,hN,hi⟩:=O.op I2.kIn
 have hpl2:(backTo cpos ((false,eval e₀ X.env)::starEach rest X.env)).any (·.1)=false:=(Bool.false_or _).trans hplain
 have I3:Inv X pins σ (upd H2 (s2.heap.objs.size+1) (exH (s2.heap.objs.size+1) C none)) { s2 with heap:=exNew C us s2.heap }:=by
  have J:=I2.kept (t':=s2.toks) (h':=s2.heap.push { cls:=.type "tuple",data:=.seq us.toArray }) fun b u q=>Heap.get?_push_of_some _ q
  refine J.laid (t':=s2.toks) (a:=s2.heap.objs.size+1) (o:=exH (s2.heap.objs.size+1) C none) (fun b u q=>Heap.get?_push_of_some _ q) (Nat.le_of_eq (Heap.size_push _ _)) (exH_ok ⟨s2.heap.objs.size,?_⟩)
  have:=Heap.get?_push_size (s2.heap.push { cls:=.type "tuple",data:=.seq us.toArray }) (o:=⟨.ref C,none,.fields #[.ref s2.heap.objs.size,.none,.none,.none,.bool false,.none],#[]⟩) rfl
  rwa [Heap.size_push] at this
 have hq:=hsp (s2.heap.objs.size+1) (I2.hok.fresh (Nat.le_succ _))
 have r2:Vals (V.ref (s2.heap.objs.size+1)::vs) (Value.ref (s2.heap.objs.size+1)::us):=.cons rfl r
 have hl2:(Value.ref (s2.heap.objs.size+1)::us++[]).length=ps.length:=by
  rw [List.append_nil,←r2.length];exact F.len _ _ _ _ hq
 simp only [hpl2]
 refine wpAny_bind (wpAny_keeperOf_exc (h:=s2.heap) (g:=s2.gens) (d:=s2.drawn) (t:=s2.toks) (os:=s2.os) hC ?_)
 refine wpAny_bind (wpAny_call (exc_own (h:=s2.heap) (g:=s2.gens) (d:=s2.drawn) (t:=s2.toks) (os:=s2.os) PySem.F.excBase_ValueError (by decide +kernel) PySem.F.excBase_ValueError T hC hN hi I2.kIn O.fn (by show us.length≤sizeLine;rw [←r.length];exact hl) ?_))
 have hbind:=hb { s2 with heap:=exNew C us s2.heap } (Value.ref (s2.heap.objs.size+1)::us) I3.kIn hl2
 rw [List.append_nil] at hbind
 refine codeAny_mono (F.run _ X.stack _ _ ⟨Value.ref (s2.heap.objs.size+1)::us,[]⟩ (Value.ref (s2.heap.objs.size+1)::us) _ _ E0 (hr.make C us []) (I3.env0.make C us []) hbind r2 hq) fun rr s' hq'=>?_
 cases rr with
 | error e=>exact hq'.elim
 | ok fl=>
  cases fl with
  | ret u=>
   obtain ⟨v,H',I4,rv,rfl,d,hd1,hd2,hE⟩:=I3.after hq'
   cases rv
   refine ⟨rfl,wpAny_bind (wpAny_holding (wpAny_point (wpAny_pure ?_)))⟩
   obtain ⟨c',hC',T',_,_⟩:=O.op I4.kIn
   exact ⟨s2.heap.objs.size+1,d,c',_,rfl,hC',T'.hasType (by decide +kernel),exH_get (I4.hok _ _ hd1),
    hx σ pins (del H' (s2.heap.objs.size+1)) s' _ C d (I4.untrack hd1) del_same (Heap.get?_none_of_le (Nat.le_trans I2.sz (Nat.le_succ _))) (exH_get (I4.hok _ _ hd1)) hd2 hE⟩
  | next=>exact False.elim hq'
  | brk=>exact False.elim hq'
  | cont=>exact False.elim hq'
def kXF (K:PySem.W.Frag) (f:Str) (Q:VK):VK:=fun x H=>∃ e oe C dx fs v,x=.ref e∧H e=some (excO oe)∧oe.cls=.ref C∧oe.dict=some dx∧(∃ vs,oe.data=.fields vs)∧H dx=some (.xd fs)∧ECls K C∧NoAttr K C f∧fs.lookup f=some v∧Q v H
def tXF (K:PySem.W.Frag) (ta:TE) (f:Str):TE:=fun σ H Q=>ta σ H (kXF K f Q)
theorem pe_xfld {e:Expr}{f:Str}{pos:Pos}{ta:TE}(he:PE X e ta) (hb:attributeBase e f X.env (eval e X.env)=eval e X.env):PE X (.Attribute e f pos) (tXF X.K ta f):=by
 intro pins s σ H Q I h
 refine attr_of hb (thn (he pins s σ H _ I h) fun u s1 ⟨x,H1,I1,rx,q1⟩=>?_)
 obtain ⟨ex,oe,C,dx,fs,v,rfl,hx,hcl,hd,⟨vs,hdat⟩,hxd,c,n,l,q⟩:=q1
 obtain rfl:u=Value.ref ex:=rx
 have h1:s1.heap.get? ex=some oe:=(I1.hok ex _ hx).1
 obtain ⟨mA,hn,hr⟩:=I1.hok dx _ hxd
 obtain ⟨u,hu,ru⟩:=RelO.some_of (v:=v) (o:=mA f) (by rw [←l];exact hr f)
 exact exc_get c I1.kIn h1 hcl (by unfold notCls;rw [hdat]) hd hn n hu (handed_of ru) ⟨v,H1,I1.tok _,ru,q⟩
theorem pe_xfld' {K:PySem.W.Frag}(hK:X.K=K){e:Expr}{f:Str}{pos:Pos}{ta:TE}(he:PE X e ta) (hb:attributeBase e f X.env (eval e X.env)=eval e X.env):PE X (.Attribute e f pos) (tXF K ta f):=hK ▸ pe_xfld he hb
end
end L2
set_option Elab.async false
set_option linter.all false
set_option maxRecDepth 100000
set_option maxHeartbeats 4000000
namespace L2
open PySem
open PySem.Spec PyProof.Rows
theorem gName_0 {a:Option V}{v:V}{σ:St}{H:Hp}{Q:St->Hp->Prop}:gName 0 v (a::σ) H Q=Q (some v::σ) H:=rfl
theorem gName_1 {a0:Option V}{a:Option V}{v:V}{σ:St}{H:Hp}{Q:St->Hp->Prop}:gName 1 v (a0::a::σ) H Q=Q (a0::some v::σ) H:=rfl
theorem gName_2 {a0 a1:Option V}{a:Option V}{v:V}{σ:St}{H:Hp}{Q:St->Hp->Prop}:gName 2 v (a0::a1::a::σ) H Q=Q (a0::a1::some v::σ) H:=rfl
theorem gName_3 {a0 a1 a2:Option V}{a:Option V}{v:V}{σ:St}{H:Hp}{Q:St->Hp->Prop}:gName 3 v (a0::a1::a2::a::σ) H Q=Q (a0::a1::a2::some v::σ) H:=rfl
theorem gName_4 {a0 a1 a2 a3:Option V}{a:Option V}{v:V}{σ:St}{H:Hp}{Q:St->Hp->Prop}:gName 4 v (a0::a1::a2::a3::a::σ) H Q=Q (a0::a1::a2::a3::some v::σ) H:=rfl
theorem gName_5 {a0 a1 a2 a3 a4:Option V}{a:Option V}{v:V}{σ:St}{H:Hp}{Q:St->Hp->Prop}:gName 5 v (a0::a1::a2::a3::a4::a::σ) H Q=Q (a0::a1::a2::a3::a4::some v::σ) H:=rfl
theorem gName_6 {a0 a1 a2 a3 a4 a5:Option V}{a:Option V}{v:V}{σ:St}{H:Hp}{Q:St->Hp->Prop}:gName 6 v (a0::a1::a2::a3::a4::a5::a::σ) H Q=Q (a0::a1::a2::a3::a4::a5::some v::σ) H:=rfl
theorem gName_7 {a0 a1 a2 a3 a4 a5 a6:Option V}{a:Option V}{v:V}{σ:St}{H:Hp}{Q:St->Hp->Prop}:gName 7 v (a0::a1::a2::a3::a4::a5::a6::a::σ) H Q=Q (a0::a1::a2::a3::a4::a5::a6::some v::σ) H:=rfl
theorem gName_8 {a0 a1 a2 a3 a4 a5 a6 a7:Option V}{a:Option V}{v:V}{σ:St}{H:Hp}{Q:St->Hp->Prop}:gName 8 v (a0::a1::a2::a3::a4::a5::a6::a7::a::σ) H Q=Q (a0::a1::a2::a3::a4::a5::a6::a7::some v::σ) H:=rfl
theorem gName_9 {a0 a1 a2 a3 a4 a5 a6 a7 a8:Option V}{a:Option V}{v:V}{σ:St}{H:Hp}{Q:St->Hp->Prop}:gName 9 v (a0::a1::a2::a3::a4::a5::a6::a7::a8::a::σ) H Q=Q (a0::a1::a2::a3::a4::a5::a6::a7::a8::some v::σ) H:=rfl
theorem gName_10 {a0 a1 a2 a3 a4 a5 a6 a7 a8 a9:Option V}{a:Option V}{v:V}{σ:St}{H:Hp}{Q:St->Hp->Prop}:gName 10 v (a0::a1::a2::a3::a4::a5::a6::a7::a8::a9::a::σ) H Q=Q (a0::a1::a2::a3::a4::a5::a6::a7::a8::a9::some v::σ) H:=rfl
theorem gName_11 {a0 a1 a2 a3 a4 a5 a6 a7 a8 a9 a10:Option V}{a:Option V}{v:V}{σ:St}{H:Hp}{Q:St->Hp->Prop}:gName 11 v (a0::a1::a2::a3::a4::a5::a6::a7::a8::a9::a10::a::σ) H Q=Q (a0::a1::a2::a3::a4::a5::a6::a7::a8::a9::a10::some v::σ) H:=rfl
theorem gName_12 {a0 a1 a2 a3 a4 a5 a6 a7 a8 a9 a10 a11:Option V}{a:Option V}{v:V}{σ:St}{H:Hp}{Q:St->Hp->Prop}:gName 12 v (a0::a1::a2::a3::a4::a5::a6::a7::a8::a9::a10::a11::a::σ) H Q=Q (a0::a1::a2::a3::a4::a5::a6::a7::a8::a9::a10::a11::some v::σ) H:=rfl
theorem gName_13 {a0 a1 a2 a3 a4 a5 a6 a7 a8 a9 a10 a11 a12:Option V}{a:Option V}{v:V}{σ:St}{H:Hp}{Q:St->Hp->Prop}:gName 13 v (a0::a1::a2::a3::a4::a5::a6::a7::a8::a9::a10::a11::a12::a::σ) H Q=Q (a0::a1::a2::a3::a4::a5::a6::a7::a8::a9::a10::a11::a12::some v::σ) H:=rfl
theorem gName_14 {a0 a1 a2 a3 a4 a5 a6 a7 a8 a9 a10 a11 a12 a13:Option V}{a:Option V}{v:V}{σ:St}{H:Hp}{Q:St->Hp->Prop}:gName 14 v (a0::a1::a2::a3::a4::a5::a6::a7::a8::a9::a10::a11::a12::a13::a::σ) H Q=Q (a0::a1::a2::a3::a4::a5::a6::a7::a8::a9::a10::a11::a12::a13::some v::σ) H:=rfl
theorem gName_15 {a0 a1 a2 a3 a4 a5 a6 a7 a8 a9 a10 a11 a12 a13 a14:Option V}{a:Option V}{v:V}{σ:St}{H:Hp}{Q:St->Hp->Prop}:gName 15 v (a0::a1::a2::a3::a4::a5::a6::a7::a8::a9::a10::a11::a12::a13::a14::a::σ) H Q=Q (a0::a1::a2::a3::a4::a5::a6::a7::a8::a9::a10::a11::a12::a13::a14::some v::σ) H:=rfl
theorem gName_16 {a0 a1 a2 a3 a4 a5 a6 a7 a8 a9 a10 a11 a12 a13 a14 a15:Option V}{a:Option V}{v:V}{σ:St}{H:Hp}{Q:St->Hp->Prop}:gName 16 v (a0::a1::a2::a3::a4::a5::a6::a7::a8::a9::a10::a11::a12::a13::a14::a15::a::σ) H Q=Q (a0::a1::a2::a3::a4::a5::a6::a7::a8::a9::a10::a11::a12::a13::a14::a15::some v::σ) H:=rfl
theorem gName_17 {a0 a1 a2 a3 a4 a5 a6 a7 a8 a9 a10 a11 a12 a13 a14 a15 a16:Option V}{a:Option V}{v:V}{σ:St}{H:Hp}{Q:St->Hp->Prop}:gName 17 v (a0::a1::a2::a3::a4::a5::a6::a7::a8::a9::a10::a11::a12::a13::a14::a15::a16::a::σ) H Q=Q (a0::a1::a2::a3::a4::a5::a6::a7::a8::a9::a10::a11::a12::a13::a14::a15::a16::some v::σ) H:=rfl
theorem gName_18 {a0 a1 a2 a3 a4 a5 a6 a7 a8 a9 a10 a11 a12 a13 a14 a15 a16 a17:Option V}{a:Option V}{v:V}{σ:St}{H:Hp}{Q:St->Hp->Prop}:gName 18 v (a0::a1::a2::a3::a4::a5::a6::a7::a8::a9::a10::a11::a12::a13::a14::a15::a16::a17::a::σ) H Q=Q (a0::a1::a2::a3::a4::a5::a6::a7::a8::a9::a10::a11::a12::a13::a14::a15::a16::a17::some v::σ) H:=rfl
theorem gName_19 {a0 a1 a2 a3 a4 a5 a6 a7 a8 a9 a10 a11 a12 a13 a14 a15 a16 a17 a18:Option V}{a:Option V}{v:V}{σ:St}{H:Hp}{Q:St->Hp->Prop}:gName 19 v (a0::a1::a2::a3::a4::a5::a6::a7::a8::a9::a10::a11::a12::a13::a14::a15::a16::a17::a18::a::σ) H Q=Q (a0::a1::a2::a3::a4::a5::a6::a7::a8::a9::a10::a11::a12::a13::a14::a15::a16::a17::a18::some v::σ) H:=rfl
def optK {α:Type}:Option α->(α->Prop)->Prop
 | some x,k=>k x
 | none,_=>False
theorem optK_some {α:Type}(x:α) (k:α->Prop):optK (some x) k=k x:=rfl
theorem optK_ex {α:Type}{o:Option α}{k:α->Prop}(h:optK o k):∃ x,o=some x∧k x:=by
 cases o with
 | none=>exact h.elim
 | some x=>exact ⟨x,rfl,h⟩
def seqO:HO->Option (List V)
 | .lst xs=>some xs
 | .tup xs=>some xs
 | .frz _ (.lst xs)=>some xs
 | _=>none
def lstO:HO->Option (List V)
 | .lst xs=>some xs
 | _=>none
def tupO:HO->Option (List V)
 | .tup xs=>some xs
 | _=>none
def itemsAt (H:Hp) (p:Addr):Option (List V):=(H p).bind seqO
def lstAt (H:Hp) (p:Addr):Option (List V):=(H p).bind lstO
def tupAt (H:Hp) (p:Addr):Option (List V):=(H p).bind tupO
theorem seqO_lst (xs:List V):seqO (.lst xs)=some xs:=rfl
theorem seqO_tup (xs:List V):seqO (.tup xs)=some xs:=rfl
theorem lstO_lst (xs:List V):lstO (.lst xs)=some xs:=rfl
theorem tupO_tup (xs:List V):tupO (.tup xs)=some xs:=rfl
theorem bind_some' {α β:Type}(x:α) (f:α->Option β):(some x).bind f=f x:=rfl
abbrev Ext (H H':Hp):Prop:=(∀ a,(H a).isSome=true->H' a=H a)∧∀ (K:PySem.W.Frag) a xs,SqL K H a xs->SqL K H' a xs
def kOp' (r:R2) (x:V) (Q:VK):VK:=fun y H=>r x y H Q
theorem m_kOp' (r:R2) (x y:V) (H:Hp) (Q:VK):(kOp' r x Q y H)=(r x y H Q):=rfl
def kOp (r:R2) (tb:TE) (σ:St) (Q:VK):VK:=fun x H=>tb σ H (kOp' r x Q)
theorem m_kOp (r:R2) (tb:TE) (σ:St) (Q:VK) (x:V) (H:Hp):(kOp r tb σ Q x H)=(tb σ H (kOp' r x Q)):=rfl
theorem m_tOp (r:R2) (ta tb:TE) (σ:St) (H:Hp) (Q:VK):(tOp r ta tb σ H Q)=(ta σ H (kOp r tb σ Q)):=rfl
theorem m_tC (v:V) (σ:St) (H:Hp) (Q:VK):(tC v σ H Q)=(Q v H):=rfl
def kUn (r:V->Hp->VK->Prop) (Q:VK):VK:=fun x H=>r x H Q
theorem m_kUn (r:V->Hp->VK->Prop) (Q:VK) (x:V) (H:Hp):(kUn r Q x H)=(r x H Q):=rfl
theorem m_tUn (r:V->Hp->VK->Prop) (ta:TE) (σ:St) (H:Hp) (Q:VK):(tUn r ta σ H Q)=(ta σ H (kUn r Q)):=rfl
def kTest (Q:Bool->Hp->Prop):VK:=fun x H=>∃ k,x=.bl k∧Q k H
def kNot (Q:Bool->Hp->Prop):Bool->Hp->Prop:=fun c H=>Q (!c) H
theorem m_kNot (Q:Bool->Hp->Prop) (c:Bool) (H:Hp):(kNot Q c H)=(Q (!c) H):=rfl
theorem m_tNot (t:TT) (σ:St) (H:Hp) (Q:Bool->Hp->Prop):(tNot t σ H Q)=(t σ H (kNot Q)):=rfl
def kOr (u:TT) (σ:St) (Q:Bool->Hp->Prop):Bool->Hp->Prop:=fun c H=>if c=true then Q true H else u σ H Q
theorem m_kOr (u:TT) (σ:St) (Q:Bool->Hp->Prop) (c:Bool) (H:Hp):(kOr u σ Q c H)=(if c=true then Q true H else u σ H Q):=rfl
theorem m_tOr (t u:TT) (σ:St) (H:Hp) (Q:Bool->Hp->Prop):(tOr t u σ H Q)=(t σ H (kOr u σ Q)):=rfl
def kAndV (tb:TE) (σ:St) (Q:VK):VK:=fun x H=>∃ c,x=.bl c∧if c=true then tb σ H Q else Q (.bl false) H
def kNotV (Q:VK):VK:=fun x H=>∃ c,x=.bl c∧Q (.bl (!c)) H
def kIfE (ta tb:TE) (σ:St) (Q:VK):Bool->Hp->Prop:=fun c H=>if c=true then ta σ H Q else tb σ H Q
theorem m_kIfE (ta tb:TE) (σ:St) (Q:VK) (c:Bool) (H:Hp):(kIfE ta tb σ Q c H)=(if c=true then ta σ H Q else tb σ H Q):=rfl
theorem m_tIf (t:TT) (ta tb:TE) (σ:St) (H:Hp) (Q:VK):(tIf t ta tb σ H Q)=(t σ H (kIfE ta tb σ Q)):=rfl
def kCh3 (r':R2) (y:V) (Q:VK):VK:=fun w H=>r' y w H Q
theorem m_kCh3 (r':R2) (y w:V) (Q:VK) (H:Hp):(kCh3 r' y Q w H)=(r' y w H Q):=rfl
def kCh2 (r':R2) (tc:TE) (σ:St) (y:V) (Q:VK):VK:=fun z H=>∃ k,z=.bl k∧(if k=true then tc σ H (kCh3 r' y Q) else Q (.bl false) H)
def kCh1 (r r':R2) (tc:TE) (σ:St) (x:V) (Q:VK):VK:=fun y H=>r x y H (kCh2 r' tc σ y Q)
def kCh0 (r r':R2) (tb tc:TE) (σ:St) (Q:VK):VK:=fun x H=>tb σ H (kCh1 r r' tc σ x Q)
theorem m_tNil (σ:St) (H:Hp) (Q:List V->Hp->Prop):(tNil σ H Q)=(Q [] H):=rfl
def kCons' (x:V) (Q:List V->Hp->Prop):List V->Hp->Prop:=fun xs H=>Q (x::xs) H
theorem m_kCons' (x:V) (Q:List V->Hp->Prop) (xs:List V) (H:Hp):(kCons' x Q xs H)=(Q (x::xs) H):=rfl
def kCons (tr:TA) (σ:St) (Q:List V->Hp->Prop):VK:=fun x H=>tr σ H (kCons' x Q)
theorem m_kCons (tr:TA) (σ:St) (Q:List V->Hp->Prop) (x:V) (H:Hp):(kCons tr σ Q x H)=(tr σ H (kCons' x Q)):=rfl
theorem m_tCons (ta:TE) (tr:TA) (σ:St) (H:Hp) (Q:List V->Hp->Prop):(tCons ta tr σ H Q)=(ta σ H (kCons tr σ Q)):=rfl
def kCall (sp:Sp) (dvs:List V) (E:XK) (Q:VK):List V->Hp->Prop:=fun vs H=>sp (vs++dvs) H Q E
theorem m_kCall_1 (v0:V) (sp:Sp) (dvs:List V) (E:XK) (Q:VK) (H:Hp):kCall sp dvs E Q [v0] H=sp (v0::dvs) H Q E:=rfl
theorem m_kCall_2 (v0 v1:V) (sp:Sp) (dvs:List V) (E:XK) (Q:VK) (H:Hp):kCall sp dvs E Q [v0,v1] H=sp (v0::v1::dvs) H Q E:=rfl
theorem m_kCall_3 (v0 v1 v2:V) (sp:Sp) (dvs:List V) (E:XK) (Q:VK) (H:Hp):kCall sp dvs E Q [v0,v1,v2] H=sp (v0::v1::v2::dvs) H Q E:=rfl
theorem m_kCall_5 (v0 v1 v2 v3 v4:V) (sp:Sp) (dvs:List V) (E:XK) (Q:VK) (H:Hp):kCall sp dvs E Q [v0,v1,v2,v3,v4] H=sp (v0::v1::v2::v3::v4::dvs) H Q E:=rfl
theorem m_tCall (sp:Sp) (dvs:List V) (E:XK) (t:TA) (σ:St) (H:Hp) (Q:VK):(tCall sp dvs E t σ H Q)=(t σ H (kCall sp dvs E Q)):=rfl
def kCB (r:List V->Hp->VK->Prop) (Q:VK):List V->Hp->Prop:=fun vs H=>r vs H Q
theorem m_kCB (r:List V->Hp->VK->Prop) (Q:VK) (vs:List V) (H:Hp):(kCB r Q vs H)=(r vs H Q):=rfl
theorem m_tCB (r:List V->Hp->VK->Prop) (t:TA) (σ:St) (H:Hp) (Q:VK):(tCB r t σ H Q)=(t σ H (kCB r Q)):=rfl
theorem m_tNext (nx:St->Hp->Prop) (rt:VK) (bk ct:St->Hp->Prop) (σ:St) (H:Hp):(tNext ⟨nx,rt,bk,ct⟩ σ H)=(nx σ H):=rfl
theorem m_tSeq (t u:TS) (nx:St->Hp->Prop) (rt:VK) (bk ct:St->Hp->Prop) (σ:St) (H:Hp):(tSeq t u ⟨nx,rt,bk,ct⟩ σ H)=(t ⟨u ⟨nx,rt,bk,ct⟩,rt,bk,ct⟩ σ H):=rfl
theorem m_tRet (te:TE) (nx:St->Hp->Prop) (rt:VK) (bk ct:St->Hp->Prop) (σ:St) (H:Hp):(tRet te ⟨nx,rt,bk,ct⟩ σ H)=(te σ H rt):=rfl
def kDrop (nx:St->Hp->Prop) (σ:St):VK:=fun x H=>nx σ H
theorem m_kDrop (nx:St->Hp->Prop) (σ:St) (x:V) (H:Hp):(kDrop nx σ x H)=(nx σ H):=rfl
theorem m_tDrop (te:TE) (nx:St->Hp->Prop) (rt:VK) (bk ct:St->Hp->Prop) (σ:St) (H:Hp):(tDrop te ⟨nx,rt,bk,ct⟩ σ H)=(te σ H (kDrop nx σ)):=rfl
def kIfS (t u:TS) (D:Ends) (σ:St):Bool->Hp->Prop:=fun b H=>if b=true then t D σ H else u D σ H
theorem m_kIfS (t u:TS) (D:Ends) (σ:St) (b:Bool) (H:Hp):(kIfS t u D σ b H)=(if b=true then t D σ H else u D σ H):=rfl
theorem m_tIfS (c:TT) (t u:TS) (D:Ends) (σ:St) (H:Hp):(tIfS c t u D σ H)=(c σ H (kIfS t u D σ)):=rfl
def kAsg (g:TG) (σ:St) (nx:St->Hp->Prop):VK:=fun x H=>g x σ H nx
theorem m_kAsg (g:TG) (σ:St) (nx:St->Hp->Prop) (x:V) (H:Hp):(kAsg g σ nx x H)=(g x σ H nx):=rfl
theorem m_tAsg (te:TE) (g:TG) (nx:St->Hp->Prop) (rt:VK) (bk ct:St->Hp->Prop) (σ:St) (H:Hp):(tAsg te g ⟨nx,rt,bk,ct⟩ σ H)=(te σ H (kAsg g σ nx)):=rfl
def kGs (u:TGs) (r:List V) (Q:St->Hp->Prop):St->Hp->Prop:=fun σ' H'=>u r σ' H' Q
theorem m_kGs (u:TGs) (r:List V) (Q:St->Hp->Prop) (σ:St) (H:Hp):(kGs u r Q σ H)=(u r σ H Q):=rfl
end L2
set_option Elab.async false
set_option linter.all false
set_option maxRecDepth 100000
set_option maxHeartbeats 4000000
namespace L2
open PySem PySem.Spec PyProof.Rows
section
variable {X:Cx}
theorem OpR.mono {f:Value->Value->Sem Value}{r r':R2}(h:OpR X f r) (m:∀ x y H Q,r' x y H Q->r x y H Q):OpR X f r':=fun pins s σ H x y v u Q I rx ry hq=>h pins s σ H x y v u Q I rx ry (m _ _ _ _ hq)
theorem CallR.mono {f:Value}{r r':List V->Hp->VK->Prop}(h:CallR X f r) (m:∀ xs H Q,r' xs H Q->r xs H Q):CallR X f r':=fun pins s σ H xs us Q I rx hq=>h pins s σ H xs us Q I rx (m _ _ _ hq)
theorem IxR.mono {r r':R2}(h:IxR X r) (m:∀ x y H Q,r' x y H Q->r x y H Q):IxR X r':=fun a b pins s σ H x y v u Q I rx ry hq=>h a b pins s σ H x y v u Q I rx ry (m _ _ _ _ hq)
theorem SlR.mono {r r':V->Option Int->Option Int->Hp->VK->Prop}(h:SlR X r) (m:∀ x lo hi H Q,r' x lo hi H Q->r x lo hi H Q):SlR X r':=fun pins s σ H x v vl vu lo hi sl Q I rx a b c hq=>h pins s σ H x v vl vu lo hi sl Q I rx a b c (m _ _ _ _ _ hq)
theorem PG.mono {tg:Expr}{g g':TG}(h:PG X tg g) (m:∀ v σ H Q,g' v σ H Q->g v σ H Q):PG X tg g':=fun pins s σ H v u Q I r hq=>h pins s σ H v u Q I r (m _ _ _ _ hq)
theorem items_seq {K:PySem.W.Frag}{H:Hp}{p:Addr}{ys:List V}(h:itemsAt H p=some ys):SqL K H p ys∨SqT K H p ys:=by
 unfold itemsAt at h
 cases e:H p with
 | none=>rw [e] at h;cases h
 | some o=>
  rw [e] at h
  have h':seqO o=some ys:=h
  cases o with
  | lst xs=>cases h';exact .inl (SqL.of e)
  | tup xs=>cases h';exact .inr (SqT.of e)
  | frz ob u=>
   cases u with
   | lst xs=>cases h';exact .inl (.inl (.inr ⟨ob,e⟩))
   | _=>cases h'
  | _=>cases h'
theorem lst_of {H:Hp}{p:Addr}{ys:List V}(h:lstAt H p=some ys):H p=some (.lst ys):=by
 unfold lstAt at h
 cases e:H p with
 | none=>rw [e] at h;cases h
 | some o=>
  rw [e] at h
  have h':lstO o=some ys:=h
  cases o with
  | lst xs=>cases h';rfl
  | _=>cases h'
theorem tup_of {H:Hp}{p:Addr}{ys:List V}(h:tupAt H p=some ys):H p=some (.tup ys):=by
 unfold tupAt at h
 cases e:H p with
 | none=>rw [e] at h;cases h
 | some o=>
  rw [e] at h
  have h':tupO o=some ys:=h
  cases o with
  | tup xs=>cases h';rfl
  | _=>cases h'
def kLen (H:Hp) (Q:VK):List V->Prop:=fun ys=>Q (.int ys.length) H
theorem m_kLen (H:Hp) (Q:VK) (ys:List V):kLen H Q ys=Q (.int ys.length) H:=rfl
def qLen (xs:List V) (H:Hp) (Q:VK):Prop:=match xs with
 | [.ref p]=>optK (itemsAt H p) (kLen H Q)
 | [.str z]=>z.length≤sizeLine∧Q (.int z.length) H
 | _=>False
theorem m_qLen (p:Addr) (H:Hp) (Q:VK):qLen [.ref p] H Q=optK (itemsAt H p) (kLen H Q):=rfl
theorem call_qLen:CallR X (.builtin "len") qLen:=by
 refine (call_len_seq.or call_len_str).mono fun xs H Q h=>?_
 unfold qLen at h
 split at h
 ·rename_i p
  obtain ⟨ys,e,q⟩:=optK_ex h
  exact .inl ⟨p,ys,rfl,items_seq e,q⟩
 ·rename_i z
  exact .inr ⟨z,rfl,h.1,h.2⟩
 ·exact h.elim
def kIx' (H:Hp) (Q:VK):V->Prop:=fun v=>Q v H
theorem m_kIx' (H:Hp) (Q:VK) (v:V):kIx' H Q v=Q v H:=rfl
def kIx (i:Int) (H:Hp) (Q:VK):List V->Prop:=fun ys=>optK (atI ys i) (kIx' H Q)
theorem m_kIx (i:Int) (H:Hp) (Q:VK) (ys:List V):kIx i H Q ys=optK (atI ys i) (kIx' H Q):=rfl
def qIx:R2:=fun x y H Q=>match x,y with
 | .ref p,.int i=>optK (itemsAt H p) (kIx i H Q)
 | _,_=>False
theorem m_qIx (p:Addr) (i:Int) (H:Hp) (Q:VK):qIx (.ref p) (.int i) H Q=optK (itemsAt H p) (kIx i H Q):=rfl
theorem ix_q:IxR X qIx:=by
 refine (ix_list.or ix_tup).mono fun x y H Q h=>?_
 unfold qIx at h
 split at h
 ·rename_i p i
  obtain ⟨ys,e,q⟩:=optK_ex h
  obtain ⟨v,e2,q2⟩:=optK_ex q
  rcases items_seq (K:=X.K) e with z|z
  ·exact .inl ⟨p,ys,i,v,rfl,rfl,z,e2,q2⟩
  ·exact .inr ⟨p,ys,i,v,rfl,rfl,z,e2,q2⟩
 ·exact h.elim
theorem atI_0 {α:Type}(a:α) (xs:List α):atI (a::xs) 0=some a:=atI_nat (j:=0) rfl
theorem atI_1 {α:Type}(a b:α) (xs:List α):atI (a::b::xs) 1=some b:=atI_nat (j:=1) rfl
theorem atI_2 {α:Type}(a b c:α) (xs:List α):atI (a::b::c::xs) 2=some c:=atI_nat (j:=2) rfl
theorem atI_3 {α:Type}(a b c d:α) (xs:List α):atI (a::b::c::d::xs) 3=some d:=atI_nat (j:=3) rfl
theorem atI_4 {α:Type}(a b c d e:α) (xs:List α):atI (a::b::c::d::e::xs) 4=some e:=atI_nat (j:=4) rfl
def kNewL (H:Hp) (Q:VK):List V->Prop:=fun ys=>∀ l,H l=none->Q (.ref l) (upd H l (.lst ys))
def qList (xs:List V) (H:Hp) (Q:VK):Prop:=match xs with
 | [.ref p]=>optK (itemsAt H p) (kNewL H Q)
 | _=>False
theorem call_qList:CallR X (.type "list") qList:=by
 refine call_list_of.mono fun xs H Q h=>?_
 unfold qList at h
 split at h
 ·rename_i p
  obtain ⟨ys,e,q⟩:=optK_ex h
  exact ⟨p,ys,rfl,items_seq e,q⟩
 ·exact h.elim
def qMax (xs:List V) (H:Hp) (Q:VK):Prop:=match xs with
 | [.int i,.int j]=>Q (.int (if i < j then j else i)) H
 | _=>False
theorem m_qMax (i j:Int) (H:Hp) (Q:VK):qMax [.int i,.int j] H Q=Q (.int (if i < j then j else i)) H:=rfl
theorem call_qMax (hc:X.calm=true):CallR X (.builtin "max") qMax:=by
 refine (call_max2 hc).mono fun xs H Q h=>?_
 unfold qMax at h
 split at h
 ·rename_i i j;exact ⟨i,j,rfl,h⟩
 ·exact h.elim
def qMin (xs:List V) (H:Hp) (Q:VK):Prop:=match xs with
 | [.int i,.int j]=>Q (.int (if j < i then j else i)) H
 | _=>False
theorem m_qMin (i j:Int) (H:Hp) (Q:VK):qMin [.int i,.int j] H Q=Q (.int (if j < i then j else i)) H:=rfl
theorem call_qMin (hc:X.calm=true):CallR X (.builtin "min") qMin:=by
 refine (call_min2 hc).mono fun xs H Q h=>?_
 unfold qMin at h
 split at h
 ·rename_i i j;exact ⟨i,j,rfl,h⟩
 ·exact h.elim
def tyO:HO->Option String
 | .lst _=>some "list"
 | .tup _=>some "tuple"
 | .frz _ (.lst _)=>some "list"
 | .dK _=>some "dict"
 | .dT _=>some "dict"
 | _=>none
theorem tyO_lst (xs:List V):tyO (.lst xs)=some "list":=rfl
theorem tyO_tup (xs:List V):tyO (.tup xs)=some "tuple":=rfl
def tyN (H:Hp):V->Option String
 | .non=>some "NoneType"
 | .bl _=>some "bool"
 | .int _=>some "int"
 | .str _=>some "str"
 | .ref p=>(H p).bind tyO
 | _=>none
theorem tyN_non (H:Hp):tyN H .non=some "NoneType":=rfl
theorem tyN_bl (H:Hp) (b:Bool):tyN H (.bl b)=some "bool":=rfl
theorem tyN_int (H:Hp) (i:Int):tyN H (.int i)=some "int":=rfl
theorem tyN_str (H:Hp) (x:Str):tyN H (.str x)=some "str":=rfl
theorem tyN_ref (H:Hp) (p:Addr):tyN H (.ref p)=(H p).bind tyO:=rfl
theorem tyN_ok {K:PySem.W.Frag}{H:Hp}{x:V}{t:String}(h:tyN H x=some t):TyOf K H x (.type t):=by
 cases x with
 | non=>cases h;exact .non
 | bl b=>cases h;exact .bl b
 | int i=>cases h;exact .int i
 | str x=>cases h;exact .str x
 | ref p=>
  have h':(H p).bind tyO=some t:=h
  cases e:H p with
  | none=>rw [e] at h';cases h'
  | some o=>
   rw [e] at h'
   have h2:tyO o=some t:=h'
   cases o with
   | lst xs=>cases h2;exact .lst e
   | tup xs=>cases h2;exact .tup e
   | dK xs=>cases h2;exact .dK e
   | dT xs=>cases h2;exact .dT e
   | frz ob u=>
    cases u with
    | lst xs=>cases h2;exact .frz e
    | _=>cases h2
   | _=>cases h2
 | _=>cases h
def kTypes:List String:=["NoneType", "bool", "int", "str", "list", "tuple", "dict"]
def isiN (t n:String):Bool:=t == n || (t == "bool" && n == "int")
theorem kit_isiN (K:PySem.W.Frag):∀ t∈kTypes,∀ n∈kTypes,PySem.W.kitOne K (.type t) (.type n)=some (isiN t n):=by
 intro t ht n hn
 unfold kTypes at ht hn
 simp only [List.mem_cons,List.not_mem_nil,or_false] at ht hn
 rcases ht with rfl|rfl|rfl|rfl|rfl|rfl|rfl<;>rcases hn with rfl|rfl|rfl|rfl|rfl|rfl|rfl<;>exact kitOne_ty K _ _ _ (by decide +kernel)
def kIsi (n:String) (H:Hp) (Q:VK):String->Prop:=fun t=>t∈kTypes∧Q (.bl (isiN t n)) H
def qIsi (xs:List V) (H:Hp) (Q:VK):Prop:=match xs with
 | [x,.ty n]=>n∈kTypes∧optK (tyN H x) (kIsi n H Q)
 | _=>False
theorem call_qIsi:CallR X (.builtin "isinstance") qIsi:=by
 refine call_isi.mono fun xs H Q h=>?_
 unfold qIsi at h
 split at h
 ·rename_i x n
  obtain ⟨hn,h⟩:=h
  obtain ⟨t,e,ht,q⟩:=optK_ex h
  exact ⟨x,n,_,_,rfl,tyN_ok e,kit_isiN _ t ht n hn,q⟩
 ·exact h.elim
theorem m_qIsi_int (x:V) (H:Hp) (Q:VK):qIsi [x,.ty "int"] H Q=optK (tyN H x) (kIsi "int" H Q):=by
 unfold qIsi;exact propext ⟨fun h=>h.2,fun h=>⟨by decide,h⟩⟩
theorem m_qIsi_bool (x:V) (H:Hp) (Q:VK):qIsi [x,.ty "bool"] H Q=optK (tyN H x) (kIsi "bool" H Q):=by
 unfold qIsi;exact propext ⟨fun h=>h.2,fun h=>⟨by decide,h⟩⟩
theorem m_qIsi_tuple (x:V) (H:Hp) (Q:VK):qIsi [x,.ty "tuple"] H Q=optK (tyN H x) (kIsi "tuple" H Q):=by
 unfold qIsi;exact propext ⟨fun h=>h.2,fun h=>⟨by decide,h⟩⟩
theorem m_qIsi_list (x:V) (H:Hp) (Q:VK):qIsi [x,.ty "list"] H Q=optK (tyN H x) (kIsi "list" H Q):=by
 unfold qIsi;exact propext ⟨fun h=>h.2,fun h=>⟨by decide,h⟩⟩
theorem m_kIsi_Ni (H:Hp) (Q:VK):kIsi "int" H Q "NoneType"=Q (.bl false) H:=propext ⟨fun h=>h.2,fun h=>⟨by decide,h⟩⟩
theorem m_kIsi_bb (H:Hp) (Q:VK):kIsi "bool" H Q "bool"=Q (.bl true) H:=propext ⟨fun h=>h.2,fun h=>⟨by decide,h⟩⟩
theorem m_kIsi_bi (H:Hp) (Q:VK):kIsi "int" H Q "bool"=Q (.bl true) H:=propext ⟨fun h=>h.2,fun h=>⟨by decide,h⟩⟩
theorem m_kIsi_ib (H:Hp) (Q:VK):kIsi "bool" H Q "int"=Q (.bl false) H:=propext ⟨fun h=>h.2,fun h=>⟨by decide,h⟩⟩
theorem m_kIsi_ii (H:Hp) (Q:VK):kIsi "int" H Q "int"=Q (.bl true) H:=propext ⟨fun h=>h.2,fun h=>⟨by decide,h⟩⟩
theorem m_kIsi_si (H:Hp) (Q:VK):kIsi "int" H Q "str"=Q (.bl false) H:=propext ⟨fun h=>h.2,fun h=>⟨by decide,h⟩⟩
theorem m_kIsi_li (H:Hp) (Q:VK):kIsi "int" H Q "list"=Q (.bl false) H:=propext ⟨fun h=>h.2,fun h=>⟨by decide,h⟩⟩
theorem m_kIsi_ll (H:Hp) (Q:VK):kIsi "list" H Q "list"=Q (.bl true) H:=propext ⟨fun h=>h.2,fun h=>⟨by decide,h⟩⟩
theorem m_kIsi_ti (H:Hp) (Q:VK):kIsi "int" H Q "tuple"=Q (.bl false) H:=propext ⟨fun h=>h.2,fun h=>⟨by decide,h⟩⟩
theorem m_kIsi_tt (H:Hp) (Q:VK):kIsi "tuple" H Q "tuple"=Q (.bl true) H:=propext ⟨fun h=>h.2,fun h=>⟨by decide,h⟩⟩
theorem m_kIsi_di (H:Hp) (Q:VK):kIsi "int" H Q "dict"=Q (.bl false) H:=propext ⟨fun h=>h.2,fun h=>⟨by decide,h⟩⟩
def kBM' (r:V->List V->Hp->VK->Prop) (x:V) (Q:VK):List V->Hp->Prop:=fun xs H=>r x xs H Q
theorem m_kBM' (r:V->List V->Hp->VK->Prop) (x:V) (Q:VK) (xs:List V) (H:Hp):kBM' r x Q xs H=r x xs H Q:=rfl
def kBM (K:PySem.W.Frag) (T:String) (r:V->List V->Hp->VK->Prop) (t:TA) (σ:St) (Q:VK):VK:=fun x H=>tyV K T x H∧t σ H (kBM' r x Q)
theorem m_kBM (K:PySem.W.Frag) (T:String) (r:V->List V->Hp->VK->Prop) (t:TA) (σ:St) (Q:VK) (x:V) (H:Hp):kBM K T r t σ Q x H=(tyV K T x H∧t σ H (kBM' r x Q)):=rfl
theorem m_tBM (K:PySem.W.Frag) (T:String) (r:V->List V->Hp->VK->Prop) (to:TE) (t:TA) (σ:St) (H:Hp) (Q:VK):tBM K T r to t σ H Q=to σ H (kBM K T r t σ Q):=rfl
theorem tyV_list (K:PySem.W.Frag) (p:Addr) (H:Hp) (h:(lstAt H p).isSome=true):tyV K "list" (.ref p) H=True:=by
 cases e:lstAt H p with
 | none=>rw [e] at h;cases h
 | some ys=>exact eq_true (.inl ⟨rfl,ys,SqL.of (lst_of e)⟩)
def kApp (l:Addr) (y:V) (H:Hp) (Q:VK):List V->Prop:=fun xs=>xs.length < sizeLine∧Q .non (upd H l (.lst (xs++[y])))
theorem m_kApp (l:Addr) (y:V) (H:Hp) (Q:VK) (xs:List V):kApp l y H Q xs=(xs.length < sizeLine∧Q .non (upd H l (.lst (xs++[y])))):=rfl
theorem m_rAppend (l:Addr) (y:V) (H:Hp) (Q:VK):rAppend (.ref l) [y] H Q=optK (lstAt H l) (kApp l y H Q):=by
 refine propext ⟨fun h=>?_,fun h=>?_⟩
 ·obtain ⟨_,xs,_,e1,e2,e3,a,b⟩:=h
  cases e1;cases e2
  have e:lstAt H l=some xs:=by unfold lstAt;rw [e3];rfl
  rw [e];exact ⟨a,b⟩
 ·obtain ⟨xs,e,a,b⟩:=optK_ex h
  exact ⟨l,xs,y,rfl,rfl,lst_of e,a,b⟩
def kCat2 (xs:List V) (H:Hp) (Q:VK):List V->Prop:=fun ys=>xs.length+ys.length≤sizeLine∧∀ p,H p=none->Q (.ref p) (upd H p (.lst (xs++ys)))
def kCat1 (b:Addr) (H:Hp) (Q:VK):List V->Prop:=fun xs=>optK (lstAt H b) (kCat2 xs H Q)
theorem m_rCat (l b:Addr) (H:Hp) (Q:VK):rCat (.ref l) (.ref b) H Q=optK (lstAt H l) (kCat1 b H Q):=by
 refine propext ⟨fun h=>?_,fun h=>?_⟩
 ·obtain ⟨l',b',xs,zs,e1,e2,e3,e4,hz,hq⟩:=h
  cases e1;cases e2
  have e:lstAt H l=some xs:=by unfold lstAt;rw [e3];rfl
  have e':lstAt H b=some zs:=by unfold lstAt;rw [e4];rfl
  rw [e]
  show optK (lstAt H b) _
  rw [e'];exact ⟨hz,hq⟩
 ·obtain ⟨xs,e,q⟩:=optK_ex h
  obtain ⟨zs,e',a,q⟩:=optK_ex q
  exact ⟨l,b,xs,zs,rfl,rfl,lst_of e,lst_of e',a,q⟩
def kSet' (p:Addr) (xs:List V) (v:V) (H:Hp) (Q:Hp->Prop):Nat->Prop:=fun j=>Q (upd H p (.lst (xs.set j v)))
theorem m_kSet' (p:Addr) (xs:List V) (v:V) (H:Hp) (Q:Hp->Prop) (j:Nat):kSet' p xs v H Q j=Q (upd H p (.lst (xs.set j v))):=rfl
def kSet (p:Addr) (i:Int) (v:V) (H:Hp) (Q:Hp->Prop):List V->Prop:=fun xs=>optK (ixN xs.length i) (kSet' p xs v H Q)
theorem m_kSet (p:Addr) (i:Int) (v:V) (H:Hp) (Q:Hp->Prop) (xs:List V):kSet p i v H Q xs=optK (ixN xs.length i) (kSet' p xs v H Q):=rfl
theorem m_rSetL (p:Addr) (i:Int) (v:V) (H:Hp) (Q:Hp->Prop):rSetL (.ref p) (.int i) v H Q=optK (lstAt H p) (kSet p i v H Q):=by
 refine propext ⟨fun h=>?_,fun h=>?_⟩
 ·obtain ⟨_,xs,_,j,e1,e2,e3,e4,b⟩:=h
  cases e1;cases e2
  have e:lstAt H p=some xs:=by unfold lstAt;rw [e3];rfl
  rw [e]
  show optK (ixN xs.length i) _
  rw [e4];exact b
 ·obtain ⟨xs,e,q⟩:=optK_ex h
  obtain ⟨j,e4,q⟩:=optK_ex q
  exact ⟨p,xs,i,j,rfl,rfl,lst_of e,e4,q⟩
def kGSub3 (t:TSet) (o v:V) (σ:St) (Q:St->Hp->Prop):VK:=fun i H=>t o i v H fun H3=>Q σ H3
theorem m_kGSub3 (t:TSet) (o v:V) (σ:St) (Q:St->Hp->Prop) (i:V) (H:Hp):kGSub3 t o v σ Q i H=t o i v H (Q σ):=rfl
def kGSub2 (ti:TE) (t:TSet) (v:V) (σ:St) (Q:St->Hp->Prop):VK:=fun o H=>ti σ H (kGSub3 t o v σ Q)
theorem m_kGSub2 (ti:TE) (t:TSet) (v:V) (σ:St) (Q:St->Hp->Prop) (o:V) (H:Hp):kGSub2 ti t v σ Q o H=ti σ H (kGSub3 t o v σ Q):=rfl
theorem m_gSub (to ti:TE) (t:TSet) (v:V) (σ:St) (H:Hp) (Q:St->Hp->Prop):gSub to ti t v σ H Q=to σ H (kGSub2 ti t v σ Q):=rfl
def kGT (n:Nat) (t:TGs) (σ:St) (H:Hp) (Q:St->Hp->Prop):List V->Prop:=fun xs=>xs.length=n∧t xs σ H Q
theorem m_kGT (n:Nat) (t:TGs) (σ:St) (H:Hp) (Q:St->Hp->Prop) (xs:List V):kGT n t σ H Q xs=(xs.length=n∧t xs σ H Q):=rfl
def qGT (n:Nat) (t:TGs):TG:=fun v σ H Q=>match v with
 | .ref a=>optK (tupAt H a) (kGT n t σ H Q)
 | _=>False
theorem m_qGT (n:Nat) (t:TGs) (a:Addr) (σ:St) (H:Hp) (Q:St->Hp->Prop):qGT n t (.ref a) σ H Q=optK (tupAt H a) (kGT n t σ H Q):=rfl
theorem gTup_q {K:PySem.W.Frag}{n:Nat}{t:TGs}{v:V}{σ:St}{H:Hp}{Q:St->Hp->Prop}(h:qGT n t v σ H Q):gTup K n t v σ H Q:=by
 unfold qGT at h
 split at h
 ·rename_i a
  obtain ⟨xs,e,hl,q⟩:=optK_ex h
  exact ⟨a,xs,rfl,SqT.of (tup_of e),hl,q⟩
 ·exact h.elim
def kBody (tb:TS) (D:Ends):St->Hp->Prop:=fun σ H=>tb D σ H
theorem m_kBody (tb:TS) (D:Ends) (σ:St) (H:Hp):kBody tb D σ H=tb D σ H:=rfl
def kFor (g:TG) (tb:TS) (D:Ends) (σ:St) (J:It) (H1:Hp):Prop:=∃ W:Nat->Nat->St->Hp->Prop,(∃ m,W 0 m σ H1)∧∀ i m σ H,W i m σ H →
 (J.stop i H∧D.nx σ H)∨(J.go i H∧∃ N:St->Hp->Prop,(∀ σ' H',N σ' H'->∃ m',m' < m∧W (i+1) m' σ' H')∧∀ x H',J.yld i H x H'->g x σ H' fun σ2 H2=>tb { D with nx:=N,ct:=N,bk:=D.nx } σ2 H2)
theorem m_tFor (wi:TI) (g:TG) (tb:TS) (D:Ends) (σ:St) (H:Hp):tFor wi g tb D σ H=wi σ H (kFor g tb D σ):=rfl
def kR1 (R:It->Hp->Prop):List V->Hp->Prop:=fun vs H=>∃ j:Int,vs=[.int j]∧-(2 ^ 62)≤j∧j < 2 ^ 62∧R (Itr 0 j.toNat) H
theorem m_kR1 (R:It->Hp->Prop) (j:Int) (H:Hp):kR1 R [.int j] H=(-(2 ^ 62)≤j∧j < 2 ^ 62∧R (Itr 0 j.toNat) H):=propext ⟨fun ⟨_,e,q⟩=>by cases e;exact q,fun q=>⟨j,rfl,q⟩⟩
theorem m_iRng1 (ta:TA) (σ:St) (H:Hp) (R:It->Hp->Prop):iRng1 ta σ H R=ta σ H (kR1 R):=rfl
def kISq' (K:PySem.W.Frag) (a:Addr) (H:Hp) (R:It->Hp->Prop):HO->Prop:=fun o=>match o with
 | .lst _=>R (Itl K a) H
 | .frz _ (.lst _)=>R (Itl K a) H
 | .tup _=>R (Itt K a) H
 | _=>False
theorem m_kISq'_l (K:PySem.W.Frag) (a:Addr) (H:Hp) (R:It->Hp->Prop) (xs:List V):kISq' K a H R (.lst xs)=R (Itl K a) H:=rfl
def kISq (K:PySem.W.Frag) (R:It->Hp->Prop):VK:=fun x H=>match x with
 | .ref a=>optK (H a) (kISq' K a H R)
 | _=>False
theorem m_kISq (K:PySem.W.Frag) (R:It->Hp->Prop) (a:Addr) (H:Hp):kISq K R (.ref a) H=optK (H a) (kISq' K a H R):=rfl
def iSeq (K:PySem.W.Frag) (tl:TE):TI:=fun σ H R=>tl σ H (kISq K R)
theorem m_iSeq (K:PySem.W.Frag) (tl:TE) (σ:St) (H:Hp) (R:It->Hp->Prop):iSeq K tl σ H R=tl σ H (kISq K R):=rfl
theorem pi_seq {tg l:Expr}{tl:TE}(hl:PE X l tl):PI X tg l (iSeq X.K tl):=by
 intro pins s σ H R I h
 refine thn (hl pins s σ H _ I h) fun v s1 ⟨x,H1,I1,r1,q1⟩=>?_
 unfold kISq at q1
 split at q1
 ·rename_i a
  cases r1
  obtain ⟨o,e,q⟩:=optK_ex q1
  have fp:∀ b∈[s1.heap.objs.size],FpOk X pins H1 b:=fun b hb=>by
   have e:b=s1.heap.objs.size:=by simpa using hb
   subst e
   exact I1.fpOk (Nat.le_refl _) (I1.hok.fresh (Nat.le_refl _))
  have lst:∀ xs,SqL X.K H1 a xs->R (Itl X.K a) H1->wpAny (model X.prog X.w) X.A (pyIter (.ref a)) (PIE X pins σ tg R) X.xe s1:=fun xs hq q=>by
   obtain ⟨its,rv,p,hz⟩:=I1.list hq
   refine wpAny_pyIter_list p.isList ?_
   exact ⟨s1.heap.objs.size,[s1.heap.objs.size],_,_,H1,rfl,I1.kept (t':=s1.toks) fun b o e=>Heap.get?_push_of_some _ e,turn_list a _,⟨_,Heap.get?_push_size _ rfl,rfl,rfl⟩,fp,q⟩
  unfold kISq' at q
  split at q
  ·exact lst _ (SqL.of e) q
  ·exact lst _ (.inl (.inr ⟨_,e⟩)) q
  ·obtain ⟨its,rv,p,hz⟩:=I1.tuple (SqT.of e)
   refine wpAny_pyIter_tuple (show s1.heap.IsTuple a its.toArray from p) ?_
   exact ⟨s1.heap.objs.size,[s1.heap.objs.size],_,_,H1,rfl,I1.kept (t':=s1.toks) fun b o e=>Heap.get?_push_of_some _ e,turn_tuple a _,⟨_,Heap.get?_push_size _ rfl,rfl,rfl⟩,fp,q⟩
  ·exact q.elim
 ·exact q1.elim
theorem for_lst {K:PySem.W.Frag}{a:Addr}{xs:List V}{g:TG}{tb:TS}{nx:St->Hp->Prop}{rt:VK}{bk ct:St->Hp->Prop}{σ:St}{H:Hp}(Pv:Nat->St->Hp->Prop) (h0:Pv 0 σ H) (hl:∀ i σ H,i≤xs.length->Pv i σ H->H a=some (.lst xs))
  (hs:∀ i x σ H,xs[i]? = some x->Pv i σ H->g x σ H (kBody tb ⟨Pv (i+1),rt,nx,Pv (i+1)⟩)) (hd:∀ σ H,Pv xs.length σ H->nx σ H):kFor g tb ⟨nx,rt,bk,ct⟩ σ (Itl K a) H:=for_list (xs:=xs) Pv h0 (fun i σ H hi p=>SqL.of (hl i σ H hi p)) hs hd
end
end L2
set_option Elab.async false
set_option linter.all false
set_option maxRecDepth 100000
set_option maxHeartbeats 4000000
namespace L2
open PySem PySem.Spec PyProof.Rows
theorem m_tCallX (sp:Sp) (dvs:List V) (E:St->XK) (t:TA) (σ:St) (H:Hp) (Q:VK):tCallX sp dvs E t σ H Q=t σ H (kCall sp dvs (E σ) Q):=rfl
def kTry (th:Value->Option Addr->TS) (D:Ends):St->XK:=fun σ cls d H=>th cls d D σ H
theorem m_kTry (th:Value->Option Addr->TS) (D:Ends) (σ:St) (cls:Value) (d:Option Addr) (H:Hp):kTry th D σ cls d H=th cls d D σ H:=rfl
theorem m_tTry (tb:(St->XK)->TS) (th:Value->Option Addr->TS) (D:Ends) (σ:St) (H:Hp):tTry tb th D σ H=tb (kTry th D) D σ H:=rfl
def kRaise (C:Addr) (E:XK):List V->Hp->Prop:=fun vs H=>vs.length≤sizeLine∧E (.ref C) none H
theorem m_kRaise (C:Addr) (E:XK) (vs:List V) (H:Hp):kRaise C E vs H=(vs.length≤sizeLine∧E (.ref C) none H):=rfl
theorem m_tRaise (C:Addr) (E:St->XK) (t:TA) (D:Ends) (σ:St) (H:Hp):tRaise C E t D σ H=t σ H (kRaise C (E σ)):=rfl
def kSetE (i:Nat) (tb:TS) (D:Ends):St->Hp->Prop:=fun σ H=>tb D σ H
theorem m_kSetE (i:Nat) (tb:TS) (D:Ends) (σ:St) (H:Hp):kSetE i tb D σ H=tb D σ H:=rfl
theorem m_del (i:Nat) (nx:St->Hp->Prop) (rt:VK) (bk ct:St->Hp->Prop):Ends.del i ⟨nx,rt,bk,ct⟩=⟨kDel i nx,rt,kDel i bk,kDel i ct⟩:=rfl
theorem m_dictO_none (H:Hp):dictO H none=True:=rfl
theorem m_dictO_some (H:Hp) (dx:Addr):dictO H (some dx)=optK (H dx) kXd:=by
 refine propext ⟨fun ⟨o,h,k⟩=>by rw [h];exact k,fun h=>?_⟩
 obtain ⟨o,e,k⟩:=optK_ex h
 exact ⟨o,e,k⟩
theorem m_kXd (fs:List (Str × V)):kXd (.xd fs)=True:=rfl
def refC:Value->Option Addr
 | .ref C=>some C
 | _=>none
theorem refC_ref (C:Addr):refC (.ref C)=some C:=rfl
def clsV:V->Option Value
 | .ref C=>some (.ref C)
 | .ty n=>some (.type n)
 | _=>none
theorem clsV_ref (C:Addr):clsV (.ref C)=some (.ref C):=rfl
theorem clsV_ty (n:String):clsV (.ty n)=some (.type n):=rfl
def kE4 (H:Hp) (Q:VK):Bool->Prop:=fun b=>Q (.bl b) H
theorem m_kE4 (H:Hp) (Q:VK) (b:Bool):kE4 H Q b=Q (.bl b) H:=rfl
def kE3 (K:PySem.W.Frag) (C:Addr) (H:Hp) (Q:VK):Value->Prop:=fun u=>optK (PySem.W.kitOne K (.ref C) u) (kE4 H Q)
theorem m_kE3 (K:PySem.W.Frag) (C:Addr) (H:Hp) (Q:VK) (u:Value):kE3 K C H Q u=optK (PySem.W.kitOne K (.ref C) u) (kE4 H Q):=rfl
def kE2 (K:PySem.W.Frag) (oe:Obj) (D:V) (H:Hp) (Q:VK):Addr->Prop:=fun C=>dictO H oe.dict∧(∃ vs,oe.data=.fields vs)∧ECls K C∧optK (clsV D) (kE3 K C H Q)
theorem m_kE2 (K:PySem.W.Frag) (oe:Obj) (D:V) (H:Hp) (Q:VK) (C:Addr):kE2 K oe D H Q C=(dictO H oe.dict∧(∃ vs,oe.data=.fields vs)∧ECls K C∧optK (clsV D) (kE3 K C H Q)):=rfl
def kE1 (K:PySem.W.Frag) (D:V) (H:Hp) (Q:VK):HO->Prop:=fun o=>match o with
 | .frz oe (.ext _)=>optK (refC oe.cls) (kE2 K oe D H Q)
 | _=>False
theorem m_kE1 (K:PySem.W.Frag) (D:V) (H:Hp) (Q:VK) (oe:Obj):kE1 K D H Q (excO oe)=optK (refC oe.cls) (kE2 K oe D H Q):=rfl
def qIsE (K:PySem.W.Frag) (xs:List V) (H:Hp) (Q:VK):Prop:=match xs with
 | [.ref e,D]=>optK (H e) (kE1 K D H Q)
 | _=>False
theorem m_qIsE (K:PySem.W.Frag) (e:Addr) (D:V) (H:Hp) (Q:VK):qIsE K [.ref e,D] H Q=optK (H e) (kE1 K D H Q):=rfl
theorem call_qIsE {X:Cx}:CallR X (.builtin "isinstance") (qIsE X.K):=by
 refine call_isiE.mono fun xs H Q h=>?_
 unfold qIsE at h
 split at h
 ·rename_i e D
  obtain ⟨o,h1,h⟩:=optK_ex h
  unfold kE1 at h
  split at h
  ·rename_i oe φ
   obtain ⟨C,h2,h⟩:=optK_ex h
   obtain ⟨h3,h4,h5,h⟩:=h
   obtain ⟨u,h6,h⟩:=optK_ex h
   obtain ⟨b,h7,h⟩:=optK_ex h
   have hc:oe.cls=.ref C:=by
    cases q:oe.cls with
    | ref C'=>rw [q] at h2;cases h2;rfl
    | _=>rw [q] at h2;cases h2
   refine ⟨e,oe,C,D,b,rfl,⟨_,h1⟩,hc,h3,h4,h5,⟨u,?_,h7⟩,h⟩
   cases D with
   | ref a=>cases h6;rfl
   | ty n=>cases h6;rfl
   | _=>cases h6
  ·exact h.elim
 ·exact h.elim
def kC3 (D:Addr) (ys:List V) (N:List V->Hp->Prop):VK:=fun y H=>H D=some (.lst ys)∧ys.length < sizeLine∧N (ys++[y]) (upd H D (.lst (ys++[y])))
def kC2 (te:TE) (σ2:St) (D:Addr) (ys:List V) (N:List V->Hp->Prop):Bool->Hp->Prop:=fun b H=>if b=true then te σ2 H (kC3 D ys N) else N ys H
def kC1 (k:Nat) (tt:TT) (te:TE) (σ:St) (D:Addr) (ys:List V) (N:List V->Hp->Prop):St->Hp->Prop:=fun σ2 H=>(∃ vs:St,vs.length=k∧σ2=vs++σ)∧tt σ2 H (kC2 te σ2 D ys N)
theorem m_tYes (σ:St) (H:Hp) (Q:Bool->Hp->Prop):tYes σ H Q=Q true H:=rfl
def kComp (k:Nat) (g:TG) (tt:TT) (te:TE) (σ:St) (Q:VK):It->Hp->Prop:=fun J H1=>∀ D,H1 D=none->∃ W:Nat->Nat->List V->Hp->Prop,(∃ m,W 0 m [] (upd H1 D (.lst [])))∧∀ i m ys H,W i m ys H →
 (J.stop i H∧Q (.ref D) H)∨(J.go i H∧∃ N:List V->Hp->Prop,(∀ ys' H',N ys' H'->∃ m',m' < m∧W (i+1) m' ys' H') ∧
  ∀ x H',J.yld i H x H'->g x (List.replicate k none++σ) H' (kC1 k tt te σ D ys N))
theorem m_tComp (k:Nat) (wi:TI) (g:TG) (tt:TT) (te:TE) (σ:St) (H:Hp) (Q:VK):tComp k wi g tt te σ H Q=wi σ H (kComp k g tt te σ Q):=rfl
def kSetC (i:Nat) (σ:St) (nx:St->Hp->Prop):VK:=fun x H=>gName i x σ H nx
theorem m_kSetC (i:Nat) (σ:St) (nx:St->Hp->Prop) (x:V) (H:Hp):kSetC i σ nx x H=gName i x σ H nx:=rfl
theorem m_tSetC (i:Nat) (te:TE) (nx:St->Hp->Prop) (rt:VK) (bk ct:St->Hp->Prop) (σ:St) (H:Hp):tSetC i te ⟨nx,rt,bk,ct⟩ σ H=te σ H (kSetC i σ nx):=rfl
section
variable {k:Nat}{g:TG}{tt:TT}{te:TE}{σ:St}{Q:VK}{H:Hp}{K:PySem.W.Frag}
end
def allSome {α:Type}:List (Option α)->Option (List α)
 | []=>some []
 | o::r=>o.bind fun x=>(allSome r).map fun xs=>x::xs
def datO (f:V->Option PyData):HO->Option PyData
 | .lst xs=>(allSome (xs.map f)).map .list
 | .tup xs=>(allSome (xs.map f)).map .tuple
 | _=>none
def datF (H:Hp) (f:V->Option PyData):V->Option PyData
 | .non=>some .none
 | .bl b=>some (.bool b)
 | .int i=>some (.int i)
 | .str z=>if PyData.strOk z=true then some (.str z) else none
 | .ref p=>(H p).bind (datO f)
 | _=>none
def datV (H:Hp):Nat->V->Option PyData
 | 0,_=>none
 | n+1,x=>datF H (datV H n) x
def noD:V->Option PyData:=fun _=>none
theorem m_datV (H:Hp) (x:V):datV H 6 x=datF H (datF H (datF H (datF H (datF H (datF H noD))))) x:=rfl
theorem m_datV_str (H:Hp) (n:Nat) (z:Str):datV H (n+1) (.str z)=if PyData.strOk z=true then some (.str z) else none:=rfl
theorem m_datV_ref (H:Hp) (n:Nat) (p:Addr):datV H (n+1) (.ref p)=(H p).bind (datO (datV H n)):=rfl
theorem m_datF_int (H:Hp) (f:V->Option PyData) (i:Int):datF H f (.int i)=some (.int i):=rfl
theorem m_datF_str (H:Hp) (f:V->Option PyData) (z:Str):datF H f (.str z)=if PyData.strOk z=true then some (.str z) else none:=rfl
theorem m_datF_ref (H:Hp) (f:V->Option PyData) (p:Addr):datF H f (.ref p)=(H p).bind (datO f):=rfl
theorem m_datO_lst (f:V->Option PyData) (xs:List V):datO f (.lst xs)=(allSome (xs.map f)).map .list:=rfl
theorem m_datO_tup (f:V->Option PyData) (xs:List V):datO f (.tup xs)=(allSome (xs.map f)).map .tuple:=rfl
theorem m_allSome_nil {α:Type}:allSome ([]:List (Option α))=some []:=rfl
theorem m_allSome_cons {α:Type}(x:α) (r:List (Option α)):allSome (some x::r)=(allSome r).map fun xs=>x::xs:=rfl
theorem allSome_ints (H:Hp) (f:V->Option PyData):∀ ns:List Int,allSome ((ns.map V.int).map (datF H f))=some (ns.map PyData.int)
 | []=>rfl
 | i::r=>by
  show (allSome ((r.map V.int).map (datF H f))).map _=_
  rw [allSome_ints H f r];rfl
theorem datVs_ok {K:PySem.W.Frag}{H:Hp}{n:Nat}(ih:∀ x d,datV H n x=some d->DatV K H x d∧d.canLay0=true∧d.depth≤n):∀ (xs:List V) (ds:List PyData),allSome (xs.map (datV H n))=some ds->DatVs K H xs ds∧PyData.canLayAll0 ds=true∧PyData.depthAll ds≤n
 | [],ds,h=>by cases h;exact ⟨.nil,rfl,Nat.zero_le _⟩
 | x::xs,ds,h=>by
  have h':(datV H n x).bind (fun d=>(allSome (xs.map (datV H n))).map fun ds=>d::ds)=some ds:=h
  cases e:datV H n x with
  | none=>rw [e] at h';cases h'
  | some d=>
   rw [e] at h'
   have h2:(allSome (xs.map (datV H n))).map (fun ds=>d::ds)=some ds:=h'
   cases e2:allSome (xs.map (datV H n)) with
   | none=>rw [e2] at h2;cases h2
   | some es=>
    rw [e2] at h2
    cases h2
    obtain ⟨a,b,c⟩:=ih x d e
    obtain ⟨a',b',c'⟩:=datVs_ok ih xs es e2
    exact ⟨.cons a a',by simp [PyData.canLayAll0,b,b'],by simp only [PyData.depthAll];omega⟩
theorem datV_ok {K:PySem.W.Frag}{H:Hp}:∀ (n:Nat) (x:V) (d:PyData),datV H n x=some d->DatV K H x d∧d.canLay0=true∧d.depth≤n
 | 0,x,d,h=>by cases h
 | n+1,x,d,h=>by
  cases x with
  | non=>cases h;exact ⟨.non,rfl,Nat.zero_le _⟩
  | bl b=>cases h;exact ⟨.bl b,rfl,Nat.zero_le _⟩
  | int i=>cases h;exact ⟨.int i,rfl,Nat.zero_le _⟩
  | str z=>
   rw [m_datV_str] at h
   split at h
   ·rename_i hz;cases h;exact ⟨.str z,by simpa [PyData.canLay0] using hz,Nat.zero_le _⟩
   ·cases h
  | ref p=>
   rw [m_datV_ref] at h
   cases e:H p with
   | none=>rw [e] at h;cases h
   | some o=>
    rw [e] at h
    have h':datO (datV H n) o=some d:=h
    cases o with
    | lst xs=>
     rw [m_datO_lst] at h'
     cases e2:allSome (xs.map (datV H n)) with
     | none=>rw [e2] at h';cases h'
     | some ds=>
      rw [e2] at h';cases h'
      obtain ⟨a,b,c⟩:=datVs_ok (K:=K) (datV_ok n) xs ds e2
      exact ⟨.lst (SqL.of e) a,by simpa [PyData.canLay0] using b,by simp only [PyData.depth];omega⟩
    | tup xs=>
     rw [m_datO_tup] at h'
     cases e2:allSome (xs.map (datV H n)) with
     | none=>rw [e2] at h';cases h'
     | some ds=>
      rw [e2] at h';cases h'
      obtain ⟨a,b,c⟩:=datVs_ok (K:=K) (datV_ok n) xs ds e2
      exact ⟨.tup (SqT.of e) a,by simpa [PyData.canLay0] using b,by simp only [PyData.depth];omega⟩
    | _=>cases h'
  | _=>cases h
theorem datV_shaped {K:PySem.W.Frag}{H:Hp}{n:Nat}{x:V}{d:PyData}(hn:n≤64) (h:datV H n x=some d):DatV K H x d∧SeqAt.shaped d=true:=by
 obtain ⟨a,b,c⟩:=datV_ok (K:=K) n x d h
 refine ⟨a,?_⟩
 unfold SeqAt.shaped
 rw [b,decide_eq_true (show d.depth≤64 by omega)]
 rfl
def kEq2 (neg:Bool) (H:Hp) (Q:VK) (d:PyData):PyData->Prop:=fun e=>Q (.bl (if neg=true then !PyData.eqv d e else PyData.eqv d e)) H
theorem m_kEq2_t (H:Hp) (Q:VK) (d e:PyData):kEq2 true H Q d e=Q (.bl (!PyData.eqv d e)) H:=rfl
theorem m_kEq2_f (H:Hp) (Q:VK) (d e:PyData):kEq2 false H Q d e=Q (.bl (PyData.eqv d e)) H:=rfl
def kEq1 (neg:Bool) (y:V) (H:Hp) (Q:VK):PyData->Prop:=fun d=>optK (datV H 6 y) (kEq2 neg H Q d)
theorem m_kEq1 (neg:Bool) (y:V) (H:Hp) (Q:VK) (d:PyData):kEq1 neg y H Q d=optK (datV H 6 y) (kEq2 neg H Q d):=rfl
def qEq (neg:Bool):R2:=fun x y H Q=>if scal x y=true then Q (.bl (if neg=true then !decide (x=y) else decide (x=y))) H else optK (datV H 6 x) (kEq1 neg y H Q)
theorem m_qEq_refr (neg:Bool) (p:Addr) (x:V) (H:Hp) (Q:VK):qEq neg x (.ref p) H Q=optK (datV H 6 x) (kEq1 neg (.ref p) H Q):=by
 show (if scal x (.ref p)=true then _ else _)=_
 rw [if_neg (by cases x<;>exact Bool.false_ne_true)]
theorem m_qEq_int_int (i:Int) (j:Int) (H:Hp) (Q:VK):qEq false (V.int i) (V.int j) H Q=Q (.bl (decide (i=j))) H:=by
 have e:decide (((V.int i):V)=(V.int j))=decide (i=j):=by simp
 show Q (.bl (if false=true then !decide ((V.int i)=(V.int j)) else decide ((V.int i)=(V.int j)))) H=_
 rw [e];rfl
theorem m_qNe_int_int (i:Int) (j:Int) (H:Hp) (Q:VK):qEq true (V.int i) (V.int j) H Q=Q (.bl (!decide (i=j))) H:=by
 have e:decide (((V.int i):V)=(V.int j))=decide (i=j):=by simp
 show Q (.bl (if true=true then !decide ((V.int i)=(V.int j)) else decide ((V.int i)=(V.int j)))) H=_
 rw [e];rfl
theorem m_qEq_str_str (i:Str) (j:Str) (H:Hp) (Q:VK):qEq false (V.str i) (V.str j) H Q=Q (.bl (decide (i=j))) H:=by
 have e:decide (((V.str i):V)=(V.str j))=decide (i=j):=by simp
 show Q (.bl (if false=true then !decide ((V.str i)=(V.str j)) else decide ((V.str i)=(V.str j)))) H=_
 rw [e];rfl
section
variable {X:Cx}
theorem op_qEq (hu:X.A.units+64 < cLine):OpR X (compareOp .Eq) (qEq false):=by
 refine (op_eq.or (op_eqD hu)).mono fun x y H Q h=>?_
 unfold qEq at h
 split at h
 ·rename_i hs;exact .inl ⟨hs,h⟩
 obtain ⟨d,e1,h⟩:=optK_ex h
 obtain ⟨e,e2,h⟩:=optK_ex h
 obtain ⟨a,b⟩:=datV_shaped (K:=X.K) (by decide) e1
 obtain ⟨a',b'⟩:=datV_shaped (K:=X.K) (by decide) e2
 exact .inr ⟨d,e,a,a',b,b',h⟩
theorem op_qNe (hu:X.A.units+64 < cLine):OpR X (compareOp .NotEq) (qEq true):=by
 refine (op_ne.or (op_neD hu)).mono fun x y H Q h=>?_
 unfold qEq at h
 split at h
 ·rename_i hs;exact .inl ⟨hs,h⟩
 obtain ⟨d,e1,h⟩:=optK_ex h
 obtain ⟨e,e2,h⟩:=optK_ex h
 obtain ⟨a,b⟩:=datV_shaped (K:=X.K) (by decide) e1
 obtain ⟨a',b'⟩:=datV_shaped (K:=X.K) (by decide) e2
 exact .inr ⟨d,e,a,a',b,b',h⟩
end
theorem eqv_int (i j:Int):PyData.eqv (.int i) (.int j)=decide (i=j):=Bool.beq_eq_decide_eq i j
theorem eqv_str (i j:Str):PyData.eqv (.str i) (.str j)=(i == j):=rfl
theorem eqv_tuple (xs ys:List PyData):PyData.eqv (.tuple xs) (.tuple ys)=PyData.eqvAll xs ys:=by simp only [PyData.eqv]
theorem eqv_list (xs ys:List PyData):PyData.eqv (.list xs) (.list ys)=PyData.eqvAll xs ys:=by simp only [PyData.eqv]
theorem eqvAll_nil:PyData.eqvAll [] []=true:=by simp only [PyData.eqvAll]
theorem eqvAll_cons (x y:PyData) (xs ys:List PyData):PyData.eqvAll (x::xs) (y::ys)=(PyData.eqv x y && PyData.eqvAll xs ys):=by simp only [PyData.eqvAll]
theorem eqvAll_l (x:PyData) (xs:List PyData):PyData.eqvAll (x::xs) []=false:=by simp only [PyData.eqvAll]
theorem eqvAll_r (x:PyData) (xs:List PyData):PyData.eqvAll [] (x::xs)=false:=by simp only [PyData.eqvAll]
theorem eqvAll_ints:∀ ns ms:List Int,PyData.eqvAll (ns.map PyData.int) (ms.map PyData.int)=decide (ns=ms)
 | [],[]=>by rw [List.map_nil,eqvAll_nil];rfl
 | [],_::_=>by rw [List.map_nil,List.map_cons,eqvAll_r];rfl
 | _::_,[]=>by rw [List.map_nil,List.map_cons,eqvAll_l];rfl
 | i::r,j::t=>by
  rw [List.map_cons,List.map_cons,eqvAll_cons,eqv_int,eqvAll_ints r t]
  by_cases h:i=j<;>by_cases h2:r=t<;>simp [h,h2]
end L2
set_option Elab.async false
set_option linter.all false
set_option maxRecDepth 100000
set_option maxHeartbeats 4000000
namespace L2
open PySem PySem.Spec PyProof.Rows
theorem CPow_10 (j:Int):CPow 10 j=(0≤j∧j≤1000000):=propext ⟨fun h=>⟨h.1,h.2.1⟩,fun h=>⟨h.1,h.2,by decide⟩⟩
theorem lenLe (n:Nat) (h:n≤1000):(n≤sizeLine)=True:=eq_true (Nat.le_of_lt (small1000 h))
theorem lenLt (n:Nat) (h:n≤1000):(n < sizeLine)=True:=eq_true (small1000 h)
theorem Ext.of {H H':Hp}(h:∀ a,(H a).isSome=true->H' a=H a):Ext H H':=⟨h,fun K a xs q=>by
 have s:Same H H':=fun b o e=>(h b (by rw [e];rfl)).trans e
 exact s.seq q⟩
theorem Ext.same {H H':Hp}(h:Ext H H'):Same H H':=fun b o e=>(h.1 b (by rw [e];rfl)).trans e
theorem Same.ext {H H':Hp}(h:Same H H'):Ext H H':=Ext.of fun a q=>by
 cases e:H a with
 | none=>rw [e] at q;cases q
 | some o=>exact h a o e
theorem Ext.refl (H:Hp):Ext H H:=(Same.refl H).ext
theorem Ext.trans {H H1 H2:Hp}(a:Ext H H1) (b:Ext H1 H2):Ext H H2:=(a.same.trans b.same).ext
theorem Ext.new {H:Hp}{p:Addr}{o:HO}(h:H p=none):Ext H (upd H p o):=(same_upd h).ext
theorem Ext.put {H H1:Hp}{p:Addr}{o:HO}(a:Ext H H1) (h:H p=none):Ext H (upd H1 p o):=Same.ext fun b u e=>by
 rw [upd_ne (ne_of_none e h)];exact a.same b u e
theorem Ext.free {H H1:Hp}{p:Addr}(a:Ext H H1) (h:H1 p=none):H p=none:=a.same.free h
theorem Ext.at {H H1:Hp}{p:Addr}{o:HO}(a:Ext H H1) (h:H p=some o):H1 p=some o:=a.same _ _ h
theorem optK_at {xs:List V}{i:Int}{k:V->Prop}(h0:0≤i) (h1:i < xs.length) (h:∀ v∈xs,k v):optK (atI xs i) k:=by
 obtain ⟨v,e,m⟩:=atI_lt xs i h0 h1
 rw [e];exact h v m
theorem cx_K (CX:CXT) (P:Program) (w:World) (K:PySem.W.Frag) (mg:Str->Option Value) (base:Heap) (N:List Str) (qual:Str) (scope:Scope) (f:Addr) (cd:Value) (A:Around) (outer:List Env) (s:Shared) (H:Hp) (E:XK):(cxOf CX P w K mg base N qual scope f cd A outer s H E).K=K:=rfl
theorem call_qIsE' {X:Cx}{K:PySem.W.Frag}(h:X.K=K):CallR X (.builtin "isinstance") (qIsE K):=h ▸ call_qIsE
theorem cls_some {K:PySem.W.Frag}{C:Addr}(h:PySem.W.hasDictIn K C=true):(PySem.W.clsIn K C).isSome=true:=by
 obtain ⟨cd,hc,_⟩:=PySem.W.any_some h
 rw [hc];rfl
theorem kit_yes {K:PySem.W.Frag}{A C:Addr}(h1:PySem.W.hasDictIn K C=true) (h2:PySem.W.typeIn K (.ref C)=some (.type "type")) (h3:PySem.W.subIn K (.ref A) (.ref C)=some true):PySem.W.kitOne K (.ref A) (.ref C)=some true:=by
 unfold PySem.W.kitOne
 split
 ·rfl
 ·show (if _ then _ else _)=_
  rw [cls_some h1,h2,if_pos (by decide),h3]
theorem kit_no {K:PySem.W.Frag}{A C:Addr}(h0:(A == C)=false) (h1:PySem.W.hasDictIn K C=true) (h2:PySem.W.typeIn K (.ref C)=some (.type "type")) (h3:PySem.W.subIn K (.ref A) (.ref C)=some false):PySem.W.kitOne K (.ref A) (.ref C)=some false:=by
 unfold PySem.W.kitOne
 rw [if_neg (by intro z;have e:A=C:=Value.ref.inj (beq_iff_eq.mp z);rw [e] at h0;simp at h0)]
 show (if _ then _ else _)=_
 rw [cls_some h1,h2,if_pos (by decide),h3]
theorem kit_ty {K:PySem.W.Frag}{A:Addr}{n:String}{b:Bool}(h1:PySem.W.kitMeta n=true) (h3:PySem.W.subIn K (.ref A) (.type n)=some b):PySem.W.kitOne K (.ref A) (.type n)=some b:=by
 unfold PySem.W.kitOne
 rw [if_neg (by intro z;have e:=beq_iff_eq.mp z;cases e)]
 show (if _ then _ else _)=_
 rw [if_pos h1,h3]
def isW (H:Hp):V->Option Bool
 | .int _=>some true
 | .bl _=>some false
 | .non=>some false
 | .str _=>some false
 | .ref p=>((H p).bind tyO).map fun _=>false
 | _=>none
theorem isW_int' (H:Hp) (i:Int):isW H (.int i)=some true:=rfl
theorem isW_ref' (H:Hp) (p:Addr):isW H (.ref p)=((H p).bind tyO).map fun _=>false:=rfl
theorem isW_obj {H:Hp}{p:Addr}{b:Bool}(h:isW H (.ref p)=some b):b=false∧∃ o,H p=some o∧(tyO o=some "list" ∨ tyO o=some "tuple" ∨ tyO o=some "dict"):=by
 rw [isW_ref'] at h
 cases e:H p with
 | none=>rw [e] at h;cases h
 | some o=>
  rw [e] at h
  have h':(tyO o).map (fun _=>false)=some b:=h
  cases e2:tyO o with
  | none=>rw [e2] at h';cases h'
  | some t=>
   rw [e2] at h';cases h'
   refine ⟨rfl,o,rfl,?_⟩
   cases o with
   | lst xs=>exact .inl rfl
   | tup xs=>exact .inr (.inl rfl)
   | dK xs=>exact .inr (.inr rfl)
   | dT xs=>exact .inr (.inr rfl)
   | frz ob u=>cases u with
    | lst xs=>exact .inl rfl
    | _=>cases e2
   | _=>cases e2
end L2
set_option Elab.async false
set_option linter.all false
set_option maxRecDepth 100000
set_option maxHeartbeats 4000000
namespace L2
open PySem PySem.Spec PyProof.Rows
theorem optK_mono {α:Type}{o:Option α}{k k':α->Prop}(m:∀ x,k x->k' x) (h:optK o k):optK o k':=by
 obtain ⟨x,e,q⟩:=optK_ex h
 rw [e];exact m x q
theorem ints_inj:∀ {ns ms:List Int},ns.map V.int=ms.map V.int->ns=ms
 | [],[],_=>rfl
 | [],_::_,h=>by cases h
 | _::_,[],h=>by cases h
 | i::r,j::t,h=>by
  simp only [List.map_cons,List.cons.injEq,V.int.injEq] at h
  rw [h.1,ints_inj h.2]
def kInts (F:List Int->Prop):List V->Prop:=fun xs=>∃ ns,xs=ns.map V.int∧F ns
theorem m_kInts (F:List Int->Prop) (ns:List Int):kInts F (ns.map V.int)=F ns:=propext ⟨fun ⟨ms,e,h⟩=>by rw [ints_inj e];exact h,fun h=>⟨ns,rfl,h⟩⟩
theorem CMulB_of (i j:Int) (h:i.natAbs < 2 ^ 256) (h':j.natAbs < 2 ^ 256):CMulB i j=True:=eq_true ⟨h,h'⟩
def kSlN (lo hi:Option Int) (H:Hp) (Q:VK):List V->Prop:=fun xs=>∀ p,H p=none->Q (.ref p) (upd H p (.lst (cutV xs lo hi)))
def qSlL:V->Option Int->Option Int->Hp->VK->Prop:=fun x lo hi H Q=>match x with
 | .ref a=>optK (lstAt H a) (kSlN lo hi H Q)
 | _=>False
theorem sl_q {X:Cx}:SlR X qSlL:=sl_list.mono fun x lo hi H Q h=>by
 unfold qSlL at h
 split at h
 ·rename_i a
  obtain ⟨xs,e,q⟩:=optK_ex h
  exact ⟨a,xs,rfl,SqL.of (lst_of e),q⟩
 ·exact h.elim
def kSl3 (r:V->Option Int->Option Int->Hp->VK->Prop) (x:V) (l:Option Int) (Q:VK):Option Int->Hp->Prop:=fun u H=>r x l u H Q
theorem m_kSl3 (r:V->Option Int->Option Int->Hp->VK->Prop) (x:V) (l:Option Int) (Q:VK) (u:Option Int) (H:Hp):kSl3 r x l Q u H=r x l u H Q:=rfl
def kSl2 (r:V->Option Int->Option Int->Hp->VK->Prop) (th:TO) (σ:St) (x:V) (Q:VK):Option Int->Hp->Prop:=fun l H=>th σ H (kSl3 r x l Q)
theorem m_kSl2 (r:V->Option Int->Option Int->Hp->VK->Prop) (th:TO) (σ:St) (x:V) (Q:VK) (l:Option Int) (H:Hp):kSl2 r th σ x Q l H=th σ H (kSl3 r x l Q):=rfl
def kSl1 (r:V->Option Int->Option Int->Hp->VK->Prop) (tl th:TO) (σ:St) (Q:VK):VK:=fun x H=>tl σ H (kSl2 r th σ x Q)
theorem m_kSl1 (r:V->Option Int->Option Int->Hp->VK->Prop) (tl th:TO) (σ:St) (Q:VK) (x:V) (H:Hp):kSl1 r tl th σ Q x H=tl σ H (kSl2 r th σ x Q):=rfl
theorem m_tSl (r:V->Option Int->Option Int->Hp->VK->Prop) (te:TE) (tl th:TO) (σ:St) (H:Hp) (Q:VK):tSl r te tl th σ H Q=te σ H (kSl1 r tl th σ Q):=rfl
def kPart (Q:Option Int->Hp->Prop):VK:=fun x H=>∃ i,x=.int i∧Q (some i) H
theorem m_kPart (Q:Option Int->Hp->Prop) (i:Int) (H:Hp):kPart Q (.int i) H=Q (some i) H:=propext ⟨fun ⟨_,e,q⟩=>by cases e;exact q,fun q=>⟨i,rfl,q⟩⟩
theorem m_tPart (t:TE) (σ:St) (H:Hp) (Q:Option Int->Hp->Prop):tPart t σ H Q=t σ H (kPart Q):=rfl
end L2
set_option Elab.async false
set_option linter.all false
set_option maxRecDepth 100000
set_option maxHeartbeats 4000000
namespace L2
open PySem PySem.Spec PyProof.Rows
def newK (o:HO) (H:Hp) (Q:VK):Prop:=∀ (p:Addr) (H':Hp),H p=none->Ext H H'->H' p=some o->Q (.ref p) H'
theorem newK.to {o:HO}{H:Hp}{Q:VK}(h:newK o H Q):∀ p,H p=none->Q (.ref p) (upd H p o):=fun p hp=>h p _ hp (Ext.new hp) upd_same
def kQT (Q:VK):List V->Hp->Prop:=fun xs H=>xs.length≤sizeLine∧newK (.tup xs) H Q
theorem m_kQT (Q:VK) (xs:List V) (H:Hp):kQT Q xs H=(xs.length≤sizeLine∧newK (.tup xs) H Q):=rfl
def kQL (Q:VK):List V->Hp->Prop:=fun xs H=>xs.length≤sizeLine∧newK (.lst xs) H Q
theorem m_kQL (Q:VK) (xs:List V) (H:Hp):kQL Q xs H=(xs.length≤sizeLine∧newK (.lst xs) H Q):=rfl
def qTup (t:TA):TE:=fun σ H Q=>t σ H (kQT Q)
theorem m_qTup (t:TA) (σ:St) (H:Hp) (Q:VK):qTup t σ H Q=t σ H (kQT Q):=rfl
def qLst (t:TA):TE:=fun σ H Q=>t σ H (kQL Q)
theorem m_qLst (t:TA) (σ:St) (H:Hp) (Q:VK):qLst t σ H Q=t σ H (kQL Q):=rfl
section
variable {X:Cx}{es:List Expr}{t:TA}{pos:Pos}
theorem pe_qTup {x1}(h:PA X es t):PE X (.Tuple es x1 pos) (qTup t):=by
 intro pins s σ H Q I hq
 refine wpAny_Tuple_spliced (thn (h pos pins s σ H _ I hq) fun us s1 ⟨xs,H1,I1,r,z,q⟩=>⟨by rw [←r.length];exact z,?_⟩)
 have hf:H1 s1.heap.objs.size=none:=I1.hok.fresh (Nat.le_refl _)
 refine ⟨.ref s1.heap.objs.size,upd H1 s1.heap.objs.size (.tup xs),I1.laid (t':=s1.toks) (fun b u e=>Heap.get?_push_of_some _ e) (Nat.le_refl _) ?_,rfl,q.to _ hf⟩
 exact ⟨z,us,r,⟨_,Heap.get?_push_size _ rfl,rfl,_,rfl⟩⟩
theorem pe_qLst (h:PA X es t):PE X (.List es pos) (qLst t):=by
 intro pins s σ H Q I hq
 refine wpAny_List_spliced (thn (h pos pins s σ H _ I hq) fun us s1 ⟨xs,H1,I1,r,z,q⟩=>⟨by rw [←r.length];exact z,?_⟩)
 have hf:H1 s1.heap.objs.size=none:=I1.hok.fresh (Nat.le_refl _)
 refine ⟨.ref s1.heap.objs.size,upd H1 s1.heap.objs.size (.lst xs),I1.laid (t':=s1.toks) (fun b u e=>Heap.get?_push_of_some _ e) (Nat.le_refl _) ?_,rfl,q.to _ hf⟩
 exact ⟨z,us,0,r,Heap.get?_push_size _ rfl⟩
end
def kN (f:List V->HO) (H:Hp) (Q:VK):List V->Prop:=fun ys=>newK (f ys) H Q
theorem m_kN (f:List V->HO) (H:Hp) (Q:VK) (ys:List V):kN f H Q ys=newK (f ys) H Q:=rfl
def nList (xs:List V) (H:Hp) (Q:VK):Prop:=match xs with
 | [.ref p]=>optK (itemsAt H p) (kN .lst H Q)
 | _=>False
theorem m_nList (p:Addr) (H:Hp) (Q:VK):nList [.ref p] H Q=optK (itemsAt H p) (kN .lst H Q):=rfl
theorem call_nList {X:Cx}:CallR X (.type "list") nList:=call_qList.mono fun xs H Q h=>by
 unfold nList at h
 split at h
 ·exact optK_mono (fun _ q=>q.to) h
 ·exact h.elim
def kNC2 (xs:List V) (H:Hp) (Q:VK):List V->Prop:=fun ys=>xs.length+ys.length≤sizeLine∧newK (.lst (xs++ys)) H Q
theorem m_kNC2 (xs:List V) (H:Hp) (Q:VK) (ys:List V):kNC2 xs H Q ys=(xs.length+ys.length≤sizeLine∧newK (.lst (xs++ys)) H Q):=rfl
def kNC1 (b:Addr) (H:Hp) (Q:VK):List V->Prop:=fun xs=>optK (lstAt H b) (kNC2 xs H Q)
theorem m_kNC1 (b:Addr) (H:Hp) (Q:VK) (xs:List V):kNC1 b H Q xs=optK (lstAt H b) (kNC2 xs H Q):=rfl
def nCat:R2:=fun x y H Q=>match x,y with
 | .ref l,.ref b=>optK (lstAt H l) (kNC1 b H Q)
 | _,_=>False
theorem m_nCat (l b:Addr) (H:Hp) (Q:VK):nCat (.ref l) (.ref b) H Q=optK (lstAt H l) (kNC1 b H Q):=rfl
theorem op_nCat {X:Cx}:OpR X (binaryOp .Add) nCat:=op_cat.mono fun x y H Q h=>by
 unfold nCat at h
 split at h
 ·rw [m_rCat]
  exact optK_mono (fun _ q=>optK_mono (fun _ q=>⟨q.1,q.2.to⟩) q) h
 ·exact h.elim
def kNS (lo hi:Option Int) (H:Hp) (Q:VK):List V->Prop:=fun xs=>newK (.lst (cutV xs lo hi)) H Q
theorem m_kNS (lo hi:Option Int) (H:Hp) (Q:VK) (xs:List V):kNS lo hi H Q xs=newK (.lst (cutV xs lo hi)) H Q:=rfl
def nSl:V->Option Int->Option Int->Hp->VK->Prop:=fun x lo hi H Q=>match x with
 | .ref a=>optK (lstAt H a) (kNS lo hi H Q)
 | _=>False
theorem m_nSl (a:Addr) (lo hi:Option Int) (H:Hp) (Q:VK):nSl (.ref a) lo hi H Q=optK (lstAt H a) (kNS lo hi H Q):=rfl
theorem sl_n {X:Cx}:SlR X nSl:=sl_q.mono fun x lo hi H Q h=>by
 unfold nSl at h
 split at h
 ·exact optK_mono (fun _ q=>q.to) h
 ·exact h.elim
theorem PE.mono {X:Cx}{e:Expr}{t t':TE}(h:PE X e t) (m:∀ σ H Q,t' σ H Q->t σ H Q):PE X e t':=fun pins s σ H Q I q=>h pins s σ H Q I (m _ _ _ q)
def nDNew:TE:=fun _ H Q=>newK (.dK []) H Q
theorem m_nDNew (σ:St) (H:Hp) (Q:VK):nDNew σ H Q=newK (.dK []) H Q:=rfl
theorem pe_nDNew {X:Cx}{pos:Pos}:PE X (.Dict [] [] pos) nDNew:=pe_dnewK.mono fun _ _ _ h=>h.to
end L2
set_option Elab.async false
set_option linter.all false
set_option maxRecDepth 100000
set_option maxHeartbeats 4000000
namespace L2
open PySem PySem.Spec PyProof.Rows
section
variable {prog:Program}{w:World}{A:Around}{E:Value->Shared->Prop}{s:Shared}
end
section
variable {X:Cx}{pos:Pos}
end
end L2
set_option Elab.async false
set_option linter.all false
set_option maxRecDepth 100000
set_option maxHeartbeats 4000000
namespace L2
open PySem PySem.Spec PyProof.Rows
section
variable {X:Cx}{tg:Expr}
end
end L2
set_option Elab.async false
set_option linter.all false
set_option maxRecDepth 100000
set_option maxHeartbeats 4000000
namespace L2
open PySem PySem.Spec PyProof.Rows
theorem preSum_ints:∀ (n:Nat) (ns:List Int) (val:Nat->Int),(∀ i,val i=ns.getD i 0)->n≤ns.length->preSum val n=(ns.take n).sum
 | 0,ns,val,h,hl=>by simp [preSum]
 | n+1,ns,val,h,hl=>by
  have ih:=preSum_ints n ns val h (by omega)
  have e:ns.take (n+1)=ns.take n++[ns.getD n 0]:=by
   rw [List.take_succ,List.getElem?_eq_getElem (by omega)]
   simp [List.getD,List.getElem?_eq_getElem (show n < ns.length by omega)]
  rw [preSum,ih,e,List.sum_append,h]
  simp
def kSumI (H:Hp) (Q:VK):List Int->Prop:=fun ns=>Q (.int ns.sum) H
theorem m_kSumI (H:Hp) (Q:VK) (ns:List Int):kSumI H Q ns=Q (.int ns.sum) H:=rfl
def qSum:List V->Hp->VK->Prop:=fun vs H Q=>match vs with
 | [.ref p]=>optK (lstAt H p) (kInts (kSumI H Q))
 | _=>False
theorem m_qSum (p:Addr) (H:Hp) (Q:VK):qSum [.ref p] H Q=optK (lstAt H p) (kInts (kSumI H Q)):=rfl
def kBls (F:List Bool->Prop):List V->Prop:=fun xs=>∃ bs,xs=bs.map V.bl∧F bs
theorem bls_inj:∀ {ns ms:List Bool},ns.map V.bl=ms.map V.bl->ns=ms
 | [],[],_=>rfl
 | [],_::_,h=>by cases h
 | _::_,[],h=>by cases h
 | i::r,j::t,h=>by
  simp only [List.map_cons,List.cons.injEq,V.bl.injEq] at h
  rw [h.1,bls_inj h.2]
theorem m_kBls (F:List Bool->Prop) (bs:List Bool):kBls F (bs.map V.bl)=F bs:=propext ⟨fun ⟨ms,e,h⟩=>by rw [bls_inj e];exact h,fun h=>⟨bs,rfl,h⟩⟩
def kAllB (H:Hp) (Q:VK):List Bool->Prop:=fun bs=>Q (.bl (bs.all id)) H
theorem m_kAllB (H:Hp) (Q:VK) (bs:List Bool):kAllB H Q bs=Q (.bl (bs.all id)) H:=rfl
def qAll:List V->Hp->VK->Prop:=fun vs H Q=>match vs with
 | [.ref p]=>optK (lstAt H p) (kBls (kAllB H Q))
 | _=>False
theorem m_qAll (p:Addr) (H:Hp) (Q:VK):qAll [.ref p] H Q=optK (lstAt H p) (kBls (kAllB H Q)):=rfl
section
variable {X:Cx}
theorem call_qSum (hc:X.calm=true):CallR X (.builtin "sum") qSum:=by
 intro pins s σ H vs us Q I r h
 unfold qSum at h
 split at h
 ·rename_i p
  obtain ⟨xs,e,ns,rfl,q⟩:=optK_ex h
  cases r with
  | cons r rr=>
   cases rr
   cases r
   obtain ⟨its,rv,pl,hz⟩:=I.list (SqL.of (lst_of e))
   have hlt:p < s.heap.objs.size:=by obtain ⟨_,e,_⟩:=pl.isList;exact Heap.lt_size e
   have hlen:its.length=ns.length:=by have:=rv.length;simpa using this.symm
   refine call_sum_walkAnyS (wpAny_pyIter_list pl.isList ⟨s.heap.objs.size,_,_,_,_,_,_,fun i=>ns.getD i 0,rfl,(Walks.list (show X.A.in1.handled=none from I.ok.hd hc) _ p (Nat.ne_of_lt hlt) its.toArray).toS,⟨⟨_,Heap.get?_push_size _ rfl,rfl,rfl⟩,pl.isList.push _⟩,fun b hb=>?_,fun i v hP=>?_,fun s' t' hm=>?_⟩)
   ·rw [Heap.size_push]
    rcases List.mem_cons.mp hb with rfl|hb
    ·exact Nat.lt_succ_self _
    ·rw [List.mem_singleton.mp hb];exact Nat.lt_succ_of_lt hlt
   ·have hv:its[i]? = some v:=by simpa using hP
    have hi:i < ns.length:=by rw [←hlen];exact (List.getElem?_eq_some_iff.mp hv).1
    obtain ⟨u,hu,ru⟩:=rv.get (i:=i) (x:=.int (ns.getD i 0)) (by rw [List.getElem?_map,List.getElem?_eq_getElem hi];simp [List.getD,List.getElem?_eq_getElem hi])
    rw [hv] at hu
    cases hu
    exact ru
   ·obtain ⟨hp,g,d,tk,os⟩:=s'
    have kp:∀ b o,s.heap.get? b=some o->hp.get? b=some o:=fun b o e=>hm.heap b o (fun hmem=>by
     have:b=s.heap.objs.size:=by simpa using hmem
     subst this
     exact absurd (Heap.lt_size e) (Nat.lt_irrefl _)) (Heap.get?_push_of_some _ e)
    have e1:g=s.gens:=hm.gens
    have e2:d=s.drawn:=hm.drawn
    have e3:os=s.os:=hm.os
    subst e1 e2 e3
    refine ⟨.int ns.sum,H,I.kept (t':=tk) kp,?_,q⟩
    have es:=preSum_ints its.toArray.size ns (fun i=>ns.getD i 0) (fun _=>rfl) (by simp [hlen])
    rw [show its.toArray.size=ns.length by simp [hlen],List.take_length] at es
    rw [show its.toArray.size=ns.length by simp [hlen],es]
    exact ⟨t',rfl⟩
 ·exact h.elim
theorem all_range (bs:List Bool):(List.range bs.length).all (fun i=>bs.getD i false)=bs.all id:=by
 rw [Bool.eq_iff_iff,List.all_eq_true,List.all_eq_true]
 refine ⟨fun h x hx=>?_,fun h i hi=>?_⟩
 ·obtain ⟨i,hi,e⟩:=List.getElem_of_mem hx
  have:=h i (List.mem_range.mpr hi)
  simpa [List.getD,List.getElem?_eq_getElem hi,e] using this
 ·have hi':=List.mem_range.mp hi
  have:=h (bs[i]) (List.getElem_mem hi')
  simpa [List.getD,List.getElem?_eq_getElem hi'] using this
theorem call_qAll (hc:X.calm=true):CallR X (.builtin "all") qAll:=by
 intro pins s σ H vs us Q I r h
 unfold qAll at h
 split at h
 ·rename_i p
  obtain ⟨xs,e,bs,rfl,q⟩:=optK_ex h
  cases r with
  | cons r rr=>
   cases rr
   cases r
   obtain ⟨its,rv,pl,hz⟩:=I.list (SqL.of (lst_of e))
   have hlt:p < s.heap.objs.size:=by obtain ⟨_,e,_⟩:=pl.isList;exact Heap.lt_size e
   have hlen:its.length=bs.length:=by have:=rv.length;simpa using this.symm
   refine call_all_walk (wpAny_pyIter_list pl.isList ⟨s.heap.objs.size,_,_,_,_,_,fun i=>bs.getD i false,rfl,Walks.list (show X.A.in1.handled=none from I.ok.hd hc) _ p (Nat.ne_of_lt hlt) its.toArray,⟨⟨_,Heap.get?_push_size _ rfl,rfl,rfl⟩,pl.isList.push _⟩,fun i v s' Q' E' hP hQ=>?_,fun h' tk hk=>?_⟩)
   ·have hv:its[i]? = some v:=by simpa using hP
    have hi:i < bs.length:=by rw [←hlen];exact (List.getElem?_eq_some_iff.mp hv).1
    obtain ⟨u,hu,ru⟩:=rv.get (i:=i) (x:=.bl (bs.getD i false)) (by rw [List.getElem?_map,List.getElem?_eq_getElem hi];simp [List.getD,List.getElem?_eq_getElem hi])
    rw [hv] at hu
    cases hu
    have e2:v=.bool (bs.getD i false):=ru
    subst e2
    exact wpAny_truthy_bool hQ
   ·have kp:∀ b o,s.heap.get? b=some o->h'.get? b=some o:=fun b o e=>hk b o (fun hmem=>by
     have:b=s.heap.objs.size:=by simpa using hmem
     subst this
     exact absurd (Heap.lt_size e) (Nat.lt_irrefl _)) (Heap.get?_push_of_some _ e)
    refine ⟨.bl (bs.all id),H,I.kept (t':=tk) kp,?_,q⟩
    rw [show its.toArray.size=bs.length by simp [hlen],all_range]
    exact rfl
 ·exact h.elim
end
end L2
set_option Elab.async false
set_option linter.all false
set_option maxRecDepth 100000
set_option maxHeartbeats 4000000
namespace L2
open PySem PySem.Spec PyProof.Rows
structure Src (prog:Program) (w:World) (it:Addr) (fr:List Addr) (st:Nat->Heap->Prop) (val:Nat->Option Value):Prop where
 mem:it∈fr
 there:∀ k h,st k h->∀ b∈fr,∃ o,h.get? b=some o
 keep:∀ k h h',st k h->(∀ b∈fr,∀ o,h.get? b=some o->h'.get? b=some o)->st k h'
 item:∀ (A:Around) k s v (Q:Value->Shared->Prop) (E:Value->Shared->Prop),st k s.heap->val k=some v->(∀ h',st (k+1) h'->Heap.SameBut it s.heap h'->Q v { s with heap:=h' })->wpAny (model prog w) A (Builtin.SmallTypes.nextOf (.ref it)) Q E s
 fin:∀ (A:Around) k s (Q:Value->Shared->Prop) (E:Value->Shared->Prop),A.handled=none->st k s.heap->val k=none->(∀ h' e,Heap.ExtBut it s.heap h'->(∃ o,h'.get? e=some o∧o.cls=.type "StopIteration")->E (.ref e) { s with heap:=h' })->wpAny (model prog w) A (Builtin.SmallTypes.nextOf (.ref it)) Q E s
theorem src_list {prog:Program}{w:World}(it l:Addr) (hne:l ≠ it) (xs:Array Value):Src prog w it [it,l] (fun k h=>h.IsListIter it l k∧h.IsList l xs) (fun k=>xs[k]?) where
 mem:=List.mem_cons_self
 there:=fun k h st b hb=>by
  rcases List.mem_cons.mp hb with e|hb
  ·obtain ⟨o,q,_⟩:=st.1;exact ⟨o,by rw [e];exact q⟩
  ·obtain ⟨o,q,_⟩:=st.2;exact ⟨o,by rw [List.mem_singleton.mp hb];exact q⟩
 keep:=fun k h h' st q=>⟨st.1.at fun o e=>q it (by simp) o e,st.2.at fun o e=>q l (by simp) o e⟩
 item:=fun A k s v Q E st hv hQ=>wpAny_nextOf_list_item st.1 st.2 hv fun h' a b=>hQ h' ⟨a,st.2.extBut b.extBut hne⟩ b
 fin:=fun A k s Q E hh st hv hE=>wpAny_nextOf_list_end hh st.1 st.2 hv hE
section
variable {prog:Program}{w:World}{A:Around}{E:Value->Shared->Prop}{s:Shared}
theorem next_tup_item {j t:Addr}{k:Nat}{xs:Array Value}{v:Value}{Q:Value->Shared->Prop}(hj:s.heap.IsTupleIter j t k) (ht:s.heap.IsTuple t xs) (hv:xs[k]? = some v)
  (hQ:∀ g,g.IsTupleIter j t (k+1)->Heap.SameBut j s.heap g->Q v { s with heap:=g }):wpAny (model prog w) A (Builtin.SmallTypes.nextOf (.ref j)) Q E s:=by
 obtain ⟨oj,h0,h1,h2⟩:=id hj
 obtain ⟨ot,g0,_,n,g1⟩:=ht
 unfold Builtin.SmallTypes.nextOf
 refine wpAny_bind (wpAny_callSpecial?_slot (name:=Str.ofString "__next__") hj.typeIs F.slot_tuple_iterator_next (wpAny_call_entry F.slot_tuple_iterator_next hj.typeIs F.entry_tuple_iterator_next ?_ (F.args_tuple_iterator_next_1 _)))
 refine wpAny_bind (m:=field (.ref j) 0) (wpAny_field h0 h2 (x:=.ref t) rfl ?_)
 show wpAny _ _ (if (Value.ref t == Value.none)=true then _ else _) _ _ _
 rw [if_neg (show ¬ ((.ref t:Value) == .none)=true from Bool.false_ne_true)]
 refine wpAny_bind (m:=field (.ref j) 1) (wpAny_field h0 h2 (x:=.int k 0) rfl ?_)
 refine wpAny_bind (m:=seqItems? (.ref t)) (wpAny_seqItems g0 g1 ?_)
 simp only [Int.toNat_natCast,hv]
 refine wpAny_bind (wpAny_setField h0 h2 (by simp) (wpAny_pure ⟨v,rfl,wpAny_pure (hQ _ ⟨_,Heap.get?_update_self _ h0 (Obj.isFreed_of_fields (Obj.data_mapFields h2 _)),(Obj.cls_mapFields ..).trans h1,?_⟩ (Heap.SameBut.update ..))⟩))
 rw [Obj.data_mapFields h2];simp [rawInt]
theorem next_tup_end {j t:Addr}{k:Nat}{xs:Array Value}{Q:Value->Shared->Prop}(hh:A.handled=none) (hj:s.heap.IsTupleIter j t k) (ht:s.heap.IsTuple t xs) (hv:xs[k]? = none)
  (hE:∀ g e,Heap.ExtBut j s.heap g->(∃ o,g.get? e=some o∧o.cls=.type "StopIteration")->E (.ref e) { s with heap:=g }):wpAny (model prog w) A (Builtin.SmallTypes.nextOf (.ref j)) Q E s:=by
 obtain ⟨oj,h0,h1,h2⟩:=id hj
 obtain ⟨ot,g0,_,n,g1⟩:=ht
 unfold Builtin.SmallTypes.nextOf
 refine wpAny_bind (wpAny_callSpecial?_slot (name:=Str.ofString "__next__") hj.typeIs F.slot_tuple_iterator_next (wpAny_call_entry F.slot_tuple_iterator_next hj.typeIs F.entry_tuple_iterator_next ?_ (F.args_tuple_iterator_next_1 _)))
 refine wpAny_bind (m:=field (.ref j) 0) (wpAny_field h0 h2 (x:=.ref t) rfl ?_)
 show wpAny _ _ (if (Value.ref t == Value.none)=true then _ else _) _ _ _
 rw [if_neg (show ¬ ((.ref t:Value) == .none)=true from Bool.false_ne_true)]
 refine wpAny_bind (m:=field (.ref j) 1) (wpAny_field h0 h2 (x:=.int k 0) rfl ?_)
 refine wpAny_bind (m:=seqItems? (.ref t)) (wpAny_seqItems g0 g1 ?_)
 simp only [Int.toNat_natCast,hv]
 refine wpAny_bind (wpAny_rule (wpAny_bind (wpAny_setField h0 h2 (by simp) (wpAny_bind (m:=newExc (.type "StopIteration") []) ?_))))
 simp only [newExc,newTuple]
 refine wpAny_bind (wpAny_newObj_type (wpAny_bind (m:=firstArgMember _ _) (wpAny_of_eq (a:=Value.none) (by first|rfl|(simp only [firstArgMember];rfl)) (wpAny_newObj_type ?_ (by size_fits)))) (by size_fits))
 simp only [raiseNew]
 refine wpAny_bind (wpAny_handled ?_);first|rw [show A.in1.handled=none from hh]|rw [hh]
 exact wpAny_bind (wpAny_pure (wpAny_throw (hE _ _ (((Heap.SameBut.update ..).extBut.push _).push _) ⟨_,Heap.get?_push_size _ rfl,rfl⟩)))
theorem src_tup (it l:Addr) (hne:l ≠ it) (xs:Array Value):Src prog w it [it,l] (fun k h=>h.IsTupleIter it l k∧h.IsTuple l xs) (fun k=>xs[k]?) where
 mem:=List.mem_cons_self
 there:=fun k h st b hb=>by
  rcases List.mem_cons.mp hb with e|hb
  ·obtain ⟨o,q,_⟩:=st.1;exact ⟨o,by rw [e];exact q⟩
  ·obtain ⟨o,q,_⟩:=st.2;exact ⟨o,by rw [List.mem_singleton.mp hb];exact q⟩
 keep:=fun k h h' st q=>⟨st.1.at fun o e=>q it (by simp) o e,st.2.at fun o e=>q l (by simp) o e⟩
 item:=fun A k s v Q E st hv hQ=>next_tup_item st.1 st.2 hv fun h' a b=>hQ h' ⟨a,st.2.extBut b.extBut hne⟩ b
 fin:=fun A k s Q E hh st hv hE=>next_tup_end hh st.1 st.2 hv hE
structure Apart2 (z TI TO i j:Addr) (f g:List Addr):Prop where
 ti:TI ≠ z∧TI ≠ TO∧TI ≠ i∧TI ≠ j
 zt:z ≠ TO
 zf:z ∉ f
 zg:z ∉ g
 tf:TO ∉ f
 tg:TO ∉ g
 ig:i ∉ g
 jf:j ∉ f
variable {z TI TO i j:Addr}{f g:List Addr}{ti tj:Nat->Heap->Prop}{vi vj:Nat->Option Value}{k m:Nat}{x y a b:Value}
theorem ne_mem {p q:Addr}{l:List Addr}(hp:p∈l) (hq:q ∉ l):p ≠ q:=fun e=>hq (e ▸ hp)
theorem Src.but {prog:Program}{w:World}{it:Addr}{fr:List Addr}{st:Nat->Heap->Prop}{val:Nat->Option Value}(S:Src prog w it fr st val){k:Nat}{c:Addr}{h h':Heap}(q:st k h) (e:Heap.ExtBut c h h') (hc:c ∉ fr):st k h':=
 S.keep k h h' q fun b hb o ho=>e b o (ne_mem hb hc) ho
theorem zip2_item (S:Src prog w i f ti vi) (T:Src prog w j g tj vj) (D:Apart2 z TI TO i j f g){Q:Value->Shared->Prop}
  (hz:IsZip s.heap z TI TO .none) (hTI:IsPair s.heap TI (.ref i) (.ref j)) (hTO:IsPair s.heap TO a b) (hi:ti k s.heap) (hj:tj m s.heap) (hx:vi k=some x) (hy:vj m=some y)
  (hQ:∀ h',IsZip h' z TI TO (rawInt s.heap.objs.size)->IsPair h' TO x y->ti (k+1) h'->tj (m+1) h'->IsPair h' s.heap.objs.size x y->h'.objs.size=s.heap.objs.size+1->(∀ c o,c ∉ [z,TO,i,j]->s.heap.get? c=some o->h'.get? c=some o)->Q (.ref s.heap.objs.size) { s with heap:=h' }) :
  wpAny (model prog w) A (Builtin.«zip.__next__» ⟨[.ref z],[]⟩) (fun fin s'=>∃ v,fin=.done (.ret v)∧Q v s') E s:=by
 have iz:i ≠ z:=ne_mem S.mem D.zf
 have jz:j ≠ z:=ne_mem T.mem D.zg
 have iTO:i ≠ TO:=ne_mem S.mem D.tf
 have jTO:j ≠ TO:=ne_mem T.mem D.tg
 have ij:i ≠ j:=ne_mem S.mem D.jf
 refine wpAny_bind (m:=field (.ref z) 2) (wpAny_field hz rfl (x:=.bool false) rfl ?_)
 refine wpAny_bind (m:=field (.ref z) 3) (wpAny_field hz rfl (x:=.ref TI) rfl (wpAny_bind (wpAny_seqItems hTI rfl ?_)))
 refine wpAny_bind (m:=Builtin.SmallTypes.ownedTupleIsFree (.ref z)) ?_
 unfold Builtin.SmallTypes.ownedTupleIsFree
 refine wpAny_bind (wpAny_field hz rfl (x:=.none) rfl (wpAny_pure ?_));simp only [if_true]
 refine wpAny_bind (wpAny_rule (wpAny_bind (wpAny_field hz rfl (x:=.ref TO) rfl (wpAny_bind (wpAny_setField_rec hz (by simp) fun q1 z1 s1=>?_)))))
 replace z1:IsZip q1 z TI TO .ellipsis:=z1
 refine wpAny_bind ?_;simp only [List.zipIdx_cons,List.zipIdx_nil,List.forIn_cons,List.forIn_nil]
 refine wpAny_bind (wpAny_bind (wpAny_onRaise (wpAny_bind (m:=Builtin.SmallTypes.nextOf (.ref i)) (S.item _ k _ x _ _ (S.but hi s1.extBut D.zf) hx fun q2 i2 s2=>wpAny_pure ?_))))
 have o2:IsPair q2 TO a b:=s2.extBut _ _ iTO.symm (s1.extBut _ _ D.zt.symm hTO)
 refine wpAny_bind (wpAny_seqItems o2 rfl (wpAny_bind (wpAny_updateSeq_pair o2 fun q3 o3 s3=>wpAny_bind (wpAny_letGo (wpAny_pure ?_)))))
 replace o3:IsPair q3 TO x b:=o3
 have j3:tj m q3:=T.but (T.but (T.but hj s1.extBut D.zg) s2.extBut D.ig) s3.extBut D.tg
 refine wpAny_bind (wpAny_bind (wpAny_onRaise (wpAny_bind (m:=Builtin.SmallTypes.nextOf (.ref j)) (T.item _ m _ y _ _ j3 hy fun q4 j4 s4=>wpAny_pure ?_))))
 have o4:IsPair q4 TO x b:=s4.extBut _ _ jTO.symm o3
 refine wpAny_bind (wpAny_seqItems o4 rfl (wpAny_bind (wpAny_updateSeq_pair o4 fun q5 o5 s5=>wpAny_bind (wpAny_letGo (wpAny_pure (wpAny_pure ?_))))))
 replace o5:IsPair q5 TO x y:=o5
 refine wpAny_bind (wpAny_seqItems o5 rfl (wpAny_bind (wpAny_newTuple ?_)))
 have sz:q5.objs.size=s.heap.objs.size:=by rw [s5.1,s4.1,s3.1,s2.1,s1.1]
 have z5:IsZip q5 z TI TO .ellipsis:=s5.extBut _ _ D.zt (s4.extBut _ _ jz.symm (s3.extBut _ _ D.zt (s2.extBut _ _ iz.symm z1)))
 have k5:∀ c o,c ∉ [z,TO,i,j]->s.heap.get? c=some o->q5.get? c=some o:=fun c o hc e=>by
  simp only [List.mem_cons,List.not_mem_nil,or_false,not_or] at hc
  exact s5.extBut _ _ hc.2.1 (s4.extBut _ _ hc.2.2.2 (s3.extBut _ _ hc.2.1 (s2.extBut _ _ hc.2.2.1 (s1.extBut _ _ hc.1 e))))
 have i5:ti (k+1) q5:=S.but (S.but (S.but i2 s3.extBut D.tf) s4.extBut D.jf) s5.extBut D.tf
 have j5:tj (m+1) q5:=T.but j4 s5.extBut D.tg
 have zlt:z < q5.objs.size:=Heap.lt_size z5
 refine wpAny_bind (m:=Builtin.SmallTypes.ownedTupleHandOut (.ref z) (.ref q5.objs.size)) ?_
 unfold Builtin.SmallTypes.ownedTupleHandOut
 have z6:IsZip (q5.push { cls:=.type "tuple",data:=.seq #[x,y] }) z TI TO .ellipsis:=Heap.get?_push_of_some _ z5
 refine wpAny_bind (wpAny_setField_rec z6 (by simp) fun q7 z7 s7=>?_)
 replace z7:IsZip q7 z TI TO (rawInt q5.objs.size):=z7
 refine wpAny_setField_rec z7 (by simp) fun q8 z8 s8=>?_
 replace z8:IsZip q8 z TI TO (rawInt q5.objs.size):=z8
 have up:∀ c o,c ≠ z->q5.get? c=some o->q8.get? c=some o:=fun c o hc e=>s8.extBut _ _ hc (s7.extBut _ _ hc (Heap.get?_push_of_some _ e))
 have t8:IsPair q8 q5.objs.size x y:=s8.extBut _ _ (Nat.ne_of_gt zlt) (s7.extBut _ _ (Nat.ne_of_gt zlt) (Heap.get?_push_size _ rfl))
 have n8:q8.objs.size=q5.objs.size+1:=by rw [s8.1,s7.1,Heap.size_push]
 rw [sz] at z8 t8 n8
 refine wpAny_pure ⟨_,rfl,?_⟩
 show Q (.ref q5.objs.size) _
 rw [sz]
 exact hQ q8 z8 (up _ _ D.zt.symm o5) (S.keep _ _ _ i5 fun c hc o e=>up c o (ne_mem hc D.zf) e) (T.keep _ _ _ j5 fun c hc o e=>up c o (ne_mem hc D.zg) e) t8 n8 fun c o hc e=>up c o (fun q=>hc (by simp [q])) (k5 c o hc e)
theorem zip2_end (hh:A.handled=none) (S:Src prog w i f ti vi) (T:Src prog w j g tj vj) (D:Apart2 z TI TO i j f g){Q:Fin->Shared->Prop}
  (hz:IsZip s.heap z TI TO .none) (hTI:IsPair s.heap TI (.ref i) (.ref j)) (hTO:IsPair s.heap TO a b) (hi:ti k s.heap) (hj:tj m s.heap) (hxy:vi k=none∨vj m=none)
  (hE:∀ h' e,(∀ c o,c ∉ [z,TO,i,j]->s.heap.get? c=some o->h'.get? c=some o)->(∃ o,h'.get? e=some o∧o.cls=.type "StopIteration")->E (.ref e) { s with heap:=h' }) :
  wpAny (model prog w) A (Builtin.«zip.__next__» ⟨[.ref z],[]⟩) Q E s:=by
 have iz:i ≠ z:=ne_mem S.mem D.zf
 have jz:j ≠ z:=ne_mem T.mem D.zg
 have iTO:i ≠ TO:=ne_mem S.mem D.tf
 have jTO:j ≠ TO:=ne_mem T.mem D.tg
 refine wpAny_bind (m:=field (.ref z) 2) (wpAny_field hz rfl (x:=.bool false) rfl ?_)
 refine wpAny_bind (m:=field (.ref z) 3) (wpAny_field hz rfl (x:=.ref TI) rfl (wpAny_bind (wpAny_seqItems hTI rfl ?_)))
 refine wpAny_bind (m:=Builtin.SmallTypes.ownedTupleIsFree (.ref z)) ?_
 unfold Builtin.SmallTypes.ownedTupleIsFree
 refine wpAny_bind (wpAny_field hz rfl (x:=.none) rfl (wpAny_pure ?_));simp only [if_true]
 refine wpAny_bind (wpAny_rule (wpAny_bind (wpAny_field hz rfl (x:=.ref TO) rfl (wpAny_bind (wpAny_setField_rec hz (by simp) fun q1 z1 s1=>?_)))))
 replace z1:IsZip q1 z TI TO .ellipsis:=z1
 refine wpAny_bind ?_;simp only [List.zipIdx_cons,List.zipIdx_nil,List.forIn_cons,List.forIn_nil]
 refine wpAny_bind (wpAny_bind (wpAny_onRaise (wpAny_bind (m:=Builtin.SmallTypes.nextOf (.ref i)) ?_)))
 cases hx:vi k with
 | none=>
  refine S.fin _ k _ _ _ hh (S.but hi s1.extBut D.zf) hx fun q2 e s2 ⟨oe,he,hce⟩=>?_
  have z2:IsZip q2 z TI TO .ellipsis:=s2 _ _ iz.symm z1
  have ez:e ≠ z:=fun q=>by subst q;rw [z2] at he;cases he;simp at hce
  refine wpAny_setField_rec z2 (by simp) fun q3 _ s3=>hE q3 e (fun c o hc q=>?_) ⟨oe,s3.extBut _ _ ez he,hce⟩
  simp only [List.mem_cons,List.not_mem_nil,or_false,not_or] at hc
  exact s3.extBut _ _ hc.1 (s2 _ _ hc.2.2.1 (s1.extBut _ _ hc.1 q))
 | some x=>
  have hy:vj m=none:=hxy.resolve_left (by rw [hx];exact Option.some_ne_none x)
  refine S.item _ k _ x _ _ (S.but hi s1.extBut D.zf) hx fun q2 i2 s2=>wpAny_pure ?_
  have o2:IsPair q2 TO a b:=s2.extBut _ _ iTO.symm (s1.extBut _ _ D.zt.symm hTO)
  refine wpAny_bind (wpAny_seqItems o2 rfl (wpAny_bind (wpAny_updateSeq_pair o2 fun q3 o3 s3=>wpAny_bind (wpAny_letGo (wpAny_pure ?_)))))
  have j3:tj m q3:=T.but (T.but (T.but hj s1.extBut D.zg) s2.extBut D.ig) s3.extBut D.tg
  refine wpAny_bind (wpAny_bind (wpAny_onRaise (wpAny_bind (m:=Builtin.SmallTypes.nextOf (.ref j)) (T.fin _ m _ _ _ hh j3 hy fun q4 e s4 ⟨oe,he,hce⟩=>?_))))
  have z4:IsZip q4 z TI TO .ellipsis:=s4 _ _ jz.symm (s3.extBut _ _ D.zt (s2.extBut _ _ iz.symm z1))
  have ez:e ≠ z:=fun q=>by subst q;rw [z4] at he;cases he;simp at hce
  refine wpAny_setField_rec z4 (by simp) fun q5 _ s5=>hE q5 e (fun c o hc q=>?_) ⟨oe,s5.extBut _ _ ez he,hce⟩
  simp only [List.mem_cons,List.not_mem_nil,or_false,not_or] at hc
  exact s5.extBut _ _ hc.1 (s4 _ _ hc.2.2.2 (s3.extBut _ _ hc.2.1 (s2.extBut _ _ hc.2.2.1 (s1.extBut _ _ hc.1 q))))
theorem zip2_next_item (S:Src prog w i f ti vi) (T:Src prog w j g tj vj) (D:Apart2 z TI TO i j f g){Q:Option Value->Shared->Prop}
  (hz:IsZip s.heap z TI TO .none) (hTI:IsPair s.heap TI (.ref i) (.ref j)) (hTO:IsPair s.heap TO a b) (hi:ti k s.heap) (hj:tj m s.heap) (hx:vi k=some x) (hy:vj m=some y)
  (hQ:∀ h',IsZip h' z TI TO (rawInt s.heap.objs.size)->IsPair h' TO x y->ti (k+1) h'->tj (m+1) h'->IsPair h' s.heap.objs.size x y->h'.objs.size=s.heap.objs.size+1->(∀ c o,c ∉ [z,TO,i,j]->s.heap.get? c=some o->h'.get? c=some o)->Q (some (.ref s.heap.objs.size)) { s with heap:=h' }) :
  wpAny (model prog w) A (pyNext (.ref z)) Q E s:=by
 have ty:s.TypeIs (.ref z) "zip":=⟨_,hz,rfl⟩
 unfold pyNext
 exact wpAny_bind (wpAny_attempt (wpAny_callSpecial?_slot (name:=Str.ofString "__next__") ty F.slot_zip_next (wpAny_call_entry F.slot_zip_next ty F.entry_zip_next (zip2_item S T D hz hTI hTO hi hj hx hy fun h' c1 c2 c3 c4 c5 c6 c7=>wpAny_pure (hQ h' c1 c2 c3 c4 c5 c6 c7)) (F.args_zip_next_1 _))))
theorem zip2_next_end (hh:A.handled=none) (S:Src prog w i f ti vi) (T:Src prog w j g tj vj) (D:Apart2 z TI TO i j f g){Q:Option Value->Shared->Prop}
  (hz:IsZip s.heap z TI TO .none) (hTI:IsPair s.heap TI (.ref i) (.ref j)) (hTO:IsPair s.heap TO a b) (hi:ti k s.heap) (hj:tj m s.heap) (hxy:vi k=none∨vj m=none)
  (hQ:∀ h',(∀ c o,c ∉ [z,TO,i,j]->s.heap.get? c=some o->h'.get? c=some o)->Q none { s with heap:=h' }):wpAny (model prog w) A (pyNext (.ref z)) Q E s:=by
 have ty:s.TypeIs (.ref z) "zip":=⟨_,hz,rfl⟩
 unfold pyNext
 refine wpAny_bind (wpAny_attempt (wpAny_callSpecial?_slot (name:=Str.ofString "__next__") ty F.slot_zip_next (wpAny_call_entry F.slot_zip_next ty F.entry_zip_next (zip2_end (show A.in1.handled=none from hh) S T D hz hTI hTO hi hj hxy fun h' e kp he=>?_) (F.args_zip_next_1 _))))
 obtain ⟨o,ho,hc⟩:=he
 exact wpAny_bind (wpAny_isInstance (T := "StopIteration") (b:=true) ⟨o,ho,hc⟩ isSubtype_stop (wpAny_pure (hQ _ kp)))
end
end L2
set_option Elab.async false
set_option linter.all false
set_option maxRecDepth 100000
set_option maxHeartbeats 4000000
namespace L2
open PySem PySem.Spec PyProof.Rows
def SeqAt (h:Heap) (k:Bool) (l:Addr) (xs:Array Value):Prop:=match k with
 | true=>h.IsTuple l xs
 | false=>h.IsList l xs
def IterAt (h:Heap) (k:Bool) (it l:Addr) (n:Nat):Prop:=match k with
 | true=>h.IsTupleIter it l n
 | false=>h.IsListIter it l n
def itObj (k:Bool) (l:Addr):Obj:=match k with
 | true=>{ cls:=.type "tuple_iterator",data:=.fields #[.ref l,.int 0 0] }
 | false=>{ cls:=.type "list_iterator",data:=.fields #[.ref l,.int 0 0] }
theorem SeqAt.at {h h':Heap}{k:Bool}{l:Addr}{xs:Array Value}(q:SeqAt h k l xs) (e:∀ o,h.get? l=some o->h'.get? l=some o):SeqAt h' k l xs:=by
 cases k
 ·exact Heap.IsList.at q e
 ·exact Heap.IsTuple.at q e
theorem IterAt.at {h h':Heap}{k:Bool}{it l:Addr}{n:Nat}(q:IterAt h k it l n) (e:∀ o,h.get? it=some o->h'.get? it=some o):IterAt h' k it l n:=by
 cases k
 ·exact Heap.IsListIter.at q e
 ·exact Heap.IsTupleIter.at q e
theorem IterAt.obj {h:Heap}{k:Bool}{it l:Addr}{n:Nat}(q:IterAt h k it l n):∃ o fs,h.get? it=some o∧o.data=.fields fs:=by
 cases k
 ·obtain ⟨o,e,_,d⟩:=(show h.IsListIter it l n from q);exact ⟨o,_,e,d⟩
 ·obtain ⟨o,e,_,d⟩:=(show h.IsTupleIter it l n from q);exact ⟨o,_,e,d⟩
theorem src_sq {prog:Program}{w:World}(k:Bool) (it l:Addr) (hne:l ≠ it) (xs:Array Value):Src prog w it [it,l] (fun n h=>IterAt h k it l n∧SeqAt h k l xs) (fun n=>xs[n]?):=by
 cases k
 ·exact src_list it l hne xs
 ·exact src_tup it l hne xs
section
variable {prog:Program}{w:World}{A:Around}{E:Value->Shared->Prop}{s:Shared}
theorem iter_sq {k:Bool}{l:Addr}{xs:Array Value}{Q:Value->Shared->Prop}(h:SeqAt s.heap k l xs) (hQ:Q (.ref s.heap.objs.size) { s with heap:=s.heap.push (itObj k l) }):wpAny (model prog w) A (pyIter (.ref l)) Q E s:=by
 cases k
 ·exact wpAny_pyIter_list h hQ
 ·exact wpAny_pyIter_tuple h hQ
abbrev zq1 (ka:Bool) (a:Addr) (h:Heap):Heap:=h.push (itObj ka a)
abbrev zq2 (ka kb:Bool) (a b:Addr) (h:Heap):Heap:=(zq1 ka a h).push (itObj kb b)
abbrev zq3 (ka kb:Bool) (a b:Addr) (h:Heap):Heap:=(zq2 ka kb a b h).push { cls:=.type "tuple",data:=.seq #[.ref h.objs.size,.ref (zq1 ka a h).objs.size] }
abbrev zq4 (ka kb:Bool) (a b:Addr) (h:Heap):Heap:=(zq3 ka kb a b h).push { cls:=.type "tuple",data:=.seq #[.none,.none] }
abbrev zq5 (ka kb:Bool) (a b:Addr) (h:Heap):Heap:=(zq4 ka kb a b h).push { cls:=.type "zip",data:=.fields #[.none,.bool false,.bool false,.ref (zq2 ka kb a b h).objs.size,.ref (zq3 ka kb a b h).objs.size] }
theorem zip_meets (ka kb:Bool) (a b:Addr) (xs ys:Array Value):Meets (Builtin.«zip.__new__» ⟨[.type "zip",.ref a,.ref b],[]⟩) (fun _ R s=>SeqAt s.heap ka a xs∧SeqAt s.heap kb b ys∧R (.ok (.ret (.ref (zq4 ka kb a b s.heap).objs.size))) { s with heap:=zq5 ka kb a b s.heap }):=
 .of_wp fun prog w A R s h=>by
  obtain ⟨hp,g,d,tk,os⟩:=s;obtain ⟨h1,h2,h⟩:=h;have hsub:=sub_zip
  have q1:SeqAt (Shared.heap ⟨hp,g,d,tk,os⟩) ka a xs:=h1
  have q2:SeqAt (Shared.heap ⟨hp.push (itObj ka a),g,d,tk,os⟩) kb b ys:=h2.at fun o e=>Heap.get?_push_of_some _ e
  wp_walk using iter_sq q1,iter_sq q2
  exact ⟨_,rfl,h⟩
theorem call_zq {ka kb:Bool}{a b:Addr}{xs ys:Array Value}{Q:Value->Shared->Prop}(h1:SeqAt s.heap ka a xs) (h2:SeqAt s.heap kb b ys)
  (h:∀ h' n,n=s.heap.objs.size->IsZip h' (n+4) (n+2) (n+3) .none->IsPair h' (n+2) (.ref n) (.ref (n+1))->IsPair h' (n+3) .none .none->IterAt h' ka n a 0->IterAt h' kb (n+1) b 0->h'.objs.size=n+5->(∀ c o,s.heap.get? c=some o->h'.get? c=some o)->Q (.ref (n+4)) { s with heap:=h' }) :
  wpAny (model prog w) A (call (.type "zip") [.ref a,.ref b]) Q E s:=by
 refine callType_new F.called_zip (by decide) (F.typeCall_zip_2 _ _) (F.newCall_zip_2 _ _) (fun ob=>F.args_object_init_3 ob _ _) F.entry_zip_new (zip_meets ka kb a b xs ys) ⟨h1,h2,?_⟩
 have n1:(zq1 ka a s.heap).objs.size=s.heap.objs.size+1:=Heap.size_push ..
 have n2:(zq2 ka kb a b s.heap).objs.size=s.heap.objs.size+2:=by rw [Heap.size_push,n1]
 have n3:(zq3 ka kb a b s.heap).objs.size=s.heap.objs.size+3:=by rw [Heap.size_push,n2]
 have n4:(zq4 ka kb a b s.heap).objs.size=s.heap.objs.size+4:=by rw [Heap.size_push,n3]
 have n5:(zq5 ka kb a b s.heap).objs.size=s.heap.objs.size+5:=by rw [Heap.size_push,n4]
 have f1:IterAt (zq1 ka a s.heap) ka s.heap.objs.size a 0:=by
  cases ka<;>exact ⟨_,Heap.get?_push_size _ rfl,rfl,rfl⟩
 have f2:IterAt (zq2 ka kb a b s.heap) kb (zq1 ka a s.heap).objs.size b 0:=by
  cases kb<;>exact ⟨_,Heap.get?_push_size _ rfl,rfl,rfl⟩
 have u2:∀ c o,(zq2 ka kb a b s.heap).get? c=some o->(zq5 ka kb a b s.heap).get? c=some o:=fun c o e=>Heap.get?_push_of_some _ (Heap.get?_push_of_some _ (Heap.get?_push_of_some _ e))
 have g5:(zq5 ka kb a b s.heap).get? (zq4 ka kb a b s.heap).objs.size=some _:=Heap.get?_push_size _ rfl
 have g4:(zq5 ka kb a b s.heap).get? (zq3 ka kb a b s.heap).objs.size=some _:=Heap.get?_push_of_some _ (Heap.get?_push_size _ rfl)
 have g3:(zq5 ka kb a b s.heap).get? (zq2 ka kb a b s.heap).objs.size=some _:=Heap.get?_push_of_some _ (Heap.get?_push_of_some _ (Heap.get?_push_size _ rfl))
 have e1:IterAt (zq5 ka kb a b s.heap) ka s.heap.objs.size a 0:=f1.at fun o e=>u2 _ o (Heap.get?_push_of_some _ e)
 have e2:IterAt (zq5 ka kb a b s.heap) kb (zq1 ka a s.heap).objs.size b 0:=f2.at fun o e=>u2 _ o e
 show _∧_
 rw [n2,n3,n4] at g5
 rw [n1,n2] at g3
 rw [n3] at g4
 rw [n1] at e2
 rw [n4]
 exact ⟨⟨_,g5,rfl⟩,h _ _ rfl g5 g3 g4 e1 e2 n5 fun c o e=>u2 c o (Heap.get?_push_of_some _ (Heap.get?_push_of_some _ e))⟩
end
section
variable {X:Cx}{pins:List (Addr × Obj)}{σ:List (Option V)}{H:Hp}{s:Shared}{h':Heap}
theorem Inv.turnNew {t':Nat}{ch:List Addr}{n:Addr}{o:HO}(I:Inv X pins σ H s) (hch:∀ b∈ch,FpOk X pins H b) (k:∀ b ob,b ∉ ch->s.heap.get? b=some ob->h'.get? b=some ob) (hn:s.heap.objs.size≤n) (new:ObjOk X.prog X.w (upd H n o) h' n o) :
  Inv X pins σ (upd H n o) { s with heap:=h',toks:=t' }:=by
 have fn:=I.hok.fresh hn
 have up:∀ {b u},H b=some u->upd H n o b=some u:=fun {b u} e=>by rw [upd_ne (ne_of_none e fn)];exact e
 have nch:∀ {b u},H b=some u->b ∉ ch:=fun {b u} e z=>by rw [(hch b z).1] at e;cases e
 refine I.step (g':=s.gens) (d':=s.drawn) (ch:=ch) (fun b hb=>⟨(hch b hb).2.2.2.1,(hch b hb).2.1,(hch b hb).2.2.2.2.1,(hch b hb).2.2.2.2.2⟩) (fun b ob _ _ hc e _=>k b ob hc e) (fun b ob _ _ hc e _=>⟨ob.slots,k b ob hc e⟩)
  (fun b ob _ e q=>?_) (fun b ob hc e=>⟨ob,k b ob hc e⟩) (fun _ _ e=>up e) (fun _ _ _ e=>up e) (fun b ps e=>⟨#[],by rw [up e];simp⟩) (fun m hm=>?_) (fun b u e=>?_) I.bare
 ·rw [upd_ne (Nat.ne_of_lt (Nat.lt_of_lt_of_le (Heap.lt_size e) hn))];exact q
 ·obtain ⟨ol,es,ep,ho,r⟩:=hm
  exact ⟨ol,es,ep,k _ ol (fun z=>(hch _ z).2.1 rfl) ho,r⟩
 ·by_cases hb:b=n
  ·subst hb;rw [upd_same] at e;cases e;exact new
  ·rw [upd_ne hb] at e
   refine (I.hok b u e).stay (fun c v hc q=>k c v ?_ q) (fun c q=>up q) fun c xs q=>up q
   rcases hc with rfl|hc
   ·exact nch e
   ·exact nch hc
theorem Inv.turnL {t':Nat}{ch:List Addr}(I:Inv X pins σ H s) (hch:∀ b∈ch,FpOk X pins H b) (k:∀ b ob,b ∉ ch->s.heap.get? b=some ob->h'.get? b=some ob):Inv X pins σ H { s with heap:=h',toks:=t' }:=by
 have nch:∀ {b u},H b=some u->b ∉ ch:=fun {b u} e z=>by rw [(hch b z).1] at e;cases e
 refine I.step (g':=s.gens) (d':=s.drawn) (ch:=ch) (fun b hb=>⟨(hch b hb).2.2.2.1,(hch b hb).2.1,(hch b hb).2.2.2.2.1,(hch b hb).2.2.2.2.2⟩) (fun b ob _ _ hc e _=>k b ob hc e) (fun b ob _ _ hc e _=>⟨ob.slots,k b ob hc e⟩)
  (fun _ _ _ _ q=>q) (fun b ob hc e=>⟨ob,k b ob hc e⟩) (fun _ _ e=>e) (fun _ _ _ e=>e) (fun b ps e=>⟨#[],by rw [e];simp⟩) (fun m hm=>?_) (fun b u e=>?_) I.bare
 ·obtain ⟨ol,es,ep,ho,r⟩:=hm
  exact ⟨ol,es,ep,k _ ol (fun z=>(hch _ z).2.1 rfl) ho,r⟩
 ·refine (I.hok b u e).stay (fun c v hc q=>k c v ?_ q) (fun _ q=>q) fun _ _ q=>q
  rcases hc with rfl|hc
  ·exact nch e
  ·exact nch hc
end
def SqK (k:Bool) (H:Hp) (a:Addr) (xs:List V):Prop:=match k with
 | true=>H a=some (.tup xs)
 | false=>H a=some (.lst xs)
theorem SqK.ne {k:Bool}{H:Hp}{a b:Addr}{xs:List V}(h:SqK k H a xs) (e:H b=none):a ≠ b:=fun z=>by
 subst z
 cases k
 ·rw [show H a=some (.lst xs) from h] at e;cases e
 ·rw [show H a=some (.tup xs) from h] at e;cases e
theorem Inv.sq {X:Cx}{pins:List (Addr × Obj)}{σ:St}{H:Hp}{s:Shared}{k:Bool}{a:Addr}{xs:List V}(I:Inv X pins σ H s) (h:SqK k H a xs):∃ its:List Value,Vals xs its∧SeqAt s.heap k a its.toArray:=by
 cases k
 ·obtain ⟨its,r,p,_⟩:=I.list (SqL.of h);exact ⟨its,r,p.isList⟩
 ·obtain ⟨its,r,p,_⟩:=I.tuple (SqT.of h);exact ⟨its,r,p⟩
def Itz (ka kb:Bool) (a b:Addr) (xs ys:List V):It:=
 ⟨fun i H=>SqK ka H a xs∧SqK kb H b ys∧i < xs.length∧i < ys.length,fun i H x H'=>∃ p u v,H p=none∧x=.ref p∧xs[i]? = some u∧ys[i]? = some v∧H'=upd H p (.tup [u,v]),fun i H=>SqK ka H a xs∧SqK kb H b ys∧(xs.length≤i∨ys.length≤i)⟩
def Tnz (ka kb:Bool) (a b z TI TO p q:Addr) (i:Nat) (h:Heap):Prop:=IsZip h z TI TO .none∧IsPair h TI (.ref p) (.ref q)∧(∃ u v,IsPair h TO u v)∧IterAt h ka p a i∧IterAt h kb q b i
theorem turn_zip {P:Program}{w:World}{K:PySem.W.Frag}{elts:List Expr} {x1}{tp:Pos}(ka kb:Bool) (a b z TI TO p q:Addr) (xs ys:List V) (nd:[z,TI,TO,p,q].Nodup):Turn P w K (.Tuple elts x1 tp) (Itz ka kb a b xs ys) [z,TI,TO,p,q] z (Tnz ka kb a b z TI TO p q) where
 mem:=List.mem_cons_self
 obj:=fun i h st c hc=>by
  obtain ⟨e1,e2,⟨u,v,e3⟩,e4,e5⟩:=st
  simp only [List.mem_cons,List.not_mem_nil,or_false] at hc
  rcases hc with rfl|rfl|rfl|rfl|rfl
  ·exact ⟨_,e1,fun v z=>by cases z⟩
  ·exact ⟨_,e2,fun v z=>by cases z⟩
  ·exact ⟨_,e3,fun v z=>by cases z⟩
  ·obtain ⟨o,fs,e,d⟩:=e4.obj;exact ⟨o,e,fun v z=>by rw [d] at z;cases z⟩
  ·obtain ⟨o,fs,e,d⟩:=e5.obj;exact ⟨o,e,fun v z=>by rw [d] at z;cases z⟩
 keep:=fun i h h' st k=>by
  obtain ⟨e1,e2,⟨u,v,e3⟩,e4,e5⟩:=st
  exact ⟨k z (by simp) _ e1,k TI (by simp) _ e2,⟨u,v,k TO (by simp) _ e3⟩,e4.at fun o e=>k p (by simp) o e,e5.at fun o e=>k q (by simp) o e⟩
 item:=by
  intro X hP hw hK hc i pins s σ H E I hf st hg
  subst hP hw hK
  obtain ⟨e1,e2,⟨u0,v0,e3⟩,e4,e5⟩:=st
  obtain ⟨ha,hb,l1,l2⟩:=hg
  obtain ⟨as,ra,sa⟩:=I.sq ha
  obtain ⟨bs,rb,sb⟩:=I.sq hb
  have hx:xs[i]? = some xs[i]:=List.getElem?_eq_getElem l1
  have hy:ys[i]? = some ys[i]:=List.getElem?_eq_getElem l2
  obtain ⟨u,hu,ru⟩:=ra.get hx
  obtain ⟨v,hv,rv⟩:=rb.get hy
  have free:∀ c∈[z,TI,TO,p,q],H c=none:=fun c h=>(hf c h).1
  have naz:∀ c∈[z,TI,TO,p,q],a ≠ c:=fun c h=>ha.ne (free c h)
  have nbz:∀ c∈[z,TI,TO,p,q],b ≠ c:=fun c h=>hb.ne (free c h)
  simp only [List.nodup_cons,List.mem_cons,List.not_mem_nil,or_false,not_or,not_false_eq_true,and_true,List.nodup_nil] at nd
  obtain ⟨⟨z1,z2,z3,z4⟩,⟨t1,t2,t3⟩,⟨w1,w2⟩,y1⟩:=nd
  have S:=src_sq (prog:=X.prog) (w:=X.w) ka p a (naz p (by simp)) as.toArray
  have T:=src_sq (prog:=X.prog) (w:=X.w) kb q b (nbz q (by simp)) bs.toArray
  have D:Apart2 z TI TO p q [p,a] [q,b]:=⟨⟨Ne.symm z1,t1,t2,t3⟩,z2,by simp [z3,Ne.symm (naz z (by simp))],by simp [z4,Ne.symm (nbz z (by simp))],by simp [w1,Ne.symm (naz TO (by simp))],by simp [w2,Ne.symm (nbz TO (by simp))],by simp [y1,Ne.symm (nbz p (by simp))],by simp [Ne.symm y1,Ne.symm (naz q (by simp))]⟩
  refine zip2_next_item S T D e1 e2 e3 ⟨e4,sa⟩ ⟨e5,sb⟩ (x:=u) (y:=v) (by simpa using hu) (by simpa using hv) fun h1 c1 c2 c3 c4 c5 c6 c7=>?_
  refine ⟨_,rfl,wpAny_letOwnedTupleGo_zip (s:={ s with heap:=h1 }) c1 fun h2 d1 d2=>?_⟩
  have lt:z < s.heap.objs.size:=Heap.lt_size e1
  have kp:∀ c o,c ∉ [z,TO,p,q]->s.heap.get? c=some o->h2.get? c=some o:=fun c o hc e=>d2.extBut _ _ (fun q=>hc (by simp [q])) (c7 c o hc e)
  have hn:h2.get? s.heap.objs.size=some { cls:=.type "tuple",data:=.seq #[u,v] }:=d2.extBut _ _ (Nat.ne_of_gt lt) c5
  have I2:Inv X pins σ (upd H s.heap.objs.size (.tup [xs[i],ys[i]])) { s with heap:=h2 }:=I.turnNew (t':=s.toks) (ch:=[z,TO,p,q]) (fun c hc=>hf c (by simp only [List.mem_cons,List.not_mem_nil,or_false] at hc ⊢;rcases hc with h|h|h|h<;>simp [h])) kp (Nat.le_refl _) ⟨(show 2≤sizeLine by decide),[u,v],.cons ru (.cons rv .nil),⟨_,hn,rfl,_,rfl⟩⟩
  have fr:H s.heap.objs.size=none:=I.hok.fresh (Nat.le_refl _)
  refine ⟨.ref s.heap.objs.size,_,I2,rfl,⟨_,_,_,fr,rfl,hx,hy,rfl⟩,⟨d1,d2.extBut _ _ (Ne.symm z1) (c7 TI _ (by simp [Ne.symm z1,t1,t2,t3]) e2),⟨u,v,d2.extBut _ _ (Ne.symm z2) c2⟩,c3.1.at fun o e=>d2.extBut _ _ (Ne.symm z3) e,c4.1.at fun o e=>d2.extBut _ _ (Ne.symm z4) e⟩,fun c hc=>?_⟩
  obtain ⟨o,ho,_⟩:∃ o,s.heap.get? c=some o∧True:=by
   simp only [List.mem_cons,List.not_mem_nil,or_false] at hc
   rcases hc with rfl|rfl|rfl|rfl|rfl
   ·exact ⟨_,e1,trivial⟩
   ·exact ⟨_,e2,trivial⟩
   ·exact ⟨_,e3,trivial⟩
   ·obtain ⟨o,_,e,_⟩:=e4.obj;exact ⟨o,e,trivial⟩
   ·obtain ⟨o,_,e,_⟩:=e5.obj;exact ⟨o,e,trivial⟩
  rw [upd_ne (Nat.ne_of_lt (Heap.lt_size ho))]
  exact free c hc
 done:=by
  intro X hP hw hK hc i pins s σ H E I hf st hg
  subst hP hw hK
  obtain ⟨e1,e2,⟨u0,v0,e3⟩,e4,e5⟩:=st
  obtain ⟨ha,hb,l⟩:=hg
  obtain ⟨as,ra,sa⟩:=I.sq ha
  obtain ⟨bs,rb,sb⟩:=I.sq hb
  have free:∀ c∈[z,TI,TO,p,q],H c=none:=fun c h=>(hf c h).1
  have naz:∀ c∈[z,TI,TO,p,q],a ≠ c:=fun c h=>ha.ne (free c h)
  have nbz:∀ c∈[z,TI,TO,p,q],b ≠ c:=fun c h=>hb.ne (free c h)
  simp only [List.nodup_cons,List.mem_cons,List.not_mem_nil,or_false,not_or,not_false_eq_true,and_true,List.nodup_nil] at nd
  obtain ⟨⟨z1,z2,z3,z4⟩,⟨t1,t2,t3⟩,⟨w1,w2⟩,y1⟩:=nd
  have S:=src_sq (prog:=X.prog) (w:=X.w) ka p a (naz p (by simp)) as.toArray
  have T:=src_sq (prog:=X.prog) (w:=X.w) kb q b (nbz q (by simp)) bs.toArray
  have D:Apart2 z TI TO p q [p,a] [q,b]:=⟨⟨Ne.symm z1,t1,t2,t3⟩,z2,by simp [z3,Ne.symm (naz z (by simp))],by simp [z4,Ne.symm (nbz z (by simp))],by simp [w1,Ne.symm (naz TO (by simp))],by simp [w2,Ne.symm (nbz TO (by simp))],by simp [y1,Ne.symm (nbz p (by simp))],by simp [Ne.symm y1,Ne.symm (naz q (by simp))]⟩
  have la:=ra.length
  have lb:=rb.length
  refine zip2_next_end (I.ok.hd hc) S T D e1 e2 e3 ⟨e4,sa⟩ ⟨e5,sb⟩ (l.imp (fun h=>by simp;omega) fun h=>by simp;omega) fun h1 kp=>⟨rfl,I.turnL (t':=s.toks) (ch:=[z,TO,p,q]) (fun c hc=>hf c (by simp only [List.mem_cons,List.not_mem_nil,or_false] at hc ⊢;rcases hc with h|h|h|h<;>simp [h])) kp⟩
 self:=fun _ _ _ _ _ st h=>wpAny_pyIter_zip st.1 h
def kZ2 (ka:Bool) (a b:Addr) (xs:List V) (H:Hp) (R:It->Hp->Prop):HO->Prop:=fun o=>match o with
 | .lst ys=>R (Itz ka false a b xs ys) H
 | .tup ys=>R (Itz ka true a b xs ys) H
 | _=>False
theorem m_kZ2_l (ka:Bool) (a b:Addr) (xs ys:List V) (H:Hp) (R:It->Hp->Prop):kZ2 ka a b xs H R (.lst ys)=R (Itz ka false a b xs ys) H:=rfl
def kZ1 (a b:Addr) (H:Hp) (R:It->Hp->Prop):HO->Prop:=fun o=>match o with
 | .lst xs=>optK (H b) (kZ2 false a b xs H R)
 | .tup xs=>optK (H b) (kZ2 true a b xs H R)
 | _=>False
theorem m_kZ1_l (a b:Addr) (xs:List V) (H:Hp) (R:It->Hp->Prop):kZ1 a b H R (.lst xs)=optK (H b) (kZ2 false a b xs H R):=rfl
def kZ0 (R:It->Hp->Prop):List V->Hp->Prop:=fun vs H=>match vs with
 | [.ref a,.ref b]=>optK (H a) (kZ1 a b H R)
 | _=>False
theorem m_kZ0 (R:It->Hp->Prop) (a b:Addr) (H:Hp):kZ0 R [.ref a,.ref b] H=optK (H a) (kZ1 a b H R):=rfl
def iZip (ta:TA):TI:=fun σ H R=>ta σ H (kZ0 R)
theorem m_iZip (ta:TA) (σ:St) (H:Hp) (R:It->Hp->Prop):iZip ta σ H R=ta σ H (kZ0 R):=rfl
theorem kZ0_ex {R:It->Hp->Prop}{vs:List V}{H:Hp}(h:kZ0 R vs H):∃ a b ka kb xs ys,vs=[.ref a,.ref b]∧SqK ka H a xs∧SqK kb H b ys∧R (Itz ka kb a b xs ys) H:=by
 unfold kZ0 at h
 split at h
 ·rename_i a b
  obtain ⟨o,e,h⟩:=optK_ex h
  unfold kZ1 at h
  split at h
  ·rename_i xs
   obtain ⟨o',e',h⟩:=optK_ex h
   unfold kZ2 at h
   split at h
   ·exact ⟨a,b,false,false,xs,_,rfl,e,e',h⟩
   ·exact ⟨a,b,false,true,xs,_,rfl,e,e',h⟩
   ·exact h.elim
  ·rename_i xs
   obtain ⟨o',e',h⟩:=optK_ex h
   unfold kZ2 at h
   split at h
   ·exact ⟨a,b,true,false,xs,_,rfl,e,e',h⟩
   ·exact ⟨a,b,true,true,xs,_,rfl,e,e',h⟩
   ·exact h.elim
  ·exact h.elim
 ·exact h.elim
section
variable {X:Cx}
theorem pi_zip {a b:Expr}{elts:List Expr} {x1}{tp:Pos}{ta:TA}{p pos:Pos}(hg:Gl X "zip") (hm:X.mg "zip"=none) (ha:PA X [a,b] ta) (hs:starEach [a,b] X.env=[(false,eval a X.env),(false,eval b X.env)]:=by rfl) (hs2:starEach [b] X.env=[(false,eval b X.env)]:=by rfl) :
  PI X (.Tuple elts x1 tp) (.Call (.Name "zip" p) [a,b] [] pos) (iZip ta):=by
 intro pins s σ H R I h
 refine Call_ (ld_blt I hg hm (show bootBuiltins "zip"=some (.type "zip") by decide +kernel) (PyProof.Rows.callWith_type1 (thn (ha pos pins s σ H _ I h) fun us s1 ⟨vs,H1,I1,r1,q1⟩=>?_) (by rw [hs,hs2]) (by rw [hs2];rfl)))
 obtain ⟨a,b,ka,kb,xs,ys,rfl,sa,sb,q⟩:=kZ0_ex q1
 cases r1 with
 | cons r rr=>
  cases rr with
  | cons r' rr=>
   cases rr
   cases r
   cases r'
   obtain ⟨as,ra,s1a⟩:=I1.sq sa
   obtain ⟨bs,rb,s1b⟩:=I1.sq sb
   refine call_zq s1a s1b fun h' n hn e1 e2 e3 e4 e5 e6 e7=>?_
   have I2:Inv X pins σ H1 { s1 with heap:=h' }:=I1.kept (t':=s1.toks) e7
   refine wpAny_pyIter_zip (s:={ s1 with heap:=h' }) e1 ⟨n+4,[n+4,n+2,n+3,n,n+1],_,_,H1,rfl,I2,turn_zip ka kb a b (n+4) (n+2) (n+3) n (n+1) xs ys (by simp),⟨e1,e2,⟨_,_,e3⟩,e4,e5⟩,fun c hc=>?_,q⟩
   have hle:s1.heap.objs.size≤c:=by
    rw [←hn]
    simp only [List.mem_cons,List.not_mem_nil,or_false] at hc
    rcases hc with rfl|rfl|rfl|rfl|rfl
    ·exact Nat.le_add_right ..
    ·exact Nat.le_add_right ..
    ·exact Nat.le_add_right ..
    ·exact Nat.le_refl _
    ·exact Nat.le_add_right ..
   exact I1.fpOk hle (I1.hok.fresh hle)
end
end L2
set_option Elab.async false
set_option linter.all false
set_option maxRecDepth 100000
set_option maxHeartbeats 4000000
namespace L2
open PySem PySem.Spec PyProof.Rows
def kCm2 (te:TE) (σ2:St) (N1:VK) (N0:Hp->Prop):Bool->Hp->Prop:=fun b H=>if b=true then te σ2 H N1 else N0 H
theorem m_kCm2 (te:TE) (σ2:St) (N1:VK) (N0:Hp->Prop) (b:Bool) (H:Hp):kCm2 te σ2 N1 N0 b H=(if b=true then te σ2 H N1 else N0 H):=rfl
def kCm (k:Nat) (tt:TT) (te:TE) (σ:St) (N1:VK) (N0:Hp->Prop):St->Hp->Prop:=fun σ2 H=>(∃ vs:St,vs.length=k∧σ2=vs++σ)∧tt σ2 H (kCm2 te σ2 N1 N0)
theorem m_kCm_1 (tt:TT) (te:TE) (σ:St) (N1:VK) (N0:Hp->Prop) (a:Option V) (H:Hp):kCm 1 tt te σ N1 N0 (a::σ) H=tt (a::σ) H (kCm2 te (a::σ) N1 N0):=propext ⟨fun h=>h.2,fun h=>⟨⟨[a],rfl,rfl⟩,h⟩⟩
theorem m_kCm_2 (tt:TT) (te:TE) (σ:St) (N1:VK) (N0:Hp->Prop) (a b:Option V) (H:Hp):kCm 2 tt te σ N1 N0 (a::b::σ) H=tt (a::b::σ) H (kCm2 te (a::b::σ) N1 N0):=propext ⟨fun h=>h.2,fun h=>⟨⟨[a,b],rfl,rfl⟩,h⟩⟩
theorem m_rep_1 (σ:St):List.replicate 1 (none:Option V)++σ=none::σ:=rfl
theorem m_rep_2 (σ:St):List.replicate 2 (none:Option V)++σ=none::none::σ:=rfl
def Al {α:Type}(R:α->V->Prop) (zs:List α) (ys:List V):Prop:=ys.length=zs.length∧∀ (i:Nat) z y,zs[i]? = some z->ys[i]? = some y->R z y
theorem Al.nil {α:Type}{R:α->V->Prop}:Al R [] []:=⟨rfl,fun i z y h=>by simp at h⟩
theorem Al.snoc {α:Type}{R:α->V->Prop}{zs:List α}{ys:List V}{z:α}{y:V}(h:Al R zs ys) (r:R z y):Al R (zs++[z]) (ys++[y]):=by
 refine ⟨by simp [h.1],fun i z' y' h1 h2=>?_⟩
 by_cases hi:i < zs.length
 ·rw [List.getElem?_append_left hi] at h1
  rw [List.getElem?_append_left (by rw [h.1];exact hi)] at h2
  exact h.2 i z' y' h1 h2
 ·rw [List.getElem?_append_right (by omega)] at h1
  rw [List.getElem?_append_right (by rw [h.1];omega),h.1] at h2
  by_cases h0:i - zs.length=0
  ·rw [h0] at h1 h2;simp at h1 h2;subst h1;subst h2;exact r
  ·rw [List.getElem?_eq_none (by simp;omega)] at h1;cases h1
theorem Al.imp {α:Type}{R S:α->V->Prop}{zs:List α}{ys:List V}(h:Al R zs ys) (f:∀ z y,R z y->S z y):Al S zs ys:=⟨h.1,fun i z y a b=>f z y (h.2 i z y a b)⟩
theorem Al.map {α:Type}{f:α->V}{zs:List α}{ys:List V}(h:Al (fun z y=>y=f z) zs ys):ys=zs.map f:=by
 apply List.ext_getElem?
 intro i
 rw [List.getElem?_map]
 by_cases hi:i < zs.length
 ·have e1:zs[i]? = some zs[i]:=List.getElem?_eq_getElem hi
  have e2:ys[i]? = some (ys[i]'(by rw [h.1];exact hi)):=List.getElem?_eq_getElem _
  rw [e1,e2,h.2 i _ _ e1 e2];rfl
 ·have:=h.1;rw [List.getElem?_eq_none (show ys.length≤i by omega),List.getElem?_eq_none (show zs.length≤i by omega)];rfl
section
variable {k:Nat}{g:TG}{tt:TT}{te:TE}{σ:St}{Q:VK}{H:Hp}{K:PySem.W.Frag}
theorem comp_rel {α:Type}{J:It}(zs:List α) (c:α->Bool) (P:α->V->Hp->Prop) (R:Addr->α->V->Hp->Prop)
  (hgo:∀ i z H',zs[i]? = some z->Ext H H'->J.go i H'∧∀ x H'',J.yld i H' x H''->Ext H' H''∧P z x H'')
  (hst:∀ H',Ext H H'->J.stop zs.length H')
  (hR1:∀ D z y H1 H2,R D z y H1->Ext H1 H2->R D z y H2) (hR2:∀ D z y H1 o,R D z y H1->R D z y (upd H1 D o))
  (hl:zs.length≤sizeLine)
  (hs:∀ D z x H' N1 N0,z∈zs->H D=none->Ext H H'->(∃ ys,H' D=some (.lst ys))->P z x H'->(c z=true->∀ y H'',Ext H' H''->R D z y H''->N1 y H'')->(c z=false->∀ H'',Ext H' H''->N0 H'')->g x (List.replicate k none++σ) H' (kCm k tt te σ N1 N0))
  (hd:∀ D ys H',H D=none->Ext H H'->H' D=some (.lst ys)->Al (fun z y=>R D z y H') (zs.filter c) ys->Q (.ref D) H'):kComp k g tt te σ Q J H:=by
 intro D hD
 refine ⟨fun i m ys H'=>m=zs.length - i∧i≤zs.length∧Ext H H'∧H' D=some (.lst ys)∧Al (fun z y=>R D z y H') ((zs.take i).filter c) ys,⟨zs.length,by simp,Nat.zero_le _,Ext.new hD,upd_same,by simpa using Al.nil⟩,?_⟩
 rintro i m ys H' ⟨rfl,hi,e,hD',al⟩
 by_cases hlt:i < zs.length
 ·have hz:zs[i]? = some zs[i]:=List.getElem?_eq_getElem hlt
  obtain ⟨go,y⟩:=hgo i zs[i] H' hz e
  have tk:zs.take (i+1)=zs.take i++[zs[i]]:=by rw [List.take_succ,hz];rfl
  have ln:ys.length < sizeLine:=by
   have h1:=al.1
   have h2:=List.length_filter_le c (zs.take i)
   simp only [List.length_take] at h2
   omega
  refine .inr ⟨go,fun ys' H2=>Ext H H2∧H2 D=some (.lst ys')∧Al (fun z y=>R D z y H2) ((zs.take (i+1)).filter c) ys',fun ys' H2 p=>⟨zs.length - (i+1),by omega,rfl,hlt,p⟩,fun x H2 z=>?_⟩
  obtain ⟨e2,p2⟩:=y x H2 z
  refine hs D zs[i] x H2 (kC3 D ys _) _ (List.getElem_mem hlt) hD (e.trans e2) ⟨ys,e2.at hD'⟩ p2 (fun hc y H3 e3 r3=>?_) fun hc H3 e3=>?_
  ·refine ⟨e3.at (e2.at hD'),ln,(e.trans (e2.trans e3)).put hD,upd_same,?_⟩
   rw [tk,List.filter_append,show [zs[i]].filter c=[zs[i]] by simp [hc]]
   exact Al.snoc (al.imp fun z y r=>hR2 _ _ _ _ _ (hR1 _ _ _ _ _ r (e2.trans e3))) (hR2 _ _ _ _ _ r3)
  ·refine ⟨e.trans (e2.trans e3),(e2.trans e3).at hD',?_⟩
   rw [tk,List.filter_append,show [zs[i]].filter c=[] by simp [hc],List.append_nil]
   exact al.imp fun z y r=>hR1 _ _ _ _ _ r (e2.trans e3)
 ·have e':i=zs.length:=by omega
  subst e'
  rw [List.take_length] at al
  exact .inl ⟨hst H' e,hd D ys H' hD e hD' al⟩
theorem comp_fm {α:Type}{J:It}(zs:List α) (c:α->Bool) (f:α->V) (P:α->V->Hp->Prop)
  (hgo:∀ i z H',zs[i]? = some z->Ext H H'->J.go i H'∧∀ x H'',J.yld i H' x H''->Ext H' H''∧P z x H'')
  (hst:∀ H',Ext H H'->J.stop zs.length H') (hl:zs.length≤sizeLine)
  (hs:∀ D z x H' N1 N0,z∈zs->H D=none->Ext H H'->P z x H'->(c z=true->∀ H'',Ext H' H''->N1 (f z) H'')->(c z=false->∀ H'',Ext H' H''->N0 H'')->g x (List.replicate k none++σ) H' (kCm k tt te σ N1 N0))
  (hd:∀ D H',H D=none->Ext H H'->H' D=some (.lst ((zs.filter c).map f))->Q (.ref D) H'):kComp k g tt te σ Q J H:=
 comp_rel zs c P (fun _ z y _=>y=f z) hgo hst (fun _ _ _ _ _ r _=>r) (fun _ _ _ _ _ r=>r) hl (fun D z x H' N1 N0 hz hD e _ p k1 k0=>hs D z x H' N1 N0 hz hD e p (fun hc H'' e'=>k1 hc _ H'' e' rfl) k0) fun D ys H' hD e hD' al=>hd D H' hD e (by rw [←al.map];exact hD')
theorem wk_rng {lo:Int}{n:Nat}:(∀ i z H',(List.range n)[i]? = some z->Ext H H'->(Itr lo n).go i H'∧∀ x H'',(Itr lo n).yld i H' x H''->Ext H' H''∧x=.int (lo+(z:Nat)))∧∀ H',Ext H H'->(Itr lo n).stop (List.range n).length H':=by
 refine ⟨fun i z H' hz _=>?_,fun H' _=>by simp [Itr]⟩
 obtain ⟨h1,h2⟩:=List.getElem?_eq_some_iff.mp hz
 have e:i=z:=by simpa using h2
 subst e
 exact ⟨(show i < n by simpa using h1),fun x H'' y=>⟨by rw [y.1];exact Ext.refl _,y.2⟩⟩
theorem wk_lst {a:Addr}{xs:List V}(h:H a=some (.lst xs)):(∀ i z H',xs[i]? = some z->Ext H H'->(Itl K a).go i H'∧∀ x H'',(Itl K a).yld i H' x H''->Ext H' H''∧(x=z∧H'' a=some (.lst xs)))∧∀ H',Ext H H'->(Itl K a).stop xs.length H':=
 ⟨fun i z H' hz e=>⟨⟨xs,z,SqL.of (e.at h),hz⟩,fun x H'' y=>⟨by rw [y.1];exact Ext.refl _,Option.some.inj ((y.2 xs (SqL.of (e.at h))).symm.trans hz),by rw [y.1];exact e.at h⟩⟩,fun H' e=>⟨xs,SqL.of (e.at h),Nat.le_refl _⟩⟩
theorem for_zip {tb:TS}{nx:St->Hp->Prop}{rt:VK}{bk ct:St->Hp->Prop}{ka kb:Bool}{a b:Addr}{xs ys:List V}(Pv:Nat->St->Hp->Prop) (h0:Pv 0 σ H) (hl:∀ i σ H,Pv i σ H->SqK ka H a xs∧SqK kb H b ys)
  (hs:∀ i u v p σ H H',xs[i]? = some u->ys[i]? = some v->Pv i σ H->H p=none->Ext H H'->H' p=some (.tup [u,v])->g (.ref p) σ H' (kBody tb ⟨Pv (i+1),rt,nx,Pv (i+1)⟩)) (hd:∀ σ H,Pv (min xs.length ys.length) σ H->nx σ H):kFor g tb ⟨nx,rt,bk,ct⟩ σ (Itz ka kb a b xs ys) H:=by
 refine ⟨fun i m σ H=>m=min xs.length ys.length - i∧i≤min xs.length ys.length∧Pv i σ H,⟨min xs.length ys.length,by simp,Nat.zero_le _,h0⟩,?_⟩
 rintro i m σ H ⟨rfl,hi,p⟩
 obtain ⟨qa,qb⟩:=hl i σ H p
 by_cases hlt:i < min xs.length ys.length
 ·refine .inr ⟨⟨qa,qb,by omega,by omega⟩,Pv (i+1),fun σ' H' p'=>⟨min xs.length ys.length - (i+1),by omega,rfl,hlt,p'⟩,fun x H' y=>?_⟩
  obtain ⟨r,u,v,hr,rfl,hu,hv,rfl⟩:=y
  exact hs i u v r σ H _ hu hv p hr (Ext.new hr) upd_same
 ·have e:i=min xs.length ys.length:=by omega
  subst e
  exact .inl ⟨⟨qa,qb,by omega⟩,hd σ H p⟩
end
def compB (sc:Scope) (N:List Str) (scope:Scope) (N':List Str) (k:Nat):Bool:=
 scope.names.all (fun y=>!(y.2 == .cell)) && (scope.kind == .function) && scope.names.all (fun y=>!(y.2 == .local) || scope.names.lookup y.1 == some .local) && scope.names.all (fun y=>!(y.2 == .free) || sc.names.lookup y.1 == some .cell) && decide (N'.length=k+N.length) &&
  ((N'.drop k).zip N).all (fun p=>(!(scope.names.lookup p.1 == some .free) || decide (p.1=p.2)) && !(scope.names.lookup p.1 == some .local))
theorem comp_ok {X:Cx}{scope:Scope}{N':List Str}{k:Nat}(sc:Scope) (N:List Str) (h1:X.env.scope=sc) (h2:X.N=N) (h:compB sc N scope N' k=true):CompOk X scope N' k:=by
 unfold compB at h
 simp only [Bool.and_eq_true,decide_eq_true_eq] at h
 obtain ⟨⟨⟨⟨⟨a1,a2⟩,a3⟩,a4⟩,a5⟩,a6⟩:=h
 rw [List.all_eq_true] at a1 a3 a4 a6
 have pr:∀ i x,N'[k+i]? = some x->∃ y,N[i]? = some y∧(x,y)∈(N'.drop k).zip N:=fun i x hx=>by
  have h0:=(List.getElem?_eq_some_iff.mp hx).1
  have hi:i < N.length:=by omega
  have e1:(N'.drop k)[i]? = some x:=by rw [List.getElem?_drop];exact hx
  have e2:N[i]? = some N[i]:=List.getElem?_eq_getElem hi
  refine ⟨_,e2,List.mem_of_getElem? (i:=i) ?_⟩
  rw [List.getElem?_zip_eq_some]
  exact ⟨e1,e2⟩
 refine ⟨fun y hy e=>?_,by simpa using a2,fun y hy e=>?_,fun y hy e=>?_,by rw [h2];exact a5,fun i x hx hf=>?_,fun i x hx hf=>?_⟩
 ·have:=a1 y hy;rw [e] at this;simp at this
 ·have:=a3 y hy;rw [e] at this;simpa using this
 ·have:=a4 y hy;rw [e] at this;rw [h1];simpa using this
 ·obtain ⟨y,hy,hm⟩:=pr i x hx
  have:=a6 _ hm
  simp only [hf] at this
  rw [h2,hy]
  simp at this
  rw [this]
 ·obtain ⟨y,hy,hm⟩:=pr i x hx
  have:=a6 _ hm
  simp [hf] at this
end L2
set_option Elab.async false
set_option linter.all false
set_option maxRecDepth 100000
set_option maxHeartbeats 4000000
namespace L2
open PySem PySem.Spec PyProof.Rows
def kFldV (H:Hp) (Q:VK):V->Prop:=fun v=>Q v H
theorem m_kFldV (H:Hp) (Q:VK) (v:V):kFldV H Q v=Q v H:=rfl
def kFldO (K:PySem.W.Frag) (f:Str) (H:Hp) (Q:VK):HO->Prop:=fun o=>match o with
 | .ins C dx fs=>Cls K C∧NoAttr K C f∧optK (fs.lookup f) (kFldV H Q)
 | _=>False
theorem m_kFldO (K:PySem.W.Frag) (f:Str) (H:Hp) (Q:VK) (C dx:Addr) (fs:List (Str × V)):kFldO K f H Q (.ins C dx fs)=(Cls K C∧NoAttr K C f∧optK (fs.lookup f) (kFldV H Q)):=rfl
def kFld (K:PySem.W.Frag) (f:Str) (Q:VK):VK:=fun x H=>match x with
 | .ref a=>optK (H a) (kFldO K f H Q)
 | _=>False
theorem m_kFld (K:PySem.W.Frag) (f:Str) (Q:VK) (a:Addr) (H:Hp):kFld K f Q (.ref a) H=optK (H a) (kFldO K f H Q):=rfl
def nFld (K:PySem.W.Frag) (ta:TE) (f:Str):TE:=fun σ H Q=>ta σ H (kFld K f Q)
theorem m_nFld (K:PySem.W.Frag) (ta:TE) (f:Str) (σ:St) (H:Hp) (Q:VK):nFld K ta f σ H Q=ta σ H (kFld K f Q):=rfl
theorem kFld_ex {K:PySem.W.Frag}{f:Str}{Q:VK}{x:V}{H:Hp}(h:kFld K f Q x H):∃ a C dx fs v,x=.ref a∧H a=some (.ins C dx fs)∧Cls K C∧NoAttr K C f∧fs.lookup f=some v∧Q v H:=by
 unfold kFld at h
 split at h
 ·obtain ⟨o,e,h⟩:=optK_ex h
  unfold kFldO at h
  split at h
  ·obtain ⟨c,n,h⟩:=h
   obtain ⟨v,l,q⟩:=optK_ex h
   exact ⟨_,_,_,_,v,rfl,e,c,n,l,q⟩
  ·exact h.elim
 ·exact h.elim
section
variable {X:Cx}{e o value:Expr}{ta tv:TE}{f:Str}{pos pos':Pos}
theorem pe_nFld (he:PE X e ta) (hb:attributeBase e f X.env (eval e X.env)=eval e X.env):PE X (.Attribute e f pos) (nFld X.K ta f):=by
 intro pins s σ H Q I h
 refine attr_of hb (thn (he pins s σ H _ I h) fun u s1 ⟨x,H1,I1,rx,q1⟩=>?_)
 obtain ⟨a,C,dx,fs,v,ex,ea,c,n,l,q⟩:=kFld_ex q1
 subst ex
 obtain rfl:u=Value.ref a:=rx
 exact getattr_ok I1 ea c n l fun u' s2 I2 ru=>⟨v,H1,I2,ru,q⟩
def kSetO (K:PySem.W.Frag) (f:Str) (y:V) (a:Addr) (σ:St) (nx:St->Hp->Prop) (H:Hp):HO->Prop:=fun o=>match o with
 | .ins C dx fs=>Cls K C∧NoAttr K C f∧fs.length < 1000∧nx σ (upd H a (.ins C dx (putF f y fs)))
 | _=>False
theorem m_kSetO (K:PySem.W.Frag) (f:Str) (y:V) (a:Addr) (σ:St) (nx:St->Hp->Prop) (H:Hp) (C dx:Addr) (fs:List (Str × V)):kSetO K f y a σ nx H (.ins C dx fs)=(Cls K C∧NoAttr K C f∧fs.length < 1000∧nx σ (upd H a (.ins C dx (putF f y fs)))):=rfl
def kSet1 (K:PySem.W.Frag) (f:Str) (y:V) (σ:St) (nx:St->Hp->Prop):VK:=fun x H=>match x with
 | .ref a=>optK (H a) (kSetO K f y a σ nx H)
 | _=>False
theorem m_kSet1 (K:PySem.W.Frag) (f:Str) (y:V) (σ:St) (nx:St->Hp->Prop) (a:Addr) (H:Hp):kSet1 K f y σ nx (.ref a) H=optK (H a) (kSetO K f y a σ nx H):=rfl
def kSet0 (K:PySem.W.Frag) (f:Str) (ta:TE) (σ:St) (nx:St->Hp->Prop):VK:=fun y H=>ta σ H (kSet1 K f y σ nx)
theorem m_kSet0 (K:PySem.W.Frag) (f:Str) (ta:TE) (σ:St) (nx:St->Hp->Prop) (y:V) (H:Hp):kSet0 K f ta σ nx y H=ta σ H (kSet1 K f y σ nx):=rfl
def nSetF (K:PySem.W.Frag) (ta tv:TE) (f:Str):TS:=fun D σ H=>tv σ H (kSet0 K f ta σ D.nx)
theorem m_nSetF (K:PySem.W.Frag) (ta tv:TE) (f:Str) (nx:St->Hp->Prop) (rt:VK) (bk ct:St->Hp->Prop) (σ:St) (H:Hp):nSetF K ta tv f ⟨nx,rt,bk,ct⟩ σ H=tv σ H (kSet0 K f ta σ nx):=rfl
theorem ps_nSetF (ha:PE X o ta) (hv:PE X value tv) (hs:swapsWith value (some (.Attribute o f pos')) pos.line X.env=pure false):PS X (.Assign [.Attribute o f pos'] value pos) (nSetF X.K ta tv f):=by
 intro pins s σ H D I h
 refine plainObj_wpAny_Assign_Attribute (thn (hv pins s σ H _ I h) fun u s1 ⟨y,H1,I1,ry,q⟩=>thn (ha pins s1 σ H1 _ I1 q) fun ov s2 ⟨x,H2,I2,rx,q1⟩=>?_) hs
 unfold kSet1 at q1
 split at q1
 ·rename_i a
  obtain rfl:ov=Value.ref a:=rx
  obtain ⟨ob,ea,q1⟩:=optK_ex q1
  unfold kSetO at q1
  split at q1
  ·obtain ⟨c,n,l,q2⟩:=q1
   exact setattr_ok I2 ea c n l ry fun s3 I3=>⟨σ,_,I3,q2⟩
  ·exact q1.elim
 ·exact q1.elim
end
def kMethA (sp:Sp) (dvs:List V) (E:XK) (a:Addr) (Q:VK):List V->Hp->Prop:=fun vs H=>sp (.ref a::(vs++dvs)) H Q E
theorem m_kMethA_0 (sp:Sp) (dvs:List V) (E:XK) (a:Addr) (Q:VK) (H:Hp):kMethA sp dvs E a Q [] H=sp (.ref a::dvs) H Q E:=rfl
theorem m_kMethA_1 (sp:Sp) (dvs:List V) (E:XK) (a:Addr) (Q:VK) (x:V) (H:Hp):kMethA sp dvs E a Q [x] H=sp (.ref a::x::dvs) H Q E:=rfl
theorem m_kMethA_2 (sp:Sp) (dvs:List V) (E:XK) (a:Addr) (Q:VK) (x y:V) (H:Hp):kMethA sp dvs E a Q [x,y] H=sp (.ref a::x::y::dvs) H Q E:=rfl
def kMethO (C:Addr) (m:Str) (sp:Sp) (dvs:List V) (E:XK) (t:TA) (σ:St) (Q:VK) (a:Addr) (H:Hp):HO->Prop:=fun o=>match o with
 | .ins C' dx fs=>C'=C∧fs.lookup m=none∧t σ H (kMethA sp dvs E a Q)
 | _=>False
theorem m_kMethO (C:Addr) (m:Str) (sp:Sp) (dvs:List V) (E:XK) (t:TA) (σ:St) (Q:VK) (a:Addr) (H:Hp) (dx:Addr) (fs:List (Str × V)):kMethO C m sp dvs E t σ Q a H (.ins C dx fs)=(fs.lookup m=none∧t σ H (kMethA sp dvs E a Q)):=propext ⟨fun h=>h.2,fun h=>⟨rfl,h⟩⟩
def kMeth (C:Addr) (m:Str) (sp:Sp) (dvs:List V) (E:XK) (t:TA) (σ:St) (Q:VK):VK:=fun x H=>match x with
 | .ref a=>optK (H a) (kMethO C m sp dvs E t σ Q a H)
 | _=>False
theorem m_kMeth (C:Addr) (m:Str) (sp:Sp) (dvs:List V) (E:XK) (t:TA) (σ:St) (Q:VK) (a:Addr) (H:Hp):kMeth C m sp dvs E t σ Q (.ref a) H=optK (H a) (kMethO C m sp dvs E t σ Q a H):=rfl
def nMeth (C:Addr) (m:Str) (sp:Sp) (dvs:List V) (E:XK) (ta:TE) (t:TA):TE:=fun σ H Q=>ta σ H (kMeth C m sp dvs E t σ Q)
theorem m_nMeth (C:Addr) (m:Str) (sp:Sp) (dvs:List V) (E:XK) (ta:TE) (t:TA) (σ:St) (H:Hp) (Q:VK):nMeth C m sp dvs E ta t σ H Q=ta σ H (kMeth C m sp dvs E t σ Q):=rfl
theorem kMeth_ex {C:Addr}{m:Str}{sp:Sp}{dvs:List V}{E:XK}{t:TA}{σ:St}{Q:VK}{x:V}{H:Hp}(h:kMeth C m sp dvs E t σ Q x H):∃ a dx fs,x=.ref a∧H a=some (.ins C dx fs)∧fs.lookup m=none∧t σ H fun vs H2=>sp (x::(vs++dvs)) H2 Q E:=by
 unfold kMeth at h
 split at h
 ·obtain ⟨o,e,h⟩:=optK_ex h
  unfold kMethO at h
  split at h
  ·obtain ⟨rfl,l,h⟩:=h
   exact ⟨_,_,_,rfl,e,l,h⟩
  ·exact h.elim
 ·exact h.elim
section
variable {X:Cx}{CX:CXT}{k:Nat}{f C:Addr}{fd:FuncData}{ps:List Str}{sp:Sp}{dvs:List V}{ds:List Value}{E:XK}{x m:Str}{p pos apos:Pos}{e o:Expr}{es:List Expr}{ta:TE}{t:TA}
theorem pe_nMeth {pl:Sem Bool}(he:PE X o ta) (c:Cls X.K C) (hm:Meth X.K C m f) (F:FnOk X.prog X.w X.K X.mg X.base CX k f fd ps sp) (hr:Room k X.A) (hb:Binds X.K fd ps ds) (hd:Vals dvs ds) (hx:Passes CX X E) (ha:PA X (e::es) t)
  (hst:starEach (e::es) X.env=(false,eval e X.env)::starEach es X.env:=by rfl) (hpl:(backTo pos (starEach es X.env)).any (·.1)=false:=by rfl)
  (ht:eval (.Call (.Attribute o m apos) (e::es) [] pos) X.env=(do
   let ov ←eval o X.env
   standAt apos.atName
   let (f,first) ←holding [ov] (getMethod ov m pl)
   callWith pos f first (backTo pos (starEach (e::es) X.env)) (backToKw pos (keywordEach [] X.env))):=by rfl) :
  PE X (.Call (.Attribute o m apos) (e::es) [] pos) (nMeth C m sp dvs E ta t):=by
 intro pins s σ H Q I h
 refine PySem.W.methodCall_KW (pl:=pl) (thn (he pins s σ H _ I h) fun u s1 ⟨x,H1,I1,rx,q0⟩=>?_) ht
 obtain ⟨a,dx,fs,ex,ea,l,q⟩:=kMeth_ex q0
 subst ex
 obtain rfl:u=Value.ref a:=rx
 refine getmeth_ok I1 ea c hm l ?_
 refine PySem.W.callWith_K (first:=[.ref a]) (h₀:=X.base) I.ok.mod.kin hm.kp (thn (ha pos pins s1 σ H1 _ I1 q) fun us s2 ⟨vs,H2,I2,r,q2⟩=>⟨I2.kIn,?_⟩) hst hpl
 exact run_fn (us:=.ref a::us) (vs:=.ref a::vs) F hr hb hd hx I2 (.cons rfl r) q2
theorem pe_nMeth0 {pl:Sem Bool}(he:PE X o ta) (c:Cls X.K C) (hm:Meth X.K C m f) (F:FnOk X.prog X.w X.K X.mg X.base CX k f fd ps sp) (hr:Room k X.A) (hb:Binds X.K fd ps ds) (hd:Vals dvs ds) (hx:Passes CX X E)
  (ht:eval (.Call (.Attribute o m apos) [] [] pos) X.env=(do
   let ov ←eval o X.env
   standAt apos.atName
   let (f,first) ←holding [ov] (getMethod ov m pl)
   callWith pos f first (backTo pos (starEach [] X.env)) (backToKw pos (keywordEach [] X.env))):=by rfl) :
  PE X (.Call (.Attribute o m apos) [] [] pos) (nMeth C m sp dvs E ta tNil):=by
 intro pins s σ H Q I h
 refine PySem.W.methodCall_KW (pl:=pl) (thn (he pins s σ H _ I h) fun u s1 ⟨x,H1,I1,rx,q0⟩=>?_) ht
 obtain ⟨a,dx,fs,ex,ea,l,q⟩:=kMeth_ex q0
 subst ex
 obtain rfl:u=Value.ref a:=rx
 refine getmeth_ok I1 ea c hm l ?_
 exact PySem.W.callWith_K0 (first:=[.ref a]) I1.kIn hm.kp (run_fn (us:=[.ref a]) (vs:=[.ref a]) F hr hb hd hx I1 (.cons rfl .nil) q)
end
def kMade (x:Addr) (Q:VK):VK:=fun v H=>v=.non∧Q (.ref x) H
theorem m_kMade (x:Addr) (Q:VK) (H:Hp):kMade x Q .non H=Q (.ref x) H:=propext ⟨fun h=>h.2,fun h=>⟨rfl,h⟩⟩
def kMake (C:Addr) (sp:Sp) (dvs:List V) (E:XK) (Q:VK):List V->Hp->Prop:=fun vs H=>∀ (x dx:Addr) (H':Hp),H x=none->H dx=none->dx ≠ x->Ext H H'->H' x=some (.ins C dx [])->H' dx=some (.own x)->sp (.ref x::(vs++dvs)) H' (kMade x Q) E
theorem m_kMake_1 (C:Addr) (sp:Sp) (dvs:List V) (E:XK) (Q:VK) (a:V) (H:Hp):kMake C sp dvs E Q [a] H=∀ (x dx:Addr) (H':Hp),H x=none->H dx=none->dx ≠ x->Ext H H'->H' x=some (.ins C dx [])->H' dx=some (.own x)->sp (.ref x::a::dvs) H' (kMade x Q) E:=rfl
theorem m_kMake_3 (C:Addr) (sp:Sp) (dvs:List V) (E:XK) (Q:VK) (a b c:V) (H:Hp):kMake C sp dvs E Q [a,b,c] H=∀ (x dx:Addr) (H':Hp),H x=none->H dx=none->dx ≠ x->Ext H H'->H' x=some (.ins C dx [])->H' dx=some (.own x)->sp (.ref x::a::b::c::dvs) H' (kMade x Q) E:=rfl
def nMake (C:Addr) (sp:Sp) (dvs:List V) (E:XK) (t:TA):TE:=fun σ H Q=>t σ H (kMake C sp dvs E Q)
theorem m_nMake (C:Addr) (sp:Sp) (dvs:List V) (E:XK) (t:TA) (σ:St) (H:Hp) (Q:VK):nMake C sp dvs E t σ H Q=t σ H (kMake C sp dvs E Q):=rfl
section
variable {X:Cx}{CX:CXT}{k:Nat}{f C:Addr}{fd:FuncData}{ps:List Str}{sp:Sp}{dvs:List V}{ds:List Value}{E:XK}{x m:Str}{p pos apos:Pos}{e o:Expr}{es:List Expr}{ta:TE}{t:TA}
theorem kMake.to {Q:VK}{vs:List V}{H:Hp}(h:kMake C sp dvs E Q vs H):∀ x dx,H x=none->H dx=none->dx ≠ x->sp (.ref x::(vs++dvs)) (upd (upd H dx (.own x)) x (.ins C dx [])) (fun v H2=>v=.non∧Q (.ref x) H2) E:=fun x dx hx hd ne=>
 h x dx _ hx hd ne ((Ext.new hd).put hx) upd_same (by rw [upd_ne ne,upd_same])
theorem pe_nMake (M:Mk X.K C f) (F:FnOk X.prog X.w X.K X.mg X.base CX k f fd ps sp) (hr:Room (k+1) X.A) (hg:Gl X x) (hm:X.mg x=some (.ref C)) (hb:Binds X.K fd ps ds) (hd:Vals dvs ds) (hx:Passes CX X E)
  (ha:PA X (e::es) t) (hdb:(x == ("__debug__":Str))=false:=by decide) (he:starEach (e::es) X.env=(false,eval e X.env)::starEach es X.env:=by rfl) (hpl:(backTo pos (starEach es X.env)).any (·.1)=false:=by rfl) :
  PE X (.Call (.Name x p) (e::es) [] pos) (nMake C sp dvs E t):=by
 intro pins s σ H Q I h
 refine wpAny_Call_Name_kw (ld_glob I hg hm ?_ hdb)
 refine PySem.W.callWith_K (h₀:=X.base) I.ok.mod.kin M.kp (thn (ha pos pins s σ H _ I h) fun us s1 ⟨vs,H1,I1,r,q⟩=>⟨I1.kIn,?_⟩) he hpl
 exact run_make M F hr hb hd hx I1 r q.to
end
end L2
set_option Elab.async false
set_option linter.all false
set_option maxRecDepth 100000
set_option maxHeartbeats 4000000
namespace L2
open PySem PySem.Spec PyProof.Rows
def notStar:Expr->Bool
 | .Starred ..=>false
 | _=>true
theorem star_ok {e:Expr}{es:List Expr}{env:Env}(h:notStar e=true):starEach (e::es) env=(false,eval e env)::starEach es env:=by
 cases e<;>first|rfl|cases h
theorem pa_c {X:Cx}{e:Expr}{es:List Expr}{te:TE}{t:TA}(ha:PE X e te) (hr:PA X es t) (hn:notStar e=true:=by rfl):PA X (e::es) (tCons te t):=pa_cons ha hr (star_ok hn)
theorem m_tXI (K:PySem.W.Frag) (t:TA) (σ:St) (H:Hp) (Q:VK):tXI K t σ H Q=t σ H (kXI K Q):=rfl
theorem m_xSetF (K:PySem.W.Frag) (ta tv:TE) (f:Str) (nx:St->Hp->Prop) (rt:VK) (bk ct:St->Hp->Prop) (σ:St) (H:Hp):xSetF K ta tv f ⟨nx,rt,bk,ct⟩ σ H=tv σ H (kXS0 K f ta σ nx):=rfl
theorem m_kXS0 (K:PySem.W.Frag) (f:Str) (ta:TE) (σ:St) (nx:St->Hp->Prop) (y:V) (H:Hp):kXS0 K f ta σ nx y H=ta σ H (kXS1 K f y σ nx):=rfl
theorem m_tRaiseI (C:Addr) (sp:Sp) (E:St->XK) (t:TA) (D:Ends) (σ:St) (H:Hp):tRaiseI C sp E t D σ H=t σ H (kRI C sp (E σ)):=rfl
theorem m_tXF (K:PySem.W.Frag) (ta:TE) (f:Str) (σ:St) (H:Hp) (Q:VK):tXF K ta f σ H Q=ta σ H (kXF K f Q):=rfl
def spX1 (C:Addr) (f:Str):Sp:=fun vs H Q E=>∃ e x,vs=[.ref e,x]∧H e=some (exH e C none)∧∀ dx H',H dx=none->dx ≠ e->(∀ b o,b ≠ e->H b=some o->H' b=some o)->H' e=some (exH e C (some dx))->H' dx=some (.xd [(f,x)])->Q .non H'
theorem l_spX1 (C:Addr) (f:Str){vs:List V}{H:Hp}{Q:VK}{E:XK}(h:spX1 C f vs H Q E):vs.length=2:=by
 obtain ⟨_,_,rfl,_⟩:=h
 rfl
theorem kRI_x1 {C:Addr}{f:Str}{E:XK}{x:V}{H:Hp}(h:∀ dx H',Ext H H'->H' dx=some (.xd [(f,x)])->E (.ref C) (some dx) H'):kRI C (spX1 C f) E [x] H:=by
 refine ⟨(show 1≤sizeLine by decide),fun e he=>⟨e,x,rfl,upd_same,fun dx H' h1 h2 h3 h4 h5=>⟨rfl,some dx,h4,fun _ z=>by cases z;exact ⟨_,by rw [del_ne h2];exact h5⟩,h dx _ (Same.ext fun b o q=>?_) (by rw [del_ne h2];exact h5)⟩⟩⟩
 have hb:b ≠ e:=ne_of_none q he
 rw [del_ne hb]
 exact h3 b o hb (by rw [upd_ne hb];exact q)
end L2
namespace L2
open PySem PySem.Spec PyProof.Rows
def TupV (H:Hp) (z:List Int) (y:V):Prop:=∃ q,y=.ref q∧H q=some (.tup (z.map V.int))
theorem TupV.ext {H H':Hp}{z:List Int}{y:V}(h:TupV H z y) (e:Ext H H'):TupV H' z y:=by
 obtain ⟨q,rfl,hq⟩:=h
 exact ⟨q,rfl,e.at hq⟩
theorem TupV.upd {H:Hp}{z:List Int}{y:V}{p:Addr}{xs:List V}{o:HO}(h:TupV H z y) (hp:H p=some (.lst xs)):TupV (upd H p o) z y:=by
 obtain ⟨q,rfl,hq⟩:=h
 exact ⟨q,rfl,by rw [upd_ne (fun z=>by rw [z,hp] at hq;cases hq)];exact hq⟩
def TupsAt (H:Hp) (p:Addr) (zs:List (List Int)):Prop:=∃ ys,H p=some (.lst ys)∧Al (TupV H) zs ys
theorem TupsAt.ext {H H':Hp}{p:Addr}{zs:List (List Int)}(h:TupsAt H p zs) (e:Ext H H'):TupsAt H' p zs:=by
 obtain ⟨ys,hp,al⟩:=h
 exact ⟨ys,e.at hp,al.imp fun _ _ r=>r.ext e⟩
theorem len5000 {n:Nat}(h:n≤5000):n≤sizeLine:=Nat.le_trans h (by decide)
theorem lt5000 {n:Nat}(h:n < 5000):n < sizeLine:=Nat.lt_of_lt_of_le h (by decide)
theorem TupsAt.upd {H:Hp}{r p:Addr}{zs:List (List Int)}{xs:List V}{o:HO}(h:TupsAt H r zs) (hp:H p=some (.lst xs)) (ne:r ≠ p):TupsAt (upd H p o) r zs:=by
 obtain ⟨ys,hr,al⟩:=h
 exact ⟨ys,by rw [upd_ne ne];exact hr,al.imp fun _ _ t=>t.upd hp⟩
end L2
set_option Elab.async false
set_option linter.all false
set_option maxRecDepth 100000
set_option maxHeartbeats 4000000
namespace L2
open PySem PySem.Spec PyProof.Rows
theorem wk_al {K:PySem.W.Frag}{H:Hp} {α:Type}{R:α->V->Hp->Prop}(hR:∀ z y H H',R z y H->Ext H H'->R z y H'){l:Addr}{ys:List V}{zs:List α}(h:H l=some (.lst ys)) (al:Al (fun z y=>R z y H) zs ys) :
  (∀ i z H',zs[i]? = some z->Ext H H'->(Itl K l).go i H'∧∀ x H'',(Itl K l).yld i H' x H''->Ext H' H''∧R z x H'')∧∀ H',Ext H H'->(Itl K l).stop zs.length H':=by
 refine ⟨fun i z H' hz e=>?_,fun H' e=>⟨ys,SqL.of (e.at h),by rw [al.1];exact Nat.le_refl _⟩⟩
 have hi:i < ys.length:=by rw [al.1];exact (List.getElem?_eq_some_iff.mp hz).1
 have hy:ys[i]? = some ys[i]:=List.getElem?_eq_getElem hi
 refine ⟨⟨ys,ys[i],SqL.of (e.at h),hy⟩,fun x H'' y=>?_⟩
 have hx:x=ys[i]:=Option.some.inj ((y.2 ys (SqL.of (e.at h))).symm.trans hy)
 refine ⟨by rw [y.1];exact Ext.refl _,?_⟩
 rw [hx,y.1]
 exact hR _ _ _ _ (al.2 i z _ hz hy) e
def axP (a:Int × Int) (x:V) (H:Hp):Prop:=∃ q,x=.ref q∧H q=some (.tup [.int a.1,.int a.2])
theorem axP.ext {a:Int × Int}{x:V}{H H':Hp}(h:axP a x H) (e:Ext H H'):axP a x H':=by
 obtain ⟨q,rfl,hq⟩:=h
 exact ⟨q,rfl,e.at hq⟩
theorem al_axP {H:Hp}{axs:List (Int × Int)}{ys:List V}(al:Al (TupV H) (axs.map fun a=>[a.1,a.2]) ys):Al (fun a y=>axP a y H) axs ys:=by
 refine ⟨by rw [al.1,List.length_map],fun i a y ha hy=>?_⟩
 obtain ⟨q,hq,h⟩:=al.2 i [a.1,a.2] y (by rw [List.getElem?_map,ha];rfl) hy
 exact ⟨q,hq,h⟩
end L2
set_option Elab.async false
set_option linter.all false
set_option maxRecDepth 100000
set_option maxHeartbeats 4000000
namespace L2
open PySem PySem.Spec PyProof.Rows
section
variable {prog:Program}{w:World}{A:Around}{E:Value->Shared->Prop}{s:Shared}
variable {z TI TO i j:Addr}{f g:List Addr}{ti tj:Nat->Heap->Prop}{vi vj:Nat->Option Value}{k m:Nat}{x y:Value}{t:Addr}{fl:Bool}{ot:Obj}
variable {ka kb:Bool}{a b p q:Addr}{as bs:Array Value}{n:Nat}
end
section
variable {X:Cx}{pins:List (Addr × Obj)}{σ:St}{s:Shared}
end
section
variable {X:Cx}
end
end L2
set_option Elab.async false
set_option linter.all false
set_option maxRecDepth 100000
set_option maxHeartbeats 4000000
namespace L2
open PySem PySem.Spec PyProof.Rows
section
variable {X:Cx}
end
def kExt2 (l:Addr) (xs:List V) (H:Hp) (Q:VK):List V->Prop:=fun zs=>xs.length+zs.length≤sizeLine∧Q .non (upd H l (.lst (xs++zs)))
theorem m_kExt2 (l:Addr) (xs:List V) (H:Hp) (Q:VK) (zs:List V):kExt2 l xs H Q zs=(xs.length+zs.length≤sizeLine∧Q .non (upd H l (.lst (xs++zs)))):=rfl
def kExt1 (l b:Addr) (H:Hp) (Q:VK):List V->Prop:=fun xs=>optK (lstAt H b) (kExt2 l xs H Q)
theorem m_kExt1 (l b:Addr) (H:Hp) (Q:VK) (xs:List V):kExt1 l b H Q xs=optK (lstAt H b) (kExt2 l xs H Q):=rfl
theorem m_rExtend (l b:Addr) (H:Hp) (Q:VK):rExtend (.ref l) [.ref b] H Q=optK (lstAt H l) (kExt1 l b H Q):=by
 refine propext ⟨fun h=>?_,fun h=>?_⟩
 ·obtain ⟨l',b',xs,zs,e1,e2,h1,h2,h3,q⟩:=h
  cases e1
  cases e2
  unfold lstAt
  rw [h1]
  show optK (lstAt H b) _
  unfold lstAt
  rw [h2]
  exact ⟨h3,q⟩
 ·obtain ⟨xs,e,h⟩:=optK_ex h
  obtain ⟨zs,e2,h3,q⟩:=optK_ex h
  exact ⟨l,b,xs,zs,rfl,rfl,lst_of e,lst_of e2,h3,q⟩
section
variable {X:Cx}{a b c d:Expr}{ta tb tc td:TE}{pos:Pos}
end
section
variable {k:Nat}{g:TG}{tt:TT}{te:TE}{σ:St}{Q:VK}{H:Hp}{K:PySem.W.Frag}
theorem comp_rel2 {α:Type}{J:It}(zs:List α) (c:α->Bool) (P:α->V->Hp->Prop) (R:Addr->α->V->Hp->Prop)
  (hgo:∀ i z H',zs[i]? = some z->Ext H H'->J.go i H'∧∀ x H'',J.yld i H' x H''->Ext H' H''∧P z x H'')
  (hst:∀ H',Ext H H'->J.stop zs.length H')
  (hR1:∀ D z y H1 H2,R D z y H1->Ext H1 H2->R D z y H2) (hR2:∀ D z y H1 xs o,R D z y H1->H1 D=some (.lst xs)->R D z y (upd H1 D o))
  (hl:zs.length≤sizeLine)
  (hs:∀ D z x H' N1 N0,z∈zs->H D=none->Ext H H'->(∃ ys,H' D=some (.lst ys))->P z x H'->(c z=true->∀ y H'',Ext H' H''->R D z y H''->N1 y H'')->(c z=false->∀ H'',Ext H' H''->N0 H'')->g x (List.replicate k none++σ) H' (kCm k tt te σ N1 N0))
  (hd:∀ D ys H',H D=none->Ext H H'->H' D=some (.lst ys)->Al (fun z y=>R D z y H') (zs.filter c) ys->Q (.ref D) H'):kComp k g tt te σ Q J H:=by
 intro D hD
 refine ⟨fun i m ys H'=>m=zs.length - i∧i≤zs.length∧Ext H H'∧H' D=some (.lst ys)∧Al (fun z y=>R D z y H') ((zs.take i).filter c) ys,⟨zs.length,by simp,Nat.zero_le _,Ext.new hD,upd_same,by simpa using Al.nil⟩,?_⟩
 rintro i m ys H' ⟨rfl,hi,e,hD',al⟩
 by_cases hlt:i < zs.length
 ·have hz:zs[i]? = some zs[i]:=List.getElem?_eq_getElem hlt
  obtain ⟨go,y⟩:=hgo i zs[i] H' hz e
  have tk:zs.take (i+1)=zs.take i++[zs[i]]:=by rw [List.take_succ,hz];rfl
  have ln:ys.length < sizeLine:=by
   have h1:=al.1
   have h2:=List.length_filter_le c (zs.take i)
   simp only [List.length_take] at h2
   omega
  refine .inr ⟨go,fun ys' H2=>Ext H H2∧H2 D=some (.lst ys')∧Al (fun z y=>R D z y H2) ((zs.take (i+1)).filter c) ys',fun ys' H2 p=>⟨zs.length - (i+1),by omega,rfl,hlt,p⟩,fun x H2 z=>?_⟩
  obtain ⟨e2,p2⟩:=y x H2 z
  refine hs D zs[i] x H2 (kC3 D ys _) _ (List.getElem_mem hlt) hD (e.trans e2) ⟨ys,e2.at hD'⟩ p2 (fun hc y H3 e3 r3=>?_) fun hc H3 e3=>?_
  ·refine ⟨e3.at (e2.at hD'),ln,(e.trans (e2.trans e3)).put hD,upd_same,?_⟩
   rw [tk,List.filter_append,show [zs[i]].filter c=[zs[i]] by simp [hc]]
   exact Al.snoc (al.imp fun z y r=>hR2 _ _ _ _ _ _ (hR1 _ _ _ _ _ r (e2.trans e3)) (e3.at (e2.at hD'))) (hR2 _ _ _ _ _ _ r3 (e3.at (e2.at hD')))
  ·refine ⟨e.trans (e2.trans e3),(e2.trans e3).at hD',?_⟩
   rw [tk,List.filter_append,show [zs[i]].filter c=[] by simp [hc],List.append_nil]
   exact al.imp fun z y r=>hR1 _ _ _ _ _ r (e2.trans e3)
 ·have e':i=zs.length:=by omega
  subst e'
  rw [List.take_length] at al
  exact .inl ⟨hst H' e,hd D ys H' hD e hD' al⟩
end
end L2
set_option Elab.async false
set_option linter.all false
set_option maxRecDepth 100000
set_option maxHeartbeats 4000000
namespace L2
open PySem PySem.Spec PyProof.Rows
section
variable {X:Cx}
end
section
variable {g:TG}{σ:St}{Q:VK}{H:Hp}{K:PySem.W.Frag}
end
def nMethX (C:Addr) (m:Str) (sp:Sp) (dvs:List V) (E:St->XK) (ta:TE) (t:TA):TE:=fun σ H Q=>nMeth C m sp dvs (E σ) ta t σ H Q
theorem m_nMethX (C:Addr) (m:Str) (sp:Sp) (dvs:List V) (E:St->XK) (ta:TE) (t:TA) (σ:St) (H:Hp) (Q:VK):nMethX C m sp dvs E ta t σ H Q=ta σ H (kMeth C m sp dvs (E σ) t σ Q):=rfl
section
variable {X:Cx}{CX:CXT}{k:Nat}{f C:Addr}{fd:FuncData}{ps:List Str}{sp:Sp}{dvs:List V}{ds:List Value}{E:St->XK}{x m:Str}{p pos apos:Pos}{e o:Expr}{es:List Expr}{ta:TE}{t:TA}
theorem run_fnX {pins:List (Addr × Obj)}{σ:St}{H:Hp}{s:Shared}{us:List Value}{vs:List V}{Q:VK}(F:FnOk X.prog X.w X.K X.mg X.base CX k f fd ps sp) (hr:Room k X.A) (hb:Binds X.K fd ps ds) (hd:Vals dvs ds) (hx:∀ σ,PassAt CX X (E σ) σ) (I:Inv X pins σ H s) (r:Vals vs us) (q:sp (vs++dvs) H Q (E σ)) :
  wpAny (model X.prog X.w) X.A (call (.ref f) us) (EP X pins σ Q) X.xe s:=by
 have r2:Vals (vs++dvs) (us++ds):=r.append hd
 have hl:(us++ds).length=ps.length:=by rw [←r2.length];exact F.len _ _ _ _ q
 refine wpAny_call (codeAny_mono (F.run X.A X.stack s H ⟨us,[]⟩ (us++ds) (vs++dvs) Q (E σ) hr I.env0 (hb s us I.kIn hl) r2 q) fun rr s' hq=>?_)
 cases rr with
 | error ev=>exact hx σ pins H s ev s' I hq
 | ok fl=>
  cases fl with
  | ret u=>exact I.after hq
  | next=>exact False.elim hq
  | brk=>exact False.elim hq
  | cont=>exact False.elim hq
theorem pe_nMethX {pl:Sem Bool}(he:PE X o ta) (c:Cls X.K C) (hm:Meth X.K C m f) (F:FnOk X.prog X.w X.K X.mg X.base CX k f fd ps sp) (hr:Room k X.A) (hb:Binds X.K fd ps ds) (hd:Vals dvs ds) (hx:∀ σ,PassAt CX X (E σ) σ) (ha:PA X (e::es) t)
  (hst:starEach (e::es) X.env=(false,eval e X.env)::starEach es X.env:=by rfl) (hpl:(backTo pos (starEach es X.env)).any (·.1)=false:=by rfl)
  (ht:eval (.Call (.Attribute o m apos) (e::es) [] pos) X.env=(do
   let ov ←eval o X.env
   standAt apos.atName
   let (f,first) ←holding [ov] (getMethod ov m pl)
   callWith pos f first (backTo pos (starEach (e::es) X.env)) (backToKw pos (keywordEach [] X.env))):=by rfl) :
  PE X (.Call (.Attribute o m apos) (e::es) [] pos) (nMethX C m sp dvs E ta t):=by
 intro pins s σ H Q I h
 refine PySem.W.methodCall_KW (pl:=pl) (thn (he pins s σ H _ I h) fun u s1 ⟨x,H1,I1,rx,q0⟩=>?_) ht
 obtain ⟨a,dx,fs,ex,ea,l,q⟩:=kMeth_ex q0
 subst ex
 obtain rfl:u=Value.ref a:=rx
 refine getmeth_ok I1 ea c hm l ?_
 refine PySem.W.callWith_K (first:=[.ref a]) (h₀:=X.base) I.ok.mod.kin hm.kp (thn (ha pos pins s1 σ H1 _ I1 q) fun us s2 ⟨vs,H2,I2,r,q2⟩=>⟨I2.kIn,?_⟩) hst hpl
 exact run_fnX (us:=.ref a::us) (vs:=.ref a::vs) F hr hb hd hx I2 (.cons rfl r) q2
end
end L2
set_option Elab.async false
set_option linter.all false
set_option maxRecDepth 100000
set_option maxHeartbeats 1000000
namespace L2
open PySem PySem.Spec PyProof.Rows
section
variable {X:Cx}{e st:Expr}{te tst:TE}{pos p2:Pos}
end
end L2
set_option Elab.async false
set_option linter.all false
set_option maxRecDepth 100000
set_option maxHeartbeats 1000000
namespace L2
open PySem PySem.Spec PyProof.Rows
def rngV (n:Int):List V:=(List.range n.toNat).map fun (i:Nat)=>V.int (i:Int)
def kLR (Q:VK):List V->Hp->Prop:=fun vs H=>match vs with
 | [.int n]=>0≤n∧n≤4096∧newK (.lst (rngV n)) H Q
 | _=>False
def tLR (ta:TA):TE:=fun σ H Q=>ta σ H (kLR Q)
theorem m_tLR (ta:TA) (σ:St) (H:Hp) (Q:VK):tLR ta σ H Q=ta σ H (kLR Q):=rfl
theorem range_small {n:Int}(h0:n≤4096) (h1:-5000≤n):Builtin.Range.small 0 n 1=true∧Builtin.Range.rangeSize 0 n 1=((n.toNat:Nat):Int):=by
 have e:Builtin.Range.rangeSize 0 n 1=((n.toNat:Nat):Int):=by
  unfold Builtin.Range.rangeSize
  rw [if_pos (by decide)]
  split
  ·rw [Int.ediv_one];omega
  ·omega
 refine ⟨?_,e⟩
 unfold Builtin.Range.small
 rw [e,if_pos (by decide)]
 unfold Builtin.Range.rangeFitsLong
 simp
 omega
theorem vals_of_get:∀ {xs:List V}{us:List Value},us.length=xs.length->(∀ (i:Nat) (x:V) (u:Value),xs[i]? = some x->us[i]? = some u->RelV x u)->Vals xs us
 | [],[],_,_=>.nil
 | [],_::_,h,_=>by cases h
 | _::_,[],h,_=>by cases h
 | x::xs,u::us,h,k=>.cons (k 0 x u rfl rfl) (vals_of_get (by simpa using h) fun i y w a b=>k (i+1) y w (by simpa using a) (by simpa using b))
section
variable {X:Cx}
theorem pe_listrange {a:Expr}{ta:TA}{p p2 pos pos2:Pos}(hc:X.calm=true) (hg:Gl X "list") (hm:X.mg "list"=none) (hg2:Gl X "range") (hm2:X.mg "range"=none) (ha:PA X [a] ta) (hs:starEach [a] X.env=[(false,eval a X.env)]:=by rfl) (hs3:starEach [Expr.Call (.Name "range" p2) [a] [] pos2] X.env=[(false,eval (Expr.Call (.Name "range" p2) [a] [] pos2) X.env)]:=by rfl) (hs4:starEach ([]:List Expr) X.env=[]:=by rfl) :
  PE X (.Call (.Name "list" p) [.Call (.Name "range" p2) [a] [] pos2] [] pos) (tLR ta):=by
 intro pins s σ H Q I h
 refine wpAny_Call_Name_kw (ld_blt I hg hm (show bootBuiltins "list"=some (.type "list") by decide +kernel) ?_)
 refine PyProof.Rows.callWith_type1 ?_ (by rw [hs3,hs4]) (by rw [hs4];rfl)
 rw [hs3]
 show wpAny _ _ (spliced ((false,eval _ X.env)::[])) _ _ s
 refine Calls.spliced_cons ?_
 refine Call_ (ld_blt I hg2 hm2 boot_range (PyProof.Rows.callWith_type1 (thn (ha pos2 pins s σ H _ I h) fun us s1 ⟨vs,H1,I1,r1,q1⟩=>?_) hs rfl))
 unfold kLR at q1
 split at q1
 ·rename_i n
  obtain ⟨hn0,hn,q⟩:=q1
  cases r1 with
  | cons r rr=>
   cases rr
   obtain ⟨t,rfl⟩:=r
   refine call_range_1 ?_
   refine Calls.spliced_nil ?_
   obtain ⟨k1,k2⟩:=range_small hn (by omega)
   have I2:Inv X pins σ H1 { s1 with heap:=s1.heap.push { cls:=.type "range",data:=.fields #[.int 0 s1.toks,.int n t,.int 1 (s1.toks+1)] },toks:=s1.toks+1+1 }:=I1.kept (t':=s1.toks+1+1) fun b ob e=>Heap.get?_push_of_some _ e
   refine call_list_range (s:={ s1 with heap:=s1.heap.push { cls:=.type "range",data:=.fields #[.int 0 s1.toks,.int n t,.int 1 (s1.toks+1)] },toks:=s1.toks+1+1 }) (n:=n.toNat) (I1.ok.hd hc) (Heap.get?_push_size _ rfl) k1 k2 (by omega) fun h' tk acc c kp hget hit=>?_
   have fr:=I2.hok.fresh (Nat.le_refl _)
   have hv:Vals (rngV n) acc.toList:=by
    refine vals_of_get (by unfold rngV;rw [List.length_map,List.length_range,Array.length_toList,hit.1]) fun i x u hx hu=>?_
    unfold rngV at hx
    rw [List.getElem?_map] at hx
    obtain ⟨j,hj,rfl⟩:=Option.map_eq_some_iff.mp hx
    obtain ⟨hj1,hj2⟩:=List.getElem?_eq_some_iff.mp hj
    have ej:i=j:=by simpa using hj2
    subst ej
    obtain ⟨tk',e⟩:=hit.2 i u (by simpa using hu)
    exact ⟨tk',by rw [e];congr 1;omega⟩
   refine ⟨.ref (s1.heap.push { cls:=.type "range",data:=.fields #[.int 0 s1.toks,.int n t,.int 1 (s1.toks+1)] }).objs.size,_,I2.laid (t':=tk) (o:=.lst (rngV n)) kp (Nat.le_refl _) ⟨?_,acc.toList,c,hv,?_⟩,rfl,q _ _ fr (Ext.new fr) upd_same⟩
   ·unfold rngV;rw [List.length_map,List.length_range];exact len5000 (by omega)
   ·exact hget
 ·exact q1.elim
end
end L2
set_option Elab.async false
set_option linter.all false
set_option maxRecDepth 100000
set_option maxHeartbeats 1000000
namespace L2
open PySem PySem.Spec PyProof.Rows
theorem units1 {n:Nat}(h:n+64 < cLine):n+1 < cLine:=by omega
def kDG1 (Q:VK) (x:V):VK:=fun y H=>∃ a v,x=.ref a∧DGet H a y (some v)∧Q v H
def kDG0 (ty:TE) (σ:St) (Q:VK):VK:=fun x H=>ty σ H (kDG1 Q x)
theorem m_kDG0 (ty:TE) (σ:St) (Q:VK) (x:V) (H:Hp):kDG0 ty σ Q x H=ty σ H (kDG1 Q x):=rfl
theorem m_tDGet (td ty:TE) (σ:St) (H:Hp) (Q:VK):tDGet td ty σ H Q=td σ H (kDG0 ty σ Q):=rfl
theorem use_dg {H:Hp}{a:Addr}{kvs:List (Key × V)}{k:Key}{v:V}{Q:VK}(e:H a=some (.dK kvs)) (h:valV kvs k=some v) (q:Q v H):kDG1 Q (.ref a) (kV k) H:=⟨a,v,rfl,h ▸ DGet.k e,q⟩
section
variable {X:Cx}
end
def kDP2 (nx:St->Hp->Prop) (σ:St) (v x:V):VK:=fun y H=>∃ a H4,x=.ref a∧DPut H a y v H4∧nx σ H4
def kDP1 (ty:TE) (nx:St->Hp->Prop) (σ:St) (v:V):VK:=fun x H=>ty σ H (kDP2 nx σ v x)
theorem m_kDP1 (ty:TE) (nx:St->Hp->Prop) (σ:St) (v x:V) (H:Hp):kDP1 ty nx σ v x H=ty σ H (kDP2 nx σ v x):=rfl
def kDP0 (td ty:TE) (nx:St->Hp->Prop) (σ:St):VK:=fun v H=>td σ H (kDP1 ty nx σ v)
theorem m_kDP0 (td ty:TE) (nx:St->Hp->Prop) (σ:St) (v:V) (H:Hp):kDP0 td ty nx σ v H=td σ H (kDP1 ty nx σ v):=rfl
theorem m_sDPut (td ty tv:TE) (nx:St->Hp->Prop) (rt:VK) (bk ct:St->Hp->Prop) (σ:St) (H:Hp):sDPut td ty tv ⟨nx,rt,bk,ct⟩ σ H=tv σ H (kDP0 td ty nx σ):=rfl
theorem use_dp {H:Hp}{a:Addr}{kvs:List (Key × V)}{k:Key}{v:V}{nx:St->Hp->Prop}{σ:St}(e:H a=some (.dK kvs)) (hl:kvs.length < sizeLine) (q:nx σ (upd H a (.dK (putK kvs k v)))):kDP2 nx σ v (.ref a) (kV k) H:=⟨a,_,rfl,DPut.k e hl,q⟩
end L2
set_option Elab.async false
set_option linter.all false
set_option maxRecDepth 100000
set_option maxHeartbeats 4000000
namespace L2
open PySem PySem.Spec PyProof.Rows
section
variable {X:Cx}
end
end L2
set_option Elab.async false
set_option linter.all false
set_option maxRecDepth 100000
set_option maxHeartbeats 4000000
namespace L2
open PySem PySem.Spec PyProof.Rows
def tV (i:Nat):TE:=fun σ H Q=>match σ[i]? with
 | some (some v)=>Q v H
 | _=>False
theorem tV_eq (i:Nat):tVar i=tV i:=by
 funext σ H Q
 refine propext ⟨fun ⟨v,e,q⟩=>?_,fun h=>?_⟩
 ·unfold tV;rw [e];exact q
 ·unfold tV at h
  split at h
  ·rename_i v e;exact ⟨v,e,h⟩
  ·exact h.elim
theorem m_tV_0 {v:V}{σ:St}{H:Hp}{Q:VK}:tV 0 (some v::σ) H Q=Q v H:=rfl
theorem m_tV_1 {a0:Option V}{v:V}{σ:St}{H:Hp}{Q:VK}:tV 1 (a0::some v::σ) H Q=Q v H:=rfl
theorem m_tV_2 {a0 a1:Option V}{v:V}{σ:St}{H:Hp}{Q:VK}:tV 2 (a0::a1::some v::σ) H Q=Q v H:=rfl
theorem m_tV_3 {a0 a1 a2:Option V}{v:V}{σ:St}{H:Hp}{Q:VK}:tV 3 (a0::a1::a2::some v::σ) H Q=Q v H:=rfl
theorem m_tV_4 {a0 a1 a2 a3:Option V}{v:V}{σ:St}{H:Hp}{Q:VK}:tV 4 (a0::a1::a2::a3::some v::σ) H Q=Q v H:=rfl
theorem m_tV_5 {a0 a1 a2 a3 a4:Option V}{v:V}{σ:St}{H:Hp}{Q:VK}:tV 5 (a0::a1::a2::a3::a4::some v::σ) H Q=Q v H:=rfl
theorem m_tV_6 {a0 a1 a2 a3 a4 a5:Option V}{v:V}{σ:St}{H:Hp}{Q:VK}:tV 6 (a0::a1::a2::a3::a4::a5::some v::σ) H Q=Q v H:=rfl
theorem m_tV_7 {a0 a1 a2 a3 a4 a5 a6:Option V}{v:V}{σ:St}{H:Hp}{Q:VK}:tV 7 (a0::a1::a2::a3::a4::a5::a6::some v::σ) H Q=Q v H:=rfl
theorem m_tV_8 {a0 a1 a2 a3 a4 a5 a6 a7:Option V}{v:V}{σ:St}{H:Hp}{Q:VK}:tV 8 (a0::a1::a2::a3::a4::a5::a6::a7::some v::σ) H Q=Q v H:=rfl
theorem m_tV_9 {a0 a1 a2 a3 a4 a5 a6 a7 a8:Option V}{v:V}{σ:St}{H:Hp}{Q:VK}:tV 9 (a0::a1::a2::a3::a4::a5::a6::a7::a8::some v::σ) H Q=Q v H:=rfl
theorem m_tV_10 {a0 a1 a2 a3 a4 a5 a6 a7 a8 a9:Option V}{v:V}{σ:St}{H:Hp}{Q:VK}:tV 10 (a0::a1::a2::a3::a4::a5::a6::a7::a8::a9::some v::σ) H Q=Q v H:=rfl
theorem m_tV_12 {a0 a1 a2 a3 a4 a5 a6 a7 a8 a9 a10 a11:Option V}{v:V}{σ:St}{H:Hp}{Q:VK}:tV 12 (a0::a1::a2::a3::a4::a5::a6::a7::a8::a9::a10::a11::some v::σ) H Q=Q v H:=rfl
theorem m_tV_13 {a0 a1 a2 a3 a4 a5 a6 a7 a8 a9 a10 a11 a12:Option V}{v:V}{σ:St}{H:Hp}{Q:VK}:tV 13 (a0::a1::a2::a3::a4::a5::a6::a7::a8::a9::a10::a11::a12::some v::σ) H Q=Q v H:=rfl
theorem m_tV_14 {a0 a1 a2 a3 a4 a5 a6 a7 a8 a9 a10 a11 a12 a13:Option V}{v:V}{σ:St}{H:Hp}{Q:VK}:tV 14 (a0::a1::a2::a3::a4::a5::a6::a7::a8::a9::a10::a11::a12::a13::some v::σ) H Q=Q v H:=rfl
theorem m_tV_15 {a0 a1 a2 a3 a4 a5 a6 a7 a8 a9 a10 a11 a12 a13 a14:Option V}{v:V}{σ:St}{H:Hp}{Q:VK}:tV 15 (a0::a1::a2::a3::a4::a5::a6::a7::a8::a9::a10::a11::a12::a13::a14::some v::σ) H Q=Q v H:=rfl
theorem m_tV_16 {a0 a1 a2 a3 a4 a5 a6 a7 a8 a9 a10 a11 a12 a13 a14 a15:Option V}{v:V}{σ:St}{H:Hp}{Q:VK}:tV 16 (a0::a1::a2::a3::a4::a5::a6::a7::a8::a9::a10::a11::a12::a13::a14::a15::some v::σ) H Q=Q v H:=rfl
theorem m_tV_17 {a0 a1 a2 a3 a4 a5 a6 a7 a8 a9 a10 a11 a12 a13 a14 a15 a16:Option V}{v:V}{σ:St}{H:Hp}{Q:VK}:tV 17 (a0::a1::a2::a3::a4::a5::a6::a7::a8::a9::a10::a11::a12::a13::a14::a15::a16::some v::σ) H Q=Q v H:=rfl
theorem m_tV_18 {a0 a1 a2 a3 a4 a5 a6 a7 a8 a9 a10 a11 a12 a13 a14 a15 a16 a17:Option V}{v:V}{σ:St}{H:Hp}{Q:VK}:tV 18 (a0::a1::a2::a3::a4::a5::a6::a7::a8::a9::a10::a11::a12::a13::a14::a15::a16::a17::some v::σ) H Q=Q v H:=rfl
theorem m_tV_19 {a0 a1 a2 a3 a4 a5 a6 a7 a8 a9 a10 a11 a12 a13 a14 a15 a16 a17 a18:Option V}{v:V}{σ:St}{H:Hp}{Q:VK}:tV 19 (a0::a1::a2::a3::a4::a5::a6::a7::a8::a9::a10::a11::a12::a13::a14::a15::a16::a17::a18::some v::σ) H Q=Q v H:=rfl
def nI0 (g:Int->Int->V):R2:=fun x y H Q=>match x,y with
 | .int i,.int j=>Q (g i j) H
 | _,_=>False
theorem m_nI0 (g:Int->Int->V) (i j:Int) (H:Hp) (Q:VK):nI0 g (.int i) (.int j) H Q=Q (g i j) H:=rfl
theorem nI0_eq (g:Int->Int->V):rI0 g=nI0 g:=by
 funext x y H Q
 refine propext ⟨fun ⟨i,j,e,e',q⟩=>by subst e e';exact q,fun h=>?_⟩
 unfold nI0 at h
 split at h
 ·exact ⟨_,_,rfl,rfl,h⟩
 ·exact h.elim
def nI (C:Int->Int->Prop) (g:Int->Int->V):R2:=fun x y H Q=>match x,y with
 | .int i,.int j=>C i j∧Q (g i j) H
 | _,_=>False
theorem m_nI (C:Int->Int->Prop) (g:Int->Int->V) (i j:Int) (H:Hp) (Q:VK):nI C g (.int i) (.int j) H Q=(C i j∧Q (g i j) H):=rfl
theorem nI_eq (C:Int->Int->Prop) (g:Int->Int->V):rI C g=nI C g:=by
 funext x y H Q
 refine propext ⟨fun ⟨i,j,e,e',q⟩=>by subst e e';exact q,fun h=>?_⟩
 unfold nI at h
 split at h
 ·exact ⟨_,_,rfl,rfl,h⟩
 ·exact h.elim
def nU (g:Int->V):V->Hp->VK->Prop:=fun x H Q=>match x with
 | .int i=>Q (g i) H
 | _=>False
theorem m_nU (g:Int->V) (i:Int) (H:Hp) (Q:VK):nU g (.int i) H Q=Q (g i) H:=rfl
theorem nU_eq (g:Int->V):rU g=nU g:=by
 funext x H Q
 refine propext ⟨fun ⟨i,e,q⟩=>by subst e;exact q,fun h=>?_⟩
 unfold nU at h
 split at h
 ·exact ⟨_,rfl,h⟩
 ·exact h.elim
def kTestN (Q:Bool->Hp->Prop):VK:=fun x H=>match x with
 | .bl k=>Q k H
 | _=>False
theorem m_kTestN (Q:Bool->Hp->Prop) (k:Bool) (H:Hp):kTestN Q (.bl k) H=Q k H:=rfl
theorem kTest_eq (Q:Bool->Hp->Prop):kTest Q=kTestN Q:=by
 funext x H
 refine propext ⟨fun ⟨k,e,q⟩=>by subst e;exact q,fun h=>?_⟩
 unfold kTestN at h
 split at h
 ·exact ⟨_,rfl,h⟩
 ·exact h.elim
def nTest (t:TE):TT:=fun σ H Q=>t σ H (kTestN Q)
theorem m_nTest (t:TE) (σ:St) (H:Hp) (Q:Bool->Hp->Prop):nTest t σ H Q=t σ H (kTestN Q):=rfl
theorem nTest_eq (t:TE):tTest t=nTest t:=by
 funext σ H Q
 show t σ H (kTest Q)=t σ H (kTestN Q)
 rw [kTest_eq]
theorem nTest_eqB (t:TE):tB t=nTest t:=nTest_eq t
def kAndN (tb:TE) (σ:St) (Q:VK):VK:=fun x H=>match x with
 | .bl c=>if c=true then tb σ H Q else Q (.bl false) H
 | _=>False
theorem m_kAndN (tb:TE) (σ:St) (Q:VK) (c:Bool) (H:Hp):kAndN tb σ Q (.bl c) H=(if c=true then tb σ H Q else Q (.bl false) H):=rfl
def nAndV (ta tb:TE):TE:=fun σ H Q=>ta σ H (kAndN tb σ Q)
theorem m_nAndV (ta tb:TE) (σ:St) (H:Hp) (Q:VK):nAndV ta tb σ H Q=ta σ H (kAndN tb σ Q):=rfl
theorem nAndV_eq (ta tb:TE):tAndV ta tb=nAndV ta tb:=by
 funext σ H Q
 show ta σ H (kAndV tb σ Q)=ta σ H (kAndN tb σ Q)
 congr 1
 funext x H
 refine propext ⟨fun ⟨k,e,q⟩=>by subst e;exact q,fun h=>?_⟩
 unfold kAndN at h
 split at h
 ·exact ⟨_,rfl,h⟩
 ·exact h.elim
def kNotN (Q:VK):VK:=fun x H=>match x with
 | .bl c=>Q (.bl (!c)) H
 | _=>False
theorem m_kNotN (Q:VK) (c:Bool) (H:Hp):kNotN Q (.bl c) H=Q (.bl (!c)) H:=rfl
def nNotV (ta:TE):TE:=fun σ H Q=>ta σ H (kNotN Q)
theorem m_nNotV (ta:TE) (σ:St) (H:Hp) (Q:VK):nNotV ta σ H Q=ta σ H (kNotN Q):=rfl
theorem nNotV_eq (ta:TE):tNotV ta=nNotV ta:=by
 funext σ H Q
 show ta σ H (kNotV Q)=ta σ H (kNotN Q)
 congr 1
 funext x H
 refine propext ⟨fun ⟨k,e,q⟩=>by subst e;exact q,fun h=>?_⟩
 unfold kNotN at h
 split at h
 ·exact ⟨_,rfl,h⟩
 ·exact h.elim
def kChN2 (r':R2) (tc:TE) (σ:St) (y:V) (Q:VK):VK:=fun z H=>match z with
 | .bl k=>if k=true then tc σ H (kCh3 r' y Q) else Q (.bl false) H
 | _=>False
theorem m_kChN2 (r':R2) (tc:TE) (σ:St) (y:V) (Q:VK) (k:Bool) (H:Hp):kChN2 r' tc σ y Q (.bl k) H=(if k=true then tc σ H (kCh3 r' y Q) else Q (.bl false) H):=rfl
theorem kCh2_eq (r':R2) (tc:TE) (σ:St) (y:V) (Q:VK):kCh2 r' tc σ y Q=kChN2 r' tc σ y Q:=by
 funext z H
 refine propext ⟨fun ⟨k,e,q⟩=>by subst e;exact q,fun h=>?_⟩
 unfold kChN2 at h
 split at h
 ·exact ⟨_,rfl,h⟩
 ·exact h.elim
def kChN1 (r r':R2) (tc:TE) (σ:St) (x:V) (Q:VK):VK:=fun y H=>r x y H (kChN2 r' tc σ y Q)
theorem m_kChN1 (r r':R2) (tc:TE) (σ:St) (x y:V) (Q:VK) (H:Hp):kChN1 r r' tc σ x Q y H=r x y H (kChN2 r' tc σ y Q):=rfl
def kChN0 (r r':R2) (tb tc:TE) (σ:St) (Q:VK):VK:=fun x H=>tb σ H (kChN1 r r' tc σ x Q)
theorem m_kChN0 (r r':R2) (tb tc:TE) (σ:St) (Q:VK) (x:V) (H:Hp):kChN0 r r' tb tc σ Q x H=tb σ H (kChN1 r r' tc σ x Q):=rfl
def nChain (r r':R2) (ta tb tc:TE):TE:=fun σ H Q=>ta σ H (kChN0 r r' tb tc σ Q)
theorem m_nChain (r r':R2) (ta tb tc:TE) (σ:St) (H:Hp) (Q:VK):nChain r r' ta tb tc σ H Q=ta σ H (kChN0 r r' tb tc σ Q):=rfl
theorem nChain_eq (r r':R2) (ta tb tc:TE):tChain r r' ta tb tc=nChain r r' ta tb tc:=by
 funext σ H Q
 show ta σ H (kCh0 r r' tb tc σ Q)=ta σ H (kChN0 r r' tb tc σ Q)
 congr 1
 funext x H1
 show tb σ H1 (kCh1 r r' tc σ x Q)=tb σ H1 (kChN1 r r' tc σ x Q)
 congr 1
 funext y H2
 show r x y H2 (kCh2 r' tc σ y Q)=r x y H2 (kChN2 r' tc σ y Q)
 rw [kCh2_eq]
def gNilN:TGs:=fun vs σ H Q=>match vs with
 | []=>Q σ H
 | _=>False
theorem m_gNilN (σ:St) (H:Hp) (Q:St->Hp->Prop):gNilN [] σ H Q=Q σ H:=rfl
theorem gNil_eq:gNil=gNilN:=by
 funext vs σ H Q
 refine propext ⟨fun ⟨e,q⟩=>by subst e;exact q,fun h=>?_⟩
 unfold gNilN at h
 split at h
 ·exact ⟨rfl,h⟩
 ·exact h.elim
def gConsN (t:TG) (u:TGs):TGs:=fun vs σ H Q=>match vs with
 | v::r=>t v σ H (kGs u r Q)
 | _=>False
theorem m_gConsN (t:TG) (u:TGs) (v:V) (r:List V) (σ:St) (H:Hp) (Q:St->Hp->Prop):gConsN t u (v::r) σ H Q=t v σ H (kGs u r Q):=rfl
theorem gCons_eq (t:TG) (u:TGs):gCons t u=gConsN t u:=by
 funext vs σ H Q
 refine propext ⟨fun ⟨v,r,e,q⟩=>by subst e;exact q,fun h=>?_⟩
 unfold gConsN at h
 split at h
 ·exact ⟨_,_,rfl,h⟩
 ·exact h.elim
theorem spx1 {α0:Type}{f:α0->List V}{B:α0->Prop}(inj:∀ a a',f a=f a'->a=a') (a:α0):(∃ a',f a=f a'∧B a')=B a:=propext ⟨fun ⟨a',e,q⟩=>by obtain rfl:=inj _ _ e;exact q,fun q=>⟨a,rfl,q⟩⟩
theorem spl1 {α0:Type}{f:α0->List V}{B:α0->Prop}{vs:List V}{n:Nat}(h:∃ a,vs=f a∧B a) (l:∀ a,(f a).length=n):vs.length=n:=by
 obtain ⟨_,rfl,_⟩:=h
 exact l _
theorem spx2 {α0 α1:Type}{f:α0->α1->List V}{B:α0->α1->Prop}(inj:∀ a b a' b',f a b=f a' b'->a=a'∧b=b') (a:α0) (b:α1):(∃ a' b',f a b=f a' b'∧B a' b')=B a b:=propext ⟨fun ⟨a',b',e,q⟩=>by obtain ⟨rfl,rfl⟩:=inj _ _ _ _ e;exact q,fun q=>⟨a,b,rfl,q⟩⟩
theorem spl2 {α0 α1:Type}{f:α0->α1->List V}{B:α0->α1->Prop}{vs:List V}{n:Nat}(h:∃ a b,vs=f a b∧B a b) (l:∀ a b,(f a b).length=n):vs.length=n:=by
 obtain ⟨_,_,rfl,_⟩:=h
 exact l _ _
theorem spx3 {α0 α1 α2:Type}{f:α0->α1->α2->List V}{B:α0->α1->α2->Prop}(inj:∀ a b c a' b' c',f a b c=f a' b' c'->a=a'∧b=b'∧c=c') (a:α0) (b:α1) (c:α2):(∃ a' b' c',f a b c=f a' b' c'∧B a' b' c')=B a b c:=propext ⟨fun ⟨a',b',c',e,q⟩=>by obtain ⟨rfl,rfl,rfl⟩:=inj _ _ _ _ _ _ e;exact q,fun q=>⟨a,b,c,rfl,q⟩⟩
theorem spl3 {α0 α1 α2:Type}{f:α0->α1->α2->List V}{B:α0->α1->α2->Prop}{vs:List V}{n:Nat}(h:∃ a b c,vs=f a b c∧B a b c) (l:∀ a b c,(f a b c).length=n):vs.length=n:=by
 obtain ⟨_,_,_,rfl,_⟩:=h
 exact l _ _ _
theorem spx4 {α0 α1 α2 α3:Type}{f:α0->α1->α2->α3->List V}{B:α0->α1->α2->α3->Prop}(inj:∀ a b c d a' b' c' d',f a b c d=f a' b' c' d'->a=a'∧b=b'∧c=c'∧d=d') (a:α0) (b:α1) (c:α2) (d:α3):(∃ a' b' c' d',f a b c d=f a' b' c' d'∧B a' b' c' d')=B a b c d:=propext ⟨fun ⟨a',b',c',d',e,q⟩=>by obtain ⟨rfl,rfl,rfl,rfl⟩:=inj _ _ _ _ _ _ _ _ e;exact q,fun q=>⟨a,b,c,d,rfl,q⟩⟩
theorem spl4 {α0 α1 α2 α3:Type}{f:α0->α1->α2->α3->List V}{B:α0->α1->α2->α3->Prop}{vs:List V}{n:Nat}(h:∃ a b c d,vs=f a b c d∧B a b c d) (l:∀ a b c d,(f a b c d).length=n):vs.length=n:=by
 obtain ⟨_,_,_,_,rfl,_⟩:=h
 exact l _ _ _ _
theorem spx5 {α0 α1 α2 α3 α4:Type}{f:α0->α1->α2->α3->α4->List V}{B:α0->α1->α2->α3->α4->Prop}(inj:∀ a b c d i a' b' c' d' i',f a b c d i=f a' b' c' d' i'->a=a'∧b=b'∧c=c'∧d=d'∧i=i') (a:α0) (b:α1) (c:α2) (d:α3) (i:α4):(∃ a' b' c' d' i',f a b c d i=f a' b' c' d' i'∧B a' b' c' d' i')=B a b c d i:=propext ⟨fun ⟨a',b',c',d',i',e,q⟩=>by obtain ⟨rfl,rfl,rfl,rfl,rfl⟩:=inj _ _ _ _ _ _ _ _ _ _ e;exact q,fun q=>⟨a,b,c,d,i,rfl,q⟩⟩
theorem spl5 {α0 α1 α2 α3 α4:Type}{f:α0->α1->α2->α3->α4->List V}{B:α0->α1->α2->α3->α4->Prop}{vs:List V}{n:Nat}(h:∃ a b c d i,vs=f a b c d i∧B a b c d i) (l:∀ a b c d i,(f a b c d i).length=n):vs.length=n:=by
 obtain ⟨_,_,_,_,_,rfl,_⟩:=h
 exact l _ _ _ _ _
theorem len0 {P:List Value->Prop}(h:P []):∀ us:List Value,us.length=0->P us:=fun us e=>by
 cases us with
 | nil=>exact h
 | cons a r=>cases e
theorem len1 {P:List Value->Prop}(h:∀ a,P [a]):∀ us:List Value,us.length=1->P us:=fun us e=>by
 cases us with
 | nil=>cases e
 | cons x r=>exact len0 (P:=fun r=>P (x::r)) (h x) r (Nat.succ.inj e)
theorem len2 {P:List Value->Prop}(h:∀ a b,P [a,b]):∀ us:List Value,us.length=2->P us:=fun us e=>by
 cases us with
 | nil=>cases e
 | cons x r=>exact len1 (P:=fun r=>P (x::r)) (h x) r (Nat.succ.inj e)
theorem len3 {P:List Value->Prop}(h:∀ a b c,P [a,b,c]):∀ us:List Value,us.length=3->P us:=fun us e=>by
 cases us with
 | nil=>cases e
 | cons x r=>exact len2 (P:=fun r=>P (x::r)) (h x) r (Nat.succ.inj e)
theorem len4 {P:List Value->Prop}(h:∀ a b c d,P [a,b,c,d]):∀ us:List Value,us.length=4->P us:=fun us e=>by
 cases us with
 | nil=>cases e
 | cons x r=>exact len3 (P:=fun r=>P (x::r)) (h x) r (Nat.succ.inj e)
theorem len5 {P:List Value->Prop}(h:∀ a b c d i,P [a,b,c,d,i]):∀ us:List Value,us.length=5->P us:=fun us e=>by
 cases us with
 | nil=>cases e
 | cons x r=>exact len4 (P:=fun r=>P (x::r)) (h x) r (Nat.succ.inj e)
section
variable {X:Cx}
theorem pvN (i:Nat){x:Str}{pos:Pos}(hN:X.N[i]? = some x:=by rfl) (hv:Vis X.env.scope x:=by first|exact Or.inl rfl|exact Or.inr (Or.inl rfl)|exact Or.inr (Or.inr rfl)) (hd:(x == ("__debug__":Str))=false:=by decide)
  (hcd:(x == ("__classdict__":Str))=false:=by decide):PE X (.Name x pos) (tV i):=by rw [←tV_eq];exact pv i hN hv hd hcd
theorem on_add:OpR X (binaryOp .Add) (nI0 fun i j=>.int (i+j)):=by rw [←nI0_eq];exact op_add
theorem on_sub:OpR X (binaryOp .Sub) (nI0 fun i j=>.int (i - j)):=by rw [←nI0_eq];exact op_sub
theorem on_lt:OpR X (compareOp .Lt) (nI0 fun i j=>.bl (decide (i < j))):=by rw [←nI0_eq];exact op_lt
theorem on_le:OpR X (compareOp .LtE) (nI0 fun i j=>.bl (decide (i≤j))):=by rw [←nI0_eq];exact op_le
theorem on_gt:OpR X (compareOp .Gt) (nI0 fun i j=>.bl (decide (j < i))):=by rw [←nI0_eq];exact op_gt
theorem on_ge:OpR X (compareOp .GtE) (nI0 fun i j=>.bl (decide (j≤i))):=by rw [←nI0_eq];exact op_ge
theorem on_mul:OpR X (binaryOp .Mult) (nI CMul fun i j=>.int (i * j)):=by rw [←nI_eq];exact op_mul
theorem on_mulB:OpR X (binaryOp .Mult) (nI CMulB fun i j=>.int (i * j)):=by rw [←nI_eq];exact op_mulB
theorem on_mod:OpR X (binaryOp .Mod) (nI (fun _ j=>0 < j) fun i j=>.int (i % j)):=by rw [←nI_eq];exact op_mod
theorem on_pow:OpR X (binaryOp .Pow) (nI CPow fun i j=>.int (i ^ j.toNat)):=by rw [←nI_eq];exact op_pow
theorem un_negN:UnR X (unaryOp .USub) (nU fun i=>.int (-i)):=by rw [←nU_eq];exact un_neg
variable {a b c d e:Expr}{ta tb tc td t:TE}{pos:Pos}
theorem pt_cmpRN {op:CmpOp}{r:R2}(ho:OpR X (compareOp op) r) (ha:PE X a ta) (hb:PE X b tb) (hm:behindInMarks op b=false):PT X (.Compare a [op] [b] pos) (nTest (tOp r ta tb)):=by rw [←nTest_eq];exact pt_cmpR ho ha hb hm
theorem pt_valN (h:PE X e t) (he:∀ whole,isTrue e X.env whole=(do let v ←whole;standAt e.pos;holding [v] (truthy v)):=by intro _;rfl):PT X e (nTest t):=by rw [←nTest_eqB];exact pt_val h he
theorem pe_chainN {op op':CmpOp}{r r':R2}(ho:OpR X (compareOp op) r) (ho':OpR X (compareOp op') r') (ha:PE X a ta) (hb:PE X b tb) (hc:PE X c tc)
  (hm:lastMarks [op,op'] [b,c]=false:=by with_unfolding_all rfl):PE X (.Compare a [op,op'] [b,c] pos) (nChain r r' ta tb tc):=by rw [←nChain_eq];exact pe_chain ho ho' ha hb hc hm
variable {rest:List Expr}
theorem pe_andN (ha:PE X a ta) (hb:PE X (.BoolOp .And (b::rest) pos) tb):PE X (.BoolOp .And (a::b::rest) pos) (nAndV ta tb):=by rw [←nAndV_eq];exact pe_and ha hb
theorem pe_notN (ha:PE X a ta):PE X (.UnaryOp .Not a pos) (nNotV ta):=by rw [←nNotV_eq];exact pe_not ha
theorem pgs_nilN:PGs X [] gNilN:=by rw [←gNil_eq];exact pgs_nil
theorem pgs_consN {e:Expr}{es:List Expr}{t:TG}{u:TGs}(h1:PG X e t) (h2:PGs X es u)
  (hs:(assignEach (e::es) X.env).map (·.2)=assign e X.env::(assignEach es X.env).map (·.2):=by rfl):PGs X (e::es) (gConsN t u):=by rw [←gCons_eq];exact pgs_cons h1 h2 hs
end
theorem if_gen {c:TT}{t u:TS}{nx:St->Hp->Prop}{rt:VK}{bk ct:St->Hp->Prop}{σ:St}{H:Hp}(R:St->Hp->Prop) (h:∀ nx':St->Hp->Prop,(∀ σ' H',R σ' H'->nx' σ' H')->tIfS c t u ⟨nx',rt,bk,ct⟩ σ H) (k:∀ σ' H',R σ' H'->nx σ' H'):tIfS c t u ⟨nx,rt,bk,ct⟩ σ H:=h nx k
theorem pe_nFld' {X:Cx}{e:Expr}{f:Str}{pos:Pos}{ta:TE}{K:PySem.W.Frag}(hK:X.K=K) (he:PE X e ta) (hb:attributeBase e f X.env (eval e X.env)=eval e X.env):PE X (.Attribute e f pos) (nFld K ta f):=by subst hK;exact pe_nFld he hb
end L2
set_option Elab.async false
set_option linter.all false
set_option maxRecDepth 100000
set_option maxHeartbeats 4000000
namespace L2
open PySem PySem.Spec PyProof.Rows
end L2
set_option Elab.async false
set_option linter.all false
set_option maxRecDepth 100000
set_option maxHeartbeats 4000000
namespace L2
open PySem PySem.Spec PyProof.Rows
section
variable {X:Cx}
end
end L2
set_option Elab.async false
set_option linter.all false
set_option maxRecDepth 100000
set_option maxHeartbeats 4000000
namespace L2
open PySem PySem.Spec PyProof.Rows
section
variable {prog:Program}{w:World}{A:Around}{E:Value->Shared->Prop}{s:Shared}
end
section
variable {X:Cx}
end
end L2
set_option Elab.async false
set_option linter.all false
set_option maxRecDepth 100000
set_option maxHeartbeats 4000000
namespace L2
open PySem PySem.Spec PyProof.Rows
end L2
set_option Elab.async false
set_option linter.all false
set_option maxRecDepth 100000
set_option maxHeartbeats 4000000
namespace L2
open PySem PySem.Spec PyProof.Rows
section
variable {k:Nat}{g:TG}{tt:TT}{te:TE}{σ:St}{Q:VK}{H:Hp}
end
end L2
set_option Elab.async false
set_option linter.all false
set_option maxRecDepth 100000
set_option maxHeartbeats 4000000
namespace L2
open PySem PySem.Spec PyProof.Rows
structure IsC (K:PySem.W.Frag) (C:Addr):Prop where
 cl:Cls K C
 fc:PySem.W.findIn K (.ref C) "__class__"=some (some (.builtin "object.__class__"))
 ocs:PySem.W.specialIn K (.builtin "object.__class__") "__get__"=some (some (.builtin "getset_descriptor.__get__"))
 oct:PySem.W.takesIn K (.builtin "object.__class__")=some true
 mo:PySem.W.mroIn K C (.type "object")=some true
end L2
set_option Elab.async false
set_option linter.all false
set_option maxRecDepth 100000
set_option maxHeartbeats 4000000
namespace L2
open PySem PySem.Spec PyProof.Rows
section
variable {X:Cx}
end
end L2
set_option Elab.async false
set_option linter.all false
set_option maxRecDepth 100000
set_option maxHeartbeats 4000000
namespace L2
open PySem PySem.Spec PyProof.Rows PySem.W
section
variable {prog:Program}{w:World}{A:Around}{E:Value->Shared->Prop}{K:Frag}{x C dx:Addr}{s:Shared}{name:Str}{v:Value}
end
section
variable {X:Cx}{e o value:Expr}{ta tv:TE}{f:Str}{pos pos':Pos}
end
end L2
set_option Elab.async false
set_option linter.all false
set_option maxRecDepth 100000
set_option maxHeartbeats 4000000
namespace L2
open PySem PySem.Spec PyProof.Rows
open Sem (wp)
open AutoSeq1 (wpAny_loadPart')
section
variable {X:Cx}
end
end L2
set_option Elab.async false
set_option linter.all false
set_option maxRecDepth 100000
set_option maxHeartbeats 4000000
namespace L2
open PySem PySem.Spec PyProof.Rows
end L2
set_option Elab.async false
set_option linter.all false
set_option maxRecDepth 100000
set_option maxHeartbeats 4000000
namespace L2
open PySem PySem.Spec PyProof.Rows
def NoCtx (o:Obj):Prop:=∃ vs,o.data=.fields vs∧vs[2]? = some .none
section
variable {prog:Program}{w:World}{A:Around}{E:Value->Shared->Prop}{s:Shared}
end
def Hand (X:Cx):Prop:=∃ (e:Addr) (oe:Obj) (u:HO),X.A.handled=some (.ref e)∧X.H₀ e=some (.frz oe u)∧NoCtx oe
structure TurnH (P:Program) (w:World) (K:PySem.W.Frag) (tg:Expr) (J:It) (fp:List Addr) (it:Addr) (tn:Nat->Heap->Prop):Prop where
 mem:it∈fp
 obj:∀ i h,tn i h->∀ b∈fp,∃ o,h.get? b=some o∧∀ v,o.data ≠ .cell v
 keep:∀ i h h',tn i h->(∀ b∈fp,∀ o,h.get? b=some o->h'.get? b=some o)->tn i h'
 item:∀ (X:Cx),X.prog=P->X.w=w->X.K=K->Hand X->∀ (i:Nat) (pins:List (Addr × Obj)) (s:Shared) (σ:St) (H:Hp) (E:Value->Shared->Prop),Inv X pins σ H s->(∀ b∈fp,FpOk X pins H b)->tn i s.heap->J.go i H →
  wpAny (model P w) X.A (pyNext (.ref it)) (fun r s1=>∃ u,r=some u ∧
   wpAny (model P w) X.A (letOwnedTupleGo tg (.ref it) u) (fun _ s2=>∃ x H',Inv X pins σ H' s2∧RelV x u∧J.yld i H x H'∧tn (i+1) s2.heap∧∀ b∈fp,H' b=none) E s1) E s
 done:∀ (X:Cx),X.prog=P->X.w=w->X.K=K->Hand X->∀ (i:Nat) (pins:List (Addr × Obj)) (s:Shared) (σ:St) (H:Hp) (E:Value->Shared->Prop),Inv X pins σ H s->(∀ b∈fp,FpOk X pins H b)->tn i s.heap->J.stop i H →
  wpAny (model P w) X.A (pyNext (.ref it)) (fun r s1=>r=none∧Inv X pins σ H s1) E s
section
variable {X:Cx}{tg:Expr}
end
structure RoomH (k:Nat) (e:Addr) (A:Around):Prop where
 hd:A.handled=some (.ref e)
 dp:A.depth+3 * k+5 < recursionLimit
 un:A.units+16 * k+200 < cLine
theorem RoomH.deeper {k:Nat}{e:Addr}{A:Around}(r:RoomH (k+1) e A) (env:Env):RoomH k e (A.deeper env):=
 ⟨r.hd,by have:=r.dp;show A.depth+1+3 * k+5 < _;omega,by have:=r.un;show A.units+3+16 * k+200 < _;omega⟩
theorem RoomH.depth {k:Nat}{e:Addr}{A:Around}(r:RoomH k e A):A.depth < recursionLimit:=by have:=r.dp;omega
theorem RoomH.units {k:Nat}{e:Addr}{A:Around}(r:RoomH k e A):A.units+64 < cLine:=by have:=r.un;omega
theorem Room.hand {k:Nat}{A:Around}(r:Room k A) (e:Addr):RoomH k e (A.mark (some (.ref e))):=⟨rfl,r.dp,r.un⟩
structure FnOkH (P:Program) (w:World) (K:PySem.W.Frag) (mg:Str->Option Value) (base:Heap) (CX:CXT) (k:Nat) (f:Addr) (fd:FuncData) (ps:List Str) (sp:Sp):Prop where
 len:∀ vs H Q E,sp vs H Q E->vs.length=ps.length
 run:∀ (A:Around) (outer:List Env) (s:Shared) (H:Hp) (args:Args) (us:List Value) (vs:List V) (Q:VK) (E:XK) (e:Addr) (oe:Obj) (u:HO),RoomH k e A->H e=some (.frz oe u)->NoCtx oe->Env0 P w K mg base A outer s H->BindsTo s fd args (ps.zip us)->Vals vs us->sp vs H Q E →
  codeAny (model P w) A (.call (.ref f) args) (CR CX outer P w H s Q E) s
abbrev Cx.uncalm (X:Cx):Cx:={ X with calm:=false }
theorem fn_ofH {CX:CXT}{P:Program}{w:World}{K:PySem.W.Frag}{mg:Str->Option Value}{base:Heap}{k:Nat}{f:Addr}{name qual:Str}{params:Arguments}{body:List Stmt}{scope:Scope}{dV kV doc pm cdv ct oc:Value}{an od:Option Addr}
  {osl:Array (Option Value)} {N ps:List Str} {sp:Sp} (lk:K.lookup f=some ⟨oc,od,.func (PySem.W.fnOf name qual params body scope dV kV doc pm an cdv ct),osl⟩) (hcd:PySem.W.codeIn K cdv qual=true) (S:FnScope N ps scope)
  (len:∀ vs H Q E,sp vs H Q E->vs.length=ps.length)
  (hbody:∀ (A:Around) (outer:List Env) (s:Shared) (H:Hp) (vs:List V) (Q:VK) (E:XK) (e:Addr),RoomH k e (A.deeper (envOfC qual scope s.heap.objs.size f cdv))->Hand (cxOf CX P w K mg base N qual scope f cdv A outer s H E).uncalm->sp vs H Q E →
   ∃ t,PSs (cxOf CX P w K mg base N qual scope f cdv A outer s H E).uncalm body t∧t { nx:=fun _ H'=>Q .non H',rt:=Q } (start N vs) H) :
  FnOkH P w K mg base CX (k+1) f (PySem.W.fnOf name qual params body scope dV kV doc pm an cdv ct) ps sp:=by
 refine ⟨len,fun A outer s H args us vs Q E e oe ue hr hHe hnc e0 hb r hsp=>?_⟩
 have hl:=len _ _ _ _ hsp
 have KX:K.In s.heap:=e0.mod.kin.keeps fun b o e=>(e0.bs b o e).1
 have lim:s.heap.NoLimit:=e0.mod.nolimit.keeps fun b o e=>(e0.bs b o e).1
 have hkind:∀ y∈ps.zip us,scope.names.lookup y.1=some .local∨(scope.names.lookup y.1=some .cell∧((cellsFrom (s.heap.objs.size+1) scope.names []).lookup y.1).isSome=true):=fun ⟨n,v⟩ hy=>by
  rcases S.par n (List.of_mem_zip hy).1 with q|q
  ·exact .inl q
  ·exact .inr ⟨q,PySem.W.cellsFrom_some _ _ _ (.inl q)⟩
 refine codeAny_call_function hr.depth (KX _ _ lk) rfl S.co S.gen rfl (PySem.W.codeRec_of KX hcd) (hb _ _ _ _ ?_)
 refine wpAny_newFunctionEnv_cells S.kind hkind fun env he s1 x=>?_
 subst he
 refine ⟨lim.keeps x.toInCall.keep,codeAny_func ?_⟩
 obtain ⟨t,ht,hq⟩:=hbody A outer s H vs Q E e (hr.deeper _) ⟨e,oe,ue,hr.hd,hHe,hnc⟩ hsp
 have e0':Env0 P w K mg base { A with handled:=none } outer s H:=⟨e0.frames,e0.mod,e0.bs,e0.bsz,e0.funs,e0.frf,e0.hok,e0.bare⟩
 have I0:Inv (cxOf CX P w K mg base N qual scope f cdv { A with handled:=none } outer s H E) [] (start N vs) H s1:=inv_start S rfl e0' hl r x
 have I:Inv (cxOf CX P w K mg base N qual scope f cdv A outer s H E).uncalm [] (start N vs) H s1:=
  ⟨⟨I0.ok.mod,I0.ok.kind,I0.ok.glob,I0.ok.blt,I0.ok.above,I0.ok.inj,I0.ok.has,I0.ok.cab,(fun z=>by cases z),I0.ok.frames,I0.ok.stk,I0.ok.exf,I0.ok.bs,I0.ok.bsz,I0.ok.noex,I0.ok.exfs,I0.ok.funs,I0.ok.frf⟩,I0.os,I0.bare,I0.base,I0.loc,I0.cell,I0.free,I0.freeC,I0.pin,I0.hok,I0.len⟩
 refine wpAny_mono (ht [] s1 (start N vs) H _ I hq) (fun fl s' hs=>?_) fun e s' hs=>hs
 have fin:∀ {σ':St} {H':Hp} {v:V} {u:Value},Inv (cxOf CX P w K mg base N qual scope f cdv A outer s H E).uncalm [] σ' H' s'->RelV v u->Q v H'->CE outer P w H s Q u s':=
  fun {σ' H' v u} J rv q=>⟨v,H',J.os,J.bare,J.base,J.hok,rv,q⟩
 cases fl with
 | ret u=>
  obtain ⟨v,σ',H',J,rv,q⟩:=hs
  exact fin J rv q
 | next=>
  obtain ⟨σ',H',J,q⟩:=hs
  exact fin (v:=V.non) (u:=Value.none) J rfl q
 | brk=>
  obtain ⟨_,_,_,q⟩:=hs
  exact False.elim q
 | cont=>
  obtain ⟨_,_,_,q⟩:=hs
  exact False.elim q
theorem Fun.okH {P:Program}{w:World}{K:PySem.W.Frag}{mg:Str->Option Value}{base:Heap}{x qual:Str}{st:Stmt}{f:Addr}{fd:FuncData}{N ps:List Str}{k:Nat}{sp:Sp}(F:Fun K x qual st f fd) (S:FnScope N ps (defScope st)) (len:∀ vs H Q E,sp vs H Q E->vs.length=ps.length)
  (hbody:∀ (cdv:Value) (A:Around) (outer:List Env) (s:Shared) (H:Hp) (vs:List V) (Q:VK) (E:XK) (e:Addr),RoomH k e (A.deeper (envOfC qual (defScope st) s.heap.objs.size f cdv))->Hand (cxOf CX0 P w K mg base N qual (defScope st) f cdv A outer s H E).uncalm.nox->sp vs H Q E →
   ∃ t,PSs (cxOf CX0 P w K mg base N qual (defScope st) f cdv A outer s H E).uncalm.nox (defBody st) t∧t { nx:=fun _ H'=>Q .non H',rt:=Q } (start N vs) H):FnOkH P w K mg base CX0 (k+1) f fd ps sp:=by
 obtain ⟨oc,od,kV,doc,pm,an,cdv,ct,osl,rfl,lk,hcd⟩:=F.ex
 refine fn_ofH lk hcd S len fun A outer s H vs Q E e hr hh hsp=>?_
 obtain ⟨t,h,q⟩:=hbody cdv A outer s H vs Q E e hr hh hsp
 exact ⟨t,h.nox,q⟩
section
variable {X:Cx}
def kCallH (e:Addr) (sp:Sp) (dvs:List V) (E:XK) (Q:VK):List V->Hp->Prop:=fun vs H=>(∃ (oe:Obj) (u:HO),H e=some (.frz oe u)∧NoCtx oe)∧sp (vs++dvs) H Q E
def tCallH (e:Addr) (sp:Sp) (dvs:List V) (E:XK) (t:TA):TE:=fun σ H Q=>t σ H (kCallH e sp dvs E Q)
theorem m_tCallH (e:Addr) (sp:Sp) (dvs:List V) (E:XK) (t:TA) (σ:St) (H:Hp) (Q:VK):tCallH e sp dvs E t σ H Q=t σ H (kCallH e sp dvs E Q):=rfl
theorem use_callH {e:Addr}{sp:Sp}{dvs:List V}{E:XK}{Q:VK}{vs:List V}{H:Hp}{oe:Obj}(h:H e=some (excO oe)) (n:NoCtx oe) (q:sp (vs++dvs) H Q E):kCallH e sp dvs E Q vs H:=⟨⟨oe,_,h,n⟩,q⟩
theorem pe_callH {ee:Addr}{CX:CXT}{k:Nat}{f:Addr}{fd:FuncData}{ps:List Str}{sp:Sp}{ds:List Value}{dvs:List V}{E:XK}{x:Str}{e:Expr}{es:List Expr}{t:TA}{p pos:Pos}
  (F:FnOkH X.prog X.w X.K X.mg X.base CX k f fd ps sp) (hr:Room k X.A) (hg:Gl (X.mark ee) x) (hm:X.mg x=some (.ref f)) (hk:PySem.W.keepIn X.K (.ref f)=true) (hb:Binds X.K fd ps ds) (hd:Vals dvs ds) (hx:Passes CX (X.mark ee) E)
  (ha:PA (X.mark ee) (e::es) t) (hdb:(x == ("__debug__":Str))=false:=by decide) (he:starEach (e::es) (X.mark ee).env=(false,eval e (X.mark ee).env)::starEach es (X.mark ee).env:=by rfl) (hpl:(backTo pos (starEach es (X.mark ee).env)).any (·.1)=false:=by rfl) :
  PE (X.mark ee) (.Call (.Name x p) (e::es) [] pos) (tCallH ee sp dvs E t):=by
 intro pins s σ H Q I h
 refine wpAny_Call_Name_kw (ld_glob (X:=X.mark ee) I hg hm ?_ hdb)
 refine PySem.W.callWith_K (h₀:=X.base) I.ok.mod.kin hk (thn (ha pos pins s σ H _ I h) fun us s1 ⟨vs,H1,I1,r,q0⟩=>⟨I1.kIn,?_⟩) he hpl
 obtain ⟨⟨oe,u,hHe,hnc⟩,q⟩:=q0
 have r2:Vals (vs++dvs) (us++ds):=r.append hd
 have hl:(us++ds).length=ps.length:=by rw [←r2.length];exact F.len _ _ _ _ q
 refine wpAny_call (codeAny_mono (F.run (X.mark ee).A X.stack s1 H1 ⟨us,[]⟩ (us++ds) (vs++dvs) Q E ee oe u (hr.hand ee) hHe hnc I1.env0 (hb s1 us I1.kIn hl) r2 q) fun rr s' hq=>?_)
 cases rr with
 | error ev=>exact hx pins σ H1 s1 ev s' I1 hq
 | ok fl=>
  cases fl with
  | ret u=>exact I1.after hq
  | next=>exact False.elim hq
  | brk=>exact False.elim hq
  | cont=>exact False.elim hq
end
end L2
set_option Elab.async false
set_option linter.all false
set_option maxRecDepth 100000
set_option maxHeartbeats 4000000
namespace L2
open PySem PySem.Spec PyProof.Rows
section
variable {prog:Program}{w:World}{A:Around}{E:Value->Shared->Prop}{s:Shared}
structure Apart3 (z TI TO i j l:Addr) (f g e:List Addr):Prop where
 ti:TI ≠ z∧TI ≠ TO∧TI ≠ i∧TI ≠ j∧TI ≠ l
 zt:z ≠ TO
 zf:z ∉ f
 zg:z ∉ g
 ze:z ∉ e
 tf:TO ∉ f
 tg:TO ∉ g
 te:TO ∉ e
 ig:i ∉ g
 ie:i ∉ e
 jf:j ∉ f
 je:j ∉ e
 lf:l ∉ f
 lg:l ∉ g
variable {z TI TO i j l:Addr}{f g e:List Addr}{ti tj tl:Nat->Heap->Prop}{vi vj vl:Nat->Option Value}{k m n:Nat}{x y u a b c:Value}
end
section
variable {prog:Program}{w:World}{A:Around}{E:Value->Shared->Prop}{s:Shared}
end
section
variable {X:Cx}
end
end L2
set_option Elab.async false
set_option linter.all false
set_option maxRecDepth 100000
set_option maxHeartbeats 4000000
namespace L2
open PySem PySem.Spec PyProof.Rows
end L2
set_option Elab.async false
set_option linter.all false
set_option maxRecDepth 100000
set_option maxHeartbeats 4000000
namespace L2
open PySem PySem.Spec PyProof.Rows
section
variable {X:Cx}
end
end L2
set_option Elab.async false
set_option linter.all false
set_option maxRecDepth 100000
set_option maxHeartbeats 4000000
namespace L2
open PySem PySem.Spec PyProof.Rows
section
variable {prog:Program}{w:World}{A:Around}{R:Result->Shared->Prop}{J:Addr}{fp wr:List Addr}{G:Array GenState->Array GenState->Prop}{n:Nat}{P:Nat->Value->Prop}{St:Nat->Shared->Prop}
end
section
variable {prog:Program}{w:World}{A:Around}{R:Result->Shared->Prop}{J:Addr}{fp wr:List Addr}{G:Array GenState->Array GenState->Prop}{n:Nat}{P:Nat->Value->Prop}{St:Nat->Shared->Prop}
end
end L2
set_option Elab.async false
set_option linter.all false
set_option maxRecDepth 100000
set_option maxHeartbeats 4000000
namespace L2
open PySem PySem.Spec PyProof.Rows
def lookI (kv:List (Int × Int)) (c:Int):Option Int:=(kv.find? fun p=>decide (p.1=c)).map fun p=>p.2
def tabI (kv:List (Int × Int)):List (Key × V):=kv.map fun p=>(Sum.inl p.1,V.int p.2)
theorem lookI_pos {p:Int × Int}{r:List (Int × Int)}{c:Int}(e:p.1=c):lookI (p::r) c=some p.2:=by simp [lookI,List.find?_cons,e]
theorem lookI_neg {p:Int × Int}{r:List (Int × Int)}{c:Int}(e:¬ p.1=c):lookI (p::r) c=lookI r c:=by simp [lookI,List.find?_cons,e]
theorem inl_ne {a c:Int}(h:¬ a=c):¬ (Sum.inl a:Key)=Sum.inl c:=fun e=>h (Sum.inl.inj e)
theorem val_tab:∀ (kv:List (Int × Int)) (c:Int),valV (tabI kv) (.inl c)=(lookI kv c).map V.int
 | [],c=>rfl
 | p::r,c=>by
  by_cases h:p.1=c
  ·rw [lookI_pos h]
   exact valV_pos (p:=(Sum.inl p.1,V.int p.2)) (r:=tabI r) (congrArg Sum.inl h)
  ·rw [lookI_neg h,←val_tab r c]
   exact valV_neg (p:=(Sum.inl p.1,V.int p.2)) (r:=tabI r) (inl_ne h)
theorem put_tab {kv:List (Int × Int)}{c:Int}(v:Int) (h:lookI kv c=none):putK (tabI kv) (.inl c) (.int v)=tabI (kv++[(c,v)]):=by
 rw [putK_new _ (by rw [val_tab,h];rfl)]
 unfold tabI
 rw [List.map_append]
 rfl
end L2
set_option Elab.async false
set_option linter.all false
set_option maxRecDepth 100000
set_option maxHeartbeats 4000000
namespace L2
open PySem PySem.Spec PyProof.Rows
abbrev PKy:=List Int × List Int
section
variable {prog:Program}{w:World}
end
section
variable {P:Program}{w:World}{H:Hp}{h:Heap}{a:Addr}
end
section
variable {X:Cx}{pins:List (Addr × Obj)}{σ:St}{H:Hp}{s:Shared}{d b:Addr}{k:PKy}{Z:List PKy}{A:Around}{E:Value->Shared->Prop}
end
section
variable {X:Cx}
end
end L2
set_option Elab.async false
set_option linter.all false
set_option maxRecDepth 100000
set_option maxHeartbeats 4000000
namespace L2
open PySem PySem.Spec PyProof.Rows
end L2
set_option Elab.async false
set_option linter.all false
set_option maxRecDepth 100000
set_option maxHeartbeats 1000000
namespace L2
open PySem PySem.Spec PyProof.Rows
section
variable {X:Cx}{e st:Expr}{te tst:TE}{pos p2:Pos}
end
end L2
set_option Elab.async false
set_option linter.all false
set_option maxRecDepth 100000
set_option maxHeartbeats 4000000
namespace L2
open PySem PySem.Spec PyProof.Rows
section
variable {X:Cx}
end
end L2
set_option Elab.async false
set_option linter.all false
set_option maxRecDepth 100000
set_option maxHeartbeats 4000000
namespace L2
open PySem PySem.Spec PyProof.Rows
section
variable {X:Cx}{a b:Expr}{ta tb:TE}{pos:Pos}{rest:List Expr}
end
end L2
set_option Elab.async false
set_option linter.all false
set_option maxRecDepth 100000
set_option maxHeartbeats 4000000
namespace L2
open PySem PySem.Spec PyProof.Rows PySem.SeqAt
section
variable {X:Cx}
theorem eq_bools (k:Bool):∀ {bs:List Bool}{vs:List Value},Vals (bs.map V.bl) vs->∀ y,y∈vs->∀ (A:Around) (s:Shared),EqAt A s y (.bool k) (isBoolOf k y)
 | [],_,.nil,y,hy,_,_=>absurd hy List.not_mem_nil
 | b::bs,_,.cons (b:=u) r rr,y,hy,A,s=>by
  rcases List.mem_cons.mp hy with e|hy
  ·have e2:u=.bool b:=r
   rw [e,e2];exact EqAt.bool_bool b k
  ·exact eq_bools k rr y hy A s
theorem cnt_bools (k:Bool):∀ {bs:List Bool}{vs:List Value},Vals (bs.map V.bl) vs->vs.countP (isBoolOf k)=bs.count k
 | [],_,.nil=>rfl
 | b::bs,_,.cons (b:=u) r rr=>by
  have e2:u=.bool b:=r
  rw [List.countP_cons,List.count_cons,cnt_bools k rr,e2];rfl
theorem at_bools (k:Bool):∀ {bs:List Bool}{vs:List Value},Vals (bs.map V.bl) vs->∀ (j:Nat) (h:j < vs.length) (h':j < bs.length),isBoolOf k vs[j]=(bs[j] == k)
 | b::bs,_,.cons (b:=u) r rr,0,_,_=>by
  have e2:u=.bool b:=r
  subst e2;rfl
 | b::bs,_,.cons (b:=u) r rr,j+1,h,h'=>at_bools k rr j (by simpa using h) (by simpa using h')
def kCntB (k:Bool) (H:Hp) (Q:VK):List Bool->Prop:=fun bs=>Q (.int (bs.count k:Nat)) H
theorem m_kCntB (k:Bool) (H:Hp) (Q:VK) (bs:List Bool):kCntB k H Q bs=Q (.int (bs.count k:Nat)) H:=rfl
def nCntB:V->List V->Hp->VK->Prop:=fun x vs H Q=>match x,vs with
 | .ref l,[.bl k]=>optK (lstAt H l) (kBls (kCntB k H Q))
 | _,_=>False
theorem m_nCntB (l:Addr) (k:Bool) (H:Hp) (Q:VK):nCntB (.ref l) [.bl k] H Q=optK (lstAt H l) (kBls (kCntB k H Q)):=rfl
theorem mt_nCntB:MtM X "list.count" nCntB:=by
 intro pins s σ H x vs v us Q I rx rv h
 unfold nCntB at h
 split at h
 ·rename_i l k
  obtain ⟨xs,hx,bs,rfl,q⟩:=optK_ex h
  replace hx:=lst_of hx
  cases rx
  cases rv with
  | cons rk rr=>
   cases rr
   cases rk
   obtain ⟨z,its,n,r,hl,e⟩:=I.lstM hx
   refine call_meets F.slot_list_count ⟨_,e,rfl⟩ F.entry_list_count (F.args_list_count_2 _ _) (list_countAt l its.toArray n _ _ (.bool k) (isBoolOf k)) ⟨e,fun y hy=>eq_bools k r y (by simpa using hy) _ _,?_⟩
   rw [show its.toArray.toList.countP (isBoolOf k)=bs.count k from cnt_bools k r]
   exact ⟨.int (bs.count k:Nat),H,I.tok _,⟨_,rfl⟩,q⟩
 ·exact h.elim
def kIdxB (k:Bool) (H:Hp) (Q:VK):List Bool->Prop:=fun bs=>k∈bs∧Q (.int (bs.idxOf k:Nat)) H
theorem m_kIdxB (k:Bool) (H:Hp) (Q:VK) (bs:List Bool):kIdxB k H Q bs=(k∈bs∧Q (.int (bs.idxOf k:Nat)) H):=rfl
def nIdxB:V->List V->Hp->VK->Prop:=fun x vs H Q=>match x,vs with
 | .ref l,[.bl k]=>optK (lstAt H l) (kBls (kIdxB k H Q))
 | _,_=>False
theorem m_nIdxB (l:Addr) (k:Bool) (H:Hp) (Q:VK):nIdxB (.ref l) [.bl k] H Q=optK (lstAt H l) (kBls (kIdxB k H Q)):=rfl
theorem mt_nIdxB:MtM X "list.index" nIdxB:=by
 intro pins s σ H x vs v us Q I rx rv h
 unfold nIdxB at h
 split at h
 ·rename_i l k
  obtain ⟨xs,hx,bs,rfl,hk,q⟩:=optK_ex h
  replace hx:=lst_of hx
  cases rx
  cases rv with
  | cons rk rr=>
   cases rr
   cases rk
   obtain ⟨z,its,n,r,hl,e⟩:=I.lstM hx
   have hs:sizeLine=16777216:=sizeLine_eq
   rw [List.length_map] at hl z
   have hj:bs.idxOf k < bs.length:=List.idxOf_lt_length_iff.mpr hk
   refine call_meets F.slot_list_index ⟨_,e,rfl⟩ F.entry_list_index (F.args_list_index_2 _ _) (list_indexAt l its.toArray n _ _ (.bool k) (isBoolOf k) (bs.idxOf k) (by simpa [←hl] using hj) (by omega) ?_ ?_) ⟨e,fun y hy=>eq_bools k r y (by simpa using hy) _ _,?_⟩
   ·show isBoolOf k its[bs.idxOf k]=true
    rw [at_bools k r _ (by omega) hj,List.getElem_idxOf hj]
    exact beq_self_eq_true k
   ·intro j hjs hlt
    show isBoolOf k its[j]=false
    rw [at_bools k r j (by simpa using hjs) (by omega)]
    exact eq_false_of_ne_true (by simpa using List.not_of_lt_findIdx hlt)
   ·exact ⟨.int (bs.idxOf k:Nat),H,I.tok _,⟨_,rfl⟩,q⟩
 ·exact h.elim
end
structure Mk0 (K:PySem.W.Frag) (C:Addr):Prop where
 makes:PySem.W.makesIn K C=true
 init:PySem.W.findIn K (.ref C) "__init__"=some (some (.builtin "object.__init__"))
 kp:PySem.W.keepIn K (.ref C)=true
end L2
set_option Elab.async false
set_option linter.all false
set_option maxRecDepth 100000
set_option maxHeartbeats 4000000
namespace L2
open PySem PySem.Spec PyProof.Rows
structure MD (P:Program) (w:World) (K:PySem.W.Frag) (mg:Str->Option Value) (base:Heap) (CX:CXT) (k:Nat) (m:Str) (C:Addr) (sp:Sp):Prop where
 c:Cls K C
 ex:∃ f fd ps,Meth K C m f∧FnOk P w K mg base CX k f fd ps sp∧Binds K fd ps []
section
variable {k:Nat}{g:TG}{tt:TT}{te:TE}{σ:St}{Q:VK}{H:Hp}
end
end L2
set_option Elab.async false
set_option linter.all false
set_option maxRecDepth 100000
set_option maxHeartbeats 4000000
namespace L2
open PySem PySem.Spec PyProof.Rows
section
variable {X:Cx}
def kExcAH (i:Nat) (tb:Addr->TS) (tr:Value->Option Addr->TS) (cls:Value) (d:Option Addr) (D:Ends) (σ:St) (H:Hp):Bool->Prop:=fun b=>if b=true then ∀ (e:Addr) (oe:Obj),H e=none->oe.cls=cls->oe.dict=d->NoCtx oe->gName i (.ref e) σ (upd H e (excO oe)) (kSetE i (tb e) (D.del i)) else tr cls d D σ H
theorem m_kExcAH (i:Nat) (tb:Addr->TS) (tr:Value->Option Addr->TS) (cls:Value) (d:Option Addr) (D:Ends) (σ:St) (H:Hp) (b:Bool):kExcAH i tb tr cls d D σ H b=(if b=true then ∀ (e:Addr) (oe:Obj),H e=none->oe.cls=cls->oe.dict=d->NoCtx oe->gName i (.ref e) σ (upd H e (excO oe)) (kSetE i (tb e) (D.del i)) else tr cls d D σ H):=rfl
def tExcAH (K:PySem.W.Frag) (C:Value) (i:Nat) (tb:Addr->TS) (tr:Value->Option Addr->TS):Value->Option Addr->TS:=fun cls d D σ H=>optK (PySem.W.exmOne K cls C) (kExcAH i tb tr cls d D σ H)
theorem m_tExcAH (K:PySem.W.Frag) (C:Value) (i:Nat) (tb:Addr->TS) (tr:Value->Option Addr->TS) (cls:Value) (d:Option Addr) (D:Ends) (σ:St) (H:Hp):tExcAH K C i tb tr cls d D σ H=optK (PySem.W.exmOne K cls C) (kExcAH i tb tr cls d D σ H):=rfl
theorem phs_asH {x n:Str}{i:Nat}{np pos:Pos}{b₀:Stmt}{body:List Stmt}{rest:List ExceptHandler}{C:Value}{tb:Addr->TS}{tr:Value->Option Addr->TS}(hN:X.N.Nodup) (hi:X.N[i]? = some n) (hk:X.env.scope.names.lookup n=some .local) (hg:Gl X x) (hm:X.mg x=some C∨(X.mg x=none∧bootBuiltins x=some C∧x ≠ "__name__")) (hb:∀ e,PSs (X.mark e) (b₀::body) (tb e)) (hr:PHs X rest tr)
  (hdb:(x == ("__debug__":Str))=false:=by decide):PHs X (.ExceptHandler (some (.Name x np)) (some n) (b₀::body) pos::rest) (tExcAH X.K C i tb tr):=by
 intro pins s σ H D e T cls d I N hn ex h
 obtain ⟨b,hx,h⟩:=optK_ex h
 have Im:=I.mark e
 have ld:∀ {Q:Value->Shared->Prop} {E:Value->Shared->Prop},Q C s->wpAny (model X.prog X.w) (X.A.mark (some (.ref e))) (eval (.Name x np) X.env) Q E s:=fun {Q E} q=>by
  rcases hm with z|⟨z1,z2,z3⟩
  ·exact ld_glob (X:=X.mark e) Im hg z q hdb
  ·exact ld_blt (X:=X.mark e) Im hg z1 z2 q z3 hdb
 refine PySem.wpAny_handleBy_cons (PySem.codeAny_handlers_test (ld ((PySem.W.exm_one I.kIn (exc_ty ex) hx).here ?_))) (by intro q;cases q)
 unfold kExcAH at h
 cases b with
 | false=>
  rw [if_neg Bool.false_ne_true] at h
  exact hr pins s σ H D e T cls d I N hn ex h
 | true=>
  rw [if_pos rfl] at h
  refine PySem.codeAny_handlers_suite_as (flight1 ex fun h' kp=>?_)
  obtain ⟨oe,vs,oT,ts,he,hc,hd,hdat,_,_,_,_,_,h2c⟩:=ex
  have N':NewAt (X.mark e) pins e:=⟨N.s0,N.loc,N.cel,N.fs,N.pin⟩
  have I':Inv (X.mark e) pins σ (upd H e (excO oe)) { s with heap:=h' }:=(Im.kept (t':=s.toks) kp).track N' (kp _ _ he) hn
  refine store_ok (X:=X.mark e) I' hN hi (.inl hk) (show RelV (.ref e) (.ref e) from rfl) (fun s1 I1=>?_) (.inr hk)
  have hh:tb e (D.del i) (σ.set i (some (.ref e))) (upd H e (excO oe)):=h e oe hn hc hd ⟨vs,hdat,h2c⟩
  refine wpAny_mono (hb e pins s1 _ _ (D.del i) I1 hh) (fun f s2 q=>?_) fun _ _ z=>z.elim
  show wpAny _ X.A _ _ _ s2
  have q':=SP.unmark I.ok q
  cases f with
  | next=>obtain ⟨σ',H',J,q⟩:=q';exact gone_ok J hi hk hN fun s3 J3=>⟨_,H',J3,q⟩
  | brk=>obtain ⟨σ',H',J,q⟩:=q';exact gone_ok J hi hk hN fun s3 J3=>⟨_,H',J3,q⟩
  | cont=>obtain ⟨σ',H',J,q⟩:=q';exact gone_ok J hi hk hN fun s3 J3=>⟨_,H',J3,q⟩
  | ret u=>obtain ⟨v,σ',H',J,r,q⟩:=q';exact gone_ok J hi hk hN fun s3 J3=>⟨v,_,H',J3,r,q⟩
end
end L2
set_option Elab.async false
set_option linter.all false
set_option maxRecDepth 100000
set_option maxHeartbeats 4000000
namespace L2
open PySem PySem.Spec PyProof.Rows
section
variable {X:Cx}{CX:CXT}{n k:Nat}{cl:Nat->Addr}{m:Str}{sp:Nat->Sp}{pos apos:Pos}{o e:Expr}{es:List Expr}{ta:TE}{t:TA}
end
end L2
set_option Elab.async false
set_option linter.all false
set_option maxRecDepth 100000
set_option maxHeartbeats 4000000
namespace L2
open PySem PySem.Spec PyProof.Rows
def kRepO (k:Int) (H:Hp) (Q:VK):List V->Prop:=fun xs=>match xs with
 | [x]=>0≤k∧k≤1000000∧newK (.lst (List.replicate k.toNat x)) H Q
 | _=>False
theorem m_kRepO (k:Int) (H:Hp) (Q:VK) (x:V):kRepO k H Q [x]=(0≤k∧k≤1000000∧newK (.lst (List.replicate k.toNat x)) H Q):=rfl
def nRepO:R2:=fun x y H Q=>match x,y with
 | .ref l,.int k=>optK (lstAt H l) (kRepO k H Q)
 | _,_=>False
theorem m_nRepO (l:Addr) (k:Int) (H:Hp) (Q:VK):nRepO (.ref l) (.int k) H Q=optK (lstAt H l) (kRepO k H Q):=rfl
theorem flat_rep (x:V):∀ n:Nat,(List.replicate n [x]).flatten=List.replicate n x
 | 0=>rfl
 | n+1=>by rw [List.replicate_succ,List.flatten_cons,flat_rep x n];rfl
theorem op_nRepO {X:Cx}:OpR X (binaryOp .Mult) nRepO:=op_rep.mono fun x y H Q h=>by
 unfold nRepO at h
 split at h
 ·rename_i l k
  obtain ⟨xs,e,h⟩:=optK_ex h
  unfold kRepO at h
  split at h
  ·rename_i x
   obtain ⟨h0,h1,q⟩:=h
   have hs:sizeLine=16777216:=sizeLine_eq
   refine ⟨l,k,_,rfl,rfl,lst_of e,by omega,by omega,by rw [List.length_singleton];omega,fun r hr=>?_⟩
   rw [flat_rep]
   exact q r _ hr (Ext.new hr) upd_same
  ·exact h.elim
 ·exact h.elim
def nMakeX (C:Addr) (sp:Sp) (dvs:List V) (E:St->XK) (t:TA):TE:=fun σ H Q=>nMake C sp dvs (E σ) t σ H Q
theorem m_nMakeX (C:Addr) (sp:Sp) (dvs:List V) (E:St->XK) (t:TA) (σ:St) (H:Hp) (Q:VK):nMakeX C sp dvs E t σ H Q=nMake C sp dvs (E σ) t σ H Q:=rfl
section
variable {X:Cx}{CX:CXT}{k:Nat}{f C:Addr}{fd:FuncData}{ps:List Str}{sp:Sp}{dvs:List V}{ds:List Value}{E:St->XK}{x:Str}{p pos:Pos}{e:Expr}{es:List Expr}{t:TA}
theorem run_makeX {pins:List (Addr × Obj)}{σ:St}{H:Hp}{s:Shared}{Q:VK}{us:List Value}{vs:List V}(M:Mk X.K C f) (F:FnOk X.prog X.w X.K X.mg X.base CX k f fd ps sp) (hr:Room (k+1) X.A) (hb:Binds X.K fd ps ds) (hd:Vals dvs ds)
  (hx:∀ σ,PassAt CX X (E σ) σ) (I:Inv X pins σ H s) (r:Vals vs us)
  (h:∀ x dx,H x=none->H dx=none->dx ≠ x->sp (.ref x::(vs++dvs)) (upd (upd H dx (.own x)) x (.ins C dx [])) (fun v H2=>v=.non∧Q (.ref x) H2) (E σ)) :
  wpAny (model X.prog X.w) X.A (call (.ref C) us) (EP X pins σ Q) X.xe s:=by
 have hq:=h (s.heap.objs.size+1) s.heap.objs.size (I.hok.fresh (Nat.le_succ _)) (I.hok.fresh (Nat.le_refl _)) (Nat.ne_of_lt (Nat.lt_succ_self _))
 have I2:=Inv.made (C:=C) I
 have r2:Vals (V.ref (s.heap.objs.size+1)::(vs++dvs)) (Value.ref (s.heap.objs.size+1)::(us++ds)):=.cons rfl (r.append hd)
 have hl:(Value.ref (s.heap.objs.size+1)::us++ds).length=ps.length:=by
  have e:=r2.length
  rw [F.len _ _ _ _ hq] at e
  exact e.symm
 refine wpAny_call (make_map (f:=f) I.kIn M.makes M.init (beq_iff_eq.mp M.fn) (codeAny_mono (F.run _ X.stack _ _ ⟨Value.ref (s.heap.objs.size+1)::us,[]⟩ (Value.ref (s.heap.objs.size+1)::(us++ds)) _ _ (E σ) (hr.make C us [])
  (I2.env0.make C us []) (hb _ (Value.ref (s.heap.objs.size+1)::us) I2.kIn hl) r2 hq) fun r s' hq'=>?_))
 cases r with
 | error e=>exact hx σ pins _ _ e s' I2 hq'
 | ok fl=>
  cases fl with
  | ret u=>
   obtain ⟨v,H',I3,rv,ev,q3⟩:=I2.after hq'
   subst ev
   exact ⟨rv,⟨V.ref (s.heap.objs.size+1),H',I3,rfl,q3⟩⟩
  | next=>exact False.elim hq'
  | brk=>exact False.elim hq'
  | cont=>exact False.elim hq'
theorem pe_nMakeX (M:Mk X.K C f) (F:FnOk X.prog X.w X.K X.mg X.base CX k f fd ps sp) (hr:Room (k+1) X.A) (hg:Gl X x) (hm:X.mg x=some (.ref C)) (hb:Binds X.K fd ps ds) (hd:Vals dvs ds) (hx:∀ σ,PassAt CX X (E σ) σ)
  (ha:PA X (e::es) t) (hdb:(x == ("__debug__":Str))=false:=by decide) (he:starEach (e::es) X.env=(false,eval e X.env)::starEach es X.env:=by rfl) (hpl:(backTo pos (starEach es X.env)).any (·.1)=false:=by rfl) :
  PE X (.Call (.Name x p) (e::es) [] pos) (nMakeX C sp dvs E t):=by
 intro pins s σ H Q I h
 refine wpAny_Call_Name_kw (ld_glob I hg hm ?_ hdb)
 refine PySem.W.callWith_K (h₀:=X.base) I.ok.mod.kin M.kp (thn (ha pos pins s σ H _ I h) fun us s1 ⟨vs,H1,I1,r,q⟩=>⟨I1.kIn,?_⟩) he hpl
 exact run_makeX M F hr hb hd hx I1 r q.to
end
end L2
set_option Elab.async false
set_option linter.all false
set_option maxRecDepth 100000
set_option maxHeartbeats 4000000
namespace L2
open PySem PySem.Spec PyProof.Rows
def qLenD:List V->Hp->VK->Prop:=fun vs H Q=>∃ p kvs,vs=[.ref p]∧H p=some (.dK kvs)∧Q (.int kvs.length) H
theorem use_lenD {p:Addr}{kvs:List (Key × V)}{H:Hp}{Q:VK}(e:H p=some (.dK kvs)) (q:Q (.int kvs.length) H):qLenD [.ref p] H Q:=⟨p,kvs,rfl,e,q⟩
section
variable {X:Cx}
theorem call_qLenD:CallR X (.builtin "len") qLenD:=by
 intro pins s σ H vs us Q I r h
 obtain ⟨p,kvs,rfl,e,q⟩:=h
 obtain ⟨u,rfl,rx⟩:=vals1 r
 cases rx
 have hn:=line63
 obtain ⟨h1,h2,vs',h3,h4⟩:=I.hok _ _ e
 have hlen:vs'.length=kvs.length:=h3.length.symm
 exact call_len_dict h2 h4 (by omega) ⟨.int kvs.length,H,I.tok _,⟨s.toks+1,by rw [hlen]⟩,q⟩
end
end L2
namespace PH
def Sizes (ns:List Int):Prop:=ns.length≤8∧∀ n∈ns,1≤n∧n≤1000000000
def prodL:List Int->Int
 | []=>1
 | n::r=>n * prodL r
theorem prodL_append:∀ ns ms:List Int,prodL (ns++ms)=prodL ns * prodL ms
 | [],ms=>by simp [prodL]
 | n::r,ms=>by simp only [List.cons_append,prodL,prodL_append r ms,Int.mul_assoc]
theorem prodL_take (ns:List Int) (i:Nat) (z:Int) (h:ns[i]? = some z):prodL (ns.take (i+1))=prodL (ns.take i) * z:=by
 rw [List.take_add_one,h,prodL_append]
 simp [prodL]
theorem prodL_pos:∀ ns:List Int,(∀ n∈ns,1≤n∧n≤1000000000)->1≤prodL ns∧prodL ns≤1000000000 ^ ns.length
 | [],_=>by simp [prodL]
 | n::r,h=>by
  obtain ⟨h1,h2⟩:=prodL_pos r fun m hm=>h m (List.mem_cons_of_mem _ hm)
  obtain ⟨g1,g2⟩:=h n List.mem_cons_self
  refine ⟨?_,?_⟩
  ·show 1≤n * prodL r
   exact Int.le_trans (by omega) (Int.mul_le_mul g1 h1 (by decide) (by omega):1 * 1≤n * prodL r)
  ·show n * prodL r≤1000000000 ^ (r.length+1)
   rw [Int.pow_succ,Int.mul_comm]
   exact Int.mul_le_mul h2 g2 (by omega) (Int.le_trans (by omega) h2)
theorem pow9_le:∀ {k:Nat},k≤8->(1000000000:Int) ^ k≤1000000000 ^ 8
 | 0,_=>by decide
 | 1,_=>by decide
 | 2,_=>by decide
 | 3,_=>by decide
 | 4,_=>by decide
 | 5,_=>by decide
 | 6,_=>by decide
 | 7,_=>by decide
 | 8,_=>by decide
 | k+9,h=>by omega
theorem Sizes.prod {ns:List Int}(h:Sizes ns):1≤prodL ns∧prodL ns≤1000000000 ^ 8:=by
 obtain ⟨a,b⟩:=prodL_pos ns h.2
 exact ⟨a,Int.le_trans b (pow9_le h.1)⟩
theorem Sizes.take {ns:List Int}(h:Sizes ns) (i:Nat):Sizes (ns.take i):=⟨by have:=h.1;simp;omega,fun n hn=>h.2 n (List.mem_of_mem_take hn)⟩
end PH
namespace PH
open PySem L2
def vi:V->Int
 | .int i=>i
 | _=>0
end PH
namespace PH
end PH
namespace PH
open PySem L2
theorem filt {α:Type}(l:List α):(l.filter fun _=>true)=l:=List.filter_eq_self.mpr fun _ _=>rfl
end PH
namespace PH
open PySem L2
def keptA (a:Int × Int):Int × Int:=(a.1,if a.1 > 1 then a.2 else 0)
def axL (axs:List (Int × Int)):List (List Int):=axs.map fun a=>[a.1,a.2]
def leastL (axs:List (Int × Int)):Int:=(axs.map fun a=>min 0 ((a.1 - 1) * a.2)).sum
def greatL (axs:List (Int × Int)):Int:=(axs.map fun a=>max 0 ((a.1 - 1) * a.2)).sum
def Axes (axs:List (Int × Int)):Prop:=axs.length≤8∧∀ a∈axs,1≤a.1∧a.1≤1000000000
structure ViewOk (room first:Int) (axs:List (Int × Int)):Prop where
 ax:Axes axs
 r1:1≤room
 r2:room≤1000000000000000000
 lo:0≤first+leastL (axs.map keptA)
 hi:first+greatL (axs.map keptA) < room
theorem Axes.kept {axs:List (Int × Int)}(h:Axes axs):Axes (axs.map keptA):=⟨by rw [List.length_map];exact h.1,fun a ha=>by
 obtain ⟨b,hb,rfl⟩:=List.mem_map.mp ha
 exact h.2 b hb⟩
theorem Axes.sizes {axs:List (Int × Int)}(h:Axes axs):Sizes (axs.map fun a=>a.1):=⟨by rw [List.length_map];exact h.1,fun n hn=>by
 obtain ⟨b,hb,rfl⟩:=List.mem_map.mp hn
 exact h.2 b hb⟩
def viewF (room first:Int) (l:Addr):List (Str × V):=putF "axes" (.ref l) (putF "first" (.int first) (putF "room" (.int room) []))
theorem ne_ra:¬ (("room":Str) = "axes"):=by decide +kernel
theorem ne_rf:¬ (("room":Str) = "first"):=by decide +kernel
theorem ne_fa:¬ (("first":Str) = "axes"):=by decide +kernel
theorem viewF_room (room first:Int) (l:Addr):(viewF room first l).lookup ("room":Str)=some (.int room):=by
 unfold viewF
 rw [lookup_putF,if_neg ne_ra,lookup_putF,if_neg ne_rf,lookup_putF,if_pos rfl]
theorem viewF_first (room first:Int) (l:Addr):(viewF room first l).lookup ("first":Str)=some (.int first):=by
 unfold viewF
 rw [lookup_putF,if_neg ne_fa,lookup_putF,if_pos rfl]
theorem viewF_axes (room first:Int) (l:Addr):(viewF room first l).lookup ("axes":Str)=some (.ref l):=by
 unfold viewF
 rw [lookup_putF,if_pos rfl]
theorem viewF_no (room first:Int) (l:Addr){m:Str}(h1:¬ m = "axes") (h2:¬ m = "first") (h3:¬ m = "room"):(viewF room first l).lookup m=none:=by
 unfold viewF
 rw [lookup_putF,if_neg h1,lookup_putF,if_neg h2,lookup_putF,if_neg h3]
 rfl
end PH
namespace PH
open PySem L2
theorem prodL_one:∀ ns:List Int,(∀ n∈ns,(1:Int)≤n)->1≤prodL ns
 | [],_=>by simp [prodL]
 | n::ns,h=>by
  have h1:=h n List.mem_cons_self
  have h2:=prodL_one ns fun m hm=>h m (List.mem_cons_of_mem _ hm)
  show 1≤n * prodL ns
  have:=Int.mul_le_mul h1 h2 (by decide) (by omega)
  omega
theorem leastL_cons (a:Int × Int) (l:List (Int × Int)):leastL (a::l)=min 0 ((a.1 - 1) * a.2)+leastL l:=by unfold leastL;simp
theorem greatL_cons (a:Int × Int) (l:List (Int × Int)):greatL (a::l)=max 0 ((a.1 - 1) * a.2)+greatL l:=by unfold greatL;simp
end PH
namespace PH
open PySem L2
end PH
namespace PH
theorem prodL_take_le (ns:List Int) (h:∀ n∈ns,(1:Int)≤n) (i:Nat):prodL (ns.take i)≤prodL ns:=by
 have e:prodL ns=prodL (ns.take i) * prodL (ns.drop i):=by rw [←prodL_append,List.take_append_drop]
 have a:=prodL_one (ns.take i) fun n hn=>h n (List.mem_of_mem_take hn)
 have b:=prodL_one (ns.drop i) fun n hn=>h n (List.mem_of_mem_drop hn)
 rw [e]
 have:=Int.mul_le_mul_of_nonneg_left b (show 0≤prodL (ns.take i) by omega)
 omega
def wideL (cs:List Int) (a:Int × Int):List Int:=cs.flatMap fun c=>(List.range a.1.toNat).map fun (n:Nat)=>c+(n:Int) * a.2
def cellsL (first:Int) (axs:List (Int × Int)):List Int:=axs.foldl wideL [first]
theorem wideL_len (cs:List Int) (a:Int × Int):(wideL cs a).length=cs.length * a.1.toNat:=by
 unfold wideL
 induction cs with
 | nil=>simp
 | cons c r ih=>rw [List.flatMap_cons,List.length_append,ih,List.length_map,List.length_range,List.length_cons,Nat.add_mul];omega
theorem cellsL_snoc (first:Int) (axs:List (Int × Int)) (a:Int × Int):cellsL first (axs++[a])=wideL (cellsL first axs) a:=by
 unfold cellsL;rw [List.foldl_append];rfl
theorem foldW_len:∀ (axs:List (Int × Int)) (cs:List Int),(∀ a∈axs,(1:Int)≤a.1)->((axs.foldl wideL cs).length:Int)=cs.length * prodL (axs.map fun a=>a.1)
 | [],cs,_=>by simp [prodL]
 | a::r,cs,h=>by
  have ha:=h a List.mem_cons_self
  rw [List.foldl_cons,foldW_len r (wideL cs a) fun b hb=>h b (List.mem_cons_of_mem _ hb),wideL_len,Int.natCast_mul,Int.toNat_of_nonneg (by omega),Int.mul_assoc]
  rfl
theorem cellsL_len (first:Int) (axs:List (Int × Int)) (h:∀ a∈axs,(1:Int)≤a.1):((cellsL first axs).length:Int)=prodL (axs.map fun a=>a.1):=by
 unfold cellsL
 rw [foldW_len axs [first] h]
 simp
end PH
namespace PH
end PH
set_option Elab.async false
set_option linter.all false
set_option maxRecDepth 100000
set_option maxHeartbeats 4000000
namespace PH
open PySem L2
def top (i:Nat):Stmt:=PySem.Challenge.pw_pacehall_k67_stores_refused.main.body.getD i (.Pass ⟨0,0,0,0⟩)
abbrev s_TooMany___init__:Stmt:=inClass (top 8) 0
theorem c_TooMany___init__:FnScope ["self", "number"] ["self", "number"] (defScope s_TooMany___init__):=⟨rfl,rfl,rfl,by decide +kernel,rfl,by decide +kernel,by decide +kernel⟩
abbrev s_is_whole:Stmt:=top 10
theorem c_is_whole:FnScope ["thing"] ["thing"] (defScope s_is_whole):=⟨rfl,rfl,rfl,by decide +kernel,rfl,by decide +kernel,by decide +kernel⟩
abbrev s_count_of:Stmt:=top 13
theorem c_count_of:FnScope ["sizes", "count", "size"] ["sizes"] (defScope s_count_of):=⟨rfl,rfl,rfl,by decide +kernel,rfl,by decide +kernel,by decide +kernel⟩
abbrev s_is_number_below:Stmt:=top 14
abbrev s_is_place:Stmt:=top 15
abbrev s_refuse_long:Stmt:=top 16
theorem c_refuse_long:FnScope ["count"] ["count"] (defScope s_refuse_long):=⟨rfl,rfl,rfl,by decide +kernel,rfl,by decide +kernel,by decide +kernel⟩
abbrev s_refuse_count:Stmt:=top 18
theorem c_refuse_count:FnScope ["view", "many"] ["view", "many"] (defScope s_refuse_count):=⟨rfl,rfl,rfl,by decide +kernel,rfl,by decide +kernel,by decide +kernel⟩
abbrev s_Store___init__:Stmt:=inClass (top 19) 0
theorem c_Store___init__:FnScope ["self", "values"] ["self", "values"] (defScope s_Store___init__):=⟨rfl,rfl,rfl,by decide +kernel,rfl,by decide +kernel,by decide +kernel⟩
abbrev s_Store_all_values:Stmt:=inClass (top 19) 1
theorem c_Store_all_values:FnScope ["self"] ["self"] (defScope s_Store_all_values):=⟨rfl,rfl,rfl,by decide +kernel,rfl,by decide +kernel,by decide +kernel⟩
abbrev s_Store_refuse_room:Stmt:=inClass (top 19) 2
theorem c_Store_refuse_room:FnScope ["self", "view"] ["self", "view"] (defScope s_Store_refuse_room):=⟨rfl,rfl,rfl,by decide +kernel,rfl,by decide +kernel,by decide +kernel⟩
abbrev s_Store_read:Stmt:=inClass (top 19) 3
theorem c_Store_read:FnScope ["self", "view"] ["self", "view"] (defScope s_Store_read):=⟨rfl,rfl,rfl,by decide +kernel,rfl,by decide +kernel,by decide +kernel⟩
abbrev s_Store_put:Stmt:=inClass (top 19) 4
theorem c_Store_put:FnScope ["self", "view", "values", "cell", "value"] ["self", "view", "values"] (defScope s_Store_put):=⟨rfl,rfl,rfl,by decide +kernel,rfl,by decide +kernel,by decide +kernel⟩
abbrev s_Store_fill:Stmt:=inClass (top 19) 5
theorem c_Store_fill:FnScope ["self", "view", "value", "cell"] ["self", "view", "value"] (defScope s_Store_fill):=⟨rfl,rfl,rfl,by decide +kernel,rfl,by decide +kernel,by decide +kernel⟩
abbrev s_Store_copied:Stmt:=inClass (top 19) 6
theorem c_Store_copied:FnScope ["self", "to", "source"] ["self", "to", "source"] (defScope s_Store_copied):=⟨rfl,rfl,rfl,by decide +kernel,rfl,by decide +kernel,by decide +kernel⟩
abbrev s_is_within:Stmt:=top 24
theorem c_is_within:FnScope ["thing", "low", "high"] ["thing", "low", "high"] (defScope s_is_within):=⟨rfl,rfl,rfl,by decide +kernel,rfl,by decide +kernel,by decide +kernel⟩
abbrev s_is_size:Stmt:=top 25
theorem c_is_size:FnScope ["thing"] ["thing"] (defScope s_is_size):=⟨rfl,rfl,rfl,by decide +kernel,rfl,by decide +kernel,by decide +kernel⟩
abbrev s_is_axis:Stmt:=top 26
theorem c_is_axis:FnScope ["thing"] ["thing"] (defScope s_is_axis):=⟨rfl,rfl,rfl,by decide +kernel,rfl,by decide +kernel,by decide +kernel⟩
abbrev s_are_axes:Stmt:=top 27
theorem c_are_axes:FnScope ["thing"] ["thing"] (defScope s_are_axes):=⟨rfl,rfl,rfl,by decide +kernel,rfl,by decide +kernel,by decide +kernel⟩
abbrev s_kept_axis:Stmt:=top 28
theorem c_kept_axis:FnScope ["axis"] ["axis"] (defScope s_kept_axis):=⟨rfl,rfl,rfl,by decide +kernel,rfl,by decide +kernel,by decide +kernel⟩
abbrev s_View___init__:Stmt:=inClass (top 29) 0
theorem c_View___init__:FnScope ["self", "room", "first", "axes"] ["self", "room", "first", "axes"] (defScope s_View___init__):=⟨rfl,rfl,rfl,by decide +kernel,rfl,by decide +kernel,by decide +kernel⟩
abbrev s_View_sizes:Stmt:=inClass (top 29) 1
theorem c_View_sizes:FnScope ["self"] ["self"] (defScope s_View_sizes):=⟨rfl,rfl,rfl,by decide +kernel,rfl,by decide +kernel,by decide +kernel⟩
abbrev s_View_paces:Stmt:=inClass (top 29) 2
abbrev s_View_count:Stmt:=inClass (top 29) 3
theorem c_View_count:FnScope ["self"] ["self"] (defScope s_View_count):=⟨rfl,rfl,rfl,by decide +kernel,rfl,by decide +kernel,by decide +kernel⟩
abbrev s_View_cell:Stmt:=inClass (top 29) 4
abbrev s_View_cells:Stmt:=inClass (top 29) 6
theorem c_View_cells:FnScope ["self", "found", "size", "pace"] ["self"] (defScope s_View_cells):=⟨rfl,rfl,rfl,by decide +kernel,rfl,by decide +kernel,by decide +kernel⟩
abbrev s_View_least:Stmt:=inClass (top 29) 7
theorem c_View_least:FnScope ["self"] ["self"] (defScope s_View_least):=⟨rfl,rfl,rfl,by decide +kernel,rfl,by decide +kernel,by decide +kernel⟩
abbrev s_View_greatest:Stmt:=inClass (top 29) 8
theorem c_View_greatest:FnScope ["self"] ["self"] (defScope s_View_greatest):=⟨rfl,rfl,rfl,by decide +kernel,rfl,by decide +kernel,by decide +kernel⟩
abbrev s_widened:Stmt:=top 30
theorem c_widened:FnScope ["cells", "size", "pace", "found", "cell"] ["cells", "size", "pace"] (defScope s_widened):=⟨rfl,rfl,rfl,by decide +kernel,rfl,by decide +kernel,by decide +kernel⟩
abbrev s_refuse_rooms:Stmt:=top 32
theorem c_refuse_rooms:FnScope ["one", "other"] ["one", "other"] (defScope s_refuse_rooms):=⟨rfl,rfl,rfl,by decide +kernel,rfl,by decide +kernel,by decide +kernel⟩
abbrev s_sources:Stmt:=top 34
theorem c_sources:FnScope ["to", "source", "found", "cell", "origin"] ["to", "source"] (defScope s_sources):=⟨rfl,rfl,rfl,by decide +kernel,rfl,by decide +kernel,by decide +kernel⟩
abbrev s__law_draw:Stmt:=top 36
theorem c__law_draw:FnScope ["_law_script", "_law_k", "_law_many", "_law_number", "_law_cell"] ["_law_script", "_law_k", "_law_many"] (defScope s__law_draw):=⟨rfl,rfl,rfl,by decide +kernel,rfl,by decide +kernel,by decide +kernel⟩
abbrev s__law_whole:Stmt:=top 37
theorem c__law_whole:FnScope ["_law_found"] ["_law_found"] (defScope s__law_whole):=⟨rfl,rfl,rfl,by decide +kernel,rfl,by decide +kernel,by decide +kernel⟩
abbrev s__law_word:Stmt:=top 38
theorem c__law_word:FnScope ["_law_e", "_law_some", "_law_word_here"] ["_law_e"] (defScope s__law_word):=⟨rfl,rfl,rfl,by decide +kernel,rfl,by decide +kernel,by decide +kernel⟩
abbrev s__law_done:Stmt:=top 39
theorem c__law_done:FnScope ["_law_way", "_law_store", "_law_one", "_law_other", "_law_values", "_law_e"] ["_law_way", "_law_store", "_law_one", "_law_other", "_law_values"] (defScope s__law_done):=⟨rfl,rfl,rfl,by decide +kernel,rfl,by decide +kernel,by decide +kernel⟩
abbrev s__law_is:Stmt:=top 40
theorem c__law_is:FnScope ["_law_found", "_law_word_here", "_law_number"] ["_law_found", "_law_word_here", "_law_number"] (defScope s__law_is):=⟨rfl,rfl,rfl,by decide +kernel,rfl,by decide +kernel,by decide +kernel⟩
abbrev s__law_many_view:Stmt:=top 41
theorem c__law_many_view:FnScope ["_law_script", "_law_room", "_law_at", "_law_size", "_law_axes", "_law_count"] ["_law_script", "_law_room", "_law_at"] (defScope s__law_many_view):=⟨rfl,rfl,rfl,by decide +kernel,rfl,by decide +kernel,by decide +kernel⟩
abbrev s__law_views_refused:Stmt:=top 42
theorem c__law_views_refused:FnScope ["_law_script", "_law_room", "_law_store", "_law_entire", "_law_beyond", "_law_many", "_law_count", "_law_most", "_law_other", "_law_single", "_law_far", "_law_size", "_law_few", "_law_cases", "_law_way", "_law_one", "_law_two", "_law_values", "_law_word_here", "_law_number"] ["_law_script", "_law_room", "_law_store"] (defScope s__law_views_refused):=⟨rfl,rfl,rfl,by decide +kernel,rfl,by decide +kernel,by decide +kernel⟩
abbrev s_law:Stmt:=top 43
theorem c_law:FnScope ["_law_script", "_law_room", "_law_due", "_law_store", "_law_many", "_law_great", "_law_view", "_law_one", "_law_other", "_law_found"] ["_law_script"] (defScope s_law):=⟨rfl,rfl,rfl,by decide +kernel,rfl,by decide +kernel,by decide +kernel⟩
set_option genInjectivity false in
structure Adr where
 a_PaceError:Addr
 a_NoPlace:Addr
 a_NoCells:Addr
 a_NoView:Addr
 a_NoCount:Addr
 a_NoPair:Addr
 a_TooMany:Addr
 a_Store:Addr
 a_View:Addr
 a_TooMany___init__:Addr
 d_TooMany___init__:FuncData
 a_is_whole:Addr
 d_is_whole:FuncData
 a_count_of:Addr
 d_count_of:FuncData
 a_is_number_below:Addr
 d_is_number_below:FuncData
 a_is_place:Addr
 d_is_place:FuncData
 a_refuse_long:Addr
 d_refuse_long:FuncData
 a_refuse_count:Addr
 d_refuse_count:FuncData
 a_Store___init__:Addr
 d_Store___init__:FuncData
 a_Store_all_values:Addr
 d_Store_all_values:FuncData
 a_Store_refuse_room:Addr
 d_Store_refuse_room:FuncData
 a_Store_read:Addr
 d_Store_read:FuncData
 a_Store_put:Addr
 d_Store_put:FuncData
 a_Store_fill:Addr
 d_Store_fill:FuncData
 a_Store_copied:Addr
 d_Store_copied:FuncData
 a_is_within:Addr
 d_is_within:FuncData
 a_is_size:Addr
 d_is_size:FuncData
 a_is_axis:Addr
 d_is_axis:FuncData
 a_are_axes:Addr
 d_are_axes:FuncData
 a_kept_axis:Addr
 d_kept_axis:FuncData
 a_View___init__:Addr
 d_View___init__:FuncData
 a_View_sizes:Addr
 d_View_sizes:FuncData
 a_View_paces:Addr
 d_View_paces:FuncData
 a_View_count:Addr
 d_View_count:FuncData
 a_View_cell:Addr
 d_View_cell:FuncData
 a_View_cells:Addr
 d_View_cells:FuncData
 a_View_least:Addr
 d_View_least:FuncData
 a_View_greatest:Addr
 d_View_greatest:FuncData
 a_widened:Addr
 d_widened:FuncData
 a_refuse_rooms:Addr
 d_refuse_rooms:FuncData
 a_sources:Addr
 d_sources:FuncData
 a__law_draw:Addr
 d__law_draw:FuncData
 a__law_whole:Addr
 d__law_whole:FuncData
 a__law_word:Addr
 d__law_word:FuncData
 a__law_done:Addr
 d__law_done:FuncData
 a__law_is:Addr
 d__law_is:FuncData
 a__law_many_view:Addr
 d__law_many_view:FuncData
 a__law_views_refused:Addr
 d__law_views_refused:FuncData
 a_law:Addr
 d_law:FuncData
structure Tx (K:PySem.W.Frag) (mg:Str->Option Value) (t:Adr):Prop where
 m_PaceError:mg "PaceError"=some (.ref t.a_PaceError)
 m_NoPlace:mg "NoPlace"=some (.ref t.a_NoPlace)
 m_NoCells:mg "NoCells"=some (.ref t.a_NoCells)
 m_NoView:mg "NoView"=some (.ref t.a_NoView)
 m_NoCount:mg "NoCount"=some (.ref t.a_NoCount)
 m_NoPair:mg "NoPair"=some (.ref t.a_NoPair)
 m_TooMany:mg "TooMany"=some (.ref t.a_TooMany)
 m_Store:mg "Store"=some (.ref t.a_Store)
 m_View:mg "View"=some (.ref t.a_View)
 o_NoCells:PySem.W.excIn K t.a_NoCells [.type "ValueError",.type "Exception",.type "BaseException",.type "object"] "ValueError.__new__"=true
 o_NoView:PySem.W.excIn K t.a_NoView [.type "ValueError",.type "Exception",.type "BaseException",.type "object"] "ValueError.__new__"=true
 o_NoCount:PySem.W.excIn K t.a_NoCount [.type "ValueError",.type "Exception",.type "BaseException",.type "object"] "ValueError.__new__"=true
 o_NoPair:PySem.W.excIn K t.a_NoPair [.type "ValueError",.type "Exception",.type "BaseException",.type "object"] "ValueError.__new__"=true
 x_NoCells_PaceError:PySem.W.exmOne K (.ref t.a_NoCells) (.ref t.a_PaceError)=some true
 x_TooMany_PaceError:PySem.W.exmOne K (.ref t.a_TooMany) (.ref t.a_PaceError)=some true
 x_NoView_PaceError:PySem.W.exmOne K (.ref t.a_NoView) (.ref t.a_PaceError)=some true
 x_NoCount_PaceError:PySem.W.exmOne K (.ref t.a_NoCount) (.ref t.a_PaceError)=some true
 x_NoPair_PaceError:PySem.W.exmOne K (.ref t.a_NoPair) (.ref t.a_PaceError)=some true
 ocs:PySem.W.specialIn K (.builtin "object.__class__") "__get__"=some (some (.builtin "getset_descriptor.__get__"))
 oct:PySem.W.takesIn K (.builtin "object.__class__")=some true
 ga_NoCells:PySem.W.findIn K (.ref t.a_NoCells) "__getattribute__"=some (some (.builtin "BaseException.__getattribute__"))
 gn_NoCells:PySem.W.findIn K (.ref t.a_NoCells) "__getattr__"=some none
 mb_NoCells:PySem.W.mroIn K t.a_NoCells (.type "BaseException")=some true
 mo_NoCells:PySem.W.mroIn K t.a_NoCells (.type "object")=some true
 fc_NoCells:PySem.W.findIn K (.ref t.a_NoCells) "__class__"=some (some (.builtin "object.__class__"))
 hd_NoCells:PySem.W.hasDictIn K t.a_NoCells=true
 ga_TooMany:PySem.W.findIn K (.ref t.a_TooMany) "__getattribute__"=some (some (.builtin "BaseException.__getattribute__"))
 gn_TooMany:PySem.W.findIn K (.ref t.a_TooMany) "__getattr__"=some none
 mb_TooMany:PySem.W.mroIn K t.a_TooMany (.type "BaseException")=some true
 mo_TooMany:PySem.W.mroIn K t.a_TooMany (.type "object")=some true
 fc_TooMany:PySem.W.findIn K (.ref t.a_TooMany) "__class__"=some (some (.builtin "object.__class__"))
 hd_TooMany:PySem.W.hasDictIn K t.a_TooMany=true
 ga_NoView:PySem.W.findIn K (.ref t.a_NoView) "__getattribute__"=some (some (.builtin "BaseException.__getattribute__"))
 gn_NoView:PySem.W.findIn K (.ref t.a_NoView) "__getattr__"=some none
 mb_NoView:PySem.W.mroIn K t.a_NoView (.type "BaseException")=some true
 mo_NoView:PySem.W.mroIn K t.a_NoView (.type "object")=some true
 fc_NoView:PySem.W.findIn K (.ref t.a_NoView) "__class__"=some (some (.builtin "object.__class__"))
 hd_NoView:PySem.W.hasDictIn K t.a_NoView=true
 ga_NoCount:PySem.W.findIn K (.ref t.a_NoCount) "__getattribute__"=some (some (.builtin "BaseException.__getattribute__"))
 gn_NoCount:PySem.W.findIn K (.ref t.a_NoCount) "__getattr__"=some none
 mb_NoCount:PySem.W.mroIn K t.a_NoCount (.type "BaseException")=some true
 mo_NoCount:PySem.W.mroIn K t.a_NoCount (.type "object")=some true
 fc_NoCount:PySem.W.findIn K (.ref t.a_NoCount) "__class__"=some (some (.builtin "object.__class__"))
 hd_NoCount:PySem.W.hasDictIn K t.a_NoCount=true
 ga_NoPair:PySem.W.findIn K (.ref t.a_NoPair) "__getattribute__"=some (some (.builtin "BaseException.__getattribute__"))
 gn_NoPair:PySem.W.findIn K (.ref t.a_NoPair) "__getattr__"=some none
 mb_NoPair:PySem.W.mroIn K t.a_NoPair (.type "BaseException")=some true
 mo_NoPair:PySem.W.mroIn K t.a_NoPair (.type "object")=some true
 fc_NoPair:PySem.W.findIn K (.ref t.a_NoPair) "__class__"=some (some (.builtin "object.__class__"))
 hd_NoPair:PySem.W.hasDictIn K t.a_NoPair=true
 kc_NoCells_NoCells:PySem.W.hasDictIn K t.a_NoCells=true
 kt_NoCells_NoCells:PySem.W.typeIn K (.ref t.a_NoCells)=some (.type "type")
 ks_NoCells_NoCells:PySem.W.subIn K (.ref t.a_NoCells) (.ref t.a_NoCells)=some true
 kc_NoCells_TooMany:PySem.W.hasDictIn K t.a_TooMany=true
 kt_NoCells_TooMany:PySem.W.typeIn K (.ref t.a_TooMany)=some (.type "type")
 ks_NoCells_TooMany:PySem.W.subIn K (.ref t.a_NoCells) (.ref t.a_TooMany)=some false
 kn_NoCells_TooMany:(t.a_NoCells == t.a_TooMany)=false
 kc_NoCells_NoView:PySem.W.hasDictIn K t.a_NoView=true
 kt_NoCells_NoView:PySem.W.typeIn K (.ref t.a_NoView)=some (.type "type")
 ks_NoCells_NoView:PySem.W.subIn K (.ref t.a_NoCells) (.ref t.a_NoView)=some false
 kn_NoCells_NoView:(t.a_NoCells == t.a_NoView)=false
 kc_NoCells_NoCount:PySem.W.hasDictIn K t.a_NoCount=true
 kt_NoCells_NoCount:PySem.W.typeIn K (.ref t.a_NoCount)=some (.type "type")
 ks_NoCells_NoCount:PySem.W.subIn K (.ref t.a_NoCells) (.ref t.a_NoCount)=some false
 kn_NoCells_NoCount:(t.a_NoCells == t.a_NoCount)=false
 kc_NoCells_NoPair:PySem.W.hasDictIn K t.a_NoPair=true
 kt_NoCells_NoPair:PySem.W.typeIn K (.ref t.a_NoPair)=some (.type "type")
 ks_NoCells_NoPair:PySem.W.subIn K (.ref t.a_NoCells) (.ref t.a_NoPair)=some false
 kn_NoCells_NoPair:(t.a_NoCells == t.a_NoPair)=false
 kc_TooMany_NoCells:PySem.W.hasDictIn K t.a_NoCells=true
 kt_TooMany_NoCells:PySem.W.typeIn K (.ref t.a_NoCells)=some (.type "type")
 ks_TooMany_NoCells:PySem.W.subIn K (.ref t.a_TooMany) (.ref t.a_NoCells)=some false
 kn_TooMany_NoCells:(t.a_TooMany == t.a_NoCells)=false
 kc_TooMany_TooMany:PySem.W.hasDictIn K t.a_TooMany=true
 kt_TooMany_TooMany:PySem.W.typeIn K (.ref t.a_TooMany)=some (.type "type")
 ks_TooMany_TooMany:PySem.W.subIn K (.ref t.a_TooMany) (.ref t.a_TooMany)=some true
 kc_TooMany_NoView:PySem.W.hasDictIn K t.a_NoView=true
 kt_TooMany_NoView:PySem.W.typeIn K (.ref t.a_NoView)=some (.type "type")
 ks_TooMany_NoView:PySem.W.subIn K (.ref t.a_TooMany) (.ref t.a_NoView)=some false
 kn_TooMany_NoView:(t.a_TooMany == t.a_NoView)=false
 kc_TooMany_NoCount:PySem.W.hasDictIn K t.a_NoCount=true
 kt_TooMany_NoCount:PySem.W.typeIn K (.ref t.a_NoCount)=some (.type "type")
 ks_TooMany_NoCount:PySem.W.subIn K (.ref t.a_TooMany) (.ref t.a_NoCount)=some false
 kn_TooMany_NoCount:(t.a_TooMany == t.a_NoCount)=false
 kc_TooMany_NoPair:PySem.W.hasDictIn K t.a_NoPair=true
 kt_TooMany_NoPair:PySem.W.typeIn K (.ref t.a_NoPair)=some (.type "type")
 ks_TooMany_NoPair:PySem.W.subIn K (.ref t.a_TooMany) (.ref t.a_NoPair)=some false
 kn_TooMany_NoPair:(t.a_TooMany == t.a_NoPair)=false
 kc_NoView_NoCells:PySem.W.hasDictIn K t.a_NoCells=true
 kt_NoView_NoCells:PySem.W.typeIn K (.ref t.a_NoCells)=some (.type "type")
 ks_NoView_NoCells:PySem.W.subIn K (.ref t.a_NoView) (.ref t.a_NoCells)=some false
 kn_NoView_NoCells:(t.a_NoView == t.a_NoCells)=false
 kc_NoView_TooMany:PySem.W.hasDictIn K t.a_TooMany=true
 kt_NoView_TooMany:PySem.W.typeIn K (.ref t.a_TooMany)=some (.type "type")
 ks_NoView_TooMany:PySem.W.subIn K (.ref t.a_NoView) (.ref t.a_TooMany)=some false
 kn_NoView_TooMany:(t.a_NoView == t.a_TooMany)=false
 kc_NoView_NoView:PySem.W.hasDictIn K t.a_NoView=true
 kt_NoView_NoView:PySem.W.typeIn K (.ref t.a_NoView)=some (.type "type")
 ks_NoView_NoView:PySem.W.subIn K (.ref t.a_NoView) (.ref t.a_NoView)=some true
 kc_NoView_NoCount:PySem.W.hasDictIn K t.a_NoCount=true
 kt_NoView_NoCount:PySem.W.typeIn K (.ref t.a_NoCount)=some (.type "type")
 ks_NoView_NoCount:PySem.W.subIn K (.ref t.a_NoView) (.ref t.a_NoCount)=some false
 kn_NoView_NoCount:(t.a_NoView == t.a_NoCount)=false
 kc_NoView_NoPair:PySem.W.hasDictIn K t.a_NoPair=true
 kt_NoView_NoPair:PySem.W.typeIn K (.ref t.a_NoPair)=some (.type "type")
 ks_NoView_NoPair:PySem.W.subIn K (.ref t.a_NoView) (.ref t.a_NoPair)=some false
 kn_NoView_NoPair:(t.a_NoView == t.a_NoPair)=false
 kc_NoCount_NoCells:PySem.W.hasDictIn K t.a_NoCells=true
 kt_NoCount_NoCells:PySem.W.typeIn K (.ref t.a_NoCells)=some (.type "type")
 ks_NoCount_NoCells:PySem.W.subIn K (.ref t.a_NoCount) (.ref t.a_NoCells)=some false
 kn_NoCount_NoCells:(t.a_NoCount == t.a_NoCells)=false
 kc_NoCount_TooMany:PySem.W.hasDictIn K t.a_TooMany=true
 kt_NoCount_TooMany:PySem.W.typeIn K (.ref t.a_TooMany)=some (.type "type")
 ks_NoCount_TooMany:PySem.W.subIn K (.ref t.a_NoCount) (.ref t.a_TooMany)=some false
 kn_NoCount_TooMany:(t.a_NoCount == t.a_TooMany)=false
 kc_NoCount_NoView:PySem.W.hasDictIn K t.a_NoView=true
 kt_NoCount_NoView:PySem.W.typeIn K (.ref t.a_NoView)=some (.type "type")
 ks_NoCount_NoView:PySem.W.subIn K (.ref t.a_NoCount) (.ref t.a_NoView)=some false
 kn_NoCount_NoView:(t.a_NoCount == t.a_NoView)=false
 kc_NoCount_NoCount:PySem.W.hasDictIn K t.a_NoCount=true
 kt_NoCount_NoCount:PySem.W.typeIn K (.ref t.a_NoCount)=some (.type "type")
 ks_NoCount_NoCount:PySem.W.subIn K (.ref t.a_NoCount) (.ref t.a_NoCount)=some true
 kc_NoCount_NoPair:PySem.W.hasDictIn K t.a_NoPair=true
 kt_NoCount_NoPair:PySem.W.typeIn K (.ref t.a_NoPair)=some (.type "type")
 ks_NoCount_NoPair:PySem.W.subIn K (.ref t.a_NoCount) (.ref t.a_NoPair)=some false
 kn_NoCount_NoPair:(t.a_NoCount == t.a_NoPair)=false
 kc_NoPair_NoCells:PySem.W.hasDictIn K t.a_NoCells=true
 kt_NoPair_NoCells:PySem.W.typeIn K (.ref t.a_NoCells)=some (.type "type")
 ks_NoPair_NoCells:PySem.W.subIn K (.ref t.a_NoPair) (.ref t.a_NoCells)=some false
 kn_NoPair_NoCells:(t.a_NoPair == t.a_NoCells)=false
 kc_NoPair_TooMany:PySem.W.hasDictIn K t.a_TooMany=true
 kt_NoPair_TooMany:PySem.W.typeIn K (.ref t.a_TooMany)=some (.type "type")
 ks_NoPair_TooMany:PySem.W.subIn K (.ref t.a_NoPair) (.ref t.a_TooMany)=some false
 kn_NoPair_TooMany:(t.a_NoPair == t.a_TooMany)=false
 kc_NoPair_NoView:PySem.W.hasDictIn K t.a_NoView=true
 kt_NoPair_NoView:PySem.W.typeIn K (.ref t.a_NoView)=some (.type "type")
 ks_NoPair_NoView:PySem.W.subIn K (.ref t.a_NoPair) (.ref t.a_NoView)=some false
 kn_NoPair_NoView:(t.a_NoPair == t.a_NoView)=false
 kc_NoPair_NoCount:PySem.W.hasDictIn K t.a_NoCount=true
 kt_NoPair_NoCount:PySem.W.typeIn K (.ref t.a_NoCount)=some (.type "type")
 ks_NoPair_NoCount:PySem.W.subIn K (.ref t.a_NoPair) (.ref t.a_NoCount)=some false
 kn_NoPair_NoCount:(t.a_NoPair == t.a_NoCount)=false
 kc_NoPair_NoPair:PySem.W.hasDictIn K t.a_NoPair=true
 kt_NoPair_NoPair:PySem.W.typeIn K (.ref t.a_NoPair)=some (.type "type")
 ks_NoPair_NoPair:PySem.W.subIn K (.ref t.a_NoPair) (.ref t.a_NoPair)=some true
 ks_NoCells_ValueError:PySem.W.subIn K (.ref t.a_NoCells) (.type "ValueError")=some true
 ks_TooMany_ValueError:PySem.W.subIn K (.ref t.a_TooMany) (.type "ValueError")=some true
 ks_NoView_ValueError:PySem.W.subIn K (.ref t.a_NoView) (.type "ValueError")=some true
 ks_NoCount_ValueError:PySem.W.subIn K (.ref t.a_NoCount) (.type "ValueError")=some true
 ks_NoPair_ValueError:PySem.W.subIn K (.ref t.a_NoPair) (.type "ValueError")=some true
 m_MOST_TOLD:∃ tk,mg "MOST_TOLD"=some (.int 4096 tk)
 m_MOST_ROOM:∃ tk,mg "MOST_ROOM"=some (.int 1000000000000000000 tk)
 m_MOST_SIZE:∃ tk,mg "MOST_SIZE"=some (.int 1000000000 tk)
 m_MOST_AXES:∃ tk,mg "MOST_AXES"=some (.int 8 tk)
 oi_TooMany:OwnI K t.a_TooMany t.a_TooMany___init__
 tk_TooMany_number:PySem.W.takerIn K t.a_TooMany "number"=some none
 na_TooMany_number:NoAttr K t.a_TooMany "number"
 bi_PaceError:BaseI K t.a_PaceError
 cl_Store:Cls K t.a_Store
 na_Store_floor:NoAttr K t.a_Store "floor"
 mk_Store:Mk K t.a_Store t.a_Store___init__
 mt_Store_all_values:Meth K t.a_Store "all_values" t.a_Store_all_values
 mt_Store_refuse_room:Meth K t.a_Store "refuse_room" t.a_Store_refuse_room
 mt_Store_read:Meth K t.a_Store "read" t.a_Store_read
 mt_Store_put:Meth K t.a_Store "put" t.a_Store_put
 mt_Store_fill:Meth K t.a_Store "fill" t.a_Store_fill
 mt_Store_copied:Meth K t.a_Store "copied" t.a_Store_copied
 cl_View:Cls K t.a_View
 na_View_axes:NoAttr K t.a_View "axes"
 na_View_first:NoAttr K t.a_View "first"
 na_View_room:NoAttr K t.a_View "room"
 mk_View:Mk K t.a_View t.a_View___init__
 mt_View_sizes:Meth K t.a_View "sizes" t.a_View_sizes
 mt_View_paces:Meth K t.a_View "paces" t.a_View_paces
 mt_View_count:Meth K t.a_View "count" t.a_View_count
 mt_View_cell:Meth K t.a_View "cell" t.a_View_cell
 mt_View_cells:Meth K t.a_View "cells" t.a_View_cells
 mt_View_least:Meth K t.a_View "least" t.a_View_least
 mt_View_greatest:Meth K t.a_View "greatest" t.a_View_greatest
 F_TooMany___init__:Fun K "__init__" "TooMany.__init__" s_TooMany___init__ t.a_TooMany___init__ t.d_TooMany___init__
 b_TooMany___init__:Binds K t.d_TooMany___init__ ["self", "number"] []
 F_is_whole:Fun K "is_whole" "is_whole" s_is_whole t.a_is_whole t.d_is_whole
 m_is_whole:mg "is_whole"=some (.ref t.a_is_whole)
 b_is_whole:Binds K t.d_is_whole ["thing"] []
 F_count_of:Fun K "count_of" "count_of" s_count_of t.a_count_of t.d_count_of
 m_count_of:mg "count_of"=some (.ref t.a_count_of)
 b_count_of:Binds K t.d_count_of ["sizes"] []
 F_is_number_below:Fun K "is_number_below" "is_number_below" s_is_number_below t.a_is_number_below t.d_is_number_below
 m_is_number_below:mg "is_number_below"=some (.ref t.a_is_number_below)
 b_is_number_below:Binds K t.d_is_number_below ["thing", "bound"] []
 F_is_place:Fun K "is_place" "is_place" s_is_place t.a_is_place t.d_is_place
 m_is_place:mg "is_place"=some (.ref t.a_is_place)
 b_is_place:Binds K t.d_is_place ["sizes", "thing"] []
 F_refuse_long:Fun K "refuse_long" "refuse_long" s_refuse_long t.a_refuse_long t.d_refuse_long
 m_refuse_long:mg "refuse_long"=some (.ref t.a_refuse_long)
 b_refuse_long:Binds K t.d_refuse_long ["count"] []
 F_refuse_count:Fun K "refuse_count" "refuse_count" s_refuse_count t.a_refuse_count t.d_refuse_count
 m_refuse_count:mg "refuse_count"=some (.ref t.a_refuse_count)
 b_refuse_count:Binds K t.d_refuse_count ["view", "many"] []
 F_Store___init__:Fun K "__init__" "Store.__init__" s_Store___init__ t.a_Store___init__ t.d_Store___init__
 b_Store___init__:Binds K t.d_Store___init__ ["self", "values"] []
 F_Store_all_values:Fun K "all_values" "Store.all_values" s_Store_all_values t.a_Store_all_values t.d_Store_all_values
 b_Store_all_values:Binds K t.d_Store_all_values ["self"] []
 F_Store_refuse_room:Fun K "refuse_room" "Store.refuse_room" s_Store_refuse_room t.a_Store_refuse_room t.d_Store_refuse_room
 b_Store_refuse_room:Binds K t.d_Store_refuse_room ["self", "view"] []
 F_Store_read:Fun K "read" "Store.read" s_Store_read t.a_Store_read t.d_Store_read
 b_Store_read:Binds K t.d_Store_read ["self", "view"] []
 F_Store_put:Fun K "put" "Store.put" s_Store_put t.a_Store_put t.d_Store_put
 b_Store_put:Binds K t.d_Store_put ["self", "view", "values"] []
 F_Store_fill:Fun K "fill" "Store.fill" s_Store_fill t.a_Store_fill t.d_Store_fill
 b_Store_fill:Binds K t.d_Store_fill ["self", "view", "value"] []
 F_Store_copied:Fun K "copied" "Store.copied" s_Store_copied t.a_Store_copied t.d_Store_copied
 b_Store_copied:Binds K t.d_Store_copied ["self", "to", "source"] []
 F_is_within:Fun K "is_within" "is_within" s_is_within t.a_is_within t.d_is_within
 m_is_within:mg "is_within"=some (.ref t.a_is_within)
 b_is_within:Binds K t.d_is_within ["thing", "low", "high"] []
 F_is_size:Fun K "is_size" "is_size" s_is_size t.a_is_size t.d_is_size
 m_is_size:mg "is_size"=some (.ref t.a_is_size)
 b_is_size:Binds K t.d_is_size ["thing"] []
 F_is_axis:Fun K "is_axis" "is_axis" s_is_axis t.a_is_axis t.d_is_axis
 m_is_axis:mg "is_axis"=some (.ref t.a_is_axis)
 b_is_axis:Binds K t.d_is_axis ["thing"] []
 F_are_axes:Fun K "are_axes" "are_axes" s_are_axes t.a_are_axes t.d_are_axes
 m_are_axes:mg "are_axes"=some (.ref t.a_are_axes)
 b_are_axes:Binds K t.d_are_axes ["thing"] []
 F_kept_axis:Fun K "kept_axis" "kept_axis" s_kept_axis t.a_kept_axis t.d_kept_axis
 m_kept_axis:mg "kept_axis"=some (.ref t.a_kept_axis)
 b_kept_axis:Binds K t.d_kept_axis ["axis"] []
 F_View___init__:Fun K "__init__" "View.__init__" s_View___init__ t.a_View___init__ t.d_View___init__
 b_View___init__:Binds K t.d_View___init__ ["self", "room", "first", "axes"] []
 F_View_sizes:Fun K "sizes" "View.sizes" s_View_sizes t.a_View_sizes t.d_View_sizes
 b_View_sizes:Binds K t.d_View_sizes ["self"] []
 F_View_paces:Fun K "paces" "View.paces" s_View_paces t.a_View_paces t.d_View_paces
 b_View_paces:Binds K t.d_View_paces ["self"] []
 F_View_count:Fun K "count" "View.count" s_View_count t.a_View_count t.d_View_count
 b_View_count:Binds K t.d_View_count ["self"] []
 F_View_cell:Fun K "cell" "View.cell" s_View_cell t.a_View_cell t.d_View_cell
 b_View_cell:Binds K t.d_View_cell ["self", "place"] []
 F_View_cells:Fun K "cells" "View.cells" s_View_cells t.a_View_cells t.d_View_cells
 b_View_cells:Binds K t.d_View_cells ["self"] []
 F_View_least:Fun K "least" "View.least" s_View_least t.a_View_least t.d_View_least
 b_View_least:Binds K t.d_View_least ["self"] []
 F_View_greatest:Fun K "greatest" "View.greatest" s_View_greatest t.a_View_greatest t.d_View_greatest
 b_View_greatest:Binds K t.d_View_greatest ["self"] []
 F_widened:Fun K "widened" "widened" s_widened t.a_widened t.d_widened
 m_widened:mg "widened"=some (.ref t.a_widened)
 b_widened:Binds K t.d_widened ["cells", "size", "pace"] []
 F_refuse_rooms:Fun K "refuse_rooms" "refuse_rooms" s_refuse_rooms t.a_refuse_rooms t.d_refuse_rooms
 m_refuse_rooms:mg "refuse_rooms"=some (.ref t.a_refuse_rooms)
 b_refuse_rooms:Binds K t.d_refuse_rooms ["one", "other"] []
 F_sources:Fun K "sources" "sources" s_sources t.a_sources t.d_sources
 m_sources:mg "sources"=some (.ref t.a_sources)
 b_sources:Binds K t.d_sources ["to", "source"] []
 F__law_draw:Fun K "_law_draw" "_law_draw" s__law_draw t.a__law_draw t.d__law_draw
 m__law_draw:mg "_law_draw"=some (.ref t.a__law_draw)
 b__law_draw:Binds K t.d__law_draw ["_law_script", "_law_k", "_law_many"] []
 F__law_whole:Fun K "_law_whole" "_law_whole" s__law_whole t.a__law_whole t.d__law_whole
 m__law_whole:mg "_law_whole"=some (.ref t.a__law_whole)
 b__law_whole:Binds K t.d__law_whole ["_law_found"] []
 F__law_word:Fun K "_law_word" "_law_word" s__law_word t.a__law_word t.d__law_word
 m__law_word:mg "_law_word"=some (.ref t.a__law_word)
 b__law_word:Binds K t.d__law_word ["_law_e"] []
 F__law_done:Fun K "_law_done" "_law_done" s__law_done t.a__law_done t.d__law_done
 m__law_done:mg "_law_done"=some (.ref t.a__law_done)
 b__law_done:Binds K t.d__law_done ["_law_way", "_law_store", "_law_one", "_law_other", "_law_values"] []
 F__law_is:Fun K "_law_is" "_law_is" s__law_is t.a__law_is t.d__law_is
 m__law_is:mg "_law_is"=some (.ref t.a__law_is)
 b__law_is:Binds K t.d__law_is ["_law_found", "_law_word_here", "_law_number"] []
 F__law_many_view:Fun K "_law_many_view" "_law_many_view" s__law_many_view t.a__law_many_view t.d__law_many_view
 m__law_many_view:mg "_law_many_view"=some (.ref t.a__law_many_view)
 b__law_many_view:Binds K t.d__law_many_view ["_law_script", "_law_room", "_law_at"] []
 F__law_views_refused:Fun K "_law_views_refused" "_law_views_refused" s__law_views_refused t.a__law_views_refused t.d__law_views_refused
 m__law_views_refused:mg "_law_views_refused"=some (.ref t.a__law_views_refused)
 b__law_views_refused:Binds K t.d__law_views_refused ["_law_script", "_law_room", "_law_store"] []
 F_law:Fun K "law" "law" s_law t.a_law t.d_law
 m_law:mg "law"=some (.ref t.a_law)
 b_law:Binds K t.d_law ["_law_script"] []
 z_ValueError:mg "ValueError"=none
 z_all:mg "all"=none
 z_bool:mg "bool"=none
 z_int:mg "int"=none
 z_isinstance:mg "isinstance"=none
 z_len:mg "len"=none
 z_list:mg "list"=none
 z_max:mg "max"=none
 z_min:mg "min"=none
 z_range:mg "range"=none
 z_sum:mg "sum"=none
 z_tuple:mg "tuple"=none
 z_zip:mg "zip"=none
theorem Tx.e_NoCells {K:PySem.W.Frag}{mg:Str->Option Value}{t:Adr}(T:Tx K mg t):ECls K t.a_NoCells:=⟨T.ga_NoCells,T.gn_NoCells,T.mb_NoCells,T.mo_NoCells,T.fc_NoCells,T.ocs,T.oct,T.hd_NoCells⟩
theorem Tx.e_TooMany {K:PySem.W.Frag}{mg:Str->Option Value}{t:Adr}(T:Tx K mg t):ECls K t.a_TooMany:=⟨T.ga_TooMany,T.gn_TooMany,T.mb_TooMany,T.mo_TooMany,T.fc_TooMany,T.ocs,T.oct,T.hd_TooMany⟩
theorem Tx.e_NoView {K:PySem.W.Frag}{mg:Str->Option Value}{t:Adr}(T:Tx K mg t):ECls K t.a_NoView:=⟨T.ga_NoView,T.gn_NoView,T.mb_NoView,T.mo_NoView,T.fc_NoView,T.ocs,T.oct,T.hd_NoView⟩
theorem Tx.e_NoCount {K:PySem.W.Frag}{mg:Str->Option Value}{t:Adr}(T:Tx K mg t):ECls K t.a_NoCount:=⟨T.ga_NoCount,T.gn_NoCount,T.mb_NoCount,T.mo_NoCount,T.fc_NoCount,T.ocs,T.oct,T.hd_NoCount⟩
theorem Tx.e_NoPair {K:PySem.W.Frag}{mg:Str->Option Value}{t:Adr}(T:Tx K mg t):ECls K t.a_NoPair:=⟨T.ga_NoPair,T.gn_NoPair,T.mb_NoPair,T.mo_NoPair,T.fc_NoPair,T.ocs,T.oct,T.hd_NoPair⟩
theorem Tx.k_NoCells_NoCells {K:PySem.W.Frag}{mg:Str->Option Value}{t:Adr}(T:Tx K mg t):PySem.W.kitOne K (.ref t.a_NoCells) (.ref t.a_NoCells)=some true:=kit_yes T.kc_NoCells_NoCells T.kt_NoCells_NoCells T.ks_NoCells_NoCells
theorem Tx.k_NoCells_TooMany {K:PySem.W.Frag}{mg:Str->Option Value}{t:Adr}(T:Tx K mg t):PySem.W.kitOne K (.ref t.a_NoCells) (.ref t.a_TooMany)=some false:=kit_no T.kn_NoCells_TooMany T.kc_NoCells_TooMany T.kt_NoCells_TooMany T.ks_NoCells_TooMany
theorem Tx.k_NoCells_NoView {K:PySem.W.Frag}{mg:Str->Option Value}{t:Adr}(T:Tx K mg t):PySem.W.kitOne K (.ref t.a_NoCells) (.ref t.a_NoView)=some false:=kit_no T.kn_NoCells_NoView T.kc_NoCells_NoView T.kt_NoCells_NoView T.ks_NoCells_NoView
theorem Tx.k_NoCells_NoCount {K:PySem.W.Frag}{mg:Str->Option Value}{t:Adr}(T:Tx K mg t):PySem.W.kitOne K (.ref t.a_NoCells) (.ref t.a_NoCount)=some false:=kit_no T.kn_NoCells_NoCount T.kc_NoCells_NoCount T.kt_NoCells_NoCount T.ks_NoCells_NoCount
theorem Tx.k_NoCells_NoPair {K:PySem.W.Frag}{mg:Str->Option Value}{t:Adr}(T:Tx K mg t):PySem.W.kitOne K (.ref t.a_NoCells) (.ref t.a_NoPair)=some false:=kit_no T.kn_NoCells_NoPair T.kc_NoCells_NoPair T.kt_NoCells_NoPair T.ks_NoCells_NoPair
theorem Tx.k_TooMany_NoCells {K:PySem.W.Frag}{mg:Str->Option Value}{t:Adr}(T:Tx K mg t):PySem.W.kitOne K (.ref t.a_TooMany) (.ref t.a_NoCells)=some false:=kit_no T.kn_TooMany_NoCells T.kc_TooMany_NoCells T.kt_TooMany_NoCells T.ks_TooMany_NoCells
theorem Tx.k_TooMany_TooMany {K:PySem.W.Frag}{mg:Str->Option Value}{t:Adr}(T:Tx K mg t):PySem.W.kitOne K (.ref t.a_TooMany) (.ref t.a_TooMany)=some true:=kit_yes T.kc_TooMany_TooMany T.kt_TooMany_TooMany T.ks_TooMany_TooMany
theorem Tx.k_TooMany_NoView {K:PySem.W.Frag}{mg:Str->Option Value}{t:Adr}(T:Tx K mg t):PySem.W.kitOne K (.ref t.a_TooMany) (.ref t.a_NoView)=some false:=kit_no T.kn_TooMany_NoView T.kc_TooMany_NoView T.kt_TooMany_NoView T.ks_TooMany_NoView
theorem Tx.k_TooMany_NoCount {K:PySem.W.Frag}{mg:Str->Option Value}{t:Adr}(T:Tx K mg t):PySem.W.kitOne K (.ref t.a_TooMany) (.ref t.a_NoCount)=some false:=kit_no T.kn_TooMany_NoCount T.kc_TooMany_NoCount T.kt_TooMany_NoCount T.ks_TooMany_NoCount
theorem Tx.k_TooMany_NoPair {K:PySem.W.Frag}{mg:Str->Option Value}{t:Adr}(T:Tx K mg t):PySem.W.kitOne K (.ref t.a_TooMany) (.ref t.a_NoPair)=some false:=kit_no T.kn_TooMany_NoPair T.kc_TooMany_NoPair T.kt_TooMany_NoPair T.ks_TooMany_NoPair
theorem Tx.k_NoView_NoCells {K:PySem.W.Frag}{mg:Str->Option Value}{t:Adr}(T:Tx K mg t):PySem.W.kitOne K (.ref t.a_NoView) (.ref t.a_NoCells)=some false:=kit_no T.kn_NoView_NoCells T.kc_NoView_NoCells T.kt_NoView_NoCells T.ks_NoView_NoCells
theorem Tx.k_NoView_TooMany {K:PySem.W.Frag}{mg:Str->Option Value}{t:Adr}(T:Tx K mg t):PySem.W.kitOne K (.ref t.a_NoView) (.ref t.a_TooMany)=some false:=kit_no T.kn_NoView_TooMany T.kc_NoView_TooMany T.kt_NoView_TooMany T.ks_NoView_TooMany
theorem Tx.k_NoView_NoView {K:PySem.W.Frag}{mg:Str->Option Value}{t:Adr}(T:Tx K mg t):PySem.W.kitOne K (.ref t.a_NoView) (.ref t.a_NoView)=some true:=kit_yes T.kc_NoView_NoView T.kt_NoView_NoView T.ks_NoView_NoView
theorem Tx.k_NoView_NoCount {K:PySem.W.Frag}{mg:Str->Option Value}{t:Adr}(T:Tx K mg t):PySem.W.kitOne K (.ref t.a_NoView) (.ref t.a_NoCount)=some false:=kit_no T.kn_NoView_NoCount T.kc_NoView_NoCount T.kt_NoView_NoCount T.ks_NoView_NoCount
theorem Tx.k_NoView_NoPair {K:PySem.W.Frag}{mg:Str->Option Value}{t:Adr}(T:Tx K mg t):PySem.W.kitOne K (.ref t.a_NoView) (.ref t.a_NoPair)=some false:=kit_no T.kn_NoView_NoPair T.kc_NoView_NoPair T.kt_NoView_NoPair T.ks_NoView_NoPair
theorem Tx.k_NoCount_NoCells {K:PySem.W.Frag}{mg:Str->Option Value}{t:Adr}(T:Tx K mg t):PySem.W.kitOne K (.ref t.a_NoCount) (.ref t.a_NoCells)=some false:=kit_no T.kn_NoCount_NoCells T.kc_NoCount_NoCells T.kt_NoCount_NoCells T.ks_NoCount_NoCells
theorem Tx.k_NoCount_TooMany {K:PySem.W.Frag}{mg:Str->Option Value}{t:Adr}(T:Tx K mg t):PySem.W.kitOne K (.ref t.a_NoCount) (.ref t.a_TooMany)=some false:=kit_no T.kn_NoCount_TooMany T.kc_NoCount_TooMany T.kt_NoCount_TooMany T.ks_NoCount_TooMany
theorem Tx.k_NoCount_NoView {K:PySem.W.Frag}{mg:Str->Option Value}{t:Adr}(T:Tx K mg t):PySem.W.kitOne K (.ref t.a_NoCount) (.ref t.a_NoView)=some false:=kit_no T.kn_NoCount_NoView T.kc_NoCount_NoView T.kt_NoCount_NoView T.ks_NoCount_NoView
theorem Tx.k_NoCount_NoCount {K:PySem.W.Frag}{mg:Str->Option Value}{t:Adr}(T:Tx K mg t):PySem.W.kitOne K (.ref t.a_NoCount) (.ref t.a_NoCount)=some true:=kit_yes T.kc_NoCount_NoCount T.kt_NoCount_NoCount T.ks_NoCount_NoCount
theorem Tx.k_NoCount_NoPair {K:PySem.W.Frag}{mg:Str->Option Value}{t:Adr}(T:Tx K mg t):PySem.W.kitOne K (.ref t.a_NoCount) (.ref t.a_NoPair)=some false:=kit_no T.kn_NoCount_NoPair T.kc_NoCount_NoPair T.kt_NoCount_NoPair T.ks_NoCount_NoPair
theorem Tx.k_NoPair_NoCells {K:PySem.W.Frag}{mg:Str->Option Value}{t:Adr}(T:Tx K mg t):PySem.W.kitOne K (.ref t.a_NoPair) (.ref t.a_NoCells)=some false:=kit_no T.kn_NoPair_NoCells T.kc_NoPair_NoCells T.kt_NoPair_NoCells T.ks_NoPair_NoCells
theorem Tx.k_NoPair_TooMany {K:PySem.W.Frag}{mg:Str->Option Value}{t:Adr}(T:Tx K mg t):PySem.W.kitOne K (.ref t.a_NoPair) (.ref t.a_TooMany)=some false:=kit_no T.kn_NoPair_TooMany T.kc_NoPair_TooMany T.kt_NoPair_TooMany T.ks_NoPair_TooMany
theorem Tx.k_NoPair_NoView {K:PySem.W.Frag}{mg:Str->Option Value}{t:Adr}(T:Tx K mg t):PySem.W.kitOne K (.ref t.a_NoPair) (.ref t.a_NoView)=some false:=kit_no T.kn_NoPair_NoView T.kc_NoPair_NoView T.kt_NoPair_NoView T.ks_NoPair_NoView
theorem Tx.k_NoPair_NoCount {K:PySem.W.Frag}{mg:Str->Option Value}{t:Adr}(T:Tx K mg t):PySem.W.kitOne K (.ref t.a_NoPair) (.ref t.a_NoCount)=some false:=kit_no T.kn_NoPair_NoCount T.kc_NoPair_NoCount T.kt_NoPair_NoCount T.ks_NoPair_NoCount
theorem Tx.k_NoPair_NoPair {K:PySem.W.Frag}{mg:Str->Option Value}{t:Adr}(T:Tx K mg t):PySem.W.kitOne K (.ref t.a_NoPair) (.ref t.a_NoPair)=some true:=kit_yes T.kc_NoPair_NoPair T.kt_NoPair_NoPair T.ks_NoPair_NoPair
theorem Tx.k_NoCells_ValueError {K:PySem.W.Frag}{mg:Str->Option Value}{t:Adr}(T:Tx K mg t):PySem.W.kitOne K (.ref t.a_NoCells) (.type "ValueError")=some true:=kit_ty (by decide +kernel) T.ks_NoCells_ValueError
theorem Tx.k_TooMany_ValueError {K:PySem.W.Frag}{mg:Str->Option Value}{t:Adr}(T:Tx K mg t):PySem.W.kitOne K (.ref t.a_TooMany) (.type "ValueError")=some true:=kit_ty (by decide +kernel) T.ks_TooMany_ValueError
theorem Tx.k_NoView_ValueError {K:PySem.W.Frag}{mg:Str->Option Value}{t:Adr}(T:Tx K mg t):PySem.W.kitOne K (.ref t.a_NoView) (.type "ValueError")=some true:=kit_ty (by decide +kernel) T.ks_NoView_ValueError
theorem Tx.k_NoCount_ValueError {K:PySem.W.Frag}{mg:Str->Option Value}{t:Adr}(T:Tx K mg t):PySem.W.kitOne K (.ref t.a_NoCount) (.type "ValueError")=some true:=kit_ty (by decide +kernel) T.ks_NoCount_ValueError
theorem Tx.k_NoPair_ValueError {K:PySem.W.Frag}{mg:Str->Option Value}{t:Adr}(T:Tx K mg t):PySem.W.kitOne K (.ref t.a_NoPair) (.type "ValueError")=some true:=kit_ty (by decide +kernel) T.ks_NoPair_ValueError
local macro_rules | `(tactic| trivial) => `(tactic| first | exact Or.inl rfl | exact Or.inr rfl | exact Or.inr (Or.inl rfl) | exact Or.inr (Or.inr rfl) | assumption)
local macro_rules | `(tactic| simp! only [$xs,*]) => do
  let ys := xs.getElems.map fun x => (⟨x.raw⟩ : Lean.TSyntax `Lean.Parser.Tactic.simpLemma)
  let zs ← ("↓reduceIte ↓optK_some ↓gName_0 ↓gName_1 ↓gName_2 ↓gName_3 ↓gName_4 ↓gName_5 ↓gName_6 ↓gName_7 ↓gName_8 ↓gName_9 ↓gName_10 ↓gName_11 ↓gName_12 ↓gName_13 ↓gName_14 ↓gName_15 ↓gName_16 ↓gName_17 ↓gName_18 ↓gName_19 ↓m_kOp' ↓m_kOp ↓m_tOp ↓m_tC ↓m_kUn ↓m_tUn ↓m_kNot ↓m_tNot ↓m_kOr ↓m_tOr ↓m_kIfE ↓m_tIf ↓m_kCh3 ↓m_tNil ↓m_kCons' ↓m_kCons ↓m_tCons ↓m_kCall_1 ↓m_kCall_2 ↓m_kCall_3 ↓m_kCall_5 ↓m_tCall ↓m_kCB ↓m_tCB ↓m_tNext ↓m_tSeq ↓m_tRet ↓m_kDrop ↓m_tDrop ↓m_kIfS ↓m_tIfS ↓m_kAsg ↓m_tAsg ↓m_kGs ↓m_kLen ↓m_qLen ↓m_kIx' ↓m_kIx ↓m_qIx ↓m_qMax ↓m_qMin ↓m_qIsi_int ↓m_qIsi_bool ↓m_qIsi_tuple ↓m_qIsi_list ↓m_kIsi_Ni ↓m_kIsi_bb ↓m_kIsi_bi ↓m_kIsi_ib ↓m_kIsi_ii ↓m_kIsi_si ↓m_kIsi_li ↓m_kIsi_ll ↓m_kIsi_ti ↓m_kIsi_tt ↓m_kIsi_di ↓m_kBM' ↓m_kBM ↓m_tBM ↓m_kApp ↓m_rAppend ↓m_kSet' ↓m_kSet ↓m_rSetL ↓m_kGSub3 ↓m_kGSub2 ↓m_gSub ↓m_kGT ↓m_qGT ↓m_kBody ↓m_tFor ↓m_kR1 ↓m_iRng1 ↓m_kISq'_l ↓m_kISq ↓m_iSeq ↓m_tCallX ↓m_kTry ↓m_tTry ↓m_kRaise ↓m_tRaise ↓m_kSetE ↓m_del ↓m_dictO_none ↓m_dictO_some ↓m_kXd ↓m_kE4 ↓m_kE3 ↓m_kE2 ↓m_kE1 ↓m_qIsE ↓m_tYes ↓m_tComp ↓m_kSetC ↓m_tSetC ↓m_datV ↓m_datF_int ↓m_datF_str ↓m_datF_ref ↓m_datO_lst ↓m_datO_tup ↓m_allSome_nil ↓m_allSome_cons ↓m_kEq2_t ↓m_kEq2_f ↓m_kEq1 ↓m_qEq_refr ↓m_qEq_int_int ↓m_qNe_int_int ↓m_qEq_str_str ↓m_kInts ↓m_kSl3 ↓m_kSl2 ↓m_kSl1 ↓m_tSl ↓m_kPart ↓m_tPart ↓m_kQT ↓m_kQL ↓m_qTup ↓m_qLst ↓m_kN ↓m_nList ↓m_kNC2 ↓m_kNC1 ↓m_nCat ↓m_kNS ↓m_nSl ↓m_nDNew ↓m_kSumI ↓m_qSum ↓m_kBls ↓m_kAllB ↓m_qAll ↓m_kZ2_l ↓m_kZ1_l ↓m_kZ0 ↓m_iZip ↓m_kCm2 ↓m_kCm_1 ↓m_kCm_2 ↓m_rep_1 ↓m_rep_2 ↓m_kFldV ↓m_kFldO ↓m_kFld ↓m_nFld ↓m_kSetO ↓m_kSet1 ↓m_kSet0 ↓m_nSetF ↓m_kMethA_0 ↓m_kMethA_1 ↓m_kMethA_2 ↓m_kMethO ↓m_kMeth ↓m_nMeth ↓m_kMade ↓m_kMake_1 ↓m_kMake_3 ↓m_nMake ↓m_tXI ↓m_xSetF ↓m_kXS0 ↓m_tRaiseI ↓m_tXF ↓m_kExt2 ↓m_kExt1 ↓m_rExtend ↓m_nMethX ↓m_tLR ↓m_kDG0 ↓m_tDGet ↓m_kDP1 ↓m_kDP0 ↓m_sDPut ↓m_tV_0 ↓m_tV_1 ↓m_tV_2 ↓m_tV_3 ↓m_tV_4 ↓m_tV_5 ↓m_tV_6 ↓m_tV_7 ↓m_tV_8 ↓m_tV_9 ↓m_tV_10 ↓m_tV_12 ↓m_tV_13 ↓m_tV_14 ↓m_tV_15 ↓m_tV_16 ↓m_tV_17 ↓m_tV_18 ↓m_tV_19 ↓m_nI0 ↓m_nI ↓m_nU ↓m_kTestN ↓m_nTest ↓m_kAndN ↓m_nAndV ↓m_kNotN ↓m_nNotV ↓m_kChN2 ↓m_kChN1 ↓m_kChN0 ↓m_nChain ↓m_gNilN ↓m_gConsN ↓m_tCallH ↓m_nCntB ↓m_kIdxB ↓m_nIdxB ↓m_kExcAH ↓m_tExcAH ↓m_kRepO ↓m_nRepO ↓m_nMakeX optK_some itemsAt lstAt tupAt seqO_lst seqO_tup lstO_lst tupO_tup bind_some' upd_same upd_upd tyO_lst tyO_tup tyN_non tyN_bl tyN_int tyN_str tyN_ref tyV_list isW_int' cx_K refC_ref clsV_ref clsV_ty atI_0 atI_1 atI_2 atI_3 atI_4 eqv_int eqv_str eqv_tuple eqv_list eqvAll_nil eqvAll_cons eqvAll_ints allSome_ints CPow_10 Option.isSome_some Option.isSome_none Option.map_some List.length_cons List.length_nil List.length_map List.map_cons List.map_nil and_true true_and and_self implies_true reduceCtorEq decide_true decide_false Bool.not_true Bool.not_false if_true if_false decide_eq_true_eq Bool.false_eq_true Bool.not_eq_true' decide_eq_false_iff_not Bool.and_true Bool.true_and Bool.and_self Bool.and_eq_true Int.reduceToNat Int.reducePow Int.reduceMul Int.reduceAdd Int.reduceSub Int.reduceNeg Int.reduceLT Int.reduceLE Int.reduceEq Int.reduceNe Int.reduceDiv Int.reduceMod Nat.reduceAdd Nat.reduceLeDiff Nat.reduceLT Nat.reduceMul Nat.reducePow gt_iff_lt ge_iff_le ne_eq false_implies true_implies eq_self String.reduceEq Int.cast_ofNat_Int not_true_eq_false not_false_eq_true false_and and_false List.cons_append List.nil_append List.append_nil lenLe lenLt".splitOn " ").toArray.mapM fun s => if s.startsWith "↓" then `(Lean.Parser.Tactic.simpLemma| ↓ $(Lean.mkIdent (s.replace "↓" "").toName):ident) else `(Lean.Parser.Tactic.simpLemma| $(Lean.mkIdent s.toName):ident)
  `(tactic| simp (config := { failIfUnchanged := false, maxDischargeDepth := 30, maxSteps := 10000000 }) only [$zs,*, $ys,*, *])
section
variable {P:Program}{w:World}{K:PySem.W.Frag}{mg:Str->Option Value}{base:Heap}{t:Adr}
def spDraw (K:PySem.W.Frag) (a:Addr) (ns:List Int):Sp:=fun vs H Q E=>∃ (k:Int) (m:Int),vs=[.ref a,.int k,.int m]∧(SqL K H a (ns.map V.int)∧ns.length≤63∧(0≤k∧k < 1000)∧0 < m∧∀ z:Int,0≤z->z < m->Q (.int z) H)
theorem c_spDraw (K:PySem.W.Frag) (a:Addr) (ns:List Int) (k:Int) (m:Int) (H:Hp) (Q:VK) (E:XK):spDraw K a ns [.ref a,.int k,.int m] H Q E=(SqL K H a (ns.map V.int)∧ns.length≤63∧(0≤k∧k < 1000)∧0 < m∧∀ z:Int,0≤z->z < m->Q (.int z) H):=spx2 (f:=fun (k:Int) (m:Int)=>[.ref a,.int k,.int m]) (fun _ _ _ _ h=>by cases h;exact ⟨rfl,rfl⟩) k m
theorem l_spDraw (K:PySem.W.Frag) (a:Addr) (ns:List Int){vs:List V}{H:Hp}{Q:VK}{E:XK}(h:spDraw K a ns vs H Q E):vs.length=3:=spl2 h fun _ _=>rfl
theorem ok__law_draw (T:Tx K mg t) (a:Addr) (ns:List Int):FnOk P w K mg base CX0 1 t.a__law_draw t.d__law_draw ["_law_script", "_law_k", "_law_many"] (spDraw K a ns):=by
 refine T.F__law_draw.ok c__law_draw (fun vs H Q E h=>l_spDraw _ _ _ h) (fun cdv A outer s H vs Q E hr h=>?_)
 ·obtain ⟨k,m,rfl,hS,hl,⟨hk0,hk1⟩,hm,kk⟩:=h
  have fin:∀ z:Int,Q (.int (z % m)) H:=fun z=>kk _ (Int.emod_nonneg _ (by omega)) (Int.emod_lt_of_pos _ hm)
  refine ⟨_,(pss_cons (ps_if (pt_cmpR op_lt (pv 1) (pe_callB (id := "len") call_len_seq (by rfl) T.z_len (by decide +kernel) (pa_c (pv 0) pa_nil)) (nomark _))
   (pss_one (ps_ret (pe_op op_mod (pe_ix ix_list (pv 0) (pv 1) (fun _ _=>rfl)) (pv 2))))
   pss_nil)
  (pss_cons (ps_set (i:=3) c__law_draw.nd rfl (Or.inl rfl) (pe_op op_add (pe_op op_mul (pe_op op_mul (pv 1) (pv 1)) pe_int) pe_int))
  (pss_cons (ps_if (pt_cmpR op_gt (pe_callB (id := "len") call_len_seq (by rfl) T.z_len (by decide +kernel) (pa_c (pv 0) pa_nil)) pe_int (nomark _))
   (pss_cons (ps_set (i:=4) c__law_draw.nd rfl (Or.inl rfl) (pe_op op_mod (pe_ix ix_list (pv 0) (pe_op op_mod (pv 1) (pe_callB (id := "len") call_len_seq (by rfl) T.z_len (by decide +kernel) (pa_c (pv 0) pa_nil))) (fun _ _=>rfl)) pe_int))
   (pss_one (ps_set (i:=3) c__law_draw.nd rfl (Or.inl rfl) (pe_op op_add (pe_op op_mul (pv 4) (pe_op op_add pe_int (pe_op op_mul (pe_op op_mul pe_int (pv 1)) (pv 1)))) (pe_op op_mul (pv 1) pe_int)))))
   pss_nil)
  (pss_one (ps_ret (pe_op op_mod (pe_op op_mod (pe_op op_mul (pe_op op_mod (pv 3) pe_int) pe_int) pe_int) (pv 2))))))),?_⟩
  refine ⟨_,rfl,_,rfl,a,_,rfl,.inl hS,_,_,rfl,rfl,_,rfl,?_⟩
  refine ite2 (fun h=>?_) (fun h=>?_)
  ·have h1:k < (ns.length:Int):=by simpa using h
   obtain ⟨z,hz,_⟩:=atI_ints ns k hk0 h1
   exact ⟨_,rfl,_,rfl,a,_,k,_,rfl,rfl,hS,hz,_,rfl,_,_,rfl,rfl,hm,fin _⟩
  ·refine ⟨_,rfl,_,rfl,_,_,rfl,rfl,.inl ⟨by omega,by omega⟩,_,_,rfl,rfl,.inr ⟨by decide,by decide⟩,_,_,rfl,rfl,?_⟩
   refine ⟨_,rfl,a,_,rfl,.inl hS,_,_,rfl,rfl,_,rfl,?_⟩
   refine ite2 (fun h2=>?_) (fun h2=>?_)
   ·have h3:0 < (ns.length:Int):=by simpa using h2
    have h4:(0:Int) < ((ns.map V.int).length:Int):=by simpa using h3
    obtain ⟨z,hz,_⟩:=atI_ints ns (k % ((ns.map V.int).length:Int)) (Int.emod_nonneg _ (by omega)) (by have:=Int.emod_lt_of_pos k h4;simpa using this)
    refine ⟨_,rfl,_,rfl,_,rfl,a,_,rfl,.inl hS,_,_,rfl,rfl,h4,a,_,_,_,rfl,rfl,hS,hz,_,_,rfl,rfl,(by first|decide|(show (0:Int) < _;decide)),?_⟩
    refine ⟨_,rfl,_,rfl,_,_,rfl,rfl,.inl ⟨by decide,by decide⟩,_,rfl,_,_,rfl,rfl,.inr ⟨by omega,by omega⟩,_,_,rfl,rfl,_,_,rfl,rfl,?_,?_⟩
    ·refine .inl ⟨?_,?_⟩
     ·have:=Int.emod_nonneg z (show (999999937:Int) ≠ 0 by decide);omega
     ·have:=Int.emod_lt_of_pos z (show (0:Int) < 999999937 by decide);omega
    refine ⟨_,rfl,_,_,rfl,rfl,.inr ⟨by decide,by decide⟩,_,_,rfl,rfl,?_⟩
    exact ⟨_,rfl,_,_,rfl,rfl,(by first|decide|(show (0:Int) < _;decide)),_,_,rfl,rfl,.inr ⟨by decide,by decide⟩,_,_,rfl,rfl,(by first|decide|(show (0:Int) < _;decide)),_,rfl,_,_,rfl,rfl,hm,fin _⟩
   ·exact ⟨_,rfl,_,_,rfl,rfl,(by first|decide|(show (0:Int) < _;decide)),_,_,rfl,rfl,.inr ⟨by decide,by decide⟩,_,_,rfl,rfl,(by first|decide|(show (0:Int) < _;decide)),_,rfl,_,_,rfl,rfl,hm,fin _⟩
def spWhole  : Sp:=fun vs H Q E=>∃ (x:V),vs=[x]∧(optK (isW H x) (kE4 H Q))
theorem c_spWhole  (x:V) (H:Hp) (Q:VK) (E:XK):spWhole  [x] H Q E=(optK (isW H x) (kE4 H Q)):=spx1 (f:=fun (x:V)=>[x]) (fun _ _ h=>by cases h;exact rfl) x
theorem l_spWhole  {vs:List V}{H:Hp}{Q:VK}{E:XK}(h:spWhole  vs H Q E):vs.length=1:=spl1 h fun _=>rfl
theorem ok__law_whole (T:Tx K mg t):FnOk P w K mg base CX0 1 t.a__law_whole t.d__law_whole ["_law_found"] spWhole:=by
 refine T.F__law_whole.ok c__law_whole (fun vs H Q E h=>l_spWhole h) (fun cdv A outer s H vs Q E hr h=>?_)
 ·obtain ⟨x,rfl,h⟩:=h
  obtain ⟨b,hb,k⟩:=optK_ex h
  clear h
  rw [m_kE4] at k
  refine ⟨_,(@pss_one _ _ _ (@ps_ret _ _ _ _ (@pe_andN _ _ _ _ _ _ _ (@pe_callB _ _ _ _ _ _ _ ("isinstance") _ call_qIsi (by rfl) T.z_isinstance (by decide +kernel) (@pa_c _ _ _ _ _ (@pvN _ 0 _ _ (by rfl) (by trivial) (by decide) (by decide)) (@pa_c _ _ _ _ _ (@pe_bltn _ _ (.ty "int") (.type "int") _ (by rfl) T.z_int (by decide +kernel) rfl (by decide) (by decide)) (@pa_nil _) (by rfl)) (by rfl)) (by decide) (by decide) (by rfl) (by rfl)) (@pe_one _ _ _ _ _ (@pe_notN _ _ _ _ (@pe_callB _ _ _ _ _ _ _ ("isinstance") _ call_qIsi (by rfl) T.z_isinstance (by decide +kernel) (@pa_c _ _ _ _ _ (@pvN _ 0 _ _ (by rfl) (by trivial) (by decide) (by decide)) (@pa_c _ _ _ _ _ (@pe_bltn _ _ (.ty "bool") (.type "bool") _ (by rfl) T.z_bool (by decide +kernel) rfl (by decide) (by decide)) (@pa_nil _) (by rfl)) (by rfl)) (by decide) (by decide) (by rfl) (by rfl))))))),?_⟩
  rw [show start ["_law_found"] [x]=[some (x)] from rfl]
  cases x with
  | int i=>cases hb;simp! only [and_true]
  | bl i=>cases hb;simp! only [and_true]
  | non=>cases hb;simp! only [and_true]
  | str i=>cases hb;simp! only [and_true]
  | ref p=>
   obtain ⟨rfl,o,ho,ht⟩:=isW_obj hb
   rcases ht with ht|ht|ht<;>simp! only [and_true]
  | _=>cases hb
theorem ok_is_whole (T:Tx K mg t):FnOk P w K mg base CX0 1 t.a_is_whole t.d_is_whole ["thing"] spWhole:=by
 refine T.F_is_whole.ok c_is_whole (fun vs H Q E h=>l_spWhole h) (fun cdv A outer s H vs Q E hr h=>?_)
 ·obtain ⟨x,rfl,h⟩:=h
  obtain ⟨b,hb,k⟩:=optK_ex h
  clear h
  rw [m_kE4] at k
  refine ⟨_,(@pss_one _ _ _ (@ps_ret _ _ _ _ (@pe_andN _ _ _ _ _ _ _ (@pe_callB _ _ _ _ _ _ _ ("isinstance") _ call_qIsi (by rfl) T.z_isinstance (by decide +kernel) (@pa_c _ _ _ _ _ (@pvN _ 0 _ _ (by rfl) (by trivial) (by decide) (by decide)) (@pa_c _ _ _ _ _ (@pe_bltn _ _ (.ty "int") (.type "int") _ (by rfl) T.z_int (by decide +kernel) rfl (by decide) (by decide)) (@pa_nil _) (by rfl)) (by rfl)) (by decide) (by decide) (by rfl) (by rfl)) (@pe_one _ _ _ _ _ (@pe_notN _ _ _ _ (@pe_callB _ _ _ _ _ _ _ ("isinstance") _ call_qIsi (by rfl) T.z_isinstance (by decide +kernel) (@pa_c _ _ _ _ _ (@pvN _ 0 _ _ (by rfl) (by trivial) (by decide) (by decide)) (@pa_c _ _ _ _ _ (@pe_bltn _ _ (.ty "bool") (.type "bool") _ (by rfl) T.z_bool (by decide +kernel) rfl (by decide) (by decide)) (@pa_nil _) (by rfl)) (by rfl)) (by decide) (by decide) (by rfl) (by rfl))))))),?_⟩
  rw [show start ["thing"] [x]=[some (x)] from rfl]
  cases x with
  | int i=>cases hb;simp! only [and_true]
  | bl i=>cases hb;simp! only [and_true]
  | non=>cases hb;simp! only [and_true]
  | str i=>cases hb;simp! only [and_true]
  | ref p=>
   obtain ⟨rfl,o,ho,ht⟩:=isW_obj hb
   rcases ht with ht|ht|ht<;>simp! only [and_true]
  | _=>cases hb
def kSz (F:List Int->Prop):List Int->Prop:=fun ns=>Sizes ns∧F ns
theorem m_kSz (F:List Int->Prop) (ns:List Int):kSz F ns=(Sizes ns∧F ns):=rfl
def kCnt (H:Hp) (Q:VK):List Int->Prop:=fun ns=>Q (.int (prodL ns)) H
theorem x_kCnt (H:Hp) (Q:VK) (ns:List Int):kCnt H Q ns=Q (.int (prodL ns)) H:=rfl
def spCount  : Sp:=fun vs H Q E=>∃ (p:Addr),vs=[.ref p]∧(optK (lstAt H p) (kInts (kSz (kCnt H Q))))
theorem c_spCount  (p:Addr) (H:Hp) (Q:VK) (E:XK):spCount  [.ref p] H Q E=(optK (lstAt H p) (kInts (kSz (kCnt H Q)))):=spx1 (f:=fun (p:Addr)=>[.ref p]) (fun _ _ h=>by cases h;exact rfl) p
theorem l_spCount  {vs:List V}{H:Hp}{Q:VK}{E:XK}(h:spCount  vs H Q E):vs.length=1:=spl1 h fun _=>rfl
theorem ok_count_of (T:Tx K mg t):FnOk P w K mg base CX0 1 t.a_count_of t.d_count_of ["sizes"] spCount:=by
 refine T.F_count_of.ok c_count_of (fun vs H Q E h=>l_spCount h) (fun cdv A outer s H vs Q E hr h=>?_)
 ·obtain ⟨p,rfl,h⟩:=h
  obtain ⟨xs,hp,ns,rfl,hs,k⟩:=optK_ex h
  replace hp:=lst_of hp
  rw [x_kCnt] at k
  refine ⟨_,(@pss_cons _ _ _ _ _ (@ps_set _ _ (1) _ _ _ _ c_count_of.nd rfl (Or.inl rfl) (@pe_int _ _ _ _) (by rfl) (by trivial)) (@pss_cons _ _ _ _ _ (@ps_for _ _ _ _ _ _ _ _ PassesOwn.never rfl (@pi_seq _ _ _ _ (@pvN _ 0 _ _ (by rfl) (by trivial) (by decide) (by decide))) (@pg_name _ _ (2) _ c_count_of.nd rfl (Or.inl rfl) (by trivial)) (@pss_one _ _ _ (@ps_set _ _ (1) _ _ _ _ c_count_of.nd rfl (Or.inl rfl) (@pe_op _ _ _ _ _ _ _ _ on_mulB (@pvN _ 1 _ _ (by rfl) (by trivial) (by decide) (by decide)) (@pvN _ 2 _ _ (by rfl) (by trivial) (by decide) (by decide))) (by rfl) (by trivial))) (by intros;rfl)) (@pss_one _ _ _ (@ps_ret _ _ _ _ (@pvN _ 1 _ _ (by rfl) (by trivial) (by decide) (by decide)))))),?_⟩
  rw [show start ["sizes", "count", "size"] [.ref p]=[some (.ref p),none,none] from rfl]
  simp! only [and_true]
  refine for_lst (xs:=ns.map V.int) (fun i σ H'=>∃ v:Option V,σ=[some (.ref p),some (.int (prodL (ns.take i))),v]∧H'=H) ⟨_,rfl,rfl⟩ (fun i σ H' _ ⟨_,_,e⟩=>by subst e;exact hp) ?_ ?_
  ·rintro i x _ _ hi ⟨v,rfl,rfl⟩
   rw [List.getElem?_map] at hi
   obtain ⟨z,hz,rfl⟩:=Option.map_eq_some_iff.mp hi
   have e:=prodL_take ns i z hz
   have b1:=(hs.take i).prod
   have b2:=hs.2 z (List.mem_of_getElem? hz)
   have c1:(prodL (ns.take i)).natAbs < 2 ^ 256:=by
    generalize prodL (ns.take i)=y at b1
    have:(1000000000:Int) ^ 8 < 2 ^ 256:=by decide
    omega
   have c2:z.natAbs < 2 ^ 256:=by omega
   clear b1 b2
   simp! only [↓m_kBody,CMulB_of]
   exact ⟨_,rfl⟩
  ·rintro _ _ ⟨v,rfl,rfl⟩
   rw [List.length_map,List.take_length]
   simp! only [and_true]
def spWithin  : Sp:=fun vs H Q E=>∃ (i:Int) (lo:Int) (hi:Int),vs=[.int i,.int lo,.int hi]∧(Q (.bl (decide (lo≤i) && decide (i≤hi))) H)
theorem c_spWithin  (i:Int) (lo:Int) (hi:Int) (H:Hp) (Q:VK) (E:XK):spWithin  [.int i,.int lo,.int hi] H Q E=(Q (.bl (decide (lo≤i) && decide (i≤hi))) H):=spx3 (f:=fun (i:Int) (lo:Int) (hi:Int)=>[.int i,.int lo,.int hi]) (fun _ _ _ _ _ _ h=>by cases h;exact ⟨rfl,rfl,rfl⟩) i lo hi
theorem l_spWithin  {vs:List V}{H:Hp}{Q:VK}{E:XK}(h:spWithin  vs H Q E):vs.length=3:=spl3 h fun _ _ _=>rfl
theorem ok_is_within (T:Tx K mg t):FnOk P w K mg base CX0 2 t.a_is_within t.d_is_within ["thing", "low", "high"] spWithin:=by
 have G_is_whole:=ok_is_whole (P:=P) (w:=w) (base:=base) T
 refine T.F_is_within.ok c_is_within (fun vs H Q E h=>l_spWithin h) (fun cdv A outer s H vs Q E hr h=>?_)
 ·obtain ⟨i,lo,hi,rfl,k⟩:=h
  refine ⟨_,(@pss_one _ _ _ (@ps_ret _ _ _ _ (@pe_andN _ _ _ _ _ _ _ (@pe_call _ _ _ _ _ _ _ _ _ _ _ _ _ _ _ _ G_is_whole (hr.mono (by decide)) (by rfl) T.m_is_whole T.F_is_whole.kp T.b_is_whole .nil pass0 (@pa_c _ _ _ _ _ (@pvN _ 0 _ _ (by rfl) (by trivial) (by decide) (by decide)) (@pa_nil _) (by rfl)) (by decide) (by rfl) (by rfl)) (@pe_one _ _ _ _ _ (@pe_chainN _ _ _ _ _ _ _ _ _ _ _ _ on_le on_le (@pvN _ 1 _ _ (by rfl) (by trivial) (by decide) (by decide)) (@pvN _ 0 _ _ (by rfl) (by trivial) (by decide) (by decide)) (@pvN _ 2 _ _ (by rfl) (by trivial) (by decide) (by decide)) (by rfl)))))),?_⟩
  rw [show start ["thing", "low", "high"] [.int i,.int lo,.int hi]=[some (.int i),some (.int lo),some (.int hi)] from rfl]
  by_cases h0:lo≤i
  ·rw [decide_eq_true h0,Bool.true_and] at k
   simp! only [↓c_spWhole]
  ·rw [decide_eq_false h0,Bool.false_and] at k
   simp! only [↓c_spWhole]
def spSize  : Sp:=fun vs H Q E=>∃ (i:Int),vs=[.int i]∧(Q (.bl (decide (1≤i) && decide (i≤1000000000))) H)
theorem c_spSize  (i:Int) (H:Hp) (Q:VK) (E:XK):spSize  [.int i] H Q E=(Q (.bl (decide (1≤i) && decide (i≤1000000000))) H):=spx1 (f:=fun (i:Int)=>[.int i]) (fun _ _ h=>by cases h;exact rfl) i
theorem l_spSize  {vs:List V}{H:Hp}{Q:VK}{E:XK}(h:spSize  vs H Q E):vs.length=1:=spl1 h fun _=>rfl
theorem ok_is_size (T:Tx K mg t):FnOk P w K mg base CX0 3 t.a_is_size t.d_is_size ["thing"] spSize:=by
 have G_is_within:=ok_is_within (P:=P) (w:=w) (base:=base) T
 refine T.F_is_size.ok c_is_size (fun vs H Q E h=>l_spSize h) (fun cdv A outer s H vs Q E hr h=>?_)
 ·obtain ⟨i,rfl,k⟩:=h
  refine ⟨_,(@pss_one _ _ _ (@ps_ret _ _ _ _ (@pe_call _ _ _ _ _ _ _ _ _ _ _ _ _ _ _ _ G_is_within (hr.mono (by decide)) (by rfl) T.m_is_within T.F_is_within.kp T.b_is_within .nil pass0 (@pa_c _ _ _ _ _ (@pvN _ 0 _ _ (by rfl) (by trivial) (by decide) (by decide)) (@pa_c _ _ _ _ _ (@pe_int _ _ _ _) (@pa_c _ _ _ _ _ (@pe_glob _ _ (.int 1000000000) _ _ (by rfl) T.m_MOST_SIZE.choose_spec ⟨_,rfl⟩ (by decide)) (@pa_nil _) (by rfl)) (by rfl)) (by rfl)) (by decide) (by rfl) (by rfl)))),?_⟩
  rw [show start ["thing"] [.int i]=[some (.int i)] from rfl]
  simp! only [↓c_spWithin]
abbrev B_spAxis  (p:Addr) (H:Hp) (Q:VK) (E:XK):Prop:=∃ a:Int × Int,H p=some (.tup [.int a.1,.int a.2])∧1≤a.1∧a.1≤1000000000∧Q (.bl true) H
def spAxis  : Sp:=fun vs H Q E=>∃ (p:Addr),vs=[.ref p]∧(B_spAxis  p H Q E)
theorem c_spAxis  (p:Addr) (H:Hp) (Q:VK) (E:XK):spAxis  [.ref p] H Q E=(B_spAxis  p H Q E):=spx1 (f:=fun (p:Addr)=>[.ref p]) (fun _ _ h=>by cases h;exact rfl) p
theorem l_spAxis  {vs:List V}{H:Hp}{Q:VK}{E:XK}(h:spAxis  vs H Q E):vs.length=1:=spl1 h fun _=>rfl
theorem ok_is_axis (T:Tx K mg t):FnOk P w K mg base CX0 4 t.a_is_axis t.d_is_axis ["thing"] spAxis:=by
 have G_is_size:=ok_is_size (P:=P) (w:=w) (base:=base) T
 have G_is_whole:=ok_is_whole (P:=P) (w:=w) (base:=base) T
 refine T.F_is_axis.ok c_is_axis (fun vs H Q E h=>l_spAxis h) (fun cdv A outer s H vs Q E hr h=>?_)
 ·obtain ⟨p,rfl,a,hp,h1,h2,k⟩:=h
  refine ⟨_,(@pss_one _ _ _ (@ps_ret _ _ _ _ (@pe_andN _ _ _ _ _ _ _ (@pe_callB _ _ _ _ _ _ _ ("isinstance") _ call_qIsi (by rfl) T.z_isinstance (by decide +kernel) (@pa_c _ _ _ _ _ (@pvN _ 0 _ _ (by rfl) (by trivial) (by decide) (by decide)) (@pa_c _ _ _ _ _ (@pe_bltn _ _ (.ty "tuple") (.type "tuple") _ (by rfl) T.z_tuple (by decide +kernel) rfl (by decide) (by decide)) (@pa_nil _) (by rfl)) (by rfl)) (by decide) (by decide) (by rfl) (by rfl)) (@pe_andN _ _ _ _ _ _ _ (@pe_cmpR _ _ _ _ _ _ _ _ (op_qEq hr.units) (@pe_callB _ _ _ _ _ _ _ ("len") _ call_qLen (by rfl) T.z_len (by decide +kernel) (@pa_c _ _ _ _ _ (@pvN _ 0 _ _ (by rfl) (by trivial) (by decide) (by decide)) (@pa_nil _) (by rfl)) (by decide) (by decide) (by rfl) (by rfl)) (@pe_int _ _ _ _) (nomark _)) (@pe_andN _ _ _ _ _ _ _ (@pe_call _ _ _ _ _ _ _ _ _ _ _ _ _ _ _ _ G_is_size (hr.mono (by decide)) (by rfl) T.m_is_size T.F_is_size.kp T.b_is_size .nil pass0 (@pa_c _ _ _ _ _ (@pe_ix _ _ _ _ _ _ _ ix_q (@pvN _ 0 _ _ (by rfl) (by trivial) (by decide) (by decide)) (@pe_int _ _ _ _) (fun _ _=>rfl)) (@pa_nil _) (by rfl)) (by decide) (by rfl) (by rfl)) (@pe_one _ _ _ _ _ (@pe_call _ _ _ _ _ _ _ _ _ _ _ _ _ _ _ _ G_is_whole (hr.mono (by decide)) (by rfl) T.m_is_whole T.F_is_whole.kp T.b_is_whole .nil pass0 (@pa_c _ _ _ _ _ (@pe_ix _ _ _ _ _ _ _ ix_q (@pvN _ 0 _ _ (by rfl) (by trivial) (by decide) (by decide)) (@pe_int _ _ _ _) (fun _ _=>rfl)) (@pa_nil _) (by rfl)) (by decide) (by rfl) (by rfl)))))))),?_⟩
  rw [show start ["thing"] [.ref p]=[some (.ref p)] from rfl]
  simp! only [↓c_spSize,↓c_spWhole]
abbrev B_spKept  (p:Addr) (H:Hp) (Q:VK) (E:XK):Prop:=∃ a:Int × Int,H p=some (.tup [.int a.1,.int a.2])∧∀ (r:Addr) (H':Hp),H r=none->Ext H H'->H' r=some (.tup [.int (keptA a).1,.int (keptA a).2])->Q (.ref r) H'
def spKept  : Sp:=fun vs H Q E=>∃ (p:Addr),vs=[.ref p]∧(B_spKept  p H Q E)
theorem c_spKept  (p:Addr) (H:Hp) (Q:VK) (E:XK):spKept  [.ref p] H Q E=(B_spKept  p H Q E):=spx1 (f:=fun (p:Addr)=>[.ref p]) (fun _ _ h=>by cases h;exact rfl) p
theorem l_spKept  {vs:List V}{H:Hp}{Q:VK}{E:XK}(h:spKept  vs H Q E):vs.length=1:=spl1 h fun _=>rfl
theorem ok_kept_axis (T:Tx K mg t):FnOk P w K mg base CX0 1 t.a_kept_axis t.d_kept_axis ["axis"] spKept:=by
 refine T.F_kept_axis.ok c_kept_axis (fun vs H Q E h=>l_spKept h) (fun cdv A outer s H vs Q E hr h=>?_)
 ·obtain ⟨p,rfl,a,hp,k⟩:=h
  refine ⟨_,(@pss_one _ _ _ (@ps_ret _ _ _ _ (@pe_qTup _ _ _ _ _ (@pa_c _ _ _ _ _ (@pe_ix _ _ _ _ _ _ _ ix_q (@pvN _ 0 _ _ (by rfl) (by trivial) (by decide) (by decide)) (@pe_int _ _ _ _) (fun _ _=>rfl)) (@pa_c _ _ _ _ _ (@pe_ifExp _ _ _ _ _ _ _ _ (@pt_cmpRN _ _ _ _ _ _ _ _ on_gt (@pe_ix _ _ _ _ _ _ _ ix_q (@pvN _ 0 _ _ (by rfl) (by trivial) (by decide) (by decide)) (@pe_int _ _ _ _) (fun _ _=>rfl)) (@pe_int _ _ _ _) (nomark _)) (@pe_ix _ _ _ _ _ _ _ ix_q (@pvN _ 0 _ _ (by rfl) (by trivial) (by decide) (by decide)) (@pe_int _ _ _ _) (fun _ _=>rfl)) (@pe_int _ _ _ _)) (@pa_nil _) (by rfl)) (by rfl))))),?_⟩
  rw [show start ["axis"] [.ref p]=[some (.ref p)] from rfl]
  have e1:(keptA a).1=a.1:=rfl
  by_cases h1:1 < a.1
  ·have e2:(keptA a).2=a.2:=if_pos h1
   rw [e1,e2] at k
   simp! only [and_true]
   exact fun r H' h e h'=>k r H' h e h'
  ·have e2:(keptA a).2=0:=if_neg h1
   rw [e1,e2] at k
   simp! only [and_true]
   exact fun r H' h e h'=>k r H' h e h'
abbrev B_spAxes  (p:Addr) (H:Hp) (Q:VK) (E:XK):Prop:=∃ axs:List (Int × Int),TupsAt H p (axL axs)∧Axes axs∧∀ H',Ext H H'->Q (.bl true) H'
def spAxes  : Sp:=fun vs H Q E=>∃ (p:Addr),vs=[.ref p]∧(B_spAxes  p H Q E)
theorem c_spAxes  (p:Addr) (H:Hp) (Q:VK) (E:XK):spAxes  [.ref p] H Q E=(B_spAxes  p H Q E):=spx1 (f:=fun (p:Addr)=>[.ref p]) (fun _ _ h=>by cases h;exact rfl) p
theorem l_spAxes  {vs:List V}{H:Hp}{Q:VK}{E:XK}(h:spAxes  vs H Q E):vs.length=1:=spl1 h fun _=>rfl
theorem ok_are_axes (T:Tx K mg t):FnOk P w K mg base CX0 5 t.a_are_axes t.d_are_axes ["thing"] spAxes:=by
 have G_is_axis:=ok_is_axis (P:=P) (w:=w) (base:=base) T
 refine T.F_are_axes.ok c_are_axes (fun vs H Q E h=>l_spAxes h) (fun cdv A outer s H vs Q E hr h=>?_)
 ·obtain ⟨p,rfl,axs,⟨ys,hp,al⟩,ha,k⟩:=h
  refine ⟨_,(@pss_one _ _ _ (@ps_ret _ _ _ _ (@pe_andN _ _ _ _ _ _ _ (@pe_callB _ _ _ _ _ _ _ ("isinstance") _ call_qIsi (by rfl) T.z_isinstance (by decide +kernel) (@pa_c _ _ _ _ _ (@pvN _ 0 _ _ (by rfl) (by trivial) (by decide) (by decide)) (@pa_c _ _ _ _ _ (@pe_bltn _ _ (.ty "list") (.type "list") _ (by rfl) T.z_list (by decide +kernel) rfl (by decide) (by decide)) (@pa_nil _) (by rfl)) (by rfl)) (by decide) (by decide) (by rfl) (by rfl)) (@pe_andN _ _ _ _ _ _ _ (@pe_cmpR _ _ _ _ _ _ _ _ on_le (@pe_callB _ _ _ _ _ _ _ ("len") _ call_qLen (by rfl) T.z_len (by decide +kernel) (@pa_c _ _ _ _ _ (@pvN _ 0 _ _ (by rfl) (by trivial) (by decide) (by decide)) (@pa_nil _) (by rfl)) (by decide) (by decide) (by rfl) (by rfl)) (@pe_glob _ _ (.int 8) _ _ (by rfl) T.m_MOST_AXES.choose_spec ⟨_,rfl⟩ (by decide)) (nomark _)) (@pe_one _ _ _ _ _ (@pe_callB _ _ _ _ _ _ _ ("all") _ (call_qAll rfl) (by rfl) T.z_all (by decide +kernel) (@pa_c _ _ _ _ _ (@pe_comp _ _ _ _ _ _ _ _ _ _ _ (["axis", "thing"]) (1) (comp_ok (defScope s_are_axes) ["thing"] rfl rfl (by decide +kernel)) rfl (@pi_seq _ _ _ _ (@pvN _ 0 _ _ (by rfl) (by trivial) (by decide) (by decide))) (fun C s₀ H₀ ex pn=>(@pg_name _ _ (0) _ (show List.Nodup (["axis", "thing"]:List Str) from by decide +kernel) rfl (Or.inl rfl) (by trivial))) (fun C s₀ H₀ ex pn=>(@pts_nil _)) (fun C s₀ H₀ ex pn=>(@pe_call _ _ _ _ _ _ _ _ _ _ _ _ _ _ _ _ G_is_axis (hr.mono (by decide)) (by rfl) T.m_is_axis T.F_is_axis.kp T.b_is_axis .nil pass0 (@pa_c _ _ _ _ _ (@pvN _ 0 _ _ (by rfl) (by trivial) (by decide) (by decide)) (@pa_nil _) (by rfl)) (by decide) (by rfl) (by rfl))) (by intros;rfl)) (@pa_nil _) (by rfl)) (by decide) (by decide) (by rfl) (by rfl))))))),?_⟩
  rw [show start ["thing"] [.ref p]=[some (.ref p)] from rfl]
  have hl:ys.length=axs.length:=by rw [al.1];unfold axL;rw [List.length_map]
  have hl8:(axs.length:Int)≤8:=by have:=ha.1;omega
  simp! only [and_true]
  refine comp_fm ys (fun _=>true) (fun _=>.bl true) (fun z x H'=>x=z∧H' p=some (.lst ys)) (wk_lst hp).1 (wk_lst hp).2 (len5000 (by omega)) ?_ ?_
  ·intro D z x H' N1 N0 hz hD e ⟨hx,_⟩ k1 _
   subst hx
   obtain ⟨i,hi,rfl⟩:=List.getElem_of_mem hz
   have hi':i < axs.length:=by rw [←hl];exact hi
   obtain ⟨q,hq1,hq2⟩:=al.2 i [axs[i].1,axs[i].2] ys[i] (by unfold axL;rw [List.getElem?_map,List.getElem?_eq_getElem hi'];rfl) (List.getElem?_eq_getElem hi)
   have hb:=ha.2 _ (List.getElem_mem hi')
   have k1':=k1 rfl H' (Ext.refl _)
   have hq3:=e.at hq2
   rw [hq1]
   clear k1 k hp al
   simp! only [↓m_kCm_1,↓m_kCm2]
   rw [c_spAxis]
   exact ⟨axs[i],hq3,hb.1,hb.2,k1'⟩
  ·intro D H' hD e hD'
   have hD2:H' D=some (.lst ((ys.map fun _=>true).map V.bl)):=by rw [hD',filt,List.map_map];rfl
   have e2:((ys.map fun _=>true).all id)=true:=by rw [List.all_map];simp
   have k2:=k H' e
   clear k hD'
   simp! only [and_true]
theorem getElem?_zs {zs:List (List Int)}{ys:List V}{H:Hp}(al:Al (TupV H) zs ys){i:Nat}{y:V}(h:ys[i]? = some y):∃ z,zs[i]? = some z∧TupV H z y:=by
 have hi:i < ys.length:=(List.getElem?_eq_some_iff.mp h).1
 have hz:zs[i]? = some (zs[i]'(by rw [←al.1];exact hi)):=List.getElem?_eq_getElem _
 exact ⟨_,hz,al.2 i _ y hz h⟩
abbrev B_spLong (cT:Addr) (n:Int) (H:Hp) (Q:VK) (E:XK):Prop:=(n≤4096->Q .non H)∧¬ 4096 < n
def spLong (cT:Addr):Sp:=fun vs H Q E=>∃ (n:Int),vs=[.int n]∧(B_spLong cT n H Q E)
theorem c_spLong (cT:Addr) (n:Int) (H:Hp) (Q:VK) (E:XK):spLong cT [.int n] H Q E=(B_spLong cT n H Q E):=spx1 (f:=fun (n:Int)=>[.int n]) (fun _ _ h=>by cases h;exact rfl) n
theorem l_spLong (cT:Addr){vs:List V}{H:Hp}{Q:VK}{E:XK}(h:spLong cT vs H Q E):vs.length=1:=spl1 h fun _=>rfl
theorem ok_refuse_long (T:Tx K mg t):FnOk P w K mg base CX0 3 t.a_refuse_long t.d_refuse_long ["count"] (spLong t.a_TooMany):=by
 refine T.F_refuse_long.ok c_refuse_long (fun vs H Q E h=>l_spLong _ h) (fun cdv A outer s H vs Q E hr h=>?_)
 ·obtain ⟨n,rfl,k1,hn⟩:=h
  refine ⟨_,(@pss_one _ _ _ (@ps_if _ _ _ _ _ _ _ _ (@pt_cmpRN _ _ _ _ _ _ _ _ on_gt (@pvN _ 0 _ _ (by rfl) (by trivial) (by decide) (by decide)) (@pe_glob _ _ (.int 4096) _ _ (by rfl) T.m_MOST_TOLD.choose_spec ⟨_,rfl⟩ (by decide)) (nomark _)) (@pss_one _ _ _ (@ps_never _ _)) (@pss_nil _))),?_⟩
  rw [show start ["count"] [.int n]=[some (.int n)] from rfl]
  have k1':=k1 (by omega)
  clear k1
  simp! only [and_true]
theorem min0 (x:Int):min 0 x=if x < 0 then x else 0:=by split<;>omega
theorem max0 (x:Int):max 0 x=if 0 < x then x else 0:=by split<;>omega
structure ViewAt (C:Addr) (H:Hp) (v:Addr) (room first:Int) (axs:List (Int × Int)):Prop where
 ob:∃ dx l,H v=some (.ins C dx (viewF room first l))∧TupsAt H l (axL axs)
theorem ViewAt.ext {C:Addr}{H H':Hp}{v:Addr}{room first:Int}{axs:List (Int × Int)}(h:ViewAt C H v room first axs) (e:Ext H H'):ViewAt C H' v room first axs:=by
 obtain ⟨dx,l,h1,h2⟩:=h.ob
 exact ⟨⟨dx,l,e.at h1,h2.ext e⟩⟩
theorem ne_no {m:Str}(h:m∈([("sizes":Str), "paces", "count", "cell", "cell_at", "cells", "least", "greatest"]:List Str)):¬ m = "axes" ∧ ¬ m = "first" ∧ ¬ m = "room":=by
 revert m
 decide +kernel
theorem vn (room first:Int) (l:Addr){m:Str}(h:m∈([("sizes":Str), "paces", "count", "cell", "cell_at", "cells", "least", "greatest"]:List Str)):(viewF room first l).lookup m=none:=viewF_no room first l (ne_no h).1 (ne_no h).2.1 (ne_no h).2.2
theorem al_ax {H:Hp}{axs:List (Int × Int)}{ys:List V}(al:Al (TupV H) (axL axs) ys){i:Nat}{y:V}(h:ys[i]? = some y):∃ a q,axs[i]? = some a∧y=.ref q∧H q=some (.tup [.int a.1,.int a.2]):=by
 obtain ⟨z,hz,q,hq,hq2⟩:=getElem?_zs al h
 unfold axL at hz
 rw [List.getElem?_map] at hz
 obtain ⟨a,ha,rfl⟩:=Option.map_eq_some_iff.mp hz
 exact ⟨a,q,ha,hq,hq2⟩
abbrev B_spLeast (C:Addr) (v:Addr) (H:Hp) (Q:VK) (E:XK):Prop:=∃ (room first:Int) (axs:List (Int × Int)),ViewAt C H v room first axs∧Axes axs∧∀ H',Ext H H'->Q (.int (first+leastL axs)) H'
def spLeast (C:Addr):Sp:=fun vs H Q E=>∃ (v:Addr),vs=[.ref v]∧(B_spLeast C v H Q E)
theorem c_spLeast (C:Addr) (v:Addr) (H:Hp) (Q:VK) (E:XK):spLeast C [.ref v] H Q E=(B_spLeast C v H Q E):=spx1 (f:=fun (v:Addr)=>[.ref v]) (fun _ _ h=>by cases h;exact rfl) v
theorem l_spLeast (C:Addr){vs:List V}{H:Hp}{Q:VK}{E:XK}(h:spLeast C vs H Q E):vs.length=1:=spl1 h fun _=>rfl
theorem ok_View_least (T:Tx K mg t):FnOk P w K mg base CX0 1 t.a_View_least t.d_View_least ["self"] (spLeast t.a_View):=by
 refine T.F_View_least.ok c_View_least (fun vs H Q E h=>l_spLeast _ h) (fun cdv A outer s H vs Q E hr h=>?_)
 ·obtain ⟨v,rfl,room,first,axs,vo,hax,k⟩:=h
  obtain ⟨dx,l,hv,ys,hl,al⟩:=vo.ob
  have c1:=T.cl_View
  have c2:=T.na_View_first
  have c3:=T.na_View_axes
  have f1:=viewF_first room first l
  have f2:=viewF_axes room first l
  refine ⟨_,(@pss_one _ _ _ (@ps_ret _ _ _ _ (@pe_op _ _ _ _ _ _ _ _ on_add (@pe_nFld _ _ _ _ _ (@pvN _ 0 _ _ (by rfl) (by trivial) (by decide) (by decide)) rfl) (@pe_callB _ _ _ _ _ _ _ ("sum") _ (call_qSum rfl) (by rfl) T.z_sum (by decide +kernel) (@pa_c _ _ _ _ _ (@pe_comp _ _ _ _ _ _ _ _ _ _ _ (["size", "pace", "self"]) (2) (comp_ok (defScope s_View_least) ["self"] rfl rfl (by decide +kernel)) rfl (@pi_seq _ _ _ _ (@pe_nFld _ _ _ _ _ (@pvN _ 0 _ _ (by rfl) (by trivial) (by decide) (by decide)) rfl)) (fun C s₀ H₀ ex pn=>((@pg_tup _ _ _ _ _ (2) rfl (@pgs_consN _ _ _ _ _ (@pg_name _ _ (0) _ (show List.Nodup (["size", "pace", "self"]:List Str) from by decide +kernel) rfl (Or.inl rfl) (by trivial)) (@pgs_consN _ _ _ _ _ (@pg_name _ _ (1) _ (show List.Nodup (["size", "pace", "self"]:List Str) from by decide +kernel) rfl (Or.inl rfl) (by trivial)) (@pgs_nilN _) (by rfl)) (by rfl)) (by rfl) (by rfl)).mono fun _ _ _ _ h=>gTup_q h)) (fun C s₀ H₀ ex pn=>(@pts_nil _)) (fun C s₀ H₀ ex pn=>(@pe_callB _ _ _ _ _ _ _ ("min") _ (call_qMin rfl) (by rfl) T.z_min (by decide +kernel) (@pa_c _ _ _ _ _ (@pe_int _ _ _ _) (@pa_c _ _ _ _ _ (@pe_op _ _ _ _ _ _ _ _ on_mul (@pe_op _ _ _ _ _ _ _ _ on_sub (@pvN _ 0 _ _ (by rfl) (by trivial) (by decide) (by decide)) (@pe_int _ _ _ _)) (@pvN _ 1 _ _ (by rfl) (by trivial) (by decide) (by decide))) (@pa_nil _) (by rfl)) (by rfl)) (by decide) (by decide) (by rfl) (by rfl))) (by intros;rfl)) (@pa_nil _) (by rfl)) (by decide) (by decide) (by rfl) (by rfl))))),?_⟩
  rw [show start ["self"] [.ref v]=[some (.ref v)] from rfl]
  simp! only [and_true]
  have wk:=wk_al (K:=K) (R:=axP) (fun _ _ _ _ h e=>h.ext e) hl (al_axP al)
  refine comp_fm axs (fun _=>true) (fun a=>.int (min 0 ((a.1 - 1) * a.2))) axP wk.1 wk.2 (len5000 (by have:=hax.1;omega)) ?_ ?_
  ·intro D a x H' N1 N0 ha hD e ⟨q,hx,hq⟩ k1 _
   subst hx
   have hb:=hax.2 a ha
   have k1':=k1 rfl H' (Ext.refl _)
   have hcm:CMul (a.1 - 1) a.2:=.inl ⟨by omega,by omega⟩
   rw [min0] at k1'
   clear k1 k
   simp! only [↓m_kCm_2,↓m_kCm2]
  ·intro D H' hD e hD'
   have hD2:H' D=some (.lst ((axs.map fun a=>min 0 ((a.1 - 1) * a.2)).map V.int)):=by rw [hD',filt,List.map_map];rfl
   have k2:Q (.int (first+(axs.map fun a=>min 0 ((a.1 - 1) * a.2)).sum)) H':=k H' e
   clear k hD'
   simp! only [and_true]
abbrev B_spGreatest (C:Addr) (v:Addr) (H:Hp) (Q:VK) (E:XK):Prop:=∃ (room first:Int) (axs:List (Int × Int)),ViewAt C H v room first axs∧Axes axs∧∀ H',Ext H H'->Q (.int (first+greatL axs)) H'
def spGreatest (C:Addr):Sp:=fun vs H Q E=>∃ (v:Addr),vs=[.ref v]∧(B_spGreatest C v H Q E)
theorem c_spGreatest (C:Addr) (v:Addr) (H:Hp) (Q:VK) (E:XK):spGreatest C [.ref v] H Q E=(B_spGreatest C v H Q E):=spx1 (f:=fun (v:Addr)=>[.ref v]) (fun _ _ h=>by cases h;exact rfl) v
theorem l_spGreatest (C:Addr){vs:List V}{H:Hp}{Q:VK}{E:XK}(h:spGreatest C vs H Q E):vs.length=1:=spl1 h fun _=>rfl
theorem ok_View_greatest (T:Tx K mg t):FnOk P w K mg base CX0 1 t.a_View_greatest t.d_View_greatest ["self"] (spGreatest t.a_View):=by
 refine T.F_View_greatest.ok c_View_greatest (fun vs H Q E h=>l_spGreatest _ h) (fun cdv A outer s H vs Q E hr h=>?_)
 ·obtain ⟨v,rfl,room,first,axs,vo,hax,k⟩:=h
  obtain ⟨dx,l,hv,ys,hl,al⟩:=vo.ob
  have c1:=T.cl_View
  have c2:=T.na_View_first
  have c3:=T.na_View_axes
  have f1:=viewF_first room first l
  have f2:=viewF_axes room first l
  refine ⟨_,(@pss_one _ _ _ (@ps_ret _ _ _ _ (@pe_op _ _ _ _ _ _ _ _ on_add (@pe_nFld _ _ _ _ _ (@pvN _ 0 _ _ (by rfl) (by trivial) (by decide) (by decide)) rfl) (@pe_callB _ _ _ _ _ _ _ ("sum") _ (call_qSum rfl) (by rfl) T.z_sum (by decide +kernel) (@pa_c _ _ _ _ _ (@pe_comp _ _ _ _ _ _ _ _ _ _ _ (["size", "pace", "self"]) (2) (comp_ok (defScope s_View_greatest) ["self"] rfl rfl (by decide +kernel)) rfl (@pi_seq _ _ _ _ (@pe_nFld _ _ _ _ _ (@pvN _ 0 _ _ (by rfl) (by trivial) (by decide) (by decide)) rfl)) (fun C s₀ H₀ ex pn=>((@pg_tup _ _ _ _ _ (2) rfl (@pgs_consN _ _ _ _ _ (@pg_name _ _ (0) _ (show List.Nodup (["size", "pace", "self"]:List Str) from by decide +kernel) rfl (Or.inl rfl) (by trivial)) (@pgs_consN _ _ _ _ _ (@pg_name _ _ (1) _ (show List.Nodup (["size", "pace", "self"]:List Str) from by decide +kernel) rfl (Or.inl rfl) (by trivial)) (@pgs_nilN _) (by rfl)) (by rfl)) (by rfl) (by rfl)).mono fun _ _ _ _ h=>gTup_q h)) (fun C s₀ H₀ ex pn=>(@pts_nil _)) (fun C s₀ H₀ ex pn=>(@pe_callB _ _ _ _ _ _ _ ("max") _ (call_qMax rfl) (by rfl) T.z_max (by decide +kernel) (@pa_c _ _ _ _ _ (@pe_int _ _ _ _) (@pa_c _ _ _ _ _ (@pe_op _ _ _ _ _ _ _ _ on_mul (@pe_op _ _ _ _ _ _ _ _ on_sub (@pvN _ 0 _ _ (by rfl) (by trivial) (by decide) (by decide)) (@pe_int _ _ _ _)) (@pvN _ 1 _ _ (by rfl) (by trivial) (by decide) (by decide))) (@pa_nil _) (by rfl)) (by rfl)) (by decide) (by decide) (by rfl) (by rfl))) (by intros;rfl)) (@pa_nil _) (by rfl)) (by decide) (by decide) (by rfl) (by rfl))))),?_⟩
  rw [show start ["self"] [.ref v]=[some (.ref v)] from rfl]
  simp! only [and_true]
  have wk:=wk_al (K:=K) (R:=axP) (fun _ _ _ _ h e=>h.ext e) hl (al_axP al)
  refine comp_fm axs (fun _=>true) (fun a=>.int (max 0 ((a.1 - 1) * a.2))) axP wk.1 wk.2 (len5000 (by have:=hax.1;omega)) ?_ ?_
  ·intro D a x H' N1 N0 ha hD e ⟨q,hx,hq⟩ k1 _
   subst hx
   have hb:=hax.2 a ha
   have k1':=k1 rfl H' (Ext.refl _)
   have hcm:CMul (a.1 - 1) a.2:=.inl ⟨by omega,by omega⟩
   rw [max0] at k1'
   clear k1 k
   simp! only [↓m_kCm_2,↓m_kCm2]
  ·intro D H' hD e hD'
   have hD2:H' D=some (.lst ((axs.map fun a=>max 0 ((a.1 - 1) * a.2)).map V.int)):=by rw [hD',filt,List.map_map];rfl
   have k2:Q (.int (first+(axs.map fun a=>max 0 ((a.1 - 1) * a.2)).sum)) H':=k H' e
   clear k hD'
   simp! only [and_true]
def kSzs (H:Hp) (Q:VK) (f:Int × Int->Int) (axs:List (Int × Int)):Prop:=∀ (r:Addr) (H':Hp),H r=none->Ext H H'->H' r=some (.lst ((axs.map f).map V.int))->Q (.ref r) H'
abbrev B_spVSizes (C:Addr) (v:Addr) (H:Hp) (Q:VK) (E:XK):Prop:=∃ (room first:Int) (axs:List (Int × Int)),ViewAt C H v room first axs∧axs.length≤8∧kSzs H Q (fun a=>a.1) axs
def spVSizes (C:Addr):Sp:=fun vs H Q E=>∃ (v:Addr),vs=[.ref v]∧(B_spVSizes C v H Q E)
theorem c_spVSizes (C:Addr) (v:Addr) (H:Hp) (Q:VK) (E:XK):spVSizes C [.ref v] H Q E=(B_spVSizes C v H Q E):=spx1 (f:=fun (v:Addr)=>[.ref v]) (fun _ _ h=>by cases h;exact rfl) v
theorem l_spVSizes (C:Addr){vs:List V}{H:Hp}{Q:VK}{E:XK}(h:spVSizes C vs H Q E):vs.length=1:=spl1 h fun _=>rfl
theorem ok_View_sizes (T:Tx K mg t):FnOk P w K mg base CX0 1 t.a_View_sizes t.d_View_sizes ["self"] (spVSizes t.a_View):=by
 refine T.F_View_sizes.ok c_View_sizes (fun vs H Q E h=>l_spVSizes _ h) (fun cdv A outer s H vs Q E hr h=>?_)
 ·obtain ⟨v,rfl,room,first,axs,vo,hax,k⟩:=h
  obtain ⟨dx,l,hv,ys,hl,al⟩:=vo.ob
  have c1:=T.cl_View
  have c3:=T.na_View_axes
  have f2:=viewF_axes room first l
  refine ⟨_,(@pss_one _ _ _ (@ps_ret _ _ _ _ (@pe_comp _ _ _ _ _ _ _ _ _ _ _ (["size", "pace", "self"]) (2) (comp_ok (defScope s_View_sizes) ["self"] rfl rfl (by decide +kernel)) rfl (@pi_seq _ _ _ _ (@pe_nFld _ _ _ _ _ (@pvN _ 0 _ _ (by rfl) (by trivial) (by decide) (by decide)) rfl)) (fun C s₀ H₀ ex pn=>((@pg_tup _ _ _ _ _ (2) rfl (@pgs_consN _ _ _ _ _ (@pg_name _ _ (0) _ (show List.Nodup (["size", "pace", "self"]:List Str) from by decide +kernel) rfl (Or.inl rfl) (by trivial)) (@pgs_consN _ _ _ _ _ (@pg_name _ _ (1) _ (show List.Nodup (["size", "pace", "self"]:List Str) from by decide +kernel) rfl (Or.inl rfl) (by trivial)) (@pgs_nilN _) (by rfl)) (by rfl)) (by rfl) (by rfl)).mono fun _ _ _ _ h=>gTup_q h)) (fun C s₀ H₀ ex pn=>(@pts_nil _)) (fun C s₀ H₀ ex pn=>(@pvN _ 0 _ _ (by rfl) (by trivial) (by decide) (by decide))) (by intros;rfl)))),?_⟩
  rw [show start ["self"] [.ref v]=[some (.ref v)] from rfl]
  simp! only [and_true]
  have wk:=wk_al (K:=K) (R:=axP) (fun _ _ _ _ h e=>h.ext e) hl (al_axP al)
  refine comp_fm axs (fun _=>true) (fun a=>.int a.1) axP wk.1 wk.2 (len5000 (by omega)) ?_ ?_
  ·intro D a x H' N1 N0 ha hD e ⟨q,hx,hq⟩ k1 _
   subst hx
   have k1':=k1 rfl H' (Ext.refl _)
   clear k1 k
   simp! only [↓m_kCm_2,↓m_kCm2]
  ·intro D H' hD e hD'
   exact k D H' hD e (by rw [hD',filt,List.map_map];rfl)
abbrev B_spVPaces (C:Addr) (v:Addr) (H:Hp) (Q:VK) (E:XK):Prop:=∃ (room first:Int) (axs:List (Int × Int)),ViewAt C H v room first axs∧axs.length≤8∧kSzs H Q (fun a=>a.2) axs
def spVPaces (C:Addr):Sp:=fun vs H Q E=>∃ (v:Addr),vs=[.ref v]∧(B_spVPaces C v H Q E)
abbrev B_spVCount (C:Addr) (v:Addr) (H:Hp) (Q:VK) (E:XK):Prop:=∃ (room first:Int) (axs:List (Int × Int)),ViewAt C H v room first axs∧Axes axs∧∀ H',Ext H H'->Q (.int (prodL (axs.map fun a=>a.1))) H'
def spVCount (C:Addr):Sp:=fun vs H Q E=>∃ (v:Addr),vs=[.ref v]∧(B_spVCount C v H Q E)
theorem c_spVCount (C:Addr) (v:Addr) (H:Hp) (Q:VK) (E:XK):spVCount C [.ref v] H Q E=(B_spVCount C v H Q E):=spx1 (f:=fun (v:Addr)=>[.ref v]) (fun _ _ h=>by cases h;exact rfl) v
theorem l_spVCount (C:Addr){vs:List V}{H:Hp}{Q:VK}{E:XK}(h:spVCount C vs H Q E):vs.length=1:=spl1 h fun _=>rfl
theorem ok_View_count (T:Tx K mg t):FnOk P w K mg base CX0 2 t.a_View_count t.d_View_count ["self"] (spVCount t.a_View):=by
 have G_View_sizes:=ok_View_sizes (P:=P) (w:=w) (base:=base) T
 have G_count_of:=ok_count_of (P:=P) (w:=w) (base:=base) T
 refine T.F_View_count.ok c_View_count (fun vs H Q E h=>l_spVCount _ h) (fun cdv A outer s H vs Q E hr h=>?_)
 ·obtain ⟨v,rfl,room,first,axs,vo,hax,k⟩:=h
  obtain ⟨dx,l,hv,_⟩:=vo.ob
  have f3:=vn room first l (m := "sizes") (by decide +kernel)
  refine ⟨_,(@pss_one _ _ _ (@ps_ret _ _ _ _ (@pe_call _ _ _ _ _ _ _ _ _ _ _ _ _ _ _ _ G_count_of (hr.mono (by decide)) (by rfl) T.m_count_of T.F_count_of.kp T.b_count_of .nil pass0 (@pa_c _ _ _ _ _ (@pe_nMeth0 _ _ _ _ _ _ _ _ _ _ _ _ _ _ _ _ _ (@pvN _ 0 _ _ (by rfl) (by trivial) (by decide) (by decide)) T.cl_View T.mt_View_sizes G_View_sizes (hr.mono (by decide)) T.b_View_sizes .nil pass0 (by rfl)) (@pa_nil _) (by rfl)) (by decide) (by rfl) (by rfl)))),?_⟩
  rw [show start ["self"] [.ref v]=[some (.ref v)] from rfl]
  simp! only [and_true]
  rw [c_spVSizes]
  refine ⟨room,first,axs,vo,hax.1,fun r H' hr' e h'=>?_⟩
  have k':=k H' e
  have hsz:=hax.sizes
  clear k
  simp! only [↓c_spCount,↓m_kSz,↓x_kCnt]
def spVInit (C:Addr):Sp:=fun vs H Q E=>∃ (x:Addr) (room:Int) (first:Int) (l:Addr),vs=[.ref x,.int room,.int first,.ref l]∧(∃ (dx:Addr) (axs:List (Int × Int)),H x=some (.ins C dx [])∧TupsAt H l (axL axs)∧ViewOk room first axs∧∀ (H':Hp) (D:Addr),(∀ H0,Ext H0 H->H0 x=none->Ext H0 H')->H D=none->H' x=some (.ins C dx (viewF room first D))->TupsAt H' D (axL (axs.map keptA))->Q .non H')
theorem c_spVInit (C:Addr) (x:Addr) (room:Int) (first:Int) (l:Addr) (H:Hp) (Q:VK) (E:XK):spVInit C [.ref x,.int room,.int first,.ref l] H Q E=(∃ (dx:Addr) (axs:List (Int × Int)),H x=some (.ins C dx [])∧TupsAt H l (axL axs)∧ViewOk room first axs∧∀ (H':Hp) (D:Addr),(∀ H0,Ext H0 H->H0 x=none->Ext H0 H')->H D=none->H' x=some (.ins C dx (viewF room first D))->TupsAt H' D (axL (axs.map keptA))->Q .non H'):=spx4 (f:=fun (x:Addr) (room:Int) (first:Int) (l:Addr)=>[.ref x,.int room,.int first,.ref l]) (fun _ _ _ _ _ _ _ _ h=>by cases h;exact ⟨rfl,rfl,rfl,rfl⟩) x room first l
theorem l_spVInit (C:Addr){vs:List V}{H:Hp}{Q:VK}{E:XK}(h:spVInit C vs H Q E):vs.length=4:=spl4 h fun _ _ _ _=>rfl
theorem ok_View___init__ (T:Tx K mg t):FnOk P w K mg base CX0 6 t.a_View___init__ t.d_View___init__ ["self", "room", "first", "axes"] (spVInit t.a_View):=by
 have G_is_within:=ok_is_within (P:=P) (w:=w) (base:=base) T
 have G_is_whole:=ok_is_whole (P:=P) (w:=w) (base:=base) T
 have G_are_axes:=ok_are_axes (P:=P) (w:=w) (base:=base) T
 have G_kept_axis:=ok_kept_axis (P:=P) (w:=w) (base:=base) T
 have G_View_least:=ok_View_least (P:=P) (w:=w) (base:=base) T
 have G_View_greatest:=ok_View_greatest (P:=P) (w:=w) (base:=base) T
 refine T.F_View___init__.ok c_View___init__ (fun vs H Q E h=>l_spVInit _ h) (fun cdv A outer s H vs Q E hr h=>?_)
 ·obtain ⟨x,room,first,l,rfl,dx,axs,hx,tl,vok,k⟩:=h
  have c1:=T.cl_View
  have c2:=T.na_View_first
  have c3:=T.na_View_axes
  have c4:=T.na_View_room
  refine ⟨_,(@pss_cons _ _ _ _ _ (@ps_if _ _ _ _ _ _ _ _ (PW.pt (@pw_or _ _ _ _ _ _ _ (@pt_not _ _ _ _ (@pt_valN _ _ _ (@pe_call _ _ _ _ _ _ _ _ _ _ _ _ _ _ _ _ G_is_within (hr.mono (by decide)) (by rfl) T.m_is_within T.F_is_within.kp T.b_is_within .nil pass0 (@pa_c _ _ _ _ _ (@pvN _ 1 _ _ (by rfl) (by trivial) (by decide) (by decide)) (@pa_c _ _ _ _ _ (@pe_int _ _ _ _) (@pa_c _ _ _ _ _ (@pe_glob _ _ (.int 1000000000000000000) _ _ (by rfl) T.m_MOST_ROOM.choose_spec ⟨_,rfl⟩ (by decide)) (@pa_nil _) (by rfl)) (by rfl)) (by rfl)) (by decide) (by rfl) (by rfl)) (by intros;rfl))) (@pw_or _ _ _ _ _ _ _ (@pt_not _ _ _ _ (@pt_valN _ _ _ (@pe_call _ _ _ _ _ _ _ _ _ _ _ _ _ _ _ _ G_is_whole (hr.mono (by decide)) (by rfl) T.m_is_whole T.F_is_whole.kp T.b_is_whole .nil pass0 (@pa_c _ _ _ _ _ (@pvN _ 2 _ _ (by rfl) (by trivial) (by decide) (by decide)) (@pa_nil _) (by rfl)) (by decide) (by rfl) (by rfl)) (by intros;rfl))) (@pw_or1 _ _ _ _ (@pt_not _ _ _ _ (@pt_valN _ _ _ (@pe_call _ _ _ _ _ _ _ _ _ _ _ _ _ _ _ _ G_are_axes (hr.mono (by decide)) (by rfl) T.m_are_axes T.F_are_axes.kp T.b_are_axes .nil pass0 (@pa_c _ _ _ _ _ (@pvN _ 3 _ _ (by rfl) (by trivial) (by decide) (by decide)) (@pa_nil _) (by rfl)) (by decide) (by rfl) (by rfl)) (by intros;rfl))))))) (@pss_one _ _ _ (@ps_never _ _)) (@pss_nil _)) (@pss_cons _ _ _ _ _ (@ps_nSetF _ _ _ _ _ _ _ _ (@pvN _ 0 _ _ (by rfl) (by trivial) (by decide) (by decide)) (@pvN _ 1 _ _ (by rfl) (by trivial) (by decide) (by decide)) rfl) (@pss_cons _ _ _ _ _ (@ps_nSetF _ _ _ _ _ _ _ _ (@pvN _ 0 _ _ (by rfl) (by trivial) (by decide) (by decide)) (@pvN _ 2 _ _ (by rfl) (by trivial) (by decide) (by decide)) rfl) (@pss_cons _ _ _ _ _ (@ps_nSetF _ _ _ _ _ _ _ _ (@pvN _ 0 _ _ (by rfl) (by trivial) (by decide) (by decide)) (@pe_comp _ _ _ _ _ _ _ _ _ _ _ (["axis", "self", "room", "first", "axes"]) (1) (comp_ok (defScope s_View___init__) ["self", "room", "first", "axes"] rfl rfl (by decide +kernel)) rfl (@pi_seq _ _ _ _ (@pvN _ 3 _ _ (by rfl) (by trivial) (by decide) (by decide))) (fun C s₀ H₀ ex pn=>(@pg_name _ _ (0) _ (show List.Nodup (["axis", "self", "room", "first", "axes"]:List Str) from by decide +kernel) rfl (Or.inl rfl) (by trivial))) (fun C s₀ H₀ ex pn=>(@pts_nil _)) (fun C s₀ H₀ ex pn=>(@pe_call _ _ _ _ _ _ _ _ _ _ _ _ _ _ _ _ G_kept_axis (hr.mono (by decide)) (by rfl) T.m_kept_axis T.F_kept_axis.kp T.b_kept_axis .nil pass0 (@pa_c _ _ _ _ _ (@pvN _ 0 _ _ (by rfl) (by trivial) (by decide) (by decide)) (@pa_nil _) (by rfl)) (by decide) (by rfl) (by rfl))) (by intros;rfl)) rfl) (@pss_one _ _ _ (@ps_if _ _ _ _ _ _ _ _ (PW.pt (@pw_or _ _ _ _ _ _ _ (@pt_cmpRN _ _ _ _ _ _ _ _ on_lt (@pe_nMeth0 _ _ _ _ _ _ _ _ _ _ _ _ _ _ _ _ _ (@pvN _ 0 _ _ (by rfl) (by trivial) (by decide) (by decide)) T.cl_View T.mt_View_least G_View_least (hr.mono (by decide)) T.b_View_least .nil pass0 (by rfl)) (@pe_int _ _ _ _) (nomark _)) (@pw_or1 _ _ _ _ (@pt_cmpRN _ _ _ _ _ _ _ _ on_ge (@pe_nMeth0 _ _ _ _ _ _ _ _ _ _ _ _ _ _ _ _ _ (@pvN _ 0 _ _ (by rfl) (by trivial) (by decide) (by decide)) T.cl_View T.mt_View_greatest G_View_greatest (hr.mono (by decide)) T.b_View_greatest .nil pass0 (by rfl)) (@pvN _ 1 _ _ (by rfl) (by trivial) (by decide) (by decide)) (nomark _))))) (@pss_one _ _ _ (@ps_never _ _)) (@pss_nil _))))))),?_⟩
  rw [show start ["self", "room", "first", "axes"] [.ref x,.int room,.int first,.ref l]=[some (.ref x),some (.int room),some (.int first),some (.ref l)] from rfl]
  have r1:=vok.r1
  have r2:=vok.r2
  simp! only [↓c_spWithin,↓c_spWhole]
  rw [c_spAxes]
  refine ⟨axs,tl,vok.ax,fun H1 e1=>?_⟩
  have hx1:=e1.at hx
  have tl1:=tl.ext e1
  clear hx tl
  simp! only [and_true]
  refine ⟨(show (1:Nat) < 1000 by decide),?_⟩
  obtain ⟨ys,hl1,al1⟩:=tl1
  have hlx:l ≠ x:=fun z=>by rw [z,hx1] at hl1;cases hl1
  have hx2:(upd H1 x (HO.ins t.a_View dx (putF "first" (V.int first) (putF "room" (V.int room) [])))) x=some (HO.ins t.a_View dx (putF "first" (V.int first) (putF "room" (V.int room) []))):=upd_same
  have hl2:(upd H1 x (HO.ins t.a_View dx (putF "first" (V.int first) (putF "room" (V.int room) [])))) l=some (.lst ys):=by rw [upd_ne hlx];exact hl1
  have al2:Al (fun a y=>axP a y (upd H1 x (HO.ins t.a_View dx (putF "first" (V.int first) (putF "room" (V.int room) []))))) axs ys:=(al_axP al1).imp fun a y ⟨q,hy,hq⟩=>⟨q,hy,by rw [upd_ne (fun z=>by rw [z,hx1] at hq;cases hq)];exact hq⟩
  have b2:∀ H0,Ext H0 H->H0 x=none->Ext H0 (upd H1 x (HO.ins t.a_View dx (putF "first" (V.int first) (putF "room" (V.int room) [])))):=fun H0 q0 q1=>(q0.trans e1).put q1
  have b3:∀ b,b ≠ x->(upd H1 x (HO.ins t.a_View dx (putF "first" (V.int first) (putF "room" (V.int room) [])))) b=none->H b=none:=fun b hb q=>by rw [upd_ne hb] at q;exact e1.free q
  generalize upd H1 x (HO.ins t.a_View dx (putF "first" (V.int first) (putF "room" (V.int room) [])))=H2 at hx2 hl2 al2 b2 b3
  clear hl1 al1 hx1
  simp! only [and_true]
  have wk:=wk_al (K:=K) (R:=axP) (fun _ _ _ _ h e=>h.ext e) hl2 al2
  refine comp_rel axs (fun _=>true) axP (fun D a y H'=>∃ q,y=.ref q∧q ≠ D∧H' q=some (.tup [.int (keptA a).1,.int (keptA a).2])) wk.1 wk.2 (fun D _ y H1 H2 ⟨q,h1,h2,h3⟩ e=>⟨q,h1,h2,e.at h3⟩) (fun D _ y H1 o ⟨q,h1,h2,h3⟩=>⟨q,h1,h2,by rw [upd_ne h2];exact h3⟩) (len5000 (by have:=vok.ax.1;omega)) ?_ ?_
  ·intro D a y H' N1 N0 ha hD e ⟨ys0,hys0⟩ ⟨q,hy,hq⟩ k1 _
   subst hy
   have k1':=k1 rfl
   clear k1 k
   simp! only [↓m_kCm_1,↓m_kCm2]
   rw [c_spKept]
   exact ⟨a,hq,fun r H'' hr' e' h'=>k1' _ H'' e' ⟨r,rfl,(fun z=>by rw [z,hys0] at hr';cases hr'),h'⟩⟩
  ·intro D zs H3 hD e3 hD3 al3
   rw [filt] at al3
   have hx3:=e3.at hx2
   have hDx:D ≠ x:=fun z=>by rw [z,hx2] at hD;cases hD
   clear wk
   simp! only [and_true]
   refine ⟨(show (2:Nat) < 1000 by decide),?_⟩
   have tt:TupsAt (upd H3 x (HO.ins t.a_View dx (viewF room first D))) D (axL (axs.map keptA)):=by
    refine ⟨zs,by rw [upd_ne hDx];exact hD3,?_,fun i z y hz hy=>?_⟩
    ·rw [al3.1];unfold axL;rw [List.length_map,List.length_map]
    ·unfold axL at hz
     rw [List.map_map,List.getElem?_map] at hz
     obtain ⟨a,ha,rfl⟩:=Option.map_eq_some_iff.mp hz
     obtain ⟨q,hq1,_,hq3⟩:=al3.2 i a y ha hy
     exact ⟨q,hq1,by rw [upd_ne (fun z=>by rw [z,hx3] at hq3;cases hq3)];exact hq3⟩
   have b4:∀ H0,Ext H0 H->H0 x=none->Ext H0 (upd H3 x (HO.ins t.a_View dx (viewF room first D))):=fun H0 q0 q1=>((b2 H0 q0 q1).trans e3).put q1
   have hx4:(upd H3 x (HO.ins t.a_View dx (viewF room first D))) x=some (HO.ins t.a_View dx (viewF room first D)):=upd_same
   have f1:=vn room first D (m := "least") (by decide +kernel)
   have f2:=vn room first D (m := "greatest") (by decide +kernel)
   refine ⟨f1,?_⟩
   show spLeast t.a_View [V.ref x] (upd H3 x (HO.ins t.a_View dx (viewF room first D))) _ _
   generalize upd H3 x (HO.ins t.a_View dx (viewF room first D))=H4 at tt b4 hx4
   have vo:ViewAt t.a_View H4 x room first (axs.map keptA):=⟨dx,D,hx4,tt⟩
   rw [c_spLeast]
   refine ⟨room,first,axs.map keptA,vo,vok.ax.kept,fun H5 e5=>?_⟩
   have hlo:¬ first+leastL (axs.map keptA) < 0:=by have:=vok.lo;omega
   have hx5:=e5.at hx4
   simp! only [and_true]
   rw [c_spGreatest]
   refine ⟨room,first,axs.map keptA,vo.ext e5,vok.ax.kept,fun H6 e6=>?_⟩
   have hhi:¬ room≤first+greatL (axs.map keptA):=by have:=vok.hi;omega
   have k':=k H6 D (fun H0 q0 q1=>((b4 H0 q0 q1).trans e5).trans e6) (b3 D hDx hD) (e6.at hx5) ((tt.ext e5).ext e6)
   clear k
   simp! only [and_true]
theorem wideL_take (cs:List Int) (a:Int × Int) (i:Nat) (c:Int) (h:cs[i]? = some c):wideL (cs.take (i+1)) a=wideL (cs.take i) a++(List.range a.1.toNat).map fun (n:Nat)=>c+(n:Int) * a.2:=by
 unfold wideL
 rw [List.take_add_one,h,List.flatMap_append]
 simp
abbrev B_spWidened  (p:Addr) (z:Int) (pc:Int) (H:Hp) (Q:VK) (E:XK):Prop:=∃ cs:List Int,H p=some (.lst (cs.map V.int))∧1≤z∧cs.length * z.toNat≤4096∧z≤1000000000∧∀ (r:Addr) (H':Hp),H r=none->Ext H H'->H' r=some (.lst ((wideL cs (z,pc)).map V.int))->Q (.ref r) H'
def spWidened  : Sp:=fun vs H Q E=>∃ (p:Addr) (z:Int) (pc:Int),vs=[.ref p,.int z,.int pc]∧(B_spWidened  p z pc H Q E)
theorem c_spWidened  (p:Addr) (z:Int) (pc:Int) (H:Hp) (Q:VK) (E:XK):spWidened  [.ref p,.int z,.int pc] H Q E=(B_spWidened  p z pc H Q E):=spx3 (f:=fun (p:Addr) (z:Int) (pc:Int)=>[.ref p,.int z,.int pc]) (fun _ _ _ _ _ _ h=>by cases h;exact ⟨rfl,rfl,rfl⟩) p z pc
theorem l_spWidened  {vs:List V}{H:Hp}{Q:VK}{E:XK}(h:spWidened  vs H Q E):vs.length=3:=spl3 h fun _ _ _=>rfl
theorem ok_widened (T:Tx K mg t):FnOk P w K mg base CX0 1 t.a_widened t.d_widened ["cells", "size", "pace"] spWidened:=by
 refine T.F_widened.ok c_widened (fun vs H Q E h=>l_spWidened h) (fun cdv A outer s H vs Q E hr h=>?_)
 ·obtain ⟨p,z,pc,rfl,cs,hp,hz,hln,hz2,k⟩:=h
  refine ⟨_,(@pss_cons _ _ _ _ _ (@ps_set _ _ (3) _ _ _ _ c_widened.nd rfl (Or.inl rfl) (@pe_qLst _ _ _ _ (@pa_nil _)) (by rfl) (by trivial)) (@pss_cons _ _ _ _ _ (@ps_for _ _ _ _ _ _ _ _ PassesOwn.never rfl (@pi_seq _ _ _ _ (@pvN _ 0 _ _ (by rfl) (by trivial) (by decide) (by decide))) (@pg_name _ _ (4) _ c_widened.nd rfl (Or.inr rfl) (by trivial)) (@pss_one _ _ _ (@ps_expr _ _ _ _ (@pe_bm _ _ _ _ _ _ _ _ _ _ _ _ PySem.F.plainAttrs_list PySem.F.slot_list_extend PySem.F.type_list_extend mt_extend (@pvN _ 3 _ _ (by rfl) (by trivial) (by decide) (by decide)) (@pa_c _ _ _ _ _ (@pe_comp _ _ _ _ _ _ _ _ _ _ _ (["number", "cells", "size", "pace", "found", "cell"]) (1) (comp_ok (defScope s_widened) ["cells", "size", "pace", "found", "cell"] rfl rfl (by decide +kernel)) rfl (@pi_range1 _ _ _ _ _ _ (by rfl) T.z_range (@pa_c _ _ _ _ _ (@pvN _ 1 _ _ (by rfl) (by trivial) (by decide) (by decide)) (@pa_nil _) (by rfl)) (by rfl)) (fun C s₀ H₀ ex pn=>(@pg_name _ _ (0) _ (show List.Nodup (["number", "cells", "size", "pace", "found", "cell"]:List Str) from by decide +kernel) rfl (Or.inl rfl) (by trivial))) (fun C s₀ H₀ ex pn=>(@pts_nil _)) (fun C s₀ H₀ ex pn=>(@pe_op _ _ _ _ _ _ _ _ on_add (@pvN _ 5 _ _ (by rfl) (by trivial) (by decide) (by decide)) (@pe_op _ _ _ _ _ _ _ _ on_mul (@pvN _ 0 _ _ (by rfl) (by trivial) (by decide) (by decide)) (@pvN _ 3 _ _ (by rfl) (by trivial) (by decide) (by decide))))) (by intros;rfl)) (@pa_nil _) (by rfl)) (by rfl) (by rfl) (by rfl) (by rfl) (by rfl)) (by rfl))) (by intros;rfl)) (@pss_one _ _ _ (@ps_ret _ _ _ _ (@pvN _ 3 _ _ (by rfl) (by trivial) (by decide) (by decide)))))),?_⟩
  rw [show start ["cells", "size", "pace", "found", "cell"] [.ref p,.int z,.int pc]=[some (.ref p),some (.int z),some (.int pc),none,none] from rfl]
  simp! only [and_true]
  intro r H1 hr1 e1 h1
  have hp1:=e1.at hp
  simp! only [and_true]
  refine for_lst (xs:=cs.map V.int) (fun i σ H'=>∃ v4:Option V,σ=[some (.ref p),some (.int z),some (.int pc),some (.ref r),v4]∧Ext H H'∧H' r=some (.lst ((wideL (cs.take i) (z,pc)).map V.int))) ⟨none,rfl,e1,h1⟩ (fun i σ H' _ ⟨_,_,e,_⟩=>e.at hp) ?_ ?_
  ·rintro i x _ H2 hi ⟨v4,rfl,e2,h2⟩
   rw [List.getElem?_map] at hi
   obtain ⟨c,hc,rfl⟩:=Option.map_eq_some_iff.mp hi
   have hil:i < cs.length:=(List.getElem?_eq_some_iff.mp hc).1
   have hzn:z.toNat≤4096:=by
    have:=Nat.mul_le_mul_right z.toNat (show 1≤cs.length by omega)
    omega
   have hwl:(wideL (cs.take i) (z,pc)).length+z.toNat≤4096:=by
    rw [wideL_len,List.length_take,show ((z,pc):Int × Int).1=z from rfl]
    have:(min i cs.length+1) * z.toNat≤cs.length * z.toNat:=Nat.mul_le_mul_right _ (by omega)
    rw [Nat.add_mul,Nat.one_mul] at this
    omega
   simp! only [↓m_kBody]
   refine ⟨by omega,by omega,?_⟩
   refine comp_fm (List.range z.toNat) (fun _=>true) (fun j=>.int (c+(j:Int) * pc)) (fun j x H'=>x=.int (0+(j:Nat))) wk_rng.1 wk_rng.2 (len5000 (by rw [List.length_range];omega)) ?_ ?_
   ·intro D j x H' N1 N0 hj hD e hx k1 _
    subst hx
    have hj':=List.mem_range.mp hj
    have k1':=k1 rfl H' (Ext.refl _)
    have hcm:CMul (j:Int) pc:=.inl (by omega)
    have e0:(0:Int)+(j:Int)=(j:Int):=Int.zero_add _
    clear k1 k hj
    simp! only [↓m_kCm_1,↓m_kCm2]
   ·intro D H3 hD e3 hD3
    have hD3':H3 D=some (.lst (((List.range z.toNat).map fun (j:Nat)=>c+(j:Int) * pc).map V.int)):=by rw [hD3,filt,List.map_map];rfl
    have h2_3:=e3.at h2
    have hle:(wideL (cs.take i) (z,pc)).length+(List.range z.toNat).length≤sizeLine:=len5000 (by rw [List.length_range];omega)
    clear hD3 hi
    simp! only [and_true]
    refine ⟨_,rfl,(e2.trans e3).put hr1,?_⟩
    rw [wideL_take cs (z,pc) i c hc,List.map_append]
  ·rintro _ H2 ⟨v4,rfl,e2,h2⟩
   simp! only [and_true]
   rw [List.length_map,List.take_length] at h2
   exact k r H2 hr1 e2 h2
abbrev B_spCells (C cT:Addr) (v:Addr) (H:Hp) (Q:VK) (E:XK):Prop:=∃ (room first:Int) (axs:List (Int × Int)),ViewAt C H v room first axs∧Axes axs∧(prodL (axs.map fun a=>a.1)≤4096->∀ (r:Addr) (H':Hp),H r=none->Ext H H'->H' r=some (.lst ((cellsL first axs).map V.int))->Q (.ref r) H')∧¬ 4096 < prodL (axs.map fun a=>a.1)
def spCells (C cT:Addr):Sp:=fun vs H Q E=>∃ (v:Addr),vs=[.ref v]∧(B_spCells C cT v H Q E)
theorem c_spCells (C cT:Addr) (v:Addr) (H:Hp) (Q:VK) (E:XK):spCells C cT [.ref v] H Q E=(B_spCells C cT v H Q E):=spx1 (f:=fun (v:Addr)=>[.ref v]) (fun _ _ h=>by cases h;exact rfl) v
theorem l_spCells (C cT:Addr){vs:List V}{H:Hp}{Q:VK}{E:XK}(h:spCells C cT vs H Q E):vs.length=1:=spl1 h fun _=>rfl
theorem ok_View_cells (T:Tx K mg t):FnOk P w K mg base CX0 4 t.a_View_cells t.d_View_cells ["self"] (spCells t.a_View t.a_TooMany):=by
 have G_View_count:=ok_View_count (P:=P) (w:=w) (base:=base) T
 have G_refuse_long:=ok_refuse_long (P:=P) (w:=w) (base:=base) T
 have G_widened:=ok_widened (P:=P) (w:=w) (base:=base) T
 refine T.F_View_cells.ok c_View_cells (fun vs H Q E h=>l_spCells _ _ h) (fun cdv A outer s H vs Q E hr h=>?_)
 ·obtain ⟨v,rfl,room,first,axs,vo,hax,kQ,kE⟩:=h
  obtain ⟨dx,l,hv,ys,hl,al⟩:=vo.ob
  have c1:=T.cl_View
  have c2:=T.na_View_first
  have c3:=T.na_View_axes
  have f1:=viewF_first room first l
  have f2:=viewF_axes room first l
  have f3:=vn room first l (m := "count") (by decide +kernel)
  refine ⟨_,(@pss_cons _ _ _ _ _ (@ps_expr _ _ _ _ (@pe_call _ _ _ _ _ _ _ _ _ _ _ _ _ _ _ _ G_refuse_long (hr.mono (by decide)) (by rfl) T.m_refuse_long T.F_refuse_long.kp T.b_refuse_long .nil pass0 (@pa_c _ _ _ _ _ (@pe_nMeth0 _ _ _ _ _ _ _ _ _ _ _ _ _ _ _ _ _ (@pvN _ 0 _ _ (by rfl) (by trivial) (by decide) (by decide)) T.cl_View T.mt_View_count G_View_count (hr.mono (by decide)) T.b_View_count .nil pass0 (by rfl)) (@pa_nil _) (by rfl)) (by decide) (by rfl) (by rfl)) (by rfl)) (@pss_cons _ _ _ _ _ (@ps_set _ _ (1) _ _ _ _ c_View_cells.nd rfl (Or.inl rfl) (@pe_qLst _ _ _ _ (@pa_c _ _ _ _ _ (@pe_nFld _ _ _ _ _ (@pvN _ 0 _ _ (by rfl) (by trivial) (by decide) (by decide)) rfl) (@pa_nil _) (by rfl))) (by rfl) (by trivial)) (@pss_cons _ _ _ _ _ (@ps_for _ _ _ _ _ _ _ _ PassesOwn.never rfl (@pi_seq _ _ _ _ (@pe_nFld _ _ _ _ _ (@pvN _ 0 _ _ (by rfl) (by trivial) (by decide) (by decide)) rfl)) ((@pg_tup _ _ _ _ _ (2) rfl (@pgs_consN _ _ _ _ _ (@pg_name _ _ (2) _ c_View_cells.nd rfl (Or.inl rfl) (by trivial)) (@pgs_consN _ _ _ _ _ (@pg_name _ _ (3) _ c_View_cells.nd rfl (Or.inl rfl) (by trivial)) (@pgs_nilN _) (by rfl)) (by rfl)) (by rfl) (by rfl)).mono fun _ _ _ _ h=>gTup_q h) (@pss_one _ _ _ (@ps_set _ _ (1) _ _ _ _ c_View_cells.nd rfl (Or.inl rfl) (@pe_call _ _ _ _ _ _ _ _ _ _ _ _ _ _ _ _ G_widened (hr.mono (by decide)) (by rfl) T.m_widened T.F_widened.kp T.b_widened .nil pass0 (@pa_c _ _ _ _ _ (@pvN _ 1 _ _ (by rfl) (by trivial) (by decide) (by decide)) (@pa_c _ _ _ _ _ (@pvN _ 2 _ _ (by rfl) (by trivial) (by decide) (by decide)) (@pa_c _ _ _ _ _ (@pvN _ 3 _ _ (by rfl) (by trivial) (by decide) (by decide)) (@pa_nil _) (by rfl)) (by rfl)) (by rfl)) (by decide) (by rfl) (by rfl)) (by rfl) (by trivial))) (by intros;rfl)) (@pss_one _ _ _ (@ps_ret _ _ _ _ (@pvN _ 1 _ _ (by rfl) (by trivial) (by decide) (by decide))))))),?_⟩
  rw [show start ["self", "found", "size", "pace"] [.ref v]=[some (.ref v),none,none,none] from rfl]
  clear G_View_count G_refuse_long G_widened
  simp! only [and_true]
  rw [c_spVCount]
  refine ⟨room,first,axs,vo,hax,fun H1 e1=>?_⟩
  have hv1:=e1.at hv
  have hl1:=e1.at hl
  simp! only [and_true]
  rw [c_spLong]
  refine ⟨fun hc=>?_,kE⟩
  have kQ':=kQ hc
  clear kQ kE
  simp! only [and_true]
  intro r H2 hr2 e2 h2
  have hv2:=e2.at hv1
  have hl2:=e2.at hl1
  simp! only [and_true]
  have hpos:∀ a∈axs,(1:Int)≤a.1:=fun a ha=>(hax.2 a ha).1
  refine for_lst (xs:=ys) (fun i σ H'=>∃ (r:Addr) (v2 v3:Option V),σ=[some (.ref v),some (.ref r),v2,v3]∧Ext H H'∧H r=none∧H' r=some (.lst ((cellsL first (axs.take i)).map V.int))) ⟨r,none,none,rfl,e1.trans e2,e1.free hr2,h2⟩ (fun i σ H' _ ⟨_,_,_,_,e,_,_⟩=>e.at hl) ?_ ?_
  ·rintro i y _ H3 hi ⟨r3,v2,v3,rfl,e3,hr3,h3⟩
   obtain ⟨a,q,ha,rfl,hq⟩:=al_ax al hi
   have hq3:=e3.at hq
   have hm:=hax.2 a (List.mem_of_getElem? ha)
   simp! only [↓m_kBody]
   rw [c_spWidened]
   refine ⟨_,h3,hm.1,?_,hm.2,fun r4 H4 hr4 e4 h4=>?_⟩
   ·have hl4:=cellsL_len first (axs.take i) fun b hb=>hpos b (List.mem_of_mem_take hb)
    have hp:=prodL_take_le (axs.map fun a=>a.1) (fun n hn=>by obtain ⟨b,hb,rfl⟩:=List.mem_map.mp hn;exact hpos b hb) (i+1)
    rw [prodL_take _ i a.1 (by rw [List.getElem?_map,ha];rfl),←List.map_take,←hl4] at hp
    have hza:((a.1.toNat:Nat):Int)=a.1:=Int.toNat_of_nonneg (by omega)
    have:(((cellsL first (axs.take i)).length * a.1.toNat:Nat):Int)≤4096:=by rw [Int.natCast_mul,hza];omega
    omega
   ·simp! only [and_true]
    refine ⟨r4,_,_,rfl,e3.trans e4,e3.free hr4,?_⟩
    rw [h4,List.take_add_one,ha]
    show _=some (HO.lst (List.map V.int (cellsL first (axs.take i++[a]))))
    rw [cellsL_snoc]
  ·rintro _ H3 ⟨r3,v2,v3,rfl,e3,hr3,h3⟩
   have hyl:ys.length=axs.length:=by rw [al.1];unfold axL;rw [List.length_map]
   rw [hyl,List.take_length] at h3
   simp! only [and_true]
   exact kQ' r3 H3 hr3 e3 h3
def storeF (l:Addr):List (Str × V):=putF "floor" (V.ref l) []
theorem storeF_floor (l:Addr):(storeF l).lookup ("floor":Str)=some (.ref l):=by
 unfold storeF
 rw [lookup_putF,if_pos rfl]
theorem storeF_no (l:Addr){m:Str}(h:m∈([("all_values":Str), "refuse_room", "read", "put", "copied", "fill"]:List Str)):(storeF l).lookup m=none:=by
 have:¬ m = "floor":=by
  revert m
  decide +kernel
 unfold storeF
 rw [lookup_putF,if_neg this]
 rfl
structure StoreAt (C:Addr) (H:Hp) (s l:Addr) (vals:List Int):Prop where
 ob:∃ dx,H s=some (.ins C dx (storeF l))
 fl:H l=some (.lst (vals.map V.int))
theorem StoreAt.ext {C:Addr}{H H':Hp}{s l:Addr}{vals:List Int}(h:StoreAt C H s l vals) (e:Ext H H'):StoreAt C H' s l vals:=by
 obtain ⟨dx,h1⟩:=h.ob
 exact ⟨⟨dx,e.at h1⟩,e.at h.fl⟩
abbrev B_spSInit (C:Addr) (x:Addr) (p:Addr) (H:Hp) (Q:VK) (E:XK):Prop:=∃ (dx:Addr) (vals:List Int),H x=some (.ins C dx [])∧H p=some (.lst (vals.map V.int))∧1≤vals.length∧vals.length≤4096∧∀ (H':Hp) (l:Addr),(∀ H0,Ext H0 H->H0 x=none->Ext H0 H')->H l=none->H' x=some (.ins C dx (storeF l))->H' l=some (.lst (vals.map V.int))->Q .non H'
def spSInit (C:Addr):Sp:=fun vs H Q E=>∃ (x:Addr) (p:Addr),vs=[.ref x,.ref p]∧(B_spSInit C x p H Q E)
theorem c_spSInit (C:Addr) (x:Addr) (p:Addr) (H:Hp) (Q:VK) (E:XK):spSInit C [.ref x,.ref p] H Q E=(B_spSInit C x p H Q E):=spx2 (f:=fun (x:Addr) (p:Addr)=>[.ref x,.ref p]) (fun _ _ _ _ h=>by cases h;exact ⟨rfl,rfl⟩) x p
theorem l_spSInit (C:Addr){vs:List V}{H:Hp}{Q:VK}{E:XK}(h:spSInit C vs H Q E):vs.length=2:=spl2 h fun _ _=>rfl
theorem ok_Store___init__ (T:Tx K mg t):FnOk P w K mg base CX0 4 t.a_Store___init__ t.d_Store___init__ ["self", "values"] (spSInit t.a_Store):=by
 have G_refuse_long:=ok_refuse_long (P:=P) (w:=w) (base:=base) T
 refine T.F_Store___init__.ok c_Store___init__ (fun vs H Q E h=>l_spSInit _ h) (fun cdv A outer s H vs Q E hr h=>?_)
 ·obtain ⟨x,p,rfl,dx,vals,hx,hp,hv1,hv2,k⟩:=h
  have c1:=T.cl_Store
  have c2:=T.na_Store_floor
  refine ⟨_,(@pss_cons _ _ _ _ _ (@ps_if _ _ _ _ _ _ _ _ (@pt_cmpRN _ _ _ _ _ _ _ _ (op_qEq hr.units) (@pe_callB _ _ _ _ _ _ _ ("len") _ call_qLen (by rfl) T.z_len (by decide +kernel) (@pa_c _ _ _ _ _ (@pvN _ 1 _ _ (by rfl) (by trivial) (by decide) (by decide)) (@pa_nil _) (by rfl)) (by decide) (by decide) (by rfl) (by rfl)) (@pe_int _ _ _ _) (nomark _)) (@pss_one _ _ _ (@ps_never _ _)) (@pss_nil _)) (@pss_cons _ _ _ _ _ (@ps_expr _ _ _ _ (@pe_call _ _ _ _ _ _ _ _ _ _ _ _ _ _ _ _ G_refuse_long (hr.mono (by decide)) (by rfl) T.m_refuse_long T.F_refuse_long.kp T.b_refuse_long .nil pass0 (@pa_c _ _ _ _ _ (@pe_callB _ _ _ _ _ _ _ ("len") _ call_qLen (by rfl) T.z_len (by decide +kernel) (@pa_c _ _ _ _ _ (@pvN _ 1 _ _ (by rfl) (by trivial) (by decide) (by decide)) (@pa_nil _) (by rfl)) (by decide) (by decide) (by rfl) (by rfl)) (@pa_nil _) (by rfl)) (by decide) (by rfl) (by rfl)) (by rfl)) (@pss_one _ _ _ (@ps_nSetF _ _ _ _ _ _ _ _ (@pvN _ 0 _ _ (by rfl) (by trivial) (by decide) (by decide)) (@pe_callTy _ _ _ _ _ _ _ _ _ call_nList (by rfl) T.z_list (by decide +kernel) (@pa_c _ _ _ _ _ (@pvN _ 1 _ _ (by rfl) (by trivial) (by decide) (by decide)) (@pa_nil _) (by rfl)) (by decide) (by decide) (by rfl) (by rfl)) rfl)))),?_⟩
  rw [show start ["self", "values"] [.ref x,.ref p]=[some (.ref x),some (.ref p)] from rfl]
  clear G_refuse_long
  have hv0:¬ ((vals.length:Int)=0):=by omega
  simp! only [and_true]
  rw [c_spLong]
  refine ⟨fun _=>?_,fun h=>absurd h (by omega)⟩
  simp! only [and_true]
  intro l H1 hl e1 h1
  have hx1:=e1.at hx
  have hlx:l ≠ x:=fun z=>by rw [z,hx] at hl;cases hl
  simp! only [and_true]
  exact k _ l (fun H0 q0 q1=>(q0.trans e1).put q1) hl upd_same (by rw [upd_ne hlx];exact h1)
abbrev B_spAllV (C:Addr) (s:Addr) (H:Hp) (Q:VK) (E:XK):Prop:=∃ (l:Addr) (vals:List Int),StoreAt C H s l vals∧vals.length≤4096∧∀ (r:Addr) (H':Hp),H r=none->Ext H H'->H' r=some (.lst (vals.map V.int))->Q (.ref r) H'
def spAllV (C:Addr):Sp:=fun vs H Q E=>∃ (s:Addr),vs=[.ref s]∧(B_spAllV C s H Q E)
theorem c_spAllV (C:Addr) (s:Addr) (H:Hp) (Q:VK) (E:XK):spAllV C [.ref s] H Q E=(B_spAllV C s H Q E):=spx1 (f:=fun (s:Addr)=>[.ref s]) (fun _ _ h=>by cases h;exact rfl) s
theorem l_spAllV (C:Addr){vs:List V}{H:Hp}{Q:VK}{E:XK}(h:spAllV C vs H Q E):vs.length=1:=spl1 h fun _=>rfl
theorem ok_Store_all_values (T:Tx K mg t):FnOk P w K mg base CX0 1 t.a_Store_all_values t.d_Store_all_values ["self"] (spAllV t.a_Store):=by
 refine T.F_Store_all_values.ok c_Store_all_values (fun vs H Q E h=>l_spAllV _ h) (fun cdv A outer s' H vs Q E hr h=>?_)
 ·obtain ⟨s,rfl,l,vals,so,hv2,k⟩:=h
  obtain ⟨dx,hs⟩:=so.ob
  have hfl:=so.fl
  have c1:=T.cl_Store
  have c2:=T.na_Store_floor
  have f1:=storeF_floor l
  refine ⟨_,(@pss_one _ _ _ (@ps_ret _ _ _ _ (@pe_callTy _ _ _ _ _ _ _ _ _ call_nList (by rfl) T.z_list (by decide +kernel) (@pa_c _ _ _ _ _ (@pe_nFld _ _ _ _ _ (@pvN _ 0 _ _ (by rfl) (by trivial) (by decide) (by decide)) rfl) (@pa_nil _) (by rfl)) (by decide) (by decide) (by rfl) (by rfl)))),?_⟩
  rw [show start ["self"] [.ref s]=[some (.ref s)] from rfl]
  simp! only [and_true]
  intro r H1 hr1 e1 h1
  exact k r H1 hr1 e1 h1
abbrev B_spRoom (CS CV:Addr) (s:Addr) (v:Addr) (H:Hp) (Q:VK) (E:XK):Prop:=∃ (l:Addr) (vals:List Int) (room first:Int) (axs:List (Int × Int)),StoreAt CS H s l vals∧ViewAt CV H v room first axs∧room=vals.length∧Q .non H
def spRoom (CS CV:Addr):Sp:=fun vs H Q E=>∃ (s:Addr) (v:Addr),vs=[.ref s,.ref v]∧(B_spRoom CS CV s v H Q E)
theorem c_spRoom (CS CV:Addr) (s:Addr) (v:Addr) (H:Hp) (Q:VK) (E:XK):spRoom CS CV [.ref s,.ref v] H Q E=(B_spRoom CS CV s v H Q E):=spx2 (f:=fun (s:Addr) (v:Addr)=>[.ref s,.ref v]) (fun _ _ _ _ h=>by cases h;exact ⟨rfl,rfl⟩) s v
theorem l_spRoom (CS CV:Addr){vs:List V}{H:Hp}{Q:VK}{E:XK}(h:spRoom CS CV vs H Q E):vs.length=2:=spl2 h fun _ _=>rfl
theorem ok_Store_refuse_room (T:Tx K mg t):FnOk P w K mg base CX0 1 t.a_Store_refuse_room t.d_Store_refuse_room ["self", "view"] (spRoom t.a_Store t.a_View):=by
 refine T.F_Store_refuse_room.ok c_Store_refuse_room (fun vs H Q E h=>l_spRoom _ _ h) (fun cdv A outer s' H vs Q E hr h=>?_)
 ·obtain ⟨s,v,rfl,l,vals,room,first,axs,so,vo,hroom,k⟩:=h
  obtain ⟨dx,hs⟩:=so.ob
  obtain ⟨dy,D,hv,_⟩:=vo.ob
  have hfl:=so.fl
  have c1:=T.cl_Store
  have c2:=T.na_Store_floor
  have c3:=T.cl_View
  have c4:=T.na_View_room
  have f1:=storeF_floor l
  have f2:=viewF_room room first D
  refine ⟨_,(@pss_one _ _ _ (@ps_if _ _ _ _ _ _ _ _ (@pt_cmpRN _ _ _ _ _ _ _ _ (op_qNe hr.units) (@pe_nFld _ _ _ _ _ (@pvN _ 1 _ _ (by rfl) (by trivial) (by decide) (by decide)) rfl) (@pe_callB _ _ _ _ _ _ _ ("len") _ call_qLen (by rfl) T.z_len (by decide +kernel) (@pa_c _ _ _ _ _ (@pe_nFld _ _ _ _ _ (@pvN _ 0 _ _ (by rfl) (by trivial) (by decide) (by decide)) rfl) (@pa_nil _) (by rfl)) (by decide) (by decide) (by rfl) (by rfl)) (nomark _)) (@pss_one _ _ _ (@ps_never _ _)) (@pss_nil _))),?_⟩
  rw [show start ["self", "view"] [.ref s,.ref v]=[some (.ref s),some (.ref v)] from rfl]
  subst hroom
  simp! only [and_true]
def spRCount (CV:Addr):Sp:=fun vs H Q E=>∃ (v:Addr) (n:Int),vs=[.ref v,.int n]∧(∃ (room first:Int) (axs:List (Int × Int)),ViewAt CV H v room first axs∧Axes axs∧n=prodL (axs.map fun a=>a.1)∧∀ H',Ext H H'->Q .non H')
theorem c_spRCount (CV:Addr) (v:Addr) (n:Int) (H:Hp) (Q:VK) (E:XK):spRCount CV [.ref v,.int n] H Q E=(∃ (room first:Int) (axs:List (Int × Int)),ViewAt CV H v room first axs∧Axes axs∧n=prodL (axs.map fun a=>a.1)∧∀ H',Ext H H'->Q .non H'):=spx2 (f:=fun (v:Addr) (n:Int)=>[.ref v,.int n]) (fun _ _ _ _ h=>by cases h;exact ⟨rfl,rfl⟩) v n
theorem l_spRCount (CV:Addr){vs:List V}{H:Hp}{Q:VK}{E:XK}(h:spRCount CV vs H Q E):vs.length=2:=spl2 h fun _ _=>rfl
theorem ok_refuse_count (T:Tx K mg t):FnOk P w K mg base CX0 3 t.a_refuse_count t.d_refuse_count ["view", "many"] (spRCount t.a_View):=by
 have G_View_count:=ok_View_count (P:=P) (w:=w) (base:=base) T
 refine T.F_refuse_count.ok c_refuse_count (fun vs H Q E h=>l_spRCount _ h) (fun cdv A outer s' H vs Q E hr h=>?_)
 ·obtain ⟨v,n,rfl,room,first,axs,vo,hax,hn,k⟩:=h
  obtain ⟨dy,D,hv,_⟩:=vo.ob
  have f3:=vn room first D (m := "count") (by decide +kernel)
  have c3:=T.cl_View
  refine ⟨_,(@pss_one _ _ _ (@ps_if _ _ _ _ _ _ _ _ (@pt_cmpRN _ _ _ _ _ _ _ _ (op_qNe hr.units) (@pe_nMeth0 _ _ _ _ _ _ _ _ _ _ _ _ _ _ _ _ _ (@pvN _ 0 _ _ (by rfl) (by trivial) (by decide) (by decide)) T.cl_View T.mt_View_count G_View_count (hr.mono (by decide)) T.b_View_count .nil pass0 (by rfl)) (@pvN _ 1 _ _ (by rfl) (by trivial) (by decide) (by decide)) (nomark _)) (@pss_one _ _ _ (@ps_never _ _)) (@pss_nil _))),?_⟩
  rw [show start ["view", "many"] [.ref v,.int n]=[some (.ref v),some (.int n)] from rfl]
  clear G_View_count
  subst hn
  simp! only [and_true]
  rw [c_spVCount]
  refine ⟨room,first,axs,vo,hax,fun H1 e1=>?_⟩
  have k1:=k H1 e1
  clear k
  simp! only [and_true]
theorem at_vals {vals:List Int}{c:Int}(h0:0≤c) (h1:c < vals.length):atI (vals.map V.int) c=some (.int (vals.getD c.toNat 0)):=by
 obtain ⟨n,rfl⟩:=Int.eq_ofNat_of_zero_le h0
 have hn:n < vals.length:=by omega
 refine atI_nat ?_
 rw [List.getElem?_map,List.getElem?_eq_getElem hn]
 simp [List.getD,List.getElem?_eq_getElem hn]
theorem ix_in {n:Nat}{c:Int}(h0:0≤c) (h1:c < n):ixN n c=some c.toNat:=by
 unfold ixN
 rw [if_pos h0,if_pos (by omega)]
theorem al_ints (cs:List Int):Al (fun (z:Int) (y:V)=>y=.int z) cs (cs.map V.int):=by
 refine ⟨by rw [List.length_map],fun i z y hz hy=>?_⟩
 rw [List.getElem?_map,hz] at hy
 cases hy
 rfl
def OnFloor (cs:List Int) (n:Nat):Prop:=∀ c∈cs,0≤c∧c < (n:Int)
def readL (vals cs:List Int):List Int:=cs.map fun c=>vals.getD c.toNat 0
def putL (vals cs ws:List Int):List Int:=(cs.zip ws).foldl (fun vs p=>vs.set p.1.toNat p.2) vals
abbrev B_spRead (CS CV:Addr) (s:Addr) (v:Addr) (H:Hp) (Q:VK) (E:XK):Prop:=∃ (l:Addr) (vals:List Int) (room first:Int) (axs:List (Int × Int)),StoreAt CS H s l vals∧ViewAt CV H v room first axs∧Axes axs∧room=vals.length∧prodL (axs.map fun a=>a.1)≤4096∧OnFloor (cellsL first axs) vals.length∧∀ (r:Addr) (H':Hp),H r=none->Ext H H'->H' r=some (.lst ((readL vals (cellsL first axs)).map V.int))->Q (.ref r) H'
def spRead (CS CV:Addr):Sp:=fun vs H Q E=>∃ (s:Addr) (v:Addr),vs=[.ref s,.ref v]∧(B_spRead CS CV s v H Q E)
theorem c_spRead (CS CV:Addr) (s:Addr) (v:Addr) (H:Hp) (Q:VK) (E:XK):spRead CS CV [.ref s,.ref v] H Q E=(B_spRead CS CV s v H Q E):=spx2 (f:=fun (s:Addr) (v:Addr)=>[.ref s,.ref v]) (fun _ _ _ _ h=>by cases h;exact ⟨rfl,rfl⟩) s v
theorem l_spRead (CS CV:Addr){vs:List V}{H:Hp}{Q:VK}{E:XK}(h:spRead CS CV vs H Q E):vs.length=2:=spl2 h fun _ _=>rfl
theorem ok_Store_read (T:Tx K mg t):FnOk P w K mg base CX0 5 t.a_Store_read t.d_Store_read ["self", "view"] (spRead t.a_Store t.a_View):=by
 have G_Store_refuse_room:=ok_Store_refuse_room (P:=P) (w:=w) (base:=base) T
 have G_View_cells:=ok_View_cells (P:=P) (w:=w) (base:=base) T
 refine T.F_Store_read.ok c_Store_read (fun vs H Q E h=>l_spRead _ _ h) (fun cdv A outer s' H vs Q E hr h=>?_)
 ·obtain ⟨s,v,rfl,l,vals,room,first,axs,so,vo,hax,hroom,hpr,hon,k⟩:=h
  subst hroom
  obtain ⟨dx,hs⟩:=so.ob
  obtain ⟨dy,D,hv,_⟩:=vo.ob
  have hfl:=so.fl
  have c1:=T.cl_Store
  have c2:=T.na_Store_floor
  have c3:=T.cl_View
  have f1:=storeF_floor l
  have f2:=storeF_no l (m := "refuse_room") (by decide +kernel)
  have f3:=vn (vals.length:Int) first D (m := "cells") (by decide +kernel)
  refine ⟨_,(@pss_cons _ _ _ _ _ (@ps_expr _ _ _ _ (@pe_nMeth _ _ _ _ _ _ _ _ _ _ _ _ _ _ _ _ _ _ _ _ (@pvN _ 0 _ _ (by rfl) (by trivial) (by decide) (by decide)) T.cl_Store T.mt_Store_refuse_room G_Store_refuse_room (hr.mono (by decide)) T.b_Store_refuse_room .nil pass0 (@pa_c _ _ _ _ _ (@pvN _ 1 _ _ (by rfl) (by trivial) (by decide) (by decide)) (@pa_nil _) (by rfl)) (by rfl) (by rfl) (by rfl)) (by rfl)) (@pss_one _ _ _ (@ps_ret _ _ _ _ (@pe_comp _ _ _ _ _ _ _ _ _ _ _ (["cell", "self", "view"]) (1) (comp_ok (defScope s_Store_read) ["self", "view"] rfl rfl (by decide +kernel)) rfl (@pi_seq _ _ _ _ (@pe_nMeth0 _ _ _ _ _ _ _ _ _ _ _ _ _ _ _ _ _ (@pvN _ 1 _ _ (by rfl) (by trivial) (by decide) (by decide)) T.cl_View T.mt_View_cells G_View_cells (hr.mono (by decide)) T.b_View_cells .nil pass0 (by rfl))) (fun C s₀ H₀ ex pn=>(@pg_name _ _ (0) _ (show List.Nodup (["cell", "self", "view"]:List Str) from by decide +kernel) rfl (Or.inl rfl) (by trivial))) (fun C s₀ H₀ ex pn=>(@pts_nil _)) (fun C s₀ H₀ ex pn=>(@pe_ix _ _ _ _ _ _ _ ix_q (@pe_nFld' _ _ _ _ _ (K) rfl (@pvN _ 1 _ _ (by rfl) (by trivial) (by decide) (by decide)) rfl) (@pvN _ 0 _ _ (by rfl) (by trivial) (by decide) (by decide)) (fun _ _=>rfl))) (by intros;rfl))))),?_⟩
  rw [show start ["self", "view"] [.ref s,.ref v]=[some (.ref s),some (.ref v)] from rfl]
  clear G_Store_refuse_room G_View_cells
  simp! only [and_true]
  rw [c_spRoom]
  refine ⟨l,vals,_,first,axs,so,vo,rfl,?_⟩
  simp! only [and_true]
  rw [c_spCells]
  refine ⟨_,first,axs,vo,hax,fun _ r1 H1 hr1 e1 h1=>?_,fun h=>absurd h (by omega)⟩
  have hcl:=cellsL_len first axs fun a ha=>(hax.2 a ha).1
  have hs1:=e1.at hs
  have hfl1:=e1.at hfl
  unfold readL at k
  generalize cellsL first axs=cs at h1 hon k hcl
  have hcl2:cs.length≤4096:=by omega
  simp! only [and_true]
  have wk:=wk_al (K:=K) (R:=fun (z:Int) y _=>y=.int z) (fun _ _ _ _ h _=>h) h1 (al_ints cs)
  refine comp_fm cs (fun _=>true) (fun c=>.int (vals.getD c.toNat 0)) (fun z y _=>y=.int z) wk.1 wk.2 (len5000 (by omega)) ?_ ?_
  ·intro D2 c y H' N1 N0 hc hD e hy k1 _
   subst hy
   have hat:=at_vals (hon c hc).1 (hon c hc).2
   have k1':=k1 rfl H' (Ext.refl _)
   have hs':=e.at hs1
   have hfl':=e.at hfl1
   clear k1 k hon hc
   simp! only [↓m_kCm_1,↓m_kCm2]
  ·intro D2 H2 hD2 e2 h2
   rw [filt] at h2
   have k2:=k D2 H2 (e1.free hD2) (e1.trans e2) (by rw [h2,List.map_map];rfl)
   clear k hon
   simp! only [and_true]
theorem putL_take {vals cs ws:List Int}{i:Nat}{c z:Int}(hc:cs[i]? = some c) (hw:ws[i]? = some z):putL vals (cs.take (i+1)) (ws.take (i+1))=(putL vals (cs.take i) (ws.take i)).set c.toNat z:=by
 unfold putL
 have e1:(cs.take (i+1)).zip (ws.take (i+1))=(cs.take i).zip (ws.take i)++[(c,z)]:=by
  rw [List.take_add_one,List.take_add_one,hc,hw,List.zip_append (by
   have h1:=(List.getElem?_eq_some_iff.mp hc).1
   have h2:=(List.getElem?_eq_some_iff.mp hw).1
   rw [List.length_take,List.length_take];omega)]
  rfl
 rw [e1,List.foldl_append]
 rfl
theorem putL_len (vals:List Int):∀ (ps:List (Int × Int)),(ps.foldl (fun vs p=>vs.set p.1.toNat p.2) vals).length=vals.length:=by
 intro ps
 induction ps generalizing vals with
 | nil=>rfl
 | cons p ps ih=>rw [List.foldl_cons,ih,List.length_set]
theorem putL_length (vals cs ws:List Int):(putL vals cs ws).length=vals.length:=putL_len vals _
theorem map_set' (xs:List Int) (j:Nat) (z:Int):(xs.map V.int).set j (.int z)=(xs.set j z).map V.int:=by
 rw [List.map_set]
def spPut (CS CV:Addr):Sp:=fun vs H Q E=>∃ (s:Addr) (v:Addr) (p:Addr),vs=[.ref s,.ref v,.ref p]∧(∃ (l:Addr) (vals:List Int) (room first:Int) (axs:List (Int × Int)) (ws:List Int),StoreAt CS H s l vals∧ViewAt CV H v room first axs∧Axes axs∧room=vals.length∧vals.length≤4096∧prodL (axs.map fun a=>a.1)≤4096∧OnFloor (cellsL first axs) vals.length∧H p=some (.lst (ws.map V.int))∧p ≠ l∧(ws.length:Int)=prodL (axs.map fun a=>a.1)∧∀ H',(∀ H0,Ext H0 H->H0 l=none->Ext H0 H')->(∀ b o,b ≠ l->H b=some o->H' b=some o)->H' l=some (.lst ((putL vals (cellsL first axs) ws).map V.int))->Q .non H')
theorem c_spPut (CS CV:Addr) (s:Addr) (v:Addr) (p:Addr) (H:Hp) (Q:VK) (E:XK):spPut CS CV [.ref s,.ref v,.ref p] H Q E=(∃ (l:Addr) (vals:List Int) (room first:Int) (axs:List (Int × Int)) (ws:List Int),StoreAt CS H s l vals∧ViewAt CV H v room first axs∧Axes axs∧room=vals.length∧vals.length≤4096∧prodL (axs.map fun a=>a.1)≤4096∧OnFloor (cellsL first axs) vals.length∧H p=some (.lst (ws.map V.int))∧p ≠ l∧(ws.length:Int)=prodL (axs.map fun a=>a.1)∧∀ H',(∀ H0,Ext H0 H->H0 l=none->Ext H0 H')->(∀ b o,b ≠ l->H b=some o->H' b=some o)->H' l=some (.lst ((putL vals (cellsL first axs) ws).map V.int))->Q .non H'):=spx3 (f:=fun (s:Addr) (v:Addr) (p:Addr)=>[.ref s,.ref v,.ref p]) (fun _ _ _ _ _ _ h=>by cases h;exact ⟨rfl,rfl,rfl⟩) s v p
theorem l_spPut (CS CV:Addr){vs:List V}{H:Hp}{Q:VK}{E:XK}(h:spPut CS CV vs H Q E):vs.length=3:=spl3 h fun _ _ _=>rfl
theorem ok_Store_put (T:Tx K mg t):FnOk P w K mg base CX0 5 t.a_Store_put t.d_Store_put ["self", "view", "values"] (spPut t.a_Store t.a_View):=by
 have G_Store_refuse_room:=ok_Store_refuse_room (P:=P) (w:=w) (base:=base) T
 have G_refuse_count:=ok_refuse_count (P:=P) (w:=w) (base:=base) T
 have G_View_cells:=ok_View_cells (P:=P) (w:=w) (base:=base) T
 refine T.F_Store_put.ok c_Store_put (fun vs H Q E h=>l_spPut _ _ h) (fun cdv A outer s' H vs Q E hr h=>?_)
 ·obtain ⟨s,v,p,rfl,l,vals,room,first,axs,ws,so,vo,hax,hroom,hv2,hpr,hon,hp,hpl,hwl,k⟩:=h
  subst hroom
  obtain ⟨dx,hs⟩:=so.ob
  obtain ⟨dy,D,hv,_⟩:=vo.ob
  have hfl:=so.fl
  have c1:=T.cl_Store
  have c2:=T.na_Store_floor
  have c3:=T.cl_View
  have f1:=storeF_floor l
  have f2:=storeF_no l (m := "refuse_room") (by decide +kernel)
  have f3:=vn (vals.length:Int) first D (m := "cells") (by decide +kernel)
  refine ⟨_,(@pss_cons _ _ _ _ _ (@ps_expr _ _ _ _ (@pe_nMeth _ _ _ _ _ _ _ _ _ _ _ _ _ _ _ _ _ _ _ _ (@pvN _ 0 _ _ (by rfl) (by trivial) (by decide) (by decide)) T.cl_Store T.mt_Store_refuse_room G_Store_refuse_room (hr.mono (by decide)) T.b_Store_refuse_room .nil pass0 (@pa_c _ _ _ _ _ (@pvN _ 1 _ _ (by rfl) (by trivial) (by decide) (by decide)) (@pa_nil _) (by rfl)) (by rfl) (by rfl) (by rfl)) (by rfl)) (@pss_cons _ _ _ _ _ (@ps_expr _ _ _ _ (@pe_call _ _ _ _ _ _ _ _ _ _ _ _ _ _ _ _ G_refuse_count (hr.mono (by decide)) (by rfl) T.m_refuse_count T.F_refuse_count.kp T.b_refuse_count .nil pass0 (@pa_c _ _ _ _ _ (@pvN _ 1 _ _ (by rfl) (by trivial) (by decide) (by decide)) (@pa_c _ _ _ _ _ (@pe_callB _ _ _ _ _ _ _ ("len") _ call_qLen (by rfl) T.z_len (by decide +kernel) (@pa_c _ _ _ _ _ (@pvN _ 2 _ _ (by rfl) (by trivial) (by decide) (by decide)) (@pa_nil _) (by rfl)) (by decide) (by decide) (by rfl) (by rfl)) (@pa_nil _) (by rfl)) (by rfl)) (by decide) (by rfl) (by rfl)) (by rfl)) (@pss_one _ _ _ (@ps_for _ _ _ _ _ _ _ _ PassesOwn.never rfl (@pi_zip _ _ _ _ _ _ _ _ _ (by rfl) T.z_zip (@pa_c _ _ _ _ _ (@pe_nMeth0 _ _ _ _ _ _ _ _ _ _ _ _ _ _ _ _ _ (@pvN _ 1 _ _ (by rfl) (by trivial) (by decide) (by decide)) T.cl_View T.mt_View_cells G_View_cells (hr.mono (by decide)) T.b_View_cells .nil pass0 (by rfl)) (@pa_c _ _ _ _ _ (@pvN _ 2 _ _ (by rfl) (by trivial) (by decide) (by decide)) (@pa_nil _) (by rfl)) (by rfl)) (by rfl) (by rfl)) ((@pg_tup _ _ _ _ _ (2) rfl (@pgs_consN _ _ _ _ _ (@pg_name _ _ (3) _ c_Store_put.nd rfl (Or.inl rfl) (by trivial)) (@pgs_consN _ _ _ _ _ (@pg_name _ _ (4) _ c_Store_put.nd rfl (Or.inl rfl) (by trivial)) (@pgs_nilN _) (by rfl)) (by rfl)) (by rfl) (by rfl)).mono fun _ _ _ _ h=>gTup_q h) (@pss_one _ _ _ (@ps_asg _ _ _ _ _ _ (@pvN _ 4 _ _ (by rfl) (by trivial) (by decide) (by decide)) (@pg_sub _ _ _ _ _ _ _ (@pe_nFld _ _ _ _ _ (@pvN _ 0 _ _ (by rfl) (by trivial) (by decide) (by decide)) rfl) (@pvN _ 3 _ _ (by rfl) (by trivial) (by decide) (by decide)) set_list (by intros;rfl)) (by rfl) (by rfl) (by rfl))) (by intros;rfl))))),?_⟩
  rw [show start ["self", "view", "values", "cell", "value"] [.ref s,.ref v,.ref p]=[some (.ref s),some (.ref v),some (.ref p),none,none] from rfl]
  clear G_Store_refuse_room G_refuse_count G_View_cells
  simp! only [and_true]
  rw [c_spRoom]
  refine ⟨l,vals,_,first,axs,so,vo,rfl,?_⟩
  simp! only [and_true]
  rw [c_spRCount]
  refine ⟨_,first,axs,vo,hax,(by first|rfl|exact hwl),fun H1 e1=>?_⟩
  have hv1:=e1.at hv
  have hp1:=e1.at hp
  simp! only [and_true]
  rw [c_spCells]
  refine ⟨_,first,axs,vo.ext e1,hax,fun _ r2 H2 hr2 e2 h2=>?_,fun h=>absurd h (by omega)⟩
  have hcl:=cellsL_len first axs fun a ha=>(hax.2 a ha).1
  generalize cellsL first axs=cs at h2 hon k hcl
  have hcl2:cs.length=ws.length:=by omega
  have hp2:=e2.at hp1
  have hs2:=(e1.trans e2).at hs
  have hfl2:=(e1.trans e2).at hfl
  have hr2l:r2 ≠ l:=fun z=>by rw [z,e1.at hfl] at hr2;cases hr2
  simp! only [and_true]
  refine for_zip (ka:=false) (kb:=false) (xs:=cs.map V.int) (ys:=ws.map V.int) (fun i σ H'=>∃ v3 v4:Option V,σ=[some (.ref s),some (.ref v),some (.ref p),v3,v4]∧(∀ H0,Ext H0 H2->H0 l=none->Ext H0 H')∧(∀ b o,b ≠ l->H2 b=some o->H' b=some o)∧H' l=some (.lst ((putL vals (cs.take i) (ws.take i)).map V.int))) ⟨none,none,rfl,fun _ q _=>q,fun _ _ _ q=>q,hfl2⟩ (fun i σ H' ⟨_,_,_,_,hk,_⟩=>⟨hk _ _ hr2l h2,hk _ _ hpl hp2⟩) ?_ ?_
  ·rintro i u x q _ H3 H4 hu hx ⟨v3,v4,rfl,ha3,hk3,h3⟩ hq e4 h4
   rw [List.getElem?_map] at hu hx
   obtain ⟨c,hc,rfl⟩:=Option.map_eq_some_iff.mp hu
   obtain ⟨z,hz,rfl⟩:=Option.map_eq_some_iff.mp hx
   have hcb:=hon c (List.mem_of_getElem? hc)
   have hs4:=e4.at (hk3 _ _ (fun z=>by rw [z,hfl2] at hs2;cases hs2) hs2)
   have h3_4:=e4.at h3
   have hlen:=putL_length vals (cs.take i) (ws.take i)
   have hput:=fun (_:Unit)=>putL_take (vals:=vals) hc hz
   generalize putL vals (cs.take i) (ws.take i)=vv at h3 h3_4 hlen hput
   have hix:ixN vv.length c=some c.toNat:=ix_in hcb.1 (by rw [hlen];exact hcb.2)
   clear hu hx hc hz k hon hlen h3
   simp! only [↓m_kBody]
   refine ⟨_,_,rfl,fun H0 q0 q1=>((ha3 H0 q0 q1).trans e4).put q1,fun b o hb hbo=>by rw [upd_ne hb];exact e4.at (hk3 b o hb hbo),?_⟩
   rw [hput (),←map_set']
  ·rintro _ H3 ⟨v3,v4,rfl,ha3,hk3,h3⟩
   have hm:min (cs.map V.int).length (ws.map V.int).length=cs.length:=by rw [List.length_map,List.length_map];omega
   rw [hm,List.take_length,hcl2,List.take_length] at h3
   exact k H3 (fun H0 q0 q1=>ha3 H0 (q0.trans (e1.trans e2)) q1) (fun b o hb hbo=>hk3 b o hb ((e1.trans e2).at hbo)) h3
def fillL (vals cs:List Int) (z:Int):List Int:=cs.foldl (fun vs c=>vs.set c.toNat z) vals
theorem fillL_len (z:Int):∀ (cs vals:List Int),(fillL vals cs z).length=vals.length
 | [],vals=>rfl
 | c::cs,vals=>by
  show (fillL (vals.set c.toNat z) cs z).length=_
  rw [fillL_len z cs,List.length_set]
theorem fillL_take {vals cs:List Int}{z:Int}{i:Nat}{c:Int}(hc:cs[i]? = some c):fillL vals (cs.take (i+1)) z=(fillL vals (cs.take i) z).set c.toNat z:=by
 unfold fillL
 rw [List.take_add_one,hc,List.foldl_append]
 rfl
abbrev B_spFill (CS CV:Addr) (s:Addr) (v:Addr) (z:Int) (H:Hp) (Q:VK) (E:XK):Prop:=∃ (l:Addr) (vals:List Int) (room first:Int) (axs:List (Int × Int)),StoreAt CS H s l vals∧ViewAt CV H v room first axs∧Axes axs∧room=vals.length∧vals.length≤4096∧prodL (axs.map fun a=>a.1)≤4096∧OnFloor (cellsL first axs) vals.length∧∀ H',(∀ H0,Ext H0 H->H0 l=none->Ext H0 H')->(∀ b o,b ≠ l->H b=some o->H' b=some o)->H' l=some (.lst ((fillL vals (cellsL first axs) z).map V.int))->Q .non H'
def spFill (CS CV:Addr):Sp:=fun vs H Q E=>∃ (s:Addr) (v:Addr) (z:Int),vs=[.ref s,.ref v,.int z]∧(B_spFill CS CV s v z H Q E)
theorem c_spFill (CS CV:Addr) (s:Addr) (v:Addr) (z:Int) (H:Hp) (Q:VK) (E:XK):spFill CS CV [.ref s,.ref v,.int z] H Q E=(B_spFill CS CV s v z H Q E):=spx3 (f:=fun (s:Addr) (v:Addr) (z:Int)=>[.ref s,.ref v,.int z]) (fun _ _ _ _ _ _ h=>by cases h;exact ⟨rfl,rfl,rfl⟩) s v z
theorem l_spFill (CS CV:Addr){vs:List V}{H:Hp}{Q:VK}{E:XK}(h:spFill CS CV vs H Q E):vs.length=3:=spl3 h fun _ _ _=>rfl
theorem ok_Store_fill (T:Tx K mg t):FnOk P w K mg base CX0 5 t.a_Store_fill t.d_Store_fill ["self", "view", "value"] (spFill t.a_Store t.a_View):=by
 have G_Store_refuse_room:=ok_Store_refuse_room (P:=P) (w:=w) (base:=base) T
 have G_View_cells:=ok_View_cells (P:=P) (w:=w) (base:=base) T
 refine T.F_Store_fill.ok c_Store_fill (fun vs H Q E h=>l_spFill _ _ h) (fun cdv A outer s' H vs Q E hr h=>?_)
 ·obtain ⟨s,v,z,rfl,l,vals,room,first,axs,so,vo,hax,hroom,hv2,hpr,hon,k⟩:=h
  subst hroom
  obtain ⟨dx,hs⟩:=so.ob
  obtain ⟨dy,D,hv,_⟩:=vo.ob
  have hfl:=so.fl
  have c1:=T.cl_Store
  have c2:=T.na_Store_floor
  have c3:=T.cl_View
  have f1:=storeF_floor l
  have f2:=storeF_no l (m := "refuse_room") (by decide +kernel)
  have f3:=vn (vals.length:Int) first D (m := "cells") (by decide +kernel)
  refine ⟨_,(@pss_cons _ _ _ _ _ (@ps_expr _ _ _ _ (@pe_nMeth _ _ _ _ _ _ _ _ _ _ _ _ _ _ _ _ _ _ _ _ (@pvN _ 0 _ _ (by rfl) (by trivial) (by decide) (by decide)) T.cl_Store T.mt_Store_refuse_room G_Store_refuse_room (hr.mono (by decide)) T.b_Store_refuse_room .nil pass0 (@pa_c _ _ _ _ _ (@pvN _ 1 _ _ (by rfl) (by trivial) (by decide) (by decide)) (@pa_nil _) (by rfl)) (by rfl) (by rfl) (by rfl)) (by rfl)) (@pss_one _ _ _ (@ps_for _ _ _ _ _ _ _ _ PassesOwn.never rfl (@pi_seq _ _ _ _ (@pe_nMeth0 _ _ _ _ _ _ _ _ _ _ _ _ _ _ _ _ _ (@pvN _ 1 _ _ (by rfl) (by trivial) (by decide) (by decide)) T.cl_View T.mt_View_cells G_View_cells (hr.mono (by decide)) T.b_View_cells .nil pass0 (by rfl))) (@pg_name _ _ (3) _ c_Store_fill.nd rfl (Or.inl rfl) (by trivial)) (@pss_one _ _ _ (@ps_asg _ _ _ _ _ _ (@pvN _ 2 _ _ (by rfl) (by trivial) (by decide) (by decide)) (@pg_sub _ _ _ _ _ _ _ (@pe_nFld _ _ _ _ _ (@pvN _ 0 _ _ (by rfl) (by trivial) (by decide) (by decide)) rfl) (@pvN _ 3 _ _ (by rfl) (by trivial) (by decide) (by decide)) set_list (by intros;rfl)) (by rfl) (by rfl) (by rfl))) (by intros;rfl)))),?_⟩
  rw [show start ["self", "view", "value", "cell"] [.ref s,.ref v,.int z]=[some (.ref s),some (.ref v),some (.int z),none] from rfl]
  clear G_Store_refuse_room G_View_cells
  simp! only [and_true]
  rw [c_spRoom]
  refine ⟨l,vals,_,first,axs,so,vo,rfl,?_⟩
  simp! only [and_true]
  rw [c_spCells]
  refine ⟨_,first,axs,vo,hax,fun _ r2 H2 hr2 e2 h2=>?_,fun h=>absurd h (by omega)⟩
  generalize cellsL first axs=cs at h2 hon k
  have hs2:=e2.at hs
  have hfl2:=e2.at hfl
  have hr2l:r2 ≠ l:=fun z=>by rw [z,hfl] at hr2;cases hr2
  simp! only [and_true]
  refine for_lst (xs:=cs.map V.int) (fun i σ H'=>∃ v3:Option V,σ=[some (.ref s),some (.ref v),some (.int z),v3]∧(∀ H0,Ext H0 H2->H0 l=none->Ext H0 H')∧(∀ b o,b ≠ l->H2 b=some o->H' b=some o)∧H' l=some (.lst ((fillL vals (cs.take i) z).map V.int))) ⟨none,rfl,fun _ q _=>q,fun _ _ _ q=>q,hfl2⟩ (fun i σ H' _ ⟨_,_,_,hk,_⟩=>hk _ _ hr2l h2) ?_ ?_
  ·rintro i x _ H3 hx ⟨v3,rfl,ha3,hk3,h3⟩
   rw [List.getElem?_map] at hx
   obtain ⟨c,hc,rfl⟩:=Option.map_eq_some_iff.mp hx
   have hcb:=hon c (List.mem_of_getElem? hc)
   have hs3:=hk3 _ _ (fun z=>by rw [z,hfl2] at hs2;cases hs2) hs2
   have hlen:=fillL_len z (cs.take i) vals
   have hput:=fun (_:Unit)=>fillL_take (vals:=vals) (z:=z) hc
   generalize fillL vals (cs.take i) z=vv at h3 hlen hput
   have hix:ixN vv.length c=some c.toNat:=ix_in hcb.1 (by rw [hlen];exact hcb.2)
   clear hx hc k hon hlen
   simp! only [↓m_kBody]
   refine ⟨_,rfl,fun H0 q0 q1=>(ha3 H0 q0 q1).put q1,fun b o hb hbo=>by rw [upd_ne hb];exact hk3 b o hb hbo,?_⟩
   rw [hput (),←map_set']
  ·rintro _ H3 ⟨v3,rfl,ha3,hk3,h3⟩
   rw [List.length_map,List.take_length] at h3
   have k':=k H3 (fun H0 q0 q1=>ha3 H0 (q0.trans e2) q1) (fun b o hb hbo=>hk3 b o hb (e2.at hbo)) h3
   clear k
   simp! only [and_true]
abbrev B_spCopied (CS CV:Addr) (s:Addr) (v:Addr) (u:Addr) (H:Hp) (Q:VK) (E:XK):Prop:=∃ (l:Addr) (vals:List Int) (f1 f2:Int) (a1 a2:List (Int × Int)),StoreAt CS H s l vals∧ViewAt CV H v vals.length f1 a1∧ViewAt CV H u vals.length f2 a2∧Axes a1∧Axes a2∧vals.length≤4096∧prodL (a1.map fun a=>a.1)≤4096∧prodL (a2.map fun a=>a.1)=prodL (a1.map fun a=>a.1)∧OnFloor (cellsL f1 a1) vals.length∧OnFloor (cellsL f2 a2) vals.length∧∀ H',(∀ H0,Ext H0 H->H0 l=none->Ext H0 H')->(∀ b o,b ≠ l->H b=some o->H' b=some o)->H' l=some (.lst ((putL vals (cellsL f1 a1) (readL vals (cellsL f2 a2))).map V.int))->Q .non H'
def spCopied (CS CV:Addr):Sp:=fun vs H Q E=>∃ (s:Addr) (v:Addr) (u:Addr),vs=[.ref s,.ref v,.ref u]∧(B_spCopied CS CV s v u H Q E)
theorem c_spCopied (CS CV:Addr) (s:Addr) (v:Addr) (u:Addr) (H:Hp) (Q:VK) (E:XK):spCopied CS CV [.ref s,.ref v,.ref u] H Q E=(B_spCopied CS CV s v u H Q E):=spx3 (f:=fun (s:Addr) (v:Addr) (u:Addr)=>[.ref s,.ref v,.ref u]) (fun _ _ _ _ _ _ h=>by cases h;exact ⟨rfl,rfl,rfl⟩) s v u
theorem l_spCopied (CS CV:Addr){vs:List V}{H:Hp}{Q:VK}{E:XK}(h:spCopied CS CV vs H Q E):vs.length=3:=spl3 h fun _ _ _=>rfl
theorem ok_Store_copied (T:Tx K mg t):FnOk P w K mg base CX0 6 t.a_Store_copied t.d_Store_copied ["self", "to", "source"] (spCopied t.a_Store t.a_View):=by
 have G_Store_refuse_room:=ok_Store_refuse_room (P:=P) (w:=w) (base:=base) T
 have G_refuse_count:=ok_refuse_count (P:=P) (w:=w) (base:=base) T
 have G_View_count:=ok_View_count (P:=P) (w:=w) (base:=base) T
 have G_Store_read:=ok_Store_read (P:=P) (w:=w) (base:=base) T
 have G_Store_put:=ok_Store_put (P:=P) (w:=w) (base:=base) T
 refine T.F_Store_copied.ok c_Store_copied (fun vs H Q E h=>l_spCopied _ _ h) (fun cdv A outer s' H vs Q E hr h=>?_)
 ·obtain ⟨s,v,u,rfl,l,vals,f1,f2,a1,a2,so,vo,wo,hx1,hx2,hv2,hp1,hp2,ho1,ho2,k⟩:=h
  obtain ⟨dx,hs⟩:=so.ob
  obtain ⟨dy,D,hv,_⟩:=vo.ob
  obtain ⟨dz,D2,hu,_⟩:=wo.ob
  have hfl:=so.fl
  have c1:=T.cl_Store
  have c3:=T.cl_View
  have g1:=storeF_no l (m := "refuse_room") (by decide +kernel)
  have g2:=storeF_no l (m := "read") (by decide +kernel)
  have g3:=storeF_no l (m := "put") (by decide +kernel)
  have g4:=vn (vals.length:Int) f2 D2 (m := "count") (by decide +kernel)
  refine ⟨_,(@pss_cons _ _ _ _ _ (@ps_expr _ _ _ _ (@pe_nMeth _ _ _ _ _ _ _ _ _ _ _ _ _ _ _ _ _ _ _ _ (@pvN _ 0 _ _ (by rfl) (by trivial) (by decide) (by decide)) T.cl_Store T.mt_Store_refuse_room G_Store_refuse_room (hr.mono (by decide)) T.b_Store_refuse_room .nil pass0 (@pa_c _ _ _ _ _ (@pvN _ 1 _ _ (by rfl) (by trivial) (by decide) (by decide)) (@pa_nil _) (by rfl)) (by rfl) (by rfl) (by rfl)) (by rfl)) (@pss_cons _ _ _ _ _ (@ps_expr _ _ _ _ (@pe_nMeth _ _ _ _ _ _ _ _ _ _ _ _ _ _ _ _ _ _ _ _ (@pvN _ 0 _ _ (by rfl) (by trivial) (by decide) (by decide)) T.cl_Store T.mt_Store_refuse_room G_Store_refuse_room (hr.mono (by decide)) T.b_Store_refuse_room .nil pass0 (@pa_c _ _ _ _ _ (@pvN _ 2 _ _ (by rfl) (by trivial) (by decide) (by decide)) (@pa_nil _) (by rfl)) (by rfl) (by rfl) (by rfl)) (by rfl)) (@pss_cons _ _ _ _ _ (@ps_expr _ _ _ _ (@pe_call _ _ _ _ _ _ _ _ _ _ _ _ _ _ _ _ G_refuse_count (hr.mono (by decide)) (by rfl) T.m_refuse_count T.F_refuse_count.kp T.b_refuse_count .nil pass0 (@pa_c _ _ _ _ _ (@pvN _ 1 _ _ (by rfl) (by trivial) (by decide) (by decide)) (@pa_c _ _ _ _ _ (@pe_nMeth0 _ _ _ _ _ _ _ _ _ _ _ _ _ _ _ _ _ (@pvN _ 2 _ _ (by rfl) (by trivial) (by decide) (by decide)) T.cl_View T.mt_View_count G_View_count (hr.mono (by decide)) T.b_View_count .nil pass0 (by rfl)) (@pa_nil _) (by rfl)) (by rfl)) (by decide) (by rfl) (by rfl)) (by rfl)) (@pss_one _ _ _ (@ps_expr _ _ _ _ (@pe_nMeth _ _ _ _ _ _ _ _ _ _ _ _ _ _ _ _ _ _ _ _ (@pvN _ 0 _ _ (by rfl) (by trivial) (by decide) (by decide)) T.cl_Store T.mt_Store_put G_Store_put (hr.mono (by decide)) T.b_Store_put .nil pass0 (@pa_c _ _ _ _ _ (@pvN _ 1 _ _ (by rfl) (by trivial) (by decide) (by decide)) (@pa_c _ _ _ _ _ (@pe_nMeth _ _ _ _ _ _ _ _ _ _ _ _ _ _ _ _ _ _ _ _ (@pvN _ 0 _ _ (by rfl) (by trivial) (by decide) (by decide)) T.cl_Store T.mt_Store_read G_Store_read (hr.mono (by decide)) T.b_Store_read .nil pass0 (@pa_c _ _ _ _ _ (@pvN _ 2 _ _ (by rfl) (by trivial) (by decide) (by decide)) (@pa_nil _) (by rfl)) (by rfl) (by rfl) (by rfl)) (@pa_nil _) (by rfl)) (by rfl)) (by rfl) (by rfl) (by rfl)) (by rfl)))))),?_⟩
  rw [show start ["self", "to", "source"] [.ref s,.ref v,.ref u]=[some (.ref s),some (.ref v),some (.ref u)] from rfl]
  clear G_Store_refuse_room G_refuse_count G_View_count G_Store_read G_Store_put
  simp! only [and_true]
  rw [c_spRoom]
  refine ⟨l,vals,_,f1,a1,so,vo,rfl,?_⟩
  simp! only [and_true]
  rw [c_spRoom]
  refine ⟨l,vals,_,f2,a2,so,wo,rfl,?_⟩
  simp! only [and_true]
  rw [c_spVCount]
  refine ⟨_,f2,a2,wo,hx2,fun H1 e1=>?_⟩
  replace hp2:=fun (_:Unit)=>hp2
  simp! only [and_true]
  rw [c_spRCount]
  refine ⟨_,f1,a1,vo.ext e1,hx1,hp2 (),fun H2 e2=>?_⟩
  have e12:=e1.trans e2
  have hs2:=e12.at hs
  simp! only [and_true]
  rw [c_spRead]
  refine ⟨l,vals,_,f2,a2,so.ext e12,wo.ext e12,hx2,rfl,by rw [hp2 ()];exact hp1,ho2,fun r H3 hr3 e3 h3=>?_⟩
  have hrl:r ≠ l:=fun z=>by rw [z,e12.at hfl] at hr3;cases hr3
  have e13:=e12.trans e3
  simp! only [and_true]
  rw [c_spPut]
  refine ⟨l,vals,_,f1,a1,_,so.ext e13,vo.ext e13,hx1,rfl,hv2,hp1,ho1,h3,hrl,?_,fun H4 q1 q2 q3=>?_⟩
  ·unfold readL
   rw [List.length_map,←hp2 ()]
   exact cellsL_len f2 a2 fun a ha=>(hx2.2 a ha).1
  ·have k1:=k H4 (fun H0 x0 x1=>q1 H0 (x0.trans e13) x1) (fun b o hb hbo=>q2 b o hb (e13.at hbo)) q3
   clear k
   simp! only [and_true]
def dictL (cs ds:List Int):List (Key × V):=(cs.zip ds).foldl (fun kvs p=>putK kvs (.inl p.1) (.int p.2)) []
theorem dictL_take {cs ds:List Int}{i:Nat}{c d:Int}(hc:cs[i]? = some c) (hd:ds[i]? = some d):dictL (cs.take (i+1)) (ds.take (i+1))=putK (dictL (cs.take i) (ds.take i)) (.inl c) (.int d):=by
 unfold dictL
 have e1:(cs.take (i+1)).zip (ds.take (i+1))=(cs.take i).zip (ds.take i)++[(c,d)]:=by
  rw [List.take_add_one,List.take_add_one,hc,hd,List.zip_append (by
   have h1:=(List.getElem?_eq_some_iff.mp hc).1
   have h2:=(List.getElem?_eq_some_iff.mp hd).1
   rw [List.length_take,List.length_take];omega)]
  rfl
 rw [e1,List.foldl_append]
 rfl
theorem putK_keys {kvs:List (Key × V)}{k:Key}(v:V){x:V}(h:valV kvs k=some x):(putK kvs k v).map (·.1)=kvs.map (·.1):=by
 unfold putK
 rw [valV_any,h,Option.isSome_some,if_pos rfl,List.map_map]
 refine List.map_congr_left fun p _=>?_
 show (if p.1=k then (p.1,v) else p).1=p.1
 split<;>rfl
def IntD (kvs:List (Key × V)):Prop:=(∀ p∈kvs,∃ n i:Int,p=(.inl n,.int i))∧(kvs.map (·.1)).Nodup
theorem put_all {P:Key × V->Prop}{kvs:List (Key × V)}{k:Key}{v:V}(h:∀ kv∈kvs,P kv) (hk:P (k,v)):∀ kv∈putK kvs k v,P kv:=by
 intro kv hm
 unfold putK at hm
 split at hm
 ·obtain ⟨x,hx,rfl⟩:=List.mem_map.mp hm
  split
  ·rename_i e
   rw [e]
   exact hk
  ·exact h x hx
 ·rcases List.mem_append.mp hm with hm|hm
  ·exact h _ hm
  ·rw [List.mem_singleton.mp hm]
   exact hk
theorem IntD.put {kvs:List (Key × V)}(h:IntD kvs) (n i:Int):IntD (putK kvs (.inl n) (.int i)):=by
 refine ⟨put_all h.1 ⟨n,i,rfl⟩,?_⟩
 cases e:valV kvs (.inl n) with
 | none=>exact nd_putK _ h.2 e
 | some x=>rw [putK_keys _ e];exact h.2
theorem dictF_ok:∀ (ps:List (Int × Int)) (kvs:List (Key × V)),IntD kvs->IntD (ps.foldl (fun kvs p=>putK kvs (.inl p.1) (.int p.2)) kvs)∧(ps.foldl (fun kvs p=>putK kvs (.inl p.1) (.int p.2)) kvs).length≤kvs.length+ps.length
 | [],kvs,h=>⟨h,Nat.le_refl _⟩
 | p::ps,kvs,h=>by
  obtain ⟨h1,h2⟩:=dictF_ok ps (putK kvs (.inl p.1) (.int p.2)) (h.put p.1 p.2)
  have:=length_putK kvs (.inl p.1) (.int p.2)
  refine ⟨h1,Nat.le_trans h2 ?_⟩
  rw [List.length_cons]
  omega
theorem dictL_ok (cs ds:List Int):IntD (dictL cs ds)∧(dictL cs ds).length≤cs.length:=by
 obtain ⟨h1,h2⟩:=dictF_ok (cs.zip ds) [] ⟨fun _ h=>absurd h List.not_mem_nil,List.nodup_nil⟩
 refine ⟨h1,Nat.le_trans h2 ?_⟩
 rw [List.length_zip]
 simp
 omega
abbrev B_spRooms (CV:Addr) (v:Addr) (u:Addr) (H:Hp) (Q:VK) (E:XK):Prop:=∃ (room f1 f2:Int) (a1 a2:List (Int × Int)),ViewAt CV H v room f1 a1∧ViewAt CV H u room f2 a2∧Q .non H
def spRooms (CV:Addr):Sp:=fun vs H Q E=>∃ (v:Addr) (u:Addr),vs=[.ref v,.ref u]∧(B_spRooms CV v u H Q E)
theorem c_spRooms (CV:Addr) (v:Addr) (u:Addr) (H:Hp) (Q:VK) (E:XK):spRooms CV [.ref v,.ref u] H Q E=(B_spRooms CV v u H Q E):=spx2 (f:=fun (v:Addr) (u:Addr)=>[.ref v,.ref u]) (fun _ _ _ _ h=>by cases h;exact ⟨rfl,rfl⟩) v u
theorem l_spRooms (CV:Addr){vs:List V}{H:Hp}{Q:VK}{E:XK}(h:spRooms CV vs H Q E):vs.length=2:=spl2 h fun _ _=>rfl
theorem ok_refuse_rooms (T:Tx K mg t):FnOk P w K mg base CX0 1 t.a_refuse_rooms t.d_refuse_rooms ["one", "other"] (spRooms t.a_View):=by
 refine T.F_refuse_rooms.ok c_refuse_rooms (fun vs H Q E h=>l_spRooms _ h) (fun cdv A outer s' H vs Q E hr h=>?_)
 ·obtain ⟨v,u,rfl,room,f1,f2,a1,a2,vo,uo,k⟩:=h
  obtain ⟨dy,D,hv,_⟩:=vo.ob
  obtain ⟨dz,D2,hu,_⟩:=uo.ob
  have c3:=T.cl_View
  have c4:=T.na_View_room
  have g1:=viewF_room room f1 D
  have g2:=viewF_room room f2 D2
  refine ⟨_,(@pss_one _ _ _ (@ps_if _ _ _ _ _ _ _ _ (@pt_cmpRN _ _ _ _ _ _ _ _ (op_qNe hr.units) (@pe_nFld _ _ _ _ _ (@pvN _ 0 _ _ (by rfl) (by trivial) (by decide) (by decide)) rfl) (@pe_nFld _ _ _ _ _ (@pvN _ 1 _ _ (by rfl) (by trivial) (by decide) (by decide)) rfl) (nomark _)) (@pss_one _ _ _ (@ps_never _ _)) (@pss_nil _))),?_⟩
  rw [show start ["one", "other"] [.ref v,.ref u]=[some (.ref v),some (.ref u)] from rfl]
  simp! only [and_true]
abbrev B_spSrc (CV:Addr) (v:Addr) (u:Addr) (H:Hp) (Q:VK) (E:XK):Prop:=∃ (room f1 f2:Int) (a1 a2:List (Int × Int)),ViewAt CV H v room f1 a1∧ViewAt CV H u room f2 a2∧Axes a1∧Axes a2∧prodL (a1.map fun a=>a.1)≤4096∧prodL (a2.map fun a=>a.1)=prodL (a1.map fun a=>a.1)∧∀ (r:Addr) (H':Hp),H r=none->Ext H H'->H' r=some (.dK (dictL (cellsL f1 a1) (cellsL f2 a2)))->Q (.ref r) H'
def spSrc (CV:Addr):Sp:=fun vs H Q E=>∃ (v:Addr) (u:Addr),vs=[.ref v,.ref u]∧(B_spSrc CV v u H Q E)
theorem c_spSrc (CV:Addr) (v:Addr) (u:Addr) (H:Hp) (Q:VK) (E:XK):spSrc CV [.ref v,.ref u] H Q E=(B_spSrc CV v u H Q E):=spx2 (f:=fun (v:Addr) (u:Addr)=>[.ref v,.ref u]) (fun _ _ _ _ h=>by cases h;exact ⟨rfl,rfl⟩) v u
theorem l_spSrc (CV:Addr){vs:List V}{H:Hp}{Q:VK}{E:XK}(h:spSrc CV vs H Q E):vs.length=2:=spl2 h fun _ _=>rfl
theorem ok_sources (T:Tx K mg t):FnOk P w K mg base CX0 5 t.a_sources t.d_sources ["to", "source"] (spSrc t.a_View):=by
 have G_refuse_rooms:=ok_refuse_rooms (P:=P) (w:=w) (base:=base) T
 have G_refuse_count:=ok_refuse_count (P:=P) (w:=w) (base:=base) T
 have G_View_count:=ok_View_count (P:=P) (w:=w) (base:=base) T
 have G_View_cells:=ok_View_cells (P:=P) (w:=w) (base:=base) T
 refine T.F_sources.ok c_sources (fun vs H Q E h=>l_spSrc _ h) (fun cdv A outer s' H vs Q E hr h=>?_)
 ·obtain ⟨v,u,rfl,room,f1,f2,a1,a2,vo,uo,hx1,hx2,hp1,hp2,k⟩:=h
  obtain ⟨dy,D,hv,_⟩:=vo.ob
  obtain ⟨dz,D2,hu,_⟩:=uo.ob
  have c3:=T.cl_View
  have g1:=vn room f1 D (m := "cells") (by decide +kernel)
  have g2:=vn room f2 D2 (m := "cells") (by decide +kernel)
  have g4:=vn room f2 D2 (m := "count") (by decide +kernel)
  refine ⟨_,(@pss_cons _ _ _ _ _ (@ps_expr _ _ _ _ (@pe_call _ _ _ _ _ _ _ _ _ _ _ _ _ _ _ _ G_refuse_rooms (hr.mono (by decide)) (by rfl) T.m_refuse_rooms T.F_refuse_rooms.kp T.b_refuse_rooms .nil pass0 (@pa_c _ _ _ _ _ (@pvN _ 0 _ _ (by rfl) (by trivial) (by decide) (by decide)) (@pa_c _ _ _ _ _ (@pvN _ 1 _ _ (by rfl) (by trivial) (by decide) (by decide)) (@pa_nil _) (by rfl)) (by rfl)) (by decide) (by rfl) (by rfl)) (by rfl)) (@pss_cons _ _ _ _ _ (@ps_expr _ _ _ _ (@pe_call _ _ _ _ _ _ _ _ _ _ _ _ _ _ _ _ G_refuse_count (hr.mono (by decide)) (by rfl) T.m_refuse_count T.F_refuse_count.kp T.b_refuse_count .nil pass0 (@pa_c _ _ _ _ _ (@pvN _ 0 _ _ (by rfl) (by trivial) (by decide) (by decide)) (@pa_c _ _ _ _ _ (@pe_nMeth0 _ _ _ _ _ _ _ _ _ _ _ _ _ _ _ _ _ (@pvN _ 1 _ _ (by rfl) (by trivial) (by decide) (by decide)) T.cl_View T.mt_View_count G_View_count (hr.mono (by decide)) T.b_View_count .nil pass0 (by rfl)) (@pa_nil _) (by rfl)) (by rfl)) (by decide) (by rfl) (by rfl)) (by rfl)) (@pss_cons _ _ _ _ _ (@ps_set _ _ (2) _ _ _ _ c_sources.nd rfl (Or.inl rfl) (@pe_nDNew _ _) (by rfl) (by trivial)) (@pss_cons _ _ _ _ _ (@ps_for _ _ _ _ _ _ _ _ PassesOwn.never rfl (@pi_zip _ _ _ _ _ _ _ _ _ (by rfl) T.z_zip (@pa_c _ _ _ _ _ (@pe_nMeth0 _ _ _ _ _ _ _ _ _ _ _ _ _ _ _ _ _ (@pvN _ 0 _ _ (by rfl) (by trivial) (by decide) (by decide)) T.cl_View T.mt_View_cells G_View_cells (hr.mono (by decide)) T.b_View_cells .nil pass0 (by rfl)) (@pa_c _ _ _ _ _ (@pe_nMeth0 _ _ _ _ _ _ _ _ _ _ _ _ _ _ _ _ _ (@pvN _ 1 _ _ (by rfl) (by trivial) (by decide) (by decide)) T.cl_View T.mt_View_cells G_View_cells (hr.mono (by decide)) T.b_View_cells .nil pass0 (by rfl)) (@pa_nil _) (by rfl)) (by rfl)) (by rfl) (by rfl)) ((@pg_tup _ _ _ _ _ (2) rfl (@pgs_consN _ _ _ _ _ (@pg_name _ _ (3) _ c_sources.nd rfl (Or.inl rfl) (by trivial)) (@pgs_consN _ _ _ _ _ (@pg_name _ _ (4) _ c_sources.nd rfl (Or.inl rfl) (by trivial)) (@pgs_nilN _) (by rfl)) (by rfl)) (by rfl) (by rfl)).mono fun _ _ _ _ h=>gTup_q h) (@pss_one _ _ _ (@ps_dput _ _ _ _ _ _ _ _ _ (units1 hr.units) (@pvN _ 2 _ _ (by rfl) (by trivial) (by decide) (by decide)) (@pvN _ 3 _ _ (by rfl) (by trivial) (by decide) (by decide)) (@pvN _ 4 _ _ (by rfl) (by trivial) (by decide) (by decide)) rfl)) (by intros;rfl)) (@pss_one _ _ _ (@ps_ret _ _ _ _ (@pvN _ 2 _ _ (by rfl) (by trivial) (by decide) (by decide)))))))),?_⟩
  rw [show start ["to", "source", "found", "cell", "origin"] [.ref v,.ref u]=[some (.ref v),some (.ref u),none,none,none] from rfl]
  clear G_refuse_rooms G_refuse_count G_View_count G_View_cells
  replace hp2:=fun (_:Unit)=>hp2
  simp! only [and_true]
  rw [c_spRooms]
  refine ⟨room,f1,f2,a1,a2,vo,uo,?_⟩
  simp! only [and_true]
  rw [c_spVCount]
  refine ⟨_,f2,a2,uo,hx2,fun H1 e1=>?_⟩
  simp! only [and_true]
  rw [c_spRCount]
  refine ⟨_,f1,a1,vo.ext e1,hx1,hp2 (),fun H2 e2=>?_⟩
  have e12:=e1.trans e2
  simp! only [and_true]
  intro d H3 hd3 e3 h3
  have e13:=e12.trans e3
  have hv3:=e13.at hv
  have hu3:=e13.at hu
  have hd0:H d=none:=e12.free hd3
  simp! only [and_true]
  rw [c_spCells]
  refine ⟨_,f1,a1,vo.ext e13,hx1,fun _ r4 H4 hr4 e4 h4=>?_,fun h=>absurd h (by omega)⟩
  have hu4:=e4.at hu3
  clear hv3 hu3
  simp! only [and_true]
  rw [c_spCells]
  refine ⟨_,f2,a2,uo.ext (e13.trans e4),hx2,fun _ r5 H5 hr5 e5 h5=>?_,fun h=>absurd h (by have:=hp2 ();omega)⟩
  have len1:=cellsL_len f1 a1 fun a ha=>(hx1.2 a ha).1
  have len2:=cellsL_len f2 a2 fun a ha=>(hx2.2 a ha).1
  have h4_5:=e5.at h4
  have hd5:=(e4.trans e5).at h3
  have e15:=e13.trans (e4.trans e5)
  have n4:r4 ≠ d:=fun z=>by rw [z,h3] at hr4;cases hr4
  have n5:r5 ≠ d:=fun z=>by rw [z,e4.at h3] at hr5;cases hr5
  generalize cellsL f1 a1=cs at h4_5 k len1
  generalize cellsL f2 a2=ds at h5 k len2
  have hlen:cs.length=ds.length:=by have:=hp2 ();omega
  have hl4:cs.length≤4096:=by omega
  clear h4 hu4 h3 hr4 hr5 hd3 len1 len2 hx1 hx2 hp1 vo uo e1 e2 e12 e3 e13 e4 e5
  simp! only [and_true]
  refine for_zip (ka:=false) (kb:=false) (xs:=cs.map V.int) (ys:=ds.map V.int) (fun i σ H'=>∃ v3 v4:Option V,σ=[some (.ref v),some (.ref u),some (.ref d),v3,v4]∧Ext H H'∧H' r4=some (.lst (cs.map V.int))∧H' r5=some (.lst (ds.map V.int))∧H' d=some (.dK (dictL (cs.take i) (ds.take i)))) ⟨none,none,rfl,e15,h4_5,h5,hd5⟩ (fun i σ H' ⟨_,_,_,_,q1,q2,_⟩=>⟨q1,q2⟩) ?_ ?_
  ·rintro i x y q _ H6 H7 hx hy ⟨v3,v4,rfl,e6,q4,q5,h6⟩ hq e7 h7
   rw [List.getElem?_map] at hx hy
   obtain ⟨c,hc,rfl⟩:=Option.map_eq_some_iff.mp hx
   obtain ⟨z,hz,rfl⟩:=Option.map_eq_some_iff.mp hy
   have hi:i < cs.length:=(List.getElem?_eq_some_iff.mp hc).1
   have hput:=fun (_:Unit)=>dictL_take hc hz
   have hll:(dictL (cs.take i) (ds.take i)).length < sizeLine:=lt5000 (by
    have:=(dictL_ok (cs.take i) (ds.take i)).2
    rw [List.length_take] at this
    omega)
   have h6_7:=e7.at h6
   generalize dictL (cs.take i) (ds.take i)=kvs at hput hll h6_7
   clear hx hy hc hz k hd5 h4_5 h5 h6 e15
   simp! only [↓m_kBody]
   refine use_dp (k:=.inl c) h6_7 hll ?_
   refine ⟨_,_,rfl,(e6.trans e7).put hd0,by rw [upd_ne n4];exact e7.at q4,by rw [upd_ne n5];exact e7.at q5,?_⟩
   rw [hput (),upd_same]
  ·rintro _ H6 ⟨v3,v4,rfl,e6,q4,q5,h6⟩
   have hm:min (cs.map V.int).length (ds.map V.int).length=cs.length:=by rw [List.length_map,List.length_map];omega
   rw [hm,List.take_length,hlen,List.take_length] at h6
   simp! only [and_true]
   exact k d H6 hd0 e6 h6
theorem Fun.x {K:PySem.W.Frag}{x qual:Str}{st:Stmt}{f:Addr}{fd:FuncData}(F:Fun K x qual st f fd):FunX K x qual st f fd:=by
 obtain ⟨oc,od,kV,doc,pm,an,cdv,ct,osl,e,lk,hcd⟩:=F.ex
 exact ⟨⟨oc,od,.none,kV,doc,pm,an,cdv,ct,osl,e,lk,hcd⟩,F.kp⟩
abbrev B_spRoomsX (C cN:Addr) (u:Addr) (v:Addr) (H:Hp) (Q:VK) (E:XK):Prop:=∃ (r1 r2 f1 f2:Int) (A B:List (Int × Int)),ViewAt C H u r1 f1 A∧ViewAt C H v r2 f2 B∧(r1=r2->Q .non H)∧(r1 ≠ r2->∀ H',Ext H H'->E (.ref cN) none H')
def spRoomsX (C cN:Addr):Sp:=fun vs H Q E=>∃ (u:Addr) (v:Addr),vs=[.ref u,.ref v]∧(B_spRoomsX C cN u v H Q E)
theorem c_spRoomsX (C cN:Addr) (u:Addr) (v:Addr) (H:Hp) (Q:VK) (E:XK):spRoomsX C cN [.ref u,.ref v] H Q E=(B_spRoomsX C cN u v H Q E):=spx2 (f:=fun (u:Addr) (v:Addr)=>[.ref u,.ref v]) (fun _ _ _ _ h=>by cases h;exact ⟨rfl,rfl⟩) u v
theorem l_spRoomsX (C cN:Addr){vs:List V}{H:Hp}{Q:VK}{E:XK}(h:spRoomsX C cN vs H Q E):vs.length=2:=spl2 h fun _ _=>rfl
theorem okX_refuse_rooms (T:Tx K mg t):FnOk P w K mg base (CX1 P  w) 1 t.a_refuse_rooms t.d_refuse_rooms ["one", "other"] (spRoomsX t.a_View t.a_NoPair):=by
 refine (Fun.x T.F_refuse_rooms).ok c_refuse_rooms (fun vs H Q E h=>l_spRoomsX _ _ h) (fun cdv A outer s H vs Q E hr h=>?_)
 ·obtain ⟨u,v,rfl,ra,rb,f1,f2,A,B,vu,vv,kQ,kE⟩:=h
  obtain ⟨dx,D,hu,_⟩:=vu.ob
  obtain ⟨dy,D2,hv,_⟩:=vv.ob
  have c1:=T.cl_View
  have c4:=T.na_View_room
  have g1:=viewF_room ra f1 D
  have g2:=viewF_room rb f2 D2
  refine ⟨_,(@pss_one _ _ _ (@ps_if _ _ _ _ _ _ _ _ (@pt_cmpRN _ _ _ _ _ _ _ _ (op_qNe hr.units) (@pe_nFld _ _ _ _ _ (@pvN _ 0 _ _ (by rfl) (by trivial) (by decide) (by decide)) rfl) (@pe_nFld _ _ _ _ _ (@pvN _ 1 _ _ (by rfl) (by trivial) (by decide) (by decide)) rfl) (nomark _)) (@pss_one _ _ _ (@ps_raise _ _ _ _ _ _ _ _ _ _ rfl (by rfl) T.m_NoPair ⟨T.o_NoPair⟩ (fun σ=>raises_def) (@pa_c _ _ _ _ _ (@pe_str _ _ _ _) (@pa_nil _) (by rfl)) (by rfl) (by rfl) (by decide))) (@pss_nil _))),?_⟩
  rw [show start ["one", "other"] [.ref u,.ref v]=[some (.ref u),some (.ref v)] from rfl]
  by_cases he:ra=rb
  ·subst he
   have k':=kQ rfl
   clear kQ kE
   simp! only [and_true]
  ·have k':=kE he H (Ext.refl _)
   clear kQ kE
   simp! only [and_true]
theorem ok_TooMany___init__ (T:Tx K mg t):FnOk P w K mg base CX0 1 t.a_TooMany___init__ t.d_TooMany___init__ ["self", "number"] (spX1 t.a_TooMany "number"):=by
 refine T.F_TooMany___init__.ok c_TooMany___init__ (fun vs H Q E h=>l_spX1 _ _ h) (fun cdv A outer s H vs Q E hr h=>?_)
 ·obtain ⟨e,x,rfl,he,k⟩:=h
  refine ⟨_,(@pss_cons _ _ _ _ _ (@ps_expr _ _ _ _ (@pe_xinit _ _ _ _ _ _ _ _ _ _ (by rfl) T.m_PaceError T.bi_PaceError (@pa_c _ _ _ _ _ (@pvN _ 0 _ _ (by rfl) (by trivial) (by decide) (by decide)) (@pa_c _ _ _ _ _ (@pvN _ 1 _ _ (by rfl) (by trivial) (by decide) (by decide)) (@pa_nil _) (by rfl)) (by rfl)) (by decide) (by rfl) (by rfl) (by rfl)) (by rfl)) (@pss_one _ _ _ (@ps_xset _ _ _ _ _ _ _ _ (@pvN _ 0 _ _ (by rfl) (by trivial) (by decide) (by decide)) (@pvN _ 1 _ _ (by rfl) (by trivial) (by decide) (by decide)) rfl))),?_⟩
  rw [show start ["self", "number"] [.ref e,x]=[some (.ref e),some (x)] from rfl]
  simp! only [and_true]
  refine ⟨e,_,_,_,[x],rfl,he,T.oi_TooMany,(show 1≤sizeLine by decide),?_⟩
  simp! only [and_true]
  exact ⟨e,_,rfl,he,T.oi_TooMany.st,T.tk_TooMany_number,fun dx H' h1 h2 h3 h4 h5=>k dx H' h1 h2 h3 h4 h5⟩
abbrev B_spLongX (cT:Addr) (n:Int) (H:Hp) (Q:VK) (E:XK):Prop:=(n≤4096->Q .non H)∧(4096 < n->∀ dx H',Ext H H'->H' dx=some (.xd [("number",.int n)])->E (.ref cT) (some dx) H')
def spLongX (cT:Addr):Sp:=fun vs H Q E=>∃ (n:Int),vs=[.int n]∧(B_spLongX cT n H Q E)
theorem c_spLongX (cT:Addr) (n:Int) (H:Hp) (Q:VK) (E:XK):spLongX cT [.int n] H Q E=(B_spLongX cT n H Q E):=spx1 (f:=fun (n:Int)=>[.int n]) (fun _ _ h=>by cases h;exact rfl) n
theorem l_spLongX (cT:Addr){vs:List V}{H:Hp}{Q:VK}{E:XK}(h:spLongX cT vs H Q E):vs.length=1:=spl1 h fun _=>rfl
theorem okX_refuse_long (T:Tx K mg t):FnOk P w K mg base (CX1 P  w) 3 t.a_refuse_long t.d_refuse_long ["count"] (spLongX t.a_TooMany):=by
 have G_TooMany___init__:=ok_TooMany___init__ (P:=P) (w:=w) (base:=base) T
 refine (Fun.x T.F_refuse_long).ok c_refuse_long (fun vs H Q E h=>l_spLongX _ h) (fun cdv A outer s H vs Q E hr h=>?_)
 ·obtain ⟨n,rfl,k1,k2⟩:=h
  refine ⟨_,(@pss_one _ _ _ (@ps_if _ _ _ _ _ _ _ _ (@pt_cmpRN _ _ _ _ _ _ _ _ on_gt (@pvN _ 0 _ _ (by rfl) (by trivial) (by decide) (by decide)) (@pe_glob _ _ (.int 4096) _ _ (by rfl) T.m_MOST_TOLD.choose_spec ⟨_,rfl⟩ (by decide)) (nomark _)) (@pss_one _ _ _ (@ps_raiseI _ _ _ _ _ _ _ _ _ _ _ _ _ _ _ rfl (by rfl) T.m_TooMany T.oi_TooMany G_TooMany___init__ (hr.mono (by decide)) T.b_TooMany___init__ (fun σ=>raisesD_def) (@pa_c _ _ _ _ _ (@pvN _ 0 _ _ (by rfl) (by trivial) (by decide) (by decide)) (@pa_nil _) (by rfl)) (by rfl) (by rfl) (by decide))) (@pss_nil _))),?_⟩
  rw [show start ["count"] [.int n]=[some (.int n)] from rfl]
  by_cases hn:4096 < n
  ·have k2':=k2 hn
   clear k1 k2
   simp! only [and_true]
   exact kRI_x1 k2'
  ·have k1':=k1 (by omega)
   clear k1 k2
   simp! only [and_true]
theorem FnOk.up {P:Program}{w:World}{K:PySem.W.Frag}{mg:Str->Option Value}{base:Heap}{CX:CXT}{k:Nat}{f:Addr}{fd:FuncData}{ps:List Str}{sp:Sp}(F:FnOk P w K mg base CX0 k f fd ps sp):FnOk P w K mg base CX k f fd ps sp:=
 ⟨F.len,fun A outer s H args us vs Q E hr he hb hv hs=>codeAny_mono (F.run A outer s H args us vs Q E hr he hb hv hs) fun r s' h=>by
  cases r with
  | error e=>exact h.elim
  | ok c=>cases c<;>exact h⟩
theorem FnOk.both {P:Program}{w:World}{K:PySem.W.Frag}{mg:Str->Option Value}{base:Heap}{CX:CXT}{k:Nat}{f:Addr}{fd:FuncData}{ps:List Str}{sp sp' sp2:Sp}(F:FnOk P w K mg base CX k f fd ps sp) (F':FnOk P w K mg base CX k f fd ps sp') (h:∀ vs H Q E,sp2 vs H Q E->sp vs H Q E∨sp' vs H Q E):FnOk P w K mg base CX k f fd ps sp2:=
 ⟨fun vs H Q E q=>(h _ _ _ _ q).elim (F.len vs H Q E) (F'.len vs H Q E),fun A outer s H args us vs Q E hr he hb hv hs=>(h _ _ _ _ hs).elim (F.run A outer s H args us vs Q E hr he hb hv) (F'.run A outer s H args us vs Q E hr he hb hv)⟩
def VwN (C:Addr) (H:Hp) (x:Addr) (room n:Int):Prop:=∃ f A,ViewAt C H x room f A∧Axes A∧prodL (A.map fun a=>a.1)=n
theorem VwN.ext {C:Addr}{H H':Hp}{x:Addr}{room n:Int}(h:VwN C H x room n) (e:Ext H H'):VwN C H' x room n:=by
 obtain ⟨f,A,h1,h2⟩:=h
 exact ⟨f,A,h1.ext e,h2⟩
abbrev B_spRCountB (CV cN:Addr) (v:Addr) (m:Int) (H:Hp) (Q:VK) (E:XK):Prop:=∃ (room n:Int),VwN CV H v room n∧n ≠ m∧∀ H',Ext H H'->E (.ref cN) none H'
def spRCountB (CV cN:Addr):Sp:=fun vs H Q E=>∃ (v:Addr) (m:Int),vs=[.ref v,.int m]∧(B_spRCountB CV cN v m H Q E)
theorem c_spRCountB (CV cN:Addr) (v:Addr) (m:Int) (H:Hp) (Q:VK) (E:XK):spRCountB CV cN [.ref v,.int m] H Q E=(B_spRCountB CV cN v m H Q E):=spx2 (f:=fun (v:Addr) (m:Int)=>[.ref v,.int m]) (fun _ _ _ _ h=>by cases h;exact ⟨rfl,rfl⟩) v m
theorem l_spRCountB (CV cN:Addr){vs:List V}{H:Hp}{Q:VK}{E:XK}(h:spRCountB CV cN vs H Q E):vs.length=2:=spl2 h fun _ _=>rfl
theorem okB_refuse_count (T:Tx K mg t):FnOk P w K mg base (CX1 P  w) 3 t.a_refuse_count t.d_refuse_count ["view", "many"] (spRCountB t.a_View t.a_NoCount):=by
 have G_View_count:=ok_View_count (P:=P) (w:=w) (base:=base) T
 refine (Fun.x T.F_refuse_count).ok c_refuse_count (fun vs H Q E h=>l_spRCountB _ _ h) (fun cdv A outer s' H vs Q E hr h=>?_)
 ·obtain ⟨v,m,rfl,room,n,⟨first,axs,vo,hax,hn⟩,hne,k⟩:=h
  obtain ⟨dy,D,hv,_⟩:=vo.ob
  have f3:=vn room first D (m := "count") (by decide +kernel)
  have c3:=T.cl_View
  refine ⟨_,(@pss_one _ _ _ (@ps_if _ _ _ _ _ _ _ _ (@pt_cmpRN _ _ _ _ _ _ _ _ (op_qNe hr.units) (@pe_nMeth0 _ _ _ _ _ _ _ _ _ _ _ _ _ _ _ _ _ (@pvN _ 0 _ _ (by rfl) (by trivial) (by decide) (by decide)) T.cl_View T.mt_View_count G_View_count (hr.mono (by decide)) T.b_View_count .nil pass0 (by rfl)) (@pvN _ 1 _ _ (by rfl) (by trivial) (by decide) (by decide)) (nomark _)) (@pss_one _ _ _ (@ps_raise _ _ _ _ _ _ _ _ _ _ rfl (by rfl) T.m_NoCount ⟨T.o_NoCount⟩ (fun σ=>raises_def) (@pa_c _ _ _ _ _ (@pe_str _ _ _ _) (@pa_nil _) (by rfl)) (by rfl) (by rfl) (by decide))) (@pss_nil _))),?_⟩
  rw [show start ["view", "many"] [.ref v,.int m]=[some (.ref v),some (.int m)] from rfl]
  clear G_View_count
  simp! only [and_true]
  rw [c_spVCount]
  refine ⟨room,first,axs,vo,hax,fun H1 e1=>?_⟩
  rw [hn]
  have k1:=k H1 e1
  clear k
  simp! only [and_true]
def spRCountX (CV cN:Addr):Sp:=fun vs H Q E=>spRCount CV vs H Q E∨spRCountB CV cN vs H Q E
theorem okX_refuse_count (T:Tx K mg t):FnOk P w K mg base (CX1 P  w) 3 t.a_refuse_count t.d_refuse_count ["view", "many"] (spRCountX t.a_View t.a_NoCount):=FnOk.both (FnOk.up (ok_refuse_count T)) (okB_refuse_count T) fun _ _ _ _ h=>h
theorem use_rcX {CV cN:Addr}{v:Addr}{m room n:Int}{H:Hp}{Q:VK}{E:XK}(h:VwN CV H v room n) (kQ:n=m->∀ H',Ext H H'->Q .non H') (kE:n ≠ m->∀ H',Ext H H'->E (.ref cN) none H'):spRCountX CV cN [.ref v,.int m] H Q E:=by
 by_cases e:n=m
 ·refine Or.inl ?_
  rw [c_spRCount]
  obtain ⟨f,A,h1,h2,h3⟩:=h
  exact ⟨room,f,A,h1,h2,by rw [h3,e],kQ e⟩
 ·refine Or.inr ?_
  rw [c_spRCountB]
  exact ⟨room,n,h,e,kE e⟩
abbrev B_spRoomB (CS CV cV:Addr) (s:Addr) (v:Addr) (H:Hp) (Q:VK) (E:XK):Prop:=∃ (l:Addr) (vals:List Int) (room n:Int),StoreAt CS H s l vals∧VwN CV H v room n∧(room=vals.length->Q .non H)∧(room ≠ vals.length->∀ H',Ext H H'->E (.ref cV) none H')
def spRoomB (CS CV cV:Addr):Sp:=fun vs H Q E=>∃ (s:Addr) (v:Addr),vs=[.ref s,.ref v]∧(B_spRoomB CS CV cV s v H Q E)
theorem c_spRoomB (CS CV cV:Addr) (s:Addr) (v:Addr) (H:Hp) (Q:VK) (E:XK):spRoomB CS CV cV [.ref s,.ref v] H Q E=(B_spRoomB CS CV cV s v H Q E):=spx2 (f:=fun (s:Addr) (v:Addr)=>[.ref s,.ref v]) (fun _ _ _ _ h=>by cases h;exact ⟨rfl,rfl⟩) s v
theorem l_spRoomB (CS CV cV:Addr){vs:List V}{H:Hp}{Q:VK}{E:XK}(h:spRoomB CS CV cV vs H Q E):vs.length=2:=spl2 h fun _ _=>rfl
theorem okB_Store_refuse_room (T:Tx K mg t):FnOk P w K mg base (CX1 P  w) 1 t.a_Store_refuse_room t.d_Store_refuse_room ["self", "view"] (spRoomB t.a_Store t.a_View t.a_NoView):=by
 refine (Fun.x T.F_Store_refuse_room).ok c_Store_refuse_room (fun vs H Q E h=>l_spRoomB _ _ _ h) (fun cdv A outer s' H vs Q E hr h=>?_)
 ·obtain ⟨s,v,rfl,l,vals,room,n,so,⟨first,axs,vo,_⟩,kQ,kE⟩:=h
  obtain ⟨dx,hs⟩:=so.ob
  obtain ⟨dy,D,hv,_⟩:=vo.ob
  have hfl:=so.fl
  have c1:=T.cl_Store
  have c2:=T.na_Store_floor
  have c3:=T.cl_View
  have c4:=T.na_View_room
  have f1:=storeF_floor l
  have f2:=viewF_room room first D
  refine ⟨_,(@pss_one _ _ _ (@ps_if _ _ _ _ _ _ _ _ (@pt_cmpRN _ _ _ _ _ _ _ _ (op_qNe hr.units) (@pe_nFld _ _ _ _ _ (@pvN _ 1 _ _ (by rfl) (by trivial) (by decide) (by decide)) rfl) (@pe_callB _ _ _ _ _ _ _ ("len") _ call_qLen (by rfl) T.z_len (by decide +kernel) (@pa_c _ _ _ _ _ (@pe_nFld _ _ _ _ _ (@pvN _ 0 _ _ (by rfl) (by trivial) (by decide) (by decide)) rfl) (@pa_nil _) (by rfl)) (by decide) (by decide) (by rfl) (by rfl)) (nomark _)) (@pss_one _ _ _ (@ps_raise _ _ _ _ _ _ _ _ _ _ rfl (by rfl) T.m_NoView ⟨T.o_NoView⟩ (fun σ=>raises_def) (@pa_c _ _ _ _ _ (@pe_str _ _ _ _) (@pa_nil _) (by rfl)) (by rfl) (by rfl) (by decide))) (@pss_nil _))),?_⟩
  rw [show start ["self", "view"] [.ref s,.ref v]=[some (.ref s),some (.ref v)] from rfl]
  by_cases he:room=(vals.length:Int)
  ·have k':=kQ he
   subst he
   clear kQ kE
   simp! only [and_true]
  ·have k':=kE he H (Ext.refl _)
   clear kQ kE
   simp! only [and_true]
abbrev B_spCellsB (C cT:Addr) (v:Addr) (H:Hp) (Q:VK) (E:XK):Prop:=∃ (room n:Int),VwN C H v room n∧4096 < n∧∀ dx H',Ext H H'->H' dx=some (.xd [("number",.int n)])->E (.ref cT) (some dx) H'
def spCellsB (C cT:Addr):Sp:=fun vs H Q E=>∃ (v:Addr),vs=[.ref v]∧(B_spCellsB C cT v H Q E)
theorem c_spCellsB (C cT:Addr) (v:Addr) (H:Hp) (Q:VK) (E:XK):spCellsB C cT [.ref v] H Q E=(B_spCellsB C cT v H Q E):=spx1 (f:=fun (v:Addr)=>[.ref v]) (fun _ _ h=>by cases h;exact rfl) v
theorem l_spCellsB (C cT:Addr){vs:List V}{H:Hp}{Q:VK}{E:XK}(h:spCellsB C cT vs H Q E):vs.length=1:=spl1 h fun _=>rfl
theorem okB_View_cells (T:Tx K mg t):FnOk P w K mg base (CX1 P  w) 4 t.a_View_cells t.d_View_cells ["self"] (spCellsB t.a_View t.a_TooMany):=by
 have G_View_count:=ok_View_count (P:=P) (w:=w) (base:=base) T
 have G_refuse_long:=okX_refuse_long (P:=P) (w:=w) (base:=base) T
 have G_widened:=ok_widened (P:=P) (w:=w) (base:=base) T
 refine (Fun.x T.F_View_cells).ok c_View_cells (fun vs H Q E h=>l_spCellsB _ _ h) (fun cdv A outer s H vs Q E hr h=>?_)
 ·obtain ⟨v,rfl,room,n,⟨first,axs,vo,hax,hn⟩,hbig,k⟩:=h
  obtain ⟨dx,l,hv,_⟩:=vo.ob
  have c1:=T.cl_View
  have c2:=T.na_View_first
  have c3:=T.na_View_axes
  have f3:=vn room first l (m := "count") (by decide +kernel)
  refine ⟨_,(@pss_cons _ _ _ _ _ (@ps_expr _ _ _ _ (@pe_call _ _ _ _ _ _ _ _ _ _ _ _ _ _ _ _ G_refuse_long (hr.mono (by decide)) (by rfl) T.m_refuse_long T.F_refuse_long.kp T.b_refuse_long .nil passes_def (@pa_c _ _ _ _ _ (@pe_nMeth0 _ _ _ _ _ _ _ _ _ _ _ _ _ _ _ _ _ (@pvN _ 0 _ _ (by rfl) (by trivial) (by decide) (by decide)) T.cl_View T.mt_View_count G_View_count (hr.mono (by decide)) T.b_View_count .nil pass0 (by rfl)) (@pa_nil _) (by rfl)) (by decide) (by rfl) (by rfl)) (by rfl)) (@pss_cons _ _ _ _ _ (@ps_set _ _ (1) _ _ _ _ c_View_cells.nd rfl (Or.inl rfl) (@pe_qLst _ _ _ _ (@pa_c _ _ _ _ _ (@pe_nFld _ _ _ _ _ (@pvN _ 0 _ _ (by rfl) (by trivial) (by decide) (by decide)) rfl) (@pa_nil _) (by rfl))) (by rfl) (by trivial)) (@pss_cons _ _ _ _ _ (@ps_for _ _ _ _ _ _ _ _ PassesOwn.leaving rfl (@pi_seq _ _ _ _ (@pe_nFld _ _ _ _ _ (@pvN _ 0 _ _ (by rfl) (by trivial) (by decide) (by decide)) rfl)) ((@pg_tup _ _ _ _ _ (2) rfl (@pgs_consN _ _ _ _ _ (@pg_name _ _ (2) _ c_View_cells.nd rfl (Or.inl rfl) (by trivial)) (@pgs_consN _ _ _ _ _ (@pg_name _ _ (3) _ c_View_cells.nd rfl (Or.inl rfl) (by trivial)) (@pgs_nilN _) (by rfl)) (by rfl)) (by rfl) (by rfl)).mono fun _ _ _ _ h=>gTup_q h) (@pss_one _ _ _ (@ps_set _ _ (1) _ _ _ _ c_View_cells.nd rfl (Or.inl rfl) (@pe_call _ _ _ _ _ _ _ _ _ _ _ _ _ _ _ _ G_widened (hr.mono (by decide)) (by rfl) T.m_widened T.F_widened.kp T.b_widened .nil pass0 (@pa_c _ _ _ _ _ (@pvN _ 1 _ _ (by rfl) (by trivial) (by decide) (by decide)) (@pa_c _ _ _ _ _ (@pvN _ 2 _ _ (by rfl) (by trivial) (by decide) (by decide)) (@pa_c _ _ _ _ _ (@pvN _ 3 _ _ (by rfl) (by trivial) (by decide) (by decide)) (@pa_nil _) (by rfl)) (by rfl)) (by rfl)) (by decide) (by rfl) (by rfl)) (by rfl) (by trivial))) (by intros;rfl)) (@pss_one _ _ _ (@ps_ret _ _ _ _ (@pvN _ 1 _ _ (by rfl) (by trivial) (by decide) (by decide))))))),?_⟩
  rw [show start ["self", "found", "size", "pace"] [.ref v]=[some (.ref v),none,none,none] from rfl]
  clear G_View_count G_refuse_long G_widened
  replace k:=fun (_:Unit)=>k
  simp! only [and_true]
  rw [c_spVCount]
  refine ⟨room,first,axs,vo,hax,fun H1 e1=>?_⟩
  rw [hn]
  simp! only [and_true]
  rw [c_spLongX]
  exact ⟨fun h=>absurd h (by omega),fun _ dx H' e' h'=>k () dx H' (e1.trans e') h'⟩
abbrev B_spReadB (CS CV cV cT:Addr) (s:Addr) (v:Addr) (H:Hp) (Q:VK) (E:XK):Prop:=∃ (l:Addr) (vals:List Int) (room n:Int),StoreAt CS H s l vals∧VwN CV H v room n∧(room ≠ vals.length∨4096 < n)∧(room ≠ vals.length->∀ H',Ext H H'->E (.ref cV) none H')∧(room=vals.length->∀ dx H',Ext H H'->H' dx=some (.xd [("number",.int n)])->E (.ref cT) (some dx) H')
def spReadB (CS CV cV cT:Addr):Sp:=fun vs H Q E=>∃ (s:Addr) (v:Addr),vs=[.ref s,.ref v]∧(B_spReadB CS CV cV cT s v H Q E)
theorem c_spReadB (CS CV cV cT:Addr) (s:Addr) (v:Addr) (H:Hp) (Q:VK) (E:XK):spReadB CS CV cV cT [.ref s,.ref v] H Q E=(B_spReadB CS CV cV cT s v H Q E):=spx2 (f:=fun (s:Addr) (v:Addr)=>[.ref s,.ref v]) (fun _ _ _ _ h=>by cases h;exact ⟨rfl,rfl⟩) s v
theorem l_spReadB (CS CV cV cT:Addr){vs:List V}{H:Hp}{Q:VK}{E:XK}(h:spReadB CS CV cV cT vs H Q E):vs.length=2:=spl2 h fun _ _=>rfl
theorem okB_Store_read (T:Tx K mg t):FnOk P w K mg base (CX1 P  w) 5 t.a_Store_read t.d_Store_read ["self", "view"] (spReadB t.a_Store t.a_View t.a_NoView t.a_TooMany):=by
 have G_Store_refuse_room:=okB_Store_refuse_room (P:=P) (w:=w) (base:=base) T
 have G_View_cells:=okB_View_cells (P:=P) (w:=w) (base:=base) T
 refine (Fun.x T.F_Store_read).ok c_Store_read (fun vs H Q E h=>l_spReadB _ _ _ _ h) (fun cdv A outer s' H vs Q E hr h=>?_)
 ·obtain ⟨s,v,rfl,l,vals,room,n,so,vv,hbad,kV,kT⟩:=h
  obtain ⟨dx,hs⟩:=so.ob
  have hfl:=so.fl
  have c1:=T.cl_Store
  have c2:=T.na_Store_floor
  have f1:=storeF_floor l
  have m1:=storeF_no l (m := "refuse_room") (by decide +kernel)
  have m2:=storeF_no l (m := "read") (by decide +kernel)
  have m3:=storeF_no l (m := "put") (by decide +kernel)
  obtain ⟨f0,A0,vo,hA0,hn0⟩:=id vv
  obtain ⟨dy,D,hv,_⟩:=vo.ob
  have c3:=T.cl_View
  have f2:=vn room f0 D (m := "cells") (by decide +kernel)
  have f3:=vn room f0 D (m := "count") (by decide +kernel)
  refine ⟨_,(@pss_cons _ _ _ _ _ (@ps_expr _ _ _ _ (@pe_nMeth _ _ _ _ _ _ _ _ _ _ _ _ _ _ _ _ _ _ _ _ (@pvN _ 0 _ _ (by rfl) (by trivial) (by decide) (by decide)) T.cl_Store T.mt_Store_refuse_room G_Store_refuse_room (hr.mono (by decide)) T.b_Store_refuse_room .nil passes_def (@pa_c _ _ _ _ _ (@pvN _ 1 _ _ (by rfl) (by trivial) (by decide) (by decide)) (@pa_nil _) (by rfl)) (by rfl) (by rfl) (by rfl)) (by rfl)) (@pss_one _ _ _ (@ps_ret _ _ _ _ (@pe_comp _ _ _ _ _ _ _ _ _ _ _ (["cell", "self", "view"]) (1) (comp_ok (defScope s_Store_read) ["self", "view"] rfl rfl (by decide +kernel)) rfl (@pi_seq _ _ _ _ (@pe_nMeth0 _ _ _ _ _ _ _ _ _ _ _ _ _ _ _ _ _ (@pvN _ 1 _ _ (by rfl) (by trivial) (by decide) (by decide)) T.cl_View T.mt_View_cells G_View_cells (hr.mono (by decide)) T.b_View_cells .nil passes_def (by rfl))) (fun C s₀ H₀ ex pn=>(@pg_name _ _ (0) _ (show List.Nodup (["cell", "self", "view"]:List Str) from by decide +kernel) rfl (Or.inl rfl) (by trivial))) (fun C s₀ H₀ ex pn=>(@pts_nil _)) (fun C s₀ H₀ ex pn=>(@pe_ix _ _ _ _ _ _ _ ix_q (@pe_nFld' _ _ _ _ _ (K) rfl (@pvN _ 1 _ _ (by rfl) (by trivial) (by decide) (by decide)) rfl) (@pvN _ 0 _ _ (by rfl) (by trivial) (by decide) (by decide)) (fun _ _=>rfl))) (by intros;rfl))))),?_⟩
  rw [show start ["self", "view"] [.ref s,.ref v]=[some (.ref s),some (.ref v)] from rfl]
  clear G_Store_refuse_room G_View_cells
  replace kV:=fun (_:Unit)=>kV
  replace kT:=fun (_:Unit)=>kT
  simp! only [and_true]
  rw [c_spRoomB]
  refine ⟨l,vals,room,n,so,vv,fun he=>?_,fun hne=>kV () hne⟩
  have kt:=fun (_:Unit)=>kT () he
  have hbig:4096 < n:=hbad.elim (fun h=>absurd he h) id
  replace he:=fun (_:Unit)=>he
  clear kV kT hbad
  simp! only [and_true]
  rw [c_spCellsB]
  exact ⟨room,n,vv,hbig,kt ()⟩
abbrev B_spFillB (CS CV cV cT:Addr) (s:Addr) (v:Addr) (z:V) (H:Hp) (Q:VK) (E:XK):Prop:=∃ (l:Addr) (vals:List Int) (room n:Int),StoreAt CS H s l vals∧VwN CV H v room n∧(room ≠ vals.length∨4096 < n)∧(room ≠ vals.length->∀ H',Ext H H'->E (.ref cV) none H')∧(room=vals.length->∀ dx H',Ext H H'->H' dx=some (.xd [("number",.int n)])->E (.ref cT) (some dx) H')
def spFillB (CS CV cV cT:Addr):Sp:=fun vs H Q E=>∃ (s:Addr) (v:Addr) (z:V),vs=[.ref s,.ref v,z]∧(B_spFillB CS CV cV cT s v z H Q E)
theorem c_spFillB (CS CV cV cT:Addr) (s:Addr) (v:Addr) (z:V) (H:Hp) (Q:VK) (E:XK):spFillB CS CV cV cT [.ref s,.ref v,z] H Q E=(B_spFillB CS CV cV cT s v z H Q E):=spx3 (f:=fun (s:Addr) (v:Addr) (z:V)=>[.ref s,.ref v,z]) (fun _ _ _ _ _ _ h=>by cases h;exact ⟨rfl,rfl,rfl⟩) s v z
theorem l_spFillB (CS CV cV cT:Addr){vs:List V}{H:Hp}{Q:VK}{E:XK}(h:spFillB CS CV cV cT vs H Q E):vs.length=3:=spl3 h fun _ _ _=>rfl
theorem okB_Store_fill (T:Tx K mg t):FnOk P w K mg base (CX1 P  w) 5 t.a_Store_fill t.d_Store_fill ["self", "view", "value"] (spFillB t.a_Store t.a_View t.a_NoView t.a_TooMany):=by
 have G_Store_refuse_room:=okB_Store_refuse_room (P:=P) (w:=w) (base:=base) T
 have G_View_cells:=okB_View_cells (P:=P) (w:=w) (base:=base) T
 refine (Fun.x T.F_Store_fill).ok c_Store_fill (fun vs H Q E h=>l_spFillB _ _ _ _ h) (fun cdv A outer s' H vs Q E hr h=>?_)
 ·obtain ⟨s,v,z,rfl,l,vals,room,n,so,vv,hbad,kV,kT⟩:=h
  obtain ⟨dx,hs⟩:=so.ob
  have hfl:=so.fl
  have c1:=T.cl_Store
  have c2:=T.na_Store_floor
  have f1:=storeF_floor l
  have m1:=storeF_no l (m := "refuse_room") (by decide +kernel)
  have m2:=storeF_no l (m := "read") (by decide +kernel)
  have m3:=storeF_no l (m := "put") (by decide +kernel)
  obtain ⟨f0,A0,vo,hA0,hn0⟩:=id vv
  obtain ⟨dy,D,hv,_⟩:=vo.ob
  have c3:=T.cl_View
  have f2:=vn room f0 D (m := "cells") (by decide +kernel)
  have f3:=vn room f0 D (m := "count") (by decide +kernel)
  refine ⟨_,(@pss_cons _ _ _ _ _ (@ps_expr _ _ _ _ (@pe_nMeth _ _ _ _ _ _ _ _ _ _ _ _ _ _ _ _ _ _ _ _ (@pvN _ 0 _ _ (by rfl) (by trivial) (by decide) (by decide)) T.cl_Store T.mt_Store_refuse_room G_Store_refuse_room (hr.mono (by decide)) T.b_Store_refuse_room .nil passes_def (@pa_c _ _ _ _ _ (@pvN _ 1 _ _ (by rfl) (by trivial) (by decide) (by decide)) (@pa_nil _) (by rfl)) (by rfl) (by rfl) (by rfl)) (by rfl)) (@pss_one _ _ _ (@ps_for _ _ _ _ _ _ _ _ PassesOwn.leaving rfl (@pi_seq _ _ _ _ (@pe_nMeth0 _ _ _ _ _ _ _ _ _ _ _ _ _ _ _ _ _ (@pvN _ 1 _ _ (by rfl) (by trivial) (by decide) (by decide)) T.cl_View T.mt_View_cells G_View_cells (hr.mono (by decide)) T.b_View_cells .nil passes_def (by rfl))) (@pg_name _ _ (3) _ c_Store_fill.nd rfl (Or.inl rfl) (by trivial)) (@pss_one _ _ _ (@ps_asg _ _ _ _ _ _ (@pvN _ 2 _ _ (by rfl) (by trivial) (by decide) (by decide)) (@pg_sub _ _ _ _ _ _ _ (@pe_nFld _ _ _ _ _ (@pvN _ 0 _ _ (by rfl) (by trivial) (by decide) (by decide)) rfl) (@pvN _ 3 _ _ (by rfl) (by trivial) (by decide) (by decide)) set_list (by intros;rfl)) (by rfl) (by rfl) (by rfl))) (by intros;rfl)))),?_⟩
  rw [show start ["self", "view", "value", "cell"] [.ref s,.ref v,z]=[some (.ref s),some (.ref v),some (z),none] from rfl]
  clear G_Store_refuse_room G_View_cells
  replace kV:=fun (_:Unit)=>kV
  replace kT:=fun (_:Unit)=>kT
  simp! only [and_true]
  rw [c_spRoomB]
  refine ⟨l,vals,room,n,so,vv,fun he=>?_,fun hne=>kV () hne⟩
  have kt:=fun (_:Unit)=>kT () he
  have hbig:4096 < n:=hbad.elim (fun h=>absurd he h) id
  replace he:=fun (_:Unit)=>he
  clear kV kT hbad
  simp! only [and_true]
  rw [c_spCellsB]
  exact ⟨room,n,vv,hbig,kt ()⟩
abbrev B_spPutB (CS CV cV cC cT:Addr) (s:Addr) (v:Addr) (p:Addr) (H:Hp) (Q:VK) (E:XK):Prop:=∃ (l:Addr) (vals:List Int) (room n:Int) (xs:List V),StoreAt CS H s l vals∧VwN CV H v room n∧H p=some (.lst xs)∧(room ≠ vals.length∨n ≠ xs.length∨4096 < n)∧(room ≠ vals.length->∀ H',Ext H H'->E (.ref cV) none H')∧(room=vals.length->n ≠ xs.length->∀ H',Ext H H'->E (.ref cC) none H')∧(room=vals.length->n=xs.length->∀ dx H',Ext H H'->H' dx=some (.xd [("number",.int n)])->E (.ref cT) (some dx) H')
def spPutB (CS CV cV cC cT:Addr):Sp:=fun vs H Q E=>∃ (s:Addr) (v:Addr) (p:Addr),vs=[.ref s,.ref v,.ref p]∧(B_spPutB CS CV cV cC cT s v p H Q E)
theorem c_spPutB (CS CV cV cC cT:Addr) (s:Addr) (v:Addr) (p:Addr) (H:Hp) (Q:VK) (E:XK):spPutB CS CV cV cC cT [.ref s,.ref v,.ref p] H Q E=(B_spPutB CS CV cV cC cT s v p H Q E):=spx3 (f:=fun (s:Addr) (v:Addr) (p:Addr)=>[.ref s,.ref v,.ref p]) (fun _ _ _ _ _ _ h=>by cases h;exact ⟨rfl,rfl,rfl⟩) s v p
theorem l_spPutB (CS CV cV cC cT:Addr){vs:List V}{H:Hp}{Q:VK}{E:XK}(h:spPutB CS CV cV cC cT vs H Q E):vs.length=3:=spl3 h fun _ _ _=>rfl
theorem okB_Store_put (T:Tx K mg t):FnOk P w K mg base (CX1 P  w) 5 t.a_Store_put t.d_Store_put ["self", "view", "values"] (spPutB t.a_Store t.a_View t.a_NoView t.a_NoCount t.a_TooMany):=by
 have G_Store_refuse_room:=okB_Store_refuse_room (P:=P) (w:=w) (base:=base) T
 have G_refuse_count:=okX_refuse_count (P:=P) (w:=w) (base:=base) T
 have G_View_cells:=okB_View_cells (P:=P) (w:=w) (base:=base) T
 refine (Fun.x T.F_Store_put).ok c_Store_put (fun vs H Q E h=>l_spPutB _ _ _ _ _ h) (fun cdv A outer s' H vs Q E hr h=>?_)
 ·obtain ⟨s,v,p,rfl,l,vals,room,n,xs,so,vv,hp,hbad,kV,kC,kT⟩:=h
  obtain ⟨dx,hs⟩:=so.ob
  have hfl:=so.fl
  have c1:=T.cl_Store
  have c2:=T.na_Store_floor
  have f1:=storeF_floor l
  have m1:=storeF_no l (m := "refuse_room") (by decide +kernel)
  have m2:=storeF_no l (m := "read") (by decide +kernel)
  have m3:=storeF_no l (m := "put") (by decide +kernel)
  obtain ⟨f0,A0,vo,hA0,hn0⟩:=id vv
  obtain ⟨dy,D,hv,_⟩:=vo.ob
  have c3:=T.cl_View
  have f2:=vn room f0 D (m := "cells") (by decide +kernel)
  have f3:=vn room f0 D (m := "count") (by decide +kernel)
  refine ⟨_,(@pss_cons _ _ _ _ _ (@ps_expr _ _ _ _ (@pe_nMeth _ _ _ _ _ _ _ _ _ _ _ _ _ _ _ _ _ _ _ _ (@pvN _ 0 _ _ (by rfl) (by trivial) (by decide) (by decide)) T.cl_Store T.mt_Store_refuse_room G_Store_refuse_room (hr.mono (by decide)) T.b_Store_refuse_room .nil passes_def (@pa_c _ _ _ _ _ (@pvN _ 1 _ _ (by rfl) (by trivial) (by decide) (by decide)) (@pa_nil _) (by rfl)) (by rfl) (by rfl) (by rfl)) (by rfl)) (@pss_cons _ _ _ _ _ (@ps_expr _ _ _ _ (@pe_call _ _ _ _ _ _ _ _ _ _ _ _ _ _ _ _ G_refuse_count (hr.mono (by decide)) (by rfl) T.m_refuse_count T.F_refuse_count.kp T.b_refuse_count .nil passes_def (@pa_c _ _ _ _ _ (@pvN _ 1 _ _ (by rfl) (by trivial) (by decide) (by decide)) (@pa_c _ _ _ _ _ (@pe_callB _ _ _ _ _ _ _ ("len") _ call_qLen (by rfl) T.z_len (by decide +kernel) (@pa_c _ _ _ _ _ (@pvN _ 2 _ _ (by rfl) (by trivial) (by decide) (by decide)) (@pa_nil _) (by rfl)) (by decide) (by decide) (by rfl) (by rfl)) (@pa_nil _) (by rfl)) (by rfl)) (by decide) (by rfl) (by rfl)) (by rfl)) (@pss_one _ _ _ (@ps_for _ _ _ _ _ _ _ _ PassesOwn.leaving rfl (@pi_zip _ _ _ _ _ _ _ _ _ (by rfl) T.z_zip (@pa_c _ _ _ _ _ (@pe_nMeth0 _ _ _ _ _ _ _ _ _ _ _ _ _ _ _ _ _ (@pvN _ 1 _ _ (by rfl) (by trivial) (by decide) (by decide)) T.cl_View T.mt_View_cells G_View_cells (hr.mono (by decide)) T.b_View_cells .nil passes_def (by rfl)) (@pa_c _ _ _ _ _ (@pvN _ 2 _ _ (by rfl) (by trivial) (by decide) (by decide)) (@pa_nil _) (by rfl)) (by rfl)) (by rfl) (by rfl)) ((@pg_tup _ _ _ _ _ (2) rfl (@pgs_consN _ _ _ _ _ (@pg_name _ _ (3) _ c_Store_put.nd rfl (Or.inl rfl) (by trivial)) (@pgs_consN _ _ _ _ _ (@pg_name _ _ (4) _ c_Store_put.nd rfl (Or.inl rfl) (by trivial)) (@pgs_nilN _) (by rfl)) (by rfl)) (by rfl) (by rfl)).mono fun _ _ _ _ h=>gTup_q h) (@pss_one _ _ _ (@ps_asg _ _ _ _ _ _ (@pvN _ 4 _ _ (by rfl) (by trivial) (by decide) (by decide)) (@pg_sub _ _ _ _ _ _ _ (@pe_nFld _ _ _ _ _ (@pvN _ 0 _ _ (by rfl) (by trivial) (by decide) (by decide)) rfl) (@pvN _ 3 _ _ (by rfl) (by trivial) (by decide) (by decide)) set_list (by intros;rfl)) (by rfl) (by rfl) (by rfl))) (by intros;rfl))))),?_⟩
  rw [show start ["self", "view", "values", "cell", "value"] [.ref s,.ref v,.ref p]=[some (.ref s),some (.ref v),some (.ref p),none,none] from rfl]
  clear G_Store_refuse_room G_refuse_count G_View_cells
  replace kV:=fun (_:Unit)=>kV
  replace kC:=fun (_:Unit)=>kC
  replace kT:=fun (_:Unit)=>kT
  simp! only [and_true]
  rw [c_spRoomB]
  refine ⟨l,vals,room,n,so,vv,fun he=>?_,fun hne=>kV () hne⟩
  replace he:=fun (_:Unit)=>he
  simp! only [and_true]
  refine use_rcX vv (fun hc H1 e1=>?_) (fun hc H1 e1=>kC () (he ()) hc H1 e1)
  have hbig:4096 < n:=hbad.elim (fun h=>absurd (he ()) h) fun h=>h.elim (fun h=>absurd hc h) id
  have kt:=fun (_:Unit)=>kT () (he ()) hc
  have hv1:=e1.at hv
  have hp1:=e1.at hp
  replace hc:=fun (_:Unit)=>hc
  clear kV kC kT hbad hv hp
  simp! only [and_true]
  rw [c_spCellsB]
  exact ⟨room,n,vv.ext e1,hbig,fun dx H' e' h'=>kt () dx H' (e1.trans e') h'⟩
abbrev B_spCopiedB (CS CV cV cC cT:Addr) (s:Addr) (v:Addr) (u:Addr) (H:Hp) (Q:VK) (E:XK):Prop:=∃ (l:Addr) (vals:List Int) (room n r2 n2:Int),StoreAt CS H s l vals∧VwN CV H v room n∧VwN CV H u r2 n2∧(room ≠ vals.length∨r2 ≠ vals.length∨n ≠ n2∨4096 < n2)∧((room ≠ vals.length∨r2 ≠ vals.length)->∀ H',Ext H H'->E (.ref cV) none H')∧(room=vals.length->r2=vals.length->n ≠ n2->∀ H',Ext H H'->E (.ref cC) none H')∧(room=vals.length->r2=vals.length->n=n2->∀ dx H',Ext H H'->H' dx=some (.xd [("number",.int n2)])->E (.ref cT) (some dx) H')
def spCopiedB (CS CV cV cC cT:Addr):Sp:=fun vs H Q E=>∃ (s:Addr) (v:Addr) (u:Addr),vs=[.ref s,.ref v,.ref u]∧(B_spCopiedB CS CV cV cC cT s v u H Q E)
theorem c_spCopiedB (CS CV cV cC cT:Addr) (s:Addr) (v:Addr) (u:Addr) (H:Hp) (Q:VK) (E:XK):spCopiedB CS CV cV cC cT [.ref s,.ref v,.ref u] H Q E=(B_spCopiedB CS CV cV cC cT s v u H Q E):=spx3 (f:=fun (s:Addr) (v:Addr) (u:Addr)=>[.ref s,.ref v,.ref u]) (fun _ _ _ _ _ _ h=>by cases h;exact ⟨rfl,rfl,rfl⟩) s v u
theorem l_spCopiedB (CS CV cV cC cT:Addr){vs:List V}{H:Hp}{Q:VK}{E:XK}(h:spCopiedB CS CV cV cC cT vs H Q E):vs.length=3:=spl3 h fun _ _ _=>rfl
theorem okB_Store_copied (T:Tx K mg t):FnOk P w K mg base (CX1 P  w) 6 t.a_Store_copied t.d_Store_copied ["self", "to", "source"] (spCopiedB t.a_Store t.a_View t.a_NoView t.a_NoCount t.a_TooMany):=by
 have G_Store_refuse_room:=okB_Store_refuse_room (P:=P) (w:=w) (base:=base) T
 have G_View_count:=ok_View_count (P:=P) (w:=w) (base:=base) T
 have G_refuse_count:=okX_refuse_count (P:=P) (w:=w) (base:=base) T
 have G_Store_read:=okB_Store_read (P:=P) (w:=w) (base:=base) T
 have G_Store_put:=ok_Store_put (P:=P) (w:=w) (base:=base) T
 refine (Fun.x T.F_Store_copied).ok c_Store_copied (fun vs H Q E h=>l_spCopiedB _ _ _ _ _ h) (fun cdv A outer s' H vs Q E hr h=>?_)
 ·obtain ⟨s,v,u,rfl,l,vals,room,n,r2,n2,so,vv,vu,hbad,kV,kC,kT⟩:=h
  obtain ⟨dx,hs⟩:=so.ob
  have c1:=T.cl_Store
  have m1:=storeF_no l (m := "refuse_room") (by decide +kernel)
  have m2:=storeF_no l (m := "read") (by decide +kernel)
  have m3:=storeF_no l (m := "put") (by decide +kernel)
  obtain ⟨f0,A0,vo,hA0,hn0⟩:=id vu
  obtain ⟨dy,D,hv,_⟩:=vo.ob
  have c3:=T.cl_View
  have f3:=vn r2 f0 D (m := "count") (by decide +kernel)
  refine ⟨_,(@pss_cons _ _ _ _ _ (@ps_expr _ _ _ _ (@pe_nMeth _ _ _ _ _ _ _ _ _ _ _ _ _ _ _ _ _ _ _ _ (@pvN _ 0 _ _ (by rfl) (by trivial) (by decide) (by decide)) T.cl_Store T.mt_Store_refuse_room G_Store_refuse_room (hr.mono (by decide)) T.b_Store_refuse_room .nil passes_def (@pa_c _ _ _ _ _ (@pvN _ 1 _ _ (by rfl) (by trivial) (by decide) (by decide)) (@pa_nil _) (by rfl)) (by rfl) (by rfl) (by rfl)) (by rfl)) (@pss_cons _ _ _ _ _ (@ps_expr _ _ _ _ (@pe_nMeth _ _ _ _ _ _ _ _ _ _ _ _ _ _ _ _ _ _ _ _ (@pvN _ 0 _ _ (by rfl) (by trivial) (by decide) (by decide)) T.cl_Store T.mt_Store_refuse_room G_Store_refuse_room (hr.mono (by decide)) T.b_Store_refuse_room .nil passes_def (@pa_c _ _ _ _ _ (@pvN _ 2 _ _ (by rfl) (by trivial) (by decide) (by decide)) (@pa_nil _) (by rfl)) (by rfl) (by rfl) (by rfl)) (by rfl)) (@pss_cons _ _ _ _ _ (@ps_expr _ _ _ _ (@pe_call _ _ _ _ _ _ _ _ _ _ _ _ _ _ _ _ G_refuse_count (hr.mono (by decide)) (by rfl) T.m_refuse_count T.F_refuse_count.kp T.b_refuse_count .nil passes_def (@pa_c _ _ _ _ _ (@pvN _ 1 _ _ (by rfl) (by trivial) (by decide) (by decide)) (@pa_c _ _ _ _ _ (@pe_nMeth0 _ _ _ _ _ _ _ _ _ _ _ _ _ _ _ _ _ (@pvN _ 2 _ _ (by rfl) (by trivial) (by decide) (by decide)) T.cl_View T.mt_View_count G_View_count (hr.mono (by decide)) T.b_View_count .nil pass0 (by rfl)) (@pa_nil _) (by rfl)) (by rfl)) (by decide) (by rfl) (by rfl)) (by rfl)) (@pss_one _ _ _ (@ps_expr _ _ _ _ (@pe_nMeth _ _ _ _ _ _ _ _ _ _ _ _ _ _ _ _ _ _ _ _ (@pvN _ 0 _ _ (by rfl) (by trivial) (by decide) (by decide)) T.cl_Store T.mt_Store_put G_Store_put (hr.mono (by decide)) T.b_Store_put .nil pass0 (@pa_c _ _ _ _ _ (@pvN _ 1 _ _ (by rfl) (by trivial) (by decide) (by decide)) (@pa_c _ _ _ _ _ (@pe_nMeth _ _ _ _ _ _ _ _ _ _ _ _ _ _ _ _ _ _ _ _ (@pvN _ 0 _ _ (by rfl) (by trivial) (by decide) (by decide)) T.cl_Store T.mt_Store_read G_Store_read (hr.mono (by decide)) T.b_Store_read .nil passes_def (@pa_c _ _ _ _ _ (@pvN _ 2 _ _ (by rfl) (by trivial) (by decide) (by decide)) (@pa_nil _) (by rfl)) (by rfl) (by rfl) (by rfl)) (@pa_nil _) (by rfl)) (by rfl)) (by rfl) (by rfl) (by rfl)) (by rfl)))))),?_⟩
  rw [show start ["self", "to", "source"] [.ref s,.ref v,.ref u]=[some (.ref s),some (.ref v),some (.ref u)] from rfl]
  clear G_Store_refuse_room G_View_count G_refuse_count G_Store_read G_Store_put
  replace kV:=fun (_:Unit)=>kV
  replace kC:=fun (_:Unit)=>kC
  replace kT:=fun (_:Unit)=>kT
  simp! only [and_true]
  rw [c_spRoomB]
  refine ⟨l,vals,room,n,so,vv,fun he=>?_,fun hne=>kV () (.inl hne)⟩
  replace he:=fun (_:Unit)=>he
  simp! only [and_true]
  rw [c_spRoomB]
  refine ⟨l,vals,r2,n2,so,vu,fun he2=>?_,fun hne=>kV () (.inr hne)⟩
  replace he2:=fun (_:Unit)=>he2
  simp! only [and_true]
  rw [c_spVCount]
  refine ⟨r2,f0,A0,vo,hA0,fun H1 e1=>?_⟩
  rw [hn0]
  simp! only [and_true]
  refine use_rcX (vv.ext e1) (fun hc H2 e2=>?_) (fun hc H2 e2=>kC () (he ()) (he2 ()) hc H2 (e1.trans e2))
  have hbig:4096 < n2:=hbad.elim (fun h=>absurd (he ()) h) fun h=>h.elim (fun h=>absurd (he2 ()) h) fun h=>h.elim (fun h=>absurd hc h) id
  have kt:=fun (_:Unit)=>kT () (he ()) (he2 ()) hc
  have e02:=e1.trans e2
  have hs2:=e02.at hs
  replace hc:=fun (_:Unit)=>hc
  clear kV kC kT hbad hs
  simp! only [and_true]
  rw [c_spReadB]
  exact ⟨l,vals,r2,n2,so.ext e02,vu.ext e02,.inr hbig,fun hne=>absurd (he2 ()) hne,fun _ dx H' e' h'=>kt () dx H' (e02.trans e') h'⟩
abbrev B_spSrcB (CV cP cC cT:Addr) (v:Addr) (u:Addr) (H:Hp) (Q:VK) (E:XK):Prop:=∃ (r1 n1 r2 n2:Int),VwN CV H v r1 n1∧VwN CV H u r2 n2∧(r1 ≠ r2∨n1 ≠ n2∨4096 < n1)∧(r1 ≠ r2->∀ H',Ext H H'->E (.ref cP) none H')∧(r1=r2->n1 ≠ n2->∀ H',Ext H H'->E (.ref cC) none H')∧(r1=r2->n1=n2->∀ dx H',Ext H H'->H' dx=some (.xd [("number",.int n1)])->E (.ref cT) (some dx) H')
def spSrcB (CV cP cC cT:Addr):Sp:=fun vs H Q E=>∃ (v:Addr) (u:Addr),vs=[.ref v,.ref u]∧(B_spSrcB CV cP cC cT v u H Q E)
theorem c_spSrcB (CV cP cC cT:Addr) (v:Addr) (u:Addr) (H:Hp) (Q:VK) (E:XK):spSrcB CV cP cC cT [.ref v,.ref u] H Q E=(B_spSrcB CV cP cC cT v u H Q E):=spx2 (f:=fun (v:Addr) (u:Addr)=>[.ref v,.ref u]) (fun _ _ _ _ h=>by cases h;exact ⟨rfl,rfl⟩) v u
theorem l_spSrcB (CV cP cC cT:Addr){vs:List V}{H:Hp}{Q:VK}{E:XK}(h:spSrcB CV cP cC cT vs H Q E):vs.length=2:=spl2 h fun _ _=>rfl
theorem okB_sources (T:Tx K mg t):FnOk P w K mg base (CX1 P  w) 5 t.a_sources t.d_sources ["to", "source"] (spSrcB t.a_View t.a_NoPair t.a_NoCount t.a_TooMany):=by
 have G_refuse_rooms:=okX_refuse_rooms (P:=P) (w:=w) (base:=base) T
 have G_View_count:=ok_View_count (P:=P) (w:=w) (base:=base) T
 have G_refuse_count:=okX_refuse_count (P:=P) (w:=w) (base:=base) T
 have G_View_cells:=okB_View_cells (P:=P) (w:=w) (base:=base) T
 refine (Fun.x T.F_sources).ok c_sources (fun vs H Q E h=>l_spSrcB _ _ _ _ h) (fun cdv A outer s' H vs Q E hr h=>?_)
 ·obtain ⟨v,u,rfl,r1,n1,r2,n2,vv,vu,hbad,kP,kC,kT⟩:=h
  obtain ⟨f1,A1,vo1,hA1,hn1⟩:=id vv
  obtain ⟨f2,A2,vo2,hA2,hn2⟩:=id vu
  obtain ⟨dy,D,hv,_⟩:=vo1.ob
  obtain ⟨dz,D2,hu,_⟩:=vo2.ob
  have c3:=T.cl_View
  have g1:=vn r1 f1 D (m := "cells") (by decide +kernel)
  have g2:=vn r2 f2 D2 (m := "cells") (by decide +kernel)
  have g4:=vn r2 f2 D2 (m := "count") (by decide +kernel)
  refine ⟨_,(@pss_cons _ _ _ _ _ (@ps_expr _ _ _ _ (@pe_call _ _ _ _ _ _ _ _ _ _ _ _ _ _ _ _ G_refuse_rooms (hr.mono (by decide)) (by rfl) T.m_refuse_rooms T.F_refuse_rooms.kp T.b_refuse_rooms .nil passes_def (@pa_c _ _ _ _ _ (@pvN _ 0 _ _ (by rfl) (by trivial) (by decide) (by decide)) (@pa_c _ _ _ _ _ (@pvN _ 1 _ _ (by rfl) (by trivial) (by decide) (by decide)) (@pa_nil _) (by rfl)) (by rfl)) (by decide) (by rfl) (by rfl)) (by rfl)) (@pss_cons _ _ _ _ _ (@ps_expr _ _ _ _ (@pe_call _ _ _ _ _ _ _ _ _ _ _ _ _ _ _ _ G_refuse_count (hr.mono (by decide)) (by rfl) T.m_refuse_count T.F_refuse_count.kp T.b_refuse_count .nil passes_def (@pa_c _ _ _ _ _ (@pvN _ 0 _ _ (by rfl) (by trivial) (by decide) (by decide)) (@pa_c _ _ _ _ _ (@pe_nMeth0 _ _ _ _ _ _ _ _ _ _ _ _ _ _ _ _ _ (@pvN _ 1 _ _ (by rfl) (by trivial) (by decide) (by decide)) T.cl_View T.mt_View_count G_View_count (hr.mono (by decide)) T.b_View_count .nil pass0 (by rfl)) (@pa_nil _) (by rfl)) (by rfl)) (by decide) (by rfl) (by rfl)) (by rfl)) (@pss_cons _ _ _ _ _ (@ps_set _ _ (2) _ _ _ _ c_sources.nd rfl (Or.inl rfl) (@pe_nDNew _ _) (by rfl) (by trivial)) (@pss_cons _ _ _ _ _ (@ps_for _ _ _ _ _ _ _ _ PassesOwn.leaving rfl (@pi_zip _ _ _ _ _ _ _ _ _ (by rfl) T.z_zip (@pa_c _ _ _ _ _ (@pe_nMeth0 _ _ _ _ _ _ _ _ _ _ _ _ _ _ _ _ _ (@pvN _ 0 _ _ (by rfl) (by trivial) (by decide) (by decide)) T.cl_View T.mt_View_cells G_View_cells (hr.mono (by decide)) T.b_View_cells .nil passes_def (by rfl)) (@pa_c _ _ _ _ _ (@pe_nMeth0 _ _ _ _ _ _ _ _ _ _ _ _ _ _ _ _ _ (@pvN _ 1 _ _ (by rfl) (by trivial) (by decide) (by decide)) T.cl_View T.mt_View_cells G_View_cells (hr.mono (by decide)) T.b_View_cells .nil passes_def (by rfl)) (@pa_nil _) (by rfl)) (by rfl)) (by rfl) (by rfl)) ((@pg_tup _ _ _ _ _ (2) rfl (@pgs_consN _ _ _ _ _ (@pg_name _ _ (3) _ c_sources.nd rfl (Or.inl rfl) (by trivial)) (@pgs_consN _ _ _ _ _ (@pg_name _ _ (4) _ c_sources.nd rfl (Or.inl rfl) (by trivial)) (@pgs_nilN _) (by rfl)) (by rfl)) (by rfl) (by rfl)).mono fun _ _ _ _ h=>gTup_q h) (@pss_one _ _ _ (@ps_dput _ _ _ _ _ _ _ _ _ (units1 hr.units) (@pvN _ 2 _ _ (by rfl) (by trivial) (by decide) (by decide)) (@pvN _ 3 _ _ (by rfl) (by trivial) (by decide) (by decide)) (@pvN _ 4 _ _ (by rfl) (by trivial) (by decide) (by decide)) rfl)) (by intros;rfl)) (@pss_one _ _ _ (@ps_ret _ _ _ _ (@pvN _ 2 _ _ (by rfl) (by trivial) (by decide) (by decide)))))))),?_⟩
  rw [show start ["to", "source", "found", "cell", "origin"] [.ref v,.ref u]=[some (.ref v),some (.ref u),none,none,none] from rfl]
  clear G_refuse_rooms G_View_count G_refuse_count G_View_cells
  replace kP:=fun (_:Unit)=>kP
  replace kC:=fun (_:Unit)=>kC
  replace kT:=fun (_:Unit)=>kT
  simp! only [and_true]
  rw [c_spRoomsX]
  refine ⟨r1,r2,f1,f2,A1,A2,vo1,vo2,fun he=>?_,fun hne=>kP () hne⟩
  replace he:=fun (_:Unit)=>he
  simp! only [and_true]
  rw [c_spVCount]
  refine ⟨r2,f2,A2,vo2,hA2,fun H1 e1=>?_⟩
  rw [hn2]
  simp! only [and_true]
  refine use_rcX (vv.ext e1) (fun hc H2 e2=>?_) (fun hc H2 e2=>kC () (he ()) hc H2 (e1.trans e2))
  have hbig:4096 < n1:=hbad.elim (fun h=>absurd (he ()) h) fun h=>h.elim (fun h=>absurd hc h) id
  have kt:=fun (_:Unit)=>kT () (he ()) hc
  have e02:=e1.trans e2
  replace hc:=fun (_:Unit)=>hc
  clear kP kC kT hbad
  simp! only [and_true]
  intro d H3 _ e3 h3
  have e03:=e02.trans e3
  have hv3:=e03.at hv
  have hu3:=e03.at hu
  clear hv hu
  simp! only [and_true]
  rw [c_spCellsB]
  exact ⟨r1,n1,vv.ext e03,hbig,fun dx H' e' h'=>kt () dx H' (e03.trans e') h'⟩
abbrev B_spSInitB (cZ cT:Addr) (x:Addr) (p:Addr) (H:Hp) (Q:VK) (E:XK):Prop:=∃ xs:List V,H p=some (.lst xs)∧(xs=[]∨4096 < xs.length)∧(xs=[]->∀ H',Ext H H'->E (.ref cZ) none H')∧(xs ≠ []->∀ dx H',Ext H H'->H' dx=some (.xd [("number",.int (xs.length:Int))])->E (.ref cT) (some dx) H')
def spSInitB (cZ cT:Addr):Sp:=fun vs H Q E=>∃ (x:Addr) (p:Addr),vs=[.ref x,.ref p]∧(B_spSInitB cZ cT x p H Q E)
theorem c_spSInitB (cZ cT:Addr) (x:Addr) (p:Addr) (H:Hp) (Q:VK) (E:XK):spSInitB cZ cT [.ref x,.ref p] H Q E=(B_spSInitB cZ cT x p H Q E):=spx2 (f:=fun (x:Addr) (p:Addr)=>[.ref x,.ref p]) (fun _ _ _ _ h=>by cases h;exact ⟨rfl,rfl⟩) x p
theorem l_spSInitB (cZ cT:Addr){vs:List V}{H:Hp}{Q:VK}{E:XK}(h:spSInitB cZ cT vs H Q E):vs.length=2:=spl2 h fun _ _=>rfl
theorem okB_Store___init__ (T:Tx K mg t):FnOk P w K mg base (CX1 P  w) 4 t.a_Store___init__ t.d_Store___init__ ["self", "values"] (spSInitB t.a_NoCells t.a_TooMany):=by
 have G_refuse_long:=okX_refuse_long (P:=P) (w:=w) (base:=base) T
 refine (Fun.x T.F_Store___init__).ok c_Store___init__ (fun vs H Q E h=>l_spSInitB _ _ h) (fun cdv A outer s H vs Q E hr h=>?_)
 ·obtain ⟨x,p,rfl,xs,hp,hbad,kZ,kT⟩:=h
  refine ⟨_,(@pss_cons _ _ _ _ _ (@ps_if _ _ _ _ _ _ _ _ (@pt_cmpRN _ _ _ _ _ _ _ _ (op_qEq hr.units) (@pe_callB _ _ _ _ _ _ _ ("len") _ call_qLen (by rfl) T.z_len (by decide +kernel) (@pa_c _ _ _ _ _ (@pvN _ 1 _ _ (by rfl) (by trivial) (by decide) (by decide)) (@pa_nil _) (by rfl)) (by decide) (by decide) (by rfl) (by rfl)) (@pe_int _ _ _ _) (nomark _)) (@pss_one _ _ _ (@ps_raise _ _ _ _ _ _ _ _ _ _ rfl (by rfl) T.m_NoCells ⟨T.o_NoCells⟩ (fun σ=>raises_def) (@pa_c _ _ _ _ _ (@pe_str _ _ _ _) (@pa_nil _) (by rfl)) (by rfl) (by rfl) (by decide))) (@pss_nil _)) (@pss_cons _ _ _ _ _ (@ps_expr _ _ _ _ (@pe_call _ _ _ _ _ _ _ _ _ _ _ _ _ _ _ _ G_refuse_long (hr.mono (by decide)) (by rfl) T.m_refuse_long T.F_refuse_long.kp T.b_refuse_long .nil passes_def (@pa_c _ _ _ _ _ (@pe_callB _ _ _ _ _ _ _ ("len") _ call_qLen (by rfl) T.z_len (by decide +kernel) (@pa_c _ _ _ _ _ (@pvN _ 1 _ _ (by rfl) (by trivial) (by decide) (by decide)) (@pa_nil _) (by rfl)) (by decide) (by decide) (by rfl) (by rfl)) (@pa_nil _) (by rfl)) (by decide) (by rfl) (by rfl)) (by rfl)) (@pss_one _ _ _ (@ps_nSetF _ _ _ _ _ _ _ _ (@pvN _ 0 _ _ (by rfl) (by trivial) (by decide) (by decide)) (@pe_callTy _ _ _ _ _ _ _ _ _ call_nList (by rfl) T.z_list (by decide +kernel) (@pa_c _ _ _ _ _ (@pvN _ 1 _ _ (by rfl) (by trivial) (by decide) (by decide)) (@pa_nil _) (by rfl)) (by decide) (by decide) (by rfl) (by rfl)) rfl)))),?_⟩
  rw [show start ["self", "values"] [.ref x,.ref p]=[some (.ref x),some (.ref p)] from rfl]
  clear G_refuse_long
  by_cases h0:xs=[]
  ·have k2:=kZ h0 H (Ext.refl _)
   subst h0
   clear kZ kT
   simp! only [and_true]
  ·have hbig:4096 < xs.length:=hbad.elim (fun h=>absurd h h0) id
   have hne:¬ (xs.length:Int)=0:=by omega
   have kt:=fun (_:Unit)=>kT h0
   clear kZ kT hbad
   simp! only [and_true]
   rw [c_spLongX]
   exact ⟨fun h=>absurd h (by omega),fun _ dx H' e' h'=>kt () dx H' e' h'⟩
abbrev B_spWord (t:Adr) (e:Addr) (H:Hp) (Q:VK) (E:XK):Prop:=∃ oe:Obj,H e=some (excO oe)∧(∃ vs,oe.data=.fields vs)∧((oe.cls=.ref t.a_NoCells∧oe.dict=none∧∀ (r:Addr) (H':Hp),Ext H H'->H' r=some (.tup [.str "cells",.int 0])->Q (.ref r) H')∨(oe.cls=.ref t.a_NoView∧oe.dict=none∧∀ (r:Addr) (H':Hp),Ext H H'->H' r=some (.tup [.str "view",.int 0])->Q (.ref r) H')∨(oe.cls=.ref t.a_NoCount∧oe.dict=none∧∀ (r:Addr) (H':Hp),Ext H H'->H' r=some (.tup [.str "count",.int 0])->Q (.ref r) H')∨(oe.cls=.ref t.a_NoPair∧oe.dict=none∧∀ (r:Addr) (H':Hp),Ext H H'->H' r=some (.tup [.str "pair",.int 0])->Q (.ref r) H')∨∃ (dx:Addr) (n:Int),oe.cls=.ref t.a_TooMany∧oe.dict=some dx∧H dx=some (.xd [("number",.int n)])∧∀ (r:Addr) (H':Hp),Ext H H'->H' r=some (.tup [.str "many",.int n])->Q (.ref r) H')
def spWord (t:Adr):Sp:=fun vs H Q E=>∃ (e:Addr),vs=[.ref e]∧(B_spWord t e H Q E)
theorem c_spWord (t:Adr) (e:Addr) (H:Hp) (Q:VK) (E:XK):spWord t [.ref e] H Q E=(B_spWord t e H Q E):=spx1 (f:=fun (e:Addr)=>[.ref e]) (fun _ _ h=>by cases h;exact rfl) e
theorem l_spWord (t:Adr){vs:List V}{H:Hp}{Q:VK}{E:XK}(h:spWord t vs H Q E):vs.length=1:=spl1 h fun _=>rfl
theorem okH__law_word (T:Tx K mg t):FnOkH P w K mg base CX0 1 t.a__law_word t.d__law_word ["_law_e"] (spWord t):=by
 refine T.F__law_word.okH c__law_word (fun vs H Q E h=>l_spWord _ h) (fun cdv A outer s H vs Q E ee hr hH h=>?_)
 ·obtain ⟨e,rfl,oe,he,hdat,hc⟩:=h
  refine ⟨_,(@pss_cons _ _ _ _ _ (@ps_set _ _ (1) _ _ _ _ c__law_word.nd rfl (Or.inl rfl) (@pe_qLst _ _ _ _ (@pa_c _ _ _ _ _ (@pe_callB _ _ _ _ _ _ _ ("isinstance") _ (call_qIsE' (K:=K) rfl) (by rfl) T.z_isinstance (by decide +kernel) (@pa_c _ _ _ _ _ (@pvN _ 0 _ _ (by rfl) (by trivial) (by decide) (by decide)) (@pa_c _ _ _ _ _ (@pe_glob _ _ (.ref t.a_NoCells) _ _ (by rfl) T.m_NoCells rfl (by decide)) (@pa_nil _) (by rfl)) (by rfl)) (by decide) (by decide) (by rfl) (by rfl)) (@pa_c _ _ _ _ _ (@pe_callB _ _ _ _ _ _ _ ("isinstance") _ (call_qIsE' (K:=K) rfl) (by rfl) T.z_isinstance (by decide +kernel) (@pa_c _ _ _ _ _ (@pvN _ 0 _ _ (by rfl) (by trivial) (by decide) (by decide)) (@pa_c _ _ _ _ _ (@pe_glob _ _ (.ref t.a_TooMany) _ _ (by rfl) T.m_TooMany rfl (by decide)) (@pa_nil _) (by rfl)) (by rfl)) (by decide) (by decide) (by rfl) (by rfl)) (@pa_c _ _ _ _ _ (@pe_callB _ _ _ _ _ _ _ ("isinstance") _ (call_qIsE' (K:=K) rfl) (by rfl) T.z_isinstance (by decide +kernel) (@pa_c _ _ _ _ _ (@pvN _ 0 _ _ (by rfl) (by trivial) (by decide) (by decide)) (@pa_c _ _ _ _ _ (@pe_glob _ _ (.ref t.a_NoView) _ _ (by rfl) T.m_NoView rfl (by decide)) (@pa_nil _) (by rfl)) (by rfl)) (by decide) (by decide) (by rfl) (by rfl)) (@pa_c _ _ _ _ _ (@pe_callB _ _ _ _ _ _ _ ("isinstance") _ (call_qIsE' (K:=K) rfl) (by rfl) T.z_isinstance (by decide +kernel) (@pa_c _ _ _ _ _ (@pvN _ 0 _ _ (by rfl) (by trivial) (by decide) (by decide)) (@pa_c _ _ _ _ _ (@pe_glob _ _ (.ref t.a_NoCount) _ _ (by rfl) T.m_NoCount rfl (by decide)) (@pa_nil _) (by rfl)) (by rfl)) (by decide) (by decide) (by rfl) (by rfl)) (@pa_nil _) (by rfl)) (by rfl)) (by rfl)) (by rfl))) (by rfl) (by trivial)) (@pss_cons _ _ _ _ _ (@ps_expr _ _ _ _ (@pe_bm _ _ _ _ _ _ _ _ _ _ _ _ PySem.F.plainAttrs_list PySem.F.slot_list_append PySem.F.type_list_append mt_append (@pvN _ 1 _ _ (by rfl) (by trivial) (by decide) (by decide)) (@pa_c _ _ _ _ _ (@pe_callB _ _ _ _ _ _ _ ("isinstance") _ (call_qIsE' (K:=K) rfl) (by rfl) T.z_isinstance (by decide +kernel) (@pa_c _ _ _ _ _ (@pvN _ 0 _ _ (by rfl) (by trivial) (by decide) (by decide)) (@pa_c _ _ _ _ _ (@pe_glob _ _ (.ref t.a_NoPair) _ _ (by rfl) T.m_NoPair rfl (by decide)) (@pa_nil _) (by rfl)) (by rfl)) (by decide) (by decide) (by rfl) (by rfl)) (@pa_nil _) (by rfl)) (by rfl) (by rfl) (by rfl) (by rfl) (by rfl)) (by rfl)) (@pss_cons _ _ _ _ _ (@ps_if _ _ _ _ _ _ _ _ (PW.pt (@pw_or _ _ _ _ _ _ _ (@pt_cmpRN _ _ _ _ _ _ _ _ (op_qNe hr.units) (@pe_bm _ _ _ _ _ _ _ _ _ _ _ _ PySem.F.plainAttrs_list PySem.F.slot_list_count PySem.F.type_list_count mt_nCntB (@pvN _ 1 _ _ (by rfl) (by trivial) (by decide) (by decide)) (@pa_c _ _ _ _ _ (@pe_bl _ _ _ _) (@pa_nil _) (by rfl)) (by rfl) (by rfl) (by rfl) (by rfl) (by rfl)) (@pe_int _ _ _ _) (nomark _)) (@pw_or1 _ _ _ _ (@pt_not _ _ _ _ (@pt_valN _ _ _ (@pe_callB _ _ _ _ _ _ _ ("isinstance") _ (call_qIsE' (K:=K) rfl) (by rfl) T.z_isinstance (by decide +kernel) (@pa_c _ _ _ _ _ (@pvN _ 0 _ _ (by rfl) (by trivial) (by decide) (by decide)) (@pa_c _ _ _ _ _ (@pe_bltn _ _ (.ty "ValueError") (.type "ValueError") _ (by rfl) T.z_ValueError (by decide +kernel) rfl (by decide) (by decide)) (@pa_nil _) (by rfl)) (by rfl)) (by decide) (by decide) (by rfl) (by rfl)) (by intros;rfl)))))) (@pss_one _ _ _ (@ps_ret _ _ _ _ (@pe_qTup _ _ _ _ _ (@pa_c _ _ _ _ _ (@pe_str _ _ _ _) (@pa_c _ _ _ _ _ (@pe_int _ _ _ _) (@pa_nil _) (by rfl)) (by rfl))))) (@pss_nil _)) (@pss_cons _ _ _ _ _ (@ps_set _ _ (2) _ _ _ _ c__law_word.nd rfl (Or.inl rfl) (@pe_ix _ _ _ _ _ _ _ ix_q (@pe_qLst _ _ _ _ (@pa_c _ _ _ _ _ (@pe_str _ _ _ _) (@pa_c _ _ _ _ _ (@pe_str _ _ _ _) (@pa_c _ _ _ _ _ (@pe_str _ _ _ _) (@pa_c _ _ _ _ _ (@pe_str _ _ _ _) (@pa_c _ _ _ _ _ (@pe_str _ _ _ _) (@pa_nil _) (by rfl)) (by rfl)) (by rfl)) (by rfl)) (by rfl))) (@pe_bm _ _ _ _ _ _ _ _ _ _ _ _ PySem.F.plainAttrs_list PySem.F.slot_list_index PySem.F.type_list_index mt_nIdxB (@pvN _ 1 _ _ (by rfl) (by trivial) (by decide) (by decide)) (@pa_c _ _ _ _ _ (@pe_bl _ _ _ _) (@pa_nil _) (by rfl)) (by rfl) (by rfl) (by rfl) (by rfl) (by rfl)) (fun _ _=>rfl)) (by rfl) (by trivial)) (@pss_cons _ _ _ _ _ (@ps_if _ _ _ _ _ _ _ _ (@pt_cmpRN _ _ _ _ _ _ _ _ (op_qEq hr.units) (@pvN _ 2 _ _ (by rfl) (by trivial) (by decide) (by decide)) (@pe_str _ _ _ _) (nomark _)) (@pss_one _ _ _ (@ps_ret _ _ _ _ (@pe_qTup _ _ _ _ _ (@pa_c _ _ _ _ _ (@pvN _ 2 _ _ (by rfl) (by trivial) (by decide) (by decide)) (@pa_c _ _ _ _ _ (@pe_xfld' _ (K) rfl _ _ _ _ (@pvN _ 0 _ _ (by rfl) (by trivial) (by decide) (by decide)) rfl) (@pa_nil _) (by rfl)) (by rfl))))) (@pss_nil _)) (@pss_one _ _ _ (@ps_ret _ _ _ _ (@pe_qTup _ _ _ _ _ (@pa_c _ _ _ _ _ (@pvN _ 2 _ _ (by rfl) (by trivial) (by decide) (by decide)) (@pa_c _ _ _ _ _ (@pe_int _ _ _ _) (@pa_nil _) (by rfl)) (by rfl)))))))))),?_⟩
  rw [show start ["_law_e", "_law_some", "_law_word_here"] [.ref e]=[some (.ref e),none,none] from rfl]
  have sn:∀ x:Str,x = "cells" ∨ x = "view" ∨ x = "count" ∨ x = "pair" → ¬ (x=Str.ofString "many"):=fun x hx=>by
   rcases hx with rfl|rfl|rfl|rfl<;>decide +kernel
  have sn1:=sn "cells" (.inl rfl)
  have sn2:=sn "view" (.inr (.inl rfl))
  have sn3:=sn "count" (.inr (.inr (.inl rfl)))
  have sn4:=sn "pair" (.inr (.inr (.inr rfl)))
  clear sn
  rcases hc with ⟨hcl,hdc,k⟩|⟨hcl,hdc,k⟩|⟨hcl,hdc,k⟩|⟨hcl,hdc,k⟩|⟨dx,n,hcl,hdc,hdx,k⟩
  ·replace k:=fun (_:Unit)=>k
   simp! only [T.e_NoCells,T.k_NoCells_NoCells,T.k_NoCells_TooMany,T.k_NoCells_NoView,T.k_NoCells_NoCount,T.k_NoCells_NoPair,T.k_NoCells_ValueError]
   intro l3 H3 hl3 e3 h3
   have g5:=e3.at he
   clear he
   simp! only [T.e_NoCells,T.k_NoCells_NoCells,T.k_NoCells_TooMany,T.k_NoCells_NoView,T.k_NoCells_NoCount,T.k_NoCells_NoPair,T.k_NoCells_ValueError]
   obtain ⟨bs,b1,b2,b3,h3'⟩:∃ bs:List Bool,bs.count true=1∧true∈bs∧bs.idxOf true=0∧upd H3 l3 (.lst [.bl true,.bl false,.bl false,.bl false,.bl false]) l3=some (.lst (bs.map V.bl)):=⟨[true,false,false,false,false],by decide,by decide,by decide,upd_same⟩
   have ne:e ≠ l3:=fun z=>by rw [z,h3] at g5;cases g5
   have g5':upd H3 l3 (.lst [.bl true,.bl false,.bl false,.bl false,.bl false]) e=some (excO oe):=by rw [upd_ne ne];exact g5
   have e4:Ext H (upd H3 l3 (.lst [.bl true,.bl false,.bl false,.bl false,.bl false])):=e3.put hl3
   generalize upd H3 l3 (.lst [.bl true,.bl false,.bl false,.bl false,.bl false])=H4 at *
   clear h3 g5 e3
   change kBls _ (List.map V.bl [true,false,false,false,false])
   rw [m_kBls,m_kCntB,show List.count true [true,false,false,false,false]=1 by decide]
   simp! only [T.e_NoCells,T.k_NoCells_NoCells,T.k_NoCells_TooMany,T.k_NoCells_NoView,T.k_NoCells_NoCount,T.k_NoCells_NoPair,T.k_NoCells_ValueError]
   intro l5 H5 _ e5 h5
   have h3_5:=e5.at h3'
   clear h3'
   simp! only [T.e_NoCells,T.k_NoCells_NoCells,T.k_NoCells_TooMany,T.k_NoCells_NoView,T.k_NoCells_NoCount,T.k_NoCells_NoPair,T.k_NoCells_ValueError]
   intro r6 H6 _ e6 h6
   exact k () r6 H6 (e4.trans (e5.trans e6)) h6
  ·replace k:=fun (_:Unit)=>k
   simp! only [T.e_NoView,T.k_NoView_NoCells,T.k_NoView_TooMany,T.k_NoView_NoView,T.k_NoView_NoCount,T.k_NoView_NoPair,T.k_NoView_ValueError]
   intro l3 H3 hl3 e3 h3
   have g5:=e3.at he
   clear he
   simp! only [T.e_NoView,T.k_NoView_NoCells,T.k_NoView_TooMany,T.k_NoView_NoView,T.k_NoView_NoCount,T.k_NoView_NoPair,T.k_NoView_ValueError]
   obtain ⟨bs,b1,b2,b3,h3'⟩:∃ bs:List Bool,bs.count true=1∧true∈bs∧bs.idxOf true=2∧upd H3 l3 (.lst [.bl false,.bl false,.bl true,.bl false,.bl false]) l3=some (.lst (bs.map V.bl)):=⟨[false,false,true,false,false],by decide,by decide,by decide,upd_same⟩
   have ne:e ≠ l3:=fun z=>by rw [z,h3] at g5;cases g5
   have g5':upd H3 l3 (.lst [.bl false,.bl false,.bl true,.bl false,.bl false]) e=some (excO oe):=by rw [upd_ne ne];exact g5
   have e4:Ext H (upd H3 l3 (.lst [.bl false,.bl false,.bl true,.bl false,.bl false])):=e3.put hl3
   generalize upd H3 l3 (.lst [.bl false,.bl false,.bl true,.bl false,.bl false])=H4 at *
   clear h3 g5 e3
   change kBls _ (List.map V.bl [false,false,true,false,false])
   rw [m_kBls,m_kCntB,show List.count true [false,false,true,false,false]=1 by decide]
   simp! only [T.e_NoView,T.k_NoView_NoCells,T.k_NoView_TooMany,T.k_NoView_NoView,T.k_NoView_NoCount,T.k_NoView_NoPair,T.k_NoView_ValueError]
   intro l5 H5 _ e5 h5
   have h3_5:=e5.at h3'
   clear h3'
   simp! only [T.e_NoView,T.k_NoView_NoCells,T.k_NoView_TooMany,T.k_NoView_NoView,T.k_NoView_NoCount,T.k_NoView_NoPair,T.k_NoView_ValueError]
   intro r6 H6 _ e6 h6
   exact k () r6 H6 (e4.trans (e5.trans e6)) h6
  ·replace k:=fun (_:Unit)=>k
   simp! only [T.e_NoCount,T.k_NoCount_NoCells,T.k_NoCount_TooMany,T.k_NoCount_NoView,T.k_NoCount_NoCount,T.k_NoCount_NoPair,T.k_NoCount_ValueError]
   intro l3 H3 hl3 e3 h3
   have g5:=e3.at he
   clear he
   simp! only [T.e_NoCount,T.k_NoCount_NoCells,T.k_NoCount_TooMany,T.k_NoCount_NoView,T.k_NoCount_NoCount,T.k_NoCount_NoPair,T.k_NoCount_ValueError]
   obtain ⟨bs,b1,b2,b3,h3'⟩:∃ bs:List Bool,bs.count true=1∧true∈bs∧bs.idxOf true=3∧upd H3 l3 (.lst [.bl false,.bl false,.bl false,.bl true,.bl false]) l3=some (.lst (bs.map V.bl)):=⟨[false,false,false,true,false],by decide,by decide,by decide,upd_same⟩
   have ne:e ≠ l3:=fun z=>by rw [z,h3] at g5;cases g5
   have g5':upd H3 l3 (.lst [.bl false,.bl false,.bl false,.bl true,.bl false]) e=some (excO oe):=by rw [upd_ne ne];exact g5
   have e4:Ext H (upd H3 l3 (.lst [.bl false,.bl false,.bl false,.bl true,.bl false])):=e3.put hl3
   generalize upd H3 l3 (.lst [.bl false,.bl false,.bl false,.bl true,.bl false])=H4 at *
   clear h3 g5 e3
   change kBls _ (List.map V.bl [false,false,false,true,false])
   rw [m_kBls,m_kCntB,show List.count true [false,false,false,true,false]=1 by decide]
   simp! only [T.e_NoCount,T.k_NoCount_NoCells,T.k_NoCount_TooMany,T.k_NoCount_NoView,T.k_NoCount_NoCount,T.k_NoCount_NoPair,T.k_NoCount_ValueError]
   intro l5 H5 _ e5 h5
   have h3_5:=e5.at h3'
   clear h3'
   simp! only [T.e_NoCount,T.k_NoCount_NoCells,T.k_NoCount_TooMany,T.k_NoCount_NoView,T.k_NoCount_NoCount,T.k_NoCount_NoPair,T.k_NoCount_ValueError]
   intro r6 H6 _ e6 h6
   exact k () r6 H6 (e4.trans (e5.trans e6)) h6
  ·replace k:=fun (_:Unit)=>k
   simp! only [T.e_NoPair,T.k_NoPair_NoCells,T.k_NoPair_TooMany,T.k_NoPair_NoView,T.k_NoPair_NoCount,T.k_NoPair_NoPair,T.k_NoPair_ValueError]
   intro l3 H3 hl3 e3 h3
   have g5:=e3.at he
   clear he
   simp! only [T.e_NoPair,T.k_NoPair_NoCells,T.k_NoPair_TooMany,T.k_NoPair_NoView,T.k_NoPair_NoCount,T.k_NoPair_NoPair,T.k_NoPair_ValueError]
   obtain ⟨bs,b1,b2,b3,h3'⟩:∃ bs:List Bool,bs.count true=1∧true∈bs∧bs.idxOf true=4∧upd H3 l3 (.lst [.bl false,.bl false,.bl false,.bl false,.bl true]) l3=some (.lst (bs.map V.bl)):=⟨[false,false,false,false,true],by decide,by decide,by decide,upd_same⟩
   have ne:e ≠ l3:=fun z=>by rw [z,h3] at g5;cases g5
   have g5':upd H3 l3 (.lst [.bl false,.bl false,.bl false,.bl false,.bl true]) e=some (excO oe):=by rw [upd_ne ne];exact g5
   have e4:Ext H (upd H3 l3 (.lst [.bl false,.bl false,.bl false,.bl false,.bl true])):=e3.put hl3
   generalize upd H3 l3 (.lst [.bl false,.bl false,.bl false,.bl false,.bl true])=H4 at *
   clear h3 g5 e3
   change kBls _ (List.map V.bl [false,false,false,false,true])
   rw [m_kBls,m_kCntB,show List.count true [false,false,false,false,true]=1 by decide]
   simp! only [T.e_NoPair,T.k_NoPair_NoCells,T.k_NoPair_TooMany,T.k_NoPair_NoView,T.k_NoPair_NoCount,T.k_NoPair_NoPair,T.k_NoPair_ValueError]
   intro l5 H5 _ e5 h5
   have h3_5:=e5.at h3'
   clear h3'
   simp! only [T.e_NoPair,T.k_NoPair_NoCells,T.k_NoPair_TooMany,T.k_NoPair_NoView,T.k_NoPair_NoCount,T.k_NoPair_NoPair,T.k_NoPair_ValueError]
   intro r6 H6 _ e6 h6
   exact k () r6 H6 (e4.trans (e5.trans e6)) h6
  ·replace k:=fun (_:Unit)=>k
   simp! only [T.e_TooMany,T.k_TooMany_NoCells,T.k_TooMany_TooMany,T.k_TooMany_NoView,T.k_TooMany_NoCount,T.k_TooMany_NoPair,T.k_TooMany_ValueError]
   intro l3 H3 hl3 e3 h3
   have g5:=e3.at he
   have g6:=e3.at hdx
   clear he hdx
   simp! only [T.e_TooMany,T.k_TooMany_NoCells,T.k_TooMany_TooMany,T.k_TooMany_NoView,T.k_TooMany_NoCount,T.k_TooMany_NoPair,T.k_TooMany_ValueError]
   obtain ⟨bs,b1,b2,b3,h3'⟩:∃ bs:List Bool,bs.count true=1∧true∈bs∧bs.idxOf true=1∧upd H3 l3 (.lst [.bl false,.bl true,.bl false,.bl false,.bl false]) l3=some (.lst (bs.map V.bl)):=⟨[false,true,false,false,false],by decide,by decide,by decide,upd_same⟩
   have ne:e ≠ l3:=fun z=>by rw [z,h3] at g5;cases g5
   have g5':upd H3 l3 (.lst [.bl false,.bl true,.bl false,.bl false,.bl false]) e=some (excO oe):=by rw [upd_ne ne];exact g5
   have ne2:dx ≠ l3:=fun z=>by rw [z,h3] at g6;cases g6
   have g6':upd H3 l3 (.lst [.bl false,.bl true,.bl false,.bl false,.bl false]) dx=some (.xd [("number",.int n)]):=by rw [upd_ne ne2];exact g6
   have e4:Ext H (upd H3 l3 (.lst [.bl false,.bl true,.bl false,.bl false,.bl false])):=e3.put hl3
   generalize upd H3 l3 (.lst [.bl false,.bl true,.bl false,.bl false,.bl false])=H4 at *
   clear h3 g5 g6 e3
   change kBls _ (List.map V.bl [false,true,false,false,false])
   rw [m_kBls,m_kCntB,show List.count true [false,true,false,false,false]=1 by decide]
   simp! only [T.e_TooMany,T.k_TooMany_NoCells,T.k_TooMany_TooMany,T.k_TooMany_NoView,T.k_TooMany_NoCount,T.k_TooMany_NoPair,T.k_TooMany_ValueError]
   intro l5 H5 _ e5 h5
   have h3_5:=e5.at h3'
   have g5_5:=e5.at g5'
   have g6_5:=e5.at g6'
   clear h3'
   simp! only [T.e_TooMany,T.k_TooMany_NoCells,T.k_TooMany_TooMany,T.k_TooMany_NoView,T.k_TooMany_NoCount,T.k_TooMany_NoPair,T.k_TooMany_ValueError]
   refine ⟨e,oe,t.a_TooMany,dx,[("number",.int n)],.int n,rfl,g5_5,hcl,hdc,hdat,g6_5,T.e_TooMany,T.na_TooMany_number,rfl,?_⟩
   simp! only [and_true]
   intro r6 H6 _ e6 h6
   exact k () r6 H6 (e4.trans (e5.trans e6)) h6
def DonC (t:Adr) (H:Hp) (i:Nat) (st one two vs:V) (wd:Str) (num:Int):Prop:=
 ((i=0∨i=2)∧∃ sa l vals u r n,st=.ref sa∧one=.ref u∧StoreAt t.a_Store H sa l vals∧VwN t.a_View H u r n∧((r ≠ (vals.length:Int)∧wd = "view" ∧ num=0)∨(r=(vals.length:Int)∧4096 < n∧wd = "many" ∧ num=n))) ∨
 (i=1∧∃ sa l vals u r n p xs,st=.ref sa∧one=.ref u∧vs=.ref p∧StoreAt t.a_Store H sa l vals∧VwN t.a_View H u r n∧H p=some (.lst xs)∧((r ≠ (vals.length:Int)∧wd = "view" ∧ num=0)∨(r=(vals.length:Int)∧n ≠ (xs.length:Int)∧wd = "count" ∧ num=0)∨(r=(vals.length:Int)∧n=(xs.length:Int)∧4096 < n∧wd = "many" ∧ num=n))) ∨
 (i=3∧∃ sa l vals u r n v r2 n2,st=.ref sa∧one=.ref u∧two=.ref v∧StoreAt t.a_Store H sa l vals∧VwN t.a_View H u r n∧VwN t.a_View H v r2 n2∧(((r ≠ (vals.length:Int)∨r2 ≠ (vals.length:Int))∧wd = "view" ∧ num=0)∨(r=(vals.length:Int)∧r2=(vals.length:Int)∧n ≠ n2∧wd = "count" ∧ num=0)∨(r=(vals.length:Int)∧r2=(vals.length:Int)∧n=n2∧4096 < n2∧wd = "many" ∧ num=n2))) ∨
 (i=4∧∃ u r n v r2 n2,one=.ref u∧two=.ref v∧VwN t.a_View H u r n∧VwN t.a_View H v r2 n2∧((r ≠ r2∧wd = "pair" ∧ num=0)∨(r=r2∧n ≠ n2∧wd = "count" ∧ num=0)∨(r=r2∧n=n2∧4096 < n∧wd = "many" ∧ num=n))) ∨
 (i=5∧∃ p xs,vs=.ref p∧H p=some (.lst xs)∧((xs=[]∧wd = "cells" ∧ num=0)∨(4096 < xs.length∧wd = "many" ∧ num=(xs.length:Int))))
abbrev B_spDone (t:Adr) (w:Int) (st:V) (one:V) (two:V) (wv:V) (H:Hp) (Q:VK) (E:XK):Prop:=∃ (i:Nat) (wd:Str) (num:Int),w=(i:Int)∧DonC t H i st one two wv wd num∧∀ (x:Addr) (H':Hp),Ext H H'->H' x=some (.tup [.str wd,.int num])->Q (.ref x) H'
def spDone (t:Adr):Sp:=fun vs H Q E=>∃ (w:Int) (st:V) (one:V) (two:V) (wv:V),vs=[.int w,st,one,two,wv]∧(B_spDone t w st one two wv H Q E)
theorem c_spDone (t:Adr) (w:Int) (st:V) (one:V) (two:V) (wv:V) (H:Hp) (Q:VK) (E:XK):spDone t [.int w,st,one,two,wv] H Q E=(B_spDone t w st one two wv H Q E):=spx5 (f:=fun (w:Int) (st:V) (one:V) (two:V) (wv:V)=>[.int w,st,one,two,wv]) (fun _ _ _ _ _ _ _ _ _ _ h=>by cases h;exact ⟨rfl,rfl,rfl,rfl,rfl⟩) w st one two wv
theorem l_spDone (t:Adr){vs:List V}{H:Hp}{Q:VK}{E:XK}(h:spDone t vs H Q E):vs.length=5:=spl5 h fun _ _ _ _ _=>rfl
theorem ok__law_done (T:Tx K mg t):FnOk P w K mg base CX0 8 t.a__law_done t.d__law_done ["_law_way", "_law_store", "_law_one", "_law_other", "_law_values"] (spDone t):=by
 have G_Store_read:=okB_Store_read (P:=P) (w:=w) (base:=base) T
 have G_Store_put:=okB_Store_put (P:=P) (w:=w) (base:=base) T
 have G_Store_fill:=okB_Store_fill (P:=P) (w:=w) (base:=base) T
 have G_Store_copied:=okB_Store_copied (P:=P) (w:=w) (base:=base) T
 have G_sources:=okB_sources (P:=P) (w:=w) (base:=base) T
 have G_Store___init__:=okB_Store___init__ (P:=P) (w:=w) (base:=base) T
 have GH__law_word:=okH__law_word (P:=P) (w:=w) (base:=base) T
 refine T.F__law_done.ok c__law_done (fun vs H Q E h=>l_spDone _ h) (fun cdv A' outer s H vs Q E hr h=>?_)
 ·obtain ⟨_,st,one,two,vs,rfl,i,wd,num,rfl,hc,k⟩:=h
  have hx1:=T.x_NoPair_PaceError
  have hx2:=T.x_NoCount_PaceError
  have hx3:=T.x_NoView_PaceError
  have hx4:=T.x_TooMany_PaceError
  have hx5:=T.x_NoCells_PaceError
  have c1:=T.cl_Store
  refine ⟨_,(@pss_cons _ _ _ _ _ (@ps_try _ _ _ _ _ _ _ ⟨rfl,rfl,rfl⟩ (fun EX E pn hx=>(@pss_one _ _ _ (@ps_if _ _ _ _ _ _ _ _ (@pt_cmpRN _ _ _ _ _ _ _ _ (op_qEq hr.units) (@pvN _ 0 _ _ (by rfl) (by trivial) (by decide) (by decide)) (@pe_int _ _ _ _) (nomark _)) (@pss_one _ _ _ (@ps_expr _ _ _ _ (@pe_nMethX _ _ _ _ _ _ _ _ _ _ _ _ _ _ _ _ _ _ _ _ (@pvN _ 1 _ _ (by rfl) (by trivial) (by decide) (by decide)) T.cl_Store T.mt_Store_read G_Store_read (hr.mono (by decide)) T.b_Store_read .nil hx (@pa_c _ _ _ _ _ (@pvN _ 2 _ _ (by rfl) (by trivial) (by decide) (by decide)) (@pa_nil _) (by rfl)) (by rfl) (by rfl) (by rfl)) (by rfl))) (@pss_one _ _ _ (@ps_if _ _ _ _ _ _ _ _ (@pt_cmpRN _ _ _ _ _ _ _ _ (op_qEq hr.units) (@pvN _ 0 _ _ (by rfl) (by trivial) (by decide) (by decide)) (@pe_int _ _ _ _) (nomark _)) (@pss_one _ _ _ (@ps_expr _ _ _ _ (@pe_nMethX _ _ _ _ _ _ _ _ _ _ _ _ _ _ _ _ _ _ _ _ (@pvN _ 1 _ _ (by rfl) (by trivial) (by decide) (by decide)) T.cl_Store T.mt_Store_put G_Store_put (hr.mono (by decide)) T.b_Store_put .nil hx (@pa_c _ _ _ _ _ (@pvN _ 2 _ _ (by rfl) (by trivial) (by decide) (by decide)) (@pa_c _ _ _ _ _ (@pvN _ 4 _ _ (by rfl) (by trivial) (by decide) (by decide)) (@pa_nil _) (by rfl)) (by rfl)) (by rfl) (by rfl) (by rfl)) (by rfl))) (@pss_one _ _ _ (@ps_if _ _ _ _ _ _ _ _ (@pt_cmpRN _ _ _ _ _ _ _ _ (op_qEq hr.units) (@pvN _ 0 _ _ (by rfl) (by trivial) (by decide) (by decide)) (@pe_int _ _ _ _) (nomark _)) (@pss_one _ _ _ (@ps_expr _ _ _ _ (@pe_nMethX _ _ _ _ _ _ _ _ _ _ _ _ _ _ _ _ _ _ _ _ (@pvN _ 1 _ _ (by rfl) (by trivial) (by decide) (by decide)) T.cl_Store T.mt_Store_fill G_Store_fill (hr.mono (by decide)) T.b_Store_fill .nil hx (@pa_c _ _ _ _ _ (@pvN _ 2 _ _ (by rfl) (by trivial) (by decide) (by decide)) (@pa_c _ _ _ _ _ (@pe_int _ _ _ _) (@pa_nil _) (by rfl)) (by rfl)) (by rfl) (by rfl) (by rfl)) (by rfl))) (@pss_one _ _ _ (@ps_if _ _ _ _ _ _ _ _ (@pt_cmpRN _ _ _ _ _ _ _ _ (op_qEq hr.units) (@pvN _ 0 _ _ (by rfl) (by trivial) (by decide) (by decide)) (@pe_int _ _ _ _) (nomark _)) (@pss_one _ _ _ (@ps_expr _ _ _ _ (@pe_nMethX _ _ _ _ _ _ _ _ _ _ _ _ _ _ _ _ _ _ _ _ (@pvN _ 1 _ _ (by rfl) (by trivial) (by decide) (by decide)) T.cl_Store T.mt_Store_copied G_Store_copied (hr.mono (by decide)) T.b_Store_copied .nil hx (@pa_c _ _ _ _ _ (@pvN _ 2 _ _ (by rfl) (by trivial) (by decide) (by decide)) (@pa_c _ _ _ _ _ (@pvN _ 3 _ _ (by rfl) (by trivial) (by decide) (by decide)) (@pa_nil _) (by rfl)) (by rfl)) (by rfl) (by rfl) (by rfl)) (by rfl))) (@pss_one _ _ _ (@ps_if _ _ _ _ _ _ _ _ (@pt_cmpRN _ _ _ _ _ _ _ _ (op_qEq hr.units) (@pvN _ 0 _ _ (by rfl) (by trivial) (by decide) (by decide)) (@pe_int _ _ _ _) (nomark _)) (@pss_one _ _ _ (@ps_expr _ _ _ _ (@pe_callX _ _ _ _ _ _ _ _ _ _ _ _ _ _ _ _ G_sources (hr.mono (by decide)) (by rfl) T.m_sources T.F_sources.kp T.b_sources .nil hx (@pa_c _ _ _ _ _ (@pvN _ 2 _ _ (by rfl) (by trivial) (by decide) (by decide)) (@pa_c _ _ _ _ _ (@pvN _ 3 _ _ (by rfl) (by trivial) (by decide) (by decide)) (@pa_nil _) (by rfl)) (by rfl)) (by decide) (by rfl) (by rfl)) (by rfl))) (@pss_one _ _ _ (@ps_expr _ _ _ _ (@pe_nMakeX _ _ _ _ _ _ _ _ _ _ _ _ _ _ _ _ _ T.mk_Store G_Store___init__ (hr.mono (by decide)) (by rfl) T.m_Store T.b_Store___init__ .nil hx (@pa_c _ _ _ _ _ (@pvN _ 4 _ _ (by rfl) (by trivial) (by decide) (by decide)) (@pa_nil _) (by rfl)) (by decide) (by rfl) (by rfl)) (by rfl)))))))))))))) (@phs_asH _ _ _ (5) _ _ _ _ _ _ _ _ c__law_done.nd rfl rfl (by rfl) (.inl T.m_PaceError) (fun ee=>(@pss_one _ _ _ (@ps_ret _ _ _ _ (@pe_callH _ _ _ _ _ _ _ _ _ _ _ _ _ _ _ _ _ GH__law_word (hr.mono (by decide)) (by rfl) T.m__law_word T.F__law_word.kp T.b__law_word .nil pass0 (@pa_c _ _ _ _ _ (@pvN _ 5 _ _ (by rfl) (by trivial) (by decide) (by decide)) (@pa_nil _) (by rfl)) (by decide) (by rfl) (by rfl))))) (@phs_nil _) (by decide))) (@pss_one _ _ _ (@ps_ret _ _ _ _ (@pe_qTup _ _ _ _ _ (@pa_c _ _ _ _ _ (@pe_str _ _ _ _) (@pa_c _ _ _ _ _ (@pe_int _ _ _ _) (@pa_nil _) (by rfl)) (by rfl)))))),?_⟩
  rw [show start ["_law_way", "_law_store", "_law_one", "_law_other", "_law_values", "_law_e"] [.int (i:Int),st,one,two,vs]=[some (.int (i:Int)),some (st),some (one),some (two),some (vs),none] from rfl]
  clear G_Store_read G_Store_put G_Store_fill G_Store_copied G_sources G_Store___init__ GH__law_word
  replace k:=fun (_:Unit)=>k
  rcases hc with ⟨hi,sa,l,vals,u,r,n,rfl,rfl,so,vv,hd⟩|⟨rfl,sa,l,vals,u,r,n,p,xs,rfl,rfl,rfl,so,vv,hp,hd⟩|⟨rfl,sa,l,vals,u,r,n,v,r2,n2,rfl,rfl,rfl,so,vv,vu,hd⟩|⟨rfl,u,r,n,v,r2,n2,rfl,rfl,vv,vu,hd⟩|⟨rfl,p,xs,rfl,hp,hd⟩
  ·rcases hi with rfl|rfl
   ·obtain ⟨ds,hst⟩:=so.ob
    have m1:=storeF_no l (m := "read") (by decide +kernel)
    simp! only [and_true]
    rw [c_spReadB]
    refine ⟨l,vals,r,n,so,vv,hd.elim (fun h=>.inl h.1) (fun h=>.inr h.2.1),fun hq H2 e2=>?_,fun hq dxe H2 e2 hdx=>?_⟩
    ·obtain ⟨_,rfl,rfl⟩|⟨h,_⟩:=hd
     ·have kf:=k
      clear k hst hq
      simp! only [and_true]
      intro e oe he' hcl hdc hnc
      have g4:(upd H2 e (excO oe)) e=some (excO oe):=upd_same
      have e3:Ext H (upd H2 e (excO oe)):=e2.trans (Ext.new he')
      generalize upd H2 e (excO oe)=H3 at e3 g4
      clear he'
      simp! only [and_true]
      refine use_callH g4 hnc ?_
      show spWord t [.ref e] H3 _ _
      rw [c_spWord]
      refine ⟨oe,g4,(let ⟨vs,a,_⟩:=hnc;⟨vs,a⟩),.inr (.inl ⟨hcl,hdc,fun x H4 e4 h4=>?_⟩)⟩
      have k2:=kf () x H4 (e3.trans e4) h4
      clear kf
      simp! only [and_true]
     ·exact absurd h hq
    ·obtain ⟨h,_⟩|⟨_,_,rfl,rfl⟩:=hd
     ·exact absurd hq h
     ·have kf:=k
      clear k hst hq
      simp! only [and_true]
      intro e oe he' hcl hdc hnc
      have hne:dxe ≠ e:=ne_of_none hdx he'
      have g3:=(show upd H2 e (excO oe) dxe=H2 dxe from upd_ne hne).trans hdx
      have g4:(upd H2 e (excO oe)) e=some (excO oe):=upd_same
      have e3:Ext H (upd H2 e (excO oe)):=e2.trans (Ext.new he')
      generalize upd H2 e (excO oe)=H3 at e3 g4 g3
      clear he' hdx hne
      simp! only [and_true]
      refine use_callH g4 hnc ?_
      show spWord t [.ref e] H3 _ _
      rw [c_spWord]
      refine ⟨oe,g4,(let ⟨vs,a,_⟩:=hnc;⟨vs,a⟩),.inr (.inr (.inr (.inr ⟨dxe,_,hcl,hdc,g3,fun x H4 e4 h4=>?_⟩)))⟩
      have k2:=kf () x H4 (e3.trans e4) h4
      clear kf
      simp! only [and_true]
   ·obtain ⟨ds,hst⟩:=so.ob
    have m1:=storeF_no l (m := "fill") (by decide +kernel)
    simp! only [and_true]
    rw [c_spFillB]
    refine ⟨l,vals,r,n,so,vv,hd.elim (fun h=>.inl h.1) (fun h=>.inr h.2.1),fun hq H2 e2=>?_,fun hq dxe H2 e2 hdx=>?_⟩
    ·obtain ⟨_,rfl,rfl⟩|⟨h,_⟩:=hd
     ·have kf:=k
      clear k hst hq
      simp! only [and_true]
      intro e oe he' hcl hdc hnc
      have g4:(upd H2 e (excO oe)) e=some (excO oe):=upd_same
      have e3:Ext H (upd H2 e (excO oe)):=e2.trans (Ext.new he')
      generalize upd H2 e (excO oe)=H3 at e3 g4
      clear he'
      simp! only [and_true]
      refine use_callH g4 hnc ?_
      show spWord t [.ref e] H3 _ _
      rw [c_spWord]
      refine ⟨oe,g4,(let ⟨vs,a,_⟩:=hnc;⟨vs,a⟩),.inr (.inl ⟨hcl,hdc,fun x H4 e4 h4=>?_⟩)⟩
      have k2:=kf () x H4 (e3.trans e4) h4
      clear kf
      simp! only [and_true]
     ·exact absurd h hq
    ·obtain ⟨h,_⟩|⟨_,_,rfl,rfl⟩:=hd
     ·exact absurd hq h
     ·have kf:=k
      clear k hst hq
      simp! only [and_true]
      intro e oe he' hcl hdc hnc
      have hne:dxe ≠ e:=ne_of_none hdx he'
      have g3:=(show upd H2 e (excO oe) dxe=H2 dxe from upd_ne hne).trans hdx
      have g4:(upd H2 e (excO oe)) e=some (excO oe):=upd_same
      have e3:Ext H (upd H2 e (excO oe)):=e2.trans (Ext.new he')
      generalize upd H2 e (excO oe)=H3 at e3 g4 g3
      clear he' hdx hne
      simp! only [and_true]
      refine use_callH g4 hnc ?_
      show spWord t [.ref e] H3 _ _
      rw [c_spWord]
      refine ⟨oe,g4,(let ⟨vs,a,_⟩:=hnc;⟨vs,a⟩),.inr (.inr (.inr (.inr ⟨dxe,_,hcl,hdc,g3,fun x H4 e4 h4=>?_⟩)))⟩
      have k2:=kf () x H4 (e3.trans e4) h4
      clear kf
      simp! only [and_true]
  ·obtain ⟨ds,hst⟩:=so.ob
   have m1:=storeF_no l (m := "put") (by decide +kernel)
   simp! only [and_true]
   rw [c_spPutB]
   refine ⟨l,vals,r,n,xs,so,vv,hp,(hd.elim (fun h=>.inl h.1) fun h=>h.elim (fun h=>.inr (.inl h.2.1)) fun h=>.inr (.inr h.2.2.1)),fun hq H2 e2=>?_,fun hq hc H2 e2=>?_,fun hq hc dxe H2 e2 hdx=>?_⟩
   ·obtain ⟨_,rfl,rfl⟩|⟨h,_⟩|⟨h,_⟩:=hd
    ·have kf:=k
     clear k hst hq hp
     simp! only [and_true]
     intro e oe he' hcl hdc hnc
     have g4:(upd H2 e (excO oe)) e=some (excO oe):=upd_same
     have e3:Ext H (upd H2 e (excO oe)):=e2.trans (Ext.new he')
     generalize upd H2 e (excO oe)=H3 at e3 g4
     clear he'
     simp! only [and_true]
     refine use_callH g4 hnc ?_
     show spWord t [.ref e] H3 _ _
     rw [c_spWord]
     refine ⟨oe,g4,(let ⟨vs,a,_⟩:=hnc;⟨vs,a⟩),.inr (.inl ⟨hcl,hdc,fun x H4 e4 h4=>?_⟩)⟩
     have k2:=kf () x H4 (e3.trans e4) h4
     clear kf
     simp! only [and_true]
    ·exact absurd h hq
    ·exact absurd h hq
   ·obtain ⟨h,_⟩|⟨_,_,rfl,rfl⟩|⟨_,h,_⟩:=hd
    ·exact absurd hq h
    ·have kf:=k
     clear k hst hq hp hc
     simp! only [and_true]
     intro e oe he' hcl hdc hnc
     have g4:(upd H2 e (excO oe)) e=some (excO oe):=upd_same
     have e3:Ext H (upd H2 e (excO oe)):=e2.trans (Ext.new he')
     generalize upd H2 e (excO oe)=H3 at e3 g4
     clear he'
     simp! only [and_true]
     refine use_callH g4 hnc ?_
     show spWord t [.ref e] H3 _ _
     rw [c_spWord]
     refine ⟨oe,g4,(let ⟨vs,a,_⟩:=hnc;⟨vs,a⟩),.inr (.inr (.inl ⟨hcl,hdc,fun x H4 e4 h4=>?_⟩))⟩
     have k2:=kf () x H4 (e3.trans e4) h4
     clear kf
     simp! only [and_true]
    ·exact absurd h hc
   ·obtain ⟨h,_⟩|⟨_,h,_⟩|⟨_,_,_,rfl,rfl⟩:=hd
    ·exact absurd hq h
    ·exact absurd hc h
    ·have kf:=k
     clear k hst hq hp hc
     simp! only [and_true]
     intro e oe he' hcl hdc hnc
     have hne:dxe ≠ e:=ne_of_none hdx he'
     have g3:=(show upd H2 e (excO oe) dxe=H2 dxe from upd_ne hne).trans hdx
     have g4:(upd H2 e (excO oe)) e=some (excO oe):=upd_same
     have e3:Ext H (upd H2 e (excO oe)):=e2.trans (Ext.new he')
     generalize upd H2 e (excO oe)=H3 at e3 g4 g3
     clear he' hdx hne
     simp! only [and_true]
     refine use_callH g4 hnc ?_
     show spWord t [.ref e] H3 _ _
     rw [c_spWord]
     refine ⟨oe,g4,(let ⟨vs,a,_⟩:=hnc;⟨vs,a⟩),.inr (.inr (.inr (.inr ⟨dxe,_,hcl,hdc,g3,fun x H4 e4 h4=>?_⟩)))⟩
     have k2:=kf () x H4 (e3.trans e4) h4
     clear kf
     simp! only [and_true]
  ·obtain ⟨ds,hst⟩:=so.ob
   have m1:=storeF_no l (m := "copied") (by decide +kernel)
   simp! only [and_true]
   rw [c_spCopiedB]
   refine ⟨l,vals,r,n,r2,n2,so,vv,vu,(hd.elim (fun h=>h.1.elim .inl fun h=>.inr (.inl h)) fun h=>h.elim (fun h=>.inr (.inr (.inl h.2.2.1))) fun h=>.inr (.inr (.inr h.2.2.2.1))),fun hq H2 e2=>?_,fun hq hq2 hc H2 e2=>?_,fun hq hq2 hc dxe H2 e2 hdx=>?_⟩
   ·obtain ⟨_,rfl,rfl⟩|⟨h,h2,_⟩|⟨h,h2,_⟩:=hd
    ·have kf:=k
     clear k hst hq
     simp! only [and_true]
     intro e oe he' hcl hdc hnc
     have g4:(upd H2 e (excO oe)) e=some (excO oe):=upd_same
     have e3:Ext H (upd H2 e (excO oe)):=e2.trans (Ext.new he')
     generalize upd H2 e (excO oe)=H3 at e3 g4
     clear he'
     simp! only [and_true]
     refine use_callH g4 hnc ?_
     show spWord t [.ref e] H3 _ _
     rw [c_spWord]
     refine ⟨oe,g4,(let ⟨vs,a,_⟩:=hnc;⟨vs,a⟩),.inr (.inl ⟨hcl,hdc,fun x H4 e4 h4=>?_⟩)⟩
     have k2:=kf () x H4 (e3.trans e4) h4
     clear kf
     simp! only [and_true]
    ·exact absurd hq (fun z=>z.elim (fun z=>z h) fun z=>z h2)
    ·exact absurd hq (fun z=>z.elim (fun z=>z h) fun z=>z h2)
   ·obtain ⟨h,_⟩|⟨_,_,_,rfl,rfl⟩|⟨_,_,h,_⟩:=hd
    ·exact absurd h (fun z=>z.elim (fun z=>z hq) fun z=>z hq2)
    ·have kf:=k
     clear k hst hq hq2 hc
     simp! only [and_true]
     intro e oe he' hcl hdc hnc
     have g4:(upd H2 e (excO oe)) e=some (excO oe):=upd_same
     have e3:Ext H (upd H2 e (excO oe)):=e2.trans (Ext.new he')
     generalize upd H2 e (excO oe)=H3 at e3 g4
     clear he'
     simp! only [and_true]
     refine use_callH g4 hnc ?_
     show spWord t [.ref e] H3 _ _
     rw [c_spWord]
     refine ⟨oe,g4,(let ⟨vs,a,_⟩:=hnc;⟨vs,a⟩),.inr (.inr (.inl ⟨hcl,hdc,fun x H4 e4 h4=>?_⟩))⟩
     have k2:=kf () x H4 (e3.trans e4) h4
     clear kf
     simp! only [and_true]
    ·exact absurd h hc
   ·obtain ⟨h,_⟩|⟨_,_,h,_⟩|⟨_,_,_,_,rfl,rfl⟩:=hd
    ·exact absurd h (fun z=>z.elim (fun z=>z hq) fun z=>z hq2)
    ·exact absurd hc h
    ·have kf:=k
     clear k hst hq hq2 hc
     simp! only [and_true]
     intro e oe he' hcl hdc hnc
     have hne:dxe ≠ e:=ne_of_none hdx he'
     have g3:=(show upd H2 e (excO oe) dxe=H2 dxe from upd_ne hne).trans hdx
     have g4:(upd H2 e (excO oe)) e=some (excO oe):=upd_same
     have e3:Ext H (upd H2 e (excO oe)):=e2.trans (Ext.new he')
     generalize upd H2 e (excO oe)=H3 at e3 g4 g3
     clear he' hdx hne
     simp! only [and_true]
     refine use_callH g4 hnc ?_
     show spWord t [.ref e] H3 _ _
     rw [c_spWord]
     refine ⟨oe,g4,(let ⟨vs,a,_⟩:=hnc;⟨vs,a⟩),.inr (.inr (.inr (.inr ⟨dxe,_,hcl,hdc,g3,fun x H4 e4 h4=>?_⟩)))⟩
     have k2:=kf () x H4 (e3.trans e4) h4
     clear kf
     simp! only [and_true]
  ·simp! only [and_true]
   rw [c_spSrcB]
   refine ⟨r,n,r2,n2,vv,vu,(hd.elim (fun h=>.inl h.1) fun h=>h.elim (fun h=>.inr (.inl h.2.1)) fun h=>.inr (.inr h.2.2.1)),fun hq H2 e2=>?_,fun hq hc H2 e2=>?_,fun hq hc dxe H2 e2 hdx=>?_⟩
   ·obtain ⟨_,rfl,rfl⟩|⟨h,_⟩|⟨h,_⟩:=hd
    ·have kf:=k
     clear k hq
     simp! only [and_true]
     intro e oe he' hcl hdc hnc
     have g4:(upd H2 e (excO oe)) e=some (excO oe):=upd_same
     have e3:Ext H (upd H2 e (excO oe)):=e2.trans (Ext.new he')
     generalize upd H2 e (excO oe)=H3 at e3 g4
     clear he'
     simp! only [and_true]
     refine use_callH g4 hnc ?_
     show spWord t [.ref e] H3 _ _
     rw [c_spWord]
     refine ⟨oe,g4,(let ⟨vs,a,_⟩:=hnc;⟨vs,a⟩),.inr (.inr (.inr (.inl ⟨hcl,hdc,fun x H4 e4 h4=>?_⟩)))⟩
     have k2:=kf () x H4 (e3.trans e4) h4
     clear kf
     simp! only [and_true]
    ·exact absurd h hq
    ·exact absurd h hq
   ·obtain ⟨h,_⟩|⟨_,_,rfl,rfl⟩|⟨_,h,_⟩:=hd
    ·exact absurd hq h
    ·have kf:=k
     clear k hq hc
     simp! only [and_true]
     intro e oe he' hcl hdc hnc
     have g4:(upd H2 e (excO oe)) e=some (excO oe):=upd_same
     have e3:Ext H (upd H2 e (excO oe)):=e2.trans (Ext.new he')
     generalize upd H2 e (excO oe)=H3 at e3 g4
     clear he'
     simp! only [and_true]
     refine use_callH g4 hnc ?_
     show spWord t [.ref e] H3 _ _
     rw [c_spWord]
     refine ⟨oe,g4,(let ⟨vs,a,_⟩:=hnc;⟨vs,a⟩),.inr (.inr (.inl ⟨hcl,hdc,fun x H4 e4 h4=>?_⟩))⟩
     have k2:=kf () x H4 (e3.trans e4) h4
     clear kf
     simp! only [and_true]
    ·exact absurd h hc
   ·obtain ⟨h,_⟩|⟨_,h,_⟩|⟨_,_,_,rfl,rfl⟩:=hd
    ·exact absurd hq h
    ·exact absurd hc h
    ·have kf:=k
     clear k hq hc
     simp! only [and_true]
     intro e oe he' hcl hdc hnc
     have hne:dxe ≠ e:=ne_of_none hdx he'
     have g3:=(show upd H2 e (excO oe) dxe=H2 dxe from upd_ne hne).trans hdx
     have g4:(upd H2 e (excO oe)) e=some (excO oe):=upd_same
     have e3:Ext H (upd H2 e (excO oe)):=e2.trans (Ext.new he')
     generalize upd H2 e (excO oe)=H3 at e3 g4 g3
     clear he' hdx hne
     simp! only [and_true]
     refine use_callH g4 hnc ?_
     show spWord t [.ref e] H3 _ _
     rw [c_spWord]
     refine ⟨oe,g4,(let ⟨vs,a,_⟩:=hnc;⟨vs,a⟩),.inr (.inr (.inr (.inr ⟨dxe,_,hcl,hdc,g3,fun x H4 e4 h4=>?_⟩)))⟩
     have k2:=kf () x H4 (e3.trans e4) h4
     clear kf
     simp! only [and_true]
  ·simp! only [and_true]
   intro x1 dx1 G1 hx1 hdx1 hne1 g1 k1 k1'
   rw [c_spSInitB]
   refine ⟨xs,g1.at hp,(hd.elim (fun h=>.inl h.1) fun h=>.inr h.1),fun hq H2 e2=>?_,fun hq dxe H2 e2 hdx=>?_⟩
   ·obtain ⟨_,rfl,rfl⟩|⟨h,_⟩:=hd
    ·have kf:=k
     have e02:=g1.trans e2
     clear k hq hp hx1 hdx1 hne1 k1 k1'
     simp! only [and_true]
     intro e oe he' hcl hdc hnc
     have g4:(upd H2 e (excO oe)) e=some (excO oe):=upd_same
     have e3:Ext H (upd H2 e (excO oe)):=e02.trans (Ext.new he')
     generalize upd H2 e (excO oe)=H3 at e3 g4
     clear he'
     simp! only [and_true]
     refine use_callH g4 hnc ?_
     show spWord t [.ref e] H3 _ _
     rw [c_spWord]
     refine ⟨oe,g4,(let ⟨vs,a,_⟩:=hnc;⟨vs,a⟩),.inl ⟨hcl,hdc,fun x H4 e4 h4=>?_⟩⟩
     have k2:=kf () x H4 (e3.trans e4) h4
     clear kf
     simp! only [and_true]
    ·rw [hq] at h;simp at h
   ·obtain ⟨h,_⟩|⟨_,rfl,rfl⟩:=hd
    ·exact absurd h hq
    ·have kf:=k
     have e02:=g1.trans e2
     clear k hq hp hx1 hdx1 hne1 k1 k1'
     simp! only [and_true]
     intro e oe he' hcl hdc hnc
     have hne:dxe ≠ e:=ne_of_none hdx he'
     have g3:=(show upd H2 e (excO oe) dxe=H2 dxe from upd_ne hne).trans hdx
     have g4:(upd H2 e (excO oe)) e=some (excO oe):=upd_same
     have e3:Ext H (upd H2 e (excO oe)):=e02.trans (Ext.new he')
     generalize upd H2 e (excO oe)=H3 at e3 g4 g3
     clear he' hdx hne
     simp! only [and_true]
     refine use_callH g4 hnc ?_
     show spWord t [.ref e] H3 _ _
     rw [c_spWord]
     refine ⟨oe,g4,(let ⟨vs,a,_⟩:=hnc;⟨vs,a⟩),.inr (.inr (.inr (.inr ⟨dxe,_,hcl,hdc,g3,fun x H4 e4 h4=>?_⟩)))⟩
     have k2:=kf () x H4 (e3.trans e4) h4
     clear kf
     simp! only [and_true]
abbrev B_spIs  (p:Addr) (wd:Str) (num:Int) (H:Hp) (Q:VK) (E:XK):Prop:=H p=some (.tup [.str wd,.int num])∧PyData.strOk wd=true∧∀ H',Ext H H'->Q (.bl true) H'
def spIs  : Sp:=fun vs H Q E=>∃ (p:Addr) (wd:Str) (num:Int),vs=[.ref p,.str wd,.int num]∧(B_spIs  p wd num H Q E)
theorem c_spIs  (p:Addr) (wd:Str) (num:Int) (H:Hp) (Q:VK) (E:XK):spIs  [.ref p,.str wd,.int num] H Q E=(B_spIs  p wd num H Q E):=spx3 (f:=fun (p:Addr) (wd:Str) (num:Int)=>[.ref p,.str wd,.int num]) (fun _ _ _ _ _ _ h=>by cases h;exact ⟨rfl,rfl,rfl⟩) p wd num
theorem l_spIs  {vs:List V}{H:Hp}{Q:VK}{E:XK}(h:spIs  vs H Q E):vs.length=3:=spl3 h fun _ _ _=>rfl
theorem ok__law_is (T:Tx K mg t):FnOk P w K mg base CX0 2 t.a__law_is t.d__law_is ["_law_found", "_law_word_here", "_law_number"] spIs:=by
 have G__law_whole:=ok__law_whole (P:=P) (w:=w) (base:=base) T
 refine T.F__law_is.ok c__law_is (fun vs H Q E h=>l_spIs h) (fun cdv A' outer s H vs Q E hr h=>?_)
 ·obtain ⟨p,wd,num,rfl,hp,so,k⟩:=h
  refine ⟨_,(@pss_one _ _ _ (@ps_ret _ _ _ _ (@pe_andN _ _ _ _ _ _ _ (@pe_cmpR _ _ _ _ _ _ _ _ (op_qEq hr.units) (@pvN _ 0 _ _ (by rfl) (by trivial) (by decide) (by decide)) (@pe_qTup _ _ _ _ _ (@pa_c _ _ _ _ _ (@pvN _ 1 _ _ (by rfl) (by trivial) (by decide) (by decide)) (@pa_c _ _ _ _ _ (@pvN _ 2 _ _ (by rfl) (by trivial) (by decide) (by decide)) (@pa_nil _) (by rfl)) (by rfl))) (nomark _)) (@pe_one _ _ _ _ _ (@pe_call _ _ _ _ _ _ _ _ _ _ _ _ _ _ _ _ G__law_whole (hr.mono (by decide)) (by rfl) T.m__law_whole T.F__law_whole.kp T.b__law_whole .nil pass0 (@pa_c _ _ _ _ _ (@pe_ix _ _ _ _ _ _ _ ix_q (@pvN _ 0 _ _ (by rfl) (by trivial) (by decide) (by decide)) (@pe_int _ _ _ _) (fun _ _=>rfl)) (@pa_nil _) (by rfl)) (by decide) (by rfl) (by rfl)))))),?_⟩
  rw [show start ["_law_found", "_law_word_here", "_law_number"] [.ref p,.str wd,.int num]=[some (.ref p),some (.str wd),some (.int num)] from rfl]
  clear G__law_whole
  have sq:(wd == wd)=true:=beq_self_eq_true wd
  simp! only [and_true]
  intro t1 H1 _ e1 h1
  have hp1:=e1.at hp
  have k2:=k H1 e1
  clear hp k
  simp! only [↓c_spWhole]
theorem kept_sizes (axs:List (Int × Int)):(axs.map keptA).map (fun a=>a.1)=axs.map fun a=>a.1:=by rw [List.map_map];rfl
theorem span_kept:∀ l:List (Int × Int),(∀ a∈l,(1:Int)≤a.1)->leastL (l.map keptA)=leastL l∧greatL (l.map keptA)=greatL l
 | [],_=>⟨rfl,rfl⟩
 | a::r,h=>by
  obtain ⟨i1,i2⟩:=span_kept r fun b hb=>h b (List.mem_cons_of_mem _ hb)
  have ha:=h a List.mem_cons_self
  have e:((keptA a).1 - 1) * (keptA a).2=(a.1 - 1) * a.2:=by
   show (a.1 - 1) * (if a.1 > 1 then a.2 else 0)=_
   split
   ·rfl
   ·have:a.1=1:=by omega
    rw [this];simp
  rw [List.map_cons,leastL_cons,greatL_cons,leastL_cons,greatL_cons,e,i1,i2]
  exact ⟨rfl,rfl⟩
theorem Al.cons' {α:Type}{R:α->V->Prop}{z:α}{y:V}{zs:List α}{ys:List V}(r:R z y) (h:Al R zs ys):Al R (z::zs) (y::ys):=⟨by simp [h.1],fun i z' y' a b=>by
 cases i with
 | zero=>cases a;cases b;exact r
 | succ n=>exact h.2 n z' y' (by simpa using a) (by simpa using b)⟩
theorem optK_pick {xs:List V}{i:Int}{k:V->Prop}(P:V->Prop) (h0:0≤i) (h1:i < xs.length) (ha:∀ v∈xs,P v) (hk:∀ v,P v->k v):optK (atI xs i) k:=optK_at h0 h1 fun v hv=>hk v (ha v hv)
theorem use_cat {l b:Addr}{xs ys:List V}{H:Hp}{Q:VK}(h:H l=some (.lst xs)) (h':H b=some (.lst ys)) (hl:xs.length+ys.length≤sizeLine) (q:newK (.lst (xs++ys)) H Q):kOp' nCat (.ref l) Q (.ref b) H:=by
 rw [m_kOp',m_nCat,lstAt,h]
 show optK (lstAt H b) (kNC2 xs H Q)
 rw [lstAt,h']
 exact ⟨hl,q⟩
theorem zero_sp:∀ {A:List (Int × Int)},(∀ a∈A,a.2=0)->leastL A=0∧greatL A=0
 | [],_=>⟨rfl,rfl⟩
 | a::A,h=>by
  obtain ⟨i1,i2⟩:=zero_sp (A:=A) fun b hb=>h b (List.mem_cons_of_mem _ hb)
  rw [leastL_cons,greatL_cons,i1,i2,h a List.mem_cons_self,Int.mul_zero]
  exact ⟨rfl,rfl⟩
structure ZeA (A:List (Int × Int)) (n:Int):Prop where
 ax:Axes A
 ze:∀ a∈A,a.2=0
 pr:prodL (A.map fun a=>a.1)=n
 big:4097≤n
theorem ZeA.ok {A:List (Int × Int)}{n room f:Int}(h:ZeA A n) (h1:1≤room) (h2:room≤1000000) (f0:0≤f) (f1:f < room):ViewOk room f A:=by
 obtain ⟨s1,s2⟩:=span_kept A fun a ha=>(h.ax.2 a ha).1
 obtain ⟨z1,z2⟩:=zero_sp h.ze
 exact ⟨h.ax,h1,by omega,by rw [s1,z1];omega,by rw [s2,z2];omega⟩
theorem ZeA.vw {C:Addr}{H:Hp}{x:Addr}{A:List (Int × Int)}{n room f:Int}(h:ZeA A n) (v:ViewAt C H x room f (A.map keptA)):VwN C H x room n:=⟨f,_,v,h.ax.kept,by rw [kept_sizes];exact h.pr⟩
theorem zea_one {n:Int}(h1:4097≤n) (h2:n≤1000000000):ZeA [(n,0)] n:=⟨⟨by simp,fun a ha=>by rw [List.mem_singleton.mp ha];exact ⟨by show 1≤n;omega,by show n≤_;omega⟩⟩,fun a ha=>by rw [List.mem_singleton.mp ha],by show prodL [n]=n;simp [prodL],h1⟩
theorem zea_all {n:Int}(h1:4097≤n) (h2:n≤1000000000):ZeA ((n,0)::List.replicate 7 (1000000000,0)) (n * 1000000000000000000000000000000000000000000000000000000000000000):=by
 have hm:∀ a∈((n,0)::List.replicate 7 ((1000000000:Int),(0:Int))),(a=(n,0)∨a=(1000000000,0)):=fun a ha=>by
  rcases List.mem_cons.mp ha with h|h
  ·exact .inl h
  ·exact .inr (List.eq_of_mem_replicate h)
 refine ⟨⟨by simp,fun a ha=>?_⟩,fun a ha=>?_,?_,by omega⟩
 ·rcases hm a ha with rfl|rfl
  ·exact ⟨by show 1≤n;omega,by show n≤_;omega⟩
  ·exact ⟨by decide,by decide⟩
 ·rcases hm a ha with rfl|rfl<;>rfl
 ·show prodL [n,1000000000,1000000000,1000000000,1000000000,1000000000,1000000000,1000000000]=_
  simp [prodL]
abbrev B_spMV (C:Addr) (K:PySem.W.Frag) (a:Addr) (ns:List Int) (s:Addr) (room:Int) (i:Int) (H:Hp) (Q:VK) (E:XK):Prop:=s=a∧SqL K H a (ns.map V.int)∧ns.length≤63∧1≤room∧room≤1000∧0≤i∧i≤60∧∀ (x r:Addr) (n:Int) (H':Hp),Ext H H'->H' r=some (.tup [.ref x,.int n])->VwN C H' x room n->4097≤n->Q (.ref r) H'
def spMV (C:Addr) (K:PySem.W.Frag) (a:Addr) (ns:List Int):Sp:=fun vs H Q E=>∃ (s:Addr) (room:Int) (i:Int),vs=[.ref s,.int room,.int i]∧(B_spMV C K a ns s room i H Q E)
theorem c_spMV (C:Addr) (K:PySem.W.Frag) (a:Addr) (ns:List Int) (s:Addr) (room:Int) (i:Int) (H:Hp) (Q:VK) (E:XK):spMV C K a ns [.ref s,.int room,.int i] H Q E=(B_spMV C K a ns s room i H Q E):=spx3 (f:=fun (s:Addr) (room:Int) (i:Int)=>[.ref s,.int room,.int i]) (fun _ _ _ _ _ _ h=>by cases h;exact ⟨rfl,rfl,rfl⟩) s room i
theorem l_spMV (C:Addr) (K:PySem.W.Frag) (a:Addr) (ns:List Int){vs:List V}{H:Hp}{Q:VK}{E:XK}(h:spMV C K a ns vs H Q E):vs.length=3:=spl3 h fun _ _ _=>rfl
theorem ok__law_many_view (T:Tx K mg t) (a:Addr) (ns:List Int):FnOk P w K mg base CX0 8 t.a__law_many_view t.d__law_many_view ["_law_script", "_law_room", "_law_at"] (spMV t.a_View K a ns):=by
 have G__law_draw:=ok__law_draw (P:=P) (w:=w) (base:=base) T a ns
 have G_View___init__:=ok_View___init__ (P:=P) (w:=w) (base:=base) T
 refine T.F__law_many_view.ok c__law_many_view (fun vs H Q E h=>l_spMV _ _ _ _ h) (fun cdv A' outer s H vs Q E hr h=>?_)
 ·obtain ⟨_,room,i,rfl,rfl,hS,hl,hr1,hr2,hi0,hi1,k⟩:=h
  rename_i a
  refine ⟨_,(@pss_cons _ _ _ _ _ (@ps_set _ _ (3) _ _ _ _ c__law_many_view.nd rfl (Or.inl rfl) (@pe_ix _ _ _ _ _ _ _ ix_q (@pe_qLst _ _ _ _ (@pa_c _ _ _ _ _ (@pe_int _ _ _ _) (@pa_c _ _ _ _ _ (@pe_int _ _ _ _) (@pa_c _ _ _ _ _ (@pe_op _ _ _ _ _ _ _ _ on_add (@pe_int _ _ _ _) (@pe_call _ _ _ _ _ _ _ _ _ _ _ _ _ _ _ _ G__law_draw (hr.mono (by decide)) (by rfl) T.m__law_draw T.F__law_draw.kp T.b__law_draw .nil pass0 (@pa_c _ _ _ _ _ (@pvN _ 0 _ _ (by rfl) (by trivial) (by decide) (by decide)) (@pa_c _ _ _ _ _ (@pvN _ 2 _ _ (by rfl) (by trivial) (by decide) (by decide)) (@pa_c _ _ _ _ _ (@pe_op _ _ _ _ _ _ _ _ on_sub (@pe_op _ _ _ _ _ _ _ _ on_pow (@pe_int _ _ _ _) (@pe_int _ _ _ _)) (@pe_int _ _ _ _)) (@pa_nil _) (by rfl)) (by rfl)) (by rfl)) (by decide) (by rfl) (by rfl))) (@pa_c _ _ _ _ _ (@pe_op _ _ _ _ _ _ _ _ on_pow (@pe_int _ _ _ _) (@pe_int _ _ _ _)) (@pa_nil _) (by rfl)) (by rfl)) (by rfl)) (by rfl))) (@pe_call _ _ _ _ _ _ _ _ _ _ _ _ _ _ _ _ G__law_draw (hr.mono (by decide)) (by rfl) T.m__law_draw T.F__law_draw.kp T.b__law_draw .nil pass0 (@pa_c _ _ _ _ _ (@pvN _ 0 _ _ (by rfl) (by trivial) (by decide) (by decide)) (@pa_c _ _ _ _ _ (@pe_op _ _ _ _ _ _ _ _ on_add (@pvN _ 2 _ _ (by rfl) (by trivial) (by decide) (by decide)) (@pe_int _ _ _ _)) (@pa_c _ _ _ _ _ (@pe_int _ _ _ _) (@pa_nil _) (by rfl)) (by rfl)) (by rfl)) (by decide) (by rfl) (by rfl)) (fun _ _=>rfl)) (by rfl) (by trivial)) (@pss_cons _ _ _ _ _ (@ps_set _ _ (4) _ _ _ _ c__law_many_view.nd rfl (Or.inl rfl) (@pe_qLst _ _ _ _ (@pa_c _ _ _ _ _ (@pe_qTup _ _ _ _ _ (@pa_c _ _ _ _ _ (@pvN _ 3 _ _ (by rfl) (by trivial) (by decide) (by decide)) (@pa_c _ _ _ _ _ (@pe_int _ _ _ _) (@pa_nil _) (by rfl)) (by rfl))) (@pa_nil _) (by rfl))) (by rfl) (by trivial)) (@pss_cons _ _ _ _ _ (@ps_set _ _ (5) _ _ _ _ c__law_many_view.nd rfl (Or.inl rfl) (@pvN _ 3 _ _ (by rfl) (by trivial) (by decide) (by decide)) (by rfl) (by trivial)) (@pss_cons _ _ _ _ _ (@ps_if _ _ _ _ _ _ _ _ (@pt_cmpRN _ _ _ _ _ _ _ _ (op_qEq hr.units) (@pe_call _ _ _ _ _ _ _ _ _ _ _ _ _ _ _ _ G__law_draw (hr.mono (by decide)) (by rfl) T.m__law_draw T.F__law_draw.kp T.b__law_draw .nil pass0 (@pa_c _ _ _ _ _ (@pvN _ 0 _ _ (by rfl) (by trivial) (by decide) (by decide)) (@pa_c _ _ _ _ _ (@pe_op _ _ _ _ _ _ _ _ on_add (@pvN _ 2 _ _ (by rfl) (by trivial) (by decide) (by decide)) (@pe_int _ _ _ _)) (@pa_c _ _ _ _ _ (@pe_int _ _ _ _) (@pa_nil _) (by rfl)) (by rfl)) (by rfl)) (by decide) (by rfl) (by rfl)) (@pe_int _ _ _ _) (nomark _)) (@pss_cons _ _ _ _ _ (@ps_set _ _ (4) _ _ _ _ c__law_many_view.nd rfl (Or.inl rfl) (@pe_op _ _ _ _ _ _ _ _ op_nCat (@pvN _ 4 _ _ (by rfl) (by trivial) (by decide) (by decide)) (@pe_op _ _ _ _ _ _ _ _ op_nRepO (@pe_qLst _ _ _ _ (@pa_c _ _ _ _ _ (@pe_qTup _ _ _ _ _ (@pa_c _ _ _ _ _ (@pe_op _ _ _ _ _ _ _ _ on_pow (@pe_int _ _ _ _) (@pe_int _ _ _ _)) (@pa_c _ _ _ _ _ (@pe_int _ _ _ _) (@pa_nil _) (by rfl)) (by rfl))) (@pa_nil _) (by rfl))) (@pe_int _ _ _ _))) (by rfl) (by trivial)) (@pss_one _ _ _ (@ps_set _ _ (5) _ _ _ _ c__law_many_view.nd rfl (Or.inl rfl) (@pe_op _ _ _ _ _ _ _ _ on_mul (@pvN _ 3 _ _ (by rfl) (by trivial) (by decide) (by decide)) (@pe_op _ _ _ _ _ _ _ _ on_pow (@pe_int _ _ _ _) (@pe_int _ _ _ _))) (by rfl) (by trivial)))) (@pss_nil _)) (@pss_one _ _ _ (@ps_ret _ _ _ _ (@pe_qTup _ _ _ _ _ (@pa_c _ _ _ _ _ (@pe_nMake _ _ _ _ _ _ _ _ _ _ _ _ _ _ _ _ _ T.mk_View G_View___init__ (hr.mono (by decide)) (by rfl) T.m_View T.b_View___init__ .nil pass0 (@pa_c _ _ _ _ _ (@pvN _ 1 _ _ (by rfl) (by trivial) (by decide) (by decide)) (@pa_c _ _ _ _ _ (@pe_call _ _ _ _ _ _ _ _ _ _ _ _ _ _ _ _ G__law_draw (hr.mono (by decide)) (by rfl) T.m__law_draw T.F__law_draw.kp T.b__law_draw .nil pass0 (@pa_c _ _ _ _ _ (@pvN _ 0 _ _ (by rfl) (by trivial) (by decide) (by decide)) (@pa_c _ _ _ _ _ (@pe_op _ _ _ _ _ _ _ _ on_add (@pvN _ 2 _ _ (by rfl) (by trivial) (by decide) (by decide)) (@pe_int _ _ _ _)) (@pa_c _ _ _ _ _ (@pvN _ 1 _ _ (by rfl) (by trivial) (by decide) (by decide)) (@pa_nil _) (by rfl)) (by rfl)) (by rfl)) (by decide) (by rfl) (by rfl)) (@pa_c _ _ _ _ _ (@pvN _ 4 _ _ (by rfl) (by trivial) (by decide) (by decide)) (@pa_nil _) (by rfl)) (by rfl)) (by rfl)) (by decide) (by rfl) (by rfl)) (@pa_c _ _ _ _ _ (@pvN _ 5 _ _ (by rfl) (by trivial) (by decide) (by decide)) (@pa_nil _) (by rfl)) (by rfl))))))))),?_⟩
  rw [show start ["_law_script", "_law_room", "_law_at", "_law_size", "_law_axes", "_law_count"] [.ref a,.int room,.int i]=[some (.ref a),some (.int room),some (.int i),none,none,none] from rfl]
  clear G__law_draw G_View___init__
  replace k:=fun (_:Unit)=>k
  simp! only [and_true]
  rw [c_spDraw]
  refine ⟨hS,hl,⟨by omega,by omega⟩,by decide,fun d1 d10 d11=>?_⟩
  have eb:=Ext.refl H
  simp! only [and_true]
  intro Ls J101 uLs j101 hLs
  clear uLs
  replace hS:=j101.2 K a _ hS
  replace eb:=eb.trans j101
  clear j101
  simp! only [and_true]
  rw [c_spDraw]
  refine ⟨hS,hl,⟨by omega,by omega⟩,by decide,fun d2 d20 d21=>?_⟩
  simp! only [and_true]
  refine optK_pick (fun v=>∃ n:Int,v=.int n∧4097≤n∧n≤1000000000) d20 (by show d2 < (4:Int);exact d21) (fun v hv=>?_) fun v hv=>?_
  ·simp only [List.mem_cons,List.not_mem_nil,or_false] at hv
   rcases hv with rfl|rfl|rfl|rfl
   ·exact ⟨_,rfl,by decide,by decide⟩
   ·exact ⟨_,rfl,by decide,by decide⟩
   ·exact ⟨_,rfl,by omega,by omega⟩
   ·exact ⟨_,rfl,by decide,by decide⟩
  obtain ⟨n,rfl,hn1,hn2⟩:=hv
  clear hLs d20 d21 d10 d11
  simp! only [and_true]
  intro t1 J102 ut1 j102 ht1
  clear ut1
  replace hS:=j102.2 K a _ hS
  replace eb:=eb.trans j102
  clear j102
  simp! only [and_true]
  intro l1 J103 ul1 j103 hl1
  clear ul1
  replace ht1:=j103.at ht1
  replace hS:=j103.2 K a _ hS
  replace eb:=eb.trans j103
  clear j103
  simp! only [-m_tIfS]
  refine if_gen (fun σ' H'=>∃ (l:Addr) (A:List (Int × Int)) (m:Int),σ'=[some (.ref a),some (.int room),some (.int i),some (.int n),some (.ref l),some (.int m)]∧Ext J103 H'∧TupsAt H' l (axL A)∧ZeA A m) (fun nx' hn=>?_) ?_
  ·replace hn:=fun (_:Unit)=>hn
   clear k
   have cm:CMul n 1000000000000000000000000000000000000000000000000000000000000000:=.inl ⟨by omega,by omega⟩
   simp! only [and_true]
   rw [c_spDraw]
   refine ⟨hS,hl,⟨by omega,by omega⟩,by decide,fun d3 _ _=>?_⟩
   by_cases hd:d3=2
   ·simp! only [and_true]
    intro t2 G1 _ e1 h1
    simp! only [and_true]
    intro l2 G2 _ e2 h2
    have h1_2:=e2.at h1
    have hl1_2:=(e1.trans e2).at hl1
    have ht1_2:=(e1.trans e2).at ht1
    clear h1
    simp! only [and_true]
    intro l3 G3 _ e3 h3
    refine use_cat (e3.at hl1_2) h3 (len5000 (by simp)) ?_
    intro l4 G4 _ e4 h4
    have e04:=e1.trans (e2.trans (e3.trans e4))
    have ht1_4:=(e3.trans e4).at ht1_2
    have ht2_4:=(e3.trans e4).at h1_2
    have tA:TupsAt G4 l4 (axL ((n,0)::List.replicate 7 (1000000000,0))):=⟨_,h4,Al.cons' ⟨t1,rfl,ht1_4⟩ (Al.cons' ⟨t2,rfl,ht2_4⟩ (Al.cons' ⟨t2,rfl,ht2_4⟩ (Al.cons' ⟨t2,rfl,ht2_4⟩ (Al.cons' ⟨t2,rfl,ht2_4⟩ (Al.cons' ⟨t2,rfl,ht2_4⟩ (Al.cons' ⟨t2,rfl,ht2_4⟩ (Al.cons' ⟨t2,rfl,ht2_4⟩ Al.nil)))))))⟩
    replace tA:=fun (_:Unit)=>tA
    clear h2 h3 h4 hl1_2 ht1_2 h1_2 ht1_4 ht2_4 e1 e2 e3 e4 hl1 ht1
    simp! only [and_true]
    exact hn () _ _ ⟨l4,_,_,rfl,e04,tA (),zea_all hn1 hn2⟩
   ·have tA:TupsAt J103 l1 (axL [(n,0)]):=⟨_,hl1,Al.cons' ⟨t1,rfl,ht1⟩ Al.nil⟩
    replace tA:=fun (_:Unit)=>tA
    clear hl1 ht1
    simp! only [and_true]
    exact hn () _ _ ⟨l1,_,_,rfl,Ext.refl _,tA (),zea_one hn1 hn2⟩
  rintro _ H5 ⟨l,A,m,rfl,e5,tA,ze⟩
  have hS5:=e5.2 K a _ hS
  have e05:=eb.trans e5
  clear hl1 ht1 hS
  simp! only [and_true]
  rw [c_spDraw]
  refine ⟨hS5,hl,⟨by omega,by omega⟩,by omega,fun d4 d40 d41=>?_⟩
  simp! only [and_true]
  intro x dx1 G1 hx1 hdx1 hne1 g1 k1 k1'
  rw [c_spVInit]
  refine ⟨dx1,A,k1,TupsAt.ext tA g1,ze.ok hr1 (by omega) d40 d41,fun G2 D2 g2' hD2 hx2 tt2=>?_⟩
  have eg:=g2' H5 g1 hx1
  have vv:=ze.vw (C:=t.a_View) (H:=G2) (x:=x) (room:=room) (f:=d4) ⟨dx1,D2,hx2,tt2⟩
  replace vv:=fun (_:Unit)=>vv
  clear k1 k1' hx1 hdx1 hne1 g1 g2' hD2 hx2 tt2 tA d40 d41
  simp! only [and_true]
  intro r6 H6 _ e6 h6
  exact k () x r6 m H6 (e05.trans (eg.trans e6)) h6 ((vv ()).ext e6) ze.big
theorem DonC.ext {t:Adr}{H H':Hp}{i:Nat}{st one two vs:V}{wd:Str}{num:Int}(h:DonC t H i st one two vs wd num) (e:Ext H H'):DonC t H' i st one two vs wd num:=by
 rcases h with ⟨hi,sa,l,vals,u,r,n,h1,h2,so,vv,hd⟩|⟨hi,sa,l,vals,u,r,n,p,xs,h1,h2,h3,so,vv,hp,hd⟩|⟨hi,sa,l,vals,u,r,n,v,r2,n2,h1,h2,h3,so,vv,vu,hd⟩|⟨hi,u,r,n,v,r2,n2,h1,h2,vv,vu,hd⟩|⟨hi,p,xs,h1,hp,hd⟩
 ·exact .inl ⟨hi,sa,l,vals,u,r,n,h1,h2,so.ext e,vv.ext e,hd⟩
 ·exact .inr (.inl ⟨hi,sa,l,vals,u,r,n,p,xs,h1,h2,h3,so.ext e,vv.ext e,e.at hp,hd⟩)
 ·exact .inr (.inr (.inl ⟨hi,sa,l,vals,u,r,n,v,r2,n2,h1,h2,h3,so.ext e,vv.ext e,vu.ext e,hd⟩))
 ·exact .inr (.inr (.inr (.inl ⟨hi,u,r,n,v,r2,n2,h1,h2,vv.ext e,vu.ext e,hd⟩)))
 ·exact .inr (.inr (.inr (.inr ⟨hi,p,xs,h1,e.at hp,hd⟩)))
theorem DonC.str {t:Adr}{H:Hp}{i:Nat}{st one two vs:V}{wd:Str}{num:Int}(h:DonC t H i st one two vs wd num):PyData.strOk wd=true:=by
 have s:∀ x:Str,(x = "cells" ∨ x = "view" ∨ x = "count" ∨ x = "pair" ∨ x = "many")->PyData.strOk x=true:=fun x hx=>by
  rcases hx with rfl|rfl|rfl|rfl|rfl<;>decide +kernel
 refine s wd ?_
 rcases h with ⟨_,_,_,_,_,_,_,_,_,_,_,hd⟩|⟨_,_,_,_,_,_,_,_,_,_,_,_,_,_,_,hd⟩|⟨_,_,_,_,_,_,_,_,_,_,_,_,_,_,_,_,hd⟩|⟨_,_,_,_,_,_,_,_,_,_,_,hd⟩|⟨_,_,_,_,_,hd⟩
 ·rcases hd with ⟨_,h,_⟩|⟨_,_,h,_⟩
  ·exact .inr (.inl h)
  ·exact .inr (.inr (.inr (.inr h)))
 ·rcases hd with ⟨_,h,_⟩|⟨_,_,h,_⟩|⟨_,_,_,h,_⟩
  ·exact .inr (.inl h)
  ·exact .inr (.inr (.inl h))
  ·exact .inr (.inr (.inr (.inr h)))
 ·rcases hd with ⟨_,h,_⟩|⟨_,_,_,h,_⟩|⟨_,_,_,_,h,_⟩
  ·exact .inr (.inl h)
  ·exact .inr (.inr (.inl h))
  ·exact .inr (.inr (.inr (.inr h)))
 ·rcases hd with ⟨_,h,_⟩|⟨_,_,h,_⟩|⟨_,_,_,h,_⟩
  ·exact .inr (.inr (.inr (.inl h)))
  ·exact .inr (.inr (.inl h))
  ·exact .inr (.inr (.inr (.inr h)))
 ·rcases hd with ⟨_,h,_⟩|⟨_,h,_⟩
  ·exact .inl h
  ·exact .inr (.inr (.inr (.inr h)))
theorem don_rv {t:Adr}{H:Hp}{sa:Addr}{l:Addr}{vals:List Int}{u:Addr}{r:Int}{n:Int}{two:V}{vs:V}{i:Nat}(hi:i=0∨i=2) (so:StoreAt t.a_Store H sa l vals) (vv:VwN t.a_View H u r n) (h:r ≠ (vals.length:Int)):DonC t H i (.ref sa) (.ref u) two vs "view" 0:=.inl ⟨hi,sa,l,vals,u,r,n,rfl,rfl,so,vv,.inl ⟨h,rfl,rfl⟩⟩
theorem don_rm {t:Adr}{H:Hp}{sa:Addr}{l:Addr}{vals:List Int}{u:Addr}{r:Int}{n:Int}{two:V}{vs:V}{i:Nat}(hi:i=0∨i=2) (so:StoreAt t.a_Store H sa l vals) (vv:VwN t.a_View H u r n) (h:r=(vals.length:Int)) (hb:4096 < n):DonC t H i (.ref sa) (.ref u) two vs "many" n:=.inl ⟨hi,sa,l,vals,u,r,n,rfl,rfl,so,vv,.inr ⟨h,hb,rfl,rfl⟩⟩
theorem don_pv {t:Adr}{H:Hp}{sa:Addr}{l:Addr}{vals:List Int}{u:Addr}{r:Int}{n:Int}{two:V}{p:Addr}{xs:List V}(so:StoreAt t.a_Store H sa l vals) (vv:VwN t.a_View H u r n) (hp:H p=some (.lst xs)) (h:r ≠ (vals.length:Int)):DonC t H 1 (.ref sa) (.ref u) two (.ref p) "view" 0:=.inr (.inl ⟨rfl,sa,l,vals,u,r,n,p,xs,rfl,rfl,rfl,so,vv,hp,.inl ⟨h,rfl,rfl⟩⟩)
theorem don_pc {t:Adr}{H:Hp}{sa:Addr}{l:Addr}{vals:List Int}{u:Addr}{r:Int}{n:Int}{two:V}{p:Addr}{xs:List V}(so:StoreAt t.a_Store H sa l vals) (vv:VwN t.a_View H u r n) (hp:H p=some (.lst xs)) (h:r=(vals.length:Int)) (hc:n ≠ (xs.length:Int)):DonC t H 1 (.ref sa) (.ref u) two (.ref p) "count" 0:=.inr (.inl ⟨rfl,sa,l,vals,u,r,n,p,xs,rfl,rfl,rfl,so,vv,hp,.inr (.inl ⟨h,hc,rfl,rfl⟩)⟩)
theorem don_pm {t:Adr}{H:Hp}{sa:Addr}{l:Addr}{vals:List Int}{u:Addr}{r:Int}{n:Int}{two:V}{p:Addr}{xs:List V}(so:StoreAt t.a_Store H sa l vals) (vv:VwN t.a_View H u r n) (hp:H p=some (.lst xs)) (h:r=(vals.length:Int)) (hc:n=(xs.length:Int)) (hb:4096 < n):DonC t H 1 (.ref sa) (.ref u) two (.ref p) "many" n:=.inr (.inl ⟨rfl,sa,l,vals,u,r,n,p,xs,rfl,rfl,rfl,so,vv,hp,.inr (.inr ⟨h,hc,hb,rfl,rfl⟩)⟩)
theorem don_cv {t:Adr}{H:Hp}{sa:Addr}{l:Addr}{vals:List Int}{u:Addr}{v:Addr}{r:Int}{n:Int}{r2:Int}{n2:Int}{vs:V}(so:StoreAt t.a_Store H sa l vals) (vv:VwN t.a_View H u r n) (vu:VwN t.a_View H v r2 n2) (h:r ≠ (vals.length:Int)∨r2 ≠ (vals.length:Int)):DonC t H 3 (.ref sa) (.ref u) (.ref v) vs "view" 0:=.inr (.inr (.inl ⟨rfl,sa,l,vals,u,r,n,v,r2,n2,rfl,rfl,rfl,so,vv,vu,.inl ⟨h,rfl,rfl⟩⟩))
theorem don_cc {t:Adr}{H:Hp}{sa:Addr}{l:Addr}{vals:List Int}{u:Addr}{v:Addr}{r:Int}{n:Int}{r2:Int}{n2:Int}{vs:V}(so:StoreAt t.a_Store H sa l vals) (vv:VwN t.a_View H u r n) (vu:VwN t.a_View H v r2 n2) (h:r=(vals.length:Int)) (h2:r2=(vals.length:Int)) (hn:n ≠ n2):DonC t H 3 (.ref sa) (.ref u) (.ref v) vs "count" 0:=.inr (.inr (.inl ⟨rfl,sa,l,vals,u,r,n,v,r2,n2,rfl,rfl,rfl,so,vv,vu,.inr (.inl ⟨h,h2,hn,rfl,rfl⟩)⟩))
theorem don_cm {t:Adr}{H:Hp}{sa:Addr}{l:Addr}{vals:List Int}{u:Addr}{v:Addr}{r:Int}{n:Int}{r2:Int}{n2:Int}{vs:V}(so:StoreAt t.a_Store H sa l vals) (vv:VwN t.a_View H u r n) (vu:VwN t.a_View H v r2 n2) (h:r=(vals.length:Int)) (h2:r2=(vals.length:Int)) (hn:n=n2) (hb:4096 < n2):DonC t H 3 (.ref sa) (.ref u) (.ref v) vs "many" n2:=.inr (.inr (.inl ⟨rfl,sa,l,vals,u,r,n,v,r2,n2,rfl,rfl,rfl,so,vv,vu,.inr (.inr ⟨h,h2,hn,hb,rfl,rfl⟩)⟩))
theorem don_sp {t:Adr}{H:Hp}{sa:Addr}{u:Addr}{v:Addr}{r:Int}{n:Int}{r2:Int}{n2:Int}{vs:V}(vv:VwN t.a_View H u r n) (vu:VwN t.a_View H v r2 n2) (h:r ≠ r2):DonC t H 4 (.ref sa) (.ref u) (.ref v) vs "pair" 0:=.inr (.inr (.inr (.inl ⟨rfl,u,r,n,v,r2,n2,rfl,rfl,vv,vu,.inl ⟨h,rfl,rfl⟩⟩)))
theorem don_sc {t:Adr}{H:Hp}{sa:Addr}{u:Addr}{v:Addr}{r:Int}{n:Int}{r2:Int}{n2:Int}{vs:V}(vv:VwN t.a_View H u r n) (vu:VwN t.a_View H v r2 n2) (h:r=r2) (hn:n ≠ n2):DonC t H 4 (.ref sa) (.ref u) (.ref v) vs "count" 0:=.inr (.inr (.inr (.inl ⟨rfl,u,r,n,v,r2,n2,rfl,rfl,vv,vu,.inr (.inl ⟨h,hn,rfl,rfl⟩)⟩)))
theorem don_sm {t:Adr}{H:Hp}{sa:Addr}{u:Addr}{v:Addr}{r:Int}{n:Int}{r2:Int}{n2:Int}{vs:V}(vv:VwN t.a_View H u r n) (vu:VwN t.a_View H v r2 n2) (h:r=r2) (hn:n=n2) (hb:4096 < n):DonC t H 4 (.ref sa) (.ref u) (.ref v) vs "many" n:=.inr (.inr (.inr (.inl ⟨rfl,u,r,n,v,r2,n2,rfl,rfl,vv,vu,.inr (.inr ⟨h,hn,hb,rfl,rfl⟩)⟩)))
def CasP (t:Adr) (H:Hp) (sa:Addr) (y:V):Prop:=∃ (r:Addr) (i:Nat) (one two vs:V) (wd:Str) (num:Int),y=.ref r∧H r=some (.tup [.int (i:Int),one,two,vs,.str wd,.int num])∧DonC t H i (.ref sa) one two vs wd num
theorem CasP.ext {t:Adr}{H H':Hp}{sa:Addr}{y:V}(h:CasP t H sa y) (e:Ext H H'):CasP t H' sa y:=by
 obtain ⟨r,i,one,two,vs,wd,num,h1,h2,h3⟩:=h
 exact ⟨r,i,one,two,vs,wd,num,h1,e.at h2,h3.ext e⟩
theorem casp {t:Adr}{H:Hp}{sa r:Addr}(i:Nat){one two vs:V}{wd:Str}{num:Int}(h:H r=some (.tup [.int (i:Int),one,two,vs,.str wd,.int num])) (d:DonC t H i (.ref sa) one two vs wd num):CasP t H sa (.ref r):=⟨r,i,one,two,vs,wd,num,rfl,h,d⟩
def CasA (t:Adr) (H:Hp) (sa:Addr) (n:Nat) (xs:List V):Prop:=xs.length≤n∧∀ y∈xs,CasP t H sa y
theorem CasA.ext {t:Adr}{H H':Hp}{sa:Addr}{n:Nat}{xs:List V}(h:CasA t H sa n xs) (e:Ext H H'):CasA t H' sa n xs:=⟨h.1,fun y hy=>(h.2 y hy).ext e⟩
theorem CasA.nil {t:Adr}{H:Hp}{sa:Addr}:CasA t H sa 0 []:=⟨Nat.le_refl _,fun y hy=>absurd hy List.not_mem_nil⟩
theorem CasA.cons {t:Adr}{H:Hp}{sa:Addr}{n:Nat}{y:V}{xs:List V}(hy:CasP t H sa y) (h:CasA t H sa n xs):CasA t H sa (n+1) (y::xs):=⟨by rw [List.length_cons];have:=h.1;omega,fun z hz=>(List.mem_cons.mp hz).elim (fun e=>e ▸ hy) fun q=>h.2 z q⟩
theorem CasA.app {t:Adr}{H:Hp}{sa:Addr}{n m:Nat}{xs ys:List V}(h:CasA t H sa n xs) (k:CasA t H sa m ys):CasA t H sa (n+m) (xs++ys):=⟨by rw [List.length_append];have:=h.1;have:=k.1;omega,fun z hz=>(List.mem_append.mp hz).elim (fun q=>h.2 z q) fun q=>k.2 z q⟩
theorem one_ok {room f n:Int}(hr:1≤room∧room≤1000000) (hf:0≤f∧f < room) (hn:1≤n∧n≤1000000000):ViewOk room f [(n,0)]:=by
 have ax:Axes [(n,(0:Int))]:=⟨by simp,fun a ha=>by rw [List.mem_singleton.mp ha];exact ⟨by show 1≤n;omega,by show n≤_;omega⟩⟩
 have e:[(n,(0:Int))].map keptA=[(n,0)]:=by show [(n,if n > 1 then (0:Int) else 0)]=_;rw [ite_self]
 have l:leastL [(n,(0:Int))]=0:=by show min 0 ((n - 1) * 0)+0=_;rw [Int.mul_zero];decide
 have g:greatL [(n,(0:Int))]=0:=by show max 0 ((n - 1) * 0)+0=_;rw [Int.mul_zero];decide
 exact ⟨ax,hr.1,by omega,by rw [e,l];omega,by rw [e,g];omega⟩
theorem axes1 {n p:Int}(hn:1≤n∧n≤1000000000):Axes [(n,p)]:=⟨by simp,fun a ha=>by rw [List.mem_singleton.mp ha];exact ⟨by show 1≤n;omega,by show n≤_;omega⟩⟩
theorem one_vwn {C:Addr}{H:Hp}{x:Addr}{room f n p:Int}(hn:1≤n∧n≤1000000000) (v:ViewAt C H x room f ([(n,p)].map keptA)):VwN C H x room n:=⟨f,_,v,(axes1 hn).kept,by rw [kept_sizes];show prodL [n]=n;simp [prodL]⟩
theorem nil_vwn {C:Addr}{H:Hp}{x:Addr}{room f:Int}(v:ViewAt C H x room f (([]:List (Int × Int)).map keptA)):VwN C H x room 1:=⟨f,_,v,⟨by decide,fun a ha=>absurd ha List.not_mem_nil⟩,by simp [prodL]⟩
theorem nil_ok {room f:Int}(hr:1≤room∧room≤1000000) (hf:0≤f∧f < room):ViewOk room f []:=⟨⟨by decide,fun a ha=>absurd ha List.not_mem_nil⟩,hr.1,by omega,by show 0≤f+0;omega,by show f+0 < room;omega⟩
theorem ent_ok {room:Int}(hr:1≤room∧room≤1000000):ViewOk room 0 [(room,1)]:=by
 have ax:Axes [(room,(1:Int))]:=axes1 ⟨hr.1,by omega⟩
 obtain ⟨s1,s2⟩:=span_kept [(room,(1:Int))] fun a ha=>(ax.2 a ha).1
 have l:leastL [(room,(1:Int))]=min 0 ((room - 1) * 1)+0:=rfl
 have g:greatL [(room,(1:Int))]=max 0 ((room - 1) * 1)+0:=rfl
 exact ⟨ax,hr.1,by omega,by rw [s1,l,Int.mul_one];omega,by rw [s2,g,Int.mul_one];omega⟩
abbrev B_spVR (t:Adr) (K:PySem.W.Frag) (a:Addr) (ns:List Int) (s:Addr) (room:Int) (sa:Addr) (H:Hp) (Q:VK) (E:XK):Prop:=s=a∧SqL K H a (ns.map V.int)∧ns.length≤63∧2≤room∧room≤62∧∃ (l:Addr) (vals:List Int),StoreAt t.a_Store H sa l vals∧(vals.length:Int)=room∧∀ (H':Hp),Ext H H'->Q (.bl true) H'
def spVR (t:Adr) (K:PySem.W.Frag) (a:Addr) (ns:List Int):Sp:=fun vs H Q E=>∃ (s:Addr) (room:Int) (sa:Addr),vs=[.ref s,.int room,.ref sa]∧(B_spVR t K a ns s room sa H Q E)
theorem c_spVR (t:Adr) (K:PySem.W.Frag) (a:Addr) (ns:List Int) (s:Addr) (room:Int) (sa:Addr) (H:Hp) (Q:VK) (E:XK):spVR t K a ns [.ref s,.int room,.ref sa] H Q E=(B_spVR t K a ns s room sa H Q E):=spx3 (f:=fun (s:Addr) (room:Int) (sa:Addr)=>[.ref s,.int room,.ref sa]) (fun _ _ _ _ _ _ h=>by cases h;exact ⟨rfl,rfl,rfl⟩) s room sa
theorem l_spVR (t:Adr) (K:PySem.W.Frag) (a:Addr) (ns:List Int){vs:List V}{H:Hp}{Q:VK}{E:XK}(h:spVR t K a ns vs H Q E):vs.length=3:=spl3 h fun _ _ _=>rfl
theorem ok__law_views_refused (T:Tx K mg t) (a:Addr) (ns:List Int):FnOk P w K mg base CX0 10 t.a__law_views_refused t.d__law_views_refused ["_law_script", "_law_room", "_law_store"] (spVR t K a ns):=by
 have G__law_draw:=ok__law_draw (P:=P) (w:=w) (base:=base) T a ns
 have G__law_many_view:=ok__law_many_view (P:=P) (w:=w) (base:=base) T a ns
 have G_View___init__:=ok_View___init__ (P:=P) (w:=w) (base:=base) T
 have G__law_done:=ok__law_done (P:=P) (w:=w) (base:=base) T
 have G__law_is:=ok__law_is (P:=P) (w:=w) (base:=base) T
 refine T.F__law_views_refused.ok c__law_views_refused (fun vs H Q E h=>l_spVR _ _ _ _ h) (fun cdv A' outer s H vs Q E hr h=>?_)
 ·obtain ⟨_,room,sa,rfl,rfl,hS,hl,hr1,hr2,sl,vals,so,hvl,k⟩:=h
  rename_i a
  refine ⟨_,(@pss_cons _ _ _ _ _ (@ps_set _ _ (3) _ _ _ _ c__law_views_refused.nd rfl (Or.inl rfl) (@pe_nMake _ _ _ _ _ _ _ _ _ _ _ _ _ _ _ _ _ T.mk_View G_View___init__ (hr.mono (by decide)) (by rfl) T.m_View T.b_View___init__ .nil pass0 (@pa_c _ _ _ _ _ (@pvN _ 1 _ _ (by rfl) (by trivial) (by decide) (by decide)) (@pa_c _ _ _ _ _ (@pe_int _ _ _ _) (@pa_c _ _ _ _ _ (@pe_qLst _ _ _ _ (@pa_c _ _ _ _ _ (@pe_qTup _ _ _ _ _ (@pa_c _ _ _ _ _ (@pvN _ 1 _ _ (by rfl) (by trivial) (by decide) (by decide)) (@pa_c _ _ _ _ _ (@pe_int _ _ _ _) (@pa_nil _) (by rfl)) (by rfl))) (@pa_nil _) (by rfl))) (@pa_nil _) (by rfl)) (by rfl)) (by rfl)) (by decide) (by rfl) (by rfl)) (by rfl) (by trivial)) (@pss_cons _ _ _ _ _ (@ps_set _ _ (4) _ _ _ _ c__law_views_refused.nd rfl (Or.inl rfl) (@pe_nMake _ _ _ _ _ _ _ _ _ _ _ _ _ _ _ _ _ T.mk_View G_View___init__ (hr.mono (by decide)) (by rfl) T.m_View T.b_View___init__ .nil pass0 (@pa_c _ _ _ _ _ (@pe_op _ _ _ _ _ _ _ _ on_add (@pe_op _ _ _ _ _ _ _ _ on_add (@pvN _ 1 _ _ (by rfl) (by trivial) (by decide) (by decide)) (@pe_int _ _ _ _)) (@pe_call _ _ _ _ _ _ _ _ _ _ _ _ _ _ _ _ G__law_draw (hr.mono (by decide)) (by rfl) T.m__law_draw T.F__law_draw.kp T.b__law_draw .nil pass0 (@pa_c _ _ _ _ _ (@pvN _ 0 _ _ (by rfl) (by trivial) (by decide) (by decide)) (@pa_c _ _ _ _ _ (@pe_int _ _ _ _) (@pa_c _ _ _ _ _ (@pe_int _ _ _ _) (@pa_nil _) (by rfl)) (by rfl)) (by rfl)) (by decide) (by rfl) (by rfl))) (@pa_c _ _ _ _ _ (@pe_int _ _ _ _) (@pa_c _ _ _ _ _ (@pe_qLst _ _ _ _ (@pa_nil _)) (@pa_nil _) (by rfl)) (by rfl)) (by rfl)) (by decide) (by rfl) (by rfl)) (by rfl) (by trivial)) (@pss_cons _ _ _ _ _ (@ps_asg _ _ _ _ _ _ (@pe_call _ _ _ _ _ _ _ _ _ _ _ _ _ _ _ _ G__law_many_view (hr.mono (by decide)) (by rfl) T.m__law_many_view T.F__law_many_view.kp T.b__law_many_view .nil pass0 (@pa_c _ _ _ _ _ (@pvN _ 0 _ _ (by rfl) (by trivial) (by decide) (by decide)) (@pa_c _ _ _ _ _ (@pvN _ 1 _ _ (by rfl) (by trivial) (by decide) (by decide)) (@pa_c _ _ _ _ _ (@pe_int _ _ _ _) (@pa_nil _) (by rfl)) (by rfl)) (by rfl)) (by decide) (by rfl) (by rfl)) ((@pg_tup _ _ _ _ _ (2) rfl (@pgs_consN _ _ _ _ _ (@pg_name _ _ (5) _ c__law_views_refused.nd rfl (Or.inl rfl) (by trivial)) (@pgs_consN _ _ _ _ _ (@pg_name _ _ (6) _ c__law_views_refused.nd rfl (Or.inl rfl) (by trivial)) (@pgs_nilN _) (by rfl)) (by rfl)) (by rfl) (by rfl)).mono fun _ _ _ _ h=>gTup_q h) (by rfl) (by rfl) (by rfl)) (@pss_cons _ _ _ _ _ (@ps_asg _ _ _ _ _ _ (@pe_call _ _ _ _ _ _ _ _ _ _ _ _ _ _ _ _ G__law_many_view (hr.mono (by decide)) (by rfl) T.m__law_many_view T.F__law_many_view.kp T.b__law_many_view .nil pass0 (@pa_c _ _ _ _ _ (@pvN _ 0 _ _ (by rfl) (by trivial) (by decide) (by decide)) (@pa_c _ _ _ _ _ (@pvN _ 1 _ _ (by rfl) (by trivial) (by decide) (by decide)) (@pa_c _ _ _ _ _ (@pe_int _ _ _ _) (@pa_nil _) (by rfl)) (by rfl)) (by rfl)) (by decide) (by rfl) (by rfl)) ((@pg_tup _ _ _ _ _ (2) rfl (@pgs_consN _ _ _ _ _ (@pg_name _ _ (7) _ c__law_views_refused.nd rfl (Or.inl rfl) (by trivial)) (@pgs_consN _ _ _ _ _ (@pg_name _ _ (8) _ c__law_views_refused.nd rfl (Or.inl rfl) (by trivial)) (@pgs_nilN _) (by rfl)) (by rfl)) (by rfl) (by rfl)).mono fun _ _ _ _ h=>gTup_q h) (by rfl) (by rfl) (by rfl)) (@pss_cons _ _ _ _ _ (@ps_set _ _ (9) _ _ _ _ c__law_views_refused.nd rfl (Or.inl rfl) (@pe_nMake _ _ _ _ _ _ _ _ _ _ _ _ _ _ _ _ _ T.mk_View G_View___init__ (hr.mono (by decide)) (by rfl) T.m_View T.b_View___init__ .nil pass0 (@pa_c _ _ _ _ _ (@pvN _ 1 _ _ (by rfl) (by trivial) (by decide) (by decide)) (@pa_c _ _ _ _ _ (@pe_op _ _ _ _ _ _ _ _ on_sub (@pvN _ 1 _ _ (by rfl) (by trivial) (by decide) (by decide)) (@pe_int _ _ _ _)) (@pa_c _ _ _ _ _ (@pe_qLst _ _ _ _ (@pa_nil _)) (@pa_nil _) (by rfl)) (by rfl)) (by rfl)) (by decide) (by rfl) (by rfl)) (by rfl) (by trivial)) (@pss_cons _ _ _ _ _ (@ps_asg _ _ _ _ _ _ (@pe_call _ _ _ _ _ _ _ _ _ _ _ _ _ _ _ _ G__law_many_view (hr.mono (by decide)) (by rfl) T.m__law_many_view T.F__law_many_view.kp T.b__law_many_view .nil pass0 (@pa_c _ _ _ _ _ (@pvN _ 0 _ _ (by rfl) (by trivial) (by decide) (by decide)) (@pa_c _ _ _ _ _ (@pe_op _ _ _ _ _ _ _ _ on_add (@pvN _ 1 _ _ (by rfl) (by trivial) (by decide) (by decide)) (@pe_int _ _ _ _)) (@pa_c _ _ _ _ _ (@pe_int _ _ _ _) (@pa_nil _) (by rfl)) (by rfl)) (by rfl)) (by decide) (by rfl) (by rfl)) ((@pg_tup _ _ _ _ _ (2) rfl (@pgs_consN _ _ _ _ _ (@pg_name _ _ (10) _ c__law_views_refused.nd rfl (Or.inl rfl) (by trivial)) (@pgs_consN _ _ _ _ _ (@pg_name _ _ (11) _ c__law_views_refused.nd rfl (Or.inl rfl) (by trivial)) (@pgs_nilN _) (by rfl)) (by rfl)) (by rfl) (by rfl)).mono fun _ _ _ _ h=>gTup_q h) (by rfl) (by rfl) (by rfl)) (@pss_cons _ _ _ _ _ (@ps_set _ _ (12) _ _ _ _ c__law_views_refused.nd rfl (Or.inl rfl) (@pe_op _ _ _ _ _ _ _ _ op_nRepO (@pe_qLst _ _ _ _ (@pa_c _ _ _ _ _ (@pe_int _ _ _ _) (@pa_nil _) (by rfl))) (@pe_call _ _ _ _ _ _ _ _ _ _ _ _ _ _ _ _ G__law_draw (hr.mono (by decide)) (by rfl) T.m__law_draw T.F__law_draw.kp T.b__law_draw .nil pass0 (@pa_c _ _ _ _ _ (@pvN _ 0 _ _ (by rfl) (by trivial) (by decide) (by decide)) (@pa_c _ _ _ _ _ (@pe_int _ _ _ _) (@pa_c _ _ _ _ _ (@pvN _ 1 _ _ (by rfl) (by trivial) (by decide) (by decide)) (@pa_nil _) (by rfl)) (by rfl)) (by rfl)) (by decide) (by rfl) (by rfl))) (by rfl) (by trivial)) (@pss_cons _ _ _ _ _ (@ps_set _ _ (13) _ _ _ _ c__law_views_refused.nd rfl (Or.inl rfl) (@pe_qLst _ _ _ _ (@pa_c _ _ _ _ _ (@pe_qTup _ _ _ _ _ (@pa_c _ _ _ _ _ (@pe_int _ _ _ _) (@pa_c _ _ _ _ _ (@pvN _ 4 _ _ (by rfl) (by trivial) (by decide) (by decide)) (@pa_c _ _ _ _ _ (@pe_non _ _ _) (@pa_c _ _ _ _ _ (@pe_non _ _ _) (@pa_c _ _ _ _ _ (@pe_str _ _ _ _) (@pa_c _ _ _ _ _ (@pe_int _ _ _ _) (@pa_nil _) (by rfl)) (by rfl)) (by rfl)) (by rfl)) (by rfl)) (by rfl))) (@pa_c _ _ _ _ _ (@pe_qTup _ _ _ _ _ (@pa_c _ _ _ _ _ (@pe_int _ _ _ _) (@pa_c _ _ _ _ _ (@pvN _ 4 _ _ (by rfl) (by trivial) (by decide) (by decide)) (@pa_c _ _ _ _ _ (@pe_non _ _ _) (@pa_c _ _ _ _ _ (@pe_qLst _ _ _ _ (@pa_nil _)) (@pa_c _ _ _ _ _ (@pe_str _ _ _ _) (@pa_c _ _ _ _ _ (@pe_int _ _ _ _) (@pa_nil _) (by rfl)) (by rfl)) (by rfl)) (by rfl)) (by rfl)) (by rfl))) (@pa_c _ _ _ _ _ (@pe_qTup _ _ _ _ _ (@pa_c _ _ _ _ _ (@pe_int _ _ _ _) (@pa_c _ _ _ _ _ (@pvN _ 10 _ _ (by rfl) (by trivial) (by decide) (by decide)) (@pa_c _ _ _ _ _ (@pe_non _ _ _) (@pa_c _ _ _ _ _ (@pe_non _ _ _) (@pa_c _ _ _ _ _ (@pe_str _ _ _ _) (@pa_c _ _ _ _ _ (@pe_int _ _ _ _) (@pa_nil _) (by rfl)) (by rfl)) (by rfl)) (by rfl)) (by rfl)) (by rfl))) (@pa_nil _) (by rfl)) (by rfl)) (by rfl))) (by rfl) (by trivial)) (@pss_cons _ _ _ _ _ (@ps_set _ _ (13) _ _ _ _ c__law_views_refused.nd rfl (Or.inl rfl) (@pe_op _ _ _ _ _ _ _ _ op_nCat (@pvN _ 13 _ _ (by rfl) (by trivial) (by decide) (by decide)) (@pe_qLst _ _ _ _ (@pa_c _ _ _ _ _ (@pe_qTup _ _ _ _ _ (@pa_c _ _ _ _ _ (@pe_int _ _ _ _) (@pa_c _ _ _ _ _ (@pvN _ 3 _ _ (by rfl) (by trivial) (by decide) (by decide)) (@pa_c _ _ _ _ _ (@pvN _ 4 _ _ (by rfl) (by trivial) (by decide) (by decide)) (@pa_c _ _ _ _ _ (@pe_non _ _ _) (@pa_c _ _ _ _ _ (@pe_str _ _ _ _) (@pa_c _ _ _ _ _ (@pe_int _ _ _ _) (@pa_nil _) (by rfl)) (by rfl)) (by rfl)) (by rfl)) (by rfl)) (by rfl))) (@pa_c _ _ _ _ _ (@pe_qTup _ _ _ _ _ (@pa_c _ _ _ _ _ (@pe_int _ _ _ _) (@pa_c _ _ _ _ _ (@pvN _ 4 _ _ (by rfl) (by trivial) (by decide) (by decide)) (@pa_c _ _ _ _ _ (@pvN _ 3 _ _ (by rfl) (by trivial) (by decide) (by decide)) (@pa_c _ _ _ _ _ (@pe_non _ _ _) (@pa_c _ _ _ _ _ (@pe_str _ _ _ _) (@pa_c _ _ _ _ _ (@pe_int _ _ _ _) (@pa_nil _) (by rfl)) (by rfl)) (by rfl)) (by rfl)) (by rfl)) (by rfl))) (@pa_nil _) (by rfl)) (by rfl)))) (by rfl) (by trivial)) (@pss_cons _ _ _ _ _ (@ps_set _ _ (13) _ _ _ _ c__law_views_refused.nd rfl (Or.inl rfl) (@pe_op _ _ _ _ _ _ _ _ op_nCat (@pvN _ 13 _ _ (by rfl) (by trivial) (by decide) (by decide)) (@pe_qLst _ _ _ _ (@pa_c _ _ _ _ _ (@pe_qTup _ _ _ _ _ (@pa_c _ _ _ _ _ (@pe_int _ _ _ _) (@pa_c _ _ _ _ _ (@pvN _ 5 _ _ (by rfl) (by trivial) (by decide) (by decide)) (@pa_c _ _ _ _ _ (@pvN _ 4 _ _ (by rfl) (by trivial) (by decide) (by decide)) (@pa_c _ _ _ _ _ (@pe_non _ _ _) (@pa_c _ _ _ _ _ (@pe_str _ _ _ _) (@pa_c _ _ _ _ _ (@pe_int _ _ _ _) (@pa_nil _) (by rfl)) (by rfl)) (by rfl)) (by rfl)) (by rfl)) (by rfl))) (@pa_c _ _ _ _ _ (@pe_qTup _ _ _ _ _ (@pa_c _ _ _ _ _ (@pe_int _ _ _ _) (@pa_c _ _ _ _ _ (@pvN _ 3 _ _ (by rfl) (by trivial) (by decide) (by decide)) (@pa_c _ _ _ _ _ (@pe_non _ _ _) (@pa_c _ _ _ _ _ (@pvN _ 12 _ _ (by rfl) (by trivial) (by decide) (by decide)) (@pa_c _ _ _ _ _ (@pe_str _ _ _ _) (@pa_c _ _ _ _ _ (@pe_int _ _ _ _) (@pa_nil _) (by rfl)) (by rfl)) (by rfl)) (by rfl)) (by rfl)) (by rfl))) (@pa_nil _) (by rfl)) (by rfl)))) (by rfl) (by trivial)) (@pss_cons _ _ _ _ _ (@ps_set _ _ (13) _ _ _ _ c__law_views_refused.nd rfl (Or.inl rfl) (@pe_op _ _ _ _ _ _ _ _ op_nCat (@pvN _ 13 _ _ (by rfl) (by trivial) (by decide) (by decide)) (@pe_qLst _ _ _ _ (@pa_c _ _ _ _ _ (@pe_qTup _ _ _ _ _ (@pa_c _ _ _ _ _ (@pe_int _ _ _ _) (@pa_c _ _ _ _ _ (@pvN _ 3 _ _ (by rfl) (by trivial) (by decide) (by decide)) (@pa_c _ _ _ _ _ (@pe_non _ _ _) (@pa_c _ _ _ _ _ (@pe_op _ _ _ _ _ _ _ _ op_nCat (@pvN _ 12 _ _ (by rfl) (by trivial) (by decide) (by decide)) (@pe_op _ _ _ _ _ _ _ _ op_nRepO (@pe_qLst _ _ _ _ (@pa_c _ _ _ _ _ (@pe_int _ _ _ _) (@pa_nil _) (by rfl))) (@pe_op _ _ _ _ _ _ _ _ on_add (@pvN _ 1 _ _ (by rfl) (by trivial) (by decide) (by decide)) (@pe_int _ _ _ _)))) (@pa_c _ _ _ _ _ (@pe_str _ _ _ _) (@pa_c _ _ _ _ _ (@pe_int _ _ _ _) (@pa_nil _) (by rfl)) (by rfl)) (by rfl)) (by rfl)) (by rfl)) (by rfl))) (@pa_c _ _ _ _ _ (@pe_qTup _ _ _ _ _ (@pa_c _ _ _ _ _ (@pe_int _ _ _ _) (@pa_c _ _ _ _ _ (@pvN _ 5 _ _ (by rfl) (by trivial) (by decide) (by decide)) (@pa_c _ _ _ _ _ (@pe_non _ _ _) (@pa_c _ _ _ _ _ (@pe_qLst _ _ _ _ (@pa_c _ _ _ _ _ (@pe_int _ _ _ _) (@pa_nil _) (by rfl))) (@pa_c _ _ _ _ _ (@pe_str _ _ _ _) (@pa_c _ _ _ _ _ (@pe_int _ _ _ _) (@pa_nil _) (by rfl)) (by rfl)) (by rfl)) (by rfl)) (by rfl)) (by rfl))) (@pa_nil _) (by rfl)) (by rfl)))) (by rfl) (by trivial)) (@pss_cons _ _ _ _ _ (@ps_set _ _ (13) _ _ _ _ c__law_views_refused.nd rfl (Or.inl rfl) (@pe_op _ _ _ _ _ _ _ _ op_nCat (@pvN _ 13 _ _ (by rfl) (by trivial) (by decide) (by decide)) (@pe_qLst _ _ _ _ (@pa_c _ _ _ _ _ (@pe_qTup _ _ _ _ _ (@pa_c _ _ _ _ _ (@pe_int _ _ _ _) (@pa_c _ _ _ _ _ (@pvN _ 9 _ _ (by rfl) (by trivial) (by decide) (by decide)) (@pa_c _ _ _ _ _ (@pvN _ 5 _ _ (by rfl) (by trivial) (by decide) (by decide)) (@pa_c _ _ _ _ _ (@pe_non _ _ _) (@pa_c _ _ _ _ _ (@pe_str _ _ _ _) (@pa_c _ _ _ _ _ (@pe_int _ _ _ _) (@pa_nil _) (by rfl)) (by rfl)) (by rfl)) (by rfl)) (by rfl)) (by rfl))) (@pa_c _ _ _ _ _ (@pe_qTup _ _ _ _ _ (@pa_c _ _ _ _ _ (@pe_int _ _ _ _) (@pa_c _ _ _ _ _ (@pvN _ 5 _ _ (by rfl) (by trivial) (by decide) (by decide)) (@pa_c _ _ _ _ _ (@pvN _ 9 _ _ (by rfl) (by trivial) (by decide) (by decide)) (@pa_c _ _ _ _ _ (@pe_non _ _ _) (@pa_c _ _ _ _ _ (@pe_str _ _ _ _) (@pa_c _ _ _ _ _ (@pe_int _ _ _ _) (@pa_nil _) (by rfl)) (by rfl)) (by rfl)) (by rfl)) (by rfl)) (by rfl))) (@pa_nil _) (by rfl)) (by rfl)))) (by rfl) (by trivial)) (@pss_cons _ _ _ _ _ (@ps_expr _ _ _ _ (@pe_bm _ _ _ _ _ _ _ _ _ _ _ _ PySem.F.plainAttrs_list PySem.F.slot_list_append PySem.F.type_list_append mt_append (@pvN _ 13 _ _ (by rfl) (by trivial) (by decide) (by decide)) (@pa_c _ _ _ _ _ (@pe_qTup _ _ _ _ _ (@pa_c _ _ _ _ _ (@pe_int _ _ _ _) (@pa_c _ _ _ _ _ (@pe_nMake _ _ _ _ _ _ _ _ _ _ _ _ _ _ _ _ _ T.mk_View G_View___init__ (hr.mono (by decide)) (by rfl) T.m_View T.b_View___init__ .nil pass0 (@pa_c _ _ _ _ _ (@pvN _ 1 _ _ (by rfl) (by trivial) (by decide) (by decide)) (@pa_c _ _ _ _ _ (@pe_op _ _ _ _ _ _ _ _ on_sub (@pvN _ 1 _ _ (by rfl) (by trivial) (by decide) (by decide)) (@pe_int _ _ _ _)) (@pa_c _ _ _ _ _ (@pe_qLst _ _ _ _ (@pa_c _ _ _ _ _ (@pe_qTup _ _ _ _ _ (@pa_c _ _ _ _ _ (@pe_int _ _ _ _) (@pa_c _ _ _ _ _ (@pe_int _ _ _ _) (@pa_nil _) (by rfl)) (by rfl))) (@pa_nil _) (by rfl))) (@pa_nil _) (by rfl)) (by rfl)) (by rfl)) (by decide) (by rfl) (by rfl)) (@pa_c _ _ _ _ _ (@pe_non _ _ _) (@pa_c _ _ _ _ _ (@pe_op _ _ _ _ _ _ _ _ op_nRepO (@pe_qLst _ _ _ _ (@pa_c _ _ _ _ _ (@pe_int _ _ _ _) (@pa_nil _) (by rfl))) (@pe_int _ _ _ _)) (@pa_c _ _ _ _ _ (@pe_str _ _ _ _) (@pa_c _ _ _ _ _ (@pe_int _ _ _ _) (@pa_nil _) (by rfl)) (by rfl)) (by rfl)) (by rfl)) (by rfl)) (by rfl))) (@pa_nil _) (by rfl)) (by rfl) (by rfl) (by rfl) (by rfl) (by rfl)) (by rfl)) (@pss_cons _ _ _ _ _ (@ps_set _ _ (13) _ _ _ _ c__law_views_refused.nd rfl (Or.inl rfl) (@pe_op _ _ _ _ _ _ _ _ op_nCat (@pvN _ 13 _ _ (by rfl) (by trivial) (by decide) (by decide)) (@pe_qLst _ _ _ _ (@pa_c _ _ _ _ _ (@pe_qTup _ _ _ _ _ (@pa_c _ _ _ _ _ (@pe_int _ _ _ _) (@pa_c _ _ _ _ _ (@pvN _ 5 _ _ (by rfl) (by trivial) (by decide) (by decide)) (@pa_c _ _ _ _ _ (@pe_non _ _ _) (@pa_c _ _ _ _ _ (@pe_non _ _ _) (@pa_c _ _ _ _ _ (@pe_str _ _ _ _) (@pa_c _ _ _ _ _ (@pvN _ 6 _ _ (by rfl) (by trivial) (by decide) (by decide)) (@pa_nil _) (by rfl)) (by rfl)) (by rfl)) (by rfl)) (by rfl)) (by rfl))) (@pa_c _ _ _ _ _ (@pe_qTup _ _ _ _ _ (@pa_c _ _ _ _ _ (@pe_int _ _ _ _) (@pa_c _ _ _ _ _ (@pvN _ 5 _ _ (by rfl) (by trivial) (by decide) (by decide)) (@pa_c _ _ _ _ _ (@pe_non _ _ _) (@pa_c _ _ _ _ _ (@pe_non _ _ _) (@pa_c _ _ _ _ _ (@pe_str _ _ _ _) (@pa_c _ _ _ _ _ (@pvN _ 6 _ _ (by rfl) (by trivial) (by decide) (by decide)) (@pa_nil _) (by rfl)) (by rfl)) (by rfl)) (by rfl)) (by rfl)) (by rfl))) (@pa_nil _) (by rfl)) (by rfl)))) (by rfl) (by trivial)) (@pss_cons _ _ _ _ _ (@ps_set _ _ (13) _ _ _ _ c__law_views_refused.nd rfl (Or.inl rfl) (@pe_op _ _ _ _ _ _ _ _ op_nCat (@pvN _ 13 _ _ (by rfl) (by trivial) (by decide) (by decide)) (@pe_qLst _ _ _ _ (@pa_c _ _ _ _ _ (@pe_qTup _ _ _ _ _ (@pa_c _ _ _ _ _ (@pe_int _ _ _ _) (@pa_c _ _ _ _ _ (@pvN _ 5 _ _ (by rfl) (by trivial) (by decide) (by decide)) (@pa_c _ _ _ _ _ (@pvN _ 5 _ _ (by rfl) (by trivial) (by decide) (by decide)) (@pa_c _ _ _ _ _ (@pe_non _ _ _) (@pa_c _ _ _ _ _ (@pe_str _ _ _ _) (@pa_c _ _ _ _ _ (@pvN _ 6 _ _ (by rfl) (by trivial) (by decide) (by decide)) (@pa_nil _) (by rfl)) (by rfl)) (by rfl)) (by rfl)) (by rfl)) (by rfl))) (@pa_c _ _ _ _ _ (@pe_qTup _ _ _ _ _ (@pa_c _ _ _ _ _ (@pe_int _ _ _ _) (@pa_c _ _ _ _ _ (@pvN _ 5 _ _ (by rfl) (by trivial) (by decide) (by decide)) (@pa_c _ _ _ _ _ (@pvN _ 5 _ _ (by rfl) (by trivial) (by decide) (by decide)) (@pa_c _ _ _ _ _ (@pe_non _ _ _) (@pa_c _ _ _ _ _ (@pe_str _ _ _ _) (@pa_c _ _ _ _ _ (@pvN _ 6 _ _ (by rfl) (by trivial) (by decide) (by decide)) (@pa_nil _) (by rfl)) (by rfl)) (by rfl)) (by rfl)) (by rfl)) (by rfl))) (@pa_nil _) (by rfl)) (by rfl)))) (by rfl) (by trivial)) (@pss_cons _ _ _ _ _ (@ps_set _ _ (13) _ _ _ _ c__law_views_refused.nd rfl (Or.inl rfl) (@pe_op _ _ _ _ _ _ _ _ op_nCat (@pvN _ 13 _ _ (by rfl) (by trivial) (by decide) (by decide)) (@pe_qLst _ _ _ _ (@pa_c _ _ _ _ _ (@pe_qTup _ _ _ _ _ (@pa_c _ _ _ _ _ (@pe_int _ _ _ _) (@pa_c _ _ _ _ _ (@pvN _ 3 _ _ (by rfl) (by trivial) (by decide) (by decide)) (@pa_c _ _ _ _ _ (@pvN _ 4 _ _ (by rfl) (by trivial) (by decide) (by decide)) (@pa_c _ _ _ _ _ (@pe_non _ _ _) (@pa_c _ _ _ _ _ (@pe_str _ _ _ _) (@pa_c _ _ _ _ _ (@pe_int _ _ _ _) (@pa_nil _) (by rfl)) (by rfl)) (by rfl)) (by rfl)) (by rfl)) (by rfl))) (@pa_c _ _ _ _ _ (@pe_qTup _ _ _ _ _ (@pa_c _ _ _ _ _ (@pe_int _ _ _ _) (@pa_c _ _ _ _ _ (@pvN _ 10 _ _ (by rfl) (by trivial) (by decide) (by decide)) (@pa_c _ _ _ _ _ (@pvN _ 5 _ _ (by rfl) (by trivial) (by decide) (by decide)) (@pa_c _ _ _ _ _ (@pe_non _ _ _) (@pa_c _ _ _ _ _ (@pe_str _ _ _ _) (@pa_c _ _ _ _ _ (@pe_int _ _ _ _) (@pa_nil _) (by rfl)) (by rfl)) (by rfl)) (by rfl)) (by rfl)) (by rfl))) (@pa_nil _) (by rfl)) (by rfl)))) (by rfl) (by trivial)) (@pss_cons _ _ _ _ _ (@ps_set _ _ (13) _ _ _ _ c__law_views_refused.nd rfl (Or.inl rfl) (@pe_op _ _ _ _ _ _ _ _ op_nCat (@pvN _ 13 _ _ (by rfl) (by trivial) (by decide) (by decide)) (@pe_qLst _ _ _ _ (@pa_c _ _ _ _ _ (@pe_qTup _ _ _ _ _ (@pa_c _ _ _ _ _ (@pe_int _ _ _ _) (@pa_c _ _ _ _ _ (@pvN _ 5 _ _ (by rfl) (by trivial) (by decide) (by decide)) (@pa_c _ _ _ _ _ (@pvN _ 9 _ _ (by rfl) (by trivial) (by decide) (by decide)) (@pa_c _ _ _ _ _ (@pe_non _ _ _) (@pa_c _ _ _ _ _ (@pe_str _ _ _ _) (@pa_c _ _ _ _ _ (@pe_int _ _ _ _) (@pa_nil _) (by rfl)) (by rfl)) (by rfl)) (by rfl)) (by rfl)) (by rfl))) (@pa_c _ _ _ _ _ (@pe_qTup _ _ _ _ _ (@pa_c _ _ _ _ _ (@pe_int _ _ _ _) (@pa_c _ _ _ _ _ (@pvN _ 9 _ _ (by rfl) (by trivial) (by decide) (by decide)) (@pa_c _ _ _ _ _ (@pvN _ 7 _ _ (by rfl) (by trivial) (by decide) (by decide)) (@pa_c _ _ _ _ _ (@pe_non _ _ _) (@pa_c _ _ _ _ _ (@pe_str _ _ _ _) (@pa_c _ _ _ _ _ (@pe_int _ _ _ _) (@pa_nil _) (by rfl)) (by rfl)) (by rfl)) (by rfl)) (by rfl)) (by rfl))) (@pa_nil _) (by rfl)) (by rfl)))) (by rfl) (by trivial)) (@pss_cons _ _ _ _ _ (@ps_if _ _ _ _ _ _ _ _ (@pt_cmpRN _ _ _ _ _ _ _ _ (op_qNe hr.units) (@pvN _ 6 _ _ (by rfl) (by trivial) (by decide) (by decide)) (@pvN _ 8 _ _ (by rfl) (by trivial) (by decide) (by decide)) (nomark _)) (@pss_one _ _ _ (@ps_expr _ _ _ _ (@pe_bm _ _ _ _ _ _ _ _ _ _ _ _ PySem.F.plainAttrs_list PySem.F.slot_list_append PySem.F.type_list_append mt_append (@pvN _ 13 _ _ (by rfl) (by trivial) (by decide) (by decide)) (@pa_c _ _ _ _ _ (@pe_qTup _ _ _ _ _ (@pa_c _ _ _ _ _ (@pe_int _ _ _ _) (@pa_c _ _ _ _ _ (@pvN _ 5 _ _ (by rfl) (by trivial) (by decide) (by decide)) (@pa_c _ _ _ _ _ (@pvN _ 7 _ _ (by rfl) (by trivial) (by decide) (by decide)) (@pa_c _ _ _ _ _ (@pe_non _ _ _) (@pa_c _ _ _ _ _ (@pe_str _ _ _ _) (@pa_c _ _ _ _ _ (@pe_int _ _ _ _) (@pa_nil _) (by rfl)) (by rfl)) (by rfl)) (by rfl)) (by rfl)) (by rfl))) (@pa_nil _) (by rfl)) (by rfl) (by rfl) (by rfl) (by rfl) (by rfl)) (by rfl))) (@pss_nil _)) (@pss_cons _ _ _ _ _ (@ps_for _ _ _ _ _ _ _ _ PassesOwn.never rfl (@pi_seq _ _ _ _ (@pvN _ 13 _ _ (by rfl) (by trivial) (by decide) (by decide))) ((@pg_tup _ _ _ _ _ (6) rfl (@pgs_consN _ _ _ _ _ (@pg_name _ _ (14) _ c__law_views_refused.nd rfl (Or.inl rfl) (by trivial)) (@pgs_consN _ _ _ _ _ (@pg_name _ _ (15) _ c__law_views_refused.nd rfl (Or.inl rfl) (by trivial)) (@pgs_consN _ _ _ _ _ (@pg_name _ _ (16) _ c__law_views_refused.nd rfl (Or.inl rfl) (by trivial)) (@pgs_consN _ _ _ _ _ (@pg_name _ _ (17) _ c__law_views_refused.nd rfl (Or.inl rfl) (by trivial)) (@pgs_consN _ _ _ _ _ (@pg_name _ _ (18) _ c__law_views_refused.nd rfl (Or.inl rfl) (by trivial)) (@pgs_consN _ _ _ _ _ (@pg_name _ _ (19) _ c__law_views_refused.nd rfl (Or.inl rfl) (by trivial)) (@pgs_nilN _) (by rfl)) (by rfl)) (by rfl)) (by rfl)) (by rfl)) (by rfl)) (by rfl) (by rfl)).mono fun _ _ _ _ h=>gTup_q h) (@pss_one _ _ _ (@ps_if _ _ _ _ _ _ _ _ (@pt_not _ _ _ _ (@pt_valN _ _ _ (@pe_call _ _ _ _ _ _ _ _ _ _ _ _ _ _ _ _ G__law_is (hr.mono (by decide)) (by rfl) T.m__law_is T.F__law_is.kp T.b__law_is .nil pass0 (@pa_c _ _ _ _ _ (@pe_call _ _ _ _ _ _ _ _ _ _ _ _ _ _ _ _ G__law_done (hr.mono (by decide)) (by rfl) T.m__law_done T.F__law_done.kp T.b__law_done .nil pass0 (@pa_c _ _ _ _ _ (@pvN _ 14 _ _ (by rfl) (by trivial) (by decide) (by decide)) (@pa_c _ _ _ _ _ (@pvN _ 2 _ _ (by rfl) (by trivial) (by decide) (by decide)) (@pa_c _ _ _ _ _ (@pvN _ 15 _ _ (by rfl) (by trivial) (by decide) (by decide)) (@pa_c _ _ _ _ _ (@pvN _ 16 _ _ (by rfl) (by trivial) (by decide) (by decide)) (@pa_c _ _ _ _ _ (@pvN _ 17 _ _ (by rfl) (by trivial) (by decide) (by decide)) (@pa_nil _) (by rfl)) (by rfl)) (by rfl)) (by rfl)) (by rfl)) (by decide) (by rfl) (by rfl)) (@pa_c _ _ _ _ _ (@pvN _ 18 _ _ (by rfl) (by trivial) (by decide) (by decide)) (@pa_c _ _ _ _ _ (@pvN _ 19 _ _ (by rfl) (by trivial) (by decide) (by decide)) (@pa_nil _) (by rfl)) (by rfl)) (by rfl)) (by decide) (by rfl) (by rfl)) (by intros;rfl))) (@pss_one _ _ _ (@ps_ret _ _ _ _ (@pe_bl _ _ _ _))) (@pss_nil _))) (by intros;rfl)) (@pss_one _ _ _ (@ps_ret _ _ _ _ (@pe_bl _ _ _ _)))))))))))))))))))))),?_⟩
  rw [show start ["_law_script", "_law_room", "_law_store", "_law_entire", "_law_beyond", "_law_many", "_law_count", "_law_most", "_law_other", "_law_single", "_law_far", "_law_size", "_law_few", "_law_cases", "_law_way", "_law_one", "_law_two", "_law_values", "_law_word_here", "_law_number"] [.ref a,.int room,.ref sa]=[some (.ref a),some (.int room),some (.ref sa),none,none,none,none,none,none,none,none,none,none,none,none,none,none,none,none,none] from rfl]
  clear G__law_draw G__law_many_view G_View___init__ G__law_done G__law_is
  replace k:=fun (_:Unit)=>k
  replace so:=fun (_:Unit)=>so
  have eb:=Ext.refl H
  simp! only [and_true]
  intro te J101 ute j101 hte
  clear ute
  replace so:=fun (_:Unit)=>(so ()).ext j101
  replace hS:=j101.2 K a _ hS
  replace eb:=eb.trans j101
  clear j101
  simp! only [and_true]
  intro le J102 ule j102 hle
  clear ule
  replace so:=fun (_:Unit)=>(so ()).ext j102
  replace hte:=j102.at hte
  replace hS:=j102.2 K a _ hS
  replace eb:=eb.trans j102
  clear j102
  simp! only [and_true]
  intro en dx103 G103 hx103 hd103 hq103 g103 k103 kk103
  rw [c_spVInit]
  refine ⟨dx103,[(room,1)],k103,TupsAt.ext ⟨_,hle,Al.cons' ⟨te,rfl,hte⟩ Al.nil⟩ g103,ent_ok ⟨by omega,by omega⟩,fun J103 D103 gg103 hD103 hx103' tt103=>?_⟩
  have j103:=gg103 J102 g103 hx103
  have ven:ViewAt t.a_View J103 en room 0 ([(room,1)].map keptA):=⟨dx103,D103,hx103',tt103⟩
  replace ven:=fun (_:Unit)=>ven
  clear k103 kk103 hx103 hd103 hq103 g103 gg103 hD103 hx103' tt103
  replace so:=fun (_:Unit)=>(so ()).ext j103
  replace hte:=j103.at hte
  replace hS:=j103.2 K a _ hS
  replace eb:=eb.trans j103
  clear j103
  replace ven:=fun (_:Unit)=>one_vwn ⟨by omega,by omega⟩ (ven ())
  clear hte hle
  simp! only [and_true]
  rw [c_spDraw]
  refine ⟨hS,hl,⟨by decide,by decide⟩,by decide,fun d d0 d1=>?_⟩
  obtain ⟨rb,hrb⟩:∃ rb,room+1+d=rb:=⟨_,rfl⟩
  simp! only [and_true]
  intro lb J104 ulb j104 hlb
  clear ulb
  replace so:=fun (_:Unit)=>(so ()).ext j104
  replace ven:=fun (_:Unit)=>(ven ()).ext j104
  replace hS:=j104.2 K a _ hS
  replace eb:=eb.trans j104
  clear j104
  try rw [hrb]
  simp! only [and_true]
  intro bd dx105 G105 hx105 hd105 hq105 g105 k105 kk105
  rw [c_spVInit]
  refine ⟨dx105,[],k105,TupsAt.ext ⟨_,hlb,Al.nil⟩ g105,nil_ok ⟨by omega,by omega⟩ ⟨by omega,by omega⟩,fun J105 D105 gg105 hD105 hx105' tt105=>?_⟩
  have j105:=gg105 J104 g105 hx105
  have vbd:ViewAt t.a_View J105 bd rb 0 ([].map keptA):=⟨dx105,D105,hx105',tt105⟩
  replace vbd:=fun (_:Unit)=>vbd
  clear k105 kk105 hx105 hd105 hq105 g105 gg105 hD105 hx105' tt105
  replace so:=fun (_:Unit)=>(so ()).ext j105
  replace ven:=fun (_:Unit)=>(ven ()).ext j105
  replace hS:=j105.2 K a _ hS
  replace eb:=eb.trans j105
  clear j105
  replace vbd:=fun (_:Unit)=>nil_vwn (vbd ())
  have hrb1:room < rb:=by omega
  clear hlb hrb d0 d1
  simp! only [and_true]
  rw [c_spMV]
  refine ⟨rfl,hS,hl,by omega,by omega,by decide,by decide,fun mn rm cM J106 j106 hrm vmn bcM=>?_⟩
  replace vmn:=fun (_:Unit)=>vmn
  replace so:=fun (_:Unit)=>(so ()).ext j106
  replace ven:=fun (_:Unit)=>(ven ()).ext j106
  replace vbd:=fun (_:Unit)=>(vbd ()).ext j106
  replace hS:=j106.2 K a _ hS
  replace eb:=eb.trans j106
  clear j106
  simp! only [and_true]
  rw [c_spMV]
  refine ⟨rfl,hS,hl,by omega,by omega,by decide,by decide,fun ms ro cO J107 j107 hro vms bcO=>?_⟩
  replace vms:=fun (_:Unit)=>vms
  replace so:=fun (_:Unit)=>(so ()).ext j107
  replace ven:=fun (_:Unit)=>(ven ()).ext j107
  replace vbd:=fun (_:Unit)=>(vbd ()).ext j107
  replace vmn:=fun (_:Unit)=>(vmn ()).ext j107
  replace hrm:=j107.at hrm
  replace hS:=j107.2 K a _ hS
  replace eb:=eb.trans j107
  clear j107
  clear hrm
  simp! only [and_true]
  intro lz J108 ulz j108 hlz
  clear ulz
  replace so:=fun (_:Unit)=>(so ()).ext j108
  replace ven:=fun (_:Unit)=>(ven ()).ext j108
  replace vbd:=fun (_:Unit)=>(vbd ()).ext j108
  replace vmn:=fun (_:Unit)=>(vmn ()).ext j108
  replace vms:=fun (_:Unit)=>(vms ()).ext j108
  replace hro:=j108.at hro
  replace hS:=j108.2 K a _ hS
  replace eb:=eb.trans j108
  clear j108
  clear hro
  simp! only [and_true]
  intro sg dx109 G109 hx109 hd109 hq109 g109 k109 kk109
  rw [c_spVInit]
  refine ⟨dx109,[],k109,TupsAt.ext ⟨_,hlz,Al.nil⟩ g109,nil_ok ⟨by omega,by omega⟩ ⟨by omega,by omega⟩,fun J109 D109 gg109 hD109 hx109' tt109=>?_⟩
  have j109:=gg109 J108 g109 hx109
  have vsg:ViewAt t.a_View J109 sg room (room - 1) ([].map keptA):=⟨dx109,D109,hx109',tt109⟩
  replace vsg:=fun (_:Unit)=>vsg
  clear k109 kk109 hx109 hd109 hq109 g109 gg109 hD109 hx109' tt109
  replace so:=fun (_:Unit)=>(so ()).ext j109
  replace ven:=fun (_:Unit)=>(ven ()).ext j109
  replace vbd:=fun (_:Unit)=>(vbd ()).ext j109
  replace vmn:=fun (_:Unit)=>(vmn ()).ext j109
  replace vms:=fun (_:Unit)=>(vms ()).ext j109
  replace hS:=j109.2 K a _ hS
  replace eb:=eb.trans j109
  clear j109
  replace vsg:=fun (_:Unit)=>nil_vwn (vsg ())
  clear hlz
  simp! only [and_true]
  rw [c_spMV]
  refine ⟨rfl,hS,hl,by omega,by omega,by decide,by decide,fun fr rf cF J110 j110 hrf vfr bcF=>?_⟩
  replace vfr:=fun (_:Unit)=>vfr
  replace so:=fun (_:Unit)=>(so ()).ext j110
  replace ven:=fun (_:Unit)=>(ven ()).ext j110
  replace vbd:=fun (_:Unit)=>(vbd ()).ext j110
  replace vmn:=fun (_:Unit)=>(vmn ()).ext j110
  replace vms:=fun (_:Unit)=>(vms ()).ext j110
  replace vsg:=fun (_:Unit)=>(vsg ()).ext j110
  replace hS:=j110.2 K a _ hS
  replace eb:=eb.trans j110
  clear j110
  simp! only [and_true]
  intro l0 J111 ul0 j111 hl0
  clear ul0
  replace so:=fun (_:Unit)=>(so ()).ext j111
  replace ven:=fun (_:Unit)=>(ven ()).ext j111
  replace vbd:=fun (_:Unit)=>(vbd ()).ext j111
  replace vmn:=fun (_:Unit)=>(vmn ()).ext j111
  replace vms:=fun (_:Unit)=>(vms ()).ext j111
  replace vsg:=fun (_:Unit)=>(vsg ()).ext j111
  replace vfr:=fun (_:Unit)=>(vfr ()).ext j111
  replace hrf:=j111.at hrf
  replace hS:=j111.2 K a _ hS
  replace eb:=eb.trans j111
  clear j111
  clear hrf
  simp! only [and_true]
  rw [c_spDraw]
  refine ⟨hS,hl,⟨by decide,by decide⟩,by omega,fun g g0 g1=>?_⟩
  have cg:0≤g∧g≤1000000:=⟨g0,by omega⟩
  simp! only [and_true]
  try refine ⟨g0,by omega,?_⟩
  intro fw J112 ufw j112 hfw
  clear ufw
  replace so:=fun (_:Unit)=>(so ()).ext j112
  replace ven:=fun (_:Unit)=>(ven ()).ext j112
  replace vbd:=fun (_:Unit)=>(vbd ()).ext j112
  replace vmn:=fun (_:Unit)=>(vmn ()).ext j112
  replace vms:=fun (_:Unit)=>(vms ()).ext j112
  replace vsg:=fun (_:Unit)=>(vsg ()).ext j112
  replace vfr:=fun (_:Unit)=>(vfr ()).ext j112
  replace hS:=j112.2 K a _ hS
  replace eb:=eb.trans j112
  clear j112
  clear hl0 cg
  simp! only [and_true]
  intro c1 J113 uc1 j113 hc1
  clear uc1
  replace so:=fun (_:Unit)=>(so ()).ext j113
  replace ven:=fun (_:Unit)=>(ven ()).ext j113
  replace vbd:=fun (_:Unit)=>(vbd ()).ext j113
  replace vmn:=fun (_:Unit)=>(vmn ()).ext j113
  replace vms:=fun (_:Unit)=>(vms ()).ext j113
  replace vsg:=fun (_:Unit)=>(vsg ()).ext j113
  replace vfr:=fun (_:Unit)=>(vfr ()).ext j113
  replace hfw:=j113.at hfw
  replace hS:=j113.2 K a _ hS
  replace eb:=eb.trans j113
  clear j113
  simp! only [and_true]
  intro q0 J114 uq0 j114 hq0
  clear uq0
  replace so:=fun (_:Unit)=>(so ()).ext j114
  replace ven:=fun (_:Unit)=>(ven ()).ext j114
  replace vbd:=fun (_:Unit)=>(vbd ()).ext j114
  replace vmn:=fun (_:Unit)=>(vmn ()).ext j114
  replace vms:=fun (_:Unit)=>(vms ()).ext j114
  replace vsg:=fun (_:Unit)=>(vsg ()).ext j114
  replace vfr:=fun (_:Unit)=>(vfr ()).ext j114
  replace hfw:=j114.at hfw
  replace hc1:=j114.at hc1
  replace hS:=j114.2 K a _ hS
  replace eb:=eb.trans j114
  clear j114
  simp! only [and_true]
  intro c2 J115 uc2 j115 hc2
  clear uc2
  replace so:=fun (_:Unit)=>(so ()).ext j115
  replace ven:=fun (_:Unit)=>(ven ()).ext j115
  replace vbd:=fun (_:Unit)=>(vbd ()).ext j115
  replace vmn:=fun (_:Unit)=>(vmn ()).ext j115
  replace vms:=fun (_:Unit)=>(vms ()).ext j115
  replace vsg:=fun (_:Unit)=>(vsg ()).ext j115
  replace vfr:=fun (_:Unit)=>(vfr ()).ext j115
  replace hfw:=j115.at hfw
  replace hc1:=j115.at hc1
  replace hq0:=j115.at hq0
  replace hS:=j115.2 K a _ hS
  replace eb:=eb.trans j115
  clear j115
  simp! only [and_true]
  intro c3 J116 uc3 j116 hc3
  clear uc3
  replace so:=fun (_:Unit)=>(so ()).ext j116
  replace ven:=fun (_:Unit)=>(ven ()).ext j116
  replace vbd:=fun (_:Unit)=>(vbd ()).ext j116
  replace vmn:=fun (_:Unit)=>(vmn ()).ext j116
  replace vms:=fun (_:Unit)=>(vms ()).ext j116
  replace vsg:=fun (_:Unit)=>(vsg ()).ext j116
  replace vfr:=fun (_:Unit)=>(vfr ()).ext j116
  replace hfw:=j116.at hfw
  replace hc1:=j116.at hc1
  replace hq0:=j116.at hq0
  replace hc2:=j116.at hc2
  replace hS:=j116.2 K a _ hS
  replace eb:=eb.trans j116
  clear j116
  simp! only [and_true]
  intro L0 J117 uL0 j117 hL0
  clear uL0
  replace so:=fun (_:Unit)=>(so ()).ext j117
  replace ven:=fun (_:Unit)=>(ven ()).ext j117
  replace vbd:=fun (_:Unit)=>(vbd ()).ext j117
  replace vmn:=fun (_:Unit)=>(vmn ()).ext j117
  replace vms:=fun (_:Unit)=>(vms ()).ext j117
  replace vsg:=fun (_:Unit)=>(vsg ()).ext j117
  replace vfr:=fun (_:Unit)=>(vfr ()).ext j117
  replace hfw:=j117.at hfw
  replace hc1:=j117.at hc1
  replace hq0:=j117.at hq0
  replace hc2:=j117.at hc2
  replace hc3:=j117.at hc3
  replace hS:=j117.2 K a _ hS
  replace eb:=eb.trans j117
  clear j117
  obtain ⟨zs,hzs⟩:∃ zs,zs=[V.ref c1,.ref c2,.ref c3]:=⟨_,rfl⟩
  have ca:CasA t J117 sa 3 zs:=by rw [hzs];exact (CasA.cons (casp 0 hc1 (don_rv (.inl rfl) (so ()) (vbd ()) (by omega))) (CasA.cons (casp 1 hc2 (don_pv (so ()) (vbd ()) hq0 (by omega))) (CasA.cons (casp 2 hc3 (don_rv (.inr rfl) (so ()) (vfr ()) (by omega))) CasA.nil)))
  rw [←hzs] at hL0
  replace ca:=fun (_:Unit)=>ca
  clear hzs hc1 hc2 hc3 hq0
  simp! only [and_true]
  intro c4 J118 uc4 j118 hc4
  clear uc4
  replace so:=fun (_:Unit)=>(so ()).ext j118
  replace ven:=fun (_:Unit)=>(ven ()).ext j118
  replace vbd:=fun (_:Unit)=>(vbd ()).ext j118
  replace vmn:=fun (_:Unit)=>(vmn ()).ext j118
  replace vms:=fun (_:Unit)=>(vms ()).ext j118
  replace vsg:=fun (_:Unit)=>(vsg ()).ext j118
  replace vfr:=fun (_:Unit)=>(vfr ()).ext j118
  replace ca:=fun (_:Unit)=>(ca ()).ext j118
  replace hfw:=j118.at hfw
  replace hL0:=j118.at hL0
  replace hS:=j118.2 K a _ hS
  replace eb:=eb.trans j118
  clear j118
  simp! only [and_true]
  intro c5 J119 uc5 j119 hc5
  clear uc5
  replace so:=fun (_:Unit)=>(so ()).ext j119
  replace ven:=fun (_:Unit)=>(ven ()).ext j119
  replace vbd:=fun (_:Unit)=>(vbd ()).ext j119
  replace vmn:=fun (_:Unit)=>(vmn ()).ext j119
  replace vms:=fun (_:Unit)=>(vms ()).ext j119
  replace vsg:=fun (_:Unit)=>(vsg ()).ext j119
  replace vfr:=fun (_:Unit)=>(vfr ()).ext j119
  replace ca:=fun (_:Unit)=>(ca ()).ext j119
  replace hfw:=j119.at hfw
  replace hL0:=j119.at hL0
  replace hc4:=j119.at hc4
  replace hS:=j119.2 K a _ hS
  replace eb:=eb.trans j119
  clear j119
  simp! only [and_true]
  intro y120 J121 uy120 j121 hy120
  clear uy120
  replace so:=fun (_:Unit)=>(so ()).ext j121
  replace ven:=fun (_:Unit)=>(ven ()).ext j121
  replace vbd:=fun (_:Unit)=>(vbd ()).ext j121
  replace vmn:=fun (_:Unit)=>(vmn ()).ext j121
  replace vms:=fun (_:Unit)=>(vms ()).ext j121
  replace vsg:=fun (_:Unit)=>(vsg ()).ext j121
  replace vfr:=fun (_:Unit)=>(vfr ()).ext j121
  replace ca:=fun (_:Unit)=>(ca ()).ext j121
  replace hfw:=j121.at hfw
  replace hL0:=j121.at hL0
  replace hc4:=j121.at hc4
  replace hc5:=j121.at hc5
  replace hS:=j121.2 K a _ hS
  replace eb:=eb.trans j121
  clear j121
  obtain ⟨zs120,hz120⟩:∃ z,z=zs++[V.ref c4,.ref c5]:=⟨_,rfl⟩
  have ca120:CasA t J121 sa 5 zs120:=by rw [hz120];exact (ca ()).app (CasA.cons (casp 3 hc4 (don_cv (so ()) (ven ()) (vbd ()) (.inr (by omega)))) (CasA.cons (casp 3 hc5 (don_cv (so ()) (vbd ()) (ven ()) (.inl (by omega)))) CasA.nil))
  replace ca:=fun (_:Unit)=>ca120
  clear ca120
  simp! only [and_true]
  have ln:zs.length+2≤sizeLine:=len5000 (by have:=(ca ()).1;rw [hz120] at this;simp only [List.length_append,List.length_cons,List.length_nil] at this;omega)
  first|refine ⟨ln,?_⟩|refine use_cat hL0 hy120 ln ?_
  clear ln
  clear hL0 hy120 hc4 hc5
  rw [←hz120]
  clear hz120
  intro L120 J122 uL120 j122 hL120
  clear uL120
  replace so:=fun (_:Unit)=>(so ()).ext j122
  replace ven:=fun (_:Unit)=>(ven ()).ext j122
  replace vbd:=fun (_:Unit)=>(vbd ()).ext j122
  replace vmn:=fun (_:Unit)=>(vmn ()).ext j122
  replace vms:=fun (_:Unit)=>(vms ()).ext j122
  replace vsg:=fun (_:Unit)=>(vsg ()).ext j122
  replace vfr:=fun (_:Unit)=>(vfr ()).ext j122
  replace ca:=fun (_:Unit)=>(ca ()).ext j122
  replace hfw:=j122.at hfw
  replace hS:=j122.2 K a _ hS
  replace eb:=eb.trans j122
  clear j122
  simp! only [and_true]
  intro c6 J123 uc6 j123 hc6
  clear uc6
  replace so:=fun (_:Unit)=>(so ()).ext j123
  replace ven:=fun (_:Unit)=>(ven ()).ext j123
  replace vbd:=fun (_:Unit)=>(vbd ()).ext j123
  replace vmn:=fun (_:Unit)=>(vmn ()).ext j123
  replace vms:=fun (_:Unit)=>(vms ()).ext j123
  replace vsg:=fun (_:Unit)=>(vsg ()).ext j123
  replace vfr:=fun (_:Unit)=>(vfr ()).ext j123
  replace ca:=fun (_:Unit)=>(ca ()).ext j123
  replace hfw:=j123.at hfw
  replace hL120:=j123.at hL120
  replace hS:=j123.2 K a _ hS
  replace eb:=eb.trans j123
  clear j123
  simp! only [and_true]
  intro c7 J124 uc7 j124 hc7
  clear uc7
  replace so:=fun (_:Unit)=>(so ()).ext j124
  replace ven:=fun (_:Unit)=>(ven ()).ext j124
  replace vbd:=fun (_:Unit)=>(vbd ()).ext j124
  replace vmn:=fun (_:Unit)=>(vmn ()).ext j124
  replace vms:=fun (_:Unit)=>(vms ()).ext j124
  replace vsg:=fun (_:Unit)=>(vsg ()).ext j124
  replace vfr:=fun (_:Unit)=>(vfr ()).ext j124
  replace ca:=fun (_:Unit)=>(ca ()).ext j124
  replace hfw:=j124.at hfw
  replace hL120:=j124.at hL120
  replace hc6:=j124.at hc6
  replace hS:=j124.2 K a _ hS
  replace eb:=eb.trans j124
  clear j124
  simp! only [and_true]
  intro y125 J126 uy125 j126 hy125
  clear uy125
  replace so:=fun (_:Unit)=>(so ()).ext j126
  replace ven:=fun (_:Unit)=>(ven ()).ext j126
  replace vbd:=fun (_:Unit)=>(vbd ()).ext j126
  replace vmn:=fun (_:Unit)=>(vmn ()).ext j126
  replace vms:=fun (_:Unit)=>(vms ()).ext j126
  replace vsg:=fun (_:Unit)=>(vsg ()).ext j126
  replace vfr:=fun (_:Unit)=>(vfr ()).ext j126
  replace ca:=fun (_:Unit)=>(ca ()).ext j126
  replace hfw:=j126.at hfw
  replace hL120:=j126.at hL120
  replace hc6:=j126.at hc6
  replace hc7:=j126.at hc7
  replace hS:=j126.2 K a _ hS
  replace eb:=eb.trans j126
  clear j126
  obtain ⟨zs125,hz125⟩:∃ z,z=zs120++[V.ref c6,.ref c7]:=⟨_,rfl⟩
  have ca125:CasA t J126 sa 7 zs125:=by rw [hz125];exact (ca ()).app (CasA.cons (casp 3 hc6 (don_cv (so ()) (vmn ()) (vbd ()) (.inr (by omega)))) (CasA.cons (casp 1 hc7 (don_pc (so ()) (ven ()) hfw hvl.symm (by rw [List.length_replicate];omega))) CasA.nil))
  replace ca:=fun (_:Unit)=>ca125
  clear ca125
  simp! only [and_true]
  have ln:zs120.length+2≤sizeLine:=len5000 (by have:=(ca ()).1;rw [hz125] at this;simp only [List.length_append,List.length_cons,List.length_nil] at this;omega)
  first|refine ⟨ln,?_⟩|refine use_cat hL120 hy125 ln ?_
  clear ln
  clear hL120 hy125 hc6 hc7
  rw [←hz125]
  clear hz125
  intro L125 J127 uL125 j127 hL125
  clear uL125
  replace so:=fun (_:Unit)=>(so ()).ext j127
  replace ven:=fun (_:Unit)=>(ven ()).ext j127
  replace vbd:=fun (_:Unit)=>(vbd ()).ext j127
  replace vmn:=fun (_:Unit)=>(vmn ()).ext j127
  replace vms:=fun (_:Unit)=>(vms ()).ext j127
  replace vsg:=fun (_:Unit)=>(vsg ()).ext j127
  replace vfr:=fun (_:Unit)=>(vfr ()).ext j127
  replace ca:=fun (_:Unit)=>(ca ()).ext j127
  replace hfw:=j127.at hfw
  replace hS:=j127.2 K a _ hS
  replace eb:=eb.trans j127
  clear j127
  simp! only [and_true]
  intro o1 J128 uo1 j128 ho1
  clear uo1
  replace so:=fun (_:Unit)=>(so ()).ext j128
  replace ven:=fun (_:Unit)=>(ven ()).ext j128
  replace vbd:=fun (_:Unit)=>(vbd ()).ext j128
  replace vmn:=fun (_:Unit)=>(vmn ()).ext j128
  replace vms:=fun (_:Unit)=>(vms ()).ext j128
  replace vsg:=fun (_:Unit)=>(vsg ()).ext j128
  replace vfr:=fun (_:Unit)=>(vfr ()).ext j128
  replace ca:=fun (_:Unit)=>(ca ()).ext j128
  replace hfw:=j128.at hfw
  replace hL125:=j128.at hL125
  replace hS:=j128.2 K a _ hS
  replace eb:=eb.trans j128
  clear j128
  have cr:0≤room+1∧room+1≤1000000:=⟨by omega,by omega⟩
  simp! only [and_true]
  try refine ⟨by omega,by omega,?_⟩
  intro o2 J129 uo2 j129 ho2
  clear uo2
  replace so:=fun (_:Unit)=>(so ()).ext j129
  replace ven:=fun (_:Unit)=>(ven ()).ext j129
  replace vbd:=fun (_:Unit)=>(vbd ()).ext j129
  replace vmn:=fun (_:Unit)=>(vmn ()).ext j129
  replace vms:=fun (_:Unit)=>(vms ()).ext j129
  replace vsg:=fun (_:Unit)=>(vsg ()).ext j129
  replace vfr:=fun (_:Unit)=>(vfr ()).ext j129
  replace ca:=fun (_:Unit)=>(ca ()).ext j129
  replace hfw:=j129.at hfw
  replace hL125:=j129.at hL125
  replace hS:=j129.2 K a _ hS
  replace eb:=eb.trans j129
  clear j129
  clear cr ho1
  simp! only [and_true]
  first|refine use_cat hfw ho2 (len5000 (by simp only [List.length_replicate];omega)) ?_|refine ⟨len5000 (by simp only [List.length_replicate];omega),?_⟩
  intro o3 J130 uo3 j130 ho3
  clear uo3
  replace so:=fun (_:Unit)=>(so ()).ext j130
  replace ven:=fun (_:Unit)=>(ven ()).ext j130
  replace vbd:=fun (_:Unit)=>(vbd ()).ext j130
  replace vmn:=fun (_:Unit)=>(vmn ()).ext j130
  replace vms:=fun (_:Unit)=>(vms ()).ext j130
  replace vsg:=fun (_:Unit)=>(vsg ()).ext j130
  replace vfr:=fun (_:Unit)=>(vfr ()).ext j130
  replace ca:=fun (_:Unit)=>(ca ()).ext j130
  replace hfw:=j130.at hfw
  replace hL125:=j130.at hL125
  replace hS:=j130.2 K a _ hS
  replace eb:=eb.trans j130
  clear j130
  clear hfw ho2
  simp! only [and_true]
  intro c8 J131 uc8 j131 hc8
  clear uc8
  replace so:=fun (_:Unit)=>(so ()).ext j131
  replace ven:=fun (_:Unit)=>(ven ()).ext j131
  replace vbd:=fun (_:Unit)=>(vbd ()).ext j131
  replace vmn:=fun (_:Unit)=>(vmn ()).ext j131
  replace vms:=fun (_:Unit)=>(vms ()).ext j131
  replace vsg:=fun (_:Unit)=>(vsg ()).ext j131
  replace vfr:=fun (_:Unit)=>(vfr ()).ext j131
  replace ca:=fun (_:Unit)=>(ca ()).ext j131
  replace hL125:=j131.at hL125
  replace ho3:=j131.at ho3
  replace hS:=j131.2 K a _ hS
  replace eb:=eb.trans j131
  clear j131
  simp! only [and_true]
  intro o4 J132 uo4 j132 ho4
  clear uo4
  replace so:=fun (_:Unit)=>(so ()).ext j132
  replace ven:=fun (_:Unit)=>(ven ()).ext j132
  replace vbd:=fun (_:Unit)=>(vbd ()).ext j132
  replace vmn:=fun (_:Unit)=>(vmn ()).ext j132
  replace vms:=fun (_:Unit)=>(vms ()).ext j132
  replace vsg:=fun (_:Unit)=>(vsg ()).ext j132
  replace vfr:=fun (_:Unit)=>(vfr ()).ext j132
  replace ca:=fun (_:Unit)=>(ca ()).ext j132
  replace hL125:=j132.at hL125
  replace ho3:=j132.at ho3
  replace hc8:=j132.at hc8
  replace hS:=j132.2 K a _ hS
  replace eb:=eb.trans j132
  clear j132
  simp! only [and_true]
  intro c9 J133 uc9 j133 hc9
  clear uc9
  replace so:=fun (_:Unit)=>(so ()).ext j133
  replace ven:=fun (_:Unit)=>(ven ()).ext j133
  replace vbd:=fun (_:Unit)=>(vbd ()).ext j133
  replace vmn:=fun (_:Unit)=>(vmn ()).ext j133
  replace vms:=fun (_:Unit)=>(vms ()).ext j133
  replace vsg:=fun (_:Unit)=>(vsg ()).ext j133
  replace vfr:=fun (_:Unit)=>(vfr ()).ext j133
  replace ca:=fun (_:Unit)=>(ca ()).ext j133
  replace hL125:=j133.at hL125
  replace ho3:=j133.at ho3
  replace hc8:=j133.at hc8
  replace ho4:=j133.at ho4
  replace hS:=j133.2 K a _ hS
  replace eb:=eb.trans j133
  clear j133
  simp! only [and_true]
  intro y134 J135 uy134 j135 hy134
  clear uy134
  replace so:=fun (_:Unit)=>(so ()).ext j135
  replace ven:=fun (_:Unit)=>(ven ()).ext j135
  replace vbd:=fun (_:Unit)=>(vbd ()).ext j135
  replace vmn:=fun (_:Unit)=>(vmn ()).ext j135
  replace vms:=fun (_:Unit)=>(vms ()).ext j135
  replace vsg:=fun (_:Unit)=>(vsg ()).ext j135
  replace vfr:=fun (_:Unit)=>(vfr ()).ext j135
  replace ca:=fun (_:Unit)=>(ca ()).ext j135
  replace hL125:=j135.at hL125
  replace ho3:=j135.at ho3
  replace hc8:=j135.at hc8
  replace ho4:=j135.at ho4
  replace hc9:=j135.at hc9
  replace hS:=j135.2 K a _ hS
  replace eb:=eb.trans j135
  clear j135
  obtain ⟨zs134,hz134⟩:∃ z,z=zs125++[V.ref c8,.ref c9]:=⟨_,rfl⟩
  have ca134:CasA t J135 sa 9 zs134:=by rw [hz134];exact (ca ()).app (CasA.cons (casp 1 hc8 (don_pc (so ()) (ven ()) ho3 hvl.symm (by rw [List.length_append,List.length_replicate,List.length_replicate];omega))) (CasA.cons (casp 1 hc9 (don_pc (so ()) (vmn ()) ho4 hvl.symm (by show cM ≠ 1;omega))) CasA.nil))
  replace ca:=fun (_:Unit)=>ca134
  clear ca134
  simp! only [and_true]
  have ln:zs125.length+2≤sizeLine:=len5000 (by have:=(ca ()).1;rw [hz134] at this;simp only [List.length_append,List.length_cons,List.length_nil] at this;omega)
  first|refine ⟨ln,?_⟩|refine use_cat hL125 hy134 ln ?_
  clear ln
  clear hL125 hy134 hc8 hc9
  rw [←hz134]
  clear hz134
  intro L134 J136 uL134 j136 hL134
  clear uL134
  replace so:=fun (_:Unit)=>(so ()).ext j136
  replace ven:=fun (_:Unit)=>(ven ()).ext j136
  replace vbd:=fun (_:Unit)=>(vbd ()).ext j136
  replace vmn:=fun (_:Unit)=>(vmn ()).ext j136
  replace vms:=fun (_:Unit)=>(vms ()).ext j136
  replace vsg:=fun (_:Unit)=>(vsg ()).ext j136
  replace vfr:=fun (_:Unit)=>(vfr ()).ext j136
  replace ca:=fun (_:Unit)=>(ca ()).ext j136
  replace ho3:=j136.at ho3
  replace ho4:=j136.at ho4
  replace hS:=j136.2 K a _ hS
  replace eb:=eb.trans j136
  clear j136
  clear ho3 ho4
  simp! only [and_true]
  intro c10 J137 uc10 j137 hc10
  clear uc10
  replace so:=fun (_:Unit)=>(so ()).ext j137
  replace ven:=fun (_:Unit)=>(ven ()).ext j137
  replace vbd:=fun (_:Unit)=>(vbd ()).ext j137
  replace vmn:=fun (_:Unit)=>(vmn ()).ext j137
  replace vms:=fun (_:Unit)=>(vms ()).ext j137
  replace vsg:=fun (_:Unit)=>(vsg ()).ext j137
  replace vfr:=fun (_:Unit)=>(vfr ()).ext j137
  replace ca:=fun (_:Unit)=>(ca ()).ext j137
  replace hL134:=j137.at hL134
  replace hS:=j137.2 K a _ hS
  replace eb:=eb.trans j137
  clear j137
  simp! only [and_true]
  intro c11 J138 uc11 j138 hc11
  clear uc11
  replace so:=fun (_:Unit)=>(so ()).ext j138
  replace ven:=fun (_:Unit)=>(ven ()).ext j138
  replace vbd:=fun (_:Unit)=>(vbd ()).ext j138
  replace vmn:=fun (_:Unit)=>(vmn ()).ext j138
  replace vms:=fun (_:Unit)=>(vms ()).ext j138
  replace vsg:=fun (_:Unit)=>(vsg ()).ext j138
  replace vfr:=fun (_:Unit)=>(vfr ()).ext j138
  replace ca:=fun (_:Unit)=>(ca ()).ext j138
  replace hL134:=j138.at hL134
  replace hc10:=j138.at hc10
  replace hS:=j138.2 K a _ hS
  replace eb:=eb.trans j138
  clear j138
  simp! only [and_true]
  intro y139 J140 uy139 j140 hy139
  clear uy139
  replace so:=fun (_:Unit)=>(so ()).ext j140
  replace ven:=fun (_:Unit)=>(ven ()).ext j140
  replace vbd:=fun (_:Unit)=>(vbd ()).ext j140
  replace vmn:=fun (_:Unit)=>(vmn ()).ext j140
  replace vms:=fun (_:Unit)=>(vms ()).ext j140
  replace vsg:=fun (_:Unit)=>(vsg ()).ext j140
  replace vfr:=fun (_:Unit)=>(vfr ()).ext j140
  replace ca:=fun (_:Unit)=>(ca ()).ext j140
  replace hL134:=j140.at hL134
  replace hc10:=j140.at hc10
  replace hc11:=j140.at hc11
  replace hS:=j140.2 K a _ hS
  replace eb:=eb.trans j140
  clear j140
  obtain ⟨zs139,hz139⟩:∃ z,z=zs134++[V.ref c10,.ref c11]:=⟨_,rfl⟩
  have ca139:CasA t J140 sa 11 zs139:=by rw [hz139];exact (ca ()).app (CasA.cons (casp 3 hc10 (don_cc (so ()) (vsg ()) (vmn ()) hvl.symm hvl.symm (by omega))) (CasA.cons (casp 3 hc11 (don_cc (so ()) (vmn ()) (vsg ()) hvl.symm hvl.symm (by omega))) CasA.nil))
  replace ca:=fun (_:Unit)=>ca139
  clear ca139
  simp! only [and_true]
  have ln:zs134.length+2≤sizeLine:=len5000 (by have:=(ca ()).1;rw [hz139] at this;simp only [List.length_append,List.length_cons,List.length_nil] at this;omega)
  first|refine ⟨ln,?_⟩|refine use_cat hL134 hy139 ln ?_
  clear ln
  clear hL134 hy139 hc10 hc11
  rw [←hz139]
  clear hz139
  intro L139 J141 uL139 j141 hL139
  have sso:=so
  have sven:=ven
  have svbd:=vbd
  have svmn:=vmn
  have svms:=vms
  have svsg:=vsg
  have svfr:=vfr
  have sca:=ca
  have shS:=hS
  have seb:=eb
  have sj:=j141
  replace so:=fun (_:Unit)=>(so ()).ext j141
  replace ven:=fun (_:Unit)=>(ven ()).ext j141
  replace vbd:=fun (_:Unit)=>(vbd ()).ext j141
  replace vmn:=fun (_:Unit)=>(vmn ()).ext j141
  replace vms:=fun (_:Unit)=>(vms ()).ext j141
  replace vsg:=fun (_:Unit)=>(vsg ()).ext j141
  replace vfr:=fun (_:Unit)=>(vfr ()).ext j141
  replace ca:=fun (_:Unit)=>(ca ()).ext j141
  replace hS:=j141.2 K a _ hS
  replace eb:=eb.trans j141
  clear j141
  simp! only [and_true]
  intro tk J142 utk j142 htk
  clear utk
  replace so:=fun (_:Unit)=>(so ()).ext j142
  replace ven:=fun (_:Unit)=>(ven ()).ext j142
  replace vbd:=fun (_:Unit)=>(vbd ()).ext j142
  replace vmn:=fun (_:Unit)=>(vmn ()).ext j142
  replace vms:=fun (_:Unit)=>(vms ()).ext j142
  replace vsg:=fun (_:Unit)=>(vsg ()).ext j142
  replace vfr:=fun (_:Unit)=>(vfr ()).ext j142
  replace ca:=fun (_:Unit)=>(ca ()).ext j142
  replace hL139:=j142.at hL139
  replace hS:=j142.2 K a _ hS
  replace eb:=eb.trans j142
  replace sj:=sj.trans j142
  clear j142
  simp! only [and_true]
  intro lk J143 ulk j143 hlk
  clear ulk
  replace so:=fun (_:Unit)=>(so ()).ext j143
  replace ven:=fun (_:Unit)=>(ven ()).ext j143
  replace vbd:=fun (_:Unit)=>(vbd ()).ext j143
  replace vmn:=fun (_:Unit)=>(vmn ()).ext j143
  replace vms:=fun (_:Unit)=>(vms ()).ext j143
  replace vsg:=fun (_:Unit)=>(vsg ()).ext j143
  replace vfr:=fun (_:Unit)=>(vfr ()).ext j143
  replace ca:=fun (_:Unit)=>(ca ()).ext j143
  replace hL139:=j143.at hL139
  replace htk:=j143.at htk
  replace hS:=j143.2 K a _ hS
  replace eb:=eb.trans j143
  replace sj:=sj.trans j143
  clear j143
  have hlk0:=hL139
  simp! only [and_true]
  intro nk dx144 G144 hx144 hd144 hq144 g144 k144 kk144
  rw [c_spVInit]
  refine ⟨dx144,[(4097,0)],k144,TupsAt.ext ⟨_,hlk,Al.cons' ⟨tk,rfl,htk⟩ Al.nil⟩ g144,one_ok ⟨by omega,by omega⟩ ⟨by omega,by omega⟩ ⟨by decide,by decide⟩,fun J144 D144 gg144 hD144 hx144' tt144=>?_⟩
  have j144:=gg144 J143 g144 hx144
  have nD:D144 ≠ L139:=fun z=>by rw [z,g144.at hL139] at hD144;cases hD144
  clear k144 kk144 hx144 hd144 hq144 g144 gg144 hD144 hlk0 hlk htk
  replace tt144:=fun (_:Unit)=>tt144
  replace so:=fun (_:Unit)=>(so ()).ext j144
  replace ven:=fun (_:Unit)=>(ven ()).ext j144
  replace vbd:=fun (_:Unit)=>(vbd ()).ext j144
  replace vmn:=fun (_:Unit)=>(vmn ()).ext j144
  replace vms:=fun (_:Unit)=>(vms ()).ext j144
  replace vsg:=fun (_:Unit)=>(vsg ()).ext j144
  replace vfr:=fun (_:Unit)=>(vfr ()).ext j144
  replace ca:=fun (_:Unit)=>(ca ()).ext j144
  replace hL139:=j144.at hL139
  replace hS:=j144.2 K a _ hS
  replace eb:=eb.trans j144
  replace sj:=sj.trans j144
  clear j144
  simp! only [and_true]
  intro l7 J145 ul7 j145 hl7
  replace tt144:=fun (_:Unit)=>TupsAt.ext (tt144 ()) j145
  replace so:=fun (_:Unit)=>(so ()).ext j145
  replace ven:=fun (_:Unit)=>(ven ()).ext j145
  replace vbd:=fun (_:Unit)=>(vbd ()).ext j145
  replace vmn:=fun (_:Unit)=>(vmn ()).ext j145
  replace vms:=fun (_:Unit)=>(vms ()).ext j145
  replace vsg:=fun (_:Unit)=>(vsg ()).ext j145
  replace vfr:=fun (_:Unit)=>(vfr ()).ext j145
  replace ca:=fun (_:Unit)=>(ca ()).ext j145
  replace hL139:=j145.at hL139
  replace hx144':=j145.at hx144'
  replace hS:=j145.2 K a _ hS
  replace eb:=eb.trans j145
  replace sj:=sj.trans j145
  clear j145
  clear ul7
  simp! only [and_true]
  have hlw7:=hL139
  intro w7 J146 uw7 j146 hw7
  replace tt144:=fun (_:Unit)=>TupsAt.ext (tt144 ()) j146
  replace so:=fun (_:Unit)=>(so ()).ext j146
  replace ven:=fun (_:Unit)=>(ven ()).ext j146
  replace vbd:=fun (_:Unit)=>(vbd ()).ext j146
  replace vmn:=fun (_:Unit)=>(vmn ()).ext j146
  replace vms:=fun (_:Unit)=>(vms ()).ext j146
  replace vsg:=fun (_:Unit)=>(vsg ()).ext j146
  replace vfr:=fun (_:Unit)=>(vfr ()).ext j146
  replace ca:=fun (_:Unit)=>(ca ()).ext j146
  replace hL139:=j146.at hL139
  replace hx144':=j146.at hx144'
  replace hS:=j146.2 K a _ hS
  replace eb:=eb.trans j146
  replace sj:=sj.trans j146
  clear j146
  have nw:w7 ≠ L139:=fun z=>by rw [z,hlw7] at uw7;cases uw7
  clear uw7 hl7
  simp! only [and_true]
  intro c12 J147 uc12 j147 hc12
  replace tt144:=fun (_:Unit)=>TupsAt.ext (tt144 ()) j147
  replace so:=fun (_:Unit)=>(so ()).ext j147
  replace ven:=fun (_:Unit)=>(ven ()).ext j147
  replace vbd:=fun (_:Unit)=>(vbd ()).ext j147
  replace vmn:=fun (_:Unit)=>(vmn ()).ext j147
  replace vms:=fun (_:Unit)=>(vms ()).ext j147
  replace vsg:=fun (_:Unit)=>(vsg ()).ext j147
  replace vfr:=fun (_:Unit)=>(vfr ()).ext j147
  replace ca:=fun (_:Unit)=>(ca ()).ext j147
  replace hL139:=j147.at hL139
  replace hx144':=j147.at hx144'
  replace hw7:=j147.at hw7
  replace hS:=j147.2 K a _ hS
  replace eb:=eb.trans j147
  replace sj:=sj.trans j147
  clear j147
  have nc:c12 ≠ L139:=fun z=>by rw [z,hL139] at hc12;cases hc12
  clear uc12
  clear hlw7
  have nx:nk ≠ L139:=fun z=>by rw [z,hL139] at hx144';cases hx144'
  have tu:TupsAt (upd J147 L139 (.lst (zs139++[V.ref c12]))) D144 (axL ([(4097,0)].map keptA)):=TupsAt.upd (tt144 ()) hL139 nD
  have xu:upd J147 L139 (.lst (zs139++[V.ref c12])) nk=some (.ins t.a_View dx144 (viewF room (room - 1) D144)):=(upd_ne nx).trans hx144'
  have wu:upd J147 L139 (.lst (zs139++[V.ref c12])) w7=some (.lst (List.replicate 4097 (.int 7))):=(upd_ne nw).trans hw7
  have cu:upd J147 L139 (.lst (zs139++[V.ref c12])) c12=some (.tup [.int 1,.ref nk,.non,.ref w7,.str "many",.int 4097]):=(upd_ne nc).trans hc12
  have lu:upd J147 L139 (.lst (zs139++[V.ref c12])) L139=some (.lst (zs139++[V.ref c12])):=upd_same
  have ep:Ext J140 (upd J147 L139 (.lst (zs139++[V.ref c12]))):=sj.put uL139
  have lnn:zs139.length < sizeLine:=Nat.lt_of_le_of_lt (ca ()).1 (by decide)
  simp! only [and_true]
  try refine ⟨lnn,?_⟩
  clear lnn
  replace so:=fun (_:Unit)=>(sso ()).ext ep
  replace ven:=fun (_:Unit)=>(sven ()).ext ep
  replace vbd:=fun (_:Unit)=>(svbd ()).ext ep
  replace vmn:=fun (_:Unit)=>(svmn ()).ext ep
  replace vms:=fun (_:Unit)=>(svms ()).ext ep
  replace vsg:=fun (_:Unit)=>(svsg ()).ext ep
  replace vfr:=fun (_:Unit)=>(svfr ()).ext ep
  replace ca:=fun (_:Unit)=>(sca ()).ext ep
  replace hS:=ep.2 K a _ shS
  replace eb:=seb.trans ep
  clear hL139 hw7 hc12 hx144' tt144
  generalize upd J147 L139 (.lst (zs139++[V.ref c12]))=J500 at *
  have vnk:VwN t.a_View J500 nk room 4097:=one_vwn ⟨by decide,by decide⟩ ⟨dx144,D144,xu,tu⟩
  obtain ⟨zs500,hz500⟩:∃ z,z=zs139++[V.ref c12]:=⟨_,rfl⟩
  have ca500:CasA t J500 sa 12 zs500:=by rw [hz500];exact (ca ()).app (CasA.cons (casp 1 cu (don_pm (so ()) vnk wu hvl.symm (by rw [List.length_replicate];rfl) (by decide))) CasA.nil)
  replace ca:=fun (_:Unit)=>ca500
  rw [←hz500] at lu
  clear ca500 hz500 xu tu wu cu vnk ep sj seb shS uL139 nx nc nw nD sso sven svbd svmn svms svsg svfr sca
  have hL500:=lu
  clear lu
  obtain ⟨L500,e500⟩:∃ q,q=L139:=⟨_,rfl⟩
  rw [←e500] at hL500 ⊢
  clear e500
  intro c13 J148 uc13 j148 hc13
  clear uc13
  replace so:=fun (_:Unit)=>(so ()).ext j148
  replace ven:=fun (_:Unit)=>(ven ()).ext j148
  replace vbd:=fun (_:Unit)=>(vbd ()).ext j148
  replace vmn:=fun (_:Unit)=>(vmn ()).ext j148
  replace vms:=fun (_:Unit)=>(vms ()).ext j148
  replace vsg:=fun (_:Unit)=>(vsg ()).ext j148
  replace vfr:=fun (_:Unit)=>(vfr ()).ext j148
  replace ca:=fun (_:Unit)=>(ca ()).ext j148
  replace hL500:=j148.at hL500
  replace hS:=j148.2 K a _ hS
  replace eb:=eb.trans j148
  clear j148
  simp! only [and_true]
  intro c14 J149 uc14 j149 hc14
  clear uc14
  replace so:=fun (_:Unit)=>(so ()).ext j149
  replace ven:=fun (_:Unit)=>(ven ()).ext j149
  replace vbd:=fun (_:Unit)=>(vbd ()).ext j149
  replace vmn:=fun (_:Unit)=>(vmn ()).ext j149
  replace vms:=fun (_:Unit)=>(vms ()).ext j149
  replace vsg:=fun (_:Unit)=>(vsg ()).ext j149
  replace vfr:=fun (_:Unit)=>(vfr ()).ext j149
  replace ca:=fun (_:Unit)=>(ca ()).ext j149
  replace hL500:=j149.at hL500
  replace hc13:=j149.at hc13
  replace hS:=j149.2 K a _ hS
  replace eb:=eb.trans j149
  clear j149
  simp! only [and_true]
  intro y150 J151 uy150 j151 hy150
  clear uy150
  replace so:=fun (_:Unit)=>(so ()).ext j151
  replace ven:=fun (_:Unit)=>(ven ()).ext j151
  replace vbd:=fun (_:Unit)=>(vbd ()).ext j151
  replace vmn:=fun (_:Unit)=>(vmn ()).ext j151
  replace vms:=fun (_:Unit)=>(vms ()).ext j151
  replace vsg:=fun (_:Unit)=>(vsg ()).ext j151
  replace vfr:=fun (_:Unit)=>(vfr ()).ext j151
  replace ca:=fun (_:Unit)=>(ca ()).ext j151
  replace hL500:=j151.at hL500
  replace hc13:=j151.at hc13
  replace hc14:=j151.at hc14
  replace hS:=j151.2 K a _ hS
  replace eb:=eb.trans j151
  clear j151
  obtain ⟨zs150,hz150⟩:∃ z,z=zs500++[V.ref c13,.ref c14]:=⟨_,rfl⟩
  have ca150:CasA t J151 sa 14 zs150:=by rw [hz150];exact (ca ()).app (CasA.cons (casp 0 hc13 (don_rm (.inl rfl) (so ()) (vmn ()) hvl.symm (by omega))) (CasA.cons (casp 2 hc14 (don_rm (.inr rfl) (so ()) (vmn ()) hvl.symm (by omega))) CasA.nil))
  replace ca:=fun (_:Unit)=>ca150
  clear ca150
  simp! only [and_true]
  have ln:zs500.length+2≤sizeLine:=len5000 (by have:=(ca ()).1;rw [hz150] at this;simp only [List.length_append,List.length_cons,List.length_nil] at this;omega)
  first|refine ⟨ln,?_⟩|refine use_cat hL500 hy150 ln ?_
  clear ln
  clear hL500 hy150 hc13 hc14
  rw [←hz150]
  clear hz150
  intro L150 J152 uL150 j152 hL150
  clear uL150
  replace so:=fun (_:Unit)=>(so ()).ext j152
  replace ven:=fun (_:Unit)=>(ven ()).ext j152
  replace vbd:=fun (_:Unit)=>(vbd ()).ext j152
  replace vmn:=fun (_:Unit)=>(vmn ()).ext j152
  replace vms:=fun (_:Unit)=>(vms ()).ext j152
  replace vsg:=fun (_:Unit)=>(vsg ()).ext j152
  replace vfr:=fun (_:Unit)=>(vfr ()).ext j152
  replace ca:=fun (_:Unit)=>(ca ()).ext j152
  replace hS:=j152.2 K a _ hS
  replace eb:=eb.trans j152
  clear j152
  simp! only [and_true]
  intro c15 J153 uc15 j153 hc15
  clear uc15
  replace so:=fun (_:Unit)=>(so ()).ext j153
  replace ven:=fun (_:Unit)=>(ven ()).ext j153
  replace vbd:=fun (_:Unit)=>(vbd ()).ext j153
  replace vmn:=fun (_:Unit)=>(vmn ()).ext j153
  replace vms:=fun (_:Unit)=>(vms ()).ext j153
  replace vsg:=fun (_:Unit)=>(vsg ()).ext j153
  replace vfr:=fun (_:Unit)=>(vfr ()).ext j153
  replace ca:=fun (_:Unit)=>(ca ()).ext j153
  replace hL150:=j153.at hL150
  replace hS:=j153.2 K a _ hS
  replace eb:=eb.trans j153
  clear j153
  simp! only [and_true]
  intro c16 J154 uc16 j154 hc16
  clear uc16
  replace so:=fun (_:Unit)=>(so ()).ext j154
  replace ven:=fun (_:Unit)=>(ven ()).ext j154
  replace vbd:=fun (_:Unit)=>(vbd ()).ext j154
  replace vmn:=fun (_:Unit)=>(vmn ()).ext j154
  replace vms:=fun (_:Unit)=>(vms ()).ext j154
  replace vsg:=fun (_:Unit)=>(vsg ()).ext j154
  replace vfr:=fun (_:Unit)=>(vfr ()).ext j154
  replace ca:=fun (_:Unit)=>(ca ()).ext j154
  replace hL150:=j154.at hL150
  replace hc15:=j154.at hc15
  replace hS:=j154.2 K a _ hS
  replace eb:=eb.trans j154
  clear j154
  simp! only [and_true]
  intro y155 J156 uy155 j156 hy155
  clear uy155
  replace so:=fun (_:Unit)=>(so ()).ext j156
  replace ven:=fun (_:Unit)=>(ven ()).ext j156
  replace vbd:=fun (_:Unit)=>(vbd ()).ext j156
  replace vmn:=fun (_:Unit)=>(vmn ()).ext j156
  replace vms:=fun (_:Unit)=>(vms ()).ext j156
  replace vsg:=fun (_:Unit)=>(vsg ()).ext j156
  replace vfr:=fun (_:Unit)=>(vfr ()).ext j156
  replace ca:=fun (_:Unit)=>(ca ()).ext j156
  replace hL150:=j156.at hL150
  replace hc15:=j156.at hc15
  replace hc16:=j156.at hc16
  replace hS:=j156.2 K a _ hS
  replace eb:=eb.trans j156
  clear j156
  obtain ⟨zs155,hz155⟩:∃ z,z=zs150++[V.ref c15,.ref c16]:=⟨_,rfl⟩
  have ca155:CasA t J156 sa 16 zs155:=by rw [hz155];exact (ca ()).app (CasA.cons (casp 3 hc15 (don_cm (so ()) (vmn ()) (vmn ()) hvl.symm hvl.symm rfl (by omega))) (CasA.cons (casp 4 hc16 (don_sm (vmn ()) (vmn ()) rfl rfl (by omega))) CasA.nil))
  replace ca:=fun (_:Unit)=>ca155
  clear ca155
  simp! only [and_true]
  have ln:zs150.length+2≤sizeLine:=len5000 (by have:=(ca ()).1;rw [hz155] at this;simp only [List.length_append,List.length_cons,List.length_nil] at this;omega)
  first|refine ⟨ln,?_⟩|refine use_cat hL150 hy155 ln ?_
  clear ln
  clear hL150 hy155 hc15 hc16
  rw [←hz155]
  clear hz155
  intro L155 J157 uL155 j157 hL155
  clear uL155
  replace so:=fun (_:Unit)=>(so ()).ext j157
  replace ven:=fun (_:Unit)=>(ven ()).ext j157
  replace vbd:=fun (_:Unit)=>(vbd ()).ext j157
  replace vmn:=fun (_:Unit)=>(vmn ()).ext j157
  replace vms:=fun (_:Unit)=>(vms ()).ext j157
  replace vsg:=fun (_:Unit)=>(vsg ()).ext j157
  replace vfr:=fun (_:Unit)=>(vfr ()).ext j157
  replace ca:=fun (_:Unit)=>(ca ()).ext j157
  replace hS:=j157.2 K a _ hS
  replace eb:=eb.trans j157
  clear j157
  simp! only [and_true]
  intro c17 J158 uc17 j158 hc17
  clear uc17
  replace so:=fun (_:Unit)=>(so ()).ext j158
  replace ven:=fun (_:Unit)=>(ven ()).ext j158
  replace vbd:=fun (_:Unit)=>(vbd ()).ext j158
  replace vmn:=fun (_:Unit)=>(vmn ()).ext j158
  replace vms:=fun (_:Unit)=>(vms ()).ext j158
  replace vsg:=fun (_:Unit)=>(vsg ()).ext j158
  replace vfr:=fun (_:Unit)=>(vfr ()).ext j158
  replace ca:=fun (_:Unit)=>(ca ()).ext j158
  replace hL155:=j158.at hL155
  replace hS:=j158.2 K a _ hS
  replace eb:=eb.trans j158
  clear j158
  simp! only [and_true]
  intro c18 J159 uc18 j159 hc18
  clear uc18
  replace so:=fun (_:Unit)=>(so ()).ext j159
  replace ven:=fun (_:Unit)=>(ven ()).ext j159
  replace vbd:=fun (_:Unit)=>(vbd ()).ext j159
  replace vmn:=fun (_:Unit)=>(vmn ()).ext j159
  replace vms:=fun (_:Unit)=>(vms ()).ext j159
  replace vsg:=fun (_:Unit)=>(vsg ()).ext j159
  replace vfr:=fun (_:Unit)=>(vfr ()).ext j159
  replace ca:=fun (_:Unit)=>(ca ()).ext j159
  replace hL155:=j159.at hL155
  replace hc17:=j159.at hc17
  replace hS:=j159.2 K a _ hS
  replace eb:=eb.trans j159
  clear j159
  simp! only [and_true]
  intro y160 J161 uy160 j161 hy160
  clear uy160
  replace so:=fun (_:Unit)=>(so ()).ext j161
  replace ven:=fun (_:Unit)=>(ven ()).ext j161
  replace vbd:=fun (_:Unit)=>(vbd ()).ext j161
  replace vmn:=fun (_:Unit)=>(vmn ()).ext j161
  replace vms:=fun (_:Unit)=>(vms ()).ext j161
  replace vsg:=fun (_:Unit)=>(vsg ()).ext j161
  replace vfr:=fun (_:Unit)=>(vfr ()).ext j161
  replace ca:=fun (_:Unit)=>(ca ()).ext j161
  replace hL155:=j161.at hL155
  replace hc17:=j161.at hc17
  replace hc18:=j161.at hc18
  replace hS:=j161.2 K a _ hS
  replace eb:=eb.trans j161
  clear j161
  obtain ⟨zs160,hz160⟩:∃ z,z=zs155++[V.ref c17,.ref c18]:=⟨_,rfl⟩
  have ca160:CasA t J161 sa 18 zs160:=by rw [hz160];exact (ca ()).app (CasA.cons (casp 4 hc17 (don_sp (ven ()) (vbd ()) (by omega))) (CasA.cons (casp 4 hc18 (don_sp (vfr ()) (vmn ()) (by omega))) CasA.nil))
  replace ca:=fun (_:Unit)=>ca160
  clear ca160
  simp! only [and_true]
  have ln:zs155.length+2≤sizeLine:=len5000 (by have:=(ca ()).1;rw [hz160] at this;simp only [List.length_append,List.length_cons,List.length_nil] at this;omega)
  first|refine ⟨ln,?_⟩|refine use_cat hL155 hy160 ln ?_
  clear ln
  clear hL155 hy160 hc17 hc18
  rw [←hz160]
  clear hz160
  intro L160 J162 uL160 j162 hL160
  clear uL160
  replace so:=fun (_:Unit)=>(so ()).ext j162
  replace ven:=fun (_:Unit)=>(ven ()).ext j162
  replace vbd:=fun (_:Unit)=>(vbd ()).ext j162
  replace vmn:=fun (_:Unit)=>(vmn ()).ext j162
  replace vms:=fun (_:Unit)=>(vms ()).ext j162
  replace vsg:=fun (_:Unit)=>(vsg ()).ext j162
  replace vfr:=fun (_:Unit)=>(vfr ()).ext j162
  replace ca:=fun (_:Unit)=>(ca ()).ext j162
  replace hS:=j162.2 K a _ hS
  replace eb:=eb.trans j162
  clear j162
  simp! only [and_true]
  intro c19 J163 uc19 j163 hc19
  clear uc19
  replace so:=fun (_:Unit)=>(so ()).ext j163
  replace ven:=fun (_:Unit)=>(ven ()).ext j163
  replace vbd:=fun (_:Unit)=>(vbd ()).ext j163
  replace vmn:=fun (_:Unit)=>(vmn ()).ext j163
  replace vms:=fun (_:Unit)=>(vms ()).ext j163
  replace vsg:=fun (_:Unit)=>(vsg ()).ext j163
  replace vfr:=fun (_:Unit)=>(vfr ()).ext j163
  replace ca:=fun (_:Unit)=>(ca ()).ext j163
  replace hL160:=j163.at hL160
  replace hS:=j163.2 K a _ hS
  replace eb:=eb.trans j163
  clear j163
  simp! only [and_true]
  intro c20 J164 uc20 j164 hc20
  clear uc20
  replace so:=fun (_:Unit)=>(so ()).ext j164
  replace ven:=fun (_:Unit)=>(ven ()).ext j164
  replace vbd:=fun (_:Unit)=>(vbd ()).ext j164
  replace vmn:=fun (_:Unit)=>(vmn ()).ext j164
  replace vms:=fun (_:Unit)=>(vms ()).ext j164
  replace vsg:=fun (_:Unit)=>(vsg ()).ext j164
  replace vfr:=fun (_:Unit)=>(vfr ()).ext j164
  replace ca:=fun (_:Unit)=>(ca ()).ext j164
  replace hL160:=j164.at hL160
  replace hc19:=j164.at hc19
  replace hS:=j164.2 K a _ hS
  replace eb:=eb.trans j164
  clear j164
  simp! only [and_true]
  intro y165 J166 uy165 j166 hy165
  clear uy165
  replace so:=fun (_:Unit)=>(so ()).ext j166
  replace ven:=fun (_:Unit)=>(ven ()).ext j166
  replace vbd:=fun (_:Unit)=>(vbd ()).ext j166
  replace vmn:=fun (_:Unit)=>(vmn ()).ext j166
  replace vms:=fun (_:Unit)=>(vms ()).ext j166
  replace vsg:=fun (_:Unit)=>(vsg ()).ext j166
  replace vfr:=fun (_:Unit)=>(vfr ()).ext j166
  replace ca:=fun (_:Unit)=>(ca ()).ext j166
  replace hL160:=j166.at hL160
  replace hc19:=j166.at hc19
  replace hc20:=j166.at hc20
  replace hS:=j166.2 K a _ hS
  replace eb:=eb.trans j166
  clear j166
  obtain ⟨zs165,hz165⟩:∃ z,z=zs160++[V.ref c19,.ref c20]:=⟨_,rfl⟩
  have ca165:CasA t J166 sa 20 zs165:=by rw [hz165];exact (ca ()).app (CasA.cons (casp 4 hc19 (don_sc (vmn ()) (vsg ()) rfl (by omega))) (CasA.cons (casp 4 hc20 (don_sc (vsg ()) (vms ()) rfl (by omega))) CasA.nil))
  replace ca:=fun (_:Unit)=>ca165
  clear ca165
  simp! only [and_true]
  have ln:zs160.length+2≤sizeLine:=len5000 (by have:=(ca ()).1;rw [hz165] at this;simp only [List.length_append,List.length_cons,List.length_nil] at this;omega)
  first|refine ⟨ln,?_⟩|refine use_cat hL160 hy165 ln ?_
  clear ln
  clear hL160 hy165 hc19 hc20
  rw [←hz165]
  clear hz165
  intro L165 J167 uL165 j167 hL165
  have sso:=so
  have sven:=ven
  have svbd:=vbd
  have svmn:=vmn
  have svms:=vms
  have svsg:=vsg
  have svfr:=vfr
  have sca:=ca
  have shS:=hS
  have seb:=eb
  have sj:=j167
  replace so:=fun (_:Unit)=>(so ()).ext j167
  replace ven:=fun (_:Unit)=>(ven ()).ext j167
  replace vbd:=fun (_:Unit)=>(vbd ()).ext j167
  replace vmn:=fun (_:Unit)=>(vmn ()).ext j167
  replace vms:=fun (_:Unit)=>(vms ()).ext j167
  replace vsg:=fun (_:Unit)=>(vsg ()).ext j167
  replace vfr:=fun (_:Unit)=>(vfr ()).ext j167
  replace ca:=fun (_:Unit)=>(ca ()).ext j167
  replace hS:=j167.2 K a _ hS
  replace eb:=eb.trans j167
  clear j167
  simp! only [-m_tIfS]
  refine if_gen (fun σ' H'=>∃ (zz:List V),σ'=[some (.ref a),some (.int room),some (.ref sa),some (.ref en),some (.ref bd),some (.ref mn),some (.int cM),some (.ref ms),some (.int cO),some (.ref sg),some (.ref fr),some (.int cF),some (.ref fw),some (.ref L165),none,none,none,none,none,none]∧Ext J166 H'∧H' L165=some (.lst zz)∧CasA t H' sa 30 zz) (fun nx' hn=>?_) ?_
  ·replace hn:=fun (_:Unit)=>hn
   clear k
   by_cases hd:cM=cO
   ·simp! only [and_true]
    exact hn () _ _ ⟨_,(by rw [hd]),sj,hL165,⟨Nat.le_trans (ca ()).1 (by decide),(ca ()).2⟩⟩
   ·simp! only [and_true]
    intro c21 G1 _ e1 h1
    have hl1:=e1.at hL165
    have ca1:=fun (_:Unit)=>(ca ()).ext e1
    have nc:c21 ≠ L165:=fun z=>by rw [z,hl1] at h1;cases h1
    have cu:upd G1 L165 (.lst (zs165++[V.ref c21])) c21=some (.tup [.int 3,.ref mn,.ref ms,.non,.str "count",.int 0]):=(upd_ne nc).trans h1
    have lu:upd G1 L165 (.lst (zs165++[V.ref c21])) L165=some (.lst (zs165++[V.ref c21])):=upd_same
    have ep:Ext J166 (upd G1 L165 (.lst (zs165++[V.ref c21]))):=(sj.trans e1).put uL165
    have lnn:zs165.length < sizeLine:=Nat.lt_of_le_of_lt (ca ()).1 (by decide)
    clear hL165 h1
    simp! only [and_true]
    try refine ⟨lnn,?_⟩
    generalize upd G1 L165 (.lst (zs165++[V.ref c21]))=J600 at *
    have cz:CasA t J600 sa 30 (zs165++[V.ref c21]):=by
     have q:=CasA.app ((sca ()).ext ep) (CasA.cons (casp 3 cu (don_cc ((sso ()).ext ep) ((svmn ()).ext ep) ((svms ()).ext ep) hvl.symm hvl.symm hd)) CasA.nil)
     exact ⟨Nat.le_trans q.1 (by decide),q.2⟩
    exact hn () _ _ ⟨_,rfl,ep,lu,cz⟩
  rintro _ H5 ⟨zz,rfl,e5,hzz,cz⟩
  have e05:=seb.trans e5
  replace cz:=fun (_:Unit)=>cz
  clear hL165 ca sj seb shS hS eb uL165  sso sven svbd svmn svms svsg svfr sca
  simp! only [and_true]
  refine for_lst (xs:=zz) (fun i σ H'=>∃ v1 v2 v3 v4 v5 v6:Option V,σ=[some (.ref a),some (.int room),some (.ref sa),some (.ref en),some (.ref bd),some (.ref mn),some (.int cM),some (.ref ms),some (.int cO),some (.ref sg),some (.ref fr),some (.int cF),some (.ref fw),some (.ref L165),v1,v2,v3,v4,v5,v6]∧Ext H5 H') ⟨none,none,none,none,none,none,rfl,Ext.refl _⟩ (fun i σ H' _ ⟨_,_,_,_,_,_,_,e⟩=>e.at hzz) ?_ ?_
  ·clear k
   rintro i y _ H1 hi ⟨v1,v2,v3,v4,v5,v6,rfl,e1⟩
   obtain ⟨r,j,one,two,vs,wd,num,rfl,hr,don⟩:=((cz ()).2 y (List.mem_of_getElem? hi)).ext e1
   have sok:=don.str
   clear hi
   replace don:=fun (_:Unit)=>don
   simp! only [↓m_kBody]
   rw [c_spDone]
   refine ⟨j,wd,num,rfl,don (),fun x H2 e2 h2=>?_⟩
   clear hr don
   simp! only [and_true]
   rw [c_spIs]
   refine ⟨h2,sok,fun H3 e3=>?_⟩
   clear h2
   simp! only [and_true]
   exact ⟨_,_,_,_,_,_,rfl,e1.trans (e2.trans e3)⟩
  ·rintro _ H1 ⟨v1,v2,v3,v4,v5,v6,rfl,e1⟩
   have k2:=k () H1 (e05.trans e1)
   clear k
   simp! only [and_true]
theorem cells_one (f n p:Int):cellsL f [(n,p)]=(List.range n.toNat).map fun (k:Nat)=>f+(k:Int) * p:=by
 show wideL [f] (n,p)=_
 unfold wideL
 rw [List.flatMap_cons,List.flatMap_nil,List.append_nil]
theorem fill_rep (c z:Int):∀ (m:Nat) (vals:List Int),fillL vals (List.replicate (m+1) c) z=vals.set c.toNat z
 | 0,vals=>rfl
 | m+1,vals=>by
  show fillL (vals.set c.toNat z) (List.replicate (m+1) c) z=_
  rw [fill_rep c z m,List.set_set]
theorem cells_still (f:Int) (n:Nat):cellsL f [((n:Int),0)]=List.replicate n f:=by
 rw [cells_one,Int.toNat_natCast,show (fun (k:Nat)=>f+(k:Int) * 0)=fun _=>f from funext fun k=>by omega,List.map_const',List.length_range]
theorem g_fill {n:Nat}(h:1≤n) (vals:List Int) (f z:Int):fillL vals (cellsL f [((n:Int),0)]) z=vals.set f.toNat z:=by
 obtain ⟨m,rfl⟩:∃ m,n=m+1:=⟨n - 1,by omega⟩
 rw [cells_still,fill_rep]
theorem g_read {n:Nat}(vals:List Int) (f z:Int) (h:f.toNat < vals.length):readL (vals.set f.toNat z) (cellsL f [((n:Int),0)])=List.replicate n z:=by
 unfold readL
 rw [cells_still,List.map_replicate,List.getD_eq_getElem?_getD,List.getElem?_set_self h]
 rfl
theorem g_cut {n:Nat}(h:11≤n) (z:Int):cutV (((List.replicate n (5:Int)).set 9 z).map V.int) (some 8) (some 11)=[.int 5,.int z,.int 5]:=by
 obtain ⟨m,rfl⟩:∃ m,n=11+m:=⟨n - 11,by omega⟩
 have e:(List.replicate (11+m) (5:Int)).set 9 z=[5,5,5,5,5,5,5,5,5,z,5]++List.replicate m 5:=by
  rw [←List.replicate_append_replicate,List.set_append_left _ _ (by simp)]
  rfl
 rw [e,List.map_append]
 generalize hr:(List.replicate m (5:Int)).map V.int=r
 unfold cutV
 rw [show ((8:Int))=((8:Nat):Int) from rfl,show ((11:Int))=((11:Nat):Int) from rfl,HT.sIx_nat,HT.sIx_nat,Nat.min_eq_left (by simp),Nat.min_eq_left (by simp)]
 rfl
theorem putL_rng {vals cs ws:List Int}(hc:∀ i < vals.length,cs[i]? = some (i:Int)) (hw:ws.length=vals.length):∀ m≤vals.length,putL vals (cs.take m) (ws.take m)=ws.take m++vals.drop m
 | 0,_=>by simp [putL]
 | m+1,h=>by
  have hm:m < ws.length:=by omega
  rw [putL_take (hc m (by omega)) (List.getElem?_eq_getElem hm),putL_rng hc hw m (by omega),Int.toNat_natCast]
  rw [List.set_append_right _ _ (by rw [List.length_take];omega),List.length_take,Nat.min_eq_left (by omega),Nat.sub_self,List.drop_eq_getElem_cons (by omega:m < vals.length),List.set_cons_zero,List.take_succ_eq_append_getElem hm,List.append_assoc]
  rfl
theorem g_put {n:Nat}{vals ws:List Int}(hv:vals.length=n) (hw:ws.length=n):putL vals (cellsL 0 [((n:Int),1)]) ws=ws:=by
 have hcl:(cellsL 0 [((n:Int),1)]).length=n:=by rw [cells_one,List.length_map,List.length_range,Int.toNat_natCast]
 have q:=putL_rng (vals:=vals) (cs:=cellsL 0 [((n:Int),1)]) (ws:=ws) (fun i hi=>by
  rw [cells_one,Int.toNat_natCast,List.getElem?_map,List.getElem?_range (by omega)]
  show some (0+(i:Int) * 1)=_
  rw [Int.mul_one,Int.zero_add]) (by omega) n (by omega)
 rw [List.take_of_length_le (by omega),List.take_of_length_le (by omega),List.drop_of_length_le (by omega),List.append_nil] at q
 exact q
theorem g_cells (n:Nat):cellsL 0 [((n:Int),1)]=(List.range n).map fun (k:Nat)=>(k:Int):=by
 rw [cells_one,Int.toNat_natCast]
 exact List.map_congr_left fun k _=>by omega
theorem g_back (n:Nat):cellsL ((n:Int) - 1) [((n:Int),-1)]=(List.range n).map fun (k:Nat)=>(n:Int) - 1 - (k:Int):=by
 rw [cells_one,Int.toNat_natCast]
 exact List.map_congr_left fun k _=>by omega
theorem g_take {n:Nat}:readL ((List.range n).map fun (k:Nat)=>(k:Int)) (cellsL ((n:Int) - 1) [((n:Int),-1)])=(List.range n).map fun (k:Nat)=>(n:Int) - 1 - (k:Int):=by
 unfold readL
 rw [g_back,List.map_map]
 refine List.map_congr_left fun k hk=>?_
 have hk':=List.mem_range.mp hk
 show ((List.range n).map fun (k:Nat)=>(k:Int)).getD ((n:Int) - 1 - (k:Int)).toNat 0=_
 rw [List.getD_eq_getElem?_getD,List.getElem?_map,List.getElem?_range (by omega)]
 show ((((n:Int) - 1 - (k:Int)).toNat:Nat):Int)=_
 omega
theorem look_no:∀ {kv:List (Int × Int)}{c:Int},c ∉ kv.map (·.1)->lookI kv c=none
 | [],c,_=>rfl
 | p::r,c,h=>by
  rw [List.map_cons,List.mem_cons,not_or] at h
  rw [lookI_neg (fun e=>h.1 e.symm)]
  exact look_no h.2
theorem look_mem:∀ {kv:List (Int × Int)}{c v:Int},(kv.map (·.1)).Nodup->(c,v)∈kv->lookI kv c=some v
 | p::r,c,v,h,hm=>by
  rw [List.map_cons,List.nodup_cons] at h
  rcases List.mem_cons.mp hm with e|hm
  ·rw [←e]
   exact lookI_pos rfl
  ·rw [lookI_neg (fun e=>h.1 (e ▸ List.mem_map.mpr ⟨_,hm,rfl⟩))]
   exact look_mem h.2 hm
theorem dictF_tab:∀ (ps kv:List (Int × Int)),((kv++ps).map (·.1)).Nodup->ps.foldl (fun kvs p=>putK kvs (.inl p.1) (.int p.2)) (tabI kv)=tabI (kv++ps)
 | [],kv,_=>by rw [List.append_nil];rfl
 | p::ps,kv,h=>by
  have hno:p.1 ∉ kv.map (·.1):=fun q=>by
   rw [List.map_append,List.map_cons] at h
   exact (List.nodup_append.mp h).2.2 _ q _ List.mem_cons_self rfl
  rw [List.foldl_cons,put_tab p.2 (look_no hno),dictF_tab ps (kv++[(p.1,p.2)]) (by rw [List.append_assoc];exact h),List.append_assoc]
  rfl
def sideL (n:Nat):List (Int × Int):=(List.range n).map fun (k:Nat)=>((k:Int),(n:Int) - 1 - (k:Int))
theorem side_keys (n:Nat):(sideL n).map (·.1)=(List.range n).map fun (k:Nat)=>(k:Int):=by
 unfold sideL
 rw [List.map_map]
 rfl
theorem side_nd (n:Nat):((sideL n).map (·.1)).Nodup:=by
 rw [side_keys]
 unfold List.Nodup
 rw [List.pairwise_map]
 exact List.Pairwise.imp (fun h e=>h (Int.ofNat.inj e)) List.nodup_range
theorem zip_two {α β γ:Type}(f:α->β) (g:α->γ):∀ xs:List α,(xs.map f).zip (xs.map g)=xs.map fun x=>(f x,g x)
 | []=>rfl
 | x::xs=>by rw [List.map_cons,List.map_cons,List.zip_cons_cons,zip_two f g xs];rfl
theorem g_dict (n:Nat):dictL (cellsL 0 [((n:Int),1)]) (cellsL ((n:Int) - 1) [((n:Int),-1)])=tabI (sideL n):=by
 unfold dictL
 rw [g_cells,g_back,zip_two]
 exact dictF_tab (sideL n) [] (side_nd n)
theorem g_len (n:Nat):(tabI (sideL n)).length=n:=by
 unfold tabI sideL
 rw [List.length_map,List.length_map,List.length_range]
theorem g_at {n k:Nat}(h:k < n):valV (tabI (sideL n)) (.inl (k:Int))=some (.int ((n:Int) - 1 - (k:Int))):=by
 rw [val_tab,look_mem (side_nd n) (List.mem_map.mpr ⟨k,List.mem_range.mpr h,rfl⟩)]
 rfl
theorem al_intE {α:Type}:∀ {zs:List α}{ys:List V},Al (fun (_:α) y=>∃ i:Int,y=.int i) zs ys->∃ vals:List Int,ys=vals.map V.int∧vals.length=zs.length
 | [],ys,h=>⟨[],by rw [List.length_eq_zero_iff.mp (show ys.length=0 from h.1)];rfl,rfl⟩
 | z::zs,[],h=>by have:=h.1;simp at this
 | z::zs,y::ys,h=>by
  obtain ⟨d,rfl⟩:=h.2 0 z y rfl rfl
  obtain ⟨ds,rfl,h2⟩:=al_intE (zs:=zs) (ys:=ys) ⟨by have:=h.1;simpa using this,fun i a b ha hb=>h.2 (i+1) a b (by simpa using ha) (by simpa using hb)⟩
  exact ⟨d::ds,rfl,by rw [List.length_cons,List.length_cons,h2]⟩
theorem TupsAt.keep {H H':Hp}{D l:Addr}{zs:List (List Int)}{xs:List V}(h:TupsAt H D zs) (hl:H l=some (.lst xs)) (ne:D ≠ l) (kp:∀ b o,b ≠ l->H b=some o->H' b=some o):TupsAt H' D zs:=by
 obtain ⟨ys,h1,h2,h3⟩:=h
 exact ⟨ys,kp _ _ ne h1,h2,fun i z y hz hy=>by
  obtain ⟨r,e,hr⟩:=h3 i z y hz hy
  exact ⟨r,e,kp _ _ (fun q=>by rw [q,hl] at hr;cases hr) hr⟩⟩
def VwK (C l:Addr) (H:Hp) (x:Addr) (room f:Int) (A:List (Int × Int)):Prop:=∃ dx D,H x=some (.ins C dx (viewF room f D))∧TupsAt H D (axL A)∧D ≠ l
theorem VwK.ext {C l:Addr}{H H':Hp}{x:Addr}{room f:Int}{A:List (Int × Int)}(h:VwK C l H x room f A) (e:Ext H H'):VwK C l H' x room f A:=(let ⟨dx,D,h1,h2,h3⟩:=h;⟨dx,D,e.at h1,TupsAt.ext h2 e,h3⟩)
theorem VwK.va {C l:Addr}{H:Hp}{x:Addr}{room f:Int}{A:List (Int × Int)}(h:VwK C l H x room f A):ViewAt C H x room f A:=(let ⟨dx,D,h1,h2,_⟩:=h;⟨dx,D,h1,h2⟩)
theorem VwK.keep {C l:Addr}{H H':Hp}{x:Addr}{room f:Int}{A:List (Int × Int)}{xs:List V}(h:VwK C l H x room f A) (hl:H l=some (.lst xs)) (kp:∀ b o,b ≠ l->H b=some o->H' b=some o):VwK C l H' x room f A:=by
 obtain ⟨dx,D,h1,h2,h3⟩:=h
 exact ⟨dx,D,kp _ _ (fun q=>by rw [q,hl] at h1;cases h1) h1,TupsAt.keep h2 hl h3 kp,h3⟩
theorem StoreAt.keep {C:Addr}{H H':Hp}{s l:Addr}{vals ws:List Int}(h:StoreAt C H s l vals) (kp:∀ b o,b ≠ l->H b=some o->H' b=some o) (hl:H' l=some (.lst (ws.map V.int))):StoreAt C H' s l ws:=by
 obtain ⟨dx,h1⟩:=h.ob
 have h2:=h.fl
 exact ⟨⟨dx,kp _ _ (fun q=>by rw [q,h2] at h1;cases h1) h1⟩,hl⟩
theorem floor1 {f p:Int}{n:Nat}(hn:n=4096) (h:∀ k:Nat,k < 4096->0≤f+(k:Int) * p∧f+(k:Int) * p < 4096):OnFloor (cellsL f [(4096,p)]) n:=by
 intro c hc
 rw [cells_one] at hc
 obtain ⟨k,hk,rfl⟩:=List.mem_map.mp hc
 have:=h k (List.mem_range.mp hk)
 omega
theorem axes4 {p:Int}:Axes [(4096,p)]:=axes1 ⟨by decide,by decide⟩
theorem prod4 {p:Int}:prodL ([((4096:Int),p)].map fun a=>a.1)=4096:=by show prodL [4096]=4096;simp [prodL]
theorem ok4 {f p:Int}(h0:0≤f) (h1:f < 4096) (h2:0≤f+4095 * p) (h3:f+4095 * p < 4096):ViewOk 4096 f [(4096,p)]:=by
 have ax:Axes [((4096:Int),p)]:=axes4
 obtain ⟨s1,s2⟩:=span_kept [((4096:Int),p)] fun a ha=>(ax.2 a ha).1
 have l:leastL [((4096:Int),p)]=min 0 ((4096 - 1) * p)+0:=rfl
 have g:greatL [((4096:Int),p)]=max 0 ((4096 - 1) * p)+0:=rfl
 exact ⟨ax,by decide,by decide,by rw [s1,l];omega,by rw [s2,g];omega⟩
theorem kept4 {p:Int}:[((4096:Int),p)].map keptA=[(4096,p)]:=by
 show [((4096:Int),if (4096:Int) > 1 then p else 0)]=_
 rw [if_pos (by decide)]
abbrev B_spLaw (K:PySem.W.Frag) (a:Addr) (H:Hp) (Q:VK) (E:XK):Prop:=∃ ns:List Int,SqL K H a (ns.map V.int)∧ns.length≤63∧∀ H',Q (.bl true) H'
def spLaw (K:PySem.W.Frag):Sp:=fun vs H Q E=>∃ (a:Addr),vs=[.ref a]∧(B_spLaw K a H Q E)
theorem l_spLaw (K:PySem.W.Frag){vs:List V}{H:Hp}{Q:VK}{E:XK}(h:spLaw K vs H Q E):vs.length=1:=spl1 h fun _=>rfl
theorem ok_law (T:Tx K mg t):FnOk P w K mg base CX0 11 t.a_law t.d_law ["_law_script"] (spLaw K):=by
 refine T.F_law.ok c_law (fun vs H Q E h=>l_spLaw _ h) (fun cdv A' outer s H vs Q E hr h=>?_)
 ·obtain ⟨a,rfl,ns,hS,hl,kk⟩:=h
  have G__law_draw:=ok__law_draw (P:=P) (w:=w) (base:=base) T a ns
  have G__law_views_refused:=ok__law_views_refused (P:=P) (w:=w) (base:=base) T a ns
  have G__law_done:=ok__law_done (P:=P) (w:=w) (base:=base) T
  have G__law_is:=ok__law_is (P:=P) (w:=w) (base:=base) T
  have G_View___init__:=ok_View___init__ (P:=P) (w:=w) (base:=base) T
  have G_Store___init__:=ok_Store___init__ (P:=P) (w:=w) (base:=base) T
  have G_Store_all_values:=ok_Store_all_values (P:=P) (w:=w) (base:=base) T
  have G_Store_fill:=ok_Store_fill (P:=P) (w:=w) (base:=base) T
  have G_Store_read:=ok_Store_read (P:=P) (w:=w) (base:=base) T
  have G_Store_put:=ok_Store_put (P:=P) (w:=w) (base:=base) T
  have G_Store_copied:=ok_Store_copied (P:=P) (w:=w) (base:=base) T
  have G_sources:=ok_sources (P:=P) (w:=w) (base:=base) T
  have c1:=T.cl_Store
  refine ⟨_,(@pss_cons _ _ _ _ _ (@ps_set _ _ (1) _ _ _ _ c_law.nd rfl (Or.inl rfl) (@pe_op _ _ _ _ _ _ _ _ on_add (@pe_int _ _ _ _) (@pe_call _ _ _ _ _ _ _ _ _ _ _ _ _ _ _ _ G__law_draw (hr.mono (by decide)) (by rfl) T.m__law_draw T.F__law_draw.kp T.b__law_draw .nil pass0 (@pa_c _ _ _ _ _ (@pvN _ 0 _ _ (by rfl) (by trivial) (by decide) (by decide)) (@pa_c _ _ _ _ _ (@pe_int _ _ _ _) (@pa_c _ _ _ _ _ (@pe_int _ _ _ _) (@pa_nil _) (by rfl)) (by rfl)) (by rfl)) (by decide) (by rfl) (by rfl))) (by rfl) (by trivial)) (@pss_cons _ _ _ _ _ (@ps_setC _ _ _ _ _ _ _ _ _ _ _ _ _ (["_law_k", "_law_script", "_law_room", "_law_due", "_law_store", "_law_many", "_law_great", "_law_view", "_law_one", "_law_other", "_law_found"]) (1) (2) _ c_law.nd rfl (Or.inl rfl) (comp_ok (defScope s_law) ["_law_script", "_law_room", "_law_due", "_law_store", "_law_many", "_law_great", "_law_view", "_law_one", "_law_other", "_law_found"] rfl rfl (by decide +kernel)) rfl (@pi_range1 _ _ _ _ _ _ (by rfl) T.z_range (@pa_c _ _ _ _ _ (@pvN _ 1 _ _ (by rfl) (by trivial) (by decide) (by decide)) (@pa_nil _) (by rfl)) (by rfl)) (fun C s₀ H₀ ex pn=>(@pg_name _ _ (0) _ (show List.Nodup (["_law_k", "_law_script", "_law_room", "_law_due", "_law_store", "_law_many", "_law_great", "_law_view", "_law_one", "_law_other", "_law_found"]:List Str) from by decide +kernel) rfl (Or.inl rfl) (by trivial))) (fun C s₀ H₀ ex pn=>(@pts_nil _)) (fun C s₀ H₀ ex pn=>(@pe_call _ _ _ _ _ _ _ _ _ _ _ _ _ _ _ _ G__law_draw (hr.mono (by decide)) (by rfl) T.m__law_draw T.F__law_draw.kp T.b__law_draw .nil pass0 (@pa_c _ _ _ _ _ (@pvN _ 1 _ _ (by rfl) (by trivial) (by decide) (by decide)) (@pa_c _ _ _ _ _ (@pe_op _ _ _ _ _ _ _ _ on_add (@pe_int _ _ _ _) (@pe_op _ _ _ _ _ _ _ _ on_mod (@pvN _ 0 _ _ (by rfl) (by trivial) (by decide) (by decide)) (@pe_int _ _ _ _))) (@pa_c _ _ _ _ _ (@pe_op _ _ _ _ _ _ _ _ on_pow (@pe_int _ _ _ _) (@pe_int _ _ _ _)) (@pa_nil _) (by rfl)) (by rfl)) (by rfl)) (by decide) (by rfl) (by rfl))) (by rfl) (by intros;rfl) (by trivial)) (@pss_cons _ _ _ _ _ (@ps_set _ _ (3) _ _ _ _ c_law.nd rfl (Or.inl rfl) (@pe_nMake _ _ _ _ _ _ _ _ _ _ _ _ _ _ _ _ _ T.mk_Store G_Store___init__ (hr.mono (by decide)) (by rfl) T.m_Store T.b_Store___init__ .nil pass0 (@pa_c _ _ _ _ _ (@pe_callTy _ _ _ _ _ _ _ _ _ call_nList (by rfl) T.z_list (by decide +kernel) (@pa_c _ _ _ _ _ (@pvN _ 2 _ _ (by rfl) (by trivial) (by decide) (by decide)) (@pa_nil _) (by rfl)) (by decide) (by decide) (by rfl) (by rfl)) (@pa_nil _) (by rfl)) (by decide) (by rfl) (by rfl)) (by rfl) (by trivial)) (@pss_cons _ _ _ _ _ (@ps_if _ _ _ _ _ _ _ _ (PW.pt (@pw_or _ _ _ _ _ _ _ (@pt_not _ _ _ _ (@pt_valN _ _ _ (@pe_call _ _ _ _ _ _ _ _ _ _ _ _ _ _ _ _ G__law_views_refused (hr.mono (by decide)) (by rfl) T.m__law_views_refused T.F__law_views_refused.kp T.b__law_views_refused .nil pass0 (@pa_c _ _ _ _ _ (@pvN _ 0 _ _ (by rfl) (by trivial) (by decide) (by decide)) (@pa_c _ _ _ _ _ (@pvN _ 1 _ _ (by rfl) (by trivial) (by decide) (by decide)) (@pa_c _ _ _ _ _ (@pvN _ 3 _ _ (by rfl) (by trivial) (by decide) (by decide)) (@pa_nil _) (by rfl)) (by rfl)) (by rfl)) (by decide) (by rfl) (by rfl)) (by intros;rfl))) (@pw_or1 _ _ _ _ (@pt_cmpRN _ _ _ _ _ _ _ _ (op_qNe hr.units) (@pe_nMeth0 _ _ _ _ _ _ _ _ _ _ _ _ _ _ _ _ _ (@pvN _ 3 _ _ (by rfl) (by trivial) (by decide) (by decide)) T.cl_Store T.mt_Store_all_values G_Store_all_values (hr.mono (by decide)) T.b_Store_all_values .nil pass0 (by rfl)) (@pvN _ 2 _ _ (by rfl) (by trivial) (by decide) (by decide)) (nomark _))))) (@pss_one _ _ _ (@ps_ret _ _ _ _ (@pe_bl _ _ _ _))) (@pss_nil _)) (@pss_cons _ _ _ _ _ (@ps_if _ _ _ _ _ _ _ _ (@pt_not _ _ _ _ (@pt_valN _ _ _ (@pe_call _ _ _ _ _ _ _ _ _ _ _ _ _ _ _ _ G__law_is (hr.mono (by decide)) (by rfl) T.m__law_is T.F__law_is.kp T.b__law_is .nil pass0 (@pa_c _ _ _ _ _ (@pe_call _ _ _ _ _ _ _ _ _ _ _ _ _ _ _ _ G__law_done (hr.mono (by decide)) (by rfl) T.m__law_done T.F__law_done.kp T.b__law_done .nil pass0 (@pa_c _ _ _ _ _ (@pe_int _ _ _ _) (@pa_c _ _ _ _ _ (@pe_non _ _ _) (@pa_c _ _ _ _ _ (@pe_non _ _ _) (@pa_c _ _ _ _ _ (@pe_non _ _ _) (@pa_c _ _ _ _ _ (@pe_qLst _ _ _ _ (@pa_nil _)) (@pa_nil _) (by rfl)) (by rfl)) (by rfl)) (by rfl)) (by rfl)) (by decide) (by rfl) (by rfl)) (@pa_c _ _ _ _ _ (@pe_str _ _ _ _) (@pa_c _ _ _ _ _ (@pe_int _ _ _ _) (@pa_nil _) (by rfl)) (by rfl)) (by rfl)) (by decide) (by rfl) (by rfl)) (by intros;rfl))) (@pss_one _ _ _ (@ps_ret _ _ _ _ (@pe_bl _ _ _ _))) (@pss_nil _)) (@pss_cons _ _ _ _ _ (@ps_set _ _ (4) _ _ _ _ c_law.nd rfl (Or.inl rfl) (@pe_op _ _ _ _ _ _ _ _ on_add (@pe_int _ _ _ _) (@pe_ix _ _ _ _ _ _ _ ix_q (@pe_qLst _ _ _ _ (@pa_c _ _ _ _ _ (@pe_int _ _ _ _) (@pa_c _ _ _ _ _ (@pe_call _ _ _ _ _ _ _ _ _ _ _ _ _ _ _ _ G__law_draw (hr.mono (by decide)) (by rfl) T.m__law_draw T.F__law_draw.kp T.b__law_draw .nil pass0 (@pa_c _ _ _ _ _ (@pvN _ 0 _ _ (by rfl) (by trivial) (by decide) (by decide)) (@pa_c _ _ _ _ _ (@pe_int _ _ _ _) (@pa_c _ _ _ _ _ (@pe_int _ _ _ _) (@pa_nil _) (by rfl)) (by rfl)) (by rfl)) (by decide) (by rfl) (by rfl)) (@pa_nil _) (by rfl)) (by rfl))) (@pe_call _ _ _ _ _ _ _ _ _ _ _ _ _ _ _ _ G__law_draw (hr.mono (by decide)) (by rfl) T.m__law_draw T.F__law_draw.kp T.b__law_draw .nil pass0 (@pa_c _ _ _ _ _ (@pvN _ 0 _ _ (by rfl) (by trivial) (by decide) (by decide)) (@pa_c _ _ _ _ _ (@pe_int _ _ _ _) (@pa_c _ _ _ _ _ (@pe_int _ _ _ _) (@pa_nil _) (by rfl)) (by rfl)) (by rfl)) (by decide) (by rfl) (by rfl)) (fun _ _=>rfl))) (by rfl) (by trivial)) (@pss_cons _ _ _ _ _ (@ps_if _ _ _ _ _ _ _ _ (@pt_not _ _ _ _ (@pt_valN _ _ _ (@pe_call _ _ _ _ _ _ _ _ _ _ _ _ _ _ _ _ G__law_is (hr.mono (by decide)) (by rfl) T.m__law_is T.F__law_is.kp T.b__law_is .nil pass0 (@pa_c _ _ _ _ _ (@pe_call _ _ _ _ _ _ _ _ _ _ _ _ _ _ _ _ G__law_done (hr.mono (by decide)) (by rfl) T.m__law_done T.F__law_done.kp T.b__law_done .nil pass0 (@pa_c _ _ _ _ _ (@pe_int _ _ _ _) (@pa_c _ _ _ _ _ (@pe_non _ _ _) (@pa_c _ _ _ _ _ (@pe_non _ _ _) (@pa_c _ _ _ _ _ (@pe_non _ _ _) (@pa_c _ _ _ _ _ (@pe_op _ _ _ _ _ _ _ _ op_nRepO (@pe_qLst _ _ _ _ (@pa_c _ _ _ _ _ (@pe_int _ _ _ _) (@pa_nil _) (by rfl))) (@pvN _ 4 _ _ (by rfl) (by trivial) (by decide) (by decide))) (@pa_nil _) (by rfl)) (by rfl)) (by rfl)) (by rfl)) (by rfl)) (by decide) (by rfl) (by rfl)) (@pa_c _ _ _ _ _ (@pe_str _ _ _ _) (@pa_c _ _ _ _ _ (@pvN _ 4 _ _ (by rfl) (by trivial) (by decide) (by decide)) (@pa_nil _) (by rfl)) (by rfl)) (by rfl)) (by decide) (by rfl) (by rfl)) (by intros;rfl))) (@pss_one _ _ _ (@ps_ret _ _ _ _ (@pe_bl _ _ _ _))) (@pss_nil _)) (@pss_cons _ _ _ _ _ (@ps_set _ _ (5) _ _ _ _ c_law.nd rfl (Or.inl rfl) (@pe_nMake _ _ _ _ _ _ _ _ _ _ _ _ _ _ _ _ _ T.mk_Store G_Store___init__ (hr.mono (by decide)) (by rfl) T.m_Store T.b_Store___init__ .nil pass0 (@pa_c _ _ _ _ _ (@pe_op _ _ _ _ _ _ _ _ op_nRepO (@pe_qLst _ _ _ _ (@pa_c _ _ _ _ _ (@pe_int _ _ _ _) (@pa_nil _) (by rfl))) (@pe_int _ _ _ _)) (@pa_nil _) (by rfl)) (by decide) (by rfl) (by rfl)) (by rfl) (by trivial)) (@pss_cons _ _ _ _ _ (@ps_set _ _ (6) _ _ _ _ c_law.nd rfl (Or.inl rfl) (@pe_nMake _ _ _ _ _ _ _ _ _ _ _ _ _ _ _ _ _ T.mk_View G_View___init__ (hr.mono (by decide)) (by rfl) T.m_View T.b_View___init__ .nil pass0 (@pa_c _ _ _ _ _ (@pe_int _ _ _ _) (@pa_c _ _ _ _ _ (@pe_int _ _ _ _) (@pa_c _ _ _ _ _ (@pe_qLst _ _ _ _ (@pa_c _ _ _ _ _ (@pe_qTup _ _ _ _ _ (@pa_c _ _ _ _ _ (@pe_int _ _ _ _) (@pa_c _ _ _ _ _ (@pe_int _ _ _ _) (@pa_nil _) (by rfl)) (by rfl))) (@pa_nil _) (by rfl))) (@pa_nil _) (by rfl)) (by rfl)) (by rfl)) (by decide) (by rfl) (by rfl)) (by rfl) (by trivial)) (@pss_cons _ _ _ _ _ (@ps_expr _ _ _ _ (@pe_nMeth _ _ _ _ _ _ _ _ _ _ _ _ _ _ _ _ _ _ _ _ (@pvN _ 5 _ _ (by rfl) (by trivial) (by decide) (by decide)) T.cl_Store T.mt_Store_fill G_Store_fill (hr.mono (by decide)) T.b_Store_fill .nil pass0 (@pa_c _ _ _ _ _ (@pvN _ 6 _ _ (by rfl) (by trivial) (by decide) (by decide)) (@pa_c _ _ _ _ _ (@pvN _ 1 _ _ (by rfl) (by trivial) (by decide) (by decide)) (@pa_nil _) (by rfl)) (by rfl)) (by rfl) (by rfl) (by rfl)) (by rfl)) (@pss_cons _ _ _ _ _ (@ps_if _ _ _ _ _ _ _ _ (PW.pt (@pw_or _ _ _ _ _ _ _ (@pt_cmpRN _ _ _ _ _ _ _ _ (op_qNe hr.units) (@pe_nMeth _ _ _ _ _ _ _ _ _ _ _ _ _ _ _ _ _ _ _ _ (@pvN _ 5 _ _ (by rfl) (by trivial) (by decide) (by decide)) T.cl_Store T.mt_Store_read G_Store_read (hr.mono (by decide)) T.b_Store_read .nil pass0 (@pa_c _ _ _ _ _ (@pvN _ 6 _ _ (by rfl) (by trivial) (by decide) (by decide)) (@pa_nil _) (by rfl)) (by rfl) (by rfl) (by rfl)) (@pe_op _ _ _ _ _ _ _ _ op_nRepO (@pe_qLst _ _ _ _ (@pa_c _ _ _ _ _ (@pvN _ 1 _ _ (by rfl) (by trivial) (by decide) (by decide)) (@pa_nil _) (by rfl))) (@pe_int _ _ _ _)) (nomark _)) (@pw_or1 _ _ _ _ (@pt_cmpRN _ _ _ _ _ _ _ _ (op_qNe hr.units) (@pe_slice _ _ _ _ _ _ _ _ _ _ sl_n (@pe_nMeth0 _ _ _ _ _ _ _ _ _ _ _ _ _ _ _ _ _ (@pvN _ 5 _ _ (by rfl) (by trivial) (by decide) (by decide)) T.cl_Store T.mt_Store_all_values G_Store_all_values (hr.mono (by decide)) T.b_Store_all_values .nil pass0 (by rfl)) (@po_some _ _ _ (@pe_int _ _ _ _)) (@po_some _ _ _ (@pe_int _ _ _ _))) (@pe_qLst _ _ _ _ (@pa_c _ _ _ _ _ (@pe_int _ _ _ _) (@pa_c _ _ _ _ _ (@pvN _ 1 _ _ (by rfl) (by trivial) (by decide) (by decide)) (@pa_c _ _ _ _ _ (@pe_int _ _ _ _) (@pa_nil _) (by rfl)) (by rfl)) (by rfl))) (nomark _))))) (@pss_one _ _ _ (@ps_ret _ _ _ _ (@pe_bl _ _ _ _))) (@pss_nil _)) (@pss_cons _ _ _ _ _ (@ps_set _ _ (7) _ _ _ _ c_law.nd rfl (Or.inl rfl) (@pe_nMake _ _ _ _ _ _ _ _ _ _ _ _ _ _ _ _ _ T.mk_View G_View___init__ (hr.mono (by decide)) (by rfl) T.m_View T.b_View___init__ .nil pass0 (@pa_c _ _ _ _ _ (@pe_int _ _ _ _) (@pa_c _ _ _ _ _ (@pe_int _ _ _ _) (@pa_c _ _ _ _ _ (@pe_qLst _ _ _ _ (@pa_c _ _ _ _ _ (@pe_qTup _ _ _ _ _ (@pa_c _ _ _ _ _ (@pe_int _ _ _ _) (@pa_c _ _ _ _ _ (@pe_int _ _ _ _) (@pa_nil _) (by rfl)) (by rfl))) (@pa_nil _) (by rfl))) (@pa_nil _) (by rfl)) (by rfl)) (by rfl)) (by decide) (by rfl) (by rfl)) (by rfl) (by trivial)) (@pss_cons _ _ _ _ _ (@ps_set _ _ (8) _ _ _ _ c_law.nd rfl (Or.inl rfl) (@pe_nMake _ _ _ _ _ _ _ _ _ _ _ _ _ _ _ _ _ T.mk_View G_View___init__ (hr.mono (by decide)) (by rfl) T.m_View T.b_View___init__ .nil pass0 (@pa_c _ _ _ _ _ (@pe_int _ _ _ _) (@pa_c _ _ _ _ _ (@pe_int _ _ _ _) (@pa_c _ _ _ _ _ (@pe_qLst _ _ _ _ (@pa_c _ _ _ _ _ (@pe_qTup _ _ _ _ _ (@pa_c _ _ _ _ _ (@pe_int _ _ _ _) (@pa_c _ _ _ _ _ (@pe_un _ _ _ _ _ _ un_negN (@pe_int _ _ _ _)) (@pa_nil _) (by rfl)) (by rfl))) (@pa_nil _) (by rfl))) (@pa_nil _) (by rfl)) (by rfl)) (by rfl)) (by decide) (by rfl) (by rfl)) (by rfl) (by trivial)) (@pss_cons _ _ _ _ _ (@ps_set _ _ (9) _ _ _ _ c_law.nd rfl (Or.inl rfl) (@pe_call _ _ _ _ _ _ _ _ _ _ _ _ _ _ _ _ G_sources (hr.mono (by decide)) (by rfl) T.m_sources T.F_sources.kp T.b_sources .nil pass0 (@pa_c _ _ _ _ _ (@pvN _ 7 _ _ (by rfl) (by trivial) (by decide) (by decide)) (@pa_c _ _ _ _ _ (@pvN _ 8 _ _ (by rfl) (by trivial) (by decide) (by decide)) (@pa_nil _) (by rfl)) (by rfl)) (by decide) (by rfl) (by rfl)) (by rfl) (by trivial)) (@pss_cons _ _ _ _ _ (@ps_if _ _ _ _ _ _ _ _ (PW.pt (@pw_or _ _ _ _ _ _ _ (@pt_cmpRN _ _ _ _ _ _ _ _ (op_qNe hr.units) (@pe_callB _ _ _ _ _ _ _ ("len") _ call_qLenD (by rfl) T.z_len (by decide +kernel) (@pa_c _ _ _ _ _ (@pvN _ 9 _ _ (by rfl) (by trivial) (by decide) (by decide)) (@pa_nil _) (by rfl)) (by decide) (by decide) (by rfl) (by rfl)) (@pe_int _ _ _ _) (nomark _)) (@pw_or _ _ _ _ _ _ _ (@pt_cmpRN _ _ _ _ _ _ _ _ (op_qNe hr.units) (@pe_dget _ _ _ _ _ _ (units1 hr.units) (@pvN _ 9 _ _ (by rfl) (by trivial) (by decide) (by decide)) (@pe_int _ _ _ _) (fun _ _=>rfl)) (@pe_int _ _ _ _) (nomark _)) (@pw_or1 _ _ _ _ (@pt_cmpRN _ _ _ _ _ _ _ _ (op_qNe hr.units) (@pe_dget _ _ _ _ _ _ (units1 hr.units) (@pvN _ 9 _ _ (by rfl) (by trivial) (by decide) (by decide)) (@pe_int _ _ _ _) (fun _ _=>rfl)) (@pe_int _ _ _ _) (nomark _)))))) (@pss_one _ _ _ (@ps_ret _ _ _ _ (@pe_bl _ _ _ _))) (@pss_nil _)) (@pss_cons _ _ _ _ _ (@ps_expr _ _ _ _ (@pe_nMeth _ _ _ _ _ _ _ _ _ _ _ _ _ _ _ _ _ _ _ _ (@pvN _ 5 _ _ (by rfl) (by trivial) (by decide) (by decide)) T.cl_Store T.mt_Store_put G_Store_put (hr.mono (by decide)) T.b_Store_put .nil pass0 (@pa_c _ _ _ _ _ (@pvN _ 7 _ _ (by rfl) (by trivial) (by decide) (by decide)) (@pa_c _ _ _ _ _ (@pe_listrange _ _ _ _ _ _ _ rfl (by rfl) T.z_list (by rfl) T.z_range (@pa_c _ _ _ _ _ (@pe_int _ _ _ _) (@pa_nil _) (by rfl)) (by rfl) (by rfl) (by rfl)) (@pa_nil _) (by rfl)) (by rfl)) (by rfl) (by rfl) (by rfl)) (by rfl)) (@pss_cons _ _ _ _ _ (@ps_expr _ _ _ _ (@pe_nMeth _ _ _ _ _ _ _ _ _ _ _ _ _ _ _ _ _ _ _ _ (@pvN _ 5 _ _ (by rfl) (by trivial) (by decide) (by decide)) T.cl_Store T.mt_Store_copied G_Store_copied (hr.mono (by decide)) T.b_Store_copied .nil pass0 (@pa_c _ _ _ _ _ (@pvN _ 7 _ _ (by rfl) (by trivial) (by decide) (by decide)) (@pa_c _ _ _ _ _ (@pvN _ 8 _ _ (by rfl) (by trivial) (by decide) (by decide)) (@pa_nil _) (by rfl)) (by rfl)) (by rfl) (by rfl) (by rfl)) (by rfl)) (@pss_one _ _ _ (@ps_ret _ _ _ _ (@pe_cmpR _ _ _ _ _ _ _ _ (op_qEq hr.units) (@pe_nMeth0 _ _ _ _ _ _ _ _ _ _ _ _ _ _ _ _ _ (@pvN _ 5 _ _ (by rfl) (by trivial) (by decide) (by decide)) T.cl_Store T.mt_Store_all_values G_Store_all_values (hr.mono (by decide)) T.b_Store_all_values .nil pass0 (by rfl)) (@pe_comp _ _ _ _ _ _ _ _ _ _ _ (["_law_k", "_law_script", "_law_room", "_law_due", "_law_store", "_law_many", "_law_great", "_law_view", "_law_one", "_law_other", "_law_found"]) (1) (comp_ok (defScope s_law) ["_law_script", "_law_room", "_law_due", "_law_store", "_law_many", "_law_great", "_law_view", "_law_one", "_law_other", "_law_found"] rfl rfl (by decide +kernel)) rfl (@pi_range1 _ _ _ _ _ _ (by rfl) T.z_range (@pa_c _ _ _ _ _ (@pe_int _ _ _ _) (@pa_nil _) (by rfl)) (by rfl)) (fun C s₀ H₀ ex pn=>(@pg_name _ _ (0) _ (show List.Nodup (["_law_k", "_law_script", "_law_room", "_law_due", "_law_store", "_law_many", "_law_great", "_law_view", "_law_one", "_law_other", "_law_found"]:List Str) from by decide +kernel) rfl (Or.inl rfl) (by trivial))) (fun C s₀ H₀ ex pn=>(@pts_nil _)) (fun C s₀ H₀ ex pn=>(@pe_op _ _ _ _ _ _ _ _ on_sub (@pe_int _ _ _ _) (@pvN _ 0 _ _ (by rfl) (by trivial) (by decide) (by decide)))) (by intros;rfl)) (nomark _))))))))))))))))))))),?_⟩
  rw [show start ["_law_script", "_law_room", "_law_due", "_law_store", "_law_many", "_law_great", "_law_view", "_law_one", "_law_other", "_law_found"] [.ref a]=[some (.ref a),none,none,none,none,none,none,none,none,none] from rfl]
  clear G__law_draw G__law_views_refused G__law_done G__law_is G_View___init__ G_Store___init__ G_Store_all_values G_Store_fill G_Store_read G_Store_put G_Store_copied G_sources
  replace kk:=fun (_:Unit)=>kk
  simp! only [and_true]
  rw [c_spDraw]
  refine ⟨hS,hl,⟨by decide,by decide⟩,by decide,fun d1 d10 d11=>?_⟩
  obtain ⟨room,hro⟩:∃ room,2+d1=room:=⟨_,rfl⟩
  have hr0:2≤room:=by omega
  have hr1:room≤61:=by omega
  simp! only [and_true]
  clear hro d10 d11
  refine ⟨by omega,by omega,?_⟩
  refine comp_rel2 (List.range room.toNat) (fun _=>true) (fun (z:Nat) x H'=>x=.int (0+(z:Int))) (fun D (z:Nat) y H'=>∃ i:Int,y=.int i) wk_rng.1 wk_rng.2 (fun _ _ _ _ _ h _=>h) (fun _ _ _ _ _ _ h _=>h) (len5000 (by rw [List.length_range];omega)) ?_ ?_
  ·intro D z y H' N1 N0 hz hD e' _ hy k1 _
   subst hy
   have hz8:=List.mem_range.mp hz
   have hS':=e'.2 K a _ hS
   have m0:=Int.emod_nonneg (0+(z:Int)) (show (46:Int) ≠ 0 by decide)
   have m1:=Int.emod_lt_of_pos (0+(z:Int)) (show (0:Int) < 46 by decide)
   have k1':=k1 rfl
   clear k1 hz hS kk
   simp! only [↓m_kCm_1,↓m_kCm2]
   rw [c_spDraw]
   refine ⟨hS',hl,⟨by omega,by omega⟩,by decide,fun c c0 c1=>?_⟩
   exact k1' _ H' (Ext.refl _) ⟨_,rfl⟩
  intro D1 ys1 H1 hD1 e1 h1 al1
  rw [filt] at al1
  obtain ⟨vals,rfl,hvl⟩:=al_intE al1
  rw [List.length_range] at hvl
  replace hS:=e1.2 K a _ hS
  clear hD1 al1 e1
  simp! only [and_true]
  intro r2 H2 hr2 e2 h2
  replace hS:=e2.2 K a _ hS
  replace h1:=e2.at h1
  clear hr2 e2
  simp! only [and_true]
  intro x1 dx1 G3 hx1 hdx1 hne1 g3 k3 k3'
  rw [c_spSInit]
  refine ⟨dx1,vals,k3,g3.at h2,by omega,by omega,fun H3 l gg hl3 hx3 hf3=>?_⟩
  have e3:=gg H2 g3 hx1
  have so:StoreAt t.a_Store H3 x1 l vals:=⟨⟨dx1,hx3⟩,hf3⟩
  replace so:=fun (_:Unit)=>so
  replace hS:=e3.2 K a _ hS
  replace h1:=e3.at h1
  clear e3 gg hl3 hx3 hf3 g3 k3 k3' hx1 hdx1 hne1 h2
  simp! only [and_true]
  rw [c_spVR]
  refine ⟨rfl,hS,hl,by omega,by omega,l,vals,so (),by omega,fun H4 e4=>?_⟩
  replace so:=fun (_:Unit)=>(so ()).ext e4
  replace hS:=e4.2 K a _ hS
  replace h1:=e4.at h1
  clear e4
  obtain ⟨ds,hst⟩:=(so ()).ob
  have m1:=storeF_no l (m := "all_values") (by decide +kernel)
  simp! only [and_true]
  rw [c_spAllV]
  refine ⟨l,vals,so (),by omega,fun r5 H5 hr5 e5 h5=>?_⟩
  replace hS:=e5.2 K a _ hS
  replace h1:=e5.at h1
  clear e5 hst m1 hr5 so
  simp! only [and_true]
  intro p6 H6 u6 e6 h6
  replace hS:=e6.2 K a _ hS
  clear e6 h1 h5 u6
  simp! only [and_true]
  rw [c_spDone]
  refine ⟨5, "cells",0,rfl,.inr (.inr (.inr (.inr ⟨rfl,p6,[],rfl,h6,.inl ⟨rfl,rfl,rfl⟩⟩))),fun x7 H7 e7 h7=>?_⟩
  replace hS:=e7.2 K a _ hS
  clear e7 h6
  simp! only [and_true]
  rw [c_spIs]
  refine ⟨h7,by decide +kernel,fun H8 e8=>?_⟩
  replace hS:=e8.2 K a _ hS
  clear e8 h7
  simp! only [and_true]
  rw [c_spDraw]
  refine ⟨hS,hl,⟨by decide,by decide⟩,by decide,fun q q0 q1=>?_⟩
  simp! only [and_true]
  intro p9 H9 u9 e9 h9
  replace hS:=e9.2 K a _ hS
  clear e9 u9
  simp! only [and_true]
  rw [c_spDraw]
  refine ⟨hS,hl,⟨by decide,by decide⟩,by decide,fun b b0 b1=>?_⟩
  simp! only [and_true]
  refine optK_pick (fun v=>∃ n:Int,v=.int n∧0≤n∧n≤300) b0 (by show b < (2:Int);exact b1) (fun v hv=>?_) fun v hv=>?_
  ·simp only [List.mem_cons,List.not_mem_nil,or_false] at hv
   rcases hv with rfl|rfl
   ·exact ⟨_,rfl,by decide,by decide⟩
   ·exact ⟨_,rfl,by omega,by omega⟩
  obtain ⟨n,rfl,hn1,hn2⟩:=hv
  obtain ⟨m,hm⟩:∃ m,4097+n=m:=⟨_,rfl⟩
  have hm1:4097≤m:=by omega
  have hm2:m≤4397:=by omega
  clear h9 b0 b1 q0 q1
  simp! only [and_true]
  intro p10 H10 u10 e10 h10
  clear hm hn1 hn2 e10 u10 hS
  have cm:0≤m∧m≤1000000:=⟨by omega,by omega⟩
  simp! only [and_true]
  try refine ⟨by omega,by omega,?_⟩
  intro p11 H11 u11 e11 h11
  clear cm u11 e11 h10
  simp! only [and_true]
  rw [c_spDone]
  refine ⟨5, "many",m,rfl,.inr (.inr (.inr (.inr ⟨rfl,p11,_,rfl,h11,.inr ⟨by rw [List.length_replicate];omega,rfl,by rw [List.length_replicate];omega⟩⟩))),fun x12 H12 e12 h12=>?_⟩
  clear h11 e12
  simp! only [and_true]
  rw [c_spIs]
  refine ⟨h12,by decide +kernel,fun H13 e13=>?_⟩
  clear h12 e13 hm1 hm2
  simp! only [and_true]
  intro p14 H14 u14 e14 h14
  clear e14 u14
  simp! only [and_true]
  intro p15 H15 u15 e15 h15
  clear e15 u15 h14
  obtain ⟨N,hN⟩:∃ N:Nat,N=4096:=⟨_,rfl⟩
  have hNI:(N:Int)=4096:=by omega
  replace h15:H15 p15=some (.lst ((List.replicate N (5:Int)).map V.int)):=by rw [List.map_replicate,hN];exact h15
  obtain ⟨W0,hW0⟩:∃ W0:List Int,W0=List.replicate N 5:=⟨_,rfl⟩
  replace hW0:=fun (_:Unit)=>hW0
  rw [←hW0 ()] at h15
  have hW0l:W0.length=N:=by rw [hW0 (),List.length_replicate]
  simp! only [and_true]
  intro x2 dx2 G16 hx16 hd16 hq16 g16 k16 kk16
  rw [c_spSInit]
  refine ⟨dx2,W0,k16,g16.at h15,by omega,by omega,fun H16 l2 gg16 hl16 hx16' hf16=>?_⟩
  have so:StoreAt t.a_Store H16 x2 l2 W0:=⟨⟨dx2,hx16'⟩,hf16⟩
  replace so:=fun (_:Unit)=>so
  clear h15 k16 kk16 hx16 hd16 hq16 g16 gg16 hl16 hx16' hf16
  simp! only [and_true]
  intro tvi J101 utvi j101 htvi
  clear utvi
  replace so:=fun (_:Unit)=>(so ()).ext j101
  clear j101
  simp! only [and_true]
  intro lvi J102 ulvi j102 hlvi
  clear ulvi
  replace so:=fun (_:Unit)=>(so ()).ext j102
  replace htvi:=j102.at htvi
  clear j102
  simp! only [and_true]
  intro vi dx103 G103 hx103 hd103 hq103 g103 k103 kk103
  rw [c_spVInit]
  refine ⟨dx103,[(4096,0)],k103,TupsAt.ext ⟨_,hlvi,Al.cons' ⟨tvi,rfl,htvi⟩ Al.nil⟩ g103,ok4 (by decide) (by decide) (by decide) (by decide),fun J103 D103 gg103 hD103 hx103' tt103=>?_⟩
  have j103:=gg103 J102 g103 hx103
  have nD:D103 ≠ l2:=fun z=>by rw [z,(g103.at (so ()).fl)] at hD103;cases hD103
  rw [kept4] at tt103
  have vvi:VwK t.a_View l2 J103 vi 4096 9 [(4096,0)]:=⟨dx103,D103,hx103',tt103,nD⟩
  replace vvi:=fun (_:Unit)=>vvi
  clear k103 kk103 hx103 hd103 hq103 g103 gg103 hD103 hx103' tt103 nD htvi hlvi
  replace so:=fun (_:Unit)=>(so ()).ext j103
  clear j103
  have f1:fillL W0 (cellsL 9 [(4096,0)]) room=W0.set 9 room:=by
   have q:=g_fill (n:=N) (by omega) W0 9 room
   rw [hNI] at q
   exact q
  obtain ⟨W2,hW2⟩:∃ W2:List Int,W2=W0.set 9 room:=⟨_,rfl⟩
  replace hW2:=fun (_:Unit)=>hW2
  rw [←hW2 ()] at f1
  have hW2l:W2.length=N:=by rw [hW2 (),List.length_set,hW0l]
  obtain ⟨ds,hst⟩:=(so ()).ob
  have m1:=storeF_no l2 (m := "fill") (by decide +kernel)
  simp! only [and_true]
  rw [c_spFill]
  refine ⟨l2,W0,4096,9,[(4096,0)],so (),(vvi ()).va,axes4,by omega,by omega,by rw [prod4];decide,floor1 (by omega) (fun k hk=>by omega),fun J20 ex kp hw=>?_⟩
  rw [f1] at hw
  clear hst m1 ex
  replace vvi:=fun (_:Unit)=>(vvi ()).keep (so ()).fl kp
  replace so:=fun (_:Unit)=>(so ()).keep kp hw
  clear kp hw f1
  have f2:readL W2 (cellsL 9 [(4096,0)])=List.replicate N room:=by
   have q:=g_read (n:=N) W0 9 room (by show 9 < W0.length;omega)
   rw [hNI] at q
   rw [hW2 ()]
   exact q
  obtain ⟨RR,hRR⟩:∃ RR:List Int,RR=List.replicate N room:=⟨_,rfl⟩
  replace hRR:=fun (_:Unit)=>hRR
  rw [←hRR ()] at f2
  obtain ⟨ds,hst⟩:=(so ()).ob
  have m1:=storeF_no l2 (m := "read") (by decide +kernel)
  simp! only [and_true]
  rw [c_spRead]
  refine ⟨l2,W2,4096,9,[(4096,0)],so (),(vvi ()).va,axes4,by omega,by rw [prod4];decide,floor1 (by omega) (fun k hk=>by omega),fun r21 J21 u21 j21 h21=>?_⟩
  rw [f2] at h21
  clear hst m1 u21 f2
  replace so:=fun (_:Unit)=>(so ()).ext j21
  replace vvi:=fun (_:Unit)=>(vvi ()).ext j21
  clear j21
  clear vvi
  simp! only [and_true]
  intro p22 J104 up22 j104 hp22
  clear up22
  replace so:=fun (_:Unit)=>(so ()).ext j104
  replace h21:=j104.at h21
  clear j104
  simp! only [and_true]
  intro p23 J105 up23 j105 hp23
  clear up23
  replace so:=fun (_:Unit)=>(so ()).ext j105
  replace h21:=j105.at h21
  clear j105
  clear hp22
  replace hp23:J105 p23=some (.lst (RR.map V.int)):=by rw [hRR (),List.map_replicate,hN];exact hp23
  have hRl:RR.length=N:=by rw [hRR (),List.length_replicate]
  obtain ⟨ds,hst⟩:=(so ()).ob
  have m1:=storeF_no l2 (m := "all_values") (by decide +kernel)
  simp! only [and_true]
  rw [c_spAllV]
  refine ⟨l2,W2,so (),by omega,fun r24 J24 u24 j24 h24=>?_⟩
  clear hst m1 u24 h21 hp23 hRl hRR
  replace so:=fun (_:Unit)=>(so ()).ext j24
  clear j24
  have f3:cutV (W2.map V.int) (some 8) (some 11)=[.int 5,.int room,.int 5]:=by rw [hW2 (),hW0 ()];exact g_cut (by omega) room
  simp! only [and_true]
  intro p25 J106 up25 j106 hp25
  clear up25
  replace so:=fun (_:Unit)=>(so ()).ext j106
  clear j106
  try rw [f3] at hp25
  clear f3 h24
  simp! only [and_true]
  intro p26 J107 up26 j107 hp26
  clear up26
  replace so:=fun (_:Unit)=>(so ()).ext j107
  replace hp25:=j107.at hp25
  clear j107
  simp! only [and_true]
  intro ton J108 uton j108 hton
  clear uton
  replace so:=fun (_:Unit)=>(so ()).ext j108
  replace hp25:=j108.at hp25
  replace hp26:=j108.at hp26
  clear j108
  simp! only [and_true]
  intro lon J109 ulon j109 hlon
  clear ulon
  replace so:=fun (_:Unit)=>(so ()).ext j109
  replace hp25:=j109.at hp25
  replace hp26:=j109.at hp26
  replace hton:=j109.at hton
  clear j109
  simp! only [and_true]
  intro on dx110 G110 hx110 hd110 hq110 g110 k110 kk110
  rw [c_spVInit]
  refine ⟨dx110,[(4096,1)],k110,TupsAt.ext ⟨_,hlon,Al.cons' ⟨ton,rfl,hton⟩ Al.nil⟩ g110,ok4 (by decide) (by decide) (by decide) (by decide),fun J110 D110 gg110 hD110 hx110' tt110=>?_⟩
  have j110:=gg110 J109 g110 hx110
  have nD:D110 ≠ l2:=fun z=>by rw [z,(g110.at (so ()).fl)] at hD110;cases hD110
  rw [kept4] at tt110
  have von:VwK t.a_View l2 J110 on 4096 0 [(4096,1)]:=⟨dx110,D110,hx110',tt110,nD⟩
  replace von:=fun (_:Unit)=>von
  clear k110 kk110 hx110 hd110 hq110 g110 gg110 hD110 hx110' tt110 nD hton hlon
  replace so:=fun (_:Unit)=>(so ()).ext j110
  replace hp25:=j110.at hp25
  replace hp26:=j110.at hp26
  clear j110
  clear hp25 hp26
  simp! only [and_true]
  intro tot J111 utot j111 htot
  clear utot
  replace so:=fun (_:Unit)=>(so ()).ext j111
  replace von:=fun (_:Unit)=>(von ()).ext j111
  clear j111
  simp! only [and_true]
  intro lot J112 ulot j112 hlot
  clear ulot
  replace so:=fun (_:Unit)=>(so ()).ext j112
  replace von:=fun (_:Unit)=>(von ()).ext j112
  replace htot:=j112.at htot
  clear j112
  simp! only [and_true]
  intro ot dx113 G113 hx113 hd113 hq113 g113 k113 kk113
  rw [c_spVInit]
  refine ⟨dx113,[(4096,(-1))],k113,TupsAt.ext ⟨_,hlot,Al.cons' ⟨tot,rfl,htot⟩ Al.nil⟩ g113,ok4 (by decide) (by decide) (by decide) (by decide),fun J113 D113 gg113 hD113 hx113' tt113=>?_⟩
  have j113:=gg113 J112 g113 hx113
  have nD:D113 ≠ l2:=fun z=>by rw [z,(g113.at (so ()).fl)] at hD113;cases hD113
  rw [kept4] at tt113
  have vot:VwK t.a_View l2 J113 ot 4096 4095 [(4096,(-1))]:=⟨dx113,D113,hx113',tt113,nD⟩
  replace vot:=fun (_:Unit)=>vot
  clear k113 kk113 hx113 hd113 hq113 g113 gg113 hD113 hx113' tt113 nD htot hlot
  replace so:=fun (_:Unit)=>(so ()).ext j113
  replace von:=fun (_:Unit)=>(von ()).ext j113
  clear j113
  have f4:dictL (cellsL 0 [(4096,1)]) (cellsL 4095 [(4096,-1)])=tabI (sideL N):=by
   have q:=g_dict N
   rw [hNI] at q
   exact q
  obtain ⟨kv,hkv⟩:∃ kv,kv=tabI (sideL N):=⟨_,rfl⟩
  replace hkv:=fun (_:Unit)=>hkv
  rw [←hkv ()] at f4
  simp! only [and_true]
  rw [c_spSrc]
  refine ⟨4096,0,4095,[(4096,1)],[(4096,-1)],(von ()).va,(vot ()).va,axes4,axes4,by rw [prod4];decide,by rw [prod4,prod4],fun r27 J27 u27 j27 h27=>?_⟩
  rw [f4] at h27
  clear f4 u27
  replace so:=fun (_:Unit)=>(so ()).ext j27
  replace von:=fun (_:Unit)=>(von ()).ext j27
  replace vot:=fun (_:Unit)=>(vot ()).ext j27
  clear j27
  have kl:(kv.length:Int)=4096:=by rw [hkv (),g_len];exact hNI
  have ka:valV kv (.inl 0)=some (.int 4095):=by
   have q:=g_at (n:=N) (k:=0) (by omega)
   rw [hNI] at q
   rw [hkv ()]
   exact q
  have kb:valV kv (.inl 4095)=some (.int 0):=by
   have q:=g_at (n:=N) (k:=4095) (by omega)
   rw [hNI] at q
   rw [hkv ()]
   exact q
  simp! only [and_true]
  refine use_lenD h27 ?_
  simp! only [and_true]
  refine use_dg (k:=.inl 0) h27 ka ?_
  simp! only [and_true]
  refine use_dg (k:=.inl 4095) h27 kb ?_
  clear kl ka kb hkv h27
  obtain ⟨W3,hW3⟩:∃ W3:List Int,W3=(List.range N).map fun (k:Nat)=>(k:Int):=⟨_,rfl⟩
  replace hW3:=fun (_:Unit)=>hW3
  have hW3l:W3.length=N:=by rw [hW3 (),List.length_map,List.length_range]
  have f5:putL W2 (cellsL 0 [(4096,1)]) W3=W3:=by
   have q:=g_put (n:=N) hW2l hW3l
   rw [hNI] at q
   exact q
  obtain ⟨ds,hst⟩:=(so ()).ob
  have m1:=storeF_no l2 (m := "put") (by decide +kernel)
  simp! only [and_true]
  try refine ⟨by decide,by decide,?_⟩
  intro p30 J30 u30 j30 h30
  have np:p30 ≠ l2:=fun z=>by rw [z,(so ()).fl] at u30;cases u30
  replace so:=fun (_:Unit)=>(so ()).ext j30
  replace von:=fun (_:Unit)=>(von ()).ext j30
  replace vot:=fun (_:Unit)=>(vot ()).ext j30
  replace hst:=j30.at hst
  clear j30 u30
  replace h30:J30 p30=some (.lst (W3.map V.int)):=by rw [hW3 (),List.map_map,hN];unfold rngV at h30;exact h30
  simp! only [and_true]
  rw [c_spPut]
  refine ⟨l2,W2,4096,0,[(4096,1)],W3,so (),(von ()).va,axes4,by omega,by omega,by rw [prod4];decide,floor1 (by omega) (fun k hk=>by omega),h30,np,by rw [prod4];omega,fun J31 ex kp hw=>?_⟩
  rw [f5] at hw
  clear hst m1 ex np h30 f5
  replace von:=fun (_:Unit)=>(von ()).keep (so ()).fl kp
  replace vot:=fun (_:Unit)=>(vot ()).keep (so ()).fl kp
  replace so:=fun (_:Unit)=>(so ()).keep kp hw
  clear kp hw
  obtain ⟨W4,hW4⟩:∃ W4:List Int,W4=(List.range N).map fun (k:Nat)=>(N:Int) - 1 - (k:Int):=⟨_,rfl⟩
  replace hW4:=fun (_:Unit)=>hW4
  have hW4l:W4.length=N:=by rw [hW4 (),List.length_map,List.length_range]
  have f6:putL W3 (cellsL 0 [(4096,1)]) (readL W3 (cellsL 4095 [(4096,-1)]))=W4:=by
   have q:=g_put (n:=N) hW3l hW4l
   have q2:=g_take (n:=N)
   rw [←hW3 (),←hW4 ()] at q2
   rw [hNI] at q q2
   rw [show (4095:Int)=4096 - 1 from rfl,q2]
   exact q
  have hI:(W3.length:Int)=4096:=by omega
  obtain ⟨ds,hst⟩:=(so ()).ob
  have m1:=storeF_no l2 (m := "copied") (by decide +kernel)
  simp! only [and_true]
  rw [c_spCopied]
  refine ⟨l2,W3,0,4095,[(4096,1)],[(4096,-1)],so (),by rw [hI];exact (von ()).va,by rw [hI];exact (vot ()).va,axes4,axes4,by omega,by rw [prod4];decide,by rw [prod4,prod4],floor1 (by omega) (fun k hk=>by omega),floor1 (by omega) (fun k hk=>by omega),fun J33 ex kp hw=>?_⟩
  rw [f6] at hw
  clear hst m1 ex f6 von vot
  replace so:=fun (_:Unit)=>(so ()).keep kp hw
  clear kp hw
  obtain ⟨ds,hst⟩:=(so ()).ob
  have m1:=storeF_no l2 (m := "all_values") (by decide +kernel)
  simp! only [and_true]
  rw [c_spAllV]
  refine ⟨l2,W4,so (),by omega,fun r34 J34 u34 j34 h34=>?_⟩
  clear hst m1 u34 j34
  simp! only [and_true]
  try refine ⟨by decide,by decide,?_⟩
  refine comp_fm (List.range 4096) (fun _=>true) (fun j=>.int (4095 - (j:Int))) (fun j x H'=>x=.int (0+(j:Nat))) wk_rng.1 wk_rng.2 (len5000 (by rw [List.length_range];omega)) ?_ ?_
  ·intro D j x H' N1 N0 hj hD e hx k1 _
   subst hx
   have k1':N1 (.int (4095 - (0+(j:Int)))) H':=by
    rw [Int.zero_add]
    exact k1 rfl H' (Ext.refl _)
   clear k1 kk hj h34
   simp! only [↓m_kCm_1,↓m_kCm2]
  ·intro D H' hD e hD'
   rw [filt] at hD'
   replace hD':H' D=some (.lst (W4.map V.int)):=by rw [hD',hW4 (),List.map_map,hN];rfl
   have h35:=e.at h34
   have k2:=kk () H'
   clear kk h34 hW4 hW3 hW2 hW0
   simp! only [and_true]
end
theorem all_mk {l:PySem.W.OpenLaw}{w:World}{K:PySem.W.Frag}{h:Heap}{mg:Str->Option Value}{fa:Addr}(X:K.In h) (G:h.Ns mainGlobals mg) (hfa:mg "law"=some (.ref fa))
  {C0:Addr} (y0:PySem.W.nsIn K mainGlobals "PaceError"=some (some (.ref C0)))
  {C1:Addr} (y1:PySem.W.nsIn K mainGlobals "NoPlace"=some (some (.ref C1)))
  {C2:Addr} (y2:PySem.W.nsIn K mainGlobals "NoCells"=some (some (.ref C2)))
  {C3:Addr} (y3:PySem.W.nsIn K mainGlobals "NoView"=some (some (.ref C3)))
  {C4:Addr} (y4:PySem.W.nsIn K mainGlobals "NoCount"=some (some (.ref C4)))
  {C5:Addr} (y5:PySem.W.nsIn K mainGlobals "NoPair"=some (some (.ref C5)))
  {C6:Addr} (y6:PySem.W.nsIn K mainGlobals "TooMany"=some (some (.ref C6)))
  {C7:Addr} (y7:PySem.W.nsIn K mainGlobals "Store"=some (some (.ref C7)))
  {C8:Addr} (y8:PySem.W.nsIn K mainGlobals "View"=some (some (.ref C8)))
  (o_NoCells:PySem.W.excIn K C2 [.type "ValueError",.type "Exception",.type "BaseException",.type "object"] "ValueError.__new__"=true)
  (o_NoView:PySem.W.excIn K C3 [.type "ValueError",.type "Exception",.type "BaseException",.type "object"] "ValueError.__new__"=true)
  (o_NoCount:PySem.W.excIn K C4 [.type "ValueError",.type "Exception",.type "BaseException",.type "object"] "ValueError.__new__"=true)
  (o_NoPair:PySem.W.excIn K C5 [.type "ValueError",.type "Exception",.type "BaseException",.type "object"] "ValueError.__new__"=true)
  (x_NoCells_PaceError:PySem.W.exmOne K (.ref C2) (.ref C0)=some true)
  (x_TooMany_PaceError:PySem.W.exmOne K (.ref C6) (.ref C0)=some true)
  (x_NoView_PaceError:PySem.W.exmOne K (.ref C3) (.ref C0)=some true)
  (x_NoCount_PaceError:PySem.W.exmOne K (.ref C4) (.ref C0)=some true)
  (x_NoPair_PaceError:PySem.W.exmOne K (.ref C5) (.ref C0)=some true)
  (ocs:PySem.W.specialIn K (.builtin "object.__class__") "__get__"=some (some (.builtin "getset_descriptor.__get__")))
  (oct:PySem.W.takesIn K (.builtin "object.__class__")=some true)
  (ga_NoCells:PySem.W.findIn K (.ref C2) "__getattribute__"=some (some (.builtin "BaseException.__getattribute__")))
  (gn_NoCells:PySem.W.findIn K (.ref C2) "__getattr__"=some none)
  (mb_NoCells:PySem.W.mroIn K C2 (.type "BaseException")=some true)
  (mo_NoCells:PySem.W.mroIn K C2 (.type "object")=some true)
  (fc_NoCells:PySem.W.findIn K (.ref C2) "__class__"=some (some (.builtin "object.__class__")))
  (hd_NoCells:PySem.W.hasDictIn K C2=true)
  (ga_TooMany:PySem.W.findIn K (.ref C6) "__getattribute__"=some (some (.builtin "BaseException.__getattribute__")))
  (gn_TooMany:PySem.W.findIn K (.ref C6) "__getattr__"=some none)
  (mb_TooMany:PySem.W.mroIn K C6 (.type "BaseException")=some true)
  (mo_TooMany:PySem.W.mroIn K C6 (.type "object")=some true)
  (fc_TooMany:PySem.W.findIn K (.ref C6) "__class__"=some (some (.builtin "object.__class__")))
  (hd_TooMany:PySem.W.hasDictIn K C6=true)
  (ga_NoView:PySem.W.findIn K (.ref C3) "__getattribute__"=some (some (.builtin "BaseException.__getattribute__")))
  (gn_NoView:PySem.W.findIn K (.ref C3) "__getattr__"=some none)
  (mb_NoView:PySem.W.mroIn K C3 (.type "BaseException")=some true)
  (mo_NoView:PySem.W.mroIn K C3 (.type "object")=some true)
  (fc_NoView:PySem.W.findIn K (.ref C3) "__class__"=some (some (.builtin "object.__class__")))
  (hd_NoView:PySem.W.hasDictIn K C3=true)
  (ga_NoCount:PySem.W.findIn K (.ref C4) "__getattribute__"=some (some (.builtin "BaseException.__getattribute__")))
  (gn_NoCount:PySem.W.findIn K (.ref C4) "__getattr__"=some none)
  (mb_NoCount:PySem.W.mroIn K C4 (.type "BaseException")=some true)
  (mo_NoCount:PySem.W.mroIn K C4 (.type "object")=some true)
  (fc_NoCount:PySem.W.findIn K (.ref C4) "__class__"=some (some (.builtin "object.__class__")))
  (hd_NoCount:PySem.W.hasDictIn K C4=true)
  (ga_NoPair:PySem.W.findIn K (.ref C5) "__getattribute__"=some (some (.builtin "BaseException.__getattribute__")))
  (gn_NoPair:PySem.W.findIn K (.ref C5) "__getattr__"=some none)
  (mb_NoPair:PySem.W.mroIn K C5 (.type "BaseException")=some true)
  (mo_NoPair:PySem.W.mroIn K C5 (.type "object")=some true)
  (fc_NoPair:PySem.W.findIn K (.ref C5) "__class__"=some (some (.builtin "object.__class__")))
  (hd_NoPair:PySem.W.hasDictIn K C5=true)
  (kc_NoCells_NoCells:PySem.W.hasDictIn K C2=true)
  (kt_NoCells_NoCells:PySem.W.typeIn K (.ref C2)=some (.type "type"))
  (ks_NoCells_NoCells:PySem.W.subIn K (.ref C2) (.ref C2)=some true)
  (kc_NoCells_TooMany:PySem.W.hasDictIn K C6=true)
  (kt_NoCells_TooMany:PySem.W.typeIn K (.ref C6)=some (.type "type"))
  (ks_NoCells_TooMany:PySem.W.subIn K (.ref C2) (.ref C6)=some false)
  (kn_NoCells_TooMany:(C2 == C6)=false)
  (kc_NoCells_NoView:PySem.W.hasDictIn K C3=true)
  (kt_NoCells_NoView:PySem.W.typeIn K (.ref C3)=some (.type "type"))
  (ks_NoCells_NoView:PySem.W.subIn K (.ref C2) (.ref C3)=some false)
  (kn_NoCells_NoView:(C2 == C3)=false)
  (kc_NoCells_NoCount:PySem.W.hasDictIn K C4=true)
  (kt_NoCells_NoCount:PySem.W.typeIn K (.ref C4)=some (.type "type"))
  (ks_NoCells_NoCount:PySem.W.subIn K (.ref C2) (.ref C4)=some false)
  (kn_NoCells_NoCount:(C2 == C4)=false)
  (kc_NoCells_NoPair:PySem.W.hasDictIn K C5=true)
  (kt_NoCells_NoPair:PySem.W.typeIn K (.ref C5)=some (.type "type"))
  (ks_NoCells_NoPair:PySem.W.subIn K (.ref C2) (.ref C5)=some false)
  (kn_NoCells_NoPair:(C2 == C5)=false)
  (kc_TooMany_NoCells:PySem.W.hasDictIn K C2=true)
  (kt_TooMany_NoCells:PySem.W.typeIn K (.ref C2)=some (.type "type"))
  (ks_TooMany_NoCells:PySem.W.subIn K (.ref C6) (.ref C2)=some false)
  (kn_TooMany_NoCells:(C6 == C2)=false)
  (kc_TooMany_TooMany:PySem.W.hasDictIn K C6=true)
  (kt_TooMany_TooMany:PySem.W.typeIn K (.ref C6)=some (.type "type"))
  (ks_TooMany_TooMany:PySem.W.subIn K (.ref C6) (.ref C6)=some true)
  (kc_TooMany_NoView:PySem.W.hasDictIn K C3=true)
  (kt_TooMany_NoView:PySem.W.typeIn K (.ref C3)=some (.type "type"))
  (ks_TooMany_NoView:PySem.W.subIn K (.ref C6) (.ref C3)=some false)
  (kn_TooMany_NoView:(C6 == C3)=false)
  (kc_TooMany_NoCount:PySem.W.hasDictIn K C4=true)
  (kt_TooMany_NoCount:PySem.W.typeIn K (.ref C4)=some (.type "type"))
  (ks_TooMany_NoCount:PySem.W.subIn K (.ref C6) (.ref C4)=some false)
  (kn_TooMany_NoCount:(C6 == C4)=false)
  (kc_TooMany_NoPair:PySem.W.hasDictIn K C5=true)
  (kt_TooMany_NoPair:PySem.W.typeIn K (.ref C5)=some (.type "type"))
  (ks_TooMany_NoPair:PySem.W.subIn K (.ref C6) (.ref C5)=some false)
  (kn_TooMany_NoPair:(C6 == C5)=false)
  (kc_NoView_NoCells:PySem.W.hasDictIn K C2=true)
  (kt_NoView_NoCells:PySem.W.typeIn K (.ref C2)=some (.type "type"))
  (ks_NoView_NoCells:PySem.W.subIn K (.ref C3) (.ref C2)=some false)
  (kn_NoView_NoCells:(C3 == C2)=false)
  (kc_NoView_TooMany:PySem.W.hasDictIn K C6=true)
  (kt_NoView_TooMany:PySem.W.typeIn K (.ref C6)=some (.type "type"))
  (ks_NoView_TooMany:PySem.W.subIn K (.ref C3) (.ref C6)=some false)
  (kn_NoView_TooMany:(C3 == C6)=false)
  (kc_NoView_NoView:PySem.W.hasDictIn K C3=true)
  (kt_NoView_NoView:PySem.W.typeIn K (.ref C3)=some (.type "type"))
  (ks_NoView_NoView:PySem.W.subIn K (.ref C3) (.ref C3)=some true)
  (kc_NoView_NoCount:PySem.W.hasDictIn K C4=true)
  (kt_NoView_NoCount:PySem.W.typeIn K (.ref C4)=some (.type "type"))
  (ks_NoView_NoCount:PySem.W.subIn K (.ref C3) (.ref C4)=some false)
  (kn_NoView_NoCount:(C3 == C4)=false)
  (kc_NoView_NoPair:PySem.W.hasDictIn K C5=true)
  (kt_NoView_NoPair:PySem.W.typeIn K (.ref C5)=some (.type "type"))
  (ks_NoView_NoPair:PySem.W.subIn K (.ref C3) (.ref C5)=some false)
  (kn_NoView_NoPair:(C3 == C5)=false)
  (kc_NoCount_NoCells:PySem.W.hasDictIn K C2=true)
  (kt_NoCount_NoCells:PySem.W.typeIn K (.ref C2)=some (.type "type"))
  (ks_NoCount_NoCells:PySem.W.subIn K (.ref C4) (.ref C2)=some false)
  (kn_NoCount_NoCells:(C4 == C2)=false)
  (kc_NoCount_TooMany:PySem.W.hasDictIn K C6=true)
  (kt_NoCount_TooMany:PySem.W.typeIn K (.ref C6)=some (.type "type"))
  (ks_NoCount_TooMany:PySem.W.subIn K (.ref C4) (.ref C6)=some false)
  (kn_NoCount_TooMany:(C4 == C6)=false)
  (kc_NoCount_NoView:PySem.W.hasDictIn K C3=true)
  (kt_NoCount_NoView:PySem.W.typeIn K (.ref C3)=some (.type "type"))
  (ks_NoCount_NoView:PySem.W.subIn K (.ref C4) (.ref C3)=some false)
  (kn_NoCount_NoView:(C4 == C3)=false)
  (kc_NoCount_NoCount:PySem.W.hasDictIn K C4=true)
  (kt_NoCount_NoCount:PySem.W.typeIn K (.ref C4)=some (.type "type"))
  (ks_NoCount_NoCount:PySem.W.subIn K (.ref C4) (.ref C4)=some true)
  (kc_NoCount_NoPair:PySem.W.hasDictIn K C5=true)
  (kt_NoCount_NoPair:PySem.W.typeIn K (.ref C5)=some (.type "type"))
  (ks_NoCount_NoPair:PySem.W.subIn K (.ref C4) (.ref C5)=some false)
  (kn_NoCount_NoPair:(C4 == C5)=false)
  (kc_NoPair_NoCells:PySem.W.hasDictIn K C2=true)
  (kt_NoPair_NoCells:PySem.W.typeIn K (.ref C2)=some (.type "type"))
  (ks_NoPair_NoCells:PySem.W.subIn K (.ref C5) (.ref C2)=some false)
  (kn_NoPair_NoCells:(C5 == C2)=false)
  (kc_NoPair_TooMany:PySem.W.hasDictIn K C6=true)
  (kt_NoPair_TooMany:PySem.W.typeIn K (.ref C6)=some (.type "type"))
  (ks_NoPair_TooMany:PySem.W.subIn K (.ref C5) (.ref C6)=some false)
  (kn_NoPair_TooMany:(C5 == C6)=false)
  (kc_NoPair_NoView:PySem.W.hasDictIn K C3=true)
  (kt_NoPair_NoView:PySem.W.typeIn K (.ref C3)=some (.type "type"))
  (ks_NoPair_NoView:PySem.W.subIn K (.ref C5) (.ref C3)=some false)
  (kn_NoPair_NoView:(C5 == C3)=false)
  (kc_NoPair_NoCount:PySem.W.hasDictIn K C4=true)
  (kt_NoPair_NoCount:PySem.W.typeIn K (.ref C4)=some (.type "type"))
  (ks_NoPair_NoCount:PySem.W.subIn K (.ref C5) (.ref C4)=some false)
  (kn_NoPair_NoCount:(C5 == C4)=false)
  (kc_NoPair_NoPair:PySem.W.hasDictIn K C5=true)
  (kt_NoPair_NoPair:PySem.W.typeIn K (.ref C5)=some (.type "type"))
  (ks_NoPair_NoPair:PySem.W.subIn K (.ref C5) (.ref C5)=some true)
  (ks_NoCells_ValueError:PySem.W.subIn K (.ref C2) (.type "ValueError")=some true)
  (ks_TooMany_ValueError:PySem.W.subIn K (.ref C6) (.type "ValueError")=some true)
  (ks_NoView_ValueError:PySem.W.subIn K (.ref C3) (.type "ValueError")=some true)
  (ks_NoCount_ValueError:PySem.W.subIn K (.ref C4) (.type "ValueError")=some true)
  (ks_NoPair_ValueError:PySem.W.subIn K (.ref C5) (.type "ValueError")=some true)
  {f0:Addr} {d0:FuncData} (F0:Fun K "__init__" "TooMany.__init__" s_TooMany___init__ f0 d0)
  {f1:Addr} {d1:FuncData} (a1:PySem.W.nsIn K mainGlobals "is_whole"=some (some (.ref f1))) (F1:Fun K "is_whole" "is_whole" s_is_whole f1 d1)
  {f2:Addr} {d2:FuncData} (a2:PySem.W.nsIn K mainGlobals "count_of"=some (some (.ref f2))) (F2:Fun K "count_of" "count_of" s_count_of f2 d2)
  {f3:Addr} {d3:FuncData} (a3:PySem.W.nsIn K mainGlobals "is_number_below"=some (some (.ref f3))) (F3:Fun K "is_number_below" "is_number_below" s_is_number_below f3 d3)
  {f4:Addr} {d4:FuncData} (a4:PySem.W.nsIn K mainGlobals "is_place"=some (some (.ref f4))) (F4:Fun K "is_place" "is_place" s_is_place f4 d4)
  {f5:Addr} {d5:FuncData} (a5:PySem.W.nsIn K mainGlobals "refuse_long"=some (some (.ref f5))) (F5:Fun K "refuse_long" "refuse_long" s_refuse_long f5 d5)
  {f6:Addr} {d6:FuncData} (a6:PySem.W.nsIn K mainGlobals "refuse_count"=some (some (.ref f6))) (F6:Fun K "refuse_count" "refuse_count" s_refuse_count f6 d6)
  {f7:Addr} {d7:FuncData} (F7:Fun K "__init__" "Store.__init__" s_Store___init__ f7 d7)
  {f8:Addr} {d8:FuncData} (F8:Fun K "all_values" "Store.all_values" s_Store_all_values f8 d8)
  {f9:Addr} {d9:FuncData} (F9:Fun K "refuse_room" "Store.refuse_room" s_Store_refuse_room f9 d9)
  {f10:Addr} {d10:FuncData} (F10:Fun K "read" "Store.read" s_Store_read f10 d10)
  {f11:Addr} {d11:FuncData} (F11:Fun K "put" "Store.put" s_Store_put f11 d11)
  {f12:Addr} {d12:FuncData} (F12:Fun K "fill" "Store.fill" s_Store_fill f12 d12)
  {f13:Addr} {d13:FuncData} (F13:Fun K "copied" "Store.copied" s_Store_copied f13 d13)
  {f14:Addr} {d14:FuncData} (a14:PySem.W.nsIn K mainGlobals "is_within"=some (some (.ref f14))) (F14:Fun K "is_within" "is_within" s_is_within f14 d14)
  {f15:Addr} {d15:FuncData} (a15:PySem.W.nsIn K mainGlobals "is_size"=some (some (.ref f15))) (F15:Fun K "is_size" "is_size" s_is_size f15 d15)
  {f16:Addr} {d16:FuncData} (a16:PySem.W.nsIn K mainGlobals "is_axis"=some (some (.ref f16))) (F16:Fun K "is_axis" "is_axis" s_is_axis f16 d16)
  {f17:Addr} {d17:FuncData} (a17:PySem.W.nsIn K mainGlobals "are_axes"=some (some (.ref f17))) (F17:Fun K "are_axes" "are_axes" s_are_axes f17 d17)
  {f18:Addr} {d18:FuncData} (a18:PySem.W.nsIn K mainGlobals "kept_axis"=some (some (.ref f18))) (F18:Fun K "kept_axis" "kept_axis" s_kept_axis f18 d18)
  {f19:Addr} {d19:FuncData} (F19:Fun K "__init__" "View.__init__" s_View___init__ f19 d19)
  {f20:Addr} {d20:FuncData} (F20:Fun K "sizes" "View.sizes" s_View_sizes f20 d20)
  {f21:Addr} {d21:FuncData} (F21:Fun K "paces" "View.paces" s_View_paces f21 d21)
  {f22:Addr} {d22:FuncData} (F22:Fun K "count" "View.count" s_View_count f22 d22)
  {f23:Addr} {d23:FuncData} (F23:Fun K "cell" "View.cell" s_View_cell f23 d23)
  {f24:Addr} {d24:FuncData} (F24:Fun K "cells" "View.cells" s_View_cells f24 d24)
  {f25:Addr} {d25:FuncData} (F25:Fun K "least" "View.least" s_View_least f25 d25)
  {f26:Addr} {d26:FuncData} (F26:Fun K "greatest" "View.greatest" s_View_greatest f26 d26)
  {f27:Addr} {d27:FuncData} (a27:PySem.W.nsIn K mainGlobals "widened"=some (some (.ref f27))) (F27:Fun K "widened" "widened" s_widened f27 d27)
  {f28:Addr} {d28:FuncData} (a28:PySem.W.nsIn K mainGlobals "refuse_rooms"=some (some (.ref f28))) (F28:Fun K "refuse_rooms" "refuse_rooms" s_refuse_rooms f28 d28)
  {f29:Addr} {d29:FuncData} (a29:PySem.W.nsIn K mainGlobals "sources"=some (some (.ref f29))) (F29:Fun K "sources" "sources" s_sources f29 d29)
  {f30:Addr} {d30:FuncData} (a30:PySem.W.nsIn K mainGlobals "_law_draw"=some (some (.ref f30))) (F30:Fun K "_law_draw" "_law_draw" s__law_draw f30 d30)
  {f31:Addr} {d31:FuncData} (a31:PySem.W.nsIn K mainGlobals "_law_whole"=some (some (.ref f31))) (F31:Fun K "_law_whole" "_law_whole" s__law_whole f31 d31)
  {f32:Addr} {d32:FuncData} (a32:PySem.W.nsIn K mainGlobals "_law_word"=some (some (.ref f32))) (F32:Fun K "_law_word" "_law_word" s__law_word f32 d32)
  {f33:Addr} {d33:FuncData} (a33:PySem.W.nsIn K mainGlobals "_law_done"=some (some (.ref f33))) (F33:Fun K "_law_done" "_law_done" s__law_done f33 d33)
  {f34:Addr} {d34:FuncData} (a34:PySem.W.nsIn K mainGlobals "_law_is"=some (some (.ref f34))) (F34:Fun K "_law_is" "_law_is" s__law_is f34 d34)
  {f35:Addr} {d35:FuncData} (a35:PySem.W.nsIn K mainGlobals "_law_many_view"=some (some (.ref f35))) (F35:Fun K "_law_many_view" "_law_many_view" s__law_many_view f35 d35)
  {f36:Addr} {d36:FuncData} (a36:PySem.W.nsIn K mainGlobals "_law_views_refused"=some (some (.ref f36))) (F36:Fun K "_law_views_refused" "_law_views_refused" s__law_views_refused f36 d36)
  {f37:Addr} {od37 an37:Option Addr} {sl37:Array (Option Value)} {oc37 kV37 dc37 pm37 cd37 ct37:Value}
  (a37:PySem.W.nsIn K mainGlobals "law"=some (some (.ref f37))) (l37:K.lookup f37=some ⟨oc37,od37,.func (PySem.W.fnOf "law" "law" (defArgs s_law) (defBody s_law) (defScope s_law) .none kV37 dc37 pm37 an37 cd37 ct37),sl37⟩)
  (c37:PySem.W.codeIn K cd37 "law"=true) (k37:PySem.W.keepIn K (.ref f37)=true)
  (fi_TooMany:PySem.W.findIn K (.ref C6) "__init__"=some (some (.ref f0)))
  (xe_TooMany:excInI K C6 f0 [.type "ValueError",.type "Exception",.type "BaseException",.type "object"] "ValueError.__new__"=true)
  (xf_TooMany:PySem.W.typeIn K (.ref f0)=some (.type "function"))
  (xo_TooMany:excOver K C6=true)
  (xs_TooMany:PySem.W.findIn K (.ref C6) "__setattr__"=some (some (.builtin "object.__setattr__")))
  (xh_TooMany:PySem.W.hasDictIn K C6=true)
  (nt_TooMany_number:PySem.W.takerIn K C6 "number"=some none)
  (nf_TooMany_number:PySem.W.findIn K (.ref C6) "number"=some none)
  (bs_PaceError:PySem.W.specialIn K (.ref C0) "__getattribute__"=some (some (.builtin "type.__getattribute__")))
  (br_PaceError:PySem.W.readsIn K C0 (.type "type")=true)
  (bf_PaceError:PySem.W.findCls K (.ref C0) (.type "type") "__init__"=some (.val (.builtin "ValueError.__init__")))
  (pg_Store:PySem.W.plainGet K C7 Str.empty=true)
  (hd_Store:PySem.W.hasDictIn K C7=true)
  (po_Store:PySem.W.plainOver K C7=true)
  (sa_Store:PySem.W.findIn K (.ref C7) "__setattr__"=some (some (.builtin "object.__setattr__")))
  (nf_Store_floor:PySem.W.findIn K (.ref C7) "floor"=some none)
  (fi_Store___init__:PySem.W.findIn K (.ref C7) "__init__"=some (some (.ref f7)))
  (fn_Store___init__:PySem.W.isFn K (.ref f7)=true)
  (mm_Store:PySem.W.makesIn K C7=true)
  (ck_Store:PySem.W.keepIn K (.ref C7)=true)
  (fi_Store_all_values:PySem.W.findIn K (.ref C7) "all_values"=some (some (.ref f8)))
  (fn_Store_all_values:PySem.W.isFn K (.ref f8)=true)
  (fi_Store_refuse_room:PySem.W.findIn K (.ref C7) "refuse_room"=some (some (.ref f9)))
  (fn_Store_refuse_room:PySem.W.isFn K (.ref f9)=true)
  (fi_Store_read:PySem.W.findIn K (.ref C7) "read"=some (some (.ref f10)))
  (fn_Store_read:PySem.W.isFn K (.ref f10)=true)
  (fi_Store_put:PySem.W.findIn K (.ref C7) "put"=some (some (.ref f11)))
  (fn_Store_put:PySem.W.isFn K (.ref f11)=true)
  (fi_Store_fill:PySem.W.findIn K (.ref C7) "fill"=some (some (.ref f12)))
  (fn_Store_fill:PySem.W.isFn K (.ref f12)=true)
  (fi_Store_copied:PySem.W.findIn K (.ref C7) "copied"=some (some (.ref f13)))
  (fn_Store_copied:PySem.W.isFn K (.ref f13)=true)
  (pg_View:PySem.W.plainGet K C8 Str.empty=true)
  (hd_View:PySem.W.hasDictIn K C8=true)
  (po_View:PySem.W.plainOver K C8=true)
  (sa_View:PySem.W.findIn K (.ref C8) "__setattr__"=some (some (.builtin "object.__setattr__")))
  (nf_View_axes:PySem.W.findIn K (.ref C8) "axes"=some none)
  (nf_View_first:PySem.W.findIn K (.ref C8) "first"=some none)
  (nf_View_room:PySem.W.findIn K (.ref C8) "room"=some none)
  (fi_View___init__:PySem.W.findIn K (.ref C8) "__init__"=some (some (.ref f19)))
  (fn_View___init__:PySem.W.isFn K (.ref f19)=true)
  (mm_View:PySem.W.makesIn K C8=true)
  (ck_View:PySem.W.keepIn K (.ref C8)=true)
  (fi_View_sizes:PySem.W.findIn K (.ref C8) "sizes"=some (some (.ref f20)))
  (fn_View_sizes:PySem.W.isFn K (.ref f20)=true)
  (fi_View_paces:PySem.W.findIn K (.ref C8) "paces"=some (some (.ref f21)))
  (fn_View_paces:PySem.W.isFn K (.ref f21)=true)
  (fi_View_count:PySem.W.findIn K (.ref C8) "count"=some (some (.ref f22)))
  (fn_View_count:PySem.W.isFn K (.ref f22)=true)
  (fi_View_cell:PySem.W.findIn K (.ref C8) "cell"=some (some (.ref f23)))
  (fn_View_cell:PySem.W.isFn K (.ref f23)=true)
  (fi_View_cells:PySem.W.findIn K (.ref C8) "cells"=some (some (.ref f24)))
  (fn_View_cells:PySem.W.isFn K (.ref f24)=true)
  (fi_View_least:PySem.W.findIn K (.ref C8) "least"=some (some (.ref f25)))
  (fn_View_least:PySem.W.isFn K (.ref f25)=true)
  (fi_View_greatest:PySem.W.findIn K (.ref C8) "greatest"=some (some (.ref f26)))
  (fn_View_greatest:PySem.W.isFn K (.ref f26)=true)
  {tk0:Tok} (w0:PySem.W.nsIn K mainGlobals "MOST_TOLD"=some (some (.int 4096 tk0)))
  {tk1:Tok} (w1:PySem.W.nsIn K mainGlobals "MOST_ROOM"=some (some (.int 1000000000000000000 tk1)))
  {tk2:Tok} (w2:PySem.W.nsIn K mainGlobals "MOST_SIZE"=some (some (.int 1000000000 tk2)))
  {tk3:Tok} (w3:PySem.W.nsIn K mainGlobals "MOST_AXES"=some (some (.int 8 tk3)))
  (z0:PySem.W.nsIn K mainGlobals "ValueError"=some none)
  (z1:PySem.W.nsIn K mainGlobals "all"=some none)
  (z2:PySem.W.nsIn K mainGlobals "bool"=some none)
  (z3:PySem.W.nsIn K mainGlobals "int"=some none)
  (z4:PySem.W.nsIn K mainGlobals "isinstance"=some none)
  (z5:PySem.W.nsIn K mainGlobals "len"=some none)
  (z6:PySem.W.nsIn K mainGlobals "list"=some none)
  (z7:PySem.W.nsIn K mainGlobals "max"=some none)
  (z8:PySem.W.nsIn K mainGlobals "min"=some none)
  (z9:PySem.W.nsIn K mainGlobals "range"=some none)
  (z10:PySem.W.nsIn K mainGlobals "sum"=some none)
  (z11:PySem.W.nsIn K mainGlobals "tuple"=some none)
  (z12:PySem.W.nsIn K mainGlobals "zip"=some none)
  : ∃ fd:FuncData,(∀ (s:Shared) (v:Value),BindsTo s fd ⟨[v],[]⟩ [("_law_script",v)])∧∀ base:Heap,K.In base->base.Ns mainGlobals mg->FnOk l.prog w K mg base CX0 11 fa fd ["_law_script"] (spLaw K):=by
 have e:=hfa.symm.trans (PySem.W.mg_of X G a37)
 cases e
 have F37:=fun_mk (st:=s_law) l37 c37 k37
 have T:Tx K mg ⟨C0,C1,C2,C3,C4,C5,C6,C7,C8,f0,_,f1,_,f2,_,f3,_,f4,_,f5,_,f6,_,f7,_,f8,_,f9,_,f10,_,f11,_,f12,_,f13,_,f14,_,f15,_,f16,_,f17,_,f18,_,f19,_,f20,_,f21,_,f22,_,f23,_,f24,_,f25,_,f26,_,f27,_,f28,_,f29,_,f30,_,f31,_,f32,_,f33,_,f34,_,f35,_,f36,_,fa,_⟩:=⟨PySem.W.mg_of X G y0,PySem.W.mg_of X G y1,PySem.W.mg_of X G y2,PySem.W.mg_of X G y3,PySem.W.mg_of X G y4,PySem.W.mg_of X G y5,PySem.W.mg_of X G y6,PySem.W.mg_of X G y7,PySem.W.mg_of X G y8,o_NoCells,o_NoView,o_NoCount,o_NoPair,x_NoCells_PaceError,x_TooMany_PaceError,x_NoView_PaceError,x_NoCount_PaceError,x_NoPair_PaceError,ocs,oct,ga_NoCells,gn_NoCells,mb_NoCells,mo_NoCells,fc_NoCells,hd_NoCells,ga_TooMany,gn_TooMany,mb_TooMany,mo_TooMany,fc_TooMany,hd_TooMany,ga_NoView,gn_NoView,mb_NoView,mo_NoView,fc_NoView,hd_NoView,ga_NoCount,gn_NoCount,mb_NoCount,mo_NoCount,fc_NoCount,hd_NoCount,ga_NoPair,gn_NoPair,mb_NoPair,mo_NoPair,fc_NoPair,hd_NoPair,kc_NoCells_NoCells,kt_NoCells_NoCells,ks_NoCells_NoCells,kc_NoCells_TooMany,kt_NoCells_TooMany,ks_NoCells_TooMany,kn_NoCells_TooMany,kc_NoCells_NoView,kt_NoCells_NoView,ks_NoCells_NoView,kn_NoCells_NoView,kc_NoCells_NoCount,kt_NoCells_NoCount,ks_NoCells_NoCount,kn_NoCells_NoCount,kc_NoCells_NoPair,kt_NoCells_NoPair,ks_NoCells_NoPair,kn_NoCells_NoPair,kc_TooMany_NoCells,kt_TooMany_NoCells,ks_TooMany_NoCells,kn_TooMany_NoCells,kc_TooMany_TooMany,kt_TooMany_TooMany,ks_TooMany_TooMany,kc_TooMany_NoView,kt_TooMany_NoView,ks_TooMany_NoView,kn_TooMany_NoView,kc_TooMany_NoCount,kt_TooMany_NoCount,ks_TooMany_NoCount,kn_TooMany_NoCount,kc_TooMany_NoPair,kt_TooMany_NoPair,ks_TooMany_NoPair,kn_TooMany_NoPair,kc_NoView_NoCells,kt_NoView_NoCells,ks_NoView_NoCells,kn_NoView_NoCells,kc_NoView_TooMany,kt_NoView_TooMany,ks_NoView_TooMany,kn_NoView_TooMany,kc_NoView_NoView,kt_NoView_NoView,ks_NoView_NoView,kc_NoView_NoCount,kt_NoView_NoCount,ks_NoView_NoCount,kn_NoView_NoCount,kc_NoView_NoPair,kt_NoView_NoPair,ks_NoView_NoPair,kn_NoView_NoPair,kc_NoCount_NoCells,kt_NoCount_NoCells,ks_NoCount_NoCells,kn_NoCount_NoCells,kc_NoCount_TooMany,kt_NoCount_TooMany,ks_NoCount_TooMany,kn_NoCount_TooMany,kc_NoCount_NoView,kt_NoCount_NoView,ks_NoCount_NoView,kn_NoCount_NoView,kc_NoCount_NoCount,kt_NoCount_NoCount,ks_NoCount_NoCount,kc_NoCount_NoPair,kt_NoCount_NoPair,ks_NoCount_NoPair,kn_NoCount_NoPair,kc_NoPair_NoCells,kt_NoPair_NoCells,ks_NoPair_NoCells,kn_NoPair_NoCells,kc_NoPair_TooMany,kt_NoPair_TooMany,ks_NoPair_TooMany,kn_NoPair_TooMany,kc_NoPair_NoView,kt_NoPair_NoView,ks_NoPair_NoView,kn_NoPair_NoView,kc_NoPair_NoCount,kt_NoPair_NoCount,ks_NoPair_NoCount,kn_NoPair_NoCount,kc_NoPair_NoPair,kt_NoPair_NoPair,ks_NoPair_NoPair,ks_NoCells_ValueError,ks_TooMany_ValueError,ks_NoView_ValueError,ks_NoCount_ValueError,ks_NoPair_ValueError,⟨_,PySem.W.mg_of X G w0⟩,⟨_,PySem.W.mg_of X G w1⟩,⟨_,PySem.W.mg_of X G w2⟩,⟨_,PySem.W.mg_of X G w3⟩,⟨xe_TooMany,xf_TooMany,⟨xo_TooMany,xs_TooMany,xh_TooMany⟩⟩,nt_TooMany_number,nf_TooMany_number,⟨bs_PaceError,br_PaceError,bf_PaceError⟩,⟨pg_Store,hd_Store,po_Store,sa_Store⟩,nf_Store_floor,⟨mm_Store,fi_Store___init__,fn_Store___init__,ck_Store⟩,⟨fi_Store_all_values,fn_Store_all_values,F8.kp⟩,⟨fi_Store_refuse_room,fn_Store_refuse_room,F9.kp⟩,⟨fi_Store_read,fn_Store_read,F10.kp⟩,⟨fi_Store_put,fn_Store_put,F11.kp⟩,⟨fi_Store_fill,fn_Store_fill,F12.kp⟩,⟨fi_Store_copied,fn_Store_copied,F13.kp⟩,⟨pg_View,hd_View,po_View,sa_View⟩,nf_View_axes,nf_View_first,nf_View_room,⟨mm_View,fi_View___init__,fn_View___init__,ck_View⟩,⟨fi_View_sizes,fn_View_sizes,F20.kp⟩,⟨fi_View_paces,fn_View_paces,F21.kp⟩,⟨fi_View_count,fn_View_count,F22.kp⟩,⟨fi_View_cell,fn_View_cell,F23.kp⟩,⟨fi_View_cells,fn_View_cells,F24.kp⟩,⟨fi_View_least,fn_View_least,F25.kp⟩,⟨fi_View_greatest,fn_View_greatest,F26.kp⟩,F0,F0.binds (ps:=["self", "number"]) (fun _ _ _ _ _ _=>len2 (fun _ _=>rfl)),F1,PySem.W.mg_of X G a1,F1.binds (ps:=["thing"]) (fun _ _ _ _ _ _=>len1 (fun _=>rfl)),F2,PySem.W.mg_of X G a2,F2.binds (ps:=["sizes"]) (fun _ _ _ _ _ _=>len1 (fun _=>rfl)),F3,PySem.W.mg_of X G a3,F3.binds (ps:=["thing", "bound"]) (fun _ _ _ _ _ _=>len2 (fun _ _=>rfl)),F4,PySem.W.mg_of X G a4,F4.binds (ps:=["sizes", "thing"]) (fun _ _ _ _ _ _=>len2 (fun _ _=>rfl)),F5,PySem.W.mg_of X G a5,F5.binds (ps:=["count"]) (fun _ _ _ _ _ _=>len1 (fun _=>rfl)),F6,PySem.W.mg_of X G a6,F6.binds (ps:=["view", "many"]) (fun _ _ _ _ _ _=>len2 (fun _ _=>rfl)),F7,F7.binds (ps:=["self", "values"]) (fun _ _ _ _ _ _=>len2 (fun _ _=>rfl)),F8,F8.binds (ps:=["self"]) (fun _ _ _ _ _ _=>len1 (fun _=>rfl)),F9,F9.binds (ps:=["self", "view"]) (fun _ _ _ _ _ _=>len2 (fun _ _=>rfl)),F10,F10.binds (ps:=["self", "view"]) (fun _ _ _ _ _ _=>len2 (fun _ _=>rfl)),F11,F11.binds (ps:=["self", "view", "values"]) (fun _ _ _ _ _ _=>len3 (fun _ _ _=>rfl)),F12,F12.binds (ps:=["self", "view", "value"]) (fun _ _ _ _ _ _=>len3 (fun _ _ _=>rfl)),F13,F13.binds (ps:=["self", "to", "source"]) (fun _ _ _ _ _ _=>len3 (fun _ _ _=>rfl)),F14,PySem.W.mg_of X G a14,F14.binds (ps:=["thing", "low", "high"]) (fun _ _ _ _ _ _=>len3 (fun _ _ _=>rfl)),F15,PySem.W.mg_of X G a15,F15.binds (ps:=["thing"]) (fun _ _ _ _ _ _=>len1 (fun _=>rfl)),F16,PySem.W.mg_of X G a16,F16.binds (ps:=["thing"]) (fun _ _ _ _ _ _=>len1 (fun _=>rfl)),F17,PySem.W.mg_of X G a17,F17.binds (ps:=["thing"]) (fun _ _ _ _ _ _=>len1 (fun _=>rfl)),F18,PySem.W.mg_of X G a18,F18.binds (ps:=["axis"]) (fun _ _ _ _ _ _=>len1 (fun _=>rfl)),F19,F19.binds (ps:=["self", "room", "first", "axes"]) (fun _ _ _ _ _ _=>len4 (fun _ _ _ _=>rfl)),F20,F20.binds (ps:=["self"]) (fun _ _ _ _ _ _=>len1 (fun _=>rfl)),F21,F21.binds (ps:=["self"]) (fun _ _ _ _ _ _=>len1 (fun _=>rfl)),F22,F22.binds (ps:=["self"]) (fun _ _ _ _ _ _=>len1 (fun _=>rfl)),F23,F23.binds (ps:=["self", "place"]) (fun _ _ _ _ _ _=>len2 (fun _ _=>rfl)),F24,F24.binds (ps:=["self"]) (fun _ _ _ _ _ _=>len1 (fun _=>rfl)),F25,F25.binds (ps:=["self"]) (fun _ _ _ _ _ _=>len1 (fun _=>rfl)),F26,F26.binds (ps:=["self"]) (fun _ _ _ _ _ _=>len1 (fun _=>rfl)),F27,PySem.W.mg_of X G a27,F27.binds (ps:=["cells", "size", "pace"]) (fun _ _ _ _ _ _=>len3 (fun _ _ _=>rfl)),F28,PySem.W.mg_of X G a28,F28.binds (ps:=["one", "other"]) (fun _ _ _ _ _ _=>len2 (fun _ _=>rfl)),F29,PySem.W.mg_of X G a29,F29.binds (ps:=["to", "source"]) (fun _ _ _ _ _ _=>len2 (fun _ _=>rfl)),F30,PySem.W.mg_of X G a30,F30.binds (ps:=["_law_script", "_law_k", "_law_many"]) (fun _ _ _ _ _ _=>len3 (fun _ _ _=>rfl)),F31,PySem.W.mg_of X G a31,F31.binds (ps:=["_law_found"]) (fun _ _ _ _ _ _=>len1 (fun _=>rfl)),F32,PySem.W.mg_of X G a32,F32.binds (ps:=["_law_e"]) (fun _ _ _ _ _ _=>len1 (fun _=>rfl)),F33,PySem.W.mg_of X G a33,F33.binds (ps:=["_law_way", "_law_store", "_law_one", "_law_other", "_law_values"]) (fun _ _ _ _ _ _=>len5 (fun _ _ _ _ _=>rfl)),F34,PySem.W.mg_of X G a34,F34.binds (ps:=["_law_found", "_law_word_here", "_law_number"]) (fun _ _ _ _ _ _=>len3 (fun _ _ _=>rfl)),F35,PySem.W.mg_of X G a35,F35.binds (ps:=["_law_script", "_law_room", "_law_at"]) (fun _ _ _ _ _ _=>len3 (fun _ _ _=>rfl)),F36,PySem.W.mg_of X G a36,F36.binds (ps:=["_law_script", "_law_room", "_law_store"]) (fun _ _ _ _ _ _=>len3 (fun _ _ _=>rfl)),F37,PySem.W.mg_of X G a37,F37.binds (ps:=["_law_script"]) (fun _ _ _ _ _ _=>len1 (fun _=>rfl)),PySem.W.mg_none_of X G z0,PySem.W.mg_none_of X G z1,PySem.W.mg_none_of X G z2,PySem.W.mg_none_of X G z3,PySem.W.mg_none_of X G z4,PySem.W.mg_none_of X G z5,PySem.W.mg_none_of X G z6,PySem.W.mg_none_of X G z7,PySem.W.mg_none_of X G z8,PySem.W.mg_none_of X G z9,PySem.W.mg_none_of X G z10,PySem.W.mg_none_of X G z11,PySem.W.mg_none_of X G z12⟩
 exact ⟨PySem.W.fnOf "law" "law" (defArgs s_law) (defBody s_law) (defScope s_law) .none kV37 dc37 pm37 an37 cd37 ct37,fun s v=>.of_eq rfl,fun base _ _=>ok_law T⟩
theorem walk {l:PySem.W.OpenLaw}{q:Program}{loose:List Str}{XP:(Str->Option Value)->Heap->Prop}{YP:World->Heap->Prop}{d:DefRec}{K:Params->PySem.W.Frag}(hn:l.most=some 63) (hdf:d.params.defaults=[])
  (hY:∀ (w:World) (h:Heap),YP w h->(K w.params).In h)
  (F:∀ (w:World) (mg:Str->Option Value) (fa:Addr) (h:Heap),(K w.params).In h->h.Ns mainGlobals mg->mg d.name=some (.ref fa) →
   ∃ fd:FuncData,(∀ (s:Shared) (u:Value),BindsTo s fd ⟨[u],[]⟩ [("_law_script",u)])∧∀ base:Heap,(K w.params).In base->base.Ns mainGlobals mg->FnOk l.prog w (K w.params) mg base CX0 11 fa fd ["_law_script"] (spLaw (K w.params))) :
  PySem.W.WalkO q loose XP YP l.row.toRowW d [] (fun f vs=>PySem.call f vs):=
 L2.walk_of (n:=63) (k:=11) (x := "_law_script") (CX:=fun _=>CX0) (sp:=fun w=>spLaw (K w.params)) hn (by decide) hdf ⟨rfl,by decide,by decide⟩ hY F (fun _ _ a ns hl _ hS=>⟨a,rfl,ns,hS,hl,fun _=>rfl⟩) fun _ _ _ _ _ z=>z
end PH
namespace PySem.W.Fast
def tw9983006676928738989:=0
def tw11440430727121974893:=0
def tw16592600504849954537:=0
def tw17659984311168579048:=0
def tw14623742791770239441:=0
def tw10320969055039540244:=0
def tw4350112847091687823:=0
def tw7031094673307200281:=0
def tw4167843540156903060:=0
def tw5198090797271886958:=0
def tw12013865124852283195:=0
def tw12811968548951590410:=0
def tw9873071660447707347:=0
def tw9313775024504626701:=0
def tw15956712407022439830:=0
def tw11382225310244173208:=0
def tw18244021016786256241:=0
def tw1425641155346456946:=0
def tw15468943070017756231:=0
def tw16151469864858097885:=0
def tw7694884084616896169:=0
def tw15056716733369422832:=0
def tw13732368753741374137:=0
def tw1535899554331474036:=0
def tw9392259688177853666:=0
def tw10809774689709313304:=0
def tw6635016902600343361:=0
def tw15686281502614244320:=0
def tw7948042527865239952:=0
def tw18093590239029336873:=0
def tw17146838562367182087:=0
def tw2877599589462295896:=0
def tw14545595252632732752:=0
def tw15586424829244599501:=0
def tw4618751541377684261:=0
def tw17974488661367888475:=0
def tw6357644673007651292:=0
def tw2522348929562155305:=0
def tw5774136148800101998:=0
def tw14618263498356891910:=0
def tw12829611410181702059:=0
def tw3709548146819054316:=0
def tw1197174951133723305:=0
def tw531170185686896335:=0
def tw5989341619803059906:=0
def tw5314143196961692012:=0
def tw18171801718550852516:=0
def tw13809072109779522279:=0
def tw5657405157499663482:=0
def tw12438824488850434889:=0
def tw7276335919388156391:=0
def tw14993612497998599981:=0
def tw14797254190865467818:=0
def tw5038071824526883559:=0
def tw7798008315075501768:=0
def tw15066208495764878110:=0
def tw774898471097721305:=0
def tw16283829974464169559:=0
def tw10069248610895535479:=0
def tw17322276619545101315:=0
def tw11905925695650287448:=0
def tw4222748956068349568:=0
def tw4174407690940027283:=0
def tw13957728978079172721:=0
def tw2122562734648736929:=0
def tw10086594236789085185:=0
def tw5892090172754669575:=0
def tw11575187515807363888:=0
def tw4062460770039147079:=0
def tw13106053640108848247:=0
def tw14449841608856109342:=0
def tw12739111425921534936:=0
def tw16348996492057479896:=0
def tw13627493893234590250:=0
def tw6421824630824103160:=0
def tw1400980567937950538:=0
def tw1252495484752563586:=0
def tw4539302081252703473:=0
def tw5795671981655328886:=0
def tw7341558406090568102:=0
def tw4623729621656584481:=0
def tw14390684791700837340:=0
def tw12296711516726712465:=0
def tw12349255328241406700:=0
def tw6616854068379517465:=0
def tw15005551139896005101:=0
def tw3149860666663375857:=0
def tw17811917272402856278:=0
def tw15671291693798588696:=0
def tw7025434160427281798:=0
def tw17701357003719624563:=0
def tw15449386147788118941:=0
def tw4618079040717083378:=0
def tw6905967225898193078:=0
def tw18413644170062033611:=0
def tw6287938679027159164:=0
def tw6501804208634863269:=0
end PySem.W.Fast
open PySem PySem.W PyProof.Rows
set_option maxRecDepth 100000 in
set_option maxHeartbeats 0 in
theorem PySem.Challenge.cw_pacehall_k67_stores_refused_holds : PySem.Challenge.rw_pacehall_k67_stores_refused.Holds := by
 w_on;o_law;k_head;(case hw=>w_witness2)
 k_fill
 refine PH.walk (l:=PySem.Challenge.rw_pacehall_k67_stores_refused) rfl rfl (fun w h Y=>PySem.W.kIn_of Y) ?F
 case F=>
  intro w mg fa h KX G hmg
  refine' PH.all_mk KX G hmg ?y0 ?y1 ?y2 ?y3 ?y4 ?y5 ?y6 ?y7 ?y8 ?o_NoCells ?o_NoView ?o_NoCount ?o_NoPair ?x_NoCells_PaceError ?x_TooMany_PaceError ?x_NoView_PaceError ?x_NoCount_PaceError ?x_NoPair_PaceError ?ocs ?oct ?ga_NoCells ?gn_NoCells ?mb_NoCells ?mo_NoCells ?fc_NoCells ?hd_NoCells ?ga_TooMany ?gn_TooMany ?mb_TooMany ?mo_TooMany ?fc_TooMany ?hd_TooMany ?ga_NoView ?gn_NoView ?mb_NoView ?mo_NoView ?fc_NoView ?hd_NoView ?ga_NoCount ?gn_NoCount ?mb_NoCount ?mo_NoCount ?fc_NoCount ?hd_NoCount ?ga_NoPair ?gn_NoPair ?mb_NoPair ?mo_NoPair ?fc_NoPair ?hd_NoPair ?kc_NoCells_NoCells ?kt_NoCells_NoCells ?ks_NoCells_NoCells ?kc_NoCells_TooMany ?kt_NoCells_TooMany ?ks_NoCells_TooMany ?kn_NoCells_TooMany ?kc_NoCells_NoView ?kt_NoCells_NoView ?ks_NoCells_NoView ?kn_NoCells_NoView ?kc_NoCells_NoCount ?kt_NoCells_NoCount ?ks_NoCells_NoCount ?kn_NoCells_NoCount ?kc_NoCells_NoPair ?kt_NoCells_NoPair ?ks_NoCells_NoPair ?kn_NoCells_NoPair ?kc_TooMany_NoCells ?kt_TooMany_NoCells ?ks_TooMany_NoCells ?kn_TooMany_NoCells ?kc_TooMany_TooMany ?kt_TooMany_TooMany ?ks_TooMany_TooMany ?kc_TooMany_NoView ?kt_TooMany_NoView ?ks_TooMany_NoView ?kn_TooMany_NoView ?kc_TooMany_NoCount ?kt_TooMany_NoCount ?ks_TooMany_NoCount ?kn_TooMany_NoCount ?kc_TooMany_NoPair ?kt_TooMany_NoPair ?ks_TooMany_NoPair ?kn_TooMany_NoPair ?kc_NoView_NoCells ?kt_NoView_NoCells ?ks_NoView_NoCells ?kn_NoView_NoCells ?kc_NoView_TooMany ?kt_NoView_TooMany ?ks_NoView_TooMany ?kn_NoView_TooMany ?kc_NoView_NoView ?kt_NoView_NoView ?ks_NoView_NoView ?kc_NoView_NoCount ?kt_NoView_NoCount ?ks_NoView_NoCount ?kn_NoView_NoCount ?kc_NoView_NoPair ?kt_NoView_NoPair ?ks_NoView_NoPair ?kn_NoView_NoPair ?kc_NoCount_NoCells ?kt_NoCount_NoCells ?ks_NoCount_NoCells ?kn_NoCount_NoCells ?kc_NoCount_TooMany ?kt_NoCount_TooMany ?ks_NoCount_TooMany ?kn_NoCount_TooMany ?kc_NoCount_NoView ?kt_NoCount_NoView ?ks_NoCount_NoView ?kn_NoCount_NoView ?kc_NoCount_NoCount ?kt_NoCount_NoCount ?ks_NoCount_NoCount ?kc_NoCount_NoPair ?kt_NoCount_NoPair ?ks_NoCount_NoPair ?kn_NoCount_NoPair ?kc_NoPair_NoCells ?kt_NoPair_NoCells ?ks_NoPair_NoCells ?kn_NoPair_NoCells ?kc_NoPair_TooMany ?kt_NoPair_TooMany ?ks_NoPair_TooMany ?kn_NoPair_TooMany ?kc_NoPair_NoView ?kt_NoPair_NoView ?ks_NoPair_NoView ?kn_NoPair_NoView ?kc_NoPair_NoCount ?kt_NoPair_NoCount ?ks_NoPair_NoCount ?kn_NoPair_NoCount ?kc_NoPair_NoPair ?kt_NoPair_NoPair ?ks_NoPair_NoPair ?ks_NoCells_ValueError ?ks_TooMany_ValueError ?ks_NoView_ValueError ?ks_NoCount_ValueError ?ks_NoPair_ValueError ?F0 ?a1 ?F1 ?a2 ?F2 ?a3 ?F3 ?a4 ?F4 ?a5 ?F5 ?a6 ?F6 ?F7 ?F8 ?F9 ?F10 ?F11 ?F12 ?F13 ?a14 ?F14 ?a15 ?F15 ?a16 ?F16 ?a17 ?F17 ?a18 ?F18 ?F19 ?F20 ?F21 ?F22 ?F23 ?F24 ?F25 ?F26 ?a27 ?F27 ?a28 ?F28 ?a29 ?F29 ?a30 ?F30 ?a31 ?F31 ?a32 ?F32 ?a33 ?F33 ?a34 ?F34 ?a35 ?F35 ?a36 ?F36 ?a37 ?l37 ?c37 ?k37 ?fi_TooMany ?xe_TooMany ?xf_TooMany ?xo_TooMany ?xs_TooMany ?xh_TooMany ?nt_TooMany_number ?nf_TooMany_number ?bs_PaceError ?br_PaceError ?bf_PaceError ?pg_Store ?hd_Store ?po_Store ?sa_Store ?nf_Store_floor ?fi_Store___init__ ?fn_Store___init__ ?mm_Store ?ck_Store ?fi_Store_all_values ?fn_Store_all_values ?fi_Store_refuse_room ?fn_Store_refuse_room ?fi_Store_read ?fn_Store_read ?fi_Store_put ?fn_Store_put ?fi_Store_fill ?fn_Store_fill ?fi_Store_copied ?fn_Store_copied ?pg_View ?hd_View ?po_View ?sa_View ?nf_View_axes ?nf_View_first ?nf_View_room ?fi_View___init__ ?fn_View___init__ ?mm_View ?ck_View ?fi_View_sizes ?fn_View_sizes ?fi_View_paces ?fn_View_paces ?fi_View_count ?fn_View_count ?fi_View_cell ?fn_View_cell ?fi_View_cells ?fn_View_cells ?fi_View_least ?fn_View_least ?fi_View_greatest ?fn_View_greatest ?w0 ?w1 ?w2 ?w3 ?z0 ?z1 ?z2 ?z3 ?z4 ?z5 ?z6 ?z7 ?z8 ?z9 ?z10 ?z11 ?z12
  (case y0|y1|y2|y3|y4|y5|y6|y7|y8|fi_TooMany|fi_Store___init__|fi_Store_all_values=>first|k_is|k_exc|kts_exm|decide|rfl|decide +kernel|kernel_rfl)
  (case fi_Store_refuse_room|fi_Store_read|fi_Store_put|fi_Store_fill|fi_Store_copied|fi_View___init__|fi_View_sizes|fi_View_paces|fi_View_count|fi_View_cell|fi_View_cells|fi_View_least=>first|k_is|k_exc|kts_exm|decide|rfl|decide +kernel|kernel_rfl)
  (case fi_View_greatest|a1|a2|a3|a4|a5|a6|a14|a15|a16|a17|a18=>first|k_is|k_exc|kts_exm|decide|rfl|decide +kernel|kernel_rfl)
  (case a27|a28|a29|a30|a31|a32|a33|a34|a35|a36|a37=>first|k_is|k_exc|kts_exm|decide|rfl|decide +kernel|kernel_rfl)
  (case F0|F1|F2|F3|F4|F5|F6|F7|F8|F9|F10|F11=>(refine' L2.fun_mk ?l ?c ?k;(case l|c|k=>first|k_is|k_exc|kts_exm|decide|rfl|decide +kernel|kernel_rfl)))
  (case F12|F13|F14|F15|F16|F17|F18|F19|F20|F21|F22|F23=>(refine' L2.fun_mk ?l ?c ?k;(case l|c|k=>first|k_is|k_exc|kts_exm|decide|rfl|decide +kernel|kernel_rfl)))
  (case F24|F25|F26|F27|F28|F29|F30|F31|F32|F33|F34|F35=>(refine' L2.fun_mk ?l ?c ?k;(case l|c|k=>first|k_is|k_exc|kts_exm|decide|rfl|decide +kernel|kernel_rfl)))
  (case F36=>(refine' L2.fun_mk ?l ?c ?k;(case l|c|k=>first|k_is|k_exc|kts_exm|decide|rfl|decide +kernel|kernel_rfl)))
  (case o_NoCells|o_NoView|o_NoCount|o_NoPair|x_NoCells_PaceError|x_TooMany_PaceError|x_NoView_PaceError|x_NoCount_PaceError|x_NoPair_PaceError|ocs|oct|ga_NoCells=>first|k_is|k_exc|kts_exm|decide|rfl|decide +kernel|kernel_rfl)
  (case gn_NoCells|mb_NoCells|mo_NoCells|fc_NoCells|hd_NoCells|ga_TooMany|gn_TooMany|mb_TooMany|mo_TooMany|fc_TooMany|hd_TooMany|ga_NoView=>first|k_is|k_exc|kts_exm|decide|rfl|decide +kernel|kernel_rfl)
  (case gn_NoView|mb_NoView|mo_NoView|fc_NoView|hd_NoView|ga_NoCount|gn_NoCount|mb_NoCount|mo_NoCount|fc_NoCount|hd_NoCount|ga_NoPair=>first|k_is|k_exc|kts_exm|decide|rfl|decide +kernel|kernel_rfl)
  (case gn_NoPair|mb_NoPair|mo_NoPair|fc_NoPair|hd_NoPair|kc_NoCells_NoCells|kt_NoCells_NoCells|ks_NoCells_NoCells|kc_NoCells_TooMany|kt_NoCells_TooMany|ks_NoCells_TooMany|kn_NoCells_TooMany=>first|k_is|k_exc|kts_exm|decide|rfl|decide +kernel|kernel_rfl)
  (case kc_NoCells_NoView|kt_NoCells_NoView|ks_NoCells_NoView|kn_NoCells_NoView|kc_NoCells_NoCount|kt_NoCells_NoCount|ks_NoCells_NoCount|kn_NoCells_NoCount|kc_NoCells_NoPair|kt_NoCells_NoPair|ks_NoCells_NoPair|kn_NoCells_NoPair=>first|k_is|k_exc|kts_exm|decide|rfl|decide +kernel|kernel_rfl)
  (case kc_TooMany_NoCells|kt_TooMany_NoCells|ks_TooMany_NoCells|kn_TooMany_NoCells|kc_TooMany_TooMany|kt_TooMany_TooMany|ks_TooMany_TooMany|kc_TooMany_NoView|kt_TooMany_NoView|ks_TooMany_NoView|kn_TooMany_NoView|kc_TooMany_NoCount=>first|k_is|k_exc|kts_exm|decide|rfl|decide +kernel|kernel_rfl)
  (case kt_TooMany_NoCount|ks_TooMany_NoCount|kn_TooMany_NoCount|kc_TooMany_NoPair|kt_TooMany_NoPair|ks_TooMany_NoPair|kn_TooMany_NoPair|kc_NoView_NoCells|kt_NoView_NoCells|ks_NoView_NoCells|kn_NoView_NoCells|kc_NoView_TooMany=>first|k_is|k_exc|kts_exm|decide|rfl|decide +kernel|kernel_rfl)
  (case kt_NoView_TooMany|ks_NoView_TooMany|kn_NoView_TooMany|kc_NoView_NoView|kt_NoView_NoView|ks_NoView_NoView|kc_NoView_NoCount|kt_NoView_NoCount|ks_NoView_NoCount|kn_NoView_NoCount|kc_NoView_NoPair|kt_NoView_NoPair=>first|k_is|k_exc|kts_exm|decide|rfl|decide +kernel|kernel_rfl)
  (case ks_NoView_NoPair|kn_NoView_NoPair|kc_NoCount_NoCells|kt_NoCount_NoCells|ks_NoCount_NoCells|kn_NoCount_NoCells|kc_NoCount_TooMany|kt_NoCount_TooMany|ks_NoCount_TooMany|kn_NoCount_TooMany|kc_NoCount_NoView|kt_NoCount_NoView=>first|k_is|k_exc|kts_exm|decide|rfl|decide +kernel|kernel_rfl)
  (case ks_NoCount_NoView|kn_NoCount_NoView|kc_NoCount_NoCount|kt_NoCount_NoCount|ks_NoCount_NoCount|kc_NoCount_NoPair|kt_NoCount_NoPair|ks_NoCount_NoPair|kn_NoCount_NoPair|kc_NoPair_NoCells|kt_NoPair_NoCells|ks_NoPair_NoCells=>first|k_is|k_exc|kts_exm|decide|rfl|decide +kernel|kernel_rfl)
  (case kn_NoPair_NoCells|kc_NoPair_TooMany|kt_NoPair_TooMany|ks_NoPair_TooMany|kn_NoPair_TooMany|kc_NoPair_NoView|kt_NoPair_NoView|ks_NoPair_NoView|kn_NoPair_NoView|kc_NoPair_NoCount|kt_NoPair_NoCount|ks_NoPair_NoCount=>first|k_is|k_exc|kts_exm|decide|rfl|decide +kernel|kernel_rfl)
  (case kn_NoPair_NoCount|kc_NoPair_NoPair|kt_NoPair_NoPair|ks_NoPair_NoPair|ks_NoCells_ValueError|ks_TooMany_ValueError|ks_NoView_ValueError|ks_NoCount_ValueError|ks_NoPair_ValueError|l37|c37|k37=>first|k_is|k_exc|kts_exm|decide|rfl|decide +kernel|kernel_rfl)
  (case xe_TooMany|xf_TooMany|xo_TooMany|xs_TooMany|xh_TooMany|nt_TooMany_number|nf_TooMany_number|bs_PaceError|br_PaceError|bf_PaceError|pg_Store|hd_Store=>first|k_is|k_exc|kts_exm|decide|rfl|decide +kernel|kernel_rfl)
  (case po_Store|sa_Store|nf_Store_floor|fn_Store___init__|mm_Store|ck_Store|fn_Store_all_values|fn_Store_refuse_room|fn_Store_read|fn_Store_put|fn_Store_fill|fn_Store_copied=>first|k_is|k_exc|kts_exm|decide|rfl|decide +kernel|kernel_rfl)
  (case pg_View|hd_View|po_View|sa_View|nf_View_axes|nf_View_first|nf_View_room|fn_View___init__|mm_View|ck_View|fn_View_sizes|fn_View_paces=>first|k_is|k_exc|kts_exm|decide|rfl|decide +kernel|kernel_rfl)
  (case fn_View_count|fn_View_cell|fn_View_cells|fn_View_least|fn_View_greatest|w0|w1|w2|w3|z0|z1|z2=>first|k_is|k_exc|kts_exm|decide|rfl|decide +kernel|kernel_rfl)
  (case z3|z4|z5|z6|z7|z8|z9|z10|z11|z12=>first|k_is|k_exc|kts_exm|decide|rfl|decide +kernel|kernel_rfl)
#print axioms PySem.Challenge.cw_pacehall_k67_stores_refused_holds