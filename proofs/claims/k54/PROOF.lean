import PyProof.Rows.All
import Wide.All
import OpenK.AllK
import Wide.FinOn
import Lean
import PyProof.EqAt
import PyProof.EqKinds
import PyProof.TupleCall
import PySem.Challenge.RW_pacehall_k54_apart
-- CHANGE: your row's module here, as the last of these rows
set_option Elab.async false
set_option linter.all false
set_option maxRecDepth 100000
namespace L2
open PySem PySem.Spec PyProof.Rows
abbrev Key:=Sum Int Str
def keyIs:Key->Value->Bool
 | .inl k,v=>Value.isInt k v
 | .inr x,v=>Value.isStrOf x v
def keyH (w:World):Key->Int
 | .inl k=>hashInt k
 | .inr x=>hashStr w x
theorem keyIs_shape:∀ {k:Key}{v:Value},keyIs k v=true->(∃ i t,k=Sum.inl i∧v=Value.int i t)∨(∃ x t,k=Sum.inr x∧v=Value.str x t)
 | .inl i,v,h=>by
  obtain ⟨t,e⟩:=Value.isInt_shape (k:=i) (v:=v) h
  exact .inl ⟨i,t,rfl,e⟩
 | .inr x,v,h=>by
  obtain ⟨t,e⟩:=Value.isStrOf_shape (x:=x) (v:=v) h
  exact .inr ⟨x,t,rfl,e⟩
theorem keyIs_int (i:Int) (t:Tok):keyIs (.inl i) (.int i t)=true:=by simp [keyIs,Value.isInt]
theorem keyIs_str (x:Str) (t:Tok):keyIs (.inr x) (.str x t)=true:=by simp [keyIs,Value.isStrOf]
theorem key_ll (a b:Int):decide ((Sum.inl a:Key)=Sum.inl b)=(a == b):=by
 by_cases e:a=b
 ·subst e;simp
 ·have h:¬ (Sum.inl a:Key)=Sum.inl b:=fun q=>e (Sum.inl.inj q)
  rw [decide_eq_false h]
  exact (beq_eq_false_iff_ne.mpr e).symm
theorem key_rr (a b:Str):decide ((Sum.inr a:Key)=Sum.inr b)=decide (a=b):=by
 by_cases e:a=b
 ·subst e;simp
 ·have h:¬ (Sum.inr a:Key)=Sum.inr b:=fun q=>e (Sum.inr.inj q)
  rw [decide_eq_false h,decide_eq_false e]
theorem key_lr (a:Int) (b:Str):decide ((Sum.inl a:Key)=Sum.inr b)=false:=decide_eq_false (fun q=>nomatch q)
theorem key_rl (a:Str) (b:Int):decide ((Sum.inr a:Key)=Sum.inl b)=false:=decide_eq_false (fun q=>nomatch q)
def mixKind (prog:Program) (w:World):PySem.KeyKind prog w Key where
 is:=keyIs
 hash:=keyH w
 inj:=fun v a b ha hb=>by
  rcases keyIs_shape ha with ⟨i,t,rfl,rfl⟩|⟨x,t,rfl,rfl⟩
  ·rcases keyIs_shape hb with ⟨j,u,rfl,e⟩|⟨y,u,rfl,e⟩
   ·injection e with e1 _;rw [e1]
   ·exact nomatch e
  ·rcases keyIs_shape hb with ⟨j,u,rfl,e⟩|⟨y,u,rfl,e⟩
   ·exact nomatch e
   ·injection e with e1 _;rw [e1]
 byValue:=fun k v h=>by
  rcases keyIs_shape h with ⟨i,t,rfl,rfl⟩|⟨x,t,rfl,rfl⟩<;>rfl
 pyHash:=fun hv h=>by
  rcases keyIs_shape hv with ⟨i,t,rfl,rfl⟩|⟨x,t,rfl,rfl⟩
  ·exact wpAny_pyHash_int h
  ·exact wpAny_pyHash_str h
 eqBool:=fun hu hv h=>by
  rcases keyIs_shape hu with ⟨i,t,rfl,rfl⟩|⟨x,t,rfl,rfl⟩
  ·rcases keyIs_shape hv with ⟨j,u,rfl,rfl⟩|⟨y,u,rfl,rfl⟩
   ·rw [key_ll] at h;exact wpAny_eqBool_int h
   ·rw [key_lr] at h;exact SeqAt.EqAt.int_str i t y u _ _ _ _ h
  ·rcases keyIs_shape hv with ⟨j,u,rfl,rfl⟩|⟨y,u,rfl,rfl⟩
   ·rw [key_rl] at h;exact SeqAt.EqAt.str_int x t j u _ _ _ _ h
   ·rw [key_rr] at h;exact wpAny_eqBool_str h
 «strs»:=fun k x t v h=>by
  rcases keyIs_shape h with ⟨i,u,rfl,e⟩|⟨y,u,rfl,e⟩
  ·exact nomatch e
  ·injection e with e1 _
   subst e1
   cases v<;>rfl
theorem mixKind_int (prog:Program) (w:World) (i:Int) (t:Tok):(mixKind prog w).is (.inl i) (.int i t)=true:=keyIs_int i t
theorem mixKind_str (prog:Program) (w:World) (x:Str) (t:Tok):(mixKind prog w).is (.inr x) (.str x t)=true:=keyIs_str x t
end L2
namespace L2
open PySem PySem.Spec PyProof.Rows
inductive V where
 | non|bl (b:Bool)|int (i:Int)|str (x:Str)|byt (b:Array UInt8)|flt (b:UInt64)|ref (a:Addr)|ty (n:String)
 deriving DecidableEq
def RelV:V->Value->Prop
 | .non,u=>u=Value.none
 | .bl b,u=>u=Value.bool b
 | .int i,u=>∃ t,u=Value.int i t
 | .str x,u=>∃ t,u=Value.str x t
 | .byt b,u=>∃ t,u=Value.bytes b t
 | .flt b,u=>∃ t,u=Value.float b t
 | .ref a,u=>u=Value.ref a
 | .ty n,u=>u=Value.type n
abbrev Vals:List V->List Value->Prop:=Paired RelV
theorem Vals.length {xs:List V}{us:List Value}(r:Vals xs us):xs.length=us.length:=Paired.length r
theorem Vals.get:∀ {xs:List V}{us:List Value}{i:Nat}{x:V},Vals xs us->xs[i]? = some x->∃ u,us[i]? = some u∧RelV x u
 | _,_,_,_,.nil,e=>by simp at e
 | _,_,0,_,.cons r _,e=>by simp at e;subst e;exact ⟨_,rfl,r⟩
 | _,_,i+1,x,.cons _ t,e=>by
  obtain ⟨u,h1,h2⟩:=Vals.get (i:=i) (x:=x) t (by simpa using e)
  exact ⟨u,by simpa using h1,h2⟩
theorem Vals.set {x:V}{u:Value}(r:RelV x u):∀ {xs:List V}{us:List Value}(i:Nat),Vals xs us->Vals (xs.set i x) (us.set i u)
 | _,_,_,.nil=>.nil
 | _,_,0,.cons _ t=>.cons r t
 | _,_,i+1,.cons q t=>.cons q (Vals.set r i t)
theorem Vals.append:∀ {xs ys:List V}{us ws:List Value},Vals xs us->Vals ys ws->Vals (xs++ys) (us++ws)
 | _,_,_,_,.nil,s=>s
 | _,_,_,_,.cons r t,s=>.cons r (Vals.append t s)
theorem Vals.take:∀ {xs:List V}{us:List Value}(n:Nat),Vals xs us->Vals (xs.take n) (us.take n)
 | _,_,0,_=>.nil
 | _,_,_+1,.nil=>.nil
 | _,_,n+1,.cons r t=>.cons r (Vals.take n t)
theorem Vals.drop:∀ {xs:List V}{us:List Value}(n:Nat),Vals xs us->Vals (xs.drop n) (us.drop n)
 | _,_,0,r=>r
 | _,_,_+1,.nil=>.nil
 | _,_,n+1,.cons _ t=>Vals.drop n t
def RelO:Option V->Option Value->Prop
 | some v,some u=>RelV v u
 | none,none=>True
 | _,_=>False
def KV {κ:Type}:List (κ × V)->List (κ × Value)->Prop:=Paired fun (p:κ × V) (q:κ × Value)=>p.1=q.1∧RelV p.2 q.2
def kV:Key->V
 | .inl i=>.int i
 | .inr x=>.str x
inductive HO where
 | lst (xs:List V)
 | tup (xs:List V)
 | dK (kvs:List (Key × V))|dT (kvs:List (List Key × V))
 | set (S:Int->Bool) (n:Nat)
 | ins (C dx:Addr) (fs:List (Str × V))
 | own (x:Addr)
 | xd (fs:List (Str × V))
 | met (f x:Addr)
 | rng (lo hi:Int)
 | frz (o:Obj) (u:HO)
 | tbl (ps:Array Value)
 | ext (φ:Heap->Prop)
abbrev Hp:=Addr->Option HO
def upd (H:Hp) (a:Addr) (o:HO):Hp:=fun b=>if b=a then some o else H b
theorem upd_same {H:Hp}{a:Addr}{o:HO}:upd H a o a=some o:=by unfold upd;rw [if_pos rfl]
theorem upd_ne {H:Hp}{a b:Addr}{o:HO}(h:b ≠ a):upd H a o b=H b:=by unfold upd;rw [if_neg h]
theorem upd_upd {H:Hp}{a:Addr}{o u:HO}:upd (upd H a o) a u=upd H a u:=by
 funext b;unfold upd;split<;>rfl
theorem ne_of {H:Hp}{a b:Addr}{o u:HO}(h:H a=some o) (h':H b=some u) (d:o ≠ u):a ≠ b:=by
 intro e;subst e;rw [h] at h';exact d (Option.some.inj h')
theorem ne_of_none {H:Hp}{a b:Addr}{o:HO}(h:H a=some o) (h':H b=none):a ≠ b:=by
 intro e;subst e;rw [h] at h';cases h'
section
variable (P:Program) (w:World)
def ObjOk (H:Hp) (h:Heap) (a:Addr):HO->Prop
 | .lst xs=>xs.length≤sizeLine∧∃ (its:List Value) (n:Nat),Vals xs its∧h.get? a=some { cls:=.type "list",data:=.seq its.toArray n }
 | .tup xs=>xs.length≤sizeLine∧∃ its:List Value,Vals xs its∧IsTup h a its.toArray
 | .dK kvs=>kvs.length≤sizeLine∧(a == sysModules)=false∧∃ vs,KV kvs vs∧h.DictOf (mixKind P w) a vs
 | .dT kvs=>kvs.length≤sizeLine∧(a == sysModules)=false∧∃ xs:List (List Key × Addr × Value),
   Paired (fun (p:List Key × V) (q:List Key × Addr × Value)=>p.1=q.1∧H q.2.1=some (.tup (p.1.map kV))∧RelV p.2 q.2.2) kvs xs ∧
   ∃ o es ep,h.get? a=some o∧o.ExactDict∧o.data=.dict es ep∧es.toList=xs.map (entryOfKey (tupleKind (mixKind P w)))∧(xs.map (·.1)).Nodup
 | .set S n=>h.SetOf (intKind P w) a S n
 | .ins C dx fs=>H dx=some (.own a)∧fs.length≤1000∧dx ≠ a∧h.get? a=some (PySem.W.instObj C dx) ∧
   ∃ mA,h.Ns1 dx mA∧(∀ f,RelO (fs.lookup f) (mA f))∧PySem.Within mA (fs.map (·.1))
 | .own _=>∃ o,h.get? a=some o
 | .xd fs=>∃ mA,h.Ns1 a mA∧∀ f,RelO (fs.lookup f) (mA f)
 | .rng lo hi=>∃ t u v,h.get? a=some { cls:=.type "range",data:=.fields #[.int lo t,.int hi u,.int 1 v] }
 | .frz o u=>h.get? a=some o∧ObjOk H h a u
 | .tbl ps=>h.get? a=some { cls:=.none,data:=.fields ps }
 | .met f x=>h.get? a=some (PySem.W.methodObj (.ref f) (.ref x))
 | .ext φ=>φ h∧(∃ o,h.get? a=some o)∧∀ h1 h2:Heap,φ h1->(∀ o,h1.get? a=some o->h2.get? a=some o)->φ h2
def HOk (H:Hp) (h:Heap):Prop:=∀ a o,H a=some o->ObjOk P w H h a o
end
section
variable {P:Program}{w:World}{H H':Hp}{h h':Heap}{a:Addr}{o:HO}
theorem ObjOk.lt (x:ObjOk P w H h a o):a < h.objs.size:=by
 cases o with
 | lst xs=>obtain ⟨_,_,_,_,e⟩:=x;exact Heap.lt_size e
 | tup xs=>obtain ⟨_,_,_,p⟩:=x;exact p.lt
 | dK kvs=>obtain ⟨_,_,_,_,o,_,_,e,_⟩:=x;exact Heap.lt_size e
 | dT kvs=>obtain ⟨_,_,_,_,o,_,_,e,_⟩:=x;exact Heap.lt_size e
 | set S n=>obtain ⟨o,_,_,_,e,_⟩:=x;exact Heap.lt_size e
 | ins C dx fs=>obtain ⟨_,_,_,e,_⟩:=x;exact Heap.lt_size e
 | own y=>obtain ⟨_,e⟩:=x;exact Heap.lt_size e
 | xd fs=>obtain ⟨_,⟨_,_,_,e,_⟩,_⟩:=x;exact Heap.lt_size e
 | rng lo hi=>obtain ⟨_,_,_,e⟩:=x;exact Heap.lt_size e
 | frz ob u=>obtain ⟨e,_⟩:=x;exact Heap.lt_size e
 | tbl ps=>exact Heap.lt_size (show h.get? a=some _ from x)
 | met f y=>exact Heap.lt_size (show h.get? a=some _ from x)
 | ext φ=>obtain ⟨_,⟨_,e⟩,_⟩:=x;exact Heap.lt_size e
theorem Paired.mapP {α β:Type}{F G:α->β->Prop}:∀ {l₁:List α}{l₂:List β},Paired F l₁ l₂->(∀ a b,F a b->G a b)->Paired G l₁ l₂
 | _,_,.nil,_=>.nil
 | _,_,.cons r t,f=>.cons (f _ _ r) (Paired.mapP t f)
theorem ObjOk.stay (x:ObjOk P w H h a o) (k:∀ b u,(b=a∨H b=some (.own a))->h.get? b=some u->h'.get? b=some u)
  (ho:∀ b,H b=some (.own a)->H' b=some (.own a)) (ht:∀ b xs,H b=some (.tup xs)->H' b=some (.tup xs)):ObjOk P w H' h' a o:=by
 induction o with
 | lst xs=>obtain ⟨z,its,n,r,e⟩:=x;exact ⟨z,its,n,r,k _ _ (.inl rfl) e⟩
 | tup xs=>obtain ⟨z,its,r,ob,e,c⟩:=x;exact ⟨z,its,r,ob,k _ _ (.inl rfl) e,c⟩
 | dK kvs=>obtain ⟨z,y,vs,r,ob,es,ep,e,c⟩:=x;exact ⟨z,y,vs,r,ob,es,ep,k _ _ (.inl rfl) e,c⟩
 | dT kvs=>
  obtain ⟨z,y,xs,r,ob,es,ep,e,c⟩:=x
  exact ⟨z,y,xs,Paired.mapP r fun p q z=>⟨z.1,ht _ _ z.2.1,z.2.2⟩,ob,es,ep,k _ _ (.inl rfl) e,c⟩
 | set S n=>obtain ⟨ob,es,ep,t,e,c⟩:=x;exact ⟨ob,es,ep,t,k _ _ (.inl rfl) e,c⟩
 | ins C dx fs=>
  obtain ⟨d,z,ne,e,mA,⟨od,es,ep,e2,c⟩,r⟩:=x
  exact ⟨ho _ d,z,ne,k _ _ (.inl rfl) e,mA,⟨od,es,ep,k _ _ (.inr d) e2,c⟩,r⟩
 | own y=>obtain ⟨ob,e⟩:=x;exact ⟨ob,k _ _ (.inl rfl) e⟩
 | xd fs=>obtain ⟨mA,⟨od,es,ep,e,c⟩,r⟩:=x;exact ⟨mA,⟨od,es,ep,k _ _ (.inl rfl) e,c⟩,r⟩
 | rng lo hi=>obtain ⟨t,u,v,e⟩:=x;exact ⟨t,u,v,k _ _ (.inl rfl) e⟩
 | frz ob u ih=>obtain ⟨e,q⟩:=x;exact ⟨k _ _ (.inl rfl) e,ih q⟩
 | tbl ps=>
  have e:h.get? a=some { cls:=.none,data:=.fields ps }:=x
  show h'.get? a=some { cls:=.none,data:=.fields ps }
  exact k a _ (.inl rfl) e
 | met f y=>
  have e:h.get? a=some (PySem.W.methodObj (.ref f) (.ref y)):=x
  show h'.get? a=some (PySem.W.methodObj (.ref f) (.ref y))
  exact k a _ (.inl rfl) e
 | ext φ=>obtain ⟨p,⟨o,e⟩,st⟩:=x;exact ⟨st _ _ p fun o q=>k _ _ (.inl rfl) q,⟨o,k _ _ (.inl rfl) e⟩,st⟩
theorem HOk.lt (x:HOk P w H h) (e:H a=some o):a < h.objs.size:=(x a o e).lt
theorem HOk.fresh (x:HOk P w H h) (e:h.objs.size≤a):H a=none:=by
 cases q:H a with
 | none=>rfl
 | some u=>exact absurd (Nat.lt_of_lt_of_le (x.lt q) e) (Nat.lt_irrefl _)
theorem HOk.kept (x:HOk P w H h) (k:∀ b u,h.get? b=some u->h'.get? b=some u):HOk P w H h':=fun a o e=>
 (x a o e).stay (fun b u _ q=>k b u q) (fun _ q=>q) fun _ _ q=>q
theorem HOk.laid (x:HOk P w H h) (k:∀ b u,h.get? b=some u->h'.get? b=some u) (hp:h.objs.size≤a) (new:ObjOk P w (upd H a o) h' a o):HOk P w (upd H a o) h':=fun b u e=>by
 have hn:=x.fresh hp
 by_cases hb:b=a
 ·subst hb;rw [upd_same] at e;cases e;exact new
 ·rw [upd_ne hb] at e
  exact (x b u e).stay (fun c v _ q=>k c v q) (fun c q=>by rw [upd_ne (ne_of_none q hn)];exact q) fun c xs q=>by rw [upd_ne (ne_of_none q hn)];exact q
end
def Rd (H:Hp) (a:Addr) (u:HO):Prop:=H a=some u∨∃ o,H a=some (.frz o u)
theorem Rd.ok {P:Program}{w:World}{H:Hp}{h:Heap}{a:Addr}{u:HO}(r:Rd H a u) (x:HOk P w H h):ObjOk P w H h a u:=by
 rcases r with r|⟨o,r⟩
 ·exact x a u r
 ·obtain ⟨_,q⟩:=x a _ r
  exact q
def Mut:Option HO->Prop
 | some (.lst _)=>True
 | some (.dK _)=>True
 | some (.dT _)=>True
 | some (.set _ _)=>True
 | some (.ins _ _ _)=>True
 | some (.ext _)=>True
 | _=>False
section
variable {P:Program}{w:World}{H:Hp}{h h':Heap}{x e:Addr}{o':HO}
theorem HOk.write (ok:HOk P w H h) (mu:Mut (H x)) (he:e=x∨H e=some (.own x)) (k:∀ b u,b ≠ e->h.get? b=some u->h'.get? b=some u) (heo:∃ u,h'.get? e=some u)
  (new:ObjOk P w (upd H x o') h' x o'):HOk P w (upd H x o') h':=fun b u q=>by
 have nown:∀ c y,H c=some (.own y)->c ≠ x:=fun c y r z=>by subst z;rw [r] at mu;exact mu
 have ntup:∀ c xs,H c=some (.tup xs)->c ≠ x:=fun c xs r z=>by subst z;rw [r] at mu;exact mu
 by_cases hb:b=x
 ·subst hb;rw [upd_same] at q;cases q;exact new
 ·rw [upd_ne hb] at q
  by_cases hbe:b=e
  ·have q':H b=some (.own x):=by
    rcases he with z|z
    ·exact absurd (hbe.trans z) hb
    ·rw [hbe];exact z
   rw [q] at q';cases q'
   obtain ⟨v,hv⟩:=heo
   exact ⟨v,by rw [hbe];exact hv⟩
  ·refine (ok b u q).stay (fun c v hc r=>k c v ?_ r) (fun c r=>by rw [upd_ne (nown c b r)];exact r) fun c xs r=>by rw [upd_ne (ntup c xs r)];exact r
   rcases hc with rfl|hc
   ·exact hbe
   ·rintro rfl
    rcases he with z|z
    ·exact nown c b hc z
    ·rw [hc] at z;cases z;exact hb rfl
end
structure Un (fs ex:List Addr) (H H':Hp) (h h':Heap):Prop where
 keep:∀ b o,h.get? b=some o->H b=none->b ∉ fs->b ∉ ex->h'.get? b=some o
 slot:∀ b o,h.get? b=some o->H b=none->b∈fs->b ∉ ex->∃ sl,h'.get? b=some { o with slots:=sl }
 free:∀ b o,h.get? b=some o->H b=none->b ∉ ex->H' b=none
 there:∀ b o,h.get? b=some o->b ∉ ex->∃ o',h'.get? b=some o'
 tups:∀ b xs,H b=some (.tup xs)->H' b=some (.tup xs)
 frzs:∀ b o u,H b=some (.frz o u)->H' b=some (.frz o u)
 tbls:∀ b ps,H b=some (.tbl ps)->∃ more,H' b=some (.tbl (ps++more))
section
variable {fs fs' ex ex':List Addr}{H H1 H2:Hp}{h h1 h2 h':Heap}{a x e:Addr}{o:HO}
theorem Un.any (u:Un fs ex H H1 h h1){b:Addr}{ob:Obj}(q:h.get? b=some ob) (n:H b=none) (hx:b ∉ ex):∃ sl,h1.get? b=some { ob with slots:=sl }:=by
 by_cases hb:b∈fs
 ·exact u.slot b ob q n hb hx
 ·exact ⟨ob.slots,u.keep b ob q n hb hx⟩
theorem Un.trans (a:Un fs ex H H1 h h1) (b:Un fs ex H1 H2 h1 h2):Un fs ex H H2 h h2 where
 keep:=fun c ob q n hc hx=>b.keep c ob (a.keep c ob q n hc hx) (a.free c ob q n hx) hc hx
 slot:=fun c ob q n hc hx=>by
  obtain ⟨sl,e1⟩:=a.slot c ob q n hc hx
  obtain ⟨sl',e2⟩:=b.slot c _ e1 (a.free c ob q n hx) hc hx
  exact ⟨sl',e2⟩
 free:=fun c ob q n hx=>by
  obtain ⟨o',e1⟩:=a.there c ob q hx
  exact b.free c o' e1 (a.free c ob q n hx) hx
 there:=fun c ob q hx=>by
  obtain ⟨o',e1⟩:=a.there c ob q hx
  exact b.there c o' e1 hx
 tups:=fun c xs q=>b.tups c xs (a.tups c xs q)
 frzs:=fun c ob xs q=>b.frzs c ob xs (a.frzs c ob xs q)
 tbls:=fun c ps q=>by
  obtain ⟨m1,e1⟩:=a.tbls c ps q
  obtain ⟨m2,e2⟩:=b.tbls c _ e1
  exact ⟨m1++m2,by rw [e2,Array.append_assoc]⟩
theorem Un.kept (k:∀ b u,h.get? b=some u->h'.get? b=some u):Un fs ex H H h h':=
 ⟨fun b ob q _ _ _=>k b ob q,fun b ob q _ _ _=>⟨ob.slots,k b ob q⟩,fun _ _ _ n _=>n,fun b ob q _=>⟨ob,k b ob q⟩,fun _ _ q=>q,fun _ _ _ q=>q,fun _ ps q=>⟨#[],by rw [q];simp⟩⟩
theorem Un.refl:Un fs ex H H h h:=Un.kept fun _ _ q=>q
theorem Un.laid (k:∀ b u,h.get? b=some u->h'.get? b=some u) (hp:h.objs.size≤a) (hn:H a=none):Un fs ex H (upd H a o) h h' where
 keep:=fun b u q _ _ _=>k b u q
 slot:=fun b u q _ _ _=>⟨u.slots,k b u q⟩
 free:=fun b u q n _=>by rw [upd_ne (Nat.ne_of_lt (Nat.lt_of_lt_of_le (Heap.lt_size q) hp))];exact n
 there:=fun b u q _=>⟨u,k b u q⟩
 tups:=fun b xs q=>by rw [upd_ne (ne_of_none q hn)];exact q
 frzs:=fun b u xs q=>by rw [upd_ne (ne_of_none q hn)];exact q
 tbls:=fun b ps q=>⟨#[],by rw [upd_ne (ne_of_none q hn),q];simp⟩
theorem Un.write (mu:Mut (H x)) (he:e=x∨H e=some (.own x)) (k:∀ b u,b ≠ e->h.get? b=some u->h'.get? b=some u) (heo:∃ u,h'.get? e=some u):Un fs ex H (upd H x o) h h':=by
 have hx:∀ b,H b=none->b ≠ x:=fun b n z=>by subst z;rw [n] at mu;exact mu
 have hb:∀ b,H b=none->b ≠ e:=fun b n z=>by
  subst z
  rcases he with r|r
  ·exact hx b n r
  ·rw [n] at r;cases r
 have hm:∀ b u,H b=some u->¬ Mut (some u)->b ≠ x:=fun b u q nm z=>by subst z;rw [q] at mu;exact nm mu
 refine ⟨fun b u q n _ _=>k b u (hb b n) q,fun b u q n _ _=>⟨u.slots,k b u (hb b n) q⟩,fun b u q n _=>by rw [upd_ne (hx b n)];exact n,fun b u q _=>?_,
  fun b xs q=>by rw [upd_ne (hm b _ q fun z=>z)];exact q,fun b u xs q=>by rw [upd_ne (hm b _ q fun z=>z)];exact q,fun b ps q=>⟨#[],by rw [upd_ne (hm b _ q fun z=>z),q];simp⟩⟩
 by_cases hbe:b=e
 ·subst hbe;exact heo
 ·exact ⟨u,k b u hbe q⟩
end
def trk (h:Heap) (H:Hp):List Addr:=(List.range h.objs.size).filter fun a=>(H a).isSome
def hidT (h:Heap) (H:Hp):Heap:=PySem.W.hideAll h (trk h H)
theorem hidT_size (h:Heap) (H:Hp):(hidT h H).objs.size=h.objs.size:=PySem.W.hideAll_size _ _
theorem hidT_get {h:Heap}{H:Hp}{b:Addr}{o:Obj}(e:h.get? b=some o) (n:H b=none):(hidT h H).get? b=some o:=
 PySem.W.hideAll_get _ e fun hm=>by
  have q:(H b).isSome=true:=(List.mem_filter.mp hm).2
  rw [n] at q;simp at q
theorem of_hidT {h:Heap}{H:Hp}{b:Addr}{o:Obj}(e:(hidT h H).get? b=some o):h.get? b=some o∧H b=none:=by
 have e':h.get? b=some o:=PySem.W.of_hideAll (trk h H) e
 refine ⟨e',?_⟩
 cases q:H b with
 | none=>rfl
 | some x=>
  have hm:b∈trk h H:=List.mem_filter.mpr ⟨List.mem_range.mpr (Heap.lt_size e'),by simp [q]⟩
  have z:(hidT h H).get? b=none:=PySem.W.hideAll_none (trk h H) hm
  rw [z] at e;cases e
def allNews (g h:Heap) (L:Addr):List (Addr × Obj):=(List.range h.objs.size).filterMap fun a=>if a=L∨(g.get? a).isSome=true then none else (h.get? a).map fun o=>(a,o)
def rest (g h:Heap) (L d:Addr):List (Addr × Obj):=(allNews g h L).filter fun p=>decide (p.1 ≠ d)
end L2
namespace L2
open PySem PySem.Spec PyProof.Rows
structure Mod (K:PySem.W.Frag) (mg:Str->Option Value) (base:Heap):Prop where
 kin:K.In base
 glob:base.Ns mainGlobals mg
 blt:∃ mb,base.Ns builtinsNs mb∧∀ x:Str,x ≠ "__name__" → mb x=bootBuiltins x
 nolimit:base.NoLimit
structure Cx where
 prog:Program
 w:World
 K:PySem.W.Frag
 mg:Str->Option Value
 base:Heap
 A:Around
 N:List Str
 s₀:Shared
 H₀:Hp
 env:Env
 outer:List Env
 stack:List Env
 ex:List Addr
 fn:Str->Bool
 calm:Bool
 pn:List (Addr × Obj)
 xe:Value->Shared->Prop
def frs (l:List Env):List Addr:=l.filterMap (·.frame)
abbrev Cx.fs (X:Cx):List Addr:=frs X.outer
def Vis (sc:Scope) (x:Str):Prop:=sc.names.lookup x=some .local∨sc.names.lookup x=some .cell∨sc.names.lookup x=some .free
def Loc (sc:Scope) (x:Str):Prop:=sc.names.lookup x=some .local∨sc.names.lookup x=some .cell
def Look (env:Env) (h:Heap) (m:Str->Option Value) (x:Str) (u:Value):Prop:=
 (env.kindOf x=some .local∧m x=some u)∨((env.kindOf x=some .cell∨env.kindOf x=some .free)∧∃ c,env.cells.lookup x=some c∧h.IsCell c (some u))
structure Cx.Ok (X:Cx):Prop where
 mod:Mod X.K X.mg X.base
 kind:X.env.scope.kind=.function
 glob:X.env.globals=mainGlobals
 blt:X.env.builtins=builtinsNs
 above:X.s₀.heap.objs.size≤X.env.locals
 inj:∀ x y c,X.env.cells.lookup x=some c->X.env.cells.lookup y=some c->x=y
 has:∀ x,(X.env.kindOf x=some .cell∨X.env.kindOf x=some .free)->∃ c,X.env.cells.lookup x=some c
 cab:∀ x c,X.fn x=true->X.env.cells.lookup x=some c->X.s₀.heap.objs.size≤c
 hd:X.calm=true->X.A.handled=none
 frames:X.A.frames=some X.stack
 stk:X.stack=X.outer∨(X.stack=X.env::X.outer∧X.env.frame=some X.env.locals)
 exf:∀ b∈X.ex,b ≠ X.env.locals∧∀ x c,X.env.cells.lookup x=some c->c ≠ b
 bs:∀ b o,X.base.get? b=some o->X.s₀.heap.get? b=some o∧X.H₀ b=none
 bsz:X.base.objs.size≤X.s₀.heap.objs.size
 noex:∀ b o,X.base.get? b=some o->b ∉ X.ex
 exfs:∀ b∈X.ex,b ∉ X.fs
 funs:X.s₀.heap.FunFrames X.base X.outer
 frf:∀ b∈X.fs,X.H₀ b=none
structure Inv (X:Cx) (pins:List (Addr × Obj)) (σ:List (Option V)) (H:Hp) (s:Shared):Prop where
 ok:X.Ok
 os:s.os=X.s₀.os
 bare:AllBare s.gens
 base:Un X.fs X.ex X.H₀ H X.s₀.heap s.heap
 loc:∃ m,s.heap.Ns X.env.locals m∧∀ (i:Nat) (x:Str) (v:V),X.N[i]? = some x->σ[i]? = some (some v)->Vis X.env.scope x->∃ u,RelV v u∧Look X.env s.heap m x u
 cell:∀ x c,X.env.cells.lookup x=some c->∃ v,s.heap.IsCell c v
 free:H X.env.locals=none
 freeC:∀ x c,X.env.cells.lookup x=some c->H c=none
 pin:∀ p∈X.pn++pins,s.heap.get? p.1=some p.2∧H p.1=none∧p.1 ≠ X.env.locals∧p.1 ∉ X.fs∧∀ v,p.2.data ≠ .cell v
 hok:HOk X.prog X.w H s.heap
 len:σ.length=X.N.length
section
variable {X:Cx}{pins:List (Addr × Obj)}{σ:List (Option V)}{H H':Hp}{s:Shared}{h':Heap}
theorem Cx.Ok.nofr (ok:X.Ok){b:Addr}{o:Obj}(e:X.base.get? b=some o):b ∉ X.fs:=fun hb=>by
 have:=(ok.funs.mem hb).1
 rw [e] at this;cases this
theorem Inv.bs (I:Inv X pins σ H s):∀ b o,X.base.get? b=some o->s.heap.get? b=some o∧H b=none:=fun b o e=>
 ⟨I.base.keep b o (I.ok.bs b o e).1 (I.ok.bs b o e).2 (I.ok.nofr e) (I.ok.noex b o e),I.base.free b o (I.ok.bs b o e).1 (I.ok.bs b o e).2 (I.ok.noex b o e)⟩
theorem Inv.bk (I:Inv X pins σ H s):∀ b o,X.base.get? b=some o->s.heap.get? b=some o:=fun b o e=>(I.bs b o e).1
theorem Inv.mod (I:Inv X pins σ H s):Mod X.K X.mg X.base:=I.ok.mod
theorem Inv.kIn (I:Inv X pins σ H s):X.K.In s.heap:=I.ok.mod.kin.keeps I.bk
theorem Inv.lt (I:Inv X pins σ H s):X.env.locals < s.heap.objs.size:=let ⟨_,hn,_⟩:=I.loc;hn.lt
theorem Inv.sz (I:Inv X pins σ H s):X.s₀.heap.objs.size≤s.heap.objs.size:=Nat.le_trans I.ok.above (Nat.le_of_lt I.lt)
theorem Inv.nofs (I:Inv X pins σ H s){a:Addr}(h:s.heap.objs.size≤a):a ∉ X.fs:=fun hb=>by
 obtain ⟨_,o,ho,_⟩:=I.ok.funs.mem hb
 exact absurd (Nat.lt_of_lt_of_le (Heap.lt_size ho) (Nat.le_trans I.sz h)) (Nat.lt_irrefl _)
theorem Inv.cne (I:Inv X pins σ H s):∀ x c,X.env.cells.lookup x=some c->c ≠ X.env.locals:=fun x c e z=>by
 obtain ⟨v,o,ho,hd⟩:=I.cell x c e
 obtain ⟨m,⟨o',es,ep,ho',hd',_⟩,_⟩:=I.loc
 rw [z,ho'] at ho;cases ho;rw [hd'] at hd;cases hd
theorem Inv.funs (I:Inv X pins σ H s):s.heap.FunFrames X.base X.outer:=by
 have all:∀ (l:List Env),(∀ b∈frs l,b∈X.fs)->X.s₀.heap.FunFrames X.base l->s.heap.FunFrames X.base l:=by
  intro l
  induction l with
  | nil=>intro _ _;trivial
  | cons env r ih=>
   intro hs hl
   obtain ⟨hk,⟨L,o,hf,hn,ho,hd⟩,hr⟩:=hl
   have hL:L∈X.fs:=hs L (by unfold frs;rw [List.filterMap_cons,hf];exact List.mem_cons_self)
   obtain ⟨sl,e⟩:=I.base.slot L o ho (I.ok.frf L hL) hL fun z=>I.ok.exfs L z hL
   exact ⟨hk,⟨L,_,hf,hn,e,hd⟩,ih (fun b hb=>hs b (by unfold frs;rw [List.filterMap_cons,hf];exact List.mem_cons_of_mem _ hb)) hr⟩
 exact all X.outer (fun _ hb=>hb) I.ok.funs
theorem Inv.stack (I:Inv X pins σ H s):s.heap.FunFrames X.base X.stack:=by
 rcases I.ok.stk with e|⟨e,hf⟩
 ·rw [e];exact I.funs
 ·rw [e]
  obtain ⟨m,hn,_⟩:=I.loc
  refine .cons (by rw [I.ok.kind];decide) hf hn ?_ I.funs
  exact Heap.get?_none_of_le (Nat.le_trans I.ok.bsz I.ok.above)
theorem Inv.stkSub (I:Inv X pins σ H s):∀ b∈frs X.stack,b∈X.env.locals::X.fs:=fun b hb=>by
 rcases I.ok.stk with e|⟨e,hf⟩
 ·rw [e] at hb;exact List.mem_cons_of_mem _ hb
 ·rw [e] at hb
  unfold frs at hb
  rw [List.filterMap_cons,hf] at hb
  exact hb
theorem Inv.stkFree (I:Inv X pins σ H s):∀ b∈frs X.stack,H b=none:=fun b hb=>by
 rcases List.mem_cons.mp (I.stkSub b hb) with e|hb
 ·rw [e];exact I.free
 ·obtain ⟨_,o,ho,_⟩:=I.ok.funs.mem hb
  exact I.base.free b o ho (I.ok.frf b hb) fun z=>I.ok.exfs b z hb
theorem Inv.step {g':Array GenState}{t':Nat}{d':Drawn}{ch:List Addr}(I:Inv X pins σ H s)
  (hch:∀ b∈ch,(b∈X.ex∨X.s₀.heap.objs.size≤b)∧b ≠ X.env.locals∧(∀ x c,X.env.cells.lookup x=some c->c ≠ b)∧∀ p∈X.pn++pins,p.1 ≠ b)
  (keep:∀ b o,b ≠ X.env.locals->b ∉ X.fs->b ∉ ch->s.heap.get? b=some o->H b=none->h'.get? b=some o)
  (slot:∀ b o,b ≠ X.env.locals->b∈X.fs->b ∉ ch->s.heap.get? b=some o->H b=none->∃ sl,h'.get? b=some { o with slots:=sl }) (free:∀ b o,b ∉ ch->s.heap.get? b=some o->H b=none->H' b=none)
  (there:∀ b o,b ∉ ch->s.heap.get? b=some o->∃ o',h'.get? b=some o')
  (tups:∀ b xs,H b=some (.tup xs)->H' b=some (.tup xs)) (frzs:∀ b o u,H b=some (.frz o u)->H' b=some (.frz o u)) (tbls:∀ b ps,H b=some (.tbl ps)->∃ more,H' b=some (.tbl (ps++more)))
  (ns:∀ m,s.heap.Ns X.env.locals m->h'.Ns X.env.locals m) (hok:HOk X.prog X.w H' h') (hg:AllBare g') :
  Inv X pins σ H' { s with heap:=h',gens:=g',drawn:=d',toks:=t' }:=by
 have neL:∀ b o,X.s₀.heap.get? b=some o->b ≠ X.env.locals:=fun b o e=>Nat.ne_of_lt (Nat.lt_of_lt_of_le (Heap.lt_size e) I.ok.above)
 have neC:∀ b o,X.s₀.heap.get? b=some o->b ∉ X.ex->b ∉ ch:=fun b o e hx hb=>by
  rcases (hch b hb).1 with z|z
  ·exact hx z
  ·exact absurd (Nat.lt_of_lt_of_le (Heap.lt_size e) z) (Nat.lt_irrefl _)
 have cellK:∀ x c,X.env.cells.lookup x=some c->∀ v,s.heap.IsCell c v->h'.IsCell c v:=fun x c e v ⟨o,ho,hd⟩=>by
  have nch:c ∉ ch:=fun z=>(hch c z).2.2.1 x c e rfl
  by_cases hc:c∈X.fs
  ·obtain ⟨sl,q⟩:=slot c o (I.cne x c e) hc nch ho (I.freeC x c e)
   exact ⟨_,q,hd⟩
  ·exact ⟨o,keep c o (I.cne x c e) hc nch ho (I.freeC x c e),hd⟩
 refine ⟨I.ok,I.os,hg,⟨fun b o e n hb hx=>?_,fun b o e n hb hx=>?_,fun b o e n hx=>?_,fun b o e hx=>?_,fun b xs e=>tups b xs (I.base.tups b xs e),fun b o xs e=>frzs b o xs (I.base.frzs b o xs e),fun b ps e=>?_⟩,?_,fun x c e=>?_,?_,fun x c e=>?_,fun p hp=>?_,hok,I.len⟩
 ·exact keep b o (neL b o e) hb (neC b o e hx) (I.base.keep b o e n hb hx) (I.base.free b o e n hx)
 ·obtain ⟨sl,e1⟩:=I.base.slot b o e n hb hx
  obtain ⟨sl',e2⟩:=slot b _ (neL b o e) hb (neC b o e hx) e1 (I.base.free b o e n hx)
  exact ⟨sl',e2⟩
 ·obtain ⟨o',e1⟩:=I.base.there b o e hx
  exact free b o' (neC b o e hx) e1 (I.base.free b o e n hx)
 ·obtain ⟨o',e1⟩:=I.base.there b o e hx
  exact there b o' (neC b o e hx) e1
 ·obtain ⟨m1,e1⟩:=I.base.tbls b ps e
  obtain ⟨m2,e2⟩:=tbls b _ e1
  exact ⟨m1++m2,by rw [e2,Array.append_assoc]⟩
 ·obtain ⟨m,hn,hl⟩:=I.loc
  refine ⟨m,ns m hn,fun i x v e1 e2 e3=>?_⟩
  obtain ⟨u,r,l⟩:=hl i x v e1 e2 e3
  refine ⟨u,r,?_⟩
  rcases l with l|⟨k,c,e,z⟩
  ·exact .inl l
  ·exact .inr ⟨k,c,e,cellK x c e _ z⟩
 ·obtain ⟨v,z⟩:=I.cell x c e
  exact ⟨v,cellK x c e v z⟩
 ·obtain ⟨m,⟨o,_,_,ho,_⟩,_⟩:=I.loc
  exact free _ o (fun z=>(hch _ z).2.1 rfl) ho I.free
 ·obtain ⟨v,o,ho,hd⟩:=I.cell x c e
  exact free c o (fun z=>(hch c z).2.2.1 x c e rfl) ho (I.freeC x c e)
 ·obtain ⟨e,n,ne,nf,d⟩:=I.pin p hp
  have nch:p.1 ∉ ch:=fun z=>(hch p.1 z).2.2.2 p hp rfl
  exact ⟨keep p.1 p.2 ne nf nch e n,free p.1 p.2 nch e n,ne,nf,d⟩
theorem Inv.un {t':Nat}(I:Inv X pins σ H s) (u:Un X.fs [] H H' s.heap h') (hok:HOk X.prog X.w H' h'):Inv X pins σ H' { s with heap:=h',toks:=t' }:=by
 obtain ⟨m,⟨o,es,ep,ho,r⟩,_⟩:=id I.loc
 obtain ⟨sl,hL⟩:=u.any ho I.free (by simp)
 exact I.step (g':=s.gens) (d':=s.drawn) (ch:=[]) (fun _ z=>nomatch z) (fun b o _ hb _ e n=>u.keep b o e n hb (by simp)) (fun b o _ hb _ e n=>u.slot b o e n hb (by simp)) (fun b o _ e n=>u.free b o e n (by simp)) (fun b o _ e=>u.there b o e (by simp)) u.tups u.frzs u.tbls (fun m' hm=>by
  obtain ⟨o',es',ep',ho',r'⟩:=hm
  rw [ho] at ho';cases ho'
  exact ⟨_,es',ep',hL,r'⟩) hok I.bare
theorem Inv.call {g':Array GenState}{t':Nat}{d':Drawn}{ch:List Addr}(I:Inv X pins σ H s) (u:Un (frs X.stack) ch H H' s.heap h') (hok:HOk X.prog X.w H' h') (hg:AllBare g')
  (hch:∀ b∈ch,(b∈X.ex∨X.s₀.heap.objs.size≤b)∧b ≠ X.env.locals∧(∀ x c,X.env.cells.lookup x=some c->c ≠ b)∧∀ p∈X.pn++pins,p.1 ≠ b) :
  Inv X pins σ H' { s with heap:=h',gens:=g',drawn:=d',toks:=t' }:=by
 obtain ⟨m,⟨o,es,ep,ho,r⟩,_⟩:=id I.loc
 obtain ⟨sl,hL⟩:=u.any ho I.free fun z=>(hch _ z).2.1 rfl
 exact I.step (ch:=ch) hch (fun b o hL hb hc e n=>u.keep b o e n (fun z=>(List.mem_cons.mp (I.stkSub b z)).elim hL hb) hc) (fun b o _ _ hc e n=>u.any e n hc) (fun b o hc e n=>u.free b o e n hc) (fun b o hc e=>u.there b o e hc) u.tups u.frzs u.tbls (fun m' hm=>by
  obtain ⟨o',es',ep',ho',r'⟩:=hm
  rw [ho] at ho';cases ho'
  exact ⟨_,es',ep',hL,r'⟩) hok hg
theorem Inv.turned {t':Nat}{it:Addr}(I:Inv X pins σ H s) (k:∀ b o,b ≠ it->s.heap.get? b=some o->h'.get? b=some o) (hn:H it=none) (hL:it ≠ X.env.locals)
  (h1:it∈X.ex∨X.s₀.heap.objs.size≤it) (h2:∀ x c,X.env.cells.lookup x=some c->c ≠ it) (h3:∀ p∈X.pn++pins,p.1 ≠ it):Inv X pins σ H { s with heap:=h',toks:=t' }:=by
 have nit:∀ b u,H b=some u->b ≠ it:=fun b u e z=>by rw [z,hn] at e;cases e
 refine I.step (g':=s.gens) (d':=s.drawn) (ch:=[it]) (fun b hb=>?_) (fun b o _ _ hc e _=>k b o (fun z=>hc (by simp [z])) e) (fun b o _ _ hc e _=>⟨o.slots,k b o (fun z=>hc (by simp [z])) e⟩) (fun _ _ _ _ n=>n)
  (fun b o hc e=>⟨o,k b o (fun z=>hc (by simp [z])) e⟩) (fun _ _ e=>e) (fun _ _ _ e=>e) (fun b ps e=>⟨#[],by rw [e];simp⟩) (fun m hm=>?_) (fun b u e=>?_) I.bare
 ·have e:b=it:=by simpa using hb
  subst e
  exact ⟨h1,hL,h2,h3⟩
 ·obtain ⟨o,es,ep,ho,r⟩:=hm
  exact ⟨o,es,ep,k _ o (Ne.symm hL) ho,r⟩
 ·refine (I.hok b u e).stay (fun c v hc q=>k c v ?_ q) (fun _ q=>q) fun _ _ q=>q
  rcases hc with z|z
  ·rw [z];exact nit b u e
  ·exact nit c _ z
theorem Inv.tok (I:Inv X pins σ H s) (t:Nat):Inv X pins σ H { s with toks:=t }:=I.un (h':=s.heap) (t':=t) Un.refl I.hok
theorem Inv.kept {t':Nat}(I:Inv X pins σ H s) (k:∀ b u,s.heap.get? b=some u->h'.get? b=some u):Inv X pins σ H { s with heap:=h',toks:=t' }:=I.un (Un.kept k) (I.hok.kept k)
theorem Inv.laid {a:Addr}{o:HO}{t':Nat}(I:Inv X pins σ H s) (k:∀ b u,s.heap.get? b=some u->h'.get? b=some u) (hp:s.heap.objs.size≤a) (new:ObjOk X.prog X.w (upd H a o) h' a o) :
  Inv X pins σ (upd H a o) { s with heap:=h',toks:=t' }:=I.un (Un.laid k hp (I.hok.fresh hp)) (I.hok.laid k hp new)
theorem Inv.write {x e:Addr}{o:HO}{t':Nat}(I:Inv X pins σ H s) (mu:Mut (H x)) (he:e=x∨H e=some (.own x)) (k:∀ b u,b ≠ e->s.heap.get? b=some u->h'.get? b=some u) (heo:∃ u,h'.get? e=some u)
  (new:ObjOk X.prog X.w (upd H x o) h' x o):Inv X pins σ (upd H x o) { s with heap:=h',toks:=t' }:=I.un (Un.write mu he k heo) (I.hok.write mu he k heo new)
theorem Inv.weak {σ':List (Option V)}(I:Inv X pins σ H s) (hl:σ'.length=σ.length) (w:∀ (i:Nat) v,σ'[i]? = some (some v)->σ[i]? = some (some v)):Inv X pins σ' H s:=
 ⟨I.ok,I.os,I.bare,I.base,let ⟨m,hn,hl'⟩:=I.loc;⟨m,hn,fun i x v e1 e2 e3=>hl' i x v e1 (w i v e2) e3⟩,I.cell,I.free,I.freeC,I.pin,I.hok,hl.trans I.len⟩
theorem Inv.pins_of {pins':List (Addr × Obj)}(I:Inv X pins σ H s) (h:∀ p∈pins',s.heap.get? p.1=some p.2∧H p.1=none∧p.1 ≠ X.env.locals∧p.1 ∉ X.fs∧∀ v,p.2.data ≠ .cell v):Inv X pins' σ H s:=
 ⟨I.ok,I.os,I.bare,I.base,I.loc,I.cell,I.free,I.freeC,fun p hp=>(List.mem_append.mp hp).elim (fun z=>I.pin p (List.mem_append_left _ z)) (h p),I.hok,I.len⟩
theorem nodup_ix {N:List Str}(hN:N.Nodup){i j:Nat}{x:Str}(a:N[i]? = some x) (b:N[j]? = some x):i=j:=by
 obtain ⟨h1,e1⟩:=List.getElem?_eq_some_iff.mp a
 obtain ⟨h2,e2⟩:=List.getElem?_eq_some_iff.mp b
 exact (List.getElem_inj hN).mp (e1.trans e2.symm)
theorem store_ok2 {M:Model}{A:Around}{E:Value->Shared->Prop}{i:Nat}{x:Str}{v:V}{u:Value}{Q:Unit->Shared->Prop}(I:Inv X pins σ H s) (hN:X.N.Nodup) (hi:X.N[i]? = some x) (hx:Loc X.env.scope x) (r:RelV v u)
  (h:∀ s',Inv X pins (σ.set i (some v)) H s'->(∃ a,Heap.SameBut a s.heap s'.heap∧(a=X.env.locals∨X.env.cells.lookup x=some a))->Q () s') (hf:X.fn x=true∨X.env.scope.names.lookup x=some .local:=by first|exact .inl rfl|exact .inr rfl|assumption):wpAny M A (storeName X.env x u) Q E s:=by
 obtain ⟨m,hn,hl⟩:=id I.loc
 have hcls:(X.env.scope.kind == .class || (X.env.scope.kind == .module && X.env.locals != X.env.globals))=false:=by rw [I.ok.kind];rfl
 have hiσ:i < σ.length:=by rw [I.len];exact (List.getElem?_eq_some_iff.mp hi).1
 have cne:=I.cne
 have tracked:∀ {a:Addr} {h':Heap},(∃ o,s.heap.get? a=some o∧H a=none)->Heap.SameBut a s.heap h'->HOk X.prog X.w H h':=fun {a h'} ha hs b ob e=>by
  obtain ⟨_,_,hfree⟩:=ha
  refine (I.hok b ob e).stay (fun c w' hc q=>(hs.2 c ?_).trans q) (fun _ q=>q) fun _ _ q=>q
  rintro rfl
  rcases hc with rfl|hc
  ·rw [hfree] at e;cases e
  ·rw [hfree] at hc;cases hc
 rcases hx with hk|hk
 ·refine wpAny_storeName_local hk hn (fun h' hn' hs=>?_) hcls
  obtain ⟨oL,_,_,hoL,_⟩:=id hn
  refine h _ ⟨I.ok,I.os,I.bare,⟨fun b o e n hb hx=>?_,fun b o e n hb hx=>?_,I.base.free,fun b o e hx=>?_,I.base.tups,I.base.frzs,I.base.tbls⟩,⟨_,hn',fun j y v' e1 e2 e3=>?_⟩,fun y c e=>?_,I.free,I.freeC,fun p hp=>?_,tracked ⟨oL,hoL,I.free⟩ hs,by simpa using I.len⟩ ⟨_,hs,.inl rfl⟩
  ·exact (hs.2 b (Nat.ne_of_lt (Nat.lt_of_lt_of_le (Heap.lt_size e) I.ok.above))).trans (I.base.keep b o e n hb hx)
  ·obtain ⟨sl,e1⟩:=I.base.slot b o e n hb hx
   exact ⟨sl,(hs.2 b (Nat.ne_of_lt (Nat.lt_of_lt_of_le (Heap.lt_size e) I.ok.above))).trans e1⟩
  ·obtain ⟨o',e1⟩:=I.base.there b o e hx
   exact ⟨o',(hs.2 b (Nat.ne_of_lt (Nat.lt_of_lt_of_le (Heap.lt_size e) I.ok.above))).trans e1⟩
  ·by_cases hj:j=i
   ·subst hj
    rw [hi] at e1;cases e1
    rw [List.getElem?_set_self hiσ] at e2
    cases e2
    exact ⟨u,r,.inl ⟨hk,by simp⟩⟩
   ·rw [List.getElem?_set_ne (Ne.symm hj)] at e2
    obtain ⟨u',r',q⟩:=hl j y v' e1 e2 e3
    refine ⟨u',r',?_⟩
    rcases q with ⟨k,e⟩|⟨k,c,e,z⟩
    ·refine .inl ⟨k,?_⟩
     have:y ≠ x:=fun e=>hj (nodup_ix hN e1 (e ▸ hi))
     simp [this,e]
    ·exact .inr ⟨k,c,e,z.sameBut hs (cne y c e)⟩
  ·obtain ⟨w',z⟩:=I.cell y c e
   exact ⟨w',z.sameBut hs (cne y c e)⟩
  ·obtain ⟨e,n,ne,nf,d⟩:=I.pin p hp
   exact ⟨(hs.2 p.1 ne).trans e,n,ne,nf,d⟩
 ·have hfn:X.fn x=true:=by
   rcases hf with z|z
   ·exact z
   ·rw [z] at hk;cases hk
  obtain ⟨c,hc⟩:=I.ok.has x (.inl hk)
  obtain ⟨w',z⟩:=I.cell x c hc
  refine wpAny_storeName_cell I.ok.kind hk hc z (fun h' hc' hs=>?_)
  obtain ⟨oc,hoc,hocd⟩:=id z
  refine h { s with heap:=h' } ⟨I.ok,I.os,I.bare,⟨fun b o e n hb hx=>?_,fun b o e n hb hx=>?_,I.base.free,fun b o e hx=>?_,I.base.tups,I.base.frzs,I.base.tbls⟩,⟨m,hn.sameBut hs (Ne.symm (cne x c hc)),fun j y v' e1 e2 e3=>?_⟩,fun y c' e=>?_,I.free,I.freeC,fun p hp=>?_,tracked ⟨oc,hoc,I.freeC x c hc⟩ hs,by simpa using I.len⟩ ⟨c,hs,.inr hc⟩
  ·exact (hs.2 b (Nat.ne_of_lt (Nat.lt_of_lt_of_le (Heap.lt_size e) (I.ok.cab x c hfn hc)))).trans (I.base.keep b o e n hb hx)
  ·obtain ⟨sl,e1⟩:=I.base.slot b o e n hb hx
   exact ⟨sl,(hs.2 b (Nat.ne_of_lt (Nat.lt_of_lt_of_le (Heap.lt_size e) (I.ok.cab x c hfn hc)))).trans e1⟩
  ·obtain ⟨o',e1⟩:=I.base.there b o e hx
   exact ⟨o',(hs.2 b (Nat.ne_of_lt (Nat.lt_of_lt_of_le (Heap.lt_size e) (I.ok.cab x c hfn hc)))).trans e1⟩
  ·by_cases hj:j=i
   ·subst hj
    rw [hi] at e1;cases e1
    rw [List.getElem?_set_self hiσ] at e2
    cases e2
    exact ⟨u,r,.inr ⟨.inl hk,c,hc,hc'⟩⟩
   ·rw [List.getElem?_set_ne (Ne.symm hj)] at e2
    obtain ⟨u',r',q⟩:=hl j y v' e1 e2 e3
    refine ⟨u',r',?_⟩
    rcases q with q|⟨k,c',e,z'⟩
    ·exact .inl q
    ·refine .inr ⟨k,c',e,z'.sameBut hs ?_⟩
     rintro rfl
     exact hj (nodup_ix hN e1 (I.ok.inj _ _ _ e hc ▸ hi))
  ·by_cases hcc:c'=c
   ·subst hcc;exact ⟨_,hc'⟩
   ·obtain ⟨w2,z2⟩:=I.cell y c' e
    exact ⟨w2,z2.sameBut hs hcc⟩
  ·obtain ⟨e,n,ne,nf,d⟩:=I.pin p hp
   refine ⟨(hs.2 p.1 ?_).trans e,n,ne,nf,d⟩
   intro q
   rw [q,hoc] at e
   have q':oc=p.2:=Option.some.inj e
   exact d w' (by rw [←q'];exact hocd)
theorem store_ok {M:Model}{A:Around}{E:Value->Shared->Prop}{i:Nat}{x:Str}{v:V}{u:Value}{Q:Unit->Shared->Prop}(I:Inv X pins σ H s) (hN:X.N.Nodup) (hi:X.N[i]? = some x) (hx:Loc X.env.scope x) (r:RelV v u)
  (h:∀ s',Inv X pins (σ.set i (some v)) H s'->Q () s') (hf:X.fn x=true∨X.env.scope.names.lookup x=some .local:=by first|exact .inl rfl|exact .inr rfl|assumption):wpAny M A (storeName X.env x u) Q E s:=
 store_ok2 I hN hi hx r (fun s' I' _=>h s' I') hf
theorem Inv.call' {s':Shared}{ch:List Addr}(I:Inv X pins σ H s) (ho:s'.os=s.os) (u:Un (frs X.stack) ch H H' s.heap s'.heap) (hok:HOk X.prog X.w H' s'.heap) (hg:AllBare s'.gens)
  (hch:∀ b∈ch,(b∈X.ex∨X.s₀.heap.objs.size≤b)∧b ≠ X.env.locals∧(∀ x c,X.env.cells.lookup x=some c->c ≠ b)∧∀ p∈X.pn++pins,p.1 ≠ b):Inv X pins σ H' s':=by
 obtain ⟨h',g',d',t',o'⟩:=s'
 have e:o'=s.os:=ho
 subst e
 exact I.call (g':=g') (t':=t') (d':=d') u hok hg hch
end
abbrev XK:=Value->Option Addr->Hp->Prop
abbrev St:=List (Option V)
abbrev VK:=V->Hp->Prop
abbrev TE:=St->Hp->VK->Prop
abbrev TT:=St->Hp->(Bool->Hp->Prop)->Prop
abbrev TA:=St->Hp->(List V->Hp->Prop)->Prop
structure Ends where
 nx:St->Hp->Prop
 rt:VK
 bk:St->Hp->Prop:=fun _ _=>False
 ct:St->Hp->Prop:=fun _ _=>False
abbrev TS:=Ends->St->Hp->Prop
def EP (X:Cx) (pins:List (Addr × Obj)) (σ:St) (Q:VK) (u:Value) (s':Shared):Prop:=∃ v H',Inv X pins σ H' s'∧RelV v u∧Q v H'
def TP (X:Cx) (pins:List (Addr × Obj)) (σ:St) (Q:Bool->Hp->Prop) (b:Bool) (s':Shared):Prop:=∃ H',Inv X pins σ H' s'∧Q b H'
def AP (X:Cx) (pins:List (Addr × Obj)) (σ:St) (Q:List V->Hp->Prop) (us:List Value) (s':Shared):Prop:=∃ vs H',Inv X pins σ H' s'∧Vals vs us∧Q vs H'
def SP (X:Cx) (pins:List (Addr × Obj)) (D:Ends) (f:Flow) (s':Shared):Prop:=
 match f with
 | .next=>∃ σ' H',Inv X pins σ' H' s'∧D.nx σ' H'
 | .brk=>∃ σ' H',Inv X pins σ' H' s'∧D.bk σ' H'
 | .cont=>∃ σ' H',Inv X pins σ' H' s'∧D.ct σ' H'
 | .ret u=>∃ v σ' H',Inv X pins σ' H' s'∧RelV v u∧D.rt v H'
def PE (X:Cx) (e:Expr) (t:TE):Prop:=
 ∀ (pins:List (Addr × Obj)) (s:Shared) (σ:St) (H:Hp) (Q:VK),Inv X pins σ H s->t σ H Q->wpAny (model X.prog X.w) X.A (eval e X.env) (EP X pins σ Q) X.xe s
def PT (X:Cx) (e:Expr) (t:TT):Prop:=
 ∀ (pins:List (Addr × Obj)) (s:Shared) (σ:St) (H:Hp) (Q:Bool->Hp->Prop),Inv X pins σ H s->t σ H Q->wpAny (model X.prog X.w) X.A (isTrue e X.env (eval e X.env)) (TP X pins σ Q) X.xe s
def PW (X:Cx) (e:Expr) (t:TT):Prop:=
 ∀ (whole:Sem Value) (pins:List (Addr × Obj)) (s:Shared) (σ:St) (H:Hp) (Q:Bool->Hp->Prop),Inv X pins σ H s->t σ H Q->wpAny (model X.prog X.w) X.A (isTrue e X.env whole) (TP X pins σ Q) X.xe s
theorem PW.pt {X:Cx}{e:Expr}{t:TT}(h:PW X e t):PT X e t:=h _
def PA (X:Cx) (es:List Expr) (t:TA):Prop:=
 ∀ (pos:Pos) (pins:List (Addr × Obj)) (s:Shared) (σ:St) (H:Hp) (Q:List V->Hp->Prop),Inv X pins σ H s->t σ H Q->wpAny (model X.prog X.w) X.A (spliced (backTo pos (starEach es X.env))) (AP X pins σ Q) X.xe s
def PS (X:Cx) (st:Stmt) (t:TS):Prop:=
 ∀ (pins:List (Addr × Obj)) (s:Shared) (σ:St) (H:Hp) (D:Ends),Inv X pins σ H s->t D σ H->wpAny (model X.prog X.w) X.A (exec st X.env) (SP X pins D) X.xe s
def PSs (X:Cx) (st:List Stmt) (t:TS):Prop:=
 ∀ (pins:List (Addr × Obj)) (s:Shared) (σ:St) (H:Hp) (D:Ends),Inv X pins σ H s->t D σ H->wpAny (model X.prog X.w) X.A (execs st X.env) (SP X pins D) X.xe s
theorem thn {α:Type}{t:Sem α}{Q Q':α->Shared->Prop}{M:Model}{A:Around}{E:Value->Shared->Prop}{s:Shared}(h:wpAny M A t Q E s) (hQ:∀ a s,Q a s->Q' a s):wpAny M A t Q' E s:=wpAny_mono h hQ fun _ _ x=>x
end L2
namespace L2
open PySem PySem.Spec PyProof.Rows
section
variable {X:Cx}
def tVar (i:Nat):TE:=fun σ H Q=>∃ v,σ[i]? = some (some v)∧Q v H
def tC (v:V):TE:=fun _ H Q=>Q v H
theorem pe_var {i:Nat}{x:Str}{pos:Pos}(hN:X.N[i]? = some x) (hv:Vis X.env.scope x) (hd:(x == ("__debug__":Str))=false:=by decide) (hcd:(x == ("__classdict__":Str))=false:=by decide):PE X (.Name x pos) (tVar i):=by
 intro pins s σ H Q I h
 obtain ⟨v,e,h⟩:=h
 obtain ⟨m,hn,hl⟩:=I.loc
 obtain ⟨u,r,l⟩:=hl i x v hN e hv
 have fin:EP X pins σ Q u s:=⟨v,H,I,r,h⟩
 rcases l with ⟨hk,hm⟩|⟨hk,c,hc,hcell⟩
 ·exact wpAny_Name (wpAny_loadName_local I.ok.kind hk hn hm fin) hd
 ·rcases hk with hk|hk
  ·exact wpAny_Name (wpAny_loadName_cell I.ok.kind hk hc hcell fin) hd
  ·exact wpAny_Name (wpAny_loadName_free I.ok.kind hk hc hcell fin hcd) hd
theorem pe_int {i j pos}:PE X (.Constant (.int i) j pos) (tC (.int i)):=fun _ _ _ H _ I h=>wpAny_Constant_int ⟨.int i,H,I.tok _,⟨_,rfl⟩,h⟩
theorem pe_bl {b j pos}:PE X (.Constant (.bool b) j pos) (tC (.bl b)):=fun _ _ _ H _ I h=>Constant_bool ⟨.bl b,H,I,rfl,h⟩
theorem pe_non {j pos}:PE X (.Constant .none j pos) (tC .non):=fun _ _ _ H _ I h=>Constant_none ⟨.non,H,I,rfl,h⟩
theorem pe_str {x j pos}:PE X (.Constant (.str x) j pos) (tC (.str x)):=fun _ _ _ H _ I h=>Calls.Constant_str ⟨.str x,H,I.tok _,⟨_,rfl⟩,h⟩
def Gl (X:Cx) (x:Str):Prop:=X.env.kindOf x=some .globalImplicit
theorem ld_glob {E:Value->Shared->Prop}{pins:List (Addr × Obj)}{s:Shared}{σ:St}{H:Hp}{x:Str}{u:Value}{pos:Pos}{Q:Value->Shared->Prop}(I:Inv X pins σ H s) (hg:Gl X x) (hm:X.mg x=some u) (h:Q u s)
  (hd:(x == ("__debug__":Str))=false:=by decide):wpAny (model X.prog X.w) X.A (eval (.Name x pos) X.env) Q E s:=
 Calls.Name_function_global I.ok.kind hg (Calls.loadGlobal_global (by rw [I.ok.glob];exact I.mod.glob.keeps I.bk) hm h) hd
theorem ld_blt {E:Value->Shared->Prop}{pins:List (Addr × Obj)}{s:Shared}{σ:St}{H:Hp}{x:Str}{u:Value}{pos:Pos}{Q:Value->Shared->Prop}(I:Inv X pins σ H s) (hg:Gl X x) (hm:X.mg x=none) (hv:bootBuiltins x=some u) (h:Q u s)
  (hn:x ≠ "__name__":=by decide) (hd:(x == ("__debug__":Str))=false:=by decide):wpAny (model X.prog X.w) X.A (eval (.Name x pos) X.env) Q E s:=by
 obtain ⟨mb,h1,h2⟩:=I.mod.blt
 exact Calls.Name_function_global I.ok.kind hg (Calls.loadGlobal_builtin (by rw [I.ok.glob];exact I.mod.glob.keeps I.bk) hm (by rw [I.ok.blt];exact h1.keeps I.bk) ((h2 x hn).trans hv) h) hd
theorem pe_glob {x:Str}{v:V}{u:Value}{pos:Pos}(hg:Gl X x) (hm:X.mg x=some u) (r:RelV v u) (hd:(x == ("__debug__":Str))=false:=by decide):PE X (.Name x pos) (tC v):=
 fun _ _ _ H _ I h=>ld_glob I hg hm ⟨v,H,I,r,h⟩ hd
theorem pe_bltn {x:Str}{v:V}{u:Value}{pos:Pos}(hg:Gl X x) (hm:X.mg x=none) (hv:bootBuiltins x=some u) (r:RelV v u) (hn:x ≠ "__name__":=by decide) (hd:(x == ("__debug__":Str))=false:=by decide):PE X (.Name x pos) (tC v):=
 fun _ _ _ H _ I h=>ld_blt I hg hm hv ⟨v,H,I,r,h⟩ hn hd
variable {a b:Expr}{ta tb:TE}{pos:Pos}
def tB (t:TE):TT:=fun σ H Q=>t σ H fun x H1=>∃ c,x=.bl c∧Q c H1
theorem pt_val {e:Expr}{t:TE}(h:PE X e t) (he:∀ whole,isTrue e X.env whole=(do let v ←whole;standAt e.pos;holding [v] (truthy v)):=by intro _;rfl):PT X e (tB t):=by
 intro pins s σ H Q I hw
 refine isTrue_plain (thn (h pins s σ H _ I hw) fun v s1 ⟨x,H1,I1,r1,q1⟩=>?_) (he _)
 obtain ⟨d,rfl,q⟩:=q1
 cases r1
 exact wpAny_truthy_bool ⟨H1,I1,q⟩
variable {tA tB':TT}{rest:List Expr}
def tAnd (t u:TT):TT:=fun σ H Q=>t σ H fun c H1=>if c=true then u σ H1 Q else Q false H1
def tOr (t u:TT):TT:=fun σ H Q=>t σ H fun c H1=>if c=true then Q true H1 else u σ H1 Q
def tNot (t:TT):TT:=fun σ H Q=>t σ H fun c H1=>Q (!c) H1
theorem pw_and1 (ha:PT X a tA):PW X (.BoolOp .And [a] pos) tA:=by
 intro wh pins s σ H Q I h
 refine isTrue_and (thn (ha pins s σ H Q I h) fun c s1 e=>?_)
 cases c with
 | true=>exact isTrue_and_nil e
 | false=>exact e
theorem pw_or1 (ha:PT X a tA):PW X (.BoolOp .Or [a] pos) tA:=by
 intro wh pins s σ H Q I h
 refine isTrue_or (thn (ha pins s σ H Q I h) fun c s1 e=>?_)
 cases c with
 | false=>exact isTrue_or_nil e
 | true=>exact e
theorem pw_and (ha:PT X a tA) (hb:PW X (.BoolOp .And (b::rest) pos) tB'):PW X (.BoolOp .And (a::b::rest) pos) (tAnd tA tB'):=by
 intro wh pins s σ H Q I h
 refine isTrue_and (thn (ha pins s σ H _ I h) fun c s1 ⟨H1,I1,q1⟩=>?_)
 cases c with
 | true=>exact hb wh pins s1 σ H1 Q I1 q1
 | false=>exact ⟨H1,I1,q1⟩
theorem pw_or (ha:PT X a tA) (hb:PW X (.BoolOp .Or (b::rest) pos) tB'):PW X (.BoolOp .Or (a::b::rest) pos) (tOr tA tB'):=by
 intro wh pins s σ H Q I h
 refine isTrue_or (thn (ha pins s σ H _ I h) fun c s1 ⟨H1,I1,q1⟩=>?_)
 cases c with
 | true=>exact ⟨H1,I1,q1⟩
 | false=>exact hb wh pins s1 σ H1 Q I1 q1
theorem pt_not (ha:PT X a tA):PT X (.UnaryOp .Not a pos) (tNot tA):=by
 intro pins s σ H Q I h
 exact isTrue_not (ha pins s σ H (fun c H1=>Q (!c) H1) I h)
def tAndV (ta tb:TE):TE:=fun σ H Q=>ta σ H fun x H1=>∃ c,x=.bl c∧if c=true then tb σ H1 Q else Q (.bl false) H1
def tOrV (ta tb:TE):TE:=fun σ H Q=>ta σ H fun x H1=>∃ c,x=.bl c∧if c=true then Q (.bl true) H1 else tb σ H1 Q
def tNotV (ta:TE):TE:=fun σ H Q=>ta σ H fun x H1=>∃ c,x=.bl c∧Q (.bl (!c)) H1
theorem pe_one {op}{t:TE}(h:PE X a t):PE X (.BoolOp op [a] pos) t:=fun pins s σ H Q I hw=>BoolOp_one (h pins s σ H Q I hw)
theorem pe_and (ha:PE X a ta) (hb:PE X (.BoolOp .And (b::rest) pos) tb):PE X (.BoolOp .And (a::b::rest) pos) (tAndV ta tb):=by
 intro pins s σ H Q I h
 refine BoolOp_and (thn (ha pins s σ H _ I h) fun v s1 ⟨x,H1,I1,r1,q1⟩=>?_)
 obtain ⟨c,rfl,q1⟩:=q1
 cases r1
 refine wpAny_truthy_bool ?_
 cases c with
 | true=>exact hb pins s1 σ H1 Q I1 q1
 | false=>exact ⟨.bl false,H1,I1,rfl,q1⟩
theorem pe_or (ha:PE X a ta) (hb:PE X (.BoolOp .Or (b::rest) pos) tb):PE X (.BoolOp .Or (a::b::rest) pos) (tOrV ta tb):=by
 intro pins s σ H Q I h
 refine BoolOp_or (thn (ha pins s σ H _ I h) fun v s1 ⟨x,H1,I1,r1,q1⟩=>?_)
 obtain ⟨c,rfl,q1⟩:=q1
 cases r1
 refine wpAny_truthy_bool ?_
 cases c with
 | false=>exact hb pins s1 σ H1 Q I1 q1
 | true=>exact ⟨.bl true,H1,I1,rfl,q1⟩
theorem pe_not (ha:PE X a ta):PE X (.UnaryOp .Not a pos) (tNotV ta):=by
 intro pins s σ H Q I h
 refine UnaryOp_ (thn (ha pins s σ H _ I h) fun v s1 ⟨x,H1,I1,r1,q1⟩=>?_)
 obtain ⟨c,rfl,q1⟩:=q1
 cases r1
 exact not_of (wpAny_truthy_bool ⟨.bl (!c),H1,I1,rfl,q1⟩)
def tIf (t:TT) (ta tb:TE):TE:=fun σ H Q=>t σ H fun c H1=>if c=true then ta σ H1 Q else tb σ H1 Q
theorem pe_ifExp {c:Expr}(hc:PT X c tA) (ha:PE X a ta) (hb:PE X b tb):PE X (.IfExp c a b pos) (tIf tA ta tb):=by
 intro pins s σ H Q I h
 refine wpAny_IfExp (thn (hc pins s σ H _ I h) fun d s1 ⟨H1,I1,q1⟩=>?_)
 cases d with
 | true=>exact ha pins s1 σ H1 Q I1 q1
 | false=>exact hb pins s1 σ H1 Q I1 q1
end
end L2
namespace L2
open PySem PySem.Spec PyProof.Rows
def SqL (K:PySem.W.Frag) (H:Hp) (a:Addr) (xs:List V):Prop:=
 Rd H a (.lst xs) ∨
  ∃ (o:Obj) (its:Array Value) (n:Nat),K.lookup a=some o∧o.cls=.type "list" ∧ o.dict=none∧o.data=.seq its n∧its.size≤sizeLine∧Vals xs its.toList
def SqT (K:PySem.W.Frag) (H:Hp) (a:Addr) (xs:List V):Prop:=
 Rd H a (.tup xs) ∨
  ∃ (o:Obj) (its:Array Value) (n:Nat),K.lookup a=some o∧o.cls=.type "tuple" ∧ o.data=.seq its n∧its.size≤sizeLine∧Vals xs its.toList
def absV:Value->Option V
 | .none=>some .non
 | .bool b=>some (.bl b)
 | .int i _=>some (.int i)
 | .str x _=>some (.str x)
 | .bytes b _=>some (.byt b)
 | .float b _=>some (.flt b)
 | .ref a=>some (.ref a)
 | .type n=>some (.ty n)
 | _=>none
theorem RelV.abs {x:V}{u:Value}(r:RelV x u):absV u=some x:=by
 cases x with
 | non=>cases r;rfl
 | bl _=>cases r;rfl
 | int _=>obtain ⟨t,rfl⟩:=r;rfl
 | str _=>obtain ⟨t,rfl⟩:=r;rfl
 | byt _=>obtain ⟨t,rfl⟩:=r;rfl
 | flt _=>obtain ⟨t,rfl⟩:=r;rfl
 | ref _=>cases r;rfl
 | ty _=>cases r;rfl
theorem RelV.inj {x y:V}{u:Value}(r:RelV x u) (q:RelV y u):x=y:=Option.some.inj (r.abs.symm.trans q.abs)
theorem Vals.inj:∀ {xs ys:List V}{us:List Value},Vals xs us->Vals ys us->xs=ys
 | _,_,_,.nil,.nil=>rfl
 | _,_,_,.cons r t,.cons r' t'=>by rw [r.inj r',Vals.inj t t']
section
variable {X:Cx}{pins:List (Addr × Obj)}{σ:St}{H:Hp}{s:Shared}{a:Addr}{xs ys:List V}
theorem SqL.of {K:PySem.W.Frag}(h:H a=some (.lst xs)):SqL K H a xs:=.inl (.inl h)
theorem SqT.of {K:PySem.W.Frag}(h:H a=some (.tup xs)):SqT K H a xs:=.inl (.inl h)
theorem Inv.list (I:Inv X pins σ H s) (h:SqL X.K H a xs):∃ its:List Value,Vals xs its∧PlainL s.heap a its.toArray∧xs.length≤sizeLine:=by
 rcases h with h|⟨o,its,n,hk,hc,hd,hs,hz,r⟩
 ·obtain ⟨z,its,n,r,e⟩:=h.ok I.hok
  exact ⟨its,r,⟨_,n,e,rfl,rfl,rfl⟩,z⟩
 ·refine ⟨its.toList,r,⟨o,n,I.kIn a o hk,hc,hd,by simpa using hs⟩,?_⟩
  have e:=r.length
  simp only [Array.length_toList] at e
  omega
theorem Inv.tuple (I:Inv X pins σ H s) (h:SqT X.K H a xs):∃ its:List Value,Vals xs its∧IsTup s.heap a its.toArray∧xs.length≤sizeLine:=by
 rcases h with h|⟨o,its,n,hk,hc,hs,hz,r⟩
 ·obtain ⟨z,its,r,p⟩:=h.ok I.hok
  exact ⟨its,r,p,z⟩
 ·refine ⟨its.toList,r,⟨o,I.kIn a o hk,hc,n,by simpa using hs⟩,?_⟩
  have e:=r.length
  simp only [Array.length_toList] at e
  omega
theorem Inv.list_inj (I:Inv X pins σ H s) (h:SqL X.K H a xs) (h':SqL X.K H a ys):xs=ys:=by
 obtain ⟨its,r,⟨o,n,e,_,_,d⟩,_⟩:=I.list h
 obtain ⟨its',r',⟨o',n',e',_,_,d'⟩,_⟩:=I.list h'
 rw [e] at e';cases e'
 rw [d] at d'
 injection d' with d1 _
 have:its=its':=by simpa using congrArg Array.toList d1
 subst this
 exact r.inj r'
theorem Inv.tuple_inj (I:Inv X pins σ H s) (h:SqT X.K H a xs) (h':SqT X.K H a ys):xs=ys:=by
 obtain ⟨its,r,⟨o,e,_,n,d⟩,_⟩:=I.tuple h
 obtain ⟨its',r',⟨o',e',_,n',d'⟩,_⟩:=I.tuple h'
 rw [e] at e';cases e'
 rw [d] at d'
 injection d' with d1 _
 have:its=its':=by simpa using congrArg Array.toList d1
 subst this
 exact r.inj r'
end
abbrev Cx.wish (X:Cx) (E:Value->Shared->Prop):Cx:={ X with xe:=E }
abbrev Cx.nox (X:Cx):Cx:=X.wish fun _ _=>False
theorem Cx.Ok.wish {X:Cx}(ok:X.Ok) (E:Value->Shared->Prop):(X.wish E).Ok:=
 ⟨ok.mod,ok.kind,ok.glob,ok.blt,ok.above,ok.inj,ok.has,ok.cab,ok.hd,ok.frames,ok.stk,ok.exf,ok.bs,ok.bsz,ok.noex,ok.exfs,ok.funs,ok.frf⟩
theorem Cx.Ok.unwish {X:Cx}{E:Value->Shared->Prop}(ok:(X.wish E).Ok):X.Ok:=
 ⟨ok.mod,ok.kind,ok.glob,ok.blt,ok.above,ok.inj,ok.has,ok.cab,ok.hd,ok.frames,ok.stk,ok.exf,ok.bs,ok.bsz,ok.noex,ok.exfs,ok.funs,ok.frf⟩
section
variable {X:Cx}{pins:List (Addr × Obj)}{σ:St}{H:Hp}{s:Shared}{E:Value->Shared->Prop}
theorem Inv.wish (I:Inv X pins σ H s) (E:Value->Shared->Prop):Inv (X.wish E) pins σ H s:=⟨I.ok.wish E,I.os,I.bare,I.base,I.loc,I.cell,I.free,I.freeC,I.pin,I.hok,I.len⟩
theorem Inv.unwish (I:Inv (X.wish E) pins σ H s):Inv X pins σ H s:=⟨I.ok.unwish,I.os,I.bare,I.base,I.loc,I.cell,I.free,I.freeC,I.pin,I.hok,I.len⟩
theorem SP.unwish {D:Ends}{f:Flow}{s':Shared}(h:SP (X.wish E) pins D f s'):SP X pins D f s':=by
 cases f with
 | next=>obtain ⟨σ',H',I,q⟩:=h;exact ⟨σ',H',I.unwish,q⟩
 | brk=>obtain ⟨σ',H',I,q⟩:=h;exact ⟨σ',H',I.unwish,q⟩
 | cont=>obtain ⟨σ',H',I,q⟩:=h;exact ⟨σ',H',I.unwish,q⟩
 | ret u=>obtain ⟨v,σ',H',I,r,q⟩:=h;exact ⟨v,σ',H',I.unwish,r,q⟩
theorem PSs.nox {st:List Stmt}{t:TS}(h:PSs X.nox st t):PSs X st t:=fun pins s σ H D I hw=>
 wpAny_mono (h pins s σ H D (I.wish _) hw) (fun _ _ q=>q.unwish) fun _ _ z=>False.elim z
end
section
variable {X:Cx}{st:Stmt}{rest:List Stmt}{t u:TS}{e:Expr}{te:TE}{pos:Pos}
def tNext:TS:=fun D σ H=>D.nx σ H
def tSeq (t u:TS):TS:=fun D σ H=>t { D with nx:=u D } σ H
theorem pss_nil:PSs X [] tNext:=fun _ _ σ H _ I h=>wpAny_execs_nil ⟨σ,H,I,h⟩
theorem pss_cons (h1:PS X st t) (h2:PSs X rest u):PSs X (st::rest) (tSeq t u):=by
 intro pins s σ H D I h
 refine wpAny_execs_cons (thn (h1 pins s σ H { D with nx:=u D } I h) fun f s1 q=>?_)
 cases f with
 | next=>
  obtain ⟨σ',H',I',q⟩:=q
  exact h2 pins s1 σ' H' D I' q
 | ret v=>exact q
 | brk=>exact q
 | cont=>exact q
theorem pss_one (h1:PS X st t):PSs X [st] t:=by
 intro pins s σ H D I h
 refine wpAny_execs_cons (thn (h1 pins s σ H D I h) fun f s1 q=>?_)
 cases f with
 | next=>exact wpAny_execs_nil q
 | ret v=>exact q
 | brk=>exact q
 | cont=>exact q
theorem Inv.quiet {pins:List (Addr × Obj)}{σ:St}{H:Hp}{s:Shared}(I:Inv X pins σ H s):interactive X.env=false:=by simp [interactive,I.ok.kind]
def tDrop (te:TE):TS:=fun D σ H=>te σ H fun _ H1=>D.nx σ H1
theorem ps_expr (he:PE X e te) (hs:swapsWith e none pos.line X.env=pure false:=by rfl):PS X (.Expr e pos) (tDrop te):=by
 intro pins s σ H D I h
 exact wpAny_Expr_any (thn (he pins s σ H _ I h) fun v s1 ⟨x,H1,I1,r1,q1⟩=>⟨σ,H1,I1,q1⟩) I.quiet hs
def tRet (te:TE):TS:=fun D σ H=>te σ H D.rt
theorem ps_ret (he:PE X e te):PS X (.Return (some e) pos) (tRet te):=by
 intro pins s σ H D I h
 exact wpAny_Return_some (thn (he pins s σ H _ I h) fun v s1 ⟨x,H1,I1,r1,q1⟩=>⟨x,σ,H1,I1,r1,q1⟩)
def tIfS (c:TT) (t u:TS):TS:=fun D σ H=>c σ H fun b H1=>if b=true then t D σ H1 else u D σ H1
theorem ps_if {c:Expr}{a b:List Stmt}{tc:TT}(hc:PT X c tc) (ha:PSs X a t) (hb:PSs X b u):PS X (.If c a b pos) (tIfS tc t u):=by
 intro pins s σ H D I h
 refine wpAny_If (thn (hc pins s σ H _ I h) fun d s1 ⟨H1,I1,q1⟩=>?_)
 cases d with
 | true=>exact ha pins s1 σ H1 D I1 q1
 | false=>exact hb pins s1 σ H1 D I1 q1
def tNever:TS:=fun _ _ _=>False
theorem ps_never:PS X st tNever:=fun _ _ _ _ _ _ h=>h.elim
end
abbrev TG:=V->St->Hp->(St->Hp->Prop)->Prop
abbrev TGs:=List V->St->Hp->(St->Hp->Prop)->Prop
def PG (X:Cx) (target:Expr) (t:TG):Prop:=
 ∀ (pins:List (Addr × Obj)) (s:Shared) (σ:St) (H:Hp) (v:V) (u:Value) (Q:St->Hp->Prop),Inv X pins σ H s->RelV v u->t v σ H Q →
  wpAny (model X.prog X.w) X.A (assign target X.env u) (fun _ s'=>∃ σ' H',Inv X pins σ' H' s'∧Q σ' H') X.xe s
def PGs (X:Cx) (ts:List Expr) (t:TGs):Prop:=
 ∀ (pins:List (Addr × Obj)) (s:Shared) (σ:St) (H:Hp) (vs:List V) (us:List Value) (Q:St->Hp->Prop),Inv X pins σ H s->Vals vs us->t vs σ H Q →
  wpAny (model X.prog X.w) X.A (assignInOrder ((assignEach ts X.env).map (·.2)) us) (fun _ s'=>∃ σ' H',Inv X pins σ' H' s'∧Q σ' H') X.xe s
abbrev TSet:=V->V->V->Hp->(Hp->Prop)->Prop
def PSet (X:Cx) (t:TSet):Prop:=
 ∀ (pins:List (Addr × Obj)) (s:Shared) (σ:St) (H:Hp) (o i v:V) (ov iv u:Value) (Q:Hp->Prop),Inv X pins σ H s->RelV o ov->RelV i iv->RelV v u->t o i v H Q →
  wpAny (model X.prog X.w) X.A (setItem ov iv u) (fun _ s'=>∃ H',Inv X pins σ H' s'∧Q H') X.xe s
section
variable {X:Cx}{pos:Pos}
def gName (i:Nat):TG:=fun v σ H Q=>Q (σ.set i (some v)) H
theorem pg_name {i:Nat}{x:Str}(hN:X.N.Nodup) (hi:X.N[i]? = some x) (hx:Loc X.env.scope x) (hf:X.fn x=true∨X.env.scope.names.lookup x=some .local:=by first|exact .inl rfl|exact .inr rfl|assumption):PG X (.Name x pos) (gName i):=by
 intro pins s σ H v u Q I r h
 exact wpAny_assign_Name (store_ok I hN hi hx r (fun s' I'=>⟨_,H,I',h⟩) hf)
def gNil:TGs:=fun vs σ H Q=>vs=[]∧Q σ H
def gCons (t:TG) (u:TGs):TGs:=fun vs σ H Q=>∃ v r,vs=v::r∧t v σ H fun σ' H'=>u r σ' H' Q
theorem pgs_nil:PGs X [] gNil:=by
 intro pins s σ H vs us Q I r h
 obtain ⟨e,h⟩:=h
 subst e
 cases r
 exact assignInOrder_nil ⟨σ,H,I,h⟩
theorem pgs_cons {e:Expr}{es:List Expr}{t:TG}{u:TGs}(h1:PG X e t) (h2:PGs X es u)
  (hs:(assignEach (e::es) X.env).map (·.2)=assign e X.env::(assignEach es X.env).map (·.2):=by rfl):PGs X (e::es) (gCons t u):=by
 intro pins s σ H vs us Q I r h
 obtain ⟨v,vr,e1,h⟩:=h
 subst e1
 cases r with
 | cons r rr=>
  rw [hs]
  refine assignInOrder_cons (thn (h1 pins s σ H _ _ _ I r h) fun _ s1 ⟨σ1,H1,I1,q1⟩=>?_)
  exact h2 pins s1 σ1 H1 _ _ Q I1 rr q1
def gTup (K:PySem.W.Frag) (n:Nat) (t:TGs):TG:=fun v σ H Q=>∃ a xs,v=.ref a∧SqT K H a xs∧xs.length=n∧t xs σ H Q
theorem pg_tup {es:List Expr}{k:Nat}{t:TGs}{n:Nat}(hc:X.calm=true) (h:PGs X es t)
  (hn:(assignEach es X.env).length=n:=by rfl) (hst:(assignEach es X.env).findIdx? (·.1)=none:=by rfl):PG X (.Tuple es k pos) (gTup X.K n t):=by
 intro pins s σ H v u Q I r hw
 obtain ⟨a,xs,e1,hq,hl,hw⟩:=hw
 subst e1
 cases r
 obtain ⟨its,rv,ht,hz⟩:=I.tuple hq
 refine assign_Tuple_tuple (I.ok.hd hc) ht (by simp [hn,←hl,rv.length]) hst fun h' hx=>?_
 have I1:Inv X pins σ H { s with heap:=h' }:=I.kept (t':=s.toks) fun b o e=>hx b o (Nat.ne_of_lt (Heap.lt_size e)) e
 exact h pins _ σ H xs _ Q I1 (by simpa using rv) hw
def gSub (to ti:TE) (t:TSet):TG:=fun v σ H Q=>to σ H fun o H1=>ti σ H1 fun i H2=>t o i v H2 fun H3=>Q σ H3
theorem pg_sub {o i:Expr}{to ti:TE}{t:TSet}(ho:PE X o to) (hi:PE X i ti) (hs:PSet X t)
  (ha:∀ v,assign (.Subscript o i pos) X.env v=(do
   let ov ←holding [v] (eval o X.env)
   let iv ←holding [v,ov] (eval i X.env)
   standAt pos
   holding [v,ov,iv] (setItem ov iv v)
   release [v,ov,iv] []):=by intro _;rfl):PG X (.Subscript o i pos) (gSub to ti t):=by
 intro pins s σ H v u Q I r h
 rw [ha]
 refine wpAny_bind (wpAny_holding (thn (ho pins s σ H _ I h) fun ov s1 ⟨x,H1,I1,r1,q1⟩=>?_))
 refine wpAny_bind (wpAny_holding (thn (hi pins s1 σ H1 _ I1 q1) fun iv s2 ⟨y,H2,I2,r2,q2⟩=>?_))
 refine wpAny_bind (wpAny_standAt (wpAny_bind (wpAny_holding (thn (hs pins s2 σ H2 x y v ov iv u _ I2 r1 r2 r q2) fun _ s3 ⟨H3,I3,q3⟩=>?_))))
 exact wpAny_release ⟨σ,H3,I3,q3⟩
def tAsg (te:TE) (g:TG):TS:=fun D σ H=>te σ H fun x H1=>g x σ H1 D.nx
theorem ps_asg {tg e:Expr}{te:TE}{g:TG}(he:PE X e te) (hg:PG X tg g) (hs:swapsWithSole [tg] e pos.line X.env=pure false:=by rfl) (hw:swappedStores [tg] e X.env=pure none:=by rfl)
  (h1:(assignEach [tg] X.env).map (·.2)=[assign tg X.env]:=by rfl):PS X (.Assign [tg] e pos) (tAsg te g):=by
 intro pins s σ H D I h
 refine wpAny_Assign_stores (thn (he pins s σ H _ I h) fun v s1 ⟨x,H1,I1,r1,q1⟩=>?_) hs hw
 rw [h1]
 exact thn (hg pins s1 σ H1 x v _ I1 r1 q1) fun _ s2 q=>q
theorem ps_set {i:Nat}{x:Str}{e:Expr}{te:TE}{pos':Pos}(hN:X.N.Nodup) (hi:X.N[i]? = some x) (hx:Loc X.env.scope x) (he:PE X e te) (hs:swapsWith e (some (.Name x pos')) pos.line X.env=pure false:=by rfl) (hf:X.fn x=true∨X.env.scope.names.lookup x=some .local:=by first|exact .inl rfl|exact .inr rfl|assumption) :
  PS X (.Assign [.Name x pos'] e pos) (tAsg te (gName i)):=by
 intro pins s σ H D I h
 refine wpAny_Assign_Name (thn (he pins s σ H _ I h) fun v s1 ⟨y,H1,I1,r1,q1⟩=>?_) hs
 exact store_ok I1 hN hi hx r1 (fun s2 I2=>⟨_,H1,I2,q1⟩) hf
def tPar (i j:Nat) (ta:TA):TS:=fun D σ H=>ta σ H fun vs H1=>∃ v w,vs=[v,w]∧D.nx ((σ.set i (some v)).set j (some w)) H1
theorem ps_par {i j:Nat}{x y:Str}{a b:Expr}{ta:TA}{px py pt:Pos} {kt k2 pt2}(hc:X.calm=true) (hN:X.N.Nodup) (hi:X.N[i]? = some x) (hj:X.N[j]? = some y) (hij:i ≠ j)
  (hx:X.env.scope.names.lookup x=some .local) (hy:X.env.scope.names.lookup y=some .local) (ha:PA X [a,b] ta)
  (hw:swappedStores [.Tuple [.Name x px,.Name y py] kt pt] (.Tuple [a,b] k2 pt2) X.env=pure (some [x,y]))
  (hs:swapsWithSole [.Tuple [.Name x px,.Name y py] kt pt] (.Tuple [a,b] k2 pt2) pos.line X.env=pure false:=by rfl) :
  PS X (.Assign [.Tuple [.Name x px,.Name y py] kt pt] (.Tuple [a,b] k2 pt2) pos) (tPar i j ta):=by
 intro pins s σ H D I h
 rw [exec_Assign_arm]
 refine wpAny_bind (wpAny_standAt ?_)
 rw [hs]
 refine wpAny_bind (wpAny_pure ?_)
 rw [if_neg (by decide)]
 refine wpAny_bind (Tuple_ (thn (ha _ pins s σ H _ I h) fun us s1 ⟨vs,H1,I1,r1,q1⟩=>?_))
 obtain ⟨v,w,e1,q1⟩:=q1
 subst e1
 obtain ⟨u1,u2,rfl,rv,rw'⟩:∃ u1 u2,us=[u1,u2]∧RelV v u1∧RelV w u2:=by
  cases r1 with
  | cons p q=>
   cases q with
   | cons p' q'=>
    cases q'
    exact ⟨_,_,rfl,p,p'⟩
 refine wpAny_newObj_type ?_ (by show 2≤sizeLine;decide)
 have I2:Inv X pins σ H1 { s1 with heap:=s1.heap.push { cls:=.type "tuple",data:=.seq [u1,u2].toArray } }:=I1.kept (t':=s1.toks) fun b o e=>Heap.get?_push_of_some _ e
 rw [hw]
 refine wpAny_bind (wpAny_pure ?_)
 show wpAny (model X.prog X.w) X.A (do rule "assign.swapped-stores";let items ←unpackItems (.ref s1.heap.objs.size) 2 none;assignInOrder [fun v=>bindName X.env y v,fun v=>bindName X.env x v] items.reverse;pure Flow.next) _ _ _
 refine wpAny_bind (wpAny_rule (wpAny_bind (unpackItems_tuple (items:=#[u1,u2]) (I.ok.hd hc) (IsTup.new s1.heap _) fun h' hx'=>?_)))
 have I3:=I2.kept (h':=h') (t':=s1.toks) fun b o e=>hx' b o (Nat.ne_of_lt (Heap.lt_size e)) e
 show wpAny _ _ (assignInOrder [fun v=>bindName X.env y v,fun v=>bindName X.env x v] [u2,u1] >>= fun _=>pure Flow.next) _ _ _
 refine wpAny_bind (assignInOrder_cons (wpAny_bindName (store_ok I3 hN hj (.inl hy) rw' (fun s2 I4=>?_) (.inr hy))))
 refine assignInOrder_cons (wpAny_bindName (store_ok I4 hN hi (.inl hx) rv (fun s3 I5=>assignInOrder_nil (wpAny_pure ?_)) (.inr hx)))
 rw [List.set_comm _ _ (Ne.symm hij)] at I5
 exact ⟨_,H1,I5,q1⟩
end
section
variable {X:Cx}{pos:Pos}
def tWhile (c:TT) (tb:TS):TS:=fun D σ H=>∃ W:Nat->St->Hp->Prop,(∃ m,W m σ H)∧∀ m σ H,W m σ H →
 c σ H fun b H1=>if b=true then ∃ N:St->Hp->Prop,(∀ σ' H',N σ' H'->∃ m',m' < m∧W m' σ' H')∧tb { D with nx:=N,ct:=N,bk:=D.nx } σ H1 else D.nx σ H1
theorem ps_while {c:Expr}{body:List Stmt}{tc:TT}{tb:TS}(hp:PassesOwn (model X.prog X.w) X.A X.env X.xe) (hc:PT X c tc) (hb:PSs X body tb):PS X (.While c body [] pos) (tWhile tc tb):=by
 intro pins s σ H D I h
 obtain ⟨W,⟨m0,w0⟩,turn⟩:=h
 refine wpAny_While (codeAny_whileLoop (fun n s'=>∃ σ' H',Inv X pins σ' H' s'∧W n σ' H') ?_ m0 ⟨σ,H,I,w0⟩)
 rintro n s1 ⟨σ1,H1,I1,w1⟩
 refine wpAny_passesOwn hp (thn (hc pins s1 σ1 H1 _ I1 (turn n σ1 H1 w1)) fun b s2 ⟨H2,I2,q2⟩=>?_)
 cases b with
 | true=>
  obtain ⟨N,hN,q2⟩:=q2
  rw [if_pos rfl]
  refine wpAny_passesOwn hp (thn (hb pins s2 σ1 H2 _ I2 q2) fun f s3 q3=>?_)
  cases f with
  | next=>
   obtain ⟨σ3,H3,I3,n3⟩:=q3
   obtain ⟨m',hm,w3⟩:=hN σ3 H3 n3
   exact ⟨m',hm,σ3,H3,I3,w3⟩
  | cont=>
   obtain ⟨σ3,H3,I3,n3⟩:=q3
   obtain ⟨m',hm,w3⟩:=hN σ3 H3 n3
   exact ⟨m',hm,σ3,H3,I3,w3⟩
  | brk=>exact q3
  | ret v=>exact q3
 | false=>
  rw [if_neg Bool.false_ne_true]
  exact wpAny_execs_nil ⟨σ1,H2,I2,q2⟩
end
structure It where
 go:Nat->Hp->Prop
 yld:Nat->Hp->V->Hp->Prop
 stop:Nat->Hp->Prop
def FpOk (X:Cx) (pins:List (Addr × Obj)) (H:Hp) (b:Addr):Prop:=
 H b=none∧b ≠ X.env.locals∧b ∉ X.fs∧(b∈X.ex∨X.s₀.heap.objs.size≤b)∧(∀ x c,X.env.cells.lookup x=some c->c ≠ b)∧∀ p∈X.pn++pins,p.1 ≠ b
theorem Inv.fpOk {X:Cx}{pins:List (Addr × Obj)}{σ:St}{H H':Hp}{s:Shared}{b:Addr}(I:Inv X pins σ H s) (hb:s.heap.objs.size≤b) (hn:H' b=none):FpOk X pins H' b:=by
 refine ⟨hn,Nat.ne_of_gt (Nat.lt_of_lt_of_le I.lt hb),I.nofs hb,.inr (Nat.le_trans I.sz hb),fun x c e z=>?_,fun p hp z=>?_⟩
 ·obtain ⟨v,q⟩:=I.cell x c e
  exact absurd (Nat.lt_of_lt_of_le q.lt (by rw [z];exact hb)) (Nat.lt_irrefl _)
 ·exact absurd (Nat.lt_of_lt_of_le (Heap.lt_size (I.pin p hp).1) (by rw [z];exact hb)) (Nat.lt_irrefl _)
structure Turn (P:Program) (w:World) (K:PySem.W.Frag) (tg:Expr) (J:It) (fp:List Addr) (it:Addr) (tn:Nat->Heap->Prop):Prop where
 mem:it∈fp
 obj:∀ i h,tn i h->∀ b∈fp,∃ o,h.get? b=some o∧∀ v,o.data ≠ .cell v
 keep:∀ i h h',tn i h->(∀ b∈fp,∀ o,h.get? b=some o->h'.get? b=some o)->tn i h'
 item:∀ (X:Cx),X.prog=P->X.w=w->X.K=K->X.calm=true->∀ (i:Nat) (pins:List (Addr × Obj)) (s:Shared) (σ:St) (H:Hp) (E:Value->Shared->Prop),Inv X pins σ H s->(∀ b∈fp,FpOk X pins H b)->tn i s.heap->J.go i H →
  wpAny (model P w) X.A (pyNext (.ref it)) (fun r s1=>∃ u,r=some u ∧
   wpAny (model P w) X.A (letOwnedTupleGo tg (.ref it) u) (fun _ s2=>∃ x H',Inv X pins σ H' s2∧RelV x u∧J.yld i H x H'∧tn (i+1) s2.heap∧∀ b∈fp,H' b=none) E s1) E s
 done:∀ (X:Cx),X.prog=P->X.w=w->X.K=K->X.calm=true->∀ (i:Nat) (pins:List (Addr × Obj)) (s:Shared) (σ:St) (H:Hp) (E:Value->Shared->Prop),Inv X pins σ H s->(∀ b∈fp,FpOk X pins H b)->tn i s.heap->J.stop i H →
  wpAny (model P w) X.A (pyNext (.ref it)) (fun r s1=>r=none∧Inv X pins σ H s1) E s
 self:∀ (A:Around) (i:Nat) (s:Shared) (Q:Value->Shared->Prop) (E:Value->Shared->Prop),tn i s.heap->Q (.ref it) s->wpAny (model P w) A (pyIter (.ref it)) Q E s
abbrev TI:=St->Hp->(It->Hp->Prop)->Prop
def PIE (X:Cx) (pins:List (Addr × Obj)) (σ:St) (tg:Expr) (R:It->Hp->Prop) (itv:Value) (s2:Shared):Prop:=
 ∃ (it:Addr) (fp:List Addr) (tn:Nat->Heap->Prop) (J:It) (H':Hp),itv=.ref it∧Inv X pins σ H' s2∧Turn X.prog X.w X.K tg J fp it tn∧tn 0 s2.heap∧(∀ b∈fp,FpOk X pins H' b)∧R J H'
def PI (X:Cx) (tg iter:Expr) (wi:TI):Prop:=
 ∀ (pins:List (Addr × Obj)) (s:Shared) (σ:St) (H:Hp) (R:It->Hp->Prop),Inv X pins σ H s->wi σ H R →
  wpAny (model X.prog X.w) X.A (eval iter X.env) (fun v s1=>wpAny (model X.prog X.w) X.A (pyIter v) (PIE X pins σ tg R) X.xe s1) X.xe s
theorem go_of {M:Model}{A:Around}{E:Value->Shared->Prop}{s:Shared}{tg:Expr}{it:Addr}{u:Value}{o:Obj}{n:String}{vs:Array Value}{Q:Unit->Shared->Prop}(ho:s.heap.get? it=some o) (hc:o.cls=.type n) (hd:o.data=.fields vs)
    (hn:["enumerate", "zip", "dict_itemiterator", "dict_reverseitemiterator", "odict_iterator", "itertools.zip_longest", "itertools.pairwise"].contains n=false) (hQ:Q () s):wpAny M A (letOwnedTupleGo tg (.ref it) u) Q E s:=by
  unfold letOwnedTupleGo
  cases tg<;>first
    | exact wpAny_pure hQ
    | (cases u<;>first
        | exact wpAny_pure hQ
        | (refine wpAny_bind (wpAny_load ho ?_)
           rw [hc,hd]
           show wpAny M A (if (["enumerate", "zip", "dict_itemiterator", "dict_reverseitemiterator", "odict_iterator", "itertools.zip_longest", "itertools.pairwise"].contains n && vs[0]? == some (rawInt _))=true then _ else _) Q E s
           rw [if_neg (by intro h;rw [hn,Bool.false_and] at h;cases h)]
           exact wpAny_pure hQ))
def Itl (K:PySem.W.Frag) (a:Addr):It:=
 ⟨fun i H=>∃ xs x,SqL K H a xs∧xs[i]? = some x,fun i H x H'=>H'=H∧∀ xs,SqL K H a xs->xs[i]? = some x,fun i H=>∃ xs,SqL K H a xs∧xs.length≤i⟩
def Itt (K:PySem.W.Frag) (a:Addr):It:=
 ⟨fun i H=>∃ xs x,SqT K H a xs∧xs[i]? = some x,fun i H x H'=>H'=H∧∀ xs,SqT K H a xs->xs[i]? = some x,fun i H=>∃ xs,SqT K H a xs∧xs.length≤i⟩
def Itr (lo:Int) (n:Nat):It:=⟨fun i _=>i < n,fun i H x H'=>H'=H∧x=.int (lo+i),fun i _=>n≤i⟩
theorem turn_list {P:Program}{w:World}{K:PySem.W.Frag}{tg:Expr}(a it:Addr):Turn P w K tg (Itl K a) [it] it (fun i h=>h.IsListIter it a i) where
 mem:=by simp
 obj:=fun i h st b hb=>by
  have e:b=it:=by simpa using hb
  subst e
  obtain ⟨o,e,c,d⟩:=st
  exact ⟨o,e,fun v z=>by rw [d] at z;cases z⟩
 keep:=fun i h h' st k=>st.at fun o e=>k it (by simp) o e
 item:=by
  intro X hP hw hK hc i pins s σ H E I hf st hg
  subst hP hw hK
  obtain ⟨xs,x,hq,hx⟩:=hg
  obtain ⟨its,rv,p,hz⟩:=I.list hq
  obtain ⟨u,hu,ru⟩:=rv.get hx
  obtain ⟨f0,f1,f2,f3,f4,f5⟩:=hf it (by simp)
  refine wpAny_pyNext_list_item st p.isList (x:=u) (by simpa using hu) fun h' st' sb=>?_
  have I1:Inv X pins σ H { s with heap:=h' }:=I.turned (t':=s.toks) (fun b o hb e=>(sb.2 b hb).trans e) f0 f1 f3 f4 f5
  obtain ⟨o,e,c,d⟩:=id st'
  exact ⟨u,rfl,go_of (s:={ s with heap:=h' }) e c d (by decide) ⟨x,H,I1,ru,⟨rfl,fun ys hy=>by rw [I.list_inj hy hq];exact hx⟩,st',fun b hb=>(hf b hb).1⟩⟩
 done:=by
  intro X hP hw hK hc i pins s σ H E I hf st hg
  subst hP hw hK
  obtain ⟨xs,hq,hx⟩:=hg
  obtain ⟨its,rv,p,hz⟩:=I.list hq
  obtain ⟨f0,f1,f2,f3,f4,f5⟩:=hf it (by simp)
  have hl:=rv.length
  exact wpAny_pyNext_list_end (I.ok.hd hc) st p.isList (by simp;omega) fun h' eb=>⟨rfl,I.turned (t':=s.toks) (fun b o hb e=>eb b o hb e) f0 f1 f3 f4 f5⟩
 self:=fun _ _ _ _ _ st h=>wpAny_pyIter_listiter st h
theorem turn_tuple {P:Program}{w:World}{K:PySem.W.Frag}{tg:Expr}(a it:Addr):Turn P w K tg (Itt K a) [it] it (fun i h=>h.IsTupleIter it a i) where
 mem:=by simp
 obj:=fun i h st b hb=>by
  have e:b=it:=by simpa using hb
  subst e
  obtain ⟨o,e,c,d⟩:=st
  exact ⟨o,e,fun v z=>by rw [d] at z;cases z⟩
 keep:=fun i h h' st k=>st.at fun o e=>k it (by simp) o e
 item:=by
  intro X hP hw hK hc i pins s σ H E I hf st hg
  subst hP hw hK
  obtain ⟨xs,x,hq,hx⟩:=hg
  obtain ⟨its,rv,p,hz⟩:=I.tuple hq
  obtain ⟨u,hu,ru⟩:=rv.get hx
  obtain ⟨f0,f1,f2,f3,f4,f5⟩:=hf it (by simp)
  refine wpAny_pyNext_tuple_item st (show s.heap.IsTuple a its.toArray from p) (x:=u) (by simpa using hu) fun h' st' sb=>?_
  have I1:Inv X pins σ H { s with heap:=h' }:=I.turned (t':=s.toks) (fun b o hb e=>(sb.2 b hb).trans e) f0 f1 f3 f4 f5
  obtain ⟨o,e,c,d⟩:=id st'
  exact ⟨u,rfl,go_of (s:={ s with heap:=h' }) e c d (by decide) ⟨x,H,I1,ru,⟨rfl,fun ys hy=>by rw [I.tuple_inj hy hq];exact hx⟩,st',fun b hb=>(hf b hb).1⟩⟩
 done:=by
  intro X hP hw hK hc i pins s σ H E I hf st hg
  subst hP hw hK
  obtain ⟨xs,hq,hx⟩:=hg
  obtain ⟨its,rv,p,hz⟩:=I.tuple hq
  obtain ⟨f0,f1,f2,f3,f4,f5⟩:=hf it (by simp)
  have hl:=rv.length
  exact wpAny_pyNext_tuple_end (I.ok.hd hc) st (show s.heap.IsTuple a its.toArray from p) (by simp;omega) fun h' eb=>⟨rfl,I.turned (t':=s.toks) (fun b o hb e=>eb b o hb e) f0 f1 f3 f4 f5⟩
 self:=fun _ _ _ _ _ st h=>wpAny_pyIter_tupleiter st h
theorem turn_range {P:Program}{w:World}{K:PySem.W.Frag}{tg:Expr}(it:Addr) (lo:Int) (n:Nat):Turn P w K tg (Itr lo n) [it] it (fun i h=>IsRangeIter h it (lo+(i:Nat) * 1) ((n:Int) - (i:Nat)) 1) where
 mem:=by simp
 obj:=fun i h st b hb=>by
  have e:b=it:=by simpa using hb
  subst e
  exact ⟨_,st,fun v z=>by
   have z':Data.fields _=Data.cell v:=z
   cases z'⟩
 keep:=fun i h h' st k=>k it (by simp) _ st
 item:=by
  intro X hP hw hK hc i pins s σ H E I hf st hg
  subst hP hw hK
  obtain ⟨f0,f1,f2,f3,f4,f5⟩:=hf it (by simp)
  have W:=Walks.range (prog:=X.prog) (w:=X.w) (I.ok.hd hc) it lo 1 n
  refine W.item i s _ _ hg st fun v h' tk hv st' kk=>?_
  obtain ⟨t,rfl⟩:=hv
  have I1:Inv X pins σ H { s with heap:=h',toks:=tk }:=I.turned (fun b o hb e=>kk b o (by simpa using hb) e) f0 f1 f3 f4 f5
  refine ⟨_,rfl,go_of (s:={ s with heap:=h',toks:=tk }) (n := "range_iterator") st' rfl rfl (by decide) ⟨.int (lo+i),H,I1,⟨t,?_⟩,⟨rfl,rfl⟩,st',fun b hb=>(hf b hb).1⟩⟩
  rw [Int.mul_one]
 done:=by
  intro X hP hw hK hc i pins s σ H E I hf st hg
  subst hP hw hK
  obtain ⟨f0,f1,f2,f3,f4,f5⟩:=hf it (by simp)
  exact wpAny_pyNext_range_end (I.ok.hd hc) st (by have:n≤i:=hg;omega) fun h' eb=>⟨rfl,I.turned (t':=s.toks) (fun b o hb e=>eb b o hb e) f0 f1 f3 f4 f5⟩
 self:=fun _ _ _ _ _ st h=>wpAny_pyIter_rangeiter st h
end L2
namespace L2
open PySem PySem.Spec PyProof.Rows
section
variable {X:Cx}{tg:Expr}
theorem range_it {pins:List (Addr × Obj)}{σ:St}{H:Hp}{s:Shared}{R:It->Hp->Prop}{E:Value->Shared->Prop}{lo hi:Int}{t u v:Tok}{tk:Nat}(I:Inv X pins σ H s) (h1:-(2 ^ 62)≤lo) (h2:lo < 2 ^ 62) (h3:-(2 ^ 62)≤hi) (h4:hi < 2 ^ 62)
  (q:R (Itr lo (hi - lo).toNat) H):wpAny (model X.prog X.w) X.A (pyIter (.ref s.heap.objs.size)) (PIE X pins σ tg R) E { s with heap:=s.heap.push { cls:=.type "range",data:=.fields #[.int lo t,.int hi u,.int 1 v] },toks:=tk }:=by
 refine wpAny_pyIter_range (IsRange.new ..) (small_one h1 h2 h3 h4) ?_
 have I1:Inv X pins σ H { s with heap:=s.heap.push { cls:=.type "range",data:=.fields #[.int lo t,.int hi u,.int 1 v] },toks:=tk }:=I.kept fun b o e=>Heap.get?_push_of_some _ e
 refine ⟨(s.heap.push { cls:=.type "range",data:=.fields #[.int lo t,.int hi u,.int 1 v] }).objs.size,[(s.heap.push { cls:=.type "range",data:=.fields #[.int lo t,.int hi u,.int 1 v] }).objs.size],_,_,H,rfl,
  I1.kept (t':=tk) fun b o e=>Heap.get?_push_of_some _ e,turn_range _ lo (hi - lo).toNat,?_,fun b hb=>?_,q⟩
 ·have e1:lo+((0:Nat):Int) * 1=lo:=by simp
  have e2:(((hi - lo).toNat:Nat):Int) - ((0:Nat):Int)=Builtin.Range.rangeSize lo hi 1:=by rw [rangeSize_one];split<;>omega
  show IsRangeIter _ _ (lo+((0:Nat):Int) * 1) ((((hi - lo).toNat:Nat):Int) - ((0:Nat):Int)) 1
  rw [e1,e2]
  exact Heap.get?_push_size _ rfl
 ·have e:b=(s.heap.push { cls:=.type "range",data:=.fields #[.int lo t,.int hi u,.int 1 v] }).objs.size:=by simpa using hb
  subst e
  exact I1.fpOk (Nat.le_refl _) (I1.hok.fresh (Nat.le_refl _))
def iRng1 (ta:TA):TI:=fun σ H R=>ta σ H fun vs H1=>∃ j:Int,vs=[.int j]∧-(2 ^ 62)≤j∧j < 2 ^ 62∧R (Itr 0 j.toNat) H1
theorem pi_range1 {a:Expr}{ta:TA}{p pos:Pos}(hg:Gl X "range") (hm:X.mg "range"=none) (ha:PA X [a] ta) (hs:starEach [a] X.env=[(false,eval a X.env)]:=by rfl):PI X tg (.Call (.Name "range" p) [a] [] pos) (iRng1 ta):=by
 intro pins s σ H R I h
 refine Call_ (ld_blt I hg hm boot_range (PyProof.Rows.callWith_type1 (thn (ha pos pins s σ H _ I h) fun us s1 ⟨vs,H1,I1,r1,q1⟩=>?_) hs rfl))
 obtain ⟨j,e,q1,q2,q⟩:=q1
 subst e
 cases r1 with
 | cons r rr=>
  cases rr
  obtain ⟨t,rfl⟩:=r
  exact call_range_1 (range_it I1 (by omega) (by omega) q1 q2 (by simpa using q))
def tFor (wi:TI) (g:TG) (tb:TS):TS:=fun D σ H=>wi σ H fun J H1=>∃ W:Nat->Nat->St->Hp->Prop,(∃ m,W 0 m σ H1)∧∀ i m σ H,W i m σ H →
 (J.stop i H∧D.nx σ H)∨(J.go i H∧∃ N:St->Hp->Prop,(∀ σ' H',N σ' H'->∃ m',m' < m∧W (i+1) m' σ' H')∧∀ x H',J.yld i H x H'->g x σ H' fun σ2 H2=>tb { D with nx:=N,ct:=N,bk:=D.nx } σ2 H2)
def pinsAt (fp:List Addr) (h:Heap):List (Addr × Obj):=fp.filterMap fun b=>(h.get? b).map fun o=>(b,o)
theorem mem_pinsAt {fp:List Addr}{h:Heap}{b:Addr}{o:Obj}(hb:b∈fp) (e:h.get? b=some o):(b,o)∈pinsAt fp h:=List.mem_filterMap.mpr ⟨b,hb,by rw [e];rfl⟩
theorem of_pinsAt {fp:List Addr}{h:Heap}{p:Addr × Obj}(hp:p∈pinsAt fp h):p.1∈fp∧h.get? p.1=some p.2:=by
 obtain ⟨b,hb,e⟩:=List.mem_filterMap.mp hp
 cases q:h.get? b with
 | none=>rw [q] at e;cases e
 | some o=>
  rw [q] at e
  have e':(b,o)=p:=Option.some.inj e
  subst e'
  exact ⟨hb,q⟩
theorem Inv.pinned {pins:List (Addr × Obj)}{σ:St}{H:Hp}{s:Shared}{fp:List Addr}(I:Inv X pins σ H s) (hf:∀ b∈fp,FpOk X pins H b) (ho:∀ b∈fp,∃ o,s.heap.get? b=some o∧∀ v,o.data ≠ .cell v):Inv X (pins++pinsAt fp s.heap) σ H s:=
 I.pins_of fun p hp=>(List.mem_append.mp hp).elim (fun z=>I.pin p (List.mem_append_right _ z)) fun z=>by
  obtain ⟨hb,e⟩:=of_pinsAt z
  obtain ⟨f0,f1,f2,_⟩:=hf p.1 hb
  obtain ⟨o,e',d⟩:=ho p.1 hb
  rw [e] at e';cases e'
  exact ⟨e,f0,f1,f2,d⟩
theorem Inv.unpinned {pins pl:List (Addr × Obj)}{σ:St}{H:Hp}{s:Shared}(I:Inv X (pins++pl) σ H s):Inv X pins σ H s:=I.pins_of fun p hp=>I.pin p (List.mem_append_right _ (List.mem_append_left _ hp))
theorem ps_for {iter:Expr}{body:List Stmt}{wi:TI}{g:TG}{tb:TS}{pos:Pos}(hp:PassesOwn (model X.prog X.w) X.A X.env X.xe) (hc:X.calm=true) (hi:PI X tg iter wi) (hg:PG X tg g) (hb:PSs X body tb)
  (hs:∀ x,foldedSetIterable iter X.env x=pure x:=by intro _;rfl):PS X (.For tg iter body [] pos) (tFor wi g tb):=by
 intro pins s σ H D I h
 refine wpAny_For (thn (hi pins s σ H _ I h) fun v s1 h1=>thn h1 fun itv s2 h2=>?_) hs
 obtain ⟨it,fp,tn,J,H2,e,I2,T,st2,f2,W,⟨m0,w0⟩,turn⟩:=h2
 subst e
 have stat:∀ {H':Hp},(∀ b∈fp,H' b=none)->∀ b∈fp,FpOk X pins H' b:=fun hn b hb=>⟨hn b hb,(f2 b hb).2⟩
 refine codeAny_forLoop_any (fun n s'=>∃ i σ' H',Inv X pins σ' H' s'∧tn i s'.heap∧(∀ b∈fp,H' b=none)∧W i n σ' H') ?_ m0 ⟨0,σ,H2,I2,st2,fun b hb=>(f2 b hb).1,w0⟩
 rintro n s3 ⟨i,σ3,H3,I3,st3,fr3,w3⟩
 rcases turn i n σ3 H3 w3 with ⟨stop,qn⟩|⟨go,N,hN,step⟩
 ·refine wpAny_passesOwn hp (thn (T.done X rfl rfl rfl hc i pins s3 σ3 H3 X.xe I3 (stat fr3) st3 stop) fun r s4 ⟨hr,I4⟩=>?_)
  subst hr
  exact wpAny_execs_nil ⟨σ3,H3,I4,qn⟩
 ·refine wpAny_passesOwn hp (thn (T.item X rfl rfl rfl hc i pins s3 σ3 H3 X.xe I3 (stat fr3) st3 go) fun r s4 ⟨u,hr,h4⟩=>?_)
  subst hr
  refine wpAny_passesOwn hp (thn h4 fun _ s5 ⟨x,H5,I5,r5,y5,st5,fr5⟩=>?_)
  have I5':=I5.pinned (stat fr5) (T.obj _ _ st5)
  refine wpAny_passesOwn hp (thn (hg _ s5 σ3 H5 x u _ I5' r5 (step x H5 y5)) fun _ s6 ⟨σ6,H6,I6,q6⟩=>?_)
  refine wpAny_passesOwn hp (thn (hb _ s6 σ6 H6 _ I6 q6) fun f s7 q7=>?_)
  have again:∀ {σ7:St} {H7:Hp},Inv X (pins++pinsAt fp s5.heap) σ7 H7 s7->N σ7 H7->∃ m,m < n∧∃ i σ' H',Inv X pins σ' H' s7∧tn i s7.heap∧(∀ b∈fp,H' b=none)∧W i m σ' H':=fun {σ7 H7} I7 n7=>by
   obtain ⟨m',hm,w7⟩:=hN σ7 H7 n7
   refine ⟨m',hm,i+1,σ7,H7,I7.unpinned,T.keep _ _ _ st5 fun b hb o e=>(I7.pin (b,o) (List.mem_append_right _ (List.mem_append_right _ (mem_pinsAt hb e)))).1,fun b hb=>?_,w7⟩
   obtain ⟨o,e,d⟩:=T.obj _ _ st5 b hb
   exact (I7.pin (b,o) (List.mem_append_right _ (List.mem_append_right _ (mem_pinsAt hb e)))).2.1
  cases f with
  | next=>obtain ⟨σ7,H7,I7,n7⟩:=q7;exact again I7 n7
  | cont=>obtain ⟨σ7,H7,I7,n7⟩:=q7;exact again I7 n7
  | brk=>obtain ⟨σ7,H7,I7,q7⟩:=q7;exact ⟨σ7,H7,I7.unpinned,q7⟩
  | ret v=>obtain ⟨x7,σ7,H7,I7,r7,q7⟩:=q7;exact ⟨x7,σ7,H7,I7.unpinned,r7,q7⟩
end
theorem for_list {K:PySem.W.Frag}{a:Addr}{xs:List V}{g:TG}{tb:TS}{D:Ends}{σ:St}{H:Hp}(Pv:Nat->St->Hp->Prop) (h0:Pv 0 σ H) (hl:∀ i σ H,i≤xs.length->Pv i σ H->SqL K H a xs)
  (hs:∀ i x σ H,xs[i]? = some x->Pv i σ H->g x σ H fun σ2 H2=>tb { D with nx:=Pv (i+1),ct:=Pv (i+1),bk:=D.nx } σ2 H2) (hd:∀ σ H,Pv xs.length σ H->D.nx σ H) :
  ∃ W:Nat->Nat->St->Hp->Prop,(∃ m,W 0 m σ H)∧∀ i m σ H,W i m σ H →
   ((Itl K a).stop i H∧D.nx σ H)∨((Itl K a).go i H∧∃ N:St->Hp->Prop,(∀ σ' H',N σ' H'->∃ m',m' < m∧W (i+1) m' σ' H')∧∀ x H',(Itl K a).yld i H x H'->g x σ H' fun σ2 H2=>tb { D with nx:=N,ct:=N,bk:=D.nx } σ2 H2):=by
 refine ⟨fun i m σ H=>m=xs.length - i∧i≤xs.length∧Pv i σ H,⟨xs.length,by simp,Nat.zero_le _,h0⟩,?_⟩
 rintro i m σ H ⟨rfl,hi,p⟩
 have q:=hl i σ H hi p
 by_cases hlt:i < xs.length
 ·refine .inr ⟨⟨xs,xs[i],q,by simp [hlt]⟩,Pv (i+1),fun σ' H' p'=>⟨xs.length - (i+1),by omega,rfl,hlt,p'⟩,fun x H' y=>?_⟩
  obtain ⟨e,y⟩:=y
  subst e
  exact hs i x σ _ (y xs q) p
 ·have e:i=xs.length:=by omega
  subst e
  exact .inl ⟨⟨xs,q,Nat.le_refl _⟩,hd σ H p⟩
theorem for_range {lo:Int}{n:Nat}{g:TG}{tb:TS}{D:Ends}{σ:St}{H:Hp}(Pv:Nat->St->Hp->Prop) (h0:Pv 0 σ H)
  (hs:∀ i σ H,i < n->Pv i σ H->g (.int (lo+i)) σ H fun σ2 H2=>tb { D with nx:=Pv (i+1),ct:=Pv (i+1),bk:=D.nx } σ2 H2) (hd:∀ σ H,Pv n σ H->D.nx σ H) :
  ∃ W:Nat->Nat->St->Hp->Prop,(∃ m,W 0 m σ H)∧∀ i m σ H,W i m σ H →
   ((Itr lo n).stop i H∧D.nx σ H)∨((Itr lo n).go i H∧∃ N:St->Hp->Prop,(∀ σ' H',N σ' H'->∃ m',m' < m∧W (i+1) m' σ' H')∧∀ x H',(Itr lo n).yld i H x H'->g x σ H' fun σ2 H2=>tb { D with nx:=N,ct:=N,bk:=D.nx } σ2 H2):=by
 refine ⟨fun i m σ H=>m=n - i∧i≤n∧Pv i σ H,⟨n,by simp,Nat.zero_le _,h0⟩,?_⟩
 rintro i m σ H ⟨rfl,hi,p⟩
 by_cases hlt:i < n
 ·refine .inr ⟨hlt,Pv (i+1),fun σ' H' p'=>⟨n - (i+1),by omega,rfl,hlt,p'⟩,fun x H' y=>?_⟩
  obtain ⟨e,y⟩:=y
  subst e y
  exact hs i σ _ hlt p
 ·have e:i=n:=by omega
  subst e
  exact .inl ⟨Nat.le_refl _,hd σ H p⟩
end L2
namespace L2
open PySem PySem.Spec PyProof.Rows
abbrev R2:=V->V->Hp->VK->Prop
def OpR (X:Cx) (f:Value->Value->Sem Value) (r:R2):Prop:=
 ∀ (pins:List (Addr × Obj)) (s:Shared) (σ:St) (H:Hp) (x y:V) (v u:Value) (Q:VK),Inv X pins σ H s->RelV x v->RelV y u->r x y H Q →
  wpAny (model X.prog X.w) X.A (f v u) (EP X pins σ Q) X.xe s
def UnR (X:Cx) (f:Value->Sem Value) (r:V->Hp->VK->Prop):Prop:=
 ∀ (pins:List (Addr × Obj)) (s:Shared) (σ:St) (H:Hp) (x:V) (v:Value) (Q:VK),Inv X pins σ H s->RelV x v->r x H Q →
  wpAny (model X.prog X.w) X.A (f v) (EP X pins σ Q) X.xe s
def CallR (X:Cx) (f:Value) (r:List V->Hp->VK->Prop):Prop:=
 ∀ (pins:List (Addr × Obj)) (s:Shared) (σ:St) (H:Hp) (xs:List V) (us:List Value) (Q:VK),Inv X pins σ H s->Vals xs us->r xs H Q →
  wpAny (model X.prog X.w) X.A (call f us) (EP X pins σ Q) X.xe s
def tOp (r:R2) (ta tb:TE):TE:=fun σ H Q=>ta σ H fun x H1=>tb σ H1 fun y H2=>r x y H2 Q
def tUn (r:V->Hp->VK->Prop) (ta:TE):TE:=fun σ H Q=>ta σ H fun x H1=>r x H1 Q
def rI (C:Int->Int->Prop) (g:Int->Int->V):R2:=fun x y H Q=>∃ i j,x=.int i∧y=.int j∧C i j∧Q (g i j) H
def rI0 (g:Int->Int->V):R2:=fun x y H Q=>∃ i j,x=.int i∧y=.int j∧Q (g i j) H
def rU (g:Int->V):V->Hp->VK->Prop:=fun x H Q=>∃ i,x=.int i∧Q (g i) H
section
variable {X:Cx}{a b c:Expr}{ta tb tc:TE}{pos:Pos}
theorem binT (ha:PE X a ta) (hb:PE X b tb){pins:List (Addr × Obj)}{s:Shared}{σ:St}{H:Hp}{R:V->V->Hp->Prop}(I:Inv X pins σ H s)
  (h:ta σ H fun x H1=>tb σ H1 fun y H2=>R x y H2) {Q:Value->Shared->Prop} {f:Value->Value->Sem Value}
  (hf:∀ v u s2 x y H2,Inv X pins σ H2 s2->RelV x v->RelV y u->R x y H2->wpAny (model X.prog X.w) X.A (f v u) Q X.xe s2) :
  wpAny (model X.prog X.w) X.A (eval a X.env) (fun v s₁=>wpAny (model X.prog X.w) X.A (eval b X.env) (fun u s₂=>wpAny (model X.prog X.w) X.A (f v u) Q X.xe s₂) X.xe s₁) X.xe s:=by
 refine thn (ha pins s σ H _ I h) fun v s1 ⟨x,H1,I1,r1,q1⟩=>?_
 refine thn (hb pins s1 σ H1 _ I1 q1) fun u s2 ⟨y,H2,I2,r2,q2⟩=>?_
 exact hf v u s2 x y H2 I2 r1 r2 q2
theorem pe_op {op:Operator}{r:R2}(ho:OpR X (binaryOp op) r) (ha:PE X a ta) (hb:PE X b tb):PE X (.BinOp a op b pos) (tOp r ta tb):=by
 intro pins s σ H Q I h
 exact wpAny_BinOp (binT ha hb I h fun v u s2 x y H2 I2 rx ry q=>ho pins s2 σ H2 x y v u Q I2 rx ry q)
theorem pe_un {op:UnaryOp}{r:V->Hp->VK->Prop}(ho:UnR X (unaryOp op) r) (ha:PE X a ta):PE X (.UnaryOp op a pos) (tUn r ta):=by
 intro pins s σ H Q I h
 exact UnaryOp_ (thn (ha pins s σ H _ I h) fun v s1 ⟨x,H1,I1,r1,q1⟩=>ho pins s1 σ H1 x v Q I1 r1 q1)
theorem opI {f:Value->Value->Sem Value}{C:Int->Int->Prop}{g:Int->Int->Int}
  (rule:∀ (i j:Int) (t u:Tok) (s:Shared) (Q:Value->Shared->Prop) (E:Value->Shared->Prop),C i j->Q (.int (g i j) s.toks) { s with toks:=s.toks+1 }->wpAny (model X.prog X.w) X.A (f (.int i t) (.int j u)) Q E s) :
  OpR X f (rI C fun i j=>.int (g i j)):=by
 intro pins s σ H x y v u Q I rx ry h
 obtain ⟨i,j,rfl,rfl,hc,q⟩:=h
 obtain ⟨t,rfl⟩:=rx
 obtain ⟨t',rfl⟩:=ry
 exact rule i j t t' s _ _ hc ⟨.int (g i j),H,I.tok _,⟨_,rfl⟩,q⟩
theorem opI0 {f:Value->Value->Sem Value}{g:Int->Int->Int}
  (rule:∀ (i j:Int) (t u:Tok) (s:Shared) (Q:Value->Shared->Prop) (E:Value->Shared->Prop),Q (.int (g i j) s.toks) { s with toks:=s.toks+1 }->wpAny (model X.prog X.w) X.A (f (.int i t) (.int j u)) Q E s) :
  OpR X f (rI0 fun i j=>.int (g i j)):=by
 intro pins s σ H x y v u Q I rx ry h
 obtain ⟨i,j,rfl,rfl,q⟩:=h
 obtain ⟨t,rfl⟩:=rx
 obtain ⟨t',rfl⟩:=ry
 exact rule i j t t' s _ _ ⟨.int (g i j),H,I.tok _,⟨_,rfl⟩,q⟩
theorem opB0 {f:Value->Value->Sem Value}{g:Int->Int->Bool}
  (rule:∀ (i j:Int) (t u:Tok) (s:Shared) (Q:Value->Shared->Prop) (E:Value->Shared->Prop),Q (.bool (g i j)) s->wpAny (model X.prog X.w) X.A (f (.int i t) (.int j u)) Q E s) :
  OpR X f (rI0 fun i j=>.bl (g i j)):=by
 intro pins s σ H x y v u Q I rx ry h
 obtain ⟨i,j,rfl,rfl,q⟩:=h
 obtain ⟨t,rfl⟩:=rx
 obtain ⟨t',rfl⟩:=ry
 exact rule i j t t' s _ _ ⟨.bl (g i j),H,I,rfl,q⟩
def CDiv (i j:Int):Prop:=0 < j∧j < 1073741824
def CPow (i j:Int):Prop:=0≤j∧j≤1000000∧i.natAbs < 2 ^ 64
def CMul (i j:Int):Prop:=(-(2 ^ 64) < i∧i < 2 ^ 64)∨(-(2 ^ 64) < j∧j < 2 ^ 64)
theorem CMul.ok {i j:Int}(h:CMul i j):IntMulOk i j:=by
 rcases h with ⟨h1,h2⟩|⟨h1,h2⟩
 ·exact .of_left (intBits_le_64 h1 h2)
 ·exact .of_right (intBits_le_64 h1 h2)
theorem op_add:OpR X (binaryOp .Add) (rI0 fun i j=>.int (i+j)):=opI0 fun _ _ _ _ _ _ _ q=>add_int q
theorem op_sub:OpR X (binaryOp .Sub) (rI0 fun i j=>.int (i - j)):=opI0 fun _ _ _ _ _ _ _ q=>sub_int q
theorem op_mul:OpR X (binaryOp .Mult) (rI CMul fun i j=>.int (i * j)):=opI fun _ _ _ _ _ _ _ hc q=>mul_int q hc.ok
theorem op_fdiv:OpR X (binaryOp .FloorDiv) (rI CDiv fun i j=>.int (i / j)):=opI fun i j _ _ _ _ _ hc q=>by
 have h1:(0:Int) < j:=hc.1
 have h2:j < 1073741824:=hc.2
 exact floordiv_int (by omega) (by rw [Int.fdiv_eq_ediv_of_nonneg i (by omega)];exact q) (.inl (PyProof.noPylong_small (by omega)))
theorem op_mod:OpR X (binaryOp .Mod) (rI (fun _ j=>0 < j) fun i j=>.int (i % j)):=opI fun i j _ _ _ _ _ hc q=>by
 have h1:(0:Int) < j:=hc
 exact mod_int' (by omega) (by rw [Int.fmod_eq_emod_of_nonneg i (by omega)];exact q)
theorem op_pow:OpR X (binaryOp .Pow) (rI CPow fun i j=>.int (i ^ j.toNat)):=opI fun _ _ _ _ _ _ _ hc q=>pow_int_small hc.1 hc.2.1 hc.2.2 q
theorem unI {f:Value->Sem Value}{g:Int->Int}
  (rule:∀ (i:Int) (t:Tok) (s:Shared) (Q:Value->Shared->Prop) (E:Value->Shared->Prop),Q (.int (g i) s.toks) { s with toks:=s.toks+1 }->wpAny (model X.prog X.w) X.A (f (.int i t)) Q E s) :
  UnR X f (rU fun i=>.int (g i)):=by
 intro pins s σ H x v Q I rx h
 obtain ⟨i,rfl,q⟩:=h
 obtain ⟨t,rfl⟩:=rx
 exact rule i t s _ _ ⟨.int (g i),H,I.tok _,⟨_,rfl⟩,q⟩
theorem un_neg:UnR X (unaryOp .USub) (rU fun i=>.int (-i)):=unI fun _ _ _ _ _ q=>neg_int q
end
def scal:V->V->Bool
 | .non,.non=>true | .non,.int _=>true | .int _,.non=>true | .non,.bl _=>true | .bl _,.non=>true | .non,.str _=>true | .str _,.non=>true
 | .int _,.int _=>true | .bl _,.bl _=>true | .str _,.str _=>true | .byt _,.byt _=>true
 | .int _,.str _=>true | .str _,.int _=>true | .bl _,.str _=>true | .str _,.bl _=>true
 | _,_=>false
def rEq:R2:=fun x y H Q=>scal x y=true∧Q (.bl (decide (x=y))) H
def rNe:R2:=fun x y H Q=>scal x y=true∧Q (.bl (!decide (x=y))) H
theorem dec_int {i j:Int}:decide (V.int i=V.int j)=(i == j):=by
 rw [Bool.eq_iff_iff]
 simp
theorem dec_bl {i j:Bool}:decide (V.bl i=V.bl j)=(i == j):=by
 rw [Bool.eq_iff_iff]
 simp
theorem dec_str {i j:Str}:decide (V.str i=V.str j)=(i == j):=by
 rw [Bool.eq_iff_iff]
 simp
theorem dec_byt {i j:Array UInt8}:decide (V.byt i=V.byt j)=(i.toList == j.toList):=by
 rw [Bool.eq_iff_iff]
 cases i
 cases j
 simp
section
variable {X:Cx}{a b c:Expr}{ta tb tc:TE}{pos:Pos}
theorem fin_bl {pins:List (Addr × Obj)}{σ:St}{H:Hp}{s:Shared}{Q:VK}{k k':Bool}(I:Inv X pins σ H s) (q:Q (.bl k) H) (e:k=k'):EP X pins σ Q (.bool k') s:=by
 subst e
 exact ⟨.bl k,H,I,rfl,q⟩
theorem op_eq:OpR X (compareOp .Eq) rEq:=by
 intro pins s σ H x y v u Q I rx ry h
 obtain ⟨hs,q⟩:=h
 cases x with
 | non=>
  cases rx
  cases y with
  | non=>cases ry;exact PySem.EqNone.eq_none_none (fin_bl I q (by simp))
  | bl j=>cases ry;exact PySem.EqNone.eq_none_bool (fin_bl I q (by simp))
  | int j=>obtain ⟨t',rfl⟩:=ry;exact PySem.EqNone.eq_none_int (fin_bl I q (by simp))
  | str j=>obtain ⟨t',rfl⟩:=ry;exact PySem.EqNone.eq_none_str (fin_bl I q (by simp))
  | _=>exact absurd (show false=true from hs) Bool.false_ne_true
 | bl i=>
  cases rx
  cases y with
  | non=>cases ry;exact PySem.EqNone.eq_bool_none (fin_bl I q (by simp))
  | bl j=>cases ry;exact eq_bool (fin_bl I q dec_bl)
  | str j=>obtain ⟨t',rfl⟩:=ry;exact PySem.EqMixed.eq_bool_str (fin_bl I q (by simp))
  | _=>exact absurd (show false=true from hs) Bool.false_ne_true
 | int i=>
  obtain ⟨t,rfl⟩:=rx
  cases y with
  | non=>cases ry;exact PySem.EqNone.eq_int_none (fin_bl I q (by simp))
  | int j=>obtain ⟨t',rfl⟩:=ry;exact eq_int (fin_bl I q dec_int)
  | str j=>obtain ⟨t',rfl⟩:=ry;exact PySem.EqMixed.eq_int_str (fin_bl I q (by simp))
  | _=>exact absurd (show false=true from hs) Bool.false_ne_true
 | str i=>
  obtain ⟨t,rfl⟩:=rx
  cases y with
  | non=>cases ry;exact PySem.EqNone.eq_str_none (fin_bl I q (by simp))
  | bl j=>cases ry;exact PySem.EqMixed.eq_str_bool (fin_bl I q (by simp))
  | int j=>obtain ⟨t',rfl⟩:=ry;exact PySem.EqMixed.eq_str_int (fin_bl I q (by simp))
  | str j=>obtain ⟨t',rfl⟩:=ry;exact eq_str (fin_bl I q dec_str)
  | _=>exact absurd (show false=true from hs) Bool.false_ne_true
 | byt i=>
  obtain ⟨t,rfl⟩:=rx
  cases y with
  | byt j=>obtain ⟨t',rfl⟩:=ry;exact PySem.W.eq_bytes (fin_bl I q dec_byt)
  | _=>exact absurd (show false=true from hs) Bool.false_ne_true
 | _=>cases y<;>exact absurd (show false=true from hs) Bool.false_ne_true
theorem op_ne:OpR X (compareOp .NotEq) rNe:=by
 intro pins s σ H x y v u Q I rx ry h
 obtain ⟨hs,q⟩:=h
 cases x with
 | non=>
  cases rx
  cases y with
  | non=>cases ry;exact PySem.EqNone.ne_none_none (fin_bl I q (by simp))
  | bl j=>cases ry;exact PySem.EqNone.ne_none_bool (fin_bl I q (by simp))
  | int j=>obtain ⟨t',rfl⟩:=ry;exact PySem.EqNone.ne_none_int (fin_bl I q (by simp))
  | str j=>obtain ⟨t',rfl⟩:=ry;exact PySem.EqNone.ne_none_str (fin_bl I q (by simp))
  | _=>exact absurd (show false=true from hs) Bool.false_ne_true
 | bl i=>
  cases rx
  cases y with
  | non=>cases ry;exact PySem.EqNone.ne_bool_none (fin_bl I q (by simp))
  | bl j=>cases ry;exact ne_bool (fin_bl I q (congrArg not dec_bl))
  | str j=>obtain ⟨t',rfl⟩:=ry;exact PySem.EqMixed.ne_bool_str (fin_bl I q (by simp))
  | _=>exact absurd (show false=true from hs) Bool.false_ne_true
 | int i=>
  obtain ⟨t,rfl⟩:=rx
  cases y with
  | non=>cases ry;exact PySem.EqNone.ne_int_none (fin_bl I q (by simp))
  | int j=>obtain ⟨t',rfl⟩:=ry;exact ne_int (fin_bl I q (congrArg not dec_int))
  | str j=>obtain ⟨t',rfl⟩:=ry;exact PySem.EqMixed.ne_int_str (fin_bl I q (by simp))
  | _=>exact absurd (show false=true from hs) Bool.false_ne_true
 | str i=>
  obtain ⟨t,rfl⟩:=rx
  cases y with
  | non=>cases ry;exact PySem.EqNone.ne_str_none (fin_bl I q (by simp))
  | bl j=>cases ry;exact PySem.EqMixed.ne_str_bool (fin_bl I q (by simp))
  | int j=>obtain ⟨t',rfl⟩:=ry;exact PySem.EqMixed.ne_str_int (fin_bl I q (by simp))
  | str j=>obtain ⟨t',rfl⟩:=ry;exact ne_str (fin_bl I q (congrArg not dec_str))
  | _=>exact absurd (show false=true from hs) Bool.false_ne_true
 | byt i=>
  obtain ⟨t,rfl⟩:=rx
  cases y with
  | byt j=>obtain ⟨t',rfl⟩:=ry;exact PySem.W.ne_bytes (fin_bl I q (congrArg not dec_byt))
  | _=>exact absurd (show false=true from hs) Bool.false_ne_true
 | _=>cases y<;>exact absurd (show false=true from hs) Bool.false_ne_true
theorem op_lt:OpR X (compareOp .Lt) (rI0 fun i j=>.bl (decide (i < j))):=opB0 fun _ _ _ _ _ _ _ q=>lt_int q
theorem op_le:OpR X (compareOp .LtE) (rI0 fun i j=>.bl (decide (i≤j))):=opB0 fun _ _ _ _ _ _ _ q=>le_int q
theorem op_gt:OpR X (compareOp .Gt) (rI0 fun i j=>.bl (decide (j < i))):=opB0 fun _ _ _ _ _ _ _ q=>gt_int q
theorem op_ge:OpR X (compareOp .GtE) (rI0 fun i j=>.bl (decide (j≤i))):=opB0 fun _ _ _ _ _ _ _ q=>ge_int q
theorem op_isN:OpR X (compareOp .Is) (fun x y H Q=>y=.non∧Q (.bl (decide (x=.non))) H):=by
 intro pins s σ H x y v u Q I rx ry h
 obtain ⟨rfl,q⟩:=h
 cases ry
 refine is_none_gen (fin_bl I q ?_)
 cases x<;>first
  | (cases rx;rfl)
  | (obtain ⟨t,rfl⟩:=rx;rfl)
theorem op_notN:OpR X (compareOp .IsNot) (fun x y H Q=>y=.non∧Q (.bl (!decide (x=.non))) H):=by
 intro pins s σ H x y v u Q I rx ry h
 obtain ⟨rfl,q⟩:=h
 cases ry
 refine isnot_none_gen (fin_bl I q ?_)
 cases x<;>first
  | (cases rx;rfl)
  | (obtain ⟨t,rfl⟩:=rx;rfl)
theorem OpR.or {f:Value->Value->Sem Value}{r r':R2}(h:OpR X f r) (h':OpR X f r'):OpR X f (fun x y H Q=>r x y H Q∨r' x y H Q):=by
 intro pins s σ H x y v u Q I rx ry q
 rcases q with q|q
 ·exact h pins s σ H x y v u Q I rx ry q
 ·exact h' pins s σ H x y v u Q I rx ry q
theorem nomark (b:Expr){op:CmpOp}(h:op ≠ .In:=by decide) (h2:op ≠ .NotIn:=by decide):behindInMarks op b=false:=by
 have e1:(op == CmpOp.In)=false:=by cases op<;>first|rfl|exact absurd rfl h
 have e2:(op == CmpOp.NotIn)=false:=by cases op<;>first|rfl|exact absurd rfl h2
 cases b<;>simp [behindInMarks,e1,e2]
theorem pe_cmpR {op:CmpOp}{r:R2}(ho:OpR X (compareOp op) r) (ha:PE X a ta) (hb:PE X b tb) (hm:behindInMarks op b=false):PE X (.Compare a [op] [b] pos) (tOp r ta tb):=by
 intro pins s σ H Q I h
 exact wpAny_Compare1 (binT ha hb I h fun v u s2 x y H2 I2 rx ry q=>ho pins s2 σ H2 x y v u Q I2 rx ry q) hm
def tTest (t:TE):TT:=fun σ H Q=>t σ H fun x H'=>∃ k,x=.bl k∧Q k H'
theorem pt_cmpR {op:CmpOp}{r:R2}(ho:OpR X (compareOp op) r) (ha:PE X a ta) (hb:PE X b tb) (hm:behindInMarks op b=false):PT X (.Compare a [op] [b] pos) (tTest (tOp r ta tb)):=by
 intro pins s σ H Q I h
 refine wpAny_isTrue_Compare1 (thn (ha pins s σ H _ I h) fun v s1 ⟨x,H1,I1,r1,q1⟩=>thn (hb pins s1 σ H1 _ I1 q1) fun u s2 ⟨y,H2,I2,r2,q2⟩=>
  thn (ho pins s2 σ H2 x y v u _ I2 r1 r2 q2) fun c s3 ⟨z,H3,I3,r3,k,e,q3⟩=>?_) hm
 subst e
 cases r3
 exact wpAny_truthy_bool ⟨H3,I3,q3⟩
def tChain (r r':R2) (ta tb tc:TE):TE:=fun σ H Q=>ta σ H fun x H1=>tb σ H1 fun y H2=>r x y H2 fun z H3=>∃ k,z=.bl k ∧
 (if k=true then tc σ H3 fun w' H4=>r' y w' H4 Q else Q (.bl false) H3)
theorem pe_chain {op op':CmpOp}{r r':R2}(ho:OpR X (compareOp op) r) (ho':OpR X (compareOp op') r') (ha:PE X a ta) (hb:PE X b tb) (hc:PE X c tc)
  (hm:lastMarks [op,op'] [b,c]=false:=by with_unfolding_all rfl):PE X (.Compare a [op,op'] [b,c] pos) (tChain r r' ta tb tc):=by
 intro pins s σ H Q I h
 refine Compare_chain (thn (ha pins s σ H _ I h) fun v s1 ⟨x,H1,I1,r1,q1⟩=>chain_link (thn (hb pins s1 σ H1 _ I1 q1) fun u s2 ⟨y,H2,I2,r2,q2⟩=>
  thn (ho pins s2 σ H2 x y v u _ I2 r1 r2 q2) fun d s3 ⟨z,H3,I3,r3,k,e,q3⟩=>?_)) hm
 subst e
 cases r3
 refine wpAny_truthy_bool ?_
 cases k with
 | false=>exact ite_ff ⟨.bl false,H3,I3,rfl,q3⟩
 | true=>exact ite_tt (chain_last (thn (hc pins s3 σ H3 _ I3 q3) fun w' s4 ⟨z',H4,I4,r4,q4⟩=>ho' pins s4 σ H4 y z' u w' Q I4 r2 r4 q4))
theorem pt_chain {op op':CmpOp}{r r':R2}(ho:OpR X (compareOp op) r) (ho':OpR X (compareOp op') r') (ha:PE X a ta) (hb:PE X b tb) (hc:PE X c tc)
  (hm:lastMarks [op,op'] [b,c]=false:=by with_unfolding_all rfl):PT X (.Compare a [op,op'] [b,c] pos) (tTest (tChain r r' ta tb tc)):=by
 intro pins s σ H Q I h
 refine isTrue_chain (thn (ha pins s σ H _ I h) fun v s1 ⟨x,H1,I1,r1,q1⟩=>test_link (thn (hb pins s1 σ H1 _ I1 q1) fun u s2 ⟨y,H2,I2,r2,q2⟩=>
  thn (ho pins s2 σ H2 x y v u _ I2 r1 r2 q2) fun d s3 ⟨z,H3,I3,r3,k,e,q3⟩=>?_)) hm
 subst e
 cases r3
 refine wpAny_truthy_bool ?_
 cases k with
 | false=>
  obtain ⟨k',e',q'⟩:=q3
  cases e'
  exact ite_ff ⟨H3,I3,q'⟩
 | true=>
  refine ite_tt (test_last (thn (hc pins s3 σ H3 _ I3 q3) fun w' s4 ⟨z',H4,I4,r4,q4⟩=>thn (ho' pins s4 σ H4 y z' u w' _ I4 r2 r4 q4) fun d' s5 ⟨z2,H5,I5,r5,k2,e2,q5⟩=>?_))
  subst e2
  cases r5
  exact wpAny_truthy_bool ⟨H5,I5,q5⟩
theorem line63:(sizeLine:Nat) < 2 ^ 63:=by rw [sizeLine_eq];decide
theorem vals1 {x:V}{us:List Value}(r:Vals [x] us):∃ u,us=[u]∧RelV x u:=by
 cases r with
 | cons r1 r2=>cases r2;exact ⟨_,rfl,r1⟩
theorem vals2 {x y:V}{us:List Value}(r:Vals [x,y] us):∃ u w',us=[u,w']∧RelV x u∧RelV y w':=by
 cases r with
 | cons r1 r2=>
  cases r2 with
  | cons r3 r4=>cases r4;exact ⟨_,_,rfl,r1,r3⟩
theorem call_abs:CallR X (.builtin "abs") (fun xs H Q=>∃ i,xs=[.int i]∧Q (.int (if i < 0 then -i else i)) H):=by
 intro pins s σ H xs us Q I r h
 obtain ⟨i,rfl,q⟩:=h
 obtain ⟨u,rfl,t,rfl⟩:=vals1 r
 exact call_abs_int fun u tk=>⟨.int (if i < 0 then -i else i),H,I.tok _,⟨_,rfl⟩,q⟩
theorem call_max2 (hc:X.calm=true):CallR X (.builtin "max") (fun xs H Q=>∃ i j,xs=[.int i,.int j]∧Q (.int (if j > i then j else i)) H):=by
 intro pins s σ H xs us Q I r h
 obtain ⟨i,j,rfl,q⟩:=h
 obtain ⟨u,w',rfl,⟨t,rfl⟩,⟨t',rfl⟩⟩:=vals2 r
 refine max_two_ints (I.ok.hd hc) fun h' tk k=>⟨_,H,I.kept k,?_,q⟩
 by_cases hj:j > i
 ·rw [if_pos hj,if_pos hj];exact ⟨_,rfl⟩
 ·rw [if_neg hj,if_neg hj];exact ⟨_,rfl⟩
theorem call_min2 (hc:X.calm=true):CallR X (.builtin "min") (fun xs H Q=>∃ i j,xs=[.int i,.int j]∧Q (.int (if j < i then j else i)) H):=by
 intro pins s σ H xs us Q I r h
 obtain ⟨i,j,rfl,q⟩:=h
 obtain ⟨u,w',rfl,⟨t,rfl⟩,⟨t',rfl⟩⟩:=vals2 r
 refine min_two_ints (I.ok.hd hc) fun h' tk k=>⟨_,H,I.kept k,?_,q⟩
 by_cases hj:j < i
 ·rw [if_pos hj,if_pos hj];exact ⟨_,rfl⟩
 ·rw [if_neg hj,if_neg hj];exact ⟨_,rfl⟩
end
end L2
namespace L2
open PySem PySem.Spec PyProof.Rows
structure ObjM (h:Heap) (x dx C:Addr) (mA:Str->Option Value):Prop where
 obj:h.get? x=some (PySem.W.instObj C dx)
 ns:h.Ns1 dx mA
 ne:dx ≠ x
theorem lookIn_ns {h:Heap}{dx:Addr}{mA:Str->Option Value}(n:h.Ns1 dx mA):∃ od,h.get? dx=some od∧∀ name,PySem.W.lookIn name od=some (mA name):=by
 obtain ⟨o,es,ep,ho,hd,hk,_,hm⟩:=n
 refine ⟨o,ho,fun name=>?_⟩
 have e:=hm name
 unfold nsFind findBy at e
 rw [←Array.find?_toList] at e
 unfold PySem.W.lookIn
 rw [hd]
 dsimp only
 split
 ·rename_i y q
  rw [q] at e
  exact congrArg some e
 ·rename_i q
  rw [q] at e
  have a:es.toList.any (·.refKey)=false:=by
   rw [List.any_eq_false]
   intro y hy
   obtain ⟨z,t,hkey⟩:=hk y (Array.mem_toList_iff.mp hy)
   simp [DictEntry.refKey,hkey]
  have a':¬ es.toList.any (·.refKey)=true:=by rw [a];exact Bool.false_ne_true
  rw [if_neg a']
  exact congrArg some e
theorem ObjM.look {h:Heap}{x dx C:Addr}{mA:Str->Option Value}(I:ObjM h x dx C mA):∃ od,PySem.W.InstAt h x (PySem.W.instObj C dx) C (some od)∧∀ name,PySem.W.lookIn name od=some (mA name):=
 let ⟨od,ho,hl⟩:=lookIn_ns I.ns
 ⟨od,⟨I.obj,rfl,rfl,ho⟩,hl⟩
section
variable {prog:Program}{w:World}{A:Around}{E:Value->Shared->Prop}{s:Shared}{K:PySem.W.Frag}{x dx C f:Addr}{mA:Str->Option Value}{name:Str}{v:Value}
theorem get_map {expr:Bool}{Q:Value->Shared->Prop}(X:K.In s.heap) (I:ObjM s.heap x dx C mA) (hg:PySem.W.plainGet K C name=true) (hh:PySem.W.hasDictIn K C=true)
  (ha:PySem.W.findIn K (.ref C) name=some none) (hv:mA name=some v) (hv':PySem.W.handedIn v=true) (h:Q v { s with toks:=s.toks+1 }) :
  wpAny (model prog w) A (getAttr (.ref x) name expr) Q E s:=by
 obtain ⟨od,J,hl⟩:=I.look
 exact PySem.W.get_value X J (PySem.W.plainGet_of hg).1 (PySem.W.findObj_own hh ha rfl (by rw [hl,hv])) hv' h
theorem get_meth {pl:Sem Bool}{Q:Value × List Value->Shared->Prop}(X:K.In s.heap) (I:ObjM s.heap x dx C mA) (hg:PySem.W.plainGet K C name=true)
  (hf:PySem.W.findIn K (.ref C) name=some (some (.ref f))) (ht:PySem.W.isFn K (.ref f)=true) (hv:mA name=none) (h:Q (.ref f,[.ref x]) s) :
  wpAny (model prog w) A (getMethod (.ref x) name pl) Q E s:=by
 obtain ⟨od,J,hl⟩:=I.look
 exact PySem.W.method_fn X J (PySem.W.plainGet_of hg).1 (PySem.W.plainGet_of hg).2 hf (beq_iff_eq.mp ht) (by show (PySem.W.lookIn name od).map (·.isSome)=some false;rw [hl,hv];rfl) h
theorem set_map {ns:List Str}{Q:Unit->Shared->Prop}(X:K.In s.heap) (I:ObjM s.heap x dx C mA)
  (hs:PySem.W.findIn K (.ref C) "__setattr__"=some (some (.builtin "object.__setattr__"))) (hp:PySem.W.plainOver K C=true) (ht:PySem.W.takerIn K C name=some none) (hh:PySem.W.hasDictIn K C=true)
  (hw:PySem.Within mA ns) (hsz:ns.length≤sizeLine)
  (h:∀ h',ObjM h' x dx C (fun y=>if y=name then some v else mA y)->Heap.SameBut dx s.heap h'->Q () { s with heap:=h',toks:=s.toks+2 }) :
  wpAny (model prog w) A (setAttr (.ref x) name v) Q E s:=by
 obtain ⟨od,J,hl⟩:=I.look
 refine PySem.W.set_plain X J hs (PySem.W.osa_open (s:={ s with toks:=s.toks+1 }) (r:=none) X J hp ht fun b=>?_)
 obtain ⟨cd,hc,hd'⟩:=PySem.W.any_some hh
 have hx:s.heap.get? x=some ⟨.ref C,some dx,.plain,#[]⟩:=I.obj
 refine wpAny_bind (wpAny_pure (wpAny_bind (wpAny_bind (wpAny_loadPart hx (wpAny_bind (PySem.W.Looks.here (s:={ s with toks:=s.toks+1 }) (PySem.W.looks_clsIn X hc) ?_))))))
 rw [hd']
 refine wpAny_pure (a:=some dx) (wpAny_bind (wpAny_pure (wpAny_bind ?_)))
 refine wpAny_nsSet1 (s:={ s with toks:=s.toks+1 }) I.ns fun h' hn2 hs2=>?_
 obtain ⟨oD,esD,epD,hoD,hdD,hcD⟩:=hn2.count (PySem.Within.cons name v hw)
 refine wpAny_bind (wpAny_lookBehind hoD (by rw [hdD];exact pastItsLine_dict (Nat.le_trans hcD (by rw [List.length_cons];omega))) ?_)
 exact wpAny_pure (h _ ⟨(hs2.2 _ (Ne.symm I.ne)).trans I.obj,hn2,I.ne⟩ hs2)
theorem make_map {R:Result->Shared->Prop}{vs:List Value}{kw:List (Str × Value)}(X:K.In s.heap) (hm:PySem.W.makesIn K C=true)
  (hi:PySem.W.findIn K (.ref C) "__init__"=some (some (.ref f))) (hf:PySem.W.typeIn K (.ref f)=some (.type "function"))
  (h:codeAny (model prog w) (A.under (.builtin "type.__call__" ⟨.ref C::vs,kw⟩)) (.call (.ref f) ⟨.ref (s.heap.objs.size+1)::vs,kw⟩) (PySem.W.InitBack (s.heap.objs.size+1) R)
   { s with heap:=(s.heap.push PySem.W.emptyDict).push (PySem.W.instObj C s.heap.objs.size) }) :
  codeAny (model prog w) A (.call (.ref C) ⟨vs,kw⟩) R s:=by
 obtain ⟨hh,g,d,t,os⟩:=s
 exact PySem.W.make_core (PySem.W.makes_of X hm) (PySem.W.looks_findIn X hi) (fun self=>PySem.W.bind_fn X self hf) (.inl rfl) h
end
def putF (f:Str) (v:V):List (Str × V)->List (Str × V)
 | []=>[(f,v)]
 | (g,x)::r=>if g=f then (g,v)::r else (g,x)::putF f v r
theorem lookup_putF (f g:Str) (v:V):∀ fs:List (Str × V),(putF f v fs).lookup g=if g=f then some v else fs.lookup g
 | []=>by
  show List.lookup g [(f,v)]=_
  by_cases h:g=f
  ·have hb:(g == f)=true:=beq_iff_eq.mpr h
   simp only [List.lookup,hb,if_pos h]
  ·have hb:(g == f)=false:=beq_eq_false_iff_ne.mpr h
   simp only [List.lookup,hb,if_neg h]
 | (k,x)::r=>by
  have ih:=lookup_putF f g v r
  rw [show putF f v ((k,x)::r)=(if k=f then (k,v)::r else (k,x)::putF f v r) from rfl]
  by_cases hk:k=f
  ·rw [if_pos hk]
   by_cases h:g=k
   ·have hb:(g == k)=true:=beq_iff_eq.mpr h
    simp only [List.lookup,hb,if_pos (h.trans hk)]
   ·have hb:(g == k)=false:=beq_eq_false_iff_ne.mpr h
    simp only [List.lookup,hb,if_neg (fun e:g=f=>h (e.trans hk.symm))]
  ·rw [if_neg hk]
   by_cases h:g=k
   ·have hb:(g == k)=true:=beq_iff_eq.mpr h
    simp only [List.lookup,hb,if_neg (fun e:g=f=>hk (h.symm.trans e))]
   ·have hb:(g == k)=false:=beq_eq_false_iff_ne.mpr h
    simp only [List.lookup,hb]
    exact ih
theorem keys_putF (f:Str) (v:V):∀ fs:List (Str × V),f∈(putF f v fs).map (·.1)∧∀ g,g∈fs.map (·.1)->g∈(putF f v fs).map (·.1)
 | []=>⟨by simp [putF],fun g h=>by simp at h⟩
 | (k,x)::r=>by
  obtain ⟨i1,i2⟩:=keys_putF f v r
  rw [show putF f v ((k,x)::r)=(if k=f then (k,v)::r else (k,x)::putF f v r) from rfl]
  by_cases hk:k=f
  ·rw [if_pos hk]
   subst hk
   exact ⟨by simp,fun g h=>by simpa using h⟩
  ·rw [if_neg hk]
   refine ⟨?_,fun g h=>?_⟩
   ·rw [List.map_cons]
    exact List.mem_cons_of_mem _ i1
   ·rw [List.map_cons] at h ⊢
    rcases List.mem_cons.mp h with e|e
    ·exact List.mem_cons.mpr (.inl e)
    ·exact List.mem_cons_of_mem _ (i2 g e)
theorem length_putF (f:Str) (v:V):∀ fs:List (Str × V),(putF f v fs).length≤fs.length+1
 | []=>by simp [putF]
 | (k,x)::r=>by
  have ih:=length_putF f v r
  rw [show putF f v ((k,x)::r)=(if k=f then (k,v)::r else (k,x)::putF f v r) from rfl]
  by_cases hk:k=f
  ·rw [if_pos hk,List.length_cons,List.length_cons];omega
  ·rw [if_neg hk,List.length_cons,List.length_cons];omega
theorem RelO.some_of {v:V}{o:Option Value}(r:RelO (some v) o):∃ u,o=some u∧RelV v u:=by
 cases o with
 | none=>exact (show False from r).elim
 | some u=>exact ⟨u,rfl,r⟩
theorem RelO.none_of {o:Option Value}(r:RelO none o):o=none:=by
 cases o with
 | none=>rfl
 | some u=>exact (show False from r).elim
theorem handed_of {v:V}{u:Value}(r:RelV v u):PySem.W.handedIn u=true:=by
 cases v with
 | non=>cases (show u=Value.none from r);rfl
 | bl b=>cases (show u=Value.bool b from r);rfl
 | int i=>obtain ⟨t,e⟩:=(show ∃ t,u=Value.int i t from r);cases e;rfl
 | str x=>obtain ⟨t,e⟩:=(show ∃ t,u=Value.str x t from r);cases e;rfl
 | byt b=>obtain ⟨t,e⟩:=(show ∃ t,u=Value.bytes b t from r);cases e;rfl
 | flt b=>obtain ⟨t,e⟩:=(show ∃ t,u=Value.float b t from r);cases e;rfl
 | ref a=>cases (show u=Value.ref a from r);rfl
 | ty n=>cases (show u=Value.type n from r);rfl
section
variable {P:Program}{w:World}{H H':Hp}{h h':Heap}{a C dx:Addr}{fs fs':List (Str × V)}
theorem ins_get (hok:HOk P w H h) (e:H a=some (.ins C dx fs)):∃ mA,ObjM h a dx C mA∧(∀ f,RelO (fs.lookup f) (mA f))∧PySem.Within mA (fs.map (·.1))∧fs.length≤1000∧H dx=some (.own a):=by
 obtain ⟨d,z,ne,ob,mA,n,r,q⟩:=(show ObjOk P w H h a (.ins C dx fs) from hok a _ e)
 exact ⟨mA,⟨ob,n,ne⟩,r,q,z,d⟩
end
structure Cls (K:PySem.W.Frag) (C:Addr):Prop where
 pg:PySem.W.plainGet K C Str.empty=true
 hd:PySem.W.hasDictIn K C=true
 po:PySem.W.plainOver K C=true
 sa:PySem.W.findIn K (.ref C) "__setattr__"=some (some (.builtin "object.__setattr__"))
theorem Cls.get {K:PySem.W.Frag}{C:Addr}(c:Cls K C) (f:Str):PySem.W.plainGet K C f=true:=c.pg
def NoAttr (K:PySem.W.Frag) (C:Addr) (f:Str):Prop:=PySem.W.findIn K (.ref C) f=some none
theorem NoAttr.taker {K:PySem.W.Frag}{C:Addr}{f:Str}(n:NoAttr K C f):PySem.W.takerIn K C f=some none:=by
 unfold PySem.W.takerIn
 rw [show PySem.W.findIn K (.ref C) f=some none from n]
 rfl
structure Meth (K:PySem.W.Frag) (C:Addr) (m:Str) (f:Addr):Prop where
 at_:PySem.W.findIn K (.ref C) m=some (some (.ref f))
 fn:PySem.W.isFn K (.ref f)=true
 kp:PySem.W.keepIn K (.ref f)=true
section
variable {X:Cx}{pins:List (Addr × Obj)}{σ:St}{H:Hp}{s:Shared}{a C dx:Addr}{fs:List (Str × V)}{f:Str}{v:V}{A:Around}{E:Value->Shared->Prop}
theorem getattr_ok {b:Bool}{Q:Value->Shared->Prop}(I:Inv X pins σ H s) (e:H a=some (.ins C dx fs)) (c:Cls X.K C) (n:NoAttr X.K C f) (l:fs.lookup f=some v)
  (h:∀ u s',Inv X pins σ H s'->RelV v u->Q u s'):wpAny (model X.prog X.w) A (getAttr (.ref a) f b) Q E s:=by
 obtain ⟨mA,O,r,_,_,_⟩:=ins_get I.hok e
 obtain ⟨u,hu,ru⟩:=RelO.some_of (v:=v) (o:=mA f) (by rw [←l];exact r f)
 exact get_map I.kIn O (c.get f) c.hd n hu (handed_of ru) (h u _ (I.tok _) ru)
theorem getmeth_ok {m:Str}{g:Addr}{pl:Sem Bool}{Q:Value × List Value->Shared->Prop}(I:Inv X pins σ H s) (e:H a=some (.ins C dx fs)) (c:Cls X.K C) (k:Meth X.K C m g) (l:fs.lookup m=none)
  (h:Q (.ref g,[.ref a]) s):wpAny (model X.prog X.w) A (getMethod (.ref a) m pl) Q E s:=by
 obtain ⟨mA,O,r,_,_,_⟩:=ins_get I.hok e
 have hn:mA m=none:=RelO.none_of (by rw [←l];exact r m)
 exact get_meth I.kIn O (c.get m) k.at_ k.fn hn h
theorem setattr_ok {y:V}{u:Value}{Q:Unit->Shared->Prop}(I:Inv X pins σ H s) (e:H a=some (.ins C dx fs)) (c:Cls X.K C) (n:NoAttr X.K C f) (hl:fs.length < 1000) (ry:RelV y u)
  (h:∀ s',Inv X pins σ (upd H a (.ins C dx (putF f y fs))) s'->Q () s'):wpAny (model X.prog X.w) A (setAttr (.ref a) f u) Q E s:=by
 obtain ⟨mA,O,r,wi,_,ho⟩:=ins_get I.hok e
 have hz:(fs.map (·.1)).length≤sizeLine:=by rw [List.length_map,sizeLine_eq];omega
 refine set_map I.kIn O c.sa c.po n.taker c.hd wi hz fun h' O' sb=>h _ ?_
 have hd:∃ o,h'.get? dx=some o:=let ⟨o,_,_,e',_⟩:=O'.ns;⟨o,e'⟩
 refine I.write (x:=a) (e:=dx) (by rw [e];exact True.intro) (.inr ho) (fun b q hb z=>(sb.2 b hb).trans z) hd ?_
 refine ⟨by rw [upd_ne O.ne];exact ho,?_,O.ne,O'.obj,_,O'.ns,fun g=>?_,fun g hg=>?_⟩
 ·have:=length_putF f y fs;omega
 ·show RelO ((putF f y fs).lookup g) (if g=f then some u else mA g)
  rw [lookup_putF]
  by_cases q:g=f
  ·rw [if_pos q,if_pos q];exact ry
  ·rw [if_neg q,if_neg q];exact r g
 ·by_cases q:g=f
  ·rw [q];exact (keys_putF f y fs).1
  ·refine (keys_putF f y fs).2 g (wi g fun z=>hg ?_)
   show (if g=f then some u else mA g)=none
   rw [if_neg q];exact z
theorem Inv.made (I:Inv X pins σ H s):Inv X pins σ (upd (upd H s.heap.objs.size (.own (s.heap.objs.size+1))) (s.heap.objs.size+1) (.ins C s.heap.objs.size []))
  { s with heap:=(s.heap.push PySem.W.emptyDict).push (PySem.W.instObj C s.heap.objs.size) }:=by
 have e1:(s.heap.push PySem.W.emptyDict).get? s.heap.objs.size=some PySem.W.emptyDict:=Heap.get?_push_size s.heap rfl
 have e2:((s.heap.push PySem.W.emptyDict).push (PySem.W.instObj C s.heap.objs.size)).get? (s.heap.objs.size+1)=some (PySem.W.instObj C s.heap.objs.size):=by
  have:=Heap.get?_push_size (s.heap.push PySem.W.emptyDict) (o:=PySem.W.instObj C s.heap.objs.size) rfl
  rwa [Heap.size_push] at this
 have e3:(s.heap.push PySem.W.emptyDict).Ns s.heap.objs.size (fun _=>none):=⟨PySem.W.emptyDict,#[],_,e1,rfl,(fun e he=>absurd he (by simp)),fun _=>rfl⟩
 have I1:=I.laid (a:=s.heap.objs.size) (o:=.own (s.heap.objs.size+1)) (h':=s.heap.push PySem.W.emptyDict) (t':=s.toks) (fun b u q=>Heap.get?_push_of_some _ q) (Nat.le_refl _) ⟨_,e1⟩
 refine I1.laid (a:=s.heap.objs.size+1) (o:=.ins C s.heap.objs.size []) (t':=s.toks) (fun b u q=>Heap.get?_push_of_some _ q) (Nat.le_of_eq (Heap.size_push _ _)) ?_
 have ne:s.heap.objs.size ≠ s.heap.objs.size+1:=Nat.ne_of_lt (Nat.lt_succ_self _)
 refine ⟨by rw [upd_ne ne,upd_same],Nat.zero_le _,ne,e2,fun _=>none,(Heap.Ns1.of_empty e3).at fun o q=>Heap.get?_push_of_some _ q,fun _=>True.intro,fun y hy=>absurd rfl hy⟩
theorem attr_of {prog:Program}{w:World}{env:Env}{e:Expr}{f:Str}{pos:Pos}{s:Shared}{Q:Value->Shared->Prop}(hb:attributeBase e f env (eval e env)=eval e env)
  (h:wpAny (model prog w) A (eval e env) (fun o s₁=>wpAny (model prog w) A (getAttr o f true) Q E s₁) E s):wpAny (model prog w) A (eval (.Attribute e f pos) env) Q E s:=
 Attribute_any_ h (by rw [arm_eval_Attribute,hb])
end
section
variable {X:Cx}{o e value:Expr}{f:Str}{pos pos' tpos:Pos}{ta tv:TE}
end
section
variable {X:Cx}{pins:List (Addr × Obj)}{σ:St}{H:Hp}{s:Shared}{A:Around}{E:Value->Shared->Prop}{Q:Value->Shared->Prop}{c:Value}{b:Bool}
inductive TyOf (K:PySem.W.Frag) (H:Hp):V->Value->Prop where
 | non:TyOf K H .non (.type "NoneType")
 | bl (x:Bool):TyOf K H (.bl x) (.type "bool")
 | int (i:Int):TyOf K H (.int i) (.type "int")
 | str (x:Str):TyOf K H (.str x) (.type "str")
 | flt (x:UInt64):TyOf K H (.flt x) (.type "float")
 | lst {a:Addr} {xs:List V} (e:H a=some (.lst xs)):TyOf K H (.ref a) (.type "list")
 | frz {a:Addr} {o:Obj} {xs:List V} (e:H a=some (.frz o (.lst xs))):TyOf K H (.ref a) (.type "list")
 | tup {a:Addr} {xs:List V} (e:H a=some (.tup xs)):TyOf K H (.ref a) (.type "tuple")
 | dK {a:Addr} {kvs:List (Key × V)} (e:H a=some (.dK kvs)):TyOf K H (.ref a) (.type "dict")
 | dT {a:Addr} {kvs:List (List Key × V)} (e:H a=some (.dT kvs)):TyOf K H (.ref a) (.type "dict")
 | ins {a C dx:Addr} {fs:List (Str × V)} (e:H a=some (.ins C dx fs)) (cl:Cls K C) (ha:PySem.W.findIn K (.ref C) "__class__"=some (some (.builtin "object.__class__")))
   (hn:PySem.W.specialIn K (.builtin "object.__class__") "__get__"=some (some (.builtin "getset_descriptor.__get__"))) (htk:PySem.W.takesIn K (.builtin "object.__class__")=some true)
   (hm:PySem.W.mroIn K C (.type "object")=some true):TyOf K H (.ref a) (.ref C)
theorem isinst_ok {x:V}{u t:Value}(I:Inv X pins σ H s) (rx:RelV x u) (ty:TyOf X.K H x t) (e:PySem.W.kitOne X.K t c=some b) (h:∀ tk,Q (.bool b) { s with toks:=tk }) :
  wpAny (model X.prog X.w) A (call (.builtin "isinstance") [u,c]) Q E s:=by
 cases ty with
 | non=>cases (show u=Value.none from rx);exact PySem.W.kia_one PySem.W.kitx_none I.kIn True.intro e (fun z=>nomatch z) h
 | bl y=>cases (show u=Value.bool y from rx);exact PySem.W.kia_one PySem.W.kitx_bool I.kIn True.intro e (fun z=>nomatch z) h
 | int i=>obtain ⟨t,q⟩:=(show ∃ t,u=Value.int i t from rx);cases q;exact PySem.W.kia_one PySem.W.kitx_int I.kIn True.intro e (fun z=>nomatch z) h
 | str y=>obtain ⟨t,q⟩:=(show ∃ t,u=Value.str y t from rx);cases q;exact PySem.W.kia_one PySem.W.kitx_str I.kIn True.intro e (fun z=>nomatch z) h
 | flt y=>obtain ⟨t,q⟩:=(show ∃ t,u=Value.float y t from rx);cases q;exact PySem.W.kia_one PySem.W.kitx_float I.kIn True.intro e (fun z=>nomatch z) h
 | @lst a xs ea=>
  cases (show u=Value.ref a from rx)
  obtain ⟨_,_,n,_,h1⟩:=(show ObjOk X.prog X.w H s.heap a (.lst xs) from I.hok a _ ea)
  exact PySem.W.kia_one PySem.W.kitx_list I.kIn ⟨_,h1,rfl⟩ e (fun z=>nomatch z) h
 | @frz a ob xs ea=>
  cases (show u=Value.ref a from rx)
  obtain ⟨_,_,_,n,_,h1⟩:=(show ObjOk X.prog X.w H s.heap a (.frz ob (.lst xs)) from I.hok a _ ea)
  exact PySem.W.kia_one PySem.W.kitx_list I.kIn ⟨_,h1,rfl⟩ e (fun z=>nomatch z) h
 | @tup a xs ea=>
  cases (show u=Value.ref a from rx)
  obtain ⟨_,_,_,p⟩:=(show ObjOk X.prog X.w H s.heap a (.tup xs) from I.hok a _ ea)
  obtain ⟨o,h1,h2,_⟩:=p
  exact PySem.W.kia_one PySem.W.kitx_tuple I.kIn ⟨o,h1,h2⟩ e (fun z=>nomatch z) h
 | @dK a kvs ea=>
  cases (show u=Value.ref a from rx)
  obtain ⟨_,_,vs,_,p⟩:=(show ObjOk X.prog X.w H s.heap a (.dK kvs) from I.hok a _ ea)
  obtain ⟨o,es,ep,h1,h2,_⟩:=p
  exact PySem.W.kia_one PySem.W.kitx_dict I.kIn ⟨o,h1,h2.1⟩ e (fun z=>nomatch z) h
 | @dT a kvs ea=>
  cases (show u=Value.ref a from rx)
  obtain ⟨_,_,xs,_,o,es,ep,h1,h2,_⟩:=(show ObjOk X.prog X.w H s.heap a (.dT kvs) from I.hok a _ ea)
  exact PySem.W.kia_one PySem.W.kitx_dict I.kIn ⟨o,h1,h2.1⟩ e (fun z=>nomatch z) h
 | @ins a C dx fs ea cl ha hn htk hm=>
  cases (show u=Value.ref a from rx)
  obtain ⟨mA,O,_⟩:=ins_get I.hok ea
  obtain ⟨od,J,_⟩:=O.look
  exact PySem.W.kia_one (PySem.W.kitx_own (cl.get _) cl.hd ha hn htk hm) I.kIn J e (fun z=>nomatch z) h
end
end L2
namespace L2
open PySem PySem.Spec PyProof.Rows
structure Room (k:Nat) (A:Around):Prop where
 hd:A.handled=none
 dp:A.depth+3 * k+5 < recursionLimit
 un:A.units+16 * k+200 < cLine
theorem Room.mono {j k:Nat}{A:Around}(r:Room k A) (h:j≤k):Room j A:=⟨r.hd,by have:=r.dp;omega,by have:=r.un;omega⟩
theorem Room.deeper {k:Nat}{A:Around}(r:Room (k+1) A) (env:Env):Room k (A.deeper env):=
 ⟨r.hd,by have:=r.dp;show A.depth+1+3 * k+5 < _;omega,by have:=r.un;show A.units+3+16 * k+200 < _;omega⟩
theorem make_depth {A:Around}{C:Addr}{us:List Value}{kw:List (Str × Value)}:(A.under (.builtin "type.__call__" ⟨.ref C::us,kw⟩)).depth=A.depth+1:=by
 first|rfl|simp [Around.under,Code.weight,Code.isCreation,Code.isGuard,Code.isCaller,Code.frames,Code.isFrame,guardIds]
theorem make_units {A:Around}{C:Addr}{us:List Value}{kw:List (Str × Value)}:(A.under (.builtin "type.__call__" ⟨.ref C::us,kw⟩)).units=A.units+1:=by
 first|rfl|simp [Around.under,Code.cUnits,Code.frames,Code.isFrame]
theorem Room.make {k:Nat}{A:Around}(r:Room (k+1) A) (C:Addr) (us:List Value) (kw:List (Str × Value)):Room k (A.under (.builtin "type.__call__" ⟨.ref C::us,kw⟩)):=
 ⟨r.hd,by have:=r.dp;rw [make_depth];omega,by have:=r.un;rw [make_units];omega⟩
theorem Room.depth {k:Nat}{A:Around}(r:Room k A):A.depth < recursionLimit:=by have:=r.dp;omega
theorem Room.units {k:Nat}{A:Around}(r:Room k A):A.units+64 < cLine:=by have:=r.un;omega
def tNil:TA:=fun _ H Q=>Q [] H
def tCons (ta:TE) (tr:TA):TA:=fun σ H Q=>ta σ H fun x H1=>tr σ H1 fun xs H2=>Q (x::xs) H2
section
variable {X:Cx}{e:Expr}{es:List Expr}{te:TE}{t:TA}{pos:Pos}
theorem pa_nil:PA X [] tNil:=fun _ _ _ _ H Q I h=>Calls.spliced_nil ⟨[],H,I,.nil,h⟩
theorem pa_cons (ha:PE X e te) (hr:PA X es t) (hs:starEach (e::es) X.env=(false,eval e X.env)::starEach es X.env:=by rfl):PA X (e::es) (tCons te t):=by
 intro pos pins s σ H Q I h
 rw [hs]
 show wpAny _ _ (spliced ((false,eval e X.env)::backTo pos (starEach es X.env))) _ _ s
 refine Calls.spliced_cons (thn (ha pins s σ H _ I h) fun u s1 ⟨x,H1,I1,r1,q1⟩=>?_)
 exact thn (hr pos pins s1 σ H1 _ I1 q1) fun us s2 ⟨xs,H2,I2,r2,q2⟩=>⟨x::xs,H2,I2,.cons r1 r2,q2⟩
end
abbrev Sp:=List V->Hp->VK->XK->Prop
abbrev CXT:=List Env->Hp->Shared->XK->Value->Shared->Prop
structure Env0 (P:Program) (w:World) (K:PySem.W.Frag) (mg:Str->Option Value) (base:Heap) (A:Around) (outer:List Env) (s:Shared) (H:Hp):Prop where
 frames:A.frames=some outer
 mod:Mod K mg base
 bs:∀ b o,base.get? b=some o->s.heap.get? b=some o∧H b=none
 bsz:base.objs.size≤s.heap.objs.size
 funs:s.heap.FunFrames base outer
 frf:∀ b∈frs outer,H b=none
 hok:HOk P w H s.heap
 bare:AllBare s.gens
def CE (outer:List Env) (P:Program) (w:World) (H:Hp) (s:Shared) (Q:VK) (u:Value) (s':Shared):Prop:=
 ∃ v H',s'.os=s.os∧AllBare s'.gens∧Un (frs outer) [] H H' s.heap s'.heap∧HOk P w H' s'.heap∧RelV v u∧Q v H'
def CR (CX:CXT) (outer:List Env) (P:Program) (w:World) (H:Hp) (s:Shared) (Q:VK) (E:XK) (r:Result) (s':Shared):Prop:=
 match r with
 | .ok (.ret u)=>CE outer P w H s Q u s'
 | .ok _=>False
 | .error e=>CX outer H s E e s'
structure FnOk (P:Program) (w:World) (K:PySem.W.Frag) (mg:Str->Option Value) (base:Heap) (CX:CXT) (k:Nat) (f:Addr) (fd:FuncData) (ps:List Str) (sp:Sp):Prop where
 len:∀ vs H Q E,sp vs H Q E->vs.length=ps.length
 run:∀ (A:Around) (outer:List Env) (s:Shared) (H:Hp) (args:Args) (us:List Value) (vs:List V) (Q:VK) (E:XK),Room k A->Env0 P w K mg base A outer s H->BindsTo s fd args (ps.zip us)->Vals vs us->sp vs H Q E →
  codeAny (model P w) A (.call (.ref f) args) (CR CX outer P w H s Q E) s
theorem FnOk.imp {P:Program}{w:World}{K:PySem.W.Frag}{mg:Str->Option Value}{base:Heap}{CX:CXT}{k:Nat}{f:Addr}{fd:FuncData}{ps:List Str}{sp sp':Sp}(F:FnOk P w K mg base CX k f fd ps sp)
  (h:∀ vs H Q E,sp' vs H Q E->sp vs H Q E):FnOk P w K mg base CX k f fd ps sp':=
 ⟨fun vs H Q E q=>F.len vs H Q E (h _ _ _ _ q),fun A outer s H args us vs Q E hr he hb hv hs=>F.run A outer s H args us vs Q E hr he hb hv (h _ _ _ _ hs)⟩
theorem Env0.make {P:Program}{w:World}{K:PySem.W.Frag}{mg:Str->Option Value}{base:Heap}{A:Around}{outer:List Env}{s:Shared}{H:Hp}(e:Env0 P w K mg base A outer s H) (C:Addr) (us:List Value) (kw:List (Str × Value)) :
  Env0 P w K mg base (A.under (.builtin "type.__call__" ⟨.ref C::us,kw⟩)) outer s H:=⟨by first|exact e.frames|(simpa [Around.under,Code.envs,Code.isFrame,pushEnvs] using e.frames),e.mod,e.bs,e.bsz,e.funs,e.frf,e.hok,e.bare⟩
section
variable {X:Cx}{pins:List (Addr × Obj)}{σ:St}{H:Hp}{s s':Shared}
theorem Inv.env0 (I:Inv X pins σ H s):Env0 X.prog X.w X.K X.mg X.base X.A X.stack s H:=
 ⟨I.ok.frames,I.ok.mod,I.bs,Nat.le_trans I.ok.bsz I.sz,I.stack,I.stkFree,I.hok,I.bare⟩
theorem Inv.after {Q:VK}{u:Value}(I:Inv X pins σ H s) (h:CE X.stack X.prog X.w H s Q u s'):EP X pins σ Q u s':=by
 obtain ⟨v,H',os,bare,un,hok,r,q⟩:=h
 obtain ⟨hh,g,d,t,os'⟩:=s'
 obtain rfl:os'=s.os:=os
 exact ⟨v,H',I.call (h':=hh) (g':=g) (d':=d) (t':=t) (ch:=[]) un hok bare (fun b z=>absurd z (by simp)),r,q⟩
end
def tCall (sp:Sp) (dvs:List V) (E:XK) (t:TA):TE:=fun σ H Q=>t σ H fun vs H1=>sp (vs++dvs) H1 Q E
def Binds (K:PySem.W.Frag) (fd:FuncData) (ps:List Str) (ds:List Value):Prop:=
 ∀ (s:Shared) (us:List Value),K.In s.heap->(us++ds).length=ps.length->BindsTo s fd ⟨us,[]⟩ (ps.zip (us++ds))
theorem Binds.all {K:PySem.W.Frag}{fd:FuncData}{ps:List Str}(h:∀ us:List Value,us.length=ps.length->bindArgs fd ⟨us,[]⟩=pure (ps.zip us)):Binds K fd ps []:=fun s us _ hl=>by
 rw [List.append_nil] at hl ⊢
 exact .of_eq (h us hl)
def Passes (CX:CXT) (X:Cx) (E:XK):Prop:=∀ (pins:List (Addr × Obj)) (σ:St) (H:Hp) (s:Shared) (e:Value) (s':Shared),Inv X pins σ H s->CX X.stack H s E e s'->X.xe e s'
section
variable {X:Cx}{CX:CXT}{k:Nat}{f C:Addr}{fd:FuncData}{ps:List Str}{sp:Sp}{dvs:List V}{ds:List Value}{E:XK}{x m:Str}{p pos apos:Pos}{e o:Expr}{es:List Expr}{ta:TE}{t:TA}
theorem run_fn {pins:List (Addr × Obj)}{σ:St}{H:Hp}{s:Shared}{Q:VK}{us:List Value}{vs:List V}(F:FnOk X.prog X.w X.K X.mg X.base CX k f fd ps sp) (hr:Room k X.A) (hb:Binds X.K fd ps ds) (hd:Vals dvs ds) (hx:Passes CX X E)
  (I:Inv X pins σ H s) (r:Vals vs us) (h:sp (vs++dvs) H Q E):wpAny (model X.prog X.w) X.A (call (.ref f) us) (EP X pins σ Q) X.xe s:=by
 have r2:Vals (vs++dvs) (us++ds):=r.append hd
 have hl:(us++ds).length=ps.length:=by rw [←r2.length];exact F.len _ _ _ _ h
 refine wpAny_call (codeAny_mono (F.run X.A X.stack s H ⟨us,[]⟩ (us++ds) (vs++dvs) Q E hr I.env0 (hb s us I.kIn hl) r2 h) fun r s' hq=>?_)
 cases r with
 | error e=>exact hx pins σ H s e s' I hq
 | ok fl=>
  cases fl with
  | ret u=>exact I.after hq
  | next=>exact False.elim hq
  | brk=>exact False.elim hq
  | cont=>exact False.elim hq
theorem pe_call (F:FnOk X.prog X.w X.K X.mg X.base CX k f fd ps sp) (hr:Room k X.A) (hg:Gl X x) (hm:X.mg x=some (.ref f)) (hk:PySem.W.keepIn X.K (.ref f)=true) (hb:Binds X.K fd ps ds) (hd:Vals dvs ds) (hx:Passes CX X E)
  (ha:PA X (e::es) t) (hdb:(x == ("__debug__":Str))=false:=by decide) (he:starEach (e::es) X.env=(false,eval e X.env)::starEach es X.env:=by rfl) (hpl:(backTo pos (starEach es X.env)).any (·.1)=false:=by rfl) :
  PE X (.Call (.Name x p) (e::es) [] pos) (tCall sp dvs E t):=by
 intro pins s σ H Q I h
 refine wpAny_Call_Name_kw (ld_glob I hg hm ?_ hdb)
 refine PySem.W.callWith_K (h₀:=X.base) I.ok.mod.kin hk (thn (ha pos pins s σ H _ I h) fun us s1 ⟨vs,H1,I1,r,q⟩=>⟨I1.kIn,?_⟩) he hpl
 exact run_fn F hr hb hd hx I1 r q
structure Mk (K:PySem.W.Frag) (C f:Addr):Prop where
 makes:PySem.W.makesIn K C=true
 init:PySem.W.findIn K (.ref C) "__init__"=some (some (.ref f))
 fn:PySem.W.isFn K (.ref f)=true
 kp:PySem.W.keepIn K (.ref C)=true
theorem run_make {pins:List (Addr × Obj)}{σ:St}{H:Hp}{s:Shared}{Q:VK}{us:List Value}{vs:List V}(M:Mk X.K C f) (F:FnOk X.prog X.w X.K X.mg X.base CX k f fd ps sp) (hr:Room (k+1) X.A) (hb:Binds X.K fd ps ds) (hd:Vals dvs ds)
  (hx:Passes CX X E) (I:Inv X pins σ H s) (r:Vals vs us)
  (h:∀ x dx,H x=none->H dx=none->dx ≠ x->sp (.ref x::(vs++dvs)) (upd (upd H dx (.own x)) x (.ins C dx [])) (fun v H2=>v=.non∧Q (.ref x) H2) E) :
  wpAny (model X.prog X.w) X.A (call (.ref C) us) (EP X pins σ Q) X.xe s:=by
 have hq:=h (s.heap.objs.size+1) s.heap.objs.size (I.hok.fresh (Nat.le_succ _)) (I.hok.fresh (Nat.le_refl _)) (Nat.ne_of_lt (Nat.lt_succ_self _))
 have I2:=Inv.made (C:=C) I
 have r2:Vals (V.ref (s.heap.objs.size+1)::(vs++dvs)) (Value.ref (s.heap.objs.size+1)::(us++ds)):=.cons rfl (r.append hd)
 have hl:(Value.ref (s.heap.objs.size+1)::us++ds).length=ps.length:=by
  have e:=r2.length
  rw [F.len _ _ _ _ hq] at e
  exact e.symm
 refine wpAny_call (make_map (f:=f) I.kIn M.makes M.init (beq_iff_eq.mp M.fn) (codeAny_mono (F.run _ X.stack _ _ ⟨Value.ref (s.heap.objs.size+1)::us,[]⟩ (Value.ref (s.heap.objs.size+1)::(us++ds)) _ _ E (hr.make C us [])
  (I2.env0.make C us []) (hb _ (Value.ref (s.heap.objs.size+1)::us) I2.kIn hl) r2 hq) fun r s' hq'=>?_))
 cases r with
 | error e=>exact hx pins σ _ _ e s' I2 hq'
 | ok fl=>
  cases fl with
  | ret u=>
   obtain ⟨v,H',I3,rv,ev,q3⟩:=I2.after hq'
   subst ev
   exact ⟨rv,⟨V.ref (s.heap.objs.size+1),H',I3,rfl,q3⟩⟩
  | next=>exact False.elim hq'
  | brk=>exact False.elim hq'
  | cont=>exact False.elim hq'
end
def PK (X:Cx) (kws:List Keyword) (t:TA):Prop:=
 ∀ (pos:Pos) (pins:List (Addr × Obj)) (s:Shared) (σ:St) (H:Hp) (Q:List V->Hp->Prop),Inv X pins σ H s->t σ H Q->wpAny (model X.prog X.w) X.A (evalAll ((backToKw pos (keywordEach kws X.env)).map (·.2))) (AP X pins σ Q) X.xe s
section
variable {X:Cx}{CX:CXT}{k:Nat}{f C:Addr}{fd:FuncData}{ps ks:List Str}{sp:Sp}{E:XK}{x m:Str}{p pos apos kpos:Pos}{e o:Expr}{es:List Expr}{kws:List Keyword}{te ta:TE}{t tk:TA}{nm:Option Str}
theorem pk_nil:PK X [] tNil:=fun _ _ _ _ H Q I h=>wpAny_evalAll_nil ⟨[],H,I,.nil,h⟩
theorem pk_cons (ha:PE X e te) (hr:PK X kws t):PK X (⟨nm,e,kpos⟩ :: kws) (tCons te t):=by
 intro pos pins s σ H Q I h
 show wpAny _ _ (evalAll ((do let v ←eval e X.env;standAt pos;pure v)::(backToKw pos (keywordEach kws X.env)).map (·.2))) _ _ s
 refine wpAny_evalAll_cons (wpAny_bind (thn (ha pins s σ H _ I h) fun u s1 ⟨x,H1,I1,r1,q1⟩=>wpAny_bind (wpAny_standAt (wpAny_pure ?_))))
 exact thn (hr pos pins s1 σ H1 _ I1 q1) fun us s2 ⟨xs,H2,I2,r2,q2⟩=>⟨x::xs,H2,I2,.cons r1 r2,q2⟩
variable {g:List Value->List Value->List Value}{gV:List V->List V->List V}
end
structure FnScope (N P:List Str) (sc:Scope):Prop where
 kind:sc.kind=.function
 co:sc.isCoroutine=false
 gen:sc.isGenerator=false
 nd:N.Nodup
 pre:N.take P.length=P
 par:∀ x∈P,sc.names.lookup x=some .local∨sc.names.lookup x=some .cell
 nofree:∀ y∈sc.names,y.2 ≠ .free
theorem bindL_out {kindOf:Str->Option NameKind}{x:Str}:∀ {binds:List (Str × Value)}{m:Str->Option Value},(∀ v,(x,v) ∉ binds)->bindL kindOf binds m x=m x
 | [],_,_=>rfl
 | (n,v)::r,m,h=>by
  unfold bindL
  rw [bindL_out fun w hw=>h w (List.mem_cons_of_mem _ hw)]
  split
  ·have:x ≠ n:=by rintro rfl;exact h v List.mem_cons_self
   simp [this]
  ·rfl
theorem bindC_out {kindOf:Str->Option NameKind}{x:Str}:∀ {binds:List (Str × Value)}{m:Str->Option Value},(∀ v,(x,v) ∉ binds)->bindC kindOf binds m x=m x
 | [],_,_=>rfl
 | (n,v)::r,m,h=>by
  unfold bindC
  rw [bindC_out fun w hw=>h w (List.mem_cons_of_mem _ hw)]
  split
  ·rfl
  ·have:x ≠ n:=by rintro rfl;exact h v List.mem_cons_self
   simp [this]
theorem bindL_get {kindOf:Str->Option NameKind}{x:Str}{v:Value}:∀ {P:List Str}{vs:List Value}{i:Nat}{m:Str->Option Value},P.Nodup->P[i]? = some x->vs[i]? = some v->kindOf x=some .local →
  bindL kindOf (P.zip vs) m x=some v
 | [],_,_,_,_,h,_,_=>by simp at h
 | _::_,[],_,_,_,_,h,_=>by simp at h
 | p::P,w::vs,0,m,nd,h1,h2,hk=>by
  simp at h1 h2;subst h1;subst h2
  show bindL kindOf ((p,w)::P.zip vs) m p=_
  unfold bindL
  rw [bindL_out fun v hv=>(List.nodup_cons.mp nd).1 (List.of_mem_zip hv).1,if_pos hk]
  simp
 | p::P,w::vs,i+1,m,nd,h1,h2,hk=>by
  show bindL kindOf ((p,w)::P.zip vs) m x=_
  unfold bindL
  exact bindL_get (i:=i) (List.nodup_cons.mp nd).2 (by simpa using h1) (by simpa using h2) hk
theorem bindC_get {kindOf:Str->Option NameKind}{x:Str}{v:Value}:∀ {P:List Str}{vs:List Value}{i:Nat}{m:Str->Option Value},P.Nodup->P[i]? = some x->vs[i]? = some v->kindOf x ≠ some .local →
  bindC kindOf (P.zip vs) m x=some v
 | [],_,_,_,_,h,_,_=>by simp at h
 | _::_,[],_,_,_,_,h,_=>by simp at h
 | p::P,w::vs,0,m,nd,h1,h2,hk=>by
  simp at h1 h2;subst h1;subst h2
  show bindC kindOf ((p,w)::P.zip vs) m p=_
  unfold bindC
  rw [bindC_out fun v hv=>(List.nodup_cons.mp nd).1 (List.of_mem_zip hv).1,if_neg hk]
  simp
 | p::P,w::vs,i+1,m,nd,h1,h2,hk=>by
  show bindC kindOf ((p,w)::P.zip vs) m x=_
  unfold bindC
  exact bindC_get (i:=i) (List.nodup_cons.mp nd).2 (by simpa using h1) (by simpa using h2) hk
def start (N:List Str) (vs:List V):St:=vs.map some++List.replicate (N.length - vs.length) none
def cxOf (CX:CXT) (P:Program) (w:World) (K:PySem.W.Frag) (mg:Str->Option Value) (base:Heap) (N:List Str) (qual:Str) (scope:Scope) (f:Addr) (cd:Value) (A:Around) (outer:List Env) (s:Shared) (H:Hp) (E:XK):Cx where
 prog:=P
 w:=w
 K:=K
 mg:=mg
 base:=base
 A:=A.deeper (envOfC qual scope s.heap.objs.size f cd)
 N:=N
 s₀:=s
 H₀:=H
 env:=envOfC qual scope s.heap.objs.size f cd
 outer:=outer
 stack:=envOfC qual scope s.heap.objs.size f cd::outer
 ex:=[]
 calm:=true
 fn:=fun _=>true
 pn:=[]
 xe:=fun e s'=>wpAny (model P w) (A.deeper (envOfC qual scope s.heap.objs.size f cd)) (leaving (envOfC qual scope s.heap.objs.size f cd) e) (fun _ s''=>CX outer H s E e s'') (fun e' s''=>CX outer H s E e' s'') s'
theorem cell_has {sc:Scope}{n:Nat}{x:Str}(h:sc.names.lookup x=some .cell):∃ c,(cellsFrom n sc.names []).lookup x=some c:=by
 have q:=PySem.W.cellsFrom_some sc.names n [] (.inl h)
 exact Option.isSome_iff_exists.mp q
theorem inv_start {CX:CXT}{P:Program}{w:World}{K:PySem.W.Frag}{mg:Str->Option Value}{base:Heap}{N ps:List Str}{qual:Str}{scope:Scope}{f:Addr}{cd:Value}{A:Around}{outer:List Env}{s s1:Shared}{H:Hp}{E:XK}{us:List Value}{vs:List V}
  (S:FnScope N ps scope) (hd:A.handled=none) (e0:Env0 P w K mg base A outer s H) (hl:vs.length=ps.length) (r:Vals vs us)
  (x:InCallC s s.heap.objs.size (bindL (envOfC qual scope s.heap.objs.size f cd).kindOf (ps.zip us) fun _=>none) (cellsFrom (s.heap.objs.size+1) scope.names []) (bindC (envOfC qual scope s.heap.objs.size f cd).kindOf (ps.zip us) fun _=>none) s1) :
  Inv (cxOf CX P w K mg base N qual scope f cd A outer s H E) [] (start N vs) H s1:=by
 have hpl:ps.length≤N.length:=by have:=congrArg List.length S.pre;rw [List.length_take] at this;omega
 obtain ⟨h1,tk,rfl,hk⟩:=x.done
 have noA:∀ b:Addr,b ∉ (cxOf CX P w K mg base N qual scope f cd A outer s H E).ex:=fun b z=>absurd (show b∈([]:List Addr) from z) (by simp)
 refine ⟨⟨e0.mod,S.kind,rfl,rfl,Nat.le_refl _,fun y z c h1 h2=>?_,fun y hy=>?_,fun y c _ h=>?_,fun _=>hd,Around.frames_deeper e0.frames,.inr ⟨rfl,rfl⟩,fun b z=>absurd z (noA b),e0.bs,e0.bsz,fun b _ _=>noA b,fun b z=>absurd z (noA b),e0.funs,e0.frf⟩,
  rfl,e0.bare,Un.kept hk,⟨_,x.toInCall.ns,fun i y v h1 h2 h3=>?_⟩,fun y c h=>⟨_,x.cell y c h⟩,e0.hok.fresh (Nat.le_refl _),fun y c h=>?_,fun p hp=>absurd (show p∈([]:List (Addr × Obj)) from hp) (by simp),e0.hok.kept hk,?_⟩
 ·exact name_of_addr x.apart (PySem.mem_of_lookup h1) (PySem.mem_of_lookup h2)
 ·have hy:scope.names.lookup y=some .cell∨scope.names.lookup y=some .free:=hy
  rcases hy with hy|hy
  ·exact cell_has hy
  ·exact absurd rfl (S.nofree _ (PySem.mem_of_lookup hy))
 ·exact Nat.le_of_lt (x.above y c (PySem.mem_of_lookup h))
 ·have hi:i < vs.length:=by
   unfold start at h2
   by_cases hi:i < vs.length
   ·exact hi
   ·rw [List.getElem?_append_right (by simpa using hi)] at h2
    rw [List.getElem?_replicate] at h2
    split at h2<;>cases h2
  have ha:vs[i]? = some v:=by
   unfold start at h2
   rw [List.getElem?_append_left (by simpa using hi),List.getElem?_map] at h2
   cases e:vs[i]? with
   | none=>rw [e] at h2;cases h2
   | some a=>rw [e] at h2;cases h2;rfl
  obtain ⟨u,hu,rv⟩:=r.get ha
  have hp:ps[i]? = some y:=by
   rw [←S.pre,List.getElem?_take_of_lt (by omega)];exact h1
  have ndP:ps.Nodup:=by rw [←S.pre];exact S.nd.sublist (List.take_sublist _ _)
  refine ⟨u,rv,?_⟩
  rcases S.par y (List.mem_of_getElem? hp) with k|k
  ·exact .inl ⟨k,bindL_get ndP hp hu k⟩
  ·obtain ⟨c,e⟩:=cell_has (n:=s.heap.objs.size+1) k
   refine .inr ⟨.inl k,c,e,?_⟩
   have q:=x.cell y c e
   rw [bindC_get ndP hp hu (by show scope.names.lookup y ≠ _;rw [k];decide)] at q
   exact q
 ·exact e0.hok.fresh (Nat.le_of_lt (x.above y c (PySem.mem_of_lookup h)))
 ·unfold start
  show _=N.length
  rw [List.length_append,List.length_map,List.length_replicate]
  omega
theorem fn_of {CX:CXT}{P:Program}{w:World}{K:PySem.W.Frag}{mg:Str->Option Value}{base:Heap}{k:Nat}{f:Addr}{name qual:Str}{params:Arguments}{body:List Stmt}{scope:Scope}{dV kV doc pm cdv ct oc:Value}{an od:Option Addr}
  {osl:Array (Option Value)} {N ps:List Str} {sp:Sp} (lk:K.lookup f=some ⟨oc,od,.func (PySem.W.fnOf name qual params body scope dV kV doc pm an cdv ct),osl⟩) (hcd:PySem.W.codeIn K cdv qual=true) (S:FnScope N ps scope)
  (len:∀ vs H Q E,sp vs H Q E->vs.length=ps.length)
  (hbody:∀ (A:Around) (outer:List Env) (s:Shared) (H:Hp) (vs:List V) (Q:VK) (E:XK),Room k (A.deeper (envOfC qual scope s.heap.objs.size f cdv))->sp vs H Q E →
   ∃ t,PSs (cxOf CX P w K mg base N qual scope f cdv A outer s H E) body t∧t { nx:=fun _ H'=>Q .non H',rt:=Q } (start N vs) H) :
  FnOk P w K mg base CX (k+1) f (PySem.W.fnOf name qual params body scope dV kV doc pm an cdv ct) ps sp:=by
 refine ⟨len,fun A outer s H args us vs Q E hr e0 hb r hsp=>?_⟩
 have hl:=len _ _ _ _ hsp
 have KX:K.In s.heap:=e0.mod.kin.keeps fun b o e=>(e0.bs b o e).1
 have lim:s.heap.NoLimit:=e0.mod.nolimit.keeps fun b o e=>(e0.bs b o e).1
 have hkind:∀ y∈ps.zip us,scope.names.lookup y.1=some .local∨(scope.names.lookup y.1=some .cell∧((cellsFrom (s.heap.objs.size+1) scope.names []).lookup y.1).isSome=true):=fun ⟨n,v⟩ hy=>by
  rcases S.par n (List.of_mem_zip hy).1 with q|q
  ·exact .inl q
  ·exact .inr ⟨q,PySem.W.cellsFrom_some _ _ _ (.inl q)⟩
 refine codeAny_call_function hr.depth (KX _ _ lk) rfl S.co S.gen rfl (PySem.W.codeRec_of KX hcd) (hb _ _ _ _ ?_)
 refine wpAny_newFunctionEnv_cells S.kind hkind fun env he s1 x=>?_
 subst he
 refine ⟨lim.keeps x.toInCall.keep,codeAny_func ?_⟩
 obtain ⟨t,ht,hq⟩:=hbody A outer s H vs Q E (hr.deeper _) hsp
 have I:Inv (cxOf CX P w K mg base N qual scope f cdv A outer s H E) [] (start N vs) H s1:=inv_start S hr.hd e0 hl r x
 refine wpAny_mono (ht [] s1 (start N vs) H _ I hq) (fun fl s' hs=>?_) fun e s' hs=>hs
 have fin:∀ {σ':St} {H':Hp} {v:V} {u:Value},Inv (cxOf CX P w K mg base N qual scope f cdv A outer s H E) [] σ' H' s'->RelV v u->Q v H'->CE outer P w H s Q u s':=
  fun {σ' H' v u} J rv q=>⟨v,H',J.os,J.bare,J.base,J.hok,rv,q⟩
 cases fl with
 | ret u=>
  obtain ⟨v,σ',H',J,rv,q⟩:=hs
  exact fin J rv q
 | next=>
  obtain ⟨σ',H',J,q⟩:=hs
  exact fin (v:=V.non) (u:=Value.none) J rfl q
 | brk=>
  obtain ⟨_,_,_,q⟩:=hs
  exact False.elim q
 | cont=>
  obtain ⟨_,_,_,q⟩:=hs
  exact False.elim q
end L2
namespace L2
open PySem PySem.Spec PyProof.Rows
section
variable {X:Cx}{x:Str}{p pos:Pos}{e:Expr}{es:List Expr}{t:TA}{id T:String}{r:List V->Hp->VK->Prop}
def tCB (r:List V->Hp->VK->Prop) (t:TA):TE:=fun σ H Q=>t σ H fun vs H1=>r vs H1 Q
theorem pe_callB (hc:CallR X (.builtin id) r) (hg:Gl X x) (hm:X.mg x=none) (hv:bootBuiltins x=some (.builtin id)) (ha:PA X (e::es) t) (hn:x ≠ "__name__":=by decide) (hdb:(x == ("__debug__":Str))=false:=by decide)
  (he:starEach (e::es) X.env=(false,eval e X.env)::starEach es X.env:=by rfl) (hpl:(backTo pos (starEach es X.env)).any (·.1)=false:=by rfl):PE X (.Call (.Name x p) (e::es) [] pos) (tCB r t):=by
 intro pins s σ H Q I h
 refine wpAny_Call_Name_kw (ld_blt I hg hm hv ?_ hn hdb)
 exact PyProof.Rows.callWith_builtin1 (thn (ha pos pins s σ H _ I h) fun us s1 ⟨vs,H1,I1,r1,q1⟩=>hc pins s1 σ H1 vs us Q I1 r1 q1) he hpl
theorem pe_callTy (hc:CallR X (.type T) r) (hg:Gl X x) (hm:X.mg x=none) (hv:bootBuiltins x=some (.type T)) (ha:PA X (e::es) t) (hn:x ≠ "__name__":=by decide) (hdb:(x == ("__debug__":Str))=false:=by decide)
  (he:starEach (e::es) X.env=(false,eval e X.env)::starEach es X.env:=by rfl) (hpl:(backTo pos (starEach es X.env)).any (·.1)=false:=by rfl):PE X (.Call (.Name x p) (e::es) [] pos) (tCB r t):=by
 intro pins s σ H Q I h
 refine wpAny_Call_Name_kw (ld_blt I hg hm hv ?_ hn hdb)
 exact PyProof.Rows.callWith_type1 (thn (ha pos pins s σ H _ I h) fun us s1 ⟨vs,H1,I1,r1,q1⟩=>hc pins s1 σ H1 vs us Q I1 r1 q1) he hpl
end
end L2
namespace HT
open PySem PyProof.Rows
section
open PySem.SeqAt
open PySem.AutoSeq1 (wpAny_loadPart')
open PySem.MeetsSeq PySem.MeetsSeq2 PySem.MeetsSeq3
end
section
variable {prog:Program}{w:World}{A:Around}{E:Value->Shared->Prop}{s:Shared}
theorem cat_tup {t b:Addr}{vs ws:List Value}{Q:Value->Shared->Prop}(ht:IsTup s.heap t vs.toArray) (hb:IsTup s.heap b ws.toArray) (hv:vs ≠ [])
  (h1:ws=[]->Q (.ref t) s) (h2:ws ≠ []->Q (.ref s.heap.objs.size) { s with heap:=s.heap.push { cls:=.type "tuple",data:=.seq (vs++ws).toArray } })
  (hsz:vs.length+ws.length≤sizeLine):wpAny (model prog w) A (binaryOp .Add (.ref t) (.ref b)) Q E s:=by
 obtain ⟨⟨cls,dd,data,sl⟩,ho,hc,n,hd⟩:=id ht
 obtain ⟨⟨cls2,dd2,data2,sl2⟩,ho2,hc2,n2,hd2⟩:=id hb
 simp only at hc hd hc2 hd2
 subst hc hd hc2 hd2
 have e:vs.toArray++ws.toArray=(vs++ws).toArray:=by simp
 by_cases hw:ws=[]
 ·exact concat_meets ⟨_,ho,rfl⟩ ⟨_,ho2,rfl⟩ noFill_tuple_add seq_tuple_add PySem.F.slot_tuple_add PySem.F.entry_tuple_add (PySem.F.args_tuple_add_2 _ _)
   (tuple_addW1 t b vs.toArray ws.toArray n n2 dd dd2 sl sl2 (by simpa using hv) (by simp [hw])) ⟨ho,ho2,h1 hw⟩
 ·refine concat_meets ⟨_,ho,rfl⟩ ⟨_,ho2,rfl⟩ noFill_tuple_add seq_tuple_add PySem.F.slot_tuple_add PySem.F.entry_tuple_add (PySem.F.args_tuple_add_2 _ _)
   (tuple_addW2 t b vs.toArray ws.toArray n n2 dd dd2 sl sl2 (by simpa using hv) (by simpa using hw) (by rw [List.size_toArray,List.size_toArray];exact hsz)) ⟨ho,ho2,?_⟩
  rw [e]
  exact h2 hw
def sIx (n d:Nat):Option Int->Nat
 | none=>d
 | some v=>if v < 0 then (v+(n:Int)).toNat else min v.toNat n
theorem sIx_none (n d:Nat):sIx n d none=d:=rfl
theorem sIx_nat (n d k:Nat):sIx n d (some (k:Int))=min k n:=by
 show (if (k:Int) < 0 then ((k:Int)+(n:Int)).toNat else min (k:Int).toNat n)=min k n
 rw [if_neg (by omega),Int.toNat_natCast]
end
end HT
namespace L2
open PySem PySem.Spec PyProof.Rows
abbrev TO:=St->Hp->(Option Int->Hp->Prop)->Prop
def PO (X:Cx) (e:Option Expr) (t:TO):Prop:=
 ∀ (pins:List (Addr × Obj)) (s:Shared) (σ:St) (H:Hp) (Q:Option Int->Hp->Prop),Inv X pins σ H s->t σ H Q →
  wpAny (model X.prog X.w) X.A (evalPart e X.env) (fun u s'=>∃ o H',Inv X pins σ H' s'∧IsPart u o∧Q o H') X.xe s
def tNoPart:TO:=fun _ H Q=>Q none H
def tPart (t:TE):TO:=fun σ H Q=>t σ H fun x H1=>∃ i,x=.int i∧Q (some i) H1
section
variable {X:Cx}{e:Expr}{te:TE}{lo hi:Option Expr}{tl th:TO}{pos p2:Pos}
theorem po_none:PO X none tNoPart:=by
 intro pins s σ H Q I h
 rw [evalPart_none]
 exact wpAny_pure ⟨none,H,I,.none,h⟩
theorem po_some (h:PE X e te):PO X (some e) (tPart te):=by
 intro pins s σ H Q I hw
 rw [evalPart_some]
 refine thn (h pins s σ H _ I hw) fun u s1 ⟨x,H1,I1,r1,q1⟩=>?_
 obtain ⟨i,rfl,q⟩:=q1
 obtain ⟨t,rfl⟩:=r1
 exact ⟨some i,H1,I1,.int i t,q⟩
def SlR (X:Cx) (r:V->Option Int->Option Int->Hp->VK->Prop):Prop:=
 ∀ (pins:List (Addr × Obj)) (s:Shared) (σ:St) (H:Hp) (x:V) (v vl vu:Value) (lo hi:Option Int) (sl:Addr) (Q:VK),Inv X pins σ H s->RelV x v->s.heap.IsSliceOf sl vl vu .none->IsPart vl lo->IsPart vu hi->r x lo hi H Q →
  ∃ T id,typeLookup (.type T) "__getitem__"=pure (some (.builtin id))∧s.TypeIs v T∧wpAny (model X.prog X.w) X.A (getItem v (.ref sl)) (EP X pins σ Q) X.xe s
def tSl (r:V->Option Int->Option Int->Hp->VK->Prop) (te:TE) (tl th:TO):TE:=fun σ H Q=>te σ H fun x H1=>tl σ H1 fun l H2=>th σ H2 fun u H3=>r x l u H3 Q
theorem pe_slice {r:V->Option Int->Option Int->Hp->VK->Prop}(hr:SlR X r) (he:PE X e te) (hl:PO X lo tl) (hu:PO X hi th):PE X (.Subscript e (.Slice lo hi none p2) pos) (tSl r te tl th):=by
 intro pins s σ H Q I h
 refine Subscript_ (thn (he pins s σ H _ I h) fun v s1 ⟨x,H1,I1,r1,q1⟩=>?_)
 refine wpAny_Slice (thn (hl pins s1 σ H1 _ I1 q1) fun vl s2 ⟨l,H2,I2,pl,q2⟩=>thn (hu pins s2 σ H2 _ I2 q2) fun vu s3 ⟨u,H3,I3,pu,q3⟩=>?_)
 rw [evalPart_none]
 refine wpAny_pure ?_
 have I4:Inv X pins σ H3 { s3 with heap:=s3.heap.push { cls:=.type "slice",data:=.fields #[vl,vu,.none] } }:=I3.kept (t':=s3.toks) fun b ob q=>Heap.get?_push_of_some _ q
 obtain ⟨T,id,hT,ht,hg⟩:=hr pins { s3 with heap:=s3.heap.push { cls:=.type "slice",data:=.fields #[vl,vu,.none] } } σ H3 x v vl vu l u s3.heap.objs.size Q I4 r1 (Heap.IsSliceOf.new ..) pl pu q3
 show wpAny (model X.prog X.w) X.A (subscriptTail e (.Slice lo hi none p2) v (.ref s3.heap.objs.size)) (EP X pins σ Q) X.xe { s3 with heap:=s3.heap.push { cls:=.type "slice",data:=.fields #[vl,vu,.none] } }
 exact tail_any (ops:=[.ref s3.heap.objs.size,v]) ht hT hg (by with_unfolding_all rfl)
def cutV (xs:List V) (lo hi:Option Int):List V:=(xs.drop (HT.sIx xs.length 0 lo)).take (HT.sIx xs.length xs.length hi - HT.sIx xs.length 0 lo)
theorem cutV_length (xs:List V) (lo hi:Option Int):(cutV xs lo hi).length≤xs.length:=by
 unfold cutV
 rw [List.length_take,List.length_drop]
 omega
def rCatT (K:PySem.W.Frag):R2:=fun x y H Q=>∃ a b xs ys,x=.ref a∧y=.ref b∧SqT K H a xs∧SqT K H b ys∧xs ≠ []∧xs.length+ys.length≤sizeLine ∧
 (ys=[]->Q (.ref a) H)∧(ys ≠ []->∀ p,H p=none->Q (.ref p) (upd H p (.tup (xs++ys))))
theorem Vals.nil_iff {xs:List V}{us:List Value}(r:Vals xs us):us=[] ↔ xs=[]:=by
 cases r with
 | nil=>simp
 | cons _ _=>simp
theorem op_catT:OpR X (binaryOp .Add) (rCatT X.K):=by
 intro pins s σ H x y v u Q I rx ry h
 obtain ⟨a,b,xs,ys,rfl,rfl,ha,hb,hx,hz,q1,q2⟩:=h
 cases rx
 cases ry
 obtain ⟨its,r1,p1,_⟩:=I.tuple ha
 obtain ⟨its2,r2,p2,_⟩:=I.tuple hb
 refine HT.cat_tup p1 p2 (fun z=>hx (r1.nil_iff.mp z)) (fun z=>⟨.ref a,H,I,rfl,q1 (r2.nil_iff.mp z)⟩) (fun z=>?_) (by rw [←r1.length,←r2.length];exact hz)
 refine ⟨.ref s.heap.objs.size,_,I.laid (t':=s.toks) (o:=.tup (xs++ys)) (fun b ob q=>Heap.get?_push_of_some _ q) (Nat.le_refl _) ?_,rfl,q2 (fun w=>z (r2.nil_iff.mpr w)) _ (I.hok.fresh (Nat.le_refl _))⟩
 exact ⟨by rw [List.length_append];exact hz,_,r1.append r2,IsTup.new _ _⟩
end
end L2
namespace L2
open PySem PySem.Spec PyProof.Rows
def ixN (n:Nat) (i:Int):Option Nat:=if 0≤i then (if i < n then some i.toNat else none) else if -(n:Int)≤i then some (i+n).toNat else none
def atI {α:Type}(xs:List α) (i:Int):Option α:=(ixN xs.length i).bind fun j=>xs[j]?
theorem ixN_seq {n:Nat}{i:Int}{j:Nat}(h:ixN n i=some j):seqIndex? i n=some j∧j < n∧-(n:Int)≤i∧i < n:=by
 unfold ixN at h
 by_cases h0:0≤i
 ·rw [if_pos h0] at h
  by_cases h1:i < n
  ·rw [if_pos h1] at h
   have e:i.toNat=j:=Option.some.inj h
   exact ⟨by rw [seqIndex_of h0 h1,e],by omega,by omega,h1⟩
  ·rw [if_neg h1] at h;cases h
 ·rw [if_neg h0] at h
  by_cases h1:-(n:Int)≤i
  ·rw [if_pos h1] at h
   have e:(i+n).toNat=j:=Option.some.inj h
   exact ⟨by rw [seqIndex_neg (by omega) h1,e],by omega,h1,by omega⟩
  ·rw [if_neg h1] at h;cases h
theorem atI_get {α:Type}{xs:List α}{i:Int}{v:α}(h:atI xs i=some v):∃ j,seqIndex? i xs.length=some j∧xs[j]? = some v∧j < xs.length∧-(xs.length:Int)≤i∧i < xs.length:=by
 unfold atI at h
 cases e:ixN xs.length i with
 | none=>rw [e] at h;cases h
 | some j=>
  rw [e] at h
  obtain ⟨h1,h2,h3,h4⟩:=ixN_seq e
  exact ⟨j,h1,h,h2,h3,h4⟩
theorem atI_nat {α:Type}{xs:List α}{j:Nat}{v:α}(h:xs[j]? = some v):atI xs (j:Int)=some v:=by
 have hj:j < xs.length:=(List.getElem?_eq_some_iff.mp h).1
 have e:ixN xs.length (j:Int)=some j:=by
  unfold ixN
  rw [if_pos (by omega),if_pos (by omega)];simp
 unfold atI;rw [e];exact h
def PlainIx (b:Expr):Prop:=∀ o i,subscripted b false o i=operate [o,i] (getItem o i)
def IxR (X:Cx) (r:R2):Prop:=
 ∀ (value slice:Expr) (pins:List (Addr × Obj)) (s:Shared) (σ:St) (H:Hp) (x y:V) (v u:Value) (Q:VK),Inv X pins σ H s->RelV x v->RelV y u->r x y H Q →
  subscripted slice false v u=operate [v,u] (getItem v u)->wpAny (model X.prog X.w) X.A (subscriptTail value slice v u) (EP X pins σ Q) X.xe s
def MtR (X:Cx) (id:String) (r:V->List V->Hp->VK->Prop):Prop:=
 ∀ (pins:List (Addr × Obj)) (s:Shared) (σ:St) (H:Hp) (x:V) (xs:List V) (v:Value) (us:List Value) (Q:VK),Inv X pins σ H s->RelV x v->Vals xs us->r x xs H Q →
  wpAny (model X.prog X.w) X.A (call (.builtin id) (v::us)) (EP X pins σ Q) X.xe s
section
variable {X:Cx}{a b:Expr}{ta tb:TE}{pos:Pos}
theorem IxR.or {r r':R2}(h:IxR X r) (h':IxR X r'):IxR X (fun x y H Q=>r x y H Q∨r' x y H Q):=by
 intro value slice pins s σ H x y v u Q I rx ry q hs
 rcases q with q|q
 ·exact h value slice pins s σ H x y v u Q I rx ry q hs
 ·exact h' value slice pins s σ H x y v u Q I rx ry q hs
theorem pe_ix {r:R2}(hr:IxR X r) (ha:PE X a ta) (hb:PE X b tb) (hs:PlainIx b):PE X (.Subscript a b pos) (tOp r ta tb):=by
 intro pins s σ H Q I h
 exact Subscript_ (binT ha hb I h fun v u s2 x y H2 I2 rx ry q=>hr a b pins s2 σ H2 x y v u Q I2 rx ry q (hs _ _))
def rIxL (K:PySem.W.Frag):R2:=fun x y H Q=>∃ p xs i v,x=.ref p∧y=.int i∧SqL K H p xs∧atI xs i=some v∧Q v H
def rIxT (K:PySem.W.Frag):R2:=fun x y H Q=>∃ p xs i v,x=.ref p∧y=.int i∧SqT K H p xs∧atI xs i=some v∧Q v H
theorem ix_list:IxR X (rIxL X.K):=by
 intro value slice pins s σ H x y v u Q I rx ry h hs
 obtain ⟨p,xs,i,z,rfl,rfl,hq,he,q⟩:=h
 cases rx
 obtain ⟨t,rfl⟩:=ry
 obtain ⟨its,r,pl,hz⟩:=I.list hq
 obtain ⟨j,h1,h2,h3,h4,h5⟩:=atI_get he
 obtain ⟨w,ew,rw'⟩:=r.get h2
 have hl:=r.length
 have hn:=line63
 have fin:EP X pins σ Q w s:=⟨z,H,I,rw',q⟩
 by_cases h0:0≤i
 ·have hj:i.toNat=j:=by
   rw [seqIndex_of h0 h5] at h1
   exact Option.some.inj h1
  exact item_listR pl.isList h0 (by omega) (by rw [hj];simpa using ew) fin hs
 ·have hj:(i+(its.toArray.size:Int)).toNat=j:=by
   rw [seqIndex_neg (by omega) h4] at h1
   rw [List.size_toArray,←hl]
   exact Option.some.inj h1
  exact subscriptTail_builtinR (x:=w) pl.isList.typeIs slot_list_getitem.lookup
   (wpAny_getItem_list_neg (Q:=fun r s'=>r=w∧EP X pins σ Q r s') pl.isList (by omega) (by rw [List.size_toArray]<;>omega) (by omega) (by rw [hj];simpa using ew) ⟨rfl,fin⟩) hs
theorem ix_tup:IxR X (rIxT X.K):=by
 intro value slice pins s σ H x y v u Q I rx ry h hs
 obtain ⟨p,xs,i,z,rfl,rfl,hq,he,q⟩:=h
 cases rx
 obtain ⟨t,rfl⟩:=ry
 obtain ⟨its,r,pl,hz⟩:=I.tuple hq
 obtain ⟨j,h1,h2,h3,h4,h5⟩:=atI_get he
 obtain ⟨w,ew,rw'⟩:=r.get h2
 have hl:=r.length
 have hn:=line63
 have fin:EP X pins σ Q w s:=⟨z,H,I,rw',q⟩
 exact subscriptTail_builtinR (x:=w) pl.typeIs slot_tuple_getitem.lookup
  (getItem_tuple (j:=j) (Q:=fun r s'=>r=w∧EP X pins σ Q r s') pl (by omega) (by omega) (by rw [List.size_toArray,←hl];exact h1) (by simpa using ew) ⟨rfl,fin⟩) hs
theorem mapSeq_set (its:List Value) (n j:Nat) (u:Value):Obj.mapSeq (·.setIfInBounds j u) { cls:=.type "list",data:=.seq its.toArray n }={ cls:=.type "list",data:=.seq (its.set j u).toArray n }:=by
 simp [Obj.mapSeq]
theorem Inv.lst {pins:List (Addr × Obj)}{σ:St}{H:Hp}{s:Shared}{p:Addr}{xs:List V}(I:Inv X pins σ H s) (h:H p=some (.lst xs)) :
  ∃ (its:List Value) (n:Nat),Vals xs its∧s.heap.get? p=some { cls:=.type "list",data:=.seq its.toArray n }∧xs.length≤sizeLine:=by
 obtain ⟨z,its,n,r,e⟩:=I.hok p _ h
 exact ⟨its,n,r,e,z⟩
theorem Inv.lstUpd {pins:List (Addr × Obj)}{σ:St}{H:Hp}{s:Shared}{p:Addr}{xs ys:List V}{its its':List Value}{n n':Nat}{f:Obj->Obj}(I:Inv X pins σ H s) (h:H p=some (.lst xs))
  (ho:s.heap.get? p=some { cls:=.type "list",data:=.seq its.toArray n }) (hf:f { cls:=.type "list",data:=.seq its.toArray n }={ cls:=.type "list",data:=.seq its'.toArray n' }) (r:Vals ys its') (hz:ys.length≤sizeLine) (t:Nat) :
  Inv X pins σ (upd H p (.lst ys)) { s with heap:=s.heap.update p f,toks:=t }:=by
 have e:(s.heap.update p f).get? p=some { cls:=.type "list",data:=.seq its'.toArray n' }:=by
  rw [Heap.get?_update_self f ho (by rw [hf]<;>rfl),hf]
 refine I.write (x:=p) (e:=p) (by rw [h];trivial) (.inl rfl) (fun b u hb q=>(Heap.get?_update_other _ _ (Ne.symm hb)).trans q) ⟨_,e⟩ ?_
 exact ⟨hz,its',n',r,e⟩
def rSetL:V->V->V->Hp->(Hp->Prop)->Prop:=fun o i v H Q=>∃ p xs k j,o=.ref p∧i=.int k∧H p=some (.lst xs)∧ixN xs.length k=some j∧Q (upd H p (.lst (xs.set j v)))
theorem set_list:PSet X rSetL:=by
 intro pins s σ H o i v ov iv u Q I ro ri rv h
 obtain ⟨p,xs,k,j,rfl,rfl,hp,hj,q⟩:=h
 cases ro
 obtain ⟨t,rfl⟩:=ri
 obtain ⟨its,n,r,ho,hz⟩:=I.lst hp
 obtain ⟨h1,h2,h3,h4⟩:=ixN_seq hj
 have hl:=r.length
 have hn:=line63
 have I':Inv X pins σ (upd H p (.lst (xs.set j v))) { s with heap:=s.heap.update p (Obj.mapSeq (·.setIfInBounds j u)) }:=
  I.lstUpd hp ho (mapSeq_set its n j u) (r.set rv j) (by rw [List.length_set];exact hz) s.toks
 by_cases h0:0≤k
 ·have hk:k.toNat=j:=by
   rw [seqIndex_of h0 h4] at h1
   exact Option.some.inj h1
  exact PySem.W.ki_setAt ho h0 (by omega) (by rw [List.size_toArray,←hl];exact h4) (by rw [hk];exact ⟨_,I',q⟩)
 ·have hk:(k+(its.toArray.size:Int)).toNat=j:=by
   rw [seqIndex_neg (by omega) h3] at h1
   rw [List.size_toArray,←hl]
   exact Option.some.inj h1
  exact PySem.W.ki_setBack ho (by omega) (by rw [List.size_toArray,←hl];exact h3) (by omega) (by rw [hk];exact ⟨_,I',q⟩)
theorem slice_bounds (lo hi:Option Int) (n:Nat):(sliceBounds lo hi none n).1=((HT.sIx n 0 lo:Nat):Int)∧(sliceBounds lo hi none n).2.1=((HT.sIx n n hi:Nat):Int)∧(sliceBounds lo hi none n).2.2=1:=by
 refine ⟨?_,?_,rfl⟩
 ·cases lo with
  | none=>simp [sliceBounds,HT.sIx]
  | some i=>
   simp only [sliceBounds,HT.sIx,Option.getD_none,show (1:Int) > 0 by decide,if_true]
   by_cases h:i < 0
   ·simp only [h,if_true]<;>omega
   ·simp only [h,if_false]<;>omega
 ·cases hi with
  | none=>simp [sliceBounds,HT.sIx]
  | some i=>
   simp only [sliceBounds,HT.sIx,Option.getD_none,show (1:Int) > 0 by decide,if_true]
   by_cases h:i < 0
   ·simp only [h,if_true]<;>omega
   ·simp only [h,if_false]<;>omega
theorem slicePick_cut (its:List Value) (lo hi:Option Int):slicePick its.toArray lo hi none=((its.drop (HT.sIx its.length 0 lo)).take (HT.sIx its.length its.length hi - HT.sIx its.length 0 lo)).toArray:=by
 obtain ⟨h1,h2,h3⟩:=slice_bounds lo hi its.toArray.size
 unfold slicePick
 rw [h1,h2,h3]
 simp only [sliceRange_one,pick_run,List.size_toArray]<;>rfl
def rSlL (K:PySem.W.Frag):V->Option Int->Option Int->Hp->VK->Prop:=fun x lo hi H Q=>∃ a xs,x=.ref a∧SqL K H a xs∧∀ p,H p=none->Q (.ref p) (upd H p (.lst (cutV xs lo hi)))
theorem sl_list:SlR X (rSlL X.K):=by
 intro pins s σ H x v vl vu lo hi sl Q I rx hs pl pu h
 obtain ⟨a,xs,rfl,hx,q⟩:=h
 cases rx
 obtain ⟨its,r,ht,hz⟩:=I.list hx
 have hlen:=r.length
 refine ⟨"list",_,slot_list_getitem.lookup,ht.isList.typeIs,?_⟩
 refine wpAny_getItem_list_slice ht.isList hs pl pu .none (by simp) ?_ (by rw [List.size_toArray]<;>omega)
 rw [slicePick_cut,←hlen]
 refine ⟨.ref s.heap.objs.size,_,I.laid (t':=s.toks) (o:=.lst (cutV xs lo hi)) (fun b ob q=>Heap.get?_push_of_some _ q) (Nat.le_refl _) ?_,rfl,q _ (I.hok.fresh (Nat.le_refl _))⟩
 exact ⟨Nat.le_trans (cutV_length xs lo hi) hz,_,0,(r.drop (HT.sIx xs.length 0 lo)).take (HT.sIx xs.length xs.length hi - HT.sIx xs.length 0 lo),Heap.get?_push_size _ rfl⟩
theorem call_len_seq:CallR X (.builtin "len") (fun xs H Q=>∃ p ys,xs=[.ref p]∧(SqL X.K H p ys∨SqT X.K H p ys)∧Q (.int ys.length) H):=by
 intro pins s σ H xs us Q I r h
 obtain ⟨p,ys,rfl,hq,q⟩:=h
 obtain ⟨u,rfl,rx⟩:=vals1 r
 cases rx
 have hn:=line63
 rcases hq with hq|hq
 ·obtain ⟨its,r',pl,hz⟩:=I.list hq
  have hlen:=r'.length
  exact Calls.call_len_list pl.isList (by simp only [List.size_toArray]<;>omega) ⟨.int ys.length,H,I.tok _,⟨s.toks+1,by rw [List.size_toArray,hlen]⟩,q⟩
 ·obtain ⟨its,r',pl,hz⟩:=I.tuple hq
  have hlen:=r'.length
  exact len_tuple pl (by simp only [List.size_toArray]<;>omega) ⟨.int ys.length,H,I.tok _,⟨s.toks+1,by rw [List.size_toArray,hlen]⟩,q⟩
theorem call_len_str:CallR X (.builtin "len") (fun xs H Q=>∃ z,xs=[.str z]∧z.length≤sizeLine∧Q (.int z.length) H):=by
 intro pins s σ H xs us Q I r h
 obtain ⟨z,rfl,hz,q⟩:=h
 obtain ⟨u,rfl,t,rfl⟩:=vals1 r
 have hn:=line63
 exact len_str (by omega) ⟨.int z.length,H,I.tok _,⟨_,rfl⟩,q⟩
theorem CallR.or {f:Value}{r r':List V->Hp->VK->Prop}(h:CallR X f r) (h':CallR X f r'):CallR X f (fun xs H Q=>r xs H Q∨r' xs H Q):=by
 intro pins s σ H xs us Q I rs q
 rcases q with q|q
 ·exact h pins s σ H xs us Q I rs q
 ·exact h' pins s σ H xs us Q I rs q
theorem call_list_of:CallR X (.type "list") (fun xs H Q=>∃ p ys,xs=[.ref p]∧(SqL X.K H p ys∨SqT X.K H p ys)∧∀ l,H l=none->Q (.ref l) (upd H l (.lst ys))):=by
 intro pins s σ H xs us Q I r h
 obtain ⟨p,ys,rfl,hq,q⟩:=h
 obtain ⟨u,rfl,rx⟩:=vals1 r
 cases rx
 have fin:∀ (its:List Value),Vals ys its->ys.length≤sizeLine->∀ (h':Heap) (c':Nat),(∀ b o',s.heap.get? b=some o'->h'.get? b=some o') →
   h'.get? s.heap.objs.size=some { cls:=.type "list",dict:=none,data:=.seq its.toArray c',slots:=#[] }->EP X pins σ Q (.ref s.heap.objs.size) { s with heap:=h' }:=fun its r' hz h' c' kp e=>
  ⟨.ref s.heap.objs.size,_,I.laid (t':=s.toks) kp (Nat.le_refl _) (show ObjOk X.prog X.w _ h' _ (.lst ys) from ⟨hz,its,c',r',e⟩),rfl,q _ (I.hok.fresh (Nat.le_refl _))⟩
 rcases hq with hq|hq
 ·obtain ⟨its,r',pl,hz⟩:=I.list hq
  have hlen:=r'.length
  obtain ⟨o,ho,hc,n,hd⟩:=pl.isList
  exact call_list_seq p (.inl rfl) ho hc hd (fun h' c' kp e=>fin its r' hz h' c' kp e) (by simp only [List.size_toArray]<;>omega)
 ·obtain ⟨its,r',pl,hz⟩:=I.tuple hq
  have hlen:=r'.length
  obtain ⟨o,ho,hc,n,hd⟩:=pl
  exact call_list_seq p (.inr rfl) ho hc hd (fun h' c' kp e=>fin its r' hz h' c' kp e) (by simp only [List.size_toArray]<;>omega)
theorem call_tuple_of:CallR X (.type "tuple") (fun xs H Q=>∃ p ys,xs=[.ref p]∧((SqL X.K H p ys∧∀ l,H l=none->Q (.ref l) (upd H l (.tup ys)))∨(SqT X.K H p ys∧Q (.ref p) H))):=by
 intro pins s σ H xs us Q I r h
 obtain ⟨p,ys,rfl,h⟩:=h
 obtain ⟨u,rfl,rx⟩:=vals1 r
 cases rx
 rcases h with ⟨hq,q⟩|⟨hq,q⟩
 ·obtain ⟨its,r',pl,hz⟩:=I.list hq
  have hlen:=r'.length
  refine call_tuple_list pl.isList (fun h' kp=>?_) (by simp only [List.size_toArray]<;>omega)
  have I1:Inv X pins σ H { s with heap:=h' }:=I.kept (t':=s.toks) kp
  have I2:Inv X pins σ (upd H h'.objs.size (.tup ys)) { s with heap:=h'.push { cls:=.type "tuple",data:=.seq its.toArray } }:=
   I1.laid (t':=s.toks) (fun b o e=>Heap.get?_push_of_some _ e) (Nat.le_refl _) (show ObjOk X.prog X.w _ _ _ (.tup ys) from ⟨hz,its,r',IsTup.new _ _⟩)
  exact ⟨.ref h'.objs.size,_,I2,rfl,q _ (I1.hok.fresh (Nat.le_refl _))⟩
 ·obtain ⟨its,r',pl,hz⟩:=I.tuple hq
  exact call_tuple_same pl ⟨.ref p,H,I,rfl,q⟩
def tyV (K:PySem.W.Frag) (T:String) (x:V) (H:Hp):Prop:=match x with
 | .str _=>T = "str"
 | .int _=>T = "int"
 | .ref p=>(T = "list" ∧ ∃ xs,SqL K H p xs)∨(T = "tuple" ∧ ∃ o,K.lookup p=some o∧o.cls=.type "tuple" ∧ o.dict=none) ∨
   (T = "dict" ∧ ((∃ kvs,H p=some (.dK kvs))∨∃ kvs,H p=some (.dT kvs)))∨(T = "set" ∧ ∃ S n,H p=some (.set S n))
 | _=>False
theorem tyV_is {pins:List (Addr × Obj)}{σ:St}{H:Hp}{s:Shared}{T:String}{x:V}{v:Value}(I:Inv X pins σ H s) (r:RelV x v) (ty:tyV X.K T x H) :
  s.TypeIs v T∧∀ a,v=.ref a->∃ ob,s.heap.get? a=some ob∧ob.dict=none:=by
 cases x with
 | str z=>
  obtain ⟨t,rfl⟩:=r
  cases (show T = "str" from ty)
  exact ⟨typeIs_str s z t,fun _ e=>nomatch e⟩
 | int i=>
  obtain ⟨t,rfl⟩:=r
  cases (show T = "int" from ty)
  exact ⟨typeIs_int s i t,fun _ e=>nomatch e⟩
 | ref p=>
  cases r
  rcases ty with ⟨rfl,xs,hq⟩|⟨rfl,o,hk,hc,hd⟩|⟨rfl,hk⟩|⟨rfl,S,n,hk⟩
  ·obtain ⟨its,_,pl,_⟩:=I.list hq
   refine ⟨pl.isList.typeIs,fun a e=>?_⟩
   cases e
   obtain ⟨o,n,e,c,hd,_⟩:=pl
   exact ⟨o,e,hd⟩
  ·refine ⟨⟨o,I.kIn p o hk,hc⟩,fun a e=>?_⟩
   cases e
   exact ⟨o,I.kIn _ o hk,hd⟩
  ·have z:∃ o,s.heap.get? p=some o∧o.ExactDict:=by
    rcases hk with ⟨kvs,hk⟩|⟨kvs,hk⟩
    ·obtain ⟨_,_,_,_,o,_,_,e,ex,_⟩:=I.hok p _ hk
     exact ⟨o,e,ex⟩
    ·obtain ⟨_,_,_,_,o,_,_,e,ex,_⟩:=I.hok p _ hk
     exact ⟨o,e,ex⟩
   obtain ⟨o,e,ex⟩:=z
   refine ⟨⟨o,e,ex.1⟩,fun a e2=>?_⟩
   cases e2
   exact ⟨o,e,ex.2.1⟩
  ·obtain ⟨o,_,_,_,e,ex,_⟩:=I.hok p _ hk
   refine ⟨⟨o,e,ex.1⟩,fun a e2=>?_⟩
   cases e2
   exact ⟨o,e,ex.2.1⟩
 | _=>exact False.elim ty
def tBM0 (K:PySem.W.Frag) (T:String) (r:V->List V->Hp->VK->Prop) (to:TE):TE:=fun σ H Q=>to σ H fun x H1=>tyV K T x H1∧r x [] H1 Q
def tBM (K:PySem.W.Frag) (T:String) (r:V->List V->Hp->VK->Prop) (to:TE) (t:TA):TE:=fun σ H Q=>to σ H fun x H1=>tyV K T x H1∧t σ H1 fun xs H2=>r x xs H2 Q
variable {o e:Expr}{es:List Expr}{to:TE}{t:TA}{name:Str}{apos cpos:Pos}{T id:String}{r:V->List V->Hp->VK->Prop}
theorem pe_bm0 (pa:PlainAttrs T) (slot:Slot T name id) (hty:typeOf (.builtin id)=pure (.type "method_descriptor")) (hm:MtR X id r) (ho:PE X o to)
  (hbase:attributeBase o name X.env (eval o X.env)=eval o X.env:=by rfl) (hline:(apos.endLine == cpos.line)=true:=by rfl):PE X (.Call (.Attribute o name apos) [] [] cpos) (tBM0 X.K T r to):=by
 intro pins s σ H Q I h
 refine wpAny_Call_method0_late hbase hline (thn (ho pins s σ H _ I h) fun v s1 ⟨x,H1,I1,r1,ty,q1⟩=>?_)
 obtain ⟨h1,h2⟩:=tyV_is I1 r1 ty
 exact ⟨T,id,pa,slot,hty,h1,h2,Calls.callWith_builtin rfl (PySem.evalArgs_none (hm pins s1 σ H1 x [] v [] Q I1 r1 .nil q1))⟩
theorem pe_bm (pa:PlainAttrs T) (slot:Slot T name id) (hty:typeOf (.builtin id)=pure (.type "method_descriptor")) (hm:MtR X id r) (ho:PE X o to) (ha:PA X (e::es) t)
  (hbase:attributeBase o name X.env (eval o X.env)=eval o X.env:=by rfl)
  (hfew:((backTo cpos (starEach (e::es) X.env)).all (fun x=>!x.1) && (backToKw cpos (keywordEach [] X.env)).all (fun x=>x.1.isSome)
   && decide ((e::es).length+([]:List Keyword).length+(if ([]:List Keyword).isEmpty then 0 else 1) < 30))=true:=by rfl)
  (hline:(apos.endLine == cpos.line)=true:=by rfl) (hs:starEach (e::es) X.env=(false,eval e X.env)::starEach es X.env:=by rfl) (hplain:(backTo cpos (starEach es X.env)).any (·.1)=false:=by rfl) :
  PE X (.Call (.Attribute o name apos) (e::es) [] cpos) (tBM X.K T r to t):=by
 intro pins s σ H Q I h
 refine wpAny_Call_method_late hbase hfew hline rfl (thn (ho pins s σ H _ I h) fun v s1 ⟨x,H1,I1,r1,ty,q1⟩=>?_)
 obtain ⟨h1,h2⟩:=tyV_is I1 r1 ty
 refine ⟨T,id,pa,slot,hty,h1,h2,?_⟩
 have hA:=ha cpos pins s1 σ H1 _ I1 q1
 rw [hs] at hA ⊢
 refine Calls.callWith_builtin (by show (false || (backTo cpos (starEach es X.env)).any (·.1))=false;rw [hplain]<;>rfl) (Calls.evalArgs_plain ?_)
 exact thn hA fun us s2 ⟨vs,H2,I2,r2,q2⟩=>hm pins s2 σ H2 x vs v us Q I2 r1 r2 q2
/- xs.append(e),list.index on a module's tuple .. are MtR facts of 06m -/
end
end L2
namespace L2
open PySem PySem.Spec PyProof.Rows
def MtM (X:Cx) (id:String) (r:V->List V->Hp->VK->Prop):Prop:=
 ∀ (pins:List (Addr × Obj)) (s:Shared) (σ:St) (H:Hp) (x:V) (xs:List V) (v:Value) (us:List Value) (Q:VK),Inv X pins σ H s->RelV x v->Vals xs us->r x xs H Q →
  wpAny (model X.prog X.w) X.A (call (.builtin id) (v::us)) (EP X pins σ Q) X.xe s
theorem Vals.one:∀ {x:V}{us:List Value},Vals [x] us->∃ u,us=[u]∧RelV x u
 | _,_,.cons r .nil=>⟨_,rfl,r⟩
theorem Vals.zero:∀ {us:List Value},Vals [] us->us=[]
 | _,.nil=>rfl
theorem Vals.dropLast {xs:List V}{us:List Value}(h:Vals xs us):Vals xs.dropLast us.dropLast:=by
 induction h with
 | nil=>exact .nil
 | cons r t ih=>
  cases t with
  | nil=>exact .nil
  | cons q t'=>exact .cons r ih
theorem Vals.reverse {xs:List V}{us:List Value}(h:Vals xs us):Vals xs.reverse us.reverse:=by
 induction h with
 | nil=>exact .nil
 | cons r t ih=>rw [List.reverse_cons,List.reverse_cons];exact Vals.append ih (.cons r .nil)
theorem erase_last {α:Type}(l:List α):l.eraseIdx (l.length - 1)=l.dropLast:=by
 induction l with
 | nil=>rfl
 | cons a r ih=>
  cases r with
  | nil=>rfl
  | cons b r=>
   have e:(a::b::r).length - 1=((b::r).length - 1)+1:=by
    have h1:(a::b::r).length=r.length+2:=rfl
    have h2:(b::r).length=r.length+1:=rfl
    omega
   rw [e,List.eraseIdx_cons_succ,ih]
   all_goals rfl
section
variable {X:Cx}{pins:List (Addr × Obj)}{σ:St}{H:Hp}{s:Shared}{l b:Addr}{xs ys zs:List V}
theorem Inv.lset {its its':List Value}{n:Nat}{f:Array Value->Array Value}{t':Nat}(I:Inv X pins σ H s) (hH:H l=some (.lst xs))
  (e:s.heap.get? l=some { cls:=.type "list",data:=.seq its.toArray n }) (hf:f its.toArray=its'.toArray) (hv:Vals ys its') (hz:ys.length≤sizeLine) :
  Inv X pins σ (upd H l (.lst ys)) { s with heap:=s.heap.update l (Obj.mapSeq f),toks:=t' }:=by
 have q:=PySem.IsL.update e f
 rw [hf] at q
 refine I.write (x:=l) (e:=l) (by rw [hH];exact trivial) (.inl rfl) (fun b' u hb hu=>(Heap.get?_update_other s.heap (Obj.mapSeq f) (Ne.symm hb)).trans hu) ⟨_,q⟩ ?_
 exact ⟨hz,its',_,hv,q⟩
theorem Inv.lnew {its:List Value}{t':Nat}(I:Inv X pins σ H s) (hv:Vals ys its) (hz:ys.length≤sizeLine) :
  Inv X pins σ (upd H s.heap.objs.size (.lst ys)) { s with heap:=s.heap.push { cls:=.type "list",data:=.seq its.toArray },toks:=t' }:=
 I.laid (fun _ _ q=>Heap.get?_push_of_some _ q) (Nat.le_refl _) ⟨hz,its,0,hv,Heap.get?_push_size _ rfl⟩
theorem Inv.fresh (I:Inv X pins σ H s):H s.heap.objs.size=none:=I.hok.fresh (Nat.le_refl _)
theorem Inv.lstM (I:Inv X pins σ H s) (hH:H l=some (.lst xs)):xs.length≤sizeLine∧∃ (its:List Value) (n:Nat),Vals xs its∧xs.length=its.length∧s.heap.get? l=some { cls:=.type "list",data:=.seq its.toArray n }:=by
 obtain ⟨z,its,n,r,e⟩:=I.hok l _ hH
 exact ⟨z,its,n,r,r.length,e⟩
theorem notLongL {n:Nat}(h:n≤sizeLine):Builtin.List.listTooLong n=false:=by
 unfold Builtin.List.listTooLong
 exact decide_eq_false (by omega)
end
section
variable {X:Cx}
def rAppend:V->List V->Hp->VK->Prop:=fun x vs H Q=>∃ l xs y,x=.ref l∧vs=[y]∧H l=some (.lst xs)∧xs.length < sizeLine∧Q .non (upd H l (.lst (xs++[y])))
theorem mt_append:MtM X "list.append" rAppend:=by
 intro pins s σ H x vs v us Q I rx rv h
 obtain ⟨l,xs,y,rfl,rfl,hH,hz,q⟩:=h
 cases rx
 obtain ⟨u,rfl,ru⟩:=rv.one
 obtain ⟨z,its,n,r,hl,e⟩:=I.lstM hH
 refine call_meets F.slot_list_append ⟨_,e,rfl⟩ F.entry_list_append (F.args_list_append_2 _ _) (PySem.list_append l its.toArray n u (by rw [List.size_toArray];omega)) ⟨e,?_⟩
 refine ⟨.non,_,I.lset (its':=its++[u]) hH e (by simp) (r.append (.cons ru .nil)) ?_,rfl,q⟩
 rw [List.length_append,List.length_singleton]
 omega
def rExtend:V->List V->Hp->VK->Prop:=fun x vs H Q=>∃ l b xs zs,x=.ref l∧vs=[.ref b]∧H l=some (.lst xs)∧H b=some (.lst zs)∧xs.length+zs.length≤sizeLine∧Q .non (upd H l (.lst (xs++zs)))
theorem mt_extend:MtM X "list.extend" rExtend:=by
 intro pins s σ H x vs v us Q I rx rv h
 obtain ⟨l,b,xs,zs,rfl,rfl,hH,hB,hz,q⟩:=h
 cases rx
 obtain ⟨u,rfl,ru⟩:=rv.one
 cases ru
 obtain ⟨z,its,n,r,hl,e⟩:=I.lstM hH
 obtain ⟨z2,its2,n2,r2,hl2,e2⟩:=I.lstM hB
 have hsz:its.toArray.size+its2.toArray.size≤sizeLine:=by rw [List.size_toArray,List.size_toArray];omega
 have hlong:¬ (!its.toArray.isEmpty && Builtin.List.listTooLong (its.toArray.size+its2.toArray.size))=true:=by
  rw [notLongL hsz,Bool.and_false]
  exact Bool.false_ne_true
 refine call_meets F.slot_list_extend ⟨_,e,rfl⟩ F.entry_list_extend (F.args_list_extend_2 _ _)
  (AutoSeq1.list_extend_list_list_0 l its.toArray n b its2.toArray n2 hlong (by rw [List.size_toArray];omega) (by omega)) ⟨e,e2,?_⟩
 refine ⟨.non,_,I.lset (its':=its++its2) hH e (by simp) (r.append r2) ?_,rfl,q⟩
 rw [List.length_append]
 omega
def rPop:V->List V->Hp->VK->Prop:=fun x vs H Q=>∃ l xs y,x=.ref l∧vs=[]∧H l=some (.lst xs)∧xs[xs.length - 1]? = some y∧Q y (upd H l (.lst xs.dropLast))
theorem mt_pop:MtM X "list.pop" rPop:=by
 intro pins s σ H x vs v us Q I rx rv h
 obtain ⟨l,xs,y,rfl,rfl,hH,hy,q⟩:=h
 cases rx
 have hus:=rv.zero
 subst hus
 obtain ⟨z,its,n,r,hl,e⟩:=I.lstM hH
 obtain ⟨u,hu,ru⟩:=r.get hy
 have hy':its.toArray[its.toArray.size - 1]? = some u:=by
  show its.toArray[its.length - 1]? = some u
  rw [←Array.getElem?_toList,←hl]
  exact hu
 refine call_meets F.slot_list_pop ⟨_,e,rfl⟩ F.entry_list_pop (F.args_list_pop_1 _) (MeetsSeq.list_pop_last l its.toArray n u hy' (by rw [List.size_toArray];omega)) ⟨e,?_⟩
 refine ⟨y,_,I.lset (its':=its.dropLast) hH e ?_ r.dropLast ?_,ru,q⟩
 ·show its.toArray.eraseIdxIfInBounds (its.toArray.size - 1)=its.dropLast.toArray
  rw [List.size_toArray,List.eraseIdxIfInBounds_toArray,erase_last]
 ·rw [List.length_dropLast]
  omega
def rReverse:V->List V->Hp->VK->Prop:=fun x vs H Q=>∃ l xs,x=.ref l∧vs=[]∧H l=some (.lst xs)∧Q .non (upd H l (.lst xs.reverse))
theorem mt_reverse:MtM X "list.reverse" rReverse:=by
 intro pins s σ H x vs v us Q I rx rv h
 obtain ⟨l,xs,rfl,rfl,hH,q⟩:=h
 cases rx
 have hus:=rv.zero
 subst hus
 obtain ⟨z,its,n,r,hl,e⟩:=I.lstM hH
 refine call_meets F.slot_list_reverse ⟨_,e,rfl⟩ F.entry_list_reverse (F.args_list_reverse_1 _) (AutoSeq1.list_reverse_list_0 l its.toArray n (by rw [List.size_toArray];omega)) ⟨e,?_⟩
 refine ⟨.non,_,I.lset (its':=its.reverse) hH e (by simp) r.reverse ?_,rfl,q⟩
 rw [List.length_reverse]
 omega
def rClear:V->List V->Hp->VK->Prop:=fun x vs H Q=>∃ l xs,x=.ref l∧vs=[]∧H l=some (.lst xs)∧Q .non (upd H l (.lst []))
theorem mt_clear:MtM X "list.clear" rClear:=by
 intro pins s σ H x vs v us Q I rx rv h
 obtain ⟨l,xs,rfl,rfl,hH,q⟩:=h
 cases rx
 have hus:=rv.zero
 subst hus
 obtain ⟨z,its,n,r,hl,e⟩:=I.lstM hH
 refine call_meets F.slot_list_clear ⟨_,e,rfl⟩ F.entry_list_clear (F.args_list_clear_1 _) (AutoSeq1.list_clear_list_0 l its.toArray n (by rw [List.size_toArray];omega)) ⟨e,?_⟩
 exact ⟨.non,_,I.lset (its':=[]) (ys:=[]) hH e rfl .nil (Nat.zero_le _),rfl,q⟩
def rCat:R2:=fun x y H Q=>∃ l b xs zs,x=.ref l∧y=.ref b∧H l=some (.lst xs)∧H b=some (.lst zs)∧xs.length+zs.length≤sizeLine∧∀ p,H p=none->Q (.ref p) (upd H p (.lst (xs++zs)))
theorem op_cat:OpR X (binaryOp .Add) rCat:=by
 intro pins s σ H x y v u Q I rx ry h
 obtain ⟨l,b,xs,zs,rfl,rfl,hH,hB,hz,q⟩:=h
 cases rx
 cases ry
 obtain ⟨z,its,n,r,hl,e⟩:=I.lstM hH
 obtain ⟨z2,its2,n2,r2,hl2,e2⟩:=I.lstM hB
 refine PySem.P.add_list e e2 ?_ (by rw [List.size_toArray,List.size_toArray];omega)
 have ea:its.toArray++its2.toArray=(its++its2).toArray:=by simp
 rw [ea]
 exact ⟨.ref _,_,I.lnew (t':=s.toks) (r.append r2) (by rw [List.length_append];omega),rfl,q _ I.fresh⟩
end
section
variable {prog:Program}{w:World}{A:Around}{E:Value->Shared->Prop}{s:Shared}
set_option maxRecDepth 100000 in
end
section
variable {X:Cx}
end
end L2
namespace Att
open PySem PySem.W PySem.Calls PyProof.Rows
theorem ints_of_wellAll {P:Params}{h:Heap}:∀ (ns:List Int) (vs:List Value),WellAll P h vs (ns.map WData.int)->IntsAre vs ns:=by
 intro ns
 induction ns with
 | nil=>
  intro vs w
  rw [List.map_nil] at w
  cases w
  exact .nil
 | cons n ns ih=>
  intro vs w
  rw [List.map_cons] at w
  cases w with
  | cons a b=>
   cases a
   exact .cons _ _ (ih _ b)
theorem script_of {l:OpenLaw}{n:Nat}(hn:l.most=some n){P:Params}{h:Heap}{args:List WData}{vals:List Value}
  (hpre:l.row.toRowW.claim.pre args=true) (hwl:WellAll P h vals args) :
  ∃ a vs ns,vals=[Value.ref a]∧args=[WData.list (ns.map WData.int)]∧h.get? a=some { cls:=.type "list",data:=.seq vs.toArray }∧IntsAre vs ns∧ns.length≤n:=by
 have hsh:WShape.hasAll [] args [.list .int]=true:=(pre_splitW hpre).1
 have hc:l.pre.holds [] { args:=args }=true:=(pre_splitW hpre).2
 obtain ⟨d,r,rfl,h1,h2⟩:=hasAllW_cons hsh
 obtain rfl:=hasAllW_nil h2
 obtain ⟨xs,rfl,h3⟩:=hasW_list h1
 obtain ⟨ns,rfl⟩:=items_int h3
 have hlen:ns.length≤n:=by
  unfold OpenLaw.pre at hc
  have h4:(WTm.not (.lt (.lit (.int (n:Int))) (.len (.arg 0)))).holds [] { args:=[.list (ns.map .int)] }=true:=by
   have h4:=(holds_andW hc).1
   rw [hn] at h4
   exact h4
  have h5:=condW_of h4 (w_not (w_lt w_lit (w_len_list (w_arg rfl))))
  rw [List.length_map] at h5
  refine Nat.le_of_not_lt fun q=>?_
  have q':(n:Int) < ((ns.length:Nat):Int):=by omega
  first
   | (rw [decide_eq_true q'] at h5;exact absurd h5 (by decide))
   | (simp at h5;omega)
 cases hwl with
 | cons w1 w2=>
  cases w2
  cases w1 with
  | list ho hall=>exact ⟨_,_,ns,rfl,rfl,ho,ints_of_wellAll ns _ hall,hlen⟩
theorem post_true (l:OpenLaw) (args:List WData):l.row.toRowW.claim.post args (.bool true) args=true:=
 postW_of (r:=l.row.toRowW) (X:=(true == true))
  (show WShape.has [] (.bool true) .bool=true by first|rfl|decide|simp [WShape.has,WShape.arms,WShape.armsAll])
  (show (WTm.eq .res (.lit (.bool true))).value [] { args:=args,res:=some (.bool true),after:=args }=some (.bool (true == true)) from w_eq_bool (w_res rfl) w_lit) rfl
theorem attach_call {l:OpenLaw}{n:Nat}{q:Program}{loose:List Str}{XP:(Str->Option Value)->Heap->Prop}{YP:World->Heap->Prop}{d:DefRec}
  (hn:l.most=some n) (hdf:d.params.defaults=[])
  (call:∀ (w:World) (s₀ s₁:Shared) (mg mb:Str->Option Value) (fa:Addr) (o:Obj) (pm cd doc:Value) (a:Addr) (vs:List Value) (ns:List Int),
   Ground q loose [] XP w s₀ mg mb s₁.heap->YP w s₁.heap →
   s₁.heap.get? fa=some o->o.data=.func (docDef d.name d.params d.body d.scope pm cd doc)->s₁.heap.CodeRec cd d.name->mg d.name=some (.ref fa) →
   s₁.heap.get? a=some { cls:=.type "list",data:=.seq vs.toArray }->IntsAre vs ns->ns.length≤n->s₁.gens=#[] →
   codeAny (model l.prog w) callerA (.call (.ref fa) ⟨[.ref a],[]⟩) (fun r s'=>r=.ok (.ret (.bool true))∧OldK s₁.heap s'.heap∧s'.os=s₁.os∧AllBare s'.gens) s₁) :
  WalkO q loose XP YP l.row.toRowW d [] (fun f vs=>PySem.call f vs):=by
 intro w s₀ s₁ mg mb G Y fa o pm cd doc dV kV ho hd hcd hD hmg hg args vals as hpre hlay hrd hwl hlo
 obtain rfl:dV=.none:=Dflts.none hD hdf
 obtain rfl:kV=.none:=Dflts.noKw hD
 obtain ⟨a,vs,ns,rfl,rfl,hobj,hints,hlen⟩:=script_of hn hpre hwl
 refine enter_call (codeAny_mono (call w s₀ s₁ mg mb fa o pm cd doc a vs ns G Y ho (fd_plain hd) hcd hmg hobj hints hlen hg) fun r s' hq=>?_)
 obtain ⟨rfl,h2,h3,h4⟩:=hq
 exact ⟨.inl ⟨.bool true,.bool true,[],rfl,fun _=>rfl,.bool true,post_true l _,fun _=>⟨List.Pairwise.nil,fun _ hm=>(nomatch hm)⟩⟩,h2,h3,h4⟩
section
variable {prog:Program}{w:World}{A:Around}{E:Value->Shared->Prop}{s:Shared}{K:Frag}
def ledger (h:Heap) (L d:Addr):List (Addr × Obj):=(List.range h.objs.size).filterMap fun a=>if a=L∨a=d then none else (h.get? a).map fun o=>(a,o)
end
end Att
namespace L2
open PySem PySem.Spec PyProof.Rows
theorem vals_ints:∀ {vs:List Value}{ns:List Int},IntsAre vs ns->Vals (ns.map V.int) vs
 | _,_,.nil=>.nil
 | _,_,.cons n t h=>.cons ⟨t,rfl⟩ (vals_ints h)
def Only (H:Hp):Prop:=∀ b,H b=none∨∃ o xs,H b=some (.frz o (.lst xs))
theorem law_call {P:Program}{w:World}{K:PySem.W.Frag}{mg mb:Str->Option Value}{CX:CXT}{k:Nat}{fa a:Addr}{fd:FuncData}{x:Str}{sp:Sp}{s₁:Shared}{vs:List Value}{ns:List Int}
  (KX:K.In s₁.heap) (hns:s₁.heap.Ns mainGlobals mg) (hb:s₁.heap.Ns builtinsNs mb) (hbb:∀ x:Str,x ≠ "__name__" → mb x=bootBuiltins x) (hlim:s₁.heap.NoLimit) (hg:s₁.gens=#[])
  (ha:s₁.heap.get? a=some { cls:=.type "list",data:=.seq vs.toArray }) (hi:IntsAre vs ns) (hl:ns.length≤sizeLine) (hr:Room k callerA)
  (F:∀ base:Heap,K.In base->base.Ns mainGlobals mg->FnOk P w K mg base CX k fa fd [x] sp) (hbind:∀ (s:Shared) (u:Value),BindsTo s fd ⟨[u],[]⟩ [(x,u)])
  (hsp:∀ H:Hp,Only H->SqL K H a (ns.map V.int)->sp [.ref a] H (fun v _=>v=.bl true) fun _ _ _=>False)
  (hCX:∀ H e s',CX [] H s₁ (fun _ _ _=>False) e s'->False) :
  codeAny (model P w) callerA (.call (.ref fa) ⟨[.ref a],[]⟩) (fun r s'=>r=.ok (.ret (.bool true))∧OldK s₁.heap s'.heap∧s'.os=s₁.os∧AllBare s'.gens) s₁:=by
 have rv:=vals_ints hi
 have lenV:=hi.length
 have core:∀ H:Hp,Only H->SqL K H a (ns.map V.int)->HOk P w H s₁.heap->(∀ b,H b ≠ none->b=a)->(H a ≠ none->K.lookup a=none) →
   codeAny (model P w) callerA (.call (.ref fa) ⟨[.ref a],[]⟩) (fun r s'=>r=.ok (.ret (.bool true))∧OldK s₁.heap s'.heap∧s'.os=s₁.os∧AllBare s'.gens) s₁:=by
  intro H hO hS hok hA hK
  have base_of:∀ {b:Addr} {o:Obj},s₁.heap.get? b=some o->H b=none->(hidT s₁.heap H).get? b=some o:=fun e n=>hidT_get e n
  have noA:∀ {b:Addr} {o:Obj} {es:Array DictEntry} {ep:Nat},s₁.heap.get? b=some o->o.data=.dict es ep->H b=none:=fun {b o es ep} e d=>by
   cases q:H b with
   | none=>rfl
   | some u=>
    have e':b=a:=hA b (by rw [q];simp)
    subst e'
    rw [ha] at e;cases e
    have d':Data.seq vs.toArray _=Data.dict es ep:=d
    cases d'
  have nsK:∀ {b:Addr} {m:Str->Option Value},s₁.heap.Ns b m->(hidT s₁.heap H).Ns b m:=fun {b m} ⟨o,es,ep,e,d,r⟩=>⟨o,es,ep,base_of e (noA e d),d,r⟩
  have hKb:K.In (hidT s₁.heap H):=fun b o e=>base_of (KX b o e) (by
   cases q:H b with
   | none=>rfl
   | some u=>
    have e':b=a:=hA b (by rw [q];simp)
    subst e'
    rw [hK (by rw [q];simp)] at e;cases e)
  have hM:Mod K mg (hidT s₁.heap H):=⟨hKb,nsK hns,⟨mb,nsK hb,hbb⟩,let ⟨mc,h1,h2⟩:=hlim;⟨mc,nsK h1,h2⟩⟩
  have e0:Env0 P w K mg (hidT s₁.heap H) callerA [] s₁ H:=⟨rfl,hM,fun b o e=>of_hidT e,Nat.le_of_eq (hidT_size _ _),trivial,fun b hb=>absurd (show b∈([]:List Addr) from hb) (by simp),hok,.of_eq hg⟩
  refine codeAny_mono ((F _ hKb (nsK hns)).run callerA [] s₁ H ⟨[.ref a],[]⟩ [.ref a] [.ref a] _ _ hr e0 (hbind s₁ (.ref a)) (.cons rfl .nil) (hsp H hO hS)) fun r s' h=>?_
  cases r with
  | error e=>exact (hCX H e s' h).elim
  | ok fl=>
   cases fl with
   | next=>exact False.elim h
   | brk=>exact False.elim h
   | cont=>exact False.elim h
   | ret u=>
    obtain ⟨v,H',os,bare,un,hok',r',q⟩:=h
    have q':v=.bl true:=q
    subst q'
    obtain rfl:u=Value.bool true:=r'
    refine ⟨rfl,OldK.of_keep fun b o e=>?_,os,bare⟩
    cases q:H b with
    | none=>exact un.keep b o e q (by intro z;exact absurd (show b∈([]:List Addr) from z) (by simp)) (by simp)
    | some u=>
     rcases hO b with z|⟨ob,xs,z⟩
     ·rw [q] at z;cases z
     ·have z2:=un.frzs b ob _ z
      obtain ⟨e1,_⟩:=hok b _ z
      obtain ⟨e2,_⟩:=hok' b _ z2
      rw [e] at e1;cases e1
      exact e2
 cases hk:K.lookup a with
 | some o=>
  have e:=KX a o hk
  rw [ha] at e
  cases e
  refine core (fun _=>none) (fun _=>.inl rfl) (.inr ⟨_,vs.toArray,_,hk,rfl,rfl,rfl,by rw [List.size_toArray,lenV];exact hl,by simpa using rv⟩) (fun b u z=>by have z':(none:Option HO)=some u:=z;cases z') (fun b z=>absurd rfl z) fun z=>absurd rfl z
 | none=>
  refine core (fun b=>if b=a then some (.frz { cls:=.type "list",data:=.seq vs.toArray } (.lst (ns.map V.int))) else none) (fun b=>?_) (.inl (.inr ⟨{ cls:=.type "list",data:=.seq vs.toArray },if_pos rfl⟩)) (fun b u z=>?_) (fun b z=>?_) fun _=>hk
  ·by_cases hb:b=a
   ·exact .inr ⟨_,_,if_pos hb⟩
   ·exact .inl (if_neg hb)
  ·by_cases hb:b=a
   ·have z':=(if_pos hb).symm.trans z
    cases z'
    subst hb
    exact ⟨ha,by rw [List.length_map];exact hl,vs,_,rv,ha⟩
   ·have z':=(if_neg hb).symm.trans z
    cases z'
  ·by_cases hb:b=a
   ·exact hb
   ·exact absurd (if_neg hb) z
end L2
namespace L2
open PySem PySem.Spec PyProof.Rows
abbrev KOf {K:PySem.W.Frag} {h:Heap} (_:K.In h):PySem.W.Frag:=K
theorem walk_of {l:PySem.W.OpenLaw}{n k:Nat}{q:Program}{loose:List Str}{XP:(Str->Option Value)->Heap->Prop}{YP:World->Heap->Prop}{d:DefRec}{K:Params->PySem.W.Frag}{CX:World->CXT}{sp:World->Sp}{x:Str}
  (hn:l.most=some n) (hn2:n≤sizeLine) (hdf:d.params.defaults=[]) (hr:Room k callerA)
  (hY:∀ (w:World) (h:Heap),YP w h->(K w.params).In h)
  (F:∀ (w:World) (mg:Str->Option Value) (fa:Addr) (h:Heap),(K w.params).In h->h.Ns mainGlobals mg->mg d.name=some (.ref fa) →
   ∃ fd:FuncData,(∀ (s:Shared) (u:Value),BindsTo s fd ⟨[u],[]⟩ [(x,u)]) ∧
    ∀ base:Heap,(K w.params).In base->base.Ns mainGlobals mg->FnOk l.prog w (K w.params) mg base (CX w) k fa fd [x] (sp w))
  (hsp:∀ (w:World) (H:Hp) (a:Addr) (ns:List Int),ns.length≤n->Only H->SqL (K w.params) H a (ns.map V.int)->sp w [.ref a] H (fun v _=>v=.bl true) fun _ _ _=>False)
  (hCX:∀ (w:World) (H:Hp) (s:Shared) (e:Value) (s':Shared),CX w [] H s (fun _ _ _=>False) e s'->False) :
  PySem.W.WalkO q loose XP YP l.row.toRowW d [] (fun f vs=>PySem.call f vs):=by
 refine Att.attach_call hn hdf fun w s₀ s₁ mg mb fa o pm cd doc a vs ns G Y ho hd hcd hmg hobj hints hlen hg=>?_
 have KX:=hY w _ Y
 obtain ⟨fd,hb,hF⟩:=F w mg fa _ KX G.T.g hmg
 exact law_call KX G.T.g G.T.b G.T.builtins G.T.nolimit hg hobj hints (Nat.le_trans hlen hn2) hr hF hb (fun H hO hS=>hsp w H a ns hlen hO hS) fun H e s'=>hCX w H s₁ e s'
end L2
/- THE LAST THEOREM (shape;LID,My.* are yours):
   My.Adr: a structure of the addresses that your layer names (classes,functions);My.Txt K t: a structure (Prop) of the equations over K;
   My.txt_mk:{K} {implicit addresses ..} (e1:nsIn K mainGlobals "law"=some (some (.ref f))) (e2:K.lookup f=some ⟨oc,od,.func (fnOf "law" "law" params body scope dV kV doc pm an cdv ct),sl⟩) (e3:codeIn K cdv "law"=true) ..:∃ t,My.Txt K t
set_option maxRecDepth 100000 in
set_option maxHeartbeats 0 in
theorem PySem.Challenge.cw_LID_holds : PySem.Challenge.rw_LID.Holds := by
 w_on;o_law;k_head;(case hw=>w_witness2)
 k_fill
 refine L2.walk_of (l:=PySem.Challenge.rw_LID) (n:=63) (k:=40) (x := "script") (CX:=fun w=>..) (sp:=fun _=>My.sp_law) rfl (by decide) rfl ⟨rfl,by decide,by decide⟩ (fun w h Y=>PySem.W.kIn_of Y) ?F ?S ?C
 case F=>
  intro w mg fa h KX G hmg
  have T:∃ t,My.Txt (L2.KOf KX) t:=by
   dsimp only [L2.KOf]                          -- K must stand as «<heap const> w.params» for k_is
   refine' My.txt_mk ?e1 ?e2 ?e3 ..
   (case e1=>PySem.W.k_is)                    -- in the order: a name -> its address -> its object -> its parts
   (case e2=>PySem.W.k_is)
   ..
  obtain ⟨t,T⟩:=T
  have e0:=hmg.symm.trans (PySem.W.mg_of KX G T.law)
  cases e0                                       -- fa is the law's own address
  exact ⟨_,fun s u=>.of_eq rfl,fun base kb nb=>My.law_fn T kb nb⟩     -- if «.of_eq rfl» comes too early: refine' ⟨_,?b,fun base kb nb=>My.law_fn T kb nb⟩;exact fun s u=>.of_eq rfl
 case S=>exact fun w H a ns hl hO hS=>..
 case C=>exact ..
(the tactic k_is has no namespace: write k_is) -/
namespace L2
open PySem PySem.Spec PyProof.Rows
def inClass (s:Stmt) (j:Nat):Stmt:=match s with
 | .ClassDef _ _ _ body _ _ _ _ _ _ _=>body.getD j (.Pass ⟨0,0,0,0⟩)
 | _=>.Pass ⟨0,0,0,0⟩
def defArgs (s:Stmt):Arguments:=match s with
 | .FunctionDef _ a _ _ _ _ _ _ _ _=>a
 | _=>{ posonlyargs:=[],args:=[],vararg:=none,kwonlyargs:=[],kw_defaults:=[],kwarg:=none,defaults:=[] }
def defBody (s:Stmt):List Stmt:=match s with
 | .FunctionDef _ _ b _ _ _ _ _ _ _=>b
 | _=>[]
def defScope (s:Stmt):Scope:=match s with
 | .FunctionDef _ _ _ _ _ _ sc _ _ _=>sc
 | _=>{ kind:=.function,names:=[],isGenerator:=false,isCoroutine:=false }
abbrev CX0:CXT:=fun _ _ _ _ _ _=>False
abbrev E0:XK:=fun _ _ _=>False
theorem pass0 {X:Cx}:Passes CX0 X E0:=fun _ _ _ _ _ _ _ h=>h.elim
structure Fun (K:PySem.W.Frag) (x qual:Str) (st:Stmt) (f:Addr) (fd:FuncData):Prop where
 ex:∃ (oc:Value) (od:Option Addr) (kV doc pm:Value) (an:Option Addr) (cdv ct:Value) (osl:Array (Option Value)),
  fd=PySem.W.fnOf x qual (defArgs st) (defBody st) (defScope st) .none kV doc pm an cdv ct∧K.lookup f=some ⟨oc,od,.func fd,osl⟩∧PySem.W.codeIn K cdv qual=true
 kp:PySem.W.keepIn K (.ref f)=true
section
variable {P:Program}{w:World}{K:PySem.W.Frag}{mg:Str->Option Value}{base:Heap}
theorem Fun.ok {x qual:Str}{st:Stmt}{f:Addr}{fd:FuncData}{N ps:List Str}{k:Nat}{sp:Sp}(F:Fun K x qual st f fd) (S:FnScope N ps (defScope st)) (len:∀ vs H Q E,sp vs H Q E->vs.length=ps.length)
  (hbody:∀ (cdv:Value) (A:Around) (outer:List Env) (s:Shared) (H:Hp) (vs:List V) (Q:VK) (E:XK),Room k (A.deeper (envOfC qual (defScope st) s.heap.objs.size f cdv))->sp vs H Q E →
   ∃ t,PSs (cxOf CX0 P w K mg base N qual (defScope st) f cdv A outer s H E).nox (defBody st) t∧t { nx:=fun _ H'=>Q .non H',rt:=Q } (start N vs) H):FnOk P w K mg base CX0 (k+1) f fd ps sp:=by
 obtain ⟨oc,od,kV,doc,pm,an,cdv,ct,osl,rfl,lk,hcd⟩:=F.ex
 refine fn_of lk hcd S len fun A outer s H vs Q E hr hsp=>?_
 obtain ⟨t,h,q⟩:=hbody cdv A outer s H vs Q E hr hsp
 exact ⟨t,h.nox,q⟩
theorem Fun.binds {x qual:Str}{st:Stmt}{f:Addr}{fd:FuncData}{ps:List Str}(F:Fun K x qual st f fd)
  (h:∀ (kV doc pm:Value) (an:Option Addr) (cdv ct:Value) (us:List Value),us.length=ps.length->bindArgs (PySem.W.fnOf x qual (defArgs st) (defBody st) (defScope st) .none kV doc pm an cdv ct) ⟨us,[]⟩=pure (ps.zip us)):Binds K fd ps []:=by
 obtain ⟨oc,od,kV,doc,pm,an,cdv,ct,osl,rfl,lk,hcd⟩:=F.ex
 exact .all (h kV doc pm an cdv ct)
theorem fun_mk {x qual:Str}{st:Stmt}{f:Addr}{oc:Value}{od an:Option Addr}{osl:Array (Option Value)}{kV doc pm cdv ct:Value}(l:K.lookup f=some ⟨oc,od,.func (PySem.W.fnOf x qual (defArgs st) (defBody st) (defScope st) .none kV doc pm an cdv ct),osl⟩)
  (c:PySem.W.codeIn K cdv qual=true) (k:PySem.W.keepIn K (.ref f)=true):Fun K x qual st f (PySem.W.fnOf x qual (defArgs st) (defBody st) (defScope st) .none kV doc pm an cdv ct):=⟨⟨oc,od,kV,doc,pm,an,cdv,ct,osl,rfl,l,c⟩,k⟩
end
theorem small1000 {n:Nat}(h:n≤1000):n < sizeLine:=Nat.lt_of_le_of_lt h (by decide)
section
variable {X:Cx}
theorem pv (i:Nat){x:Str}{pos:Pos}(hN:X.N[i]? = some x:=by rfl) (hv:Vis X.env.scope x:=by first|exact Or.inl rfl|exact Or.inr (Or.inl rfl)|exact Or.inr (Or.inr rfl)) (hd:(x == ("__debug__":Str))=false:=by decide)
  (hcd:(x == ("__classdict__":Str))=false:=by decide):PE X (.Name x pos) (tVar i):=pe_var hN hv hd hcd
end
theorem ite2 {c A B:Prop} [Decidable c] (h1:c->A) (h2:¬ c->B):if c then A else B:=by
 by_cases h:c
 ·rw [if_pos h]
  exact h1 h
 ·rw [if_neg h]
  exact h2 h
def Same (H H':Hp):Prop:=∀ b o,H b=some o->H' b=some o
theorem Same.refl (H:Hp):Same H H:=fun _ _ h=>h
theorem Same.trans {H H1 H2:Hp}(a:Same H H1) (b:Same H1 H2):Same H H2:=fun c o h=>b c o (a c o h)
theorem Same.free {H H':Hp}(e:Same H H'){l:Addr}(h:H' l=Option.none):H l=Option.none:=by
 cases q:H l with
 | none=>rfl
 | some o=>
  rw [e l o q] at h
  cases h
theorem Same.seq {K:PySem.W.Frag}{H H':Hp}{a:Addr}{xs:List V}(e:Same H H') (h:SqL K H a xs):SqL K H' a xs:=by
 rcases h with (h|⟨o,h⟩)|h
 ·exact .inl (.inl (e _ _ h))
 ·exact .inl (.inr ⟨o,e _ _ h⟩)
 ·exact .inr h
end L2
set_option Elab.async false
set_option linter.all false
set_option maxRecDepth 100000
set_option maxHeartbeats 4000000
set_option Elab.async false
set_option linter.all false
set_option maxRecDepth 100000
namespace L2
open PySem PySem.Spec PyProof.Rows
section
variable {κ:Type} [DecidableEq κ]
def valV (kvs:List (κ × V)) (k:κ):Option V:=(kvs.find? fun kv=>decide (kv.1=k)).map (·.2)
def putK (kvs:List (κ × V)) (k:κ) (v:V):List (κ × V):=
 if (kvs.any fun kv=>decide (kv.1=k))=true then kvs.map (fun kv=>if kv.1=k then (kv.1,v) else kv) else kvs++[(k,v)]
theorem valV_pos {p:κ × V}{r:List (κ × V)}{k:κ}(e:p.1=k):valV (p::r) k=some p.2:=by simp [valV,List.find?_cons,e]
theorem valV_neg {p:κ × V}{r:List (κ × V)}{k:κ}(e:¬ p.1=k):valV (p::r) k=valV r k:=by simp [valV,List.find?_cons,e]
theorem valV_any (k:κ):∀ kvs:List (κ × V),(kvs.any fun kv=>decide (kv.1=k))=(valV kvs k).isSome
 | []=>rfl
 | p::r=>by
  rw [List.any_cons]
  by_cases e:p.1=k
  ·simp only [valV_pos e,decide_eq_true e,Bool.true_or,Option.isSome_some]
  ·rw [valV_neg e,decide_eq_false e,Bool.false_or];exact valV_any k r
theorem valV_map (k j:κ) (y:V):∀ kvs:List (κ × V),valV (kvs.map fun kv=>if kv.1=k then (kv.1,y) else kv) j=(valV kvs j).map fun x=>if j=k then y else x
 | []=>rfl
 | p::r=>by
  have ih:=valV_map k j y r
  rw [List.map_cons]
  by_cases h:p.1=k
  ·rw [if_pos h]
   by_cases e:p.1=j
   ·rw [valV_pos (p:=(p.1,y)) e,valV_pos e,Option.map_some,if_pos (e.symm.trans h)]
   ·rw [valV_neg (p:=(p.1,y)) e,valV_neg e,ih]
  ·rw [if_neg h]
   by_cases e:p.1=j
   ·rw [valV_pos (p:=p) e,valV_pos e,Option.map_some,if_neg (fun z=>h (e.trans z))]
   ·rw [valV_neg (p:=p) e,valV_neg e,ih]
theorem valV_snoc (k j:κ) (y:V):∀ kvs:List (κ × V),valV kvs k=none->valV (kvs++[(k,y)]) j=if j=k then some y else valV kvs j
 | [],_=>by
  by_cases e:k=j
  ·rw [if_pos e.symm];exact valV_pos (p:=(k,y)) e
  ·rw [if_neg (fun z=>e z.symm)];exact valV_neg (p:=(k,y)) e
 | p::r,hn=>by
  rw [List.cons_append]
  have hk:¬ p.1=k:=fun z=>by rw [valV_pos z] at hn;cases hn
  rw [valV_neg hk] at hn
  have ih:=valV_snoc k j y r hn
  by_cases e:p.1=j
  ·rw [valV_pos e,valV_pos e,if_neg (fun z=>hk (e.trans z))]
  ·rw [valV_neg e,valV_neg e,ih]
theorem valV_put (kvs:List (κ × V)) (k j:κ) (y:V):valV (putK kvs k y) j=if j=k then some y else valV kvs j:=by
 unfold putK
 by_cases a:(kvs.any fun kv=>decide (kv.1=k))=true
 ·rw [if_pos a,valV_map]
  rw [valV_any] at a
  by_cases e:j=k
  ·obtain ⟨x,hx⟩:=Option.isSome_iff_exists.mp a
   rw [if_pos e,e,hx,Option.map_some,if_pos rfl]
  ·rw [if_neg e]
   cases valV kvs j with
   | none=>rfl
   | some x=>rw [Option.map_some,if_neg e]
 ·rw [if_neg a]
  refine valV_snoc k j y kvs ?_
  rw [valV_any] at a
  cases q:valV kvs k with
  | none=>rfl
  | some x=>rw [q] at a;exact (a rfl).elim
theorem length_putK (kvs:List (κ × V)) (k:κ) (v:V):(putK kvs k v).length≤kvs.length+1:=by
 unfold putK
 split
 ·rw [List.length_map];omega
 ·rw [List.length_append,List.length_cons,List.length_nil];omega
theorem RelO.isSome_eq {o:Option V}{u:Option Value}(r:RelO o u):o.isSome=u.isSome:=by
 cases o with
 | none=>cases u with
  | none=>rfl
  | some _=>exact (show False from r).elim
 | some _=>cases u with
  | none=>exact (show False from r).elim
  | some _=>rfl
theorem RelO.getD {o:Option V}{u:Option Value}{d:V}{d':Value}(r:RelO o u) (rd:RelV d d'):RelV (o.getD d) (u.getD d'):=by
 cases o with
 | none=>cases u with
  | none=>exact rd
  | some _=>exact (show False from r).elim
 | some _=>cases u with
  | none=>exact (show False from r).elim
  | some _=>exact r
theorem KV.val {kvs:List (κ × V)}{vs:List (κ × Value)}(r:KV kvs vs) (k:κ):RelO (valV kvs k) (valueAt vs k):=by
 unfold KV at r
 induction r with
 | nil=>exact True.intro
 | @cons p q ps qs h t ih=>
  obtain ⟨h1,h2⟩:=h
  by_cases e:p.1=k
  ·have e':q.1=k:=h1.symm.trans e
   have b:valueAt (q::qs) k=some q.2:=by simp [valueAt,List.find?_cons,e']
   rw [valV_pos e,b];exact h2
  ·have e':¬ q.1=k:=fun z=>e (h1.trans z)
   have b:valueAt (q::qs) k=valueAt qs k:=by simp [valueAt,List.find?_cons,e']
   rw [valV_neg e,b];exact ih
theorem KV.any {kvs:List (κ × V)}{vs:List (κ × Value)}(r:KV kvs vs) (k:κ):(kvs.any fun kv=>decide (kv.1=k))=vs.any fun kv=>decide (kv.1=k):=by
 unfold KV at r
 induction r with
 | nil=>rfl
 | cons h t ih=>rw [List.any_cons,List.any_cons,ih,h.1]
theorem KV.repl {kvs:List (κ × V)}{vs:List (κ × Value)}(r:KV kvs vs) (k:κ){y:V}{u:Value}(ry:RelV y u) :
  KV (kvs.map fun kv=>if kv.1=k then (kv.1,y) else kv) (vs.map fun kv=>if kv.1=k then (kv.1,u) else kv):=by
 unfold KV at r ⊢
 induction r with
 | nil=>exact .nil
 | @cons p q ps qs h t ih=>
  rw [List.map_cons,List.map_cons]
  refine .cons ?_ ih
  obtain ⟨h1,h2⟩:=h
  by_cases e:p.1=k
  ·rw [if_pos e,if_pos (h1.symm.trans e)];exact ⟨h1,ry⟩
  ·rw [if_neg e,if_neg (fun z=>e (h1.trans z))];exact ⟨h1,h2⟩
theorem KV.put {kvs:List (κ × V)}{vs:List (κ × Value)}(r:KV kvs vs) (k:κ){y:V}{u:Value}(ry:RelV y u):KV (putK kvs k y) (stored vs k u):=by
 unfold putK stored
 rw [r.any k]
 by_cases e:(vs.any fun kv=>decide (kv.1=k))=true
 ·rw [if_pos e,if_pos e];exact r.repl k ry
 ·rw [if_neg e,if_neg e];exact Paired.snoc r ⟨rfl,ry⟩
theorem KV.length {kvs:List (κ × V)}{vs:List (κ × Value)}(r:KV kvs vs):kvs.length=vs.length:=Paired.length r
end
theorem kV_is {P:Program}{w:World}{k:Key}{u:Value}(r:RelV (kV k) u):(mixKind P w).is k u=true:=by
 cases k with
 | inl i=>obtain ⟨t,e⟩:=(show ∃ t,u=Value.int i t from r);subst e;exact mixKind_int P w i t
 | inr x=>obtain ⟨t,e⟩:=(show ∃ t,u=Value.str x t from r);subst e;exact mixKind_str P w x t
theorem items_are {P:Program}{w:World}:∀ {ks:List Key}{us:List Value},Vals (ks.map kV) us->ItemsAre (mixKind P w) ks us
 | [],_,r=>by rw [List.map_nil] at r;cases r;exact .nil
 | k::ks,_,r=>by
  rw [List.map_cons] at r
  cases r with
  | cons h t=>exact .cons (kV_is h) (items_are t)
abbrev KT (H:Hp):List (List Key × V)->List (List Key × Addr × Value)->Prop:=Paired fun p q=>p.1=q.1∧H q.2.1=some (.tup (p.1.map kV))∧RelV p.2 q.2.2
theorem KT.val {H:Hp}{kvs:List (List Key × V)}{xs:List (List Key × Addr × Value)}(r:KT H kvs xs) (k:List Key):RelO (valV kvs k) ((atKey xs k).map (·.2)):=by
 induction r with
 | nil=>exact True.intro
 | @cons p q ps qs h t ih=>
  obtain ⟨h1,_,h2⟩:=h
  by_cases e:p.1=k
  ·have e':q.1=k:=h1.symm.trans e
   have b:atKey (q::qs) k=some q.2:=by simp [atKey,List.find?_cons,e']
   rw [valV_pos e,b];exact h2
  ·have e':¬ q.1=k:=fun z=>e (h1.trans z)
   have b:atKey (q::qs) k=atKey qs k:=by simp [atKey,List.find?_cons,e']
   rw [valV_neg e,b];exact ih
theorem KT.repl {H:Hp}{kvs:List (List Key × V)}{xs:List (List Key × Addr × Value)}(r:KT H kvs xs) (k:List Key){y:V}{u:Value}(ry:RelV y u) :
  KT H (kvs.map fun kv=>if kv.1=k then (kv.1,y) else kv) (xs.map (putAt k u)):=by
 induction r with
 | nil=>exact .nil
 | @cons p q ps qs h t ih=>
  rw [List.map_cons,List.map_cons]
  refine .cons ?_ ih
  obtain ⟨h1,h2,h3⟩:=h
  unfold putAt
  by_cases e:p.1=k
  ·rw [if_pos e,if_pos (h1.symm.trans e)];exact ⟨h1,h2,ry⟩
  ·rw [if_neg e,if_neg (fun z=>e (h1.trans z))];exact ⟨h1,h2,h3⟩
theorem KT.put {H:Hp}{kvs:List (List Key × V)}{xs:List (List Key × Addr × Value)}(r:KT H kvs xs) (k:List Key){b:Addr}{y:V}{u:Value}(hb:H b=some (.tup (k.map kV))) (ry:RelV y u) :
  KT H (putK kvs k y) (storedH xs k b u):=by
 have e:(kvs.any fun kv=>decide (kv.1=k))=(atKey xs k).isSome:=by
  rw [valV_any,(r.val k).isSome_eq,Option.isSome_map]
 unfold putK storedH
 rw [e]
 by_cases q:(atKey xs k).isSome=true
 ·rw [if_pos q,if_pos q];exact r.repl k ry
 ·rw [if_neg q,if_neg q];exact Paired.snoc r ⟨rfl,hb,ry⟩
theorem KT.keeps {H H':Hp}{kvs:List (List Key × V)}{xs:List (List Key × Addr × Value)}(r:KT H kvs xs) (ht:∀ b ys,H b=some (.tup ys)->H' b=some (.tup ys)):KT H' kvs xs:=
 Paired.mapP r fun _ _ z=>⟨z.1,ht _ _ z.2.1,z.2.2⟩
section
variable {P:Program}{w:World}{H:Hp}{h:Heap}{a:Addr}
theorem rd_of {u:HO}(ok:HOk P w H h) (e:Rd H a u):ObjOk P w H h a u:=e.ok ok
theorem dk_rd {kvs:List (Key × V)}(ok:HOk P w H h) (e:Rd H a (.dK kvs)):kvs.length≤sizeLine∧(a == sysModules)=false∧∃ vs,KV kvs vs∧h.DictOf (mixKind P w) a vs:=
 show ObjOk P w H h a (.dK kvs) from rd_of ok e
theorem dk_of {kvs:List (Key × V)}(ok:HOk P w H h) (e:H a=some (.dK kvs)):kvs.length≤sizeLine∧(a == sysModules)=false∧∃ vs,KV kvs vs∧h.DictOf (mixKind P w) a vs:=dk_rd ok (.inl e)
theorem key_of {ks:List Key}(ok:HOk P w H h) (e:H a=some (.tup (ks.map kV))):(tupleKind (mixKind P w)).is h ks a:=by
 obtain ⟨_,its,r,o,h1,h2,n,h3⟩:=(show ObjOk P w H h a (.tup (ks.map kV)) from ok a _ e)
 exact ⟨o,its.toArray,n,h1,h2,h3,by simpa using items_are r⟩
theorem dt_rd {kvs:List (List Key × V)}(ok:HOk P w H h) (e:Rd H a (.dT kvs)):kvs.length≤sizeLine∧(a == sysModules)=false ∧
  ∃ xs,KT H kvs xs∧h.DictOfH (tupleKind (mixKind P w)) a xs:=by
 obtain ⟨z,y,xs,r,o,es,ep,h1,h2,h3,h4,h5⟩:=(show ObjOk P w H h a (.dT kvs) from rd_of ok e)
 refine ⟨z,y,xs,r,o,es,ep,h1,h2,h3,h4,fun x hx=>?_,h5⟩
 have all:∀ {l:List (List Key × V)} {m:List (List Key × Addr × Value)},KT H l m->∀ x∈m,(tupleKind (mixKind P w)).is h x.1 x.2.1:=by
  intro l m q
  induction q with
  | nil=>intro x hx;exact nomatch hx
  | @cons p q ps qs hq t ih=>
   intro x hx
   rcases List.mem_cons.mp hx with e|hx
   ·subst e
    exact key_of ok (by rw [←hq.1];exact hq.2.1)
   ·exact ih x hx
 exact all r x hx
theorem dt_of {kvs:List (List Key × V)}(ok:HOk P w H h) (e:H a=some (.dT kvs)):kvs.length≤sizeLine∧(a == sysModules)=false ∧
  ∃ xs,KT H kvs xs∧h.DictOfH (tupleKind (mixKind P w)) a xs:=dt_rd ok (.inl e)
end
def DGet (H:Hp) (a:Addr) (y:V) (r:Option V):Prop:=
 (∃ kvs k,Rd H a (.dK kvs)∧y=kV k∧r=valV kvs k)∨∃ kvs k b,Rd H a (.dT kvs)∧y=.ref b∧H b=some (.tup (k.map kV))∧r=valV kvs k
def DPut (H:Hp) (a:Addr) (y v:V) (H':Hp):Prop:=
 (∃ kvs k,H a=some (.dK kvs)∧y=kV k∧kvs.length < sizeLine∧H'=upd H a (.dK (putK kvs k v))) ∨
 ∃ kvs k b,H a=some (.dT kvs)∧y=.ref b∧H b=some (.tup (k.map kV))∧kvs.length < sizeLine∧H'=upd H a (.dT (putK kvs k v))
theorem DGet.k {H:Hp}{a:Addr}{kvs:List (Key × V)}{k:Key}(e:H a=some (.dK kvs)):DGet H a (kV k) (valV kvs k):=.inl ⟨kvs,k,.inl e,rfl,rfl⟩
theorem DPut.k {H:Hp}{a:Addr}{kvs:List (Key × V)}{k:Key}{v:V}(e:H a=some (.dK kvs)) (hl:kvs.length < sizeLine):DPut H a (kV k) v (upd H a (.dK (putK kvs k v))):=.inl ⟨kvs,k,e,rfl,hl,rfl⟩
section
variable {X:Cx}{pins:List (Addr × Obj)}{σ:St}{H:Hp}{s:Shared}{a:Addr}{y v:V}{u r:Value}{o:Option V}{A:Around}{E:Value->Shared->Prop}
theorem Inv.big (I:Inv X pins σ H s):sysModules < s.heap.objs.size:=by
 have h:mainGlobals < s.heap.objs.size:=(I.mod.glob.keeps I.bk).lt
 exact Nat.lt_trans (by decide) h
theorem d_getItem {Q:Value->Shared->Prop}(hu:A.units+1 < cLine) (I:Inv X pins σ H s) (g:DGet H a y (some v)) (ry:RelV y u) (h:∀ w' s',Inv X pins σ H s'->RelV v w'->Q w' s') :
  wpAny (model X.prog X.w) A (getItem (.ref a) u) Q E s:=by
 rcases g with ⟨kvs,k,e,ey,l⟩|⟨kvs,k,b,e,ey,eb,l⟩
 ·subst ey
  obtain ⟨z,hd,vs,rel,dd⟩:=dk_rd I.hok e
  obtain ⟨w',hw,rw'⟩:=RelO.some_of (v:=v) (o:=valueAt vs k) (by rw [l];exact rel.val k)
  exact wpAny_getItem_of (kV_is ry) dd.mapOf hw (h w' _ (I.tok _) rw')
 ·subst ey
  cases (show u=Value.ref b from ry)
  obtain ⟨z,hd,xs,rel,dd⟩:=dt_rd I.hok e
  obtain ⟨w',hw,rw'⟩:=RelO.some_of (v:=v) (o:=(atKey xs k).map (·.2)) (by rw [l];exact rel.val k)
  obtain ⟨p,hp,hp2⟩:=Option.map_eq_some_iff.mp hw
  refine wpAny_getItem_heap (tupleKind_room_in1 hu) (key_of I.hok eb) dd hp ?_
  rw [hp2]
  exact h w' _ (I.tok _) rw'
theorem d_write {h':Heap}{t':Nat}{ob:HO}(I:Inv X pins σ H s) (mu:Mut (H a)) (hs:Heap.SameBut a s.heap h') (he:∃ q,h'.get? a=some q) (new:ObjOk X.prog X.w (upd H a ob) h' a ob) :
  Inv X pins σ (upd H a ob) { s with heap:=h',toks:=t' }:=
 I.write (x:=a) (e:=a) mu (.inl rfl) (fun b q hb z=>(hs.2 b hb).trans z) he new
theorem dk_new {P:Program}{w:World}{H':Hp}{h':Heap}{kvs:List (Key × V)}{vs:List (Key × Value)}(z:kvs.length≤sizeLine) (hd:(a == sysModules)=false) (rel:KV kvs vs) (dd:h'.DictOf (mixKind P w) a vs) :
  ObjOk P w H' h' a (.dK kvs):=⟨z,hd,vs,rel,dd⟩
theorem d_setItem {H':Hp}{Q:Unit->Shared->Prop}(hu:A.units+1 < cLine) (I:Inv X pins σ H s) (g:DPut H a y v H') (ry:RelV y u) (rv:RelV v r) (h:∀ s',Inv X pins σ H' s'->Q () s') :
  wpAny (model X.prog X.w) A (setItem (.ref a) u r) Q E s:=by
 rcases g with ⟨kvs,k,e,ey,l,eH⟩|⟨kvs,k,b,e,ey,eb,l,eH⟩
 ·subst ey eH
  obtain ⟨z,hd,vs,rel,dd⟩:=dk_of I.hok e
  have hz:vs.length≤sizeLine:=by rw [←rel.length];exact z
  have hl:(putK kvs k v).length≤sizeLine:=by have:=length_putK kvs k v;omega
  refine wpAny_setItem_pairs (hsz:=hz) (kV_is ry) dd fun h' dd' hs=>h _ ?_
  have he:∃ q,h'.get? a=some q:=let ⟨q,_,_,hq,_⟩:=dd';⟨q,hq⟩
  exact d_write I (by rw [e];exact True.intro) hs he (dk_new hl hd (rel.put k rv) dd')
 ·subst ey eH
  cases (show u=Value.ref b from ry)
  obtain ⟨z,hd,xs,rel,dd⟩:=dt_of I.hok e
  have hz:xs.length≤sizeLine:=by rw [←Paired.length rel];exact z
  have hl:(putK kvs k v).length≤sizeLine:=by have:=length_putK kvs k v;omega
  refine wpAny_setItem_heap (hsz:=hz) (tupleKind_room_in1 hu) (key_of I.hok eb) dd fun h' dd' hs=>h _ ?_
  obtain ⟨q,es,ep,hq,h2,h3,h4,_,h5⟩:=dd'
  refine d_write I (by rw [e];exact True.intro) hs ⟨q,hq⟩ ⟨hl,hd,_,(rel.put k eb rv).keeps fun c ys ec=>?_,q,es,ep,hq,h2,h3,h4,h5⟩
  rw [upd_ne (ne_of ec e (fun z=>nomatch z))]
  exact ec
end
section
variable {X:Cx}{pins:List (Addr × Obj)}{σ:St}{H:Hp}{s:Shared}{a:Addr}{kvs:List (Key × V)}{k:Key}{u:Value}{A:Around}{E:Value->Shared->Prop}
end
def NoSl (i:Expr):Prop:=∀ ov iv,subscripted i false ov iv=operate [ov,iv] (getItem ov iv)
theorem subD_of {prog:Program}{w:World}{A:Around}{E:Value->Shared->Prop}{s:Shared}{env:Env}{value slice:Expr}{pos:Pos}{T id:String}{Q:Value->Shared->Prop}
  (hl:typeLookup (.type T) "__getitem__"=pure (some (.builtin id))) (hs:NoSl slice)
  (h:wpAny (model prog w) A (eval value env) (fun o s₁=>wpAny (model prog w) A (eval slice env) (fun i s₂=>s₂.TypeIs o T∧wpAny (model prog w) A (getItem o i) Q E s₂) E s₁) E s) :
  wpAny (model prog w) A (eval (.Subscript value slice pos) env) Q E s:=by
 refine Subscript_ (wpAny_mono h (fun o s₁ h₁=>wpAny_mono h₁ (fun i s₂ h₂=>?_) fun _ _ x=>x) fun _ _ x=>x)
 obtain ⟨hT,h₂⟩:=h₂
 unfold subscriptTail
 refine wpAny_bind ?_
 rw [getitemInPython_of_ne hT.not_modules]
 refine wpAny_bind (wpAny_specialOf hT hl ?_)
 have fin:wpAny (model prog w) A (subscripted slice false o i) (fun r s₃=>wpAny (model prog w) A (letTemporaryGo value o r >>= fun _=>pure r) Q E s₃) E s₂:=by
  rw [hs o i]
  exact wpAny_operating (wpAny_mono h₂ (fun r s₃ h₃=>wpAny_bind (wpAny_letTemporaryGo (wpAny_pure h₃))) fun _ _ x=>x)
 first
  | exact wpAny_pure (wpAny_bind fin)
  | exact wpAny_bind (wpAny_pure (wpAny_bind fin))
  | exact wpAny_bind fin
theorem dict_typeIs {X:Cx}{pins:List (Addr × Obj)}{σ:St}{H:Hp}{s:Shared}{a:Addr}{y:V}{o:Option V}(I:Inv X pins σ H s) (g:DGet H a y o):s.TypeIs (.ref a) "dict":=by
 rcases g with ⟨kvs,k,e,_,_⟩|⟨kvs,k,b,e,_,_,_⟩
 ·obtain ⟨_,_,vs,_,dd⟩:=dk_rd I.hok e
  exact dd.typeIs
 ·obtain ⟨_,_,xs,_,dd⟩:=dt_rd I.hok e
  exact dd.typeIs
def tDGet (td ty:TE):TE:=fun σ H Q=>td σ H fun x H1=>ty σ H1 fun y H2=>∃ a v,x=.ref a∧DGet H2 a y (some v)∧Q v H2
def sDPut (td ty tv:TE):TS:=fun D σ H=>tv σ H fun v H1=>td σ H1 fun x H2=>ty σ H2 fun y H3=>∃ a H4,x=.ref a∧DPut H3 a y v H4∧D.nx σ H4
section
variable {X:Cx}{o i e value:Expr}{pos pos' tpos:Pos}{td ty tv:TE}
theorem pe_dget (hu:X.A.units+1 < cLine) (ho:PE X o td) (hi:PE X i ty) (hs:NoSl i):PE X (.Subscript o i pos) (tDGet td ty):=by
 intro pins s σ H Q I h
 refine subD_of PySem.F.slot_dict_getitem.lookup hs (thn (ho pins s σ H _ I h) fun u s1 ⟨x,H1,I1,rx,q1⟩=>thn (hi pins s1 σ H1 _ I1 q1) fun iv s2 ⟨y,H2,I2,ry,a,v,ex,g,q2⟩=>?_)
 subst ex
 obtain rfl:u=Value.ref a:=rx
 exact ⟨dict_typeIs I2 g,d_getItem hu I2 g ry fun w' s3 I3 rw'=>⟨v,H2,I3,rw',q2⟩⟩
theorem ps_dput (hu:X.A.units+1 < cLine) (ho:PE X o td) (hi:PE X i ty) (hv:PE X value tv) (hs:swapsWith value (some (.Subscript o i pos')) pos.line X.env=pure false) :
  PS X (.Assign [.Subscript o i pos'] value pos) (sDPut td ty tv):=by
 intro pins s σ H D I h
 refine wpAny_Assign_Subscript (thn (hv pins s σ H _ I h) fun r s1 ⟨v,H1,I1,rv,q1⟩=>thn (ho pins s1 σ H1 _ I1 q1) fun u s2 ⟨x,H2,I2,rx,q2⟩=>thn (hi pins s2 σ H2 _ I2 q2) fun iv s3 ⟨y,H3,I3,ry,a,H4,ex,g,q3⟩=>?_) hs
 subst ex
 obtain rfl:u=Value.ref a:=rx
 exact d_setItem hu I3 g ry rv fun s4 I4=>⟨σ,H4,I4,q3⟩
end
theorem dk_empty {P:Program}{w:World}{H:Hp}(h:Heap) (hb:sysModules < h.objs.size):ObjOk P w H (h.push { cls:=.type "dict",data:=.dict #[] }) h.objs.size (.dK []):=
 ⟨Nat.zero_le _,beq_eq_false_iff_ne.mpr (Ne.symm (Nat.ne_of_lt hb)),[],.nil,Heap.DictOf.new h⟩
def tDNewK:TE:=fun _ H Q=>∀ p,H p=none->Q (.ref p) (upd H p (.dK []))
section
variable {X:Cx}{pos:Pos}
theorem pe_dnewK:PE X (.Dict [] [] pos) tDNewK:=fun pins s σ H Q I h=>
 wpAny_Dict_empty ⟨.ref s.heap.objs.size,_,I.laid (a:=s.heap.objs.size) (o:=.dK []) (t':=s.toks) (fun _ _ q=>Heap.get?_push_of_some _ q) (Nat.le_refl _) (dk_empty s.heap I.big),rfl,h _ (I.hok.fresh (Nat.le_refl _))⟩
end
structure M1 (X:Cx) (o:Expr) (m:Str) (apos:Pos) (e:Expr) (cpos:Pos):Prop where
 base:attributeBase o m X.env (eval o X.env)=eval o X.env
 few:((backTo cpos (starEach [e] X.env)).all (fun x=>!x.1) && (backToKw cpos (keywordEach [] X.env)).all (fun x=>x.1.isSome)
  && decide (([e]:List Expr).length+([]:List Keyword).length+(if ([]:List Keyword).isEmpty then 0 else 1) < 30))=true
 line:(apos.endLine == cpos.line)=true
 trees:backTo cpos (starEach [e] X.env)=[(false,eval e X.env)]
structure M2 (X:Cx) (o:Expr) (m:Str) (apos:Pos) (e f:Expr) (cpos:Pos):Prop where
 base:attributeBase o m X.env (eval o X.env)=eval o X.env
 few:((backTo cpos (starEach [e,f] X.env)).all (fun x=>!x.1) && (backToKw cpos (keywordEach [] X.env)).all (fun x=>x.1.isSome)
  && decide (([e,f]:List Expr).length+([]:List Keyword).length+(if ([]:List Keyword).isEmpty then 0 else 1) < 30))=true
 line:(apos.endLine == cpos.line)=true
 trees:backTo cpos (starEach [e,f] X.env)=[(false,eval e X.env),(false,eval f X.env)]
def IsD (H:Hp) (a:Addr):Prop:=(∃ kvs,Rd H a (.dK kvs))∨∃ kvs,Rd H a (.dT kvs)
theorem isD_at {X:Cx}{pins:List (Addr × Obj)}{σ:St}{H:Hp}{s:Shared}{a:Addr}(I:Inv X pins σ H s) (d:IsD H a) :
  s.TypeIs (.ref a) "dict" ∧ (∀ b,Value.ref a=.ref b->∃ ob,s.heap.get? b=some ob∧ob.dict=none)∧(a == sysModules)=false:=by
 rcases d with ⟨kvs,e⟩|⟨kvs,e⟩
 ·obtain ⟨_,hd,vs,_,dd⟩:=dk_rd I.hok e
  refine ⟨dd.typeIs,fun b q=>?_,hd⟩
  cases q
  obtain ⟨ob,_,_,h1,h2,_⟩:=dd
  exact ⟨ob,h1,h2.2.1⟩
 ·obtain ⟨_,hd,xs,_,dd⟩:=dt_rd I.hok e
  refine ⟨dd.typeIs,fun b q=>?_,hd⟩
  cases q
  obtain ⟨ob,_,_,h1,h2,_⟩:=dd
  exact ⟨ob,h1,h2.2.1⟩
section
variable {X:Cx}{pins:List (Addr × Obj)}{σ:St}{H:Hp}{s:Shared}{a:Addr}{y d:V}{u r:Value}{o:Option V}{A:Around}{E:Value->Shared->Prop}
theorem d_get2 {Q:Value->Shared->Prop}(hu:A.units+1 < cLine) (I:Inv X pins σ H s) (g:DGet H a y o) (ry:RelV y u) (rd:RelV d r) (h:∀ w' s',Inv X pins σ H s'->RelV (o.getD d) w'->Q w' s') :
  wpAny (model X.prog X.w) A (call (.builtin "dict.get") [.ref a,u,r]) Q E s:=by
 rcases g with ⟨kvs,k,e,ey,l⟩|⟨kvs,k,b,e,ey,eb,l⟩
 ·subst ey
  obtain ⟨z,hd,vs,rel,dd⟩:=dk_rd I.hok e
  refine call_meetsIn PySem.F.slot_dict_get dd.typeIs PySem.F.entry_dict_get (PySem.F.args_dict_get_3 _ _ _) (meets_dict_get_default (mixKind X.prog X.w) a (kV_is ry) hd r) ⟨_,dd.mapOf,h _ _ (I.tok _) ?_⟩
  rw [l]
  exact (rel.val k).getD rd
 ·subst ey
  cases (show u=Value.ref b from ry)
  obtain ⟨z,hd,xs,rel,dd⟩:=dt_rd I.hok e
  refine call_meetsIn PySem.F.slot_dict_get dd.typeIs PySem.F.entry_dict_get (PySem.F.args_dict_get_3 _ _ _) (meetsH_dict_get_default (tupleKind (mixKind X.prog X.w)) a b hd r) ⟨tupleKind_room_in1 hu,k,xs,key_of I.hok eb,dd,h _ _ (I.tok _) ?_⟩
  rw [l]
  exact (rel.val k).getD rd
end
def tDGet2 (td ty tx:TE):TE:=fun σ H Q=>td σ H fun x H1=>∃ a,x=.ref a∧IsD H1 a∧ty σ H1 fun y H2=>tx σ H2 fun z H3=>∃ o,DGet H3 a y o∧Q (o.getD z) H3
section
variable {X:Cx}{o e f:Expr}{apos cpos:Pos}{td ty tx:TE}
theorem pe_dget2 (hu:X.A.units+1 < cLine) (ho:PE X o td) (he:PE X e ty) (hf:PE X f tx) (m:M2 X o "get" apos e f cpos):PE X (.Call (.Attribute o "get" apos) [e,f] [] cpos) (tDGet2 td ty tx):=by
 intro pins s σ H Q I h
 refine wpAny_Call_method m.base m.few m.line PySem.F.plainAttrs_dict PySem.F.slot_dict_get PySem.F.type_dict_get (thn (ho pins s σ H _ I h) fun u s1 ⟨x,H1,I1,rx,a,ex,d,q1⟩=>?_)
 subst ex
 obtain rfl:u=Value.ref a:=rx
 obtain ⟨t1,t2,_⟩:=isD_at I1 d
 refine ⟨t1,t2,?_⟩
 rw [m.trees]
 refine Calls.callWith_builtin rfl (Calls.evalArgs_plain (Calls.spliced_cons (thn (he pins s1 σ H1 _ I1 q1) fun iv s2 ⟨y,H2,I2,ry,q2⟩=>
  Calls.spliced_cons (thn (hf pins s2 σ H2 _ I2 q2) fun fv s3 ⟨z,H3,I3,rz,ov,g,q3⟩=>Calls.spliced_nil ?_))))
 exact d_get2 hu I3 g ry rz fun w' s4 I4 rw'=>⟨_,H3,I4,rw',q3⟩
end
section
variable {X:Cx}{pins:List (Addr × Obj)}{σ:St}{H:Hp}{s:Shared}{a:Addr}{kvs:List (Key × V)}{A:Around}{E:Value->Shared->Prop}
end
section
variable {X:Cx}{pins:List (Addr × Obj)}{σ:St}{H:Hp}{s:Shared}{a:Addr}{y:V}{u:Value}{A:Around}{E:Value->Shared->Prop}
end
end L2
namespace L2
open PySem PySem.Spec PyProof.Rows
section
variable {κ:Type} [DecidableEq κ]
theorem valV_not {kvs:List (κ × V)}{k:κ}(h:valV kvs k=none):¬ k∈kvs.map (·.1):=by
 intro m
 obtain ⟨p,hp,e⟩:=List.mem_map.mp m
 have q:(kvs.any fun kv=>decide (kv.1=k))=true:=List.any_eq_true.mpr ⟨p,hp,decide_eq_true e⟩
 rw [valV_any,h] at q
 exact absurd q (by simp)
end
end L2
set_option Elab.async false
set_option linter.all false
set_option maxRecDepth 100000
set_option maxHeartbeats 4000000
namespace L2
open PySem PySem.Spec PyProof.Rows
section
variable {X:Cx}
def CDivB (_ j:Int):Prop:=j ≠ 0∧j.natAbs < 2 ^ 256
theorem log256 {j:Int}(h:j ≠ 0) (hj:j.natAbs < 2 ^ 256):j.natAbs.log2 < 9000:=by
 have h0:j.natAbs ≠ 0:=by omega
 have h1:=(Nat.log2_lt h0).mpr hj
 omega
theorem op_fdivB:OpR X (binaryOp .FloorDiv) (rI CDivB fun i j=>.int (i.fdiv j)):=opI fun _ _ _ _ _ _ _ hc q=>floordiv_int hc.1 q (.inl (PyProof.noPylong_of_log2 (log256 hc.1 hc.2)))
theorem call_isi:CallR X (.builtin "isinstance") (fun xs H Q=>∃ x n ty b,xs=[x,.ty n]∧TyOf X.K H x ty∧PySem.W.kitOne X.K ty (.type n)=some b∧Q (.bl b) H):=by
 intro pins s σ H xs us Q I r h
 obtain ⟨x,n,ty,b,rfl,hty,hk,q⟩:=h
 obtain ⟨u,w',rfl,rx,rc⟩:=vals2 r
 cases (show w'=Value.type n from rc)
 exact isinst_ok I rx hty hk (fun tk=>⟨.bl b,H,I.tok _,rfl,q⟩)
theorem kitOne_ty (K:PySem.W.Frag) (A B:String) (r:Bool)
  (h:(if (Value.type A == Value.type B)=true then some true else if PySem.W.kitMeta B=true then (fastBuiltinMro A).map (·.contains (.type B)) else none)=some r):PySem.W.kitOne K (.type A) (.type B)=some r:=h
mutual
inductive DatV (K:PySem.W.Frag) (H:Hp):V->PyData->Prop
 | non:DatV K H .non .none
 | bl (b:Bool):DatV K H (.bl b) (.bool b)
 | int (i:Int):DatV K H (.int i) (.int i)
 | str (x:Str):DatV K H (.str x) (.str x)
 | lst {a:Addr} {xs:List V} {ds:List PyData} (h:SqL K H a xs) (r:DatVs K H xs ds):DatV K H (.ref a) (.list ds)
 | tup {a:Addr} {xs:List V} {ds:List PyData} (h:SqT K H a xs) (r:DatVs K H xs ds):DatV K H (.ref a) (.tuple ds)
inductive DatVs (K:PySem.W.Frag) (H:Hp):List V->List PyData->Prop
 | nil:DatVs K H [] []
 | cons {x:V} {d:PyData} {xs:List V} {ds:List PyData} (h:DatV K H x d) (t:DatVs K H xs ds):DatVs K H (x::xs) (d::ds)
end
mutual
theorem DatV.reads {pins:List (Addr × Obj)}{σ:St}{H:Hp}{s:Shared}(I:Inv X pins σ H s):∀ {x:V}{d:PyData}{u:Value},DatV X.K H x d->RelV x u->∃ as,Reads s.heap u d as
 | _,_,_,.non,r=>by cases (show _=Value.none from r);exact ⟨_,.none⟩
 | _,_,_,.bl b,r=>by cases (show _=Value.bool b from r);exact ⟨_,.bool b⟩
 | _,_,_,.int i,r=>by obtain ⟨t,rfl⟩:=r;exact ⟨_,.int i t⟩
 | _,_,_,.str x,r=>by obtain ⟨t,rfl⟩:=r;exact ⟨_,.str x t⟩
 | _,_,_,@DatV.lst _ _ a xs ds h q,r=>by
  cases (show _=Value.ref a from r)
  obtain ⟨its,hv,hp,_⟩:=I.list h
  obtain ⟨o,n,e,c,_,d⟩:=hp
  obtain ⟨as,z⟩:=DatVs.reads I q hv
  exact ⟨_,.list e c d (by simpa using z)⟩
 | _,_,_,@DatV.tup _ _ a xs ds h q,r=>by
  cases (show _=Value.ref a from r)
  obtain ⟨its,hv,hp,_⟩:=I.tuple h
  obtain ⟨o,e,c,n,d⟩:=hp
  obtain ⟨as,z⟩:=DatVs.reads I q hv
  exact ⟨_,.tuple e c d (by simpa using z)⟩
theorem DatVs.reads {pins:List (Addr × Obj)}{σ:St}{H:Hp}{s:Shared}(I:Inv X pins σ H s):∀ {xs:List V}{ds:List PyData}{us:List Value},DatVs X.K H xs ds->Vals xs us->∃ as,ReadsAll s.heap us ds as
 | _,_,_,.nil,.nil=>⟨_,.nil⟩
 | _,_,_,.cons h t,.cons r q=>by
  obtain ⟨as,z⟩:=DatV.reads I h r
  obtain ⟨bs,y⟩:=DatVs.reads I t q
  exact ⟨_,.cons z y⟩
end
def rEqD (K:PySem.W.Frag):R2:=fun x y H Q=>∃ d e,DatV K H x d∧DatV K H y e∧SeqAt.shaped d=true∧SeqAt.shaped e=true∧Q (.bl (PyData.eqv d e)) H
def rNeD (K:PySem.W.Frag):R2:=fun x y H Q=>∃ d e,DatV K H x d∧DatV K H y e∧SeqAt.shaped d=true∧SeqAt.shaped e=true∧Q (.bl (!PyData.eqv d e)) H
theorem op_eqD (hu:X.A.units+64 < cLine):OpR X (compareOp .Eq) (rEqD X.K):=by
 intro pins s σ H x y v u Q I rx ry h
 obtain ⟨d,e,hd,he,sd,se,q⟩:=h
 obtain ⟨as,z⟩:=hd.reads I rx
 obtain ⟨bs,z'⟩:=he.reads I ry
 exact SeqAt.compareEq_shaped z z' sd se hu ⟨.bl _,H,I,rfl,q⟩
theorem op_neD (hu:X.A.units+64 < cLine):OpR X (compareOp .NotEq) (rNeD X.K):=by
 intro pins s σ H x y v u Q I rx ry h
 obtain ⟨d,e,hd,he,sd,se,q⟩:=h
 obtain ⟨as,z⟩:=hd.reads I rx
 obtain ⟨bs,z'⟩:=he.reads I ry
 exact SeqAt.compareNe_shaped z z' sd se hu ⟨.bl _,H,I,rfl,q⟩
end
theorem same_upd {H:Hp}{p:Addr}{o:HO}(h:H p=none):Same H (upd H p o):=fun b u e=>by
 rw [upd_ne (ne_of_none e h)];exact e
theorem atI_lt {α:Type}(xs:List α) (i:Int) (h0:0≤i) (h1:i < xs.length):∃ v,atI xs i=some v∧v∈xs:=by
 have hl:i.toNat < xs.length:=by omega
 refine ⟨xs[i.toNat],?_,List.getElem_mem hl⟩
 have e:((i.toNat:Nat):Int)=i:=by omega
 have:=atI_nat (xs:=xs) (j:=i.toNat) (v:=xs[i.toNat]) (List.getElem?_eq_getElem hl)
 rw [e] at this
 exact this
theorem atI_ints (ns:List Int) (i:Int) (h0:0≤i) (h1:i < ns.length):∃ z,atI (ns.map V.int) i=some (.int z)∧z∈ns:=by
 obtain ⟨v,e,m⟩:=atI_lt (ns.map V.int) i h0 (by simpa using h1)
 obtain ⟨z,hz,rfl⟩:=List.mem_map.mp m
 exact ⟨z,e,hz⟩
end L2
set_option Elab.async false
set_option linter.all false
set_option maxRecDepth 100000
set_option maxHeartbeats 4000000
namespace L2
open PySem PySem.Spec PyProof.Rows
def clOf (cells:List (Str × Addr)):List (Str × NameKind)->List (Str × Addr)->List (Str × Addr)
 | [],acc=>acc
 | (n,k)::r,acc=>if (k == .free)=true then clOf cells r ((n,(cells.lookup n).getD 0)::acc) else clOf cells r acc
theorem closure_run {env:Env}:∀ (names:List (Str × NameKind)) (acc:List (Str × Addr)),(∀ y∈names,y.2=.free->∃ c,env.cells.lookup y.1=some c) →
  (forIn names acc (fun (x:Str × NameKind) (cs:List (Str × Addr))=>match x with
   | (name,kind)=>if (kind == .free)=true then (do let a ←cellOf env name;pure (ForInStep.yield ((name,a)::cs))) else (do pure PUnit.unit;pure (ForInStep.yield cs))):Sem (List (Str × Addr)))=pure (clOf env.cells names acc)
 | [],acc,_=>rfl
 | (n,k)::r,acc,h=>by
  rw [List.forIn_cons]
  have hr:∀ y∈r,y.2=.free->∃ c,env.cells.lookup y.1=some c:=fun y hy=>h y (List.mem_cons_of_mem _ hy)
  by_cases hk:(k == .free)=true
  ·obtain ⟨c,hc⟩:=h (n,k) List.mem_cons_self (by simpa using hk)
   have hc':env.cells.lookup n=some c:=hc
   simp only [hk,if_true,clOf,hc',Option.getD_some]
   have e:cellOf env n=pure c:=by unfold cellOf;rw [hc']
   rw [e]
   exact closure_run r _ hr
  ·simp only [hk,if_false,clOf]
   exact closure_run r acc hr
theorem closureFor_eq {scope:Scope}{env:Env}(h:∀ y∈scope.names,y.2=.free->∃ c,env.cells.lookup y.1=some c):closureFor scope env=pure (clOf env.cells scope.names []):=by
 unfold closureFor
 have:=closure_run (env:=env) scope.names [] h
 first
  | exact (congrArg (fun m=>m >>= fun cs=>pure cs) this).trans (pure_bind _ _)
  | (simp only [] at this ⊢;rw [this];rfl)
theorem clOf_sub {cells:List (Str × Addr)}{x:Str}{c:Addr}:∀ {names:List (Str × NameKind)}{acc:List (Str × Addr)},(∀ y∈names,y.2=.free->∃ c,cells.lookup y.1=some c)->(clOf cells names acc).lookup x=some c->acc.lookup x=some c∨cells.lookup x=some c
 | [],acc,_,h=>.inl h
 | (n,k)::r,acc,hf,h=>by
  have hr:∀ y∈r,y.2=.free->∃ c,cells.lookup y.1=some c:=fun y hy=>hf y (List.mem_cons_of_mem _ hy)
  unfold clOf at h
  by_cases hk:(k == .free)=true
  ·rw [if_pos hk] at h
   rcases clOf_sub hr h with q|q
   ·rw [List.lookup_cons] at q
    cases hx:x == n with
    | true=>
     rw [hx] at q
     obtain ⟨d,hd⟩:=hf (n,k) List.mem_cons_self (by simpa using hk)
     have e:x=n:=by simpa using hx
     subst e
     have hd':cells.lookup x=some d:=hd
     rw [hd'] at q ⊢
     exact .inr (by simpa using q)
    | false=>rw [hx] at q;exact .inl q
   ·exact .inr q
  ·rw [if_neg hk] at h
   exact clOf_sub hr h
theorem clOf_acc {cells:List (Str × Addr)}{x:Str}:∀ {names:List (Str × NameKind)}{acc:List (Str × Addr)},(∀ y∈names,y.2=.free->∃ c,cells.lookup y.1=some c)->(∃ c,acc.lookup x=some c)->∃ c,(clOf cells names acc).lookup x=some c
 | [],acc,_,h=>h
 | (n,k)::r,acc,hf,h=>by
  have hr:∀ y∈r,y.2=.free->∃ c,cells.lookup y.1=some c:=fun y hy=>hf y (List.mem_cons_of_mem _ hy)
  unfold clOf
  by_cases hk:(k == .free)=true
  ·rw [if_pos hk]
   refine clOf_acc hr ?_
   rw [List.lookup_cons]
   cases hx:x == n with
   | true=>exact ⟨_,rfl⟩
   | false=>exact h
  ·rw [if_neg hk]
   exact clOf_acc hr h
theorem clOf_has {cells:List (Str × Addr)}{x:Str}:∀ {names:List (Str × NameKind)}{acc:List (Str × Addr)},(∀ y∈names,y.2=.free->∃ c,cells.lookup y.1=some c)->names.lookup x=some .free->∃ c,(clOf cells names acc).lookup x=some c
 | [],acc,_,h=>by simp at h
 | (n,k)::r,acc,hf,h=>by
  have hr:∀ y∈r,y.2=.free->∃ c,cells.lookup y.1=some c:=fun y hy=>hf y (List.mem_cons_of_mem _ hy)
  rw [List.lookup_cons] at h
  unfold clOf
  cases hx:x == n with
  | true=>
   rw [hx] at h
   have hk:k=.free:=by simpa using h
   subst hk
   rw [if_pos (show (NameKind.free == NameKind.free)=true from rfl)]
   refine clOf_acc hr ⟨(cells.lookup n).getD 0,?_⟩
   rw [List.lookup_cons,hx]
  | false=>
   rw [hx] at h
   by_cases hk:(k == .free)=true
   ·rw [if_pos hk];exact clOf_has hr h
   ·rw [if_neg hk];exact clOf_has hr h
theorem lookup_mem {x:Str}{k:NameKind}:∀ {names:List (Str × NameKind)},names.lookup x=some k->(x,k)∈names
 | [],h=>by simp at h
 | (n,j)::r,h=>by
  rw [List.lookup_cons] at h
  cases hx:x == n with
  | true=>
   rw [hx] at h
   have e:x=n:=by simpa using hx
   have e2:j=k:=by simpa using h
   subst e;subst e2
   exact List.mem_cons_self
  | false=>rw [hx] at h;exact List.mem_cons_of_mem _ (lookup_mem h)
theorem lookup_relabel {env:Env}{x:Str}:∀ {names:List (Str × NameKind)},
  (names.map fun (n,k)=>if (k == NameKind.free && env.scope.kind == .function && env.kindOf n == some .cell) then (n,NameKind.cell) else (n,k)).lookup x
   = (names.lookup x).map fun k=>if (k == NameKind.free && env.scope.kind == .function && env.kindOf x == some .cell) then NameKind.cell else k
 | []=>rfl
 | (n,k)::r=>by
  have ih:=@lookup_relabel env x r
  show List.lookup x ((if (k == NameKind.free && env.scope.kind == .function && env.kindOf n == some .cell)=true then (n,NameKind.cell) else (n,k))::_)=_
  cases hx:x == n with
  | true=>
   have e:x=n:=by simpa using hx
   subst e
   by_cases hc:(k == NameKind.free && env.scope.kind == .function && env.kindOf x == some .cell)=true
   ·rw [if_pos hc]
    simp only [List.lookup_cons,beq_self_eq_true,Option.map_some]
    rw [if_pos hc]
   ·rw [if_neg hc]
    simp only [List.lookup_cons,beq_self_eq_true,Option.map_some]
    rw [if_neg hc]
  | false=>
   by_cases hc:(k == NameKind.free && env.scope.kind == .function && env.kindOf n == some .cell)=true
   ·rw [if_pos hc];simp only [List.lookup_cons,hx];exact ih
   ·rw [if_neg hc];simp only [List.lookup_cons,hx];exact ih
abbrev cCx (X:Cx) (scope:Scope) (N':List Str) (C:Addr) (s₀:Shared) (H₀:Hp) (ex:List Addr) (pn:List (Addr × Obj)):Cx:=
 { X with N:=N',s₀:=s₀,H₀:=H₀,env:=compEnvC scope (clOf X.env.cells scope.names []) C X.env,outer:=X.stack,stack:=X.stack,ex:=ex,fn:=fun _=>false,pn:=pn,xe:=fun _ _=>False }
def PTs (Y:Cx) (ifs:List Expr) (t:TT):Prop:=
 ∀ (pins:List (Addr × Obj)) (s:Shared) (σ:St) (H:Hp) (Q:Bool->Hp->Prop),Inv Y pins σ H s->t σ H Q →
  wpAny (model Y.prog Y.w) Y.A (forIn ifs true fun c r=>if r=true then do let ok ←isTrue c Y.env (eval c Y.env);pure (ForInStep.yield ok) else pure (ForInStep.yield r)) (TP Y pins σ Q) Y.xe s
def tYes:TT:=fun _ H Q=>Q true H
theorem pts_nil {Y:Cx}:PTs Y [] tYes:=fun _ _ _ H _ I h=>wpAny_pure ⟨H,I,h⟩
theorem pts_one {Y:Cx}{c:Expr}{t:TT}(h:PT Y c t):PTs Y [c] t:=fun pins s σ H Q I hw=>PySem.wpAny_tests_one (h pins s σ H Q I hw)
theorem HOk.but {P:Program}{w:World}{H:Hp}{h h':Heap}{C:Addr}(ok:HOk P w H h) (hn:H C=none) (hs:Heap.SameBut C h h'):HOk P w H h':=fun b ob e=>by
 refine (ok b ob e).stay (fun c w' hc q=>(hs.2 c ?_).trans q) (fun _ q=>q) fun _ _ q=>q
 rintro rfl
 rcases hc with rfl|hc
 ·rw [hn] at e;cases e
 ·rw [hn] at hc;cases hc
theorem Un.but {fs ex:List Addr}{H H':Hp}{h h1 h2:Heap}{C:Addr}(u:Un fs ex H H' h h1) (hs:Heap.SameBut C h1 h2) (hC:∀ b o,h.get? b=some o->b ≠ C):Un fs ex H H' h h2 where
 keep:=fun b o e n hb hx=>(hs.2 b (hC b o e)).trans (u.keep b o e n hb hx)
 slot:=fun b o e n hb hx=>by
  obtain ⟨sl,q⟩:=u.slot b o e n hb hx
  exact ⟨sl,(hs.2 b (hC b o e)).trans q⟩
 free:=u.free
 there:=fun b o e hx=>by
  obtain ⟨o',q⟩:=u.there b o e hx
  exact ⟨o',(hs.2 b (hC b o e)).trans q⟩
 tups:=u.tups
 frzs:=u.frzs
 tbls:=u.tbls
section
variable {X:Cx}
def tComp (k:Nat) (wi:TI) (g:TG) (tt:TT) (te:TE):TE:=fun σ H Q=>wi σ H fun J H1=>∀ D,H1 D=none->∃ W:Nat->Nat->List V->Hp->Prop,(∃ m,W 0 m [] (upd H1 D (.lst [])))∧∀ i m ys H,W i m ys H →
 (J.stop i H∧Q (.ref D) H)∨(J.go i H∧∃ N:List V->Hp->Prop,(∀ ys' H',N ys' H'->∃ m',m' < m∧W (i+1) m' ys' H') ∧
  ∀ x H',J.yld i H x H'->g x (List.replicate k none++σ) H' fun σ2 H2=>(∃ vs:St,vs.length=k∧σ2=vs++σ)∧tt σ2 H2 fun b H3=>if b=true then te σ2 H3 fun y H4=>H4 D=some (.lst ys)∧ys.length < sizeLine∧N (ys++[y]) (upd H4 D (.lst (ys++[y]))) else N ys H3)
theorem comp_loop {Y:Cx}{tg elt iter:Expr}{ifs:List Expr}{scope:Scope}{pos:Pos}{it D:Addr}{g:TG}{tt:TT}{te:TE}{J:It}{fp:List Addr}{tn:Nat->Heap->Prop}{k:Nat}{σ:St}{Q:VK}
  (hc:Y.calm=true) (hx:Y.xe=fun _ _=>False) (hg:PG Y tg g) (ht:PTs Y ifs tt) (he:PE Y elt te) (T:Turn Y.prog Y.w Y.K tg J fp it tn) (hf:∀ H:Hp,(∀ b∈fp,H b=none)->∀ b∈fp,FpOk Y [] H b)
  (W:Nat->Nat->List V->Hp->Prop)
  (turn:∀ i m ys H,W i m ys H->(J.stop i H∧Q (.ref D) H)∨(J.go i H∧∃ N:List V->Hp->Prop,(∀ ys' H',N ys' H'->∃ m',m' < m∧W (i+1) m' ys' H') ∧
   ∀ x H',J.yld i H x H'->g x (List.replicate k none++σ) H' fun σ2 H2=>(∃ vs:St,vs.length=k∧σ2=vs++σ)∧tt σ2 H2 fun b H3=>if b=true then te σ2 H3 fun y H4=>H4 D=some (.lst ys)∧ys.length < sizeLine∧N (ys++[y]) (upd H4 D (.lst (ys++[y]))) else N ys H3))
  (n:Nat) (s:Shared) (h:∃ i ys H,Inv Y [] (List.replicate k none++σ) H s∧tn i s.heap∧(∀ b∈fp,H b=none)∧W i n ys H) :
  codeAny (model Y.prog Y.w) Y.A (.compLoop (.ListComp elt [⟨tg,iter,ifs,0⟩] scope pos) 0 (.ref it) (.ref D) Y.env) (fun r s'=>r=.ok .next∧∃ H',Inv Y [] (List.replicate k none++σ) H' s'∧Q (.ref D) H') s:=by
 refine codeAny_loop rfl (fun n s=>∃ i ys H,Inv Y [] (List.replicate k none++σ) H s∧tn i s.heap∧(∀ b∈fp,H b=none)∧W i n ys H) ?_ n h
 rintro n s3 ⟨i,ys,H3,I3,st3,fr3,w3⟩
 show wpAny _ Y.A ((compTurn (.ListComp elt [⟨tg,iter,ifs,0⟩] scope pos) 0 (.ref it) (.ref D) Y.env).onRaise (fun x=>do noteFrame x Y.env;theTreesLotGoes x)) _ _ s3
 refine PySem.wpAny_noted ?_
 rw [PySem.compTurn_list]
 have no:∀ {α:Type} {m:Sem α} {P:α->Shared->Prop} {E:Value->Shared->Prop} {s:Shared},wpAny (model Y.prog Y.w) Y.A m P Y.xe s->wpAny (model Y.prog Y.w) Y.A m P E s:=fun {α m P E s} h=>
  wpAny_mono h (fun _ _ q=>q) fun _ _ q=>by rw [hx] at q;exact q.elim
 refine wpAny_bind (wpAny_standAt (wpAny_bind ?_))
 rcases turn i n ys H3 w3 with ⟨stop,qn⟩|⟨go,N,hN,step⟩
 ·refine thn (T.done Y rfl rfl rfl hc i [] s3 (List.replicate k none++σ) H3 _ I3 (hf H3 fr3) st3 stop) fun r s4 ⟨hr,I4⟩=>?_
  subst hr
  exact wpAny_pure ⟨rfl,H3,I4,qn⟩
 ·refine thn (T.item Y rfl rfl rfl hc i [] s3 (List.replicate k none++σ) H3 _ I3 (hf H3 fr3) st3 go) fun r s4 ⟨u,hr,h4⟩=>?_
  subst hr
  refine wpAny_bind (thn h4 fun _ s5 ⟨x,H5,I5,r5,y5,st5,fr5⟩=>?_)
  have I5':=I5.pinned (hf H5 fr5) (T.obj _ _ st5)
  refine wpAny_bind (no (thn (hg _ s5 (List.replicate k none++σ) H5 x u _ I5' r5 (step x H5 y5)) fun _ s6 ⟨σ6,H6,I6,⟨vs,hvs,e6⟩,q6⟩=>?_))
  subst e6
  have forget:∀ {pins:List (Addr × Obj)} {H:Hp} {s:Shared},Inv Y pins (vs++σ) H s->Inv Y pins (List.replicate k none++σ) H s:=fun {pins H s} I=>I.weak (by simp [hvs]) fun i v e=>by
   by_cases hi:i < k
   ·rw [List.getElem?_append_left (by simpa using hi)] at e
    simp [List.getElem?_replicate,hi] at e
   ·rw [List.getElem?_append_right (by simpa using Nat.le_of_not_lt hi)] at e
    rw [List.getElem?_append_right (by omega)]
    simpa [hvs] using e
  refine wpAny_bind (no (thn (ht _ s6 (vs++σ) H6 _ I6 q6) fun b s7 ⟨H7,I7,q7⟩=>?_))
  have again:∀ {H8:Hp} {s8:Shared} {ys':List V},Inv Y ([]++pinsAt fp s5.heap) (vs++σ) H8 s8->N ys' H8->∃ m,m < n∧∃ i ys H,Inv Y [] (List.replicate k none++σ) H s8∧tn i s8.heap∧(∀ b∈fp,H b=none)∧W i m ys H:=fun {H8 s8 ys'} I8 n8=>by
   obtain ⟨m',hm,w8⟩:=hN ys' H8 n8
   refine ⟨m',hm,i+1,ys',H8,forget I8.unpinned,T.keep _ _ _ st5 fun b hb o e=>(I8.pin (b,o) (List.mem_append_right _ (List.mem_append_right _ (mem_pinsAt hb e)))).1,fun b hb=>?_,w8⟩
   obtain ⟨o,e,d⟩:=T.obj _ _ st5 b hb
   exact (I8.pin (b,o) (List.mem_append_right _ (List.mem_append_right _ (mem_pinsAt hb e)))).2.1
  cases b with
  | false=>
   rw [if_neg Bool.false_ne_true] at q7
   exact wpAny_pure ⟨rfl,again I7 q7⟩
  | true=>
   rw [if_pos rfl] at q7
   refine wpAny_bind (wpAny_bind (no (thn (he _ s7 (vs++σ) H7 _ I7 q7) fun y s8 ⟨y',H8,I8,ry,q8,l8,n8⟩=>?_)))
   exact wpAny_bind (no (thn (mt_append _ s8 (vs++σ) H8 (.ref D) [y'] (.ref D) [y] (fun _ H'=>N (ys++[y']) H') I8 rfl (.cons ry .nil) ⟨D,ys,y',rfl,rfl,q8,l8,n8⟩) fun _ s9 ⟨_,H9,I9,_,q9⟩=>wpAny_pure (wpAny_pure ⟨rfl,again I9 q9⟩)))
structure CompOk (X:Cx) (scope:Scope) (N':List Str) (k:Nat):Prop where
 cell:∀ y∈scope.names,y.2 ≠ .cell
 kind:scope.kind=.function
 names:∀ y∈scope.names,y.2=.local->scope.names.lookup y.1=some .local
 free:∀ y∈scope.names,y.2=.free->X.env.scope.names.lookup y.1=some .cell
 len:N'.length=k+X.N.length
 sub:∀ i x,N'[k+i]? = some x->scope.names.lookup x=some .free->X.N[i]? = some x
 loc:∀ i x,N'[k+i]? = some x->scope.names.lookup x ≠ some .local
theorem CompOk.cells {scope:Scope}{N':List Str}{k:Nat}{pins:List (Addr × Obj)}{σ:St}{H:Hp}{s:Shared}(c:CompOk X scope N' k) (I:Inv X pins σ H s):∀ y∈scope.names,y.2=.free->∃ a,X.env.cells.lookup y.1=some a:=fun y hy e=>
 I.ok.has y.1 (.inl (c.free y hy e))
theorem inv_comp {scope:Scope}{N':List Str}{k:Nat}{pins:List (Addr × Obj)}{σ:St}{H:Hp}{s s₄:Shared}{fp:List Addr}{m:Str->Option Value}(c:CompOk X scope N' k) (hc:X.calm=true) (I:Inv X pins σ H s)
  (hf:∀ b∈fp,FpOk X pins H b) (hfl:∀ b∈fp,b < s.heap.objs.size) (hb:∀ b∈fp,X.base.get? b=none) (hns:s₄.heap.Ns s.heap.objs.size m) (hk:∀ b o,s.heap.get? b=some o->s₄.heap.get? b=some o) (ho:s₄.os=s.os) (hg:s₄.gens=s.gens) :
  Inv (cCx X scope N' s.heap.objs.size s H fp (X.pn++pins)) [] (List.replicate k none++σ) H s₄:=by
 have hcl:=c.cells I
 have sub:∀ x a,(clOf X.env.cells scope.names []).lookup x=some a->X.env.cells.lookup x=some a:=fun x a e=>by
  rcases clOf_sub hcl e with q|q
  ·simp at q
  ·exact q
 have kinds:∀ x,(compEnvC scope (clOf X.env.cells scope.names []) s.heap.objs.size X.env).kindOf x=some .cell∨(compEnvC scope (clOf X.env.cells scope.names []) s.heap.objs.size X.env).kindOf x=some .free->scope.names.lookup x=some .free:=fun x hx=>by
  have e:(compEnvC scope (clOf X.env.cells scope.names []) s.heap.objs.size X.env).kindOf x=(scope.names.lookup x).map fun k=>if (k == NameKind.free && X.env.scope.kind == .function && X.env.kindOf x == some .cell) then NameKind.cell else k:=lookup_relabel
  rw [e] at hx
  cases q:scope.names.lookup x with
  | none=>rw [q] at hx;simp at hx
  | some j=>
   rw [q] at hx
   have hj:j ≠ .cell:=c.cell (x,j) (lookup_mem q)
   cases j<;>simp_all
 have fresh:∀ b,s.heap.objs.size≤b->s.heap.get? b=none:=fun b hb=>Heap.get?_none_of_le hb
 have ne:∀ b o,s.heap.get? b=some o->b ≠ s.heap.objs.size:=fun b o e=>Nat.ne_of_lt (Heap.lt_size e)
 have cl_lt:∀ x a,X.env.cells.lookup x=some a->a < s.heap.objs.size:=fun x a e=>by
  obtain ⟨v,o,h1,_⟩:=I.cell x a e
  exact Heap.lt_size h1
 refine ⟨⟨I.ok.mod,c.kind,I.ok.glob,I.ok.blt,Nat.le_refl _,fun x y a e1 e2=>I.ok.inj x y a (sub x a e1) (sub y a e2),fun x hx=>clOf_has hcl (kinds x hx),(fun _ _ z=>nomatch z),I.ok.hd,I.ok.frames,.inl rfl,fun b hb'=>⟨Nat.ne_of_lt (hfl b hb'),fun x a e=>(hf b hb').2.2.2.2.1 x a (sub x a e)⟩,
   I.bs,Nat.le_trans I.ok.bsz I.sz,(fun b o e hb'=>by rw [hb b hb'] at e;cases e),fun b hb' hz=>?_,I.stack,I.stkFree⟩,ho,by rw [hg];exact I.bare,Un.kept hk,⟨m,hns,fun i x v e1 e2 e3=>?_⟩,fun x a e=>?_,I.hok.fresh (Nat.le_refl _),fun x a e=>I.freeC x a (sub x a e),fun p hp=>?_,I.hok.kept hk,?_⟩
 ·rcases List.mem_cons.mp (I.stkSub b hz) with z|z
  ·exact (hf b hb').2.1 z
  ·exact (hf b hb').2.2.1 z
 ·have hi:k≤i:=by
   refine Nat.le_of_not_lt fun hi=>?_
   rw [List.getElem?_append_left (by simpa using hi)] at e2
   simp [List.getElem?_replicate,hi] at e2
  obtain ⟨j,rfl⟩:∃ j,i=k+j:=⟨i - k,by omega⟩
  rw [List.getElem?_append_right (by simp)] at e2
  have e2':σ[j]? = some (some v):=by simpa using e2
  have e:(relabel scope X.env).names.lookup x=(scope.names.lookup x).map fun k=>if (k == NameKind.free && X.env.scope.kind == .function && X.env.kindOf x == some .cell) then NameKind.cell else k:=lookup_relabel
  have hfree:scope.names.lookup x=some .free:=by
   cases q:scope.names.lookup x with
   | none=>
    rcases e3 with z|z|z
    all_goals (have z':(relabel scope X.env).names.lookup x=some _:=z;rw [e,q] at z';simp at z')
   | some j'=>
    have h1:j' ≠ .cell:=c.cell (x,j') (lookup_mem q)
    have h2:j' ≠ .local:=fun z=>c.loc j x e1 (by rw [q,z])
    rcases e3 with z|z|z
    all_goals (have z':(relabel scope X.env).names.lookup x=some _:=z;rw [e,q] at z';cases j'<;>simp_all)
  have hX:=c.sub j x e1 hfree
  have hcellX:=c.free (x,.free) (lookup_mem hfree) rfl
  obtain ⟨m0,hn0,hl0⟩:=I.loc
  obtain ⟨u,r,l⟩:=hl0 j x v hX e2' (.inr (.inl hcellX))
  refine ⟨u,r,?_⟩
  rcases l with ⟨z,_⟩|⟨_,a,ea,hz⟩
  ·have z':X.env.scope.names.lookup x=some .local:=z
   rw [hcellX] at z';cases z'
  ·obtain ⟨a',ea'⟩:=clOf_has (acc:=[]) hcl hfree
   have e4:=sub x a' ea'
   rw [ea] at e4
   cases e4
   refine .inr ⟨.inl ?_,a,ea',?_⟩
   ·show (relabel scope X.env).names.lookup x=some .cell
    rw [e,hfree]
    have k1:(X.env.scope.kind == .function)=true:=by rw [I.ok.kind];rfl
    have k2:(X.env.kindOf x == some .cell)=true:=by
     have:X.env.kindOf x=some .cell:=hcellX
     rw [this];rfl
    simp [k1,k2]
   ·obtain ⟨o,h1,h2⟩:=hz
    exact ⟨o,hk _ _ h1,h2⟩
 ·obtain ⟨v,o,h1,h2⟩:=I.cell x a (sub x a e)
  exact ⟨v,o,hk _ _ h1,h2⟩
 ·have hp':p∈X.pn++pins:=by simpa using hp
  obtain ⟨e,n,nl,nf,d⟩:=I.pin p hp'
  refine ⟨hk _ _ e,n,ne _ _ e,fun z=>?_,d⟩
  rcases List.mem_cons.mp (I.stkSub _ z) with z|z
  ·exact nl z
  ·exact nf z
 ·show (List.replicate k none++σ).length=N'.length
  rw [c.len,List.length_append,List.length_replicate,I.len]
theorem comp_block {elt iter tg:Expr}{ifs:List Expr}{scope:Scope}{pos:Pos}{g:TG}{tt:TT}{te:TE}{N':List Str}{k:Nat}{it:Addr}{J:It}{fp:List Addr}{tn:Nat->Heap->Prop}{pins:List (Addr × Obj)}{σ:St}{H:Hp}{s:Shared}{Q:VK}{RR:Value->Addr->Result->Shared->Prop}{E:Value->Shared->Prop}
  (c:CompOk X scope N' k) (hc:X.calm=true) (I:Inv X pins σ H s) (T:Turn X.prog X.w X.K tg J fp it tn) (st:tn 0 s.heap) (hf:∀ b∈fp,FpOk X pins H b)
  (hg:∀ C s₀ H₀ ex pn,PG (cCx X scope N' C s₀ H₀ ex pn) tg g) (ht:∀ C s₀ H₀ ex pn,PTs (cCx X scope N' C s₀ H₀ ex pn) ifs tt) (he:∀ C s₀ H₀ ex pn,PE (cCx X scope N' C s₀ H₀ ex pn) elt te)
  (h:∀ D,H D=none->∃ W:Nat->Nat->List V->Hp->Prop,(∃ m,W 0 m [] (upd H D (.lst [])))∧∀ i m ys H,W i m ys H →
   (J.stop i H∧Q (.ref D) H)∨(J.go i H∧∃ N:List V->Hp->Prop,(∀ ys' H',N ys' H'->∃ m',m' < m∧W (i+1) m' ys' H') ∧
    ∀ x H',J.yld i H x H'->g x (List.replicate k none++σ) H' fun σ2 H2=>(∃ vs:St,vs.length=k∧σ2=vs++σ)∧tt σ2 H2 fun b H3=>if b=true then te σ2 H3 fun y H4=>H4 D=some (.lst ys)∧ys.length < sizeLine∧N (ys++[y]) (upd H4 D (.lst (ys++[y]))) else N ys H3))
  (fin:∀ D C s' H' m,s'.heap.Ns C m->C ≠ X.env.locals->(∀ x a,X.env.cells.lookup x=some a->a ≠ C)->(H' C=none∧X.s₀.heap.objs.size≤C∧∀ p∈X.pn++pins,p.1 ≠ C)->(∀ h',Heap.SameBut C s'.heap h'->Inv X pins σ H' { s' with heap:=h' })->Q (.ref D) H'->RR (.ref D) C (.ok .next) s') :
  wpAny (model X.prog X.w) X.A (newList []) (fun acc s₃=>wpAny (model X.prog X.w) X.A (newFunctionEnv scope X.env.globals (clOf X.env.cells scope.names []) [] X.env.qual none .none (some X.env)) (fun cenv s₄=>
   codeAny (model X.prog X.w) X.A (.compStart (.ListComp elt [⟨tg,iter,ifs,0⟩] scope pos) 0 (.ref it) acc { cenv with scope:=relabel scope X.env }) (RR acc cenv.locals) s₄) E s₃) E s:=by
 refine wpAny_newObj_type (wpAny_newFunctionEnv c.cell (by intro y hy;simp at hy) (fun h₁ hns₁ hsb₁=>?_) c.kind)
 dsimp only at hns₁ hsb₁ ⊢
 have I3:Inv X pins σ (upd H s.heap.objs.size (.lst [])) { s with heap:=s.heap.push { cls:=.type "list",data:=.seq ([]:List Value).toArray },toks:=s.toks }:=I.lnew (ys:=[]) (its:=[]) .nil (Nat.zero_le _)
 generalize hH2:s.heap.push { cls:=.type "list",dict:=none,data:=.seq ([]:List Value).toArray }=hp at hns₁ hsb₁ I3 ⊢
 have hlt:∀ b o,s.heap.get? b=some o->hp.get? b=some o:=fun b o e=>by rw [←hH2];exact Heap.get?_push_of_some _ e
 have hnD:H s.heap.objs.size=none:=I.hok.fresh (Nat.le_refl _)
 have kp:∀ b o,hp.get? b=some o->h₁.get? b=some o:=fun b o e=>hsb₁.extBut b o (Nat.ne_of_lt (Heap.lt_size e)) (Heap.get?_push_of_some _ e)
 have stk:∀ b∈fp,s.heap.get? b ≠ none:=fun b hb z=>by
  obtain ⟨o,e,_⟩:=T.obj _ _ st b hb
  rw [z] at e;cases e
 have flt:∀ b∈fp,b < s.heap.objs.size:=fun b hb=>by
  obtain ⟨o,e,_⟩:=T.obj _ _ st b hb
  exact Heap.lt_size e
 have fpD:∀ b∈fp,b ≠ s.heap.objs.size:=fun b hb=>Nat.ne_of_lt (flt b hb)
 have hf3:∀ b∈fp,FpOk X pins (upd H s.heap.objs.size (.lst [])) b:=fun b hb=>by
  obtain ⟨a1,a2⟩:=hf b hb
  exact ⟨by rw [upd_ne (fpD b hb)];exact a1,a2⟩
 have hnb:∀ b∈fp,X.base.get? b=none:=fun b hb=>by
  cases e:X.base.get? b with
  | none=>rfl
  | some o=>
   rcases (hf b hb).2.2.2.1 with z|z
   ·exact absurd z (I.ok.noex b o e)
   ·have:=Heap.lt_size (I.ok.bs b o e).1
    exact absurd (Nat.lt_of_lt_of_le this z) (Nat.lt_irrefl _)
 have hsz:s.heap.objs.size < hp.objs.size:=by rw [←hH2,Heap.size_push];exact Nat.lt_succ_self _
 have IY:=inv_comp (s₄:={ s with heap:=h₁,toks:=s.toks+([]:List (Str × Value)).length }) (fp:=fp) c hc I3 hf3 (fun b hb=>Nat.lt_trans (flt b hb) hsz) hnb hns₁ kp rfl rfl
 obtain ⟨W,⟨m0,w0⟩,turn⟩:=h s.heap.objs.size hnD
 have run:=comp_loop (Y:=cCx X scope N' hp.objs.size { s with heap:=hp,toks:=s.toks } (upd H s.heap.objs.size (.lst [])) fp (X.pn++pins)) (tg:=tg) (elt:=elt) (iter:=iter) (ifs:=ifs) (scope:=scope) (pos:=pos) (it:=it) (D:=s.heap.objs.size) (k:=k) (σ:=σ) (Q:=Q)
  hc rfl (hg _ _ _ _ _) (ht _ _ _ _ _) (he _ _ _ _ _) T (fun H' hn b hb=>⟨hn b hb,Nat.ne_of_lt (Nat.lt_trans (flt b hb) hsz),fun z=>(IY.ok.exfs b hb) z,.inl hb,fun x a e=>(IY.ok.exf b hb).2 x a e,fun p hp=>by
   have hp':p∈X.pn++pins:=by simpa using hp
   exact (hf b hb).2.2.2.2.2 p hp'⟩) W turn m0
 have st₁:tn 0 h₁:=T.keep _ _ _ st fun b hb o e=>kp b o (hlt b o e)
 have go:=run { s with heap:=h₁,toks:=s.toks+([]:List (Str × Value)).length } ⟨0,[],_,IY,st₁,fun b hb=>(hf3 b hb).1,w0⟩
 have out:∀ r s',(r=Except.ok Flow.next∧∃ H',Inv (cCx X scope N' hp.objs.size { s with heap:=hp,toks:=s.toks } (upd H s.heap.objs.size (.lst [])) fp (X.pn++pins)) [] (List.replicate k none++σ) H' s'∧Q (.ref s.heap.objs.size) H')->RR (.ref s.heap.objs.size) hp.objs.size r s':=by
  rintro r s' ⟨rfl,H',J',q⟩
  obtain ⟨m,hn,_⟩:=J'.loc
  have hC:hp.objs.size ≠ X.env.locals:=Nat.ne_of_gt (Nat.lt_of_lt_of_le I.lt (Nat.le_of_lt hsz))
  refine fin _ _ s' H' m hn hC (fun x a e=>?_) ⟨J'.free,Nat.le_trans I.sz (Nat.le_of_lt hsz),fun p hp'=>Nat.ne_of_lt (Nat.lt_trans (Heap.lt_size (I.pin p hp').1) hsz)⟩ (fun h' hs'=>?_) q
  ·obtain ⟨v,o,h1,_⟩:=I.cell x a e
   exact Nat.ne_of_lt (Nat.lt_trans (Heap.lt_size h1) hsz)
  ·refine I.call' (ch:=fp) ?_ ?_ ?_ J'.bare fun b hb=>⟨(hf b hb).2.2.2.1,(hf b hb).2.1,(hf b hb).2.2.2.2.1,(hf b hb).2.2.2.2.2⟩
   ·exact J'.os
   ·have u1:Un (frs X.stack) fp H (upd H s.heap.objs.size (.lst [])) s.heap hp:=Un.laid hlt (Nat.le_refl _) hnD
    exact (u1.trans J'.base).but hs' fun b o e=>Nat.ne_of_lt (Nat.lt_trans (Heap.lt_size e) hsz)
   ·exact J'.hok.but J'.free hs'
 exact codeAny_compStart_list (codeAny_mono go out) (T.self _ 0 _ _ _ st₁ (codeAny_mono go out))
theorem pe_comp {elt iter tg:Expr}{ifs:List Expr}{scope:Scope}{pos:Pos}{wi:TI}{g:TG}{tt:TT}{te:TE}{N':List Str}{k:Nat}
  (c:CompOk X scope N' k) (hc:X.calm=true) (hi:PI X tg iter wi)
  (hg:∀ C s₀ H₀ ex pn,PG (cCx X scope N' C s₀ H₀ ex pn) tg g) (ht:∀ C s₀ H₀ ex pn,PTs (cCx X scope N' C s₀ H₀ ex pn) ifs tt) (he:∀ C s₀ H₀ ex pn,PE (cCx X scope N' C s₀ H₀ ex pn) elt te)
  (hs:∀ x,foldedSetIterable iter X.env x=pure x:=by intro _;rfl):PE X (.ListComp elt [⟨tg,iter,ifs,0⟩] scope pos) (tComp k wi g tt te):=by
 intro pins s σ H Q I h
 rw [PySem.eval_ListComp]
 refine PySem.wpAny_comprehension_free (use:=none) rfl hs (closureFor_eq (c.cells I)) c.kind c.names (thn (hi pins s σ H _ I h) fun v s1 h1=>thn h1 fun itv s2 h2=>?_)
 obtain ⟨it,fp,tn,J,H2,rfl,I2,T,st2,f2,hW⟩:=h2
 refine comp_block (RR:=fun acc C=>PySem.compPost (model X.prog X.w) X.A X.xe none (EP X pins σ Q) acc C) c hc I2 T st2 f2 hg ht he hW ?_
 intro D C s' H' m hn _ _ _ hI q
 exact ⟨m,hn,fun h' hs'=>⟨.ref D,H',hI h' hs',rfl,q⟩⟩
def tSetC (i:Nat) (te:TE):TS:=fun D σ H=>te σ H fun x H1=>D.nx (σ.set i (some x)) H1
theorem ps_setC {elt iter tg:Expr}{ifs:List Expr}{scope:Scope}{pos spos py:Pos}{wi:TI}{g:TG}{tt:TT}{te:TE}{N':List Str}{k i:Nat}{y:Str}
  (hN:X.N.Nodup) (hi':X.N[i]? = some y) (hy:Loc X.env.scope y)
  (c:CompOk X scope N' k) (hc:X.calm=true) (hi:PI X tg iter wi)
  (hg:∀ C s₀ H₀ ex pn,PG (cCx X scope N' C s₀ H₀ ex pn) tg g) (ht:∀ C s₀ H₀ ex pn,PTs (cCx X scope N' C s₀ H₀ ex pn) ifs tt) (he:∀ C s₀ H₀ ex pn,PE (cCx X scope N' C s₀ H₀ ex pn) elt te)
  (hsw:swapsWith (.ListComp elt [⟨tg,iter,ifs,0⟩] scope pos) (some (.Name y py)) spos.line X.env=pure true:=by rfl)
  (hs:∀ x,foldedSetIterable iter X.env x=pure x:=by intro _;rfl) (hf:X.fn y=true∨X.env.scope.names.lookup y=some .local:=by first|exact .inl rfl|exact .inr rfl|assumption) :
  PS X (.Assign [.Name y py] (.ListComp elt [⟨tg,iter,ifs,0⟩] scope pos) spos) (tSetC i (tComp k wi g tt te)):=by
 intro pins s σ H D I h
 rw [PySem.exec_Assign_Name_used _ _ _ _ hsw]
 refine wpAny_bind (wpAny_standAt (wpAny_bind ?_))
 show wpAny _ X.A (do let _ ←comprehension (.ListComp elt [⟨tg,iter,ifs,0⟩] scope pos) scope X.env _ (newList []) false (eval iter X.env) (some (assign (.Name y py) X.env))) _ _ s
 refine wpAny_bind (thn (PySem.wpAny_comprehension_free (use:=some (assign (.Name y py) X.env)) (Q:=fun _ s'=>SP X pins D .next s') rfl hs (closureFor_eq (c.cells I)) c.kind c.names (thn (hi pins s σ H _ I h) fun v s1 h1=>thn h1 fun itv s2 h2=>?_)) fun _ s' hq=>wpAny_pure (wpAny_pure hq))
 obtain ⟨it,fp,tn,J,H2,rfl,I2,T,st2,f2,hW⟩:=h2
 refine comp_block (Q:=fun x H1=>D.nx (σ.set i (some x)) H1) (RR:=fun acc C=>PySem.compPost (model X.prog X.w) X.A X.xe (some (assign (.Name y py) X.env)) (fun _ s'=>SP X pins D .next s') acc C) c hc I2 T st2 f2 hg ht he hW ?_
 intro D' C s' H' m hn hCl hCc hCo hI q
 show wpAny _ X.A (assign (.Name y py) X.env (.ref D')) _ _ s'
 have I':Inv X pins σ H' s':=hI s'.heap (Heap.SameBut.refl _ _)
 refine wpAny_assign_Name (store_ok2 I' hN hi' hy (show RelV (.ref D') (.ref D') from rfl) (fun s'' I'' ⟨a,sb,ha⟩=>?_) hf)
 have hCa:C ≠ a:=by
  rcases ha with rfl|ha
  ·exact hCl
  ·exact fun z=>hCc _ _ ha z.symm
 refine ⟨m,hn.sameBut sb hCa,fun h' hs'=>⟨_,H',?_,q⟩⟩
 exact I''.turned (t':=s''.toks) (fun b o hb e=>(hs'.2 b hb).trans e) hCo.1 hCl (.inr hCo.2.1) hCc hCo.2.2
end
end L2
set_option Elab.async false
set_option linter.all false
set_option maxRecDepth 100000
set_option maxHeartbeats 4000000
namespace L2
open PySem PySem.Spec PyProof.Rows
section
variable {M:Model}{A:Around}{E:Value->Shared->Prop}{s:Shared}
end
section
variable {X:Cx}
set_option genInjectivity false in
end
end L2
set_option Elab.async false
set_option linter.all false
set_option maxRecDepth 100000
set_option maxHeartbeats 4000000
namespace L2
open PySem PySem.Spec PyProof.Rows
structure FunX (K:PySem.W.Frag) (x qual:Str) (st:Stmt) (f:Addr) (fd:FuncData):Prop where
 ex:∃ (oc:Value) (od:Option Addr) (dV kV doc pm:Value) (an:Option Addr) (cdv ct:Value) (osl:Array (Option Value)),
  fd=PySem.W.fnOf x qual (defArgs st) (defBody st) (defScope st) dV kV doc pm an cdv ct∧K.lookup f=some ⟨oc,od,.func fd,osl⟩∧PySem.W.codeIn K cdv qual=true
 kp:PySem.W.keepIn K (.ref f)=true
section
variable {P:Program}{w:World}{K:PySem.W.Frag}{mg:Str->Option Value}{base:Heap}
theorem FunX.ok {CX:CXT}{x qual:Str}{st:Stmt}{f:Addr}{fd:FuncData}{N ps:List Str}{k:Nat}{sp:Sp}(F:FunX K x qual st f fd) (S:FnScope N ps (defScope st)) (len:∀ vs H Q E,sp vs H Q E->vs.length=ps.length)
  (hbody:∀ (cdv:Value) (A:Around) (outer:List Env) (s:Shared) (H:Hp) (vs:List V) (Q:VK) (E:XK),Room k (A.deeper (envOfC qual (defScope st) s.heap.objs.size f cdv))->sp vs H Q E →
   ∃ t,PSs (cxOf CX P w K mg base N qual (defScope st) f cdv A outer s H E) (defBody st) t∧t { nx:=fun _ H'=>Q .non H',rt:=Q } (start N vs) H):FnOk P w K mg base CX (k+1) f fd ps sp:=by
 obtain ⟨oc,od,dV,kV,doc,pm,an,cdv,ct,osl,rfl,lk,hcd⟩:=F.ex
 exact fn_of lk hcd S len fun A outer s H vs Q E hr hsp=>hbody cdv A outer s H vs Q E hr hsp
theorem funX_mk {x qual:Str}{st:Stmt}{f:Addr}{oc:Value}{od an:Option Addr}{osl:Array (Option Value)}{dV kV doc pm cdv ct:Value}(l:K.lookup f=some ⟨oc,od,.func (PySem.W.fnOf x qual (defArgs st) (defBody st) (defScope st) dV kV doc pm an cdv ct),osl⟩)
  (c:PySem.W.codeIn K cdv qual=true) (k:PySem.W.keepIn K (.ref f)=true):FunX K x qual st f (PySem.W.fnOf x qual (defArgs st) (defBody st) (defScope st) dV kV doc pm an cdv ct):=⟨⟨oc,od,dV,kV,doc,pm,an,cdv,ct,osl,rfl,l,c⟩,k⟩
end
end L2
set_option Elab.async false
set_option linter.all false
set_option maxRecDepth 100000
set_option maxHeartbeats 4000000
namespace L2
open PySem PySem.Spec PyProof.Rows PySem.W
section
variable {prog:Program}{w:World}{A:Around}{E:Value->Shared->Prop}{s:Shared}{K:PySem.W.Frag}{x C:Addr}{ox:Obj}{od:Option Obj}{name:Str}
end
end L2
set_option Elab.async false
set_option linter.all false
set_option maxRecDepth 100000
set_option maxHeartbeats 4000000
namespace L2
open PySem PySem.Spec PyProof.Rows
section
variable {X:Cx}
end
end L2
set_option Elab.async false
set_option linter.all false
set_option maxRecDepth 100000
set_option maxHeartbeats 4000000
namespace L2
open PySem PySem.Spec PyProof.Rows PySem.W
section
variable {prog:Program}{w:World}{A:Around}{R:Result->Shared->Prop}{h:Heap}{g:Array GenState}{d:Drawn}{t:Nat}{os:OsState}{K:Frag}
variable {nm q:Str}{C N fI:Addr}{bs bm bmB:List Value}{hdct:Bool}{sn:List Str}{sub:List Value}{ab:Bool}{col:Option Bool}{dd:Option Addr}{k0 k1 k2 k3 k5:Option Value}{B Bn newId nid initId inN:String}{bmN:List Value}
end
section
variable {prog:Program}{w:World}{A:Around}{E:Value->Shared->Prop}{K:Frag}{x C:Addr}{s:Shared}{name:Str}{v:Value}
end
end L2
set_option Elab.async false
set_option linter.all false
set_option maxRecDepth 100000
set_option maxHeartbeats 4000000
namespace L2
open PySem PySem.Spec PyProof.Rows PySem.W
section
variable {prog:Program}{w:World}{A:Around}{E:Value->Shared->Prop}{s:Shared}{K:PySem.W.Frag}{x C dx:Addr}{ox:Obj}{od:Option Obj}{name:Str}{mA:Str->Option Value}{u:Value}
end
section
variable {prog:Program}{w:World}{A:Around}{E:Value->Shared->Prop}{h:Heap}{g:Array GenState}{d:Drawn}{t:Nat}{os:OsState}{e a0:Addr}{dct:Option Addr}
variable {nm q:Str}{C N:Addr}{bs bm bmB:List Value}{hdct:Bool}{sn:List Str}{sub:List Value}{ab:Bool}{col:Option Bool}{dd:Option Addr}{k0 k1 k2 k3 k5:Option Value}{B newId nid initId:String}
end
section
variable {X:Cx}{pins:List (Addr × Obj)}{σ:St}{H:Hp}{s:Shared}
end
end L2
set_option Elab.async false
set_option linter.all false
set_option maxRecDepth 100000
set_option maxHeartbeats 4000000
namespace L2
open PySem PySem.Spec PyProof.Rows PySem.W
section
variable {X:Cx}{e o value:Expr}{ta tv:TE}{f:Str}{pos pos':Pos}
end
def del (H:Hp) (e:Addr):Hp:=fun b=>if b=e then none else H b
section
variable {X:Cx}
end
end L2
set_option Elab.async false
set_option linter.all false
set_option maxRecDepth 100000
set_option maxHeartbeats 4000000
namespace L2
open PySem
open PySem.Spec PyProof.Rows
theorem gName_0 {a:Option V}{v:V}{σ:St}{H:Hp}{Q:St->Hp->Prop}:gName 0 v (a::σ) H Q=Q (some v::σ) H:=rfl
theorem gName_1 {a0:Option V}{a:Option V}{v:V}{σ:St}{H:Hp}{Q:St->Hp->Prop}:gName 1 v (a0::a::σ) H Q=Q (a0::some v::σ) H:=rfl
theorem gName_2 {a0 a1:Option V}{a:Option V}{v:V}{σ:St}{H:Hp}{Q:St->Hp->Prop}:gName 2 v (a0::a1::a::σ) H Q=Q (a0::a1::some v::σ) H:=rfl
theorem gName_3 {a0 a1 a2:Option V}{a:Option V}{v:V}{σ:St}{H:Hp}{Q:St->Hp->Prop}:gName 3 v (a0::a1::a2::a::σ) H Q=Q (a0::a1::a2::some v::σ) H:=rfl
theorem gName_4 {a0 a1 a2 a3:Option V}{a:Option V}{v:V}{σ:St}{H:Hp}{Q:St->Hp->Prop}:gName 4 v (a0::a1::a2::a3::a::σ) H Q=Q (a0::a1::a2::a3::some v::σ) H:=rfl
theorem gName_5 {a0 a1 a2 a3 a4:Option V}{a:Option V}{v:V}{σ:St}{H:Hp}{Q:St->Hp->Prop}:gName 5 v (a0::a1::a2::a3::a4::a::σ) H Q=Q (a0::a1::a2::a3::a4::some v::σ) H:=rfl
theorem gName_6 {a0 a1 a2 a3 a4 a5:Option V}{a:Option V}{v:V}{σ:St}{H:Hp}{Q:St->Hp->Prop}:gName 6 v (a0::a1::a2::a3::a4::a5::a::σ) H Q=Q (a0::a1::a2::a3::a4::a5::some v::σ) H:=rfl
theorem gName_7 {a0 a1 a2 a3 a4 a5 a6:Option V}{a:Option V}{v:V}{σ:St}{H:Hp}{Q:St->Hp->Prop}:gName 7 v (a0::a1::a2::a3::a4::a5::a6::a::σ) H Q=Q (a0::a1::a2::a3::a4::a5::a6::some v::σ) H:=rfl
theorem gName_8 {a0 a1 a2 a3 a4 a5 a6 a7:Option V}{a:Option V}{v:V}{σ:St}{H:Hp}{Q:St->Hp->Prop}:gName 8 v (a0::a1::a2::a3::a4::a5::a6::a7::a::σ) H Q=Q (a0::a1::a2::a3::a4::a5::a6::a7::some v::σ) H:=rfl
theorem gName_9 {a0 a1 a2 a3 a4 a5 a6 a7 a8:Option V}{a:Option V}{v:V}{σ:St}{H:Hp}{Q:St->Hp->Prop}:gName 9 v (a0::a1::a2::a3::a4::a5::a6::a7::a8::a::σ) H Q=Q (a0::a1::a2::a3::a4::a5::a6::a7::a8::some v::σ) H:=rfl
theorem gName_10 {a0 a1 a2 a3 a4 a5 a6 a7 a8 a9:Option V}{a:Option V}{v:V}{σ:St}{H:Hp}{Q:St->Hp->Prop}:gName 10 v (a0::a1::a2::a3::a4::a5::a6::a7::a8::a9::a::σ) H Q=Q (a0::a1::a2::a3::a4::a5::a6::a7::a8::a9::some v::σ) H:=rfl
theorem gName_11 {a0 a1 a2 a3 a4 a5 a6 a7 a8 a9 a10:Option V}{a:Option V}{v:V}{σ:St}{H:Hp}{Q:St->Hp->Prop}:gName 11 v (a0::a1::a2::a3::a4::a5::a6::a7::a8::a9::a10::a::σ) H Q=Q (a0::a1::a2::a3::a4::a5::a6::a7::a8::a9::a10::some v::σ) H:=rfl
def optK {α:Type}:Option α->(α->Prop)->Prop
 | some x,k=>k x
 | none,_=>False
theorem optK_some {α:Type}(x:α) (k:α->Prop):optK (some x) k=k x:=rfl
theorem optK_ex {α:Type}{o:Option α}{k:α->Prop}(h:optK o k):∃ x,o=some x∧k x:=by
 cases o with
 | none=>exact h.elim
 | some x=>exact ⟨x,rfl,h⟩
def seqO:HO->Option (List V)
 | .lst xs=>some xs
 | .tup xs=>some xs
 | .frz _ (.lst xs)=>some xs
 | _=>none
def lstO:HO->Option (List V)
 | .lst xs=>some xs
 | _=>none
def tupO:HO->Option (List V)
 | .tup xs=>some xs
 | _=>none
def itemsAt (H:Hp) (p:Addr):Option (List V):=(H p).bind seqO
def lstAt (H:Hp) (p:Addr):Option (List V):=(H p).bind lstO
def tupAt (H:Hp) (p:Addr):Option (List V):=(H p).bind tupO
theorem seqO_lst (xs:List V):seqO (.lst xs)=some xs:=rfl
theorem seqO_tup (xs:List V):seqO (.tup xs)=some xs:=rfl
theorem lstO_lst (xs:List V):lstO (.lst xs)=some xs:=rfl
theorem tupO_tup (xs:List V):tupO (.tup xs)=some xs:=rfl
theorem bind_some' {α β:Type}(x:α) (f:α->Option β):(some x).bind f=f x:=rfl
abbrev Ext (H H':Hp):Prop:=(∀ a,(H a).isSome=true->H' a=H a)∧∀ (K:PySem.W.Frag) a xs,SqL K H a xs->SqL K H' a xs
def kOp' (r:R2) (x:V) (Q:VK):VK:=fun y H=>r x y H Q
theorem m_kOp' (r:R2) (x y:V) (H:Hp) (Q:VK):(kOp' r x Q y H)=(r x y H Q):=rfl
def kOp (r:R2) (tb:TE) (σ:St) (Q:VK):VK:=fun x H=>tb σ H (kOp' r x Q)
theorem m_kOp (r:R2) (tb:TE) (σ:St) (Q:VK) (x:V) (H:Hp):(kOp r tb σ Q x H)=(tb σ H (kOp' r x Q)):=rfl
theorem m_tOp (r:R2) (ta tb:TE) (σ:St) (H:Hp) (Q:VK):(tOp r ta tb σ H Q)=(ta σ H (kOp r tb σ Q)):=rfl
theorem m_tC (v:V) (σ:St) (H:Hp) (Q:VK):(tC v σ H Q)=(Q v H):=rfl
def kUn (r:V->Hp->VK->Prop) (Q:VK):VK:=fun x H=>r x H Q
theorem m_kUn (r:V->Hp->VK->Prop) (Q:VK) (x:V) (H:Hp):(kUn r Q x H)=(r x H Q):=rfl
theorem m_tUn (r:V->Hp->VK->Prop) (ta:TE) (σ:St) (H:Hp) (Q:VK):(tUn r ta σ H Q)=(ta σ H (kUn r Q)):=rfl
def rIsN:R2:=fun x y H Q=>y=.non∧Q (.bl (decide (x=.non))) H
def rNotN:R2:=fun x y H Q=>y=.non∧Q (.bl (!decide (x=.non))) H
theorem m_rIsN_non (H:Hp) (Q:VK):rIsN (.non) .non H Q=Q (.bl true) H:=propext ⟨fun h=>h.2,fun h=>⟨rfl,h⟩⟩
theorem m_rNotN_non (H:Hp) (Q:VK):rNotN (.non) .non H Q=Q (.bl false) H:=propext ⟨fun h=>h.2,fun h=>⟨rfl,h⟩⟩
theorem m_rIsN_ref (i:Addr) (H:Hp) (Q:VK):rIsN (.ref i) .non H Q=Q (.bl false) H:=propext ⟨fun h=>h.2,fun h=>⟨rfl,h⟩⟩
theorem m_rNotN_ref (i:Addr) (H:Hp) (Q:VK):rNotN (.ref i) .non H Q=Q (.bl true) H:=propext ⟨fun h=>h.2,fun h=>⟨rfl,h⟩⟩
def kTest (Q:Bool->Hp->Prop):VK:=fun x H=>∃ k,x=.bl k∧Q k H
def kNot (Q:Bool->Hp->Prop):Bool->Hp->Prop:=fun c H=>Q (!c) H
theorem m_kNot (Q:Bool->Hp->Prop) (c:Bool) (H:Hp):(kNot Q c H)=(Q (!c) H):=rfl
theorem m_tNot (t:TT) (σ:St) (H:Hp) (Q:Bool->Hp->Prop):(tNot t σ H Q)=(t σ H (kNot Q)):=rfl
def kAnd (u:TT) (σ:St) (Q:Bool->Hp->Prop):Bool->Hp->Prop:=fun c H=>if c=true then u σ H Q else Q false H
theorem m_kAnd (u:TT) (σ:St) (Q:Bool->Hp->Prop) (c:Bool) (H:Hp):(kAnd u σ Q c H)=(if c=true then u σ H Q else Q false H):=rfl
theorem m_tAnd (t u:TT) (σ:St) (H:Hp) (Q:Bool->Hp->Prop):(tAnd t u σ H Q)=(t σ H (kAnd u σ Q)):=rfl
def kOr (u:TT) (σ:St) (Q:Bool->Hp->Prop):Bool->Hp->Prop:=fun c H=>if c=true then Q true H else u σ H Q
theorem m_kOr (u:TT) (σ:St) (Q:Bool->Hp->Prop) (c:Bool) (H:Hp):(kOr u σ Q c H)=(if c=true then Q true H else u σ H Q):=rfl
theorem m_tOr (t u:TT) (σ:St) (H:Hp) (Q:Bool->Hp->Prop):(tOr t u σ H Q)=(t σ H (kOr u σ Q)):=rfl
def kAndV (tb:TE) (σ:St) (Q:VK):VK:=fun x H=>∃ c,x=.bl c∧if c=true then tb σ H Q else Q (.bl false) H
def kOrV (tb:TE) (σ:St) (Q:VK):VK:=fun x H=>∃ c,x=.bl c∧if c=true then Q (.bl true) H else tb σ H Q
def kNotV (Q:VK):VK:=fun x H=>∃ c,x=.bl c∧Q (.bl (!c)) H
def kIfE (ta tb:TE) (σ:St) (Q:VK):Bool->Hp->Prop:=fun c H=>if c=true then ta σ H Q else tb σ H Q
theorem m_kIfE (ta tb:TE) (σ:St) (Q:VK) (c:Bool) (H:Hp):(kIfE ta tb σ Q c H)=(if c=true then ta σ H Q else tb σ H Q):=rfl
theorem m_tIf (t:TT) (ta tb:TE) (σ:St) (H:Hp) (Q:VK):(tIf t ta tb σ H Q)=(t σ H (kIfE ta tb σ Q)):=rfl
def kCh3 (r':R2) (y:V) (Q:VK):VK:=fun w H=>r' y w H Q
theorem m_kCh3 (r':R2) (y w:V) (Q:VK) (H:Hp):(kCh3 r' y Q w H)=(r' y w H Q):=rfl
def kCh2 (r':R2) (tc:TE) (σ:St) (y:V) (Q:VK):VK:=fun z H=>∃ k,z=.bl k∧(if k=true then tc σ H (kCh3 r' y Q) else Q (.bl false) H)
def kCh1 (r r':R2) (tc:TE) (σ:St) (x:V) (Q:VK):VK:=fun y H=>r x y H (kCh2 r' tc σ y Q)
def kCh0 (r r':R2) (tb tc:TE) (σ:St) (Q:VK):VK:=fun x H=>tb σ H (kCh1 r r' tc σ x Q)
theorem m_tNil (σ:St) (H:Hp) (Q:List V->Hp->Prop):(tNil σ H Q)=(Q [] H):=rfl
def kCons' (x:V) (Q:List V->Hp->Prop):List V->Hp->Prop:=fun xs H=>Q (x::xs) H
theorem m_kCons' (x:V) (Q:List V->Hp->Prop) (xs:List V) (H:Hp):(kCons' x Q xs H)=(Q (x::xs) H):=rfl
def kCons (tr:TA) (σ:St) (Q:List V->Hp->Prop):VK:=fun x H=>tr σ H (kCons' x Q)
theorem m_kCons (tr:TA) (σ:St) (Q:List V->Hp->Prop) (x:V) (H:Hp):(kCons tr σ Q x H)=(tr σ H (kCons' x Q)):=rfl
theorem m_tCons (ta:TE) (tr:TA) (σ:St) (H:Hp) (Q:List V->Hp->Prop):(tCons ta tr σ H Q)=(ta σ H (kCons tr σ Q)):=rfl
def kCall (sp:Sp) (dvs:List V) (E:XK) (Q:VK):List V->Hp->Prop:=fun vs H=>sp (vs++dvs) H Q E
theorem m_kCall_1 (v0:V) (sp:Sp) (dvs:List V) (E:XK) (Q:VK) (H:Hp):kCall sp dvs E Q [v0] H=sp (v0::dvs) H Q E:=rfl
theorem m_kCall_2 (v0 v1:V) (sp:Sp) (dvs:List V) (E:XK) (Q:VK) (H:Hp):kCall sp dvs E Q [v0,v1] H=sp (v0::v1::dvs) H Q E:=rfl
theorem m_kCall_3 (v0 v1 v2:V) (sp:Sp) (dvs:List V) (E:XK) (Q:VK) (H:Hp):kCall sp dvs E Q [v0,v1,v2] H=sp (v0::v1::v2::dvs) H Q E:=rfl
theorem m_kCall_4 (v0 v1 v2 v3:V) (sp:Sp) (dvs:List V) (E:XK) (Q:VK) (H:Hp):kCall sp dvs E Q [v0,v1,v2,v3] H=sp (v0::v1::v2::v3::dvs) H Q E:=rfl
theorem m_kCall_5 (v0 v1 v2 v3 v4:V) (sp:Sp) (dvs:List V) (E:XK) (Q:VK) (H:Hp):kCall sp dvs E Q [v0,v1,v2,v3,v4] H=sp (v0::v1::v2::v3::v4::dvs) H Q E:=rfl
theorem m_tCall (sp:Sp) (dvs:List V) (E:XK) (t:TA) (σ:St) (H:Hp) (Q:VK):(tCall sp dvs E t σ H Q)=(t σ H (kCall sp dvs E Q)):=rfl
def kCB (r:List V->Hp->VK->Prop) (Q:VK):List V->Hp->Prop:=fun vs H=>r vs H Q
theorem m_kCB (r:List V->Hp->VK->Prop) (Q:VK) (vs:List V) (H:Hp):(kCB r Q vs H)=(r vs H Q):=rfl
theorem m_tCB (r:List V->Hp->VK->Prop) (t:TA) (σ:St) (H:Hp) (Q:VK):(tCB r t σ H Q)=(t σ H (kCB r Q)):=rfl
theorem m_tNext (nx:St->Hp->Prop) (rt:VK) (bk ct:St->Hp->Prop) (σ:St) (H:Hp):(tNext ⟨nx,rt,bk,ct⟩ σ H)=(nx σ H):=rfl
theorem m_tSeq (t u:TS) (nx:St->Hp->Prop) (rt:VK) (bk ct:St->Hp->Prop) (σ:St) (H:Hp):(tSeq t u ⟨nx,rt,bk,ct⟩ σ H)=(t ⟨u ⟨nx,rt,bk,ct⟩,rt,bk,ct⟩ σ H):=rfl
theorem m_tRet (te:TE) (nx:St->Hp->Prop) (rt:VK) (bk ct:St->Hp->Prop) (σ:St) (H:Hp):(tRet te ⟨nx,rt,bk,ct⟩ σ H)=(te σ H rt):=rfl
def kDrop (nx:St->Hp->Prop) (σ:St):VK:=fun x H=>nx σ H
theorem m_kDrop (nx:St->Hp->Prop) (σ:St) (x:V) (H:Hp):(kDrop nx σ x H)=(nx σ H):=rfl
theorem m_tDrop (te:TE) (nx:St->Hp->Prop) (rt:VK) (bk ct:St->Hp->Prop) (σ:St) (H:Hp):(tDrop te ⟨nx,rt,bk,ct⟩ σ H)=(te σ H (kDrop nx σ)):=rfl
def kIfS (t u:TS) (D:Ends) (σ:St):Bool->Hp->Prop:=fun b H=>if b=true then t D σ H else u D σ H
theorem m_kIfS (t u:TS) (D:Ends) (σ:St) (b:Bool) (H:Hp):(kIfS t u D σ b H)=(if b=true then t D σ H else u D σ H):=rfl
theorem m_tIfS (c:TT) (t u:TS) (D:Ends) (σ:St) (H:Hp):(tIfS c t u D σ H)=(c σ H (kIfS t u D σ)):=rfl
def kAsg (g:TG) (σ:St) (nx:St->Hp->Prop):VK:=fun x H=>g x σ H nx
theorem m_kAsg (g:TG) (σ:St) (nx:St->Hp->Prop) (x:V) (H:Hp):(kAsg g σ nx x H)=(g x σ H nx):=rfl
theorem m_tAsg (te:TE) (g:TG) (nx:St->Hp->Prop) (rt:VK) (bk ct:St->Hp->Prop) (σ:St) (H:Hp):(tAsg te g ⟨nx,rt,bk,ct⟩ σ H)=(te σ H (kAsg g σ nx)):=rfl
def kPar (i j:Nat) (σ:St) (nx:St->Hp->Prop):List V->Hp->Prop:=fun vs H=>∃ v w,vs=[v,w]∧nx ((σ.set i (some v)).set j (some w)) H
theorem m_kPar (i j:Nat) (σ:St) (nx:St->Hp->Prop) (v w:V) (H:Hp):kPar i j σ nx [v,w] H=gName i v σ H (fun σ' H'=>gName j w σ' H' nx):=propext ⟨fun ⟨_,_,e,q⟩=>by cases e;exact q,fun q=>⟨v,w,rfl,q⟩⟩
theorem m_tPar (i j:Nat) (ta:TA) (nx:St->Hp->Prop) (rt:VK) (bk ct:St->Hp->Prop) (σ:St) (H:Hp):(tPar i j ta ⟨nx,rt,bk,ct⟩ σ H)=(ta σ H (kPar i j σ nx)):=rfl
def kGs (u:TGs) (r:List V) (Q:St->Hp->Prop):St->Hp->Prop:=fun σ' H'=>u r σ' H' Q
theorem m_kGs (u:TGs) (r:List V) (Q:St->Hp->Prop) (σ:St) (H:Hp):(kGs u r Q σ H)=(u r σ H Q):=rfl
end L2
set_option Elab.async false
set_option linter.all false
set_option maxRecDepth 100000
set_option maxHeartbeats 4000000
namespace L2
open PySem PySem.Spec PyProof.Rows
section
variable {X:Cx}
theorem OpR.mono {f:Value->Value->Sem Value}{r r':R2}(h:OpR X f r) (m:∀ x y H Q,r' x y H Q->r x y H Q):OpR X f r':=fun pins s σ H x y v u Q I rx ry hq=>h pins s σ H x y v u Q I rx ry (m _ _ _ _ hq)
theorem CallR.mono {f:Value}{r r':List V->Hp->VK->Prop}(h:CallR X f r) (m:∀ xs H Q,r' xs H Q->r xs H Q):CallR X f r':=fun pins s σ H xs us Q I rx hq=>h pins s σ H xs us Q I rx (m _ _ _ hq)
theorem IxR.mono {r r':R2}(h:IxR X r) (m:∀ x y H Q,r' x y H Q->r x y H Q):IxR X r':=fun a b pins s σ H x y v u Q I rx ry hq=>h a b pins s σ H x y v u Q I rx ry (m _ _ _ _ hq)
theorem SlR.mono {r r':V->Option Int->Option Int->Hp->VK->Prop}(h:SlR X r) (m:∀ x lo hi H Q,r' x lo hi H Q->r x lo hi H Q):SlR X r':=fun pins s σ H x v vl vu lo hi sl Q I rx a b c hq=>h pins s σ H x v vl vu lo hi sl Q I rx a b c (m _ _ _ _ _ hq)
theorem PG.mono {tg:Expr}{g g':TG}(h:PG X tg g) (m:∀ v σ H Q,g' v σ H Q->g v σ H Q):PG X tg g':=fun pins s σ H v u Q I r hq=>h pins s σ H v u Q I r (m _ _ _ _ hq)
theorem items_seq {K:PySem.W.Frag}{H:Hp}{p:Addr}{ys:List V}(h:itemsAt H p=some ys):SqL K H p ys∨SqT K H p ys:=by
 unfold itemsAt at h
 cases e:H p with
 | none=>rw [e] at h;cases h
 | some o=>
  rw [e] at h
  have h':seqO o=some ys:=h
  cases o with
  | lst xs=>cases h';exact .inl (SqL.of e)
  | tup xs=>cases h';exact .inr (SqT.of e)
  | frz ob u=>
   cases u with
   | lst xs=>cases h';exact .inl (.inl (.inr ⟨ob,e⟩))
   | _=>cases h'
  | _=>cases h'
theorem lst_of {H:Hp}{p:Addr}{ys:List V}(h:lstAt H p=some ys):H p=some (.lst ys):=by
 unfold lstAt at h
 cases e:H p with
 | none=>rw [e] at h;cases h
 | some o=>
  rw [e] at h
  have h':lstO o=some ys:=h
  cases o with
  | lst xs=>cases h';rfl
  | _=>cases h'
theorem tup_of {H:Hp}{p:Addr}{ys:List V}(h:tupAt H p=some ys):H p=some (.tup ys):=by
 unfold tupAt at h
 cases e:H p with
 | none=>rw [e] at h;cases h
 | some o=>
  rw [e] at h
  have h':tupO o=some ys:=h
  cases o with
  | tup xs=>cases h';rfl
  | _=>cases h'
def kLen (H:Hp) (Q:VK):List V->Prop:=fun ys=>Q (.int ys.length) H
theorem m_kLen (H:Hp) (Q:VK) (ys:List V):kLen H Q ys=Q (.int ys.length) H:=rfl
def qLen (xs:List V) (H:Hp) (Q:VK):Prop:=match xs with
 | [.ref p]=>optK (itemsAt H p) (kLen H Q)
 | [.str z]=>z.length≤sizeLine∧Q (.int z.length) H
 | _=>False
theorem m_qLen (p:Addr) (H:Hp) (Q:VK):qLen [.ref p] H Q=optK (itemsAt H p) (kLen H Q):=rfl
theorem call_qLen:CallR X (.builtin "len") qLen:=by
 refine (call_len_seq.or call_len_str).mono fun xs H Q h=>?_
 unfold qLen at h
 split at h
 ·rename_i p
  obtain ⟨ys,e,q⟩:=optK_ex h
  exact .inl ⟨p,ys,rfl,items_seq e,q⟩
 ·rename_i z
  exact .inr ⟨z,rfl,h.1,h.2⟩
 ·exact h.elim
def kIx' (H:Hp) (Q:VK):V->Prop:=fun v=>Q v H
theorem m_kIx' (H:Hp) (Q:VK) (v:V):kIx' H Q v=Q v H:=rfl
def kIx (i:Int) (H:Hp) (Q:VK):List V->Prop:=fun ys=>optK (atI ys i) (kIx' H Q)
theorem m_kIx (i:Int) (H:Hp) (Q:VK) (ys:List V):kIx i H Q ys=optK (atI ys i) (kIx' H Q):=rfl
def qIx:R2:=fun x y H Q=>match x,y with
 | .ref p,.int i=>optK (itemsAt H p) (kIx i H Q)
 | _,_=>False
theorem m_qIx (p:Addr) (i:Int) (H:Hp) (Q:VK):qIx (.ref p) (.int i) H Q=optK (itemsAt H p) (kIx i H Q):=rfl
theorem ix_q:IxR X qIx:=by
 refine (ix_list.or ix_tup).mono fun x y H Q h=>?_
 unfold qIx at h
 split at h
 ·rename_i p i
  obtain ⟨ys,e,q⟩:=optK_ex h
  obtain ⟨v,e2,q2⟩:=optK_ex q
  rcases items_seq (K:=X.K) e with z|z
  ·exact .inl ⟨p,ys,i,v,rfl,rfl,z,e2,q2⟩
  ·exact .inr ⟨p,ys,i,v,rfl,rfl,z,e2,q2⟩
 ·exact h.elim
theorem atI_0 {α:Type}(a:α) (xs:List α):atI (a::xs) 0=some a:=atI_nat (j:=0) rfl
theorem atI_1 {α:Type}(a b:α) (xs:List α):atI (a::b::xs) 1=some b:=atI_nat (j:=1) rfl
theorem atI_2 {α:Type}(a b c:α) (xs:List α):atI (a::b::c::xs) 2=some c:=atI_nat (j:=2) rfl
def kNewL (H:Hp) (Q:VK):List V->Prop:=fun ys=>∀ l,H l=none->Q (.ref l) (upd H l (.lst ys))
def qList (xs:List V) (H:Hp) (Q:VK):Prop:=match xs with
 | [.ref p]=>optK (itemsAt H p) (kNewL H Q)
 | _=>False
theorem call_qList:CallR X (.type "list") qList:=by
 refine call_list_of.mono fun xs H Q h=>?_
 unfold qList at h
 split at h
 ·rename_i p
  obtain ⟨ys,e,q⟩:=optK_ex h
  exact ⟨p,ys,rfl,items_seq e,q⟩
 ·exact h.elim
def kTupO (p:Addr) (H:Hp) (Q:VK):HO->Prop:=fun o=>match o with
 | .lst ys=>∀ l,H l=none->Q (.ref l) (upd H l (.tup ys))
 | .tup _=>Q (.ref p) H
 | _=>False
def qTuple (xs:List V) (H:Hp) (Q:VK):Prop:=match xs with
 | [.ref p]=>optK (H p) (kTupO p H Q)
 | _=>False
theorem call_qTuple:CallR X (.type "tuple") qTuple:=by
 refine call_tuple_of.mono fun xs H Q h=>?_
 unfold qTuple at h
 split at h
 ·rename_i p
  obtain ⟨o,e,q⟩:=optK_ex h
  unfold kTupO at q
  split at q
  ·rename_i ys;exact ⟨p,ys,rfl,.inl ⟨SqL.of e,q⟩⟩
  ·rename_i ys;exact ⟨p,ys,rfl,.inr ⟨SqT.of e,q⟩⟩
  ·exact q.elim
 ·exact h.elim
def qAbs (xs:List V) (H:Hp) (Q:VK):Prop:=match xs with
 | [.int i]=>Q (.int (if i < 0 then -i else i)) H
 | _=>False
theorem m_qAbs (i:Int) (H:Hp) (Q:VK):qAbs [.int i] H Q=Q (.int (if i < 0 then -i else i)) H:=rfl
theorem call_qAbs:CallR X (.builtin "abs") qAbs:=by
 refine call_abs.mono fun xs H Q h=>?_
 unfold qAbs at h
 split at h
 ·rename_i i;exact ⟨i,rfl,h⟩
 ·exact h.elim
def qMax (xs:List V) (H:Hp) (Q:VK):Prop:=match xs with
 | [.int i,.int j]=>Q (.int (if i < j then j else i)) H
 | _=>False
theorem m_qMax (i j:Int) (H:Hp) (Q:VK):qMax [.int i,.int j] H Q=Q (.int (if i < j then j else i)) H:=rfl
theorem call_qMax (hc:X.calm=true):CallR X (.builtin "max") qMax:=by
 refine (call_max2 hc).mono fun xs H Q h=>?_
 unfold qMax at h
 split at h
 ·rename_i i j;exact ⟨i,j,rfl,h⟩
 ·exact h.elim
def qMin (xs:List V) (H:Hp) (Q:VK):Prop:=match xs with
 | [.int i,.int j]=>Q (.int (if j < i then j else i)) H
 | _=>False
theorem m_qMin (i j:Int) (H:Hp) (Q:VK):qMin [.int i,.int j] H Q=Q (.int (if j < i then j else i)) H:=rfl
theorem call_qMin (hc:X.calm=true):CallR X (.builtin "min") qMin:=by
 refine (call_min2 hc).mono fun xs H Q h=>?_
 unfold qMin at h
 split at h
 ·rename_i i j;exact ⟨i,j,rfl,h⟩
 ·exact h.elim
def tyO:HO->Option String
 | .lst _=>some "list"
 | .tup _=>some "tuple"
 | .frz _ (.lst _)=>some "list"
 | .dK _=>some "dict"
 | .dT _=>some "dict"
 | _=>none
theorem tyO_lst (xs:List V):tyO (.lst xs)=some "list":=rfl
theorem tyO_tup (xs:List V):tyO (.tup xs)=some "tuple":=rfl
def tyN (H:Hp):V->Option String
 | .non=>some "NoneType"
 | .bl _=>some "bool"
 | .int _=>some "int"
 | .str _=>some "str"
 | .ref p=>(H p).bind tyO
 | _=>none
theorem tyN_non (H:Hp):tyN H .non=some "NoneType":=rfl
theorem tyN_bl (H:Hp) (b:Bool):tyN H (.bl b)=some "bool":=rfl
theorem tyN_int (H:Hp) (i:Int):tyN H (.int i)=some "int":=rfl
theorem tyN_str (H:Hp) (x:Str):tyN H (.str x)=some "str":=rfl
theorem tyN_ref (H:Hp) (p:Addr):tyN H (.ref p)=(H p).bind tyO:=rfl
theorem tyN_ok {K:PySem.W.Frag}{H:Hp}{x:V}{t:String}(h:tyN H x=some t):TyOf K H x (.type t):=by
 cases x with
 | non=>cases h;exact .non
 | bl b=>cases h;exact .bl b
 | int i=>cases h;exact .int i
 | str x=>cases h;exact .str x
 | ref p=>
  have h':(H p).bind tyO=some t:=h
  cases e:H p with
  | none=>rw [e] at h';cases h'
  | some o=>
   rw [e] at h'
   have h2:tyO o=some t:=h'
   cases o with
   | lst xs=>cases h2;exact .lst e
   | tup xs=>cases h2;exact .tup e
   | dK xs=>cases h2;exact .dK e
   | dT xs=>cases h2;exact .dT e
   | frz ob u=>
    cases u with
    | lst xs=>cases h2;exact .frz e
    | _=>cases h2
   | _=>cases h2
 | _=>cases h
def kTypes:List String:=["NoneType", "bool", "int", "str", "list", "tuple", "dict"]
def isiN (t n:String):Bool:=t == n || (t == "bool" && n == "int")
theorem kit_isiN (K:PySem.W.Frag):∀ t∈kTypes,∀ n∈kTypes,PySem.W.kitOne K (.type t) (.type n)=some (isiN t n):=by
 intro t ht n hn
 unfold kTypes at ht hn
 simp only [List.mem_cons,List.not_mem_nil,or_false] at ht hn
 rcases ht with rfl|rfl|rfl|rfl|rfl|rfl|rfl<;>rcases hn with rfl|rfl|rfl|rfl|rfl|rfl|rfl<;>exact kitOne_ty K _ _ _ (by decide +kernel)
def kIsi (n:String) (H:Hp) (Q:VK):String->Prop:=fun t=>t∈kTypes∧Q (.bl (isiN t n)) H
def qIsi (xs:List V) (H:Hp) (Q:VK):Prop:=match xs with
 | [x,.ty n]=>n∈kTypes∧optK (tyN H x) (kIsi n H Q)
 | _=>False
theorem call_qIsi:CallR X (.builtin "isinstance") qIsi:=by
 refine call_isi.mono fun xs H Q h=>?_
 unfold qIsi at h
 split at h
 ·rename_i x n
  obtain ⟨hn,h⟩:=h
  obtain ⟨t,e,ht,q⟩:=optK_ex h
  exact ⟨x,n,_,_,rfl,tyN_ok e,kit_isiN _ t ht n hn,q⟩
 ·exact h.elim
theorem m_qIsi_int (x:V) (H:Hp) (Q:VK):qIsi [x,.ty "int"] H Q=optK (tyN H x) (kIsi "int" H Q):=by
 unfold qIsi;exact propext ⟨fun h=>h.2,fun h=>⟨by decide,h⟩⟩
theorem m_qIsi_bool (x:V) (H:Hp) (Q:VK):qIsi [x,.ty "bool"] H Q=optK (tyN H x) (kIsi "bool" H Q):=by
 unfold qIsi;exact propext ⟨fun h=>h.2,fun h=>⟨by decide,h⟩⟩
theorem m_qIsi_tuple (x:V) (H:Hp) (Q:VK):qIsi [x,.ty "tuple"] H Q=optK (tyN H x) (kIsi "tuple" H Q):=by
 unfold qIsi;exact propext ⟨fun h=>h.2,fun h=>⟨by decide,h⟩⟩
theorem m_qIsi_list (x:V) (H:Hp) (Q:VK):qIsi [x,.ty "list"] H Q=optK (tyN H x) (kIsi "list" H Q):=by
 unfold qIsi;exact propext ⟨fun h=>h.2,fun h=>⟨by decide,h⟩⟩
theorem m_kIsi_Ni (H:Hp) (Q:VK):kIsi "int" H Q "NoneType"=Q (.bl false) H:=propext ⟨fun h=>h.2,fun h=>⟨by decide,h⟩⟩
theorem m_kIsi_bb (H:Hp) (Q:VK):kIsi "bool" H Q "bool"=Q (.bl true) H:=propext ⟨fun h=>h.2,fun h=>⟨by decide,h⟩⟩
theorem m_kIsi_bi (H:Hp) (Q:VK):kIsi "int" H Q "bool"=Q (.bl true) H:=propext ⟨fun h=>h.2,fun h=>⟨by decide,h⟩⟩
theorem m_kIsi_ib (H:Hp) (Q:VK):kIsi "bool" H Q "int"=Q (.bl false) H:=propext ⟨fun h=>h.2,fun h=>⟨by decide,h⟩⟩
theorem m_kIsi_ii (H:Hp) (Q:VK):kIsi "int" H Q "int"=Q (.bl true) H:=propext ⟨fun h=>h.2,fun h=>⟨by decide,h⟩⟩
theorem m_kIsi_si (H:Hp) (Q:VK):kIsi "int" H Q "str"=Q (.bl false) H:=propext ⟨fun h=>h.2,fun h=>⟨by decide,h⟩⟩
theorem m_kIsi_li (H:Hp) (Q:VK):kIsi "int" H Q "list"=Q (.bl false) H:=propext ⟨fun h=>h.2,fun h=>⟨by decide,h⟩⟩
theorem m_kIsi_ll (H:Hp) (Q:VK):kIsi "list" H Q "list"=Q (.bl true) H:=propext ⟨fun h=>h.2,fun h=>⟨by decide,h⟩⟩
theorem m_kIsi_ti (H:Hp) (Q:VK):kIsi "int" H Q "tuple"=Q (.bl false) H:=propext ⟨fun h=>h.2,fun h=>⟨by decide,h⟩⟩
theorem m_kIsi_tt (H:Hp) (Q:VK):kIsi "tuple" H Q "tuple"=Q (.bl true) H:=propext ⟨fun h=>h.2,fun h=>⟨by decide,h⟩⟩
theorem m_kIsi_di (H:Hp) (Q:VK):kIsi "int" H Q "dict"=Q (.bl false) H:=propext ⟨fun h=>h.2,fun h=>⟨by decide,h⟩⟩
def kBM' (r:V->List V->Hp->VK->Prop) (x:V) (Q:VK):List V->Hp->Prop:=fun xs H=>r x xs H Q
theorem m_kBM' (r:V->List V->Hp->VK->Prop) (x:V) (Q:VK) (xs:List V) (H:Hp):kBM' r x Q xs H=r x xs H Q:=rfl
def kBM (K:PySem.W.Frag) (T:String) (r:V->List V->Hp->VK->Prop) (t:TA) (σ:St) (Q:VK):VK:=fun x H=>tyV K T x H∧t σ H (kBM' r x Q)
theorem m_kBM (K:PySem.W.Frag) (T:String) (r:V->List V->Hp->VK->Prop) (t:TA) (σ:St) (Q:VK) (x:V) (H:Hp):kBM K T r t σ Q x H=(tyV K T x H∧t σ H (kBM' r x Q)):=rfl
theorem m_tBM (K:PySem.W.Frag) (T:String) (r:V->List V->Hp->VK->Prop) (to:TE) (t:TA) (σ:St) (H:Hp) (Q:VK):tBM K T r to t σ H Q=to σ H (kBM K T r t σ Q):=rfl
def kBM0 (K:PySem.W.Frag) (T:String) (r:V->List V->Hp->VK->Prop) (Q:VK):VK:=fun x H=>tyV K T x H∧r x [] H Q
theorem m_kBM0 (K:PySem.W.Frag) (T:String) (r:V->List V->Hp->VK->Prop) (Q:VK) (x:V) (H:Hp):kBM0 K T r Q x H=(tyV K T x H∧r x [] H Q):=rfl
theorem m_tBM0 (K:PySem.W.Frag) (T:String) (r:V->List V->Hp->VK->Prop) (to:TE) (σ:St) (H:Hp) (Q:VK):tBM0 K T r to σ H Q=to σ H (kBM0 K T r Q):=rfl
theorem tyV_list (K:PySem.W.Frag) (p:Addr) (H:Hp) (h:(lstAt H p).isSome=true):tyV K "list" (.ref p) H=True:=by
 cases e:lstAt H p with
 | none=>rw [e] at h;cases h
 | some ys=>exact eq_true (.inl ⟨rfl,ys,SqL.of (lst_of e)⟩)
def kApp (l:Addr) (y:V) (H:Hp) (Q:VK):List V->Prop:=fun xs=>xs.length < sizeLine∧Q .non (upd H l (.lst (xs++[y])))
theorem m_kApp (l:Addr) (y:V) (H:Hp) (Q:VK) (xs:List V):kApp l y H Q xs=(xs.length < sizeLine∧Q .non (upd H l (.lst (xs++[y])))):=rfl
theorem m_rAppend (l:Addr) (y:V) (H:Hp) (Q:VK):rAppend (.ref l) [y] H Q=optK (lstAt H l) (kApp l y H Q):=by
 refine propext ⟨fun h=>?_,fun h=>?_⟩
 ·obtain ⟨_,xs,_,e1,e2,e3,a,b⟩:=h
  cases e1;cases e2
  have e:lstAt H l=some xs:=by unfold lstAt;rw [e3];rfl
  rw [e];exact ⟨a,b⟩
 ·obtain ⟨xs,e,a,b⟩:=optK_ex h
  exact ⟨l,xs,y,rfl,rfl,lst_of e,a,b⟩
def kRev (l:Addr) (H:Hp) (Q:VK):List V->Prop:=fun xs=>Q .non (upd H l (.lst xs.reverse))
theorem m_kRev (l:Addr) (H:Hp) (Q:VK) (xs:List V):kRev l H Q xs=Q .non (upd H l (.lst xs.reverse)):=rfl
theorem m_rReverse (l:Addr) (H:Hp) (Q:VK):rReverse (.ref l) [] H Q=optK (lstAt H l) (kRev l H Q):=by
 refine propext ⟨fun h=>?_,fun h=>?_⟩
 ·obtain ⟨_,xs,e1,_,e3,b⟩:=h
  cases e1
  have e:lstAt H l=some xs:=by unfold lstAt;rw [e3];rfl
  rw [e];exact b
 ·obtain ⟨xs,e,b⟩:=optK_ex h
  exact ⟨l,xs,rfl,rfl,lst_of e,b⟩
def kPop' (l:Addr) (H:Hp) (Q:VK) (xs:List V):V->Prop:=fun y=>Q y (upd H l (.lst xs.dropLast))
theorem m_kPop' (l:Addr) (H:Hp) (Q:VK) (xs:List V) (y:V):kPop' l H Q xs y=Q y (upd H l (.lst xs.dropLast)):=rfl
def kPop (l:Addr) (H:Hp) (Q:VK):List V->Prop:=fun xs=>optK (xs[xs.length - 1]?) (kPop' l H Q xs)
theorem m_kPop (l:Addr) (H:Hp) (Q:VK) (xs:List V):kPop l H Q xs=optK (xs[xs.length - 1]?) (kPop' l H Q xs):=rfl
theorem m_rPop (l:Addr) (H:Hp) (Q:VK):rPop (.ref l) [] H Q=optK (lstAt H l) (kPop l H Q):=by
 refine propext ⟨fun h=>?_,fun h=>?_⟩
 ·obtain ⟨_,xs,y,e1,_,e3,e4,b⟩:=h
  cases e1
  have e:lstAt H l=some xs:=by unfold lstAt;rw [e3];rfl
  rw [e]
  show optK (xs[xs.length - 1]?) _
  rw [e4];exact b
 ·obtain ⟨xs,e,b⟩:=optK_ex h
  obtain ⟨y,e4,b⟩:=optK_ex b
  exact ⟨l,xs,y,rfl,rfl,lst_of e,e4,b⟩
def kCat2 (xs:List V) (H:Hp) (Q:VK):List V->Prop:=fun ys=>xs.length+ys.length≤sizeLine∧∀ p,H p=none->Q (.ref p) (upd H p (.lst (xs++ys)))
def kCat1 (b:Addr) (H:Hp) (Q:VK):List V->Prop:=fun xs=>optK (lstAt H b) (kCat2 xs H Q)
theorem m_rCat (l b:Addr) (H:Hp) (Q:VK):rCat (.ref l) (.ref b) H Q=optK (lstAt H l) (kCat1 b H Q):=by
 refine propext ⟨fun h=>?_,fun h=>?_⟩
 ·obtain ⟨l',b',xs,zs,e1,e2,e3,e4,hz,hq⟩:=h
  cases e1;cases e2
  have e:lstAt H l=some xs:=by unfold lstAt;rw [e3];rfl
  have e':lstAt H b=some zs:=by unfold lstAt;rw [e4];rfl
  rw [e]
  show optK (lstAt H b) _
  rw [e'];exact ⟨hz,hq⟩
 ·obtain ⟨xs,e,q⟩:=optK_ex h
  obtain ⟨zs,e',a,q⟩:=optK_ex q
  exact ⟨l,b,xs,zs,rfl,rfl,lst_of e,lst_of e',a,q⟩
def kSet' (p:Addr) (xs:List V) (v:V) (H:Hp) (Q:Hp->Prop):Nat->Prop:=fun j=>Q (upd H p (.lst (xs.set j v)))
theorem m_kSet' (p:Addr) (xs:List V) (v:V) (H:Hp) (Q:Hp->Prop) (j:Nat):kSet' p xs v H Q j=Q (upd H p (.lst (xs.set j v))):=rfl
def kSet (p:Addr) (i:Int) (v:V) (H:Hp) (Q:Hp->Prop):List V->Prop:=fun xs=>optK (ixN xs.length i) (kSet' p xs v H Q)
theorem m_kSet (p:Addr) (i:Int) (v:V) (H:Hp) (Q:Hp->Prop) (xs:List V):kSet p i v H Q xs=optK (ixN xs.length i) (kSet' p xs v H Q):=rfl
theorem m_rSetL (p:Addr) (i:Int) (v:V) (H:Hp) (Q:Hp->Prop):rSetL (.ref p) (.int i) v H Q=optK (lstAt H p) (kSet p i v H Q):=by
 refine propext ⟨fun h=>?_,fun h=>?_⟩
 ·obtain ⟨_,xs,_,j,e1,e2,e3,e4,b⟩:=h
  cases e1;cases e2
  have e:lstAt H p=some xs:=by unfold lstAt;rw [e3];rfl
  rw [e]
  show optK (ixN xs.length i) _
  rw [e4];exact b
 ·obtain ⟨xs,e,q⟩:=optK_ex h
  obtain ⟨j,e4,q⟩:=optK_ex q
  exact ⟨p,xs,i,j,rfl,rfl,lst_of e,e4,q⟩
def kGSub3 (t:TSet) (o v:V) (σ:St) (Q:St->Hp->Prop):VK:=fun i H=>t o i v H fun H3=>Q σ H3
theorem m_kGSub3 (t:TSet) (o v:V) (σ:St) (Q:St->Hp->Prop) (i:V) (H:Hp):kGSub3 t o v σ Q i H=t o i v H (Q σ):=rfl
def kGSub2 (ti:TE) (t:TSet) (v:V) (σ:St) (Q:St->Hp->Prop):VK:=fun o H=>ti σ H (kGSub3 t o v σ Q)
theorem m_kGSub2 (ti:TE) (t:TSet) (v:V) (σ:St) (Q:St->Hp->Prop) (o:V) (H:Hp):kGSub2 ti t v σ Q o H=ti σ H (kGSub3 t o v σ Q):=rfl
theorem m_gSub (to ti:TE) (t:TSet) (v:V) (σ:St) (H:Hp) (Q:St->Hp->Prop):gSub to ti t v σ H Q=to σ H (kGSub2 ti t v σ Q):=rfl
def kGT (n:Nat) (t:TGs) (σ:St) (H:Hp) (Q:St->Hp->Prop):List V->Prop:=fun xs=>xs.length=n∧t xs σ H Q
theorem m_kGT (n:Nat) (t:TGs) (σ:St) (H:Hp) (Q:St->Hp->Prop) (xs:List V):kGT n t σ H Q xs=(xs.length=n∧t xs σ H Q):=rfl
def qGT (n:Nat) (t:TGs):TG:=fun v σ H Q=>match v with
 | .ref a=>optK (tupAt H a) (kGT n t σ H Q)
 | _=>False
theorem m_qGT (n:Nat) (t:TGs) (a:Addr) (σ:St) (H:Hp) (Q:St->Hp->Prop):qGT n t (.ref a) σ H Q=optK (tupAt H a) (kGT n t σ H Q):=rfl
theorem gTup_q {K:PySem.W.Frag}{n:Nat}{t:TGs}{v:V}{σ:St}{H:Hp}{Q:St->Hp->Prop}(h:qGT n t v σ H Q):gTup K n t v σ H Q:=by
 unfold qGT at h
 split at h
 ·rename_i a
  obtain ⟨xs,e,hl,q⟩:=optK_ex h
  exact ⟨a,xs,rfl,SqT.of (tup_of e),hl,q⟩
 ·exact h.elim
theorem op_qIs:OpR X (compareOp .Is) rIsN:=op_isN
theorem op_qIsnt:OpR X (compareOp .IsNot) rNotN:=op_notN
def kBody (tb:TS) (D:Ends):St->Hp->Prop:=fun σ H=>tb D σ H
theorem m_kBody (tb:TS) (D:Ends) (σ:St) (H:Hp):kBody tb D σ H=tb D σ H:=rfl
def kFor (g:TG) (tb:TS) (D:Ends) (σ:St) (J:It) (H1:Hp):Prop:=∃ W:Nat->Nat->St->Hp->Prop,(∃ m,W 0 m σ H1)∧∀ i m σ H,W i m σ H →
 (J.stop i H∧D.nx σ H)∨(J.go i H∧∃ N:St->Hp->Prop,(∀ σ' H',N σ' H'->∃ m',m' < m∧W (i+1) m' σ' H')∧∀ x H',J.yld i H x H'->g x σ H' fun σ2 H2=>tb { D with nx:=N,ct:=N,bk:=D.nx } σ2 H2)
theorem m_tFor (wi:TI) (g:TG) (tb:TS) (D:Ends) (σ:St) (H:Hp):tFor wi g tb D σ H=wi σ H (kFor g tb D σ):=rfl
def kR1 (R:It->Hp->Prop):List V->Hp->Prop:=fun vs H=>∃ j:Int,vs=[.int j]∧-(2 ^ 62)≤j∧j < 2 ^ 62∧R (Itr 0 j.toNat) H
theorem m_kR1 (R:It->Hp->Prop) (j:Int) (H:Hp):kR1 R [.int j] H=(-(2 ^ 62)≤j∧j < 2 ^ 62∧R (Itr 0 j.toNat) H):=propext ⟨fun ⟨_,e,q⟩=>by cases e;exact q,fun q=>⟨j,rfl,q⟩⟩
theorem m_iRng1 (ta:TA) (σ:St) (H:Hp) (R:It->Hp->Prop):iRng1 ta σ H R=ta σ H (kR1 R):=rfl
def kISq' (K:PySem.W.Frag) (a:Addr) (H:Hp) (R:It->Hp->Prop):HO->Prop:=fun o=>match o with
 | .lst _=>R (Itl K a) H
 | .frz _ (.lst _)=>R (Itl K a) H
 | .tup _=>R (Itt K a) H
 | _=>False
theorem m_kISq'_l (K:PySem.W.Frag) (a:Addr) (H:Hp) (R:It->Hp->Prop) (xs:List V):kISq' K a H R (.lst xs)=R (Itl K a) H:=rfl
def kISq (K:PySem.W.Frag) (R:It->Hp->Prop):VK:=fun x H=>match x with
 | .ref a=>optK (H a) (kISq' K a H R)
 | _=>False
theorem m_kISq (K:PySem.W.Frag) (R:It->Hp->Prop) (a:Addr) (H:Hp):kISq K R (.ref a) H=optK (H a) (kISq' K a H R):=rfl
def iSeq (K:PySem.W.Frag) (tl:TE):TI:=fun σ H R=>tl σ H (kISq K R)
theorem m_iSeq (K:PySem.W.Frag) (tl:TE) (σ:St) (H:Hp) (R:It->Hp->Prop):iSeq K tl σ H R=tl σ H (kISq K R):=rfl
theorem pi_seq {tg l:Expr}{tl:TE}(hl:PE X l tl):PI X tg l (iSeq X.K tl):=by
 intro pins s σ H R I h
 refine thn (hl pins s σ H _ I h) fun v s1 ⟨x,H1,I1,r1,q1⟩=>?_
 unfold kISq at q1
 split at q1
 ·rename_i a
  cases r1
  obtain ⟨o,e,q⟩:=optK_ex q1
  have fp:∀ b∈[s1.heap.objs.size],FpOk X pins H1 b:=fun b hb=>by
   have e:b=s1.heap.objs.size:=by simpa using hb
   subst e
   exact I1.fpOk (Nat.le_refl _) (I1.hok.fresh (Nat.le_refl _))
  have lst:∀ xs,SqL X.K H1 a xs->R (Itl X.K a) H1->wpAny (model X.prog X.w) X.A (pyIter (.ref a)) (PIE X pins σ tg R) X.xe s1:=fun xs hq q=>by
   obtain ⟨its,rv,p,hz⟩:=I1.list hq
   refine wpAny_pyIter_list p.isList ?_
   exact ⟨s1.heap.objs.size,[s1.heap.objs.size],_,_,H1,rfl,I1.kept (t':=s1.toks) fun b o e=>Heap.get?_push_of_some _ e,turn_list a _,⟨_,Heap.get?_push_size _ rfl,rfl,rfl⟩,fp,q⟩
  unfold kISq' at q
  split at q
  ·exact lst _ (SqL.of e) q
  ·exact lst _ (.inl (.inr ⟨_,e⟩)) q
  ·obtain ⟨its,rv,p,hz⟩:=I1.tuple (SqT.of e)
   refine wpAny_pyIter_tuple (show s1.heap.IsTuple a its.toArray from p) ?_
   exact ⟨s1.heap.objs.size,[s1.heap.objs.size],_,_,H1,rfl,I1.kept (t':=s1.toks) fun b o e=>Heap.get?_push_of_some _ e,turn_tuple a _,⟨_,Heap.get?_push_size _ rfl,rfl,rfl⟩,fp,q⟩
  ·exact q.elim
 ·exact q1.elim
theorem for_rng {lo:Int}{n:Nat}{g:TG}{tb:TS}{nx:St->Hp->Prop}{rt:VK}{bk ct:St->Hp->Prop}{σ:St}{H:Hp}(Pv:Nat->St->Hp->Prop) (h0:Pv 0 σ H)
  (hs:∀ i σ H,i < n->Pv i σ H->g (.int (lo+i)) σ H (kBody tb ⟨Pv (i+1),rt,nx,Pv (i+1)⟩)) (hd:∀ σ H,Pv n σ H->nx σ H):kFor g tb ⟨nx,rt,bk,ct⟩ σ (Itr lo n) H:=for_range Pv h0 hs hd
theorem for_lst {K:PySem.W.Frag}{a:Addr}{xs:List V}{g:TG}{tb:TS}{nx:St->Hp->Prop}{rt:VK}{bk ct:St->Hp->Prop}{σ:St}{H:Hp}(Pv:Nat->St->Hp->Prop) (h0:Pv 0 σ H) (hl:∀ i σ H,i≤xs.length->Pv i σ H->H a=some (.lst xs))
  (hs:∀ i x σ H,xs[i]? = some x->Pv i σ H->g x σ H (kBody tb ⟨Pv (i+1),rt,nx,Pv (i+1)⟩)) (hd:∀ σ H,Pv xs.length σ H->nx σ H):kFor g tb ⟨nx,rt,bk,ct⟩ σ (Itl K a) H:=for_list (xs:=xs) Pv h0 (fun i σ H hi p=>SqL.of (hl i σ H hi p)) hs hd
def kWh (tb:TS) (nx:St->Hp->Prop) (rt:VK) (Pv:Nat->St->Hp->Prop) (m:Nat) (σ:St):Bool->Hp->Prop:=fun b H=>if b=true then tb ⟨fun σ' H'=>∃ m',m' < m∧Pv m' σ' H',rt,nx,fun σ' H'=>∃ m',m' < m∧Pv m' σ' H'⟩ σ H else nx σ H
theorem m_kWh (tb:TS) (nx:St->Hp->Prop) (rt:VK) (Pv:Nat->St->Hp->Prop) (m:Nat) (σ:St) (b:Bool) (H:Hp):kWh tb nx rt Pv m σ b H=(if b=true then tb ⟨fun σ' H'=>∃ m',m' < m∧Pv m' σ' H',rt,nx,fun σ' H'=>∃ m',m' < m∧Pv m' σ' H'⟩ σ H else nx σ H):=rfl
theorem while_m {c:TT}{tb:TS}{nx:St->Hp->Prop}{rt:VK}{bk ct:St->Hp->Prop}{σ:St}{H:Hp}(Pv:Nat->St->Hp->Prop) (m0:Nat) (h0:Pv m0 σ H)
  (mono:∀ σ H Q Q',(∀ b H1,Q b H1->Q' b H1)->c σ H Q->c σ H Q')
  (hs:∀ m σ H,Pv m σ H->c σ H (kWh tb nx rt Pv m σ)):tWhile c tb ⟨nx,rt,bk,ct⟩ σ H:=by
 refine ⟨Pv,⟨m0,h0⟩,fun m σ H p=>mono σ H _ _ (fun b H1 q=>?_) (hs m σ H p)⟩
 unfold kWh at q
 cases b with
 | true=>exact ⟨_,fun σ' H' z=>z,q⟩
 | false=>exact q
end
end L2
set_option Elab.async false
set_option linter.all false
set_option maxRecDepth 100000
set_option maxHeartbeats 4000000
namespace L2
open PySem PySem.Spec PyProof.Rows
def kE4 (H:Hp) (Q:VK):Bool->Prop:=fun b=>Q (.bl b) H
theorem m_kE4 (H:Hp) (Q:VK) (b:Bool):kE4 H Q b=Q (.bl b) H:=rfl
def kC3 (D:Addr) (ys:List V) (N:List V->Hp->Prop):VK:=fun y H=>H D=some (.lst ys)∧ys.length < sizeLine∧N (ys++[y]) (upd H D (.lst (ys++[y])))
def kC2 (te:TE) (σ2:St) (D:Addr) (ys:List V) (N:List V->Hp->Prop):Bool->Hp->Prop:=fun b H=>if b=true then te σ2 H (kC3 D ys N) else N ys H
def kC1 (k:Nat) (tt:TT) (te:TE) (σ:St) (D:Addr) (ys:List V) (N:List V->Hp->Prop):St->Hp->Prop:=fun σ2 H=>(∃ vs:St,vs.length=k∧σ2=vs++σ)∧tt σ2 H (kC2 te σ2 D ys N)
theorem m_tYes (σ:St) (H:Hp) (Q:Bool->Hp->Prop):tYes σ H Q=Q true H:=rfl
def kComp (k:Nat) (g:TG) (tt:TT) (te:TE) (σ:St) (Q:VK):It->Hp->Prop:=fun J H1=>∀ D,H1 D=none->∃ W:Nat->Nat->List V->Hp->Prop,(∃ m,W 0 m [] (upd H1 D (.lst [])))∧∀ i m ys H,W i m ys H →
 (J.stop i H∧Q (.ref D) H)∨(J.go i H∧∃ N:List V->Hp->Prop,(∀ ys' H',N ys' H'->∃ m',m' < m∧W (i+1) m' ys' H') ∧
  ∀ x H',J.yld i H x H'->g x (List.replicate k none++σ) H' (kC1 k tt te σ D ys N))
theorem m_tComp (k:Nat) (wi:TI) (g:TG) (tt:TT) (te:TE) (σ:St) (H:Hp) (Q:VK):tComp k wi g tt te σ H Q=wi σ H (kComp k g tt te σ Q):=rfl
def kSetC (i:Nat) (σ:St) (nx:St->Hp->Prop):VK:=fun x H=>gName i x σ H nx
theorem m_kSetC (i:Nat) (σ:St) (nx:St->Hp->Prop) (x:V) (H:Hp):kSetC i σ nx x H=gName i x σ H nx:=rfl
theorem m_tSetC (i:Nat) (te:TE) (nx:St->Hp->Prop) (rt:VK) (bk ct:St->Hp->Prop) (σ:St) (H:Hp):tSetC i te ⟨nx,rt,bk,ct⟩ σ H=te σ H (kSetC i σ nx):=rfl
section
variable {k:Nat}{g:TG}{tt:TT}{te:TE}{σ:St}{Q:VK}{H:Hp}{K:PySem.W.Frag}
end
def allSome {α:Type}:List (Option α)->Option (List α)
 | []=>some []
 | o::r=>o.bind fun x=>(allSome r).map fun xs=>x::xs
def datO (f:V->Option PyData):HO->Option PyData
 | .lst xs=>(allSome (xs.map f)).map .list
 | .tup xs=>(allSome (xs.map f)).map .tuple
 | _=>none
def datF (H:Hp) (f:V->Option PyData):V->Option PyData
 | .non=>some .none
 | .bl b=>some (.bool b)
 | .int i=>some (.int i)
 | .str z=>if PyData.strOk z=true then some (.str z) else none
 | .ref p=>(H p).bind (datO f)
 | _=>none
def datV (H:Hp):Nat->V->Option PyData
 | 0,_=>none
 | n+1,x=>datF H (datV H n) x
def noD:V->Option PyData:=fun _=>none
theorem m_datV (H:Hp) (x:V):datV H 6 x=datF H (datF H (datF H (datF H (datF H (datF H noD))))) x:=rfl
theorem m_datV_str (H:Hp) (n:Nat) (z:Str):datV H (n+1) (.str z)=if PyData.strOk z=true then some (.str z) else none:=rfl
theorem m_datV_ref (H:Hp) (n:Nat) (p:Addr):datV H (n+1) (.ref p)=(H p).bind (datO (datV H n)):=rfl
theorem m_datF_int (H:Hp) (f:V->Option PyData) (i:Int):datF H f (.int i)=some (.int i):=rfl
theorem m_datF_str (H:Hp) (f:V->Option PyData) (z:Str):datF H f (.str z)=if PyData.strOk z=true then some (.str z) else none:=rfl
theorem m_datF_ref (H:Hp) (f:V->Option PyData) (p:Addr):datF H f (.ref p)=(H p).bind (datO f):=rfl
theorem m_datO_lst (f:V->Option PyData) (xs:List V):datO f (.lst xs)=(allSome (xs.map f)).map .list:=rfl
theorem m_datO_tup (f:V->Option PyData) (xs:List V):datO f (.tup xs)=(allSome (xs.map f)).map .tuple:=rfl
theorem m_allSome_nil {α:Type}:allSome ([]:List (Option α))=some []:=rfl
theorem m_allSome_cons {α:Type}(x:α) (r:List (Option α)):allSome (some x::r)=(allSome r).map fun xs=>x::xs:=rfl
theorem allSome_ints (H:Hp) (f:V->Option PyData):∀ ns:List Int,allSome ((ns.map V.int).map (datF H f))=some (ns.map PyData.int)
 | []=>rfl
 | i::r=>by
  show (allSome ((r.map V.int).map (datF H f))).map _=_
  rw [allSome_ints H f r];rfl
theorem datVs_ok {K:PySem.W.Frag}{H:Hp}{n:Nat}(ih:∀ x d,datV H n x=some d->DatV K H x d∧d.canLay0=true∧d.depth≤n):∀ (xs:List V) (ds:List PyData),allSome (xs.map (datV H n))=some ds->DatVs K H xs ds∧PyData.canLayAll0 ds=true∧PyData.depthAll ds≤n
 | [],ds,h=>by cases h;exact ⟨.nil,rfl,Nat.zero_le _⟩
 | x::xs,ds,h=>by
  have h':(datV H n x).bind (fun d=>(allSome (xs.map (datV H n))).map fun ds=>d::ds)=some ds:=h
  cases e:datV H n x with
  | none=>rw [e] at h';cases h'
  | some d=>
   rw [e] at h'
   have h2:(allSome (xs.map (datV H n))).map (fun ds=>d::ds)=some ds:=h'
   cases e2:allSome (xs.map (datV H n)) with
   | none=>rw [e2] at h2;cases h2
   | some es=>
    rw [e2] at h2
    cases h2
    obtain ⟨a,b,c⟩:=ih x d e
    obtain ⟨a',b',c'⟩:=datVs_ok ih xs es e2
    exact ⟨.cons a a',by simp [PyData.canLayAll0,b,b'],by simp only [PyData.depthAll];omega⟩
theorem datV_ok {K:PySem.W.Frag}{H:Hp}:∀ (n:Nat) (x:V) (d:PyData),datV H n x=some d->DatV K H x d∧d.canLay0=true∧d.depth≤n
 | 0,x,d,h=>by cases h
 | n+1,x,d,h=>by
  cases x with
  | non=>cases h;exact ⟨.non,rfl,Nat.zero_le _⟩
  | bl b=>cases h;exact ⟨.bl b,rfl,Nat.zero_le _⟩
  | int i=>cases h;exact ⟨.int i,rfl,Nat.zero_le _⟩
  | str z=>
   rw [m_datV_str] at h
   split at h
   ·rename_i hz;cases h;exact ⟨.str z,by simpa [PyData.canLay0] using hz,Nat.zero_le _⟩
   ·cases h
  | ref p=>
   rw [m_datV_ref] at h
   cases e:H p with
   | none=>rw [e] at h;cases h
   | some o=>
    rw [e] at h
    have h':datO (datV H n) o=some d:=h
    cases o with
    | lst xs=>
     rw [m_datO_lst] at h'
     cases e2:allSome (xs.map (datV H n)) with
     | none=>rw [e2] at h';cases h'
     | some ds=>
      rw [e2] at h';cases h'
      obtain ⟨a,b,c⟩:=datVs_ok (K:=K) (datV_ok n) xs ds e2
      exact ⟨.lst (SqL.of e) a,by simpa [PyData.canLay0] using b,by simp only [PyData.depth];omega⟩
    | tup xs=>
     rw [m_datO_tup] at h'
     cases e2:allSome (xs.map (datV H n)) with
     | none=>rw [e2] at h';cases h'
     | some ds=>
      rw [e2] at h';cases h'
      obtain ⟨a,b,c⟩:=datVs_ok (K:=K) (datV_ok n) xs ds e2
      exact ⟨.tup (SqT.of e) a,by simpa [PyData.canLay0] using b,by simp only [PyData.depth];omega⟩
    | _=>cases h'
  | _=>cases h
theorem datV_shaped {K:PySem.W.Frag}{H:Hp}{n:Nat}{x:V}{d:PyData}(hn:n≤64) (h:datV H n x=some d):DatV K H x d∧SeqAt.shaped d=true:=by
 obtain ⟨a,b,c⟩:=datV_ok (K:=K) n x d h
 refine ⟨a,?_⟩
 unfold SeqAt.shaped
 rw [b,decide_eq_true (show d.depth≤64 by omega)]
 rfl
def kEq2 (neg:Bool) (H:Hp) (Q:VK) (d:PyData):PyData->Prop:=fun e=>Q (.bl (if neg=true then !PyData.eqv d e else PyData.eqv d e)) H
theorem m_kEq2_t (H:Hp) (Q:VK) (d e:PyData):kEq2 true H Q d e=Q (.bl (!PyData.eqv d e)) H:=rfl
theorem m_kEq2_f (H:Hp) (Q:VK) (d e:PyData):kEq2 false H Q d e=Q (.bl (PyData.eqv d e)) H:=rfl
def kEq1 (neg:Bool) (y:V) (H:Hp) (Q:VK):PyData->Prop:=fun d=>optK (datV H 6 y) (kEq2 neg H Q d)
theorem m_kEq1 (neg:Bool) (y:V) (H:Hp) (Q:VK) (d:PyData):kEq1 neg y H Q d=optK (datV H 6 y) (kEq2 neg H Q d):=rfl
def qEq (neg:Bool):R2:=fun x y H Q=>if scal x y=true then Q (.bl (if neg=true then !decide (x=y) else decide (x=y))) H else optK (datV H 6 x) (kEq1 neg y H Q)
theorem m_qEq_refr (neg:Bool) (p:Addr) (x:V) (H:Hp) (Q:VK):qEq neg x (.ref p) H Q=optK (datV H 6 x) (kEq1 neg (.ref p) H Q):=by
 show (if scal x (.ref p)=true then _ else _)=_
 rw [if_neg (by cases x<;>exact Bool.false_ne_true)]
theorem m_qEq_int_int (i:Int) (j:Int) (H:Hp) (Q:VK):qEq false (V.int i) (V.int j) H Q=Q (.bl (decide (i=j))) H:=by
 have e:decide (((V.int i):V)=(V.int j))=decide (i=j):=by simp
 show Q (.bl (if false=true then !decide ((V.int i)=(V.int j)) else decide ((V.int i)=(V.int j)))) H=_
 rw [e];rfl
theorem m_qNe_int_int (i:Int) (j:Int) (H:Hp) (Q:VK):qEq true (V.int i) (V.int j) H Q=Q (.bl (!decide (i=j))) H:=by
 have e:decide (((V.int i):V)=(V.int j))=decide (i=j):=by simp
 show Q (.bl (if true=true then !decide ((V.int i)=(V.int j)) else decide ((V.int i)=(V.int j)))) H=_
 rw [e];rfl
theorem m_qEq_str_str (i:Str) (j:Str) (H:Hp) (Q:VK):qEq false (V.str i) (V.str j) H Q=Q (.bl (decide (i=j))) H:=by
 have e:decide (((V.str i):V)=(V.str j))=decide (i=j):=by simp
 show Q (.bl (if false=true then !decide ((V.str i)=(V.str j)) else decide ((V.str i)=(V.str j)))) H=_
 rw [e];rfl
theorem m_qNe_str_str (i:Str) (j:Str) (H:Hp) (Q:VK):qEq true (V.str i) (V.str j) H Q=Q (.bl (!decide (i=j))) H:=by
 have e:decide (((V.str i):V)=(V.str j))=decide (i=j):=by simp
 show Q (.bl (if true=true then !decide ((V.str i)=(V.str j)) else decide ((V.str i)=(V.str j)))) H=_
 rw [e];rfl
section
variable {X:Cx}
theorem op_qEq (hu:X.A.units+64 < cLine):OpR X (compareOp .Eq) (qEq false):=by
 refine (op_eq.or (op_eqD hu)).mono fun x y H Q h=>?_
 unfold qEq at h
 split at h
 ·rename_i hs;exact .inl ⟨hs,h⟩
 obtain ⟨d,e1,h⟩:=optK_ex h
 obtain ⟨e,e2,h⟩:=optK_ex h
 obtain ⟨a,b⟩:=datV_shaped (K:=X.K) (by decide) e1
 obtain ⟨a',b'⟩:=datV_shaped (K:=X.K) (by decide) e2
 exact .inr ⟨d,e,a,a',b,b',h⟩
theorem op_qNe (hu:X.A.units+64 < cLine):OpR X (compareOp .NotEq) (qEq true):=by
 refine (op_ne.or (op_neD hu)).mono fun x y H Q h=>?_
 unfold qEq at h
 split at h
 ·rename_i hs;exact .inl ⟨hs,h⟩
 obtain ⟨d,e1,h⟩:=optK_ex h
 obtain ⟨e,e2,h⟩:=optK_ex h
 obtain ⟨a,b⟩:=datV_shaped (K:=X.K) (by decide) e1
 obtain ⟨a',b'⟩:=datV_shaped (K:=X.K) (by decide) e2
 exact .inr ⟨d,e,a,a',b,b',h⟩
end
theorem eqv_int (i j:Int):PyData.eqv (.int i) (.int j)=decide (i=j):=Bool.beq_eq_decide_eq i j
theorem eqv_str (i j:Str):PyData.eqv (.str i) (.str j)=(i == j):=rfl
theorem eqv_tuple (xs ys:List PyData):PyData.eqv (.tuple xs) (.tuple ys)=PyData.eqvAll xs ys:=by simp only [PyData.eqv]
theorem eqv_list (xs ys:List PyData):PyData.eqv (.list xs) (.list ys)=PyData.eqvAll xs ys:=by simp only [PyData.eqv]
theorem eqvAll_nil:PyData.eqvAll [] []=true:=by simp only [PyData.eqvAll]
theorem eqvAll_cons (x y:PyData) (xs ys:List PyData):PyData.eqvAll (x::xs) (y::ys)=(PyData.eqv x y && PyData.eqvAll xs ys):=by simp only [PyData.eqvAll]
theorem eqvAll_l (x:PyData) (xs:List PyData):PyData.eqvAll (x::xs) []=false:=by simp only [PyData.eqvAll]
theorem eqvAll_r (x:PyData) (xs:List PyData):PyData.eqvAll [] (x::xs)=false:=by simp only [PyData.eqvAll]
theorem eqvAll_ints:∀ ns ms:List Int,PyData.eqvAll (ns.map PyData.int) (ms.map PyData.int)=decide (ns=ms)
 | [],[]=>by rw [List.map_nil,eqvAll_nil];rfl
 | [],_::_=>by rw [List.map_nil,List.map_cons,eqvAll_r];rfl
 | _::_,[]=>by rw [List.map_nil,List.map_cons,eqvAll_l];rfl
 | i::r,j::t=>by
  rw [List.map_cons,List.map_cons,eqvAll_cons,eqv_int,eqvAll_ints r t]
  by_cases h:i=j<;>by_cases h2:r=t<;>simp [h,h2]
end L2
set_option Elab.async false
set_option linter.all false
set_option maxRecDepth 100000
set_option maxHeartbeats 4000000
namespace L2
open PySem PySem.Spec PyProof.Rows
theorem CDiv_eq (i j:Int):CDiv i j=(0 < j∧j < 1073741824):=rfl
theorem CMul_l (i j:Int) (h:-18446744073709551616 < i) (h':i < 18446744073709551616):CMul i j=True:=eq_true (.inl ⟨by omega,by omega⟩)
theorem CMul_r (i j:Int) (h:-18446744073709551616 < j) (h':j < 18446744073709551616):CMul i j=True:=eq_true (.inr ⟨by omega,by omega⟩)
theorem CPow_10 (j:Int):CPow 10 j=(0≤j∧j≤1000000):=propext ⟨fun h=>⟨h.1,h.2.1⟩,fun h=>⟨h.1,h.2,by decide⟩⟩
theorem lenLe (n:Nat) (h:n≤1000):(n≤sizeLine)=True:=eq_true (Nat.le_of_lt (small1000 h))
theorem Ext.of {H H':Hp}(h:∀ a,(H a).isSome=true->H' a=H a):Ext H H':=⟨h,fun K a xs q=>by
 have s:Same H H':=fun b o e=>(h b (by rw [e];rfl)).trans e
 exact s.seq q⟩
theorem Ext.same {H H':Hp}(h:Ext H H'):Same H H':=fun b o e=>(h.1 b (by rw [e];rfl)).trans e
theorem Same.ext {H H':Hp}(h:Same H H'):Ext H H':=Ext.of fun a q=>by
 cases e:H a with
 | none=>rw [e] at q;cases q
 | some o=>exact h a o e
theorem Ext.refl (H:Hp):Ext H H:=(Same.refl H).ext
theorem Ext.trans {H H1 H2:Hp}(a:Ext H H1) (b:Ext H1 H2):Ext H H2:=(a.same.trans b.same).ext
theorem Ext.new {H:Hp}{p:Addr}{o:HO}(h:H p=none):Ext H (upd H p o):=(same_upd h).ext
theorem Ext.put {H H1:Hp}{p:Addr}{o:HO}(a:Ext H H1) (h:H p=none):Ext H (upd H1 p o):=Same.ext fun b u e=>by
 rw [upd_ne (ne_of_none e h)];exact a.same b u e
theorem Ext.free {H H1:Hp}{p:Addr}(a:Ext H H1) (h:H1 p=none):H p=none:=a.same.free h
theorem Ext.at {H H1:Hp}{p:Addr}{o:HO}(a:Ext H H1) (h:H p=some o):H1 p=some o:=a.same _ _ h
theorem cx_K (CX:CXT) (P:Program) (w:World) (K:PySem.W.Frag) (mg:Str->Option Value) (base:Heap) (N:List Str) (qual:Str) (scope:Scope) (f:Addr) (cd:Value) (A:Around) (outer:List Env) (s:Shared) (H:Hp) (E:XK):(cxOf CX P w K mg base N qual scope f cd A outer s H E).K=K:=rfl
theorem map_toNat_inj:∀ {a b:List Char},a.map Char.toNat=b.map Char.toNat->a=b
 | [],[],_=>rfl
 | [],_::_,h=>by cases h
 | _::_,[],h=>by cases h
 | x::r,y::q,h=>by
  simp only [List.map_cons,List.cons.injEq] at h
  have e:x=y:=by
   have z:x.val.toNat=y.val.toNat:=h.1
   exact Char.ext (UInt32.toNat_inj.mp z)
  rw [e,map_toNat_inj h.2]
theorem ofString_inj (a b:String):(Str.ofString a=Str.ofString b)=(a=b):=by
 refine propext ⟨fun h=>?_,fun h=>by rw [h]⟩
 rw [Str.ofString_eq_toList,Str.ofString_eq_toList] at h
 have e:(a.toList.map Char.toNat).toArray=(b.toList.map Char.toNat).toArray:=congrArg Str.cps h
 have e2:=map_toNat_inj (congrArg Array.toList e)
 exact String.ext e2
def isW (H:Hp):V->Option Bool
 | .int _=>some true
 | .bl _=>some false
 | .non=>some false
 | .str _=>some false
 | .ref p=>((H p).bind tyO).map fun _=>false
 | _=>none
theorem isW_int' (H:Hp) (i:Int):isW H (.int i)=some true:=rfl
theorem isW_ref' (H:Hp) (p:Addr):isW H (.ref p)=((H p).bind tyO).map fun _=>false:=rfl
theorem isW_obj {H:Hp}{p:Addr}{b:Bool}(h:isW H (.ref p)=some b):b=false∧∃ o,H p=some o∧(tyO o=some "list" ∨ tyO o=some "tuple" ∨ tyO o=some "dict"):=by
 rw [isW_ref'] at h
 cases e:H p with
 | none=>rw [e] at h;cases h
 | some o=>
  rw [e] at h
  have h':(tyO o).map (fun _=>false)=some b:=h
  cases e2:tyO o with
  | none=>rw [e2] at h';cases h'
  | some t=>
   rw [e2] at h';cases h'
   refine ⟨rfl,o,rfl,?_⟩
   cases o with
   | lst xs=>exact .inl rfl
   | tup xs=>exact .inr (.inl rfl)
   | dK xs=>exact .inr (.inr rfl)
   | dT xs=>exact .inr (.inr rfl)
   | frz ob u=>cases u with
    | lst xs=>exact .inl rfl
    | _=>cases e2
   | _=>cases e2
end L2
set_option Elab.async false
set_option linter.all false
set_option maxRecDepth 100000
set_option maxHeartbeats 4000000
namespace L2
open PySem PySem.Spec PyProof.Rows
def ME (t:TE):Prop:=∀ σ H (Q Q':VK),(∀ v H,Q v H->Q' v H)->t σ H Q->t σ H Q'
def MT (t:TT):Prop:=∀ σ H (Q Q':Bool->Hp->Prop),(∀ b H,Q b H->Q' b H)->t σ H Q->t σ H Q'
def MA (t:TA):Prop:=∀ σ H (Q Q':List V->Hp->Prop),(∀ b H,Q b H->Q' b H)->t σ H Q->t σ H Q'
def MR (r:R2):Prop:=∀ x y H (Q Q':VK),(∀ v H,Q v H->Q' v H)->r x y H Q->r x y H Q'
def MC (r:List V->Hp->VK->Prop):Prop:=∀ x H (Q Q':VK),(∀ v H,Q v H->Q' v H)->r x H Q->r x H Q'
theorem optK_mono {α:Type}{o:Option α}{k k':α->Prop}(m:∀ x,k x->k' x) (h:optK o k):optK o k':=by
 obtain ⟨x,e,q⟩:=optK_ex h
 rw [e];exact m x q
theorem mo_var {i:Nat}:ME (tVar i):=fun σ H Q Q' m ⟨v,e,q⟩=>⟨v,e,m _ _ q⟩
theorem mo_c {v:V}:ME (tC v):=fun σ H Q Q' m q=>m _ _ q
theorem mo_op {r:R2}{a b:TE}(hr:MR r) (ha:ME a) (hb:ME b):ME (tOp r a b):=fun σ H Q Q' m q=>ha σ H _ _ (fun _ _ q=>hb σ _ _ _ (fun _ _ q=>hr _ _ _ _ _ m q) q) q
theorem mo_rI0 {g:Int->Int->V}:MR (rI0 g):=fun x y H Q Q' m ⟨i,j,e,e',q⟩=>⟨i,j,e,e',m _ _ q⟩
theorem mo_qEq {n:Bool}:MR (qEq n):=fun x y H Q Q' m q=>by
 unfold qEq at q ⊢
 by_cases hs:scal x y=true
 ·rw [if_pos hs] at q ⊢;exact m _ _ q
 ·rw [if_neg hs] at q ⊢;exact optK_mono (fun _ q=>optK_mono (fun _ q=>m _ _ q) q) q
theorem mo_nil:MA tNil:=fun σ H Q Q' m q=>m _ _ q
theorem mo_cons {a:TE}{r:TA}(ha:ME a) (hr:MA r):MA (tCons a r):=fun σ H Q Q' m q=>ha σ H _ _ (fun _ _ q=>hr σ _ _ _ (fun _ _ q=>m _ _ q) q) q
theorem mo_cb {r:List V->Hp->VK->Prop}{t:TA}(hr:MC r) (ht:MA t):ME (tCB r t):=fun σ H Q Q' m q=>ht σ H _ _ (fun _ _ q=>hr _ _ _ _ m q) q
theorem mo_qLen:MC qLen:=fun x H Q Q' m q=>by
 unfold qLen at q ⊢
 split at q
 ·exact optK_mono (fun _ q=>m _ _ q) q
 ·exact ⟨q.1,m _ _ q.2⟩
 ·exact q.elim
theorem mo_test {t:TE}(h:ME t):MT (tTest t):=fun σ H Q Q' m q=>h σ H _ _ (fun _ _ ⟨k,e,q⟩=>⟨k,e,m _ _ q⟩) q
theorem while_w {c:TT}{tb:TS}{nx:St->Hp->Prop}{rt:VK}{bk ct:St->Hp->Prop}{σ:St}{H:Hp}(mono:MT c) (Pv:Nat->St->Hp->Prop) (m0:Nat) (h0:Pv m0 σ H)
  (hs:∀ m σ H,Pv m σ H->c σ H (kWh tb nx rt Pv m σ)):tWhile c tb ⟨nx,rt,bk,ct⟩ σ H:=while_m Pv m0 h0 (fun σ H Q Q'=>mono σ H Q Q') hs
theorem ints_inj:∀ {ns ms:List Int},ns.map V.int=ms.map V.int->ns=ms
 | [],[],_=>rfl
 | [],_::_,h=>by cases h
 | _::_,[],h=>by cases h
 | i::r,j::t,h=>by
  simp only [List.map_cons,List.cons.injEq,V.int.injEq] at h
  rw [h.1,ints_inj h.2]
def kInts (F:List Int->Prop):List V->Prop:=fun xs=>∃ ns,xs=ns.map V.int∧F ns
theorem m_kInts (F:List Int->Prop) (ns:List Int):kInts F (ns.map V.int)=F ns:=propext ⟨fun ⟨ms,e,h⟩=>by rw [ints_inj e];exact h,fun h=>⟨ns,rfl,h⟩⟩
theorem cut_none (xs:List V) (z:Int) (h:0≤z):cutV xs none (some z)=xs.take z.toNat:=by
 unfold cutV
 rw [HT.sIx_none,List.drop_zero,Nat.sub_zero]
 obtain ⟨n,rfl⟩:=Int.eq_ofNat_of_zero_le h
 rw [HT.sIx_nat]
 show _=xs.take n
 rcases Nat.le_total n xs.length with q|q
 ·rw [Nat.min_eq_left q]
 ·rw [Nat.min_eq_right q,List.take_of_length_le (Nat.le_refl _),List.take_of_length_le q]
def kSlN (lo hi:Option Int) (H:Hp) (Q:VK):List V->Prop:=fun xs=>∀ p,H p=none->Q (.ref p) (upd H p (.lst (cutV xs lo hi)))
def qSlL:V->Option Int->Option Int->Hp->VK->Prop:=fun x lo hi H Q=>match x with
 | .ref a=>optK (lstAt H a) (kSlN lo hi H Q)
 | _=>False
theorem sl_q {X:Cx}:SlR X qSlL:=sl_list.mono fun x lo hi H Q h=>by
 unfold qSlL at h
 split at h
 ·rename_i a
  obtain ⟨xs,e,q⟩:=optK_ex h
  exact ⟨a,xs,rfl,SqL.of (lst_of e),q⟩
 ·exact h.elim
def kSl3 (r:V->Option Int->Option Int->Hp->VK->Prop) (x:V) (l:Option Int) (Q:VK):Option Int->Hp->Prop:=fun u H=>r x l u H Q
theorem m_kSl3 (r:V->Option Int->Option Int->Hp->VK->Prop) (x:V) (l:Option Int) (Q:VK) (u:Option Int) (H:Hp):kSl3 r x l Q u H=r x l u H Q:=rfl
def kSl2 (r:V->Option Int->Option Int->Hp->VK->Prop) (th:TO) (σ:St) (x:V) (Q:VK):Option Int->Hp->Prop:=fun l H=>th σ H (kSl3 r x l Q)
theorem m_kSl2 (r:V->Option Int->Option Int->Hp->VK->Prop) (th:TO) (σ:St) (x:V) (Q:VK) (l:Option Int) (H:Hp):kSl2 r th σ x Q l H=th σ H (kSl3 r x l Q):=rfl
def kSl1 (r:V->Option Int->Option Int->Hp->VK->Prop) (tl th:TO) (σ:St) (Q:VK):VK:=fun x H=>tl σ H (kSl2 r th σ x Q)
theorem m_kSl1 (r:V->Option Int->Option Int->Hp->VK->Prop) (tl th:TO) (σ:St) (Q:VK) (x:V) (H:Hp):kSl1 r tl th σ Q x H=tl σ H (kSl2 r th σ x Q):=rfl
theorem m_tSl (r:V->Option Int->Option Int->Hp->VK->Prop) (te:TE) (tl th:TO) (σ:St) (H:Hp) (Q:VK):tSl r te tl th σ H Q=te σ H (kSl1 r tl th σ Q):=rfl
theorem m_tNoPart (σ:St) (H:Hp) (Q:Option Int->Hp->Prop):tNoPart σ H Q=Q none H:=rfl
def kPart (Q:Option Int->Hp->Prop):VK:=fun x H=>∃ i,x=.int i∧Q (some i) H
theorem m_kPart (Q:Option Int->Hp->Prop) (i:Int) (H:Hp):kPart Q (.int i) H=Q (some i) H:=propext ⟨fun ⟨_,e,q⟩=>by cases e;exact q,fun q=>⟨i,rfl,q⟩⟩
theorem m_tPart (t:TE) (σ:St) (H:Hp) (Q:Option Int->Hp->Prop):tPart t σ H Q=t σ H (kPart Q):=rfl
end L2
set_option Elab.async false
set_option linter.all false
set_option maxRecDepth 100000
set_option maxHeartbeats 4000000
namespace L2
open PySem PySem.Spec PyProof.Rows
def newK (o:HO) (H:Hp) (Q:VK):Prop:=∀ (p:Addr) (H':Hp),H p=none->Ext H H'->H' p=some o->Q (.ref p) H'
theorem newK.to {o:HO}{H:Hp}{Q:VK}(h:newK o H Q):∀ p,H p=none->Q (.ref p) (upd H p o):=fun p hp=>h p _ hp (Ext.new hp) upd_same
def kQT (Q:VK):List V->Hp->Prop:=fun xs H=>xs.length≤sizeLine∧newK (.tup xs) H Q
theorem m_kQT (Q:VK) (xs:List V) (H:Hp):kQT Q xs H=(xs.length≤sizeLine∧newK (.tup xs) H Q):=rfl
def kQL (Q:VK):List V->Hp->Prop:=fun xs H=>xs.length≤sizeLine∧newK (.lst xs) H Q
theorem m_kQL (Q:VK) (xs:List V) (H:Hp):kQL Q xs H=(xs.length≤sizeLine∧newK (.lst xs) H Q):=rfl
def qTup (t:TA):TE:=fun σ H Q=>t σ H (kQT Q)
theorem m_qTup (t:TA) (σ:St) (H:Hp) (Q:VK):qTup t σ H Q=t σ H (kQT Q):=rfl
def qLst (t:TA):TE:=fun σ H Q=>t σ H (kQL Q)
theorem m_qLst (t:TA) (σ:St) (H:Hp) (Q:VK):qLst t σ H Q=t σ H (kQL Q):=rfl
section
variable {X:Cx}{es:List Expr}{t:TA}{pos:Pos}
theorem pe_qTup {x1}(h:PA X es t):PE X (.Tuple es x1 pos) (qTup t):=by
 intro pins s σ H Q I hq
 refine wpAny_Tuple_spliced (thn (h pos pins s σ H _ I hq) fun us s1 ⟨xs,H1,I1,r,z,q⟩=>⟨by rw [←r.length];exact z,?_⟩)
 have hf:H1 s1.heap.objs.size=none:=I1.hok.fresh (Nat.le_refl _)
 refine ⟨.ref s1.heap.objs.size,upd H1 s1.heap.objs.size (.tup xs),I1.laid (t':=s1.toks) (fun b u e=>Heap.get?_push_of_some _ e) (Nat.le_refl _) ?_,rfl,q.to _ hf⟩
 exact ⟨z,us,r,⟨_,Heap.get?_push_size _ rfl,rfl,_,rfl⟩⟩
theorem pe_qLst (h:PA X es t):PE X (.List es pos) (qLst t):=by
 intro pins s σ H Q I hq
 refine wpAny_List_spliced (thn (h pos pins s σ H _ I hq) fun us s1 ⟨xs,H1,I1,r,z,q⟩=>⟨by rw [←r.length];exact z,?_⟩)
 have hf:H1 s1.heap.objs.size=none:=I1.hok.fresh (Nat.le_refl _)
 refine ⟨.ref s1.heap.objs.size,upd H1 s1.heap.objs.size (.lst xs),I1.laid (t':=s1.toks) (fun b u e=>Heap.get?_push_of_some _ e) (Nat.le_refl _) ?_,rfl,q.to _ hf⟩
 exact ⟨z,us,0,r,Heap.get?_push_size _ rfl⟩
end
def kN (f:List V->HO) (H:Hp) (Q:VK):List V->Prop:=fun ys=>newK (f ys) H Q
theorem m_kN (f:List V->HO) (H:Hp) (Q:VK) (ys:List V):kN f H Q ys=newK (f ys) H Q:=rfl
def nList (xs:List V) (H:Hp) (Q:VK):Prop:=match xs with
 | [.ref p]=>optK (itemsAt H p) (kN .lst H Q)
 | _=>False
theorem m_nList (p:Addr) (H:Hp) (Q:VK):nList [.ref p] H Q=optK (itemsAt H p) (kN .lst H Q):=rfl
theorem call_nList {X:Cx}:CallR X (.type "list") nList:=call_qList.mono fun xs H Q h=>by
 unfold nList at h
 split at h
 ·exact optK_mono (fun _ q=>q.to) h
 ·exact h.elim
def kNT (p:Addr) (H:Hp) (Q:VK):HO->Prop:=fun o=>match o with
 | .lst ys=>newK (.tup ys) H Q
 | .tup _=>Q (.ref p) H
 | _=>False
theorem m_kNT_l (p:Addr) (H:Hp) (Q:VK) (ys:List V):kNT p H Q (.lst ys)=newK (.tup ys) H Q:=rfl
def nTuple (xs:List V) (H:Hp) (Q:VK):Prop:=match xs with
 | [.ref p]=>optK (H p) (kNT p H Q)
 | _=>False
theorem m_nTuple (p:Addr) (H:Hp) (Q:VK):nTuple [.ref p] H Q=optK (H p) (kNT p H Q):=rfl
theorem call_nTuple {X:Cx}:CallR X (.type "tuple") nTuple:=call_qTuple.mono fun xs H Q h=>by
 unfold nTuple at h
 split at h
 ·refine optK_mono (fun o q=>?_) h
  unfold kNT at q
  unfold kTupO
  split at q
  ·exact q.to
  ·exact q
  ·exact q.elim
 ·exact h.elim
def kNC2 (xs:List V) (H:Hp) (Q:VK):List V->Prop:=fun ys=>xs.length+ys.length≤sizeLine∧newK (.lst (xs++ys)) H Q
theorem m_kNC2 (xs:List V) (H:Hp) (Q:VK) (ys:List V):kNC2 xs H Q ys=(xs.length+ys.length≤sizeLine∧newK (.lst (xs++ys)) H Q):=rfl
def kNC1 (b:Addr) (H:Hp) (Q:VK):List V->Prop:=fun xs=>optK (lstAt H b) (kNC2 xs H Q)
theorem m_kNC1 (b:Addr) (H:Hp) (Q:VK) (xs:List V):kNC1 b H Q xs=optK (lstAt H b) (kNC2 xs H Q):=rfl
def nCat:R2:=fun x y H Q=>match x,y with
 | .ref l,.ref b=>optK (lstAt H l) (kNC1 b H Q)
 | _,_=>False
theorem m_nCat (l b:Addr) (H:Hp) (Q:VK):nCat (.ref l) (.ref b) H Q=optK (lstAt H l) (kNC1 b H Q):=rfl
theorem op_nCat {X:Cx}:OpR X (binaryOp .Add) nCat:=op_cat.mono fun x y H Q h=>by
 unfold nCat at h
 split at h
 ·rw [m_rCat]
  exact optK_mono (fun _ q=>optK_mono (fun _ q=>⟨q.1,q.2.to⟩) q) h
 ·exact h.elim
def kNS (lo hi:Option Int) (H:Hp) (Q:VK):List V->Prop:=fun xs=>newK (.lst (cutV xs lo hi)) H Q
theorem m_kNS (lo hi:Option Int) (H:Hp) (Q:VK) (xs:List V):kNS lo hi H Q xs=newK (.lst (cutV xs lo hi)) H Q:=rfl
def nSl:V->Option Int->Option Int->Hp->VK->Prop:=fun x lo hi H Q=>match x with
 | .ref a=>optK (lstAt H a) (kNS lo hi H Q)
 | _=>False
theorem m_nSl (a:Addr) (lo hi:Option Int) (H:Hp) (Q:VK):nSl (.ref a) lo hi H Q=optK (lstAt H a) (kNS lo hi H Q):=rfl
theorem sl_n {X:Cx}:SlR X nSl:=sl_q.mono fun x lo hi H Q h=>by
 unfold nSl at h
 split at h
 ·exact optK_mono (fun _ q=>q.to) h
 ·exact h.elim
theorem PE.mono {X:Cx}{e:Expr}{t t':TE}(h:PE X e t) (m:∀ σ H Q,t' σ H Q->t σ H Q):PE X e t':=fun pins s σ H Q I q=>h pins s σ H Q I (m _ _ _ q)
def nDNew:TE:=fun _ H Q=>newK (.dK []) H Q
theorem m_nDNew (σ:St) (H:Hp) (Q:VK):nDNew σ H Q=newK (.dK []) H Q:=rfl
theorem pe_nDNew {X:Cx}{pos:Pos}:PE X (.Dict [] [] pos) nDNew:=pe_dnewK.mono fun _ _ _ h=>h.to
end L2
set_option Elab.async false
set_option linter.all false
set_option maxRecDepth 100000
set_option maxHeartbeats 4000000
namespace L2
open PySem PySem.Spec PyProof.Rows
section
variable {prog:Program}{w:World}{A:Around}{E:Value->Shared->Prop}{s:Shared}
end
section
variable {X:Cx}{pos:Pos}
end
end L2
set_option Elab.async false
set_option linter.all false
set_option maxRecDepth 100000
set_option maxHeartbeats 4000000
namespace L2
open PySem PySem.Spec PyProof.Rows
section
variable {X:Cx}{tg:Expr}
end
end L2
set_option Elab.async false
set_option linter.all false
set_option maxRecDepth 100000
set_option maxHeartbeats 4000000
namespace L2
open PySem PySem.Spec PyProof.Rows
theorem preSum_ints:∀ (n:Nat) (ns:List Int) (val:Nat->Int),(∀ i,val i=ns.getD i 0)->n≤ns.length->preSum val n=(ns.take n).sum
 | 0,ns,val,h,hl=>by simp [preSum]
 | n+1,ns,val,h,hl=>by
  have ih:=preSum_ints n ns val h (by omega)
  have e:ns.take (n+1)=ns.take n++[ns.getD n 0]:=by
   rw [List.take_succ,List.getElem?_eq_getElem (by omega)]
   simp [List.getD,List.getElem?_eq_getElem (show n < ns.length by omega)]
  rw [preSum,ih,e,List.sum_append,h]
  simp
def kSumI (H:Hp) (Q:VK):List Int->Prop:=fun ns=>Q (.int ns.sum) H
theorem m_kSumI (H:Hp) (Q:VK) (ns:List Int):kSumI H Q ns=Q (.int ns.sum) H:=rfl
def qSum:List V->Hp->VK->Prop:=fun vs H Q=>match vs with
 | [.ref p]=>optK (lstAt H p) (kInts (kSumI H Q))
 | _=>False
theorem m_qSum (p:Addr) (H:Hp) (Q:VK):qSum [.ref p] H Q=optK (lstAt H p) (kInts (kSumI H Q)):=rfl
def kBls (F:List Bool->Prop):List V->Prop:=fun xs=>∃ bs,xs=bs.map V.bl∧F bs
theorem bls_inj:∀ {ns ms:List Bool},ns.map V.bl=ms.map V.bl->ns=ms
 | [],[],_=>rfl
 | [],_::_,h=>by cases h
 | _::_,[],h=>by cases h
 | i::r,j::t,h=>by
  simp only [List.map_cons,List.cons.injEq,V.bl.injEq] at h
  rw [h.1,bls_inj h.2]
theorem m_kBls (F:List Bool->Prop) (bs:List Bool):kBls F (bs.map V.bl)=F bs:=propext ⟨fun ⟨ms,e,h⟩=>by rw [bls_inj e];exact h,fun h=>⟨bs,rfl,h⟩⟩
def kAllB (H:Hp) (Q:VK):List Bool->Prop:=fun bs=>Q (.bl (bs.all id)) H
theorem m_kAllB (H:Hp) (Q:VK) (bs:List Bool):kAllB H Q bs=Q (.bl (bs.all id)) H:=rfl
def qAll:List V->Hp->VK->Prop:=fun vs H Q=>match vs with
 | [.ref p]=>optK (lstAt H p) (kBls (kAllB H Q))
 | _=>False
theorem m_qAll (p:Addr) (H:Hp) (Q:VK):qAll [.ref p] H Q=optK (lstAt H p) (kBls (kAllB H Q)):=rfl
section
variable {X:Cx}
theorem call_qSum (hc:X.calm=true):CallR X (.builtin "sum") qSum:=by
 intro pins s σ H vs us Q I r h
 unfold qSum at h
 split at h
 ·rename_i p
  obtain ⟨xs,e,ns,rfl,q⟩:=optK_ex h
  cases r with
  | cons r rr=>
   cases rr
   cases r
   obtain ⟨its,rv,pl,hz⟩:=I.list (SqL.of (lst_of e))
   have hlt:p < s.heap.objs.size:=by obtain ⟨_,e,_⟩:=pl.isList;exact Heap.lt_size e
   have hlen:its.length=ns.length:=by have:=rv.length;simpa using this.symm
   refine call_sum_walkAnyS (wpAny_pyIter_list pl.isList ⟨s.heap.objs.size,_,_,_,_,_,_,fun i=>ns.getD i 0,rfl,(Walks.list (show X.A.in1.handled=none from I.ok.hd hc) _ p (Nat.ne_of_lt hlt) its.toArray).toS,⟨⟨_,Heap.get?_push_size _ rfl,rfl,rfl⟩,pl.isList.push _⟩,fun b hb=>?_,fun i v hP=>?_,fun s' t' hm=>?_⟩)
   ·rw [Heap.size_push]
    rcases List.mem_cons.mp hb with rfl|hb
    ·exact Nat.lt_succ_self _
    ·rw [List.mem_singleton.mp hb];exact Nat.lt_succ_of_lt hlt
   ·have hv:its[i]? = some v:=by simpa using hP
    have hi:i < ns.length:=by rw [←hlen];exact (List.getElem?_eq_some_iff.mp hv).1
    obtain ⟨u,hu,ru⟩:=rv.get (i:=i) (x:=.int (ns.getD i 0)) (by rw [List.getElem?_map,List.getElem?_eq_getElem hi];simp [List.getD,List.getElem?_eq_getElem hi])
    rw [hv] at hu
    cases hu
    exact ru
   ·obtain ⟨hp,g,d,tk,os⟩:=s'
    have kp:∀ b o,s.heap.get? b=some o->hp.get? b=some o:=fun b o e=>hm.heap b o (fun hmem=>by
     have:b=s.heap.objs.size:=by simpa using hmem
     subst this
     exact absurd (Heap.lt_size e) (Nat.lt_irrefl _)) (Heap.get?_push_of_some _ e)
    have e1:g=s.gens:=hm.gens
    have e2:d=s.drawn:=hm.drawn
    have e3:os=s.os:=hm.os
    subst e1 e2 e3
    refine ⟨.int ns.sum,H,I.kept (t':=tk) kp,?_,q⟩
    have es:=preSum_ints its.toArray.size ns (fun i=>ns.getD i 0) (fun _=>rfl) (by simp [hlen])
    rw [show its.toArray.size=ns.length by simp [hlen],List.take_length] at es
    rw [show its.toArray.size=ns.length by simp [hlen],es]
    exact ⟨t',rfl⟩
 ·exact h.elim
theorem all_range (bs:List Bool):(List.range bs.length).all (fun i=>bs.getD i false)=bs.all id:=by
 rw [Bool.eq_iff_iff,List.all_eq_true,List.all_eq_true]
 refine ⟨fun h x hx=>?_,fun h i hi=>?_⟩
 ·obtain ⟨i,hi,e⟩:=List.getElem_of_mem hx
  have:=h i (List.mem_range.mpr hi)
  simpa [List.getD,List.getElem?_eq_getElem hi,e] using this
 ·have hi':=List.mem_range.mp hi
  have:=h (bs[i]) (List.getElem_mem hi')
  simpa [List.getD,List.getElem?_eq_getElem hi'] using this
theorem call_qAll (hc:X.calm=true):CallR X (.builtin "all") qAll:=by
 intro pins s σ H vs us Q I r h
 unfold qAll at h
 split at h
 ·rename_i p
  obtain ⟨xs,e,bs,rfl,q⟩:=optK_ex h
  cases r with
  | cons r rr=>
   cases rr
   cases r
   obtain ⟨its,rv,pl,hz⟩:=I.list (SqL.of (lst_of e))
   have hlt:p < s.heap.objs.size:=by obtain ⟨_,e,_⟩:=pl.isList;exact Heap.lt_size e
   have hlen:its.length=bs.length:=by have:=rv.length;simpa using this.symm
   refine call_all_walk (wpAny_pyIter_list pl.isList ⟨s.heap.objs.size,_,_,_,_,_,fun i=>bs.getD i false,rfl,Walks.list (show X.A.in1.handled=none from I.ok.hd hc) _ p (Nat.ne_of_lt hlt) its.toArray,⟨⟨_,Heap.get?_push_size _ rfl,rfl,rfl⟩,pl.isList.push _⟩,fun i v s' Q' E' hP hQ=>?_,fun h' tk hk=>?_⟩)
   ·have hv:its[i]? = some v:=by simpa using hP
    have hi:i < bs.length:=by rw [←hlen];exact (List.getElem?_eq_some_iff.mp hv).1
    obtain ⟨u,hu,ru⟩:=rv.get (i:=i) (x:=.bl (bs.getD i false)) (by rw [List.getElem?_map,List.getElem?_eq_getElem hi];simp [List.getD,List.getElem?_eq_getElem hi])
    rw [hv] at hu
    cases hu
    have e2:v=.bool (bs.getD i false):=ru
    subst e2
    exact wpAny_truthy_bool hQ
   ·have kp:∀ b o,s.heap.get? b=some o->h'.get? b=some o:=fun b o e=>hk b o (fun hmem=>by
     have:b=s.heap.objs.size:=by simpa using hmem
     subst this
     exact absurd (Heap.lt_size e) (Nat.lt_irrefl _)) (Heap.get?_push_of_some _ e)
    refine ⟨.bl (bs.all id),H,I.kept (t':=tk) kp,?_,q⟩
    rw [show its.toArray.size=bs.length by simp [hlen],all_range]
    exact rfl
 ·exact h.elim
end
end L2
set_option Elab.async false
set_option linter.all false
set_option maxRecDepth 100000
set_option maxHeartbeats 4000000
namespace L2
open PySem PySem.Spec PyProof.Rows
structure Src (prog:Program) (w:World) (it:Addr) (fr:List Addr) (st:Nat->Heap->Prop) (val:Nat->Option Value):Prop where
 mem:it∈fr
 there:∀ k h,st k h->∀ b∈fr,∃ o,h.get? b=some o
 keep:∀ k h h',st k h->(∀ b∈fr,∀ o,h.get? b=some o->h'.get? b=some o)->st k h'
 item:∀ (A:Around) k s v (Q:Value->Shared->Prop) (E:Value->Shared->Prop),st k s.heap->val k=some v->(∀ h',st (k+1) h'->Heap.SameBut it s.heap h'->Q v { s with heap:=h' })->wpAny (model prog w) A (Builtin.SmallTypes.nextOf (.ref it)) Q E s
 fin:∀ (A:Around) k s (Q:Value->Shared->Prop) (E:Value->Shared->Prop),A.handled=none->st k s.heap->val k=none->(∀ h' e,Heap.ExtBut it s.heap h'->(∃ o,h'.get? e=some o∧o.cls=.type "StopIteration")->E (.ref e) { s with heap:=h' })->wpAny (model prog w) A (Builtin.SmallTypes.nextOf (.ref it)) Q E s
theorem src_list {prog:Program}{w:World}(it l:Addr) (hne:l ≠ it) (xs:Array Value):Src prog w it [it,l] (fun k h=>h.IsListIter it l k∧h.IsList l xs) (fun k=>xs[k]?) where
 mem:=List.mem_cons_self
 there:=fun k h st b hb=>by
  rcases List.mem_cons.mp hb with e|hb
  ·obtain ⟨o,q,_⟩:=st.1;exact ⟨o,by rw [e];exact q⟩
  ·obtain ⟨o,q,_⟩:=st.2;exact ⟨o,by rw [List.mem_singleton.mp hb];exact q⟩
 keep:=fun k h h' st q=>⟨st.1.at fun o e=>q it (by simp) o e,st.2.at fun o e=>q l (by simp) o e⟩
 item:=fun A k s v Q E st hv hQ=>wpAny_nextOf_list_item st.1 st.2 hv fun h' a b=>hQ h' ⟨a,st.2.extBut b.extBut hne⟩ b
 fin:=fun A k s Q E hh st hv hE=>wpAny_nextOf_list_end hh st.1 st.2 hv hE
section
variable {prog:Program}{w:World}{A:Around}{E:Value->Shared->Prop}{s:Shared}
theorem next_tup_item {j t:Addr}{k:Nat}{xs:Array Value}{v:Value}{Q:Value->Shared->Prop}(hj:s.heap.IsTupleIter j t k) (ht:s.heap.IsTuple t xs) (hv:xs[k]? = some v)
  (hQ:∀ g,g.IsTupleIter j t (k+1)->Heap.SameBut j s.heap g->Q v { s with heap:=g }):wpAny (model prog w) A (Builtin.SmallTypes.nextOf (.ref j)) Q E s:=by
 obtain ⟨oj,h0,h1,h2⟩:=id hj
 obtain ⟨ot,g0,_,n,g1⟩:=ht
 unfold Builtin.SmallTypes.nextOf
 refine wpAny_bind (wpAny_callSpecial?_slot (name:=Str.ofString "__next__") hj.typeIs F.slot_tuple_iterator_next (wpAny_call_entry F.slot_tuple_iterator_next hj.typeIs F.entry_tuple_iterator_next ?_ (F.args_tuple_iterator_next_1 _)))
 refine wpAny_bind (m:=field (.ref j) 0) (wpAny_field h0 h2 (x:=.ref t) rfl ?_)
 show wpAny _ _ (if (Value.ref t == Value.none)=true then _ else _) _ _ _
 rw [if_neg (show ¬ ((.ref t:Value) == .none)=true from Bool.false_ne_true)]
 refine wpAny_bind (m:=field (.ref j) 1) (wpAny_field h0 h2 (x:=.int k 0) rfl ?_)
 refine wpAny_bind (m:=seqItems? (.ref t)) (wpAny_seqItems g0 g1 ?_)
 simp only [Int.toNat_natCast,hv]
 refine wpAny_bind (wpAny_setField h0 h2 (by simp) (wpAny_pure ⟨v,rfl,wpAny_pure (hQ _ ⟨_,Heap.get?_update_self _ h0 (Obj.isFreed_of_fields (Obj.data_mapFields h2 _)),(Obj.cls_mapFields ..).trans h1,?_⟩ (Heap.SameBut.update ..))⟩))
 rw [Obj.data_mapFields h2];simp [rawInt]
theorem next_tup_end {j t:Addr}{k:Nat}{xs:Array Value}{Q:Value->Shared->Prop}(hh:A.handled=none) (hj:s.heap.IsTupleIter j t k) (ht:s.heap.IsTuple t xs) (hv:xs[k]? = none)
  (hE:∀ g e,Heap.ExtBut j s.heap g->(∃ o,g.get? e=some o∧o.cls=.type "StopIteration")->E (.ref e) { s with heap:=g }):wpAny (model prog w) A (Builtin.SmallTypes.nextOf (.ref j)) Q E s:=by
 obtain ⟨oj,h0,h1,h2⟩:=id hj
 obtain ⟨ot,g0,_,n,g1⟩:=ht
 unfold Builtin.SmallTypes.nextOf
 refine wpAny_bind (wpAny_callSpecial?_slot (name:=Str.ofString "__next__") hj.typeIs F.slot_tuple_iterator_next (wpAny_call_entry F.slot_tuple_iterator_next hj.typeIs F.entry_tuple_iterator_next ?_ (F.args_tuple_iterator_next_1 _)))
 refine wpAny_bind (m:=field (.ref j) 0) (wpAny_field h0 h2 (x:=.ref t) rfl ?_)
 show wpAny _ _ (if (Value.ref t == Value.none)=true then _ else _) _ _ _
 rw [if_neg (show ¬ ((.ref t:Value) == .none)=true from Bool.false_ne_true)]
 refine wpAny_bind (m:=field (.ref j) 1) (wpAny_field h0 h2 (x:=.int k 0) rfl ?_)
 refine wpAny_bind (m:=seqItems? (.ref t)) (wpAny_seqItems g0 g1 ?_)
 simp only [Int.toNat_natCast,hv]
 refine wpAny_bind (wpAny_rule (wpAny_bind (wpAny_setField h0 h2 (by simp) (wpAny_bind (m:=newExc (.type "StopIteration") []) ?_))))
 simp only [newExc,newTuple]
 refine wpAny_bind (wpAny_newObj_type (wpAny_bind (m:=firstArgMember _ _) (wpAny_of_eq (a:=Value.none) (by first|rfl|(simp only [firstArgMember];rfl)) (wpAny_newObj_type ?_ (by size_fits)))) (by size_fits))
 simp only [raiseNew]
 refine wpAny_bind (wpAny_handled ?_);first|rw [show A.in1.handled=none from hh]|rw [hh]
 exact wpAny_bind (wpAny_pure (wpAny_throw (hE _ _ (((Heap.SameBut.update ..).extBut.push _).push _) ⟨_,Heap.get?_push_size _ rfl,rfl⟩)))
theorem src_tup (it l:Addr) (hne:l ≠ it) (xs:Array Value):Src prog w it [it,l] (fun k h=>h.IsTupleIter it l k∧h.IsTuple l xs) (fun k=>xs[k]?) where
 mem:=List.mem_cons_self
 there:=fun k h st b hb=>by
  rcases List.mem_cons.mp hb with e|hb
  ·obtain ⟨o,q,_⟩:=st.1;exact ⟨o,by rw [e];exact q⟩
  ·obtain ⟨o,q,_⟩:=st.2;exact ⟨o,by rw [List.mem_singleton.mp hb];exact q⟩
 keep:=fun k h h' st q=>⟨st.1.at fun o e=>q it (by simp) o e,st.2.at fun o e=>q l (by simp) o e⟩
 item:=fun A k s v Q E st hv hQ=>next_tup_item st.1 st.2 hv fun h' a b=>hQ h' ⟨a,st.2.extBut b.extBut hne⟩ b
 fin:=fun A k s Q E hh st hv hE=>next_tup_end hh st.1 st.2 hv hE
structure Apart2 (z TI TO i j:Addr) (f g:List Addr):Prop where
 ti:TI ≠ z∧TI ≠ TO∧TI ≠ i∧TI ≠ j
 zt:z ≠ TO
 zf:z ∉ f
 zg:z ∉ g
 tf:TO ∉ f
 tg:TO ∉ g
 ig:i ∉ g
 jf:j ∉ f
variable {z TI TO i j:Addr}{f g:List Addr}{ti tj:Nat->Heap->Prop}{vi vj:Nat->Option Value}{k m:Nat}{x y a b:Value}
theorem ne_mem {p q:Addr}{l:List Addr}(hp:p∈l) (hq:q ∉ l):p ≠ q:=fun e=>hq (e ▸ hp)
theorem Src.but {prog:Program}{w:World}{it:Addr}{fr:List Addr}{st:Nat->Heap->Prop}{val:Nat->Option Value}(S:Src prog w it fr st val){k:Nat}{c:Addr}{h h':Heap}(q:st k h) (e:Heap.ExtBut c h h') (hc:c ∉ fr):st k h':=
 S.keep k h h' q fun b hb o ho=>e b o (ne_mem hb hc) ho
theorem zip2_item (S:Src prog w i f ti vi) (T:Src prog w j g tj vj) (D:Apart2 z TI TO i j f g){Q:Value->Shared->Prop}
  (hz:IsZip s.heap z TI TO .none) (hTI:IsPair s.heap TI (.ref i) (.ref j)) (hTO:IsPair s.heap TO a b) (hi:ti k s.heap) (hj:tj m s.heap) (hx:vi k=some x) (hy:vj m=some y)
  (hQ:∀ h',IsZip h' z TI TO (rawInt s.heap.objs.size)->IsPair h' TO x y->ti (k+1) h'->tj (m+1) h'->IsPair h' s.heap.objs.size x y->h'.objs.size=s.heap.objs.size+1->(∀ c o,c ∉ [z,TO,i,j]->s.heap.get? c=some o->h'.get? c=some o)->Q (.ref s.heap.objs.size) { s with heap:=h' }) :
  wpAny (model prog w) A (Builtin.«zip.__next__» ⟨[.ref z],[]⟩) (fun fin s'=>∃ v,fin=.done (.ret v)∧Q v s') E s:=by
 have iz:i ≠ z:=ne_mem S.mem D.zf
 have jz:j ≠ z:=ne_mem T.mem D.zg
 have iTO:i ≠ TO:=ne_mem S.mem D.tf
 have jTO:j ≠ TO:=ne_mem T.mem D.tg
 have ij:i ≠ j:=ne_mem S.mem D.jf
 refine wpAny_bind (m:=field (.ref z) 2) (wpAny_field hz rfl (x:=.bool false) rfl ?_)
 refine wpAny_bind (m:=field (.ref z) 3) (wpAny_field hz rfl (x:=.ref TI) rfl (wpAny_bind (wpAny_seqItems hTI rfl ?_)))
 refine wpAny_bind (m:=Builtin.SmallTypes.ownedTupleIsFree (.ref z)) ?_
 unfold Builtin.SmallTypes.ownedTupleIsFree
 refine wpAny_bind (wpAny_field hz rfl (x:=.none) rfl (wpAny_pure ?_));simp only [if_true]
 refine wpAny_bind (wpAny_rule (wpAny_bind (wpAny_field hz rfl (x:=.ref TO) rfl (wpAny_bind (wpAny_setField_rec hz (by simp) fun q1 z1 s1=>?_)))))
 replace z1:IsZip q1 z TI TO .ellipsis:=z1
 refine wpAny_bind ?_;simp only [List.zipIdx_cons,List.zipIdx_nil,List.forIn_cons,List.forIn_nil]
 refine wpAny_bind (wpAny_bind (wpAny_onRaise (wpAny_bind (m:=Builtin.SmallTypes.nextOf (.ref i)) (S.item _ k _ x _ _ (S.but hi s1.extBut D.zf) hx fun q2 i2 s2=>wpAny_pure ?_))))
 have o2:IsPair q2 TO a b:=s2.extBut _ _ iTO.symm (s1.extBut _ _ D.zt.symm hTO)
 refine wpAny_bind (wpAny_seqItems o2 rfl (wpAny_bind (wpAny_updateSeq_pair o2 fun q3 o3 s3=>wpAny_bind (wpAny_letGo (wpAny_pure ?_)))))
 replace o3:IsPair q3 TO x b:=o3
 have j3:tj m q3:=T.but (T.but (T.but hj s1.extBut D.zg) s2.extBut D.ig) s3.extBut D.tg
 refine wpAny_bind (wpAny_bind (wpAny_onRaise (wpAny_bind (m:=Builtin.SmallTypes.nextOf (.ref j)) (T.item _ m _ y _ _ j3 hy fun q4 j4 s4=>wpAny_pure ?_))))
 have o4:IsPair q4 TO x b:=s4.extBut _ _ jTO.symm o3
 refine wpAny_bind (wpAny_seqItems o4 rfl (wpAny_bind (wpAny_updateSeq_pair o4 fun q5 o5 s5=>wpAny_bind (wpAny_letGo (wpAny_pure (wpAny_pure ?_))))))
 replace o5:IsPair q5 TO x y:=o5
 refine wpAny_bind (wpAny_seqItems o5 rfl (wpAny_bind (wpAny_newTuple ?_)))
 have sz:q5.objs.size=s.heap.objs.size:=by rw [s5.1,s4.1,s3.1,s2.1,s1.1]
 have z5:IsZip q5 z TI TO .ellipsis:=s5.extBut _ _ D.zt (s4.extBut _ _ jz.symm (s3.extBut _ _ D.zt (s2.extBut _ _ iz.symm z1)))
 have k5:∀ c o,c ∉ [z,TO,i,j]->s.heap.get? c=some o->q5.get? c=some o:=fun c o hc e=>by
  simp only [List.mem_cons,List.not_mem_nil,or_false,not_or] at hc
  exact s5.extBut _ _ hc.2.1 (s4.extBut _ _ hc.2.2.2 (s3.extBut _ _ hc.2.1 (s2.extBut _ _ hc.2.2.1 (s1.extBut _ _ hc.1 e))))
 have i5:ti (k+1) q5:=S.but (S.but (S.but i2 s3.extBut D.tf) s4.extBut D.jf) s5.extBut D.tf
 have j5:tj (m+1) q5:=T.but j4 s5.extBut D.tg
 have zlt:z < q5.objs.size:=Heap.lt_size z5
 refine wpAny_bind (m:=Builtin.SmallTypes.ownedTupleHandOut (.ref z) (.ref q5.objs.size)) ?_
 unfold Builtin.SmallTypes.ownedTupleHandOut
 have z6:IsZip (q5.push { cls:=.type "tuple",data:=.seq #[x,y] }) z TI TO .ellipsis:=Heap.get?_push_of_some _ z5
 refine wpAny_bind (wpAny_setField_rec z6 (by simp) fun q7 z7 s7=>?_)
 replace z7:IsZip q7 z TI TO (rawInt q5.objs.size):=z7
 refine wpAny_setField_rec z7 (by simp) fun q8 z8 s8=>?_
 replace z8:IsZip q8 z TI TO (rawInt q5.objs.size):=z8
 have up:∀ c o,c ≠ z->q5.get? c=some o->q8.get? c=some o:=fun c o hc e=>s8.extBut _ _ hc (s7.extBut _ _ hc (Heap.get?_push_of_some _ e))
 have t8:IsPair q8 q5.objs.size x y:=s8.extBut _ _ (Nat.ne_of_gt zlt) (s7.extBut _ _ (Nat.ne_of_gt zlt) (Heap.get?_push_size _ rfl))
 have n8:q8.objs.size=q5.objs.size+1:=by rw [s8.1,s7.1,Heap.size_push]
 rw [sz] at z8 t8 n8
 refine wpAny_pure ⟨_,rfl,?_⟩
 show Q (.ref q5.objs.size) _
 rw [sz]
 exact hQ q8 z8 (up _ _ D.zt.symm o5) (S.keep _ _ _ i5 fun c hc o e=>up c o (ne_mem hc D.zf) e) (T.keep _ _ _ j5 fun c hc o e=>up c o (ne_mem hc D.zg) e) t8 n8 fun c o hc e=>up c o (fun q=>hc (by simp [q])) (k5 c o hc e)
theorem zip2_end (hh:A.handled=none) (S:Src prog w i f ti vi) (T:Src prog w j g tj vj) (D:Apart2 z TI TO i j f g){Q:Fin->Shared->Prop}
  (hz:IsZip s.heap z TI TO .none) (hTI:IsPair s.heap TI (.ref i) (.ref j)) (hTO:IsPair s.heap TO a b) (hi:ti k s.heap) (hj:tj m s.heap) (hxy:vi k=none∨vj m=none)
  (hE:∀ h' e,(∀ c o,c ∉ [z,TO,i,j]->s.heap.get? c=some o->h'.get? c=some o)->(∃ o,h'.get? e=some o∧o.cls=.type "StopIteration")->E (.ref e) { s with heap:=h' }) :
  wpAny (model prog w) A (Builtin.«zip.__next__» ⟨[.ref z],[]⟩) Q E s:=by
 have iz:i ≠ z:=ne_mem S.mem D.zf
 have jz:j ≠ z:=ne_mem T.mem D.zg
 have iTO:i ≠ TO:=ne_mem S.mem D.tf
 have jTO:j ≠ TO:=ne_mem T.mem D.tg
 refine wpAny_bind (m:=field (.ref z) 2) (wpAny_field hz rfl (x:=.bool false) rfl ?_)
 refine wpAny_bind (m:=field (.ref z) 3) (wpAny_field hz rfl (x:=.ref TI) rfl (wpAny_bind (wpAny_seqItems hTI rfl ?_)))
 refine wpAny_bind (m:=Builtin.SmallTypes.ownedTupleIsFree (.ref z)) ?_
 unfold Builtin.SmallTypes.ownedTupleIsFree
 refine wpAny_bind (wpAny_field hz rfl (x:=.none) rfl (wpAny_pure ?_));simp only [if_true]
 refine wpAny_bind (wpAny_rule (wpAny_bind (wpAny_field hz rfl (x:=.ref TO) rfl (wpAny_bind (wpAny_setField_rec hz (by simp) fun q1 z1 s1=>?_)))))
 replace z1:IsZip q1 z TI TO .ellipsis:=z1
 refine wpAny_bind ?_;simp only [List.zipIdx_cons,List.zipIdx_nil,List.forIn_cons,List.forIn_nil]
 refine wpAny_bind (wpAny_bind (wpAny_onRaise (wpAny_bind (m:=Builtin.SmallTypes.nextOf (.ref i)) ?_)))
 cases hx:vi k with
 | none=>
  refine S.fin _ k _ _ _ hh (S.but hi s1.extBut D.zf) hx fun q2 e s2 ⟨oe,he,hce⟩=>?_
  have z2:IsZip q2 z TI TO .ellipsis:=s2 _ _ iz.symm z1
  have ez:e ≠ z:=fun q=>by subst q;rw [z2] at he;cases he;simp at hce
  refine wpAny_setField_rec z2 (by simp) fun q3 _ s3=>hE q3 e (fun c o hc q=>?_) ⟨oe,s3.extBut _ _ ez he,hce⟩
  simp only [List.mem_cons,List.not_mem_nil,or_false,not_or] at hc
  exact s3.extBut _ _ hc.1 (s2 _ _ hc.2.2.1 (s1.extBut _ _ hc.1 q))
 | some x=>
  have hy:vj m=none:=hxy.resolve_left (by rw [hx];exact Option.some_ne_none x)
  refine S.item _ k _ x _ _ (S.but hi s1.extBut D.zf) hx fun q2 i2 s2=>wpAny_pure ?_
  have o2:IsPair q2 TO a b:=s2.extBut _ _ iTO.symm (s1.extBut _ _ D.zt.symm hTO)
  refine wpAny_bind (wpAny_seqItems o2 rfl (wpAny_bind (wpAny_updateSeq_pair o2 fun q3 o3 s3=>wpAny_bind (wpAny_letGo (wpAny_pure ?_)))))
  have j3:tj m q3:=T.but (T.but (T.but hj s1.extBut D.zg) s2.extBut D.ig) s3.extBut D.tg
  refine wpAny_bind (wpAny_bind (wpAny_onRaise (wpAny_bind (m:=Builtin.SmallTypes.nextOf (.ref j)) (T.fin _ m _ _ _ hh j3 hy fun q4 e s4 ⟨oe,he,hce⟩=>?_))))
  have z4:IsZip q4 z TI TO .ellipsis:=s4 _ _ jz.symm (s3.extBut _ _ D.zt (s2.extBut _ _ iz.symm z1))
  have ez:e ≠ z:=fun q=>by subst q;rw [z4] at he;cases he;simp at hce
  refine wpAny_setField_rec z4 (by simp) fun q5 _ s5=>hE q5 e (fun c o hc q=>?_) ⟨oe,s5.extBut _ _ ez he,hce⟩
  simp only [List.mem_cons,List.not_mem_nil,or_false,not_or] at hc
  exact s5.extBut _ _ hc.1 (s4 _ _ hc.2.2.2 (s3.extBut _ _ hc.2.1 (s2.extBut _ _ hc.2.2.1 (s1.extBut _ _ hc.1 q))))
theorem zip2_next_item (S:Src prog w i f ti vi) (T:Src prog w j g tj vj) (D:Apart2 z TI TO i j f g){Q:Option Value->Shared->Prop}
  (hz:IsZip s.heap z TI TO .none) (hTI:IsPair s.heap TI (.ref i) (.ref j)) (hTO:IsPair s.heap TO a b) (hi:ti k s.heap) (hj:tj m s.heap) (hx:vi k=some x) (hy:vj m=some y)
  (hQ:∀ h',IsZip h' z TI TO (rawInt s.heap.objs.size)->IsPair h' TO x y->ti (k+1) h'->tj (m+1) h'->IsPair h' s.heap.objs.size x y->h'.objs.size=s.heap.objs.size+1->(∀ c o,c ∉ [z,TO,i,j]->s.heap.get? c=some o->h'.get? c=some o)->Q (some (.ref s.heap.objs.size)) { s with heap:=h' }) :
  wpAny (model prog w) A (pyNext (.ref z)) Q E s:=by
 have ty:s.TypeIs (.ref z) "zip":=⟨_,hz,rfl⟩
 unfold pyNext
 exact wpAny_bind (wpAny_attempt (wpAny_callSpecial?_slot (name:=Str.ofString "__next__") ty F.slot_zip_next (wpAny_call_entry F.slot_zip_next ty F.entry_zip_next (zip2_item S T D hz hTI hTO hi hj hx hy fun h' c1 c2 c3 c4 c5 c6 c7=>wpAny_pure (hQ h' c1 c2 c3 c4 c5 c6 c7)) (F.args_zip_next_1 _))))
theorem zip2_next_end (hh:A.handled=none) (S:Src prog w i f ti vi) (T:Src prog w j g tj vj) (D:Apart2 z TI TO i j f g){Q:Option Value->Shared->Prop}
  (hz:IsZip s.heap z TI TO .none) (hTI:IsPair s.heap TI (.ref i) (.ref j)) (hTO:IsPair s.heap TO a b) (hi:ti k s.heap) (hj:tj m s.heap) (hxy:vi k=none∨vj m=none)
  (hQ:∀ h',(∀ c o,c ∉ [z,TO,i,j]->s.heap.get? c=some o->h'.get? c=some o)->Q none { s with heap:=h' }):wpAny (model prog w) A (pyNext (.ref z)) Q E s:=by
 have ty:s.TypeIs (.ref z) "zip":=⟨_,hz,rfl⟩
 unfold pyNext
 refine wpAny_bind (wpAny_attempt (wpAny_callSpecial?_slot (name:=Str.ofString "__next__") ty F.slot_zip_next (wpAny_call_entry F.slot_zip_next ty F.entry_zip_next (zip2_end (show A.in1.handled=none from hh) S T D hz hTI hTO hi hj hxy fun h' e kp he=>?_) (F.args_zip_next_1 _))))
 obtain ⟨o,ho,hc⟩:=he
 exact wpAny_bind (wpAny_isInstance (T := "StopIteration") (b:=true) ⟨o,ho,hc⟩ isSubtype_stop (wpAny_pure (hQ _ kp)))
end
end L2
set_option Elab.async false
set_option linter.all false
set_option maxRecDepth 100000
set_option maxHeartbeats 4000000
namespace L2
open PySem PySem.Spec PyProof.Rows
def SeqAt (h:Heap) (k:Bool) (l:Addr) (xs:Array Value):Prop:=match k with
 | true=>h.IsTuple l xs
 | false=>h.IsList l xs
def IterAt (h:Heap) (k:Bool) (it l:Addr) (n:Nat):Prop:=match k with
 | true=>h.IsTupleIter it l n
 | false=>h.IsListIter it l n
def itObj (k:Bool) (l:Addr):Obj:=match k with
 | true=>{ cls:=.type "tuple_iterator",data:=.fields #[.ref l,.int 0 0] }
 | false=>{ cls:=.type "list_iterator",data:=.fields #[.ref l,.int 0 0] }
theorem SeqAt.at {h h':Heap}{k:Bool}{l:Addr}{xs:Array Value}(q:SeqAt h k l xs) (e:∀ o,h.get? l=some o->h'.get? l=some o):SeqAt h' k l xs:=by
 cases k
 ·exact Heap.IsList.at q e
 ·exact Heap.IsTuple.at q e
theorem IterAt.at {h h':Heap}{k:Bool}{it l:Addr}{n:Nat}(q:IterAt h k it l n) (e:∀ o,h.get? it=some o->h'.get? it=some o):IterAt h' k it l n:=by
 cases k
 ·exact Heap.IsListIter.at q e
 ·exact Heap.IsTupleIter.at q e
theorem IterAt.obj {h:Heap}{k:Bool}{it l:Addr}{n:Nat}(q:IterAt h k it l n):∃ o fs,h.get? it=some o∧o.data=.fields fs:=by
 cases k
 ·obtain ⟨o,e,_,d⟩:=(show h.IsListIter it l n from q);exact ⟨o,_,e,d⟩
 ·obtain ⟨o,e,_,d⟩:=(show h.IsTupleIter it l n from q);exact ⟨o,_,e,d⟩
theorem src_sq {prog:Program}{w:World}(k:Bool) (it l:Addr) (hne:l ≠ it) (xs:Array Value):Src prog w it [it,l] (fun n h=>IterAt h k it l n∧SeqAt h k l xs) (fun n=>xs[n]?):=by
 cases k
 ·exact src_list it l hne xs
 ·exact src_tup it l hne xs
section
variable {prog:Program}{w:World}{A:Around}{E:Value->Shared->Prop}{s:Shared}
theorem iter_sq {k:Bool}{l:Addr}{xs:Array Value}{Q:Value->Shared->Prop}(h:SeqAt s.heap k l xs) (hQ:Q (.ref s.heap.objs.size) { s with heap:=s.heap.push (itObj k l) }):wpAny (model prog w) A (pyIter (.ref l)) Q E s:=by
 cases k
 ·exact wpAny_pyIter_list h hQ
 ·exact wpAny_pyIter_tuple h hQ
abbrev zq1 (ka:Bool) (a:Addr) (h:Heap):Heap:=h.push (itObj ka a)
abbrev zq2 (ka kb:Bool) (a b:Addr) (h:Heap):Heap:=(zq1 ka a h).push (itObj kb b)
abbrev zq3 (ka kb:Bool) (a b:Addr) (h:Heap):Heap:=(zq2 ka kb a b h).push { cls:=.type "tuple",data:=.seq #[.ref h.objs.size,.ref (zq1 ka a h).objs.size] }
abbrev zq4 (ka kb:Bool) (a b:Addr) (h:Heap):Heap:=(zq3 ka kb a b h).push { cls:=.type "tuple",data:=.seq #[.none,.none] }
abbrev zq5 (ka kb:Bool) (a b:Addr) (h:Heap):Heap:=(zq4 ka kb a b h).push { cls:=.type "zip",data:=.fields #[.none,.bool false,.bool false,.ref (zq2 ka kb a b h).objs.size,.ref (zq3 ka kb a b h).objs.size] }
theorem zip_meets (ka kb:Bool) (a b:Addr) (xs ys:Array Value):Meets (Builtin.«zip.__new__» ⟨[.type "zip",.ref a,.ref b],[]⟩) (fun _ R s=>SeqAt s.heap ka a xs∧SeqAt s.heap kb b ys∧R (.ok (.ret (.ref (zq4 ka kb a b s.heap).objs.size))) { s with heap:=zq5 ka kb a b s.heap }):=
 .of_wp fun prog w A R s h=>by
  obtain ⟨hp,g,d,tk,os⟩:=s;obtain ⟨h1,h2,h⟩:=h;have hsub:=sub_zip
  have q1:SeqAt (Shared.heap ⟨hp,g,d,tk,os⟩) ka a xs:=h1
  have q2:SeqAt (Shared.heap ⟨hp.push (itObj ka a),g,d,tk,os⟩) kb b ys:=h2.at fun o e=>Heap.get?_push_of_some _ e
  wp_walk using iter_sq q1,iter_sq q2
  exact ⟨_,rfl,h⟩
theorem call_zq {ka kb:Bool}{a b:Addr}{xs ys:Array Value}{Q:Value->Shared->Prop}(h1:SeqAt s.heap ka a xs) (h2:SeqAt s.heap kb b ys)
  (h:∀ h' n,n=s.heap.objs.size->IsZip h' (n+4) (n+2) (n+3) .none->IsPair h' (n+2) (.ref n) (.ref (n+1))->IsPair h' (n+3) .none .none->IterAt h' ka n a 0->IterAt h' kb (n+1) b 0->h'.objs.size=n+5->(∀ c o,s.heap.get? c=some o->h'.get? c=some o)->Q (.ref (n+4)) { s with heap:=h' }) :
  wpAny (model prog w) A (call (.type "zip") [.ref a,.ref b]) Q E s:=by
 refine callType_new F.called_zip (by decide) (F.typeCall_zip_2 _ _) (F.newCall_zip_2 _ _) (fun ob=>F.args_object_init_3 ob _ _) F.entry_zip_new (zip_meets ka kb a b xs ys) ⟨h1,h2,?_⟩
 have n1:(zq1 ka a s.heap).objs.size=s.heap.objs.size+1:=Heap.size_push ..
 have n2:(zq2 ka kb a b s.heap).objs.size=s.heap.objs.size+2:=by rw [Heap.size_push,n1]
 have n3:(zq3 ka kb a b s.heap).objs.size=s.heap.objs.size+3:=by rw [Heap.size_push,n2]
 have n4:(zq4 ka kb a b s.heap).objs.size=s.heap.objs.size+4:=by rw [Heap.size_push,n3]
 have n5:(zq5 ka kb a b s.heap).objs.size=s.heap.objs.size+5:=by rw [Heap.size_push,n4]
 have f1:IterAt (zq1 ka a s.heap) ka s.heap.objs.size a 0:=by
  cases ka<;>exact ⟨_,Heap.get?_push_size _ rfl,rfl,rfl⟩
 have f2:IterAt (zq2 ka kb a b s.heap) kb (zq1 ka a s.heap).objs.size b 0:=by
  cases kb<;>exact ⟨_,Heap.get?_push_size _ rfl,rfl,rfl⟩
 have u2:∀ c o,(zq2 ka kb a b s.heap).get? c=some o->(zq5 ka kb a b s.heap).get? c=some o:=fun c o e=>Heap.get?_push_of_some _ (Heap.get?_push_of_some _ (Heap.get?_push_of_some _ e))
 have g5:(zq5 ka kb a b s.heap).get? (zq4 ka kb a b s.heap).objs.size=some _:=Heap.get?_push_size _ rfl
 have g4:(zq5 ka kb a b s.heap).get? (zq3 ka kb a b s.heap).objs.size=some _:=Heap.get?_push_of_some _ (Heap.get?_push_size _ rfl)
 have g3:(zq5 ka kb a b s.heap).get? (zq2 ka kb a b s.heap).objs.size=some _:=Heap.get?_push_of_some _ (Heap.get?_push_of_some _ (Heap.get?_push_size _ rfl))
 have e1:IterAt (zq5 ka kb a b s.heap) ka s.heap.objs.size a 0:=f1.at fun o e=>u2 _ o (Heap.get?_push_of_some _ e)
 have e2:IterAt (zq5 ka kb a b s.heap) kb (zq1 ka a s.heap).objs.size b 0:=f2.at fun o e=>u2 _ o e
 show _∧_
 rw [n2,n3,n4] at g5
 rw [n1,n2] at g3
 rw [n3] at g4
 rw [n1] at e2
 rw [n4]
 exact ⟨⟨_,g5,rfl⟩,h _ _ rfl g5 g3 g4 e1 e2 n5 fun c o e=>u2 c o (Heap.get?_push_of_some _ (Heap.get?_push_of_some _ e))⟩
end
section
variable {X:Cx}{pins:List (Addr × Obj)}{σ:List (Option V)}{H:Hp}{s:Shared}{h':Heap}
theorem Inv.turnNew {t':Nat}{ch:List Addr}{n:Addr}{o:HO}(I:Inv X pins σ H s) (hch:∀ b∈ch,FpOk X pins H b) (k:∀ b ob,b ∉ ch->s.heap.get? b=some ob->h'.get? b=some ob) (hn:s.heap.objs.size≤n) (new:ObjOk X.prog X.w (upd H n o) h' n o) :
  Inv X pins σ (upd H n o) { s with heap:=h',toks:=t' }:=by
 have fn:=I.hok.fresh hn
 have up:∀ {b u},H b=some u->upd H n o b=some u:=fun {b u} e=>by rw [upd_ne (ne_of_none e fn)];exact e
 have nch:∀ {b u},H b=some u->b ∉ ch:=fun {b u} e z=>by rw [(hch b z).1] at e;cases e
 refine I.step (g':=s.gens) (d':=s.drawn) (ch:=ch) (fun b hb=>⟨(hch b hb).2.2.2.1,(hch b hb).2.1,(hch b hb).2.2.2.2.1,(hch b hb).2.2.2.2.2⟩) (fun b ob _ _ hc e _=>k b ob hc e) (fun b ob _ _ hc e _=>⟨ob.slots,k b ob hc e⟩)
  (fun b ob _ e q=>?_) (fun b ob hc e=>⟨ob,k b ob hc e⟩) (fun _ _ e=>up e) (fun _ _ _ e=>up e) (fun b ps e=>⟨#[],by rw [up e];simp⟩) (fun m hm=>?_) (fun b u e=>?_) I.bare
 ·rw [upd_ne (Nat.ne_of_lt (Nat.lt_of_lt_of_le (Heap.lt_size e) hn))];exact q
 ·obtain ⟨ol,es,ep,ho,r⟩:=hm
  exact ⟨ol,es,ep,k _ ol (fun z=>(hch _ z).2.1 rfl) ho,r⟩
 ·by_cases hb:b=n
  ·subst hb;rw [upd_same] at e;cases e;exact new
  ·rw [upd_ne hb] at e
   refine (I.hok b u e).stay (fun c v hc q=>k c v ?_ q) (fun c q=>up q) fun c xs q=>up q
   rcases hc with rfl|hc
   ·exact nch e
   ·exact nch hc
theorem Inv.turnL {t':Nat}{ch:List Addr}(I:Inv X pins σ H s) (hch:∀ b∈ch,FpOk X pins H b) (k:∀ b ob,b ∉ ch->s.heap.get? b=some ob->h'.get? b=some ob):Inv X pins σ H { s with heap:=h',toks:=t' }:=by
 have nch:∀ {b u},H b=some u->b ∉ ch:=fun {b u} e z=>by rw [(hch b z).1] at e;cases e
 refine I.step (g':=s.gens) (d':=s.drawn) (ch:=ch) (fun b hb=>⟨(hch b hb).2.2.2.1,(hch b hb).2.1,(hch b hb).2.2.2.2.1,(hch b hb).2.2.2.2.2⟩) (fun b ob _ _ hc e _=>k b ob hc e) (fun b ob _ _ hc e _=>⟨ob.slots,k b ob hc e⟩)
  (fun _ _ _ _ q=>q) (fun b ob hc e=>⟨ob,k b ob hc e⟩) (fun _ _ e=>e) (fun _ _ _ e=>e) (fun b ps e=>⟨#[],by rw [e];simp⟩) (fun m hm=>?_) (fun b u e=>?_) I.bare
 ·obtain ⟨ol,es,ep,ho,r⟩:=hm
  exact ⟨ol,es,ep,k _ ol (fun z=>(hch _ z).2.1 rfl) ho,r⟩
 ·refine (I.hok b u e).stay (fun c v hc q=>k c v ?_ q) (fun _ q=>q) fun _ _ q=>q
  rcases hc with rfl|hc
  ·exact nch e
  ·exact nch hc
end
def SqK (k:Bool) (H:Hp) (a:Addr) (xs:List V):Prop:=match k with
 | true=>H a=some (.tup xs)
 | false=>H a=some (.lst xs)
theorem SqK.ne {k:Bool}{H:Hp}{a b:Addr}{xs:List V}(h:SqK k H a xs) (e:H b=none):a ≠ b:=fun z=>by
 subst z
 cases k
 ·rw [show H a=some (.lst xs) from h] at e;cases e
 ·rw [show H a=some (.tup xs) from h] at e;cases e
theorem Inv.sq {X:Cx}{pins:List (Addr × Obj)}{σ:St}{H:Hp}{s:Shared}{k:Bool}{a:Addr}{xs:List V}(I:Inv X pins σ H s) (h:SqK k H a xs):∃ its:List Value,Vals xs its∧SeqAt s.heap k a its.toArray:=by
 cases k
 ·obtain ⟨its,r,p,_⟩:=I.list (SqL.of h);exact ⟨its,r,p.isList⟩
 ·obtain ⟨its,r,p,_⟩:=I.tuple (SqT.of h);exact ⟨its,r,p⟩
def Itz (ka kb:Bool) (a b:Addr) (xs ys:List V):It:=
 ⟨fun i H=>SqK ka H a xs∧SqK kb H b ys∧i < xs.length∧i < ys.length,fun i H x H'=>∃ p u v,H p=none∧x=.ref p∧xs[i]? = some u∧ys[i]? = some v∧H'=upd H p (.tup [u,v]),fun i H=>SqK ka H a xs∧SqK kb H b ys∧(xs.length≤i∨ys.length≤i)⟩
def Tnz (ka kb:Bool) (a b z TI TO p q:Addr) (i:Nat) (h:Heap):Prop:=IsZip h z TI TO .none∧IsPair h TI (.ref p) (.ref q)∧(∃ u v,IsPair h TO u v)∧IterAt h ka p a i∧IterAt h kb q b i
theorem turn_zip {P:Program}{w:World}{K:PySem.W.Frag}{elts:List Expr} {x1}{tp:Pos}(ka kb:Bool) (a b z TI TO p q:Addr) (xs ys:List V) (nd:[z,TI,TO,p,q].Nodup):Turn P w K (.Tuple elts x1 tp) (Itz ka kb a b xs ys) [z,TI,TO,p,q] z (Tnz ka kb a b z TI TO p q) where
 mem:=List.mem_cons_self
 obj:=fun i h st c hc=>by
  obtain ⟨e1,e2,⟨u,v,e3⟩,e4,e5⟩:=st
  simp only [List.mem_cons,List.not_mem_nil,or_false] at hc
  rcases hc with rfl|rfl|rfl|rfl|rfl
  ·exact ⟨_,e1,fun v z=>by cases z⟩
  ·exact ⟨_,e2,fun v z=>by cases z⟩
  ·exact ⟨_,e3,fun v z=>by cases z⟩
  ·obtain ⟨o,fs,e,d⟩:=e4.obj;exact ⟨o,e,fun v z=>by rw [d] at z;cases z⟩
  ·obtain ⟨o,fs,e,d⟩:=e5.obj;exact ⟨o,e,fun v z=>by rw [d] at z;cases z⟩
 keep:=fun i h h' st k=>by
  obtain ⟨e1,e2,⟨u,v,e3⟩,e4,e5⟩:=st
  exact ⟨k z (by simp) _ e1,k TI (by simp) _ e2,⟨u,v,k TO (by simp) _ e3⟩,e4.at fun o e=>k p (by simp) o e,e5.at fun o e=>k q (by simp) o e⟩
 item:=by
  intro X hP hw hK hc i pins s σ H E I hf st hg
  subst hP hw hK
  obtain ⟨e1,e2,⟨u0,v0,e3⟩,e4,e5⟩:=st
  obtain ⟨ha,hb,l1,l2⟩:=hg
  obtain ⟨as,ra,sa⟩:=I.sq ha
  obtain ⟨bs,rb,sb⟩:=I.sq hb
  have hx:xs[i]? = some xs[i]:=List.getElem?_eq_getElem l1
  have hy:ys[i]? = some ys[i]:=List.getElem?_eq_getElem l2
  obtain ⟨u,hu,ru⟩:=ra.get hx
  obtain ⟨v,hv,rv⟩:=rb.get hy
  have free:∀ c∈[z,TI,TO,p,q],H c=none:=fun c h=>(hf c h).1
  have naz:∀ c∈[z,TI,TO,p,q],a ≠ c:=fun c h=>ha.ne (free c h)
  have nbz:∀ c∈[z,TI,TO,p,q],b ≠ c:=fun c h=>hb.ne (free c h)
  simp only [List.nodup_cons,List.mem_cons,List.not_mem_nil,or_false,not_or,not_false_eq_true,and_true,List.nodup_nil] at nd
  obtain ⟨⟨z1,z2,z3,z4⟩,⟨t1,t2,t3⟩,⟨w1,w2⟩,y1⟩:=nd
  have S:=src_sq (prog:=X.prog) (w:=X.w) ka p a (naz p (by simp)) as.toArray
  have T:=src_sq (prog:=X.prog) (w:=X.w) kb q b (nbz q (by simp)) bs.toArray
  have D:Apart2 z TI TO p q [p,a] [q,b]:=⟨⟨Ne.symm z1,t1,t2,t3⟩,z2,by simp [z3,Ne.symm (naz z (by simp))],by simp [z4,Ne.symm (nbz z (by simp))],by simp [w1,Ne.symm (naz TO (by simp))],by simp [w2,Ne.symm (nbz TO (by simp))],by simp [y1,Ne.symm (nbz p (by simp))],by simp [Ne.symm y1,Ne.symm (naz q (by simp))]⟩
  refine zip2_next_item S T D e1 e2 e3 ⟨e4,sa⟩ ⟨e5,sb⟩ (x:=u) (y:=v) (by simpa using hu) (by simpa using hv) fun h1 c1 c2 c3 c4 c5 c6 c7=>?_
  refine ⟨_,rfl,wpAny_letOwnedTupleGo_zip (s:={ s with heap:=h1 }) c1 fun h2 d1 d2=>?_⟩
  have lt:z < s.heap.objs.size:=Heap.lt_size e1
  have kp:∀ c o,c ∉ [z,TO,p,q]->s.heap.get? c=some o->h2.get? c=some o:=fun c o hc e=>d2.extBut _ _ (fun q=>hc (by simp [q])) (c7 c o hc e)
  have hn:h2.get? s.heap.objs.size=some { cls:=.type "tuple",data:=.seq #[u,v] }:=d2.extBut _ _ (Nat.ne_of_gt lt) c5
  have I2:Inv X pins σ (upd H s.heap.objs.size (.tup [xs[i],ys[i]])) { s with heap:=h2 }:=I.turnNew (t':=s.toks) (ch:=[z,TO,p,q]) (fun c hc=>hf c (by simp only [List.mem_cons,List.not_mem_nil,or_false] at hc ⊢;rcases hc with h|h|h|h<;>simp [h])) kp (Nat.le_refl _) ⟨(show 2≤sizeLine by decide),[u,v],.cons ru (.cons rv .nil),⟨_,hn,rfl,_,rfl⟩⟩
  have fr:H s.heap.objs.size=none:=I.hok.fresh (Nat.le_refl _)
  refine ⟨.ref s.heap.objs.size,_,I2,rfl,⟨_,_,_,fr,rfl,hx,hy,rfl⟩,⟨d1,d2.extBut _ _ (Ne.symm z1) (c7 TI _ (by simp [Ne.symm z1,t1,t2,t3]) e2),⟨u,v,d2.extBut _ _ (Ne.symm z2) c2⟩,c3.1.at fun o e=>d2.extBut _ _ (Ne.symm z3) e,c4.1.at fun o e=>d2.extBut _ _ (Ne.symm z4) e⟩,fun c hc=>?_⟩
  obtain ⟨o,ho,_⟩:∃ o,s.heap.get? c=some o∧True:=by
   simp only [List.mem_cons,List.not_mem_nil,or_false] at hc
   rcases hc with rfl|rfl|rfl|rfl|rfl
   ·exact ⟨_,e1,trivial⟩
   ·exact ⟨_,e2,trivial⟩
   ·exact ⟨_,e3,trivial⟩
   ·obtain ⟨o,_,e,_⟩:=e4.obj;exact ⟨o,e,trivial⟩
   ·obtain ⟨o,_,e,_⟩:=e5.obj;exact ⟨o,e,trivial⟩
  rw [upd_ne (Nat.ne_of_lt (Heap.lt_size ho))]
  exact free c hc
 done:=by
  intro X hP hw hK hc i pins s σ H E I hf st hg
  subst hP hw hK
  obtain ⟨e1,e2,⟨u0,v0,e3⟩,e4,e5⟩:=st
  obtain ⟨ha,hb,l⟩:=hg
  obtain ⟨as,ra,sa⟩:=I.sq ha
  obtain ⟨bs,rb,sb⟩:=I.sq hb
  have free:∀ c∈[z,TI,TO,p,q],H c=none:=fun c h=>(hf c h).1
  have naz:∀ c∈[z,TI,TO,p,q],a ≠ c:=fun c h=>ha.ne (free c h)
  have nbz:∀ c∈[z,TI,TO,p,q],b ≠ c:=fun c h=>hb.ne (free c h)
  simp only [List.nodup_cons,List.mem_cons,List.not_mem_nil,or_false,not_or,not_false_eq_true,and_true,List.nodup_nil] at nd
  obtain ⟨⟨z1,z2,z3,z4⟩,⟨t1,t2,t3⟩,⟨w1,w2⟩,y1⟩:=nd
  have S:=src_sq (prog:=X.prog) (w:=X.w) ka p a (naz p (by simp)) as.toArray
  have T:=src_sq (prog:=X.prog) (w:=X.w) kb q b (nbz q (by simp)) bs.toArray
  have D:Apart2 z TI TO p q [p,a] [q,b]:=⟨⟨Ne.symm z1,t1,t2,t3⟩,z2,by simp [z3,Ne.symm (naz z (by simp))],by simp [z4,Ne.symm (nbz z (by simp))],by simp [w1,Ne.symm (naz TO (by simp))],by simp [w2,Ne.symm (nbz TO (by simp))],by simp [y1,Ne.symm (nbz p (by simp))],by simp [Ne.symm y1,Ne.symm (naz q (by simp))]⟩
  have la:=ra.length
  have lb:=rb.length
  refine zip2_next_end (I.ok.hd hc) S T D e1 e2 e3 ⟨e4,sa⟩ ⟨e5,sb⟩ (l.imp (fun h=>by simp;omega) fun h=>by simp;omega) fun h1 kp=>⟨rfl,I.turnL (t':=s.toks) (ch:=[z,TO,p,q]) (fun c hc=>hf c (by simp only [List.mem_cons,List.not_mem_nil,or_false] at hc ⊢;rcases hc with h|h|h|h<;>simp [h])) kp⟩
 self:=fun _ _ _ _ _ st h=>wpAny_pyIter_zip st.1 h
def kZ2 (ka:Bool) (a b:Addr) (xs:List V) (H:Hp) (R:It->Hp->Prop):HO->Prop:=fun o=>match o with
 | .lst ys=>R (Itz ka false a b xs ys) H
 | .tup ys=>R (Itz ka true a b xs ys) H
 | _=>False
theorem m_kZ2_l (ka:Bool) (a b:Addr) (xs ys:List V) (H:Hp) (R:It->Hp->Prop):kZ2 ka a b xs H R (.lst ys)=R (Itz ka false a b xs ys) H:=rfl
def kZ1 (a b:Addr) (H:Hp) (R:It->Hp->Prop):HO->Prop:=fun o=>match o with
 | .lst xs=>optK (H b) (kZ2 false a b xs H R)
 | .tup xs=>optK (H b) (kZ2 true a b xs H R)
 | _=>False
theorem m_kZ1_l (a b:Addr) (xs:List V) (H:Hp) (R:It->Hp->Prop):kZ1 a b H R (.lst xs)=optK (H b) (kZ2 false a b xs H R):=rfl
theorem m_kZ1_t (a b:Addr) (xs:List V) (H:Hp) (R:It->Hp->Prop):kZ1 a b H R (.tup xs)=optK (H b) (kZ2 true a b xs H R):=rfl
def kZ0 (R:It->Hp->Prop):List V->Hp->Prop:=fun vs H=>match vs with
 | [.ref a,.ref b]=>optK (H a) (kZ1 a b H R)
 | _=>False
theorem m_kZ0 (R:It->Hp->Prop) (a b:Addr) (H:Hp):kZ0 R [.ref a,.ref b] H=optK (H a) (kZ1 a b H R):=rfl
def iZip (ta:TA):TI:=fun σ H R=>ta σ H (kZ0 R)
theorem m_iZip (ta:TA) (σ:St) (H:Hp) (R:It->Hp->Prop):iZip ta σ H R=ta σ H (kZ0 R):=rfl
theorem kZ0_ex {R:It->Hp->Prop}{vs:List V}{H:Hp}(h:kZ0 R vs H):∃ a b ka kb xs ys,vs=[.ref a,.ref b]∧SqK ka H a xs∧SqK kb H b ys∧R (Itz ka kb a b xs ys) H:=by
 unfold kZ0 at h
 split at h
 ·rename_i a b
  obtain ⟨o,e,h⟩:=optK_ex h
  unfold kZ1 at h
  split at h
  ·rename_i xs
   obtain ⟨o',e',h⟩:=optK_ex h
   unfold kZ2 at h
   split at h
   ·exact ⟨a,b,false,false,xs,_,rfl,e,e',h⟩
   ·exact ⟨a,b,false,true,xs,_,rfl,e,e',h⟩
   ·exact h.elim
  ·rename_i xs
   obtain ⟨o',e',h⟩:=optK_ex h
   unfold kZ2 at h
   split at h
   ·exact ⟨a,b,true,false,xs,_,rfl,e,e',h⟩
   ·exact ⟨a,b,true,true,xs,_,rfl,e,e',h⟩
   ·exact h.elim
  ·exact h.elim
 ·exact h.elim
section
variable {X:Cx}
theorem pi_zip {a b:Expr}{elts:List Expr} {x1}{tp:Pos}{ta:TA}{p pos:Pos}(hg:Gl X "zip") (hm:X.mg "zip"=none) (ha:PA X [a,b] ta) (hs:starEach [a,b] X.env=[(false,eval a X.env),(false,eval b X.env)]:=by rfl) (hs2:starEach [b] X.env=[(false,eval b X.env)]:=by rfl) :
  PI X (.Tuple elts x1 tp) (.Call (.Name "zip" p) [a,b] [] pos) (iZip ta):=by
 intro pins s σ H R I h
 refine Call_ (ld_blt I hg hm (show bootBuiltins "zip"=some (.type "zip") by decide +kernel) (PyProof.Rows.callWith_type1 (thn (ha pos pins s σ H _ I h) fun us s1 ⟨vs,H1,I1,r1,q1⟩=>?_) (by rw [hs,hs2]) (by rw [hs2];rfl)))
 obtain ⟨a,b,ka,kb,xs,ys,rfl,sa,sb,q⟩:=kZ0_ex q1
 cases r1 with
 | cons r rr=>
  cases rr with
  | cons r' rr=>
   cases rr
   cases r
   cases r'
   obtain ⟨as,ra,s1a⟩:=I1.sq sa
   obtain ⟨bs,rb,s1b⟩:=I1.sq sb
   refine call_zq s1a s1b fun h' n hn e1 e2 e3 e4 e5 e6 e7=>?_
   have I2:Inv X pins σ H1 { s1 with heap:=h' }:=I1.kept (t':=s1.toks) e7
   refine wpAny_pyIter_zip (s:={ s1 with heap:=h' }) e1 ⟨n+4,[n+4,n+2,n+3,n,n+1],_,_,H1,rfl,I2,turn_zip ka kb a b (n+4) (n+2) (n+3) n (n+1) xs ys (by simp),⟨e1,e2,⟨_,_,e3⟩,e4,e5⟩,fun c hc=>?_,q⟩
   have hle:s1.heap.objs.size≤c:=by
    rw [←hn]
    simp only [List.mem_cons,List.not_mem_nil,or_false] at hc
    rcases hc with rfl|rfl|rfl|rfl|rfl
    ·exact Nat.le_add_right ..
    ·exact Nat.le_add_right ..
    ·exact Nat.le_add_right ..
    ·exact Nat.le_refl _
    ·exact Nat.le_add_right ..
   exact I1.fpOk hle (I1.hok.fresh hle)
end
end L2
set_option Elab.async false
set_option linter.all false
set_option maxRecDepth 100000
set_option maxHeartbeats 4000000
namespace L2
open PySem PySem.Spec PyProof.Rows
def kCm2 (te:TE) (σ2:St) (N1:VK) (N0:Hp->Prop):Bool->Hp->Prop:=fun b H=>if b=true then te σ2 H N1 else N0 H
theorem m_kCm2 (te:TE) (σ2:St) (N1:VK) (N0:Hp->Prop) (b:Bool) (H:Hp):kCm2 te σ2 N1 N0 b H=(if b=true then te σ2 H N1 else N0 H):=rfl
def kCm (k:Nat) (tt:TT) (te:TE) (σ:St) (N1:VK) (N0:Hp->Prop):St->Hp->Prop:=fun σ2 H=>(∃ vs:St,vs.length=k∧σ2=vs++σ)∧tt σ2 H (kCm2 te σ2 N1 N0)
theorem m_kCm_1 (tt:TT) (te:TE) (σ:St) (N1:VK) (N0:Hp->Prop) (a:Option V) (H:Hp):kCm 1 tt te σ N1 N0 (a::σ) H=tt (a::σ) H (kCm2 te (a::σ) N1 N0):=propext ⟨fun h=>h.2,fun h=>⟨⟨[a],rfl,rfl⟩,h⟩⟩
theorem m_kCm_2 (tt:TT) (te:TE) (σ:St) (N1:VK) (N0:Hp->Prop) (a b:Option V) (H:Hp):kCm 2 tt te σ N1 N0 (a::b::σ) H=tt (a::b::σ) H (kCm2 te (a::b::σ) N1 N0):=propext ⟨fun h=>h.2,fun h=>⟨⟨[a,b],rfl,rfl⟩,h⟩⟩
theorem m_rep_1 (σ:St):List.replicate 1 (none:Option V)++σ=none::σ:=rfl
theorem m_rep_2 (σ:St):List.replicate 2 (none:Option V)++σ=none::none::σ:=rfl
theorem m_rep_3 (σ:St):List.replicate 3 (none:Option V)++σ=none::none::none::σ:=rfl
theorem m_kCm_3 (tt:TT) (te:TE) (σ:St) (N1:VK) (N0:Hp->Prop) (a b c:Option V) (H:Hp):kCm 3 tt te σ N1 N0 (a::b::c::σ) H=tt (a::b::c::σ) H (kCm2 te (a::b::c::σ) N1 N0):=propext ⟨fun h=>h.2,fun h=>⟨⟨[a,b,c],rfl,rfl⟩,h⟩⟩
def Al {α:Type}(R:α->V->Prop) (zs:List α) (ys:List V):Prop:=ys.length=zs.length∧∀ (i:Nat) z y,zs[i]? = some z->ys[i]? = some y->R z y
theorem Al.nil {α:Type}{R:α->V->Prop}:Al R [] []:=⟨rfl,fun i z y h=>by simp at h⟩
theorem Al.snoc {α:Type}{R:α->V->Prop}{zs:List α}{ys:List V}{z:α}{y:V}(h:Al R zs ys) (r:R z y):Al R (zs++[z]) (ys++[y]):=by
 refine ⟨by simp [h.1],fun i z' y' h1 h2=>?_⟩
 by_cases hi:i < zs.length
 ·rw [List.getElem?_append_left hi] at h1
  rw [List.getElem?_append_left (by rw [h.1];exact hi)] at h2
  exact h.2 i z' y' h1 h2
 ·rw [List.getElem?_append_right (by omega)] at h1
  rw [List.getElem?_append_right (by rw [h.1];omega),h.1] at h2
  by_cases h0:i - zs.length=0
  ·rw [h0] at h1 h2;simp at h1 h2;subst h1;subst h2;exact r
  ·rw [List.getElem?_eq_none (by simp;omega)] at h1;cases h1
theorem Al.imp {α:Type}{R S:α->V->Prop}{zs:List α}{ys:List V}(h:Al R zs ys) (f:∀ z y,R z y->S z y):Al S zs ys:=⟨h.1,fun i z y a b=>f z y (h.2 i z y a b)⟩
theorem Al.map {α:Type}{f:α->V}{zs:List α}{ys:List V}(h:Al (fun z y=>y=f z) zs ys):ys=zs.map f:=by
 apply List.ext_getElem?
 intro i
 rw [List.getElem?_map]
 by_cases hi:i < zs.length
 ·have e1:zs[i]? = some zs[i]:=List.getElem?_eq_getElem hi
  have e2:ys[i]? = some (ys[i]'(by rw [h.1];exact hi)):=List.getElem?_eq_getElem _
  rw [e1,e2,h.2 i _ _ e1 e2];rfl
 ·have:=h.1;rw [List.getElem?_eq_none (show ys.length≤i by omega),List.getElem?_eq_none (show zs.length≤i by omega)];rfl
section
variable {k:Nat}{g:TG}{tt:TT}{te:TE}{σ:St}{Q:VK}{H:Hp}{K:PySem.W.Frag}
theorem comp_rel {α:Type}{J:It}(zs:List α) (c:α->Bool) (P:α->V->Hp->Prop) (R:Addr->α->V->Hp->Prop)
  (hgo:∀ i z H',zs[i]? = some z->Ext H H'->J.go i H'∧∀ x H'',J.yld i H' x H''->Ext H' H''∧P z x H'')
  (hst:∀ H',Ext H H'->J.stop zs.length H')
  (hR1:∀ D z y H1 H2,R D z y H1->Ext H1 H2->R D z y H2) (hR2:∀ D z y H1 o,R D z y H1->R D z y (upd H1 D o))
  (hl:zs.length≤sizeLine)
  (hs:∀ D z x H' N1 N0,z∈zs->H D=none->Ext H H'->(∃ ys,H' D=some (.lst ys))->P z x H'->(c z=true->∀ y H'',Ext H' H''->R D z y H''->N1 y H'')->(c z=false->∀ H'',Ext H' H''->N0 H'')->g x (List.replicate k none++σ) H' (kCm k tt te σ N1 N0))
  (hd:∀ D ys H',H D=none->Ext H H'->H' D=some (.lst ys)->Al (fun z y=>R D z y H') (zs.filter c) ys->Q (.ref D) H'):kComp k g tt te σ Q J H:=by
 intro D hD
 refine ⟨fun i m ys H'=>m=zs.length - i∧i≤zs.length∧Ext H H'∧H' D=some (.lst ys)∧Al (fun z y=>R D z y H') ((zs.take i).filter c) ys,⟨zs.length,by simp,Nat.zero_le _,Ext.new hD,upd_same,by simpa using Al.nil⟩,?_⟩
 rintro i m ys H' ⟨rfl,hi,e,hD',al⟩
 by_cases hlt:i < zs.length
 ·have hz:zs[i]? = some zs[i]:=List.getElem?_eq_getElem hlt
  obtain ⟨go,y⟩:=hgo i zs[i] H' hz e
  have tk:zs.take (i+1)=zs.take i++[zs[i]]:=by rw [List.take_succ,hz];rfl
  have ln:ys.length < sizeLine:=by
   have h1:=al.1
   have h2:=List.length_filter_le c (zs.take i)
   simp only [List.length_take] at h2
   omega
  refine .inr ⟨go,fun ys' H2=>Ext H H2∧H2 D=some (.lst ys')∧Al (fun z y=>R D z y H2) ((zs.take (i+1)).filter c) ys',fun ys' H2 p=>⟨zs.length - (i+1),by omega,rfl,hlt,p⟩,fun x H2 z=>?_⟩
  obtain ⟨e2,p2⟩:=y x H2 z
  refine hs D zs[i] x H2 (kC3 D ys _) _ (List.getElem_mem hlt) hD (e.trans e2) ⟨ys,e2.at hD'⟩ p2 (fun hc y H3 e3 r3=>?_) fun hc H3 e3=>?_
  ·refine ⟨e3.at (e2.at hD'),ln,(e.trans (e2.trans e3)).put hD,upd_same,?_⟩
   rw [tk,List.filter_append,show [zs[i]].filter c=[zs[i]] by simp [hc]]
   exact Al.snoc (al.imp fun z y r=>hR2 _ _ _ _ _ (hR1 _ _ _ _ _ r (e2.trans e3))) (hR2 _ _ _ _ _ r3)
  ·refine ⟨e.trans (e2.trans e3),(e2.trans e3).at hD',?_⟩
   rw [tk,List.filter_append,show [zs[i]].filter c=[] by simp [hc],List.append_nil]
   exact al.imp fun z y r=>hR1 _ _ _ _ _ r (e2.trans e3)
 ·have e':i=zs.length:=by omega
  subst e'
  rw [List.take_length] at al
  exact .inl ⟨hst H' e,hd D ys H' hD e hD' al⟩
theorem comp_fm {α:Type}{J:It}(zs:List α) (c:α->Bool) (f:α->V) (P:α->V->Hp->Prop)
  (hgo:∀ i z H',zs[i]? = some z->Ext H H'->J.go i H'∧∀ x H'',J.yld i H' x H''->Ext H' H''∧P z x H'')
  (hst:∀ H',Ext H H'->J.stop zs.length H') (hl:zs.length≤sizeLine)
  (hs:∀ D z x H' N1 N0,z∈zs->H D=none->Ext H H'->P z x H'->(c z=true->∀ H'',Ext H' H''->N1 (f z) H'')->(c z=false->∀ H'',Ext H' H''->N0 H'')->g x (List.replicate k none++σ) H' (kCm k tt te σ N1 N0))
  (hd:∀ D H',H D=none->Ext H H'->H' D=some (.lst ((zs.filter c).map f))->Q (.ref D) H'):kComp k g tt te σ Q J H:=
 comp_rel zs c P (fun _ z y _=>y=f z) hgo hst (fun _ _ _ _ _ r _=>r) (fun _ _ _ _ _ r=>r) hl (fun D z x H' N1 N0 hz hD e _ p k1 k0=>hs D z x H' N1 N0 hz hD e p (fun hc H'' e'=>k1 hc _ H'' e' rfl) k0) fun D ys H' hD e hD' al=>hd D H' hD e (by rw [←al.map];exact hD')
theorem wk_rng {lo:Int}{n:Nat}:(∀ i z H',(List.range n)[i]? = some z->Ext H H'->(Itr lo n).go i H'∧∀ x H'',(Itr lo n).yld i H' x H''->Ext H' H''∧x=.int (lo+(z:Nat)))∧∀ H',Ext H H'->(Itr lo n).stop (List.range n).length H':=by
 refine ⟨fun i z H' hz _=>?_,fun H' _=>by simp [Itr]⟩
 obtain ⟨h1,h2⟩:=List.getElem?_eq_some_iff.mp hz
 have e:i=z:=by simpa using h2
 subst e
 exact ⟨(show i < n by simpa using h1),fun x H'' y=>⟨by rw [y.1];exact Ext.refl _,y.2⟩⟩
theorem wk_lst {a:Addr}{xs:List V}(h:H a=some (.lst xs)):(∀ i z H',xs[i]? = some z->Ext H H'->(Itl K a).go i H'∧∀ x H'',(Itl K a).yld i H' x H''->Ext H' H''∧(x=z∧H'' a=some (.lst xs)))∧∀ H',Ext H H'->(Itl K a).stop xs.length H':=
 ⟨fun i z H' hz e=>⟨⟨xs,z,SqL.of (e.at h),hz⟩,fun x H'' y=>⟨by rw [y.1];exact Ext.refl _,Option.some.inj ((y.2 xs (SqL.of (e.at h))).symm.trans hz),by rw [y.1];exact e.at h⟩⟩,fun H' e=>⟨xs,SqL.of (e.at h),Nat.le_refl _⟩⟩
theorem SqK.ext {kk:Bool}{H H':Hp}{a:Addr}{xs:List V}(h:SqK kk H a xs) (e:Ext H H'):SqK kk H' a xs:=by
 cases kk
 ·exact e.at (show H a=some (.lst xs) from h)
 ·exact e.at (show H a=some (.tup xs) from h)
def zipP (z:V × V) (x:V) (H:Hp):Prop:=∃ p,x=.ref p∧H p=some (.tup [z.1,z.2])
theorem wk_zip {ka kb:Bool}{a b:Addr}{xs ys:List V}(ha:SqK ka H a xs) (hb:SqK kb H b ys):(∀ i z H',(xs.zip ys)[i]? = some z->Ext H H'->(Itz ka kb a b xs ys).go i H'∧∀ x H'',(Itz ka kb a b xs ys).yld i H' x H''->Ext H' H''∧zipP z x H'')∧∀ H',Ext H H'->(Itz ka kb a b xs ys).stop (xs.zip ys).length H':=by
 refine ⟨fun i z H' hz e=>?_,fun H' e=>⟨ha.ext e,hb.ext e,?_⟩⟩
 ·obtain ⟨h1,h2⟩:=List.getElem?_eq_some_iff.mp hz
  rw [List.length_zip] at h1
  refine ⟨⟨ha.ext e,hb.ext e,by omega,by omega⟩,fun x H'' y=>?_⟩
  obtain ⟨p,u,v,hp,rfl,hu,hv,rfl⟩:=y
  refine ⟨Ext.new hp,p,rfl,?_⟩
  rw [upd_same]
  rw [List.getElem?_eq_getElem (by omega)] at hu hv
  cases hu;cases hv
  rw [←h2,List.getElem_zip]
 ·rw [List.length_zip];omega
theorem for_zip {tb:TS}{nx:St->Hp->Prop}{rt:VK}{bk ct:St->Hp->Prop}{ka kb:Bool}{a b:Addr}{xs ys:List V}(Pv:Nat->St->Hp->Prop) (h0:Pv 0 σ H) (hl:∀ i σ H,Pv i σ H->SqK ka H a xs∧SqK kb H b ys)
  (hs:∀ i u v p σ H H',xs[i]? = some u->ys[i]? = some v->Pv i σ H->H p=none->Ext H H'->H' p=some (.tup [u,v])->g (.ref p) σ H' (kBody tb ⟨Pv (i+1),rt,nx,Pv (i+1)⟩)) (hd:∀ σ H,Pv (min xs.length ys.length) σ H->nx σ H):kFor g tb ⟨nx,rt,bk,ct⟩ σ (Itz ka kb a b xs ys) H:=by
 refine ⟨fun i m σ H=>m=min xs.length ys.length - i∧i≤min xs.length ys.length∧Pv i σ H,⟨min xs.length ys.length,by simp,Nat.zero_le _,h0⟩,?_⟩
 rintro i m σ H ⟨rfl,hi,p⟩
 obtain ⟨qa,qb⟩:=hl i σ H p
 by_cases hlt:i < min xs.length ys.length
 ·refine .inr ⟨⟨qa,qb,by omega,by omega⟩,Pv (i+1),fun σ' H' p'=>⟨min xs.length ys.length - (i+1),by omega,rfl,hlt,p'⟩,fun x H' y=>?_⟩
  obtain ⟨r,u,v,hr,rfl,hu,hv,rfl⟩:=y
  exact hs i u v r σ H _ hu hv p hr (Ext.new hr) upd_same
 ·have e:i=min xs.length ys.length:=by omega
  subst e
  exact .inl ⟨⟨qa,qb,by omega⟩,hd σ H p⟩
end
def compB (sc:Scope) (N:List Str) (scope:Scope) (N':List Str) (k:Nat):Bool:=
 scope.names.all (fun y=>!(y.2 == .cell)) && (scope.kind == .function) && scope.names.all (fun y=>!(y.2 == .local) || scope.names.lookup y.1 == some .local) && scope.names.all (fun y=>!(y.2 == .free) || sc.names.lookup y.1 == some .cell) && decide (N'.length=k+N.length) &&
  ((N'.drop k).zip N).all (fun p=>(!(scope.names.lookup p.1 == some .free) || decide (p.1=p.2)) && !(scope.names.lookup p.1 == some .local))
theorem comp_ok {X:Cx}{scope:Scope}{N':List Str}{k:Nat}(sc:Scope) (N:List Str) (h1:X.env.scope=sc) (h2:X.N=N) (h:compB sc N scope N' k=true):CompOk X scope N' k:=by
 unfold compB at h
 simp only [Bool.and_eq_true,decide_eq_true_eq] at h
 obtain ⟨⟨⟨⟨⟨a1,a2⟩,a3⟩,a4⟩,a5⟩,a6⟩:=h
 rw [List.all_eq_true] at a1 a3 a4 a6
 have pr:∀ i x,N'[k+i]? = some x->∃ y,N[i]? = some y∧(x,y)∈(N'.drop k).zip N:=fun i x hx=>by
  have h0:=(List.getElem?_eq_some_iff.mp hx).1
  have hi:i < N.length:=by omega
  have e1:(N'.drop k)[i]? = some x:=by rw [List.getElem?_drop];exact hx
  have e2:N[i]? = some N[i]:=List.getElem?_eq_getElem hi
  refine ⟨_,e2,List.mem_of_getElem? (i:=i) ?_⟩
  rw [List.getElem?_zip_eq_some]
  exact ⟨e1,e2⟩
 refine ⟨fun y hy e=>?_,by simpa using a2,fun y hy e=>?_,fun y hy e=>?_,by rw [h2];exact a5,fun i x hx hf=>?_,fun i x hx hf=>?_⟩
 ·have:=a1 y hy;rw [e] at this;simp at this
 ·have:=a3 y hy;rw [e] at this;simpa using this
 ·have:=a4 y hy;rw [e] at this;rw [h1];simpa using this
 ·obtain ⟨y,hy,hm⟩:=pr i x hx
  have:=a6 _ hm
  simp only [hf] at this
  rw [h2,hy]
  simp at this
  rw [this]
 ·obtain ⟨y,hy,hm⟩:=pr i x hx
  have:=a6 _ hm
  simp [hf] at this
end L2
set_option Elab.async false
set_option linter.all false
set_option maxRecDepth 100000
set_option maxHeartbeats 4000000
namespace L2
open PySem PySem.Spec PyProof.Rows
def kFldV (H:Hp) (Q:VK):V->Prop:=fun v=>Q v H
theorem m_kFldV (H:Hp) (Q:VK) (v:V):kFldV H Q v=Q v H:=rfl
def kFldO (K:PySem.W.Frag) (f:Str) (H:Hp) (Q:VK):HO->Prop:=fun o=>match o with
 | .ins C dx fs=>Cls K C∧NoAttr K C f∧optK (fs.lookup f) (kFldV H Q)
 | _=>False
theorem m_kFldO (K:PySem.W.Frag) (f:Str) (H:Hp) (Q:VK) (C dx:Addr) (fs:List (Str × V)):kFldO K f H Q (.ins C dx fs)=(Cls K C∧NoAttr K C f∧optK (fs.lookup f) (kFldV H Q)):=rfl
def kFld (K:PySem.W.Frag) (f:Str) (Q:VK):VK:=fun x H=>match x with
 | .ref a=>optK (H a) (kFldO K f H Q)
 | _=>False
theorem m_kFld (K:PySem.W.Frag) (f:Str) (Q:VK) (a:Addr) (H:Hp):kFld K f Q (.ref a) H=optK (H a) (kFldO K f H Q):=rfl
def nFld (K:PySem.W.Frag) (ta:TE) (f:Str):TE:=fun σ H Q=>ta σ H (kFld K f Q)
theorem m_nFld (K:PySem.W.Frag) (ta:TE) (f:Str) (σ:St) (H:Hp) (Q:VK):nFld K ta f σ H Q=ta σ H (kFld K f Q):=rfl
theorem kFld_ex {K:PySem.W.Frag}{f:Str}{Q:VK}{x:V}{H:Hp}(h:kFld K f Q x H):∃ a C dx fs v,x=.ref a∧H a=some (.ins C dx fs)∧Cls K C∧NoAttr K C f∧fs.lookup f=some v∧Q v H:=by
 unfold kFld at h
 split at h
 ·obtain ⟨o,e,h⟩:=optK_ex h
  unfold kFldO at h
  split at h
  ·obtain ⟨c,n,h⟩:=h
   obtain ⟨v,l,q⟩:=optK_ex h
   exact ⟨_,_,_,_,v,rfl,e,c,n,l,q⟩
  ·exact h.elim
 ·exact h.elim
section
variable {X:Cx}{e o value:Expr}{ta tv:TE}{f:Str}{pos pos':Pos}
theorem pe_nFld (he:PE X e ta) (hb:attributeBase e f X.env (eval e X.env)=eval e X.env):PE X (.Attribute e f pos) (nFld X.K ta f):=by
 intro pins s σ H Q I h
 refine attr_of hb (thn (he pins s σ H _ I h) fun u s1 ⟨x,H1,I1,rx,q1⟩=>?_)
 obtain ⟨a,C,dx,fs,v,ex,ea,c,n,l,q⟩:=kFld_ex q1
 subst ex
 obtain rfl:u=Value.ref a:=rx
 exact getattr_ok I1 ea c n l fun u' s2 I2 ru=>⟨v,H1,I2,ru,q⟩
def kSetO (K:PySem.W.Frag) (f:Str) (y:V) (a:Addr) (σ:St) (nx:St->Hp->Prop) (H:Hp):HO->Prop:=fun o=>match o with
 | .ins C dx fs=>Cls K C∧NoAttr K C f∧fs.length < 1000∧nx σ (upd H a (.ins C dx (putF f y fs)))
 | _=>False
theorem m_kSetO (K:PySem.W.Frag) (f:Str) (y:V) (a:Addr) (σ:St) (nx:St->Hp->Prop) (H:Hp) (C dx:Addr) (fs:List (Str × V)):kSetO K f y a σ nx H (.ins C dx fs)=(Cls K C∧NoAttr K C f∧fs.length < 1000∧nx σ (upd H a (.ins C dx (putF f y fs)))):=rfl
def kSet1 (K:PySem.W.Frag) (f:Str) (y:V) (σ:St) (nx:St->Hp->Prop):VK:=fun x H=>match x with
 | .ref a=>optK (H a) (kSetO K f y a σ nx H)
 | _=>False
theorem m_kSet1 (K:PySem.W.Frag) (f:Str) (y:V) (σ:St) (nx:St->Hp->Prop) (a:Addr) (H:Hp):kSet1 K f y σ nx (.ref a) H=optK (H a) (kSetO K f y a σ nx H):=rfl
def kSet0 (K:PySem.W.Frag) (f:Str) (ta:TE) (σ:St) (nx:St->Hp->Prop):VK:=fun y H=>ta σ H (kSet1 K f y σ nx)
theorem m_kSet0 (K:PySem.W.Frag) (f:Str) (ta:TE) (σ:St) (nx:St->Hp->Prop) (y:V) (H:Hp):kSet0 K f ta σ nx y H=ta σ H (kSet1 K f y σ nx):=rfl
def nSetF (K:PySem.W.Frag) (ta tv:TE) (f:Str):TS:=fun D σ H=>tv σ H (kSet0 K f ta σ D.nx)
theorem m_nSetF (K:PySem.W.Frag) (ta tv:TE) (f:Str) (nx:St->Hp->Prop) (rt:VK) (bk ct:St->Hp->Prop) (σ:St) (H:Hp):nSetF K ta tv f ⟨nx,rt,bk,ct⟩ σ H=tv σ H (kSet0 K f ta σ nx):=rfl
theorem ps_nSetF (ha:PE X o ta) (hv:PE X value tv) (hs:swapsWith value (some (.Attribute o f pos')) pos.line X.env=pure false):PS X (.Assign [.Attribute o f pos'] value pos) (nSetF X.K ta tv f):=by
 intro pins s σ H D I h
 refine plainObj_wpAny_Assign_Attribute (thn (hv pins s σ H _ I h) fun u s1 ⟨y,H1,I1,ry,q⟩=>thn (ha pins s1 σ H1 _ I1 q) fun ov s2 ⟨x,H2,I2,rx,q1⟩=>?_) hs
 unfold kSet1 at q1
 split at q1
 ·rename_i a
  obtain rfl:ov=Value.ref a:=rx
  obtain ⟨ob,ea,q1⟩:=optK_ex q1
  unfold kSetO at q1
  split at q1
  ·obtain ⟨c,n,l,q2⟩:=q1
   exact setattr_ok I2 ea c n l ry fun s3 I3=>⟨σ,_,I3,q2⟩
  ·exact q1.elim
 ·exact q1.elim
end
def kMethA (sp:Sp) (dvs:List V) (E:XK) (a:Addr) (Q:VK):List V->Hp->Prop:=fun vs H=>sp (.ref a::(vs++dvs)) H Q E
theorem m_kMethA_0 (sp:Sp) (dvs:List V) (E:XK) (a:Addr) (Q:VK) (H:Hp):kMethA sp dvs E a Q [] H=sp (.ref a::dvs) H Q E:=rfl
def kMethO (C:Addr) (m:Str) (sp:Sp) (dvs:List V) (E:XK) (t:TA) (σ:St) (Q:VK) (a:Addr) (H:Hp):HO->Prop:=fun o=>match o with
 | .ins C' dx fs=>C'=C∧fs.lookup m=none∧t σ H (kMethA sp dvs E a Q)
 | _=>False
theorem m_kMethO (C:Addr) (m:Str) (sp:Sp) (dvs:List V) (E:XK) (t:TA) (σ:St) (Q:VK) (a:Addr) (H:Hp) (dx:Addr) (fs:List (Str × V)):kMethO C m sp dvs E t σ Q a H (.ins C dx fs)=(fs.lookup m=none∧t σ H (kMethA sp dvs E a Q)):=propext ⟨fun h=>h.2,fun h=>⟨rfl,h⟩⟩
def kMeth (C:Addr) (m:Str) (sp:Sp) (dvs:List V) (E:XK) (t:TA) (σ:St) (Q:VK):VK:=fun x H=>match x with
 | .ref a=>optK (H a) (kMethO C m sp dvs E t σ Q a H)
 | _=>False
theorem m_kMeth (C:Addr) (m:Str) (sp:Sp) (dvs:List V) (E:XK) (t:TA) (σ:St) (Q:VK) (a:Addr) (H:Hp):kMeth C m sp dvs E t σ Q (.ref a) H=optK (H a) (kMethO C m sp dvs E t σ Q a H):=rfl
def nMeth (C:Addr) (m:Str) (sp:Sp) (dvs:List V) (E:XK) (ta:TE) (t:TA):TE:=fun σ H Q=>ta σ H (kMeth C m sp dvs E t σ Q)
theorem m_nMeth (C:Addr) (m:Str) (sp:Sp) (dvs:List V) (E:XK) (ta:TE) (t:TA) (σ:St) (H:Hp) (Q:VK):nMeth C m sp dvs E ta t σ H Q=ta σ H (kMeth C m sp dvs E t σ Q):=rfl
theorem kMeth_ex {C:Addr}{m:Str}{sp:Sp}{dvs:List V}{E:XK}{t:TA}{σ:St}{Q:VK}{x:V}{H:Hp}(h:kMeth C m sp dvs E t σ Q x H):∃ a dx fs,x=.ref a∧H a=some (.ins C dx fs)∧fs.lookup m=none∧t σ H fun vs H2=>sp (x::(vs++dvs)) H2 Q E:=by
 unfold kMeth at h
 split at h
 ·obtain ⟨o,e,h⟩:=optK_ex h
  unfold kMethO at h
  split at h
  ·obtain ⟨rfl,l,h⟩:=h
   exact ⟨_,_,_,rfl,e,l,h⟩
  ·exact h.elim
 ·exact h.elim
section
variable {X:Cx}{CX:CXT}{k:Nat}{f C:Addr}{fd:FuncData}{ps:List Str}{sp:Sp}{dvs:List V}{ds:List Value}{E:XK}{x m:Str}{p pos apos:Pos}{e o:Expr}{es:List Expr}{ta:TE}{t:TA}
theorem pe_nMeth0 {pl:Sem Bool}(he:PE X o ta) (c:Cls X.K C) (hm:Meth X.K C m f) (F:FnOk X.prog X.w X.K X.mg X.base CX k f fd ps sp) (hr:Room k X.A) (hb:Binds X.K fd ps ds) (hd:Vals dvs ds) (hx:Passes CX X E)
  (ht:eval (.Call (.Attribute o m apos) [] [] pos) X.env=(do
   let ov ←eval o X.env
   standAt apos.atName
   let (f,first) ←holding [ov] (getMethod ov m pl)
   callWith pos f first (backTo pos (starEach [] X.env)) (backToKw pos (keywordEach [] X.env))):=by rfl) :
  PE X (.Call (.Attribute o m apos) [] [] pos) (nMeth C m sp dvs E ta tNil):=by
 intro pins s σ H Q I h
 refine PySem.W.methodCall_KW (pl:=pl) (thn (he pins s σ H _ I h) fun u s1 ⟨x,H1,I1,rx,q0⟩=>?_) ht
 obtain ⟨a,dx,fs,ex,ea,l,q⟩:=kMeth_ex q0
 subst ex
 obtain rfl:u=Value.ref a:=rx
 refine getmeth_ok I1 ea c hm l ?_
 exact PySem.W.callWith_K0 (first:=[.ref a]) I1.kIn hm.kp (run_fn (us:=[.ref a]) (vs:=[.ref a]) F hr hb hd hx I1 (.cons rfl .nil) q)
end
def kMade (x:Addr) (Q:VK):VK:=fun v H=>v=.non∧Q (.ref x) H
theorem m_kMade (x:Addr) (Q:VK) (H:Hp):kMade x Q .non H=Q (.ref x) H:=propext ⟨fun h=>h.2,fun h=>⟨rfl,h⟩⟩
def kMake (C:Addr) (sp:Sp) (dvs:List V) (E:XK) (Q:VK):List V->Hp->Prop:=fun vs H=>∀ (x dx:Addr) (H':Hp),H x=none->H dx=none->dx ≠ x->Ext H H'->H' x=some (.ins C dx [])->H' dx=some (.own x)->sp (.ref x::(vs++dvs)) H' (kMade x Q) E
theorem m_kMake_3 (C:Addr) (sp:Sp) (dvs:List V) (E:XK) (Q:VK) (a b c:V) (H:Hp):kMake C sp dvs E Q [a,b,c] H=∀ (x dx:Addr) (H':Hp),H x=none->H dx=none->dx ≠ x->Ext H H'->H' x=some (.ins C dx [])->H' dx=some (.own x)->sp (.ref x::a::b::c::dvs) H' (kMade x Q) E:=rfl
def nMake (C:Addr) (sp:Sp) (dvs:List V) (E:XK) (t:TA):TE:=fun σ H Q=>t σ H (kMake C sp dvs E Q)
theorem m_nMake (C:Addr) (sp:Sp) (dvs:List V) (E:XK) (t:TA) (σ:St) (H:Hp) (Q:VK):nMake C sp dvs E t σ H Q=t σ H (kMake C sp dvs E Q):=rfl
section
variable {X:Cx}{CX:CXT}{k:Nat}{f C:Addr}{fd:FuncData}{ps:List Str}{sp:Sp}{dvs:List V}{ds:List Value}{E:XK}{x m:Str}{p pos apos:Pos}{e o:Expr}{es:List Expr}{ta:TE}{t:TA}
theorem kMake.to {Q:VK}{vs:List V}{H:Hp}(h:kMake C sp dvs E Q vs H):∀ x dx,H x=none->H dx=none->dx ≠ x->sp (.ref x::(vs++dvs)) (upd (upd H dx (.own x)) x (.ins C dx [])) (fun v H2=>v=.non∧Q (.ref x) H2) E:=fun x dx hx hd ne=>
 h x dx _ hx hd ne ((Ext.new hd).put hx) upd_same (by rw [upd_ne ne,upd_same])
theorem pe_nMake (M:Mk X.K C f) (F:FnOk X.prog X.w X.K X.mg X.base CX k f fd ps sp) (hr:Room (k+1) X.A) (hg:Gl X x) (hm:X.mg x=some (.ref C)) (hb:Binds X.K fd ps ds) (hd:Vals dvs ds) (hx:Passes CX X E)
  (ha:PA X (e::es) t) (hdb:(x == ("__debug__":Str))=false:=by decide) (he:starEach (e::es) X.env=(false,eval e X.env)::starEach es X.env:=by rfl) (hpl:(backTo pos (starEach es X.env)).any (·.1)=false:=by rfl) :
  PE X (.Call (.Name x p) (e::es) [] pos) (nMake C sp dvs E t):=by
 intro pins s σ H Q I h
 refine wpAny_Call_Name_kw (ld_glob I hg hm ?_ hdb)
 refine PySem.W.callWith_K (h₀:=X.base) I.ok.mod.kin M.kp (thn (ha pos pins s σ H _ I h) fun us s1 ⟨vs,H1,I1,r,q⟩=>⟨I1.kIn,?_⟩) he hpl
 exact run_make M F hr hb hd hx I1 r q.to
end
end L2
set_option Elab.async false
set_option linter.all false
set_option maxRecDepth 100000
set_option maxHeartbeats 4000000
namespace L2
open PySem PySem.Spec PyProof.Rows
def notStar:Expr->Bool
 | .Starred ..=>false
 | _=>true
theorem star_ok {e:Expr}{es:List Expr}{env:Env}(h:notStar e=true):starEach (e::es) env=(false,eval e env)::starEach es env:=by
 cases e<;>first|rfl|cases h
theorem pa_c {X:Cx}{e:Expr}{es:List Expr}{te:TE}{t:TA}(ha:PE X e te) (hr:PA X es t) (hn:notStar e=true:=by rfl):PA X (e::es) (tCons te t):=pa_cons ha hr (star_ok hn)
end L2
namespace L2
open PySem PySem.Spec PyProof.Rows
def TupV (H:Hp) (z:List Int) (y:V):Prop:=∃ q,y=.ref q∧H q=some (.tup (z.map V.int))
theorem TupV.ext {H H':Hp}{z:List Int}{y:V}(h:TupV H z y) (e:Ext H H'):TupV H' z y:=by
 obtain ⟨q,rfl,hq⟩:=h
 exact ⟨q,rfl,e.at hq⟩
def TupsAt (H:Hp) (p:Addr) (zs:List (List Int)):Prop:=∃ ys,H p=some (.lst ys)∧Al (TupV H) zs ys
theorem TupsAt.ext {H H':Hp}{p:Addr}{zs:List (List Int)}(h:TupsAt H p zs) (e:Ext H H'):TupsAt H' p zs:=by
 obtain ⟨ys,hp,al⟩:=h
 exact ⟨ys,e.at hp,al.imp fun _ _ r=>r.ext e⟩
theorem tups_all {H:Hp}{f:V->Option PyData}:∀ {zs:List (List Int)}{ys:List V},Al (TupV H) zs ys->allSome (ys.map (datF H (datF H f)))=some (zs.map fun z=>PyData.tuple (z.map PyData.int))
 | [],ys,h=>by rw [List.eq_nil_of_length_eq_zero h.1];rfl
 | z::zs,[],h=>by have:=h.1;simp at this
 | z::zs,y::ys,h=>by
  obtain ⟨q,rfl,hq⟩:=h.2 0 z y rfl rfl
  have ih:=tups_all (H:=H) (f:=f) (zs:=zs) (ys:=ys) ⟨by have:=h.1;simpa using this,fun i z y a b=>h.2 (i+1) z y (by simpa using a) (by simpa using b)⟩
  have e1:datF H (datF H f) (.ref q)=some (.tuple (z.map PyData.int)):=by
   rw [m_datF_ref,hq]
   show datO (datF H f) (.tup (z.map V.int))=_
   rw [m_datO_tup,allSome_ints];rfl
  rw [List.map_cons,e1,m_allSome_cons,ih];rfl
theorem len5000 {n:Nat}(h:n≤5000):n≤sizeLine:=Nat.le_trans h (by decide)
theorem lt5000 {n:Nat}(h:n < 5000):n < sizeLine:=Nat.lt_of_lt_of_le h (by decide)
def kCT2 (xs:List V) (H:Hp) (Q:VK):List V->Prop:=fun ys=>xs.length+ys.length≤sizeLine∧∀ (p:Addr) (H':Hp),Ext H H'->H' p=some (.tup (xs++ys))->Q (.ref p) H'
theorem x_kCT2 (xs:List V) (H:Hp) (Q:VK) (ys:List V):kCT2 xs H Q ys=(xs.length+ys.length≤sizeLine∧∀ (p:Addr) (H':Hp),Ext H H'->H' p=some (.tup (xs++ys))->Q (.ref p) H'):=rfl
def kCT1 (b:Addr) (H:Hp) (Q:VK):List V->Prop:=fun xs=>optK (tupAt H b) (kCT2 xs H Q)
theorem m_kCT1 (b:Addr) (H:Hp) (Q:VK) (xs:List V):kCT1 b H Q xs=optK (tupAt H b) (kCT2 xs H Q):=rfl
def nCatT:R2:=fun x y H Q=>match x,y with
 | .ref l,.ref b=>optK (tupAt H l) (kCT1 b H Q)
 | _,_=>False
theorem m_nCatT (l b:Addr) (H:Hp) (Q:VK):nCatT (.ref l) (.ref b) H Q=optK (tupAt H l) (kCT1 b H Q):=rfl
theorem op_nCatT {X:Cx}:OpR X (binaryOp .Add) nCatT:=by
 intro pins s σ H x y v u Q I rx ry h
 unfold nCatT at h
 split at h
 ·rename_i l b
  obtain ⟨xs,e1,h⟩:=optK_ex h
  obtain ⟨ys,e2,hz,k⟩:=optK_ex h
  have g1:=tup_of e1
  have g2:=tup_of e2
  by_cases hx:xs=[]
  ·subst hx
   cases rx
   cases ry
   obtain ⟨its,r1,p1,_⟩:=I.tuple (SqT.of g1)
   obtain ⟨its2,r2,p2,_⟩:=I.tuple (SqT.of g2)
   obtain ⟨⟨cls,dd,data,sl⟩,ho,hc,n,hd⟩:=id p1
   obtain ⟨⟨cls2,dd2,data2,sl2⟩,ho2,hc2,n2,hd2⟩:=id p2
   simp only at hc hd hc2 hd2
   subst hc hd hc2 hd2
   cases r1
   exact concat_meets ⟨_,ho,rfl⟩ ⟨_,ho2,rfl⟩ noFill_tuple_add seq_tuple_add PySem.F.slot_tuple_add PySem.F.entry_tuple_add (PySem.F.args_tuple_add_2 _ _)
    (tuple_addW0 l b #[] its2.toArray n n2 dd dd2 sl sl2 (by simp)) ⟨ho,ho2,show EP X pins σ Q (.ref b) s from ⟨.ref b,H,I,rfl,k b H (Ext.refl _) (by rw [List.nil_append];exact g2)⟩⟩
  ·refine op_catT pins s σ H (.ref l) (.ref b) v u Q I rx ry ⟨l,b,xs,ys,rfl,rfl,SqT.of g1,SqT.of g2,hx,hz,fun hy=>?_,fun hy p hp=>k p _ (Ext.new hp) upd_same⟩
   subst hy
   exact k l H (Ext.refl _) (by rw [List.append_nil];exact g1)
 ·exact h.elim
end L2
set_option Elab.async false
set_option linter.all false
set_option maxRecDepth 100000
set_option maxHeartbeats 4000000
namespace L2
open PySem PySem.Spec PyProof.Rows
theorem wk_al {K:PySem.W.Frag}{H:Hp} {α:Type}{R:α->V->Hp->Prop}(hR:∀ z y H H',R z y H->Ext H H'->R z y H'){l:Addr}{ys:List V}{zs:List α}(h:H l=some (.lst ys)) (al:Al (fun z y=>R z y H) zs ys) :
  (∀ i z H',zs[i]? = some z->Ext H H'->(Itl K l).go i H'∧∀ x H'',(Itl K l).yld i H' x H''->Ext H' H''∧R z x H'')∧∀ H',Ext H H'->(Itl K l).stop zs.length H':=by
 refine ⟨fun i z H' hz e=>?_,fun H' e=>⟨ys,SqL.of (e.at h),by rw [al.1];exact Nat.le_refl _⟩⟩
 have hi:i < ys.length:=by rw [al.1];exact (List.getElem?_eq_some_iff.mp hz).1
 have hy:ys[i]? = some ys[i]:=List.getElem?_eq_getElem hi
 refine ⟨⟨ys,ys[i],SqL.of (e.at h),hy⟩,fun x H'' y=>?_⟩
 have hx:x=ys[i]:=Option.some.inj ((y.2 ys (SqL.of (e.at h))).symm.trans hy)
 refine ⟨by rw [y.1];exact Ext.refl _,?_⟩
 rw [hx,y.1]
 exact hR _ _ _ _ (al.2 i z _ hz hy) e
def axP (a:Int × Int) (x:V) (H:Hp):Prop:=∃ q,x=.ref q∧H q=some (.tup [.int a.1,.int a.2])
theorem axP.ext {a:Int × Int}{x:V}{H H':Hp}(h:axP a x H) (e:Ext H H'):axP a x H':=by
 obtain ⟨q,rfl,hq⟩:=h
 exact ⟨q,rfl,e.at hq⟩
theorem al_axP {H:Hp}{axs:List (Int × Int)}{ys:List V}(al:Al (TupV H) (axs.map fun a=>[a.1,a.2]) ys):Al (fun a y=>axP a y H) axs ys:=by
 refine ⟨by rw [al.1,List.length_map],fun i a y ha hy=>?_⟩
 obtain ⟨q,hq,h⟩:=al.2 i [a.1,a.2] y (by rw [List.getElem?_map,ha];rfl) hy
 exact ⟨q,hq,h⟩
end L2
set_option Elab.async false
set_option linter.all false
set_option maxRecDepth 100000
set_option maxHeartbeats 4000000
namespace L2
open PySem PySem.Spec PyProof.Rows
section
variable {prog:Program}{w:World}{A:Around}{E:Value->Shared->Prop}{s:Shared}
variable {z TI TO i j:Addr}{f g:List Addr}{ti tj:Nat->Heap->Prop}{vi vj:Nat->Option Value}{k m:Nat}{x y:Value}{t:Addr}{fl:Bool}{ot:Obj}
variable {ka kb:Bool}{a b p q:Addr}{as bs:Array Value}{n:Nat}
end
section
variable {X:Cx}{pins:List (Addr × Obj)}{σ:St}{s:Shared}
end
section
variable {X:Cx}
end
def kClr (l:Addr) (H:Hp) (Q:VK):List V->Prop:=fun _=>Q .non (upd H l (.lst []))
theorem m_kClr (l:Addr) (H:Hp) (Q:VK) (xs:List V):kClr l H Q xs=Q .non (upd H l (.lst [])):=rfl
theorem m_rClear (l:Addr) (H:Hp) (Q:VK):rClear (.ref l) [] H Q=optK (lstAt H l) (kClr l H Q):=by
 unfold rClear
 refine propext ⟨fun h=>?_,fun h=>?_⟩
 ·obtain ⟨l',xs,e,_,hl,q⟩:=h
  cases e
  have e2:lstAt H l=some xs:=by unfold lstAt;rw [hl];rfl
  rw [e2,optK_some];exact q
 ·obtain ⟨xs,e,q⟩:=optK_ex h
  exact ⟨l,xs,rfl,rfl,lst_of e,q⟩
end L2
set_option Elab.async false
set_option linter.all false
set_option maxRecDepth 100000
set_option maxHeartbeats 4000000
namespace L2
open PySem PySem.Spec PyProof.Rows
section
variable {X:Cx}
end
def kExt2 (l:Addr) (xs:List V) (H:Hp) (Q:VK):List V->Prop:=fun zs=>xs.length+zs.length≤sizeLine∧Q .non (upd H l (.lst (xs++zs)))
theorem m_kExt2 (l:Addr) (xs:List V) (H:Hp) (Q:VK) (zs:List V):kExt2 l xs H Q zs=(xs.length+zs.length≤sizeLine∧Q .non (upd H l (.lst (xs++zs)))):=rfl
def kExt1 (l b:Addr) (H:Hp) (Q:VK):List V->Prop:=fun xs=>optK (lstAt H b) (kExt2 l xs H Q)
theorem m_kExt1 (l b:Addr) (H:Hp) (Q:VK) (xs:List V):kExt1 l b H Q xs=optK (lstAt H b) (kExt2 l xs H Q):=rfl
theorem m_rExtend (l b:Addr) (H:Hp) (Q:VK):rExtend (.ref l) [.ref b] H Q=optK (lstAt H l) (kExt1 l b H Q):=by
 refine propext ⟨fun h=>?_,fun h=>?_⟩
 ·obtain ⟨l',b',xs,zs,e1,e2,h1,h2,h3,q⟩:=h
  cases e1
  cases e2
  unfold lstAt
  rw [h1]
  show optK (lstAt H b) _
  unfold lstAt
  rw [h2]
  exact ⟨h3,q⟩
 ·obtain ⟨xs,e,h⟩:=optK_ex h
  obtain ⟨zs,e2,h3,q⟩:=optK_ex h
  exact ⟨l,b,xs,zs,rfl,rfl,lst_of e,lst_of e2,h3,q⟩
section
variable {X:Cx}{a b c d:Expr}{ta tb tc td:TE}{pos:Pos}
end
section
variable {k:Nat}{g:TG}{tt:TT}{te:TE}{σ:St}{Q:VK}{H:Hp}{K:PySem.W.Frag}
theorem comp_rel2 {α:Type}{J:It}(zs:List α) (c:α->Bool) (P:α->V->Hp->Prop) (R:Addr->α->V->Hp->Prop)
  (hgo:∀ i z H',zs[i]? = some z->Ext H H'->J.go i H'∧∀ x H'',J.yld i H' x H''->Ext H' H''∧P z x H'')
  (hst:∀ H',Ext H H'->J.stop zs.length H')
  (hR1:∀ D z y H1 H2,R D z y H1->Ext H1 H2->R D z y H2) (hR2:∀ D z y H1 xs o,R D z y H1->H1 D=some (.lst xs)->R D z y (upd H1 D o))
  (hl:zs.length≤sizeLine)
  (hs:∀ D z x H' N1 N0,z∈zs->H D=none->Ext H H'->(∃ ys,H' D=some (.lst ys))->P z x H'->(c z=true->∀ y H'',Ext H' H''->R D z y H''->N1 y H'')->(c z=false->∀ H'',Ext H' H''->N0 H'')->g x (List.replicate k none++σ) H' (kCm k tt te σ N1 N0))
  (hd:∀ D ys H',H D=none->Ext H H'->H' D=some (.lst ys)->Al (fun z y=>R D z y H') (zs.filter c) ys->Q (.ref D) H'):kComp k g tt te σ Q J H:=by
 intro D hD
 refine ⟨fun i m ys H'=>m=zs.length - i∧i≤zs.length∧Ext H H'∧H' D=some (.lst ys)∧Al (fun z y=>R D z y H') ((zs.take i).filter c) ys,⟨zs.length,by simp,Nat.zero_le _,Ext.new hD,upd_same,by simpa using Al.nil⟩,?_⟩
 rintro i m ys H' ⟨rfl,hi,e,hD',al⟩
 by_cases hlt:i < zs.length
 ·have hz:zs[i]? = some zs[i]:=List.getElem?_eq_getElem hlt
  obtain ⟨go,y⟩:=hgo i zs[i] H' hz e
  have tk:zs.take (i+1)=zs.take i++[zs[i]]:=by rw [List.take_succ,hz];rfl
  have ln:ys.length < sizeLine:=by
   have h1:=al.1
   have h2:=List.length_filter_le c (zs.take i)
   simp only [List.length_take] at h2
   omega
  refine .inr ⟨go,fun ys' H2=>Ext H H2∧H2 D=some (.lst ys')∧Al (fun z y=>R D z y H2) ((zs.take (i+1)).filter c) ys',fun ys' H2 p=>⟨zs.length - (i+1),by omega,rfl,hlt,p⟩,fun x H2 z=>?_⟩
  obtain ⟨e2,p2⟩:=y x H2 z
  refine hs D zs[i] x H2 (kC3 D ys _) _ (List.getElem_mem hlt) hD (e.trans e2) ⟨ys,e2.at hD'⟩ p2 (fun hc y H3 e3 r3=>?_) fun hc H3 e3=>?_
  ·refine ⟨e3.at (e2.at hD'),ln,(e.trans (e2.trans e3)).put hD,upd_same,?_⟩
   rw [tk,List.filter_append,show [zs[i]].filter c=[zs[i]] by simp [hc]]
   exact Al.snoc (al.imp fun z y r=>hR2 _ _ _ _ _ _ (hR1 _ _ _ _ _ r (e2.trans e3)) (e3.at (e2.at hD'))) (hR2 _ _ _ _ _ _ r3 (e3.at (e2.at hD')))
  ·refine ⟨e.trans (e2.trans e3),(e2.trans e3).at hD',?_⟩
   rw [tk,List.filter_append,show [zs[i]].filter c=[] by simp [hc],List.append_nil]
   exact al.imp fun z y r=>hR1 _ _ _ _ _ r (e2.trans e3)
 ·have e':i=zs.length:=by omega
  subst e'
  rw [List.take_length] at al
  exact .inl ⟨hst H' e,hd D ys H' hD e hD' al⟩
end
end L2
set_option Elab.async false
set_option linter.all false
set_option maxRecDepth 100000
set_option maxHeartbeats 4000000
namespace L2
open PySem PySem.Spec PyProof.Rows
def Ite (l:Addr) (xs:List V):It:=
 ⟨fun i H=>H l=some (.lst xs)∧i < xs.length,fun i H x H'=>∃ p u,H p=none∧x=.ref p∧xs[i]? = some u∧H'=upd H p (.tup [.int (i:Int),u]),fun i H=>H l=some (.lst xs)∧i=xs.length⟩
def Tne (l e it:Addr) (i:Nat) (h:Heap):Prop:=(∃ old,IsEnum h e it (i:Int) old)∧h.IsListIter it l i
theorem turn_enum {P:Program}{w:World}{K:PySem.W.Frag}{elts:List Expr} {x1}{tp:Pos}(l e it:Addr) (xs:List V) (ne:e ≠ it):Turn P w K (.Tuple elts x1 tp) (Ite l xs) [e,it] e (Tne l e it) where
 mem:=List.mem_cons_self
 obj:=fun i h st c hc=>by
  obtain ⟨⟨old,e1⟩,e2⟩:=st
  simp only [List.mem_cons,List.not_mem_nil,or_false] at hc
  rcases hc with rfl|rfl
  ·exact ⟨_,e1,fun v z=>by cases z⟩
  ·obtain ⟨o,e,_,d⟩:=e2;exact ⟨o,e,fun v z=>by rw [d] at z;cases z⟩
 keep:=fun i h h' st k=>by
  obtain ⟨⟨old,e1⟩,e2⟩:=st
  exact ⟨⟨old,k e (by simp) _ e1⟩,e2.at fun o q=>k it (by simp) o q⟩
 item:=by
  intro X hP hw hK hc i pins s σ H E I hf st hg
  subst hP hw hK
  obtain ⟨ha,l1⟩:=hg
  obtain ⟨as,ra,pl,_⟩:=I.list (SqL.of ha)
  have hx:xs[i]? = some xs[i]:=List.getElem?_eq_getElem l1
  obtain ⟨u,hu,ru⟩:=ra.get hx
  have free:∀ c∈[e,it],H c=none:=fun c h=>(hf c h).1
  have nle:l ≠ e:=fun z=>by have:=free e (by simp);rw [←z,ha] at this;cases this
  have nlt:l ≠ it:=fun z=>by have:=free it (by simp);rw [←z,ha] at this;cases this
  have W:=WalksT.enumerate (prog:=X.prog) (w:=X.w) (I.ok.hd hc) e it l ne nle nlt as.toArray
  have la:=ra.length
  obtain ⟨e1,e2⟩:=st
  obtain ⟨old,e1'⟩:=e1
  refine W.item i s _ E (by simp;omega) ⟨⟨old,e1'⟩,e2,pl.isList⟩ fun T vals h1 tk hp hle hT hmid kp=>⟨_,rfl,?_⟩
  refine W.go elts x1 tp i T ⟨h1,s.gens,s.drawn,tk,s.os⟩ _ E hmid fun h2 st2 kp2=>?_
  have nT:=W.apart i T h1 hmid
  obtain ⟨tk',x,hx',rfl⟩:=hp
  have hxu:x=u:=by
   have:as[i]? = some x:=by simpa using hx'
   rw [hu] at this;exact (Option.some.inj this).symm
  subst hxu
  have hT2:h2.IsTuple T #[.int (i:Int) tk',x]:=hT.at fun o q=>kp2 T o nT q
  have I2:Inv X pins σ (upd H T (.tup [.int (i:Int),xs[i]])) { s with heap:=h2,toks:=tk }:=I.turnNew (t':=tk) (ch:=[e,it]) (fun c hc=>hf c hc) (fun c o hc q=>kp2 c o hc (kp c o hc q)) hle ⟨(show 2≤sizeLine by decide),[.int (i:Int) tk',x],.cons ⟨tk',rfl⟩ (.cons ru .nil),hT2⟩
  have fr:H T=none:=I.hok.fresh hle
  refine ⟨.ref T,_,I2,rfl,⟨_,_,fr,rfl,hx,rfl⟩,⟨st2.1,st2.2.1⟩,fun c hc=>?_⟩
  have hlt:c < s.heap.objs.size:=by
   simp only [List.mem_cons,List.not_mem_nil,or_false] at hc
   rcases hc with rfl|rfl
   ·exact Heap.lt_size e1'
   ·obtain ⟨o,q,_⟩:=e2;exact Heap.lt_size q
  rw [upd_ne (Nat.ne_of_lt (Nat.lt_of_lt_of_le hlt hle))]
  exact free c hc
 done:=by
  intro X hP hw hK hc i pins s σ H E I hf st hg
  subst hP hw hK
  obtain ⟨ha,rfl⟩:=hg
  obtain ⟨as,ra,pl,_⟩:=I.list (SqL.of ha)
  have free:∀ c∈[e,it],H c=none:=fun c h=>(hf c h).1
  have nle:l ≠ e:=fun z=>by have:=free e (by simp);rw [←z,ha] at this;cases this
  have nlt:l ≠ it:=fun z=>by have:=free it (by simp);rw [←z,ha] at this;cases this
  have W:=WalksT.enumerate (prog:=X.prog) (w:=X.w) (I.ok.hd hc) e it l ne nle nlt as.toArray
  have la:=ra.length
  have hsz:as.toArray.size=xs.length:=by simp [la]
  obtain ⟨e1,e2⟩:=st
  refine W.done s _ E (by rw [hsz];exact ⟨e1,e2,pl.isList⟩) fun h' tk kp=>⟨rfl,I.turnL (t':=tk) (ch:=[e,it]) (fun c hc=>hf c hc) kp⟩
 self:=fun A i s Q E st h=>by
  obtain ⟨⟨old,e1⟩,e2⟩:=st
  exact wpAny_pyIter_enum e1 h
def kEn1 (l:Addr) (H:Hp) (R:It->Hp->Prop):List V->Prop:=fun xs=>R (Ite l xs) H
theorem m_kEn1 (l:Addr) (H:Hp) (R:It->Hp->Prop) (xs:List V):kEn1 l H R xs=R (Ite l xs) H:=rfl
def kEn0 (R:It->Hp->Prop):List V->Hp->Prop:=fun vs H=>match vs with
 | [.ref l]=>optK (lstAt H l) (kEn1 l H R)
 | _=>False
theorem m_kEn0 (R:It->Hp->Prop) (l:Addr) (H:Hp):kEn0 R [.ref l] H=optK (lstAt H l) (kEn1 l H R):=rfl
def iEnum (ta:TA):TI:=fun σ H R=>ta σ H (kEn0 R)
theorem m_iEnum (ta:TA) (σ:St) (H:Hp) (R:It->Hp->Prop):iEnum ta σ H R=ta σ H (kEn0 R):=rfl
section
variable {X:Cx}
theorem pi_enum {a:Expr}{elts:List Expr} {x1}{tp:Pos}{ta:TA}{p pos:Pos}(hg:Gl X "enumerate") (hm:X.mg "enumerate"=none) (ha:PA X [a] ta) (he:starEach [a] X.env=[(false,eval a X.env)]:=by rfl) :
  PI X (.Tuple elts x1 tp) (.Call (.Name "enumerate" p) [a] [] pos) (iEnum ta):=by
 intro pins s σ H R I h
 refine Call_ (ld_blt I hg hm (show bootBuiltins "enumerate"=some (.type "enumerate") by decide +kernel) (PyProof.Rows.callWith_type1 (thn (ha pos pins s σ H _ I h) fun us s1 ⟨vs,H1,I1,r1,q1⟩=>?_) (by rw [he];rfl) (by rfl)))
 unfold kEn0 at q1
 split at q1
 ·rename_i l
  obtain ⟨xs,e,q⟩:=optK_ex q1
  replace e:=lst_of e
  cases r1 with
  | cons r rr=>
   cases rr
   cases r
   obtain ⟨as,ra,pl,_⟩:=I1.list (SqL.of e)
   refine call_enumerate_list pl.isList fun h' e1 e2 e3 e4=>?_
   have I2:Inv X pins σ H1 { s1 with heap:=h' }:=I1.kept (t':=s1.toks) e4
   refine wpAny_pyIter_enum (s:={ s1 with heap:=h' }) e1 ⟨s1.heap.objs.size+1,[s1.heap.objs.size+1,s1.heap.objs.size],_,_,H1,rfl,I2,turn_enum l (s1.heap.objs.size+1) s1.heap.objs.size xs (by simp),⟨⟨_,e1⟩,e2⟩,fun c hc=>?_,q⟩
   have hle:s1.heap.objs.size≤c:=by
    simp only [List.mem_cons,List.not_mem_nil,or_false] at hc
    rcases hc with rfl|rfl
    ·exact Nat.le_add_right ..
    ·exact Nat.le_refl _
   exact I1.fpOk hle (I1.hok.fresh hle)
 ·exact q1.elim
end
section
variable {g:TG}{σ:St}{Q:VK}{H:Hp}{K:PySem.W.Frag}
theorem for_enum {tb:TS}{nx:St->Hp->Prop}{rt:VK}{bk ct:St->Hp->Prop}{l:Addr}{xs:List V}(Pv:Nat->St->Hp->Prop) (h0:Pv 0 σ H) (hl:∀ i σ H,Pv i σ H->H l=some (.lst xs))
  (hs:∀ i u p σ H H',xs[i]? = some u->Pv i σ H->H p=none->Ext H H'->H' p=some (.tup [.int (i:Int),u])->g (.ref p) σ H' (kBody tb ⟨Pv (i+1),rt,nx,Pv (i+1)⟩)) (hd:∀ σ H,Pv xs.length σ H->nx σ H):kFor g tb ⟨nx,rt,bk,ct⟩ σ (Ite l xs) H:=by
 refine ⟨fun i m σ H=>m=xs.length - i∧i≤xs.length∧Pv i σ H,⟨xs.length,by simp,Nat.zero_le _,h0⟩,?_⟩
 rintro i m σ H ⟨rfl,hi,p⟩
 have qa:=hl i σ H p
 by_cases hlt:i < xs.length
 ·refine .inr ⟨⟨qa,hlt⟩,Pv (i+1),fun σ' H' p'=>⟨xs.length - (i+1),by omega,rfl,hlt,p'⟩,fun x H' y=>?_⟩
  obtain ⟨r,u,hr,rfl,hu,rfl⟩:=y
  exact hs i u r σ H _ hu p hr (Ext.new hr) upd_same
 ·have e:i=xs.length:=by omega
  subst e
  exact .inl ⟨⟨qa,rfl⟩,hd σ H p⟩
end
section
variable {X:Cx}{CX:CXT}{k:Nat}{f C:Addr}{fd:FuncData}{ps:List Str}{sp:Sp}{dvs:List V}{ds:List Value}{E:St->XK}{x m:Str}{p pos apos:Pos}{e o:Expr}{es:List Expr}{ta:TE}{t:TA}
end
end L2
set_option Elab.async false
set_option linter.all false
set_option maxRecDepth 100000
set_option maxHeartbeats 1000000
namespace L2
open PySem PySem.Spec PyProof.Rows
section
variable {X:Cx}{e st:Expr}{te tst:TE}{pos p2:Pos}
end
end L2
set_option Elab.async false
set_option linter.all false
set_option maxRecDepth 100000
set_option maxHeartbeats 1000000
namespace L2
open PySem PySem.Spec PyProof.Rows
section
variable {X:Cx}
end
end L2
set_option Elab.async false
set_option linter.all false
set_option maxRecDepth 100000
set_option maxHeartbeats 1000000
namespace L2
open PySem PySem.Spec PyProof.Rows
theorem units1 {n:Nat}(h:n+64 < cLine):n+1 < cLine:=by omega
def kDG1 (Q:VK) (x:V):VK:=fun y H=>∃ a v,x=.ref a∧DGet H a y (some v)∧Q v H
def kDG0 (ty:TE) (σ:St) (Q:VK):VK:=fun x H=>ty σ H (kDG1 Q x)
theorem m_kDG0 (ty:TE) (σ:St) (Q:VK) (x:V) (H:Hp):kDG0 ty σ Q x H=ty σ H (kDG1 Q x):=rfl
theorem m_tDGet (td ty:TE) (σ:St) (H:Hp) (Q:VK):tDGet td ty σ H Q=td σ H (kDG0 ty σ Q):=rfl
theorem use_dg {H:Hp}{a:Addr}{kvs:List (Key × V)}{k:Key}{v:V}{Q:VK}(e:H a=some (.dK kvs)) (h:valV kvs k=some v) (q:Q v H):kDG1 Q (.ref a) (kV k) H:=⟨a,v,rfl,h ▸ DGet.k e,q⟩
section
variable {X:Cx}
end
def kDP2 (nx:St->Hp->Prop) (σ:St) (v x:V):VK:=fun y H=>∃ a H4,x=.ref a∧DPut H a y v H4∧nx σ H4
def kDP1 (ty:TE) (nx:St->Hp->Prop) (σ:St) (v:V):VK:=fun x H=>ty σ H (kDP2 nx σ v x)
theorem m_kDP1 (ty:TE) (nx:St->Hp->Prop) (σ:St) (v x:V) (H:Hp):kDP1 ty nx σ v x H=ty σ H (kDP2 nx σ v x):=rfl
def kDP0 (td ty:TE) (nx:St->Hp->Prop) (σ:St):VK:=fun v H=>td σ H (kDP1 ty nx σ v)
theorem m_kDP0 (td ty:TE) (nx:St->Hp->Prop) (σ:St) (v:V) (H:Hp):kDP0 td ty nx σ v H=td σ H (kDP1 ty nx σ v):=rfl
theorem m_sDPut (td ty tv:TE) (nx:St->Hp->Prop) (rt:VK) (bk ct:St->Hp->Prop) (σ:St) (H:Hp):sDPut td ty tv ⟨nx,rt,bk,ct⟩ σ H=tv σ H (kDP0 td ty nx σ):=rfl
theorem use_dp {H:Hp}{a:Addr}{kvs:List (Key × V)}{k:Key}{v:V}{nx:St->Hp->Prop}{σ:St}(e:H a=some (.dK kvs)) (hl:kvs.length < sizeLine) (q:nx σ (upd H a (.dK (putK kvs k v)))):kDP2 nx σ v (.ref a) (kV k) H:=⟨a,_,rfl,DPut.k e hl,q⟩
end L2
set_option Elab.async false
set_option linter.all false
set_option maxRecDepth 100000
set_option maxHeartbeats 4000000
namespace L2
open PySem PySem.Spec PyProof.Rows
def qSrtD:List V->Hp->VK->Prop:=fun vs H Q=>∃ p kvs ns,vs=[.ref p]∧H p=some (.dK kvs)∧kvs.map (·.1)=ns.map (Sum.inl:Int->Key)∧ns.length < 64∧∀ ms:List Int,ms.Perm ns->ms.Pairwise (·≤·)->newK (.lst (ms.map V.int)) H Q
theorem use_srt {p:Addr}{kvs:List (Key × V)}{ns:List Int}{H:Hp}{Q:VK}(e:H p=some (.dK kvs)) (hk:kvs.map (·.1)=ns.map (Sum.inl:Int->Key)) (hl:ns.length < 64) (q:∀ ms:List Int,ms.Perm ns->ms.Pairwise (·≤·)->newK (.lst (ms.map V.int)) H Q):qSrtD [.ref p] H Q:=⟨p,kvs,ns,rfl,e,hk,hl,q⟩
theorem intsAre_get:∀ {us:List Value}{ns:List Int},us.length=ns.length->(∀ (i:Nat) (u:Value),us[i]? = some u->∃ n t,ns[i]? = some n∧u=.int n t)->IntsAre us ns
 | [],[],_,_=>.nil
 | [],_::_,h,_=>by cases h
 | _::_,[],h,_=>by cases h
 | u::us,n::ns,h,k=>by
  obtain ⟨m,t,e1,rfl⟩:=k 0 u rfl
  cases e1
  exact .cons n t (intsAre_get (by simpa using h) fun i u e=>k (i+1) u (by simpa using e))
theorem vals_of_ints:∀ {us:List Value}{ns:List Int},IntsAre us ns->Vals (ns.map V.int) us
 | _,_,.nil=>.nil
 | _,_,.cons n t r=>.cons ⟨t,rfl⟩ (vals_of_ints r)
theorem paired_get {α β:Type}{F:α->β->Prop}:∀ {l₁:List α}{l₂:List β},Paired F l₁ l₂->∀ {i:Nat}{a:α},l₁[i]? = some a->∃ b,l₂[i]? = some b∧F a b
 | _,_,.nil,i,a,h=>by simp at h
 | _,_,.cons h₁ t,0,a,h=>by cases h;exact ⟨_,rfl,h₁⟩
 | _,_,.cons h₁ t,i+1,a,h=>paired_get t (i:=i) (by simpa using h)
section
variable {X:Cx}
theorem call_qSrtD (hc:X.calm=true):CallR X (.builtin "sorted") qSrtD:=by
 intro pins s σ H vs us Q I r h
 obtain ⟨p,kvs,ns,rfl,e,hk,hl,q⟩:=h
 cases r with
 | cons r rr=>
  cases rr
  cases r
  obtain ⟨z,hd,xs,rel,dd⟩:=dk_of I.hok e
  obtain ⟨ep,hat⟩:=dd.dictAt
  have hlen:kvs.length=xs.length:=Paired.length rel
  have hln:xs.length=ns.length:=by rw [←hlen];have:=congrArg List.length hk;simpa using this
  refine Calls.call_function_entry kind_sorted plain_sorted entry_sorted (args_sorted1 _) ?_
  unfold Builtin.«sorted»
  refine wpAny_bind (m:=checkCount "sorted" 1 1 _) (wpAny_pure ?_)
  refine wpAny_bind (PySem.W.kdu_collect (A:=X.A.in1) (PySem.W.kdl_dict (knd:=mixKind X.prog X.w) (kvs:=xs) (ep:=ep) hd) (show X.A.in1.handled=none from I.ok.hd hc) hat (by omega) fun h' tk acc kp hacc=>?_)
  have hal:acc.toList.length=ns.length:=by rw [Array.length_toList,hacc.1,hln]
  have hI:IntsAre acc.toList ns:=by
   refine intsAre_get hal fun i u hu=>?_
   obtain ⟨k,x,hx,hku⟩:=hacc.2 i u (by simpa using hu)
   have hi:i < kvs.length:=by rw [hlen];exact (List.getElem?_eq_some_iff.mp hx).1
   have h1:kvs[i]? = some kvs[i]:=List.getElem?_eq_getElem hi
   obtain ⟨w',hw',rw'⟩:=paired_get rel h1
   rw [hx] at hw'
   cases hw'
   have h2:(kvs.map (·.1))[i]? = some k:=by rw [List.getElem?_map,h1];exact congrArg some rw'.1
   rw [hk,List.getElem?_map] at h2
   obtain ⟨n,hn,rfl⟩:=Option.map_eq_some_iff.mp h2
   rcases keyIs_shape (show keyIs (Sum.inl n) u=true from hku) with ⟨j,t,e1,e2⟩|⟨j,t,e1,e2⟩
   ·cases e1
    exact ⟨n,t,hn,e2⟩
   ·cases e1
  refine wpAny_bind (wpAny_newList ?_ (by rw [hal];exact len5000 (by omega)))
  have hoL:(h'.push (seqObj "list" acc.toList.toArray 0)).get? h'.objs.size=some (seqObj "list" acc.toList.toArray 0):=Heap.get?_push_size _ rfl
  refine wpAny_bind (wpAny_holding (wpAny_call_entry slot_list_sort ⟨_,hoL,rfl⟩ entry_list_sort (list_sort_tree hoL hI (by omega) fun out ns' a1 a2 a3=>⟨_,rfl,?_⟩) (args_list_sort _)))
  refine wpAny_pure ⟨_,rfl,?_⟩
  have I2:Inv X pins σ H { s with heap:=h',toks:=tk }:=I.kept (t':=tk) kp
  have fr:=I2.hok.fresh (Nat.le_refl _)
  obtain ⟨e',he'⟩:=sortedHeap_at (out:=out) hoL
  refine ⟨.ref h'.objs.size,_,I2.laid (t':=tk) (h':=sortedHeap (h'.push (seqObj "list" acc.toList.toArray 0)) h'.objs.size acc.toList out) (o:=.lst (ns'.map V.int)) (fun b u hb=>?_) (Nat.le_refl _) ⟨?_,out.toList,e',vals_of_ints a1,?_⟩,rfl,q ns' a2 a3 _ _ fr (Ext.new fr) upd_same⟩
  ·have hb':h'.get? b=some u:=hb
   have hlt:=Heap.lt_size hb'
   rw [sortedHeap_old (Nat.ne_of_lt hlt) (by rw [size_push'];exact Nat.lt_succ_of_lt hlt)]
   exact Heap.get?_push_of_some _ hb'
  ·rw [List.length_map,a2.length_eq];exact len5000 (by omega)
  ·rw [Array.toArray_toList];exact he'
end
def zipA {α β:Type}(R1:α->V->Hp->Prop) (R2:β->V->Hp->Prop) (z:α × β) (x:V) (H:Hp):Prop:=∃ p q1 q2,x=.ref p∧H p=some (.tup [q1,q2])∧R1 z.1 q1 H∧R2 z.2 q2 H
theorem wk_zipA {H:Hp} {α β:Type}{R1:α->V->Hp->Prop}{R2:β->V->Hp->Prop}(h1:∀ z y H H',R1 z y H->Ext H H'->R1 z y H') (h2:∀ z y H H',R2 z y H->Ext H H'->R2 z y H'){a b:Addr}{xs ys:List V}{zs:List α}{ws:List β}(ha:H a=some (.lst xs)) (hb:H b=some (.lst ys)) (al:Al (fun z y=>R1 z y H) zs xs) (bl:Al (fun z y=>R2 z y H) ws ys) :
  (∀ i z H',(zs.zip ws)[i]? = some z->Ext H H'->(Itz false false a b xs ys).go i H'∧∀ x H'',(Itz false false a b xs ys).yld i H' x H''->Ext H' H''∧zipA R1 R2 z x H'')∧∀ H',Ext H H'->(Itz false false a b xs ys).stop (zs.zip ws).length H':=by
 have wk:=wk_zip (ka:=false) (kb:=false) ha hb
 refine ⟨fun i z H' hz e=>?_,fun H' e=>?_⟩
 ·obtain ⟨i1,i2⟩:=List.getElem?_eq_some_iff.mp hz
  rw [List.length_zip] at i1
  have hx:xs[i]? = some (xs[i]'(by rw [al.1];omega)):=List.getElem?_eq_getElem _
  have hy:ys[i]? = some (ys[i]'(by rw [bl.1];omega)):=List.getElem?_eq_getElem _
  have g1:=al.2 i zs[i] _ (List.getElem?_eq_getElem _) hx
  have g2:=bl.2 i ws[i] _ (List.getElem?_eq_getElem _) hy
  generalize (xs[i]'(by rw [al.1];omega))=x0 at hx g1
  generalize (ys[i]'(by rw [bl.1];omega))=y0 at hy g2
  have hzz:(xs.zip ys)[i]? = some (x0,y0):=by
   rw [List.getElem?_zip_eq_some]
   exact ⟨hx,hy⟩
  obtain ⟨go,yd⟩:=wk.1 i _ H' hzz e
  refine ⟨go,fun x H'' y=>?_⟩
  obtain ⟨e2,p,hp,hp2⟩:=yd x H'' y
  have ez:z=(zs[i],ws[i]):=by rw [←i2,List.getElem_zip]
  subst ez
  exact ⟨e2,p,x0,y0,hp,hp2,h1 _ _ _ _ g1 (e.trans e2),h2 _ _ _ _ g2 (e.trans e2)⟩
 ·have:=wk.2 H' e
  rwa [show (zs.zip ws).length=(xs.zip ys).length by rw [List.length_zip,List.length_zip,al.1,bl.1]]
end L2
set_option Elab.async false
set_option linter.all false
set_option maxRecDepth 100000
set_option maxHeartbeats 4000000
namespace L2
open PySem PySem.Spec PyProof.Rows
def tV (i:Nat):TE:=fun σ H Q=>match σ[i]? with
 | some (some v)=>Q v H
 | _=>False
theorem tV_eq (i:Nat):tVar i=tV i:=by
 funext σ H Q
 refine propext ⟨fun ⟨v,e,q⟩=>?_,fun h=>?_⟩
 ·unfold tV;rw [e];exact q
 ·unfold tV at h
  split at h
  ·rename_i v e;exact ⟨v,e,h⟩
  ·exact h.elim
theorem m_tV_0 {v:V}{σ:St}{H:Hp}{Q:VK}:tV 0 (some v::σ) H Q=Q v H:=rfl
theorem m_tV_1 {a0:Option V}{v:V}{σ:St}{H:Hp}{Q:VK}:tV 1 (a0::some v::σ) H Q=Q v H:=rfl
theorem m_tV_2 {a0 a1:Option V}{v:V}{σ:St}{H:Hp}{Q:VK}:tV 2 (a0::a1::some v::σ) H Q=Q v H:=rfl
theorem m_tV_3 {a0 a1 a2:Option V}{v:V}{σ:St}{H:Hp}{Q:VK}:tV 3 (a0::a1::a2::some v::σ) H Q=Q v H:=rfl
theorem m_tV_4 {a0 a1 a2 a3:Option V}{v:V}{σ:St}{H:Hp}{Q:VK}:tV 4 (a0::a1::a2::a3::some v::σ) H Q=Q v H:=rfl
theorem m_tV_5 {a0 a1 a2 a3 a4:Option V}{v:V}{σ:St}{H:Hp}{Q:VK}:tV 5 (a0::a1::a2::a3::a4::some v::σ) H Q=Q v H:=rfl
theorem m_tV_6 {a0 a1 a2 a3 a4 a5:Option V}{v:V}{σ:St}{H:Hp}{Q:VK}:tV 6 (a0::a1::a2::a3::a4::a5::some v::σ) H Q=Q v H:=rfl
theorem m_tV_7 {a0 a1 a2 a3 a4 a5 a6:Option V}{v:V}{σ:St}{H:Hp}{Q:VK}:tV 7 (a0::a1::a2::a3::a4::a5::a6::some v::σ) H Q=Q v H:=rfl
theorem m_tV_8 {a0 a1 a2 a3 a4 a5 a6 a7:Option V}{v:V}{σ:St}{H:Hp}{Q:VK}:tV 8 (a0::a1::a2::a3::a4::a5::a6::a7::some v::σ) H Q=Q v H:=rfl
theorem m_tV_9 {a0 a1 a2 a3 a4 a5 a6 a7 a8:Option V}{v:V}{σ:St}{H:Hp}{Q:VK}:tV 9 (a0::a1::a2::a3::a4::a5::a6::a7::a8::some v::σ) H Q=Q v H:=rfl
theorem m_tV_10 {a0 a1 a2 a3 a4 a5 a6 a7 a8 a9:Option V}{v:V}{σ:St}{H:Hp}{Q:VK}:tV 10 (a0::a1::a2::a3::a4::a5::a6::a7::a8::a9::some v::σ) H Q=Q v H:=rfl
theorem m_tV_11 {a0 a1 a2 a3 a4 a5 a6 a7 a8 a9 a10:Option V}{v:V}{σ:St}{H:Hp}{Q:VK}:tV 11 (a0::a1::a2::a3::a4::a5::a6::a7::a8::a9::a10::some v::σ) H Q=Q v H:=rfl
def nI0 (g:Int->Int->V):R2:=fun x y H Q=>match x,y with
 | .int i,.int j=>Q (g i j) H
 | _,_=>False
theorem m_nI0 (g:Int->Int->V) (i j:Int) (H:Hp) (Q:VK):nI0 g (.int i) (.int j) H Q=Q (g i j) H:=rfl
theorem nI0_eq (g:Int->Int->V):rI0 g=nI0 g:=by
 funext x y H Q
 refine propext ⟨fun ⟨i,j,e,e',q⟩=>by subst e e';exact q,fun h=>?_⟩
 unfold nI0 at h
 split at h
 ·exact ⟨_,_,rfl,rfl,h⟩
 ·exact h.elim
def nI (C:Int->Int->Prop) (g:Int->Int->V):R2:=fun x y H Q=>match x,y with
 | .int i,.int j=>C i j∧Q (g i j) H
 | _,_=>False
theorem m_nI (C:Int->Int->Prop) (g:Int->Int->V) (i j:Int) (H:Hp) (Q:VK):nI C g (.int i) (.int j) H Q=(C i j∧Q (g i j) H):=rfl
theorem nI_eq (C:Int->Int->Prop) (g:Int->Int->V):rI C g=nI C g:=by
 funext x y H Q
 refine propext ⟨fun ⟨i,j,e,e',q⟩=>by subst e e';exact q,fun h=>?_⟩
 unfold nI at h
 split at h
 ·exact ⟨_,_,rfl,rfl,h⟩
 ·exact h.elim
def nU (g:Int->V):V->Hp->VK->Prop:=fun x H Q=>match x with
 | .int i=>Q (g i) H
 | _=>False
theorem m_nU (g:Int->V) (i:Int) (H:Hp) (Q:VK):nU g (.int i) H Q=Q (g i) H:=rfl
theorem nU_eq (g:Int->V):rU g=nU g:=by
 funext x H Q
 refine propext ⟨fun ⟨i,e,q⟩=>by subst e;exact q,fun h=>?_⟩
 unfold nU at h
 split at h
 ·exact ⟨_,rfl,h⟩
 ·exact h.elim
def kTestN (Q:Bool->Hp->Prop):VK:=fun x H=>match x with
 | .bl k=>Q k H
 | _=>False
theorem m_kTestN (Q:Bool->Hp->Prop) (k:Bool) (H:Hp):kTestN Q (.bl k) H=Q k H:=rfl
theorem kTest_eq (Q:Bool->Hp->Prop):kTest Q=kTestN Q:=by
 funext x H
 refine propext ⟨fun ⟨k,e,q⟩=>by subst e;exact q,fun h=>?_⟩
 unfold kTestN at h
 split at h
 ·exact ⟨_,rfl,h⟩
 ·exact h.elim
def nTest (t:TE):TT:=fun σ H Q=>t σ H (kTestN Q)
theorem m_nTest (t:TE) (σ:St) (H:Hp) (Q:Bool->Hp->Prop):nTest t σ H Q=t σ H (kTestN Q):=rfl
theorem nTest_eq (t:TE):tTest t=nTest t:=by
 funext σ H Q
 show t σ H (kTest Q)=t σ H (kTestN Q)
 rw [kTest_eq]
theorem nTest_eqB (t:TE):tB t=nTest t:=nTest_eq t
def kAndN (tb:TE) (σ:St) (Q:VK):VK:=fun x H=>match x with
 | .bl c=>if c=true then tb σ H Q else Q (.bl false) H
 | _=>False
theorem m_kAndN (tb:TE) (σ:St) (Q:VK) (c:Bool) (H:Hp):kAndN tb σ Q (.bl c) H=(if c=true then tb σ H Q else Q (.bl false) H):=rfl
def nAndV (ta tb:TE):TE:=fun σ H Q=>ta σ H (kAndN tb σ Q)
theorem m_nAndV (ta tb:TE) (σ:St) (H:Hp) (Q:VK):nAndV ta tb σ H Q=ta σ H (kAndN tb σ Q):=rfl
theorem nAndV_eq (ta tb:TE):tAndV ta tb=nAndV ta tb:=by
 funext σ H Q
 show ta σ H (kAndV tb σ Q)=ta σ H (kAndN tb σ Q)
 congr 1
 funext x H
 refine propext ⟨fun ⟨k,e,q⟩=>by subst e;exact q,fun h=>?_⟩
 unfold kAndN at h
 split at h
 ·exact ⟨_,rfl,h⟩
 ·exact h.elim
def kOrN (tb:TE) (σ:St) (Q:VK):VK:=fun x H=>match x with
 | .bl c=>if c=true then Q (.bl true) H else tb σ H Q
 | _=>False
theorem m_kOrN (tb:TE) (σ:St) (Q:VK) (c:Bool) (H:Hp):kOrN tb σ Q (.bl c) H=(if c=true then Q (.bl true) H else tb σ H Q):=rfl
def nOrV (ta tb:TE):TE:=fun σ H Q=>ta σ H (kOrN tb σ Q)
theorem m_nOrV (ta tb:TE) (σ:St) (H:Hp) (Q:VK):nOrV ta tb σ H Q=ta σ H (kOrN tb σ Q):=rfl
theorem nOrV_eq (ta tb:TE):tOrV ta tb=nOrV ta tb:=by
 funext σ H Q
 show ta σ H (kOrV tb σ Q)=ta σ H (kOrN tb σ Q)
 congr 1
 funext x H
 refine propext ⟨fun ⟨k,e,q⟩=>by subst e;exact q,fun h=>?_⟩
 unfold kOrN at h
 split at h
 ·exact ⟨_,rfl,h⟩
 ·exact h.elim
def kNotN (Q:VK):VK:=fun x H=>match x with
 | .bl c=>Q (.bl (!c)) H
 | _=>False
theorem m_kNotN (Q:VK) (c:Bool) (H:Hp):kNotN Q (.bl c) H=Q (.bl (!c)) H:=rfl
def nNotV (ta:TE):TE:=fun σ H Q=>ta σ H (kNotN Q)
theorem m_nNotV (ta:TE) (σ:St) (H:Hp) (Q:VK):nNotV ta σ H Q=ta σ H (kNotN Q):=rfl
theorem nNotV_eq (ta:TE):tNotV ta=nNotV ta:=by
 funext σ H Q
 show ta σ H (kNotV Q)=ta σ H (kNotN Q)
 congr 1
 funext x H
 refine propext ⟨fun ⟨k,e,q⟩=>by subst e;exact q,fun h=>?_⟩
 unfold kNotN at h
 split at h
 ·exact ⟨_,rfl,h⟩
 ·exact h.elim
def kChN2 (r':R2) (tc:TE) (σ:St) (y:V) (Q:VK):VK:=fun z H=>match z with
 | .bl k=>if k=true then tc σ H (kCh3 r' y Q) else Q (.bl false) H
 | _=>False
theorem m_kChN2 (r':R2) (tc:TE) (σ:St) (y:V) (Q:VK) (k:Bool) (H:Hp):kChN2 r' tc σ y Q (.bl k) H=(if k=true then tc σ H (kCh3 r' y Q) else Q (.bl false) H):=rfl
theorem kCh2_eq (r':R2) (tc:TE) (σ:St) (y:V) (Q:VK):kCh2 r' tc σ y Q=kChN2 r' tc σ y Q:=by
 funext z H
 refine propext ⟨fun ⟨k,e,q⟩=>by subst e;exact q,fun h=>?_⟩
 unfold kChN2 at h
 split at h
 ·exact ⟨_,rfl,h⟩
 ·exact h.elim
def kChN1 (r r':R2) (tc:TE) (σ:St) (x:V) (Q:VK):VK:=fun y H=>r x y H (kChN2 r' tc σ y Q)
theorem m_kChN1 (r r':R2) (tc:TE) (σ:St) (x y:V) (Q:VK) (H:Hp):kChN1 r r' tc σ x Q y H=r x y H (kChN2 r' tc σ y Q):=rfl
def kChN0 (r r':R2) (tb tc:TE) (σ:St) (Q:VK):VK:=fun x H=>tb σ H (kChN1 r r' tc σ x Q)
theorem m_kChN0 (r r':R2) (tb tc:TE) (σ:St) (Q:VK) (x:V) (H:Hp):kChN0 r r' tb tc σ Q x H=tb σ H (kChN1 r r' tc σ x Q):=rfl
def nChain (r r':R2) (ta tb tc:TE):TE:=fun σ H Q=>ta σ H (kChN0 r r' tb tc σ Q)
theorem m_nChain (r r':R2) (ta tb tc:TE) (σ:St) (H:Hp) (Q:VK):nChain r r' ta tb tc σ H Q=ta σ H (kChN0 r r' tb tc σ Q):=rfl
theorem nChain_eq (r r':R2) (ta tb tc:TE):tChain r r' ta tb tc=nChain r r' ta tb tc:=by
 funext σ H Q
 show ta σ H (kCh0 r r' tb tc σ Q)=ta σ H (kChN0 r r' tb tc σ Q)
 congr 1
 funext x H1
 show tb σ H1 (kCh1 r r' tc σ x Q)=tb σ H1 (kChN1 r r' tc σ x Q)
 congr 1
 funext y H2
 show r x y H2 (kCh2 r' tc σ y Q)=r x y H2 (kChN2 r' tc σ y Q)
 rw [kCh2_eq]
def gNilN:TGs:=fun vs σ H Q=>match vs with
 | []=>Q σ H
 | _=>False
theorem m_gNilN (σ:St) (H:Hp) (Q:St->Hp->Prop):gNilN [] σ H Q=Q σ H:=rfl
theorem gNil_eq:gNil=gNilN:=by
 funext vs σ H Q
 refine propext ⟨fun ⟨e,q⟩=>by subst e;exact q,fun h=>?_⟩
 unfold gNilN at h
 split at h
 ·exact ⟨rfl,h⟩
 ·exact h.elim
def gConsN (t:TG) (u:TGs):TGs:=fun vs σ H Q=>match vs with
 | v::r=>t v σ H (kGs u r Q)
 | _=>False
theorem m_gConsN (t:TG) (u:TGs) (v:V) (r:List V) (σ:St) (H:Hp) (Q:St->Hp->Prop):gConsN t u (v::r) σ H Q=t v σ H (kGs u r Q):=rfl
theorem gCons_eq (t:TG) (u:TGs):gCons t u=gConsN t u:=by
 funext vs σ H Q
 refine propext ⟨fun ⟨v,r,e,q⟩=>by subst e;exact q,fun h=>?_⟩
 unfold gConsN at h
 split at h
 ·exact ⟨_,_,rfl,h⟩
 ·exact h.elim
theorem spx1 {α0:Type}{f:α0->List V}{B:α0->Prop}(inj:∀ a a',f a=f a'->a=a') (a:α0):(∃ a',f a=f a'∧B a')=B a:=propext ⟨fun ⟨a',e,q⟩=>by obtain rfl:=inj _ _ e;exact q,fun q=>⟨a,rfl,q⟩⟩
theorem spl1 {α0:Type}{f:α0->List V}{B:α0->Prop}{vs:List V}{n:Nat}(h:∃ a,vs=f a∧B a) (l:∀ a,(f a).length=n):vs.length=n:=by
 obtain ⟨_,rfl,_⟩:=h
 exact l _
theorem spx2 {α0 α1:Type}{f:α0->α1->List V}{B:α0->α1->Prop}(inj:∀ a b a' b',f a b=f a' b'->a=a'∧b=b') (a:α0) (b:α1):(∃ a' b',f a b=f a' b'∧B a' b')=B a b:=propext ⟨fun ⟨a',b',e,q⟩=>by obtain ⟨rfl,rfl⟩:=inj _ _ _ _ e;exact q,fun q=>⟨a,b,rfl,q⟩⟩
theorem spl2 {α0 α1:Type}{f:α0->α1->List V}{B:α0->α1->Prop}{vs:List V}{n:Nat}(h:∃ a b,vs=f a b∧B a b) (l:∀ a b,(f a b).length=n):vs.length=n:=by
 obtain ⟨_,_,rfl,_⟩:=h
 exact l _ _
theorem spx3 {α0 α1 α2:Type}{f:α0->α1->α2->List V}{B:α0->α1->α2->Prop}(inj:∀ a b c a' b' c',f a b c=f a' b' c'->a=a'∧b=b'∧c=c') (a:α0) (b:α1) (c:α2):(∃ a' b' c',f a b c=f a' b' c'∧B a' b' c')=B a b c:=propext ⟨fun ⟨a',b',c',e,q⟩=>by obtain ⟨rfl,rfl,rfl⟩:=inj _ _ _ _ _ _ e;exact q,fun q=>⟨a,b,c,rfl,q⟩⟩
theorem spl3 {α0 α1 α2:Type}{f:α0->α1->α2->List V}{B:α0->α1->α2->Prop}{vs:List V}{n:Nat}(h:∃ a b c,vs=f a b c∧B a b c) (l:∀ a b c,(f a b c).length=n):vs.length=n:=by
 obtain ⟨_,_,_,rfl,_⟩:=h
 exact l _ _ _
theorem spx4 {α0 α1 α2 α3:Type}{f:α0->α1->α2->α3->List V}{B:α0->α1->α2->α3->Prop}(inj:∀ a b c d a' b' c' d',f a b c d=f a' b' c' d'->a=a'∧b=b'∧c=c'∧d=d') (a:α0) (b:α1) (c:α2) (d:α3):(∃ a' b' c' d',f a b c d=f a' b' c' d'∧B a' b' c' d')=B a b c d:=propext ⟨fun ⟨a',b',c',d',e,q⟩=>by obtain ⟨rfl,rfl,rfl,rfl⟩:=inj _ _ _ _ _ _ _ _ e;exact q,fun q=>⟨a,b,c,d,rfl,q⟩⟩
theorem spl4 {α0 α1 α2 α3:Type}{f:α0->α1->α2->α3->List V}{B:α0->α1->α2->α3->Prop}{vs:List V}{n:Nat}(h:∃ a b c d,vs=f a b c d∧B a b c d) (l:∀ a b c d,(f a b c d).length=n):vs.length=n:=by
 obtain ⟨_,_,_,_,rfl,_⟩:=h
 exact l _ _ _ _
theorem spx5 {α0 α1 α2 α3 α4:Type}{f:α0->α1->α2->α3->α4->List V}{B:α0->α1->α2->α3->α4->Prop}(inj:∀ a b c d i a' b' c' d' i',f a b c d i=f a' b' c' d' i'->a=a'∧b=b'∧c=c'∧d=d'∧i=i') (a:α0) (b:α1) (c:α2) (d:α3) (i:α4):(∃ a' b' c' d' i',f a b c d i=f a' b' c' d' i'∧B a' b' c' d' i')=B a b c d i:=propext ⟨fun ⟨a',b',c',d',i',e,q⟩=>by obtain ⟨rfl,rfl,rfl,rfl,rfl⟩:=inj _ _ _ _ _ _ _ _ _ _ e;exact q,fun q=>⟨a,b,c,d,i,rfl,q⟩⟩
theorem spl5 {α0 α1 α2 α3 α4:Type}{f:α0->α1->α2->α3->α4->List V}{B:α0->α1->α2->α3->α4->Prop}{vs:List V}{n:Nat}(h:∃ a b c d i,vs=f a b c d i∧B a b c d i) (l:∀ a b c d i,(f a b c d i).length=n):vs.length=n:=by
 obtain ⟨_,_,_,_,_,rfl,_⟩:=h
 exact l _ _ _ _ _
theorem len0 {P:List Value->Prop}(h:P []):∀ us:List Value,us.length=0->P us:=fun us e=>by
 cases us with
 | nil=>exact h
 | cons a r=>cases e
theorem len1 {P:List Value->Prop}(h:∀ a,P [a]):∀ us:List Value,us.length=1->P us:=fun us e=>by
 cases us with
 | nil=>cases e
 | cons x r=>exact len0 (P:=fun r=>P (x::r)) (h x) r (Nat.succ.inj e)
theorem len2 {P:List Value->Prop}(h:∀ a b,P [a,b]):∀ us:List Value,us.length=2->P us:=fun us e=>by
 cases us with
 | nil=>cases e
 | cons x r=>exact len1 (P:=fun r=>P (x::r)) (h x) r (Nat.succ.inj e)
theorem len3 {P:List Value->Prop}(h:∀ a b c,P [a,b,c]):∀ us:List Value,us.length=3->P us:=fun us e=>by
 cases us with
 | nil=>cases e
 | cons x r=>exact len2 (P:=fun r=>P (x::r)) (h x) r (Nat.succ.inj e)
theorem len4 {P:List Value->Prop}(h:∀ a b c d,P [a,b,c,d]):∀ us:List Value,us.length=4->P us:=fun us e=>by
 cases us with
 | nil=>cases e
 | cons x r=>exact len3 (P:=fun r=>P (x::r)) (h x) r (Nat.succ.inj e)
theorem len5 {P:List Value->Prop}(h:∀ a b c d i,P [a,b,c,d,i]):∀ us:List Value,us.length=5->P us:=fun us e=>by
 cases us with
 | nil=>cases e
 | cons x r=>exact len4 (P:=fun r=>P (x::r)) (h x) r (Nat.succ.inj e)
section
variable {X:Cx}
theorem pvN (i:Nat){x:Str}{pos:Pos}(hN:X.N[i]? = some x:=by rfl) (hv:Vis X.env.scope x:=by first|exact Or.inl rfl|exact Or.inr (Or.inl rfl)|exact Or.inr (Or.inr rfl)) (hd:(x == ("__debug__":Str))=false:=by decide)
  (hcd:(x == ("__classdict__":Str))=false:=by decide):PE X (.Name x pos) (tV i):=by rw [←tV_eq];exact pv i hN hv hd hcd
theorem on_add:OpR X (binaryOp .Add) (nI0 fun i j=>.int (i+j)):=by rw [←nI0_eq];exact op_add
theorem on_sub:OpR X (binaryOp .Sub) (nI0 fun i j=>.int (i - j)):=by rw [←nI0_eq];exact op_sub
theorem on_lt:OpR X (compareOp .Lt) (nI0 fun i j=>.bl (decide (i < j))):=by rw [←nI0_eq];exact op_lt
theorem on_le:OpR X (compareOp .LtE) (nI0 fun i j=>.bl (decide (i≤j))):=by rw [←nI0_eq];exact op_le
theorem on_gt:OpR X (compareOp .Gt) (nI0 fun i j=>.bl (decide (j < i))):=by rw [←nI0_eq];exact op_gt
theorem on_ge:OpR X (compareOp .GtE) (nI0 fun i j=>.bl (decide (j≤i))):=by rw [←nI0_eq];exact op_ge
theorem on_mul:OpR X (binaryOp .Mult) (nI CMul fun i j=>.int (i * j)):=by rw [←nI_eq];exact op_mul
theorem on_fdiv:OpR X (binaryOp .FloorDiv) (nI CDiv fun i j=>.int (i / j)):=by rw [←nI_eq];exact op_fdiv
theorem on_fdivB:OpR X (binaryOp .FloorDiv) (nI CDivB fun i j=>.int (i.fdiv j)):=by rw [←nI_eq];exact op_fdivB
theorem on_mod:OpR X (binaryOp .Mod) (nI (fun _ j=>0 < j) fun i j=>.int (i % j)):=by rw [←nI_eq];exact op_mod
theorem on_pow:OpR X (binaryOp .Pow) (nI CPow fun i j=>.int (i ^ j.toNat)):=by rw [←nI_eq];exact op_pow
theorem un_negN:UnR X (unaryOp .USub) (nU fun i=>.int (-i)):=by rw [←nU_eq];exact un_neg
variable {a b c d e:Expr}{ta tb tc td t:TE}{pos:Pos}
theorem pt_cmpRN {op:CmpOp}{r:R2}(ho:OpR X (compareOp op) r) (ha:PE X a ta) (hb:PE X b tb) (hm:behindInMarks op b=false):PT X (.Compare a [op] [b] pos) (nTest (tOp r ta tb)):=by rw [←nTest_eq];exact pt_cmpR ho ha hb hm
theorem pt_valN (h:PE X e t) (he:∀ whole,isTrue e X.env whole=(do let v ←whole;standAt e.pos;holding [v] (truthy v)):=by intro _;rfl):PT X e (nTest t):=by rw [←nTest_eqB];exact pt_val h he
theorem pe_chainN {op op':CmpOp}{r r':R2}(ho:OpR X (compareOp op) r) (ho':OpR X (compareOp op') r') (ha:PE X a ta) (hb:PE X b tb) (hc:PE X c tc)
  (hm:lastMarks [op,op'] [b,c]=false:=by with_unfolding_all rfl):PE X (.Compare a [op,op'] [b,c] pos) (nChain r r' ta tb tc):=by rw [←nChain_eq];exact pe_chain ho ho' ha hb hc hm
theorem pt_chainN {op op':CmpOp}{r r':R2}(ho:OpR X (compareOp op) r) (ho':OpR X (compareOp op') r') (ha:PE X a ta) (hb:PE X b tb) (hc:PE X c tc)
  (hm:lastMarks [op,op'] [b,c]=false:=by with_unfolding_all rfl):PT X (.Compare a [op,op'] [b,c] pos) (nTest (nChain r r' ta tb tc)):=by rw [←nTest_eq,←nChain_eq];exact pt_chain ho ho' ha hb hc hm
variable {rest:List Expr}
theorem pe_andN (ha:PE X a ta) (hb:PE X (.BoolOp .And (b::rest) pos) tb):PE X (.BoolOp .And (a::b::rest) pos) (nAndV ta tb):=by rw [←nAndV_eq];exact pe_and ha hb
theorem pe_orN (ha:PE X a ta) (hb:PE X (.BoolOp .Or (b::rest) pos) tb):PE X (.BoolOp .Or (a::b::rest) pos) (nOrV ta tb):=by rw [←nOrV_eq];exact pe_or ha hb
theorem pe_notN (ha:PE X a ta):PE X (.UnaryOp .Not a pos) (nNotV ta):=by rw [←nNotV_eq];exact pe_not ha
theorem pgs_nilN:PGs X [] gNilN:=by rw [←gNil_eq];exact pgs_nil
theorem pgs_consN {e:Expr}{es:List Expr}{t:TG}{u:TGs}(h1:PG X e t) (h2:PGs X es u)
  (hs:(assignEach (e::es) X.env).map (·.2)=assign e X.env::(assignEach es X.env).map (·.2):=by rfl):PGs X (e::es) (gConsN t u):=by rw [←gCons_eq];exact pgs_cons h1 h2 hs
end
theorem mo_tV {i:Nat}:ME (tV i):=by rw [←tV_eq];exact mo_var
theorem mo_nI0 {g:Int->Int->V}:MR (nI0 g):=by rw [←nI0_eq];exact mo_rI0
theorem mo_nTest {t:TE}(h:ME t):MT (nTest t):=by rw [←nTest_eq];exact mo_test h
end L2
set_option Elab.async false
set_option linter.all false
set_option maxRecDepth 100000
set_option maxHeartbeats 4000000
namespace L2
open PySem PySem.Spec PyProof.Rows
end L2
set_option Elab.async false
set_option linter.all false
set_option maxRecDepth 100000
set_option maxHeartbeats 4000000
namespace L2
open PySem PySem.Spec PyProof.Rows
theorem cut_some (xs:List V) (z:Int) (h:0≤z):cutV xs (some z) none=xs.drop z.toNat:=by
 unfold cutV
 obtain ⟨n,rfl⟩:=Int.eq_ofNat_of_zero_le h
 rw [HT.sIx_none,HT.sIx_nat]
 show _=xs.drop n
 rcases Nat.le_total n xs.length with q|q
 ·rw [Nat.min_eq_left q]
  exact List.take_of_length_le (by rw [List.length_drop];omega)
 ·rw [Nat.min_eq_right q,List.drop_of_length_le (Nat.le_refl _),List.drop_of_length_le q,List.take_nil]
section
variable {X:Cx}
end
end L2
set_option Elab.async false
set_option linter.all false
set_option maxRecDepth 100000
set_option maxHeartbeats 4000000
namespace L2
open PySem PySem.Spec PyProof.Rows
section
variable {prog:Program}{w:World}{A:Around}{E:Value->Shared->Prop}{s:Shared}
end
section
variable {X:Cx}
end
end L2
set_option Elab.async false
set_option linter.all false
set_option maxRecDepth 100000
set_option maxHeartbeats 4000000
namespace L2
open PySem PySem.Spec PyProof.Rows
end L2
set_option Elab.async false
set_option linter.all false
set_option maxRecDepth 100000
set_option maxHeartbeats 4000000
namespace L2
open PySem PySem.Spec PyProof.Rows
section
variable {k:Nat}{g:TG}{tt:TT}{te:TE}{σ:St}{Q:VK}{H:Hp}
end
end L2
set_option Elab.async false
set_option linter.all false
set_option maxRecDepth 100000
set_option maxHeartbeats 4000000
namespace L2
open PySem PySem.Spec PyProof.Rows
structure IsC (K:PySem.W.Frag) (C:Addr):Prop where
 cl:Cls K C
 fc:PySem.W.findIn K (.ref C) "__class__"=some (some (.builtin "object.__class__"))
 ocs:PySem.W.specialIn K (.builtin "object.__class__") "__get__"=some (some (.builtin "getset_descriptor.__get__"))
 oct:PySem.W.takesIn K (.builtin "object.__class__")=some true
 mo:PySem.W.mroIn K C (.type "object")=some true
end L2
set_option Elab.async false
set_option linter.all false
set_option maxRecDepth 100000
set_option maxHeartbeats 4000000
namespace L2
open PySem PySem.Spec PyProof.Rows
section
variable {X:Cx}
end
end L2
set_option Elab.async false
set_option linter.all false
set_option maxRecDepth 100000
set_option maxHeartbeats 4000000
namespace L2
open PySem PySem.Spec PyProof.Rows PySem.W
section
variable {prog:Program}{w:World}{A:Around}{E:Value->Shared->Prop}{K:Frag}{x C dx:Addr}{s:Shared}{name:Str}{v:Value}
end
section
variable {X:Cx}{e o value:Expr}{ta tv:TE}{f:Str}{pos pos':Pos}
end
end L2
set_option Elab.async false
set_option linter.all false
set_option maxRecDepth 100000
set_option maxHeartbeats 4000000
namespace L2
open PySem PySem.Spec PyProof.Rows
open Sem (wp)
open AutoSeq1 (wpAny_loadPart')
section
variable {X:Cx}
end
end L2
set_option Elab.async false
set_option linter.all false
set_option maxRecDepth 100000
set_option maxHeartbeats 4000000
namespace L2
open PySem PySem.Spec PyProof.Rows
end L2
set_option Elab.async false
set_option linter.all false
set_option maxRecDepth 100000
set_option maxHeartbeats 4000000
namespace L2
open PySem PySem.Spec PyProof.Rows
def NoCtx (o:Obj):Prop:=∃ vs,o.data=.fields vs∧vs[2]? = some .none
section
variable {prog:Program}{w:World}{A:Around}{E:Value->Shared->Prop}{s:Shared}
end
def Hand (X:Cx):Prop:=∃ (e:Addr) (oe:Obj) (u:HO),X.A.handled=some (.ref e)∧X.H₀ e=some (.frz oe u)∧NoCtx oe
structure TurnH (P:Program) (w:World) (K:PySem.W.Frag) (tg:Expr) (J:It) (fp:List Addr) (it:Addr) (tn:Nat->Heap->Prop):Prop where
 mem:it∈fp
 obj:∀ i h,tn i h->∀ b∈fp,∃ o,h.get? b=some o∧∀ v,o.data ≠ .cell v
 keep:∀ i h h',tn i h->(∀ b∈fp,∀ o,h.get? b=some o->h'.get? b=some o)->tn i h'
 item:∀ (X:Cx),X.prog=P->X.w=w->X.K=K->Hand X->∀ (i:Nat) (pins:List (Addr × Obj)) (s:Shared) (σ:St) (H:Hp) (E:Value->Shared->Prop),Inv X pins σ H s->(∀ b∈fp,FpOk X pins H b)->tn i s.heap->J.go i H →
  wpAny (model P w) X.A (pyNext (.ref it)) (fun r s1=>∃ u,r=some u ∧
   wpAny (model P w) X.A (letOwnedTupleGo tg (.ref it) u) (fun _ s2=>∃ x H',Inv X pins σ H' s2∧RelV x u∧J.yld i H x H'∧tn (i+1) s2.heap∧∀ b∈fp,H' b=none) E s1) E s
 done:∀ (X:Cx),X.prog=P->X.w=w->X.K=K->Hand X->∀ (i:Nat) (pins:List (Addr × Obj)) (s:Shared) (σ:St) (H:Hp) (E:Value->Shared->Prop),Inv X pins σ H s->(∀ b∈fp,FpOk X pins H b)->tn i s.heap->J.stop i H →
  wpAny (model P w) X.A (pyNext (.ref it)) (fun r s1=>r=none∧Inv X pins σ H s1) E s
section
variable {X:Cx}{tg:Expr}
end
structure RoomH (k:Nat) (e:Addr) (A:Around):Prop where
 hd:A.handled=some (.ref e)
 dp:A.depth+3 * k+5 < recursionLimit
 un:A.units+16 * k+200 < cLine
structure FnOkH (P:Program) (w:World) (K:PySem.W.Frag) (mg:Str->Option Value) (base:Heap) (CX:CXT) (k:Nat) (f:Addr) (fd:FuncData) (ps:List Str) (sp:Sp):Prop where
 len:∀ vs H Q E,sp vs H Q E->vs.length=ps.length
 run:∀ (A:Around) (outer:List Env) (s:Shared) (H:Hp) (args:Args) (us:List Value) (vs:List V) (Q:VK) (E:XK) (e:Addr) (oe:Obj) (u:HO),RoomH k e A->H e=some (.frz oe u)->NoCtx oe->Env0 P w K mg base A outer s H->BindsTo s fd args (ps.zip us)->Vals vs us->sp vs H Q E →
  codeAny (model P w) A (.call (.ref f) args) (CR CX outer P w H s Q E) s
section
variable {X:Cx}
end
end L2
set_option Elab.async false
set_option linter.all false
set_option maxRecDepth 100000
set_option maxHeartbeats 4000000
namespace L2
open PySem PySem.Spec PyProof.Rows
section
variable {prog:Program}{w:World}{A:Around}{E:Value->Shared->Prop}{s:Shared}
structure Apart3 (z TI TO i j l:Addr) (f g e:List Addr):Prop where
 ti:TI ≠ z∧TI ≠ TO∧TI ≠ i∧TI ≠ j∧TI ≠ l
 zt:z ≠ TO
 zf:z ∉ f
 zg:z ∉ g
 ze:z ∉ e
 tf:TO ∉ f
 tg:TO ∉ g
 te:TO ∉ e
 ig:i ∉ g
 ie:i ∉ e
 jf:j ∉ f
 je:j ∉ e
 lf:l ∉ f
 lg:l ∉ g
variable {z TI TO i j l:Addr}{f g e:List Addr}{ti tj tl:Nat->Heap->Prop}{vi vj vl:Nat->Option Value}{k m n:Nat}{x y u a b c:Value}
end
section
variable {prog:Program}{w:World}{A:Around}{E:Value->Shared->Prop}{s:Shared}
end
section
variable {X:Cx}
end
end L2
set_option Elab.async false
set_option linter.all false
set_option maxRecDepth 100000
set_option maxHeartbeats 4000000
namespace L2
open PySem PySem.Spec PyProof.Rows
def kGE2 (Q:VK) (a:Addr) (y:V):VK:=fun z H=>∃ o,DGet H a y o∧Q (o.getD z) H
def kGE1 (tx:TE) (σ:St) (Q:VK) (a:Addr):VK:=fun y H=>tx σ H (kGE2 Q a y)
theorem m_kGE1 (tx:TE) (σ:St) (Q:VK) (a:Addr) (y:V) (H:Hp):kGE1 tx σ Q a y H=tx σ H (kGE2 Q a y):=rfl
def kGE0 (ty tx:TE) (σ:St) (Q:VK):VK:=fun x H=>∃ a,x=.ref a∧IsD H a∧ty σ H (kGE1 tx σ Q a)
theorem m_tDGet2 (td ty tx:TE) (σ:St) (H:Hp) (Q:VK):tDGet2 td ty tx σ H Q=td σ H (kGE0 ty tx σ Q):=rfl
theorem use_ge0 {ty tx:TE}{σ:St}{Q:VK}{H:Hp}{a:Addr}{kvs:List (Key × V)}(e:H a=some (.dK kvs)) (q:ty σ H (kGE1 tx σ Q a)):kGE0 ty tx σ Q (.ref a) H:=⟨a,rfl,.inl ⟨kvs,.inl e⟩,q⟩
theorem use_ge {Q:VK}{H:Hp}{a:Addr}{kvs:List (Key × V)}{k:Key}{z:V}(e:H a=some (.dK kvs)) (q:Q ((valV kvs k).getD z) H):kGE2 Q a (kV k) z H:=⟨_,DGet.k e,q⟩
end L2
set_option Elab.async false
set_option linter.all false
set_option maxRecDepth 100000
set_option maxHeartbeats 4000000
namespace L2
open PySem PySem.Spec PyProof.Rows
section
variable {X:Cx}
end
end L2
set_option Elab.async false
set_option linter.all false
set_option maxRecDepth 100000
set_option maxHeartbeats 4000000
namespace L2
open PySem PySem.Spec PyProof.Rows
def CallRK (X:Cx) (f:Value) (ks:List Str) (r:List V->List V->Hp->VK->Prop):Prop:=∀ pins s σ H vs us zs ws Q,Inv X pins σ H s->Vals vs us->Vals zs ws->r vs zs H Q->wpAny (model X.prog X.w) X.A (call f us (ks.zip ws)) (EP X pins σ Q) X.xe s
def kBK1 (r:List V->List V->Hp->VK->Prop) (Q:VK) (vs:List V):List V->Hp->Prop:=fun zs H=>r vs zs H Q
theorem m_kBK1 (r:List V->List V->Hp->VK->Prop) (Q:VK) (vs zs:List V) (H:Hp):kBK1 r Q vs zs H=r vs zs H Q:=rfl
def kBK0 (r:List V->List V->Hp->VK->Prop) (tk:TA) (σ:St) (Q:VK):List V->Hp->Prop:=fun vs H=>tk σ H (kBK1 r Q vs)
theorem m_kBK0 (r:List V->List V->Hp->VK->Prop) (tk:TA) (σ:St) (Q:VK) (vs:List V) (H:Hp):kBK0 r tk σ Q vs H=tk σ H (kBK1 r Q vs):=rfl
def tCBK (r:List V->List V->Hp->VK->Prop) (t tk:TA):TE:=fun σ H Q=>t σ H (kBK0 r tk σ Q)
theorem m_tCBK (r:List V->List V->Hp->VK->Prop) (t tk:TA) (σ:St) (H:Hp) (Q:VK):tCBK r t tk σ H Q=t σ H (kBK0 r tk σ Q):=rfl
theorem pe_callBK {X:Cx}{id:String}{x:Str}{p pos:Pos}{e:Expr}{es:List Expr}{kws:List Keyword}{ks:List Str}{r:List V->List V->Hp->VK->Prop}{t tk:TA}(hc:CallRK X (.builtin id) ks r) (hg:Gl X x) (hm:X.mg x=none) (hv:bootBuiltins x=some (.builtin id)) (ha:PA X (e::es) t) (hk:PK X kws tk) (hn:x ≠ "__name__":=by decide) (hdb:(x == ("__debug__":Str))=false:=by decide)
  (hks:(backToKw pos (keywordEach kws X.env)).filterMap (·.1)=ks:=by rfl)
  (h1:backTo pos (starEach (e::es) X.env)=(false,eval e X.env)::backTo pos (starEach es X.env):=by rfl)
  (h2:(backTo pos (starEach (e::es) X.env)).any (·.1)=false:=by rfl)
  (h3:(backToKw pos (keywordEach kws X.env)).all (·.1.isSome)=true:=by rfl)
  (h4:(backToKw pos (keywordEach kws X.env)).any (·.1.isNone)=false:=by rfl):PE X (.Call (.Name x p) (e::es) kws pos) (tCBK r t tk):=by
 intro pins s σ H Q I h
 refine wpAny_Call_Name_kw (ld_blt I hg hm hv ?_ hn hdb)
 refine callWith_kw (thn (ha pos pins s σ H _ I h) fun us s1 ⟨vs,H1,I1,r1,q1⟩=>thn (hk pos pins s1 σ H1 _ I1 q1) fun ws s2 ⟨zs,H2,I2,r2,q2⟩=>?_) h1 h2 h3 h4
 rw [hks]
 exact hc pins s2 σ H2 vs us zs ws Q I2 r1 r2 q2
section
variable {prog:Program}{w:World}{A:Around}{R:Result->Shared->Prop}{J:Addr}{fp wr:List Addr}{G:Array GenState->Array GenState->Prop}{n:Nat}{P:Nat->Value->Prop}{St:Nat->Shared->Prop}
end
section
variable {prog:Program}{w:World}{A:Around}{R:Result->Shared->Prop}{J:Addr}{fp wr:List Addr}{G:Array GenState->Array GenState->Prop}{n:Nat}{P:Nat->Value->Prop}{St:Nat->Shared->Prop}
end
end L2
set_option Elab.async false
set_option linter.all false
set_option maxRecDepth 100000
set_option maxHeartbeats 4000000
namespace L2
open PySem PySem.Spec PyProof.Rows
end L2
set_option Elab.async false
set_option linter.all false
set_option maxRecDepth 100000
set_option maxHeartbeats 4000000
namespace L2
open PySem PySem.Spec PyProof.Rows
abbrev PKy:=List Int × List Int
section
variable {prog:Program}{w:World}
end
section
variable {P:Program}{w:World}{H:Hp}{h:Heap}{a:Addr}
end
section
variable {X:Cx}{pins:List (Addr × Obj)}{σ:St}{H:Hp}{s:Shared}{d b:Addr}{k:PKy}{Z:List PKy}{A:Around}{E:Value->Shared->Prop}
end
section
variable {X:Cx}
end
theorem pi_seq' {X:Cx}{tg l:Expr}{tl:TE}{K:PySem.W.Frag}(hK:X.K=K) (hl:PE X l tl):PI X tg l (iSeq K tl):=by subst hK;exact pi_seq hl
end L2
set_option Elab.async false
set_option linter.all false
set_option maxRecDepth 100000
set_option maxHeartbeats 4000000
namespace L2
open PySem PySem.Spec PyProof.Rows
end L2
set_option Elab.async false
set_option linter.all false
set_option maxRecDepth 100000
set_option maxHeartbeats 1000000
namespace L2
open PySem PySem.Spec PyProof.Rows
section
variable {X:Cx}{e st:Expr}{te tst:TE}{pos p2:Pos}
end
end L2
set_option Elab.async false
set_option linter.all false
set_option maxRecDepth 100000
set_option maxHeartbeats 4000000
namespace L2
open PySem PySem.Spec PyProof.Rows
def qSrtR:List V->List V->Hp->VK->Prop:=fun vs zs H Q=>∃ p kvs ns,vs=[.ref p]∧zs=[.bl true]∧H p=some (.dK kvs)∧kvs.map (·.1)=ns.map (Sum.inl:Int->Key)∧ns.length < 64∧∀ ms:List Int,ms.Perm ns->ms.Pairwise (· ≥ ·)->newK (.lst (ms.map V.int)) H Q
theorem use_srtR {p:Addr}{kvs:List (Key × V)}{ns:List Int}{H:Hp}{Q:VK}(e:H p=some (.dK kvs)) (hk:kvs.map (·.1)=ns.map (Sum.inl:Int->Key)) (hl:ns.length < 64) (q:∀ ms:List Int,ms.Perm ns->ms.Pairwise (· ≥ ·)->newK (.lst (ms.map V.int)) H Q):qSrtR [.ref p] [.bl true] H Q:=⟨p,kvs,ns,rfl,rfl,e,hk,hl,q⟩
section
variable {X:Cx}
theorem call_qSrtR (hc:X.calm=true):CallRK X (.builtin "sorted") ["reverse"] qSrtR:=by
 intro pins s σ H vs us zs ws Q I r rz h
 obtain ⟨p,kvs,ns,rfl,rfl,e,hk,hl,q⟩:=h
 cases rz with
 | cons rb rz=>
 cases rz
 cases rb
 cases r with
 | cons r rr=>
  cases rr
  cases r
  obtain ⟨z,hd,xs,rel,dd⟩:=dk_of I.hok e
  obtain ⟨ep,hat⟩:=dd.dictAt
  have hlen:kvs.length=xs.length:=Paired.length rel
  have hln:xs.length=ns.length:=by rw [←hlen];have:=congrArg List.length hk;simpa using this
  show wpAny (model X.prog X.w) X.A (call (.builtin "sorted") [.ref p] [(Str.ofString "reverse",.bool true)]) _ _ _
  refine call_function_entry_kw kind_sorted plain_sorted entry_sorted (args_sorted_rev _ _) ?_
  unfold Builtin.«sorted»
  refine wpAny_bind (m:=checkCount "sorted" 1 1 _) (wpAny_pure ?_)
  refine wpAny_bind (PySem.W.kdu_collect (A:=X.A.in1) (PySem.W.kdl_dict (knd:=mixKind X.prog X.w) (kvs:=xs) (ep:=ep) hd) (show X.A.in1.handled=none from I.ok.hd hc) hat (by omega) fun h' tk acc kp hacc=>?_)
  have hal:acc.toList.length=ns.length:=by rw [Array.length_toList,hacc.1,hln]
  have hI:IntsAre acc.toList ns:=by
   refine intsAre_get hal fun i u hu=>?_
   obtain ⟨k,x,hx,hku⟩:=hacc.2 i u (by simpa using hu)
   have hi:i < kvs.length:=by rw [hlen];exact (List.getElem?_eq_some_iff.mp hx).1
   have h1:kvs[i]? = some kvs[i]:=List.getElem?_eq_getElem hi
   obtain ⟨w',hw',rw'⟩:=paired_get rel h1
   rw [hx] at hw'
   cases hw'
   have h2:(kvs.map (·.1))[i]? = some k:=by rw [List.getElem?_map,h1];exact congrArg some rw'.1
   rw [hk,List.getElem?_map] at h2
   obtain ⟨n,hn,rfl⟩:=Option.map_eq_some_iff.mp h2
   rcases keyIs_shape (show keyIs (Sum.inl n) u=true from hku) with ⟨j,t,e1,e2⟩|⟨j,t,e1,e2⟩
   ·cases e1
    exact ⟨n,t,hn,e2⟩
   ·cases e1
  refine wpAny_bind (wpAny_newList ?_ (by rw [hal];exact len5000 (by omega)))
  have hoL:(h'.push (seqObj "list" acc.toList.toArray 0)).get? h'.objs.size=some (seqObj "list" acc.toList.toArray 0):=Heap.get?_push_size _ rfl
  refine wpAny_bind (wpAny_holding (wpAny_call_entry_kw slot_list_sort ⟨_,hoL,rfl⟩ entry_list_sort (list_sort_tree_rev hoL hI (by omega) fun out ns' a1 a2 a3=>⟨_,rfl,?_⟩) (args_list_sort_rev _ _)))
  refine wpAny_pure ⟨_,rfl,?_⟩
  have I2:Inv X pins σ H { s with heap:=h',toks:=tk }:=I.kept (t':=tk) kp
  have fr:=I2.hok.fresh (Nat.le_refl _)
  obtain ⟨e',he'⟩:=sortedHeap_at (out:=out) hoL
  refine ⟨.ref h'.objs.size,_,I2.laid (t':=tk) (h':=sortedHeap (h'.push (seqObj "list" acc.toList.toArray 0)) h'.objs.size acc.toList out) (o:=.lst (ns'.map V.int)) (fun b u hb=>?_) (Nat.le_refl _) ⟨?_,out.toList,e',vals_of_ints a1,?_⟩,rfl,q ns' a2 a3 _ _ fr (Ext.new fr) upd_same⟩
  ·have hb':h'.get? b=some u:=hb
   have hlt:=Heap.lt_size hb'
   rw [sortedHeap_old (Nat.ne_of_lt hlt) (by rw [size_push'];exact Nat.lt_succ_of_lt hlt)]
   exact Heap.get?_push_of_some _ hb'
  ·rw [List.length_map,a2.length_eq];exact len5000 (by omega)
  ·rw [Array.toArray_toList];exact he'
end
end L2
namespace PH
end PH
namespace PH
open PySem L2
def vi:V->Int
 | .int i=>i
 | _=>0
end PH
namespace PH
end PH
namespace PH
open PySem L2
theorem filt {α:Type}(l:List α):(l.filter fun _=>true)=l:=List.filter_eq_self.mpr fun _ _=>rfl
end PH
namespace PH
open PySem L2
def keptA (a:Int × Int):Int × Int:=(a.1,if a.1 > 1 then a.2 else 0)
def axL (axs:List (Int × Int)):List (List Int):=axs.map fun a=>[a.1,a.2]
def leastL (axs:List (Int × Int)):Int:=(axs.map fun a=>min 0 ((a.1 - 1) * a.2)).sum
def greatL (axs:List (Int × Int)):Int:=(axs.map fun a=>max 0 ((a.1 - 1) * a.2)).sum
def Axes (axs:List (Int × Int)):Prop:=axs.length≤8∧∀ a∈axs,1≤a.1∧a.1≤1000000000
structure ViewOk (room first:Int) (axs:List (Int × Int)):Prop where
 ax:Axes axs
 r1:1≤room
 r2:room≤1000000000000000000
 lo:0≤first+leastL (axs.map keptA)
 hi:first+greatL (axs.map keptA) < room
theorem Axes.kept {axs:List (Int × Int)}(h:Axes axs):Axes (axs.map keptA):=⟨by rw [List.length_map];exact h.1,fun a ha=>by
 obtain ⟨b,hb,rfl⟩:=List.mem_map.mp ha
 exact h.2 b hb⟩
def viewF (room first:Int) (l:Addr):List (Str × V):=putF "axes" (.ref l) (putF "first" (.int first) (putF "room" (.int room) []))
theorem ne_ra:¬ (("room":Str) = "axes"):=by decide +kernel
theorem ne_rf:¬ (("room":Str) = "first"):=by decide +kernel
theorem ne_fa:¬ (("first":Str) = "axes"):=by decide +kernel
theorem viewF_room (room first:Int) (l:Addr):(viewF room first l).lookup ("room":Str)=some (.int room):=by
 unfold viewF
 rw [lookup_putF,if_neg ne_ra,lookup_putF,if_neg ne_rf,lookup_putF,if_pos rfl]
theorem viewF_first (room first:Int) (l:Addr):(viewF room first l).lookup ("first":Str)=some (.int first):=by
 unfold viewF
 rw [lookup_putF,if_neg ne_fa,lookup_putF,if_pos rfl]
theorem viewF_axes (room first:Int) (l:Addr):(viewF room first l).lookup ("axes":Str)=some (.ref l):=by
 unfold viewF
 rw [lookup_putF,if_pos rfl]
theorem viewF_no (room first:Int) (l:Addr){m:Str}(h1:¬ m = "axes") (h2:¬ m = "first") (h3:¬ m = "room"):(viewF room first l).lookup m=none:=by
 unfold viewF
 rw [lookup_putF,if_neg h1,lookup_putF,if_neg h2,lookup_putF,if_neg h3]
 rfl
end PH
namespace PH
open PySem L2
theorem leastL_cons (a:Int × Int) (l:List (Int × Int)):leastL (a::l)=min 0 ((a.1 - 1) * a.2)+leastL l:=by unfold leastL;simp
theorem greatL_cons (a:Int × Int) (l:List (Int × Int)):greatL (a::l)=max 0 ((a.1 - 1) * a.2)+greatL l:=by unfold greatL;simp
end PH
namespace PH
open PySem L2
end PH
namespace PH
def wideL (cs:List Int) (a:Int × Int):List Int:=cs.flatMap fun c=>(List.range a.1.toNat).map fun (n:Nat)=>c+(n:Int) * a.2
def cellsL (first:Int) (axs:List (Int × Int)):List Int:=axs.foldl wideL [first]
end PH
namespace PH
end PH
namespace PH
theorem gcd_step (f r:Int) (hr:0 < r) (hf:0≤f):Int.gcd r (f % r)=Int.gcd f r:=by
 obtain ⟨n,rfl⟩:=Int.eq_ofNat_of_zero_le hf
 obtain ⟨m,rfl⟩:=Int.eq_ofNat_of_zero_le (Int.le_of_lt hr)
 show Nat.gcd (m:Int).natAbs (((n:Int) % (m:Int))).natAbs=Nat.gcd (n:Int).natAbs (m:Int).natAbs
 rw [←Int.natCast_emod]
 simp only [Int.natAbs_natCast]
 rw [Nat.gcd_comm n m,Nat.gcd_rec m n,Nat.gcd_comm]
theorem gcd_abs (a b:Int):Int.gcd (if a < 0 then -a else a) (if b < 0 then -b else b)=Int.gcd a b:=by
 have h:∀ x:Int,(if x < 0 then -x else x).natAbs=x.natAbs:=by
  intro x;split
  ·exact Int.natAbs_neg x
  ·rfl
 show Nat.gcd _ _=Nat.gcd _ _
 rw [h a,h b]
theorem abs_nn (a:Int):0≤(if a < 0 then -a else a):=by split<;>omega
theorem gcd_zero (f:Int) (hf:0≤f):(Int.gcd f 0:Int)=f:=by
 rw [Int.gcd_zero_right];omega
def gcdL (ns:List Int):Int:=ns.foldl (fun f n=>(Int.gcd f n:Int)) 0
theorem gcdL_take (ns:List Int) (i:Nat) (z:Int) (h:ns[i]? = some z):gcdL (ns.take (i+1))=(Int.gcd (gcdL (ns.take i)) z:Int):=by
 unfold gcdL
 rw [List.take_add_one,h]
 simp [List.foldl_append]
end PH
namespace PH
open L2 PySem
abbrev Tm3:=Int × Int × Int
def lsum (zs:List Tm3) (cs:List (Int × Int)):Int:=((zs.zip cs).map fun p=>p.1.1 * p.2.1).sum
def gsum (zs:List Tm3) (cs:List (Int × Int)):Int:=((zs.zip cs).map fun p=>p.1.1 * p.2.2).sum
def restL (zs:List Tm3) (cs:List (Int × Int)):List Int:=((zs.zip cs).filter fun p=>decide (p.2.1 < p.2.2)).map fun p=>p.1.1
def endedB (g l gr r:Int):Bool:=decide (g < l) || decide (gr < g) || (decide (1 < r) && decide (0 < (g - l) % r))
def ended (zs:List Tm3) (cs:List (Int × Int)) (g:Int):Bool:=endedB g (lsum zs cs) (gsum zs cs) (gcdL (restL zs cs))
structure TmsOk (zs:List Tm3):Prop where
 len:zs.length≤17
 all:∀ z∈zs,(1≤z.1∧z.1≤2000000000000000000)∧(-2000000000≤z.2.1∧z.2.1≤2000000000)∧z.2.1 < z.2.2∧z.2.2≤2000000000
structure CsOk (zs:List Tm3) (cs:List (Int × Int)):Prop where
 len:cs.length=zs.length
 all:∀ p∈zs.zip cs,p.1.2.1≤p.2.1∧p.2.1≤p.2.2∧p.2.2≤p.1.2.2
theorem gcdL_nn (ns:List Int):0≤gcdL ns:=by
 have:∀ (ns:List Int) (a:Int),0≤a->0≤ns.foldl (fun f n=>(Int.gcd f n:Int)) a:=by
  intro ns
  induction ns with
  | nil=>intro a h;exact h
  | cons n ns ih=>intro a h;exact ih _ (by show (0:Int)≤(Int.gcd a n:Int);omega)
 exact this ns 0 (Int.le_refl _)
def trP (z:Tm3) (x:V) (H:Hp):Prop:=∃ q,x=.ref q∧H q=some (.tup [.int z.1,.int z.2.1,.int z.2.2])
theorem trP.ext {z:Tm3}{x:V}{H H':Hp}(h:trP z x H) (e:Ext H H'):trP z x H':=by
 obtain ⟨q,rfl,hq⟩:=h
 exact ⟨q,rfl,e.at hq⟩
def LAt {α:Type}(R:α->V->Hp->Prop) (H:Hp) (p:Addr) (zs:List α):Prop:=∃ ys,H p=some (.lst ys)∧Al (fun z y=>R z y H) zs ys
theorem LAt.ext {α:Type}{R:α->V->Hp->Prop}{H H':Hp}{p:Addr}{zs:List α}(hR:∀ z y H H',R z y H->Ext H H'->R z y H') (h:LAt R H p zs) (e:Ext H H'):LAt R H' p zs:=by
 obtain ⟨ys,hp,al⟩:=h
 exact ⟨ys,e.at hp,al.imp fun _ _ r=>hR _ _ _ _ r e⟩
abbrev TrAt (H:Hp) (p:Addr) (zs:List Tm3):Prop:=LAt trP H p zs
abbrev PrAt (H:Hp) (p:Addr) (cs:List (Int × Int)):Prop:=LAt axP H p cs
theorem tr_ext {H H':Hp}{p:Addr}{zs:List Tm3}(h:TrAt H p zs) (e:Ext H H'):TrAt H' p zs:=LAt.ext (fun _ _ _ _ r e=>r.ext e) h e
theorem pr_ext {H H':Hp}{p:Addr}{zs:List (Int × Int)}(h:PrAt H p zs) (e:Ext H H'):PrAt H' p zs:=LAt.ext (fun _ _ _ _ r e=>r.ext e) h e
theorem tr_get {H:Hp}{zs:List Tm3}{ys:List V}(al:Al (fun z y=>trP z y H) zs ys){k:Nat}(hk:k < zs.length):∃ q,atI ys (0+(k:Int))=some (.ref q)∧H q=some (.tup [.int (zs.getD k default).1,.int (zs.getD k default).2.1,.int (zs.getD k default).2.2]):=by
 have hy:ys[k]? = some (ys[k]'(by rw [al.1];exact hk)):=List.getElem?_eq_getElem _
 obtain ⟨q,h1,h2⟩:=al.2 k _ _ (List.getElem?_eq_getElem hk) hy
 refine ⟨q,by rw [Int.zero_add];exact atI_nat (by rw [hy,h1]),?_⟩
 rw [show zs.getD k default=zs[k] by simp [List.getD,List.getElem?_eq_getElem hk]]
 exact h2
theorem pr_get {H:Hp}{zs:List (Int × Int)}{ys:List V}(al:Al (fun z y=>axP z y H) zs ys){k:Nat}(hk:k < zs.length):∃ q,atI ys (0+(k:Int))=some (.ref q)∧H q=some (.tup [.int (zs.getD k default).1,.int (zs.getD k default).2]):=by
 have hy:ys[k]? = some (ys[k]'(by rw [al.1];exact hk)):=List.getElem?_eq_getElem _
 obtain ⟨q,h1,h2⟩:=al.2 k _ _ (List.getElem?_eq_getElem hk) hy
 refine ⟨q,by rw [Int.zero_add];exact atI_nat (by rw [hy,h1]),?_⟩
 rw [show zs.getD k default=zs[k] by simp [List.getD,List.getElem?_eq_getElem hk]]
 exact h2
theorem al_pr {H:Hp}{zs:List (Int × Int)}{ys:List V}(al:Al (fun z y=>axP z y H) zs ys):Al (TupV H) (zs.map fun z=>[z.1,z.2]) ys:=by
 refine ⟨by rw [al.1,List.length_map],fun i z y hz hy=>?_⟩
 rw [List.getElem?_map] at hz
 obtain ⟨a,ha,rfl⟩:=Option.map_eq_some_iff.mp hz
 exact al.2 i a y ha hy
theorem Al.cons' {α:Type}{R:α->V->Prop}{z:α}{y:V}{zs:List α}{ys:List V}(r:R z y) (h:Al R zs ys):Al R (z::zs) (y::ys):=⟨by simp [h.1],fun i z' y' a b=>by
 cases i with
 | zero=>cases a;cases b;exact r
 | succ n=>exact h.2 n z' y' (by simpa using a) (by simpa using b)⟩
theorem axP.upd {z:Int × Int}{y:V}{H:Hp}{p:Addr}{xs:List V}{o:HO}(h:axP z y H) (hp:H p=some (.lst xs)):axP z y (upd H p o):=by
 obtain ⟨q,rfl,hq⟩:=h
 exact ⟨q,rfl,by rw [upd_ne (fun e=>by rw [e,hp] at hq;cases hq)];exact hq⟩
end PH
set_option Elab.async false
set_option linter.all false
set_option maxRecDepth 100000
set_option maxHeartbeats 4000000
namespace PH
open PySem L2
def top (i:Nat):Stmt:=PySem.Challenge.pw_pacehall_k54_apart.main.body.getD i (.Pass ⟨0,0,0,0⟩)
abbrev s_is_whole:Stmt:=top 2
theorem c_is_whole:FnScope ["thing"] ["thing"] (defScope s_is_whole):=⟨rfl,rfl,rfl,by decide +kernel,rfl,by decide +kernel,by decide +kernel⟩
abbrev s_divisor:Stmt:=top 3
theorem c_divisor:FnScope ["one", "other", "found", "rest", "smaller"] ["one", "other"] (defScope s_divisor):=⟨rfl,rfl,rfl,by decide +kernel,rfl,by decide +kernel,by decide +kernel⟩
abbrev s_divisor_of:Stmt:=top 4
theorem c_divisor_of:FnScope ["numbers", "found", "number"] ["numbers"] (defScope s_divisor_of):=⟨rfl,rfl,rfl,by decide +kernel,rfl,by decide +kernel,by decide +kernel⟩
abbrev s_least_sum:Stmt:=top 6
theorem c_least_sum:FnScope ["terms", "case"] ["terms", "case"] (defScope s_least_sum):=⟨rfl,rfl,rfl,by decide +kernel,rfl,by decide +kernel,by decide +kernel⟩
abbrev s_greatest_sum:Stmt:=top 7
theorem c_greatest_sum:FnScope ["terms", "case"] ["terms", "case"] (defScope s_greatest_sum):=⟨rfl,rfl,rfl,by decide +kernel,rfl,by decide +kernel,by decide +kernel⟩
abbrev s_rest_of:Stmt:=top 8
theorem c_rest_of:FnScope ["terms", "case"] ["terms", "case"] (defScope s_rest_of):=⟨rfl,rfl,rfl,by decide +kernel,rfl,by decide +kernel,by decide +kernel⟩
abbrev s_end_of:Stmt:=top 9
theorem c_end_of:FnScope ["terms", "goal", "case", "least", "rest"] ["terms", "goal", "case"] (defScope s_end_of):=⟨rfl,rfl,rfl,by decide +kernel,rfl,by decide +kernel,by decide +kernel⟩
abbrev s_is_number_below:Stmt:=top 17
abbrev s_is_place:Stmt:=top 18
abbrev s_is_within:Stmt:=top 23
theorem c_is_within:FnScope ["thing", "low", "high"] ["thing", "low", "high"] (defScope s_is_within):=⟨rfl,rfl,rfl,by decide +kernel,rfl,by decide +kernel,by decide +kernel⟩
abbrev s_is_size:Stmt:=top 24
theorem c_is_size:FnScope ["thing"] ["thing"] (defScope s_is_size):=⟨rfl,rfl,rfl,by decide +kernel,rfl,by decide +kernel,by decide +kernel⟩
abbrev s_is_axis:Stmt:=top 25
theorem c_is_axis:FnScope ["thing"] ["thing"] (defScope s_is_axis):=⟨rfl,rfl,rfl,by decide +kernel,rfl,by decide +kernel,by decide +kernel⟩
abbrev s_are_axes:Stmt:=top 26
theorem c_are_axes:FnScope ["thing"] ["thing"] (defScope s_are_axes):=⟨rfl,rfl,rfl,by decide +kernel,rfl,by decide +kernel,by decide +kernel⟩
abbrev s_kept_axis:Stmt:=top 27
theorem c_kept_axis:FnScope ["axis"] ["axis"] (defScope s_kept_axis):=⟨rfl,rfl,rfl,by decide +kernel,rfl,by decide +kernel,by decide +kernel⟩
abbrev s_View___init__:Stmt:=inClass (top 28) 0
theorem c_View___init__:FnScope ["self", "room", "first", "axes"] ["self", "room", "first", "axes"] (defScope s_View___init__):=⟨rfl,rfl,rfl,by decide +kernel,rfl,by decide +kernel,by decide +kernel⟩
abbrev s_View_sizes:Stmt:=inClass (top 28) 1
abbrev s_View_paces:Stmt:=inClass (top 28) 2
abbrev s_View_cell:Stmt:=inClass (top 28) 4
abbrev s_View_least:Stmt:=inClass (top 28) 7
theorem c_View_least:FnScope ["self"] ["self"] (defScope s_View_least):=⟨rfl,rfl,rfl,by decide +kernel,rfl,by decide +kernel,by decide +kernel⟩
abbrev s_View_greatest:Stmt:=inClass (top 28) 8
theorem c_View_greatest:FnScope ["self"] ["self"] (defScope s_View_greatest):=⟨rfl,rfl,rfl,by decide +kernel,rfl,by decide +kernel,by decide +kernel⟩
abbrev s_refuse_rooms:Stmt:=top 30
theorem c_refuse_rooms:FnScope ["one", "other"] ["one", "other"] (defScope s_refuse_rooms):=⟨rfl,rfl,rfl,by decide +kernel,rfl,by decide +kernel,by decide +kernel⟩
abbrev s_pulls:Stmt:=top 32
theorem c_pulls:FnScope ["one", "other"] ["one", "other"] (defScope s_pulls):=⟨rfl,rfl,rfl,by decide +kernel,rfl,by decide +kernel,by decide +kernel⟩
abbrev s_gathered:Stmt:=top 33
theorem c_gathered:FnScope ["one", "other", "lows", "highs", "pace", "size", "times", "reach", "terms"] ["one", "other"] (defScope s_gathered):=⟨rfl,rfl,rfl,by decide +kernel,rfl,by decide +kernel,by decide +kernel⟩
abbrev s_first_case:Stmt:=top 36
theorem c_first_case:FnScope ["terms"] ["terms"] (defScope s_first_case):=⟨rfl,rfl,rfl,by decide +kernel,rfl,by decide +kernel,by decide +kernel⟩
abbrev s_parted:Stmt:=top 37
theorem c_parted:FnScope ["case", "k", "at", "upper", "lower"] ["case", "k", "at"] (defScope s_parted):=⟨rfl,rfl,rfl,by decide +kernel,rfl,by decide +kernel,by decide +kernel⟩
abbrev s_numbers_at_once:Stmt:=top 38
theorem c_numbers_at_once:FnScope ["terms", "goal", "case"] ["terms", "goal", "case"] (defScope s_numbers_at_once):=⟨rfl,rfl,rfl,by decide +kernel,rfl,by decide +kernel,by decide +kernel⟩
abbrev s_narrowed:Stmt:=top 39
theorem c_narrowed:FnScope ["times", "bounds", "above_least", "below_greatest"] ["times", "bounds", "above_least", "below_greatest"] (defScope s_narrowed):=⟨rfl,rfl,rfl,by decide +kernel,rfl,by decide +kernel,by decide +kernel⟩
abbrev s_parting:Stmt:=top 40
theorem c_parting:FnScope ["terms", "goal", "case", "above_least", "below_greatest", "best", "k", "bounds", "kept"] ["terms", "goal", "case"] (defScope s_parting):=⟨rfl,rfl,rfl,by decide +kernel,rfl,by decide +kernel,by decide +kernel⟩
abbrev s_places_by_numbers:Stmt:=top 41
theorem c_places_by_numbers:FnScope ["one", "other", "terms", "numbers", "left", "term", "number", "place", "pace", "size", "taken", "many"] ["one", "other", "terms", "numbers"] (defScope s_places_by_numbers):=⟨rfl,rfl,rfl,by decide +kernel,rfl,by decide +kernel,by decide +kernel⟩
abbrev s_shares:Stmt:=top 42
theorem c_shares:FnScope ["one", "other", "most", "found", "terms", "goal", "cases", "paper", "looked", "case", "step", "numbers"] ["one", "other", "most"] (defScope s_shares):=⟨rfl,rfl,rfl,by decide +kernel,rfl,by decide +kernel,by decide +kernel⟩
abbrev s__law_draw:Stmt:=top 44
theorem c__law_draw:FnScope ["_law_script", "_law_k", "_law_many", "_law_number", "_law_cell_here"] ["_law_script", "_law_k", "_law_many"] (defScope s__law_draw):=⟨rfl,rfl,rfl,by decide +kernel,rfl,by decide +kernel,by decide +kernel⟩
abbrev s__law_whole:Stmt:=top 45
theorem c__law_whole:FnScope ["_law_found"] ["_law_found"] (defScope s__law_whole):=⟨rfl,rfl,rfl,by decide +kernel,rfl,by decide +kernel,by decide +kernel⟩
abbrev s__law_axes:Stmt:=top 46
theorem c__law_axes:FnScope ["_law_script", "_law_at", "_law_factor", "_law_axes_here", "_law_count", "_law_k", "_law_cell_here", "_law_size", "_law_pace"] ["_law_script", "_law_at", "_law_factor"] (defScope s__law_axes):=⟨rfl,rfl,rfl,by decide +kernel,rfl,by decide +kernel,by decide +kernel⟩
abbrev s__law_placed:Stmt:=top 47
theorem c__law_placed:FnScope ["_law_one", "_law_other", "_law_goal_here", "_law_low", "_law_more", "_law_least", "_law_greatest", "_law_first", "_law_room"] ["_law_one", "_law_other", "_law_goal_here", "_law_low", "_law_more"] (defScope s__law_placed):=⟨rfl,rfl,rfl,by decide +kernel,rfl,by decide +kernel,by decide +kernel⟩
abbrev s__law_terms:Stmt:=top 48
theorem c__law_terms:FnScope ["_law_one", "_law_other", "_law_ranges", "_law_axes_here", "_law_sign", "_law_size", "_law_pace", "_law_low", "_law_high", "_law_found"] ["_law_one", "_law_other"] (defScope s__law_terms):=⟨rfl,rfl,rfl,by decide +kernel,rfl,by decide +kernel,by decide +kernel⟩
abbrev s__law_product:Stmt:=top 49
theorem c__law_product:FnScope ["_law_terms_here", "_law_count", "_law_times", "_law_low", "_law_high"] ["_law_terms_here"] (defScope s__law_product):=⟨rfl,rfl,rfl,by decide +kernel,rfl,by decide +kernel,by decide +kernel⟩
abbrev s__law_is_place:Stmt:=top 50
theorem c__law_is_place:FnScope ["_law_place", "_law_axes_here", "_law_at", "_law_axis"] ["_law_place", "_law_axes_here"] (defScope s__law_is_place):=⟨rfl,rfl,rfl,by decide +kernel,rfl,by decide +kernel,by decide +kernel⟩
abbrev s__law_cell:Stmt:=top 51
theorem c__law_cell:FnScope ["_law_first", "_law_axes_here", "_law_place"] ["_law_first", "_law_axes_here", "_law_place"] (defScope s__law_cell):=⟨rfl,rfl,rfl,by decide +kernel,rfl,by decide +kernel,by decide +kernel⟩
abbrev s__law_met:Stmt:=top 52
theorem c__law_met:FnScope ["_law_found", "_law_one", "_law_other", "_law_goal_here"] ["_law_found", "_law_one", "_law_other", "_law_goal_here"] (defScope s__law_met):=⟨rfl,rfl,rfl,by decide +kernel,rfl,by decide +kernel,by decide +kernel⟩
abbrev s__law_sums:Stmt:=top 53
theorem c__law_sums:FnScope ["_law_terms_here", "_law_case", "_law_least"] ["_law_terms_here", "_law_case"] (defScope s__law_sums):=⟨rfl,rfl,rfl,by decide +kernel,rfl,by decide +kernel,by decide +kernel⟩
abbrev s__law_divisor:Stmt:=top 54
theorem c__law_divisor:FnScope ["_law_numbers", "_law_found", "_law_other", "_law_one"] ["_law_numbers"] (defScope s__law_divisor):=⟨rfl,rfl,rfl,by decide +kernel,rfl,by decide +kernel,by decide +kernel⟩
abbrev s__law_ended:Stmt:=top 55
theorem c__law_ended:FnScope ["_law_terms_here", "_law_goal_here", "_law_case", "_law_least", "_law_greatest", "_law_rest_here"] ["_law_terms_here", "_law_goal_here", "_law_case"] (defScope s__law_ended):=⟨rfl,rfl,rfl,by decide +kernel,rfl,by decide +kernel,by decide +kernel⟩
abbrev s__law_rest:Stmt:=top 56
theorem c__law_rest:FnScope ["_law_terms_here", "_law_goal_here", "_law_case", "_law_by", "_law_k"] ["_law_terms_here", "_law_goal_here", "_law_case", "_law_by"] (defScope s__law_rest):=⟨rfl,rfl,rfl,by decide +kernel,rfl,by decide +kernel,by decide +kernel⟩
abbrev s__law_behind:Stmt:=top 57
theorem c__law_behind:FnScope ["_law_terms_here", "_law_goal_here", "_law_case", "_law_step", "_law_least", "_law_greatest", "_law_word", "_law_k", "_law_at"] ["_law_terms_here", "_law_goal_here", "_law_case", "_law_step"] (defScope s__law_behind):=⟨rfl,rfl,rfl,by decide +kernel,rfl,by decide +kernel,by decide +kernel⟩
abbrev s__law_left:Stmt:=top 58
theorem c__law_left:FnScope ["_law_terms_here", "_law_goal_here", "_law_paper", "_law_bare", "_law_cases", "_law_step", "_law_case", "_law_more"] ["_law_terms_here", "_law_goal_here", "_law_paper", "_law_bare"] (defScope s__law_left):=⟨rfl,rfl,rfl,by decide +kernel,rfl,by decide +kernel,by decide +kernel⟩
abbrev s__law_apart:Stmt:=top 59
theorem c__law_apart:FnScope ["_law_found", "_law_terms_here", "_law_goal_here", "_law_most"] ["_law_found", "_law_terms_here", "_law_goal_here", "_law_most"] (defScope s__law_apart):=⟨rfl,rfl,rfl,by decide +kernel,rfl,by decide +kernel,by decide +kernel⟩
abbrev s__law_answer:Stmt:=top 60
theorem c__law_answer:FnScope ["_law_found", "_law_one", "_law_other", "_law_goal_here", "_law_most"] ["_law_found", "_law_one", "_law_other", "_law_goal_here", "_law_most"] (defScope s__law_answer):=⟨rfl,rfl,rfl,by decide +kernel,rfl,by decide +kernel,by decide +kernel⟩
abbrev s__law_goal:Stmt:=top 61
theorem c__law_goal:FnScope ["_law_script", "_law_terms_here", "_law_factor", "_law_wide", "_law_least", "_law_greatest", "_law_cell_here", "_law_way"] ["_law_script", "_law_terms_here", "_law_factor"] (defScope s__law_goal):=⟨rfl,rfl,rfl,by decide +kernel,rfl,by decide +kernel,by decide +kernel⟩
abbrev s_law:Stmt:=top 62
theorem c_law:FnScope ["_law_script", "_law_factor", "_law_one", "_law_other", "_law_terms_here", "_law_goal_here", "_law_here", "_law_there", "_law_most", "_law_found", "_law_kept"] ["_law_script"] (defScope s_law):=⟨rfl,rfl,rfl,by decide +kernel,rfl,by decide +kernel,by decide +kernel⟩
set_option genInjectivity false in
structure Adr where
 a_PaceError:Addr
 a_NoPlace:Addr
 a_NoView:Addr
 a_NoPair:Addr
 a_NoMost:Addr
 a_View:Addr
 a_is_whole:Addr
 d_is_whole:FuncData
 a_divisor:Addr
 d_divisor:FuncData
 a_divisor_of:Addr
 d_divisor_of:FuncData
 a_least_sum:Addr
 d_least_sum:FuncData
 a_greatest_sum:Addr
 d_greatest_sum:FuncData
 a_rest_of:Addr
 d_rest_of:FuncData
 a_end_of:Addr
 d_end_of:FuncData
 a_is_number_below:Addr
 d_is_number_below:FuncData
 a_is_place:Addr
 d_is_place:FuncData
 a_is_within:Addr
 d_is_within:FuncData
 a_is_size:Addr
 d_is_size:FuncData
 a_is_axis:Addr
 d_is_axis:FuncData
 a_are_axes:Addr
 d_are_axes:FuncData
 a_kept_axis:Addr
 d_kept_axis:FuncData
 a_View___init__:Addr
 d_View___init__:FuncData
 a_View_sizes:Addr
 d_View_sizes:FuncData
 a_View_paces:Addr
 d_View_paces:FuncData
 a_View_cell:Addr
 d_View_cell:FuncData
 a_View_least:Addr
 d_View_least:FuncData
 a_View_greatest:Addr
 d_View_greatest:FuncData
 a_refuse_rooms:Addr
 d_refuse_rooms:FuncData
 a_pulls:Addr
 d_pulls:FuncData
 a_gathered:Addr
 d_gathered:FuncData
 a_first_case:Addr
 d_first_case:FuncData
 a_parted:Addr
 d_parted:FuncData
 a_numbers_at_once:Addr
 d_numbers_at_once:FuncData
 a_narrowed:Addr
 d_narrowed:FuncData
 a_parting:Addr
 d_parting:FuncData
 a_places_by_numbers:Addr
 d_places_by_numbers:FuncData
 a_shares:Addr
 d_shares:FuncData
 a__law_draw:Addr
 d__law_draw:FuncData
 a__law_whole:Addr
 d__law_whole:FuncData
 a__law_axes:Addr
 d__law_axes:FuncData
 a__law_placed:Addr
 d__law_placed:FuncData
 a__law_terms:Addr
 d__law_terms:FuncData
 a__law_product:Addr
 d__law_product:FuncData
 a__law_is_place:Addr
 d__law_is_place:FuncData
 a__law_cell:Addr
 d__law_cell:FuncData
 a__law_met:Addr
 d__law_met:FuncData
 a__law_sums:Addr
 d__law_sums:FuncData
 a__law_divisor:Addr
 d__law_divisor:FuncData
 a__law_ended:Addr
 d__law_ended:FuncData
 a__law_rest:Addr
 d__law_rest:FuncData
 a__law_behind:Addr
 d__law_behind:FuncData
 a__law_left:Addr
 d__law_left:FuncData
 a__law_apart:Addr
 d__law_apart:FuncData
 a__law_answer:Addr
 d__law_answer:FuncData
 a__law_goal:Addr
 d__law_goal:FuncData
 a_law:Addr
 d_law:FuncData
structure Tx (K:PySem.W.Frag) (mg:Str->Option Value) (t:Adr):Prop where
 m_PaceError:mg "PaceError"=some (.ref t.a_PaceError)
 m_NoPlace:mg "NoPlace"=some (.ref t.a_NoPlace)
 m_NoView:mg "NoView"=some (.ref t.a_NoView)
 m_NoPair:mg "NoPair"=some (.ref t.a_NoPair)
 m_NoMost:mg "NoMost"=some (.ref t.a_NoMost)
 m_View:mg "View"=some (.ref t.a_View)
 m_MOST_ROOM:∃ tk,mg "MOST_ROOM"=some (.int 1000000000000000000 tk)
 m_MOST_SIZE:∃ tk,mg "MOST_SIZE"=some (.int 1000000000 tk)
 m_MOST_AXES:∃ tk,mg "MOST_AXES"=some (.int 8 tk)
 m_MOST_CASES:∃ tk,mg "MOST_CASES"=some (.int 100000 tk)
 cl_View:Cls K t.a_View
 na_View_axes:NoAttr K t.a_View "axes"
 na_View_first:NoAttr K t.a_View "first"
 na_View_room:NoAttr K t.a_View "room"
 mk_View:Mk K t.a_View t.a_View___init__
 mt_View_sizes:Meth K t.a_View "sizes" t.a_View_sizes
 mt_View_paces:Meth K t.a_View "paces" t.a_View_paces
 mt_View_cell:Meth K t.a_View "cell" t.a_View_cell
 mt_View_least:Meth K t.a_View "least" t.a_View_least
 mt_View_greatest:Meth K t.a_View "greatest" t.a_View_greatest
 F_is_whole:Fun K "is_whole" "is_whole" s_is_whole t.a_is_whole t.d_is_whole
 m_is_whole:mg "is_whole"=some (.ref t.a_is_whole)
 b_is_whole:Binds K t.d_is_whole ["thing"] []
 F_divisor:Fun K "divisor" "divisor" s_divisor t.a_divisor t.d_divisor
 m_divisor:mg "divisor"=some (.ref t.a_divisor)
 b_divisor:Binds K t.d_divisor ["one", "other"] []
 F_divisor_of:Fun K "divisor_of" "divisor_of" s_divisor_of t.a_divisor_of t.d_divisor_of
 m_divisor_of:mg "divisor_of"=some (.ref t.a_divisor_of)
 b_divisor_of:Binds K t.d_divisor_of ["numbers"] []
 F_least_sum:Fun K "least_sum" "least_sum" s_least_sum t.a_least_sum t.d_least_sum
 m_least_sum:mg "least_sum"=some (.ref t.a_least_sum)
 b_least_sum:Binds K t.d_least_sum ["terms", "case"] []
 F_greatest_sum:Fun K "greatest_sum" "greatest_sum" s_greatest_sum t.a_greatest_sum t.d_greatest_sum
 m_greatest_sum:mg "greatest_sum"=some (.ref t.a_greatest_sum)
 b_greatest_sum:Binds K t.d_greatest_sum ["terms", "case"] []
 F_rest_of:Fun K "rest_of" "rest_of" s_rest_of t.a_rest_of t.d_rest_of
 m_rest_of:mg "rest_of"=some (.ref t.a_rest_of)
 b_rest_of:Binds K t.d_rest_of ["terms", "case"] []
 F_end_of:Fun K "end_of" "end_of" s_end_of t.a_end_of t.d_end_of
 m_end_of:mg "end_of"=some (.ref t.a_end_of)
 b_end_of:Binds K t.d_end_of ["terms", "goal", "case"] []
 F_is_number_below:Fun K "is_number_below" "is_number_below" s_is_number_below t.a_is_number_below t.d_is_number_below
 m_is_number_below:mg "is_number_below"=some (.ref t.a_is_number_below)
 b_is_number_below:Binds K t.d_is_number_below ["thing", "bound"] []
 F_is_place:Fun K "is_place" "is_place" s_is_place t.a_is_place t.d_is_place
 m_is_place:mg "is_place"=some (.ref t.a_is_place)
 b_is_place:Binds K t.d_is_place ["sizes", "thing"] []
 F_is_within:Fun K "is_within" "is_within" s_is_within t.a_is_within t.d_is_within
 m_is_within:mg "is_within"=some (.ref t.a_is_within)
 b_is_within:Binds K t.d_is_within ["thing", "low", "high"] []
 F_is_size:Fun K "is_size" "is_size" s_is_size t.a_is_size t.d_is_size
 m_is_size:mg "is_size"=some (.ref t.a_is_size)
 b_is_size:Binds K t.d_is_size ["thing"] []
 F_is_axis:Fun K "is_axis" "is_axis" s_is_axis t.a_is_axis t.d_is_axis
 m_is_axis:mg "is_axis"=some (.ref t.a_is_axis)
 b_is_axis:Binds K t.d_is_axis ["thing"] []
 F_are_axes:Fun K "are_axes" "are_axes" s_are_axes t.a_are_axes t.d_are_axes
 m_are_axes:mg "are_axes"=some (.ref t.a_are_axes)
 b_are_axes:Binds K t.d_are_axes ["thing"] []
 F_kept_axis:Fun K "kept_axis" "kept_axis" s_kept_axis t.a_kept_axis t.d_kept_axis
 m_kept_axis:mg "kept_axis"=some (.ref t.a_kept_axis)
 b_kept_axis:Binds K t.d_kept_axis ["axis"] []
 F_View___init__:Fun K "__init__" "View.__init__" s_View___init__ t.a_View___init__ t.d_View___init__
 b_View___init__:Binds K t.d_View___init__ ["self", "room", "first", "axes"] []
 F_View_sizes:Fun K "sizes" "View.sizes" s_View_sizes t.a_View_sizes t.d_View_sizes
 b_View_sizes:Binds K t.d_View_sizes ["self"] []
 F_View_paces:Fun K "paces" "View.paces" s_View_paces t.a_View_paces t.d_View_paces
 b_View_paces:Binds K t.d_View_paces ["self"] []
 F_View_cell:Fun K "cell" "View.cell" s_View_cell t.a_View_cell t.d_View_cell
 b_View_cell:Binds K t.d_View_cell ["self", "place"] []
 F_View_least:Fun K "least" "View.least" s_View_least t.a_View_least t.d_View_least
 b_View_least:Binds K t.d_View_least ["self"] []
 F_View_greatest:Fun K "greatest" "View.greatest" s_View_greatest t.a_View_greatest t.d_View_greatest
 b_View_greatest:Binds K t.d_View_greatest ["self"] []
 F_refuse_rooms:Fun K "refuse_rooms" "refuse_rooms" s_refuse_rooms t.a_refuse_rooms t.d_refuse_rooms
 m_refuse_rooms:mg "refuse_rooms"=some (.ref t.a_refuse_rooms)
 b_refuse_rooms:Binds K t.d_refuse_rooms ["one", "other"] []
 F_pulls:Fun K "pulls" "pulls" s_pulls t.a_pulls t.d_pulls
 m_pulls:mg "pulls"=some (.ref t.a_pulls)
 b_pulls:Binds K t.d_pulls ["one", "other"] []
 F_gathered:Fun K "gathered" "gathered" s_gathered t.a_gathered t.d_gathered
 m_gathered:mg "gathered"=some (.ref t.a_gathered)
 b_gathered:Binds K t.d_gathered ["one", "other"] []
 F_first_case:Fun K "first_case" "first_case" s_first_case t.a_first_case t.d_first_case
 m_first_case:mg "first_case"=some (.ref t.a_first_case)
 b_first_case:Binds K t.d_first_case ["terms"] []
 F_parted:Fun K "parted" "parted" s_parted t.a_parted t.d_parted
 m_parted:mg "parted"=some (.ref t.a_parted)
 b_parted:Binds K t.d_parted ["case", "k", "at"] []
 F_numbers_at_once:Fun K "numbers_at_once" "numbers_at_once" s_numbers_at_once t.a_numbers_at_once t.d_numbers_at_once
 m_numbers_at_once:mg "numbers_at_once"=some (.ref t.a_numbers_at_once)
 b_numbers_at_once:Binds K t.d_numbers_at_once ["terms", "goal", "case"] []
 F_narrowed:Fun K "narrowed" "narrowed" s_narrowed t.a_narrowed t.d_narrowed
 m_narrowed:mg "narrowed"=some (.ref t.a_narrowed)
 b_narrowed:Binds K t.d_narrowed ["times", "bounds", "above_least", "below_greatest"] []
 F_parting:Fun K "parting" "parting" s_parting t.a_parting t.d_parting
 m_parting:mg "parting"=some (.ref t.a_parting)
 b_parting:Binds K t.d_parting ["terms", "goal", "case"] []
 F_places_by_numbers:Fun K "places_by_numbers" "places_by_numbers" s_places_by_numbers t.a_places_by_numbers t.d_places_by_numbers
 m_places_by_numbers:mg "places_by_numbers"=some (.ref t.a_places_by_numbers)
 b_places_by_numbers:Binds K t.d_places_by_numbers ["one", "other", "terms", "numbers"] []
 F_shares:FunX K "shares" "shares" s_shares t.a_shares t.d_shares
 m_shares:mg "shares"=some (.ref t.a_shares)
 b_shares:Binds K t.d_shares ["one", "other", "most"] []
 b_shares_2:∃ tk,Binds K t.d_shares ["one", "other", "most"] [Value.int 1000 tk]
 F__law_draw:Fun K "_law_draw" "_law_draw" s__law_draw t.a__law_draw t.d__law_draw
 m__law_draw:mg "_law_draw"=some (.ref t.a__law_draw)
 b__law_draw:Binds K t.d__law_draw ["_law_script", "_law_k", "_law_many"] []
 F__law_whole:Fun K "_law_whole" "_law_whole" s__law_whole t.a__law_whole t.d__law_whole
 m__law_whole:mg "_law_whole"=some (.ref t.a__law_whole)
 b__law_whole:Binds K t.d__law_whole ["_law_found"] []
 F__law_axes:Fun K "_law_axes" "_law_axes" s__law_axes t.a__law_axes t.d__law_axes
 m__law_axes:mg "_law_axes"=some (.ref t.a__law_axes)
 b__law_axes:Binds K t.d__law_axes ["_law_script", "_law_at", "_law_factor"] []
 F__law_placed:Fun K "_law_placed" "_law_placed" s__law_placed t.a__law_placed t.d__law_placed
 m__law_placed:mg "_law_placed"=some (.ref t.a__law_placed)
 b__law_placed:Binds K t.d__law_placed ["_law_one", "_law_other", "_law_goal_here", "_law_low", "_law_more"] []
 F__law_terms:Fun K "_law_terms" "_law_terms" s__law_terms t.a__law_terms t.d__law_terms
 m__law_terms:mg "_law_terms"=some (.ref t.a__law_terms)
 b__law_terms:Binds K t.d__law_terms ["_law_one", "_law_other"] []
 F__law_product:Fun K "_law_product" "_law_product" s__law_product t.a__law_product t.d__law_product
 m__law_product:mg "_law_product"=some (.ref t.a__law_product)
 b__law_product:Binds K t.d__law_product ["_law_terms_here"] []
 F__law_is_place:Fun K "_law_is_place" "_law_is_place" s__law_is_place t.a__law_is_place t.d__law_is_place
 m__law_is_place:mg "_law_is_place"=some (.ref t.a__law_is_place)
 b__law_is_place:Binds K t.d__law_is_place ["_law_place", "_law_axes_here"] []
 F__law_cell:Fun K "_law_cell" "_law_cell" s__law_cell t.a__law_cell t.d__law_cell
 m__law_cell:mg "_law_cell"=some (.ref t.a__law_cell)
 b__law_cell:Binds K t.d__law_cell ["_law_first", "_law_axes_here", "_law_place"] []
 F__law_met:Fun K "_law_met" "_law_met" s__law_met t.a__law_met t.d__law_met
 m__law_met:mg "_law_met"=some (.ref t.a__law_met)
 b__law_met:Binds K t.d__law_met ["_law_found", "_law_one", "_law_other", "_law_goal_here"] []
 F__law_sums:Fun K "_law_sums" "_law_sums" s__law_sums t.a__law_sums t.d__law_sums
 m__law_sums:mg "_law_sums"=some (.ref t.a__law_sums)
 b__law_sums:Binds K t.d__law_sums ["_law_terms_here", "_law_case"] []
 F__law_divisor:Fun K "_law_divisor" "_law_divisor" s__law_divisor t.a__law_divisor t.d__law_divisor
 m__law_divisor:mg "_law_divisor"=some (.ref t.a__law_divisor)
 b__law_divisor:Binds K t.d__law_divisor ["_law_numbers"] []
 F__law_ended:Fun K "_law_ended" "_law_ended" s__law_ended t.a__law_ended t.d__law_ended
 m__law_ended:mg "_law_ended"=some (.ref t.a__law_ended)
 b__law_ended:Binds K t.d__law_ended ["_law_terms_here", "_law_goal_here", "_law_case"] []
 F__law_rest:Fun K "_law_rest" "_law_rest" s__law_rest t.a__law_rest t.d__law_rest
 m__law_rest:mg "_law_rest"=some (.ref t.a__law_rest)
 b__law_rest:Binds K t.d__law_rest ["_law_terms_here", "_law_goal_here", "_law_case", "_law_by"] []
 F__law_behind:Fun K "_law_behind" "_law_behind" s__law_behind t.a__law_behind t.d__law_behind
 m__law_behind:mg "_law_behind"=some (.ref t.a__law_behind)
 b__law_behind:Binds K t.d__law_behind ["_law_terms_here", "_law_goal_here", "_law_case", "_law_step"] []
 F__law_left:Fun K "_law_left" "_law_left" s__law_left t.a__law_left t.d__law_left
 m__law_left:mg "_law_left"=some (.ref t.a__law_left)
 b__law_left:Binds K t.d__law_left ["_law_terms_here", "_law_goal_here", "_law_paper", "_law_bare"] []
 F__law_apart:Fun K "_law_apart" "_law_apart" s__law_apart t.a__law_apart t.d__law_apart
 m__law_apart:mg "_law_apart"=some (.ref t.a__law_apart)
 b__law_apart:Binds K t.d__law_apart ["_law_found", "_law_terms_here", "_law_goal_here", "_law_most"] []
 F__law_answer:Fun K "_law_answer" "_law_answer" s__law_answer t.a__law_answer t.d__law_answer
 m__law_answer:mg "_law_answer"=some (.ref t.a__law_answer)
 b__law_answer:Binds K t.d__law_answer ["_law_found", "_law_one", "_law_other", "_law_goal_here", "_law_most"] []
 F__law_goal:Fun K "_law_goal" "_law_goal" s__law_goal t.a__law_goal t.d__law_goal
 m__law_goal:mg "_law_goal"=some (.ref t.a__law_goal)
 b__law_goal:Binds K t.d__law_goal ["_law_script", "_law_terms_here", "_law_factor"] []
 F_law:Fun K "law" "law" s_law t.a_law t.d_law
 m_law:mg "law"=some (.ref t.a_law)
 b_law:Binds K t.d_law ["_law_script"] []
 z_ValueError:mg "ValueError"=none
 z_abs:mg "abs"=none
 z_all:mg "all"=none
 z_bool:mg "bool"=none
 z_enumerate:mg "enumerate"=none
 z_int:mg "int"=none
 z_isinstance:mg "isinstance"=none
 z_len:mg "len"=none
 z_list:mg "list"=none
 z_max:mg "max"=none
 z_min:mg "min"=none
 z_range:mg "range"=none
 z_sorted:mg "sorted"=none
 z_sum:mg "sum"=none
 z_tuple:mg "tuple"=none
 z_zip:mg "zip"=none
local macro_rules | `(tactic| trivial) => `(tactic| first | exact Or.inl rfl | exact Or.inr rfl | exact Or.inr (Or.inl rfl) | exact Or.inr (Or.inr rfl) | assumption)
local macro_rules | `(tactic| simp! only [$xs,*]) => do
  let ys := xs.getElems.map fun x => (⟨x.raw⟩ : Lean.TSyntax `Lean.Parser.Tactic.simpLemma)
  let zs ← ("↓reduceIte ↓optK_some ↓gName_0 ↓gName_1 ↓gName_2 ↓gName_3 ↓gName_4 ↓gName_5 ↓gName_6 ↓gName_7 ↓gName_8 ↓gName_9 ↓gName_10 ↓gName_11 ↓m_kOp' ↓m_kOp ↓m_tOp ↓m_tC ↓m_kUn ↓m_tUn ↓m_rIsN_non ↓m_rNotN_non ↓m_rIsN_ref ↓m_rNotN_ref ↓m_kNot ↓m_tNot ↓m_kAnd ↓m_tAnd ↓m_kOr ↓m_tOr ↓m_kIfE ↓m_tIf ↓m_kCh3 ↓m_tNil ↓m_kCons' ↓m_kCons ↓m_tCons ↓m_kCall_1 ↓m_kCall_2 ↓m_kCall_3 ↓m_kCall_4 ↓m_kCall_5 ↓m_tCall ↓m_kCB ↓m_tCB ↓m_tNext ↓m_tSeq ↓m_tRet ↓m_kDrop ↓m_tDrop ↓m_kIfS ↓m_tIfS ↓m_kAsg ↓m_tAsg ↓m_kPar ↓m_tPar ↓m_kGs ↓m_kLen ↓m_qLen ↓m_kIx' ↓m_kIx ↓m_qIx ↓m_qAbs ↓m_qMax ↓m_qMin ↓m_qIsi_int ↓m_qIsi_bool ↓m_qIsi_tuple ↓m_qIsi_list ↓m_kIsi_Ni ↓m_kIsi_bb ↓m_kIsi_bi ↓m_kIsi_ib ↓m_kIsi_ii ↓m_kIsi_si ↓m_kIsi_li ↓m_kIsi_ll ↓m_kIsi_ti ↓m_kIsi_tt ↓m_kIsi_di ↓m_kBM' ↓m_kBM ↓m_tBM ↓m_kBM0 ↓m_tBM0 ↓m_kApp ↓m_rAppend ↓m_kRev ↓m_rReverse ↓m_kPop' ↓m_kPop ↓m_rPop ↓m_kSet' ↓m_kSet ↓m_rSetL ↓m_kGSub3 ↓m_kGSub2 ↓m_gSub ↓m_kGT ↓m_qGT ↓m_kBody ↓m_tFor ↓m_kR1 ↓m_iRng1 ↓m_kISq'_l ↓m_kISq ↓m_iSeq ↓m_kWh ↓m_kE4 ↓m_tYes ↓m_tComp ↓m_kSetC ↓m_tSetC ↓m_datV ↓m_datF_int ↓m_datF_str ↓m_datF_ref ↓m_datO_lst ↓m_datO_tup ↓m_allSome_nil ↓m_allSome_cons ↓m_kEq2_t ↓m_kEq2_f ↓m_kEq1 ↓m_qEq_refr ↓m_qEq_int_int ↓m_qNe_int_int ↓m_qEq_str_str ↓m_qNe_str_str ↓m_kInts ↓m_kSl3 ↓m_kSl2 ↓m_kSl1 ↓m_tSl ↓m_tNoPart ↓m_kPart ↓m_tPart ↓m_kQT ↓m_kQL ↓m_qTup ↓m_qLst ↓m_kN ↓m_nList ↓m_kNT_l ↓m_nTuple ↓m_kNC2 ↓m_kNC1 ↓m_nCat ↓m_kNS ↓m_nSl ↓m_nDNew ↓m_kSumI ↓m_qSum ↓m_kBls ↓m_kAllB ↓m_qAll ↓m_kZ2_l ↓m_kZ1_l ↓m_kZ1_t ↓m_kZ0 ↓m_iZip ↓m_kCm2 ↓m_kCm_1 ↓m_kCm_2 ↓m_rep_1 ↓m_rep_2 ↓m_rep_3 ↓m_kCm_3 ↓m_kFldV ↓m_kFldO ↓m_kFld ↓m_nFld ↓m_kSetO ↓m_kSet1 ↓m_kSet0 ↓m_nSetF ↓m_kMethA_0 ↓m_kMethO ↓m_kMeth ↓m_nMeth ↓m_kMade ↓m_kMake_3 ↓m_nMake ↓m_kCT1 ↓m_nCatT ↓m_kClr ↓m_rClear ↓m_kExt2 ↓m_kExt1 ↓m_rExtend ↓m_kEn1 ↓m_kEn0 ↓m_iEnum ↓m_kDG0 ↓m_tDGet ↓m_kDP1 ↓m_kDP0 ↓m_sDPut ↓m_tV_0 ↓m_tV_1 ↓m_tV_2 ↓m_tV_3 ↓m_tV_4 ↓m_tV_5 ↓m_tV_6 ↓m_tV_7 ↓m_tV_8 ↓m_tV_9 ↓m_tV_10 ↓m_tV_11 ↓m_nI0 ↓m_nI ↓m_nU ↓m_kTestN ↓m_nTest ↓m_kAndN ↓m_nAndV ↓m_kOrN ↓m_nOrV ↓m_kNotN ↓m_nNotV ↓m_kChN2 ↓m_kChN1 ↓m_kChN0 ↓m_nChain ↓m_gNilN ↓m_gConsN ↓m_kGE1 ↓m_tDGet2 ↓m_kBK1 ↓m_kBK0 ↓m_tCBK optK_some itemsAt lstAt tupAt seqO_lst seqO_tup lstO_lst tupO_tup bind_some' upd_same upd_upd tyO_lst tyO_tup tyN_non tyN_bl tyN_int tyN_str tyN_ref tyV_list isW_int' cx_K ofString_inj atI_0 atI_1 atI_2 eqv_str eqv_tuple eqv_list eqvAll_nil eqvAll_cons eqvAll_l eqvAll_ints allSome_ints CDiv_eq CMul_l CMul_r CPow_10 Option.isSome_some Option.isSome_none Option.map_some List.length_cons List.length_nil List.length_map List.map_cons List.map_nil and_true true_and and_self implies_true reduceCtorEq decide_true decide_false Bool.not_true Bool.not_false if_true if_false decide_eq_true_eq Bool.false_eq_true Bool.not_eq_true' decide_eq_false_iff_not Bool.and_true Bool.true_and Bool.and_self Bool.and_eq_true Int.reduceToNat Int.reducePow Int.reduceMul Int.reduceAdd Int.reduceSub Int.reduceNeg Int.reduceLT Int.reduceLE Int.reduceEq Int.reduceNe Int.reduceDiv Int.reduceMod Nat.reduceAdd Nat.reduceLeDiff Nat.reduceLT Nat.reduceMul Nat.reducePow gt_iff_lt ge_iff_le ne_eq false_implies true_implies eq_self String.reduceEq Int.cast_ofNat_Int not_true_eq_false not_false_eq_true false_and and_false List.cons_append List.nil_append List.append_nil lenLe".splitOn " ").toArray.mapM fun s => if s.startsWith "↓" then `(Lean.Parser.Tactic.simpLemma| ↓ $(Lean.mkIdent (s.replace "↓" "").toName):ident) else `(Lean.Parser.Tactic.simpLemma| $(Lean.mkIdent s.toName):ident)
  `(tactic| simp (config := { failIfUnchanged := false, maxDischargeDepth := 30, maxSteps := 10000000 }) only [$zs,*, $ys,*, *])
section
variable {P:Program}{w:World}{K:PySem.W.Frag}{mg:Str->Option Value}{base:Heap}{t:Adr}
def spDraw (K:PySem.W.Frag) (a:Addr) (ns:List Int):Sp:=fun vs H Q E=>∃ (k:Int) (m:Int),vs=[.ref a,.int k,.int m]∧(SqL K H a (ns.map V.int)∧ns.length≤63∧(0≤k∧k < 1000)∧0 < m∧∀ z:Int,0≤z->z < m->Q (.int z) H)
theorem c_spDraw (K:PySem.W.Frag) (a:Addr) (ns:List Int) (k:Int) (m:Int) (H:Hp) (Q:VK) (E:XK):spDraw K a ns [.ref a,.int k,.int m] H Q E=(SqL K H a (ns.map V.int)∧ns.length≤63∧(0≤k∧k < 1000)∧0 < m∧∀ z:Int,0≤z->z < m->Q (.int z) H):=spx2 (f:=fun (k:Int) (m:Int)=>[.ref a,.int k,.int m]) (fun _ _ _ _ h=>by cases h;exact ⟨rfl,rfl⟩) k m
theorem l_spDraw (K:PySem.W.Frag) (a:Addr) (ns:List Int){vs:List V}{H:Hp}{Q:VK}{E:XK}(h:spDraw K a ns vs H Q E):vs.length=3:=spl2 h fun _ _=>rfl
theorem ok__law_draw (T:Tx K mg t) (a:Addr) (ns:List Int):FnOk P w K mg base CX0 1 t.a__law_draw t.d__law_draw ["_law_script", "_law_k", "_law_many"] (spDraw K a ns):=by
 refine T.F__law_draw.ok c__law_draw (fun vs H Q E h=>l_spDraw _ _ _ h) (fun cdv A outer s H vs Q E hr h=>?_)
 ·obtain ⟨k,m,rfl,hS,hl,⟨hk0,hk1⟩,hm,kk⟩:=h
  have fin:∀ z:Int,Q (.int (z % m)) H:=fun z=>kk _ (Int.emod_nonneg _ (by omega)) (Int.emod_lt_of_pos _ hm)
  refine ⟨_,(pss_cons (ps_if (pt_cmpR op_lt (pv 1) (pe_callB (id := "len") call_len_seq (by rfl) T.z_len (by decide +kernel) (pa_c (pv 0) pa_nil)) (nomark _))
   (pss_one (ps_ret (pe_op op_mod (pe_ix ix_list (pv 0) (pv 1) (fun _ _=>rfl)) (pv 2))))
   pss_nil)
  (pss_cons (ps_set (i:=3) c__law_draw.nd rfl (Or.inl rfl) (pe_op op_add (pe_op op_mul (pe_op op_mul (pv 1) (pv 1)) pe_int) pe_int))
  (pss_cons (ps_if (pt_cmpR op_gt (pe_callB (id := "len") call_len_seq (by rfl) T.z_len (by decide +kernel) (pa_c (pv 0) pa_nil)) pe_int (nomark _))
   (pss_cons (ps_set (i:=4) c__law_draw.nd rfl (Or.inl rfl) (pe_op op_mod (pe_ix ix_list (pv 0) (pe_op op_mod (pv 1) (pe_callB (id := "len") call_len_seq (by rfl) T.z_len (by decide +kernel) (pa_c (pv 0) pa_nil))) (fun _ _=>rfl)) pe_int))
   (pss_one (ps_set (i:=3) c__law_draw.nd rfl (Or.inl rfl) (pe_op op_add (pe_op op_mul (pv 4) (pe_op op_add pe_int (pe_op op_mul (pe_op op_mul pe_int (pv 1)) (pv 1)))) (pe_op op_mul (pv 1) pe_int)))))
   pss_nil)
  (pss_one (ps_ret (pe_op op_mod (pe_op op_mod (pe_op op_mul (pe_op op_mod (pv 3) pe_int) pe_int) pe_int) (pv 2))))))),?_⟩
  refine ⟨_,rfl,_,rfl,a,_,rfl,.inl hS,_,_,rfl,rfl,_,rfl,?_⟩
  refine ite2 (fun h=>?_) (fun h=>?_)
  ·have h1:k < (ns.length:Int):=by simpa using h
   obtain ⟨z,hz,_⟩:=atI_ints ns k hk0 h1
   exact ⟨_,rfl,_,rfl,a,_,k,_,rfl,rfl,hS,hz,_,rfl,_,_,rfl,rfl,hm,fin _⟩
  ·refine ⟨_,rfl,_,rfl,_,_,rfl,rfl,.inl ⟨by omega,by omega⟩,_,_,rfl,rfl,.inr ⟨by decide,by decide⟩,_,_,rfl,rfl,?_⟩
   refine ⟨_,rfl,a,_,rfl,.inl hS,_,_,rfl,rfl,_,rfl,?_⟩
   refine ite2 (fun h2=>?_) (fun h2=>?_)
   ·have h3:0 < (ns.length:Int):=by simpa using h2
    have h4:(0:Int) < ((ns.map V.int).length:Int):=by simpa using h3
    obtain ⟨z,hz,_⟩:=atI_ints ns (k % ((ns.map V.int).length:Int)) (Int.emod_nonneg _ (by omega)) (by have:=Int.emod_lt_of_pos k h4;simpa using this)
    refine ⟨_,rfl,_,rfl,_,rfl,a,_,rfl,.inl hS,_,_,rfl,rfl,h4,a,_,_,_,rfl,rfl,hS,hz,_,_,rfl,rfl,(by first|decide|(show (0:Int) < _;decide)),?_⟩
    refine ⟨_,rfl,_,rfl,_,_,rfl,rfl,.inl ⟨by decide,by decide⟩,_,rfl,_,_,rfl,rfl,.inr ⟨by omega,by omega⟩,_,_,rfl,rfl,_,_,rfl,rfl,?_,?_⟩
    ·refine .inl ⟨?_,?_⟩
     ·have:=Int.emod_nonneg z (show (999999937:Int) ≠ 0 by decide);omega
     ·have:=Int.emod_lt_of_pos z (show (0:Int) < 999999937 by decide);omega
    refine ⟨_,rfl,_,_,rfl,rfl,.inr ⟨by decide,by decide⟩,_,_,rfl,rfl,?_⟩
    exact ⟨_,rfl,_,_,rfl,rfl,(by first|decide|(show (0:Int) < _;decide)),_,_,rfl,rfl,.inr ⟨by decide,by decide⟩,_,_,rfl,rfl,(by first|decide|(show (0:Int) < _;decide)),_,rfl,_,_,rfl,rfl,hm,fin _⟩
   ·exact ⟨_,rfl,_,_,rfl,rfl,(by first|decide|(show (0:Int) < _;decide)),_,_,rfl,rfl,.inr ⟨by decide,by decide⟩,_,_,rfl,rfl,(by first|decide|(show (0:Int) < _;decide)),_,rfl,_,_,rfl,rfl,hm,fin _⟩
def spWhole  : Sp:=fun vs H Q E=>∃ (x:V),vs=[x]∧(optK (isW H x) (kE4 H Q))
theorem c_spWhole  (x:V) (H:Hp) (Q:VK) (E:XK):spWhole  [x] H Q E=(optK (isW H x) (kE4 H Q)):=spx1 (f:=fun (x:V)=>[x]) (fun _ _ h=>by cases h;exact rfl) x
theorem l_spWhole  {vs:List V}{H:Hp}{Q:VK}{E:XK}(h:spWhole  vs H Q E):vs.length=1:=spl1 h fun _=>rfl
theorem ok__law_whole (T:Tx K mg t):FnOk P w K mg base CX0 1 t.a__law_whole t.d__law_whole ["_law_found"] spWhole:=by
 refine T.F__law_whole.ok c__law_whole (fun vs H Q E h=>l_spWhole h) (fun cdv A outer s H vs Q E hr h=>?_)
 ·obtain ⟨x,rfl,h⟩:=h
  obtain ⟨b,hb,k⟩:=optK_ex h
  clear h
  rw [m_kE4] at k
  refine ⟨_,(@pss_one _ _ _ (@ps_ret _ _ _ _ (@pe_andN _ _ _ _ _ _ _ (@pe_callB _ _ _ _ _ _ _ ("isinstance") _ call_qIsi (by rfl) T.z_isinstance (by decide +kernel) (@pa_c _ _ _ _ _ (@pvN _ 0 _ _ (by rfl) (by trivial) (by decide) (by decide)) (@pa_c _ _ _ _ _ (@pe_bltn _ _ (.ty "int") (.type "int") _ (by rfl) T.z_int (by decide +kernel) rfl (by decide) (by decide)) (@pa_nil _) (by rfl)) (by rfl)) (by decide) (by decide) (by rfl) (by rfl)) (@pe_one _ _ _ _ _ (@pe_notN _ _ _ _ (@pe_callB _ _ _ _ _ _ _ ("isinstance") _ call_qIsi (by rfl) T.z_isinstance (by decide +kernel) (@pa_c _ _ _ _ _ (@pvN _ 0 _ _ (by rfl) (by trivial) (by decide) (by decide)) (@pa_c _ _ _ _ _ (@pe_bltn _ _ (.ty "bool") (.type "bool") _ (by rfl) T.z_bool (by decide +kernel) rfl (by decide) (by decide)) (@pa_nil _) (by rfl)) (by rfl)) (by decide) (by decide) (by rfl) (by rfl))))))),?_⟩
  rw [show start ["_law_found"] [x]=[some (x)] from rfl]
  cases x with
  | int i=>cases hb;simp! only [and_true]
  | bl i=>cases hb;simp! only [and_true]
  | non=>cases hb;simp! only [and_true]
  | str i=>cases hb;simp! only [and_true]
  | ref p=>
   obtain ⟨rfl,o,ho,ht⟩:=isW_obj hb
   rcases ht with ht|ht|ht<;>simp! only [and_true]
  | _=>cases hb
theorem ok_is_whole (T:Tx K mg t):FnOk P w K mg base CX0 1 t.a_is_whole t.d_is_whole ["thing"] spWhole:=by
 refine T.F_is_whole.ok c_is_whole (fun vs H Q E h=>l_spWhole h) (fun cdv A outer s H vs Q E hr h=>?_)
 ·obtain ⟨x,rfl,h⟩:=h
  obtain ⟨b,hb,k⟩:=optK_ex h
  clear h
  rw [m_kE4] at k
  refine ⟨_,(@pss_one _ _ _ (@ps_ret _ _ _ _ (@pe_andN _ _ _ _ _ _ _ (@pe_callB _ _ _ _ _ _ _ ("isinstance") _ call_qIsi (by rfl) T.z_isinstance (by decide +kernel) (@pa_c _ _ _ _ _ (@pvN _ 0 _ _ (by rfl) (by trivial) (by decide) (by decide)) (@pa_c _ _ _ _ _ (@pe_bltn _ _ (.ty "int") (.type "int") _ (by rfl) T.z_int (by decide +kernel) rfl (by decide) (by decide)) (@pa_nil _) (by rfl)) (by rfl)) (by decide) (by decide) (by rfl) (by rfl)) (@pe_one _ _ _ _ _ (@pe_notN _ _ _ _ (@pe_callB _ _ _ _ _ _ _ ("isinstance") _ call_qIsi (by rfl) T.z_isinstance (by decide +kernel) (@pa_c _ _ _ _ _ (@pvN _ 0 _ _ (by rfl) (by trivial) (by decide) (by decide)) (@pa_c _ _ _ _ _ (@pe_bltn _ _ (.ty "bool") (.type "bool") _ (by rfl) T.z_bool (by decide +kernel) rfl (by decide) (by decide)) (@pa_nil _) (by rfl)) (by rfl)) (by decide) (by decide) (by rfl) (by rfl))))))),?_⟩
  rw [show start ["thing"] [x]=[some (x)] from rfl]
  cases x with
  | int i=>cases hb;simp! only [and_true]
  | bl i=>cases hb;simp! only [and_true]
  | non=>cases hb;simp! only [and_true]
  | str i=>cases hb;simp! only [and_true]
  | ref p=>
   obtain ⟨rfl,o,ho,ht⟩:=isW_obj hb
   rcases ht with ht|ht|ht<;>simp! only [and_true]
  | _=>cases hb
def spWithin  : Sp:=fun vs H Q E=>∃ (i:Int) (lo:Int) (hi:Int),vs=[.int i,.int lo,.int hi]∧(Q (.bl (decide (lo≤i) && decide (i≤hi))) H)
theorem c_spWithin  (i:Int) (lo:Int) (hi:Int) (H:Hp) (Q:VK) (E:XK):spWithin  [.int i,.int lo,.int hi] H Q E=(Q (.bl (decide (lo≤i) && decide (i≤hi))) H):=spx3 (f:=fun (i:Int) (lo:Int) (hi:Int)=>[.int i,.int lo,.int hi]) (fun _ _ _ _ _ _ h=>by cases h;exact ⟨rfl,rfl,rfl⟩) i lo hi
theorem l_spWithin  {vs:List V}{H:Hp}{Q:VK}{E:XK}(h:spWithin  vs H Q E):vs.length=3:=spl3 h fun _ _ _=>rfl
theorem ok_is_within (T:Tx K mg t):FnOk P w K mg base CX0 2 t.a_is_within t.d_is_within ["thing", "low", "high"] spWithin:=by
 have G_is_whole:=ok_is_whole (P:=P) (w:=w) (base:=base) T
 refine T.F_is_within.ok c_is_within (fun vs H Q E h=>l_spWithin h) (fun cdv A outer s H vs Q E hr h=>?_)
 ·obtain ⟨i,lo,hi,rfl,k⟩:=h
  refine ⟨_,(@pss_one _ _ _ (@ps_ret _ _ _ _ (@pe_andN _ _ _ _ _ _ _ (@pe_call _ _ _ _ _ _ _ _ _ _ _ _ _ _ _ _ G_is_whole (hr.mono (by decide)) (by rfl) T.m_is_whole T.F_is_whole.kp T.b_is_whole .nil pass0 (@pa_c _ _ _ _ _ (@pvN _ 0 _ _ (by rfl) (by trivial) (by decide) (by decide)) (@pa_nil _) (by rfl)) (by decide) (by rfl) (by rfl)) (@pe_one _ _ _ _ _ (@pe_chainN _ _ _ _ _ _ _ _ _ _ _ _ on_le on_le (@pvN _ 1 _ _ (by rfl) (by trivial) (by decide) (by decide)) (@pvN _ 0 _ _ (by rfl) (by trivial) (by decide) (by decide)) (@pvN _ 2 _ _ (by rfl) (by trivial) (by decide) (by decide)) (by rfl)))))),?_⟩
  rw [show start ["thing", "low", "high"] [.int i,.int lo,.int hi]=[some (.int i),some (.int lo),some (.int hi)] from rfl]
  by_cases h0:lo≤i
  ·rw [decide_eq_true h0,Bool.true_and] at k
   simp! only [↓c_spWhole]
  ·rw [decide_eq_false h0,Bool.false_and] at k
   simp! only [↓c_spWhole]
def spSize  : Sp:=fun vs H Q E=>∃ (i:Int),vs=[.int i]∧(Q (.bl (decide (1≤i) && decide (i≤1000000000))) H)
theorem c_spSize  (i:Int) (H:Hp) (Q:VK) (E:XK):spSize  [.int i] H Q E=(Q (.bl (decide (1≤i) && decide (i≤1000000000))) H):=spx1 (f:=fun (i:Int)=>[.int i]) (fun _ _ h=>by cases h;exact rfl) i
theorem l_spSize  {vs:List V}{H:Hp}{Q:VK}{E:XK}(h:spSize  vs H Q E):vs.length=1:=spl1 h fun _=>rfl
theorem ok_is_size (T:Tx K mg t):FnOk P w K mg base CX0 3 t.a_is_size t.d_is_size ["thing"] spSize:=by
 have G_is_within:=ok_is_within (P:=P) (w:=w) (base:=base) T
 refine T.F_is_size.ok c_is_size (fun vs H Q E h=>l_spSize h) (fun cdv A outer s H vs Q E hr h=>?_)
 ·obtain ⟨i,rfl,k⟩:=h
  refine ⟨_,(@pss_one _ _ _ (@ps_ret _ _ _ _ (@pe_call _ _ _ _ _ _ _ _ _ _ _ _ _ _ _ _ G_is_within (hr.mono (by decide)) (by rfl) T.m_is_within T.F_is_within.kp T.b_is_within .nil pass0 (@pa_c _ _ _ _ _ (@pvN _ 0 _ _ (by rfl) (by trivial) (by decide) (by decide)) (@pa_c _ _ _ _ _ (@pe_int _ _ _ _) (@pa_c _ _ _ _ _ (@pe_glob _ _ (.int 1000000000) _ _ (by rfl) T.m_MOST_SIZE.choose_spec ⟨_,rfl⟩ (by decide)) (@pa_nil _) (by rfl)) (by rfl)) (by rfl)) (by decide) (by rfl) (by rfl)))),?_⟩
  rw [show start ["thing"] [.int i]=[some (.int i)] from rfl]
  simp! only [↓c_spWithin]
abbrev B_spAxis  (p:Addr) (H:Hp) (Q:VK) (E:XK):Prop:=∃ a:Int × Int,H p=some (.tup [.int a.1,.int a.2])∧1≤a.1∧a.1≤1000000000∧Q (.bl true) H
def spAxis  : Sp:=fun vs H Q E=>∃ (p:Addr),vs=[.ref p]∧(B_spAxis  p H Q E)
theorem c_spAxis  (p:Addr) (H:Hp) (Q:VK) (E:XK):spAxis  [.ref p] H Q E=(B_spAxis  p H Q E):=spx1 (f:=fun (p:Addr)=>[.ref p]) (fun _ _ h=>by cases h;exact rfl) p
theorem l_spAxis  {vs:List V}{H:Hp}{Q:VK}{E:XK}(h:spAxis  vs H Q E):vs.length=1:=spl1 h fun _=>rfl
theorem ok_is_axis (T:Tx K mg t):FnOk P w K mg base CX0 4 t.a_is_axis t.d_is_axis ["thing"] spAxis:=by
 have G_is_size:=ok_is_size (P:=P) (w:=w) (base:=base) T
 have G_is_whole:=ok_is_whole (P:=P) (w:=w) (base:=base) T
 refine T.F_is_axis.ok c_is_axis (fun vs H Q E h=>l_spAxis h) (fun cdv A outer s H vs Q E hr h=>?_)
 ·obtain ⟨p,rfl,a,hp,h1,h2,k⟩:=h
  refine ⟨_,(@pss_one _ _ _ (@ps_ret _ _ _ _ (@pe_andN _ _ _ _ _ _ _ (@pe_callB _ _ _ _ _ _ _ ("isinstance") _ call_qIsi (by rfl) T.z_isinstance (by decide +kernel) (@pa_c _ _ _ _ _ (@pvN _ 0 _ _ (by rfl) (by trivial) (by decide) (by decide)) (@pa_c _ _ _ _ _ (@pe_bltn _ _ (.ty "tuple") (.type "tuple") _ (by rfl) T.z_tuple (by decide +kernel) rfl (by decide) (by decide)) (@pa_nil _) (by rfl)) (by rfl)) (by decide) (by decide) (by rfl) (by rfl)) (@pe_andN _ _ _ _ _ _ _ (@pe_cmpR _ _ _ _ _ _ _ _ (op_qEq hr.units) (@pe_callB _ _ _ _ _ _ _ ("len") _ call_qLen (by rfl) T.z_len (by decide +kernel) (@pa_c _ _ _ _ _ (@pvN _ 0 _ _ (by rfl) (by trivial) (by decide) (by decide)) (@pa_nil _) (by rfl)) (by decide) (by decide) (by rfl) (by rfl)) (@pe_int _ _ _ _) (nomark _)) (@pe_andN _ _ _ _ _ _ _ (@pe_call _ _ _ _ _ _ _ _ _ _ _ _ _ _ _ _ G_is_size (hr.mono (by decide)) (by rfl) T.m_is_size T.F_is_size.kp T.b_is_size .nil pass0 (@pa_c _ _ _ _ _ (@pe_ix _ _ _ _ _ _ _ ix_q (@pvN _ 0 _ _ (by rfl) (by trivial) (by decide) (by decide)) (@pe_int _ _ _ _) (fun _ _=>rfl)) (@pa_nil _) (by rfl)) (by decide) (by rfl) (by rfl)) (@pe_one _ _ _ _ _ (@pe_call _ _ _ _ _ _ _ _ _ _ _ _ _ _ _ _ G_is_whole (hr.mono (by decide)) (by rfl) T.m_is_whole T.F_is_whole.kp T.b_is_whole .nil pass0 (@pa_c _ _ _ _ _ (@pe_ix _ _ _ _ _ _ _ ix_q (@pvN _ 0 _ _ (by rfl) (by trivial) (by decide) (by decide)) (@pe_int _ _ _ _) (fun _ _=>rfl)) (@pa_nil _) (by rfl)) (by decide) (by rfl) (by rfl)))))))),?_⟩
  rw [show start ["thing"] [.ref p]=[some (.ref p)] from rfl]
  simp! only [↓c_spSize,↓c_spWhole]
abbrev B_spKept  (p:Addr) (H:Hp) (Q:VK) (E:XK):Prop:=∃ a:Int × Int,H p=some (.tup [.int a.1,.int a.2])∧∀ (r:Addr) (H':Hp),H r=none->Ext H H'->H' r=some (.tup [.int (keptA a).1,.int (keptA a).2])->Q (.ref r) H'
def spKept  : Sp:=fun vs H Q E=>∃ (p:Addr),vs=[.ref p]∧(B_spKept  p H Q E)
theorem c_spKept  (p:Addr) (H:Hp) (Q:VK) (E:XK):spKept  [.ref p] H Q E=(B_spKept  p H Q E):=spx1 (f:=fun (p:Addr)=>[.ref p]) (fun _ _ h=>by cases h;exact rfl) p
theorem l_spKept  {vs:List V}{H:Hp}{Q:VK}{E:XK}(h:spKept  vs H Q E):vs.length=1:=spl1 h fun _=>rfl
theorem ok_kept_axis (T:Tx K mg t):FnOk P w K mg base CX0 1 t.a_kept_axis t.d_kept_axis ["axis"] spKept:=by
 refine T.F_kept_axis.ok c_kept_axis (fun vs H Q E h=>l_spKept h) (fun cdv A outer s H vs Q E hr h=>?_)
 ·obtain ⟨p,rfl,a,hp,k⟩:=h
  refine ⟨_,(@pss_one _ _ _ (@ps_ret _ _ _ _ (@pe_qTup _ _ _ _ _ (@pa_c _ _ _ _ _ (@pe_ix _ _ _ _ _ _ _ ix_q (@pvN _ 0 _ _ (by rfl) (by trivial) (by decide) (by decide)) (@pe_int _ _ _ _) (fun _ _=>rfl)) (@pa_c _ _ _ _ _ (@pe_ifExp _ _ _ _ _ _ _ _ (@pt_cmpRN _ _ _ _ _ _ _ _ on_gt (@pe_ix _ _ _ _ _ _ _ ix_q (@pvN _ 0 _ _ (by rfl) (by trivial) (by decide) (by decide)) (@pe_int _ _ _ _) (fun _ _=>rfl)) (@pe_int _ _ _ _) (nomark _)) (@pe_ix _ _ _ _ _ _ _ ix_q (@pvN _ 0 _ _ (by rfl) (by trivial) (by decide) (by decide)) (@pe_int _ _ _ _) (fun _ _=>rfl)) (@pe_int _ _ _ _)) (@pa_nil _) (by rfl)) (by rfl))))),?_⟩
  rw [show start ["axis"] [.ref p]=[some (.ref p)] from rfl]
  have e1:(keptA a).1=a.1:=rfl
  by_cases h1:1 < a.1
  ·have e2:(keptA a).2=a.2:=if_pos h1
   rw [e1,e2] at k
   simp! only [and_true]
   exact fun r H' h e h'=>k r H' h e h'
  ·have e2:(keptA a).2=0:=if_neg h1
   rw [e1,e2] at k
   simp! only [and_true]
   exact fun r H' h e h'=>k r H' h e h'
abbrev B_spAxes  (p:Addr) (H:Hp) (Q:VK) (E:XK):Prop:=∃ axs:List (Int × Int),TupsAt H p (axL axs)∧Axes axs∧∀ H',Ext H H'->Q (.bl true) H'
def spAxes  : Sp:=fun vs H Q E=>∃ (p:Addr),vs=[.ref p]∧(B_spAxes  p H Q E)
theorem c_spAxes  (p:Addr) (H:Hp) (Q:VK) (E:XK):spAxes  [.ref p] H Q E=(B_spAxes  p H Q E):=spx1 (f:=fun (p:Addr)=>[.ref p]) (fun _ _ h=>by cases h;exact rfl) p
theorem l_spAxes  {vs:List V}{H:Hp}{Q:VK}{E:XK}(h:spAxes  vs H Q E):vs.length=1:=spl1 h fun _=>rfl
theorem ok_are_axes (T:Tx K mg t):FnOk P w K mg base CX0 5 t.a_are_axes t.d_are_axes ["thing"] spAxes:=by
 have G_is_axis:=ok_is_axis (P:=P) (w:=w) (base:=base) T
 refine T.F_are_axes.ok c_are_axes (fun vs H Q E h=>l_spAxes h) (fun cdv A outer s H vs Q E hr h=>?_)
 ·obtain ⟨p,rfl,axs,⟨ys,hp,al⟩,ha,k⟩:=h
  refine ⟨_,(@pss_one _ _ _ (@ps_ret _ _ _ _ (@pe_andN _ _ _ _ _ _ _ (@pe_callB _ _ _ _ _ _ _ ("isinstance") _ call_qIsi (by rfl) T.z_isinstance (by decide +kernel) (@pa_c _ _ _ _ _ (@pvN _ 0 _ _ (by rfl) (by trivial) (by decide) (by decide)) (@pa_c _ _ _ _ _ (@pe_bltn _ _ (.ty "list") (.type "list") _ (by rfl) T.z_list (by decide +kernel) rfl (by decide) (by decide)) (@pa_nil _) (by rfl)) (by rfl)) (by decide) (by decide) (by rfl) (by rfl)) (@pe_andN _ _ _ _ _ _ _ (@pe_cmpR _ _ _ _ _ _ _ _ on_le (@pe_callB _ _ _ _ _ _ _ ("len") _ call_qLen (by rfl) T.z_len (by decide +kernel) (@pa_c _ _ _ _ _ (@pvN _ 0 _ _ (by rfl) (by trivial) (by decide) (by decide)) (@pa_nil _) (by rfl)) (by decide) (by decide) (by rfl) (by rfl)) (@pe_glob _ _ (.int 8) _ _ (by rfl) T.m_MOST_AXES.choose_spec ⟨_,rfl⟩ (by decide)) (nomark _)) (@pe_one _ _ _ _ _ (@pe_callB _ _ _ _ _ _ _ ("all") _ (call_qAll rfl) (by rfl) T.z_all (by decide +kernel) (@pa_c _ _ _ _ _ (@pe_comp _ _ _ _ _ _ _ _ _ _ _ (["axis", "thing"]) (1) (comp_ok (defScope s_are_axes) ["thing"] rfl rfl (by decide +kernel)) rfl (@pi_seq _ _ _ _ (@pvN _ 0 _ _ (by rfl) (by trivial) (by decide) (by decide))) (fun C s₀ H₀ ex pn=>(@pg_name _ _ (0) _ (show List.Nodup (["axis", "thing"]:List Str) from by decide +kernel) rfl (Or.inl rfl) (by trivial))) (fun C s₀ H₀ ex pn=>(@pts_nil _)) (fun C s₀ H₀ ex pn=>(@pe_call _ _ _ _ _ _ _ _ _ _ _ _ _ _ _ _ G_is_axis (hr.mono (by decide)) (by rfl) T.m_is_axis T.F_is_axis.kp T.b_is_axis .nil pass0 (@pa_c _ _ _ _ _ (@pvN _ 0 _ _ (by rfl) (by trivial) (by decide) (by decide)) (@pa_nil _) (by rfl)) (by decide) (by rfl) (by rfl))) (by intros;rfl)) (@pa_nil _) (by rfl)) (by decide) (by decide) (by rfl) (by rfl))))))),?_⟩
  rw [show start ["thing"] [.ref p]=[some (.ref p)] from rfl]
  have hl:ys.length=axs.length:=by rw [al.1];unfold axL;rw [List.length_map]
  have hl8:(axs.length:Int)≤8:=by have:=ha.1;omega
  simp! only [and_true]
  refine comp_fm ys (fun _=>true) (fun _=>.bl true) (fun z x H'=>x=z∧H' p=some (.lst ys)) (wk_lst hp).1 (wk_lst hp).2 (len5000 (by omega)) ?_ ?_
  ·intro D z x H' N1 N0 hz hD e ⟨hx,_⟩ k1 _
   subst hx
   obtain ⟨i,hi,rfl⟩:=List.getElem_of_mem hz
   have hi':i < axs.length:=by rw [←hl];exact hi
   obtain ⟨q,hq1,hq2⟩:=al.2 i [axs[i].1,axs[i].2] ys[i] (by unfold axL;rw [List.getElem?_map,List.getElem?_eq_getElem hi'];rfl) (List.getElem?_eq_getElem hi)
   have hb:=ha.2 _ (List.getElem_mem hi')
   have k1':=k1 rfl H' (Ext.refl _)
   have hq3:=e.at hq2
   rw [hq1]
   clear k1 k hp al
   simp! only [↓m_kCm_1,↓m_kCm2]
   rw [c_spAxis]
   exact ⟨axs[i],hq3,hb.1,hb.2,k1'⟩
  ·intro D H' hD e hD'
   have hD2:H' D=some (.lst ((ys.map fun _=>true).map V.bl)):=by rw [hD',filt,List.map_map];rfl
   have e2:((ys.map fun _=>true).all id)=true:=by rw [List.all_map];simp
   have k2:=k H' e
   clear k hD'
   simp! only [and_true]
theorem min0 (x:Int):min 0 x=if x < 0 then x else 0:=by split<;>omega
theorem max0 (x:Int):max 0 x=if 0 < x then x else 0:=by split<;>omega
structure ViewAt (C:Addr) (H:Hp) (v:Addr) (room first:Int) (axs:List (Int × Int)):Prop where
 ob:∃ dx l,H v=some (.ins C dx (viewF room first l))∧TupsAt H l (axL axs)
theorem ViewAt.ext {C:Addr}{H H':Hp}{v:Addr}{room first:Int}{axs:List (Int × Int)}(h:ViewAt C H v room first axs) (e:Ext H H'):ViewAt C H' v room first axs:=by
 obtain ⟨dx,l,h1,h2⟩:=h.ob
 exact ⟨⟨dx,l,e.at h1,h2.ext e⟩⟩
theorem ne_no {m:Str}(h:m∈([("sizes":Str), "paces", "count", "cell", "cell_at", "cells", "least", "greatest"]:List Str)):¬ m = "axes" ∧ ¬ m = "first" ∧ ¬ m = "room":=by
 revert m
 decide +kernel
theorem vn (room first:Int) (l:Addr){m:Str}(h:m∈([("sizes":Str), "paces", "count", "cell", "cell_at", "cells", "least", "greatest"]:List Str)):(viewF room first l).lookup m=none:=viewF_no room first l (ne_no h).1 (ne_no h).2.1 (ne_no h).2.2
abbrev B_spLeast (C:Addr) (v:Addr) (H:Hp) (Q:VK) (E:XK):Prop:=∃ (room first:Int) (axs:List (Int × Int)),ViewAt C H v room first axs∧Axes axs∧∀ H',Ext H H'->Q (.int (first+leastL axs)) H'
def spLeast (C:Addr):Sp:=fun vs H Q E=>∃ (v:Addr),vs=[.ref v]∧(B_spLeast C v H Q E)
theorem c_spLeast (C:Addr) (v:Addr) (H:Hp) (Q:VK) (E:XK):spLeast C [.ref v] H Q E=(B_spLeast C v H Q E):=spx1 (f:=fun (v:Addr)=>[.ref v]) (fun _ _ h=>by cases h;exact rfl) v
theorem l_spLeast (C:Addr){vs:List V}{H:Hp}{Q:VK}{E:XK}(h:spLeast C vs H Q E):vs.length=1:=spl1 h fun _=>rfl
theorem ok_View_least (T:Tx K mg t):FnOk P w K mg base CX0 1 t.a_View_least t.d_View_least ["self"] (spLeast t.a_View):=by
 refine T.F_View_least.ok c_View_least (fun vs H Q E h=>l_spLeast _ h) (fun cdv A outer s H vs Q E hr h=>?_)
 ·obtain ⟨v,rfl,room,first,axs,vo,hax,k⟩:=h
  obtain ⟨dx,l,hv,ys,hl,al⟩:=vo.ob
  have c1:=T.cl_View
  have c2:=T.na_View_first
  have c3:=T.na_View_axes
  have f1:=viewF_first room first l
  have f2:=viewF_axes room first l
  refine ⟨_,(@pss_one _ _ _ (@ps_ret _ _ _ _ (@pe_op _ _ _ _ _ _ _ _ on_add (@pe_nFld _ _ _ _ _ (@pvN _ 0 _ _ (by rfl) (by trivial) (by decide) (by decide)) rfl) (@pe_callB _ _ _ _ _ _ _ ("sum") _ (call_qSum rfl) (by rfl) T.z_sum (by decide +kernel) (@pa_c _ _ _ _ _ (@pe_comp _ _ _ _ _ _ _ _ _ _ _ (["size", "pace", "self"]) (2) (comp_ok (defScope s_View_least) ["self"] rfl rfl (by decide +kernel)) rfl (@pi_seq _ _ _ _ (@pe_nFld _ _ _ _ _ (@pvN _ 0 _ _ (by rfl) (by trivial) (by decide) (by decide)) rfl)) (fun C s₀ H₀ ex pn=>((@pg_tup _ _ _ _ _ (2) rfl (@pgs_consN _ _ _ _ _ (@pg_name _ _ (0) _ (show List.Nodup (["size", "pace", "self"]:List Str) from by decide +kernel) rfl (Or.inl rfl) (by trivial)) (@pgs_consN _ _ _ _ _ (@pg_name _ _ (1) _ (show List.Nodup (["size", "pace", "self"]:List Str) from by decide +kernel) rfl (Or.inl rfl) (by trivial)) (@pgs_nilN _) (by rfl)) (by rfl)) (by rfl) (by rfl)).mono fun _ _ _ _ h=>gTup_q h)) (fun C s₀ H₀ ex pn=>(@pts_nil _)) (fun C s₀ H₀ ex pn=>(@pe_callB _ _ _ _ _ _ _ ("min") _ (call_qMin rfl) (by rfl) T.z_min (by decide +kernel) (@pa_c _ _ _ _ _ (@pe_int _ _ _ _) (@pa_c _ _ _ _ _ (@pe_op _ _ _ _ _ _ _ _ on_mul (@pe_op _ _ _ _ _ _ _ _ on_sub (@pvN _ 0 _ _ (by rfl) (by trivial) (by decide) (by decide)) (@pe_int _ _ _ _)) (@pvN _ 1 _ _ (by rfl) (by trivial) (by decide) (by decide))) (@pa_nil _) (by rfl)) (by rfl)) (by decide) (by decide) (by rfl) (by rfl))) (by intros;rfl)) (@pa_nil _) (by rfl)) (by decide) (by decide) (by rfl) (by rfl))))),?_⟩
  rw [show start ["self"] [.ref v]=[some (.ref v)] from rfl]
  simp! only [and_true]
  have wk:=wk_al (K:=K) (R:=axP) (fun _ _ _ _ h e=>h.ext e) hl (al_axP al)
  refine comp_fm axs (fun _=>true) (fun a=>.int (min 0 ((a.1 - 1) * a.2))) axP wk.1 wk.2 (len5000 (by have:=hax.1;omega)) ?_ ?_
  ·intro D a x H' N1 N0 ha hD e ⟨q,hx,hq⟩ k1 _
   subst hx
   have hb:=hax.2 a ha
   have k1':=k1 rfl H' (Ext.refl _)
   have hcm:CMul (a.1 - 1) a.2:=.inl ⟨by omega,by omega⟩
   rw [min0] at k1'
   clear k1 k
   simp! only [↓m_kCm_2,↓m_kCm2]
  ·intro D H' hD e hD'
   have hD2:H' D=some (.lst ((axs.map fun a=>min 0 ((a.1 - 1) * a.2)).map V.int)):=by rw [hD',filt,List.map_map];rfl
   have k2:Q (.int (first+(axs.map fun a=>min 0 ((a.1 - 1) * a.2)).sum)) H':=k H' e
   clear k hD'
   simp! only [and_true]
abbrev B_spGreatest (C:Addr) (v:Addr) (H:Hp) (Q:VK) (E:XK):Prop:=∃ (room first:Int) (axs:List (Int × Int)),ViewAt C H v room first axs∧Axes axs∧∀ H',Ext H H'->Q (.int (first+greatL axs)) H'
def spGreatest (C:Addr):Sp:=fun vs H Q E=>∃ (v:Addr),vs=[.ref v]∧(B_spGreatest C v H Q E)
theorem c_spGreatest (C:Addr) (v:Addr) (H:Hp) (Q:VK) (E:XK):spGreatest C [.ref v] H Q E=(B_spGreatest C v H Q E):=spx1 (f:=fun (v:Addr)=>[.ref v]) (fun _ _ h=>by cases h;exact rfl) v
theorem l_spGreatest (C:Addr){vs:List V}{H:Hp}{Q:VK}{E:XK}(h:spGreatest C vs H Q E):vs.length=1:=spl1 h fun _=>rfl
theorem ok_View_greatest (T:Tx K mg t):FnOk P w K mg base CX0 1 t.a_View_greatest t.d_View_greatest ["self"] (spGreatest t.a_View):=by
 refine T.F_View_greatest.ok c_View_greatest (fun vs H Q E h=>l_spGreatest _ h) (fun cdv A outer s H vs Q E hr h=>?_)
 ·obtain ⟨v,rfl,room,first,axs,vo,hax,k⟩:=h
  obtain ⟨dx,l,hv,ys,hl,al⟩:=vo.ob
  have c1:=T.cl_View
  have c2:=T.na_View_first
  have c3:=T.na_View_axes
  have f1:=viewF_first room first l
  have f2:=viewF_axes room first l
  refine ⟨_,(@pss_one _ _ _ (@ps_ret _ _ _ _ (@pe_op _ _ _ _ _ _ _ _ on_add (@pe_nFld _ _ _ _ _ (@pvN _ 0 _ _ (by rfl) (by trivial) (by decide) (by decide)) rfl) (@pe_callB _ _ _ _ _ _ _ ("sum") _ (call_qSum rfl) (by rfl) T.z_sum (by decide +kernel) (@pa_c _ _ _ _ _ (@pe_comp _ _ _ _ _ _ _ _ _ _ _ (["size", "pace", "self"]) (2) (comp_ok (defScope s_View_greatest) ["self"] rfl rfl (by decide +kernel)) rfl (@pi_seq _ _ _ _ (@pe_nFld _ _ _ _ _ (@pvN _ 0 _ _ (by rfl) (by trivial) (by decide) (by decide)) rfl)) (fun C s₀ H₀ ex pn=>((@pg_tup _ _ _ _ _ (2) rfl (@pgs_consN _ _ _ _ _ (@pg_name _ _ (0) _ (show List.Nodup (["size", "pace", "self"]:List Str) from by decide +kernel) rfl (Or.inl rfl) (by trivial)) (@pgs_consN _ _ _ _ _ (@pg_name _ _ (1) _ (show List.Nodup (["size", "pace", "self"]:List Str) from by decide +kernel) rfl (Or.inl rfl) (by trivial)) (@pgs_nilN _) (by rfl)) (by rfl)) (by rfl) (by rfl)).mono fun _ _ _ _ h=>gTup_q h)) (fun C s₀ H₀ ex pn=>(@pts_nil _)) (fun C s₀ H₀ ex pn=>(@pe_callB _ _ _ _ _ _ _ ("max") _ (call_qMax rfl) (by rfl) T.z_max (by decide +kernel) (@pa_c _ _ _ _ _ (@pe_int _ _ _ _) (@pa_c _ _ _ _ _ (@pe_op _ _ _ _ _ _ _ _ on_mul (@pe_op _ _ _ _ _ _ _ _ on_sub (@pvN _ 0 _ _ (by rfl) (by trivial) (by decide) (by decide)) (@pe_int _ _ _ _)) (@pvN _ 1 _ _ (by rfl) (by trivial) (by decide) (by decide))) (@pa_nil _) (by rfl)) (by rfl)) (by decide) (by decide) (by rfl) (by rfl))) (by intros;rfl)) (@pa_nil _) (by rfl)) (by decide) (by decide) (by rfl) (by rfl))))),?_⟩
  rw [show start ["self"] [.ref v]=[some (.ref v)] from rfl]
  simp! only [and_true]
  have wk:=wk_al (K:=K) (R:=axP) (fun _ _ _ _ h e=>h.ext e) hl (al_axP al)
  refine comp_fm axs (fun _=>true) (fun a=>.int (max 0 ((a.1 - 1) * a.2))) axP wk.1 wk.2 (len5000 (by have:=hax.1;omega)) ?_ ?_
  ·intro D a x H' N1 N0 ha hD e ⟨q,hx,hq⟩ k1 _
   subst hx
   have hb:=hax.2 a ha
   have k1':=k1 rfl H' (Ext.refl _)
   have hcm:CMul (a.1 - 1) a.2:=.inl ⟨by omega,by omega⟩
   rw [max0] at k1'
   clear k1 k
   simp! only [↓m_kCm_2,↓m_kCm2]
  ·intro D H' hD e hD'
   have hD2:H' D=some (.lst ((axs.map fun a=>max 0 ((a.1 - 1) * a.2)).map V.int)):=by rw [hD',filt,List.map_map];rfl
   have k2:Q (.int (first+(axs.map fun a=>max 0 ((a.1 - 1) * a.2)).sum)) H':=k H' e
   clear k hD'
   simp! only [and_true]
def kSzs (H:Hp) (Q:VK) (f:Int × Int->Int) (axs:List (Int × Int)):Prop:=∀ (r:Addr) (H':Hp),H r=none->Ext H H'->H' r=some (.lst ((axs.map f).map V.int))->Q (.ref r) H'
abbrev B_spVSizes (C:Addr) (v:Addr) (H:Hp) (Q:VK) (E:XK):Prop:=∃ (room first:Int) (axs:List (Int × Int)),ViewAt C H v room first axs∧axs.length≤8∧kSzs H Q (fun a=>a.1) axs
def spVSizes (C:Addr):Sp:=fun vs H Q E=>∃ (v:Addr),vs=[.ref v]∧(B_spVSizes C v H Q E)
abbrev B_spVPaces (C:Addr) (v:Addr) (H:Hp) (Q:VK) (E:XK):Prop:=∃ (room first:Int) (axs:List (Int × Int)),ViewAt C H v room first axs∧axs.length≤8∧kSzs H Q (fun a=>a.2) axs
def spVPaces (C:Addr):Sp:=fun vs H Q E=>∃ (v:Addr),vs=[.ref v]∧(B_spVPaces C v H Q E)
def spVInit (C:Addr):Sp:=fun vs H Q E=>∃ (x:Addr) (room:Int) (first:Int) (l:Addr),vs=[.ref x,.int room,.int first,.ref l]∧(∃ (dx:Addr) (axs:List (Int × Int)),H x=some (.ins C dx [])∧TupsAt H l (axL axs)∧ViewOk room first axs∧∀ (H':Hp) (D:Addr),(∀ H0,Ext H0 H->H0 x=none->Ext H0 H')->H D=none->H' x=some (.ins C dx (viewF room first D))->TupsAt H' D (axL (axs.map keptA))->Q .non H')
theorem c_spVInit (C:Addr) (x:Addr) (room:Int) (first:Int) (l:Addr) (H:Hp) (Q:VK) (E:XK):spVInit C [.ref x,.int room,.int first,.ref l] H Q E=(∃ (dx:Addr) (axs:List (Int × Int)),H x=some (.ins C dx [])∧TupsAt H l (axL axs)∧ViewOk room first axs∧∀ (H':Hp) (D:Addr),(∀ H0,Ext H0 H->H0 x=none->Ext H0 H')->H D=none->H' x=some (.ins C dx (viewF room first D))->TupsAt H' D (axL (axs.map keptA))->Q .non H'):=spx4 (f:=fun (x:Addr) (room:Int) (first:Int) (l:Addr)=>[.ref x,.int room,.int first,.ref l]) (fun _ _ _ _ _ _ _ _ h=>by cases h;exact ⟨rfl,rfl,rfl,rfl⟩) x room first l
theorem l_spVInit (C:Addr){vs:List V}{H:Hp}{Q:VK}{E:XK}(h:spVInit C vs H Q E):vs.length=4:=spl4 h fun _ _ _ _=>rfl
theorem ok_View___init__ (T:Tx K mg t):FnOk P w K mg base CX0 6 t.a_View___init__ t.d_View___init__ ["self", "room", "first", "axes"] (spVInit t.a_View):=by
 have G_is_within:=ok_is_within (P:=P) (w:=w) (base:=base) T
 have G_is_whole:=ok_is_whole (P:=P) (w:=w) (base:=base) T
 have G_are_axes:=ok_are_axes (P:=P) (w:=w) (base:=base) T
 have G_kept_axis:=ok_kept_axis (P:=P) (w:=w) (base:=base) T
 have G_View_least:=ok_View_least (P:=P) (w:=w) (base:=base) T
 have G_View_greatest:=ok_View_greatest (P:=P) (w:=w) (base:=base) T
 refine T.F_View___init__.ok c_View___init__ (fun vs H Q E h=>l_spVInit _ h) (fun cdv A outer s H vs Q E hr h=>?_)
 ·obtain ⟨x,room,first,l,rfl,dx,axs,hx,tl,vok,k⟩:=h
  have c1:=T.cl_View
  have c2:=T.na_View_first
  have c3:=T.na_View_axes
  have c4:=T.na_View_room
  refine ⟨_,(@pss_cons _ _ _ _ _ (@ps_if _ _ _ _ _ _ _ _ (PW.pt (@pw_or _ _ _ _ _ _ _ (@pt_not _ _ _ _ (@pt_valN _ _ _ (@pe_call _ _ _ _ _ _ _ _ _ _ _ _ _ _ _ _ G_is_within (hr.mono (by decide)) (by rfl) T.m_is_within T.F_is_within.kp T.b_is_within .nil pass0 (@pa_c _ _ _ _ _ (@pvN _ 1 _ _ (by rfl) (by trivial) (by decide) (by decide)) (@pa_c _ _ _ _ _ (@pe_int _ _ _ _) (@pa_c _ _ _ _ _ (@pe_glob _ _ (.int 1000000000000000000) _ _ (by rfl) T.m_MOST_ROOM.choose_spec ⟨_,rfl⟩ (by decide)) (@pa_nil _) (by rfl)) (by rfl)) (by rfl)) (by decide) (by rfl) (by rfl)) (by intros;rfl))) (@pw_or _ _ _ _ _ _ _ (@pt_not _ _ _ _ (@pt_valN _ _ _ (@pe_call _ _ _ _ _ _ _ _ _ _ _ _ _ _ _ _ G_is_whole (hr.mono (by decide)) (by rfl) T.m_is_whole T.F_is_whole.kp T.b_is_whole .nil pass0 (@pa_c _ _ _ _ _ (@pvN _ 2 _ _ (by rfl) (by trivial) (by decide) (by decide)) (@pa_nil _) (by rfl)) (by decide) (by rfl) (by rfl)) (by intros;rfl))) (@pw_or1 _ _ _ _ (@pt_not _ _ _ _ (@pt_valN _ _ _ (@pe_call _ _ _ _ _ _ _ _ _ _ _ _ _ _ _ _ G_are_axes (hr.mono (by decide)) (by rfl) T.m_are_axes T.F_are_axes.kp T.b_are_axes .nil pass0 (@pa_c _ _ _ _ _ (@pvN _ 3 _ _ (by rfl) (by trivial) (by decide) (by decide)) (@pa_nil _) (by rfl)) (by decide) (by rfl) (by rfl)) (by intros;rfl))))))) (@pss_one _ _ _ (@ps_never _ _)) (@pss_nil _)) (@pss_cons _ _ _ _ _ (@ps_nSetF _ _ _ _ _ _ _ _ (@pvN _ 0 _ _ (by rfl) (by trivial) (by decide) (by decide)) (@pvN _ 1 _ _ (by rfl) (by trivial) (by decide) (by decide)) rfl) (@pss_cons _ _ _ _ _ (@ps_nSetF _ _ _ _ _ _ _ _ (@pvN _ 0 _ _ (by rfl) (by trivial) (by decide) (by decide)) (@pvN _ 2 _ _ (by rfl) (by trivial) (by decide) (by decide)) rfl) (@pss_cons _ _ _ _ _ (@ps_nSetF _ _ _ _ _ _ _ _ (@pvN _ 0 _ _ (by rfl) (by trivial) (by decide) (by decide)) (@pe_comp _ _ _ _ _ _ _ _ _ _ _ (["axis", "self", "room", "first", "axes"]) (1) (comp_ok (defScope s_View___init__) ["self", "room", "first", "axes"] rfl rfl (by decide +kernel)) rfl (@pi_seq _ _ _ _ (@pvN _ 3 _ _ (by rfl) (by trivial) (by decide) (by decide))) (fun C s₀ H₀ ex pn=>(@pg_name _ _ (0) _ (show List.Nodup (["axis", "self", "room", "first", "axes"]:List Str) from by decide +kernel) rfl (Or.inl rfl) (by trivial))) (fun C s₀ H₀ ex pn=>(@pts_nil _)) (fun C s₀ H₀ ex pn=>(@pe_call _ _ _ _ _ _ _ _ _ _ _ _ _ _ _ _ G_kept_axis (hr.mono (by decide)) (by rfl) T.m_kept_axis T.F_kept_axis.kp T.b_kept_axis .nil pass0 (@pa_c _ _ _ _ _ (@pvN _ 0 _ _ (by rfl) (by trivial) (by decide) (by decide)) (@pa_nil _) (by rfl)) (by decide) (by rfl) (by rfl))) (by intros;rfl)) rfl) (@pss_one _ _ _ (@ps_if _ _ _ _ _ _ _ _ (PW.pt (@pw_or _ _ _ _ _ _ _ (@pt_cmpRN _ _ _ _ _ _ _ _ on_lt (@pe_nMeth0 _ _ _ _ _ _ _ _ _ _ _ _ _ _ _ _ _ (@pvN _ 0 _ _ (by rfl) (by trivial) (by decide) (by decide)) T.cl_View T.mt_View_least G_View_least (hr.mono (by decide)) T.b_View_least .nil pass0 (by rfl)) (@pe_int _ _ _ _) (nomark _)) (@pw_or1 _ _ _ _ (@pt_cmpRN _ _ _ _ _ _ _ _ on_ge (@pe_nMeth0 _ _ _ _ _ _ _ _ _ _ _ _ _ _ _ _ _ (@pvN _ 0 _ _ (by rfl) (by trivial) (by decide) (by decide)) T.cl_View T.mt_View_greatest G_View_greatest (hr.mono (by decide)) T.b_View_greatest .nil pass0 (by rfl)) (@pvN _ 1 _ _ (by rfl) (by trivial) (by decide) (by decide)) (nomark _))))) (@pss_one _ _ _ (@ps_never _ _)) (@pss_nil _))))))),?_⟩
  rw [show start ["self", "room", "first", "axes"] [.ref x,.int room,.int first,.ref l]=[some (.ref x),some (.int room),some (.int first),some (.ref l)] from rfl]
  have r1:=vok.r1
  have r2:=vok.r2
  simp! only [↓c_spWithin,↓c_spWhole]
  rw [c_spAxes]
  refine ⟨axs,tl,vok.ax,fun H1 e1=>?_⟩
  have hx1:=e1.at hx
  have tl1:=tl.ext e1
  clear hx tl
  simp! only [and_true]
  refine ⟨(show (1:Nat) < 1000 by decide),?_⟩
  obtain ⟨ys,hl1,al1⟩:=tl1
  have hlx:l ≠ x:=fun z=>by rw [z,hx1] at hl1;cases hl1
  have hx2:(upd H1 x (HO.ins t.a_View dx (putF "first" (V.int first) (putF "room" (V.int room) [])))) x=some (HO.ins t.a_View dx (putF "first" (V.int first) (putF "room" (V.int room) []))):=upd_same
  have hl2:(upd H1 x (HO.ins t.a_View dx (putF "first" (V.int first) (putF "room" (V.int room) [])))) l=some (.lst ys):=by rw [upd_ne hlx];exact hl1
  have al2:Al (fun a y=>axP a y (upd H1 x (HO.ins t.a_View dx (putF "first" (V.int first) (putF "room" (V.int room) []))))) axs ys:=(al_axP al1).imp fun a y ⟨q,hy,hq⟩=>⟨q,hy,by rw [upd_ne (fun z=>by rw [z,hx1] at hq;cases hq)];exact hq⟩
  have b2:∀ H0,Ext H0 H->H0 x=none->Ext H0 (upd H1 x (HO.ins t.a_View dx (putF "first" (V.int first) (putF "room" (V.int room) [])))):=fun H0 q0 q1=>(q0.trans e1).put q1
  have b3:∀ b,b ≠ x->(upd H1 x (HO.ins t.a_View dx (putF "first" (V.int first) (putF "room" (V.int room) [])))) b=none->H b=none:=fun b hb q=>by rw [upd_ne hb] at q;exact e1.free q
  generalize upd H1 x (HO.ins t.a_View dx (putF "first" (V.int first) (putF "room" (V.int room) [])))=H2 at hx2 hl2 al2 b2 b3
  clear hl1 al1 hx1
  simp! only [and_true]
  have wk:=wk_al (K:=K) (R:=axP) (fun _ _ _ _ h e=>h.ext e) hl2 al2
  refine comp_rel axs (fun _=>true) axP (fun D a y H'=>∃ q,y=.ref q∧q ≠ D∧H' q=some (.tup [.int (keptA a).1,.int (keptA a).2])) wk.1 wk.2 (fun D _ y H1 H2 ⟨q,h1,h2,h3⟩ e=>⟨q,h1,h2,e.at h3⟩) (fun D _ y H1 o ⟨q,h1,h2,h3⟩=>⟨q,h1,h2,by rw [upd_ne h2];exact h3⟩) (len5000 (by have:=vok.ax.1;omega)) ?_ ?_
  ·intro D a y H' N1 N0 ha hD e ⟨ys0,hys0⟩ ⟨q,hy,hq⟩ k1 _
   subst hy
   have k1':=k1 rfl
   clear k1 k
   simp! only [↓m_kCm_1,↓m_kCm2]
   rw [c_spKept]
   exact ⟨a,hq,fun r H'' hr' e' h'=>k1' _ H'' e' ⟨r,rfl,(fun z=>by rw [z,hys0] at hr';cases hr'),h'⟩⟩
  ·intro D zs H3 hD e3 hD3 al3
   rw [filt] at al3
   have hx3:=e3.at hx2
   have hDx:D ≠ x:=fun z=>by rw [z,hx2] at hD;cases hD
   clear wk
   simp! only [and_true]
   refine ⟨(show (2:Nat) < 1000 by decide),?_⟩
   have tt:TupsAt (upd H3 x (HO.ins t.a_View dx (viewF room first D))) D (axL (axs.map keptA)):=by
    refine ⟨zs,by rw [upd_ne hDx];exact hD3,?_,fun i z y hz hy=>?_⟩
    ·rw [al3.1];unfold axL;rw [List.length_map,List.length_map]
    ·unfold axL at hz
     rw [List.map_map,List.getElem?_map] at hz
     obtain ⟨a,ha,rfl⟩:=Option.map_eq_some_iff.mp hz
     obtain ⟨q,hq1,_,hq3⟩:=al3.2 i a y ha hy
     exact ⟨q,hq1,by rw [upd_ne (fun z=>by rw [z,hx3] at hq3;cases hq3)];exact hq3⟩
   have b4:∀ H0,Ext H0 H->H0 x=none->Ext H0 (upd H3 x (HO.ins t.a_View dx (viewF room first D))):=fun H0 q0 q1=>((b2 H0 q0 q1).trans e3).put q1
   have hx4:(upd H3 x (HO.ins t.a_View dx (viewF room first D))) x=some (HO.ins t.a_View dx (viewF room first D)):=upd_same
   have f1:=vn room first D (m := "least") (by decide +kernel)
   have f2:=vn room first D (m := "greatest") (by decide +kernel)
   refine ⟨f1,?_⟩
   show spLeast t.a_View [V.ref x] (upd H3 x (HO.ins t.a_View dx (viewF room first D))) _ _
   generalize upd H3 x (HO.ins t.a_View dx (viewF room first D))=H4 at tt b4 hx4
   have vo:ViewAt t.a_View H4 x room first (axs.map keptA):=⟨dx,D,hx4,tt⟩
   rw [c_spLeast]
   refine ⟨room,first,axs.map keptA,vo,vok.ax.kept,fun H5 e5=>?_⟩
   have hlo:¬ first+leastL (axs.map keptA) < 0:=by have:=vok.lo;omega
   have hx5:=e5.at hx4
   simp! only [and_true]
   rw [c_spGreatest]
   refine ⟨room,first,axs.map keptA,vo.ext e5,vok.ax.kept,fun H6 e6=>?_⟩
   have hhi:¬ room≤first+greatL (axs.map keptA):=by have:=vok.hi;omega
   have k':=k H6 D (fun H0 q0 q1=>((b4 H0 q0 q1).trans e5).trans e6) (b3 D hDx hD) (e6.at hx5) ((tt.ext e5).ext e6)
   clear k
   simp! only [and_true]
def spGcd  : Sp:=fun vs H Q E=>∃ (a:Int) (b:Int),vs=[.int a,.int b]∧(Q (.int (Int.gcd a b:Int)) H)
theorem c_spGcd  (a:Int) (b:Int) (H:Hp) (Q:VK) (E:XK):spGcd  [.int a,.int b] H Q E=(Q (.int (Int.gcd a b:Int)) H):=spx2 (f:=fun (a:Int) (b:Int)=>[.int a,.int b]) (fun _ _ _ _ h=>by cases h;exact ⟨rfl,rfl⟩) a b
theorem l_spGcd  {vs:List V}{H:Hp}{Q:VK}{E:XK}(h:spGcd  vs H Q E):vs.length=2:=spl2 h fun _ _=>rfl
theorem ok_divisor (T:Tx K mg t):FnOk P w K mg base CX0 1 t.a_divisor t.d_divisor ["one", "other"] spGcd:=by
 refine T.F_divisor.ok c_divisor (fun vs H Q E h=>l_spGcd h) (fun cdv A outer s H vs Q E hr h=>?_)
 ·obtain ⟨a,b,rfl,k⟩:=h
  refine ⟨_,(@pss_cons _ _ _ _ _ (@ps_set _ _ (2) _ _ _ _ c_divisor.nd rfl (Or.inl rfl) (@pe_callB _ _ _ _ _ _ _ ("abs") _ call_qAbs (by rfl) T.z_abs (by decide +kernel) (@pa_c _ _ _ _ _ (@pvN _ 0 _ _ (by rfl) (by trivial) (by decide) (by decide)) (@pa_nil _) (by rfl)) (by decide) (by decide) (by rfl) (by rfl)) (by rfl) (by trivial)) (@pss_cons _ _ _ _ _ (@ps_set _ _ (3) _ _ _ _ c_divisor.nd rfl (Or.inl rfl) (@pe_callB _ _ _ _ _ _ _ ("abs") _ call_qAbs (by rfl) T.z_abs (by decide +kernel) (@pa_c _ _ _ _ _ (@pvN _ 1 _ _ (by rfl) (by trivial) (by decide) (by decide)) (@pa_nil _) (by rfl)) (by decide) (by decide) (by rfl) (by rfl)) (by rfl) (by trivial)) (@pss_cons _ _ _ _ _ (@ps_while _ _ _ _ _ _ PassesOwn.never (@pt_cmpRN _ _ _ _ _ _ _ _ (op_qNe hr.units) (@pvN _ 3 _ _ (by rfl) (by trivial) (by decide) (by decide)) (@pe_int _ _ _ _) (nomark _)) (@pss_cons _ _ _ _ _ (@ps_set _ _ (4) _ _ _ _ c_divisor.nd rfl (Or.inl rfl) (@pe_op _ _ _ _ _ _ _ _ on_mod (@pvN _ 2 _ _ (by rfl) (by trivial) (by decide) (by decide)) (@pvN _ 3 _ _ (by rfl) (by trivial) (by decide) (by decide))) (by rfl) (by trivial)) (@pss_cons _ _ _ _ _ (@ps_set _ _ (2) _ _ _ _ c_divisor.nd rfl (Or.inl rfl) (@pvN _ 3 _ _ (by rfl) (by trivial) (by decide) (by decide)) (by rfl) (by trivial)) (@pss_one _ _ _ (@ps_set _ _ (3) _ _ _ _ c_divisor.nd rfl (Or.inl rfl) (@pvN _ 4 _ _ (by rfl) (by trivial) (by decide) (by decide)) (by rfl) (by trivial)))))) (@pss_one _ _ _ (@ps_ret _ _ _ _ (@pvN _ 2 _ _ (by rfl) (by trivial) (by decide) (by decide))))))),?_⟩
  rw [show start ["one", "other", "found", "rest", "smaller"] [.int a,.int b]=[some (.int a),some (.int b),none,none,none] from rfl]
  simp! only [and_true]
  refine while_w (by repeat' first|exact mo_tV|exact mo_nI0|exact mo_nI|apply mo_nTest|apply mo_unN|exact mo_var|exact mo_c|exact mo_rI0|exact mo_rI|exact mo_rIsN|exact mo_rNotN|exact mo_qEq|exact mo_qIx|exact mo_nil|exact mo_qLen|apply mo_test|apply mo_tB|apply mo_not|apply mo_and|apply mo_or|apply mo_op|apply mo_un|apply mo_cons|apply mo_qLst|apply mo_cb) (fun m σ H'=>∃ (f r:Int) (sm:Option V),σ=[some (.int a),some (.int b),some (.int f),some (.int r),sm]∧H'=H∧m=r.toNat∧0≤f∧0≤r∧Int.gcd f r=Int.gcd a b) _ ⟨_,_,_,rfl,rfl,rfl,abs_nn a,abs_nn b,gcd_abs a b⟩ ?_
  rintro m _ _ ⟨f,r,sm,rfl,rfl,rfl,hf,hr',hg⟩
  rename_i H
  by_cases hz:r=0
  ·subst hz
   have e:f=(Int.gcd a b:Int):=by rw [←hg];exact (gcd_zero f hf).symm
   rw [←e] at k
   clear e hg
   simp! only [and_true]
  ·have hp:0 < r:=by omega
   have e1:=gcd_step f r hp hf
   have e2:=Int.emod_lt_of_pos f hp
   have e3:=Int.emod_nonneg f hz
   have fin:∃ m',m' < r.toNat∧∃ (f' r':Int) (sm':Option V),([some (V.int a),some (V.int b),some (V.int r),some (V.int (f % r)),some (V.int (f % r))]:St)=[some (V.int a),some (V.int b),some (V.int f'),some (V.int r'),sm']∧m'=r'.toNat∧0≤f'∧0≤r'∧Int.gcd f' r'=Int.gcd a b:=⟨_,by omega,r,f % r,_,rfl,rfl,hr',e3,e1.trans hg⟩
   clear k e1 hg
   simp! only [and_true]
abbrev B_spGcds  (p:Addr) (H:Hp) (Q:VK) (E:XK):Prop:=∃ ns:List Int,H p=some (.lst (ns.map V.int))∧Q (.int (gcdL ns)) H
def spGcds  : Sp:=fun vs H Q E=>∃ (p:Addr),vs=[.ref p]∧(B_spGcds  p H Q E)
theorem c_spGcds  (p:Addr) (H:Hp) (Q:VK) (E:XK):spGcds  [.ref p] H Q E=(B_spGcds  p H Q E):=spx1 (f:=fun (p:Addr)=>[.ref p]) (fun _ _ h=>by cases h;exact rfl) p
theorem l_spGcds  {vs:List V}{H:Hp}{Q:VK}{E:XK}(h:spGcds  vs H Q E):vs.length=1:=spl1 h fun _=>rfl
theorem ok_divisor_of (T:Tx K mg t):FnOk P w K mg base CX0 2 t.a_divisor_of t.d_divisor_of ["numbers"] spGcds:=by
 have G_divisor:=ok_divisor (P:=P) (w:=w) (base:=base) T
 refine T.F_divisor_of.ok c_divisor_of (fun vs H Q E h=>l_spGcds h) (fun cdv A outer s H vs Q E hr h=>?_)
 ·obtain ⟨p,rfl,ns,hp,k⟩:=h
  refine ⟨_,(@pss_cons _ _ _ _ _ (@ps_set _ _ (1) _ _ _ _ c_divisor_of.nd rfl (Or.inl rfl) (@pe_int _ _ _ _) (by rfl) (by trivial)) (@pss_cons _ _ _ _ _ (@ps_for _ _ _ _ _ _ _ _ PassesOwn.never rfl (@pi_seq _ _ _ _ (@pvN _ 0 _ _ (by rfl) (by trivial) (by decide) (by decide))) (@pg_name _ _ (2) _ c_divisor_of.nd rfl (Or.inl rfl) (by trivial)) (@pss_one _ _ _ (@ps_set _ _ (1) _ _ _ _ c_divisor_of.nd rfl (Or.inl rfl) (@pe_call _ _ _ _ _ _ _ _ _ _ _ _ _ _ _ _ G_divisor (hr.mono (by decide)) (by rfl) T.m_divisor T.F_divisor.kp T.b_divisor .nil pass0 (@pa_c _ _ _ _ _ (@pvN _ 1 _ _ (by rfl) (by trivial) (by decide) (by decide)) (@pa_c _ _ _ _ _ (@pvN _ 2 _ _ (by rfl) (by trivial) (by decide) (by decide)) (@pa_nil _) (by rfl)) (by rfl)) (by decide) (by rfl) (by rfl)) (by rfl) (by trivial))) (by intros;rfl)) (@pss_one _ _ _ (@ps_ret _ _ _ _ (@pvN _ 1 _ _ (by rfl) (by trivial) (by decide) (by decide)))))),?_⟩
  rw [show start ["numbers", "found", "number"] [.ref p]=[some (.ref p),none,none] from rfl]
  clear G_divisor
  simp! only [and_true]
  refine for_lst (xs:=ns.map V.int) (fun i σ H'=>∃ v:Option V,σ=[some (.ref p),some (.int (gcdL (ns.take i))),v]∧H'=H) ⟨none,rfl,rfl⟩ (fun i σ H' _ ⟨_,_,e⟩=>by rw [e];exact hp) ?_ ?_
  ·rintro i y _ _ hi ⟨v,rfl,rfl⟩
   rename_i H
   rw [List.getElem?_map] at hi
   obtain ⟨z,hz,rfl⟩:=Option.map_eq_some_iff.mp hi
   have e1:=gcdL_take ns i z hz
   clear hz hi k
   simp! only [↓m_kBody]
   rw [c_spGcd]
   simp! only [and_true]
   exact ⟨_,rfl⟩
  ·rintro _ _ ⟨v,rfl,rfl⟩
   rename_i H
   have e2:gcdL (ns.take (ns.map V.int).length)=gcdL ns:=by rw [List.length_map,List.take_length]
   rw [e2]
   simp! only [and_true]
theorem tm_mul {zs:List Tm3}(h:TmsOk zs){z:Tm3}(hz:z∈zs) (b:Int):CMul z.1 b:=.inl (by have:=(h.all z hz).1;omega)
abbrev B_spLsum  (p:Addr) (q:Addr) (H:Hp) (Q:VK) (E:XK):Prop:=∃ (zs:List Tm3) (cs:List (Int × Int)),TrAt H p zs∧PrAt H q cs∧TmsOk zs∧CsOk zs cs∧∀ H',Ext H H'->Q (.int (lsum zs cs)) H'
def spLsum  : Sp:=fun vs H Q E=>∃ (p:Addr) (q:Addr),vs=[.ref p,.ref q]∧(B_spLsum  p q H Q E)
theorem c_spLsum  (p:Addr) (q:Addr) (H:Hp) (Q:VK) (E:XK):spLsum  [.ref p,.ref q] H Q E=(B_spLsum  p q H Q E):=spx2 (f:=fun (p:Addr) (q:Addr)=>[.ref p,.ref q]) (fun _ _ _ _ h=>by cases h;exact ⟨rfl,rfl⟩) p q
theorem l_spLsum  {vs:List V}{H:Hp}{Q:VK}{E:XK}(h:spLsum  vs H Q E):vs.length=2:=spl2 h fun _ _=>rfl
theorem ok_least_sum (T:Tx K mg t):FnOk P w K mg base CX0 1 t.a_least_sum t.d_least_sum ["terms", "case"] spLsum:=by
 refine T.F_least_sum.ok c_least_sum (fun vs H Q E h=>l_spLsum h) (fun cdv A outer s H vs Q E hr h=>?_)
 ·obtain ⟨p,q,rfl,zs,cs,⟨ys,hp,al⟩,⟨xs,hq,bl⟩,ht,hc,k⟩:=h
  refine ⟨_,(@pss_one _ _ _ (@ps_ret _ _ _ _ (@pe_callB _ _ _ _ _ _ _ ("sum") _ (call_qSum rfl) (by rfl) T.z_sum (by decide +kernel) (@pa_c _ _ _ _ _ (@pe_comp _ _ _ _ _ _ _ _ _ _ _ (["term", "bounds", "terms", "case"]) (2) (comp_ok (defScope s_least_sum) ["terms", "case"] rfl rfl (by decide +kernel)) rfl (@pi_zip _ _ _ _ _ _ _ _ _ (by rfl) T.z_zip (@pa_c _ _ _ _ _ (@pvN _ 0 _ _ (by rfl) (by trivial) (by decide) (by decide)) (@pa_c _ _ _ _ _ (@pvN _ 1 _ _ (by rfl) (by trivial) (by decide) (by decide)) (@pa_nil _) (by rfl)) (by rfl)) (by rfl) (by rfl)) (fun C s₀ H₀ ex pn=>((@pg_tup _ _ _ _ _ (2) rfl (@pgs_consN _ _ _ _ _ (@pg_name _ _ (0) _ (show List.Nodup (["term", "bounds", "terms", "case"]:List Str) from by decide +kernel) rfl (Or.inl rfl) (by trivial)) (@pgs_consN _ _ _ _ _ (@pg_name _ _ (1) _ (show List.Nodup (["term", "bounds", "terms", "case"]:List Str) from by decide +kernel) rfl (Or.inl rfl) (by trivial)) (@pgs_nilN _) (by rfl)) (by rfl)) (by rfl) (by rfl)).mono fun _ _ _ _ h=>gTup_q h)) (fun C s₀ H₀ ex pn=>(@pts_nil _)) (fun C s₀ H₀ ex pn=>(@pe_op _ _ _ _ _ _ _ _ on_mul (@pe_ix _ _ _ _ _ _ _ ix_q (@pvN _ 0 _ _ (by rfl) (by trivial) (by decide) (by decide)) (@pe_int _ _ _ _) (fun _ _=>rfl)) (@pe_ix _ _ _ _ _ _ _ ix_q (@pvN _ 1 _ _ (by rfl) (by trivial) (by decide) (by decide)) (@pe_int _ _ _ _) (fun _ _=>rfl)))) (by intros;rfl)) (@pa_nil _) (by rfl)) (by decide) (by decide) (by rfl) (by rfl)))),?_⟩
  rw [show start ["terms", "case"] [.ref p,.ref q]=[some (.ref p),some (.ref q)] from rfl]
  simp! only [and_true]
  have wk:=wk_zipA (R1:=trP) (R2:=axP) (fun _ _ _ _ h e=>h.ext e) (fun _ _ _ _ h e=>h.ext e) hp hq al bl
  refine comp_fm (zs.zip cs) (fun _=>true) (fun z=>.int (z.1.1 * z.2.1)) (zipA trP axP) wk.1 wk.2 (len5000 (by have:=ht.len;rw [List.length_zip];omega)) ?_ ?_
  ·intro D z y H' N1 N0 hz hD e ⟨u,q1,q2,hu,hu2,⟨r1,h1,h1'⟩,⟨r2,h2,h2'⟩⟩ k1 _
   subst hu h1 h2
   have k1':N1 (.int (z.1.1 * z.2.1)) H':=k1 rfl H' (Ext.refl _)
   have hcm:=tm_mul ht (List.of_mem_zip hz).1 z.2.1
   clear k1 k
   simp! only [↓m_kCm_2,↓m_kCm2]
  ·intro D H' hD e hD'
   rw [filt,show ((zs.zip cs).map fun z=>V.int (z.1.1 * z.2.1))=((zs.zip cs).map fun z=>z.1.1 * z.2.1).map V.int by rw [List.map_map];rfl] at hD'
   have k2:Q (.int ((zs.zip cs).map fun z=>z.1.1 * z.2.1).sum) H':=k H' e
   clear k wk
   simp! only [and_true]
abbrev B_spGsum  (p:Addr) (q:Addr) (H:Hp) (Q:VK) (E:XK):Prop:=∃ (zs:List Tm3) (cs:List (Int × Int)),TrAt H p zs∧PrAt H q cs∧TmsOk zs∧CsOk zs cs∧∀ H',Ext H H'->Q (.int (gsum zs cs)) H'
def spGsum  : Sp:=fun vs H Q E=>∃ (p:Addr) (q:Addr),vs=[.ref p,.ref q]∧(B_spGsum  p q H Q E)
theorem c_spGsum  (p:Addr) (q:Addr) (H:Hp) (Q:VK) (E:XK):spGsum  [.ref p,.ref q] H Q E=(B_spGsum  p q H Q E):=spx2 (f:=fun (p:Addr) (q:Addr)=>[.ref p,.ref q]) (fun _ _ _ _ h=>by cases h;exact ⟨rfl,rfl⟩) p q
theorem l_spGsum  {vs:List V}{H:Hp}{Q:VK}{E:XK}(h:spGsum  vs H Q E):vs.length=2:=spl2 h fun _ _=>rfl
theorem ok_greatest_sum (T:Tx K mg t):FnOk P w K mg base CX0 1 t.a_greatest_sum t.d_greatest_sum ["terms", "case"] spGsum:=by
 refine T.F_greatest_sum.ok c_greatest_sum (fun vs H Q E h=>l_spGsum h) (fun cdv A outer s H vs Q E hr h=>?_)
 ·obtain ⟨p,q,rfl,zs,cs,⟨ys,hp,al⟩,⟨xs,hq,bl⟩,ht,hc,k⟩:=h
  refine ⟨_,(@pss_one _ _ _ (@ps_ret _ _ _ _ (@pe_callB _ _ _ _ _ _ _ ("sum") _ (call_qSum rfl) (by rfl) T.z_sum (by decide +kernel) (@pa_c _ _ _ _ _ (@pe_comp _ _ _ _ _ _ _ _ _ _ _ (["term", "bounds", "terms", "case"]) (2) (comp_ok (defScope s_greatest_sum) ["terms", "case"] rfl rfl (by decide +kernel)) rfl (@pi_zip _ _ _ _ _ _ _ _ _ (by rfl) T.z_zip (@pa_c _ _ _ _ _ (@pvN _ 0 _ _ (by rfl) (by trivial) (by decide) (by decide)) (@pa_c _ _ _ _ _ (@pvN _ 1 _ _ (by rfl) (by trivial) (by decide) (by decide)) (@pa_nil _) (by rfl)) (by rfl)) (by rfl) (by rfl)) (fun C s₀ H₀ ex pn=>((@pg_tup _ _ _ _ _ (2) rfl (@pgs_consN _ _ _ _ _ (@pg_name _ _ (0) _ (show List.Nodup (["term", "bounds", "terms", "case"]:List Str) from by decide +kernel) rfl (Or.inl rfl) (by trivial)) (@pgs_consN _ _ _ _ _ (@pg_name _ _ (1) _ (show List.Nodup (["term", "bounds", "terms", "case"]:List Str) from by decide +kernel) rfl (Or.inl rfl) (by trivial)) (@pgs_nilN _) (by rfl)) (by rfl)) (by rfl) (by rfl)).mono fun _ _ _ _ h=>gTup_q h)) (fun C s₀ H₀ ex pn=>(@pts_nil _)) (fun C s₀ H₀ ex pn=>(@pe_op _ _ _ _ _ _ _ _ on_mul (@pe_ix _ _ _ _ _ _ _ ix_q (@pvN _ 0 _ _ (by rfl) (by trivial) (by decide) (by decide)) (@pe_int _ _ _ _) (fun _ _=>rfl)) (@pe_ix _ _ _ _ _ _ _ ix_q (@pvN _ 1 _ _ (by rfl) (by trivial) (by decide) (by decide)) (@pe_int _ _ _ _) (fun _ _=>rfl)))) (by intros;rfl)) (@pa_nil _) (by rfl)) (by decide) (by decide) (by rfl) (by rfl)))),?_⟩
  rw [show start ["terms", "case"] [.ref p,.ref q]=[some (.ref p),some (.ref q)] from rfl]
  simp! only [and_true]
  have wk:=wk_zipA (R1:=trP) (R2:=axP) (fun _ _ _ _ h e=>h.ext e) (fun _ _ _ _ h e=>h.ext e) hp hq al bl
  refine comp_fm (zs.zip cs) (fun _=>true) (fun z=>.int (z.1.1 * z.2.2)) (zipA trP axP) wk.1 wk.2 (len5000 (by have:=ht.len;rw [List.length_zip];omega)) ?_ ?_
  ·intro D z y H' N1 N0 hz hD e ⟨u,q1,q2,hu,hu2,⟨r1,h1,h1'⟩,⟨r2,h2,h2'⟩⟩ k1 _
   subst hu h1 h2
   have k1':N1 (.int (z.1.1 * z.2.2)) H':=k1 rfl H' (Ext.refl _)
   have hcm:=tm_mul ht (List.of_mem_zip hz).1 z.2.2
   clear k1 k
   simp! only [↓m_kCm_2,↓m_kCm2]
  ·intro D H' hD e hD'
   rw [filt,show ((zs.zip cs).map fun z=>V.int (z.1.1 * z.2.2))=((zs.zip cs).map fun z=>z.1.1 * z.2.2).map V.int by rw [List.map_map];rfl] at hD'
   have k2:Q (.int ((zs.zip cs).map fun z=>z.1.1 * z.2.2).sum) H':=k H' e
   clear k wk
   simp! only [and_true]
abbrev B_spRest  (p:Addr) (q:Addr) (H:Hp) (Q:VK) (E:XK):Prop:=∃ (zs:List Tm3) (cs:List (Int × Int)),TrAt H p zs∧PrAt H q cs∧TmsOk zs∧CsOk zs cs∧∀ H',Ext H H'->Q (.int (gcdL (restL zs cs))) H'
def spRest  : Sp:=fun vs H Q E=>∃ (p:Addr) (q:Addr),vs=[.ref p,.ref q]∧(B_spRest  p q H Q E)
theorem c_spRest  (p:Addr) (q:Addr) (H:Hp) (Q:VK) (E:XK):spRest  [.ref p,.ref q] H Q E=(B_spRest  p q H Q E):=spx2 (f:=fun (p:Addr) (q:Addr)=>[.ref p,.ref q]) (fun _ _ _ _ h=>by cases h;exact ⟨rfl,rfl⟩) p q
theorem l_spRest  {vs:List V}{H:Hp}{Q:VK}{E:XK}(h:spRest  vs H Q E):vs.length=2:=spl2 h fun _ _=>rfl
theorem ok_rest_of (T:Tx K mg t):FnOk P w K mg base CX0 3 t.a_rest_of t.d_rest_of ["terms", "case"] spRest:=by
 have G_divisor_of:=ok_divisor_of (P:=P) (w:=w) (base:=base) T
 refine T.F_rest_of.ok c_rest_of (fun vs H Q E h=>l_spRest h) (fun cdv A outer s H vs Q E hr h=>?_)
 ·obtain ⟨p,q,rfl,zs,cs,⟨ys,hp,al⟩,⟨xs,hq,bl⟩,ht,hc,k⟩:=h
  refine ⟨_,(@pss_one _ _ _ (@ps_ret _ _ _ _ (@pe_call _ _ _ _ _ _ _ _ _ _ _ _ _ _ _ _ G_divisor_of (hr.mono (by decide)) (by rfl) T.m_divisor_of T.F_divisor_of.kp T.b_divisor_of .nil pass0 (@pa_c _ _ _ _ _ (@pe_comp _ _ _ _ _ _ _ _ _ _ _ (["term", "bounds", "terms", "case"]) (2) (comp_ok (defScope s_rest_of) ["terms", "case"] rfl rfl (by decide +kernel)) rfl (@pi_zip _ _ _ _ _ _ _ _ _ (by rfl) T.z_zip (@pa_c _ _ _ _ _ (@pvN _ 0 _ _ (by rfl) (by trivial) (by decide) (by decide)) (@pa_c _ _ _ _ _ (@pvN _ 1 _ _ (by rfl) (by trivial) (by decide) (by decide)) (@pa_nil _) (by rfl)) (by rfl)) (by rfl) (by rfl)) (fun C s₀ H₀ ex pn=>((@pg_tup _ _ _ _ _ (2) rfl (@pgs_consN _ _ _ _ _ (@pg_name _ _ (0) _ (show List.Nodup (["term", "bounds", "terms", "case"]:List Str) from by decide +kernel) rfl (Or.inl rfl) (by trivial)) (@pgs_consN _ _ _ _ _ (@pg_name _ _ (1) _ (show List.Nodup (["term", "bounds", "terms", "case"]:List Str) from by decide +kernel) rfl (Or.inl rfl) (by trivial)) (@pgs_nilN _) (by rfl)) (by rfl)) (by rfl) (by rfl)).mono fun _ _ _ _ h=>gTup_q h)) (fun C s₀ H₀ ex pn=>(@pts_one _ _ _ (@pt_cmpRN _ _ _ _ _ _ _ _ on_lt (@pe_ix _ _ _ _ _ _ _ ix_q (@pvN _ 1 _ _ (by rfl) (by trivial) (by decide) (by decide)) (@pe_int _ _ _ _) (fun _ _=>rfl)) (@pe_ix _ _ _ _ _ _ _ ix_q (@pvN _ 1 _ _ (by rfl) (by trivial) (by decide) (by decide)) (@pe_int _ _ _ _) (fun _ _=>rfl)) (nomark _)))) (fun C s₀ H₀ ex pn=>(@pe_ix _ _ _ _ _ _ _ ix_q (@pvN _ 0 _ _ (by rfl) (by trivial) (by decide) (by decide)) (@pe_int _ _ _ _) (fun _ _=>rfl))) (by intros;rfl)) (@pa_nil _) (by rfl)) (by decide) (by rfl) (by rfl)))),?_⟩
  rw [show start ["terms", "case"] [.ref p,.ref q]=[some (.ref p),some (.ref q)] from rfl]
  clear G_divisor_of
  simp! only [and_true]
  have wk:=wk_zipA (R1:=trP) (R2:=axP) (fun _ _ _ _ h e=>h.ext e) (fun _ _ _ _ h e=>h.ext e) hp hq al bl
  refine comp_fm (zs.zip cs) (fun z=>decide (z.2.1 < z.2.2)) (fun z=>.int z.1.1) (zipA trP axP) wk.1 wk.2 (len5000 (by have:=ht.len;rw [List.length_zip];omega)) ?_ ?_
  ·intro D z y H' N1 N0 hz hD e ⟨u,q1,q2,hu,hu2,⟨r1,h1,h1'⟩,⟨r2,h2,h2'⟩⟩ k1 k0
   subst hu h1 h2
   by_cases hlt:z.2.1 < z.2.2
   ·have k1':N1 (.int z.1.1) H':=k1 (decide_eq_true hlt) H' (Ext.refl _)
    clear k1 k0 k
    simp! only [↓m_kCm_2,↓m_kCm2]
   ·have k0':N0 H':=k0 (decide_eq_false hlt) H' (Ext.refl _)
    clear k1 k0 k
    simp! only [↓m_kCm_2,↓m_kCm2]
  ·intro D H' hD e hD'
   rw [show (((zs.zip cs).filter fun z=>decide (z.2.1 < z.2.2)).map fun z=>V.int z.1.1)=(restL zs cs).map V.int by unfold restL;rw [List.map_map];rfl] at hD'
   have k2:=k H' e
   clear k wk
   simp! only [and_true]
   rw [c_spGcds]
   exact ⟨_,hD',k2⟩
def StpV (H:Hp) (s:List V) (v:V):Prop:=∃ r,v=.ref r∧H r=some (.tup s)
theorem StpV.ext {H H':Hp}{s:List V}{v:V}(h:StpV H s v) (e:Ext H H'):StpV H' s v:=by
 obtain ⟨r,h1,h2⟩:=h
 exact ⟨r,h1,e.at h2⟩
def endB (g l gr r:Int):Option (List V):=if g < l then some [.str "low"] else if gr < g then some [.str "high"] else if 1 < r∧(g - l) % r ≠ 0 then some [.str "rest",.int r] else none
def endS (zs:List Tm3) (cs:List (Int × Int)) (g:Int):Option (List V):=endB g (lsum zs cs) (gsum zs cs) (gcdL (restL zs cs))
def endV (H:Hp):Option (List V)->V->Prop
 | none,v=>v=.non
 | some s,v=>StpV H s v
theorem endB_ended {g l gr r:Int}:(endB g l gr r).isSome=endedB g l gr r:=by
 unfold endB endedB
 by_cases h1:g < l
 ·rw [if_pos h1,decide_eq_true h1];rfl
 rw [if_neg h1,decide_eq_false h1]
 by_cases h2:gr < g
 ·rw [if_pos h2,decide_eq_true h2];rfl
 rw [if_neg h2,decide_eq_false h2]
 by_cases h3:1 < r
 ·have:=Int.emod_nonneg (g - l) (show r ≠ 0 by omega)
  by_cases h4:(g - l) % r=0
  ·rw [if_neg (fun h=>h.2 h4),h4,decide_eq_false (Int.lt_irrefl 0),Bool.and_false];rfl
  ·rw [if_pos ⟨h3,h4⟩,decide_eq_true h3,decide_eq_true (show 0 < (g - l) % r by omega)];rfl
 ·rw [if_neg (fun h=>h3 h.1),decide_eq_false h3];rfl
theorem ended_of {zs:List Tm3}{cs:List (Int × Int)}{g:Int}{o:Option (List V)}(h:endS zs cs g=o):ended zs cs g=o.isSome:=by
 rw [←h];exact endB_ended.symm
abbrev B_spEndOf  (p:Addr) (g:Int) (q:Addr) (H:Hp) (Q:VK) (E:XK):Prop:=∃ (zs:List Tm3) (cs:List (Int × Int)),TrAt H p zs∧PrAt H q cs∧TmsOk zs∧CsOk zs cs∧∀ v H',Ext H H'->endV H' (endS zs cs g) v->Q v H'
def spEndOf  : Sp:=fun vs H Q E=>∃ (p:Addr) (g:Int) (q:Addr),vs=[.ref p,.int g,.ref q]∧(B_spEndOf  p g q H Q E)
theorem c_spEndOf  (p:Addr) (g:Int) (q:Addr) (H:Hp) (Q:VK) (E:XK):spEndOf  [.ref p,.int g,.ref q] H Q E=(B_spEndOf  p g q H Q E):=spx3 (f:=fun (p:Addr) (g:Int) (q:Addr)=>[.ref p,.int g,.ref q]) (fun _ _ _ _ _ _ h=>by cases h;exact ⟨rfl,rfl,rfl⟩) p g q
theorem l_spEndOf  {vs:List V}{H:Hp}{Q:VK}{E:XK}(h:spEndOf  vs H Q E):vs.length=3:=spl3 h fun _ _ _=>rfl
theorem ok_end_of (T:Tx K mg t):FnOk P w K mg base CX0 4 t.a_end_of t.d_end_of ["terms", "goal", "case"] spEndOf:=by
 have G_least_sum:=ok_least_sum (P:=P) (w:=w) (base:=base) T
 have G_greatest_sum:=ok_greatest_sum (P:=P) (w:=w) (base:=base) T
 have G_rest_of:=ok_rest_of (P:=P) (w:=w) (base:=base) T
 refine T.F_end_of.ok c_end_of (fun vs H Q E h=>l_spEndOf h) (fun cdv A outer s H vs Q E hr h=>?_)
 ·obtain ⟨p,g,q,rfl,zs,cs,hp,hq,ht,hc,k⟩:=h
  refine ⟨_,(@pss_cons _ _ _ _ _ (@ps_set _ _ (3) _ _ _ _ c_end_of.nd rfl (Or.inl rfl) (@pe_call _ _ _ _ _ _ _ _ _ _ _ _ _ _ _ _ G_least_sum (hr.mono (by decide)) (by rfl) T.m_least_sum T.F_least_sum.kp T.b_least_sum .nil pass0 (@pa_c _ _ _ _ _ (@pvN _ 0 _ _ (by rfl) (by trivial) (by decide) (by decide)) (@pa_c _ _ _ _ _ (@pvN _ 2 _ _ (by rfl) (by trivial) (by decide) (by decide)) (@pa_nil _) (by rfl)) (by rfl)) (by decide) (by rfl) (by rfl)) (by rfl) (by trivial)) (@pss_cons _ _ _ _ _ (@ps_if _ _ _ _ _ _ _ _ (@pt_cmpRN _ _ _ _ _ _ _ _ on_gt (@pvN _ 3 _ _ (by rfl) (by trivial) (by decide) (by decide)) (@pvN _ 1 _ _ (by rfl) (by trivial) (by decide) (by decide)) (nomark _)) (@pss_one _ _ _ (@ps_ret _ _ _ _ (@pe_qTup _ _ _ _ _ (@pa_c _ _ _ _ _ (@pe_str _ _ _ _) (@pa_nil _) (by rfl))))) (@pss_nil _)) (@pss_cons _ _ _ _ _ (@ps_if _ _ _ _ _ _ _ _ (@pt_cmpRN _ _ _ _ _ _ _ _ on_lt (@pe_call _ _ _ _ _ _ _ _ _ _ _ _ _ _ _ _ G_greatest_sum (hr.mono (by decide)) (by rfl) T.m_greatest_sum T.F_greatest_sum.kp T.b_greatest_sum .nil pass0 (@pa_c _ _ _ _ _ (@pvN _ 0 _ _ (by rfl) (by trivial) (by decide) (by decide)) (@pa_c _ _ _ _ _ (@pvN _ 2 _ _ (by rfl) (by trivial) (by decide) (by decide)) (@pa_nil _) (by rfl)) (by rfl)) (by decide) (by rfl) (by rfl)) (@pvN _ 1 _ _ (by rfl) (by trivial) (by decide) (by decide)) (nomark _)) (@pss_one _ _ _ (@ps_ret _ _ _ _ (@pe_qTup _ _ _ _ _ (@pa_c _ _ _ _ _ (@pe_str _ _ _ _) (@pa_nil _) (by rfl))))) (@pss_nil _)) (@pss_cons _ _ _ _ _ (@ps_set _ _ (4) _ _ _ _ c_end_of.nd rfl (Or.inl rfl) (@pe_call _ _ _ _ _ _ _ _ _ _ _ _ _ _ _ _ G_rest_of (hr.mono (by decide)) (by rfl) T.m_rest_of T.F_rest_of.kp T.b_rest_of .nil pass0 (@pa_c _ _ _ _ _ (@pvN _ 0 _ _ (by rfl) (by trivial) (by decide) (by decide)) (@pa_c _ _ _ _ _ (@pvN _ 2 _ _ (by rfl) (by trivial) (by decide) (by decide)) (@pa_nil _) (by rfl)) (by rfl)) (by decide) (by rfl) (by rfl)) (by rfl) (by trivial)) (@pss_cons _ _ _ _ _ (@ps_if _ _ _ _ _ _ _ _ (PW.pt (@pw_and _ _ _ _ _ _ _ (@pt_cmpRN _ _ _ _ _ _ _ _ on_gt (@pvN _ 4 _ _ (by rfl) (by trivial) (by decide) (by decide)) (@pe_int _ _ _ _) (nomark _)) (@pw_and1 _ _ _ _ (@pt_cmpRN _ _ _ _ _ _ _ _ (op_qNe hr.units) (@pe_op _ _ _ _ _ _ _ _ on_mod (@pe_op _ _ _ _ _ _ _ _ on_sub (@pvN _ 1 _ _ (by rfl) (by trivial) (by decide) (by decide)) (@pvN _ 3 _ _ (by rfl) (by trivial) (by decide) (by decide))) (@pvN _ 4 _ _ (by rfl) (by trivial) (by decide) (by decide))) (@pe_int _ _ _ _) (nomark _))))) (@pss_one _ _ _ (@ps_ret _ _ _ _ (@pe_qTup _ _ _ _ _ (@pa_c _ _ _ _ _ (@pe_str _ _ _ _) (@pa_c _ _ _ _ _ (@pvN _ 4 _ _ (by rfl) (by trivial) (by decide) (by decide)) (@pa_nil _) (by rfl)) (by rfl))))) (@pss_nil _)) (@pss_one _ _ _ (@ps_ret _ _ _ _ (@pe_non _ _ _)))))))),?_⟩
  rw [show start ["terms", "goal", "case", "least", "rest"] [.ref p,.int g,.ref q]=[some (.ref p),some (.int g),some (.ref q),none,none] from rfl]
  clear G_least_sum G_greatest_sum G_rest_of
  unfold endS at k
  have en:∀ o,endB g (lsum zs cs) (gsum zs cs) (gcdL (restL zs cs))=o->∀ v H',Ext H H'->endV H' o v->Q v H':=fun o ho v H' e h=>k v H' e (by rw [ho];exact h)
  unfold endB at en
  replace en:=fun (_:Unit)=>en
  clear k
  simp! only [and_true]
  rw [c_spLsum]
  refine ⟨zs,cs,hp,hq,ht,hc,fun H1 e1=>?_⟩
  by_cases h1:g < lsum zs cs
  ·have k:=en () _ (if_pos h1)
   replace k:=fun (_:Unit)=>k
   clear en
   simp! only [and_true]
   intro r H2 hr2 e2 h2
   exact k () _ H2 (e1.trans e2) ⟨r,rfl,h2⟩
  simp! only [and_true]
  rw [c_spGsum]
  refine ⟨zs,cs,tr_ext hp e1,pr_ext hq e1,ht,hc,fun H2 e2=>?_⟩
  by_cases h2:gsum zs cs < g
  ·have k:=en () _ (by rw [if_neg h1,if_pos h2])
   replace k:=fun (_:Unit)=>k
   clear en
   simp! only [and_true]
   intro r H3 hr3 e3 h3
   exact k () _ H3 (e1.trans (e2.trans e3)) ⟨r,rfl,h3⟩
  simp! only [and_true]
  rw [c_spRest]
  refine ⟨zs,cs,tr_ext hp (e1.trans e2),pr_ext hq (e1.trans e2),ht,hc,fun H3 e3=>?_⟩
  have hgn:=gcdL_nn (restL zs cs)
  generalize gcdL (restL zs cs)=r at en hgn
  by_cases h3:1 < r
  ·have hr0:0 < r:=by omega
   by_cases h4:(g - lsum zs cs) % r=0
   ·have k2:=en () none (by rw [if_neg h1,if_neg h2,if_neg (fun h=>h.2 h4)]) .non H3 (e1.trans (e2.trans e3)) rfl
    clear en
    simp! only [and_true]
   ·have k:=en () _ (by rw [if_neg h1,if_neg h2,if_pos ⟨h3,h4⟩])
    replace k:=fun (_:Unit)=>k
    clear en
    simp! only [and_true]
    intro r' H4 hr4 e4 h4'
    exact k () _ H4 (e1.trans (e2.trans (e3.trans e4))) ⟨r',rfl,h4'⟩
  ·have k2:=en () none (by rw [if_neg h1,if_neg h2,if_neg (fun h=>h3 h.1)]) .non H3 (e1.trans (e2.trans e3)) rfl
   clear en
   simp! only [and_true]
abbrev Bx:=List (Int × Int)
def InB:Bx->List Int->Prop
 | [],[]=>True
 | b::cs,x::xs=>(b.1≤x∧x≤b.2)∧InB cs xs
 | _,_=>False
def valL:List Tm3->List Int->Int
 | z::zs,x::xs=>z.1 * x+valL zs xs
 | _,_=>0
def volL:Bx->Int
 | []=>1
 | b::cs=>(b.2 - b.1+1) * volL cs
def BxOk (cs:Bx):Prop:=∀ b∈cs,b.1≤b.2
theorem vol_one:∀ {cs:Bx},BxOk cs->1≤volL cs
 | [],_=>Int.le_refl _
 | b::cs,h=>by
  have ih:=vol_one (cs:=cs) fun c hc=>h c (List.mem_cons_of_mem _ hc)
  have hb:=h b List.mem_cons_self
  show 1≤(b.2 - b.1+1) * volL cs
  have:=Int.mul_le_mul (show (1:Int)≤b.2 - b.1+1 by omega) ih (by decide) (by omega)
  omega
theorem sums_cons (z:Tm3) (b:Int × Int) (zs:List Tm3) (cs:Bx):lsum (z::zs) (b::cs)=z.1 * b.1+lsum zs cs∧gsum (z::zs) (b::cs)=z.1 * b.2+gsum zs cs:=by
 unfold lsum gsum
 rw [List.zip_cons_cons,List.map_cons,List.map_cons,List.sum_cons,List.sum_cons]
 exact ⟨rfl,rfl⟩
theorem val_between:∀ {zs:List Tm3}{cs:Bx}{xs:List Int},(∀ z∈zs,(0:Int)≤z.1)->cs.length=zs.length->InB cs xs->lsum zs cs≤valL zs xs∧valL zs xs≤gsum zs cs
 | [],[],[],_,_,_=>⟨Int.le_refl _,Int.le_refl _⟩
 | [],_::_,_,_,h,_=>by simp at h
 | _::_,[],_,_,h,_=>by simp at h
 | _,[],_::_,_,_,h=>h.elim
 | _,_::_,[],_,_,h=>h.elim
 | z::zs,b::cs,x::xs,hz,hl,hx=>by
  have ih:=val_between (zs:=zs) (cs:=cs) (xs:=xs) (fun y hy=>hz y (List.mem_cons_of_mem _ hy)) (by simpa using hl) hx.2
  have h0:=hz z List.mem_cons_self
  have m1:=Int.mul_le_mul_of_nonneg_left hx.1.1 h0
  have m2:=Int.mul_le_mul_of_nonneg_left hx.1.2 h0
  obtain ⟨s1,s2⟩:=sums_cons z b zs cs
  rw [s1,s2]
  show z.1 * b.1+lsum zs cs≤z.1 * x+valL zs xs∧z.1 * x+valL zs xs≤z.1 * b.2+gsum zs cs
  omega
theorem gcd_fold:∀ (ns:List Int) (a:Int),(ns.foldl (fun f n=>(Int.gcd f n:Int)) a ∣ a)∧∀ n∈ns,ns.foldl (fun f n=>(Int.gcd f n:Int)) a ∣ n
 | [],a=>⟨Int.dvd_refl _,fun _ h=>by cases h⟩
 | n::ns,a=>by
  obtain ⟨h1,h2⟩:=gcd_fold ns (Int.gcd a n:Int)
  refine ⟨Int.dvd_trans h1 (Int.gcd_dvd_left ..),fun m hm=>?_⟩
  rcases List.mem_cons.mp hm with rfl|hm
  ·exact Int.dvd_trans h1 (Int.gcd_dvd_right ..)
  ·exact h2 m hm
theorem InB.len:∀ {cs:Bx}{xs:List Int},InB cs xs->xs.length=cs.length
 | [],[],_=>rfl
 | [],_::_,h=>h.elim
 | _::_,[],h=>h.elim
 | _::_,_::_,h=>congrArg (· + 1) (InB.len h.2)
def upC (cs:Bx) (k:Nat) (at':Int):Bx:=cs.set k (at'+1,(cs.getD k default).2)
def loC (cs:Bx) (k:Nat) (at':Int):Bx:=cs.set k ((cs.getD k default).1,at')
theorem part_vol:∀ {cs:Bx}{k:Nat}{a:Int},k < cs.length->volL (upC cs k a)+volL (loC cs k a)=volL cs
 | [],_,_,h=>by simp at h
 | b::cs,0,a,_=>by
  show (b.2 - (a+1)+1) * volL cs+(a - b.1+1) * volL cs=(b.2 - b.1+1) * volL cs
  rw [←Int.add_mul]
  congr 1
  omega
 | b::cs,k+1,a,h=>by
  have ih:=part_vol (cs:=cs) (k:=k) (a:=a) (by simpa using h)
  show (b.2 - b.1+1) * volL (upC cs k a)+(b.2 - b.1+1) * volL (loC cs k a)=(b.2 - b.1+1) * volL cs
  rw [←Int.mul_add,ih]
theorem in_mono:∀ {cs ds:Bx}{xs:List Int},InB cs xs->ds.length=cs.length->(∀ i:Nat,i < cs.length->(ds.getD i default).1≤(cs.getD i default).1∧(cs.getD i default).2≤(ds.getD i default).2)->InB ds xs
 | [],[],[],_,_,_=>trivial
 | [],_::_,_,_,h,_=>by simp at h
 | _::_,[],_,_,h,_=>by simp at h
 | [],_,_::_,h,_,_=>h.elim
 | _::_,_,[],h,_,_=>h.elim
 | b::cs,d::ds,x::xs,hx,hl,h=>by
  have h0:=h 0 (by simp)
  have h0':d.1≤b.1∧b.2≤d.2:=h0
  refine ⟨by have:=hx.1;omega,in_mono hx.2 (by simpa using hl) fun i hi=>?_⟩
  exact h (i+1) (by simpa using hi)
theorem CsOk.at {zs:List Tm3}{cs:Bx}(h:CsOk zs cs){i:Nat}(hi:i < zs.length):(zs.getD i default).2.1≤(cs.getD i default).1∧(cs.getD i default).1≤(cs.getD i default).2∧(cs.getD i default).2≤(zs.getD i default).2.2:=by
 have hc:i < cs.length:=by rw [h.len];exact hi
 have hm:(zs[i],cs[i])∈zs.zip cs:=by
  have:(zs.zip cs)[i]? = some (zs[i],cs[i]):=by rw [List.getElem?_zip_eq_some];exact ⟨List.getElem?_eq_getElem hi,List.getElem?_eq_getElem hc⟩
  exact List.mem_of_getElem? this
 have:=h.all _ hm
 rw [List.getD_eq_getElem?_getD,List.getD_eq_getElem?_getD,List.getElem?_eq_getElem hi,List.getElem?_eq_getElem hc]
 exact this
theorem CsOk.of {zs:List Tm3}{cs:Bx}(hl:cs.length=zs.length) (h:∀ i:Nat,i < zs.length->(zs.getD i default).2.1≤(cs.getD i default).1∧(cs.getD i default).1≤(cs.getD i default).2∧(cs.getD i default).2≤(zs.getD i default).2.2):CsOk zs cs:=by
 refine ⟨hl,fun p hp=>?_⟩
 obtain ⟨i,hi⟩:=List.mem_iff_getElem?.mp hp
 obtain ⟨h1,h2⟩:=List.getElem?_zip_eq_some.mp hi
 have hz:=(List.getElem?_eq_some_iff.mp h1).1
 have:=h i hz
 rw [List.getD_eq_getElem?_getD,List.getD_eq_getElem?_getD,h1,h2] at this
 exact this
theorem CsOk.bx {zs:List Tm3}{cs:Bx}(h:CsOk zs cs):BxOk cs:=fun b hb=>by
 obtain ⟨i,hi⟩:=List.mem_iff_getElem?.mp hb
 have hl:=(List.getElem?_eq_some_iff.mp hi).1
 have:=(h.at (i:=i) (by rw [←h.len];exact hl)).2.1
 rw [List.getD_eq_getElem?_getD,hi] at this
 exact this
theorem getD_set' {cs:Bx}{k i:Nat}{b:Int × Int}(hk:k < cs.length):(cs.set k b).getD i default=if i=k then b else cs.getD i default:=by
 rw [List.getD_eq_getElem?_getD,List.getD_eq_getElem?_getD,List.getElem?_set]
 by_cases h:i=k
 ·subst h;rw [if_pos rfl,if_pos hk,if_pos rfl];rfl
 ·rw [if_neg (fun e=>h e.symm),if_neg h]
theorem CsOk.part {zs:List Tm3}{cs:Bx}{k:Nat}{a:Int}(h:CsOk zs cs) (hk:k < zs.length) (h1:(cs.getD k default).1≤a) (h2:a < (cs.getD k default).2):CsOk zs (upC cs k a)∧CsOk zs (loC cs k a):=by
 have hc:k < cs.length:=by rw [h.len];exact hk
 have hk':=h.at hk
 refine ⟨CsOk.of (by unfold upC;rw [List.length_set];exact h.len) fun i hi=>?_,CsOk.of (by unfold loC;rw [List.length_set];exact h.len) fun i hi=>?_⟩
 ·unfold upC
  rw [getD_set' hc]
  by_cases e:i=k
  ·subst e;rw [if_pos rfl];show _≤a+1∧a+1≤(cs.getD i default).2∧_;omega
  ·rw [if_neg e];exact h.at hi
 ·unfold loC
  rw [getD_set' hc]
  by_cases e:i=k
  ·subst e;rw [if_pos rfl];show _≤(cs.getD i default).1∧(cs.getD i default).1≤a∧a≤_;omega
  ·rw [if_neg e];exact h.at hi
theorem val_ends:∀ {zs:List Tm3}{cs:Bx},cs.length=zs.length->valL zs (cs.map fun b=>b.1)=lsum zs cs∧valL zs (cs.map fun b=>b.2)=gsum zs cs
 | [],[],_=>⟨rfl,rfl⟩
 | [],_::_,h=>by simp at h
 | _::_,[],h=>by simp at h
 | z::zs,b::cs,h=>by
  obtain ⟨i1,i2⟩:=val_ends (zs:=zs) (cs:=cs) (by simpa using h)
  obtain ⟨s1,s2⟩:=sums_cons z b zs cs
  rw [s1,s2,←i1,←i2]
  exact ⟨rfl,rfl⟩
theorem in_ends:∀ {cs:Bx},BxOk cs->InB cs (cs.map fun b=>b.1)∧InB cs (cs.map fun b=>b.2)
 | [],_=>⟨trivial,trivial⟩
 | b::cs,h=>by
  have ih:=in_ends (cs:=cs) fun c hc=>h c (List.mem_cons_of_mem _ hc)
  have hb:=h b List.mem_cons_self
  exact ⟨⟨⟨Int.le_refl _,hb⟩,ih.1⟩,⟨hb,Int.le_refl _⟩,ih.2⟩
def naoL (zs:List Tm3) (g:Int) (cs:Bx):Option (List Int):=if lsum zs cs=g then some (cs.map fun b=>b.1) else if gsum zs cs=g then some (cs.map fun b=>b.2) else none
theorem nao_ok {zs:List Tm3}{g:Int}{cs:Bx}{xs:List Int}(h:CsOk zs cs) (hx:naoL zs g cs=some xs):InB cs xs∧valL zs xs=g:=by
 obtain ⟨v1,v2⟩:=val_ends h.len
 obtain ⟨i1,i2⟩:=in_ends h.bx
 unfold naoL at hx
 split at hx
 ·rename_i e;cases hx;exact ⟨i1,v1.trans e⟩
 ·split at hx
  ·rename_i e;cases hx;exact ⟨i2,v2.trans e⟩
  ·cases hx
def narF (t:Int) (b:Int × Int) (al bg:Int):Int × Int:=(if b.1 < b.2 - bg / t then b.2 - bg / t else b.1,if b.1+al / t < b.2 then b.1+al / t else b.2)
def bestF (zs:List Tm3) (cs:Bx) (al bg:Int):Nat->Option (Nat × Int × Int)
 | 0=>none
 | i+1=>if (cs.getD i default).1 < (cs.getD i default).2 then (match bestF zs cs al bg i with
   | none=>some (i,narF (zs.getD i default).1 (cs.getD i default) al bg)
   | some q=>if (narF (zs.getD i default).1 (cs.getD i default) al bg).2 - (narF (zs.getD i default).1 (cs.getD i default) al bg).1 < q.2.2 - q.2.1 then some (i,narF (zs.getD i default).1 (cs.getD i default) al bg) else some q) else bestF zs cs al bg i
theorem best_ok {zs:List Tm3}{cs:Bx}{al bg:Int}:∀ {i:Nat}{q:Nat × Int × Int},bestF zs cs al bg i=some q->q.1 < i∧(cs.getD q.1 default).1 < (cs.getD q.1 default).2∧q.2=narF (zs.getD q.1 default).1 (cs.getD q.1 default) al bg
 | 0,q,h=>by cases h
 | i+1,q,h=>by
  have ih:=fun q h=>best_ok (zs:=zs) (cs:=cs) (al:=al) (bg:=bg) (i:=i) (q:=q) h
  unfold bestF at h
  split at h
  ·rename_i hlt
   split at h
   ·cases h;exact ⟨Nat.lt_succ_self _,hlt,rfl⟩
   ·rename_i q' hq
    split at h
    ·cases h;exact ⟨Nat.lt_succ_self _,hlt,rfl⟩
    ·cases h;have:=ih _ hq;exact ⟨by omega,this.2⟩
  ·have:=ih _ h;exact ⟨by omega,this.2⟩
theorem best_some {zs:List Tm3}{cs:Bx}{al bg:Int}:∀ {i:Nat},(∃ k,k < i∧(cs.getD k default).1 < (cs.getD k default).2)->∃ q,bestF zs cs al bg i=some q
 | 0,⟨k,h,_⟩=>absurd h (Nat.not_lt_zero _)
 | i+1,⟨k,hk,hlt⟩=>by
  unfold bestF
  by_cases h:(cs.getD i default).1 < (cs.getD i default).2
  ·rw [if_pos h]
   cases bestF zs cs al bg i with
   | none=>exact ⟨_,rfl⟩
   | some q=>
    dsimp only
    split
    ·exact ⟨_,rfl⟩
    ·exact ⟨_,rfl⟩
  ·rw [if_neg h]
   have hki:k ≠ i:=fun e=>h (by rw [←e];exact hlt)
   exact best_some ⟨k,by omega,hlt⟩
def partK (cs:Bx) (q:Nat × Int × Int):Int:=if q.2.2 < (cs.getD q.1 default).2 then q.2.2 else if (cs.getD q.1 default).1 < q.2.1 then q.2.1 - 1 else (cs.getD q.1 default).1
theorem part_ok {zs:List Tm3}{cs:Bx}{al bg:Int}{i:Nat}{q:Nat × Int × Int}(hz:∀ j,j < i->(1:Int)≤(zs.getD j default).1) (ha:0≤al) (hb:0≤bg) (h:bestF zs cs al bg i=some q):(cs.getD q.1 default).1≤partK cs q∧partK cs q < (cs.getD q.1 default).2:=by
 obtain ⟨h1,h2,h3⟩:=best_ok h
 have ht:=hz q.1 h1
 have d1:=Int.ediv_nonneg ha (show 0≤(zs.getD q.1 default).1 by omega)
 have d2:=Int.ediv_nonneg hb (show 0≤(zs.getD q.1 default).1 by omega)
 have e1:q.2.1=(narF (zs.getD q.1 default).1 (cs.getD q.1 default) al bg).1:=by rw [←h3]
 have e2:q.2.2=(narF (zs.getD q.1 default).1 (cs.getD q.1 default) al bg).2:=by rw [←h3]
 unfold narF at e1 e2
 have e1':q.2.1=if (cs.getD q.1 default).1 < (cs.getD q.1 default).2 - bg / (zs.getD q.1 default).1 then (cs.getD q.1 default).2 - bg / (zs.getD q.1 default).1 else (cs.getD q.1 default).1:=e1
 have e2':q.2.2=if (cs.getD q.1 default).1+al / (zs.getD q.1 default).1 < (cs.getD q.1 default).2 then (cs.getD q.1 default).1+al / (zs.getD q.1 default).1 else (cs.getD q.1 default).2:=e2
 unfold partK
 rw [e1',e2']
 repeat' split
 all_goals omega
theorem sums_eq:∀ {zs:List Tm3}{cs:Bx},cs.length=zs.length->(∀ i:Nat,i < zs.length->(cs.getD i default).1=(cs.getD i default).2)->lsum zs cs=gsum zs cs
 | [],[],_,_=>rfl
 | [],_::_,h,_=>by simp at h
 | _::_,[],h,_=>by simp at h
 | z::zs,b::cs,h,he=>by
  have ih:=sums_eq (zs:=zs) (cs:=cs) (by simpa using h) fun i hi=>he (i+1) (by simpa using hi)
  obtain ⟨s1,s2⟩:=sums_cons z b zs cs
  have h0:b.1=b.2:=he 0 (by simp)
  rw [s1,s2,ih,h0]
theorem not_ended {zs:List Tm3}{cs:Bx}{g:Int}(h:ended zs cs g=false):lsum zs cs≤g∧g≤gsum zs cs:=by
 unfold ended endedB at h
 rw [Bool.or_eq_false_iff,Bool.or_eq_false_iff] at h
 have h1:=of_decide_eq_false h.1.1
 have h2:=of_decide_eq_false h.1.2
 omega
theorem open_wide {zs:List Tm3}{cs:Bx}{g:Int}(hc:CsOk zs cs) (h:ended zs cs g=false) (hn:naoL zs g cs=none):∃ k,k < zs.length∧(cs.getD k default).1 < (cs.getD k default).2:=by
 apply Classical.byContradiction
 intro hno
 obtain ⟨h1,h2⟩:=not_ended h
 have he:=sums_eq hc.len fun i hi=>by
  have:=(hc.at hi).2.1
  apply Classical.byContradiction
  intro hne
  exact hno ⟨i,hi,by omega⟩
 unfold naoL at hn
 rw [if_pos (by omega)] at hn
 cases hn
def partF (zs:List Tm3) (g:Int) (cs:Bx):Nat × Int:=match bestF zs cs (g - lsum zs cs) (gsum zs cs - g) zs.length with
 | none=>(0,0)
 | some q=>(q.1,partK cs q)
theorem partF_ok {zs:List Tm3}{g:Int}{cs:Bx}(hz:∀ z∈zs,(1:Int)≤z.1) (hc:CsOk zs cs) (h:ended zs cs g=false) (hn:naoL zs g cs=none):∃ q,bestF zs cs (g - lsum zs cs) (gsum zs cs - g) zs.length=some q∧partF zs g cs=(q.1,partK cs q)∧q.1 < zs.length∧(cs.getD q.1 default).1≤partK cs q∧partK cs q < (cs.getD q.1 default).2:=by
 obtain ⟨q,hq⟩:=best_some (zs:=zs) (al:=g - lsum zs cs) (bg:=gsum zs cs - g) (open_wide hc h hn)
 obtain ⟨h1,h2⟩:=not_ended h
 have hp:=part_ok (fun j hj=>by rw [List.getD_eq_getElem?_getD,List.getElem?_eq_getElem hj];exact hz _ (List.getElem_mem hj)) (by omega) (by omega) hq
 refine ⟨q,hq,?_,(best_ok hq).1,hp⟩
 unfold partF
 rw [hq]
def seaF (zs:List Tm3) (g:Int):Nat->List Bx->List (List V)->Option (List Int) × List (List V)
 | 0,_,p=>(none,p)
 | _+1,[],p=>(none,p)
 | n+1,c::st,p=>match endS zs c g with
  | some s=>seaF zs g n st (p++[s])
  | none=>match naoL zs g c with
   | some xs=>(some xs,p)
   | none=>seaF zs g n (loC c (partF zs g c).1 (partF zs g c).2::upC c (partF zs g c).1 (partF zs g c).2::st) (p++[[.str "part",.int ((partF zs g c).1:Int),.int (partF zs g c).2]])
def StepOk (zs:List Tm3) (g:Int) (c:Bx) (s:List V) (more:List Bx):Prop:=(s=[.str "low"]∧g < lsum zs c∧more=[])∨(s=[.str "high"]∧gsum zs c < g∧more=[])∨(∃ d:Int,s=[.str "rest",.int d]∧2≤d∧(∀ n∈restL zs c,d ∣ n)∧0 < (g - lsum zs c) % d∧more=[])∨∃ (k:Nat) (a:Int),s=[.str "part",.int (k:Int),.int a]∧k < zs.length∧(c.getD k default).1≤a∧a < (c.getD k default).2∧ended zs c g=false∧more=[loC c k a,upC c k a]
def Rep (zs:List Tm3) (g:Int):List Bx->List (List V)->List Bx->Prop
 | st,[],st'=>st=st'
 | [],_::_,_=>False
 | c::st,s::p,st'=>∃ more,StepOk zs g c s more∧CsOk zs c∧Rep zs g (more++st) p st'
theorem Rep.snoc {zs:List Tm3}{g:Int}{c:Bx}{s:List V}{more st1:List Bx}(hs:StepOk zs g c s more) (hc:CsOk zs c):∀ {p:List (List V)}{st:List Bx},Rep zs g st p (c::st1)->Rep zs g st (p++[s]) (more++st1)
 | [],st,h=>by
  have e:st=c::st1:=by cases st<;>exact h
  subst e
  exact ⟨more,hs,hc,by show Rep zs g (more++st1) [] (more++st1);cases more++st1<;>rfl⟩
 | _::_,[],h=>h.elim
 | _::_,_::_,⟨m,h1,h2,h3⟩=>⟨m,h1,h2,Rep.snoc hs hc h3⟩
theorem endS_step {zs:List Tm3}{g:Int}{c:Bx}{s:List V}(h:endS zs c g=some s):StepOk zs g c s []:=by
 unfold endS endB at h
 split at h
 ·rename_i h1;cases h;exact .inl ⟨rfl,h1,rfl⟩
 split at h
 ·rename_i h1;cases h;exact .inr (.inl ⟨rfl,h1,rfl⟩)
 split at h
 ·rename_i h1
  cases h
  have:=Int.emod_nonneg (g - lsum zs c) (show gcdL (restL zs c) ≠ 0 by omega)
  exact .inr (.inr (.inl ⟨_,rfl,by omega,(gcd_fold (restL zs c) 0).2,by omega,rfl⟩))
 ·cases h
def potL:List Bx->Int
 | []=>0
 | c::st=>2 * volL c - 1+potL st
structure StI (zs:List Tm3) (g:Int) (N:Nat) (F:Bx) (most:Int) (st:List Bx) (looked:Int) (pp:List (List V)):Prop where
 ok:∀ c∈st,CsOk zs c
 pot:looked+potL st≤most
 len:(pp.length:Int)=looked
 rep:Rep zs g [F] pp st
 out:∃ n:Nat,potL st < n∧seaF zs g n st pp=seaF zs g N [F] []
theorem pot_nn {zs:List Tm3}:∀ {st:List Bx},(∀ c∈st,CsOk zs c)->0≤potL st∧(st.length:Int)≤potL st
 | [],_=>⟨Int.le_refl _,Int.le_refl _⟩
 | c::st,h=>by
  have ih:=pot_nn (st:=st) fun d hd=>h d (List.mem_cons_of_mem _ hd)
  have:=vol_one (h c List.mem_cons_self).bx
  show 0≤2 * volL c - 1+potL st∧((st.length+1:Nat):Int)≤2 * volL c - 1+potL st
  omega
theorem StI.step {zs:List Tm3}{g:Int}{N:Nat}{F c:Bx}{most looked:Int}{st:List Bx}{pp:List (List V)}(hz:∀ z∈zs,(1:Int)≤z.1) (h:StI zs g N F most (c::st) looked pp):looked < most∧CsOk zs c∧(∀ s,endS zs c g=some s->StI zs g N F most st (looked+1) (pp++[s]))∧(endS zs c g=none->(∀ xs,naoL zs g c=some xs->seaF zs g N [F] []=(some xs,pp)∧InB c xs∧valL zs xs=g)∧(naoL zs g c=none->∃ q,bestF zs c (g - lsum zs c) (gsum zs c - g) zs.length=some q∧q.1 < zs.length∧StI zs g N F most (loC c q.1 (partK c q)::upC c q.1 (partK c q)::st) (looked+1) (pp++[[.str "part",.int (q.1:Int),.int (partK c q)]]))):=by
 have hc:=h.ok c List.mem_cons_self
 have hst:∀ d∈st,CsOk zs d:=fun d hd=>h.ok d (List.mem_cons_of_mem _ hd)
 have hv:=vol_one hc.bx
 have hp:=h.pot
 have hn:=pot_nn hst
 have hlen:=h.len
 obtain ⟨n,hn1,hn2⟩:=h.out
 have ep:potL (c::st)=2 * volL c - 1+potL st:=rfl
 rw [ep] at hp hn1
 have hz0:∀ z∈zs,(0:Int)≤z.1:=fun z hm=>by have:=hz z hm;omega
 obtain ⟨m,rfl⟩:∃ m,n=m+1:=⟨n - 1,by omega⟩
 have lsn:∀ s:List V,((pp++[s]).length:Int)=looked+1:=fun s=>by rw [List.length_append,List.length_singleton];omega
 refine ⟨by omega,hc,fun s he=>?_,fun he=>⟨fun xs hx=>?_,fun hno=>?_⟩⟩
 ·refine ⟨hst,by omega,lsn s,Rep.snoc (endS_step he) hc h.rep,m,by omega,?_⟩
  rw [←hn2]
  show _=(match endS zs c g with|some s=>_|none=>_)
  rw [he]
 ·refine ⟨?_,nao_ok hc hx⟩
  rw [←hn2]
  show (match endS zs c g with|some s=>_|none=>_)=_
  rw [he]
  show (match naoL zs g c with|some xs=>_|none=>_)=_
  rw [hx]
 ·have he':ended zs c g=false:=ended_of he
  obtain ⟨q,hq,hpf,hk,a1,a2⟩:=partF_ok hz hc he' hno
  obtain ⟨o1,o2⟩:=hc.part hk a1 a2
  have hpv:=part_vol (cs:=c) (k:=q.1) (a:=partK c q) (by rw [hc.len];exact hk)
  have ep2:potL (loC c q.1 (partK c q)::upC c q.1 (partK c q)::st)=2 * volL (loC c q.1 (partK c q)) - 1+(2 * volL (upC c q.1 (partK c q)) - 1+potL st):=rfl
  refine ⟨q,hq,hk,fun d hd=>?_,by rw [ep2];omega,lsn _,Rep.snoc (more:=[loC c q.1 (partK c q),upC c q.1 (partK c q)]) (.inr (.inr (.inr ⟨q.1,partK c q,rfl,hk,a1,a2,he',rfl⟩))) hc h.rep,m,by rw [ep2];omega,?_⟩
  ·rcases List.mem_cons.mp hd with rfl|hd
   ·exact o2
   ·rcases List.mem_cons.mp hd with rfl|hd
    ·exact o1
    ·exact hst d hd
  ·rw [←hn2]
   show _=(match endS zs c g with|some s=>_|none=>_)
   rw [he]
   show _=(match naoL zs g c with|some xs=>_|none=>_)
   rw [hno,hpf]
theorem StI.done {zs:List Tm3}{g:Int}{N:Nat}{F:Bx}{most looked:Int}{pp:List (List V)}(h:StI zs g N F most [] looked pp):seaF zs g N [F] []=(none,pp)∧Rep zs g [F] pp []∧(pp.length:Int)≤most:=by
 obtain ⟨n,hn1,hn2⟩:=h.out
 have h1:=h.pot
 have h2:=h.len
 have e:potL []=0:=rfl
 rw [e] at hn1 h1
 obtain ⟨m,rfl⟩:∃ m,n=m+1:=⟨n - 1,by omega⟩
 exact ⟨hn2.symm,h.rep,by omega⟩
def sumAt:List (Int × Int)->Int->Int
 | [],_=>0
 | z::l,t=>(if z.1=t then z.2 else 0)+sumAt l t
def dotP (l:List (Int × Int)):Int:=(l.map fun z=>z.1 * z.2).sum
def keyS (ks:List Int) (f:Int->Int):Int:=(ks.map fun t=>t * f t).sum
theorem keyS_cons (k:Int) (ks:List Int) (f:Int->Int):keyS (k::ks) f=k * f k+keyS ks f:=by unfold keyS;rw [List.map_cons,List.sum_cons]
theorem keyS_zero:∀ {ks:List Int}{f:Int->Int},(∀ t∈ks,f t=0)->keyS ks f=0
 | [],_,_=>rfl
 | k::ks,f,h=>by rw [keyS_cons,h k List.mem_cons_self,keyS_zero fun t ht=>h t (List.mem_cons_of_mem _ ht)];omega
theorem keyS_add:∀ (ks:List Int) (f g:Int->Int),keyS ks (fun t=>f t+g t)=keyS ks f+keyS ks g
 | [],_,_=>rfl
 | k::ks,f,g=>by rw [keyS_cons,keyS_cons,keyS_cons,keyS_add ks f g,Int.mul_add];omega
theorem keyS_congr:∀ {ks:List Int}{f g:Int->Int},(∀ t∈ks,f t=g t)->keyS ks f=keyS ks g
 | [],_,_,_=>rfl
 | k::ks,f,g,h=>by rw [keyS_cons,keyS_cons,h k List.mem_cons_self,keyS_congr fun t ht=>h t (List.mem_cons_of_mem _ ht)]
theorem keyS_one:∀ {ks:List Int}{a c:Int},ks.Nodup->(a=0∨a∈ks)->keyS ks (fun t=>if a=t then c else 0)=a * c
 | [],a,c,_,h=>by
  rcases h with rfl|h
  ·rw [Int.zero_mul];rfl
  ·cases h
 | k::ks,a,c,hn,h=>by
  rw [keyS_cons]
  obtain ⟨hk,hn'⟩:=List.nodup_cons.mp hn
  by_cases e:a=k
  ·subst e
   rw [if_pos rfl,keyS_zero fun t ht=>if_neg fun e=>hk (by rw [e];exact ht)]
   omega
  ·rw [if_neg e,keyS_one hn' (h.imp id fun hm=>(List.mem_cons.mp hm).resolve_left e),Int.mul_zero]
   omega
theorem swapS {ks:List Int}(hn:ks.Nodup):∀ {l:List (Int × Int)},(∀ z∈l,z.1=0∨z.1∈ks)->keyS ks (sumAt l)=dotP l
 | [],_=>keyS_zero fun _ _=>rfl
 | z::l,h=>by
  have ih:=swapS hn (l:=l) fun y hy=>h y (List.mem_cons_of_mem _ hy)
  have e:sumAt (z::l)=fun t=>(if z.1=t then z.2 else 0)+sumAt l t:=rfl
  rw [e,keyS_add,keyS_one hn (h z List.mem_cons_self),ih]
  unfold dotP
  rw [List.map_cons,List.sum_cons]
def absI (p:Int):Int:=(p.natAbs:Int)
def loP (z:Int × Int):Int:=if 0 < z.1 then 0 else 1 - z.2
def hiP (z:Int × Int):Int:=if 0 < z.1 then z.2 - 1 else 0
def lowF (P:List (Int × Int)):Int->Int:=sumAt (P.map fun z=>(absI z.1,loP z))
def highF (P:List (Int × Int)):Int->Int:=sumAt (P.map fun z=>(absI z.1,hiP z))
def capF (P:List (Int × Int)):Int->Int:=sumAt (P.map fun z=>(absI z.1,z.2 - 1))
theorem high_low:∀ (P:List (Int × Int)) (t:Int),highF P t - lowF P t=capF P t
 | [],_=>rfl
 | z::P,t=>by
  have ih:=high_low P t
  unfold highF lowF capF at ih ⊢
  rw [List.map_cons,List.map_cons,List.map_cons]
  show (if absI z.1=t then hiP z else 0)+_ - ((if absI z.1=t then loP z else 0)+_)=(if absI z.1=t then z.2 - 1 else 0)+_
  by_cases e:absI z.1=t
  ·rw [if_pos e,if_pos e,if_pos e]
   have e1:loP z=(if 0 < z.1 then 0 else 1 - z.2):=rfl
   have e2:hiP z=(if 0 < z.1 then z.2 - 1 else 0):=rfl
   rw [e1,e2]
   split<;>omega
  ·rw [if_neg e,if_neg e,if_neg e];omega
def dotQ:List (Int × Int)->List Int->Int
 | z::P,y::ys=>z.1 * y+dotQ P ys
 | _,_=>0
def InP:List (Int × Int)->List Int->Prop
 | [],[]=>True
 | z::P,y::ys=>(0≤y∧y < z.2)∧InP P ys
 | _,_=>False
def takeL:List (Int × Int)->List Int->List (Int × Int)
 | z::P,y::ys=>(absI z.1,if 0 < z.1 then y else 0 - y)::takeL P ys
 | _,_=>[]
def termsF (ks:List Int) (P:List (Int × Int)):List Tm3:=ks.map fun t=>(t,lowF P t,highF P t)
def tkF (z:Int × Int) (L:Int->Int):Int:=if L (absI z.1) < z.2 - 1 then L (absI z.1) else z.2 - 1
def updF (L:Int->Int) (a v:Int):Int->Int:=fun t=>if t=a then v else L t
def fillF:(Int->Int)->List (Int × Int)->List Int
 | _,[]=>[]
 | L,z::P=>(if 0≤z.1 then tkF z L else z.2 - 1 - tkF z L)::fillF (updF L (absI z.1) (L (absI z.1) - tkF z L)) P
theorem cap_cons (z:Int × Int) (P:List (Int × Int)) (t:Int):capF (z::P) t=(if absI z.1=t then z.2 - 1 else 0)+capF P t:=rfl
theorem cap_nn:∀ {P:List (Int × Int)},(∀ z∈P,(1:Int)≤z.2)->∀ t,0≤capF P t
 | [],_,_=>Int.le_refl _
 | z::P,h,t=>by
  have ih:=cap_nn (P:=P) (fun y hy=>h y (List.mem_cons_of_mem _ hy)) t
  have:=h z List.mem_cons_self
  rw [cap_cons]
  split<;>omega
theorem fill_step {z:Int × Int}{P:List (Int × Int)}{L:Int->Int}(h1:1≤z.2) (hP:∀ y∈P,(1:Int)≤y.2) (h:∀ t,0≤L t∧L t≤capF (z::P) t):(0≤tkF z L∧tkF z L≤z.2 - 1)∧∀ t,0≤updF L (absI z.1) (L (absI z.1) - tkF z L) t∧updF L (absI z.1) (L (absI z.1) - tkF z L) t≤capF P t:=by
 have ha:=h (absI z.1)
 rw [cap_cons,if_pos rfl] at ha
 have hc:=cap_nn hP (absI z.1)
 refine ⟨by unfold tkF;split<;>omega,fun t=>?_⟩
 unfold updF
 by_cases e:t=absI z.1
 ·rw [if_pos e,e]
  unfold tkF
  split<;>omega
 ·rw [if_neg e]
  have:=h t
  rw [cap_cons,if_neg (fun q=>e q.symm)] at this
  omega
theorem fill_in:∀ {P:List (Int × Int)}{L:Int->Int},(∀ y∈P,(1:Int)≤y.2)->(∀ t,0≤L t∧L t≤capF P t)->InP P (fillF L P)
 | [],_,_,_=>trivial
 | z::P,L,h1,h=>by
  have hP:∀ y∈P,(1:Int)≤y.2:=fun y hy=>h1 y (List.mem_cons_of_mem _ hy)
  obtain ⟨a,b⟩:=fill_step (h1 z List.mem_cons_self) hP h
  refine ⟨?_,fill_in hP b⟩
  show 0≤(if 0≤z.1 then tkF z L else z.2 - 1 - tkF z L)∧(if 0≤z.1 then tkF z L else z.2 - 1 - tkF z L) < z.2
  split<;>omega
theorem fill_dot {ks:List Int}(hn:ks.Nodup):∀ {P:List (Int × Int)}{L:Int->Int},(∀ y∈P,(1:Int)≤y.2)->(∀ z∈P,absI z.1=0∨absI z.1∈ks)->(∀ t,0≤L t∧L t≤capF P t)->dotQ P (fillF L P)=dotP (P.map fun z=>(absI z.1,loP z))+keyS ks L
 | [],L,_,_,h=>by
  rw [keyS_zero fun t _=>by have:=h t;have e:capF [] t=0:=rfl;omega]
  rfl
 | z::P,L,h1,hk,h=>by
  have hP:∀ y∈P,(1:Int)≤y.2:=fun y hy=>h1 y (List.mem_cons_of_mem _ hy)
  obtain ⟨a,b⟩:=fill_step (h1 z List.mem_cons_self) hP h
  have ih:=fill_dot hn hP (fun y hy=>hk y (List.mem_cons_of_mem _ hy)) b
  have hL:L=fun t=>updF L (absI z.1) (L (absI z.1) - tkF z L) t+(if absI z.1=t then tkF z L else 0):=funext fun t=>by
   unfold updF
   by_cases e:t=absI z.1
   ·rw [if_pos e,if_pos e.symm,e];omega
   ·rw [if_neg e,if_neg (fun q=>e q.symm)];omega
  have hkS:keyS ks L=keyS ks (updF L (absI z.1) (L (absI z.1) - tkF z L))+absI z.1 * tkF z L:=by
   conv=>lhs;rw [hL]
   rw [keyS_add,keyS_one hn (hk z List.mem_cons_self)]
  show z.1 * (if 0≤z.1 then tkF z L else z.2 - 1 - tkF z L)+dotQ P (fillF (updF L (absI z.1) (L (absI z.1) - tkF z L)) P)=dotP ((absI z.1,loP z)::P.map fun z=>(absI z.1,loP z))+keyS ks L
  rw [ih,hkS]
  unfold dotP
  rw [List.map_cons,List.sum_cons]
  have key:z.1 * (if 0≤z.1 then tkF z L else z.2 - 1 - tkF z L)=absI z.1 * loP z+absI z.1 * tkF z L:=by
   have e1:loP z=(if 0 < z.1 then 0 else 1 - z.2):=rfl
   rw [e1]
   unfold absI
   rcases Int.lt_trichotomy z.1 0 with h|h|h
   ·rw [if_neg (by omega),if_neg (by omega),show ((z.1.natAbs:Nat):Int)=-z.1 by omega,←Int.mul_add,show 1 - z.2+tkF z L=-(z.2 - 1 - tkF z L) by omega,Int.neg_mul_neg]
   ·rw [h];simp
   ·rw [if_pos (by omega),if_pos h,show ((z.1.natAbs:Nat):Int)=z.1 by omega,Int.mul_zero,Int.zero_add]
  rw [key]
  dsimp only
  omega
def leftF:List Tm3->List Int->Int->Int
 | z::zs,x::xs=>fun t=>if z.1=t then x - z.2.1 else leftF zs xs t
 | _,_=>fun _=>0
theorem left_bounds {P:List (Int × Int)}(hc:∀ t,0≤capF P t):∀ {ks:List Int}{xs:List Int},InB ((termsF ks P).map fun z=>z.2) xs->∀ t,0≤leftF (termsF ks P) xs t∧leftF (termsF ks P) xs t≤capF P t
 | [],[],_,t=>⟨Int.le_refl _,hc t⟩
 | [],_::_,h,_=>h.elim
 | _::_,[],h,_=>h.elim
 | k::ks,x::xs,h,t=>by
  show 0≤(if k=t then x - lowF P k else leftF (termsF ks P) xs t)∧(if k=t then x - lowF P k else leftF (termsF ks P) xs t)≤capF P t
  by_cases e:k=t
  ·rw [if_pos e]
   have h1:lowF P k≤x∧x≤highF P k:=h.1
   have:=high_low P k
   rw [←e]
   omega
  ·rw [if_neg e]
   exact left_bounds hc h.2 t
theorem left_key {P:List (Int × Int)}:∀ {ks:List Int}{xs:List Int},ks.Nodup->InB ((termsF ks P).map fun z=>z.2) xs->keyS ks (leftF (termsF ks P) xs)=valL (termsF ks P) xs - keyS ks (lowF P)
 | [],[],_,_=>rfl
 | [],_::_,_,h=>h.elim
 | _::_,[],_,h=>h.elim
 | k::ks,x::xs,hn,h=>by
  obtain ⟨hk,hn'⟩:=List.nodup_cons.mp hn
  have ih:=left_key hn' h.2
  rw [keyS_cons,keyS_cons]
  have e1:leftF (termsF (k::ks) P) (x::xs) k=x - lowF P k:=by
   show (if k=k then x - lowF P k else leftF (termsF ks P) xs k)=_
   rw [if_pos rfl]
  have e2:keyS ks (leftF (termsF (k::ks) P) (x::xs))=keyS ks (leftF (termsF ks P) xs):=keyS_congr fun t ht=>by
   show (if k=t then x - lowF P k else leftF (termsF ks P) xs t)=_
   rw [if_neg fun e=>hk (by rw [e];exact ht)]
  rw [e1,e2,ih]
  show _=k * x+valL (termsF ks P) xs - _
  rw [Int.mul_sub]
  omega
theorem meet {ks:List Int}{P:List (Int × Int)}{xs:List Int}(hn:ks.Nodup) (h1:∀ y∈P,(1:Int)≤y.2) (hk:∀ z∈P,absI z.1=0∨absI z.1∈ks) (hx:InB ((termsF ks P).map fun z=>z.2) xs):InP P (fillF (leftF (termsF ks P) xs) P)∧dotQ P (fillF (leftF (termsF ks P) xs) P)=valL (termsF ks P) xs:=by
 have hb:=left_bounds (cap_nn h1) hx
 refine ⟨fill_in h1 hb,?_⟩
 rw [fill_dot hn h1 hk hb,left_key hn hx]
 have:keyS ks (lowF P)=dotP (P.map fun z=>(absI z.1,loP z)):=swapS hn fun z hz=>by
  obtain ⟨y,hy,rfl⟩:=List.mem_map.mp hz
  exact hk y hy
 omega
def prodF (ks:List Int) (f:Int->Int):Int:=ks.foldr (fun t r=>(1+f t) * r) 1
theorem prodF_pos {f:Int->Int}(h:∀ t,0≤f t):∀ ks:List Int,1≤prodF ks f
 | []=>Int.le_refl _
 | k::ks=>by
  have ih:=prodF_pos h ks
  have:=h k
  have m:=Int.mul_le_mul (show (1:Int)≤1+f k by omega) ih (by decide) (by omega)
  show 1≤(1+f k) * prodF ks f
  omega
theorem prodF_same {f g:Int->Int}:∀ {ks:List Int},(∀ t∈ks,f t=g t)->prodF ks f=prodF ks g
 | [],_=>rfl
 | k::ks,h=>by
  show (1+f k) * prodF ks f=(1+g k) * prodF ks g
  rw [h k List.mem_cons_self,prodF_same fun t ht=>h t (List.mem_cons_of_mem _ ht)]
theorem prodF_step {f:Int->Int}{a d:Int}(hf:∀ t,0≤f t) (hd:0≤d):∀ {ks:List Int},ks.Nodup->prodF ks (fun t=>(if a=t then d else 0)+f t)≤(1+d) * prodF ks f
 | [],_=>by show 1≤(1+d) * 1;omega
 | k::ks,hn=>by
  obtain ⟨hk,hn'⟩:=List.nodup_cons.mp hn
  have hp:=prodF_pos hf ks
  have h0:=hf k
  show (1+((if a=k then d else 0)+f k)) * prodF ks (fun t=>(if a=t then d else 0)+f t)≤(1+d) * ((1+f k) * prodF ks f)
  by_cases e:a=k
  ·subst e
   rw [if_pos rfl,prodF_same (g:=f) fun t ht=>by rw [if_neg fun e=>hk (by rw [e];exact ht),Int.zero_add],←Int.mul_assoc]
   refine Int.mul_le_mul_of_nonneg_right ?_ (by omega)
   have:=Int.mul_nonneg hd h0
   rw [Int.add_mul,Int.one_mul,Int.mul_add,Int.mul_one]
   omega
  ·rw [if_neg e,Int.zero_add]
   have ih:=prodF_step (a:=a) hf hd hn'
   have:=Int.mul_le_mul_of_nonneg_left ih (show 0≤1+f k by omega)
   rw [←Int.mul_assoc,Int.mul_comm (1+f k) (1+d),Int.mul_assoc] at this
   exact this
theorem prodF_le {ks:List Int}(hn:ks.Nodup):∀ {P:List (Int × Int)},(∀ y∈P,(1:Int)≤y.2)->prodF ks (capF P)≤(P.foldr (fun z r=>z.2 * r) 1)
 | [],_=>by
  have:∀ ks:List Int,prodF ks (capF [])=1:=fun ks=>by
   induction ks with
   | nil=>rfl
   | cons k ks ih=>show (1+0) * prodF ks (capF [])=1;rw [ih];rfl
  rw [this]
  exact Int.le_refl _
 | z::P,h=>by
  have hP:∀ y∈P,(1:Int)≤y.2:=fun y hy=>h y (List.mem_cons_of_mem _ hy)
  have ih:=prodF_le hn hP
  have hz:=h z List.mem_cons_self
  have e:capF (z::P)=fun t=>(if absI z.1=t then z.2 - 1 else 0)+capF P t:=rfl
  have st:=prodF_step (a:=absI z.1) (d:=z.2 - 1) (cap_nn hP) (by omega) hn
  rw [e]
  have m:=Int.mul_le_mul_of_nonneg_left ih (show 0≤z.2 by omega)
  rw [show 1+(z.2 - 1)=z.2 by omega] at st
  exact Int.le_trans st m
theorem vol_terms (P:List (Int × Int)):∀ ks:List Int,volL ((termsF ks P).map fun z=>z.2)=prodF ks (capF P)
 | []=>rfl
 | k::ks=>by
  show (highF P k - lowF P k+1) * volL ((termsF ks P).map fun z=>z.2)=(1+capF P k) * prodF ks (capF P)
  rw [vol_terms P ks,high_low,Int.add_comm]
def pullL (A B:List (Int × Int)):List (Int × Int):=(A.map fun a=>(a.2,a.1))++B.map fun a=>(-a.2,a.1)
theorem use_cat {l b:Addr}{xs ys:List V}{H:Hp}{Q:VK}(h:H l=some (.lst xs)) (h':H b=some (.lst ys)) (hl:xs.length+ys.length≤sizeLine) (q:newK (.lst (xs++ys)) H Q):kOp' nCat (.ref l) Q (.ref b) H:=by
 rw [m_kOp',m_nCat,lstAt,h]
 show optK (lstAt H b) (kNC2 xs H Q)
 rw [lstAt,h']
 exact ⟨hl,q⟩
theorem al_app' {α:Type}{R:α->V->Prop}{as bs:List α}{xs ys:List V}(h1:Al R as xs) (h2:Al R bs ys):Al R (as++bs) (xs++ys):=by
 refine ⟨by rw [List.length_append,List.length_append,h1.1,h2.1],fun i z y hz hy=>?_⟩
 by_cases hi:i < as.length
 ·rw [List.getElem?_append_left hi] at hz
  rw [List.getElem?_append_left (by rw [h1.1];exact hi)] at hy
  exact h1.2 i z y hz hy
 ·rw [List.getElem?_append_right (by omega)] at hz
  rw [List.getElem?_append_right (by rw [h1.1];omega),h1.1] at hy
  exact h2.2 _ z y hz hy
theorem al_mapR {α β:Type}{R:β->V->Prop}{f:α->β}{as:List α}{ys:List V}(h:Al (fun a y=>R (f a) y) as ys):Al R (as.map f) ys:=by
 refine ⟨by rw [List.length_map];exact h.1,fun i z y hz hy=>?_⟩
 rw [List.getElem?_map] at hz
 obtain ⟨a,ha,rfl⟩:=Option.map_eq_some_iff.mp hz
 exact h.2 i a y ha hy
abbrev B_spPulls (C:Addr) (u:Addr) (v:Addr) (H:Hp) (Q:VK) (E:XK):Prop:=∃ (r1 r2 f1 f2:Int) (A B:List (Int × Int)),ViewAt C H u r1 f1 A∧ViewAt C H v r2 f2 B∧A.length≤8∧B.length≤8∧∀ (r:Addr) (H':Hp),H r=none->Ext H H'->PrAt H' r (pullL A B)->Q (.ref r) H'
def spPulls (C:Addr):Sp:=fun vs H Q E=>∃ (u:Addr) (v:Addr),vs=[.ref u,.ref v]∧(B_spPulls C u v H Q E)
theorem c_spPulls (C:Addr) (u:Addr) (v:Addr) (H:Hp) (Q:VK) (E:XK):spPulls C [.ref u,.ref v] H Q E=(B_spPulls C u v H Q E):=spx2 (f:=fun (u:Addr) (v:Addr)=>[.ref u,.ref v]) (fun _ _ _ _ h=>by cases h;exact ⟨rfl,rfl⟩) u v
theorem l_spPulls (C:Addr){vs:List V}{H:Hp}{Q:VK}{E:XK}(h:spPulls C vs H Q E):vs.length=2:=spl2 h fun _ _=>rfl
theorem ok_pulls (T:Tx K mg t):FnOk P w K mg base CX0 1 t.a_pulls t.d_pulls ["one", "other"] (spPulls t.a_View):=by
 refine T.F_pulls.ok c_pulls (fun vs H Q E h=>l_spPulls _ h) (fun cdv A outer s H vs Q E hr h=>?_)
 ·obtain ⟨u,v,rfl,r1,r2,f1,f2,A,B,vu,vv,hA,hB,k⟩:=h
  obtain ⟨dx,l,hu,ys,hl,al⟩:=vu.ob
  obtain ⟨dy,l2,hv,ys2,hl2,al2⟩:=vv.ob
  have c1:=T.cl_View
  have c3:=T.na_View_axes
  have g1:=viewF_axes r1 f1 l
  have g2:=viewF_axes r2 f2 l2
  refine ⟨_,(@pss_one _ _ _ (@ps_ret _ _ _ _ (@pe_op _ _ _ _ _ _ _ _ op_nCat (@pe_comp _ _ _ _ _ _ _ _ _ _ _ (["size", "pace", "one", "other"]) (2) (comp_ok (defScope s_pulls) ["one", "other"] rfl rfl (by decide +kernel)) rfl (@pi_seq _ _ _ _ (@pe_nFld _ _ _ _ _ (@pvN _ 0 _ _ (by rfl) (by trivial) (by decide) (by decide)) rfl)) (fun C s₀ H₀ ex pn=>((@pg_tup _ _ _ _ _ (2) rfl (@pgs_consN _ _ _ _ _ (@pg_name _ _ (0) _ (show List.Nodup (["size", "pace", "one", "other"]:List Str) from by decide +kernel) rfl (Or.inl rfl) (by trivial)) (@pgs_consN _ _ _ _ _ (@pg_name _ _ (1) _ (show List.Nodup (["size", "pace", "one", "other"]:List Str) from by decide +kernel) rfl (Or.inl rfl) (by trivial)) (@pgs_nilN _) (by rfl)) (by rfl)) (by rfl) (by rfl)).mono fun _ _ _ _ h=>gTup_q h)) (fun C s₀ H₀ ex pn=>(@pts_nil _)) (fun C s₀ H₀ ex pn=>(@pe_qTup _ _ _ _ _ (@pa_c _ _ _ _ _ (@pvN _ 1 _ _ (by rfl) (by trivial) (by decide) (by decide)) (@pa_c _ _ _ _ _ (@pvN _ 0 _ _ (by rfl) (by trivial) (by decide) (by decide)) (@pa_nil _) (by rfl)) (by rfl)))) (by intros;rfl)) (@pe_comp _ _ _ _ _ _ _ _ _ _ _ (["size", "pace", "one", "other"]) (2) (comp_ok (defScope s_pulls) ["one", "other"] rfl rfl (by decide +kernel)) rfl (@pi_seq _ _ _ _ (@pe_nFld _ _ _ _ _ (@pvN _ 1 _ _ (by rfl) (by trivial) (by decide) (by decide)) rfl)) (fun C s₀ H₀ ex pn=>((@pg_tup _ _ _ _ _ (2) rfl (@pgs_consN _ _ _ _ _ (@pg_name _ _ (0) _ (show List.Nodup (["size", "pace", "one", "other"]:List Str) from by decide +kernel) rfl (Or.inl rfl) (by trivial)) (@pgs_consN _ _ _ _ _ (@pg_name _ _ (1) _ (show List.Nodup (["size", "pace", "one", "other"]:List Str) from by decide +kernel) rfl (Or.inl rfl) (by trivial)) (@pgs_nilN _) (by rfl)) (by rfl)) (by rfl) (by rfl)).mono fun _ _ _ _ h=>gTup_q h)) (fun C s₀ H₀ ex pn=>(@pts_nil _)) (fun C s₀ H₀ ex pn=>(@pe_qTup _ _ _ _ _ (@pa_c _ _ _ _ _ (@pe_un _ _ _ _ _ _ un_negN (@pvN _ 1 _ _ (by rfl) (by trivial) (by decide) (by decide))) (@pa_c _ _ _ _ _ (@pvN _ 0 _ _ (by rfl) (by trivial) (by decide) (by decide)) (@pa_nil _) (by rfl)) (by rfl)))) (by intros;rfl))))),?_⟩
  rw [show start ["one", "other"] [.ref u,.ref v]=[some (.ref u),some (.ref v)] from rfl]
  replace k:=fun (_:Unit)=>k
  simp! only [and_true]
  have wk:=wk_al (K:=K) (R:=axP) (fun _ _ _ _ h e=>h.ext e) hl (al_axP al)
  refine comp_rel2 A (fun _=>true) axP (fun D a y H'=>axP (a.2,a.1) y H') wk.1 wk.2 (fun D a y H1 H2 h e=>axP.ext (a:=(a.2,a.1)) h e) (fun D a y H1 xs o h hD=>axP.upd (z:=(a.2,a.1)) h hD) (len5000 (by omega)) ?_ ?_
  ·intro D a x H' N1 N0 ha hD e _ ⟨q,hx,hq⟩ k1 _
   subst hx
   have k1':=k1 rfl
   clear k1 k wk
   simp! only [↓m_kCm_2,↓m_kCm2]
   intro t1 H6 ht1 e6 h6
   exact k1' _ H6 e6 ⟨t1,rfl,h6⟩
  intro D xs1 H1 hD e1 h1 al1
  rw [filt] at al1
  have hv1:=e1.at hv
  have hl21:=e1.at hl2
  replace al1:=fun (_:Unit)=>al1
  clear wk
  have wk:=wk_al (K:=K) (R:=axP) (fun _ _ _ _ h e=>h.ext e) hl21 ((al_axP al2).imp fun _ _ t=>axP.ext t e1)
  simp! only [and_true]
  refine comp_rel2 B (fun _=>true) axP (fun D a y H'=>axP (-a.2,a.1) y H') wk.1 wk.2 (fun D a y H1 H2 h e=>axP.ext (a:=(-a.2,a.1)) h e) (fun D a y H1 xs o h hD=>axP.upd (z:=(-a.2,a.1)) h hD) (len5000 (by omega)) ?_ ?_
  ·intro D a x H' N1 N0 ha hD e _ ⟨q,hx,hq⟩ k1 _
   subst hx
   have k1':=k1 rfl
   clear k1 k wk
   simp! only [↓m_kCm_2,↓m_kCm2]
   intro t1 H6 ht1 e6 h6
   exact k1' _ H6 e6 ⟨t1,rfl,h6⟩
  intro D2 xs2 H2 hD2 e2 h2 al2'
  rw [filt] at al2'
  have h1_2:=e2.at h1
  have n1:xs1.length=A.length:=(al1 ()).1
  have n2:xs2.length=B.length:=al2'.1
  have fin:Al (fun z y=>axP z y H2) (pullL A B) (xs1++xs2):=al_app' (al_mapR ((al1 ()).imp fun _ _ t=>axP.ext t e2)) (al_mapR al2')
  replace fin:=fun (_:Unit)=>fin
  clear wk al1 al2' hv1 hl21
  refine use_cat h1_2 h2 (len5000 (by omega)) ?_
  intro D3 H3 hD3 e3 h3
  exact k () D3 H3 ((e1.trans e2).free hD3) (e1.trans (e2.trans e3)) ⟨_,h3,(fin ()).imp fun _ _ t=>axP.ext t e3⟩
abbrev B_spRooms (C:Addr) (u:Addr) (v:Addr) (H:Hp) (Q:VK) (E:XK):Prop:=∃ (room f1 f2:Int) (A B:List (Int × Int)),ViewAt C H u room f1 A∧ViewAt C H v room f2 B∧Q .non H
def spRooms (C:Addr):Sp:=fun vs H Q E=>∃ (u:Addr) (v:Addr),vs=[.ref u,.ref v]∧(B_spRooms C u v H Q E)
theorem c_spRooms (C:Addr) (u:Addr) (v:Addr) (H:Hp) (Q:VK) (E:XK):spRooms C [.ref u,.ref v] H Q E=(B_spRooms C u v H Q E):=spx2 (f:=fun (u:Addr) (v:Addr)=>[.ref u,.ref v]) (fun _ _ _ _ h=>by cases h;exact ⟨rfl,rfl⟩) u v
theorem l_spRooms (C:Addr){vs:List V}{H:Hp}{Q:VK}{E:XK}(h:spRooms C vs H Q E):vs.length=2:=spl2 h fun _ _=>rfl
theorem ok_refuse_rooms (T:Tx K mg t):FnOk P w K mg base CX0 1 t.a_refuse_rooms t.d_refuse_rooms ["one", "other"] (spRooms t.a_View):=by
 refine T.F_refuse_rooms.ok c_refuse_rooms (fun vs H Q E h=>l_spRooms _ h) (fun cdv A outer s H vs Q E hr h=>?_)
 ·obtain ⟨u,v,rfl,room,f1,f2,A,B,vu,vv,k⟩:=h
  obtain ⟨dx,D,hu,_⟩:=vu.ob
  obtain ⟨dy,D2,hv,_⟩:=vv.ob
  have c1:=T.cl_View
  have c4:=T.na_View_room
  have g1:=viewF_room room f1 D
  have g2:=viewF_room room f2 D2
  refine ⟨_,(@pss_one _ _ _ (@ps_if _ _ _ _ _ _ _ _ (@pt_cmpRN _ _ _ _ _ _ _ _ (op_qNe hr.units) (@pe_nFld _ _ _ _ _ (@pvN _ 0 _ _ (by rfl) (by trivial) (by decide) (by decide)) rfl) (@pe_nFld _ _ _ _ _ (@pvN _ 1 _ _ (by rfl) (by trivial) (by decide) (by decide)) rfl) (nomark _)) (@pss_one _ _ _ (@ps_never _ _)) (@pss_nil _))),?_⟩
  rw [show start ["one", "other"] [.ref u,.ref v]=[some (.ref u),some (.ref v)] from rfl]
  simp! only [and_true]
theorem putK_keys {kvs:List (Key × V)}{k:Key}(v:V){x:V}(h:valV kvs k=some x):(putK kvs k v).map (·.1)=kvs.map (·.1):=by
 unfold putK
 rw [valV_any,h,Option.isSome_some,if_pos rfl,List.map_map]
 refine List.map_congr_left fun p _=>?_
 show (if p.1=k then (p.1,v) else p).1=p.1
 split<;>rfl
theorem sumAt_snoc:∀ (l:List (Int × Int)) (z:Int × Int) (t:Int),sumAt (l++[z]) t=sumAt l t+(if z.1=t then z.2 else 0)
 | [],z,t=>by show (if z.1=t then z.2 else 0)+0=0+_;omega
 | y::l,z,t=>by
  show (if y.1=t then y.2 else 0)+sumAt (l++[z]) t=(if y.1=t then y.2 else 0)+sumAt l t+_
  rw [sumAt_snoc l z t];omega
theorem low_snoc (P:List (Int × Int)) (z:Int × Int) (t:Int):lowF (P++[z]) t=lowF P t+(if absI z.1=t then loP z else 0):=by
 unfold lowF;rw [List.map_append];exact sumAt_snoc _ _ _
theorem high_snoc (P:List (Int × Int)) (z:Int × Int) (t:Int):highF (P++[z]) t=highF P t+(if absI z.1=t then hiP z else 0):=by
 unfold highF;rw [List.map_append];exact sumAt_snoc _ _ _
theorem sumAt_out {f:Int × Int->Int}{t:Int}:∀ {P:List (Int × Int)},(∀ z∈P,¬ absI z.1=t)->sumAt (P.map fun z=>(absI z.1,f z)) t=0
 | [],_=>rfl
 | z::P,h=>by
  rw [List.map_cons]
  show (if absI z.1=t then f z else 0)+_=0
  rw [if_neg (h z List.mem_cons_self),sumAt_out fun y hy=>h y (List.mem_cons_of_mem _ hy)]
  rfl
theorem putK_keysN {kvs:List (Key × V)}{k:Key}{v:V}(h:valV kvs k=none):(putK kvs k v).map (·.1)=kvs.map (·.1)++[k]:=by
 have hn:=L2.valV_not h
 unfold putK
 split
 ·rename_i hc
  exact absurd hc (by
   intro hc
   apply hn
   simpa [List.mem_map] using hc)
 ·rw [List.map_append];rfl
structure GatI (P:List (Int × Int)) (ks:List Int) (k1 k2:List (Key × V)):Prop where
 e1:k1.map (·.1)=ks.map (Sum.inl:Int->Key)
 e2:k2.map (·.1)=ks.map (Sum.inl:Int->Key)
 nd:ks.Nodup
 len:ks.length≤P.length
 v1:∀ t∈ks,valV k1 (.inl t)=some (.int (lowF P t))
 v2:∀ t∈ks,valV k2 (.inl t)=some (.int (highF P t))
 mem:∀ t,t∈ks ↔ t ≠ 0∧∃ z∈P,absI z.1=t
theorem keys_not {kvs:List (Key × V)}{ks:List Int}{t:Int}(e:kvs.map (·.1)=ks.map (Sum.inl:Int->Key)) (h:¬ t∈ks):valV kvs (.inl t)=none:=by
 cases hv:valV kvs (.inl t) with
 | none=>rfl
 | some v=>
  exfalso
  unfold valV at hv
  obtain ⟨kv,hf,rfl⟩:=Option.map_eq_some_iff.mp hv
  have e2:=List.find?_some hf
  have e3:kv.1=.inl t:=of_decide_eq_true e2
  have hm:kv.1∈kvs.map (·.1):=List.mem_map.mpr ⟨kv,List.mem_of_find?_eq_some hf,rfl⟩
  rw [e,e3] at hm
  obtain ⟨x,hx,ex⟩:=List.mem_map.mp hm
  cases ex
  exact h hx
theorem GatI.get {P:List (Int × Int)}{ks:List Int}{k1 k2:List (Key × V)}(h:GatI P ks k1 k2){t:Int}(ht:t ≠ 0):(valV k1 (.inl t)).getD (.int 0)=.int (lowF P t)∧(valV k2 (.inl t)).getD (.int 0)=.int (highF P t):=by
 by_cases hm:t∈ks
 ·rw [h.v1 t hm,h.v2 t hm];exact ⟨rfl,rfl⟩
 ·have hno:∀ z∈P,¬ absI z.1=t:=fun z hz e=>hm ((h.mem t).mpr ⟨ht,z,hz,e⟩)
  rw [keys_not h.e1 hm,keys_not h.e2 hm]
  unfold lowF highF
  rw [sumAt_out hno,sumAt_out hno]
  exact ⟨rfl,rfl⟩
theorem GatI.nil:GatI [] [] [] []:=⟨rfl,rfl,List.nodup_nil,Nat.le_refl _,(fun t h=>by cases h),(fun t h=>by cases h),fun t=>⟨(fun h=>by cases h),fun ⟨_,z,hz,_⟩=>by cases hz⟩⟩
theorem GatI.skip {P:List (Int × Int)}{ks:List Int}{k1 k2:List (Key × V)}{z:Int × Int}(h:GatI P ks k1 k2) (hz:z.1=0):GatI (P++[z]) ks k1 k2:=by
 have h0:absI z.1=0:=by rw [hz];rfl
 have hne:∀ t∈ks,¬ absI z.1=t:=fun t ht e=>((h.mem t).mp ht).1 (by rw [←e];exact h0)
 refine ⟨h.e1,h.e2,h.nd,by rw [List.length_append];have:=h.len;omega,fun t ht=>?_,fun t ht=>?_,fun t=>?_⟩
 ·rw [h.v1 t ht,low_snoc,if_neg (hne t ht),Int.add_zero]
 ·rw [h.v2 t ht,high_snoc,if_neg (hne t ht),Int.add_zero]
 ·rw [h.mem t]
  constructor
  ·rintro ⟨a,y,hy,e⟩
   exact ⟨a,y,List.mem_append_left _ hy,e⟩
  ·rintro ⟨a,y,hy,e⟩
   rcases List.mem_append.mp hy with hy|hy
   ·exact ⟨a,y,hy,e⟩
   ·rw [List.mem_singleton.mp hy,h0] at e
    exact absurd e.symm a
theorem GatI.put {P:List (Int × Int)}{ks:List Int}{k1 k2:List (Key × V)}{z:Int × Int}(h:GatI P ks k1 k2) (hz:z.1 ≠ 0):∃ ks',GatI (P++[z]) ks' (putK k1 (.inl (absI z.1)) (.int (lowF P (absI z.1)+loP z))) (putK k2 (.inl (absI z.1)) (.int (highF P (absI z.1)+hiP z))):=by
 have h0:absI z.1 ≠ 0:=by unfold absI;omega
 have hv:∀ (k:List (Key × V)) (v:V) (t:Int),valV (putK k (.inl (absI z.1)) v) (.inl t)=if absI z.1=t then some v else valV k (.inl t):=fun k v t=>by
  rw [valV_put]
  by_cases e:absI z.1=t
  ·rw [if_pos e,if_pos (by rw [e])]
  ·rw [if_neg e,if_neg (fun q=>e (by cases q;rfl))]
 have fin:∀ ks',(∀ t,t∈ks' ↔ t∈ks∨t=absI z.1)->(putK k1 (.inl (absI z.1)) (.int (lowF P (absI z.1)+loP z))).map (·.1)=ks'.map (Sum.inl:Int->Key)->(putK k2 (.inl (absI z.1)) (.int (highF P (absI z.1)+hiP z))).map (·.1)=ks'.map (Sum.inl:Int->Key)->ks'.Nodup->ks'.length≤ks.length+1->GatI (P++[z]) ks' (putK k1 (.inl (absI z.1)) (.int (lowF P (absI z.1)+loP z))) (putK k2 (.inl (absI z.1)) (.int (highF P (absI z.1)+hiP z))):=fun ks' hm a1 a2 a3 a4=>by
  refine ⟨a1,a2,a3,by rw [List.length_append,List.length_singleton];have:=h.len;omega,fun t ht=>?_,fun t ht=>?_,fun t=>?_⟩
  ·rw [hv,low_snoc]
   by_cases e:absI z.1=t
   ·rw [if_pos e,if_pos e,e]
   ·rw [if_neg e,if_neg e,Int.add_zero]
    exact h.v1 t (((hm t).mp ht).resolve_right fun q=>e q.symm)
  ·rw [hv,high_snoc]
   by_cases e:absI z.1=t
   ·rw [if_pos e,if_pos e,e]
   ·rw [if_neg e,if_neg e,Int.add_zero]
    exact h.v2 t (((hm t).mp ht).resolve_right fun q=>e q.symm)
  ·rw [hm t,h.mem t]
   constructor
   ·rintro (⟨a,y,hy,e⟩|e)
    ·exact ⟨a,y,List.mem_append_left _ hy,e⟩
    ·exact ⟨by rw [e];exact h0,z,List.mem_append_right _ List.mem_cons_self,e.symm⟩
   ·rintro ⟨a,y,hy,e⟩
    rcases List.mem_append.mp hy with hy|hy
    ·exact .inl ⟨a,y,hy,e⟩
    ·rw [List.mem_singleton.mp hy] at e
     exact .inr e.symm
 by_cases hm:absI z.1∈ks
 ·refine ⟨ks,fin ks (fun t=>⟨.inl,fun q=>q.elim id fun e=>by rw [e];exact hm⟩) ?_ ?_ h.nd (by omega)⟩
  ·rw [putK_keys _ (h.v1 _ hm)];exact h.e1
  ·rw [putK_keys _ (h.v2 _ hm)];exact h.e2
 ·refine ⟨ks++[absI z.1],fin _ (fun t=>by rw [List.mem_append,List.mem_singleton]) ?_ ?_ ?_ (by rw [List.length_append];exact Nat.le_refl _)⟩
  ·rw [putK_keysN (keys_not h.e1 hm),h.e1,List.map_append];rfl
  ·rw [putK_keysN (keys_not h.e2 hm),h.e2,List.map_append];rfl
  ·rw [List.nodup_append]
   exact ⟨h.nd,by simp,fun a ha b hb e=>hm (by rw [List.mem_singleton] at hb;rw [←hb,←e];exact ha)⟩
structure KsOk (ks:List Int) (P:List (Int × Int)):Prop where
 nd:ks.Nodup
 len:ks.length≤P.length
 mem:∀ t,t∈ks ↔ t ≠ 0∧∃ z∈P,absI z.1=t
 ord:ks.Pairwise (· ≥ ·)
theorem trP.upd {z:Tm3}{y:V}{H:Hp}{p:Addr}{xs:List V}{o:HO}(h:trP z y H) (hp:H p=some (.lst xs)):trP z y (upd H p o):=by
 obtain ⟨q,rfl,hq⟩:=h
 exact ⟨q,rfl,by rw [upd_ne (fun e=>by rw [e,hp] at hq;cases hq)];exact hq⟩
abbrev B_spGath (C:Addr) (u:Addr) (v:Addr) (H:Hp) (Q:VK) (E:XK):Prop:=∃ (room f1 f2:Int) (A B:List (Int × Int)),ViewAt C H u room f1 A∧ViewAt C H v room f2 B∧Axes A∧Axes B∧∀ (ks:List Int) (l r:Addr) (H':Hp),Ext H H'->H' r=some (.tup [.ref l,.int (f2 - f1)])->TrAt H' l (termsF ks (pullL A B))->KsOk ks (pullL A B)->Q (.ref r) H'
def spGath (C:Addr):Sp:=fun vs H Q E=>∃ (u:Addr) (v:Addr),vs=[.ref u,.ref v]∧(B_spGath C u v H Q E)
theorem c_spGath (C:Addr) (u:Addr) (v:Addr) (H:Hp) (Q:VK) (E:XK):spGath C [.ref u,.ref v] H Q E=(B_spGath C u v H Q E):=spx2 (f:=fun (u:Addr) (v:Addr)=>[.ref u,.ref v]) (fun _ _ _ _ h=>by cases h;exact ⟨rfl,rfl⟩) u v
theorem l_spGath (C:Addr){vs:List V}{H:Hp}{Q:VK}{E:XK}(h:spGath C vs H Q E):vs.length=2:=spl2 h fun _ _=>rfl
theorem ok_gathered (T:Tx K mg t):FnOk P w K mg base CX0 2 t.a_gathered t.d_gathered ["one", "other"] (spGath t.a_View):=by
 have G_refuse_rooms:=ok_refuse_rooms (P:=P) (w:=w) (base:=base) T
 have G_pulls:=ok_pulls (P:=P) (w:=w) (base:=base) T
 refine T.F_gathered.ok c_gathered (fun vs H Q E h=>l_spGath _ h) (fun cdv A' outer s H vs Q E hr h=>?_)
 ·obtain ⟨u,v,rfl,room,f1,f2,A,B,vu,vv,hA,hB,k⟩:=h
  obtain ⟨dx,l1,hu,_⟩:=vu.ob
  obtain ⟨dy,l2,hv,_⟩:=vv.ob
  have c1:=T.cl_View
  have c4:=T.na_View_first
  have g1:=viewF_first room f1 l1
  have g2:=viewF_first room f2 l2
  refine ⟨_,(@pss_cons _ _ _ _ _ (@ps_expr _ _ _ _ (@pe_call _ _ _ _ _ _ _ _ _ _ _ _ _ _ _ _ G_refuse_rooms (hr.mono (by decide)) (by rfl) T.m_refuse_rooms T.F_refuse_rooms.kp T.b_refuse_rooms .nil pass0 (@pa_c _ _ _ _ _ (@pvN _ 0 _ _ (by rfl) (by trivial) (by decide) (by decide)) (@pa_c _ _ _ _ _ (@pvN _ 1 _ _ (by rfl) (by trivial) (by decide) (by decide)) (@pa_nil _) (by rfl)) (by rfl)) (by decide) (by rfl) (by rfl)) (by rfl)) (@pss_cons _ _ _ _ _ (@ps_set _ _ (2) _ _ _ _ c_gathered.nd rfl (Or.inr rfl) (@pe_nDNew _ _) (by rfl) (by trivial)) (@pss_cons _ _ _ _ _ (@ps_set _ _ (3) _ _ _ _ c_gathered.nd rfl (Or.inr rfl) (@pe_nDNew _ _) (by rfl) (by trivial)) (@pss_cons _ _ _ _ _ (@ps_for _ _ _ _ _ _ _ _ PassesOwn.never rfl (@pi_seq _ _ _ _ (@pe_call _ _ _ _ _ _ _ _ _ _ _ _ _ _ _ _ G_pulls (hr.mono (by decide)) (by rfl) T.m_pulls T.F_pulls.kp T.b_pulls .nil pass0 (@pa_c _ _ _ _ _ (@pvN _ 0 _ _ (by rfl) (by trivial) (by decide) (by decide)) (@pa_c _ _ _ _ _ (@pvN _ 1 _ _ (by rfl) (by trivial) (by decide) (by decide)) (@pa_nil _) (by rfl)) (by rfl)) (by decide) (by rfl) (by rfl))) ((@pg_tup _ _ _ _ _ (2) rfl (@pgs_consN _ _ _ _ _ (@pg_name _ _ (4) _ c_gathered.nd rfl (Or.inl rfl) (by trivial)) (@pgs_consN _ _ _ _ _ (@pg_name _ _ (5) _ c_gathered.nd rfl (Or.inl rfl) (by trivial)) (@pgs_nilN _) (by rfl)) (by rfl)) (by rfl) (by rfl)).mono fun _ _ _ _ h=>gTup_q h) (@pss_one _ _ _ (@ps_if _ _ _ _ _ _ _ _ (@pt_cmpRN _ _ _ _ _ _ _ _ (op_qNe hr.units) (@pvN _ 4 _ _ (by rfl) (by trivial) (by decide) (by decide)) (@pe_int _ _ _ _) (nomark _)) (@pss_cons _ _ _ _ _ (@ps_set _ _ (6) _ _ _ _ c_gathered.nd rfl (Or.inl rfl) (@pe_callB _ _ _ _ _ _ _ ("abs") _ call_qAbs (by rfl) T.z_abs (by decide +kernel) (@pa_c _ _ _ _ _ (@pvN _ 4 _ _ (by rfl) (by trivial) (by decide) (by decide)) (@pa_nil _) (by rfl)) (by decide) (by decide) (by rfl) (by rfl)) (by rfl) (by trivial)) (@pss_cons _ _ _ _ _ (@ps_set _ _ (7) _ _ _ _ c_gathered.nd rfl (Or.inl rfl) (@pe_ifExp _ _ _ _ _ _ _ _ (@pt_cmpRN _ _ _ _ _ _ _ _ on_gt (@pvN _ 4 _ _ (by rfl) (by trivial) (by decide) (by decide)) (@pe_int _ _ _ _) (nomark _)) (@pe_op _ _ _ _ _ _ _ _ on_sub (@pvN _ 5 _ _ (by rfl) (by trivial) (by decide) (by decide)) (@pe_int _ _ _ _)) (@pe_op _ _ _ _ _ _ _ _ on_sub (@pe_int _ _ _ _) (@pvN _ 5 _ _ (by rfl) (by trivial) (by decide) (by decide)))) (by rfl) (by trivial)) (@pss_cons _ _ _ _ _ (@ps_dput _ _ _ _ _ _ _ _ _ (units1 hr.units) (@pvN _ 2 _ _ (by rfl) (by trivial) (by decide) (by decide)) (@pvN _ 6 _ _ (by rfl) (by trivial) (by decide) (by decide)) (@pe_op _ _ _ _ _ _ _ _ on_add (@pe_dget2 _ _ _ _ _ _ _ _ _ (units1 hr.units) (@pvN _ 2 _ _ (by rfl) (by trivial) (by decide) (by decide)) (@pvN _ 6 _ _ (by rfl) (by trivial) (by decide) (by decide)) (@pe_int _ _ _ _) ⟨by rfl,by rfl,by rfl,by rfl⟩) (@pe_callB _ _ _ _ _ _ _ ("min") _ (call_qMin rfl) (by rfl) T.z_min (by decide +kernel) (@pa_c _ _ _ _ _ (@pe_int _ _ _ _) (@pa_c _ _ _ _ _ (@pvN _ 7 _ _ (by rfl) (by trivial) (by decide) (by decide)) (@pa_nil _) (by rfl)) (by rfl)) (by decide) (by decide) (by rfl) (by rfl))) rfl) (@pss_one _ _ _ (@ps_dput _ _ _ _ _ _ _ _ _ (units1 hr.units) (@pvN _ 3 _ _ (by rfl) (by trivial) (by decide) (by decide)) (@pvN _ 6 _ _ (by rfl) (by trivial) (by decide) (by decide)) (@pe_op _ _ _ _ _ _ _ _ on_add (@pe_dget2 _ _ _ _ _ _ _ _ _ (units1 hr.units) (@pvN _ 3 _ _ (by rfl) (by trivial) (by decide) (by decide)) (@pvN _ 6 _ _ (by rfl) (by trivial) (by decide) (by decide)) (@pe_int _ _ _ _) ⟨by rfl,by rfl,by rfl,by rfl⟩) (@pe_callB _ _ _ _ _ _ _ ("max") _ (call_qMax rfl) (by rfl) T.z_max (by decide +kernel) (@pa_c _ _ _ _ _ (@pe_int _ _ _ _) (@pa_c _ _ _ _ _ (@pvN _ 7 _ _ (by rfl) (by trivial) (by decide) (by decide)) (@pa_nil _) (by rfl)) (by rfl)) (by decide) (by decide) (by rfl) (by rfl))) rfl))))) (@pss_nil _))) (by intros;rfl)) (@pss_cons _ _ _ _ _ (@ps_setC _ _ _ _ _ _ _ _ _ _ _ _ _ (["times", "one", "other", "lows", "highs", "pace", "size", "!times", "reach", "terms"]) (1) (8) _ c_gathered.nd rfl (Or.inl rfl) (comp_ok (defScope s_gathered) ["one", "other", "lows", "highs", "pace", "size", "times", "reach", "terms"] rfl rfl (by decide +kernel)) rfl (@pi_seq _ _ _ _ (@pe_callBK _ ("sorted") _ _ _ _ _ _ _ _ _ _ (call_qSrtR rfl) (by rfl) T.z_sorted (by decide +kernel) (@pa_c _ _ _ _ _ (@pvN _ 2 _ _ (by rfl) (by trivial) (by decide) (by decide)) (@pa_nil _) (by rfl)) (@pk_cons _ _ _ _ _ _ _ (@pe_bl _ _ _ _) (@pk_nil _)) (by decide) (by decide) (by rfl) (by rfl) (by rfl) (by rfl) (by rfl))) (fun C s₀ H₀ ex pn=>(@pg_name _ _ (0) _ (show List.Nodup (["times", "one", "other", "lows", "highs", "pace", "size", "!times", "reach", "terms"]:List Str) from by decide +kernel) rfl (Or.inl rfl) (by trivial))) (fun C s₀ H₀ ex pn=>(@pts_nil _)) (fun C s₀ H₀ ex pn=>(@pe_qTup _ _ _ _ _ (@pa_c _ _ _ _ _ (@pvN _ 0 _ _ (by rfl) (by trivial) (by decide) (by decide)) (@pa_c _ _ _ _ _ (@pe_dget _ _ _ _ _ _ (units1 hr.units) (@pvN _ 3 _ _ (by rfl) (by trivial) (by decide) (by decide)) (@pvN _ 0 _ _ (by rfl) (by trivial) (by decide) (by decide)) (fun _ _=>rfl)) (@pa_c _ _ _ _ _ (@pe_dget _ _ _ _ _ _ (units1 hr.units) (@pvN _ 4 _ _ (by rfl) (by trivial) (by decide) (by decide)) (@pvN _ 0 _ _ (by rfl) (by trivial) (by decide) (by decide)) (fun _ _=>rfl)) (@pa_nil _) (by rfl)) (by rfl)) (by rfl)))) (by rfl) (by intros;rfl) (by trivial)) (@pss_one _ _ _ (@ps_ret _ _ _ _ (@pe_qTup _ _ _ _ _ (@pa_c _ _ _ _ _ (@pvN _ 8 _ _ (by rfl) (by trivial) (by decide) (by decide)) (@pa_c _ _ _ _ _ (@pe_op _ _ _ _ _ _ _ _ on_sub (@pe_nFld _ _ _ _ _ (@pvN _ 1 _ _ (by rfl) (by trivial) (by decide) (by decide)) rfl) (@pe_nFld _ _ _ _ _ (@pvN _ 0 _ _ (by rfl) (by trivial) (by decide) (by decide)) rfl)) (@pa_nil _) (by rfl)) (by rfl)))))))))),?_⟩
  rw [show start ["one", "other", "lows", "highs", "pace", "size", "times", "reach", "terms"] [.ref u,.ref v]=[some (.ref u),some (.ref v),none,none,none,none,none,none,none] from rfl]
  clear G_refuse_rooms G_pulls
  have hsz:∀ z∈pullL A B,(1:Int)≤z.2:=fun z hz=>by
   unfold pullL at hz
   rcases List.mem_append.mp hz with hz|hz
   ·obtain ⟨a,ha,rfl⟩:=List.mem_map.mp hz
    exact (hA.2 a ha).1
   ·obtain ⟨a,ha,rfl⟩:=List.mem_map.mp hz
    exact (hB.2 a ha).1
  have hPl:(pullL A B).length≤16:=by unfold pullL;rw [List.length_append,List.length_map,List.length_map];have:=hA.1;have:=hB.1;omega
  replace k:=fun (_:Unit)=>k
  replace hsz:=fun (_:Unit)=>hsz
  simp! only [and_true]
  rw [c_spRooms]
  refine ⟨room,f1,f2,A,B,vu,vv,?_⟩
  simp! only [and_true]
  intro d1 H1 hd1 e1 h1
  simp! only [and_true]
  intro d2 H2 hd2 e2 h2
  have e02:=e1.trans e2
  have h1_2:=e2.at h1
  have hd1_0:=hd1
  have hd2_0:H d2=none:=e1.free hd2
  have n12:d1 ≠ d2:=fun z=>by rw [z,hd2] at h1;cases h1
  clear hd1 hd2 h1
  simp! only [and_true]
  rw [c_spPulls]
  refine ⟨room,room,f1,f2,A,B,vu.ext e02,vv.ext e02,hA.1,hB.1,fun r H3 hr3 e3 t3=>?_⟩
  obtain ⟨ys,hy3,al⟩:=t3
  have e03:=e02.trans e3
  have nr1:r ≠ d1:=fun z=>by rw [z,h1_2] at hr3;cases hr3
  have nr2:r ≠ d2:=fun z=>by rw [z,h2] at hr3;cases hr3
  have hyl:ys.length=(pullL A B).length:=al.1
  generalize pullL A B=P' at *
  have h1_3:=e3.at h1_2
  have h2_3:=e3.at h2
  replace al:=fun (_:Unit)=>al
  clear hr3 e1 e2 e3 e02 h1_2 h2
  simp! only [and_true]
  refine for_lst (xs:=ys) (fun i σ H'=>∃ (ks:List Int) (k1 k2:List (Key × V)) (v4 v5 v6 v7:Option V),σ=[some (.ref u),some (.ref v),some (.ref d1),some (.ref d2),v4,v5,v6,v7,none]∧Ext H H'∧(∀ b o,b ≠ d1->b ≠ d2->H3 b=some o->H' b=some o)∧H' d1=some (.dK k1)∧H' d2=some (.dK k2)∧GatI (P'.take i) ks k1 k2) ⟨[],[],[],none,none,none,none,rfl,e03,fun _ _ _ _ h=>h,h1_3,h2_3,GatI.nil⟩ (fun i σ H' _ ⟨_,_,_,_,_,_,_,_,_,kp,_⟩=>kp r _ nr1 nr2 hy3) ?_ ?_
  ·rintro i y _ H4 hi ⟨ks,k1,k2,v4,v5,v6,v7,rfl,e4,kp,h14,h24,gi⟩
   have hil:i < P'.length:=by have:=(List.getElem?_eq_some_iff.mp hi).1;omega
   obtain ⟨z,hz⟩:∃ z,P'[i]? = some z:=⟨_,List.getElem?_eq_getElem hil⟩
   obtain ⟨q,rfl,hq⟩:=(al ()).2 i z y hz hi
   have hz1:=hsz () z (List.mem_of_getElem? hz)
   have htk:P'.take (i+1)=P'.take i++[z]:=by rw [List.take_add_one,hz];rfl
   have hq4:=kp q _ (fun e=>by rw [e,h1_3] at hq;cases hq) (fun e=>by rw [e,h2_3] at hq;cases hq) hq
   have lk1:k1.length < sizeLine:=lt5000 (by have:=congrArg List.length gi.e1;have:=gi.len;rw [List.length_map,List.length_map] at *;rw [List.length_take] at *;omega)
   have lk2:k2.length < sizeLine:=lt5000 (by have:=congrArg List.length gi.e2;have:=gi.len;rw [List.length_map,List.length_map] at *;rw [List.length_take] at *;omega)
   rw [htk]
   by_cases hz0:z.1=0
   ·have gs:=fun (_:Unit)=>gi.skip hz0
    clear gi hi hz k
    simp! only [↓m_kBody]
    exact ⟨ks,k1,k2,_,_,_,_,rfl,e4,kp,rfl,rfl,gs ()⟩
   ·have hab:absI z.1 ≠ 0:=by unfold absI;omega
    obtain ⟨b1,b2⟩:=gi.get hab
    have gp:=fun (_:Unit)=>gi.put hz0
    replace hz1:=fun (_:Unit)=>hz1
    have habs:(if z.1 < 0 then -z.1 else z.1)=absI z.1:=by unfold absI;split<;>omega
    clear gi hi hz k
    by_cases hp:0 < z.1
    ·have hmin:(if z.2 - 1 < 0 then z.2 - 1 else 0)=loP z:=by unfold loP;rw [if_pos hp];have:=hz1 ();split<;>omega
     have hmax:(if 0 < z.2 - 1 then z.2 - 1 else 0)=hiP z:=by unfold hiP;rw [if_pos hp];have:=hz1 ();split<;>omega
     simp! only [↓m_kBody]
     refine use_ge0 h14 ?_
     simp! only [and_true]
     refine use_ge (k:=.inl (absI z.1)) h14 ?_
     rw [b1]
     simp! only [and_true]
     refine use_dp (k:=.inl (absI z.1)) h14 lk1 ?_
     have h15:upd H4 d1 (.dK (putK k1 (.inl (absI z.1)) (.int (lowF (P'.take i) (absI z.1)+loP z)))) d2=some (.dK k2):=by rw [upd_ne (Ne.symm n12)];exact h24
     simp! only [and_true]
     refine use_ge0 h15 ?_
     simp! only [and_true]
     refine use_ge (k:=.inl (absI z.1)) h15 ?_
     rw [b2]
     simp! only [and_true]
     refine use_dp (k:=.inl (absI z.1)) h15 lk2 ?_
     obtain ⟨ks',gp'⟩:=gp ()
     exact ⟨ks',_,_,_,_,_,_,rfl,(e4.put hd1_0).put hd2_0,fun b o x1 x2 h=>by rw [upd_ne x2,upd_ne x1];exact kp b o x1 x2 h,by rw [upd_ne n12];exact upd_same,upd_same,gp'⟩
    ·have hmin:(if 1 - z.2 < 0 then 1 - z.2 else 0)=loP z:=by unfold loP;rw [if_neg hp];have:=hz1 ();split<;>omega
     have hmax:(if 0 < 1 - z.2 then 1 - z.2 else 0)=hiP z:=by unfold hiP;rw [if_neg hp];have:=hz1 ();split<;>omega
     simp! only [↓m_kBody]
     refine use_ge0 h14 ?_
     simp! only [and_true]
     refine use_ge (k:=.inl (absI z.1)) h14 ?_
     rw [b1]
     simp! only [and_true]
     refine use_dp (k:=.inl (absI z.1)) h14 lk1 ?_
     have h15:upd H4 d1 (.dK (putK k1 (.inl (absI z.1)) (.int (lowF (P'.take i) (absI z.1)+loP z)))) d2=some (.dK k2):=by rw [upd_ne (Ne.symm n12)];exact h24
     simp! only [and_true]
     refine use_ge0 h15 ?_
     simp! only [and_true]
     refine use_ge (k:=.inl (absI z.1)) h15 ?_
     rw [b2]
     simp! only [and_true]
     refine use_dp (k:=.inl (absI z.1)) h15 lk2 ?_
     obtain ⟨ks',gp'⟩:=gp ()
     exact ⟨ks',_,_,_,_,_,_,rfl,(e4.put hd1_0).put hd2_0,fun b o x1 x2 h=>by rw [upd_ne x2,upd_ne x1];exact kp b o x1 x2 h,by rw [upd_ne n12];exact upd_same,upd_same,gp'⟩
  ·rintro _ H4 ⟨ks,k1,k2,v4,v5,v6,v7,rfl,e4,kp,h14,h24,gi⟩
   rw [hyl,List.take_length] at gi
   have hu4:=e4.at hu
   have hv4:=e4.at hv
   have hk1:ks.length < 64:=by have:=gi.len;omega
   replace gi:=fun (_:Unit)=>gi
   clear al hy3 h1_3 h2_3 hd1_0 hd2_0 kp e03 hsz
   simp! only [and_true]
   refine use_srtR h14 (gi ()).e1 hk1 fun ms hpm hord=>?_
   intro q5 H5 hq5 e5 h5
   have h14_5:=e5.at h14
   have h24_5:=e5.at h24
   have hms:ms.length≤64:=by rw [hpm.length_eq];omega
   replace hpm:=fun (_:Unit)=>hpm
   replace hord:=fun (_:Unit)=>hord
   clear hq5
   simp! only [and_true]
   have wk:=wk_lst (K:=K) h5
   refine comp_rel2 (ms.map V.int) (fun _=>true) (fun z x H'=>x=z∧H' q5=some (.lst (ms.map V.int))) (fun D z y H'=>trP (vi z,lowF P' (vi z),highF P' (vi z)) y H') wk.1 wk.2 (fun D z y H1 H2 h e=>trP.ext (z:=(vi z,lowF P' (vi z),highF P' (vi z))) h e) (fun D z y H1 xs o h hD=>trP.upd (z:=(vi z,lowF P' (vi z),highF P' (vi z))) h hD) (len5000 (by rw [List.length_map];omega)) ?_ ?_
   ·intro D z y H' N1 N0 hz hD e _ ⟨hy,_⟩ kx _
    subst hy
    obtain ⟨t',ht',rfl⟩:=List.mem_map.mp hz
    have hm:=(hpm ()).mem_iff.mp ht'
    have w1:=(gi ()).v1 t' hm
    have w2:=(gi ()).v2 t' hm
    have k1':=kx rfl
    have a1:=e.at h14_5
    have a2:=e.at h24_5
    clear kx k hz wk
    simp! only [↓m_kCm_1,↓m_kCm2]
    refine use_dg (k:=.inl t') a1 w1 ?_
    simp! only [and_true]
    refine use_dg (k:=.inl t') a2 w2 ?_
    simp! only [and_true]
    intro g H6 _ e6 h6
    exact k1' _ H6 e6 ⟨g,rfl,h6⟩
   ·intro D zs H6 hD e6 h6 al6
    rw [filt] at al6
    have t6:TrAt H6 D (termsF ms P'):=⟨zs,h6,by
     refine ⟨by rw [al6.1];unfold termsF;rw [List.length_map,List.length_map],fun i z y hz hy=>?_⟩
     unfold termsF at hz
     rw [List.getElem?_map] at hz
     obtain ⟨t',ht',rfl⟩:=Option.map_eq_some_iff.mp hz
     exact al6.2 i (.int t') y (by rw [List.getElem?_map,ht'];rfl) hy⟩
    have ko:KsOk ms P':=⟨(hpm ()).nodup_iff.mpr (gi ()).nd,by rw [(hpm ()).length_eq];exact (gi ()).len,fun t'=>(hpm ()).mem_iff.trans ((gi ()).mem t'),hord ()⟩
    have e46:=e5.trans e6
    have hu6:=e46.at hu4
    have hv6:=e46.at hv4
    replace t6:=fun (_:Unit)=>t6
    replace ko:=fun (_:Unit)=>ko
    clear al6 wk hD h6 h5 hu4 hv4 h14_5 h24_5 h14 h24
    simp! only [and_true]
    intro r7 H7 _ e7 h7
    exact k () ms D r7 H7 (e4.trans (e46.trans e7)) h7 (tr_ext (t6 ()) e7) (ko ())
abbrev B_spFirstC  (p:Addr) (H:Hp) (Q:VK) (E:XK):Prop:=∃ zs:List Tm3,TrAt H p zs∧zs.length≤17∧∀ (r:Addr) (H':Hp),Ext H H'->PrAt H' r (zs.map fun z=>z.2)->Q (.ref r) H'
def spFirstC  : Sp:=fun vs H Q E=>∃ (p:Addr),vs=[.ref p]∧(B_spFirstC  p H Q E)
theorem c_spFirstC  (p:Addr) (H:Hp) (Q:VK) (E:XK):spFirstC  [.ref p] H Q E=(B_spFirstC  p H Q E):=spx1 (f:=fun (p:Addr)=>[.ref p]) (fun _ _ h=>by cases h;exact rfl) p
theorem l_spFirstC  {vs:List V}{H:Hp}{Q:VK}{E:XK}(h:spFirstC  vs H Q E):vs.length=1:=spl1 h fun _=>rfl
theorem ok_first_case (T:Tx K mg t):FnOk P w K mg base CX0 1 t.a_first_case t.d_first_case ["terms"] spFirstC:=by
 refine T.F_first_case.ok c_first_case (fun vs H Q E h=>l_spFirstC h) (fun cdv A outer s H vs Q E hr h=>?_)
 ·obtain ⟨p,rfl,zs,⟨ys,hp,al⟩,hl,k⟩:=h
  refine ⟨_,(@pss_one _ _ _ (@ps_ret _ _ _ _ (@pe_comp _ _ _ _ _ _ _ _ _ _ _ (["term", "terms"]) (1) (comp_ok (defScope s_first_case) ["terms"] rfl rfl (by decide +kernel)) rfl (@pi_seq _ _ _ _ (@pvN _ 0 _ _ (by rfl) (by trivial) (by decide) (by decide))) (fun C s₀ H₀ ex pn=>(@pg_name _ _ (0) _ (show List.Nodup (["term", "terms"]:List Str) from by decide +kernel) rfl (Or.inl rfl) (by trivial))) (fun C s₀ H₀ ex pn=>(@pts_nil _)) (fun C s₀ H₀ ex pn=>(@pe_qTup _ _ _ _ _ (@pa_c _ _ _ _ _ (@pe_ix _ _ _ _ _ _ _ ix_q (@pvN _ 0 _ _ (by rfl) (by trivial) (by decide) (by decide)) (@pe_int _ _ _ _) (fun _ _=>rfl)) (@pa_c _ _ _ _ _ (@pe_ix _ _ _ _ _ _ _ ix_q (@pvN _ 0 _ _ (by rfl) (by trivial) (by decide) (by decide)) (@pe_int _ _ _ _) (fun _ _=>rfl)) (@pa_nil _) (by rfl)) (by rfl)))) (by intros;rfl)))),?_⟩
  rw [show start ["terms"] [.ref p]=[some (.ref p)] from rfl]
  replace k:=fun (_:Unit)=>k
  have wk:=wk_al (K:=K) (R:=trP) (fun _ _ _ _ h e=>h.ext e) hp al
  simp! only [and_true]
  refine comp_rel2 zs (fun _=>true) trP (fun D z y H'=>axP z.2 y H') wk.1 wk.2 (fun D z y H1 H2 h e=>axP.ext (a:=z.2) h e) (fun D z y H1 xs o h hD=>axP.upd (z:=z.2) h hD) (len5000 (by omega)) ?_ ?_
  ·intro D z x H' N1 N0 hz hD e _ ⟨q,hx,hq⟩ k1 _
   subst hx
   have k1':=k1 rfl
   clear k1 k wk
   simp! only [↓m_kCm_1,↓m_kCm2]
   intro t1 H6 ht1 e6 h6
   exact k1' _ H6 e6 ⟨t1,rfl,h6⟩
  intro D ys2 H2 hD e2 h2 al2
  rw [filt] at al2
  have k':=k () D H2 e2 ⟨ys2,h2,al_mapR al2⟩
  clear k wk al2
  simp! only [and_true]
theorem ix_in {n:Nat}{c:Int}(h0:0≤c) (h1:c < n):ixN n c=some c.toNat:=by
 unfold ixN
 rw [if_pos h0,if_pos (by omega)]
theorem al_set {α:Type}{R:α->V->Prop}{zs:List α}{ys:List V}{k:Nat}{z:α}{y:V}(h:Al R zs ys) (r:R z y):Al R (zs.set k z) (ys.set k y):=by
 refine ⟨by rw [List.length_set,List.length_set];exact h.1,fun i a b ha hb=>?_⟩
 rw [List.getElem?_set] at ha hb
 by_cases e:k=i
 ·rw [if_pos e] at ha hb
  split at ha
  ·split at hb
   ·cases ha;cases hb;exact r
   ·cases hb
  ·cases ha
 ·rw [if_neg e] at ha hb
  exact h.2 i a b ha hb
abbrev B_spParted  (q:Addr) (k:Int) (a:Int) (H:Hp) (Q:VK) (E:XK):Prop:=∃ (cs:Bx) (m:Nat),k=(m:Int)∧PrAt H q cs∧m < cs.length∧cs.length≤17∧∀ (r a1 a2:Addr) (H':Hp),H a1=none->H a2=none->Ext H H'->H' r=some (.lst [.ref a1,.ref a2])->PrAt H' a1 (upC cs m a)->PrAt H' a2 (loC cs m a)->Q (.ref r) H'
def spParted  : Sp:=fun vs H Q E=>∃ (q:Addr) (k:Int) (a:Int),vs=[.ref q,.int k,.int a]∧(B_spParted  q k a H Q E)
theorem c_spParted  (q:Addr) (k:Int) (a:Int) (H:Hp) (Q:VK) (E:XK):spParted  [.ref q,.int k,.int a] H Q E=(B_spParted  q k a H Q E):=spx3 (f:=fun (q:Addr) (k:Int) (a:Int)=>[.ref q,.int k,.int a]) (fun _ _ _ _ _ _ h=>by cases h;exact ⟨rfl,rfl,rfl⟩) q k a
theorem l_spParted  {vs:List V}{H:Hp}{Q:VK}{E:XK}(h:spParted  vs H Q E):vs.length=3:=spl3 h fun _ _ _=>rfl
theorem ok_parted (T:Tx K mg t):FnOk P w K mg base CX0 1 t.a_parted t.d_parted ["case", "k", "at"] spParted:=by
 refine T.F_parted.ok c_parted (fun vs H Q E h=>l_spParted h) (fun cdv A outer s H vs Q E hr h=>?_)
 ·obtain ⟨q,_,a,rfl,cs,m,rfl,⟨ys,hq,al⟩,hm,h17,k⟩:=h
  refine ⟨_,(@pss_cons _ _ _ _ _ (@ps_set _ _ (3) _ _ _ _ c_parted.nd rfl (Or.inl rfl) (@pe_callTy _ _ _ _ _ _ _ _ _ call_nList (by rfl) T.z_list (by decide +kernel) (@pa_c _ _ _ _ _ (@pvN _ 0 _ _ (by rfl) (by trivial) (by decide) (by decide)) (@pa_nil _) (by rfl)) (by decide) (by decide) (by rfl) (by rfl)) (by rfl) (by trivial)) (@pss_cons _ _ _ _ _ (@ps_set _ _ (4) _ _ _ _ c_parted.nd rfl (Or.inl rfl) (@pe_callTy _ _ _ _ _ _ _ _ _ call_nList (by rfl) T.z_list (by decide +kernel) (@pa_c _ _ _ _ _ (@pvN _ 0 _ _ (by rfl) (by trivial) (by decide) (by decide)) (@pa_nil _) (by rfl)) (by decide) (by decide) (by rfl) (by rfl)) (by rfl) (by trivial)) (@pss_cons _ _ _ _ _ (@ps_asg _ _ _ _ _ _ (@pe_qTup _ _ _ _ _ (@pa_c _ _ _ _ _ (@pe_op _ _ _ _ _ _ _ _ on_add (@pvN _ 2 _ _ (by rfl) (by trivial) (by decide) (by decide)) (@pe_int _ _ _ _)) (@pa_c _ _ _ _ _ (@pe_ix _ _ _ _ _ _ _ ix_q (@pe_ix _ _ _ _ _ _ _ ix_q (@pvN _ 0 _ _ (by rfl) (by trivial) (by decide) (by decide)) (@pvN _ 1 _ _ (by rfl) (by trivial) (by decide) (by decide)) (fun _ _=>rfl)) (@pe_int _ _ _ _) (fun _ _=>rfl)) (@pa_nil _) (by rfl)) (by rfl))) (@pg_sub _ _ _ _ _ _ _ (@pvN _ 3 _ _ (by rfl) (by trivial) (by decide) (by decide)) (@pvN _ 1 _ _ (by rfl) (by trivial) (by decide) (by decide)) set_list (by intros;rfl)) (by rfl) (by rfl) (by rfl)) (@pss_cons _ _ _ _ _ (@ps_asg _ _ _ _ _ _ (@pe_qTup _ _ _ _ _ (@pa_c _ _ _ _ _ (@pe_ix _ _ _ _ _ _ _ ix_q (@pe_ix _ _ _ _ _ _ _ ix_q (@pvN _ 0 _ _ (by rfl) (by trivial) (by decide) (by decide)) (@pvN _ 1 _ _ (by rfl) (by trivial) (by decide) (by decide)) (fun _ _=>rfl)) (@pe_int _ _ _ _) (fun _ _=>rfl)) (@pa_c _ _ _ _ _ (@pvN _ 2 _ _ (by rfl) (by trivial) (by decide) (by decide)) (@pa_nil _) (by rfl)) (by rfl))) (@pg_sub _ _ _ _ _ _ _ (@pvN _ 4 _ _ (by rfl) (by trivial) (by decide) (by decide)) (@pvN _ 1 _ _ (by rfl) (by trivial) (by decide) (by decide)) set_list (by intros;rfl)) (by rfl) (by rfl) (by rfl)) (@pss_one _ _ _ (@ps_ret _ _ _ _ (@pe_qLst _ _ _ _ (@pa_c _ _ _ _ _ (@pvN _ 3 _ _ (by rfl) (by trivial) (by decide) (by decide)) (@pa_c _ _ _ _ _ (@pvN _ 4 _ _ (by rfl) (by trivial) (by decide) (by decide)) (@pa_nil _) (by rfl)) (by rfl))))))))),?_⟩
  rw [show start ["case", "k", "at", "upper", "lower"] [.ref q,.int (m:Int),.int a]=[some (.ref q),some (.int (m:Int)),some (.int a),none,none] from rfl]
  have hyl:ys.length=cs.length:=al.1
  obtain ⟨y,hat,hy⟩:=pr_get al hm
  rw [Int.zero_add] at hat
  have ix:ixN ys.length (m:Int)=some m:=by have:=ix_in (n:=ys.length) (c:=(m:Int)) (by omega) (by omega);rw [Int.toNat_natCast] at this;exact this
  replace hyl:=fun (_:Unit)=>hyl
  replace k:=fun (_:Unit)=>k
  replace al:=fun (_:Unit)=>al
  simp! only [and_true]
  intro p1 H1 hp1 e1 h1
  have hq1:=e1.at hq
  simp! only [and_true]
  intro p2 H2 hp2 e2 h2
  have hq2:=e2.at hq1
  have h1_2:=e2.at h1
  have hy2:=(e1.trans e2).at hy
  have hp2_0:H p2=none:=e1.free hp2
  have n12:p1 ≠ p2:=fun z=>by rw [z,hp2] at h1;cases h1
  have nq1:q ≠ p1:=fun z=>by rw [z,hp1] at hq;cases hq
  have ny1:y ≠ p1:=fun z=>by rw [z,hp1] at hy;cases hy
  have hp1_0:=hp1
  clear hp1 hp2 h1 hq1
  simp! only [and_true]
  intro t3 H3 ht3 e3 h3
  have h1_3:=e3.at h1_2
  have h2_3:=e3.at h2
  have hq3:=e3.at hq2
  have hy3:=e3.at hy2
  have nt1:t3 ≠ p1:=fun z=>by rw [z,h1_2] at ht3;cases ht3
  have e03:=e1.trans (e2.trans e3)
  clear ht3 h1_2 h2 hq2 hy2 e1 e2 e3
  simp! only [and_true]
  have h2_4:upd H3 p1 (.lst (ys.set m (.ref t3))) p2=some (.lst ys):=by rw [upd_ne (Ne.symm n12)];exact h2_3
  have hq4:upd H3 p1 (.lst (ys.set m (.ref t3))) q=some (.lst ys):=by rw [upd_ne nq1];exact hq3
  have hy4:upd H3 p1 (.lst (ys.set m (.ref t3))) y=some (.tup [.int (cs.getD m default).1,.int (cs.getD m default).2]):=by rw [upd_ne ny1];exact hy3
  have h1_4:upd H3 p1 (.lst (ys.set m (.ref t3))) p1=some (.lst (ys.set m (.ref t3))):=upd_same
  have h3_4:upd H3 p1 (.lst (ys.set m (.ref t3))) t3=some (.tup [.int (a+1),.int (cs.getD m default).2]):=by rw [upd_ne nt1];exact h3
  have e04:Ext H (upd H3 p1 (.lst (ys.set m (.ref t3)))):=e03.put hp1_0
  generalize upd H3 p1 (.lst (ys.set m (.ref t3)))=H4 at *
  clear h1_3 h2_3 hq3 hy3 h3 e03
  simp! only [and_true]
  intro t5 H5 ht5 e5 h5
  have h2_5:=e5.at h2_4
  have nt2:t5 ≠ p2:=fun z=>by rw [z,h2_4] at ht5;cases ht5
  have n32:t3 ≠ p2:=fun z=>by rw [z,h2_4] at h3_4;cases h3_4
  have e05:=e04.trans e5
  have h1_5:=e5.at h1_4
  have h3_5:=e5.at h3_4
  clear ht5 hq4 hy4 h2_4 h1_4 h3_4 e04 e5
  simp! only [and_true]
  have h2_6:upd H5 p2 (.lst (ys.set m (.ref t5))) p2=some (.lst (ys.set m (.ref t5))):=upd_same
  have h1_6:upd H5 p2 (.lst (ys.set m (.ref t5))) p1=some (.lst (ys.set m (.ref t3))):=by rw [upd_ne n12];exact h1_5
  have h3_6:upd H5 p2 (.lst (ys.set m (.ref t5))) t3=some (.tup [.int (a+1),.int (cs.getD m default).2]):=by rw [upd_ne n32];exact h3_5
  have h5_6:upd H5 p2 (.lst (ys.set m (.ref t5))) t5=some (.tup [.int (cs.getD m default).1,.int a]):=by rw [upd_ne nt2];exact h5
  have e06:Ext H (upd H5 p2 (.lst (ys.set m (.ref t5)))):=e05.put hp2_0
  generalize upd H5 p2 (.lst (ys.set m (.ref t5)))=H6 at *
  clear h1_5 h2_5 h3_5 h5 e05
  intro r H7 hr7 e7 h7
  have e07:=e06.trans e7
  have al7:=fun (_:Unit)=>(al ()).imp fun _ _ t=>axP.ext t e07
  exact k () r p1 p2 H7 hp1_0 hp2_0 e07 h7 ⟨_,e7.at h1_6,al_set (al7 ()) ⟨t3,rfl,e7.at h3_6⟩⟩ ⟨_,e7.at h2_6,al_set (al7 ()) ⟨t5,rfl,e7.at h5_6⟩⟩
def naoV (H:Hp):Option (List Int)->V->Prop
 | none,v=>v=.non
 | some xs,v=>∃ r,v=.ref r∧H r=some (.lst (xs.map V.int))
abbrev B_spNao  (p:Addr) (g:Int) (q:Addr) (H:Hp) (Q:VK) (E:XK):Prop:=∃ (zs:List Tm3) (cs:Bx),TrAt H p zs∧PrAt H q cs∧TmsOk zs∧CsOk zs cs∧∀ v H',Ext H H'->naoV H' (naoL zs g cs) v->Q v H'
def spNao  : Sp:=fun vs H Q E=>∃ (p:Addr) (g:Int) (q:Addr),vs=[.ref p,.int g,.ref q]∧(B_spNao  p g q H Q E)
theorem c_spNao  (p:Addr) (g:Int) (q:Addr) (H:Hp) (Q:VK) (E:XK):spNao  [.ref p,.int g,.ref q] H Q E=(B_spNao  p g q H Q E):=spx3 (f:=fun (p:Addr) (g:Int) (q:Addr)=>[.ref p,.int g,.ref q]) (fun _ _ _ _ _ _ h=>by cases h;exact ⟨rfl,rfl,rfl⟩) p g q
theorem l_spNao  {vs:List V}{H:Hp}{Q:VK}{E:XK}(h:spNao  vs H Q E):vs.length=3:=spl3 h fun _ _ _=>rfl
theorem ok_numbers_at_once (T:Tx K mg t):FnOk P w K mg base CX0 4 t.a_numbers_at_once t.d_numbers_at_once ["terms", "goal", "case"] spNao:=by
 have G_least_sum:=ok_least_sum (P:=P) (w:=w) (base:=base) T
 have G_greatest_sum:=ok_greatest_sum (P:=P) (w:=w) (base:=base) T
 refine T.F_numbers_at_once.ok c_numbers_at_once (fun vs H Q E h=>l_spNao h) (fun cdv A outer s H vs Q E hr h=>?_)
 ·obtain ⟨p,g,q,rfl,zs,cs,hp,hq,ht,hc,k⟩:=h
  refine ⟨_,(@pss_cons _ _ _ _ _ (@ps_if _ _ _ _ _ _ _ _ (@pt_cmpRN _ _ _ _ _ _ _ _ (op_qEq hr.units) (@pe_call _ _ _ _ _ _ _ _ _ _ _ _ _ _ _ _ G_least_sum (hr.mono (by decide)) (by rfl) T.m_least_sum T.F_least_sum.kp T.b_least_sum .nil pass0 (@pa_c _ _ _ _ _ (@pvN _ 0 _ _ (by rfl) (by trivial) (by decide) (by decide)) (@pa_c _ _ _ _ _ (@pvN _ 2 _ _ (by rfl) (by trivial) (by decide) (by decide)) (@pa_nil _) (by rfl)) (by rfl)) (by decide) (by rfl) (by rfl)) (@pvN _ 1 _ _ (by rfl) (by trivial) (by decide) (by decide)) (nomark _)) (@pss_one _ _ _ (@ps_ret _ _ _ _ (@pe_comp _ _ _ _ _ _ _ _ _ _ _ (["bounds", "terms", "goal", "case"]) (1) (comp_ok (defScope s_numbers_at_once) ["terms", "goal", "case"] rfl rfl (by decide +kernel)) rfl (@pi_seq _ _ _ _ (@pvN _ 2 _ _ (by rfl) (by trivial) (by decide) (by decide))) (fun C s₀ H₀ ex pn=>(@pg_name _ _ (0) _ (show List.Nodup (["bounds", "terms", "goal", "case"]:List Str) from by decide +kernel) rfl (Or.inl rfl) (by trivial))) (fun C s₀ H₀ ex pn=>(@pts_nil _)) (fun C s₀ H₀ ex pn=>(@pe_ix _ _ _ _ _ _ _ ix_q (@pvN _ 0 _ _ (by rfl) (by trivial) (by decide) (by decide)) (@pe_int _ _ _ _) (fun _ _=>rfl))) (by intros;rfl)))) (@pss_nil _)) (@pss_cons _ _ _ _ _ (@ps_if _ _ _ _ _ _ _ _ (@pt_cmpRN _ _ _ _ _ _ _ _ (op_qEq hr.units) (@pe_call _ _ _ _ _ _ _ _ _ _ _ _ _ _ _ _ G_greatest_sum (hr.mono (by decide)) (by rfl) T.m_greatest_sum T.F_greatest_sum.kp T.b_greatest_sum .nil pass0 (@pa_c _ _ _ _ _ (@pvN _ 0 _ _ (by rfl) (by trivial) (by decide) (by decide)) (@pa_c _ _ _ _ _ (@pvN _ 2 _ _ (by rfl) (by trivial) (by decide) (by decide)) (@pa_nil _) (by rfl)) (by rfl)) (by decide) (by rfl) (by rfl)) (@pvN _ 1 _ _ (by rfl) (by trivial) (by decide) (by decide)) (nomark _)) (@pss_one _ _ _ (@ps_ret _ _ _ _ (@pe_comp _ _ _ _ _ _ _ _ _ _ _ (["bounds", "terms", "goal", "case"]) (1) (comp_ok (defScope s_numbers_at_once) ["terms", "goal", "case"] rfl rfl (by decide +kernel)) rfl (@pi_seq _ _ _ _ (@pvN _ 2 _ _ (by rfl) (by trivial) (by decide) (by decide))) (fun C s₀ H₀ ex pn=>(@pg_name _ _ (0) _ (show List.Nodup (["bounds", "terms", "goal", "case"]:List Str) from by decide +kernel) rfl (Or.inl rfl) (by trivial))) (fun C s₀ H₀ ex pn=>(@pts_nil _)) (fun C s₀ H₀ ex pn=>(@pe_ix _ _ _ _ _ _ _ ix_q (@pvN _ 0 _ _ (by rfl) (by trivial) (by decide) (by decide)) (@pe_int _ _ _ _) (fun _ _=>rfl))) (by intros;rfl)))) (@pss_nil _)) (@pss_one _ _ _ (@ps_ret _ _ _ _ (@pe_non _ _ _))))),?_⟩
  rw [show start ["terms", "goal", "case"] [.ref p,.int g,.ref q]=[some (.ref p),some (.int g),some (.ref q)] from rfl]
  clear G_least_sum G_greatest_sum
  have h17:cs.length≤17:=by rw [hc.len];exact ht.len
  unfold naoL at k
  have hq0:=hq
  obtain ⟨ys,hqy,al⟩:=hq0
  replace k:=fun (_:Unit)=>k
  replace al:=fun (_:Unit)=>al
  simp! only [and_true]
  rw [c_spLsum]
  refine ⟨zs,cs,hp,hq,ht,hc,fun H1 e1=>?_⟩
  by_cases h1:lsum zs cs=g
  ·rw [if_pos h1] at k
   have hq1:=e1.at hqy
   have wk:=wk_al (K:=K) (R:=axP) (fun _ _ _ _ h e=>h.ext e) hq1 ((al ()).imp fun _ _ t=>axP.ext t e1)
   simp! only [and_true]
   refine comp_fm cs (fun _=>true) (fun b=>.int b.1) axP wk.1 wk.2 (len5000 (by omega)) ?_ ?_
   ·intro D b x H' N1 N0 hb hD e ⟨q',hx,hq'⟩ k1 _
    subst hx
    have k1':=k1 rfl H' (Ext.refl _)
    clear k1 k wk
    simp! only [↓m_kCm_1,↓m_kCm2]
   intro D H2 hD e2 h2
   rw [filt] at h2
   have k':=k () (.ref D) H2 (e1.trans e2) ⟨D,rfl,by rw [h2,List.map_map];rfl⟩
   clear k wk h2
   simp! only [and_true]
  rw [if_neg h1] at k
  simp! only [and_true]
  rw [c_spGsum]
  refine ⟨zs,cs,tr_ext hp e1,pr_ext hq e1,ht,hc,fun H2 e2=>?_⟩
  have e02:=e1.trans e2
  by_cases h2:gsum zs cs=g
  ·rw [if_pos h2] at k
   have hq1:=e02.at hqy
   have wk:=wk_al (K:=K) (R:=axP) (fun _ _ _ _ h e=>h.ext e) hq1 ((al ()).imp fun _ _ t=>axP.ext t e02)
   simp! only [and_true]
   refine comp_fm cs (fun _=>true) (fun b=>.int b.2) axP wk.1 wk.2 (len5000 (by omega)) ?_ ?_
   ·intro D b x H' N1 N0 hb hD e ⟨q',hx,hq'⟩ k1 _
    subst hx
    have k1':=k1 rfl H' (Ext.refl _)
    clear k1 k wk
    simp! only [↓m_kCm_1,↓m_kCm2]
   intro D H3 hD e3 h3
   rw [filt] at h3
   have k':=k () (.ref D) H3 (e02.trans e3) ⟨D,rfl,by rw [h3,List.map_map];rfl⟩
   clear k wk h3
   simp! only [and_true]
  ·rw [if_neg h2] at k
   have k':=k () .non H2 e02 rfl
   clear k
   simp! only [and_true]
abbrev B_spNarrow  (i:Int) (b:Addr) (al:Int) (bg:Int) (H:Hp) (Q:VK) (E:XK):Prop:=∃ c:Int × Int,H b=some (.tup [.int c.1,.int c.2])∧1≤i∧i≤2000000000000000000∧∀ (r:Addr) (H':Hp),H r=none->Ext H H'->H' r=some (.tup [.int (narF i c al bg).1,.int (narF i c al bg).2])->Q (.ref r) H'
def spNarrow  : Sp:=fun vs H Q E=>∃ (i:Int) (b:Addr) (al:Int) (bg:Int),vs=[.int i,.ref b,.int al,.int bg]∧(B_spNarrow  i b al bg H Q E)
theorem c_spNarrow  (i:Int) (b:Addr) (al:Int) (bg:Int) (H:Hp) (Q:VK) (E:XK):spNarrow  [.int i,.ref b,.int al,.int bg] H Q E=(B_spNarrow  i b al bg H Q E):=spx4 (f:=fun (i:Int) (b:Addr) (al:Int) (bg:Int)=>[.int i,.ref b,.int al,.int bg]) (fun _ _ _ _ _ _ _ _ h=>by cases h;exact ⟨rfl,rfl,rfl,rfl⟩) i b al bg
theorem l_spNarrow  {vs:List V}{H:Hp}{Q:VK}{E:XK}(h:spNarrow  vs H Q E):vs.length=4:=spl4 h fun _ _ _ _=>rfl
theorem ok_narrowed (T:Tx K mg t):FnOk P w K mg base CX0 1 t.a_narrowed t.d_narrowed ["times", "bounds", "above_least", "below_greatest"] spNarrow:=by
 refine T.F_narrowed.ok c_narrowed (fun vs H Q E h=>l_spNarrow h) (fun cdv A outer s H vs Q E hr h=>?_)
 ·obtain ⟨i,b,al,bg,rfl,c,hb,i1,i2,k⟩:=h
  refine ⟨_,(@pss_one _ _ _ (@ps_ret _ _ _ _ (@pe_qTup _ _ _ _ _ (@pa_c _ _ _ _ _ (@pe_callB _ _ _ _ _ _ _ ("max") _ (call_qMax rfl) (by rfl) T.z_max (by decide +kernel) (@pa_c _ _ _ _ _ (@pe_ix _ _ _ _ _ _ _ ix_q (@pvN _ 1 _ _ (by rfl) (by trivial) (by decide) (by decide)) (@pe_int _ _ _ _) (fun _ _=>rfl)) (@pa_c _ _ _ _ _ (@pe_op _ _ _ _ _ _ _ _ on_sub (@pe_ix _ _ _ _ _ _ _ ix_q (@pvN _ 1 _ _ (by rfl) (by trivial) (by decide) (by decide)) (@pe_int _ _ _ _) (fun _ _=>rfl)) (@pe_op _ _ _ _ _ _ _ _ on_fdivB (@pvN _ 3 _ _ (by rfl) (by trivial) (by decide) (by decide)) (@pvN _ 0 _ _ (by rfl) (by trivial) (by decide) (by decide)))) (@pa_nil _) (by rfl)) (by rfl)) (by decide) (by decide) (by rfl) (by rfl)) (@pa_c _ _ _ _ _ (@pe_callB _ _ _ _ _ _ _ ("min") _ (call_qMin rfl) (by rfl) T.z_min (by decide +kernel) (@pa_c _ _ _ _ _ (@pe_ix _ _ _ _ _ _ _ ix_q (@pvN _ 1 _ _ (by rfl) (by trivial) (by decide) (by decide)) (@pe_int _ _ _ _) (fun _ _=>rfl)) (@pa_c _ _ _ _ _ (@pe_op _ _ _ _ _ _ _ _ on_add (@pe_ix _ _ _ _ _ _ _ ix_q (@pvN _ 1 _ _ (by rfl) (by trivial) (by decide) (by decide)) (@pe_int _ _ _ _) (fun _ _=>rfl)) (@pe_op _ _ _ _ _ _ _ _ on_fdivB (@pvN _ 2 _ _ (by rfl) (by trivial) (by decide) (by decide)) (@pvN _ 0 _ _ (by rfl) (by trivial) (by decide) (by decide)))) (@pa_nil _) (by rfl)) (by rfl)) (by decide) (by decide) (by rfl) (by rfl)) (@pa_nil _) (by rfl)) (by rfl))))),?_⟩
  rw [show start ["times", "bounds", "above_least", "below_greatest"] [.int i,.ref b,.int al,.int bg]=[some (.int i),some (.ref b),some (.int al),some (.int bg)] from rfl]
  have d1:CDivB al i:=⟨by omega,by omega⟩
  have d2:CDivB bg i:=⟨by omega,by omega⟩
  unfold narF at k
  replace k:=fun (_:Unit)=>k
  simp! only [and_true]
  intro r H1 hr e1 h1
  rw [Int.fdiv_eq_ediv_of_nonneg _ (by omega),Int.fdiv_eq_ediv_of_nonneg _ (by omega)] at h1
  exact k () r H1 hr e1 h1
def BestV (H:Hp):Option (Nat × Int × Int)->V->Prop
 | none,v=>v=.non
 | some q,v=>∃ r kp,v=.ref r∧H r=some (.tup [.int (q.1:Int),.ref kp])∧H kp=some (.tup [.int q.2.1,.int q.2.2])
theorem BestV.ext {H H':Hp}{o:Option (Nat × Int × Int)}{v:V}(h:BestV H o v) (e:Ext H H'):BestV H' o v:=by
 cases o with
 | none=>exact h
 | some q=>
  obtain ⟨r,kp,h1,h2,h3⟩:=h
  exact ⟨r,kp,h1,e.at h2,e.at h3⟩
theorem best_succ (zs:List Tm3) (cs:Bx) (al bg:Int) (i:Nat):bestF zs cs al bg (i+1)=if (cs.getD i default).1 < (cs.getD i default).2 then (match bestF zs cs al bg i with|none=>some (i,narF (zs.getD i default).1 (cs.getD i default) al bg)|some q=>if (narF (zs.getD i default).1 (cs.getD i default) al bg).2 - (narF (zs.getD i default).1 (cs.getD i default) al bg).1 < q.2.2 - q.2.1 then some (i,narF (zs.getD i default).1 (cs.getD i default) al bg) else some q) else bestF zs cs al bg i:=rfl
abbrev B_spPart  (p:Addr) (g:Int) (q:Addr) (H:Hp) (Q:VK) (E:XK):Prop:=∃ (zs:List Tm3) (cs:Bx) (b:Nat × Int × Int),TrAt H p zs∧PrAt H q cs∧TmsOk zs∧CsOk zs cs∧bestF zs cs (g - lsum zs cs) (gsum zs cs - g) zs.length=some b∧b.1 < zs.length∧∀ (r:Addr) (H':Hp),Ext H H'->H' r=some (.tup [.str "part",.int (b.1:Int),.int (partK cs b)])->Q (.ref r) H'
def spPart  : Sp:=fun vs H Q E=>∃ (p:Addr) (g:Int) (q:Addr),vs=[.ref p,.int g,.ref q]∧(B_spPart  p g q H Q E)
theorem c_spPart  (p:Addr) (g:Int) (q:Addr) (H:Hp) (Q:VK) (E:XK):spPart  [.ref p,.int g,.ref q] H Q E=(B_spPart  p g q H Q E):=spx3 (f:=fun (p:Addr) (g:Int) (q:Addr)=>[.ref p,.int g,.ref q]) (fun _ _ _ _ _ _ h=>by cases h;exact ⟨rfl,rfl,rfl⟩) p g q
theorem l_spPart  {vs:List V}{H:Hp}{Q:VK}{E:XK}(h:spPart  vs H Q E):vs.length=3:=spl3 h fun _ _ _=>rfl
theorem ok_parting (T:Tx K mg t):FnOk P w K mg base CX0 4 t.a_parting t.d_parting ["terms", "goal", "case"] spPart:=by
 have G_least_sum:=ok_least_sum (P:=P) (w:=w) (base:=base) T
 have G_greatest_sum:=ok_greatest_sum (P:=P) (w:=w) (base:=base) T
 have G_narrowed:=ok_narrowed (P:=P) (w:=w) (base:=base) T
 refine T.F_parting.ok c_parting (fun vs H Q E h=>l_spPart h) (fun cdv A outer s H vs Q E hr h=>?_)
 ·obtain ⟨p,g,q,rfl,zs,cs,b,hp,hq,ht,hc,hb,hbl,k⟩:=h
  refine ⟨_,(@pss_cons _ _ _ _ _ (@ps_set _ _ (3) _ _ _ _ c_parting.nd rfl (Or.inl rfl) (@pe_op _ _ _ _ _ _ _ _ on_sub (@pvN _ 1 _ _ (by rfl) (by trivial) (by decide) (by decide)) (@pe_call _ _ _ _ _ _ _ _ _ _ _ _ _ _ _ _ G_least_sum (hr.mono (by decide)) (by rfl) T.m_least_sum T.F_least_sum.kp T.b_least_sum .nil pass0 (@pa_c _ _ _ _ _ (@pvN _ 0 _ _ (by rfl) (by trivial) (by decide) (by decide)) (@pa_c _ _ _ _ _ (@pvN _ 2 _ _ (by rfl) (by trivial) (by decide) (by decide)) (@pa_nil _) (by rfl)) (by rfl)) (by decide) (by rfl) (by rfl))) (by rfl) (by trivial)) (@pss_cons _ _ _ _ _ (@ps_set _ _ (4) _ _ _ _ c_parting.nd rfl (Or.inl rfl) (@pe_op _ _ _ _ _ _ _ _ on_sub (@pe_call _ _ _ _ _ _ _ _ _ _ _ _ _ _ _ _ G_greatest_sum (hr.mono (by decide)) (by rfl) T.m_greatest_sum T.F_greatest_sum.kp T.b_greatest_sum .nil pass0 (@pa_c _ _ _ _ _ (@pvN _ 0 _ _ (by rfl) (by trivial) (by decide) (by decide)) (@pa_c _ _ _ _ _ (@pvN _ 2 _ _ (by rfl) (by trivial) (by decide) (by decide)) (@pa_nil _) (by rfl)) (by rfl)) (by decide) (by rfl) (by rfl)) (@pvN _ 1 _ _ (by rfl) (by trivial) (by decide) (by decide))) (by rfl) (by trivial)) (@pss_cons _ _ _ _ _ (@ps_set _ _ (5) _ _ _ _ c_parting.nd rfl (Or.inl rfl) (@pe_non _ _ _) (by rfl) (by trivial)) (@pss_cons _ _ _ _ _ (@ps_for _ _ _ _ _ _ _ _ PassesOwn.never rfl (@pi_enum _ _ _ _ _ _ _ _ (by rfl) T.z_enumerate (@pa_c _ _ _ _ _ (@pvN _ 2 _ _ (by rfl) (by trivial) (by decide) (by decide)) (@pa_nil _) (by rfl)) (by rfl)) ((@pg_tup _ _ _ _ _ (2) rfl (@pgs_consN _ _ _ _ _ (@pg_name _ _ (6) _ c_parting.nd rfl (Or.inl rfl) (by trivial)) (@pgs_consN _ _ _ _ _ (@pg_name _ _ (7) _ c_parting.nd rfl (Or.inl rfl) (by trivial)) (@pgs_nilN _) (by rfl)) (by rfl)) (by rfl) (by rfl)).mono fun _ _ _ _ h=>gTup_q h) (@pss_one _ _ _ (@ps_if _ _ _ _ _ _ _ _ (@pt_cmpRN _ _ _ _ _ _ _ _ on_lt (@pe_ix _ _ _ _ _ _ _ ix_q (@pvN _ 7 _ _ (by rfl) (by trivial) (by decide) (by decide)) (@pe_int _ _ _ _) (fun _ _=>rfl)) (@pe_ix _ _ _ _ _ _ _ ix_q (@pvN _ 7 _ _ (by rfl) (by trivial) (by decide) (by decide)) (@pe_int _ _ _ _) (fun _ _=>rfl)) (nomark _)) (@pss_cons _ _ _ _ _ (@ps_set _ _ (8) _ _ _ _ c_parting.nd rfl (Or.inl rfl) (@pe_call _ _ _ _ _ _ _ _ _ _ _ _ _ _ _ _ G_narrowed (hr.mono (by decide)) (by rfl) T.m_narrowed T.F_narrowed.kp T.b_narrowed .nil pass0 (@pa_c _ _ _ _ _ (@pe_ix _ _ _ _ _ _ _ ix_q (@pe_ix _ _ _ _ _ _ _ ix_q (@pvN _ 0 _ _ (by rfl) (by trivial) (by decide) (by decide)) (@pvN _ 6 _ _ (by rfl) (by trivial) (by decide) (by decide)) (fun _ _=>rfl)) (@pe_int _ _ _ _) (fun _ _=>rfl)) (@pa_c _ _ _ _ _ (@pvN _ 7 _ _ (by rfl) (by trivial) (by decide) (by decide)) (@pa_c _ _ _ _ _ (@pvN _ 3 _ _ (by rfl) (by trivial) (by decide) (by decide)) (@pa_c _ _ _ _ _ (@pvN _ 4 _ _ (by rfl) (by trivial) (by decide) (by decide)) (@pa_nil _) (by rfl)) (by rfl)) (by rfl)) (by rfl)) (by decide) (by rfl) (by rfl)) (by rfl) (by trivial)) (@pss_one _ _ _ (@ps_if _ _ _ _ _ _ _ _ (PW.pt (@pw_or _ _ _ _ _ _ _ (@pt_cmpRN _ _ _ _ _ _ _ _ op_qIs (@pvN _ 5 _ _ (by rfl) (by trivial) (by decide) (by decide)) (@pe_non _ _ _) (nomark _)) (@pw_or1 _ _ _ _ (@pt_cmpRN _ _ _ _ _ _ _ _ on_lt (@pe_op _ _ _ _ _ _ _ _ on_sub (@pe_ix _ _ _ _ _ _ _ ix_q (@pvN _ 8 _ _ (by rfl) (by trivial) (by decide) (by decide)) (@pe_int _ _ _ _) (fun _ _=>rfl)) (@pe_ix _ _ _ _ _ _ _ ix_q (@pvN _ 8 _ _ (by rfl) (by trivial) (by decide) (by decide)) (@pe_int _ _ _ _) (fun _ _=>rfl))) (@pe_op _ _ _ _ _ _ _ _ on_sub (@pe_ix _ _ _ _ _ _ _ ix_q (@pe_ix _ _ _ _ _ _ _ ix_q (@pvN _ 5 _ _ (by rfl) (by trivial) (by decide) (by decide)) (@pe_int _ _ _ _) (fun _ _=>rfl)) (@pe_int _ _ _ _) (fun _ _=>rfl)) (@pe_ix _ _ _ _ _ _ _ ix_q (@pe_ix _ _ _ _ _ _ _ ix_q (@pvN _ 5 _ _ (by rfl) (by trivial) (by decide) (by decide)) (@pe_int _ _ _ _) (fun _ _=>rfl)) (@pe_int _ _ _ _) (fun _ _=>rfl))) (nomark _))))) (@pss_one _ _ _ (@ps_set _ _ (5) _ _ _ _ c_parting.nd rfl (Or.inl rfl) (@pe_qTup _ _ _ _ _ (@pa_c _ _ _ _ _ (@pvN _ 6 _ _ (by rfl) (by trivial) (by decide) (by decide)) (@pa_c _ _ _ _ _ (@pvN _ 8 _ _ (by rfl) (by trivial) (by decide) (by decide)) (@pa_nil _) (by rfl)) (by rfl))) (by rfl) (by trivial))) (@pss_nil _)))) (@pss_nil _))) (by intros;rfl)) (@pss_cons _ _ _ _ _ (@ps_set _ _ (6) _ _ _ _ c_parting.nd rfl (Or.inl rfl) (@pe_ix _ _ _ _ _ _ _ ix_q (@pvN _ 5 _ _ (by rfl) (by trivial) (by decide) (by decide)) (@pe_int _ _ _ _) (fun _ _=>rfl)) (by rfl) (by trivial)) (@pss_cons _ _ _ _ _ (@ps_set _ _ (8) _ _ _ _ c_parting.nd rfl (Or.inl rfl) (@pe_ix _ _ _ _ _ _ _ ix_q (@pvN _ 5 _ _ (by rfl) (by trivial) (by decide) (by decide)) (@pe_int _ _ _ _) (fun _ _=>rfl)) (by rfl) (by trivial)) (@pss_cons _ _ _ _ _ (@ps_if _ _ _ _ _ _ _ _ (@pt_cmpRN _ _ _ _ _ _ _ _ on_lt (@pe_ix _ _ _ _ _ _ _ ix_q (@pvN _ 8 _ _ (by rfl) (by trivial) (by decide) (by decide)) (@pe_int _ _ _ _) (fun _ _=>rfl)) (@pe_ix _ _ _ _ _ _ _ ix_q (@pe_ix _ _ _ _ _ _ _ ix_q (@pvN _ 2 _ _ (by rfl) (by trivial) (by decide) (by decide)) (@pvN _ 6 _ _ (by rfl) (by trivial) (by decide) (by decide)) (fun _ _=>rfl)) (@pe_int _ _ _ _) (fun _ _=>rfl)) (nomark _)) (@pss_one _ _ _ (@ps_ret _ _ _ _ (@pe_qTup _ _ _ _ _ (@pa_c _ _ _ _ _ (@pe_str _ _ _ _) (@pa_c _ _ _ _ _ (@pvN _ 6 _ _ (by rfl) (by trivial) (by decide) (by decide)) (@pa_c _ _ _ _ _ (@pe_ix _ _ _ _ _ _ _ ix_q (@pvN _ 8 _ _ (by rfl) (by trivial) (by decide) (by decide)) (@pe_int _ _ _ _) (fun _ _=>rfl)) (@pa_nil _) (by rfl)) (by rfl)) (by rfl))))) (@pss_nil _)) (@pss_cons _ _ _ _ _ (@ps_if _ _ _ _ _ _ _ _ (@pt_cmpRN _ _ _ _ _ _ _ _ on_gt (@pe_ix _ _ _ _ _ _ _ ix_q (@pvN _ 8 _ _ (by rfl) (by trivial) (by decide) (by decide)) (@pe_int _ _ _ _) (fun _ _=>rfl)) (@pe_ix _ _ _ _ _ _ _ ix_q (@pe_ix _ _ _ _ _ _ _ ix_q (@pvN _ 2 _ _ (by rfl) (by trivial) (by decide) (by decide)) (@pvN _ 6 _ _ (by rfl) (by trivial) (by decide) (by decide)) (fun _ _=>rfl)) (@pe_int _ _ _ _) (fun _ _=>rfl)) (nomark _)) (@pss_one _ _ _ (@ps_ret _ _ _ _ (@pe_qTup _ _ _ _ _ (@pa_c _ _ _ _ _ (@pe_str _ _ _ _) (@pa_c _ _ _ _ _ (@pvN _ 6 _ _ (by rfl) (by trivial) (by decide) (by decide)) (@pa_c _ _ _ _ _ (@pe_op _ _ _ _ _ _ _ _ on_sub (@pe_ix _ _ _ _ _ _ _ ix_q (@pvN _ 8 _ _ (by rfl) (by trivial) (by decide) (by decide)) (@pe_int _ _ _ _) (fun _ _=>rfl)) (@pe_int _ _ _ _)) (@pa_nil _) (by rfl)) (by rfl)) (by rfl))))) (@pss_nil _)) (@pss_one _ _ _ (@ps_ret _ _ _ _ (@pe_qTup _ _ _ _ _ (@pa_c _ _ _ _ _ (@pe_str _ _ _ _) (@pa_c _ _ _ _ _ (@pvN _ 6 _ _ (by rfl) (by trivial) (by decide) (by decide)) (@pa_c _ _ _ _ _ (@pe_ix _ _ _ _ _ _ _ ix_q (@pe_ix _ _ _ _ _ _ _ ix_q (@pvN _ 2 _ _ (by rfl) (by trivial) (by decide) (by decide)) (@pvN _ 6 _ _ (by rfl) (by trivial) (by decide) (by decide)) (fun _ _=>rfl)) (@pe_int _ _ _ _) (fun _ _=>rfl)) (@pa_nil _) (by rfl)) (by rfl)) (by rfl))))))))))))),?_⟩
  rw [show start ["terms", "goal", "case", "above_least", "below_greatest", "best", "k", "bounds", "kept"] [.ref p,.int g,.ref q]=[some (.ref p),some (.int g),some (.ref q),none,none,none,none,none,none] from rfl]
  clear G_least_sum G_greatest_sum G_narrowed
  have h17:=ht.len
  have hcl:=hc.len
  obtain ⟨xs,hpx,alp⟩:=hp
  obtain ⟨ys,hqy,alq⟩:=hq
  have hp:TrAt H p zs:=⟨xs,hpx,alp⟩
  have hq:PrAt H q cs:=⟨ys,hqy,alq⟩
  have hyl:ys.length=cs.length:=alq.1
  have tl:∀ i,i < zs.length->1≤(zs.getD i default).1∧(zs.getD i default).1≤2000000000000000000:=fun i hi=>by
   rw [List.getD_eq_getElem?_getD,List.getElem?_eq_getElem hi]
   exact (ht.all _ (List.getElem_mem hi)).1
  replace k:=fun (_:Unit)=>k
  replace tl:=fun (_:Unit)=>tl
  replace alp:=fun (_:Unit)=>alp
  replace alq:=fun (_:Unit)=>alq
  replace hyl:=fun (_:Unit)=>hyl
  replace hcl:=fun (_:Unit)=>hcl
  replace hb:=fun (_:Unit)=>hb
  simp! only [and_true]
  rw [c_spLsum]
  refine ⟨zs,cs,hp,hq,ht,hc,fun H1 e1=>?_⟩
  simp! only [and_true]
  rw [c_spGsum]
  refine ⟨zs,cs,tr_ext hp e1,pr_ext hq e1,ht,hc,fun H2 e2=>?_⟩
  have e02:=e1.trans e2
  have hq2:=e02.at hqy
  clear e1 e2
  simp! only [and_true]
  generalize g - lsum zs cs=al at *
  generalize gsum zs cs - g=bg at *
  refine for_enum (xs:=ys) (fun i σ H'=>∃ (vb:V) (v6 v7 v8:Option V),σ=[some (.ref p),some (.int g),some (.ref q),some (.int al),some (.int bg),some vb,v6,v7,v8]∧Ext H H'∧BestV H' (bestF zs cs al bg i) vb) ⟨.non,none,none,none,rfl,e02,rfl⟩ (fun i σ H' ⟨_,_,_,_,_,e,_⟩=>e.at hqy) ?_ ?_
  ·rintro i u pp _ H3 H4 hi ⟨vb,v6,v7,v8,rfl,e3,bv⟩ hpp e4 h4
   have hic:i < cs.length:=by have:=(List.getElem?_eq_some_iff.mp hi).1;have:=hyl ();omega
   have hiz:i < zs.length:=by have:=hcl ();omega
   obtain ⟨c1,c2,hu⟩:=pr_get (alq ()) hic
   rw [Int.zero_add,atI_nat hi] at c2
   cases c2
   obtain ⟨z1,z2,hz⟩:=tr_get (alp ()) hiz
   rw [Int.zero_add] at z2
   have e04:=e3.trans e4
   have hu4:=e04.at hu
   have hz4:=e04.at hz
   have hp4:=e04.at hpx
   have tli:=tl () i hiz
   have bv4:=fun (_:Unit)=>bv.ext e4
   have bs:=best_succ zs cs al bg i
   generalize bestF zs cs al bg (i+1)=o1 at *
   generalize bestF zs cs al bg i=o0 at *
   generalize zs.getD i default=zi at *
   generalize cs.getD i default=ci at *
   replace bs:=fun (_:Unit)=>bs
   clear bv hi hpp hu hz k hb hq2
   by_cases hlt:ci.1 < ci.2
   ·have bs':=bs ()
    rw [if_pos hlt] at bs'
    replace bs':=fun (_:Unit)=>bs'
    clear bs
    simp! only [↓m_kBody]
    rw [c_spNarrow]
    refine ⟨ci,hu4,tli.1,tli.2,fun r5 H5 hr5 e5 h5=>?_⟩
    have e05:=e04.trans e5
    generalize narF zi.1 ci al bg=nr at *
    clear hr5
    cases o0 with
    | none=>
     have hvb:vb=.non:=bv4 ()
     subst hvb
     have bs2:o1=some (i,nr):=bs' ()
     clear bs' bv4
     simp! only [and_true]
     intro r6 H6 _ e6 h6
     refine ⟨_,_,_,_,rfl,e05.trans e6,?_⟩
     exact ⟨r6,r5,rfl,h6,e6.at h5⟩
    | some q0=>
     obtain ⟨rb,kb,hvb,hrb,hkb⟩:=bv4 ()
     subst hvb
     have hrb5:=e5.at hrb
     have hkb5:=e5.at hkb
     have bs2:o1=if nr.2 - nr.1 < q0.2.2 - q0.2.1 then some (i,nr) else some q0:=bs' ()
     replace bs2:=fun (_:Unit)=>bs2
     clear bs' bv4 hrb hkb
     by_cases hl2:nr.2 - nr.1 < q0.2.2 - q0.2.1
     ·have bs3:=bs2 ()
      rw [if_pos hl2] at bs3
      replace bs3:=fun (_:Unit)=>bs3
      clear bs2
      simp! only [and_true]
      intro r6 H6 _ e6 h6
      refine ⟨_,_,_,_,rfl,e05.trans e6,?_⟩
      rw [bs3 ()]
      exact ⟨r6,r5,rfl,h6,e6.at h5⟩
     ·have bs3:=bs2 ()
      rw [if_neg hl2] at bs3
      replace bs3:=fun (_:Unit)=>bs3
      clear bs2
      simp! only [and_true]
      refine ⟨_,_,_,_,rfl,e05,?_⟩
      rw [bs3 ()]
      exact ⟨rb,kb,rfl,hrb5,hkb5⟩
   ·have bs':=bs ()
    rw [if_neg hlt] at bs'
    replace bs':=fun (_:Unit)=>bs'
    clear bs
    simp! only [↓m_kBody]
    exact ⟨_,_,_,_,rfl,e04,by rw [bs' ()];exact bv4 ()⟩
  ·rintro _ H3 ⟨vb,v6,v7,v8,rfl,e3,bv⟩
   rw [hyl (),hcl (),hb ()] at bv
   obtain ⟨rb,kb,hvb,hrb,hkb⟩:=bv
   subst hvb
   have hbc:b.1 < cs.length:=by have:=hcl ();omega
   obtain ⟨c1,c2,hu⟩:=pr_get (alq ()) hbc
   rw [Int.zero_add] at c2
   have hu3:=e3.at hu
   have hq3:=e3.at hqy
   have hpk:∀ x,(if b.2.2 < (cs.getD b.1 default).2 then b.2.2 else if (cs.getD b.1 default).1 < b.2.1 then b.2.1 - 1 else (cs.getD b.1 default).1)=x->partK cs b=x:=fun x h=>h
   generalize partK cs b=pk at *
   generalize cs.getD b.1 default=cb at *
   replace hpk:=fun (_:Unit)=>hpk
   clear hu hq2
   by_cases h1:b.2.2 < cb.2
   ·simp! only [and_true]
    intro r4 H4 _ e4 h4
    exact k () r4 H4 (e3.trans e4) (by rw [h4,hpk () b.2.2 (by rw [if_pos h1])])
   by_cases h2:cb.1 < b.2.1
   ·simp! only [and_true]
    intro r4 H4 _ e4 h4
    exact k () r4 H4 (e3.trans e4) (by rw [h4,hpk () (b.2.1 - 1) (by rw [if_neg h1,if_pos h2])])
   ·simp! only [and_true]
    intro r4 H4 _ e4 h4
    exact k () r4 H4 (e3.trans e4) (by rw [h4,hpk () cb.1 (by rw [if_neg h1,if_neg h2])])
theorem cut_from (xs:List V) (z:Int) (h:0≤z):cutV xs (some z) none=xs.drop z.toNat:=by
 unfold cutV
 obtain ⟨n,rfl⟩:=Int.eq_ofNat_of_zero_le h
 rw [HT.sIx_none,HT.sIx_nat]
 show _=xs.drop n
 rcases Nat.le_total n xs.length with q|q
 ·rw [Nat.min_eq_left q]
  exact List.take_of_length_le (by rw [List.length_drop];omega)
 ·rw [Nat.min_eq_right q,List.drop_of_length_le (Nat.le_refl _),List.drop_of_length_le q,List.take_nil]
theorem cut_to (xs:List V) (z:Int) (h:0≤z):cutV xs none (some z)=xs.take z.toNat:=by
 unfold cutV
 obtain ⟨n,rfl⟩:=Int.eq_ofNat_of_zero_le h
 rw [HT.sIx_none,HT.sIx_nat,List.drop_zero,Nat.sub_zero]
 show xs.take (min n xs.length)=xs.take n
 rcases Nat.le_total n xs.length with q|q
 ·rw [Nat.min_eq_left q]
 ·rw [Nat.min_eq_right q,List.take_length,List.take_of_length_le q]
def DL (kvs:List (Key × V)) (L:Int->Int):Prop:=∀ t,(valV kvs (.inl t)).getD (.int 0)=.int (L t)
theorem DL.nil:DL [] (fun _=>0):=fun _=>rfl
theorem DL.put {kvs:List (Key × V)}{L:Int->Int}(h:DL kvs L) (a v:Int):DL (putK kvs (.inl a) (.int v)) (updF L a v):=fun t=>by
 rw [valV_put]
 unfold updF
 by_cases e:t=a
 ·rw [if_pos e,if_pos (by rw [e])];rfl
 ·rw [if_neg e,if_neg (fun q=>e (by cases q;rfl))]
  exact h t
theorem left_snoc {z:Tm3}{x:Int}:∀ {zs:List Tm3}{xs:List Int},xs.length=zs.length->(∀ y∈zs,¬ y.1=z.1)->leftF (zs++[z]) (xs++[x])=updF (leftF zs xs) z.1 (x - z.2.1)
 | [],[],_,_=>funext fun t=>by
  show (if z.1=t then x - z.2.1 else 0)=if t=z.1 then x - z.2.1 else 0
  by_cases e:z.1=t
  ·rw [if_pos e,if_pos e.symm]
  ·rw [if_neg e,if_neg (fun q=>e q.symm)]
 | [],_::_,h,_=>by simp at h
 | _::_,[],h,_=>by simp at h
 | y::zs,u::xs,h,hn=>funext fun t=>by
  have ih:=congrFun (left_snoc (z:=z) (x:=x) (zs:=zs) (xs:=xs) (by simpa using h) fun w hw=>hn w (List.mem_cons_of_mem _ hw)) t
  have hy:=hn y List.mem_cons_self
  show (if y.1=t then u - y.2.1 else leftF (zs++[z]) (xs++[x]) t)=if t=z.1 then x - z.2.1 else if y.1=t then u - y.2.1 else leftF zs xs t
  rw [ih]
  unfold updF
  by_cases e:t=z.1
  ·rw [if_pos e,if_pos e,if_neg (fun q=>hy (q.trans e))]
  ·rw [if_neg e,if_neg e]
theorem putK_len {κ:Type} [DecidableEq κ] (kvs:List (κ × V)) (k:κ) (v:V):(putK kvs k v).length≤kvs.length+1:=by
 unfold putK
 split
 ·rw [List.length_map];omega
 ·rw [List.length_append,List.length_singleton];exact Nat.le_refl _
abbrev B_spByNum (C:Addr) (u:Addr) (v:Addr) (p:Addr) (q:Addr) (H:Hp) (Q:VK) (E:XK):Prop:=∃ (r1 r2 f1 f2:Int) (A B:List (Int × Int)) (zs:List Tm3) (xs:List Int),ViewAt C H u r1 f1 A∧ViewAt C H v r2 f2 B∧A.length≤8∧B.length≤8∧TrAt H p zs∧zs.length≤17∧(zs.map fun z=>z.1).Nodup∧H q=some (.lst (xs.map V.int))∧xs.length=zs.length∧∀ (r a1 a2:Addr) (H':Hp),Ext H H'->H' r=some (.tup [.str "shared",.ref a1,.ref a2])->H' a1=some (.tup (((fillF (leftF zs xs) (pullL A B)).take A.length).map V.int))->H' a2=some (.tup (((fillF (leftF zs xs) (pullL A B)).drop A.length).map V.int))->Q (.ref r) H'
def spByNum (C:Addr):Sp:=fun vs H Q E=>∃ (u:Addr) (v:Addr) (p:Addr) (q:Addr),vs=[.ref u,.ref v,.ref p,.ref q]∧(B_spByNum C u v p q H Q E)
theorem c_spByNum (C:Addr) (u:Addr) (v:Addr) (p:Addr) (q:Addr) (H:Hp) (Q:VK) (E:XK):spByNum C [.ref u,.ref v,.ref p,.ref q] H Q E=(B_spByNum C u v p q H Q E):=spx4 (f:=fun (u:Addr) (v:Addr) (p:Addr) (q:Addr)=>[.ref u,.ref v,.ref p,.ref q]) (fun _ _ _ _ _ _ _ _ h=>by cases h;exact ⟨rfl,rfl,rfl,rfl⟩) u v p q
theorem l_spByNum (C:Addr){vs:List V}{H:Hp}{Q:VK}{E:XK}(h:spByNum C vs H Q E):vs.length=4:=spl4 h fun _ _ _ _=>rfl
theorem ok_places_by_numbers (T:Tx K mg t):FnOk P w K mg base CX0 2 t.a_places_by_numbers t.d_places_by_numbers ["one", "other", "terms", "numbers"] (spByNum t.a_View):=by
 have G_pulls:=ok_pulls (P:=P) (w:=w) (base:=base) T
 refine T.F_places_by_numbers.ok c_places_by_numbers (fun vs H Q E h=>l_spByNum _ h) (fun cdv A' outer s H vs Q E hr h=>?_)
 ·obtain ⟨u,v,p,q,rfl,r1,r2,f1,f2,A,B,zs,xs,vu,vv,hA,hB,⟨ts,hp,al⟩,h17,hnd,hq,hxl,k⟩:=h
  obtain ⟨dx,lx,hu,⟨ax,hax,alA⟩⟩:=vu.ob
  have c1:=T.cl_View
  have c3:=T.na_View_axes
  have g1:=viewF_axes r1 f1 lx
  refine ⟨_,(@pss_cons _ _ _ _ _ (@ps_set _ _ (4) _ _ _ _ c_places_by_numbers.nd rfl (Or.inl rfl) (@pe_nDNew _ _) (by rfl) (by trivial)) (@pss_cons _ _ _ _ _ (@ps_for _ _ _ _ _ _ _ _ PassesOwn.never rfl (@pi_zip _ _ _ _ _ _ _ _ _ (by rfl) T.z_zip (@pa_c _ _ _ _ _ (@pvN _ 2 _ _ (by rfl) (by trivial) (by decide) (by decide)) (@pa_c _ _ _ _ _ (@pvN _ 3 _ _ (by rfl) (by trivial) (by decide) (by decide)) (@pa_nil _) (by rfl)) (by rfl)) (by rfl) (by rfl)) ((@pg_tup _ _ _ _ _ (2) rfl (@pgs_consN _ _ _ _ _ (@pg_name _ _ (5) _ c_places_by_numbers.nd rfl (Or.inl rfl) (by trivial)) (@pgs_consN _ _ _ _ _ (@pg_name _ _ (6) _ c_places_by_numbers.nd rfl (Or.inl rfl) (by trivial)) (@pgs_nilN _) (by rfl)) (by rfl)) (by rfl) (by rfl)).mono fun _ _ _ _ h=>gTup_q h) (@pss_one _ _ _ (@ps_dput _ _ _ _ _ _ _ _ _ (units1 hr.units) (@pvN _ 4 _ _ (by rfl) (by trivial) (by decide) (by decide)) (@pe_ix _ _ _ _ _ _ _ ix_q (@pvN _ 5 _ _ (by rfl) (by trivial) (by decide) (by decide)) (@pe_int _ _ _ _) (fun _ _=>rfl)) (@pe_op _ _ _ _ _ _ _ _ on_sub (@pvN _ 6 _ _ (by rfl) (by trivial) (by decide) (by decide)) (@pe_ix _ _ _ _ _ _ _ ix_q (@pvN _ 5 _ _ (by rfl) (by trivial) (by decide) (by decide)) (@pe_int _ _ _ _) (fun _ _=>rfl))) rfl)) (by intros;rfl)) (@pss_cons _ _ _ _ _ (@ps_set _ _ (7) _ _ _ _ c_places_by_numbers.nd rfl (Or.inl rfl) (@pe_qLst _ _ _ _ (@pa_nil _)) (by rfl) (by trivial)) (@pss_cons _ _ _ _ _ (@ps_for _ _ _ _ _ _ _ _ PassesOwn.never rfl (@pi_seq _ _ _ _ (@pe_call _ _ _ _ _ _ _ _ _ _ _ _ _ _ _ _ G_pulls (hr.mono (by decide)) (by rfl) T.m_pulls T.F_pulls.kp T.b_pulls .nil pass0 (@pa_c _ _ _ _ _ (@pvN _ 0 _ _ (by rfl) (by trivial) (by decide) (by decide)) (@pa_c _ _ _ _ _ (@pvN _ 1 _ _ (by rfl) (by trivial) (by decide) (by decide)) (@pa_nil _) (by rfl)) (by rfl)) (by decide) (by rfl) (by rfl))) ((@pg_tup _ _ _ _ _ (2) rfl (@pgs_consN _ _ _ _ _ (@pg_name _ _ (8) _ c_places_by_numbers.nd rfl (Or.inl rfl) (by trivial)) (@pgs_consN _ _ _ _ _ (@pg_name _ _ (9) _ c_places_by_numbers.nd rfl (Or.inl rfl) (by trivial)) (@pgs_nilN _) (by rfl)) (by rfl)) (by rfl) (by rfl)).mono fun _ _ _ _ h=>gTup_q h) (@pss_cons _ _ _ _ _ (@ps_set _ _ (10) _ _ _ _ c_places_by_numbers.nd rfl (Or.inl rfl) (@pe_callB _ _ _ _ _ _ _ ("min") _ (call_qMin rfl) (by rfl) T.z_min (by decide +kernel) (@pa_c _ _ _ _ _ (@pe_op _ _ _ _ _ _ _ _ on_sub (@pvN _ 9 _ _ (by rfl) (by trivial) (by decide) (by decide)) (@pe_int _ _ _ _)) (@pa_c _ _ _ _ _ (@pe_dget2 _ _ _ _ _ _ _ _ _ (units1 hr.units) (@pvN _ 4 _ _ (by rfl) (by trivial) (by decide) (by decide)) (@pe_callB _ _ _ _ _ _ _ ("abs") _ call_qAbs (by rfl) T.z_abs (by decide +kernel) (@pa_c _ _ _ _ _ (@pvN _ 8 _ _ (by rfl) (by trivial) (by decide) (by decide)) (@pa_nil _) (by rfl)) (by decide) (by decide) (by rfl) (by rfl)) (@pe_int _ _ _ _) ⟨by rfl,by rfl,by rfl,by rfl⟩) (@pa_nil _) (by rfl)) (by rfl)) (by decide) (by decide) (by rfl) (by rfl)) (by rfl) (by trivial)) (@pss_cons _ _ _ _ _ (@ps_dput _ _ _ _ _ _ _ _ _ (units1 hr.units) (@pvN _ 4 _ _ (by rfl) (by trivial) (by decide) (by decide)) (@pe_callB _ _ _ _ _ _ _ ("abs") _ call_qAbs (by rfl) T.z_abs (by decide +kernel) (@pa_c _ _ _ _ _ (@pvN _ 8 _ _ (by rfl) (by trivial) (by decide) (by decide)) (@pa_nil _) (by rfl)) (by decide) (by decide) (by rfl) (by rfl)) (@pe_op _ _ _ _ _ _ _ _ on_sub (@pe_dget2 _ _ _ _ _ _ _ _ _ (units1 hr.units) (@pvN _ 4 _ _ (by rfl) (by trivial) (by decide) (by decide)) (@pe_callB _ _ _ _ _ _ _ ("abs") _ call_qAbs (by rfl) T.z_abs (by decide +kernel) (@pa_c _ _ _ _ _ (@pvN _ 8 _ _ (by rfl) (by trivial) (by decide) (by decide)) (@pa_nil _) (by rfl)) (by decide) (by decide) (by rfl) (by rfl)) (@pe_int _ _ _ _) ⟨by rfl,by rfl,by rfl,by rfl⟩) (@pvN _ 10 _ _ (by rfl) (by trivial) (by decide) (by decide))) rfl) (@pss_one _ _ _ (@ps_expr _ _ _ _ (@pe_bm _ _ _ _ _ _ _ _ _ _ _ _ PySem.F.plainAttrs_list PySem.F.slot_list_append PySem.F.type_list_append mt_append (@pvN _ 7 _ _ (by rfl) (by trivial) (by decide) (by decide)) (@pa_c _ _ _ _ _ (@pe_ifExp _ _ _ _ _ _ _ _ (@pt_cmpRN _ _ _ _ _ _ _ _ on_ge (@pvN _ 8 _ _ (by rfl) (by trivial) (by decide) (by decide)) (@pe_int _ _ _ _) (nomark _)) (@pvN _ 10 _ _ (by rfl) (by trivial) (by decide) (by decide)) (@pe_op _ _ _ _ _ _ _ _ on_sub (@pe_op _ _ _ _ _ _ _ _ on_sub (@pvN _ 9 _ _ (by rfl) (by trivial) (by decide) (by decide)) (@pe_int _ _ _ _)) (@pvN _ 10 _ _ (by rfl) (by trivial) (by decide) (by decide)))) (@pa_nil _) (by rfl)) (by rfl) (by rfl) (by rfl) (by rfl) (by rfl)) (by rfl))))) (by intros;rfl)) (@pss_cons _ _ _ _ _ (@ps_set _ _ (11) _ _ _ _ c_places_by_numbers.nd rfl (Or.inl rfl) (@pe_callB _ _ _ _ _ _ _ ("len") _ call_qLen (by rfl) T.z_len (by decide +kernel) (@pa_c _ _ _ _ _ (@pe_nFld _ _ _ _ _ (@pvN _ 0 _ _ (by rfl) (by trivial) (by decide) (by decide)) rfl) (@pa_nil _) (by rfl)) (by decide) (by decide) (by rfl) (by rfl)) (by rfl) (by trivial)) (@pss_one _ _ _ (@ps_ret _ _ _ _ (@pe_qTup _ _ _ _ _ (@pa_c _ _ _ _ _ (@pe_str _ _ _ _) (@pa_c _ _ _ _ _ (@pe_callTy _ _ _ _ _ _ _ _ _ call_nTuple (by rfl) T.z_tuple (by decide +kernel) (@pa_c _ _ _ _ _ (@pe_slice _ _ _ _ _ _ _ _ _ _ sl_n (@pvN _ 7 _ _ (by rfl) (by trivial) (by decide) (by decide)) (@po_none _) (@po_some _ _ _ (@pvN _ 11 _ _ (by rfl) (by trivial) (by decide) (by decide)))) (@pa_nil _) (by rfl)) (by decide) (by decide) (by rfl) (by rfl)) (@pa_c _ _ _ _ _ (@pe_callTy _ _ _ _ _ _ _ _ _ call_nTuple (by rfl) T.z_tuple (by decide +kernel) (@pa_c _ _ _ _ _ (@pe_slice _ _ _ _ _ _ _ _ _ _ sl_n (@pvN _ 7 _ _ (by rfl) (by trivial) (by decide) (by decide)) (@po_some _ _ _ (@pvN _ 11 _ _ (by rfl) (by trivial) (by decide) (by decide))) (@po_none _)) (@pa_nil _) (by rfl)) (by decide) (by decide) (by rfl) (by rfl)) (@pa_nil _) (by rfl)) (by rfl)) (by rfl)))))))))),?_⟩
  rw [show start ["one", "other", "terms", "numbers", "left", "term", "number", "place", "pace", "size", "taken", "many"] [.ref u,.ref v,.ref p,.ref q]=[some (.ref u),some (.ref v),some (.ref p),some (.ref q),none,none,none,none,none,none,none,none] from rfl]
  clear G_pulls
  have haxl:ax.length=A.length:=by rw [alA.1];unfold axL;rw [List.length_map]
  have htl:ts.length=zs.length:=al.1
  replace k:=fun (_:Unit)=>k
  replace hnd:=fun (_:Unit)=>hnd
  replace al:=fun (_:Unit)=>al
  replace haxl:=fun (_:Unit)=>haxl
  replace htl:=fun (_:Unit)=>htl
  replace hxl:=fun (_:Unit)=>hxl
  simp! only [and_true]
  intro d H1 hd1 e1 h1
  have hp1:=e1.at hp
  have hq1:=e1.at hq
  have hd0:=hd1
  clear hd1
  simp! only [and_true]
  refine for_zip (ka:=false) (kb:=false) (xs:=ts) (ys:=xs.map V.int) (fun i σ H'=>∃ (kvs:List (Key × V)) (v5 v6:Option V),σ=[some (.ref u),some (.ref v),some (.ref p),some (.ref q),some (.ref d),v5,v6,none,none,none,none,none]∧Ext H H'∧H' d=some (.dK kvs)∧kvs.length≤i∧DL kvs (leftF (zs.take i) (xs.take i))) ⟨[],none,none,rfl,e1,h1,Nat.le_refl _,DL.nil⟩ (fun i σ H' ⟨_,_,_,_,e,_⟩=>⟨e.at hp,e.at hq⟩) ?_ ?_
  ·rintro i x y w' _ H2 H3 hx hy ⟨kvs,v5,v6,rfl,e2,h2,hkl,dl⟩ hw e3 h3
   have hiz:i < zs.length:=by have:=(List.getElem?_eq_some_iff.mp hx).1;have:=htl ();omega
   have hzi:zs[i]? = some zs[i]:=List.getElem?_eq_getElem hiz
   obtain ⟨tq,rfl,htq⟩:=(al ()).2 i zs[i] x hzi hx
   rw [List.getElem?_map] at hy
   obtain ⟨n,hn,rfl⟩:=Option.map_eq_some_iff.mp hy
   have hz1:zs.take (i+1)=zs.take i++[zs[i]]:=by rw [List.take_add_one,hzi];rfl
   have hx1:xs.take (i+1)=xs.take i++[n]:=by rw [List.take_add_one,hn];rfl
   have hnew:∀ y∈zs.take i,¬ y.1=zs[i].1:=fun y hy e=>by
    obtain ⟨j,hj⟩:=List.mem_iff_getElem?.mp hy
    have hjl:j < i:=by have:=(List.getElem?_eq_some_iff.mp hj).1;rw [List.length_take] at this;omega
    rw [List.getElem?_take_of_lt hjl] at hj
    have hne:=List.pairwise_iff_getElem.mp (hnd ()) j i (by rw [List.length_map];omega) (by rw [List.length_map];omega) hjl
    rw [List.getElem_map,List.getElem_map] at hne
    have hj':zs[j]'(by omega)=y:=by have:=List.getElem?_eq_some_iff.mp hj;exact this.2
    exact hne (by rw [hj'];exact e)
   have hls:=left_snoc (z:=zs[i]) (x:=n) (zs:=zs.take i) (xs:=xs.take i) (by rw [List.length_take,List.length_take,hxl ()]) hnew
   rw [←hz1,←hx1] at hls
   have dl':=dl.put zs[i].1 (n - zs[i].2.1)
   rw [←hls] at dl'
   have e03:=e2.trans e3
   have ht3:=e03.at htq
   have h2_3:=e3.at h2
   have hkl':=putK_len kvs (Sum.inl zs[i].1:Key) (.int (n - zs[i].2.1))
   have lk:kvs.length < sizeLine:=lt5000 (by omega)
   generalize zs[i]=z at *
   generalize leftF (zs.take (i+1)) (xs.take (i+1))=L1 at *
   replace dl':=fun (_:Unit)=>dl'
   clear hx hy hzi hn hz1 hx1 hnew hls dl htq h2 k e2 e3 hp1 hq1 h1 e1
   simp! only [↓m_kBody]
   refine use_dp (k:=.inl z.1) h2_3 lk ?_
   exact ⟨_,_,_,rfl,e03.put hd0,upd_same,by omega,dl' ()⟩
  ·rintro _ H2 ⟨kvs,v5,v6,rfl,e2,h2,hkl,dl⟩
   have hmn:min ts.length (xs.map V.int).length=zs.length:=by rw [List.length_map,htl (),hxl ()];exact Nat.min_self _
   rw [hmn,List.take_length,List.take_of_length_le (by rw [hxl ()];exact Nat.le_refl _)] at dl
   rw [hmn] at hkl
   have hPl:(pullL A B).length=A.length+B.length:=by unfold pullL;rw [List.length_append,List.length_map,List.length_map]
   clear hp1 hq1 h1 e1 hmn hnd al
   simp! only [and_true]
   intro pl H3 hpl e3 h3
   have e03:=e2.trans e3
   have h2_3:=e3.at h2
   have hpl0:H pl=none:=e2.free hpl
   have ndp:d ≠ pl:=fun z=>by rw [z,hpl] at h2;cases h2
   clear hpl h2 e3
   simp! only [and_true]
   rw [c_spPulls]
   refine ⟨r1,r2,f1,f2,A,B,vu.ext e03,vv.ext e03,hA,hB,fun r H4 hr4 e4 t4=>?_⟩
   obtain ⟨ys,hy4,aly⟩:=t4
   have e04:=e03.trans e4
   have h2_4:=e4.at h2_3
   have h3_4:=e4.at h3
   have nrd:r ≠ d:=fun z=>by rw [z,h2_3] at hr4;cases hr4
   have nrp:r ≠ pl:=fun z=>by rw [z,h3] at hr4;cases hr4
   have hyl:ys.length=(pullL A B).length:=aly.1
   generalize pullL A B=P' at *
   generalize leftF zs xs=L0 at *
   replace aly:=fun (_:Unit)=>aly
   replace hyl:=fun (_:Unit)=>hyl
   replace hPl:=fun (_:Unit)=>hPl
   replace dl:=fun (_:Unit)=>dl
   clear hr4 h2_3 h3 e4
   simp! only [and_true]
   refine for_lst (xs:=ys) (fun i σ H'=>∃ (kvs:List (Key × V)) (L:Int->Int) (ps:List Int) (v8 v9 v10:Option V),σ=[some (.ref u),some (.ref v),some (.ref p),some (.ref q),some (.ref d),v5,v6,some (.ref pl),v8,v9,v10,none]∧Ext H H'∧(∀ b o,b ≠ d->b ≠ pl->H4 b=some o->H' b=some o)∧H' d=some (.dK kvs)∧H' pl=some (.lst (ps.map V.int))∧kvs.length≤17+i∧ps.length=i∧DL kvs L∧fillF L0 P'=ps++fillF L (P'.drop i)) ⟨kvs,L0,[],none,none,none,rfl,e04,fun _ _ _ _ h=>h,h2_4,h3_4,by omega,rfl,dl (),rfl⟩ (fun i σ H' _ ⟨_,_,_,_,_,_,_,_,kp,_⟩=>kp r _ nrd nrp hy4) ?_ ?_
   ·rintro i y _ H5 hi ⟨kvs,L,ps,v8,v9,v10,rfl,e5,kp,h5d,h5p,hkl5,hps,dl5,hfill⟩
    have hiP:i < P'.length:=by have:=(List.getElem?_eq_some_iff.mp hi).1;have:=hyl ();omega
    obtain ⟨tq,rfl,htq⟩:=(aly ()).2 i P'[i] y (List.getElem?_eq_getElem hiP) hi
    have ht5:=kp tq _ (fun e=>by rw [e,h2_4] at htq;cases htq) (fun e=>by rw [e,h3_4] at htq;cases htq) htq
    rw [List.drop_eq_getElem_cons hiP] at hfill
    have hf2:fillF L0 P'=(ps++[if 0≤P'[i].1 then tkF P'[i] L else P'[i].2 - 1 - tkF P'[i] L])++fillF (updF L (absI P'[i].1) (L (absI P'[i].1) - tkF P'[i] L)) (P'.drop (i+1)):=by
     rw [hfill,List.append_assoc];rfl
    have hP16:=hPl ()
    have b1:=dl5 (absI P'[i].1)
    have dl6:=dl5.put (absI P'[i].1) (L (absI P'[i].1) - tkF P'[i] L)
    have hkl':=putK_len kvs (Sum.inl (absI P'[i].1):Key) (.int (L (absI P'[i].1) - tkF P'[i] L))
    have lk:kvs.length < sizeLine:=lt5000 (by omega)
    have lp:ps.length < sizeLine:=lt5000 (by omega)
    have habs:(if P'[i].1 < 0 then -P'[i].1 else P'[i].1)=absI P'[i].1:=by unfold absI;split<;>omega
    have htk:(if L (absI P'[i].1) < P'[i].2 - 1 then L (absI P'[i].1) else P'[i].2 - 1)=tkF P'[i] L:=rfl
    generalize P'[i]=z at *
    replace hf2:=fun (_:Unit)=>hf2
    replace hps:=fun (_:Unit)=>hps
    replace dl6:=fun (_:Unit)=>dl6
    clear hfill dl5 hi htq k hy4 h2_4 h3_4 e04 e03 e2 dl
    simp! only [↓m_kBody]
    refine use_ge0 h5d ?_
    simp! only [and_true]
    refine use_ge (k:=.inl (absI z.1)) h5d ?_
    rw [b1]
    simp! only [and_true]
    refine use_ge0 h5d ?_
    simp! only [and_true]
    refine use_ge (k:=.inl (absI z.1)) h5d ?_
    rw [b1]
    simp! only [and_true]
    refine use_dp (k:=.inl (absI z.1)) h5d lk ?_
    have h6d:upd H5 d (.dK (putK kvs (.inl (absI z.1)) (.int (L (absI z.1) - tkF z L)))) d=some (.dK (putK kvs (.inl (absI z.1)) (.int (L (absI z.1) - tkF z L)))):=upd_same
    have h6p:upd H5 d (.dK (putK kvs (.inl (absI z.1)) (.int (L (absI z.1) - tkF z L)))) pl=some (.lst (ps.map V.int)):=by rw [upd_ne (Ne.symm ndp)];exact h5p
    have e06:Ext H (upd H5 d (.dK (putK kvs (.inl (absI z.1)) (.int (L (absI z.1) - tkF z L))))):=e5.put hd0
    have kp6:∀ b o,b ≠ d->b ≠ pl->H4 b=some o->upd H5 d (.dK (putK kvs (.inl (absI z.1)) (.int (L (absI z.1) - tkF z L)))) b=some o:=fun b o x1 x2 h=>by rw [upd_ne x1];exact kp b o x1 x2 h
    generalize upd H5 d (.dK (putK kvs (.inl (absI z.1)) (.int (L (absI z.1) - tkF z L))))=H6 at *
    replace kp6:=fun (_:Unit)=>kp6
    clear h5d h5p kp e5 ht5
    by_cases hz0:0≤z.1
    ·have hf3:=hf2 ()
     rw [if_pos hz0] at hf3
     replace hf3:=fun (_:Unit)=>hf3
     clear hf2
     simp! only [and_true]
     exact ⟨_,_,ps++[tkF z L],_,_,_,rfl,e06.put hpl0,fun b o x1 x2 h=>by rw [upd_ne x2];exact kp6 () b o x1 x2 h,by rw [upd_ne ndp];exact h6d,by rw [List.map_append];rfl,by omega,by rw [List.length_append,List.length_singleton,hps ()],dl6 (),hf3 ()⟩
    ·have hf3:=hf2 ()
     rw [if_neg hz0] at hf3
     replace hf3:=fun (_:Unit)=>hf3
     clear hf2
     simp! only [and_true]
     exact ⟨_,_,ps++[z.2 - 1 - tkF z L],_,_,_,rfl,e06.put hpl0,fun b o x1 x2 h=>by rw [upd_ne x2];exact kp6 () b o x1 x2 h,by rw [upd_ne ndp];exact h6d,by rw [List.map_append];rfl,by omega,by rw [List.length_append,List.length_singleton,hps ()],dl6 (),hf3 ()⟩
   ·rintro _ H5 ⟨kvs,L,ps,v8,v9,v10,rfl,e5,kp,h5d,h5p,hkl5,hps,dl5,hfill⟩
    rw [hyl (),List.drop_length] at hfill
    have hfe:fillF L0 P'=ps:=by rw [hfill];show ps++[]=ps;rw [List.append_nil]
    rw [hfe] at k
    have hu5:=e5.at hu
    have hax5:=e5.at hax
    have ct:=cut_to (ps.map V.int) (A.length:Int) (by omega)
    have cf:=cut_from (ps.map V.int) (A.length:Int) (by omega)
    rw [Int.toNat_natCast] at ct cf
    have hal:(ax.length:Int)=(A.length:Int):=by rw [haxl ()]
    clear kp h5d hkl5 dl5 hfill hfe aly hy4 h2_4 h3_4
    simp! only [and_true]
    intro q6 H6 _ e6 h6
    clear hu5 hax5
    have h5p6:=e6.at h5p
    simp! only [and_true]
    intro q7 H7 _ e7 h7
    have h5p7:=e7.at h5p6
    simp! only [and_true]
    intro q8 H8 _ e8 h8
    have h7_8:=e8.at h7
    simp! only [and_true]
    intro q9 H9 _ e9 h9
    have h7_9:=e9.at h7_8
    simp! only [and_true]
    intro r10 H10 _ e10 h10
    exact k () r10 q7 q9 H10 (e5.trans (e6.trans (e7.trans (e8.trans (e9.trans e10))))) h10 (by rw [e10.at h7_9,List.map_take]) (by rw [e10.at h9,List.map_drop])
def CsV (H:Hp) (cA pA:Addr) (c:Bx) (y:V):Prop:=∃ a,y=.ref a∧a ≠ cA∧a ≠ pA∧PrAt H a c
def StkV (H:Hp) (cA pA:Addr):List Bx->List V->Prop
 | [],cl=>cl=[]
 | c::st,cl=>∃ cl0 y,cl=cl0++[y]∧CsV H cA pA c y∧StkV H cA pA st cl0
theorem CsV.ext {H H':Hp}{cA pA:Addr}{c:Bx}{y:V}(h:CsV H cA pA c y) (e:Ext H H'):CsV H' cA pA c y:=by
 obtain ⟨a,h1,h2,h3,h4⟩:=h
 exact ⟨a,h1,h2,h3,pr_ext h4 e⟩
theorem StkV.ext {H H':Hp}{cA pA:Addr}(e:Ext H H'):∀ {st:List Bx}{cl:List V},StkV H cA pA st cl->StkV H' cA pA st cl
 | [],_,h=>h
 | _::_,_,⟨cl0,y,h1,h2,h3⟩=>⟨cl0,y,h1,h2.ext e,StkV.ext e h3⟩
theorem CsV.upd {H:Hp}{cA pA b:Addr}{c:Bx}{y:V}{xs:List V}{o:HO}(h:CsV H cA pA c y) (hb:H b=some (.lst xs)) (hb2:b=cA∨b=pA):CsV (upd H b o) cA pA c y:=by
 obtain ⟨a,h1,h2,h3,ys,h4,al⟩:=h
 have hne:a ≠ b:=fun e=>by
  rcases hb2 with q|q
  ·exact h2 (e.trans q)
  ·exact h3 (e.trans q)
 exact ⟨a,h1,h2,h3,ys,by rw [upd_ne hne];exact h4,al.imp fun _ _ t=>axP.upd t hb⟩
theorem StkV.upd {H:Hp}{cA pA b:Addr}{xs:List V}{o:HO}(hb:H b=some (.lst xs)) (hb2:b=cA∨b=pA):∀ {st:List Bx}{cl:List V},StkV H cA pA st cl->StkV (upd H b o) cA pA st cl
 | [],_,h=>h
 | _::_,_,⟨cl0,y,h1,h2,h3⟩=>⟨cl0,y,h1,h2.upd hb hb2,StkV.upd hb hb2 h3⟩
theorem StkV.len {H:Hp}{cA pA:Addr}:∀ {st:List Bx}{cl:List V},StkV H cA pA st cl->cl.length=st.length
 | [],_,h=>by have h':_=[]:=h;rw [h'];rfl
 | _::_,_,⟨cl0,y,h1,_,h3⟩=>by rw [h1,List.length_append,StkV.len h3];rfl
theorem terms_fst (ks:List Int) (P:List (Int × Int)):(termsF ks P).map (fun z=>z.1)=ks:=by
 unfold termsF
 rw [List.map_map]
 exact List.map_id ks
theorem in_first {zs:List Tm3}{c:Bx}{xs:List Int}(h:CsOk zs c) (hx:InB c xs):InB (zs.map fun z=>z.2) xs:=by
 refine in_mono hx (by rw [List.length_map,h.len]) fun i hi=>?_
 have hz:i < zs.length:=by rw [←h.len];exact hi
 have:=h.at hz
 have e:(zs.map fun z=>z.2).getD i default=(zs.getD i default).2:=by
  rw [List.getD_eq_getElem?_getD,List.getD_eq_getElem?_getD,List.getElem?_map,List.getElem?_eq_getElem hz];rfl
 rw [e]
 exact ⟨this.1,this.2.2⟩
theorem first_ok {zs:List Tm3}(h:TmsOk zs):CsOk zs (zs.map fun z=>z.2):=by
 refine CsOk.of (by rw [List.length_map]) fun i hi=>?_
 have e:(zs.map fun z=>z.2).getD i default=(zs.getD i default).2:=by
  rw [List.getD_eq_getElem?_getD,List.getD_eq_getElem?_getD,List.getElem?_map,List.getElem?_eq_getElem hi];rfl
 have hm:zs.getD i default=zs[i]:=by rw [List.getD_eq_getElem?_getD,List.getElem?_eq_getElem hi];rfl
 rw [e,hm]
 have:=(h.all _ (List.getElem_mem hi)).2.2.1
 exact ⟨Int.le_refl _,by omega,Int.le_refl _⟩
def plF (ks:List Int) (P:List (Int × Int)) (xs:List Int):List Int:=fillF (leftF (termsF ks P) xs) P
def NF (ks:List Int) (P:List (Int × Int)):Nat:=(2 * prodF ks (capF P)).toNat
theorem StpV.upd {H:Hp}{s:List V}{v:V}{b:Addr}{xs:List V}{o:HO}(h:StpV H s v) (hb:H b=some (.lst xs)):StpV (upd H b o) s v:=by
 obtain ⟨r,h1,h2⟩:=h
 exact ⟨r,h1,by rw [upd_ne (fun e=>by rw [e,hb] at h2;cases h2)];exact h2⟩
def PapL (H:Hp) (pp:List (List V)) (ys:List V):Prop:=Al (fun s y=>StpV H s y) pp ys
theorem PapL.ext {H H':Hp}{pp:List (List V)}{ys:List V}(h:PapL H pp ys) (e:Ext H H'):PapL H' pp ys:=Al.imp h fun _ _ t=>StpV.ext t e
theorem PapL.upd {H:Hp}{pp:List (List V)}{ys:List V}{b:Addr}{xs:List V}{o:HO}(h:PapL H pp ys) (hb:H b=some (.lst xs)):PapL (upd H b o) pp ys:=Al.imp h fun _ _ t=>StpV.upd t hb
theorem PapL.snoc {H:Hp}{pp:List (List V)}{ys:List V}{s:List V}{r:Addr}(h:PapL H pp ys) (hr:H r=some (.tup s)):PapL H (pp++[s]) (ys++[.ref r]):=al_app' h (Al.cons' ⟨r,rfl,hr⟩ Al.nil)
def PapAt (H:Hp) (a:Addr) (pp:List (List V)):Prop:=∃ ys,H a=some (.lst ys)∧PapL H pp ys
structure ShOk (A B:List (Int × Int)) (most:Int):Prop where
 tm:∀ ks,KsOk ks (pullL A B)->TmsOk (termsF ks (pullL A B))∧2 * prodF ks (capF (pullL A B)) - 1≤4000∧2 * prodF ks (capF (pullL A B)) - 1≤most
structure ShRes (A B:List (Int × Int)) (g:Int) (ks:List Int) (o:Option (List Int)) (pp:List (List V)):Prop where
 kok:KsOk ks (pullL A B)
 out:seaF (termsF ks (pullL A B)) g (NF ks (pullL A B)) [(termsF ks (pullL A B)).map fun z=>z.2] []=(o,pp)
 sh:∀ xs,o=some xs->InP (pullL A B) (plF ks (pullL A B) xs)∧dotQ (pullL A B) (plF ks (pullL A B) xs)=g∧InB ((termsF ks (pullL A B)).map fun z=>z.2) xs∧valL (termsF ks (pullL A B)) xs=g
 ap:o=none->Rep (termsF ks (pullL A B)) g [(termsF ks (pullL A B)).map fun z=>z.2] pp []∧(pp.length:Int)≤2 * prodF ks (capF (pullL A B)) - 1
def ShV (H0 H:Hp) (r:Addr) (n:Nat) (ks:List Int) (P:List (Int × Int)) (pp:List (List V)):Option (List Int)->Prop
 | some xs=>∃ a1 a2,H r=some (.tup [.str "shared",.ref a1,.ref a2])∧H a1=some (.tup (((plF ks P xs).take n).map V.int))∧H a2=some (.tup (((plF ks P xs).drop n).map V.int))
 | none=>∃ a1,H0 a1=none∧H r=some (.tup [.str "apart",.ref a1])∧PapAt H a1 pp
abbrev B_spShares (C:Addr) (u:Addr) (v:Addr) (m:Int) (H:Hp) (Q:VK) (E:XK):Prop:=∃ (room f1 f2:Int) (A B:List (Int × Int)),ViewAt C H u room f1 A∧ViewAt C H v room f2 B∧Axes A∧Axes B∧1≤m∧m≤100000∧ShOk A B m∧∀ (ks:List Int) (o:Option (List Int)) (pp:List (List V)) (r:Addr) (H':Hp),Ext H H'->ShRes A B (f2 - f1) ks o pp->ShV H H' r A.length ks (pullL A B) pp o->Q (.ref r) H'
def spShares (C:Addr):Sp:=fun vs H Q E=>∃ (u:Addr) (v:Addr) (m:Int),vs=[.ref u,.ref v,.int m]∧(B_spShares C u v m H Q E)
theorem c_spShares (C:Addr) (u:Addr) (v:Addr) (m:Int) (H:Hp) (Q:VK) (E:XK):spShares C [.ref u,.ref v,.int m] H Q E=(B_spShares C u v m H Q E):=spx3 (f:=fun (u:Addr) (v:Addr) (m:Int)=>[.ref u,.ref v,.int m]) (fun _ _ _ _ _ _ h=>by cases h;exact ⟨rfl,rfl,rfl⟩) u v m
theorem l_spShares (C:Addr){vs:List V}{H:Hp}{Q:VK}{E:XK}(h:spShares C vs H Q E):vs.length=3:=spl3 h fun _ _ _=>rfl
theorem ok_shares (T:Tx K mg t):FnOk P w K mg base CX0 5 t.a_shares t.d_shares ["one", "other", "most"] (spShares t.a_View):=by
 have G_gathered:=ok_gathered (P:=P) (w:=w) (base:=base) T
 have G_is_whole:=ok_is_whole (P:=P) (w:=w) (base:=base) T
 have G_first_case:=ok_first_case (P:=P) (w:=w) (base:=base) T
 have G_end_of:=ok_end_of (P:=P) (w:=w) (base:=base) T
 have G_numbers_at_once:=ok_numbers_at_once (P:=P) (w:=w) (base:=base) T
 have G_places_by_numbers:=ok_places_by_numbers (P:=P) (w:=w) (base:=base) T
 have G_parting:=ok_parting (P:=P) (w:=w) (base:=base) T
 have G_parted:=ok_parted (P:=P) (w:=w) (base:=base) T
 refine T.F_shares.ok c_shares (fun vs H Q E h=>l_spShares _ h) (fun cdv A' outer s H vs Q E hr h=>?_)
 ·obtain ⟨u,v,most,rfl,room,f1,f2,A,B,vu,vv,hA,hB,m1,m2,sh,k⟩:=h
  refine ⟨_,(@pss_cons _ _ _ _ _ (@ps_set _ _ (3) _ _ _ _ c_shares.nd rfl (Or.inl rfl) (@pe_call _ _ _ _ _ _ _ _ _ _ _ _ _ _ _ _ G_gathered (hr.mono (by decide)) (by rfl) T.m_gathered T.F_gathered.kp T.b_gathered .nil pass0 (@pa_c _ _ _ _ _ (@pvN _ 0 _ _ (by rfl) (by trivial) (by decide) (by decide)) (@pa_c _ _ _ _ _ (@pvN _ 1 _ _ (by rfl) (by trivial) (by decide) (by decide)) (@pa_nil _) (by rfl)) (by rfl)) (by decide) (by rfl) (by rfl)) (by rfl) (by trivial)) (@pss_cons _ _ _ _ _ (@ps_if _ _ _ _ _ _ _ _ (PW.pt (@pw_or _ _ _ _ _ _ _ (@pt_not _ _ _ _ (@pt_valN _ _ _ (@pe_call _ _ _ _ _ _ _ _ _ _ _ _ _ _ _ _ G_is_whole (hr.mono (by decide)) (by rfl) T.m_is_whole T.F_is_whole.kp T.b_is_whole .nil pass0 (@pa_c _ _ _ _ _ (@pvN _ 2 _ _ (by rfl) (by trivial) (by decide) (by decide)) (@pa_nil _) (by rfl)) (by decide) (by rfl) (by rfl)) (by intros;rfl))) (@pw_or _ _ _ _ _ _ _ (@pt_cmpRN _ _ _ _ _ _ _ _ on_lt (@pvN _ 2 _ _ (by rfl) (by trivial) (by decide) (by decide)) (@pe_int _ _ _ _) (nomark _)) (@pw_or1 _ _ _ _ (@pt_cmpRN _ _ _ _ _ _ _ _ on_gt (@pvN _ 2 _ _ (by rfl) (by trivial) (by decide) (by decide)) (@pe_glob _ _ (.int 100000) _ _ (by rfl) T.m_MOST_CASES.choose_spec ⟨_,rfl⟩ (by decide)) (nomark _)))))) (@pss_one _ _ _ (@ps_never _ _)) (@pss_nil _)) (@pss_cons _ _ _ _ _ (@ps_set _ _ (4) _ _ _ _ c_shares.nd rfl (Or.inl rfl) (@pe_ix _ _ _ _ _ _ _ ix_q (@pvN _ 3 _ _ (by rfl) (by trivial) (by decide) (by decide)) (@pe_int _ _ _ _) (fun _ _=>rfl)) (by rfl) (by trivial)) (@pss_cons _ _ _ _ _ (@ps_set _ _ (5) _ _ _ _ c_shares.nd rfl (Or.inl rfl) (@pe_ix _ _ _ _ _ _ _ ix_q (@pvN _ 3 _ _ (by rfl) (by trivial) (by decide) (by decide)) (@pe_int _ _ _ _) (fun _ _=>rfl)) (by rfl) (by trivial)) (@pss_cons _ _ _ _ _ (@ps_set _ _ (6) _ _ _ _ c_shares.nd rfl (Or.inl rfl) (@pe_qLst _ _ _ _ (@pa_c _ _ _ _ _ (@pe_call _ _ _ _ _ _ _ _ _ _ _ _ _ _ _ _ G_first_case (hr.mono (by decide)) (by rfl) T.m_first_case T.F_first_case.kp T.b_first_case .nil pass0 (@pa_c _ _ _ _ _ (@pvN _ 4 _ _ (by rfl) (by trivial) (by decide) (by decide)) (@pa_nil _) (by rfl)) (by decide) (by rfl) (by rfl)) (@pa_nil _) (by rfl))) (by rfl) (by trivial)) (@pss_cons _ _ _ _ _ (@ps_set _ _ (7) _ _ _ _ c_shares.nd rfl (Or.inl rfl) (@pe_qLst _ _ _ _ (@pa_nil _)) (by rfl) (by trivial)) (@pss_cons _ _ _ _ _ (@ps_set _ _ (8) _ _ _ _ c_shares.nd rfl (Or.inl rfl) (@pe_int _ _ _ _) (by rfl) (by trivial)) (@pss_cons _ _ _ _ _ (@ps_while _ _ _ _ _ _ PassesOwn.leaving (@pt_cmpRN _ _ _ _ _ _ _ _ on_gt (@pe_callB _ _ _ _ _ _ _ ("len") _ call_qLen (by rfl) T.z_len (by decide +kernel) (@pa_c _ _ _ _ _ (@pvN _ 6 _ _ (by rfl) (by trivial) (by decide) (by decide)) (@pa_nil _) (by rfl)) (by decide) (by decide) (by rfl) (by rfl)) (@pe_int _ _ _ _) (nomark _)) (@pss_cons _ _ _ _ _ (@ps_if _ _ _ _ _ _ _ _ (@pt_cmpRN _ _ _ _ _ _ _ _ (op_qEq hr.units) (@pvN _ 8 _ _ (by rfl) (by trivial) (by decide) (by decide)) (@pvN _ 2 _ _ (by rfl) (by trivial) (by decide) (by decide)) (nomark _)) (@pss_one _ _ _ (@ps_ret _ _ _ _ (@pe_qTup _ _ _ _ _ (@pa_c _ _ _ _ _ (@pe_str _ _ _ _) (@pa_nil _) (by rfl))))) (@pss_nil _)) (@pss_cons _ _ _ _ _ (@ps_set _ _ (8) _ _ _ _ c_shares.nd rfl (Or.inl rfl) (@pe_op _ _ _ _ _ _ _ _ on_add (@pvN _ 8 _ _ (by rfl) (by trivial) (by decide) (by decide)) (@pe_int _ _ _ _)) (by rfl) (by trivial)) (@pss_cons _ _ _ _ _ (@ps_set _ _ (9) _ _ _ _ c_shares.nd rfl (Or.inl rfl) (@pe_bm0 _ _ _ _ _ _ _ _ _ PySem.F.plainAttrs_list PySem.F.slot_list_pop PySem.F.type_list_pop mt_pop (@pvN _ 6 _ _ (by rfl) (by trivial) (by decide) (by decide)) (by rfl) (by rfl)) (by rfl) (by trivial)) (@pss_cons _ _ _ _ _ (@ps_set _ _ (10) _ _ _ _ c_shares.nd rfl (Or.inl rfl) (@pe_call _ _ _ _ _ _ _ _ _ _ _ _ _ _ _ _ G_end_of (hr.mono (by decide)) (by rfl) T.m_end_of T.F_end_of.kp T.b_end_of .nil pass0 (@pa_c _ _ _ _ _ (@pvN _ 4 _ _ (by rfl) (by trivial) (by decide) (by decide)) (@pa_c _ _ _ _ _ (@pvN _ 5 _ _ (by rfl) (by trivial) (by decide) (by decide)) (@pa_c _ _ _ _ _ (@pvN _ 9 _ _ (by rfl) (by trivial) (by decide) (by decide)) (@pa_nil _) (by rfl)) (by rfl)) (by rfl)) (by decide) (by rfl) (by rfl)) (by rfl) (by trivial)) (@pss_cons _ _ _ _ _ (@ps_if _ _ _ _ _ _ _ _ (@pt_cmpRN _ _ _ _ _ _ _ _ op_qIs (@pvN _ 10 _ _ (by rfl) (by trivial) (by decide) (by decide)) (@pe_non _ _ _) (nomark _)) (@pss_cons _ _ _ _ _ (@ps_set _ _ (11) _ _ _ _ c_shares.nd rfl (Or.inl rfl) (@pe_call _ _ _ _ _ _ _ _ _ _ _ _ _ _ _ _ G_numbers_at_once (hr.mono (by decide)) (by rfl) T.m_numbers_at_once T.F_numbers_at_once.kp T.b_numbers_at_once .nil pass0 (@pa_c _ _ _ _ _ (@pvN _ 4 _ _ (by rfl) (by trivial) (by decide) (by decide)) (@pa_c _ _ _ _ _ (@pvN _ 5 _ _ (by rfl) (by trivial) (by decide) (by decide)) (@pa_c _ _ _ _ _ (@pvN _ 9 _ _ (by rfl) (by trivial) (by decide) (by decide)) (@pa_nil _) (by rfl)) (by rfl)) (by rfl)) (by decide) (by rfl) (by rfl)) (by rfl) (by trivial)) (@pss_cons _ _ _ _ _ (@ps_if _ _ _ _ _ _ _ _ (@pt_cmpRN _ _ _ _ _ _ _ _ op_qIsnt (@pvN _ 11 _ _ (by rfl) (by trivial) (by decide) (by decide)) (@pe_non _ _ _) (nomark _)) (@pss_one _ _ _ (@ps_ret _ _ _ _ (@pe_call _ _ _ _ _ _ _ _ _ _ _ _ _ _ _ _ G_places_by_numbers (hr.mono (by decide)) (by rfl) T.m_places_by_numbers T.F_places_by_numbers.kp T.b_places_by_numbers .nil pass0 (@pa_c _ _ _ _ _ (@pvN _ 0 _ _ (by rfl) (by trivial) (by decide) (by decide)) (@pa_c _ _ _ _ _ (@pvN _ 1 _ _ (by rfl) (by trivial) (by decide) (by decide)) (@pa_c _ _ _ _ _ (@pvN _ 4 _ _ (by rfl) (by trivial) (by decide) (by decide)) (@pa_c _ _ _ _ _ (@pvN _ 11 _ _ (by rfl) (by trivial) (by decide) (by decide)) (@pa_nil _) (by rfl)) (by rfl)) (by rfl)) (by rfl)) (by decide) (by rfl) (by rfl)))) (@pss_nil _)) (@pss_cons _ _ _ _ _ (@ps_set _ _ (10) _ _ _ _ c_shares.nd rfl (Or.inl rfl) (@pe_call _ _ _ _ _ _ _ _ _ _ _ _ _ _ _ _ G_parting (hr.mono (by decide)) (by rfl) T.m_parting T.F_parting.kp T.b_parting .nil pass0 (@pa_c _ _ _ _ _ (@pvN _ 4 _ _ (by rfl) (by trivial) (by decide) (by decide)) (@pa_c _ _ _ _ _ (@pvN _ 5 _ _ (by rfl) (by trivial) (by decide) (by decide)) (@pa_c _ _ _ _ _ (@pvN _ 9 _ _ (by rfl) (by trivial) (by decide) (by decide)) (@pa_nil _) (by rfl)) (by rfl)) (by rfl)) (by decide) (by rfl) (by rfl)) (by rfl) (by trivial)) (@pss_one _ _ _ (@ps_expr _ _ _ _ (@pe_bm _ _ _ _ _ _ _ _ _ _ _ _ PySem.F.plainAttrs_list PySem.F.slot_list_extend PySem.F.type_list_extend mt_extend (@pvN _ 6 _ _ (by rfl) (by trivial) (by decide) (by decide)) (@pa_c _ _ _ _ _ (@pe_call _ _ _ _ _ _ _ _ _ _ _ _ _ _ _ _ G_parted (hr.mono (by decide)) (by rfl) T.m_parted T.F_parted.kp T.b_parted .nil pass0 (@pa_c _ _ _ _ _ (@pvN _ 9 _ _ (by rfl) (by trivial) (by decide) (by decide)) (@pa_c _ _ _ _ _ (@pe_ix _ _ _ _ _ _ _ ix_q (@pvN _ 10 _ _ (by rfl) (by trivial) (by decide) (by decide)) (@pe_int _ _ _ _) (fun _ _=>rfl)) (@pa_c _ _ _ _ _ (@pe_ix _ _ _ _ _ _ _ ix_q (@pvN _ 10 _ _ (by rfl) (by trivial) (by decide) (by decide)) (@pe_int _ _ _ _) (fun _ _=>rfl)) (@pa_nil _) (by rfl)) (by rfl)) (by rfl)) (by decide) (by rfl) (by rfl)) (@pa_nil _) (by rfl)) (by rfl) (by rfl) (by rfl) (by rfl) (by rfl)) (by rfl)))))) (@pss_nil _)) (@pss_one _ _ _ (@ps_expr _ _ _ _ (@pe_bm _ _ _ _ _ _ _ _ _ _ _ _ PySem.F.plainAttrs_list PySem.F.slot_list_append PySem.F.type_list_append mt_append (@pvN _ 7 _ _ (by rfl) (by trivial) (by decide) (by decide)) (@pa_c _ _ _ _ _ (@pvN _ 10 _ _ (by rfl) (by trivial) (by decide) (by decide)) (@pa_nil _) (by rfl)) (by rfl) (by rfl) (by rfl) (by rfl) (by rfl)) (by rfl))))))))) (@pss_one _ _ _ (@ps_ret _ _ _ _ (@pe_qTup _ _ _ _ _ (@pa_c _ _ _ _ _ (@pe_str _ _ _ _) (@pa_c _ _ _ _ _ (@pvN _ 7 _ _ (by rfl) (by trivial) (by decide) (by decide)) (@pa_nil _) (by rfl)) (by rfl))))))))))))),?_⟩
  rw [show start ["one", "other", "most", "found", "terms", "goal", "cases", "paper", "looked", "case", "step", "numbers"] [.ref u,.ref v,.int most]=[some (.ref u),some (.ref v),some (.int most),none,none,none,none,none,none,none,none,none] from rfl]
  clear G_gathered G_is_whole G_first_case G_end_of G_numbers_at_once G_places_by_numbers G_parting G_parted
  have hsz:∀ z∈pullL A B,(1:Int)≤z.2:=fun z hz=>by
   unfold pullL at hz
   rcases List.mem_append.mp hz with hz|hz
   ·obtain ⟨a,ha,rfl⟩:=List.mem_map.mp hz
    exact (hA.2 a ha).1
   ·obtain ⟨a,ha,rfl⟩:=List.mem_map.mp hz
    exact (hB.2 a ha).1
  replace k:=fun (_:Unit)=>k
  replace sh:=fun (_:Unit)=>sh
  replace hsz:=fun (_:Unit)=>hsz
  simp! only [and_true]
  rw [c_spGath]
  refine ⟨room,f1,f2,A,B,vu,vv,hA,hB,fun ks l r0 H1 e1 hr1 t1 ko=>?_⟩
  obtain ⟨ht,hM,hm⟩:=(sh ()).tm ks ko
  have hkz:∀ z∈pullL A B,absI z.1=0∨absI z.1∈ks:=fun z hz=>by
   by_cases e:absI z.1=0
   ·exact .inl e
   ·exact .inr ((ko.mem _).mpr ⟨e,z,hz,rfl⟩)
  have hvol:=vol_terms (pullL A B) ks
  have hz1:∀ z∈termsF ks (pullL A B),(1:Int)≤z.1:=fun z hz=>(ht.all z hz).1.1
  have hnd:((termsF ks (pullL A B)).map fun z=>z.1).Nodup:=by rw [terms_fst];exact ko.nd
  have hfin:∀ xs pp,seaF (termsF ks (pullL A B)) (f2 - f1) (NF ks (pullL A B)) [(termsF ks (pullL A B)).map fun z=>z.2] []=(some xs,pp)->InB ((termsF ks (pullL A B)).map fun z=>z.2) xs->valL (termsF ks (pullL A B)) xs=f2 - f1->ShRes A B (f2 - f1) ks (some xs) pp:=fun xs pp h1 h2 h3=>by
   obtain ⟨i1,i2⟩:=meet ko.nd (hsz ()) hkz h2
   exact ⟨ko,h1,(fun ys e=>by cases e;exact ⟨i1,i2.trans h3,h2,h3⟩),fun e=>by cases e⟩
  have hfin0:∀ pp,seaF (termsF ks (pullL A B)) (f2 - f1) (NF ks (pullL A B)) [(termsF ks (pullL A B)).map fun z=>z.2] []=(none,pp)->Rep (termsF ks (pullL A B)) (f2 - f1) [(termsF ks (pullL A B)).map fun z=>z.2] pp []->(pp.length:Int)≤2 * prodF ks (capF (pullL A B)) - 1->ShRes A B (f2 - f1) ks none pp:=fun pp h1 h2 h3=>⟨ko,h1,(fun ys e=>by cases e),fun _=>⟨h2,h3⟩⟩
  have hp1:=prodF_pos (cap_nn (hsz ())) ks
  have ini:StI (termsF ks (pullL A B)) (f2 - f1) (NF ks (pullL A B)) ((termsF ks (pullL A B)).map fun z=>z.2) (2 * prodF ks (capF (pullL A B)) - 1) [(termsF ks (pullL A B)).map fun z=>z.2] 0 []:=by
   have ep:potL [(termsF ks (pullL A B)).map fun z=>z.2]=2 * volL ((termsF ks (pullL A B)).map fun z=>z.2) - 1+0:=rfl
   refine ⟨fun c hc=>by rw [List.mem_singleton.mp hc];exact first_ok ht,by rw [ep,hvol];omega,rfl,rfl,_,?_,rfl⟩
   rw [ep,hvol]
   unfold NF
   omega
  have hA8:=hA.1
  have hB8:=hB.1
  have hpf:∀ xs,fillF (leftF (termsF ks (pullL A B)) xs) (pullL A B)=plF ks (pullL A B) xs:=fun _=>rfl
  generalize termsF ks (pullL A B)=zs at *
  generalize NF ks (pullL A B)=N at *
  generalize 2 * prodF ks (capF (pullL A B)) - 1=M at *
  have h17:=ht.len
  replace ini:=fun (_:Unit)=>ini
  replace hz1:=fun (_:Unit)=>hz1
  replace hnd:=fun (_:Unit)=>hnd
  replace hfin:=fun (_:Unit)=>hfin
  replace hfin0:=fun (_:Unit)=>hfin0
  replace hpf:=fun (_:Unit)=>hpf
  have hm1:¬ most < 1:=by omega
  have hm2:¬ 100000 < most:=by omega
  clear sh hsz hkz hvol hp1 ko
  simp! only [↓c_spWhole]
  rw [c_spFirstC]
  refine ⟨zs,t1,h17,fun c0 H2 e2 p2=>?_⟩
  have hr2:=e2.at hr1
  simp! only [and_true]
  intro cA H3 hcA e3 h3
  have ncA:c0 ≠ cA:=fun z=>by obtain ⟨_,hh,_⟩:=p2;rw [z,hcA] at hh;cases hh
  simp! only [and_true]
  intro pA H4 hpA e4 h4
  have npA:c0 ≠ pA:=fun z=>by obtain ⟨_,hh,_⟩:=p2;rw [z] at hh;rw [e3.at hh] at hpA;cases hpA
  have ncp:cA ≠ pA:=fun z=>by rw [z] at h3;rw [h3] at hpA;cases hpA
  have e14:=e2.trans (e3.trans e4)
  have hcA1:H1 cA=none:=e2.free hcA
  have hpA1:H1 pA=none:=(e2.trans e3).free hpA
  have h3_4:=e4.at h3
  have stk0:StkV H4 cA pA [zs.map fun z=>z.2] [.ref c0]:=⟨[],.ref c0,rfl,⟨c0,rfl,ncA,npA,pr_ext p2 (e3.trans e4)⟩,rfl⟩
  replace stk0:=fun (_:Unit)=>stk0
  clear hcA hpA p2 hr2 h3 e2 e3 e4
  simp! only [and_true]
  refine while_w (by repeat' first|exact mo_tV|exact mo_nI0|exact mo_nI|apply mo_nTest|apply mo_unN|exact mo_var|exact mo_c|exact mo_rI0|exact mo_rI|exact mo_rIsN|exact mo_rNotN|exact mo_qEq|exact mo_qIx|exact mo_nil|exact mo_qLen|apply mo_test|apply mo_tB|apply mo_not|apply mo_and|apply mo_or|apply mo_op|apply mo_un|apply mo_cons|apply mo_qLst|apply mo_cb) (fun mm σ H'=>∃ (st:List Bx) (cl pl:List V) (pp:List (List V)) (lk:Int) (v9 v10 v11:Option V),σ=[some (.ref u),some (.ref v),some (.int most),some (.ref r0),some (.ref l),some (.int (f2 - f1)),some (.ref cA),some (.ref pA),some (.int lk),v9,v10,v11]∧mm=(potL st).toNat∧Ext H1 H'∧H' cA=some (.lst cl)∧H' pA=some (.lst pl)∧PapL H' pp pl∧StkV H' cA pA st cl∧StI zs (f2 - f1) N (zs.map fun z=>z.2) M st lk pp) _ ⟨[zs.map fun z=>z.2],[.ref c0],[],[],0,none,none,none,rfl,rfl,e14,h3_4,h4,Al.nil,stk0 (),ini ()⟩ ?_
  rintro mm _ H5 ⟨st,cl,pl,pp,lk,v9,v10,v11,rfl,rfl,e5,h5c,h5p,hpl,stk,hI⟩
  cases st with
  | nil=>
   have hcl:cl=[]:=stk
   subst hcl
   obtain ⟨q1,q2,q3⟩:=hI.done
   have hres:=hfin0 () pp q1 q2 q3
   replace hres:=fun (_:Unit)=>hres
   replace hpl:=fun (_:Unit)=>hpl
   have hpA0:H pA=none:=e1.free hpA1
   clear hI q1 q2 q3 hfin hfin0 stk ini stk0
   simp! only [and_true]
   intro r6 H6 _ e6 h6
   exact k () ks none pp r6 H6 (e1.trans (e5.trans e6)) (hres ()) ⟨pA,hpA0,h6,_,e6.at h5p,(hpl ()).ext e6⟩
  | cons c st=>
   obtain ⟨cl0,y,rfl,hcy,stk'⟩:=stk
   obtain ⟨hlt,hc,hend,hgo⟩:=hI.step (hz1 ())
   obtain ⟨a,rfl,nac,nap,pa⟩:=hcy
   have hokS:∀ d∈st,CsOk zs d:=fun d hd=>hI.ok d (List.mem_cons_of_mem _ hd)
   have hpn:=pot_nn hokS
   have hv1:=vol_one hc.bx
   have hpot:=hI.pot
   have hlk0:0≤lk:=by have:=hI.len;omega
   have ep:potL (c::st)=2 * volL c - 1+potL st:=rfl
   have hcl0:=stk'.len
   have hlkm:¬ lk=most:=by omega
   have hplk:pl.length < sizeLine:=lt5000 (by have:=hI.len;have:=hpl.1;omega)
   have hext:cl0.length+2≤sizeLine:=len5000 (by omega)
   have hdec:(potL st).toNat < (potL (c::st)).toNat:=by omega
   obtain ⟨cl,hcl⟩:∃ cl,cl0++[V.ref a]=cl:=⟨_,rfl⟩
   have hlen:0 < (cl.length:Int):=by rw [←hcl,List.length_append,List.length_singleton];omega
   have hlast:cl[cl.length - 1]? = some (.ref a):=by rw [←hcl,List.length_append,List.length_singleton,Nat.add_sub_cancel,List.getElem?_append_right (Nat.le_refl _),Nat.sub_self];rfl
   have hdrop:cl.dropLast=cl0:=by rw [←hcl,List.dropLast_concat]
   rw [hcl] at h5c
   have cs6:=CsV.upd (o:=.lst cl0) (c:=c) (y:=.ref a) ⟨a,rfl,nac,nap,pa⟩ h5c (.inl rfl)
   have st6:=StkV.upd (o:=.lst cl0) h5c (.inl rfl) stk'
   have e6:Ext H1 (upd H5 cA (.lst cl0)):=e5.put hcA1
   have h6c:upd H5 cA (.lst cl0) cA=some (.lst cl0):=upd_same
   have h6p:upd H5 cA (.lst cl0) pA=some (.lst pl):=by rw [upd_ne (Ne.symm ncp)];exact h5p
   have pl6:PapL (upd H5 cA (.lst cl0)) pp pl:=hpl.upd h5c
   replace pl6:=fun (_:Unit)=>pl6
   replace hend:=fun (_:Unit)=>hend
   replace hgo:=fun (_:Unit)=>hgo
   replace hI:=fun (_:Unit)=>hI
   replace hpn:=fun (_:Unit)=>hpn
   replace hdec:=fun (_:Unit)=>hdec
   replace ep:=fun (_:Unit)=>ep
   replace hpot:=fun (_:Unit)=>hpot
   replace hcl0:=fun (_:Unit)=>hcl0
   replace st6:=fun (_:Unit)=>st6
   clear stk' pa hcl hokS h3_4 h4 stk0 ini e14 hfin0 hpl
   simp! only [and_true]
   generalize upd H5 cA (.lst cl0)=H6 at *
   clear h5c h5p e5 hlen hlast hdrop
   obtain ⟨a',ha',_,_,pa6⟩:=cs6
   cases ha'
   rw [c_spEndOf]
   refine ⟨zs,c,tr_ext t1 e6,pa6,ht,hc,fun v7 H7 e7 hv7=>?_⟩
   have e17:=e6.trans e7
   have h7c:=e7.at h6c
   have h7p:=e7.at h6p
   have st7:=fun (_:Unit)=>(st6 ()).ext e7
   have pa7:=pr_ext pa6 e7
   have pl7:=fun (_:Unit)=>(pl6 ()).ext e7
   cases hee:endS zs c (f2 - f1) with
   | some ss=>
    rw [hee] at hv7
    obtain ⟨r7,rfl,hr7⟩:=hv7
    have hI':=fun (_:Unit)=>hend () ss hee
    have plN:=fun (_:Unit)=>PapL.upd (o:=.lst (pl++[.ref r7])) ((pl7 ()).snoc hr7) h7p
    clear hend hgo h6c h6p st6 e6 pa6 hee k pl6 pl7
    simp! only [and_true]
    exact ⟨(potL st).toNat,hdec (),st,cl0,pl++[.ref r7],_,lk+1,_,_,_,rfl,rfl,e17.put hpA1,(by first|rfl|(rw [upd_ne ncp];exact h7c)),(by first|rfl|exact upd_same),plN (),StkV.upd h7p (.inr rfl) (st7 ()),hI' ()⟩
   | none=>
    rw [hee] at hv7
    have hv7':v7=.non:=hv7
    subst hv7'
    obtain ⟨hg1,hg2⟩:=hgo () hee
    replace hg1:=fun (_:Unit)=>hg1
    replace hg2:=fun (_:Unit)=>hg2
    clear hend hgo h6c h6p st6 e6 pa6 hee pl6
    simp! only [and_true]
    rw [c_spNao]
    refine ⟨zs,c,tr_ext t1 e17,pa7,ht,hc,fun v8 H8 e8 hv8=>?_⟩
    have e18:=e17.trans e8
    have h8c:=e8.at h7c
    have h8p:=e8.at h7p
    have st8:=fun (_:Unit)=>(st7 ()).ext e8
    have pl8:=fun (_:Unit)=>(pl7 ()).ext e8
    have pa8:=pr_ext pa7 e8
    clear h7c h7p st7 pa7 pl7
    cases hna:naoL zs (f2 - f1) c with
    | some xs=>
     rw [hna] at hv8
     obtain ⟨r8,rfl,hr8⟩:=hv8
     obtain ⟨q1,q2,q3⟩:=hg1 () xs hna
     have hin:=in_first hc q2
     have hres:=hfin () xs pp q1 hin q3
     have hxl:xs.length=zs.length:=by rw [hin.len,List.length_map]
     replace hres:=fun (_:Unit)=>hres
     replace hxl:=fun (_:Unit)=>hxl
     clear hg1 hg2 hna q1 q2 q3 hin hfin pl8
     simp! only [and_true]
     rw [c_spByNum]
     refine ⟨room,room,f1,f2,A,B,zs,xs,vu.ext (e1.trans e18),vv.ext (e1.trans e18),hA8,hB8,tr_ext t1 e18,h17,hnd (),hr8,hxl (),fun r9 a1 a2 H9 e9 w1 w2 w3=>?_⟩
     rw [hpf ()] at w2 w3
     have k':=k () ks (some xs) pp r9 H9 (e1.trans (e18.trans e9)) (hres ()) ⟨a1,a2,w1,w2,w3⟩
     clear k
     simp! only [and_true]
    | none=>
     rw [hna] at hv8
     have hv8':v8=.non:=hv8
     subst hv8'
     obtain ⟨q,hq1,hq2,hI'⟩:=hg2 () hna
     replace hI':=fun (_:Unit)=>hI'
     have hqc:q.1 < c.length:=by rw [hc.len];exact hq2
     have hc17:c.length≤17:=by rw [hc.len];exact h17
     have hpv:=part_vol (cs:=c) (k:=q.1) (a:=partK c q) hqc
     have hdec2:(potL (loC c q.1 (partK c q)::upC c q.1 (partK c q)::st)).toNat < (potL (c::st)).toNat:=by
      have e2':potL (loC c q.1 (partK c q)::upC c q.1 (partK c q)::st)=2 * volL (loC c q.1 (partK c q)) - 1+(2 * volL (upC c q.1 (partK c q)) - 1+potL st):=rfl
      have:=ep ()
      have:=(hpn ()).1
      omega
     replace hdec2:=fun (_:Unit)=>hdec2
     clear hg1 hg2 hna hfin hpv k
     simp! only [and_true]
     rw [c_spPart]
     refine ⟨zs,c,q,tr_ext t1 e18,pa8,ht,hc,hq1,hq2,fun r9 H9 e9 h9=>?_⟩
     have e19:=e18.trans e9
     have h9c:=e9.at h8c
     have h9p:=e9.at h8p
     have st9:=fun (_:Unit)=>(st8 ()).ext e9
     have pl9:=fun (_:Unit)=>((pl8 ()).ext e9).snoc h9
     have pa9:=pr_ext pa8 e9
     clear h8c h8p st8 pa8 pl8
     simp! only [and_true]
     rw [c_spParted]
     refine ⟨c,q.1,rfl,pa9,hqc,hc17,fun r10 a1 a2 H10 n1 n2 e10 h10 p1 p2=>?_⟩
     have e110:=e19.trans e10
     have h10c:=e10.at h9c
     have h10p:=e10.at h9p
     have st10:=(st9 ()).ext e10
     have pl11:=fun (_:Unit)=>PapL.upd (o:=.lst (cl0++[.ref a1,.ref a2])) ((pl9 ()).ext e10) h10c
     have m1c:a1 ≠ cA:=fun z=>by rw [z,h9c] at n1;cases n1
     have m1p:a1 ≠ pA:=fun z=>by rw [z,h9p] at n1;cases n1
     have m2c:a2 ≠ cA:=fun z=>by rw [z,h9c] at n2;cases n2
     have m2p:a2 ≠ pA:=fun z=>by rw [z,h9p] at n2;cases n2
     have stN:StkV H10 cA pA (loC c q.1 (partK c q)::upC c q.1 (partK c q)::st) (cl0++[.ref a1,.ref a2]):=⟨cl0++[.ref a1],.ref a2,by rw [List.append_assoc];rfl,⟨a2,rfl,m2c,m2p,p2⟩,cl0,.ref a1,rfl,⟨a1,rfl,m1c,m1p,p1⟩,st10⟩
     have stM:=StkV.upd (o:=.lst (cl0++[.ref a1,.ref a2])) h10c (.inl rfl) stN
     have h11p:upd H10 cA (.lst (cl0++[.ref a1,.ref a2])) pA=some (.lst pl):=by rw [upd_ne (Ne.symm ncp)];exact h10p
     have h11c:upd H10 cA (.lst (cl0++[.ref a1,.ref a2])) cA=some (.lst (cl0++[.ref a1,.ref a2])):=upd_same
     have e111:Ext H1 (upd H10 cA (.lst (cl0++[.ref a1,.ref a2]))):=e110.put hcA1
     replace stM:=fun (_:Unit)=>stM
     clear h9c h9p st9 pa9 n1 n2 st10 stN p1 p2 h10p pl9
     simp! only [and_true]
     generalize upd H10 cA (.lst (cl0++[.ref a1,.ref a2]))=H11 at *
     clear h10c
     simp! only [and_true]
     exact ⟨_,hdec2 (),_,_,pl++[.ref r9],_,lk+1,_,_,_,rfl,rfl,e111.put hpA1,(by first|rfl|(rw [upd_ne ncp];exact h11c)),(by first|rfl|exact upd_same),PapL.upd (pl11 ()) h11p,StkV.upd h11p (.inr rfl) (stM ()),hI' ()⟩
structure AxK (A:List (Int × Int)):Prop where
 len:A.length≤3
 sz:∀ a∈A,(1≤a.1∧a.1≤5)∧(-36≤a.2∧a.2≤36)
 prod:(A.foldr (fun a r=>a.1 * r) 1)≤24
theorem prod_snoc:∀ (A:List (Int × Int)) (b:Int × Int),((A++[b]).foldr (fun a r=>a.1 * r) 1)=(A.foldr (fun a r=>a.1 * r) 1) * b.1
 | [],b=>by show b.1 * 1=1 * b.1;omega
 | a::A,b=>by
  show a.1 * ((A++[b]).foldr (fun a r=>a.1 * r) 1)=a.1 * (A.foldr (fun a r=>a.1 * r) 1) * b.1
  rw [prod_snoc A b,Int.mul_assoc]
theorem prod_pos1:∀ {A:List (Int × Int)},(∀ a∈A,(1:Int)≤a.1)->1≤(A.foldr (fun a r=>a.1 * r) 1)
 | [],_=>Int.le_refl _
 | a::A,h=>by
  have ih:=prod_pos1 (A:=A) fun b hb=>h b (List.mem_cons_of_mem _ hb)
  have:=Int.mul_le_mul (h a List.mem_cons_self) ih (by decide) (by have:=h a List.mem_cons_self;omega)
  show 1≤a.1 * _
  omega
abbrev B_spKAxes (K:PySem.W.Frag) (a:Addr) (ns:List Int) (p:Addr) (i:Int) (f:Int) (H:Hp) (Q:VK) (E:XK):Prop:=p=a∧SqL K H a (ns.map V.int)∧ns.length≤63∧0≤i∧i≤60∧1≤f∧f≤6∧∀ (A:List (Int × Int)) (r:Addr) (H':Hp),Ext H H'->PrAt H' r A->AxK A->Q (.ref r) H'
def spKAxes (K:PySem.W.Frag) (a:Addr) (ns:List Int):Sp:=fun vs H Q E=>∃ (p:Addr) (i:Int) (f:Int),vs=[.ref p,.int i,.int f]∧(B_spKAxes K a ns p i f H Q E)
theorem c_spKAxes (K:PySem.W.Frag) (a:Addr) (ns:List Int) (p:Addr) (i:Int) (f:Int) (H:Hp) (Q:VK) (E:XK):spKAxes K a ns [.ref p,.int i,.int f] H Q E=(B_spKAxes K a ns p i f H Q E):=spx3 (f:=fun (p:Addr) (i:Int) (f:Int)=>[.ref p,.int i,.int f]) (fun _ _ _ _ _ _ h=>by cases h;exact ⟨rfl,rfl,rfl⟩) p i f
theorem l_spKAxes (K:PySem.W.Frag) (a:Addr) (ns:List Int){vs:List V}{H:Hp}{Q:VK}{E:XK}(h:spKAxes K a ns vs H Q E):vs.length=3:=spl3 h fun _ _ _=>rfl
theorem ok__law_axes (T:Tx K mg t) (a:Addr) (ns:List Int):FnOk P w K mg base CX0 2 t.a__law_axes t.d__law_axes ["_law_script", "_law_at", "_law_factor"] (spKAxes K a ns):=by
 have G__law_draw:=ok__law_draw (P:=P) (w:=w) (base:=base) T a ns
 refine T.F__law_axes.ok c__law_axes (fun vs H Q E h=>l_spKAxes _ _ _ h) (fun cdv A outer s H vs Q E hr h=>?_)
 ·obtain ⟨_,i0,f,rfl,rfl,hS,hl,i1,i2,f1,f2,kk⟩:=h
  rename_i a
  refine ⟨_,(@pss_cons _ _ _ _ _ (@ps_set _ _ (3) _ _ _ _ c__law_axes.nd rfl (Or.inl rfl) (@pe_qLst _ _ _ _ (@pa_nil _)) (by rfl) (by trivial)) (@pss_cons _ _ _ _ _ (@ps_set _ _ (4) _ _ _ _ c__law_axes.nd rfl (Or.inl rfl) (@pe_int _ _ _ _) (by rfl) (by trivial)) (@pss_cons _ _ _ _ _ (@ps_for _ _ _ _ _ _ _ _ PassesOwn.never rfl (@pi_range1 _ _ _ _ _ _ (by rfl) T.z_range (@pa_c _ _ _ _ _ (@pe_call _ _ _ _ _ _ _ _ _ _ _ _ _ _ _ _ G__law_draw (hr.mono (by decide)) (by rfl) T.m__law_draw T.F__law_draw.kp T.b__law_draw .nil pass0 (@pa_c _ _ _ _ _ (@pvN _ 0 _ _ (by rfl) (by trivial) (by decide) (by decide)) (@pa_c _ _ _ _ _ (@pvN _ 1 _ _ (by rfl) (by trivial) (by decide) (by decide)) (@pa_c _ _ _ _ _ (@pe_int _ _ _ _) (@pa_nil _) (by rfl)) (by rfl)) (by rfl)) (by decide) (by rfl) (by rfl)) (@pa_nil _) (by rfl)) (by rfl)) (@pg_name _ _ (5) _ c__law_axes.nd rfl (Or.inl rfl) (by trivial)) (@pss_cons _ _ _ _ _ (@ps_set _ _ (6) _ _ _ _ c__law_axes.nd rfl (Or.inl rfl) (@pe_call _ _ _ _ _ _ _ _ _ _ _ _ _ _ _ _ G__law_draw (hr.mono (by decide)) (by rfl) T.m__law_draw T.F__law_draw.kp T.b__law_draw .nil pass0 (@pa_c _ _ _ _ _ (@pvN _ 0 _ _ (by rfl) (by trivial) (by decide) (by decide)) (@pa_c _ _ _ _ _ (@pe_op _ _ _ _ _ _ _ _ on_add (@pe_op _ _ _ _ _ _ _ _ on_add (@pvN _ 1 _ _ (by rfl) (by trivial) (by decide) (by decide)) (@pe_int _ _ _ _)) (@pvN _ 5 _ _ (by rfl) (by trivial) (by decide) (by decide))) (@pa_c _ _ _ _ _ (@pe_op _ _ _ _ _ _ _ _ on_pow (@pe_int _ _ _ _) (@pe_int _ _ _ _)) (@pa_nil _) (by rfl)) (by rfl)) (by rfl)) (by decide) (by rfl) (by rfl)) (by rfl) (by trivial)) (@pss_cons _ _ _ _ _ (@ps_set _ _ (7) _ _ _ _ c__law_axes.nd rfl (Or.inl rfl) (@pe_op _ _ _ _ _ _ _ _ on_add (@pe_int _ _ _ _) (@pe_op _ _ _ _ _ _ _ _ on_mod (@pvN _ 6 _ _ (by rfl) (by trivial) (by decide) (by decide)) (@pe_int _ _ _ _))) (by rfl) (by trivial)) (@pss_cons _ _ _ _ _ (@ps_if _ _ _ _ _ _ _ _ (@pt_cmpRN _ _ _ _ _ _ _ _ on_gt (@pe_op _ _ _ _ _ _ _ _ on_mul (@pvN _ 4 _ _ (by rfl) (by trivial) (by decide) (by decide)) (@pvN _ 7 _ _ (by rfl) (by trivial) (by decide) (by decide))) (@pe_int _ _ _ _) (nomark _)) (@pss_one _ _ _ (@ps_set _ _ (7) _ _ _ _ c__law_axes.nd rfl (Or.inl rfl) (@pe_int _ _ _ _) (by rfl) (by trivial))) (@pss_nil _)) (@pss_cons _ _ _ _ _ (@ps_set _ _ (4) _ _ _ _ c__law_axes.nd rfl (Or.inl rfl) (@pe_op _ _ _ _ _ _ _ _ on_mul (@pvN _ 4 _ _ (by rfl) (by trivial) (by decide) (by decide)) (@pvN _ 7 _ _ (by rfl) (by trivial) (by decide) (by decide))) (by rfl) (by trivial)) (@pss_cons _ _ _ _ _ (@ps_set _ _ (8) _ _ _ _ c__law_axes.nd rfl (Or.inl rfl) (@pe_op _ _ _ _ _ _ _ _ on_mul (@pvN _ 2 _ _ (by rfl) (by trivial) (by decide) (by decide)) (@pe_op _ _ _ _ _ _ _ _ on_sub (@pe_op _ _ _ _ _ _ _ _ on_mod (@pe_op _ _ _ _ _ _ _ _ on_fdiv (@pvN _ 6 _ _ (by rfl) (by trivial) (by decide) (by decide)) (@pe_int _ _ _ _)) (@pe_int _ _ _ _)) (@pe_int _ _ _ _))) (by rfl) (by trivial)) (@pss_cons _ _ _ _ _ (@ps_if _ _ _ _ _ _ _ _ (@pt_cmpRN _ _ _ _ _ _ _ _ (op_qEq hr.units) (@pe_op _ _ _ _ _ _ _ _ on_mod (@pe_op _ _ _ _ _ _ _ _ on_fdiv (@pvN _ 6 _ _ (by rfl) (by trivial) (by decide) (by decide)) (@pe_int _ _ _ _)) (@pe_int _ _ _ _)) (@pe_int _ _ _ _) (nomark _)) (@pss_one _ _ _ (@ps_set _ _ (8) _ _ _ _ c__law_axes.nd rfl (Or.inl rfl) (@pe_op _ _ _ _ _ _ _ _ on_sub (@pe_op _ _ _ _ _ _ _ _ on_mod (@pe_op _ _ _ _ _ _ _ _ on_fdiv (@pvN _ 6 _ _ (by rfl) (by trivial) (by decide) (by decide)) (@pe_int _ _ _ _)) (@pe_int _ _ _ _)) (@pe_int _ _ _ _)) (by rfl) (by trivial))) (@pss_nil _)) (@pss_one _ _ _ (@ps_expr _ _ _ _ (@pe_bm _ _ _ _ _ _ _ _ _ _ _ _ PySem.F.plainAttrs_list PySem.F.slot_list_append PySem.F.type_list_append mt_append (@pvN _ 3 _ _ (by rfl) (by trivial) (by decide) (by decide)) (@pa_c _ _ _ _ _ (@pe_qTup _ _ _ _ _ (@pa_c _ _ _ _ _ (@pvN _ 7 _ _ (by rfl) (by trivial) (by decide) (by decide)) (@pa_c _ _ _ _ _ (@pvN _ 8 _ _ (by rfl) (by trivial) (by decide) (by decide)) (@pa_nil _) (by rfl)) (by rfl))) (@pa_nil _) (by rfl)) (by rfl) (by rfl) (by rfl) (by rfl) (by rfl)) (by rfl))))))))) (by intros;rfl)) (@pss_one _ _ _ (@ps_ret _ _ _ _ (@pvN _ 3 _ _ (by rfl) (by trivial) (by decide) (by decide))))))),?_⟩
  rw [show start ["_law_script", "_law_at", "_law_factor", "_law_axes_here", "_law_count", "_law_k", "_law_cell_here", "_law_size", "_law_pace"] [.ref a,.int i0,.int f]=[some (.ref a),some (.int i0),some (.int f),none,none,none,none,none,none] from rfl]
  clear G__law_draw
  replace kk:=fun (_:Unit)=>kk
  simp! only [and_true]
  intro r H1 hr1 e1 h1
  have hS1:=e1.2 K a _ hS
  have hr0:=hr1
  clear hr1
  simp! only [and_true]
  rw [c_spDraw]
  refine ⟨hS1,hl,⟨by omega,by omega⟩,by decide,fun n n0 n1=>?_⟩
  simp! only [and_true]
  refine ⟨by omega,by omega,?_⟩
  refine for_rng (fun j σ H'=>∃ (A:List (Int × Int)) (ys:List V) (v5 v6 v7 v8:Option V),σ=[some (.ref a),some (.int i0),some (.int f),some (.ref r),some (.int (A.foldr (fun a r=>a.1 * r) 1)),v5,v6,v7,v8]∧Ext H H'∧H' r=some (.lst ys)∧Al (fun z y=>axP z y H') A ys∧A.length=j∧(∀ a∈A,(1≤a.1∧a.1≤5)∧(-36≤a.2∧a.2≤36))∧(A.foldr (fun a r=>a.1 * r) 1)≤24) ⟨[],[],none,none,none,none,rfl,e1,h1,Al.nil,rfl,(fun a h=>by cases h),by decide⟩ ?_ ?_
  ·rintro j _ H2 hj ⟨A,ys,v5,v6,v7,v8,rfl,e2,h2,al,hAl,hsz,hpr⟩
   have hj3:j < 3:=by have:j < n.toNat:=hj;omega
   have hS2:=e2.2 K a _ hS
   have hyl:ys.length < sizeLine:=lt5000 (by rw [al.1,hAl];omega)
   have hp1:=prod_pos1 fun a ha=>(hsz a ha).1.1
   replace al:=fun (_:Unit)=>al
   replace hsz:=fun (_:Unit)=>hsz
   replace hAl:=fun (_:Unit)=>hAl
   have x5:∀ x:Int,0≤x % 5∧x % 5 < 5:=fun x=>by omega
   have fpos:∀ y:Int,-6≤y->y≤6->-36≤f * y∧f * y≤36:=fun y y1 y2=>by
    have a1:=Int.mul_le_mul_of_nonneg_left y2 (show 0≤f by omega)
    have a2:=Int.mul_le_mul_of_nonneg_left y1 (show 0≤f by omega)
    omega
   have fin:∀ (sz pc:Int) (t6:Addr) (H6:Hp),Ext H2 H6->H6 t6=some (.tup [.int sz,.int pc])->t6 ≠ r->(1≤sz∧sz≤5)->(-36≤pc∧pc≤36)->(A.foldr (fun a r=>a.1 * r) 1) * sz≤24->∃ (A':List (Int × Int)) (ys':List V),A'=A++[(sz,pc)]∧ys'=ys++[.ref t6]∧Ext H (upd H6 r (.lst (ys++[.ref t6])))∧Al (fun z y=>axP z y (upd H6 r (.lst (ys++[.ref t6])))) A' ys'∧A'.length=j+1∧(∀ a∈A',(1≤a.1∧a.1≤5)∧(-36≤a.2∧a.2≤36))∧(A'.foldr (fun a r=>a.1 * r) 1)=(A.foldr (fun a r=>a.1 * r) 1) * sz∧(A'.foldr (fun a r=>a.1 * r) 1)≤24:=fun sz pc t6 H6 e6 h6 ntr s1 s2 s3=>by
    refine ⟨_,_,rfl,rfl,(e2.trans e6).put hr0,?_,by rw [List.length_append,hAl (),List.length_singleton],fun b hb=>?_,prod_snoc _ _,by rw [prod_snoc];exact s3⟩
    ·refine al_app' ((al ()).imp fun _ _ t=>axP.upd (axP.ext t e6) (e6.at h2)) ⟨rfl,fun i z y hz hy=>?_⟩
     cases i with
     | zero=>simp at hz hy;subst hz;subst hy;exact ⟨t6,rfl,by rw [upd_ne ntr];exact h6⟩
     | succ i=>simp at hz
    ·rcases List.mem_append.mp hb with hb|hb
     ·exact hsz () b hb
     ·rw [List.mem_singleton.mp hb];exact ⟨s1,s2⟩
   obtain ⟨cnt,hcnt⟩:∃ cnt,(A.foldr (fun a r=>a.1 * r) 1)=cnt:=⟨_,rfl⟩
   rw [hcnt] at hpr hp1 fin ⊢
   replace fin:=fun (_:Unit)=>fin
   replace fpos:=fun (_:Unit)=>fpos
   clear hj kk h1 hS1 hcnt
   simp! only [↓m_kBody]
   rw [c_spDraw]
   refine ⟨hS2,hl,⟨by omega,by omega⟩,by decide,fun x x0 x1=>?_⟩
   have x5':=x5 x
   have y13:-6≤x / 5 % 13 - 6∧x / 5 % 13 - 6≤6:=by omega
   have y41:-36≤x / 260 % 41 - 20∧x / 260 % 41 - 20≤36:=by omega
   have yf:=fpos () _ y13.1 y13.2
   have cmf:CMul f (x / 5 % 13 - 6):=.inl ⟨by omega,by omega⟩
   have cm1:CMul cnt (1+x % 5):=.inl ⟨by omega,by omega⟩
   have cm2:CMul cnt 1:=.inl ⟨by omega,by omega⟩
   replace y41:=fun (_:Unit)=>y41
   replace yf:=fun (_:Unit)=>yf
   clear fpos x5 y13
   have go:∀ (sz:Int),(sz=1+x % 5∨sz=1)->(1≤sz∧sz≤5):=fun sz h=>by omega
   replace go:=fun (_:Unit)=>go
   by_cases hb:24 < cnt * (1+x % 5)
   ·by_cases hq:x / 65 % 4=1
    ·simp! only [and_true]
     intro t6 H6 ht6 e6 h6
     have h2_6:=e6.at h2
     have ntr:t6 ≠ r:=fun z=>by rw [z,h2] at ht6;cases ht6
     obtain ⟨A',ys',hA',hys',g1,g2,g3,g4,g5,g6⟩:=fin () (1) (x / 260 % 41 - 20) t6 H6 e6 h6 ntr (go () _ (.inr rfl)) (y41 ()) (by rw [Int.mul_one];exact hpr)
     rw [hys'] at g2
     replace g4:=fun (_:Unit)=>g4
     replace g2:=fun (_:Unit)=>g2
     clear ht6 fin go hb hq yf y41 h2
     simp! only [and_true]
     exact ⟨A',ys++[.ref t6],_,_,_,_,by rw [g5],g1,by first|rfl|exact upd_same,g2 (),g3,g4 (),g6⟩
    ·simp! only [and_true]
     intro t6 H6 ht6 e6 h6
     have h2_6:=e6.at h2
     have ntr:t6 ≠ r:=fun z=>by rw [z,h2] at ht6;cases ht6
     obtain ⟨A',ys',hA',hys',g1,g2,g3,g4,g5,g6⟩:=fin () (1) (f * (x / 5 % 13 - 6)) t6 H6 e6 h6 ntr (go () _ (.inr rfl)) (yf ()) (by rw [Int.mul_one];exact hpr)
     rw [hys'] at g2
     replace g4:=fun (_:Unit)=>g4
     replace g2:=fun (_:Unit)=>g2
     clear ht6 fin go hb hq yf y41 h2
     simp! only [and_true]
     exact ⟨A',ys++[.ref t6],_,_,_,_,by rw [g5],g1,by first|rfl|exact upd_same,g2 (),g3,g4 (),g6⟩
   ·by_cases hq:x / 65 % 4=1
    ·simp! only [and_true]
     intro t6 H6 ht6 e6 h6
     have h2_6:=e6.at h2
     have ntr:t6 ≠ r:=fun z=>by rw [z,h2] at ht6;cases ht6
     obtain ⟨A',ys',hA',hys',g1,g2,g3,g4,g5,g6⟩:=fin () (1+x % 5) (x / 260 % 41 - 20) t6 H6 e6 h6 ntr (go () _ (.inl rfl)) (y41 ()) (by omega)
     rw [hys'] at g2
     replace g4:=fun (_:Unit)=>g4
     replace g2:=fun (_:Unit)=>g2
     clear ht6 fin go hb hq yf y41 h2
     simp! only [and_true]
     exact ⟨A',ys++[.ref t6],_,_,_,_,by rw [g5],g1,by first|rfl|exact upd_same,g2 (),g3,g4 (),g6⟩
    ·simp! only [and_true]
     intro t6 H6 ht6 e6 h6
     have h2_6:=e6.at h2
     have ntr:t6 ≠ r:=fun z=>by rw [z,h2] at ht6;cases ht6
     obtain ⟨A',ys',hA',hys',g1,g2,g3,g4,g5,g6⟩:=fin () (1+x % 5) (f * (x / 5 % 13 - 6)) t6 H6 e6 h6 ntr (go () _ (.inl rfl)) (yf ()) (by omega)
     rw [hys'] at g2
     replace g4:=fun (_:Unit)=>g4
     replace g2:=fun (_:Unit)=>g2
     clear ht6 fin go hb hq yf y41 h2
     simp! only [and_true]
     exact ⟨A',ys++[.ref t6],_,_,_,_,by rw [g5],g1,by first|rfl|exact upd_same,g2 (),g3,g4 (),g6⟩
  ·rintro _ H2 ⟨A,ys,v5,v6,v7,v8,rfl,e2,h2,al,hAl,hsz,hpr⟩
   have k':=kk () A r H2 e2 ⟨ys,h2,al⟩ ⟨by rw [hAl];omega,hsz,hpr⟩
   clear kk al hsz
   simp! only [and_true]
theorem wk_zipK {K:PySem.W.Frag}{ka kb:Bool}{H:Hp} {α β:Type}{R1:α->V->Hp->Prop}{R2:β->V->Hp->Prop}(h1:∀ z y H H',R1 z y H->Ext H H'->R1 z y H') (h2:∀ z y H H',R2 z y H->Ext H H'->R2 z y H'){a b:Addr}{xs ys:List V}{zs:List α}{ws:List β}(ha:SqK ka H a xs) (hb:SqK kb H b ys) (al:Al (fun z y=>R1 z y H) zs xs) (bl:Al (fun z y=>R2 z y H) ws ys) :
  (∀ i z H',(zs.zip ws)[i]? = some z->Ext H H'->(Itz ka kb a b xs ys).go i H'∧∀ x H'',(Itz ka kb a b xs ys).yld i H' x H''->Ext H' H''∧zipA R1 R2 z x H'')∧∀ H',Ext H H'->(Itz ka kb a b xs ys).stop (zs.zip ws).length H':=by
 have wk:=wk_zip (ka:=ka) (kb:=kb) ha hb
 refine ⟨fun i z H' hz e=>?_,fun H' e=>?_⟩
 ·obtain ⟨i1,i2⟩:=List.getElem?_eq_some_iff.mp hz
  rw [List.length_zip] at i1
  have hx:xs[i]? = some (xs[i]'(by rw [al.1];omega)):=List.getElem?_eq_getElem _
  have hy:ys[i]? = some (ys[i]'(by rw [bl.1];omega)):=List.getElem?_eq_getElem _
  have g1:=al.2 i zs[i] _ (List.getElem?_eq_getElem _) hx
  have g2:=bl.2 i ws[i] _ (List.getElem?_eq_getElem _) hy
  generalize (xs[i]'(by rw [al.1];omega))=x0 at hx g1
  generalize (ys[i]'(by rw [bl.1];omega))=y0 at hy g2
  have hzz:(xs.zip ys)[i]? = some (x0,y0):=by
   rw [List.getElem?_zip_eq_some]
   exact ⟨hx,hy⟩
  obtain ⟨go,yd⟩:=wk.1 i _ H' hzz e
  refine ⟨go,fun x H'' y=>?_⟩
  obtain ⟨e2,p,hp,hp2⟩:=yd x H'' y
  have ez:z=(zs[i],ws[i]):=by rw [←i2,List.getElem_zip]
  subst ez
  exact ⟨e2,p,x0,y0,hp,hp2,h1 _ _ _ _ g1 (e.trans e2),h2 _ _ _ _ g2 (e.trans e2)⟩
 ·have:=wk.2 H' e
  rwa [show (zs.zip ws).length=(xs.zip ys).length by rw [List.length_zip,List.length_zip,al.1,bl.1]]
def dotA:List (Int × Int)->List Int->Int
 | a::A,y::ys=>a.2 * y+dotA A ys
 | _,_=>0
theorem dotA_sum:∀ (A:List (Int × Int)) (ys:List Int),((ys.zip A).map fun z=>z.1 * z.2.2).sum=dotA A ys
 | [],[]=>rfl
 | [],_::_=>rfl
 | _::_,[]=>rfl
 | a::A,y::ys=>by
  rw [List.zip_cons_cons,List.map_cons,List.sum_cons,dotA_sum A ys]
  show y * a.2+_=a.2 * y+_
  rw [Int.mul_comm]
abbrev B_spKCell  (f:Int) (q:Addr) (p:Addr) (H:Hp) (Q:VK) (E:XK):Prop:=∃ (A:List (Int × Int)) (ys:List Int),PrAt H q A∧H p=some (.tup (ys.map V.int))∧A.length≤8∧(∀ a∈A,-1000000≤a.2∧a.2≤1000000)∧∀ H',Ext H H'->Q (.int (f+dotA A ys)) H'
def spKCell  : Sp:=fun vs H Q E=>∃ (f:Int) (q:Addr) (p:Addr),vs=[.int f,.ref q,.ref p]∧(B_spKCell  f q p H Q E)
theorem c_spKCell  (f:Int) (q:Addr) (p:Addr) (H:Hp) (Q:VK) (E:XK):spKCell  [.int f,.ref q,.ref p] H Q E=(B_spKCell  f q p H Q E):=spx3 (f:=fun (f:Int) (q:Addr) (p:Addr)=>[.int f,.ref q,.ref p]) (fun _ _ _ _ _ _ h=>by cases h;exact ⟨rfl,rfl,rfl⟩) f q p
theorem l_spKCell  {vs:List V}{H:Hp}{Q:VK}{E:XK}(h:spKCell  vs H Q E):vs.length=3:=spl3 h fun _ _ _=>rfl
theorem ok__law_cell (T:Tx K mg t):FnOk P w K mg base CX0 1 t.a__law_cell t.d__law_cell ["_law_first", "_law_axes_here", "_law_place"] spKCell:=by
 refine T.F__law_cell.ok c__law_cell (fun vs H Q E h=>l_spKCell h) (fun cdv A' outer s H vs Q E hr h=>?_)
 ·obtain ⟨f,q,p,rfl,A,ys,⟨ts,hq,al⟩,hp,h8,hb,k⟩:=h
  refine ⟨_,(@pss_one _ _ _ (@ps_ret _ _ _ _ (@pe_op _ _ _ _ _ _ _ _ on_add (@pvN _ 0 _ _ (by rfl) (by trivial) (by decide) (by decide)) (@pe_callB _ _ _ _ _ _ _ ("sum") _ (call_qSum rfl) (by rfl) T.z_sum (by decide +kernel) (@pa_c _ _ _ _ _ (@pe_comp _ _ _ _ _ _ _ _ _ _ _ (["_law_at", "_law_axis", "_law_first", "_law_axes_here", "_law_place"]) (2) (comp_ok (defScope s__law_cell) ["_law_first", "_law_axes_here", "_law_place"] rfl rfl (by decide +kernel)) rfl (@pi_zip _ _ _ _ _ _ _ _ _ (by rfl) T.z_zip (@pa_c _ _ _ _ _ (@pvN _ 2 _ _ (by rfl) (by trivial) (by decide) (by decide)) (@pa_c _ _ _ _ _ (@pvN _ 1 _ _ (by rfl) (by trivial) (by decide) (by decide)) (@pa_nil _) (by rfl)) (by rfl)) (by rfl) (by rfl)) (fun C s₀ H₀ ex pn=>((@pg_tup _ _ _ _ _ (2) rfl (@pgs_consN _ _ _ _ _ (@pg_name _ _ (0) _ (show List.Nodup (["_law_at", "_law_axis", "_law_first", "_law_axes_here", "_law_place"]:List Str) from by decide +kernel) rfl (Or.inl rfl) (by trivial)) (@pgs_consN _ _ _ _ _ (@pg_name _ _ (1) _ (show List.Nodup (["_law_at", "_law_axis", "_law_first", "_law_axes_here", "_law_place"]:List Str) from by decide +kernel) rfl (Or.inl rfl) (by trivial)) (@pgs_nilN _) (by rfl)) (by rfl)) (by rfl) (by rfl)).mono fun _ _ _ _ h=>gTup_q h)) (fun C s₀ H₀ ex pn=>(@pts_nil _)) (fun C s₀ H₀ ex pn=>(@pe_op _ _ _ _ _ _ _ _ on_mul (@pvN _ 0 _ _ (by rfl) (by trivial) (by decide) (by decide)) (@pe_ix _ _ _ _ _ _ _ ix_q (@pvN _ 1 _ _ (by rfl) (by trivial) (by decide) (by decide)) (@pe_int _ _ _ _) (fun _ _=>rfl)))) (by intros;rfl)) (@pa_nil _) (by rfl)) (by decide) (by decide) (by rfl) (by rfl))))),?_⟩
  rw [show start ["_law_first", "_law_axes_here", "_law_place"] [.int f,.ref q,.ref p]=[some (.int f),some (.ref q),some (.ref p)] from rfl]
  have wk:=wk_zipK (K:=K) (ka:=true) (kb:=false) (R1:=fun (z:Int) y (_:Hp)=>y=.int z) (R2:=axP) (fun _ _ _ _ h _=>h) (fun _ _ _ _ h e=>h.ext e) (zs:=ys) (ws:=A) hp hq ⟨by rw [List.length_map],fun i z y hz hy=>by rw [List.getElem?_map,hz] at hy;cases hy;rfl⟩ al
  replace k:=fun (_:Unit)=>k
  replace hb:=fun (_:Unit)=>hb
  simp! only [and_true]
  refine comp_fm (ys.zip A) (fun _=>true) (fun z=>.int (z.1 * z.2.2)) (zipA (fun (z:Int) y (_:Hp)=>y=.int z) axP) wk.1 wk.2 (len5000 (by rw [List.length_zip];omega)) ?_ ?_
  ·intro D z x H' N1 N0 hz hD e hx k1 _
   obtain ⟨p1,q1,q2,rfl,hp1,rfl,q3,rfl,hq3⟩:=hx
   have k1':N1 (.int (z.1 * z.2.2)) H':=k1 rfl H' (Ext.refl _)
   have hz2:=hb () z.2 (List.of_mem_zip (show (z.1,z.2)∈ys.zip A from hz)).2
   have cm:CMul z.1 z.2.2:=.inr ⟨by omega,by omega⟩
   clear k1 wk k hz
   simp! only [↓m_kCm_2,↓m_kCm2]
  ·intro D H1 hD e1 h1
   have h1':H1 D=some (.lst (((ys.zip A).map fun z=>z.1 * z.2.2).map V.int)):=by rw [h1,filt,List.map_map];rfl
   have hsum:=dotA_sum A ys
   have k':=k () H1 e1
   rw [←hsum] at k'
   clear k wk h1 hsum
   simp! only [and_true]
def InA:List (Int × Int)->List Int->Prop
 | [],[]=>True
 | a::A,y::ys=>(0≤y∧y < a.1)∧InA A ys
 | _,_=>False
theorem InA.len:∀ {A:List (Int × Int)}{ys:List Int},InA A ys->ys.length=A.length
 | [],[],_=>rfl
 | [],_::_,h=>h.elim
 | _::_,[],h=>h.elim
 | _::_,_::_,h=>congrArg (· + 1) (InA.len h.2)
theorem InA.at:∀ {A:List (Int × Int)}{ys:List Int}{i:Nat}{a:Int × Int}{y:Int},InA A ys->A[i]? = some a->ys[i]? = some y->0≤y∧y < a.1
 | a::A,y::ys,0,b,z,h,h1,h2=>by cases h1;cases h2;exact h.1
 | a::A,y::ys,i+1,b,z,h,h1,h2=>InA.at h.2 (by simpa using h1) (by simpa using h2)
 | [],_,_,_,_,_,h1,_=>by simp at h1
 | _::_,[],_,_,_,h,_,_=>h.elim
abbrev B_spKIsPl  (p:Addr) (q:Addr) (H:Hp) (Q:VK) (E:XK):Prop:=∃ (A:List (Int × Int)) (ys:List Int),PrAt H q A∧H p=some (.tup (ys.map V.int))∧A.length≤8∧InA A ys∧∀ H',Ext H H'->Q (.bl true) H'
def spKIsPl  : Sp:=fun vs H Q E=>∃ (p:Addr) (q:Addr),vs=[.ref p,.ref q]∧(B_spKIsPl  p q H Q E)
theorem c_spKIsPl  (p:Addr) (q:Addr) (H:Hp) (Q:VK) (E:XK):spKIsPl  [.ref p,.ref q] H Q E=(B_spKIsPl  p q H Q E):=spx2 (f:=fun (p:Addr) (q:Addr)=>[.ref p,.ref q]) (fun _ _ _ _ h=>by cases h;exact ⟨rfl,rfl⟩) p q
theorem l_spKIsPl  {vs:List V}{H:Hp}{Q:VK}{E:XK}(h:spKIsPl  vs H Q E):vs.length=2:=spl2 h fun _ _=>rfl
theorem ok__law_is_place (T:Tx K mg t):FnOk P w K mg base CX0 2 t.a__law_is_place t.d__law_is_place ["_law_place", "_law_axes_here"] spKIsPl:=by
 have G__law_whole:=ok__law_whole (P:=P) (w:=w) (base:=base) T
 refine T.F__law_is_place.ok c__law_is_place (fun vs H Q E h=>l_spKIsPl h) (fun cdv A' outer s H vs Q E hr h=>?_)
 ·obtain ⟨p,q,rfl,A,ys,⟨ts,hq,al⟩,hp,h8,hin,k⟩:=h
  refine ⟨_,(@pss_cons _ _ _ _ _ (@ps_if _ _ _ _ _ _ _ _ (PW.pt (@pw_or _ _ _ _ _ _ _ (@pt_not _ _ _ _ (@pt_valN _ _ _ (@pe_callB _ _ _ _ _ _ _ ("isinstance") _ call_qIsi (by rfl) T.z_isinstance (by decide +kernel) (@pa_c _ _ _ _ _ (@pvN _ 0 _ _ (by rfl) (by trivial) (by decide) (by decide)) (@pa_c _ _ _ _ _ (@pe_bltn _ _ (.ty "tuple") (.type "tuple") _ (by rfl) T.z_tuple (by decide +kernel) rfl (by decide) (by decide)) (@pa_nil _) (by rfl)) (by rfl)) (by decide) (by decide) (by rfl) (by rfl)) (by intros;rfl))) (@pw_or1 _ _ _ _ (@pt_cmpRN _ _ _ _ _ _ _ _ (op_qNe hr.units) (@pe_callB _ _ _ _ _ _ _ ("len") _ call_qLen (by rfl) T.z_len (by decide +kernel) (@pa_c _ _ _ _ _ (@pvN _ 0 _ _ (by rfl) (by trivial) (by decide) (by decide)) (@pa_nil _) (by rfl)) (by decide) (by decide) (by rfl) (by rfl)) (@pe_callB _ _ _ _ _ _ _ ("len") _ call_qLen (by rfl) T.z_len (by decide +kernel) (@pa_c _ _ _ _ _ (@pvN _ 1 _ _ (by rfl) (by trivial) (by decide) (by decide)) (@pa_nil _) (by rfl)) (by decide) (by decide) (by rfl) (by rfl)) (nomark _))))) (@pss_one _ _ _ (@ps_ret _ _ _ _ (@pe_bl _ _ _ _))) (@pss_nil _)) (@pss_cons _ _ _ _ _ (@ps_for _ _ _ _ _ _ _ _ PassesOwn.never rfl (@pi_zip _ _ _ _ _ _ _ _ _ (by rfl) T.z_zip (@pa_c _ _ _ _ _ (@pvN _ 0 _ _ (by rfl) (by trivial) (by decide) (by decide)) (@pa_c _ _ _ _ _ (@pvN _ 1 _ _ (by rfl) (by trivial) (by decide) (by decide)) (@pa_nil _) (by rfl)) (by rfl)) (by rfl) (by rfl)) ((@pg_tup _ _ _ _ _ (2) rfl (@pgs_consN _ _ _ _ _ (@pg_name _ _ (2) _ c__law_is_place.nd rfl (Or.inl rfl) (by trivial)) (@pgs_consN _ _ _ _ _ (@pg_name _ _ (3) _ c__law_is_place.nd rfl (Or.inl rfl) (by trivial)) (@pgs_nilN _) (by rfl)) (by rfl)) (by rfl) (by rfl)).mono fun _ _ _ _ h=>gTup_q h) (@pss_one _ _ _ (@ps_if _ _ _ _ _ _ _ _ (PW.pt (@pw_or _ _ _ _ _ _ _ (@pt_not _ _ _ _ (@pt_valN _ _ _ (@pe_call _ _ _ _ _ _ _ _ _ _ _ _ _ _ _ _ G__law_whole (hr.mono (by decide)) (by rfl) T.m__law_whole T.F__law_whole.kp T.b__law_whole .nil pass0 (@pa_c _ _ _ _ _ (@pvN _ 2 _ _ (by rfl) (by trivial) (by decide) (by decide)) (@pa_nil _) (by rfl)) (by decide) (by rfl) (by rfl)) (by intros;rfl))) (@pw_or1 _ _ _ _ (@pt_not _ _ _ _ (@pt_chainN _ _ _ _ _ _ _ _ _ _ _ _ on_le on_lt (@pe_int _ _ _ _) (@pvN _ 2 _ _ (by rfl) (by trivial) (by decide) (by decide)) (@pe_ix _ _ _ _ _ _ _ ix_q (@pvN _ 3 _ _ (by rfl) (by trivial) (by decide) (by decide)) (@pe_int _ _ _ _) (fun _ _=>rfl)) (by rfl)))))) (@pss_one _ _ _ (@ps_ret _ _ _ _ (@pe_bl _ _ _ _))) (@pss_nil _))) (by intros;rfl)) (@pss_one _ _ _ (@ps_ret _ _ _ _ (@pe_bl _ _ _ _))))),?_⟩
  rw [show start ["_law_place", "_law_axes_here", "_law_at", "_law_axis"] [.ref p,.ref q]=[some (.ref p),some (.ref q),none,none] from rfl]
  clear G__law_whole
  have htl:ts.length=A.length:=al.1
  have hyl:=hin.len
  have hll:(ys.length:Int)=(ts.length:Int):=by omega
  replace k:=fun (_:Unit)=>k
  replace al:=fun (_:Unit)=>al
  replace hin:=fun (_:Unit)=>hin
  replace htl:=fun (_:Unit)=>htl
  replace hyl:=fun (_:Unit)=>hyl
  simp! only [and_true]
  refine for_zip (ka:=true) (kb:=false) (xs:=ys.map V.int) (ys:=ts) (fun i σ H'=>∃ v2 v3:Option V,σ=[some (.ref p),some (.ref q),v2,v3]∧Ext H H') ⟨none,none,rfl,Ext.refl _⟩ (fun i σ H' ⟨_,_,_,e⟩=>⟨e.at hp,e.at hq⟩) ?_ ?_
  ·rintro i x y w' _ H2 H3 hx hy ⟨v2,v3,rfl,e2⟩ hw e3 h3
   rw [List.getElem?_map] at hx
   obtain ⟨n,hn,rfl⟩:=Option.map_eq_some_iff.mp hx
   have hiA:i < A.length:=by have:=(List.getElem?_eq_some_iff.mp hy).1;have:=htl ();omega
   obtain ⟨tq,rfl,htq⟩:=(al ()).2 i A[i] y (List.getElem?_eq_getElem hiA) hy
   obtain ⟨n0,n1⟩:=(hin ()).at (List.getElem?_eq_getElem hiA) hn
   have e03:=e2.trans e3
   have ht3:=e03.at htq
   generalize A[i]=b at *
   clear hx hy hn hw k htq e2 e3
   simp! only [↓m_kBody,↓c_spWhole]
   exact ⟨_,_,rfl,e03⟩
  ·rintro _ H2 ⟨v2,v3,rfl,e2⟩
   have k':=k () H2 e2
   clear k
   simp! only [and_true]
abbrev B_spKProd  (p:Addr) (H:Hp) (Q:VK) (E:XK):Prop:=∃ zs:List Tm3,TrAt H p zs∧zs.length≤17∧(∀ z∈zs,0≤z.2.2 - z.2.1+1∧z.2.2 - z.2.1+1≤2000000000)∧∀ H',Ext H H'->Q (.int (volL (zs.map fun z=>z.2))) H'
def spKProd  : Sp:=fun vs H Q E=>∃ (p:Addr),vs=[.ref p]∧(B_spKProd  p H Q E)
theorem c_spKProd  (p:Addr) (H:Hp) (Q:VK) (E:XK):spKProd  [.ref p] H Q E=(B_spKProd  p H Q E):=spx1 (f:=fun (p:Addr)=>[.ref p]) (fun _ _ h=>by cases h;exact rfl) p
theorem l_spKProd  {vs:List V}{H:Hp}{Q:VK}{E:XK}(h:spKProd  vs H Q E):vs.length=1:=spl1 h fun _=>rfl
theorem vol_snoc:∀ (cs:Bx) (b:Int × Int),volL (cs++[b])=volL cs * (b.2 - b.1+1)
 | [],b=>by show (b.2 - b.1+1) * 1=1 * (b.2 - b.1+1);omega
 | c::cs,b=>by
  show (c.2 - c.1+1) * volL (cs++[b])=(c.2 - c.1+1) * volL cs * (b.2 - b.1+1)
  rw [vol_snoc cs b,Int.mul_assoc]
theorem ok__law_product (T:Tx K mg t):FnOk P w K mg base CX0 1 t.a__law_product t.d__law_product ["_law_terms_here"] spKProd:=by
 refine T.F__law_product.ok c__law_product (fun vs H Q E h=>l_spKProd h) (fun cdv A' outer s H vs Q E hr h=>?_)
 ·obtain ⟨p,rfl,zs,⟨ts,hp,al⟩,h17,hb,k⟩:=h
  refine ⟨_,(@pss_cons _ _ _ _ _ (@ps_set _ _ (1) _ _ _ _ c__law_product.nd rfl (Or.inl rfl) (@pe_int _ _ _ _) (by rfl) (by trivial)) (@pss_cons _ _ _ _ _ (@ps_for _ _ _ _ _ _ _ _ PassesOwn.never rfl (@pi_seq _ _ _ _ (@pvN _ 0 _ _ (by rfl) (by trivial) (by decide) (by decide))) ((@pg_tup _ _ _ _ _ (3) rfl (@pgs_consN _ _ _ _ _ (@pg_name _ _ (2) _ c__law_product.nd rfl (Or.inl rfl) (by trivial)) (@pgs_consN _ _ _ _ _ (@pg_name _ _ (3) _ c__law_product.nd rfl (Or.inl rfl) (by trivial)) (@pgs_consN _ _ _ _ _ (@pg_name _ _ (4) _ c__law_product.nd rfl (Or.inl rfl) (by trivial)) (@pgs_nilN _) (by rfl)) (by rfl)) (by rfl)) (by rfl) (by rfl)).mono fun _ _ _ _ h=>gTup_q h) (@pss_one _ _ _ (@ps_set _ _ (1) _ _ _ _ c__law_product.nd rfl (Or.inl rfl) (@pe_op _ _ _ _ _ _ _ _ on_mul (@pvN _ 1 _ _ (by rfl) (by trivial) (by decide) (by decide)) (@pe_op _ _ _ _ _ _ _ _ on_add (@pe_op _ _ _ _ _ _ _ _ on_sub (@pvN _ 4 _ _ (by rfl) (by trivial) (by decide) (by decide)) (@pvN _ 3 _ _ (by rfl) (by trivial) (by decide) (by decide))) (@pe_int _ _ _ _))) (by rfl) (by trivial))) (by intros;rfl)) (@pss_one _ _ _ (@ps_ret _ _ _ _ (@pvN _ 1 _ _ (by rfl) (by trivial) (by decide) (by decide)))))),?_⟩
  rw [show start ["_law_terms_here", "_law_count", "_law_times", "_law_low", "_law_high"] [.ref p]=[some (.ref p),none,none,none,none] from rfl]
  have htl:ts.length=zs.length:=al.1
  replace k:=fun (_:Unit)=>k
  replace al:=fun (_:Unit)=>al
  replace hb:=fun (_:Unit)=>hb
  replace htl:=fun (_:Unit)=>htl
  simp! only [and_true]
  refine for_lst (xs:=ts) (fun i σ H'=>∃ v2 v3 v4:Option V,σ=[some (.ref p),some (.int (volL ((zs.take i).map fun z=>z.2))),v2,v3,v4]∧Ext H H') ⟨none,none,none,rfl,Ext.refl _⟩ (fun i σ H' _ ⟨_,_,_,_,e⟩=>e.at hp) ?_ ?_
  ·rintro i y _ H2 hi ⟨v2,v3,v4,rfl,e2⟩
   have hiz:i < zs.length:=by have:=(List.getElem?_eq_some_iff.mp hi).1;have:=htl ();omega
   obtain ⟨tq,rfl,htq⟩:=(al ()).2 i zs[i] y (List.getElem?_eq_getElem hiz) hi
   have hbi:=hb () zs[i] (List.getElem_mem hiz)
   have hs:volL ((zs.take (i+1)).map fun z=>z.2)=volL ((zs.take i).map fun z=>z.2) * (zs[i].2.2 - zs[i].2.1+1):=by
    rw [List.take_add_one,List.getElem?_eq_getElem hiz,List.map_append]
    exact vol_snoc _ _
   rw [hs]
   have cm:CMul (volL ((zs.take i).map fun z=>z.2)) (zs[i].2.2 - zs[i].2.1+1):=.inr ⟨by omega,by omega⟩
   have ht2:=e2.at htq
   generalize zs[i]=z at *
   generalize volL ((zs.take i).map fun z=>z.2)=vl at *
   clear hs hi k htq
   simp! only [↓m_kBody]
   exact ⟨_,_,_,rfl,e2⟩
  ·rintro _ H2 ⟨v2,v3,v4,rfl,e2⟩
   rw [htl (),List.take_length]
   have k':=k () H2 e2
   clear k
   simp! only [and_true]
abbrev B_spKMet  (x:Addr) (p:Addr) (q:Addr) (g:Int) (H:Hp) (Q:VK) (E:XK):Prop:=∃ (A B:List (Int × Int)) (ys zs:List Int) (a1 a2:Addr),H x=some (.tup [.str "shared",.ref a1,.ref a2])∧H a1=some (.tup (ys.map V.int))∧H a2=some (.tup (zs.map V.int))∧PrAt H p A∧PrAt H q B∧A.length≤8∧B.length≤8∧InA A ys∧InA B zs∧(∀ a∈A,-1000000≤a.2∧a.2≤1000000)∧(∀ a∈B,-1000000≤a.2∧a.2≤1000000)∧dotA A ys=g+dotA B zs∧∀ H',Ext H H'->Q (.bl true) H'
def spKMet  : Sp:=fun vs H Q E=>∃ (x:Addr) (p:Addr) (q:Addr) (g:Int),vs=[.ref x,.ref p,.ref q,.int g]∧(B_spKMet  x p q g H Q E)
theorem c_spKMet  (x:Addr) (p:Addr) (q:Addr) (g:Int) (H:Hp) (Q:VK) (E:XK):spKMet  [.ref x,.ref p,.ref q,.int g] H Q E=(B_spKMet  x p q g H Q E):=spx4 (f:=fun (x:Addr) (p:Addr) (q:Addr) (g:Int)=>[.ref x,.ref p,.ref q,.int g]) (fun _ _ _ _ _ _ _ _ h=>by cases h;exact ⟨rfl,rfl,rfl,rfl⟩) x p q g
theorem l_spKMet  {vs:List V}{H:Hp}{Q:VK}{E:XK}(h:spKMet  vs H Q E):vs.length=4:=spl4 h fun _ _ _ _=>rfl
theorem ok__law_met (T:Tx K mg t):FnOk P w K mg base CX0 3 t.a__law_met t.d__law_met ["_law_found", "_law_one", "_law_other", "_law_goal_here"] spKMet:=by
 have G__law_is_place:=ok__law_is_place (P:=P) (w:=w) (base:=base) T
 have G__law_cell:=ok__law_cell (P:=P) (w:=w) (base:=base) T
 refine T.F__law_met.ok c__law_met (fun vs H Q E h=>l_spKMet h) (fun cdv A' outer s H vs Q E hr h=>?_)
 ·obtain ⟨x,p,q,g,rfl,A,B,ys,zs,a1,a2,hx,h1,h2,hp,hq,hA,hB,iA,iB,bA,bB,hd,k⟩:=h
  refine ⟨_,(@pss_cons _ _ _ _ _ (@ps_if _ _ _ _ _ _ _ _ (PW.pt (@pw_or _ _ _ _ _ _ _ (@pt_not _ _ _ _ (@pt_valN _ _ _ (@pe_callB _ _ _ _ _ _ _ ("isinstance") _ call_qIsi (by rfl) T.z_isinstance (by decide +kernel) (@pa_c _ _ _ _ _ (@pvN _ 0 _ _ (by rfl) (by trivial) (by decide) (by decide)) (@pa_c _ _ _ _ _ (@pe_bltn _ _ (.ty "tuple") (.type "tuple") _ (by rfl) T.z_tuple (by decide +kernel) rfl (by decide) (by decide)) (@pa_nil _) (by rfl)) (by rfl)) (by decide) (by decide) (by rfl) (by rfl)) (by intros;rfl))) (@pw_or _ _ _ _ _ _ _ (@pt_cmpRN _ _ _ _ _ _ _ _ (op_qNe hr.units) (@pe_callB _ _ _ _ _ _ _ ("len") _ call_qLen (by rfl) T.z_len (by decide +kernel) (@pa_c _ _ _ _ _ (@pvN _ 0 _ _ (by rfl) (by trivial) (by decide) (by decide)) (@pa_nil _) (by rfl)) (by decide) (by decide) (by rfl) (by rfl)) (@pe_int _ _ _ _) (nomark _)) (@pw_or1 _ _ _ _ (@pt_cmpRN _ _ _ _ _ _ _ _ (op_qNe hr.units) (@pe_ix _ _ _ _ _ _ _ ix_q (@pvN _ 0 _ _ (by rfl) (by trivial) (by decide) (by decide)) (@pe_int _ _ _ _) (fun _ _=>rfl)) (@pe_str _ _ _ _) (nomark _)))))) (@pss_one _ _ _ (@ps_ret _ _ _ _ (@pe_bl _ _ _ _))) (@pss_nil _)) (@pss_cons _ _ _ _ _ (@ps_if _ _ _ _ _ _ _ _ (PW.pt (@pw_or _ _ _ _ _ _ _ (@pt_not _ _ _ _ (@pt_valN _ _ _ (@pe_call _ _ _ _ _ _ _ _ _ _ _ _ _ _ _ _ G__law_is_place (hr.mono (by decide)) (by rfl) T.m__law_is_place T.F__law_is_place.kp T.b__law_is_place .nil pass0 (@pa_c _ _ _ _ _ (@pe_ix _ _ _ _ _ _ _ ix_q (@pvN _ 0 _ _ (by rfl) (by trivial) (by decide) (by decide)) (@pe_int _ _ _ _) (fun _ _=>rfl)) (@pa_c _ _ _ _ _ (@pvN _ 1 _ _ (by rfl) (by trivial) (by decide) (by decide)) (@pa_nil _) (by rfl)) (by rfl)) (by decide) (by rfl) (by rfl)) (by intros;rfl))) (@pw_or1 _ _ _ _ (@pt_not _ _ _ _ (@pt_valN _ _ _ (@pe_call _ _ _ _ _ _ _ _ _ _ _ _ _ _ _ _ G__law_is_place (hr.mono (by decide)) (by rfl) T.m__law_is_place T.F__law_is_place.kp T.b__law_is_place .nil pass0 (@pa_c _ _ _ _ _ (@pe_ix _ _ _ _ _ _ _ ix_q (@pvN _ 0 _ _ (by rfl) (by trivial) (by decide) (by decide)) (@pe_int _ _ _ _) (fun _ _=>rfl)) (@pa_c _ _ _ _ _ (@pvN _ 2 _ _ (by rfl) (by trivial) (by decide) (by decide)) (@pa_nil _) (by rfl)) (by rfl)) (by decide) (by rfl) (by rfl)) (by intros;rfl)))))) (@pss_one _ _ _ (@ps_ret _ _ _ _ (@pe_bl _ _ _ _))) (@pss_nil _)) (@pss_one _ _ _ (@ps_ret _ _ _ _ (@pe_cmpR _ _ _ _ _ _ _ _ (op_qEq hr.units) (@pe_call _ _ _ _ _ _ _ _ _ _ _ _ _ _ _ _ G__law_cell (hr.mono (by decide)) (by rfl) T.m__law_cell T.F__law_cell.kp T.b__law_cell .nil pass0 (@pa_c _ _ _ _ _ (@pe_int _ _ _ _) (@pa_c _ _ _ _ _ (@pvN _ 1 _ _ (by rfl) (by trivial) (by decide) (by decide)) (@pa_c _ _ _ _ _ (@pe_ix _ _ _ _ _ _ _ ix_q (@pvN _ 0 _ _ (by rfl) (by trivial) (by decide) (by decide)) (@pe_int _ _ _ _) (fun _ _=>rfl)) (@pa_nil _) (by rfl)) (by rfl)) (by rfl)) (by decide) (by rfl) (by rfl)) (@pe_call _ _ _ _ _ _ _ _ _ _ _ _ _ _ _ _ G__law_cell (hr.mono (by decide)) (by rfl) T.m__law_cell T.F__law_cell.kp T.b__law_cell .nil pass0 (@pa_c _ _ _ _ _ (@pvN _ 3 _ _ (by rfl) (by trivial) (by decide) (by decide)) (@pa_c _ _ _ _ _ (@pvN _ 2 _ _ (by rfl) (by trivial) (by decide) (by decide)) (@pa_c _ _ _ _ _ (@pe_ix _ _ _ _ _ _ _ ix_q (@pvN _ 0 _ _ (by rfl) (by trivial) (by decide) (by decide)) (@pe_int _ _ _ _) (fun _ _=>rfl)) (@pa_nil _) (by rfl)) (by rfl)) (by rfl)) (by decide) (by rfl) (by rfl)) (nomark _)))))),?_⟩
  rw [show start ["_law_found", "_law_one", "_law_other", "_law_goal_here"] [.ref x,.ref p,.ref q,.int g]=[some (.ref x),some (.ref p),some (.ref q),some (.int g)] from rfl]
  clear G__law_is_place G__law_cell
  replace k:=fun (_:Unit)=>k
  replace hd:=fun (_:Unit)=>hd
  replace iA:=fun (_:Unit)=>iA
  replace iB:=fun (_:Unit)=>iB
  replace bA:=fun (_:Unit)=>bA
  replace bB:=fun (_:Unit)=>bB
  simp! only [and_true]
  rw [c_spKIsPl]
  refine ⟨A,ys,hp,h1,hA,iA (),fun H1 e1=>?_⟩
  have hx1:=e1.at hx
  simp! only [and_true]
  rw [c_spKIsPl]
  refine ⟨B,zs,pr_ext hq e1,e1.at h2,hB,iB (),fun H2 e2=>?_⟩
  have e02:=e1.trans e2
  have hx2:=e2.at hx1
  simp! only [and_true]
  rw [c_spKCell]
  refine ⟨A,ys,pr_ext hp e02,e02.at h1,hA,bA (),fun H3 e3=>?_⟩
  have e03:=e02.trans e3
  have hx3:=e3.at hx2
  simp! only [and_true]
  rw [c_spKCell]
  refine ⟨B,zs,pr_ext hq e03,e03.at h2,hB,bB (),fun H4 e4=>?_⟩
  simp! only [and_true]
  rw [decide_eq_true (show 0+dotA A ys=g+dotA B zs by have:=hd ();omega)]
  exact k () H4 (e03.trans e4)
structure RngI (H:Hp) (P:List (Int × Int)) (ks:List Int) (kvs:List (Key × V)):Prop where
 e1:kvs.map (·.1)=ks.map (Sum.inl:Int->Key)
 nd:ks.Nodup
 len:ks.length≤P.length
 v:∀ t∈ks,∃ q,valV kvs (.inl t)=some (.ref q)∧H q=some (.tup [.int (lowF P t),.int (highF P t)])
 mem:∀ t,t∈ks ↔ t ≠ 0∧∃ z∈P,absI z.1=t
theorem RngI.ext {H H':Hp}{P:List (Int × Int)}{ks:List Int}{kvs:List (Key × V)}(h:RngI H P ks kvs) (e:Ext H H'):RngI H' P ks kvs:=
 ⟨h.e1,h.nd,h.len,fun t ht=>(let ⟨q,h1,h2⟩:=h.v t ht;⟨q,h1,e.at h2⟩),h.mem⟩
theorem RngI.upd {H:Hp}{P:List (Int × Int)}{ks:List Int}{kvs k0:List (Key × V)}{d:Addr}{o:HO}(h:RngI H P ks kvs) (hd:H d=some (.dK k0)):RngI (upd H d o) P ks kvs:=
 ⟨h.e1,h.nd,h.len,fun t ht=>(let ⟨q,h1,h2⟩:=h.v t ht;⟨q,h1,by rw [upd_ne (fun z=>by rw [z,hd] at h2;cases h2)];exact h2⟩),h.mem⟩
theorem RngI.nil {H:Hp}:RngI H [] [] []:=⟨rfl,List.nodup_nil,Nat.le_refl _,(fun t h=>by cases h),fun t=>⟨(fun h=>by cases h),fun ⟨_,z,hz,_⟩=>by cases hz⟩⟩
theorem RngI.get {H:Hp}{P:List (Int × Int)}{ks:List Int}{kvs:List (Key × V)}{q0:Addr}(h:RngI H P ks kvs){t:Int}(ht:t ≠ 0) (h0:H q0=some (.tup [.int 0,.int 0])):∃ q,(valV kvs (.inl t)).getD (.ref q0)=.ref q∧H q=some (.tup [.int (lowF P t),.int (highF P t)]):=by
 by_cases hm:t∈ks
 ·obtain ⟨q,h1,h2⟩:=h.v t hm
  exact ⟨q,by rw [h1];rfl,h2⟩
 ·have hno:∀ z∈P,¬ absI z.1=t:=fun z hz e=>hm ((h.mem t).mpr ⟨ht,z,hz,e⟩)
  refine ⟨q0,by rw [keys_not h.e1 hm];rfl,?_⟩
  unfold lowF highF
  rw [sumAt_out hno,sumAt_out hno]
  exact h0
theorem RngI.skip {H:Hp}{P:List (Int × Int)}{ks:List Int}{kvs:List (Key × V)}{z:Int × Int}(h:RngI H P ks kvs) (hz:z.1=0):RngI H (P++[z]) ks kvs:=by
 have h0:absI z.1=0:=by rw [hz];rfl
 have hne:∀ t∈ks,¬ absI z.1=t:=fun t ht e=>((h.mem t).mp ht).1 (by rw [←e];exact h0)
 refine ⟨h.e1,h.nd,by rw [List.length_append];have:=h.len;omega,fun t ht=>?_,fun t=>?_⟩
 ·obtain ⟨q,h1,h2⟩:=h.v t ht
  exact ⟨q,h1,by rw [low_snoc,high_snoc,if_neg (hne t ht),if_neg (hne t ht),Int.add_zero,Int.add_zero];exact h2⟩
 ·rw [h.mem t]
  constructor
  ·rintro ⟨a,y,hy,e⟩
   exact ⟨a,y,List.mem_append_left _ hy,e⟩
  ·rintro ⟨a,y,hy,e⟩
   rcases List.mem_append.mp hy with hy|hy
   ·exact ⟨a,y,hy,e⟩
   ·rw [List.mem_singleton.mp hy,h0] at e
    exact absurd e.symm a
theorem RngI.put {H:Hp}{P:List (Int × Int)}{ks:List Int}{kvs:List (Key × V)}{z:Int × Int}{tq:Addr}(h:RngI H P ks kvs) (hz:z.1 ≠ 0) (ht:H tq=some (.tup [.int (lowF P (absI z.1)+loP z),.int (highF P (absI z.1)+hiP z)])):∃ ks',RngI H (P++[z]) ks' (putK kvs (.inl (absI z.1)) (.ref tq)):=by
 have h0:absI z.1 ≠ 0:=by unfold absI;omega
 have hv:∀ t:Int,valV (putK kvs (.inl (absI z.1)) (.ref tq)) (.inl t)=if absI z.1=t then some (.ref tq) else valV kvs (.inl t):=fun t=>by
  rw [valV_put]
  by_cases e:absI z.1=t
  ·rw [if_pos e,if_pos (by rw [e])]
  ·rw [if_neg e,if_neg (fun q=>e (by cases q;rfl))]
 have fin:∀ ks',(∀ t,t∈ks' ↔ t∈ks∨t=absI z.1)->(putK kvs (.inl (absI z.1)) (.ref tq)).map (·.1)=ks'.map (Sum.inl:Int->Key)->ks'.Nodup->ks'.length≤ks.length+1->RngI H (P++[z]) ks' (putK kvs (.inl (absI z.1)) (.ref tq)):=fun ks' hm a1 a3 a4=>by
  refine ⟨a1,a3,by rw [List.length_append,List.length_singleton];have:=h.len;omega,fun t ht'=>?_,fun t=>?_⟩
  ·rw [hv,low_snoc,high_snoc]
   by_cases e:absI z.1=t
   ·rw [if_pos e,if_pos e,if_pos e,←e];exact ⟨tq,rfl,ht⟩
   ·rw [if_neg e,if_neg e,if_neg e,Int.add_zero,Int.add_zero]
    exact h.v t (((hm t).mp ht').resolve_right fun q=>e q.symm)
  ·rw [hm t,h.mem t]
   constructor
   ·rintro (⟨a,y,hy,e⟩|e)
    ·exact ⟨a,y,List.mem_append_left _ hy,e⟩
    ·exact ⟨by rw [e];exact h0,z,List.mem_append_right _ List.mem_cons_self,e.symm⟩
   ·rintro ⟨a,y,hy,e⟩
    rcases List.mem_append.mp hy with hy|hy
    ·exact .inl ⟨a,y,hy,e⟩
    ·rw [List.mem_singleton.mp hy] at e
     exact .inr e.symm
 by_cases hm:absI z.1∈ks
 ·obtain ⟨q,h1,_⟩:=h.v _ hm
  exact ⟨ks,fin ks (fun t=>⟨.inl,fun q=>q.elim id fun e=>by rw [e];exact hm⟩) (by rw [putK_keys _ h1];exact h.e1) h.nd (by omega)⟩
 ·refine ⟨ks++[absI z.1],fin _ (fun t=>by rw [List.mem_append,List.mem_singleton]) ?_ ?_ (by rw [List.length_append];exact Nat.le_refl _)⟩
  ·rw [putK_keysN (keys_not h.e1 hm),h.e1,List.map_append];rfl
  ·rw [List.nodup_append]
   exact ⟨h.nd,by simp,fun a ha b hb e=>hm (by rw [List.mem_singleton] at hb;rw [←hb,←e];exact ha)⟩
theorem desc_eq:∀ {l m:List Int},l.Nodup->m.Nodup->l.Pairwise (· ≥ ·)->m.Pairwise (· ≥ ·)->(∀ t,t∈l ↔ t∈m)->l=m
 | [],[],_,_,_,_,_=>rfl
 | [],b::m,_,_,_,_,h=>by have:=(h b).mpr List.mem_cons_self;cases this
 | a::l,[],_,_,_,_,h=>by have:=(h a).mp List.mem_cons_self;cases this
 | a::l,b::m,n1,n2,p1,p2,h=>by
  obtain ⟨a1,a2⟩:=List.nodup_cons.mp n1
  obtain ⟨b1,b2⟩:=List.nodup_cons.mp n2
  obtain ⟨c1,c2⟩:=List.pairwise_cons.mp p1
  obtain ⟨d1,d2⟩:=List.pairwise_cons.mp p2
  have hab:a=b:=by
   rcases List.mem_cons.mp ((h a).mp List.mem_cons_self) with e|e
   ·exact e
   ·rcases List.mem_cons.mp ((h b).mpr List.mem_cons_self) with e'|e'
    ·exact e'.symm
    ·have x1:=d1 a e
     have x2:=c1 b e'
     omega
  subst hab
  congr 1
  refine desc_eq a2 b2 c2 d2 fun t=>⟨fun ht=>?_,fun ht=>?_⟩
  ·exact (List.mem_cons.mp ((h t).mp (List.mem_cons_of_mem _ ht))).resolve_left fun e=>a1 (by rw [←e];exact ht)
  ·exact (List.mem_cons.mp ((h t).mpr (List.mem_cons_of_mem _ ht))).resolve_left fun e=>b1 (by rw [←e];exact ht)
theorem KsOk.uniq {l m:List Int}{P:List (Int × Int)}(h1:KsOk l P) (h2:KsOk m P):l=m:=desc_eq h1.nd h2.nd h1.ord h2.ord fun t=>(h1.mem t).trans (h2.mem t).symm
theorem ShRes.uniq {A B:List (Int × Int)}{g:Int}{k1 k2:List Int}{o1 o2:Option (List Int)}{p1 p2:List (List V)}(h1:ShRes A B g k1 o1 p1) (h2:ShRes A B g k2 o2 p2):k1=k2∧o1=o2∧p1=p2:=by
 have e:=h1.kok.uniq h2.kok
 subst e
 have:=h1.out.symm.trans h2.out
 cases this
 exact ⟨rfl,rfl,rfl⟩
theorem dot_pull:∀ {A B:List (Int × Int)}{ys zs:List Int},InA A ys->InA B zs->dotQ (pullL A B) (ys++zs)=dotA A ys - dotA B zs
 | [],[],[],[],_,_=>rfl
 | [],[],[],_::_,_,h=>h.elim
 | [],_::_,[],[],_,h=>h.elim
 | [],b::B,[],z::zs,h1,h2=>by
  have ih:=dot_pull (A:=[]) (ys:=[]) (B:=B) (zs:=zs) trivial h2.2
  show -b.2 * z+dotQ (pullL [] B) ([]++zs)=0 - (b.2 * z+dotA B zs)
  rw [ih,Int.neg_mul]
  show _+(0 - dotA B zs)=_
  omega
 | [],_,_::_,_,h,_=>h.elim
 | _::_,_,[],_,h,_=>h.elim
 | a::A,B,y::ys,zs,h1,h2=>by
  have ih:=dot_pull h1.2 h2
  show a.2 * y+dotQ (pullL A B) (ys++zs)=a.2 * y+dotA A ys - dotA B zs
  rw [ih];omega
theorem pull_in:∀ {A B:List (Int × Int)}{xs:List Int},InP (pullL A B) xs->InA A (xs.take A.length)∧InA B (xs.drop A.length)
 | [],[],[],_=>⟨trivial,trivial⟩
 | [],[],_::_,h=>h.elim
 | [],_::_,[],h=>h.elim
 | [],b::B,z::zs,h=>⟨trivial,h.1,(pull_in (A:=[]) (B:=B) (xs:=zs) h.2).2⟩
 | _::_,_,[],h=>h.elim
 | a::A,B,y::xs,h=>⟨⟨h.1,(pull_in h.2).1⟩,(pull_in h.2).2⟩
def sgP (sg:Int) (a:Int × Int):Int × Int:=(sg * (keptA a).2,a.1)
theorem pull_sg (A B:List (Int × Int)):pullL (A.map keptA) (B.map keptA)=A.map (sgP 1)++B.map (sgP (-1)):=by
 unfold pullL
 rw [List.map_map,List.map_map]
 congr 1
 ·refine List.map_congr_left fun a _=>?_
  show ((keptA a).2,a.1)=(1 * (keptA a).2,a.1)
  rw [Int.one_mul]
 ·refine List.map_congr_left fun a _=>?_
  show (-(keptA a).2,a.1)=(-1 * (keptA a).2,a.1)
  rw [Int.neg_one_mul]
abbrev B_spKTerms  (p:Addr) (q:Addr) (H:Hp) (Q:VK) (E:XK):Prop:=∃ A B:List (Int × Int),PrAt H p A∧PrAt H q B∧A.length≤8∧B.length≤8∧(∀ a∈A,(1:Int)≤a.1)∧(∀ a∈B,(1:Int)≤a.1)∧∀ (ks:List Int) (r:Addr) (H':Hp),Ext H H'->TrAt H' r (termsF ks (pullL (A.map keptA) (B.map keptA)))->KsOk ks (pullL (A.map keptA) (B.map keptA))->Q (.ref r) H'
def spKTerms  : Sp:=fun vs H Q E=>∃ (p:Addr) (q:Addr),vs=[.ref p,.ref q]∧(B_spKTerms  p q H Q E)
theorem c_spKTerms  (p:Addr) (q:Addr) (H:Hp) (Q:VK) (E:XK):spKTerms  [.ref p,.ref q] H Q E=(B_spKTerms  p q H Q E):=spx2 (f:=fun (p:Addr) (q:Addr)=>[.ref p,.ref q]) (fun _ _ _ _ h=>by cases h;exact ⟨rfl,rfl⟩) p q
theorem l_spKTerms  {vs:List V}{H:Hp}{Q:VK}{E:XK}(h:spKTerms  vs H Q E):vs.length=2:=spl2 h fun _ _=>rfl
theorem ok__law_terms (T:Tx K mg t):FnOk P w K mg base CX0 1 t.a__law_terms t.d__law_terms ["_law_one", "_law_other"] spKTerms:=by
 refine T.F__law_terms.ok c__law_terms (fun vs H Q E h=>l_spKTerms h) (fun cdv A' outer s H vs Q E hr h=>?_)
 ·obtain ⟨p,q,rfl,A,B,pA,pB,hA,hB,sA,sB,k⟩:=h
  refine ⟨_,(@pss_cons _ _ _ _ _ (@ps_set _ _ (2) _ _ _ _ c__law_terms.nd rfl (Or.inr rfl) (@pe_nDNew _ _) (by rfl) (by trivial)) (@pss_cons _ _ _ _ _ (@ps_for _ _ _ _ _ _ _ _ PassesOwn.never rfl (@pi_seq _ _ _ _ (@pe_qLst _ _ _ _ (@pa_c _ _ _ _ _ (@pe_qTup _ _ _ _ _ (@pa_c _ _ _ _ _ (@pvN _ 0 _ _ (by rfl) (by trivial) (by decide) (by decide)) (@pa_c _ _ _ _ _ (@pe_int _ _ _ _) (@pa_nil _) (by rfl)) (by rfl))) (@pa_c _ _ _ _ _ (@pe_qTup _ _ _ _ _ (@pa_c _ _ _ _ _ (@pvN _ 1 _ _ (by rfl) (by trivial) (by decide) (by decide)) (@pa_c _ _ _ _ _ (@pe_un _ _ _ _ _ _ un_negN (@pe_int _ _ _ _)) (@pa_nil _) (by rfl)) (by rfl))) (@pa_nil _) (by rfl)) (by rfl)))) ((@pg_tup _ _ _ _ _ (2) rfl (@pgs_consN _ _ _ _ _ (@pg_name _ _ (3) _ c__law_terms.nd rfl (Or.inl rfl) (by trivial)) (@pgs_consN _ _ _ _ _ (@pg_name _ _ (4) _ c__law_terms.nd rfl (Or.inl rfl) (by trivial)) (@pgs_nilN _) (by rfl)) (by rfl)) (by rfl) (by rfl)).mono fun _ _ _ _ h=>gTup_q h) (@pss_one _ _ _ (@ps_for _ _ _ _ _ _ _ _ PassesOwn.never rfl (@pi_seq _ _ _ _ (@pvN _ 3 _ _ (by rfl) (by trivial) (by decide) (by decide))) ((@pg_tup _ _ _ _ _ (2) rfl (@pgs_consN _ _ _ _ _ (@pg_name _ _ (5) _ c__law_terms.nd rfl (Or.inl rfl) (by trivial)) (@pgs_consN _ _ _ _ _ (@pg_name _ _ (6) _ c__law_terms.nd rfl (Or.inl rfl) (by trivial)) (@pgs_nilN _) (by rfl)) (by rfl)) (by rfl) (by rfl)).mono fun _ _ _ _ h=>gTup_q h) (@pss_one _ _ _ (@ps_if _ _ _ _ _ _ _ _ (PW.pt (@pw_and _ _ _ _ _ _ _ (@pt_cmpRN _ _ _ _ _ _ _ _ on_gt (@pvN _ 5 _ _ (by rfl) (by trivial) (by decide) (by decide)) (@pe_int _ _ _ _) (nomark _)) (@pw_and1 _ _ _ _ (@pt_cmpRN _ _ _ _ _ _ _ _ (op_qNe hr.units) (@pvN _ 6 _ _ (by rfl) (by trivial) (by decide) (by decide)) (@pe_int _ _ _ _) (nomark _))))) (@pss_cons _ _ _ _ _ (@ps_asg _ _ _ _ _ _ (@pe_dget2 _ _ _ _ _ _ _ _ _ (units1 hr.units) (@pvN _ 2 _ _ (by rfl) (by trivial) (by decide) (by decide)) (@pe_callB _ _ _ _ _ _ _ ("abs") _ call_qAbs (by rfl) T.z_abs (by decide +kernel) (@pa_c _ _ _ _ _ (@pvN _ 6 _ _ (by rfl) (by trivial) (by decide) (by decide)) (@pa_nil _) (by rfl)) (by decide) (by decide) (by rfl) (by rfl)) (@pe_qTup _ _ _ _ _ (@pa_c _ _ _ _ _ (@pe_int _ _ _ _) (@pa_c _ _ _ _ _ (@pe_int _ _ _ _) (@pa_nil _) (by rfl)) (by rfl))) ⟨by rfl,by rfl,by rfl,by rfl⟩) ((@pg_tup _ _ _ _ _ (2) rfl (@pgs_consN _ _ _ _ _ (@pg_name _ _ (7) _ c__law_terms.nd rfl (Or.inl rfl) (by trivial)) (@pgs_consN _ _ _ _ _ (@pg_name _ _ (8) _ c__law_terms.nd rfl (Or.inl rfl) (by trivial)) (@pgs_nilN _) (by rfl)) (by rfl)) (by rfl) (by rfl)).mono fun _ _ _ _ h=>gTup_q h) (by rfl) (by rfl) (by rfl)) (@pss_one _ _ _ (@ps_if _ _ _ _ _ _ _ _ (@pt_cmpRN _ _ _ _ _ _ _ _ on_gt (@pe_op _ _ _ _ _ _ _ _ on_mul (@pvN _ 6 _ _ (by rfl) (by trivial) (by decide) (by decide)) (@pvN _ 4 _ _ (by rfl) (by trivial) (by decide) (by decide))) (@pe_int _ _ _ _) (nomark _)) (@pss_one _ _ _ (@ps_dput _ _ _ _ _ _ _ _ _ (units1 hr.units) (@pvN _ 2 _ _ (by rfl) (by trivial) (by decide) (by decide)) (@pe_callB _ _ _ _ _ _ _ ("abs") _ call_qAbs (by rfl) T.z_abs (by decide +kernel) (@pa_c _ _ _ _ _ (@pvN _ 6 _ _ (by rfl) (by trivial) (by decide) (by decide)) (@pa_nil _) (by rfl)) (by decide) (by decide) (by rfl) (by rfl)) (@pe_qTup _ _ _ _ _ (@pa_c _ _ _ _ _ (@pvN _ 7 _ _ (by rfl) (by trivial) (by decide) (by decide)) (@pa_c _ _ _ _ _ (@pe_op _ _ _ _ _ _ _ _ on_sub (@pe_op _ _ _ _ _ _ _ _ on_add (@pvN _ 8 _ _ (by rfl) (by trivial) (by decide) (by decide)) (@pvN _ 5 _ _ (by rfl) (by trivial) (by decide) (by decide))) (@pe_int _ _ _ _)) (@pa_nil _) (by rfl)) (by rfl))) rfl)) (@pss_one _ _ _ (@ps_dput _ _ _ _ _ _ _ _ _ (units1 hr.units) (@pvN _ 2 _ _ (by rfl) (by trivial) (by decide) (by decide)) (@pe_callB _ _ _ _ _ _ _ ("abs") _ call_qAbs (by rfl) T.z_abs (by decide +kernel) (@pa_c _ _ _ _ _ (@pvN _ 6 _ _ (by rfl) (by trivial) (by decide) (by decide)) (@pa_nil _) (by rfl)) (by decide) (by decide) (by rfl) (by rfl)) (@pe_qTup _ _ _ _ _ (@pa_c _ _ _ _ _ (@pe_op _ _ _ _ _ _ _ _ on_add (@pe_op _ _ _ _ _ _ _ _ on_sub (@pvN _ 7 _ _ (by rfl) (by trivial) (by decide) (by decide)) (@pvN _ 5 _ _ (by rfl) (by trivial) (by decide) (by decide))) (@pe_int _ _ _ _)) (@pa_c _ _ _ _ _ (@pvN _ 8 _ _ (by rfl) (by trivial) (by decide) (by decide)) (@pa_nil _) (by rfl)) (by rfl))) rfl))))) (@pss_nil _))) (by intros;rfl))) (by intros;rfl)) (@pss_cons _ _ _ _ _ (@ps_setC _ _ _ _ _ _ _ _ _ _ _ _ _ (["_law_times", "_law_one", "_law_other", "_law_ranges", "_law_axes_here", "_law_sign", "_law_size", "_law_pace", "_law_low", "_law_high", "_law_found"]) (1) (9) _ c__law_terms.nd rfl (Or.inl rfl) (comp_ok (defScope s__law_terms) ["_law_one", "_law_other", "_law_ranges", "_law_axes_here", "_law_sign", "_law_size", "_law_pace", "_law_low", "_law_high", "_law_found"] rfl rfl (by decide +kernel)) rfl (@pi_seq _ _ _ _ (@pe_callB _ _ _ _ _ _ _ ("sorted") _ (call_qSrtD rfl) (by rfl) T.z_sorted (by decide +kernel) (@pa_c _ _ _ _ _ (@pvN _ 2 _ _ (by rfl) (by trivial) (by decide) (by decide)) (@pa_nil _) (by rfl)) (by decide) (by decide) (by rfl) (by rfl))) (fun C s₀ H₀ ex pn=>(@pg_name _ _ (0) _ (show List.Nodup (["_law_times", "_law_one", "_law_other", "_law_ranges", "_law_axes_here", "_law_sign", "_law_size", "_law_pace", "_law_low", "_law_high", "_law_found"]:List Str) from by decide +kernel) rfl (Or.inl rfl) (by trivial))) (fun C s₀ H₀ ex pn=>(@pts_nil _)) (fun C s₀ H₀ ex pn=>(@pe_op _ _ _ _ _ _ _ _ op_nCatT (@pe_qTup _ _ _ _ _ (@pa_c _ _ _ _ _ (@pvN _ 0 _ _ (by rfl) (by trivial) (by decide) (by decide)) (@pa_nil _) (by rfl))) (@pe_dget _ _ _ _ _ _ (units1 hr.units) (@pvN _ 3 _ _ (by rfl) (by trivial) (by decide) (by decide)) (@pvN _ 0 _ _ (by rfl) (by trivial) (by decide) (by decide)) (fun _ _=>rfl)))) (by rfl) (by intros;rfl) (by trivial)) (@pss_cons _ _ _ _ _ (@ps_expr _ _ _ _ (@pe_bm0 _ _ _ _ _ _ _ _ _ PySem.F.plainAttrs_list PySem.F.slot_list_reverse PySem.F.type_list_reverse mt_reverse (@pvN _ 9 _ _ (by rfl) (by trivial) (by decide) (by decide)) (by rfl) (by rfl)) (by rfl)) (@pss_one _ _ _ (@ps_ret _ _ _ _ (@pvN _ 9 _ _ (by rfl) (by trivial) (by decide) (by decide)))))))),?_⟩
  rw [show start ["_law_one", "_law_other", "_law_ranges", "_law_axes_here", "_law_sign", "_law_size", "_law_pace", "_law_low", "_law_high", "_law_found"] [.ref p,.ref q]=[some (.ref p),some (.ref q),none,none,none,none,none,none,none,none] from rfl]
  rw [pull_sg] at k
  replace k:=fun (_:Unit)=>k
  replace sA:=fun (_:Unit)=>sA
  replace sB:=fun (_:Unit)=>sB
  simp! only [and_true]
  intro d H1 hd1 e1 h1
  have hd0:=hd1
  simp! only [and_true]
  intro t1 H2 _ e2 h2
  simp! only [and_true]
  intro t2 H3 _ e3 h3
  have h2_3:=e3.at h2
  simp! only [and_true]
  intro l4 H4 hl4 e4 h4
  have nl:l4 ≠ d:=fun z=>by rw [z,(e2.trans e3).at h1] at hl4;cases hl4
  have e04:=e1.trans (e2.trans (e3.trans e4))
  have h1_4:=(e2.trans (e3.trans e4)).at h1
  have ht1:=e4.at h2_3
  have ht2:=e4.at h3
  clear hd1 hl4 h1 h2 h2_3 h3 e1 e2 e3 e4
  simp! only [and_true]
  refine for_lst (xs:=[.ref t1,.ref t2]) (fun i σ H'=>∃ (ks:List Int) (kvs:List (Key × V)) (v3 v4 v5 v6 v7 v8:Option V),σ=[some (.ref p),some (.ref q),some (.ref d),v3,v4,v5,v6,v7,v8,none]∧Ext H H'∧(∀ b o,b ≠ d->H4 b=some o->H' b=some o)∧H' d=some (.dK kvs)∧RngI H' (if i=0 then [] else if i=1 then A.map (sgP 1) else A.map (sgP 1)++B.map (sgP (-1))) ks kvs) ⟨[],[],none,none,none,none,none,none,rfl,e04,fun _ _ _ h=>h,h1_4,RngI.nil⟩ (fun i σ H' _ ⟨_,_,_,_,_,_,_,_,_,_,kp,_⟩=>kp l4 _ nl h4) ?_ ?_
  ·rintro i y _ H5 hi ⟨ks,kvs,v3,v4,v5,v6,v7,v8,rfl,e5,kp,h5d,ri⟩
   obtain ⟨tq,axp,Ax,sg,P0,hy,htq,pX,hX8,hX1,hsg,hP8,hP0,hP1⟩:∃ (tq axp:Addr) (Ax:List (Int × Int)) (sg:Int) (P0:List (Int × Int)),y=.ref tq∧H4 tq=some (.tup [.ref axp,.int sg])∧PrAt H axp Ax∧Ax.length≤8∧(∀ a∈Ax,(1:Int)≤a.1)∧(sg=1∨sg=-1)∧P0.length≤8∧(if i=0 then [] else if i=1 then A.map (sgP 1) else A.map (sgP 1)++B.map (sgP (-1)))=P0∧(if i+1=0 then [] else if i+1=1 then A.map (sgP 1) else A.map (sgP 1)++B.map (sgP (-1)))=P0++Ax.map (sgP sg):=by
    match i,hi with
    | 0,hi=>cases hi;exact ⟨t1,p,A,1,[],rfl,ht1,pA,hA,sA (),.inl rfl,by decide,rfl,rfl⟩
    | 1,hi=>cases hi;exact ⟨t2,q,B,-1,A.map (sgP 1),rfl,ht2,pB,hB,sB (),.inr rfl,by rw [List.length_map];exact hA,rfl,rfl⟩
    | i+2,hi=>simp at hi
   subst hy
   rw [hP0] at ri
   rw [hP1]
   have ht5:=kp tq _ (fun e=>by rw [e,h1_4] at htq;cases htq) htq
   obtain ⟨ts,hax,alX⟩:=pX
   have hax5:=e5.at hax
   have htl:ts.length=Ax.length:=alX.1
   replace alX:=fun (_:Unit)=>alX
   replace htl:=fun (_:Unit)=>htl
   replace hX1:=fun (_:Unit)=>hX1
   have ini:RngI H5 (P0++(Ax.map (sgP sg)).take 0) ks kvs:=by rw [List.take_zero,List.append_nil];exact ri
   replace ini:=fun (_:Unit)=>ini
   clear hi hP0 hP1 ri htq k pA pB ht1 ht2 h4
   simp! only [↓m_kBody]
   refine for_lst (xs:=ts) (fun j σ H'=>∃ (ks:List Int) (kvs:List (Key × V)) (v5 v6 v7 v8:Option V),σ=[some (.ref p),some (.ref q),some (.ref d),some (.ref axp),some (.int sg),v5,v6,v7,v8,none]∧Ext H H'∧(∀ b o,b ≠ d->H4 b=some o->H' b=some o)∧H' d=some (.dK kvs)∧RngI H' (P0++(Ax.map (sgP sg)).take j) ks kvs) ⟨ks,kvs,_,_,_,_,rfl,e5,kp,h5d,ini ()⟩ (fun j σ H' _ ⟨_,_,_,_,_,_,_,e,_⟩=>e.at hax) ?_ ?_
   ·clear ini h5d e5 kp ht5 hax5
    rintro j y _ H6 hj ⟨ks,kvs,v5,v6,v7,v8,rfl,e6,kp,h6d,ri⟩
    have hjA:j < Ax.length:=by have:=(List.getElem?_eq_some_iff.mp hj).1;have:=htl ();omega
    obtain ⟨aq,rfl,haq⟩:=(alX ()).2 j Ax[j] y (List.getElem?_eq_getElem hjA) hj
    have ha6:=e6.at haq
    have hsz:=hX1 () Ax[j] (List.getElem_mem hjA)
    have htk:(Ax.map (sgP sg)).take (j+1)=(Ax.map (sgP sg)).take j++[sgP sg Ax[j]]:=by
     rw [List.take_add_one,List.getElem?_map,List.getElem?_eq_getElem hjA];rfl
    rw [htk,←List.append_assoc]
    have hPl:(P0++(Ax.map (sgP sg)).take j).length≤16:=by rw [List.length_append,List.length_take,List.length_map];omega
    generalize P0++(Ax.map (sgP sg)).take j=PP at *
    have lk:kvs.length < sizeLine:=lt5000 (by have:=congrArg List.length ri.e1;have:=ri.len;rw [List.length_map,List.length_map] at *;omega)
    generalize Ax[j]=a at *
    clear hj htk haq
    by_cases hs1:1 < a.1
    ·have hkp:(keptA a).2=a.2:=by unfold keptA;rw [if_pos hs1]
     by_cases hp0:a.2=0
     ·have rs:=fun (_:Unit)=>ri.skip (z:=sgP sg a) (by show sg * (keptA a).2=0;rw [hkp,hp0,Int.mul_zero])
      clear ri hkp
      simp! only [↓m_kBody]
      exact ⟨ks,kvs,_,_,_,_,rfl,e6,kp,rfl,rs ()⟩
     obtain ⟨z,hz⟩:∃ z,sgP sg a=z:=⟨_,rfl⟩
     have hz1:z.1=sg * a.2:=by rw [←hz];show sg * (keptA a).2=_;rw [hkp]
     have hz2:z.2=a.1:=by rw [←hz];rfl
     have hz0:z.1 ≠ 0:=by rw [hz1];rcases hsg with rfl|rfl<;>omega
     have hab0:absI z.1 ≠ 0:=by unfold absI;omega
     have habs:(if a.2 < 0 then -a.2 else a.2)=absI z.1:=by
      unfold absI;rw [hz1];rcases hsg with rfl|rfl<;>split<;>omega
     have hsgn:(0 < a.2 * sg ↔ 0 < z.1):=by rw [hz1,Int.mul_comm]
     rw [hz]
     have cm:CMul a.2 sg:=.inr ⟨by rcases hsg with rfl|rfl<;>decide,by rcases hsg with rfl|rfl<;>decide⟩
     replace ri:=fun (_:Unit)=>ri
     replace hz1:=fun (_:Unit)=>hz1
     replace hz2:=fun (_:Unit)=>hz2
     replace hz:=fun (_:Unit)=>hz
     replace hsgn:=fun (_:Unit)=>hsgn
     replace hkp:=fun (_:Unit)=>hkp
     simp! only [↓m_kBody]
     refine use_ge0 h6d ?_
     simp! only [and_true]
     intro q0 H8 _ e8 h8
     have h8d:=e8.at h6d
     have e08:=e6.trans e8
     obtain ⟨qv,hgv,hqv⟩:=((ri ()).ext e8).get hab0 h8
     have ri8:=fun (_:Unit)=>(ri ()).ext e8
     have kp8:=fun (_:Unit)=>fun b o (x1:b ≠ d) (h:H4 b=some o)=>e8.at (kp b o x1 h)
     clear ha6 h6d kp e6
     simp! only [and_true]
     refine use_ge (k:=.inl (absI z.1)) h8d ?_
     rw [hgv]
     clear hgv
     by_cases hpos:0 < a.2 * sg
     ·have hzp:=(hsgn ()).mp hpos
      have hlo:loP z=0:=by unfold loP;rw [if_pos hzp]
      have hhi:hiP z=a.1 - 1:=by unfold hiP;rw [if_pos hzp,hz2 ()]
      replace hlo:=fun (_:Unit)=>hlo
      replace hhi:=fun (_:Unit)=>hhi
      clear hzp
      simp! only [and_true]
      intro t9 H9 ht9 e9 h9
      have h9d:=e9.at h8d
      obtain ⟨ks',rn⟩:=((ri8 ()).ext e9).put (z:=z) (tq:=t9) hz0 (by rw [h9,hlo (),hhi (),Int.add_zero,Int.add_sub_assoc])
      have ru:=fun (_:Unit)=>RngI.upd (o:=.dK (putK kvs (.inl (absI z.1)) (.ref t9))) rn h9d
      clear rn ht9 ri8 h8d ri
      simp! only [and_true]
      refine use_dp (k:=.inl (absI z.1)) h9d lk ?_
      exact ⟨ks',_,_,_,_,_,rfl,(e08.trans e9).put hd0,fun b o x1 h=>by rw [upd_ne x1];exact e9.at (kp8 () b o x1 h),upd_same,ru ()⟩
     ·have hzp:¬ 0 < z.1:=fun h=>hpos ((hsgn ()).mpr h)
      have hlo:loP z=1 - a.1:=by unfold loP;rw [if_neg hzp,hz2 ()]
      have hhi:hiP z=0:=by unfold hiP;rw [if_neg hzp]
      replace hlo:=fun (_:Unit)=>hlo
      replace hhi:=fun (_:Unit)=>hhi
      clear hzp
      simp! only [and_true]
      intro t9 H9 ht9 e9 h9
      have h9d:=e9.at h8d
      obtain ⟨ks',rn⟩:=((ri8 ()).ext e9).put (z:=z) (tq:=t9) hz0 (by rw [h9,hlo (),hhi (),Int.add_zero,show lowF PP (absI z.1) - a.1+1=lowF PP (absI z.1)+(1 - a.1) by omega])
      have ru:=fun (_:Unit)=>RngI.upd (o:=.dK (putK kvs (.inl (absI z.1)) (.ref t9))) rn h9d
      clear rn ht9 ri8 h8d ri
      simp! only [and_true]
      refine use_dp (k:=.inl (absI z.1)) h9d lk ?_
      exact ⟨ks',_,_,_,_,_,rfl,(e08.trans e9).put hd0,fun b o x1 h=>by rw [upd_ne x1];exact e9.at (kp8 () b o x1 h),upd_same,ru ()⟩
    ·have hkp:(keptA a).2=0:=by unfold keptA;rw [if_neg hs1]
     have rs:=fun (_:Unit)=>ri.skip (z:=sgP sg a) (by show sg * (keptA a).2=0;rw [hkp,Int.mul_zero])
     clear ri hkp
     simp! only [↓m_kBody]
     exact ⟨ks,kvs,_,_,_,_,rfl,e6,kp,rfl,rs ()⟩
   ·rintro _ H6 ⟨ks,kvs,v5,v6,v7,v8,rfl,e6,kp,h6d,ri⟩
    rw [htl (),List.take_of_length_le (by rw [List.length_map];exact Nat.le_refl _)] at ri
    exact ⟨ks,kvs,_,_,_,_,_,_,rfl,e6,kp,h6d,ri⟩
  ·rintro _ H5 ⟨ks,kvs,v3,v4,v5,v6,v7,v8,rfl,e5,kp,h5d,ri⟩
   have ri':RngI H5 (A.map (sgP 1)++B.map (sgP (-1))) ks kvs:=ri
   have hPl:(A.map (sgP 1)++B.map (sgP (-1))).length≤16:=by rw [List.length_append,List.length_map,List.length_map];omega
   generalize A.map (sgP 1)++B.map (sgP (-1))=P' at *
   have hk1:ks.length < 64:=by have:=ri'.len;omega
   replace ri':=fun (_:Unit)=>ri'
   clear ri kp h4 h1_4 ht1 ht2 pA pB e04
   simp! only [and_true]
   refine use_srt h5d (ri' ()).e1 hk1 fun ms hpm hord=>?_
   intro q6 H6 hq6 e6 h6
   have h6d:=e6.at h5d
   have ri6:=fun (_:Unit)=>(ri' ()).ext e6
   have hms:ms.length≤64:=by rw [hpm.length_eq];omega
   replace hpm:=fun (_:Unit)=>hpm
   replace hord:=fun (_:Unit)=>hord
   clear hq6
   simp! only [and_true]
   have wk:=wk_lst (K:=K) h6
   refine comp_rel2 (ms.map V.int) (fun _=>true) (fun z x H'=>x=z∧H' q6=some (.lst (ms.map V.int))) (fun D z y H'=>trP (vi z,lowF P' (vi z),highF P' (vi z)) y H') wk.1 wk.2 (fun D z y H1 H2 h e=>trP.ext (z:=(vi z,lowF P' (vi z),highF P' (vi z))) h e) (fun D z y H1 xs o h hD=>trP.upd (z:=(vi z,lowF P' (vi z),highF P' (vi z))) h hD) (len5000 (by rw [List.length_map];omega)) ?_ ?_
   ·intro D z y H' N1 N0 hz hD e _ ⟨hy,_⟩ kx _
    subst hy
    obtain ⟨t',ht',rfl⟩:=List.mem_map.mp hz
    obtain ⟨qv,w1,w2⟩:=((ri6 ()).ext e).v t' ((hpm ()).mem_iff.mp ht')
    have k1':=kx rfl
    have a1:=e.at h6d
    clear kx k hz wk
    simp! only [↓m_kCm_1,↓m_kCm2]
    intro t9 H9 _ e9 h9
    have a19:=e9.at a1
    have w29:=e9.at w2
    clear a1 w2
    simp! only [and_true]
    refine use_dg (k:=.inl t') a19 w1 ?_
    simp! only [and_true]
    rw [x_kCT2]
    refine ⟨len5000 (by simp),fun g H10 e10 h10=>?_⟩
    exact k1' _ H10 (e9.trans e10) ⟨g,rfl,h10⟩
   ·intro D zs H7 hD e7 h7 al7
    rw [filt] at al7
    have hD0:H D=none:=(e5.trans e6).free hD
    have al8:Al (fun z y=>trP z y H7) (termsF ms P') zs:=by
     refine ⟨by rw [al7.1];unfold termsF;rw [List.length_map,List.length_map],fun i z y hz hy=>?_⟩
     unfold termsF at hz
     rw [List.getElem?_map] at hz
     obtain ⟨t',ht',rfl⟩:=Option.map_eq_some_iff.mp hz
     exact al7.2 i (.int t') y (by rw [List.getElem?_map,ht'];rfl) hy
    have al9:Al (fun z y=>trP z y H7) (termsF ms.reverse P') zs.reverse:=by
     have e1:termsF ms.reverse P'=(termsF ms P').reverse:=by unfold termsF;rw [List.map_reverse]
     rw [e1]
     refine ⟨by rw [List.length_reverse,List.length_reverse];exact al8.1,fun i z y hz hy=>?_⟩
     have hi:i < (termsF ms P').length:=by have:=(List.getElem?_eq_some_iff.mp hz).1;rw [List.length_reverse] at this;exact this
     rw [List.getElem?_reverse hi] at hz
     rw [List.getElem?_reverse (by rw [al8.1];exact hi),al8.1] at hy
     exact al8.2 _ z y hz hy
    have ko:KsOk ms.reverse P':=⟨(List.reverse_perm ms).nodup_iff.mpr ((hpm ()).nodup_iff.mpr (ri' ()).nd),by rw [List.length_reverse,(hpm ()).length_eq];exact (ri' ()).len,fun t'=>by rw [List.mem_reverse];exact (hpm ()).mem_iff.trans ((ri' ()).mem t'),List.pairwise_reverse.mpr (hord ())⟩
    have fin:=k () ms.reverse D (upd H7 D (.lst zs.reverse)) ((e5.trans (e6.trans e7)).put hD0) ⟨_,upd_same,al9.imp fun _ _ t=>trP.upd t h7⟩ ko
    clear al7 al8 al9 wk ko k hD
    simp! only [and_true]
theorem kept_axes {axs:List (Int × Int)}(h:Axes axs):Axes (axs.map keptA):=⟨by rw [List.length_map];exact h.1,fun a ha=>by
 obtain ⟨b,hb,rfl⟩:=List.mem_map.mp ha
 exact h.2 b hb⟩
theorem span_kept:∀ l:List (Int × Int),(∀ a∈l,(1:Int)≤a.1)->leastL (l.map keptA)=leastL l∧greatL (l.map keptA)=greatL l
 | [],_=>⟨rfl,rfl⟩
 | a::r,h=>by
  obtain ⟨i1,i2⟩:=span_kept r fun b hb=>h b (List.mem_cons_of_mem _ hb)
  have ha:=h a List.mem_cons_self
  have e:((keptA a).1 - 1) * (keptA a).2=(a.1 - 1) * a.2:=by
   show (a.1 - 1) * (if a.1 > 1 then a.2 else 0)=_
   split
   ·rfl
   ·have:a.1=1:=by omega
    rw [this];simp
  rw [List.map_cons,leastL_cons,greatL_cons,leastL_cons,greatL_cons,e,i1,i2]
  exact ⟨rfl,rfl⟩
theorem ax_bnd:∀ {A:List (Int × Int)},(∀ a∈A,(1≤a.1∧a.1≤5)∧(-36≤a.2∧a.2≤36))->(-144 * (A.length:Int)≤leastL A∧leastL A≤0)∧(0≤greatL A∧greatL A≤144 * (A.length:Int))
 | [],_=>by decide
 | a::A,h=>by
  have ih:=ax_bnd (A:=A) fun b hb=>h b (List.mem_cons_of_mem _ hb)
  obtain ⟨s,p⟩:=h a List.mem_cons_self
  have u1:=Int.mul_le_mul_of_nonneg_left p.2 (show 0≤a.1 - 1 by omega)
  have u2:=Int.mul_le_mul_of_nonneg_left p.1 (show 0≤a.1 - 1 by omega)
  rw [leastL_cons,greatL_cons,List.length_cons]
  generalize (a.1 - 1) * a.2=x at *
  omega
def AxV (H:Hp) (Z:List (Int × Int)) (x:V):Prop:=∃ l,x=.ref l∧PrAt H l Z∧AxK Z
theorem AxV.ext {H H':Hp}{Z:List (Int × Int)}{x:V}(h:AxV H Z x) (e:Ext H H'):AxV H' Z x:=by
 obtain ⟨l,h1,h2,h3⟩:=h
 exact ⟨l,h1,pr_ext h2 e,h3⟩
abbrev B_spKPlaced (C:Addr) (p:Addr) (q:Addr) (g:Int) (lo:Int) (mo:Int) (H:Hp) (Q:VK) (E:XK):Prop:=∃ A B:List (Int × Int),PrAt H p A∧PrAt H q B∧AxK A∧AxK B∧(0≤lo∧lo < 4)∧(0≤mo∧mo < 4)∧(-1000000≤g∧g≤1000000)∧∀ (room f:Int) (x1 x2 r:Addr) (H':Hp),Ext H H'->H' r=some (.tup [.ref x1,.ref x2])->ViewAt C H' x1 room f (A.map keptA)->ViewAt C H' x2 room (f+g) (B.map keptA)->Q (.ref r) H'
def spKPlaced (C:Addr):Sp:=fun vs H Q E=>∃ (p:Addr) (q:Addr) (g:Int) (lo:Int) (mo:Int),vs=[.ref p,.ref q,.int g,.int lo,.int mo]∧(B_spKPlaced C p q g lo mo H Q E)
theorem c_spKPlaced (C:Addr) (p:Addr) (q:Addr) (g:Int) (lo:Int) (mo:Int) (H:Hp) (Q:VK) (E:XK):spKPlaced C [.ref p,.ref q,.int g,.int lo,.int mo] H Q E=(B_spKPlaced C p q g lo mo H Q E):=spx5 (f:=fun (p:Addr) (q:Addr) (g:Int) (lo:Int) (mo:Int)=>[.ref p,.ref q,.int g,.int lo,.int mo]) (fun _ _ _ _ _ _ _ _ _ _ h=>by cases h;exact ⟨rfl,rfl,rfl,rfl,rfl⟩) p q g lo mo
theorem l_spKPlaced (C:Addr){vs:List V}{H:Hp}{Q:VK}{E:XK}(h:spKPlaced C vs H Q E):vs.length=5:=spl5 h fun _ _ _ _ _=>rfl
theorem ok__law_placed (T:Tx K mg t):FnOk P w K mg base CX0 8 t.a__law_placed t.d__law_placed ["_law_one", "_law_other", "_law_goal_here", "_law_low", "_law_more"] (spKPlaced t.a_View):=by
 have G_View___init__:=ok_View___init__ (P:=P) (w:=w) (base:=base) T
 refine T.F__law_placed.ok c__law_placed (fun vs H Q E h=>l_spKPlaced _ h) (fun cdv A' outer s H vs Q E hr h=>?_)
 ·obtain ⟨p,q,g,lo,mo,rfl,A,B,pA,pB,kA,kB,hlo,hmo,hg,k⟩:=h
  refine ⟨_,(@pss_cons _ _ _ _ _ (@ps_setC _ _ _ _ _ _ _ _ _ _ _ _ _ (["_law_axes_here", "_law_one", "_law_other", "_law_goal_here", "_law_low", "_law_more", "_law_least", "_law_greatest", "_law_first", "_law_room"]) (1) (5) _ c__law_placed.nd rfl (Or.inl rfl) (comp_ok (defScope s__law_placed) ["_law_one", "_law_other", "_law_goal_here", "_law_low", "_law_more", "_law_least", "_law_greatest", "_law_first", "_law_room"] rfl rfl (by decide +kernel)) rfl (@pi_seq _ _ _ _ (@pe_qLst _ _ _ _ (@pa_c _ _ _ _ _ (@pvN _ 0 _ _ (by rfl) (by trivial) (by decide) (by decide)) (@pa_c _ _ _ _ _ (@pvN _ 1 _ _ (by rfl) (by trivial) (by decide) (by decide)) (@pa_nil _) (by rfl)) (by rfl)))) (fun C s₀ H₀ ex pn=>(@pg_name _ _ (0) _ (show List.Nodup (["_law_axes_here", "_law_one", "_law_other", "_law_goal_here", "_law_low", "_law_more", "_law_least", "_law_greatest", "_law_first", "_law_room"]:List Str) from by decide +kernel) rfl (Or.inl rfl) (by trivial))) (fun C s₀ H₀ ex pn=>(@pts_nil _)) (fun C s₀ H₀ ex pn=>(@pe_callB _ _ _ _ _ _ _ ("sum") _ (call_qSum rfl) (by rfl) T.z_sum (by decide +kernel) (@pa_c _ _ _ _ _ (@pe_comp _ _ _ _ _ _ _ _ _ _ _ (["_law_size", "_law_pace", "_law_axes_here", "_law_one", "_law_other", "_law_goal_here", "_law_low", "_law_more", "_law_least", "_law_greatest", "_law_first", "_law_room"]) (2) (comp_ok _ ["_law_axes_here", "_law_one", "_law_other", "_law_goal_here", "_law_low", "_law_more", "_law_least", "_law_greatest", "_law_first", "_law_room"] rfl rfl (by kernel_rfl)) rfl (@pi_seq' _ _ _ _ (K) rfl (@pvN _ 0 _ _ (by rfl) (by trivial) (by decide) (by decide))) (fun C s₀ H₀ ex pn=>((@pg_tup _ _ _ _ _ (2) rfl (@pgs_consN _ _ _ _ _ (@pg_name _ _ (0) _ (show List.Nodup (["_law_size", "_law_pace", "_law_axes_here", "_law_one", "_law_other", "_law_goal_here", "_law_low", "_law_more", "_law_least", "_law_greatest", "_law_first", "_law_room"]:List Str) from by decide +kernel) rfl (Or.inl rfl) (by trivial)) (@pgs_consN _ _ _ _ _ (@pg_name _ _ (1) _ (show List.Nodup (["_law_size", "_law_pace", "_law_axes_here", "_law_one", "_law_other", "_law_goal_here", "_law_low", "_law_more", "_law_least", "_law_greatest", "_law_first", "_law_room"]:List Str) from by decide +kernel) rfl (Or.inl rfl) (by trivial)) (@pgs_nilN _) (by rfl)) (by rfl)) (by rfl) (by rfl)).mono fun _ _ _ _ h=>gTup_q h)) (fun C s₀ H₀ ex pn=>(@pts_nil _)) (fun C s₀ H₀ ex pn=>(@pe_callB _ _ _ _ _ _ _ ("min") _ (call_qMin rfl) (by rfl) T.z_min (by decide +kernel) (@pa_c _ _ _ _ _ (@pe_int _ _ _ _) (@pa_c _ _ _ _ _ (@pe_op _ _ _ _ _ _ _ _ on_mul (@pvN _ 1 _ _ (by rfl) (by trivial) (by decide) (by decide)) (@pe_op _ _ _ _ _ _ _ _ on_sub (@pvN _ 0 _ _ (by rfl) (by trivial) (by decide) (by decide)) (@pe_int _ _ _ _))) (@pa_nil _) (by rfl)) (by rfl)) (by decide) (by decide) (by rfl) (by rfl))) (by intros;rfl)) (@pa_nil _) (by rfl)) (by decide) (by decide) (by rfl) (by rfl))) (by rfl) (by intros;rfl) (by trivial)) (@pss_cons _ _ _ _ _ (@ps_setC _ _ _ _ _ _ _ _ _ _ _ _ _ (["_law_axes_here", "_law_one", "_law_other", "_law_goal_here", "_law_low", "_law_more", "_law_least", "_law_greatest", "_law_first", "_law_room"]) (1) (6) _ c__law_placed.nd rfl (Or.inl rfl) (comp_ok (defScope s__law_placed) ["_law_one", "_law_other", "_law_goal_here", "_law_low", "_law_more", "_law_least", "_law_greatest", "_law_first", "_law_room"] rfl rfl (by decide +kernel)) rfl (@pi_seq _ _ _ _ (@pe_qLst _ _ _ _ (@pa_c _ _ _ _ _ (@pvN _ 0 _ _ (by rfl) (by trivial) (by decide) (by decide)) (@pa_c _ _ _ _ _ (@pvN _ 1 _ _ (by rfl) (by trivial) (by decide) (by decide)) (@pa_nil _) (by rfl)) (by rfl)))) (fun C s₀ H₀ ex pn=>(@pg_name _ _ (0) _ (show List.Nodup (["_law_axes_here", "_law_one", "_law_other", "_law_goal_here", "_law_low", "_law_more", "_law_least", "_law_greatest", "_law_first", "_law_room"]:List Str) from by decide +kernel) rfl (Or.inl rfl) (by trivial))) (fun C s₀ H₀ ex pn=>(@pts_nil _)) (fun C s₀ H₀ ex pn=>(@pe_callB _ _ _ _ _ _ _ ("sum") _ (call_qSum rfl) (by rfl) T.z_sum (by decide +kernel) (@pa_c _ _ _ _ _ (@pe_comp _ _ _ _ _ _ _ _ _ _ _ (["_law_size", "_law_pace", "_law_axes_here", "_law_one", "_law_other", "_law_goal_here", "_law_low", "_law_more", "_law_least", "_law_greatest", "_law_first", "_law_room"]) (2) (comp_ok _ ["_law_axes_here", "_law_one", "_law_other", "_law_goal_here", "_law_low", "_law_more", "_law_least", "_law_greatest", "_law_first", "_law_room"] rfl rfl (by kernel_rfl)) rfl (@pi_seq' _ _ _ _ (K) rfl (@pvN _ 0 _ _ (by rfl) (by trivial) (by decide) (by decide))) (fun C s₀ H₀ ex pn=>((@pg_tup _ _ _ _ _ (2) rfl (@pgs_consN _ _ _ _ _ (@pg_name _ _ (0) _ (show List.Nodup (["_law_size", "_law_pace", "_law_axes_here", "_law_one", "_law_other", "_law_goal_here", "_law_low", "_law_more", "_law_least", "_law_greatest", "_law_first", "_law_room"]:List Str) from by decide +kernel) rfl (Or.inl rfl) (by trivial)) (@pgs_consN _ _ _ _ _ (@pg_name _ _ (1) _ (show List.Nodup (["_law_size", "_law_pace", "_law_axes_here", "_law_one", "_law_other", "_law_goal_here", "_law_low", "_law_more", "_law_least", "_law_greatest", "_law_first", "_law_room"]:List Str) from by decide +kernel) rfl (Or.inl rfl) (by trivial)) (@pgs_nilN _) (by rfl)) (by rfl)) (by rfl) (by rfl)).mono fun _ _ _ _ h=>gTup_q h)) (fun C s₀ H₀ ex pn=>(@pts_nil _)) (fun C s₀ H₀ ex pn=>(@pe_callB _ _ _ _ _ _ _ ("max") _ (call_qMax rfl) (by rfl) T.z_max (by decide +kernel) (@pa_c _ _ _ _ _ (@pe_int _ _ _ _) (@pa_c _ _ _ _ _ (@pe_op _ _ _ _ _ _ _ _ on_mul (@pvN _ 1 _ _ (by rfl) (by trivial) (by decide) (by decide)) (@pe_op _ _ _ _ _ _ _ _ on_sub (@pvN _ 0 _ _ (by rfl) (by trivial) (by decide) (by decide)) (@pe_int _ _ _ _))) (@pa_nil _) (by rfl)) (by rfl)) (by decide) (by decide) (by rfl) (by rfl))) (by intros;rfl)) (@pa_nil _) (by rfl)) (by decide) (by decide) (by rfl) (by rfl))) (by rfl) (by intros;rfl) (by trivial)) (@pss_cons _ _ _ _ _ (@ps_set _ _ (7) _ _ _ _ c__law_placed.nd rfl (Or.inl rfl) (@pe_op _ _ _ _ _ _ _ _ on_add (@pe_callB _ _ _ _ _ _ _ ("max") _ (call_qMax rfl) (by rfl) T.z_max (by decide +kernel) (@pa_c _ _ _ _ _ (@pe_op _ _ _ _ _ _ _ _ on_sub (@pe_int _ _ _ _) (@pe_ix _ _ _ _ _ _ _ ix_q (@pvN _ 5 _ _ (by rfl) (by trivial) (by decide) (by decide)) (@pe_int _ _ _ _) (fun _ _=>rfl))) (@pa_c _ _ _ _ _ (@pe_op _ _ _ _ _ _ _ _ on_sub (@pe_op _ _ _ _ _ _ _ _ on_sub (@pe_int _ _ _ _) (@pvN _ 2 _ _ (by rfl) (by trivial) (by decide) (by decide))) (@pe_ix _ _ _ _ _ _ _ ix_q (@pvN _ 5 _ _ (by rfl) (by trivial) (by decide) (by decide)) (@pe_int _ _ _ _) (fun _ _=>rfl))) (@pa_nil _) (by rfl)) (by rfl)) (by decide) (by decide) (by rfl) (by rfl)) (@pvN _ 3 _ _ (by rfl) (by trivial) (by decide) (by decide))) (by rfl) (by trivial)) (@pss_cons _ _ _ _ _ (@ps_set _ _ (8) _ _ _ _ c__law_placed.nd rfl (Or.inl rfl) (@pe_op _ _ _ _ _ _ _ _ on_add (@pe_op _ _ _ _ _ _ _ _ on_add (@pe_callB _ _ _ _ _ _ _ ("max") _ (call_qMax rfl) (by rfl) T.z_max (by decide +kernel) (@pa_c _ _ _ _ _ (@pe_op _ _ _ _ _ _ _ _ on_add (@pvN _ 7 _ _ (by rfl) (by trivial) (by decide) (by decide)) (@pe_ix _ _ _ _ _ _ _ ix_q (@pvN _ 6 _ _ (by rfl) (by trivial) (by decide) (by decide)) (@pe_int _ _ _ _) (fun _ _=>rfl))) (@pa_c _ _ _ _ _ (@pe_op _ _ _ _ _ _ _ _ on_add (@pe_op _ _ _ _ _ _ _ _ on_add (@pvN _ 7 _ _ (by rfl) (by trivial) (by decide) (by decide)) (@pvN _ 2 _ _ (by rfl) (by trivial) (by decide) (by decide))) (@pe_ix _ _ _ _ _ _ _ ix_q (@pvN _ 6 _ _ (by rfl) (by trivial) (by decide) (by decide)) (@pe_int _ _ _ _) (fun _ _=>rfl))) (@pa_nil _) (by rfl)) (by rfl)) (by decide) (by decide) (by rfl) (by rfl)) (@pe_int _ _ _ _)) (@pvN _ 4 _ _ (by rfl) (by trivial) (by decide) (by decide))) (by rfl) (by trivial)) (@pss_one _ _ _ (@ps_ret _ _ _ _ (@pe_qTup _ _ _ _ _ (@pa_c _ _ _ _ _ (@pe_nMake _ _ _ _ _ _ _ _ _ _ _ _ _ _ _ _ _ T.mk_View G_View___init__ (hr.mono (by decide)) (by rfl) T.m_View T.b_View___init__ .nil pass0 (@pa_c _ _ _ _ _ (@pvN _ 8 _ _ (by rfl) (by trivial) (by decide) (by decide)) (@pa_c _ _ _ _ _ (@pvN _ 7 _ _ (by rfl) (by trivial) (by decide) (by decide)) (@pa_c _ _ _ _ _ (@pe_callTy _ _ _ _ _ _ _ _ _ call_nList (by rfl) T.z_list (by decide +kernel) (@pa_c _ _ _ _ _ (@pvN _ 0 _ _ (by rfl) (by trivial) (by decide) (by decide)) (@pa_nil _) (by rfl)) (by decide) (by decide) (by rfl) (by rfl)) (@pa_nil _) (by rfl)) (by rfl)) (by rfl)) (by decide) (by rfl) (by rfl)) (@pa_c _ _ _ _ _ (@pe_nMake _ _ _ _ _ _ _ _ _ _ _ _ _ _ _ _ _ T.mk_View G_View___init__ (hr.mono (by decide)) (by rfl) T.m_View T.b_View___init__ .nil pass0 (@pa_c _ _ _ _ _ (@pvN _ 8 _ _ (by rfl) (by trivial) (by decide) (by decide)) (@pa_c _ _ _ _ _ (@pe_op _ _ _ _ _ _ _ _ on_add (@pvN _ 7 _ _ (by rfl) (by trivial) (by decide) (by decide)) (@pvN _ 2 _ _ (by rfl) (by trivial) (by decide) (by decide))) (@pa_c _ _ _ _ _ (@pe_callTy _ _ _ _ _ _ _ _ _ call_nList (by rfl) T.z_list (by decide +kernel) (@pa_c _ _ _ _ _ (@pvN _ 1 _ _ (by rfl) (by trivial) (by decide) (by decide)) (@pa_nil _) (by rfl)) (by decide) (by decide) (by rfl) (by rfl)) (@pa_nil _) (by rfl)) (by rfl)) (by rfl)) (by decide) (by rfl) (by rfl)) (@pa_nil _) (by rfl)) (by rfl))))))))),?_⟩
  rw [show start ["_law_one", "_law_other", "_law_goal_here", "_law_low", "_law_more", "_law_least", "_law_greatest", "_law_first", "_law_room"] [.ref p,.ref q,.int g,.int lo,.int mo]=[some (.ref p),some (.ref q),some (.int g),some (.int lo),some (.int mo),none,none,none,none] from rfl]
  clear G_View___init__
  obtain ⟨ta,hpa,alA⟩:=pA
  obtain ⟨tb,hqb,alB⟩:=pB
  replace k:=fun (_:Unit)=>k
  replace alA:=fun (_:Unit)=>alA
  replace alB:=fun (_:Unit)=>alB
  simp! only [and_true]
  intro l1 H1 hl1 e1 h1
  have cA:AxV H1 A (.ref p):=⟨p,rfl,⟨ta,e1.at hpa,(alA ()).imp fun _ _ t=>axP.ext t e1⟩,kA⟩
  have cB:AxV H1 B (.ref q):=⟨q,rfl,⟨tb,e1.at hqb,(alB ()).imp fun _ _ t=>axP.ext t e1⟩,kB⟩
  have al1:Al (fun Z y=>AxV H1 Z y) [A,B] [.ref p,.ref q]:=Al.cons' cA (Al.cons' cB Al.nil)
  have wk:=wk_al (K:=K) (R:=fun Z x H'=>AxV H' Z x) (fun _ _ _ _ h e=>h.ext e) h1 al1
  replace cA:=fun (_:Unit)=>cA
  replace cB:=fun (_:Unit)=>cB
  clear hl1 al1
  simp! only [and_true]
  refine comp_fm [A,B] (fun _=>true) (fun Z=>.int (leastL Z)) (fun Z x H'=>AxV H' Z x) wk.1 wk.2 (len5000 (by simp)) ?_ ?_
  ·intro D Z x H' N1 N0 hZ hD e hx k1 _
   obtain ⟨lz,rfl,⟨tz,hlz,alz⟩,kz⟩:=hx
   have k1':=fun (_:Unit)=>k1 rfl
   have hz3:=kz.len
   have kzs:=fun (_:Unit)=>kz.sz
   have wk2:=wk_al (K:=K) (R:=axP) (fun _ _ _ _ h e=>h.ext e) hlz alz
   clear k1 wk k cA cB
   simp! only [↓m_kCm_1,↓m_kCm2]
   refine comp_fm Z (fun _=>true) (fun a=>.int (min 0 ((a.1 - 1) * a.2))) axP wk2.1 wk2.2 (len5000 (by omega)) ?_ ?_
   ·intro D2 a x H2 M1 M0 ha hD2 e2 ⟨aq,hx,haq⟩ k2 _
    subst hx
    have k2':M1 (.int (min 0 ((a.1 - 1) * a.2))) H2:=k2 rfl H2 (Ext.refl _)
    have hz:=kzs () a ha
    have cm:CMul a.2 (a.1 - 1):=.inr ⟨by omega,by omega⟩
    rw [min0,Int.mul_comm] at k2'
    clear k2 ha wk2 k1'
    simp! only [↓m_kCm_2,↓m_kCm2]
   ·intro D2 H2 hD2 e2 h2
    have h2':H2 D2=some (.lst ((Z.map fun a=>min 0 ((a.1 - 1) * a.2)).map V.int)):=by rw [h2,filt,List.map_map];rfl
    have hsum:(Z.map fun a=>min 0 ((a.1 - 1) * a.2)).sum=leastL Z:=rfl
    have k3:=k1' () H2 e2
    clear h2 wk2 k1'
    simp! only [and_true]
  intro D3 H3 hD3 e3 h3
  rw [filt] at h3
  have h3':H3 D3=some (.lst [.int (leastL A),.int (leastL B)]):=h3
  clear h3 wk hD3
  simp! only [and_true]
  intro l4 H4 _ e4 h4
  have cA4:AxV H4 A (.ref p):=(cA ()).ext (e3.trans e4)
  have cB4:AxV H4 B (.ref q):=(cB ()).ext (e3.trans e4)
  have wk:=wk_al (K:=K) (R:=fun Z x H'=>AxV H' Z x) (fun _ _ _ _ h e=>h.ext e) h4 (Al.cons' cA4 (Al.cons' cB4 Al.nil))
  have h3_4:=e4.at h3'
  clear cA4 cB4 h3'
  simp! only [and_true]
  refine comp_fm [A,B] (fun _=>true) (fun Z=>.int (greatL Z)) (fun Z x H'=>AxV H' Z x) wk.1 wk.2 (len5000 (by simp)) ?_ ?_
  ·intro D Z x H' N1 N0 hZ hD e hx k1 _
   obtain ⟨lz,rfl,⟨tz,hlz,alz⟩,kz⟩:=hx
   have k1':=fun (_:Unit)=>k1 rfl
   have hz3:=kz.len
   have kzs:=fun (_:Unit)=>kz.sz
   have wk2:=wk_al (K:=K) (R:=axP) (fun _ _ _ _ h e=>h.ext e) hlz alz
   clear k1 wk k cA cB
   simp! only [↓m_kCm_1,↓m_kCm2]
   refine comp_fm Z (fun _=>true) (fun a=>.int (max 0 ((a.1 - 1) * a.2))) axP wk2.1 wk2.2 (len5000 (by omega)) ?_ ?_
   ·intro D2 a x H2 M1 M0 ha hD2 e2 ⟨aq,hx,haq⟩ k2 _
    subst hx
    have k2':M1 (.int (max 0 ((a.1 - 1) * a.2))) H2:=k2 rfl H2 (Ext.refl _)
    have hz:=kzs () a ha
    have cm:CMul a.2 (a.1 - 1):=.inr ⟨by omega,by omega⟩
    rw [max0,Int.mul_comm] at k2'
    clear k2 ha wk2 k1'
    simp! only [↓m_kCm_2,↓m_kCm2]
   ·intro D2 H2 hD2 e2 h2
    have h2':H2 D2=some (.lst ((Z.map fun a=>max 0 ((a.1 - 1) * a.2)).map V.int)):=by rw [h2,filt,List.map_map];rfl
    have hsum:(Z.map fun a=>max 0 ((a.1 - 1) * a.2)).sum=greatL Z:=rfl
    have k3:=k1' () H2 e2
    clear h2 wk2 k1'
    simp! only [and_true]
  intro D5 H5 hD5 e5 h5
  rw [filt] at h5
  have h5':H5 D5=some (.lst [.int (greatL A),.int (greatL B)]):=h5
  have h3_5:=e5.at h3_4
  clear h5 wk hD5 h3_4
  obtain ⟨⟨la1,la2⟩,la3,la4⟩:=ax_bnd kA.sz
  obtain ⟨⟨lb1,lb2⟩,lb3,lb4⟩:=ax_bnd kB.sz
  have nA:=kA.len
  have nB:=kB.len
  have axA:Axes A:=⟨by omega,fun a ha=>by have:=(kA.sz a ha).1;omega⟩
  have axB:Axes B:=⟨by omega,fun a ha=>by have:=(kB.sz a ha).1;omega⟩
  obtain ⟨sA1,sA2⟩:=span_kept A fun a ha=>(axA.2 a ha).1
  obtain ⟨sB1,sB2⟩:=span_kept B fun a ha=>(axB.2 a ha).1
  have e05:=e1.trans (e3.trans (e4.trans e5))
  have hpa5:=e05.at hpa
  have hqb5:=e05.at hqb
  obtain ⟨fx,hfx⟩:∃ fx,(if 0 - leastL A < 0 - g - leastL B then 0 - g - leastL B else 0 - leastL A)=fx:=⟨_,rfl⟩
  have fx1:0 - leastL A≤fx∧0 - g - leastL B≤fx∧fx≤2000000:=by rw [←hfx];split<;>omega
  obtain ⟨f,hf⟩:∃ f,fx+lo=f:=⟨_,rfl⟩
  obtain ⟨lx,hlx⟩:∃ lx,(if f+greatL A < f+g+greatL B then f+g+greatL B else f+greatL A)=lx:=⟨_,rfl⟩
  have lx1:f+greatL A≤lx∧f+g+greatL B≤lx∧lx≤9000000:=by rw [←hlx];split<;>omega
  obtain ⟨room,hroom⟩:∃ room,lx+1+mo=room:=⟨_,rfl⟩
  have vA:ViewOk room f A:=⟨axA,by omega,by omega,by rw [sA1];omega,by rw [sA2];omega⟩
  have vB:ViewOk room (f+g) B:=⟨axB,by omega,by omega,by rw [sB1];omega,by rw [sB2];omega⟩
  clear la1 la2 la3 la4 lb1 lb2 lb3 lb4 sA1 sA2 sB1 sB2 axA axB fx1 lx1 nA nB cA cB
  simp! only [and_true]
  intro q6 H6 _ e6 h6
  have hqb6:=e6.at hqb5
  have al6:Al (fun z y=>axP z y H6) A ta:=(alA ()).imp fun _ _ t=>axP.ext t (e05.trans e6)
  clear hpa5
  simp! only [and_true]
  intro x1 dx1 G1 hx1 hdx1 hne1 g1 k1 k1'
  rw [c_spVInit]
  refine ⟨dx1,A,k1,TupsAt.ext ⟨ta,h6,al_pr al6⟩ g1,vA,fun G2 D2 g2' hD2 hx2 tt2=>?_⟩
  have eg:=g2' H6 g1 hx1
  have vo1:ViewAt t.a_View G2 x1 room f (A.map keptA):=⟨dx1,D2,hx2,tt2⟩
  have hqb7:=eg.at hqb6
  have e07:=e05.trans (e6.trans eg)
  clear h6 al6 hqb6 k1 k1' hx1 hdx1 hne1 g1 g2' hD2 hx2 tt2
  simp! only [and_true]
  intro q8 G3 _ e8 h8
  have al8:Al (fun z y=>axP z y G3) B tb:=(alB ()).imp fun _ _ t=>axP.ext t (e07.trans e8)
  clear hqb7
  simp! only [and_true]
  intro x2 dx2 G4 hx2 hdx2 hne2 g4 k4 k4'
  rw [c_spVInit]
  refine ⟨dx2,B,k4,TupsAt.ext ⟨tb,h8,al_pr al8⟩ g4,vB,fun G5 D5' g5' hD5 hx5 tt5=>?_⟩
  have eg2:=e8.trans (g5' G3 g4 hx2)
  have vo2:ViewAt t.a_View G5 x2 room (f+g) (B.map keptA):=⟨dx2,D5',hx5,tt5⟩
  clear h8 al8 k4 k4' hx2 hdx2 hne2 g4 g5' hD5 hx5 tt5
  simp! only [and_true]
  intro rr G6 _ e9 h9
  exact k () room f x1 x2 rr G6 (e07.trans (eg2.trans e9)) h9 (vo1.ext (eg2.trans e9)) (vo2.ext e9)
theorem in_kept:∀ {A:List (Int × Int)}{ys:List Int},InA (A.map keptA) ys->InA A ys
 | [],[],_=>trivial
 | [],_::_,h=>h.elim
 | _::_,[],h=>h.elim
 | _::_,_::_,h=>⟨h.1,in_kept h.2⟩
theorem kept_dot:∀ {A:List (Int × Int)}{ys:List Int},InA A ys->dotA (A.map keptA) ys=dotA A ys
 | [],[],_=>rfl
 | [],_::_,h=>h.elim
 | _::_,[],h=>h.elim
 | a::A,y::ys,h=>by
  show (if a.1 > 1 then a.2 else 0) * y+dotA (A.map keptA) ys=a.2 * y+dotA A ys
  rw [kept_dot h.2]
  by_cases h1:a.1 > 1
  ·rw [if_pos h1]
  ·have hy:y=0:=by have:=h.1;omega
   rw [if_neg h1,hy,Int.mul_zero,Int.mul_zero]
structure PuK (P:List (Int × Int)):Prop where
 len:P.length≤6
 sz:∀ z∈P,(1≤z.2∧z.2≤5)∧(-36≤z.1∧z.1≤36)∧(z.1 ≠ 0->2≤z.2)
 prod:(P.foldr (fun z r=>z.2 * r) 1)≤576
theorem fold_app (f:Int × Int->Int):∀ l m:List (Int × Int),(l++m).foldr (fun z r=>f z * r) 1=l.foldr (fun z r=>f z * r) 1 * m.foldr (fun z r=>f z * r) 1
 | [],m=>(Int.one_mul _).symm
 | a::l,m=>by
  show f a * ((l++m).foldr (fun z r=>f z * r) 1)=f a * l.foldr (fun z r=>f z * r) 1 * _
  rw [fold_app f l m,Int.mul_assoc]
theorem fold_map (g:Int × Int->Int × Int) (h:∀ a,(g a).2=a.1):∀ l:List (Int × Int),(l.map g).foldr (fun z r=>z.2 * r) 1=l.foldr (fun a r=>a.1 * r) 1
 | []=>rfl
 | a::l=>by
  show (g a).2 * (l.map g).foldr (fun z r=>z.2 * r) 1=a.1 * l.foldr (fun a r=>a.1 * r) 1
  rw [h,fold_map g h l]
theorem AxK.pull {A B:List (Int × Int)}(hA:AxK A) (hB:AxK B):PuK (pullL (A.map keptA) (B.map keptA)):=by
 rw [pull_sg]
 have sgz:∀ (sg:Int) (a:Int × Int),(sg=1∨sg=-1)->((1≤a.1∧a.1≤5)∧(-36≤a.2∧a.2≤36))->(1≤(sgP sg a).2∧(sgP sg a).2≤5)∧(-36≤(sgP sg a).1∧(sgP sg a).1≤36)∧((sgP sg a).1 ≠ 0->2≤(sgP sg a).2):=fun sg a hs h=>by
  show (1≤a.1∧a.1≤5)∧(-36≤sg * (if a.1 > 1 then a.2 else 0)∧sg * (if a.1 > 1 then a.2 else 0)≤36)∧(sg * (if a.1 > 1 then a.2 else 0) ≠ 0->2≤a.1)
  by_cases h1:a.1 > 1
  ·rw [if_pos h1]
   rcases hs with rfl|rfl<;>omega
  ·rw [if_neg h1,Int.mul_zero];omega
 have pA:=prod_pos1 fun a ha=>(hA.sz a ha).1.1
 have pB:=prod_pos1 fun a ha=>(hB.sz a ha).1.1
 refine ⟨by rw [List.length_append,List.length_map,List.length_map];have:=hA.len;have:=hB.len;omega,fun z hz=>?_,?_⟩
 ·rcases List.mem_append.mp hz with hz|hz
  ·obtain ⟨a,ha,rfl⟩:=List.mem_map.mp hz
   exact sgz 1 a (.inl rfl) (hA.sz a ha)
  ·obtain ⟨a,ha,rfl⟩:=List.mem_map.mp hz
   exact sgz (-1) a (.inr rfl) (hB.sz a ha)
 ·have e:=fold_app (fun z=>z.2) (A.map (sgP 1)) (B.map (sgP (-1)))
  rw [e,fold_map _ (fun _=>rfl),fold_map _ (fun _=>rfl)]
  exact Int.mul_le_mul hA.prod hB.prod (by omega) (by decide)
theorem cap_mem:∀ {P:List (Int × Int)}{z:Int × Int},(∀ y∈P,(1:Int)≤y.2)->z∈P->z.2 - 1≤capF P (absI z.1)
 | y::P,z,h,hz=>by
  have hP:∀ x∈P,(1:Int)≤x.2:=fun x hx=>h x (List.mem_cons_of_mem _ hx)
  have hn:=cap_nn hP (absI z.1)
  have hy:=h y List.mem_cons_self
  rw [cap_cons]
  rcases List.mem_cons.mp hz with rfl|hz
  ·rw [if_pos rfl];omega
  ·have:=cap_mem hP hz
   split<;>omega
theorem cap_le:∀ {P:List (Int × Int)},(∀ y∈P,1≤y.2∧y.2≤5)->∀ t,capF P t≤4 * (P.length:Int)
 | [],_,t=>Int.le_refl 0
 | y::P,h,t=>by
  have ih:=cap_le (P:=P) (fun x hx=>h x (List.mem_cons_of_mem _ hx)) t
  have hy:=h y List.mem_cons_self
  rw [cap_cons,List.length_cons]
  split<;>omega
theorem low_le:∀ {P:List (Int × Int)},(∀ y∈P,(1:Int)≤y.2)->∀ t,lowF P t≤0∧0≤highF P t
 | [],_,_=>⟨Int.le_refl _,Int.le_refl _⟩
 | y::P,h,t=>by
  have ih:=low_le (P:=P) (fun x hx=>h x (List.mem_cons_of_mem _ hx)) t
  have hy:=h y List.mem_cons_self
  have l1:loP y≤0:=by unfold loP;split<;>omega
  have l2:0≤hiP y:=by unfold hiP;split<;>omega
  show (if absI y.1=t then loP y else 0)+lowF P t≤0∧0≤(if absI y.1=t then hiP y else 0)+highF P t
  split<;>omega
theorem PuK.tms {P:List (Int × Int)}{ks:List Int}(h:PuK P) (hk:KsOk ks P):TmsOk (termsF ks P)∧2 * prodF ks (capF P) - 1≤1151:=by
 have one:∀ y∈P,(1:Int)≤y.2:=fun y hy=>(h.sz y hy).1.1
 refine ⟨⟨by unfold termsF;rw [List.length_map];have:=hk.len;have:=h.len;omega,fun z hz=>?_⟩,?_⟩
 ·unfold termsF at hz
  obtain ⟨t,ht,rfl⟩:=List.mem_map.mp hz
  obtain ⟨t0,y,hy,e⟩:=(hk.mem t).mp ht
  have hs:=h.sz y hy
  have hy0:y.1 ≠ 0:=fun q=>t0 (by rw [←e,q];rfl)
  have h2:=hs.2.2 hy0
  have hc:=cap_mem one hy
  have hc2:=cap_le (fun x hx=>(h.sz x hx).1) t
  have hl:=low_le one t
  have hhl:=high_low P t
  rw [e] at hc
  have hlen:=h.len
  have ht':1≤t∧t≤36:=by rw [←e];unfold absI;omega
  show (1≤t∧t≤2000000000000000000)∧(-2000000000≤lowF P t∧lowF P t≤2000000000)∧lowF P t < highF P t∧highF P t≤2000000000
  omega
 ·have:=prodF_le hk.nd one
  have:=h.prod
  omega
theorem sh_ok {A B:List (Int × Int)}{most:Int}(hA:AxK A) (hB:AxK B) (hm:∀ ks,KsOk ks (pullL (A.map keptA) (B.map keptA))->2 * prodF ks (capF (pullL (A.map keptA) (B.map keptA))) - 1≤most):ShOk (A.map keptA) (B.map keptA) most:=by
 refine ⟨fun ks hk=>?_⟩
 obtain ⟨t1,t2⟩:=(AxK.pull hA hB).tms hk
 exact ⟨t1,by omega,hm ks hk⟩
theorem sh_met {A B:List (Int × Int)}{g:Int}{ks xs:List Int}{pp:List (List V)}(h:ShRes (A.map keptA) (B.map keptA) g ks (some xs) pp):InA A ((plF ks (pullL (A.map keptA) (B.map keptA)) xs).take A.length)∧InA B ((plF ks (pullL (A.map keptA) (B.map keptA)) xs).drop A.length)∧dotA A ((plF ks (pullL (A.map keptA) (B.map keptA)) xs).take A.length)=g+dotA B ((plF ks (pullL (A.map keptA) (B.map keptA)) xs).drop A.length):=by
 obtain ⟨x1,x2,_⟩:=h.sh xs rfl
 obtain ⟨i1,i2⟩:=pull_in x1
 rw [List.length_map] at i1 i2
 have hd:=x2
 have e:=dot_pull i1 i2
 rw [List.take_append_drop,hd] at e
 have k1:=in_kept i1
 have k2:=in_kept i2
 rw [kept_dot k1,kept_dot k2] at e
 exact ⟨k1,k2,by omega⟩
theorem zip_rng {zs:List Tm3}{cs:List (Int × Int)}(h:cs.length=zs.length):zs.zip cs=(List.range zs.length).map fun k=>(zs.getD k default,cs.getD k default):=by
 apply List.ext_getElem?
 intro i
 rw [List.getElem?_map]
 by_cases hi:i < zs.length
 ·rw [List.getElem?_range hi]
  show _=some (zs.getD i default,cs.getD i default)
  rw [List.getElem?_zip_eq_some,List.getD_eq_getElem?_getD,List.getD_eq_getElem?_getD,List.getElem?_eq_getElem hi,List.getElem?_eq_getElem (show i < cs.length by omega)]
  exact ⟨rfl,rfl⟩
 ·rw [List.getElem?_eq_none (by rw [List.length_zip];omega),List.getElem?_eq_none (by rw [List.length_range];omega)];rfl
theorem lsum_rng {zs:List Tm3}{cs:List (Int × Int)}(h:cs.length=zs.length):((List.range zs.length).map fun k=>(zs.getD k default).1 * (cs.getD k default).1).sum=lsum zs cs∧((List.range zs.length).map fun k=>(zs.getD k default).1 * (cs.getD k default).2).sum=gsum zs cs:=by
 unfold lsum gsum
 rw [zip_rng h,List.map_map,List.map_map]
 exact ⟨rfl,rfl⟩
theorem rest_rng {zs:List Tm3}{cs:List (Int × Int)}(h:cs.length=zs.length):(((List.range zs.length).filter fun k=>decide ((cs.getD k default).1 < (cs.getD k default).2)).map fun k=>(zs.getD k default).1)=restL zs cs:=by
 unfold restL
 rw [zip_rng h,List.filter_map,List.map_map]
 rfl
theorem tm_at {zs:List Tm3}(h:TmsOk zs){k:Nat}(hk:k < zs.length):1≤(zs.getD k default).1∧(zs.getD k default).1≤2000000000000000000:=by
 rw [List.getD_eq_getElem?_getD,List.getElem?_eq_getElem hk]
 exact (h.all _ (List.getElem_mem hk)).1
abbrev B_spKSums  (p:Addr) (q:Addr) (H:Hp) (Q:VK) (E:XK):Prop:=∃ (zs:List Tm3) (cs:List (Int × Int)),TrAt H p zs∧PrAt H q cs∧TmsOk zs∧cs.length=zs.length∧∀ (r:Addr) (H':Hp),Ext H H'->H' r=some (.tup [.int (lsum zs cs),.int (gsum zs cs)])->Q (.ref r) H'
def spKSums  : Sp:=fun vs H Q E=>∃ (p:Addr) (q:Addr),vs=[.ref p,.ref q]∧(B_spKSums  p q H Q E)
theorem c_spKSums  (p:Addr) (q:Addr) (H:Hp) (Q:VK) (E:XK):spKSums  [.ref p,.ref q] H Q E=(B_spKSums  p q H Q E):=spx2 (f:=fun (p:Addr) (q:Addr)=>[.ref p,.ref q]) (fun _ _ _ _ h=>by cases h;exact ⟨rfl,rfl⟩) p q
theorem l_spKSums  {vs:List V}{H:Hp}{Q:VK}{E:XK}(h:spKSums  vs H Q E):vs.length=2:=spl2 h fun _ _=>rfl
theorem ok__law_sums (T:Tx K mg t):FnOk P w K mg base CX0 1 t.a__law_sums t.d__law_sums ["_law_terms_here", "_law_case"] spKSums:=by
 refine T.F__law_sums.ok c__law_sums (fun vs H Q E h=>l_spKSums h) (fun cdv A outer s H vs Q E hr h=>?_)
 ·obtain ⟨p,q,rfl,zs,cs,⟨ts,hp,al⟩,⟨xs,hq,bl⟩,ht,hcl,k⟩:=h
  refine ⟨_,(@pss_cons _ _ _ _ _ (@ps_set _ _ (2) _ _ _ _ c__law_sums.nd rfl (Or.inl rfl) (@pe_callB _ _ _ _ _ _ _ ("sum") _ (call_qSum rfl) (by rfl) T.z_sum (by decide +kernel) (@pa_c _ _ _ _ _ (@pe_comp _ _ _ _ _ _ _ _ _ _ _ (["_law_k", "_law_terms_here", "_law_case", "_law_least"]) (1) (comp_ok (defScope s__law_sums) ["_law_terms_here", "_law_case", "_law_least"] rfl rfl (by decide +kernel)) rfl (@pi_range1 _ _ _ _ _ _ (by rfl) T.z_range (@pa_c _ _ _ _ _ (@pe_callB _ _ _ _ _ _ _ ("len") _ call_qLen (by rfl) T.z_len (by decide +kernel) (@pa_c _ _ _ _ _ (@pvN _ 0 _ _ (by rfl) (by trivial) (by decide) (by decide)) (@pa_nil _) (by rfl)) (by decide) (by decide) (by rfl) (by rfl)) (@pa_nil _) (by rfl)) (by rfl)) (fun C s₀ H₀ ex pn=>(@pg_name _ _ (0) _ (show List.Nodup (["_law_k", "_law_terms_here", "_law_case", "_law_least"]:List Str) from by decide +kernel) rfl (Or.inl rfl) (by trivial))) (fun C s₀ H₀ ex pn=>(@pts_nil _)) (fun C s₀ H₀ ex pn=>(@pe_op _ _ _ _ _ _ _ _ on_mul (@pe_ix _ _ _ _ _ _ _ ix_q (@pe_ix _ _ _ _ _ _ _ ix_q (@pvN _ 1 _ _ (by rfl) (by trivial) (by decide) (by decide)) (@pvN _ 0 _ _ (by rfl) (by trivial) (by decide) (by decide)) (fun _ _=>rfl)) (@pe_int _ _ _ _) (fun _ _=>rfl)) (@pe_ix _ _ _ _ _ _ _ ix_q (@pe_ix _ _ _ _ _ _ _ ix_q (@pvN _ 2 _ _ (by rfl) (by trivial) (by decide) (by decide)) (@pvN _ 0 _ _ (by rfl) (by trivial) (by decide) (by decide)) (fun _ _=>rfl)) (@pe_int _ _ _ _) (fun _ _=>rfl)))) (by intros;rfl)) (@pa_nil _) (by rfl)) (by decide) (by decide) (by rfl) (by rfl)) (by rfl) (by trivial)) (@pss_one _ _ _ (@ps_ret _ _ _ _ (@pe_qTup _ _ _ _ _ (@pa_c _ _ _ _ _ (@pvN _ 2 _ _ (by rfl) (by trivial) (by decide) (by decide)) (@pa_c _ _ _ _ _ (@pe_callB _ _ _ _ _ _ _ ("sum") _ (call_qSum rfl) (by rfl) T.z_sum (by decide +kernel) (@pa_c _ _ _ _ _ (@pe_comp _ _ _ _ _ _ _ _ _ _ _ (["_law_k", "_law_terms_here", "_law_case", "_law_least"]) (1) (comp_ok (defScope s__law_sums) ["_law_terms_here", "_law_case", "_law_least"] rfl rfl (by decide +kernel)) rfl (@pi_range1 _ _ _ _ _ _ (by rfl) T.z_range (@pa_c _ _ _ _ _ (@pe_callB _ _ _ _ _ _ _ ("len") _ call_qLen (by rfl) T.z_len (by decide +kernel) (@pa_c _ _ _ _ _ (@pvN _ 0 _ _ (by rfl) (by trivial) (by decide) (by decide)) (@pa_nil _) (by rfl)) (by decide) (by decide) (by rfl) (by rfl)) (@pa_nil _) (by rfl)) (by rfl)) (fun C s₀ H₀ ex pn=>(@pg_name _ _ (0) _ (show List.Nodup (["_law_k", "_law_terms_here", "_law_case", "_law_least"]:List Str) from by decide +kernel) rfl (Or.inl rfl) (by trivial))) (fun C s₀ H₀ ex pn=>(@pts_nil _)) (fun C s₀ H₀ ex pn=>(@pe_op _ _ _ _ _ _ _ _ on_mul (@pe_ix _ _ _ _ _ _ _ ix_q (@pe_ix _ _ _ _ _ _ _ ix_q (@pvN _ 1 _ _ (by rfl) (by trivial) (by decide) (by decide)) (@pvN _ 0 _ _ (by rfl) (by trivial) (by decide) (by decide)) (fun _ _=>rfl)) (@pe_int _ _ _ _) (fun _ _=>rfl)) (@pe_ix _ _ _ _ _ _ _ ix_q (@pe_ix _ _ _ _ _ _ _ ix_q (@pvN _ 2 _ _ (by rfl) (by trivial) (by decide) (by decide)) (@pvN _ 0 _ _ (by rfl) (by trivial) (by decide) (by decide)) (fun _ _=>rfl)) (@pe_int _ _ _ _) (fun _ _=>rfl)))) (by intros;rfl)) (@pa_nil _) (by rfl)) (by decide) (by decide) (by rfl) (by rfl)) (@pa_nil _) (by rfl)) (by rfl)))))),?_⟩
  rw [show start ["_law_terms_here", "_law_case", "_law_least"] [.ref p,.ref q]=[some (.ref p),some (.ref q),none] from rfl]
  have h17:=ht.len
  have htl:ts.length=zs.length:=al.1
  obtain ⟨sm1,sm2⟩:=lsum_rng hcl
  replace k:=fun (_:Unit)=>k
  replace al:=fun (_:Unit)=>al
  replace bl:=fun (_:Unit)=>bl
  replace sm1:=fun (_:Unit)=>sm1
  replace sm2:=fun (_:Unit)=>sm2
  simp! only [and_true]
  refine ⟨by omega,by omega,?_⟩
  refine comp_fm (List.range ((zs.length:Int)).toNat) (fun _=>true) (fun k=>.int ((zs.getD k default).1 * (cs.getD k default).1)) (fun j x H'=>x=.int (0+(j:Nat))) wk_rng.1 wk_rng.2 (len5000 (by rw [List.length_range];omega)) ?_ ?_
  ·intro D k x H' N1 N0 hk hD e hx k1 _
   subst hx
   have hkr:=List.mem_range.mp hk
   have hkz:k < zs.length:=by omega
   have hkc:k < cs.length:=by omega
   obtain ⟨c1,c2,hu⟩:=pr_get (bl ()) hkc
   obtain ⟨z1,z2,hz⟩:=tr_get (al ()) hkz
   have hp':=e.at hp
   have hq':=e.at hq
   have hu':=e.at hu
   have hz':=e.at hz
   have tt:=tm_at ht hkz
   have k1':N1 (.int ((zs.getD k default).1 * (cs.getD k default).1)) H':=k1 rfl H' (Ext.refl _)
   have cm:CMul (zs.getD k default).1 (cs.getD k default).1:=.inl ⟨by omega,by omega⟩
   generalize zs.getD k default=zi at *
   generalize cs.getD k default=ci at *
   clear k1 hk hp hq hu hz sm1 sm2
   simp! only [↓m_kCm_1,↓m_kCm2]
  intro D H1 hD e1 h1
  rw [filt,Int.toNat_natCast,show ((List.range zs.length).map fun k=>V.int ((zs.getD k default).1 * (cs.getD k default).1))=((List.range zs.length).map fun k=>(zs.getD k default).1 * (cs.getD k default).1).map V.int by rw [List.map_map];rfl] at h1
  have hp1:=e1.at hp
  have sm1':=sm1 ()
  generalize ((List.range zs.length).map fun k=>(zs.getD k default).1 * (cs.getD k default).1)=ls at h1 sm1'
  clear hD sm1
  simp! only [and_true]
  refine ⟨by omega,by omega,?_⟩
  clear sm1' h1
  refine comp_fm (List.range ((zs.length:Int)).toNat) (fun _=>true) (fun k=>.int ((zs.getD k default).1 * (cs.getD k default).2)) (fun j x H'=>x=.int (0+(j:Nat))) wk_rng.1 wk_rng.2 (len5000 (by rw [List.length_range];omega)) ?_ ?_
  ·intro D k x H' N1 N0 hk hD e hx k1 _
   subst hx
   have hkr:=List.mem_range.mp hk
   have hkz:k < zs.length:=by omega
   have hkc:k < cs.length:=by omega
   obtain ⟨c1,c2,hu⟩:=pr_get (bl ()) hkc
   obtain ⟨z1,z2,hz⟩:=tr_get (al ()) hkz
   have hp':=e.at hp1
   have hq':=(e1.trans e).at hq
   have hu':=(e1.trans e).at hu
   have hz':=(e1.trans e).at hz
   have tt:=tm_at ht hkz
   have k1':N1 (.int ((zs.getD k default).1 * (cs.getD k default).2)) H':=k1 rfl H' (Ext.refl _)
   have cm:CMul (zs.getD k default).1 (cs.getD k default).2:=.inl ⟨by omega,by omega⟩
   generalize zs.getD k default=zi at *
   generalize cs.getD k default=ci at *
   clear k1 hk hp hq hu hz hp1 sm2
   simp! only [↓m_kCm_1,↓m_kCm2]
  intro D2 H2 hD2 e2 h2
  rw [filt,Int.toNat_natCast,show ((List.range zs.length).map fun k=>V.int ((zs.getD k default).1 * (cs.getD k default).2))=((List.range zs.length).map fun k=>(zs.getD k default).1 * (cs.getD k default).2).map V.int by rw [List.map_map];rfl] at h2
  have sm2':=sm2 ()
  generalize ((List.range zs.length).map fun k=>(zs.getD k default).1 * (cs.getD k default).2)=gs at h2 sm2'
  clear hD2 sm2
  simp! only [and_true]
  intro r3 H3 _ e3 h3
  exact k () r3 H3 (e1.trans (e2.trans e3)) h3
abbrev B_spKGcd  (p:Addr) (H:Hp) (Q:VK) (E:XK):Prop:=∃ ns:List Int,H p=some (.lst (ns.map V.int))∧(∀ n∈ns,0≤n)∧Q (.int (gcdL ns)) H
def spKGcd  : Sp:=fun vs H Q E=>∃ (p:Addr),vs=[.ref p]∧(B_spKGcd  p H Q E)
theorem c_spKGcd  (p:Addr) (H:Hp) (Q:VK) (E:XK):spKGcd  [.ref p] H Q E=(B_spKGcd  p H Q E):=spx1 (f:=fun (p:Addr)=>[.ref p]) (fun _ _ h=>by cases h;exact rfl) p
theorem l_spKGcd  {vs:List V}{H:Hp}{Q:VK}{E:XK}(h:spKGcd  vs H Q E):vs.length=1:=spl1 h fun _=>rfl
theorem ok__law_divisor (T:Tx K mg t):FnOk P w K mg base CX0 1 t.a__law_divisor t.d__law_divisor ["_law_numbers"] spKGcd:=by
 refine T.F__law_divisor.ok c__law_divisor (fun vs H Q E h=>l_spKGcd h) (fun cdv A outer s H vs Q E hr h=>?_)
 ·obtain ⟨p,rfl,ns,hp,hn,k⟩:=h
  refine ⟨_,(@pss_cons _ _ _ _ _ (@ps_set _ _ (1) _ _ _ _ c__law_divisor.nd rfl (Or.inl rfl) (@pe_int _ _ _ _) (by rfl) (by trivial)) (@pss_cons _ _ _ _ _ (@ps_for _ _ _ _ _ _ _ _ PassesOwn.never rfl (@pi_seq _ _ _ _ (@pvN _ 0 _ _ (by rfl) (by trivial) (by decide) (by decide))) (@pg_name _ _ (2) _ c__law_divisor.nd rfl (Or.inl rfl) (by trivial)) (@pss_cons _ _ _ _ _ (@ps_set _ _ (3) _ _ _ _ c__law_divisor.nd rfl (Or.inl rfl) (@pvN _ 1 _ _ (by rfl) (by trivial) (by decide) (by decide)) (by rfl) (by trivial)) (@pss_cons _ _ _ _ _ (@ps_while _ _ _ _ _ _ PassesOwn.never (@pt_cmpRN _ _ _ _ _ _ _ _ on_gt (@pvN _ 2 _ _ (by rfl) (by trivial) (by decide) (by decide)) (@pe_int _ _ _ _) (nomark _)) (@pss_one _ _ _ (@ps_par _ _ (3) (2) _ _ _ _ _ _ _ _ _ _ _ rfl c__law_divisor.nd rfl rfl (by decide) rfl rfl (@pa_c _ _ _ _ _ (@pvN _ 2 _ _ (by rfl) (by trivial) (by decide) (by decide)) (@pa_c _ _ _ _ _ (@pe_op _ _ _ _ _ _ _ _ on_mod (@pvN _ 3 _ _ (by rfl) (by trivial) (by decide) (by decide)) (@pvN _ 2 _ _ (by rfl) (by trivial) (by decide) (by decide))) (@pa_nil _) (by rfl)) (by rfl)) rfl (by rfl)))) (@pss_one _ _ _ (@ps_set _ _ (1) _ _ _ _ c__law_divisor.nd rfl (Or.inl rfl) (@pvN _ 3 _ _ (by rfl) (by trivial) (by decide) (by decide)) (by rfl) (by trivial))))) (by intros;rfl)) (@pss_one _ _ _ (@ps_ret _ _ _ _ (@pvN _ 1 _ _ (by rfl) (by trivial) (by decide) (by decide)))))),?_⟩
  rw [show start ["_law_numbers", "_law_found", "_law_other", "_law_one"] [.ref p]=[some (.ref p),none,none,none] from rfl]
  replace hn:=fun (_:Unit)=>hn
  simp! only [and_true]
  refine for_lst (xs:=ns.map V.int) (fun i σ H'=>∃ v w:Option V,σ=[some (.ref p),some (.int (gcdL (ns.take i))),v,w]∧H'=H) ⟨none,none,rfl,rfl⟩ (fun i σ H' _ ⟨_,_,_,e⟩=>by rw [e];exact hp) ?_ ?_
  ·rintro i y _ _ hi ⟨v,w',rfl,rfl⟩
   rename_i H
   rw [List.getElem?_map] at hi
   obtain ⟨z,hz,rfl⟩:=Option.map_eq_some_iff.mp hi
   have e1:=gcdL_take ns i z hz
   have hz0:=hn () z (List.mem_of_getElem? hz)
   have hg0:=gcdL_nn (ns.take i)
   generalize gcdL (ns.take (i+1))=g1 at *
   generalize gcdL (ns.take i)=g0 at *
   replace e1:=fun (_:Unit)=>e1
   clear hz hi k
   simp! only [↓m_kBody]
   refine while_w (by repeat' first|exact mo_tV|exact mo_nI0|exact mo_nI|apply mo_nTest|apply mo_unN|exact mo_var|exact mo_c|exact mo_rI0|exact mo_rI|exact mo_rIsN|exact mo_rNotN|exact mo_qEq|exact mo_qIx|exact mo_nil|exact mo_qLen|apply mo_test|apply mo_tB|apply mo_not|apply mo_and|apply mo_or|apply mo_op|apply mo_un|apply mo_cons|apply mo_qLst|apply mo_cb) (fun m σ H'=>∃ (f r:Int),σ=[some (.ref p),some (.int g0),some (.int r),some (.int f)]∧H'=H∧m=r.toNat∧0≤f∧0≤r∧Int.gcd f r=Int.gcd g0 z) _ ⟨g0,z,rfl,rfl,rfl,hg0,hz0,rfl⟩ ?_
   rintro m _ _ ⟨f,r,rfl,rfl,rfl,hf,hr',hg⟩
   rename_i H
   by_cases hz:r=0
   ·subst hz
    have e:f=g1:=by rw [e1 (),←hg];exact (gcd_zero f hf).symm
    clear hg hn e1
    simp! only [and_true]
    exact ⟨_,_,rfl⟩
   ·have hp:0 < r:=by omega
    have e1:=gcd_step f r hp hf
    have e2:=Int.emod_lt_of_pos f hp
    have e3:=Int.emod_nonneg f hz
    have e4:=fun (_:Unit)=>e1.trans hg
    clear hg e1 hn
    simp! only [and_true]
    exact ⟨_,by omega,_,_,rfl,rfl,hr',e3,e4 ()⟩
  ·rintro _ _ ⟨v,w',rfl,rfl⟩
   rename_i H
   have e2:gcdL (ns.take (ns.map V.int).length)=gcdL ns:=by rw [List.length_map,List.take_length]
   rw [e2]
   clear e2
   simp! only [and_true]
theorem endedB_1 {g l gr r:Int}(h:g < l):endedB g l gr r=true:=by unfold endedB;rw [decide_eq_true h];rfl
theorem endedB_2 {g l gr r:Int}(h:gr < g):endedB g l gr r=true:=by unfold endedB;rw [decide_eq_true h,Bool.or_true];rfl
theorem endedB_3 {g l gr r:Int}(h:1 < r) (h':(g - l) % r ≠ 0):endedB g l gr r=true:=by
 unfold endedB
 have:=Int.emod_nonneg (g - l) (show r ≠ 0 by omega)
 rw [decide_eq_true h,decide_eq_true (show 0 < (g - l) % r by omega),Bool.true_and,Bool.or_true]
theorem endedB_4 {g l gr r:Int}(h1:¬ g < l) (h2:¬ gr < g) (h3:¬ 1 < r):endedB g l gr r=false:=by unfold endedB;rw [decide_eq_false h1,decide_eq_false h2,decide_eq_false h3];rfl
theorem endedB_5 {g l gr r:Int}(h1:¬ g < l) (h2:¬ gr < g) (h3:(g - l) % r=0):endedB g l gr r=false:=by unfold endedB;rw [decide_eq_false h1,decide_eq_false h2,h3,decide_eq_false (Int.lt_irrefl 0),Bool.and_false];rfl
abbrev B_spKEnd  (p:Addr) (g:Int) (q:Addr) (H:Hp) (Q:VK) (E:XK):Prop:=∃ (zs:List Tm3) (cs:List (Int × Int)),TrAt H p zs∧PrAt H q cs∧TmsOk zs∧CsOk zs cs∧∀ H',Ext H H'->Q (.bl (ended zs cs g)) H'
def spKEnd  : Sp:=fun vs H Q E=>∃ (p:Addr) (g:Int) (q:Addr),vs=[.ref p,.int g,.ref q]∧(B_spKEnd  p g q H Q E)
theorem c_spKEnd  (p:Addr) (g:Int) (q:Addr) (H:Hp) (Q:VK) (E:XK):spKEnd  [.ref p,.int g,.ref q] H Q E=(B_spKEnd  p g q H Q E):=spx3 (f:=fun (p:Addr) (g:Int) (q:Addr)=>[.ref p,.int g,.ref q]) (fun _ _ _ _ _ _ h=>by cases h;exact ⟨rfl,rfl,rfl⟩) p g q
theorem l_spKEnd  {vs:List V}{H:Hp}{Q:VK}{E:XK}(h:spKEnd  vs H Q E):vs.length=3:=spl3 h fun _ _ _=>rfl
theorem ok__law_ended (T:Tx K mg t):FnOk P w K mg base CX0 2 t.a__law_ended t.d__law_ended ["_law_terms_here", "_law_goal_here", "_law_case"] spKEnd:=by
 have G__law_sums:=ok__law_sums (P:=P) (w:=w) (base:=base) T
 have G__law_divisor:=ok__law_divisor (P:=P) (w:=w) (base:=base) T
 refine T.F__law_ended.ok c__law_ended (fun vs H Q E h=>l_spKEnd h) (fun cdv A outer s H vs Q E hr h=>?_)
 ·obtain ⟨p,g,q,rfl,zs,cs,hp,hq,ht,hc,k⟩:=h
  refine ⟨_,(@pss_cons _ _ _ _ _ (@ps_asg _ _ _ _ _ _ (@pe_call _ _ _ _ _ _ _ _ _ _ _ _ _ _ _ _ G__law_sums (hr.mono (by decide)) (by rfl) T.m__law_sums T.F__law_sums.kp T.b__law_sums .nil pass0 (@pa_c _ _ _ _ _ (@pvN _ 0 _ _ (by rfl) (by trivial) (by decide) (by decide)) (@pa_c _ _ _ _ _ (@pvN _ 2 _ _ (by rfl) (by trivial) (by decide) (by decide)) (@pa_nil _) (by rfl)) (by rfl)) (by decide) (by rfl) (by rfl)) ((@pg_tup _ _ _ _ _ (2) rfl (@pgs_consN _ _ _ _ _ (@pg_name _ _ (3) _ c__law_ended.nd rfl (Or.inl rfl) (by trivial)) (@pgs_consN _ _ _ _ _ (@pg_name _ _ (4) _ c__law_ended.nd rfl (Or.inl rfl) (by trivial)) (@pgs_nilN _) (by rfl)) (by rfl)) (by rfl) (by rfl)).mono fun _ _ _ _ h=>gTup_q h) (by rfl) (by rfl) (by rfl)) (@pss_cons _ _ _ _ _ (@ps_set _ _ (5) _ _ _ _ c__law_ended.nd rfl (Or.inl rfl) (@pe_call _ _ _ _ _ _ _ _ _ _ _ _ _ _ _ _ G__law_divisor (hr.mono (by decide)) (by rfl) T.m__law_divisor T.F__law_divisor.kp T.b__law_divisor .nil pass0 (@pa_c _ _ _ _ _ (@pe_comp _ _ _ _ _ _ _ _ _ _ _ (["_law_k", "_law_terms_here", "_law_goal_here", "_law_case", "_law_least", "_law_greatest", "_law_rest_here"]) (1) (comp_ok (defScope s__law_ended) ["_law_terms_here", "_law_goal_here", "_law_case", "_law_least", "_law_greatest", "_law_rest_here"] rfl rfl (by decide +kernel)) rfl (@pi_range1 _ _ _ _ _ _ (by rfl) T.z_range (@pa_c _ _ _ _ _ (@pe_callB _ _ _ _ _ _ _ ("len") _ call_qLen (by rfl) T.z_len (by decide +kernel) (@pa_c _ _ _ _ _ (@pvN _ 0 _ _ (by rfl) (by trivial) (by decide) (by decide)) (@pa_nil _) (by rfl)) (by decide) (by decide) (by rfl) (by rfl)) (@pa_nil _) (by rfl)) (by rfl)) (fun C s₀ H₀ ex pn=>(@pg_name _ _ (0) _ (show List.Nodup (["_law_k", "_law_terms_here", "_law_goal_here", "_law_case", "_law_least", "_law_greatest", "_law_rest_here"]:List Str) from by decide +kernel) rfl (Or.inl rfl) (by trivial))) (fun C s₀ H₀ ex pn=>(@pts_one _ _ _ (@pt_cmpRN _ _ _ _ _ _ _ _ on_lt (@pe_ix _ _ _ _ _ _ _ ix_q (@pe_ix _ _ _ _ _ _ _ ix_q (@pvN _ 3 _ _ (by rfl) (by trivial) (by decide) (by decide)) (@pvN _ 0 _ _ (by rfl) (by trivial) (by decide) (by decide)) (fun _ _=>rfl)) (@pe_int _ _ _ _) (fun _ _=>rfl)) (@pe_ix _ _ _ _ _ _ _ ix_q (@pe_ix _ _ _ _ _ _ _ ix_q (@pvN _ 3 _ _ (by rfl) (by trivial) (by decide) (by decide)) (@pvN _ 0 _ _ (by rfl) (by trivial) (by decide) (by decide)) (fun _ _=>rfl)) (@pe_int _ _ _ _) (fun _ _=>rfl)) (nomark _)))) (fun C s₀ H₀ ex pn=>(@pe_ix _ _ _ _ _ _ _ ix_q (@pe_ix _ _ _ _ _ _ _ ix_q (@pvN _ 1 _ _ (by rfl) (by trivial) (by decide) (by decide)) (@pvN _ 0 _ _ (by rfl) (by trivial) (by decide) (by decide)) (fun _ _=>rfl)) (@pe_int _ _ _ _) (fun _ _=>rfl))) (by intros;rfl)) (@pa_nil _) (by rfl)) (by decide) (by rfl) (by rfl)) (by rfl) (by trivial)) (@pss_one _ _ _ (@ps_ret _ _ _ _ (@pe_orN _ _ _ _ _ _ _ (@pe_cmpR _ _ _ _ _ _ _ _ on_gt (@pvN _ 3 _ _ (by rfl) (by trivial) (by decide) (by decide)) (@pvN _ 1 _ _ (by rfl) (by trivial) (by decide) (by decide)) (nomark _)) (@pe_orN _ _ _ _ _ _ _ (@pe_cmpR _ _ _ _ _ _ _ _ on_lt (@pvN _ 4 _ _ (by rfl) (by trivial) (by decide) (by decide)) (@pvN _ 1 _ _ (by rfl) (by trivial) (by decide) (by decide)) (nomark _)) (@pe_one _ _ _ _ _ (@pe_andN _ _ _ _ _ _ _ (@pe_cmpR _ _ _ _ _ _ _ _ on_gt (@pvN _ 5 _ _ (by rfl) (by trivial) (by decide) (by decide)) (@pe_int _ _ _ _) (nomark _)) (@pe_one _ _ _ _ _ (@pe_cmpR _ _ _ _ _ _ _ _ on_gt (@pe_op _ _ _ _ _ _ _ _ on_mod (@pe_op _ _ _ _ _ _ _ _ on_sub (@pvN _ 1 _ _ (by rfl) (by trivial) (by decide) (by decide)) (@pvN _ 3 _ _ (by rfl) (by trivial) (by decide) (by decide))) (@pvN _ 5 _ _ (by rfl) (by trivial) (by decide) (by decide))) (@pe_int _ _ _ _) (nomark _))))))))))),?_⟩
  rw [show start ["_law_terms_here", "_law_goal_here", "_law_case", "_law_least", "_law_greatest", "_law_rest_here"] [.ref p,.int g,.ref q]=[some (.ref p),some (.int g),some (.ref q),none,none,none] from rfl]
  clear G__law_sums G__law_divisor
  have h17:=ht.len
  have hcl:=hc.len
  have rs:=rest_rng hcl
  unfold ended at k
  replace k:=fun (_:Unit)=>k
  replace rs:=fun (_:Unit)=>rs
  replace hcl:=fun (_:Unit)=>hcl
  simp! only [and_true]
  rw [c_spKSums]
  refine ⟨zs,cs,hp,hq,ht,hcl (),fun r1 H1 e1 h1=>?_⟩
  obtain ⟨ts,hp1,al⟩:=tr_ext hp e1
  obtain ⟨xs,hq1,bl⟩:=pr_ext hq e1
  have htl:ts.length=zs.length:=al.1
  replace al:=fun (_:Unit)=>al
  replace bl:=fun (_:Unit)=>bl
  clear hp hq
  simp! only [and_true]
  refine ⟨by omega,by omega,?_⟩
  refine comp_fm (List.range ((zs.length:Int)).toNat) (fun k=>decide ((cs.getD k default).1 < (cs.getD k default).2)) (fun k=>.int (zs.getD k default).1) (fun j x H'=>x=.int (0+(j:Nat))) wk_rng.1 wk_rng.2 (len5000 (by rw [List.length_range];omega)) ?_ ?_
  ·intro D k x H' N1 N0 hk hD e hx k1 k0
   subst hx
   have hkr:=List.mem_range.mp hk
   have hkz:k < zs.length:=by omega
   have hkc:k < cs.length:=by have:=hcl ();omega
   obtain ⟨c1,c2,hu⟩:=pr_get (bl ()) hkc
   obtain ⟨z1,z2,hz⟩:=tr_get (al ()) hkz
   have hp':=e.at hp1
   have hq':=e.at hq1
   have hu':=e.at hu
   have hz':=e.at hz
   generalize zs.getD k default=zi at *
   generalize cs.getD k default=ci at *
   clear hk hp1 hq1 hu hz rs
   by_cases hlt:ci.1 < ci.2
   ·have k1':N1 (.int zi.1) H':=k1 (decide_eq_true hlt) H' (Ext.refl _)
    clear k1 k0
    simp! only [↓m_kCm_1,↓m_kCm2]
   ·have k0':N0 H':=k0 (decide_eq_false hlt) H' (Ext.refl _)
    clear k1 k0
    simp! only [↓m_kCm_1,↓m_kCm2]
  intro D H2 hD e2 h2
  rw [Int.toNat_natCast,show (((List.range zs.length).filter fun k=>decide ((cs.getD k default).1 < (cs.getD k default).2)).map fun k=>V.int (zs.getD k default).1)=(restL zs cs).map V.int by rw [←rs (),List.map_map];rfl] at h2
  have hnn:∀ n∈restL zs cs,(0:Int)≤n:=fun n hn=>by
   unfold restL at hn
   obtain ⟨z,hz,rfl⟩:=List.mem_map.mp hn
   have:=(ht.all z.1 (List.of_mem_zip (show (z.1,z.2)∈zs.zip cs from (List.mem_filter.mp hz).1)).1).1
   omega
  have hgn:=gcdL_nn (restL zs cs)
  replace hnn:=fun (_:Unit)=>hnn
  clear hD
  simp! only [and_true]
  rw [c_spKGcd]
  refine ⟨_,h2,hnn (),?_⟩
  have k':=fun (_:Unit)=>k () H2 (e1.trans e2)
  clear k hnn h2 rs
  generalize gcdL (restL zs cs)=r at *
  generalize lsum zs cs=l at *
  generalize gsum zs cs=gr at *
  by_cases x1:g < l
  ·have k2:=k' ()
   rw [endedB_1 x1] at k2
   clear k'
   simp! only [and_true]
  by_cases x2:gr < g
  ·have k2:=k' ()
   rw [endedB_2 x2] at k2
   clear k'
   simp! only [and_true]
  by_cases x3:1 < r
  ·have hr0:0 < r:=by omega
   by_cases x4:0 < (g - l) % r
   ·have k2:=k' ()
    rw [endedB_3 x3 (by omega)] at k2
    clear k'
    simp! only [and_true]
   ·have x5:(g - l) % r=0:=by have:=Int.emod_nonneg (g - l) (show r ≠ 0 by omega);omega
    have k2:=k' ()
    rw [endedB_5 x1 x2 x5] at k2
    clear k' x5
    simp! only [and_true]
  ·have k2:=k' ()
   rw [endedB_4 x1 x2 x3] at k2
   clear k'
   simp! only [and_true]
theorem rest_at {zs:List Tm3}{cs:List (Int × Int)}{d:Int}{k:Nat}(hl:cs.length=zs.length) (h:∀ n∈restL zs cs,d ∣ n) (hk:k < zs.length) (hlt:(cs.getD k default).1 < (cs.getD k default).2):(zs.getD k default).1 % d=0:=by
 refine Int.emod_eq_zero_of_dvd (h _ ?_)
 rw [←rest_rng hl]
 exact List.mem_map.mpr ⟨k,List.mem_filter.mpr ⟨List.mem_range.mpr hk,decide_eq_true hlt⟩,rfl⟩
abbrev B_spKRest  (p:Addr) (g:Int) (q:Addr) (d:Int) (H:Hp) (Q:VK) (E:XK):Prop:=∃ (zs:List Tm3) (cs:List (Int × Int)),TrAt H p zs∧PrAt H q cs∧TmsOk zs∧CsOk zs cs∧2≤d∧(∀ n∈restL zs cs,d ∣ n)∧0 < (g - lsum zs cs) % d∧∀ H',Ext H H'->Q (.bl true) H'
def spKRest  : Sp:=fun vs H Q E=>∃ (p:Addr) (g:Int) (q:Addr) (d:Int),vs=[.ref p,.int g,.ref q,.int d]∧(B_spKRest  p g q d H Q E)
theorem c_spKRest  (p:Addr) (g:Int) (q:Addr) (d:Int) (H:Hp) (Q:VK) (E:XK):spKRest  [.ref p,.int g,.ref q,.int d] H Q E=(B_spKRest  p g q d H Q E):=spx4 (f:=fun (p:Addr) (g:Int) (q:Addr) (d:Int)=>[.ref p,.int g,.ref q,.int d]) (fun _ _ _ _ _ _ _ _ h=>by cases h;exact ⟨rfl,rfl,rfl,rfl⟩) p g q d
theorem l_spKRest  {vs:List V}{H:Hp}{Q:VK}{E:XK}(h:spKRest  vs H Q E):vs.length=4:=spl4 h fun _ _ _ _=>rfl
theorem ok__law_rest (T:Tx K mg t):FnOk P w K mg base CX0 2 t.a__law_rest t.d__law_rest ["_law_terms_here", "_law_goal_here", "_law_case", "_law_by"] spKRest:=by
 have G__law_sums:=ok__law_sums (P:=P) (w:=w) (base:=base) T
 have G__law_whole:=ok__law_whole (P:=P) (w:=w) (base:=base) T
 refine T.F__law_rest.ok c__law_rest (fun vs H Q E h=>l_spKRest h) (fun cdv A outer s H vs Q E hr h=>?_)
 ·obtain ⟨p,g,q,d,rfl,zs,cs,hp,hq,ht,hc,hd,hdv,hrs,k⟩:=h
  refine ⟨_,(@pss_cons _ _ _ _ _ (@ps_if _ _ _ _ _ _ _ _ (PW.pt (@pw_or _ _ _ _ _ _ _ (@pt_not _ _ _ _ (@pt_valN _ _ _ (@pe_call _ _ _ _ _ _ _ _ _ _ _ _ _ _ _ _ G__law_whole (hr.mono (by decide)) (by rfl) T.m__law_whole T.F__law_whole.kp T.b__law_whole .nil pass0 (@pa_c _ _ _ _ _ (@pvN _ 3 _ _ (by rfl) (by trivial) (by decide) (by decide)) (@pa_nil _) (by rfl)) (by decide) (by rfl) (by rfl)) (by intros;rfl))) (@pw_or1 _ _ _ _ (@pt_cmpRN _ _ _ _ _ _ _ _ on_lt (@pvN _ 3 _ _ (by rfl) (by trivial) (by decide) (by decide)) (@pe_int _ _ _ _) (nomark _))))) (@pss_one _ _ _ (@ps_ret _ _ _ _ (@pe_bl _ _ _ _))) (@pss_nil _)) (@pss_cons _ _ _ _ _ (@ps_for _ _ _ _ _ _ _ _ PassesOwn.never rfl (@pi_range1 _ _ _ _ _ _ (by rfl) T.z_range (@pa_c _ _ _ _ _ (@pe_callB _ _ _ _ _ _ _ ("len") _ call_qLen (by rfl) T.z_len (by decide +kernel) (@pa_c _ _ _ _ _ (@pvN _ 0 _ _ (by rfl) (by trivial) (by decide) (by decide)) (@pa_nil _) (by rfl)) (by decide) (by decide) (by rfl) (by rfl)) (@pa_nil _) (by rfl)) (by rfl)) (@pg_name _ _ (4) _ c__law_rest.nd rfl (Or.inl rfl) (by trivial)) (@pss_one _ _ _ (@ps_if _ _ _ _ _ _ _ _ (PW.pt (@pw_and _ _ _ _ _ _ _ (@pt_cmpRN _ _ _ _ _ _ _ _ on_lt (@pe_ix _ _ _ _ _ _ _ ix_q (@pe_ix _ _ _ _ _ _ _ ix_q (@pvN _ 2 _ _ (by rfl) (by trivial) (by decide) (by decide)) (@pvN _ 4 _ _ (by rfl) (by trivial) (by decide) (by decide)) (fun _ _=>rfl)) (@pe_int _ _ _ _) (fun _ _=>rfl)) (@pe_ix _ _ _ _ _ _ _ ix_q (@pe_ix _ _ _ _ _ _ _ ix_q (@pvN _ 2 _ _ (by rfl) (by trivial) (by decide) (by decide)) (@pvN _ 4 _ _ (by rfl) (by trivial) (by decide) (by decide)) (fun _ _=>rfl)) (@pe_int _ _ _ _) (fun _ _=>rfl)) (nomark _)) (@pw_and1 _ _ _ _ (@pt_cmpRN _ _ _ _ _ _ _ _ on_gt (@pe_op _ _ _ _ _ _ _ _ on_mod (@pe_ix _ _ _ _ _ _ _ ix_q (@pe_ix _ _ _ _ _ _ _ ix_q (@pvN _ 0 _ _ (by rfl) (by trivial) (by decide) (by decide)) (@pvN _ 4 _ _ (by rfl) (by trivial) (by decide) (by decide)) (fun _ _=>rfl)) (@pe_int _ _ _ _) (fun _ _=>rfl)) (@pvN _ 3 _ _ (by rfl) (by trivial) (by decide) (by decide))) (@pe_int _ _ _ _) (nomark _))))) (@pss_one _ _ _ (@ps_ret _ _ _ _ (@pe_bl _ _ _ _))) (@pss_nil _))) (by intros;rfl)) (@pss_one _ _ _ (@ps_ret _ _ _ _ (@pe_cmpR _ _ _ _ _ _ _ _ on_gt (@pe_op _ _ _ _ _ _ _ _ on_mod (@pe_op _ _ _ _ _ _ _ _ on_sub (@pvN _ 1 _ _ (by rfl) (by trivial) (by decide) (by decide)) (@pe_ix _ _ _ _ _ _ _ ix_q (@pe_call _ _ _ _ _ _ _ _ _ _ _ _ _ _ _ _ G__law_sums (hr.mono (by decide)) (by rfl) T.m__law_sums T.F__law_sums.kp T.b__law_sums .nil pass0 (@pa_c _ _ _ _ _ (@pvN _ 0 _ _ (by rfl) (by trivial) (by decide) (by decide)) (@pa_c _ _ _ _ _ (@pvN _ 2 _ _ (by rfl) (by trivial) (by decide) (by decide)) (@pa_nil _) (by rfl)) (by rfl)) (by decide) (by rfl) (by rfl)) (@pe_int _ _ _ _) (fun _ _=>rfl))) (@pvN _ 3 _ _ (by rfl) (by trivial) (by decide) (by decide))) (@pe_int _ _ _ _) (nomark _)))))),?_⟩
  rw [show start ["_law_terms_here", "_law_goal_here", "_law_case", "_law_by", "_law_k"] [.ref p,.int g,.ref q,.int d]=[some (.ref p),some (.int g),some (.ref q),some (.int d),none] from rfl]
  clear G__law_sums G__law_whole
  have h17:=ht.len
  have hcl:=hc.len
  have ra:∀ k,k < zs.length->(cs.getD k default).1 < (cs.getD k default).2->(zs.getD k default).1 % d=0:=fun k hk hlt=>rest_at hcl hdv hk hlt
  obtain ⟨ts,hp1,al⟩:=hp
  obtain ⟨xs,hq1,bl⟩:=hq
  have htl:ts.length=zs.length:=al.1
  have hd1:¬ d < 2:=by omega
  have hd0:0 < d:=by omega
  replace k:=fun (_:Unit)=>k
  replace ra:=fun (_:Unit)=>ra
  replace hcl:=fun (_:Unit)=>hcl
  replace al:=fun (_:Unit)=>al
  replace bl:=fun (_:Unit)=>bl
  clear hdv
  simp! only [↓c_spWhole]
  refine ⟨by omega,by omega,?_⟩
  refine for_rng (fun j σ H'=>∃ v:Option V,σ=[some (.ref p),some (.int g),some (.ref q),some (.int d),v]∧H'=H) ⟨none,rfl,rfl⟩ ?_ ?_
  ·rintro j _ _ hj ⟨v,rfl,rfl⟩
   rename_i H
   have hkz:j < zs.length:=by have:j < ((zs.length:Int)).toNat:=hj;omega
   have hkc:j < cs.length:=by have:=hcl ();omega
   obtain ⟨c1,c2,hu⟩:=pr_get (bl ()) hkc
   obtain ⟨z1,z2,hz⟩:=tr_get (al ()) hkz
   have ra':=ra () j hkz
   generalize zs.getD j default=zi at *
   generalize cs.getD j default=ci at *
   clear hj k ra
   by_cases hlt:ci.1 < ci.2
   ·have ra2:=ra' hlt
    clear ra'
    simp! only [↓m_kBody]
    exact ⟨_,rfl⟩
   ·clear ra'
    simp! only [↓m_kBody]
    exact ⟨_,rfl⟩
  ·rintro _ _ ⟨v,rfl,rfl⟩
   rename_i H
   simp! only [and_true]
   rw [c_spKSums]
   refine ⟨zs,cs,⟨ts,hp1,al ()⟩,⟨xs,hq1,bl ()⟩,ht,hcl (),fun r1 H1 e1 h1=>?_⟩
   have k':=k () H1 e1
   clear k ra
   simp! only [and_true]
theorem take_set {xs:List V}{k:Nat}{y:V}(hk:k < xs.length):xs.take k++[y]++xs.drop (k+1)=xs.set k y:=by
 rw [List.set_eq_take_append_cons_drop,if_pos hk,List.append_assoc];rfl
def BehV (H0 H:Hp) (more:List Bx) (ys:List V):Prop:=Al (fun c y=>∃ a,y=.ref a∧H0 a=none∧PrAt H a c) more.reverse ys
abbrev B_spKBeh  (p:Addr) (g:Int) (q:Addr) (x:Addr) (H:Hp) (Q:VK) (E:XK):Prop:=∃ (zs:List Tm3) (cs:Bx) (ss:List V) (more:List Bx),TrAt H p zs∧PrAt H q cs∧TmsOk zs∧CsOk zs cs∧H x=some (.tup ss)∧StepOk zs g cs ss more∧∀ (r:Addr) (ys:List V) (H':Hp),Ext H H'->H' r=some (.lst ys)->BehV H H' more ys->Q (.ref r) H'
def spKBeh  : Sp:=fun vs H Q E=>∃ (p:Addr) (g:Int) (q:Addr) (x:Addr),vs=[.ref p,.int g,.ref q,.ref x]∧(B_spKBeh  p g q x H Q E)
theorem c_spKBeh  (p:Addr) (g:Int) (q:Addr) (x:Addr) (H:Hp) (Q:VK) (E:XK):spKBeh  [.ref p,.int g,.ref q,.ref x] H Q E=(B_spKBeh  p g q x H Q E):=spx4 (f:=fun (p:Addr) (g:Int) (q:Addr) (x:Addr)=>[.ref p,.int g,.ref q,.ref x]) (fun _ _ _ _ _ _ _ _ h=>by cases h;exact ⟨rfl,rfl,rfl,rfl⟩) p g q x
theorem l_spKBeh  {vs:List V}{H:Hp}{Q:VK}{E:XK}(h:spKBeh  vs H Q E):vs.length=4:=spl4 h fun _ _ _ _=>rfl
theorem ok__law_behind (T:Tx K mg t):FnOk P w K mg base CX0 3 t.a__law_behind t.d__law_behind ["_law_terms_here", "_law_goal_here", "_law_case", "_law_step"] spKBeh:=by
 have G__law_sums:=ok__law_sums (P:=P) (w:=w) (base:=base) T
 have G__law_whole:=ok__law_whole (P:=P) (w:=w) (base:=base) T
 have G__law_rest:=ok__law_rest (P:=P) (w:=w) (base:=base) T
 refine T.F__law_behind.ok c__law_behind (fun vs H Q E h=>l_spKBeh h) (fun cdv A outer s H vs Q E hr h=>?_)
 ·obtain ⟨p,g,q,x,rfl,zs,cs,ss,more,hp,hq,ht,hc,hx,hs,k⟩:=h
  refine ⟨_,(@pss_cons _ _ _ _ _ (@ps_if _ _ _ _ _ _ _ _ (PW.pt (@pw_or _ _ _ _ _ _ _ (@pt_not _ _ _ _ (@pt_valN _ _ _ (@pe_callB _ _ _ _ _ _ _ ("isinstance") _ call_qIsi (by rfl) T.z_isinstance (by decide +kernel) (@pa_c _ _ _ _ _ (@pvN _ 3 _ _ (by rfl) (by trivial) (by decide) (by decide)) (@pa_c _ _ _ _ _ (@pe_bltn _ _ (.ty "tuple") (.type "tuple") _ (by rfl) T.z_tuple (by decide +kernel) rfl (by decide) (by decide)) (@pa_nil _) (by rfl)) (by rfl)) (by decide) (by decide) (by rfl) (by rfl)) (by intros;rfl))) (@pw_or _ _ _ _ _ _ _ (@pt_cmpRN _ _ _ _ _ _ _ _ on_lt (@pe_callB _ _ _ _ _ _ _ ("len") _ call_qLen (by rfl) T.z_len (by decide +kernel) (@pa_c _ _ _ _ _ (@pvN _ 3 _ _ (by rfl) (by trivial) (by decide) (by decide)) (@pa_nil _) (by rfl)) (by decide) (by decide) (by rfl) (by rfl)) (@pe_int _ _ _ _) (nomark _)) (@pw_or1 _ _ _ _ (@pt_cmpRN _ _ _ _ _ _ _ _ on_gt (@pe_callB _ _ _ _ _ _ _ ("len") _ call_qLen (by rfl) T.z_len (by decide +kernel) (@pa_c _ _ _ _ _ (@pvN _ 3 _ _ (by rfl) (by trivial) (by decide) (by decide)) (@pa_nil _) (by rfl)) (by decide) (by decide) (by rfl) (by rfl)) (@pe_int _ _ _ _) (nomark _)))))) (@pss_one _ _ _ (@ps_ret _ _ _ _ (@pe_non _ _ _))) (@pss_nil _)) (@pss_cons _ _ _ _ _ (@ps_asg _ _ _ _ _ _ (@pe_call _ _ _ _ _ _ _ _ _ _ _ _ _ _ _ _ G__law_sums (hr.mono (by decide)) (by rfl) T.m__law_sums T.F__law_sums.kp T.b__law_sums .nil pass0 (@pa_c _ _ _ _ _ (@pvN _ 0 _ _ (by rfl) (by trivial) (by decide) (by decide)) (@pa_c _ _ _ _ _ (@pvN _ 2 _ _ (by rfl) (by trivial) (by decide) (by decide)) (@pa_nil _) (by rfl)) (by rfl)) (by decide) (by rfl) (by rfl)) ((@pg_tup _ _ _ _ _ (2) rfl (@pgs_consN _ _ _ _ _ (@pg_name _ _ (4) _ c__law_behind.nd rfl (Or.inl rfl) (by trivial)) (@pgs_consN _ _ _ _ _ (@pg_name _ _ (5) _ c__law_behind.nd rfl (Or.inl rfl) (by trivial)) (@pgs_nilN _) (by rfl)) (by rfl)) (by rfl) (by rfl)).mono fun _ _ _ _ h=>gTup_q h) (by rfl) (by rfl) (by rfl)) (@pss_cons _ _ _ _ _ (@ps_if _ _ _ _ _ _ _ _ (PW.pt (@pw_or _ _ _ _ _ _ _ (PW.pt (@pw_and _ _ _ _ _ _ _ (@pt_cmpRN _ _ _ _ _ _ _ _ (op_qEq hr.units) (@pvN _ 3 _ _ (by rfl) (by trivial) (by decide) (by decide)) (@pe_qTup _ _ _ _ _ (@pa_c _ _ _ _ _ (@pe_str _ _ _ _) (@pa_nil _) (by rfl))) (nomark _)) (@pw_and1 _ _ _ _ (@pt_cmpRN _ _ _ _ _ _ _ _ on_gt (@pvN _ 4 _ _ (by rfl) (by trivial) (by decide) (by decide)) (@pvN _ 1 _ _ (by rfl) (by trivial) (by decide) (by decide)) (nomark _))))) (@pw_or1 _ _ _ _ (PW.pt (@pw_and _ _ _ _ _ _ _ (@pt_cmpRN _ _ _ _ _ _ _ _ (op_qEq hr.units) (@pvN _ 3 _ _ (by rfl) (by trivial) (by decide) (by decide)) (@pe_qTup _ _ _ _ _ (@pa_c _ _ _ _ _ (@pe_str _ _ _ _) (@pa_nil _) (by rfl))) (nomark _)) (@pw_and1 _ _ _ _ (@pt_cmpRN _ _ _ _ _ _ _ _ on_lt (@pvN _ 5 _ _ (by rfl) (by trivial) (by decide) (by decide)) (@pvN _ 1 _ _ (by rfl) (by trivial) (by decide) (by decide)) (nomark _)))))))) (@pss_one _ _ _ (@ps_ret _ _ _ _ (@pe_qLst _ _ _ _ (@pa_nil _)))) (@pss_nil _)) (@pss_cons _ _ _ _ _ (@ps_if _ _ _ _ _ _ _ _ (PW.pt (@pw_and _ _ _ _ _ _ _ (@pt_cmpRN _ _ _ _ _ _ _ _ (op_qEq hr.units) (@pe_callB _ _ _ _ _ _ _ ("len") _ call_qLen (by rfl) T.z_len (by decide +kernel) (@pa_c _ _ _ _ _ (@pvN _ 3 _ _ (by rfl) (by trivial) (by decide) (by decide)) (@pa_nil _) (by rfl)) (by decide) (by decide) (by rfl) (by rfl)) (@pe_int _ _ _ _) (nomark _)) (@pw_and _ _ _ _ _ _ _ (@pt_cmpRN _ _ _ _ _ _ _ _ (op_qEq hr.units) (@pe_ix _ _ _ _ _ _ _ ix_q (@pvN _ 3 _ _ (by rfl) (by trivial) (by decide) (by decide)) (@pe_int _ _ _ _) (fun _ _=>rfl)) (@pe_str _ _ _ _) (nomark _)) (@pw_and1 _ _ _ _ (@pt_valN _ _ _ (@pe_call _ _ _ _ _ _ _ _ _ _ _ _ _ _ _ _ G__law_rest (hr.mono (by decide)) (by rfl) T.m__law_rest T.F__law_rest.kp T.b__law_rest .nil pass0 (@pa_c _ _ _ _ _ (@pvN _ 0 _ _ (by rfl) (by trivial) (by decide) (by decide)) (@pa_c _ _ _ _ _ (@pvN _ 1 _ _ (by rfl) (by trivial) (by decide) (by decide)) (@pa_c _ _ _ _ _ (@pvN _ 2 _ _ (by rfl) (by trivial) (by decide) (by decide)) (@pa_c _ _ _ _ _ (@pe_ix _ _ _ _ _ _ _ ix_q (@pvN _ 3 _ _ (by rfl) (by trivial) (by decide) (by decide)) (@pe_int _ _ _ _) (fun _ _=>rfl)) (@pa_nil _) (by rfl)) (by rfl)) (by rfl)) (by rfl)) (by decide) (by rfl) (by rfl)) (by intros;rfl)))))) (@pss_one _ _ _ (@ps_ret _ _ _ _ (@pe_qLst _ _ _ _ (@pa_nil _)))) (@pss_nil _)) (@pss_cons _ _ _ _ _ (@ps_if _ _ _ _ _ _ _ _ (PW.pt (@pw_or _ _ _ _ _ _ _ (@pt_cmpRN _ _ _ _ _ _ _ _ on_lt (@pe_callB _ _ _ _ _ _ _ ("len") _ call_qLen (by rfl) T.z_len (by decide +kernel) (@pa_c _ _ _ _ _ (@pvN _ 3 _ _ (by rfl) (by trivial) (by decide) (by decide)) (@pa_nil _) (by rfl)) (by decide) (by decide) (by rfl) (by rfl)) (@pe_int _ _ _ _) (nomark _)) (@pw_or _ _ _ _ _ _ _ (@pt_cmpRN _ _ _ _ _ _ _ _ (op_qNe hr.units) (@pe_ix _ _ _ _ _ _ _ ix_q (@pvN _ 3 _ _ (by rfl) (by trivial) (by decide) (by decide)) (@pe_int _ _ _ _) (fun _ _=>rfl)) (@pe_str _ _ _ _) (nomark _)) (@pw_or _ _ _ _ _ _ _ (@pt_not _ _ _ _ (@pt_valN _ _ _ (@pe_call _ _ _ _ _ _ _ _ _ _ _ _ _ _ _ _ G__law_whole (hr.mono (by decide)) (by rfl) T.m__law_whole T.F__law_whole.kp T.b__law_whole .nil pass0 (@pa_c _ _ _ _ _ (@pe_ix _ _ _ _ _ _ _ ix_q (@pvN _ 3 _ _ (by rfl) (by trivial) (by decide) (by decide)) (@pe_int _ _ _ _) (fun _ _=>rfl)) (@pa_nil _) (by rfl)) (by decide) (by rfl) (by rfl)) (by intros;rfl))) (@pw_or1 _ _ _ _ (@pt_not _ _ _ _ (@pt_valN _ _ _ (@pe_call _ _ _ _ _ _ _ _ _ _ _ _ _ _ _ _ G__law_whole (hr.mono (by decide)) (by rfl) T.m__law_whole T.F__law_whole.kp T.b__law_whole .nil pass0 (@pa_c _ _ _ _ _ (@pe_ix _ _ _ _ _ _ _ ix_q (@pvN _ 3 _ _ (by rfl) (by trivial) (by decide) (by decide)) (@pe_int _ _ _ _) (fun _ _=>rfl)) (@pa_nil _) (by rfl)) (by decide) (by rfl) (by rfl)) (by intros;rfl)))))))) (@pss_one _ _ _ (@ps_ret _ _ _ _ (@pe_non _ _ _))) (@pss_nil _)) (@pss_cons _ _ _ _ _ (@ps_asg _ _ _ _ _ _ (@pvN _ 3 _ _ (by rfl) (by trivial) (by decide) (by decide)) ((@pg_tup _ _ _ _ _ (3) rfl (@pgs_consN _ _ _ _ _ (@pg_name _ _ (6) _ c__law_behind.nd rfl (Or.inl rfl) (by trivial)) (@pgs_consN _ _ _ _ _ (@pg_name _ _ (7) _ c__law_behind.nd rfl (Or.inl rfl) (by trivial)) (@pgs_consN _ _ _ _ _ (@pg_name _ _ (8) _ c__law_behind.nd rfl (Or.inl rfl) (by trivial)) (@pgs_nilN _) (by rfl)) (by rfl)) (by rfl)) (by rfl) (by rfl)).mono fun _ _ _ _ h=>gTup_q h) (by rfl) (by rfl) (by rfl)) (@pss_cons _ _ _ _ _ (@ps_if _ _ _ _ _ _ _ _ (PW.pt (@pw_or _ _ _ _ _ _ _ (@pt_not _ _ _ _ (@pt_chainN _ _ _ _ _ _ _ _ _ _ _ _ on_le on_lt (@pe_int _ _ _ _) (@pvN _ 7 _ _ (by rfl) (by trivial) (by decide) (by decide)) (@pe_callB _ _ _ _ _ _ _ ("len") _ call_qLen (by rfl) T.z_len (by decide +kernel) (@pa_c _ _ _ _ _ (@pvN _ 0 _ _ (by rfl) (by trivial) (by decide) (by decide)) (@pa_nil _) (by rfl)) (by decide) (by decide) (by rfl) (by rfl)) (by rfl))) (@pw_or1 _ _ _ _ (@pt_not _ _ _ _ (@pt_chainN _ _ _ _ _ _ _ _ _ _ _ _ on_le on_lt (@pe_ix _ _ _ _ _ _ _ ix_q (@pe_ix _ _ _ _ _ _ _ ix_q (@pvN _ 2 _ _ (by rfl) (by trivial) (by decide) (by decide)) (@pvN _ 7 _ _ (by rfl) (by trivial) (by decide) (by decide)) (fun _ _=>rfl)) (@pe_int _ _ _ _) (fun _ _=>rfl)) (@pvN _ 8 _ _ (by rfl) (by trivial) (by decide) (by decide)) (@pe_ix _ _ _ _ _ _ _ ix_q (@pe_ix _ _ _ _ _ _ _ ix_q (@pvN _ 2 _ _ (by rfl) (by trivial) (by decide) (by decide)) (@pvN _ 7 _ _ (by rfl) (by trivial) (by decide) (by decide)) (fun _ _=>rfl)) (@pe_int _ _ _ _) (fun _ _=>rfl)) (by rfl)))))) (@pss_one _ _ _ (@ps_ret _ _ _ _ (@pe_non _ _ _))) (@pss_nil _)) (@pss_one _ _ _ (@ps_ret _ _ _ _ (@pe_qLst _ _ _ _ (@pa_c _ _ _ _ _ (@pe_op _ _ _ _ _ _ _ _ op_nCat (@pe_op _ _ _ _ _ _ _ _ op_nCat (@pe_slice _ _ _ _ _ _ _ _ _ _ sl_n (@pvN _ 2 _ _ (by rfl) (by trivial) (by decide) (by decide)) (@po_none _) (@po_some _ _ _ (@pvN _ 7 _ _ (by rfl) (by trivial) (by decide) (by decide)))) (@pe_qLst _ _ _ _ (@pa_c _ _ _ _ _ (@pe_qTup _ _ _ _ _ (@pa_c _ _ _ _ _ (@pe_op _ _ _ _ _ _ _ _ on_add (@pvN _ 8 _ _ (by rfl) (by trivial) (by decide) (by decide)) (@pe_int _ _ _ _)) (@pa_c _ _ _ _ _ (@pe_ix _ _ _ _ _ _ _ ix_q (@pe_ix _ _ _ _ _ _ _ ix_q (@pvN _ 2 _ _ (by rfl) (by trivial) (by decide) (by decide)) (@pvN _ 7 _ _ (by rfl) (by trivial) (by decide) (by decide)) (fun _ _=>rfl)) (@pe_int _ _ _ _) (fun _ _=>rfl)) (@pa_nil _) (by rfl)) (by rfl))) (@pa_nil _) (by rfl)))) (@pe_slice _ _ _ _ _ _ _ _ _ _ sl_n (@pvN _ 2 _ _ (by rfl) (by trivial) (by decide) (by decide)) (@po_some _ _ _ (@pe_op _ _ _ _ _ _ _ _ on_add (@pvN _ 7 _ _ (by rfl) (by trivial) (by decide) (by decide)) (@pe_int _ _ _ _))) (@po_none _))) (@pa_c _ _ _ _ _ (@pe_op _ _ _ _ _ _ _ _ op_nCat (@pe_op _ _ _ _ _ _ _ _ op_nCat (@pe_slice _ _ _ _ _ _ _ _ _ _ sl_n (@pvN _ 2 _ _ (by rfl) (by trivial) (by decide) (by decide)) (@po_none _) (@po_some _ _ _ (@pvN _ 7 _ _ (by rfl) (by trivial) (by decide) (by decide)))) (@pe_qLst _ _ _ _ (@pa_c _ _ _ _ _ (@pe_qTup _ _ _ _ _ (@pa_c _ _ _ _ _ (@pe_ix _ _ _ _ _ _ _ ix_q (@pe_ix _ _ _ _ _ _ _ ix_q (@pvN _ 2 _ _ (by rfl) (by trivial) (by decide) (by decide)) (@pvN _ 7 _ _ (by rfl) (by trivial) (by decide) (by decide)) (fun _ _=>rfl)) (@pe_int _ _ _ _) (fun _ _=>rfl)) (@pa_c _ _ _ _ _ (@pvN _ 8 _ _ (by rfl) (by trivial) (by decide) (by decide)) (@pa_nil _) (by rfl)) (by rfl))) (@pa_nil _) (by rfl)))) (@pe_slice _ _ _ _ _ _ _ _ _ _ sl_n (@pvN _ 2 _ _ (by rfl) (by trivial) (by decide) (by decide)) (@po_some _ _ _ (@pe_op _ _ _ _ _ _ _ _ on_add (@pvN _ 7 _ _ (by rfl) (by trivial) (by decide) (by decide)) (@pe_int _ _ _ _))) (@po_none _))) (@pa_nil _) (by rfl)) (by rfl)))))))))))),?_⟩
  rw [show start ["_law_terms_here", "_law_goal_here", "_law_case", "_law_step", "_law_least", "_law_greatest", "_law_word", "_law_k", "_law_at"] [.ref p,.int g,.ref q,.ref x]=[some (.ref p),some (.int g),some (.ref q),some (.ref x),none,none,none,none,none] from rfl]
  clear G__law_sums G__law_whole G__law_rest
  have h17:=ht.len
  have hcl:=hc.len
  replace k:=fun (_:Unit)=>k
  replace hcl:=fun (_:Unit)=>hcl
  have so1:PyData.strOk (Str.ofString "low")=true:=by decide +kernel
  have so2:PyData.strOk (Str.ofString "high")=true:=by decide +kernel
  have so3:PyData.strOk (Str.ofString "rest")=true:=by decide +kernel
  have so4:PyData.strOk (Str.ofString "part")=true:=by decide +kernel
  have sq1:(Str.ofString "low" == Str.ofString "low")=true:=by decide +kernel
  have sq2:(Str.ofString "high" == Str.ofString "high")=true:=by decide +kernel
  have sq3:(Str.ofString "high" == Str.ofString "low")=false:=by decide +kernel
  have sq4:(Str.ofString "rest" == Str.ofString "low")=false:=by decide +kernel
  have sq5:(Str.ofString "rest" == Str.ofString "high")=false:=by decide +kernel
  have sq6:(Str.ofString "part" == Str.ofString "low")=false:=by decide +kernel
  have sq7:(Str.ofString "part" == Str.ofString "high")=false:=by decide +kernel
  have sq8:(Str.ofString "rest" == Str.ofString "rest")=true:=by decide +kernel
  have sq9:(Str.ofString "part" == Str.ofString "part")=true:=by decide +kernel
  rcases hs with ⟨rfl,hs,rfl⟩|⟨rfl,hs,rfl⟩|⟨d,rfl,hd,hdv,hs,rfl⟩|⟨m,a,rfl,hm,ha1,ha2,hs,rfl⟩
  ·simp! only [and_true]
   rw [c_spKSums]
   refine ⟨zs,cs,hp,hq,ht,hcl (),fun r1 H1 e1 h1=>?_⟩
   have hx1:=e1.at hx
   simp! only [and_true]
   intro t2 H2 _ e2 h2
   have hx2:=e2.at hx1
   clear hx hx1 hp hq
   simp! only [and_true]
   intro r3 H3 _ e3 h3
   exact k () r3 [] H3 (e1.trans (e2.trans e3)) h3 Al.nil
  ·simp! only [and_true]
   rw [c_spKSums]
   refine ⟨zs,cs,hp,hq,ht,hcl (),fun r1 H1 e1 h1=>?_⟩
   have hx1:=e1.at hx
   simp! only [and_true]
   intro t2 H2 _ e2 h2
   have hx2:=e2.at hx1
   clear hx hx1 hp hq
   simp! only [and_true]
   intro t3 H3 _ e3 h3
   have hx3:=e3.at hx2
   clear hx2 h2
   simp! only [and_true]
   intro r4 H4 _ e4 h4
   exact k () r4 [] H4 (e1.trans (e2.trans (e3.trans e4))) h4 Al.nil
  ·simp! only [and_true]
   rw [c_spKSums]
   refine ⟨zs,cs,hp,hq,ht,hcl (),fun r1 H1 e1 h1=>?_⟩
   have hx1:=e1.at hx
   replace hdv:=fun (_:Unit)=>hdv
   simp! only [and_true]
   intro t2 H2 _ e2 h2
   have hx2:=e2.at hx1
   clear hx hx1
   simp! only [and_true]
   intro t3 H3 _ e3 h3
   have hx3:=e3.at hx2
   have e03:=e1.trans (e2.trans e3)
   clear hx2 h2
   simp! only [and_true]
   rw [c_spKRest]
   refine ⟨zs,cs,tr_ext hp e03,pr_ext hq e03,ht,hc,hd,hdv (),hs,fun H4 e4=>?_⟩
   simp! only [and_true]
   intro r5 H5 _ e5 h5
   exact k () r5 [] H5 (e03.trans (e4.trans e5)) h5 Al.nil
  ·simp! only [and_true]
   rw [c_spKSums]
   refine ⟨zs,cs,hp,hq,ht,hcl (),fun r1 H1 e1 h1=>?_⟩
   have hx1:=e1.at hx
   simp! only [and_true]
   intro t2 H2 _ e2 h2
   have hx2:=e2.at hx1
   clear hx hx1
   simp! only [and_true]
   intro t3 H3 _ e3 h3
   have hx3:=e3.at hx2
   have e03:=e1.trans (e2.trans e3)
   obtain ⟨ts,hp3,al⟩:=tr_ext hp e03
   obtain ⟨xs,hq3,bl⟩:=pr_ext hq e03
   have htl:ts.length=zs.length:=al.1
   have hxl:xs.length=cs.length:=bl.1
   have hmc:m < cs.length:=by have:=hcl ();omega
   obtain ⟨y,hat,hy⟩:=pr_get bl hmc
   rw [Int.zero_add] at hat
   have hm0:(0:Int)≤(m:Int):=by omega
   have hm1:(m:Int) < (zs.length:Int):=by omega
   generalize hci:cs.getD m default=ci at *
   replace bl:=fun (_:Unit)=>bl
   replace al:=fun (_:Unit)=>al
   replace hci:=fun (_:Unit)=>hci
   clear hx2 h2 hp hq
   have c1:cutV xs none (some (m:Int))=xs.take m:=by rw [cut_none _ _ hm0,Int.toNat_natCast]
   have c2:cutV xs (some ((m:Int)+1)) none=xs.drop (m+1):=by rw [cut_some _ _ (by omega),show ((m:Int)+1).toNat=m+1 by omega]
   have ln1:(xs.take m).length≤17:=by rw [List.length_take];have:=hcl ();omega
   have ln2:(xs.drop (m+1)).length≤17:=by rw [List.length_drop];have:=hcl ();omega
   simp! only [↓c_spWhole]
   intro p4 H4 _ e4 h4
   have hq4:=e4.at hq3
   have hy4:=e4.at hy
   clear hq3 hy hp3 hx3
   simp! only [and_true]
   intro t5 H5 _ e5 h5
   have h4_5:=e5.at h4
   have hq5:=e5.at hq4
   have hy5:=e5.at hy4
   clear h4 hq4 hy4
   simp! only [and_true]
   intro l6 H6 _ e6 h6
   have h4_6:=e6.at h4_5
   have h5_6:=e6.at h5
   have hq6:=e6.at hq5
   have hy6:=e6.at hy5
   clear h4_5 h5 hq5 hy5
   refine use_cat h4_6 h6 (len5000 (by simp only [List.length_cons,List.length_nil];omega)) ?_
   intro l7 H7 _ e7 h7
   have h5_7:=e7.at h5_6
   have hq7:=e7.at hq6
   have hy7:=e7.at hy6
   clear h4_6 h5_6 hq6 hy6 h6
   simp! only [and_true]
   intro l8 H8 _ e8 h8
   have h7_8:=e8.at h7
   refine use_cat h7_8 h8 (len5000 (by simp only [List.length_append,List.length_cons,List.length_nil];omega)) ?_
   rw [take_set (by omega)]
   intro l9 H9 hl9 e9 h9
   have e39:=e4.trans (e5.trans (e6.trans (e7.trans (e8.trans e9))))
   have hl9_0:H l9=none:=e03.free ((e4.trans (e5.trans (e6.trans (e7.trans e8)))).free hl9)
   have h5_9:=(e8.trans e9).at h5_7
   have hq9:=(e8.trans e9).at hq7
   have hy9:=(e8.trans e9).at hy7
   clear h7 h8 h7_8 h5_7 hq7 hy7 e4 e5 e6 e7 e8 e9 hl9
   simp! only [and_true]
   intro p4 H4 _ e4 h4
   have hq4:=e4.at hq9
   have hy4:=e4.at hy9
   clear hq9 hy9
   simp! only [and_true]
   intro t5' H5 _ e5 h5
   have h4_5:=e5.at h4
   have hq5:=e5.at hq4
   clear h4 hq4 hy4
   simp! only [and_true]
   intro l6 H6 _ e6 h6
   have h4_6:=e6.at h4_5
   have h5_6:=e6.at h5
   have hq6:=e6.at hq5
   clear h4_5 h5 hq5
   refine use_cat h4_6 h6 (len5000 (by simp only [List.length_cons,List.length_nil];omega)) ?_
   intro l7 H7 _ e7 h7
   have h5_7:=e7.at h5_6
   have hq7:=e7.at hq6
   clear h4_6 h5_6 hq6 h6
   simp! only [and_true]
   intro l8 H8 _ e8 h8
   have h7_8:=e8.at h7
   refine use_cat h7_8 h8 (len5000 (by simp only [List.length_append,List.length_cons,List.length_nil];omega)) ?_
   rw [take_set (by omega)]
   intro l10 H10 hl10 e9 h10
   have e310:=e39.trans (e4.trans (e5.trans (e6.trans (e7.trans (e8.trans e9)))))
   have hl10_0:H l10=none:=(e03.trans e39).free ((e4.trans (e5.trans (e6.trans (e7.trans e8)))).free hl10)
   have h9_10:=(e4.trans (e5.trans (e6.trans (e7.trans (e8.trans e9))))).at h9
   have h59_10:=(e4.trans (e5.trans (e6.trans (e7.trans (e8.trans e9))))).at h5_9
   have h5_10:=(e8.trans e9).at h5_7
   clear h7 h8 h7_8 h5_7 hq7 e4 e5 e6 e7 e8 e9 hl10 h9 h5_9
   simp! only [and_true]
   intro r11 H11 _ e11 h11
   have blN:=(bl ()).imp fun _ _ t=>axP.ext t (e310.trans e11)
   have u1:PrAt H11 l9 (upC cs m a):=⟨_,e11.at h9_10,by unfold upC;rw [hci ()];exact al_set blN ⟨t5,rfl,e11.at h59_10⟩⟩
   have u2:PrAt H11 l10 (loC cs m a):=⟨_,e11.at h10,by unfold loC;rw [hci ()];exact al_set blN ⟨t5',rfl,e11.at h5_10⟩⟩
   exact k () r11 _ H11 (e03.trans (e310.trans e11)) h11 (Al.cons' ⟨l9,rfl,hl9_0,u1⟩ (Al.cons' ⟨l10,rfl,hl10_0,u2⟩ Al.nil))
theorem Rep.len {zs:List Tm3}{g:Int}:∀ {p:List (List V)}{st:List Bx},Rep zs g st p []->st.length≤p.length
 | [],st,h=>by
  have e:st=[]:=by cases st<;>exact h
  rw [e];exact Nat.le_refl _
 | _::_,[],h=>h.elim
 | _::p,c::st,⟨m,h1,h2,h3⟩=>by
  have:=Rep.len h3
  rw [List.length_append] at this
  rw [List.length_cons,List.length_cons]
  omega
def BxA (H:Hp) (c:Bx) (y:V):Prop:=∃ a,y=.ref a∧PrAt H a c
theorem StkV.al {H:Hp}{cA pA:Addr}:∀ {st:List Bx}{cl:List V},StkV H cA pA st cl->Al (BxA H) st.reverse cl
 | [],cl,h=>by have h':cl=[]:=h;rw [h'];exact Al.nil
 | c::st,cl,⟨cl0,y,h1,⟨a,h2,_,_,h5⟩,h3⟩=>by
  rw [h1,List.reverse_cons]
  exact al_app' (StkV.al h3) (Al.cons' ⟨a,h2,h5⟩ Al.nil)
theorem prs_all {H:Hp}{f:V->Option PyData}:∀ {cs:List Bx}{ys:List V},Al (BxA H) cs ys->allSome (ys.map (datF H (datF H (datF H f))))=some (cs.map fun c=>PyData.list ((c.map fun z=>[z.1,z.2]).map fun z=>PyData.tuple (z.map PyData.int)))
 | [],ys,h=>by
  have:ys=[]:=List.length_eq_zero_iff.mp h.1
  rw [this];rfl
 | c::cs,[],h=>by have:=h.1;simp at this
 | c::cs,y::ys,h=>by
  obtain ⟨a,rfl,ts,h1,h2⟩:=h.2 0 c y rfl rfl
  have ih:=prs_all (H:=H) (f:=f) (cs:=cs) (ys:=ys) ⟨by have:=h.1;simpa using this,fun i z x hz hx=>h.2 (i+1) z x (by simpa using hz) (by simpa using hx)⟩
  have e1:datF H (datF H (datF H f)) (.ref a)=some (PyData.list ((c.map fun z=>[z.1,z.2]).map fun z=>PyData.tuple (z.map PyData.int))):=by
   rw [m_datF_ref,h1]
   show datO (datF H (datF H f)) (.lst ts)=_
   rw [m_datO_lst,tups_all (al_pr h2)];rfl
  rw [List.map_cons,e1,m_allSome_cons,ih];rfl
theorem prs_ne {H:Hp}{f:V->Option PyData}{cs:List Bx}{ys:List V}(h:Al (BxA H) cs ys) (hn:0 < cs.length):∃ d ds,allSome (ys.map (datF H (datF H (datF H f))))=some (d::ds):=by
 rw [prs_all h]
 cases cs with
 | nil=>simp at hn
 | cons c cs=>exact ⟨_,_,rfl⟩
theorem StkV.re {H:Hp}{cA pA cB:Addr}(hb:H cB=none):∀ {st:List Bx}{cl:List V},StkV H cA pA st cl->StkV H cB cB st cl
 | [],_,h=>h
 | _::_,_,⟨cl0,y,h1,⟨a,h2,_,_,h5⟩,h3⟩=>by
  have n:a ≠ cB:=fun e=>by obtain ⟨_,h,_⟩:=h5;rw [e,hb] at h;cases h
  exact ⟨cl0,y,h1,⟨a,h2,n,n,h5⟩,StkV.re hb h3⟩
theorem StkV.cat {H0 H:Hp}{cA cB:Addr}{more st:List Bx}{cl ys:List V}(hs:StkV H cA cA st cl) (hm:BehV H0 H more ys) (hmm:more=[]∨∃ a b,more=[a,b]) (hb:H cB=none):StkV H cB cB (more++st) (cl++ys):=by
 have hs':=hs.re hb
 rcases hmm with rfl|⟨a,b,rfl⟩
 ·have:ys=[]:=List.length_eq_zero_iff.mp hm.1
  rw [this,List.append_nil];exact hs'
 ·have hl:ys.length=2:=hm.1
  obtain ⟨y1,y2,rfl⟩:∃ y1 y2,ys=[y1,y2]:=by
   match ys,hl with
   | [y1,y2],_=>exact ⟨y1,y2,rfl⟩
  obtain ⟨a1,h1,_,p1⟩:=hm.2 0 b y1 rfl rfl
  obtain ⟨a2,h2,_,p2⟩:=hm.2 1 a y2 rfl rfl
  have n1:a1 ≠ cB:=fun e=>by obtain ⟨_,h,_⟩:=p1;rw [e,hb] at h;cases h
  have n2:a2 ≠ cB:=fun e=>by obtain ⟨_,h,_⟩:=p2;rw [e,hb] at h;cases h
  exact ⟨cl++[y1],y2,by rw [List.append_assoc];rfl,⟨a2,h2,n2,n2,p2⟩,cl,y1,rfl,⟨a1,h1,n1,n1,p1⟩,hs'⟩
theorem BehV.al {H0 H:Hp}{more:List Bx}{ys:List V}(h:BehV H0 H more ys):Al (BxA H) more.reverse ys:=⟨h.1,fun i z y hz hy=>(let ⟨a,h1,_,h3⟩:=h.2 i z y hz hy;⟨a,h1,h3⟩)⟩
theorem StepOk.more {zs:List Tm3}{g:Int}{c:Bx}{s:List V}{more:List Bx}(h:StepOk zs g c s more):more=[]∨(ended zs c g=false∧∃ a b,more=[a,b]):=by
 rcases h with ⟨_,_,h⟩|⟨_,_,h⟩|⟨_,_,_,_,_,h⟩|⟨_,_,_,_,_,_,e,h⟩
 ·exact .inl h
 ·exact .inl h
 ·exact .inl h
 ·exact .inr ⟨e,_,_,h⟩
abbrev B_spKLeft  (p:Addr) (g:Int) (x:Addr) (H:Hp) (Q:VK) (E:XK):Prop:=∃ (zs:List Tm3) (pp:List (List V)),TrAt H p zs∧TmsOk zs∧PapAt H x pp∧pp.length≤4000∧Rep zs g [zs.map fun z=>z.2] pp []∧∀ (r:Addr) (H':Hp),Ext H H'->H' r=some (.lst [])->Q (.ref r) H'
def spKLeft  : Sp:=fun vs H Q E=>∃ (p:Addr) (g:Int) (x:Addr),vs=[.ref p,.int g,.ref x,.bl true]∧(B_spKLeft  p g x H Q E)
theorem c_spKLeft  (p:Addr) (g:Int) (x:Addr) (H:Hp) (Q:VK) (E:XK):spKLeft  [.ref p,.int g,.ref x,.bl true] H Q E=(B_spKLeft  p g x H Q E):=spx3 (f:=fun (p:Addr) (g:Int) (x:Addr)=>[.ref p,.int g,.ref x,.bl true]) (fun _ _ _ _ _ _ h=>by cases h;exact ⟨rfl,rfl,rfl⟩) p g x
theorem l_spKLeft  {vs:List V}{H:Hp}{Q:VK}{E:XK}(h:spKLeft  vs H Q E):vs.length=4:=spl3 h fun _ _ _=>rfl
theorem ok__law_left (T:Tx K mg t):FnOk P w K mg base CX0 4 t.a__law_left t.d__law_left ["_law_terms_here", "_law_goal_here", "_law_paper", "_law_bare"] spKLeft:=by
 have G__law_behind:=ok__law_behind (P:=P) (w:=w) (base:=base) T
 have G__law_ended:=ok__law_ended (P:=P) (w:=w) (base:=base) T
 refine T.F__law_left.ok c__law_left (fun vs H Q E h=>l_spKLeft h) (fun cdv A outer s H vs Q E hr h=>?_)
 ·obtain ⟨p,g,x,rfl,zs,pp,⟨ts,hp,al⟩,ht,⟨ys,hx,pl⟩,hpl,rep,k⟩:=h
  refine ⟨_,(@pss_cons _ _ _ _ _ (@ps_set _ _ (4) _ _ _ _ c__law_left.nd rfl (Or.inl rfl) (@pe_qLst _ _ _ _ (@pa_c _ _ _ _ _ (@pe_comp _ _ _ _ _ _ _ _ _ _ _ (["_law_times", "_law_low", "_law_high", "_law_terms_here", "_law_goal_here", "_law_paper", "_law_bare", "_law_cases", "_law_step", "_law_case", "_law_more"]) (3) (comp_ok (defScope s__law_left) ["_law_terms_here", "_law_goal_here", "_law_paper", "_law_bare", "_law_cases", "_law_step", "_law_case", "_law_more"] rfl rfl (by decide +kernel)) rfl (@pi_seq _ _ _ _ (@pvN _ 0 _ _ (by rfl) (by trivial) (by decide) (by decide))) (fun C s₀ H₀ ex pn=>((@pg_tup _ _ _ _ _ (3) rfl (@pgs_consN _ _ _ _ _ (@pg_name _ _ (0) _ (show List.Nodup (["_law_times", "_law_low", "_law_high", "_law_terms_here", "_law_goal_here", "_law_paper", "_law_bare", "_law_cases", "_law_step", "_law_case", "_law_more"]:List Str) from by decide +kernel) rfl (Or.inl rfl) (by trivial)) (@pgs_consN _ _ _ _ _ (@pg_name _ _ (1) _ (show List.Nodup (["_law_times", "_law_low", "_law_high", "_law_terms_here", "_law_goal_here", "_law_paper", "_law_bare", "_law_cases", "_law_step", "_law_case", "_law_more"]:List Str) from by decide +kernel) rfl (Or.inl rfl) (by trivial)) (@pgs_consN _ _ _ _ _ (@pg_name _ _ (2) _ (show List.Nodup (["_law_times", "_law_low", "_law_high", "_law_terms_here", "_law_goal_here", "_law_paper", "_law_bare", "_law_cases", "_law_step", "_law_case", "_law_more"]:List Str) from by decide +kernel) rfl (Or.inl rfl) (by trivial)) (@pgs_nilN _) (by rfl)) (by rfl)) (by rfl)) (by rfl) (by rfl)).mono fun _ _ _ _ h=>gTup_q h)) (fun C s₀ H₀ ex pn=>(@pts_nil _)) (fun C s₀ H₀ ex pn=>(@pe_qTup _ _ _ _ _ (@pa_c _ _ _ _ _ (@pvN _ 1 _ _ (by rfl) (by trivial) (by decide) (by decide)) (@pa_c _ _ _ _ _ (@pvN _ 2 _ _ (by rfl) (by trivial) (by decide) (by decide)) (@pa_nil _) (by rfl)) (by rfl)))) (by intros;rfl)) (@pa_nil _) (by rfl))) (by rfl) (by trivial)) (@pss_cons _ _ _ _ _ (@ps_for _ _ _ _ _ _ _ _ PassesOwn.never rfl (@pi_seq _ _ _ _ (@pvN _ 2 _ _ (by rfl) (by trivial) (by decide) (by decide))) (@pg_name _ _ (5) _ c__law_left.nd rfl (Or.inl rfl) (by trivial)) (@pss_cons _ _ _ _ _ (@ps_if _ _ _ _ _ _ _ _ (@pt_cmpRN _ _ _ _ _ _ _ _ (op_qEq hr.units) (@pvN _ 4 _ _ (by rfl) (by trivial) (by decide) (by decide)) (@pe_qLst _ _ _ _ (@pa_nil _)) (nomark _)) (@pss_one _ _ _ (@ps_ret _ _ _ _ (@pe_non _ _ _))) (@pss_nil _)) (@pss_cons _ _ _ _ _ (@ps_set _ _ (6) _ _ _ _ c__law_left.nd rfl (Or.inl rfl) (@pe_bm0 _ _ _ _ _ _ _ _ _ PySem.F.plainAttrs_list PySem.F.slot_list_pop PySem.F.type_list_pop mt_pop (@pvN _ 4 _ _ (by rfl) (by trivial) (by decide) (by decide)) (by rfl) (by rfl)) (by rfl) (by trivial)) (@pss_cons _ _ _ _ _ (@ps_set _ _ (7) _ _ _ _ c__law_left.nd rfl (Or.inl rfl) (@pe_call _ _ _ _ _ _ _ _ _ _ _ _ _ _ _ _ G__law_behind (hr.mono (by decide)) (by rfl) T.m__law_behind T.F__law_behind.kp T.b__law_behind .nil pass0 (@pa_c _ _ _ _ _ (@pvN _ 0 _ _ (by rfl) (by trivial) (by decide) (by decide)) (@pa_c _ _ _ _ _ (@pvN _ 1 _ _ (by rfl) (by trivial) (by decide) (by decide)) (@pa_c _ _ _ _ _ (@pvN _ 6 _ _ (by rfl) (by trivial) (by decide) (by decide)) (@pa_c _ _ _ _ _ (@pvN _ 5 _ _ (by rfl) (by trivial) (by decide) (by decide)) (@pa_nil _) (by rfl)) (by rfl)) (by rfl)) (by rfl)) (by decide) (by rfl) (by rfl)) (by rfl) (by trivial)) (@pss_cons _ _ _ _ _ (@ps_if _ _ _ _ _ _ _ _ (PW.pt (@pw_or _ _ _ _ _ _ _ (@pt_cmpRN _ _ _ _ _ _ _ _ op_qIs (@pvN _ 7 _ _ (by rfl) (by trivial) (by decide) (by decide)) (@pe_non _ _ _) (nomark _)) (@pw_or1 _ _ _ _ (PW.pt (@pw_and _ _ _ _ _ _ _ (@pt_valN _ _ _ (@pvN _ 3 _ _ (by rfl) (by trivial) (by decide) (by decide)) (by intros;rfl)) (@pw_and _ _ _ _ _ _ _ (@pt_cmpRN _ _ _ _ _ _ _ _ (op_qNe hr.units) (@pvN _ 7 _ _ (by rfl) (by trivial) (by decide) (by decide)) (@pe_qLst _ _ _ _ (@pa_nil _)) (nomark _)) (@pw_and1 _ _ _ _ (@pt_valN _ _ _ (@pe_call _ _ _ _ _ _ _ _ _ _ _ _ _ _ _ _ G__law_ended (hr.mono (by decide)) (by rfl) T.m__law_ended T.F__law_ended.kp T.b__law_ended .nil pass0 (@pa_c _ _ _ _ _ (@pvN _ 0 _ _ (by rfl) (by trivial) (by decide) (by decide)) (@pa_c _ _ _ _ _ (@pvN _ 1 _ _ (by rfl) (by trivial) (by decide) (by decide)) (@pa_c _ _ _ _ _ (@pvN _ 6 _ _ (by rfl) (by trivial) (by decide) (by decide)) (@pa_nil _) (by rfl)) (by rfl)) (by rfl)) (by decide) (by rfl) (by rfl)) (by intros;rfl))))))))) (@pss_one _ _ _ (@ps_ret _ _ _ _ (@pe_non _ _ _))) (@pss_nil _)) (@pss_one _ _ _ (@ps_set _ _ (4) _ _ _ _ c__law_left.nd rfl (Or.inl rfl) (@pe_op _ _ _ _ _ _ _ _ op_nCat (@pvN _ 4 _ _ (by rfl) (by trivial) (by decide) (by decide)) (@pvN _ 7 _ _ (by rfl) (by trivial) (by decide) (by decide))) (by rfl) (by trivial))))))) (by intros;rfl)) (@pss_one _ _ _ (@ps_ret _ _ _ _ (@pvN _ 4 _ _ (by rfl) (by trivial) (by decide) (by decide)))))),?_⟩
  rw [show start ["_law_terms_here", "_law_goal_here", "_law_paper", "_law_bare", "_law_cases", "_law_step", "_law_case", "_law_more"] [.ref p,.int g,.ref x,.bl true]=[some (.ref p),some (.int g),some (.ref x),some (.bl true),none,none,none,none] from rfl]
  clear G__law_behind G__law_ended
  have h17:=ht.len
  have hyl:ys.length=pp.length:=pl.1
  have wk:=wk_al (K:=K) (R:=trP) (fun _ _ _ _ h e=>h.ext e) hp al
  replace k:=fun (_:Unit)=>k
  replace pl:=fun (_:Unit)=>pl
  replace rep:=fun (_:Unit)=>rep
  replace hyl:=fun (_:Unit)=>hyl
  have htr:TrAt H p zs:=⟨ts,hp,al⟩
  simp! only [and_true]
  refine comp_rel2 zs (fun _=>true) trP (fun D z y H'=>axP z.2 y H') wk.1 wk.2 (fun D z y H1 H2 h e=>axP.ext (a:=z.2) h e) (fun D z y H1 xs o h hD=>axP.upd (z:=z.2) h hD) (len5000 (by omega)) ?_ ?_
  ·intro D z y H' N1 N0 hz hD e _ ⟨q,hy,hq⟩ k1 _
   subst hy
   have k1':=k1 rfl
   clear k1 k wk rep pl hx hp htr
   simp! only [↓m_kCm_3,↓m_kCm2]
   intro t1 H6 ht1 e6 h6
   exact k1' _ H6 e6 ⟨t1,rfl,h6⟩
  intro D zs2 H2 hD e2 h2 al2
  rw [filt] at al2
  have pr2:PrAt H2 D (zs.map fun z=>z.2):=⟨zs2,h2,al_mapR al2⟩
  clear al2 wk hD
  simp! only [and_true]
  intro c3 H3 hc3 e3 h3
  have hc30:H c3=none:=e2.free hc3
  have st3:StkV H3 c3 c3 [zs.map fun z=>z.2] [.ref D]:=by
   have n:D ≠ c3:=fun e=>by rw [e,hc3] at h2;cases h2
   exact ⟨[],.ref D,rfl,⟨D,rfl,n,n,pr_ext pr2 e3⟩,rfl⟩
  have e03:=e2.trans e3
  have hx3:=e03.at hx
  clear hc3 pr2 h2 e2 e3
  simp! only [and_true]
  refine for_lst (xs:=ys) (fun i σ H'=>∃ (st:List Bx) (ca:Addr) (cl:List V) (v5 v6 v7:Option V),σ=[some (.ref p),some (.int g),some (.ref x),some (.bl true),some (.ref ca),v5,v6,v7]∧Ext H H'∧H ca=none∧H' ca=some (.lst cl)∧StkV H' ca ca st cl∧Rep zs g st (pp.drop i) []) ⟨_,c3,_,none,none,none,rfl,e03,hc30,h3,st3,rep ()⟩ (fun i σ H' _ ⟨_,_,_,_,_,_,_,e,_⟩=>e.at hx) ?_ ?_
  ·clear st3 h3 hx3 e03 hc30
   rintro i y _ H5 hi ⟨st,ca,cl,v5,v6,v7,rfl,e5,hca,h5,stk,rp⟩
   have hip:i < pp.length:=by have:=(List.getElem?_eq_some_iff.mp hi).1;have:=hyl ();omega
   obtain ⟨sr,rfl,hsr⟩:=(pl ()).2 i pp[i] y (List.getElem?_eq_getElem hip) hi
   have hln:=Rep.len rp
   rw [List.length_drop] at hln
   rw [List.drop_eq_getElem_cons hip] at rp
   cases st with
   | nil=>exact rp.elim
   | cons c st=>
    obtain ⟨more,hst,hc,rp'⟩:=rp
    have hmm:=hst.more
    obtain ⟨cl0,y,rfl,hcy,stk'⟩:=stk
    obtain ⟨a,rfl,nac,_,pa⟩:=hcy
    have hcl0:=stk'.len
    have hsr5:=e5.at hsr
    obtain ⟨cl,hcl⟩:∃ cl,cl0++[V.ref a]=cl:=⟨_,rfl⟩
    have stkc:StkV H5 ca ca (c::st) cl:=⟨cl0,.ref a,hcl.symm,⟨a,rfl,nac,nac,pa⟩,stk'⟩
    have hlen:0 < (cl.length:Int):=by rw [←hcl,List.length_append,List.length_singleton];omega
    have hlast:cl[cl.length - 1]? = some (.ref a):=by rw [←hcl,List.length_append,List.length_singleton,Nat.add_sub_cancel,List.getElem?_append_right (Nat.le_refl _),Nat.sub_self];rfl
    have hdrop:cl.dropLast=cl0:=by rw [←hcl,List.dropLast_concat]
    rw [hcl] at h5
    replace hst:=fun (_:Unit)=>hst
    replace rp':=fun (_:Unit)=>rp'
    replace hmm:=fun (_:Unit)=>hmm
    replace stk':=fun (_:Unit)=>stk'
    replace hcl:=fun (_:Unit)=>hcl
    replace hcl0:=fun (_:Unit)=>hcl0
    clear hi
    simp! only [↓m_kBody]
    intro n6 H6 hn6 e6 h6
    have stk6:=stkc.ext e6
    obtain ⟨dd,ds,hdd⟩:=prs_ne (f:=datF H6 (datF H6 noD)) stk6.al (by rw [List.length_reverse,List.length_cons];omega)
    have h5_6:=e6.at h5
    have hsr6:=e6.at hsr5
    have pa6:=pr_ext pa e6
    have stk'6:=(stk' ()).ext e6
    have e06:=e5.trans e6
    clear hn6 stkc stk6 h5 hsr5 stk' pa e6
    have h7c:upd H6 ca (.lst cl0) ca=some (.lst cl0):=upd_same
    have cs7:=CsV.upd (o:=.lst cl0) (c:=c) (y:=.ref a) ⟨a,rfl,nac,nac,pa6⟩ h5_6 (.inl rfl)
    have st7:=StkV.upd (o:=.lst cl0) h5_6 (.inl rfl) stk'6
    have e07:Ext H (upd H6 ca (.lst cl0)):=e06.put hca
    have hsr7:upd H6 ca (.lst cl0) sr=some (.tup pp[i]):=by rw [upd_ne (fun e=>by rw [e,h5_6] at hsr6;cases hsr6)];exact hsr6
    replace st7:=fun (_:Unit)=>st7
    replace stk'6:=fun (_:Unit)=>stk'6
    simp! only [and_true]
    generalize upd H6 ca (.lst cl0)=H7 at *
    clear hdd h5_6 hsr6 pa6 stk'6 e06 h6 hlen hlast hdrop hcl
    obtain ⟨_,ha',_,_,pa7⟩:=cs7
    cases ha'
    rw [c_spKBeh]
    refine ⟨zs,c,pp[i],more,tr_ext htr e07,pa7,ht,hc,hsr7,hst (),fun r8 bs H8 e8 h8 beh=>?_⟩
    have e08:=e07.trans e8
    have h8c:=e8.at h7c
    have st8:=fun (_:Unit)=>(st7 ()).ext e8
    have pa8:=pr_ext pa7 e8
    have hcl1:cl0.length≤4000:=by have:=hcl0 ();rw [List.length_cons] at hln;omega
    clear hst h7c st7 pa7 hsr7
    rcases hmm () with rfl|⟨hee,b1,b2,rfl⟩
    ·have hbs:bs=[]:=List.length_eq_zero_iff.mp beh.1
     subst hbs
     replace beh:=fun (_:Unit)=>beh
     clear hmm
     simp! only [and_true]
     intro n9 H9 _ e9 h9
     have h8_9:=e9.at h8
     have h8c9:=e9.at h8c
     have st9:=fun (_:Unit)=>(st8 ()).ext e9
     have e09:=e08.trans e9
     clear h8 h8c st8
     simp! only [and_true]
     refine ⟨len5000 (by omega),?_⟩
     intro c12 H12 hc12 e12 h12
     have hcn:H c12=none:=e09.free hc12
     have stN:=(StkV.cat (st9 ()) (show BehV H7 H9 [] [] from Al.nil) (.inl rfl) hc12).ext e12
     rw [List.append_nil] at stN
     have eN:=e09.trans e12
     replace stN:=fun (_:Unit)=>stN
     clear hc12 e12
     simp! only [and_true]
     exact ⟨_,c12,_,_,_,_,rfl,eN,hcn,h12,stN (),rp' ()⟩
    ·have hbl:bs.length=2:=beh.1
     replace beh:=fun (_:Unit)=>beh
     clear hmm
     simp! only [and_true]
     intro n9 H9 _ e9 h9
     have h8_9:=e9.at h8
     have h8c9:=e9.at h8c
     have st9:=fun (_:Unit)=>(st8 ()).ext e9
     have e09:=e08.trans e9
     have beh9:BehV H7 H9 [b1,b2] bs:=(beh ()).imp fun _ _ ⟨a,h1,h2,h3⟩=>⟨a,h1,h2,pr_ext h3 e9⟩
     obtain ⟨dd,ds,hdd⟩:=prs_ne (f:=datF H9 (datF H9 noD)) beh9.al (show 0 < [b2,b1].length by simp)
     replace beh9:=fun (_:Unit)=>beh9
     clear h8 h8c st8 beh
     simp! only [and_true]
     rw [c_spKEnd]
     refine ⟨zs,c,tr_ext htr e09,pr_ext pa8 e9,ht,hc,fun H10 e10=>?_⟩
     rw [hee]
     have h8_10:=e10.at h8_9
     have h8c10:=e10.at h8c9
     have st10:=fun (_:Unit)=>(st9 ()).ext e10
     have e010:=e09.trans e10
     have beh10:BehV H7 H10 [b1,b2] bs:=(beh9 ()).imp fun _ _ ⟨a,h1,h2,h3⟩=>⟨a,h1,h2,pr_ext h3 e10⟩
     replace beh10:=fun (_:Unit)=>beh10
     clear hdd beh9 st9 h8_9 h8c9 h9
     simp! only [and_true]
     refine ⟨len5000 (by omega),?_⟩
     intro c12 H12 hc12 e12 h12
     have hcn:H c12=none:=e010.free hc12
     have stN:=(StkV.cat (st10 ()) (beh10 ()) (.inr ⟨_,_,rfl⟩) hc12).ext e12
     have eN:=e010.trans e12
     replace stN:=fun (_:Unit)=>stN
     clear hc12 e12
     simp! only [and_true]
     exact ⟨_,c12,_,_,_,_,rfl,eN,hcn,h12,stN (),rp' ()⟩
  ·rintro _ H5 ⟨st,ca,cl,v5,v6,v7,rfl,e5,hca,h5,stk,rp⟩
   rw [hyl (),List.drop_length] at rp
   have hs0:st=[]:=by cases st<;>exact rp
   subst hs0
   have hcl:cl=[]:=stk
   subst hcl
   have k':=k () ca H5 e5 h5
   clear k rp stk
   simp! only [and_true]
abbrev B_spKApart  (x:Addr) (p:Addr) (g:Int) (m:Int) (H:Hp) (Q:VK) (E:XK):Prop:=∃ (zs:List Tm3) (pp:List (List V)) (a1:Addr),H x=some (.tup [.str "apart",.ref a1])∧PapAt H a1 pp∧TrAt H p zs∧TmsOk zs∧(pp.length:Int)≤m∧pp.length≤4000∧Rep zs g [zs.map fun z=>z.2] pp []∧∀ H',Ext H H'->Q (.bl true) H'
def spKApart  : Sp:=fun vs H Q E=>∃ (x:Addr) (p:Addr) (g:Int) (m:Int),vs=[.ref x,.ref p,.int g,.int m]∧(B_spKApart  x p g m H Q E)
theorem c_spKApart  (x:Addr) (p:Addr) (g:Int) (m:Int) (H:Hp) (Q:VK) (E:XK):spKApart  [.ref x,.ref p,.int g,.int m] H Q E=(B_spKApart  x p g m H Q E):=spx4 (f:=fun (x:Addr) (p:Addr) (g:Int) (m:Int)=>[.ref x,.ref p,.int g,.int m]) (fun _ _ _ _ _ _ _ _ h=>by cases h;exact ⟨rfl,rfl,rfl,rfl⟩) x p g m
theorem l_spKApart  {vs:List V}{H:Hp}{Q:VK}{E:XK}(h:spKApart  vs H Q E):vs.length=4:=spl4 h fun _ _ _ _=>rfl
theorem ok__law_apart (T:Tx K mg t):FnOk P w K mg base CX0 5 t.a__law_apart t.d__law_apart ["_law_found", "_law_terms_here", "_law_goal_here", "_law_most"] spKApart:=by
 have G__law_left:=ok__law_left (P:=P) (w:=w) (base:=base) T
 refine T.F__law_apart.ok c__law_apart (fun vs H Q E h=>l_spKApart h) (fun cdv A outer s H vs Q E hr h=>?_)
 ·obtain ⟨x,p,g,m,rfl,zs,pp,a1,hx,⟨ys,h1,pl⟩,htr,ht,hm,h4,rep,k⟩:=h
  refine ⟨_,(@pss_cons _ _ _ _ _ (@ps_if _ _ _ _ _ _ _ _ (PW.pt (@pw_or _ _ _ _ _ _ _ (@pt_not _ _ _ _ (@pt_valN _ _ _ (@pe_callB _ _ _ _ _ _ _ ("isinstance") _ call_qIsi (by rfl) T.z_isinstance (by decide +kernel) (@pa_c _ _ _ _ _ (@pvN _ 0 _ _ (by rfl) (by trivial) (by decide) (by decide)) (@pa_c _ _ _ _ _ (@pe_bltn _ _ (.ty "tuple") (.type "tuple") _ (by rfl) T.z_tuple (by decide +kernel) rfl (by decide) (by decide)) (@pa_nil _) (by rfl)) (by rfl)) (by decide) (by decide) (by rfl) (by rfl)) (by intros;rfl))) (@pw_or _ _ _ _ _ _ _ (@pt_cmpRN _ _ _ _ _ _ _ _ (op_qNe hr.units) (@pe_callB _ _ _ _ _ _ _ ("len") _ call_qLen (by rfl) T.z_len (by decide +kernel) (@pa_c _ _ _ _ _ (@pvN _ 0 _ _ (by rfl) (by trivial) (by decide) (by decide)) (@pa_nil _) (by rfl)) (by decide) (by decide) (by rfl) (by rfl)) (@pe_int _ _ _ _) (nomark _)) (@pw_or _ _ _ _ _ _ _ (@pt_cmpRN _ _ _ _ _ _ _ _ (op_qNe hr.units) (@pe_ix _ _ _ _ _ _ _ ix_q (@pvN _ 0 _ _ (by rfl) (by trivial) (by decide) (by decide)) (@pe_int _ _ _ _) (fun _ _=>rfl)) (@pe_str _ _ _ _) (nomark _)) (@pw_or1 _ _ _ _ (@pt_not _ _ _ _ (@pt_valN _ _ _ (@pe_callB _ _ _ _ _ _ _ ("isinstance") _ call_qIsi (by rfl) T.z_isinstance (by decide +kernel) (@pa_c _ _ _ _ _ (@pe_ix _ _ _ _ _ _ _ ix_q (@pvN _ 0 _ _ (by rfl) (by trivial) (by decide) (by decide)) (@pe_int _ _ _ _) (fun _ _=>rfl)) (@pa_c _ _ _ _ _ (@pe_bltn _ _ (.ty "list") (.type "list") _ (by rfl) T.z_list (by decide +kernel) rfl (by decide) (by decide)) (@pa_nil _) (by rfl)) (by rfl)) (by decide) (by decide) (by rfl) (by rfl)) (by intros;rfl)))))))) (@pss_one _ _ _ (@ps_ret _ _ _ _ (@pe_bl _ _ _ _))) (@pss_nil _)) (@pss_one _ _ _ (@ps_ret _ _ _ _ (@pe_andN _ _ _ _ _ _ _ (@pe_cmpR _ _ _ _ _ _ _ _ on_le (@pe_callB _ _ _ _ _ _ _ ("len") _ call_qLen (by rfl) T.z_len (by decide +kernel) (@pa_c _ _ _ _ _ (@pe_ix _ _ _ _ _ _ _ ix_q (@pvN _ 0 _ _ (by rfl) (by trivial) (by decide) (by decide)) (@pe_int _ _ _ _) (fun _ _=>rfl)) (@pa_nil _) (by rfl)) (by decide) (by decide) (by rfl) (by rfl)) (@pvN _ 3 _ _ (by rfl) (by trivial) (by decide) (by decide)) (nomark _)) (@pe_one _ _ _ _ _ (@pe_cmpR _ _ _ _ _ _ _ _ (op_qEq hr.units) (@pe_call _ _ _ _ _ _ _ _ _ _ _ _ _ _ _ _ G__law_left (hr.mono (by decide)) (by rfl) T.m__law_left T.F__law_left.kp T.b__law_left .nil pass0 (@pa_c _ _ _ _ _ (@pvN _ 1 _ _ (by rfl) (by trivial) (by decide) (by decide)) (@pa_c _ _ _ _ _ (@pvN _ 2 _ _ (by rfl) (by trivial) (by decide) (by decide)) (@pa_c _ _ _ _ _ (@pe_ix _ _ _ _ _ _ _ ix_q (@pvN _ 0 _ _ (by rfl) (by trivial) (by decide) (by decide)) (@pe_int _ _ _ _) (fun _ _=>rfl)) (@pa_c _ _ _ _ _ (@pe_bl _ _ _ _) (@pa_nil _) (by rfl)) (by rfl)) (by rfl)) (by rfl)) (by decide) (by rfl) (by rfl)) (@pe_qLst _ _ _ _ (@pa_nil _)) (nomark _))))))),?_⟩
  rw [show start ["_law_found", "_law_terms_here", "_law_goal_here", "_law_most"] [.ref x,.ref p,.int g,.int m]=[some (.ref x),some (.ref p),some (.int g),some (.int m)] from rfl]
  clear G__law_left
  have hyl:ys.length=pp.length:=pl.1
  have hml:(ys.length:Int)≤m:=by omega
  have sq9:(Str.ofString "apart" == Str.ofString "apart")=true:=by decide +kernel
  have pap:PapAt H a1 pp:=⟨ys,h1,pl⟩
  replace k:=fun (_:Unit)=>k
  replace rep:=fun (_:Unit)=>rep
  replace pap:=fun (_:Unit)=>pap
  replace hyl:=fun (_:Unit)=>hyl
  clear pl
  simp! only [and_true]
  rw [c_spKLeft]
  refine ⟨zs,pp,htr,ht,pap (),h4,rep (),fun r2 H2 e2 h2=>?_⟩
  clear hx h1
  simp! only [and_true]
  intro r3 H3 _ e3 h3
  have h2_3:=e3.at h2
  have k':=k () H3 (e2.trans e3)
  clear k h2
  simp! only [and_true]
def AnsOk (H:Hp) (x:Addr) (A B:List (Int × Int)) (g m:Int):Prop:=(∃ (ys zs:List Int) (a1 a2:Addr),H x=some (.tup [.str "shared",.ref a1,.ref a2])∧H a1=some (.tup (ys.map V.int))∧H a2=some (.tup (zs.map V.int))∧InA A ys∧InA B zs∧dotA A ys=g+dotA B zs)∨∃ (pp:List (List V)) (a1:Addr),H x=some (.tup [.str "apart",.ref a1])∧PapAt H a1 pp∧(pp.length:Int)≤m∧pp.length≤4000∧∀ ks,KsOk ks (pullL (A.map keptA) (B.map keptA))->Rep (termsF ks (pullL (A.map keptA) (B.map keptA))) g [(termsF ks (pullL (A.map keptA) (B.map keptA))).map fun z=>z.2] pp []
theorem PapAt.ext {H H':Hp}{a:Addr}{pp:List (List V)}(h:PapAt H a pp) (e:Ext H H'):PapAt H' a pp:=by
 obtain ⟨ys,h1,h2⟩:=h
 exact ⟨ys,e.at h1,h2.ext e⟩
abbrev B_spKAns  (x:Addr) (p:Addr) (q:Addr) (g:Int) (m:Int) (H:Hp) (Q:VK) (E:XK):Prop:=∃ A B:List (Int × Int),PrAt H p A∧PrAt H q B∧AxK A∧AxK B∧AnsOk H x A B g m∧∀ H',Ext H H'->Q (.bl true) H'
def spKAns  : Sp:=fun vs H Q E=>∃ (x:Addr) (p:Addr) (q:Addr) (g:Int) (m:Int),vs=[.ref x,.ref p,.ref q,.int g,.int m]∧(B_spKAns  x p q g m H Q E)
theorem c_spKAns  (x:Addr) (p:Addr) (q:Addr) (g:Int) (m:Int) (H:Hp) (Q:VK) (E:XK):spKAns  [.ref x,.ref p,.ref q,.int g,.int m] H Q E=(B_spKAns  x p q g m H Q E):=spx5 (f:=fun (x:Addr) (p:Addr) (q:Addr) (g:Int) (m:Int)=>[.ref x,.ref p,.ref q,.int g,.int m]) (fun _ _ _ _ _ _ _ _ _ _ h=>by cases h;exact ⟨rfl,rfl,rfl,rfl,rfl⟩) x p q g m
theorem l_spKAns  {vs:List V}{H:Hp}{Q:VK}{E:XK}(h:spKAns  vs H Q E):vs.length=5:=spl5 h fun _ _ _ _ _=>rfl
theorem ok__law_answer (T:Tx K mg t):FnOk P w K mg base CX0 6 t.a__law_answer t.d__law_answer ["_law_found", "_law_one", "_law_other", "_law_goal_here", "_law_most"] spKAns:=by
 have G__law_met:=ok__law_met (P:=P) (w:=w) (base:=base) T
 have G__law_terms:=ok__law_terms (P:=P) (w:=w) (base:=base) T
 have G__law_apart:=ok__law_apart (P:=P) (w:=w) (base:=base) T
 refine T.F__law_answer.ok c__law_answer (fun vs H Q E h=>l_spKAns h) (fun cdv A' outer s H vs Q E hr h=>?_)
 ·obtain ⟨x,p,q,g,m,rfl,A,B,hp,hq,kA,kB,an,k⟩:=h
  refine ⟨_,(@pss_cons _ _ _ _ _ (@ps_if _ _ _ _ _ _ _ _ (PW.pt (@pw_and _ _ _ _ _ _ _ (@pt_valN _ _ _ (@pe_callB _ _ _ _ _ _ _ ("isinstance") _ call_qIsi (by rfl) T.z_isinstance (by decide +kernel) (@pa_c _ _ _ _ _ (@pvN _ 0 _ _ (by rfl) (by trivial) (by decide) (by decide)) (@pa_c _ _ _ _ _ (@pe_bltn _ _ (.ty "tuple") (.type "tuple") _ (by rfl) T.z_tuple (by decide +kernel) rfl (by decide) (by decide)) (@pa_nil _) (by rfl)) (by rfl)) (by decide) (by decide) (by rfl) (by rfl)) (by intros;rfl)) (@pw_and1 _ _ _ _ (@pt_cmpRN _ _ _ _ _ _ _ _ (op_qEq hr.units) (@pe_callB _ _ _ _ _ _ _ ("len") _ call_qLen (by rfl) T.z_len (by decide +kernel) (@pa_c _ _ _ _ _ (@pvN _ 0 _ _ (by rfl) (by trivial) (by decide) (by decide)) (@pa_nil _) (by rfl)) (by decide) (by decide) (by rfl) (by rfl)) (@pe_int _ _ _ _) (nomark _))))) (@pss_one _ _ _ (@ps_ret _ _ _ _ (@pe_call _ _ _ _ _ _ _ _ _ _ _ _ _ _ _ _ G__law_met (hr.mono (by decide)) (by rfl) T.m__law_met T.F__law_met.kp T.b__law_met .nil pass0 (@pa_c _ _ _ _ _ (@pvN _ 0 _ _ (by rfl) (by trivial) (by decide) (by decide)) (@pa_c _ _ _ _ _ (@pvN _ 1 _ _ (by rfl) (by trivial) (by decide) (by decide)) (@pa_c _ _ _ _ _ (@pvN _ 2 _ _ (by rfl) (by trivial) (by decide) (by decide)) (@pa_c _ _ _ _ _ (@pvN _ 3 _ _ (by rfl) (by trivial) (by decide) (by decide)) (@pa_nil _) (by rfl)) (by rfl)) (by rfl)) (by rfl)) (by decide) (by rfl) (by rfl)))) (@pss_nil _)) (@pss_one _ _ _ (@ps_ret _ _ _ _ (@pe_call _ _ _ _ _ _ _ _ _ _ _ _ _ _ _ _ G__law_apart (hr.mono (by decide)) (by rfl) T.m__law_apart T.F__law_apart.kp T.b__law_apart .nil pass0 (@pa_c _ _ _ _ _ (@pvN _ 0 _ _ (by rfl) (by trivial) (by decide) (by decide)) (@pa_c _ _ _ _ _ (@pe_call _ _ _ _ _ _ _ _ _ _ _ _ _ _ _ _ G__law_terms (hr.mono (by decide)) (by rfl) T.m__law_terms T.F__law_terms.kp T.b__law_terms .nil pass0 (@pa_c _ _ _ _ _ (@pvN _ 1 _ _ (by rfl) (by trivial) (by decide) (by decide)) (@pa_c _ _ _ _ _ (@pvN _ 2 _ _ (by rfl) (by trivial) (by decide) (by decide)) (@pa_nil _) (by rfl)) (by rfl)) (by decide) (by rfl) (by rfl)) (@pa_c _ _ _ _ _ (@pvN _ 3 _ _ (by rfl) (by trivial) (by decide) (by decide)) (@pa_c _ _ _ _ _ (@pvN _ 4 _ _ (by rfl) (by trivial) (by decide) (by decide)) (@pa_nil _) (by rfl)) (by rfl)) (by rfl)) (by rfl)) (by decide) (by rfl) (by rfl))))),?_⟩
  rw [show start ["_law_found", "_law_one", "_law_other", "_law_goal_here", "_law_most"] [.ref x,.ref p,.ref q,.int g,.int m]=[some (.ref x),some (.ref p),some (.ref q),some (.int g),some (.int m)] from rfl]
  clear G__law_met G__law_terms G__law_apart
  have a3:=kA.len
  have b3:=kB.len
  have bA:∀ b∈A,-1000000≤b.2∧b.2≤1000000:=fun b hb=>by have:=(kA.sz b hb).2;omega
  have bB:∀ b∈B,-1000000≤b.2∧b.2≤1000000:=fun b hb=>by have:=(kB.sz b hb).2;omega
  have oA:∀ b∈A,(1:Int)≤b.1:=fun b hb=>(kA.sz b hb).1.1
  have oB:∀ b∈B,(1:Int)≤b.1:=fun b hb=>(kB.sz b hb).1.1
  replace bA:=fun (_:Unit)=>bA
  replace bB:=fun (_:Unit)=>bB
  replace oA:=fun (_:Unit)=>oA
  replace oB:=fun (_:Unit)=>oB
  replace k:=fun (_:Unit)=>k
  rcases an with ⟨ys,zs,a1,a2,h1,h2,h3,iA,iB,hd⟩|⟨pp,a1,h1,pap,hm,h4,rep⟩
  ·replace iA:=fun (_:Unit)=>iA
   replace iB:=fun (_:Unit)=>iB
   replace hd:=fun (_:Unit)=>hd
   simp! only [and_true]
   rw [c_spKMet]
   refine ⟨A,B,ys,zs,a1,a2,h1,h2,h3,hp,hq,by omega,by omega,iA (),iB (),bA (),bB (),hd (),fun H1 e1=>?_⟩
   exact k () H1 e1
  ·replace rep:=fun (_:Unit)=>rep
   replace pap:=fun (_:Unit)=>pap
   simp! only [and_true]
   rw [c_spKTerms]
   refine ⟨A,B,hp,hq,by omega,by omega,oA (),oB (),fun ks r2 H2 e2 t2 ko=>?_⟩
   simp! only [and_true]
   rw [c_spKApart]
   exact ⟨_,pp,a1,e2.at h1,(pap ()).ext e2,t2,((AxK.pull kA kB).tms ko).1,hm,h4,rep () ks ko,fun H3 e3=>k () H3 (e2.trans e3)⟩
def drawF (ns:List Int) (k m:Int):Int:=(if k < (ns.length:Int) then ns.getD k.toNat 0 else (if 0 < (ns.length:Int) then ns.getD (k % (ns.length:Int)).toNat 0 % 999999937 * (48271+2 * k * k)+k * 69621 else k * k * 7919+104729) % 2147483647 * 16807 % 2147483629) % m
theorem getD_at {ns:List Int}{k z:Int}(h0:0≤k) (h1:k < (ns.length:Int)) (hz:atI (ns.map V.int) k=some (.int z)):ns.getD k.toNat 0=z:=by
 obtain ⟨n,rfl⟩:=Int.eq_ofNat_of_zero_le h0
 have hn:n < ns.length:=by omega
 have e:atI (ns.map V.int) (n:Int)=some (.int ns[n]):=atI_nat (by rw [List.getElem?_map,List.getElem?_eq_getElem hn];rfl)
 rw [hz] at e
 have e2:=Option.some.inj e
 simp only [V.int.injEq] at e2
 rw [Int.toNat_natCast,List.getD_eq_getElem?_getD,List.getElem?_eq_getElem hn,e2]
 rfl
theorem drawF_1 {ns:List Int}{k m z:Int}(h0:0≤k) (h1:k < (ns.length:Int)) (hz:atI (ns.map V.int) k=some (.int z)):drawF ns k m=z % m:=by
 unfold drawF
 rw [if_pos h1,getD_at h0 h1 hz]
theorem drawF_2 {ns:List Int}{k m z:Int}(h1:¬ k < (ns.length:Int)) (h2:0 < (ns.length:Int)) (hz:atI (ns.map V.int) (k % (ns.length:Int))=some (.int z)):drawF ns k m=(z % 999999937 * (48271+2 * k * k)+k * 69621) % 2147483647 * 16807 % 2147483629 % m:=by
 unfold drawF
 rw [if_neg h1,if_pos h2,getD_at (Int.emod_nonneg _ (by omega)) (Int.emod_lt_of_pos _ h2) hz]
theorem drawF_3 {ns:List Int}{k m:Int}(h1:¬ k < (ns.length:Int)) (h2:¬ 0 < (ns.length:Int)):drawF ns k m=(k * k * 7919+104729) % 2147483647 * 16807 % 2147483629 % m:=by
 unfold drawF
 rw [if_neg h1,if_neg h2]
abbrev B_spDrawX (K:PySem.W.Frag) (a:Addr) (ns:List Int) (k:Int) (m:Int) (H:Hp) (Q:VK) (E:XK):Prop:=SqL K H a (ns.map V.int)∧ns.length≤63∧(0≤k∧k < 1000)∧0 < m∧Q (.int (drawF ns k m)) H
def spDrawX (K:PySem.W.Frag) (a:Addr) (ns:List Int):Sp:=fun vs H Q E=>∃ (k:Int) (m:Int),vs=[.ref a,.int k,.int m]∧(B_spDrawX K a ns k m H Q E)
theorem c_spDrawX (K:PySem.W.Frag) (a:Addr) (ns:List Int) (k:Int) (m:Int) (H:Hp) (Q:VK) (E:XK):spDrawX K a ns [.ref a,.int k,.int m] H Q E=(B_spDrawX K a ns k m H Q E):=spx2 (f:=fun (k:Int) (m:Int)=>[.ref a,.int k,.int m]) (fun _ _ _ _ h=>by cases h;exact ⟨rfl,rfl⟩) k m
theorem l_spDrawX (K:PySem.W.Frag) (a:Addr) (ns:List Int){vs:List V}{H:Hp}{Q:VK}{E:XK}(h:spDrawX K a ns vs H Q E):vs.length=3:=spl2 h fun _ _=>rfl
theorem okx__law_draw (T:Tx K mg t) (a:Addr) (ns:List Int):FnOk P w K mg base CX0 1 t.a__law_draw t.d__law_draw ["_law_script", "_law_k", "_law_many"] (spDrawX K a ns):=by
 refine T.F__law_draw.ok c__law_draw (fun vs H Q E h=>l_spDrawX _ _ _ h) (fun cdv A outer s H vs Q E hr h=>?_)
 ·obtain ⟨k,m,rfl,hS,hl,⟨hk0,hk1⟩,hm,kk⟩:=h
  refine ⟨_,(pss_cons (ps_if (pt_cmpR op_lt (pv 1) (pe_callB (id := "len") call_len_seq (by rfl) T.z_len (by decide +kernel) (pa_c (pv 0) pa_nil)) (nomark _))
   (pss_one (ps_ret (pe_op op_mod (pe_ix ix_list (pv 0) (pv 1) (fun _ _=>rfl)) (pv 2))))
   pss_nil)
  (pss_cons (ps_set (i:=3) c__law_draw.nd rfl (Or.inl rfl) (pe_op op_add (pe_op op_mul (pe_op op_mul (pv 1) (pv 1)) pe_int) pe_int))
  (pss_cons (ps_if (pt_cmpR op_gt (pe_callB (id := "len") call_len_seq (by rfl) T.z_len (by decide +kernel) (pa_c (pv 0) pa_nil)) pe_int (nomark _))
   (pss_cons (ps_set (i:=4) c__law_draw.nd rfl (Or.inl rfl) (pe_op op_mod (pe_ix ix_list (pv 0) (pe_op op_mod (pv 1) (pe_callB (id := "len") call_len_seq (by rfl) T.z_len (by decide +kernel) (pa_c (pv 0) pa_nil))) (fun _ _=>rfl)) pe_int))
   (pss_one (ps_set (i:=3) c__law_draw.nd rfl (Or.inl rfl) (pe_op op_add (pe_op op_mul (pv 4) (pe_op op_add pe_int (pe_op op_mul (pe_op op_mul pe_int (pv 1)) (pv 1)))) (pe_op op_mul (pv 1) pe_int)))))
   pss_nil)
  (pss_one (ps_ret (pe_op op_mod (pe_op op_mod (pe_op op_mul (pe_op op_mod (pv 3) pe_int) pe_int) pe_int) (pv 2))))))),?_⟩
  refine ⟨_,rfl,_,rfl,a,_,rfl,.inl hS,_,_,rfl,rfl,_,rfl,?_⟩
  refine ite2 (fun h=>?_) (fun h=>?_)
  ·have h1:k < (ns.length:Int):=by simpa using h
   obtain ⟨z,hz,_⟩:=atI_ints ns k hk0 h1
   exact ⟨_,rfl,_,rfl,a,_,k,_,rfl,rfl,hS,hz,_,rfl,_,_,rfl,rfl,hm,by rw [drawF_1 hk0 h1 hz] at kk;exact kk⟩
  ·have h1:¬ k < (ns.length:Int):=by simpa using h
   refine ⟨_,rfl,_,rfl,_,_,rfl,rfl,.inl ⟨by omega,by omega⟩,_,_,rfl,rfl,.inr ⟨by decide,by decide⟩,_,_,rfl,rfl,?_⟩
   refine ⟨_,rfl,a,_,rfl,.inl hS,_,_,rfl,rfl,_,rfl,?_⟩
   refine ite2 (fun h2=>?_) (fun h2=>?_)
   ·have h3:0 < (ns.length:Int):=by simpa using h2
    have h4:(0:Int) < ((ns.map V.int).length:Int):=by simpa using h3
    obtain ⟨z,hz,_⟩:=atI_ints ns (k % ((ns.map V.int).length:Int)) (Int.emod_nonneg _ (by omega)) (by have:=Int.emod_lt_of_pos k h4;simpa using this)
    refine ⟨_,rfl,_,rfl,_,rfl,a,_,rfl,.inl hS,_,_,rfl,rfl,h4,a,_,_,_,rfl,rfl,hS,hz,_,_,rfl,rfl,(by first|decide|(show (0:Int) < _;decide)),?_⟩
    refine ⟨_,rfl,_,rfl,_,_,rfl,rfl,.inl ⟨by decide,by decide⟩,_,rfl,_,_,rfl,rfl,.inr ⟨by omega,by omega⟩,_,_,rfl,rfl,_,_,rfl,rfl,?_,?_⟩
    ·refine .inl ⟨?_,?_⟩
     ·have:=Int.emod_nonneg z (show (999999937:Int) ≠ 0 by decide);omega
     ·have:=Int.emod_lt_of_pos z (show (0:Int) < 999999937 by decide);omega
    refine ⟨_,rfl,_,_,rfl,rfl,.inr ⟨by decide,by decide⟩,_,_,rfl,rfl,?_⟩
    exact ⟨_,rfl,_,_,rfl,rfl,(by first|decide|(show (0:Int) < _;decide)),_,_,rfl,rfl,.inr ⟨by decide,by decide⟩,_,_,rfl,rfl,(by first|decide|(show (0:Int) < _;decide)),_,rfl,_,_,rfl,rfl,hm,by rw [drawF_2 h1 h3 (show atI (ns.map V.int) (k % (ns.length:Int))=some (.int z) by rw [←hz,List.length_map])] at kk;exact kk⟩
   ·exact ⟨_,rfl,_,_,rfl,rfl,(by first|decide|(show (0:Int) < _;decide)),_,_,rfl,rfl,.inr ⟨by decide,by decide⟩,_,_,rfl,rfl,(by first|decide|(show (0:Int) < _;decide)),_,rfl,_,_,rfl,rfl,hm,by rw [drawF_3 h1 (show ¬ (0:Int) < (ns.length:Int) by simpa using h2)] at kk;exact kk⟩
theorem drawF_bnd {ns:List Int}{k m:Int}(hm:0 < m):0≤drawF ns k m∧drawF ns k m < m:=⟨Int.emod_nonneg _ (by omega),Int.emod_lt_of_pos _ hm⟩
theorem sum_bnd {P:List (Int × Int)}:∀ {ks:List Int},(∀ t∈ks,(1≤t∧t≤36)∧(0≤highF P t∧highF P t≤24)∧(-24≤lowF P t∧lowF P t≤0))->(-864 * (ks.length:Int)≤lsum (termsF ks P) ((termsF ks P).map fun z=>z.2)∧lsum (termsF ks P) ((termsF ks P).map fun z=>z.2)≤0)∧(0≤gsum (termsF ks P) ((termsF ks P).map fun z=>z.2)∧gsum (termsF ks P) ((termsF ks P).map fun z=>z.2)≤864 * (ks.length:Int))
 | [],_=>by show (-864 * (0:Int)≤0∧(0:Int)≤0)∧((0:Int)≤0∧(0:Int)≤864 * 0);decide
 | t::ks,h=>by
  have ih:=sum_bnd (ks:=ks) fun u hu=>h u (List.mem_cons_of_mem _ hu)
  obtain ⟨h1,h2,h3⟩:=h t List.mem_cons_self
  obtain ⟨s1,s2⟩:=sums_cons (t,lowF P t,highF P t) (lowF P t,highF P t) (termsF ks P) ((termsF ks P).map fun z=>z.2)
  have s1':lsum (termsF (t::ks) P) ((termsF (t::ks) P).map fun z=>z.2)=t * lowF P t+lsum (termsF ks P) ((termsF ks P).map fun z=>z.2):=s1
  have s2':gsum (termsF (t::ks) P) ((termsF (t::ks) P).map fun z=>z.2)=t * highF P t+gsum (termsF ks P) ((termsF ks P).map fun z=>z.2):=s2
  rw [s1',s2',List.length_cons]
  have u1:=Int.mul_le_mul h1.2 h2.2 h2.1 (by decide)
  have u2:=Int.mul_nonneg (show 0≤t by omega) h2.1
  have u3:=Int.mul_le_mul h1.2 (show -lowF P t≤24 by omega) (by omega) (by decide)
  have u4:=Int.mul_nonneg (show 0≤t by omega) (show 0≤-lowF P t by omega)
  rw [Int.mul_neg] at u3 u4
  generalize t * lowF P t=x at *
  generalize t * highF P t=y at *
  omega
theorem terms_bnd {A B:List (Int × Int)}{ks:List Int}(hA:AxK A) (hB:AxK B) (hk:KsOk ks (pullL (A.map keptA) (B.map keptA))){zs:List Tm3}(hz:termsF ks (pullL (A.map keptA) (B.map keptA))=zs):(-10000≤lsum zs (zs.map fun z=>z.2)∧lsum zs (zs.map fun z=>z.2)≤0)∧0≤gsum zs (zs.map fun z=>z.2)∧gsum zs (zs.map fun z=>z.2)≤10000:=by
 subst hz
 have hp:=AxK.pull hA hB
 have one:∀ y∈pullL (A.map keptA) (B.map keptA),(1:Int)≤y.2:=fun y hy=>(hp.sz y hy).1.1
 have hl:=hp.len
 have hkl:=hk.len
 have:=sum_bnd (P:=pullL (A.map keptA) (B.map keptA)) (ks:=ks) fun t ht=>by
  obtain ⟨t0,y,hy,e⟩:=(hk.mem t).mp ht
  have hs:=hp.sz y hy
  have h1:=cap_le (fun x hx=>(hp.sz x hx).1) t
  have h2:=low_le one t
  have h3:=high_low (pullL (A.map keptA) (B.map keptA)) t
  have ht':1≤t∧t≤36:=by rw [←e] at t0 ⊢;unfold absI at t0 ⊢;omega
  omega
 omega
abbrev B_spKGoal (K:PySem.W.Frag) (a:Addr) (ns:List Int) (p:Addr) (q:Addr) (f:Int) (H:Hp) (Q:VK) (E:XK):Prop:=p=a∧SqL K H a (ns.map V.int)∧ns.length≤63∧1≤f∧f≤6∧∃ zs:List Tm3,TrAt H q zs∧TmsOk zs∧((-10000≤lsum zs (zs.map fun z=>z.2)∧lsum zs (zs.map fun z=>z.2)≤0)∧0≤gsum zs (zs.map fun z=>z.2)∧gsum zs (zs.map fun z=>z.2)≤10000)∧∀ (g:Int) (H':Hp),Ext H H'->(-1000000≤g∧g≤1000000)->(3 < drawF ns 22 6->g < lsum zs (zs.map fun z=>z.2)∨gsum zs (zs.map fun z=>z.2) < g)->Q (.int g) H'
def spKGoal (K:PySem.W.Frag) (a:Addr) (ns:List Int):Sp:=fun vs H Q E=>∃ (p:Addr) (q:Addr) (f:Int),vs=[.ref p,.ref q,.int f]∧(B_spKGoal K a ns p q f H Q E)
theorem c_spKGoal (K:PySem.W.Frag) (a:Addr) (ns:List Int) (p:Addr) (q:Addr) (f:Int) (H:Hp) (Q:VK) (E:XK):spKGoal K a ns [.ref p,.ref q,.int f] H Q E=(B_spKGoal K a ns p q f H Q E):=spx3 (f:=fun (p:Addr) (q:Addr) (f:Int)=>[.ref p,.ref q,.int f]) (fun _ _ _ _ _ _ h=>by cases h;exact ⟨rfl,rfl,rfl⟩) p q f
theorem l_spKGoal (K:PySem.W.Frag) (a:Addr) (ns:List Int){vs:List V}{H:Hp}{Q:VK}{E:XK}(h:spKGoal K a ns vs H Q E):vs.length=3:=spl3 h fun _ _ _=>rfl
theorem ok__law_goal (T:Tx K mg t) (a:Addr) (ns:List Int):FnOk P w K mg base CX0 2 t.a__law_goal t.d__law_goal ["_law_script", "_law_terms_here", "_law_factor"] (spKGoal K a ns):=by
 have G__law_draw:=okx__law_draw (P:=P) (w:=w) (base:=base) T a ns
 have G__law_sums:=ok__law_sums (P:=P) (w:=w) (base:=base) T
 refine T.F__law_goal.ok c__law_goal (fun vs H Q E h=>l_spKGoal _ _ _ h) (fun cdv A outer s H vs Q E hr h=>?_)
 ·obtain ⟨_,q,f,rfl,rfl,hS,hl,f1,f2,zs,⟨ts,hq,al⟩,ht,hb,k⟩:=h
  rename_i a
  refine ⟨_,(@pss_cons _ _ _ _ _ (@ps_setC _ _ _ _ _ _ _ _ _ _ _ _ _ (["_law_times", "_law_low", "_law_high", "_law_script", "_law_terms_here", "_law_factor", "_law_wide", "_law_least", "_law_greatest", "_law_cell_here", "_law_way"]) (3) (3) _ c__law_goal.nd rfl (Or.inl rfl) (comp_ok (defScope s__law_goal) ["_law_script", "_law_terms_here", "_law_factor", "_law_wide", "_law_least", "_law_greatest", "_law_cell_here", "_law_way"] rfl rfl (by decide +kernel)) rfl (@pi_seq _ _ _ _ (@pvN _ 1 _ _ (by rfl) (by trivial) (by decide) (by decide))) (fun C s₀ H₀ ex pn=>((@pg_tup _ _ _ _ _ (3) rfl (@pgs_consN _ _ _ _ _ (@pg_name _ _ (0) _ (show List.Nodup (["_law_times", "_law_low", "_law_high", "_law_script", "_law_terms_here", "_law_factor", "_law_wide", "_law_least", "_law_greatest", "_law_cell_here", "_law_way"]:List Str) from by decide +kernel) rfl (Or.inl rfl) (by trivial)) (@pgs_consN _ _ _ _ _ (@pg_name _ _ (1) _ (show List.Nodup (["_law_times", "_law_low", "_law_high", "_law_script", "_law_terms_here", "_law_factor", "_law_wide", "_law_least", "_law_greatest", "_law_cell_here", "_law_way"]:List Str) from by decide +kernel) rfl (Or.inl rfl) (by trivial)) (@pgs_consN _ _ _ _ _ (@pg_name _ _ (2) _ (show List.Nodup (["_law_times", "_law_low", "_law_high", "_law_script", "_law_terms_here", "_law_factor", "_law_wide", "_law_least", "_law_greatest", "_law_cell_here", "_law_way"]:List Str) from by decide +kernel) rfl (Or.inl rfl) (by trivial)) (@pgs_nilN _) (by rfl)) (by rfl)) (by rfl)) (by rfl) (by rfl)).mono fun _ _ _ _ h=>gTup_q h)) (fun C s₀ H₀ ex pn=>(@pts_nil _)) (fun C s₀ H₀ ex pn=>(@pe_qTup _ _ _ _ _ (@pa_c _ _ _ _ _ (@pvN _ 1 _ _ (by rfl) (by trivial) (by decide) (by decide)) (@pa_c _ _ _ _ _ (@pvN _ 2 _ _ (by rfl) (by trivial) (by decide) (by decide)) (@pa_nil _) (by rfl)) (by rfl)))) (by rfl) (by intros;rfl) (by trivial)) (@pss_cons _ _ _ _ _ (@ps_asg _ _ _ _ _ _ (@pe_call _ _ _ _ _ _ _ _ _ _ _ _ _ _ _ _ G__law_sums (hr.mono (by decide)) (by rfl) T.m__law_sums T.F__law_sums.kp T.b__law_sums .nil pass0 (@pa_c _ _ _ _ _ (@pvN _ 1 _ _ (by rfl) (by trivial) (by decide) (by decide)) (@pa_c _ _ _ _ _ (@pvN _ 3 _ _ (by rfl) (by trivial) (by decide) (by decide)) (@pa_nil _) (by rfl)) (by rfl)) (by decide) (by rfl) (by rfl)) ((@pg_tup _ _ _ _ _ (2) rfl (@pgs_consN _ _ _ _ _ (@pg_name _ _ (4) _ c__law_goal.nd rfl (Or.inl rfl) (by trivial)) (@pgs_consN _ _ _ _ _ (@pg_name _ _ (5) _ c__law_goal.nd rfl (Or.inl rfl) (by trivial)) (@pgs_nilN _) (by rfl)) (by rfl)) (by rfl) (by rfl)).mono fun _ _ _ _ h=>gTup_q h) (by rfl) (by rfl) (by rfl)) (@pss_cons _ _ _ _ _ (@ps_set _ _ (6) _ _ _ _ c__law_goal.nd rfl (Or.inl rfl) (@pe_call _ _ _ _ _ _ _ _ _ _ _ _ _ _ _ _ G__law_draw (hr.mono (by decide)) (by rfl) T.m__law_draw T.F__law_draw.kp T.b__law_draw .nil pass0 (@pa_c _ _ _ _ _ (@pvN _ 0 _ _ (by rfl) (by trivial) (by decide) (by decide)) (@pa_c _ _ _ _ _ (@pe_int _ _ _ _) (@pa_c _ _ _ _ _ (@pe_op _ _ _ _ _ _ _ _ on_pow (@pe_int _ _ _ _) (@pe_int _ _ _ _)) (@pa_nil _) (by rfl)) (by rfl)) (by rfl)) (by decide) (by rfl) (by rfl)) (by rfl) (by trivial)) (@pss_cons _ _ _ _ _ (@ps_set _ _ (7) _ _ _ _ c__law_goal.nd rfl (Or.inl rfl) (@pe_call _ _ _ _ _ _ _ _ _ _ _ _ _ _ _ _ G__law_draw (hr.mono (by decide)) (by rfl) T.m__law_draw T.F__law_draw.kp T.b__law_draw .nil pass0 (@pa_c _ _ _ _ _ (@pvN _ 0 _ _ (by rfl) (by trivial) (by decide) (by decide)) (@pa_c _ _ _ _ _ (@pe_int _ _ _ _) (@pa_c _ _ _ _ _ (@pe_int _ _ _ _) (@pa_nil _) (by rfl)) (by rfl)) (by rfl)) (by decide) (by rfl) (by rfl)) (by rfl) (by trivial)) (@pss_cons _ _ _ _ _ (@ps_if _ _ _ _ _ _ _ _ (@pt_cmpRN _ _ _ _ _ _ _ _ (op_qEq hr.units) (@pvN _ 7 _ _ (by rfl) (by trivial) (by decide) (by decide)) (@pe_int _ _ _ _) (nomark _)) (@pss_one _ _ _ (@ps_ret _ _ _ _ (@pe_op _ _ _ _ _ _ _ _ on_add (@pe_op _ _ _ _ _ _ _ _ on_add (@pvN _ 5 _ _ (by rfl) (by trivial) (by decide) (by decide)) (@pe_int _ _ _ _)) (@pe_op _ _ _ _ _ _ _ _ on_mod (@pvN _ 6 _ _ (by rfl) (by trivial) (by decide) (by decide)) (@pe_int _ _ _ _))))) (@pss_nil _)) (@pss_cons _ _ _ _ _ (@ps_if _ _ _ _ _ _ _ _ (@pt_cmpRN _ _ _ _ _ _ _ _ (op_qEq hr.units) (@pvN _ 7 _ _ (by rfl) (by trivial) (by decide) (by decide)) (@pe_int _ _ _ _) (nomark _)) (@pss_one _ _ _ (@ps_ret _ _ _ _ (@pe_op _ _ _ _ _ _ _ _ on_sub (@pe_op _ _ _ _ _ _ _ _ on_sub (@pvN _ 4 _ _ (by rfl) (by trivial) (by decide) (by decide)) (@pe_int _ _ _ _)) (@pe_op _ _ _ _ _ _ _ _ on_mod (@pvN _ 6 _ _ (by rfl) (by trivial) (by decide) (by decide)) (@pe_int _ _ _ _))))) (@pss_nil _)) (@pss_cons _ _ _ _ _ (@ps_if _ _ _ _ _ _ _ _ (@pt_cmpRN _ _ _ _ _ _ _ _ on_gt (@pvN _ 7 _ _ (by rfl) (by trivial) (by decide) (by decide)) (@pe_int _ _ _ _) (nomark _)) (@pss_one _ _ _ (@ps_ret _ _ _ _ (@pe_op _ _ _ _ _ _ _ _ on_add (@pe_op _ _ _ _ _ _ _ _ on_add (@pe_op _ _ _ _ _ _ _ _ on_sub (@pe_op _ _ _ _ _ _ _ _ on_mul (@pe_op _ _ _ _ _ _ _ _ on_mod (@pvN _ 6 _ _ (by rfl) (by trivial) (by decide) (by decide)) (@pe_int _ _ _ _)) (@pvN _ 2 _ _ (by rfl) (by trivial) (by decide) (by decide))) (@pe_op _ _ _ _ _ _ _ _ on_mul (@pe_int _ _ _ _) (@pvN _ 2 _ _ (by rfl) (by trivial) (by decide) (by decide)))) (@pe_int _ _ _ _)) (@pe_op _ _ _ _ _ _ _ _ on_mod (@pe_op _ _ _ _ _ _ _ _ on_fdiv (@pvN _ 6 _ _ (by rfl) (by trivial) (by decide) (by decide)) (@pe_int _ _ _ _)) (@pvN _ 2 _ _ (by rfl) (by trivial) (by decide) (by decide)))))) (@pss_nil _)) (@pss_one _ _ _ (@ps_ret _ _ _ _ (@pe_op _ _ _ _ _ _ _ _ on_sub (@pe_op _ _ _ _ _ _ _ _ on_mod (@pvN _ 6 _ _ (by rfl) (by trivial) (by decide) (by decide)) (@pe_int _ _ _ _)) (@pe_int _ _ _ _))))))))))),?_⟩
  rw [show start ["_law_script", "_law_terms_here", "_law_factor", "_law_wide", "_law_least", "_law_greatest", "_law_cell_here", "_law_way"] [.ref a,.ref q,.int f]=[some (.ref a),some (.ref q),some (.int f),none,none,none,none,none] from rfl]
  clear G__law_draw G__law_sums
  have h17:=ht.len
  have wk:=wk_al (K:=K) (R:=trP) (fun _ _ _ _ h e=>h.ext e) hq al
  have htr:TrAt H q zs:=⟨ts,hq,al⟩
  replace k:=fun (_:Unit)=>k
  simp! only [and_true]
  refine comp_rel2 zs (fun _=>true) trP (fun D z y H'=>axP z.2 y H') wk.1 wk.2 (fun D z y H1 H2 h e=>axP.ext (a:=z.2) h e) (fun D z y H1 xs o h hD=>axP.upd (z:=z.2) h hD) (len5000 (by omega)) ?_ ?_
  ·intro D z y H' N1 N0 hz hD e _ ⟨q',hy,hq'⟩ k1 _
   subst hy
   have k1':=k1 rfl
   clear k1 k wk htr hb hq
   simp! only [↓m_kCm_3,↓m_kCm2]
   intro t1 H6 ht1 e6 h6
   exact k1' _ H6 e6 ⟨t1,rfl,h6⟩
  intro D zs2 H2 hD e2 h2 al2
  rw [filt] at al2
  have pr2:PrAt H2 D (zs.map fun z=>z.2):=⟨zs2,h2,al_mapR al2⟩
  have hS2:=e2.2 K a _ hS
  clear al2 wk hD h2
  simp! only [and_true]
  rw [c_spKSums]
  refine ⟨zs,_,tr_ext htr e2,pr2,ht,by rw [List.length_map],fun r3 H3 e3 h3=>?_⟩
  have hS3:=e3.2 K a _ hS2
  generalize lsum zs (zs.map fun z=>z.2)=l at *
  generalize gsum zs (zs.map fun z=>z.2)=gr at *
  have k':=fun (_:Unit)=>fun g=>k () g H3 (e2.trans e3)
  have dc:=drawF_bnd (ns:=ns) (k:=21) (m:=1000000000) (by decide)
  have dw:=drawF_bnd (ns:=ns) (k:=22) (m:=6) (by decide)
  clear k hS hS2 pr2 htr e2 e3 hq
  simp! only [and_true]
  rw [c_spDrawX]
  refine ⟨hS3,hl,⟨by decide,by decide⟩,by decide,?_⟩
  simp! only [and_true]
  rw [c_spDrawX]
  refine ⟨hS3,hl,⟨by decide,by decide⟩,by decide,?_⟩
  generalize drawF ns 21 1000000000=c at *
  generalize drawF ns 22 6=wy at *
  have c3:0≤c % 3∧c % 3 < 3:=by omega
  have c13:0≤c % 13∧c % 13 < 13:=by omega
  have c81:0≤c % 81∧c % 81 < 81:=by omega
  by_cases w4:wy=4
  ·have k2:=k' () (gr+1+c % 3) (by omega) (fun _=>.inr (by omega))
   clear k' hS3 h3
   simp! only [and_true]
  by_cases w5:wy=5
  ·have k2:=k' () (l - 1 - c % 3) (by omega) (fun _=>.inl (by omega))
   clear k' hS3 h3
   simp! only [and_true]
  by_cases w1:1 < wy
  ·have cf:0≤c / 13 % f∧c / 13 % f < f:=⟨Int.emod_nonneg _ (by omega),Int.emod_lt_of_pos _ (by omega)⟩
   have u1:=Int.mul_le_mul (show c % 13≤12 by omega) f2 (by omega) (by decide)
   have u2:=Int.mul_nonneg c13.1 (show 0≤f by omega)
   have k2:=k' () (c % 13 * f - 6 * f+1+c / 13 % f) (by omega) (fun h=>by omega)
   have cm1:CMul (c % 13) f:=.inr ⟨by omega,by omega⟩
   have cm2:CMul 6 f:=.inr ⟨by omega,by omega⟩
   have f0:0 < f:=by omega
   clear k' hS3 h3 u1 u2 cf
   simp! only [and_true]
  ·have k2:=k' () (c % 81 - 40) (by omega) (fun h=>by omega)
   clear k' hS3 h3
   simp! only [and_true]
theorem AxK.axes {A:List (Int × Int)}(h:AxK A):Axes (A.map keptA):=kept_axes ⟨by have:=h.len;omega,fun a ha=>by have:=(h.sz a ha).1;omega⟩
theorem sg_abs (a:Int × Int):absI (sgP (-1) a).1=absI (sgP 1 a).1:=by
 show absI (-1 * (keptA a).2)=absI (1 * (keptA a).2)
 unfold absI;omega
theorem cap_app:∀ (P Q:List (Int × Int)) (t:Int),capF (P++Q) t=capF P t+capF Q t
 | [],Q,t=>(Int.zero_add _).symm
 | z::P,Q,t=>by
  show capF (z::(P++Q)) t=_
  rw [cap_cons,cap_cons,cap_app P Q t,Int.add_assoc]
theorem cap_sg:∀ (A:List (Int × Int)) (t:Int),capF (A.map (sgP (-1))) t=capF (A.map (sgP 1)) t
 | [],_=>rfl
 | a::A,t=>by
  rw [List.map_cons,List.map_cons,cap_cons,cap_cons,cap_sg A t,sg_abs];rfl
theorem cap_swap (A B:List (Int × Int)):capF (pullL (B.map keptA) (A.map keptA))=capF (pullL (A.map keptA) (B.map keptA)):=by
 funext t
 rw [pull_sg,pull_sg,cap_app,cap_app,cap_sg,cap_sg,Int.add_comm]
theorem mem_sg {A B:List (Int × Int)}{t:Int}:(∃ z∈A.map (sgP 1)++B.map (sgP (-1)),absI z.1=t) ↔ (∃ a∈A,absI (sgP 1 a).1=t)∨∃ a∈B,absI (sgP 1 a).1=t:=by
 constructor
 ·rintro ⟨z,hz,e⟩
  rcases List.mem_append.mp hz with hz|hz
  ·obtain ⟨a,ha,rfl⟩:=List.mem_map.mp hz
   exact .inl ⟨a,ha,e⟩
  ·obtain ⟨a,ha,rfl⟩:=List.mem_map.mp hz
   exact .inr ⟨a,ha,by rw [←sg_abs];exact e⟩
 ·rintro (⟨a,ha,e⟩|⟨a,ha,e⟩)
  ·exact ⟨_,List.mem_append_left _ (List.mem_map_of_mem ha),e⟩
  ·exact ⟨_,List.mem_append_right _ (List.mem_map_of_mem ha),by rw [sg_abs];exact e⟩
theorem KsOk.swap {ks:List Int}{A B:List (Int × Int)}(h:KsOk ks (pullL (A.map keptA) (B.map keptA))):KsOk ks (pullL (B.map keptA) (A.map keptA)):=by
 refine ⟨h.nd,?_,fun t=>?_,h.ord⟩
 ·have:=h.len
  rw [pull_sg,List.length_append,List.length_map,List.length_map] at this ⊢
  omega
 ·have:=h.mem t
  rw [pull_sg,mem_sg] at this ⊢
  rw [this]
  exact ⟨fun x=>⟨x.1,x.2.symm⟩,fun x=>⟨x.1,x.2.symm⟩⟩
theorem prod_told {A B:List (Int × Int)}{ks:List Int}(hA:AxK A) (hB:AxK B) (hk:KsOk ks (pullL (A.map keptA) (B.map keptA))){m:Int}(hm:volL ((termsF ks (pullL (A.map keptA) (B.map keptA))).map fun z=>z.2)=m):(1≤2 * m - 1∧2 * m - 1≤1151)∧(∀ l,KsOk l (pullL (A.map keptA) (B.map keptA))->2 * prodF l (capF (pullL (A.map keptA) (B.map keptA))) - 1≤2 * m - 1)∧∀ l,KsOk l (pullL (B.map keptA) (A.map keptA))->2 * prodF l (capF (pullL (B.map keptA) (A.map keptA))) - 1≤2 * m - 1:=by
 rw [vol_terms] at hm
 have hp:=AxK.pull hA hB
 have h1:=(hp.tms hk).2
 have h2:=prodF_pos (cap_nn fun z hz=>(hp.sz z hz).1.1) ks
 refine ⟨by omega,fun l hl=>by rw [hl.uniq hk];omega,fun l hl=>?_⟩
 rw [hl.swap.uniq hk,cap_swap];omega
theorem tms_fac {A B:List (Int × Int)}{ks:List Int}(hA:AxK A) (hB:AxK B) (hk:KsOk ks (pullL (A.map keptA) (B.map keptA))):(termsF ks (pullL (A.map keptA) (B.map keptA))).length≤17∧∀ z∈termsF ks (pullL (A.map keptA) (B.map keptA)),0≤z.2.2 - z.2.1+1∧z.2.2 - z.2.1+1≤2000000000:=by
 have hp:=AxK.pull hA hB
 have one:∀ y∈pullL (A.map keptA) (B.map keptA),(1:Int)≤y.2:=fun y hy=>(hp.sz y hy).1.1
 refine ⟨by unfold termsF;rw [List.length_map];have:=hk.len;have:=hp.len;omega,fun z hz=>?_⟩
 unfold termsF at hz
 obtain ⟨t,ht,rfl⟩:=List.mem_map.mp hz
 have h1:=cap_le (fun x hx=>(hp.sz x hx).1) t
 have h2:=cap_nn one t
 have h3:=high_low (pullL (A.map keptA) (B.map keptA)) t
 have h4:=hp.len
 show 0≤highF _ t - lowF _ t+1∧highF _ t - lowF _ t+1≤_
 omega
theorem ans_of {A B:List (Int × Int)}{g mo:Int}{ks:List Int}{o:Option (List Int)}{pp:List (List V)}{H0 H:Hp}{r:Addr}(hA:AxK A) (hB:AxK B) (sr:ShRes (A.map keptA) (B.map keptA) g ks o pp) (w:ShV H0 H r (A.map keptA).length ks (pullL (A.map keptA) (B.map keptA)) pp o) (hm:∀ l,KsOk l (pullL (A.map keptA) (B.map keptA))->2 * prodF l (capF (pullL (A.map keptA) (B.map keptA))) - 1≤mo):AnsOk H r A B g mo:=by
 cases o with
 | some xs=>
  obtain ⟨a1,a2,w1,w2,w3⟩:=w
  rw [List.length_map] at w2 w3
  obtain ⟨s1,s2,s3⟩:=sh_met sr
  exact .inl ⟨_,_,a1,a2,w1,w2,w3,s1,s2,s3⟩
 | none=>
  obtain ⟨a1,_,w1,w2⟩:=w
  obtain ⟨h1,h2⟩:=sr.ap rfl
  have h3:=hm ks sr.kok
  have h4:=((AxK.pull hA hB).tms sr.kok).2
  exact .inr ⟨pp,a1,w1,w2,by omega,by omega,fun l hl=>by rw [hl.uniq sr.kok];exact h1⟩
theorem out_no {A B:List (Int × Int)}{g:Int}{ks xs:List Int}{pp:List (List V)}{zs:List Tm3}(hA:AxK A) (hB:AxK B) (sr:ShRes (A.map keptA) (B.map keptA) g ks (some xs) pp) (hk:termsF ks (pullL (A.map keptA) (B.map keptA))=zs) (hg:g < lsum zs (zs.map fun z=>z.2)∨gsum zs (zs.map fun z=>z.2) < g):False:=by
 subst hk
 obtain ⟨_,_,h1,h2⟩:=sr.sh xs rfl
 have ht:=((AxK.pull hA hB).tms sr.kok).1
 have:=val_between (fun z hz=>by have:=(ht.all z hz).1;omega) (by rw [List.length_map]) h1
 omega
def PureS (s:List V):Prop:=∀ v∈s,(∃ i,v=.int i)∨∃ z,v=.str z∧PyData.strOk z=true
def datP:V->PyData
 | .int i=>.int i
 | .str z=>.str z
 | _=>.none
theorem StepOk.pure {zs:List Tm3}{g:Int}{c:Bx}{s:List V}{more:List Bx}(h:StepOk zs g c s more):PureS s:=by
 have so1:PyData.strOk (Str.ofString "low")=true:=by decide +kernel
 have so2:PyData.strOk (Str.ofString "high")=true:=by decide +kernel
 have so3:PyData.strOk (Str.ofString "rest")=true:=by decide +kernel
 have so4:PyData.strOk (Str.ofString "part")=true:=by decide +kernel
 intro v hv
 rcases h with ⟨rfl,_⟩|⟨rfl,_⟩|⟨d,rfl,_⟩|⟨k,a,rfl,_⟩
 ·rw [List.mem_singleton.mp hv];exact .inr ⟨_,rfl,so1⟩
 ·rw [List.mem_singleton.mp hv];exact .inr ⟨_,rfl,so2⟩
 ·simp only [List.mem_cons,List.not_mem_nil,or_false] at hv
  rcases hv with rfl|rfl
  ·exact .inr ⟨_,rfl,so3⟩
  ·exact .inl ⟨_,rfl⟩
 ·simp only [List.mem_cons,List.not_mem_nil,or_false] at hv
  rcases hv with rfl|rfl|rfl
  ·exact .inr ⟨_,rfl,so4⟩
  ·exact .inl ⟨_,rfl⟩
  ·exact .inl ⟨_,rfl⟩
theorem Rep.pure {zs:List Tm3}{g:Int}:∀ {p:List (List V)}{st st':List Bx},Rep zs g st p st'->∀ s∈p,PureS s
 | [],_,_,_,_,h=>by cases h
 | _::_,[],_,h,_,_=>h.elim
 | s'::p,c::st,st',⟨m,h1,_,h3⟩,s,hs=>by
  rcases List.mem_cons.mp hs with rfl|hs
  ·exact h1.pure
  ·exact Rep.pure h3 s hs
theorem pure_dat {H:Hp}{f:V->Option PyData}:∀ {s:List V},PureS s->allSome (s.map (datF H f))=some (s.map datP)
 | [],_=>rfl
 | v::s,h=>by
  have ih:=pure_dat (H:=H) (f:=f) (s:=s) fun u hu=>h u (List.mem_cons_of_mem _ hu)
  rcases h v List.mem_cons_self with ⟨i,rfl⟩|⟨z,rfl,hz⟩
  ·rw [List.map_cons,m_datF_int,m_allSome_cons,ih];rfl
  ·rw [List.map_cons,m_datF_str,if_pos hz,m_allSome_cons,ih];rfl
theorem pure_eqv:∀ {s:List V},PureS s->PyData.eqvAll (s.map datP) (s.map datP)=true
 | [],_=>eqvAll_nil
 | v::s,h=>by
  have ih:=pure_eqv (s:=s) fun u hu=>h u (List.mem_cons_of_mem _ hu)
  rw [List.map_cons,eqvAll_cons,ih,Bool.and_true]
  rcases h v List.mem_cons_self with ⟨i,rfl⟩|⟨z,rfl,hz⟩
  ·show PyData.eqv (.int i) (.int i)=true
   rw [eqv_int];exact decide_eq_true rfl
  ·show PyData.eqv (.str z) (.str z)=true
   rw [eqv_str];exact beq_self_eq_true _
theorem pap_all {H:Hp}{f:V->Option PyData}:∀ {pp:List (List V)}{ys:List V},PapL H pp ys->(∀ s∈pp,PureS s)->allSome (ys.map (datF H (datF H f)))=some (pp.map fun s=>PyData.tuple (s.map datP))
 | [],ys,h,_=>by rw [List.eq_nil_of_length_eq_zero h.1];rfl
 | s::pp,[],h,_=>by have:=h.1;simp at this
 | s::pp,y::ys,h,hp=>by
  obtain ⟨q,rfl,hq⟩:=h.2 0 s y rfl rfl
  have ih:=pap_all (H:=H) (f:=f) (pp:=pp) (ys:=ys) ⟨by have:=h.1;simpa using this,fun i z y a b=>h.2 (i+1) z y (by simpa using a) (by simpa using b)⟩ fun u hu=>hp u (List.mem_cons_of_mem _ hu)
  have e1:datF H (datF H f) (.ref q)=some (.tuple (s.map datP)):=by
   rw [m_datF_ref,hq]
   show datO (datF H f) (.tup s)=_
   rw [m_datO_tup,pure_dat (hp s List.mem_cons_self)];rfl
  rw [List.map_cons,e1,m_allSome_cons,ih];rfl
theorem pap_eqv:∀ {pp:List (List V)},(∀ s∈pp,PureS s)->PyData.eqvAll (pp.map fun s=>PyData.tuple (s.map datP)) (pp.map fun s=>PyData.tuple (s.map datP))=true
 | [],_=>eqvAll_nil
 | s::pp,h=>by
  rw [List.map_cons,eqvAll_cons,eqv_tuple,pure_eqv (h s List.mem_cons_self),pap_eqv fun u hu=>h u (List.mem_cons_of_mem _ hu)];rfl
abbrev B_spLaw (K:PySem.W.Frag) (a:Addr) (H:Hp) (Q:VK) (E:XK):Prop:=∃ ns:List Int,SqL K H a (ns.map V.int)∧ns.length≤63∧∀ H',Q (.bl true) H'
def spLaw (K:PySem.W.Frag):Sp:=fun vs H Q E=>∃ (a:Addr),vs=[.ref a]∧(B_spLaw K a H Q E)
theorem l_spLaw (K:PySem.W.Frag){vs:List V}{H:Hp}{Q:VK}{E:XK}(h:spLaw K vs H Q E):vs.length=1:=spl1 h fun _=>rfl
theorem ok_law (T:Tx K mg t):FnOk P w K mg base CX0 9 t.a_law t.d_law ["_law_script"] (spLaw K):=by
 refine T.F_law.ok c_law (fun vs H Q E h=>l_spLaw _ h) (fun cdv A' outer s H vs Q E hr h=>?_)
 ·obtain ⟨a,rfl,ns,hS,hl,kk⟩:=h
  have G__law_axes:=ok__law_axes (P:=P) (w:=w) (base:=base) T a ns
  have G__law_draw:=okx__law_draw (P:=P) (w:=w) (base:=base) T a ns
  have G__law_goal:=ok__law_goal (P:=P) (w:=w) (base:=base) T a ns
  have G__law_placed:=ok__law_placed (P:=P) (w:=w) (base:=base) T
  have G__law_terms:=ok__law_terms (P:=P) (w:=w) (base:=base) T
  have G__law_product:=ok__law_product (P:=P) (w:=w) (base:=base) T
  have G_shares:=ok_shares (P:=P) (w:=w) (base:=base) T
  have G__law_answer:=ok__law_answer (P:=P) (w:=w) (base:=base) T
  refine ⟨_,(@pss_cons _ _ _ _ _ (@ps_set _ _ (1) _ _ _ _ c_law.nd rfl (Or.inl rfl) (@pe_op _ _ _ _ _ _ _ _ on_add (@pe_int _ _ _ _) (@pe_call _ _ _ _ _ _ _ _ _ _ _ _ _ _ _ _ G__law_draw (hr.mono (by decide)) (by rfl) T.m__law_draw T.F__law_draw.kp T.b__law_draw .nil pass0 (@pa_c _ _ _ _ _ (@pvN _ 0 _ _ (by rfl) (by trivial) (by decide) (by decide)) (@pa_c _ _ _ _ _ (@pe_int _ _ _ _) (@pa_c _ _ _ _ _ (@pe_int _ _ _ _) (@pa_nil _) (by rfl)) (by rfl)) (by rfl)) (by decide) (by rfl) (by rfl))) (by rfl) (by trivial)) (@pss_cons _ _ _ _ _ (@ps_set _ _ (2) _ _ _ _ c_law.nd rfl (Or.inl rfl) (@pe_call _ _ _ _ _ _ _ _ _ _ _ _ _ _ _ _ G__law_axes (hr.mono (by decide)) (by rfl) T.m__law_axes T.F__law_axes.kp T.b__law_axes .nil pass0 (@pa_c _ _ _ _ _ (@pvN _ 0 _ _ (by rfl) (by trivial) (by decide) (by decide)) (@pa_c _ _ _ _ _ (@pe_int _ _ _ _) (@pa_c _ _ _ _ _ (@pvN _ 1 _ _ (by rfl) (by trivial) (by decide) (by decide)) (@pa_nil _) (by rfl)) (by rfl)) (by rfl)) (by decide) (by rfl) (by rfl)) (by rfl) (by trivial)) (@pss_cons _ _ _ _ _ (@ps_set _ _ (3) _ _ _ _ c_law.nd rfl (Or.inl rfl) (@pe_call _ _ _ _ _ _ _ _ _ _ _ _ _ _ _ _ G__law_axes (hr.mono (by decide)) (by rfl) T.m__law_axes T.F__law_axes.kp T.b__law_axes .nil pass0 (@pa_c _ _ _ _ _ (@pvN _ 0 _ _ (by rfl) (by trivial) (by decide) (by decide)) (@pa_c _ _ _ _ _ (@pe_int _ _ _ _) (@pa_c _ _ _ _ _ (@pvN _ 1 _ _ (by rfl) (by trivial) (by decide) (by decide)) (@pa_nil _) (by rfl)) (by rfl)) (by rfl)) (by decide) (by rfl) (by rfl)) (by rfl) (by trivial)) (@pss_cons _ _ _ _ _ (@ps_set _ _ (4) _ _ _ _ c_law.nd rfl (Or.inl rfl) (@pe_call _ _ _ _ _ _ _ _ _ _ _ _ _ _ _ _ G__law_terms (hr.mono (by decide)) (by rfl) T.m__law_terms T.F__law_terms.kp T.b__law_terms .nil pass0 (@pa_c _ _ _ _ _ (@pvN _ 2 _ _ (by rfl) (by trivial) (by decide) (by decide)) (@pa_c _ _ _ _ _ (@pvN _ 3 _ _ (by rfl) (by trivial) (by decide) (by decide)) (@pa_nil _) (by rfl)) (by rfl)) (by decide) (by rfl) (by rfl)) (by rfl) (by trivial)) (@pss_cons _ _ _ _ _ (@ps_set _ _ (5) _ _ _ _ c_law.nd rfl (Or.inl rfl) (@pe_call _ _ _ _ _ _ _ _ _ _ _ _ _ _ _ _ G__law_goal (hr.mono (by decide)) (by rfl) T.m__law_goal T.F__law_goal.kp T.b__law_goal .nil pass0 (@pa_c _ _ _ _ _ (@pvN _ 0 _ _ (by rfl) (by trivial) (by decide) (by decide)) (@pa_c _ _ _ _ _ (@pvN _ 4 _ _ (by rfl) (by trivial) (by decide) (by decide)) (@pa_c _ _ _ _ _ (@pvN _ 1 _ _ (by rfl) (by trivial) (by decide) (by decide)) (@pa_nil _) (by rfl)) (by rfl)) (by rfl)) (by decide) (by rfl) (by rfl)) (by rfl) (by trivial)) (@pss_cons _ _ _ _ _ (@ps_asg _ _ _ _ _ _ (@pe_call _ _ _ _ _ _ _ _ _ _ _ _ _ _ _ _ G__law_placed (hr.mono (by decide)) (by rfl) T.m__law_placed T.F__law_placed.kp T.b__law_placed .nil pass0 (@pa_c _ _ _ _ _ (@pvN _ 2 _ _ (by rfl) (by trivial) (by decide) (by decide)) (@pa_c _ _ _ _ _ (@pvN _ 3 _ _ (by rfl) (by trivial) (by decide) (by decide)) (@pa_c _ _ _ _ _ (@pvN _ 5 _ _ (by rfl) (by trivial) (by decide) (by decide)) (@pa_c _ _ _ _ _ (@pe_call _ _ _ _ _ _ _ _ _ _ _ _ _ _ _ _ G__law_draw (hr.mono (by decide)) (by rfl) T.m__law_draw T.F__law_draw.kp T.b__law_draw .nil pass0 (@pa_c _ _ _ _ _ (@pvN _ 0 _ _ (by rfl) (by trivial) (by decide) (by decide)) (@pa_c _ _ _ _ _ (@pe_int _ _ _ _) (@pa_c _ _ _ _ _ (@pe_int _ _ _ _) (@pa_nil _) (by rfl)) (by rfl)) (by rfl)) (by decide) (by rfl) (by rfl)) (@pa_c _ _ _ _ _ (@pe_call _ _ _ _ _ _ _ _ _ _ _ _ _ _ _ _ G__law_draw (hr.mono (by decide)) (by rfl) T.m__law_draw T.F__law_draw.kp T.b__law_draw .nil pass0 (@pa_c _ _ _ _ _ (@pvN _ 0 _ _ (by rfl) (by trivial) (by decide) (by decide)) (@pa_c _ _ _ _ _ (@pe_int _ _ _ _) (@pa_c _ _ _ _ _ (@pe_int _ _ _ _) (@pa_nil _) (by rfl)) (by rfl)) (by rfl)) (by decide) (by rfl) (by rfl)) (@pa_nil _) (by rfl)) (by rfl)) (by rfl)) (by rfl)) (by rfl)) (by decide) (by rfl) (by rfl)) ((@pg_tup _ _ _ _ _ (2) rfl (@pgs_consN _ _ _ _ _ (@pg_name _ _ (6) _ c_law.nd rfl (Or.inl rfl) (by trivial)) (@pgs_consN _ _ _ _ _ (@pg_name _ _ (7) _ c_law.nd rfl (Or.inl rfl) (by trivial)) (@pgs_nilN _) (by rfl)) (by rfl)) (by rfl) (by rfl)).mono fun _ _ _ _ h=>gTup_q h) (by rfl) (by rfl) (by rfl)) (@pss_cons _ _ _ _ _ (@ps_set _ _ (8) _ _ _ _ c_law.nd rfl (Or.inl rfl) (@pe_op _ _ _ _ _ _ _ _ on_sub (@pe_op _ _ _ _ _ _ _ _ on_mul (@pe_int _ _ _ _) (@pe_call _ _ _ _ _ _ _ _ _ _ _ _ _ _ _ _ G__law_product (hr.mono (by decide)) (by rfl) T.m__law_product T.F__law_product.kp T.b__law_product .nil pass0 (@pa_c _ _ _ _ _ (@pvN _ 4 _ _ (by rfl) (by trivial) (by decide) (by decide)) (@pa_nil _) (by rfl)) (by decide) (by rfl) (by rfl))) (@pe_int _ _ _ _)) (by rfl) (by trivial)) (@pss_cons _ _ _ _ _ (@ps_set _ _ (9) _ _ _ _ c_law.nd rfl (Or.inl rfl) (@pe_call _ _ _ _ _ _ _ _ _ _ _ _ _ _ _ _ G_shares (hr.mono (by decide)) (by rfl) T.m_shares T.F_shares.kp T.b_shares .nil pass0 (@pa_c _ _ _ _ _ (@pvN _ 6 _ _ (by rfl) (by trivial) (by decide) (by decide)) (@pa_c _ _ _ _ _ (@pvN _ 7 _ _ (by rfl) (by trivial) (by decide) (by decide)) (@pa_c _ _ _ _ _ (@pvN _ 8 _ _ (by rfl) (by trivial) (by decide) (by decide)) (@pa_nil _) (by rfl)) (by rfl)) (by rfl)) (by decide) (by rfl) (by rfl)) (by rfl) (by trivial)) (@pss_cons _ _ _ _ _ (@ps_if _ _ _ _ _ _ _ _ (@pt_not _ _ _ _ (@pt_valN _ _ _ (@pe_call _ _ _ _ _ _ _ _ _ _ _ _ _ _ _ _ G__law_answer (hr.mono (by decide)) (by rfl) T.m__law_answer T.F__law_answer.kp T.b__law_answer .nil pass0 (@pa_c _ _ _ _ _ (@pvN _ 9 _ _ (by rfl) (by trivial) (by decide) (by decide)) (@pa_c _ _ _ _ _ (@pvN _ 2 _ _ (by rfl) (by trivial) (by decide) (by decide)) (@pa_c _ _ _ _ _ (@pvN _ 3 _ _ (by rfl) (by trivial) (by decide) (by decide)) (@pa_c _ _ _ _ _ (@pvN _ 5 _ _ (by rfl) (by trivial) (by decide) (by decide)) (@pa_c _ _ _ _ _ (@pvN _ 8 _ _ (by rfl) (by trivial) (by decide) (by decide)) (@pa_nil _) (by rfl)) (by rfl)) (by rfl)) (by rfl)) (by rfl)) (by decide) (by rfl) (by rfl)) (by intros;rfl))) (@pss_one _ _ _ (@ps_ret _ _ _ _ (@pe_bl _ _ _ _))) (@pss_nil _)) (@pss_cons _ _ _ _ _ (@ps_if _ _ _ _ _ _ _ _ (PW.pt (@pw_and _ _ _ _ _ _ _ (@pt_cmpRN _ _ _ _ _ _ _ _ on_gt (@pe_call _ _ _ _ _ _ _ _ _ _ _ _ _ _ _ _ G__law_draw (hr.mono (by decide)) (by rfl) T.m__law_draw T.F__law_draw.kp T.b__law_draw .nil pass0 (@pa_c _ _ _ _ _ (@pvN _ 0 _ _ (by rfl) (by trivial) (by decide) (by decide)) (@pa_c _ _ _ _ _ (@pe_int _ _ _ _) (@pa_c _ _ _ _ _ (@pe_int _ _ _ _) (@pa_nil _) (by rfl)) (by rfl)) (by rfl)) (by decide) (by rfl) (by rfl)) (@pe_int _ _ _ _) (nomark _)) (@pw_and1 _ _ _ _ (@pt_cmpRN _ _ _ _ _ _ _ _ (op_qNe hr.units) (@pe_ix _ _ _ _ _ _ _ ix_q (@pvN _ 9 _ _ (by rfl) (by trivial) (by decide) (by decide)) (@pe_int _ _ _ _) (fun _ _=>rfl)) (@pe_str _ _ _ _) (nomark _))))) (@pss_one _ _ _ (@ps_ret _ _ _ _ (@pe_bl _ _ _ _))) (@pss_nil _)) (@pss_cons _ _ _ _ _ (@ps_if _ _ _ _ _ _ _ _ (@pt_not _ _ _ _ (@pt_valN _ _ _ (@pe_call _ _ _ _ _ _ _ _ _ _ _ _ _ _ _ _ G__law_answer (hr.mono (by decide)) (by rfl) T.m__law_answer T.F__law_answer.kp T.b__law_answer .nil pass0 (@pa_c _ _ _ _ _ (@pe_call _ _ _ _ _ _ _ _ _ _ _ _ _ _ _ _ G_shares (hr.mono (by decide)) (by rfl) T.m_shares T.F_shares.kp T.b_shares .nil pass0 (@pa_c _ _ _ _ _ (@pvN _ 7 _ _ (by rfl) (by trivial) (by decide) (by decide)) (@pa_c _ _ _ _ _ (@pvN _ 6 _ _ (by rfl) (by trivial) (by decide) (by decide)) (@pa_c _ _ _ _ _ (@pvN _ 8 _ _ (by rfl) (by trivial) (by decide) (by decide)) (@pa_nil _) (by rfl)) (by rfl)) (by rfl)) (by decide) (by rfl) (by rfl)) (@pa_c _ _ _ _ _ (@pvN _ 3 _ _ (by rfl) (by trivial) (by decide) (by decide)) (@pa_c _ _ _ _ _ (@pvN _ 2 _ _ (by rfl) (by trivial) (by decide) (by decide)) (@pa_c _ _ _ _ _ (@pe_op _ _ _ _ _ _ _ _ on_sub (@pe_int _ _ _ _) (@pvN _ 5 _ _ (by rfl) (by trivial) (by decide) (by decide))) (@pa_c _ _ _ _ _ (@pvN _ 8 _ _ (by rfl) (by trivial) (by decide) (by decide)) (@pa_nil _) (by rfl)) (by rfl)) (by rfl)) (by rfl)) (by rfl)) (by decide) (by rfl) (by rfl)) (by intros;rfl))) (@pss_one _ _ _ (@ps_ret _ _ _ _ (@pe_bl _ _ _ _))) (@pss_nil _)) (@pss_cons _ _ _ _ _ (@ps_if _ _ _ _ _ _ _ _ (@pt_cmpRN _ _ _ _ _ _ _ _ (op_qEq hr.units) (@pe_ix _ _ _ _ _ _ _ ix_q (@pvN _ 9 _ _ (by rfl) (by trivial) (by decide) (by decide)) (@pe_int _ _ _ _) (fun _ _=>rfl)) (@pe_str _ _ _ _) (nomark _)) (@pss_cons _ _ _ _ _ (@ps_set _ _ (10) _ _ _ _ c_law.nd rfl (Or.inl rfl) (@pe_qTup _ _ _ _ _ (@pa_c _ _ _ _ _ (@pe_str _ _ _ _) (@pa_c _ _ _ _ _ (@pe_callTy _ _ _ _ _ _ _ _ _ call_nList (by rfl) T.z_list (by decide +kernel) (@pa_c _ _ _ _ _ (@pe_ix _ _ _ _ _ _ _ ix_q (@pvN _ 9 _ _ (by rfl) (by trivial) (by decide) (by decide)) (@pe_int _ _ _ _) (fun _ _=>rfl)) (@pa_nil _) (by rfl)) (by decide) (by decide) (by rfl) (by rfl)) (@pa_nil _) (by rfl)) (by rfl))) (by rfl) (by trivial)) (@pss_cons _ _ _ _ _ (@ps_expr _ _ _ _ (@pe_bm0 _ _ _ _ _ _ _ _ _ PySem.F.plainAttrs_list PySem.F.slot_list_clear PySem.F.type_list_clear mt_clear (@pe_ix _ _ _ _ _ _ _ ix_q (@pvN _ 9 _ _ (by rfl) (by trivial) (by decide) (by decide)) (@pe_int _ _ _ _) (fun _ _=>rfl)) (by rfl) (by rfl)) (by rfl)) (@pss_one _ _ _ (@ps_ret _ _ _ _ (@pe_cmpR _ _ _ _ _ _ _ _ (op_qEq hr.units) (@pe_call _ _ _ _ _ _ _ _ _ _ _ _ _ _ _ _ G_shares (hr.mono (by decide)) (by rfl) T.m_shares T.F_shares.kp T.b_shares .nil pass0 (@pa_c _ _ _ _ _ (@pvN _ 6 _ _ (by rfl) (by trivial) (by decide) (by decide)) (@pa_c _ _ _ _ _ (@pvN _ 7 _ _ (by rfl) (by trivial) (by decide) (by decide)) (@pa_c _ _ _ _ _ (@pvN _ 8 _ _ (by rfl) (by trivial) (by decide) (by decide)) (@pa_nil _) (by rfl)) (by rfl)) (by rfl)) (by decide) (by rfl) (by rfl)) (@pvN _ 10 _ _ (by rfl) (by trivial) (by decide) (by decide)) (nomark _)))))) (@pss_nil _)) (@pss_one _ _ _ (@ps_ret _ _ _ _ (@pe_cmpR _ _ _ _ _ _ _ _ (op_qEq hr.units) (@pe_call _ _ _ _ _ _ _ _ _ _ _ _ _ _ _ _ G_shares (hr.mono (by decide)) (by rfl) T.m_shares T.F_shares.kp T.b_shares .nil pass0 (@pa_c _ _ _ _ _ (@pvN _ 6 _ _ (by rfl) (by trivial) (by decide) (by decide)) (@pa_c _ _ _ _ _ (@pvN _ 7 _ _ (by rfl) (by trivial) (by decide) (by decide)) (@pa_c _ _ _ _ _ (@pvN _ 8 _ _ (by rfl) (by trivial) (by decide) (by decide)) (@pa_nil _) (by rfl)) (by rfl)) (by rfl)) (by decide) (by rfl) (by rfl)) (@pvN _ 9 _ _ (by rfl) (by trivial) (by decide) (by decide)) (nomark _)))))))))))))))),?_⟩
  rw [show start ["_law_script", "_law_factor", "_law_one", "_law_other", "_law_terms_here", "_law_goal_here", "_law_here", "_law_there", "_law_most", "_law_found", "_law_kept"] [.ref a]=[some (.ref a),none,none,none,none,none,none,none,none,none,none] from rfl]
  clear G__law_axes G__law_draw G__law_goal G__law_placed G__law_terms G__law_product G_shares G__law_answer
  replace kk:=fun (_:Unit)=>kk
  simp! only [and_true]
  rw [c_spDrawX]
  refine ⟨hS,hl,⟨by decide,by decide⟩,by decide,?_⟩
  have d0:=drawF_bnd (ns:=ns) (k:=0) (m:=6) (by decide)
  generalize drawF ns 0 6=d1 at *
  simp! only [and_true]
  rw [c_spKAxes]
  refine ⟨rfl,hS,hl,by decide,by decide,by omega,by omega,fun A p H1 e1 p1 kA=>?_⟩
  have hS1:=e1.2 K a _ hS
  simp! only [and_true]
  rw [c_spKAxes]
  refine ⟨rfl,hS1,hl,by decide,by decide,by omega,by omega,fun B q H2 e2 p2 kB=>?_⟩
  have hS2:=e2.2 K a _ hS1
  have p1_2:=pr_ext p1 e2
  have a3:=kA.len
  have b3:=kB.len
  have oA:∀ b∈A,(1:Int)≤b.1:=fun b hb=>(kA.sz b hb).1.1
  have oB:∀ b∈B,(1:Int)≤b.1:=fun b hb=>(kB.sz b hb).1.1
  have hA8:A.length≤8:=by omega
  have hB8:B.length≤8:=by omega
  replace oA:=fun (_:Unit)=>oA
  replace oB:=fun (_:Unit)=>oB
  clear p1 hS hS1
  simp! only [and_true]
  rw [c_spKTerms]
  refine ⟨A,B,p1_2,p2,hA8,hB8,oA (),oB (),fun ks r3 H3 e3 t3 ko=>?_⟩
  have hS3:=e3.2 K a _ hS2
  obtain ⟨tl,tf⟩:=tms_fac kA kB ko
  have htm:=((AxK.pull kA kB).tms ko).1
  obtain ⟨m,hm⟩:∃ m,volL ((termsF ks (pullL (A.map keptA) (B.map keptA))).map fun z=>z.2)=m:=⟨_,rfl⟩
  obtain ⟨⟨m1,m2⟩,pt1,pt2⟩:=prod_told kA kB ko hm
  obtain ⟨zs,hzs⟩:∃ zs,termsF ks (pullL (A.map keptA) (B.map keptA))=zs:=⟨_,rfl⟩
  have tb:=terms_bnd kA kB ko hzs
  rw [hzs] at t3 tl tf htm hm
  replace tf:=fun (_:Unit)=>tf
  replace pt1:=fun (_:Unit)=>pt1
  replace pt2:=fun (_:Unit)=>pt2
  replace hzs:=fun (_:Unit)=>hzs
  replace ko:=fun (_:Unit)=>ko
  replace hm:=fun (_:Unit)=>hm
  clear hS2
  simp! only [and_true]
  rw [c_spKGoal]
  refine ⟨rfl,hS3,hl,by omega,by omega,zs,t3,htm,tb,fun g H4 e4 gb gw=>?_⟩
  have hS4:=e4.2 K a _ hS3
  have e24:=e3.trans e4
  replace gw:=fun (_:Unit)=>gw
  clear hS3 tb
  simp! only [and_true]
  rw [c_spDrawX]
  refine ⟨hS4,hl,⟨by decide,by decide⟩,by decide,?_⟩
  have dd1:=drawF_bnd (ns:=ns) (k:=1) (m:=4) (by decide)
  generalize drawF ns 1 4=d3 at *
  simp! only [and_true]
  rw [c_spDrawX]
  refine ⟨hS4,hl,⟨by decide,by decide⟩,by decide,?_⟩
  have dd2:=drawF_bnd (ns:=ns) (k:=2) (m:=4) (by decide)
  generalize drawF ns 2 4=d4 at *
  simp! only [and_true]
  rw [c_spKPlaced]
  refine ⟨A,B,pr_ext p1_2 e24,pr_ext p2 e24,kA,kB,dd1,dd2,gb,fun room f x1 x2 r7 H7 e7 h7 v1 v2=>?_⟩
  have e27:=e24.trans e7
  have pA7:=pr_ext p1_2 e27
  have pB7:=pr_ext p2 e27
  have hS7:=e7.2 K a _ hS4
  have t7:=tr_ext t3 (e4.trans e7)
  have hx:f+g - f=g:=by omega
  have hx':f - (f+g)=0 - g:=by omega
  replace hx:=fun (_:Unit)=>hx
  replace hx':=fun (_:Unit)=>hx'
  clear gb p1_2 p2 hS4 e3 e4 e24 e27 e7 e1 e2 d0 dd1 dd2 t3
  simp! only [and_true]
  rw [c_spKProd]
  refine ⟨zs,t7,tl,tf (),fun H8 e8=>?_⟩
  rw [hm ()]
  have hS8:=e8.2 K a _ hS7
  have cm:CMul 2 m:=.inl ⟨by decide,by decide⟩
  clear tf t7 h7 hS7
  simp! only [and_true]
  clear cm
  obtain ⟨mo,hmo⟩:∃ mo,2 * m - 1=mo:=⟨_,rfl⟩
  rw [hmo] at pt1 pt2 m1 m2 ⊢
  clear hmo
  rw [c_spShares]
  refine ⟨room,f,f+g,_,_,v1.ext e8,v2.ext e8,kA.axes,kB.axes,m1,by omega,sh_ok kA kB (pt1 ()),fun ks1 o1 pp1 r9 H9 e9 sr w1=>?_⟩
  rw [hx ()] at sr
  have an:=ans_of kA kB sr w1 (pt1 ())
  have e79:=e8.trans e9
  have hS9:=e9.2 K a _ hS8
  have hno:3 < drawF ns 22 6->∀ xs,o1=some xs->False:=fun h xs hxs=>by
   subst hxs
   exact out_no kA kB sr (by rw [sr.kok.uniq (ko ())];exact hzs ()) (gw () h)
  have so1:PyData.strOk (Str.ofString "apart")=true:=by decide +kernel
  have so2:PyData.strOk (Str.ofString "shared")=true:=by decide +kernel
  have sq1:(Str.ofString "apart" == Str.ofString "apart")=true:=by decide +kernel
  have sq2:(Str.ofString "shared" == Str.ofString "apart")=false:=by decide +kernel
  have sq3:(Str.ofString "shared" == Str.ofString "shared")=true:=by decide +kernel
  replace sr:=fun (_:Unit)=>sr
  replace an:=fun (_:Unit)=>an
  replace hno:=fun (_:Unit)=>hno
  clear ko hzs gw hS8 htm tl hm
  cases o1 with
  | some xs=>
   obtain ⟨a1,a2,w1,w2,w3⟩:=w1
   rw [List.length_map] at w2 w3
   have hdr:¬ 3 < drawF ns 22 6:=fun h=>hno () h xs rfl
   clear hno
   simp! only [and_true]
   rw [c_spKAns]
   refine ⟨A,B,pr_ext pA7 e79,pr_ext pB7 e79,kA,kB,an (),fun H10 e10=>?_⟩
   have e710:=e79.trans e10
   have hS10:=e10.2 K a _ hS9
   clear hS9 e79 an
   simp! only [and_true]
   rw [c_spDrawX]
   refine ⟨hS10,hl,⟨by decide,by decide⟩,by decide,?_⟩
   generalize drawF ns 22 6=dw at *
   simp! only [and_true]
   rw [c_spShares]
   refine ⟨room,f+g,f,_,_,v2.ext e710,v1.ext e710,kB.axes,kA.axes,m1,by omega,sh_ok kB kA (pt2 ()),fun ks2 o2 pp2 r11 H11 e11 sr2 u1=>?_⟩
   rw [hx' ()] at sr2
   have an2:=ans_of kB kA sr2 u1 (pt2 ())
   have e711:=e710.trans e11
   replace an2:=fun (_:Unit)=>an2
   clear sr2 u1
   simp! only [and_true]
   rw [c_spKAns]
   refine ⟨B,A,pr_ext pB7 e711,pr_ext pA7 e711,kB,kA,an2 (),fun H12 e12=>?_⟩
   have e712:=e711.trans e12
   have e912:=e10.trans (e11.trans e12)
   replace w1:=e912.at w1
   replace w2:=e912.at w2
   replace w3:=e912.at w3
   clear e10 e11 e12 e912 e711 e710 an2 hS10
   simp! only [and_true]
   rw [c_spShares]
   refine ⟨room,f,f+g,_,_,v1.ext e712,v2.ext e712,kA.axes,kB.axes,m1,by omega,sh_ok kA kB (pt1 ()),fun ks3 o3 pp3 r13 H13 e13 sr3 u1=>?_⟩
   rw [hx ()] at sr3
   obtain ⟨q1,q2,q3⟩:=sr3.uniq (sr ())
   subst q1 q2 q3
   obtain ⟨b1,b2,u1,u2,u3⟩:=u1
   rw [List.length_map] at u2 u3
   replace w1:=e13.at w1
   replace w2:=e13.at w2
   replace w3:=e13.at w3
   have k':=kk () H13
   clear sr3 kk sr
   generalize List.take A.length _=y1 at *
   generalize List.drop A.length _=y2 at *
   simp! only [and_true]
  | none=>
   obtain ⟨a1,ha1,w1,pap⟩:=w1
   clear hno
   have w10:=w1
   simp! only [and_true]
   rw [c_spKAns]
   refine ⟨A,B,pr_ext pA7 e79,pr_ext pB7 e79,kA,kB,an (),fun H10 e10=>?_⟩
   have e710:=e79.trans e10
   have hS10:=e10.2 K a _ hS9
   have w110:=e10.at w1
   clear hS9 e79 an
   simp! only [and_true]
   rw [c_spDrawX]
   refine ⟨hS10,hl,⟨by decide,by decide⟩,by decide,?_⟩
   generalize drawF ns 22 6=dw at *
   by_cases hdw:3 < dw
   ·simp! only [and_true]
    rw [c_spShares]
    refine ⟨room,f+g,f,_,_,v2.ext e710,v1.ext e710,kB.axes,kA.axes,m1,by omega,sh_ok kB kA (pt2 ()),fun ks2 o2 pp2 r11 H11 e11 sr2 u1=>?_⟩
    rw [hx' ()] at sr2
    have an2:=ans_of kB kA sr2 u1 (pt2 ())
    have e711:=e710.trans e11
    replace an2:=fun (_:Unit)=>an2
    clear sr2 u1
    simp! only [and_true]
    rw [c_spKAns]
    refine ⟨B,A,pr_ext pB7 e711,pr_ext pA7 e711,kB,kA,an2 (),fun H12 e12=>?_⟩
    have e712:=e711.trans e12
    have e912:=e10.trans (e11.trans e12)
    replace w1:=e912.at w1
    obtain ⟨ys,hy,pl⟩:=pap.ext e912
    replace pl:=fun (_:Unit)=>pl
    clear e10 e11 e12 e711 e710 an2 hS10 pap
    simp! only [and_true]
    intro l13 H13 hl13 e13 h13
    have n13:l13 ≠ a1:=fun e=>by rw [e,hy] at hl13;cases hl13
    have w1_13:=e13.at w1
    have hy13:=e13.at hy
    clear hl13 w1 hy
    simp! only [and_true]
    intro k14 H14 hk14 e14 h14
    have n14:k14 ≠ a1:=fun e=>by rw [e,hy13] at hk14;cases hk14
    have w1_14:=e14.at w1_13
    have hy14:=e14.at hy13
    have h13_14:=e14.at h13
    have pl14:=fun (_:Unit)=>(pl ()).ext (e13.trans e14)
    have e814:=e9.trans (e912.trans (e13.trans e14))
    clear hk14 w1_13 hy13 h13 pl
    have h13_15:upd H14 a1 (.lst []) l13=some (.lst ys):=by rw [upd_ne n13];exact h13_14
    have h14_15:upd H14 a1 (.lst []) k14=some (.tup [.str "apart",.ref l13]):=by rw [upd_ne n14];exact h14
    have pl15:PapL (upd H14 a1 (.lst [])) pp1 ys:=(pl14 ()).upd hy14
    have e715:Ext H7 (upd H14 a1 (.lst [])):=e8.trans (e814.put ha1)
    replace pl15:=fun (_:Unit)=>pl15
    clear e13 e14 e912 e712 n13 n14 pl14
    simp! only [and_true]
    generalize upd H14 a1 (.lst [])=H15 at *
    clear h13_14 hy14 w1_14 e814 h14
    rw [c_spShares]
    refine ⟨room,f,f+g,_,_,v1.ext e715,v2.ext e715,kA.axes,kB.axes,m1,by omega,sh_ok kA kB (pt1 ()),fun ks3 o3 pp3 r16 H16 e16 sr3 u1=>?_⟩
    rw [hx ()] at sr3
    obtain ⟨q1,q2,q3⟩:=sr3.uniq (sr ())
    subst q1 q2 q3
    have pur:=((sr ()).ap rfl).1.pure
    obtain ⟨b1,_,u1,ys2,u2,pl2⟩:=u1
    have h13_16:=e16.at h13_15
    have h14_16:=e16.at h14_15
    have d1:=pap_all (f:=datF H16 (datF H16 noD)) ((pl15 ()).ext e16) pur
    have d2:=pap_all (f:=datF H16 (datF H16 noD)) pl2 pur
    have d3:=pap_eqv pur
    have k':=kk () H16
    clear sr3 kk sr pur pl15 pl2 h13_15 h14_15
    simp! only [and_true]
   ·simp! only [and_true]
    rw [c_spShares]
    refine ⟨room,f+g,f,_,_,v2.ext e710,v1.ext e710,kB.axes,kA.axes,m1,by omega,sh_ok kB kA (pt2 ()),fun ks2 o2 pp2 r11 H11 e11 sr2 u1=>?_⟩
    rw [hx' ()] at sr2
    have an2:=ans_of kB kA sr2 u1 (pt2 ())
    have e711:=e710.trans e11
    replace an2:=fun (_:Unit)=>an2
    clear sr2 u1
    simp! only [and_true]
    rw [c_spKAns]
    refine ⟨B,A,pr_ext pB7 e711,pr_ext pA7 e711,kB,kA,an2 (),fun H12 e12=>?_⟩
    have e712:=e711.trans e12
    have e912:=e10.trans (e11.trans e12)
    replace w1:=e912.at w1
    obtain ⟨ys,hy,pl⟩:=pap.ext e912
    replace pl:=fun (_:Unit)=>pl
    clear e10 e11 e12 e711 e710 an2 hS10 pap
    simp! only [and_true]
    intro l13 H13 hl13 e13 h13
    have n13:l13 ≠ a1:=fun e=>by rw [e,hy] at hl13;cases hl13
    have w1_13:=e13.at w1
    have hy13:=e13.at hy
    clear hl13 w1 hy
    simp! only [and_true]
    intro k14 H14 hk14 e14 h14
    have n14:k14 ≠ a1:=fun e=>by rw [e,hy13] at hk14;cases hk14
    have w1_14:=e14.at w1_13
    have hy14:=e14.at hy13
    have h13_14:=e14.at h13
    have pl14:=fun (_:Unit)=>(pl ()).ext (e13.trans e14)
    have e814:=e9.trans (e912.trans (e13.trans e14))
    clear hk14 w1_13 hy13 h13 pl
    have h13_15:upd H14 a1 (.lst []) l13=some (.lst ys):=by rw [upd_ne n13];exact h13_14
    have h14_15:upd H14 a1 (.lst []) k14=some (.tup [.str "apart",.ref l13]):=by rw [upd_ne n14];exact h14
    have pl15:PapL (upd H14 a1 (.lst [])) pp1 ys:=(pl14 ()).upd hy14
    have e715:Ext H7 (upd H14 a1 (.lst [])):=e8.trans (e814.put ha1)
    replace pl15:=fun (_:Unit)=>pl15
    clear e13 e14 e912 e712 n13 n14 pl14
    simp! only [and_true]
    generalize upd H14 a1 (.lst [])=H15 at *
    clear h13_14 hy14 w1_14 e814 h14
    rw [c_spShares]
    refine ⟨room,f,f+g,_,_,v1.ext e715,v2.ext e715,kA.axes,kB.axes,m1,by omega,sh_ok kA kB (pt1 ()),fun ks3 o3 pp3 r16 H16 e16 sr3 u1=>?_⟩
    rw [hx ()] at sr3
    obtain ⟨q1,q2,q3⟩:=sr3.uniq (sr ())
    subst q1 q2 q3
    have pur:=((sr ()).ap rfl).1.pure
    obtain ⟨b1,_,u1,ys2,u2,pl2⟩:=u1
    have h13_16:=e16.at h13_15
    have h14_16:=e16.at h14_15
    have d1:=pap_all (f:=datF H16 (datF H16 noD)) ((pl15 ()).ext e16) pur
    have d2:=pap_all (f:=datF H16 (datF H16 noD)) pl2 pur
    have d3:=pap_eqv pur
    have k':=kk () H16
    clear sr3 kk sr pur pl15 pl2 h13_15 h14_15
    simp! only [and_true]
end
theorem all_mk {l:PySem.W.OpenLaw}{w:World}{K:PySem.W.Frag}{h:Heap}{mg:Str->Option Value}{fa:Addr}(X:K.In h) (G:h.Ns mainGlobals mg) (hfa:mg "law"=some (.ref fa))
  {C0:Addr} (y0:PySem.W.nsIn K mainGlobals "PaceError"=some (some (.ref C0)))
  {C1:Addr} (y1:PySem.W.nsIn K mainGlobals "NoPlace"=some (some (.ref C1)))
  {C2:Addr} (y2:PySem.W.nsIn K mainGlobals "NoView"=some (some (.ref C2)))
  {C3:Addr} (y3:PySem.W.nsIn K mainGlobals "NoPair"=some (some (.ref C3)))
  {C4:Addr} (y4:PySem.W.nsIn K mainGlobals "NoMost"=some (some (.ref C4)))
  {C5:Addr} (y5:PySem.W.nsIn K mainGlobals "View"=some (some (.ref C5)))
  {f0:Addr} {d0:FuncData} (a0:PySem.W.nsIn K mainGlobals "is_whole"=some (some (.ref f0))) (F0:Fun K "is_whole" "is_whole" s_is_whole f0 d0)
  {f1:Addr} {d1:FuncData} (a1:PySem.W.nsIn K mainGlobals "divisor"=some (some (.ref f1))) (F1:Fun K "divisor" "divisor" s_divisor f1 d1)
  {f2:Addr} {d2:FuncData} (a2:PySem.W.nsIn K mainGlobals "divisor_of"=some (some (.ref f2))) (F2:Fun K "divisor_of" "divisor_of" s_divisor_of f2 d2)
  {f3:Addr} {d3:FuncData} (a3:PySem.W.nsIn K mainGlobals "least_sum"=some (some (.ref f3))) (F3:Fun K "least_sum" "least_sum" s_least_sum f3 d3)
  {f4:Addr} {d4:FuncData} (a4:PySem.W.nsIn K mainGlobals "greatest_sum"=some (some (.ref f4))) (F4:Fun K "greatest_sum" "greatest_sum" s_greatest_sum f4 d4)
  {f5:Addr} {d5:FuncData} (a5:PySem.W.nsIn K mainGlobals "rest_of"=some (some (.ref f5))) (F5:Fun K "rest_of" "rest_of" s_rest_of f5 d5)
  {f6:Addr} {d6:FuncData} (a6:PySem.W.nsIn K mainGlobals "end_of"=some (some (.ref f6))) (F6:Fun K "end_of" "end_of" s_end_of f6 d6)
  {f7:Addr} {d7:FuncData} (a7:PySem.W.nsIn K mainGlobals "is_number_below"=some (some (.ref f7))) (F7:Fun K "is_number_below" "is_number_below" s_is_number_below f7 d7)
  {f8:Addr} {d8:FuncData} (a8:PySem.W.nsIn K mainGlobals "is_place"=some (some (.ref f8))) (F8:Fun K "is_place" "is_place" s_is_place f8 d8)
  {f9:Addr} {d9:FuncData} (a9:PySem.W.nsIn K mainGlobals "is_within"=some (some (.ref f9))) (F9:Fun K "is_within" "is_within" s_is_within f9 d9)
  {f10:Addr} {d10:FuncData} (a10:PySem.W.nsIn K mainGlobals "is_size"=some (some (.ref f10))) (F10:Fun K "is_size" "is_size" s_is_size f10 d10)
  {f11:Addr} {d11:FuncData} (a11:PySem.W.nsIn K mainGlobals "is_axis"=some (some (.ref f11))) (F11:Fun K "is_axis" "is_axis" s_is_axis f11 d11)
  {f12:Addr} {d12:FuncData} (a12:PySem.W.nsIn K mainGlobals "are_axes"=some (some (.ref f12))) (F12:Fun K "are_axes" "are_axes" s_are_axes f12 d12)
  {f13:Addr} {d13:FuncData} (a13:PySem.W.nsIn K mainGlobals "kept_axis"=some (some (.ref f13))) (F13:Fun K "kept_axis" "kept_axis" s_kept_axis f13 d13)
  {f14:Addr} {d14:FuncData} (F14:Fun K "__init__" "View.__init__" s_View___init__ f14 d14)
  {f15:Addr} {d15:FuncData} (F15:Fun K "sizes" "View.sizes" s_View_sizes f15 d15)
  {f16:Addr} {d16:FuncData} (F16:Fun K "paces" "View.paces" s_View_paces f16 d16)
  {f17:Addr} {d17:FuncData} (F17:Fun K "cell" "View.cell" s_View_cell f17 d17)
  {f18:Addr} {d18:FuncData} (F18:Fun K "least" "View.least" s_View_least f18 d18)
  {f19:Addr} {d19:FuncData} (F19:Fun K "greatest" "View.greatest" s_View_greatest f19 d19)
  {f20:Addr} {d20:FuncData} (a20:PySem.W.nsIn K mainGlobals "refuse_rooms"=some (some (.ref f20))) (F20:Fun K "refuse_rooms" "refuse_rooms" s_refuse_rooms f20 d20)
  {f21:Addr} {d21:FuncData} (a21:PySem.W.nsIn K mainGlobals "pulls"=some (some (.ref f21))) (F21:Fun K "pulls" "pulls" s_pulls f21 d21)
  {f22:Addr} {d22:FuncData} (a22:PySem.W.nsIn K mainGlobals "gathered"=some (some (.ref f22))) (F22:Fun K "gathered" "gathered" s_gathered f22 d22)
  {f23:Addr} {d23:FuncData} (a23:PySem.W.nsIn K mainGlobals "first_case"=some (some (.ref f23))) (F23:Fun K "first_case" "first_case" s_first_case f23 d23)
  {f24:Addr} {d24:FuncData} (a24:PySem.W.nsIn K mainGlobals "parted"=some (some (.ref f24))) (F24:Fun K "parted" "parted" s_parted f24 d24)
  {f25:Addr} {d25:FuncData} (a25:PySem.W.nsIn K mainGlobals "numbers_at_once"=some (some (.ref f25))) (F25:Fun K "numbers_at_once" "numbers_at_once" s_numbers_at_once f25 d25)
  {f26:Addr} {d26:FuncData} (a26:PySem.W.nsIn K mainGlobals "narrowed"=some (some (.ref f26))) (F26:Fun K "narrowed" "narrowed" s_narrowed f26 d26)
  {f27:Addr} {d27:FuncData} (a27:PySem.W.nsIn K mainGlobals "parting"=some (some (.ref f27))) (F27:Fun K "parting" "parting" s_parting f27 d27)
  {f28:Addr} {d28:FuncData} (a28:PySem.W.nsIn K mainGlobals "places_by_numbers"=some (some (.ref f28))) (F28:Fun K "places_by_numbers" "places_by_numbers" s_places_by_numbers f28 d28)
  {D29:Addr} {qc29:Value} {qd29:Option Addr} {qn29:Nat} {qs29:Array (Option Value)} {dk29:Tok}
  {f29:Addr} {od29 an29:Option Addr} {sl29:Array (Option Value)} {oc29 kV29 dc29 pm29 cd29 ct29:Value}
  (a29:PySem.W.nsIn K mainGlobals "shares"=some (some (.ref f29))) (l29:K.lookup f29=some ⟨oc29,od29,.func (PySem.W.fnOf "shares" "shares" (defArgs s_shares) (defBody s_shares) (defScope s_shares) (.ref D29) kV29 dc29 pm29 an29 cd29 ct29),sl29⟩)
  (q29:K.lookup D29=some ⟨qc29,qd29,.seq #[Value.int 1000 dk29] qn29,qs29⟩)
  (c29:PySem.W.codeIn K cd29 "shares"=true) (k29:PySem.W.keepIn K (.ref f29)=true)
  {f30:Addr} {d30:FuncData} (a30:PySem.W.nsIn K mainGlobals "_law_draw"=some (some (.ref f30))) (F30:Fun K "_law_draw" "_law_draw" s__law_draw f30 d30)
  {f31:Addr} {d31:FuncData} (a31:PySem.W.nsIn K mainGlobals "_law_whole"=some (some (.ref f31))) (F31:Fun K "_law_whole" "_law_whole" s__law_whole f31 d31)
  {f32:Addr} {d32:FuncData} (a32:PySem.W.nsIn K mainGlobals "_law_axes"=some (some (.ref f32))) (F32:Fun K "_law_axes" "_law_axes" s__law_axes f32 d32)
  {f33:Addr} {d33:FuncData} (a33:PySem.W.nsIn K mainGlobals "_law_placed"=some (some (.ref f33))) (F33:Fun K "_law_placed" "_law_placed" s__law_placed f33 d33)
  {f34:Addr} {d34:FuncData} (a34:PySem.W.nsIn K mainGlobals "_law_terms"=some (some (.ref f34))) (F34:Fun K "_law_terms" "_law_terms" s__law_terms f34 d34)
  {f35:Addr} {d35:FuncData} (a35:PySem.W.nsIn K mainGlobals "_law_product"=some (some (.ref f35))) (F35:Fun K "_law_product" "_law_product" s__law_product f35 d35)
  {f36:Addr} {d36:FuncData} (a36:PySem.W.nsIn K mainGlobals "_law_is_place"=some (some (.ref f36))) (F36:Fun K "_law_is_place" "_law_is_place" s__law_is_place f36 d36)
  {f37:Addr} {d37:FuncData} (a37:PySem.W.nsIn K mainGlobals "_law_cell"=some (some (.ref f37))) (F37:Fun K "_law_cell" "_law_cell" s__law_cell f37 d37)
  {f38:Addr} {d38:FuncData} (a38:PySem.W.nsIn K mainGlobals "_law_met"=some (some (.ref f38))) (F38:Fun K "_law_met" "_law_met" s__law_met f38 d38)
  {f39:Addr} {d39:FuncData} (a39:PySem.W.nsIn K mainGlobals "_law_sums"=some (some (.ref f39))) (F39:Fun K "_law_sums" "_law_sums" s__law_sums f39 d39)
  {f40:Addr} {d40:FuncData} (a40:PySem.W.nsIn K mainGlobals "_law_divisor"=some (some (.ref f40))) (F40:Fun K "_law_divisor" "_law_divisor" s__law_divisor f40 d40)
  {f41:Addr} {d41:FuncData} (a41:PySem.W.nsIn K mainGlobals "_law_ended"=some (some (.ref f41))) (F41:Fun K "_law_ended" "_law_ended" s__law_ended f41 d41)
  {f42:Addr} {d42:FuncData} (a42:PySem.W.nsIn K mainGlobals "_law_rest"=some (some (.ref f42))) (F42:Fun K "_law_rest" "_law_rest" s__law_rest f42 d42)
  {f43:Addr} {d43:FuncData} (a43:PySem.W.nsIn K mainGlobals "_law_behind"=some (some (.ref f43))) (F43:Fun K "_law_behind" "_law_behind" s__law_behind f43 d43)
  {f44:Addr} {d44:FuncData} (a44:PySem.W.nsIn K mainGlobals "_law_left"=some (some (.ref f44))) (F44:Fun K "_law_left" "_law_left" s__law_left f44 d44)
  {f45:Addr} {d45:FuncData} (a45:PySem.W.nsIn K mainGlobals "_law_apart"=some (some (.ref f45))) (F45:Fun K "_law_apart" "_law_apart" s__law_apart f45 d45)
  {f46:Addr} {d46:FuncData} (a46:PySem.W.nsIn K mainGlobals "_law_answer"=some (some (.ref f46))) (F46:Fun K "_law_answer" "_law_answer" s__law_answer f46 d46)
  {f47:Addr} {d47:FuncData} (a47:PySem.W.nsIn K mainGlobals "_law_goal"=some (some (.ref f47))) (F47:Fun K "_law_goal" "_law_goal" s__law_goal f47 d47)
  {f48:Addr} {od48 an48:Option Addr} {sl48:Array (Option Value)} {oc48 kV48 dc48 pm48 cd48 ct48:Value}
  (a48:PySem.W.nsIn K mainGlobals "law"=some (some (.ref f48))) (l48:K.lookup f48=some ⟨oc48,od48,.func (PySem.W.fnOf "law" "law" (defArgs s_law) (defBody s_law) (defScope s_law) .none kV48 dc48 pm48 an48 cd48 ct48),sl48⟩)
  (c48:PySem.W.codeIn K cd48 "law"=true) (k48:PySem.W.keepIn K (.ref f48)=true)
  (pg_View:PySem.W.plainGet K C5 Str.empty=true)
  (hd_View:PySem.W.hasDictIn K C5=true)
  (po_View:PySem.W.plainOver K C5=true)
  (sa_View:PySem.W.findIn K (.ref C5) "__setattr__"=some (some (.builtin "object.__setattr__")))
  (nf_View_axes:PySem.W.findIn K (.ref C5) "axes"=some none)
  (nf_View_first:PySem.W.findIn K (.ref C5) "first"=some none)
  (nf_View_room:PySem.W.findIn K (.ref C5) "room"=some none)
  (fi_View___init__:PySem.W.findIn K (.ref C5) "__init__"=some (some (.ref f14)))
  (fn_View___init__:PySem.W.isFn K (.ref f14)=true)
  (mm_View:PySem.W.makesIn K C5=true)
  (ck_View:PySem.W.keepIn K (.ref C5)=true)
  (fi_View_sizes:PySem.W.findIn K (.ref C5) "sizes"=some (some (.ref f15)))
  (fn_View_sizes:PySem.W.isFn K (.ref f15)=true)
  (fi_View_paces:PySem.W.findIn K (.ref C5) "paces"=some (some (.ref f16)))
  (fn_View_paces:PySem.W.isFn K (.ref f16)=true)
  (fi_View_cell:PySem.W.findIn K (.ref C5) "cell"=some (some (.ref f17)))
  (fn_View_cell:PySem.W.isFn K (.ref f17)=true)
  (fi_View_least:PySem.W.findIn K (.ref C5) "least"=some (some (.ref f18)))
  (fn_View_least:PySem.W.isFn K (.ref f18)=true)
  (fi_View_greatest:PySem.W.findIn K (.ref C5) "greatest"=some (some (.ref f19)))
  (fn_View_greatest:PySem.W.isFn K (.ref f19)=true)
  {tk0:Tok} (w0:PySem.W.nsIn K mainGlobals "MOST_ROOM"=some (some (.int 1000000000000000000 tk0)))
  {tk1:Tok} (w1:PySem.W.nsIn K mainGlobals "MOST_SIZE"=some (some (.int 1000000000 tk1)))
  {tk2:Tok} (w2:PySem.W.nsIn K mainGlobals "MOST_AXES"=some (some (.int 8 tk2)))
  {tk3:Tok} (w3:PySem.W.nsIn K mainGlobals "MOST_CASES"=some (some (.int 100000 tk3)))
  (z0:PySem.W.nsIn K mainGlobals "ValueError"=some none)
  (z1:PySem.W.nsIn K mainGlobals "abs"=some none)
  (z2:PySem.W.nsIn K mainGlobals "all"=some none)
  (z3:PySem.W.nsIn K mainGlobals "bool"=some none)
  (z4:PySem.W.nsIn K mainGlobals "enumerate"=some none)
  (z5:PySem.W.nsIn K mainGlobals "int"=some none)
  (z6:PySem.W.nsIn K mainGlobals "isinstance"=some none)
  (z7:PySem.W.nsIn K mainGlobals "len"=some none)
  (z8:PySem.W.nsIn K mainGlobals "list"=some none)
  (z9:PySem.W.nsIn K mainGlobals "max"=some none)
  (z10:PySem.W.nsIn K mainGlobals "min"=some none)
  (z11:PySem.W.nsIn K mainGlobals "range"=some none)
  (z12:PySem.W.nsIn K mainGlobals "sorted"=some none)
  (z13:PySem.W.nsIn K mainGlobals "sum"=some none)
  (z14:PySem.W.nsIn K mainGlobals "tuple"=some none)
  (z15:PySem.W.nsIn K mainGlobals "zip"=some none)
  : ∃ fd:FuncData,(∀ (s:Shared) (v:Value),BindsTo s fd ⟨[v],[]⟩ [("_law_script",v)])∧∀ base:Heap,K.In base->base.Ns mainGlobals mg->FnOk l.prog w K mg base CX0 9 fa fd ["_law_script"] (spLaw K):=by
 have e:=hfa.symm.trans (PySem.W.mg_of X G a48)
 cases e
 have F29:=funX_mk (st:=s_shares) l29 c29 k29
 have F48:=fun_mk (st:=s_law) l48 c48 k48
 have T:Tx K mg ⟨C0,C1,C2,C3,C4,C5,f0,_,f1,_,f2,_,f3,_,f4,_,f5,_,f6,_,f7,_,f8,_,f9,_,f10,_,f11,_,f12,_,f13,_,f14,_,f15,_,f16,_,f17,_,f18,_,f19,_,f20,_,f21,_,f22,_,f23,_,f24,_,f25,_,f26,_,f27,_,f28,_,f29,_,f30,_,f31,_,f32,_,f33,_,f34,_,f35,_,f36,_,f37,_,f38,_,f39,_,f40,_,f41,_,f42,_,f43,_,f44,_,f45,_,f46,_,f47,_,fa,_⟩:=⟨PySem.W.mg_of X G y0,PySem.W.mg_of X G y1,PySem.W.mg_of X G y2,PySem.W.mg_of X G y3,PySem.W.mg_of X G y4,PySem.W.mg_of X G y5,⟨_,PySem.W.mg_of X G w0⟩,⟨_,PySem.W.mg_of X G w1⟩,⟨_,PySem.W.mg_of X G w2⟩,⟨_,PySem.W.mg_of X G w3⟩,⟨pg_View,hd_View,po_View,sa_View⟩,nf_View_axes,nf_View_first,nf_View_room,⟨mm_View,fi_View___init__,fn_View___init__,ck_View⟩,⟨fi_View_sizes,fn_View_sizes,F15.kp⟩,⟨fi_View_paces,fn_View_paces,F16.kp⟩,⟨fi_View_cell,fn_View_cell,F17.kp⟩,⟨fi_View_least,fn_View_least,F18.kp⟩,⟨fi_View_greatest,fn_View_greatest,F19.kp⟩,F0,PySem.W.mg_of X G a0,F0.binds (ps:=["thing"]) (fun _ _ _ _ _ _=>len1 (fun _=>rfl)),F1,PySem.W.mg_of X G a1,F1.binds (ps:=["one", "other"]) (fun _ _ _ _ _ _=>len2 (fun _ _=>rfl)),F2,PySem.W.mg_of X G a2,F2.binds (ps:=["numbers"]) (fun _ _ _ _ _ _=>len1 (fun _=>rfl)),F3,PySem.W.mg_of X G a3,F3.binds (ps:=["terms", "case"]) (fun _ _ _ _ _ _=>len2 (fun _ _=>rfl)),F4,PySem.W.mg_of X G a4,F4.binds (ps:=["terms", "case"]) (fun _ _ _ _ _ _=>len2 (fun _ _=>rfl)),F5,PySem.W.mg_of X G a5,F5.binds (ps:=["terms", "case"]) (fun _ _ _ _ _ _=>len2 (fun _ _=>rfl)),F6,PySem.W.mg_of X G a6,F6.binds (ps:=["terms", "goal", "case"]) (fun _ _ _ _ _ _=>len3 (fun _ _ _=>rfl)),F7,PySem.W.mg_of X G a7,F7.binds (ps:=["thing", "bound"]) (fun _ _ _ _ _ _=>len2 (fun _ _=>rfl)),F8,PySem.W.mg_of X G a8,F8.binds (ps:=["sizes", "thing"]) (fun _ _ _ _ _ _=>len2 (fun _ _=>rfl)),F9,PySem.W.mg_of X G a9,F9.binds (ps:=["thing", "low", "high"]) (fun _ _ _ _ _ _=>len3 (fun _ _ _=>rfl)),F10,PySem.W.mg_of X G a10,F10.binds (ps:=["thing"]) (fun _ _ _ _ _ _=>len1 (fun _=>rfl)),F11,PySem.W.mg_of X G a11,F11.binds (ps:=["thing"]) (fun _ _ _ _ _ _=>len1 (fun _=>rfl)),F12,PySem.W.mg_of X G a12,F12.binds (ps:=["thing"]) (fun _ _ _ _ _ _=>len1 (fun _=>rfl)),F13,PySem.W.mg_of X G a13,F13.binds (ps:=["axis"]) (fun _ _ _ _ _ _=>len1 (fun _=>rfl)),F14,F14.binds (ps:=["self", "room", "first", "axes"]) (fun _ _ _ _ _ _=>len4 (fun _ _ _ _=>rfl)),F15,F15.binds (ps:=["self"]) (fun _ _ _ _ _ _=>len1 (fun _=>rfl)),F16,F16.binds (ps:=["self"]) (fun _ _ _ _ _ _=>len1 (fun _=>rfl)),F17,F17.binds (ps:=["self", "place"]) (fun _ _ _ _ _ _=>len2 (fun _ _=>rfl)),F18,F18.binds (ps:=["self"]) (fun _ _ _ _ _ _=>len1 (fun _=>rfl)),F19,F19.binds (ps:=["self"]) (fun _ _ _ _ _ _=>len1 (fun _=>rfl)),F20,PySem.W.mg_of X G a20,F20.binds (ps:=["one", "other"]) (fun _ _ _ _ _ _=>len2 (fun _ _=>rfl)),F21,PySem.W.mg_of X G a21,F21.binds (ps:=["one", "other"]) (fun _ _ _ _ _ _=>len2 (fun _ _=>rfl)),F22,PySem.W.mg_of X G a22,F22.binds (ps:=["one", "other"]) (fun _ _ _ _ _ _=>len2 (fun _ _=>rfl)),F23,PySem.W.mg_of X G a23,F23.binds (ps:=["terms"]) (fun _ _ _ _ _ _=>len1 (fun _=>rfl)),F24,PySem.W.mg_of X G a24,F24.binds (ps:=["case", "k", "at"]) (fun _ _ _ _ _ _=>len3 (fun _ _ _=>rfl)),F25,PySem.W.mg_of X G a25,F25.binds (ps:=["terms", "goal", "case"]) (fun _ _ _ _ _ _=>len3 (fun _ _ _=>rfl)),F26,PySem.W.mg_of X G a26,F26.binds (ps:=["times", "bounds", "above_least", "below_greatest"]) (fun _ _ _ _ _ _=>len4 (fun _ _ _ _=>rfl)),F27,PySem.W.mg_of X G a27,F27.binds (ps:=["terms", "goal", "case"]) (fun _ _ _ _ _ _=>len3 (fun _ _ _=>rfl)),F28,PySem.W.mg_of X G a28,F28.binds (ps:=["one", "other", "terms", "numbers"]) (fun _ _ _ _ _ _=>len4 (fun _ _ _ _=>rfl)),F29,PySem.W.mg_of X G a29,(fun s us hin hl=>match us,(show us.length=3 by simp only [List.length_append,List.length_cons,List.length_nil] at hl;omega) with|[_,_,_],_=>BindsTo.of_defaults rfl (hin _ _ q29) rfl rfl rfl),⟨_,(fun s us hin hl=>match us,(show us.length=2 by simp only [List.length_append,List.length_cons,List.length_nil] at hl;omega) with|[_,_],_=>BindsTo.of_defaults rfl (hin _ _ q29) rfl rfl rfl)⟩,F30,PySem.W.mg_of X G a30,F30.binds (ps:=["_law_script", "_law_k", "_law_many"]) (fun _ _ _ _ _ _=>len3 (fun _ _ _=>rfl)),F31,PySem.W.mg_of X G a31,F31.binds (ps:=["_law_found"]) (fun _ _ _ _ _ _=>len1 (fun _=>rfl)),F32,PySem.W.mg_of X G a32,F32.binds (ps:=["_law_script", "_law_at", "_law_factor"]) (fun _ _ _ _ _ _=>len3 (fun _ _ _=>rfl)),F33,PySem.W.mg_of X G a33,F33.binds (ps:=["_law_one", "_law_other", "_law_goal_here", "_law_low", "_law_more"]) (fun _ _ _ _ _ _=>len5 (fun _ _ _ _ _=>rfl)),F34,PySem.W.mg_of X G a34,F34.binds (ps:=["_law_one", "_law_other"]) (fun _ _ _ _ _ _=>len2 (fun _ _=>rfl)),F35,PySem.W.mg_of X G a35,F35.binds (ps:=["_law_terms_here"]) (fun _ _ _ _ _ _=>len1 (fun _=>rfl)),F36,PySem.W.mg_of X G a36,F36.binds (ps:=["_law_place", "_law_axes_here"]) (fun _ _ _ _ _ _=>len2 (fun _ _=>rfl)),F37,PySem.W.mg_of X G a37,F37.binds (ps:=["_law_first", "_law_axes_here", "_law_place"]) (fun _ _ _ _ _ _=>len3 (fun _ _ _=>rfl)),F38,PySem.W.mg_of X G a38,F38.binds (ps:=["_law_found", "_law_one", "_law_other", "_law_goal_here"]) (fun _ _ _ _ _ _=>len4 (fun _ _ _ _=>rfl)),F39,PySem.W.mg_of X G a39,F39.binds (ps:=["_law_terms_here", "_law_case"]) (fun _ _ _ _ _ _=>len2 (fun _ _=>rfl)),F40,PySem.W.mg_of X G a40,F40.binds (ps:=["_law_numbers"]) (fun _ _ _ _ _ _=>len1 (fun _=>rfl)),F41,PySem.W.mg_of X G a41,F41.binds (ps:=["_law_terms_here", "_law_goal_here", "_law_case"]) (fun _ _ _ _ _ _=>len3 (fun _ _ _=>rfl)),F42,PySem.W.mg_of X G a42,F42.binds (ps:=["_law_terms_here", "_law_goal_here", "_law_case", "_law_by"]) (fun _ _ _ _ _ _=>len4 (fun _ _ _ _=>rfl)),F43,PySem.W.mg_of X G a43,F43.binds (ps:=["_law_terms_here", "_law_goal_here", "_law_case", "_law_step"]) (fun _ _ _ _ _ _=>len4 (fun _ _ _ _=>rfl)),F44,PySem.W.mg_of X G a44,F44.binds (ps:=["_law_terms_here", "_law_goal_here", "_law_paper", "_law_bare"]) (fun _ _ _ _ _ _=>len4 (fun _ _ _ _=>rfl)),F45,PySem.W.mg_of X G a45,F45.binds (ps:=["_law_found", "_law_terms_here", "_law_goal_here", "_law_most"]) (fun _ _ _ _ _ _=>len4 (fun _ _ _ _=>rfl)),F46,PySem.W.mg_of X G a46,F46.binds (ps:=["_law_found", "_law_one", "_law_other", "_law_goal_here", "_law_most"]) (fun _ _ _ _ _ _=>len5 (fun _ _ _ _ _=>rfl)),F47,PySem.W.mg_of X G a47,F47.binds (ps:=["_law_script", "_law_terms_here", "_law_factor"]) (fun _ _ _ _ _ _=>len3 (fun _ _ _=>rfl)),F48,PySem.W.mg_of X G a48,F48.binds (ps:=["_law_script"]) (fun _ _ _ _ _ _=>len1 (fun _=>rfl)),PySem.W.mg_none_of X G z0,PySem.W.mg_none_of X G z1,PySem.W.mg_none_of X G z2,PySem.W.mg_none_of X G z3,PySem.W.mg_none_of X G z4,PySem.W.mg_none_of X G z5,PySem.W.mg_none_of X G z6,PySem.W.mg_none_of X G z7,PySem.W.mg_none_of X G z8,PySem.W.mg_none_of X G z9,PySem.W.mg_none_of X G z10,PySem.W.mg_none_of X G z11,PySem.W.mg_none_of X G z12,PySem.W.mg_none_of X G z13,PySem.W.mg_none_of X G z14,PySem.W.mg_none_of X G z15⟩
 exact ⟨PySem.W.fnOf "law" "law" (defArgs s_law) (defBody s_law) (defScope s_law) .none kV48 dc48 pm48 an48 cd48 ct48,fun s v=>.of_eq rfl,fun base _ _=>ok_law T⟩
theorem walk {l:PySem.W.OpenLaw}{q:Program}{loose:List Str}{XP:(Str->Option Value)->Heap->Prop}{YP:World->Heap->Prop}{d:DefRec}{K:Params->PySem.W.Frag}(hn:l.most=some 63) (hdf:d.params.defaults=[])
  (hY:∀ (w:World) (h:Heap),YP w h->(K w.params).In h)
  (F:∀ (w:World) (mg:Str->Option Value) (fa:Addr) (h:Heap),(K w.params).In h->h.Ns mainGlobals mg->mg d.name=some (.ref fa) →
   ∃ fd:FuncData,(∀ (s:Shared) (u:Value),BindsTo s fd ⟨[u],[]⟩ [("_law_script",u)])∧∀ base:Heap,(K w.params).In base->base.Ns mainGlobals mg->FnOk l.prog w (K w.params) mg base CX0 9 fa fd ["_law_script"] (spLaw (K w.params))) :
  PySem.W.WalkO q loose XP YP l.row.toRowW d [] (fun f vs=>PySem.call f vs):=
 L2.walk_of (n:=63) (k:=9) (x := "_law_script") (CX:=fun _=>CX0) (sp:=fun w=>spLaw (K w.params)) hn (by decide) hdf ⟨rfl,by decide,by decide⟩ hY F (fun _ _ a ns hl _ hS=>⟨a,rfl,ns,hS,hl,fun _=>rfl⟩) fun _ _ _ _ _ z=>z
end PH
namespace PySem.W.Fast
def tw14657470179194599718:=0
def tw12324020005634321423:=0
def tw9252512965338136896:=0
def tw1159693623407088091:=0
def tw2918521838071829194:=0
def tw307551963519995672:=0
def tw14664649662231082385:=0
def tw2710375491286552790:=0
def tw10567956660787233297:=0
def tw2424336787636158782:=0
def tw8342103202768202861:=0
def tw6358487264689198741:=0
def tw17306731062525857105:=0
def tw3684377836588483951:=0
def tw346633539763254145:=0
def tw3141560547401822929:=0
def tw14294852071758103952:=0
def tw987031050175996013:=0
def tw7290350904865276366:=0
def tw13316963672247257550:=0
def tw16896762722546516816:=0
def tw10980117636024225300:=0
def tw1359596001872105683:=0
def tw3169288051080050122:=0
def tw11494696861050518823:=0
def tw17641043209235631176:=0
def tw5539721917720868090:=0
def tw17944464951047393851:=0
def tw7197766488822751752:=0
def tw12047253579493477929:=0
def tw13734285887200519021:=0
def tw17841222359706913000:=0
def tw9198174703666184873:=0
def tw17778872233311870871:=0
def tw1185444825145511771:=0
def tw10910500773160880967:=0
def tw15355314429279448590:=0
def tw15864431055734823484:=0
def tw5823506870930889816:=0
def tw4805128487359437673:=0
def tw11964902949661060460:=0
def tw4663101988214303545:=0
def tw14878039064314782317:=0
def tw12624559391353114304:=0
def tw11237177485567320068:=0
def tw18424283640622368469:=0
def tw10820455133440004467:=0
def tw3130210833312156697:=0
def tw2448746994120202467:=0
def tw11479562384298088250:=0
def tw17833452084774101467:=0
def tw12738505338377757277:=0
def tw5036786989392708504:=0
def tw2456609884854463258:=0
def tw1813144255313834080:=0
def tw7601025404857283349:=0
def tw18199587708559786233:=0
def tw13485107491560057564:=0
def tw7730292175357595982:=0
def tw10832139654110003405:=0
def tw11388708212191207021:=0
def tw3318470336404837134:=0
def tw5936939003943697383:=0
def tw9754371033163593505:=0
def tw12223640784919648530:=0
def tw3748622532377939821:=0
def tw3018236344505676669:=0
def tw7764849155004551726:=0
def tw7429786259076549869:=0
def tw15661733964335176373:=0
def tw16350719361645765270:=0
def tw12956740424485996662:=0
def tw3930596483708209562:=0
def tw5320063411698939027:=0
def tw2400802510912713027:=0
def tw4053253677601282668:=0
def tw16455897259471464776:=0
def tw14409387379965206420:=0
def tw14732153588714760870:=0
def tw17313385796750927050:=0
def tw2571374724400186164:=0
def tw5791199310787744104:=0
def tw6557791836653799043:=0
def tw5699649782465645314:=0
def tw13119397273227653373:=0
def tw3638832591290423363:=0
def tw17392511562221847226:=0
def tw4565197034865158463:=0
def tw7739185064611619657:=0
def tw10077934059779962906:=0
def tw5055918774014075637:=0
def tw11246357609205971749:=0
def tw16879870474976549839:=0
def tw72754099981699601:=0
def tw14290850573977451723:=0
def tw48148093914370755:=0
def tw9959668494112726051:=0
def tw9239788072436608102:=0
def tw4316718292413900837:=0
def tw13194192088658702813:=0
def tw5296190020684796249:=0
def tw13953639873996342138:=0
def tw3775429235356155942:=0
def tw5244500586951721938:=0
def tw11221171689680316807:=0
end PySem.W.Fast
open PySem PySem.W PyProof.Rows
set_option maxRecDepth 100000 in
set_option maxHeartbeats 0 in
theorem PySem.Challenge.cw_pacehall_k54_apart_holds : PySem.Challenge.rw_pacehall_k54_apart.Holds := by
 w_on;o_law;k_head;(case hw=>w_witness2)
 k_fill
 refine PH.walk (l:=PySem.Challenge.rw_pacehall_k54_apart) rfl rfl (fun w h Y=>PySem.W.kIn_of Y) ?F
 case F=>
  intro w mg fa h KX G hmg
  refine' PH.all_mk KX G hmg ?y0 ?y1 ?y2 ?y3 ?y4 ?y5 ?a0 ?F0 ?a1 ?F1 ?a2 ?F2 ?a3 ?F3 ?a4 ?F4 ?a5 ?F5 ?a6 ?F6 ?a7 ?F7 ?a8 ?F8 ?a9 ?F9 ?a10 ?F10 ?a11 ?F11 ?a12 ?F12 ?a13 ?F13 ?F14 ?F15 ?F16 ?F17 ?F18 ?F19 ?a20 ?F20 ?a21 ?F21 ?a22 ?F22 ?a23 ?F23 ?a24 ?F24 ?a25 ?F25 ?a26 ?F26 ?a27 ?F27 ?a28 ?F28 ?a29 ?l29 ?q29 ?c29 ?k29 ?a30 ?F30 ?a31 ?F31 ?a32 ?F32 ?a33 ?F33 ?a34 ?F34 ?a35 ?F35 ?a36 ?F36 ?a37 ?F37 ?a38 ?F38 ?a39 ?F39 ?a40 ?F40 ?a41 ?F41 ?a42 ?F42 ?a43 ?F43 ?a44 ?F44 ?a45 ?F45 ?a46 ?F46 ?a47 ?F47 ?a48 ?l48 ?c48 ?k48 ?pg_View ?hd_View ?po_View ?sa_View ?nf_View_axes ?nf_View_first ?nf_View_room ?fi_View___init__ ?fn_View___init__ ?mm_View ?ck_View ?fi_View_sizes ?fn_View_sizes ?fi_View_paces ?fn_View_paces ?fi_View_cell ?fn_View_cell ?fi_View_least ?fn_View_least ?fi_View_greatest ?fn_View_greatest ?w0 ?w1 ?w2 ?w3 ?z0 ?z1 ?z2 ?z3 ?z4 ?z5 ?z6 ?z7 ?z8 ?z9 ?z10 ?z11 ?z12 ?z13 ?z14 ?z15
  (case y0|y1|y2|y3|y4|y5|fi_View___init__|fi_View_sizes|fi_View_paces|fi_View_cell|fi_View_least|fi_View_greatest=>first|k_is|k_exc|kts_exm|decide|rfl|decide +kernel|kernel_rfl)
  (case a0|a1|a2|a3|a4|a5|a6|a7|a8|a9|a10|a11=>first|k_is|k_exc|kts_exm|decide|rfl|decide +kernel|kernel_rfl)
  (case a12|a13|a20|a21|a22|a23|a24|a25|a26|a27|a28|a29=>first|k_is|k_exc|kts_exm|decide|rfl|decide +kernel|kernel_rfl)
  (case a30|a31|a32|a33|a34|a35|a36|a37|a38|a39|a40|a41=>first|k_is|k_exc|kts_exm|decide|rfl|decide +kernel|kernel_rfl)
  (case a42|a43|a44|a45|a46|a47|a48=>first|k_is|k_exc|kts_exm|decide|rfl|decide +kernel|kernel_rfl)
  (case F0|F1|F2|F3|F4|F5|F6|F7|F8|F9|F10|F11=>(refine' L2.fun_mk ?l ?c ?k;(case l|c|k=>first|k_is|k_exc|kts_exm|decide|rfl|decide +kernel|kernel_rfl)))
  (case F12|F13|F14|F15|F16|F17|F18|F19|F20|F21|F22|F23=>(refine' L2.fun_mk ?l ?c ?k;(case l|c|k=>first|k_is|k_exc|kts_exm|decide|rfl|decide +kernel|kernel_rfl)))
  (case F24|F25|F26|F27|F28|F30|F31|F32|F33|F34|F35|F36=>(refine' L2.fun_mk ?l ?c ?k;(case l|c|k=>first|k_is|k_exc|kts_exm|decide|rfl|decide +kernel|kernel_rfl)))
  (case F37|F38|F39|F40|F41|F42|F43|F44|F45|F46|F47=>(refine' L2.fun_mk ?l ?c ?k;(case l|c|k=>first|k_is|k_exc|kts_exm|decide|rfl|decide +kernel|kernel_rfl)))
  (case l29|q29|c29|k29|l48|c48|k48|pg_View|hd_View|po_View|sa_View|nf_View_axes=>first|k_is|k_exc|kts_exm|decide|rfl|decide +kernel|kernel_rfl)
  (case nf_View_first|nf_View_room|fn_View___init__|mm_View|ck_View|fn_View_sizes|fn_View_paces|fn_View_cell|fn_View_least|fn_View_greatest|w0|w1=>first|k_is|k_exc|kts_exm|decide|rfl|decide +kernel|kernel_rfl)
  (case w2|w3|z0|z1|z2|z3|z4|z5|z6|z7|z8|z9=>first|k_is|k_exc|kts_exm|decide|rfl|decide +kernel|kernel_rfl)
  (case z10|z11|z12|z13|z14|z15=>first|k_is|k_exc|kts_exm|decide|rfl|decide +kernel|kernel_rfl)
#print axioms PySem.Challenge.cw_pacehall_k54_apart_holds