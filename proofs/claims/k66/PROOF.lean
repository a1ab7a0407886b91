import PyProof.Rows.All
import Wide.All
import OpenK.AllK
import Wide.FinOn
import Lean
import PyProof.EqAt
import PyProof.EqKinds
import PyProof.TupleCall
import PySem.Challenge.RW_pacehall_k66_whole_fewest_rows
-- CHANGE: your row's module here, as the last of these rows
set_option Elab.async false
set_option linter.all false
set_option maxRecDepth 100000
namespace L2
open PySem PySem.Spec PyProof.Rows
abbrev Key:=Sum Int Str
def keyIs:Key->Value->Bool
 | .inl k,v=>Value.isInt k v
 | .inr x,v=>Value.isStrOf x v
def keyH (w:World):Key->Int
 | .inl k=>hashInt k
 | .inr x=>hashStr w x
theorem keyIs_shape:∀ {k:Key}{v:Value},keyIs k v=true->(∃ i t,k=Sum.inl i∧v=Value.int i t)∨(∃ x t,k=Sum.inr x∧v=Value.str x t)
 | .inl i,v,h=>by
  obtain ⟨t,e⟩:=Value.isInt_shape (k:=i) (v:=v) h
  exact .inl ⟨i,t,rfl,e⟩
 | .inr x,v,h=>by
  obtain ⟨t,e⟩:=Value.isStrOf_shape (x:=x) (v:=v) h
  exact .inr ⟨x,t,rfl,e⟩
theorem keyIs_int (i:Int) (t:Tok):keyIs (.inl i) (.int i t)=true:=by simp [keyIs,Value.isInt]
theorem keyIs_str (x:Str) (t:Tok):keyIs (.inr x) (.str x t)=true:=by simp [keyIs,Value.isStrOf]
theorem key_ll (a b:Int):decide ((Sum.inl a:Key)=Sum.inl b)=(a == b):=by
 by_cases e:a=b
 ·subst e;simp
 ·have h:¬ (Sum.inl a:Key)=Sum.inl b:=fun q=>e (Sum.inl.inj q)
  rw [decide_eq_false h]
  exact (beq_eq_false_iff_ne.mpr e).symm
theorem key_rr (a b:Str):decide ((Sum.inr a:Key)=Sum.inr b)=decide (a=b):=by
 by_cases e:a=b
 ·subst e;simp
 ·have h:¬ (Sum.inr a:Key)=Sum.inr b:=fun q=>e (Sum.inr.inj q)
  rw [decide_eq_false h,decide_eq_false e]
theorem key_lr (a:Int) (b:Str):decide ((Sum.inl a:Key)=Sum.inr b)=false:=decide_eq_false (fun q=>nomatch q)
theorem key_rl (a:Str) (b:Int):decide ((Sum.inr a:Key)=Sum.inl b)=false:=decide_eq_false (fun q=>nomatch q)
def mixKind (prog:Program) (w:World):PySem.KeyKind prog w Key where
 is:=keyIs
 hash:=keyH w
 inj:=fun v a b ha hb=>by
  rcases keyIs_shape ha with ⟨i,t,rfl,rfl⟩|⟨x,t,rfl,rfl⟩
  ·rcases keyIs_shape hb with ⟨j,u,rfl,e⟩|⟨y,u,rfl,e⟩
   ·injection e with e1 _;rw [e1]
   ·exact nomatch e
  ·rcases keyIs_shape hb with ⟨j,u,rfl,e⟩|⟨y,u,rfl,e⟩
   ·exact nomatch e
   ·injection e with e1 _;rw [e1]
 byValue:=fun k v h=>by
  rcases keyIs_shape h with ⟨i,t,rfl,rfl⟩|⟨x,t,rfl,rfl⟩<;>rfl
 pyHash:=fun hv h=>by
  rcases keyIs_shape hv with ⟨i,t,rfl,rfl⟩|⟨x,t,rfl,rfl⟩
  ·exact wpAny_pyHash_int h
  ·exact wpAny_pyHash_str h
 eqBool:=fun hu hv h=>by
  rcases keyIs_shape hu with ⟨i,t,rfl,rfl⟩|⟨x,t,rfl,rfl⟩
  ·rcases keyIs_shape hv with ⟨j,u,rfl,rfl⟩|⟨y,u,rfl,rfl⟩
   ·rw [key_ll] at h;exact wpAny_eqBool_int h
   ·rw [key_lr] at h;exact SeqAt.EqAt.int_str i t y u _ _ _ _ h
  ·rcases keyIs_shape hv with ⟨j,u,rfl,rfl⟩|⟨y,u,rfl,rfl⟩
   ·rw [key_rl] at h;exact SeqAt.EqAt.str_int x t j u _ _ _ _ h
   ·rw [key_rr] at h;exact wpAny_eqBool_str h
 «strs»:=fun k x t v h=>by
  rcases keyIs_shape h with ⟨i,u,rfl,e⟩|⟨y,u,rfl,e⟩
  ·exact nomatch e
  ·injection e with e1 _
   subst e1
   cases v<;>rfl
theorem mixKind_int (prog:Program) (w:World) (i:Int) (t:Tok):(mixKind prog w).is (.inl i) (.int i t)=true:=keyIs_int i t
theorem mixKind_str (prog:Program) (w:World) (x:Str) (t:Tok):(mixKind prog w).is (.inr x) (.str x t)=true:=keyIs_str x t
end L2
namespace L2
open PySem PySem.Spec PyProof.Rows
inductive V where
 | non|bl (b:Bool)|int (i:Int)|str (x:Str)|byt (b:Array UInt8)|flt (b:UInt64)|ref (a:Addr)|ty (n:String)
 deriving DecidableEq
def RelV:V->Value->Prop
 | .non,u=>u=Value.none
 | .bl b,u=>u=Value.bool b
 | .int i,u=>∃ t,u=Value.int i t
 | .str x,u=>∃ t,u=Value.str x t
 | .byt b,u=>∃ t,u=Value.bytes b t
 | .flt b,u=>∃ t,u=Value.float b t
 | .ref a,u=>u=Value.ref a
 | .ty n,u=>u=Value.type n
abbrev Vals:List V->List Value->Prop:=Paired RelV
theorem Vals.length {xs:List V}{us:List Value}(r:Vals xs us):xs.length=us.length:=Paired.length r
theorem Vals.get:∀ {xs:List V}{us:List Value}{i:Nat}{x:V},Vals xs us->xs[i]? = some x->∃ u,us[i]? = some u∧RelV x u
 | _,_,_,_,.nil,e=>by simp at e
 | _,_,0,_,.cons r _,e=>by simp at e;subst e;exact ⟨_,rfl,r⟩
 | _,_,i+1,x,.cons _ t,e=>by
  obtain ⟨u,h1,h2⟩:=Vals.get (i:=i) (x:=x) t (by simpa using e)
  exact ⟨u,by simpa using h1,h2⟩
theorem Vals.append:∀ {xs ys:List V}{us ws:List Value},Vals xs us->Vals ys ws->Vals (xs++ys) (us++ws)
 | _,_,_,_,.nil,s=>s
 | _,_,_,_,.cons r t,s=>.cons r (Vals.append t s)
theorem Vals.take:∀ {xs:List V}{us:List Value}(n:Nat),Vals xs us->Vals (xs.take n) (us.take n)
 | _,_,0,_=>.nil
 | _,_,_+1,.nil=>.nil
 | _,_,n+1,.cons r t=>.cons r (Vals.take n t)
theorem Vals.drop:∀ {xs:List V}{us:List Value}(n:Nat),Vals xs us->Vals (xs.drop n) (us.drop n)
 | _,_,0,r=>r
 | _,_,_+1,.nil=>.nil
 | _,_,n+1,.cons _ t=>Vals.drop n t
def RelO:Option V->Option Value->Prop
 | some v,some u=>RelV v u
 | none,none=>True
 | _,_=>False
def KV {κ:Type}:List (κ × V)->List (κ × Value)->Prop:=Paired fun (p:κ × V) (q:κ × Value)=>p.1=q.1∧RelV p.2 q.2
def kV:Key->V
 | .inl i=>.int i
 | .inr x=>.str x
inductive HO where
 | lst (xs:List V)
 | tup (xs:List V)
 | dK (kvs:List (Key × V))|dT (kvs:List (List Key × V))
 | set (S:Int->Bool) (n:Nat)
 | ins (C dx:Addr) (fs:List (Str × V))
 | own (x:Addr)
 | xd (fs:List (Str × V))
 | met (f x:Addr)
 | rng (lo hi:Int)
 | frz (o:Obj) (u:HO)
 | tbl (ps:Array Value)
 | ext (φ:Heap->Prop)
abbrev Hp:=Addr->Option HO
def upd (H:Hp) (a:Addr) (o:HO):Hp:=fun b=>if b=a then some o else H b
theorem upd_same {H:Hp}{a:Addr}{o:HO}:upd H a o a=some o:=by unfold upd;rw [if_pos rfl]
theorem upd_ne {H:Hp}{a b:Addr}{o:HO}(h:b ≠ a):upd H a o b=H b:=by unfold upd;rw [if_neg h]
theorem ne_of {H:Hp}{a b:Addr}{o u:HO}(h:H a=some o) (h':H b=some u) (d:o ≠ u):a ≠ b:=by
 intro e;subst e;rw [h] at h';exact d (Option.some.inj h')
theorem ne_of_none {H:Hp}{a b:Addr}{o:HO}(h:H a=some o) (h':H b=none):a ≠ b:=by
 intro e;subst e;rw [h] at h';cases h'
section
variable (P:Program) (w:World)
def ObjOk (H:Hp) (h:Heap) (a:Addr):HO->Prop
 | .lst xs=>xs.length≤sizeLine∧∃ (its:List Value) (n:Nat),Vals xs its∧h.get? a=some { cls:=.type "list",data:=.seq its.toArray n }
 | .tup xs=>xs.length≤sizeLine∧∃ its:List Value,Vals xs its∧IsTup h a its.toArray
 | .dK kvs=>kvs.length≤sizeLine∧(a == sysModules)=false∧∃ vs,KV kvs vs∧h.DictOf (mixKind P w) a vs
 | .dT kvs=>kvs.length≤sizeLine∧(a == sysModules)=false∧∃ xs:List (List Key × Addr × Value),
   Paired (fun (p:List Key × V) (q:List Key × Addr × Value)=>p.1=q.1∧H q.2.1=some (.tup (p.1.map kV))∧RelV p.2 q.2.2) kvs xs ∧
   ∃ o es ep,h.get? a=some o∧o.ExactDict∧o.data=.dict es ep∧es.toList=xs.map (entryOfKey (tupleKind (mixKind P w)))∧(xs.map (·.1)).Nodup
 | .set S n=>h.SetOf (intKind P w) a S n
 | .ins C dx fs=>H dx=some (.own a)∧fs.length≤1000∧dx ≠ a∧h.get? a=some (PySem.W.instObj C dx) ∧
   ∃ mA,h.Ns1 dx mA∧(∀ f,RelO (fs.lookup f) (mA f))∧PySem.Within mA (fs.map (·.1))
 | .own _=>∃ o,h.get? a=some o
 | .xd fs=>∃ mA,h.Ns1 a mA∧∀ f,RelO (fs.lookup f) (mA f)
 | .rng lo hi=>∃ t u v,h.get? a=some { cls:=.type "range",data:=.fields #[.int lo t,.int hi u,.int 1 v] }
 | .frz o u=>h.get? a=some o∧ObjOk H h a u
 | .tbl ps=>h.get? a=some { cls:=.none,data:=.fields ps }
 | .met f x=>h.get? a=some (PySem.W.methodObj (.ref f) (.ref x))
 | .ext φ=>φ h∧(∃ o,h.get? a=some o)∧∀ h1 h2:Heap,φ h1->(∀ o,h1.get? a=some o->h2.get? a=some o)->φ h2
def HOk (H:Hp) (h:Heap):Prop:=∀ a o,H a=some o->ObjOk P w H h a o
end
section
variable {P:Program}{w:World}{H H':Hp}{h h':Heap}{a:Addr}{o:HO}
theorem ObjOk.lt (x:ObjOk P w H h a o):a < h.objs.size:=by
 cases o with
 | lst xs=>obtain ⟨_,_,_,_,e⟩:=x;exact Heap.lt_size e
 | tup xs=>obtain ⟨_,_,_,p⟩:=x;exact p.lt
 | dK kvs=>obtain ⟨_,_,_,_,o,_,_,e,_⟩:=x;exact Heap.lt_size e
 | dT kvs=>obtain ⟨_,_,_,_,o,_,_,e,_⟩:=x;exact Heap.lt_size e
 | set S n=>obtain ⟨o,_,_,_,e,_⟩:=x;exact Heap.lt_size e
 | ins C dx fs=>obtain ⟨_,_,_,e,_⟩:=x;exact Heap.lt_size e
 | own y=>obtain ⟨_,e⟩:=x;exact Heap.lt_size e
 | xd fs=>obtain ⟨_,⟨_,_,_,e,_⟩,_⟩:=x;exact Heap.lt_size e
 | rng lo hi=>obtain ⟨_,_,_,e⟩:=x;exact Heap.lt_size e
 | frz ob u=>obtain ⟨e,_⟩:=x;exact Heap.lt_size e
 | tbl ps=>exact Heap.lt_size (show h.get? a=some _ from x)
 | met f y=>exact Heap.lt_size (show h.get? a=some _ from x)
 | ext φ=>obtain ⟨_,⟨_,e⟩,_⟩:=x;exact Heap.lt_size e
theorem Paired.mapP {α β:Type}{F G:α->β->Prop}:∀ {l₁:List α}{l₂:List β},Paired F l₁ l₂->(∀ a b,F a b->G a b)->Paired G l₁ l₂
 | _,_,.nil,_=>.nil
 | _,_,.cons r t,f=>.cons (f _ _ r) (Paired.mapP t f)
theorem ObjOk.stay (x:ObjOk P w H h a o) (k:∀ b u,(b=a∨H b=some (.own a))->h.get? b=some u->h'.get? b=some u)
  (ho:∀ b,H b=some (.own a)->H' b=some (.own a)) (ht:∀ b xs,H b=some (.tup xs)->H' b=some (.tup xs)):ObjOk P w H' h' a o:=by
 induction o with
 | lst xs=>obtain ⟨z,its,n,r,e⟩:=x;exact ⟨z,its,n,r,k _ _ (.inl rfl) e⟩
 | tup xs=>obtain ⟨z,its,r,ob,e,c⟩:=x;exact ⟨z,its,r,ob,k _ _ (.inl rfl) e,c⟩
 | dK kvs=>obtain ⟨z,y,vs,r,ob,es,ep,e,c⟩:=x;exact ⟨z,y,vs,r,ob,es,ep,k _ _ (.inl rfl) e,c⟩
 | dT kvs=>
  obtain ⟨z,y,xs,r,ob,es,ep,e,c⟩:=x
  exact ⟨z,y,xs,Paired.mapP r fun p q z=>⟨z.1,ht _ _ z.2.1,z.2.2⟩,ob,es,ep,k _ _ (.inl rfl) e,c⟩
 | set S n=>obtain ⟨ob,es,ep,t,e,c⟩:=x;exact ⟨ob,es,ep,t,k _ _ (.inl rfl) e,c⟩
 | ins C dx fs=>
  obtain ⟨d,z,ne,e,mA,⟨od,es,ep,e2,c⟩,r⟩:=x
  exact ⟨ho _ d,z,ne,k _ _ (.inl rfl) e,mA,⟨od,es,ep,k _ _ (.inr d) e2,c⟩,r⟩
 | own y=>obtain ⟨ob,e⟩:=x;exact ⟨ob,k _ _ (.inl rfl) e⟩
 | xd fs=>obtain ⟨mA,⟨od,es,ep,e,c⟩,r⟩:=x;exact ⟨mA,⟨od,es,ep,k _ _ (.inl rfl) e,c⟩,r⟩
 | rng lo hi=>obtain ⟨t,u,v,e⟩:=x;exact ⟨t,u,v,k _ _ (.inl rfl) e⟩
 | frz ob u ih=>obtain ⟨e,q⟩:=x;exact ⟨k _ _ (.inl rfl) e,ih q⟩
 | tbl ps=>
  have e:h.get? a=some { cls:=.none,data:=.fields ps }:=x
  show h'.get? a=some { cls:=.none,data:=.fields ps }
  exact k a _ (.inl rfl) e
 | met f y=>
  have e:h.get? a=some (PySem.W.methodObj (.ref f) (.ref y)):=x
  show h'.get? a=some (PySem.W.methodObj (.ref f) (.ref y))
  exact k a _ (.inl rfl) e
 | ext φ=>obtain ⟨p,⟨o,e⟩,st⟩:=x;exact ⟨st _ _ p fun o q=>k _ _ (.inl rfl) q,⟨o,k _ _ (.inl rfl) e⟩,st⟩
theorem HOk.lt (x:HOk P w H h) (e:H a=some o):a < h.objs.size:=(x a o e).lt
theorem HOk.fresh (x:HOk P w H h) (e:h.objs.size≤a):H a=none:=by
 cases q:H a with
 | none=>rfl
 | some u=>exact absurd (Nat.lt_of_lt_of_le (x.lt q) e) (Nat.lt_irrefl _)
theorem HOk.kept (x:HOk P w H h) (k:∀ b u,h.get? b=some u->h'.get? b=some u):HOk P w H h':=fun a o e=>
 (x a o e).stay (fun b u _ q=>k b u q) (fun _ q=>q) fun _ _ q=>q
theorem HOk.laid (x:HOk P w H h) (k:∀ b u,h.get? b=some u->h'.get? b=some u) (hp:h.objs.size≤a) (new:ObjOk P w (upd H a o) h' a o):HOk P w (upd H a o) h':=fun b u e=>by
 have hn:=x.fresh hp
 by_cases hb:b=a
 ·subst hb;rw [upd_same] at e;cases e;exact new
 ·rw [upd_ne hb] at e
  exact (x b u e).stay (fun c v _ q=>k c v q) (fun c q=>by rw [upd_ne (ne_of_none q hn)];exact q) fun c xs q=>by rw [upd_ne (ne_of_none q hn)];exact q
end
def Rd (H:Hp) (a:Addr) (u:HO):Prop:=H a=some u∨∃ o,H a=some (.frz o u)
theorem Rd.ok {P:Program}{w:World}{H:Hp}{h:Heap}{a:Addr}{u:HO}(r:Rd H a u) (x:HOk P w H h):ObjOk P w H h a u:=by
 rcases r with r|⟨o,r⟩
 ·exact x a u r
 ·obtain ⟨_,q⟩:=x a _ r
  exact q
def Mut:Option HO->Prop
 | some (.lst _)=>True
 | some (.dK _)=>True
 | some (.dT _)=>True
 | some (.set _ _)=>True
 | some (.ins _ _ _)=>True
 | some (.ext _)=>True
 | _=>False
section
variable {P:Program}{w:World}{H:Hp}{h h':Heap}{x e:Addr}{o':HO}
theorem HOk.write (ok:HOk P w H h) (mu:Mut (H x)) (he:e=x∨H e=some (.own x)) (k:∀ b u,b ≠ e->h.get? b=some u->h'.get? b=some u) (heo:∃ u,h'.get? e=some u)
  (new:ObjOk P w (upd H x o') h' x o'):HOk P w (upd H x o') h':=fun b u q=>by
 have nown:∀ c y,H c=some (.own y)->c ≠ x:=fun c y r z=>by subst z;rw [r] at mu;exact mu
 have ntup:∀ c xs,H c=some (.tup xs)->c ≠ x:=fun c xs r z=>by subst z;rw [r] at mu;exact mu
 by_cases hb:b=x
 ·subst hb;rw [upd_same] at q;cases q;exact new
 ·rw [upd_ne hb] at q
  by_cases hbe:b=e
  ·have q':H b=some (.own x):=by
    rcases he with z|z
    ·exact absurd (hbe.trans z) hb
    ·rw [hbe];exact z
   rw [q] at q';cases q'
   obtain ⟨v,hv⟩:=heo
   exact ⟨v,by rw [hbe];exact hv⟩
  ·refine (ok b u q).stay (fun c v hc r=>k c v ?_ r) (fun c r=>by rw [upd_ne (nown c b r)];exact r) fun c xs r=>by rw [upd_ne (ntup c xs r)];exact r
   rcases hc with rfl|hc
   ·exact hbe
   ·rintro rfl
    rcases he with z|z
    ·exact nown c b hc z
    ·rw [hc] at z;cases z;exact hb rfl
end
structure Un (fs ex:List Addr) (H H':Hp) (h h':Heap):Prop where
 keep:∀ b o,h.get? b=some o->H b=none->b ∉ fs->b ∉ ex->h'.get? b=some o
 slot:∀ b o,h.get? b=some o->H b=none->b∈fs->b ∉ ex->∃ sl,h'.get? b=some { o with slots:=sl }
 free:∀ b o,h.get? b=some o->H b=none->b ∉ ex->H' b=none
 there:∀ b o,h.get? b=some o->b ∉ ex->∃ o',h'.get? b=some o'
 tups:∀ b xs,H b=some (.tup xs)->H' b=some (.tup xs)
 frzs:∀ b o u,H b=some (.frz o u)->H' b=some (.frz o u)
 tbls:∀ b ps,H b=some (.tbl ps)->∃ more,H' b=some (.tbl (ps++more))
section
variable {fs fs' ex ex':List Addr}{H H1 H2:Hp}{h h1 h2 h':Heap}{a x e:Addr}{o:HO}
theorem Un.any (u:Un fs ex H H1 h h1){b:Addr}{ob:Obj}(q:h.get? b=some ob) (n:H b=none) (hx:b ∉ ex):∃ sl,h1.get? b=some { ob with slots:=sl }:=by
 by_cases hb:b∈fs
 ·exact u.slot b ob q n hb hx
 ·exact ⟨ob.slots,u.keep b ob q n hb hx⟩
theorem Un.trans (a:Un fs ex H H1 h h1) (b:Un fs ex H1 H2 h1 h2):Un fs ex H H2 h h2 where
 keep:=fun c ob q n hc hx=>b.keep c ob (a.keep c ob q n hc hx) (a.free c ob q n hx) hc hx
 slot:=fun c ob q n hc hx=>by
  obtain ⟨sl,e1⟩:=a.slot c ob q n hc hx
  obtain ⟨sl',e2⟩:=b.slot c _ e1 (a.free c ob q n hx) hc hx
  exact ⟨sl',e2⟩
 free:=fun c ob q n hx=>by
  obtain ⟨o',e1⟩:=a.there c ob q hx
  exact b.free c o' e1 (a.free c ob q n hx) hx
 there:=fun c ob q hx=>by
  obtain ⟨o',e1⟩:=a.there c ob q hx
  exact b.there c o' e1 hx
 tups:=fun c xs q=>b.tups c xs (a.tups c xs q)
 frzs:=fun c ob xs q=>b.frzs c ob xs (a.frzs c ob xs q)
 tbls:=fun c ps q=>by
  obtain ⟨m1,e1⟩:=a.tbls c ps q
  obtain ⟨m2,e2⟩:=b.tbls c _ e1
  exact ⟨m1++m2,by rw [e2,Array.append_assoc]⟩
theorem Un.kept (k:∀ b u,h.get? b=some u->h'.get? b=some u):Un fs ex H H h h':=
 ⟨fun b ob q _ _ _=>k b ob q,fun b ob q _ _ _=>⟨ob.slots,k b ob q⟩,fun _ _ _ n _=>n,fun b ob q _=>⟨ob,k b ob q⟩,fun _ _ q=>q,fun _ _ _ q=>q,fun _ ps q=>⟨#[],by rw [q];simp⟩⟩
theorem Un.refl:Un fs ex H H h h:=Un.kept fun _ _ q=>q
theorem Un.laid (k:∀ b u,h.get? b=some u->h'.get? b=some u) (hp:h.objs.size≤a) (hn:H a=none):Un fs ex H (upd H a o) h h' where
 keep:=fun b u q _ _ _=>k b u q
 slot:=fun b u q _ _ _=>⟨u.slots,k b u q⟩
 free:=fun b u q n _=>by rw [upd_ne (Nat.ne_of_lt (Nat.lt_of_lt_of_le (Heap.lt_size q) hp))];exact n
 there:=fun b u q _=>⟨u,k b u q⟩
 tups:=fun b xs q=>by rw [upd_ne (ne_of_none q hn)];exact q
 frzs:=fun b u xs q=>by rw [upd_ne (ne_of_none q hn)];exact q
 tbls:=fun b ps q=>⟨#[],by rw [upd_ne (ne_of_none q hn),q];simp⟩
theorem Un.write (mu:Mut (H x)) (he:e=x∨H e=some (.own x)) (k:∀ b u,b ≠ e->h.get? b=some u->h'.get? b=some u) (heo:∃ u,h'.get? e=some u):Un fs ex H (upd H x o) h h':=by
 have hx:∀ b,H b=none->b ≠ x:=fun b n z=>by subst z;rw [n] at mu;exact mu
 have hb:∀ b,H b=none->b ≠ e:=fun b n z=>by
  subst z
  rcases he with r|r
  ·exact hx b n r
  ·rw [n] at r;cases r
 have hm:∀ b u,H b=some u->¬ Mut (some u)->b ≠ x:=fun b u q nm z=>by subst z;rw [q] at mu;exact nm mu
 refine ⟨fun b u q n _ _=>k b u (hb b n) q,fun b u q n _ _=>⟨u.slots,k b u (hb b n) q⟩,fun b u q n _=>by rw [upd_ne (hx b n)];exact n,fun b u q _=>?_,
  fun b xs q=>by rw [upd_ne (hm b _ q fun z=>z)];exact q,fun b u xs q=>by rw [upd_ne (hm b _ q fun z=>z)];exact q,fun b ps q=>⟨#[],by rw [upd_ne (hm b _ q fun z=>z),q];simp⟩⟩
 by_cases hbe:b=e
 ·subst hbe;exact heo
 ·exact ⟨u,k b u hbe q⟩
end
def trk (h:Heap) (H:Hp):List Addr:=(List.range h.objs.size).filter fun a=>(H a).isSome
def hidT (h:Heap) (H:Hp):Heap:=PySem.W.hideAll h (trk h H)
theorem hidT_size (h:Heap) (H:Hp):(hidT h H).objs.size=h.objs.size:=PySem.W.hideAll_size _ _
theorem hidT_get {h:Heap}{H:Hp}{b:Addr}{o:Obj}(e:h.get? b=some o) (n:H b=none):(hidT h H).get? b=some o:=
 PySem.W.hideAll_get _ e fun hm=>by
  have q:(H b).isSome=true:=(List.mem_filter.mp hm).2
  rw [n] at q;simp at q
theorem of_hidT {h:Heap}{H:Hp}{b:Addr}{o:Obj}(e:(hidT h H).get? b=some o):h.get? b=some o∧H b=none:=by
 have e':h.get? b=some o:=PySem.W.of_hideAll (trk h H) e
 refine ⟨e',?_⟩
 cases q:H b with
 | none=>rfl
 | some x=>
  have hm:b∈trk h H:=List.mem_filter.mpr ⟨List.mem_range.mpr (Heap.lt_size e'),by simp [q]⟩
  have z:(hidT h H).get? b=none:=PySem.W.hideAll_none (trk h H) hm
  rw [z] at e;cases e
def allNews (g h:Heap) (L:Addr):List (Addr × Obj):=(List.range h.objs.size).filterMap fun a=>if a=L∨(g.get? a).isSome=true then none else (h.get? a).map fun o=>(a,o)
def rest (g h:Heap) (L d:Addr):List (Addr × Obj):=(allNews g h L).filter fun p=>decide (p.1 ≠ d)
end L2
namespace L2
open PySem PySem.Spec PyProof.Rows
structure Mod (K:PySem.W.Frag) (mg:Str->Option Value) (base:Heap):Prop where
 kin:K.In base
 glob:base.Ns mainGlobals mg
 blt:∃ mb,base.Ns builtinsNs mb∧∀ x:Str,x ≠ "__name__" → mb x=bootBuiltins x
 nolimit:base.NoLimit
structure Cx where
 prog:Program
 w:World
 K:PySem.W.Frag
 mg:Str->Option Value
 base:Heap
 A:Around
 N:List Str
 s₀:Shared
 H₀:Hp
 env:Env
 outer:List Env
 stack:List Env
 ex:List Addr
 fn:Str->Bool
 calm:Bool
 pn:List (Addr × Obj)
 xe:Value->Shared->Prop
def frs (l:List Env):List Addr:=l.filterMap (·.frame)
abbrev Cx.fs (X:Cx):List Addr:=frs X.outer
def Vis (sc:Scope) (x:Str):Prop:=sc.names.lookup x=some .local∨sc.names.lookup x=some .cell∨sc.names.lookup x=some .free
def Loc (sc:Scope) (x:Str):Prop:=sc.names.lookup x=some .local∨sc.names.lookup x=some .cell
def Look (env:Env) (h:Heap) (m:Str->Option Value) (x:Str) (u:Value):Prop:=
 (env.kindOf x=some .local∧m x=some u)∨((env.kindOf x=some .cell∨env.kindOf x=some .free)∧∃ c,env.cells.lookup x=some c∧h.IsCell c (some u))
structure Cx.Ok (X:Cx):Prop where
 mod:Mod X.K X.mg X.base
 kind:X.env.scope.kind=.function
 glob:X.env.globals=mainGlobals
 blt:X.env.builtins=builtinsNs
 above:X.s₀.heap.objs.size≤X.env.locals
 inj:∀ x y c,X.env.cells.lookup x=some c->X.env.cells.lookup y=some c->x=y
 has:∀ x,(X.env.kindOf x=some .cell∨X.env.kindOf x=some .free)->∃ c,X.env.cells.lookup x=some c
 cab:∀ x c,X.fn x=true->X.env.cells.lookup x=some c->X.s₀.heap.objs.size≤c
 hd:X.calm=true->X.A.handled=none
 frames:X.A.frames=some X.stack
 stk:X.stack=X.outer∨(X.stack=X.env::X.outer∧X.env.frame=some X.env.locals)
 exf:∀ b∈X.ex,b ≠ X.env.locals∧∀ x c,X.env.cells.lookup x=some c->c ≠ b
 bs:∀ b o,X.base.get? b=some o->X.s₀.heap.get? b=some o∧X.H₀ b=none
 bsz:X.base.objs.size≤X.s₀.heap.objs.size
 noex:∀ b o,X.base.get? b=some o->b ∉ X.ex
 exfs:∀ b∈X.ex,b ∉ X.fs
 funs:X.s₀.heap.FunFrames X.base X.outer
 frf:∀ b∈X.fs,X.H₀ b=none
structure Inv (X:Cx) (pins:List (Addr × Obj)) (σ:List (Option V)) (H:Hp) (s:Shared):Prop where
 ok:X.Ok
 os:s.os=X.s₀.os
 bare:AllBare s.gens
 base:Un X.fs X.ex X.H₀ H X.s₀.heap s.heap
 loc:∃ m,s.heap.Ns X.env.locals m∧∀ (i:Nat) (x:Str) (v:V),X.N[i]? = some x->σ[i]? = some (some v)->Vis X.env.scope x->∃ u,RelV v u∧Look X.env s.heap m x u
 cell:∀ x c,X.env.cells.lookup x=some c->∃ v,s.heap.IsCell c v
 free:H X.env.locals=none
 freeC:∀ x c,X.env.cells.lookup x=some c->H c=none
 pin:∀ p∈X.pn++pins,s.heap.get? p.1=some p.2∧H p.1=none∧p.1 ≠ X.env.locals∧p.1 ∉ X.fs∧∀ v,p.2.data ≠ .cell v
 hok:HOk X.prog X.w H s.heap
 len:σ.length=X.N.length
section
variable {X:Cx}{pins:List (Addr × Obj)}{σ:List (Option V)}{H H':Hp}{s:Shared}{h':Heap}
theorem Cx.Ok.nofr (ok:X.Ok){b:Addr}{o:Obj}(e:X.base.get? b=some o):b ∉ X.fs:=fun hb=>by
 have:=(ok.funs.mem hb).1
 rw [e] at this;cases this
theorem Inv.bs (I:Inv X pins σ H s):∀ b o,X.base.get? b=some o->s.heap.get? b=some o∧H b=none:=fun b o e=>
 ⟨I.base.keep b o (I.ok.bs b o e).1 (I.ok.bs b o e).2 (I.ok.nofr e) (I.ok.noex b o e),I.base.free b o (I.ok.bs b o e).1 (I.ok.bs b o e).2 (I.ok.noex b o e)⟩
theorem Inv.bk (I:Inv X pins σ H s):∀ b o,X.base.get? b=some o->s.heap.get? b=some o:=fun b o e=>(I.bs b o e).1
theorem Inv.mod (I:Inv X pins σ H s):Mod X.K X.mg X.base:=I.ok.mod
theorem Inv.kIn (I:Inv X pins σ H s):X.K.In s.heap:=I.ok.mod.kin.keeps I.bk
theorem Inv.lt (I:Inv X pins σ H s):X.env.locals < s.heap.objs.size:=let ⟨_,hn,_⟩:=I.loc;hn.lt
theorem Inv.sz (I:Inv X pins σ H s):X.s₀.heap.objs.size≤s.heap.objs.size:=Nat.le_trans I.ok.above (Nat.le_of_lt I.lt)
theorem Inv.nofs (I:Inv X pins σ H s){a:Addr}(h:s.heap.objs.size≤a):a ∉ X.fs:=fun hb=>by
 obtain ⟨_,o,ho,_⟩:=I.ok.funs.mem hb
 exact absurd (Nat.lt_of_lt_of_le (Heap.lt_size ho) (Nat.le_trans I.sz h)) (Nat.lt_irrefl _)
theorem Inv.cne (I:Inv X pins σ H s):∀ x c,X.env.cells.lookup x=some c->c ≠ X.env.locals:=fun x c e z=>by
 obtain ⟨v,o,ho,hd⟩:=I.cell x c e
 obtain ⟨m,⟨o',es,ep,ho',hd',_⟩,_⟩:=I.loc
 rw [z,ho'] at ho;cases ho;rw [hd'] at hd;cases hd
theorem Inv.funs (I:Inv X pins σ H s):s.heap.FunFrames X.base X.outer:=by
 have all:∀ (l:List Env),(∀ b∈frs l,b∈X.fs)->X.s₀.heap.FunFrames X.base l->s.heap.FunFrames X.base l:=by
  intro l
  induction l with
  | nil=>intro _ _;trivial
  | cons env r ih=>
   intro hs hl
   obtain ⟨hk,⟨L,o,hf,hn,ho,hd⟩,hr⟩:=hl
   have hL:L∈X.fs:=hs L (by unfold frs;rw [List.filterMap_cons,hf];exact List.mem_cons_self)
   obtain ⟨sl,e⟩:=I.base.slot L o ho (I.ok.frf L hL) hL fun z=>I.ok.exfs L z hL
   exact ⟨hk,⟨L,_,hf,hn,e,hd⟩,ih (fun b hb=>hs b (by unfold frs;rw [List.filterMap_cons,hf];exact List.mem_cons_of_mem _ hb)) hr⟩
 exact all X.outer (fun _ hb=>hb) I.ok.funs
theorem Inv.stack (I:Inv X pins σ H s):s.heap.FunFrames X.base X.stack:=by
 rcases I.ok.stk with e|⟨e,hf⟩
 ·rw [e];exact I.funs
 ·rw [e]
  obtain ⟨m,hn,_⟩:=I.loc
  refine .cons (by rw [I.ok.kind];decide) hf hn ?_ I.funs
  exact Heap.get?_none_of_le (Nat.le_trans I.ok.bsz I.ok.above)
theorem Inv.stkSub (I:Inv X pins σ H s):∀ b∈frs X.stack,b∈X.env.locals::X.fs:=fun b hb=>by
 rcases I.ok.stk with e|⟨e,hf⟩
 ·rw [e] at hb;exact List.mem_cons_of_mem _ hb
 ·rw [e] at hb
  unfold frs at hb
  rw [List.filterMap_cons,hf] at hb
  exact hb
theorem Inv.stkFree (I:Inv X pins σ H s):∀ b∈frs X.stack,H b=none:=fun b hb=>by
 rcases List.mem_cons.mp (I.stkSub b hb) with e|hb
 ·rw [e];exact I.free
 ·obtain ⟨_,o,ho,_⟩:=I.ok.funs.mem hb
  exact I.base.free b o ho (I.ok.frf b hb) fun z=>I.ok.exfs b z hb
theorem Inv.step {g':Array GenState}{t':Nat}{d':Drawn}{ch:List Addr}(I:Inv X pins σ H s)
  (hch:∀ b∈ch,(b∈X.ex∨X.s₀.heap.objs.size≤b)∧b ≠ X.env.locals∧(∀ x c,X.env.cells.lookup x=some c->c ≠ b)∧∀ p∈X.pn++pins,p.1 ≠ b)
  (keep:∀ b o,b ≠ X.env.locals->b ∉ X.fs->b ∉ ch->s.heap.get? b=some o->H b=none->h'.get? b=some o)
  (slot:∀ b o,b ≠ X.env.locals->b∈X.fs->b ∉ ch->s.heap.get? b=some o->H b=none->∃ sl,h'.get? b=some { o with slots:=sl }) (free:∀ b o,b ∉ ch->s.heap.get? b=some o->H b=none->H' b=none)
  (there:∀ b o,b ∉ ch->s.heap.get? b=some o->∃ o',h'.get? b=some o')
  (tups:∀ b xs,H b=some (.tup xs)->H' b=some (.tup xs)) (frzs:∀ b o u,H b=some (.frz o u)->H' b=some (.frz o u)) (tbls:∀ b ps,H b=some (.tbl ps)->∃ more,H' b=some (.tbl (ps++more)))
  (ns:∀ m,s.heap.Ns X.env.locals m->h'.Ns X.env.locals m) (hok:HOk X.prog X.w H' h') (hg:AllBare g') :
  Inv X pins σ H' { s with heap:=h',gens:=g',drawn:=d',toks:=t' }:=by
 have neL:∀ b o,X.s₀.heap.get? b=some o->b ≠ X.env.locals:=fun b o e=>Nat.ne_of_lt (Nat.lt_of_lt_of_le (Heap.lt_size e) I.ok.above)
 have neC:∀ b o,X.s₀.heap.get? b=some o->b ∉ X.ex->b ∉ ch:=fun b o e hx hb=>by
  rcases (hch b hb).1 with z|z
  ·exact hx z
  ·exact absurd (Nat.lt_of_lt_of_le (Heap.lt_size e) z) (Nat.lt_irrefl _)
 have cellK:∀ x c,X.env.cells.lookup x=some c->∀ v,s.heap.IsCell c v->h'.IsCell c v:=fun x c e v ⟨o,ho,hd⟩=>by
  have nch:c ∉ ch:=fun z=>(hch c z).2.2.1 x c e rfl
  by_cases hc:c∈X.fs
  ·obtain ⟨sl,q⟩:=slot c o (I.cne x c e) hc nch ho (I.freeC x c e)
   exact ⟨_,q,hd⟩
  ·exact ⟨o,keep c o (I.cne x c e) hc nch ho (I.freeC x c e),hd⟩
 refine ⟨I.ok,I.os,hg,⟨fun b o e n hb hx=>?_,fun b o e n hb hx=>?_,fun b o e n hx=>?_,fun b o e hx=>?_,fun b xs e=>tups b xs (I.base.tups b xs e),fun b o xs e=>frzs b o xs (I.base.frzs b o xs e),fun b ps e=>?_⟩,?_,fun x c e=>?_,?_,fun x c e=>?_,fun p hp=>?_,hok,I.len⟩
 ·exact keep b o (neL b o e) hb (neC b o e hx) (I.base.keep b o e n hb hx) (I.base.free b o e n hx)
 ·obtain ⟨sl,e1⟩:=I.base.slot b o e n hb hx
  obtain ⟨sl',e2⟩:=slot b _ (neL b o e) hb (neC b o e hx) e1 (I.base.free b o e n hx)
  exact ⟨sl',e2⟩
 ·obtain ⟨o',e1⟩:=I.base.there b o e hx
  exact free b o' (neC b o e hx) e1 (I.base.free b o e n hx)
 ·obtain ⟨o',e1⟩:=I.base.there b o e hx
  exact there b o' (neC b o e hx) e1
 ·obtain ⟨m1,e1⟩:=I.base.tbls b ps e
  obtain ⟨m2,e2⟩:=tbls b _ e1
  exact ⟨m1++m2,by rw [e2,Array.append_assoc]⟩
 ·obtain ⟨m,hn,hl⟩:=I.loc
  refine ⟨m,ns m hn,fun i x v e1 e2 e3=>?_⟩
  obtain ⟨u,r,l⟩:=hl i x v e1 e2 e3
  refine ⟨u,r,?_⟩
  rcases l with l|⟨k,c,e,z⟩
  ·exact .inl l
  ·exact .inr ⟨k,c,e,cellK x c e _ z⟩
 ·obtain ⟨v,z⟩:=I.cell x c e
  exact ⟨v,cellK x c e v z⟩
 ·obtain ⟨m,⟨o,_,_,ho,_⟩,_⟩:=I.loc
  exact free _ o (fun z=>(hch _ z).2.1 rfl) ho I.free
 ·obtain ⟨v,o,ho,hd⟩:=I.cell x c e
  exact free c o (fun z=>(hch c z).2.2.1 x c e rfl) ho (I.freeC x c e)
 ·obtain ⟨e,n,ne,nf,d⟩:=I.pin p hp
  have nch:p.1 ∉ ch:=fun z=>(hch p.1 z).2.2.2 p hp rfl
  exact ⟨keep p.1 p.2 ne nf nch e n,free p.1 p.2 nch e n,ne,nf,d⟩
theorem Inv.un {t':Nat}(I:Inv X pins σ H s) (u:Un X.fs [] H H' s.heap h') (hok:HOk X.prog X.w H' h'):Inv X pins σ H' { s with heap:=h',toks:=t' }:=by
 obtain ⟨m,⟨o,es,ep,ho,r⟩,_⟩:=id I.loc
 obtain ⟨sl,hL⟩:=u.any ho I.free (by simp)
 exact I.step (g':=s.gens) (d':=s.drawn) (ch:=[]) (fun _ z=>nomatch z) (fun b o _ hb _ e n=>u.keep b o e n hb (by simp)) (fun b o _ hb _ e n=>u.slot b o e n hb (by simp)) (fun b o _ e n=>u.free b o e n (by simp)) (fun b o _ e=>u.there b o e (by simp)) u.tups u.frzs u.tbls (fun m' hm=>by
  obtain ⟨o',es',ep',ho',r'⟩:=hm
  rw [ho] at ho';cases ho'
  exact ⟨_,es',ep',hL,r'⟩) hok I.bare
theorem Inv.call {g':Array GenState}{t':Nat}{d':Drawn}{ch:List Addr}(I:Inv X pins σ H s) (u:Un (frs X.stack) ch H H' s.heap h') (hok:HOk X.prog X.w H' h') (hg:AllBare g')
  (hch:∀ b∈ch,(b∈X.ex∨X.s₀.heap.objs.size≤b)∧b ≠ X.env.locals∧(∀ x c,X.env.cells.lookup x=some c->c ≠ b)∧∀ p∈X.pn++pins,p.1 ≠ b) :
  Inv X pins σ H' { s with heap:=h',gens:=g',drawn:=d',toks:=t' }:=by
 obtain ⟨m,⟨o,es,ep,ho,r⟩,_⟩:=id I.loc
 obtain ⟨sl,hL⟩:=u.any ho I.free fun z=>(hch _ z).2.1 rfl
 exact I.step (ch:=ch) hch (fun b o hL hb hc e n=>u.keep b o e n (fun z=>(List.mem_cons.mp (I.stkSub b z)).elim hL hb) hc) (fun b o _ _ hc e n=>u.any e n hc) (fun b o hc e n=>u.free b o e n hc) (fun b o hc e=>u.there b o e hc) u.tups u.frzs u.tbls (fun m' hm=>by
  obtain ⟨o',es',ep',ho',r'⟩:=hm
  rw [ho] at ho';cases ho'
  exact ⟨_,es',ep',hL,r'⟩) hok hg
theorem Inv.turned {t':Nat}{it:Addr}(I:Inv X pins σ H s) (k:∀ b o,b ≠ it->s.heap.get? b=some o->h'.get? b=some o) (hn:H it=none) (hL:it ≠ X.env.locals)
  (h1:it∈X.ex∨X.s₀.heap.objs.size≤it) (h2:∀ x c,X.env.cells.lookup x=some c->c ≠ it) (h3:∀ p∈X.pn++pins,p.1 ≠ it):Inv X pins σ H { s with heap:=h',toks:=t' }:=by
 have nit:∀ b u,H b=some u->b ≠ it:=fun b u e z=>by rw [z,hn] at e;cases e
 refine I.step (g':=s.gens) (d':=s.drawn) (ch:=[it]) (fun b hb=>?_) (fun b o _ _ hc e _=>k b o (fun z=>hc (by simp [z])) e) (fun b o _ _ hc e _=>⟨o.slots,k b o (fun z=>hc (by simp [z])) e⟩) (fun _ _ _ _ n=>n)
  (fun b o hc e=>⟨o,k b o (fun z=>hc (by simp [z])) e⟩) (fun _ _ e=>e) (fun _ _ _ e=>e) (fun b ps e=>⟨#[],by rw [e];simp⟩) (fun m hm=>?_) (fun b u e=>?_) I.bare
 ·have e:b=it:=by simpa using hb
  subst e
  exact ⟨h1,hL,h2,h3⟩
 ·obtain ⟨o,es,ep,ho,r⟩:=hm
  exact ⟨o,es,ep,k _ o (Ne.symm hL) ho,r⟩
 ·refine (I.hok b u e).stay (fun c v hc q=>k c v ?_ q) (fun _ q=>q) fun _ _ q=>q
  rcases hc with z|z
  ·rw [z];exact nit b u e
  ·exact nit c _ z
theorem Inv.tok (I:Inv X pins σ H s) (t:Nat):Inv X pins σ H { s with toks:=t }:=I.un (h':=s.heap) (t':=t) Un.refl I.hok
theorem Inv.kept {t':Nat}(I:Inv X pins σ H s) (k:∀ b u,s.heap.get? b=some u->h'.get? b=some u):Inv X pins σ H { s with heap:=h',toks:=t' }:=I.un (Un.kept k) (I.hok.kept k)
theorem Inv.laid {a:Addr}{o:HO}{t':Nat}(I:Inv X pins σ H s) (k:∀ b u,s.heap.get? b=some u->h'.get? b=some u) (hp:s.heap.objs.size≤a) (new:ObjOk X.prog X.w (upd H a o) h' a o) :
  Inv X pins σ (upd H a o) { s with heap:=h',toks:=t' }:=I.un (Un.laid k hp (I.hok.fresh hp)) (I.hok.laid k hp new)
theorem Inv.write {x e:Addr}{o:HO}{t':Nat}(I:Inv X pins σ H s) (mu:Mut (H x)) (he:e=x∨H e=some (.own x)) (k:∀ b u,b ≠ e->s.heap.get? b=some u->h'.get? b=some u) (heo:∃ u,h'.get? e=some u)
  (new:ObjOk X.prog X.w (upd H x o) h' x o):Inv X pins σ (upd H x o) { s with heap:=h',toks:=t' }:=I.un (Un.write mu he k heo) (I.hok.write mu he k heo new)
theorem Inv.weak {σ':List (Option V)}(I:Inv X pins σ H s) (hl:σ'.length=σ.length) (w:∀ (i:Nat) v,σ'[i]? = some (some v)->σ[i]? = some (some v)):Inv X pins σ' H s:=
 ⟨I.ok,I.os,I.bare,I.base,let ⟨m,hn,hl'⟩:=I.loc;⟨m,hn,fun i x v e1 e2 e3=>hl' i x v e1 (w i v e2) e3⟩,I.cell,I.free,I.freeC,I.pin,I.hok,hl.trans I.len⟩
theorem Inv.pins_of {pins':List (Addr × Obj)}(I:Inv X pins σ H s) (h:∀ p∈pins',s.heap.get? p.1=some p.2∧H p.1=none∧p.1 ≠ X.env.locals∧p.1 ∉ X.fs∧∀ v,p.2.data ≠ .cell v):Inv X pins' σ H s:=
 ⟨I.ok,I.os,I.bare,I.base,I.loc,I.cell,I.free,I.freeC,fun p hp=>(List.mem_append.mp hp).elim (fun z=>I.pin p (List.mem_append_left _ z)) (h p),I.hok,I.len⟩
theorem nodup_ix {N:List Str}(hN:N.Nodup){i j:Nat}{x:Str}(a:N[i]? = some x) (b:N[j]? = some x):i=j:=by
 obtain ⟨h1,e1⟩:=List.getElem?_eq_some_iff.mp a
 obtain ⟨h2,e2⟩:=List.getElem?_eq_some_iff.mp b
 exact (List.getElem_inj hN).mp (e1.trans e2.symm)
theorem store_ok2 {M:Model}{A:Around}{E:Value->Shared->Prop}{i:Nat}{x:Str}{v:V}{u:Value}{Q:Unit->Shared->Prop}(I:Inv X pins σ H s) (hN:X.N.Nodup) (hi:X.N[i]? = some x) (hx:Loc X.env.scope x) (r:RelV v u)
  (h:∀ s',Inv X pins (σ.set i (some v)) H s'->(∃ a,Heap.SameBut a s.heap s'.heap∧(a=X.env.locals∨X.env.cells.lookup x=some a))->Q () s') (hf:X.fn x=true∨X.env.scope.names.lookup x=some .local:=by first|exact .inl rfl|exact .inr rfl|assumption):wpAny M A (storeName X.env x u) Q E s:=by
 obtain ⟨m,hn,hl⟩:=id I.loc
 have hcls:(X.env.scope.kind == .class || (X.env.scope.kind == .module && X.env.locals != X.env.globals))=false:=by rw [I.ok.kind];rfl
 have hiσ:i < σ.length:=by rw [I.len];exact (List.getElem?_eq_some_iff.mp hi).1
 have cne:=I.cne
 have tracked:∀ {a:Addr} {h':Heap},(∃ o,s.heap.get? a=some o∧H a=none)->Heap.SameBut a s.heap h'->HOk X.prog X.w H h':=fun {a h'} ha hs b ob e=>by
  obtain ⟨_,_,hfree⟩:=ha
  refine (I.hok b ob e).stay (fun c w' hc q=>(hs.2 c ?_).trans q) (fun _ q=>q) fun _ _ q=>q
  rintro rfl
  rcases hc with rfl|hc
  ·rw [hfree] at e;cases e
  ·rw [hfree] at hc;cases hc
 rcases hx with hk|hk
 ·refine wpAny_storeName_local hk hn (fun h' hn' hs=>?_) hcls
  obtain ⟨oL,_,_,hoL,_⟩:=id hn
  refine h _ ⟨I.ok,I.os,I.bare,⟨fun b o e n hb hx=>?_,fun b o e n hb hx=>?_,I.base.free,fun b o e hx=>?_,I.base.tups,I.base.frzs,I.base.tbls⟩,⟨_,hn',fun j y v' e1 e2 e3=>?_⟩,fun y c e=>?_,I.free,I.freeC,fun p hp=>?_,tracked ⟨oL,hoL,I.free⟩ hs,by simpa using I.len⟩ ⟨_,hs,.inl rfl⟩
  ·exact (hs.2 b (Nat.ne_of_lt (Nat.lt_of_lt_of_le (Heap.lt_size e) I.ok.above))).trans (I.base.keep b o e n hb hx)
  ·obtain ⟨sl,e1⟩:=I.base.slot b o e n hb hx
   exact ⟨sl,(hs.2 b (Nat.ne_of_lt (Nat.lt_of_lt_of_le (Heap.lt_size e) I.ok.above))).trans e1⟩
  ·obtain ⟨o',e1⟩:=I.base.there b o e hx
   exact ⟨o',(hs.2 b (Nat.ne_of_lt (Nat.lt_of_lt_of_le (Heap.lt_size e) I.ok.above))).trans e1⟩
  ·by_cases hj:j=i
   ·subst hj
    rw [hi] at e1;cases e1
    rw [List.getElem?_set_self hiσ] at e2
    cases e2
    exact ⟨u,r,.inl ⟨hk,by simp⟩⟩
   ·rw [List.getElem?_set_ne (Ne.symm hj)] at e2
    obtain ⟨u',r',q⟩:=hl j y v' e1 e2 e3
    refine ⟨u',r',?_⟩
    rcases q with ⟨k,e⟩|⟨k,c,e,z⟩
    ·refine .inl ⟨k,?_⟩
     have:y ≠ x:=fun e=>hj (nodup_ix hN e1 (e ▸ hi))
     simp [this,e]
    ·exact .inr ⟨k,c,e,z.sameBut hs (cne y c e)⟩
  ·obtain ⟨w',z⟩:=I.cell y c e
   exact ⟨w',z.sameBut hs (cne y c e)⟩
  ·obtain ⟨e,n,ne,nf,d⟩:=I.pin p hp
   exact ⟨(hs.2 p.1 ne).trans e,n,ne,nf,d⟩
 ·have hfn:X.fn x=true:=by
   rcases hf with z|z
   ·exact z
   ·rw [z] at hk;cases hk
  obtain ⟨c,hc⟩:=I.ok.has x (.inl hk)
  obtain ⟨w',z⟩:=I.cell x c hc
  refine wpAny_storeName_cell I.ok.kind hk hc z (fun h' hc' hs=>?_)
  obtain ⟨oc,hoc,hocd⟩:=id z
  refine h { s with heap:=h' } ⟨I.ok,I.os,I.bare,⟨fun b o e n hb hx=>?_,fun b o e n hb hx=>?_,I.base.free,fun b o e hx=>?_,I.base.tups,I.base.frzs,I.base.tbls⟩,⟨m,hn.sameBut hs (Ne.symm (cne x c hc)),fun j y v' e1 e2 e3=>?_⟩,fun y c' e=>?_,I.free,I.freeC,fun p hp=>?_,tracked ⟨oc,hoc,I.freeC x c hc⟩ hs,by simpa using I.len⟩ ⟨c,hs,.inr hc⟩
  ·exact (hs.2 b (Nat.ne_of_lt (Nat.lt_of_lt_of_le (Heap.lt_size e) (I.ok.cab x c hfn hc)))).trans (I.base.keep b o e n hb hx)
  ·obtain ⟨sl,e1⟩:=I.base.slot b o e n hb hx
   exact ⟨sl,(hs.2 b (Nat.ne_of_lt (Nat.lt_of_lt_of_le (Heap.lt_size e) (I.ok.cab x c hfn hc)))).trans e1⟩
  ·obtain ⟨o',e1⟩:=I.base.there b o e hx
   exact ⟨o',(hs.2 b (Nat.ne_of_lt (Nat.lt_of_lt_of_le (Heap.lt_size e) (I.ok.cab x c hfn hc)))).trans e1⟩
  ·by_cases hj:j=i
   ·subst hj
    rw [hi] at e1;cases e1
    rw [List.getElem?_set_self hiσ] at e2
    cases e2
    exact ⟨u,r,.inr ⟨.inl hk,c,hc,hc'⟩⟩
   ·rw [List.getElem?_set_ne (Ne.symm hj)] at e2
    obtain ⟨u',r',q⟩:=hl j y v' e1 e2 e3
    refine ⟨u',r',?_⟩
    rcases q with q|⟨k,c',e,z'⟩
    ·exact .inl q
    ·refine .inr ⟨k,c',e,z'.sameBut hs ?_⟩
     rintro rfl
     exact hj (nodup_ix hN e1 (I.ok.inj _ _ _ e hc ▸ hi))
  ·by_cases hcc:c'=c
   ·subst hcc;exact ⟨_,hc'⟩
   ·obtain ⟨w2,z2⟩:=I.cell y c' e
    exact ⟨w2,z2.sameBut hs hcc⟩
  ·obtain ⟨e,n,ne,nf,d⟩:=I.pin p hp
   refine ⟨(hs.2 p.1 ?_).trans e,n,ne,nf,d⟩
   intro q
   rw [q,hoc] at e
   have q':oc=p.2:=Option.some.inj e
   exact d w' (by rw [←q'];exact hocd)
theorem store_ok {M:Model}{A:Around}{E:Value->Shared->Prop}{i:Nat}{x:Str}{v:V}{u:Value}{Q:Unit->Shared->Prop}(I:Inv X pins σ H s) (hN:X.N.Nodup) (hi:X.N[i]? = some x) (hx:Loc X.env.scope x) (r:RelV v u)
  (h:∀ s',Inv X pins (σ.set i (some v)) H s'->Q () s') (hf:X.fn x=true∨X.env.scope.names.lookup x=some .local:=by first|exact .inl rfl|exact .inr rfl|assumption):wpAny M A (storeName X.env x u) Q E s:=
 store_ok2 I hN hi hx r (fun s' I' _=>h s' I') hf
theorem Inv.call' {s':Shared}{ch:List Addr}(I:Inv X pins σ H s) (ho:s'.os=s.os) (u:Un (frs X.stack) ch H H' s.heap s'.heap) (hok:HOk X.prog X.w H' s'.heap) (hg:AllBare s'.gens)
  (hch:∀ b∈ch,(b∈X.ex∨X.s₀.heap.objs.size≤b)∧b ≠ X.env.locals∧(∀ x c,X.env.cells.lookup x=some c->c ≠ b)∧∀ p∈X.pn++pins,p.1 ≠ b):Inv X pins σ H' s':=by
 obtain ⟨h',g',d',t',o'⟩:=s'
 have e:o'=s.os:=ho
 subst e
 exact I.call (g':=g') (t':=t') (d':=d') u hok hg hch
end
abbrev XK:=Value->Option Addr->Hp->Prop
abbrev St:=List (Option V)
abbrev VK:=V->Hp->Prop
abbrev TE:=St->Hp->VK->Prop
abbrev TT:=St->Hp->(Bool->Hp->Prop)->Prop
abbrev TA:=St->Hp->(List V->Hp->Prop)->Prop
structure Ends where
 nx:St->Hp->Prop
 rt:VK
 bk:St->Hp->Prop:=fun _ _=>False
 ct:St->Hp->Prop:=fun _ _=>False
abbrev TS:=Ends->St->Hp->Prop
def EP (X:Cx) (pins:List (Addr × Obj)) (σ:St) (Q:VK) (u:Value) (s':Shared):Prop:=∃ v H',Inv X pins σ H' s'∧RelV v u∧Q v H'
def TP (X:Cx) (pins:List (Addr × Obj)) (σ:St) (Q:Bool->Hp->Prop) (b:Bool) (s':Shared):Prop:=∃ H',Inv X pins σ H' s'∧Q b H'
def AP (X:Cx) (pins:List (Addr × Obj)) (σ:St) (Q:List V->Hp->Prop) (us:List Value) (s':Shared):Prop:=∃ vs H',Inv X pins σ H' s'∧Vals vs us∧Q vs H'
def SP (X:Cx) (pins:List (Addr × Obj)) (D:Ends) (f:Flow) (s':Shared):Prop:=
 match f with
 | .next=>∃ σ' H',Inv X pins σ' H' s'∧D.nx σ' H'
 | .brk=>∃ σ' H',Inv X pins σ' H' s'∧D.bk σ' H'
 | .cont=>∃ σ' H',Inv X pins σ' H' s'∧D.ct σ' H'
 | .ret u=>∃ v σ' H',Inv X pins σ' H' s'∧RelV v u∧D.rt v H'
def PE (X:Cx) (e:Expr) (t:TE):Prop:=
 ∀ (pins:List (Addr × Obj)) (s:Shared) (σ:St) (H:Hp) (Q:VK),Inv X pins σ H s->t σ H Q->wpAny (model X.prog X.w) X.A (eval e X.env) (EP X pins σ Q) X.xe s
def PT (X:Cx) (e:Expr) (t:TT):Prop:=
 ∀ (pins:List (Addr × Obj)) (s:Shared) (σ:St) (H:Hp) (Q:Bool->Hp->Prop),Inv X pins σ H s->t σ H Q->wpAny (model X.prog X.w) X.A (isTrue e X.env (eval e X.env)) (TP X pins σ Q) X.xe s
def PW (X:Cx) (e:Expr) (t:TT):Prop:=
 ∀ (whole:Sem Value) (pins:List (Addr × Obj)) (s:Shared) (σ:St) (H:Hp) (Q:Bool->Hp->Prop),Inv X pins σ H s->t σ H Q->wpAny (model X.prog X.w) X.A (isTrue e X.env whole) (TP X pins σ Q) X.xe s
theorem PW.pt {X:Cx}{e:Expr}{t:TT}(h:PW X e t):PT X e t:=h _
def PA (X:Cx) (es:List Expr) (t:TA):Prop:=
 ∀ (pos:Pos) (pins:List (Addr × Obj)) (s:Shared) (σ:St) (H:Hp) (Q:List V->Hp->Prop),Inv X pins σ H s->t σ H Q->wpAny (model X.prog X.w) X.A (spliced (backTo pos (starEach es X.env))) (AP X pins σ Q) X.xe s
def PS (X:Cx) (st:Stmt) (t:TS):Prop:=
 ∀ (pins:List (Addr × Obj)) (s:Shared) (σ:St) (H:Hp) (D:Ends),Inv X pins σ H s->t D σ H->wpAny (model X.prog X.w) X.A (exec st X.env) (SP X pins D) X.xe s
def PSs (X:Cx) (st:List Stmt) (t:TS):Prop:=
 ∀ (pins:List (Addr × Obj)) (s:Shared) (σ:St) (H:Hp) (D:Ends),Inv X pins σ H s->t D σ H->wpAny (model X.prog X.w) X.A (execs st X.env) (SP X pins D) X.xe s
theorem thn {α:Type}{t:Sem α}{Q Q':α->Shared->Prop}{M:Model}{A:Around}{E:Value->Shared->Prop}{s:Shared}(h:wpAny M A t Q E s) (hQ:∀ a s,Q a s->Q' a s):wpAny M A t Q' E s:=wpAny_mono h hQ fun _ _ x=>x
end L2
namespace L2
open PySem PySem.Spec PyProof.Rows
section
variable {X:Cx}
def tVar (i:Nat):TE:=fun σ H Q=>∃ v,σ[i]? = some (some v)∧Q v H
def tC (v:V):TE:=fun _ H Q=>Q v H
theorem pe_var {i:Nat}{x:Str}{pos:Pos}(hN:X.N[i]? = some x) (hv:Vis X.env.scope x) (hd:(x == ("__debug__":Str))=false:=by decide) (hcd:(x == ("__classdict__":Str))=false:=by decide):PE X (.Name x pos) (tVar i):=by
 intro pins s σ H Q I h
 obtain ⟨v,e,h⟩:=h
 obtain ⟨m,hn,hl⟩:=I.loc
 obtain ⟨u,r,l⟩:=hl i x v hN e hv
 have fin:EP X pins σ Q u s:=⟨v,H,I,r,h⟩
 rcases l with ⟨hk,hm⟩|⟨hk,c,hc,hcell⟩
 ·exact wpAny_Name (wpAny_loadName_local I.ok.kind hk hn hm fin) hd
 ·rcases hk with hk|hk
  ·exact wpAny_Name (wpAny_loadName_cell I.ok.kind hk hc hcell fin) hd
  ·exact wpAny_Name (wpAny_loadName_free I.ok.kind hk hc hcell fin hcd) hd
theorem pe_int {i j pos}:PE X (.Constant (.int i) j pos) (tC (.int i)):=fun _ _ _ H _ I h=>wpAny_Constant_int ⟨.int i,H,I.tok _,⟨_,rfl⟩,h⟩
theorem pe_bl {b j pos}:PE X (.Constant (.bool b) j pos) (tC (.bl b)):=fun _ _ _ H _ I h=>Constant_bool ⟨.bl b,H,I,rfl,h⟩
theorem pe_non {j pos}:PE X (.Constant .none j pos) (tC .non):=fun _ _ _ H _ I h=>Constant_none ⟨.non,H,I,rfl,h⟩
def Gl (X:Cx) (x:Str):Prop:=X.env.kindOf x=some .globalImplicit
theorem ld_glob {E:Value->Shared->Prop}{pins:List (Addr × Obj)}{s:Shared}{σ:St}{H:Hp}{x:Str}{u:Value}{pos:Pos}{Q:Value->Shared->Prop}(I:Inv X pins σ H s) (hg:Gl X x) (hm:X.mg x=some u) (h:Q u s)
  (hd:(x == ("__debug__":Str))=false:=by decide):wpAny (model X.prog X.w) X.A (eval (.Name x pos) X.env) Q E s:=
 Calls.Name_function_global I.ok.kind hg (Calls.loadGlobal_global (by rw [I.ok.glob];exact I.mod.glob.keeps I.bk) hm h) hd
theorem ld_blt {E:Value->Shared->Prop}{pins:List (Addr × Obj)}{s:Shared}{σ:St}{H:Hp}{x:Str}{u:Value}{pos:Pos}{Q:Value->Shared->Prop}(I:Inv X pins σ H s) (hg:Gl X x) (hm:X.mg x=none) (hv:bootBuiltins x=some u) (h:Q u s)
  (hn:x ≠ "__name__":=by decide) (hd:(x == ("__debug__":Str))=false:=by decide):wpAny (model X.prog X.w) X.A (eval (.Name x pos) X.env) Q E s:=by
 obtain ⟨mb,h1,h2⟩:=I.mod.blt
 exact Calls.Name_function_global I.ok.kind hg (Calls.loadGlobal_builtin (by rw [I.ok.glob];exact I.mod.glob.keeps I.bk) hm (by rw [I.ok.blt];exact h1.keeps I.bk) ((h2 x hn).trans hv) h) hd
theorem pe_glob {x:Str}{v:V}{u:Value}{pos:Pos}(hg:Gl X x) (hm:X.mg x=some u) (r:RelV v u) (hd:(x == ("__debug__":Str))=false:=by decide):PE X (.Name x pos) (tC v):=
 fun _ _ _ H _ I h=>ld_glob I hg hm ⟨v,H,I,r,h⟩ hd
variable {a b:Expr}{ta tb:TE}{pos:Pos}
def tB (t:TE):TT:=fun σ H Q=>t σ H fun x H1=>∃ c,x=.bl c∧Q c H1
theorem pt_val {e:Expr}{t:TE}(h:PE X e t) (he:∀ whole,isTrue e X.env whole=(do let v ←whole;standAt e.pos;holding [v] (truthy v)):=by intro _;rfl):PT X e (tB t):=by
 intro pins s σ H Q I hw
 refine isTrue_plain (thn (h pins s σ H _ I hw) fun v s1 ⟨x,H1,I1,r1,q1⟩=>?_) (he _)
 obtain ⟨d,rfl,q⟩:=q1
 cases r1
 exact wpAny_truthy_bool ⟨H1,I1,q⟩
variable {tA tB':TT}{rest:List Expr}
def tAnd (t u:TT):TT:=fun σ H Q=>t σ H fun c H1=>if c=true then u σ H1 Q else Q false H1
def tOr (t u:TT):TT:=fun σ H Q=>t σ H fun c H1=>if c=true then Q true H1 else u σ H1 Q
def tNot (t:TT):TT:=fun σ H Q=>t σ H fun c H1=>Q (!c) H1
theorem pw_and1 (ha:PT X a tA):PW X (.BoolOp .And [a] pos) tA:=by
 intro wh pins s σ H Q I h
 refine isTrue_and (thn (ha pins s σ H Q I h) fun c s1 e=>?_)
 cases c with
 | true=>exact isTrue_and_nil e
 | false=>exact e
theorem pw_or1 (ha:PT X a tA):PW X (.BoolOp .Or [a] pos) tA:=by
 intro wh pins s σ H Q I h
 refine isTrue_or (thn (ha pins s σ H Q I h) fun c s1 e=>?_)
 cases c with
 | false=>exact isTrue_or_nil e
 | true=>exact e
theorem pw_and (ha:PT X a tA) (hb:PW X (.BoolOp .And (b::rest) pos) tB'):PW X (.BoolOp .And (a::b::rest) pos) (tAnd tA tB'):=by
 intro wh pins s σ H Q I h
 refine isTrue_and (thn (ha pins s σ H _ I h) fun c s1 ⟨H1,I1,q1⟩=>?_)
 cases c with
 | true=>exact hb wh pins s1 σ H1 Q I1 q1
 | false=>exact ⟨H1,I1,q1⟩
theorem pw_or (ha:PT X a tA) (hb:PW X (.BoolOp .Or (b::rest) pos) tB'):PW X (.BoolOp .Or (a::b::rest) pos) (tOr tA tB'):=by
 intro wh pins s σ H Q I h
 refine isTrue_or (thn (ha pins s σ H _ I h) fun c s1 ⟨H1,I1,q1⟩=>?_)
 cases c with
 | true=>exact ⟨H1,I1,q1⟩
 | false=>exact hb wh pins s1 σ H1 Q I1 q1
theorem pt_not (ha:PT X a tA):PT X (.UnaryOp .Not a pos) (tNot tA):=by
 intro pins s σ H Q I h
 exact isTrue_not (ha pins s σ H (fun c H1=>Q (!c) H1) I h)
def tAndV (ta tb:TE):TE:=fun σ H Q=>ta σ H fun x H1=>∃ c,x=.bl c∧if c=true then tb σ H1 Q else Q (.bl false) H1
def tNotV (ta:TE):TE:=fun σ H Q=>ta σ H fun x H1=>∃ c,x=.bl c∧Q (.bl (!c)) H1
theorem pe_one {op}{t:TE}(h:PE X a t):PE X (.BoolOp op [a] pos) t:=fun pins s σ H Q I hw=>BoolOp_one (h pins s σ H Q I hw)
theorem pe_and (ha:PE X a ta) (hb:PE X (.BoolOp .And (b::rest) pos) tb):PE X (.BoolOp .And (a::b::rest) pos) (tAndV ta tb):=by
 intro pins s σ H Q I h
 refine BoolOp_and (thn (ha pins s σ H _ I h) fun v s1 ⟨x,H1,I1,r1,q1⟩=>?_)
 obtain ⟨c,rfl,q1⟩:=q1
 cases r1
 refine wpAny_truthy_bool ?_
 cases c with
 | true=>exact hb pins s1 σ H1 Q I1 q1
 | false=>exact ⟨.bl false,H1,I1,rfl,q1⟩
theorem pe_not (ha:PE X a ta):PE X (.UnaryOp .Not a pos) (tNotV ta):=by
 intro pins s σ H Q I h
 refine UnaryOp_ (thn (ha pins s σ H _ I h) fun v s1 ⟨x,H1,I1,r1,q1⟩=>?_)
 obtain ⟨c,rfl,q1⟩:=q1
 cases r1
 exact not_of (wpAny_truthy_bool ⟨.bl (!c),H1,I1,rfl,q1⟩)
end
end L2
namespace L2
open PySem PySem.Spec PyProof.Rows
def SqL (K:PySem.W.Frag) (H:Hp) (a:Addr) (xs:List V):Prop:=
 Rd H a (.lst xs) ∨
  ∃ (o:Obj) (its:Array Value) (n:Nat),K.lookup a=some o∧o.cls=.type "list" ∧ o.dict=none∧o.data=.seq its n∧its.size≤sizeLine∧Vals xs its.toList
def SqT (K:PySem.W.Frag) (H:Hp) (a:Addr) (xs:List V):Prop:=
 Rd H a (.tup xs) ∨
  ∃ (o:Obj) (its:Array Value) (n:Nat),K.lookup a=some o∧o.cls=.type "tuple" ∧ o.data=.seq its n∧its.size≤sizeLine∧Vals xs its.toList
def absV:Value->Option V
 | .none=>some .non
 | .bool b=>some (.bl b)
 | .int i _=>some (.int i)
 | .str x _=>some (.str x)
 | .bytes b _=>some (.byt b)
 | .float b _=>some (.flt b)
 | .ref a=>some (.ref a)
 | .type n=>some (.ty n)
 | _=>none
theorem RelV.abs {x:V}{u:Value}(r:RelV x u):absV u=some x:=by
 cases x with
 | non=>cases r;rfl
 | bl _=>cases r;rfl
 | int _=>obtain ⟨t,rfl⟩:=r;rfl
 | str _=>obtain ⟨t,rfl⟩:=r;rfl
 | byt _=>obtain ⟨t,rfl⟩:=r;rfl
 | flt _=>obtain ⟨t,rfl⟩:=r;rfl
 | ref _=>cases r;rfl
 | ty _=>cases r;rfl
theorem RelV.inj {x y:V}{u:Value}(r:RelV x u) (q:RelV y u):x=y:=Option.some.inj (r.abs.symm.trans q.abs)
theorem Vals.inj:∀ {xs ys:List V}{us:List Value},Vals xs us->Vals ys us->xs=ys
 | _,_,_,.nil,.nil=>rfl
 | _,_,_,.cons r t,.cons r' t'=>by rw [r.inj r',Vals.inj t t']
section
variable {X:Cx}{pins:List (Addr × Obj)}{σ:St}{H:Hp}{s:Shared}{a:Addr}{xs ys:List V}
theorem SqL.of {K:PySem.W.Frag}(h:H a=some (.lst xs)):SqL K H a xs:=.inl (.inl h)
theorem SqT.of {K:PySem.W.Frag}(h:H a=some (.tup xs)):SqT K H a xs:=.inl (.inl h)
theorem Inv.list (I:Inv X pins σ H s) (h:SqL X.K H a xs):∃ its:List Value,Vals xs its∧PlainL s.heap a its.toArray∧xs.length≤sizeLine:=by
 rcases h with h|⟨o,its,n,hk,hc,hd,hs,hz,r⟩
 ·obtain ⟨z,its,n,r,e⟩:=h.ok I.hok
  exact ⟨its,r,⟨_,n,e,rfl,rfl,rfl⟩,z⟩
 ·refine ⟨its.toList,r,⟨o,n,I.kIn a o hk,hc,hd,by simpa using hs⟩,?_⟩
  have e:=r.length
  simp only [Array.length_toList] at e
  omega
theorem Inv.tuple (I:Inv X pins σ H s) (h:SqT X.K H a xs):∃ its:List Value,Vals xs its∧IsTup s.heap a its.toArray∧xs.length≤sizeLine:=by
 rcases h with h|⟨o,its,n,hk,hc,hs,hz,r⟩
 ·obtain ⟨z,its,r,p⟩:=h.ok I.hok
  exact ⟨its,r,p,z⟩
 ·refine ⟨its.toList,r,⟨o,I.kIn a o hk,hc,n,by simpa using hs⟩,?_⟩
  have e:=r.length
  simp only [Array.length_toList] at e
  omega
theorem Inv.list_inj (I:Inv X pins σ H s) (h:SqL X.K H a xs) (h':SqL X.K H a ys):xs=ys:=by
 obtain ⟨its,r,⟨o,n,e,_,_,d⟩,_⟩:=I.list h
 obtain ⟨its',r',⟨o',n',e',_,_,d'⟩,_⟩:=I.list h'
 rw [e] at e';cases e'
 rw [d] at d'
 injection d' with d1 _
 have:its=its':=by simpa using congrArg Array.toList d1
 subst this
 exact r.inj r'
theorem Inv.tuple_inj (I:Inv X pins σ H s) (h:SqT X.K H a xs) (h':SqT X.K H a ys):xs=ys:=by
 obtain ⟨its,r,⟨o,e,_,n,d⟩,_⟩:=I.tuple h
 obtain ⟨its',r',⟨o',e',_,n',d'⟩,_⟩:=I.tuple h'
 rw [e] at e';cases e'
 rw [d] at d'
 injection d' with d1 _
 have:its=its':=by simpa using congrArg Array.toList d1
 subst this
 exact r.inj r'
end
abbrev Cx.wish (X:Cx) (E:Value->Shared->Prop):Cx:={ X with xe:=E }
abbrev Cx.nox (X:Cx):Cx:=X.wish fun _ _=>False
theorem Cx.Ok.wish {X:Cx}(ok:X.Ok) (E:Value->Shared->Prop):(X.wish E).Ok:=
 ⟨ok.mod,ok.kind,ok.glob,ok.blt,ok.above,ok.inj,ok.has,ok.cab,ok.hd,ok.frames,ok.stk,ok.exf,ok.bs,ok.bsz,ok.noex,ok.exfs,ok.funs,ok.frf⟩
theorem Cx.Ok.unwish {X:Cx}{E:Value->Shared->Prop}(ok:(X.wish E).Ok):X.Ok:=
 ⟨ok.mod,ok.kind,ok.glob,ok.blt,ok.above,ok.inj,ok.has,ok.cab,ok.hd,ok.frames,ok.stk,ok.exf,ok.bs,ok.bsz,ok.noex,ok.exfs,ok.funs,ok.frf⟩
section
variable {X:Cx}{pins:List (Addr × Obj)}{σ:St}{H:Hp}{s:Shared}{E:Value->Shared->Prop}
theorem Inv.wish (I:Inv X pins σ H s) (E:Value->Shared->Prop):Inv (X.wish E) pins σ H s:=⟨I.ok.wish E,I.os,I.bare,I.base,I.loc,I.cell,I.free,I.freeC,I.pin,I.hok,I.len⟩
theorem Inv.unwish (I:Inv (X.wish E) pins σ H s):Inv X pins σ H s:=⟨I.ok.unwish,I.os,I.bare,I.base,I.loc,I.cell,I.free,I.freeC,I.pin,I.hok,I.len⟩
theorem SP.unwish {D:Ends}{f:Flow}{s':Shared}(h:SP (X.wish E) pins D f s'):SP X pins D f s':=by
 cases f with
 | next=>obtain ⟨σ',H',I,q⟩:=h;exact ⟨σ',H',I.unwish,q⟩
 | brk=>obtain ⟨σ',H',I,q⟩:=h;exact ⟨σ',H',I.unwish,q⟩
 | cont=>obtain ⟨σ',H',I,q⟩:=h;exact ⟨σ',H',I.unwish,q⟩
 | ret u=>obtain ⟨v,σ',H',I,r,q⟩:=h;exact ⟨v,σ',H',I.unwish,r,q⟩
theorem PSs.nox {st:List Stmt}{t:TS}(h:PSs X.nox st t):PSs X st t:=fun pins s σ H D I hw=>
 wpAny_mono (h pins s σ H D (I.wish _) hw) (fun _ _ q=>q.unwish) fun _ _ z=>False.elim z
end
section
variable {X:Cx}{st:Stmt}{rest:List Stmt}{t u:TS}{e:Expr}{te:TE}{pos:Pos}
def tNext:TS:=fun D σ H=>D.nx σ H
def tSeq (t u:TS):TS:=fun D σ H=>t { D with nx:=u D } σ H
theorem pss_nil:PSs X [] tNext:=fun _ _ σ H _ I h=>wpAny_execs_nil ⟨σ,H,I,h⟩
theorem pss_cons (h1:PS X st t) (h2:PSs X rest u):PSs X (st::rest) (tSeq t u):=by
 intro pins s σ H D I h
 refine wpAny_execs_cons (thn (h1 pins s σ H { D with nx:=u D } I h) fun f s1 q=>?_)
 cases f with
 | next=>
  obtain ⟨σ',H',I',q⟩:=q
  exact h2 pins s1 σ' H' D I' q
 | ret v=>exact q
 | brk=>exact q
 | cont=>exact q
theorem pss_one (h1:PS X st t):PSs X [st] t:=by
 intro pins s σ H D I h
 refine wpAny_execs_cons (thn (h1 pins s σ H D I h) fun f s1 q=>?_)
 cases f with
 | next=>exact wpAny_execs_nil q
 | ret v=>exact q
 | brk=>exact q
 | cont=>exact q
theorem Inv.quiet {pins:List (Addr × Obj)}{σ:St}{H:Hp}{s:Shared}(I:Inv X pins σ H s):interactive X.env=false:=by simp [interactive,I.ok.kind]
def tDrop (te:TE):TS:=fun D σ H=>te σ H fun _ H1=>D.nx σ H1
theorem ps_expr (he:PE X e te) (hs:swapsWith e none pos.line X.env=pure false:=by rfl):PS X (.Expr e pos) (tDrop te):=by
 intro pins s σ H D I h
 exact wpAny_Expr_any (thn (he pins s σ H _ I h) fun v s1 ⟨x,H1,I1,r1,q1⟩=>⟨σ,H1,I1,q1⟩) I.quiet hs
def tRet (te:TE):TS:=fun D σ H=>te σ H D.rt
theorem ps_ret (he:PE X e te):PS X (.Return (some e) pos) (tRet te):=by
 intro pins s σ H D I h
 exact wpAny_Return_some (thn (he pins s σ H _ I h) fun v s1 ⟨x,H1,I1,r1,q1⟩=>⟨x,σ,H1,I1,r1,q1⟩)
def tIfS (c:TT) (t u:TS):TS:=fun D σ H=>c σ H fun b H1=>if b=true then t D σ H1 else u D σ H1
theorem ps_if {c:Expr}{a b:List Stmt}{tc:TT}(hc:PT X c tc) (ha:PSs X a t) (hb:PSs X b u):PS X (.If c a b pos) (tIfS tc t u):=by
 intro pins s σ H D I h
 refine wpAny_If (thn (hc pins s σ H _ I h) fun d s1 ⟨H1,I1,q1⟩=>?_)
 cases d with
 | true=>exact ha pins s1 σ H1 D I1 q1
 | false=>exact hb pins s1 σ H1 D I1 q1
end
abbrev TG:=V->St->Hp->(St->Hp->Prop)->Prop
abbrev TGs:=List V->St->Hp->(St->Hp->Prop)->Prop
def PG (X:Cx) (target:Expr) (t:TG):Prop:=
 ∀ (pins:List (Addr × Obj)) (s:Shared) (σ:St) (H:Hp) (v:V) (u:Value) (Q:St->Hp->Prop),Inv X pins σ H s->RelV v u->t v σ H Q →
  wpAny (model X.prog X.w) X.A (assign target X.env u) (fun _ s'=>∃ σ' H',Inv X pins σ' H' s'∧Q σ' H') X.xe s
def PGs (X:Cx) (ts:List Expr) (t:TGs):Prop:=
 ∀ (pins:List (Addr × Obj)) (s:Shared) (σ:St) (H:Hp) (vs:List V) (us:List Value) (Q:St->Hp->Prop),Inv X pins σ H s->Vals vs us->t vs σ H Q →
  wpAny (model X.prog X.w) X.A (assignInOrder ((assignEach ts X.env).map (·.2)) us) (fun _ s'=>∃ σ' H',Inv X pins σ' H' s'∧Q σ' H') X.xe s
section
variable {X:Cx}{pos:Pos}
def gName (i:Nat):TG:=fun v σ H Q=>Q (σ.set i (some v)) H
theorem pg_name {i:Nat}{x:Str}(hN:X.N.Nodup) (hi:X.N[i]? = some x) (hx:Loc X.env.scope x) (hf:X.fn x=true∨X.env.scope.names.lookup x=some .local:=by first|exact .inl rfl|exact .inr rfl|assumption):PG X (.Name x pos) (gName i):=by
 intro pins s σ H v u Q I r h
 exact wpAny_assign_Name (store_ok I hN hi hx r (fun s' I'=>⟨_,H,I',h⟩) hf)
def gNil:TGs:=fun vs σ H Q=>vs=[]∧Q σ H
def gCons (t:TG) (u:TGs):TGs:=fun vs σ H Q=>∃ v r,vs=v::r∧t v σ H fun σ' H'=>u r σ' H' Q
theorem pgs_nil:PGs X [] gNil:=by
 intro pins s σ H vs us Q I r h
 obtain ⟨e,h⟩:=h
 subst e
 cases r
 exact assignInOrder_nil ⟨σ,H,I,h⟩
theorem pgs_cons {e:Expr}{es:List Expr}{t:TG}{u:TGs}(h1:PG X e t) (h2:PGs X es u)
  (hs:(assignEach (e::es) X.env).map (·.2)=assign e X.env::(assignEach es X.env).map (·.2):=by rfl):PGs X (e::es) (gCons t u):=by
 intro pins s σ H vs us Q I r h
 obtain ⟨v,vr,e1,h⟩:=h
 subst e1
 cases r with
 | cons r rr=>
  rw [hs]
  refine assignInOrder_cons (thn (h1 pins s σ H _ _ _ I r h) fun _ s1 ⟨σ1,H1,I1,q1⟩=>?_)
  exact h2 pins s1 σ1 H1 _ _ Q I1 rr q1
def gTup (K:PySem.W.Frag) (n:Nat) (t:TGs):TG:=fun v σ H Q=>∃ a xs,v=.ref a∧SqT K H a xs∧xs.length=n∧t xs σ H Q
theorem pg_tup {es:List Expr}{k:Nat}{t:TGs}{n:Nat}(hc:X.calm=true) (h:PGs X es t)
  (hn:(assignEach es X.env).length=n:=by rfl) (hst:(assignEach es X.env).findIdx? (·.1)=none:=by rfl):PG X (.Tuple es k pos) (gTup X.K n t):=by
 intro pins s σ H v u Q I r hw
 obtain ⟨a,xs,e1,hq,hl,hw⟩:=hw
 subst e1
 cases r
 obtain ⟨its,rv,ht,hz⟩:=I.tuple hq
 refine assign_Tuple_tuple (I.ok.hd hc) ht (by simp [hn,←hl,rv.length]) hst fun h' hx=>?_
 have I1:Inv X pins σ H { s with heap:=h' }:=I.kept (t':=s.toks) fun b o e=>hx b o (Nat.ne_of_lt (Heap.lt_size e)) e
 exact h pins _ σ H xs _ Q I1 (by simpa using rv) hw
def tAsg (te:TE) (g:TG):TS:=fun D σ H=>te σ H fun x H1=>g x σ H1 D.nx
theorem ps_set {i:Nat}{x:Str}{e:Expr}{te:TE}{pos':Pos}(hN:X.N.Nodup) (hi:X.N[i]? = some x) (hx:Loc X.env.scope x) (he:PE X e te) (hs:swapsWith e (some (.Name x pos')) pos.line X.env=pure false:=by rfl) (hf:X.fn x=true∨X.env.scope.names.lookup x=some .local:=by first|exact .inl rfl|exact .inr rfl|assumption) :
  PS X (.Assign [.Name x pos'] e pos) (tAsg te (gName i)):=by
 intro pins s σ H D I h
 refine wpAny_Assign_Name (thn (he pins s σ H _ I h) fun v s1 ⟨y,H1,I1,r1,q1⟩=>?_) hs
 exact store_ok I1 hN hi hx r1 (fun s2 I2=>⟨_,H1,I2,q1⟩) hf
end
section
variable {X:Cx}{pos:Pos}
def tWhile (c:TT) (tb:TS):TS:=fun D σ H=>∃ W:Nat->St->Hp->Prop,(∃ m,W m σ H)∧∀ m σ H,W m σ H →
 c σ H fun b H1=>if b=true then ∃ N:St->Hp->Prop,(∀ σ' H',N σ' H'->∃ m',m' < m∧W m' σ' H')∧tb { D with nx:=N,ct:=N,bk:=D.nx } σ H1 else D.nx σ H1
theorem ps_while {c:Expr}{body:List Stmt}{tc:TT}{tb:TS}(hp:PassesOwn (model X.prog X.w) X.A X.env X.xe) (hc:PT X c tc) (hb:PSs X body tb):PS X (.While c body [] pos) (tWhile tc tb):=by
 intro pins s σ H D I h
 obtain ⟨W,⟨m0,w0⟩,turn⟩:=h
 refine wpAny_While (codeAny_whileLoop (fun n s'=>∃ σ' H',Inv X pins σ' H' s'∧W n σ' H') ?_ m0 ⟨σ,H,I,w0⟩)
 rintro n s1 ⟨σ1,H1,I1,w1⟩
 refine wpAny_passesOwn hp (thn (hc pins s1 σ1 H1 _ I1 (turn n σ1 H1 w1)) fun b s2 ⟨H2,I2,q2⟩=>?_)
 cases b with
 | true=>
  obtain ⟨N,hN,q2⟩:=q2
  rw [if_pos rfl]
  refine wpAny_passesOwn hp (thn (hb pins s2 σ1 H2 _ I2 q2) fun f s3 q3=>?_)
  cases f with
  | next=>
   obtain ⟨σ3,H3,I3,n3⟩:=q3
   obtain ⟨m',hm,w3⟩:=hN σ3 H3 n3
   exact ⟨m',hm,σ3,H3,I3,w3⟩
  | cont=>
   obtain ⟨σ3,H3,I3,n3⟩:=q3
   obtain ⟨m',hm,w3⟩:=hN σ3 H3 n3
   exact ⟨m',hm,σ3,H3,I3,w3⟩
  | brk=>exact q3
  | ret v=>exact q3
 | false=>
  rw [if_neg Bool.false_ne_true]
  exact wpAny_execs_nil ⟨σ1,H2,I2,q2⟩
end
structure It where
 go:Nat->Hp->Prop
 yld:Nat->Hp->V->Hp->Prop
 stop:Nat->Hp->Prop
def FpOk (X:Cx) (pins:List (Addr × Obj)) (H:Hp) (b:Addr):Prop:=
 H b=none∧b ≠ X.env.locals∧b ∉ X.fs∧(b∈X.ex∨X.s₀.heap.objs.size≤b)∧(∀ x c,X.env.cells.lookup x=some c->c ≠ b)∧∀ p∈X.pn++pins,p.1 ≠ b
theorem Inv.fpOk {X:Cx}{pins:List (Addr × Obj)}{σ:St}{H H':Hp}{s:Shared}{b:Addr}(I:Inv X pins σ H s) (hb:s.heap.objs.size≤b) (hn:H' b=none):FpOk X pins H' b:=by
 refine ⟨hn,Nat.ne_of_gt (Nat.lt_of_lt_of_le I.lt hb),I.nofs hb,.inr (Nat.le_trans I.sz hb),fun x c e z=>?_,fun p hp z=>?_⟩
 ·obtain ⟨v,q⟩:=I.cell x c e
  exact absurd (Nat.lt_of_lt_of_le q.lt (by rw [z];exact hb)) (Nat.lt_irrefl _)
 ·exact absurd (Nat.lt_of_lt_of_le (Heap.lt_size (I.pin p hp).1) (by rw [z];exact hb)) (Nat.lt_irrefl _)
structure Turn (P:Program) (w:World) (K:PySem.W.Frag) (tg:Expr) (J:It) (fp:List Addr) (it:Addr) (tn:Nat->Heap->Prop):Prop where
 mem:it∈fp
 obj:∀ i h,tn i h->∀ b∈fp,∃ o,h.get? b=some o∧∀ v,o.data ≠ .cell v
 keep:∀ i h h',tn i h->(∀ b∈fp,∀ o,h.get? b=some o->h'.get? b=some o)->tn i h'
 item:∀ (X:Cx),X.prog=P->X.w=w->X.K=K->X.calm=true->∀ (i:Nat) (pins:List (Addr × Obj)) (s:Shared) (σ:St) (H:Hp) (E:Value->Shared->Prop),Inv X pins σ H s->(∀ b∈fp,FpOk X pins H b)->tn i s.heap->J.go i H →
  wpAny (model P w) X.A (pyNext (.ref it)) (fun r s1=>∃ u,r=some u ∧
   wpAny (model P w) X.A (letOwnedTupleGo tg (.ref it) u) (fun _ s2=>∃ x H',Inv X pins σ H' s2∧RelV x u∧J.yld i H x H'∧tn (i+1) s2.heap∧∀ b∈fp,H' b=none) E s1) E s
 done:∀ (X:Cx),X.prog=P->X.w=w->X.K=K->X.calm=true->∀ (i:Nat) (pins:List (Addr × Obj)) (s:Shared) (σ:St) (H:Hp) (E:Value->Shared->Prop),Inv X pins σ H s->(∀ b∈fp,FpOk X pins H b)->tn i s.heap->J.stop i H →
  wpAny (model P w) X.A (pyNext (.ref it)) (fun r s1=>r=none∧Inv X pins σ H s1) E s
 self:∀ (A:Around) (i:Nat) (s:Shared) (Q:Value->Shared->Prop) (E:Value->Shared->Prop),tn i s.heap->Q (.ref it) s->wpAny (model P w) A (pyIter (.ref it)) Q E s
abbrev TI:=St->Hp->(It->Hp->Prop)->Prop
def PIE (X:Cx) (pins:List (Addr × Obj)) (σ:St) (tg:Expr) (R:It->Hp->Prop) (itv:Value) (s2:Shared):Prop:=
 ∃ (it:Addr) (fp:List Addr) (tn:Nat->Heap->Prop) (J:It) (H':Hp),itv=.ref it∧Inv X pins σ H' s2∧Turn X.prog X.w X.K tg J fp it tn∧tn 0 s2.heap∧(∀ b∈fp,FpOk X pins H' b)∧R J H'
def PI (X:Cx) (tg iter:Expr) (wi:TI):Prop:=
 ∀ (pins:List (Addr × Obj)) (s:Shared) (σ:St) (H:Hp) (R:It->Hp->Prop),Inv X pins σ H s->wi σ H R →
  wpAny (model X.prog X.w) X.A (eval iter X.env) (fun v s1=>wpAny (model X.prog X.w) X.A (pyIter v) (PIE X pins σ tg R) X.xe s1) X.xe s
theorem go_of {M:Model}{A:Around}{E:Value->Shared->Prop}{s:Shared}{tg:Expr}{it:Addr}{u:Value}{o:Obj}{n:String}{vs:Array Value}{Q:Unit->Shared->Prop}(ho:s.heap.get? it=some o) (hc:o.cls=.type n) (hd:o.data=.fields vs)
    (hn:["enumerate", "zip", "dict_itemiterator", "dict_reverseitemiterator", "odict_iterator", "itertools.zip_longest", "itertools.pairwise"].contains n=false) (hQ:Q () s):wpAny M A (letOwnedTupleGo tg (.ref it) u) Q E s:=by
  unfold letOwnedTupleGo
  cases tg<;>first
    | exact wpAny_pure hQ
    | (cases u<;>first
        | exact wpAny_pure hQ
        | (refine wpAny_bind (wpAny_load ho ?_)
           rw [hc,hd]
           show wpAny M A (if (["enumerate", "zip", "dict_itemiterator", "dict_reverseitemiterator", "odict_iterator", "itertools.zip_longest", "itertools.pairwise"].contains n && vs[0]? == some (rawInt _))=true then _ else _) Q E s
           rw [if_neg (by intro h;rw [hn,Bool.false_and] at h;cases h)]
           exact wpAny_pure hQ))
def Itl (K:PySem.W.Frag) (a:Addr):It:=
 ⟨fun i H=>∃ xs x,SqL K H a xs∧xs[i]? = some x,fun i H x H'=>H'=H∧∀ xs,SqL K H a xs->xs[i]? = some x,fun i H=>∃ xs,SqL K H a xs∧xs.length≤i⟩
def Itt (K:PySem.W.Frag) (a:Addr):It:=
 ⟨fun i H=>∃ xs x,SqT K H a xs∧xs[i]? = some x,fun i H x H'=>H'=H∧∀ xs,SqT K H a xs->xs[i]? = some x,fun i H=>∃ xs,SqT K H a xs∧xs.length≤i⟩
def Itr (lo:Int) (n:Nat):It:=⟨fun i _=>i < n,fun i H x H'=>H'=H∧x=.int (lo+i),fun i _=>n≤i⟩
theorem turn_list {P:Program}{w:World}{K:PySem.W.Frag}{tg:Expr}(a it:Addr):Turn P w K tg (Itl K a) [it] it (fun i h=>h.IsListIter it a i) where
 mem:=by simp
 obj:=fun i h st b hb=>by
  have e:b=it:=by simpa using hb
  subst e
  obtain ⟨o,e,c,d⟩:=st
  exact ⟨o,e,fun v z=>by rw [d] at z;cases z⟩
 keep:=fun i h h' st k=>st.at fun o e=>k it (by simp) o e
 item:=by
  intro X hP hw hK hc i pins s σ H E I hf st hg
  subst hP hw hK
  obtain ⟨xs,x,hq,hx⟩:=hg
  obtain ⟨its,rv,p,hz⟩:=I.list hq
  obtain ⟨u,hu,ru⟩:=rv.get hx
  obtain ⟨f0,f1,f2,f3,f4,f5⟩:=hf it (by simp)
  refine wpAny_pyNext_list_item st p.isList (x:=u) (by simpa using hu) fun h' st' sb=>?_
  have I1:Inv X pins σ H { s with heap:=h' }:=I.turned (t':=s.toks) (fun b o hb e=>(sb.2 b hb).trans e) f0 f1 f3 f4 f5
  obtain ⟨o,e,c,d⟩:=id st'
  exact ⟨u,rfl,go_of (s:={ s with heap:=h' }) e c d (by decide) ⟨x,H,I1,ru,⟨rfl,fun ys hy=>by rw [I.list_inj hy hq];exact hx⟩,st',fun b hb=>(hf b hb).1⟩⟩
 done:=by
  intro X hP hw hK hc i pins s σ H E I hf st hg
  subst hP hw hK
  obtain ⟨xs,hq,hx⟩:=hg
  obtain ⟨its,rv,p,hz⟩:=I.list hq
  obtain ⟨f0,f1,f2,f3,f4,f5⟩:=hf it (by simp)
  have hl:=rv.length
  exact wpAny_pyNext_list_end (I.ok.hd hc) st p.isList (by simp;omega) fun h' eb=>⟨rfl,I.turned (t':=s.toks) (fun b o hb e=>eb b o hb e) f0 f1 f3 f4 f5⟩
 self:=fun _ _ _ _ _ st h=>wpAny_pyIter_listiter st h
theorem turn_tuple {P:Program}{w:World}{K:PySem.W.Frag}{tg:Expr}(a it:Addr):Turn P w K tg (Itt K a) [it] it (fun i h=>h.IsTupleIter it a i) where
 mem:=by simp
 obj:=fun i h st b hb=>by
  have e:b=it:=by simpa using hb
  subst e
  obtain ⟨o,e,c,d⟩:=st
  exact ⟨o,e,fun v z=>by rw [d] at z;cases z⟩
 keep:=fun i h h' st k=>st.at fun o e=>k it (by simp) o e
 item:=by
  intro X hP hw hK hc i pins s σ H E I hf st hg
  subst hP hw hK
  obtain ⟨xs,x,hq,hx⟩:=hg
  obtain ⟨its,rv,p,hz⟩:=I.tuple hq
  obtain ⟨u,hu,ru⟩:=rv.get hx
  obtain ⟨f0,f1,f2,f3,f4,f5⟩:=hf it (by simp)
  refine wpAny_pyNext_tuple_item st (show s.heap.IsTuple a its.toArray from p) (x:=u) (by simpa using hu) fun h' st' sb=>?_
  have I1:Inv X pins σ H { s with heap:=h' }:=I.turned (t':=s.toks) (fun b o hb e=>(sb.2 b hb).trans e) f0 f1 f3 f4 f5
  obtain ⟨o,e,c,d⟩:=id st'
  exact ⟨u,rfl,go_of (s:={ s with heap:=h' }) e c d (by decide) ⟨x,H,I1,ru,⟨rfl,fun ys hy=>by rw [I.tuple_inj hy hq];exact hx⟩,st',fun b hb=>(hf b hb).1⟩⟩
 done:=by
  intro X hP hw hK hc i pins s σ H E I hf st hg
  subst hP hw hK
  obtain ⟨xs,hq,hx⟩:=hg
  obtain ⟨its,rv,p,hz⟩:=I.tuple hq
  obtain ⟨f0,f1,f2,f3,f4,f5⟩:=hf it (by simp)
  have hl:=rv.length
  exact wpAny_pyNext_tuple_end (I.ok.hd hc) st (show s.heap.IsTuple a its.toArray from p) (by simp;omega) fun h' eb=>⟨rfl,I.turned (t':=s.toks) (fun b o hb e=>eb b o hb e) f0 f1 f3 f4 f5⟩
 self:=fun _ _ _ _ _ st h=>wpAny_pyIter_tupleiter st h
theorem turn_range {P:Program}{w:World}{K:PySem.W.Frag}{tg:Expr}(it:Addr) (lo:Int) (n:Nat):Turn P w K tg (Itr lo n) [it] it (fun i h=>IsRangeIter h it (lo+(i:Nat) * 1) ((n:Int) - (i:Nat)) 1) where
 mem:=by simp
 obj:=fun i h st b hb=>by
  have e:b=it:=by simpa using hb
  subst e
  exact ⟨_,st,fun v z=>by
   have z':Data.fields _=Data.cell v:=z
   cases z'⟩
 keep:=fun i h h' st k=>k it (by simp) _ st
 item:=by
  intro X hP hw hK hc i pins s σ H E I hf st hg
  subst hP hw hK
  obtain ⟨f0,f1,f2,f3,f4,f5⟩:=hf it (by simp)
  have W:=Walks.range (prog:=X.prog) (w:=X.w) (I.ok.hd hc) it lo 1 n
  refine W.item i s _ _ hg st fun v h' tk hv st' kk=>?_
  obtain ⟨t,rfl⟩:=hv
  have I1:Inv X pins σ H { s with heap:=h',toks:=tk }:=I.turned (fun b o hb e=>kk b o (by simpa using hb) e) f0 f1 f3 f4 f5
  refine ⟨_,rfl,go_of (s:={ s with heap:=h',toks:=tk }) (n := "range_iterator") st' rfl rfl (by decide) ⟨.int (lo+i),H,I1,⟨t,?_⟩,⟨rfl,rfl⟩,st',fun b hb=>(hf b hb).1⟩⟩
  rw [Int.mul_one]
 done:=by
  intro X hP hw hK hc i pins s σ H E I hf st hg
  subst hP hw hK
  obtain ⟨f0,f1,f2,f3,f4,f5⟩:=hf it (by simp)
  exact wpAny_pyNext_range_end (I.ok.hd hc) st (by have:n≤i:=hg;omega) fun h' eb=>⟨rfl,I.turned (t':=s.toks) (fun b o hb e=>eb b o hb e) f0 f1 f3 f4 f5⟩
 self:=fun _ _ _ _ _ st h=>wpAny_pyIter_rangeiter st h
end L2
namespace L2
open PySem PySem.Spec PyProof.Rows
section
variable {X:Cx}{tg:Expr}
theorem range_it {pins:List (Addr × Obj)}{σ:St}{H:Hp}{s:Shared}{R:It->Hp->Prop}{E:Value->Shared->Prop}{lo hi:Int}{t u v:Tok}{tk:Nat}(I:Inv X pins σ H s) (h1:-(2 ^ 62)≤lo) (h2:lo < 2 ^ 62) (h3:-(2 ^ 62)≤hi) (h4:hi < 2 ^ 62)
  (q:R (Itr lo (hi - lo).toNat) H):wpAny (model X.prog X.w) X.A (pyIter (.ref s.heap.objs.size)) (PIE X pins σ tg R) E { s with heap:=s.heap.push { cls:=.type "range",data:=.fields #[.int lo t,.int hi u,.int 1 v] },toks:=tk }:=by
 refine wpAny_pyIter_range (IsRange.new ..) (small_one h1 h2 h3 h4) ?_
 have I1:Inv X pins σ H { s with heap:=s.heap.push { cls:=.type "range",data:=.fields #[.int lo t,.int hi u,.int 1 v] },toks:=tk }:=I.kept fun b o e=>Heap.get?_push_of_some _ e
 refine ⟨(s.heap.push { cls:=.type "range",data:=.fields #[.int lo t,.int hi u,.int 1 v] }).objs.size,[(s.heap.push { cls:=.type "range",data:=.fields #[.int lo t,.int hi u,.int 1 v] }).objs.size],_,_,H,rfl,
  I1.kept (t':=tk) fun b o e=>Heap.get?_push_of_some _ e,turn_range _ lo (hi - lo).toNat,?_,fun b hb=>?_,q⟩
 ·have e1:lo+((0:Nat):Int) * 1=lo:=by simp
  have e2:(((hi - lo).toNat:Nat):Int) - ((0:Nat):Int)=Builtin.Range.rangeSize lo hi 1:=by rw [rangeSize_one];split<;>omega
  show IsRangeIter _ _ (lo+((0:Nat):Int) * 1) ((((hi - lo).toNat:Nat):Int) - ((0:Nat):Int)) 1
  rw [e1,e2]
  exact Heap.get?_push_size _ rfl
 ·have e:b=(s.heap.push { cls:=.type "range",data:=.fields #[.int lo t,.int hi u,.int 1 v] }).objs.size:=by simpa using hb
  subst e
  exact I1.fpOk (Nat.le_refl _) (I1.hok.fresh (Nat.le_refl _))
def iRng1 (ta:TA):TI:=fun σ H R=>ta σ H fun vs H1=>∃ j:Int,vs=[.int j]∧-(2 ^ 62)≤j∧j < 2 ^ 62∧R (Itr 0 j.toNat) H1
def iRng2 (ta:TA):TI:=fun σ H R=>ta σ H fun vs H1=>∃ i j:Int,vs=[.int i,.int j]∧(-(2 ^ 62)≤i∧i < 2 ^ 62∧-(2 ^ 62)≤j∧j < 2 ^ 62)∧R (Itr i (j - i).toNat) H1
theorem pi_range1 {a:Expr}{ta:TA}{p pos:Pos}(hg:Gl X "range") (hm:X.mg "range"=none) (ha:PA X [a] ta) (hs:starEach [a] X.env=[(false,eval a X.env)]:=by rfl):PI X tg (.Call (.Name "range" p) [a] [] pos) (iRng1 ta):=by
 intro pins s σ H R I h
 refine Call_ (ld_blt I hg hm boot_range (PyProof.Rows.callWith_type1 (thn (ha pos pins s σ H _ I h) fun us s1 ⟨vs,H1,I1,r1,q1⟩=>?_) hs rfl))
 obtain ⟨j,e,q1,q2,q⟩:=q1
 subst e
 cases r1 with
 | cons r rr=>
  cases rr
  obtain ⟨t,rfl⟩:=r
  exact call_range_1 (range_it I1 (by omega) (by omega) q1 q2 (by simpa using q))
theorem pi_range2 {a b:Expr}{ta:TA}{p pos:Pos}(hg:Gl X "range") (hm:X.mg "range"=none) (ha:PA X [a,b] ta) (hs:starEach [a,b] X.env=[(false,eval a X.env),(false,eval b X.env)]:=by rfl) (hs2:starEach [b] X.env=[(false,eval b X.env)]:=by rfl) :
  PI X tg (.Call (.Name "range" p) [a,b] [] pos) (iRng2 ta):=by
 intro pins s σ H R I h
 refine Call_ (ld_blt I hg hm boot_range (PyProof.Rows.callWith_type1 (thn (ha pos pins s σ H _ I h) fun us s1 ⟨vs,H1,I1,r1,q1⟩=>?_) (by rw [hs,hs2]) (by rw [hs2];rfl)))
 obtain ⟨i,j,e,⟨q1,q2,q3,q4⟩,q⟩:=q1
 subst e
 cases r1 with
 | cons r rr=>
  cases rr with
  | cons r' rr=>
   cases rr
   obtain ⟨t,rfl⟩:=r
   obtain ⟨t',rfl⟩:=r'
   exact call_range_2 (range_it I1 q1 q2 q3 q4 q)
def tFor (wi:TI) (g:TG) (tb:TS):TS:=fun D σ H=>wi σ H fun J H1=>∃ W:Nat->Nat->St->Hp->Prop,(∃ m,W 0 m σ H1)∧∀ i m σ H,W i m σ H →
 (J.stop i H∧D.nx σ H)∨(J.go i H∧∃ N:St->Hp->Prop,(∀ σ' H',N σ' H'->∃ m',m' < m∧W (i+1) m' σ' H')∧∀ x H',J.yld i H x H'->g x σ H' fun σ2 H2=>tb { D with nx:=N,ct:=N,bk:=D.nx } σ2 H2)
def pinsAt (fp:List Addr) (h:Heap):List (Addr × Obj):=fp.filterMap fun b=>(h.get? b).map fun o=>(b,o)
theorem mem_pinsAt {fp:List Addr}{h:Heap}{b:Addr}{o:Obj}(hb:b∈fp) (e:h.get? b=some o):(b,o)∈pinsAt fp h:=List.mem_filterMap.mpr ⟨b,hb,by rw [e];rfl⟩
theorem of_pinsAt {fp:List Addr}{h:Heap}{p:Addr × Obj}(hp:p∈pinsAt fp h):p.1∈fp∧h.get? p.1=some p.2:=by
 obtain ⟨b,hb,e⟩:=List.mem_filterMap.mp hp
 cases q:h.get? b with
 | none=>rw [q] at e;cases e
 | some o=>
  rw [q] at e
  have e':(b,o)=p:=Option.some.inj e
  subst e'
  exact ⟨hb,q⟩
theorem Inv.pinned {pins:List (Addr × Obj)}{σ:St}{H:Hp}{s:Shared}{fp:List Addr}(I:Inv X pins σ H s) (hf:∀ b∈fp,FpOk X pins H b) (ho:∀ b∈fp,∃ o,s.heap.get? b=some o∧∀ v,o.data ≠ .cell v):Inv X (pins++pinsAt fp s.heap) σ H s:=
 I.pins_of fun p hp=>(List.mem_append.mp hp).elim (fun z=>I.pin p (List.mem_append_right _ z)) fun z=>by
  obtain ⟨hb,e⟩:=of_pinsAt z
  obtain ⟨f0,f1,f2,_⟩:=hf p.1 hb
  obtain ⟨o,e',d⟩:=ho p.1 hb
  rw [e] at e';cases e'
  exact ⟨e,f0,f1,f2,d⟩
theorem Inv.unpinned {pins pl:List (Addr × Obj)}{σ:St}{H:Hp}{s:Shared}(I:Inv X (pins++pl) σ H s):Inv X pins σ H s:=I.pins_of fun p hp=>I.pin p (List.mem_append_right _ (List.mem_append_left _ hp))
theorem ps_for {iter:Expr}{body:List Stmt}{wi:TI}{g:TG}{tb:TS}{pos:Pos}(hp:PassesOwn (model X.prog X.w) X.A X.env X.xe) (hc:X.calm=true) (hi:PI X tg iter wi) (hg:PG X tg g) (hb:PSs X body tb)
  (hs:∀ x,foldedSetIterable iter X.env x=pure x:=by intro _;rfl):PS X (.For tg iter body [] pos) (tFor wi g tb):=by
 intro pins s σ H D I h
 refine wpAny_For (thn (hi pins s σ H _ I h) fun v s1 h1=>thn h1 fun itv s2 h2=>?_) hs
 obtain ⟨it,fp,tn,J,H2,e,I2,T,st2,f2,W,⟨m0,w0⟩,turn⟩:=h2
 subst e
 have stat:∀ {H':Hp},(∀ b∈fp,H' b=none)->∀ b∈fp,FpOk X pins H' b:=fun hn b hb=>⟨hn b hb,(f2 b hb).2⟩
 refine codeAny_forLoop_any (fun n s'=>∃ i σ' H',Inv X pins σ' H' s'∧tn i s'.heap∧(∀ b∈fp,H' b=none)∧W i n σ' H') ?_ m0 ⟨0,σ,H2,I2,st2,fun b hb=>(f2 b hb).1,w0⟩
 rintro n s3 ⟨i,σ3,H3,I3,st3,fr3,w3⟩
 rcases turn i n σ3 H3 w3 with ⟨stop,qn⟩|⟨go,N,hN,step⟩
 ·refine wpAny_passesOwn hp (thn (T.done X rfl rfl rfl hc i pins s3 σ3 H3 X.xe I3 (stat fr3) st3 stop) fun r s4 ⟨hr,I4⟩=>?_)
  subst hr
  exact wpAny_execs_nil ⟨σ3,H3,I4,qn⟩
 ·refine wpAny_passesOwn hp (thn (T.item X rfl rfl rfl hc i pins s3 σ3 H3 X.xe I3 (stat fr3) st3 go) fun r s4 ⟨u,hr,h4⟩=>?_)
  subst hr
  refine wpAny_passesOwn hp (thn h4 fun _ s5 ⟨x,H5,I5,r5,y5,st5,fr5⟩=>?_)
  have I5':=I5.pinned (stat fr5) (T.obj _ _ st5)
  refine wpAny_passesOwn hp (thn (hg _ s5 σ3 H5 x u _ I5' r5 (step x H5 y5)) fun _ s6 ⟨σ6,H6,I6,q6⟩=>?_)
  refine wpAny_passesOwn hp (thn (hb _ s6 σ6 H6 _ I6 q6) fun f s7 q7=>?_)
  have again:∀ {σ7:St} {H7:Hp},Inv X (pins++pinsAt fp s5.heap) σ7 H7 s7->N σ7 H7->∃ m,m < n∧∃ i σ' H',Inv X pins σ' H' s7∧tn i s7.heap∧(∀ b∈fp,H' b=none)∧W i m σ' H':=fun {σ7 H7} I7 n7=>by
   obtain ⟨m',hm,w7⟩:=hN σ7 H7 n7
   refine ⟨m',hm,i+1,σ7,H7,I7.unpinned,T.keep _ _ _ st5 fun b hb o e=>(I7.pin (b,o) (List.mem_append_right _ (List.mem_append_right _ (mem_pinsAt hb e)))).1,fun b hb=>?_,w7⟩
   obtain ⟨o,e,d⟩:=T.obj _ _ st5 b hb
   exact (I7.pin (b,o) (List.mem_append_right _ (List.mem_append_right _ (mem_pinsAt hb e)))).2.1
  cases f with
  | next=>obtain ⟨σ7,H7,I7,n7⟩:=q7;exact again I7 n7
  | cont=>obtain ⟨σ7,H7,I7,n7⟩:=q7;exact again I7 n7
  | brk=>obtain ⟨σ7,H7,I7,q7⟩:=q7;exact ⟨σ7,H7,I7.unpinned,q7⟩
  | ret v=>obtain ⟨x7,σ7,H7,I7,r7,q7⟩:=q7;exact ⟨x7,σ7,H7,I7.unpinned,r7,q7⟩
end
theorem for_list {K:PySem.W.Frag}{a:Addr}{xs:List V}{g:TG}{tb:TS}{D:Ends}{σ:St}{H:Hp}(Pv:Nat->St->Hp->Prop) (h0:Pv 0 σ H) (hl:∀ i σ H,i≤xs.length->Pv i σ H->SqL K H a xs)
  (hs:∀ i x σ H,xs[i]? = some x->Pv i σ H->g x σ H fun σ2 H2=>tb { D with nx:=Pv (i+1),ct:=Pv (i+1),bk:=D.nx } σ2 H2) (hd:∀ σ H,Pv xs.length σ H->D.nx σ H) :
  ∃ W:Nat->Nat->St->Hp->Prop,(∃ m,W 0 m σ H)∧∀ i m σ H,W i m σ H →
   ((Itl K a).stop i H∧D.nx σ H)∨((Itl K a).go i H∧∃ N:St->Hp->Prop,(∀ σ' H',N σ' H'->∃ m',m' < m∧W (i+1) m' σ' H')∧∀ x H',(Itl K a).yld i H x H'->g x σ H' fun σ2 H2=>tb { D with nx:=N,ct:=N,bk:=D.nx } σ2 H2):=by
 refine ⟨fun i m σ H=>m=xs.length - i∧i≤xs.length∧Pv i σ H,⟨xs.length,by simp,Nat.zero_le _,h0⟩,?_⟩
 rintro i m σ H ⟨rfl,hi,p⟩
 have q:=hl i σ H hi p
 by_cases hlt:i < xs.length
 ·refine .inr ⟨⟨xs,xs[i],q,by simp [hlt]⟩,Pv (i+1),fun σ' H' p'=>⟨xs.length - (i+1),by omega,rfl,hlt,p'⟩,fun x H' y=>?_⟩
  obtain ⟨e,y⟩:=y
  subst e
  exact hs i x σ _ (y xs q) p
 ·have e:i=xs.length:=by omega
  subst e
  exact .inl ⟨⟨xs,q,Nat.le_refl _⟩,hd σ H p⟩
theorem for_range {lo:Int}{n:Nat}{g:TG}{tb:TS}{D:Ends}{σ:St}{H:Hp}(Pv:Nat->St->Hp->Prop) (h0:Pv 0 σ H)
  (hs:∀ i σ H,i < n->Pv i σ H->g (.int (lo+i)) σ H fun σ2 H2=>tb { D with nx:=Pv (i+1),ct:=Pv (i+1),bk:=D.nx } σ2 H2) (hd:∀ σ H,Pv n σ H->D.nx σ H) :
  ∃ W:Nat->Nat->St->Hp->Prop,(∃ m,W 0 m σ H)∧∀ i m σ H,W i m σ H →
   ((Itr lo n).stop i H∧D.nx σ H)∨((Itr lo n).go i H∧∃ N:St->Hp->Prop,(∀ σ' H',N σ' H'->∃ m',m' < m∧W (i+1) m' σ' H')∧∀ x H',(Itr lo n).yld i H x H'->g x σ H' fun σ2 H2=>tb { D with nx:=N,ct:=N,bk:=D.nx } σ2 H2):=by
 refine ⟨fun i m σ H=>m=n - i∧i≤n∧Pv i σ H,⟨n,by simp,Nat.zero_le _,h0⟩,?_⟩
 rintro i m σ H ⟨rfl,hi,p⟩
 by_cases hlt:i < n
 ·refine .inr ⟨hlt,Pv (i+1),fun σ' H' p'=>⟨n - (i+1),by omega,rfl,hlt,p'⟩,fun x H' y=>?_⟩
  obtain ⟨e,y⟩:=y
  subst e y
  exact hs i σ _ hlt p
 ·have e:i=n:=by omega
  subst e
  exact .inl ⟨Nat.le_refl _,hd σ H p⟩
end L2
namespace L2
open PySem PySem.Spec PyProof.Rows
abbrev R2:=V->V->Hp->VK->Prop
def OpR (X:Cx) (f:Value->Value->Sem Value) (r:R2):Prop:=
 ∀ (pins:List (Addr × Obj)) (s:Shared) (σ:St) (H:Hp) (x y:V) (v u:Value) (Q:VK),Inv X pins σ H s->RelV x v->RelV y u->r x y H Q →
  wpAny (model X.prog X.w) X.A (f v u) (EP X pins σ Q) X.xe s
def UnR (X:Cx) (f:Value->Sem Value) (r:V->Hp->VK->Prop):Prop:=
 ∀ (pins:List (Addr × Obj)) (s:Shared) (σ:St) (H:Hp) (x:V) (v:Value) (Q:VK),Inv X pins σ H s->RelV x v->r x H Q →
  wpAny (model X.prog X.w) X.A (f v) (EP X pins σ Q) X.xe s
def CallR (X:Cx) (f:Value) (r:List V->Hp->VK->Prop):Prop:=
 ∀ (pins:List (Addr × Obj)) (s:Shared) (σ:St) (H:Hp) (xs:List V) (us:List Value) (Q:VK),Inv X pins σ H s->Vals xs us->r xs H Q →
  wpAny (model X.prog X.w) X.A (call f us) (EP X pins σ Q) X.xe s
def tOp (r:R2) (ta tb:TE):TE:=fun σ H Q=>ta σ H fun x H1=>tb σ H1 fun y H2=>r x y H2 Q
def tUn (r:V->Hp->VK->Prop) (ta:TE):TE:=fun σ H Q=>ta σ H fun x H1=>r x H1 Q
def rI (C:Int->Int->Prop) (g:Int->Int->V):R2:=fun x y H Q=>∃ i j,x=.int i∧y=.int j∧C i j∧Q (g i j) H
def rI0 (g:Int->Int->V):R2:=fun x y H Q=>∃ i j,x=.int i∧y=.int j∧Q (g i j) H
def rU (g:Int->V):V->Hp->VK->Prop:=fun x H Q=>∃ i,x=.int i∧Q (g i) H
section
variable {X:Cx}{a b c:Expr}{ta tb tc:TE}{pos:Pos}
theorem binT (ha:PE X a ta) (hb:PE X b tb){pins:List (Addr × Obj)}{s:Shared}{σ:St}{H:Hp}{R:V->V->Hp->Prop}(I:Inv X pins σ H s)
  (h:ta σ H fun x H1=>tb σ H1 fun y H2=>R x y H2) {Q:Value->Shared->Prop} {f:Value->Value->Sem Value}
  (hf:∀ v u s2 x y H2,Inv X pins σ H2 s2->RelV x v->RelV y u->R x y H2->wpAny (model X.prog X.w) X.A (f v u) Q X.xe s2) :
  wpAny (model X.prog X.w) X.A (eval a X.env) (fun v s₁=>wpAny (model X.prog X.w) X.A (eval b X.env) (fun u s₂=>wpAny (model X.prog X.w) X.A (f v u) Q X.xe s₂) X.xe s₁) X.xe s:=by
 refine thn (ha pins s σ H _ I h) fun v s1 ⟨x,H1,I1,r1,q1⟩=>?_
 refine thn (hb pins s1 σ H1 _ I1 q1) fun u s2 ⟨y,H2,I2,r2,q2⟩=>?_
 exact hf v u s2 x y H2 I2 r1 r2 q2
theorem pe_op {op:Operator}{r:R2}(ho:OpR X (binaryOp op) r) (ha:PE X a ta) (hb:PE X b tb):PE X (.BinOp a op b pos) (tOp r ta tb):=by
 intro pins s σ H Q I h
 exact wpAny_BinOp (binT ha hb I h fun v u s2 x y H2 I2 rx ry q=>ho pins s2 σ H2 x y v u Q I2 rx ry q)
theorem pe_un {op:UnaryOp}{r:V->Hp->VK->Prop}(ho:UnR X (unaryOp op) r) (ha:PE X a ta):PE X (.UnaryOp op a pos) (tUn r ta):=by
 intro pins s σ H Q I h
 exact UnaryOp_ (thn (ha pins s σ H _ I h) fun v s1 ⟨x,H1,I1,r1,q1⟩=>ho pins s1 σ H1 x v Q I1 r1 q1)
theorem opI {f:Value->Value->Sem Value}{C:Int->Int->Prop}{g:Int->Int->Int}
  (rule:∀ (i j:Int) (t u:Tok) (s:Shared) (Q:Value->Shared->Prop) (E:Value->Shared->Prop),C i j->Q (.int (g i j) s.toks) { s with toks:=s.toks+1 }->wpAny (model X.prog X.w) X.A (f (.int i t) (.int j u)) Q E s) :
  OpR X f (rI C fun i j=>.int (g i j)):=by
 intro pins s σ H x y v u Q I rx ry h
 obtain ⟨i,j,rfl,rfl,hc,q⟩:=h
 obtain ⟨t,rfl⟩:=rx
 obtain ⟨t',rfl⟩:=ry
 exact rule i j t t' s _ _ hc ⟨.int (g i j),H,I.tok _,⟨_,rfl⟩,q⟩
theorem opI0 {f:Value->Value->Sem Value}{g:Int->Int->Int}
  (rule:∀ (i j:Int) (t u:Tok) (s:Shared) (Q:Value->Shared->Prop) (E:Value->Shared->Prop),Q (.int (g i j) s.toks) { s with toks:=s.toks+1 }->wpAny (model X.prog X.w) X.A (f (.int i t) (.int j u)) Q E s) :
  OpR X f (rI0 fun i j=>.int (g i j)):=by
 intro pins s σ H x y v u Q I rx ry h
 obtain ⟨i,j,rfl,rfl,q⟩:=h
 obtain ⟨t,rfl⟩:=rx
 obtain ⟨t',rfl⟩:=ry
 exact rule i j t t' s _ _ ⟨.int (g i j),H,I.tok _,⟨_,rfl⟩,q⟩
theorem opB0 {f:Value->Value->Sem Value}{g:Int->Int->Bool}
  (rule:∀ (i j:Int) (t u:Tok) (s:Shared) (Q:Value->Shared->Prop) (E:Value->Shared->Prop),Q (.bool (g i j)) s->wpAny (model X.prog X.w) X.A (f (.int i t) (.int j u)) Q E s) :
  OpR X f (rI0 fun i j=>.bl (g i j)):=by
 intro pins s σ H x y v u Q I rx ry h
 obtain ⟨i,j,rfl,rfl,q⟩:=h
 obtain ⟨t,rfl⟩:=rx
 obtain ⟨t',rfl⟩:=ry
 exact rule i j t t' s _ _ ⟨.bl (g i j),H,I,rfl,q⟩
def CDiv (i j:Int):Prop:=0 < j∧j < 1073741824
def CPow (i j:Int):Prop:=0≤j∧j≤1000000∧i.natAbs < 2 ^ 64
def CMul (i j:Int):Prop:=(-(2 ^ 64) < i∧i < 2 ^ 64)∨(-(2 ^ 64) < j∧j < 2 ^ 64)
theorem CMul.ok {i j:Int}(h:CMul i j):IntMulOk i j:=by
 rcases h with ⟨h1,h2⟩|⟨h1,h2⟩
 ·exact .of_left (intBits_le_64 h1 h2)
 ·exact .of_right (intBits_le_64 h1 h2)
theorem op_add:OpR X (binaryOp .Add) (rI0 fun i j=>.int (i+j)):=opI0 fun _ _ _ _ _ _ _ q=>add_int q
theorem op_sub:OpR X (binaryOp .Sub) (rI0 fun i j=>.int (i - j)):=opI0 fun _ _ _ _ _ _ _ q=>sub_int q
theorem op_mul:OpR X (binaryOp .Mult) (rI CMul fun i j=>.int (i * j)):=opI fun _ _ _ _ _ _ _ hc q=>mul_int q hc.ok
theorem op_fdiv:OpR X (binaryOp .FloorDiv) (rI CDiv fun i j=>.int (i / j)):=opI fun i j _ _ _ _ _ hc q=>by
 have h1:(0:Int) < j:=hc.1
 have h2:j < 1073741824:=hc.2
 exact floordiv_int (by omega) (by rw [Int.fdiv_eq_ediv_of_nonneg i (by omega)];exact q) (.inl (PyProof.noPylong_small (by omega)))
theorem op_mod:OpR X (binaryOp .Mod) (rI (fun _ j=>0 < j) fun i j=>.int (i % j)):=opI fun i j _ _ _ _ _ hc q=>by
 have h1:(0:Int) < j:=hc
 exact mod_int' (by omega) (by rw [Int.fmod_eq_emod_of_nonneg i (by omega)];exact q)
theorem op_pow:OpR X (binaryOp .Pow) (rI CPow fun i j=>.int (i ^ j.toNat)):=opI fun _ _ _ _ _ _ _ hc q=>pow_int_small hc.1 hc.2.1 hc.2.2 q
theorem unI {f:Value->Sem Value}{g:Int->Int}
  (rule:∀ (i:Int) (t:Tok) (s:Shared) (Q:Value->Shared->Prop) (E:Value->Shared->Prop),Q (.int (g i) s.toks) { s with toks:=s.toks+1 }->wpAny (model X.prog X.w) X.A (f (.int i t)) Q E s) :
  UnR X f (rU fun i=>.int (g i)):=by
 intro pins s σ H x v Q I rx h
 obtain ⟨i,rfl,q⟩:=h
 obtain ⟨t,rfl⟩:=rx
 exact rule i t s _ _ ⟨.int (g i),H,I.tok _,⟨_,rfl⟩,q⟩
theorem un_neg:UnR X (unaryOp .USub) (rU fun i=>.int (-i)):=unI fun _ _ _ _ _ q=>neg_int q
end
def scal:V->V->Bool
 | .non,.non=>true | .non,.int _=>true | .int _,.non=>true | .non,.bl _=>true | .bl _,.non=>true | .non,.str _=>true | .str _,.non=>true
 | .int _,.int _=>true | .bl _,.bl _=>true | .str _,.str _=>true | .byt _,.byt _=>true
 | .int _,.str _=>true | .str _,.int _=>true | .bl _,.str _=>true | .str _,.bl _=>true
 | _,_=>false
def rEq:R2:=fun x y H Q=>scal x y=true∧Q (.bl (decide (x=y))) H
def rNe:R2:=fun x y H Q=>scal x y=true∧Q (.bl (!decide (x=y))) H
theorem dec_int {i j:Int}:decide (V.int i=V.int j)=(i == j):=by
 rw [Bool.eq_iff_iff]
 simp
theorem dec_bl {i j:Bool}:decide (V.bl i=V.bl j)=(i == j):=by
 rw [Bool.eq_iff_iff]
 simp
theorem dec_str {i j:Str}:decide (V.str i=V.str j)=(i == j):=by
 rw [Bool.eq_iff_iff]
 simp
theorem dec_byt {i j:Array UInt8}:decide (V.byt i=V.byt j)=(i.toList == j.toList):=by
 rw [Bool.eq_iff_iff]
 cases i
 cases j
 simp
section
variable {X:Cx}{a b c:Expr}{ta tb tc:TE}{pos:Pos}
theorem fin_bl {pins:List (Addr × Obj)}{σ:St}{H:Hp}{s:Shared}{Q:VK}{k k':Bool}(I:Inv X pins σ H s) (q:Q (.bl k) H) (e:k=k'):EP X pins σ Q (.bool k') s:=by
 subst e
 exact ⟨.bl k,H,I,rfl,q⟩
theorem op_eq:OpR X (compareOp .Eq) rEq:=by
 intro pins s σ H x y v u Q I rx ry h
 obtain ⟨hs,q⟩:=h
 cases x with
 | non=>
  cases rx
  cases y with
  | non=>cases ry;exact PySem.EqNone.eq_none_none (fin_bl I q (by simp))
  | bl j=>cases ry;exact PySem.EqNone.eq_none_bool (fin_bl I q (by simp))
  | int j=>obtain ⟨t',rfl⟩:=ry;exact PySem.EqNone.eq_none_int (fin_bl I q (by simp))
  | str j=>obtain ⟨t',rfl⟩:=ry;exact PySem.EqNone.eq_none_str (fin_bl I q (by simp))
  | _=>exact absurd (show false=true from hs) Bool.false_ne_true
 | bl i=>
  cases rx
  cases y with
  | non=>cases ry;exact PySem.EqNone.eq_bool_none (fin_bl I q (by simp))
  | bl j=>cases ry;exact eq_bool (fin_bl I q dec_bl)
  | str j=>obtain ⟨t',rfl⟩:=ry;exact PySem.EqMixed.eq_bool_str (fin_bl I q (by simp))
  | _=>exact absurd (show false=true from hs) Bool.false_ne_true
 | int i=>
  obtain ⟨t,rfl⟩:=rx
  cases y with
  | non=>cases ry;exact PySem.EqNone.eq_int_none (fin_bl I q (by simp))
  | int j=>obtain ⟨t',rfl⟩:=ry;exact eq_int (fin_bl I q dec_int)
  | str j=>obtain ⟨t',rfl⟩:=ry;exact PySem.EqMixed.eq_int_str (fin_bl I q (by simp))
  | _=>exact absurd (show false=true from hs) Bool.false_ne_true
 | str i=>
  obtain ⟨t,rfl⟩:=rx
  cases y with
  | non=>cases ry;exact PySem.EqNone.eq_str_none (fin_bl I q (by simp))
  | bl j=>cases ry;exact PySem.EqMixed.eq_str_bool (fin_bl I q (by simp))
  | int j=>obtain ⟨t',rfl⟩:=ry;exact PySem.EqMixed.eq_str_int (fin_bl I q (by simp))
  | str j=>obtain ⟨t',rfl⟩:=ry;exact eq_str (fin_bl I q dec_str)
  | _=>exact absurd (show false=true from hs) Bool.false_ne_true
 | byt i=>
  obtain ⟨t,rfl⟩:=rx
  cases y with
  | byt j=>obtain ⟨t',rfl⟩:=ry;exact PySem.W.eq_bytes (fin_bl I q dec_byt)
  | _=>exact absurd (show false=true from hs) Bool.false_ne_true
 | _=>cases y<;>exact absurd (show false=true from hs) Bool.false_ne_true
theorem op_ne:OpR X (compareOp .NotEq) rNe:=by
 intro pins s σ H x y v u Q I rx ry h
 obtain ⟨hs,q⟩:=h
 cases x with
 | non=>
  cases rx
  cases y with
  | non=>cases ry;exact PySem.EqNone.ne_none_none (fin_bl I q (by simp))
  | bl j=>cases ry;exact PySem.EqNone.ne_none_bool (fin_bl I q (by simp))
  | int j=>obtain ⟨t',rfl⟩:=ry;exact PySem.EqNone.ne_none_int (fin_bl I q (by simp))
  | str j=>obtain ⟨t',rfl⟩:=ry;exact PySem.EqNone.ne_none_str (fin_bl I q (by simp))
  | _=>exact absurd (show false=true from hs) Bool.false_ne_true
 | bl i=>
  cases rx
  cases y with
  | non=>cases ry;exact PySem.EqNone.ne_bool_none (fin_bl I q (by simp))
  | bl j=>cases ry;exact ne_bool (fin_bl I q (congrArg not dec_bl))
  | str j=>obtain ⟨t',rfl⟩:=ry;exact PySem.EqMixed.ne_bool_str (fin_bl I q (by simp))
  | _=>exact absurd (show false=true from hs) Bool.false_ne_true
 | int i=>
  obtain ⟨t,rfl⟩:=rx
  cases y with
  | non=>cases ry;exact PySem.EqNone.ne_int_none (fin_bl I q (by simp))
  | int j=>obtain ⟨t',rfl⟩:=ry;exact ne_int (fin_bl I q (congrArg not dec_int))
  | str j=>obtain ⟨t',rfl⟩:=ry;exact PySem.EqMixed.ne_int_str (fin_bl I q (by simp))
  | _=>exact absurd (show false=true from hs) Bool.false_ne_true
 | str i=>
  obtain ⟨t,rfl⟩:=rx
  cases y with
  | non=>cases ry;exact PySem.EqNone.ne_str_none (fin_bl I q (by simp))
  | bl j=>cases ry;exact PySem.EqMixed.ne_str_bool (fin_bl I q (by simp))
  | int j=>obtain ⟨t',rfl⟩:=ry;exact PySem.EqMixed.ne_str_int (fin_bl I q (by simp))
  | str j=>obtain ⟨t',rfl⟩:=ry;exact ne_str (fin_bl I q (congrArg not dec_str))
  | _=>exact absurd (show false=true from hs) Bool.false_ne_true
 | byt i=>
  obtain ⟨t,rfl⟩:=rx
  cases y with
  | byt j=>obtain ⟨t',rfl⟩:=ry;exact PySem.W.ne_bytes (fin_bl I q (congrArg not dec_byt))
  | _=>exact absurd (show false=true from hs) Bool.false_ne_true
 | _=>cases y<;>exact absurd (show false=true from hs) Bool.false_ne_true
theorem op_lt:OpR X (compareOp .Lt) (rI0 fun i j=>.bl (decide (i < j))):=opB0 fun _ _ _ _ _ _ _ q=>lt_int q
theorem op_le:OpR X (compareOp .LtE) (rI0 fun i j=>.bl (decide (i≤j))):=opB0 fun _ _ _ _ _ _ _ q=>le_int q
theorem op_gt:OpR X (compareOp .Gt) (rI0 fun i j=>.bl (decide (j < i))):=opB0 fun _ _ _ _ _ _ _ q=>gt_int q
theorem OpR.or {f:Value->Value->Sem Value}{r r':R2}(h:OpR X f r) (h':OpR X f r'):OpR X f (fun x y H Q=>r x y H Q∨r' x y H Q):=by
 intro pins s σ H x y v u Q I rx ry q
 rcases q with q|q
 ·exact h pins s σ H x y v u Q I rx ry q
 ·exact h' pins s σ H x y v u Q I rx ry q
theorem nomark (b:Expr){op:CmpOp}(h:op ≠ .In:=by decide) (h2:op ≠ .NotIn:=by decide):behindInMarks op b=false:=by
 have e1:(op == CmpOp.In)=false:=by cases op<;>first|rfl|exact absurd rfl h
 have e2:(op == CmpOp.NotIn)=false:=by cases op<;>first|rfl|exact absurd rfl h2
 cases b<;>simp [behindInMarks,e1,e2]
theorem pe_cmpR {op:CmpOp}{r:R2}(ho:OpR X (compareOp op) r) (ha:PE X a ta) (hb:PE X b tb) (hm:behindInMarks op b=false):PE X (.Compare a [op] [b] pos) (tOp r ta tb):=by
 intro pins s σ H Q I h
 exact wpAny_Compare1 (binT ha hb I h fun v u s2 x y H2 I2 rx ry q=>ho pins s2 σ H2 x y v u Q I2 rx ry q) hm
def tTest (t:TE):TT:=fun σ H Q=>t σ H fun x H'=>∃ k,x=.bl k∧Q k H'
theorem pt_cmpR {op:CmpOp}{r:R2}(ho:OpR X (compareOp op) r) (ha:PE X a ta) (hb:PE X b tb) (hm:behindInMarks op b=false):PT X (.Compare a [op] [b] pos) (tTest (tOp r ta tb)):=by
 intro pins s σ H Q I h
 refine wpAny_isTrue_Compare1 (thn (ha pins s σ H _ I h) fun v s1 ⟨x,H1,I1,r1,q1⟩=>thn (hb pins s1 σ H1 _ I1 q1) fun u s2 ⟨y,H2,I2,r2,q2⟩=>
  thn (ho pins s2 σ H2 x y v u _ I2 r1 r2 q2) fun c s3 ⟨z,H3,I3,r3,k,e,q3⟩=>?_) hm
 subst e
 cases r3
 exact wpAny_truthy_bool ⟨H3,I3,q3⟩
theorem line63:(sizeLine:Nat) < 2 ^ 63:=by rw [sizeLine_eq];decide
theorem vals1 {x:V}{us:List Value}(r:Vals [x] us):∃ u,us=[u]∧RelV x u:=by
 cases r with
 | cons r1 r2=>cases r2;exact ⟨_,rfl,r1⟩
theorem vals2 {x y:V}{us:List Value}(r:Vals [x,y] us):∃ u w',us=[u,w']∧RelV x u∧RelV y w':=by
 cases r with
 | cons r1 r2=>
  cases r2 with
  | cons r3 r4=>cases r4;exact ⟨_,_,rfl,r1,r3⟩
theorem call_min2 (hc:X.calm=true):CallR X (.builtin "min") (fun xs H Q=>∃ i j,xs=[.int i,.int j]∧Q (.int (if j < i then j else i)) H):=by
 intro pins s σ H xs us Q I r h
 obtain ⟨i,j,rfl,q⟩:=h
 obtain ⟨u,w',rfl,⟨t,rfl⟩,⟨t',rfl⟩⟩:=vals2 r
 refine min_two_ints (I.ok.hd hc) fun h' tk k=>⟨_,H,I.kept k,?_,q⟩
 by_cases hj:j < i
 ·rw [if_pos hj,if_pos hj];exact ⟨_,rfl⟩
 ·rw [if_neg hj,if_neg hj];exact ⟨_,rfl⟩
theorem call_int1:CallR X (.type "int") (fun xs H Q=>(∃ i,xs=[.int i]∧Q (.int i) H)∨∃ k,xs=[.bl k]∧Q (.int (if k then 1 else 0)) H):=by
 intro pins s σ H xs us Q I r h
 rcases h with ⟨i,rfl,q⟩|⟨k,rfl,q⟩
 ·obtain ⟨u,rfl,t,rfl⟩:=vals1 r
  exact call_int_int ⟨.int i,H,I,⟨_,rfl⟩,q⟩
 ·obtain ⟨u,rfl,r1⟩:=vals1 r
  cases r1
  exact call_int_bool ⟨.int (if k then 1 else 0),H,I.tok _,⟨_,rfl⟩,q⟩
end
end L2
namespace L2
open PySem PySem.Spec PyProof.Rows
structure ObjM (h:Heap) (x dx C:Addr) (mA:Str->Option Value):Prop where
 obj:h.get? x=some (PySem.W.instObj C dx)
 ns:h.Ns1 dx mA
 ne:dx ≠ x
section
variable {prog:Program}{w:World}{A:Around}{E:Value->Shared->Prop}{s:Shared}{K:PySem.W.Frag}{x dx C f:Addr}{mA:Str->Option Value}{name:Str}{v:Value}
end
theorem RelO.some_of {v:V}{o:Option Value}(r:RelO (some v) o):∃ u,o=some u∧RelV v u:=by
 cases o with
 | none=>exact (show False from r).elim
 | some u=>exact ⟨u,rfl,r⟩
section
variable {P:Program}{w:World}{H H':Hp}{h h':Heap}{a C dx:Addr}{fs fs':List (Str × V)}
end
structure Cls (K:PySem.W.Frag) (C:Addr):Prop where
 pg:PySem.W.plainGet K C Str.empty=true
 hd:PySem.W.hasDictIn K C=true
 po:PySem.W.plainOver K C=true
 sa:PySem.W.findIn K (.ref C) "__setattr__"=some (some (.builtin "object.__setattr__"))
structure Meth (K:PySem.W.Frag) (C:Addr) (m:Str) (f:Addr):Prop where
 at_:PySem.W.findIn K (.ref C) m=some (some (.ref f))
 fn:PySem.W.isFn K (.ref f)=true
 kp:PySem.W.keepIn K (.ref f)=true
section
variable {X:Cx}{pins:List (Addr × Obj)}{σ:St}{H:Hp}{s:Shared}{a C dx:Addr}{fs:List (Str × V)}{f:Str}{v:V}{A:Around}{E:Value->Shared->Prop}
end
section
variable {X:Cx}{o e value:Expr}{f:Str}{pos pos' tpos:Pos}{ta tv:TE}
end
section
variable {X:Cx}{pins:List (Addr × Obj)}{σ:St}{H:Hp}{s:Shared}{A:Around}{E:Value->Shared->Prop}{Q:Value->Shared->Prop}{c:Value}{b:Bool}
end
end L2
namespace L2
open PySem PySem.Spec PyProof.Rows
structure Room (k:Nat) (A:Around):Prop where
 hd:A.handled=none
 dp:A.depth+3 * k+5 < recursionLimit
 un:A.units+16 * k+200 < cLine
theorem Room.mono {j k:Nat}{A:Around}(r:Room k A) (h:j≤k):Room j A:=⟨r.hd,by have:=r.dp;omega,by have:=r.un;omega⟩
theorem Room.deeper {k:Nat}{A:Around}(r:Room (k+1) A) (env:Env):Room k (A.deeper env):=
 ⟨r.hd,by have:=r.dp;show A.depth+1+3 * k+5 < _;omega,by have:=r.un;show A.units+3+16 * k+200 < _;omega⟩
theorem Room.in1 {k:Nat}{A:Around}(r:Room (k+1) A):Room k A.in1:=
 ⟨r.hd,by have:=r.dp;show A.depth+3 * k+5 < _;omega,by have:=r.un;show A.units+1+16 * k+200 < _;omega⟩
theorem Room.depth {k:Nat}{A:Around}(r:Room k A):A.depth < recursionLimit:=by have:=r.dp;omega
theorem Room.units {k:Nat}{A:Around}(r:Room k A):A.units+64 < cLine:=by have:=r.un;omega
def tNil:TA:=fun _ H Q=>Q [] H
def tCons (ta:TE) (tr:TA):TA:=fun σ H Q=>ta σ H fun x H1=>tr σ H1 fun xs H2=>Q (x::xs) H2
section
variable {X:Cx}{e:Expr}{es:List Expr}{te:TE}{t:TA}{pos:Pos}
theorem pa_nil:PA X [] tNil:=fun _ _ _ _ H Q I h=>Calls.spliced_nil ⟨[],H,I,.nil,h⟩
theorem pa_cons (ha:PE X e te) (hr:PA X es t) (hs:starEach (e::es) X.env=(false,eval e X.env)::starEach es X.env:=by rfl):PA X (e::es) (tCons te t):=by
 intro pos pins s σ H Q I h
 rw [hs]
 show wpAny _ _ (spliced ((false,eval e X.env)::backTo pos (starEach es X.env))) _ _ s
 refine Calls.spliced_cons (thn (ha pins s σ H _ I h) fun u s1 ⟨x,H1,I1,r1,q1⟩=>?_)
 exact thn (hr pos pins s1 σ H1 _ I1 q1) fun us s2 ⟨xs,H2,I2,r2,q2⟩=>⟨x::xs,H2,I2,.cons r1 r2,q2⟩
end
abbrev Sp:=List V->Hp->VK->XK->Prop
abbrev CXT:=List Env->Hp->Shared->XK->Value->Shared->Prop
structure Env0 (P:Program) (w:World) (K:PySem.W.Frag) (mg:Str->Option Value) (base:Heap) (A:Around) (outer:List Env) (s:Shared) (H:Hp):Prop where
 frames:A.frames=some outer
 mod:Mod K mg base
 bs:∀ b o,base.get? b=some o->s.heap.get? b=some o∧H b=none
 bsz:base.objs.size≤s.heap.objs.size
 funs:s.heap.FunFrames base outer
 frf:∀ b∈frs outer,H b=none
 hok:HOk P w H s.heap
 bare:AllBare s.gens
def CE (outer:List Env) (P:Program) (w:World) (H:Hp) (s:Shared) (Q:VK) (u:Value) (s':Shared):Prop:=
 ∃ v H',s'.os=s.os∧AllBare s'.gens∧Un (frs outer) [] H H' s.heap s'.heap∧HOk P w H' s'.heap∧RelV v u∧Q v H'
def CR (CX:CXT) (outer:List Env) (P:Program) (w:World) (H:Hp) (s:Shared) (Q:VK) (E:XK) (r:Result) (s':Shared):Prop:=
 match r with
 | .ok (.ret u)=>CE outer P w H s Q u s'
 | .ok _=>False
 | .error e=>CX outer H s E e s'
structure FnOk (P:Program) (w:World) (K:PySem.W.Frag) (mg:Str->Option Value) (base:Heap) (CX:CXT) (k:Nat) (f:Addr) (fd:FuncData) (ps:List Str) (sp:Sp):Prop where
 len:∀ vs H Q E,sp vs H Q E->vs.length=ps.length
 run:∀ (A:Around) (outer:List Env) (s:Shared) (H:Hp) (args:Args) (us:List Value) (vs:List V) (Q:VK) (E:XK),Room k A->Env0 P w K mg base A outer s H->BindsTo s fd args (ps.zip us)->Vals vs us->sp vs H Q E →
  codeAny (model P w) A (.call (.ref f) args) (CR CX outer P w H s Q E) s
theorem FnOk.imp {P:Program}{w:World}{K:PySem.W.Frag}{mg:Str->Option Value}{base:Heap}{CX:CXT}{k:Nat}{f:Addr}{fd:FuncData}{ps:List Str}{sp sp':Sp}(F:FnOk P w K mg base CX k f fd ps sp)
  (h:∀ vs H Q E,sp' vs H Q E->sp vs H Q E):FnOk P w K mg base CX k f fd ps sp':=
 ⟨fun vs H Q E q=>F.len vs H Q E (h _ _ _ _ q),fun A outer s H args us vs Q E hr he hb hv hs=>F.run A outer s H args us vs Q E hr he hb hv (h _ _ _ _ hs)⟩
theorem Env0.in1 {P:Program}{w:World}{K:PySem.W.Frag}{mg:Str->Option Value}{base:Heap}{A:Around}{outer:List Env}{s:Shared}{H:Hp}(e:Env0 P w K mg base A outer s H) :
  Env0 P w K mg base A.in1 outer s H:=⟨e.frames,e.mod,e.bs,e.bsz,e.funs,e.frf,e.hok,e.bare⟩
section
variable {X:Cx}{pins:List (Addr × Obj)}{σ:St}{H:Hp}{s s':Shared}
theorem Inv.env0 (I:Inv X pins σ H s):Env0 X.prog X.w X.K X.mg X.base X.A X.stack s H:=
 ⟨I.ok.frames,I.ok.mod,I.bs,Nat.le_trans I.ok.bsz I.sz,I.stack,I.stkFree,I.hok,I.bare⟩
theorem Inv.after {Q:VK}{u:Value}(I:Inv X pins σ H s) (h:CE X.stack X.prog X.w H s Q u s'):EP X pins σ Q u s':=by
 obtain ⟨v,H',os,bare,un,hok,r,q⟩:=h
 obtain ⟨hh,g,d,t,os'⟩:=s'
 obtain rfl:os'=s.os:=os
 exact ⟨v,H',I.call (h':=hh) (g':=g) (d':=d) (t':=t) (ch:=[]) un hok bare (fun b z=>absurd z (by simp)),r,q⟩
end
def tCall (sp:Sp) (dvs:List V) (E:XK) (t:TA):TE:=fun σ H Q=>t σ H fun vs H1=>sp (vs++dvs) H1 Q E
def Binds (K:PySem.W.Frag) (fd:FuncData) (ps:List Str) (ds:List Value):Prop:=
 ∀ (s:Shared) (us:List Value),K.In s.heap->(us++ds).length=ps.length->BindsTo s fd ⟨us,[]⟩ (ps.zip (us++ds))
theorem Binds.all {K:PySem.W.Frag}{fd:FuncData}{ps:List Str}(h:∀ us:List Value,us.length=ps.length->bindArgs fd ⟨us,[]⟩=pure (ps.zip us)):Binds K fd ps []:=fun s us _ hl=>by
 rw [List.append_nil] at hl ⊢
 exact .of_eq (h us hl)
def Passes (CX:CXT) (X:Cx) (E:XK):Prop:=∀ (pins:List (Addr × Obj)) (σ:St) (H:Hp) (s:Shared) (e:Value) (s':Shared),Inv X pins σ H s->CX X.stack H s E e s'->X.xe e s'
section
variable {X:Cx}{CX:CXT}{k:Nat}{f C:Addr}{fd:FuncData}{ps:List Str}{sp:Sp}{dvs:List V}{ds:List Value}{E:XK}{x m:Str}{p pos apos:Pos}{e o:Expr}{es:List Expr}{ta:TE}{t:TA}
theorem run_fn {pins:List (Addr × Obj)}{σ:St}{H:Hp}{s:Shared}{Q:VK}{us:List Value}{vs:List V}(F:FnOk X.prog X.w X.K X.mg X.base CX k f fd ps sp) (hr:Room k X.A) (hb:Binds X.K fd ps ds) (hd:Vals dvs ds) (hx:Passes CX X E)
  (I:Inv X pins σ H s) (r:Vals vs us) (h:sp (vs++dvs) H Q E):wpAny (model X.prog X.w) X.A (call (.ref f) us) (EP X pins σ Q) X.xe s:=by
 have r2:Vals (vs++dvs) (us++ds):=r.append hd
 have hl:(us++ds).length=ps.length:=by rw [←r2.length];exact F.len _ _ _ _ h
 refine wpAny_call (codeAny_mono (F.run X.A X.stack s H ⟨us,[]⟩ (us++ds) (vs++dvs) Q E hr I.env0 (hb s us I.kIn hl) r2 h) fun r s' hq=>?_)
 cases r with
 | error e=>exact hx pins σ H s e s' I hq
 | ok fl=>
  cases fl with
  | ret u=>exact I.after hq
  | next=>exact False.elim hq
  | brk=>exact False.elim hq
  | cont=>exact False.elim hq
theorem pe_call (F:FnOk X.prog X.w X.K X.mg X.base CX k f fd ps sp) (hr:Room k X.A) (hg:Gl X x) (hm:X.mg x=some (.ref f)) (hk:PySem.W.keepIn X.K (.ref f)=true) (hb:Binds X.K fd ps ds) (hd:Vals dvs ds) (hx:Passes CX X E)
  (ha:PA X (e::es) t) (hdb:(x == ("__debug__":Str))=false:=by decide) (he:starEach (e::es) X.env=(false,eval e X.env)::starEach es X.env:=by rfl) (hpl:(backTo pos (starEach es X.env)).any (·.1)=false:=by rfl) :
  PE X (.Call (.Name x p) (e::es) [] pos) (tCall sp dvs E t):=by
 intro pins s σ H Q I h
 refine wpAny_Call_Name_kw (ld_glob I hg hm ?_ hdb)
 refine PySem.W.callWith_K (h₀:=X.base) I.ok.mod.kin hk (thn (ha pos pins s σ H _ I h) fun us s1 ⟨vs,H1,I1,r,q⟩=>⟨I1.kIn,?_⟩) he hpl
 exact run_fn F hr hb hd hx I1 r q
end
def PK (X:Cx) (kws:List Keyword) (t:TA):Prop:=
 ∀ (pos:Pos) (pins:List (Addr × Obj)) (s:Shared) (σ:St) (H:Hp) (Q:List V->Hp->Prop),Inv X pins σ H s->t σ H Q->wpAny (model X.prog X.w) X.A (evalAll ((backToKw pos (keywordEach kws X.env)).map (·.2))) (AP X pins σ Q) X.xe s
section
variable {X:Cx}{CX:CXT}{k:Nat}{f C:Addr}{fd:FuncData}{ps ks:List Str}{sp:Sp}{E:XK}{x m:Str}{p pos apos kpos:Pos}{e o:Expr}{es:List Expr}{kws:List Keyword}{te ta:TE}{t tk:TA}{nm:Option Str}
theorem pk_nil:PK X [] tNil:=fun _ _ _ _ H Q I h=>wpAny_evalAll_nil ⟨[],H,I,.nil,h⟩
theorem pk_cons (ha:PE X e te) (hr:PK X kws t):PK X (⟨nm,e,kpos⟩ :: kws) (tCons te t):=by
 intro pos pins s σ H Q I h
 show wpAny _ _ (evalAll ((do let v ←eval e X.env;standAt pos;pure v)::(backToKw pos (keywordEach kws X.env)).map (·.2))) _ _ s
 refine wpAny_evalAll_cons (wpAny_bind (thn (ha pins s σ H _ I h) fun u s1 ⟨x,H1,I1,r1,q1⟩=>wpAny_bind (wpAny_standAt (wpAny_pure ?_))))
 exact thn (hr pos pins s1 σ H1 _ I1 q1) fun us s2 ⟨xs,H2,I2,r2,q2⟩=>⟨x::xs,H2,I2,.cons r1 r2,q2⟩
variable {g:List Value->List Value->List Value}{gV:List V->List V->List V}
end
structure FnScope (N P:List Str) (sc:Scope):Prop where
 kind:sc.kind=.function
 co:sc.isCoroutine=false
 gen:sc.isGenerator=false
 nd:N.Nodup
 pre:N.take P.length=P
 par:∀ x∈P,sc.names.lookup x=some .local∨sc.names.lookup x=some .cell
 nofree:∀ y∈sc.names,y.2 ≠ .free
theorem bindL_out {kindOf:Str->Option NameKind}{x:Str}:∀ {binds:List (Str × Value)}{m:Str->Option Value},(∀ v,(x,v) ∉ binds)->bindL kindOf binds m x=m x
 | [],_,_=>rfl
 | (n,v)::r,m,h=>by
  unfold bindL
  rw [bindL_out fun w hw=>h w (List.mem_cons_of_mem _ hw)]
  split
  ·have:x ≠ n:=by rintro rfl;exact h v List.mem_cons_self
   simp [this]
  ·rfl
theorem bindC_out {kindOf:Str->Option NameKind}{x:Str}:∀ {binds:List (Str × Value)}{m:Str->Option Value},(∀ v,(x,v) ∉ binds)->bindC kindOf binds m x=m x
 | [],_,_=>rfl
 | (n,v)::r,m,h=>by
  unfold bindC
  rw [bindC_out fun w hw=>h w (List.mem_cons_of_mem _ hw)]
  split
  ·rfl
  ·have:x ≠ n:=by rintro rfl;exact h v List.mem_cons_self
   simp [this]
theorem bindL_get {kindOf:Str->Option NameKind}{x:Str}{v:Value}:∀ {P:List Str}{vs:List Value}{i:Nat}{m:Str->Option Value},P.Nodup->P[i]? = some x->vs[i]? = some v->kindOf x=some .local →
  bindL kindOf (P.zip vs) m x=some v
 | [],_,_,_,_,h,_,_=>by simp at h
 | _::_,[],_,_,_,_,h,_=>by simp at h
 | p::P,w::vs,0,m,nd,h1,h2,hk=>by
  simp at h1 h2;subst h1;subst h2
  show bindL kindOf ((p,w)::P.zip vs) m p=_
  unfold bindL
  rw [bindL_out fun v hv=>(List.nodup_cons.mp nd).1 (List.of_mem_zip hv).1,if_pos hk]
  simp
 | p::P,w::vs,i+1,m,nd,h1,h2,hk=>by
  show bindL kindOf ((p,w)::P.zip vs) m x=_
  unfold bindL
  exact bindL_get (i:=i) (List.nodup_cons.mp nd).2 (by simpa using h1) (by simpa using h2) hk
theorem bindC_get {kindOf:Str->Option NameKind}{x:Str}{v:Value}:∀ {P:List Str}{vs:List Value}{i:Nat}{m:Str->Option Value},P.Nodup->P[i]? = some x->vs[i]? = some v->kindOf x ≠ some .local →
  bindC kindOf (P.zip vs) m x=some v
 | [],_,_,_,_,h,_,_=>by simp at h
 | _::_,[],_,_,_,_,h,_=>by simp at h
 | p::P,w::vs,0,m,nd,h1,h2,hk=>by
  simp at h1 h2;subst h1;subst h2
  show bindC kindOf ((p,w)::P.zip vs) m p=_
  unfold bindC
  rw [bindC_out fun v hv=>(List.nodup_cons.mp nd).1 (List.of_mem_zip hv).1,if_neg hk]
  simp
 | p::P,w::vs,i+1,m,nd,h1,h2,hk=>by
  show bindC kindOf ((p,w)::P.zip vs) m x=_
  unfold bindC
  exact bindC_get (i:=i) (List.nodup_cons.mp nd).2 (by simpa using h1) (by simpa using h2) hk
def start (N:List Str) (vs:List V):St:=vs.map some++List.replicate (N.length - vs.length) none
def cxOf (CX:CXT) (P:Program) (w:World) (K:PySem.W.Frag) (mg:Str->Option Value) (base:Heap) (N:List Str) (qual:Str) (scope:Scope) (f:Addr) (cd:Value) (A:Around) (outer:List Env) (s:Shared) (H:Hp) (E:XK):Cx where
 prog:=P
 w:=w
 K:=K
 mg:=mg
 base:=base
 A:=A.deeper (envOfC qual scope s.heap.objs.size f cd)
 N:=N
 s₀:=s
 H₀:=H
 env:=envOfC qual scope s.heap.objs.size f cd
 outer:=outer
 stack:=envOfC qual scope s.heap.objs.size f cd::outer
 ex:=[]
 calm:=true
 fn:=fun _=>true
 pn:=[]
 xe:=fun e s'=>wpAny (model P w) (A.deeper (envOfC qual scope s.heap.objs.size f cd)) (leaving (envOfC qual scope s.heap.objs.size f cd) e) (fun _ s''=>CX outer H s E e s'') (fun e' s''=>CX outer H s E e' s'') s'
theorem cell_has {sc:Scope}{n:Nat}{x:Str}(h:sc.names.lookup x=some .cell):∃ c,(cellsFrom n sc.names []).lookup x=some c:=by
 have q:=PySem.W.cellsFrom_some sc.names n [] (.inl h)
 exact Option.isSome_iff_exists.mp q
theorem inv_start {CX:CXT}{P:Program}{w:World}{K:PySem.W.Frag}{mg:Str->Option Value}{base:Heap}{N ps:List Str}{qual:Str}{scope:Scope}{f:Addr}{cd:Value}{A:Around}{outer:List Env}{s s1:Shared}{H:Hp}{E:XK}{us:List Value}{vs:List V}
  (S:FnScope N ps scope) (hd:A.handled=none) (e0:Env0 P w K mg base A outer s H) (hl:vs.length=ps.length) (r:Vals vs us)
  (x:InCallC s s.heap.objs.size (bindL (envOfC qual scope s.heap.objs.size f cd).kindOf (ps.zip us) fun _=>none) (cellsFrom (s.heap.objs.size+1) scope.names []) (bindC (envOfC qual scope s.heap.objs.size f cd).kindOf (ps.zip us) fun _=>none) s1) :
  Inv (cxOf CX P w K mg base N qual scope f cd A outer s H E) [] (start N vs) H s1:=by
 have hpl:ps.length≤N.length:=by have:=congrArg List.length S.pre;rw [List.length_take] at this;omega
 obtain ⟨h1,tk,rfl,hk⟩:=x.done
 have noA:∀ b:Addr,b ∉ (cxOf CX P w K mg base N qual scope f cd A outer s H E).ex:=fun b z=>absurd (show b∈([]:List Addr) from z) (by simp)
 refine ⟨⟨e0.mod,S.kind,rfl,rfl,Nat.le_refl _,fun y z c h1 h2=>?_,fun y hy=>?_,fun y c _ h=>?_,fun _=>hd,Around.frames_deeper e0.frames,.inr ⟨rfl,rfl⟩,fun b z=>absurd z (noA b),e0.bs,e0.bsz,fun b _ _=>noA b,fun b z=>absurd z (noA b),e0.funs,e0.frf⟩,
  rfl,e0.bare,Un.kept hk,⟨_,x.toInCall.ns,fun i y v h1 h2 h3=>?_⟩,fun y c h=>⟨_,x.cell y c h⟩,e0.hok.fresh (Nat.le_refl _),fun y c h=>?_,fun p hp=>absurd (show p∈([]:List (Addr × Obj)) from hp) (by simp),e0.hok.kept hk,?_⟩
 ·exact name_of_addr x.apart (PySem.mem_of_lookup h1) (PySem.mem_of_lookup h2)
 ·have hy:scope.names.lookup y=some .cell∨scope.names.lookup y=some .free:=hy
  rcases hy with hy|hy
  ·exact cell_has hy
  ·exact absurd rfl (S.nofree _ (PySem.mem_of_lookup hy))
 ·exact Nat.le_of_lt (x.above y c (PySem.mem_of_lookup h))
 ·have hi:i < vs.length:=by
   unfold start at h2
   by_cases hi:i < vs.length
   ·exact hi
   ·rw [List.getElem?_append_right (by simpa using hi)] at h2
    rw [List.getElem?_replicate] at h2
    split at h2<;>cases h2
  have ha:vs[i]? = some v:=by
   unfold start at h2
   rw [List.getElem?_append_left (by simpa using hi),List.getElem?_map] at h2
   cases e:vs[i]? with
   | none=>rw [e] at h2;cases h2
   | some a=>rw [e] at h2;cases h2;rfl
  obtain ⟨u,hu,rv⟩:=r.get ha
  have hp:ps[i]? = some y:=by
   rw [←S.pre,List.getElem?_take_of_lt (by omega)];exact h1
  have ndP:ps.Nodup:=by rw [←S.pre];exact S.nd.sublist (List.take_sublist _ _)
  refine ⟨u,rv,?_⟩
  rcases S.par y (List.mem_of_getElem? hp) with k|k
  ·exact .inl ⟨k,bindL_get ndP hp hu k⟩
  ·obtain ⟨c,e⟩:=cell_has (n:=s.heap.objs.size+1) k
   refine .inr ⟨.inl k,c,e,?_⟩
   have q:=x.cell y c e
   rw [bindC_get ndP hp hu (by show scope.names.lookup y ≠ _;rw [k];decide)] at q
   exact q
 ·exact e0.hok.fresh (Nat.le_of_lt (x.above y c (PySem.mem_of_lookup h)))
 ·unfold start
  show _=N.length
  rw [List.length_append,List.length_map,List.length_replicate]
  omega
theorem fn_of {CX:CXT}{P:Program}{w:World}{K:PySem.W.Frag}{mg:Str->Option Value}{base:Heap}{k:Nat}{f:Addr}{name qual:Str}{params:Arguments}{body:List Stmt}{scope:Scope}{dV kV doc pm cdv ct oc:Value}{an od:Option Addr}
  {osl:Array (Option Value)} {N ps:List Str} {sp:Sp} (lk:K.lookup f=some ⟨oc,od,.func (PySem.W.fnOf name qual params body scope dV kV doc pm an cdv ct),osl⟩) (hcd:PySem.W.codeIn K cdv qual=true) (S:FnScope N ps scope)
  (len:∀ vs H Q E,sp vs H Q E->vs.length=ps.length)
  (hbody:∀ (A:Around) (outer:List Env) (s:Shared) (H:Hp) (vs:List V) (Q:VK) (E:XK),Room k (A.deeper (envOfC qual scope s.heap.objs.size f cdv))->sp vs H Q E →
   ∃ t,PSs (cxOf CX P w K mg base N qual scope f cdv A outer s H E) body t∧t { nx:=fun _ H'=>Q .non H',rt:=Q } (start N vs) H) :
  FnOk P w K mg base CX (k+1) f (PySem.W.fnOf name qual params body scope dV kV doc pm an cdv ct) ps sp:=by
 refine ⟨len,fun A outer s H args us vs Q E hr e0 hb r hsp=>?_⟩
 have hl:=len _ _ _ _ hsp
 have KX:K.In s.heap:=e0.mod.kin.keeps fun b o e=>(e0.bs b o e).1
 have lim:s.heap.NoLimit:=e0.mod.nolimit.keeps fun b o e=>(e0.bs b o e).1
 have hkind:∀ y∈ps.zip us,scope.names.lookup y.1=some .local∨(scope.names.lookup y.1=some .cell∧((cellsFrom (s.heap.objs.size+1) scope.names []).lookup y.1).isSome=true):=fun ⟨n,v⟩ hy=>by
  rcases S.par n (List.of_mem_zip hy).1 with q|q
  ·exact .inl q
  ·exact .inr ⟨q,PySem.W.cellsFrom_some _ _ _ (.inl q)⟩
 refine codeAny_call_function hr.depth (KX _ _ lk) rfl S.co S.gen rfl (PySem.W.codeRec_of KX hcd) (hb _ _ _ _ ?_)
 refine wpAny_newFunctionEnv_cells S.kind hkind fun env he s1 x=>?_
 subst he
 refine ⟨lim.keeps x.toInCall.keep,codeAny_func ?_⟩
 obtain ⟨t,ht,hq⟩:=hbody A outer s H vs Q E (hr.deeper _) hsp
 have I:Inv (cxOf CX P w K mg base N qual scope f cdv A outer s H E) [] (start N vs) H s1:=inv_start S hr.hd e0 hl r x
 refine wpAny_mono (ht [] s1 (start N vs) H _ I hq) (fun fl s' hs=>?_) fun e s' hs=>hs
 have fin:∀ {σ':St} {H':Hp} {v:V} {u:Value},Inv (cxOf CX P w K mg base N qual scope f cdv A outer s H E) [] σ' H' s'->RelV v u->Q v H'->CE outer P w H s Q u s':=
  fun {σ' H' v u} J rv q=>⟨v,H',J.os,J.bare,J.base,J.hok,rv,q⟩
 cases fl with
 | ret u=>
  obtain ⟨v,σ',H',J,rv,q⟩:=hs
  exact fin J rv q
 | next=>
  obtain ⟨σ',H',J,q⟩:=hs
  exact fin (v:=V.non) (u:=Value.none) J rfl q
 | brk=>
  obtain ⟨_,_,_,q⟩:=hs
  exact False.elim q
 | cont=>
  obtain ⟨_,_,_,q⟩:=hs
  exact False.elim q
end L2
namespace L2
open PySem PySem.Spec PyProof.Rows
section
variable {X:Cx}{x:Str}{p pos:Pos}{e:Expr}{es:List Expr}{t:TA}{id T:String}{r:List V->Hp->VK->Prop}
def tCB (r:List V->Hp->VK->Prop) (t:TA):TE:=fun σ H Q=>t σ H fun vs H1=>r vs H1 Q
theorem pe_callB (hc:CallR X (.builtin id) r) (hg:Gl X x) (hm:X.mg x=none) (hv:bootBuiltins x=some (.builtin id)) (ha:PA X (e::es) t) (hn:x ≠ "__name__":=by decide) (hdb:(x == ("__debug__":Str))=false:=by decide)
  (he:starEach (e::es) X.env=(false,eval e X.env)::starEach es X.env:=by rfl) (hpl:(backTo pos (starEach es X.env)).any (·.1)=false:=by rfl):PE X (.Call (.Name x p) (e::es) [] pos) (tCB r t):=by
 intro pins s σ H Q I h
 refine wpAny_Call_Name_kw (ld_blt I hg hm hv ?_ hn hdb)
 exact PyProof.Rows.callWith_builtin1 (thn (ha pos pins s σ H _ I h) fun us s1 ⟨vs,H1,I1,r1,q1⟩=>hc pins s1 σ H1 vs us Q I1 r1 q1) he hpl
theorem pe_callTy (hc:CallR X (.type T) r) (hg:Gl X x) (hm:X.mg x=none) (hv:bootBuiltins x=some (.type T)) (ha:PA X (e::es) t) (hn:x ≠ "__name__":=by decide) (hdb:(x == ("__debug__":Str))=false:=by decide)
  (he:starEach (e::es) X.env=(false,eval e X.env)::starEach es X.env:=by rfl) (hpl:(backTo pos (starEach es X.env)).any (·.1)=false:=by rfl):PE X (.Call (.Name x p) (e::es) [] pos) (tCB r t):=by
 intro pins s σ H Q I h
 refine wpAny_Call_Name_kw (ld_blt I hg hm hv ?_ hn hdb)
 exact PyProof.Rows.callWith_type1 (thn (ha pos pins s σ H _ I h) fun us s1 ⟨vs,H1,I1,r1,q1⟩=>hc pins s1 σ H1 vs us Q I1 r1 q1) he hpl
end
end L2
namespace HT
open PySem PyProof.Rows
section
open PySem.SeqAt
open PySem.AutoSeq1 (wpAny_loadPart')
open PySem.MeetsSeq PySem.MeetsSeq2 PySem.MeetsSeq3
end
section
variable {prog:Program}{w:World}{A:Around}{E:Value->Shared->Prop}{s:Shared}
theorem cat_tup {t b:Addr}{vs ws:List Value}{Q:Value->Shared->Prop}(ht:IsTup s.heap t vs.toArray) (hb:IsTup s.heap b ws.toArray) (hv:vs ≠ [])
  (h1:ws=[]->Q (.ref t) s) (h2:ws ≠ []->Q (.ref s.heap.objs.size) { s with heap:=s.heap.push { cls:=.type "tuple",data:=.seq (vs++ws).toArray } })
  (hsz:vs.length+ws.length≤sizeLine):wpAny (model prog w) A (binaryOp .Add (.ref t) (.ref b)) Q E s:=by
 obtain ⟨⟨cls,dd,data,sl⟩,ho,hc,n,hd⟩:=id ht
 obtain ⟨⟨cls2,dd2,data2,sl2⟩,ho2,hc2,n2,hd2⟩:=id hb
 simp only at hc hd hc2 hd2
 subst hc hd hc2 hd2
 have e:vs.toArray++ws.toArray=(vs++ws).toArray:=by simp
 by_cases hw:ws=[]
 ·exact concat_meets ⟨_,ho,rfl⟩ ⟨_,ho2,rfl⟩ noFill_tuple_add seq_tuple_add PySem.F.slot_tuple_add PySem.F.entry_tuple_add (PySem.F.args_tuple_add_2 _ _)
   (tuple_addW1 t b vs.toArray ws.toArray n n2 dd dd2 sl sl2 (by simpa using hv) (by simp [hw])) ⟨ho,ho2,h1 hw⟩
 ·refine concat_meets ⟨_,ho,rfl⟩ ⟨_,ho2,rfl⟩ noFill_tuple_add seq_tuple_add PySem.F.slot_tuple_add PySem.F.entry_tuple_add (PySem.F.args_tuple_add_2 _ _)
   (tuple_addW2 t b vs.toArray ws.toArray n n2 dd dd2 sl sl2 (by simpa using hv) (by simpa using hw) (by rw [List.size_toArray,List.size_toArray];exact hsz)) ⟨ho,ho2,?_⟩
  rw [e]
  exact h2 hw
def sIx (n d:Nat):Option Int->Nat
 | none=>d
 | some v=>if v < 0 then (v+(n:Int)).toNat else min v.toNat n
theorem sIx_none (n d:Nat):sIx n d none=d:=rfl
theorem sIx_nat (n d k:Nat):sIx n d (some (k:Int))=min k n:=by
 show (if (k:Int) < 0 then ((k:Int)+(n:Int)).toNat else min (k:Int).toNat n)=min k n
 rw [if_neg (by omega),Int.toNat_natCast]
theorem sIx_le (n d:Nat) (hd:d≤n) (o:Option Int):sIx n d o≤n:=by
 cases o with
 | none=>exact hd
 | some v=>
  show (if v < 0 then (v+(n:Int)).toNat else min v.toNat n)≤n
  by_cases hv:v < 0
  ·rw [if_pos hv];omega
  ·rw [if_neg hv];exact Nat.min_le_right _ _
theorem clip_eq (v:Int) (n d:Nat):(if v < 0 then max (v+(n:Int)) 0 else min v (n:Int))=((sIx n d (some v):Nat):Int):=by
 show (if v < 0 then max (v+(n:Int)) 0 else min v (n:Int))=(((if v < 0 then (v+(n:Int)).toNat else min v.toNat n):Nat):Int)
 by_cases hv:v < 0
 ·simp only [if_pos hv];omega
 ·simp only [if_neg hv];omega
theorem adjust_gen (lo hi:Option Int) (n:Nat):Builtin.Slice.sliceAdjust lo hi 1 (n:Int)=(((sIx n 0 lo:Nat):Int),((sIx n n hi:Nat):Int)):=by
 have h1:¬ ((1:Int) < 0):=by omega
 unfold Builtin.Slice.sliceAdjust
 simp only [h1,if_false]
 refine Prod.ext ?_ ?_
 ·cases lo with
  | none=>rfl
  | some v=>exact clip_eq v n 0
 ·cases hi with
  | none=>rfl
  | some v=>exact clip_eq v n n
theorem places_gen (i j:Nat):Builtin.Slice.slicePlaces (i:Int) (j:Int) 1=j - i:=by
 unfold Builtin.Slice.slicePlaces
 have h1:(1:Int) > 0:=by omega
 simp only [h1,if_true,Int.ediv_one]
 split<;>omega
theorem slicePart_ {v:Value}{o:Option Int}{Q:Option Int->Shared->Prop}(p:IsPart v o) (h:Q o s):wpAny (model prog w) A (Builtin.Slice.slicePartIndex v) Q E s:=by
 cases p with
 | none=>exact slicePart_none h
 | int i t=>exact slicePart_int h
theorem sliceApplied_gen {sl:Addr}{vl vu:Value}{lo hi:Option Int}{n:Nat}{Q:Int × Int × Nat->Shared->Prop}(hs:s.heap.IsSliceOf sl vl vu .none) (pl:IsPart vl lo) (pu:IsPart vu hi)
  (h:Q (((sIx n 0 lo:Nat):Int),1,sIx n n hi - sIx n 0 lo) s):wpAny (model prog w) A (Builtin.Slice.sliceApplied (.ref sl) (pure (n:Int))) Q E s:=by
 obtain ⟨os,hos,hcs,hds⟩:=id hs
 unfold Builtin.Slice.sliceApplied Builtin.Slice.sliceFields
 refine wpAny_bind (wpAny_bind (wpAny_field hos hds (x:=vl) rfl (wpAny_bind (wpAny_field hos hds (x:=vu) rfl (wpAny_bind (wpAny_field hos hds (x:=.none) rfl (wpAny_pure ?_)))))))
 refine wpAny_bind (slicePart_none ?_)
 show wpAny _ _ (if ((1:Int) == 0)=true then _ else _) _ _ s
 rw [if_neg (by decide)]
 refine wpAny_bind (slicePart_ pl (wpAny_bind (slicePart_ pu (wpAny_bind (wpAny_pure ?_)))))
 show wpAny _ _ (match Builtin.Slice.sliceAdjust lo hi 1 (n:Int) with|(lo,hi)=>pure (lo,(1:Int),Builtin.Slice.slicePlaces lo hi 1)) _ _ s
 rw [adjust_gen lo hi n]
 show wpAny _ _ (pure (((sIx n 0 lo:Nat):Int),(1:Int),Builtin.Slice.slicePlaces ((sIx n 0 lo:Nat):Int) ((sIx n n hi:Nat):Int) 1)) _ _ s
 rw [places_gen]
 exact wpAny_pure h
theorem pick_gen (xs:Array Value) (i k:Nat):((List.range k).filterMap fun (m:Nat)=>xs[((i:Int)+(m:Int) * 1).toNat]?).toArray=((xs.toList.drop i).take k).toArray:=by
 have e:(fun (m:Nat)=>xs[((i:Int)+(m:Int) * 1).toNat]?)=fun m=>xs[i+m]?:=by
  funext m
  have:((i:Int)+(m:Int) * 1).toNat=i+m:=by omega
  rw [this]
 rw [e]
 have:=pick_run xs i k
 rw [List.filterMap_map] at this
 have e2:((fun x=>xs[x]?) ∘ fun x=>i+x)=fun m=>xs[i+m]?:=rfl
 rw [e2] at this
 rw [this]
theorem getItem_tuple_cut {t sl:Addr}{items:Array Value}{vl vu:Value}{lo hi:Option Int}{Q:Value->Shared->Prop}(ht:IsTup s.heap t items) (hs:s.heap.IsSliceOf sl vl vu .none) (pl:IsPart vl lo) (pu:IsPart vu hi)
  (hw:¬ (sIx items.size 0 lo=0∧sIx items.size items.size hi=items.size))
  (h:Q (.ref s.heap.objs.size) { s with heap:=s.heap.push { cls:=.type "tuple",data:=.seq ((items.toList.drop (sIx items.size 0 lo)).take (sIx items.size items.size hi - sIx items.size 0 lo)).toArray } })
  (hsz:items.size≤sizeLine):wpAny (model prog w) A (getItem (.ref t) (.ref sl)) Q E s:=by
 have htake:sizeOk (.seq ((items.toList.drop (sIx items.size 0 lo)).take (sIx items.size items.size hi - sIx items.size 0 lo)).toArray):=by
  show ((items.toList.drop (sIx items.size 0 lo)).take (sIx items.size items.size hi - sIx items.size 0 lo)).toArray.size≤sizeLine
  rw [List.size_toArray,List.length_take,List.length_drop,Array.length_toList]
  omega
 have hj:sIx items.size items.size hi≤items.size:=sIx_le _ _ (Nat.le_refl _) hi
 obtain ⟨os,hos,hcs,hds⟩:=id hs
 have hTs:s.TypeIs (.ref sl) "slice":=⟨os,hos,hcs⟩
 unfold getItem
 try with_reducible refine wpAny_holding ?_
 first|refine wpAny_bind (wpAny_pure ?_)|skip
 refine wpAny_bind (wpAny_sequenceKey ht.typeIs (by decide) ?_)
 refine wpAny_bind (wpAny_callSpecial?_slot (name:=Str.ofString "__getitem__") ht.typeIs PyProof.Rows.slot_tuple_getitem
  (wpAny_call_entry PyProof.Rows.slot_tuple_getitem ht.typeIs entry_tuple_getitem ?_ (args_tuple_getitem _ _)))
 show wpAny _ _ (Builtin.Tuple.tupleItemsOf (.ref t) >>= _) _ _ s
 refine wpAny_bind (tupleItemsOf_ ht ?_)
 refine wpAny_bind (wpAny_typeOf hTs ?_)
 rw [if_pos (by decide)]
 refine wpAny_bind (sliceApplied_gen hs pl pu ?_)
 have hno:¬ ((((sIx items.size 0 lo:Nat):Int) == 0 && (1:Int) == 1 && (sIx items.size items.size hi - sIx items.size 0 lo) == items.size)=true):=by
  intro q
  rw [Bool.and_eq_true,Bool.and_eq_true] at q
  have q1:((sIx items.size 0 lo:Nat):Int)=0:=eq_of_beq q.1.1
  have q2:sIx items.size items.size hi - sIx items.size 0 lo=items.size:=eq_of_beq q.2
  exact hw ⟨by omega,by omega⟩
 show wpAny _ _ (if (((sIx items.size 0 lo:Nat):Int) == 0 && (1:Int) == 1 && (sIx items.size items.size hi - sIx items.size 0 lo) == items.size)=true then _ else _) _ _ s
 rw [if_neg hno,pick_gen]
 first
  | exact wpAny_bind (m:=Builtin.Tuple.tupleExact _) (wpAny_newObj_type (wpAny_pure ⟨_,rfl,wpAny_pure h⟩) htake)
  | exact wpAny_bind (m:=Builtin.Tuple.tupleExact _) (wpAny_newObj_type (wpAny_bind (wpAny_pure (wpAny_pure ⟨_,rfl,wpAny_pure h⟩))) htake)
  | exact wpAny_bind (wpAny_bind (m:=Builtin.Tuple.tupleExact _) (wpAny_newObj_type (wpAny_pure (wpAny_pure ⟨_,rfl,wpAny_pure h⟩)) htake))
  | exact wpAny_bind (wpAny_bind (m:=Builtin.Tuple.tupleExact _) (wpAny_newObj_type (wpAny_pure ⟨_,rfl,wpAny_pure h⟩) htake))
end
end HT
namespace L2
open PySem PySem.Spec PyProof.Rows
abbrev TO:=St->Hp->(Option Int->Hp->Prop)->Prop
def PO (X:Cx) (e:Option Expr) (t:TO):Prop:=
 ∀ (pins:List (Addr × Obj)) (s:Shared) (σ:St) (H:Hp) (Q:Option Int->Hp->Prop),Inv X pins σ H s->t σ H Q →
  wpAny (model X.prog X.w) X.A (evalPart e X.env) (fun u s'=>∃ o H',Inv X pins σ H' s'∧IsPart u o∧Q o H') X.xe s
def tNoPart:TO:=fun _ H Q=>Q none H
def tPart (t:TE):TO:=fun σ H Q=>t σ H fun x H1=>∃ i,x=.int i∧Q (some i) H1
section
variable {X:Cx}{e:Expr}{te:TE}{lo hi:Option Expr}{tl th:TO}{pos p2:Pos}
theorem po_none:PO X none tNoPart:=by
 intro pins s σ H Q I h
 rw [evalPart_none]
 exact wpAny_pure ⟨none,H,I,.none,h⟩
theorem po_some (h:PE X e te):PO X (some e) (tPart te):=by
 intro pins s σ H Q I hw
 rw [evalPart_some]
 refine thn (h pins s σ H _ I hw) fun u s1 ⟨x,H1,I1,r1,q1⟩=>?_
 obtain ⟨i,rfl,q⟩:=q1
 obtain ⟨t,rfl⟩:=r1
 exact ⟨some i,H1,I1,.int i t,q⟩
def SlR (X:Cx) (r:V->Option Int->Option Int->Hp->VK->Prop):Prop:=
 ∀ (pins:List (Addr × Obj)) (s:Shared) (σ:St) (H:Hp) (x:V) (v vl vu:Value) (lo hi:Option Int) (sl:Addr) (Q:VK),Inv X pins σ H s->RelV x v->s.heap.IsSliceOf sl vl vu .none->IsPart vl lo->IsPart vu hi->r x lo hi H Q →
  ∃ T id,typeLookup (.type T) "__getitem__"=pure (some (.builtin id))∧s.TypeIs v T∧wpAny (model X.prog X.w) X.A (getItem v (.ref sl)) (EP X pins σ Q) X.xe s
def tSl (r:V->Option Int->Option Int->Hp->VK->Prop) (te:TE) (tl th:TO):TE:=fun σ H Q=>te σ H fun x H1=>tl σ H1 fun l H2=>th σ H2 fun u H3=>r x l u H3 Q
theorem pe_slice {r:V->Option Int->Option Int->Hp->VK->Prop}(hr:SlR X r) (he:PE X e te) (hl:PO X lo tl) (hu:PO X hi th):PE X (.Subscript e (.Slice lo hi none p2) pos) (tSl r te tl th):=by
 intro pins s σ H Q I h
 refine Subscript_ (thn (he pins s σ H _ I h) fun v s1 ⟨x,H1,I1,r1,q1⟩=>?_)
 refine wpAny_Slice (thn (hl pins s1 σ H1 _ I1 q1) fun vl s2 ⟨l,H2,I2,pl,q2⟩=>thn (hu pins s2 σ H2 _ I2 q2) fun vu s3 ⟨u,H3,I3,pu,q3⟩=>?_)
 rw [evalPart_none]
 refine wpAny_pure ?_
 have I4:Inv X pins σ H3 { s3 with heap:=s3.heap.push { cls:=.type "slice",data:=.fields #[vl,vu,.none] } }:=I3.kept (t':=s3.toks) fun b ob q=>Heap.get?_push_of_some _ q
 obtain ⟨T,id,hT,ht,hg⟩:=hr pins { s3 with heap:=s3.heap.push { cls:=.type "slice",data:=.fields #[vl,vu,.none] } } σ H3 x v vl vu l u s3.heap.objs.size Q I4 r1 (Heap.IsSliceOf.new ..) pl pu q3
 show wpAny (model X.prog X.w) X.A (subscriptTail e (.Slice lo hi none p2) v (.ref s3.heap.objs.size)) (EP X pins σ Q) X.xe { s3 with heap:=s3.heap.push { cls:=.type "slice",data:=.fields #[vl,vu,.none] } }
 exact tail_any (ops:=[.ref s3.heap.objs.size,v]) ht hT hg (by with_unfolding_all rfl)
def cutV (xs:List V) (lo hi:Option Int):List V:=(xs.drop (HT.sIx xs.length 0 lo)).take (HT.sIx xs.length xs.length hi - HT.sIx xs.length 0 lo)
theorem cutV_length (xs:List V) (lo hi:Option Int):(cutV xs lo hi).length≤xs.length:=by
 unfold cutV
 rw [List.length_take,List.length_drop]
 omega
def rSlT (K:PySem.W.Frag):V->Option Int->Option Int->Hp->VK->Prop:=fun x lo hi H Q=>∃ a xs,x=.ref a∧SqT K H a xs ∧
 ¬ (HT.sIx xs.length 0 lo=0∧HT.sIx xs.length xs.length hi=xs.length)∧∀ p,H p=none->Q (.ref p) (upd H p (.tup (cutV xs lo hi)))
theorem sl_tup:SlR X (rSlT X.K):=by
 intro pins s σ H x v vl vu lo hi sl Q I rx hs pl pu h
 obtain ⟨a,xs,rfl,hx,hw,q⟩:=h
 cases rx
 obtain ⟨its,r,ht,hz⟩:=I.tuple hx
 have hlen:its.toArray.size=xs.length:=by rw [List.size_toArray];exact r.length.symm
 refine ⟨"tuple",_,PyProof.Rows.slot_tuple_getitem.lookup,ht.typeIs,?_⟩
 refine HT.getItem_tuple_cut ht hs pl pu (by rw [hlen];exact hw) ?_ (by rw [hlen];exact hz)
 rw [hlen]
 refine ⟨.ref s.heap.objs.size,_,I.laid (t':=s.toks) (o:=.tup (cutV xs lo hi)) (fun b ob q=>Heap.get?_push_of_some _ q) (Nat.le_refl _) ?_,rfl,q _ (I.hok.fresh (Nat.le_refl _))⟩
 exact ⟨Nat.le_trans (cutV_length xs lo hi) hz,_,(r.drop (HT.sIx xs.length 0 lo)).take (HT.sIx xs.length xs.length hi - HT.sIx xs.length 0 lo),IsTup.new _ _⟩
def rCatT (K:PySem.W.Frag):R2:=fun x y H Q=>∃ a b xs ys,x=.ref a∧y=.ref b∧SqT K H a xs∧SqT K H b ys∧xs ≠ []∧xs.length+ys.length≤sizeLine ∧
 (ys=[]->Q (.ref a) H)∧(ys ≠ []->∀ p,H p=none->Q (.ref p) (upd H p (.tup (xs++ys))))
theorem Vals.nil_iff {xs:List V}{us:List Value}(r:Vals xs us):us=[] ↔ xs=[]:=by
 cases r with
 | nil=>simp
 | cons _ _=>simp
theorem op_catT:OpR X (binaryOp .Add) (rCatT X.K):=by
 intro pins s σ H x y v u Q I rx ry h
 obtain ⟨a,b,xs,ys,rfl,rfl,ha,hb,hx,hz,q1,q2⟩:=h
 cases rx
 cases ry
 obtain ⟨its,r1,p1,_⟩:=I.tuple ha
 obtain ⟨its2,r2,p2,_⟩:=I.tuple hb
 refine HT.cat_tup p1 p2 (fun z=>hx (r1.nil_iff.mp z)) (fun z=>⟨.ref a,H,I,rfl,q1 (r2.nil_iff.mp z)⟩) (fun z=>?_) (by rw [←r1.length,←r2.length];exact hz)
 refine ⟨.ref s.heap.objs.size,_,I.laid (t':=s.toks) (o:=.tup (xs++ys)) (fun b ob q=>Heap.get?_push_of_some _ q) (Nat.le_refl _) ?_,rfl,q2 (fun w=>z (r2.nil_iff.mpr w)) _ (I.hok.fresh (Nat.le_refl _))⟩
 exact ⟨by rw [List.length_append];exact hz,_,r1.append r2,IsTup.new _ _⟩
end
end L2
namespace L2
open PySem PySem.Spec PyProof.Rows
def ixN (n:Nat) (i:Int):Option Nat:=if 0≤i then (if i < n then some i.toNat else none) else if -(n:Int)≤i then some (i+n).toNat else none
def atI {α:Type}(xs:List α) (i:Int):Option α:=(ixN xs.length i).bind fun j=>xs[j]?
theorem ixN_seq {n:Nat}{i:Int}{j:Nat}(h:ixN n i=some j):seqIndex? i n=some j∧j < n∧-(n:Int)≤i∧i < n:=by
 unfold ixN at h
 by_cases h0:0≤i
 ·rw [if_pos h0] at h
  by_cases h1:i < n
  ·rw [if_pos h1] at h
   have e:i.toNat=j:=Option.some.inj h
   exact ⟨by rw [seqIndex_of h0 h1,e],by omega,by omega,h1⟩
  ·rw [if_neg h1] at h;cases h
 ·rw [if_neg h0] at h
  by_cases h1:-(n:Int)≤i
  ·rw [if_pos h1] at h
   have e:(i+n).toNat=j:=Option.some.inj h
   exact ⟨by rw [seqIndex_neg (by omega) h1,e],by omega,h1,by omega⟩
  ·rw [if_neg h1] at h;cases h
theorem atI_get {α:Type}{xs:List α}{i:Int}{v:α}(h:atI xs i=some v):∃ j,seqIndex? i xs.length=some j∧xs[j]? = some v∧j < xs.length∧-(xs.length:Int)≤i∧i < xs.length:=by
 unfold atI at h
 cases e:ixN xs.length i with
 | none=>rw [e] at h;cases h
 | some j=>
  rw [e] at h
  obtain ⟨h1,h2,h3,h4⟩:=ixN_seq e
  exact ⟨j,h1,h,h2,h3,h4⟩
theorem atI_nat {α:Type}{xs:List α}{j:Nat}{v:α}(h:xs[j]? = some v):atI xs (j:Int)=some v:=by
 have hj:j < xs.length:=(List.getElem?_eq_some_iff.mp h).1
 have e:ixN xs.length (j:Int)=some j:=by
  unfold ixN
  rw [if_pos (by omega),if_pos (by omega)];simp
 unfold atI;rw [e];exact h
theorem atI_last {α:Type}(xs:List α) (v:α):atI (xs++[v]) (-1)=some v:=by
 have hl:(xs++[v]).length=xs.length+1:=by simp
 have e:ixN (xs++[v]).length (-1)=some xs.length:=by
  unfold ixN
  rw [hl,if_neg (by decide),if_pos (by omega)]
  congr 1
  omega
 unfold atI
 rw [e]
 show (xs++[v])[xs.length]? = some v
 simp
def PlainIx (b:Expr):Prop:=∀ o i,subscripted b false o i=operate [o,i] (getItem o i)
def IxR (X:Cx) (r:R2):Prop:=
 ∀ (value slice:Expr) (pins:List (Addr × Obj)) (s:Shared) (σ:St) (H:Hp) (x y:V) (v u:Value) (Q:VK),Inv X pins σ H s->RelV x v->RelV y u->r x y H Q →
  subscripted slice false v u=operate [v,u] (getItem v u)->wpAny (model X.prog X.w) X.A (subscriptTail value slice v u) (EP X pins σ Q) X.xe s
def MtR (X:Cx) (id:String) (r:V->List V->Hp->VK->Prop):Prop:=
 ∀ (pins:List (Addr × Obj)) (s:Shared) (σ:St) (H:Hp) (x:V) (xs:List V) (v:Value) (us:List Value) (Q:VK),Inv X pins σ H s->RelV x v->Vals xs us->r x xs H Q →
  wpAny (model X.prog X.w) X.A (call (.builtin id) (v::us)) (EP X pins σ Q) X.xe s
section
variable {X:Cx}{a b:Expr}{ta tb:TE}{pos:Pos}
theorem IxR.or {r r':R2}(h:IxR X r) (h':IxR X r'):IxR X (fun x y H Q=>r x y H Q∨r' x y H Q):=by
 intro value slice pins s σ H x y v u Q I rx ry q hs
 rcases q with q|q
 ·exact h value slice pins s σ H x y v u Q I rx ry q hs
 ·exact h' value slice pins s σ H x y v u Q I rx ry q hs
theorem pe_ix {r:R2}(hr:IxR X r) (ha:PE X a ta) (hb:PE X b tb) (hs:PlainIx b):PE X (.Subscript a b pos) (tOp r ta tb):=by
 intro pins s σ H Q I h
 exact Subscript_ (binT ha hb I h fun v u s2 x y H2 I2 rx ry q=>hr a b pins s2 σ H2 x y v u Q I2 rx ry q (hs _ _))
def rIxL (K:PySem.W.Frag):R2:=fun x y H Q=>∃ p xs i v,x=.ref p∧y=.int i∧SqL K H p xs∧atI xs i=some v∧Q v H
def rIxT (K:PySem.W.Frag):R2:=fun x y H Q=>∃ p xs i v,x=.ref p∧y=.int i∧SqT K H p xs∧atI xs i=some v∧Q v H
theorem ix_list:IxR X (rIxL X.K):=by
 intro value slice pins s σ H x y v u Q I rx ry h hs
 obtain ⟨p,xs,i,z,rfl,rfl,hq,he,q⟩:=h
 cases rx
 obtain ⟨t,rfl⟩:=ry
 obtain ⟨its,r,pl,hz⟩:=I.list hq
 obtain ⟨j,h1,h2,h3,h4,h5⟩:=atI_get he
 obtain ⟨w,ew,rw'⟩:=r.get h2
 have hl:=r.length
 have hn:=line63
 have fin:EP X pins σ Q w s:=⟨z,H,I,rw',q⟩
 by_cases h0:0≤i
 ·have hj:i.toNat=j:=by
   rw [seqIndex_of h0 h5] at h1
   exact Option.some.inj h1
  exact item_listR pl.isList h0 (by omega) (by rw [hj];simpa using ew) fin hs
 ·have hj:(i+(its.toArray.size:Int)).toNat=j:=by
   rw [seqIndex_neg (by omega) h4] at h1
   rw [List.size_toArray,←hl]
   exact Option.some.inj h1
  exact subscriptTail_builtinR (x:=w) pl.isList.typeIs slot_list_getitem.lookup
   (wpAny_getItem_list_neg (Q:=fun r s'=>r=w∧EP X pins σ Q r s') pl.isList (by omega) (by rw [List.size_toArray]<;>omega) (by omega) (by rw [hj];simpa using ew) ⟨rfl,fin⟩) hs
theorem ix_tup:IxR X (rIxT X.K):=by
 intro value slice pins s σ H x y v u Q I rx ry h hs
 obtain ⟨p,xs,i,z,rfl,rfl,hq,he,q⟩:=h
 cases rx
 obtain ⟨t,rfl⟩:=ry
 obtain ⟨its,r,pl,hz⟩:=I.tuple hq
 obtain ⟨j,h1,h2,h3,h4,h5⟩:=atI_get he
 obtain ⟨w,ew,rw'⟩:=r.get h2
 have hl:=r.length
 have hn:=line63
 have fin:EP X pins σ Q w s:=⟨z,H,I,rw',q⟩
 exact subscriptTail_builtinR (x:=w) pl.typeIs slot_tuple_getitem.lookup
  (getItem_tuple (j:=j) (Q:=fun r s'=>r=w∧EP X pins σ Q r s') pl (by omega) (by omega) (by rw [List.size_toArray,←hl];exact h1) (by simpa using ew) ⟨rfl,fin⟩) hs
theorem slice_bounds (lo hi:Option Int) (n:Nat):(sliceBounds lo hi none n).1=((HT.sIx n 0 lo:Nat):Int)∧(sliceBounds lo hi none n).2.1=((HT.sIx n n hi:Nat):Int)∧(sliceBounds lo hi none n).2.2=1:=by
 refine ⟨?_,?_,rfl⟩
 ·cases lo with
  | none=>simp [sliceBounds,HT.sIx]
  | some i=>
   simp only [sliceBounds,HT.sIx,Option.getD_none,show (1:Int) > 0 by decide,if_true]
   by_cases h:i < 0
   ·simp only [h,if_true]<;>omega
   ·simp only [h,if_false]<;>omega
 ·cases hi with
  | none=>simp [sliceBounds,HT.sIx]
  | some i=>
   simp only [sliceBounds,HT.sIx,Option.getD_none,show (1:Int) > 0 by decide,if_true]
   by_cases h:i < 0
   ·simp only [h,if_true]<;>omega
   ·simp only [h,if_false]<;>omega
theorem slicePick_cut (its:List Value) (lo hi:Option Int):slicePick its.toArray lo hi none=((its.drop (HT.sIx its.length 0 lo)).take (HT.sIx its.length its.length hi - HT.sIx its.length 0 lo)).toArray:=by
 obtain ⟨h1,h2,h3⟩:=slice_bounds lo hi its.toArray.size
 unfold slicePick
 rw [h1,h2,h3]
 simp only [sliceRange_one,pick_run,List.size_toArray]<;>rfl
def rSlL (K:PySem.W.Frag):V->Option Int->Option Int->Hp->VK->Prop:=fun x lo hi H Q=>∃ a xs,x=.ref a∧SqL K H a xs∧∀ p,H p=none->Q (.ref p) (upd H p (.lst (cutV xs lo hi)))
theorem sl_list:SlR X (rSlL X.K):=by
 intro pins s σ H x v vl vu lo hi sl Q I rx hs pl pu h
 obtain ⟨a,xs,rfl,hx,q⟩:=h
 cases rx
 obtain ⟨its,r,ht,hz⟩:=I.list hx
 have hlen:=r.length
 refine ⟨"list",_,slot_list_getitem.lookup,ht.isList.typeIs,?_⟩
 refine wpAny_getItem_list_slice ht.isList hs pl pu .none (by simp) ?_ (by rw [List.size_toArray]<;>omega)
 rw [slicePick_cut,←hlen]
 refine ⟨.ref s.heap.objs.size,_,I.laid (t':=s.toks) (o:=.lst (cutV xs lo hi)) (fun b ob q=>Heap.get?_push_of_some _ q) (Nat.le_refl _) ?_,rfl,q _ (I.hok.fresh (Nat.le_refl _))⟩
 exact ⟨Nat.le_trans (cutV_length xs lo hi) hz,_,0,(r.drop (HT.sIx xs.length 0 lo)).take (HT.sIx xs.length xs.length hi - HT.sIx xs.length 0 lo),Heap.get?_push_size _ rfl⟩
def flatV:V->Bool
 | .non=>true
 | .bl _=>true
 | .int _=>true
 | .str _=>true
 | _=>false
def eqV:V->V->Bool
 | .non,.non=>true
 | .bl a,.bl b=>a == b
 | .bl a,.int b=>(if a then 1 else 0) == b
 | .int a,.bl b=>a == (if b then 1 else 0)
 | .int a,.int b=>a == b
 | .str a,.str b=>a == b
 | _,_=>false
theorem eqAt_V {A:Around}{s:Shared}{y x:V}{u v:Value}(ry:RelV y u) (rx:RelV x v) (fy:flatV y=true) (fx:flatV x=true):SeqAt.EqAt A s u v (eqV y x):=by
 cases y with
 | non=>
  cases ry
  cases x with
  | non=>cases rx;exact SeqAt.EqAt.same _
  | bl b=>cases rx;exact SeqAt.EqAt.none_bool b
  | int b=>obtain ⟨t,rfl⟩:=rx;exact SeqAt.EqAt.none_int b t
  | str b=>obtain ⟨t,rfl⟩:=rx;exact SeqAt.EqAt.none_str b t
  | _=>exact absurd (show false=true from fx) Bool.false_ne_true
 | bl a=>
  cases ry
  cases x with
  | non=>cases rx;exact SeqAt.EqAt.bool_none a
  | bl b=>cases rx;exact SeqAt.EqAt.bool_bool a b
  | int b=>obtain ⟨t,rfl⟩:=rx;exact SeqAt.EqAt.bool_int a b t
  | str b=>obtain ⟨t,rfl⟩:=rx;exact SeqAt.EqAt.bool_str a b t
  | _=>exact absurd (show false=true from fx) Bool.false_ne_true
 | int a=>
  obtain ⟨t',rfl⟩:=ry
  cases x with
  | non=>cases rx;exact SeqAt.EqAt.int_none a t'
  | bl b=>cases rx;exact SeqAt.EqAt.int_bool a t' b
  | int b=>obtain ⟨t,rfl⟩:=rx;exact SeqAt.EqAt.int_int a t' b t
  | str b=>obtain ⟨t,rfl⟩:=rx;exact SeqAt.EqAt.int_str a t' b t
  | _=>exact absurd (show false=true from fx) Bool.false_ne_true
 | str a=>
  obtain ⟨t',rfl⟩:=ry
  cases x with
  | non=>cases rx;exact SeqAt.EqAt.str_none a t'
  | bl b=>cases rx;exact SeqAt.EqAt.str_bool a t' b
  | int b=>obtain ⟨t,rfl⟩:=rx;exact SeqAt.EqAt.str_int a t' b t
  | str b=>obtain ⟨t,rfl⟩:=rx;exact SeqAt.EqAt.str_str a t' b t
  | _=>exact absurd (show false=true from fx) Bool.false_ne_true
 | _=>exact absurd (show false=true from fy) Bool.false_ne_true
def eqU (x:V) (u:Value):Bool:=match u with
 | .none=>eqV .non x
 | .bool b=>eqV (.bl b) x
 | .int i _=>eqV (.int i) x
 | .str z _=>eqV (.str z) x
 | _=>false
theorem eqU_of {x y:V}{u:Value}(r:RelV y u) (f:flatV y=true):eqU x u=eqV y x:=by
 cases y with
 | non=>cases r;rfl
 | bl b=>cases r;rfl
 | int i=>obtain ⟨t,rfl⟩:=r;rfl
 | str z=>obtain ⟨t,rfl⟩:=r;rfl
 | _=>exact absurd (show false=true from f) Bool.false_ne_true
theorem any_eqU {x:V}:∀ {xs:List V}{us:List Value},Vals xs us->xs.all flatV=true->us.any (eqU x)=xs.any fun y=>eqV y x
 | _,_,.nil,_=>rfl
 | y::xs,u::us,.cons r t,f=>by
  rw [List.all_cons,Bool.and_eq_true] at f
  rw [List.any_cons,List.any_cons,eqU_of r f.1,any_eqU t f.2]
theorem mem_eqAt {A:Around}{s:Shared}{x:V}{v:Value}(rx:RelV x v) (fx:flatV x=true):∀ {xs:List V}{us:List Value},Vals xs us->xs.all flatV=true->∀ u∈us,SeqAt.EqAt A s u v (eqU x u)
 | _,_,.nil,_=>fun u hu=>by cases hu
 | y::xs,u::us,.cons r t,f=>fun u' hu=>by
  rw [List.all_cons,Bool.and_eq_true] at f
  rcases List.mem_cons.mp hu with rfl|hu
  ·rw [eqU_of r f.1];exact eqAt_V r rx f.1 fx
  ·exact mem_eqAt rx fx t f.2 u' hu
def inV (x:V) (xs:List V):Bool:=xs.any fun y=>eqV y x
def rIn (K:PySem.W.Frag) (neg:Bool):R2:=fun x y H Q=>∃ p xs,y=.ref p∧(SqL K H p xs∨SqT K H p xs)∧flatV x=true∧xs.all flatV=true∧Q (.bl (if neg then !inV x xs else inV x xs)) H
theorem op_in_seq:OpR X (compareOp .In) (rIn X.K false):=by
 intro pins s σ H x y v u Q I rx ry h
 obtain ⟨p,xs,rfl,hq,fx,fs,q⟩:=h
 cases ry
 rcases hq with hq|hq
 ·obtain ⟨its,r,pl,hz⟩:=I.list hq
  refine SeqAt.in_listAt (eqU x) pl.isList (fun w hw=>mem_eqAt rx fx r fs w (by simpa using hw)) ⟨.bl _,H,I,rfl,?_⟩
  rw [show its.toArray.any (eqU x)=its.any (eqU x) by simp,any_eqU r fs]
  exact q
 ·obtain ⟨its,r,pl,hz⟩:=I.tuple hq
  refine SeqAt.in_tupleAt (eqU x) pl (fun w hw=>mem_eqAt rx fx r fs w (by simpa using hw)) ⟨.bl _,H,I,rfl,?_⟩
  rw [show its.toArray.any (eqU x)=its.any (eqU x) by simp,any_eqU r fs]
  exact q
theorem op_notIn_seq:OpR X (compareOp .NotIn) (rIn X.K true):=by
 intro pins s σ H x y v u Q I rx ry h
 obtain ⟨p,xs,rfl,hq,fx,fs,q⟩:=h
 cases ry
 rcases hq with hq|hq
 ·obtain ⟨its,r,pl,hz⟩:=I.list hq
  refine SeqAt.notIn_listAt (eqU x) pl.isList (fun w hw=>mem_eqAt rx fx r fs w (by simpa using hw)) ⟨.bl _,H,I,rfl,?_⟩
  rw [show its.toArray.any (eqU x)=its.any (eqU x) by simp,any_eqU r fs]
  exact q
 ·obtain ⟨its,r,pl,hz⟩:=I.tuple hq
  refine SeqAt.notIn_tupleAt (eqU x) pl (fun w hw=>mem_eqAt rx fx r fs w (by simpa using hw)) ⟨.bl _,H,I,rfl,?_⟩
  rw [show its.toArray.any (eqU x)=its.any (eqU x) by simp,any_eqU r fs]
  exact q
theorem call_len_seq:CallR X (.builtin "len") (fun xs H Q=>∃ p ys,xs=[.ref p]∧(SqL X.K H p ys∨SqT X.K H p ys)∧Q (.int ys.length) H):=by
 intro pins s σ H xs us Q I r h
 obtain ⟨p,ys,rfl,hq,q⟩:=h
 obtain ⟨u,rfl,rx⟩:=vals1 r
 cases rx
 have hn:=line63
 rcases hq with hq|hq
 ·obtain ⟨its,r',pl,hz⟩:=I.list hq
  have hlen:=r'.length
  exact Calls.call_len_list pl.isList (by simp only [List.size_toArray]<;>omega) ⟨.int ys.length,H,I.tok _,⟨s.toks+1,by rw [List.size_toArray,hlen]⟩,q⟩
 ·obtain ⟨its,r',pl,hz⟩:=I.tuple hq
  have hlen:=r'.length
  exact len_tuple pl (by simp only [List.size_toArray]<;>omega) ⟨.int ys.length,H,I.tok _,⟨s.toks+1,by rw [List.size_toArray,hlen]⟩,q⟩
theorem call_len_str:CallR X (.builtin "len") (fun xs H Q=>∃ z,xs=[.str z]∧z.length≤sizeLine∧Q (.int z.length) H):=by
 intro pins s σ H xs us Q I r h
 obtain ⟨z,rfl,hz,q⟩:=h
 obtain ⟨u,rfl,t,rfl⟩:=vals1 r
 have hn:=line63
 exact len_str (by omega) ⟨.int z.length,H,I.tok _,⟨_,rfl⟩,q⟩
theorem CallR.or {f:Value}{r r':List V->Hp->VK->Prop}(h:CallR X f r) (h':CallR X f r'):CallR X f (fun xs H Q=>r xs H Q∨r' xs H Q):=by
 intro pins s σ H xs us Q I rs q
 rcases q with q|q
 ·exact h pins s σ H xs us Q I rs q
 ·exact h' pins s σ H xs us Q I rs q
theorem call_tuple_of:CallR X (.type "tuple") (fun xs H Q=>∃ p ys,xs=[.ref p]∧((SqL X.K H p ys∧∀ l,H l=none->Q (.ref l) (upd H l (.tup ys)))∨(SqT X.K H p ys∧Q (.ref p) H))):=by
 intro pins s σ H xs us Q I r h
 obtain ⟨p,ys,rfl,h⟩:=h
 obtain ⟨u,rfl,rx⟩:=vals1 r
 cases rx
 rcases h with ⟨hq,q⟩|⟨hq,q⟩
 ·obtain ⟨its,r',pl,hz⟩:=I.list hq
  have hlen:=r'.length
  refine call_tuple_list pl.isList (fun h' kp=>?_) (by simp only [List.size_toArray]<;>omega)
  have I1:Inv X pins σ H { s with heap:=h' }:=I.kept (t':=s.toks) kp
  have I2:Inv X pins σ (upd H h'.objs.size (.tup ys)) { s with heap:=h'.push { cls:=.type "tuple",data:=.seq its.toArray } }:=
   I1.laid (t':=s.toks) (fun b o e=>Heap.get?_push_of_some _ e) (Nat.le_refl _) (show ObjOk X.prog X.w _ _ _ (.tup ys) from ⟨hz,its,r',IsTup.new _ _⟩)
  exact ⟨.ref h'.objs.size,_,I2,rfl,q _ (I1.hok.fresh (Nat.le_refl _))⟩
 ·obtain ⟨its,r',pl,hz⟩:=I.tuple hq
  exact call_tuple_same pl ⟨.ref p,H,I,rfl,q⟩
def tyV (K:PySem.W.Frag) (T:String) (x:V) (H:Hp):Prop:=match x with
 | .str _=>T = "str"
 | .int _=>T = "int"
 | .ref p=>(T = "list" ∧ ∃ xs,SqL K H p xs)∨(T = "tuple" ∧ ∃ o,K.lookup p=some o∧o.cls=.type "tuple" ∧ o.dict=none) ∨
   (T = "dict" ∧ ((∃ kvs,H p=some (.dK kvs))∨∃ kvs,H p=some (.dT kvs)))∨(T = "set" ∧ ∃ S n,H p=some (.set S n))
 | _=>False
theorem tyV_is {pins:List (Addr × Obj)}{σ:St}{H:Hp}{s:Shared}{T:String}{x:V}{v:Value}(I:Inv X pins σ H s) (r:RelV x v) (ty:tyV X.K T x H) :
  s.TypeIs v T∧∀ a,v=.ref a->∃ ob,s.heap.get? a=some ob∧ob.dict=none:=by
 cases x with
 | str z=>
  obtain ⟨t,rfl⟩:=r
  cases (show T = "str" from ty)
  exact ⟨typeIs_str s z t,fun _ e=>nomatch e⟩
 | int i=>
  obtain ⟨t,rfl⟩:=r
  cases (show T = "int" from ty)
  exact ⟨typeIs_int s i t,fun _ e=>nomatch e⟩
 | ref p=>
  cases r
  rcases ty with ⟨rfl,xs,hq⟩|⟨rfl,o,hk,hc,hd⟩|⟨rfl,hk⟩|⟨rfl,S,n,hk⟩
  ·obtain ⟨its,_,pl,_⟩:=I.list hq
   refine ⟨pl.isList.typeIs,fun a e=>?_⟩
   cases e
   obtain ⟨o,n,e,c,hd,_⟩:=pl
   exact ⟨o,e,hd⟩
  ·refine ⟨⟨o,I.kIn p o hk,hc⟩,fun a e=>?_⟩
   cases e
   exact ⟨o,I.kIn _ o hk,hd⟩
  ·have z:∃ o,s.heap.get? p=some o∧o.ExactDict:=by
    rcases hk with ⟨kvs,hk⟩|⟨kvs,hk⟩
    ·obtain ⟨_,_,_,_,o,_,_,e,ex,_⟩:=I.hok p _ hk
     exact ⟨o,e,ex⟩
    ·obtain ⟨_,_,_,_,o,_,_,e,ex,_⟩:=I.hok p _ hk
     exact ⟨o,e,ex⟩
   obtain ⟨o,e,ex⟩:=z
   refine ⟨⟨o,e,ex.1⟩,fun a e2=>?_⟩
   cases e2
   exact ⟨o,e,ex.2.1⟩
  ·obtain ⟨o,_,_,_,e,ex,_⟩:=I.hok p _ hk
   refine ⟨⟨o,e,ex.1⟩,fun a e2=>?_⟩
   cases e2
   exact ⟨o,e,ex.2.1⟩
 | _=>exact False.elim ty
def tBM0 (K:PySem.W.Frag) (T:String) (r:V->List V->Hp->VK->Prop) (to:TE):TE:=fun σ H Q=>to σ H fun x H1=>tyV K T x H1∧r x [] H1 Q
def tBM (K:PySem.W.Frag) (T:String) (r:V->List V->Hp->VK->Prop) (to:TE) (t:TA):TE:=fun σ H Q=>to σ H fun x H1=>tyV K T x H1∧t σ H1 fun xs H2=>r x xs H2 Q
variable {o e:Expr}{es:List Expr}{to:TE}{t:TA}{name:Str}{apos cpos:Pos}{T id:String}{r:V->List V->Hp->VK->Prop}
theorem pe_bm0 (pa:PlainAttrs T) (slot:Slot T name id) (hty:typeOf (.builtin id)=pure (.type "method_descriptor")) (hm:MtR X id r) (ho:PE X o to)
  (hbase:attributeBase o name X.env (eval o X.env)=eval o X.env:=by rfl) (hline:(apos.endLine == cpos.line)=true:=by rfl):PE X (.Call (.Attribute o name apos) [] [] cpos) (tBM0 X.K T r to):=by
 intro pins s σ H Q I h
 refine wpAny_Call_method0_late hbase hline (thn (ho pins s σ H _ I h) fun v s1 ⟨x,H1,I1,r1,ty,q1⟩=>?_)
 obtain ⟨h1,h2⟩:=tyV_is I1 r1 ty
 exact ⟨T,id,pa,slot,hty,h1,h2,Calls.callWith_builtin rfl (PySem.evalArgs_none (hm pins s1 σ H1 x [] v [] Q I1 r1 .nil q1))⟩
theorem pe_bm (pa:PlainAttrs T) (slot:Slot T name id) (hty:typeOf (.builtin id)=pure (.type "method_descriptor")) (hm:MtR X id r) (ho:PE X o to) (ha:PA X (e::es) t)
  (hbase:attributeBase o name X.env (eval o X.env)=eval o X.env:=by rfl)
  (hfew:((backTo cpos (starEach (e::es) X.env)).all (fun x=>!x.1) && (backToKw cpos (keywordEach [] X.env)).all (fun x=>x.1.isSome)
   && decide ((e::es).length+([]:List Keyword).length+(if ([]:List Keyword).isEmpty then 0 else 1) < 30))=true:=by rfl)
  (hline:(apos.endLine == cpos.line)=true:=by rfl) (hs:starEach (e::es) X.env=(false,eval e X.env)::starEach es X.env:=by rfl) (hplain:(backTo cpos (starEach es X.env)).any (·.1)=false:=by rfl) :
  PE X (.Call (.Attribute o name apos) (e::es) [] cpos) (tBM X.K T r to t):=by
 intro pins s σ H Q I h
 refine wpAny_Call_method_late hbase hfew hline rfl (thn (ho pins s σ H _ I h) fun v s1 ⟨x,H1,I1,r1,ty,q1⟩=>?_)
 obtain ⟨h1,h2⟩:=tyV_is I1 r1 ty
 refine ⟨T,id,pa,slot,hty,h1,h2,?_⟩
 have hA:=ha cpos pins s1 σ H1 _ I1 q1
 rw [hs] at hA ⊢
 refine Calls.callWith_builtin (by show (false || (backTo cpos (starEach es X.env)).any (·.1))=false;rw [hplain]<;>rfl) (Calls.evalArgs_plain ?_)
 exact thn hA fun us s2 ⟨vs,H2,I2,r2,q2⟩=>hm pins s2 σ H2 x vs v us Q I2 r1 r2 q2
/- xs.append(e),list.index on a module's tuple .. are MtR facts of 06m -/
end
end L2
namespace L2
open PySem PySem.Spec PyProof.Rows
def MtM (X:Cx) (id:String) (r:V->List V->Hp->VK->Prop):Prop:=
 ∀ (pins:List (Addr × Obj)) (s:Shared) (σ:St) (H:Hp) (x:V) (xs:List V) (v:Value) (us:List Value) (Q:VK),Inv X pins σ H s->RelV x v->Vals xs us->r x xs H Q →
  wpAny (model X.prog X.w) X.A (call (.builtin id) (v::us)) (EP X pins σ Q) X.xe s
theorem Vals.one:∀ {x:V}{us:List Value},Vals [x] us->∃ u,us=[u]∧RelV x u
 | _,_,.cons r .nil=>⟨_,rfl,r⟩
theorem Vals.zero:∀ {us:List Value},Vals [] us->us=[]
 | _,.nil=>rfl
theorem Vals.dropLast {xs:List V}{us:List Value}(h:Vals xs us):Vals xs.dropLast us.dropLast:=by
 induction h with
 | nil=>exact .nil
 | cons r t ih=>
  cases t with
  | nil=>exact .nil
  | cons q t'=>exact .cons r ih
theorem erase_last {α:Type}(l:List α):l.eraseIdx (l.length - 1)=l.dropLast:=by
 induction l with
 | nil=>rfl
 | cons a r ih=>
  cases r with
  | nil=>rfl
  | cons b r=>
   have e:(a::b::r).length - 1=((b::r).length - 1)+1:=by
    have h1:(a::b::r).length=r.length+2:=rfl
    have h2:(b::r).length=r.length+1:=rfl
    omega
   rw [e,List.eraseIdx_cons_succ,ih]
   all_goals rfl
section
variable {X:Cx}{pins:List (Addr × Obj)}{σ:St}{H:Hp}{s:Shared}{l b:Addr}{xs ys zs:List V}
theorem Inv.lset {its its':List Value}{n:Nat}{f:Array Value->Array Value}{t':Nat}(I:Inv X pins σ H s) (hH:H l=some (.lst xs))
  (e:s.heap.get? l=some { cls:=.type "list",data:=.seq its.toArray n }) (hf:f its.toArray=its'.toArray) (hv:Vals ys its') (hz:ys.length≤sizeLine) :
  Inv X pins σ (upd H l (.lst ys)) { s with heap:=s.heap.update l (Obj.mapSeq f),toks:=t' }:=by
 have q:=PySem.IsL.update e f
 rw [hf] at q
 refine I.write (x:=l) (e:=l) (by rw [hH];exact trivial) (.inl rfl) (fun b' u hb hu=>(Heap.get?_update_other s.heap (Obj.mapSeq f) (Ne.symm hb)).trans hu) ⟨_,q⟩ ?_
 exact ⟨hz,its',_,hv,q⟩
theorem Inv.lnew {its:List Value}{t':Nat}(I:Inv X pins σ H s) (hv:Vals ys its) (hz:ys.length≤sizeLine) :
  Inv X pins σ (upd H s.heap.objs.size (.lst ys)) { s with heap:=s.heap.push { cls:=.type "list",data:=.seq its.toArray },toks:=t' }:=
 I.laid (fun _ _ q=>Heap.get?_push_of_some _ q) (Nat.le_refl _) ⟨hz,its,0,hv,Heap.get?_push_size _ rfl⟩
theorem Inv.fresh (I:Inv X pins σ H s):H s.heap.objs.size=none:=I.hok.fresh (Nat.le_refl _)
theorem Inv.lstM (I:Inv X pins σ H s) (hH:H l=some (.lst xs)):xs.length≤sizeLine∧∃ (its:List Value) (n:Nat),Vals xs its∧xs.length=its.length∧s.heap.get? l=some { cls:=.type "list",data:=.seq its.toArray n }:=by
 obtain ⟨z,its,n,r,e⟩:=I.hok l _ hH
 exact ⟨z,its,n,r,r.length,e⟩
theorem notLongL {n:Nat}(h:n≤sizeLine):Builtin.List.listTooLong n=false:=by
 unfold Builtin.List.listTooLong
 exact decide_eq_false (by omega)
end
section
variable {X:Cx}
def rAppend:V->List V->Hp->VK->Prop:=fun x vs H Q=>∃ l xs y,x=.ref l∧vs=[y]∧H l=some (.lst xs)∧xs.length < sizeLine∧Q .non (upd H l (.lst (xs++[y])))
theorem mt_append:MtM X "list.append" rAppend:=by
 intro pins s σ H x vs v us Q I rx rv h
 obtain ⟨l,xs,y,rfl,rfl,hH,hz,q⟩:=h
 cases rx
 obtain ⟨u,rfl,ru⟩:=rv.one
 obtain ⟨z,its,n,r,hl,e⟩:=I.lstM hH
 refine call_meets F.slot_list_append ⟨_,e,rfl⟩ F.entry_list_append (F.args_list_append_2 _ _) (PySem.list_append l its.toArray n u (by rw [List.size_toArray];omega)) ⟨e,?_⟩
 refine ⟨.non,_,I.lset (its':=its++[u]) hH e (by simp) (r.append (.cons ru .nil)) ?_,rfl,q⟩
 rw [List.length_append,List.length_singleton]
 omega
def rExtend:V->List V->Hp->VK->Prop:=fun x vs H Q=>∃ l b xs zs,x=.ref l∧vs=[.ref b]∧H l=some (.lst xs)∧H b=some (.lst zs)∧xs.length+zs.length≤sizeLine∧Q .non (upd H l (.lst (xs++zs)))
theorem mt_extend:MtM X "list.extend" rExtend:=by
 intro pins s σ H x vs v us Q I rx rv h
 obtain ⟨l,b,xs,zs,rfl,rfl,hH,hB,hz,q⟩:=h
 cases rx
 obtain ⟨u,rfl,ru⟩:=rv.one
 cases ru
 obtain ⟨z,its,n,r,hl,e⟩:=I.lstM hH
 obtain ⟨z2,its2,n2,r2,hl2,e2⟩:=I.lstM hB
 have hsz:its.toArray.size+its2.toArray.size≤sizeLine:=by rw [List.size_toArray,List.size_toArray];omega
 have hlong:¬ (!its.toArray.isEmpty && Builtin.List.listTooLong (its.toArray.size+its2.toArray.size))=true:=by
  rw [notLongL hsz,Bool.and_false]
  exact Bool.false_ne_true
 refine call_meets F.slot_list_extend ⟨_,e,rfl⟩ F.entry_list_extend (F.args_list_extend_2 _ _)
  (AutoSeq1.list_extend_list_list_0 l its.toArray n b its2.toArray n2 hlong (by rw [List.size_toArray];omega) (by omega)) ⟨e,e2,?_⟩
 refine ⟨.non,_,I.lset (its':=its++its2) hH e (by simp) (r.append r2) ?_,rfl,q⟩
 rw [List.length_append]
 omega
def rPop:V->List V->Hp->VK->Prop:=fun x vs H Q=>∃ l xs y,x=.ref l∧vs=[]∧H l=some (.lst xs)∧xs[xs.length - 1]? = some y∧Q y (upd H l (.lst xs.dropLast))
theorem mt_pop:MtM X "list.pop" rPop:=by
 intro pins s σ H x vs v us Q I rx rv h
 obtain ⟨l,xs,y,rfl,rfl,hH,hy,q⟩:=h
 cases rx
 have hus:=rv.zero
 subst hus
 obtain ⟨z,its,n,r,hl,e⟩:=I.lstM hH
 obtain ⟨u,hu,ru⟩:=r.get hy
 have hy':its.toArray[its.toArray.size - 1]? = some u:=by
  show its.toArray[its.length - 1]? = some u
  rw [←Array.getElem?_toList,←hl]
  exact hu
 refine call_meets F.slot_list_pop ⟨_,e,rfl⟩ F.entry_list_pop (F.args_list_pop_1 _) (MeetsSeq.list_pop_last l its.toArray n u hy' (by rw [List.size_toArray];omega)) ⟨e,?_⟩
 refine ⟨y,_,I.lset (its':=its.dropLast) hH e ?_ r.dropLast ?_,ru,q⟩
 ·show its.toArray.eraseIdxIfInBounds (its.toArray.size - 1)=its.dropLast.toArray
  rw [List.size_toArray,List.eraseIdxIfInBounds_toArray,erase_last]
 ·rw [List.length_dropLast]
  omega
def rCat:R2:=fun x y H Q=>∃ l b xs zs,x=.ref l∧y=.ref b∧H l=some (.lst xs)∧H b=some (.lst zs)∧xs.length+zs.length≤sizeLine∧∀ p,H p=none->Q (.ref p) (upd H p (.lst (xs++zs)))
theorem op_cat:OpR X (binaryOp .Add) rCat:=by
 intro pins s σ H x y v u Q I rx ry h
 obtain ⟨l,b,xs,zs,rfl,rfl,hH,hB,hz,q⟩:=h
 cases rx
 cases ry
 obtain ⟨z,its,n,r,hl,e⟩:=I.lstM hH
 obtain ⟨z2,its2,n2,r2,hl2,e2⟩:=I.lstM hB
 refine PySem.P.add_list e e2 ?_ (by rw [List.size_toArray,List.size_toArray];omega)
 have ea:its.toArray++its2.toArray=(its++its2).toArray:=by simp
 rw [ea]
 exact ⟨.ref _,_,I.lnew (t':=s.toks) (r.append r2) (by rw [List.length_append];omega),rfl,q _ I.fresh⟩
end
section
variable {prog:Program}{w:World}{A:Around}{E:Value->Shared->Prop}{s:Shared}
set_option maxRecDepth 100000 in
end
section
variable {X:Cx}
end
end L2
namespace Att
open PySem PySem.W PySem.Calls PyProof.Rows
theorem ints_of_wellAll {P:Params}{h:Heap}:∀ (ns:List Int) (vs:List Value),WellAll P h vs (ns.map WData.int)->IntsAre vs ns:=by
 intro ns
 induction ns with
 | nil=>
  intro vs w
  rw [List.map_nil] at w
  cases w
  exact .nil
 | cons n ns ih=>
  intro vs w
  rw [List.map_cons] at w
  cases w with
  | cons a b=>
   cases a
   exact .cons _ _ (ih _ b)
theorem script_of {l:OpenLaw}{n:Nat}(hn:l.most=some n){P:Params}{h:Heap}{args:List WData}{vals:List Value}
  (hpre:l.row.toRowW.claim.pre args=true) (hwl:WellAll P h vals args) :
  ∃ a vs ns,vals=[Value.ref a]∧args=[WData.list (ns.map WData.int)]∧h.get? a=some { cls:=.type "list",data:=.seq vs.toArray }∧IntsAre vs ns∧ns.length≤n:=by
 have hsh:WShape.hasAll [] args [.list .int]=true:=(pre_splitW hpre).1
 have hc:l.pre.holds [] { args:=args }=true:=(pre_splitW hpre).2
 obtain ⟨d,r,rfl,h1,h2⟩:=hasAllW_cons hsh
 obtain rfl:=hasAllW_nil h2
 obtain ⟨xs,rfl,h3⟩:=hasW_list h1
 obtain ⟨ns,rfl⟩:=items_int h3
 have hlen:ns.length≤n:=by
  unfold OpenLaw.pre at hc
  have h4:(WTm.not (.lt (.lit (.int (n:Int))) (.len (.arg 0)))).holds [] { args:=[.list (ns.map .int)] }=true:=by
   have h4:=(holds_andW hc).1
   rw [hn] at h4
   exact h4
  have h5:=condW_of h4 (w_not (w_lt w_lit (w_len_list (w_arg rfl))))
  rw [List.length_map] at h5
  refine Nat.le_of_not_lt fun q=>?_
  have q':(n:Int) < ((ns.length:Nat):Int):=by omega
  first
   | (rw [decide_eq_true q'] at h5;exact absurd h5 (by decide))
   | (simp at h5;omega)
 cases hwl with
 | cons w1 w2=>
  cases w2
  cases w1 with
  | list ho hall=>exact ⟨_,_,ns,rfl,rfl,ho,ints_of_wellAll ns _ hall,hlen⟩
theorem post_true (l:OpenLaw) (args:List WData):l.row.toRowW.claim.post args (.bool true) args=true:=
 postW_of (r:=l.row.toRowW) (X:=(true == true))
  (show WShape.has [] (.bool true) .bool=true by first|rfl|decide|simp [WShape.has,WShape.arms,WShape.armsAll])
  (show (WTm.eq .res (.lit (.bool true))).value [] { args:=args,res:=some (.bool true),after:=args }=some (.bool (true == true)) from w_eq_bool (w_res rfl) w_lit) rfl
theorem attach_call {l:OpenLaw}{n:Nat}{q:Program}{loose:List Str}{XP:(Str->Option Value)->Heap->Prop}{YP:World->Heap->Prop}{d:DefRec}
  (hn:l.most=some n) (hdf:d.params.defaults=[])
  (call:∀ (w:World) (s₀ s₁:Shared) (mg mb:Str->Option Value) (fa:Addr) (o:Obj) (pm cd doc:Value) (a:Addr) (vs:List Value) (ns:List Int),
   Ground q loose [] XP w s₀ mg mb s₁.heap->YP w s₁.heap →
   s₁.heap.get? fa=some o->o.data=.func (docDef d.name d.params d.body d.scope pm cd doc)->s₁.heap.CodeRec cd d.name->mg d.name=some (.ref fa) →
   s₁.heap.get? a=some { cls:=.type "list",data:=.seq vs.toArray }->IntsAre vs ns->ns.length≤n->s₁.gens=#[] →
   codeAny (model l.prog w) callerA (.call (.ref fa) ⟨[.ref a],[]⟩) (fun r s'=>r=.ok (.ret (.bool true))∧OldK s₁.heap s'.heap∧s'.os=s₁.os∧AllBare s'.gens) s₁) :
  WalkO q loose XP YP l.row.toRowW d [] (fun f vs=>PySem.call f vs):=by
 intro w s₀ s₁ mg mb G Y fa o pm cd doc dV kV ho hd hcd hD hmg hg args vals as hpre hlay hrd hwl hlo
 obtain rfl:dV=.none:=Dflts.none hD hdf
 obtain rfl:kV=.none:=Dflts.noKw hD
 obtain ⟨a,vs,ns,rfl,rfl,hobj,hints,hlen⟩:=script_of hn hpre hwl
 refine enter_call (codeAny_mono (call w s₀ s₁ mg mb fa o pm cd doc a vs ns G Y ho (fd_plain hd) hcd hmg hobj hints hlen hg) fun r s' hq=>?_)
 obtain ⟨rfl,h2,h3,h4⟩:=hq
 exact ⟨.inl ⟨.bool true,.bool true,[],rfl,fun _=>rfl,.bool true,post_true l _,fun _=>⟨List.Pairwise.nil,fun _ hm=>(nomatch hm)⟩⟩,h2,h3,h4⟩
section
variable {prog:Program}{w:World}{A:Around}{E:Value->Shared->Prop}{s:Shared}{K:Frag}
def ledger (h:Heap) (L d:Addr):List (Addr × Obj):=(List.range h.objs.size).filterMap fun a=>if a=L∨a=d then none else (h.get? a).map fun o=>(a,o)
end
end Att
namespace L2
open PySem PySem.Spec PyProof.Rows
theorem vals_ints:∀ {vs:List Value}{ns:List Int},IntsAre vs ns->Vals (ns.map V.int) vs
 | _,_,.nil=>.nil
 | _,_,.cons n t h=>.cons ⟨t,rfl⟩ (vals_ints h)
def Only (H:Hp):Prop:=∀ b,H b=none∨∃ o xs,H b=some (.frz o (.lst xs))
theorem law_call {P:Program}{w:World}{K:PySem.W.Frag}{mg mb:Str->Option Value}{CX:CXT}{k:Nat}{fa a:Addr}{fd:FuncData}{x:Str}{sp:Sp}{s₁:Shared}{vs:List Value}{ns:List Int}
  (KX:K.In s₁.heap) (hns:s₁.heap.Ns mainGlobals mg) (hb:s₁.heap.Ns builtinsNs mb) (hbb:∀ x:Str,x ≠ "__name__" → mb x=bootBuiltins x) (hlim:s₁.heap.NoLimit) (hg:s₁.gens=#[])
  (ha:s₁.heap.get? a=some { cls:=.type "list",data:=.seq vs.toArray }) (hi:IntsAre vs ns) (hl:ns.length≤sizeLine) (hr:Room k callerA)
  (F:∀ base:Heap,K.In base->base.Ns mainGlobals mg->FnOk P w K mg base CX k fa fd [x] sp) (hbind:∀ (s:Shared) (u:Value),BindsTo s fd ⟨[u],[]⟩ [(x,u)])
  (hsp:∀ H:Hp,Only H->SqL K H a (ns.map V.int)->sp [.ref a] H (fun v _=>v=.bl true) fun _ _ _=>False)
  (hCX:∀ H e s',CX [] H s₁ (fun _ _ _=>False) e s'->False) :
  codeAny (model P w) callerA (.call (.ref fa) ⟨[.ref a],[]⟩) (fun r s'=>r=.ok (.ret (.bool true))∧OldK s₁.heap s'.heap∧s'.os=s₁.os∧AllBare s'.gens) s₁:=by
 have rv:=vals_ints hi
 have lenV:=hi.length
 have core:∀ H:Hp,Only H->SqL K H a (ns.map V.int)->HOk P w H s₁.heap->(∀ b,H b ≠ none->b=a)->(H a ≠ none->K.lookup a=none) →
   codeAny (model P w) callerA (.call (.ref fa) ⟨[.ref a],[]⟩) (fun r s'=>r=.ok (.ret (.bool true))∧OldK s₁.heap s'.heap∧s'.os=s₁.os∧AllBare s'.gens) s₁:=by
  intro H hO hS hok hA hK
  have base_of:∀ {b:Addr} {o:Obj},s₁.heap.get? b=some o->H b=none->(hidT s₁.heap H).get? b=some o:=fun e n=>hidT_get e n
  have noA:∀ {b:Addr} {o:Obj} {es:Array DictEntry} {ep:Nat},s₁.heap.get? b=some o->o.data=.dict es ep->H b=none:=fun {b o es ep} e d=>by
   cases q:H b with
   | none=>rfl
   | some u=>
    have e':b=a:=hA b (by rw [q];simp)
    subst e'
    rw [ha] at e;cases e
    have d':Data.seq vs.toArray _=Data.dict es ep:=d
    cases d'
  have nsK:∀ {b:Addr} {m:Str->Option Value},s₁.heap.Ns b m->(hidT s₁.heap H).Ns b m:=fun {b m} ⟨o,es,ep,e,d,r⟩=>⟨o,es,ep,base_of e (noA e d),d,r⟩
  have hKb:K.In (hidT s₁.heap H):=fun b o e=>base_of (KX b o e) (by
   cases q:H b with
   | none=>rfl
   | some u=>
    have e':b=a:=hA b (by rw [q];simp)
    subst e'
    rw [hK (by rw [q];simp)] at e;cases e)
  have hM:Mod K mg (hidT s₁.heap H):=⟨hKb,nsK hns,⟨mb,nsK hb,hbb⟩,let ⟨mc,h1,h2⟩:=hlim;⟨mc,nsK h1,h2⟩⟩
  have e0:Env0 P w K mg (hidT s₁.heap H) callerA [] s₁ H:=⟨rfl,hM,fun b o e=>of_hidT e,Nat.le_of_eq (hidT_size _ _),trivial,fun b hb=>absurd (show b∈([]:List Addr) from hb) (by simp),hok,.of_eq hg⟩
  refine codeAny_mono ((F _ hKb (nsK hns)).run callerA [] s₁ H ⟨[.ref a],[]⟩ [.ref a] [.ref a] _ _ hr e0 (hbind s₁ (.ref a)) (.cons rfl .nil) (hsp H hO hS)) fun r s' h=>?_
  cases r with
  | error e=>exact (hCX H e s' h).elim
  | ok fl=>
   cases fl with
   | next=>exact False.elim h
   | brk=>exact False.elim h
   | cont=>exact False.elim h
   | ret u=>
    obtain ⟨v,H',os,bare,un,hok',r',q⟩:=h
    have q':v=.bl true:=q
    subst q'
    obtain rfl:u=Value.bool true:=r'
    refine ⟨rfl,OldK.of_keep fun b o e=>?_,os,bare⟩
    cases q:H b with
    | none=>exact un.keep b o e q (by intro z;exact absurd (show b∈([]:List Addr) from z) (by simp)) (by simp)
    | some u=>
     rcases hO b with z|⟨ob,xs,z⟩
     ·rw [q] at z;cases z
     ·have z2:=un.frzs b ob _ z
      obtain ⟨e1,_⟩:=hok b _ z
      obtain ⟨e2,_⟩:=hok' b _ z2
      rw [e] at e1;cases e1
      exact e2
 cases hk:K.lookup a with
 | some o=>
  have e:=KX a o hk
  rw [ha] at e
  cases e
  refine core (fun _=>none) (fun _=>.inl rfl) (.inr ⟨_,vs.toArray,_,hk,rfl,rfl,rfl,by rw [List.size_toArray,lenV];exact hl,by simpa using rv⟩) (fun b u z=>by have z':(none:Option HO)=some u:=z;cases z') (fun b z=>absurd rfl z) fun z=>absurd rfl z
 | none=>
  refine core (fun b=>if b=a then some (.frz { cls:=.type "list",data:=.seq vs.toArray } (.lst (ns.map V.int))) else none) (fun b=>?_) (.inl (.inr ⟨{ cls:=.type "list",data:=.seq vs.toArray },if_pos rfl⟩)) (fun b u z=>?_) (fun b z=>?_) fun _=>hk
  ·by_cases hb:b=a
   ·exact .inr ⟨_,_,if_pos hb⟩
   ·exact .inl (if_neg hb)
  ·by_cases hb:b=a
   ·have z':=(if_pos hb).symm.trans z
    cases z'
    subst hb
    exact ⟨ha,by rw [List.length_map];exact hl,vs,_,rv,ha⟩
   ·have z':=(if_neg hb).symm.trans z
    cases z'
  ·by_cases hb:b=a
   ·exact hb
   ·exact absurd (if_neg hb) z
end L2
namespace L2
open PySem PySem.Spec PyProof.Rows
abbrev KOf {K:PySem.W.Frag} {h:Heap} (_:K.In h):PySem.W.Frag:=K
theorem walk_of {l:PySem.W.OpenLaw}{n k:Nat}{q:Program}{loose:List Str}{XP:(Str->Option Value)->Heap->Prop}{YP:World->Heap->Prop}{d:DefRec}{K:Params->PySem.W.Frag}{CX:World->CXT}{sp:World->Sp}{x:Str}
  (hn:l.most=some n) (hn2:n≤sizeLine) (hdf:d.params.defaults=[]) (hr:Room k callerA)
  (hY:∀ (w:World) (h:Heap),YP w h->(K w.params).In h)
  (F:∀ (w:World) (mg:Str->Option Value) (fa:Addr) (h:Heap),(K w.params).In h->h.Ns mainGlobals mg->mg d.name=some (.ref fa) →
   ∃ fd:FuncData,(∀ (s:Shared) (u:Value),BindsTo s fd ⟨[u],[]⟩ [(x,u)]) ∧
    ∀ base:Heap,(K w.params).In base->base.Ns mainGlobals mg->FnOk l.prog w (K w.params) mg base (CX w) k fa fd [x] (sp w))
  (hsp:∀ (w:World) (H:Hp) (a:Addr) (ns:List Int),ns.length≤n->Only H->SqL (K w.params) H a (ns.map V.int)->sp w [.ref a] H (fun v _=>v=.bl true) fun _ _ _=>False)
  (hCX:∀ (w:World) (H:Hp) (s:Shared) (e:Value) (s':Shared),CX w [] H s (fun _ _ _=>False) e s'->False) :
  PySem.W.WalkO q loose XP YP l.row.toRowW d [] (fun f vs=>PySem.call f vs):=by
 refine Att.attach_call hn hdf fun w s₀ s₁ mg mb fa o pm cd doc a vs ns G Y ho hd hcd hmg hobj hints hlen hg=>?_
 have KX:=hY w _ Y
 obtain ⟨fd,hb,hF⟩:=F w mg fa _ KX G.T.g hmg
 exact law_call KX G.T.g G.T.b G.T.builtins G.T.nolimit hg hobj hints (Nat.le_trans hlen hn2) hr hF hb (fun H hO hS=>hsp w H a ns hlen hO hS) fun H e s'=>hCX w H s₁ e s'
end L2
/- THE LAST THEOREM (shape;LID,My.* are yours):
   My.Adr: a structure of the addresses that your layer names (classes,functions);My.Txt K t: a structure (Prop) of the equations over K;
   My.txt_mk:{K} {implicit addresses ..} (e1:nsIn K mainGlobals "law"=some (some (.ref f))) (e2:K.lookup f=some ⟨oc,od,.func (fnOf "law" "law" params body scope dV kV doc pm an cdv ct),sl⟩) (e3:codeIn K cdv "law"=true) ..:∃ t,My.Txt K t
set_option maxRecDepth 100000 in
set_option maxHeartbeats 0 in
theorem PySem.Challenge.cw_LID_holds : PySem.Challenge.rw_LID.Holds := by
 w_on;o_law;k_head;(case hw=>w_witness2)
 k_fill
 refine L2.walk_of (l:=PySem.Challenge.rw_LID) (n:=63) (k:=40) (x := "script") (CX:=fun w=>..) (sp:=fun _=>My.sp_law) rfl (by decide) rfl ⟨rfl,by decide,by decide⟩ (fun w h Y=>PySem.W.kIn_of Y) ?F ?S ?C
 case F=>
  intro w mg fa h KX G hmg
  have T:∃ t,My.Txt (L2.KOf KX) t:=by
   dsimp only [L2.KOf]                          -- K must stand as «<heap const> w.params» for k_is
   refine' My.txt_mk ?e1 ?e2 ?e3 ..
   (case e1=>PySem.W.k_is)                    -- in the order: a name -> its address -> its object -> its parts
   (case e2=>PySem.W.k_is)
   ..
  obtain ⟨t,T⟩:=T
  have e0:=hmg.symm.trans (PySem.W.mg_of KX G T.law)
  cases e0                                       -- fa is the law's own address
  exact ⟨_,fun s u=>.of_eq rfl,fun base kb nb=>My.law_fn T kb nb⟩     -- if «.of_eq rfl» comes too early: refine' ⟨_,?b,fun base kb nb=>My.law_fn T kb nb⟩;exact fun s u=>.of_eq rfl
 case S=>exact fun w H a ns hl hO hS=>..
 case C=>exact ..
(the tactic k_is has no namespace: write k_is) -/
namespace L2
open PySem PySem.Spec PyProof.Rows
def defArgs (s:Stmt):Arguments:=match s with
 | .FunctionDef _ a _ _ _ _ _ _ _ _=>a
 | _=>{ posonlyargs:=[],args:=[],vararg:=none,kwonlyargs:=[],kw_defaults:=[],kwarg:=none,defaults:=[] }
def defBody (s:Stmt):List Stmt:=match s with
 | .FunctionDef _ _ b _ _ _ _ _ _ _=>b
 | _=>[]
def defScope (s:Stmt):Scope:=match s with
 | .FunctionDef _ _ _ _ _ _ sc _ _ _=>sc
 | _=>{ kind:=.function,names:=[],isGenerator:=false,isCoroutine:=false }
abbrev CX0:CXT:=fun _ _ _ _ _ _=>False
abbrev E0:XK:=fun _ _ _=>False
theorem pass0 {X:Cx}:Passes CX0 X E0:=fun _ _ _ _ _ _ _ h=>h.elim
structure Fun (K:PySem.W.Frag) (x qual:Str) (st:Stmt) (f:Addr) (fd:FuncData):Prop where
 ex:∃ (oc:Value) (od:Option Addr) (kV doc pm:Value) (an:Option Addr) (cdv ct:Value) (osl:Array (Option Value)),
  fd=PySem.W.fnOf x qual (defArgs st) (defBody st) (defScope st) .none kV doc pm an cdv ct∧K.lookup f=some ⟨oc,od,.func fd,osl⟩∧PySem.W.codeIn K cdv qual=true
 kp:PySem.W.keepIn K (.ref f)=true
section
variable {P:Program}{w:World}{K:PySem.W.Frag}{mg:Str->Option Value}{base:Heap}
theorem Fun.ok {x qual:Str}{st:Stmt}{f:Addr}{fd:FuncData}{N ps:List Str}{k:Nat}{sp:Sp}(F:Fun K x qual st f fd) (S:FnScope N ps (defScope st)) (len:∀ vs H Q E,sp vs H Q E->vs.length=ps.length)
  (hbody:∀ (cdv:Value) (A:Around) (outer:List Env) (s:Shared) (H:Hp) (vs:List V) (Q:VK) (E:XK),Room k (A.deeper (envOfC qual (defScope st) s.heap.objs.size f cdv))->sp vs H Q E →
   ∃ t,PSs (cxOf CX0 P w K mg base N qual (defScope st) f cdv A outer s H E).nox (defBody st) t∧t { nx:=fun _ H'=>Q .non H',rt:=Q } (start N vs) H):FnOk P w K mg base CX0 (k+1) f fd ps sp:=by
 obtain ⟨oc,od,kV,doc,pm,an,cdv,ct,osl,rfl,lk,hcd⟩:=F.ex
 refine fn_of lk hcd S len fun A outer s H vs Q E hr hsp=>?_
 obtain ⟨t,h,q⟩:=hbody cdv A outer s H vs Q E hr hsp
 exact ⟨t,h.nox,q⟩
theorem Fun.binds {x qual:Str}{st:Stmt}{f:Addr}{fd:FuncData}{ps:List Str}(F:Fun K x qual st f fd)
  (h:∀ (kV doc pm:Value) (an:Option Addr) (cdv ct:Value) (us:List Value),us.length=ps.length->bindArgs (PySem.W.fnOf x qual (defArgs st) (defBody st) (defScope st) .none kV doc pm an cdv ct) ⟨us,[]⟩=pure (ps.zip us)):Binds K fd ps []:=by
 obtain ⟨oc,od,kV,doc,pm,an,cdv,ct,osl,rfl,lk,hcd⟩:=F.ex
 exact .all (h kV doc pm an cdv ct)
theorem fun_mk {x qual:Str}{st:Stmt}{f:Addr}{oc:Value}{od an:Option Addr}{osl:Array (Option Value)}{kV doc pm cdv ct:Value}(l:K.lookup f=some ⟨oc,od,.func (PySem.W.fnOf x qual (defArgs st) (defBody st) (defScope st) .none kV doc pm an cdv ct),osl⟩)
  (c:PySem.W.codeIn K cdv qual=true) (k:PySem.W.keepIn K (.ref f)=true):Fun K x qual st f (PySem.W.fnOf x qual (defArgs st) (defBody st) (defScope st) .none kV doc pm an cdv ct):=⟨⟨oc,od,kV,doc,pm,an,cdv,ct,osl,rfl,l,c⟩,k⟩
end
theorem small1000 {n:Nat}(h:n≤1000):n < sizeLine:=Nat.lt_of_le_of_lt h (by decide)
section
variable {X:Cx}
theorem pv (i:Nat){x:Str}{pos:Pos}(hN:X.N[i]? = some x:=by rfl) (hv:Vis X.env.scope x:=by first|exact Or.inl rfl|exact Or.inr (Or.inl rfl)|exact Or.inr (Or.inr rfl)) (hd:(x == ("__debug__":Str))=false:=by decide)
  (hcd:(x == ("__classdict__":Str))=false:=by decide):PE X (.Name x pos) (tVar i):=pe_var hN hv hd hcd
end
theorem ite2 {c A B:Prop} [Decidable c] (h1:c->A) (h2:¬ c->B):if c then A else B:=by
 by_cases h:c
 ·rw [if_pos h]
  exact h1 h
 ·rw [if_neg h]
  exact h2 h
def Same (H H':Hp):Prop:=∀ b o,H b=some o->H' b=some o
theorem Same.refl (H:Hp):Same H H:=fun _ _ h=>h
theorem Same.trans {H H1 H2:Hp}(a:Same H H1) (b:Same H1 H2):Same H H2:=fun c o h=>b c o (a c o h)
theorem Same.free {H H':Hp}(e:Same H H'){l:Addr}(h:H' l=Option.none):H l=Option.none:=by
 cases q:H l with
 | none=>rfl
 | some o=>
  rw [e l o q] at h
  cases h
theorem Same.seq {K:PySem.W.Frag}{H H':Hp}{a:Addr}{xs:List V}(e:Same H H') (h:SqL K H a xs):SqL K H' a xs:=by
 rcases h with (h|⟨o,h⟩)|h
 ·exact .inl (.inl (e _ _ h))
 ·exact .inl (.inr ⟨o,e _ _ h⟩)
 ·exact .inr h
end L2
set_option Elab.async false
set_option linter.all false
set_option maxRecDepth 100000
set_option maxHeartbeats 4000000
set_option Elab.async false
set_option linter.all false
set_option maxRecDepth 100000
namespace L2
open PySem PySem.Spec PyProof.Rows
section
variable {κ:Type} [DecidableEq κ]
def valV (kvs:List (κ × V)) (k:κ):Option V:=(kvs.find? fun kv=>decide (kv.1=k)).map (·.2)
def putK (kvs:List (κ × V)) (k:κ) (v:V):List (κ × V):=
 if (kvs.any fun kv=>decide (kv.1=k))=true then kvs.map (fun kv=>if kv.1=k then (kv.1,v) else kv) else kvs++[(k,v)]
theorem valV_pos {p:κ × V}{r:List (κ × V)}{k:κ}(e:p.1=k):valV (p::r) k=some p.2:=by simp [valV,List.find?_cons,e]
theorem valV_neg {p:κ × V}{r:List (κ × V)}{k:κ}(e:¬ p.1=k):valV (p::r) k=valV r k:=by simp [valV,List.find?_cons,e]
theorem valV_any (k:κ):∀ kvs:List (κ × V),(kvs.any fun kv=>decide (kv.1=k))=(valV kvs k).isSome
 | []=>rfl
 | p::r=>by
  rw [List.any_cons]
  by_cases e:p.1=k
  ·simp only [valV_pos e,decide_eq_true e,Bool.true_or,Option.isSome_some]
  ·rw [valV_neg e,decide_eq_false e,Bool.false_or];exact valV_any k r
theorem valV_map (k j:κ) (y:V):∀ kvs:List (κ × V),valV (kvs.map fun kv=>if kv.1=k then (kv.1,y) else kv) j=(valV kvs j).map fun x=>if j=k then y else x
 | []=>rfl
 | p::r=>by
  have ih:=valV_map k j y r
  rw [List.map_cons]
  by_cases h:p.1=k
  ·rw [if_pos h]
   by_cases e:p.1=j
   ·rw [valV_pos (p:=(p.1,y)) e,valV_pos e,Option.map_some,if_pos (e.symm.trans h)]
   ·rw [valV_neg (p:=(p.1,y)) e,valV_neg e,ih]
  ·rw [if_neg h]
   by_cases e:p.1=j
   ·rw [valV_pos (p:=p) e,valV_pos e,Option.map_some,if_neg (fun z=>h (e.trans z))]
   ·rw [valV_neg (p:=p) e,valV_neg e,ih]
theorem valV_snoc (k j:κ) (y:V):∀ kvs:List (κ × V),valV kvs k=none->valV (kvs++[(k,y)]) j=if j=k then some y else valV kvs j
 | [],_=>by
  by_cases e:k=j
  ·rw [if_pos e.symm];exact valV_pos (p:=(k,y)) e
  ·rw [if_neg (fun z=>e z.symm)];exact valV_neg (p:=(k,y)) e
 | p::r,hn=>by
  rw [List.cons_append]
  have hk:¬ p.1=k:=fun z=>by rw [valV_pos z] at hn;cases hn
  rw [valV_neg hk] at hn
  have ih:=valV_snoc k j y r hn
  by_cases e:p.1=j
  ·rw [valV_pos e,valV_pos e,if_neg (fun z=>hk (e.trans z))]
  ·rw [valV_neg e,valV_neg e,ih]
theorem valV_put (kvs:List (κ × V)) (k j:κ) (y:V):valV (putK kvs k y) j=if j=k then some y else valV kvs j:=by
 unfold putK
 by_cases a:(kvs.any fun kv=>decide (kv.1=k))=true
 ·rw [if_pos a,valV_map]
  rw [valV_any] at a
  by_cases e:j=k
  ·obtain ⟨x,hx⟩:=Option.isSome_iff_exists.mp a
   rw [if_pos e,e,hx,Option.map_some,if_pos rfl]
  ·rw [if_neg e]
   cases valV kvs j with
   | none=>rfl
   | some x=>rw [Option.map_some,if_neg e]
 ·rw [if_neg a]
  refine valV_snoc k j y kvs ?_
  rw [valV_any] at a
  cases q:valV kvs k with
  | none=>rfl
  | some x=>rw [q] at a;exact (a rfl).elim
theorem length_putK (kvs:List (κ × V)) (k:κ) (v:V):(putK kvs k v).length≤kvs.length+1:=by
 unfold putK
 split
 ·rw [List.length_map];omega
 ·rw [List.length_append,List.length_cons,List.length_nil];omega
theorem putK_new {kvs:List (κ × V)}{k:κ}(v:V) (h:valV kvs k=none):putK kvs k v=kvs++[(k,v)]:=by
 unfold putK
 rw [valV_any,h]
 exact if_neg (by decide)
theorem RelO.isSome_eq {o:Option V}{u:Option Value}(r:RelO o u):o.isSome=u.isSome:=by
 cases o with
 | none=>cases u with
  | none=>rfl
  | some _=>exact (show False from r).elim
 | some _=>cases u with
  | none=>exact (show False from r).elim
  | some _=>rfl
theorem RelO.getD {o:Option V}{u:Option Value}{d:V}{d':Value}(r:RelO o u) (rd:RelV d d'):RelV (o.getD d) (u.getD d'):=by
 cases o with
 | none=>cases u with
  | none=>exact rd
  | some _=>exact (show False from r).elim
 | some _=>cases u with
  | none=>exact (show False from r).elim
  | some _=>exact r
theorem KV.val {kvs:List (κ × V)}{vs:List (κ × Value)}(r:KV kvs vs) (k:κ):RelO (valV kvs k) (valueAt vs k):=by
 unfold KV at r
 induction r with
 | nil=>exact True.intro
 | @cons p q ps qs h t ih=>
  obtain ⟨h1,h2⟩:=h
  by_cases e:p.1=k
  ·have e':q.1=k:=h1.symm.trans e
   have b:valueAt (q::qs) k=some q.2:=by simp [valueAt,List.find?_cons,e']
   rw [valV_pos e,b];exact h2
  ·have e':¬ q.1=k:=fun z=>e (h1.trans z)
   have b:valueAt (q::qs) k=valueAt qs k:=by simp [valueAt,List.find?_cons,e']
   rw [valV_neg e,b];exact ih
theorem KV.any {kvs:List (κ × V)}{vs:List (κ × Value)}(r:KV kvs vs) (k:κ):(kvs.any fun kv=>decide (kv.1=k))=vs.any fun kv=>decide (kv.1=k):=by
 unfold KV at r
 induction r with
 | nil=>rfl
 | cons h t ih=>rw [List.any_cons,List.any_cons,ih,h.1]
theorem KV.repl {kvs:List (κ × V)}{vs:List (κ × Value)}(r:KV kvs vs) (k:κ){y:V}{u:Value}(ry:RelV y u) :
  KV (kvs.map fun kv=>if kv.1=k then (kv.1,y) else kv) (vs.map fun kv=>if kv.1=k then (kv.1,u) else kv):=by
 unfold KV at r ⊢
 induction r with
 | nil=>exact .nil
 | @cons p q ps qs h t ih=>
  rw [List.map_cons,List.map_cons]
  refine .cons ?_ ih
  obtain ⟨h1,h2⟩:=h
  by_cases e:p.1=k
  ·rw [if_pos e,if_pos (h1.symm.trans e)];exact ⟨h1,ry⟩
  ·rw [if_neg e,if_neg (fun z=>e (h1.trans z))];exact ⟨h1,h2⟩
theorem KV.put {kvs:List (κ × V)}{vs:List (κ × Value)}(r:KV kvs vs) (k:κ){y:V}{u:Value}(ry:RelV y u):KV (putK kvs k y) (stored vs k u):=by
 unfold putK stored
 rw [r.any k]
 by_cases e:(vs.any fun kv=>decide (kv.1=k))=true
 ·rw [if_pos e,if_pos e];exact r.repl k ry
 ·rw [if_neg e,if_neg e];exact Paired.snoc r ⟨rfl,ry⟩
theorem KV.length {kvs:List (κ × V)}{vs:List (κ × Value)}(r:KV kvs vs):kvs.length=vs.length:=Paired.length r
end
theorem kV_is {P:Program}{w:World}{k:Key}{u:Value}(r:RelV (kV k) u):(mixKind P w).is k u=true:=by
 cases k with
 | inl i=>obtain ⟨t,e⟩:=(show ∃ t,u=Value.int i t from r);subst e;exact mixKind_int P w i t
 | inr x=>obtain ⟨t,e⟩:=(show ∃ t,u=Value.str x t from r);subst e;exact mixKind_str P w x t
theorem items_are {P:Program}{w:World}:∀ {ks:List Key}{us:List Value},Vals (ks.map kV) us->ItemsAre (mixKind P w) ks us
 | [],_,r=>by rw [List.map_nil] at r;cases r;exact .nil
 | k::ks,_,r=>by
  rw [List.map_cons] at r
  cases r with
  | cons h t=>exact .cons (kV_is h) (items_are t)
abbrev KT (H:Hp):List (List Key × V)->List (List Key × Addr × Value)->Prop:=Paired fun p q=>p.1=q.1∧H q.2.1=some (.tup (p.1.map kV))∧RelV p.2 q.2.2
theorem KT.val {H:Hp}{kvs:List (List Key × V)}{xs:List (List Key × Addr × Value)}(r:KT H kvs xs) (k:List Key):RelO (valV kvs k) ((atKey xs k).map (·.2)):=by
 induction r with
 | nil=>exact True.intro
 | @cons p q ps qs h t ih=>
  obtain ⟨h1,_,h2⟩:=h
  by_cases e:p.1=k
  ·have e':q.1=k:=h1.symm.trans e
   have b:atKey (q::qs) k=some q.2:=by simp [atKey,List.find?_cons,e']
   rw [valV_pos e,b];exact h2
  ·have e':¬ q.1=k:=fun z=>e (h1.trans z)
   have b:atKey (q::qs) k=atKey qs k:=by simp [atKey,List.find?_cons,e']
   rw [valV_neg e,b];exact ih
theorem KT.repl {H:Hp}{kvs:List (List Key × V)}{xs:List (List Key × Addr × Value)}(r:KT H kvs xs) (k:List Key){y:V}{u:Value}(ry:RelV y u) :
  KT H (kvs.map fun kv=>if kv.1=k then (kv.1,y) else kv) (xs.map (putAt k u)):=by
 induction r with
 | nil=>exact .nil
 | @cons p q ps qs h t ih=>
  rw [List.map_cons,List.map_cons]
  refine .cons ?_ ih
  obtain ⟨h1,h2,h3⟩:=h
  unfold putAt
  by_cases e:p.1=k
  ·rw [if_pos e,if_pos (h1.symm.trans e)];exact ⟨h1,h2,ry⟩
  ·rw [if_neg e,if_neg (fun z=>e (h1.trans z))];exact ⟨h1,h2,h3⟩
theorem KT.put {H:Hp}{kvs:List (List Key × V)}{xs:List (List Key × Addr × Value)}(r:KT H kvs xs) (k:List Key){b:Addr}{y:V}{u:Value}(hb:H b=some (.tup (k.map kV))) (ry:RelV y u) :
  KT H (putK kvs k y) (storedH xs k b u):=by
 have e:(kvs.any fun kv=>decide (kv.1=k))=(atKey xs k).isSome:=by
  rw [valV_any,(r.val k).isSome_eq,Option.isSome_map]
 unfold putK storedH
 rw [e]
 by_cases q:(atKey xs k).isSome=true
 ·rw [if_pos q,if_pos q];exact r.repl k ry
 ·rw [if_neg q,if_neg q];exact Paired.snoc r ⟨rfl,hb,ry⟩
theorem KT.keeps {H H':Hp}{kvs:List (List Key × V)}{xs:List (List Key × Addr × Value)}(r:KT H kvs xs) (ht:∀ b ys,H b=some (.tup ys)->H' b=some (.tup ys)):KT H' kvs xs:=
 Paired.mapP r fun _ _ z=>⟨z.1,ht _ _ z.2.1,z.2.2⟩
section
variable {P:Program}{w:World}{H:Hp}{h:Heap}{a:Addr}
theorem rd_of {u:HO}(ok:HOk P w H h) (e:Rd H a u):ObjOk P w H h a u:=e.ok ok
theorem dk_rd {kvs:List (Key × V)}(ok:HOk P w H h) (e:Rd H a (.dK kvs)):kvs.length≤sizeLine∧(a == sysModules)=false∧∃ vs,KV kvs vs∧h.DictOf (mixKind P w) a vs:=
 show ObjOk P w H h a (.dK kvs) from rd_of ok e
theorem dk_of {kvs:List (Key × V)}(ok:HOk P w H h) (e:H a=some (.dK kvs)):kvs.length≤sizeLine∧(a == sysModules)=false∧∃ vs,KV kvs vs∧h.DictOf (mixKind P w) a vs:=dk_rd ok (.inl e)
theorem key_of {ks:List Key}(ok:HOk P w H h) (e:H a=some (.tup (ks.map kV))):(tupleKind (mixKind P w)).is h ks a:=by
 obtain ⟨_,its,r,o,h1,h2,n,h3⟩:=(show ObjOk P w H h a (.tup (ks.map kV)) from ok a _ e)
 exact ⟨o,its.toArray,n,h1,h2,h3,by simpa using items_are r⟩
theorem dt_rd {kvs:List (List Key × V)}(ok:HOk P w H h) (e:Rd H a (.dT kvs)):kvs.length≤sizeLine∧(a == sysModules)=false ∧
  ∃ xs,KT H kvs xs∧h.DictOfH (tupleKind (mixKind P w)) a xs:=by
 obtain ⟨z,y,xs,r,o,es,ep,h1,h2,h3,h4,h5⟩:=(show ObjOk P w H h a (.dT kvs) from rd_of ok e)
 refine ⟨z,y,xs,r,o,es,ep,h1,h2,h3,h4,fun x hx=>?_,h5⟩
 have all:∀ {l:List (List Key × V)} {m:List (List Key × Addr × Value)},KT H l m->∀ x∈m,(tupleKind (mixKind P w)).is h x.1 x.2.1:=by
  intro l m q
  induction q with
  | nil=>intro x hx;exact nomatch hx
  | @cons p q ps qs hq t ih=>
   intro x hx
   rcases List.mem_cons.mp hx with e|hx
   ·subst e
    exact key_of ok (by rw [←hq.1];exact hq.2.1)
   ·exact ih x hx
 exact all r x hx
theorem dt_of {kvs:List (List Key × V)}(ok:HOk P w H h) (e:H a=some (.dT kvs)):kvs.length≤sizeLine∧(a == sysModules)=false ∧
  ∃ xs,KT H kvs xs∧h.DictOfH (tupleKind (mixKind P w)) a xs:=dt_rd ok (.inl e)
end
def DGet (H:Hp) (a:Addr) (y:V) (r:Option V):Prop:=
 (∃ kvs k,Rd H a (.dK kvs)∧y=kV k∧r=valV kvs k)∨∃ kvs k b,Rd H a (.dT kvs)∧y=.ref b∧H b=some (.tup (k.map kV))∧r=valV kvs k
def DPut (H:Hp) (a:Addr) (y v:V) (H':Hp):Prop:=
 (∃ kvs k,H a=some (.dK kvs)∧y=kV k∧kvs.length < sizeLine∧H'=upd H a (.dK (putK kvs k v))) ∨
 ∃ kvs k b,H a=some (.dT kvs)∧y=.ref b∧H b=some (.tup (k.map kV))∧kvs.length < sizeLine∧H'=upd H a (.dT (putK kvs k v))
theorem DGet.k {H:Hp}{a:Addr}{kvs:List (Key × V)}{k:Key}(e:H a=some (.dK kvs)):DGet H a (kV k) (valV kvs k):=.inl ⟨kvs,k,.inl e,rfl,rfl⟩
theorem DGet.t {H:Hp}{a b:Addr}{kvs:List (List Key × V)}{k:List Key}(e:H a=some (.dT kvs)) (eb:H b=some (.tup (k.map kV))):DGet H a (.ref b) (valV kvs k):=.inr ⟨kvs,k,b,.inl e,rfl,eb,rfl⟩
theorem DPut.k {H:Hp}{a:Addr}{kvs:List (Key × V)}{k:Key}{v:V}(e:H a=some (.dK kvs)) (hl:kvs.length < sizeLine):DPut H a (kV k) v (upd H a (.dK (putK kvs k v))):=.inl ⟨kvs,k,e,rfl,hl,rfl⟩
theorem DPut.t {H:Hp}{a b:Addr}{kvs:List (List Key × V)}{k:List Key}{v:V}(e:H a=some (.dT kvs)) (eb:H b=some (.tup (k.map kV))) (hl:kvs.length < sizeLine) :
  DPut H a (.ref b) v (upd H a (.dT (putK kvs k v))):=.inr ⟨kvs,k,b,e,rfl,eb,hl,rfl⟩
section
variable {X:Cx}{pins:List (Addr × Obj)}{σ:St}{H:Hp}{s:Shared}{a:Addr}{y v:V}{u r:Value}{o:Option V}{A:Around}{E:Value->Shared->Prop}
theorem Inv.big (I:Inv X pins σ H s):sysModules < s.heap.objs.size:=by
 have h:mainGlobals < s.heap.objs.size:=(I.mod.glob.keeps I.bk).lt
 exact Nat.lt_trans (by decide) h
theorem d_getItem {Q:Value->Shared->Prop}(hu:A.units+1 < cLine) (I:Inv X pins σ H s) (g:DGet H a y (some v)) (ry:RelV y u) (h:∀ w' s',Inv X pins σ H s'->RelV v w'->Q w' s') :
  wpAny (model X.prog X.w) A (getItem (.ref a) u) Q E s:=by
 rcases g with ⟨kvs,k,e,ey,l⟩|⟨kvs,k,b,e,ey,eb,l⟩
 ·subst ey
  obtain ⟨z,hd,vs,rel,dd⟩:=dk_rd I.hok e
  obtain ⟨w',hw,rw'⟩:=RelO.some_of (v:=v) (o:=valueAt vs k) (by rw [l];exact rel.val k)
  exact wpAny_getItem_of (kV_is ry) dd.mapOf hw (h w' _ (I.tok _) rw')
 ·subst ey
  cases (show u=Value.ref b from ry)
  obtain ⟨z,hd,xs,rel,dd⟩:=dt_rd I.hok e
  obtain ⟨w',hw,rw'⟩:=RelO.some_of (v:=v) (o:=(atKey xs k).map (·.2)) (by rw [l];exact rel.val k)
  obtain ⟨p,hp,hp2⟩:=Option.map_eq_some_iff.mp hw
  refine wpAny_getItem_heap (tupleKind_room_in1 hu) (key_of I.hok eb) dd hp ?_
  rw [hp2]
  exact h w' _ (I.tok _) rw'
theorem d_in {Q:Value->Shared->Prop}(hu:A.units+1 < cLine) (I:Inv X pins σ H s) (g:DGet H a y o) (ry:RelV y u) (h:∀ s',Inv X pins σ H s'->Q (.bool o.isSome) s') :
  wpAny (model X.prog X.w) A (compareOp .In u (.ref a)) Q E s:=by
 rcases g with ⟨kvs,k,e,ey,l⟩|⟨kvs,k,b,e,ey,eb,l⟩
 ·subst ey
  obtain ⟨z,hd,vs,rel,dd⟩:=dk_rd I.hok e
  refine wpAny_in_of (kV_is ry) hd dd.mapOf ?_
  rw [←(rel.val k).isSome_eq,←l]
  exact h _ (I.tok _)
 ·subst ey
  cases (show u=Value.ref b from ry)
  obtain ⟨z,hd,xs,rel,dd⟩:=dt_rd I.hok e
  refine wpAny_in_heap (tupleKind_room_in1 hu) (key_of I.hok eb) hd dd ?_
  have q:=(rel.val k).isSome_eq
  rw [Option.isSome_map] at q
  rw [←q,←l]
  exact h _ (I.tok _)
theorem d_notIn {Q:Value->Shared->Prop}(hu:A.units+1 < cLine) (I:Inv X pins σ H s) (g:DGet H a y o) (ry:RelV y u) (h:∀ s',Inv X pins σ H s'->Q (.bool (!o.isSome)) s') :
  wpAny (model X.prog X.w) A (compareOp .NotIn u (.ref a)) Q E s:=by
 rcases g with ⟨kvs,k,e,ey,l⟩|⟨kvs,k,b,e,ey,eb,l⟩
 ·subst ey
  obtain ⟨z,hd,vs,rel,dd⟩:=dk_rd I.hok e
  refine wpAny_notIn_of (kV_is ry) hd dd.mapOf ?_
  rw [←(rel.val k).isSome_eq,←l]
  exact h _ (I.tok _)
 ·subst ey
  cases (show u=Value.ref b from ry)
  obtain ⟨z,hd,xs,rel,dd⟩:=dt_rd I.hok e
  refine wpAny_notIn_heap (tupleKind_room_in1 hu) (key_of I.hok eb) hd dd ?_
  have q:=(rel.val k).isSome_eq
  rw [Option.isSome_map] at q
  rw [←q,←l]
  exact h _ (I.tok _)
theorem d_write {h':Heap}{t':Nat}{ob:HO}(I:Inv X pins σ H s) (mu:Mut (H a)) (hs:Heap.SameBut a s.heap h') (he:∃ q,h'.get? a=some q) (new:ObjOk X.prog X.w (upd H a ob) h' a ob) :
  Inv X pins σ (upd H a ob) { s with heap:=h',toks:=t' }:=
 I.write (x:=a) (e:=a) mu (.inl rfl) (fun b q hb z=>(hs.2 b hb).trans z) he new
theorem dk_new {P:Program}{w:World}{H':Hp}{h':Heap}{kvs:List (Key × V)}{vs:List (Key × Value)}(z:kvs.length≤sizeLine) (hd:(a == sysModules)=false) (rel:KV kvs vs) (dd:h'.DictOf (mixKind P w) a vs) :
  ObjOk P w H' h' a (.dK kvs):=⟨z,hd,vs,rel,dd⟩
theorem d_setItem {H':Hp}{Q:Unit->Shared->Prop}(hu:A.units+1 < cLine) (I:Inv X pins σ H s) (g:DPut H a y v H') (ry:RelV y u) (rv:RelV v r) (h:∀ s',Inv X pins σ H' s'->Q () s') :
  wpAny (model X.prog X.w) A (setItem (.ref a) u r) Q E s:=by
 rcases g with ⟨kvs,k,e,ey,l,eH⟩|⟨kvs,k,b,e,ey,eb,l,eH⟩
 ·subst ey eH
  obtain ⟨z,hd,vs,rel,dd⟩:=dk_of I.hok e
  have hz:vs.length≤sizeLine:=by rw [←rel.length];exact z
  have hl:(putK kvs k v).length≤sizeLine:=by have:=length_putK kvs k v;omega
  refine wpAny_setItem_pairs (hsz:=hz) (kV_is ry) dd fun h' dd' hs=>h _ ?_
  have he:∃ q,h'.get? a=some q:=let ⟨q,_,_,hq,_⟩:=dd';⟨q,hq⟩
  exact d_write I (by rw [e];exact True.intro) hs he (dk_new hl hd (rel.put k rv) dd')
 ·subst ey eH
  cases (show u=Value.ref b from ry)
  obtain ⟨z,hd,xs,rel,dd⟩:=dt_of I.hok e
  have hz:xs.length≤sizeLine:=by rw [←Paired.length rel];exact z
  have hl:(putK kvs k v).length≤sizeLine:=by have:=length_putK kvs k v;omega
  refine wpAny_setItem_heap (hsz:=hz) (tupleKind_room_in1 hu) (key_of I.hok eb) dd fun h' dd' hs=>h _ ?_
  obtain ⟨q,es,ep,hq,h2,h3,h4,_,h5⟩:=dd'
  refine d_write I (by rw [e];exact True.intro) hs ⟨q,hq⟩ ⟨hl,hd,_,(rel.put k eb rv).keeps fun c ys ec=>?_,q,es,ep,hq,h2,h3,h4,h5⟩
  rw [upd_ne (ne_of ec e (fun z=>nomatch z))]
  exact ec
end
section
variable {X:Cx}{pins:List (Addr × Obj)}{σ:St}{H:Hp}{s:Shared}{a:Addr}{kvs:List (Key × V)}{k:Key}{u:Value}{A:Around}{E:Value->Shared->Prop}
end
def NoSl (i:Expr):Prop:=∀ ov iv,subscripted i false ov iv=operate [ov,iv] (getItem ov iv)
theorem subD_of {prog:Program}{w:World}{A:Around}{E:Value->Shared->Prop}{s:Shared}{env:Env}{value slice:Expr}{pos:Pos}{T id:String}{Q:Value->Shared->Prop}
  (hl:typeLookup (.type T) "__getitem__"=pure (some (.builtin id))) (hs:NoSl slice)
  (h:wpAny (model prog w) A (eval value env) (fun o s₁=>wpAny (model prog w) A (eval slice env) (fun i s₂=>s₂.TypeIs o T∧wpAny (model prog w) A (getItem o i) Q E s₂) E s₁) E s) :
  wpAny (model prog w) A (eval (.Subscript value slice pos) env) Q E s:=by
 refine Subscript_ (wpAny_mono h (fun o s₁ h₁=>wpAny_mono h₁ (fun i s₂ h₂=>?_) fun _ _ x=>x) fun _ _ x=>x)
 obtain ⟨hT,h₂⟩:=h₂
 unfold subscriptTail
 refine wpAny_bind ?_
 rw [getitemInPython_of_ne hT.not_modules]
 refine wpAny_bind (wpAny_specialOf hT hl ?_)
 have fin:wpAny (model prog w) A (subscripted slice false o i) (fun r s₃=>wpAny (model prog w) A (letTemporaryGo value o r >>= fun _=>pure r) Q E s₃) E s₂:=by
  rw [hs o i]
  exact wpAny_operating (wpAny_mono h₂ (fun r s₃ h₃=>wpAny_bind (wpAny_letTemporaryGo (wpAny_pure h₃))) fun _ _ x=>x)
 first
  | exact wpAny_pure (wpAny_bind fin)
  | exact wpAny_bind (wpAny_pure (wpAny_bind fin))
  | exact wpAny_bind fin
theorem dict_typeIs {X:Cx}{pins:List (Addr × Obj)}{σ:St}{H:Hp}{s:Shared}{a:Addr}{y:V}{o:Option V}(I:Inv X pins σ H s) (g:DGet H a y o):s.TypeIs (.ref a) "dict":=by
 rcases g with ⟨kvs,k,e,_,_⟩|⟨kvs,k,b,e,_,_,_⟩
 ·obtain ⟨_,_,vs,_,dd⟩:=dk_rd I.hok e
  exact dd.typeIs
 ·obtain ⟨_,_,xs,_,dd⟩:=dt_rd I.hok e
  exact dd.typeIs
def tDGet (td ty:TE):TE:=fun σ H Q=>td σ H fun x H1=>ty σ H1 fun y H2=>∃ a v,x=.ref a∧DGet H2 a y (some v)∧Q v H2
def sDPut (td ty tv:TE):TS:=fun D σ H=>tv σ H fun v H1=>td σ H1 fun x H2=>ty σ H2 fun y H3=>∃ a H4,x=.ref a∧DPut H3 a y v H4∧D.nx σ H4
section
variable {X:Cx}{o i e value:Expr}{pos pos' tpos:Pos}{td ty tv:TE}
theorem pe_dget (hu:X.A.units+1 < cLine) (ho:PE X o td) (hi:PE X i ty) (hs:NoSl i):PE X (.Subscript o i pos) (tDGet td ty):=by
 intro pins s σ H Q I h
 refine subD_of PySem.F.slot_dict_getitem.lookup hs (thn (ho pins s σ H _ I h) fun u s1 ⟨x,H1,I1,rx,q1⟩=>thn (hi pins s1 σ H1 _ I1 q1) fun iv s2 ⟨y,H2,I2,ry,a,v,ex,g,q2⟩=>?_)
 subst ex
 obtain rfl:u=Value.ref a:=rx
 exact ⟨dict_typeIs I2 g,d_getItem hu I2 g ry fun w' s3 I3 rw'=>⟨v,H2,I3,rw',q2⟩⟩
theorem ps_dput (hu:X.A.units+1 < cLine) (ho:PE X o td) (hi:PE X i ty) (hv:PE X value tv) (hs:swapsWith value (some (.Subscript o i pos')) pos.line X.env=pure false) :
  PS X (.Assign [.Subscript o i pos'] value pos) (sDPut td ty tv):=by
 intro pins s σ H D I h
 refine wpAny_Assign_Subscript (thn (hv pins s σ H _ I h) fun r s1 ⟨v,H1,I1,rv,q1⟩=>thn (ho pins s1 σ H1 _ I1 q1) fun u s2 ⟨x,H2,I2,rx,q2⟩=>thn (hi pins s2 σ H2 _ I2 q2) fun iv s3 ⟨y,H3,I3,ry,a,H4,ex,g,q3⟩=>?_) hs
 subst ex
 obtain rfl:u=Value.ref a:=rx
 exact d_setItem hu I3 g ry rv fun s4 I4=>⟨σ,H4,I4,q3⟩
end
theorem dk_empty {P:Program}{w:World}{H:Hp}(h:Heap) (hb:sysModules < h.objs.size):ObjOk P w H (h.push { cls:=.type "dict",data:=.dict #[] }) h.objs.size (.dK []):=
 ⟨Nat.zero_le _,beq_eq_false_iff_ne.mpr (Ne.symm (Nat.ne_of_lt hb)),[],.nil,Heap.DictOf.new h⟩
theorem dt_empty {P:Program}{w:World}{H:Hp}(h:Heap) (hb:sysModules < h.objs.size):ObjOk P w H (h.push { cls:=.type "dict",data:=.dict #[] }) h.objs.size (.dT []):=
 ⟨Nat.zero_le _,beq_eq_false_iff_ne.mpr (Ne.symm (Nat.ne_of_lt hb)),[],.nil,_,#[],0,Heap.get?_push_size _ rfl,⟨rfl,rfl,rfl⟩,rfl,rfl,List.nodup_nil⟩
def tDNewK:TE:=fun _ H Q=>∀ p,H p=none->Q (.ref p) (upd H p (.dK []))
section
variable {X:Cx}{pos:Pos}
theorem pe_dnewK:PE X (.Dict [] [] pos) tDNewK:=fun pins s σ H Q I h=>
 wpAny_Dict_empty ⟨.ref s.heap.objs.size,_,I.laid (a:=s.heap.objs.size) (o:=.dK []) (t':=s.toks) (fun _ _ q=>Heap.get?_push_of_some _ q) (Nat.le_refl _) (dk_empty s.heap I.big),rfl,h _ (I.hok.fresh (Nat.le_refl _))⟩
end
structure M1 (X:Cx) (o:Expr) (m:Str) (apos:Pos) (e:Expr) (cpos:Pos):Prop where
 base:attributeBase o m X.env (eval o X.env)=eval o X.env
 few:((backTo cpos (starEach [e] X.env)).all (fun x=>!x.1) && (backToKw cpos (keywordEach [] X.env)).all (fun x=>x.1.isSome)
  && decide (([e]:List Expr).length+([]:List Keyword).length+(if ([]:List Keyword).isEmpty then 0 else 1) < 30))=true
 line:(apos.endLine == cpos.line)=true
 trees:backTo cpos (starEach [e] X.env)=[(false,eval e X.env)]
structure M2 (X:Cx) (o:Expr) (m:Str) (apos:Pos) (e f:Expr) (cpos:Pos):Prop where
 base:attributeBase o m X.env (eval o X.env)=eval o X.env
 few:((backTo cpos (starEach [e,f] X.env)).all (fun x=>!x.1) && (backToKw cpos (keywordEach [] X.env)).all (fun x=>x.1.isSome)
  && decide (([e,f]:List Expr).length+([]:List Keyword).length+(if ([]:List Keyword).isEmpty then 0 else 1) < 30))=true
 line:(apos.endLine == cpos.line)=true
 trees:backTo cpos (starEach [e,f] X.env)=[(false,eval e X.env),(false,eval f X.env)]
def IsD (H:Hp) (a:Addr):Prop:=(∃ kvs,Rd H a (.dK kvs))∨∃ kvs,Rd H a (.dT kvs)
theorem isD_at {X:Cx}{pins:List (Addr × Obj)}{σ:St}{H:Hp}{s:Shared}{a:Addr}(I:Inv X pins σ H s) (d:IsD H a) :
  s.TypeIs (.ref a) "dict" ∧ (∀ b,Value.ref a=.ref b->∃ ob,s.heap.get? b=some ob∧ob.dict=none)∧(a == sysModules)=false:=by
 rcases d with ⟨kvs,e⟩|⟨kvs,e⟩
 ·obtain ⟨_,hd,vs,_,dd⟩:=dk_rd I.hok e
  refine ⟨dd.typeIs,fun b q=>?_,hd⟩
  cases q
  obtain ⟨ob,_,_,h1,h2,_⟩:=dd
  exact ⟨ob,h1,h2.2.1⟩
 ·obtain ⟨_,hd,xs,_,dd⟩:=dt_rd I.hok e
  refine ⟨dd.typeIs,fun b q=>?_,hd⟩
  cases q
  obtain ⟨ob,_,_,h1,h2,_⟩:=dd
  exact ⟨ob,h1,h2.2.1⟩
section
variable {X:Cx}{pins:List (Addr × Obj)}{σ:St}{H:Hp}{s:Shared}{a:Addr}{y d:V}{u r:Value}{o:Option V}{A:Around}{E:Value->Shared->Prop}
theorem d_get1 {Q:Value->Shared->Prop}(hu:A.units+1 < cLine) (I:Inv X pins σ H s) (g:DGet H a y o) (ry:RelV y u) (h:∀ w' s',Inv X pins σ H s'->RelV (o.getD .non) w'->Q w' s') :
  wpAny (model X.prog X.w) A (call (.builtin "dict.get") [.ref a,u]) Q E s:=by
 rcases g with ⟨kvs,k,e,ey,l⟩|⟨kvs,k,b,e,ey,eb,l⟩
 ·subst ey
  obtain ⟨z,hd,vs,rel,dd⟩:=dk_rd I.hok e
  refine call_meetsIn PySem.F.slot_dict_get dd.typeIs PySem.F.entry_dict_get (PySem.F.args_dict_get_2 _ _) (meets_dict_get (mixKind X.prog X.w) a (kV_is ry) hd) ⟨_,dd.mapOf,h _ _ (I.tok _) ?_⟩
  rw [l]
  exact (rel.val k).getD rfl
 ·subst ey
  cases (show u=Value.ref b from ry)
  obtain ⟨z,hd,xs,rel,dd⟩:=dt_rd I.hok e
  refine call_meetsIn PySem.F.slot_dict_get dd.typeIs PySem.F.entry_dict_get (PySem.F.args_dict_get_2 _ _) (meetsH_dict_get (tupleKind (mixKind X.prog X.w)) a b hd) ⟨tupleKind_room_in1 hu,k,xs,key_of I.hok eb,dd,h _ _ (I.tok _) ?_⟩
  rw [l]
  exact (rel.val k).getD rfl
theorem d_get2 {Q:Value->Shared->Prop}(hu:A.units+1 < cLine) (I:Inv X pins σ H s) (g:DGet H a y o) (ry:RelV y u) (rd:RelV d r) (h:∀ w' s',Inv X pins σ H s'->RelV (o.getD d) w'->Q w' s') :
  wpAny (model X.prog X.w) A (call (.builtin "dict.get") [.ref a,u,r]) Q E s:=by
 rcases g with ⟨kvs,k,e,ey,l⟩|⟨kvs,k,b,e,ey,eb,l⟩
 ·subst ey
  obtain ⟨z,hd,vs,rel,dd⟩:=dk_rd I.hok e
  refine call_meetsIn PySem.F.slot_dict_get dd.typeIs PySem.F.entry_dict_get (PySem.F.args_dict_get_3 _ _ _) (meets_dict_get_default (mixKind X.prog X.w) a (kV_is ry) hd r) ⟨_,dd.mapOf,h _ _ (I.tok _) ?_⟩
  rw [l]
  exact (rel.val k).getD rd
 ·subst ey
  cases (show u=Value.ref b from ry)
  obtain ⟨z,hd,xs,rel,dd⟩:=dt_rd I.hok e
  refine call_meetsIn PySem.F.slot_dict_get dd.typeIs PySem.F.entry_dict_get (PySem.F.args_dict_get_3 _ _ _) (meetsH_dict_get_default (tupleKind (mixKind X.prog X.w)) a b hd r) ⟨tupleKind_room_in1 hu,k,xs,key_of I.hok eb,dd,h _ _ (I.tok _) ?_⟩
  rw [l]
  exact (rel.val k).getD rd
end
def tDGet1 (td ty:TE):TE:=fun σ H Q=>td σ H fun x H1=>∃ a,x=.ref a∧IsD H1 a∧ty σ H1 fun y H2=>∃ o,DGet H2 a y o∧Q (o.getD .non) H2
def tDGet2 (td ty tx:TE):TE:=fun σ H Q=>td σ H fun x H1=>∃ a,x=.ref a∧IsD H1 a∧ty σ H1 fun y H2=>tx σ H2 fun z H3=>∃ o,DGet H3 a y o∧Q (o.getD z) H3
section
variable {X:Cx}{o e f:Expr}{apos cpos:Pos}{td ty tx:TE}
theorem pe_dget1 (hu:X.A.units+1 < cLine) (ho:PE X o td) (he:PE X e ty) (m:M1 X o "get" apos e cpos):PE X (.Call (.Attribute o "get" apos) [e] [] cpos) (tDGet1 td ty):=by
 intro pins s σ H Q I h
 refine wpAny_Call_method m.base m.few m.line PySem.F.plainAttrs_dict PySem.F.slot_dict_get PySem.F.type_dict_get (thn (ho pins s σ H _ I h) fun u s1 ⟨x,H1,I1,rx,a,ex,d,q1⟩=>?_)
 subst ex
 obtain rfl:u=Value.ref a:=rx
 obtain ⟨t1,t2,_⟩:=isD_at I1 d
 refine ⟨t1,t2,?_⟩
 rw [m.trees]
 refine Calls.callWith_builtin rfl (Calls.evalArgs_plain (Calls.spliced_cons (thn (he pins s1 σ H1 _ I1 q1) fun iv s2 ⟨y,H2,I2,ry,ov,g,q2⟩=>Calls.spliced_nil ?_)))
 exact d_get1 hu I2 g ry fun w' s3 I3 rw'=>⟨_,H2,I3,rw',q2⟩
theorem pe_dget2 (hu:X.A.units+1 < cLine) (ho:PE X o td) (he:PE X e ty) (hf:PE X f tx) (m:M2 X o "get" apos e f cpos):PE X (.Call (.Attribute o "get" apos) [e,f] [] cpos) (tDGet2 td ty tx):=by
 intro pins s σ H Q I h
 refine wpAny_Call_method m.base m.few m.line PySem.F.plainAttrs_dict PySem.F.slot_dict_get PySem.F.type_dict_get (thn (ho pins s σ H _ I h) fun u s1 ⟨x,H1,I1,rx,a,ex,d,q1⟩=>?_)
 subst ex
 obtain rfl:u=Value.ref a:=rx
 obtain ⟨t1,t2,_⟩:=isD_at I1 d
 refine ⟨t1,t2,?_⟩
 rw [m.trees]
 refine Calls.callWith_builtin rfl (Calls.evalArgs_plain (Calls.spliced_cons (thn (he pins s1 σ H1 _ I1 q1) fun iv s2 ⟨y,H2,I2,ry,q2⟩=>
  Calls.spliced_cons (thn (hf pins s2 σ H2 _ I2 q2) fun fv s3 ⟨z,H3,I3,rz,ov,g,q3⟩=>Calls.spliced_nil ?_))))
 exact d_get2 hu I3 g ry rz fun w' s4 I4 rw'=>⟨_,H3,I4,rw',q3⟩
end
section
variable {X:Cx}{pins:List (Addr × Obj)}{σ:St}{H:Hp}{s:Shared}{a:Addr}{kvs:List (Key × V)}{A:Around}{E:Value->Shared->Prop}
end
section
variable {X:Cx}{pins:List (Addr × Obj)}{σ:St}{H:Hp}{s:Shared}{a:Addr}{y:V}{u:Value}{A:Around}{E:Value->Shared->Prop}
end
end L2
namespace L2
open PySem PySem.Spec PyProof.Rows
section
variable {κ:Type} [DecidableEq κ]
end
end L2
set_option Elab.async false
set_option linter.all false
set_option maxRecDepth 100000
set_option maxHeartbeats 4000000
namespace L2
open PySem PySem.Spec PyProof.Rows
section
variable {X:Cx}
mutual
inductive DatV (K:PySem.W.Frag) (H:Hp):V->PyData->Prop
 | non:DatV K H .non .none
 | bl (b:Bool):DatV K H (.bl b) (.bool b)
 | int (i:Int):DatV K H (.int i) (.int i)
 | str (x:Str):DatV K H (.str x) (.str x)
 | lst {a:Addr} {xs:List V} {ds:List PyData} (h:SqL K H a xs) (r:DatVs K H xs ds):DatV K H (.ref a) (.list ds)
 | tup {a:Addr} {xs:List V} {ds:List PyData} (h:SqT K H a xs) (r:DatVs K H xs ds):DatV K H (.ref a) (.tuple ds)
inductive DatVs (K:PySem.W.Frag) (H:Hp):List V->List PyData->Prop
 | nil:DatVs K H [] []
 | cons {x:V} {d:PyData} {xs:List V} {ds:List PyData} (h:DatV K H x d) (t:DatVs K H xs ds):DatVs K H (x::xs) (d::ds)
end
mutual
theorem DatV.reads {pins:List (Addr × Obj)}{σ:St}{H:Hp}{s:Shared}(I:Inv X pins σ H s):∀ {x:V}{d:PyData}{u:Value},DatV X.K H x d->RelV x u->∃ as,Reads s.heap u d as
 | _,_,_,.non,r=>by cases (show _=Value.none from r);exact ⟨_,.none⟩
 | _,_,_,.bl b,r=>by cases (show _=Value.bool b from r);exact ⟨_,.bool b⟩
 | _,_,_,.int i,r=>by obtain ⟨t,rfl⟩:=r;exact ⟨_,.int i t⟩
 | _,_,_,.str x,r=>by obtain ⟨t,rfl⟩:=r;exact ⟨_,.str x t⟩
 | _,_,_,@DatV.lst _ _ a xs ds h q,r=>by
  cases (show _=Value.ref a from r)
  obtain ⟨its,hv,hp,_⟩:=I.list h
  obtain ⟨o,n,e,c,_,d⟩:=hp
  obtain ⟨as,z⟩:=DatVs.reads I q hv
  exact ⟨_,.list e c d (by simpa using z)⟩
 | _,_,_,@DatV.tup _ _ a xs ds h q,r=>by
  cases (show _=Value.ref a from r)
  obtain ⟨its,hv,hp,_⟩:=I.tuple h
  obtain ⟨o,e,c,n,d⟩:=hp
  obtain ⟨as,z⟩:=DatVs.reads I q hv
  exact ⟨_,.tuple e c d (by simpa using z)⟩
theorem DatVs.reads {pins:List (Addr × Obj)}{σ:St}{H:Hp}{s:Shared}(I:Inv X pins σ H s):∀ {xs:List V}{ds:List PyData}{us:List Value},DatVs X.K H xs ds->Vals xs us->∃ as,ReadsAll s.heap us ds as
 | _,_,_,.nil,.nil=>⟨_,.nil⟩
 | _,_,_,.cons h t,.cons r q=>by
  obtain ⟨as,z⟩:=DatV.reads I h r
  obtain ⟨bs,y⟩:=DatVs.reads I t q
  exact ⟨_,.cons z y⟩
end
def rEqD (K:PySem.W.Frag):R2:=fun x y H Q=>∃ d e,DatV K H x d∧DatV K H y e∧SeqAt.shaped d=true∧SeqAt.shaped e=true∧Q (.bl (PyData.eqv d e)) H
def rNeD (K:PySem.W.Frag):R2:=fun x y H Q=>∃ d e,DatV K H x d∧DatV K H y e∧SeqAt.shaped d=true∧SeqAt.shaped e=true∧Q (.bl (!PyData.eqv d e)) H
theorem op_eqD (hu:X.A.units+64 < cLine):OpR X (compareOp .Eq) (rEqD X.K):=by
 intro pins s σ H x y v u Q I rx ry h
 obtain ⟨d,e,hd,he,sd,se,q⟩:=h
 obtain ⟨as,z⟩:=hd.reads I rx
 obtain ⟨bs,z'⟩:=he.reads I ry
 exact SeqAt.compareEq_shaped z z' sd se hu ⟨.bl _,H,I,rfl,q⟩
theorem op_neD (hu:X.A.units+64 < cLine):OpR X (compareOp .NotEq) (rNeD X.K):=by
 intro pins s σ H x y v u Q I rx ry h
 obtain ⟨d,e,hd,he,sd,se,q⟩:=h
 obtain ⟨as,z⟩:=hd.reads I rx
 obtain ⟨bs,z'⟩:=he.reads I ry
 exact SeqAt.compareNe_shaped z z' sd se hu ⟨.bl _,H,I,rfl,q⟩
end
theorem same_upd {H:Hp}{p:Addr}{o:HO}(h:H p=none):Same H (upd H p o):=fun b u e=>by
 rw [upd_ne (ne_of_none e h)];exact e
theorem atI_lt {α:Type}(xs:List α) (i:Int) (h0:0≤i) (h1:i < xs.length):∃ v,atI xs i=some v∧v∈xs:=by
 have hl:i.toNat < xs.length:=by omega
 refine ⟨xs[i.toNat],?_,List.getElem_mem hl⟩
 have e:((i.toNat:Nat):Int)=i:=by omega
 have:=atI_nat (xs:=xs) (j:=i.toNat) (v:=xs[i.toNat]) (List.getElem?_eq_getElem hl)
 rw [e] at this
 exact this
theorem atI_ints (ns:List Int) (i:Int) (h0:0≤i) (h1:i < ns.length):∃ z,atI (ns.map V.int) i=some (.int z)∧z∈ns:=by
 obtain ⟨v,e,m⟩:=atI_lt (ns.map V.int) i h0 (by simpa using h1)
 obtain ⟨z,hz,rfl⟩:=List.mem_map.mp m
 exact ⟨z,e,hz⟩
end L2
set_option Elab.async false
set_option linter.all false
set_option maxRecDepth 100000
set_option maxHeartbeats 4000000
namespace L2
open PySem PySem.Spec PyProof.Rows
def clOf (cells:List (Str × Addr)):List (Str × NameKind)->List (Str × Addr)->List (Str × Addr)
 | [],acc=>acc
 | (n,k)::r,acc=>if (k == .free)=true then clOf cells r ((n,(cells.lookup n).getD 0)::acc) else clOf cells r acc
theorem closure_run {env:Env}:∀ (names:List (Str × NameKind)) (acc:List (Str × Addr)),(∀ y∈names,y.2=.free->∃ c,env.cells.lookup y.1=some c) →
  (forIn names acc (fun (x:Str × NameKind) (cs:List (Str × Addr))=>match x with
   | (name,kind)=>if (kind == .free)=true then (do let a ←cellOf env name;pure (ForInStep.yield ((name,a)::cs))) else (do pure PUnit.unit;pure (ForInStep.yield cs))):Sem (List (Str × Addr)))=pure (clOf env.cells names acc)
 | [],acc,_=>rfl
 | (n,k)::r,acc,h=>by
  rw [List.forIn_cons]
  have hr:∀ y∈r,y.2=.free->∃ c,env.cells.lookup y.1=some c:=fun y hy=>h y (List.mem_cons_of_mem _ hy)
  by_cases hk:(k == .free)=true
  ·obtain ⟨c,hc⟩:=h (n,k) List.mem_cons_self (by simpa using hk)
   have hc':env.cells.lookup n=some c:=hc
   simp only [hk,if_true,clOf,hc',Option.getD_some]
   have e:cellOf env n=pure c:=by unfold cellOf;rw [hc']
   rw [e]
   exact closure_run r _ hr
  ·simp only [hk,if_false,clOf]
   exact closure_run r acc hr
theorem closureFor_eq {scope:Scope}{env:Env}(h:∀ y∈scope.names,y.2=.free->∃ c,env.cells.lookup y.1=some c):closureFor scope env=pure (clOf env.cells scope.names []):=by
 unfold closureFor
 have:=closure_run (env:=env) scope.names [] h
 first
  | exact (congrArg (fun m=>m >>= fun cs=>pure cs) this).trans (pure_bind _ _)
  | (simp only [] at this ⊢;rw [this];rfl)
theorem clOf_sub {cells:List (Str × Addr)}{x:Str}{c:Addr}:∀ {names:List (Str × NameKind)}{acc:List (Str × Addr)},(∀ y∈names,y.2=.free->∃ c,cells.lookup y.1=some c)->(clOf cells names acc).lookup x=some c->acc.lookup x=some c∨cells.lookup x=some c
 | [],acc,_,h=>.inl h
 | (n,k)::r,acc,hf,h=>by
  have hr:∀ y∈r,y.2=.free->∃ c,cells.lookup y.1=some c:=fun y hy=>hf y (List.mem_cons_of_mem _ hy)
  unfold clOf at h
  by_cases hk:(k == .free)=true
  ·rw [if_pos hk] at h
   rcases clOf_sub hr h with q|q
   ·rw [List.lookup_cons] at q
    cases hx:x == n with
    | true=>
     rw [hx] at q
     obtain ⟨d,hd⟩:=hf (n,k) List.mem_cons_self (by simpa using hk)
     have e:x=n:=by simpa using hx
     subst e
     have hd':cells.lookup x=some d:=hd
     rw [hd'] at q ⊢
     exact .inr (by simpa using q)
    | false=>rw [hx] at q;exact .inl q
   ·exact .inr q
  ·rw [if_neg hk] at h
   exact clOf_sub hr h
theorem clOf_acc {cells:List (Str × Addr)}{x:Str}:∀ {names:List (Str × NameKind)}{acc:List (Str × Addr)},(∀ y∈names,y.2=.free->∃ c,cells.lookup y.1=some c)->(∃ c,acc.lookup x=some c)->∃ c,(clOf cells names acc).lookup x=some c
 | [],acc,_,h=>h
 | (n,k)::r,acc,hf,h=>by
  have hr:∀ y∈r,y.2=.free->∃ c,cells.lookup y.1=some c:=fun y hy=>hf y (List.mem_cons_of_mem _ hy)
  unfold clOf
  by_cases hk:(k == .free)=true
  ·rw [if_pos hk]
   refine clOf_acc hr ?_
   rw [List.lookup_cons]
   cases hx:x == n with
   | true=>exact ⟨_,rfl⟩
   | false=>exact h
  ·rw [if_neg hk]
   exact clOf_acc hr h
theorem clOf_has {cells:List (Str × Addr)}{x:Str}:∀ {names:List (Str × NameKind)}{acc:List (Str × Addr)},(∀ y∈names,y.2=.free->∃ c,cells.lookup y.1=some c)->names.lookup x=some .free->∃ c,(clOf cells names acc).lookup x=some c
 | [],acc,_,h=>by simp at h
 | (n,k)::r,acc,hf,h=>by
  have hr:∀ y∈r,y.2=.free->∃ c,cells.lookup y.1=some c:=fun y hy=>hf y (List.mem_cons_of_mem _ hy)
  rw [List.lookup_cons] at h
  unfold clOf
  cases hx:x == n with
  | true=>
   rw [hx] at h
   have hk:k=.free:=by simpa using h
   subst hk
   rw [if_pos (show (NameKind.free == NameKind.free)=true from rfl)]
   refine clOf_acc hr ⟨(cells.lookup n).getD 0,?_⟩
   rw [List.lookup_cons,hx]
  | false=>
   rw [hx] at h
   by_cases hk:(k == .free)=true
   ·rw [if_pos hk];exact clOf_has hr h
   ·rw [if_neg hk];exact clOf_has hr h
theorem lookup_mem {x:Str}{k:NameKind}:∀ {names:List (Str × NameKind)},names.lookup x=some k->(x,k)∈names
 | [],h=>by simp at h
 | (n,j)::r,h=>by
  rw [List.lookup_cons] at h
  cases hx:x == n with
  | true=>
   rw [hx] at h
   have e:x=n:=by simpa using hx
   have e2:j=k:=by simpa using h
   subst e;subst e2
   exact List.mem_cons_self
  | false=>rw [hx] at h;exact List.mem_cons_of_mem _ (lookup_mem h)
theorem lookup_relabel {env:Env}{x:Str}:∀ {names:List (Str × NameKind)},
  (names.map fun (n,k)=>if (k == NameKind.free && env.scope.kind == .function && env.kindOf n == some .cell) then (n,NameKind.cell) else (n,k)).lookup x
   = (names.lookup x).map fun k=>if (k == NameKind.free && env.scope.kind == .function && env.kindOf x == some .cell) then NameKind.cell else k
 | []=>rfl
 | (n,k)::r=>by
  have ih:=@lookup_relabel env x r
  show List.lookup x ((if (k == NameKind.free && env.scope.kind == .function && env.kindOf n == some .cell)=true then (n,NameKind.cell) else (n,k))::_)=_
  cases hx:x == n with
  | true=>
   have e:x=n:=by simpa using hx
   subst e
   by_cases hc:(k == NameKind.free && env.scope.kind == .function && env.kindOf x == some .cell)=true
   ·rw [if_pos hc]
    simp only [List.lookup_cons,beq_self_eq_true,Option.map_some]
    rw [if_pos hc]
   ·rw [if_neg hc]
    simp only [List.lookup_cons,beq_self_eq_true,Option.map_some]
    rw [if_neg hc]
  | false=>
   by_cases hc:(k == NameKind.free && env.scope.kind == .function && env.kindOf n == some .cell)=true
   ·rw [if_pos hc];simp only [List.lookup_cons,hx];exact ih
   ·rw [if_neg hc];simp only [List.lookup_cons,hx];exact ih
abbrev cCx (X:Cx) (scope:Scope) (N':List Str) (C:Addr) (s₀:Shared) (H₀:Hp) (ex:List Addr) (pn:List (Addr × Obj)):Cx:=
 { X with N:=N',s₀:=s₀,H₀:=H₀,env:=compEnvC scope (clOf X.env.cells scope.names []) C X.env,outer:=X.stack,stack:=X.stack,ex:=ex,fn:=fun _=>false,pn:=pn,xe:=fun _ _=>False }
def PTs (Y:Cx) (ifs:List Expr) (t:TT):Prop:=
 ∀ (pins:List (Addr × Obj)) (s:Shared) (σ:St) (H:Hp) (Q:Bool->Hp->Prop),Inv Y pins σ H s->t σ H Q →
  wpAny (model Y.prog Y.w) Y.A (forIn ifs true fun c r=>if r=true then do let ok ←isTrue c Y.env (eval c Y.env);pure (ForInStep.yield ok) else pure (ForInStep.yield r)) (TP Y pins σ Q) Y.xe s
def tYes:TT:=fun _ H Q=>Q true H
theorem pts_nil {Y:Cx}:PTs Y [] tYes:=fun _ _ _ H _ I h=>wpAny_pure ⟨H,I,h⟩
theorem pts_one {Y:Cx}{c:Expr}{t:TT}(h:PT Y c t):PTs Y [c] t:=fun pins s σ H Q I hw=>PySem.wpAny_tests_one (h pins s σ H Q I hw)
theorem HOk.but {P:Program}{w:World}{H:Hp}{h h':Heap}{C:Addr}(ok:HOk P w H h) (hn:H C=none) (hs:Heap.SameBut C h h'):HOk P w H h':=fun b ob e=>by
 refine (ok b ob e).stay (fun c w' hc q=>(hs.2 c ?_).trans q) (fun _ q=>q) fun _ _ q=>q
 rintro rfl
 rcases hc with rfl|hc
 ·rw [hn] at e;cases e
 ·rw [hn] at hc;cases hc
theorem Un.but {fs ex:List Addr}{H H':Hp}{h h1 h2:Heap}{C:Addr}(u:Un fs ex H H' h h1) (hs:Heap.SameBut C h1 h2) (hC:∀ b o,h.get? b=some o->b ≠ C):Un fs ex H H' h h2 where
 keep:=fun b o e n hb hx=>(hs.2 b (hC b o e)).trans (u.keep b o e n hb hx)
 slot:=fun b o e n hb hx=>by
  obtain ⟨sl,q⟩:=u.slot b o e n hb hx
  exact ⟨sl,(hs.2 b (hC b o e)).trans q⟩
 free:=u.free
 there:=fun b o e hx=>by
  obtain ⟨o',q⟩:=u.there b o e hx
  exact ⟨o',(hs.2 b (hC b o e)).trans q⟩
 tups:=u.tups
 frzs:=u.frzs
 tbls:=u.tbls
section
variable {X:Cx}
def tComp (k:Nat) (wi:TI) (g:TG) (tt:TT) (te:TE):TE:=fun σ H Q=>wi σ H fun J H1=>∀ D,H1 D=none->∃ W:Nat->Nat->List V->Hp->Prop,(∃ m,W 0 m [] (upd H1 D (.lst [])))∧∀ i m ys H,W i m ys H →
 (J.stop i H∧Q (.ref D) H)∨(J.go i H∧∃ N:List V->Hp->Prop,(∀ ys' H',N ys' H'->∃ m',m' < m∧W (i+1) m' ys' H') ∧
  ∀ x H',J.yld i H x H'->g x (List.replicate k none++σ) H' fun σ2 H2=>(∃ vs:St,vs.length=k∧σ2=vs++σ)∧tt σ2 H2 fun b H3=>if b=true then te σ2 H3 fun y H4=>H4 D=some (.lst ys)∧ys.length < sizeLine∧N (ys++[y]) (upd H4 D (.lst (ys++[y]))) else N ys H3)
theorem comp_loop {Y:Cx}{tg elt iter:Expr}{ifs:List Expr}{scope:Scope}{pos:Pos}{it D:Addr}{g:TG}{tt:TT}{te:TE}{J:It}{fp:List Addr}{tn:Nat->Heap->Prop}{k:Nat}{σ:St}{Q:VK}
  (hc:Y.calm=true) (hx:Y.xe=fun _ _=>False) (hg:PG Y tg g) (ht:PTs Y ifs tt) (he:PE Y elt te) (T:Turn Y.prog Y.w Y.K tg J fp it tn) (hf:∀ H:Hp,(∀ b∈fp,H b=none)->∀ b∈fp,FpOk Y [] H b)
  (W:Nat->Nat->List V->Hp->Prop)
  (turn:∀ i m ys H,W i m ys H->(J.stop i H∧Q (.ref D) H)∨(J.go i H∧∃ N:List V->Hp->Prop,(∀ ys' H',N ys' H'->∃ m',m' < m∧W (i+1) m' ys' H') ∧
   ∀ x H',J.yld i H x H'->g x (List.replicate k none++σ) H' fun σ2 H2=>(∃ vs:St,vs.length=k∧σ2=vs++σ)∧tt σ2 H2 fun b H3=>if b=true then te σ2 H3 fun y H4=>H4 D=some (.lst ys)∧ys.length < sizeLine∧N (ys++[y]) (upd H4 D (.lst (ys++[y]))) else N ys H3))
  (n:Nat) (s:Shared) (h:∃ i ys H,Inv Y [] (List.replicate k none++σ) H s∧tn i s.heap∧(∀ b∈fp,H b=none)∧W i n ys H) :
  codeAny (model Y.prog Y.w) Y.A (.compLoop (.ListComp elt [⟨tg,iter,ifs,0⟩] scope pos) 0 (.ref it) (.ref D) Y.env) (fun r s'=>r=.ok .next∧∃ H',Inv Y [] (List.replicate k none++σ) H' s'∧Q (.ref D) H') s:=by
 refine codeAny_loop rfl (fun n s=>∃ i ys H,Inv Y [] (List.replicate k none++σ) H s∧tn i s.heap∧(∀ b∈fp,H b=none)∧W i n ys H) ?_ n h
 rintro n s3 ⟨i,ys,H3,I3,st3,fr3,w3⟩
 show wpAny _ Y.A ((compTurn (.ListComp elt [⟨tg,iter,ifs,0⟩] scope pos) 0 (.ref it) (.ref D) Y.env).onRaise (fun x=>do noteFrame x Y.env;theTreesLotGoes x)) _ _ s3
 refine PySem.wpAny_noted ?_
 rw [PySem.compTurn_list]
 have no:∀ {α:Type} {m:Sem α} {P:α->Shared->Prop} {E:Value->Shared->Prop} {s:Shared},wpAny (model Y.prog Y.w) Y.A m P Y.xe s->wpAny (model Y.prog Y.w) Y.A m P E s:=fun {α m P E s} h=>
  wpAny_mono h (fun _ _ q=>q) fun _ _ q=>by rw [hx] at q;exact q.elim
 refine wpAny_bind (wpAny_standAt (wpAny_bind ?_))
 rcases turn i n ys H3 w3 with ⟨stop,qn⟩|⟨go,N,hN,step⟩
 ·refine thn (T.done Y rfl rfl rfl hc i [] s3 (List.replicate k none++σ) H3 _ I3 (hf H3 fr3) st3 stop) fun r s4 ⟨hr,I4⟩=>?_
  subst hr
  exact wpAny_pure ⟨rfl,H3,I4,qn⟩
 ·refine thn (T.item Y rfl rfl rfl hc i [] s3 (List.replicate k none++σ) H3 _ I3 (hf H3 fr3) st3 go) fun r s4 ⟨u,hr,h4⟩=>?_
  subst hr
  refine wpAny_bind (thn h4 fun _ s5 ⟨x,H5,I5,r5,y5,st5,fr5⟩=>?_)
  have I5':=I5.pinned (hf H5 fr5) (T.obj _ _ st5)
  refine wpAny_bind (no (thn (hg _ s5 (List.replicate k none++σ) H5 x u _ I5' r5 (step x H5 y5)) fun _ s6 ⟨σ6,H6,I6,⟨vs,hvs,e6⟩,q6⟩=>?_))
  subst e6
  have forget:∀ {pins:List (Addr × Obj)} {H:Hp} {s:Shared},Inv Y pins (vs++σ) H s->Inv Y pins (List.replicate k none++σ) H s:=fun {pins H s} I=>I.weak (by simp [hvs]) fun i v e=>by
   by_cases hi:i < k
   ·rw [List.getElem?_append_left (by simpa using hi)] at e
    simp [List.getElem?_replicate,hi] at e
   ·rw [List.getElem?_append_right (by simpa using Nat.le_of_not_lt hi)] at e
    rw [List.getElem?_append_right (by omega)]
    simpa [hvs] using e
  refine wpAny_bind (no (thn (ht _ s6 (vs++σ) H6 _ I6 q6) fun b s7 ⟨H7,I7,q7⟩=>?_))
  have again:∀ {H8:Hp} {s8:Shared} {ys':List V},Inv Y ([]++pinsAt fp s5.heap) (vs++σ) H8 s8->N ys' H8->∃ m,m < n∧∃ i ys H,Inv Y [] (List.replicate k none++σ) H s8∧tn i s8.heap∧(∀ b∈fp,H b=none)∧W i m ys H:=fun {H8 s8 ys'} I8 n8=>by
   obtain ⟨m',hm,w8⟩:=hN ys' H8 n8
   refine ⟨m',hm,i+1,ys',H8,forget I8.unpinned,T.keep _ _ _ st5 fun b hb o e=>(I8.pin (b,o) (List.mem_append_right _ (List.mem_append_right _ (mem_pinsAt hb e)))).1,fun b hb=>?_,w8⟩
   obtain ⟨o,e,d⟩:=T.obj _ _ st5 b hb
   exact (I8.pin (b,o) (List.mem_append_right _ (List.mem_append_right _ (mem_pinsAt hb e)))).2.1
  cases b with
  | false=>
   rw [if_neg Bool.false_ne_true] at q7
   exact wpAny_pure ⟨rfl,again I7 q7⟩
  | true=>
   rw [if_pos rfl] at q7
   refine wpAny_bind (wpAny_bind (no (thn (he _ s7 (vs++σ) H7 _ I7 q7) fun y s8 ⟨y',H8,I8,ry,q8,l8,n8⟩=>?_)))
   exact wpAny_bind (no (thn (mt_append _ s8 (vs++σ) H8 (.ref D) [y'] (.ref D) [y] (fun _ H'=>N (ys++[y']) H') I8 rfl (.cons ry .nil) ⟨D,ys,y',rfl,rfl,q8,l8,n8⟩) fun _ s9 ⟨_,H9,I9,_,q9⟩=>wpAny_pure (wpAny_pure ⟨rfl,again I9 q9⟩)))
structure CompOk (X:Cx) (scope:Scope) (N':List Str) (k:Nat):Prop where
 cell:∀ y∈scope.names,y.2 ≠ .cell
 kind:scope.kind=.function
 names:∀ y∈scope.names,y.2=.local->scope.names.lookup y.1=some .local
 free:∀ y∈scope.names,y.2=.free->X.env.scope.names.lookup y.1=some .cell
 len:N'.length=k+X.N.length
 sub:∀ i x,N'[k+i]? = some x->scope.names.lookup x=some .free->X.N[i]? = some x
 loc:∀ i x,N'[k+i]? = some x->scope.names.lookup x ≠ some .local
theorem CompOk.cells {scope:Scope}{N':List Str}{k:Nat}{pins:List (Addr × Obj)}{σ:St}{H:Hp}{s:Shared}(c:CompOk X scope N' k) (I:Inv X pins σ H s):∀ y∈scope.names,y.2=.free->∃ a,X.env.cells.lookup y.1=some a:=fun y hy e=>
 I.ok.has y.1 (.inl (c.free y hy e))
theorem inv_comp {scope:Scope}{N':List Str}{k:Nat}{pins:List (Addr × Obj)}{σ:St}{H:Hp}{s s₄:Shared}{fp:List Addr}{m:Str->Option Value}(c:CompOk X scope N' k) (hc:X.calm=true) (I:Inv X pins σ H s)
  (hf:∀ b∈fp,FpOk X pins H b) (hfl:∀ b∈fp,b < s.heap.objs.size) (hb:∀ b∈fp,X.base.get? b=none) (hns:s₄.heap.Ns s.heap.objs.size m) (hk:∀ b o,s.heap.get? b=some o->s₄.heap.get? b=some o) (ho:s₄.os=s.os) (hg:s₄.gens=s.gens) :
  Inv (cCx X scope N' s.heap.objs.size s H fp (X.pn++pins)) [] (List.replicate k none++σ) H s₄:=by
 have hcl:=c.cells I
 have sub:∀ x a,(clOf X.env.cells scope.names []).lookup x=some a->X.env.cells.lookup x=some a:=fun x a e=>by
  rcases clOf_sub hcl e with q|q
  ·simp at q
  ·exact q
 have kinds:∀ x,(compEnvC scope (clOf X.env.cells scope.names []) s.heap.objs.size X.env).kindOf x=some .cell∨(compEnvC scope (clOf X.env.cells scope.names []) s.heap.objs.size X.env).kindOf x=some .free->scope.names.lookup x=some .free:=fun x hx=>by
  have e:(compEnvC scope (clOf X.env.cells scope.names []) s.heap.objs.size X.env).kindOf x=(scope.names.lookup x).map fun k=>if (k == NameKind.free && X.env.scope.kind == .function && X.env.kindOf x == some .cell) then NameKind.cell else k:=lookup_relabel
  rw [e] at hx
  cases q:scope.names.lookup x with
  | none=>rw [q] at hx;simp at hx
  | some j=>
   rw [q] at hx
   have hj:j ≠ .cell:=c.cell (x,j) (lookup_mem q)
   cases j<;>simp_all
 have fresh:∀ b,s.heap.objs.size≤b->s.heap.get? b=none:=fun b hb=>Heap.get?_none_of_le hb
 have ne:∀ b o,s.heap.get? b=some o->b ≠ s.heap.objs.size:=fun b o e=>Nat.ne_of_lt (Heap.lt_size e)
 have cl_lt:∀ x a,X.env.cells.lookup x=some a->a < s.heap.objs.size:=fun x a e=>by
  obtain ⟨v,o,h1,_⟩:=I.cell x a e
  exact Heap.lt_size h1
 refine ⟨⟨I.ok.mod,c.kind,I.ok.glob,I.ok.blt,Nat.le_refl _,fun x y a e1 e2=>I.ok.inj x y a (sub x a e1) (sub y a e2),fun x hx=>clOf_has hcl (kinds x hx),(fun _ _ z=>nomatch z),I.ok.hd,I.ok.frames,.inl rfl,fun b hb'=>⟨Nat.ne_of_lt (hfl b hb'),fun x a e=>(hf b hb').2.2.2.2.1 x a (sub x a e)⟩,
   I.bs,Nat.le_trans I.ok.bsz I.sz,(fun b o e hb'=>by rw [hb b hb'] at e;cases e),fun b hb' hz=>?_,I.stack,I.stkFree⟩,ho,by rw [hg];exact I.bare,Un.kept hk,⟨m,hns,fun i x v e1 e2 e3=>?_⟩,fun x a e=>?_,I.hok.fresh (Nat.le_refl _),fun x a e=>I.freeC x a (sub x a e),fun p hp=>?_,I.hok.kept hk,?_⟩
 ·rcases List.mem_cons.mp (I.stkSub b hz) with z|z
  ·exact (hf b hb').2.1 z
  ·exact (hf b hb').2.2.1 z
 ·have hi:k≤i:=by
   refine Nat.le_of_not_lt fun hi=>?_
   rw [List.getElem?_append_left (by simpa using hi)] at e2
   simp [List.getElem?_replicate,hi] at e2
  obtain ⟨j,rfl⟩:∃ j,i=k+j:=⟨i - k,by omega⟩
  rw [List.getElem?_append_right (by simp)] at e2
  have e2':σ[j]? = some (some v):=by simpa using e2
  have e:(relabel scope X.env).names.lookup x=(scope.names.lookup x).map fun k=>if (k == NameKind.free && X.env.scope.kind == .function && X.env.kindOf x == some .cell) then NameKind.cell else k:=lookup_relabel
  have hfree:scope.names.lookup x=some .free:=by
   cases q:scope.names.lookup x with
   | none=>
    rcases e3 with z|z|z
    all_goals (have z':(relabel scope X.env).names.lookup x=some _:=z;rw [e,q] at z';simp at z')
   | some j'=>
    have h1:j' ≠ .cell:=c.cell (x,j') (lookup_mem q)
    have h2:j' ≠ .local:=fun z=>c.loc j x e1 (by rw [q,z])
    rcases e3 with z|z|z
    all_goals (have z':(relabel scope X.env).names.lookup x=some _:=z;rw [e,q] at z';cases j'<;>simp_all)
  have hX:=c.sub j x e1 hfree
  have hcellX:=c.free (x,.free) (lookup_mem hfree) rfl
  obtain ⟨m0,hn0,hl0⟩:=I.loc
  obtain ⟨u,r,l⟩:=hl0 j x v hX e2' (.inr (.inl hcellX))
  refine ⟨u,r,?_⟩
  rcases l with ⟨z,_⟩|⟨_,a,ea,hz⟩
  ·have z':X.env.scope.names.lookup x=some .local:=z
   rw [hcellX] at z';cases z'
  ·obtain ⟨a',ea'⟩:=clOf_has (acc:=[]) hcl hfree
   have e4:=sub x a' ea'
   rw [ea] at e4
   cases e4
   refine .inr ⟨.inl ?_,a,ea',?_⟩
   ·show (relabel scope X.env).names.lookup x=some .cell
    rw [e,hfree]
    have k1:(X.env.scope.kind == .function)=true:=by rw [I.ok.kind];rfl
    have k2:(X.env.kindOf x == some .cell)=true:=by
     have:X.env.kindOf x=some .cell:=hcellX
     rw [this];rfl
    simp [k1,k2]
   ·obtain ⟨o,h1,h2⟩:=hz
    exact ⟨o,hk _ _ h1,h2⟩
 ·obtain ⟨v,o,h1,h2⟩:=I.cell x a (sub x a e)
  exact ⟨v,o,hk _ _ h1,h2⟩
 ·have hp':p∈X.pn++pins:=by simpa using hp
  obtain ⟨e,n,nl,nf,d⟩:=I.pin p hp'
  refine ⟨hk _ _ e,n,ne _ _ e,fun z=>?_,d⟩
  rcases List.mem_cons.mp (I.stkSub _ z) with z|z
  ·exact nl z
  ·exact nf z
 ·show (List.replicate k none++σ).length=N'.length
  rw [c.len,List.length_append,List.length_replicate,I.len]
theorem comp_block {elt iter tg:Expr}{ifs:List Expr}{scope:Scope}{pos:Pos}{g:TG}{tt:TT}{te:TE}{N':List Str}{k:Nat}{it:Addr}{J:It}{fp:List Addr}{tn:Nat->Heap->Prop}{pins:List (Addr × Obj)}{σ:St}{H:Hp}{s:Shared}{Q:VK}{RR:Value->Addr->Result->Shared->Prop}{E:Value->Shared->Prop}
  (c:CompOk X scope N' k) (hc:X.calm=true) (I:Inv X pins σ H s) (T:Turn X.prog X.w X.K tg J fp it tn) (st:tn 0 s.heap) (hf:∀ b∈fp,FpOk X pins H b)
  (hg:∀ C s₀ H₀ ex pn,PG (cCx X scope N' C s₀ H₀ ex pn) tg g) (ht:∀ C s₀ H₀ ex pn,PTs (cCx X scope N' C s₀ H₀ ex pn) ifs tt) (he:∀ C s₀ H₀ ex pn,PE (cCx X scope N' C s₀ H₀ ex pn) elt te)
  (h:∀ D,H D=none->∃ W:Nat->Nat->List V->Hp->Prop,(∃ m,W 0 m [] (upd H D (.lst [])))∧∀ i m ys H,W i m ys H →
   (J.stop i H∧Q (.ref D) H)∨(J.go i H∧∃ N:List V->Hp->Prop,(∀ ys' H',N ys' H'->∃ m',m' < m∧W (i+1) m' ys' H') ∧
    ∀ x H',J.yld i H x H'->g x (List.replicate k none++σ) H' fun σ2 H2=>(∃ vs:St,vs.length=k∧σ2=vs++σ)∧tt σ2 H2 fun b H3=>if b=true then te σ2 H3 fun y H4=>H4 D=some (.lst ys)∧ys.length < sizeLine∧N (ys++[y]) (upd H4 D (.lst (ys++[y]))) else N ys H3))
  (fin:∀ D C s' H' m,s'.heap.Ns C m->C ≠ X.env.locals->(∀ x a,X.env.cells.lookup x=some a->a ≠ C)->(H' C=none∧X.s₀.heap.objs.size≤C∧∀ p∈X.pn++pins,p.1 ≠ C)->(∀ h',Heap.SameBut C s'.heap h'->Inv X pins σ H' { s' with heap:=h' })->Q (.ref D) H'->RR (.ref D) C (.ok .next) s') :
  wpAny (model X.prog X.w) X.A (newList []) (fun acc s₃=>wpAny (model X.prog X.w) X.A (newFunctionEnv scope X.env.globals (clOf X.env.cells scope.names []) [] X.env.qual none .none (some X.env)) (fun cenv s₄=>
   codeAny (model X.prog X.w) X.A (.compStart (.ListComp elt [⟨tg,iter,ifs,0⟩] scope pos) 0 (.ref it) acc { cenv with scope:=relabel scope X.env }) (RR acc cenv.locals) s₄) E s₃) E s:=by
 refine wpAny_newObj_type (wpAny_newFunctionEnv c.cell (by intro y hy;simp at hy) (fun h₁ hns₁ hsb₁=>?_) c.kind)
 dsimp only at hns₁ hsb₁ ⊢
 have I3:Inv X pins σ (upd H s.heap.objs.size (.lst [])) { s with heap:=s.heap.push { cls:=.type "list",data:=.seq ([]:List Value).toArray },toks:=s.toks }:=I.lnew (ys:=[]) (its:=[]) .nil (Nat.zero_le _)
 generalize hH2:s.heap.push { cls:=.type "list",dict:=none,data:=.seq ([]:List Value).toArray }=hp at hns₁ hsb₁ I3 ⊢
 have hlt:∀ b o,s.heap.get? b=some o->hp.get? b=some o:=fun b o e=>by rw [←hH2];exact Heap.get?_push_of_some _ e
 have hnD:H s.heap.objs.size=none:=I.hok.fresh (Nat.le_refl _)
 have kp:∀ b o,hp.get? b=some o->h₁.get? b=some o:=fun b o e=>hsb₁.extBut b o (Nat.ne_of_lt (Heap.lt_size e)) (Heap.get?_push_of_some _ e)
 have stk:∀ b∈fp,s.heap.get? b ≠ none:=fun b hb z=>by
  obtain ⟨o,e,_⟩:=T.obj _ _ st b hb
  rw [z] at e;cases e
 have flt:∀ b∈fp,b < s.heap.objs.size:=fun b hb=>by
  obtain ⟨o,e,_⟩:=T.obj _ _ st b hb
  exact Heap.lt_size e
 have fpD:∀ b∈fp,b ≠ s.heap.objs.size:=fun b hb=>Nat.ne_of_lt (flt b hb)
 have hf3:∀ b∈fp,FpOk X pins (upd H s.heap.objs.size (.lst [])) b:=fun b hb=>by
  obtain ⟨a1,a2⟩:=hf b hb
  exact ⟨by rw [upd_ne (fpD b hb)];exact a1,a2⟩
 have hnb:∀ b∈fp,X.base.get? b=none:=fun b hb=>by
  cases e:X.base.get? b with
  | none=>rfl
  | some o=>
   rcases (hf b hb).2.2.2.1 with z|z
   ·exact absurd z (I.ok.noex b o e)
   ·have:=Heap.lt_size (I.ok.bs b o e).1
    exact absurd (Nat.lt_of_lt_of_le this z) (Nat.lt_irrefl _)
 have hsz:s.heap.objs.size < hp.objs.size:=by rw [←hH2,Heap.size_push];exact Nat.lt_succ_self _
 have IY:=inv_comp (s₄:={ s with heap:=h₁,toks:=s.toks+([]:List (Str × Value)).length }) (fp:=fp) c hc I3 hf3 (fun b hb=>Nat.lt_trans (flt b hb) hsz) hnb hns₁ kp rfl rfl
 obtain ⟨W,⟨m0,w0⟩,turn⟩:=h s.heap.objs.size hnD
 have run:=comp_loop (Y:=cCx X scope N' hp.objs.size { s with heap:=hp,toks:=s.toks } (upd H s.heap.objs.size (.lst [])) fp (X.pn++pins)) (tg:=tg) (elt:=elt) (iter:=iter) (ifs:=ifs) (scope:=scope) (pos:=pos) (it:=it) (D:=s.heap.objs.size) (k:=k) (σ:=σ) (Q:=Q)
  hc rfl (hg _ _ _ _ _) (ht _ _ _ _ _) (he _ _ _ _ _) T (fun H' hn b hb=>⟨hn b hb,Nat.ne_of_lt (Nat.lt_trans (flt b hb) hsz),fun z=>(IY.ok.exfs b hb) z,.inl hb,fun x a e=>(IY.ok.exf b hb).2 x a e,fun p hp=>by
   have hp':p∈X.pn++pins:=by simpa using hp
   exact (hf b hb).2.2.2.2.2 p hp'⟩) W turn m0
 have st₁:tn 0 h₁:=T.keep _ _ _ st fun b hb o e=>kp b o (hlt b o e)
 have go:=run { s with heap:=h₁,toks:=s.toks+([]:List (Str × Value)).length } ⟨0,[],_,IY,st₁,fun b hb=>(hf3 b hb).1,w0⟩
 have out:∀ r s',(r=Except.ok Flow.next∧∃ H',Inv (cCx X scope N' hp.objs.size { s with heap:=hp,toks:=s.toks } (upd H s.heap.objs.size (.lst [])) fp (X.pn++pins)) [] (List.replicate k none++σ) H' s'∧Q (.ref s.heap.objs.size) H')->RR (.ref s.heap.objs.size) hp.objs.size r s':=by
  rintro r s' ⟨rfl,H',J',q⟩
  obtain ⟨m,hn,_⟩:=J'.loc
  have hC:hp.objs.size ≠ X.env.locals:=Nat.ne_of_gt (Nat.lt_of_lt_of_le I.lt (Nat.le_of_lt hsz))
  refine fin _ _ s' H' m hn hC (fun x a e=>?_) ⟨J'.free,Nat.le_trans I.sz (Nat.le_of_lt hsz),fun p hp'=>Nat.ne_of_lt (Nat.lt_trans (Heap.lt_size (I.pin p hp').1) hsz)⟩ (fun h' hs'=>?_) q
  ·obtain ⟨v,o,h1,_⟩:=I.cell x a e
   exact Nat.ne_of_lt (Nat.lt_trans (Heap.lt_size h1) hsz)
  ·refine I.call' (ch:=fp) ?_ ?_ ?_ J'.bare fun b hb=>⟨(hf b hb).2.2.2.1,(hf b hb).2.1,(hf b hb).2.2.2.2.1,(hf b hb).2.2.2.2.2⟩
   ·exact J'.os
   ·have u1:Un (frs X.stack) fp H (upd H s.heap.objs.size (.lst [])) s.heap hp:=Un.laid hlt (Nat.le_refl _) hnD
    exact (u1.trans J'.base).but hs' fun b o e=>Nat.ne_of_lt (Nat.lt_trans (Heap.lt_size e) hsz)
   ·exact J'.hok.but J'.free hs'
 exact codeAny_compStart_list (codeAny_mono go out) (T.self _ 0 _ _ _ st₁ (codeAny_mono go out))
theorem pe_comp {elt iter tg:Expr}{ifs:List Expr}{scope:Scope}{pos:Pos}{wi:TI}{g:TG}{tt:TT}{te:TE}{N':List Str}{k:Nat}
  (c:CompOk X scope N' k) (hc:X.calm=true) (hi:PI X tg iter wi)
  (hg:∀ C s₀ H₀ ex pn,PG (cCx X scope N' C s₀ H₀ ex pn) tg g) (ht:∀ C s₀ H₀ ex pn,PTs (cCx X scope N' C s₀ H₀ ex pn) ifs tt) (he:∀ C s₀ H₀ ex pn,PE (cCx X scope N' C s₀ H₀ ex pn) elt te)
  (hs:∀ x,foldedSetIterable iter X.env x=pure x:=by intro _;rfl):PE X (.ListComp elt [⟨tg,iter,ifs,0⟩] scope pos) (tComp k wi g tt te):=by
 intro pins s σ H Q I h
 rw [PySem.eval_ListComp]
 refine PySem.wpAny_comprehension_free (use:=none) rfl hs (closureFor_eq (c.cells I)) c.kind c.names (thn (hi pins s σ H _ I h) fun v s1 h1=>thn h1 fun itv s2 h2=>?_)
 obtain ⟨it,fp,tn,J,H2,rfl,I2,T,st2,f2,hW⟩:=h2
 refine comp_block (RR:=fun acc C=>PySem.compPost (model X.prog X.w) X.A X.xe none (EP X pins σ Q) acc C) c hc I2 T st2 f2 hg ht he hW ?_
 intro D C s' H' m hn _ _ _ hI q
 exact ⟨m,hn,fun h' hs'=>⟨.ref D,H',hI h' hs',rfl,q⟩⟩
def tSetC (i:Nat) (te:TE):TS:=fun D σ H=>te σ H fun x H1=>D.nx (σ.set i (some x)) H1
theorem ps_setC {elt iter tg:Expr}{ifs:List Expr}{scope:Scope}{pos spos py:Pos}{wi:TI}{g:TG}{tt:TT}{te:TE}{N':List Str}{k i:Nat}{y:Str}
  (hN:X.N.Nodup) (hi':X.N[i]? = some y) (hy:Loc X.env.scope y)
  (c:CompOk X scope N' k) (hc:X.calm=true) (hi:PI X tg iter wi)
  (hg:∀ C s₀ H₀ ex pn,PG (cCx X scope N' C s₀ H₀ ex pn) tg g) (ht:∀ C s₀ H₀ ex pn,PTs (cCx X scope N' C s₀ H₀ ex pn) ifs tt) (he:∀ C s₀ H₀ ex pn,PE (cCx X scope N' C s₀ H₀ ex pn) elt te)
  (hsw:swapsWith (.ListComp elt [⟨tg,iter,ifs,0⟩] scope pos) (some (.Name y py)) spos.line X.env=pure true:=by rfl)
  (hs:∀ x,foldedSetIterable iter X.env x=pure x:=by intro _;rfl) (hf:X.fn y=true∨X.env.scope.names.lookup y=some .local:=by first|exact .inl rfl|exact .inr rfl|assumption) :
  PS X (.Assign [.Name y py] (.ListComp elt [⟨tg,iter,ifs,0⟩] scope pos) spos) (tSetC i (tComp k wi g tt te)):=by
 intro pins s σ H D I h
 rw [PySem.exec_Assign_Name_used _ _ _ _ hsw]
 refine wpAny_bind (wpAny_standAt (wpAny_bind ?_))
 show wpAny _ X.A (do let _ ←comprehension (.ListComp elt [⟨tg,iter,ifs,0⟩] scope pos) scope X.env _ (newList []) false (eval iter X.env) (some (assign (.Name y py) X.env))) _ _ s
 refine wpAny_bind (thn (PySem.wpAny_comprehension_free (use:=some (assign (.Name y py) X.env)) (Q:=fun _ s'=>SP X pins D .next s') rfl hs (closureFor_eq (c.cells I)) c.kind c.names (thn (hi pins s σ H _ I h) fun v s1 h1=>thn h1 fun itv s2 h2=>?_)) fun _ s' hq=>wpAny_pure (wpAny_pure hq))
 obtain ⟨it,fp,tn,J,H2,rfl,I2,T,st2,f2,hW⟩:=h2
 refine comp_block (Q:=fun x H1=>D.nx (σ.set i (some x)) H1) (RR:=fun acc C=>PySem.compPost (model X.prog X.w) X.A X.xe (some (assign (.Name y py) X.env)) (fun _ s'=>SP X pins D .next s') acc C) c hc I2 T st2 f2 hg ht he hW ?_
 intro D' C s' H' m hn hCl hCc hCo hI q
 show wpAny _ X.A (assign (.Name y py) X.env (.ref D')) _ _ s'
 have I':Inv X pins σ H' s':=hI s'.heap (Heap.SameBut.refl _ _)
 refine wpAny_assign_Name (store_ok2 I' hN hi' hy (show RelV (.ref D') (.ref D') from rfl) (fun s'' I'' ⟨a,sb,ha⟩=>?_) hf)
 have hCa:C ≠ a:=by
  rcases ha with rfl|ha
  ·exact hCl
  ·exact fun z=>hCc _ _ ha z.symm
 refine ⟨m,hn.sameBut sb hCa,fun h' hs'=>⟨_,H',?_,q⟩⟩
 exact I''.turned (t':=s''.toks) (fun b o hb e=>(hs'.2 b hb).trans e) hCo.1 hCl (.inr hCo.2.1) hCc hCo.2.2
end
end L2
set_option Elab.async false
set_option linter.all false
set_option maxRecDepth 100000
set_option maxHeartbeats 4000000
namespace L2
open PySem PySem.Spec PyProof.Rows
section
variable {M:Model}{A:Around}{E:Value->Shared->Prop}{s:Shared}
end
section
variable {X:Cx}
set_option genInjectivity false in
end
end L2
set_option Elab.async false
set_option linter.all false
set_option maxRecDepth 100000
set_option maxHeartbeats 4000000
namespace L2
open PySem PySem.Spec PyProof.Rows
structure FunX (K:PySem.W.Frag) (x qual:Str) (st:Stmt) (f:Addr) (fd:FuncData):Prop where
 ex:∃ (oc:Value) (od:Option Addr) (dV kV doc pm:Value) (an:Option Addr) (cdv ct:Value) (osl:Array (Option Value)),
  fd=PySem.W.fnOf x qual (defArgs st) (defBody st) (defScope st) dV kV doc pm an cdv ct∧K.lookup f=some ⟨oc,od,.func fd,osl⟩∧PySem.W.codeIn K cdv qual=true
 kp:PySem.W.keepIn K (.ref f)=true
section
variable {P:Program}{w:World}{K:PySem.W.Frag}{mg:Str->Option Value}{base:Heap}
end
end L2
set_option Elab.async false
set_option linter.all false
set_option maxRecDepth 100000
set_option maxHeartbeats 4000000
namespace L2
open PySem PySem.Spec PyProof.Rows PySem.W
section
variable {prog:Program}{w:World}{A:Around}{E:Value->Shared->Prop}{s:Shared}{K:PySem.W.Frag}{x C:Addr}{ox:Obj}{od:Option Obj}{name:Str}
end
end L2
set_option Elab.async false
set_option linter.all false
set_option maxRecDepth 100000
set_option maxHeartbeats 4000000
namespace L2
open PySem PySem.Spec PyProof.Rows
structure NewAt (X:Cx) (pins:List (Addr × Obj)) (e:Addr):Prop where
 s0:X.s₀.heap.get? e=none
 loc:e ≠ X.env.locals
 cel:∀ x c,X.env.cells.lookup x=some c->c ≠ e
 fs:e ∉ X.fs
 pin:∀ p∈X.pn++pins,p.1 ≠ e
section
variable {X:Cx}
end
end L2
set_option Elab.async false
set_option linter.all false
set_option maxRecDepth 100000
set_option maxHeartbeats 4000000
namespace L2
open PySem PySem.Spec PyProof.Rows PySem.W
section
variable {prog:Program}{w:World}{A:Around}{R:Result->Shared->Prop}{h:Heap}{g:Array GenState}{d:Drawn}{t:Nat}{os:OsState}{K:Frag}
variable {nm q:Str}{C N fI:Addr}{bs bm bmB:List Value}{hdct:Bool}{sn:List Str}{sub:List Value}{ab:Bool}{col:Option Bool}{dd:Option Addr}{k0 k1 k2 k3 k5:Option Value}{B Bn newId nid initId inN:String}{bmN:List Value}
end
section
variable {prog:Program}{w:World}{A:Around}{E:Value->Shared->Prop}{K:Frag}{x C:Addr}{s:Shared}{name:Str}{v:Value}
end
end L2
set_option Elab.async false
set_option linter.all false
set_option maxRecDepth 100000
set_option maxHeartbeats 4000000
namespace L2
open PySem PySem.Spec PyProof.Rows PySem.W
section
variable {prog:Program}{w:World}{A:Around}{E:Value->Shared->Prop}{s:Shared}{K:PySem.W.Frag}{x C dx:Addr}{ox:Obj}{od:Option Obj}{name:Str}{mA:Str->Option Value}{u:Value}
end
section
variable {prog:Program}{w:World}{A:Around}{E:Value->Shared->Prop}{h:Heap}{g:Array GenState}{d:Drawn}{t:Nat}{os:OsState}{e a0:Addr}{dct:Option Addr}
variable {nm q:Str}{C N:Addr}{bs bm bmB:List Value}{hdct:Bool}{sn:List Str}{sub:List Value}{ab:Bool}{col:Option Bool}{dd:Option Addr}{k0 k1 k2 k3 k5:Option Value}{B newId nid initId:String}
end
section
variable {X:Cx}{pins:List (Addr × Obj)}{σ:St}{H:Hp}{s:Shared}
theorem Inv.adopt {a:Addr}{o:HO}(I:Inv X pins σ H s) (N:NewAt X pins a) (hn:H a=none) (new:ObjOk X.prog X.w (upd H a o) s.heap a o):Inv X pins σ (upd H a o) s:=by
 have ne:∀ {b:Addr} {u:HO},H b=some u->b ≠ a:=fun q z=>by rw [z,hn] at q;cases q
 refine ⟨I.ok,I.os,I.bare,⟨I.base.keep,I.base.slot,fun b u q n hx=>?_,I.base.there,fun b xs q=>?_,fun b u v q=>?_,fun b ps q=>?_⟩,I.loc,I.cell,?_,fun x c q=>?_,fun p hp=>?_,fun b u q=>?_,I.len⟩
 ·rw [upd_ne (fun z=>by rw [z,N.s0] at q;cases q)];exact I.base.free b u q n hx
 ·have z:=I.base.tups b xs q;rw [upd_ne (ne z)];exact z
 ·have z:=I.base.frzs b u v q;rw [upd_ne (ne z)];exact z
 ·obtain ⟨m,z⟩:=I.base.tbls b ps q;exact ⟨m,by rw [upd_ne (ne z)];exact z⟩
 ·rw [upd_ne (Ne.symm N.loc)];exact I.free
 ·rw [upd_ne (N.cel x c q)];exact I.freeC x c q
 ·obtain ⟨a1,b1,c1,d1,f1⟩:=I.pin p hp
  exact ⟨a1,by rw [upd_ne (N.pin p hp)];exact b1,c1,d1,f1⟩
 ·by_cases hb:b=a
  ·subst hb;rw [upd_same] at q;cases q;exact new
  ·rw [upd_ne hb] at q
   exact (I.hok b u q).stay (fun _ _ _ r=>r) (fun c r=>by rw [upd_ne (ne r)];exact r) fun c xs r=>by rw [upd_ne (ne r)];exact r
theorem Inv.newAt {a:Addr}(I:Inv X pins σ H s) (ha:s.heap.objs.size≤a):NewAt X pins a where
 s0:=Heap.get?_none_of_le (Nat.le_trans I.sz ha)
 loc:=Nat.ne_of_gt (Nat.lt_of_lt_of_le I.lt ha)
 cel:=fun x c e z=>by
  obtain ⟨v,o,q,_⟩:=I.cell x c e
  exact absurd (Nat.lt_of_lt_of_le (Heap.lt_size q) (by rw [z];exact ha)) (Nat.lt_irrefl _)
 fs:=I.nofs ha
 pin:=fun p hp z=>absurd (Nat.lt_of_lt_of_le (Heap.lt_size (I.pin p hp).1) (by rw [z];exact ha)) (Nat.lt_irrefl _)
end
end L2
set_option Elab.async false
set_option linter.all false
set_option maxRecDepth 100000
set_option maxHeartbeats 4000000
namespace L2
open PySem PySem.Spec PyProof.Rows PySem.W
section
variable {X:Cx}{e o value:Expr}{ta tv:TE}{f:Str}{pos pos':Pos}
end
def del (H:Hp) (e:Addr):Hp:=fun b=>if b=e then none else H b
section
variable {X:Cx}
end
end L2
set_option Elab.async false
set_option linter.all false
set_option maxRecDepth 100000
set_option maxHeartbeats 4000000
namespace L2
open PySem
open PySem.Spec PyProof.Rows
theorem gName_0 {a:Option V}{v:V}{σ:St}{H:Hp}{Q:St->Hp->Prop}:gName 0 v (a::σ) H Q=Q (some v::σ) H:=rfl
theorem gName_1 {a0:Option V}{a:Option V}{v:V}{σ:St}{H:Hp}{Q:St->Hp->Prop}:gName 1 v (a0::a::σ) H Q=Q (a0::some v::σ) H:=rfl
theorem gName_2 {a0 a1:Option V}{a:Option V}{v:V}{σ:St}{H:Hp}{Q:St->Hp->Prop}:gName 2 v (a0::a1::a::σ) H Q=Q (a0::a1::some v::σ) H:=rfl
theorem gName_3 {a0 a1 a2:Option V}{a:Option V}{v:V}{σ:St}{H:Hp}{Q:St->Hp->Prop}:gName 3 v (a0::a1::a2::a::σ) H Q=Q (a0::a1::a2::some v::σ) H:=rfl
theorem gName_4 {a0 a1 a2 a3:Option V}{a:Option V}{v:V}{σ:St}{H:Hp}{Q:St->Hp->Prop}:gName 4 v (a0::a1::a2::a3::a::σ) H Q=Q (a0::a1::a2::a3::some v::σ) H:=rfl
theorem gName_5 {a0 a1 a2 a3 a4:Option V}{a:Option V}{v:V}{σ:St}{H:Hp}{Q:St->Hp->Prop}:gName 5 v (a0::a1::a2::a3::a4::a::σ) H Q=Q (a0::a1::a2::a3::a4::some v::σ) H:=rfl
theorem gName_6 {a0 a1 a2 a3 a4 a5:Option V}{a:Option V}{v:V}{σ:St}{H:Hp}{Q:St->Hp->Prop}:gName 6 v (a0::a1::a2::a3::a4::a5::a::σ) H Q=Q (a0::a1::a2::a3::a4::a5::some v::σ) H:=rfl
theorem gName_7 {a0 a1 a2 a3 a4 a5 a6:Option V}{a:Option V}{v:V}{σ:St}{H:Hp}{Q:St->Hp->Prop}:gName 7 v (a0::a1::a2::a3::a4::a5::a6::a::σ) H Q=Q (a0::a1::a2::a3::a4::a5::a6::some v::σ) H:=rfl
theorem gName_8 {a0 a1 a2 a3 a4 a5 a6 a7:Option V}{a:Option V}{v:V}{σ:St}{H:Hp}{Q:St->Hp->Prop}:gName 8 v (a0::a1::a2::a3::a4::a5::a6::a7::a::σ) H Q=Q (a0::a1::a2::a3::a4::a5::a6::a7::some v::σ) H:=rfl
def optK {α:Type}:Option α->(α->Prop)->Prop
 | some x,k=>k x
 | none,_=>False
theorem optK_some {α:Type}(x:α) (k:α->Prop):optK (some x) k=k x:=rfl
theorem optK_ex {α:Type}{o:Option α}{k:α->Prop}(h:optK o k):∃ x,o=some x∧k x:=by
 cases o with
 | none=>exact h.elim
 | some x=>exact ⟨x,rfl,h⟩
def seqO:HO->Option (List V)
 | .lst xs=>some xs
 | .tup xs=>some xs
 | .frz _ (.lst xs)=>some xs
 | _=>none
def lstO:HO->Option (List V)
 | .lst xs=>some xs
 | _=>none
def tupO:HO->Option (List V)
 | .tup xs=>some xs
 | _=>none
def itemsAt (H:Hp) (p:Addr):Option (List V):=(H p).bind seqO
def lstAt (H:Hp) (p:Addr):Option (List V):=(H p).bind lstO
def tupAt (H:Hp) (p:Addr):Option (List V):=(H p).bind tupO
theorem seqO_lst (xs:List V):seqO (.lst xs)=some xs:=rfl
theorem seqO_tup (xs:List V):seqO (.tup xs)=some xs:=rfl
theorem lstO_lst (xs:List V):lstO (.lst xs)=some xs:=rfl
theorem tupO_tup (xs:List V):tupO (.tup xs)=some xs:=rfl
theorem bind_some' {α β:Type}(x:α) (f:α->Option β):(some x).bind f=f x:=rfl
abbrev Ext (H H':Hp):Prop:=(∀ a,(H a).isSome=true->H' a=H a)∧∀ (K:PySem.W.Frag) a xs,SqL K H a xs->SqL K H' a xs
def kOp' (r:R2) (x:V) (Q:VK):VK:=fun y H=>r x y H Q
theorem m_kOp' (r:R2) (x y:V) (H:Hp) (Q:VK):(kOp' r x Q y H)=(r x y H Q):=rfl
def kOp (r:R2) (tb:TE) (σ:St) (Q:VK):VK:=fun x H=>tb σ H (kOp' r x Q)
theorem m_kOp (r:R2) (tb:TE) (σ:St) (Q:VK) (x:V) (H:Hp):(kOp r tb σ Q x H)=(tb σ H (kOp' r x Q)):=rfl
theorem m_tOp (r:R2) (ta tb:TE) (σ:St) (H:Hp) (Q:VK):(tOp r ta tb σ H Q)=(ta σ H (kOp r tb σ Q)):=rfl
theorem m_tC (v:V) (σ:St) (H:Hp) (Q:VK):(tC v σ H Q)=(Q v H):=rfl
def kUn (r:V->Hp->VK->Prop) (Q:VK):VK:=fun x H=>r x H Q
theorem m_kUn (r:V->Hp->VK->Prop) (Q:VK) (x:V) (H:Hp):(kUn r Q x H)=(r x H Q):=rfl
theorem m_tUn (r:V->Hp->VK->Prop) (ta:TE) (σ:St) (H:Hp) (Q:VK):(tUn r ta σ H Q)=(ta σ H (kUn r Q)):=rfl
def kTest (Q:Bool->Hp->Prop):VK:=fun x H=>∃ k,x=.bl k∧Q k H
def kNot (Q:Bool->Hp->Prop):Bool->Hp->Prop:=fun c H=>Q (!c) H
theorem m_kNot (Q:Bool->Hp->Prop) (c:Bool) (H:Hp):(kNot Q c H)=(Q (!c) H):=rfl
theorem m_tNot (t:TT) (σ:St) (H:Hp) (Q:Bool->Hp->Prop):(tNot t σ H Q)=(t σ H (kNot Q)):=rfl
def kAnd (u:TT) (σ:St) (Q:Bool->Hp->Prop):Bool->Hp->Prop:=fun c H=>if c=true then u σ H Q else Q false H
theorem m_kAnd (u:TT) (σ:St) (Q:Bool->Hp->Prop) (c:Bool) (H:Hp):(kAnd u σ Q c H)=(if c=true then u σ H Q else Q false H):=rfl
theorem m_tAnd (t u:TT) (σ:St) (H:Hp) (Q:Bool->Hp->Prop):(tAnd t u σ H Q)=(t σ H (kAnd u σ Q)):=rfl
def kOr (u:TT) (σ:St) (Q:Bool->Hp->Prop):Bool->Hp->Prop:=fun c H=>if c=true then Q true H else u σ H Q
theorem m_kOr (u:TT) (σ:St) (Q:Bool->Hp->Prop) (c:Bool) (H:Hp):(kOr u σ Q c H)=(if c=true then Q true H else u σ H Q):=rfl
theorem m_tOr (t u:TT) (σ:St) (H:Hp) (Q:Bool->Hp->Prop):(tOr t u σ H Q)=(t σ H (kOr u σ Q)):=rfl
def kAndV (tb:TE) (σ:St) (Q:VK):VK:=fun x H=>∃ c,x=.bl c∧if c=true then tb σ H Q else Q (.bl false) H
def kNotV (Q:VK):VK:=fun x H=>∃ c,x=.bl c∧Q (.bl (!c)) H
theorem m_tNil (σ:St) (H:Hp) (Q:List V->Hp->Prop):(tNil σ H Q)=(Q [] H):=rfl
def kCons' (x:V) (Q:List V->Hp->Prop):List V->Hp->Prop:=fun xs H=>Q (x::xs) H
theorem m_kCons' (x:V) (Q:List V->Hp->Prop) (xs:List V) (H:Hp):(kCons' x Q xs H)=(Q (x::xs) H):=rfl
def kCons (tr:TA) (σ:St) (Q:List V->Hp->Prop):VK:=fun x H=>tr σ H (kCons' x Q)
theorem m_kCons (tr:TA) (σ:St) (Q:List V->Hp->Prop) (x:V) (H:Hp):(kCons tr σ Q x H)=(tr σ H (kCons' x Q)):=rfl
theorem m_tCons (ta:TE) (tr:TA) (σ:St) (H:Hp) (Q:List V->Hp->Prop):(tCons ta tr σ H Q)=(ta σ H (kCons tr σ Q)):=rfl
def kCall (sp:Sp) (dvs:List V) (E:XK) (Q:VK):List V->Hp->Prop:=fun vs H=>sp (vs++dvs) H Q E
theorem m_kCall_1 (v0:V) (sp:Sp) (dvs:List V) (E:XK) (Q:VK) (H:Hp):kCall sp dvs E Q [v0] H=sp (v0::dvs) H Q E:=rfl
theorem m_kCall_2 (v0 v1:V) (sp:Sp) (dvs:List V) (E:XK) (Q:VK) (H:Hp):kCall sp dvs E Q [v0,v1] H=sp (v0::v1::dvs) H Q E:=rfl
theorem m_kCall_3 (v0 v1 v2:V) (sp:Sp) (dvs:List V) (E:XK) (Q:VK) (H:Hp):kCall sp dvs E Q [v0,v1,v2] H=sp (v0::v1::v2::dvs) H Q E:=rfl
theorem m_tCall (sp:Sp) (dvs:List V) (E:XK) (t:TA) (σ:St) (H:Hp) (Q:VK):(tCall sp dvs E t σ H Q)=(t σ H (kCall sp dvs E Q)):=rfl
def kCB (r:List V->Hp->VK->Prop) (Q:VK):List V->Hp->Prop:=fun vs H=>r vs H Q
theorem m_kCB (r:List V->Hp->VK->Prop) (Q:VK) (vs:List V) (H:Hp):(kCB r Q vs H)=(r vs H Q):=rfl
theorem m_tCB (r:List V->Hp->VK->Prop) (t:TA) (σ:St) (H:Hp) (Q:VK):(tCB r t σ H Q)=(t σ H (kCB r Q)):=rfl
theorem m_tNext (nx:St->Hp->Prop) (rt:VK) (bk ct:St->Hp->Prop) (σ:St) (H:Hp):(tNext ⟨nx,rt,bk,ct⟩ σ H)=(nx σ H):=rfl
theorem m_tSeq (t u:TS) (nx:St->Hp->Prop) (rt:VK) (bk ct:St->Hp->Prop) (σ:St) (H:Hp):(tSeq t u ⟨nx,rt,bk,ct⟩ σ H)=(t ⟨u ⟨nx,rt,bk,ct⟩,rt,bk,ct⟩ σ H):=rfl
theorem m_tRet (te:TE) (nx:St->Hp->Prop) (rt:VK) (bk ct:St->Hp->Prop) (σ:St) (H:Hp):(tRet te ⟨nx,rt,bk,ct⟩ σ H)=(te σ H rt):=rfl
def kDrop (nx:St->Hp->Prop) (σ:St):VK:=fun x H=>nx σ H
theorem m_kDrop (nx:St->Hp->Prop) (σ:St) (x:V) (H:Hp):(kDrop nx σ x H)=(nx σ H):=rfl
theorem m_tDrop (te:TE) (nx:St->Hp->Prop) (rt:VK) (bk ct:St->Hp->Prop) (σ:St) (H:Hp):(tDrop te ⟨nx,rt,bk,ct⟩ σ H)=(te σ H (kDrop nx σ)):=rfl
def kIfS (t u:TS) (D:Ends) (σ:St):Bool->Hp->Prop:=fun b H=>if b=true then t D σ H else u D σ H
theorem m_kIfS (t u:TS) (D:Ends) (σ:St) (b:Bool) (H:Hp):(kIfS t u D σ b H)=(if b=true then t D σ H else u D σ H):=rfl
theorem m_tIfS (c:TT) (t u:TS) (D:Ends) (σ:St) (H:Hp):(tIfS c t u D σ H)=(c σ H (kIfS t u D σ)):=rfl
def kAsg (g:TG) (σ:St) (nx:St->Hp->Prop):VK:=fun x H=>g x σ H nx
theorem m_kAsg (g:TG) (σ:St) (nx:St->Hp->Prop) (x:V) (H:Hp):(kAsg g σ nx x H)=(g x σ H nx):=rfl
theorem m_tAsg (te:TE) (g:TG) (nx:St->Hp->Prop) (rt:VK) (bk ct:St->Hp->Prop) (σ:St) (H:Hp):(tAsg te g ⟨nx,rt,bk,ct⟩ σ H)=(te σ H (kAsg g σ nx)):=rfl
def kGs (u:TGs) (r:List V) (Q:St->Hp->Prop):St->Hp->Prop:=fun σ' H'=>u r σ' H' Q
theorem m_kGs (u:TGs) (r:List V) (Q:St->Hp->Prop) (σ:St) (H:Hp):(kGs u r Q σ H)=(u r σ H Q):=rfl
end L2
set_option Elab.async false
set_option linter.all false
set_option maxRecDepth 100000
set_option maxHeartbeats 4000000
namespace L2
open PySem PySem.Spec PyProof.Rows
section
variable {X:Cx}
theorem OpR.mono {f:Value->Value->Sem Value}{r r':R2}(h:OpR X f r) (m:∀ x y H Q,r' x y H Q->r x y H Q):OpR X f r':=fun pins s σ H x y v u Q I rx ry hq=>h pins s σ H x y v u Q I rx ry (m _ _ _ _ hq)
theorem CallR.mono {f:Value}{r r':List V->Hp->VK->Prop}(h:CallR X f r) (m:∀ xs H Q,r' xs H Q->r xs H Q):CallR X f r':=fun pins s σ H xs us Q I rx hq=>h pins s σ H xs us Q I rx (m _ _ _ hq)
theorem IxR.mono {r r':R2}(h:IxR X r) (m:∀ x y H Q,r' x y H Q->r x y H Q):IxR X r':=fun a b pins s σ H x y v u Q I rx ry hq=>h a b pins s σ H x y v u Q I rx ry (m _ _ _ _ hq)
theorem SlR.mono {r r':V->Option Int->Option Int->Hp->VK->Prop}(h:SlR X r) (m:∀ x lo hi H Q,r' x lo hi H Q->r x lo hi H Q):SlR X r':=fun pins s σ H x v vl vu lo hi sl Q I rx a b c hq=>h pins s σ H x v vl vu lo hi sl Q I rx a b c (m _ _ _ _ _ hq)
theorem PG.mono {tg:Expr}{g g':TG}(h:PG X tg g) (m:∀ v σ H Q,g' v σ H Q->g v σ H Q):PG X tg g':=fun pins s σ H v u Q I r hq=>h pins s σ H v u Q I r (m _ _ _ _ hq)
theorem items_seq {K:PySem.W.Frag}{H:Hp}{p:Addr}{ys:List V}(h:itemsAt H p=some ys):SqL K H p ys∨SqT K H p ys:=by
 unfold itemsAt at h
 cases e:H p with
 | none=>rw [e] at h;cases h
 | some o=>
  rw [e] at h
  have h':seqO o=some ys:=h
  cases o with
  | lst xs=>cases h';exact .inl (SqL.of e)
  | tup xs=>cases h';exact .inr (SqT.of e)
  | frz ob u=>
   cases u with
   | lst xs=>cases h';exact .inl (.inl (.inr ⟨ob,e⟩))
   | _=>cases h'
  | _=>cases h'
theorem lst_of {H:Hp}{p:Addr}{ys:List V}(h:lstAt H p=some ys):H p=some (.lst ys):=by
 unfold lstAt at h
 cases e:H p with
 | none=>rw [e] at h;cases h
 | some o=>
  rw [e] at h
  have h':lstO o=some ys:=h
  cases o with
  | lst xs=>cases h';rfl
  | _=>cases h'
theorem tup_of {H:Hp}{p:Addr}{ys:List V}(h:tupAt H p=some ys):H p=some (.tup ys):=by
 unfold tupAt at h
 cases e:H p with
 | none=>rw [e] at h;cases h
 | some o=>
  rw [e] at h
  have h':tupO o=some ys:=h
  cases o with
  | tup xs=>cases h';rfl
  | _=>cases h'
def kLen (H:Hp) (Q:VK):List V->Prop:=fun ys=>Q (.int ys.length) H
theorem m_kLen (H:Hp) (Q:VK) (ys:List V):kLen H Q ys=Q (.int ys.length) H:=rfl
def qLen (xs:List V) (H:Hp) (Q:VK):Prop:=match xs with
 | [.ref p]=>optK (itemsAt H p) (kLen H Q)
 | [.str z]=>z.length≤sizeLine∧Q (.int z.length) H
 | _=>False
theorem m_qLen (p:Addr) (H:Hp) (Q:VK):qLen [.ref p] H Q=optK (itemsAt H p) (kLen H Q):=rfl
theorem call_qLen:CallR X (.builtin "len") qLen:=by
 refine (call_len_seq.or call_len_str).mono fun xs H Q h=>?_
 unfold qLen at h
 split at h
 ·rename_i p
  obtain ⟨ys,e,q⟩:=optK_ex h
  exact .inl ⟨p,ys,rfl,items_seq e,q⟩
 ·rename_i z
  exact .inr ⟨z,rfl,h.1,h.2⟩
 ·exact h.elim
def kIx' (H:Hp) (Q:VK):V->Prop:=fun v=>Q v H
theorem m_kIx' (H:Hp) (Q:VK) (v:V):kIx' H Q v=Q v H:=rfl
def kIx (i:Int) (H:Hp) (Q:VK):List V->Prop:=fun ys=>optK (atI ys i) (kIx' H Q)
theorem m_kIx (i:Int) (H:Hp) (Q:VK) (ys:List V):kIx i H Q ys=optK (atI ys i) (kIx' H Q):=rfl
def qIx:R2:=fun x y H Q=>match x,y with
 | .ref p,.int i=>optK (itemsAt H p) (kIx i H Q)
 | _,_=>False
theorem m_qIx (p:Addr) (i:Int) (H:Hp) (Q:VK):qIx (.ref p) (.int i) H Q=optK (itemsAt H p) (kIx i H Q):=rfl
theorem ix_q:IxR X qIx:=by
 refine (ix_list.or ix_tup).mono fun x y H Q h=>?_
 unfold qIx at h
 split at h
 ·rename_i p i
  obtain ⟨ys,e,q⟩:=optK_ex h
  obtain ⟨v,e2,q2⟩:=optK_ex q
  rcases items_seq (K:=X.K) e with z|z
  ·exact .inl ⟨p,ys,i,v,rfl,rfl,z,e2,q2⟩
  ·exact .inr ⟨p,ys,i,v,rfl,rfl,z,e2,q2⟩
 ·exact h.elim
theorem atI_0 {α:Type}(a:α) (xs:List α):atI (a::xs) 0=some a:=atI_nat (j:=0) rfl
theorem atI_1 {α:Type}(a b:α) (xs:List α):atI (a::b::xs) 1=some b:=atI_nat (j:=1) rfl
def kTupO (p:Addr) (H:Hp) (Q:VK):HO->Prop:=fun o=>match o with
 | .lst ys=>∀ l,H l=none->Q (.ref l) (upd H l (.tup ys))
 | .tup _=>Q (.ref p) H
 | _=>False
def qTuple (xs:List V) (H:Hp) (Q:VK):Prop:=match xs with
 | [.ref p]=>optK (H p) (kTupO p H Q)
 | _=>False
theorem call_qTuple:CallR X (.type "tuple") qTuple:=by
 refine call_tuple_of.mono fun xs H Q h=>?_
 unfold qTuple at h
 split at h
 ·rename_i p
  obtain ⟨o,e,q⟩:=optK_ex h
  unfold kTupO at q
  split at q
  ·rename_i ys;exact ⟨p,ys,rfl,.inl ⟨SqL.of e,q⟩⟩
  ·rename_i ys;exact ⟨p,ys,rfl,.inr ⟨SqT.of e,q⟩⟩
  ·exact q.elim
 ·exact h.elim
def qMin (xs:List V) (H:Hp) (Q:VK):Prop:=match xs with
 | [.int i,.int j]=>Q (.int (if j < i then j else i)) H
 | _=>False
theorem m_qMin (i j:Int) (H:Hp) (Q:VK):qMin [.int i,.int j] H Q=Q (.int (if j < i then j else i)) H:=rfl
theorem call_qMin (hc:X.calm=true):CallR X (.builtin "min") qMin:=by
 refine (call_min2 hc).mono fun xs H Q h=>?_
 unfold qMin at h
 split at h
 ·rename_i i j;exact ⟨i,j,rfl,h⟩
 ·exact h.elim
def kBM' (r:V->List V->Hp->VK->Prop) (x:V) (Q:VK):List V->Hp->Prop:=fun xs H=>r x xs H Q
theorem m_kBM' (r:V->List V->Hp->VK->Prop) (x:V) (Q:VK) (xs:List V) (H:Hp):kBM' r x Q xs H=r x xs H Q:=rfl
def kBM (K:PySem.W.Frag) (T:String) (r:V->List V->Hp->VK->Prop) (t:TA) (σ:St) (Q:VK):VK:=fun x H=>tyV K T x H∧t σ H (kBM' r x Q)
theorem m_kBM (K:PySem.W.Frag) (T:String) (r:V->List V->Hp->VK->Prop) (t:TA) (σ:St) (Q:VK) (x:V) (H:Hp):kBM K T r t σ Q x H=(tyV K T x H∧t σ H (kBM' r x Q)):=rfl
theorem m_tBM (K:PySem.W.Frag) (T:String) (r:V->List V->Hp->VK->Prop) (to:TE) (t:TA) (σ:St) (H:Hp) (Q:VK):tBM K T r to t σ H Q=to σ H (kBM K T r t σ Q):=rfl
def kBM0 (K:PySem.W.Frag) (T:String) (r:V->List V->Hp->VK->Prop) (Q:VK):VK:=fun x H=>tyV K T x H∧r x [] H Q
theorem m_kBM0 (K:PySem.W.Frag) (T:String) (r:V->List V->Hp->VK->Prop) (Q:VK) (x:V) (H:Hp):kBM0 K T r Q x H=(tyV K T x H∧r x [] H Q):=rfl
theorem m_tBM0 (K:PySem.W.Frag) (T:String) (r:V->List V->Hp->VK->Prop) (to:TE) (σ:St) (H:Hp) (Q:VK):tBM0 K T r to σ H Q=to σ H (kBM0 K T r Q):=rfl
theorem tyV_list (K:PySem.W.Frag) (p:Addr) (H:Hp) (h:(lstAt H p).isSome=true):tyV K "list" (.ref p) H=True:=by
 cases e:lstAt H p with
 | none=>rw [e] at h;cases h
 | some ys=>exact eq_true (.inl ⟨rfl,ys,SqL.of (lst_of e)⟩)
def kApp (l:Addr) (y:V) (H:Hp) (Q:VK):List V->Prop:=fun xs=>xs.length < sizeLine∧Q .non (upd H l (.lst (xs++[y])))
theorem m_kApp (l:Addr) (y:V) (H:Hp) (Q:VK) (xs:List V):kApp l y H Q xs=(xs.length < sizeLine∧Q .non (upd H l (.lst (xs++[y])))):=rfl
theorem m_rAppend (l:Addr) (y:V) (H:Hp) (Q:VK):rAppend (.ref l) [y] H Q=optK (lstAt H l) (kApp l y H Q):=by
 refine propext ⟨fun h=>?_,fun h=>?_⟩
 ·obtain ⟨_,xs,_,e1,e2,e3,a,b⟩:=h
  cases e1;cases e2
  have e:lstAt H l=some xs:=by unfold lstAt;rw [e3];rfl
  rw [e];exact ⟨a,b⟩
 ·obtain ⟨xs,e,a,b⟩:=optK_ex h
  exact ⟨l,xs,y,rfl,rfl,lst_of e,a,b⟩
def kCat2 (xs:List V) (H:Hp) (Q:VK):List V->Prop:=fun ys=>xs.length+ys.length≤sizeLine∧∀ p,H p=none->Q (.ref p) (upd H p (.lst (xs++ys)))
def kCat1 (b:Addr) (H:Hp) (Q:VK):List V->Prop:=fun xs=>optK (lstAt H b) (kCat2 xs H Q)
theorem m_rCat (l b:Addr) (H:Hp) (Q:VK):rCat (.ref l) (.ref b) H Q=optK (lstAt H l) (kCat1 b H Q):=by
 refine propext ⟨fun h=>?_,fun h=>?_⟩
 ·obtain ⟨l',b',xs,zs,e1,e2,e3,e4,hz,hq⟩:=h
  cases e1;cases e2
  have e:lstAt H l=some xs:=by unfold lstAt;rw [e3];rfl
  have e':lstAt H b=some zs:=by unfold lstAt;rw [e4];rfl
  rw [e]
  show optK (lstAt H b) _
  rw [e'];exact ⟨hz,hq⟩
 ·obtain ⟨xs,e,q⟩:=optK_ex h
  obtain ⟨zs,e',a,q⟩:=optK_ex q
  exact ⟨l,b,xs,zs,rfl,rfl,lst_of e,lst_of e',a,q⟩
def kGT (n:Nat) (t:TGs) (σ:St) (H:Hp) (Q:St->Hp->Prop):List V->Prop:=fun xs=>xs.length=n∧t xs σ H Q
theorem m_kGT (n:Nat) (t:TGs) (σ:St) (H:Hp) (Q:St->Hp->Prop) (xs:List V):kGT n t σ H Q xs=(xs.length=n∧t xs σ H Q):=rfl
def qGT (n:Nat) (t:TGs):TG:=fun v σ H Q=>match v with
 | .ref a=>optK (tupAt H a) (kGT n t σ H Q)
 | _=>False
theorem m_qGT (n:Nat) (t:TGs) (a:Addr) (σ:St) (H:Hp) (Q:St->Hp->Prop):qGT n t (.ref a) σ H Q=optK (tupAt H a) (kGT n t σ H Q):=rfl
theorem gTup_q {K:PySem.W.Frag}{n:Nat}{t:TGs}{v:V}{σ:St}{H:Hp}{Q:St->Hp->Prop}(h:qGT n t v σ H Q):gTup K n t v σ H Q:=by
 unfold qGT at h
 split at h
 ·rename_i a
  obtain ⟨xs,e,hl,q⟩:=optK_ex h
  exact ⟨a,xs,rfl,SqT.of (tup_of e),hl,q⟩
 ·exact h.elim
def kBody (tb:TS) (D:Ends):St->Hp->Prop:=fun σ H=>tb D σ H
theorem m_kBody (tb:TS) (D:Ends) (σ:St) (H:Hp):kBody tb D σ H=tb D σ H:=rfl
def kFor (g:TG) (tb:TS) (D:Ends) (σ:St) (J:It) (H1:Hp):Prop:=∃ W:Nat->Nat->St->Hp->Prop,(∃ m,W 0 m σ H1)∧∀ i m σ H,W i m σ H →
 (J.stop i H∧D.nx σ H)∨(J.go i H∧∃ N:St->Hp->Prop,(∀ σ' H',N σ' H'->∃ m',m' < m∧W (i+1) m' σ' H')∧∀ x H',J.yld i H x H'->g x σ H' fun σ2 H2=>tb { D with nx:=N,ct:=N,bk:=D.nx } σ2 H2)
theorem m_tFor (wi:TI) (g:TG) (tb:TS) (D:Ends) (σ:St) (H:Hp):tFor wi g tb D σ H=wi σ H (kFor g tb D σ):=rfl
def kR1 (R:It->Hp->Prop):List V->Hp->Prop:=fun vs H=>∃ j:Int,vs=[.int j]∧-(2 ^ 62)≤j∧j < 2 ^ 62∧R (Itr 0 j.toNat) H
theorem m_kR1 (R:It->Hp->Prop) (j:Int) (H:Hp):kR1 R [.int j] H=(-(2 ^ 62)≤j∧j < 2 ^ 62∧R (Itr 0 j.toNat) H):=propext ⟨fun ⟨_,e,q⟩=>by cases e;exact q,fun q=>⟨j,rfl,q⟩⟩
theorem m_iRng1 (ta:TA) (σ:St) (H:Hp) (R:It->Hp->Prop):iRng1 ta σ H R=ta σ H (kR1 R):=rfl
def kR2 (R:It->Hp->Prop):List V->Hp->Prop:=fun vs H=>∃ i j:Int,vs=[.int i,.int j]∧(-(2 ^ 62)≤i∧i < 2 ^ 62∧-(2 ^ 62)≤j∧j < 2 ^ 62)∧R (Itr i (j - i).toNat) H
theorem m_kR2 (R:It->Hp->Prop) (i j:Int) (H:Hp):kR2 R [.int i,.int j] H=((-(2 ^ 62)≤i∧i < 2 ^ 62∧-(2 ^ 62)≤j∧j < 2 ^ 62)∧R (Itr i (j - i).toNat) H):=propext ⟨fun ⟨_,_,e,q⟩=>by cases e;exact q,fun q=>⟨i,j,rfl,q⟩⟩
theorem m_iRng2 (ta:TA) (σ:St) (H:Hp) (R:It->Hp->Prop):iRng2 ta σ H R=ta σ H (kR2 R):=rfl
def kISq' (K:PySem.W.Frag) (a:Addr) (H:Hp) (R:It->Hp->Prop):HO->Prop:=fun o=>match o with
 | .lst _=>R (Itl K a) H
 | .frz _ (.lst _)=>R (Itl K a) H
 | .tup _=>R (Itt K a) H
 | _=>False
theorem m_kISq'_l (K:PySem.W.Frag) (a:Addr) (H:Hp) (R:It->Hp->Prop) (xs:List V):kISq' K a H R (.lst xs)=R (Itl K a) H:=rfl
def kISq (K:PySem.W.Frag) (R:It->Hp->Prop):VK:=fun x H=>match x with
 | .ref a=>optK (H a) (kISq' K a H R)
 | _=>False
theorem m_kISq (K:PySem.W.Frag) (R:It->Hp->Prop) (a:Addr) (H:Hp):kISq K R (.ref a) H=optK (H a) (kISq' K a H R):=rfl
def iSeq (K:PySem.W.Frag) (tl:TE):TI:=fun σ H R=>tl σ H (kISq K R)
theorem m_iSeq (K:PySem.W.Frag) (tl:TE) (σ:St) (H:Hp) (R:It->Hp->Prop):iSeq K tl σ H R=tl σ H (kISq K R):=rfl
theorem pi_seq {tg l:Expr}{tl:TE}(hl:PE X l tl):PI X tg l (iSeq X.K tl):=by
 intro pins s σ H R I h
 refine thn (hl pins s σ H _ I h) fun v s1 ⟨x,H1,I1,r1,q1⟩=>?_
 unfold kISq at q1
 split at q1
 ·rename_i a
  cases r1
  obtain ⟨o,e,q⟩:=optK_ex q1
  have fp:∀ b∈[s1.heap.objs.size],FpOk X pins H1 b:=fun b hb=>by
   have e:b=s1.heap.objs.size:=by simpa using hb
   subst e
   exact I1.fpOk (Nat.le_refl _) (I1.hok.fresh (Nat.le_refl _))
  have lst:∀ xs,SqL X.K H1 a xs->R (Itl X.K a) H1->wpAny (model X.prog X.w) X.A (pyIter (.ref a)) (PIE X pins σ tg R) X.xe s1:=fun xs hq q=>by
   obtain ⟨its,rv,p,hz⟩:=I1.list hq
   refine wpAny_pyIter_list p.isList ?_
   exact ⟨s1.heap.objs.size,[s1.heap.objs.size],_,_,H1,rfl,I1.kept (t':=s1.toks) fun b o e=>Heap.get?_push_of_some _ e,turn_list a _,⟨_,Heap.get?_push_size _ rfl,rfl,rfl⟩,fp,q⟩
  unfold kISq' at q
  split at q
  ·exact lst _ (SqL.of e) q
  ·exact lst _ (.inl (.inr ⟨_,e⟩)) q
  ·obtain ⟨its,rv,p,hz⟩:=I1.tuple (SqT.of e)
   refine wpAny_pyIter_tuple (show s1.heap.IsTuple a its.toArray from p) ?_
   exact ⟨s1.heap.objs.size,[s1.heap.objs.size],_,_,H1,rfl,I1.kept (t':=s1.toks) fun b o e=>Heap.get?_push_of_some _ e,turn_tuple a _,⟨_,Heap.get?_push_size _ rfl,rfl,rfl⟩,fp,q⟩
  ·exact q.elim
 ·exact q1.elim
theorem for_rng {lo:Int}{n:Nat}{g:TG}{tb:TS}{nx:St->Hp->Prop}{rt:VK}{bk ct:St->Hp->Prop}{σ:St}{H:Hp}(Pv:Nat->St->Hp->Prop) (h0:Pv 0 σ H)
  (hs:∀ i σ H,i < n->Pv i σ H->g (.int (lo+i)) σ H (kBody tb ⟨Pv (i+1),rt,nx,Pv (i+1)⟩)) (hd:∀ σ H,Pv n σ H->nx σ H):kFor g tb ⟨nx,rt,bk,ct⟩ σ (Itr lo n) H:=for_range Pv h0 hs hd
theorem for_lst {K:PySem.W.Frag}{a:Addr}{xs:List V}{g:TG}{tb:TS}{nx:St->Hp->Prop}{rt:VK}{bk ct:St->Hp->Prop}{σ:St}{H:Hp}(Pv:Nat->St->Hp->Prop) (h0:Pv 0 σ H) (hl:∀ i σ H,i≤xs.length->Pv i σ H->H a=some (.lst xs))
  (hs:∀ i x σ H,xs[i]? = some x->Pv i σ H->g x σ H (kBody tb ⟨Pv (i+1),rt,nx,Pv (i+1)⟩)) (hd:∀ σ H,Pv xs.length σ H->nx σ H):kFor g tb ⟨nx,rt,bk,ct⟩ σ (Itl K a) H:=for_list (xs:=xs) Pv h0 (fun i σ H hi p=>SqL.of (hl i σ H hi p)) hs hd
def kWh (tb:TS) (nx:St->Hp->Prop) (rt:VK) (Pv:Nat->St->Hp->Prop) (m:Nat) (σ:St):Bool->Hp->Prop:=fun b H=>if b=true then tb ⟨fun σ' H'=>∃ m',m' < m∧Pv m' σ' H',rt,nx,fun σ' H'=>∃ m',m' < m∧Pv m' σ' H'⟩ σ H else nx σ H
theorem m_kWh (tb:TS) (nx:St->Hp->Prop) (rt:VK) (Pv:Nat->St->Hp->Prop) (m:Nat) (σ:St) (b:Bool) (H:Hp):kWh tb nx rt Pv m σ b H=(if b=true then tb ⟨fun σ' H'=>∃ m',m' < m∧Pv m' σ' H',rt,nx,fun σ' H'=>∃ m',m' < m∧Pv m' σ' H'⟩ σ H else nx σ H):=rfl
theorem while_m {c:TT}{tb:TS}{nx:St->Hp->Prop}{rt:VK}{bk ct:St->Hp->Prop}{σ:St}{H:Hp}(Pv:Nat->St->Hp->Prop) (m0:Nat) (h0:Pv m0 σ H)
  (mono:∀ σ H Q Q',(∀ b H1,Q b H1->Q' b H1)->c σ H Q->c σ H Q')
  (hs:∀ m σ H,Pv m σ H->c σ H (kWh tb nx rt Pv m σ)):tWhile c tb ⟨nx,rt,bk,ct⟩ σ H:=by
 refine ⟨Pv,⟨m0,h0⟩,fun m σ H p=>mono σ H _ _ (fun b H1 q=>?_) (hs m σ H p)⟩
 unfold kWh at q
 cases b with
 | true=>exact ⟨_,fun σ' H' z=>z,q⟩
 | false=>exact q
end
end L2
set_option Elab.async false
set_option linter.all false
set_option maxRecDepth 100000
set_option maxHeartbeats 4000000
namespace L2
open PySem PySem.Spec PyProof.Rows
def kC3 (D:Addr) (ys:List V) (N:List V->Hp->Prop):VK:=fun y H=>H D=some (.lst ys)∧ys.length < sizeLine∧N (ys++[y]) (upd H D (.lst (ys++[y])))
def kC2 (te:TE) (σ2:St) (D:Addr) (ys:List V) (N:List V->Hp->Prop):Bool->Hp->Prop:=fun b H=>if b=true then te σ2 H (kC3 D ys N) else N ys H
def kC1 (k:Nat) (tt:TT) (te:TE) (σ:St) (D:Addr) (ys:List V) (N:List V->Hp->Prop):St->Hp->Prop:=fun σ2 H=>(∃ vs:St,vs.length=k∧σ2=vs++σ)∧tt σ2 H (kC2 te σ2 D ys N)
theorem m_tYes (σ:St) (H:Hp) (Q:Bool->Hp->Prop):tYes σ H Q=Q true H:=rfl
def kComp (k:Nat) (g:TG) (tt:TT) (te:TE) (σ:St) (Q:VK):It->Hp->Prop:=fun J H1=>∀ D,H1 D=none->∃ W:Nat->Nat->List V->Hp->Prop,(∃ m,W 0 m [] (upd H1 D (.lst [])))∧∀ i m ys H,W i m ys H →
 (J.stop i H∧Q (.ref D) H)∨(J.go i H∧∃ N:List V->Hp->Prop,(∀ ys' H',N ys' H'->∃ m',m' < m∧W (i+1) m' ys' H') ∧
  ∀ x H',J.yld i H x H'->g x (List.replicate k none++σ) H' (kC1 k tt te σ D ys N))
theorem m_tComp (k:Nat) (wi:TI) (g:TG) (tt:TT) (te:TE) (σ:St) (H:Hp) (Q:VK):tComp k wi g tt te σ H Q=wi σ H (kComp k g tt te σ Q):=rfl
def kSetC (i:Nat) (σ:St) (nx:St->Hp->Prop):VK:=fun x H=>gName i x σ H nx
theorem m_kSetC (i:Nat) (σ:St) (nx:St->Hp->Prop) (x:V) (H:Hp):kSetC i σ nx x H=gName i x σ H nx:=rfl
theorem m_tSetC (i:Nat) (te:TE) (nx:St->Hp->Prop) (rt:VK) (bk ct:St->Hp->Prop) (σ:St) (H:Hp):tSetC i te ⟨nx,rt,bk,ct⟩ σ H=te σ H (kSetC i σ nx):=rfl
section
variable {k:Nat}{g:TG}{tt:TT}{te:TE}{σ:St}{Q:VK}{H:Hp}{K:PySem.W.Frag}
end
def allSome {α:Type}:List (Option α)->Option (List α)
 | []=>some []
 | o::r=>o.bind fun x=>(allSome r).map fun xs=>x::xs
def datO (f:V->Option PyData):HO->Option PyData
 | .lst xs=>(allSome (xs.map f)).map .list
 | .tup xs=>(allSome (xs.map f)).map .tuple
 | _=>none
def datF (H:Hp) (f:V->Option PyData):V->Option PyData
 | .non=>some .none
 | .bl b=>some (.bool b)
 | .int i=>some (.int i)
 | .str z=>if PyData.strOk z=true then some (.str z) else none
 | .ref p=>(H p).bind (datO f)
 | _=>none
def datV (H:Hp):Nat->V->Option PyData
 | 0,_=>none
 | n+1,x=>datF H (datV H n) x
def noD:V->Option PyData:=fun _=>none
theorem m_datV (H:Hp) (x:V):datV H 6 x=datF H (datF H (datF H (datF H (datF H (datF H noD))))) x:=rfl
theorem m_datV_str (H:Hp) (n:Nat) (z:Str):datV H (n+1) (.str z)=if PyData.strOk z=true then some (.str z) else none:=rfl
theorem m_datV_ref (H:Hp) (n:Nat) (p:Addr):datV H (n+1) (.ref p)=(H p).bind (datO (datV H n)):=rfl
theorem m_datF_int (H:Hp) (f:V->Option PyData) (i:Int):datF H f (.int i)=some (.int i):=rfl
theorem m_datF_ref (H:Hp) (f:V->Option PyData) (p:Addr):datF H f (.ref p)=(H p).bind (datO f):=rfl
theorem m_datO_lst (f:V->Option PyData) (xs:List V):datO f (.lst xs)=(allSome (xs.map f)).map .list:=rfl
theorem m_datO_tup (f:V->Option PyData) (xs:List V):datO f (.tup xs)=(allSome (xs.map f)).map .tuple:=rfl
theorem m_allSome_nil {α:Type}:allSome ([]:List (Option α))=some []:=rfl
theorem m_allSome_cons {α:Type}(x:α) (r:List (Option α)):allSome (some x::r)=(allSome r).map fun xs=>x::xs:=rfl
theorem allSome_ints (H:Hp) (f:V->Option PyData):∀ ns:List Int,allSome ((ns.map V.int).map (datF H f))=some (ns.map PyData.int)
 | []=>rfl
 | i::r=>by
  show (allSome ((r.map V.int).map (datF H f))).map _=_
  rw [allSome_ints H f r];rfl
theorem datVs_ok {K:PySem.W.Frag}{H:Hp}{n:Nat}(ih:∀ x d,datV H n x=some d->DatV K H x d∧d.canLay0=true∧d.depth≤n):∀ (xs:List V) (ds:List PyData),allSome (xs.map (datV H n))=some ds->DatVs K H xs ds∧PyData.canLayAll0 ds=true∧PyData.depthAll ds≤n
 | [],ds,h=>by cases h;exact ⟨.nil,rfl,Nat.zero_le _⟩
 | x::xs,ds,h=>by
  have h':(datV H n x).bind (fun d=>(allSome (xs.map (datV H n))).map fun ds=>d::ds)=some ds:=h
  cases e:datV H n x with
  | none=>rw [e] at h';cases h'
  | some d=>
   rw [e] at h'
   have h2:(allSome (xs.map (datV H n))).map (fun ds=>d::ds)=some ds:=h'
   cases e2:allSome (xs.map (datV H n)) with
   | none=>rw [e2] at h2;cases h2
   | some es=>
    rw [e2] at h2
    cases h2
    obtain ⟨a,b,c⟩:=ih x d e
    obtain ⟨a',b',c'⟩:=datVs_ok ih xs es e2
    exact ⟨.cons a a',by simp [PyData.canLayAll0,b,b'],by simp only [PyData.depthAll];omega⟩
theorem datV_ok {K:PySem.W.Frag}{H:Hp}:∀ (n:Nat) (x:V) (d:PyData),datV H n x=some d->DatV K H x d∧d.canLay0=true∧d.depth≤n
 | 0,x,d,h=>by cases h
 | n+1,x,d,h=>by
  cases x with
  | non=>cases h;exact ⟨.non,rfl,Nat.zero_le _⟩
  | bl b=>cases h;exact ⟨.bl b,rfl,Nat.zero_le _⟩
  | int i=>cases h;exact ⟨.int i,rfl,Nat.zero_le _⟩
  | str z=>
   rw [m_datV_str] at h
   split at h
   ·rename_i hz;cases h;exact ⟨.str z,by simpa [PyData.canLay0] using hz,Nat.zero_le _⟩
   ·cases h
  | ref p=>
   rw [m_datV_ref] at h
   cases e:H p with
   | none=>rw [e] at h;cases h
   | some o=>
    rw [e] at h
    have h':datO (datV H n) o=some d:=h
    cases o with
    | lst xs=>
     rw [m_datO_lst] at h'
     cases e2:allSome (xs.map (datV H n)) with
     | none=>rw [e2] at h';cases h'
     | some ds=>
      rw [e2] at h';cases h'
      obtain ⟨a,b,c⟩:=datVs_ok (K:=K) (datV_ok n) xs ds e2
      exact ⟨.lst (SqL.of e) a,by simpa [PyData.canLay0] using b,by simp only [PyData.depth];omega⟩
    | tup xs=>
     rw [m_datO_tup] at h'
     cases e2:allSome (xs.map (datV H n)) with
     | none=>rw [e2] at h';cases h'
     | some ds=>
      rw [e2] at h';cases h'
      obtain ⟨a,b,c⟩:=datVs_ok (K:=K) (datV_ok n) xs ds e2
      exact ⟨.tup (SqT.of e) a,by simpa [PyData.canLay0] using b,by simp only [PyData.depth];omega⟩
    | _=>cases h'
  | _=>cases h
theorem datV_shaped {K:PySem.W.Frag}{H:Hp}{n:Nat}{x:V}{d:PyData}(hn:n≤64) (h:datV H n x=some d):DatV K H x d∧SeqAt.shaped d=true:=by
 obtain ⟨a,b,c⟩:=datV_ok (K:=K) n x d h
 refine ⟨a,?_⟩
 unfold SeqAt.shaped
 rw [b,decide_eq_true (show d.depth≤64 by omega)]
 rfl
def kEq2 (neg:Bool) (H:Hp) (Q:VK) (d:PyData):PyData->Prop:=fun e=>Q (.bl (if neg=true then !PyData.eqv d e else PyData.eqv d e)) H
theorem m_kEq2_t (H:Hp) (Q:VK) (d e:PyData):kEq2 true H Q d e=Q (.bl (!PyData.eqv d e)) H:=rfl
theorem m_kEq2_f (H:Hp) (Q:VK) (d e:PyData):kEq2 false H Q d e=Q (.bl (PyData.eqv d e)) H:=rfl
def kEq1 (neg:Bool) (y:V) (H:Hp) (Q:VK):PyData->Prop:=fun d=>optK (datV H 6 y) (kEq2 neg H Q d)
theorem m_kEq1 (neg:Bool) (y:V) (H:Hp) (Q:VK) (d:PyData):kEq1 neg y H Q d=optK (datV H 6 y) (kEq2 neg H Q d):=rfl
def qEq (neg:Bool):R2:=fun x y H Q=>if scal x y=true then Q (.bl (if neg=true then !decide (x=y) else decide (x=y))) H else optK (datV H 6 x) (kEq1 neg y H Q)
theorem m_qEq_refr (neg:Bool) (p:Addr) (x:V) (H:Hp) (Q:VK):qEq neg x (.ref p) H Q=optK (datV H 6 x) (kEq1 neg (.ref p) H Q):=by
 show (if scal x (.ref p)=true then _ else _)=_
 rw [if_neg (by cases x<;>exact Bool.false_ne_true)]
theorem m_qNe_non_int (j:Int) (H:Hp) (Q:VK):qEq true V.non (V.int j) H Q=Q (.bl (!false)) H:=by
 have e:decide ((V.non:V)=(V.int j))=false:=by simp
 show Q (.bl (if true=true then !decide (V.non=(V.int j)) else decide (V.non=(V.int j)))) H=_
 rw [e];rfl
theorem m_qEq_int_int (i:Int) (j:Int) (H:Hp) (Q:VK):qEq false (V.int i) (V.int j) H Q=Q (.bl (decide (i=j))) H:=by
 have e:decide (((V.int i):V)=(V.int j))=decide (i=j):=by simp
 show Q (.bl (if false=true then !decide ((V.int i)=(V.int j)) else decide ((V.int i)=(V.int j)))) H=_
 rw [e];rfl
theorem m_qNe_int_int (i:Int) (j:Int) (H:Hp) (Q:VK):qEq true (V.int i) (V.int j) H Q=Q (.bl (!decide (i=j))) H:=by
 have e:decide (((V.int i):V)=(V.int j))=decide (i=j):=by simp
 show Q (.bl (if true=true then !decide ((V.int i)=(V.int j)) else decide ((V.int i)=(V.int j)))) H=_
 rw [e];rfl
section
variable {X:Cx}
theorem op_qEq (hu:X.A.units+64 < cLine):OpR X (compareOp .Eq) (qEq false):=by
 refine (op_eq.or (op_eqD hu)).mono fun x y H Q h=>?_
 unfold qEq at h
 split at h
 ·rename_i hs;exact .inl ⟨hs,h⟩
 obtain ⟨d,e1,h⟩:=optK_ex h
 obtain ⟨e,e2,h⟩:=optK_ex h
 obtain ⟨a,b⟩:=datV_shaped (K:=X.K) (by decide) e1
 obtain ⟨a',b'⟩:=datV_shaped (K:=X.K) (by decide) e2
 exact .inr ⟨d,e,a,a',b,b',h⟩
theorem op_qNe (hu:X.A.units+64 < cLine):OpR X (compareOp .NotEq) (qEq true):=by
 refine (op_ne.or (op_neD hu)).mono fun x y H Q h=>?_
 unfold qEq at h
 split at h
 ·rename_i hs;exact .inl ⟨hs,h⟩
 obtain ⟨d,e1,h⟩:=optK_ex h
 obtain ⟨e,e2,h⟩:=optK_ex h
 obtain ⟨a,b⟩:=datV_shaped (K:=X.K) (by decide) e1
 obtain ⟨a',b'⟩:=datV_shaped (K:=X.K) (by decide) e2
 exact .inr ⟨d,e,a,a',b,b',h⟩
end
theorem eqv_int (i j:Int):PyData.eqv (.int i) (.int j)=decide (i=j):=Bool.beq_eq_decide_eq i j
theorem eqv_tuple (xs ys:List PyData):PyData.eqv (.tuple xs) (.tuple ys)=PyData.eqvAll xs ys:=by simp only [PyData.eqv]
theorem eqv_list (xs ys:List PyData):PyData.eqv (.list xs) (.list ys)=PyData.eqvAll xs ys:=by simp only [PyData.eqv]
theorem eqvAll_nil:PyData.eqvAll [] []=true:=by simp only [PyData.eqvAll]
theorem eqvAll_cons (x y:PyData) (xs ys:List PyData):PyData.eqvAll (x::xs) (y::ys)=(PyData.eqv x y && PyData.eqvAll xs ys):=by simp only [PyData.eqvAll]
theorem eqvAll_l (x:PyData) (xs:List PyData):PyData.eqvAll (x::xs) []=false:=by simp only [PyData.eqvAll]
theorem eqvAll_r (x:PyData) (xs:List PyData):PyData.eqvAll [] (x::xs)=false:=by simp only [PyData.eqvAll]
theorem eqvAll_ints:∀ ns ms:List Int,PyData.eqvAll (ns.map PyData.int) (ms.map PyData.int)=decide (ns=ms)
 | [],[]=>by rw [List.map_nil,eqvAll_nil];rfl
 | [],_::_=>by rw [List.map_nil,List.map_cons,eqvAll_r];rfl
 | _::_,[]=>by rw [List.map_nil,List.map_cons,eqvAll_l];rfl
 | i::r,j::t=>by
  rw [List.map_cons,List.map_cons,eqvAll_cons,eqv_int,eqvAll_ints r t]
  by_cases h:i=j<;>by_cases h2:r=t<;>simp [h,h2]
end L2
set_option Elab.async false
set_option linter.all false
set_option maxRecDepth 100000
set_option maxHeartbeats 4000000
namespace L2
open PySem PySem.Spec PyProof.Rows
theorem CDiv_eq (i j:Int):CDiv i j=(0 < j∧j < 1073741824):=rfl
theorem CPow_10 (j:Int):CPow 10 j=(0≤j∧j≤1000000):=propext ⟨fun h=>⟨h.1,h.2.1⟩,fun h=>⟨h.1,h.2,by decide⟩⟩
theorem lenLe (n:Nat) (h:n≤1000):(n≤sizeLine)=True:=eq_true (Nat.le_of_lt (small1000 h))
theorem Ext.of {H H':Hp}(h:∀ a,(H a).isSome=true->H' a=H a):Ext H H':=⟨h,fun K a xs q=>by
 have s:Same H H':=fun b o e=>(h b (by rw [e];rfl)).trans e
 exact s.seq q⟩
theorem Ext.same {H H':Hp}(h:Ext H H'):Same H H':=fun b o e=>(h.1 b (by rw [e];rfl)).trans e
theorem Same.ext {H H':Hp}(h:Same H H'):Ext H H':=Ext.of fun a q=>by
 cases e:H a with
 | none=>rw [e] at q;cases q
 | some o=>exact h a o e
theorem Ext.refl (H:Hp):Ext H H:=(Same.refl H).ext
theorem Ext.trans {H H1 H2:Hp}(a:Ext H H1) (b:Ext H1 H2):Ext H H2:=(a.same.trans b.same).ext
theorem Ext.new {H:Hp}{p:Addr}{o:HO}(h:H p=none):Ext H (upd H p o):=(same_upd h).ext
theorem Ext.put {H H1:Hp}{p:Addr}{o:HO}(a:Ext H H1) (h:H p=none):Ext H (upd H1 p o):=Same.ext fun b u e=>by
 rw [upd_ne (ne_of_none e h)];exact a.same b u e
theorem Ext.free {H H1:Hp}{p:Addr}(a:Ext H H1) (h:H1 p=none):H p=none:=a.same.free h
theorem Ext.at {H H1:Hp}{p:Addr}{o:HO}(a:Ext H H1) (h:H p=some o):H1 p=some o:=a.same _ _ h
theorem optK_at {xs:List V}{i:Int}{k:V->Prop}(h0:0≤i) (h1:i < xs.length) (h:∀ v∈xs,k v):optK (atI xs i) k:=by
 obtain ⟨v,e,m⟩:=atI_lt xs i h0 h1
 rw [e];exact h v m
theorem cx_K (CX:CXT) (P:Program) (w:World) (K:PySem.W.Frag) (mg:Str->Option Value) (base:Heap) (N:List Str) (qual:Str) (scope:Scope) (f:Addr) (cd:Value) (A:Around) (outer:List Env) (s:Shared) (H:Hp) (E:XK):(cxOf CX P w K mg base N qual scope f cd A outer s H E).K=K:=rfl
end L2
set_option Elab.async false
set_option linter.all false
set_option maxRecDepth 100000
set_option maxHeartbeats 4000000
namespace L2
open PySem PySem.Spec PyProof.Rows
def ME (t:TE):Prop:=∀ σ H (Q Q':VK),(∀ v H,Q v H->Q' v H)->t σ H Q->t σ H Q'
def MT (t:TT):Prop:=∀ σ H (Q Q':Bool->Hp->Prop),(∀ b H,Q b H->Q' b H)->t σ H Q->t σ H Q'
def MA (t:TA):Prop:=∀ σ H (Q Q':List V->Hp->Prop),(∀ b H,Q b H->Q' b H)->t σ H Q->t σ H Q'
def MR (r:R2):Prop:=∀ x y H (Q Q':VK),(∀ v H,Q v H->Q' v H)->r x y H Q->r x y H Q'
def MC (r:List V->Hp->VK->Prop):Prop:=∀ x H (Q Q':VK),(∀ v H,Q v H->Q' v H)->r x H Q->r x H Q'
theorem optK_mono {α:Type}{o:Option α}{k k':α->Prop}(m:∀ x,k x->k' x) (h:optK o k):optK o k':=by
 obtain ⟨x,e,q⟩:=optK_ex h
 rw [e];exact m x q
theorem mo_var {i:Nat}:ME (tVar i):=fun σ H Q Q' m ⟨v,e,q⟩=>⟨v,e,m _ _ q⟩
theorem mo_c {v:V}:ME (tC v):=fun σ H Q Q' m q=>m _ _ q
theorem mo_op {r:R2}{a b:TE}(hr:MR r) (ha:ME a) (hb:ME b):ME (tOp r a b):=fun σ H Q Q' m q=>ha σ H _ _ (fun _ _ q=>hb σ _ _ _ (fun _ _ q=>hr _ _ _ _ _ m q) q) q
theorem mo_rI0 {g:Int->Int->V}:MR (rI0 g):=fun x y H Q Q' m ⟨i,j,e,e',q⟩=>⟨i,j,e,e',m _ _ q⟩
theorem mo_qEq {n:Bool}:MR (qEq n):=fun x y H Q Q' m q=>by
 unfold qEq at q ⊢
 by_cases hs:scal x y=true
 ·rw [if_pos hs] at q ⊢;exact m _ _ q
 ·rw [if_neg hs] at q ⊢;exact optK_mono (fun _ q=>optK_mono (fun _ q=>m _ _ q) q) q
theorem mo_nil:MA tNil:=fun σ H Q Q' m q=>m _ _ q
theorem mo_cons {a:TE}{r:TA}(ha:ME a) (hr:MA r):MA (tCons a r):=fun σ H Q Q' m q=>ha σ H _ _ (fun _ _ q=>hr σ _ _ _ (fun _ _ q=>m _ _ q) q) q
theorem mo_cb {r:List V->Hp->VK->Prop}{t:TA}(hr:MC r) (ht:MA t):ME (tCB r t):=fun σ H Q Q' m q=>ht σ H _ _ (fun _ _ q=>hr _ _ _ _ m q) q
theorem mo_qLen:MC qLen:=fun x H Q Q' m q=>by
 unfold qLen at q ⊢
 split at q
 ·exact optK_mono (fun _ q=>m _ _ q) q
 ·exact ⟨q.1,m _ _ q.2⟩
 ·exact q.elim
theorem mo_test {t:TE}(h:ME t):MT (tTest t):=fun σ H Q Q' m q=>h σ H _ _ (fun _ _ ⟨k,e,q⟩=>⟨k,e,m _ _ q⟩) q
theorem mo_and {t u:TT}(h:MT t) (h':MT u):MT (tAnd t u):=fun σ H Q Q' m q=>h σ H _ _ (fun b _ q=>by
 cases b with
 | true=>rw [if_pos rfl] at q ⊢;exact h' _ _ _ _ m q
 | false=>rw [if_neg Bool.false_ne_true] at q ⊢;exact m _ _ q) q
theorem while_w {c:TT}{tb:TS}{nx:St->Hp->Prop}{rt:VK}{bk ct:St->Hp->Prop}{σ:St}{H:Hp}(mono:MT c) (Pv:Nat->St->Hp->Prop) (m0:Nat) (h0:Pv m0 σ H)
  (hs:∀ m σ H,Pv m σ H->c σ H (kWh tb nx rt Pv m σ)):tWhile c tb ⟨nx,rt,bk,ct⟩ σ H:=while_m Pv m0 h0 (fun σ H Q Q'=>mono σ H Q Q') hs
theorem ints_inj:∀ {ns ms:List Int},ns.map V.int=ms.map V.int->ns=ms
 | [],[],_=>rfl
 | [],_::_,h=>by cases h
 | _::_,[],h=>by cases h
 | i::r,j::t,h=>by
  simp only [List.map_cons,List.cons.injEq,V.int.injEq] at h
  rw [h.1,ints_inj h.2]
def kInts (F:List Int->Prop):List V->Prop:=fun xs=>∃ ns,xs=ns.map V.int∧F ns
theorem m_kInts (F:List Int->Prop) (ns:List Int):kInts F (ns.map V.int)=F ns:=propext ⟨fun ⟨ms,e,h⟩=>by rw [ints_inj e];exact h,fun h=>⟨ns,rfl,h⟩⟩
theorem optK_ints {xs:List V}{i:Int}{k:V->Prop}(P:Int->Prop) (h0:0≤i) (h1:i < xs.length) (hx:∀ v∈xs,∃ j,v=.int j∧P j) (h:∀ j,P j->k (.int j)):optK (atI xs i) k:=optK_at h0 h1 fun v hv=>by
 obtain ⟨j,rfl,hj⟩:=hx v hv
 exact h j hj
theorem cut_none (xs:List V) (z:Int) (h:0≤z):cutV xs none (some z)=xs.take z.toNat:=by
 unfold cutV
 rw [HT.sIx_none,List.drop_zero,Nat.sub_zero]
 obtain ⟨n,rfl⟩:=Int.eq_ofNat_of_zero_le h
 rw [HT.sIx_nat]
 show _=xs.take n
 rcases Nat.le_total n xs.length with q|q
 ·rw [Nat.min_eq_left q]
 ·rw [Nat.min_eq_right q,List.take_of_length_le (Nat.le_refl _),List.take_of_length_le q]
def kSlN (lo hi:Option Int) (H:Hp) (Q:VK):List V->Prop:=fun xs=>∀ p,H p=none->Q (.ref p) (upd H p (.lst (cutV xs lo hi)))
def qSlL:V->Option Int->Option Int->Hp->VK->Prop:=fun x lo hi H Q=>match x with
 | .ref a=>optK (lstAt H a) (kSlN lo hi H Q)
 | _=>False
theorem sl_q {X:Cx}:SlR X qSlL:=sl_list.mono fun x lo hi H Q h=>by
 unfold qSlL at h
 split at h
 ·rename_i a
  obtain ⟨xs,e,q⟩:=optK_ex h
  exact ⟨a,xs,rfl,SqL.of (lst_of e),q⟩
 ·exact h.elim
def kSl3 (r:V->Option Int->Option Int->Hp->VK->Prop) (x:V) (l:Option Int) (Q:VK):Option Int->Hp->Prop:=fun u H=>r x l u H Q
theorem m_kSl3 (r:V->Option Int->Option Int->Hp->VK->Prop) (x:V) (l:Option Int) (Q:VK) (u:Option Int) (H:Hp):kSl3 r x l Q u H=r x l u H Q:=rfl
def kSl2 (r:V->Option Int->Option Int->Hp->VK->Prop) (th:TO) (σ:St) (x:V) (Q:VK):Option Int->Hp->Prop:=fun l H=>th σ H (kSl3 r x l Q)
theorem m_kSl2 (r:V->Option Int->Option Int->Hp->VK->Prop) (th:TO) (σ:St) (x:V) (Q:VK) (l:Option Int) (H:Hp):kSl2 r th σ x Q l H=th σ H (kSl3 r x l Q):=rfl
def kSl1 (r:V->Option Int->Option Int->Hp->VK->Prop) (tl th:TO) (σ:St) (Q:VK):VK:=fun x H=>tl σ H (kSl2 r th σ x Q)
theorem m_kSl1 (r:V->Option Int->Option Int->Hp->VK->Prop) (tl th:TO) (σ:St) (Q:VK) (x:V) (H:Hp):kSl1 r tl th σ Q x H=tl σ H (kSl2 r th σ x Q):=rfl
theorem m_tSl (r:V->Option Int->Option Int->Hp->VK->Prop) (te:TE) (tl th:TO) (σ:St) (H:Hp) (Q:VK):tSl r te tl th σ H Q=te σ H (kSl1 r tl th σ Q):=rfl
theorem m_tNoPart (σ:St) (H:Hp) (Q:Option Int->Hp->Prop):tNoPart σ H Q=Q none H:=rfl
def kPart (Q:Option Int->Hp->Prop):VK:=fun x H=>∃ i,x=.int i∧Q (some i) H
theorem m_kPart (Q:Option Int->Hp->Prop) (i:Int) (H:Hp):kPart Q (.int i) H=Q (some i) H:=propext ⟨fun ⟨_,e,q⟩=>by cases e;exact q,fun q=>⟨i,rfl,q⟩⟩
theorem m_tPart (t:TE) (σ:St) (H:Hp) (Q:Option Int->Hp->Prop):tPart t σ H Q=t σ H (kPart Q):=rfl
end L2
set_option Elab.async false
set_option linter.all false
set_option maxRecDepth 100000
set_option maxHeartbeats 4000000
namespace L2
open PySem PySem.Spec PyProof.Rows
def newK (o:HO) (H:Hp) (Q:VK):Prop:=∀ (p:Addr) (H':Hp),H p=none->Ext H H'->H' p=some o->Q (.ref p) H'
theorem newK.to {o:HO}{H:Hp}{Q:VK}(h:newK o H Q):∀ p,H p=none->Q (.ref p) (upd H p o):=fun p hp=>h p _ hp (Ext.new hp) upd_same
def kQT (Q:VK):List V->Hp->Prop:=fun xs H=>xs.length≤sizeLine∧newK (.tup xs) H Q
theorem m_kQT (Q:VK) (xs:List V) (H:Hp):kQT Q xs H=(xs.length≤sizeLine∧newK (.tup xs) H Q):=rfl
def kQL (Q:VK):List V->Hp->Prop:=fun xs H=>xs.length≤sizeLine∧newK (.lst xs) H Q
theorem m_kQL (Q:VK) (xs:List V) (H:Hp):kQL Q xs H=(xs.length≤sizeLine∧newK (.lst xs) H Q):=rfl
def qTup (t:TA):TE:=fun σ H Q=>t σ H (kQT Q)
theorem m_qTup (t:TA) (σ:St) (H:Hp) (Q:VK):qTup t σ H Q=t σ H (kQT Q):=rfl
def qLst (t:TA):TE:=fun σ H Q=>t σ H (kQL Q)
theorem m_qLst (t:TA) (σ:St) (H:Hp) (Q:VK):qLst t σ H Q=t σ H (kQL Q):=rfl
section
variable {X:Cx}{es:List Expr}{t:TA}{pos:Pos}
theorem pe_qTup {x1}(h:PA X es t):PE X (.Tuple es x1 pos) (qTup t):=by
 intro pins s σ H Q I hq
 refine wpAny_Tuple_spliced (thn (h pos pins s σ H _ I hq) fun us s1 ⟨xs,H1,I1,r,z,q⟩=>⟨by rw [←r.length];exact z,?_⟩)
 have hf:H1 s1.heap.objs.size=none:=I1.hok.fresh (Nat.le_refl _)
 refine ⟨.ref s1.heap.objs.size,upd H1 s1.heap.objs.size (.tup xs),I1.laid (t':=s1.toks) (fun b u e=>Heap.get?_push_of_some _ e) (Nat.le_refl _) ?_,rfl,q.to _ hf⟩
 exact ⟨z,us,r,⟨_,Heap.get?_push_size _ rfl,rfl,_,rfl⟩⟩
theorem pe_qLst (h:PA X es t):PE X (.List es pos) (qLst t):=by
 intro pins s σ H Q I hq
 refine wpAny_List_spliced (thn (h pos pins s σ H _ I hq) fun us s1 ⟨xs,H1,I1,r,z,q⟩=>⟨by rw [←r.length];exact z,?_⟩)
 have hf:H1 s1.heap.objs.size=none:=I1.hok.fresh (Nat.le_refl _)
 refine ⟨.ref s1.heap.objs.size,upd H1 s1.heap.objs.size (.lst xs),I1.laid (t':=s1.toks) (fun b u e=>Heap.get?_push_of_some _ e) (Nat.le_refl _) ?_,rfl,q.to _ hf⟩
 exact ⟨z,us,0,r,Heap.get?_push_size _ rfl⟩
end
def kNT (p:Addr) (H:Hp) (Q:VK):HO->Prop:=fun o=>match o with
 | .lst ys=>newK (.tup ys) H Q
 | .tup _=>Q (.ref p) H
 | _=>False
theorem m_kNT_l (p:Addr) (H:Hp) (Q:VK) (ys:List V):kNT p H Q (.lst ys)=newK (.tup ys) H Q:=rfl
def nTuple (xs:List V) (H:Hp) (Q:VK):Prop:=match xs with
 | [.ref p]=>optK (H p) (kNT p H Q)
 | _=>False
theorem m_nTuple (p:Addr) (H:Hp) (Q:VK):nTuple [.ref p] H Q=optK (H p) (kNT p H Q):=rfl
theorem call_nTuple {X:Cx}:CallR X (.type "tuple") nTuple:=call_qTuple.mono fun xs H Q h=>by
 unfold nTuple at h
 split at h
 ·refine optK_mono (fun o q=>?_) h
  unfold kNT at q
  unfold kTupO
  split at q
  ·exact q.to
  ·exact q
  ·exact q.elim
 ·exact h.elim
def kNC2 (xs:List V) (H:Hp) (Q:VK):List V->Prop:=fun ys=>xs.length+ys.length≤sizeLine∧newK (.lst (xs++ys)) H Q
theorem m_kNC2 (xs:List V) (H:Hp) (Q:VK) (ys:List V):kNC2 xs H Q ys=(xs.length+ys.length≤sizeLine∧newK (.lst (xs++ys)) H Q):=rfl
def kNC1 (b:Addr) (H:Hp) (Q:VK):List V->Prop:=fun xs=>optK (lstAt H b) (kNC2 xs H Q)
theorem m_kNC1 (b:Addr) (H:Hp) (Q:VK) (xs:List V):kNC1 b H Q xs=optK (lstAt H b) (kNC2 xs H Q):=rfl
def nCat:R2:=fun x y H Q=>match x,y with
 | .ref l,.ref b=>optK (lstAt H l) (kNC1 b H Q)
 | _,_=>False
theorem m_nCat (l b:Addr) (H:Hp) (Q:VK):nCat (.ref l) (.ref b) H Q=optK (lstAt H l) (kNC1 b H Q):=rfl
theorem op_nCat {X:Cx}:OpR X (binaryOp .Add) nCat:=op_cat.mono fun x y H Q h=>by
 unfold nCat at h
 split at h
 ·rw [m_rCat]
  exact optK_mono (fun _ q=>optK_mono (fun _ q=>⟨q.1,q.2.to⟩) q) h
 ·exact h.elim
def kNS (lo hi:Option Int) (H:Hp) (Q:VK):List V->Prop:=fun xs=>newK (.lst (cutV xs lo hi)) H Q
theorem m_kNS (lo hi:Option Int) (H:Hp) (Q:VK) (xs:List V):kNS lo hi H Q xs=newK (.lst (cutV xs lo hi)) H Q:=rfl
def nSl:V->Option Int->Option Int->Hp->VK->Prop:=fun x lo hi H Q=>match x with
 | .ref a=>optK (lstAt H a) (kNS lo hi H Q)
 | _=>False
theorem m_nSl (a:Addr) (lo hi:Option Int) (H:Hp) (Q:VK):nSl (.ref a) lo hi H Q=optK (lstAt H a) (kNS lo hi H Q):=rfl
theorem sl_n {X:Cx}:SlR X nSl:=sl_q.mono fun x lo hi H Q h=>by
 unfold nSl at h
 split at h
 ·exact optK_mono (fun _ q=>q.to) h
 ·exact h.elim
theorem PE.mono {X:Cx}{e:Expr}{t t':TE}(h:PE X e t) (m:∀ σ H Q,t' σ H Q->t σ H Q):PE X e t':=fun pins s σ H Q I q=>h pins s σ H Q I (m _ _ _ q)
def nDNew:TE:=fun _ H Q=>newK (.dK []) H Q
theorem m_nDNew (σ:St) (H:Hp) (Q:VK):nDNew σ H Q=newK (.dK []) H Q:=rfl
theorem pe_nDNew {X:Cx}{pos:Pos}:PE X (.Dict [] [] pos) nDNew:=pe_dnewK.mono fun _ _ _ h=>h.to
end L2
set_option Elab.async false
set_option linter.all false
set_option maxRecDepth 100000
set_option maxHeartbeats 4000000
namespace L2
open PySem PySem.Spec PyProof.Rows
section
variable {prog:Program}{w:World}{A:Around}{E:Value->Shared->Prop}{s:Shared}
end
section
variable {X:Cx}{pos:Pos}
end
end L2
set_option Elab.async false
set_option linter.all false
set_option maxRecDepth 100000
set_option maxHeartbeats 4000000
namespace L2
open PySem PySem.Spec PyProof.Rows
section
variable {X:Cx}{tg:Expr}
end
end L2
set_option Elab.async false
set_option linter.all false
set_option maxRecDepth 100000
set_option maxHeartbeats 4000000
namespace L2
open PySem PySem.Spec PyProof.Rows
def kBls (F:List Bool->Prop):List V->Prop:=fun xs=>∃ bs,xs=bs.map V.bl∧F bs
theorem bls_inj:∀ {ns ms:List Bool},ns.map V.bl=ms.map V.bl->ns=ms
 | [],[],_=>rfl
 | [],_::_,h=>by cases h
 | _::_,[],h=>by cases h
 | i::r,j::t,h=>by
  simp only [List.map_cons,List.cons.injEq,V.bl.injEq] at h
  rw [h.1,bls_inj h.2]
theorem m_kBls (F:List Bool->Prop) (bs:List Bool):kBls F (bs.map V.bl)=F bs:=propext ⟨fun ⟨ms,e,h⟩=>by rw [bls_inj e];exact h,fun h=>⟨bs,rfl,h⟩⟩
section
variable {X:Cx}
end
end L2
set_option Elab.async false
set_option linter.all false
set_option maxRecDepth 100000
set_option maxHeartbeats 4000000
namespace L2
open PySem PySem.Spec PyProof.Rows
structure Src (prog:Program) (w:World) (it:Addr) (fr:List Addr) (st:Nat->Heap->Prop) (val:Nat->Option Value):Prop where
 mem:it∈fr
 there:∀ k h,st k h->∀ b∈fr,∃ o,h.get? b=some o
 keep:∀ k h h',st k h->(∀ b∈fr,∀ o,h.get? b=some o->h'.get? b=some o)->st k h'
 item:∀ (A:Around) k s v (Q:Value->Shared->Prop) (E:Value->Shared->Prop),st k s.heap->val k=some v->(∀ h',st (k+1) h'->Heap.SameBut it s.heap h'->Q v { s with heap:=h' })->wpAny (model prog w) A (Builtin.SmallTypes.nextOf (.ref it)) Q E s
 fin:∀ (A:Around) k s (Q:Value->Shared->Prop) (E:Value->Shared->Prop),A.handled=none->st k s.heap->val k=none->(∀ h' e,Heap.ExtBut it s.heap h'->(∃ o,h'.get? e=some o∧o.cls=.type "StopIteration")->E (.ref e) { s with heap:=h' })->wpAny (model prog w) A (Builtin.SmallTypes.nextOf (.ref it)) Q E s
theorem src_list {prog:Program}{w:World}(it l:Addr) (hne:l ≠ it) (xs:Array Value):Src prog w it [it,l] (fun k h=>h.IsListIter it l k∧h.IsList l xs) (fun k=>xs[k]?) where
 mem:=List.mem_cons_self
 there:=fun k h st b hb=>by
  rcases List.mem_cons.mp hb with e|hb
  ·obtain ⟨o,q,_⟩:=st.1;exact ⟨o,by rw [e];exact q⟩
  ·obtain ⟨o,q,_⟩:=st.2;exact ⟨o,by rw [List.mem_singleton.mp hb];exact q⟩
 keep:=fun k h h' st q=>⟨st.1.at fun o e=>q it (by simp) o e,st.2.at fun o e=>q l (by simp) o e⟩
 item:=fun A k s v Q E st hv hQ=>wpAny_nextOf_list_item st.1 st.2 hv fun h' a b=>hQ h' ⟨a,st.2.extBut b.extBut hne⟩ b
 fin:=fun A k s Q E hh st hv hE=>wpAny_nextOf_list_end hh st.1 st.2 hv hE
section
variable {prog:Program}{w:World}{A:Around}{E:Value->Shared->Prop}{s:Shared}
theorem next_tup_item {j t:Addr}{k:Nat}{xs:Array Value}{v:Value}{Q:Value->Shared->Prop}(hj:s.heap.IsTupleIter j t k) (ht:s.heap.IsTuple t xs) (hv:xs[k]? = some v)
  (hQ:∀ g,g.IsTupleIter j t (k+1)->Heap.SameBut j s.heap g->Q v { s with heap:=g }):wpAny (model prog w) A (Builtin.SmallTypes.nextOf (.ref j)) Q E s:=by
 obtain ⟨oj,h0,h1,h2⟩:=id hj
 obtain ⟨ot,g0,_,n,g1⟩:=ht
 unfold Builtin.SmallTypes.nextOf
 refine wpAny_bind (wpAny_callSpecial?_slot (name:=Str.ofString "__next__") hj.typeIs F.slot_tuple_iterator_next (wpAny_call_entry F.slot_tuple_iterator_next hj.typeIs F.entry_tuple_iterator_next ?_ (F.args_tuple_iterator_next_1 _)))
 refine wpAny_bind (m:=field (.ref j) 0) (wpAny_field h0 h2 (x:=.ref t) rfl ?_)
 show wpAny _ _ (if (Value.ref t == Value.none)=true then _ else _) _ _ _
 rw [if_neg (show ¬ ((.ref t:Value) == .none)=true from Bool.false_ne_true)]
 refine wpAny_bind (m:=field (.ref j) 1) (wpAny_field h0 h2 (x:=.int k 0) rfl ?_)
 refine wpAny_bind (m:=seqItems? (.ref t)) (wpAny_seqItems g0 g1 ?_)
 simp only [Int.toNat_natCast,hv]
 refine wpAny_bind (wpAny_setField h0 h2 (by simp) (wpAny_pure ⟨v,rfl,wpAny_pure (hQ _ ⟨_,Heap.get?_update_self _ h0 (Obj.isFreed_of_fields (Obj.data_mapFields h2 _)),(Obj.cls_mapFields ..).trans h1,?_⟩ (Heap.SameBut.update ..))⟩))
 rw [Obj.data_mapFields h2];simp [rawInt]
theorem next_tup_end {j t:Addr}{k:Nat}{xs:Array Value}{Q:Value->Shared->Prop}(hh:A.handled=none) (hj:s.heap.IsTupleIter j t k) (ht:s.heap.IsTuple t xs) (hv:xs[k]? = none)
  (hE:∀ g e,Heap.ExtBut j s.heap g->(∃ o,g.get? e=some o∧o.cls=.type "StopIteration")->E (.ref e) { s with heap:=g }):wpAny (model prog w) A (Builtin.SmallTypes.nextOf (.ref j)) Q E s:=by
 obtain ⟨oj,h0,h1,h2⟩:=id hj
 obtain ⟨ot,g0,_,n,g1⟩:=ht
 unfold Builtin.SmallTypes.nextOf
 refine wpAny_bind (wpAny_callSpecial?_slot (name:=Str.ofString "__next__") hj.typeIs F.slot_tuple_iterator_next (wpAny_call_entry F.slot_tuple_iterator_next hj.typeIs F.entry_tuple_iterator_next ?_ (F.args_tuple_iterator_next_1 _)))
 refine wpAny_bind (m:=field (.ref j) 0) (wpAny_field h0 h2 (x:=.ref t) rfl ?_)
 show wpAny _ _ (if (Value.ref t == Value.none)=true then _ else _) _ _ _
 rw [if_neg (show ¬ ((.ref t:Value) == .none)=true from Bool.false_ne_true)]
 refine wpAny_bind (m:=field (.ref j) 1) (wpAny_field h0 h2 (x:=.int k 0) rfl ?_)
 refine wpAny_bind (m:=seqItems? (.ref t)) (wpAny_seqItems g0 g1 ?_)
 simp only [Int.toNat_natCast,hv]
 refine wpAny_bind (wpAny_rule (wpAny_bind (wpAny_setField h0 h2 (by simp) (wpAny_bind (m:=newExc (.type "StopIteration") []) ?_))))
 simp only [newExc,newTuple]
 refine wpAny_bind (wpAny_newObj_type (wpAny_bind (m:=firstArgMember _ _) (wpAny_of_eq (a:=Value.none) (by first|rfl|(simp only [firstArgMember];rfl)) (wpAny_newObj_type ?_ (by size_fits)))) (by size_fits))
 simp only [raiseNew]
 refine wpAny_bind (wpAny_handled ?_);first|rw [show A.in1.handled=none from hh]|rw [hh]
 exact wpAny_bind (wpAny_pure (wpAny_throw (hE _ _ (((Heap.SameBut.update ..).extBut.push _).push _) ⟨_,Heap.get?_push_size _ rfl,rfl⟩)))
theorem src_tup (it l:Addr) (hne:l ≠ it) (xs:Array Value):Src prog w it [it,l] (fun k h=>h.IsTupleIter it l k∧h.IsTuple l xs) (fun k=>xs[k]?) where
 mem:=List.mem_cons_self
 there:=fun k h st b hb=>by
  rcases List.mem_cons.mp hb with e|hb
  ·obtain ⟨o,q,_⟩:=st.1;exact ⟨o,by rw [e];exact q⟩
  ·obtain ⟨o,q,_⟩:=st.2;exact ⟨o,by rw [List.mem_singleton.mp hb];exact q⟩
 keep:=fun k h h' st q=>⟨st.1.at fun o e=>q it (by simp) o e,st.2.at fun o e=>q l (by simp) o e⟩
 item:=fun A k s v Q E st hv hQ=>next_tup_item st.1 st.2 hv fun h' a b=>hQ h' ⟨a,st.2.extBut b.extBut hne⟩ b
 fin:=fun A k s Q E hh st hv hE=>next_tup_end hh st.1 st.2 hv hE
structure Apart2 (z TI TO i j:Addr) (f g:List Addr):Prop where
 ti:TI ≠ z∧TI ≠ TO∧TI ≠ i∧TI ≠ j
 zt:z ≠ TO
 zf:z ∉ f
 zg:z ∉ g
 tf:TO ∉ f
 tg:TO ∉ g
 ig:i ∉ g
 jf:j ∉ f
variable {z TI TO i j:Addr}{f g:List Addr}{ti tj:Nat->Heap->Prop}{vi vj:Nat->Option Value}{k m:Nat}{x y a b:Value}
theorem ne_mem {p q:Addr}{l:List Addr}(hp:p∈l) (hq:q ∉ l):p ≠ q:=fun e=>hq (e ▸ hp)
theorem Src.but {prog:Program}{w:World}{it:Addr}{fr:List Addr}{st:Nat->Heap->Prop}{val:Nat->Option Value}(S:Src prog w it fr st val){k:Nat}{c:Addr}{h h':Heap}(q:st k h) (e:Heap.ExtBut c h h') (hc:c ∉ fr):st k h':=
 S.keep k h h' q fun b hb o ho=>e b o (ne_mem hb hc) ho
theorem zip2_item (S:Src prog w i f ti vi) (T:Src prog w j g tj vj) (D:Apart2 z TI TO i j f g){Q:Value->Shared->Prop}
  (hz:IsZip s.heap z TI TO .none) (hTI:IsPair s.heap TI (.ref i) (.ref j)) (hTO:IsPair s.heap TO a b) (hi:ti k s.heap) (hj:tj m s.heap) (hx:vi k=some x) (hy:vj m=some y)
  (hQ:∀ h',IsZip h' z TI TO (rawInt s.heap.objs.size)->IsPair h' TO x y->ti (k+1) h'->tj (m+1) h'->IsPair h' s.heap.objs.size x y->h'.objs.size=s.heap.objs.size+1->(∀ c o,c ∉ [z,TO,i,j]->s.heap.get? c=some o->h'.get? c=some o)->Q (.ref s.heap.objs.size) { s with heap:=h' }) :
  wpAny (model prog w) A (Builtin.«zip.__next__» ⟨[.ref z],[]⟩) (fun fin s'=>∃ v,fin=.done (.ret v)∧Q v s') E s:=by
 have iz:i ≠ z:=ne_mem S.mem D.zf
 have jz:j ≠ z:=ne_mem T.mem D.zg
 have iTO:i ≠ TO:=ne_mem S.mem D.tf
 have jTO:j ≠ TO:=ne_mem T.mem D.tg
 have ij:i ≠ j:=ne_mem S.mem D.jf
 refine wpAny_bind (m:=field (.ref z) 2) (wpAny_field hz rfl (x:=.bool false) rfl ?_)
 refine wpAny_bind (m:=field (.ref z) 3) (wpAny_field hz rfl (x:=.ref TI) rfl (wpAny_bind (wpAny_seqItems hTI rfl ?_)))
 refine wpAny_bind (m:=Builtin.SmallTypes.ownedTupleIsFree (.ref z)) ?_
 unfold Builtin.SmallTypes.ownedTupleIsFree
 refine wpAny_bind (wpAny_field hz rfl (x:=.none) rfl (wpAny_pure ?_));simp only [if_true]
 refine wpAny_bind (wpAny_rule (wpAny_bind (wpAny_field hz rfl (x:=.ref TO) rfl (wpAny_bind (wpAny_setField_rec hz (by simp) fun q1 z1 s1=>?_)))))
 replace z1:IsZip q1 z TI TO .ellipsis:=z1
 refine wpAny_bind ?_;simp only [List.zipIdx_cons,List.zipIdx_nil,List.forIn_cons,List.forIn_nil]
 refine wpAny_bind (wpAny_bind (wpAny_onRaise (wpAny_bind (m:=Builtin.SmallTypes.nextOf (.ref i)) (S.item _ k _ x _ _ (S.but hi s1.extBut D.zf) hx fun q2 i2 s2=>wpAny_pure ?_))))
 have o2:IsPair q2 TO a b:=s2.extBut _ _ iTO.symm (s1.extBut _ _ D.zt.symm hTO)
 refine wpAny_bind (wpAny_seqItems o2 rfl (wpAny_bind (wpAny_updateSeq_pair o2 fun q3 o3 s3=>wpAny_bind (wpAny_letGo (wpAny_pure ?_)))))
 replace o3:IsPair q3 TO x b:=o3
 have j3:tj m q3:=T.but (T.but (T.but hj s1.extBut D.zg) s2.extBut D.ig) s3.extBut D.tg
 refine wpAny_bind (wpAny_bind (wpAny_onRaise (wpAny_bind (m:=Builtin.SmallTypes.nextOf (.ref j)) (T.item _ m _ y _ _ j3 hy fun q4 j4 s4=>wpAny_pure ?_))))
 have o4:IsPair q4 TO x b:=s4.extBut _ _ jTO.symm o3
 refine wpAny_bind (wpAny_seqItems o4 rfl (wpAny_bind (wpAny_updateSeq_pair o4 fun q5 o5 s5=>wpAny_bind (wpAny_letGo (wpAny_pure (wpAny_pure ?_))))))
 replace o5:IsPair q5 TO x y:=o5
 refine wpAny_bind (wpAny_seqItems o5 rfl (wpAny_bind (wpAny_newTuple ?_)))
 have sz:q5.objs.size=s.heap.objs.size:=by rw [s5.1,s4.1,s3.1,s2.1,s1.1]
 have z5:IsZip q5 z TI TO .ellipsis:=s5.extBut _ _ D.zt (s4.extBut _ _ jz.symm (s3.extBut _ _ D.zt (s2.extBut _ _ iz.symm z1)))
 have k5:∀ c o,c ∉ [z,TO,i,j]->s.heap.get? c=some o->q5.get? c=some o:=fun c o hc e=>by
  simp only [List.mem_cons,List.not_mem_nil,or_false,not_or] at hc
  exact s5.extBut _ _ hc.2.1 (s4.extBut _ _ hc.2.2.2 (s3.extBut _ _ hc.2.1 (s2.extBut _ _ hc.2.2.1 (s1.extBut _ _ hc.1 e))))
 have i5:ti (k+1) q5:=S.but (S.but (S.but i2 s3.extBut D.tf) s4.extBut D.jf) s5.extBut D.tf
 have j5:tj (m+1) q5:=T.but j4 s5.extBut D.tg
 have zlt:z < q5.objs.size:=Heap.lt_size z5
 refine wpAny_bind (m:=Builtin.SmallTypes.ownedTupleHandOut (.ref z) (.ref q5.objs.size)) ?_
 unfold Builtin.SmallTypes.ownedTupleHandOut
 have z6:IsZip (q5.push { cls:=.type "tuple",data:=.seq #[x,y] }) z TI TO .ellipsis:=Heap.get?_push_of_some _ z5
 refine wpAny_bind (wpAny_setField_rec z6 (by simp) fun q7 z7 s7=>?_)
 replace z7:IsZip q7 z TI TO (rawInt q5.objs.size):=z7
 refine wpAny_setField_rec z7 (by simp) fun q8 z8 s8=>?_
 replace z8:IsZip q8 z TI TO (rawInt q5.objs.size):=z8
 have up:∀ c o,c ≠ z->q5.get? c=some o->q8.get? c=some o:=fun c o hc e=>s8.extBut _ _ hc (s7.extBut _ _ hc (Heap.get?_push_of_some _ e))
 have t8:IsPair q8 q5.objs.size x y:=s8.extBut _ _ (Nat.ne_of_gt zlt) (s7.extBut _ _ (Nat.ne_of_gt zlt) (Heap.get?_push_size _ rfl))
 have n8:q8.objs.size=q5.objs.size+1:=by rw [s8.1,s7.1,Heap.size_push]
 rw [sz] at z8 t8 n8
 refine wpAny_pure ⟨_,rfl,?_⟩
 show Q (.ref q5.objs.size) _
 rw [sz]
 exact hQ q8 z8 (up _ _ D.zt.symm o5) (S.keep _ _ _ i5 fun c hc o e=>up c o (ne_mem hc D.zf) e) (T.keep _ _ _ j5 fun c hc o e=>up c o (ne_mem hc D.zg) e) t8 n8 fun c o hc e=>up c o (fun q=>hc (by simp [q])) (k5 c o hc e)
theorem zip2_end (hh:A.handled=none) (S:Src prog w i f ti vi) (T:Src prog w j g tj vj) (D:Apart2 z TI TO i j f g){Q:Fin->Shared->Prop}
  (hz:IsZip s.heap z TI TO .none) (hTI:IsPair s.heap TI (.ref i) (.ref j)) (hTO:IsPair s.heap TO a b) (hi:ti k s.heap) (hj:tj m s.heap) (hxy:vi k=none∨vj m=none)
  (hE:∀ h' e,(∀ c o,c ∉ [z,TO,i,j]->s.heap.get? c=some o->h'.get? c=some o)->(∃ o,h'.get? e=some o∧o.cls=.type "StopIteration")->E (.ref e) { s with heap:=h' }) :
  wpAny (model prog w) A (Builtin.«zip.__next__» ⟨[.ref z],[]⟩) Q E s:=by
 have iz:i ≠ z:=ne_mem S.mem D.zf
 have jz:j ≠ z:=ne_mem T.mem D.zg
 have iTO:i ≠ TO:=ne_mem S.mem D.tf
 have jTO:j ≠ TO:=ne_mem T.mem D.tg
 refine wpAny_bind (m:=field (.ref z) 2) (wpAny_field hz rfl (x:=.bool false) rfl ?_)
 refine wpAny_bind (m:=field (.ref z) 3) (wpAny_field hz rfl (x:=.ref TI) rfl (wpAny_bind (wpAny_seqItems hTI rfl ?_)))
 refine wpAny_bind (m:=Builtin.SmallTypes.ownedTupleIsFree (.ref z)) ?_
 unfold Builtin.SmallTypes.ownedTupleIsFree
 refine wpAny_bind (wpAny_field hz rfl (x:=.none) rfl (wpAny_pure ?_));simp only [if_true]
 refine wpAny_bind (wpAny_rule (wpAny_bind (wpAny_field hz rfl (x:=.ref TO) rfl (wpAny_bind (wpAny_setField_rec hz (by simp) fun q1 z1 s1=>?_)))))
 replace z1:IsZip q1 z TI TO .ellipsis:=z1
 refine wpAny_bind ?_;simp only [List.zipIdx_cons,List.zipIdx_nil,List.forIn_cons,List.forIn_nil]
 refine wpAny_bind (wpAny_bind (wpAny_onRaise (wpAny_bind (m:=Builtin.SmallTypes.nextOf (.ref i)) ?_)))
 cases hx:vi k with
 | none=>
  refine S.fin _ k _ _ _ hh (S.but hi s1.extBut D.zf) hx fun q2 e s2 ⟨oe,he,hce⟩=>?_
  have z2:IsZip q2 z TI TO .ellipsis:=s2 _ _ iz.symm z1
  have ez:e ≠ z:=fun q=>by subst q;rw [z2] at he;cases he;simp at hce
  refine wpAny_setField_rec z2 (by simp) fun q3 _ s3=>hE q3 e (fun c o hc q=>?_) ⟨oe,s3.extBut _ _ ez he,hce⟩
  simp only [List.mem_cons,List.not_mem_nil,or_false,not_or] at hc
  exact s3.extBut _ _ hc.1 (s2 _ _ hc.2.2.1 (s1.extBut _ _ hc.1 q))
 | some x=>
  have hy:vj m=none:=hxy.resolve_left (by rw [hx];exact Option.some_ne_none x)
  refine S.item _ k _ x _ _ (S.but hi s1.extBut D.zf) hx fun q2 i2 s2=>wpAny_pure ?_
  have o2:IsPair q2 TO a b:=s2.extBut _ _ iTO.symm (s1.extBut _ _ D.zt.symm hTO)
  refine wpAny_bind (wpAny_seqItems o2 rfl (wpAny_bind (wpAny_updateSeq_pair o2 fun q3 o3 s3=>wpAny_bind (wpAny_letGo (wpAny_pure ?_)))))
  have j3:tj m q3:=T.but (T.but (T.but hj s1.extBut D.zg) s2.extBut D.ig) s3.extBut D.tg
  refine wpAny_bind (wpAny_bind (wpAny_onRaise (wpAny_bind (m:=Builtin.SmallTypes.nextOf (.ref j)) (T.fin _ m _ _ _ hh j3 hy fun q4 e s4 ⟨oe,he,hce⟩=>?_))))
  have z4:IsZip q4 z TI TO .ellipsis:=s4 _ _ jz.symm (s3.extBut _ _ D.zt (s2.extBut _ _ iz.symm z1))
  have ez:e ≠ z:=fun q=>by subst q;rw [z4] at he;cases he;simp at hce
  refine wpAny_setField_rec z4 (by simp) fun q5 _ s5=>hE q5 e (fun c o hc q=>?_) ⟨oe,s5.extBut _ _ ez he,hce⟩
  simp only [List.mem_cons,List.not_mem_nil,or_false,not_or] at hc
  exact s5.extBut _ _ hc.1 (s4 _ _ hc.2.2.2 (s3.extBut _ _ hc.2.1 (s2.extBut _ _ hc.2.2.1 (s1.extBut _ _ hc.1 q))))
theorem zip2_next_item (S:Src prog w i f ti vi) (T:Src prog w j g tj vj) (D:Apart2 z TI TO i j f g){Q:Option Value->Shared->Prop}
  (hz:IsZip s.heap z TI TO .none) (hTI:IsPair s.heap TI (.ref i) (.ref j)) (hTO:IsPair s.heap TO a b) (hi:ti k s.heap) (hj:tj m s.heap) (hx:vi k=some x) (hy:vj m=some y)
  (hQ:∀ h',IsZip h' z TI TO (rawInt s.heap.objs.size)->IsPair h' TO x y->ti (k+1) h'->tj (m+1) h'->IsPair h' s.heap.objs.size x y->h'.objs.size=s.heap.objs.size+1->(∀ c o,c ∉ [z,TO,i,j]->s.heap.get? c=some o->h'.get? c=some o)->Q (some (.ref s.heap.objs.size)) { s with heap:=h' }) :
  wpAny (model prog w) A (pyNext (.ref z)) Q E s:=by
 have ty:s.TypeIs (.ref z) "zip":=⟨_,hz,rfl⟩
 unfold pyNext
 exact wpAny_bind (wpAny_attempt (wpAny_callSpecial?_slot (name:=Str.ofString "__next__") ty F.slot_zip_next (wpAny_call_entry F.slot_zip_next ty F.entry_zip_next (zip2_item S T D hz hTI hTO hi hj hx hy fun h' c1 c2 c3 c4 c5 c6 c7=>wpAny_pure (hQ h' c1 c2 c3 c4 c5 c6 c7)) (F.args_zip_next_1 _))))
theorem zip2_next_end (hh:A.handled=none) (S:Src prog w i f ti vi) (T:Src prog w j g tj vj) (D:Apart2 z TI TO i j f g){Q:Option Value->Shared->Prop}
  (hz:IsZip s.heap z TI TO .none) (hTI:IsPair s.heap TI (.ref i) (.ref j)) (hTO:IsPair s.heap TO a b) (hi:ti k s.heap) (hj:tj m s.heap) (hxy:vi k=none∨vj m=none)
  (hQ:∀ h',(∀ c o,c ∉ [z,TO,i,j]->s.heap.get? c=some o->h'.get? c=some o)->Q none { s with heap:=h' }):wpAny (model prog w) A (pyNext (.ref z)) Q E s:=by
 have ty:s.TypeIs (.ref z) "zip":=⟨_,hz,rfl⟩
 unfold pyNext
 refine wpAny_bind (wpAny_attempt (wpAny_callSpecial?_slot (name:=Str.ofString "__next__") ty F.slot_zip_next (wpAny_call_entry F.slot_zip_next ty F.entry_zip_next (zip2_end (show A.in1.handled=none from hh) S T D hz hTI hTO hi hj hxy fun h' e kp he=>?_) (F.args_zip_next_1 _))))
 obtain ⟨o,ho,hc⟩:=he
 exact wpAny_bind (wpAny_isInstance (T := "StopIteration") (b:=true) ⟨o,ho,hc⟩ isSubtype_stop (wpAny_pure (hQ _ kp)))
end
end L2
set_option Elab.async false
set_option linter.all false
set_option maxRecDepth 100000
set_option maxHeartbeats 4000000
namespace L2
open PySem PySem.Spec PyProof.Rows
def SeqAt (h:Heap) (k:Bool) (l:Addr) (xs:Array Value):Prop:=match k with
 | true=>h.IsTuple l xs
 | false=>h.IsList l xs
def IterAt (h:Heap) (k:Bool) (it l:Addr) (n:Nat):Prop:=match k with
 | true=>h.IsTupleIter it l n
 | false=>h.IsListIter it l n
def itObj (k:Bool) (l:Addr):Obj:=match k with
 | true=>{ cls:=.type "tuple_iterator",data:=.fields #[.ref l,.int 0 0] }
 | false=>{ cls:=.type "list_iterator",data:=.fields #[.ref l,.int 0 0] }
theorem SeqAt.at {h h':Heap}{k:Bool}{l:Addr}{xs:Array Value}(q:SeqAt h k l xs) (e:∀ o,h.get? l=some o->h'.get? l=some o):SeqAt h' k l xs:=by
 cases k
 ·exact Heap.IsList.at q e
 ·exact Heap.IsTuple.at q e
theorem IterAt.at {h h':Heap}{k:Bool}{it l:Addr}{n:Nat}(q:IterAt h k it l n) (e:∀ o,h.get? it=some o->h'.get? it=some o):IterAt h' k it l n:=by
 cases k
 ·exact Heap.IsListIter.at q e
 ·exact Heap.IsTupleIter.at q e
theorem IterAt.obj {h:Heap}{k:Bool}{it l:Addr}{n:Nat}(q:IterAt h k it l n):∃ o fs,h.get? it=some o∧o.data=.fields fs:=by
 cases k
 ·obtain ⟨o,e,_,d⟩:=(show h.IsListIter it l n from q);exact ⟨o,_,e,d⟩
 ·obtain ⟨o,e,_,d⟩:=(show h.IsTupleIter it l n from q);exact ⟨o,_,e,d⟩
theorem src_sq {prog:Program}{w:World}(k:Bool) (it l:Addr) (hne:l ≠ it) (xs:Array Value):Src prog w it [it,l] (fun n h=>IterAt h k it l n∧SeqAt h k l xs) (fun n=>xs[n]?):=by
 cases k
 ·exact src_list it l hne xs
 ·exact src_tup it l hne xs
section
variable {prog:Program}{w:World}{A:Around}{E:Value->Shared->Prop}{s:Shared}
theorem iter_sq {k:Bool}{l:Addr}{xs:Array Value}{Q:Value->Shared->Prop}(h:SeqAt s.heap k l xs) (hQ:Q (.ref s.heap.objs.size) { s with heap:=s.heap.push (itObj k l) }):wpAny (model prog w) A (pyIter (.ref l)) Q E s:=by
 cases k
 ·exact wpAny_pyIter_list h hQ
 ·exact wpAny_pyIter_tuple h hQ
abbrev zq1 (ka:Bool) (a:Addr) (h:Heap):Heap:=h.push (itObj ka a)
abbrev zq2 (ka kb:Bool) (a b:Addr) (h:Heap):Heap:=(zq1 ka a h).push (itObj kb b)
abbrev zq3 (ka kb:Bool) (a b:Addr) (h:Heap):Heap:=(zq2 ka kb a b h).push { cls:=.type "tuple",data:=.seq #[.ref h.objs.size,.ref (zq1 ka a h).objs.size] }
abbrev zq4 (ka kb:Bool) (a b:Addr) (h:Heap):Heap:=(zq3 ka kb a b h).push { cls:=.type "tuple",data:=.seq #[.none,.none] }
abbrev zq5 (ka kb:Bool) (a b:Addr) (h:Heap):Heap:=(zq4 ka kb a b h).push { cls:=.type "zip",data:=.fields #[.none,.bool false,.bool false,.ref (zq2 ka kb a b h).objs.size,.ref (zq3 ka kb a b h).objs.size] }
theorem zip_meets (ka kb:Bool) (a b:Addr) (xs ys:Array Value):Meets (Builtin.«zip.__new__» ⟨[.type "zip",.ref a,.ref b],[]⟩) (fun _ R s=>SeqAt s.heap ka a xs∧SeqAt s.heap kb b ys∧R (.ok (.ret (.ref (zq4 ka kb a b s.heap).objs.size))) { s with heap:=zq5 ka kb a b s.heap }):=
 .of_wp fun prog w A R s h=>by
  obtain ⟨hp,g,d,tk,os⟩:=s;obtain ⟨h1,h2,h⟩:=h;have hsub:=sub_zip
  have q1:SeqAt (Shared.heap ⟨hp,g,d,tk,os⟩) ka a xs:=h1
  have q2:SeqAt (Shared.heap ⟨hp.push (itObj ka a),g,d,tk,os⟩) kb b ys:=h2.at fun o e=>Heap.get?_push_of_some _ e
  wp_walk using iter_sq q1,iter_sq q2
  exact ⟨_,rfl,h⟩
theorem call_zq {ka kb:Bool}{a b:Addr}{xs ys:Array Value}{Q:Value->Shared->Prop}(h1:SeqAt s.heap ka a xs) (h2:SeqAt s.heap kb b ys)
  (h:∀ h' n,n=s.heap.objs.size->IsZip h' (n+4) (n+2) (n+3) .none->IsPair h' (n+2) (.ref n) (.ref (n+1))->IsPair h' (n+3) .none .none->IterAt h' ka n a 0->IterAt h' kb (n+1) b 0->h'.objs.size=n+5->(∀ c o,s.heap.get? c=some o->h'.get? c=some o)->Q (.ref (n+4)) { s with heap:=h' }) :
  wpAny (model prog w) A (call (.type "zip") [.ref a,.ref b]) Q E s:=by
 refine callType_new F.called_zip (by decide) (F.typeCall_zip_2 _ _) (F.newCall_zip_2 _ _) (fun ob=>F.args_object_init_3 ob _ _) F.entry_zip_new (zip_meets ka kb a b xs ys) ⟨h1,h2,?_⟩
 have n1:(zq1 ka a s.heap).objs.size=s.heap.objs.size+1:=Heap.size_push ..
 have n2:(zq2 ka kb a b s.heap).objs.size=s.heap.objs.size+2:=by rw [Heap.size_push,n1]
 have n3:(zq3 ka kb a b s.heap).objs.size=s.heap.objs.size+3:=by rw [Heap.size_push,n2]
 have n4:(zq4 ka kb a b s.heap).objs.size=s.heap.objs.size+4:=by rw [Heap.size_push,n3]
 have n5:(zq5 ka kb a b s.heap).objs.size=s.heap.objs.size+5:=by rw [Heap.size_push,n4]
 have f1:IterAt (zq1 ka a s.heap) ka s.heap.objs.size a 0:=by
  cases ka<;>exact ⟨_,Heap.get?_push_size _ rfl,rfl,rfl⟩
 have f2:IterAt (zq2 ka kb a b s.heap) kb (zq1 ka a s.heap).objs.size b 0:=by
  cases kb<;>exact ⟨_,Heap.get?_push_size _ rfl,rfl,rfl⟩
 have u2:∀ c o,(zq2 ka kb a b s.heap).get? c=some o->(zq5 ka kb a b s.heap).get? c=some o:=fun c o e=>Heap.get?_push_of_some _ (Heap.get?_push_of_some _ (Heap.get?_push_of_some _ e))
 have g5:(zq5 ka kb a b s.heap).get? (zq4 ka kb a b s.heap).objs.size=some _:=Heap.get?_push_size _ rfl
 have g4:(zq5 ka kb a b s.heap).get? (zq3 ka kb a b s.heap).objs.size=some _:=Heap.get?_push_of_some _ (Heap.get?_push_size _ rfl)
 have g3:(zq5 ka kb a b s.heap).get? (zq2 ka kb a b s.heap).objs.size=some _:=Heap.get?_push_of_some _ (Heap.get?_push_of_some _ (Heap.get?_push_size _ rfl))
 have e1:IterAt (zq5 ka kb a b s.heap) ka s.heap.objs.size a 0:=f1.at fun o e=>u2 _ o (Heap.get?_push_of_some _ e)
 have e2:IterAt (zq5 ka kb a b s.heap) kb (zq1 ka a s.heap).objs.size b 0:=f2.at fun o e=>u2 _ o e
 show _∧_
 rw [n2,n3,n4] at g5
 rw [n1,n2] at g3
 rw [n3] at g4
 rw [n1] at e2
 rw [n4]
 exact ⟨⟨_,g5,rfl⟩,h _ _ rfl g5 g3 g4 e1 e2 n5 fun c o e=>u2 c o (Heap.get?_push_of_some _ (Heap.get?_push_of_some _ e))⟩
end
section
variable {X:Cx}{pins:List (Addr × Obj)}{σ:List (Option V)}{H:Hp}{s:Shared}{h':Heap}
theorem Inv.turnNew {t':Nat}{ch:List Addr}{n:Addr}{o:HO}(I:Inv X pins σ H s) (hch:∀ b∈ch,FpOk X pins H b) (k:∀ b ob,b ∉ ch->s.heap.get? b=some ob->h'.get? b=some ob) (hn:s.heap.objs.size≤n) (new:ObjOk X.prog X.w (upd H n o) h' n o) :
  Inv X pins σ (upd H n o) { s with heap:=h',toks:=t' }:=by
 have fn:=I.hok.fresh hn
 have up:∀ {b u},H b=some u->upd H n o b=some u:=fun {b u} e=>by rw [upd_ne (ne_of_none e fn)];exact e
 have nch:∀ {b u},H b=some u->b ∉ ch:=fun {b u} e z=>by rw [(hch b z).1] at e;cases e
 refine I.step (g':=s.gens) (d':=s.drawn) (ch:=ch) (fun b hb=>⟨(hch b hb).2.2.2.1,(hch b hb).2.1,(hch b hb).2.2.2.2.1,(hch b hb).2.2.2.2.2⟩) (fun b ob _ _ hc e _=>k b ob hc e) (fun b ob _ _ hc e _=>⟨ob.slots,k b ob hc e⟩)
  (fun b ob _ e q=>?_) (fun b ob hc e=>⟨ob,k b ob hc e⟩) (fun _ _ e=>up e) (fun _ _ _ e=>up e) (fun b ps e=>⟨#[],by rw [up e];simp⟩) (fun m hm=>?_) (fun b u e=>?_) I.bare
 ·rw [upd_ne (Nat.ne_of_lt (Nat.lt_of_lt_of_le (Heap.lt_size e) hn))];exact q
 ·obtain ⟨ol,es,ep,ho,r⟩:=hm
  exact ⟨ol,es,ep,k _ ol (fun z=>(hch _ z).2.1 rfl) ho,r⟩
 ·by_cases hb:b=n
  ·subst hb;rw [upd_same] at e;cases e;exact new
  ·rw [upd_ne hb] at e
   refine (I.hok b u e).stay (fun c v hc q=>k c v ?_ q) (fun c q=>up q) fun c xs q=>up q
   rcases hc with rfl|hc
   ·exact nch e
   ·exact nch hc
theorem Inv.turnL {t':Nat}{ch:List Addr}(I:Inv X pins σ H s) (hch:∀ b∈ch,FpOk X pins H b) (k:∀ b ob,b ∉ ch->s.heap.get? b=some ob->h'.get? b=some ob):Inv X pins σ H { s with heap:=h',toks:=t' }:=by
 have nch:∀ {b u},H b=some u->b ∉ ch:=fun {b u} e z=>by rw [(hch b z).1] at e;cases e
 refine I.step (g':=s.gens) (d':=s.drawn) (ch:=ch) (fun b hb=>⟨(hch b hb).2.2.2.1,(hch b hb).2.1,(hch b hb).2.2.2.2.1,(hch b hb).2.2.2.2.2⟩) (fun b ob _ _ hc e _=>k b ob hc e) (fun b ob _ _ hc e _=>⟨ob.slots,k b ob hc e⟩)
  (fun _ _ _ _ q=>q) (fun b ob hc e=>⟨ob,k b ob hc e⟩) (fun _ _ e=>e) (fun _ _ _ e=>e) (fun b ps e=>⟨#[],by rw [e];simp⟩) (fun m hm=>?_) (fun b u e=>?_) I.bare
 ·obtain ⟨ol,es,ep,ho,r⟩:=hm
  exact ⟨ol,es,ep,k _ ol (fun z=>(hch _ z).2.1 rfl) ho,r⟩
 ·refine (I.hok b u e).stay (fun c v hc q=>k c v ?_ q) (fun _ q=>q) fun _ _ q=>q
  rcases hc with rfl|hc
  ·exact nch e
  ·exact nch hc
end
def SqK (k:Bool) (H:Hp) (a:Addr) (xs:List V):Prop:=match k with
 | true=>H a=some (.tup xs)
 | false=>H a=some (.lst xs)
theorem SqK.ne {k:Bool}{H:Hp}{a b:Addr}{xs:List V}(h:SqK k H a xs) (e:H b=none):a ≠ b:=fun z=>by
 subst z
 cases k
 ·rw [show H a=some (.lst xs) from h] at e;cases e
 ·rw [show H a=some (.tup xs) from h] at e;cases e
theorem Inv.sq {X:Cx}{pins:List (Addr × Obj)}{σ:St}{H:Hp}{s:Shared}{k:Bool}{a:Addr}{xs:List V}(I:Inv X pins σ H s) (h:SqK k H a xs):∃ its:List Value,Vals xs its∧SeqAt s.heap k a its.toArray:=by
 cases k
 ·obtain ⟨its,r,p,_⟩:=I.list (SqL.of h);exact ⟨its,r,p.isList⟩
 ·obtain ⟨its,r,p,_⟩:=I.tuple (SqT.of h);exact ⟨its,r,p⟩
def Itz (ka kb:Bool) (a b:Addr) (xs ys:List V):It:=
 ⟨fun i H=>SqK ka H a xs∧SqK kb H b ys∧i < xs.length∧i < ys.length,fun i H x H'=>∃ p u v,H p=none∧x=.ref p∧xs[i]? = some u∧ys[i]? = some v∧H'=upd H p (.tup [u,v]),fun i H=>SqK ka H a xs∧SqK kb H b ys∧(xs.length≤i∨ys.length≤i)⟩
def Tnz (ka kb:Bool) (a b z TI TO p q:Addr) (i:Nat) (h:Heap):Prop:=IsZip h z TI TO .none∧IsPair h TI (.ref p) (.ref q)∧(∃ u v,IsPair h TO u v)∧IterAt h ka p a i∧IterAt h kb q b i
theorem turn_zip {P:Program}{w:World}{K:PySem.W.Frag}{elts:List Expr} {x1}{tp:Pos}(ka kb:Bool) (a b z TI TO p q:Addr) (xs ys:List V) (nd:[z,TI,TO,p,q].Nodup):Turn P w K (.Tuple elts x1 tp) (Itz ka kb a b xs ys) [z,TI,TO,p,q] z (Tnz ka kb a b z TI TO p q) where
 mem:=List.mem_cons_self
 obj:=fun i h st c hc=>by
  obtain ⟨e1,e2,⟨u,v,e3⟩,e4,e5⟩:=st
  simp only [List.mem_cons,List.not_mem_nil,or_false] at hc
  rcases hc with rfl|rfl|rfl|rfl|rfl
  ·exact ⟨_,e1,fun v z=>by cases z⟩
  ·exact ⟨_,e2,fun v z=>by cases z⟩
  ·exact ⟨_,e3,fun v z=>by cases z⟩
  ·obtain ⟨o,fs,e,d⟩:=e4.obj;exact ⟨o,e,fun v z=>by rw [d] at z;cases z⟩
  ·obtain ⟨o,fs,e,d⟩:=e5.obj;exact ⟨o,e,fun v z=>by rw [d] at z;cases z⟩
 keep:=fun i h h' st k=>by
  obtain ⟨e1,e2,⟨u,v,e3⟩,e4,e5⟩:=st
  exact ⟨k z (by simp) _ e1,k TI (by simp) _ e2,⟨u,v,k TO (by simp) _ e3⟩,e4.at fun o e=>k p (by simp) o e,e5.at fun o e=>k q (by simp) o e⟩
 item:=by
  intro X hP hw hK hc i pins s σ H E I hf st hg
  subst hP hw hK
  obtain ⟨e1,e2,⟨u0,v0,e3⟩,e4,e5⟩:=st
  obtain ⟨ha,hb,l1,l2⟩:=hg
  obtain ⟨as,ra,sa⟩:=I.sq ha
  obtain ⟨bs,rb,sb⟩:=I.sq hb
  have hx:xs[i]? = some xs[i]:=List.getElem?_eq_getElem l1
  have hy:ys[i]? = some ys[i]:=List.getElem?_eq_getElem l2
  obtain ⟨u,hu,ru⟩:=ra.get hx
  obtain ⟨v,hv,rv⟩:=rb.get hy
  have free:∀ c∈[z,TI,TO,p,q],H c=none:=fun c h=>(hf c h).1
  have naz:∀ c∈[z,TI,TO,p,q],a ≠ c:=fun c h=>ha.ne (free c h)
  have nbz:∀ c∈[z,TI,TO,p,q],b ≠ c:=fun c h=>hb.ne (free c h)
  simp only [List.nodup_cons,List.mem_cons,List.not_mem_nil,or_false,not_or,not_false_eq_true,and_true,List.nodup_nil] at nd
  obtain ⟨⟨z1,z2,z3,z4⟩,⟨t1,t2,t3⟩,⟨w1,w2⟩,y1⟩:=nd
  have S:=src_sq (prog:=X.prog) (w:=X.w) ka p a (naz p (by simp)) as.toArray
  have T:=src_sq (prog:=X.prog) (w:=X.w) kb q b (nbz q (by simp)) bs.toArray
  have D:Apart2 z TI TO p q [p,a] [q,b]:=⟨⟨Ne.symm z1,t1,t2,t3⟩,z2,by simp [z3,Ne.symm (naz z (by simp))],by simp [z4,Ne.symm (nbz z (by simp))],by simp [w1,Ne.symm (naz TO (by simp))],by simp [w2,Ne.symm (nbz TO (by simp))],by simp [y1,Ne.symm (nbz p (by simp))],by simp [Ne.symm y1,Ne.symm (naz q (by simp))]⟩
  refine zip2_next_item S T D e1 e2 e3 ⟨e4,sa⟩ ⟨e5,sb⟩ (x:=u) (y:=v) (by simpa using hu) (by simpa using hv) fun h1 c1 c2 c3 c4 c5 c6 c7=>?_
  refine ⟨_,rfl,wpAny_letOwnedTupleGo_zip (s:={ s with heap:=h1 }) c1 fun h2 d1 d2=>?_⟩
  have lt:z < s.heap.objs.size:=Heap.lt_size e1
  have kp:∀ c o,c ∉ [z,TO,p,q]->s.heap.get? c=some o->h2.get? c=some o:=fun c o hc e=>d2.extBut _ _ (fun q=>hc (by simp [q])) (c7 c o hc e)
  have hn:h2.get? s.heap.objs.size=some { cls:=.type "tuple",data:=.seq #[u,v] }:=d2.extBut _ _ (Nat.ne_of_gt lt) c5
  have I2:Inv X pins σ (upd H s.heap.objs.size (.tup [xs[i],ys[i]])) { s with heap:=h2 }:=I.turnNew (t':=s.toks) (ch:=[z,TO,p,q]) (fun c hc=>hf c (by simp only [List.mem_cons,List.not_mem_nil,or_false] at hc ⊢;rcases hc with h|h|h|h<;>simp [h])) kp (Nat.le_refl _) ⟨(show 2≤sizeLine by decide),[u,v],.cons ru (.cons rv .nil),⟨_,hn,rfl,_,rfl⟩⟩
  have fr:H s.heap.objs.size=none:=I.hok.fresh (Nat.le_refl _)
  refine ⟨.ref s.heap.objs.size,_,I2,rfl,⟨_,_,_,fr,rfl,hx,hy,rfl⟩,⟨d1,d2.extBut _ _ (Ne.symm z1) (c7 TI _ (by simp [Ne.symm z1,t1,t2,t3]) e2),⟨u,v,d2.extBut _ _ (Ne.symm z2) c2⟩,c3.1.at fun o e=>d2.extBut _ _ (Ne.symm z3) e,c4.1.at fun o e=>d2.extBut _ _ (Ne.symm z4) e⟩,fun c hc=>?_⟩
  obtain ⟨o,ho,_⟩:∃ o,s.heap.get? c=some o∧True:=by
   simp only [List.mem_cons,List.not_mem_nil,or_false] at hc
   rcases hc with rfl|rfl|rfl|rfl|rfl
   ·exact ⟨_,e1,trivial⟩
   ·exact ⟨_,e2,trivial⟩
   ·exact ⟨_,e3,trivial⟩
   ·obtain ⟨o,_,e,_⟩:=e4.obj;exact ⟨o,e,trivial⟩
   ·obtain ⟨o,_,e,_⟩:=e5.obj;exact ⟨o,e,trivial⟩
  rw [upd_ne (Nat.ne_of_lt (Heap.lt_size ho))]
  exact free c hc
 done:=by
  intro X hP hw hK hc i pins s σ H E I hf st hg
  subst hP hw hK
  obtain ⟨e1,e2,⟨u0,v0,e3⟩,e4,e5⟩:=st
  obtain ⟨ha,hb,l⟩:=hg
  obtain ⟨as,ra,sa⟩:=I.sq ha
  obtain ⟨bs,rb,sb⟩:=I.sq hb
  have free:∀ c∈[z,TI,TO,p,q],H c=none:=fun c h=>(hf c h).1
  have naz:∀ c∈[z,TI,TO,p,q],a ≠ c:=fun c h=>ha.ne (free c h)
  have nbz:∀ c∈[z,TI,TO,p,q],b ≠ c:=fun c h=>hb.ne (free c h)
  simp only [List.nodup_cons,List.mem_cons,List.not_mem_nil,or_false,not_or,not_false_eq_true,and_true,List.nodup_nil] at nd
  obtain ⟨⟨z1,z2,z3,z4⟩,⟨t1,t2,t3⟩,⟨w1,w2⟩,y1⟩:=nd
  have S:=src_sq (prog:=X.prog) (w:=X.w) ka p a (naz p (by simp)) as.toArray
  have T:=src_sq (prog:=X.prog) (w:=X.w) kb q b (nbz q (by simp)) bs.toArray
  have D:Apart2 z TI TO p q [p,a] [q,b]:=⟨⟨Ne.symm z1,t1,t2,t3⟩,z2,by simp [z3,Ne.symm (naz z (by simp))],by simp [z4,Ne.symm (nbz z (by simp))],by simp [w1,Ne.symm (naz TO (by simp))],by simp [w2,Ne.symm (nbz TO (by simp))],by simp [y1,Ne.symm (nbz p (by simp))],by simp [Ne.symm y1,Ne.symm (naz q (by simp))]⟩
  have la:=ra.length
  have lb:=rb.length
  refine zip2_next_end (I.ok.hd hc) S T D e1 e2 e3 ⟨e4,sa⟩ ⟨e5,sb⟩ (l.imp (fun h=>by simp;omega) fun h=>by simp;omega) fun h1 kp=>⟨rfl,I.turnL (t':=s.toks) (ch:=[z,TO,p,q]) (fun c hc=>hf c (by simp only [List.mem_cons,List.not_mem_nil,or_false] at hc ⊢;rcases hc with h|h|h|h<;>simp [h])) kp⟩
 self:=fun _ _ _ _ _ st h=>wpAny_pyIter_zip st.1 h
def kZ2 (ka:Bool) (a b:Addr) (xs:List V) (H:Hp) (R:It->Hp->Prop):HO->Prop:=fun o=>match o with
 | .lst ys=>R (Itz ka false a b xs ys) H
 | .tup ys=>R (Itz ka true a b xs ys) H
 | _=>False
theorem m_kZ2_l (ka:Bool) (a b:Addr) (xs ys:List V) (H:Hp) (R:It->Hp->Prop):kZ2 ka a b xs H R (.lst ys)=R (Itz ka false a b xs ys) H:=rfl
def kZ1 (a b:Addr) (H:Hp) (R:It->Hp->Prop):HO->Prop:=fun o=>match o with
 | .lst xs=>optK (H b) (kZ2 false a b xs H R)
 | .tup xs=>optK (H b) (kZ2 true a b xs H R)
 | _=>False
theorem m_kZ1_l (a b:Addr) (xs:List V) (H:Hp) (R:It->Hp->Prop):kZ1 a b H R (.lst xs)=optK (H b) (kZ2 false a b xs H R):=rfl
def kZ0 (R:It->Hp->Prop):List V->Hp->Prop:=fun vs H=>match vs with
 | [.ref a,.ref b]=>optK (H a) (kZ1 a b H R)
 | _=>False
theorem m_kZ0 (R:It->Hp->Prop) (a b:Addr) (H:Hp):kZ0 R [.ref a,.ref b] H=optK (H a) (kZ1 a b H R):=rfl
def iZip (ta:TA):TI:=fun σ H R=>ta σ H (kZ0 R)
theorem m_iZip (ta:TA) (σ:St) (H:Hp) (R:It->Hp->Prop):iZip ta σ H R=ta σ H (kZ0 R):=rfl
theorem kZ0_ex {R:It->Hp->Prop}{vs:List V}{H:Hp}(h:kZ0 R vs H):∃ a b ka kb xs ys,vs=[.ref a,.ref b]∧SqK ka H a xs∧SqK kb H b ys∧R (Itz ka kb a b xs ys) H:=by
 unfold kZ0 at h
 split at h
 ·rename_i a b
  obtain ⟨o,e,h⟩:=optK_ex h
  unfold kZ1 at h
  split at h
  ·rename_i xs
   obtain ⟨o',e',h⟩:=optK_ex h
   unfold kZ2 at h
   split at h
   ·exact ⟨a,b,false,false,xs,_,rfl,e,e',h⟩
   ·exact ⟨a,b,false,true,xs,_,rfl,e,e',h⟩
   ·exact h.elim
  ·rename_i xs
   obtain ⟨o',e',h⟩:=optK_ex h
   unfold kZ2 at h
   split at h
   ·exact ⟨a,b,true,false,xs,_,rfl,e,e',h⟩
   ·exact ⟨a,b,true,true,xs,_,rfl,e,e',h⟩
   ·exact h.elim
  ·exact h.elim
 ·exact h.elim
section
variable {X:Cx}
theorem pi_zip {a b:Expr}{elts:List Expr} {x1}{tp:Pos}{ta:TA}{p pos:Pos}(hg:Gl X "zip") (hm:X.mg "zip"=none) (ha:PA X [a,b] ta) (hs:starEach [a,b] X.env=[(false,eval a X.env),(false,eval b X.env)]:=by rfl) (hs2:starEach [b] X.env=[(false,eval b X.env)]:=by rfl) :
  PI X (.Tuple elts x1 tp) (.Call (.Name "zip" p) [a,b] [] pos) (iZip ta):=by
 intro pins s σ H R I h
 refine Call_ (ld_blt I hg hm (show bootBuiltins "zip"=some (.type "zip") by decide +kernel) (PyProof.Rows.callWith_type1 (thn (ha pos pins s σ H _ I h) fun us s1 ⟨vs,H1,I1,r1,q1⟩=>?_) (by rw [hs,hs2]) (by rw [hs2];rfl)))
 obtain ⟨a,b,ka,kb,xs,ys,rfl,sa,sb,q⟩:=kZ0_ex q1
 cases r1 with
 | cons r rr=>
  cases rr with
  | cons r' rr=>
   cases rr
   cases r
   cases r'
   obtain ⟨as,ra,s1a⟩:=I1.sq sa
   obtain ⟨bs,rb,s1b⟩:=I1.sq sb
   refine call_zq s1a s1b fun h' n hn e1 e2 e3 e4 e5 e6 e7=>?_
   have I2:Inv X pins σ H1 { s1 with heap:=h' }:=I1.kept (t':=s1.toks) e7
   refine wpAny_pyIter_zip (s:={ s1 with heap:=h' }) e1 ⟨n+4,[n+4,n+2,n+3,n,n+1],_,_,H1,rfl,I2,turn_zip ka kb a b (n+4) (n+2) (n+3) n (n+1) xs ys (by simp),⟨e1,e2,⟨_,_,e3⟩,e4,e5⟩,fun c hc=>?_,q⟩
   have hle:s1.heap.objs.size≤c:=by
    rw [←hn]
    simp only [List.mem_cons,List.not_mem_nil,or_false] at hc
    rcases hc with rfl|rfl|rfl|rfl|rfl
    ·exact Nat.le_add_right ..
    ·exact Nat.le_add_right ..
    ·exact Nat.le_add_right ..
    ·exact Nat.le_refl _
    ·exact Nat.le_add_right ..
   exact I1.fpOk hle (I1.hok.fresh hle)
end
end L2
set_option Elab.async false
set_option linter.all false
set_option maxRecDepth 100000
set_option maxHeartbeats 4000000
namespace L2
open PySem PySem.Spec PyProof.Rows
def kCm2 (te:TE) (σ2:St) (N1:VK) (N0:Hp->Prop):Bool->Hp->Prop:=fun b H=>if b=true then te σ2 H N1 else N0 H
theorem m_kCm2 (te:TE) (σ2:St) (N1:VK) (N0:Hp->Prop) (b:Bool) (H:Hp):kCm2 te σ2 N1 N0 b H=(if b=true then te σ2 H N1 else N0 H):=rfl
def kCm (k:Nat) (tt:TT) (te:TE) (σ:St) (N1:VK) (N0:Hp->Prop):St->Hp->Prop:=fun σ2 H=>(∃ vs:St,vs.length=k∧σ2=vs++σ)∧tt σ2 H (kCm2 te σ2 N1 N0)
theorem m_kCm_1 (tt:TT) (te:TE) (σ:St) (N1:VK) (N0:Hp->Prop) (a:Option V) (H:Hp):kCm 1 tt te σ N1 N0 (a::σ) H=tt (a::σ) H (kCm2 te (a::σ) N1 N0):=propext ⟨fun h=>h.2,fun h=>⟨⟨[a],rfl,rfl⟩,h⟩⟩
theorem m_kCm_2 (tt:TT) (te:TE) (σ:St) (N1:VK) (N0:Hp->Prop) (a b:Option V) (H:Hp):kCm 2 tt te σ N1 N0 (a::b::σ) H=tt (a::b::σ) H (kCm2 te (a::b::σ) N1 N0):=propext ⟨fun h=>h.2,fun h=>⟨⟨[a,b],rfl,rfl⟩,h⟩⟩
theorem m_rep_1 (σ:St):List.replicate 1 (none:Option V)++σ=none::σ:=rfl
theorem m_rep_2 (σ:St):List.replicate 2 (none:Option V)++σ=none::none::σ:=rfl
def Al {α:Type}(R:α->V->Prop) (zs:List α) (ys:List V):Prop:=ys.length=zs.length∧∀ (i:Nat) z y,zs[i]? = some z->ys[i]? = some y->R z y
theorem Al.nil {α:Type}{R:α->V->Prop}:Al R [] []:=⟨rfl,fun i z y h=>by simp at h⟩
theorem Al.snoc {α:Type}{R:α->V->Prop}{zs:List α}{ys:List V}{z:α}{y:V}(h:Al R zs ys) (r:R z y):Al R (zs++[z]) (ys++[y]):=by
 refine ⟨by simp [h.1],fun i z' y' h1 h2=>?_⟩
 by_cases hi:i < zs.length
 ·rw [List.getElem?_append_left hi] at h1
  rw [List.getElem?_append_left (by rw [h.1];exact hi)] at h2
  exact h.2 i z' y' h1 h2
 ·rw [List.getElem?_append_right (by omega)] at h1
  rw [List.getElem?_append_right (by rw [h.1];omega),h.1] at h2
  by_cases h0:i - zs.length=0
  ·rw [h0] at h1 h2;simp at h1 h2;subst h1;subst h2;exact r
  ·rw [List.getElem?_eq_none (by simp;omega)] at h1;cases h1
theorem Al.imp {α:Type}{R S:α->V->Prop}{zs:List α}{ys:List V}(h:Al R zs ys) (f:∀ z y,R z y->S z y):Al S zs ys:=⟨h.1,fun i z y a b=>f z y (h.2 i z y a b)⟩
theorem Al.map {α:Type}{f:α->V}{zs:List α}{ys:List V}(h:Al (fun z y=>y=f z) zs ys):ys=zs.map f:=by
 apply List.ext_getElem?
 intro i
 rw [List.getElem?_map]
 by_cases hi:i < zs.length
 ·have e1:zs[i]? = some zs[i]:=List.getElem?_eq_getElem hi
  have e2:ys[i]? = some (ys[i]'(by rw [h.1];exact hi)):=List.getElem?_eq_getElem _
  rw [e1,e2,h.2 i _ _ e1 e2];rfl
 ·have:=h.1;rw [List.getElem?_eq_none (show ys.length≤i by omega),List.getElem?_eq_none (show zs.length≤i by omega)];rfl
section
variable {k:Nat}{g:TG}{tt:TT}{te:TE}{σ:St}{Q:VK}{H:Hp}{K:PySem.W.Frag}
theorem comp_rel {α:Type}{J:It}(zs:List α) (c:α->Bool) (P:α->V->Hp->Prop) (R:Addr->α->V->Hp->Prop)
  (hgo:∀ i z H',zs[i]? = some z->Ext H H'->J.go i H'∧∀ x H'',J.yld i H' x H''->Ext H' H''∧P z x H'')
  (hst:∀ H',Ext H H'->J.stop zs.length H')
  (hR1:∀ D z y H1 H2,R D z y H1->Ext H1 H2->R D z y H2) (hR2:∀ D z y H1 o,R D z y H1->R D z y (upd H1 D o))
  (hl:zs.length≤sizeLine)
  (hs:∀ D z x H' N1 N0,z∈zs->H D=none->Ext H H'->(∃ ys,H' D=some (.lst ys))->P z x H'->(c z=true->∀ y H'',Ext H' H''->R D z y H''->N1 y H'')->(c z=false->∀ H'',Ext H' H''->N0 H'')->g x (List.replicate k none++σ) H' (kCm k tt te σ N1 N0))
  (hd:∀ D ys H',H D=none->Ext H H'->H' D=some (.lst ys)->Al (fun z y=>R D z y H') (zs.filter c) ys->Q (.ref D) H'):kComp k g tt te σ Q J H:=by
 intro D hD
 refine ⟨fun i m ys H'=>m=zs.length - i∧i≤zs.length∧Ext H H'∧H' D=some (.lst ys)∧Al (fun z y=>R D z y H') ((zs.take i).filter c) ys,⟨zs.length,by simp,Nat.zero_le _,Ext.new hD,upd_same,by simpa using Al.nil⟩,?_⟩
 rintro i m ys H' ⟨rfl,hi,e,hD',al⟩
 by_cases hlt:i < zs.length
 ·have hz:zs[i]? = some zs[i]:=List.getElem?_eq_getElem hlt
  obtain ⟨go,y⟩:=hgo i zs[i] H' hz e
  have tk:zs.take (i+1)=zs.take i++[zs[i]]:=by rw [List.take_succ,hz];rfl
  have ln:ys.length < sizeLine:=by
   have h1:=al.1
   have h2:=List.length_filter_le c (zs.take i)
   simp only [List.length_take] at h2
   omega
  refine .inr ⟨go,fun ys' H2=>Ext H H2∧H2 D=some (.lst ys')∧Al (fun z y=>R D z y H2) ((zs.take (i+1)).filter c) ys',fun ys' H2 p=>⟨zs.length - (i+1),by omega,rfl,hlt,p⟩,fun x H2 z=>?_⟩
  obtain ⟨e2,p2⟩:=y x H2 z
  refine hs D zs[i] x H2 (kC3 D ys _) _ (List.getElem_mem hlt) hD (e.trans e2) ⟨ys,e2.at hD'⟩ p2 (fun hc y H3 e3 r3=>?_) fun hc H3 e3=>?_
  ·refine ⟨e3.at (e2.at hD'),ln,(e.trans (e2.trans e3)).put hD,upd_same,?_⟩
   rw [tk,List.filter_append,show [zs[i]].filter c=[zs[i]] by simp [hc]]
   exact Al.snoc (al.imp fun z y r=>hR2 _ _ _ _ _ (hR1 _ _ _ _ _ r (e2.trans e3))) (hR2 _ _ _ _ _ r3)
  ·refine ⟨e.trans (e2.trans e3),(e2.trans e3).at hD',?_⟩
   rw [tk,List.filter_append,show [zs[i]].filter c=[] by simp [hc],List.append_nil]
   exact al.imp fun z y r=>hR1 _ _ _ _ _ r (e2.trans e3)
 ·have e':i=zs.length:=by omega
  subst e'
  rw [List.take_length] at al
  exact .inl ⟨hst H' e,hd D ys H' hD e hD' al⟩
theorem comp_fm {α:Type}{J:It}(zs:List α) (c:α->Bool) (f:α->V) (P:α->V->Hp->Prop)
  (hgo:∀ i z H',zs[i]? = some z->Ext H H'->J.go i H'∧∀ x H'',J.yld i H' x H''->Ext H' H''∧P z x H'')
  (hst:∀ H',Ext H H'->J.stop zs.length H') (hl:zs.length≤sizeLine)
  (hs:∀ D z x H' N1 N0,z∈zs->H D=none->Ext H H'->P z x H'->(c z=true->∀ H'',Ext H' H''->N1 (f z) H'')->(c z=false->∀ H'',Ext H' H''->N0 H'')->g x (List.replicate k none++σ) H' (kCm k tt te σ N1 N0))
  (hd:∀ D H',H D=none->Ext H H'->H' D=some (.lst ((zs.filter c).map f))->Q (.ref D) H'):kComp k g tt te σ Q J H:=
 comp_rel zs c P (fun _ z y _=>y=f z) hgo hst (fun _ _ _ _ _ r _=>r) (fun _ _ _ _ _ r=>r) hl (fun D z x H' N1 N0 hz hD e _ p k1 k0=>hs D z x H' N1 N0 hz hD e p (fun hc H'' e'=>k1 hc _ H'' e' rfl) k0) fun D ys H' hD e hD' al=>hd D H' hD e (by rw [←al.map];exact hD')
theorem wk_rng {lo:Int}{n:Nat}:(∀ i z H',(List.range n)[i]? = some z->Ext H H'->(Itr lo n).go i H'∧∀ x H'',(Itr lo n).yld i H' x H''->Ext H' H''∧x=.int (lo+(z:Nat)))∧∀ H',Ext H H'->(Itr lo n).stop (List.range n).length H':=by
 refine ⟨fun i z H' hz _=>?_,fun H' _=>by simp [Itr]⟩
 obtain ⟨h1,h2⟩:=List.getElem?_eq_some_iff.mp hz
 have e:i=z:=by simpa using h2
 subst e
 exact ⟨(show i < n by simpa using h1),fun x H'' y=>⟨by rw [y.1];exact Ext.refl _,y.2⟩⟩
theorem wk_lst {a:Addr}{xs:List V}(h:H a=some (.lst xs)):(∀ i z H',xs[i]? = some z->Ext H H'->(Itl K a).go i H'∧∀ x H'',(Itl K a).yld i H' x H''->Ext H' H''∧(x=z∧H'' a=some (.lst xs)))∧∀ H',Ext H H'->(Itl K a).stop xs.length H':=
 ⟨fun i z H' hz e=>⟨⟨xs,z,SqL.of (e.at h),hz⟩,fun x H'' y=>⟨by rw [y.1];exact Ext.refl _,Option.some.inj ((y.2 xs (SqL.of (e.at h))).symm.trans hz),by rw [y.1];exact e.at h⟩⟩,fun H' e=>⟨xs,SqL.of (e.at h),Nat.le_refl _⟩⟩
theorem for_zip {tb:TS}{nx:St->Hp->Prop}{rt:VK}{bk ct:St->Hp->Prop}{ka kb:Bool}{a b:Addr}{xs ys:List V}(Pv:Nat->St->Hp->Prop) (h0:Pv 0 σ H) (hl:∀ i σ H,Pv i σ H->SqK ka H a xs∧SqK kb H b ys)
  (hs:∀ i u v p σ H H',xs[i]? = some u->ys[i]? = some v->Pv i σ H->H p=none->Ext H H'->H' p=some (.tup [u,v])->g (.ref p) σ H' (kBody tb ⟨Pv (i+1),rt,nx,Pv (i+1)⟩)) (hd:∀ σ H,Pv (min xs.length ys.length) σ H->nx σ H):kFor g tb ⟨nx,rt,bk,ct⟩ σ (Itz ka kb a b xs ys) H:=by
 refine ⟨fun i m σ H=>m=min xs.length ys.length - i∧i≤min xs.length ys.length∧Pv i σ H,⟨min xs.length ys.length,by simp,Nat.zero_le _,h0⟩,?_⟩
 rintro i m σ H ⟨rfl,hi,p⟩
 obtain ⟨qa,qb⟩:=hl i σ H p
 by_cases hlt:i < min xs.length ys.length
 ·refine .inr ⟨⟨qa,qb,by omega,by omega⟩,Pv (i+1),fun σ' H' p'=>⟨min xs.length ys.length - (i+1),by omega,rfl,hlt,p'⟩,fun x H' y=>?_⟩
  obtain ⟨r,u,v,hr,rfl,hu,hv,rfl⟩:=y
  exact hs i u v r σ H _ hu hv p hr (Ext.new hr) upd_same
 ·have e:i=min xs.length ys.length:=by omega
  subst e
  exact .inl ⟨⟨qa,qb,by omega⟩,hd σ H p⟩
end
def compB (sc:Scope) (N:List Str) (scope:Scope) (N':List Str) (k:Nat):Bool:=
 scope.names.all (fun y=>!(y.2 == .cell)) && (scope.kind == .function) && scope.names.all (fun y=>!(y.2 == .local) || scope.names.lookup y.1 == some .local) && scope.names.all (fun y=>!(y.2 == .free) || sc.names.lookup y.1 == some .cell) && decide (N'.length=k+N.length) &&
  ((N'.drop k).zip N).all (fun p=>(!(scope.names.lookup p.1 == some .free) || decide (p.1=p.2)) && !(scope.names.lookup p.1 == some .local))
theorem comp_ok {X:Cx}{scope:Scope}{N':List Str}{k:Nat}(sc:Scope) (N:List Str) (h1:X.env.scope=sc) (h2:X.N=N) (h:compB sc N scope N' k=true):CompOk X scope N' k:=by
 unfold compB at h
 simp only [Bool.and_eq_true,decide_eq_true_eq] at h
 obtain ⟨⟨⟨⟨⟨a1,a2⟩,a3⟩,a4⟩,a5⟩,a6⟩:=h
 rw [List.all_eq_true] at a1 a3 a4 a6
 have pr:∀ i x,N'[k+i]? = some x->∃ y,N[i]? = some y∧(x,y)∈(N'.drop k).zip N:=fun i x hx=>by
  have h0:=(List.getElem?_eq_some_iff.mp hx).1
  have hi:i < N.length:=by omega
  have e1:(N'.drop k)[i]? = some x:=by rw [List.getElem?_drop];exact hx
  have e2:N[i]? = some N[i]:=List.getElem?_eq_getElem hi
  refine ⟨_,e2,List.mem_of_getElem? (i:=i) ?_⟩
  rw [List.getElem?_zip_eq_some]
  exact ⟨e1,e2⟩
 refine ⟨fun y hy e=>?_,by simpa using a2,fun y hy e=>?_,fun y hy e=>?_,by rw [h2];exact a5,fun i x hx hf=>?_,fun i x hx hf=>?_⟩
 ·have:=a1 y hy;rw [e] at this;simp at this
 ·have:=a3 y hy;rw [e] at this;simpa using this
 ·have:=a4 y hy;rw [e] at this;rw [h1];simpa using this
 ·obtain ⟨y,hy,hm⟩:=pr i x hx
  have:=a6 _ hm
  simp only [hf] at this
  rw [h2,hy]
  simp at this
  rw [this]
 ·obtain ⟨y,hy,hm⟩:=pr i x hx
  have:=a6 _ hm
  simp [hf] at this
end L2
set_option Elab.async false
set_option linter.all false
set_option maxRecDepth 100000
set_option maxHeartbeats 4000000
namespace L2
open PySem PySem.Spec PyProof.Rows
section
variable {X:Cx}{e o value:Expr}{ta tv:TE}{f:Str}{pos pos':Pos}
end
section
variable {X:Cx}{CX:CXT}{k:Nat}{f C:Addr}{fd:FuncData}{ps:List Str}{sp:Sp}{dvs:List V}{ds:List Value}{E:XK}{x m:Str}{p pos apos:Pos}{e o:Expr}{es:List Expr}{ta:TE}{t:TA}
end
section
variable {X:Cx}{CX:CXT}{k:Nat}{f C:Addr}{fd:FuncData}{ps:List Str}{sp:Sp}{dvs:List V}{ds:List Value}{E:XK}{x m:Str}{p pos apos:Pos}{e o:Expr}{es:List Expr}{ta:TE}{t:TA}
end
end L2
set_option Elab.async false
set_option linter.all false
set_option maxRecDepth 100000
set_option maxHeartbeats 4000000
namespace L2
open PySem PySem.Spec PyProof.Rows
def notStar:Expr->Bool
 | .Starred ..=>false
 | _=>true
theorem star_ok {e:Expr}{es:List Expr}{env:Env}(h:notStar e=true):starEach (e::es) env=(false,eval e env)::starEach es env:=by
 cases e<;>first|rfl|cases h
theorem pa_c {X:Cx}{e:Expr}{es:List Expr}{te:TE}{t:TA}(ha:PE X e te) (hr:PA X es t) (hn:notStar e=true:=by rfl):PA X (e::es) (tCons te t):=pa_cons ha hr (star_ok hn)
end L2
namespace L2
open PySem PySem.Spec PyProof.Rows
def TupV (H:Hp) (z:List Int) (y:V):Prop:=∃ q,y=.ref q∧H q=some (.tup (z.map V.int))
theorem tups_all {H:Hp}{f:V->Option PyData}:∀ {zs:List (List Int)}{ys:List V},Al (TupV H) zs ys->allSome (ys.map (datF H (datF H f)))=some (zs.map fun z=>PyData.tuple (z.map PyData.int))
 | [],ys,h=>by rw [List.eq_nil_of_length_eq_zero h.1];rfl
 | z::zs,[],h=>by have:=h.1;simp at this
 | z::zs,y::ys,h=>by
  obtain ⟨q,rfl,hq⟩:=h.2 0 z y rfl rfl
  have ih:=tups_all (H:=H) (f:=f) (zs:=zs) (ys:=ys) ⟨by have:=h.1;simpa using this,fun i z y a b=>h.2 (i+1) z y (by simpa using a) (by simpa using b)⟩
  have e1:datF H (datF H f) (.ref q)=some (.tuple (z.map PyData.int)):=by
   rw [m_datF_ref,hq]
   show datO (datF H f) (.tup (z.map V.int))=_
   rw [m_datO_tup,allSome_ints];rfl
  rw [List.map_cons,e1,m_allSome_cons,ih];rfl
theorem len5000 {n:Nat}(h:n≤5000):n≤sizeLine:=Nat.le_trans h (by decide)
theorem lt5000 {n:Nat}(h:n < 5000):n < sizeLine:=Nat.lt_of_lt_of_le h (by decide)
def kCT2 (xs:List V) (H:Hp) (Q:VK):List V->Prop:=fun ys=>xs.length+ys.length≤sizeLine∧∀ (p:Addr) (H':Hp),Ext H H'->H' p=some (.tup (xs++ys))->Q (.ref p) H'
def kCT1 (b:Addr) (H:Hp) (Q:VK):List V->Prop:=fun xs=>optK (tupAt H b) (kCT2 xs H Q)
theorem m_kCT1 (b:Addr) (H:Hp) (Q:VK) (xs:List V):kCT1 b H Q xs=optK (tupAt H b) (kCT2 xs H Q):=rfl
def nCatT:R2:=fun x y H Q=>match x,y with
 | .ref l,.ref b=>optK (tupAt H l) (kCT1 b H Q)
 | _,_=>False
theorem m_nCatT (l b:Addr) (H:Hp) (Q:VK):nCatT (.ref l) (.ref b) H Q=optK (tupAt H l) (kCT1 b H Q):=rfl
theorem op_nCatT {X:Cx}:OpR X (binaryOp .Add) nCatT:=by
 intro pins s σ H x y v u Q I rx ry h
 unfold nCatT at h
 split at h
 ·rename_i l b
  obtain ⟨xs,e1,h⟩:=optK_ex h
  obtain ⟨ys,e2,hz,k⟩:=optK_ex h
  have g1:=tup_of e1
  have g2:=tup_of e2
  by_cases hx:xs=[]
  ·subst hx
   cases rx
   cases ry
   obtain ⟨its,r1,p1,_⟩:=I.tuple (SqT.of g1)
   obtain ⟨its2,r2,p2,_⟩:=I.tuple (SqT.of g2)
   obtain ⟨⟨cls,dd,data,sl⟩,ho,hc,n,hd⟩:=id p1
   obtain ⟨⟨cls2,dd2,data2,sl2⟩,ho2,hc2,n2,hd2⟩:=id p2
   simp only at hc hd hc2 hd2
   subst hc hd hc2 hd2
   cases r1
   exact concat_meets ⟨_,ho,rfl⟩ ⟨_,ho2,rfl⟩ noFill_tuple_add seq_tuple_add PySem.F.slot_tuple_add PySem.F.entry_tuple_add (PySem.F.args_tuple_add_2 _ _)
    (tuple_addW0 l b #[] its2.toArray n n2 dd dd2 sl sl2 (by simp)) ⟨ho,ho2,show EP X pins σ Q (.ref b) s from ⟨.ref b,H,I,rfl,k b H (Ext.refl _) (by rw [List.nil_append];exact g2)⟩⟩
  ·refine op_catT pins s σ H (.ref l) (.ref b) v u Q I rx ry ⟨l,b,xs,ys,rfl,rfl,SqT.of g1,SqT.of g2,hx,hz,fun hy=>?_,fun hy p hp=>k p _ (Ext.new hp) upd_same⟩
   subst hy
   exact k l H (Ext.refl _) (by rw [List.append_nil];exact g1)
 ·exact h.elim
end L2
set_option Elab.async false
set_option linter.all false
set_option maxRecDepth 100000
set_option maxHeartbeats 4000000
namespace L2
open PySem PySem.Spec PyProof.Rows
theorem wk_al {K:PySem.W.Frag}{H:Hp} {α:Type}{R:α->V->Hp->Prop}(hR:∀ z y H H',R z y H->Ext H H'->R z y H'){l:Addr}{ys:List V}{zs:List α}(h:H l=some (.lst ys)) (al:Al (fun z y=>R z y H) zs ys) :
  (∀ i z H',zs[i]? = some z->Ext H H'->(Itl K l).go i H'∧∀ x H'',(Itl K l).yld i H' x H''->Ext H' H''∧R z x H'')∧∀ H',Ext H H'->(Itl K l).stop zs.length H':=by
 refine ⟨fun i z H' hz e=>?_,fun H' e=>⟨ys,SqL.of (e.at h),by rw [al.1];exact Nat.le_refl _⟩⟩
 have hi:i < ys.length:=by rw [al.1];exact (List.getElem?_eq_some_iff.mp hz).1
 have hy:ys[i]? = some ys[i]:=List.getElem?_eq_getElem hi
 refine ⟨⟨ys,ys[i],SqL.of (e.at h),hy⟩,fun x H'' y=>?_⟩
 have hx:x=ys[i]:=Option.some.inj ((y.2 ys (SqL.of (e.at h))).symm.trans hy)
 refine ⟨by rw [y.1];exact Ext.refl _,?_⟩
 rw [hx,y.1]
 exact hR _ _ _ _ (al.2 i z _ hz hy) e
end L2
set_option Elab.async false
set_option linter.all false
set_option maxRecDepth 100000
set_option maxHeartbeats 4000000
namespace L2
open PySem PySem.Spec PyProof.Rows
section
variable {prog:Program}{w:World}{A:Around}{E:Value->Shared->Prop}{s:Shared}
variable {z TI TO i j:Addr}{f g:List Addr}{ti tj:Nat->Heap->Prop}{vi vj:Nat->Option Value}{k m:Nat}{x y:Value}{t:Addr}{fl:Bool}{ot:Obj}
variable {ka kb:Bool}{a b p q:Addr}{as bs:Array Value}{n:Nat}
end
section
variable {X:Cx}{pins:List (Addr × Obj)}{σ:St}{s:Shared}
end
section
variable {X:Cx}
end
def qInt (xs:List V) (H:Hp) (Q:VK):Prop:=match xs with
 | [.int i]=>Q (.int i) H
 | [.bl k]=>Q (.int (if k=true then 1 else 0)) H
 | _=>False
theorem m_qInt_b (k:Bool) (H:Hp) (Q:VK):qInt [.bl k] H Q=Q (.int (if k=true then 1 else 0)) H:=rfl
theorem call_qInt {X:Cx}:CallR X (.type "int") qInt:=call_int1.mono fun xs H Q h=>by
 unfold qInt at h
 split at h
 ·exact .inl ⟨_,rfl,h⟩
 ·exact .inr ⟨_,rfl,h⟩
 ·exact h.elim
end L2
set_option Elab.async false
set_option linter.all false
set_option maxRecDepth 100000
set_option maxHeartbeats 4000000
namespace L2
open PySem PySem.Spec PyProof.Rows
def kMinI (H:Hp) (Q:VK):List Int->Prop:=fun ns=>0 < ns.length∧∀ M,M∈ns->(∀ a∈ns,M≤a)->Q (.int M) H
theorem x_kMinI (H:Hp) (Q:VK) (ns:List Int):kMinI H Q ns=(0 < ns.length∧∀ M,M∈ns->(∀ a∈ns,M≤a)->Q (.int M) H):=rfl
def qMinL:List V->Hp->VK->Prop:=fun vs H Q=>match vs with
 | [.ref p]=>optK (lstAt H p) (kInts (kMinI H Q))
 | _=>False
theorem m_qMinL (p:Addr) (H:Hp) (Q:VK):qMinL [.ref p] H Q=optK (lstAt H p) (kInts (kMinI H Q)):=rfl
section
variable {X:Cx}
theorem call_qMinL (hc:X.calm=true):CallR X (.builtin "min") qMinL:=by
 intro pins s σ H vs us Q I r h
 unfold qMinL at h
 split at h
 ·rename_i p
  obtain ⟨xs,e,ns,rfl,hn,q⟩:=optK_ex h
  cases r with
  | cons r rr=>
   cases rr
   cases r
   obtain ⟨its,rv,pl,hz⟩:=I.list (SqL.of (lst_of e))
   have hlt:p < s.heap.objs.size:=by obtain ⟨_,e,_⟩:=pl.isList;exact Heap.lt_size e
   have hlen:its.length=ns.length:=by have:=rv.length;simpa using this.symm
   have hsz:its.toArray.size=ns.length:=by simp [hlen]
   have hP:∀ (i:Nat) (v:Value),its.toArray[i]? = some v->∃ t,v=.int (ns.getD i 0) t:=fun i v hP=>by
    have hv:its[i]? = some v:=by simpa using hP
    have hi:i < ns.length:=by rw [←hlen];exact (List.getElem?_eq_some_iff.mp hv).1
    obtain ⟨u,hu,ru⟩:=rv.get (i:=i) (x:=.int (ns.getD i 0)) (by rw [List.getElem?_map,List.getElem?_eq_getElem hi];simp [List.getD,List.getElem?_eq_getElem hi])
    rw [hv] at hu
    cases hu
    exact ru
   refine call_min_walkS (wpAny_pyIter_list pl.isList ⟨s.heap.objs.size,_,_,_,_,_,_,fun i j=>decide (ns.getD i 0 < ns.getD j 0),rfl,(Walks.list (show X.A.in1.handled=none from I.ok.hd hc) _ p (Nat.ne_of_lt hlt) its.toArray).toS,⟨⟨_,Heap.get?_push_size _ rfl,rfl,rfl⟩,pl.isList.push _⟩,fun b hb=>?_,by rw [hsz];exact hn,CmpOf.ints_lt (fun i=>ns.getD i 0) fun i v h=>hP i v h,fun v s' hv hm=>?_⟩)
   ·rw [Heap.size_push]
    rcases List.mem_cons.mp hb with rfl|hb
    ·exact Nat.lt_succ_self _
    ·rw [List.mem_singleton.mp hb];exact Nat.lt_succ_of_lt hlt
   ·obtain ⟨hp,g,d,tk,os⟩:=s'
    have kp:∀ b o,s.heap.get? b=some o->hp.get? b=some o:=fun b o e=>hm.heap b o (fun hmem=>by
     have:b=s.heap.objs.size:=by simpa using hmem
     subst this
     exact absurd (Heap.lt_size e) (Nat.lt_irrefl _)) (Heap.get?_push_of_some _ e)
    have e1:g=s.gens:=hm.gens
    have e2:d=s.drawn:=hm.drawn
    have e3:os=s.os:=hm.os
    subst e1 e2 e3
    obtain ⟨b1,b2⟩:=argBest_lt (fun i=>ns.getD i 0) (its.toArray.size - 1)
    have rv2:=hP _ v hv
    generalize argBest (fun i j=>decide (ns.getD i 0 < ns.getD j 0)) (its.toArray.size - 1)=k at b1 b2 rv2
    rw [hsz] at b1 b2
    have hk:k < ns.length:=by omega
    refine ⟨.int (ns.getD k 0),H,I.kept (t':=tk) kp,rv2,q _ ?_ fun a ha=>?_⟩
    ·rw [List.getD,List.getElem?_eq_getElem hk];exact List.getElem_mem hk
    ·obtain ⟨j,hj,rfl⟩:=List.getElem_of_mem ha
     have:=b2 j (by omega)
     rw [show ns.getD j 0=ns[j] by rw [List.getD,List.getElem?_eq_getElem hj];rfl] at this
     exact this
 ·exact h.elim
end
def kExt2 (l:Addr) (xs:List V) (H:Hp) (Q:VK):List V->Prop:=fun zs=>xs.length+zs.length≤sizeLine∧Q .non (upd H l (.lst (xs++zs)))
theorem m_kExt2 (l:Addr) (xs:List V) (H:Hp) (Q:VK) (zs:List V):kExt2 l xs H Q zs=(xs.length+zs.length≤sizeLine∧Q .non (upd H l (.lst (xs++zs)))):=rfl
def kExt1 (l b:Addr) (H:Hp) (Q:VK):List V->Prop:=fun xs=>optK (lstAt H b) (kExt2 l xs H Q)
theorem m_kExt1 (l b:Addr) (H:Hp) (Q:VK) (xs:List V):kExt1 l b H Q xs=optK (lstAt H b) (kExt2 l xs H Q):=rfl
theorem m_rExtend (l b:Addr) (H:Hp) (Q:VK):rExtend (.ref l) [.ref b] H Q=optK (lstAt H l) (kExt1 l b H Q):=by
 refine propext ⟨fun h=>?_,fun h=>?_⟩
 ·obtain ⟨l',b',xs,zs,e1,e2,h1,h2,h3,q⟩:=h
  cases e1
  cases e2
  unfold lstAt
  rw [h1]
  show optK (lstAt H b) _
  unfold lstAt
  rw [h2]
  exact ⟨h3,q⟩
 ·obtain ⟨xs,e,h⟩:=optK_ex h
  obtain ⟨zs,e2,h3,q⟩:=optK_ex h
  exact ⟨l,b,xs,zs,rfl,rfl,lst_of e,lst_of e2,h3,q⟩
section
variable {X:Cx}{a b c d:Expr}{ta tb tc td:TE}{pos:Pos}
end
section
variable {k:Nat}{g:TG}{tt:TT}{te:TE}{σ:St}{Q:VK}{H:Hp}{K:PySem.W.Frag}
theorem comp_rel2 {α:Type}{J:It}(zs:List α) (c:α->Bool) (P:α->V->Hp->Prop) (R:Addr->α->V->Hp->Prop)
  (hgo:∀ i z H',zs[i]? = some z->Ext H H'->J.go i H'∧∀ x H'',J.yld i H' x H''->Ext H' H''∧P z x H'')
  (hst:∀ H',Ext H H'->J.stop zs.length H')
  (hR1:∀ D z y H1 H2,R D z y H1->Ext H1 H2->R D z y H2) (hR2:∀ D z y H1 xs o,R D z y H1->H1 D=some (.lst xs)->R D z y (upd H1 D o))
  (hl:zs.length≤sizeLine)
  (hs:∀ D z x H' N1 N0,z∈zs->H D=none->Ext H H'->(∃ ys,H' D=some (.lst ys))->P z x H'->(c z=true->∀ y H'',Ext H' H''->R D z y H''->N1 y H'')->(c z=false->∀ H'',Ext H' H''->N0 H'')->g x (List.replicate k none++σ) H' (kCm k tt te σ N1 N0))
  (hd:∀ D ys H',H D=none->Ext H H'->H' D=some (.lst ys)->Al (fun z y=>R D z y H') (zs.filter c) ys->Q (.ref D) H'):kComp k g tt te σ Q J H:=by
 intro D hD
 refine ⟨fun i m ys H'=>m=zs.length - i∧i≤zs.length∧Ext H H'∧H' D=some (.lst ys)∧Al (fun z y=>R D z y H') ((zs.take i).filter c) ys,⟨zs.length,by simp,Nat.zero_le _,Ext.new hD,upd_same,by simpa using Al.nil⟩,?_⟩
 rintro i m ys H' ⟨rfl,hi,e,hD',al⟩
 by_cases hlt:i < zs.length
 ·have hz:zs[i]? = some zs[i]:=List.getElem?_eq_getElem hlt
  obtain ⟨go,y⟩:=hgo i zs[i] H' hz e
  have tk:zs.take (i+1)=zs.take i++[zs[i]]:=by rw [List.take_succ,hz];rfl
  have ln:ys.length < sizeLine:=by
   have h1:=al.1
   have h2:=List.length_filter_le c (zs.take i)
   simp only [List.length_take] at h2
   omega
  refine .inr ⟨go,fun ys' H2=>Ext H H2∧H2 D=some (.lst ys')∧Al (fun z y=>R D z y H2) ((zs.take (i+1)).filter c) ys',fun ys' H2 p=>⟨zs.length - (i+1),by omega,rfl,hlt,p⟩,fun x H2 z=>?_⟩
  obtain ⟨e2,p2⟩:=y x H2 z
  refine hs D zs[i] x H2 (kC3 D ys _) _ (List.getElem_mem hlt) hD (e.trans e2) ⟨ys,e2.at hD'⟩ p2 (fun hc y H3 e3 r3=>?_) fun hc H3 e3=>?_
  ·refine ⟨e3.at (e2.at hD'),ln,(e.trans (e2.trans e3)).put hD,upd_same,?_⟩
   rw [tk,List.filter_append,show [zs[i]].filter c=[zs[i]] by simp [hc]]
   exact Al.snoc (al.imp fun z y r=>hR2 _ _ _ _ _ _ (hR1 _ _ _ _ _ r (e2.trans e3)) (e3.at (e2.at hD'))) (hR2 _ _ _ _ _ _ r3 (e3.at (e2.at hD')))
  ·refine ⟨e.trans (e2.trans e3),(e2.trans e3).at hD',?_⟩
   rw [tk,List.filter_append,show [zs[i]].filter c=[] by simp [hc],List.append_nil]
   exact al.imp fun z y r=>hR1 _ _ _ _ _ r (e2.trans e3)
 ·have e':i=zs.length:=by omega
  subst e'
  rw [List.take_length] at al
  exact .inl ⟨hst H' e,hd D ys H' hD e hD' al⟩
end
end L2
set_option Elab.async false
set_option linter.all false
set_option maxRecDepth 100000
set_option maxHeartbeats 4000000
namespace L2
open PySem PySem.Spec PyProof.Rows
section
variable {X:Cx}
end
section
variable {g:TG}{σ:St}{Q:VK}{H:Hp}{K:PySem.W.Frag}
end
section
variable {X:Cx}{CX:CXT}{k:Nat}{f C:Addr}{fd:FuncData}{ps:List Str}{sp:Sp}{dvs:List V}{ds:List Value}{E:St->XK}{x m:Str}{p pos apos:Pos}{e o:Expr}{es:List Expr}{ta:TE}{t:TA}
end
end L2
set_option Elab.async false
set_option linter.all false
set_option maxRecDepth 100000
set_option maxHeartbeats 1000000
namespace L2
open PySem PySem.Spec PyProof.Rows
section
variable {X:Cx}{e st:Expr}{te tst:TE}{pos p2:Pos}
end
end L2
set_option Elab.async false
set_option linter.all false
set_option maxRecDepth 100000
set_option maxHeartbeats 1000000
namespace L2
open PySem PySem.Spec PyProof.Rows
theorem vals_of_get:∀ {xs:List V}{us:List Value},us.length=xs.length->(∀ (i:Nat) (x:V) (u:Value),xs[i]? = some x->us[i]? = some u->RelV x u)->Vals xs us
 | [],[],_,_=>.nil
 | [],_::_,h,_=>by cases h
 | _::_,[],h,_=>by cases h
 | x::xs,u::us,h,k=>.cons (k 0 x u rfl rfl) (vals_of_get (by simpa using h) fun i y w a b=>k (i+1) y w (by simpa using a) (by simpa using b))
section
variable {X:Cx}
end
end L2
set_option Elab.async false
set_option linter.all false
set_option maxRecDepth 100000
set_option maxHeartbeats 1000000
namespace L2
open PySem PySem.Spec PyProof.Rows
theorem units1 {n:Nat}(h:n+64 < cLine):n+1 < cLine:=by omega
def kDG1 (Q:VK) (x:V):VK:=fun y H=>∃ a v,x=.ref a∧DGet H a y (some v)∧Q v H
def kDG0 (ty:TE) (σ:St) (Q:VK):VK:=fun x H=>ty σ H (kDG1 Q x)
theorem m_kDG0 (ty:TE) (σ:St) (Q:VK) (x:V) (H:Hp):kDG0 ty σ Q x H=ty σ H (kDG1 Q x):=rfl
theorem m_tDGet (td ty:TE) (σ:St) (H:Hp) (Q:VK):tDGet td ty σ H Q=td σ H (kDG0 ty σ Q):=rfl
theorem use_dg {H:Hp}{a:Addr}{kvs:List (Key × V)}{k:Key}{v:V}{Q:VK}(e:H a=some (.dK kvs)) (h:valV kvs k=some v) (q:Q v H):kDG1 Q (.ref a) (kV k) H:=⟨a,v,rfl,h ▸ DGet.k e,q⟩
def rInD (neg:Bool):R2:=fun y x H Q=>∃ a o,x=.ref a∧DGet H a y o∧Q (.bl (if neg=true then !o.isSome else o.isSome)) H
theorem use_in {neg:Bool}{H:Hp}{a:Addr}{kvs:List (Key × V)}{k:Key}{Q:VK}(e:H a=some (.dK kvs)) (q:Q (.bl (if neg=true then !(valV kvs k).isSome else (valV kvs k).isSome)) H):rInD neg (kV k) (.ref a) H Q:=⟨a,_,rfl,DGet.k e,q⟩
theorem use_inT {neg:Bool}{H:Hp}{a b:Addr}{kvs:List (List Key × V)}{k:List Key}{Q:VK}(e:H a=some (.dT kvs)) (eb:H b=some (.tup (k.map kV))) (q:Q (.bl (if neg=true then !(valV kvs k).isSome else (valV kvs k).isSome)) H):rInD neg (.ref b) (.ref a) H Q:=⟨a,_,rfl,DGet.t e eb,q⟩
section
variable {X:Cx}
theorem op_inD (hu:X.A.units+1 < cLine):OpR X (compareOp .In) (rInD false):=by
 intro pins s σ H x y v u Q I rx ry h
 obtain ⟨a,o,rfl,g,q⟩:=h
 obtain rfl:u=Value.ref a:=ry
 exact d_in hu I g rx fun s3 I3=>⟨.bl o.isSome,H,I3,rfl,q⟩
theorem op_notInD (hu:X.A.units+1 < cLine):OpR X (compareOp .NotIn) (rInD true):=by
 intro pins s σ H x y v u Q I rx ry h
 obtain ⟨a,o,rfl,g,q⟩:=h
 obtain rfl:u=Value.ref a:=ry
 exact d_notIn hu I g rx fun s3 I3=>⟨.bl (!o.isSome),H,I3,rfl,q⟩
end
def kDP2 (nx:St->Hp->Prop) (σ:St) (v x:V):VK:=fun y H=>∃ a H4,x=.ref a∧DPut H a y v H4∧nx σ H4
def kDP1 (ty:TE) (nx:St->Hp->Prop) (σ:St) (v:V):VK:=fun x H=>ty σ H (kDP2 nx σ v x)
theorem m_kDP1 (ty:TE) (nx:St->Hp->Prop) (σ:St) (v x:V) (H:Hp):kDP1 ty nx σ v x H=ty σ H (kDP2 nx σ v x):=rfl
def kDP0 (td ty:TE) (nx:St->Hp->Prop) (σ:St):VK:=fun v H=>td σ H (kDP1 ty nx σ v)
theorem m_kDP0 (td ty:TE) (nx:St->Hp->Prop) (σ:St) (v:V) (H:Hp):kDP0 td ty nx σ v H=td σ H (kDP1 ty nx σ v):=rfl
theorem m_sDPut (td ty tv:TE) (nx:St->Hp->Prop) (rt:VK) (bk ct:St->Hp->Prop) (σ:St) (H:Hp):sDPut td ty tv ⟨nx,rt,bk,ct⟩ σ H=tv σ H (kDP0 td ty nx σ):=rfl
theorem use_dp {H:Hp}{a:Addr}{kvs:List (Key × V)}{k:Key}{v:V}{nx:St->Hp->Prop}{σ:St}(e:H a=some (.dK kvs)) (hl:kvs.length < sizeLine) (q:nx σ (upd H a (.dK (putK kvs k v)))):kDP2 nx σ v (.ref a) (kV k) H:=⟨a,_,rfl,DPut.k e hl,q⟩
theorem use_dpT {H:Hp}{a b:Addr}{kvs:List (List Key × V)}{k:List Key}{v:V}{nx:St->Hp->Prop}{σ:St}(e:H a=some (.dT kvs)) (eb:H b=some (.tup (k.map kV))) (hl:kvs.length < sizeLine) (q:nx σ (upd H a (.dT (putK kvs k v)))):kDP2 nx σ v (.ref a) (.ref b) H:=⟨a,_,rfl,DPut.t e eb hl,q⟩
end L2
set_option Elab.async false
set_option linter.all false
set_option maxRecDepth 100000
set_option maxHeartbeats 4000000
namespace L2
open PySem PySem.Spec PyProof.Rows
theorem intsAre_get:∀ {us:List Value}{ns:List Int},us.length=ns.length->(∀ (i:Nat) (u:Value),us[i]? = some u->∃ n t,ns[i]? = some n∧u=.int n t)->IntsAre us ns
 | [],[],_,_=>.nil
 | [],_::_,h,_=>by cases h
 | _::_,[],h,_=>by cases h
 | u::us,n::ns,h,k=>by
  obtain ⟨m,t,e1,rfl⟩:=k 0 u rfl
  cases e1
  exact .cons n t (intsAre_get (by simpa using h) fun i u e=>k (i+1) u (by simpa using e))
theorem vals_of_ints:∀ {us:List Value}{ns:List Int},IntsAre us ns->Vals (ns.map V.int) us
 | _,_,.nil=>.nil
 | _,_,.cons n t r=>.cons ⟨t,rfl⟩ (vals_of_ints r)
theorem paired_get {α β:Type}{F:α->β->Prop}:∀ {l₁:List α}{l₂:List β},Paired F l₁ l₂->∀ {i:Nat}{a:α},l₁[i]? = some a->∃ b,l₂[i]? = some b∧F a b
 | _,_,.nil,i,a,h=>by simp at h
 | _,_,.cons h₁ t,0,a,h=>by cases h;exact ⟨_,rfl,h₁⟩
 | _,_,.cons h₁ t,i+1,a,h=>paired_get t (i:=i) (by simpa using h)
section
variable {X:Cx}
end
end L2
set_option Elab.async false
set_option linter.all false
set_option maxRecDepth 100000
set_option maxHeartbeats 4000000
namespace L2
open PySem PySem.Spec PyProof.Rows
def tV (i:Nat):TE:=fun σ H Q=>match σ[i]? with
 | some (some v)=>Q v H
 | _=>False
theorem tV_eq (i:Nat):tVar i=tV i:=by
 funext σ H Q
 refine propext ⟨fun ⟨v,e,q⟩=>?_,fun h=>?_⟩
 ·unfold tV;rw [e];exact q
 ·unfold tV at h
  split at h
  ·rename_i v e;exact ⟨v,e,h⟩
  ·exact h.elim
theorem m_tV_0 {v:V}{σ:St}{H:Hp}{Q:VK}:tV 0 (some v::σ) H Q=Q v H:=rfl
theorem m_tV_1 {a0:Option V}{v:V}{σ:St}{H:Hp}{Q:VK}:tV 1 (a0::some v::σ) H Q=Q v H:=rfl
theorem m_tV_2 {a0 a1:Option V}{v:V}{σ:St}{H:Hp}{Q:VK}:tV 2 (a0::a1::some v::σ) H Q=Q v H:=rfl
theorem m_tV_3 {a0 a1 a2:Option V}{v:V}{σ:St}{H:Hp}{Q:VK}:tV 3 (a0::a1::a2::some v::σ) H Q=Q v H:=rfl
theorem m_tV_4 {a0 a1 a2 a3:Option V}{v:V}{σ:St}{H:Hp}{Q:VK}:tV 4 (a0::a1::a2::a3::some v::σ) H Q=Q v H:=rfl
theorem m_tV_5 {a0 a1 a2 a3 a4:Option V}{v:V}{σ:St}{H:Hp}{Q:VK}:tV 5 (a0::a1::a2::a3::a4::some v::σ) H Q=Q v H:=rfl
theorem m_tV_6 {a0 a1 a2 a3 a4 a5:Option V}{v:V}{σ:St}{H:Hp}{Q:VK}:tV 6 (a0::a1::a2::a3::a4::a5::some v::σ) H Q=Q v H:=rfl
theorem m_tV_7 {a0 a1 a2 a3 a4 a5 a6:Option V}{v:V}{σ:St}{H:Hp}{Q:VK}:tV 7 (a0::a1::a2::a3::a4::a5::a6::some v::σ) H Q=Q v H:=rfl
theorem m_tV_8 {a0 a1 a2 a3 a4 a5 a6 a7:Option V}{v:V}{σ:St}{H:Hp}{Q:VK}:tV 8 (a0::a1::a2::a3::a4::a5::a6::a7::some v::σ) H Q=Q v H:=rfl
theorem m_tV_9 {a0 a1 a2 a3 a4 a5 a6 a7 a8:Option V}{v:V}{σ:St}{H:Hp}{Q:VK}:tV 9 (a0::a1::a2::a3::a4::a5::a6::a7::a8::some v::σ) H Q=Q v H:=rfl
def nI0 (g:Int->Int->V):R2:=fun x y H Q=>match x,y with
 | .int i,.int j=>Q (g i j) H
 | _,_=>False
theorem m_nI0 (g:Int->Int->V) (i j:Int) (H:Hp) (Q:VK):nI0 g (.int i) (.int j) H Q=Q (g i j) H:=rfl
theorem nI0_eq (g:Int->Int->V):rI0 g=nI0 g:=by
 funext x y H Q
 refine propext ⟨fun ⟨i,j,e,e',q⟩=>by subst e e';exact q,fun h=>?_⟩
 unfold nI0 at h
 split at h
 ·exact ⟨_,_,rfl,rfl,h⟩
 ·exact h.elim
def nI (C:Int->Int->Prop) (g:Int->Int->V):R2:=fun x y H Q=>match x,y with
 | .int i,.int j=>C i j∧Q (g i j) H
 | _,_=>False
theorem m_nI (C:Int->Int->Prop) (g:Int->Int->V) (i j:Int) (H:Hp) (Q:VK):nI C g (.int i) (.int j) H Q=(C i j∧Q (g i j) H):=rfl
theorem nI_eq (C:Int->Int->Prop) (g:Int->Int->V):rI C g=nI C g:=by
 funext x y H Q
 refine propext ⟨fun ⟨i,j,e,e',q⟩=>by subst e e';exact q,fun h=>?_⟩
 unfold nI at h
 split at h
 ·exact ⟨_,_,rfl,rfl,h⟩
 ·exact h.elim
def nU (g:Int->V):V->Hp->VK->Prop:=fun x H Q=>match x with
 | .int i=>Q (g i) H
 | _=>False
theorem m_nU (g:Int->V) (i:Int) (H:Hp) (Q:VK):nU g (.int i) H Q=Q (g i) H:=rfl
theorem nU_eq (g:Int->V):rU g=nU g:=by
 funext x H Q
 refine propext ⟨fun ⟨i,e,q⟩=>by subst e;exact q,fun h=>?_⟩
 unfold nU at h
 split at h
 ·exact ⟨_,rfl,h⟩
 ·exact h.elim
def kTestN (Q:Bool->Hp->Prop):VK:=fun x H=>match x with
 | .bl k=>Q k H
 | _=>False
theorem m_kTestN (Q:Bool->Hp->Prop) (k:Bool) (H:Hp):kTestN Q (.bl k) H=Q k H:=rfl
theorem kTest_eq (Q:Bool->Hp->Prop):kTest Q=kTestN Q:=by
 funext x H
 refine propext ⟨fun ⟨k,e,q⟩=>by subst e;exact q,fun h=>?_⟩
 unfold kTestN at h
 split at h
 ·exact ⟨_,rfl,h⟩
 ·exact h.elim
def nTest (t:TE):TT:=fun σ H Q=>t σ H (kTestN Q)
theorem m_nTest (t:TE) (σ:St) (H:Hp) (Q:Bool->Hp->Prop):nTest t σ H Q=t σ H (kTestN Q):=rfl
theorem nTest_eq (t:TE):tTest t=nTest t:=by
 funext σ H Q
 show t σ H (kTest Q)=t σ H (kTestN Q)
 rw [kTest_eq]
theorem nTest_eqB (t:TE):tB t=nTest t:=nTest_eq t
def kAndN (tb:TE) (σ:St) (Q:VK):VK:=fun x H=>match x with
 | .bl c=>if c=true then tb σ H Q else Q (.bl false) H
 | _=>False
theorem m_kAndN (tb:TE) (σ:St) (Q:VK) (c:Bool) (H:Hp):kAndN tb σ Q (.bl c) H=(if c=true then tb σ H Q else Q (.bl false) H):=rfl
def nAndV (ta tb:TE):TE:=fun σ H Q=>ta σ H (kAndN tb σ Q)
theorem m_nAndV (ta tb:TE) (σ:St) (H:Hp) (Q:VK):nAndV ta tb σ H Q=ta σ H (kAndN tb σ Q):=rfl
theorem nAndV_eq (ta tb:TE):tAndV ta tb=nAndV ta tb:=by
 funext σ H Q
 show ta σ H (kAndV tb σ Q)=ta σ H (kAndN tb σ Q)
 congr 1
 funext x H
 refine propext ⟨fun ⟨k,e,q⟩=>by subst e;exact q,fun h=>?_⟩
 unfold kAndN at h
 split at h
 ·exact ⟨_,rfl,h⟩
 ·exact h.elim
def kNotN (Q:VK):VK:=fun x H=>match x with
 | .bl c=>Q (.bl (!c)) H
 | _=>False
theorem m_kNotN (Q:VK) (c:Bool) (H:Hp):kNotN Q (.bl c) H=Q (.bl (!c)) H:=rfl
def nNotV (ta:TE):TE:=fun σ H Q=>ta σ H (kNotN Q)
theorem m_nNotV (ta:TE) (σ:St) (H:Hp) (Q:VK):nNotV ta σ H Q=ta σ H (kNotN Q):=rfl
theorem nNotV_eq (ta:TE):tNotV ta=nNotV ta:=by
 funext σ H Q
 show ta σ H (kNotV Q)=ta σ H (kNotN Q)
 congr 1
 funext x H
 refine propext ⟨fun ⟨k,e,q⟩=>by subst e;exact q,fun h=>?_⟩
 unfold kNotN at h
 split at h
 ·exact ⟨_,rfl,h⟩
 ·exact h.elim
def gNilN:TGs:=fun vs σ H Q=>match vs with
 | []=>Q σ H
 | _=>False
theorem m_gNilN (σ:St) (H:Hp) (Q:St->Hp->Prop):gNilN [] σ H Q=Q σ H:=rfl
theorem gNil_eq:gNil=gNilN:=by
 funext vs σ H Q
 refine propext ⟨fun ⟨e,q⟩=>by subst e;exact q,fun h=>?_⟩
 unfold gNilN at h
 split at h
 ·exact ⟨rfl,h⟩
 ·exact h.elim
def gConsN (t:TG) (u:TGs):TGs:=fun vs σ H Q=>match vs with
 | v::r=>t v σ H (kGs u r Q)
 | _=>False
theorem m_gConsN (t:TG) (u:TGs) (v:V) (r:List V) (σ:St) (H:Hp) (Q:St->Hp->Prop):gConsN t u (v::r) σ H Q=t v σ H (kGs u r Q):=rfl
theorem gCons_eq (t:TG) (u:TGs):gCons t u=gConsN t u:=by
 funext vs σ H Q
 refine propext ⟨fun ⟨v,r,e,q⟩=>by subst e;exact q,fun h=>?_⟩
 unfold gConsN at h
 split at h
 ·exact ⟨_,_,rfl,h⟩
 ·exact h.elim
theorem spx1 {α0:Type}{f:α0->List V}{B:α0->Prop}(inj:∀ a a',f a=f a'->a=a') (a:α0):(∃ a',f a=f a'∧B a')=B a:=propext ⟨fun ⟨a',e,q⟩=>by obtain rfl:=inj _ _ e;exact q,fun q=>⟨a,rfl,q⟩⟩
theorem spl1 {α0:Type}{f:α0->List V}{B:α0->Prop}{vs:List V}{n:Nat}(h:∃ a,vs=f a∧B a) (l:∀ a,(f a).length=n):vs.length=n:=by
 obtain ⟨_,rfl,_⟩:=h
 exact l _
theorem spx2 {α0 α1:Type}{f:α0->α1->List V}{B:α0->α1->Prop}(inj:∀ a b a' b',f a b=f a' b'->a=a'∧b=b') (a:α0) (b:α1):(∃ a' b',f a b=f a' b'∧B a' b')=B a b:=propext ⟨fun ⟨a',b',e,q⟩=>by obtain ⟨rfl,rfl⟩:=inj _ _ _ _ e;exact q,fun q=>⟨a,b,rfl,q⟩⟩
theorem spl2 {α0 α1:Type}{f:α0->α1->List V}{B:α0->α1->Prop}{vs:List V}{n:Nat}(h:∃ a b,vs=f a b∧B a b) (l:∀ a b,(f a b).length=n):vs.length=n:=by
 obtain ⟨_,_,rfl,_⟩:=h
 exact l _ _
theorem spx3 {α0 α1 α2:Type}{f:α0->α1->α2->List V}{B:α0->α1->α2->Prop}(inj:∀ a b c a' b' c',f a b c=f a' b' c'->a=a'∧b=b'∧c=c') (a:α0) (b:α1) (c:α2):(∃ a' b' c',f a b c=f a' b' c'∧B a' b' c')=B a b c:=propext ⟨fun ⟨a',b',c',e,q⟩=>by obtain ⟨rfl,rfl,rfl⟩:=inj _ _ _ _ _ _ e;exact q,fun q=>⟨a,b,c,rfl,q⟩⟩
theorem spl3 {α0 α1 α2:Type}{f:α0->α1->α2->List V}{B:α0->α1->α2->Prop}{vs:List V}{n:Nat}(h:∃ a b c,vs=f a b c∧B a b c) (l:∀ a b c,(f a b c).length=n):vs.length=n:=by
 obtain ⟨_,_,_,rfl,_⟩:=h
 exact l _ _ _
theorem len0 {P:List Value->Prop}(h:P []):∀ us:List Value,us.length=0->P us:=fun us e=>by
 cases us with
 | nil=>exact h
 | cons a r=>cases e
theorem len1 {P:List Value->Prop}(h:∀ a,P [a]):∀ us:List Value,us.length=1->P us:=fun us e=>by
 cases us with
 | nil=>cases e
 | cons x r=>exact len0 (P:=fun r=>P (x::r)) (h x) r (Nat.succ.inj e)
theorem len2 {P:List Value->Prop}(h:∀ a b,P [a,b]):∀ us:List Value,us.length=2->P us:=fun us e=>by
 cases us with
 | nil=>cases e
 | cons x r=>exact len1 (P:=fun r=>P (x::r)) (h x) r (Nat.succ.inj e)
theorem len3 {P:List Value->Prop}(h:∀ a b c,P [a,b,c]):∀ us:List Value,us.length=3->P us:=fun us e=>by
 cases us with
 | nil=>cases e
 | cons x r=>exact len2 (P:=fun r=>P (x::r)) (h x) r (Nat.succ.inj e)
section
variable {X:Cx}
theorem pvN (i:Nat){x:Str}{pos:Pos}(hN:X.N[i]? = some x:=by rfl) (hv:Vis X.env.scope x:=by first|exact Or.inl rfl|exact Or.inr (Or.inl rfl)|exact Or.inr (Or.inr rfl)) (hd:(x == ("__debug__":Str))=false:=by decide)
  (hcd:(x == ("__classdict__":Str))=false:=by decide):PE X (.Name x pos) (tV i):=by rw [←tV_eq];exact pv i hN hv hd hcd
theorem on_add:OpR X (binaryOp .Add) (nI0 fun i j=>.int (i+j)):=by rw [←nI0_eq];exact op_add
theorem on_sub:OpR X (binaryOp .Sub) (nI0 fun i j=>.int (i - j)):=by rw [←nI0_eq];exact op_sub
theorem on_lt:OpR X (compareOp .Lt) (nI0 fun i j=>.bl (decide (i < j))):=by rw [←nI0_eq];exact op_lt
theorem on_le:OpR X (compareOp .LtE) (nI0 fun i j=>.bl (decide (i≤j))):=by rw [←nI0_eq];exact op_le
theorem on_gt:OpR X (compareOp .Gt) (nI0 fun i j=>.bl (decide (j < i))):=by rw [←nI0_eq];exact op_gt
theorem on_mul:OpR X (binaryOp .Mult) (nI CMul fun i j=>.int (i * j)):=by rw [←nI_eq];exact op_mul
theorem on_fdiv:OpR X (binaryOp .FloorDiv) (nI CDiv fun i j=>.int (i / j)):=by rw [←nI_eq];exact op_fdiv
theorem on_mod:OpR X (binaryOp .Mod) (nI (fun _ j=>0 < j) fun i j=>.int (i % j)):=by rw [←nI_eq];exact op_mod
theorem on_pow:OpR X (binaryOp .Pow) (nI CPow fun i j=>.int (i ^ j.toNat)):=by rw [←nI_eq];exact op_pow
theorem un_negN:UnR X (unaryOp .USub) (nU fun i=>.int (-i)):=by rw [←nU_eq];exact un_neg
variable {a b c d e:Expr}{ta tb tc td t:TE}{pos:Pos}
theorem pt_cmpRN {op:CmpOp}{r:R2}(ho:OpR X (compareOp op) r) (ha:PE X a ta) (hb:PE X b tb) (hm:behindInMarks op b=false):PT X (.Compare a [op] [b] pos) (nTest (tOp r ta tb)):=by rw [←nTest_eq];exact pt_cmpR ho ha hb hm
theorem pt_valN (h:PE X e t) (he:∀ whole,isTrue e X.env whole=(do let v ←whole;standAt e.pos;holding [v] (truthy v)):=by intro _;rfl):PT X e (nTest t):=by rw [←nTest_eqB];exact pt_val h he
variable {rest:List Expr}
theorem pe_andN (ha:PE X a ta) (hb:PE X (.BoolOp .And (b::rest) pos) tb):PE X (.BoolOp .And (a::b::rest) pos) (nAndV ta tb):=by rw [←nAndV_eq];exact pe_and ha hb
theorem pe_notN (ha:PE X a ta):PE X (.UnaryOp .Not a pos) (nNotV ta):=by rw [←nNotV_eq];exact pe_not ha
theorem pgs_nilN:PGs X [] gNilN:=by rw [←gNil_eq];exact pgs_nil
theorem pgs_consN {e:Expr}{es:List Expr}{t:TG}{u:TGs}(h1:PG X e t) (h2:PGs X es u)
  (hs:(assignEach (e::es) X.env).map (·.2)=assign e X.env::(assignEach es X.env).map (·.2):=by rfl):PGs X (e::es) (gConsN t u):=by rw [←gCons_eq];exact pgs_cons h1 h2 hs
end
theorem if_gen {c:TT}{t u:TS}{nx:St->Hp->Prop}{rt:VK}{bk ct:St->Hp->Prop}{σ:St}{H:Hp}(R:St->Hp->Prop) (h:∀ nx':St->Hp->Prop,(∀ σ' H',R σ' H'->nx' σ' H')->tIfS c t u ⟨nx',rt,bk,ct⟩ σ H) (k:∀ σ' H',R σ' H'->nx σ' H'):tIfS c t u ⟨nx,rt,bk,ct⟩ σ H:=h nx k
theorem mo_tV {i:Nat}:ME (tV i):=by rw [←tV_eq];exact mo_var
theorem mo_nI0 {g:Int->Int->V}:MR (nI0 g):=by rw [←nI0_eq];exact mo_rI0
theorem mo_nTest {t:TE}(h:ME t):MT (nTest t):=by rw [←nTest_eq];exact mo_test h
end L2
set_option Elab.async false
set_option linter.all false
set_option maxRecDepth 100000
set_option maxHeartbeats 4000000
namespace L2
open PySem PySem.Spec PyProof.Rows
end L2
set_option Elab.async false
set_option linter.all false
set_option maxRecDepth 100000
set_option maxHeartbeats 4000000
namespace L2
open PySem PySem.Spec PyProof.Rows
def kInI (neg:Bool) (x:V) (H:Hp) (Q:VK):List V->Prop:=fun xs=>flatV x=true∧xs.all flatV=true∧Q (.bl (if neg=true then !inV x xs else inV x xs)) H
theorem m_kInI (neg:Bool) (x:V) (H:Hp) (Q:VK) (xs:List V):kInI neg x H Q xs=(flatV x=true∧xs.all flatV=true∧Q (.bl (if neg=true then !inV x xs else inV x xs)) H):=rfl
def nIn (neg:Bool):R2:=fun x y H Q=>match y with
 | .ref p=>optK (itemsAt H p) (kInI neg x H Q)
 | _=>False
theorem m_nIn (neg:Bool) (x:V) (p:Addr) (H:Hp) (Q:VK):nIn neg x (.ref p) H Q=optK (itemsAt H p) (kInI neg x H Q):=rfl
theorem rIn_of {K:PySem.W.Frag}{neg:Bool}{x y:V}{H:Hp}{Q:VK}(h:nIn neg x y H Q):rIn K neg x y H Q:=by
 unfold nIn at h
 split at h
 ·rename_i p
  obtain ⟨xs,e,h1,h2,q⟩:=optK_ex h
  exact ⟨p,xs,rfl,items_seq e,h1,h2,q⟩
 ·exact h.elim
theorem op_nIn {X:Cx}:OpR X (compareOp .In) (nIn false):=op_in_seq.mono fun x y H Q h=>rIn_of h
theorem op_nNotIn {X:Cx}:OpR X (compareOp .NotIn) (nIn true):=op_notIn_seq.mono fun x y H Q h=>rIn_of h
def kNST (lo hi:Option Int) (H:Hp) (Q:VK):List V->Prop:=fun xs=>¬ (HT.sIx xs.length 0 lo=0∧HT.sIx xs.length xs.length hi=xs.length)∧newK (.tup (cutV xs lo hi)) H Q
def nSlT:V->Option Int->Option Int->Hp->VK->Prop:=fun x lo hi H Q=>match x with
 | .ref a=>optK (tupAt H a) (kNST lo hi H Q)
 | _=>False
theorem m_nSlT (a:Addr) (lo hi:Option Int) (H:Hp) (Q:VK):nSlT (.ref a) lo hi H Q=optK (tupAt H a) (kNST lo hi H Q):=rfl
theorem cut_some (xs:List V) (z:Int) (h:0≤z):cutV xs (some z) none=xs.drop z.toNat:=by
 unfold cutV
 obtain ⟨n,rfl⟩:=Int.eq_ofNat_of_zero_le h
 rw [HT.sIx_none,HT.sIx_nat]
 show _=xs.drop n
 rcases Nat.le_total n xs.length with q|q
 ·rw [Nat.min_eq_left q]
  exact List.take_of_length_le (by rw [List.length_drop];omega)
 ·rw [Nat.min_eq_right q,List.drop_of_length_le (Nat.le_refl _),List.drop_of_length_le q,List.take_nil]
theorem sl_nT {X:Cx}:SlR X nSlT:=sl_tup.mono fun x lo hi H Q h=>by
 unfold nSlT at h
 split at h
 ·rename_i a
  obtain ⟨xs,e,w,q⟩:=optK_ex h
  exact ⟨a,xs,rfl,SqT.of (tup_of e),w,q.to⟩
 ·exact h.elim
section
variable {X:Cx}
end
end L2
set_option Elab.async false
set_option linter.all false
set_option maxRecDepth 100000
set_option maxHeartbeats 4000000
namespace L2
open PySem PySem.Spec PyProof.Rows
section
variable {prog:Program}{w:World}{A:Around}{E:Value->Shared->Prop}{s:Shared}
end
section
variable {X:Cx}
end
end L2
set_option Elab.async false
set_option linter.all false
set_option maxRecDepth 100000
set_option maxHeartbeats 4000000
namespace L2
open PySem PySem.Spec PyProof.Rows
theorem kv_get':∀ {kvs:List (Key × V)}{xs:List (Key × Value)},KV kvs xs->∀ {i:Nat}{p:Key × V},kvs[i]? = some p->∃ q,xs[i]? = some q∧p.1=q.1∧RelV p.2 q.2
 | _,_,.nil,i,q,h=>by simp at h
 | _::_,q::_,.cons h t,0,p,hq=>by cases hq;exact ⟨q,rfl,h⟩
 | _::_,_::_,.cons h t,i+1,p,hq=>kv_get' t (i:=i) (by simpa using hq)
end L2
set_option Elab.async false
set_option linter.all false
set_option maxRecDepth 100000
set_option maxHeartbeats 4000000
namespace L2
open PySem PySem.Spec PyProof.Rows
def Itd (a:Addr) (ob:Obj) (kvs:List (Key × V)):It:=
 ⟨fun i H=>H a=some (.frz ob (.dK kvs))∧i < kvs.length,fun i H x H'=>H'=H∧∃ p,kvs[i]? = some p∧x=kV p.1,fun i H=>H a=some (.frz ob (.dK kvs))∧kvs.length≤i⟩
theorem relV_key:∀ {k:Key}{u:Value},keyIs k u=true->RelV (kV k) u
 | .inl i,u,h=>by
  rcases keyIs_shape h with ⟨j,t,e1,e2⟩|⟨j,t,e1,e2⟩
  ·cases e1;exact ⟨t,e2⟩
  ·cases e1
 | .inr x,u,h=>by
  rcases keyIs_shape h with ⟨j,t,e1,e2⟩|⟨j,t,e1,e2⟩
  ·cases e1
  ·cases e1;exact ⟨t,e2⟩
def DObj (P:Program) (w:World) (ob:Obj) (vs:List (Key × Value)) (ep:Nat):Prop:=∀ (h:Heap) (a:Addr),h.get? a=some ob->h.DictAt (mixKind P w) a vs ep
theorem turn_dict {P:Program}{w:World}{K:PySem.W.Frag}{tg:Expr}(a it:Addr) (ob:Obj) (kvs:List (Key × V)) (vs:List (Key × Value)) (ep:Nat) (kx:KV kvs vs) (dx:DObj P w ob vs ep):Turn P w K tg (Itd a ob kvs) [it] it (fun i h=>h.IsKeyIter it a i vs.length ep) where
 mem:=by simp
 obj:=fun i h st b hb=>by
  have e:b=it:=by simpa using hb
  subst e
  obtain ⟨o,e,c,d⟩:=st
  exact ⟨o,e,fun v z=>by rw [d] at z;cases z⟩
 keep:=fun i h h' st k=>st.at fun o e=>k it (by simp) o e
 item:=by
  intro X hP hw hK hc i pins s σ H E I hf st hg
  subst hP hw hK
  obtain ⟨ha,hi⟩:=hg
  have hob:=(show ObjOk X.prog X.w H s.heap a (.frz ob (.dK kvs)) from I.hok a _ ha).1
  have hlen:kvs.length=vs.length:=Paired.length kx
  obtain ⟨q,hq,hk,hr⟩:=kv_get' kx (List.getElem?_eq_getElem hi)
  obtain ⟨f0,f1,f2,f3,f4,f5⟩:=hf it (by simp)
  refine wpAny_pyNext_dict_item st (dx _ a hob) hq fun key h' hkey st' hs'=>?_
  have I1:Inv X pins σ H { s with heap:=h' }:=I.turned (t':=s.toks) (fun b o hb e=>hs'.extBut b o hb e) f0 f1 f3 f4 f5
  obtain ⟨o,e,c,d⟩:=id st'
  refine ⟨key,rfl,go_of (s:={ s with heap:=h' }) e c d (by decide) ⟨kV kvs[i].1,H,I1,?_,⟨rfl,kvs[i],List.getElem?_eq_getElem hi,rfl⟩,st',fun b hb=>(hf b hb).1⟩⟩
  rw [hk]
  exact relV_key hkey
 done:=by
  intro X hP hw hK hc i pins s σ H E I hf st hg
  subst hP hw hK
  obtain ⟨ha,hi⟩:=hg
  have hob:=(show ObjOk X.prog X.w H s.heap a (.frz ob (.dK kvs)) from I.hok a _ ha).1
  have hlen:kvs.length=vs.length:=Paired.length kx
  obtain ⟨f0,f1,f2,f3,f4,f5⟩:=hf it (by simp)
  exact wpAny_pyNext_dict_end (I.ok.hd hc) st (dx _ a hob) (by simp;omega) fun h' eb=>⟨rfl,I.turned (t':=s.toks) (fun b o hb e=>eb b o hb e) f0 f1 f3 f4 f5⟩
 self:=fun _ _ _ _ _ st h=>wpAny_pyIter_keyiter st h
def kIDc (R:It->Hp->Prop):VK:=fun x H1=>∃ a kvs,x=.ref a∧H1 a=some (.dK kvs)∧∀ ob,R (Itd a ob kvs) (upd H1 a (.frz ob (.dK kvs)))
def iDict (tl:TE):TI:=fun σ H R=>tl σ H (kIDc R)
theorem m_iDict (tl:TE) (σ:St) (H:Hp) (R:It->Hp->Prop):iDict tl σ H R=tl σ H (kIDc R):=rfl
theorem pi_dict {X:Cx}{tg l:Expr}{tl:TE}(hl:PE X l tl):PI X tg l (iDict tl):=by
 intro pins s σ H R I h
 refine thn (hl pins s σ H _ I h) fun v s1 ⟨x,H1,I1,r1,q1⟩=>?_
 obtain ⟨a,kvs,e,ha,q⟩:=q1
 subst e
 cases r1
 have hO:ObjOk X.prog X.w H1 s1.heap a (.dK kvs):=I1.hok a _ ha
 obtain ⟨z0,lo,vs,kx,dd⟩:=id hO
 obtain ⟨ep,hat⟩:=dd.dictAt
 obtain ⟨ob,es,ho,rest⟩:=id hat
 have dx:DObj X.prog X.w ob vs ep:=fun h b hb=>⟨ob,es,hb,rest⟩
 have hO':ObjOk X.prog X.w (upd H1 a (.frz ob (.dK kvs))) s1.heap a (.frz ob (.dK kvs)):=⟨ho,⟨z0,lo,vs,kx,dd⟩⟩
 have I2:=I1.write (t':=s1.toks) (x:=a) (e:=a) (o:=.frz ob (.dK kvs)) (h':=s1.heap) (by rw [ha];trivial) (.inl rfl) (fun b u _ e=>e) ⟨ob,ho⟩ hO'
 refine wpAny_pyIter_dict lo hat ?_
 refine ⟨s1.heap.objs.size,[s1.heap.objs.size],_,_,_,rfl,I2.kept (t':=s1.toks) fun b o e=>Heap.get?_push_of_some _ e,turn_dict a _ ob kvs vs ep kx dx,⟨_,Heap.get?_push_size _ rfl,rfl,rfl⟩,fun b hb=>?_,q ob⟩
 have e:b=s1.heap.objs.size:=by simpa using hb
 subst e
 exact I2.fpOk (Nat.le_refl _) (I2.hok.fresh (Nat.le_refl _))
theorem Inv.thaw {X:Cx}{pins:List (Addr × Obj)}{σ:St}{H:Hp}{s:Shared}{a:Addr}{ob:Obj}{kvs:List (Key × V)}(I:Inv X pins σ H s) (ha:H a=some (.frz ob (.dK kvs))) (hn:∀ o u,X.H₀ a ≠ some (.frz o u)):Inv X pins σ (upd H a (.dK kvs)) s:=by
 have ne:∀ b,H b=none->b ≠ a:=fun b e z=>by rw [z,ha] at e;cases e
 have keepN:∀ b,H b=none->upd H a (.dK kvs) b=none:=fun b e=>by rw [upd_ne (ne b e)];exact e
 refine ⟨I.ok,I.os,I.bare,⟨I.base.keep,I.base.slot,fun b o e n hx=>keepN b (I.base.free b o e n hx),I.base.there,fun b xs e=>?_,fun b o u e=>?_,fun b ps e=>?_⟩,I.loc,I.cell,keepN _ I.free,fun x c e=>keepN _ (I.freeC x c e),fun p hp=>?_,fun b u e=>?_,I.len⟩
 ·have h:=I.base.tups b xs e
  rw [upd_ne (fun z=>by rw [z,ha] at h;cases h)];exact h
 ·have h:=I.base.frzs b o u e
  rw [upd_ne (fun z=>hn o u (by rw [←z];exact e))];exact h
 ·obtain ⟨m,h⟩:=I.base.tbls b ps e
  exact ⟨m,by rw [upd_ne (fun z=>by rw [z,ha] at h;cases h)];exact h⟩
 ·obtain ⟨h1,h2,h3⟩:=I.pin p hp
  exact ⟨h1,keepN _ h2,h3⟩
 ·have stay:∀ (c:Addr) (v:HO),ObjOk X.prog X.w H s.heap c v->ObjOk X.prog X.w (upd H a (.dK kvs)) s.heap c v:=fun c v x=>x.stay (fun _ _ _ q=>q) (fun d q=>by rw [upd_ne (fun z=>by rw [z,ha] at q;cases q)];exact q) fun d xs q=>by rw [upd_ne (fun z=>by rw [z,ha] at q;cases q)];exact q
  by_cases hb:b=a
  ·subst hb
   rw [upd_same] at e
   cases e
   exact stay _ _ (show ObjOk X.prog X.w H s.heap b (.frz ob (.dK kvs)) from I.hok b _ ha).2
  ·rw [upd_ne hb] at e
   exact stay b u (I.hok b u e)
def kThaw (H:Hp) (Q:VK):VK:=fun v H'=>∃ a ob kvs kvs0,H a=some (.dK kvs0)∧H' a=some (.frz ob (.dK kvs))∧Q v (upd H' a (.dK kvs))
def nThaw (t:TE):TE:=fun σ H Q=>t σ H (kThaw H Q)
theorem m_nThaw (t:TE) (σ:St) (H:Hp) (Q:VK):nThaw t σ H Q=t σ H (kThaw H Q):=rfl
theorem pe_thaw {X:Cx}{e:Expr}{t:TE}(h:PE X e t):PE X e (nThaw t):=by
 intro pins s σ H Q I hh
 refine thn (h pins s σ H _ I hh) fun u s1 ⟨v,H1,I1,r1,a,ob,kvs,kvs0,h0,hf,q⟩=>?_
 exact ⟨v,_,I1.thaw hf fun o w z=>(by have:=I.base.frzs a o w z;rw [h0] at this;cases this),r1,q⟩
theorem Ext.thaw {H H1:Hp}{a:Addr}{ob:Obj}{kvs:List (Key × V)}(ha:H a=some (.dK kvs)) (e:Ext (upd H a (.frz ob (.dK kvs))) H1):Ext H (upd H1 a (.dK kvs)):=by
 have h1:∀ b,(H b).isSome=true->upd H1 a (.dK kvs) b=H b:=fun b hb=>by
  by_cases hba:b=a
  ·rw [hba,upd_same,ha]
  ·rw [upd_ne hba,e.1 b (by rw [upd_ne hba];exact hb),upd_ne hba]
 refine ⟨h1,fun K b xs h=>?_⟩
 rcases h with (h|⟨o,h⟩)|h
 ·exact .inl (.inl (by rw [h1 b (by rw [h];rfl)];exact h))
 ·exact .inl (.inr ⟨o,by rw [h1 b (by rw [h];rfl)];exact h⟩)
 ·exact .inr h
section
variable {k:Nat}{g:TG}{tt:TT}{te:TE}{σ:St}{Q:VK}{H:Hp}
theorem use_cd {a:Addr}{kvs:List (Key × V)}(c:Key × V->Bool) (f:Key × V->V) (ha:H a=some (.dK kvs)) (hl:kvs.length≤sizeLine)
  (hs:∀ D ob z H' N1 N0,z∈kvs->H D=none->Ext (upd H a (.frz ob (.dK kvs))) H'->H' a=some (.frz ob (.dK kvs))->(c z=true->∀ H'',Ext H' H''->N1 (f z) H'')->(c z=false->∀ H'',Ext H' H''->N0 H'')->g (kV z.1) (List.replicate k none++σ) H' (kCm k tt te σ N1 N0))
  (hd:∀ D H',H D=none->Ext H H'->H' D=some (.lst ((kvs.filter c).map f))->Q (.ref D) H'):kIDc (kComp k g tt te σ (kThaw H Q)) (.ref a) H:=by
 refine ⟨a,kvs,rfl,ha,fun ob=>?_⟩
 have hfr:upd H a (.frz ob (.dK kvs)) a=some (.frz ob (.dK kvs)):=upd_same
 refine comp_fm kvs c f (fun z x H'=>x=kV z.1∧H' a=some (.frz ob (.dK kvs))) (fun i z H' hz e=>?_) (fun H' e=>?_) hl (fun D z x H' N1 N0 hz hD e p k1 k0=>?_) fun D H' hD e hD'=>?_
 ·have h1:H' a=some (.frz ob (.dK kvs)):=by rw [e.1 a (by rw [hfr];rfl)];exact hfr
  refine ⟨⟨h1,(List.getElem?_eq_some_iff.mp hz).1⟩,fun x H'' ⟨e1,p,hp,ex⟩=>?_⟩
  rw [hz] at hp
  cases hp
  subst e1
  exact ⟨Ext.refl _,ex,h1⟩
 ·exact ⟨by rw [e.1 a (by rw [hfr];rfl)];exact hfr,Nat.le_refl _⟩
 ·obtain ⟨rfl,hp⟩:=p
  exact hs D ob z H' N1 N0 hz (by rwa [upd_ne (fun z=>by rw [z,hfr] at hD;cases hD)] at hD) e hp k1 k0
 ·have hDa:D ≠ a:=fun z=>by rw [z,hfr] at hD;cases hD
  refine ⟨a,ob,kvs,kvs,ha,by rw [e.1 a (by rw [hfr];rfl)];exact hfr,hd D _ (by rwa [upd_ne hDa] at hD) (Ext.thaw ha e) (by rw [upd_ne hDa];exact hD')⟩
end
theorem use_dgF {H:Hp}{a:Addr}{ob:Obj}{kvs:List (Key × V)}{k:Key}{v:V}{Q:VK}(e:H a=some (.frz ob (.dK kvs))) (h:valV kvs k=some v) (q:Q v H):kDG1 Q (.ref a) (kV k) H:=⟨a,v,rfl,h ▸ .inl ⟨kvs,k,.inr ⟨ob,e⟩,rfl,rfl⟩,q⟩
end L2
set_option Elab.async false
set_option linter.all false
set_option maxRecDepth 100000
set_option maxHeartbeats 4000000
namespace L2
open PySem PySem.Spec PyProof.Rows
structure IsC (K:PySem.W.Frag) (C:Addr):Prop where
 cl:Cls K C
 fc:PySem.W.findIn K (.ref C) "__class__"=some (some (.builtin "object.__class__"))
 ocs:PySem.W.specialIn K (.builtin "object.__class__") "__get__"=some (some (.builtin "getset_descriptor.__get__"))
 oct:PySem.W.takesIn K (.builtin "object.__class__")=some true
 mo:PySem.W.mroIn K C (.type "object")=some true
end L2
set_option Elab.async false
set_option linter.all false
set_option maxRecDepth 100000
set_option maxHeartbeats 4000000
namespace L2
open PySem PySem.Spec PyProof.Rows
section
variable {X:Cx}
end
end L2
set_option Elab.async false
set_option linter.all false
set_option maxRecDepth 100000
set_option maxHeartbeats 4000000
namespace L2
open PySem PySem.Spec PyProof.Rows PySem.W
section
variable {prog:Program}{w:World}{A:Around}{E:Value->Shared->Prop}{K:Frag}{x C dx:Addr}{s:Shared}{name:Str}{v:Value}
end
section
variable {X:Cx}{e o value:Expr}{ta tv:TE}{f:Str}{pos pos':Pos}
end
end L2
set_option Elab.async false
set_option linter.all false
set_option maxRecDepth 100000
set_option maxHeartbeats 4000000
namespace L2
open PySem PySem.Spec PyProof.Rows
open Sem (wp)
open AutoSeq1 (wpAny_loadPart')
section
variable {X:Cx}
end
end L2
set_option Elab.async false
set_option linter.all false
set_option maxRecDepth 100000
set_option maxHeartbeats 4000000
namespace L2
open PySem PySem.Spec PyProof.Rows
end L2
set_option Elab.async false
set_option linter.all false
set_option maxRecDepth 100000
set_option maxHeartbeats 4000000
namespace L2
open PySem PySem.Spec PyProof.Rows
def NoCtx (o:Obj):Prop:=∃ vs,o.data=.fields vs∧vs[2]? = some .none
section
variable {prog:Program}{w:World}{A:Around}{E:Value->Shared->Prop}{s:Shared}
end
def Hand (X:Cx):Prop:=∃ (e:Addr) (oe:Obj) (u:HO),X.A.handled=some (.ref e)∧X.H₀ e=some (.frz oe u)∧NoCtx oe
structure TurnH (P:Program) (w:World) (K:PySem.W.Frag) (tg:Expr) (J:It) (fp:List Addr) (it:Addr) (tn:Nat->Heap->Prop):Prop where
 mem:it∈fp
 obj:∀ i h,tn i h->∀ b∈fp,∃ o,h.get? b=some o∧∀ v,o.data ≠ .cell v
 keep:∀ i h h',tn i h->(∀ b∈fp,∀ o,h.get? b=some o->h'.get? b=some o)->tn i h'
 item:∀ (X:Cx),X.prog=P->X.w=w->X.K=K->Hand X->∀ (i:Nat) (pins:List (Addr × Obj)) (s:Shared) (σ:St) (H:Hp) (E:Value->Shared->Prop),Inv X pins σ H s->(∀ b∈fp,FpOk X pins H b)->tn i s.heap->J.go i H →
  wpAny (model P w) X.A (pyNext (.ref it)) (fun r s1=>∃ u,r=some u ∧
   wpAny (model P w) X.A (letOwnedTupleGo tg (.ref it) u) (fun _ s2=>∃ x H',Inv X pins σ H' s2∧RelV x u∧J.yld i H x H'∧tn (i+1) s2.heap∧∀ b∈fp,H' b=none) E s1) E s
 done:∀ (X:Cx),X.prog=P->X.w=w->X.K=K->Hand X->∀ (i:Nat) (pins:List (Addr × Obj)) (s:Shared) (σ:St) (H:Hp) (E:Value->Shared->Prop),Inv X pins σ H s->(∀ b∈fp,FpOk X pins H b)->tn i s.heap->J.stop i H →
  wpAny (model P w) X.A (pyNext (.ref it)) (fun r s1=>r=none∧Inv X pins σ H s1) E s
section
variable {X:Cx}{tg:Expr}
end
structure RoomH (k:Nat) (e:Addr) (A:Around):Prop where
 hd:A.handled=some (.ref e)
 dp:A.depth+3 * k+5 < recursionLimit
 un:A.units+16 * k+200 < cLine
structure FnOkH (P:Program) (w:World) (K:PySem.W.Frag) (mg:Str->Option Value) (base:Heap) (CX:CXT) (k:Nat) (f:Addr) (fd:FuncData) (ps:List Str) (sp:Sp):Prop where
 len:∀ vs H Q E,sp vs H Q E->vs.length=ps.length
 run:∀ (A:Around) (outer:List Env) (s:Shared) (H:Hp) (args:Args) (us:List Value) (vs:List V) (Q:VK) (E:XK) (e:Addr) (oe:Obj) (u:HO),RoomH k e A->H e=some (.frz oe u)->NoCtx oe->Env0 P w K mg base A outer s H->BindsTo s fd args (ps.zip us)->Vals vs us->sp vs H Q E →
  codeAny (model P w) A (.call (.ref f) args) (CR CX outer P w H s Q E) s
section
variable {X:Cx}
end
end L2
set_option Elab.async false
set_option linter.all false
set_option maxRecDepth 100000
set_option maxHeartbeats 4000000
namespace L2
open PySem PySem.Spec PyProof.Rows
section
variable {prog:Program}{w:World}{A:Around}{E:Value->Shared->Prop}{s:Shared}
structure Apart3 (z TI TO i j l:Addr) (f g e:List Addr):Prop where
 ti:TI ≠ z∧TI ≠ TO∧TI ≠ i∧TI ≠ j∧TI ≠ l
 zt:z ≠ TO
 zf:z ∉ f
 zg:z ∉ g
 ze:z ∉ e
 tf:TO ∉ f
 tg:TO ∉ g
 te:TO ∉ e
 ig:i ∉ g
 ie:i ∉ e
 jf:j ∉ f
 je:j ∉ e
 lf:l ∉ f
 lg:l ∉ g
variable {z TI TO i j l:Addr}{f g e:List Addr}{ti tj tl:Nat->Heap->Prop}{vi vj vl:Nat->Option Value}{k m n:Nat}{x y u a b c:Value}
end
section
variable {prog:Program}{w:World}{A:Around}{E:Value->Shared->Prop}{s:Shared}
end
section
variable {X:Cx}
end
end L2
set_option Elab.async false
set_option linter.all false
set_option maxRecDepth 100000
set_option maxHeartbeats 4000000
namespace L2
open PySem PySem.Spec PyProof.Rows
def kGD1 (Q:VK) (a:Addr):VK:=fun y H=>∃ o,DGet H a y o∧Q (o.getD .non) H
def kGD0 (ty:TE) (σ:St) (Q:VK):VK:=fun x H=>∃ a,x=.ref a∧IsD H a∧ty σ H (kGD1 Q a)
theorem m_tDGet1 (td ty:TE) (σ:St) (H:Hp) (Q:VK):tDGet1 td ty σ H Q=td σ H (kGD0 ty σ Q):=rfl
theorem use_get0 {ty:TE}{σ:St}{Q:VK}{H:Hp}{a:Addr}{kvs:List (Key × V)}(e:H a=some (.dK kvs)) (q:ty σ H (kGD1 Q a)):kGD0 ty σ Q (.ref a) H:=⟨a,rfl,.inl ⟨kvs,.inl e⟩,q⟩
theorem use_get {Q:VK}{H:Hp}{a:Addr}{kvs:List (Key × V)}{k:Key}(e:H a=some (.dK kvs)) (q:Q ((valV kvs k).getD .non) H):kGD1 Q a (kV k) H:=⟨_,DGet.k e,q⟩
def kGE2 (Q:VK) (a:Addr) (y:V):VK:=fun z H=>∃ o,DGet H a y o∧Q (o.getD z) H
def kGE1 (tx:TE) (σ:St) (Q:VK) (a:Addr):VK:=fun y H=>tx σ H (kGE2 Q a y)
theorem m_kGE1 (tx:TE) (σ:St) (Q:VK) (a:Addr) (y:V) (H:Hp):kGE1 tx σ Q a y H=tx σ H (kGE2 Q a y):=rfl
def kGE0 (ty tx:TE) (σ:St) (Q:VK):VK:=fun x H=>∃ a,x=.ref a∧IsD H a∧ty σ H (kGE1 tx σ Q a)
theorem m_tDGet2 (td ty tx:TE) (σ:St) (H:Hp) (Q:VK):tDGet2 td ty tx σ H Q=td σ H (kGE0 ty tx σ Q):=rfl
theorem use_ge0 {ty tx:TE}{σ:St}{Q:VK}{H:Hp}{a:Addr}{kvs:List (Key × V)}(e:H a=some (.dK kvs)) (q:ty σ H (kGE1 tx σ Q a)):kGE0 ty tx σ Q (.ref a) H:=⟨a,rfl,.inl ⟨kvs,.inl e⟩,q⟩
theorem use_ge {Q:VK}{H:Hp}{a:Addr}{kvs:List (Key × V)}{k:Key}{z:V}(e:H a=some (.dK kvs)) (q:Q ((valV kvs k).getD z) H):kGE2 Q a (kV k) z H:=⟨_,DGet.k e,q⟩
end L2
set_option Elab.async false
set_option linter.all false
set_option maxRecDepth 100000
set_option maxHeartbeats 4000000
namespace L2
open PySem PySem.Spec PyProof.Rows
section
variable {X:Cx}
def rIndex:V->List V->Hp->VK->Prop:=fun x vs H Q=>∃ l xs y d ds j,x=.ref l∧vs=[y]∧H l=some (.lst xs)∧datV H 6 y=some d∧allSome (xs.map (datV H 5))=some ds∧ds.findIdx? (fun z=>PyData.eqv z d)=some j∧Q (.int (j:Int)) H
theorem mt_index (hu:X.A.units+64 < cLine):MtM X "list.index" rIndex:=by
 intro pins s σ H x vs v us Q I rx rv h
 obtain ⟨l,xs,y,d,ds,j,rfl,rfl,hH,e1,e2,hj,q⟩:=h
 cases rx
 obtain ⟨u,rfl,ru⟩:=rv.one
 obtain ⟨z,its,n,r,hl,e⟩:=I.lstM hH
 obtain ⟨a,b,c⟩:=datV_ok (K:=X.K) 6 y d e1
 obtain ⟨as,zy⟩:=a.reads I ru
 obtain ⟨a',b',c'⟩:=datVs_ok (K:=X.K) (datV_ok 5) xs ds e2
 obtain ⟨bs,zs⟩:=a'.reads I r
 have hm:=SeqAt.readsAll_map ds _ _ b' zs
 rw [List.findIdx?_eq_some_iff_getElem] at hj
 obtain ⟨hjl,hje,hjn⟩:=hj
 have hln:ds.length=its.length:=by rw [←hm,List.length_map]
 have hs:its.length≤sizeLine:=by omega
 rw [sizeLine_eq] at hs
 refine call_meets F.slot_list_index ⟨_,e,rfl⟩ F.entry_list_index (F.args_list_index_2 _ _) (SeqAt.list_indexAt l its.toArray n none #[] u (fun y=>PyData.eqv (SeqAt.readOf s.heap y) d) j (by rw [List.size_toArray];omega) (by omega) ?_ ?_) ⟨e,?_,?_⟩
 ·show PyData.eqv (SeqAt.readOf s.heap its.toArray[j]) d=true
  rw [List.getElem_toArray,←hje]
  congr 1
  rw [←List.getElem_map (f:=SeqAt.readOf s.heap) (h:=by rw [List.length_map];omega)]
  exact List.getElem_of_eq hm _
 ·intro m hm' hlt
  have hml:m < ds.length:=by omega
  have h2:=hjn m hlt
  show PyData.eqv (SeqAt.readOf s.heap its.toArray[m]) d=false
  rw [List.getElem_toArray]
  have e3:SeqAt.readOf s.heap (its[m]'(by omega))=ds[m]:=by
   rw [←List.getElem_map (f:=SeqAt.readOf s.heap) (h:=by rw [List.length_map];omega)]
   exact List.getElem_of_eq hm _
  rw [e3]
  exact Bool.eq_false_iff.mpr h2
 ·exact SeqAt.items_eqAt (by simpa using zs) zy b' b (by have:=Nat.min_le_right (PyData.depthAll ds) d.depth;omega)
 ·exact ⟨.int _,H,I.tok _,⟨_,rfl⟩,q⟩
end
end L2
set_option Elab.async false
set_option linter.all false
set_option maxRecDepth 100000
set_option maxHeartbeats 4000000
namespace L2
open PySem PySem.Spec PyProof.Rows
def CallRK (X:Cx) (f:Value) (ks:List Str) (r:List V->List V->Hp->VK->Prop):Prop:=∀ pins s σ H vs us zs ws Q,Inv X pins σ H s->Vals vs us->Vals zs ws->r vs zs H Q->wpAny (model X.prog X.w) X.A (call f us (ks.zip ws)) (EP X pins σ Q) X.xe s
def kBK1 (r:List V->List V->Hp->VK->Prop) (Q:VK) (vs:List V):List V->Hp->Prop:=fun zs H=>r vs zs H Q
theorem m_kBK1 (r:List V->List V->Hp->VK->Prop) (Q:VK) (vs zs:List V) (H:Hp):kBK1 r Q vs zs H=r vs zs H Q:=rfl
def kBK0 (r:List V->List V->Hp->VK->Prop) (tk:TA) (σ:St) (Q:VK):List V->Hp->Prop:=fun vs H=>tk σ H (kBK1 r Q vs)
theorem m_kBK0 (r:List V->List V->Hp->VK->Prop) (tk:TA) (σ:St) (Q:VK) (vs:List V) (H:Hp):kBK0 r tk σ Q vs H=tk σ H (kBK1 r Q vs):=rfl
def tCBK (r:List V->List V->Hp->VK->Prop) (t tk:TA):TE:=fun σ H Q=>t σ H (kBK0 r tk σ Q)
theorem m_tCBK (r:List V->List V->Hp->VK->Prop) (t tk:TA) (σ:St) (H:Hp) (Q:VK):tCBK r t tk σ H Q=t σ H (kBK0 r tk σ Q):=rfl
theorem pe_callBK {X:Cx}{id:String}{x:Str}{p pos:Pos}{e:Expr}{es:List Expr}{kws:List Keyword}{ks:List Str}{r:List V->List V->Hp->VK->Prop}{t tk:TA}(hc:CallRK X (.builtin id) ks r) (hg:Gl X x) (hm:X.mg x=none) (hv:bootBuiltins x=some (.builtin id)) (ha:PA X (e::es) t) (hk:PK X kws tk) (hn:x ≠ "__name__":=by decide) (hdb:(x == ("__debug__":Str))=false:=by decide)
  (hks:(backToKw pos (keywordEach kws X.env)).filterMap (·.1)=ks:=by rfl)
  (h1:backTo pos (starEach (e::es) X.env)=(false,eval e X.env)::backTo pos (starEach es X.env):=by rfl)
  (h2:(backTo pos (starEach (e::es) X.env)).any (·.1)=false:=by rfl)
  (h3:(backToKw pos (keywordEach kws X.env)).all (·.1.isSome)=true:=by rfl)
  (h4:(backToKw pos (keywordEach kws X.env)).any (·.1.isNone)=false:=by rfl):PE X (.Call (.Name x p) (e::es) kws pos) (tCBK r t tk):=by
 intro pins s σ H Q I h
 refine wpAny_Call_Name_kw (ld_blt I hg hm hv ?_ hn hdb)
 refine callWith_kw (thn (ha pos pins s σ H _ I h) fun us s1 ⟨vs,H1,I1,r1,q1⟩=>thn (hk pos pins s1 σ H1 _ I1 q1) fun ws s2 ⟨zs,H2,I2,r2,q2⟩=>?_) h1 h2 h3 h4
 rw [hks]
 exact hc pins s2 σ H2 vs us zs ws Q I2 r1 r2 q2
section
variable {prog:Program}{w:World}{A:Around}{R:Result->Shared->Prop}{J:Addr}{fp wr:List Addr}{G:Array GenState->Array GenState->Prop}{n:Nat}{P:Nat->Value->Prop}{St:Nat->Shared->Prop}
end
section
variable {prog:Program}{w:World}{A:Around}{R:Result->Shared->Prop}{J:Addr}{fp wr:List Addr}{G:Array GenState->Array GenState->Prop}{n:Nat}{P:Nat->Value->Prop}{St:Nat->Shared->Prop}
end
end L2
set_option Elab.async false
set_option linter.all false
set_option maxRecDepth 100000
set_option maxHeartbeats 4000000
namespace L2
open PySem PySem.Spec PyProof.Rows
def lookI (kv:List (Int × Int)) (c:Int):Option Int:=(kv.find? fun p=>decide (p.1=c)).map fun p=>p.2
def tabI (kv:List (Int × Int)):List (Key × V):=kv.map fun p=>(Sum.inl p.1,V.int p.2)
theorem lookI_pos {p:Int × Int}{r:List (Int × Int)}{c:Int}(e:p.1=c):lookI (p::r) c=some p.2:=by simp [lookI,List.find?_cons,e]
theorem lookI_neg {p:Int × Int}{r:List (Int × Int)}{c:Int}(e:¬ p.1=c):lookI (p::r) c=lookI r c:=by simp [lookI,List.find?_cons,e]
theorem inl_ne {a c:Int}(h:¬ a=c):¬ (Sum.inl a:Key)=Sum.inl c:=fun e=>h (Sum.inl.inj e)
theorem val_tab:∀ (kv:List (Int × Int)) (c:Int),valV (tabI kv) (.inl c)=(lookI kv c).map V.int
 | [],c=>rfl
 | p::r,c=>by
  by_cases h:p.1=c
  ·rw [lookI_pos h]
   exact valV_pos (p:=(Sum.inl p.1,V.int p.2)) (r:=tabI r) (congrArg Sum.inl h)
  ·rw [lookI_neg h,←val_tab r c]
   exact valV_neg (p:=(Sum.inl p.1,V.int p.2)) (r:=tabI r) (inl_ne h)
theorem put_tab {kv:List (Int × Int)}{c:Int}(v:Int) (h:lookI kv c=none):putK (tabI kv) (.inl c) (.int v)=tabI (kv++[(c,v)]):=by
 rw [putK_new _ (by rw [val_tab,h];rfl)]
 unfold tabI
 rw [List.map_append]
 rfl
end L2
set_option Elab.async false
set_option linter.all false
set_option maxRecDepth 100000
set_option maxHeartbeats 4000000
namespace L2
open PySem PySem.Spec PyProof.Rows
abbrev PKy:=List Int × List Int
section
variable {prog:Program}{w:World}
end
section
variable {P:Program}{w:World}{H:Hp}{h:Heap}{a:Addr}
end
section
variable {X:Cx}{pins:List (Addr × Obj)}{σ:St}{H:Hp}{s:Shared}{d b:Addr}{k:PKy}{Z:List PKy}{A:Around}{E:Value->Shared->Prop}
end
section
variable {X:Cx}
end
theorem pi_seq' {X:Cx}{tg l:Expr}{tl:TE}{K:PySem.W.Frag}(hK:X.K=K) (hl:PE X l tl):PI X tg l (iSeq K tl):=by subst hK;exact pi_seq hl
end L2
set_option Elab.async false
set_option linter.all false
set_option maxRecDepth 100000
set_option maxHeartbeats 4000000
namespace L2
open PySem PySem.Spec PyProof.Rows
end L2
set_option Elab.async false
set_option linter.all false
set_option maxRecDepth 100000
set_option maxHeartbeats 1000000
namespace L2
open PySem PySem.Spec PyProof.Rows
section
variable {X:Cx}{e st:Expr}{te tst:TE}{pos p2:Pos}
end
end L2
set_option Elab.async false
set_option linter.all false
set_option maxRecDepth 100000
set_option maxHeartbeats 4000000
namespace L2
open PySem PySem.Spec PyProof.Rows
section
variable {X:Cx}
end
end L2
set_option Elab.async false
set_option linter.all false
set_option maxRecDepth 100000
set_option maxHeartbeats 4000000
namespace L2
open PySem PySem.Spec PyProof.Rows
section
variable {X:Cx}{a b:Expr}{ta tb:TE}{pos:Pos}{rest:List Expr}
end
end L2
set_option Elab.async false
set_option linter.all false
set_option maxRecDepth 100000
set_option maxHeartbeats 4000000
namespace L2
open PySem PySem.Spec PyProof.Rows PySem.SeqAt
def kAnyB (H:Hp) (Q:VK):List Bool->Prop:=fun bs=>Q (.bl (bs.any id)) H
theorem m_kAnyB (H:Hp) (Q:VK) (bs:List Bool):kAnyB H Q bs=Q (.bl (bs.any id)) H:=rfl
def qAny:List V->Hp->VK->Prop:=fun vs H Q=>match vs with
 | [.ref p]=>optK (lstAt H p) (kBls (kAnyB H Q))
 | _=>False
theorem m_qAny (p:Addr) (H:Hp) (Q:VK):qAny [.ref p] H Q=optK (lstAt H p) (kBls (kAnyB H Q)):=rfl
section
variable {X:Cx}
theorem any_range (bs:List Bool):(List.range bs.length).any (fun i=>bs.getD i false)=bs.any id:=by
 rw [Bool.eq_iff_iff,List.any_eq_true,List.any_eq_true]
 refine ⟨fun ⟨i,hi,e⟩=>?_,fun ⟨x,hx,e⟩=>?_⟩
 ·have hi':=List.mem_range.mp hi
  exact ⟨bs[i],List.getElem_mem hi',by simpa [List.getD,List.getElem?_eq_getElem hi'] using e⟩
 ·obtain ⟨i,hi,h⟩:=List.getElem_of_mem hx
  exact ⟨i,List.mem_range.mpr hi,by simpa [List.getD,List.getElem?_eq_getElem hi,h] using e⟩
theorem call_qAny (hc:X.calm=true):CallR X (.builtin "any") qAny:=by
 intro pins s σ H vs us Q I r h
 unfold qAny at h
 split at h
 ·rename_i p
  obtain ⟨xs,e,bs,rfl,q⟩:=optK_ex h
  cases r with
  | cons r rr=>
   cases rr
   cases r
   obtain ⟨its,rv,pl,hz⟩:=I.list (SqL.of (lst_of e))
   have hlt:p < s.heap.objs.size:=by obtain ⟨_,e,_⟩:=pl.isList;exact Heap.lt_size e
   have hlen:its.length=bs.length:=by have:=rv.length;simpa using this.symm
   refine call_any_walk (wpAny_pyIter_list pl.isList ⟨s.heap.objs.size,_,_,_,_,_,fun i=>bs.getD i false,rfl,Walks.list (show X.A.in1.handled=none from I.ok.hd hc) _ p (Nat.ne_of_lt hlt) its.toArray,⟨⟨_,Heap.get?_push_size _ rfl,rfl,rfl⟩,pl.isList.push _⟩,fun i v s' Q' E' hP hQ=>?_,fun h' tk hk=>?_⟩)
   ·have hv:its[i]? = some v:=by simpa using hP
    have hi:i < bs.length:=by rw [←hlen];exact (List.getElem?_eq_some_iff.mp hv).1
    obtain ⟨u,hu,ru⟩:=rv.get (i:=i) (x:=.bl (bs.getD i false)) (by rw [List.getElem?_map,List.getElem?_eq_getElem hi];simp [List.getD,List.getElem?_eq_getElem hi])
    rw [hv] at hu
    cases hu
    have e2:v=.bool (bs.getD i false):=ru
    subst e2
    exact wpAny_truthy_bool hQ
   ·have kp:∀ b o,s.heap.get? b=some o->h'.get? b=some o:=fun b o e=>hk b o (fun hmem=>by
     have:b=s.heap.objs.size:=by simpa using hmem
     subst this
     exact absurd (Heap.lt_size e) (Nat.lt_irrefl _)) (Heap.get?_push_of_some _ e)
    refine ⟨.bl (bs.any id),H,I.kept (t':=tk) kp,?_,q⟩
    rw [show its.toArray.size=bs.length by simp [hlen],any_range]
    exact rfl
 ·exact h.elim
theorem eq_bools (k:Bool):∀ {bs:List Bool}{vs:List Value},Vals (bs.map V.bl) vs->∀ y,y∈vs->∀ (A:Around) (s:Shared),EqAt A s y (.bool k) (isBoolOf k y)
 | [],_,.nil,y,hy,_,_=>absurd hy List.not_mem_nil
 | b::bs,_,.cons (b:=u) r rr,y,hy,A,s=>by
  rcases List.mem_cons.mp hy with e|hy
  ·have e2:u=.bool b:=r
   rw [e,e2];exact EqAt.bool_bool b k
  ·exact eq_bools k rr y hy A s
theorem at_bools (k:Bool):∀ {bs:List Bool}{vs:List Value},Vals (bs.map V.bl) vs->∀ (j:Nat) (h:j < vs.length) (h':j < bs.length),isBoolOf k vs[j]=(bs[j] == k)
 | b::bs,_,.cons (b:=u) r rr,0,_,_=>by
  have e2:u=.bool b:=r
  subst e2;rfl
 | b::bs,_,.cons (b:=u) r rr,j+1,h,h'=>at_bools k rr j (by simpa using h) (by simpa using h')
def kIdxB (k:Bool) (H:Hp) (Q:VK):List Bool->Prop:=fun bs=>k∈bs∧Q (.int (bs.idxOf k:Nat)) H
theorem m_kIdxB (k:Bool) (H:Hp) (Q:VK) (bs:List Bool):kIdxB k H Q bs=(k∈bs∧Q (.int (bs.idxOf k:Nat)) H):=rfl
def nIdxB:V->List V->Hp->VK->Prop:=fun x vs H Q=>match x,vs with
 | .ref l,[.bl k]=>optK (lstAt H l) (kBls (kIdxB k H Q))
 | _,_=>False
theorem m_nIdxB (l:Addr) (k:Bool) (H:Hp) (Q:VK):nIdxB (.ref l) [.bl k] H Q=optK (lstAt H l) (kBls (kIdxB k H Q)):=rfl
theorem mt_nIdxB:MtM X "list.index" nIdxB:=by
 intro pins s σ H x vs v us Q I rx rv h
 unfold nIdxB at h
 split at h
 ·rename_i l k
  obtain ⟨xs,hx,bs,rfl,hk,q⟩:=optK_ex h
  replace hx:=lst_of hx
  cases rx
  cases rv with
  | cons rk rr=>
   cases rr
   cases rk
   obtain ⟨z,its,n,r,hl,e⟩:=I.lstM hx
   have hs:sizeLine=16777216:=sizeLine_eq
   rw [List.length_map] at hl z
   have hj:bs.idxOf k < bs.length:=List.idxOf_lt_length_iff.mpr hk
   refine call_meets F.slot_list_index ⟨_,e,rfl⟩ F.entry_list_index (F.args_list_index_2 _ _) (list_indexAt l its.toArray n _ _ (.bool k) (isBoolOf k) (bs.idxOf k) (by simpa [←hl] using hj) (by omega) ?_ ?_) ⟨e,fun y hy=>eq_bools k r y (by simpa using hy) _ _,?_⟩
   ·show isBoolOf k its[bs.idxOf k]=true
    rw [at_bools k r _ (by omega) hj,List.getElem_idxOf hj]
    exact beq_self_eq_true k
   ·intro j hjs hlt
    show isBoolOf k its[j]=false
    rw [at_bools k r j (by simpa using hjs) (by omega)]
    exact eq_false_of_ne_true (by simpa using List.not_of_lt_findIdx hlt)
   ·exact ⟨.int (bs.idxOf k:Nat),H,I.tok _,⟨_,rfl⟩,q⟩
 ·exact h.elim
end
structure Mk0 (K:PySem.W.Frag) (C:Addr):Prop where
 makes:PySem.W.makesIn K C=true
 init:PySem.W.findIn K (.ref C) "__init__"=some (some (.builtin "object.__init__"))
 kp:PySem.W.keepIn K (.ref C)=true
end L2
set_option Elab.async false
set_option linter.all false
set_option maxRecDepth 100000
set_option maxHeartbeats 4000000
namespace L2
open PySem PySem.Spec PyProof.Rows
structure MD (P:Program) (w:World) (K:PySem.W.Frag) (mg:Str->Option Value) (base:Heap) (CX:CXT) (k:Nat) (m:Str) (C:Addr) (sp:Sp):Prop where
 c:Cls K C
 ex:∃ f fd ps,Meth K C m f∧FnOk P w K mg base CX k f fd ps sp∧Binds K fd ps []
section
variable {k:Nat}{g:TG}{tt:TT}{te:TE}{σ:St}{Q:VK}{H:Hp}
end
end L2
set_option Elab.async false
set_option linter.all false
set_option maxRecDepth 100000
set_option maxHeartbeats 4000000
namespace L2
open PySem PySem.Spec PyProof.Rows
section
variable {X:Cx}
end
end L2
set_option Elab.async false
set_option linter.all false
set_option maxRecDepth 100000
set_option maxHeartbeats 4000000
namespace L2
open PySem PySem.Spec PyProof.Rows
section
variable {X:Cx}{CX:CXT}{n k:Nat}{cl:Nat->Addr}{m:Str}{sp:Nat->Sp}{pos apos:Pos}{o e:Expr}{es:List Expr}{ta:TE}{t:TA}
end
end L2
set_option Elab.async false
set_option linter.all false
set_option maxRecDepth 100000
set_option maxHeartbeats 4000000
namespace L2
open PySem PySem.Spec PyProof.Rows
section
variable {X:Cx}{CX:CXT}{k:Nat}{f C:Addr}{fd:FuncData}{ps:List Str}{sp:Sp}{dvs:List V}{ds:List Value}{E:St->XK}{x:Str}{p pos:Pos}{e:Expr}{es:List Expr}{t:TA}
end
end L2
set_option Elab.async false
set_option linter.all false
set_option maxRecDepth 100000
set_option maxHeartbeats 4000000
namespace L2
open PySem PySem.Spec PyProof.Rows
def qLenD:List V->Hp->VK->Prop:=fun vs H Q=>∃ p kvs,vs=[.ref p]∧H p=some (.dK kvs)∧Q (.int kvs.length) H
theorem use_lenD {p:Addr}{kvs:List (Key × V)}{H:Hp}{Q:VK}(e:H p=some (.dK kvs)) (q:Q (.int kvs.length) H):qLenD [.ref p] H Q:=⟨p,kvs,rfl,e,q⟩
section
variable {X:Cx}
theorem call_qLenD:CallR X (.builtin "len") qLenD:=by
 intro pins s σ H vs us Q I r h
 obtain ⟨p,kvs,rfl,e,q⟩:=h
 obtain ⟨u,rfl,rx⟩:=vals1 r
 cases rx
 have hn:=line63
 obtain ⟨h1,h2,vs',h3,h4⟩:=I.hok _ _ e
 have hlen:vs'.length=kvs.length:=h3.length.symm
 exact call_len_dict h2 h4 (by omega) ⟨.int kvs.length,H,I.tok _,⟨s.toks+1,by rw [hlen]⟩,q⟩
end
end L2
set_option Elab.async false
set_option linter.all false
set_option maxRecDepth 100000
set_option maxHeartbeats 4000000
namespace L2
open PySem PySem.Spec PyProof.Rows
section
variable {X:Cx}
end
end L2
set_option Elab.async false
set_option linter.all false
set_option maxRecDepth 100000
set_option maxHeartbeats 4000000
namespace L2
open PySem PySem.Spec PyProof.Rows
section
variable {X:Cx}
end
end L2
set_option Elab.async false
set_option linter.all false
set_option maxRecDepth 100000
set_option maxHeartbeats 4000000
namespace L2
open PySem PySem.Spec PyProof.Rows
section
variable {X:Cx}{tg:Expr}
end
section
variable {X:Cx}
end
end L2
set_option Elab.async false
set_option linter.all false
set_option maxRecDepth 100000
set_option maxHeartbeats 4000000
namespace L2
open PySem PySem.Spec PyProof.Rows
end L2
namespace HT
open PySem PySem.Spec PyProof.Rows
section
variable {prog:Program}{w:World}{A:Around}{E:Value->Shared->Prop}{s:Shared}
end
end HT
namespace L2
open PySem PySem.Spec PyProof.Rows
end L2
set_option Elab.async false
set_option linter.all false
set_option maxRecDepth 100000
set_option maxHeartbeats 4000000
namespace L2
open PySem PySem.Spec PyProof.Rows
section
variable {X:Cx}
end
end L2
set_option Elab.async false
set_option linter.all false
set_option maxRecDepth 100000
set_option maxHeartbeats 4000000
namespace L2
open PySem PySem.Spec PyProof.Rows
def kPopL (l:Addr) (H:Hp) (Q:VK):List V->Prop:=fun xs=>∃ y ys,xs=ys++[y]∧Q y (upd H l (.lst ys))
def nPop:V->List V->Hp->VK->Prop:=fun x vs H Q=>match x,vs with
 | .ref l,[]=>optK (lstAt H l) (kPopL l H Q)
 | _,_=>False
theorem x_nPop (l:Addr) (H:Hp) (Q:VK):nPop (.ref l) [] H Q=optK (lstAt H l) (kPopL l H Q):=rfl
theorem use_pop {l:Addr}{H:Hp}{Q:VK}{ys:List V}{y:V}(h:H l=some (.lst (ys++[y]))) (q:Q y (upd H l (.lst ys))):nPop (.ref l) [] H Q:=by
 rw [x_nPop,lstAt,h]
 exact ⟨y,ys,rfl,q⟩
theorem mt_nPop {X:Cx}:MtM X "list.pop" nPop:=fun pins s σ H x vs v us Q I rx rv h=>mt_pop pins s σ H x vs v us Q I rx rv (by
 unfold nPop at h
 split at h
 ·rename_i l
  obtain ⟨xs,e,y,ys,rfl,q⟩:=optK_ex h
  exact ⟨l,ys++[y],y,rfl,rfl,lst_of e,by simp,by rw [List.dropLast_concat];exact q⟩
 ·exact h.elim)
end L2
set_option Elab.async false
set_option linter.all false
set_option maxRecDepth 100000
set_option maxHeartbeats 4000000
namespace L2
open PySem PySem.Spec PyProof.Rows
section
variable {prog:Program}{w:World}{A:Around}{E:Value->Shared->Prop}{s:Shared}
theorem extend_dict {R:Result->Shared->Prop}{d:Addr}{kvs:List (Key × Value)}{ep:Nat}(hh:A.handled=none) (lo:(d == sysModules)=false) (hd:s.heap.DictAt (mixKind prog w) d kvs ep) (S:Addr) (res:Value) (c₀:Nat) (hS:s.heap.get? S=some { cls:=.type "list",data:=.seq #[] c₀ })
  (hn:kvs.length≤sizeLine)
  (hR:∀ h' tk acc' c',(∀ b o,b ≠ S->s.heap.get? b=some o->h'.get? b=some o)->h'.get? S=some { cls:=.type "list",dict:=none,data:=.seq acc' c',slots:=#[] } →
   ItemsOf (fun i v=>∃ k x,kvs[i]? = some (k,x)∧(mixKind prog w).is k v=true) acc' kvs.length->R (.ok (.ret res)) { s with heap:=h',toks:=tk }) :
  wpAny (model prog w) A.in1 (Builtin.List.listExtendWith (.ref S) (.ref d) res)
   (fun fin s'=>match fin with | .done f=>R (.ok f) s' | .again c'=>c'.quiet=true∧codeAny (model prog w) A c' R s') (fun e s'=>R (.error e) s') s:=by
 have hT:s.TypeIs (.ref d) "dict":=hd.dictOf.typeIs
 have hSd:S ≠ d:=fun e=>by
  obtain ⟨o,ho,hc⟩:=hT
  rw [←e,hS] at ho
  cases ho
  have:Value.type "list"=Value.type "dict":=hc
  exact absurd this (by decide)
 have hSI:S ≠ s.heap.objs.size:=Nat.ne_of_lt (Heap.lt_size hS)
 have hdlt:d < s.heap.objs.size:=by obtain ⟨o,ho,_⟩:=hT;exact Heap.lt_size ho
 have hdI:d ≠ s.heap.objs.size:=Nat.ne_of_lt hdlt
 have hSf:S ∉ [s.heap.objs.size,d]:=fun hm=>by
  rcases List.mem_cons.mp hm with e|hm
  ·exact hSI e
  ·exact hSd (List.mem_singleton.mp hm)
 have W:=(Walks.dictKeys (prog:=prog) (w:=w) (knd:=mixKind prog w) (A:=A.in1) hh s.heap.objs.size d hdI kvs ep).toS
 unfold Builtin.List.listExtendWith
 refine wpAny_bind (wpAny_typeOf (T := "dict") hT ?_)
 have h1:Builtin.List.listSameRef (.ref S) (.ref d)=false:=by simp [Builtin.List.listSameRef,hSd]
 have h2:(Value.type "dict" == Value.type "list")=false:=by decide
 have h3:(Value.type "dict" == Value.type "tuple")=false:=by decide
 simp only [h1,h2,h3,Bool.or_false,Bool.false_eq_true,if_false]
 refine wpAny_bind (wpAny_pyIter_dict lo hd ?_)
 have hd₁:(s.heap.push { cls:=.type "dict_keyiterator",data:=.fields #[.ref d,.int 0 0,.int kvs.length 0,.int ep 0] }).DictAt (mixKind prog w) d kvs ep:=hd.at' fun o e=>Heap.get?_push_of_some _ e
 have hit₁:(s.heap.push { cls:=.type "dict_keyiterator",data:=.fields #[.ref d,.int 0 0,.int kvs.length 0,.int ep 0] }).IsKeyIter s.heap.objs.size d 0 kvs.length ep:=⟨_,Heap.get?_push_size _ rfl,rfl,rfl⟩
 have hS₁:=Heap.get?_push_of_some { cls:=.type "dict_keyiterator",data:=.fields #[.ref d,.int 0 0,.int kvs.length 0,.int ep 0] } hS
 have kp₁:∀ b o,s.heap.get? b=some o->(s.heap.push { cls:=.type "dict_keyiterator",data:=.fields #[.ref d,.int 0 0,.int kvs.length 0,.int ep 0] }).get? b=some o:=fun b o e=>Heap.get?_push_of_some _ e
 generalize (s.heap.push { cls:=.type "dict_keyiterator",data:=.fields #[.ref d,.int 0 0,.int kvs.length 0,.int ep 0] })=hp at *
 have hT₁:({ s with heap:=hp }:Shared).TypeIs (.ref d) "dict":=hd₁.dictOf.typeIs
 refine wpAny_bind (wpAny_holding ?_)
 unfold Builtin.List.listLengthHint
 refine wpAny_bind (wpAny_specialOf (T := "dict") hT₁ PySem.F.slot_dict_len.lookup ?_)
 wp_delta
 refine wpAny_bind (wpAny_isInstance (T := "dict") (b:=true) hT₁ (by rw [isSubtype_type];kernel_rfl) ?_)
 show wpAny _ _ (typeOf (Value.ref d) >>= _) _ _ _
 refine wpAny_bind (wpAny_typeOf (T := "dict") hT₁ ?_)
 refine wpAny_pure ?_
 rw [if_pos (by decide)]
 refine wpAny_bind (wpAny_rule ?_)
 refine wpAny_bind ?_
 show wpAny _ _ (updateSeq S (·.push .none) >>= fun _=>updateSeq S (·.pop)) _ _ _
 refine wpAny_bind (wpAny_updateSeq hS₁ rfl ?_)
 have hS₂:=Heap.get?_update_self (Obj.mapSeq (·.push Value.none)) hS₁ rfl
 refine wpAny_updateSeq (hz:=by seq_fits) hS₂ rfl ?_
 have hS₃:=Heap.get?_update_self (Obj.mapSeq (·.pop)) hS₂ rfl
 have oth:∀ b o,b ≠ S->hp.get? b=some o->((hp.update S (Obj.mapSeq (·.push Value.none))).update S (Obj.mapSeq (·.pop))).get? b=some o:=fun b o hb e=>(Heap.get?_update_other _ _ (Ne.symm hb)).trans ((Heap.get?_update_other _ _ (Ne.symm hb)).trans e)
 refine wpAny_pure ⟨plainId_quiet F.plain_extend_loop _,?_⟩
 refine codeAny_extend_loopS W hn S hSf res kvs.length 0 _ #[] _ rfl (Nat.zero_le _) ⟨hit₁.at fun o e=>oth _ o (Ne.symm hSI) e,hd₁.at' fun o e=>oth _ o (Ne.symm hSd) e⟩ hS₃ (ItemsOf.nil _) fun s' acc' c' hm hS' hacc=>?_
 rw [Moved.eq_with hm]
 refine hR s'.heap s'.toks acc' c' (fun b o hb e=>hm.heap b o (fun hmem=>?_) (oth b o hb (kp₁ b o e))) hS' hacc
 rcases List.mem_cons.mp hmem with e'|hmem
 ·exact hb e'
 ·exact absurd (Heap.lt_size e) (by rw [List.mem_singleton.mp hmem];exact Nat.lt_irrefl _)
theorem init_dict {R:Result->Shared->Prop}{d:Addr}{kvs:List (Key × Value)}{ep:Nat}(hh:A.handled=none) (lo:(d == sysModules)=false) (hd:s.heap.DictAt (mixKind prog w) d kvs ep) (S:Addr) (hSd:S ≠ d) (hS:s.heap.get? S=some { cls:=.type "list",data:=.seq #[] })
  (hn:kvs.length≤sizeLine)
  (hR:∀ h' tk acc' c',(∀ b o,b ≠ S->s.heap.get? b=some o->h'.get? b=some o)->h'.get? S=some { cls:=.type "list",dict:=none,data:=.seq acc' c',slots:=#[] } →
   ItemsOf (fun i v=>∃ k x,kvs[i]? = some (k,x)∧(mixKind prog w).is k v=true) acc' kvs.length->R (.ok (.ret .none)) { s with heap:=h',toks:=tk }) :
  wpAny (model prog w) A.in1 (Builtin.«list.__init__» ⟨[.ref S,.ref d],[]⟩)
   (fun fin s'=>match fin with | .done f=>R (.ok f) s' | .again c'=>c'.quiet=true∧codeAny (model prog w) A c' R s') (fun e s'=>R (.error e) s') s:=by
 show wpAny _ _ (do let old ←Builtin.List.listItems (.ref S);Builtin.List.listUpdate (.ref S) (fun _=>#[]);letGo old.toList.reverse;Builtin.List.listExtendWith (.ref S) (.ref d) .none) _ _ s
 refine wpAny_bind ?_
 unfold Builtin.List.listItems
 refine wpAny_bind (wpAny_seqItems hS rfl (wpAny_pure ?_))
 show wpAny _ _ (updateSeq S (fun _=>#[]) >>= fun _=>letGo (#[]:Array Value).toList.reverse >>= fun _=>Builtin.List.listExtendWith (.ref S) (.ref d) .none) _ _ s
 refine wpAny_bind (wpAny_updateSeq hS rfl ?_)
 have hS₂:=Heap.get?_update_self (Obj.mapSeq (fun _=>(#[]:Array Value))) hS rfl
 have oth:∀ b o,b ≠ S->s.heap.get? b=some o->(s.heap.update S (Obj.mapSeq (fun _=>(#[]:Array Value)))).get? b=some o:=
  fun b o hb e=>(Heap.get?_update_other _ _ (Ne.symm hb)).trans e
 refine wpAny_bind (wpAny_letGo ?_)
 refine extend_dict hh lo (hd.at' fun o e=>oth _ o (Ne.symm hSd) e) S .none _ hS₂ hn fun h' tk acc' c' hk hS' hacc=>?_
 exact hR h' tk acc' c' (fun b o hb e=>hk b o hb (oth b o hb e)) hS' hacc
theorem call_list_dict {Q:Value->Shared->Prop}{d:Addr}{kvs:List (Key × Value)}{ep:Nat}(hh:A.handled=none) (lo:(d == sysModules)=false) (hd:s.heap.DictAt (mixKind prog w) d kvs ep) (hn:kvs.length≤sizeLine)
  (hQ:∀ h' tk acc' c',(∀ b o,s.heap.get? b=some o->h'.get? b=some o) →
   h'.get? s.heap.objs.size=some { cls:=.type "list",dict:=none,data:=.seq acc' c',slots:=#[] }->ItemsOf (fun i v=>∃ k x,kvs[i]? = some (k,x)∧(mixKind prog w).is k v=true) acc' kvs.length->Q (.ref s.heap.objs.size) { s with heap:=h',toks:=tk }) :
  wpAny (model prog w) A (call (.type "list") [.ref d]) Q E s:=by
 refine callType_codes (Q₁:=fun obj s₁=>obj=.ref s.heap.objs.size∧s₁={ s with heap:=s.heap.push { cls:=.type "list",data:=.seq #[] } }) F.called_list (F.typeCall_list_1 _) F.entry_list_init
  (code_list_new _ ⟨rfl,rfl⟩) fun obj s₁ h₁=>?_
 obtain ⟨rfl,rfl⟩:=h₁
 have hS:(s.heap.push { cls:=.type "list",data:=.seq #[] }).get? s.heap.objs.size=some { cls:=.type "list",data:=.seq #[] }:=Heap.get?_push_size _ rfl
 have hSd:s.heap.objs.size ≠ d:=fun e=>by obtain ⟨o,es,ho,_⟩:=hd;rw [←e] at ho;exact absurd (Heap.lt_size ho) (Nat.lt_irrefl _)
 refine ⟨⟨_,hS,rfl⟩,F.args_list_init_2 _ _,init_dict (A:=A.in1) hh lo (hd.at' fun o e=>Heap.get?_push_of_some _ e) _ hSd hS hn fun h' tk acc' c' hk hS' hacc=>?_⟩
 exact ⟨rfl,hQ h' tk acc' c' (fun b o e=>hk b o (Nat.ne_of_lt (Heap.lt_size e)) (Heap.get?_push_of_some _ e)) hS' hacc⟩
end
def qListD:List V->Hp->VK->Prop:=fun vs H Q=>∃ p kvs,vs=[.ref p]∧H p=some (.dK kvs)∧kvs.length≤sizeLine∧newK (.lst (kvs.map fun z=>kV z.1)) H Q
theorem use_listD {p:Addr}{kvs:List (Key × V)}{H:Hp}{Q:VK}(e:H p=some (.dK kvs)) (hl:kvs.length≤sizeLine) (q:newK (.lst (kvs.map fun z=>kV z.1)) H Q):qListD [.ref p] H Q:=⟨p,kvs,rfl,e,hl,q⟩
theorem call_qListD {X:Cx}(hc:X.calm=true):CallR X (.type "list") qListD:=by
 intro pins s σ H vs us Q I r h
 obtain ⟨p,kvs,rfl,ha,hl,q⟩:=h
 cases r with
 | cons r rr=>
  cases rr
  cases r
  have hO:ObjOk X.prog X.w H s.heap p (.dK kvs):=I.hok p _ ha
  obtain ⟨z0,lo,xs,kx,dd⟩:=id hO
  obtain ⟨ep,hat⟩:=dd.dictAt
  refine call_list_dict (I.ok.hd hc) lo hat (by rw [←kx.length];exact hl) fun h' tk acc c kp hget hit=>?_
  have fr:=I.hok.fresh (Nat.le_refl _)
  have hv:Vals (kvs.map fun z=>kV z.1) acc.toList:=by
   have hlen:kvs.length=xs.length:=Paired.length kx
   refine vals_of_get (by rw [List.length_map,Array.length_toList,hit.1,hlen]) fun i x u hx hu=>?_
   rw [List.getElem?_map] at hx
   obtain ⟨z,hz,rfl⟩:=Option.map_eq_some_iff.mp hx
   obtain ⟨q',hq',hk',_⟩:=kv_get' kx hz
   obtain ⟨k,y,hy,his⟩:=hit.2 i u (by simpa using hu)
   rw [hq'] at hy
   cases hy
   have hk'':z.1=k:=hk'
   rw [hk'']
   exact relV_key his
  refine ⟨.ref s.heap.objs.size,_,I.laid (t':=tk) (o:=.lst (kvs.map fun z=>kV z.1)) kp (Nat.le_refl _) ⟨by rw [List.length_map];exact hl,acc.toList,c,hv,hget⟩,rfl,q _ _ fr (Ext.new fr) upd_same⟩
end L2
set_option Elab.async false
set_option linter.all false
set_option maxRecDepth 100000
set_option maxHeartbeats 4000000
namespace L2
open PySem PySem.Spec PyProof.Rows
end L2
set_option Elab.async false
set_option linter.all false
set_option maxRecDepth 100000
set_option maxHeartbeats 4000000
namespace L2
open PySem PySem.Spec PyProof.Rows
def StrictDec (xs:Array Keyed) (k:Nat):Prop:=∀ i j,i < j->j < k->K xs j < K xs i
def EasyK (xs:Array Keyed) (k:Nat):Prop:=k < 64∨SortedTo xs k∨StrictDec xs k
section
variable {prog:Program}{w:World}{A:Around}{E:Value->Shared->Prop}{s:Shared}{a₀:Array Keyed}
theorem wpS_descLoop1 {st:SortSt}{n nrem:Nat}{Q:DescSt->SortSt->Prop}(h0:IntKeys a₀) (hn:nrem≤a₀.size) (h1:1≤n) (hnn:n≤nrem) (hB:SBase a₀ st) (hs:StrictDec (arrOf st) nrem) (h:Q (none,nrem,0) st) :
  wpS (model prog w) A E s (descLoop n nrem) Q st:=by
 unfold descLoop
 refine wpS_forRange (I:=fun x c st'=>st'=st∧c=(none,x,0)) ?step ?fin ⟨rfl,rfl⟩
 case fin=>
  rintro c st' ⟨rfl,rfl⟩
  rw [show max n nrem=nrem by omega]
  exact h
 case step=>
  rintro x c st' hax hxn ⟨rfl,rfl⟩
  dsimp only
  refine wpS_bind (wpS_ltK hB h0 (by omega) (by omega) ?_)
  have hless:=hs (x - 1) x (by omega) hxn
  simp only [hless,decide_true,if_true]
  rw [if_neg (by omega)]
  exact wpS_pure ⟨rfl,rfl⟩
theorem wpS_descPart1 {st:SortSt}{nrem:Nat}{Q:Option Nat->SortSt->Prop}(h0:IntKeys a₀) (hn:nrem≤a₀.size) (hnn:2≤nrem) (hB:SBase a₀ st) (hs:StrictDec (arrOf st) nrem)
  (h:∀ st',SBase a₀ st'->SortedTo (arrOf st') nrem->Q (some nrem) st'):wpS (model prog w) A E s (descPart 1 nrem) Q st:=by
 unfold descPart
 refine wpS_bind (wpS_lift (wpAny_rule ⟨rfl,?_⟩))
 refine wpS_bind (wpS_descLoop1 h0 hn (by omega) hnn hB hs ?_)
 dsimp only
 rw [if_neg (by omega)]
 unfold tail3
 have hsz:nrem≤(arrOf st).size:=by rw [hB.size];omega
 refine wpS_bind (wpS_reverse ?_)
 have hB':SBase a₀ (setArr st (mirror (arrOf st) 0 nrem ((nrem - 0) / 2))):=hB.setArr (mirror_perm _ _ _ _)
 have so:SortedTo (mirror (arrOf st) 0 nrem ((nrem - 0) / 2)) nrem:=by
  intro i j hij hj
  rw [K_mirror hsz,K_mirror hsz,if_pos (by omega),if_pos (by omega)]
  by_cases e:i=j
  ·rw [e];exact Int.le_refl _
  ·exact Int.le_of_lt (hs _ _ (by omega) (by omega))
 refine wpS_bind (wpS_ascLoop h0 hn (by omega) (Nat.le_refl _) hB' so fun m hm1 hm2 hsm _=>?_)
 have em:m=nrem:=by omega
 rw [em]
 exact wpS_pure (h _ hB' so)
theorem wpS_countRun1 {st:SortSt}{nrem:Nat}{Q:Option Nat->SortSt->Prop}(h0:IntKeys a₀) (hn:nrem≤a₀.size) (h1:1≤nrem) (hB:SBase a₀ st) (hs:SortedTo (arrOf st) nrem∨StrictDec (arrOf st) nrem)
  (h:∀ st',SBase a₀ st'->SortedTo (arrOf st') nrem->Q (some nrem) st'):wpS (model prog w) A E s (countRun' 0 nrem) Q st:=by
 rw [countRun0_eq]
 refine wpS_bind (wpS_ascLoop h0 hn (Nat.le_refl 1) h1 hB (fun i j hij hj=>by rw [show i=j by omega];exact Int.le_refl _) fun n hn1 hn2 hsn hor=>?_)
 dsimp only
 by_cases hnn:n=nrem
 ·rw [if_pos (by simpa using hnn),hnn]
  exact wpS_pure (h st hB (hnn ▸ hsn))
 ·rw [if_neg (by simpa using hnn)]
  have hlt:K (arrOf st) n < K (arrOf st) (n - 1):=hor.resolve_left hnn
  rcases hs with hs|hs
  ·have:=hs (n - 1) n (by omega) (by omega)
   omega
  ·have n1:n=1:=by
    by_cases h:n=1
    ·exact h
    ·have a:=hsn 0 1 (by omega) (by omega)
     have b:=hs 0 1 (by omega) (by omega)
     omega
   subst n1
   rw [if_neg (by omega)]
   exact wpS_descPart1 h0 hn (by omega) hB hs h
theorem minRun_le:∀ (f n r:Nat),1≤n->n≤f->r≤1->minRun' f n r≤64
 | 0,n,r,h1,h2,_=>by omega
 | f+1,n,r,h1,h2,h3=>by
  rw [minRun'_succ]
  split
  ·omega
  ·exact minRun_le f (n / 2) (max r (n % 2)) (by omega) (by omega) (by omega)
theorem wpS_sortRunsE {st:SortSt}{Q:Unit->SortSt->Prop}(h0:IntKeys a₀) (hB:SBase a₀ st) (h2:2≤a₀.size) (hE:EasyK (arrOf st) a₀.size)
  (h:∀ st',(arrOf st').Perm a₀->failedOf st'=none->SortedTo (arrOf st') a₀.size->Q () st'):wpS (model prog w) A E s sortRuns' Q st:=by
 rcases Nat.lt_or_ge a₀.size 64 with h64|h64
 ·exact wpS_sortRuns h0 hB h2 h64 h
 have hE:SortedTo (arrOf st) a₀.size∨StrictDec (arrOf st) a₀.size:=hE.resolve_left (by omega)
 rw [sortRuns'_eq]
 refine wpS_bind (wpS_get ?_)
 dsimp only
 have hmr:minRun' a₀.size a₀.size 0≤64:=minRun_le _ _ _ (by omega) (Nat.le_refl _) (by omega)
 simp only [hB.size]
 generalize minRun' a₀.size a₀.size 0=mr at hmr
 refine wpS_bind (wpS_mono (wpS_forRange
  (I:=fun x c st'=>(x=0∧c=(none,0)∧st'=st)∨(1≤x∧c=(none,a₀.size)∧SDone a₀ st'))
  (Q:=fun c st'=>c=(none,a₀.size)∧SDone a₀ st') ?step ?fin (.inl ⟨rfl,rfl,rfl⟩)) ?post)
 case fin=>
  rintro c st' (⟨hx,_,_⟩|⟨_,hc,hD⟩)
  ·omega
  ·exact ⟨hc,hD⟩
 case step=>
  rintro x c st' _ hx (⟨rfl,rfl,rfl⟩|⟨hx1,rfl,hD⟩)
  ·dsimp only
   rw [if_neg (by omega)]
   simp only [Nat.sub_zero,Nat.min_self,Nat.zero_add]
   refine wpS_bind (wpS_countRun1 h0 (Nat.le_refl _) (by omega) hB hE fun st2 hB2 hs2=>?_)
   dsimp only
   rw [if_neg (by omega)]
   refine wpS_bind (wpS_get ?_)
   have hb:(pendingOf st2).back? = none:=by rw [hB2.pend];rfl
   rw [hb]
   dsimp only
   exact wpS_bind (wpS_modify (wpS_pure (.inr ⟨by omega,rfl,hB2.done hs2⟩)))
  ·dsimp only
   rw [if_pos (Nat.le_refl _)]
   exact wpS_pure ⟨rfl,hD⟩
 case post=>
  rintro c st' ⟨rfl,hD⟩
  dsimp only
  refine wpS_bind (wpS_mono (wpS_forRange (I:=fun _ c st''=>st''=st'∧c=(none,())) (Q:=fun c st''=>st''=st'∧c=(none,())) ?_ (fun _ _ hh=>hh) ⟨rfl,rfl⟩) ?_)
  ·rintro x c st'' _ _ ⟨rfl,rfl⟩
   refine wpS_bind (wpS_get ?_)
   rw [if_pos (by rw [hD.2.2.1];exact Nat.le_refl 1)]
   exact wpS_pure ⟨rfl,rfl⟩
  ·rintro c st'' ⟨rfl,rfl⟩
   exact wpS_pure (h _ hD.1 hD.2.1 hD.2.2.2)
def EasyI (ns:List Int):Prop:=ns.length < 64∨ns.Pairwise (·≤·)∨ns.Pairwise (· > ·)
theorem easy_of {xs:Array Keyed}{ns:List Int}(hk:xs.toList.map (fun p=>numOf p.1)=ns) (h:EasyI ns):EasyK xs xs.size:=by
 have hl:xs.size=ns.length:=by rw [←hk];simp
 have hK:∀ i (hi:i < ns.length),K xs i=ns[i]:=fun i hi=>by
  rw [K_eq (by omega)]
  subst hk
  simp
 rcases h with h|h|h
 ·exact .inl (by omega)
 ·refine .inr (.inl fun i j hij hj=>?_)
  rw [hK i (by omega),hK j (by omega)]
  rcases Nat.lt_or_ge i j with l|l
  ·exact List.pairwise_iff_getElem.mp h i j (by omega) (by omega) l
  ·have:i=j:=by omega
   subst this
   exact Int.le_refl _
 ·refine .inr (.inr fun i j hij hj=>?_)
  rw [hK i (by omega),hK j (by omega)]
  exact List.pairwise_iff_getElem.mp h i j (by omega) (by omega) hij
theorem list_sort_treeE {a:Addr}{vs:List Value}{ns:List Int}{n:Nat}{P:Fin->Shared->Prop}(ho:s.heap.get? a=some (seqObj "list" vs.toArray n))
  (hI:IntsAre vs ns) (hz:vs.length≤sizeLine) (hE:EasyI ns)
  (h:∀ (out:Array Value) (ns':List Int),IntsAre out.toList ns'->ns'.Perm ns->ns'.Pairwise (·≤·)->P (.done (.ret .none)) { s with heap:=sortedHeap s.heap a vs out }) :
  wpAny (model prog w) A (Builtin.«list.sort» ⟨[.ref a],[]⟩) P E s:=by
 rw [list_sort_plain]
 have ha:a < s.heap.objs.size:=Heap.lt_size ho
 refine wpAny_bind (listItems_at ho rfl ?_)
 refine wpAny_bind (listUpdate_at ho rfl ?_ (by simpa using hz) (Nat.zero_le _))
 obtain ⟨e1,ho1⟩:∃ e1,(s.heap.update a (Obj.mapSeq fun _=>#[])).get? a=some (seqObj "list" #[] e1):=⟨_,get?_update_seq ho (fun _=>#[])⟩
 refine wpAny_bind (seqEpoch_at ho1 rfl ?_)
 refine wpAny_bind (wpAny_newTuple ?_ (by simpa using hz))
 refine wpAny_bind (wpAny_newList ?_ (Nat.zero_le _))
 refine wpAny_holding ?_
 have ho6:(((s.heap.update a (Obj.mapSeq fun _=>#[])).push (seqObj "tuple" vs.toArray 0)).push (seqObj "list" #[] 0)).get? a=some (seqObj "list" #[] e1):=by
  rw [Heap.get?_push_ne _ _ _ (by rw [size_push',Heap.size_update];exact Nat.ne_of_lt (Nat.lt_succ_of_lt ha)),Heap.get?_push_ne _ _ _ (by rw [Heap.size_update];exact Nat.ne_of_lt ha)]
  exact ho1
 show wpAny (model prog w) A _ P E { s with heap:=((s.heap.update a (Obj.mapSeq fun _=>#[])).push (seqObj "tuple" vs.toArray 0)).push (seqObj "list" #[] 0) }
 dsimp only
 have hsz:vs.toArray.size=vs.length:=by simp
 have fin:∀ st':SortSt,(arrOf st').Perm (pairsOf vs)->SortedTo (arrOf st') (pairsOf vs).size →
   P (.done (.ret .none)) { s with heap:=sortedHeap s.heap a vs ((arrOf st').map (·.2)) }:=by
  intro st' hp hs
  obtain ⟨ns',h1,h2,h3⟩:=sorted_out hI hp hs
  exact h _ ns' h1 h2 h3
 by_cases h2:vs.toArray.size < 2
 ·rw [if_pos h2,if_pos h2]
  refine wpAny_bind (wpAny_pure ?_)
  rw [StateT.run_pure]
  refine wpAny_bind (wpAny_pure ?_)
  dsimp only
  refine wpAny_bind (seqEpoch_at ho6 rfl ?_)
  refine wpAny_bind (listUpdate_at ho6 rfl ?_ (Nat.zero_le _) (hsz2:=by rw [Array.size_map];show (pairsOf vs).size≤_;rw [pairsOf_size];omega))
  simp only [bne_self_eq_false,Bool.false_eq_true,if_false]
  refine wpAny_pure (fin (SortSt.mk' general' (vs.toArray.zip vs.toArray) #[] 7 none) (Array.Perm.refl _) ?_)
  intro i j hij hj
  have:i=j:=by rw [pairsOf_size] at hj;omega
  subst this;exact Int.le_refl _
 ·rw [if_neg h2,if_neg h2]
  obtain ⟨v₁,v₂,rest,rfl⟩:∃ v₁ v₂ rest,vs=v₁::v₂::rest:=by
   match vs,hsz,h2 with
   | [],_,h2=>simp at h2
   | [_],_,h2=>simp at h2
   | v₁::v₂::rest,_,_=>exact ⟨v₁,v₂,rest,rfl⟩
  rw [keyKind_ints hI]
  refine wpAny_bind (wpAny_pure ?_)
  have hnum:(pairsOf (v₁::v₂::rest)).toList.map (fun p=>numOf p.1)=ns:=by
   rw [pairsOf_toList]
   have e:∀ l:List Value,(l.zip l).map (fun p=>numOf p.1)=l.map numOf:=fun l=>by
    have:(l.zip l).map (fun p=>numOf p.1)=((l.zip l).map Prod.fst).map numOf:=by rw [List.map_map];rfl
    rw [this,List.map_fst_zip (Nat.le_refl _)]
   rw [e]
   exact hI.nums
  refine wpAny_bind (wpAny_mono (wpS_sortRunsE (a₀:=pairsOf (v₁::v₂::rest)) (st:=SortSt.mk' oneType' ((v₁::v₂::rest).toArray.zip (v₁::v₂::rest).toArray) #[] 7 none)
   (Q:=fun _ st'=>(arrOf st').Perm (pairsOf (v₁::v₂::rest))∧failedOf st'=none∧SortedTo (arrOf st') (pairsOf (v₁::v₂::rest)).size)
   hI.intKeys ⟨Array.Perm.refl _,rfl,rfl,rfl⟩ (by rw [pairsOf_size];simp) (easy_of hnum hE) fun st' a1 a2 a3=>⟨a1,a2,a3⟩) ?_ fun _ _ e=>e)
  rintro ⟨⟨⟩,st'⟩ s' ⟨rfl,hp,hf,hs⟩
  dsimp only
  refine wpAny_bind (seqEpoch_at ho6 rfl ?_)
  refine wpAny_bind (listUpdate_at ho6 rfl ?_ (Nat.zero_le _) (hsz2:=by refine Nat.le_trans (Nat.le_of_eq ((Array.size_map ..).trans (hp.size_eq.trans (pairsOf_size _)))) ?_;omega))
  rw [hf]
  simp only [bne_self_eq_false,Bool.false_eq_true,if_false]
  exact wpAny_pure (fin st' hp hs)
end
def qSrtE:List V->Hp->VK->Prop:=fun vs H Q=>∃ p kvs ns,vs=[.ref p]∧H p=some (.dK kvs)∧kvs.map (·.1)=ns.map (Sum.inl:Int->Key)∧ns.length≤sizeLine∧EasyI ns∧∀ ms:List Int,ms.Perm ns->ms.Pairwise (·≤·)->newK (.lst (ms.map V.int)) H Q
theorem use_srtE {p:Addr}{kvs:List (Key × V)}{ns:List Int}{H:Hp}{Q:VK}(e:H p=some (.dK kvs)) (hk:kvs.map (·.1)=ns.map (Sum.inl:Int->Key)) (hl:ns.length≤sizeLine) (hE:EasyI ns) (q:∀ ms:List Int,ms.Perm ns->ms.Pairwise (·≤·)->newK (.lst (ms.map V.int)) H Q):qSrtE [.ref p] H Q:=⟨p,kvs,ns,rfl,e,hk,hl,hE,q⟩
section
variable {X:Cx}
theorem call_qSrtE (hc:X.calm=true):CallR X (.builtin "sorted") qSrtE:=by
 intro pins s σ H vs us Q I r h
 obtain ⟨p,kvs,ns,rfl,e,hk,hl,hE,q⟩:=h
 cases r with
 | cons r rr=>
  cases rr
  cases r
  obtain ⟨z,hd,xs,rel,dd⟩:=dk_of I.hok e
  obtain ⟨ep,hat⟩:=dd.dictAt
  have hlen:kvs.length=xs.length:=Paired.length rel
  have hln:xs.length=ns.length:=by rw [←hlen];have:=congrArg List.length hk;simpa using this
  refine Calls.call_function_entry kind_sorted plain_sorted entry_sorted (args_sorted1 _) ?_
  unfold Builtin.«sorted»
  refine wpAny_bind (m:=checkCount "sorted" 1 1 _) (wpAny_pure ?_)
  refine wpAny_bind (PySem.W.kdu_collect (A:=X.A.in1) (PySem.W.kdl_dict (knd:=mixKind X.prog X.w) (kvs:=xs) (ep:=ep) hd) (show X.A.in1.handled=none from I.ok.hd hc) hat (by omega) fun h' tk acc kp hacc=>?_)
  have hal:acc.toList.length=ns.length:=by rw [Array.length_toList,hacc.1,hln]
  have hI:IntsAre acc.toList ns:=by
   refine intsAre_get hal fun i u hu=>?_
   obtain ⟨k,x,hx,hku⟩:=hacc.2 i u (by simpa using hu)
   have hi:i < kvs.length:=by rw [hlen];exact (List.getElem?_eq_some_iff.mp hx).1
   have h1:kvs[i]? = some kvs[i]:=List.getElem?_eq_getElem hi
   obtain ⟨w',hw',rw'⟩:=paired_get rel h1
   rw [hx] at hw'
   cases hw'
   have h2:(kvs.map (·.1))[i]? = some k:=by rw [List.getElem?_map,h1];exact congrArg some rw'.1
   rw [hk,List.getElem?_map] at h2
   obtain ⟨n,hn,rfl⟩:=Option.map_eq_some_iff.mp h2
   rcases keyIs_shape (show keyIs (Sum.inl n) u=true from hku) with ⟨j,t,e1,e2⟩|⟨j,t,e1,e2⟩
   ·cases e1
    exact ⟨n,t,hn,e2⟩
   ·cases e1
  refine wpAny_bind (wpAny_newList ?_ (by rw [hal];exact hl))
  have hoL:(h'.push (seqObj "list" acc.toList.toArray 0)).get? h'.objs.size=some (seqObj "list" acc.toList.toArray 0):=Heap.get?_push_size _ rfl
  refine wpAny_bind (wpAny_holding (wpAny_call_entry slot_list_sort ⟨_,hoL,rfl⟩ entry_list_sort (list_sort_treeE hoL hI (by rw [hal];exact hl) hE fun out ns' a1 a2 a3=>⟨_,rfl,?_⟩) (args_list_sort _)))
  refine wpAny_pure ⟨_,rfl,?_⟩
  have I2:Inv X pins σ H { s with heap:=h',toks:=tk }:=I.kept (t':=tk) kp
  have fr:=I2.hok.fresh (Nat.le_refl _)
  obtain ⟨e',he'⟩:=sortedHeap_at (out:=out) hoL
  refine ⟨.ref h'.objs.size,_,I2.laid (t':=tk) (h':=sortedHeap (h'.push (seqObj "list" acc.toList.toArray 0)) h'.objs.size acc.toList out) (o:=.lst (ns'.map V.int)) (fun b u hb=>?_) (Nat.le_refl _) ⟨?_,out.toList,e',vals_of_ints a1,?_⟩,rfl,q ns' a2 a3 _ _ fr (Ext.new fr) upd_same⟩
  ·have hb':h'.get? b=some u:=hb
   have hlt:=Heap.lt_size hb'
   rw [sortedHeap_old (Nat.ne_of_lt hlt) (by rw [size_push'];exact Nat.lt_succ_of_lt hlt)]
   exact Heap.get?_push_of_some _ hb'
  ·rw [List.length_map,a2.length_eq];exact hl
  ·rw [Array.toArray_toList];exact he'
end
end L2
set_option Elab.async false
set_option linter.all false
set_option maxRecDepth 100000
set_option maxHeartbeats 4000000
namespace L2
open PySem PySem.Spec PyProof.Rows
theorem perm_unmap {α β:Type}{f:α->β}{ps l:List β}(h:ps.Perm l):∀ T:List α,l=T.map f->∃ T':List α,T'.Perm T∧ps=T'.map f:=by
 induction h with
 | nil=>intro T e;exact ⟨T,.refl _,e⟩
 | cons x _ ih=>
  intro T e
  cases T with
  | nil=>cases e
  | cons y T=>
   rw [List.map_cons] at e
   obtain ⟨rfl,e2⟩:=List.cons.inj e
   obtain ⟨T',p,q⟩:=ih T e2
   exact ⟨y::T',p.cons y,by rw [q,List.map_cons]⟩
 | swap x y l=>
  intro T e
  match T,e with
  | u::v::T,e=>
   rw [List.map_cons,List.map_cons] at e
   obtain ⟨rfl,e2⟩:=List.cons.inj e
   obtain ⟨rfl,rfl⟩:=List.cons.inj e2
   exact ⟨v::u::T,.swap u v T,rfl⟩
 | trans _ _ ih1 ih2=>
  intro T e
  obtain ⟨T1,p1,q1⟩:=ih2 T e
  obtain ⟨T2,p2,q2⟩:=ih1 T1 q1
  exact ⟨T2,p2.trans p1,q2⟩
theorem vals_lift {ks:List Int}{xs:List V}{its:List Value}(hv:Vals xs its) (hk:ks.length=xs.length){ps:List (Int × Value)}(hp:ps.Perm (ks.zip its)):∃ out:List (Int × V),out.Perm (ks.zip xs)∧out.map (·.1)=ps.map (·.1)∧Vals (out.map (·.2)) (ps.map (·.2)):=by
 have hl:=hv.length
 have e1:ks.zip its=(ks.zip (xs.zip its)).map fun t=>(t.1,t.2.2):=by
  refine List.ext_getElem (by simp;omega) fun i h1 h2=>?_
  simp
 have e2:ks.zip xs=(ks.zip (xs.zip its)).map fun t=>(t.1,t.2.1):=by
  refine List.ext_getElem (by simp;omega) fun i h1 h2=>?_
  simp
 obtain ⟨T',p1,rfl⟩:=perm_unmap hp _ e1
 refine ⟨T'.map fun t=>(t.1,t.2.1),?_,?_,?_⟩
 ·rw [e2];exact p1.map _
 ·rw [List.map_map,List.map_map];rfl
 ·rw [List.map_map,List.map_map]
  refine vals_of_get (by simp) fun i x u hx hu=>?_
  rw [List.getElem?_map] at hx hu
  obtain ⟨t,ht,rfl⟩:=Option.map_eq_some_iff.mp hx
  rw [ht] at hu
  cases hu
  have hm:t∈ks.zip (xs.zip its):=p1.mem_iff.mp (List.mem_of_getElem? ht)
  have hm2:t.2∈xs.zip its:=(List.of_mem_zip (show (t.1,t.2)∈ks.zip (xs.zip its) from hm)).2
  obtain ⟨j,hj,ej⟩:=List.getElem_of_mem hm2
  have hz:(xs.zip its)[j]? = some t.2:=by rw [List.getElem?_eq_getElem hj,ej]
  obtain ⟨g1,g2⟩:=List.getElem?_zip_eq_some.mp hz
  obtain ⟨u',hu',ru⟩:=hv.get g1
  rw [g2] at hu'
  cases hu'
  exact ru
def qSrtK (f:Addr) (sp:Sp):List V->List V->Hp->VK->Prop:=fun vs zs H Q=>∃ (p:Addr) (xs:List V) (ks:List Int),vs=[.ref p]∧zs=[.ref f]∧H p=some (.lst xs)∧ks.length=xs.length∧EasyI ks∧(∀ (i:Nat) (x:V) (k:Int),xs[i]? = some x->ks[i]? = some k->∀ (Q':VK) (E:XK),Q' (.int k) H->sp [x] H Q' E)∧∀ out:List (Int × V),out.Perm (ks.zip xs)->out.Pairwise (fun a b=>a.1≤b.1)->newK (.lst (out.map (·.2))) H Q
theorem use_srtK {f:Addr}{sp:Sp}{p:Addr}{xs:List V}(ks:List Int){H:Hp}{Q:VK}(e:H p=some (.lst xs)) (hk:ks.length=xs.length) (hE:EasyI ks) (hs:∀ (i:Nat) (x:V) (k:Int),xs[i]? = some x->ks[i]? = some k->∀ (Q':VK) (E:XK),Q' (.int k) H->sp [x] H Q' E) (q:∀ out:List (Int × V),out.Perm (ks.zip xs)->out.Pairwise (fun a b=>a.1≤b.1)->newK (.lst (out.map (·.2))) H Q):qSrtK f sp [.ref p] [.ref f] H Q:=⟨p,xs,ks,rfl,rfl,e,hk,hE,hs,q⟩
section
variable {X:Cx}{k:Nat}{f:Addr}{fd:FuncData}{ps:List Str}{sp:Sp}
theorem run_in {A:Around}{pins:List (Addr × Obj)}{σ:St}{H:Hp}{s:Shared}{Q:VK}{us:List Value}{vs:List V}{E:XK}{E':Value->Shared->Prop}(F:FnOk X.prog X.w X.K X.mg X.base CX0 k f fd ps sp) (hr:Room k A) (he:Env0 X.prog X.w X.K X.mg X.base A X.stack s H) (hb:Binds X.K fd ps [])
  (I:Inv X pins σ H s) (r:Vals vs us) (h:sp vs H Q E):wpAny (model X.prog X.w) A (call (.ref f) us) (EP X pins σ Q) E' s:=by
 have hl:us.length=ps.length:=by rw [←r.length];exact F.len _ _ _ _ h
 have hb':=hb s us I.kIn (by rw [List.append_nil];exact hl)
 rw [List.append_nil] at hb'
 refine wpAny_call (codeAny_mono (F.run A X.stack s H ⟨us,[]⟩ us vs Q E hr he hb' r h) fun r s' hq=>?_)
 cases r with
 | error e=>exact False.elim hq
 | ok fl=>
  cases fl with
  | ret u=>exact I.after hq
  | next=>exact False.elim hq
  | brk=>exact False.elim hq
  | cont=>exact False.elim hq
theorem call_qSrtK (F:FnOk X.prog X.w X.K X.mg X.base CX0 k f fd ps sp) (hr:Room (k+2) X.A) (hb:Binds X.K fd ps []):CallRK X (.builtin "sorted") ["key"] (qSrtK f sp):=by
 intro pins s σ H vs us zs ws Q I r rz h
 obtain ⟨p,xs,ks,rfl,rfl,e,hkl,hE,hs,q⟩:=h
 cases rz with
 | cons rb rz=>
 cases rz
 cases rb
 cases r with
 | cons r rr=>
 cases rr
 cases r
 obtain ⟨hz,its,n,r',hlen,hg⟩:=I.lstM e
 have hit:its.length≤sizeLine:=by omega
 show wpAny (model X.prog X.w) X.A (call (.builtin "sorted") [.ref p] [(Str.ofString "key",.ref f)]) _ _ _
 refine call_function_entry_kw kind_sorted plain_sorted entry_sorted (ksk_s1 _ _) ?_
 unfold Builtin.«sorted»
 refine wpAny_bind (m:=checkCount "sorted" 1 1 _) (wpAny_pure ?_)
 refine wpAny_bind (collect_list (vs:=its) ⟨_,hg,rfl,n,rfl⟩ ?_ hit)
 refine wpAny_bind (wpAny_newList ?_ hit)
 have hsz:((s.heap.push (seqObj "list" #[] 0)).update s.heap.objs.size (Obj.mapSeq (· ++ its.toArray))).objs.size=s.heap.objs.size+1:=by
  rw [Heap.size_update,size_push']
 have hoL:(((s.heap.push (seqObj "list" #[] 0)).update s.heap.objs.size (Obj.mapSeq (· ++ its.toArray))).push (seqObj "list" its.toArray 0)).get? (s.heap.objs.size+1)=some (seqObj "list" its.toArray 0):=by
  rw [←hsz];exact Heap.get?_push_size _ rfl
 have keep:∀ b o,s.heap.get? b=some o->(((s.heap.push (seqObj "list" #[] 0)).update s.heap.objs.size (Obj.mapSeq (· ++ its.toArray))).push (seqObj "list" its.toArray 0)).get? b=some o:=fun b o q=>by
  have hlt:b < s.heap.objs.size:=Heap.lt_size q
  rw [Heap.get?_push_ne _ _ _ (by rw [hsz];exact Nat.ne_of_lt (Nat.lt_succ_of_lt hlt)),Heap.get?_update_ne _ _ _ _ (Nat.ne_of_lt hlt),Heap.get?_push_ne _ _ _ (Nat.ne_of_lt hlt)]
  exact q
 show wpAny _ _ _ _ _ { s with heap:=((s.heap.push (seqObj "list" #[] 0)).update s.heap.objs.size (Obj.mapSeq (· ++ its.toArray))).push (seqObj "list" its.toArray 0) }
 rw [hsz]
 have fpA:FpOk X pins H (s.heap.objs.size+1):=I.fpOk (Nat.le_succ _) (I.hok.fresh (Nat.le_succ _))
 have nwA:NewAt X pins (s.heap.objs.size+1):=I.newAt (Nat.le_succ _)
 have I1:=I.kept (t':=s.toks) keep
 generalize ((s.heap.push (seqObj "list" #[] 0)).update s.heap.objs.size (Obj.mapSeq (· ++ its.toArray))).push (seqObj "list" its.toArray 0)=h1 at hoL keep I1
 generalize s.heap.objs.size+1=a at hoL fpA nwA
 have ha:a < h1.objs.size:=Heap.lt_size hoL
 refine wpAny_bind (wpAny_holding (wpAny_call_entry_kw slot_list_sort ⟨_,hoL,rfl⟩ entry_list_sort ?body (ksk_l1 _ _)))
 show wpAny (model X.prog X.w) X.A.in1.in1 (Builtin.«list.sort» ⟨[.ref a],[(Str.ofString "key",.ref f)]⟩) _ _ _
 rw [ksk_t1]
 unfold ksk_tree
 obtain ⟨e1,ho1⟩:∃ e1,(h1.update a (Obj.mapSeq fun _=>(#[]:Array Value))).get? a=some (seqObj "list" #[] e1):=⟨_,get?_update_seq hoL fun _=>#[]⟩
 refine wpAny_bind (listItems_at hoL rfl ?_)
 refine wpAny_bind (listUpdate_at hoL rfl ?_ (by rw [List.size_toArray];exact hit) (Nat.zero_le _))
 refine wpAny_bind (seqEpoch_at ho1 rfl ?_)
 refine wpAny_bind (wpAny_newTuple ?_ hit)
 refine wpAny_bind (wpAny_newList ?_ (Nat.zero_le _))
 refine wpAny_holding ?_
 have kS1:((h1.update a (Obj.mapSeq fun _=>(#[]:Array Value))).push (seqObj "tuple" its.toArray 0)).objs.size=h1.objs.size+1:=by rw [size_push',Heap.size_update]
 have I2:Inv X pins σ H { s with heap:=((h1.update a (Obj.mapSeq fun _=>(#[]:Array Value))).push (seqObj "tuple" its.toArray 0)).push (seqObj "list" #[] 0),toks:=s.toks }:=by
  obtain ⟨f0,f1,f2,f3,f4,f5⟩:=fpA
  refine Inv.turned (s:={ s with heap:=h1,toks:=s.toks }) (t':=s.toks) (it:=a) I1 (fun b o hb q=>?_) f0 f1 f3 f4 f5
  refine Heap.get?_push_of_some _ (Heap.get?_push_of_some _ ?_)
  rw [Heap.get?_update_ne _ _ _ _ hb]
  exact q
 have hoA:(((h1.update a (Obj.mapSeq fun _=>(#[]:Array Value))).push (seqObj "tuple" its.toArray 0)).push (seqObj "list" #[] 0)).get? a=some (seqObj "list" #[] e1):=Heap.get?_push_of_some _ (Heap.get?_push_of_some _ ho1)
 have hoK:(((h1.update a (Obj.mapSeq fun _=>(#[]:Array Value))).push (seqObj "tuple" its.toArray 0)).push (seqObj "list" #[] 0)).get? (h1.objs.size+1)=some (seqObj "list" #[] 0):=by rw [←kS1];exact Heap.get?_push_size _ rfl
 have fpK:FpOk X pins H (h1.objs.size+1):=I1.fpOk (Nat.le_succ _) (I1.hok.fresh (Nat.le_succ _))
 have hka:h1.objs.size+1 ≠ a:=Nat.ne_of_gt (Nat.lt_succ_of_lt ha)
 show wpAny (model X.prog X.w) X.A.in1.in1 (ksk_rest a (.ref f) false its.toArray e1 (.ref ((h1.update a (Obj.mapSeq fun _=>(#[]:Array Value))).push (seqObj "tuple" its.toArray 0)).objs.size)) _ _ { s with heap:=((h1.update a (Obj.mapSeq fun _=>(#[]:Array Value))).push (seqObj "tuple" its.toArray 0)).push (seqObj "list" #[] 0) }
 rw [kS1]
 generalize ((h1.update a (Obj.mapSeq fun _=>(#[]:Array Value))).push (seqObj "tuple" its.toArray 0)).push (seqObj "list" #[] 0)=h2 at I2 hoA hoK
 generalize h1.objs.size+1=kS at fpK hka hoK
 clear kS1 ho1 hoL keep I1 ha
 have pin:∀ {s':Shared} {kA:Array Value} {c:Nat},Inv X pins σ H s'->s'.heap.get? kS=some (seqObj "list" kA c)->s'.heap.get? a=some (seqObj "list" #[] e1)->Inv X (pins++[(kS,seqObj "list" kA c),(a,seqObj "list" #[] e1)]) σ H s':=fun {s' kA c} I' g1 g2=>
  I'.pins_of fun p hp=>by
   rcases List.mem_append.mp hp with hp|hp
   ·exact I'.pin p (List.mem_append_right _ hp)
   ·rcases List.mem_cons.mp hp with rfl|hp
    ·exact ⟨g1,fpK.1,fpK.2.1,fpK.2.2.1,fun v z=>by cases z⟩
    ·rw [List.mem_singleton.mp hp]
     exact ⟨g2,fpA.1,fpA.2.1,fpA.2.2.1,fun v z=>by cases z⟩
 unfold ksk_rest
 refine wpAny_bind (wpAny_rule ?_)
 first
  | rw [List.forIn_toArray]
  | (rw [←Array.forIn_toList];simp only [List.toList_toArray])
  | rw [←Array.forIn_toList]
 refine wpAny_bind (ksk_fold (fun i s'=>∃ kA c,Inv X (pins++[(kS,seqObj "list" kA c),(a,seqObj "list" #[] e1)]) σ H s'∧IntsAre kA.toList (ks.take i)) its 0 _ ⟨#[],0,pin I2 hoK hoA,by simpa using IntsAre.nil⟩ ?step ?done)
 case step=>
  rintro j x s' hx ⟨kA,c,I3,hk⟩
  simp only [Nat.zero_add] at hk ⊢
  have hj:j < its.length:=(List.getElem?_eq_some_iff.mp hx).1
  obtain ⟨k,hkj⟩:∃ k,ks[j]? = some k:=⟨_,List.getElem?_eq_getElem (by omega)⟩
  obtain ⟨y,hy⟩:∃ y,xs[j]? = some y:=⟨_,List.getElem?_eq_getElem (by omega)⟩
  obtain ⟨u',hu',ru⟩:=r'.get hy
  rw [hx] at hu'
  cases hu'
  have hzk:kA.size≤its.length:=by
   have h1:=hk.length
   rw [Array.length_toList,List.length_take] at h1
   omega
  refine wpAny_bind (wpAny_attempt (wpAny_mono (run_in (A:=X.A.in1.in1) (E:=fun _ _ _=>True) (Q:=fun v H'=>v=.int k∧H'=H) F (hr.in1.in1) I3.env0.in1.in1 hb I3 (.cons ru .nil) (hs j y k hy hkj _ _ ⟨rfl,rfl⟩)) (fun v s'' he=>?_) fun _ _ hF=>hF))
  obtain ⟨v',H',I4,rv,rfl,rfl⟩:=he
  obtain ⟨t2,rfl⟩:=(show ∃ t,v=.int k t from rv)
  dsimp only
  have nk:=(I4.pin (kS,seqObj "list" kA c) (List.mem_append_right _ (List.mem_append_right _ (.head _)))).1
  have na:=(I4.pin (a,seqObj "list" #[] e1) (List.mem_append_right _ (List.mem_append_right _ (.tail _ (.head _))))).1
  have I5:=I4.unpinned
  obtain ⟨c2,hc2⟩:∃ c2,(s''.heap.update kS (Obj.mapSeq (·.push (.int k t2)))).get? kS=some (seqObj "list" (kA.push (.int k t2)) c2):=⟨_,get?_update_seq nk (·.push (.int k t2))⟩
  have ek:ks.take (j+1)=ks.take j++[k]:=by rw [List.take_add_one,hkj];simp
  have ea:(kA.push (Value.int k t2)).toList=kA.toList++[Value.int k t2]:=by simp
  refine wpAny_bind (listUpdate_at nk rfl ?_ (by omega) (Nat.le_trans (Nat.le_of_eq (Array.size_push ..)) (by omega)))
  obtain ⟨f0,f1,f2,f3,f4,f5⟩:=fpK
  have I6:=I5.turned (t':=s''.toks) (it:=kS) (h':=s''.heap.update kS (Obj.mapSeq (·.push (.int k t2)))) (fun b o hb q=>by rw [Heap.get?_update_ne _ _ _ _ hb];exact q) f0 f1 f3 f4 f5
  refine wpAny_pure ⟨rfl,kA.push (.int k t2),c2,pin I6 hc2 (by show (s''.heap.update kS _).get? a=_;rw [Heap.get?_update_ne _ _ _ _ hka.symm];exact na),by rw [ea,ek];exact ksk_snoc hk⟩
 case done=>
  rintro s' ⟨kA,c,I3,hk⟩
  have hk':IntsAre kA.toList ks:=by
   have e3:ks.take (0+its.length)=ks:=List.take_of_length_le (by omega)
   rw [e3] at hk
   exact hk
  have nk:=(I3.pin (kS,seqObj "list" kA c) (List.mem_append_right _ (List.mem_append_right _ (.head _)))).1
  have na:=(I3.pin (a,seqObj "list" #[] e1) (List.mem_append_right _ (List.mem_append_right _ (.tail _ (.head _))))).1
  have I4:=I3.unpinned
  have hks:kA.size=its.length:=by
   have h1:=hk'.length
   rw [Array.length_toList] at h1
   omega
  have hzs:(kA.zip its.toArray).size=its.length:=by rw [Array.size_zip,hks,List.size_toArray,Nat.min_self]
  refine wpAny_bind (listItems_at nk rfl ?_)
  have fin:∀ (P':PySem.Fin->Shared->Prop) (E':Value->Shared->Prop),(∀ s2,EP X pins σ Q (.ref a) s2->P' (.done (.ret .none)) s2)->∀ st:SortSt,(arrOf st).Perm (kA.zip its.toArray)->SortedTo (arrOf st) (arrOf st).size->failedOf st=none->wpAny (model X.prog X.w) X.A.in1.in1 (ksk_tail a false e1 (.ref kS) st) P' E' s':=by
   intro P' E' hP st hp hso hfl
   have ho:=ksk_out (b:=false) hk' hp hso
   rw [if_neg Bool.false_ne_true] at ho
   obtain ⟨pv,p1,p2,p3⟩:=ho
   obtain ⟨out,q1,q2,q3⟩:=vals_lift r' hkl p1
   have hsz2:(arrOf st).size=its.length:=by rw [hp.size_eq,hzs]
   have hout:((arrOf st).map (·.2)).size=its.length:=by rw [Array.size_map];exact hsz2
   have na1:(s'.heap.update kS (Obj.mapSeq fun _=>(#[]:Array Value))).get? a=some (seqObj "list" #[] e1):=by rw [Heap.get?_update_ne _ _ _ _ hka.symm];exact na
   obtain ⟨c2,hc2⟩:∃ c2,((s'.heap.update kS (Obj.mapSeq fun _=>(#[]:Array Value))).update a (Obj.mapSeq fun _=>(arrOf st).map (·.2))).get? a=some (seqObj "list" ((arrOf st).map (·.2)) c2):=
    ⟨_,get?_update_seq na1 fun _=>(arrOf st).map (·.2)⟩
   unfold ksk_tail
   dsimp only
   refine wpAny_bind (listUpdate_at nk rfl ?_ (by omega) (Nat.zero_le _))
   refine wpAny_bind (wpAny_letGo ?_)
   refine wpAny_bind (seqEpoch_at na1 rfl ?_)
   simp only [Bool.false_eq_true,if_false]
   refine wpAny_bind (listUpdate_at na1 rfl ?_ (Nat.zero_le _) (by omega))
   rw [hfl]
   simp only [bne_self_eq_false,Bool.false_eq_true,if_false]
   obtain ⟨f0,f1,f2,f3,f4,f5⟩:=fpK
   have I6:=I4.turned (t':=s'.toks) (it:=kS) (h':=s'.heap.update kS (Obj.mapSeq fun _=>(#[]:Array Value))) (fun b o hb q=>by rw [Heap.get?_update_ne _ _ _ _ hb];exact q) f0 f1 f3 f4 f5
   obtain ⟨f0,f1,f2,f3,f4,f5⟩:=fpA
   have I7:=I6.turned (t':=s'.toks) (it:=a) (h':=(s'.heap.update kS (Obj.mapSeq fun _=>(#[]:Array Value))).update a (Obj.mapSeq fun _=>(arrOf st).map (·.2))) (fun b o hb q=>by rw [Heap.get?_update_ne _ _ _ _ hb];exact q) f0 f1 f3 f4 f5
   have hlo:(out.map (·.2)).length≤sizeLine:=by rw [List.length_map,q1.length_eq,List.length_zip];omega
   refine wpAny_pure (hP _ ⟨.ref a,_,I7.adopt nwA f0 (o:=.lst (out.map (·.2))) ⟨hlo,((arrOf st).map (·.2)).toList,c2,by rw [p2];exact q3,by rw [Array.toArray_toList];exact hc2⟩,rfl,q out q1 ?_ _ _ f0 (Ext.new f0) upd_same⟩)
   have e4:∀ {α:Type} (l:List (Int × α)),l.Pairwise (fun a b=>a.1≤b.1) ↔ (l.map (·.1)).Pairwise (·≤·):=fun l=>by rw [List.pairwise_map]
   rw [e4,q2,←e4]
   simpa using p3
  unfold ksk_end
  dsimp only
  simp only [Bool.false_eq_true,if_false]
  by_cases h2:its.toArray.size < 2
  ·rw [if_pos h2,if_pos h2]
   refine wpAny_bind (wpAny_pure ?_)
   rw [StateT.run_pure]
   refine wpAny_bind (wpAny_pure ?_)
   dsimp only
   refine fin _ _ (fun s2 hq=>⟨_,rfl,wpAny_pure ⟨_,rfl,hq⟩⟩) (SortSt.mk' general' (kA.zip its.toArray) #[] 7 none) (Array.Perm.refl _) ?_ rfl
   intro i j hij hj
   have hj2:j < (kA.zip its.toArray).size:=hj
   rw [hzs] at hj2
   rw [List.size_toArray] at h2
   have:i=j:=by omega
   subst this
   exact Int.le_refl _
  ·rw [if_neg h2,if_neg h2]
   rw [List.size_toArray] at h2
   rw [ksk_kind hk' (by omega)]
   refine wpAny_bind (wpAny_pure ?_)
   have hnum:(kA.zip its.toArray).toList.map (fun p=>numOf p.1)=ks:=by
    rw [ksk_zip]
    have:(kA.toList.zip its).map (fun p=>numOf p.1)=((kA.toList.zip its).map Prod.fst).map numOf:=by rw [List.map_map];rfl
    rw [this,List.map_fst_zip (by rw [Array.length_toList];omega)]
    exact hk'.nums
   refine wpAny_bind (wpAny_mono (wpS_sortRunsE (a₀:=kA.zip its.toArray) (st:=SortSt.mk' oneType' (kA.zip its.toArray) #[] 7 none)
    (Q:=fun _ st'=>(arrOf st').Perm (kA.zip its.toArray)∧failedOf st'=none∧SortedTo (arrOf st') (kA.zip its.toArray).size)
    (ksk_intKeys hk') ⟨Array.Perm.refl _,rfl,rfl,rfl⟩ (by rw [hzs];omega) (easy_of hnum hE) fun st' a1 a2 a3=>⟨a1,a2,a3⟩) ?_ fun _ _ e=>e)
   rintro ⟨⟨⟩,st'⟩ s'' ⟨rfl,hp,hf,hso⟩
   dsimp only
   exact fin _ _ (fun s2 hq=>⟨_,rfl,wpAny_pure ⟨_,rfl,hq⟩⟩) st' hp (by rw [hp.size_eq];exact hso) hf
end
end L2
set_option Elab.async false
set_option linter.all false
set_option maxRecDepth 100000
set_option maxHeartbeats 4000000
namespace L2
open PySem PySem.Spec PyProof.Rows
def AskOk {α:Type}(n:Nat) (R:α->Prop):PySem.W.KasT α->Prop
 | .ret a=>R a
 | .ask i j k=>i < n∧j < n∧∀ b,AskOk n R (k b)
theorem AskOk.bind {α β:Type}{n:Nat}{R:α->Prop}{R':β->Prop}{f:α->PySem.W.KasT β}(h:∀ a,R a->AskOk n R' (f a)):∀ t:PySem.W.KasT α,AskOk n R t->AskOk n R' (t.bind f)
 | .ret a,q=>h a q
 | .ask i j k,q=>⟨q.1,q.2.1,fun b=>AskOk.bind h (k b) (q.2.2 b)⟩
theorem AskOk.run {α:Type}{n:Nat}{R:α->Prop}{cmp:Nat->Nat->(Bool->Shared->Prop)->Shared->Prop}{Q:α->Shared->Prop}{s:Shared}(hc:∀ i j C,i < n->j < n->(∀ b,C b s)->cmp i j C s) (hq:∀ a,R a->Q a s):∀ t:PySem.W.KasT α,AskOk n R t->t.kasWp cmp Q s
 | .ret a,q=>hq a q
 | .ask i j k,q=>hc i j _ q.1 q.2.1 fun b=>AskOk.run hc hq (k b) (q.2.2 b)
def PermN (n:Nat) (p:Array Nat):Prop:=p.Perm (List.toArray (List.range n))
theorem PermN.lt {n:Nat}{p:Array Nat}(h:PermN n p) (h0:0 < n) (k:Nat):p.getD k 0 < n:=by
 by_cases hk:k < p.size
 ·have e:p.getD k 0=p[k]:=by simp [Array.getD,hk]
  have hm:p[k]∈p.toList:=by simp
  have:=(Array.perm_iff_toList_perm.mp h).mem_iff.mp hm
  rw [e]
  simpa using this
 ·have e:p.getD k 0=0:=by simp [Array.getD,hk]
  rw [e]
  exact h0
theorem PermN.rev {n:Nat}{p:Array Nat}(h:PermN n p) (i j:Nat):PermN n (PySem.W.kas_rev p i j):=(mirror_perm _ _ _ _).trans h
section
variable {n:Nat}(h0:0 < n)
include h0
theorem ask_asc {p:Array Nat}(hp:PermN n p):∀ f m:Nat,AskOk n (fun _=>True) (PySem.W.kas_asc p f m)
 | 0,m=>trivial
 | f+1,m=>⟨hp.lt h0 _,hp.lt h0 _,fun b=>by
  cases b
  ·exact ask_asc hp f (m+1)
  ·exact trivial⟩
theorem ask_desc:∀ (f:Nat) (p:Array Nat) (m q:Nat),PermN n p->AskOk n (fun r=>PermN n r.1) (PySem.W.kas_desc f p m q)
 | 0,p,m,q,hp=>hp
 | f+1,p,m,q,hp=>⟨hp.lt h0 _,hp.lt h0 _,fun b=>by
  cases b
  ·exact ⟨hp.lt h0 _,hp.lt h0 _,fun d=>by
    cases d
    ·exact ask_desc f p (m+1) (q+1) hp
    ·exact hp⟩
  ·show AskOk n _ (if q > 0 then _ else _)
   split
   ·exact ask_desc f _ (m+1) 0 (hp.rev _ _)
   ·exact ask_desc f p (m+1) 0 hp⟩
theorem ask_tail3 (m k:Nat){p:Array Nat}(hp:PermN n p):AskOk n (fun r:Nat × Array Nat=>PermN n r.2) (PySem.W.kas_tail3 m k p):=by
 refine AskOk.bind (fun a _=>?_) _ (ask_asc h0 (hp.rev 0 m) _ _)
 exact hp.rev 0 m
theorem ask_descPart (m k:Nat){p:Array Nat}(hp:PermN n p):AskOk n (fun r:Nat × Array Nat=>PermN n r.2) (PySem.W.kas_descPart m k p):=by
 refine AskOk.bind (fun r hr=>?_) _ (ask_desc h0 _ _ _ _ hp)
 split
 ·exact ask_tail3 h0 _ _ (hr.rev _ _)
 ·exact ask_tail3 h0 _ _ hr
theorem ask_count (k:Nat){p:Array Nat}(hp:PermN n p):AskOk n (fun r:Nat × Array Nat=>PermN n r.2) (PySem.W.kas_count k p):=by
 refine AskOk.bind (fun m _=>?_) _ (ask_asc h0 hp _ _)
 split
 ·exact hp
 ·split
  ·exact ⟨hp.lt h0 _,hp.lt h0 _,fun b=>by
    cases b
    ·exact ask_descPart h0 _ _ (hp.rev _ _)
    ·exact hp⟩
  ·exact ask_descPart h0 _ _ hp
theorem ask_place {p:Array Nat}(hp:PermN n p) (k:Nat):∀ f l r:Nat,AskOk n (fun _=>True) (PySem.W.kas_place p k f l r)
 | 0,l,r=>trivial
 | f+1,l,r=>by
  unfold PySem.W.kas_place
  split
  ·exact trivial
  ·exact ⟨hp.lt h0 _,hp.lt h0 _,fun b=>by
    cases b
    ·exact ask_place hp k f _ _
    ·exact ask_place hp k f _ _⟩
theorem ask_bin:∀ (f:Nat) (p:Array Nat) (k:Nat),PermN n p->AskOk n (PermN n) (PySem.W.kas_bin f p k)
 | 0,p,k,hp=>hp
 | f+1,p,k,hp=>AskOk.bind (fun l _=>ask_bin f _ (k+1) ((bubble_perm _ _ _).trans hp)) _ (ask_place h0 hp k k 0 k)
theorem ask_sort:AskOk n (PermN n) (PySem.W.kas_sort n):=by
 refine AskOk.bind (fun r hr=>?_) _ (ask_count h0 n (Array.Perm.refl _))
 split
 ·exact ask_bin h0 _ _ _ hr
 ·exact hr
end
def TwoAt (h:Heap) (vs:List Value):Prop:=∀ v∈vs,∃ a o n i j t u,v=.ref a∧h.get? a=some o∧o.cls=.type "tuple" ∧ o.data=.seq #[.int i t,.int j u] n
theorem TwoAt.kat {h:Heap}:∀ {vs:List Value},TwoAt h vs->∃ fs,PySem.W.KatTups h vs fs∧fs.length=vs.length∧∀ v∈fs,∃ i t,v=Value.int i t
 | [],_=>⟨[],.nil,rfl,fun _ h=>absurd h List.not_mem_nil⟩
 | v::vs,q=>by
  obtain ⟨fs,k1,k2,k3⟩:=TwoAt.kat (vs:=vs) fun v hv=>q v (List.mem_cons_of_mem _ hv)
  obtain ⟨a,o,n,i,j,t,u,rfl,ho,hc,hd⟩:=q v List.mem_cons_self
  refine ⟨.int i t::fs,.cons ho hc hd rfl k1,by rw [List.length_cons,List.length_cons,k2],fun w hw=>?_⟩
  rcases List.mem_cons.mp hw with rfl|hw
  ·exact ⟨i,t,rfl⟩
  ·exact k3 w hw
section
variable {prog:Program}{w:World}{A:Around}{E:Value->Shared->Prop}{s:Shared}
theorem two_ask {vs:List Value}(q:TwoAt s.heap vs) (b:Bool) (i j:Nat) (C:Bool->Shared->Prop) (hi:i < vs.length) (hj:j < vs.length) (h:∀ b,C b s):PySem.W.kas_ask prog w A (tuples' b) vs i j C s:=by
 unfold PySem.W.kas_ask
 rw [show vs.getD i Value.none=vs[i] by simp [hi],show vs.getD j Value.none=vs[j] by simp [hj]]
 obtain ⟨a,o,n,x,y,t,u,e1,ho,hc,hd⟩:=q vs[i] (List.getElem_mem hi)
 obtain ⟨a',o',n',x',y',t',u',e2,ho',hc',hd'⟩:=q vs[j] (List.getElem_mem hj)
 rw [e1,e2]
 have one:∀ (c:Bool) (x y:Int) (t u:Tok),wpAny (model prog w) A (oneLt' c (.int x t) (.int y u)) C (fun _ _=>False) s:=by
  intro c x y t u
  cases c
  ·exact PySem.W.kat_one _ _ (lt_int (show PySem.W.BoolBack C (.bool _) s from h _))
  ·exact oneLt_int (h _)
 refine PySem.W.kat_lt ho hd ho' hd' ?_
 show PySem.W.KatLex prog w A b _ C [(.int x t,.int x' t'),(.int y u,.int y' u')] 0 s
 refine PySem.W.kat_cons (wpAny_eqBool_int (PySem.W.kat_go (fun _=>PySem.W.kat_yes (PySem.W.kat_cons (wpAny_eqBool_int (PySem.W.kat_go (fun _=>PySem.W.kat_yes (PySem.W.kat_nil (h _))) fun _=>PySem.W.kat_no (one _ _ _ _ _))))) fun _=>PySem.W.kat_no (one _ _ _ _ _)))
def pairsAt (H:Hp) (xs:List V):Prop:=∀ x∈xs,∃ a i j,x=.ref a∧H a=some (.tup [.int i,.int j])
def qSrtP:List V->Hp->VK->Prop:=fun vs H Q=>∃ p xs,vs=[.ref p]∧H p=some (.lst xs)∧pairsAt H xs∧2≤xs.length∧xs.length < 64∧∀ ys:List V,ys.Perm xs->newK (.lst ys) H Q
theorem use_srtP {p:Addr}{xs:List V}{H:Hp}{Q:VK}(e:H p=some (.lst xs)) (hp:pairsAt H xs) (h2:2≤xs.length) (hl:xs.length < 64) (q:∀ ys:List V,ys.Perm xs->newK (.lst ys) H Q):qSrtP [.ref p] H Q:=⟨p,xs,rfl,e,hp,h2,hl,q⟩
theorem list_sort_two {a:Addr}{vs:List Value}{n:Nat}{P:PySem.Fin->Shared->Prop}(ho:s.heap.get? a=some (seqObj "list" vs.toArray n)) (hT:TwoAt s.heap vs) (hna:∀ v∈vs,v ≠ .ref a) (h2:2≤vs.length) (h64:vs.length < 64)
  (h:∀ p:Array Nat,PermN vs.length p->P (.done (.ret .none)) { s with heap:=sortedHeap s.heap a vs (List.toArray (p.toList.map fun i=>vs.getD i Value.none)) }) :
  wpAny (model prog w) A (Builtin.«list.sort» ⟨[.ref a],[]⟩) P E s:=by
 rw [list_sort_plain]
 have ha:a < s.heap.objs.size:=Heap.lt_size ho
 have hz:vs.length≤sizeLine:=len5000 (by omega)
 refine wpAny_bind (listItems_at ho rfl ?_)
 refine wpAny_bind (listUpdate_at ho rfl ?_ (by simpa using hz) (Nat.zero_le _))
 obtain ⟨e1,ho1⟩:∃ e1,(s.heap.update a (Obj.mapSeq fun _=>#[])).get? a=some (seqObj "list" #[] e1):=⟨_,get?_update_seq ho (fun _=>#[])⟩
 refine wpAny_bind (seqEpoch_at ho1 rfl ?_)
 refine wpAny_bind (wpAny_newTuple ?_ (by simpa using hz))
 refine wpAny_bind (wpAny_newList ?_ (Nat.zero_le _))
 refine wpAny_holding ?_
 have ho6:(((s.heap.update a (Obj.mapSeq fun _=>#[])).push (seqObj "tuple" vs.toArray 0)).push (seqObj "list" #[] 0)).get? a=some (seqObj "list" #[] e1):=by
  rw [Heap.get?_push_ne _ _ _ (by rw [size_push',Heap.size_update];exact Nat.ne_of_lt (Nat.lt_succ_of_lt ha)),Heap.get?_push_ne _ _ _ (by rw [Heap.size_update];exact Nat.ne_of_lt ha)]
  exact ho1
 have hT6:TwoAt (((s.heap.update a (Obj.mapSeq fun _=>#[])).push (seqObj "tuple" vs.toArray 0)).push (seqObj "list" #[] 0)) vs:=fun v hv=>by
  obtain ⟨b,o,n,i,j,t,u,e,hb,hc,hd⟩:=hT v hv
  have nb:b ≠ a:=fun z=>hna v hv (by rw [e,z])
  exact ⟨b,o,n,i,j,t,u,e,Heap.get?_push_of_some _ (Heap.get?_push_of_some _ (by rw [Heap.get?_update_ne _ _ _ _ nb];exact hb)),hc,hd⟩
 show wpAny (model prog w) A _ P E { s with heap:=((s.heap.update a (Obj.mapSeq fun _=>#[])).push (seqObj "tuple" vs.toArray 0)).push (seqObj "list" #[] 0) }
 dsimp only
 have hn2:¬ vs.toArray.size < 2:=by rw [List.size_toArray];omega
 rw [if_neg hn2,if_neg hn2]
 obtain ⟨fs,k1,k2,k3⟩:=hT6.kat
 refine wpAny_bind (PySem.W.kat_kind (T:=.type "int") (s:={ s with heap:=((s.heap.update a (Obj.mapSeq fun _=>#[])).push (seqObj "tuple" vs.toArray 0)).push (seqObj "list" #[] 0) }) k1 (by omega) (fun v hv=>?_) rfl ?_)
 ·obtain ⟨i,t,rfl⟩:=k3 v hv
  exact fun A Q E s k q=>wpAny_pure q
 refine wpAny_bind (wpAny_mono (PySem.W.kat_run (Q:=fun st' s'=>∃ p:Array Nat,PermN vs.length p∧arrOf st'=p.map (PySem.W.kas_item (vs.toArray.zip vs.toArray))∧failedOf st'=none∧s'={ s with heap:=((s.heap.update a (Obj.mapSeq fun _=>#[])).push (seqObj "tuple" vs.toArray 0)).push (seqObj "list" #[] 0) })
  (G:=fun p s'=>PermN vs.length p∧s'={ s with heap:=((s.heap.update a (Obj.mapSeq fun _=>#[])).push (seqObj "tuple" vs.toArray 0)).push (seqObj "list" #[] 0) }) rfl h2 h64 (fun p' st' s' a1 a2 a3 a4=>⟨p',a4.1,a2,a3,a4.2⟩)
  (AskOk.run (fun i j C hi hj hC=>two_ask hT6 _ i j C hi hj hC) (fun p hp=>⟨hp,rfl⟩) _ (ask_sort (by omega)))) ?_ fun _ _ e=>e)
 rintro ⟨⟨⟩,st'⟩ s' ⟨p,hp,har,hf,rfl⟩
 dsimp only
 have hout:=PySem.W.kat_snds rfl har
 have hsz:(List.toArray (p.toList.map fun i=>vs.getD i Value.none)).size=vs.length:=by
  rw [List.size_toArray,List.length_map,Array.length_toList]
  have:=hp.size_eq
  simpa using this
 rw [hout]
 refine wpAny_bind (seqEpoch_at ho6 rfl ?_)
 refine wpAny_bind (listUpdate_at ho6 rfl ?_ (Nat.zero_le _) (by omega))
 rw [hf]
 simp only [bne_self_eq_false,Bool.false_eq_true,if_false]
 exact wpAny_pure (h p hp)
end
theorem vals_pick {xs:List V}{vs:List Value}(hv:Vals xs vs){p:Array Nat}(hp:PermN vs.length p):∃ ys:List V,ys.Perm xs∧Vals ys (p.toList.map fun i=>vs.getD i Value.none):=by
 have hl:=hv.length
 refine ⟨p.toList.map fun i=>xs.getD i .non,?_,?_⟩
 ·have h1:(p.toList.map fun i=>xs.getD i .non).Perm ((List.range vs.length).map fun i=>xs.getD i .non):=(Array.perm_iff_toList_perm.mp hp).map _
  refine h1.trans (List.Perm.of_eq ?_)
  refine List.ext_getElem (by simp;omega) fun i g1 g2=>?_
  simp [g2]
 ·refine vals_of_get (by simp) fun i x u hx hu=>?_
  rw [List.getElem?_map] at hx hu
  obtain ⟨m,hm,rfl⟩:=Option.map_eq_some_iff.mp hx
  rw [hm] at hu
  cases hu
  have hlt:m < vs.length:=by
   have:=(Array.perm_iff_toList_perm.mp hp).mem_iff.mp (List.mem_of_getElem? hm)
   simpa using this
  have g1:xs[m]? = some xs[m]:=List.getElem?_eq_getElem (by omega)
  obtain ⟨u',hu',ru⟩:=hv.get g1
  have e1:xs.getD m .non=xs[m]:=by simp [show m < xs.length by omega]
  have e2:vs.getD m Value.none=u':=by
   rw [List.getElem?_eq_getElem hlt] at hu'
   rw [←Option.some.inj hu']
   simp [hlt]
  show RelV (xs.getD m .non) (vs.getD m Value.none)
  rw [e1,e2]
  exact ru
theorem call_qSrtP {X:Cx}:CallR X (.builtin "sorted") qSrtP:=by
 intro pins s σ H vs us Q I r h
 obtain ⟨p,xs,rfl,e,hpa,h2,hl,q⟩:=h
 cases r with
 | cons r rr=>
  cases rr
  cases r
  obtain ⟨z,its,n,r',hlen,hg⟩:=I.lstM e
  have hit:its.length≤sizeLine:=len5000 (by omega)
  have hT:TwoAt s.heap its:=fun v hv=>by
   obtain ⟨m,hm,em⟩:=List.getElem_of_mem hv
   have g1:xs[m]? = some (xs[m]'(by omega)):=List.getElem?_eq_getElem _
   obtain ⟨u',hu',ru⟩:=r'.get g1
   rw [List.getElem?_eq_getElem hm,em] at hu'
   cases hu'
   obtain ⟨a,i,j,ex,ha⟩:=hpa _ (List.mem_of_getElem? g1)
   rw [ex] at ru
   cases ru
   obtain ⟨hz2,ts,tv,ht⟩:=(show ObjOk X.prog X.w H s.heap a (.tup [.int i,.int j]) from I.hok a _ ha)
   obtain ⟨o,ho,hc,n',hd⟩:=ht
   cases tv with
   | cons r1 tv=>
    cases tv with
    | cons r2 tv=>
     cases tv
     obtain ⟨t1,rfl⟩:=(show ∃ t,_=Value.int i t from r1)
     obtain ⟨t2,rfl⟩:=(show ∃ t,_=Value.int j t from r2)
     exact ⟨a,o,n',i,j,t1,t2,rfl,ho,hc,hd⟩
  refine Calls.call_function_entry kind_sorted plain_sorted entry_sorted (args_sorted1 _) ?_
  unfold Builtin.«sorted»
  refine wpAny_bind (m:=checkCount "sorted" 1 1 _) (wpAny_pure ?_)
  refine wpAny_bind (collect_list (vs:=its) ⟨_,hg,rfl,n,rfl⟩ ?_ hit)
  refine wpAny_bind (wpAny_newList ?_ hit)
  have hsz:((s.heap.push (seqObj "list" #[] 0)).update s.heap.objs.size (Obj.mapSeq (· ++ its.toArray))).objs.size=s.heap.objs.size+1:=by
   rw [Heap.size_update,size_push']
  have hoL:(((s.heap.push (seqObj "list" #[] 0)).update s.heap.objs.size (Obj.mapSeq (· ++ its.toArray))).push (seqObj "list" its.toArray 0)).get? (s.heap.objs.size+1)=some (seqObj "list" its.toArray 0):=by
   rw [←hsz];exact Heap.get?_push_size _ rfl
  have keep:∀ b o,s.heap.get? b=some o->(((s.heap.push (seqObj "list" #[] 0)).update s.heap.objs.size (Obj.mapSeq (· ++ its.toArray))).push (seqObj "list" its.toArray 0)).get? b=some o:=fun b o q=>by
   have hlt:b < s.heap.objs.size:=Heap.lt_size q
   rw [Heap.get?_push_ne _ _ _ (by rw [hsz];exact Nat.ne_of_lt (Nat.lt_succ_of_lt hlt)),Heap.get?_update_ne _ _ _ _ (Nat.ne_of_lt hlt),Heap.get?_push_ne _ _ _ (Nat.ne_of_lt hlt)]
   exact q
  show wpAny _ _ _ _ _ { s with heap:=((s.heap.push (seqObj "list" #[] 0)).update s.heap.objs.size (Obj.mapSeq (· ++ its.toArray))).push (seqObj "list" its.toArray 0) }
  rw [hsz]
  refine wpAny_bind (wpAny_holding (wpAny_call_entry slot_list_sort ⟨_,hoL,rfl⟩ entry_list_sort (list_sort_two hoL (fun v hv=>?_) (fun v hv z=>?_) (by omega) (by omega) fun pa hpm=>⟨_,rfl,?_⟩) (args_list_sort _)))
  ·obtain ⟨b,o,n,i,j,t,u,e,hb,hc,hd⟩:=hT v hv
   exact ⟨b,o,n,i,j,t,u,e,keep _ _ hb,hc,hd⟩
  ·obtain ⟨b,o,n,i,j,t,u,e,hb,hc,hd⟩:=hT v hv
   rw [e] at z
   have:=Heap.lt_size hb
   cases z
   exact absurd this (Nat.not_lt.mpr (Nat.le_succ _))
  ·refine wpAny_pure ⟨_,rfl,?_⟩
   obtain ⟨ys,py,vy⟩:=vals_pick r' hpm
   have fr:=I.hok.fresh (a:=s.heap.objs.size+1) (Nat.le_succ _)
   obtain ⟨e',he'⟩:=sortedHeap_at (out:=List.toArray (pa.toList.map fun i=>its.getD i Value.none)) hoL
   refine ⟨.ref (s.heap.objs.size+1),_,I.laid (t':=s.toks) (o:=.lst ys) (fun b u hb=>?_) (Nat.le_succ _) ⟨?_,_,e',vy,he'⟩,rfl,q ys py _ _ fr (Ext.new fr) upd_same⟩
   ·have hlt:=Heap.lt_size hb
    rw [sortedHeap_old (Nat.ne_of_lt (Nat.lt_succ_of_lt hlt)) (by rw [size_push',hsz];exact Nat.lt_succ_of_lt (Nat.lt_succ_of_lt hlt))]
    exact keep _ _ hb
   ·rw [py.length_eq];exact len5000 (by omega)
end L2
set_option Elab.async false
set_option linter.all false
set_option maxRecDepth 100000
set_option maxHeartbeats 4000000
namespace L2
open PySem PySem.Spec PyProof.Rows
def kThS (H:Hp) (nx:St->Hp->Prop):St->Hp->Prop:=fun σ' H'=>∃ a ob kvs kvs0,H a=some (.dK kvs0)∧H' a=some (.frz ob (.dK kvs))∧nx σ' (upd H' a (.dK kvs))
def sThaw (t:TS):TS:=fun D σ H=>t ⟨kThS H D.nx,kThaw H D.rt,D.bk,D.ct⟩ σ H
theorem m_sThaw (t:TS) (nx:St->Hp->Prop) (rt:VK) (bk ct:St->Hp->Prop) (σ:St) (H:Hp):sThaw t ⟨nx,rt,bk,ct⟩ σ H=t ⟨kThS H nx,kThaw H rt,bk,ct⟩ σ H:=rfl
theorem ps_thaw {X:Cx}{st:Stmt}{t:TS}(h:PS X st t):PS X st (sThaw t):=by
 intro pins s σ H D I hh
 refine thn (h pins s σ H _ I hh) fun f s1 hs=>?_
 cases f with
 | next=>
  obtain ⟨σ',H',I1,a,ob,kvs,kvs0,h0,hf,q⟩:=hs
  exact ⟨σ',_,I1.thaw hf fun o w z=>(by have:=I.base.frzs a o w z;rw [h0] at this;cases this),q⟩
 | brk=>exact hs
 | cont=>exact hs
 | ret u=>
  obtain ⟨v,σ',H',I1,r1,a,ob,kvs,kvs0,h0,hf,q⟩:=hs
  exact ⟨v,σ',_,I1.thaw hf fun o w z=>(by have:=I.base.frzs a o w z;rw [h0] at this;cases this),r1,q⟩
section
variable {g:TG}{tb:TS}{nx:St->Hp->Prop}{rt:VK}{bk ct:St->Hp->Prop}{σ:St}{H:Hp}
theorem for_dict {a:Addr}{kvs:List (Key × V)}(Pv:Obj->Nat->St->Hp->Prop) (ha:H a=some (.dK kvs)) (h0:∀ ob,Pv ob 0 σ (upd H a (.frz ob (.dK kvs)))) (hl:∀ ob i σ' H',Pv ob i σ' H'->H' a=some (.frz ob (.dK kvs)))
  (hs:∀ ob i z σ' H',kvs[i]? = some z->Pv ob i σ' H'->H' a=some (.frz ob (.dK kvs))->g (kV z.1) σ' H' (kBody tb ⟨Pv ob (i+1),kThaw H rt,kThS H nx,Pv ob (i+1)⟩)) (hd:∀ ob σ' H',Pv ob kvs.length σ' H'->nx σ' (upd H' a (.dK kvs))) :
  kIDc (kFor g tb ⟨kThS H nx,kThaw H rt,bk,ct⟩ σ) (.ref a) H:=by
 refine ⟨a,kvs,rfl,ha,fun ob=>?_⟩
 refine ⟨fun i m σ' H'=>m=kvs.length - i∧i≤kvs.length∧Pv ob i σ' H',⟨kvs.length,by simp,Nat.zero_le _,h0 ob⟩,?_⟩
 rintro i m σ' H' ⟨rfl,hi,p⟩
 have qa:=hl ob i σ' H' p
 by_cases hlt:i < kvs.length
 ·refine .inr ⟨⟨qa,hlt⟩,Pv ob (i+1),fun σ'' H'' p'=>⟨kvs.length - (i+1),by omega,rfl,hlt,p'⟩,fun x H'' y=>?_⟩
  obtain ⟨rfl,z,hz,rfl⟩:=y
  exact hs ob i z σ' _ hz p qa
 ·have e:i=kvs.length:=by omega
  subst e
  exact .inl ⟨⟨qa,Nat.le_refl _⟩,a,ob,kvs,kvs,ha,qa,hd ob σ' H' p⟩
end
def Iti (a:Addr) (ob:Obj) (kvs:List (Key × V)):It:=
 ⟨fun i H=>H a=some (.frz ob (.dK kvs))∧i < kvs.length,fun i H x H'=>∃ p z,H p=none∧x=.ref p∧kvs[i]? = some z∧H'=upd H p (.tup [kV z.1,z.2]),fun i H=>H a=some (.frz ob (.dK kvs))∧kvs.length≤i⟩
section
variable {prog:Program}{w:World}{A:Around}{E:Value->Shared->Prop}{s:Shared}
theorem entry_itemiter_iter:entryFor table "dict_itemiterator.__iter__"=some Builtin.«dict_keyiterator.__iter__»:=entryFor_alias (id' := "dict_keyiterator.__iter__") (by kernel_rfl) rfl (by decide +kernel) (by kernel_rfl)
theorem pyIter_itemiter {it d:Addr}{i n ep:Nat}{ok ov:Value}{Q:Value->Shared->Prop}(hit:IsItemIter s.heap it d i n ep ok ov) (h:Q (.ref it) s):wpAny (model prog w) A (pyIter (.ref it)) Q E s:=by
 have hT:s.TypeIs (.ref it) "dict_itemiterator":=⟨_,hit,rfl⟩
 refine wpAny_pyIter_slot hT F.slot_dict_itemiterator_iter (wpAny_call_entry F.slot_dict_itemiterator_iter hT entry_itemiter_iter ?_ (F.args_dict_itemiterator_iter_1 _))
 show wpAny _ _ (ret (.ref it)) _ _ s
 exact wpAny_pure ⟨_,rfl, "dict_itemiterator",_,hT,F.slot_dict_itemiterator_next.lookup,h⟩
end
theorem turn_items {P:Program}{w:World}{K:PySem.W.Frag}{elts:List Expr} {x1}{tp:Pos}(a it:Addr) (ob:Obj) (kvs:List (Key × V)) (vs:List (Key × Value)) (ep:Nat) (kx:KV kvs vs) (dx:DObj P w ob vs ep):Turn P w K (.Tuple elts x1 tp) (Iti a ob kvs) [it] it (fun i h=>∃ ok ov,IsItemIter h it a i vs.length ep ok ov) where
 mem:=by simp
 obj:=fun i h st b hb=>by
  have e:b=it:=by simpa using hb
  subst e
  obtain ⟨ok,ov,e⟩:=st
  exact ⟨_,e,fun v z=>by cases z⟩
 keep:=fun i h h' st k=>by
  obtain ⟨ok,ov,e⟩:=st
  exact ⟨ok,ov,k it (by simp) _ e⟩
 item:=by
  intro X hP hw hK hc i pins s σ H E I hf st hg
  subst hP hw hK
  obtain ⟨ha,hi⟩:=hg
  obtain ⟨ok,ov,st⟩:=st
  have hob:=(show ObjOk X.prog X.w H s.heap a (.frz ob (.dK kvs)) from I.hok a _ ha).1
  obtain ⟨q,hq,hk,hr⟩:=kv_get' kx (List.getElem?_eq_getElem hi)
  have hil:it < s.heap.objs.size:=Heap.lt_size st
  refine wpAny_pyNext_items_item st (dx _ a hob) (k:=q.1) (v:=q.2) hq fun key h1 hkey heo ht hz hk1=>⟨_,rfl,?_⟩
  refine wpAny_letOwnedTupleGo_items heo fun h2 he2 hs2=>?_
  replace hs2:Heap.SameBut it h1 h2:=hs2
  have hT2:h2.IsTuple s.heap.objs.size #[key,q.2]:=⟨_,(hs2.2 _ (Nat.ne_of_gt hil)).trans ht,rfl,_,rfl⟩
  have rk:RelV (kV kvs[i].1) key:=by rw [hk];exact relV_key hkey
  have I2:Inv X pins σ (upd H s.heap.objs.size (.tup [kV kvs[i].1,kvs[i].2])) { s with heap:=h2,toks:=s.toks }:=I.turnNew (t':=s.toks) (ch:=[it]) hf (fun b o hb e=>hs2.extBut b o (by simpa using hb) (hk1 b o (by simpa using hb) e)) (Nat.le_refl _) ⟨(show 2≤sizeLine by decide),[key,q.2],.cons rk (.cons hr .nil),hT2⟩
  have fr:H s.heap.objs.size=none:=I.hok.fresh (Nat.le_refl _)
  refine ⟨.ref s.heap.objs.size,_,I2,rfl,⟨_,_,fr,rfl,List.getElem?_eq_getElem hi,rfl⟩,⟨_,_,he2⟩,fun c hc=>?_⟩
  have e:c=it:=by simpa using hc
  subst e
  rw [upd_ne (Nat.ne_of_lt hil)]
  exact (hf _ (by simp)).1
 done:=by
  intro X hP hw hK hc i pins s σ H E I hf st hg
  subst hP hw hK
  obtain ⟨ha,hi⟩:=hg
  obtain ⟨ok,ov,st⟩:=st
  have hob:=(show ObjOk X.prog X.w H s.heap a (.frz ob (.dK kvs)) from I.hok a _ ha).1
  have hlen:kvs.length=vs.length:=Paired.length kx
  obtain ⟨f0,f1,f2,f3,f4,f5⟩:=hf it (by simp)
  exact wpAny_pyNext_items_end (I.ok.hd hc) st (dx _ a hob) (by simp;omega) fun h' eb=>⟨rfl,I.turned (t':=s.toks) (fun b o hb e=>eb b o hb e) f0 f1 f3 f4 f5⟩
 self:=fun A i s Q E st h=>by
  obtain ⟨ok,ov,e⟩:=st
  exact pyIter_itemiter e h
def kIIt (R:It->Hp->Prop):VK:=fun x H1=>∃ a kvs,x=.ref a∧H1 a=some (.dK kvs)∧∀ ob,R (Iti a ob kvs) (upd H1 a (.frz ob (.dK kvs)))
def iItems (tl:TE):TI:=fun σ H R=>tl σ H (kIIt R)
theorem m_iItems (tl:TE) (σ:St) (H:Hp) (R:It->Hp->Prop):iItems tl σ H R=tl σ H (kIIt R):=rfl
theorem pi_items {X:Cx}{elts:List Expr} {x1}{tp apos pos:Pos}{l:Expr}{tl:TE}(hl:PE X l tl) (hbase:attributeBase l "items" X.env (eval l X.env)=eval l X.env:=by rfl) (hline:(apos.endLine == pos.line)=true:=by rfl):PI X (.Tuple elts x1 tp) (.Call (.Attribute l "items" apos) [] [] pos) (iItems tl):=by
 intro pins s σ H R I h
 refine wpAny_Call_method (T := "dict") (id := "dict.items") hbase rfl hline F.plainAttrs_dict F.slot_dict_items F.type_dict_items (thn (hl pins s σ H _ I h) fun v s1 ⟨x,H1,I1,r1,q1⟩=>?_)
 obtain ⟨a,kvs,e,ha,q⟩:=q1
 subst e
 cases r1
 have hO:ObjOk X.prog X.w H1 s1.heap a (.dK kvs):=I1.hok a _ ha
 obtain ⟨z0,lo,vs,kx,dd⟩:=id hO
 obtain ⟨ep,hat⟩:=dd.dictAt
 obtain ⟨ob,es,ho,rest⟩:=id hat
 have dx:DObj X.prog X.w ob vs ep:=fun h b hb=>⟨ob,es,hb,rest⟩
 refine ⟨hat.dictOf.typeIs,hat.dictOf.mapOf.noDict,?_⟩
 show wpAny _ _ (callWith pos (.builtin "dict.items") [.ref a] [] []) _ _ s1
 refine method_meetsIn F.slot_dict_items F.entry_dict_items rfl (PySem.evalArgs_none ⟨rfl,hat.dictOf.typeIs,F.args_dict_items_1 _,_,meets_dict_items (mixKind X.prog X.w) a lo,⟨vs,hat.dictOf⟩,?_⟩)
 refine wpAny_pyIter_items (knd:=mixKind X.prog X.w) (d:=a) (kvs:=vs) (ep:=ep) ⟨_,Heap.get?_push_size _ rfl,rfl,rfl⟩ (hat.push _) ?_
 have hO':ObjOk X.prog X.w (upd H1 a (.frz ob (.dK kvs))) s1.heap a (.frz ob (.dK kvs)):=⟨ho,⟨z0,lo,vs,kx,dd⟩⟩
 have I2:=I1.write (t':=s1.toks) (x:=a) (e:=a) (o:=.frz ob (.dK kvs)) (h':=s1.heap) (by rw [ha];trivial) (.inl rfl) (fun b u _ e=>e) ⟨ob,ho⟩ hO'
 have hsz:(s1.heap.push { cls:=.type "dict_items",data:=.fields #[.ref a] }).objs.size=s1.heap.objs.size+1:=Heap.size_push ..
 refine ⟨_,[(s1.heap.push { cls:=.type "dict_items",data:=.fields #[.ref a] }).objs.size],_,_,_,rfl,I2.kept (t':=s1.toks) fun b o e=>Heap.get?_push_of_some _ (Heap.get?_push_of_some _ e),turn_items a _ ob kvs vs ep kx dx,⟨_,_,Heap.get?_push_size _ rfl⟩,fun b hb=>?_,q ob⟩
 have e:b=(s1.heap.push { cls:=.type "dict_items",data:=.fields #[.ref a] }).objs.size:=by simpa using hb
 have hle:s1.heap.objs.size≤b:=by rw [e,hsz];exact Nat.le_succ _
 exact I2.fpOk hle (I2.hok.fresh hle)
section
variable {g:TG}{tb:TS}{nx:St->Hp->Prop}{rt:VK}{bk ct:St->Hp->Prop}{σ:St}{H:Hp}
theorem for_items {a:Addr}{kvs:List (Key × V)}(Pv:Obj->Nat->St->Hp->Prop) (ha:H a=some (.dK kvs)) (h0:∀ ob,Pv ob 0 σ (upd H a (.frz ob (.dK kvs)))) (hl:∀ ob i σ' H',Pv ob i σ' H'->H' a=some (.frz ob (.dK kvs)))
  (hs:∀ ob i z p σ' H' H'',kvs[i]? = some z->Pv ob i σ' H'->H' p=none->Ext H' H''->H'' p=some (.tup [kV z.1,z.2])->g (.ref p) σ' H'' (kBody tb ⟨Pv ob (i+1),kThaw H rt,kThS H nx,Pv ob (i+1)⟩)) (hd:∀ ob σ' H',Pv ob kvs.length σ' H'->nx σ' (upd H' a (.dK kvs))) :
  kIIt (kFor g tb ⟨kThS H nx,kThaw H rt,bk,ct⟩ σ) (.ref a) H:=by
 refine ⟨a,kvs,rfl,ha,fun ob=>?_⟩
 refine ⟨fun i m σ' H'=>m=kvs.length - i∧i≤kvs.length∧Pv ob i σ' H',⟨kvs.length,by simp,Nat.zero_le _,h0 ob⟩,?_⟩
 rintro i m σ' H' ⟨rfl,hi,p⟩
 have qa:=hl ob i σ' H' p
 by_cases hlt:i < kvs.length
 ·refine .inr ⟨⟨qa,hlt⟩,Pv ob (i+1),fun σ'' H'' p'=>⟨kvs.length - (i+1),by omega,rfl,hlt,p'⟩,fun x H'' y=>?_⟩
  obtain ⟨r,z,hr,rfl,hz,rfl⟩:=y
  exact hs ob i z r σ' H' _ hz p hr (Ext.new hr) upd_same
 ·have e:i=kvs.length:=by omega
  subst e
  exact .inl ⟨⟨qa,Nat.le_refl _⟩,a,ob,kvs,kvs,ha,qa,hd ob σ' H' p⟩
end
def qDict:List V->Hp->VK->Prop:=fun vs H Q=>∃ p kvs,vs=[.ref p]∧H p=some (.dK kvs)∧kvs.length≤sizeLine∧newK (.dK kvs) H Q
theorem use_dict {p:Addr}{kvs:List (Key × V)}{H:Hp}{Q:VK}(e:H p=some (.dK kvs)) (hl:kvs.length≤sizeLine) (q:newK (.dK kvs) H Q):qDict [.ref p] H Q:=⟨p,kvs,rfl,e,hl,q⟩
theorem call_qDict {X:Cx}:CallR X (.type "dict") qDict:=by
 intro pins s σ H vs us Q I r h
 obtain ⟨p,kvs,rfl,ha,hl,q⟩:=h
 cases r with
 | cons r rr=>
  cases rr
  cases r
  have hO:ObjOk X.prog X.w H s.heap p (.dK kvs):=I.hok p _ ha
  obtain ⟨z0,lo,vs,kx,dd⟩:=id hO
  refine kt_call_dict lo dd (by rw [←kx.length];exact hl) fun h' hd hs=>?_
  have fr:=I.hok.fresh (Nat.le_refl _)
  have lo':(s.heap.objs.size == sysModules)=false:=beq_eq_false_iff_ne.mpr (Ne.symm (Nat.ne_of_lt I.big))
  refine ⟨.ref s.heap.objs.size,_,I.laid (t':=s.toks) (o:=.dK kvs) (fun b u hb=>?_) (Nat.le_refl _) ⟨z0,lo',vs,kx,hd⟩,rfl,q _ _ fr (Ext.new fr) upd_same⟩
  ·exact (hs.2 b (Nat.ne_of_lt (Heap.lt_size hb))).trans (Heap.get?_push_of_some _ hb)
end L2
set_option Elab.async false
set_option linter.all false
set_option maxRecDepth 100000
set_option maxHeartbeats 4000000
namespace L2
open PySem PySem.Spec PyProof.Rows
theorem mo_inD {neg:Bool}:MR (rInD neg):=fun x y H Q Q' m ⟨a,o,e,d,q⟩=>⟨a,o,e,d,m _ _ q⟩
theorem mo_qLenD:MC qLenD:=fun x H Q Q' m ⟨p,kvs,e,h,q⟩=>⟨p,kvs,e,h,m _ _ q⟩
def putI (kv:List (Int × Int)) (c v:Int):List (Int × Int):=if (lookI kv c).isSome=true then kv.map (fun p=>if p.1=c then (p.1,v) else p) else kv++[(c,v)]
theorem put_tabI (kv:List (Int × Int)) (c v:Int):putK (tabI kv) (.inl c) (.int v)=tabI (putI kv c v):=by
 unfold putI
 cases h:lookI kv c with
 | none=>rw [if_neg (by simp)];exact put_tab v h
 | some j=>
  rw [if_pos (show (some j).isSome=true from rfl)]
  unfold putK
  rw [valV_any,val_tab,h,Option.map_some,if_pos (show (some (V.int j)).isSome=true from rfl)]
  unfold tabI
  rw [List.map_map,List.map_map]
  refine List.map_congr_left fun p _=>?_
  show (if (Sum.inl p.1:Key)=Sum.inl c then _ else _)=_
  by_cases e:p.1=c
  ·rw [if_pos (congrArg Sum.inl e)];simp [e]
  ·rw [if_neg (inl_ne e)];simp [e]
theorem look_put (kv:List (Int × Int)) (c v x:Int):lookI (putI kv c v) x=if x=c then some v else lookI kv x:=by
 have h:=valV_put (tabI kv) (.inl c:Key) (.inl x) (.int v)
 rw [put_tabI,val_tab,val_tab] at h
 by_cases e:x=c
 ·rw [if_pos (congrArg Sum.inl e)] at h
  rw [if_pos e]
  cases hl:lookI (putI kv c v) x with
  | none=>rw [hl] at h;cases h
  | some j=>rw [hl] at h;simp only [Option.map_some,Option.some.injEq,V.int.injEq] at h;rw [h]
 ·rw [if_neg (inl_ne e)] at h
  rw [if_neg e]
  cases hl:lookI (putI kv c v) x with
  | none=>
   cases hr:lookI kv x with
   | none=>rfl
   | some j=>rw [hl,hr] at h;cases h
  | some i=>
   cases hr:lookI kv x with
   | none=>rw [hl,hr] at h;cases h
   | some j=>rw [hl,hr] at h;simp only [Option.map_some,Option.some.injEq,V.int.injEq] at h;rw [h]
theorem look_mem {kv:List (Int × Int)}{c v:Int}(h:lookI kv c=some v):(c,v)∈kv:=by
 unfold lookI at h
 obtain ⟨p,hp,rfl⟩:=Option.map_eq_some_iff.mp h
 have e:p.1=c:=by simpa using List.find?_some hp
 rw [←e]
 exact List.mem_of_find?_eq_some hp
theorem look_none {kv:List (Int × Int)}{c:Int}:lookI kv c=none ↔ c ∉ kv.map (·.1):=by
 unfold lookI
 rw [Option.map_eq_none_iff,List.find?_eq_none]
 constructor
 ·intro h hm
  obtain ⟨p,hp,e⟩:=List.mem_map.mp hm
  exact h p hp (by simpa using e)
 ·intro h p hp e
  exact h (List.mem_map.mpr ⟨p,hp,by simpa using e⟩)
theorem look_some {kv:List (Int × Int)}{c:Int}:(lookI kv c).isSome=true ↔ c∈kv.map (·.1):=by
 cases h:lookI kv c with
 | none=>simp;exact fun x hx=>look_none.mp h (List.mem_map.mpr ⟨(c,x),hx,rfl⟩)
 | some v=>simp;exact ⟨v,look_mem h⟩
theorem look_of {kv:List (Int × Int)}(hn:(kv.map (·.1)).Nodup){c v:Int}(h:(c,v)∈kv):lookI kv c=some v:=by
 induction kv with
 | nil=>exact absurd h List.not_mem_nil
 | cons p r ih=>
  have hn':=List.nodup_cons.mp (show (p.1::r.map (·.1)).Nodup from hn)
  rcases List.mem_cons.mp h with rfl|h
  ·exact lookI_pos rfl
  ·rw [lookI_neg fun e=>hn'.1 (by rw [e];exact List.mem_map.mpr ⟨(c,v),h,rfl⟩)]
   exact ih hn'.2 h
theorem putI_keys {kv:List (Int × Int)}{c v:Int}(h:(lookI kv c).isSome=true):(putI kv c v).map (·.1)=kv.map (·.1):=by
 unfold putI
 rw [if_pos h,List.map_map]
 refine List.map_congr_left fun p _=>?_
 show (if p.1=c then (p.1,v) else p).1=p.1
 split<;>rfl
theorem putI_new {kv:List (Int × Int)}{c v:Int}(h:lookI kv c=none):putI kv c v=kv++[(c,v)]:=by
 unfold putI
 rw [h]
 rfl
theorem putI_nodup {kv:List (Int × Int)}(hn:(kv.map (·.1)).Nodup) (c v:Int):((putI kv c v).map (·.1)).Nodup:=by
 cases h:lookI kv c with
 | some j=>rw [putI_keys (by rw [h];rfl)];exact hn
 | none=>
  rw [putI_new h,List.map_append,List.nodup_append]
  refine ⟨hn,List.nodup_cons.mpr ⟨List.not_mem_nil,List.nodup_nil⟩,fun x hx y hy e=>?_⟩
  rw [List.map_cons,List.map_nil,List.mem_singleton] at hy
  rw [e,hy] at hx
  exact look_none.mp h hx
theorem putI_len (kv:List (Int × Int)) (c v:Int):(putI kv c v).length≤kv.length+1:=by
 unfold putI
 split
 ·rw [List.length_map];omega
 ·simp
theorem tab_keys (kv:List (Int × Int)):(tabI kv).map (·.1)=(kv.map (·.1)).map (Sum.inl:Int->Key):=by unfold tabI;rw [List.map_map,List.map_map];rfl
theorem tab_len (kv:List (Int × Int)):(tabI kv).length=kv.length:=by unfold tabI;rw [List.length_map]
theorem findIdx_ints:∀ (a b:List Int) (c:Int),c ∉ a->(((a++c::b).map PyData.int).findIdx? fun z=>PyData.eqv z (.int c))=some a.length
 | [],b,c,_=>by
  rw [List.nil_append,List.map_cons,List.findIdx?_cons]
  simp [eqv_int]
 | x::a,b,c,h=>by
  have ih:=findIdx_ints a b c fun m=>h (List.mem_cons_of_mem _ m)
  have e:¬ x=c:=fun e=>h (by rw [e];exact List.mem_cons_self)
  rw [List.cons_append,List.map_cons,List.findIdx?_cons,ih]
  simp [eqv_int,e]
theorem use_idxI {l:Addr}{a b:List Int}{c:Int}{H:Hp}{Q:VK}(h:H l=some (.lst ((a++c::b).map V.int))) (hc:c ∉ a) (q:Q (.int (a.length:Int)) H):rIndex (.ref l) [.int c] H Q:=
 ⟨l,_,.int c,.int c,(a++c::b).map PyData.int,a.length,rfl,rfl,h,rfl,allSome_ints H _ _,findIdx_ints a b c hc,q⟩
end L2
set_option Elab.async false
set_option linter.all false
set_option maxRecDepth 100000
set_option maxHeartbeats 4000000
namespace L2
open PySem PySem.Spec PyProof.Rows
def kDT2 (Q:VK) (x y:V):VK:=fun v H=>∃ p b k,x=.ref p∧y=.ref b∧H b=some (.tup (k.map kV))∧H p=some (.dT [])∧Q (.ref p) (upd H p (.dT [(k,v)]))
def kDT1 (tv:TE) (σ:St) (Q:VK) (x:V):VK:=fun y H=>tv σ H (kDT2 Q x y)
theorem m_kDT1 (tv:TE) (σ:St) (Q:VK) (x y:V) (H:Hp):kDT1 tv σ Q x y H=tv σ H (kDT2 Q x y):=rfl
def kDT0 (tk tv:TE) (σ:St) (Q:VK):VK:=fun x H=>tk σ H (kDT1 tv σ Q x)
theorem m_kDT0 (tk tv:TE) (σ:St) (Q:VK) (x:V) (H:Hp):kDT0 tk tv σ Q x H=tk σ H (kDT1 tv σ Q x):=rfl
def nDispT (tk tv:TE):TE:=fun σ H Q=>newK (.dT []) H (kDT0 tk tv σ Q)
theorem m_nDispT (tk tv:TE) (σ:St) (H:Hp) (Q:VK):nDispT tk tv σ H Q=newK (.dT []) H (kDT0 tk tv σ Q):=rfl
theorem use_disp {Q:VK}{p b:Addr}{k:List Key}{v:V}{H:Hp}(eb:H b=some (.tup (k.map kV))) (e:H p=some (.dT [])) (q:Q (.ref p) (upd H p (.dT [(k,v)]))):kDT2 Q (.ref p) (.ref b) v H:=⟨p,b,k,rfl,rfl,eb,e,q⟩
theorem pe_nDispT {X:Cx}{pos:Pos}{k v:Expr}{tk tv:TE}(hu:X.A.units+1 < cLine) (hk:PE X k tk) (hv:PE X v tv):PE X (.Dict [some k] [v] pos) (nDispT tk tv):=by
 intro pins s σ H Q I q
 have hn:=I.hok.fresh (Nat.le_refl s.heap.objs.size)
 have I1:=I.laid (a:=s.heap.objs.size) (o:=.dT []) (h':=s.heap.push { cls:=.type "dict",data:=.dict #[] }) (t':=s.toks) (fun _ _ q=>Heap.get?_push_of_some _ q) (Nat.le_refl _) (dt_empty s.heap I.big)
 have q1:=q _ _ hn (Ext.new hn) upd_same
 refine wpAny_Dict_any rfl rfl (by simp) (show 1≤15 by decide) (pairTrees_cons_walk (thn (hk pins _ σ _ _ I1 q1) fun u s1 ⟨y,H1,I2,ry,q2⟩=>thn (hv pins s1 σ H1 _ I2 q2) fun w2 s2 ⟨z,H2,I3,rz,p,b,kk,e1,e2,eb,e,q3⟩=>pairTrees_nil_walk ?_))
 cases e1
 subst e2
 cases (show u=Value.ref b from ry)
 obtain ⟨_,hd,xs,rel,dd⟩:=dt_of I3.hok e
 cases rel
 unfold storeAll
 rw [List.forIn_cons]
 refine wpAny_bind (wpAny_bind (wpAny_dictSet_heap (hsz:=Nat.zero_le _) (knd:=tupleKind (mixKind X.prog X.w)) (show X.A.units < cLine by omega) (key_of I3.hok eb) dd fun h' dd' hs=>wpAny_pure ?_))
 show wpAny _ _ (forIn [] PUnit.unit _) _ _ _
 rw [List.forIn_nil]
 refine wpAny_pure ⟨.ref s.heap.objs.size,_,?_,rfl,q3⟩
 obtain ⟨q,es,ep,hq,h2,h3,h4,_,h5⟩:=dd'
 refine d_write I3 (by rw [e];exact True.intro) hs ⟨q,hq⟩ ⟨show 1≤sizeLine by rw [sizeLine_eq];omega,hd,_,((show KT H2 [] [] from .nil).put kk eb rz).keeps fun c ys ec=>?_,q,es,ep,hq,h2,h3,h4,h5⟩
 rw [upd_ne (ne_of ec e (fun z=>nomatch z))]
 exact ec
end L2
namespace PH
def Pth (f:Int->Option Int):List Int->Int->Prop
 | [],_=>True
 | [c],e=>f c=some e
 | c::d::l,e=>f c=some d∧Pth f (d::l) e
def Ring (f:Int->Option Int) (l:List Int):Prop:=∃ c t,l=c::t∧Pth f (c::t) c∧(c::t).Nodup
section
variable {f:Int->Option Int}
theorem Pth.cons {c e:Int}{l:List Int}(h:f c=some (l.headD e)) (hp:Pth f l e):Pth f (c::l) e:=by
 cases l with
 | nil=>exact h
 | cons d l=>exact ⟨h,hp⟩
theorem Pth.head {c e:Int}{l:List Int}(h:Pth f (c::l) e):f c=some (l.headD e):=by
 cases l with
 | nil=>exact h
 | cons d l=>exact h.1
theorem Pth.tail {c e:Int}{l:List Int}(h:Pth f (c::l) e):Pth f l e:=by
 cases l with
 | nil=>trivial
 | cons d l=>exact h.2
theorem Pth.app {d e:Int}:∀ {a:List Int}{b:List Int},Pth f a (b.headD e)->Pth f b e->Pth f (a++b) e
 | [],b,_,h=>h
 | c::a,b,h,hb=>by
  refine Pth.cons ?_ (Pth.app (d:=d) h.tail hb)
  rw [h.head]
  cases a with
  | nil=>rfl
  | cons x a=>rfl
theorem Pth.left {e:Int}:∀ {a:List Int}{b:List Int},Pth f (a++b) e->Pth f a (b.headD e)
 | [],b,_=>trivial
 | c::a,b,h=>by
  have h1:f c=some ((a++b).headD e):=h.head
  have h2:=Pth.left (a:=a) h.tail
  refine Pth.cons ?_ h2
  rw [show (a++b).headD e=a.headD (b.headD e) by cases a<;>rfl] at h1
  exact h1
theorem Pth.right {e:Int}:∀ {a:List Int}{b:List Int},Pth f (a++b) e->Pth f b e
 | [],b,h=>h
 | c::a,b,h=>Pth.right (a:=a) h.tail
theorem Pth.snoc {t:List Int}{c d:Int}(h:Pth f t c) (hd:f c=some d):Pth f (t++[c]) d:=Pth.app (d:=d) h hd
theorem Pth.mem {e:Int}:∀ {l:List Int},Pth f l e->∀ {x:Int},x∈l->∃ d,f x=some d∧(d∈l∨d=e)
 | [],_,x,h=>absurd h List.not_mem_nil
 | c::l,hp,x,h=>by
  rcases List.mem_cons.mp h with rfl|h
  ·refine ⟨_,hp.head,?_⟩
   cases l with
   | nil=>exact .inr rfl
   | cons d l=>exact .inl (by simp)
  ·obtain ⟨d,h1,h2⟩:=Pth.mem hp.tail h
   exact ⟨d,h1,h2.imp (List.mem_cons_of_mem _) id⟩
theorem Ring.mem {l:List Int}(h:Ring f l){x:Int}(hx:x∈l):∃ d,f x=some d∧d∈l:=by
 obtain ⟨c,t,rfl,hp,hn⟩:=h
 obtain ⟨d,h1,h2⟩:=hp.mem hx
 exact ⟨d,h1,h2.elim id fun e=>by rw [e];exact List.mem_cons_self⟩
theorem Ring.ne {l:List Int}(h:Ring f l):l ≠ []:=by obtain ⟨c,t,rfl,_⟩:=h;exact List.cons_ne_nil _ _
theorem Ring.nodup {l:List Int}(h:Ring f l):l.Nodup:=by obtain ⟨c,t,rfl,_,hn⟩:=h;exact hn
theorem Ring.rot {a b:List Int}(h:Ring f (a++b)):Ring f (b++a):=by
 cases b with
 | nil=>simpa using h
 | cons c b=>
  cases a with
  | nil=>simpa using h
  | cons x a=>
   obtain ⟨y,t,e,hp,hn⟩:=h
   obtain ⟨rfl,rfl⟩:=List.cons.inj e
   have h1:Pth f (x::a++c::b) x:=hp
   have h2:=h1.left
   have h3:=h1.right
   refine ⟨c,b++x::a,rfl,?_,?_⟩
   ·exact Pth.app (d:=0) (a:=c::b) (b:=x::a) h3 h2
   ·have:(x::a++c::b).Perm (c::b++x::a):=List.perm_append_comm
    exact this.nodup_iff.mp hn
theorem pth_two {c:Int}:∀ {l1 l2:List Int}{d:Int},Pth f (d::l1) c->Pth f (d::l2) c->c ∉ l1->c ∉ l2->l1=l2
 | [],[],_,_,_,_,_=>rfl
 | [],y::l2,d,h1,h2,n1,n2=>by
  have e1:=h1.head
  have e2:=h2.head
  rw [e1] at e2
  exact absurd (Option.some.inj e2) fun e=>n2 (by rw [show c=y from e];exact List.mem_cons_self)
 | x::l1,[],d,h1,h2,n1,n2=>by
  have e1:=h1.head
  have e2:=h2.head
  rw [e1] at e2
  exact absurd (Option.some.inj e2) fun e=>n1 (by rw [←show x=c from e];exact List.mem_cons_self)
 | x::l1,y::l2,d,h1,h2,n1,n2=>by
  have e1:=h1.head
  have e2:=h2.head
  rw [e1] at e2
  have e:x=y:=Option.some.inj e2
  subst e
  rw [pth_two (l1:=l1) (l2:=l2) h1.tail h2.tail (fun h=>n1 (List.mem_cons_of_mem _ h)) (fun h=>n2 (List.mem_cons_of_mem _ h))]
theorem ring_eq {c:Int}{t1 t2:List Int}(h1:Ring f (c::t1)) (h2:Ring f (c::t2)):t1=t2:=by
 obtain ⟨_,_,e1,p1,n1⟩:=h1
 obtain ⟨_,_,e2,p2,n2⟩:=h2
 obtain ⟨rfl,rfl⟩:=List.cons.inj e1
 obtain ⟨rfl,rfl⟩:=List.cons.inj e2
 exact pth_two p1 p2 (List.nodup_cons.mp n1).1 (List.nodup_cons.mp n2).1
theorem Ring.from {l:List Int}(h:Ring f l){x:Int}(hx:x∈l):∃ t,Ring f (x::t)∧(x::t).Perm l:=by
 obtain ⟨a,b,rfl⟩:=List.append_of_mem hx
 exact ⟨b++a,h.rot,List.perm_append_comm (l₁:=x::b) (l₂:=a)⟩
theorem ring_share {l1 l2:List Int}(h1:Ring f l1) (h2:Ring f l2){x:Int}(m1:x∈l1) (m2:x∈l2):l1.Perm l2:=by
 obtain ⟨t1,r1,p1⟩:=h1.from m1
 obtain ⟨t2,r2,p2⟩:=h2.from m2
 rw [ring_eq r1 r2] at p1
 exact p1.symm.trans p2
theorem Ring.within {l:List Int}(h:Ring f l){S:Int->Prop}(hs:∀ x d,S x->f x=some d->d∈l->S d){x:Int}(hx:x∈l) (h0:S x):∀ y∈l,S y:=by
 obtain ⟨t,r,p⟩:=h.from hx
 have hm:∀ y,y∈x::t ↔ y∈l:=fun y=>p.mem_iff
 obtain ⟨_,_,e,hp,_⟩:=r
 obtain ⟨rfl,rfl⟩:=List.cons.inj e
 have go:∀ (u:List Int) (d:Int),(∀ y∈d::u,y∈l)->Pth f (d::u) x->S d->∀ y∈d::u,S y:=by
  intro u
  induction u with
  | nil=>intro d _ _ hd y hy;rw [List.mem_singleton.mp hy];exact hd
  | cons z u ih=>
   intro d hl hq hd y hy
   rcases List.mem_cons.mp hy with rfl|hy
   ·exact hd
   ·exact ih z (fun y hy=>hl y (List.mem_cons_of_mem _ hy)) hq.2 (hs _ _ hd hq.1 (hl z (by simp))) y hy
 intro y hy
 exact go t x (fun y hy=>(hm y).mp hy) hp h0 y ((hm y).mpr hy)
theorem pth_nodup {c:Int}{t:List Int}(h:Pth f (c::t) c) (hc:c ∉ t):(c::t).Nodup:=by
 have key:∀ (n:Nat) (a b:List Int) (x:Int),b.length≤n->Pth f (a++x::b) c->x∈b->c ∉ b->False:=by
  intro n
  induction n with
  | zero=>intro a b x hn _ hx _;rw [List.length_eq_zero_iff.mp (Nat.le_zero.mp hn)] at hx;exact absurd hx List.not_mem_nil
  | succ n ih=>
   intro a b x hn hp hx hcb
   obtain ⟨u,v,rfl⟩:=List.append_of_mem hx
   have h1:Pth f (x::(u++x::v)) c:=hp.right
   have h2:Pth f (x::v) c:=(show Pth f ((x::u)++x::v) c from h1).right
   have e:=pth_two h1 h2 hcb fun m=>hcb (by simp [m])
   have:=congrArg List.length e
   simp at this
   omega
 refine List.nodup_cons.mpr ⟨hc,?_⟩
 rw [List.nodup_iff_pairwise_ne]
 have go:∀ (a b:List Int),Pth f (a++b) c->c ∉ b->b.Pairwise (· ≠ ·):=by
  intro a b
  induction b generalizing a with
  | nil=>intro _ _;exact .nil
  | cons x b ih=>
   intro hp hcb
   have hcb':c ∉ b:=fun m=>hcb (List.mem_cons_of_mem _ m)
   refine List.pairwise_cons.mpr ⟨fun y hy e=>key b.length a b x (Nat.le_refl _) hp (by rw [e];exact hy) hcb',ih (a++[x]) (by simpa using hp) hcb'⟩
 exact go [c] t h hc
def RingL (f:Int->Option Int) (l:List Int):Prop:=Ring f l∧2≤l.length∧∀ x∈l,l.headD 0≤x
def bareB (f:Int->Option Int) (ks l:List Int):Bool:=ks.all fun c=>decide (c∈l) || !(match f c with|some d=>decide (d∈l)|none=>false)
def RingsOf (f:Int->Option Int) (ks:List Int) (L:List (List Int × Bool)):Prop:=L.Pairwise (fun p q=>p.1.headD 0 < q.1.headD 0)∧(∀ p∈L,RingL f p.1∧p.2=bareB f ks p.1)∧∀ l,RingL f l->∃ b,(l,b)∈L
theorem RingL.head_mem {l:List Int}(h:RingL f l):l.headD 0∈l:=by
 obtain ⟨c,t,rfl,_⟩:=h.1
 exact List.mem_cons_self
theorem ringL_eq {l1 l2:List Int}(h1:RingL f l1) (h2:RingL f l2){x:Int}(m1:x∈l1) (m2:x∈l2):l1=l2:=by
 have p:=ring_share h1.1 h2.1 m1 m2
 have a:=h1.2.2 _ (p.mem_iff.mpr h2.head_mem)
 have b:=h2.2.2 _ (p.mem_iff.mp h1.head_mem)
 obtain ⟨c,t,rfl,hc⟩:=id h1.1
 obtain ⟨d,u,rfl,hd⟩:=id h2.1
 have e:c=d:=Int.le_antisymm a b
 subst e
 rw [ring_eq h1.1 h2.1]
theorem strict_eq {α:Type}{lt:α->α->Prop}(hi:∀ a,¬ lt a a) (ht:∀ a b c,lt a b->lt b c->lt a c):∀ {l1 l2:List α},l1.Pairwise lt->l2.Pairwise lt->(∀ x,x∈l1 ↔ x∈l2)->l1=l2
 | [],[],_,_,_=>rfl
 | [],y::l2,_,_,h=>absurd ((h y).mpr List.mem_cons_self) List.not_mem_nil
 | x::l1,[],_,_,h=>absurd ((h x).mp List.mem_cons_self) List.not_mem_nil
 | x::l1,y::l2,h1,h2,h=>by
  obtain ⟨a1,b1⟩:=List.pairwise_cons.mp h1
  obtain ⟨a2,b2⟩:=List.pairwise_cons.mp h2
  have e:x=y:=by
   rcases List.mem_cons.mp ((h x).mp List.mem_cons_self) with e|m
   ·exact e
   ·rcases List.mem_cons.mp ((h y).mpr List.mem_cons_self) with e|m'
    ·exact e.symm
    ·exact absurd (ht _ _ _ (a1 y m') (a2 x m)) (hi x)
  subst e
  refine congrArg _ (strict_eq hi ht b1 b2 fun z=>⟨fun m=>?_,fun m=>?_⟩)
  ·rcases List.mem_cons.mp ((h z).mp (List.mem_cons_of_mem _ m)) with rfl|m'
   ·exact absurd (a1 _ m) (hi _)
   ·exact m'
  ·rcases List.mem_cons.mp ((h z).mpr (List.mem_cons_of_mem _ m)) with rfl|m'
   ·exact absurd (a2 _ m) (hi _)
   ·exact m'
theorem RingsOf.eq {ks:List Int}{L1 L2:List (List Int × Bool)}(h1:RingsOf f ks L1) (h2:RingsOf f ks L2):L1=L2:=by
 refine strict_eq (lt:=fun p q:List Int × Bool=>p.1.headD 0 < q.1.headD 0) (fun _=>Int.lt_irrefl _) (fun _ _ _=>Int.lt_trans) h1.1 h2.1 fun p=>⟨fun m=>?_,fun m=>?_⟩
 ·obtain ⟨a,b⟩:=h1.2.1 p m
  obtain ⟨c,hc⟩:=h2.2.2 p.1 a
  have:=(h2.2.1 _ hc).2
  rw [show p=(p.1,c) from Prod.ext rfl (b.trans this.symm)]
  exact hc
 ·obtain ⟨a,b⟩:=h2.2.1 p m
  obtain ⟨c,hc⟩:=h1.2.2 p.1 a
  have:=(h1.2.1 _ hc).2
  rw [show p=(p.1,c) from Prod.ext rfl (b.trans this.symm)]
  exact hc
structure Srch (f:Int->Option Int) (W:Int->Prop) (Cl:List (List Int)):Prop where
 dom:∀ c,W c->(f c).isSome=true
 clo:∀ c d,W c->f c=some d->(f d).isSome=true->W d
 rng:∀ l∈Cl,RingL f l∧∀ x∈l,W x
 all:∀ l,RingL f l->W (l.headD 0)->l∈Cl
 nd:(Cl.map fun l=>l.headD 0).Nodup
theorem rotL {l:List Int}(h:Ring f l) (h2:2≤l.length){a b:List Int}(e:l=a++b){m:Int}(hm:b.head? = some m) (hl:∀ x∈l,m≤x):RingL f (b++a):=by
 subst e
 refine ⟨h.rot,by rw [List.length_append] at h2 ⊢;omega,fun x hx=>?_⟩
 have hx':x∈a++b:=by rw [List.mem_append] at hx ⊢;exact hx.symm
 have:(b++a).headD 0=m:=by
  cases b with
  | nil=>cases hm
  | cons y b=>cases hm;rfl
 rw [this]
 exact hl x hx'
theorem walk_out {W:Int->Prop}{Cl:List (List Int)}(S:Srch f W Cl){t:List Int}{c:Int}(hp:Pth f t c) (hn:t.Nodup) (hw:∀ x∈t,¬ W x) (hc:c ∉ t) (hs:(f c).isSome=true->W c):Srch f (fun x=>W x∨x∈t) Cl:=by
 have no:∀ l,RingL f l->∀ h∈l,h∈t->False:=by
  intro l hl h hm ht
  obtain ⟨a,b,rfl⟩:=List.append_of_mem ht
  have hq:Pth f (h::b) c:=hp.right
  have go:∀ (u:List Int) (d:Int),Pth f (d::u) c->d∈l->c∈l:=by
   intro u
   induction u with
   | nil=>
    intro d hd hdl
    obtain ⟨e,h1,h2⟩:=hl.1.mem hdl
    rw [show f d=some c from hd] at h1
    cases h1
    exact h2
   | cons z u ih=>
    intro d hd hdl
    obtain ⟨e,h1,h2⟩:=hl.1.mem hdl
    rw [hd.1] at h1
    cases h1
    exact ih _ hd.2 h2
  have hcl:=go b h hq hm
  obtain ⟨d,hd,_⟩:=hl.1.mem hcl
  have hW:=hs (by rw [hd];rfl)
  have:=hl.1.within (S:=W) (fun x d hx hfd hdl=>S.clo x d hx hfd (by obtain ⟨e,h1,_⟩:=hl.1.mem hdl;rw [h1];rfl)) hcl hW h hm
  exact hw h (by simp) this
 refine ⟨fun x hx=>hx.elim (S.dom x) fun hx=>?_,fun x d hx hfd hd=>?_,fun l hl=>⟨(S.rng l hl).1,fun x hx=>.inl ((S.rng l hl).2 x hx)⟩,fun l hl hh=>?_,S.nd⟩
 ·obtain ⟨d,h1,_⟩:=hp.mem hx
  rw [h1];rfl
 ·rcases hx with hx|hx
  ·exact .inl (S.clo x d hx hfd hd)
  ·obtain ⟨e,h1,h2⟩:=hp.mem hx
   rw [hfd] at h1
   cases h1
   rcases h2 with h2|rfl
   ·exact .inr h2
   ·exact .inl (hs hd)
 ·rcases hh with hh|hh
  ·exact S.all l hl hh
  ·exact (no l hl _ hl.head_mem hh).elim
theorem walk_ring {W:Int->Prop}{Cl:List (List Int)}(S:Srch f W Cl){a b:List Int}{c:Int}(hp:Pth f (a++c::b) c) (hn:(a++c::b).Nodup) (hw:∀ x∈a++c::b,¬ W x) :
  Ring f (c::b)∧(b=[]->Srch f (fun x=>W x∨x∈a++c::b) Cl)∧∀ l,RingL f l->l.Perm (c::b)->Srch f (fun x=>W x∨x∈a++c::b) (Cl++[l]):=by
 have hr:Ring f (c::b):=⟨c,b,rfl,hp.right,(List.nodup_append.mp hn).2.1⟩
 have dom:∀ x,(W x∨x∈a++c::b)->(f x).isSome=true:=fun x hx=>hx.elim (S.dom x) fun hx=>by
  obtain ⟨d,h1,_⟩:=hp.mem hx
  rw [h1];rfl
 have clo:∀ x d,(W x∨x∈a++c::b)->f x=some d->(f d).isSome=true->(W d∨d∈a++c::b):=by
  intro x d hx hfd hd
  rcases hx with hx|hx
  ·exact .inl (S.clo x d hx hfd hd)
  ·obtain ⟨e,h1,h2⟩:=hp.mem hx
   rw [hfd] at h1
   cases h1
   rcases h2 with h2|rfl
   ·exact .inr h2
   ·exact .inr (by simp)
 have same:∀ l,RingL f l->∀ h∈l,h∈a++c::b->c∈l:=by
  intro l hl h hm ht
  obtain ⟨u,v,e⟩:=List.append_of_mem ht
  have hq:Pth f (h::v) c:=by rw [e] at hp;exact hp.right
  have go:∀ (u:List Int) (d:Int),Pth f (d::u) c->d∈l->c∈l:=by
   intro u
   induction u with
   | nil=>
    intro d hd hdl
    obtain ⟨e,h1,h2⟩:=hl.1.mem hdl
    rw [show f d=some c from hd] at h1
    cases h1
    exact h2
   | cons z u ih=>
    intro d hd hdl
    obtain ⟨e,h1,h2⟩:=hl.1.mem hdl
    rw [hd.1] at h1
    cases h1
    exact ih _ hd.2 h2
  exact go v h hq hm
 refine ⟨hr,fun hb=>⟨dom,clo,fun l hl=>⟨(S.rng l hl).1,fun x hx=>.inl ((S.rng l hl).2 x hx)⟩,fun l hl hh=>?_,S.nd⟩,fun l hl hlp=>⟨dom,clo,fun l' hl'=>?_,fun l' hl' hh=>?_,?_⟩⟩
 ·rcases hh with hh|hh
  ·exact S.all l hl hh
  ·have hc:=same l hl _ hl.head_mem hh
   have p:=ring_share hl.1 hr hc List.mem_cons_self
   have:=p.length_eq
   rw [hb] at this
   have:=hl.2.1
   simp at *
   omega
 ·rcases List.mem_append.mp hl' with hl'|hl'
  ·exact ⟨(S.rng l' hl').1,fun x hx=>.inl ((S.rng l' hl').2 x hx)⟩
  ·rw [List.mem_singleton.mp hl']
   exact ⟨hl,fun x hx=>.inr (List.mem_append_right _ (hlp.mem_iff.mp hx))⟩
 ·rcases hh with hh|hh
  ·exact List.mem_append_left _ (S.all l' hl' hh)
  ·have hc:=same l' hl' _ hl'.head_mem hh
   rw [ringL_eq hl' hl hc (hlp.mem_iff.mpr List.mem_cons_self)]
   exact List.mem_append_right _ List.mem_cons_self
 ·rw [List.map_append,List.nodup_append]
  refine ⟨S.nd,List.nodup_cons.mpr ⟨List.not_mem_nil,List.nodup_nil⟩,fun x hx y hy e=>?_⟩
  obtain ⟨l',hl',rfl⟩:=List.mem_map.mp hx
  rw [List.map_cons,List.map_nil,List.mem_singleton] at hy
  subst hy
  have h1:=(S.rng l' hl').2 _ (S.rng l' hl').1.head_mem
  rw [e] at h1
  exact hw _ (List.mem_append_right _ (hlp.mem_iff.mp hl.head_mem)) h1
end
end PH
set_option Elab.async false
set_option linter.all false
set_option maxRecDepth 100000
set_option maxHeartbeats 4000000
namespace PH
open PySem L2
def top (i:Nat):Stmt:=PySem.Challenge.pw_pacehall_k66_whole_fewest_rows.main.body.getD i (.Pass ⟨0,0,0,0⟩)
abbrev s_ring_from:Stmt:=top 1
theorem c_ring_from:FnScope ["found", "start", "walked", "trail", "cell"] ["found", "start", "walked"] (defScope s_ring_from):=⟨rfl,rfl,rfl,by decide +kernel,rfl,by decide +kernel,by decide +kernel⟩
abbrev s_least_first:Stmt:=top 2
theorem c_least_first:FnScope ["ring", "at"] ["ring"] (defScope s_least_first):=⟨rfl,rfl,rfl,by decide +kernel,rfl,by decide +kernel,by decide +kernel⟩
abbrev s_drawn_from_beyond:Stmt:=top 3
theorem c_drawn_from_beyond:FnScope ["found", "ring_of", "drawn", "cell", "origin"] ["found", "ring_of"] (defScope s_drawn_from_beyond):=⟨rfl,rfl,rfl,by decide +kernel,rfl,by decide +kernel,by decide +kernel⟩
abbrev s_rings:Stmt:=top 4
theorem c_rings:FnScope ["found", "walked", "ring_of", "closed", "start", "ring", "cell", "drawn", "told"] ["found"] (defScope s_rings):=⟨rfl,rfl,rfl,by decide +kernel,rfl,by decide +kernel,by decide +kernel⟩
abbrev s_first_cell:Stmt:=top 5
theorem c_first_cell:FnScope ["ring"] ["ring"] (defScope s_first_cell):=⟨rfl,rfl,rfl,by decide +kernel,rfl,by decide +kernel,by decide +kernel⟩
abbrev s_readers_of:Stmt:=top 8
theorem c_readers_of:FnScope ["found", "readers", "cell", "origin"] ["found"] (defScope s_readers_of):=⟨rfl,rfl,rfl,by decide +kernel,rfl,by decide +kernel,by decide +kernel⟩
abbrev s_rows_beside_rings:Stmt:=top 9
theorem c_rows_beside_rings:FnScope ["found", "readers", "free", "rows", "cell", "origin"] ["found"] (defScope s_rows_beside_rings):=⟨rfl,rfl,rfl,by decide +kernel,rfl,by decide +kernel,by decide +kernel⟩
abbrev s_rows_round:Stmt:=top 10
theorem c_rows_round:FnScope ["ring", "elsewhere", "rows", "cell", "origin"] ["ring", "elsewhere"] (defScope s_rows_round):=⟨rfl,rfl,rfl,by decide +kernel,rfl,by decide +kernel,by decide +kernel⟩
abbrev s_rows_for:Stmt:=top 11
theorem c_rows_for:FnScope ["found", "rows", "kept", "origin", "cell", "ring", "bare", "at"] ["found"] (defScope s_rows_for):=⟨rfl,rfl,rfl,by decide +kernel,rfl,by decide +kernel,by decide +kernel⟩
abbrev s__law_draw:Stmt:=top 13
theorem c__law_draw:FnScope ["_law_script", "_law_k", "_law_many", "_law_number", "_law_cell"] ["_law_script", "_law_k", "_law_many"] (defScope s__law_draw):=⟨rfl,rfl,rfl,by decide +kernel,rfl,by decide +kernel,by decide +kernel⟩
abbrev s__law_names:Stmt:=top 14
theorem c__law_names:FnScope ["_law_script", "_law_by", "_law_first", "_law_apart"] ["_law_script"] (defScope s__law_names):=⟨rfl,rfl,rfl,by decide +kernel,rfl,by decide +kernel,by decide +kernel⟩
abbrev s__law_blocks:Stmt:=top 15
theorem c__law_blocks:FnScope ["_law_script", "_law_many", "_law_found_here", "_law_begin", "_law_end", "_law_k"] ["_law_script", "_law_many"] (defScope s__law_blocks):=⟨rfl,rfl,rfl,by decide +kernel,rfl,by decide +kernel,by decide +kernel⟩
abbrev s__law_found:Stmt:=top 16
theorem c__law_found:FnScope ["_law_script", "_law_many", "_law_way", "_law_order", "_law_found_here", "_law_k", "_law_names_here", "_law_told"] ["_law_script"] (defScope s__law_found):=⟨rfl,rfl,rfl,by decide +kernel,rfl,by decide +kernel,by decide +kernel⟩
abbrev s__law_rings:Stmt:=top 17
theorem c__law_rings:FnScope ["_law_found_here", "_law_told", "_law_cell", "_law_ring", "_law_here"] ["_law_found_here"] (defScope s__law_rings):=⟨rfl,rfl,rfl,by decide +kernel,rfl,by decide +kernel,by decide +kernel⟩
abbrev s__law_long:Stmt:=top 18
theorem c__law_long:FnScope ["_law_script", "_law_many", "_law_found_here", "_law_k", "_law_way", "_law_turned"] ["_law_script"] (defScope s__law_long):=⟨rfl,rfl,rfl,by decide +kernel,rfl,by decide +kernel,by decide +kernel⟩
abbrev s__law_run:Stmt:=top 19
theorem c__law_run:FnScope ["_law_rows", "_law_held", "_law_first", "_law_last"] ["_law_rows", "_law_held"] (defScope s__law_run):=⟨rfl,rfl,rfl,by decide +kernel,rfl,by decide +kernel,by decide +kernel⟩
abbrev s__law_leave:Stmt:=top 20
theorem c__law_leave:FnScope ["_law_rows", "_law_found_here", "_law_held", "_law_cell"] ["_law_rows", "_law_found_here"] (defScope s__law_leave):=⟨rfl,rfl,rfl,by decide +kernel,rfl,by decide +kernel,by decide +kernel⟩
abbrev s__law_few:Stmt:=top 21
theorem c__law_few:FnScope ["_law_script", "_law_found_here", "_law_cell", "_law_k"] ["_law_script"] (defScope s__law_few):=⟨rfl,rfl,rfl,by decide +kernel,rfl,by decide +kernel,by decide +kernel⟩
abbrev s__law_steps:Stmt:=top 22
theorem c__law_steps:FnScope ["_law_state", "_law_found_here", "_law_first", "_law_last"] ["_law_state"] (defScope s__law_steps):=⟨rfl,rfl,rfl,by decide +kernel,rfl,by decide +kernel,by decide +kernel⟩
abbrev s__law_least:Stmt:=top 23
theorem c__law_least:FnScope ["_law_found_here", "_law_due", "_law_states", "_law_seen", "_law_many", "_law_more", "_law_state", "_law_other"] ["_law_found_here"] (defScope s__law_least):=⟨rfl,rfl,rfl,by decide +kernel,rfl,by decide +kernel,by decide +kernel⟩
abbrev s_law:Stmt:=top 24
theorem c_law:FnScope ["_law_script", "_law_found_here", "_law_rows", "_law_bare", "_law_many", "_law_few_here"] ["_law_script"] (defScope s_law):=⟨rfl,rfl,rfl,by decide +kernel,rfl,by decide +kernel,by decide +kernel⟩
set_option genInjectivity false in
structure Adr where
 a_ring_from:Addr
 d_ring_from:FuncData
 a_least_first:Addr
 d_least_first:FuncData
 a_drawn_from_beyond:Addr
 d_drawn_from_beyond:FuncData
 a_rings:Addr
 d_rings:FuncData
 a_first_cell:Addr
 d_first_cell:FuncData
 a_readers_of:Addr
 d_readers_of:FuncData
 a_rows_beside_rings:Addr
 d_rows_beside_rings:FuncData
 a_rows_round:Addr
 d_rows_round:FuncData
 a_rows_for:Addr
 d_rows_for:FuncData
 a__law_draw:Addr
 d__law_draw:FuncData
 a__law_names:Addr
 d__law_names:FuncData
 a__law_blocks:Addr
 d__law_blocks:FuncData
 a__law_found:Addr
 d__law_found:FuncData
 a__law_rings:Addr
 d__law_rings:FuncData
 a__law_long:Addr
 d__law_long:FuncData
 a__law_run:Addr
 d__law_run:FuncData
 a__law_leave:Addr
 d__law_leave:FuncData
 a__law_few:Addr
 d__law_few:FuncData
 a__law_steps:Addr
 d__law_steps:FuncData
 a__law_least:Addr
 d__law_least:FuncData
 a_law:Addr
 d_law:FuncData
structure Tx (K:PySem.W.Frag) (mg:Str->Option Value) (t:Adr):Prop where
 m_SPARE:∃ tk,mg "SPARE"=some (.int (-1) tk)
 F_ring_from:Fun K "ring_from" "ring_from" s_ring_from t.a_ring_from t.d_ring_from
 m_ring_from:mg "ring_from"=some (.ref t.a_ring_from)
 b_ring_from:Binds K t.d_ring_from ["found", "start", "walked"] []
 F_least_first:Fun K "least_first" "least_first" s_least_first t.a_least_first t.d_least_first
 m_least_first:mg "least_first"=some (.ref t.a_least_first)
 b_least_first:Binds K t.d_least_first ["ring"] []
 F_drawn_from_beyond:Fun K "drawn_from_beyond" "drawn_from_beyond" s_drawn_from_beyond t.a_drawn_from_beyond t.d_drawn_from_beyond
 m_drawn_from_beyond:mg "drawn_from_beyond"=some (.ref t.a_drawn_from_beyond)
 b_drawn_from_beyond:Binds K t.d_drawn_from_beyond ["found", "ring_of"] []
 F_rings:Fun K "rings" "rings" s_rings t.a_rings t.d_rings
 m_rings:mg "rings"=some (.ref t.a_rings)
 b_rings:Binds K t.d_rings ["found"] []
 F_first_cell:Fun K "first_cell" "first_cell" s_first_cell t.a_first_cell t.d_first_cell
 m_first_cell:mg "first_cell"=some (.ref t.a_first_cell)
 b_first_cell:Binds K t.d_first_cell ["ring"] []
 F_readers_of:Fun K "readers_of" "readers_of" s_readers_of t.a_readers_of t.d_readers_of
 m_readers_of:mg "readers_of"=some (.ref t.a_readers_of)
 b_readers_of:Binds K t.d_readers_of ["found"] []
 F_rows_beside_rings:Fun K "rows_beside_rings" "rows_beside_rings" s_rows_beside_rings t.a_rows_beside_rings t.d_rows_beside_rings
 m_rows_beside_rings:mg "rows_beside_rings"=some (.ref t.a_rows_beside_rings)
 b_rows_beside_rings:Binds K t.d_rows_beside_rings ["found"] []
 F_rows_round:Fun K "rows_round" "rows_round" s_rows_round t.a_rows_round t.d_rows_round
 m_rows_round:mg "rows_round"=some (.ref t.a_rows_round)
 b_rows_round:Binds K t.d_rows_round ["ring", "elsewhere"] []
 F_rows_for:Fun K "rows_for" "rows_for" s_rows_for t.a_rows_for t.d_rows_for
 m_rows_for:mg "rows_for"=some (.ref t.a_rows_for)
 b_rows_for:Binds K t.d_rows_for ["found"] []
 F__law_draw:Fun K "_law_draw" "_law_draw" s__law_draw t.a__law_draw t.d__law_draw
 m__law_draw:mg "_law_draw"=some (.ref t.a__law_draw)
 b__law_draw:Binds K t.d__law_draw ["_law_script", "_law_k", "_law_many"] []
 F__law_names:Fun K "_law_names" "_law_names" s__law_names t.a__law_names t.d__law_names
 m__law_names:mg "_law_names"=some (.ref t.a__law_names)
 b__law_names:Binds K t.d__law_names ["_law_script"] []
 F__law_blocks:Fun K "_law_blocks" "_law_blocks" s__law_blocks t.a__law_blocks t.d__law_blocks
 m__law_blocks:mg "_law_blocks"=some (.ref t.a__law_blocks)
 b__law_blocks:Binds K t.d__law_blocks ["_law_script", "_law_many"] []
 F__law_found:Fun K "_law_found" "_law_found" s__law_found t.a__law_found t.d__law_found
 m__law_found:mg "_law_found"=some (.ref t.a__law_found)
 b__law_found:Binds K t.d__law_found ["_law_script"] []
 F__law_rings:Fun K "_law_rings" "_law_rings" s__law_rings t.a__law_rings t.d__law_rings
 m__law_rings:mg "_law_rings"=some (.ref t.a__law_rings)
 b__law_rings:Binds K t.d__law_rings ["_law_found_here"] []
 F__law_long:Fun K "_law_long" "_law_long" s__law_long t.a__law_long t.d__law_long
 m__law_long:mg "_law_long"=some (.ref t.a__law_long)
 b__law_long:Binds K t.d__law_long ["_law_script"] []
 F__law_run:Fun K "_law_run" "_law_run" s__law_run t.a__law_run t.d__law_run
 m__law_run:mg "_law_run"=some (.ref t.a__law_run)
 b__law_run:Binds K t.d__law_run ["_law_rows", "_law_held"] []
 F__law_leave:Fun K "_law_leave" "_law_leave" s__law_leave t.a__law_leave t.d__law_leave
 m__law_leave:mg "_law_leave"=some (.ref t.a__law_leave)
 b__law_leave:Binds K t.d__law_leave ["_law_rows", "_law_found_here"] []
 F__law_few:Fun K "_law_few" "_law_few" s__law_few t.a__law_few t.d__law_few
 m__law_few:mg "_law_few"=some (.ref t.a__law_few)
 b__law_few:Binds K t.d__law_few ["_law_script"] []
 F__law_steps:Fun K "_law_steps" "_law_steps" s__law_steps t.a__law_steps t.d__law_steps
 m__law_steps:mg "_law_steps"=some (.ref t.a__law_steps)
 b__law_steps:Binds K t.d__law_steps ["_law_state"] []
 F__law_least:Fun K "_law_least" "_law_least" s__law_least t.a__law_least t.d__law_least
 m__law_least:mg "_law_least"=some (.ref t.a__law_least)
 b__law_least:Binds K t.d__law_least ["_law_found_here"] []
 F_law:Fun K "law" "law" s_law t.a_law t.d_law
 m_law:mg "law"=some (.ref t.a_law)
 b_law:Binds K t.d_law ["_law_script"] []
 z_any:mg "any"=none
 z_dict:mg "dict"=none
 z_int:mg "int"=none
 z_len:mg "len"=none
 z_list:mg "list"=none
 z_min:mg "min"=none
 z_range:mg "range"=none
 z_sorted:mg "sorted"=none
 z_tuple:mg "tuple"=none
 z_zip:mg "zip"=none
local macro_rules | `(tactic| trivial) => `(tactic| first | exact Or.inl rfl | exact Or.inr rfl | exact Or.inr (Or.inl rfl) | exact Or.inr (Or.inr rfl) | assumption)
local macro_rules | `(tactic| simp! only [$xs,*]) => do
  let ys := xs.getElems.map fun x => (⟨x.raw⟩ : Lean.TSyntax `Lean.Parser.Tactic.simpLemma)
  let zs ← ("↓reduceIte ↓optK_some ↓gName_0 ↓gName_1 ↓gName_2 ↓gName_3 ↓gName_4 ↓gName_5 ↓gName_6 ↓gName_7 ↓gName_8 ↓m_kOp' ↓m_kOp ↓m_tOp ↓m_tC ↓m_kUn ↓m_tUn ↓m_kNot ↓m_tNot ↓m_kAnd ↓m_tAnd ↓m_kOr ↓m_tOr ↓m_tNil ↓m_kCons' ↓m_kCons ↓m_tCons ↓m_kCall_1 ↓m_kCall_2 ↓m_kCall_3 ↓m_tCall ↓m_kCB ↓m_tCB ↓m_tNext ↓m_tSeq ↓m_tRet ↓m_kDrop ↓m_tDrop ↓m_kIfS ↓m_tIfS ↓m_kAsg ↓m_tAsg ↓m_kGs ↓m_kLen ↓m_qLen ↓m_kIx' ↓m_kIx ↓m_qIx ↓m_qMin ↓m_kBM' ↓m_kBM ↓m_tBM ↓m_kBM0 ↓m_tBM0 ↓m_kApp ↓m_rAppend ↓m_kGT ↓m_qGT ↓m_kBody ↓m_tFor ↓m_kR1 ↓m_iRng1 ↓m_kR2 ↓m_iRng2 ↓m_kISq'_l ↓m_kISq ↓m_iSeq ↓m_kWh ↓m_tYes ↓m_tComp ↓m_kSetC ↓m_tSetC ↓m_datV ↓m_datF_int ↓m_datF_ref ↓m_datO_lst ↓m_datO_tup ↓m_allSome_nil ↓m_allSome_cons ↓m_kEq2_t ↓m_kEq2_f ↓m_kEq1 ↓m_qEq_refr ↓m_qNe_non_int ↓m_qEq_int_int ↓m_qNe_int_int ↓m_kInts ↓m_kSl3 ↓m_kSl2 ↓m_kSl1 ↓m_tSl ↓m_tNoPart ↓m_kPart ↓m_tPart ↓m_kQT ↓m_kQL ↓m_qTup ↓m_qLst ↓m_kNT_l ↓m_nTuple ↓m_kNC2 ↓m_kNC1 ↓m_nCat ↓m_kNS ↓m_nSl ↓m_nDNew ↓m_kBls ↓m_kZ2_l ↓m_kZ1_l ↓m_kZ0 ↓m_iZip ↓m_kCm2 ↓m_kCm_1 ↓m_kCm_2 ↓m_rep_1 ↓m_rep_2 ↓m_kCT1 ↓m_nCatT ↓m_qInt_b ↓m_qMinL ↓m_kExt2 ↓m_kExt1 ↓m_rExtend ↓m_kDG0 ↓m_tDGet ↓m_kDP1 ↓m_kDP0 ↓m_sDPut ↓m_tV_0 ↓m_tV_1 ↓m_tV_2 ↓m_tV_3 ↓m_tV_4 ↓m_tV_5 ↓m_tV_6 ↓m_tV_7 ↓m_tV_8 ↓m_tV_9 ↓m_nI0 ↓m_nI ↓m_nU ↓m_kTestN ↓m_nTest ↓m_kAndN ↓m_nAndV ↓m_kNotN ↓m_nNotV ↓m_gNilN ↓m_gConsN ↓m_nSlT ↓m_iDict ↓m_nThaw ↓m_tDGet1 ↓m_kGE1 ↓m_tDGet2 ↓m_kBK1 ↓m_kBK0 ↓m_tCBK ↓m_kAnyB ↓m_qAny ↓m_kIdxB ↓m_nIdxB ↓m_sThaw ↓m_iItems ↓m_kDT1 ↓m_kDT0 ↓m_nDispT optK_some itemsAt lstAt tupAt seqO_lst seqO_tup lstO_lst tupO_tup bind_some' upd_same tyV_list cx_K atI_0 atI_1 eqv_tuple eqv_list eqvAll_nil eqvAll_l eqvAll_ints allSome_ints CDiv_eq CPow_10 Option.isSome_some Option.isSome_none Option.map_some List.length_cons List.length_nil List.length_map List.map_cons List.map_nil and_true true_and and_self implies_true reduceCtorEq decide_true decide_false Bool.not_true Bool.not_false if_true if_false decide_eq_true_eq Bool.false_eq_true Bool.not_eq_true' decide_eq_false_iff_not Bool.and_true Bool.true_and Bool.and_self Bool.and_eq_true Int.reduceToNat Int.reducePow Int.reduceMul Int.reduceAdd Int.reduceSub Int.reduceNeg Int.reduceLT Int.reduceLE Int.reduceEq Int.reduceNe Int.reduceDiv Int.reduceMod Nat.reduceAdd Nat.reduceLeDiff Nat.reduceLT Nat.reduceMul Nat.reducePow gt_iff_lt ge_iff_le ne_eq false_implies true_implies eq_self String.reduceEq Int.cast_ofNat_Int not_true_eq_false not_false_eq_true false_and and_false List.cons_append List.nil_append List.append_nil lenLe".splitOn " ").toArray.mapM fun s => if s.startsWith "↓" then `(Lean.Parser.Tactic.simpLemma| ↓ $(Lean.mkIdent (s.replace "↓" "").toName):ident) else `(Lean.Parser.Tactic.simpLemma| $(Lean.mkIdent s.toName):ident)
  `(tactic| simp (config := { failIfUnchanged := false, maxDischargeDepth := 30, maxSteps := 10000000 }) only [$zs,*, $ys,*, *])
section
variable {P:Program}{w:World}{K:PySem.W.Frag}{mg:Str->Option Value}{base:Heap}{t:Adr}
def drawF (ns:List Int) (k m:Int):Int:=(if k < (ns.length:Int) then ns.getD k.toNat 0 else (if 0 < (ns.length:Int) then ns.getD (k % (ns.length:Int)).toNat 0 % 999999937 * (48271+2 * k * k)+k * 69621 else k * k * 7919+104729) % 2147483647 * 16807 % 2147483629) % m
theorem getD_at {ns:List Int}{k z:Int}(h0:0≤k) (h1:k < (ns.length:Int)) (hz:atI (ns.map V.int) k=some (.int z)):ns.getD k.toNat 0=z:=by
 obtain ⟨n,rfl⟩:=Int.eq_ofNat_of_zero_le h0
 have hn:n < ns.length:=by omega
 have e:atI (ns.map V.int) (n:Int)=some (.int ns[n]):=atI_nat (by rw [List.getElem?_map,List.getElem?_eq_getElem hn];rfl)
 rw [hz] at e
 have e2:=Option.some.inj e
 simp only [V.int.injEq] at e2
 rw [Int.toNat_natCast,List.getD_eq_getElem?_getD,List.getElem?_eq_getElem hn,e2]
 rfl
theorem drawF_1 {ns:List Int}{k m z:Int}(h0:0≤k) (h1:k < (ns.length:Int)) (hz:atI (ns.map V.int) k=some (.int z)):drawF ns k m=z % m:=by
 unfold drawF
 rw [if_pos h1,getD_at h0 h1 hz]
theorem drawF_2 {ns:List Int}{k m z:Int}(h1:¬ k < (ns.length:Int)) (h2:0 < (ns.length:Int)) (hz:atI (ns.map V.int) (k % (ns.length:Int))=some (.int z)):drawF ns k m=(z % 999999937 * (48271+2 * k * k)+k * 69621) % 2147483647 * 16807 % 2147483629 % m:=by
 unfold drawF
 rw [if_neg h1,if_pos h2,getD_at (Int.emod_nonneg _ (by omega)) (Int.emod_lt_of_pos _ h2) hz]
theorem drawF_3 {ns:List Int}{k m:Int}(h1:¬ k < (ns.length:Int)) (h2:¬ 0 < (ns.length:Int)):drawF ns k m=(k * k * 7919+104729) % 2147483647 * 16807 % 2147483629 % m:=by
 unfold drawF
 rw [if_neg h1,if_neg h2]
def spDrawX (K:PySem.W.Frag) (a:Addr) (ns:List Int):Sp:=fun vs H Q E=>∃ (k:Int) (m:Int),vs=[.ref a,.int k,.int m]∧(SqL K H a (ns.map V.int)∧ns.length≤63∧(0≤k∧k < 1000)∧0 < m∧Q (.int (drawF ns k m)) H)
theorem c_spDrawX (K:PySem.W.Frag) (a:Addr) (ns:List Int) (k:Int) (m:Int) (H:Hp) (Q:VK) (E:XK):spDrawX K a ns [.ref a,.int k,.int m] H Q E=(SqL K H a (ns.map V.int)∧ns.length≤63∧(0≤k∧k < 1000)∧0 < m∧Q (.int (drawF ns k m)) H):=spx2 (f:=fun (k:Int) (m:Int)=>[.ref a,.int k,.int m]) (fun _ _ _ _ h=>by cases h;exact ⟨rfl,rfl⟩) k m
theorem l_spDrawX (K:PySem.W.Frag) (a:Addr) (ns:List Int){vs:List V}{H:Hp}{Q:VK}{E:XK}(h:spDrawX K a ns vs H Q E):vs.length=3:=spl2 h fun _ _=>rfl
theorem okx__law_draw (T:Tx K mg t) (a:Addr) (ns:List Int):FnOk P w K mg base CX0 1 t.a__law_draw t.d__law_draw ["_law_script", "_law_k", "_law_many"] (spDrawX K a ns):=by
 refine T.F__law_draw.ok c__law_draw (fun vs H Q E h=>l_spDrawX _ _ _ h) (fun cdv A outer s H vs Q E hr h=>?_)
 ·obtain ⟨k,m,rfl,hS,hl,⟨hk0,hk1⟩,hm,kk⟩:=h
  refine ⟨_,(pss_cons (ps_if (pt_cmpR op_lt (pv 1) (pe_callB (id := "len") call_len_seq (by rfl) T.z_len (by decide +kernel) (pa_c (pv 0) pa_nil)) (nomark _))
   (pss_one (ps_ret (pe_op op_mod (pe_ix ix_list (pv 0) (pv 1) (fun _ _=>rfl)) (pv 2))))
   pss_nil)
  (pss_cons (ps_set (i:=3) c__law_draw.nd rfl (Or.inl rfl) (pe_op op_add (pe_op op_mul (pe_op op_mul (pv 1) (pv 1)) pe_int) pe_int))
  (pss_cons (ps_if (pt_cmpR op_gt (pe_callB (id := "len") call_len_seq (by rfl) T.z_len (by decide +kernel) (pa_c (pv 0) pa_nil)) pe_int (nomark _))
   (pss_cons (ps_set (i:=4) c__law_draw.nd rfl (Or.inl rfl) (pe_op op_mod (pe_ix ix_list (pv 0) (pe_op op_mod (pv 1) (pe_callB (id := "len") call_len_seq (by rfl) T.z_len (by decide +kernel) (pa_c (pv 0) pa_nil))) (fun _ _=>rfl)) pe_int))
   (pss_one (ps_set (i:=3) c__law_draw.nd rfl (Or.inl rfl) (pe_op op_add (pe_op op_mul (pv 4) (pe_op op_add pe_int (pe_op op_mul (pe_op op_mul pe_int (pv 1)) (pv 1)))) (pe_op op_mul (pv 1) pe_int)))))
   pss_nil)
  (pss_one (ps_ret (pe_op op_mod (pe_op op_mod (pe_op op_mul (pe_op op_mod (pv 3) pe_int) pe_int) pe_int) (pv 2))))))),?_⟩
  refine ⟨_,rfl,_,rfl,a,_,rfl,.inl hS,_,_,rfl,rfl,_,rfl,?_⟩
  refine ite2 (fun h=>?_) (fun h=>?_)
  ·have h1:k < (ns.length:Int):=by simpa using h
   obtain ⟨z,hz,_⟩:=atI_ints ns k hk0 h1
   exact ⟨_,rfl,_,rfl,a,_,k,_,rfl,rfl,hS,hz,_,rfl,_,_,rfl,rfl,hm,by rw [drawF_1 hk0 h1 hz] at kk;exact kk⟩
  ·have h1:¬ k < (ns.length:Int):=by simpa using h
   refine ⟨_,rfl,_,rfl,_,_,rfl,rfl,.inl ⟨by omega,by omega⟩,_,_,rfl,rfl,.inr ⟨by decide,by decide⟩,_,_,rfl,rfl,?_⟩
   refine ⟨_,rfl,a,_,rfl,.inl hS,_,_,rfl,rfl,_,rfl,?_⟩
   refine ite2 (fun h2=>?_) (fun h2=>?_)
   ·have h3:0 < (ns.length:Int):=by simpa using h2
    have h4:(0:Int) < ((ns.map V.int).length:Int):=by simpa using h3
    obtain ⟨z,hz,_⟩:=atI_ints ns (k % ((ns.map V.int).length:Int)) (Int.emod_nonneg _ (by omega)) (by have:=Int.emod_lt_of_pos k h4;simpa using this)
    refine ⟨_,rfl,_,rfl,_,rfl,a,_,rfl,.inl hS,_,_,rfl,rfl,h4,a,_,_,_,rfl,rfl,hS,hz,_,_,rfl,rfl,(by first|decide|(show (0:Int) < _;decide)),?_⟩
    refine ⟨_,rfl,_,rfl,_,_,rfl,rfl,.inl ⟨by decide,by decide⟩,_,rfl,_,_,rfl,rfl,.inr ⟨by omega,by omega⟩,_,_,rfl,rfl,_,_,rfl,rfl,?_,?_⟩
    ·refine .inl ⟨?_,?_⟩
     ·have:=Int.emod_nonneg z (show (999999937:Int) ≠ 0 by decide);omega
     ·have:=Int.emod_lt_of_pos z (show (0:Int) < 999999937 by decide);omega
    refine ⟨_,rfl,_,_,rfl,rfl,.inr ⟨by decide,by decide⟩,_,_,rfl,rfl,?_⟩
    exact ⟨_,rfl,_,_,rfl,rfl,(by first|decide|(show (0:Int) < _;decide)),_,_,rfl,rfl,.inr ⟨by decide,by decide⟩,_,_,rfl,rfl,(by first|decide|(show (0:Int) < _;decide)),_,rfl,_,_,rfl,rfl,hm,by rw [drawF_2 h1 h3 (show atI (ns.map V.int) (k % (ns.length:Int))=some (.int z) by rw [←hz,List.length_map])] at kk;exact kk⟩
   ·exact ⟨_,rfl,_,_,rfl,rfl,(by first|decide|(show (0:Int) < _;decide)),_,_,rfl,rfl,.inr ⟨by decide,by decide⟩,_,_,rfl,rfl,(by first|decide|(show (0:Int) < _;decide)),_,rfl,_,_,rfl,rfl,hm,by rw [drawF_3 h1 (show ¬ (0:Int) < (ns.length:Int) by simpa using h2)] at kk;exact kk⟩
def spDraw (K:PySem.W.Frag) (a:Addr) (ns:List Int):Sp:=fun vs H Q E=>∃ (k:Int) (m:Int),vs=[.ref a,.int k,.int m]∧(SqL K H a (ns.map V.int)∧ns.length≤63∧(0≤k∧k < 1000)∧0 < m∧∀ z:Int,0≤z->z < m->Q (.int z) H)
theorem c_spDraw (K:PySem.W.Frag) (a:Addr) (ns:List Int) (k:Int) (m:Int) (H:Hp) (Q:VK) (E:XK):spDraw K a ns [.ref a,.int k,.int m] H Q E=(SqL K H a (ns.map V.int)∧ns.length≤63∧(0≤k∧k < 1000)∧0 < m∧∀ z:Int,0≤z->z < m->Q (.int z) H):=spx2 (f:=fun (k:Int) (m:Int)=>[.ref a,.int k,.int m]) (fun _ _ _ _ h=>by cases h;exact ⟨rfl,rfl⟩) k m
theorem ok__law_draw (T:Tx K mg t) (a:Addr) (ns:List Int):FnOk P w K mg base CX0 1 t.a__law_draw t.d__law_draw ["_law_script", "_law_k", "_law_many"] (spDraw K a ns):=(okx__law_draw (P:=P) (w:=w) (base:=base) T a ns).imp fun vs H Q E h=>by
 obtain ⟨k,m,e,hS,hl,hk,hm,kk⟩:=h
 exact ⟨k,m,e,hS,hl,hk,hm,kk _ (show 0≤drawF ns k m from Int.emod_nonneg _ (by omega)) (show drawF ns k m < m from Int.emod_lt_of_pos _ hm)⟩
abbrev B_spFC  (p:Addr) (H:Hp) (Q:VK) (E:XK):Prop:=∃ (l:Addr) (b:V) (c:Int) (cs:List V),H p=some (.tup [.ref l,b])∧H l=some (.lst (.int c::cs))∧Q (.int c) H
def spFC  : Sp:=fun vs H Q E=>∃ (p:Addr),vs=[.ref p]∧(B_spFC  p H Q E)
theorem c_spFC  (p:Addr) (H:Hp) (Q:VK) (E:XK):spFC  [.ref p] H Q E=(B_spFC  p H Q E):=spx1 (f:=fun (p:Addr)=>[.ref p]) (fun _ _ h=>by cases h;exact rfl) p
theorem l_spFC  {vs:List V}{H:Hp}{Q:VK}{E:XK}(h:spFC  vs H Q E):vs.length=1:=spl1 h fun _=>rfl
theorem ok_first_cell (T:Tx K mg t):FnOk P w K mg base CX0 1 t.a_first_cell t.d_first_cell ["ring"] spFC:=by
 refine T.F_first_cell.ok c_first_cell (fun vs H Q E h=>l_spFC h) (fun cdv A outer s' H vs Q E hr h=>?_)
 ·obtain ⟨p,rfl,l,b,c,cs,hp,hl,k⟩:=h
  refine ⟨_,(@pss_one _ _ _ (@ps_ret _ _ _ _ (@pe_ix _ _ _ _ _ _ _ ix_q (@pe_ix _ _ _ _ _ _ _ ix_q (@pvN _ 0 _ _ (by rfl) (by trivial) (by decide) (by decide)) (@pe_int _ _ _ _) (fun _ _=>rfl)) (@pe_int _ _ _ _) (fun _ _=>rfl)))),?_⟩
  rw [show start ["ring"] [.ref p]=[some (.ref p)] from rfl]
  simp! only [and_true]
theorem split_first:∀ {l:List Int}{c:Int},c∈l->∃ a b,l=a++c::b∧c ∉ a
 | x::l,c,h=>by
  by_cases e:x=c
  ·exact ⟨[],l,by rw [e];rfl,List.not_mem_nil⟩
  ·rcases List.mem_cons.mp h with h|h
   ·exact absurd h.symm e
   ·obtain ⟨a,b,rfl,hn⟩:=split_first h
    exact ⟨x::a,b,rfl,fun m=>(List.mem_cons.mp m).elim (fun z=>e z.symm) hn⟩
abbrev B_spLF  (l:Addr) (H:Hp) (Q:VK) (E:XK):Prop:=∃ ns:List Int,H l=some (.lst (ns.map V.int))∧ns ≠ []∧ns.length≤5000∧∀ (a b:List Int) (m:Int) (r:Addr) (H':Hp),ns=a++b->b.head? = some m->(∀ x∈ns,m≤x)->H r=none->Ext H H'->H' r=some (.lst ((b++a).map V.int))->Q (.ref r) H'
def spLF  : Sp:=fun vs H Q E=>∃ (l:Addr),vs=[.ref l]∧(B_spLF  l H Q E)
theorem c_spLF  (l:Addr) (H:Hp) (Q:VK) (E:XK):spLF  [.ref l] H Q E=(B_spLF  l H Q E):=spx1 (f:=fun (l:Addr)=>[.ref l]) (fun _ _ h=>by cases h;exact rfl) l
theorem l_spLF  {vs:List V}{H:Hp}{Q:VK}{E:XK}(h:spLF  vs H Q E):vs.length=1:=spl1 h fun _=>rfl
theorem ok_least_first (T:Tx K mg t):FnOk P w K mg base CX0 1 t.a_least_first t.d_least_first ["ring"] spLF:=by
 refine T.F_least_first.ok c_least_first (fun vs H Q E h=>l_spLF h) (fun cdv A outer s' H vs Q E hr h=>?_)
 ·obtain ⟨l,rfl,ns,hl,hne,h5,k⟩:=h
  refine ⟨_,(@pss_cons _ _ _ _ _ (@ps_set _ _ (1) _ _ _ _ c_least_first.nd rfl (Or.inl rfl) (@pe_bm _ _ _ _ _ _ _ _ _ _ _ _ PySem.F.plainAttrs_list PySem.F.slot_list_index PySem.F.type_list_index (mt_index hr.units) (@pvN _ 0 _ _ (by rfl) (by trivial) (by decide) (by decide)) (@pa_c _ _ _ _ _ (@pe_callB _ _ _ _ _ _ _ ("min") _ (call_qMinL rfl) (by rfl) T.z_min (by decide +kernel) (@pa_c _ _ _ _ _ (@pvN _ 0 _ _ (by rfl) (by trivial) (by decide) (by decide)) (@pa_nil _) (by rfl)) (by decide) (by decide) (by rfl) (by rfl)) (@pa_nil _) (by rfl)) (by rfl) (by rfl) (by rfl) (by rfl) (by rfl)) (by rfl) (by trivial)) (@pss_one _ _ _ (@ps_ret _ _ _ _ (@pe_op _ _ _ _ _ _ _ _ op_nCat (@pe_slice _ _ _ _ _ _ _ _ _ _ sl_n (@pvN _ 0 _ _ (by rfl) (by trivial) (by decide) (by decide)) (@po_some _ _ _ (@pvN _ 1 _ _ (by rfl) (by trivial) (by decide) (by decide))) (@po_none _)) (@pe_slice _ _ _ _ _ _ _ _ _ _ sl_n (@pvN _ 0 _ _ (by rfl) (by trivial) (by decide) (by decide)) (@po_none _) (@po_some _ _ _ (@pvN _ 1 _ _ (by rfl) (by trivial) (by decide) (by decide)))))))),?_⟩
  rw [show start ["ring", "at"] [.ref l]=[some (.ref l),none] from rfl]
  simp! only [and_true]
  rw [x_kMinI]
  refine ⟨List.length_pos_iff.mpr hne,fun M hM hm=>?_⟩
  obtain ⟨a,b,rfl,hMa⟩:=split_first hM
  replace k:=fun (_:Unit)=>k a (M::b) M
  replace hm:=fun (_:Unit)=>hm
  clear hM hne
  simp! only [and_true]
  refine use_idxI hl hMa ?_
  simp! only [and_true]
  rw [cut_some _ _ (Int.natCast_nonneg _),Int.toNat_natCast,show (List.map V.int (a++M::b)).drop a.length=(M::b).map V.int by rw [List.map_append,List.drop_left' (by simp)]]
  intro r1 H1 hr1 e1 h1
  have hl1:=e1.at hl
  clear hl
  simp! only [and_true]
  rw [cut_none _ _ (Int.natCast_nonneg _),Int.toNat_natCast,show (List.map V.int (a++M::b)).take a.length=a.map V.int by rw [List.map_append,List.take_left' (by simp)]]
  intro r2 H2 hr2 e2 h2
  have h1_2:=e2.at h1
  clear h1 hl1
  rw [List.map_cons] at h1_2
  simp! only [and_true]
  refine ⟨len5000 (by rw [List.length_append,List.length_cons] at h5;omega),fun r3 H3 hr3 e3 h3=>?_⟩
  exact k () r3 H3 rfl rfl (hm ()) (e1.free (e2.free hr3)) (e1.trans (e2.trans e3)) (by rw [h3,List.map_append,List.map_cons];rfl)
def NdK (kv:List (Int × Int)):Prop:=(kv.map (·.1)).Nodup
structure RfP (kv wv:List (Int × Int)) (st:Int):Prop where
 nd:NdK kv
 len:kv.length≤4200
 wnd:NdK wv
 sub:∀ x,(lookI wv x).isSome=true->(lookI kv x).isSome=true
 new:∀ x,lookI wv x ≠ some st
structure WkE (kv wv:List (Int × Int)) (st:Int) (t:List Int) (c:Int):Prop where
 pth:Pth (lookI kv) t c
 nd:t.Nodup
 new:∀ x∈t,lookI wv x=none
 hd:t.headD c=st
def rgL (t:List Int) (c:Int):List Int:=t.dropWhile fun x=>!(decide (x=c))
theorem rgL_at:∀ {a b:List Int}{c:Int},c ∉ a->rgL (a++c::b) c=c::b
 | [],b,c,_=>by unfold rgL;rw [List.nil_append,List.dropWhile_cons_of_neg (by simp)]
 | x::a,b,c,h=>by
  have e:¬ x=c:=fun e=>h (by rw [e];exact List.mem_cons_self)
  unfold rgL
  rw [List.cons_append,List.dropWhile_cons_of_pos (by simp [e])]
  exact rgL_at fun m=>h (List.mem_cons_of_mem _ m)
theorem rgL_no {t:List Int}{c:Int}(h:c ∉ t):rgL t c=[]:=by
 unfold rgL
 induction t with
 | nil=>rfl
 | cons x t ih=>
  have e:¬ x=c:=fun e=>h (by rw [e];exact List.mem_cons_self)
  rw [List.dropWhile_cons_of_pos (by simp [e])]
  exact ih fun m=>h (List.mem_cons_of_mem _ m)
def wkD (wv:List (Int × Int)) (st:Int) (t:List Int):List (Int × Int):=wv++t.map fun x=>(x,st)
theorem wk_keys (wv:List (Int × Int)) (st:Int) (t:List Int):(wkD wv st t).map (·.1)=wv.map (·.1)++t:=by
 unfold wkD
 rw [List.map_append,List.map_map]
 congr 1
 exact List.map_id' t
theorem wk_look {wv:List (Int × Int)}(hn:NdK wv){st:Int}{t:List Int}(ht:t.Nodup) (hw:∀ x∈t,lookI wv x=none) (c:Int):lookI (wkD wv st t) c=if c∈t then some st else lookI wv c:=by
 have nd:NdK (wkD wv st t):=by
  unfold NdK
  rw [wk_keys,List.nodup_append]
  exact ⟨hn,ht,fun x hx y hy e=>look_none.mp (hw y hy) (by rw [←e];exact hx)⟩
 split
 ·rename_i h
  exact look_of nd (List.mem_append_right _ (List.mem_map.mpr ⟨c,h,rfl⟩))
 ·rename_i h
  cases hl:lookI wv c with
  | some j=>exact look_of nd (List.mem_append_left _ (look_mem hl))
  | none=>rw [look_none,wk_keys,List.mem_append];exact fun m=>m.elim (look_none.mp hl) h
theorem wk_nd {kv wv:List (Int × Int)}{st:Int}{t:List Int}{c:Int}(h:WkE kv wv st t c) (hn:NdK wv):NdK (wkD wv st t):=by
 unfold NdK
 rw [wk_keys,List.nodup_append]
 exact ⟨hn,h.nd,fun x hx y hy e=>look_none.mp (h.new y hy) (by rw [←e];exact hx)⟩
theorem wk_sub {kv wv:List (Int × Int)}{st:Int}{t:List Int}{c:Int}(P:RfP kv wv st) (h:WkE kv wv st t c):∀ x∈(wkD wv st t).map (·.1),x∈kv.map (·.1):=fun x hx=>by
 rw [wk_keys,List.mem_append] at hx
 rcases hx with hx|hx
 ·exact look_some.mp (P.sub x (look_some.mpr hx))
 ·obtain ⟨d,e,_⟩:=h.pth.mem hx
  exact look_some.mp (by rw [e];rfl)
theorem nd_len:∀ {a b:List Int},a.Nodup->(∀ x∈a,x∈b)->a.length≤b.length
 | [],b,_,_=>Nat.zero_le _
 | x::a,b,hn,h=>by
  have hn':=List.nodup_cons.mp hn
  have hx:=h x List.mem_cons_self
  have:=nd_len (a:=a) (b:=b.erase x) hn'.2 fun y hy=>(List.mem_erase_of_ne (fun e=>hn'.1 (by rw [←e];exact hy))).mpr (h y (List.mem_cons_of_mem _ hy))
  rw [List.length_erase_of_mem hx] at this
  have:=List.length_pos_of_mem hx
  rw [List.length_cons]
  omega
theorem wk_len {kv wv:List (Int × Int)}{st:Int}{t:List Int}{c:Int}(P:RfP kv wv st) (h:WkE kv wv st t c):(wkD wv st t).length≤kv.length:=by
 have:=nd_len (wk_nd h P.wnd) (wk_sub P h)
 simpa using this
theorem WkE.next {kv wv:List (Int × Int)}{st c d:Int}{t:List Int}(P:RfP kv wv st) (h:WkE kv wv st t c) (hd:lookI kv c=some d) (hc:lookI (wkD wv st t) c=none):WkE kv wv st (t++[c]) d:=by
 rw [wk_look P.wnd h.nd h.new] at hc
 by_cases m:c∈t
 ·rw [if_pos m] at hc;cases hc
 ·rw [if_neg m] at hc
  refine ⟨h.pth.snoc hd,?_,fun x hx=>?_,?_⟩
  ·rw [List.nodup_append]
   exact ⟨h.nd,List.nodup_cons.mpr ⟨List.not_mem_nil,List.nodup_nil⟩,fun x hx y hy e=>m (by rw [←List.mem_singleton.mp hy,←e];exact hx)⟩
  ·rcases List.mem_append.mp hx with hx|hx
   ·exact h.new x hx
   ·rw [List.mem_singleton.mp hx];exact hc
  ·rw [←h.hd];cases t<;>rfl
theorem wk_snoc {wv:List (Int × Int)}{st c:Int}{t:List Int}(h:lookI (wkD wv st t) c=none):putK (tabI (wkD wv st t)) (.inl c) (.int st)=tabI (wkD wv st (t++[c])):=by
 rw [put_tab _ h]
 unfold wkD
 rw [List.map_append,List.append_assoc]
 rfl
abbrev B_spRF  (d:Addr) (st:Int) (w:Addr) (H:Hp) (Q:VK) (E:XK):Prop:=∃ (B:Hp) (kv wv:List (Int × Int)),Ext B H∧B w=none∧B d=some (.dK (tabI kv))∧H w=some (.dK (tabI wv))∧RfP kv wv st∧∀ (t:List Int) (c:Int) (r:Addr) (H':Hp),WkE kv wv st t c->(c ∉ t->(lookI kv c).isSome=true->(lookI wv c).isSome=true)->B r=none->r ≠ w->Ext B H'->H' w=some (.dK (tabI (wkD wv st t)))->H' r=some (.lst ((rgL t c).map V.int))->Q (.ref r) H'
def spRF  : Sp:=fun vs H Q E=>∃ (d:Addr) (st:Int) (w:Addr),vs=[.ref d,.int st,.ref w]∧(B_spRF  d st w H Q E)
theorem c_spRF  (d:Addr) (st:Int) (w:Addr) (H:Hp) (Q:VK) (E:XK):spRF  [.ref d,.int st,.ref w] H Q E=(B_spRF  d st w H Q E):=spx3 (f:=fun (d:Addr) (st:Int) (w:Addr)=>[.ref d,.int st,.ref w]) (fun _ _ _ _ _ _ h=>by cases h;exact ⟨rfl,rfl,rfl⟩) d st w
theorem l_spRF  {vs:List V}{H:Hp}{Q:VK}{E:XK}(h:spRF  vs H Q E):vs.length=3:=spl3 h fun _ _ _=>rfl
theorem ok_ring_from (T:Tx K mg t):FnOk P w K mg base CX0 1 t.a_ring_from t.d_ring_from ["found", "start", "walked"] spRF:=by
 refine T.F_ring_from.ok c_ring_from (fun vs H Q E h=>l_spRF h) (fun cdv A outer s' H vs Q E hr h=>?_)
 ·obtain ⟨d,st,w,rfl,B,kv,wv,eB,hBw,hBd,hw,P0,k⟩:=h
  refine ⟨_,(@pss_cons _ _ _ _ _ (@ps_set _ _ (3) _ _ _ _ c_ring_from.nd rfl (Or.inl rfl) (@pe_qLst _ _ _ _ (@pa_nil _)) (by rfl) (by trivial)) (@pss_cons _ _ _ _ _ (@ps_set _ _ (4) _ _ _ _ c_ring_from.nd rfl (Or.inl rfl) (@pvN _ 1 _ _ (by rfl) (by trivial) (by decide) (by decide)) (by rfl) (by trivial)) (@pss_cons _ _ _ _ _ (@ps_while _ _ _ _ _ _ PassesOwn.never (PW.pt (@pw_and _ _ _ _ _ _ _ (@pt_cmpRN _ _ _ _ _ _ _ _ (op_inD (units1 hr.units)) (@pvN _ 4 _ _ (by rfl) (by trivial) (by decide) (by decide)) (@pvN _ 0 _ _ (by rfl) (by trivial) (by decide) (by decide)) (by with_unfolding_all rfl)) (@pw_and1 _ _ _ _ (@pt_cmpRN _ _ _ _ _ _ _ _ (op_notInD (units1 hr.units)) (@pvN _ 4 _ _ (by rfl) (by trivial) (by decide) (by decide)) (@pvN _ 2 _ _ (by rfl) (by trivial) (by decide) (by decide)) (by with_unfolding_all rfl))))) (@pss_cons _ _ _ _ _ (@ps_dput _ _ _ _ _ _ _ _ _ (units1 hr.units) (@pvN _ 2 _ _ (by rfl) (by trivial) (by decide) (by decide)) (@pvN _ 4 _ _ (by rfl) (by trivial) (by decide) (by decide)) (@pvN _ 1 _ _ (by rfl) (by trivial) (by decide) (by decide)) rfl) (@pss_cons _ _ _ _ _ (@ps_expr _ _ _ _ (@pe_bm _ _ _ _ _ _ _ _ _ _ _ _ PySem.F.plainAttrs_list PySem.F.slot_list_append PySem.F.type_list_append mt_append (@pvN _ 3 _ _ (by rfl) (by trivial) (by decide) (by decide)) (@pa_c _ _ _ _ _ (@pvN _ 4 _ _ (by rfl) (by trivial) (by decide) (by decide)) (@pa_nil _) (by rfl)) (by rfl) (by rfl) (by rfl) (by rfl) (by rfl)) (by rfl)) (@pss_one _ _ _ (@ps_set _ _ (4) _ _ _ _ c_ring_from.nd rfl (Or.inl rfl) (@pe_dget _ _ _ _ _ _ (units1 hr.units) (@pvN _ 0 _ _ (by rfl) (by trivial) (by decide) (by decide)) (@pvN _ 4 _ _ (by rfl) (by trivial) (by decide) (by decide)) (fun _ _=>rfl)) (by rfl) (by trivial)))))) (@pss_cons _ _ _ _ _ (@ps_if _ _ _ _ _ _ _ _ (@pt_cmpRN _ _ _ _ _ _ _ _ (op_qNe hr.units) (@pe_dget1 _ _ _ _ _ _ _ (units1 hr.units) (@pvN _ 2 _ _ (by rfl) (by trivial) (by decide) (by decide)) (@pvN _ 4 _ _ (by rfl) (by trivial) (by decide) (by decide)) ⟨by rfl,by rfl,by rfl,by rfl⟩) (@pvN _ 1 _ _ (by rfl) (by trivial) (by decide) (by decide)) (nomark _)) (@pss_one _ _ _ (@ps_ret _ _ _ _ (@pe_qLst _ _ _ _ (@pa_nil _)))) (@pss_nil _)) (@pss_one _ _ _ (@ps_ret _ _ _ _ (@pe_slice _ _ _ _ _ _ _ _ _ _ sl_n (@pvN _ 3 _ _ (by rfl) (by trivial) (by decide) (by decide)) (@po_some _ _ _ (@pe_bm _ _ _ _ _ _ _ _ _ _ _ _ PySem.F.plainAttrs_list PySem.F.slot_list_index PySem.F.type_list_index (mt_index hr.units) (@pvN _ 3 _ _ (by rfl) (by trivial) (by decide) (by decide)) (@pa_c _ _ _ _ _ (@pvN _ 4 _ _ (by rfl) (by trivial) (by decide) (by decide)) (@pa_nil _) (by rfl)) (by rfl) (by rfl) (by rfl) (by rfl) (by rfl))) (@po_none _)))))))),?_⟩
  rw [show start ["found", "start", "walked", "trail", "cell"] [.ref d,.int st,.ref w]=[some (.ref d),some (.int st),some (.ref w),none,none] from rfl]
  have hd0:=eB.at hBd
  simp! only [and_true]
  intro l H1 hl1 e1 h1
  have nwl:w ≠ l:=fun z=>by rw [←z,hw] at hl1;cases hl1
  have hBl:B l=none:=eB.free hl1
  have w1:=e1.at hw
  have eB1:=eB.trans e1
  have ini:WkE kv wv st [] st:=⟨trivial,List.nodup_nil,fun _ h=>absurd h List.not_mem_nil,rfl⟩
  have w1':H1 w=some (.dK (tabI (wkD wv st []))):=by rw [w1];unfold wkD;rw [List.map_nil,List.append_nil]
  replace P0:=fun (_:Unit)=>P0
  clear hw w1 hd0
  simp! only [and_true]
  refine while_w (by repeat' first|exact mo_tV|exact mo_nI0|exact mo_nI|apply mo_nTest|apply mo_unN|exact mo_var|exact mo_c|exact mo_rI0|exact mo_rI|exact mo_rIsN|exact mo_rNotN|exact mo_qEq|exact mo_qIx|exact mo_nil|exact mo_qLen|exact mo_inD|exact mo_qLenD|apply mo_dget2|apply mo_test|apply mo_tB|apply mo_not|apply mo_and|apply mo_or|apply mo_op|apply mo_un|apply mo_cons|apply mo_qLst|apply mo_cb) (fun m σ H'=>∃ (tr:List Int) (c:Int),σ=[some (.ref d),some (.int st),some (.ref w),some (.ref l),some (.int c)]∧m=kv.length - tr.length∧WkE kv wv st tr c∧Ext B H'∧H' w=some (.dK (tabI (wkD wv st tr)))∧H' l=some (.lst (tr.map V.int))) _ ⟨[],st,rfl,rfl,ini,eB1,w1',h1⟩ ?_
  clear ini w1' h1 eB1
  rintro m _ H2 ⟨tr,c,rfl,rfl,we,e2,w2,l2⟩
  have d2:=e2.at hBd
  have hll:=wk_len (P0 ()) we
  replace we:=fun (_:Unit)=>we
  replace hll:=fun (_:Unit)=>hll
  simp! only [and_true]
  cases hwc:lookI (wkD wv st tr) c with
  | none=>
   cases hdc:lookI kv c with
   | none=>
    have hct:c ∉ tr:=fun m=>by
     obtain ⟨e,h1,_⟩:=(we ()).pth.mem m
     rw [hdc] at h1;cases h1
    refine use_in (k:=.inl c) d2 ?_
    rw [val_tab,hdc]
    simp! only [and_true]
    refine use_get0 w2 ?_
    simp! only [and_true]
    refine use_get (k:=.inl c) w2 ?_
    rw [val_tab,hwc,show ((none:Option Int).map V.int).getD .non=.non from rfl]
    simp! only [and_true]
    intro r H3 hr3 e3 h3
    exact k tr c r H3 (we ()) (fun _ z=>by rw [hdc] at z;cases z) (e2.free hr3) (fun z=>by rw [z,w2] at hr3;cases hr3) (e2.trans e3) (e3.at w2) (by rw [h3,rgL_no hct];rfl)
   | some e=>
    have nx:=(we ()).next (P0 ()) hdc hwc
    have hput:=fun (_:Unit)=>wk_snoc hwc
    have hl5:(tabI (wkD wv st tr)).length < sizeLine:=lt5000 (by rw [tab_len];have:=(P0 ()).len;have:=hll ();omega)
    have hl6:(tr.map V.int).length < sizeLine:=lt5000 (by
     have h1:=hll ()
     have h2:=(P0 ()).len
     unfold wkD at h1
     rw [List.length_append,List.length_map] at h1
     rw [List.length_map]
     omega)
    have hlt:kv.length - (tr++[c]).length < kv.length - tr.length:=by
     have h1:=wk_len (P0 ()) nx
     unfold wkD at h1
     rw [List.length_append,List.length_map] at h1
     rw [List.length_append] at h1 ⊢
     rw [List.length_singleton] at h1 ⊢
     omega
    refine use_in (k:=.inl c) d2 ?_
    rw [val_tab,hdc]
    simp! only [and_true]
    refine use_in (k:=.inl c) w2 ?_
    rw [val_tab,hwc]
    simp! only [and_true]
    refine use_dp (k:=.inl c) w2 hl5 ?_
    have l3:upd H2 w (.dK (putK (tabI (wkD wv st tr)) (.inl c) (.int st))) l=some (.lst (tr.map V.int)):=by rw [upd_ne (Ne.symm nwl)];exact l2
    have d3:upd H2 w (.dK (putK (tabI (wkD wv st tr)) (.inl c) (.int st))) d=some (.dK (tabI kv)):=by rw [upd_ne (fun z=>by rw [z,hBw] at hBd;cases hBd)];exact d2
    have e3:Ext B (upd H2 w (.dK (putK (tabI (wkD wv st tr)) (.inl c) (.int st)))):=e2.put hBw
    have w3:upd H2 w (.dK (putK (tabI (wkD wv st tr)) (.inl c) (.int st))) w=some (.dK (tabI (wkD wv st (tr++[c])))):=by rw [upd_same,hput ()]
    generalize upd H2 w (.dK (putK (tabI (wkD wv st tr)) (.inl c) (.int st)))=H3 at l3 d3 e3 w3
    replace nx:=fun (_:Unit)=>nx
    clear w2 l2 d2 hput k
    simp! only [and_true]
    refine ⟨by rw [List.length_map] at hl6;exact hl6,?_⟩
    have d4:upd H3 l (.lst (tr.map V.int++[V.int c])) d=some (.dK (tabI kv)):=by rw [upd_ne (fun z=>by rw [z,hBl] at hBd;cases hBd)];exact d3
    refine use_dg (k:=.inl c) (v:=.int e) d4 (by rw [val_tab,hdc];rfl) ?_
    clear d4 l3 d3
    simp! only [-upd_same]
    exact ⟨_,hlt,tr++[c],e,rfl,rfl,nx (),e3.put hBl,by rw [upd_ne nwl];exact w3,by rw [upd_same,List.map_append];rfl⟩
  | some j=>
   obtain ⟨e,hdc⟩:∃ e,lookI kv c=some e:=by
    have:=look_some.mpr (wk_sub (P0 ()) (we ()) c (look_some.mp (by rw [hwc];rfl)))
    cases h:lookI kv c with
    | none=>rw [h] at this;cases this
    | some e=>exact ⟨e,rfl⟩
   have hwl:=wk_look (P0 ()).wnd (we ()).nd (we ()).new (st:=st) c
   by_cases m:c∈tr
   ·rw [if_pos m,hwc] at hwl
    obtain rfl:=Option.some.inj hwl
    obtain ⟨a,b,rfl,hca⟩:=split_first m
    clear hwl m
    refine use_in (k:=.inl c) d2 ?_
    rw [val_tab,hdc]
    simp! only [and_true]
    refine use_in (k:=.inl c) w2 ?_
    rw [val_tab,hwc]
    simp! only [and_true]
    refine use_get0 w2 ?_
    simp! only [and_true]
    refine use_get (k:=.inl c) w2 ?_
    rw [val_tab,hwc,show ((some j:Option Int).map V.int).getD .non=.int j from rfl]
    simp! only [and_true]
    refine use_idxI l2 hca ?_
    simp! only [and_true]
    rw [cut_some _ _ (Int.natCast_nonneg _),Int.toNat_natCast,show (List.map V.int (a++c::b)).drop a.length=(c::b).map V.int by rw [List.map_append,List.drop_left' (by simp)]]
    intro r H3 hr3 e3 h3
    exact k _ c r H3 (we ()) (fun z=>absurd (by simp) z) (e2.free hr3) (fun z=>by rw [z,w2] at hr3;cases hr3) (e2.trans e3) (e3.at w2) (by rw [h3,rgL_at hca])
   ·rw [if_neg m,hwc] at hwl
    have hj:¬ j=st:=fun z=>(P0 ()).new c (by rw [←hwl,z])
    replace hwl:=fun (_:Unit)=>hwl
    refine use_in (k:=.inl c) d2 ?_
    rw [val_tab,hdc]
    simp! only [and_true]
    refine use_in (k:=.inl c) w2 ?_
    rw [val_tab,hwc]
    simp! only [and_true]
    refine use_get0 w2 ?_
    simp! only [and_true]
    refine use_get (k:=.inl c) w2 ?_
    rw [val_tab,hwc,show ((some j:Option Int).map V.int).getD .non=.int j from rfl]
    simp! only [and_true]
    intro r H3 hr3 e3 h3
    exact k tr c r H3 (we ()) (fun _ _=>by rw [←hwl ()];rfl) (e2.free hr3) (fun z=>by rw [z,w2] at hr3;cases hr3) (e2.trans e3) (e3.at w2) (by rw [h3,rgL_no m];rfl)
def ovI (o:Option Int):V:=(o.map V.int).getD .non
theorem use_neO {x y:Option Int}{H:Hp}{Q:VK}(q:Q (.bl (!decide (x=y))) H):qEq true (ovI x) (ovI y) H Q:=by
 unfold qEq
 have hs:scal (ovI x) (ovI y)=true:=by cases x<;>cases y<;>rfl
 have e:decide (ovI x=ovI y)=decide (x=y):=by
  cases x<;>cases y<;>simp [ovI]
 rw [if_pos hs,if_pos rfl,e]
 exact q
theorem ext_upd {H H1:Hp}(e:Ext H H1) (d:Addr) (o:HO):Ext (upd H d o) (upd H1 d o):=Same.ext fun b u h=>by
 by_cases hb:b=d
 ·rw [hb,upd_same] at h ⊢;exact h
 ·rw [upd_ne hb] at h ⊢;exact e.at h
def drB (kv rv:List (Int × Int)) (x:Int):Bool:=kv.any fun p=>decide (p.2=x) && !decide (lookI rv p.1=lookI rv p.2)
theorem drB_snoc (kv rv:List (Int × Int)) (p:Int × Int) (x:Int):drB (kv++[p]) rv x=(drB kv rv x || (decide (p.2=x) && !decide (lookI rv p.1=lookI rv p.2))):=by
 unfold drB
 rw [List.any_append]
 simp
def DrI (kv rv:List (Int × Int)) (dv:List (Key × V)):Prop:=dv.length≤kv.length∧∀ x,(valV dv (.inl x)).isSome=drB kv rv x
theorem DrI.skip {kv rv:List (Int × Int)}{dv:List (Key × V)}(h:DrI kv rv dv){p:Int × Int}(e:lookI rv p.1=lookI rv p.2):DrI (kv++[p]) rv dv:=by
 refine ⟨by rw [List.length_append];have:=h.1;omega,fun x=>?_⟩
 rw [h.2 x,drB_snoc]
 simp [e]
theorem DrI.put {kv rv:List (Int × Int)}{dv:List (Key × V)}(h:DrI kv rv dv){p:Int × Int}(e:¬ lookI rv p.1=lookI rv p.2):DrI (kv++[p]) rv (putK dv (.inl p.2) (.bl true)):=by
 refine ⟨?_,fun x=>?_⟩
 ·have:=length_putK dv (.inl p.2:Key) (.bl true)
  rw [List.length_append]
  have:=h.1
  simp
  omega
 rw [valV_put,drB_snoc,←h.2 x]
 by_cases hx:x=p.2
 ·rw [if_pos (congrArg Sum.inl hx)]
  simp [hx,e]
 ·rw [if_neg (inl_ne hx)]
  simp [Ne.symm hx]
abbrev B_spDB  (d:Addr) (ro:Addr) (H:Hp) (Q:VK) (E:XK):Prop:=∃ (kv rv:List (Int × Int)),H d=some (.dK (tabI kv))∧H ro=some (.dK (tabI rv))∧d ≠ ro∧kv.length≤4200∧∀ (r:Addr) (H':Hp) (dv:List (Key × V)),H r=none->Ext H H'->H' r=some (.dK dv)->DrI kv rv dv->Q (.ref r) H'
def spDB  : Sp:=fun vs H Q E=>∃ (d:Addr) (ro:Addr),vs=[.ref d,.ref ro]∧(B_spDB  d ro H Q E)
theorem c_spDB  (d:Addr) (ro:Addr) (H:Hp) (Q:VK) (E:XK):spDB  [.ref d,.ref ro] H Q E=(B_spDB  d ro H Q E):=spx2 (f:=fun (d:Addr) (ro:Addr)=>[.ref d,.ref ro]) (fun _ _ _ _ h=>by cases h;exact ⟨rfl,rfl⟩) d ro
theorem l_spDB  {vs:List V}{H:Hp}{Q:VK}{E:XK}(h:spDB  vs H Q E):vs.length=2:=spl2 h fun _ _=>rfl
theorem ok_drawn_from_beyond (T:Tx K mg t):FnOk P w K mg base CX0 1 t.a_drawn_from_beyond t.d_drawn_from_beyond ["found", "ring_of"] spDB:=by
 refine T.F_drawn_from_beyond.ok c_drawn_from_beyond (fun vs H Q E h=>l_spDB h) (fun cdv A outer s' H vs Q E hr h=>?_)
 ·obtain ⟨d,ro,rfl,kv,rv,hd,hro,ndr,hl,k⟩:=h
  refine ⟨_,(@pss_cons _ _ _ _ _ (@ps_set _ _ (2) _ _ _ _ c_drawn_from_beyond.nd rfl (Or.inl rfl) (@pe_nDNew _ _) (by rfl) (by trivial)) (@pss_cons _ _ _ _ _ (@ps_thaw _ _ _ (@ps_for _ _ _ _ _ _ _ _ PassesOwn.never rfl (@pi_items _ _ _ _ _ _ _ _ (@pvN _ 0 _ _ (by rfl) (by trivial) (by decide) (by decide)) (by rfl) (by rfl)) ((@pg_tup _ _ _ _ _ (2) rfl (@pgs_consN _ _ _ _ _ (@pg_name _ _ (3) _ c_drawn_from_beyond.nd rfl (Or.inl rfl) (by trivial)) (@pgs_consN _ _ _ _ _ (@pg_name _ _ (4) _ c_drawn_from_beyond.nd rfl (Or.inl rfl) (by trivial)) (@pgs_nilN _) (by rfl)) (by rfl)) (by rfl) (by rfl)).mono fun _ _ _ _ h=>gTup_q h) (@pss_one _ _ _ (@ps_if _ _ _ _ _ _ _ _ (@pt_cmpRN _ _ _ _ _ _ _ _ (op_qNe hr.units) (@pe_dget1 _ _ _ _ _ _ _ (units1 hr.units) (@pvN _ 1 _ _ (by rfl) (by trivial) (by decide) (by decide)) (@pvN _ 3 _ _ (by rfl) (by trivial) (by decide) (by decide)) ⟨by rfl,by rfl,by rfl,by rfl⟩) (@pe_dget1 _ _ _ _ _ _ _ (units1 hr.units) (@pvN _ 1 _ _ (by rfl) (by trivial) (by decide) (by decide)) (@pvN _ 4 _ _ (by rfl) (by trivial) (by decide) (by decide)) ⟨by rfl,by rfl,by rfl,by rfl⟩) (nomark _)) (@pss_one _ _ _ (@ps_dput _ _ _ _ _ _ _ _ _ (units1 hr.units) (@pvN _ 2 _ _ (by rfl) (by trivial) (by decide) (by decide)) (@pvN _ 4 _ _ (by rfl) (by trivial) (by decide) (by decide)) (@pe_bl _ _ _ _) rfl)) (@pss_nil _))) (by intros;rfl))) (@pss_one _ _ _ (@ps_ret _ _ _ _ (@pvN _ 2 _ _ (by rfl) (by trivial) (by decide) (by decide)))))),?_⟩
  rw [show start ["found", "ring_of", "drawn", "cell", "origin"] [.ref d,.ref ro]=[some (.ref d),some (.ref ro),none,none,none] from rfl]
  simp! only [and_true]
  intro l H1 hl1 e1 h1
  have d1:=e1.at hd
  have ndl:d ≠ l:=fun z=>by rw [z,hl1] at hd;cases hd
  simp! only [and_true]
  refine for_items (fun ob i σ H'=>∃ (v3 v4:Option V) (dv:List (Key × V)),σ=[some (.ref d),some (.ref ro),some (.ref l),v3,v4]∧Ext (upd H d (.frz ob (.dK (tabI kv)))) H'∧H' l=some (.dK dv)∧DrI (kv.take i) rv dv) d1 (fun ob=>⟨none,none,[],rfl,ext_upd e1 _ _,by rw [upd_ne (Ne.symm ndl)];exact h1,by rw [List.take_zero];exact ⟨Nat.le_refl _,fun _=>rfl⟩⟩) (fun ob i σ' H' ⟨_,_,_,_,e,_⟩=>e.at upd_same) ?_ ?_
  ·rintro ob i z p _ H2 H3 hz ⟨v3,v4,dv,rfl,e2,l2,di⟩ hp e3 h3
   obtain ⟨y,hy,rfl⟩:∃ y,kv[i]? = some y∧z=((Sum.inl y.1:Key),V.int y.2):=by
    unfold tabI at hz
    rw [List.getElem?_map] at hz
    obtain ⟨y,h1,h2⟩:=Option.map_eq_some_iff.mp hz
    exact ⟨y,h1,h2.symm⟩
   have ht:kv.take (i+1)=kv.take i++[y]:=by rw [List.take_add_one,hy];rfl
   obtain ⟨c,o⟩:=y
   have ro3:H3 ro=some (.dK (tabI rv)):=e3.at (e2.at (by rw [upd_ne (Ne.symm ndr)];exact hro))
   have l3:=e3.at l2
   have e23:=e2.trans e3
   have hlu:upd H d (.frz ob (.dK (tabI kv))) l=none:=by rw [upd_ne (Ne.symm ndl)];exact hl1
   rw [show kV ((Sum.inl (c,o).1:Key),V.int (c,o).2).1=V.int c from rfl] at h3
   have hl5:dv.length < sizeLine:=lt5000 (by have:=di.1;rw [List.length_take] at this;omega)
   replace ht:=fun (_:Unit)=>ht
   replace di:=fun (_:Unit)=>di
   clear hz hy d1 h1 k hd hro l2
   simp! only [and_true]
   refine use_get0 ro3 ?_
   simp! only [and_true]
   refine use_get (k:=.inl c) ro3 ?_
   rw [val_tab]
   simp! only [and_true]
   refine use_get0 ro3 ?_
   simp! only [and_true]
   refine use_get (k:=.inl o) ro3 ?_
   rw [val_tab]
   refine use_neO ?_
   by_cases e:lookI rv c=lookI rv o
   ·rw [decide_eq_true e]
    simp! only [and_true]
    exact ⟨_,_,dv,rfl,e23,(by first|exact l3|rfl),by rw [ht ()];exact (di ()).skip e⟩
   ·rw [decide_eq_false e]
    replace e:=fun (_:Unit)=>e
    simp! only [and_true]
    refine use_dp (k:=.inl o) l3 hl5 ?_
    exact ⟨_,_,_,rfl,e23.put hlu,upd_same,by rw [ht ()];exact (di ()).put (e ())⟩
  ·rintro ob _ H2 ⟨v3,v4,dv,rfl,e2,l2,di⟩
   rw [tab_len,List.take_length] at di
   have e4:=Ext.thaw hd e2
   have l4:upd H2 d (.dK (tabI kv)) l=some (.dK dv):=by rw [upd_ne (Ne.symm ndl)];exact l2
   generalize upd H2 d (.dK (tabI kv))=H4 at e4 l4
   replace di:=fun (_:Unit)=>di
   simp! only [and_true]
   exact k l H4 dv hl1 e4 l4 (di ())
structure RoI (Cl:List (List Int)) (kv rv:List (Int × Int)):Prop where
 nd:NdK rv
 sub:∀ x,(lookI rv x).isSome=true->(lookI kv x).isSome=true
 yes:∀ l∈Cl,∀ x∈l,lookI rv x=some (l.headD 0)
 no:∀ x h,lookI rv x=some h->∃ l∈Cl,x∈l∧h=l.headD 0
structure RoJ (Cl:List (List Int)) (kv rv:List (Int × Int)) (dn:List Int) (h:Int) (rv':List (Int × Int)):Prop where
 nd:NdK rv'
 sub:∀ x,(lookI rv' x).isSome=true->(lookI kv x).isSome=true
 val:∀ x,lookI rv' x=if x∈dn then some h else lookI rv x
theorem RoJ.len {Cl:List (List Int)}{kv rv rv':List (Int × Int)}{dn:List Int}{h:Int}(j:RoJ Cl kv rv dn h rv'):rv'.length≤kv.length:=by
 have:=nd_len j.nd fun x hx=>look_some.mp (j.sub x (look_some.mpr hx))
 simpa using this
theorem RoJ.ini {Cl:List (List Int)}{kv rv:List (Int × Int)}(h:RoI Cl kv rv) (hh:Int):RoJ Cl kv rv [] hh rv:=⟨h.nd,h.sub,fun x=>by rw [if_neg List.not_mem_nil]⟩
theorem RoJ.put {Cl:List (List Int)}{kv rv rv':List (Int × Int)}{dn:List Int}{h c:Int}(j:RoJ Cl kv rv dn h rv') (hc:(lookI kv c).isSome=true):RoJ Cl kv rv (dn++[c]) h (putI rv' c h):=by
 refine ⟨putI_nodup j.nd c h,fun x hx=>?_,fun x=>?_⟩
 ·rw [look_put] at hx
  by_cases e:x=c
  ·rw [e];exact hc
  ·rw [if_neg e] at hx;exact j.sub x hx
 ·rw [look_put,j.val x]
  by_cases e:x=c
  ·rw [if_pos e,if_pos (by rw [e];simp)]
  ·rw [if_neg e]
   have:x∈dn++[c] ↔ x∈dn:=by simp [e]
   simp only [this]
theorem RoJ.fin {Cl:List (List Int)}{kv rv rv':List (Int × Int)}{l rg:List Int}(j:RoJ Cl kv rv rg (l.headD 0) rv') (i:RoI Cl kv rv) (hp:l.Perm rg) (hd:∀ l'∈Cl,∀ x∈l',x ∉ rg):RoI (Cl++[l]) kv rv':=by
 refine ⟨j.nd,j.sub,fun l' hl' x hx=>?_,fun x h hx=>?_⟩
 ·rw [j.val x]
  rcases List.mem_append.mp hl' with hl'|hl'
  ·rw [if_neg (hd l' hl' x hx)];exact i.yes l' hl' x hx
  ·rw [List.mem_singleton.mp hl'] at hx ⊢
   rw [if_pos (hp.mem_iff.mp hx)]
 ·rw [j.val x] at hx
  by_cases m:x∈rg
  ·rw [if_pos m] at hx
   exact ⟨l,List.mem_append_right _ List.mem_cons_self,hp.mem_iff.mpr m,(Option.some.inj hx).symm⟩
  ·rw [if_neg m] at hx
   obtain ⟨l',h1,h2,h3⟩:=i.no x h hx
   exact ⟨l',List.mem_append_left _ h1,h2,h3⟩
structure RgI (kv:List (Int × Int)) (S:List Int) (wv rv:List (Int × Int)) (Cl:List (List Int)):Prop where
 wnd:NdK wv
 sub:∀ x,(lookI wv x).isSome=true->(lookI kv x).isSome=true
 lab:∀ x v,lookI wv x=some v->v∈S
 all:∀ x∈S,(lookI wv x).isSome=true
 sr:Srch (lookI kv) (fun x=>(lookI wv x).isSome=true) Cl
 ro:RoI Cl kv rv
theorem RgI.nil (kv:List (Int × Int)):RgI kv [] [] [] []:=⟨List.nodup_nil,(fun _ h=>by cases h),(fun _ _ h=>by cases h),fun _ h=>absurd h List.not_mem_nil,⟨(fun _ h=>by cases h),(fun _ _ h=>by cases h),fun _ h=>absurd h List.not_mem_nil,(fun _ _ h=>by cases h),List.nodup_nil⟩,⟨List.nodup_nil,(fun _ h=>by cases h),fun _ h=>absurd h List.not_mem_nil,fun _ _ h=>by cases h⟩⟩
theorem srch_congr {f:Int->Option Int}{W W':Int->Prop}{Cl:List (List Int)}(S:Srch f W Cl) (h:∀ x,W' x ↔ W x):Srch f W' Cl:=by
 have e:W'=W:=funext fun x=>propext (h x)
 rw [e];exact S
theorem wk_iff {kv wv:List (Int × Int)}{st:Int}{t:List Int}{c:Int}(P:RfP kv wv st) (h:WkE kv wv st t c) (x:Int):(lookI (wkD wv st t) x).isSome=true ↔ ((lookI wv x).isSome=true∨x∈t):=by
 rw [wk_look P.wnd h.nd h.new]
 by_cases m:x∈t
 ·rw [if_pos m];simp [m]
 ·rw [if_neg m];simp [m]
theorem RgI.rfp {kv wv rv:List (Int × Int)}{S:List Int}{Cl:List (List Int)}{st:Int}(r:RgI kv S wv rv Cl) (hn:NdK kv) (hl:kv.length≤4200) (hs:st ∉ S):RfP kv wv st:=⟨hn,hl,r.wnd,r.sub,fun x e=>hs (r.lab x st e)⟩
theorem RgI.bas {kv wv rv:List (Int × Int)}{S:List Int}{Cl:List (List Int)}{st c:Int}{t:List Int}(r:RgI kv S wv rv Cl) (P:RfP kv wv st) (h:WkE kv wv st t c) (ho:c ∉ t->(lookI kv c).isSome=true->(lookI wv c).isSome=true) (hst:(lookI kv st).isSome=true) :
  NdK (wkD wv st t)∧(∀ x,(lookI (wkD wv st t) x).isSome=true->(lookI kv x).isSome=true)∧(∀ x v,lookI (wkD wv st t) x=some v->v∈S++[st])∧∀ x∈S++[st],(lookI (wkD wv st t) x).isSome=true:=by
 refine ⟨wk_nd h P.wnd,fun x hx=>look_some.mpr (wk_sub P h x (look_some.mp hx)),fun x v e=>?_,fun x hx=>?_⟩
 ·rw [wk_look P.wnd h.nd h.new] at e
  by_cases m:x∈t
  ·rw [if_pos m] at e;rw [←Option.some.inj e];simp
  ·rw [if_neg m] at e;exact List.mem_append_left _ (r.lab x v e)
 ·rw [wk_iff P h]
  rcases List.mem_append.mp hx with hx|hx
  ·exact .inl (r.all x hx)
  ·rw [List.mem_singleton.mp hx]
   cases t with
   | nil=>
    have e:c=st:=h.hd
    subst e
    exact .inl (ho List.not_mem_nil hst)
   | cons y t=>
    have e:y=st:=h.hd
    subst e
    exact .inr List.mem_cons_self
theorem RgI.out {kv wv rv:List (Int × Int)}{S:List Int}{Cl:List (List Int)}{st c:Int}{t:List Int}(r:RgI kv S wv rv Cl) (P:RfP kv wv st) (h:WkE kv wv st t c) (ho:c ∉ t->(lookI kv c).isSome=true->(lookI wv c).isSome=true) (hst:(lookI kv st).isSome=true) (hc:c ∉ t):RgI kv (S++[st]) (wkD wv st t) rv Cl:=by
 obtain ⟨b1,b2,b3,b4⟩:=r.bas P h ho hst
 exact ⟨b1,b2,b3,b4,srch_congr (walk_out r.sr h.pth h.nd (fun x hx z=>by rw [h.new x hx] at z;cases z) hc (ho hc)) (wk_iff P h),r.ro⟩
theorem RgI.self {kv wv rv:List (Int × Int)}{S:List Int}{Cl:List (List Int)}{st c:Int}{a:List Int}(r:RgI kv S wv rv Cl) (P:RfP kv wv st) (h:WkE kv wv st (a++[c]) c) (hst:(lookI kv st).isSome=true):RgI kv (S++[st]) (wkD wv st (a++[c])) rv Cl:=by
 obtain ⟨b1,b2,b3,b4⟩:=r.bas P h (fun z=>absurd (by simp) z) hst
 exact ⟨b1,b2,b3,b4,srch_congr ((walk_ring r.sr (b:=[]) h.pth h.nd (fun x hx z=>by rw [h.new x hx] at z;cases z)).2.1 rfl) (wk_iff P h),r.ro⟩
theorem RgI.ring {kv wv rv rv':List (Int × Int)}{S:List Int}{Cl:List (List Int)}{st c:Int}{a b a' b':List Int}{m:Int}(r:RgI kv S wv rv Cl) (P:RfP kv wv st) (h:WkE kv wv st (a++c::b) c) (hst:(lookI kv st).isSome=true) (hb:b ≠ [])
  (e:c::b=a'++b') (hm:b'.head? = some m) (hl:∀ x∈c::b,m≤x) (j:RoJ Cl kv rv (c::b) ((b'++a').headD 0) rv'):RgI kv (S++[st]) (wkD wv st (a++c::b)) rv' (Cl++[b'++a']):=by
 obtain ⟨b1,b2,b3,b4⟩:=r.bas P h (fun z=>absurd (by simp) z) hst
 have hw:∀ x∈a++c::b,¬ (lookI wv x).isSome=true:=fun x hx z=>by rw [h.new x hx] at z;cases z
 obtain ⟨w1,_,w3⟩:=walk_ring r.sr h.pth h.nd hw
 have h2:2≤(c::b).length:=by cases b with|nil=>exact absurd rfl hb|cons x b=>simp
 have rl:=rotL w1 h2 e hm hl
 have pm:(b'++a').Perm (c::b):=by rw [e];exact List.perm_append_comm
 refine ⟨b1,b2,b3,b4,srch_congr (w3 _ rl pm) (wk_iff P h),j.fin r.ro pm fun l' hl' x hx hm=>?_⟩
 exact hw x (List.mem_append_right _ hm) ((r.sr.rng l' hl').2 x hx)
theorem bare_eq {kv rv:List (Int × Int)}{Cl:List (List Int)}(hn:NdK kv) (hr:∀ l∈Cl,RingL (lookI kv) l) (ro:RoI Cl kv rv){l:List Int}(hl:l∈Cl):(!(l.any fun x=>drB kv rv x))=bareB (lookI kv) (kv.map (·.1)) l:=by
 have key:∀ x,lookI rv x=some (l.headD 0) ↔ x∈l:=fun x=>by
  refine ⟨fun h=>?_,fun h=>ro.yes l hl x h⟩
  obtain ⟨l',h1,h2,h3⟩:=ro.no x _ h
  have e:l=l':=ringL_eq (hr l hl) (hr l' h1) (hr l hl).head_mem (by rw [h3];exact (hr l' h1).head_mem)
  rw [e];exact h2
 rw [Bool.eq_iff_iff,Bool.not_eq_true',←Bool.not_eq_true,List.any_eq_true]
 unfold bareB
 rw [List.all_eq_true]
 constructor
 ·intro h c hc
  obtain ⟨⟨c',d⟩,hp,rfl⟩:=List.mem_map.mp hc
  rw [look_of hn hp]
  by_cases m:c'∈l
  ·simp [m]
  ·by_cases md:d∈l
   ·refine absurd ⟨d,md,?_⟩ h
    unfold drB
    rw [List.any_eq_true]
    refine ⟨(c',d),hp,?_⟩
    have h1:=(key d).mpr md
    have h2:¬ lookI rv c'=lookI rv d:=fun e=>m ((key c').mp (e.trans h1))
    simp [h2]
   ·simp [md]
 ·rintro h ⟨x,hx,hd⟩
  unfold drB at hd
  obtain ⟨p,hp,hq⟩:=List.any_eq_true.mp hd
  simp only [Bool.and_eq_true,decide_eq_true_eq,Bool.not_eq_true',decide_eq_false_iff_not] at hq
  have h1:=h p.1 (List.mem_map.mpr ⟨p,hp,rfl⟩)
  rw [look_of hn (show (p.1,p.2)∈kv from hp)] at h1
  have m1:p.2∈l:=by rw [hq.1];exact hx
  have m2:p.1 ∉ l:=fun m=>hq.2 (((key _).mpr m).trans ((key _).mpr m1).symm)
  simp [m1,m2] at h1
theorem rings_all {kv wv rv:List (Int × Int)}{Cl:List (List Int)}{ms:List Int}(r:RgI kv ms wv rv Cl) (hm:∀ x,x∈ms ↔ x∈kv.map (·.1)){L:List (List Int × Bool)}(hp:L.Perm (Cl.map fun l=>(l,bareB (lookI kv) (kv.map (·.1)) l))) (hs:L.Pairwise fun p q=>p.1.headD 0≤q.1.headD 0):RingsOf (lookI kv) (kv.map (·.1)) L:=by
 have hd:(L.map fun p=>p.1.headD 0).Nodup:=by
  have h1:=hp.map (fun p:List Int × Bool=>p.1.headD 0)
  rw [List.map_map] at h1
  exact h1.nodup_iff.mpr r.sr.nd
 have hs':L.Pairwise fun p q=>p.1.headD 0 < q.1.headD 0:=by
  have h1:L.Pairwise fun p q=>p.1.headD 0 ≠ q.1.headD 0:=List.pairwise_map.mp hd
  refine (hs.and h1).imp fun h=>?_
  have h1:=h.1
  have h2:=h.2
  omega
 refine ⟨hs',fun p hpm=>?_,fun l hl=>?_⟩
 ·obtain ⟨l,hl,rfl⟩:=List.mem_map.mp (hp.mem_iff.mp hpm)
  exact ⟨(r.sr.rng l hl).1,rfl⟩
 ·refine ⟨_,hp.mem_iff.mpr (List.mem_map.mpr ⟨l,r.sr.all l hl ?_,rfl⟩)⟩
  obtain ⟨d,h1,_⟩:=hl.1.mem hl.head_mem
  exact r.all _ ((hm _).mpr (look_some.mp (by rw [h1];rfl)))
def CutS (S:List Addr) (H:Hp):Hp:=fun b=>if b∈S then none else H b
theorem cut_sub (S:List Addr) (H:Hp):Ext (CutS S H) H:=Same.ext fun b o h=>by
 unfold CutS at h
 by_cases hb:b∈S
 ·rw [if_pos hb] at h;cases h
 ·rwa [if_neg hb] at h
theorem cut1_no (w:Addr) (H:Hp):CutS [w] H w=none:=if_pos (by simp)
theorem cut1_at {w b:Addr}{H:Hp}{o:HO}(h:H b=some o) (hn:b ≠ w):CutS [w] H b=some o:=by
 unfold CutS
 rw [if_neg (by simpa using hn)]
 exact h
theorem cut1_none {w b:Addr}{H:Hp}(h:CutS [w] H b=none) (hn:b ≠ w):H b=none:=by
 unfold CutS at h
 rwa [if_neg (by simpa using hn)] at h
theorem cut1_ext {w:Addr}{H H5 H6:Hp}(e:Ext H H5) (hw:H w=none) (e6:Ext (CutS [w] H5) H6):Ext H H6:=Same.ext fun b o h=>e6.at (cut1_at (e.at h) fun z=>by rw [z,hw] at h;cases h)
def viI:V->Int
 | .int i=>i
 | _=>0
def InL (H0:Hp) (cl:Addr) (l:List Int) (y:V) (H:Hp):Prop:=∃ r,y=.ref r∧H r=some (.lst (l.map V.int))∧r ≠ cl∧H0 r=none
theorem InL.ext {H0 H H':Hp}{cl:Addr}{l:List Int}{y:V}(h:InL H0 cl l y H) (e:Ext H H'):InL H0 cl l y H':=by
 obtain ⟨r,h1,h2,h3,h4⟩:=h
 exact ⟨r,h1,e.at h2,h3,h4⟩
structure RgH (H0 H:Hp) (w ro cl:Addr) (wv rv:List (Int × Int)) (Cl:List (List Int)) (ys:List V):Prop where
 e:Ext H0 H
 hw:H w=some (.dK (tabI wv))
 hro:H ro=some (.dK (tabI rv))
 hcl:H cl=some (.lst ys)
 al:Al (fun l y=>InL H0 cl l y H) Cl ys
theorem RgH.ext {H0 H H':Hp}{w ro cl:Addr}{wv rv:List (Int × Int)}{Cl:List (List Int)}{ys:List V}(h:RgH H0 H w ro cl wv rv Cl ys) (e:Ext H H'):RgH H0 H' w ro cl wv rv Cl ys:=⟨h.e.trans e,e.at h.hw,e.at h.hro,e.at h.hcl,h.al.imp fun _ _ q=>q.ext e⟩
theorem RgH.walk {H0 H H':Hp}{w ro cl:Addr}{wv wv' rv:List (Int × Int)}{Cl:List (List Int)}{ys:List V}(h:RgH H0 H w ro cl wv rv Cl ys) (fw:H0 w=none) (nro:ro ≠ w) (e:Ext (CutS [w] H) H') (hw:H' w=some (.dK (tabI wv'))):RgH H0 H' w ro cl wv' rv Cl ys:=
 ⟨cut1_ext h.e fw e,hw,e.at (cut1_at h.hro nro),e.at (cut1_at h.hcl fun z=>by have:=h.hcl;rw [z,h.hw] at this;cases this),h.al.imp fun l y ⟨r,h1,h2,h3,h4⟩=>⟨r,h1,e.at (cut1_at h2 fun z=>by rw [z,h.hw] at h2;cases h2),h3,h4⟩⟩
theorem RgH.app {H0 H:Hp}{w ro cl:Addr}{wv rv:List (Int × Int)}{Cl:List (List Int)}{ys:List V}{l:List Int}{r:Addr}(h:RgH H0 H w ro cl wv rv Cl ys) (fc:H0 cl=none) (hr:H r=some (.lst (l.map V.int))) (nr:r ≠ cl) (fr:H0 r=none):RgH H0 (upd H cl (.lst (ys++[.ref r]))) w ro cl wv rv (Cl++[l]) (ys++[.ref r]):=by
 have nw:w ≠ cl:=fun z=>by have:=h.hw;rw [z,h.hcl] at this;cases this
 have nro:ro ≠ cl:=fun z=>by have:=h.hro;rw [z,h.hcl] at this;cases this
 refine ⟨h.e.put fc,by rw [upd_ne nw];exact h.hw,by rw [upd_ne nro];exact h.hro,upd_same,(h.al.imp fun l y ⟨r,h1,h2,h3,h4⟩=>⟨r,h1,by rw [upd_ne h3];exact h2,h3,h4⟩).snoc ⟨r,rfl,by rw [upd_ne nr];exact hr,nr,fr⟩⟩
theorem RgH.put {H0 H:Hp}{w ro cl:Addr}{wv rv rv':List (Int × Int)}{Cl:List (List Int)}{ys:List V}(h:RgH H0 H w ro cl wv rv Cl ys) (fr:H0 ro=none) (nro:ro ≠ w):RgH H0 (upd H ro (.dK (tabI rv'))) w ro cl wv rv' Cl ys:=by
 have nc:cl ≠ ro:=fun z=>by have:=h.hcl;rw [z,h.hro] at this;cases this
 exact ⟨h.e.put fr,by rw [upd_ne (Ne.symm nro)];exact h.hw,upd_same,by rw [upd_ne nc];exact h.hcl,h.al.imp fun l y ⟨r,h1,h2,h3,h4⟩=>⟨r,h1,by rw [upd_ne fun z=>by rw [z,h.hro] at h2;cases h2];exact h2,h3,h4⟩⟩
def Few (kv:List (Int × Int)):Prop:=∀ Cl:List (List Int),(∀ l∈Cl,RingL (lookI kv) l)->(Cl.map fun l=>l.headD 0).Nodup->Cl.length < 64
def RwR (H:Hp) (r:Addr) (p:List Int × Bool) (y:V) (H':Hp):Prop:=∃ q l,y=.ref q∧H' q=some (.tup [.ref l,.bl p.2])∧H' l=some (.lst (p.1.map V.int))∧H l=none∧l ≠ r
def RgAt (H H':Hp) (r:Addr) (L:List (List Int × Bool)):Prop:=∃ ys,H' r=some (.lst ys)∧H r=none∧Al (fun p y=>RwR H r p y H') L ys
abbrev B_spRings  (d:Addr) (H:Hp) (Q:VK) (E:XK):Prop:=∃ kv:List (Int × Int),H d=some (.dK (tabI kv))∧NdK kv∧kv.length≤4200∧EasyI (kv.map (·.1))∧Few kv∧∀ (L:List (List Int × Bool)) (r:Addr) (H':Hp),RingsOf (lookI kv) (kv.map (·.1)) L->Ext H H'->RgAt H H' r L->Q (.ref r) H'
def spRings  : Sp:=fun vs H Q E=>∃ (d:Addr),vs=[.ref d]∧(B_spRings  d H Q E)
theorem c_spRings  (d:Addr) (H:Hp) (Q:VK) (E:XK):spRings  [.ref d] H Q E=(B_spRings  d H Q E):=spx1 (f:=fun (d:Addr)=>[.ref d]) (fun _ _ h=>by cases h;exact rfl) d
theorem l_spRings  {vs:List V}{H:Hp}{Q:VK}{E:XK}(h:spRings  vs H Q E):vs.length=1:=spl1 h fun _=>rfl
theorem ok_rings (T:Tx K mg t):FnOk P w K mg base CX0 4 t.a_rings t.d_rings ["found"] spRings:=by
 have G_ring_from:=ok_ring_from (P:=P) (w:=w) (base:=base) T
 have G_least_first:=ok_least_first (P:=P) (w:=w) (base:=base) T
 have G_drawn_from_beyond:=ok_drawn_from_beyond (P:=P) (w:=w) (base:=base) T
 have G_first_cell:=ok_first_cell (P:=P) (w:=w) (base:=base) T
 refine T.F_rings.ok c_rings (fun vs H Q E h=>l_spRings h) (fun cdv A outer s' H vs Q E hr h=>?_)
 ·obtain ⟨d,rfl,kv,hd,hnd,h4,hE,hF,k⟩:=h
  refine ⟨_,(@pss_cons _ _ _ _ _ (@ps_set _ _ (1) _ _ _ _ c_rings.nd rfl (Or.inl rfl) (@pe_nDNew _ _) (by rfl) (by trivial)) (@pss_cons _ _ _ _ _ (@ps_set _ _ (2) _ _ _ _ c_rings.nd rfl (Or.inl rfl) (@pe_nDNew _ _) (by rfl) (by trivial)) (@pss_cons _ _ _ _ _ (@ps_set _ _ (3) _ _ _ _ c_rings.nd rfl (Or.inl rfl) (@pe_qLst _ _ _ _ (@pa_nil _)) (by rfl) (by trivial)) (@pss_cons _ _ _ _ _ (@ps_for _ _ _ _ _ _ _ _ PassesOwn.never rfl (@pi_seq _ _ _ _ (@pe_callB _ _ _ _ _ _ _ ("sorted") _ (call_qSrtE rfl) (by rfl) T.z_sorted (by decide +kernel) (@pa_c _ _ _ _ _ (@pvN _ 0 _ _ (by rfl) (by trivial) (by decide) (by decide)) (@pa_nil _) (by rfl)) (by decide) (by decide) (by rfl) (by rfl))) (@pg_name _ _ (4) _ c_rings.nd rfl (Or.inl rfl) (by trivial)) (@pss_cons _ _ _ _ _ (@ps_set _ _ (5) _ _ _ _ c_rings.nd rfl (Or.inl rfl) (@pe_call _ _ _ _ _ _ _ _ _ _ _ _ _ _ _ _ G_ring_from (hr.mono (by decide)) (by rfl) T.m_ring_from T.F_ring_from.kp T.b_ring_from .nil pass0 (@pa_c _ _ _ _ _ (@pvN _ 0 _ _ (by rfl) (by trivial) (by decide) (by decide)) (@pa_c _ _ _ _ _ (@pvN _ 4 _ _ (by rfl) (by trivial) (by decide) (by decide)) (@pa_c _ _ _ _ _ (@pvN _ 1 _ _ (by rfl) (by trivial) (by decide) (by decide)) (@pa_nil _) (by rfl)) (by rfl)) (by rfl)) (by decide) (by rfl) (by rfl)) (by rfl) (by trivial)) (@pss_one _ _ _ (@ps_if _ _ _ _ _ _ _ _ (@pt_cmpRN _ _ _ _ _ _ _ _ on_gt (@pe_callB _ _ _ _ _ _ _ ("len") _ call_qLen (by rfl) T.z_len (by decide +kernel) (@pa_c _ _ _ _ _ (@pvN _ 5 _ _ (by rfl) (by trivial) (by decide) (by decide)) (@pa_nil _) (by rfl)) (by decide) (by decide) (by rfl) (by rfl)) (@pe_int _ _ _ _) (nomark _)) (@pss_cons _ _ _ _ _ (@ps_expr _ _ _ _ (@pe_bm _ _ _ _ _ _ _ _ _ _ _ _ PySem.F.plainAttrs_list PySem.F.slot_list_append PySem.F.type_list_append mt_append (@pvN _ 3 _ _ (by rfl) (by trivial) (by decide) (by decide)) (@pa_c _ _ _ _ _ (@pe_call _ _ _ _ _ _ _ _ _ _ _ _ _ _ _ _ G_least_first (hr.mono (by decide)) (by rfl) T.m_least_first T.F_least_first.kp T.b_least_first .nil pass0 (@pa_c _ _ _ _ _ (@pvN _ 5 _ _ (by rfl) (by trivial) (by decide) (by decide)) (@pa_nil _) (by rfl)) (by decide) (by rfl) (by rfl)) (@pa_nil _) (by rfl)) (by rfl) (by rfl) (by rfl) (by rfl) (by rfl)) (by rfl)) (@pss_one _ _ _ (@ps_for _ _ _ _ _ _ _ _ PassesOwn.never rfl (@pi_seq _ _ _ _ (@pvN _ 5 _ _ (by rfl) (by trivial) (by decide) (by decide))) (@pg_name _ _ (6) _ c_rings.nd rfl (Or.inl rfl) (by trivial)) (@pss_one _ _ _ (@ps_dput _ _ _ _ _ _ _ _ _ (units1 hr.units) (@pvN _ 2 _ _ (by rfl) (by trivial) (by decide) (by decide)) (@pvN _ 6 _ _ (by rfl) (by trivial) (by decide) (by decide)) (@pe_ix _ _ _ _ _ _ _ ix_q (@pe_ix _ _ _ _ _ _ _ ix_q (@pvN _ 3 _ _ (by rfl) (by trivial) (by decide) (by decide)) (@pe_un _ _ _ _ _ _ un_negN (@pe_int _ _ _ _)) (fun _ _=>rfl)) (@pe_int _ _ _ _) (fun _ _=>rfl)) rfl)) (by intros;rfl)))) (@pss_nil _)))) (by intros;rfl)) (@pss_cons _ _ _ _ _ (@ps_set _ _ (7) _ _ _ _ c_rings.nd rfl (Or.inr rfl) (@pe_call _ _ _ _ _ _ _ _ _ _ _ _ _ _ _ _ G_drawn_from_beyond (hr.mono (by decide)) (by rfl) T.m_drawn_from_beyond T.F_drawn_from_beyond.kp T.b_drawn_from_beyond .nil pass0 (@pa_c _ _ _ _ _ (@pvN _ 0 _ _ (by rfl) (by trivial) (by decide) (by decide)) (@pa_c _ _ _ _ _ (@pvN _ 2 _ _ (by rfl) (by trivial) (by decide) (by decide)) (@pa_nil _) (by rfl)) (by rfl)) (by decide) (by rfl) (by rfl)) (by rfl) (by trivial)) (@pss_cons _ _ _ _ _ (@ps_setC _ _ _ _ _ _ _ _ _ _ _ _ _ (["ring", "found", "walked", "ring_of", "closed", "start", "!ring", "cell", "drawn", "told"]) (1) (8) _ c_rings.nd rfl (Or.inl rfl) (comp_ok (defScope s_rings) ["found", "walked", "ring_of", "closed", "start", "ring", "cell", "drawn", "told"] rfl rfl (by decide +kernel)) rfl (@pi_seq _ _ _ _ (@pvN _ 3 _ _ (by rfl) (by trivial) (by decide) (by decide))) (fun C s₀ H₀ ex pn=>(@pg_name _ _ (0) _ (show List.Nodup (["ring", "found", "walked", "ring_of", "closed", "start", "!ring", "cell", "drawn", "told"]:List Str) from by decide +kernel) rfl (Or.inl rfl) (by trivial))) (fun C s₀ H₀ ex pn=>(@pts_nil _)) (fun C s₀ H₀ ex pn=>(@pe_qTup _ _ _ _ _ (@pa_c _ _ _ _ _ (@pvN _ 0 _ _ (by rfl) (by trivial) (by decide) (by decide)) (@pa_c _ _ _ _ _ (@pe_notN _ _ _ _ (@pe_callB _ _ _ _ _ _ _ ("any") _ (call_qAny rfl) (by rfl) T.z_any (by decide +kernel) (@pa_c _ _ _ _ _ (@pe_comp _ _ _ _ _ _ _ _ _ _ _ (["cell", "ring", "found", "walked", "ring_of", "closed", "start", "!ring", "!cell", "drawn", "told"]) (1) (comp_ok _ ["ring", "found", "walked", "ring_of", "closed", "start", "!ring", "cell", "drawn", "told"] rfl rfl (by kernel_rfl)) rfl (@pi_seq' _ _ _ _ (K) rfl (@pvN _ 0 _ _ (by rfl) (by trivial) (by decide) (by decide))) (fun C s₀ H₀ ex pn=>(@pg_name _ _ (0) _ (show List.Nodup (["cell", "ring", "found", "walked", "ring_of", "closed", "start", "!ring", "!cell", "drawn", "told"]:List Str) from by decide +kernel) rfl (Or.inl rfl) (by trivial))) (fun C s₀ H₀ ex pn=>(@pts_nil _)) (fun C s₀ H₀ ex pn=>(@pe_cmpR _ _ _ _ _ _ _ _ (op_inD (units1 hr.units)) (@pvN _ 0 _ _ (by rfl) (by trivial) (by decide) (by decide)) (@pvN _ 9 _ _ (by rfl) (by trivial) (by decide) (by decide)) (by with_unfolding_all rfl))) (by intros;rfl)) (@pa_nil _) (by rfl)) (by decide) (by decide) (by rfl) (by rfl))) (@pa_nil _) (by rfl)) (by rfl)))) (by rfl) (by intros;rfl) (by trivial)) (@pss_one _ _ _ (@ps_ret _ _ _ _ (@pe_callBK _ ("sorted") _ _ _ _ _ _ _ _ _ _ (call_qSrtK G_first_cell (hr.mono (by decide)) T.b_first_cell) (by rfl) T.z_sorted (by decide +kernel) (@pa_c _ _ _ _ _ (@pvN _ 8 _ _ (by rfl) (by trivial) (by decide) (by decide)) (@pa_nil _) (by rfl)) (@pk_cons _ _ _ _ _ _ _ (@pe_glob _ _ (.ref t.a_first_cell) _ _ (by rfl) T.m_first_cell rfl (by decide)) (@pk_nil _)) (by decide) (by decide) (by rfl) (by rfl) (by rfl) (by rfl) (by rfl)))))))))),?_⟩
  rw [show start ["found", "walked", "ring_of", "closed", "start", "ring", "cell", "drawn", "told"] [.ref d]=[some (.ref d),none,none,none,none,none,none,none,none] from rfl]
  clear G_ring_from G_least_first G_drawn_from_beyond G_first_cell
  replace hE:=fun (_:Unit)=>hE
  replace hF:=fun (_:Unit)=>hF
  replace hnd:=fun (_:Unit)=>hnd
  simp! only [and_true]
  intro w H1 hw1 e1 h1
  simp! only [and_true]
  intro ro H2 hr2 e2 h2
  simp! only [and_true]
  intro cl H3 hc3 e3 h3
  have e03:=e1.trans (e2.trans e3)
  have d3:=e03.at hd
  have w3:=(e2.trans e3).at h1
  have ro3:=e3.at h2
  have fw:H w=none:=hw1
  have fro:H ro=none:=e1.free hr2
  have fcl:H cl=none:=(e1.trans e2).free hc3
  have nro:ro ≠ w:=fun z=>by rw [z,h1] at hr2;cases hr2
  clear hw1 h1 hr2 h2 hc3 e1 e2 e3
  simp! only [and_true]
  refine use_srtE d3 (tab_keys kv) (len5000 (by rw [List.length_map];omega)) (hE ()) fun ms hpm _=>?_
  intro S H4 hS4 e4 s4
  have gh:RgH H H4 w ro cl [] [] [] []:=⟨e03.trans e4,e4.at w3,e4.at ro3,e4.at h3,Al.nil⟩
  have nSc:S ≠ cl:=fun z=>by rw [z,h3] at hS4;cases hS4
  have nSw:S ≠ w:=fun z=>by rw [z,w3] at hS4;cases hS4
  have nSr:S ≠ ro:=fun z=>by rw [z,ro3] at hS4;cases hS4
  have hmm:∀ x,x∈ms ↔ x∈kv.map (·.1):=fun x=>hpm.mem_iff
  have hmn:ms.Nodup:=hpm.nodup_iff.mpr (hnd ())
  replace hmm:=fun (_:Unit)=>hmm
  replace hmn:=fun (_:Unit)=>hmn
  clear d3 w3 ro3 h3 hS4 e4 e03 hpm
  simp! only [and_true]
  refine for_lst (xs:=ms.map V.int) (fun i σ H'=>∃ (v4 v5 v6:Option V) (wv rv:List (Int × Int)) (Cl:List (List Int)) (ys:List V),σ=[some (.ref d),some (.ref w),some (.ref ro),some (.ref cl),v4,v5,v6,none,none]∧RgH H H' w ro cl wv rv Cl ys∧RgI kv (ms.take i) wv rv Cl∧H' S=some (.lst (ms.map V.int))) ⟨none,none,none,[],[],[],[],rfl,gh,by rw [List.take_zero];exact RgI.nil kv,s4⟩ (fun i σ H' _ ⟨_,_,_,_,_,_,_,_,_,_,q⟩=>q) ?_ ?_
  ·rintro i x _ H5 hx ⟨v4,v5,v6,wv,rv,Cl,ys,rfl,gh5,gi,s5⟩
   rw [List.getElem?_map] at hx
   obtain ⟨st,hst,rfl⟩:=Option.map_eq_some_iff.mp hx
   have hsk:(lookI kv st).isSome=true:=look_some.mpr ((hmm () st).mp (List.mem_of_getElem? hst))
   have htk:ms.take (i+1)=ms.take i++[st]:=by rw [List.take_add_one,hst];rfl
   have hsn:st ∉ ms.take i:=fun hm=>by
    have h1:=hmn ()
    rw [←List.take_append_drop i ms,List.nodup_append] at h1
    exact h1.2.2 st hm st (List.mem_of_getElem? (i:=0) (by rw [List.getElem?_drop];simpa using hst)) rfl
   have P0:=gi.rfp (hnd ()) h4 hsn
   have d5:=cut1_at (w:=w) (gh5.e.at hd) (fun z=>by rw [z,fw] at hd;cases hd)
   replace P0:=fun (_:Unit)=>P0
   replace gi:=fun (_:Unit)=>gi
   replace htk:=fun (_:Unit)=>htk
   replace hsk:=fun (_:Unit)=>hsk
   replace gh5:=fun (_:Unit)=>gh5
   replace d5:=fun (_:Unit)=>d5
   clear hx hst hsn gh s4
   simp! only [and_true]
   rw [c_spRF]
   refine ⟨CutS [w] H5,kv,wv,cut_sub _ _,cut1_no _ _,d5 (),(gh5 ()).hw,P0 (),fun tr c r H6 we ho hr6 nrw e6 w6 h6=>?_⟩
   have gh6:=(gh5 ()).walk fw nro e6 w6
   have s6:=e6.at (cut1_at (w:=w) s5 nSw)
   replace gh6:=fun (_:Unit)=>gh6
   replace we:=fun (_:Unit)=>we
   replace ho:=fun (_:Unit)=>ho
   clear s5 w6
   by_cases hct:c∈tr
   ·obtain ⟨a,b,rfl,hca⟩:=split_first hct
    rw [rgL_at hca] at h6
    cases b with
    | nil=>
     have gi':=(gi ()).self (P0 ()) (we ()) (hsk ())
     rw [←htk ()] at gi'
     replace gi':=fun (_:Unit)=>gi'
     simp! only [and_true]
     exact ⟨_,_,_,_,rv,Cl,ys,rfl,gh6 (),gi' ()⟩
    | cons b0 b=>
     have hb1:(1:Int) < ((b.length+1+1:Nat):Int):=by omega
     have h5c:(c::b0::b).length≤4200:=by
      have h1:=wk_len (P0 ()) (we ())
      unfold wkD at h1
      rw [List.length_append,List.length_map,List.length_append] at h1
      omega
     have hys:ys.length≤4200:=by
      have h1:=nd_len (gi ()).sr.nd (b:=kv.map (·.1)) fun x hx=>by
       obtain ⟨l,hl,rfl⟩:=List.mem_map.mp hx
       obtain ⟨d,h1,_⟩:=((gi ()).sr.rng l hl).1.1.mem ((gi ()).sr.rng l hl).1.head_mem
       exact look_some.mp (by rw [h1];rfl)
      rw [List.length_map,List.length_map,←(gh6 ()).al.1] at h1
      omega
     have hinr:∀ x∈c::b0::b,(lookI kv x).isSome=true:=fun x hx=>by
      obtain ⟨d,h1,_⟩:=(we ()).pth.mem (List.mem_append_right _ hx)
      rw [h1];rfl
     have nrc:r ≠ cl:=fun z=>by
      have h1:=cut1_none hr6 nrw
      rw [z,(gh5 ()).hcl] at h1;cases h1
     have nrr:r ≠ ro:=fun z=>by
      have h1:=cut1_none hr6 nrw
      rw [z,(gh5 ()).hro] at h1;cases h1
     replace h5c:=fun (_:Unit)=>h5c
     replace hys:=fun (_:Unit)=>hys
     replace hinr:=fun (_:Unit)=>hinr
     have c6:=(gh6 ()).hcl
     have h6b:=h6
     rw [List.map_cons,List.map_cons] at h6b
     replace h6:=fun (_:Unit)=>h6
     simp! only [and_true]
     rw [c_spLF]
     refine ⟨c::b0::b,h6 (),by simp,by have:=h5c ();omega,fun a' b' m r2 H7 ea hm hle hr7 e7 h7=>?_⟩
     obtain ⟨bs,rfl⟩:∃ bs,b'=m::bs:=by
      cases b' with
      | nil=>cases hm
      | cons y bs=>cases hm;exact ⟨bs,rfl⟩
     have gh7:=(gh6 ()).ext e7
     have c7:=gh7.hcl
     have r7:=e7.at (h6 ())
     have s7:=e7.at s6
     have n2:r2 ≠ cl:=fun z=>by rw [z,c6] at hr7;cases hr7
     have n2r:r2 ≠ ro:=fun z=>by rw [z,(gh6 ()).hro] at hr7;cases hr7
     have gh8:=gh7.app fcl h7 n2 ((gh6 ()).e.free hr7)
     have at1:atI (ys++[V.ref r2]) (-1)=some (.ref r2):=atI_last ys _
     replace ea:=fun (_:Unit)=>ea
     replace hle:=fun (_:Unit)=>hle
     clear c6 h6b s6 h6 hr7 gh7
     simp! only [and_true]
     refine ⟨lt5000 (by have:=hys ();omega),?_⟩
     have r8:upd H7 cl (.lst (ys++[V.ref r2])) r=some (.lst ((c::b0::b).map V.int)):=by rw [upd_ne nrc];exact r7
     have q8:upd H7 cl (.lst (ys++[V.ref r2])) r2=some (.lst ((m::bs++a').map V.int)):=by rw [upd_ne n2];exact h7
     have s8:upd H7 cl (.lst (ys++[V.ref r2])) S=some (.lst (ms.map V.int)):=by rw [upd_ne nSc];exact s7
     generalize upd H7 cl (.lst (ys++[V.ref r2]))=H8 at gh8 r8 q8 s8
     clear c7 r7 s7 h7 e7
     replace gh8:=fun (_:Unit)=>gh8
     have jn:=RoJ.ini (gi ()).ro m
     simp! only [and_true]
     refine for_lst (xs:=(c::b0::b).map V.int) (fun i2 σ H'=>∃ (v6:Option V) (rv':List (Int × Int)),σ=[some (.ref d),some (.ref w),some (.ref ro),some (.ref cl),some (.int st),some (.ref r),v6,none,none]∧RgH H H' w ro cl (wkD wv st (a++c::b0::b)) rv' (Cl++[m::bs++a']) (ys++[.ref r2])∧RoJ Cl kv rv ((c::b0::b).take i2) m rv'∧H' r=some (.lst ((c::b0::b).map V.int))∧H' r2=some (.lst ((m::bs++a').map V.int))∧H' S=some (.lst (ms.map V.int))) ⟨v6,rv,rfl,gh8 (),jn,r8,q8,s8⟩ (fun i2 σ H' _ ⟨_,_,_,_,_,q,_⟩=>q) ?_ ?_
     ·rintro i2 x _ H9 hx ⟨v6',rv',rfl,gh9,j9,r9,q9,s9⟩
      rw [List.getElem?_map] at hx
      obtain ⟨ce,hce,rfl⟩:=Option.map_eq_some_iff.mp hx
      have htk2:(c::b0::b).take (i2+1)=(c::b0::b).take i2++[ce]:=by rw [List.take_add_one,hce];rfl
      have j10:=j9.put (hinr () ce (List.mem_of_getElem? hce))
      rw [←htk2] at j10
      have gh10:=gh9.put (rv':=putI rv' ce m) fro nro
      have c9:=gh9.hcl
      have o9:=gh9.hro
      have hl5:(tabI rv').length < sizeLine:=lt5000 (by rw [tab_len];have:=j9.len;omega)
      have r10:upd H9 ro (.dK (tabI (putI rv' ce m))) r=some (.lst ((c::b0::b).map V.int)):=by rw [upd_ne nrr];exact r9
      have q10:upd H9 ro (.dK (tabI (putI rv' ce m))) r2=some (.lst ((m::bs++a').map V.int)):=by rw [upd_ne n2r];exact q9
      have s10:upd H9 ro (.dK (tabI (putI rv' ce m))) S=some (.lst (ms.map V.int)):=by rw [upd_ne nSr];exact s9
      have q9':H9 r2=some (.lst (V.int m::(bs++a').map V.int)):=q9
      replace gh10:=fun (_:Unit)=>gh10
      replace j10:=fun (_:Unit)=>j10
      replace r10:=fun (_:Unit)=>r10
      replace q10:=fun (_:Unit)=>q10
      replace s10:=fun (_:Unit)=>s10
      clear hx hce htk2 gh9 j9 r9 q9 s9 jn r8 q8 s8
      simp! only [and_true]
      refine use_dp (k:=.inl ce) o9 hl5 ?_
      rw [put_tabI]
      exact ⟨_,_,rfl,gh10 (),j10 (),r10 (),q10 (),s10 ()⟩
     ·rintro _ H9 ⟨v6',rv',rfl,gh9,j9,r9,q9,s9⟩
      rw [List.length_map,List.take_length] at j9
      have gi':=(gi ()).ring (P0 ()) (we ()) (hsk ()) (List.cons_ne_nil _ _) (ea ()) hm (hle ()) j9
      rw [←htk ()] at gi'
      replace gi':=fun (_:Unit)=>gi'
      replace gh9:=fun (_:Unit)=>gh9
      exact ⟨_,_,_,_,rv',_,_,rfl,gh9 (),gi' (),s9⟩
   ·rw [rgL_no hct] at h6
    have gi':=(gi ()).out (P0 ()) (we ()) (ho ()) (hsk ()) hct
    rw [←htk ()] at gi'
    replace gi':=fun (_:Unit)=>gi'
    simp! only [and_true]
    exact ⟨_,_,_,_,rv,Cl,ys,rfl,gh6 (),gi' ()⟩
  ·rintro _ H5 ⟨v4,v5,v6,wv,rv,Cl,ys,rfl,gh5,gi,s5⟩
   rw [List.length_map,List.take_length] at gi
   have d5:=gh5.e.at hd
   have ndr:d ≠ ro:=fun z=>by rw [z,fro] at hd;cases hd
   have hro5:=gh5.hro
   replace gi:=fun (_:Unit)=>gi
   replace gh5:=fun (_:Unit)=>gh5
   clear s5 gh s4
   simp! only [and_true]
   rw [c_spDB]
   refine ⟨kv,rv,d5,hro5,ndr,h4,fun dr H6 dv hr6 e6 h6 di=>?_⟩
   have gh6:=(gh5 ()).ext e6
   have c6:=gh6.hcl
   have al6:=gh6.al
   have hCl:Cl.length≤4200:=by
    have h1:=nd_len (gi ()).sr.nd (b:=kv.map (·.1)) fun x hx=>by
     obtain ⟨l,hl,rfl⟩:=List.mem_map.mp hx
     obtain ⟨d,h1,_⟩:=((gi ()).sr.rng l hl).1.1.mem ((gi ()).sr.rng l hl).1.head_mem
     exact look_some.mp (by rw [h1];rfl)
    rw [List.length_map,List.length_map] at h1
    omega
   have hll:∀ l∈Cl,l.length≤4200:=fun l hl=>by
    have h1:=nd_len ((gi ()).sr.rng l hl).1.1.nodup (b:=kv.map (·.1)) fun x hx=>by
     obtain ⟨d,h1,_⟩:=((gi ()).sr.rng l hl).1.1.mem hx
     exact look_some.mp (by rw [h1];rfl)
    rw [List.length_map] at h1
    omega
   have hbr:∀ l∈Cl,(!(l.any fun x=>(valV dv (.inl x)).isSome))=bareB (lookI kv) (kv.map (·.1)) l:=fun l hl=>by
    rw [←bare_eq (hnd ()) (fun l hl=>((gi ()).sr.rng l hl).1) (gi ()).ro hl]
    congr 2
    funext x
    exact di.2 x
   replace gh6:=fun (_:Unit)=>gh6
   replace al6:=fun (_:Unit)=>al6
   replace hll:=fun (_:Unit)=>hll
   replace hbr:=fun (_:Unit)=>hbr
   clear d5 hro5 hr6 di
   simp! only [and_true]
   refine comp_rel2 Cl (fun _=>true) (fun l x _=>InL H cl l x H6) (fun D l y H'=>∃ q r,y=.ref q∧H' q=some (.tup [.ref r,.bl (bareB (lookI kv) (kv.map (·.1)) l)])∧H' r=some (.lst (l.map V.int))∧H r=none∧r ≠ D) (wk_al (R:=fun l y _=>InL H cl l y H6) (fun _ _ _ _ q _=>q) c6 (al6 ())).1 (wk_al (R:=fun l y _=>InL H cl l y H6) (fun _ _ _ _ q _=>q) c6 (al6 ())).2 (fun D z y H1 H2 ⟨q,r,a1,a2,a3,a4,a5⟩ e=>⟨q,r,a1,e.at a2,e.at a3,a4,a5⟩) (fun D z y H1 xs o ⟨q,r,a1,a2,a3,a4,a5⟩ hD=>⟨q,r,a1,by rw [upd_ne fun z=>by rw [z,hD] at a2;cases a2];exact a2,by rw [upd_ne a5];exact a3,a4,a5⟩) (len5000 (by omega)) ?_ ?_
   ·intro D l x H7 N1 N0 hlm hD e7 _ p k1 _
    obtain ⟨r,rfl,hr6,_,hrn⟩:=p
    have hrD:r ≠ D:=fun z=>by rw [z,hD] at hr6;cases hr6
    have r7:=e7.at hr6
    have dr7:=e7.at h6
    have hl7:=hll () l hlm
    have hb7:=hbr () l hlm
    replace k1:=fun (_:Unit)=>k1 rfl
    replace hb7:=fun (_:Unit)=>hb7
    clear hlm hD h6 c6 k
    simp! only [↓m_kCm_1,↓m_kCm2]
    refine comp_fm (l.map V.int) (fun _=>true) (fun z=>.bl (valV dv (Sum.inl (viI z))).isSome) (fun z x H'=>x=z∧H' r=some (.lst (l.map V.int))) (wk_lst r7).1 (wk_lst r7).2 (len5000 (by rw [List.length_map];omega)) ?_ ?_
    ·intro L2 z x H' M1 M0 hz hL2 e ⟨hx,_⟩ j1 _
     subst hx
     obtain ⟨c,_,rfl⟩:=List.mem_map.mp hz
     have dr8:=e.at dr7
     have j1':M1 (.bl (valV dv (Sum.inl c)).isSome) H':=j1 rfl H' (Ext.refl _)
     clear j1 hz k1
     simp! only [↓m_kCm_1,↓m_kCm2]
     refine use_in (k:=Sum.inl c) dr8 ?_
     simp! only [↓m_kCm_1,↓m_kCm2]
    intro L2 H8 hL2 e8 h8
    have h8':H8 L2=some (.lst ((l.map fun x=>(valV dv (Sum.inl x)).isSome).map V.bl)):=by
     rw [h8,List.map_map,List.filter_eq_self.mpr (fun _ _=>rfl),List.map_map];rfl
    have hany:(l.map fun x=>(valV dv (Sum.inl x)).isSome).any id = !(bareB (lookI kv) (kv.map (·.1)) l):=by
     rw [←hb7 (),List.any_map,Bool.not_not];rfl
    have bl5:(l.map fun x=>(valV dv (Sum.inl x)).isSome).length≤4200:=by rw [List.length_map];exact hl7
    have r8:=e8.at r7
    generalize (l.map fun x=>(valV dv (Sum.inl x)).isSome)=bs at h8' hany bl5
    clear h8 dr7 r7
    simp! only [and_true]
    rw [Bool.not_not]
    intro q H9 hq9 e9 h9
    exact k1 () _ H9 (e8.trans e9) ⟨q,r,rfl,h9,e9.at r8,hrn,hrD⟩
   ·intro D ys2 H7 hD e7 h7 al7
    rw [List.filter_eq_self.mpr (fun _ _=>rfl)] at al7
    replace al7:=fun (_:Unit)=>al7
    have e07:=(gh6 ()).e.trans e7
    clear h6 c6
    simp! only [and_true]
    refine use_srtK (Cl.map fun l=>l.headD 0) h7 (by rw [List.length_map];exact ((al7 ()).1).symm) (.inl (by rw [List.length_map];exact hF () Cl (fun l hl=>((gi ()).sr.rng l hl).1) (gi ()).sr.nd)) (fun i x kk hx hk Q' E' hq=>?_) fun out hpo hso=>?_
    ·rw [List.getElem?_map] at hk
     obtain ⟨l,hl,rfl⟩:=Option.map_eq_some_iff.mp hk
     obtain ⟨q,r,rfl,a2,a3,_,_⟩:=(al7 ()).2 i l x hl hx
     obtain ⟨c,cs,rfl,_⟩:=((gi ()).sr.rng l (List.mem_of_getElem? hl)).1.1
     rw [c_spFC]
     exact ⟨r,_,c,cs.map V.int,a2,a3,hq⟩
    ·intro r9 H9 hr9 e9 h9
     have ez:(Cl.map fun l=>l.headD 0).zip ys2=(Cl.zip ys2).map fun t=>(t.1.headD 0,t.2):=by
      rw [List.zip_map_left]
      rfl
     obtain ⟨T',hT,rfl⟩:=perm_unmap hpo _ ez
     have hmem:∀ z∈T',z.1∈Cl∧∃ q r,z.2=.ref q∧H7 q=some (.tup [.ref r,.bl (bareB (lookI kv) (kv.map (·.1)) z.1)])∧H7 r=some (.lst (z.1.map V.int))∧H r=none∧r ≠ D:=fun z hz=>by
      have h1:=hT.mem_iff.mp hz
      obtain ⟨j,hj,ej⟩:=List.getElem_of_mem h1
      have hzz:(Cl.zip ys2)[j]? = some z:=by rw [List.getElem?_eq_getElem hj,ej]
      obtain ⟨g1,g2⟩:=List.getElem?_zip_eq_some.mp hzz
      exact ⟨List.mem_of_getElem? g1,(al7 ()).2 j z.1 z.2 g1 g2⟩
     have hLp:(T'.map fun z=>(z.1,bareB (lookI kv) (kv.map (·.1)) z.1)).Perm (Cl.map fun l=>(l,bareB (lookI kv) (kv.map (·.1)) l)):=by
      have h1:=(hT.map Prod.fst).map fun l=>(l,bareB (lookI kv) (kv.map (·.1)) l)
      rw [List.map_map,List.map_fst_zip (by rw [(al7 ()).1];exact Nat.le_refl _)] at h1
      exact h1
     have hLs:(T'.map fun z=>(z.1,bareB (lookI kv) (kv.map (·.1)) z.1)).Pairwise fun p q=>p.1.headD 0≤q.1.headD 0:=by
      rw [List.pairwise_map] at hso ⊢
      exact hso
     refine k _ r9 H9 (rings_all (gi ()) (hmm ()) hLp hLs) (e07.trans e9) ⟨_,h9,e07.free hr9,by simp,fun i p y hp hy=>?_⟩
     rw [List.getElem?_map] at hp
     obtain ⟨z,hz,rfl⟩:=Option.map_eq_some_iff.mp hp
     rw [List.getElem?_map,List.getElem?_map,hz] at hy
     cases hy
     obtain ⟨_,q,r,a1,a2,a3,a4,_⟩:=hmem z (List.mem_of_getElem? hz)
     exact ⟨q,r,a1,e9.at a2,e9.at a3,a4,fun zz=>by rw [zz,hr9] at a3;cases a3⟩
def fhat (kv:List (Int × Int)) (c:Int):Int:=(lookI kv c).getD c
theorem fhat_of {kv:List (Int × Int)}{c d:Int}(h:lookI kv c=some d):fhat kv c=d:=by unfold fhat;rw [h];rfl
def WrP (kv:List (Int × Int)) (c:Int):Prop:=∃ d,lookI kv c=some d∧d ≠ c
def rdL (kv:List (Int × Int)) (D:List Int) (o:Int):List (Int × Int):=kv.filter fun p=>decide (p.2=o) && (!decide (p.1=o) && !decide (p.1∈D))
def rdr (kv:List (Int × Int)) (D:List Int) (o:Int):Nat:=(rdL kv D o).length
theorem mem_rdL {kv:List (Int × Int)}{D:List Int}{o:Int}{p:Int × Int}:p∈rdL kv D o ↔ p∈kv∧p.2=o∧p.1 ≠ o∧p.1 ∉ D:=by
 unfold rdL
 rw [List.mem_filter]
 simp
theorem rdr_zero {kv:List (Int × Int)}{D:List Int}{o:Int}:rdr kv D o=0 ↔ ∀ p∈kv,p.2=o->p.1 ≠ o->p.1∈D:=by
 unfold rdr
 rw [List.length_eq_zero_iff]
 constructor
 ·intro h p hp h1 h2
  by_cases m:p.1∈D
  ·exact m
  ·exact absurd (mem_rdL.mpr ⟨hp,h1,h2,m⟩) (by rw [h];exact List.not_mem_nil)
 ·intro h
  cases e:rdL kv D o with
  | nil=>rfl
  | cons p r=>
   obtain ⟨h1,h2,h3,h4⟩:=mem_rdL.mp (show p∈rdL kv D o by rw [e];exact List.mem_cons_self)
   exact absurd (h p h1 h2 h3) h4
theorem filter_drop1 {α:Type} [DecidableEq α] {P Q:α->Bool}{a:α}:∀ {l:List α},l.Nodup->a∈l->P a=true->Q a=false->(∀ x∈l,x ≠ a->Q x=P x)->(l.filter Q).length+1=(l.filter P).length
 | [],_,h,_,_,_=>absurd h List.not_mem_nil
 | x::l,hn,h,hp,hq,he=>by
  have hn':=List.nodup_cons.mp hn
  rw [List.filter_cons,List.filter_cons]
  by_cases e:x=a
  ·subst e
   rw [hp,hq]
   have:l.filter Q=l.filter P:=List.filter_congr fun y hy=>he y (List.mem_cons_of_mem _ hy) fun z=>hn'.1 (by rw [←z];exact hy)
   simp [this]
  ·have h':a∈l:=(List.mem_cons.mp h).resolve_left fun z=>e z.symm
   have ih:=filter_drop1 hn'.2 h' hp hq fun y hy=>he y (List.mem_cons_of_mem _ hy)
   rw [he x List.mem_cons_self e]
   split
   ·rw [List.length_cons,List.length_cons];omega
   ·exact ih
theorem nd_of_keys {kv:List (Int × Int)}(h:NdK kv):kv.Nodup:=by
 have h1:kv.Pairwise fun p q=>p.1 ≠ q.1:=List.pairwise_map.mp h
 rw [List.nodup_iff_pairwise_ne]
 exact h1.imp fun hn e=>hn (by rw [e])
theorem rdr_step {kv:List (Int × Int)}(hn:NdK kv){D:List Int}{c o:Int}(hc:lookI kv c=some o) (hco:o ≠ c) (hD:c ∉ D) (x:Int):rdr kv (D++[c]) x+(if x=o then 1 else 0)=rdr kv D x:=by
 by_cases hx:x=o
 ·subst hx
  rw [if_pos rfl]
  unfold rdr rdL
  refine filter_drop1 (a:=(c,x)) (nd_of_keys hn) (look_mem hc) ?_ ?_ fun y hy hne=>?_
  ·have:¬ c=x:=fun e=>hco e.symm
   simp [this,hD]
  ·simp
  ·have hyc:y.1 ≠ c:=fun e=>hne (by
    have h1:=look_of hn (show (y.1,y.2)∈kv from hy)
    rw [e,hc] at h1
    exact Prod.ext e (Option.some.inj h1).symm)
   simp [hyc]
 ·rw [if_neg hx,Nat.add_zero]
  unfold rdr rdL
  congr 1
  refine List.filter_congr fun y hy=>?_
  by_cases hy2:y.2=x
  ·have hyc:y.1 ≠ c:=fun e=>hx (by
    have h1:=look_of hn (show (y.1,y.2)∈kv from hy)
    rw [e,hc] at h1
    rw [←hy2]
    exact (Option.some.inj h1).symm)
   simp [hyc]
  ·simp [hy2]
structure BsI (kv:List (Int × Int)) (D fr:List Int):Prop where
 dn:D.Nodup
 wr:∀ c∈D,WrP kv c
 ord:∀ D0 d D1,D=D0++d::D1->∀ p∈kv,p.2=d->p.1 ≠ d->p.1∈D0
 fn:fr.Nodup
 fi:∀ c,c∈fr ↔ c ∉ D∧WrP kv c∧rdr kv D c=0
theorem BsI.dz {kv:List (Int × Int)}{D fr:List Int}(b:BsI kv D fr){d:Int}(h:d∈D):rdr kv D d=0:=by
 obtain ⟨D0,D1,rfl⟩:=List.append_of_mem h
 exact rdr_zero.mpr fun p hp h1 h2=>List.mem_append_left _ (b.ord D0 d D1 rfl p hp h1 h2)
theorem BsI.next {kv:List (Int × Int)}(hn:NdK kv){D fr:List Int}{c o:Int}(b:BsI kv D (fr++[c])) (hc:lookI kv c=some o):o ≠ c∧c ∉ D∧o ∉ D∧(∀ x,rdr kv (D++[c]) x+(if x=o then 1 else 0)=rdr kv D x)∧(rdr kv (D++[c]) o=0->WrP kv o->BsI kv (D++[c]) (fr++[o]))∧(¬ (rdr kv (D++[c]) o=0∧WrP kv o)->BsI kv (D++[c]) fr):=by
 obtain ⟨hcD,⟨d,hd,hdc⟩,hr0⟩:=(b.fi c).mp (by simp)
 rw [hc] at hd
 obtain rfl:=Option.some.inj hd
 have st:=rdr_step hn hc hdc hcD
 have hro:1≤rdr kv D o:=by have:=st o;rw [if_pos rfl] at this;omega
 have hoD:o ∉ D:=fun m=>by have:=b.dz m;omega
 have fnn:=List.nodup_append.mp b.fn
 have hcf:c ∉ fr:=fun m=>fnn.2.2 c m c List.mem_cons_self rfl
 have hof:o ∉ fr:=fun m=>by have:=((b.fi o).mp (List.mem_append_left _ m)).2.2;omega
 have dn':(D++[c]).Nodup:=by
  rw [List.nodup_append]
  exact ⟨b.dn,List.nodup_cons.mpr ⟨List.not_mem_nil,List.nodup_nil⟩,fun x hx y hy e=>hcD (by rw [←List.mem_singleton.mp hy,←e];exact hx)⟩
 have wr':∀ x∈D++[c],WrP kv x:=fun x hx=>(List.mem_append.mp hx).elim (b.wr x) fun z=>by rw [List.mem_singleton.mp z];exact ⟨o,hc,hdc⟩
 have ord':∀ D0 d D1,D++[c]=D0++d::D1->∀ p∈kv,p.2=d->p.1 ≠ d->p.1∈D0:=by
  intro D0 d D1 e
  rcases List.eq_nil_or_concat D1 with h|⟨D2,y,h⟩
  ·subst h
   have e2:D=D0∧c=d:=by
    have:=List.append_inj' e rfl
    exact ⟨this.1,(List.cons.inj this.2).1⟩
   obtain ⟨rfl,rfl⟩:=e2
   exact fun p hp h1 h2=>rdr_zero.mp hr0 p hp h1 h2
  ·subst h
   have e2:D++[c]=(D0++d::D2)++[y]:=by rw [e];simp
   have:=(List.append_inj' e2 rfl).1
   exact b.ord D0 d D2 this
 have key:∀ x,x ≠ o->((x ∉ D++[c]∧WrP kv x∧rdr kv (D++[c]) x=0) ↔ x∈fr):=by
  intro x hx
  have h1:=st x
  rw [if_neg hx,Nat.add_zero] at h1
  rw [h1]
  have h2:=b.fi x
  rw [List.mem_append,List.mem_singleton] at h2
  rw [List.mem_append,List.mem_singleton]
  constructor
  ·rintro ⟨a1,a2,a3⟩
   have:=h2.mpr ⟨fun m=>a1 (.inl m),a2,a3⟩
   exact this.resolve_right fun z=>a1 (.inr z)
  ·intro m
   obtain ⟨a1,a2,a3⟩:=h2.mp (.inl m)
   exact ⟨fun z=>z.elim a1 fun e=>hcf (by rw [←e];exact m),a2,a3⟩
 refine ⟨hdc,hcD,hoD,st,fun h0 hw=>⟨dn',wr',ord',?_,fun x=>?_⟩,fun h0=>⟨dn',wr',ord',fnn.1,fun x=>?_⟩⟩
 ·rw [List.nodup_append]
  exact ⟨fnn.1,List.nodup_cons.mpr ⟨List.not_mem_nil,List.nodup_nil⟩,fun x hx y hy e=>hof (by rw [←List.mem_singleton.mp hy,←e];exact hx)⟩
 ·by_cases hx:x=o
  ·subst hx
   have:x ∉ D++[c]:=fun m=>(List.mem_append.mp m).elim hoD fun z=>hdc (List.mem_singleton.mp z)
   simp only [this,hw,h0,not_false_eq_true,and_self,iff_true]
   simp
  ·rw [key x hx,List.mem_append,List.mem_singleton]
   exact ⟨fun m=>m.resolve_right hx,.inl⟩
 ·by_cases hx:x=o
  ·subst hx
   exact ⟨fun m=>absurd m hof,fun ⟨_,a2,a3⟩=>absurd ⟨a3,a2⟩ h0⟩
  ·exact (key x hx).symm
theorem BsI.ring {kv:List (Int × Int)}(hn:NdK kv){D fr:List Int}(b:BsI kv D fr){l:List Int}(hl:Ring (lookI kv) l) (h2:2≤l.length):∀ x∈l,x ∉ D:=by
 have pre:∀ x∈l,∃ p∈l,lookI kv p=some x∧p ≠ x:=by
  intro x hx
  obtain ⟨t,r,pm⟩:=hl.from hx
  obtain ⟨_,_,e,hp,hnd⟩:=r
  obtain ⟨rfl,rfl⟩:=List.cons.inj e
  have ht:t ≠ []:=fun z=>by
   have:=pm.length_eq
   rw [z] at this
   simp at this
   omega
  obtain ⟨t0,z,rfl⟩:=(List.eq_nil_or_concat t).resolve_left ht
  have h1:Pth (lookI kv) [z] x:=(show Pth (lookI kv) ((x::t0)++[z]) x by simpa using hp).right
  refine ⟨z,pm.mem_iff.mp (by simp),h1,fun e=>?_⟩
  rw [List.nodup_cons] at hnd
  exact hnd.1 (by rw [e];simp)
 have go:∀ n D0 D1,D0.length=n->D=D0++D1->∀ x∈l,x ∉ D0:=by
  intro n
  induction n with
  | zero=>intro D0 D1 h0 _ x _ m;rw [List.length_eq_zero_iff.mp h0] at m;exact absurd m List.not_mem_nil
  | succ n ih=>
   intro D0 D1 h0 e x hx m
   obtain ⟨D2,y,rfl⟩:=(List.eq_nil_or_concat D0).resolve_left (fun z=>by rw [z] at h0;simp at h0)
   have e2:D=D2++y::D1:=by rw [e];simp
   have ih':=ih D2 (y::D1) (by simpa using h0) e2
   rw [List.concat_eq_append] at m
   rcases List.mem_append.mp m with m|m
   ·exact ih' x hx m
   ·rw [List.mem_singleton] at m
    subst m
    obtain ⟨p,hp,hpx,hne⟩:=pre x hx
    exact ih' p hp (b.ord D2 x D1 e2 (p,x) (look_mem hpx) rfl hne)
 exact fun x hx m=>go D.length D [] rfl (by simp) x hx m
theorem BsI.left {kv:List (Int × Int)}(hn:NdK kv){D:List Int}(b:BsI kv D []){c:Int}(hw:WrP kv c) (hc:c ∉ D):∃ l,Ring (lookI kv) l∧2≤l.length∧c∈l:=by
 have pre:∀ x,WrP kv x->x ∉ D->∃ p,lookI kv p=some x∧p ≠ x∧WrP kv p∧p ∉ D:=by
  intro x hx hxD
  have h0:¬ rdr kv D x=0:=fun h0=>absurd ((b.fi x).mpr ⟨hxD,hx,h0⟩) List.not_mem_nil
  cases e:rdL kv D x with
  | nil=>exact absurd (by unfold rdr;rw [e];rfl) h0
  | cons p r=>
   obtain ⟨h1,h2,h3,h4⟩:=mem_rdL.mp (show p∈rdL kv D x by rw [e];exact List.mem_cons_self)
   have h5:=look_of hn (show (p.1,p.2)∈kv from h1)
   rw [h2] at h5
   exact ⟨p.1,h5,h3,⟨x,h5,fun z=>h3 z.symm⟩,h4⟩
 have go:∀ n (p:Int) (t:List Int),kv.length+1≤(p::t).length+n->Pth (lookI kv) (p::t) c->(p::t++[c]).Nodup->WrP kv p->p ∉ D->(∀ x∈p::t++[c],(lookI kv x).isSome=true)->∃ l,Ring (lookI kv) l∧2≤l.length∧c∈l:=by
  intro n
  induction n with
  | zero=>
   intro p t hlen _ hnd _ _ hk
   have h1:=nd_len hnd (b:=kv.map (·.1)) fun x hx=>look_some.mp (hk x hx)
   rw [List.length_map,List.length_append] at h1
   simp at h1 hlen
   omega
  | succ n ih=>
   intro p t hlen hp hnd hwp hpD hk
   obtain ⟨q,hq,hqp,hwq,hqD⟩:=pre p hwp hpD
   by_cases hqc:q=c
   ·subst hqc
    refine ⟨p::t++[q],⟨p,t++[q],rfl,?_,hnd⟩,by simp,by simp⟩
    exact Pth.snoc (t:=p::t) hp hq
   ·refine ih q (p::t) (by simp at hlen ⊢;omega) ⟨hq,hp⟩ ?_ hwq hqD fun x hx=>?_
    ·rw [List.cons_append,List.nodup_cons]
     refine ⟨fun m=>?_,hnd⟩
     rw [List.cons_append,List.mem_cons] at m
     rcases m with m|m
     ·exact hqp m
     ·rcases List.mem_append.mp m with m|m
      ·obtain ⟨u,v,huv⟩:=List.append_of_mem (List.mem_cons_of_mem p m)
       have hnd2:=hnd
       have hpp:Pth (lookI kv) (u++q::v) c:=by rw [←huv];exact hp
       have h1:=hpp.right.head
       rw [hq] at h1
       have h2:p=v.headD c:=Option.some.inj h1
       cases u with
       | nil=>
        have e:=(List.cons.inj huv).1
        exact hqp e.symm
       | cons u0 u=>
        have e:=(List.cons.inj huv)
        rw [List.cons_append,List.nodup_cons] at hnd2
        refine hnd2.1 ?_
        rw [e.2]
        cases v with
        | nil=>rw [h2];simp
        | cons v0 v=>rw [h2];simp
      ·exact hqc (List.mem_singleton.mp m)
    ·rw [List.cons_append,List.mem_cons] at hx
     rcases hx with rfl|hx
     ·rw [hq];rfl
     ·exact hk x hx
 obtain ⟨p,hp,hpc,hwp,hpD⟩:=pre c hw hc
 obtain ⟨d,hd,_⟩:=hw
 refine go kv.length p [] (by simp;omega) hp ?_ hwp hpD fun x hx=>?_
 ·simp [hpc]
 ·simp at hx
  rcases hx with rfl|rfl
  ·rw [hp];rfl
  ·rw [hd];rfl
def runS (s:Int->Int):List (Int × Int)->Int->Int
 | []=>s
 | (a,b)::r=>runS (fun x=>if x=b then s a else s x) r
theorem runS_app (r1 r2:List (Int × Int)):∀ s:Int->Int,runS s (r1++r2)=runS (runS s r1) r2:=by
 induction r1 with
 | nil=>intro s;rfl
 | cons p r ih=>intro s;exact ih _
def rowsD (kv:List (Int × Int)) (D:List Int):List (Int × Int):=D.map fun c=>(fhat kv c,c)
theorem snoc_ind {P:List Int->Prop}(h0:P []) (hs:∀ l x,P l->P (l++[x])):∀ l,P l:=by
 have:∀ n l,l.length=n->P l:=by
  intro n
  induction n with
  | zero=>intro l h;rw [List.length_eq_zero_iff.mp h];exact h0
  | succ n ih=>
   intro l h
   obtain ⟨l0,x,rfl⟩:=(List.eq_nil_or_concat l).resolve_left (fun z=>by rw [z] at h;simp at h)
   rw [List.concat_eq_append] at h ⊢
   exact hs l0 x (ih l0 (by simpa using h))
 exact fun l=>this _ l rfl
theorem bs_run {kv:List (Int × Int)}:∀ D:List Int,D.Nodup->(∀ c∈D,WrP kv c)->(∀ D0 d D1,D=D0++d::D1->∀ p∈kv,p.2=d->p.1 ≠ d->p.1∈D0)->∀ x,runS id (rowsD kv D) x=if x∈D then fhat kv x else x:=by
 refine snoc_ind (fun _ _ _ x=>by rw [if_neg List.not_mem_nil];rfl) fun D c ih hn hw ho x=>?_
 have hn':=List.nodup_append.mp hn
 have hcD:c ∉ D:=fun m=>hn'.2.2 c m c List.mem_cons_self rfl
 have ih':=ih hn'.1 (fun d hd=>hw d (List.mem_append_left _ hd)) fun D0 d D1 e=>ho D0 d (D1++[c]) (by rw [e];simp)
 obtain ⟨o,hco,hoc⟩:=hw c (by simp)
 have hoD:o ∉ D:=fun m=>by
  obtain ⟨A,B,e⟩:=List.append_of_mem m
  have:=ho A o (B++[c]) (by rw [e];simp) (c,o) (look_mem hco) rfl (fun z=>hoc z.symm)
  exact hcD (by rw [e];simp [this])
 have e1:rowsD kv (D++[c])=rowsD kv D++[(fhat kv c,c)]:=by unfold rowsD;rw [List.map_append];rfl
 rw [e1,runS_app]
 show (if x=c then runS id (rowsD kv D) (fhat kv c) else runS id (rowsD kv D) x)=_
 rw [ih',ih',fhat_of hco,if_neg hoD]
 by_cases hx:x=c
 ·rw [if_pos hx,if_pos (by rw [hx];simp),hx,fhat_of hco]
 ·rw [if_neg hx]
  have:x∈D++[c] ↔ x∈D:=by simp [hx]
  simp only [this]
def rndL:List Int->Int->List (Int × Int)
 | [],_=>[]
 | [c],e=>[(e,c)]
 | c::d::t,e=>(d,c)::rndL (d::t) e
theorem rndL_len (e:Int):∀ l:List Int,(rndL l e).length=l.length
 | []=>rfl
 | [c]=>rfl
 | c::d::t=>by
  show (rndL (d::t) e).length+1=_
  rw [rndL_len e (d::t)]
  rfl
theorem rndL_zip (e:Int):∀ (l:List Int) (z:Int),rndL (l++[z]) e=((l++[z]).zip (l++[z]).tail).map (fun p=>(p.2,p.1))++[(e,z)]
 | [],z=>rfl
 | [c],z=>rfl
 | c::d::t,z=>by
  have ih:=rndL_zip e (d::t) z
  show (d,c)::rndL ((d::t)++[z]) e=_
  rw [ih]
  rfl
theorem rndL_in (e:Int):∀ (l:List Int),∀ p∈rndL l e,(p.1=e∨p.1∈l)∧p.2∈l
 | [],p,h=>absurd h List.not_mem_nil
 | [c],p,h=>by rw [List.mem_singleton.mp h];simp
 | c::d::t,p,h=>by
  rcases List.mem_cons.mp h with rfl|h
  ·simp
  ·obtain ⟨h1,h2⟩:=rndL_in e (d::t) p h
   exact ⟨h1.imp id (List.mem_cons_of_mem _),List.mem_cons_of_mem _ h2⟩
theorem rnd_run {kv:List (Int × Int)}{e z:Int}:∀ (t:List Int) (c:Int) (s:Int->Int),(∀ x∈c::t,s x=x)->(c::t).Nodup->e ∉ c::t->s e=z->Pth (lookI kv) (c::t) z->∀ x,runS s (rndL (c::t) e) x=if x∈c::t then fhat kv x else s x
 | [],c,s,hs,hn,he,hz,hp,x=>by
  show (if x=c then s e else s x)=_
  have h1:fhat kv c=z:=fhat_of hp
  by_cases hx:x=c
  ·rw [if_pos hx,if_pos (by rw [hx];simp),hz,hx,h1]
  ·rw [if_neg hx,if_neg (by simpa using hx)]
 | d::t,c,s,hs,hn,he,hz,hp,x=>by
  have hn':=List.nodup_cons.mp hn
  show runS (fun x=>if x=c then s d else s x) (rndL (d::t) e) x=_
  have hec:¬ e=c:=fun z=>he (by rw [z];exact List.mem_cons_self)
  rw [rnd_run t d _ (fun y hy=>?_) hn'.2 (fun m=>he (List.mem_cons_of_mem _ m)) (by show (if e=c then _ else _)=z;rw [if_neg hec];exact hz) hp.2]
  ·by_cases hx:x=c
   ·have h1:x ∉ d::t:=fun m=>hn'.1 (by rw [←hx];exact m)
    rw [if_neg h1]
    show (if x=c then s d else s x)=_
    rw [if_pos hx,if_pos (by rw [hx];exact List.mem_cons_self),hs d (by simp),hx,fhat_of hp.1]
   ·have h2:x∈c::d::t ↔ x∈d::t:=by rw [List.mem_cons];simp [hx]
    simp only [h2,if_neg hx]
  ·have hyc:¬ y=c:=fun z=>hn'.1 (by rw [←z];exact hy)
   show (if y=c then s d else s y)=y
   rw [if_neg hyc]
   exact hs y (List.mem_cons_of_mem _ hy)
def RwOne (kv:List (Int × Int)) (D:List Int) (p:List Int × Bool) (rs:List (Int × Int)):Prop:=(p.2=true∧rs=(p.1.headD 0,-1)::rndL p.1 (-1))∨(p.2=false∧∃ a r0 b e,p.1=a++r0::b∧e∈D∧lookI kv e=some r0∧rs=rndL (r0::b++a) e)
theorem RwOne.len {kv:List (Int × Int)}{D:List Int}{p:List Int × Bool}{rs:List (Int × Int)}(h:RwOne kv D p rs):rs.length=p.1.length+(if p.2=true then 1 else 0):=by
 rcases h with ⟨h1,h2⟩|⟨h1,a,r0,b,e,h2,_,_,h3⟩
 ·rw [h2,List.length_cons,rndL_len,if_pos h1]
 ·rw [h3,rndL_len,if_neg (by rw [h1];exact Bool.false_ne_true),h2,List.length_append,List.length_append];omega
def InK (kv:List (Int × Int)) (x:Int):Prop:=x=-1∨x∈kv.map (·.1)∨x∈kv.map (·.2)
theorem RwOne.ink {kv:List (Int × Int)}{D:List Int}{p:List Int × Bool}{rs:List (Int × Int)}(h:RwOne kv D p rs) (hr:RingL (lookI kv) p.1):∀ q∈rs,InK kv q.1∧InK kv q.2:=by
 have hk:∀ x∈p.1,InK kv x:=fun x hx=>by
  obtain ⟨d,h1,_⟩:=hr.1.mem hx
  exact .inr (.inl (look_some.mp (by rw [h1];rfl)))
 rcases h with ⟨h1,rfl⟩|⟨h1,a,r0,b,e,h2,he,hf,rfl⟩
 ·intro q hq
  rcases List.mem_cons.mp hq with rfl|hq
  ·exact ⟨hk _ hr.head_mem,.inl rfl⟩
  ·obtain ⟨g1,g2⟩:=rndL_in _ _ q hq
   exact ⟨g1.elim .inl (hk _),hk _ g2⟩
 ·intro q hq
  have pm:∀ x,x∈r0::b++a->x∈p.1:=fun x hx=>by rw [h2];rw [List.mem_append] at hx ⊢;exact hx.symm
  obtain ⟨g1,g2⟩:=rndL_in _ _ q hq
  refine ⟨g1.elim (fun z=>?_) fun z=>hk _ (pm _ z),hk _ (pm _ g2)⟩
  rw [z]
  exact .inr (.inl (look_some.mp (by rw [hf];rfl)))
def StR (kv:List (Int × Int)) (D:List Int) (Lp:List (List Int × Bool)) (rows:List (Int × Int)):Prop:=∀ x,x ≠ -1->runS id rows x=if x∈D∨∃ p∈Lp,x∈p.1 then fhat kv x else x
theorem StR.add {kv:List (Int × Int)}{D:List Int}{Lp:List (List Int × Bool)}{rows rs:List (Int × Int)}{p:List Int × Bool}(h:StR kv D Lp rows) (hr:RingL (lookI kv) p.1) (hD:∀ x∈p.1,x ∉ D) (hL:∀ q∈Lp,∀ x∈p.1,x ∉ q.1) (h1:-1 ∉ p.1) (hD1:-1 ∉ D) (hw:RwOne kv D p rs):StR kv D (Lp++[p]) (rows++rs):=by
 have old:∀ x∈p.1,runS id rows x=x:=fun x hx=>by
  rw [h x (fun z=>h1 (by rw [←z];exact hx)),if_neg]
  rintro (m|⟨q,hq,m⟩)
  ·exact hD x hx m
  ·exact hL q hq x hx m
 have fin:∀ s:Int->Int,(∀ x,s x=if x∈p.1 then fhat kv x else runS id rows x)->∀ x,x ≠ -1->s x=if x∈D∨∃ q∈Lp++[p],x∈q.1 then fhat kv x else x:=by
  intro s hs x hx
  rw [hs x]
  by_cases m:x∈p.1
  ·rw [if_pos m,if_pos (.inr ⟨p,by simp,m⟩)]
  ·rw [if_neg m,h x hx]
   have:(x∈D∨∃ q∈Lp++[p],x∈q.1) ↔ (x∈D∨∃ q∈Lp,x∈q.1):=by
    constructor
    ·rintro (z|⟨q,hq,z⟩)
     ·exact .inl z
     ·rcases List.mem_append.mp hq with hq|hq
      ·exact .inr ⟨q,hq,z⟩
      ·rw [List.mem_singleton.mp hq] at z;exact absurd z m
    ·rintro (z|⟨q,hq,z⟩)
     ·exact .inl z
     ·exact .inr ⟨q,List.mem_append_left _ hq,z⟩
   simp only [this]
 rcases hw with ⟨_,rfl⟩|⟨_,a,r0,b,e,hp,he,hf,rfl⟩
 ·intro x hx
  rw [runS_app]
  obtain ⟨c,t,hct,hpth,hnd⟩:=hr.1
  have hh:p.1.headD 0=c:=by rw [hct];rfl
  show runS (fun y=>if y=-1 then runS id rows (p.1.headD 0) else runS id rows y) (rndL p.1 (-1)) x=_
  rw [hct,rnd_run (kv:=kv) (z:=c) t c _ (fun y hy=>?_) hnd (by rw [←hct];exact h1) (by show (if (-1:Int)=-1 then _ else _)=c;rw [if_pos rfl,←hct,hh];exact old c (by rw [hct];simp)) hpth]
  ·have:=fin (fun x=>if x∈p.1 then fhat kv x else runS id rows x) (fun _=>rfl) x hx
   rw [←this]
   show (if x∈c::t then fhat kv x else if x=-1 then _ else runS id rows x)=(if x∈p.1 then _ else _)
   rw [if_neg hx,hct]
  ·have hy':y∈p.1:=by rw [hct];exact hy
   show (if y=-1 then _ else runS id rows y)=y
   rw [if_neg fun z=>h1 (by rw [←z];exact hy')]
   exact old y hy'
 ·intro x hx
  rw [runS_app]
  have rr:Ring (lookI kv) (r0::b++a):=by have:=hr.1;rw [hp] at this;exact this.rot
  have pm:∀ x,x∈r0::b++a ↔ x∈p.1:=fun x=>by rw [hp,List.mem_append,List.mem_append];exact Or.comm
  obtain ⟨c,t,hct,hpth,hnd⟩:=rr
  obtain ⟨rfl,rfl⟩:=List.cons.inj hct
  have hse:runS id rows e=r0:=by
   rw [h e (fun z=>hD1 (by rw [←z];exact he)),if_pos (.inl he),fhat_of hf]
  have hep:e ∉ r0::(b++a):=fun m=>hD e ((pm e).mp m) he
  show runS (runS id rows) (rndL (r0::(b++a)) e) x=_
  rw [rnd_run (kv:=kv) (z:=r0) (b++a) r0 _ (fun y hy=>old y ((pm y).mp hy)) hnd hep hse hpth]
  have:=fin (fun x=>if x∈p.1 then fhat kv x else runS id rows x) (fun _=>rfl) x hx
  rw [←this]
  have e2:x∈r0::(b++a) ↔ x∈p.1:=pm x
  simp only [e2]
theorem ring_least {f:Int->Option Int}{l:List Int}(h:Ring f l) (h2:2≤l.length):∃ l',RingL f l'∧l'.Perm l:=by
 have hne:l ≠ []:=h.ne
 obtain ⟨M,hM,hm⟩:∃ M∈l,∀ x∈l,M≤x:=by
  have:∀ l:List Int,l ≠ []->∃ M∈l,∀ x∈l,M≤x:=by
   intro l
   induction l with
   | nil=>intro h;exact absurd rfl h
   | cons y l ih=>
    intro _
    by_cases e:l=[]
    ·subst e;exact ⟨y,by simp,fun x hx=>by rw [List.mem_singleton.mp hx];exact Int.le_refl _⟩
    ·obtain ⟨M,h1,h2⟩:=ih e
     by_cases hy:y≤M
     ·exact ⟨y,by simp,fun x hx=>(List.mem_cons.mp hx).elim (fun z=>by rw [z];exact Int.le_refl _) fun z=>Int.le_trans hy (h2 x z)⟩
     ·exact ⟨M,List.mem_cons_of_mem _ h1,fun x hx=>(List.mem_cons.mp hx).elim (fun z=>by rw [z];omega) (h2 x)⟩
  exact this l hne
 obtain ⟨a,b,e⟩:=List.append_of_mem hM
 exact ⟨(M::b)++a,rotL h h2 e rfl hm,by rw [e];exact List.perm_append_comm⟩
def wrN (kv:List (Int × Int)):Nat:=(kv.filter fun p=>!decide (p.2=p.1)).length
def RwsOf (kv rows:List (Int × Int)):Prop:=(∀ x,x ≠ -1->runS id rows x=fhat kv x)∧(∀ q∈rows,InK kv q.1∧InK kv q.2)∧∀ L,RingsOf (lookI kv) (kv.map (·.1)) L->rows.length=wrN kv+(L.filter (·.2)).length
theorem wr_filter {kv:List (Int × Int)}(hn:NdK kv) (x:Int):x∈(kv.filter fun p=>!decide (p.2=p.1)).map (·.1) ↔ WrP kv x:=by
 constructor
 ·intro h
  obtain ⟨p,hp,rfl⟩:=List.mem_map.mp h
  obtain ⟨h1,h2⟩:=List.mem_filter.mp hp
  exact ⟨p.2,look_of hn h1,by simpa using h2⟩
 ·rintro ⟨d,h1,h2⟩
  exact List.mem_map.mpr ⟨(x,d),List.mem_filter.mpr ⟨look_mem h1,by simpa using h2⟩,rfl⟩
theorem flat_nd:∀ {L:List (List Int × Bool)},(∀ p∈L,p.1.Nodup)->L.Pairwise (fun p q=>∀ x∈p.1,x ∉ q.1)->(L.flatMap (·.1)).Nodup
 | [],_,_=>List.nodup_nil
 | p::L,h1,h2=>by
  obtain ⟨a,b⟩:=List.pairwise_cons.mp h2
  rw [List.flatMap_cons,List.nodup_append]
  refine ⟨h1 p List.mem_cons_self,flat_nd (fun q hq=>h1 q (List.mem_cons_of_mem _ hq)) b,fun x hx y hy e=>?_⟩
  obtain ⟨q,hq,hyq⟩:=List.mem_flatMap.mp hy
  exact a q hq x hx (by rw [e];exact hyq)
theorem rings_apart {kv:List (Int × Int)}{L:List (List Int × Bool)}(h:RingsOf (lookI kv) (kv.map (·.1)) L):L.Pairwise (fun p q=>∀ x∈p.1,x ∉ q.1):=by
 have h1:=h.1
 have h2:=h.2.1
 clear h
 induction L with
 | nil=>exact .nil
 | cons p L ih=>
  obtain ⟨a,b⟩:=List.pairwise_cons.mp h1
  refine List.pairwise_cons.mpr ⟨fun q hq x hx hxq=>?_,ih b fun q hq=>h2 q (List.mem_cons_of_mem _ hq)⟩
  have e:=ringL_eq (h2 p List.mem_cons_self).1 (h2 q (List.mem_cons_of_mem _ hq)).1 hx hxq
  have:=a q hq
  rw [e] at this
  omega
theorem rows_fin {kv rows:List (Int × Int)}(hn:NdK kv){D:List Int}(b:BsI kv D []){L:List (List Int × Bool)}(hL:RingsOf (lookI kv) (kv.map (·.1)) L) (st:StR kv D L rows) (ik:∀ q∈rows,InK kv q.1∧InK kv q.2) (hlen:rows.length=D.length+(L.map fun p=>p.1.length+if p.2=true then 1 else 0).sum):RwsOf kv rows:=by
 have dich:∀ x,WrP kv x ↔ (x∈D∨∃ p∈L,x∈p.1):=by
  intro x
  constructor
  ·intro hw
   by_cases m:x∈D
   ·exact .inl m
   ·obtain ⟨l,h1,h2,h3⟩:=b.left hn hw m
    obtain ⟨l',h4,h5⟩:=ring_least h1 h2
    obtain ⟨bb,hb⟩:=hL.2.2 l' h4
    exact .inr ⟨(l',bb),hb,h5.mem_iff.mpr h3⟩
  ·rintro (m|⟨p,hp,m⟩)
   ·exact b.wr x m
   ·have rl:=(hL.2.1 p hp).1
    obtain ⟨d,h1,h2⟩:=rl.1.mem m
    refine ⟨d,h1,fun e=>?_⟩
    subst e
    obtain ⟨t,r,pm⟩:=rl.1.from m
    obtain ⟨_,_,e,hpth,hnd⟩:=id r
    obtain ⟨rfl,rfl⟩:=List.cons.inj e
    cases t with
    | nil=>have:=pm.length_eq;have:=rl.2.1;simp at *;omega
    | cons y t=>
     have h3:=hpth.1
     rw [h1] at h3
     rw [List.nodup_cons] at hnd
     exact hnd.1 (by rw [Option.some.inj h3];exact List.mem_cons_self)
 refine ⟨fun x hx=>?_,ik,fun L2 hL2=>?_⟩
 ·rw [st x hx]
  by_cases hw:WrP kv x
  ·rw [if_pos ((dich x).mp hw)]
  ·rw [if_neg fun z=>hw ((dich x).mpr z)]
   unfold fhat
   cases e:lookI kv x with
   | none=>rfl
   | some d=>
    show x=d
    by_cases hd:d=x
    ·exact hd.symm
    ·exact absurd ⟨d,e,hd⟩ hw
 ·obtain rfl:=hL.eq hL2
  have nd1:(D++L.flatMap (·.1)).Nodup:=by
   rw [List.nodup_append]
   refine ⟨b.dn,flat_nd (fun p hp=>(hL.2.1 p hp).1.1.nodup) (rings_apart hL),fun x hx y hy e=>?_⟩
   obtain ⟨p,hp,hyp⟩:=List.mem_flatMap.mp hy
   exact b.ring hn (hL.2.1 p hp).1.1 (hL.2.1 p hp).1.2.1 y hyp (by rw [←e];exact hx)
  have nd2:((kv.filter fun p=>!decide (p.2=p.1)).map (·.1)).Nodup:=List.Sublist.nodup (List.Sublist.map _ List.filter_sublist) hn
  have mm:∀ x,x∈D++L.flatMap (·.1) ↔ x∈(kv.filter fun p=>!decide (p.2=p.1)).map (·.1):=fun x=>by
   rw [wr_filter hn,dich,List.mem_append,List.mem_flatMap]
  have l1:=nd_len nd1 fun x hx=>(mm x).mp hx
  have l2:=nd_len nd2 fun x hx=>(mm x).mpr hx
  rw [List.length_map] at l1 l2
  have e1:(D++L.flatMap (·.1)).length=wrN kv:=by unfold wrN;omega
  rw [List.length_append] at e1
  have e2:∀ L:List (List Int × Bool),(L.map fun p=>p.1.length+if p.2=true then 1 else 0).sum=(L.flatMap (·.1)).length+(L.filter (·.2)).length:=by
   intro L
   induction L with
   | nil=>rfl
   | cons p L ih=>
    rw [List.map_cons,List.sum_cons,ih,List.flatMap_cons,List.length_append,List.filter_cons]
    split
    ·rename_i h;rw [List.length_cons];omega
    ·omega
  rw [hlen,e2]
  omega
theorem rdr_snoc (l:List (Int × Int)) (p:Int × Int) (o:Int):rdr (l++[p]) [] o=rdr l [] o+(if p.2=o∧p.1 ≠ o then 1 else 0):=by
 unfold rdr rdL
 rw [List.filter_append,List.length_append]
 congr 1
 by_cases h:p.2=o∧p.1 ≠ o
 ·rw [if_pos h]
  simp [h.1,h.2]
 ·rw [if_neg h]
  have:(decide (p.2=o) && (!decide (p.1=o) && !decide (p.1∈([]:List Int))))=false:=by
   by_cases h1:p.2=o
   ·have h2:p.1=o:=Classical.byContradiction fun z=>h ⟨h1,z⟩
    simp [h2]
   ·simp [h1]
  rw [List.filter_cons,this]
  rfl
def rdV (kv:List (Int × Int)) (D:List Int) (o:Int):Option Int:=if rdr kv [] o=0 then none else some (rdr kv D o:Int)
structure RdI (l:List (Int × Int)) (rv:List (Int × Int)):Prop where
 nd:NdK rv
 len:rv.length≤l.length
 val:∀ o,lookI rv o=rdV l [] o
theorem RdI.nil:RdI [] []:=⟨List.nodup_nil,Nat.le_refl _,fun o=>rfl⟩
theorem RdI.skip {l rv:List (Int × Int)}(h:RdI l rv){p:Int × Int}(e:p.1=p.2):RdI (l++[p]) rv:=by
 refine ⟨h.nd,by rw [List.length_append];have:=h.len;omega,fun o=>?_⟩
 have h0:rdr (l++[p]) [] o=rdr l [] o:=by rw [rdr_snoc,if_neg (show ¬ (p.2=o∧p.1 ≠ o) from fun z=>z.2 (e.trans z.1)),Nat.add_zero]
 rw [h.val o]
 unfold rdV
 rw [h0]
theorem RdI.put {l rv:List (Int × Int)}(h:RdI l rv){p:Int × Int}(e:¬ p.1=p.2):RdI (l++[p]) (putI rv p.2 ((lookI rv p.2).getD 0+1)):=by
 refine ⟨putI_nodup h.nd _ _,?_,fun o=>?_⟩
 ·have:=putI_len rv p.2 ((lookI rv p.2).getD 0+1)
  rw [List.length_append]
  have:=h.len
  simp
  omega
 ·rw [look_put]
  by_cases ho:o=p.2
  ·subst ho
   have h0:rdr (l++[p]) [] p.2=rdr l [] p.2+1:=by rw [rdr_snoc,if_pos ⟨rfl,e⟩]
   rw [if_pos rfl,h.val]
   unfold rdV
   rw [h0,if_neg (show ¬ (rdr l [] p.2+1=0) by omega)]
   by_cases hz:rdr l [] p.2=0
   ·rw [if_pos hz,hz];rfl
   ·rw [if_neg hz]
    show some ((rdr l [] p.2:Int)+1)=some (((rdr l [] p.2+1:Nat)):Int)
    congr 1
  ·have h0:rdr (l++[p]) [] o=rdr l [] o:=by rw [rdr_snoc,if_neg (show ¬ (p.2=o∧p.1 ≠ o) from fun z=>ho z.1.symm),Nat.add_zero]
   rw [if_neg ho,h.val]
   unfold rdV
   rw [h0]
abbrev B_spRO  (d:Addr) (H:Hp) (Q:VK) (E:XK):Prop:=∃ kv:List (Int × Int),H d=some (.dK (tabI kv))∧kv.length≤4200∧∀ (rv:List (Int × Int)) (r:Addr) (H':Hp),RdI kv rv->H r=none->Ext H H'->H' r=some (.dK (tabI rv))->Q (.ref r) H'
def spRO  : Sp:=fun vs H Q E=>∃ (d:Addr),vs=[.ref d]∧(B_spRO  d H Q E)
theorem c_spRO  (d:Addr) (H:Hp) (Q:VK) (E:XK):spRO  [.ref d] H Q E=(B_spRO  d H Q E):=spx1 (f:=fun (d:Addr)=>[.ref d]) (fun _ _ h=>by cases h;exact rfl) d
theorem l_spRO  {vs:List V}{H:Hp}{Q:VK}{E:XK}(h:spRO  vs H Q E):vs.length=1:=spl1 h fun _=>rfl
theorem ok_readers_of (T:Tx K mg t):FnOk P w K mg base CX0 1 t.a_readers_of t.d_readers_of ["found"] spRO:=by
 refine T.F_readers_of.ok c_readers_of (fun vs H Q E h=>l_spRO h) (fun cdv A outer s' H vs Q E hr h=>?_)
 ·obtain ⟨d,rfl,kv,hd,hl,k⟩:=h
  refine ⟨_,(@pss_cons _ _ _ _ _ (@ps_set _ _ (1) _ _ _ _ c_readers_of.nd rfl (Or.inl rfl) (@pe_nDNew _ _) (by rfl) (by trivial)) (@pss_cons _ _ _ _ _ (@ps_thaw _ _ _ (@ps_for _ _ _ _ _ _ _ _ PassesOwn.never rfl (@pi_items _ _ _ _ _ _ _ _ (@pvN _ 0 _ _ (by rfl) (by trivial) (by decide) (by decide)) (by rfl) (by rfl)) ((@pg_tup _ _ _ _ _ (2) rfl (@pgs_consN _ _ _ _ _ (@pg_name _ _ (2) _ c_readers_of.nd rfl (Or.inl rfl) (by trivial)) (@pgs_consN _ _ _ _ _ (@pg_name _ _ (3) _ c_readers_of.nd rfl (Or.inl rfl) (by trivial)) (@pgs_nilN _) (by rfl)) (by rfl)) (by rfl) (by rfl)).mono fun _ _ _ _ h=>gTup_q h) (@pss_one _ _ _ (@ps_if _ _ _ _ _ _ _ _ (@pt_cmpRN _ _ _ _ _ _ _ _ (op_qNe hr.units) (@pvN _ 2 _ _ (by rfl) (by trivial) (by decide) (by decide)) (@pvN _ 3 _ _ (by rfl) (by trivial) (by decide) (by decide)) (nomark _)) (@pss_one _ _ _ (@ps_dput _ _ _ _ _ _ _ _ _ (units1 hr.units) (@pvN _ 1 _ _ (by rfl) (by trivial) (by decide) (by decide)) (@pvN _ 3 _ _ (by rfl) (by trivial) (by decide) (by decide)) (@pe_op _ _ _ _ _ _ _ _ on_add (@pe_dget2 _ _ _ _ _ _ _ _ _ (units1 hr.units) (@pvN _ 1 _ _ (by rfl) (by trivial) (by decide) (by decide)) (@pvN _ 3 _ _ (by rfl) (by trivial) (by decide) (by decide)) (@pe_int _ _ _ _) ⟨by rfl,by rfl,by rfl,by rfl⟩) (@pe_int _ _ _ _)) rfl)) (@pss_nil _))) (by intros;rfl))) (@pss_one _ _ _ (@ps_ret _ _ _ _ (@pvN _ 1 _ _ (by rfl) (by trivial) (by decide) (by decide)))))),?_⟩
  rw [show start ["found", "readers", "cell", "origin"] [.ref d]=[some (.ref d),none,none,none] from rfl]
  simp! only [and_true]
  intro l H1 hl1 e1 h1
  have d1:=e1.at hd
  have ndl:d ≠ l:=fun z=>by rw [z,hl1] at hd;cases hd
  simp! only [and_true]
  refine for_items (fun ob i σ H'=>∃ (v3 v4:Option V) (rv:List (Int × Int)),σ=[some (.ref d),some (.ref l),v3,v4]∧Ext (upd H d (.frz ob (.dK (tabI kv)))) H'∧H' l=some (.dK (tabI rv))∧RdI (kv.take i) rv) d1 (fun ob=>⟨none,none,[],rfl,ext_upd e1 _ _,by rw [upd_ne (Ne.symm ndl)];exact h1,by rw [List.take_zero];exact RdI.nil⟩) (fun ob i σ' H' ⟨_,_,_,_,e,_⟩=>e.at upd_same) ?_ ?_
  ·rintro ob i z p _ H2 H3 hz ⟨v3,v4,rv,rfl,e2,l2,di⟩ hp e3 h3
   obtain ⟨y,hy,rfl⟩:∃ y,kv[i]? = some y∧z=((Sum.inl y.1:Key),V.int y.2):=by
    unfold tabI at hz
    rw [List.getElem?_map] at hz
    obtain ⟨y,h1,h2⟩:=Option.map_eq_some_iff.mp hz
    exact ⟨y,h1,h2.symm⟩
   have ht:kv.take (i+1)=kv.take i++[y]:=by rw [List.take_add_one,hy];rfl
   obtain ⟨c,o⟩:=y
   have l3:=e3.at l2
   have e23:=e2.trans e3
   have hlu:upd H d (.frz ob (.dK (tabI kv))) l=none:=by rw [upd_ne (Ne.symm ndl)];exact hl1
   rw [show kV ((Sum.inl (c,o).1:Key),V.int (c,o).2).1=V.int c from rfl] at h3
   have hl5:(tabI rv).length < sizeLine:=lt5000 (by rw [tab_len];have:=di.len;rw [List.length_take] at this;omega)
   replace ht:=fun (_:Unit)=>ht
   clear hz hy d1 h1 k hd l2
   by_cases e:c=o
   ·have di2:=di.skip (p:=(c,o)) e
    rw [←ht ()] at di2
    subst e
    replace di:=fun (_:Unit)=>di
    simp! only [and_true]
    exact ⟨_,_,rv,rfl,e23,rfl,di2⟩
   ·have di2:=di.put (p:=(c,o)) e
    rw [←ht ()] at di2
    replace di:=fun (_:Unit)=>di
    replace di2:=fun (_:Unit)=>di2
    simp! only [and_true]
    refine use_ge0 l3 ?_
    simp! only [and_true]
    refine use_ge (k:=.inl o) l3 ?_
    rw [val_tab,show ((lookI rv o).map V.int).getD (.int 0)=.int ((lookI rv o).getD 0) by cases lookI rv o<;>rfl]
    simp! only [and_true]
    refine use_dp (k:=.inl o) l3 hl5 ?_
    rw [put_tabI]
    exact ⟨_,_,_,rfl,e23.put hlu,upd_same,di2 ()⟩
  ·rintro ob _ H2 ⟨v3,v4,rv,rfl,e2,l2,di⟩
   rw [tab_len,List.take_length] at di
   have e4:=Ext.thaw hd e2
   have l4:upd H2 d (.dK (tabI kv)) l=some (.dK (tabI rv)):=by rw [upd_ne (Ne.symm ndl)];exact l2
   generalize upd H2 d (.dK (tabI kv))=H4 at e4 l4
   replace di:=fun (_:Unit)=>di
   simp! only [and_true]
   exact k rv l H4 (di ()) hl1 e4 l4
theorem setC_thaw (i:Nat) (σ:St) (H:Hp) (nx:St->Hp->Prop):kSetC i σ (kThS H nx)=kThaw H (kSetC i σ nx):=rfl
def twR (p:Int × Int) (y:V) (H:Hp):Prop:=∃ q,y=.ref q∧H q=some (.tup [.int p.1,.int p.2])
theorem twR.ext {p:Int × Int}{y:V}{H H':Hp}(h:twR p y H) (e:Ext H H'):twR p y H':=by
 obtain ⟨q,h1,h2⟩:=h
 exact ⟨q,h1,e.at h2⟩
theorem twR.upd {p:Int × Int}{y:V}{H:Hp}{r:Addr}{xs ys:List V}(h:twR p y H) (hr:H r=some (.lst xs)):twR p y (upd H r (.lst ys)):=by
 obtain ⟨q,h1,h2⟩:=h
 exact ⟨q,h1,by rw [upd_ne fun z=>by rw [z,hr] at h2;cases h2];exact h2⟩
theorem twR.updD {p:Int × Int}{y:V}{H:Hp}{r:Addr}{xs ys:List (Key × V)}(h:twR p y H) (hr:H r=some (.dK xs)):twR p y (L2.upd H r (.dK ys)):=by
 obtain ⟨q,h1,h2⟩:=h
 exact ⟨q,h1,by rw [upd_ne fun z=>by rw [z,hr] at h2;cases h2];exact h2⟩
def TwL (H:Hp) (r:Addr) (rows:List (Int × Int)):Prop:=∃ ys,H r=some (.lst ys)∧Al (fun p y=>twR p y H) rows ys
theorem TwL.ext {H H':Hp}{r:Addr}{rows:List (Int × Int)}(h:TwL H r rows) (e:Ext H H'):TwL H' r rows:=by
 obtain ⟨ys,h1,h2⟩:=h
 exact ⟨ys,e.at h1,h2.imp fun _ _ q=>q.ext e⟩
theorem BsI.len {kv:List (Int × Int)}{D fr:List Int}(b:BsI kv D fr):D.length≤kv.length∧fr.length≤kv.length:=by
 have f:∀ l:List Int,l.Nodup->(∀ c∈l,WrP kv c)->l.length≤kv.length:=fun l h1 h2=>by
  have:=nd_len h1 (b:=kv.map (·.1)) fun x hx=>by
   obtain ⟨d,h,_⟩:=h2 x hx
   exact look_some.mp (by rw [h];rfl)
  simpa using this
 exact ⟨f D b.dn b.wr,f fr b.fn fun c hc=>((b.fi c).mp hc).2.1⟩
structure RdJ (kv:List (Int × Int)) (D:List Int) (rv:List (Int × Int)):Prop where
 nd:NdK rv
 len:rv.length≤kv.length
 val:∀ o,lookI rv o=rdV kv D o
def fr0 (kv rv:List (Int × Int)):List Int:=(kv.filter fun p=>!decide (p.2=p.1) && !(lookI rv p.1).isSome).map (·.1)
theorem BsI.ini {kv rv:List (Int × Int)}(hn:NdK kv) (h:RdI kv rv):BsI kv [] (fr0 kv rv):=by
 refine ⟨List.nodup_nil,fun _ h=>absurd h List.not_mem_nil,fun D0 d D1 e=>?_,List.Sublist.nodup (List.Sublist.map _ List.filter_sublist) hn,fun c=>?_⟩
 ·have:=congrArg List.length e
  simp at this
 ·unfold fr0
  have hz:(lookI rv c).isSome=false ↔ rdr kv [] c=0:=by
   rw [h.val]
   unfold rdV
   by_cases z:rdr kv [] c=0
   ·rw [if_pos z];simp [z]
   ·rw [if_neg z];simp [z]
  constructor
  ·intro hm
   obtain ⟨p,hp,rfl⟩:=List.mem_map.mp hm
   obtain ⟨h1,h2⟩:=List.mem_filter.mp hp
   simp only [Bool.and_eq_true,Bool.not_eq_true',decide_eq_false_iff_not] at h2
   exact ⟨List.not_mem_nil,⟨p.2,look_of hn h1,h2.1⟩,hz.mp h2.2⟩
  ·rintro ⟨_,⟨d,h1,h2⟩,h3⟩
   refine List.mem_map.mpr ⟨(c,d),List.mem_filter.mpr ⟨look_mem h1,?_⟩,rfl⟩
   simp only [Bool.and_eq_true,Bool.not_eq_true',decide_eq_false_iff_not]
   exact ⟨h2,hz.mpr h3⟩
def fr0C (rv:List (Int × Int)) (z:Key × V):Bool:=match z with
 | (.inl a,.int b)=>!decide (b=a) && !(lookI rv a).isSome
 | _=>false
theorem fr0_map (rv:List (Int × Int)):∀ kv:List (Int × Int),((tabI kv).filter (fr0C rv)).map (fun z=>kV z.1)=(fr0 kv rv).map V.int
 | []=>rfl
 | p::kv=>by
  have ih:=fr0_map rv kv
  unfold fr0 at ih ⊢
  show (((Sum.inl p.1,V.int p.2)::tabI kv).filter (fr0C rv)).map (fun z=>kV z.1)=_
  rw [List.filter_cons,List.filter_cons]
  have e:fr0C rv ((Sum.inl p.1:Key),V.int p.2)=(!decide (p.2=p.1) && !(lookI rv p.1).isSome):=rfl
  rw [e]
  split
  ·rw [List.map_cons,List.map_cons,List.map_cons,ih]
   rfl
  ·exact ih
theorem BsI.rd {kv rv:List (Int × Int)}{D fr:List Int}{c o:Int}(j:RdJ kv D rv) (hc:lookI kv c=some o) (hco:o ≠ c) (st:∀ x,rdr kv (D++[c]) x+(if x=o then 1 else 0)=rdr kv D x):lookI rv o=some ((rdr kv (D++[c]) o:Int)+1)∧RdJ kv (D++[c]) (putI rv o ((rdr kv (D++[c]) o:Int)+1 - 1)):=by
 have h1:¬ rdr kv [] o=0:=fun z=>by
  have:=rdr_zero.mp z (c,o) (look_mem hc) rfl (fun e=>hco e.symm)
  exact absurd this List.not_mem_nil
 have h2:=st o
 rw [if_pos rfl] at h2
 have h3:lookI rv o=some ((rdr kv (D++[c]) o:Int)+1):=by
  rw [j.val]
  unfold rdV
  rw [if_neg h1,←h2]
  rfl
 refine ⟨h3,putI_nodup j.nd _ _,?_,fun x=>?_⟩
 ·have h4:=putI_keys (v:=(rdr kv (D++[c]) o:Int)+1 - 1) (show (lookI rv o).isSome=true by rw [h3];rfl)
  have h5:=congrArg List.length h4
  rw [List.length_map,List.length_map] at h5
  rw [h5]
  exact j.len
 ·rw [look_put,j.val]
  unfold rdV
  by_cases hx:x=o
  ·rw [if_pos hx,hx,if_neg h1]
   congr 1
   omega
  ·rw [if_neg hx]
   have:=st x
   rw [if_neg hx,Nat.add_zero] at this
   rw [this]
abbrev B_spRB  (d:Addr) (H:Hp) (Q:VK) (E:XK):Prop:=∃ kv:List (Int × Int),H d=some (.dK (tabI kv))∧NdK kv∧kv.length≤4200∧∀ (D:List Int) (r:Addr) (H':Hp),BsI kv D []->H r=none->Ext H H'->TwL H' r (rowsD kv D)->Q (.ref r) H'
def spRB  : Sp:=fun vs H Q E=>∃ (d:Addr),vs=[.ref d]∧(B_spRB  d H Q E)
theorem c_spRB  (d:Addr) (H:Hp) (Q:VK) (E:XK):spRB  [.ref d] H Q E=(B_spRB  d H Q E):=spx1 (f:=fun (d:Addr)=>[.ref d]) (fun _ _ h=>by cases h;exact rfl) d
theorem l_spRB  {vs:List V}{H:Hp}{Q:VK}{E:XK}(h:spRB  vs H Q E):vs.length=1:=spl1 h fun _=>rfl
theorem ok_rows_beside_rings (T:Tx K mg t):FnOk P w K mg base CX0 2 t.a_rows_beside_rings t.d_rows_beside_rings ["found"] spRB:=by
 have G_readers_of:=ok_readers_of (P:=P) (w:=w) (base:=base) T
 refine T.F_rows_beside_rings.ok c_rows_beside_rings (fun vs H Q E h=>l_spRB h) (fun cdv A outer s' H vs Q E hr h=>?_)
 ·obtain ⟨d,rfl,kv,hd,hnd,hl,k⟩:=h
  refine ⟨_,(@pss_cons _ _ _ _ _ (@ps_set _ _ (1) _ _ _ _ c_rows_beside_rings.nd rfl (Or.inr rfl) (@pe_call _ _ _ _ _ _ _ _ _ _ _ _ _ _ _ _ G_readers_of (hr.mono (by decide)) (by rfl) T.m_readers_of T.F_readers_of.kp T.b_readers_of .nil pass0 (@pa_c _ _ _ _ _ (@pvN _ 0 _ _ (by rfl) (by trivial) (by decide) (by decide)) (@pa_nil _) (by rfl)) (by decide) (by rfl) (by rfl)) (by rfl) (by trivial)) (@pss_cons _ _ _ _ _ (@ps_thaw _ _ _ (@ps_setC _ _ _ _ _ _ _ _ _ _ _ _ _ (["cell", "found", "readers", "free", "rows", "!cell", "origin"]) (1) (2) _ c_rows_beside_rings.nd rfl (Or.inl rfl) (comp_ok (defScope s_rows_beside_rings) ["found", "readers", "free", "rows", "cell", "origin"] rfl rfl (by decide +kernel)) rfl (@pi_dict _ _ _ _ (@pvN _ 0 _ _ (by rfl) (by trivial) (by decide) (by decide))) (fun C s₀ H₀ ex pn=>(@pg_name _ _ (0) _ (show List.Nodup (["cell", "found", "readers", "free", "rows", "!cell", "origin"]:List Str) from by decide +kernel) rfl (Or.inl rfl) (by trivial))) (fun C s₀ H₀ ex pn=>(@pts_one _ _ _ (PW.pt (@pw_and _ _ _ _ _ _ _ (@pt_cmpRN _ _ _ _ _ _ _ _ (op_qNe hr.units) (@pe_dget _ _ _ _ _ _ (units1 hr.units) (@pvN _ 1 _ _ (by rfl) (by trivial) (by decide) (by decide)) (@pvN _ 0 _ _ (by rfl) (by trivial) (by decide) (by decide)) (fun _ _=>rfl)) (@pvN _ 0 _ _ (by rfl) (by trivial) (by decide) (by decide)) (nomark _)) (@pw_and1 _ _ _ _ (@pt_cmpRN _ _ _ _ _ _ _ _ (op_notInD (units1 hr.units)) (@pvN _ 0 _ _ (by rfl) (by trivial) (by decide) (by decide)) (@pvN _ 2 _ _ (by rfl) (by trivial) (by decide) (by decide)) (by with_unfolding_all rfl))))))) (fun C s₀ H₀ ex pn=>(@pvN _ 0 _ _ (by rfl) (by trivial) (by decide) (by decide))) (by rfl) (by intros;rfl) (by trivial))) (@pss_cons _ _ _ _ _ (@ps_set _ _ (3) _ _ _ _ c_rows_beside_rings.nd rfl (Or.inl rfl) (@pe_qLst _ _ _ _ (@pa_nil _)) (by rfl) (by trivial)) (@pss_cons _ _ _ _ _ (@ps_while _ _ _ _ _ _ PassesOwn.never (@pt_cmpRN _ _ _ _ _ _ _ _ on_gt (@pe_callB _ _ _ _ _ _ _ ("len") _ call_qLen (by rfl) T.z_len (by decide +kernel) (@pa_c _ _ _ _ _ (@pvN _ 2 _ _ (by rfl) (by trivial) (by decide) (by decide)) (@pa_nil _) (by rfl)) (by decide) (by decide) (by rfl) (by rfl)) (@pe_int _ _ _ _) (nomark _)) (@pss_cons _ _ _ _ _ (@ps_set _ _ (4) _ _ _ _ c_rows_beside_rings.nd rfl (Or.inl rfl) (@pe_bm0 _ _ _ _ _ _ _ _ _ PySem.F.plainAttrs_list PySem.F.slot_list_pop PySem.F.type_list_pop mt_nPop (@pvN _ 2 _ _ (by rfl) (by trivial) (by decide) (by decide)) (by rfl) (by rfl)) (by rfl) (by trivial)) (@pss_cons _ _ _ _ _ (@ps_set _ _ (5) _ _ _ _ c_rows_beside_rings.nd rfl (Or.inl rfl) (@pe_dget _ _ _ _ _ _ (units1 hr.units) (@pvN _ 0 _ _ (by rfl) (by trivial) (by decide) (by decide)) (@pvN _ 4 _ _ (by rfl) (by trivial) (by decide) (by decide)) (fun _ _=>rfl)) (by rfl) (by trivial)) (@pss_cons _ _ _ _ _ (@ps_expr _ _ _ _ (@pe_bm _ _ _ _ _ _ _ _ _ _ _ _ PySem.F.plainAttrs_list PySem.F.slot_list_append PySem.F.type_list_append mt_append (@pvN _ 3 _ _ (by rfl) (by trivial) (by decide) (by decide)) (@pa_c _ _ _ _ _ (@pe_qTup _ _ _ _ _ (@pa_c _ _ _ _ _ (@pvN _ 5 _ _ (by rfl) (by trivial) (by decide) (by decide)) (@pa_c _ _ _ _ _ (@pvN _ 4 _ _ (by rfl) (by trivial) (by decide) (by decide)) (@pa_nil _) (by rfl)) (by rfl))) (@pa_nil _) (by rfl)) (by rfl) (by rfl) (by rfl) (by rfl) (by rfl)) (by rfl)) (@pss_cons _ _ _ _ _ (@ps_dput _ _ _ _ _ _ _ _ _ (units1 hr.units) (@pvN _ 1 _ _ (by rfl) (by trivial) (by decide) (by decide)) (@pvN _ 5 _ _ (by rfl) (by trivial) (by decide) (by decide)) (@pe_op _ _ _ _ _ _ _ _ on_sub (@pe_dget _ _ _ _ _ _ (units1 hr.units) (@pvN _ 1 _ _ (by rfl) (by trivial) (by decide) (by decide)) (@pvN _ 5 _ _ (by rfl) (by trivial) (by decide) (by decide)) (fun _ _=>rfl)) (@pe_int _ _ _ _)) rfl) (@pss_one _ _ _ (@ps_if _ _ _ _ _ _ _ _ (PW.pt (@pw_and _ _ _ _ _ _ _ (@pt_cmpRN _ _ _ _ _ _ _ _ (op_qEq hr.units) (@pe_dget _ _ _ _ _ _ (units1 hr.units) (@pvN _ 1 _ _ (by rfl) (by trivial) (by decide) (by decide)) (@pvN _ 5 _ _ (by rfl) (by trivial) (by decide) (by decide)) (fun _ _=>rfl)) (@pe_int _ _ _ _) (nomark _)) (@pw_and1 _ _ _ _ (@pt_cmpRN _ _ _ _ _ _ _ _ (op_qNe hr.units) (@pe_dget2 _ _ _ _ _ _ _ _ _ (units1 hr.units) (@pvN _ 0 _ _ (by rfl) (by trivial) (by decide) (by decide)) (@pvN _ 5 _ _ (by rfl) (by trivial) (by decide) (by decide)) (@pvN _ 5 _ _ (by rfl) (by trivial) (by decide) (by decide)) ⟨by rfl,by rfl,by rfl,by rfl⟩) (@pvN _ 5 _ _ (by rfl) (by trivial) (by decide) (by decide)) (nomark _))))) (@pss_one _ _ _ (@ps_expr _ _ _ _ (@pe_bm _ _ _ _ _ _ _ _ _ _ _ _ PySem.F.plainAttrs_list PySem.F.slot_list_append PySem.F.type_list_append mt_append (@pvN _ 2 _ _ (by rfl) (by trivial) (by decide) (by decide)) (@pa_c _ _ _ _ _ (@pvN _ 5 _ _ (by rfl) (by trivial) (by decide) (by decide)) (@pa_nil _) (by rfl)) (by rfl) (by rfl) (by rfl) (by rfl) (by rfl)) (by rfl))) (@pss_nil _)))))))) (@pss_one _ _ _ (@ps_ret _ _ _ _ (@pvN _ 3 _ _ (by rfl) (by trivial) (by decide) (by decide)))))))),?_⟩
  rw [show start ["found", "readers", "free", "rows", "cell", "origin"] [.ref d]=[some (.ref d),none,none,none,none,none] from rfl]
  clear G_readers_of
  replace hnd:=fun (_:Unit)=>hnd
  replace k:=fun (_:Unit)=>k
  simp! only [and_true]
  rw [c_spRO]
  refine ⟨kv,hd,hl,fun rv R H1 ri hR1 e1 h1=>?_⟩
  have d1:=e1.at hd
  have nRd:R ≠ d:=fun z=>by rw [z,hd] at hR1;cases hR1
  have b0:=BsI.ini (hnd ()) ri
  have j0:RdJ kv [] rv:=⟨ri.nd,ri.len,ri.val⟩
  replace b0:=fun (_:Unit)=>b0
  replace j0:=fun (_:Unit)=>j0
  clear ri
  simp! only [and_true]
  rw [setC_thaw]
  refine use_cd (fr0C rv) (fun z=>kV z.1) d1 (len5000 (by rw [tab_len];omega)) ?_ ?_
  ·intro D ob z H2 N1 N0 hz hD e2 f2 k1 k0
   obtain ⟨p,hp,rfl⟩:=List.mem_map.mp hz
   have R2:H2 R=some (.dK (tabI rv)):=e2.at (by rw [upd_ne nRd];exact h1)
   have hvv:valV (tabI kv) (.inl p.1)=some (.int p.2):=by rw [val_tab,look_of (hnd ()) (show (p.1,p.2)∈kv from hp)];rfl
   rw [show fr0C rv ((Sum.inl p.1:Key),V.int p.2)=(!decide (p.2=p.1) && !(lookI rv p.1).isSome) from rfl] at k1 k0
   rw [show kV ((Sum.inl p.1:Key),V.int p.2).1=V.int p.1 from rfl] at k1 ⊢
   generalize p.1=p1 at hvv k1 k0 ⊢
   generalize p.2=p2 at hvv k1 k0 ⊢
   replace k1:=fun (_:Unit)=>k1
   replace k0:=fun (_:Unit)=>k0
   clear hz hp h1 d1
   simp! only [↓m_kCm_1,↓m_kCm2]
   refine use_dgF (k:=.inl p1) f2 hvv ?_
   by_cases m1:p2=p1
   ·have jj:=k0 () (by simp [m1]) H2 (Ext.refl _)
    clear k0 k1
    subst m1
    simp! only [↓m_kCm_1,↓m_kCm2]
   ·simp! only [↓m_kCm_1,↓m_kCm2]
    refine use_in (k:=.inl p1) R2 ?_
    rw [val_tab]
    cases hlk:lookI rv p1 with
    | none=>
     have jj:=k1 () (by simp [m1,hlk]) H2 (Ext.refl _)
     clear k0 k1
     rw [Option.map_none]
     simp! only [↓m_kCm_1,↓m_kCm2]
    | some v=>
     have jj:=k0 () (by simp [hlk]) H2 (Ext.refl _)
     clear k0 k1
     simp! only [↓m_kCm_1,↓m_kCm2]
  ·intro F H2 hF e2 h2
   rw [fr0_map] at h2
   have R2:=e2.at h1
   have nRF:R ≠ F:=fun z=>by rw [z,hF] at h1;cases h1
   have hF0:H F=none:=e1.free hF
   generalize fr0 kv rv=fr at b0 h2
   clear d1 h1
   simp! only [and_true]
   intro W H3 hW e3 h3
   have R3:=e3.at R2
   have F3:=e3.at h2
   have e03:=e1.trans (e2.trans e3)
   have hW0:H W=none:=e1.free (e2.free hW)
   have nRW:R ≠ W:=fun z=>by rw [z,hW] at R2;cases R2
   have nFW:F ≠ W:=fun z=>by rw [z,hW] at h2;cases h2
   have tw0:Al (fun p y=>twR p y H3) (rowsD kv []) []:=Al.nil
   clear R2 h2 hF hW e1 e2 e3
   simp! only [and_true]
   refine while_w (by repeat' first|exact mo_tV|exact mo_nI0|exact mo_nI|apply mo_nTest|apply mo_unN|exact mo_var|exact mo_c|exact mo_rI0|exact mo_rI|exact mo_rIsN|exact mo_rNotN|exact mo_qEq|exact mo_qIx|exact mo_nil|exact mo_qLen|exact mo_inD|exact mo_qLenD|apply mo_dget2|apply mo_test|apply mo_tB|apply mo_not|apply mo_and|apply mo_or|apply mo_op|apply mo_un|apply mo_cons|apply mo_qLst|apply mo_cb) (fun m σ H'=>∃ (D fr:List Int) (rv:List (Int × Int)) (ys:List V) (v4 v5:Option V),σ=[some (.ref d),some (.ref R),some (.ref F),some (.ref W),v4,v5]∧m=kv.length - D.length∧BsI kv D fr∧RdJ kv D rv∧Ext H H'∧H' R=some (.dK (tabI rv))∧H' F=some (.lst (fr.map V.int))∧H' W=some (.lst ys)∧Al (fun p y=>twR p y H') (rowsD kv D) ys) _ ⟨[],fr,rv,[],none,none,rfl,rfl,b0 (),j0 (),e03,R3,F3,h3,tw0⟩ ?_
   clear b0 j0 R3 F3 h3 tw0 e03
   rintro m _ H4 ⟨D,fr,rv,ys,v4,v5,rfl,rfl,b,j,e4,R4,F4,W4,al4⟩
   have d4:=e4.at hd
   have hbl:=b.len
   have hyl:ys.length≤4200:=by rw [al4.1];unfold rowsD;rw [List.length_map];omega
   rcases List.eq_nil_or_concat fr with hf|⟨fr',c,hf⟩
   ·subst hf
    have k':=k () D W H4 b hW0 e4 ⟨ys,W4,al4⟩
    clear k al4
    replace b:=fun (_:Unit)=>b
    replace j:=fun (_:Unit)=>j
    simp! only [and_true]
   ·rw [List.concat_eq_append] at hf
    subst hf
    obtain ⟨o,hc⟩:∃ o,lookI kv c=some o:=by
     obtain ⟨d,h1,_⟩:=((b.fi c).mp (by simp)).2.1
     exact ⟨d,h1⟩
    obtain ⟨hco,hcD,hoD,st,n1,n2⟩:=b.next (hnd ()) hc
    obtain ⟨hrv,j'⟩:=BsI.rd (fr:=fr') j hc hco st
    have F4':H4 F=some (.lst (fr'.map V.int++[V.int c])):=by rw [F4,List.map_append];rfl
    have hfl:fr'.length≤4200:=by have:=hbl.2;rw [List.length_append] at this;omega
    have hD1:D.length+1≤kv.length:=by
     have h1:(D++[c]).length≤kv.length:=by
      by_cases hz:rdr kv (D++[c]) o=0∧WrP kv o
      ·exact (n1 hz.1 hz.2).len.1
      ·exact (n2 hz).len.1
     rw [List.length_append] at h1
     simpa using h1
    have ndF:d ≠ F:=fun z=>by rw [z,hF0] at hd;cases hd
    have ndR:d ≠ R:=fun z=>nRd z.symm
    have ndW:d ≠ W:=fun z=>by rw [z,hW0] at hd;cases hd
    have hcnt:rdr kv (D++[c]) o≤4200:=by
     unfold rdr rdL
     exact Nat.le_trans (List.length_filter_le _ _) hl
    replace b:=fun (_:Unit)=>b
    replace j:=fun (_:Unit)=>j
    replace j':=fun (_:Unit)=>j'
    replace st:=fun (_:Unit)=>st
    replace n1:=fun (_:Unit)=>n1
    replace n2:=fun (_:Unit)=>n2
    replace hbl:=fun (_:Unit)=>hbl
    replace hcD:=fun (_:Unit)=>hcD
    replace hoD:=fun (_:Unit)=>hoD
    have hgt:(0:Int) < (((fr'++[c]).length:Nat):Int):=by rw [List.length_append,List.length_singleton];omega
    simp! only [and_true]
    refine use_pop F4' ?_
    have e5:Ext H (upd H4 F (.lst (fr'.map V.int))):=e4.put hF0
    have d5:upd H4 F (.lst (fr'.map V.int)) d=some (.dK (tabI kv)):=by rw [upd_ne ndF];exact d4
    have R5:upd H4 F (.lst (fr'.map V.int)) R=some (.dK (tabI rv)):=by rw [upd_ne nRF];exact R4
    have W5:upd H4 F (.lst (fr'.map V.int)) W=some (.lst ys):=by rw [upd_ne (Ne.symm nFW)];exact W4
    have F5:upd H4 F (.lst (fr'.map V.int)) F=some (.lst (fr'.map V.int)):=upd_same
    have al5:Al (fun p y=>twR p y (upd H4 F (.lst (fr'.map V.int)))) (rowsD kv D) ys:=al4.imp fun _ _ q=>q.upd F4
    generalize upd H4 F (.lst (fr'.map V.int))=H5 at e5 d5 R5 W5 F5 al5
    replace al5:=fun (_:Unit)=>al5
    clear F4 F4' W4 R4 d4 al4 hgt
    simp! only [and_true]
    refine use_dg (k:=.inl c) (v:=.int o) d5 (by rw [val_tab,hc];rfl) ?_
    simp! only [and_true]
    intro q H6 hq e6 h6
    have d6:=e6.at d5
    have R6:=e6.at R5
    have W6:=e6.at W5
    have F6:=e6.at F5
    have e06:=e5.trans e6
    have nqW:q ≠ W:=fun z=>by rw [z,W5] at hq;cases hq
    have al6:Al (fun p y=>twR p y (upd H6 W (.lst (ys++[.ref q])))) (rowsD kv (D++[c])) (ys++[.ref q]):=by
     have e1:rowsD kv (D++[c])=rowsD kv D++[(fhat kv c,c)]:=by unfold rowsD;rw [List.map_append];rfl
     rw [e1]
     exact ((al5 ()).imp fun _ _ z=>(z.ext e6).upd W6).snoc ⟨q,rfl,by rw [upd_ne nqW,fhat_of hc];exact h6⟩
    clear d5 R5 W5 F5 hq e6 h6
    simp! only [and_true]
    refine ⟨lt5000 (by omega),?_⟩
    have e7:Ext H (upd H6 W (.lst (ys++[.ref q]))):=e06.put hW0
    have d7:upd H6 W (.lst (ys++[.ref q])) d=some (.dK (tabI kv)):=by rw [upd_ne ndW];exact d6
    have R7:upd H6 W (.lst (ys++[.ref q])) R=some (.dK (tabI rv)):=by rw [upd_ne nRW];exact R6
    have F7:upd H6 W (.lst (ys++[.ref q])) F=some (.lst (fr'.map V.int)):=by rw [upd_ne nFW];exact F6
    have W7:upd H6 W (.lst (ys++[.ref q])) W=some (.lst (ys++[.ref q])):=upd_same
    generalize upd H6 W (.lst (ys++[.ref q]))=H7 at e7 d7 R7 F7 W7 al6
    replace al6:=fun (_:Unit)=>al6
    clear d6 R6 W6 F6 al5
    have hl5:(tabI rv).length < sizeLine:=lt5000 (by rw [tab_len];have:=(j ()).len;omega)
    simp! only [and_true]
    refine use_dg (k:=.inl o) (v:=.int ((rdr kv (D++[c]) o:Int)+1)) R7 (by rw [val_tab,hrv];rfl) ?_
    simp! only [and_true]
    refine use_dp (k:=.inl o) R7 hl5 ?_
    rw [put_tabI]
    have hlk8:lookI (putI rv o ((rdr kv (D++[c]) o:Int)+1 - 1)) o=some (rdr kv (D++[c]) o:Int):=by rw [look_put,if_pos rfl];congr 1;omega
    have e8:Ext H (upd H7 R (.dK (tabI (putI rv o ((rdr kv (D++[c]) o:Int)+1 - 1))))):=e7.put hR1
    have d8:upd H7 R (.dK (tabI (putI rv o ((rdr kv (D++[c]) o:Int)+1 - 1)))) d=some (.dK (tabI kv)):=by rw [upd_ne ndR];exact d7
    have F8:upd H7 R (.dK (tabI (putI rv o ((rdr kv (D++[c]) o:Int)+1 - 1)))) F=some (.lst (fr'.map V.int)):=by rw [upd_ne (Ne.symm nRF)];exact F7
    have W8:upd H7 R (.dK (tabI (putI rv o ((rdr kv (D++[c]) o:Int)+1 - 1)))) W=some (.lst (ys++[.ref q])):=by rw [upd_ne (Ne.symm nRW)];exact W7
    have R8:upd H7 R (.dK (tabI (putI rv o ((rdr kv (D++[c]) o:Int)+1 - 1)))) R=some (.dK (tabI (putI rv o ((rdr kv (D++[c]) o:Int)+1 - 1)))):=upd_same
    have al8:Al (fun p y=>twR p y (upd H7 R (.dK (tabI (putI rv o ((rdr kv (D++[c]) o:Int)+1 - 1)))))) (rowsD kv (D++[c])) (ys++[.ref q]):=(al6 ()).imp fun _ _ z=>z.updD R7
    generalize upd H7 R (.dK (tabI (putI rv o ((rdr kv (D++[c]) o:Int)+1 - 1))))=H8 at e8 d8 F8 W8 R8 al8
    generalize putI rv o ((rdr kv (D++[c]) o:Int)+1 - 1)=rv' at hlk8 R8 j'
    replace al8:=fun (_:Unit)=>al8
    have hlt:kv.length - (D++[c]).length < kv.length - D.length:=by rw [List.length_append,List.length_singleton];omega
    clear d7 F7 W7 R7 al6 hrv hl5
    by_cases hz:rdr kv (D++[c]) o=0
    ·rw [hz] at hlk8
     by_cases hwo:WrP kv o
     ·obtain ⟨o2,ho2,hne⟩:=id hwo
      have b':=n1 () hz hwo
      replace b':=fun (_:Unit)=>b'
      have hfl':(fr'.map V.int).length < sizeLine:=lt5000 (by rw [List.length_map];omega)
      simp! only [and_true]
      refine use_dg (k:=.inl o) (v:=.int 0) R8 (by rw [val_tab,hlk8];rfl) ?_
      simp! only [and_true]
      refine use_ge0 d8 ?_
      simp! only [and_true]
      refine use_ge (k:=.inl o) d8 ?_
      rw [val_tab,ho2,show ((some o2:Option Int).map V.int).getD (.int o)=.int o2 from rfl]
      simp! only [and_true]
      refine ⟨lt5000 (by omega),_,hlt,D++[c],fr'++[o],rv',ys++[.ref q],_,_,rfl,rfl,b' (),j' (),e8.put hF0,by rw [upd_ne nRF];exact R8,?_,by rw [upd_ne (Ne.symm nFW)];exact W8,(al8 ()).imp fun _ _ z=>z.upd F8⟩
      first|exact upd_same.trans (by rw [List.map_append];rfl)|rw [List.map_append];rfl
     ·have b':=n2 () (fun z=>hwo z.2)
      have hgo:((lookI kv o).map V.int).getD (.int o)=.int o:=by
       cases e:lookI kv o with
       | none=>rfl
       | some o2=>
        show V.int o2=V.int o
        by_cases h:o2=o
        ·rw [h]
        ·exact absurd ⟨o2,e,h⟩ hwo
      replace b':=fun (_:Unit)=>b'
      simp! only [and_true]
      refine use_dg (k:=.inl o) (v:=.int 0) R8 (by rw [val_tab,hlk8];rfl) ?_
      simp! only [and_true]
      refine use_ge0 d8 ?_
      simp! only [and_true]
      refine use_ge (k:=.inl o) d8 ?_
      rw [val_tab,hgo]
      simp! only [and_true]
      exact ⟨_,hlt,D++[c],fr',rv',ys++[.ref q],_,_,rfl,rfl,b' (),j' (),e8,(by first|rfl|exact R8),(by first|rfl|exact F8),(by first|rfl|exact W8),al8 ()⟩
    ·have b':=n2 () (fun z=>hz z.1)
     have hz':¬ ((rdr kv (D++[c]) o:Int)=0):=by omega
     replace b':=fun (_:Unit)=>b'
     simp! only [and_true]
     refine use_dg (k:=.inl o) (v:=.int (rdr kv (D++[c]) o:Int)) R8 (by rw [val_tab,hlk8];rfl) ?_
     simp! only [and_true]
     exact ⟨_,hlt,D++[c],fr',rv',ys++[.ref q],_,_,rfl,rfl,b' (),j' (),e8,(by first|rfl|exact R8),(by first|rfl|exact F8),(by first|rfl|exact W8),al8 ()⟩
def spRR  : Sp:=fun vs H Q E=>∃ (l:Addr) (e:Int),vs=[.ref l,.int e]∧(∃ (pre:List Int) (z:Int),H l=some (.lst ((pre++[z]).map V.int))∧(pre++[z]).length≤4200∧∀ (r:Addr) (H':Hp),H r=none->Ext H H'->TwL H' r (rndL (pre++[z]) e)->Q (.ref r) H')
theorem c_spRR  (l:Addr) (e:Int) (H:Hp) (Q:VK) (E:XK):spRR  [.ref l,.int e] H Q E=(∃ (pre:List Int) (z:Int),H l=some (.lst ((pre++[z]).map V.int))∧(pre++[z]).length≤4200∧∀ (r:Addr) (H':Hp),H r=none->Ext H H'->TwL H' r (rndL (pre++[z]) e)->Q (.ref r) H'):=spx2 (f:=fun (l:Addr) (e:Int)=>[.ref l,.int e]) (fun _ _ _ _ h=>by cases h;exact ⟨rfl,rfl⟩) l e
theorem l_spRR  {vs:List V}{H:Hp}{Q:VK}{E:XK}(h:spRR  vs H Q E):vs.length=2:=spl2 h fun _ _=>rfl
theorem ok_rows_round (T:Tx K mg t):FnOk P w K mg base CX0 1 t.a_rows_round t.d_rows_round ["ring", "elsewhere"] spRR:=by
 refine T.F_rows_round.ok c_rows_round (fun vs H Q E h=>l_spRR h) (fun cdv A outer s' H vs Q E hr h=>?_)
 ·obtain ⟨l,e,rfl,pre,z,hl,h42,k⟩:=h
  refine ⟨_,(@pss_cons _ _ _ _ _ (@ps_set _ _ (2) _ _ _ _ c_rows_round.nd rfl (Or.inl rfl) (@pe_qLst _ _ _ _ (@pa_nil _)) (by rfl) (by trivial)) (@pss_cons _ _ _ _ _ (@ps_for _ _ _ _ _ _ _ _ PassesOwn.never rfl (@pi_zip _ _ _ _ _ _ _ _ _ (by rfl) T.z_zip (@pa_c _ _ _ _ _ (@pvN _ 0 _ _ (by rfl) (by trivial) (by decide) (by decide)) (@pa_c _ _ _ _ _ (@pe_slice _ _ _ _ _ _ _ _ _ _ sl_n (@pvN _ 0 _ _ (by rfl) (by trivial) (by decide) (by decide)) (@po_some _ _ _ (@pe_int _ _ _ _)) (@po_none _)) (@pa_nil _) (by rfl)) (by rfl)) (by rfl) (by rfl)) ((@pg_tup _ _ _ _ _ (2) rfl (@pgs_consN _ _ _ _ _ (@pg_name _ _ (3) _ c_rows_round.nd rfl (Or.inl rfl) (by trivial)) (@pgs_consN _ _ _ _ _ (@pg_name _ _ (4) _ c_rows_round.nd rfl (Or.inl rfl) (by trivial)) (@pgs_nilN _) (by rfl)) (by rfl)) (by rfl) (by rfl)).mono fun _ _ _ _ h=>gTup_q h) (@pss_one _ _ _ (@ps_expr _ _ _ _ (@pe_bm _ _ _ _ _ _ _ _ _ _ _ _ PySem.F.plainAttrs_list PySem.F.slot_list_append PySem.F.type_list_append mt_append (@pvN _ 2 _ _ (by rfl) (by trivial) (by decide) (by decide)) (@pa_c _ _ _ _ _ (@pe_qTup _ _ _ _ _ (@pa_c _ _ _ _ _ (@pvN _ 4 _ _ (by rfl) (by trivial) (by decide) (by decide)) (@pa_c _ _ _ _ _ (@pvN _ 3 _ _ (by rfl) (by trivial) (by decide) (by decide)) (@pa_nil _) (by rfl)) (by rfl))) (@pa_nil _) (by rfl)) (by rfl) (by rfl) (by rfl) (by rfl) (by rfl)) (by rfl))) (by intros;rfl)) (@pss_cons _ _ _ _ _ (@ps_expr _ _ _ _ (@pe_bm _ _ _ _ _ _ _ _ _ _ _ _ PySem.F.plainAttrs_list PySem.F.slot_list_append PySem.F.type_list_append mt_append (@pvN _ 2 _ _ (by rfl) (by trivial) (by decide) (by decide)) (@pa_c _ _ _ _ _ (@pe_qTup _ _ _ _ _ (@pa_c _ _ _ _ _ (@pvN _ 1 _ _ (by rfl) (by trivial) (by decide) (by decide)) (@pa_c _ _ _ _ _ (@pe_ix _ _ _ _ _ _ _ ix_q (@pvN _ 0 _ _ (by rfl) (by trivial) (by decide) (by decide)) (@pe_un _ _ _ _ _ _ un_negN (@pe_int _ _ _ _)) (fun _ _=>rfl)) (@pa_nil _) (by rfl)) (by rfl))) (@pa_nil _) (by rfl)) (by rfl) (by rfl) (by rfl) (by rfl) (by rfl)) (by rfl)) (@pss_one _ _ _ (@ps_ret _ _ _ _ (@pvN _ 2 _ _ (by rfl) (by trivial) (by decide) (by decide))))))),?_⟩
  rw [show start ["ring", "elsewhere", "rows", "cell", "origin"] [.ref l,.int e]=[some (.ref l),some (.int e),none,none,none] from rfl]
  have hat:atI ((pre++[z]).map V.int) (-1)=some (.int z):=by rw [List.map_append];exact atI_last _ _
  have hzp:=rndL_zip e pre z
  replace hzp:=fun (_:Unit)=>hzp
  replace k:=fun (_:Unit)=>k
  have hlp:0 < (pre++[z]).length:=by simp
  generalize pre++[z]=ns at hl h42 k hat hzp hlp
  simp! only [and_true]
  intro W H1 hW e1 h1
  have l1:=e1.at hl
  simp! only [and_true]
  rw [cut_some _ _ (by decide),show (1:Int).toNat=1 from rfl,←List.map_drop,List.drop_one]
  intro S H2 hS e2 h2
  have l2:=e2.at l1
  have W2:=e2.at h1
  have e02:=e1.trans e2
  have nSW:S ≠ W:=fun zz=>by rw [zz,h1] at hS;cases hS
  have nlW:l ≠ W:=fun zz=>by rw [zz,hW] at hl;cases hl
  have htl:ns.tail.length=ns.length - 1:=List.length_tail
  clear h1 l1 e1 e2 hS
  simp! only [and_true]
  refine for_zip (ka:=false) (kb:=false) (xs:=ns.map V.int) (ys:=ns.tail.map V.int) (fun i σ H'=>∃ (v3 v4:Option V) (ys:List V),σ=[some (.ref l),some (.int e),some (.ref W),v3,v4]∧Ext H H'∧H' l=some (.lst (ns.map V.int))∧H' S=some (.lst (ns.tail.map V.int))∧H' W=some (.lst ys)∧Al (fun p y=>twR p y H') (((ns.zip ns.tail).take i).map fun p=>(p.2,p.1)) ys) ⟨none,none,[],rfl,e02,l2,h2,W2,by rw [List.take_zero];exact Al.nil⟩ (fun i σ H' ⟨_,_,_,_,_,q1,q2,_⟩=>⟨q1,q2⟩) ?_ ?_
  ·rintro i x y q _ H3 H4 hx hy ⟨v3,v4,ys,rfl,e3,l3,s3,w3,al3⟩ hq e4 h4
   rw [List.getElem?_map] at hx hy
   obtain ⟨c,hc,rfl⟩:=Option.map_eq_some_iff.mp hx
   obtain ⟨o,ho,rfl⟩:=Option.map_eq_some_iff.mp hy
   have htk:(ns.zip ns.tail).take (i+1)=(ns.zip ns.tail).take i++[(c,o)]:=by
    rw [List.take_add_one,(List.getElem?_zip_eq_some (z:=(c,o))).mpr ⟨hc,ho⟩]
    rfl
   have hi:i < ns.length:=(List.getElem?_eq_some_iff.mp hc).1
   have hyl:ys.length≤4200:=by rw [al3.1,List.length_map,List.length_take];omega
   have l4:=e4.at l3
   have s4:=e4.at s3
   have w4:=e4.at w3
   have e04:=e3.trans e4
   have al4:Al (fun p y=>twR p y H4) (((ns.zip ns.tail).take i).map fun p=>(p.2,p.1)) ys:=al3.imp fun _ _ z=>z.ext e4
   replace al4:=fun (_:Unit)=>al4
   replace htk:=fun (_:Unit)=>htk
   clear hx hy hc ho l3 s3 w3 al3 l2 h2 W2 k hq e4
   simp! only [and_true]
   intro q2 H5 hq2 e5 h5
   have l5:=e5.at l4
   have s5:=e5.at s4
   have w5:=e5.at w4
   have nqW:q2 ≠ W:=fun zz=>by rw [zz,w4] at hq2;cases hq2
   clear l4 s4 w4 h4 hq2
   simp! only [and_true]
   refine ⟨lt5000 (by omega),_,_,ys++[.ref q2],rfl,(e04.trans e5).put hW,by rw [upd_ne nlW];exact l5,by rw [upd_ne nSW];exact s5,(by first|rfl|exact upd_same),?_⟩
   rw [htk (),List.map_append]
   exact ((al4 ()).imp fun _ _ z=>(z.ext e5).upd w5).snoc ⟨q2,rfl,by rw [upd_ne nqW];exact h5⟩
  ·rintro _ H3 ⟨v3,v4,ys,rfl,e3,l3,s3,w3,al3⟩
   rw [List.take_of_length_le (by rw [List.length_zip,List.length_map,List.length_map];omega)] at al3
   have hyl:ys.length≤4200:=by rw [al3.1,List.length_map,List.length_zip];omega
   replace al3:=fun (_:Unit)=>al3
   clear l2 h2 W2
   simp! only [and_true]
   intro q2 H5 hq2 e5 h5
   have w5:=e5.at w3
   have nqW:q2 ≠ W:=fun zz=>by rw [zz,w3] at hq2;cases hq2
   clear l3 s3 w3 hq2 hat
   simp! only [and_true]
   refine ⟨lt5000 (by omega),?_⟩
   refine k () W _ hW ((e3.trans e5).put hW) ⟨ys++[.ref q2],upd_same,?_⟩
   rw [hzp ()]
   exact ((al3 ()).imp fun _ _ z=>(z.ext e5).upd w5).snoc ⟨q2,rfl,by rw [upd_ne nqW];exact h5⟩
structure KpI (kv:List (Int × Int)) (D:List Int) (kp:List (Int × Int)):Prop where
 nd:NdK kp
 len:kp.length≤D.length
 yes:∀ o e,lookI kp o=some e->e∈D∧fhat kv e=o
 all:∀ e∈D,(lookI kp (fhat kv e)).isSome=true
theorem KpI.nil (kv:List (Int × Int)):KpI kv [] []:=⟨List.nodup_nil,Nat.le_refl _,(fun _ _ h=>by cases h),fun _ h=>absurd h List.not_mem_nil⟩
theorem KpI.put {kv kp:List (Int × Int)}{D:List Int}(h:KpI kv D kp) (c:Int):KpI kv (D++[c]) (putI kp (fhat kv c) c):=by
 refine ⟨putI_nodup h.nd _ _,?_,fun o e he=>?_,fun e he=>?_⟩
 ·have:=putI_len kp (fhat kv c) c
  have:=h.len
  simp
  omega
 ·rw [look_put] at he
  by_cases ho:o=fhat kv c
  ·rw [if_pos ho] at he
   rw [←Option.some.inj he]
   exact ⟨by simp,ho.symm⟩
  ·rw [if_neg ho] at he
   obtain ⟨h1,h2⟩:=h.yes o e he
   exact ⟨List.mem_append_left _ h1,h2⟩
 ·rw [look_put]
  by_cases ho:fhat kv e=fhat kv c
  ·rw [if_pos ho];rfl
  ·rw [if_neg ho]
   rcases List.mem_append.mp he with he|he
   ·exact h.all e he
   ·exact absurd (by rw [List.mem_singleton.mp he]) ho
theorem kept_some {kv kp:List (Int × Int)}{D:List Int}(hn:NdK kv) (b:BsI kv D []) (kI:KpI kv D kp){L:List (List Int × Bool)}(hL:RingsOf (lookI kv) (kv.map (·.1)) L){p:List Int × Bool}(hp:p∈L) (hb:p.2=false):∃ x∈p.1,(lookI kp x).isSome=true:=by
 obtain ⟨rl,he⟩:=hL.2.1 p hp
 rw [hb] at he
 have h1:¬ bareB (lookI kv) (kv.map (·.1)) p.1=true:=by
  rw [←he]
  exact Bool.false_ne_true
 unfold bareB at h1
 rw [List.all_eq_true] at h1
 obtain ⟨c,hc⟩:=Classical.not_forall.mp h1
 obtain ⟨hck,hcc⟩:=Classical.not_imp.mp hc
 obtain ⟨⟨c',d⟩,hm,rfl⟩:=List.mem_map.mp hck
 have hlk:=look_of hn hm
 rw [hlk] at hcc
 simp only [Bool.or_eq_true,decide_eq_true_eq,Bool.not_eq_true',decide_eq_false_iff_not,not_or,Classical.not_not] at hcc
 obtain ⟨n1,n2⟩:=hcc
 have hw:WrP kv c':=⟨d,hlk,fun z=>n1 (by rw [←z];exact n2)⟩
 have hD:c'∈D:=by
  refine Classical.byContradiction fun hD=>?_
  obtain ⟨l,r1,r2,r3⟩:=b.left hn hw hD
  obtain ⟨d',h3,h4⟩:=r1.mem r3
  rw [hlk] at h3
  obtain rfl:=Option.some.inj h3
  have pm:=ring_share r1 rl.1 h4 n2
  exact n1 (pm.mem_iff.mp r3)
 refine ⟨d,n2,?_⟩
 have:=kI.all c' hD
 rw [fhat_of hlk] at this
 exact this
theorem find_true {kp:List (Int × Int)}:∀ {l:List Int},(∃ x∈l,(lookI kp x).isSome=true)->∃ a r0 b,l=a++r0::b∧(lookI kp r0).isSome=true∧∀ x∈a,(lookI kp x).isSome=false
 | [],⟨x,h,_⟩=>absurd h List.not_mem_nil
 | y::l,⟨x,hx,hs⟩=>by
  by_cases hy:(lookI kp y).isSome=true
  ·exact ⟨[],y,l,rfl,hy,fun _ h=>absurd h List.not_mem_nil⟩
  ·rcases List.mem_cons.mp hx with rfl|hx
   ·exact absurd hs hy
   ·obtain ⟨a,r0,b,rfl,h1,h2⟩:=find_true ⟨x,hx,hs⟩
    exact ⟨y::a,r0,b,rfl,h1,fun z hz=>(List.mem_cons.mp hz).elim (fun e=>by rw [e];simpa using hy) (h2 z)⟩
theorem tot_le {kv:List (Int × Int)}(hn:NdK kv){D:List Int}(b:BsI kv D []){L:List (List Int × Bool)}(hL:RingsOf (lookI kv) (kv.map (·.1)) L):D.length+(L.map fun p=>p.1.length+if p.2=true then 1 else 0).sum≤kv.length+L.length:=by
 have nd1:(D++L.flatMap (·.1)).Nodup:=by
  rw [List.nodup_append]
  refine ⟨b.dn,flat_nd (fun p hp=>(hL.2.1 p hp).1.1.nodup) (rings_apart hL),fun x hx y hy e=>?_⟩
  obtain ⟨p,hp,hyp⟩:=List.mem_flatMap.mp hy
  exact b.ring hn (hL.2.1 p hp).1.1 (hL.2.1 p hp).1.2.1 y hyp (by rw [←e];exact hx)
 have l1:=nd_len nd1 (b:=kv.map (·.1)) fun x hx=>by
  rcases List.mem_append.mp hx with hx|hx
  ·obtain ⟨d,h,_⟩:=b.wr x hx
   exact look_some.mp (by rw [h];rfl)
  ·obtain ⟨p,hp,hxp⟩:=List.mem_flatMap.mp hx
   obtain ⟨d,h,_⟩:=(hL.2.1 p hp).1.1.mem hxp
   exact look_some.mp (by rw [h];rfl)
 rw [List.length_map,List.length_append] at l1
 have e2:∀ L:List (List Int × Bool),(L.map fun p=>p.1.length+if p.2=true then 1 else 0).sum≤(L.flatMap (·.1)).length+L.length:=by
  intro L
  induction L with
  | nil=>exact Nat.le_refl _
  | cons p L ih=>
   rw [List.map_cons,List.sum_cons,List.flatMap_cons,List.length_append,List.length_cons]
   split<;>omega
 have:=e2 L
 omega
theorem sum_pre {α:Type}(f:α->Nat){L:List α}{i:Nat}{p:α}(h:L[i]? = some p):((L.take i).map f).sum+f p≤(L.map f).sum:=by
 have e:L.take (i+1)=L.take i++[p]:=by rw [List.take_add_one,h];rfl
 have:(L.map f).sum=((L.take (i+1)).map f).sum+((L.drop (i+1)).map f).sum:=by
  rw [←List.sum_append_nat,←List.map_append,List.take_append_drop]
 rw [this,e,List.map_append,List.sum_append_nat]
 simp
theorem al_app2 {α:Type}{R:α->V->Prop}{zs ws:List α}{ys us:List V}(h:Al R zs ys) (h':Al R ws us):Al R (zs++ws) (ys++us):=by
 refine ⟨by rw [List.length_append,List.length_append,h.1,h'.1],fun i z y hz hy=>?_⟩
 by_cases hi:i < zs.length
 ·rw [List.getElem?_append_left hi] at hz
  rw [List.getElem?_append_left (by rw [h.1];exact hi)] at hy
  exact h.2 i z y hz hy
 ·rw [List.getElem?_append_right (by omega)] at hz
  rw [List.getElem?_append_right (by rw [h.1];omega),h.1] at hy
  exact h'.2 _ z y hz hy
theorem idx_true:∀ {a b:List Bool},(∀ x∈a,x=false)->(a++true::b).idxOf true=a.length
 | [],b,_=>by simp [List.idxOf_cons]
 | x::a,b,h=>by
  have hx:=h x List.mem_cons_self
  subst hx
  have ih:=idx_true (a:=a) (b:=b) fun y hy=>h y (List.mem_cons_of_mem _ hy)
  rw [List.cons_append,List.idxOf_cons,ih]
  rfl
theorem ring_ln {kv:List (Int × Int)}{l:List Int}(h:Ring (lookI kv) l):l.length≤kv.length:=by
 have h1:=nd_len h.nodup (b:=kv.map (·.1)) fun x hx=>by
  obtain ⟨d,h1,_⟩:=h.mem hx
  exact look_some.mp (by rw [h1];rfl)
 simpa using h1
structure RfI (kv:List (Int × Int)) (D:List Int) (Lp:List (List Int × Bool)) (rows:List (Int × Int)):Prop where
 st:StR kv D Lp rows
 ik:∀ q∈rows,InK kv q.1∧InK kv q.2
 len:rows.length=D.length+(Lp.map fun p=>p.1.length+if p.2=true then 1 else 0).sum
theorem RfI.ini {kv:List (Int × Int)}{D fr:List Int}(b:BsI kv D fr):RfI kv D [] (rowsD kv D):=by
 refine ⟨fun x _=>?_,fun q hq=>?_,by unfold rowsD;simp⟩
 ·rw [bs_run D b.dn b.wr b.ord x]
  have:(x∈D∨∃ p∈([]:List (List Int × Bool)),x∈p.1) ↔ x∈D:=by simp
  simp only [this]
 ·obtain ⟨c,hc,rfl⟩:=List.mem_map.mp hq
  obtain ⟨d,h1,_⟩:=b.wr c hc
  refine ⟨.inr (.inr ?_),.inr (.inl (look_some.mp (by rw [h1];rfl)))⟩
  rw [fhat_of h1]
  exact List.mem_map.mpr ⟨(c,d),look_mem h1,rfl⟩
theorem RfI.add {kv:List (Int × Int)}(hn:NdK kv){D:List Int}{L:List (List Int × Bool)}(b:BsI kv D []) (hL:RingsOf (lookI kv) (kv.map (·.1)) L) (hnn:∀ c e,lookI kv c=some e->0≤c∧0≤e){i:Nat}{p:List Int × Bool}(hi:L[i]? = some p){rows rs:List (Int × Int)}(h:RfI kv D (L.take i) rows) (hw:RwOne kv D p rs):RfI kv D (L.take (i+1)) (rows++rs):=by
 have e:L.take (i+1)=L.take i++[p]:=by rw [List.take_add_one,hi];rfl
 have hp:=List.mem_of_getElem? hi
 have rl:=(hL.2.1 p hp).1
 rw [e]
 refine ⟨h.st.add rl (b.ring hn rl.1 rl.2.1) (fun q hq x hx hxq=>?_) (fun m=>?_) (fun m=>?_) hw,fun q hq=>?_,?_⟩
 ·have h1:=rings_apart hL
  rw [←List.take_append_drop i L,List.pairwise_append] at h1
  exact h1.2.2 q hq p (List.mem_of_getElem? (i:=0) (by rw [List.getElem?_drop];simpa using hi)) x hxq hx
 ·obtain ⟨d,h1,_⟩:=rl.1.mem m
  have:=(hnn _ _ h1).1
  omega
 ·obtain ⟨d,h1,_⟩:=b.wr _ m
  have:=(hnn _ _ h1).1
  omega
 ·rcases List.mem_append.mp hq with hq|hq
  ·exact h.ik q hq
  ·exact hw.ink rl q hq
 ·rw [List.length_append,h.len,hw.len,List.map_append,List.sum_append_nat]
  simp
  omega
abbrev B_spRw  (d:Addr) (H:Hp) (Q:VK) (E:XK):Prop:=∃ kv:List (Int × Int),H d=some (.dK (tabI kv))∧NdK kv∧kv.length≤4200∧EasyI (kv.map (·.1))∧Few kv∧(∀ c e,lookI kv c=some e->0≤c∧0≤e)∧∀ (rows:List (Int × Int)) (r:Addr) (H':Hp),RwsOf kv rows->rows.length≤4300->H r=none->Ext H H'->TwL H' r rows->Q (.ref r) H'
def spRw  : Sp:=fun vs H Q E=>∃ (d:Addr),vs=[.ref d]∧(B_spRw  d H Q E)
theorem c_spRw  (d:Addr) (H:Hp) (Q:VK) (E:XK):spRw  [.ref d] H Q E=(B_spRw  d H Q E):=spx1 (f:=fun (d:Addr)=>[.ref d]) (fun _ _ h=>by cases h;exact rfl) d
theorem l_spRw  {vs:List V}{H:Hp}{Q:VK}{E:XK}(h:spRw  vs H Q E):vs.length=1:=spl1 h fun _=>rfl
theorem ok_rows_for (T:Tx K mg t):FnOk P w K mg base CX0 5 t.a_rows_for t.d_rows_for ["found"] spRw:=by
 have G_rows_beside_rings:=ok_rows_beside_rings (P:=P) (w:=w) (base:=base) T
 have G_rings:=ok_rings (P:=P) (w:=w) (base:=base) T
 have G_rows_round:=ok_rows_round (P:=P) (w:=w) (base:=base) T
 refine T.F_rows_for.ok c_rows_for (fun vs H Q E h=>l_spRw h) (fun cdv A outer s' H vs Q E hr h=>?_)
 ·obtain ⟨d,rfl,kv,hd,hnd,hl,hE,hF,hnn,k⟩:=h
  refine ⟨_,(@pss_cons _ _ _ _ _ (@ps_set _ _ (1) _ _ _ _ c_rows_for.nd rfl (Or.inl rfl) (@pe_call _ _ _ _ _ _ _ _ _ _ _ _ _ _ _ _ G_rows_beside_rings (hr.mono (by decide)) (by rfl) T.m_rows_beside_rings T.F_rows_beside_rings.kp T.b_rows_beside_rings .nil pass0 (@pa_c _ _ _ _ _ (@pvN _ 0 _ _ (by rfl) (by trivial) (by decide) (by decide)) (@pa_nil _) (by rfl)) (by decide) (by rfl) (by rfl)) (by rfl) (by trivial)) (@pss_cons _ _ _ _ _ (@ps_set _ _ (2) _ _ _ _ c_rows_for.nd rfl (Or.inr rfl) (@pe_nDNew _ _) (by rfl) (by trivial)) (@pss_cons _ _ _ _ _ (@ps_for _ _ _ _ _ _ _ _ PassesOwn.never rfl (@pi_seq _ _ _ _ (@pvN _ 1 _ _ (by rfl) (by trivial) (by decide) (by decide))) ((@pg_tup _ _ _ _ _ (2) rfl (@pgs_consN _ _ _ _ _ (@pg_name _ _ (3) _ c_rows_for.nd rfl (Or.inl rfl) (by trivial)) (@pgs_consN _ _ _ _ _ (@pg_name _ _ (4) _ c_rows_for.nd rfl (Or.inl rfl) (by trivial)) (@pgs_nilN _) (by rfl)) (by rfl)) (by rfl) (by rfl)).mono fun _ _ _ _ h=>gTup_q h) (@pss_one _ _ _ (@ps_dput _ _ _ _ _ _ _ _ _ (units1 hr.units) (@pvN _ 2 _ _ (by rfl) (by trivial) (by decide) (by decide)) (@pvN _ 3 _ _ (by rfl) (by trivial) (by decide) (by decide)) (@pvN _ 4 _ _ (by rfl) (by trivial) (by decide) (by decide)) rfl)) (by intros;rfl)) (@pss_cons _ _ _ _ _ (@ps_for _ _ _ _ _ _ _ _ PassesOwn.never rfl (@pi_seq _ _ _ _ (@pe_call _ _ _ _ _ _ _ _ _ _ _ _ _ _ _ _ G_rings (hr.mono (by decide)) (by rfl) T.m_rings T.F_rings.kp T.b_rings .nil pass0 (@pa_c _ _ _ _ _ (@pvN _ 0 _ _ (by rfl) (by trivial) (by decide) (by decide)) (@pa_nil _) (by rfl)) (by decide) (by rfl) (by rfl))) ((@pg_tup _ _ _ _ _ (2) rfl (@pgs_consN _ _ _ _ _ (@pg_name _ _ (5) _ c_rows_for.nd rfl (Or.inl rfl) (by trivial)) (@pgs_consN _ _ _ _ _ (@pg_name _ _ (6) _ c_rows_for.nd rfl (Or.inl rfl) (by trivial)) (@pgs_nilN _) (by rfl)) (by rfl)) (by rfl) (by rfl)).mono fun _ _ _ _ h=>gTup_q h) (@pss_one _ _ _ (@ps_if _ _ _ _ _ _ _ _ (@pt_valN _ _ _ (@pvN _ 6 _ _ (by rfl) (by trivial) (by decide) (by decide)) (by intros;rfl)) (@pss_cons _ _ _ _ _ (@ps_expr _ _ _ _ (@pe_bm _ _ _ _ _ _ _ _ _ _ _ _ PySem.F.plainAttrs_list PySem.F.slot_list_append PySem.F.type_list_append mt_append (@pvN _ 1 _ _ (by rfl) (by trivial) (by decide) (by decide)) (@pa_c _ _ _ _ _ (@pe_qTup _ _ _ _ _ (@pa_c _ _ _ _ _ (@pe_ix _ _ _ _ _ _ _ ix_q (@pvN _ 5 _ _ (by rfl) (by trivial) (by decide) (by decide)) (@pe_int _ _ _ _) (fun _ _=>rfl)) (@pa_c _ _ _ _ _ (@pe_glob _ _ (.int (-1)) _ _ (by rfl) T.m_SPARE.choose_spec ⟨_,rfl⟩ (by decide)) (@pa_nil _) (by rfl)) (by rfl))) (@pa_nil _) (by rfl)) (by rfl) (by rfl) (by rfl) (by rfl) (by rfl)) (by rfl)) (@pss_one _ _ _ (@ps_expr _ _ _ _ (@pe_bm _ _ _ _ _ _ _ _ _ _ _ _ PySem.F.plainAttrs_list PySem.F.slot_list_extend PySem.F.type_list_extend mt_extend (@pvN _ 1 _ _ (by rfl) (by trivial) (by decide) (by decide)) (@pa_c _ _ _ _ _ (@pe_call _ _ _ _ _ _ _ _ _ _ _ _ _ _ _ _ G_rows_round (hr.mono (by decide)) (by rfl) T.m_rows_round T.F_rows_round.kp T.b_rows_round .nil pass0 (@pa_c _ _ _ _ _ (@pvN _ 5 _ _ (by rfl) (by trivial) (by decide) (by decide)) (@pa_c _ _ _ _ _ (@pe_glob _ _ (.int (-1)) _ _ (by rfl) T.m_SPARE.choose_spec ⟨_,rfl⟩ (by decide)) (@pa_nil _) (by rfl)) (by rfl)) (by decide) (by rfl) (by rfl)) (@pa_nil _) (by rfl)) (by rfl) (by rfl) (by rfl) (by rfl) (by rfl)) (by rfl)))) (@pss_cons _ _ _ _ _ (@ps_set _ _ (7) _ _ _ _ c_rows_for.nd rfl (Or.inl rfl) (@pe_bm _ _ _ _ _ _ _ _ _ _ _ _ PySem.F.plainAttrs_list PySem.F.slot_list_index PySem.F.type_list_index mt_nIdxB (@pe_comp _ _ _ _ _ _ _ _ _ _ _ (["cell", "found", "rows", "kept", "origin", "!cell", "ring", "bare", "at"]) (1) (comp_ok (defScope s_rows_for) ["found", "rows", "kept", "origin", "cell", "ring", "bare", "at"] rfl rfl (by decide +kernel)) rfl (@pi_seq _ _ _ _ (@pvN _ 5 _ _ (by rfl) (by trivial) (by decide) (by decide))) (fun C s₀ H₀ ex pn=>(@pg_name _ _ (0) _ (show List.Nodup (["cell", "found", "rows", "kept", "origin", "!cell", "ring", "bare", "at"]:List Str) from by decide +kernel) rfl (Or.inl rfl) (by trivial))) (fun C s₀ H₀ ex pn=>(@pts_nil _)) (fun C s₀ H₀ ex pn=>(@pe_cmpR _ _ _ _ _ _ _ _ (op_inD (units1 hr.units)) (@pvN _ 0 _ _ (by rfl) (by trivial) (by decide) (by decide)) (@pvN _ 3 _ _ (by rfl) (by trivial) (by decide) (by decide)) (by with_unfolding_all rfl))) (by intros;rfl)) (@pa_c _ _ _ _ _ (@pe_bl _ _ _ _) (@pa_nil _) (by rfl)) (by rfl) (by rfl) (by rfl) (by rfl) (by rfl)) (by rfl) (by trivial)) (@pss_one _ _ _ (@ps_expr _ _ _ _ (@pe_bm _ _ _ _ _ _ _ _ _ _ _ _ PySem.F.plainAttrs_list PySem.F.slot_list_extend PySem.F.type_list_extend mt_extend (@pvN _ 1 _ _ (by rfl) (by trivial) (by decide) (by decide)) (@pa_c _ _ _ _ _ (@pe_call _ _ _ _ _ _ _ _ _ _ _ _ _ _ _ _ G_rows_round (hr.mono (by decide)) (by rfl) T.m_rows_round T.F_rows_round.kp T.b_rows_round .nil pass0 (@pa_c _ _ _ _ _ (@pe_op _ _ _ _ _ _ _ _ op_nCat (@pe_slice _ _ _ _ _ _ _ _ _ _ sl_n (@pvN _ 5 _ _ (by rfl) (by trivial) (by decide) (by decide)) (@po_some _ _ _ (@pvN _ 7 _ _ (by rfl) (by trivial) (by decide) (by decide))) (@po_none _)) (@pe_slice _ _ _ _ _ _ _ _ _ _ sl_n (@pvN _ 5 _ _ (by rfl) (by trivial) (by decide) (by decide)) (@po_none _) (@po_some _ _ _ (@pvN _ 7 _ _ (by rfl) (by trivial) (by decide) (by decide))))) (@pa_c _ _ _ _ _ (@pe_dget _ _ _ _ _ _ (units1 hr.units) (@pvN _ 2 _ _ (by rfl) (by trivial) (by decide) (by decide)) (@pe_ix _ _ _ _ _ _ _ ix_q (@pvN _ 5 _ _ (by rfl) (by trivial) (by decide) (by decide)) (@pvN _ 7 _ _ (by rfl) (by trivial) (by decide) (by decide)) (fun _ _=>rfl)) (fun _ _=>rfl)) (@pa_nil _) (by rfl)) (by rfl)) (by decide) (by rfl) (by rfl)) (@pa_nil _) (by rfl)) (by rfl) (by rfl) (by rfl) (by rfl) (by rfl)) (by rfl)))))) (by intros;rfl)) (@pss_one _ _ _ (@ps_ret _ _ _ _ (@pvN _ 1 _ _ (by rfl) (by trivial) (by decide) (by decide)))))))),?_⟩
  rw [show start ["found", "rows", "kept", "origin", "cell", "ring", "bare", "at"] [.ref d]=[some (.ref d),none,none,none,none,none,none,none] from rfl]
  clear G_rows_beside_rings G_rings G_rows_round
  replace hnd:=fun (_:Unit)=>hnd
  replace hE:=fun (_:Unit)=>hE
  replace hF:=fun (_:Unit)=>hF
  replace hnn:=fun (_:Unit)=>hnn
  replace k:=fun (_:Unit)=>k
  simp! only [and_true]
  rw [c_spRB]
  refine ⟨kv,hd,hnd (),hl,fun D W H1 b hW e1 tw1=>?_⟩
  obtain ⟨ys,W1,al1⟩:=tw1
  have hDl:=b.len.1
  have hyl:ys.length=D.length:=by rw [al1.1];unfold rowsD;rw [List.length_map]
  replace b:=fun (_:Unit)=>b
  replace al1:=fun (_:Unit)=>al1
  simp! only [and_true]
  intro KP H2 hK e2 h2
  have W2:=e2.at W1
  have e02:=e1.trans e2
  have hK0:H KP=none:=e1.free hK
  have nKW:W ≠ KP:=fun z=>by rw [z,hK] at W1;cases W1
  have al2:Al (fun p y=>twR p y H2) (rowsD kv D) ys:=(al1 ()).imp fun _ _ z=>z.ext e2
  replace al2:=fun (_:Unit)=>al2
  clear W1 al1 hK e1 e2
  simp! only [and_true]
  refine for_lst (xs:=ys) (fun i σ H'=>∃ (v3 v4:Option V) (kp:List (Int × Int)),σ=[some (.ref d),some (.ref W),some (.ref KP),v3,v4,none,none,none]∧Ext H H'∧H' W=some (.lst ys)∧Al (fun p y=>twR p y H') (rowsD kv D) ys∧H' KP=some (.dK (tabI kp))∧KpI kv (D.take i) kp) ⟨none,none,[],rfl,e02,W2,al2 (),h2,by rw [List.take_zero];exact KpI.nil kv⟩ (fun i σ H' _ ⟨_,_,_,_,_,q,_⟩=>q) ?_ ?_
  ·rintro i y _ H3 hy ⟨v3,v4,kp,rfl,e3,W3,al3,K3,kI⟩
   have hi:i < D.length:=by have:=(List.getElem?_eq_some_iff.mp hy).1;omega
   have hc:D[i]? = some D[i]:=List.getElem?_eq_getElem hi
   obtain ⟨q,rfl,hq⟩:=al3.2 i (fhat kv D[i],D[i]) y (by unfold rowsD;rw [List.getElem?_map,hc];rfl) hy
   have kI2:=kI.put D[i]
   have htk:D.take (i+1)=D.take i++[D[i]]:=by rw [List.take_add_one,hc];rfl
   rw [←htk] at kI2
   have hl5:(tabI kp).length < sizeLine:=lt5000 (by rw [tab_len];have:=kI.len;rw [List.length_take] at this;omega)
   replace hq:H3 q=some (.tup [.int (fhat kv D[i]),.int D[i]]):=hq
   generalize D[i]=c at hq kI2
   generalize fhat kv c=o at hq kI2
   have al4:Al (fun p y=>twR p y (upd H3 KP (.dK (tabI (putI kp o c))))) (rowsD kv D) ys:=al3.imp fun _ _ z=>z.updD K3
   replace kI2:=fun (_:Unit)=>kI2
   replace al4:=fun (_:Unit)=>al4
   clear hy hc htk kI al3 W2 h2 k
   simp! only [and_true]
   refine use_dp (k:=.inl o) K3 hl5 ?_
   rw [put_tabI]
   exact ⟨_,_,_,rfl,e3.put hK0,by rw [upd_ne nKW];exact W3,al4 (),upd_same,kI2 ()⟩
  ·rintro _ H3 ⟨v3,v4,kp,rfl,e3,W3,al3,K3,kI⟩
   rw [hyl,List.take_length] at kI
   have d3:=e3.at hd
   replace al3:=fun (_:Unit)=>al3
   replace kI:=fun (_:Unit)=>kI
   clear W2 h2 al2
   simp! only [and_true]
   rw [c_spRings]
   refine ⟨kv,d3,hnd (),hl,hE (),hF (),fun L r H4 hL e4 ra=>?_⟩
   obtain ⟨ys2,r4,hrn,al4⟩:=ra
   have K4:=e4.at K3
   have W4:=e4.at W3
   have W4':=W3
   have nrW:r ≠ W:=fun z=>by rw [z,W3] at hrn;cases hrn
   have alr:Al (fun p y=>twR p y H4) (rowsD kv D) ys:=(al3 ()).imp fun _ _ z=>z.ext e4
   have hLf:L.length < 64:=by
    have h1:=hF () (L.map (·.1)) (fun l hl=>by obtain ⟨p,hp,rfl⟩:=List.mem_map.mp hl;exact (hL.2.1 p hp).1) (by rw [List.map_map,List.nodup_iff_pairwise_ne,List.pairwise_map];exact hL.1.imp fun h=>by show ¬ _;intro e;have e':_=_:=e;simp only [Function.comp] at e';omega)
    simpa using h1
   have htot:=tot_le (hnd ()) (b ()) hL
   have rf0:=RfI.ini (b ())
   replace al4:=fun (_:Unit)=>al4
   replace alr:=fun (_:Unit)=>alr
   replace hL:=fun (_:Unit)=>hL
   replace rf0:=fun (_:Unit)=>rf0
   clear K3 d3 al3
   simp! only [and_true]
   refine for_lst (xs:=ys2) (fun i σ H'=>∃ (v3 v4 v5 v6 v7:Option V) (rows:List (Int × Int)) (yr:List V),σ=[some (.ref d),some (.ref W),some (.ref KP),v3,v4,v5,v6,v7]∧Ext (CutS [W] H4) H'∧H' W=some (.lst yr)∧Al (fun p y=>twR p y H') rows yr∧RfI kv D (L.take i) rows) ⟨_,_,none,none,none,rowsD kv D,ys,rfl,cut_sub _ _,W4,alr (),by rw [List.take_zero];exact rf0 ()⟩ (fun i σ H' _ ⟨_,_,_,_,_,_,_,_,e,_⟩=>e.at (cut1_at r4 nrW)) ?_ ?_
   ·rintro i y _ H5 hy ⟨v3',v4',v5,v6,v7,rows,yr,rfl,e5,W5,al5,rf⟩
    have hi:i < L.length:=by have:=(List.getElem?_eq_some_iff.mp hy).1;rw [(al4 ()).1] at this;exact this
    obtain ⟨p,hp⟩:∃ p,L[i]? = some p:=⟨_,List.getElem?_eq_getElem hi⟩
    obtain ⟨q,lg,rfl,hq4,hlg4,hl3n,nlr⟩:=(al4 ()).2 i p y hp hy
    have nqW:q ≠ W:=fun z=>by rw [z,W4] at hq4;cases hq4
    have nlW:lg ≠ W:=fun z=>by rw [z,W4'] at hl3n;cases hl3n
    have nKW':KP ≠ W:=Ne.symm nKW
    have q5:=e5.at (cut1_at hq4 nqW)
    have lg5:=e5.at (cut1_at hlg4 nlW)
    have K5:=e5.at (cut1_at K4 nKW')
    have rl:=((hL ()).2.1 p (List.mem_of_getElem? hp)).1
    have hpl:=ring_ln rl.1
    have hsum:=sum_pre (fun p:List Int × Bool=>p.1.length+if p.2=true then 1 else 0) hp
    have hbd:rows.length+(p.1.length+if p.2=true then 1 else 0)≤4300:=by have:=rf.len;omega
    have hyr:yr.length=rows.length:=al5.1
    have add:=fun rs=>RfI.add (hnd ()) (b ()) (hL ()) (hnn ()) hp rf (rs:=rs)
    have kso:=kept_some (hnd ()) (b ()) (kI ()) (hL ()) (List.mem_of_getElem? hp)
    obtain ⟨pre,z,hpz⟩:∃ pre z,p.1=pre++[z]:=by
     obtain ⟨pre,z,h⟩:=(List.eq_nil_or_concat p.1).resolve_left rl.1.ne
     exact ⟨pre,z,by rw [h,List.concat_eq_append]⟩
    obtain ⟨c0,t0,hct,_⟩:=id rl.1
    obtain ⟨l,bb⟩:=p
    replace hpz:l=pre++[z]:=hpz
    replace hct:l=c0::t0:=hct
    replace lg5:H5 lg=some (.lst (l.map V.int)):=lg5
    replace q5:H5 q=some (.tup [.ref lg,.bl bb]):=q5
    replace hpl:l.length≤kv.length:=hpl
    replace al5:=fun (_:Unit)=>al5
    replace rf:=fun (_:Unit)=>rf
    replace add:=fun (_:Unit)=>add
    replace kso:=fun (_:Unit)=>kso
    replace hpz:=fun (_:Unit)=>hpz
    replace hct:=fun (_:Unit)=>hct
    clear hy hp hq4 hlg4 rl hsum k
    cases bb with
    | true=>
     have hbd':rows.length+(l.length+1)≤4300:=hbd
     have lg5':H5 lg=some (.lst (V.int c0::t0.map V.int)):=by rw [lg5,hct ()];rfl
     clear hbd
     replace lg5:=fun (_:Unit)=>lg5
     simp! only [and_true]
     intro t1 H6 ht1 e6 h6
     have W6:=e6.at W5
     have lg6:=e6.at (lg5 ())
     have n1W:t1 ≠ W:=fun z=>by rw [z,W5] at ht1;cases ht1
     have al6:Al (fun p y=>twR p y (upd H6 W (.lst (yr++[.ref t1])))) (rows++[(c0,-1)]) (yr++[.ref t1]):=((al5 ()).imp fun _ _ z=>(z.ext e6).upd W6).snoc ⟨t1,rfl,by rw [upd_ne n1W];exact h6⟩
     replace al6:=fun (_:Unit)=>al6
     clear lg5' ht1 q5
     simp! only [and_true]
     refine ⟨lt5000 (by omega),?_⟩
     have e7:Ext (CutS [W] H4) (upd H6 W (.lst (yr++[.ref t1]))):=(e5.trans e6).put (cut1_no _ _)
     have lg7:upd H6 W (.lst (yr++[.ref t1])) lg=some (.lst (l.map V.int)):=by rw [upd_ne nlW];exact lg6
     have W7:upd H6 W (.lst (yr++[.ref t1])) W=some (.lst (yr++[.ref t1])):=upd_same
     generalize upd H6 W (.lst (yr++[.ref t1]))=H7 at e7 lg7 W7 al6
     clear W6 lg6 h6
     rw [hpz ()] at lg7
     simp! only [and_true]
     rw [c_spRR]
     refine ⟨pre,z,lg7,by rw [←hpz ()];omega,fun r2 H8 hr8 e8 tw8=>?_⟩
     obtain ⟨y8,h8,al8⟩:=tw8
     rw [←hpz ()] at al8
     have W8:=e8.at W7
     have ad:=add () _ (.inl ⟨rfl,rfl⟩)
     have hhd:(l,true).1.headD 0=c0:=by rw [hct ()];rfl
     rw [hhd] at ad
     have hy8:y8.length=l.length:=by rw [al8.1,rndL_len]
     have al9:Al (fun p y=>twR p y (upd H8 W (.lst (yr++[.ref t1]++y8)))) (rows++(c0,-1)::rndL l (-1)) (yr++[.ref t1]++y8):=by
      have h1:=al_app2 ((al6 ()).imp fun _ _ z=>(z.ext e8).upd (ys:=yr++[.ref t1]++y8) W8) (al8.imp fun _ _ z=>z.upd (ys:=yr++[.ref t1]++y8) W8)
      rwa [List.append_assoc rows] at h1
     have e9:Ext (CutS [W] H4) (upd H8 W (.lst (yr++[.ref t1]++y8))):=(e7.trans e8).put (cut1_no _ _)
     replace al8:=fun (_:Unit)=>al8
     replace al9:=fun (_:Unit)=>al9
     replace ad:=fun (_:Unit)=>ad
     replace hhd:=fun (_:Unit)=>hhd
     clear W7 lg7
     simp! only [and_true]
     exact ⟨len5000 (by rw [List.length_append,List.length_singleton];omega),_,_,_,_,_,_,_,rfl,e9,rfl,al9 (),ad ()⟩
    | false=>
     obtain ⟨a,r0,b',hl',hr0,hna⟩:=find_true (kso () rfl)
     replace hl':l=a++r0::b':=hl'
     obtain ⟨ek,hek⟩:∃ ek,lookI kp r0=some ek:=by
      cases e:lookI kp r0 with
      | none=>rw [e] at hr0;cases hr0
      | some v=>exact ⟨v,rfl⟩
     obtain ⟨hekD,hfk⟩:=(kI ()).yes r0 ek hek
     have hlk:lookI kv ek=some r0:=by
      obtain ⟨d,h1,_⟩:=(b ()).wr ek hekD
      rw [fhat_of h1] at hfk
      rw [h1,hfk]
     have hbd':rows.length+l.length≤4300:=by have:=hbd;simp at this;exact this
     have ad:=add () _ (.inr ⟨rfl,a,r0,b',ek,hl',hekD,hlk,rfl⟩)
     have hidx:(l.map fun x=>(lookI kp x).isSome).idxOf true=a.length:=by
      rw [hl',List.map_append,List.map_cons,hr0]
      have:=idx_true (a:=a.map fun x=>(lookI kp x).isSome) (b:=b'.map fun x=>(lookI kp x).isSome) (fun x hx=>by obtain ⟨y,hy,rfl⟩:=List.mem_map.mp hx;exact hna y hy)
      rw [this,List.length_map]
     have hmem:true∈l.map fun x=>(lookI kp x).isSome:=List.mem_map.mpr ⟨r0,by rw [hl'];simp,hr0⟩
     have hll:(l.map fun x=>(lookI kp x).isSome).length≤4200:=by rw [List.length_map];omega
     replace ad:=fun (_:Unit)=>ad
     replace hidx:=fun (_:Unit)=>hidx
     replace hl':=fun (_:Unit)=>hl'
     replace hna:=fun (_:Unit)=>hna
     replace hekD:=fun (_:Unit)=>hekD
     clear hbd hr0 hfk
     simp! only [and_true]
     refine comp_fm (l.map V.int) (fun _=>true) (fun z=>.bl (lookI kp (viI z)).isSome) (fun z x H'=>x=z∧H' lg=some (.lst (l.map V.int))) (wk_lst lg5).1 (wk_lst lg5).2 (len5000 (by rw [List.length_map];omega)) ?_ ?_
     ·intro L2 zz x H' M1 M0 hz hL2 e ⟨hx,_⟩ j1 _
      subst hx
      obtain ⟨c,_,rfl⟩:=List.mem_map.mp hz
      have K6:=e.at K5
      have j1':M1 (.bl (lookI kp c).isSome) H':=j1 rfl H' (Ext.refl _)
      clear j1 hz
      simp! only [↓m_kCm_1,↓m_kCm2]
      refine use_in (k:=Sum.inl c) K6 ?_
      rw [val_tab,Option.isSome_map]
      simp! only [↓m_kCm_1,↓m_kCm2]
     intro L2 H6 hL2 e6 h6
     have h6':H6 L2=some (.lst ((l.map fun x=>(lookI kp x).isSome).map V.bl)):=by
      rw [h6,List.map_map,List.filter_eq_self.mpr (fun _ _=>rfl),List.map_map];rfl
     generalize (l.map fun x=>(lookI kp x).isSome)=bs at h6' hidx hmem hll
     have lg6:=e6.at lg5
     have K6:=e6.at K5
     have W6:=e6.at W5
     have e06:=e5.trans e6
     have al6:Al (fun p y=>twR p y H6) rows yr:=(al5 ()).imp fun _ _ z=>z.ext e6
     replace al6:=fun (_:Unit)=>al6
     clear h6 lg5 K5 W5 q5
     simp! only [and_true]
     rw [hidx ()]
     have hat:atI (l.map V.int) (a.length:Int)=some (.int r0):=atI_nat (by rw [hl' (),List.map_append,List.getElem?_append_right (by simp)];simp)
     rw [cut_some _ _ (Int.natCast_nonneg _),Int.toNat_natCast,show (l.map V.int).drop a.length=(r0::b').map V.int by rw [hl' (),List.map_append,List.drop_left' (by simp)]]
     intro r1 H7 hr7 e7 h7
     have lg7:=e7.at lg6
     have K7:=e7.at K6
     have W7:=e7.at W6
     clear lg6 K6 W6 h6'
     simp! only [and_true]
     rw [cut_none _ _ (Int.natCast_nonneg _),Int.toNat_natCast,show (l.map V.int).take a.length=a.map V.int by rw [hl' (),List.map_append,List.take_left' (by simp)]]
     intro r2 H8 hr8 e8 h8
     have lg8:=e8.at lg7
     have K8:=e8.at K7
     have W8:=e8.at W7
     have h7_8:=e8.at h7
     clear lg7 K7 W7 h7
     rw [List.map_cons] at h7_8
     have hlab:l.length=a.length+(b'.length+1):=by rw [hl' (),List.length_append,List.length_cons]
     simp! only [and_true]
     refine ⟨len5000 (by omega),fun r3 H9 hr9 e9 h9=>?_⟩
     have lg9:=e9.at lg8
     have K9:=e9.at K8
     have W9:=e9.at W8
     have h9':H9 r3=some (.lst ((r0::b'++a).map V.int)):=by rw [h9,List.map_append,List.map_cons];rfl
     clear lg8 K8 W8 h7_8 h8 h9
     simp! only [and_true]
     refine use_dg (k:=.inl r0) (v:=.int ek) K9 (by rw [val_tab,hek];rfl) ?_
     simp! only [and_true]
     rw [c_spRR]
     obtain ⟨pre',z',hpz'⟩:∃ pre' z',r0::b'++a=pre'++[z']:=by
      obtain ⟨pre',z',h⟩:=(List.eq_nil_or_concat (r0::b'++a)).resolve_left (by simp)
      exact ⟨pre',z',by rw [h,List.concat_eq_append]⟩
     rw [hpz'] at h9'
     refine ⟨pre',z',h9',by rw [←hpz',List.length_append,List.length_cons];omega,fun r4 H10 hr10 e10 tw10=>?_⟩
     obtain ⟨y10,h10,al10⟩:=tw10
     rw [←hpz'] at al10
     have W10:=e10.at W9
     have hy10:y10.length=l.length:=by rw [al10.1,rndL_len,List.length_append,List.length_cons];omega
     have e610:=e7.trans (e8.trans (e9.trans e10))
     have al11:Al (fun p y=>twR p y (upd H10 W (.lst (yr++y10)))) (rows++rndL (r0::b'++a) ek) (yr++y10):=al_app2 ((al6 ()).imp fun _ _ z=>(z.ext e610).upd (ys:=yr++y10) W10) (al10.imp fun _ _ z=>z.upd (ys:=yr++y10) W10)
     have e11:Ext (CutS [W] H4) (upd H10 W (.lst (yr++y10))):=(e06.trans e610).put (cut1_no _ _)
     replace al11:=fun (_:Unit)=>al11
     replace al10:=fun (_:Unit)=>al10
     replace hpz':=fun (_:Unit)=>hpz'
     clear lg9 K9 W9 h9' hat
     simp! only [and_true]
     exact ⟨len5000 (by omega),_,_,_,_,_,_,_,rfl,e11,rfl,al11 (),ad ()⟩
   ·rintro _ H5 ⟨v3',v4',v5,v6,v7,rows,yr,rfl,e5,W5,al5,rf⟩
    rw [(al4 ()).1,List.take_length] at rf
    have rw5:=rows_fin (hnd ()) (b ()) (hL ()) rf.st rf.ik rf.len
    have hrl:rows.length≤4300:=by rw [rf.len];omega
    have k':=k () rows W H5 rw5 hrl hW (cut1_ext (e3.trans e4) hW e5) ⟨yr,W5,al5⟩
    clear k al5 rw5 rf
    simp! only [and_true]
abbrev B_spNm (K:PySem.W.Frag) (a:Addr) (ns:List Int) (p:Addr) (H:Hp) (Q:VK) (E:XK):Prop:=p=a∧SqL K H a (ns.map V.int)∧ns.length≤63∧∀ (nm:List Int) (r:Addr) (H':Hp),nm.length=61->(∀ x∈nm,0≤x)->H r=none->Ext H H'->H' r=some (.lst (nm.map V.int))->Q (.ref r) H'
def spNm (K:PySem.W.Frag) (a:Addr) (ns:List Int):Sp:=fun vs H Q E=>∃ (p:Addr),vs=[.ref p]∧(B_spNm K a ns p H Q E)
theorem c_spNm (K:PySem.W.Frag) (a:Addr) (ns:List Int) (p:Addr) (H:Hp) (Q:VK) (E:XK):spNm K a ns [.ref p] H Q E=(B_spNm K a ns p H Q E):=spx1 (f:=fun (p:Addr)=>[.ref p]) (fun _ _ h=>by cases h;exact rfl) p
theorem l_spNm (K:PySem.W.Frag) (a:Addr) (ns:List Int){vs:List V}{H:Hp}{Q:VK}{E:XK}(h:spNm K a ns vs H Q E):vs.length=1:=spl1 h fun _=>rfl
theorem ok__law_names (T:Tx K mg t) (a:Addr) (ns:List Int):FnOk P w K mg base CX0 2 t.a__law_names t.d__law_names ["_law_script"] (spNm K a ns):=by
 have G__law_draw:=ok__law_draw (P:=P) (w:=w) (base:=base) T a ns
 refine T.F__law_names.ok c__law_names (fun vs H Q E h=>l_spNm _ _ _ h) (fun cdv A outer s H vs Q E hr h=>?_)
 ·obtain ⟨_,rfl,rfl,hS,hl,kk⟩:=h
  rename_i a
  refine ⟨_,(@pss_cons _ _ _ _ _ (@ps_set _ _ (1) _ _ _ _ c__law_names.nd rfl (Or.inr rfl) (@pe_op _ _ _ _ _ _ _ _ on_add (@pe_int _ _ _ _) (@pe_call _ _ _ _ _ _ _ _ _ _ _ _ _ _ _ _ G__law_draw (hr.mono (by decide)) (by rfl) T.m__law_draw T.F__law_draw.kp T.b__law_draw .nil pass0 (@pa_c _ _ _ _ _ (@pvN _ 0 _ _ (by rfl) (by trivial) (by decide) (by decide)) (@pa_c _ _ _ _ _ (@pe_int _ _ _ _) (@pa_c _ _ _ _ _ (@pe_int _ _ _ _) (@pa_nil _) (by rfl)) (by rfl)) (by rfl)) (by decide) (by rfl) (by rfl))) (by rfl) (by trivial)) (@pss_cons _ _ _ _ _ (@ps_set _ _ (2) _ _ _ _ c__law_names.nd rfl (Or.inr rfl) (@pe_ix _ _ _ _ _ _ _ ix_q (@pe_qLst _ _ _ _ (@pa_c _ _ _ _ _ (@pe_int _ _ _ _) (@pa_c _ _ _ _ _ (@pe_call _ _ _ _ _ _ _ _ _ _ _ _ _ _ _ _ G__law_draw (hr.mono (by decide)) (by rfl) T.m__law_draw T.F__law_draw.kp T.b__law_draw .nil pass0 (@pa_c _ _ _ _ _ (@pvN _ 0 _ _ (by rfl) (by trivial) (by decide) (by decide)) (@pa_c _ _ _ _ _ (@pe_int _ _ _ _) (@pa_c _ _ _ _ _ (@pe_op _ _ _ _ _ _ _ _ on_pow (@pe_int _ _ _ _) (@pe_int _ _ _ _)) (@pa_nil _) (by rfl)) (by rfl)) (by rfl)) (by decide) (by rfl) (by rfl)) (@pa_nil _) (by rfl)) (by rfl))) (@pe_call _ _ _ _ _ _ _ _ _ _ _ _ _ _ _ _ G__law_draw (hr.mono (by decide)) (by rfl) T.m__law_draw T.F__law_draw.kp T.b__law_draw .nil pass0 (@pa_c _ _ _ _ _ (@pvN _ 0 _ _ (by rfl) (by trivial) (by decide) (by decide)) (@pa_c _ _ _ _ _ (@pe_int _ _ _ _) (@pa_c _ _ _ _ _ (@pe_int _ _ _ _) (@pa_nil _) (by rfl)) (by rfl)) (by rfl)) (by decide) (by rfl) (by rfl)) (fun _ _=>rfl)) (by rfl) (by trivial)) (@pss_cons _ _ _ _ _ (@ps_set _ _ (3) _ _ _ _ c__law_names.nd rfl (Or.inr rfl) (@pe_ix _ _ _ _ _ _ _ ix_q (@pe_qLst _ _ _ _ (@pa_c _ _ _ _ _ (@pe_int _ _ _ _) (@pa_c _ _ _ _ _ (@pe_op _ _ _ _ _ _ _ _ on_add (@pe_int _ _ _ _) (@pe_call _ _ _ _ _ _ _ _ _ _ _ _ _ _ _ _ G__law_draw (hr.mono (by decide)) (by rfl) T.m__law_draw T.F__law_draw.kp T.b__law_draw .nil pass0 (@pa_c _ _ _ _ _ (@pvN _ 0 _ _ (by rfl) (by trivial) (by decide) (by decide)) (@pa_c _ _ _ _ _ (@pe_int _ _ _ _) (@pa_c _ _ _ _ _ (@pe_op _ _ _ _ _ _ _ _ on_pow (@pe_int _ _ _ _) (@pe_int _ _ _ _)) (@pa_nil _) (by rfl)) (by rfl)) (by rfl)) (by decide) (by rfl) (by rfl))) (@pa_c _ _ _ _ _ (@pe_int _ _ _ _) (@pa_nil _) (by rfl)) (by rfl)) (by rfl))) (@pe_op _ _ _ _ _ _ _ _ on_fdiv (@pe_call _ _ _ _ _ _ _ _ _ _ _ _ _ _ _ _ G__law_draw (hr.mono (by decide)) (by rfl) T.m__law_draw T.F__law_draw.kp T.b__law_draw .nil pass0 (@pa_c _ _ _ _ _ (@pvN _ 0 _ _ (by rfl) (by trivial) (by decide) (by decide)) (@pa_c _ _ _ _ _ (@pe_int _ _ _ _) (@pa_c _ _ _ _ _ (@pe_int _ _ _ _) (@pa_nil _) (by rfl)) (by rfl)) (by rfl)) (by decide) (by rfl) (by rfl)) (@pe_int _ _ _ _)) (fun _ _=>rfl)) (by rfl) (by trivial)) (@pss_one _ _ _ (@ps_ret _ _ _ _ (@pe_comp _ _ _ _ _ _ _ _ _ _ _ (["_law_k", "_law_script", "_law_by", "_law_first", "_law_apart"]) (1) (comp_ok (defScope s__law_names) ["_law_script", "_law_by", "_law_first", "_law_apart"] rfl rfl (by decide +kernel)) rfl (@pi_range1 _ _ _ _ _ _ (by rfl) T.z_range (@pa_c _ _ _ _ _ (@pe_int _ _ _ _) (@pa_nil _) (by rfl)) (by rfl)) (fun C s₀ H₀ ex pn=>(@pg_name _ _ (0) _ (show List.Nodup (["_law_k", "_law_script", "_law_by", "_law_first", "_law_apart"]:List Str) from by decide +kernel) rfl (Or.inl rfl) (by trivial))) (fun C s₀ H₀ ex pn=>(@pts_nil _)) (fun C s₀ H₀ ex pn=>(@pe_op _ _ _ _ _ _ _ _ on_add (@pvN _ 3 _ _ (by rfl) (by trivial) (by decide) (by decide)) (@pe_op _ _ _ _ _ _ _ _ on_mul (@pvN _ 4 _ _ (by rfl) (by trivial) (by decide) (by decide)) (@pe_op _ _ _ _ _ _ _ _ on_mod (@pe_op _ _ _ _ _ _ _ _ on_mul (@pvN _ 0 _ _ (by rfl) (by trivial) (by decide) (by decide)) (@pvN _ 2 _ _ (by rfl) (by trivial) (by decide) (by decide))) (@pe_int _ _ _ _))))) (by intros;rfl))))))),?_⟩
  rw [show start ["_law_script", "_law_by", "_law_first", "_law_apart"] [.ref a]=[some (.ref a),none,none,none] from rfl]
  clear G__law_draw
  simp! only [and_true]
  rw [c_spDraw]
  refine ⟨hS,hl,⟨by decide,by decide⟩,by decide,fun by' y0 y1=>?_⟩
  simp! only [and_true]
  rw [c_spDraw]
  refine ⟨hS,hl,⟨by decide,by decide⟩,by decide,fun z z0 z1=>?_⟩
  simp! only [and_true]
  intro q1 H1 hq1 e1 h1
  have hS1:=e1.2 K a _ hS
  simp! only [and_true]
  rw [c_spDraw]
  refine ⟨hS1,hl,⟨by decide,by decide⟩,by decide,fun i i0 i1=>?_⟩
  simp! only [and_true]
  refine optK_ints (fun j=>0≤j∧j < 100000000000000000) i0 (by simpa using i1) (fun v hv=>?_) fun fi hfi=>?_
  ·simp only [List.mem_cons,List.not_mem_nil,or_false] at hv
   rcases hv with rfl|rfl<;>exact ⟨_,rfl,by omega,by omega⟩
  clear h1
  simp! only [and_true]
  rw [c_spDraw]
  refine ⟨hS1,hl,⟨by decide,by decide⟩,by decide,fun u u0 u1=>?_⟩
  simp! only [and_true]
  intro q2 H2 hq2 e2 h2
  have hS2:=e2.2 K a _ hS1
  simp! only [and_true]
  rw [c_spDraw]
  refine ⟨hS2,hl,⟨by decide,by decide⟩,by decide,fun v v0 v1=>?_⟩
  simp! only [and_true]
  refine optK_ints (fun j=>1≤j∧j≤1000000) (by omega) (by show v / 2 < ((3:Nat):Int);omega) (fun v hv=>?_) fun ap hap=>?_
  ·simp only [List.mem_cons,List.not_mem_nil,or_false] at hv
   rcases hv with rfl|rfl|rfl<;>exact ⟨_,rfl,by omega,by omega⟩
  have e02:=e1.trans e2
  clear h2 hS1 hS2 i0 i1 u0 u1 z0 z1 v0 v1 hS hq2 hq1 e1 e2
  simp! only [and_true]
  refine comp_fm (List.range 61) (fun _=>true) (fun j=>.int (fi+ap * ((j:Int) * (1+by') % 61))) (fun j x _=>x=.int (0+(j:Int))) wk_rng.1 (by simpa using wk_rng.2) (by decide) ?_ ?_
  ·intro D j x H' N1 N0 hj hD e hx k1 _
   subst hx
   have hj':=List.mem_range.mp hj
   have g0:=Int.emod_nonneg ((j:Int) * (1+by')) (show (61:Int) ≠ 0 by decide)
   have g1:=Int.emod_lt_of_pos ((j:Int) * (1+by')) (show (0:Int) < 61 by decide)
   have k1':N1 (.int (fi+ap * ((j:Int) * (1+by') % 61))) H':=k1 rfl H' (Ext.refl _)
   clear k1 kk hj
   rw [Int.zero_add]
   simp! only [↓m_kCm_1,↓m_kCm2]
   exact ⟨.inl ⟨by omega,by omega⟩,.inl ⟨by omega,by omega⟩⟩
  ·intro D H3 hD e3 h3
   rw [List.filter_eq_self.mpr (fun _ _=>rfl)] at h3
   exact kk ((List.range 61).map fun (j:Nat)=>fi+ap * ((j:Int) * (1+by') % 61)) D H3 (by simp) (fun x hx=>by
    obtain ⟨j,_,rfl⟩:=List.mem_map.mp hx
    have h1:=Int.emod_nonneg ((j:Int) * (1+by')) (show (61:Int) ≠ 0 by decide)
    have h2:=Int.mul_nonneg (show 0≤ap by omega) h1
    omega) (e02.free hD) (e02.trans e3) (by rw [h3,List.map_map];rfl)
structure SmD (m:Int) (kv:List (Int × Int)):Prop where
 nd:NdK kv
 all:∀ c v,lookI kv c=some v->(0≤c∧c < m)∧0≤v∧v < 61
theorem SmD.nil (m:Int):SmD m []:=⟨List.nodup_nil,fun _ _ h=>by cases h⟩
theorem SmD.put {m:Int}{kv:List (Int × Int)}(h:SmD m kv){c v:Int}(hc:0≤c∧c < m) (hv:0≤v∧v < 61):SmD m (putI kv c v):=by
 refine ⟨putI_nodup h.nd c v,fun x y e=>?_⟩
 rw [look_put] at e
 by_cases hx:x=c
 ·rw [if_pos hx] at e
  rw [hx,←Option.some.inj e]
  exact ⟨hc,hv⟩
 ·rw [if_neg hx] at e
  exact h.all x y e
theorem SmD.len {m:Int}{kv:List (Int × Int)}(h:SmD m kv) (hm:m≤50):kv.length≤50:=by
 have:=nd_len h.nd (b:=(List.range 50).map fun (j:Nat)=>(j:Int)) fun x hx=>by
  cases e:lookI kv x with
  | none=>exact absurd hx (look_none.mp e)
  | some v=>
   have h1:=(h.all x v e).1
   exact List.mem_map.mpr ⟨x.toNat,List.mem_range.mpr (by omega),by omega⟩
 simpa using this
abbrev B_spBk (K:PySem.W.Frag) (a:Addr) (ns:List Int) (p:Addr) (m:Int) (H:Hp) (Q:VK) (E:XK):Prop:=p=a∧SqL K H a (ns.map V.int)∧ns.length≤63∧(0≤m∧m≤50)∧∀ (kv:List (Int × Int)) (r:Addr) (H':Hp),SmD m kv->H r=none->Ext H H'->H' r=some (.dK (tabI kv))->Q (.ref r) H'
def spBk (K:PySem.W.Frag) (a:Addr) (ns:List Int):Sp:=fun vs H Q E=>∃ (p:Addr) (m:Int),vs=[.ref p,.int m]∧(B_spBk K a ns p m H Q E)
theorem c_spBk (K:PySem.W.Frag) (a:Addr) (ns:List Int) (p:Addr) (m:Int) (H:Hp) (Q:VK) (E:XK):spBk K a ns [.ref p,.int m] H Q E=(B_spBk K a ns p m H Q E):=spx2 (f:=fun (p:Addr) (m:Int)=>[.ref p,.int m]) (fun _ _ _ _ h=>by cases h;exact ⟨rfl,rfl⟩) p m
theorem l_spBk (K:PySem.W.Frag) (a:Addr) (ns:List Int){vs:List V}{H:Hp}{Q:VK}{E:XK}(h:spBk K a ns vs H Q E):vs.length=2:=spl2 h fun _ _=>rfl
theorem ok__law_blocks (T:Tx K mg t) (a:Addr) (ns:List Int):FnOk P w K mg base CX0 2 t.a__law_blocks t.d__law_blocks ["_law_script", "_law_many"] (spBk K a ns):=by
 have G__law_draw:=ok__law_draw (P:=P) (w:=w) (base:=base) T a ns
 refine T.F__law_blocks.ok c__law_blocks (fun vs H Q E h=>l_spBk _ _ _ h) (fun cdv A outer s H vs Q E hr h=>?_)
 ·obtain ⟨_,m,rfl,rfl,hS,hl,⟨hm0,hm1⟩,kk⟩:=h
  rename_i a
  refine ⟨_,(@pss_cons _ _ _ _ _ (@ps_set _ _ (2) _ _ _ _ c__law_blocks.nd rfl (Or.inl rfl) (@pe_nDNew _ _) (by rfl) (by trivial)) (@pss_cons _ _ _ _ _ (@ps_set _ _ (3) _ _ _ _ c__law_blocks.nd rfl (Or.inl rfl) (@pe_int _ _ _ _) (by rfl) (by trivial)) (@pss_cons _ _ _ _ _ (@ps_while _ _ _ _ _ _ PassesOwn.never (@pt_cmpRN _ _ _ _ _ _ _ _ on_lt (@pvN _ 3 _ _ (by rfl) (by trivial) (by decide) (by decide)) (@pvN _ 1 _ _ (by rfl) (by trivial) (by decide) (by decide)) (nomark _)) (@pss_cons _ _ _ _ _ (@ps_set _ _ (4) _ _ _ _ c__law_blocks.nd rfl (Or.inl rfl) (@pe_callB _ _ _ _ _ _ _ ("min") _ (call_qMin rfl) (by rfl) T.z_min (by decide +kernel) (@pa_c _ _ _ _ _ (@pvN _ 1 _ _ (by rfl) (by trivial) (by decide) (by decide)) (@pa_c _ _ _ _ _ (@pe_op _ _ _ _ _ _ _ _ on_add (@pe_op _ _ _ _ _ _ _ _ on_add (@pvN _ 3 _ _ (by rfl) (by trivial) (by decide) (by decide)) (@pe_int _ _ _ _)) (@pe_call _ _ _ _ _ _ _ _ _ _ _ _ _ _ _ _ G__law_draw (hr.mono (by decide)) (by rfl) T.m__law_draw T.F__law_draw.kp T.b__law_draw .nil pass0 (@pa_c _ _ _ _ _ (@pvN _ 0 _ _ (by rfl) (by trivial) (by decide) (by decide)) (@pa_c _ _ _ _ _ (@pe_op _ _ _ _ _ _ _ _ on_add (@pe_int _ _ _ _) (@pvN _ 3 _ _ (by rfl) (by trivial) (by decide) (by decide))) (@pa_c _ _ _ _ _ (@pe_int _ _ _ _) (@pa_nil _) (by rfl)) (by rfl)) (by rfl)) (by decide) (by rfl) (by rfl))) (@pa_nil _) (by rfl)) (by rfl)) (by decide) (by decide) (by rfl) (by rfl)) (by rfl) (by trivial)) (@pss_cons _ _ _ _ _ (@ps_for _ _ _ _ _ _ _ _ PassesOwn.never rfl (@pi_range2 _ _ _ _ _ _ _ (by rfl) T.z_range (@pa_c _ _ _ _ _ (@pvN _ 3 _ _ (by rfl) (by trivial) (by decide) (by decide)) (@pa_c _ _ _ _ _ (@pvN _ 4 _ _ (by rfl) (by trivial) (by decide) (by decide)) (@pa_nil _) (by rfl)) (by rfl)) (by rfl) (by rfl)) (@pg_name _ _ (5) _ c__law_blocks.nd rfl (Or.inl rfl) (by trivial)) (@pss_one _ _ _ (@ps_dput _ _ _ _ _ _ _ _ _ (units1 hr.units) (@pvN _ 2 _ _ (by rfl) (by trivial) (by decide) (by decide)) (@pvN _ 5 _ _ (by rfl) (by trivial) (by decide) (by decide)) (@pe_op _ _ _ _ _ _ _ _ on_add (@pvN _ 5 _ _ (by rfl) (by trivial) (by decide) (by decide)) (@pe_int _ _ _ _)) rfl)) (by intros;rfl)) (@pss_cons _ _ _ _ _ (@ps_dput _ _ _ _ _ _ _ _ _ (units1 hr.units) (@pvN _ 2 _ _ (by rfl) (by trivial) (by decide) (by decide)) (@pe_op _ _ _ _ _ _ _ _ on_sub (@pvN _ 4 _ _ (by rfl) (by trivial) (by decide) (by decide)) (@pe_int _ _ _ _)) (@pvN _ 3 _ _ (by rfl) (by trivial) (by decide) (by decide)) rfl) (@pss_cons _ _ _ _ _ (@ps_if _ _ _ _ _ _ _ _ (@pt_cmpRN _ _ _ _ _ _ _ _ (op_qEq hr.units) (@pe_call _ _ _ _ _ _ _ _ _ _ _ _ _ _ _ _ G__law_draw (hr.mono (by decide)) (by rfl) T.m__law_draw T.F__law_draw.kp T.b__law_draw .nil pass0 (@pa_c _ _ _ _ _ (@pvN _ 0 _ _ (by rfl) (by trivial) (by decide) (by decide)) (@pa_c _ _ _ _ _ (@pe_op _ _ _ _ _ _ _ _ on_add (@pe_int _ _ _ _) (@pvN _ 3 _ _ (by rfl) (by trivial) (by decide) (by decide))) (@pa_c _ _ _ _ _ (@pe_int _ _ _ _) (@pa_nil _) (by rfl)) (by rfl)) (by rfl)) (by decide) (by rfl) (by rfl)) (@pe_int _ _ _ _) (nomark _)) (@pss_one _ _ _ (@ps_dput _ _ _ _ _ _ _ _ _ (units1 hr.units) (@pvN _ 2 _ _ (by rfl) (by trivial) (by decide) (by decide)) (@pe_op _ _ _ _ _ _ _ _ on_sub (@pvN _ 4 _ _ (by rfl) (by trivial) (by decide) (by decide)) (@pe_int _ _ _ _)) (@pe_call _ _ _ _ _ _ _ _ _ _ _ _ _ _ _ _ G__law_draw (hr.mono (by decide)) (by rfl) T.m__law_draw T.F__law_draw.kp T.b__law_draw .nil pass0 (@pa_c _ _ _ _ _ (@pvN _ 0 _ _ (by rfl) (by trivial) (by decide) (by decide)) (@pa_c _ _ _ _ _ (@pe_op _ _ _ _ _ _ _ _ on_add (@pe_int _ _ _ _) (@pvN _ 3 _ _ (by rfl) (by trivial) (by decide) (by decide))) (@pa_c _ _ _ _ _ (@pe_int _ _ _ _) (@pa_nil _) (by rfl)) (by rfl)) (by rfl)) (by decide) (by rfl) (by rfl)) rfl)) (@pss_nil _)) (@pss_one _ _ _ (@ps_set _ _ (3) _ _ _ _ c__law_blocks.nd rfl (Or.inl rfl) (@pvN _ 4 _ _ (by rfl) (by trivial) (by decide) (by decide)) (by rfl) (by trivial)))))))) (@pss_one _ _ _ (@ps_ret _ _ _ _ (@pvN _ 2 _ _ (by rfl) (by trivial) (by decide) (by decide))))))),?_⟩
  rw [show start ["_law_script", "_law_many", "_law_found_here", "_law_begin", "_law_end", "_law_k"] [.ref a,.int m]=[some (.ref a),some (.int m),none,none,none,none] from rfl]
  clear G__law_draw
  simp! only [and_true]
  intro d H1 hd1 e1 h1
  simp! only [and_true]
  refine while_w (by repeat' first|exact mo_tV|exact mo_nI0|exact mo_nI|apply mo_nTest|apply mo_unN|exact mo_var|exact mo_c|exact mo_rI0|exact mo_rI|exact mo_rIsN|exact mo_rNotN|exact mo_qEq|exact mo_qIx|exact mo_nil|exact mo_qLen|exact mo_inD|exact mo_qLenD|apply mo_dget2|apply mo_test|apply mo_tB|apply mo_not|apply mo_and|apply mo_or|apply mo_op|apply mo_un|apply mo_cons|apply mo_qLst|apply mo_cb) (fun mm σ H'=>∃ (b:Int) (v4 v5:Option V) (kv:List (Int × Int)),σ=[some (.ref a),some (.int m),some (.ref d),some (.int b),v4,v5]∧mm=(m - b).toNat∧0≤b∧b≤m∧Ext H H'∧H' d=some (.dK (tabI kv))∧SmD m kv) _ ⟨0,none,none,[],rfl,rfl,by omega,hm0,e1,h1,SmD.nil m⟩ ?_
  rintro mm _ H2 ⟨b,v4,v5,kv,rfl,rfl,hb0,hbm,e2,d2,sd⟩
  have hS2:=e2.2 K a _ hS
  replace sd:=fun (_:Unit)=>sd
  clear h1 e1
  by_cases hb:b < m
  ·simp! only [and_true]
   rw [c_spDraw]
   refine ⟨hS2,hl,⟨by omega,by omega⟩,by decide,fun z z0 z1=>?_⟩
   simp! only [and_true]
   obtain ⟨en,hen,he1,he2⟩:∃ en,(if b+1+z < m then b+1+z else m)=en∧b+1≤en∧en≤m:=⟨_,rfl,by split<;>omega,by split<;>omega⟩
   rw [hen]
   refine ⟨⟨by omega,by omega,by omega,by omega⟩,?_⟩
   clear hen z0 z1
   refine for_rng (fun i σ H'=>∃ (v5':Option V) (kv':List (Int × Int)),σ=[some (.ref a),some (.int m),some (.ref d),some (.int b),some (.int en),v5']∧Ext H H'∧H' d=some (.dK (tabI kv'))∧SmD m kv') ⟨v5,kv,rfl,e2,d2,sd ()⟩ ?_ ?_
   ·rintro i _ H3 hi ⟨v5',kv',rfl,e3,d3,sd3⟩
    have hl5:(tabI kv').length < sizeLine:=lt5000 (by rw [tab_len];have:=sd3.len hm1;omega)
    have sd4:=sd3.put (c:=b+(i:Int)) (v:=b+(i:Int)+1) ⟨by omega,by omega⟩ ⟨by omega,by omega⟩
    replace sd4:=fun (_:Unit)=>sd4
    clear sd3 d2 kk
    simp! only [and_true]
    refine use_dp (k:=.inl (b+(i:Int))) d3 hl5 ?_
    rw [put_tabI]
    exact ⟨_,_,rfl,e3.put hd1,upd_same,sd4 ()⟩
   ·rintro _ H3 ⟨v5',kv',rfl,e3,d3,sd3⟩
    have hl5:(tabI kv').length < sizeLine:=lt5000 (by rw [tab_len];have:=sd3.len hm1;omega)
    have sd4:=sd3.put (c:=en - 1) (v:=b) ⟨by omega,by omega⟩ ⟨by omega,by omega⟩
    have hl6:(tabI (putI kv' (en - 1) b)).length < sizeLine:=lt5000 (by rw [tab_len];have:=sd4.len hm1;omega)
    replace sd4:=fun (_:Unit)=>sd4
    clear sd3 d2 kk
    simp! only [and_true]
    refine use_dp (k:=.inl (en - 1)) d3 hl5 ?_
    rw [put_tabI]
    have e4:Ext H (upd H3 d (.dK (tabI (putI kv' (en - 1) b)))):=e3.put hd1
    have d4:upd H3 d (.dK (tabI (putI kv' (en - 1) b))) d=some (.dK (tabI (putI kv' (en - 1) b))):=upd_same
    have hS4:=e4.2 K a _ hS
    generalize upd H3 d (.dK (tabI (putI kv' (en - 1) b)))=H4 at e4 d4 hS4
    clear hl5 d3
    simp! only [and_true]
    rw [c_spDraw]
    refine ⟨hS4,hl,⟨by omega,by omega⟩,by decide,fun y y0 y1=>?_⟩
    by_cases hy:y=0
    ·simp! only [and_true]
     rw [c_spDraw]
     refine ⟨hS4,hl,⟨by omega,by omega⟩,by decide,fun x x0 x1=>?_⟩
     have sd5:=(sd4 ()).put (c:=en - 1) (v:=x) ⟨by omega,by omega⟩ ⟨by omega,by omega⟩
     simp! only [and_true]
     refine use_dp (k:=.inl (en - 1)) d4 hl6 ?_
     rw [put_tabI]
     have e5:Ext H (upd H4 d (.dK (tabI (putI (putI kv' (en - 1) b) (en - 1) x)))):=e4.put hd1
     have d5:upd H4 d (.dK (tabI (putI (putI kv' (en - 1) b) (en - 1) x))) d=some (.dK (tabI (putI (putI kv' (en - 1) b) (en - 1) x))):=upd_same
     generalize upd H4 d (.dK (tabI (putI (putI kv' (en - 1) b) (en - 1) x)))=H5 at e5 d5
     clear d4 hl6
     simp! only [-upd_same]
     exact ⟨_,(by omega),en,_,_,_,rfl,rfl,by omega,he2,e5,rfl,sd5⟩
    ·simp! only [-upd_same]
     exact ⟨_,(by omega),en,_,_,_,rfl,rfl,by omega,he2,e4,rfl,sd4 ()⟩
  ·have k':=kk kv d H2 (sd ()) hd1 e2 d2
   clear kk
   simp! only [and_true]
theorem ifs_mono {c:TT}{t u:TS}{D:Ends}{σ:St}{H:Hp}(R:Bool->Hp->Prop) (h:∀ Qb:Bool->Hp->Prop,(∀ b H',R b H'->Qb b H')->c σ H Qb) (k:∀ b H',R b H'->kIfS t u D σ b H'):tIfS c t u D σ H:=h _ k
def OrdR (m:Int) (y:V) (H:Hp):Prop:=∃ q i j,y=.ref q∧H q=some (.tup [.int i,.int j])∧0≤j∧j < m
theorem OrdR.ext {m:Int}{y:V}{H H':Hp}(h:OrdR m y H) (e:Ext H H'):OrdR m y H':=by
 obtain ⟨q,i,j,h1,h2,h3⟩:=h
 exact ⟨q,i,j,h1,e.at h2,h3⟩
structure TdI (N:Nat) (kv:List (Int × Int)):Prop where
 nd:NdK kv
 len:kv.length≤N
 nn:∀ c e,lookI kv c=some e->0≤c∧0≤e
theorem TdI.put {N:Nat}{kv:List (Int × Int)}(h:TdI N kv){c v:Int}(hc:0≤c) (hv:0≤v):TdI (N+1) (putI kv c v):=by
 refine ⟨putI_nodup h.nd c v,by have:=putI_len kv c v;have:=h.len;omega,fun x e he=>?_⟩
 rw [look_put] at he
 by_cases hx:x=c
 ·rw [if_pos hx] at he
  rw [hx,←Option.some.inj he]
  exact ⟨hc,hv⟩
 ·rw [if_neg hx] at he
  exact h.nn x e he
abbrev B_spFd (K:PySem.W.Frag) (a:Addr) (ns:List Int) (p:Addr) (H:Hp) (Q:VK) (E:XK):Prop:=p=a∧SqL K H a (ns.map V.int)∧ns.length≤63∧∀ (kv:List (Int × Int)) (r:Addr) (H':Hp),NdK kv->kv.length≤50->(∀ c e,lookI kv c=some e->0≤c∧0≤e)->H r=none->Ext H H'->H' r=some (.dK (tabI kv))->Q (.ref r) H'
def spFd (K:PySem.W.Frag) (a:Addr) (ns:List Int):Sp:=fun vs H Q E=>∃ (p:Addr),vs=[.ref p]∧(B_spFd K a ns p H Q E)
theorem c_spFd (K:PySem.W.Frag) (a:Addr) (ns:List Int) (p:Addr) (H:Hp) (Q:VK) (E:XK):spFd K a ns [.ref p] H Q E=(B_spFd K a ns p H Q E):=spx1 (f:=fun (p:Addr)=>[.ref p]) (fun _ _ h=>by cases h;exact rfl) p
theorem l_spFd (K:PySem.W.Frag) (a:Addr) (ns:List Int){vs:List V}{H:Hp}{Q:VK}{E:XK}(h:spFd K a ns vs H Q E):vs.length=1:=spl1 h fun _=>rfl
theorem ok__law_found (T:Tx K mg t) (a:Addr) (ns:List Int):FnOk P w K mg base CX0 3 t.a__law_found t.d__law_found ["_law_script"] (spFd K a ns):=by
 have G__law_draw:=ok__law_draw (P:=P) (w:=w) (base:=base) T a ns
 have G__law_blocks:=ok__law_blocks (P:=P) (w:=w) (base:=base) T a ns
 have G__law_names:=ok__law_names (P:=P) (w:=w) (base:=base) T a ns
 refine T.F__law_found.ok c__law_found (fun vs H Q E h=>l_spFd _ _ _ h) (fun cdv A outer s H vs Q E hr h=>?_)
 ·obtain ⟨_,rfl,rfl,hS,hl,kk⟩:=h
  rename_i a
  refine ⟨_,(@pss_cons _ _ _ _ _ (@ps_set _ _ (1) _ _ _ _ c__law_found.nd rfl (Or.inl rfl) (@pe_op _ _ _ _ _ _ _ _ on_add (@pe_int _ _ _ _) (@pe_call _ _ _ _ _ _ _ _ _ _ _ _ _ _ _ _ G__law_draw (hr.mono (by decide)) (by rfl) T.m__law_draw T.F__law_draw.kp T.b__law_draw .nil pass0 (@pa_c _ _ _ _ _ (@pvN _ 0 _ _ (by rfl) (by trivial) (by decide) (by decide)) (@pa_c _ _ _ _ _ (@pe_int _ _ _ _) (@pa_c _ _ _ _ _ (@pe_int _ _ _ _) (@pa_nil _) (by rfl)) (by rfl)) (by rfl)) (by decide) (by rfl) (by rfl))) (by rfl) (by trivial)) (@pss_cons _ _ _ _ _ (@ps_set _ _ (2) _ _ _ _ c__law_found.nd rfl (Or.inl rfl) (@pe_call _ _ _ _ _ _ _ _ _ _ _ _ _ _ _ _ G__law_draw (hr.mono (by decide)) (by rfl) T.m__law_draw T.F__law_draw.kp T.b__law_draw .nil pass0 (@pa_c _ _ _ _ _ (@pvN _ 0 _ _ (by rfl) (by trivial) (by decide) (by decide)) (@pa_c _ _ _ _ _ (@pe_int _ _ _ _) (@pa_c _ _ _ _ _ (@pe_int _ _ _ _) (@pa_nil _) (by rfl)) (by rfl)) (by rfl)) (by decide) (by rfl) (by rfl)) (by rfl) (by trivial)) (@pss_cons _ _ _ _ _ (@ps_set _ _ (3) _ _ _ _ c__law_found.nd rfl (Or.inl rfl) (@pe_callB _ _ _ _ _ _ _ ("sorted") _ call_qSrtP (by rfl) T.z_sorted (by decide +kernel) (@pa_c _ _ _ _ _ (@pe_comp _ _ _ _ _ _ _ _ _ _ _ (["_law_k", "_law_script", "_law_many", "_law_way", "_law_order", "_law_found_here", "!_law_k", "_law_names_here", "_law_told"]) (1) (comp_ok (defScope s__law_found) ["_law_script", "_law_many", "_law_way", "_law_order", "_law_found_here", "_law_k", "_law_names_here", "_law_told"] rfl rfl (by decide +kernel)) rfl (@pi_range1 _ _ _ _ _ _ (by rfl) T.z_range (@pa_c _ _ _ _ _ (@pvN _ 1 _ _ (by rfl) (by trivial) (by decide) (by decide)) (@pa_nil _) (by rfl)) (by rfl)) (fun C s₀ H₀ ex pn=>(@pg_name _ _ (0) _ (show List.Nodup (["_law_k", "_law_script", "_law_many", "_law_way", "_law_order", "_law_found_here", "!_law_k", "_law_names_here", "_law_told"]:List Str) from by decide +kernel) rfl (Or.inl rfl) (by trivial))) (fun C s₀ H₀ ex pn=>(@pts_nil _)) (fun C s₀ H₀ ex pn=>(@pe_qTup _ _ _ _ _ (@pa_c _ _ _ _ _ (@pe_call _ _ _ _ _ _ _ _ _ _ _ _ _ _ _ _ G__law_draw (hr.mono (by decide)) (by rfl) T.m__law_draw T.F__law_draw.kp T.b__law_draw .nil pass0 (@pa_c _ _ _ _ _ (@pvN _ 1 _ _ (by rfl) (by trivial) (by decide) (by decide)) (@pa_c _ _ _ _ _ (@pe_op _ _ _ _ _ _ _ _ on_add (@pe_int _ _ _ _) (@pvN _ 0 _ _ (by rfl) (by trivial) (by decide) (by decide))) (@pa_c _ _ _ _ _ (@pe_op _ _ _ _ _ _ _ _ on_pow (@pe_int _ _ _ _) (@pe_int _ _ _ _)) (@pa_nil _) (by rfl)) (by rfl)) (by rfl)) (by decide) (by rfl) (by rfl)) (@pa_c _ _ _ _ _ (@pvN _ 0 _ _ (by rfl) (by trivial) (by decide) (by decide)) (@pa_nil _) (by rfl)) (by rfl)))) (by intros;rfl)) (@pa_nil _) (by rfl)) (by decide) (by decide) (by rfl) (by rfl)) (by rfl) (by trivial)) (@pss_cons _ _ _ _ _ (@ps_set _ _ (4) _ _ _ _ c__law_found.nd rfl (Or.inl rfl) (@pe_nDNew _ _) (by rfl) (by trivial)) (@pss_cons _ _ _ _ _ (@ps_for _ _ _ _ _ _ _ _ PassesOwn.never rfl (@pi_range1 _ _ _ _ _ _ (by rfl) T.z_range (@pa_c _ _ _ _ _ (@pvN _ 1 _ _ (by rfl) (by trivial) (by decide) (by decide)) (@pa_nil _) (by rfl)) (by rfl)) (@pg_name _ _ (5) _ c__law_found.nd rfl (Or.inl rfl) (by trivial)) (@pss_cons _ _ _ _ _ (@ps_dput _ _ _ _ _ _ _ _ _ (units1 hr.units) (@pvN _ 4 _ _ (by rfl) (by trivial) (by decide) (by decide)) (@pvN _ 5 _ _ (by rfl) (by trivial) (by decide) (by decide)) (@pe_ix _ _ _ _ _ _ _ ix_q (@pe_ix _ _ _ _ _ _ _ ix_q (@pvN _ 3 _ _ (by rfl) (by trivial) (by decide) (by decide)) (@pvN _ 5 _ _ (by rfl) (by trivial) (by decide) (by decide)) (fun _ _=>rfl)) (@pe_int _ _ _ _) (fun _ _=>rfl)) rfl) (@pss_one _ _ _ (@ps_if _ _ _ _ _ _ _ _ (PW.pt (@pw_or _ _ _ _ _ _ _ (@pt_cmpRN _ _ _ _ _ _ _ _ (op_qEq hr.units) (@pvN _ 2 _ _ (by rfl) (by trivial) (by decide) (by decide)) (@pe_int _ _ _ _) (nomark _)) (@pw_or1 _ _ _ _ (PW.pt (@pw_and _ _ _ _ _ _ _ (@pt_cmpRN _ _ _ _ _ _ _ _ (op_qEq hr.units) (@pvN _ 2 _ _ (by rfl) (by trivial) (by decide) (by decide)) (@pe_int _ _ _ _) (nomark _)) (@pw_and1 _ _ _ _ (@pt_cmpRN _ _ _ _ _ _ _ _ (op_qEq hr.units) (@pe_call _ _ _ _ _ _ _ _ _ _ _ _ _ _ _ _ G__law_draw (hr.mono (by decide)) (by rfl) T.m__law_draw T.F__law_draw.kp T.b__law_draw .nil pass0 (@pa_c _ _ _ _ _ (@pvN _ 0 _ _ (by rfl) (by trivial) (by decide) (by decide)) (@pa_c _ _ _ _ _ (@pe_op _ _ _ _ _ _ _ _ on_add (@pe_int _ _ _ _) (@pvN _ 5 _ _ (by rfl) (by trivial) (by decide) (by decide))) (@pa_c _ _ _ _ _ (@pe_int _ _ _ _) (@pa_nil _) (by rfl)) (by rfl)) (by rfl)) (by decide) (by rfl) (by rfl)) (@pe_int _ _ _ _) (nomark _)))))))) (@pss_one _ _ _ (@ps_dput _ _ _ _ _ _ _ _ _ (units1 hr.units) (@pvN _ 4 _ _ (by rfl) (by trivial) (by decide) (by decide)) (@pvN _ 5 _ _ (by rfl) (by trivial) (by decide) (by decide)) (@pe_call _ _ _ _ _ _ _ _ _ _ _ _ _ _ _ _ G__law_draw (hr.mono (by decide)) (by rfl) T.m__law_draw T.F__law_draw.kp T.b__law_draw .nil pass0 (@pa_c _ _ _ _ _ (@pvN _ 0 _ _ (by rfl) (by trivial) (by decide) (by decide)) (@pa_c _ _ _ _ _ (@pe_op _ _ _ _ _ _ _ _ on_add (@pe_int _ _ _ _) (@pvN _ 5 _ _ (by rfl) (by trivial) (by decide) (by decide))) (@pa_c _ _ _ _ _ (@pe_op _ _ _ _ _ _ _ _ on_add (@pvN _ 1 _ _ (by rfl) (by trivial) (by decide) (by decide)) (@pe_int _ _ _ _)) (@pa_nil _) (by rfl)) (by rfl)) (by rfl)) (by decide) (by rfl) (by rfl)) rfl)) (@pss_nil _)))) (by intros;rfl)) (@pss_cons _ _ _ _ _ (@ps_if _ _ _ _ _ _ _ _ (@pt_cmpRN _ _ _ _ _ _ _ _ on_gt (@pvN _ 2 _ _ (by rfl) (by trivial) (by decide) (by decide)) (@pe_int _ _ _ _) (nomark _)) (@pss_one _ _ _ (@ps_set _ _ (4) _ _ _ _ c__law_found.nd rfl (Or.inl rfl) (@pe_call _ _ _ _ _ _ _ _ _ _ _ _ _ _ _ _ G__law_blocks (hr.mono (by decide)) (by rfl) T.m__law_blocks T.F__law_blocks.kp T.b__law_blocks .nil pass0 (@pa_c _ _ _ _ _ (@pvN _ 0 _ _ (by rfl) (by trivial) (by decide) (by decide)) (@pa_c _ _ _ _ _ (@pvN _ 1 _ _ (by rfl) (by trivial) (by decide) (by decide)) (@pa_nil _) (by rfl)) (by rfl)) (by decide) (by rfl) (by rfl)) (by rfl) (by trivial))) (@pss_nil _)) (@pss_cons _ _ _ _ _ (@ps_set _ _ (6) _ _ _ _ c__law_found.nd rfl (Or.inl rfl) (@pe_call _ _ _ _ _ _ _ _ _ _ _ _ _ _ _ _ G__law_names (hr.mono (by decide)) (by rfl) T.m__law_names T.F__law_names.kp T.b__law_names .nil pass0 (@pa_c _ _ _ _ _ (@pvN _ 0 _ _ (by rfl) (by trivial) (by decide) (by decide)) (@pa_nil _) (by rfl)) (by decide) (by rfl) (by rfl)) (by rfl) (by trivial)) (@pss_cons _ _ _ _ _ (@ps_set _ _ (7) _ _ _ _ c__law_found.nd rfl (Or.inl rfl) (@pe_nDNew _ _) (by rfl) (by trivial)) (@pss_cons _ _ _ _ _ (@ps_thaw _ _ _ (@ps_for _ _ _ _ _ _ _ _ PassesOwn.never rfl (@pi_dict _ _ _ _ (@pvN _ 4 _ _ (by rfl) (by trivial) (by decide) (by decide))) (@pg_name _ _ (5) _ c__law_found.nd rfl (Or.inl rfl) (by trivial)) (@pss_one _ _ _ (@ps_dput _ _ _ _ _ _ _ _ _ (units1 hr.units) (@pvN _ 7 _ _ (by rfl) (by trivial) (by decide) (by decide)) (@pe_ix _ _ _ _ _ _ _ ix_q (@pvN _ 6 _ _ (by rfl) (by trivial) (by decide) (by decide)) (@pvN _ 5 _ _ (by rfl) (by trivial) (by decide) (by decide)) (fun _ _=>rfl)) (@pe_ix _ _ _ _ _ _ _ ix_q (@pvN _ 6 _ _ (by rfl) (by trivial) (by decide) (by decide)) (@pe_dget _ _ _ _ _ _ (units1 hr.units) (@pvN _ 4 _ _ (by rfl) (by trivial) (by decide) (by decide)) (@pvN _ 5 _ _ (by rfl) (by trivial) (by decide) (by decide)) (fun _ _=>rfl)) (fun _ _=>rfl)) rfl)) (by intros;rfl))) (@pss_one _ _ _ (@ps_ret _ _ _ _ (@pvN _ 7 _ _ (by rfl) (by trivial) (by decide) (by decide))))))))))))),?_⟩
  rw [show start ["_law_script", "_law_many", "_law_way", "_law_order", "_law_found_here", "_law_k", "_law_names_here", "_law_told"] [.ref a]=[some (.ref a),none,none,none,none,none,none,none] from rfl]
  clear G__law_draw G__law_blocks G__law_names
  replace kk:=fun (_:Unit)=>kk
  simp! only [and_true]
  rw [c_spDraw]
  refine ⟨hS,hl,⟨by decide,by decide⟩,by decide,fun z z0 z1=>?_⟩
  simp! only [and_true]
  have hm2:2≤2+z:=by omega
  have hm50:2+z≤50:=by omega
  clear z0 z1
  generalize 2+z=m at hm2 hm50 ⊢
  rw [c_spDraw]
  refine ⟨hS,hl,⟨by decide,by decide⟩,by decide,fun wy w0 w1=>?_⟩
  simp! only [and_true]
  refine ⟨by omega,by omega,?_⟩
  refine comp_rel2 (List.range m.toNat) (fun _=>true) (fun j x _=>x=.int (0+(j:Int))) (fun _ j y H'=>OrdR m y H') wk_rng.1 wk_rng.2 (fun D z y H1 H2 q e=>q.ext e) (fun D z y H1 xs o ⟨q,i,j,a1,a2,a3⟩ hD=>⟨q,i,j,a1,by rw [upd_ne fun z=>by rw [z,hD] at a2;cases a2];exact a2,a3⟩) (len5000 (by rw [List.length_range];omega)) ?_ ?_
  ·intro D j x H' N1 N0 hj hD e _ hx k1 _
   subst hx
   have hj':=List.mem_range.mp hj
   have hS':=e.2 K a _ hS
   replace k1:=fun (_:Unit)=>k1 rfl
   clear kk hj
   simp! only [↓m_kCm_1,↓m_kCm2]
   rw [c_spDraw]
   refine ⟨hS',hl,⟨by omega,by omega⟩,by decide,fun u u0 u1=>?_⟩
   simp! only [and_true]
   intro q H2 hq e2 h2
   exact k1 () _ H2 e2 ⟨q,_,_,rfl,h2,by omega,by omega⟩
  intro D ys H1 hD e1 h1 al
  rw [List.filter_eq_self.mpr (fun _ _=>rfl)] at al
  have hyl:ys.length=m.toNat:=by rw [al.1,List.length_range]
  have hys:∀ y∈ys,OrdR m y H1:=fun y hy=>by
   obtain ⟨i,hi,rfl⟩:=List.getElem_of_mem hy
   exact al.2 i i _ (by rw [List.getElem?_range (by omega)]) (List.getElem?_eq_getElem hi)
  have hpa:pairsAt H1 ys:=fun y hy=>by
   obtain ⟨q,i,j,h1,h2,_⟩:=hys y hy
   exact ⟨q,i,j,h1,h2⟩
  replace hys:=fun (_:Unit)=>hys
  clear al
  simp! only [and_true]
  refine use_srtP h1 hpa (by omega) (by omega) fun yo hpo=>?_
  intro O H2 hO e2 h2
  have hyo:∀ y∈yo,OrdR m y H2:=fun y hy=>(hys () y (hpo.mem_iff.mp hy)).ext e2
  have hyl2:yo.length=m.toNat:=by rw [hpo.length_eq,hyl]
  replace hyo:=fun (_:Unit)=>hyo
  have e02:=e1.trans e2
  clear hpa h1 hys hpo hO hD
  simp! only [and_true]
  intro d H3 hd3 e3 h3
  have e03:=e02.trans e3
  have O3:=e3.at h2
  have hd0:H d=none:=e02.free hd3
  have hdn2:H2 d=none:=hd3
  have nOd:O ≠ d:=fun z=>by rw [←z,h2] at hd3;cases hd3
  replace hyl2:=fun (_:Unit)=>hyl2
  clear h2 hd3
  simp! only [and_true]
  refine ⟨by omega,by omega,?_⟩
  refine for_rng (fun i σ H'=>∃ (v5:Option V) (kv:List (Int × Int)),σ=[some (.ref a),some (.int m),some (.int wy),some (.ref O),some (.ref d),v5,none,none]∧Ext H H'∧Ext H2 H'∧H' O=some (.lst yo)∧H' d=some (.dK (tabI kv))∧SmD m kv) ⟨none,[],rfl,e03,e3,O3,h3,SmD.nil m⟩ ?_ ?_
  ·rintro i _ H4 hi ⟨v5,kv,rfl,e4,e24,O4,d4,sd⟩
   have hi2:i < yo.length:=by rw [hyl2 ()];exact hi
   obtain ⟨q,qi,qj,hy,hq,j0,j1⟩:=hyo () _ (List.getElem_mem hi2)
   have hat:atI yo (0+(i:Int))=some (.ref q):=by rw [Int.zero_add];exact atI_nat (by rw [List.getElem?_eq_getElem hi2,hy])
   have q4:=e24.at hq
   have hS4:=e4.2 K a _ hS
   have hl5:(tabI kv).length < sizeLine:=lt5000 (by rw [tab_len];have:=sd.len hm50;omega)
   have sd5:=sd.put (c:=0+(i:Int)) (v:=qj) ⟨by omega,by omega⟩ ⟨by omega,by omega⟩
   have hl6:(tabI (putI kv (0+(i:Int)) qj)).length < sizeLine:=lt5000 (by rw [tab_len];have:=sd5.len hm50;omega)
   replace sd5:=fun (_:Unit)=>sd5
   clear sd hy hq kk O3 h3
   simp! only [and_true]
   refine use_dp (k:=.inl (0+(i:Int))) d4 hl5 ?_
   rw [put_tabI]
   have e5:Ext H (upd H4 d (.dK (tabI (putI kv (0+(i:Int)) qj)))):=e4.put hd0
   have e25:Ext H2 (upd H4 d (.dK (tabI (putI kv (0+(i:Int)) qj)))):=e24.put hdn2
   have d5:upd H4 d (.dK (tabI (putI kv (0+(i:Int)) qj))) d=some (.dK (tabI (putI kv (0+(i:Int)) qj))):=upd_same
   have O5:upd H4 d (.dK (tabI (putI kv (0+(i:Int)) qj))) O=some (.lst yo):=by rw [upd_ne nOd];exact O4
   have hS5:=e5.2 K a _ hS
   generalize upd H4 d (.dK (tabI (putI kv (0+(i:Int)) qj)))=H5 at e5 e25 d5 O5 hS5
   clear d4 O4 q4 hS4 hat hl5
   simp! only [-m_tIfS]
   refine ifs_mono (fun b H'=>H'=H5) (fun Qb hqb=>?_) ?_
   ·replace hqb:=fun (_:Unit)=>hqb
    by_cases h0:wy=0
    ·have h1:=hqb () true H5 rfl
     clear hqb
     simp! only [and_true]
    ·by_cases h1:wy=1
     ·simp! only [and_true]
      rw [c_spDraw]
      refine ⟨hS5,hl,⟨by omega,by omega⟩,by decide,fun u u0 u1=>?_⟩
      by_cases hu:u=0
      ·have h1:=hqb () true H5 rfl
       clear hqb
       simp! only [and_true]
      ·have h1:=hqb () false H5 rfl
       clear hqb
       simp! only [and_true]
     ·have h1:=hqb () false H5 rfl
      clear hqb
      simp! only [and_true]
   ·rintro b _ rfl
    cases b with
    | false=>
     simp! only [-upd_same]
     exact ⟨_,_,rfl,e5,e25,rfl,sd5 ()⟩
    | true=>
     simp! only [and_true]
     rw [c_spDraw]
     refine ⟨hS5,hl,⟨by omega,by omega⟩,by omega,fun x x0 x1=>?_⟩
     have sd6:=(sd5 ()).put (c:=0+(i:Int)) (v:=x) ⟨by omega,by omega⟩ ⟨by omega,by omega⟩
     simp! only [and_true]
     refine use_dp (k:=.inl (0+(i:Int))) d5 hl6 ?_
     rw [put_tabI]
     exact ⟨_,_,rfl,e5.put hd0,e25.put hdn2,by rw [upd_ne nOd];exact O5,upd_same,sd6⟩
  ·rintro _ H4 ⟨v5,kv,rfl,e4,e24,O4,d4,sd⟩
   have hS4:=e4.2 K a _ hS
   replace sd:=fun (_:Unit)=>sd
   clear O3 h3 hyo hyl2
   simp! only [-m_tIfS]
   refine if_gen (fun σ' H'=>∃ (dd:Addr) (kv':List (Int × Int)),σ'=[some (.ref a),some (.int m),some (.int wy),some (.ref O),some (.ref dd),v5,none,none]∧Ext H H'∧H' dd=some (.dK (tabI kv'))∧SmD m kv') (fun nx' hnx=>?_) ?_
   ·replace hnx:=fun (_:Unit)=>hnx
    by_cases hw:2 < wy
    ·simp! only [and_true]
     rw [c_spBk]
     refine ⟨rfl,hS4,hl,⟨by omega,hm50⟩,fun kv' r H5 sd' hr5 e5 h5=>?_⟩
     have h6:=hnx () [some (.ref a),some (.int m),some (.int wy),some (.ref O),some (.ref r),v5,none,none] H5 ⟨r,kv',rfl,e4.trans e5,h5,sd'⟩
     clear hnx
     simp! only [and_true]
    ·have h6:=hnx () [some (.ref a),some (.int m),some (.int wy),some (.ref O),some (.ref d),v5,none,none] H4 ⟨d,kv,rfl,e4,d4,sd ()⟩
     clear hnx
     simp! only [and_true]
   rintro _ H5 ⟨dd,kv',rfl,e5,d5,sd5⟩
   have hS5:=e5.2 K a _ hS
   have hlen:=sd5.len hm50
   replace sd5:=fun (_:Unit)=>sd5
   clear hS4 d4 O4 sd
   simp! only [and_true]
   rw [c_spNm]
   refine ⟨rfl,hS5,hl,fun nm r H6 hnm hnn hr6 e6 h6=>?_⟩
   replace hnn:=fun (_:Unit)=>hnn
   have d6:=e6.at d5
   clear hS5
   simp! only [and_true]
   intro td H7 ht7 e7 h7
   have d7:=e7.at d6
   have r7:=e7.at h6
   have ht0:H td=none:=(e5.trans e6).free ht7
   have ntd:td ≠ dd:=fun z=>by rw [z,d6] at ht7;cases ht7
   have nrd:r ≠ dd:=fun z=>by rw [z,d5] at hr6;cases hr6
   have e07:=e5.trans (e6.trans e7)
   have hnt:H6 td=none:=ht7
   have nrt:r ≠ td:=fun z=>by rw [←z,h6] at hnt;cases hnt
   clear d6 h6 hr6 ht7
   simp! only [and_true]
   refine for_dict (fun ob i σ H'=>∃ (v5':Option V) (kt:List (Int × Int)),σ=[some (.ref a),some (.int m),some (.int wy),some (.ref O),some (.ref dd),v5',some (.ref r),some (.ref td)]∧Ext (upd H5 dd (.frz ob (.dK (tabI kv')))) H'∧H' r=some (.lst (nm.map V.int))∧H' td=some (.dK (tabI kt))∧TdI i kt) d7 (fun ob=>⟨v5,[],rfl,ext_upd (e6.trans e7) _ _,by rw [upd_ne nrd];exact r7,by rw [upd_ne ntd];exact h7,⟨List.nodup_nil,Nat.zero_le _,fun _ _ h=>by cases h⟩⟩) (fun ob i σ' H' ⟨_,_,_,e,_⟩=>e.at upd_same) ?_ ?_
   ·rintro ob i z _ H8 hz ⟨v5',kt,rfl,e8,r8,t8,td8⟩ f8
    obtain ⟨y,hy,rfl⟩:∃ y,kv'[i]? = some y∧z=((Sum.inl y.1:Key),V.int y.2):=by
     unfold tabI at hz
     rw [List.getElem?_map] at hz
     obtain ⟨y,h1,h2⟩:=Option.map_eq_some_iff.mp hz
     exact ⟨y,h1,h2.symm⟩
    obtain ⟨c,v⟩:=y
    have hlk:=look_of (sd5 ()).nd (List.mem_of_getElem? hy)
    obtain ⟨⟨c0,c1⟩,v0,v1⟩:=(sd5 ()).all c v hlk
    obtain ⟨x1,hx1,m1⟩:=atI_ints nm c c0 (by rw [hnm];omega)
    obtain ⟨x2,hx2,m2⟩:=atI_ints nm v v0 (by rw [hnm];omega)
    have hil:i < kv'.length:=(List.getElem?_eq_some_iff.mp hy).1
    have hl5:(tabI kt).length < sizeLine:=lt5000 (by rw [tab_len];have:=td8.len;omega)
    have td9:=td8.put (hnn () x1 m1) (hnn () x2 m2)
    clear m1 m2
    have htu:upd H5 dd (.frz ob (.dK (tabI kv'))) td=none:=by rw [upd_ne ntd];exact e6.free hnt
    have hvv:valV (tabI kv') (.inl c)=some (.int v):=by rw [val_tab,hlk];rfl
    rw [show kV ((Sum.inl (c,v).1:Key),V.int (c,v).2).1=V.int c from rfl]
    replace td9:=fun (_:Unit)=>td9
    replace hlk:=fun (_:Unit)=>hlk
    clear hz hy d7 r7 h7 kk td8 hnm
    simp! only [and_true]
    refine use_dgF (k:=.inl c) f8 hvv ?_
    simp! only [and_true]
    refine use_dp (k:=.inl x1) t8 hl5 ?_
    rw [put_tabI]
    exact ⟨_,_,rfl,e8.put htu,by rw [upd_ne nrt];exact r8,upd_same,td9 ()⟩
   ·rintro ob _ H8 ⟨v5',kt,rfl,e8,r8,t8,td8⟩
    rw [tab_len] at td8
    have e9:=Ext.thaw d5 e8
    have t9:upd H8 dd (.dK (tabI kv')) td=some (.dK (tabI kt)):=by rw [upd_ne ntd];exact t8
    generalize upd H8 dd (.dK (tabI kv'))=H9 at e9 t9
    have k':=kk () kt td H9 td8.nd (by have:=td8.len;omega) td8.nn ht0 (e5.trans e9) t9
    clear kk
    simp! only [and_true]
theorem pth_pre {f:Int->Option Int}{c h:Int}:∀ {tl t':List Int}{d:Int},Pth f (d::tl) h->Pth f (d::t') c->c ∉ tl->h ≠ c->∃ u,t'=tl++h::u
 | [],[],d,h1,h2,_,hn=>by
  have e1:=h1.head
  have e2:=h2.head
  rw [e1] at e2
  exact absurd (Option.some.inj e2) hn
 | [],y::t',d,h1,h2,_,hn=>by
  have e1:=h1.head
  have e2:=h2.head
  rw [e1] at e2
  have e:h=y:=Option.some.inj e2
  exact ⟨t',by rw [e];rfl⟩
 | x::tl,[],d,h1,h2,n1,hn=>by
  have e1:=h1.head
  have e2:=h2.head
  rw [e1] at e2
  exact absurd (show x=c from Option.some.inj e2) fun e=>n1 (by rw [e];exact List.mem_cons_self)
 | x::tl,y::t',d,h1,h2,n1,hn=>by
  have e1:=h1.head
  have e2:=h2.head
  rw [e1] at e2
  have e:x=y:=Option.some.inj e2
  subst e
  obtain ⟨u,hu⟩:=pth_pre h1.tail h2.tail (fun m=>n1 (List.mem_cons_of_mem _ m)) hn
  exact ⟨u,by rw [hu];rfl⟩
structure WkL (kv:List (Int × Int)) (c:Int) (tl:List Int) (h:Int):Prop where
 pth:Pth (lookI kv) (c::tl) h
 new:c ∉ tl
 len:tl.length≤kv.length
theorem ring_len {kv:List (Int × Int)}{l:List Int}(h:Ring (lookI kv) l):l.length≤kv.length:=by
 have h1:=nd_len h.nodup (b:=kv.map (·.1)) fun x hx=>by
  obtain ⟨d,h1,_⟩:=h.mem hx
  exact look_some.mp (by rw [h1];rfl)
 simpa using h1
theorem WkL.none {kv:List (Int × Int)}{c h:Int}{tl:List Int}(w:WkL kv c tl h) (hn:h ≠ c) (he:lookI kv h=none∨kv.length < tl.length+1):∀ l,RingL (lookI kv) l->l.headD 0 ≠ c:=by
 intro l hl e
 obtain ⟨x,t',rfl,hp,hnd⟩:=id hl.1
 have e:x=c:=e
 subst e
 obtain ⟨u,rfl⟩:=pth_pre w.pth hp w.new hn
 rcases he with he|he
 ·obtain ⟨d,h1,_⟩:=hl.1.mem (x:=h) (by simp)
  rw [he] at h1
  cases h1
 ·have:=ring_len hl.1
  simp at this
  omega
theorem WkL.ring {kv:List (Int × Int)}{c:Int}{tl:List Int}(w:WkL kv c tl c):Ring (lookI kv) (c::tl):=⟨c,tl,rfl,w.pth,pth_nodup w.pth w.new⟩
theorem WkL.one {kv:List (Int × Int)}{c:Int}(w:WkL kv c [] c):∀ l,RingL (lookI kv) l->l.headD 0 ≠ c:=by
 intro l hl e
 obtain ⟨x,t',rfl,_⟩:=id hl.1
 have e:x=c:=e
 subst e
 have:=ring_eq hl.1 w.ring
 subst this
 have:=hl.2.1
 simp at this
theorem WkL.more {kv:List (Int × Int)}{c M:Int}{tl:List Int}(w:WkL kv c tl c) (hM:M∈c::tl) (hn:c ≠ M) (hm:∀ x∈c::tl,M≤x):∀ l,RingL (lookI kv) l->l.headD 0 ≠ c:=by
 intro l hl e
 obtain ⟨x,t',rfl,_⟩:=id hl.1
 have e:x=c:=e
 subst e
 have:=ring_eq hl.1 w.ring
 subst this
 have a:=hl.2.2 M hM
 have b:=hm x List.mem_cons_self
 have a':x≤M:=a
 omega
structure LrI (kv:List (Int × Int)) (S:List Int) (L:List (List Int × Bool)):Prop where
 srt:L.Pairwise fun p q=>p.1.headD 0 < q.1.headD 0
 all:∀ p∈L,(RingL (lookI kv) p.1∧p.2=bareB (lookI kv) (kv.map (·.1)) p.1)∧p.1.headD 0∈S
 has:∀ l,RingL (lookI kv) l->l.headD 0∈S->∃ b,(l,b)∈L
theorem LrI.nil (kv:List (Int × Int)):LrI kv [] []:=⟨.nil,fun _ h=>absurd h List.not_mem_nil,fun _ _ h=>absurd h List.not_mem_nil⟩
theorem LrI.skip {kv:List (Int × Int)}{S:List Int}{L:List (List Int × Bool)}{c:Int}(h:LrI kv S L) (hn:∀ l,RingL (lookI kv) l->l.headD 0 ≠ c):LrI kv (S++[c]) L:=
 ⟨h.srt,fun p hp=>⟨(h.all p hp).1,List.mem_append_left _ (h.all p hp).2⟩,fun l hl hm=>(List.mem_append.mp hm).elim (h.has l hl) fun z=>absurd (List.mem_singleton.mp z) (hn l hl)⟩
theorem LrI.add {kv:List (Int × Int)}{S:List Int}{L:List (List Int × Bool)}{c:Int}{tl:List Int}(h:LrI kv S L) (hS:∀ x∈S,x < c) (hr:RingL (lookI kv) (c::tl)):LrI kv (S++[c]) (L++[(c::tl,bareB (lookI kv) (kv.map (·.1)) (c::tl))]):=by
 refine ⟨?_,fun p hp=>?_,fun l hl hm=>?_⟩
 ·rw [List.pairwise_append]
  refine ⟨h.srt,List.pairwise_cons.mpr ⟨fun _ h=>absurd h List.not_mem_nil,.nil⟩,fun p hp q hq=>?_⟩
  rw [List.mem_singleton.mp hq]
  exact hS _ (h.all p hp).2
 ·rcases List.mem_append.mp hp with hp|hp
  ·exact ⟨(h.all p hp).1,List.mem_append_left _ (h.all p hp).2⟩
  ·rw [List.mem_singleton.mp hp]
   exact ⟨⟨hr,rfl⟩,List.mem_append_right _ List.mem_cons_self⟩
 ·rcases List.mem_append.mp hm with hm|hm
  ·obtain ⟨b,hb⟩:=h.has l hl hm
   exact ⟨b,List.mem_append_left _ hb⟩
  ·have e:=List.mem_singleton.mp hm
   obtain ⟨x,t',rfl,_⟩:=id hl.1
   have e:x=c:=e
   subst e
   rw [ring_eq hl.1 hr.1]
   exact ⟨_,List.mem_append_right _ List.mem_cons_self⟩
theorem LrI.fin {kv:List (Int × Int)}{S:List Int}{L:List (List Int × Bool)}(h:LrI kv S L) (hS:∀ x,x∈S ↔ x∈kv.map (·.1)):RingsOf (lookI kv) (kv.map (·.1)) L:=by
 refine ⟨h.srt,fun p hp=>(h.all p hp).1,fun l hl=>h.has l hl ?_⟩
 obtain ⟨d,h1,_⟩:=hl.1.mem hl.head_mem
 exact (hS _).mpr (look_some.mp (by rw [h1];rfl))
def outL (kv:List (Int × Int)) (l:List Int):List (Int × Int):=kv.filter fun p=>!decide (p.1∈l) && decide (p.2∈l)
theorem out_bare {kv:List (Int × Int)}(hn:NdK kv) (l:List Int):decide (outL kv l=[])=bareB (lookI kv) (kv.map (·.1)) l:=by
 rw [Bool.eq_iff_iff,decide_eq_true_eq]
 unfold outL bareB
 rw [List.filter_eq_nil_iff,List.all_eq_true]
 constructor
 ·intro h c hc
  obtain ⟨⟨c',d⟩,hp,rfl⟩:=List.mem_map.mp hc
  rw [look_of hn hp]
  have:=h _ hp
  simp at this ⊢
  by_cases m:c'∈l
  ·exact .inl m
  ·exact .inr (this m)
 ·intro h p hp
  have:=h p.1 (List.mem_map.mpr ⟨p,hp,rfl⟩)
  rw [look_of hn (show (p.1,p.2)∈kv from hp)] at this
  simp at this ⊢
  intro m
  exact this.resolve_left m
theorem inV_ints (a:Int) (xs:List Int):inV (.int a) (xs.map V.int)=decide (a∈xs):=by
 unfold inV
 rw [List.any_map]
 apply Bool.eq_iff_iff.mpr
 rw [List.any_eq_true,decide_eq_true_eq]
 constructor
 ·rintro ⟨y,hy,e⟩
  have e':eqV (.int y) (.int a)=true:=e
  have:y=a:=by simpa [eqV] using e'
  rw [←this]
  exact hy
 ·intro h
  exact ⟨a,h,by show eqV (.int a) (.int a)=true;simp [eqV]⟩
theorem flat_ints:∀ ns:List Int,(ns.map V.int).all flatV=true
 | []=>rfl
 | x::ns=>by rw [List.map_cons,List.all_cons,flat_ints ns];rfl
theorem use_inI {neg:Bool}{c:Int}{l:Addr}{ns:List Int}{H:Hp}{Q:VK}(h:H l=some (.lst (ns.map V.int))) (q:Q (.bl (if neg=true then !decide (c∈ns) else decide (c∈ns))) H):nIn neg (.int c) (.ref l) H Q:=by
 rw [m_nIn]
 unfold itemsAt
 rw [h]
 show optK (some (ns.map V.int)) _
 rw [optK_some,m_kInI,inV_ints]
 exact ⟨rfl,flat_ints ns,q⟩
theorem WkL.next {kv:List (Int × Int)}{c h e:Int}{tl:List Int}(w:WkL kv c tl h) (hn:h ≠ c) (he:lookI kv h=some e) (hl:tl.length+1≤kv.length):WkL kv c (tl++[h]) e:=
 ⟨Pth.snoc (t:=c::tl) w.pth he,fun m=>(List.mem_append.mp m).elim w.new fun z=>hn (List.mem_singleton.mp z).symm,by rw [List.length_append];simpa using hl⟩
def outC (l:List Int) (z:Key × V):Bool:=match z with
 | (.inl a,.int b)=>!decide (a∈l) && decide (b∈l)
 | _=>false
theorem outC_map (l:List Int):∀ kv:List (Int × Int),((tabI kv).filter (outC l)).map (fun z=>kV z.1)=((outL kv l).map (·.1)).map V.int
 | []=>rfl
 | p::kv=>by
  have ih:=outC_map l kv
  unfold outL at ih ⊢
  show (((Sum.inl p.1,V.int p.2)::tabI kv).filter (outC l)).map (fun z=>kV z.1)=_
  rw [List.filter_cons,List.filter_cons]
  have e:outC l ((Sum.inl p.1:Key),V.int p.2)=(!decide (p.1∈l) && decide (p.2∈l)):=rfl
  rw [e]
  split
  ·rw [List.map_cons,List.map_cons,List.map_cons,ih]
   rfl
  ·exact ih
abbrev B_spLR  (d:Addr) (H:Hp) (Q:VK) (E:XK):Prop:=∃ kv:List (Int × Int),H d=some (.dK (tabI kv))∧NdK kv∧kv.length≤50∧∀ (L:List (List Int × Bool)) (r:Addr) (H':Hp),RingsOf (lookI kv) (kv.map (·.1)) L->Ext H H'->RgAt H H' r L->Q (.ref r) H'
def spLR  : Sp:=fun vs H Q E=>∃ (d:Addr),vs=[.ref d]∧(B_spLR  d H Q E)
theorem c_spLR  (d:Addr) (H:Hp) (Q:VK) (E:XK):spLR  [.ref d] H Q E=(B_spLR  d H Q E):=spx1 (f:=fun (d:Addr)=>[.ref d]) (fun _ _ h=>by cases h;exact rfl) d
theorem l_spLR  {vs:List V}{H:Hp}{Q:VK}{E:XK}(h:spLR  vs H Q E):vs.length=1:=spl1 h fun _=>rfl
theorem ok__law_rings (T:Tx K mg t):FnOk P w K mg base CX0 1 t.a__law_rings t.d__law_rings ["_law_found_here"] spLR:=by
 refine T.F__law_rings.ok c__law_rings (fun vs H Q E h=>l_spLR h) (fun cdv A outer s' H vs Q E hr h=>?_)
 ·obtain ⟨d,rfl,kv,hd,hnd,h50,k⟩:=h
  refine ⟨_,(@pss_cons _ _ _ _ _ (@ps_set _ _ (1) _ _ _ _ c__law_rings.nd rfl (Or.inl rfl) (@pe_qLst _ _ _ _ (@pa_nil _)) (by rfl) (by trivial)) (@pss_cons _ _ _ _ _ (@ps_for _ _ _ _ _ _ _ _ PassesOwn.never rfl (@pi_seq _ _ _ _ (@pe_callB _ _ _ _ _ _ _ ("sorted") _ (call_qSrtE rfl) (by rfl) T.z_sorted (by decide +kernel) (@pa_c _ _ _ _ _ (@pvN _ 0 _ _ (by rfl) (by trivial) (by decide) (by decide)) (@pa_nil _) (by rfl)) (by decide) (by decide) (by rfl) (by rfl))) (@pg_name _ _ (2) _ c__law_rings.nd rfl (Or.inl rfl) (by trivial)) (@pss_cons _ _ _ _ _ (@ps_set _ _ (3) _ _ _ _ c__law_rings.nd rfl (Or.inr rfl) (@pe_qLst _ _ _ _ (@pa_c _ _ _ _ _ (@pvN _ 2 _ _ (by rfl) (by trivial) (by decide) (by decide)) (@pa_nil _) (by rfl))) (by rfl) (by trivial)) (@pss_cons _ _ _ _ _ (@ps_set _ _ (4) _ _ _ _ c__law_rings.nd rfl (Or.inl rfl) (@pe_dget _ _ _ _ _ _ (units1 hr.units) (@pvN _ 0 _ _ (by rfl) (by trivial) (by decide) (by decide)) (@pvN _ 2 _ _ (by rfl) (by trivial) (by decide) (by decide)) (fun _ _=>rfl)) (by rfl) (by trivial)) (@pss_cons _ _ _ _ _ (@ps_while _ _ _ _ _ _ PassesOwn.never (PW.pt (@pw_and _ _ _ _ _ _ _ (@pt_cmpRN _ _ _ _ _ _ _ _ (op_qNe hr.units) (@pvN _ 4 _ _ (by rfl) (by trivial) (by decide) (by decide)) (@pvN _ 2 _ _ (by rfl) (by trivial) (by decide) (by decide)) (nomark _)) (@pw_and _ _ _ _ _ _ _ (@pt_cmpRN _ _ _ _ _ _ _ _ (op_inD (units1 hr.units)) (@pvN _ 4 _ _ (by rfl) (by trivial) (by decide) (by decide)) (@pvN _ 0 _ _ (by rfl) (by trivial) (by decide) (by decide)) (by with_unfolding_all rfl)) (@pw_and1 _ _ _ _ (@pt_cmpRN _ _ _ _ _ _ _ _ on_le (@pe_callB _ _ _ _ _ _ _ ("len") _ call_qLen (by rfl) T.z_len (by decide +kernel) (@pa_c _ _ _ _ _ (@pvN _ 3 _ _ (by rfl) (by trivial) (by decide) (by decide)) (@pa_nil _) (by rfl)) (by decide) (by decide) (by rfl) (by rfl)) (@pe_callB _ _ _ _ _ _ _ ("len") _ call_qLenD (by rfl) T.z_len (by decide +kernel) (@pa_c _ _ _ _ _ (@pvN _ 0 _ _ (by rfl) (by trivial) (by decide) (by decide)) (@pa_nil _) (by rfl)) (by decide) (by decide) (by rfl) (by rfl)) (nomark _)))))) (@pss_cons _ _ _ _ _ (@ps_expr _ _ _ _ (@pe_bm _ _ _ _ _ _ _ _ _ _ _ _ PySem.F.plainAttrs_list PySem.F.slot_list_append PySem.F.type_list_append mt_append (@pvN _ 3 _ _ (by rfl) (by trivial) (by decide) (by decide)) (@pa_c _ _ _ _ _ (@pvN _ 4 _ _ (by rfl) (by trivial) (by decide) (by decide)) (@pa_nil _) (by rfl)) (by rfl) (by rfl) (by rfl) (by rfl) (by rfl)) (by rfl)) (@pss_one _ _ _ (@ps_set _ _ (4) _ _ _ _ c__law_rings.nd rfl (Or.inl rfl) (@pe_dget _ _ _ _ _ _ (units1 hr.units) (@pvN _ 0 _ _ (by rfl) (by trivial) (by decide) (by decide)) (@pvN _ 4 _ _ (by rfl) (by trivial) (by decide) (by decide)) (fun _ _=>rfl)) (by rfl) (by trivial))))) (@pss_one _ _ _ (@ps_if _ _ _ _ _ _ _ _ (PW.pt (@pw_and _ _ _ _ _ _ _ (@pt_cmpRN _ _ _ _ _ _ _ _ (op_qEq hr.units) (@pvN _ 4 _ _ (by rfl) (by trivial) (by decide) (by decide)) (@pvN _ 2 _ _ (by rfl) (by trivial) (by decide) (by decide)) (nomark _)) (@pw_and _ _ _ _ _ _ _ (@pt_cmpRN _ _ _ _ _ _ _ _ on_gt (@pe_callB _ _ _ _ _ _ _ ("len") _ call_qLen (by rfl) T.z_len (by decide +kernel) (@pa_c _ _ _ _ _ (@pvN _ 3 _ _ (by rfl) (by trivial) (by decide) (by decide)) (@pa_nil _) (by rfl)) (by decide) (by decide) (by rfl) (by rfl)) (@pe_int _ _ _ _) (nomark _)) (@pw_and1 _ _ _ _ (@pt_cmpRN _ _ _ _ _ _ _ _ (op_qEq hr.units) (@pvN _ 2 _ _ (by rfl) (by trivial) (by decide) (by decide)) (@pe_callB _ _ _ _ _ _ _ ("min") _ (call_qMinL rfl) (by rfl) T.z_min (by decide +kernel) (@pa_c _ _ _ _ _ (@pvN _ 3 _ _ (by rfl) (by trivial) (by decide) (by decide)) (@pa_nil _) (by rfl)) (by decide) (by decide) (by rfl) (by rfl)) (nomark _)))))) (@pss_one _ _ _ (@ps_expr _ _ _ _ (@pe_bm _ _ _ _ _ _ _ _ _ _ _ _ PySem.F.plainAttrs_list PySem.F.slot_list_append PySem.F.type_list_append mt_append (@pvN _ 1 _ _ (by rfl) (by trivial) (by decide) (by decide)) (@pa_c _ _ _ _ _ (@pe_qTup _ _ _ _ _ (@pa_c _ _ _ _ _ (@pvN _ 3 _ _ (by rfl) (by trivial) (by decide) (by decide)) (@pa_c _ _ _ _ _ (@pe_cmpR _ _ _ _ _ _ _ _ (op_qEq hr.units) (@pe_thaw _ _ _ (@pe_comp _ _ _ _ _ _ _ _ _ _ _ (["_law_one", "_law_found_here", "_law_told", "_law_cell", "_law_ring", "_law_here"]) (1) (comp_ok (defScope s__law_rings) ["_law_found_here", "_law_told", "_law_cell", "_law_ring", "_law_here"] rfl rfl (by decide +kernel)) rfl (@pi_dict _ _ _ _ (@pvN _ 0 _ _ (by rfl) (by trivial) (by decide) (by decide))) (fun C s₀ H₀ ex pn=>(@pg_name _ _ (0) _ (show List.Nodup (["_law_one", "_law_found_here", "_law_told", "_law_cell", "_law_ring", "_law_here"]:List Str) from by decide +kernel) rfl (Or.inl rfl) (by trivial))) (fun C s₀ H₀ ex pn=>(@pts_one _ _ _ (PW.pt (@pw_and _ _ _ _ _ _ _ (@pt_cmpRN _ _ _ _ _ _ _ _ op_nNotIn (@pvN _ 0 _ _ (by rfl) (by trivial) (by decide) (by decide)) (@pvN _ 4 _ _ (by rfl) (by trivial) (by decide) (by decide)) (by with_unfolding_all rfl)) (@pw_and1 _ _ _ _ (@pt_cmpRN _ _ _ _ _ _ _ _ op_nIn (@pe_dget _ _ _ _ _ _ (units1 hr.units) (@pvN _ 1 _ _ (by rfl) (by trivial) (by decide) (by decide)) (@pvN _ 0 _ _ (by rfl) (by trivial) (by decide) (by decide)) (fun _ _=>rfl)) (@pvN _ 4 _ _ (by rfl) (by trivial) (by decide) (by decide)) (by with_unfolding_all rfl))))))) (fun C s₀ H₀ ex pn=>(@pvN _ 0 _ _ (by rfl) (by trivial) (by decide) (by decide))) (by intros;rfl))) (@pe_qLst _ _ _ _ (@pa_nil _)) (nomark _)) (@pa_nil _) (by rfl)) (by rfl))) (@pa_nil _) (by rfl)) (by rfl) (by rfl) (by rfl) (by rfl) (by rfl)) (by rfl))) (@pss_nil _)))))) (by intros;rfl)) (@pss_one _ _ _ (@ps_ret _ _ _ _ (@pvN _ 1 _ _ (by rfl) (by trivial) (by decide) (by decide)))))),?_⟩
  rw [show start ["_law_found_here", "_law_told", "_law_cell", "_law_ring", "_law_here"] [.ref d]=[some (.ref d),none,none,none,none] from rfl]
  replace hnd:=fun (_:Unit)=>hnd
  simp! only [and_true]
  intro td H1 ht1 e1 h1
  have d1:=e1.at hd
  simp! only [and_true]
  refine use_srtE d1 (tab_keys kv) (len5000 (by rw [List.length_map];omega)) (.inl (by rw [List.length_map];omega)) fun ms hpm hso=>?_
  intro S H2 hS2 e2 s2
  have t2:=e2.at h1
  have e02:=e1.trans e2
  have nSt:S ≠ td:=fun z=>by rw [z,h1] at hS2;cases hS2
  have hmm:∀ x,x∈ms ↔ x∈kv.map (·.1):=fun x=>hpm.mem_iff
  have hmn:ms.Pairwise (· < ·):=by
   have h1:ms.Pairwise (· ≠ ·):=hpm.nodup_iff.mpr (hnd ())
   refine (hso.and h1).imp fun h=>?_
   have a:=h.1
   have b:=h.2
   omega
  replace hmm:=fun (_:Unit)=>hmm
  replace hmn:=fun (_:Unit)=>hmn
  clear d1 h1 hS2 e1 e2 hpm hso
  simp! only [and_true]
  refine for_lst (xs:=ms.map V.int) (fun i σ H'=>∃ (v2 v3 v4:Option V) (L:List (List Int × Bool)) (ys:List V),σ=[some (.ref d),some (.ref td),v2,v3,v4]∧Ext H H'∧LrI kv (ms.take i) L∧H' td=some (.lst ys)∧Al (fun p y=>RwR H td p y H') L ys∧H' S=some (.lst (ms.map V.int))) ⟨none,none,none,[],[],rfl,e02,by rw [List.take_zero];exact LrI.nil kv,t2,Al.nil,s2⟩ (fun i σ H' _ ⟨_,_,_,_,_,_,_,_,_,_,q⟩=>q) ?_ ?_
  ·rintro i x _ H3 hx ⟨v2,v3,v4,L,ys,rfl,e3,li,t3,al,s3⟩
   rw [List.getElem?_map] at hx
   obtain ⟨c,hc,rfl⟩:=Option.map_eq_some_iff.mp hx
   have hck:=(hmm () c).mp (List.mem_of_getElem? hc)
   obtain ⟨h0,hh0⟩:∃ h0,lookI kv c=some h0:=by
    cases e:lookI kv c with
    | none=>exact absurd hck (look_none.mp e)
    | some v=>exact ⟨v,rfl⟩
   have htk:ms.take (i+1)=ms.take i++[c]:=by rw [List.take_add_one,hc];rfl
   have hlt:∀ x∈ms.take i,x < c:=fun x hxm=>by
    have h1:=hmn ()
    rw [←List.take_append_drop i ms,List.pairwise_append] at h1
    exact h1.2.2 x hxm c (List.mem_of_getElem? (i:=0) (by rw [List.getElem?_drop];simpa using hc))
   have d3:=e3.at hd
   replace li:=fun (_:Unit)=>li
   replace al:=fun (_:Unit)=>al
   replace htk:=fun (_:Unit)=>htk
   replace hlt:=fun (_:Unit)=>hlt
   clear hx hc hck t2 s2 k
   simp! only [and_true]
   intro R H4 hR4 e4 h4
   have d4:=e4.at d3
   have t4:=e4.at t3
   have s4:=e4.at s3
   have e04:=e3.trans e4
   have hR0:H R=none:=e3.free hR4
   have nRt:R ≠ td:=fun z=>by rw [z,t3] at hR4;cases hR4
   have nRS:S ≠ R:=fun z=>by rw [←z,s3] at hR4;cases hR4
   have al4:Al (fun p y=>RwR H td p y H4∧∀ q l,y=.ref q->H4 q=some (.tup [.ref l,.bl p.2])->l ≠ R) L ys:=(al ()).imp fun p y ⟨q,l,a1,a2,a3,a4,a5⟩=>⟨⟨q,l,a1,e4.at a2,e4.at a3,a4,a5⟩,fun q' l' b1 b2 z=>by
    rw [a1] at b1
    cases b1
    rw [e4.at a2] at b2
    cases b2
    rw [z,hR4] at a3
    cases a3⟩
   have w0:WkL kv c [] h0:=⟨hh0,List.not_mem_nil,Nat.zero_le _⟩
   clear d3 t3 s3
   simp! only [and_true]
   refine use_dg (k:=.inl c) (v:=.int h0) d4 (by rw [val_tab,hh0];rfl) ?_
   replace al4:=fun (_:Unit)=>al4
   simp! only [and_true]
   refine while_w (by repeat' first|exact mo_tV|exact mo_nI0|exact mo_nI|apply mo_nTest|apply mo_unN|exact mo_var|exact mo_c|exact mo_rI0|exact mo_rI|exact mo_rIsN|exact mo_rNotN|exact mo_qEq|exact mo_qIx|exact mo_nil|exact mo_qLen|exact mo_inD|exact mo_qLenD|apply mo_dget2|apply mo_test|apply mo_tB|apply mo_not|apply mo_and|apply mo_or|apply mo_op|apply mo_un|apply mo_cons|apply mo_qLst|apply mo_cb) (fun m σ H'=>∃ (tl:List Int) (h:Int),σ=[some (.ref d),some (.ref td),some (.int c),some (.ref R),some (.int h)]∧m=kv.length+1 - tl.length∧WkL kv c tl h∧Ext (CutS [R] H4) H'∧H' R=some (.lst ((c::tl).map V.int))) _ ⟨[],h0,rfl,rfl,w0,cut_sub _ _,h4⟩ ?_
   rintro m _ H5 ⟨tl,h,rfl,rfl,wl,e5,R5⟩
   have d5:=e5.at (cut1_at d4 (fun z=>by rw [z,hR0] at hd;cases hd))
   have t5:=e5.at (cut1_at t4 (Ne.symm nRt))
   have s5:=e5.at (cut1_at s4 nRS)
   have e05:=cut1_ext e04 hR0 e5
   have al5:Al (fun p y=>RwR H td p y H5) L ys:=(al4 ()).imp fun p y ⟨⟨q,l,a1,a2,a3,a4,a5⟩,b⟩=>⟨q,l,a1,e5.at (cut1_at a2 fun z=>by rw [z,h4] at a2;cases a2),e5.at (cut1_at a3 (b q l a1 a2)),a4,a5⟩
   replace wl:=fun (_:Unit)=>wl
   replace al5:=fun (_:Unit)=>al5
   clear w0 h4 t4 s4 d4
   by_cases hhc:h=c
   ·subst hhc
    cases tl with
    | nil=>
     have li':=(li ()).skip (wl ()).one
     rw [←htk ()] at li'
     simp! only [and_true]
     exact ⟨_,_,_,L,ys,rfl,e05,li',rfl,al5 ()⟩
    | cons y tl=>
     have hb1:(1:Int) < ((tl.length+1+1:Nat):Int):=by omega
     simp! only [and_true]
     refine ⟨h::y::tl,rfl,?_⟩
     rw [x_kMinI]
     refine ⟨by simp,fun M hM hm=>?_⟩
     by_cases hcm:h=M
     ·subst hcm
      have rl:RingL (lookI kv) (h::y::tl):=⟨(wl ()).ring,by simp,fun x hx=>hm x hx⟩
      have li':=(li ()).add (hlt ()) rl
      rw [←htk ()] at li'
      have hob:=out_bare (hnd ()) (h::y::tl)
      replace li':=fun (_:Unit)=>li'
      replace hob:=fun (_:Unit)=>hob
      have hylen:ys.length≤4200:=by
       have h1:=nd_len (a:=L.map fun p=>p.1.headD 0) (b:=ms) (by rw [List.nodup_iff_pairwise_ne,List.pairwise_map];exact (li ()).srt.imp fun h=>by omega) fun x hx=>by
        obtain ⟨p,hp,rfl⟩:=List.mem_map.mp hx
        exact List.mem_of_mem_take ((li ()).all p hp).2
       have h2:=nd_len (a:=ms) (b:=kv.map (·.1)) ((hmn ()).imp fun h=>by omega) fun x hx=>(hmm () x).mp hx
       rw [List.length_map] at h1 h2
       rw [(al5 ()).1]
       omega
      replace hylen:=fun (_:Unit)=>hylen
      clear hM hm rl
      have R5':=fun (_:Unit)=>R5
      have nRd:R ≠ d:=fun z=>by rw [←z,hR0] at hd;cases hd
      simp! only [and_true]
      refine use_cd (outC (h::y::tl)) (fun z=>kV z.1) d5 (len5000 (by rw [tab_len];omega)) ?_ ?_
      ·intro D ob z H6 N1 N0 hz hD e6 f6 k1 k0
       obtain ⟨p,hp,rfl⟩:=List.mem_map.mp hz
       have R6:H6 R=some (.lst ((h::y::tl).map V.int)):=e6.at (by rw [upd_ne nRd];exact R5' ())
       have hvv:valV (tabI kv) (.inl p.1)=some (.int p.2):=by rw [val_tab,look_of (hnd ()) (show (p.1,p.2)∈kv from hp)];rfl
       rw [show outC (h::y::tl) ((Sum.inl p.1:Key),V.int p.2)=(!decide (p.1∈h::y::tl) && decide (p.2∈h::y::tl)) from rfl] at k1 k0
       rw [show kV ((Sum.inl p.1:Key),V.int p.2).1=V.int p.1 from rfl] at k1 ⊢
       generalize (h::y::tl)=l at R6 k1 k0
       generalize p.1=p1 at hvv k1 k0 ⊢
       generalize p.2=p2 at hvv k1 k0 ⊢
       replace k1:=fun (_:Unit)=>k1
       replace k0:=fun (_:Unit)=>k0
       clear hz hp R5 R5' t5 s5
       simp! only [↓m_kCm_1,↓m_kCm2,-m_nIn]
       refine use_inI R6 ?_
       by_cases m1:p1∈l
       ·have j0:=k0 () (by simp [m1]) H6 (Ext.refl _)
        rw [decide_eq_true m1]
        clear k0 k1 m1
        simp! only [↓m_kCm_1,↓m_kCm2]
       ·rw [decide_eq_false m1]
        simp! only [↓m_kCm_1,↓m_kCm2]
        refine use_dgF (k:=.inl p1) f6 hvv ?_
        simp! only [↓m_kCm_1,↓m_kCm2,-m_nIn]
        refine use_inI R6 ?_
        by_cases m2:p2∈l
        ·have j1:=k1 () (by simp [m1,m2]) H6 (Ext.refl _)
         rw [decide_eq_true m2]
         clear k0 k1 m1 m2
         simp! only [↓m_kCm_1,↓m_kCm2]
        ·have j0:=k0 () (by simp [m2]) H6 (Ext.refl _)
         rw [decide_eq_false m2]
         clear k0 k1 m1 m2
         simp! only [↓m_kCm_1,↓m_kCm2]
      ·intro D H6 hD e6 h6
       rw [outC_map] at h6
       have hob':=hob ()
       have t6:=e6.at t5
       have s6:=e6.at s5
       have R6:=e6.at (R5' ())
       have e06:=e05.trans e6
       have al6:Al (fun p y=>RwR H td p y H6) L ys:=(al5 ()).imp fun p y ⟨q,l,a1,a2,a3,a4,a5⟩=>⟨q,l,a1,e6.at a2,e6.at a3,a4,a5⟩
       replace al6:=fun (_:Unit)=>al6
       replace R6:=fun (_:Unit)=>R6
       have hxs:((outL kv (h::y::tl)).map (·.1)=[] ↔ outL kv (h::y::tl)=[]):=List.map_eq_nil_iff
       generalize (outL kv (h::y::tl)).map (·.1)=xs at h6 hxs
       clear t5 s5 R5 R5' d5 hob
       simp! only [and_true]
       intro E H7 hE e7 h7
       have t7:=e7.at t6
       have s7:=e7.at s6
       have h6_7:=e7.at h6
       have t6u:=fun (_:Unit)=>t6
       clear t6 s6 h6 hE
       have tail:∀ (bb:Bool) (q:Addr) (H8:Hp),bb=bareB (lookI kv) (kv.map (·.1)) (h::y::tl)->H7 q=none->Ext H7 H8->H8 q=some (.tup [.ref R,.bl bb])->(H8 td=some (.lst ys)∧∃ L':List (List Int × Bool),LrI kv (ms.take (i+1)) L'∧Ext H (upd H8 td (.lst (ys++[.ref q])))∧Al (fun p y=>RwR H td p y (upd H8 td (.lst (ys++[.ref q])))) L' (ys++[.ref q])∧upd H8 td (.lst (ys++[.ref q])) S=some (.lst (ms.map V.int))):=by
        rintro bb q H8 rfl hq8 e8 h8
        have e68:=e7.trans e8
        have nqt:q ≠ td:=fun z=>by rw [z,t7] at hq8;cases hq8
        refine ⟨e8.at t7,_,li' (),(e06.trans e68).put ht1,((al6 ()).imp fun p y ⟨q,l,a1,a2,a3,a4,a5⟩=>⟨q,l,a1,by rw [upd_ne fun z=>by rw [z,t6u ()] at a2;cases a2];exact e68.at a2,by rw [upd_ne a5];exact e68.at a3,a4,a5⟩).snoc ⟨q,R,rfl,by rw [upd_ne nqt];exact h8,by rw [upd_ne nRt];exact e68.at (R6 ()),hR0,nRt⟩,by rw [upd_ne nSt];exact e8.at s7⟩
       cases xs with
       | nil=>
        have hbe:bareB (lookI kv) (kv.map (·.1)) (h::y::tl)=true:=by rw [←hob',decide_eq_true_eq];exact hxs.mp rfl
        replace hbe:=fun (_:Unit)=>hbe
        replace tail:=fun (_:Unit)=>tail
        clear hxs hob'
        simp! only [and_true]
        intro q H8 hq8 e8 h8
        obtain ⟨t8,L',b2,b3,b4,b5⟩:=tail () true q H8 (hbe ()).symm hq8 e8 h8
        clear h7 h6_7 t7
        simp! only [and_true]
        exact ⟨lt5000 (by have:=hylen ();omega),_,_,_,L',_,rfl,b3,b2,rfl,b4⟩
       | cons x0 xs=>
        have hbe:bareB (lookI kv) (kv.map (·.1)) (h::y::tl)=false:=by rw [←hob',decide_eq_false_iff_not];intro z;exact absurd (hxs.mpr z) (List.cons_ne_nil _ _)
        replace hbe:=fun (_:Unit)=>hbe
        replace tail:=fun (_:Unit)=>tail
        clear hxs hob'
        simp! only [and_true]
        intro q H8 hq8 e8 h8
        obtain ⟨t8,L',b2,b3,b4,b5⟩:=tail () false q H8 (hbe ()).symm hq8 e8 h8
        clear h7 h6_7 t7
        simp! only [and_true]
        exact ⟨lt5000 (by have:=hylen ();omega),_,_,_,L',_,rfl,b3,b2,rfl,b4⟩
     ·have li':=(li ()).skip ((wl ()).more hM hcm hm)
      rw [←htk ()] at li'
      clear hM hm
      simp! only [and_true]
      exact ⟨_,_,_,L,ys,rfl,e05,li',rfl,al5 ()⟩
   ·cases hhk:lookI kv h with
    | none=>
     have li':=(li ()).skip ((wl ()).none hhc (.inl hhk))
     rw [←htk ()] at li'
     simp! only [and_true]
     refine use_in (k:=.inl h) d5 ?_
     rw [val_tab,hhk]
     simp! only [and_true]
     exact ⟨_,_,_,L,ys,rfl,e05,li',rfl,al5 ()⟩
    | some e=>
     by_cases hlen:tl.length+1≤kv.length
     ·simp! only [and_true]
      refine use_in (k:=.inl h) d5 ?_
      rw [val_tab,hhk]
      simp! only [and_true]
      refine use_lenD d5 ?_
      rw [tab_len]
      have hlen':(((tl.length+1:Nat):Int)≤(kv.length:Int)):=by omega
      have wl':=(wl ()).next hhc hhk hlen
      simp! only [and_true]
      refine ⟨lt5000 (by omega),?_⟩
      refine use_dg (k:=.inl h) (v:=.int e) (by rw [upd_ne fun z=>by rw [z,hR0] at hd;cases hd];exact d5) (by rw [val_tab,hhk];rfl) ?_
      clear d5 R5
      simp! only [-upd_same]
      exact ⟨_,(by rw [List.length_append,List.length_singleton];omega),tl++[h],e,rfl,rfl,wl',e5.put (cut1_no _ _),by rw [upd_same,List.map_append];rfl⟩
     ·have li':=(li ()).skip ((wl ()).none hhc (.inr (by omega)))
      rw [←htk ()] at li'
      have hlen':¬ (((tl.length+1:Nat):Int)≤(kv.length:Int)):=by omega
      simp! only [and_true]
      refine use_in (k:=.inl h) d5 ?_
      rw [val_tab,hhk]
      simp! only [and_true]
      refine use_lenD d5 ?_
      rw [tab_len]
      simp! only [and_true]
      exact ⟨_,_,_,L,ys,rfl,e05,li',rfl,al5 ()⟩
  ·rintro _ H3 ⟨v2,v3,v4,L,ys,rfl,e3,li,t3,al,s3⟩
   rw [List.length_map,List.take_length] at li
   have k':=k L td H3 (li.fin (hmm ())) e3 ⟨ys,t3,ht1,al⟩
   clear k
   simp! only [and_true]
def lngB (m:Nat) (wy x:Int):List (Int × Int):=((List.range m).map fun (k:Nat)=>((k:Int),if 0 < wy∧k=m - 1 then 0 else (k:Int)+1))++(if wy=2 then [((m:Int)+3,x)] else [])
def flp (tn:Int) (k:Int):Int:=if tn=0 then k else 5000 - k
def lng (m:Nat) (wy x tn:Int):List (Int × Int):=(lngB m wy x).map fun p=>(flp tn p.1,flp tn p.2)
theorem flp_inj {tn a b:Int}(h:flp tn a=flp tn b):a=b:=by
 unfold flp at h
 split at h<;>omega
theorem look_flp (tn c:Int):∀ kv:List (Int × Int),lookI (kv.map fun p=>(flp tn p.1,flp tn p.2)) (flp tn c)=(lookI kv c).map (flp tn)
 | []=>rfl
 | p::kv=>by
  rw [List.map_cons]
  by_cases e:p.1=c
  ·rw [lookI_pos e,lookI_pos (p:=(flp tn p.1,flp tn p.2)) (by rw [e])];rfl
  ·rw [lookI_neg e,lookI_neg (p:=(flp tn p.1,flp tn p.2)) (fun z=>e (flp_inj z)),look_flp tn c kv]
theorem lngB_keys (m:Nat) (wy x:Int):(lngB m wy x).map (·.1)=(List.range m).map (fun (k:Nat)=>(k:Int))++(if wy=2 then [(m:Int)+3] else []):=by
 unfold lngB
 rw [List.map_append,List.map_map]
 congr 1
 split<;>rfl
theorem lngB_lt (m:Nat) (wy x:Int):((lngB m wy x).map (·.1)).Pairwise (· < ·):=by
 rw [lngB_keys,List.pairwise_append]
 refine ⟨?_,?_,fun a ha b hb=>?_⟩
 ·rw [List.pairwise_map]
  exact List.pairwise_lt_range.imp fun h=>by omega
 ·split
  ·exact List.pairwise_cons.mpr ⟨fun _ h=>absurd h List.not_mem_nil,.nil⟩
  ·exact .nil
 ·obtain ⟨k,hk,rfl⟩:=List.mem_map.mp ha
  have hk':=List.mem_range.mp hk
  split at hb
  ·rw [List.mem_singleton.mp hb];omega
  ·exact absurd hb List.not_mem_nil
theorem lngB_nd (m:Nat) (wy x:Int):NdK (lngB m wy x):=(lngB_lt m wy x).imp fun h=>by omega
theorem lng_keys (m:Nat) (wy x tn:Int):(lng m wy x tn).map (·.1)=((lngB m wy x).map (·.1)).map (flp tn):=by
 unfold lng
 rw [List.map_map,List.map_map]
 rfl
theorem lng_nd (m:Nat) (wy x tn:Int):NdK (lng m wy x tn):=by
 unfold NdK
 rw [lng_keys,List.nodup_iff_pairwise_ne,List.pairwise_map]
 exact (lngB_lt m wy x).imp fun h e=>by have:=flp_inj e;omega
theorem lng_easy (m:Nat) (wy x tn:Int):EasyI ((lng m wy x tn).map (·.1)):=by
 rw [lng_keys]
 by_cases h:tn=0
 ·refine .inr (.inl ?_)
  rw [List.pairwise_map]
  exact (lngB_lt m wy x).imp fun e=>by unfold flp;rw [if_pos h,if_pos h];omega
 ·refine .inr (.inr ?_)
  rw [List.pairwise_map]
  exact (lngB_lt m wy x).imp fun e=>by unfold flp;rw [if_neg h,if_neg h];omega
theorem lng_len (m:Nat) (wy x tn:Int):(lng m wy x tn).length≤m+1:=by
 unfold lng lngB
 rw [List.length_map,List.length_append,List.length_map,List.length_range]
 split<;>simp
theorem lng_at {m:Nat}{wy x tn:Int}{k:Nat}(hk:k < m):lookI (lng m wy x tn) (flp tn (k:Int))=some (flp tn (if 0 < wy∧k=m - 1 then 0 else (k:Int)+1)):=by
 unfold lng
 rw [look_flp,look_of (lngB_nd m wy x) (v:=if 0 < wy∧k=m - 1 then 0 else (k:Int)+1)]
 ·rfl
 ·exact List.mem_append_left _ (List.mem_map.mpr ⟨k,List.mem_range.mpr hk,rfl⟩)
theorem lng_more {m:Nat}{wy x tn:Int}(h:wy=2):lookI (lng m wy x tn) (flp tn ((m:Int)+3))=some (flp tn x):=by
 unfold lng
 rw [look_flp,look_of (lngB_nd m wy x) (v:=x)]
 ·rfl
 ·unfold lngB
  rw [if_pos h]
  exact List.mem_append_right _ List.mem_cons_self
theorem lng_key {m:Nat}{wy x tn c:Int}(h:c∈(lng m wy x tn).map (·.1)):(∃ k:Nat,k < m∧c=flp tn (k:Int))∨(wy=2∧c=flp tn ((m:Int)+3)):=by
 rw [lng_keys,lngB_keys] at h
 obtain ⟨y,hy,rfl⟩:=List.mem_map.mp h
 rcases List.mem_append.mp hy with hy|hy
 ·obtain ⟨k,hk,rfl⟩:=List.mem_map.mp hy
  exact .inl ⟨k,List.mem_range.mp hk,rfl⟩
 ·split at hy
  ·rename_i e
   rw [List.mem_singleton.mp hy]
   exact .inr ⟨e,rfl⟩
  ·exact absurd hy List.not_mem_nil
def lngR (m:Nat) (tn:Int):List Int:=(List.range m).map fun (k:Nat)=>flp tn (k:Int)
theorem lngR_nd (m:Nat) (tn:Int):(lngR m tn).Nodup:=by
 unfold lngR
 rw [List.nodup_iff_pairwise_ne,List.pairwise_map]
 exact List.pairwise_lt_range.imp fun h e=>by have:=flp_inj e;omega
theorem lngR_pth {m:Nat}{wy x tn:Int}(hw:0 < wy) (hm:0 < m):∀ n,n < m->Pth (lookI (lng m wy x tn)) ((List.range (n+1)).map fun (k:Nat)=>flp tn (k:Int)) (flp tn (if n=m - 1 then 0 else (n:Int)+1))
 | 0,h=>by
  have:=lng_at (wy:=wy) (x:=x) (tn:=tn) (k:=0) h
  simp only [hw,true_and] at this
  exact this
 | n+1,h=>by
  have ih:=lngR_pth (wy:=wy) (x:=x) (tn:=tn) hw hm n (by omega)
  rw [if_neg (by omega)] at ih
  have h1:=lng_at (wy:=wy) (x:=x) (tn:=tn) (k:=n+1) h
  simp only [hw,true_and] at h1
  rw [List.range_succ,List.map_append]
  exact ih.snoc h1
theorem lng_ring {m:Nat}{wy x tn:Int}(hw:0 < wy) (hm:0 < m):Ring (lookI (lng m wy x tn)) (lngR m tn):=by
 obtain ⟨n,rfl⟩:∃ n,m=n+1:=⟨m - 1,by omega⟩
 have h:=lngR_pth (x:=x) (tn:=tn) hw hm n (by omega)
 rw [if_pos (by omega)] at h
 have e:lngR (n+1) tn=flp tn ((0:Nat):Int)::((List.range n).map Nat.succ).map fun (k:Nat)=>flp tn (k:Int):=by
  unfold lngR
  rw [List.range_succ_eq_map,List.map_cons]
 refine ⟨_,_,e,?_,by rw [←e];exact lngR_nd _ _⟩
 rw [←e]
 exact h
theorem lng_low {m:Nat}{wy x tn:Int}(hx:0≤x∧x < m){l:List Int}(h:Ring (lookI (lng m wy x tn)) l):∃ k:Nat,k < m∧flp tn (k:Int)∈l:=by
 obtain ⟨c,t,rfl,_⟩:=id h
 obtain ⟨d,hd,hdl⟩:=h.mem List.mem_cons_self
 rcases lng_key (look_some.mp (by rw [hd];rfl)) with ⟨k,hk,rfl⟩|⟨h2,rfl⟩
 ·exact ⟨k,hk,List.mem_cons_self⟩
 ·rw [lng_more h2] at hd
  have e:=Option.some.inj hd
  refine ⟨x.toNat,by omega,?_⟩
  rw [show ((x.toNat:Nat):Int)=x by omega,e]
  exact hdl
theorem lng_none {m:Nat}{x tn:Int}(hx:0≤x∧x < m){l:List Int}(h:Ring (lookI (lng m 0 x tn)) l):False:=by
 obtain ⟨k,hk,hm⟩:=lng_low hx h
 have up:∀ j:Nat,k+j≤m->flp tn ((k+j:Nat):Int)∈l:=by
  intro j
  induction j with
  | zero=>intro _;exact hm
  | succ j ih=>
   intro hj
   obtain ⟨d,h1,h2⟩:=h.mem (ih (by omega))
   rw [lng_at (by omega),if_neg (by omega)] at h1
   rw [←Option.some.inj h1] at h2
   have e:((k+j:Nat):Int)+1=((k+(j+1):Nat):Int):=by omega
   rw [e] at h2
   exact h2
 have hM:=up (m - k) (by omega)
 rw [show k+(m - k)=m by omega] at hM
 obtain ⟨d,h1,_⟩:=h.mem hM
 rcases lng_key (look_some.mp (by rw [h1];rfl)) with ⟨j,hj,e⟩|⟨h2,_⟩
 ·have:=flp_inj e
  omega
 ·omega
theorem lng_same {m:Nat}{wy x tn:Int}(hw:0 < wy) (hm:0 < m) (hx:0≤x∧x < m){l:List Int}(h:Ring (lookI (lng m wy x tn)) l):l.Perm (lngR m tn):=by
 obtain ⟨k,hk,hml⟩:=lng_low hx h
 exact ring_share h (lng_ring hw hm) hml (List.mem_map.mpr ⟨k,List.mem_range.mpr hk,rfl⟩)
theorem few_one {kv:List (Int × Int)}(h:∀ l l',RingL (lookI kv) l->RingL (lookI kv) l'->l=l'):Few kv:=by
 intro Cl hr hn
 match Cl,hr,hn with
 | [],_,_=>simp
 | [_],_,_=>simp
 | a::b::Cl,hr,hn=>
  have e:=h a b (hr a (by simp)) (hr b (by simp))
  rw [List.map_cons,List.map_cons,List.nodup_cons] at hn
  exact absurd (by rw [e];exact List.mem_cons_self) hn.1
theorem lng_few {m:Nat}{wy x tn:Int}(hw:0≤wy) (hm:0 < m) (hx:0≤x∧x < m):Few (lng m wy x tn):=by
 refine few_one fun l l' h h'=>?_
 by_cases e:wy=0
 ·subst e
  exact (lng_none hx h.1).elim
 ·have p:=lng_same (by omega) hm hx h.1
  have p':=lng_same (by omega) hm hx h'.1
  exact ringL_eq h h' h.head_mem (p'.mem_iff.mpr (p.mem_iff.mp h.head_mem))
theorem few_short {kv:List (Int × Int)}(h:kv.length < 64):Few kv:=by
 intro Cl hr hn
 have h1:=nd_len hn (b:=kv.map (·.1)) fun x hx=>by
  obtain ⟨l,hl,rfl⟩:=List.mem_map.mp hx
  obtain ⟨d,h1,_⟩:=(hr l hl).1.mem (hr l hl).head_mem
  exact look_some.mp (by rw [h1];rfl)
 rw [List.length_map,List.length_map] at h1
 omega
theorem lng_rings0 {m:Nat}{x tn:Int}(hx:0≤x∧x < m):RingsOf (lookI (lng m 0 x tn)) ((lng m 0 x tn).map (·.1)) []:=⟨.nil,fun _ h=>absurd h List.not_mem_nil,fun l h=>(lng_none hx h.1).elim⟩
theorem lng_rings {m:Nat}{wy x tn:Int}(hw:wy=1∨wy=2) (hm:2≤m) (hx:0≤x∧x < m){a b:List Int}{M:Int}(e:lngR m tn=a++b) (hb:b.head? = some M) (hl:∀ y∈lngR m tn,M≤y):RingsOf (lookI (lng m wy x tn)) ((lng m wy x tn).map (·.1)) [(b++a,decide (wy=1))]:=by
 have hw0:0 < wy:=by omega
 have hr:=lng_ring (x:=x) (tn:=tn) hw0 (show 0 < m by omega)
 have hlen:2≤(lngR m tn).length:=by unfold lngR;simpa using hm
 have rl:=rotL hr hlen e hb hl
 have pm:(b++a).Perm (lngR m tn):=by rw [e];exact List.perm_append_comm
 refine ⟨List.pairwise_cons.mpr ⟨fun _ h=>absurd h List.not_mem_nil,.nil⟩,fun p hp=>?_,fun l h=>?_⟩
 ·rw [List.mem_singleton.mp hp]
  refine ⟨rl,?_⟩
  show decide (wy=1)=bareB _ _ (b++a)
  rw [Bool.eq_iff_iff,decide_eq_true_eq]
  unfold bareB
  rw [List.all_eq_true]
  constructor
  ·intro h1 c hc
   rcases lng_key hc with ⟨k,hk,rfl⟩|⟨h2,_⟩
   ·have:flp tn (k:Int)∈b++a:=pm.mem_iff.mpr (List.mem_map.mpr ⟨k,List.mem_range.mpr hk,rfl⟩)
    simp only [this,decide_true,Bool.true_or]
   ·omega
  ·intro h1
   rcases hw with hw|hw
   ·exact hw
   ·exfalso
    have hk:flp tn ((m:Int)+3)∈(lng m wy x tn).map (·.1):=look_some.mp (by rw [lng_more hw];rfl)
    have:=h1 _ hk
    rw [lng_more hw] at this
    have n1:flp tn ((m:Int)+3) ∉ b++a:=fun hm1=>by
     obtain ⟨k,hk,e⟩:=List.mem_map.mp (pm.mem_iff.mp hm1)
     have:=flp_inj e
     have:=List.mem_range.mp hk
     omega
    have n2:flp tn x∈b++a:=pm.mem_iff.mpr (List.mem_map.mpr ⟨x.toNat,List.mem_range.mpr (by omega),by rw [show ((x.toNat:Nat):Int)=x by omega]⟩)
    simp only [n1,n2,decide_false,decide_true,Bool.not_true,Bool.or_false,Bool.false_eq_true] at this
 ·have p:=lng_same hw0 (by omega) hx h.1
  refine ⟨_,List.mem_singleton.mpr (Prod.ext ?_ rfl)⟩
  exact ringL_eq h rl h.head_mem (pm.mem_iff.mpr (p.mem_iff.mp h.head_mem))
theorem drawF_nn (ns:List Int) (k m:Int) (h:0 < m):0≤drawF ns k m∧drawF ns k m < m:=⟨Int.emod_nonneg _ (by omega),Int.emod_lt_of_pos _ h⟩
def lngI (n:Nat):List (Int × Int):=(List.range n).map fun (k:Nat)=>((k:Int),(k:Int)+1)
theorem lngI_keys (n:Nat):(lngI n).map (·.1)=(List.range n).map fun (k:Nat)=>(k:Int):=by unfold lngI;rw [List.map_map];rfl
theorem lngI_new (n:Nat):lookI (lngI n) (n:Int)=none:=by
 rw [look_none,lngI_keys]
 intro h
 obtain ⟨k,hk,e⟩:=List.mem_map.mp h
 have:=List.mem_range.mp hk
 omega
theorem lngI_put (n:Nat):putK (tabI (lngI n)) (.inl (n:Int)) (.int ((n:Int)+1))=tabI (lngI (n+1)):=by
 rw [put_tab _ (lngI_new n)]
 unfold lngI
 rw [List.range_succ,List.map_append]
 rfl
def lngW (m:Nat) (wy:Int):List (Int × Int):=(List.range m).map fun (k:Nat)=>((k:Int),if 0 < wy∧k=m - 1 then 0 else (k:Int)+1)
theorem lngW_0 (m:Nat):lngW m 0=lngI m:=by
 unfold lngW lngI
 refine List.map_congr_left fun k _=>?_
 rw [if_neg (by omega)]
theorem lngW_put {m:Nat}{wy:Int}(hw:0 < wy) (hm:0 < m):putK (tabI (lngI m)) (.inl ((m:Int) - 1)) (.int 0)=tabI (lngW m wy):=by
 rw [put_tabI]
 congr 1
 unfold putI
 rw [if_pos (look_some.mpr (by rw [lngI_keys];exact List.mem_map.mpr ⟨m - 1,List.mem_range.mpr (by omega),by omega⟩))]
 unfold lngI lngW
 rw [List.map_map]
 refine List.map_congr_left fun k hk=>?_
 have hk':=List.mem_range.mp hk
 show (if (k:Int)=(m:Int) - 1 then ((k:Int),(0:Int)) else ((k:Int),(k:Int)+1))=_
 by_cases e:k=m - 1
 ·rw [if_pos (by omega),if_pos ⟨hw,e⟩]
 ·rw [if_neg (by omega),if_neg (fun h=>e h.2)]
theorem lngW_len (m:Nat) (wy:Int):(lngW m wy).length=m:=by unfold lngW;simp
theorem lngB_W {m:Nat}{wy:Int}(x:Int) (h:¬ wy=2):lngB m wy x=lngW m wy:=by
 unfold lngB lngW
 rw [if_neg h,List.append_nil]
theorem lngB_put {m:Nat}{wy:Int}(x:Int) (h:wy=2):putK (tabI (lngW m wy)) (.inl ((m:Int)+3)) (.int x)=tabI (lngB m wy x):=by
 rw [put_tab]
 ·unfold lngB lngW
  rw [if_pos h]
 ·rw [look_none]
  intro hm
  unfold lngW at hm
  rw [List.map_map] at hm
  obtain ⟨k,hk,e⟩:=List.mem_map.mp hm
  have:=List.mem_range.mp hk
  have e':(k:Int)=(m:Int)+3:=e
  omega
theorem lng_0 (m:Nat) (wy x:Int):lng m wy x 0=lngB m wy x:=by
 unfold lng
 rw [show (fun p:Int × Int=>(flp 0 p.1,flp 0 p.2))=id from rfl,List.map_id]
theorem lng_1 {tn:Int}(h:¬ tn=0) (m:Nat) (wy x:Int):lng m wy x tn=(lngB m wy x).map fun p=>(5000 - p.1,5000 - p.2):=by
 unfold lng
 refine List.map_congr_left fun p _=>?_
 unfold flp
 rw [if_neg h,if_neg h]
theorem turn_put {kv:List (Int × Int)}(hn:NdK kv){i:Nat}{p:Int × Int}(h:kv[i]? = some p):putK (tabI ((kv.take i).map fun p=>(5000 - p.1,5000 - p.2))) (.inl (5000 - p.1)) (.int (5000 - p.2))=tabI ((kv.take (i+1)).map fun p=>(5000 - p.1,5000 - p.2)):=by
 rw [put_tab,List.take_add_one,h,List.map_append]
 ·rfl
 ·rw [look_none,List.map_map]
  intro hm
  obtain ⟨q,hq,e⟩:=List.mem_map.mp hm
  have e':5000 - q.1=5000 - p.1:=e
  have hlt:=(List.getElem?_eq_some_iff.mp h).1
  have h1:(kv.map (·.1)).Nodup:=hn
  rw [←List.take_append_drop i kv,List.map_append,List.nodup_append] at h1
  exact h1.2.2 q.1 (List.mem_map.mpr ⟨q,hq,rfl⟩) p.1 (List.mem_map.mpr ⟨p,List.mem_of_getElem? (i:=0) (by rw [List.getElem?_drop];simpa using h),rfl⟩) (by omega)
abbrev B_spLg (K:PySem.W.Frag) (a:Addr) (ns:List Int) (p:Addr) (H:Hp) (Q:VK) (E:XK):Prop:=p=a∧SqL K H a (ns.map V.int)∧ns.length≤63∧∀ (m:Nat) (x:Int) (r:Addr) (H':Hp),(1001≤m∧m≤4095)->(0≤x∧x < m)->H r=none->Ext H H'->H' r=some (.dK (tabI (lng m (drawF ns 2 3) x (drawF ns 4 2))))->Q (.ref r) H'
def spLg (K:PySem.W.Frag) (a:Addr) (ns:List Int):Sp:=fun vs H Q E=>∃ (p:Addr),vs=[.ref p]∧(B_spLg K a ns p H Q E)
theorem c_spLg (K:PySem.W.Frag) (a:Addr) (ns:List Int) (p:Addr) (H:Hp) (Q:VK) (E:XK):spLg K a ns [.ref p] H Q E=(B_spLg K a ns p H Q E):=spx1 (f:=fun (p:Addr)=>[.ref p]) (fun _ _ h=>by cases h;exact rfl) p
theorem l_spLg (K:PySem.W.Frag) (a:Addr) (ns:List Int){vs:List V}{H:Hp}{Q:VK}{E:XK}(h:spLg K a ns vs H Q E):vs.length=1:=spl1 h fun _=>rfl
theorem ok__law_long (T:Tx K mg t) (a:Addr) (ns:List Int):FnOk P w K mg base CX0 2 t.a__law_long t.d__law_long ["_law_script"] (spLg K a ns):=by
 have G__law_draw:=okx__law_draw (P:=P) (w:=w) (base:=base) T a ns
 refine T.F__law_long.ok c__law_long (fun vs H Q E h=>l_spLg _ _ _ h) (fun cdv A outer s' H vs Q E hr h=>?_)
 ·obtain ⟨_,rfl,rfl,hS,hl,kk⟩:=h
  rename_i a
  refine ⟨_,(@pss_cons _ _ _ _ _ (@ps_set _ _ (1) _ _ _ _ c__law_long.nd rfl (Or.inl rfl) (@pe_op _ _ _ _ _ _ _ _ on_add (@pe_int _ _ _ _) (@pe_call _ _ _ _ _ _ _ _ _ _ _ _ _ _ _ _ G__law_draw (hr.mono (by decide)) (by rfl) T.m__law_draw T.F__law_draw.kp T.b__law_draw .nil pass0 (@pa_c _ _ _ _ _ (@pvN _ 0 _ _ (by rfl) (by trivial) (by decide) (by decide)) (@pa_c _ _ _ _ _ (@pe_int _ _ _ _) (@pa_c _ _ _ _ _ (@pe_int _ _ _ _) (@pa_nil _) (by rfl)) (by rfl)) (by rfl)) (by decide) (by rfl) (by rfl))) (by rfl) (by trivial)) (@pss_cons _ _ _ _ _ (@ps_set _ _ (2) _ _ _ _ c__law_long.nd rfl (Or.inl rfl) (@pe_nDNew _ _) (by rfl) (by trivial)) (@pss_cons _ _ _ _ _ (@ps_for _ _ _ _ _ _ _ _ PassesOwn.never rfl (@pi_range1 _ _ _ _ _ _ (by rfl) T.z_range (@pa_c _ _ _ _ _ (@pvN _ 1 _ _ (by rfl) (by trivial) (by decide) (by decide)) (@pa_nil _) (by rfl)) (by rfl)) (@pg_name _ _ (3) _ c__law_long.nd rfl (Or.inl rfl) (by trivial)) (@pss_one _ _ _ (@ps_dput _ _ _ _ _ _ _ _ _ (units1 hr.units) (@pvN _ 2 _ _ (by rfl) (by trivial) (by decide) (by decide)) (@pvN _ 3 _ _ (by rfl) (by trivial) (by decide) (by decide)) (@pe_op _ _ _ _ _ _ _ _ on_add (@pvN _ 3 _ _ (by rfl) (by trivial) (by decide) (by decide)) (@pe_int _ _ _ _)) rfl)) (by intros;rfl)) (@pss_cons _ _ _ _ _ (@ps_set _ _ (4) _ _ _ _ c__law_long.nd rfl (Or.inl rfl) (@pe_call _ _ _ _ _ _ _ _ _ _ _ _ _ _ _ _ G__law_draw (hr.mono (by decide)) (by rfl) T.m__law_draw T.F__law_draw.kp T.b__law_draw .nil pass0 (@pa_c _ _ _ _ _ (@pvN _ 0 _ _ (by rfl) (by trivial) (by decide) (by decide)) (@pa_c _ _ _ _ _ (@pe_int _ _ _ _) (@pa_c _ _ _ _ _ (@pe_int _ _ _ _) (@pa_nil _) (by rfl)) (by rfl)) (by rfl)) (by decide) (by rfl) (by rfl)) (by rfl) (by trivial)) (@pss_cons _ _ _ _ _ (@ps_if _ _ _ _ _ _ _ _ (@pt_cmpRN _ _ _ _ _ _ _ _ on_gt (@pvN _ 4 _ _ (by rfl) (by trivial) (by decide) (by decide)) (@pe_int _ _ _ _) (nomark _)) (@pss_one _ _ _ (@ps_dput _ _ _ _ _ _ _ _ _ (units1 hr.units) (@pvN _ 2 _ _ (by rfl) (by trivial) (by decide) (by decide)) (@pe_op _ _ _ _ _ _ _ _ on_sub (@pvN _ 1 _ _ (by rfl) (by trivial) (by decide) (by decide)) (@pe_int _ _ _ _)) (@pe_int _ _ _ _) rfl)) (@pss_nil _)) (@pss_cons _ _ _ _ _ (@ps_if _ _ _ _ _ _ _ _ (@pt_cmpRN _ _ _ _ _ _ _ _ (op_qEq hr.units) (@pvN _ 4 _ _ (by rfl) (by trivial) (by decide) (by decide)) (@pe_int _ _ _ _) (nomark _)) (@pss_one _ _ _ (@ps_dput _ _ _ _ _ _ _ _ _ (units1 hr.units) (@pvN _ 2 _ _ (by rfl) (by trivial) (by decide) (by decide)) (@pe_op _ _ _ _ _ _ _ _ on_add (@pvN _ 1 _ _ (by rfl) (by trivial) (by decide) (by decide)) (@pe_int _ _ _ _)) (@pe_call _ _ _ _ _ _ _ _ _ _ _ _ _ _ _ _ G__law_draw (hr.mono (by decide)) (by rfl) T.m__law_draw T.F__law_draw.kp T.b__law_draw .nil pass0 (@pa_c _ _ _ _ _ (@pvN _ 0 _ _ (by rfl) (by trivial) (by decide) (by decide)) (@pa_c _ _ _ _ _ (@pe_int _ _ _ _) (@pa_c _ _ _ _ _ (@pvN _ 1 _ _ (by rfl) (by trivial) (by decide) (by decide)) (@pa_nil _) (by rfl)) (by rfl)) (by rfl)) (by decide) (by rfl) (by rfl)) rfl)) (@pss_nil _)) (@pss_cons _ _ _ _ _ (@ps_if _ _ _ _ _ _ _ _ (@pt_cmpRN _ _ _ _ _ _ _ _ (op_qEq hr.units) (@pe_call _ _ _ _ _ _ _ _ _ _ _ _ _ _ _ _ G__law_draw (hr.mono (by decide)) (by rfl) T.m__law_draw T.F__law_draw.kp T.b__law_draw .nil pass0 (@pa_c _ _ _ _ _ (@pvN _ 0 _ _ (by rfl) (by trivial) (by decide) (by decide)) (@pa_c _ _ _ _ _ (@pe_int _ _ _ _) (@pa_c _ _ _ _ _ (@pe_int _ _ _ _) (@pa_nil _) (by rfl)) (by rfl)) (by rfl)) (by decide) (by rfl) (by rfl)) (@pe_int _ _ _ _) (nomark _)) (@pss_one _ _ _ (@ps_ret _ _ _ _ (@pvN _ 2 _ _ (by rfl) (by trivial) (by decide) (by decide)))) (@pss_nil _)) (@pss_cons _ _ _ _ _ (@ps_set _ _ (5) _ _ _ _ c__law_long.nd rfl (Or.inl rfl) (@pe_nDNew _ _) (by rfl) (by trivial)) (@pss_cons _ _ _ _ _ (@ps_thaw _ _ _ (@ps_for _ _ _ _ _ _ _ _ PassesOwn.never rfl (@pi_dict _ _ _ _ (@pvN _ 2 _ _ (by rfl) (by trivial) (by decide) (by decide))) (@pg_name _ _ (3) _ c__law_long.nd rfl (Or.inl rfl) (by trivial)) (@pss_one _ _ _ (@ps_dput _ _ _ _ _ _ _ _ _ (units1 hr.units) (@pvN _ 5 _ _ (by rfl) (by trivial) (by decide) (by decide)) (@pe_op _ _ _ _ _ _ _ _ on_sub (@pe_int _ _ _ _) (@pvN _ 3 _ _ (by rfl) (by trivial) (by decide) (by decide))) (@pe_op _ _ _ _ _ _ _ _ on_sub (@pe_int _ _ _ _) (@pe_dget _ _ _ _ _ _ (units1 hr.units) (@pvN _ 2 _ _ (by rfl) (by trivial) (by decide) (by decide)) (@pvN _ 3 _ _ (by rfl) (by trivial) (by decide) (by decide)) (fun _ _=>rfl))) rfl)) (by intros;rfl))) (@pss_one _ _ _ (@ps_ret _ _ _ _ (@pvN _ 5 _ _ (by rfl) (by trivial) (by decide) (by decide))))))))))))),?_⟩
  rw [show start ["_law_script", "_law_many", "_law_found_here", "_law_k", "_law_way", "_law_turned"] [.ref a]=[some (.ref a),none,none,none,none,none] from rfl]
  clear G__law_draw
  have w01:=drawF_nn ns 2 3 (by decide)
  have t01:=drawF_nn ns 4 2 (by decide)
  have m01:=drawF_nn ns 1 3095 (by decide)
  replace kk:=fun (_:Unit)=>kk
  simp! only [and_true]
  rw [c_spDrawX]
  refine ⟨hS,hl,⟨by decide,by decide⟩,by decide,?_⟩
  simp! only [and_true]
  obtain ⟨m,hm⟩:∃ m:Nat,1001+drawF ns 1 3095=(m:Int):=⟨(1001+drawF ns 1 3095).toNat,by omega⟩
  have hm1:1001≤m:=by omega
  have hm2:m≤4095:=by omega
  rw [hm]
  clear hm m01
  intro d H1 hd1 e1 h1
  simp! only [and_true]
  refine ⟨by omega,by omega,?_⟩
  refine for_rng (fun i σ H'=>∃ (v3:Option V),σ=[some (.ref a),some (.int (m:Int)),some (.ref d),v3,none,none]∧Ext H H'∧H' d=some (.dK (tabI (lngI i)))) ⟨none,rfl,e1,h1⟩ ?_ ?_
  ·rintro i _ H2 hi ⟨v3,rfl,e2,d2⟩
   have hl5:(tabI (lngI i)).length < sizeLine:=lt5000 (by rw [tab_len];unfold lngI;rw [List.length_map,List.length_range];omega)
   have hput:=lngI_put i
   replace hput:=fun (_:Unit)=>hput
   clear h1 kk
   rw [Int.zero_add]
   simp! only [and_true]
   refine use_dp (k:=.inl (i:Int)) d2 hl5 ?_
   rw [hput ()]
   exact ⟨_,rfl,e2.put hd1,upd_same⟩
  ·rintro _ H2 ⟨v3,rfl,e2,d2⟩
   rw [Int.toNat_natCast] at d2
   have hS2:=e2.2 K a _ hS
   clear h1 e1
   simp! only [and_true]
   rw [c_spDrawX]
   refine ⟨hS2,hl,⟨by decide,by decide⟩,by decide,?_⟩
   generalize drawF ns 2 3=wy at w01 kk ⊢
   simp! only [-m_tIfS]
   refine if_gen (fun σ' H'=>σ'=[some (.ref a),some (.int (m:Int)),some (.ref d),v3,some (.int wy),none]∧Ext H H'∧H' d=some (.dK (tabI (lngW m wy)))) (fun nx' hnx=>?_) ?_
   ·replace hnx:=fun (_:Unit)=>hnx
    by_cases hw:0 < wy
    ·have hl5:(tabI (lngI m)).length < sizeLine:=lt5000 (by rw [tab_len];unfold lngI;rw [List.length_map,List.length_range];omega)
     simp! only [and_true]
     refine use_dp (k:=.inl ((m:Int) - 1)) d2 hl5 ?_
     rw [lngW_put hw (by omega)]
     exact hnx () _ _ ⟨rfl,e2.put hd1,upd_same⟩
    ·have hw0:wy=0:=by omega
     subst hw0
     have h6:=hnx () [some (.ref a),some (.int (m:Int)),some (.ref d),v3,some (.int 0),none] H2 ⟨rfl,e2,by rw [lngW_0];exact d2⟩
     clear hnx
     simp! only [and_true]
   rintro _ H3 ⟨rfl,e3,d3⟩
   have hS3:=e3.2 K a _ hS
   clear d2 hS2
   simp! only [-m_tIfS]
   refine if_gen (fun σ' H'=>∃ x:Int,σ'=[some (.ref a),some (.int (m:Int)),some (.ref d),v3,some (.int wy),none]∧Ext H H'∧H' d=some (.dK (tabI (lngB m wy x)))∧0≤x∧x < m) (fun nx' hnx=>?_) ?_
   ·replace hnx:=fun (_:Unit)=>hnx
    by_cases hw:wy=2
    ·have hl5:(tabI (lngW m wy)).length < sizeLine:=lt5000 (by rw [tab_len,lngW_len];omega)
     subst hw
     simp! only [and_true]
     rw [c_spDrawX]
     have x01:=drawF_nn ns 3 (m:Int) (by omega)
     refine ⟨hS3,hl,⟨by decide,by decide⟩,by omega,?_⟩
     simp! only [and_true]
     refine use_dp (k:=.inl ((m:Int)+3)) d3 hl5 ?_
     rw [lngB_put _ rfl]
     exact hnx () _ _ ⟨_,rfl,e3.put hd1,upd_same,x01⟩
    ·have h6:=hnx () [some (.ref a),some (.int (m:Int)),some (.ref d),v3,some (.int wy),none] H3 ⟨0,rfl,e3,by rw [lngB_W 0 hw];exact d3,by omega,by omega⟩
     clear hnx
     simp! only [and_true]
   rintro _ H4 ⟨x,rfl,e4,d4,hx⟩
   have hS4:=e4.2 K a _ hS
   clear d3 hS3
   simp! only [and_true]
   rw [c_spDrawX]
   refine ⟨hS4,hl,⟨by decide,by decide⟩,by decide,?_⟩
   generalize drawF ns 4 2=tn at t01 kk ⊢
   by_cases ht:tn=0
   ·subst ht
    have k':=kk () m x d H4 ⟨hm1,hm2⟩ hx hd1 e4 (by rw [lng_0];exact d4)
    clear kk
    simp! only [and_true]
   ·have hnd:=lngB_nd m wy x
    have hlb:(lngB m wy x).length≤4100:=by
     have:=lng_len m wy x 0
     rw [lng_0] at this
     omega
    have k':=fun (_:Unit)=>kk () m x
    have h1t:=fun (_:Unit)=>lng_1 ht m wy x
    generalize lngB m wy x=kb at d4 hnd hlb h1t
    replace hnd:=fun (_:Unit)=>hnd
    clear kk
    simp! only [and_true]
    intro tu H5 hu5 e5 h5
    have d5:=e5.at d4
    have hu0:H tu=none:=e4.free hu5
    have ntd:tu ≠ d:=fun z=>by rw [z,d4] at hu5;cases hu5
    simp! only [and_true]
    refine for_dict (fun ob i σ H'=>∃ (v3:Option V),σ=[some (.ref a),some (.int (m:Int)),some (.ref d),v3,some (.int wy),some (.ref tu)]∧Ext (upd H4 d (.frz ob (.dK (tabI kb)))) H'∧H' tu=some (.dK (tabI ((kb.take i).map fun p=>(5000 - p.1,5000 - p.2))))) d5 (fun ob=>⟨v3,rfl,ext_upd e5 _ _,by rw [upd_ne ntd];exact h5⟩) (fun ob i σ' H' ⟨_,_,e,_⟩=>e.at upd_same) ?_ ?_
    ·rintro ob i z _ H6 hz ⟨v3',rfl,e6,t6⟩ f6
     obtain ⟨y,hy,rfl⟩:∃ y,kb[i]? = some y∧z=((Sum.inl y.1:Key),V.int y.2):=by
      unfold tabI at hz
      rw [List.getElem?_map] at hz
      obtain ⟨y,h1,h2⟩:=Option.map_eq_some_iff.mp hz
      exact ⟨y,h1,h2.symm⟩
     have hput:=turn_put (hnd ()) hy
     have hvv:valV (tabI kb) (.inl y.1)=some (.int y.2):=by rw [val_tab,look_of (hnd ()) (show (y.1,y.2)∈kb from List.mem_of_getElem? hy)];rfl
     have hl5:(tabI ((kb.take i).map fun p=>(5000 - p.1,5000 - p.2))).length < sizeLine:=lt5000 (by rw [tab_len,List.length_map,List.length_take];omega)
     have htu:upd H4 d (.frz ob (.dK (tabI kb))) tu=none:=by rw [upd_ne ntd];exact hu5
     obtain ⟨c,v⟩:=y
     rw [show kV ((Sum.inl (c,v).1:Key),V.int (c,v).2).1=V.int c from rfl]
     replace hput:=fun (_:Unit)=>hput
     clear hz hy d5 h5 k'
     simp! only [and_true]
     refine use_dgF (k:=.inl c) f6 hvv ?_
     simp! only [and_true]
     refine use_dp (k:=.inl (5000 - c)) t6 hl5 ?_
     rw [hput ()]
     exact ⟨_,rfl,e6.put htu,upd_same⟩
    ·rintro ob _ H6 ⟨v3',rfl,e6,t6⟩
     rw [tab_len,List.take_length] at t6
     have e7:=Ext.thaw d4 e6
     have t7:upd H6 d (.dK (tabI kb)) tu=some (.dK (tabI (kb.map fun p=>(5000 - p.1,5000 - p.2)))):=by rw [upd_ne ntd];exact t6
     generalize upd H6 d (.dK (tabI kb))=H7 at e7 t7
     have k2:=k' () tu H7 ⟨hm1,hm2⟩ hx hu0 (e4.trans e7) (by rw [h1t ()];exact t7)
     clear k'
     simp! only [and_true]
theorem len9 {n:Nat}(h:n≤9000):n≤sizeLine:=Nat.le_trans h (by decide)
def rdS (hv:List (Int × Int)) (x:Int):Int:=(lookI hv x).getD x
theorem runS_snoc (s:Int->Int) (r:List (Int × Int)) (p:Int × Int) (x:Int):runS s (r++[p]) x=if x=p.2 then runS s r p.1 else runS s r x:=by rw [runS_app];rfl
structure HvI (hv:List (Int × Int)) (rows:List (Int × Int)) (hv':List (Int × Int)):Prop where
 nd:NdK hv'
 len:hv'.length≤hv.length+rows.length
 val:∀ x,rdS hv' x=runS (rdS hv) rows x
theorem HvI.put {hv rows hv':List (Int × Int)}(h:HvI hv rows hv') (p:Int × Int):HvI hv (rows++[p]) (putI hv' p.2 (rdS hv' p.1)):=by
 refine ⟨putI_nodup h.nd _ _,?_,fun x=>?_⟩
 ·have:=putI_len hv' p.2 (rdS hv' p.1)
  have:=h.len
  rw [List.length_append,List.length_singleton]
  omega
 ·rw [runS_snoc,←h.val,←h.val]
  unfold rdS
  rw [look_put]
  by_cases e:x=p.2
  ·rw [if_pos e,if_pos e];rfl
  ·rw [if_neg e,if_neg e]
abbrev B_spRun  (W:Addr) (hd:Addr) (H:Hp) (Q:VK) (E:XK):Prop:=∃ (B:Hp) (rows hv:List (Int × Int)),Ext B H∧B hd=none∧TwL B W rows∧H hd=some (.dK (tabI hv))∧NdK hv∧hv.length+rows.length≤4900∧∀ (hv':List (Int × Int)) (H':Hp),HvI hv rows hv'->Ext B H'->H' hd=some (.dK (tabI hv'))->Q (.ref hd) H'
def spRun  : Sp:=fun vs H Q E=>∃ (W:Addr) (hd:Addr),vs=[.ref W,.ref hd]∧(B_spRun  W hd H Q E)
theorem c_spRun  (W:Addr) (hd:Addr) (H:Hp) (Q:VK) (E:XK):spRun  [.ref W,.ref hd] H Q E=(B_spRun  W hd H Q E):=spx2 (f:=fun (W:Addr) (hd:Addr)=>[.ref W,.ref hd]) (fun _ _ _ _ h=>by cases h;exact ⟨rfl,rfl⟩) W hd
theorem l_spRun  {vs:List V}{H:Hp}{Q:VK}{E:XK}(h:spRun  vs H Q E):vs.length=2:=spl2 h fun _ _=>rfl
theorem ok__law_run (T:Tx K mg t):FnOk P w K mg base CX0 1 t.a__law_run t.d__law_run ["_law_rows", "_law_held"] spRun:=by
 refine T.F__law_run.ok c__law_run (fun vs H Q E h=>l_spRun h) (fun cdv A outer s' H vs Q E hr h=>?_)
 ·obtain ⟨W,hd,rfl,B,rows,hv,eB,hBh,tw,hh,hnd,hl,k⟩:=h
  refine ⟨_,(@pss_cons _ _ _ _ _ (@ps_for _ _ _ _ _ _ _ _ PassesOwn.never rfl (@pi_seq _ _ _ _ (@pvN _ 0 _ _ (by rfl) (by trivial) (by decide) (by decide))) ((@pg_tup _ _ _ _ _ (2) rfl (@pgs_consN _ _ _ _ _ (@pg_name _ _ (2) _ c__law_run.nd rfl (Or.inl rfl) (by trivial)) (@pgs_consN _ _ _ _ _ (@pg_name _ _ (3) _ c__law_run.nd rfl (Or.inl rfl) (by trivial)) (@pgs_nilN _) (by rfl)) (by rfl)) (by rfl) (by rfl)).mono fun _ _ _ _ h=>gTup_q h) (@pss_one _ _ _ (@ps_dput _ _ _ _ _ _ _ _ _ (units1 hr.units) (@pvN _ 1 _ _ (by rfl) (by trivial) (by decide) (by decide)) (@pvN _ 3 _ _ (by rfl) (by trivial) (by decide) (by decide)) (@pe_dget2 _ _ _ _ _ _ _ _ _ (units1 hr.units) (@pvN _ 1 _ _ (by rfl) (by trivial) (by decide) (by decide)) (@pvN _ 2 _ _ (by rfl) (by trivial) (by decide) (by decide)) (@pvN _ 2 _ _ (by rfl) (by trivial) (by decide) (by decide)) ⟨by rfl,by rfl,by rfl,by rfl⟩) rfl)) (by intros;rfl)) (@pss_one _ _ _ (@ps_ret _ _ _ _ (@pvN _ 1 _ _ (by rfl) (by trivial) (by decide) (by decide))))),?_⟩
  rw [show start ["_law_rows", "_law_held", "_law_first", "_law_last"] [.ref W,.ref hd]=[some (.ref W),some (.ref hd),none,none] from rfl]
  obtain ⟨ys,W0,al⟩:=tw
  have WH:=eB.at W0
  replace al:=fun (_:Unit)=>al
  replace k:=fun (_:Unit)=>k
  simp! only [and_true]
  refine for_lst (xs:=ys) (fun i σ H'=>∃ (v2 v3:Option V) (hv':List (Int × Int)),σ=[some (.ref W),some (.ref hd),v2,v3]∧Ext B H'∧H' hd=some (.dK (tabI hv'))∧HvI hv (rows.take i) hv') ⟨none,none,hv,rfl,eB,hh,by rw [List.take_zero];exact ⟨hnd,Nat.le_refl _,fun _=>rfl⟩⟩ (fun i σ H' _ ⟨_,_,_,_,e,_⟩=>e.at W0) ?_ ?_
  ·rintro i y _ H3 hy ⟨v2,v3,hv',rfl,e3,h3,hi⟩
   have hi2:i < rows.length:=by have:=(List.getElem?_eq_some_iff.mp hy).1;rw [(al ()).1] at this;exact this
   obtain ⟨p,hp⟩:∃ p,rows[i]? = some p:=⟨_,List.getElem?_eq_getElem hi2⟩
   obtain ⟨q,rfl,hq⟩:=((al ()).2 i p y hp hy).ext e3
   have hput:=hi.put p
   have htk:rows.take (i+1)=rows.take i++[p]:=by rw [List.take_add_one,hp];rfl
   rw [←htk] at hput
   have hl5:(tabI hv').length < sizeLine:=lt5000 (by rw [tab_len];have:=hi.len;rw [List.length_take] at this;omega)
   obtain ⟨pa,pb⟩:=p
   replace hq:H3 q=some (.tup [.int pa,.int pb]):=hq
   have hgv:((lookI hv' pa).map V.int).getD (.int pa)=.int (rdS hv' pa):=by unfold rdS;cases lookI hv' pa<;>rfl
   replace hput:=fun (_:Unit)=>hput
   clear hy hp htk hi WH hh k
   simp! only [and_true]
   refine use_ge0 h3 ?_
   simp! only [and_true]
   refine use_ge (k:=.inl pa) h3 ?_
   rw [val_tab,hgv]
   simp! only [and_true]
   refine use_dp (k:=.inl pb) h3 hl5 ?_
   rw [put_tabI]
   exact ⟨_,_,_,rfl,e3.put hBh,upd_same,hput ()⟩
  ·rintro _ H3 ⟨v2,v3,hv',rfl,e3,h3,hi⟩
   rw [(al ()).1,List.take_length] at hi
   have k':=k () hv' H3 hi e3 h3
   clear k hh WH
   simp! only [and_true]
theorem rdS_nil:rdS []=id:=by funext x;rfl
abbrev B_spLv  (W:Addr) (d:Addr) (H:Hp) (Q:VK) (E:XK):Prop:=∃ (rows kv:List (Int × Int)),TwL H W rows∧rows.length≤4300∧H d=some (.dK (tabI kv))∧kv.length≤4200∧(∀ x,x ≠ -1->runS id rows x=fhat kv x)∧∀ H',Ext H H'->Q (.bl true) H'
def spLv  : Sp:=fun vs H Q E=>∃ (W:Addr) (d:Addr),vs=[.ref W,.ref d]∧(B_spLv  W d H Q E)
theorem c_spLv  (W:Addr) (d:Addr) (H:Hp) (Q:VK) (E:XK):spLv  [.ref W,.ref d] H Q E=(B_spLv  W d H Q E):=spx2 (f:=fun (W:Addr) (d:Addr)=>[.ref W,.ref d]) (fun _ _ _ _ h=>by cases h;exact ⟨rfl,rfl⟩) W d
theorem l_spLv  {vs:List V}{H:Hp}{Q:VK}{E:XK}(h:spLv  vs H Q E):vs.length=2:=spl2 h fun _ _=>rfl
theorem ok__law_leave (T:Tx K mg t):FnOk P w K mg base CX0 2 t.a__law_leave t.d__law_leave ["_law_rows", "_law_found_here"] spLv:=by
 have G__law_run:=ok__law_run (P:=P) (w:=w) (base:=base) T
 refine T.F__law_leave.ok c__law_leave (fun vs H Q E h=>l_spLv h) (fun cdv A outer s' H vs Q E hr h=>?_)
 ·obtain ⟨W,d,rfl,rows,kv,tw,hl,hd,hkl,hrun,k⟩:=h
  refine ⟨_,(@pss_cons _ _ _ _ _ (@ps_set _ _ (2) _ _ _ _ c__law_leave.nd rfl (Or.inl rfl) (@pe_call _ _ _ _ _ _ _ _ _ _ _ _ _ _ _ _ G__law_run (hr.mono (by decide)) (by rfl) T.m__law_run T.F__law_run.kp T.b__law_run .nil pass0 (@pa_c _ _ _ _ _ (@pvN _ 0 _ _ (by rfl) (by trivial) (by decide) (by decide)) (@pa_c _ _ _ _ _ (@pe_nDNew _ _) (@pa_nil _) (by rfl)) (by rfl)) (by decide) (by rfl) (by rfl)) (by rfl) (by trivial)) (@pss_cons _ _ _ _ _ (@ps_for _ _ _ _ _ _ _ _ PassesOwn.never rfl (@pi_seq _ _ _ _ (@pe_op _ _ _ _ _ _ _ _ op_nCat (@pe_callTy _ _ _ _ _ _ _ _ _ (call_qListD rfl) (by rfl) T.z_list (by decide +kernel) (@pa_c _ _ _ _ _ (@pvN _ 2 _ _ (by rfl) (by trivial) (by decide) (by decide)) (@pa_nil _) (by rfl)) (by decide) (by decide) (by rfl) (by rfl)) (@pe_callTy _ _ _ _ _ _ _ _ _ (call_qListD rfl) (by rfl) T.z_list (by decide +kernel) (@pa_c _ _ _ _ _ (@pvN _ 1 _ _ (by rfl) (by trivial) (by decide) (by decide)) (@pa_nil _) (by rfl)) (by decide) (by decide) (by rfl) (by rfl)))) (@pg_name _ _ (3) _ c__law_leave.nd rfl (Or.inl rfl) (by trivial)) (@pss_one _ _ _ (@ps_if _ _ _ _ _ _ _ _ (PW.pt (@pw_and _ _ _ _ _ _ _ (@pt_cmpRN _ _ _ _ _ _ _ _ (op_qNe hr.units) (@pvN _ 3 _ _ (by rfl) (by trivial) (by decide) (by decide)) (@pe_un _ _ _ _ _ _ un_negN (@pe_int _ _ _ _)) (nomark _)) (@pw_and1 _ _ _ _ (@pt_cmpRN _ _ _ _ _ _ _ _ (op_qNe hr.units) (@pe_dget2 _ _ _ _ _ _ _ _ _ (units1 hr.units) (@pvN _ 2 _ _ (by rfl) (by trivial) (by decide) (by decide)) (@pvN _ 3 _ _ (by rfl) (by trivial) (by decide) (by decide)) (@pvN _ 3 _ _ (by rfl) (by trivial) (by decide) (by decide)) ⟨by rfl,by rfl,by rfl,by rfl⟩) (@pe_dget2 _ _ _ _ _ _ _ _ _ (units1 hr.units) (@pvN _ 1 _ _ (by rfl) (by trivial) (by decide) (by decide)) (@pvN _ 3 _ _ (by rfl) (by trivial) (by decide) (by decide)) (@pvN _ 3 _ _ (by rfl) (by trivial) (by decide) (by decide)) ⟨by rfl,by rfl,by rfl,by rfl⟩) (nomark _))))) (@pss_one _ _ _ (@ps_ret _ _ _ _ (@pe_bl _ _ _ _))) (@pss_nil _))) (by intros;rfl)) (@pss_one _ _ _ (@ps_ret _ _ _ _ (@pe_bl _ _ _ _))))),?_⟩
  rw [show start ["_law_rows", "_law_found_here", "_law_held", "_law_cell"] [.ref W,.ref d]=[some (.ref W),some (.ref d),none,none] from rfl]
  clear G__law_run
  replace hrun:=fun (_:Unit)=>hrun
  replace k:=fun (_:Unit)=>k
  simp! only [and_true]
  intro hh H1 hh1 e1 h1
  simp! only [and_true]
  rw [c_spRun]
  refine ⟨H,rows,[],e1,hh1,tw,h1,List.nodup_nil,by simp;omega,fun hv' H2 hi e2 h2=>?_⟩
  have d2:=e2.at hd
  have hvl:hv'.length≤4300:=by have:=hi.len;simp at this;omega
  have hval:∀ x,x ≠ -1->rdS hv' x=fhat kv x:=fun x hx=>by rw [hi.val,rdS_nil];exact hrun () x hx
  replace hval:=fun (_:Unit)=>hval
  clear h1 hi
  simp! only [and_true]
  refine use_listD h2 (len5000 (by rw [tab_len];omega)) ?_
  intro l1 H3 hl3 e3 h3
  have h2_3:=e3.at h2
  have d3:=e3.at d2
  clear h2 d2
  simp! only [and_true]
  refine use_listD d3 (len5000 (by rw [tab_len];omega)) ?_
  intro l2 H4 hl4 e4 h4
  have h2_4:=e4.at h2_3
  have d4:=e4.at d3
  have h3_4:=e4.at h3
  have key:∀ kv:List (Int × Int),(tabI kv).map (fun z=>kV z.1)=(kv.map (·.1)).map V.int:=fun kv=>by unfold tabI;rw [List.map_map,List.map_map];rfl
  rw [key] at h3_4 h4
  clear h2_3 d3 h3
  simp! only [and_true]
  refine ⟨len9 (by omega),?_⟩
  intro l3 H5 hl5 e5 h5
  rw [←List.map_append] at h5
  have h2_5:=e5.at h2_4
  have d5:=e5.at d4
  have e05:=e2.trans (e3.trans (e4.trans e5))
  generalize hv'.map (·.1)++kv.map (·.1)=cs at h5
  clear h2_4 d4 h3_4 h4
  simp! only [and_true]
  refine for_lst (xs:=cs.map V.int) (fun i σ H'=>∃ v3:Option V,σ=[some (.ref W),some (.ref d),some (.ref hh),v3]∧H'=H5) ⟨none,rfl,rfl⟩ (fun i σ H' _ ⟨_,_,e⟩=>by rw [e];exact h5) ?_ ?_
  ·rintro i x _ _ hx ⟨v3,rfl,rfl⟩
   rw [List.getElem?_map] at hx
   obtain ⟨c,_,rfl⟩:=Option.map_eq_some_iff.mp hx
   have g1:((lookI hv' c).map V.int).getD (.int c)=.int (rdS hv' c):=by unfold rdS;cases lookI hv' c<;>rfl
   have g2:((lookI kv c).map V.int).getD (.int c)=.int (fhat kv c):=by unfold fhat;cases lookI kv c<;>rfl
   clear hx k
   by_cases hc:c=-1
   ·subst hc
    simp! only [and_true]
    exact ⟨_,rfl⟩
   ·have hv:=hval () c hc
    simp! only [and_true]
    refine use_ge0 h2_5 ?_
    simp! only [and_true]
    refine use_ge (k:=.inl c) h2_5 ?_
    rw [val_tab,g1,hv]
    simp! only [and_true]
    refine use_ge0 d5 ?_
    simp! only [and_true]
    refine use_ge (k:=.inl c) d5 ?_
    rw [val_tab,g2]
    simp! only [and_true]
    exact ⟨_,rfl⟩
  ·rintro _ _ ⟨v3,rfl,rfl⟩
   have k':=k () _ e05
   clear k
   simp! only [and_true]
def fewP:Nat->List (List (Int × Int))
 | 0=>[[]]
 | i+1=>fewP i++(fewP i).flatMap fun kv=>[0,1,2].map fun v=>kv++[((i:Int),v)]
def stI (s:List Int) (f:Nat) (j:Nat):List (List Int):=(List.range j).filterMap fun l=>if s.getD f 0=s.getD l 0 then none else some (s.take l++s.getD f 0::s.drop (l+1))
def stF (s:List Int):List (List Int):=(List.range 4).flatMap fun f=>stI s f 4
def vsF (acc:List (List Int) × List (List Int)) (o:List Int):List (List Int) × List (List Int):=if o∈acc.1 then acc else (acc.1++[o],acc.2++[o])
def lvF:Nat->List (List Int) × List (List Int)
 | 0=>([[0,1,2,3]],[[0,1,2,3]])
 | n+1=>((lvF n).2.flatMap stF).foldl vsF ((lvF n).1,[])
def ringB (kv:List (Int × Int)):List Int->Bool
 | [a,b]=>lookI kv a == some b && lookI kv b == some a
 | [a,b,c]=>lookI kv a == some b && lookI kv b == some c && lookI kv c == some a
 | _=>false
def candR:List (List Int):=[[0,1],[0,2],[1,2],[0,1,2],[0,2,1]]
def fewL (kv:List (Int × Int)):List (List Int × Bool):=(candR.filter (ringB kv)).map fun l=>(l,bareB (lookI kv) (kv.map (·.1)) l)
def fewN (kv:List (Int × Int)):Nat:=wrN kv+((fewL kv).filter (·.2)).length
def due3 (kv:List (Int × Int)):List Int:=[fhat kv 0,fhat kv 1,fhat kv 2]
def dc (n:Nat):List Int:=[((n / 64:Nat):Int),((n / 16 % 4:Nat):Int),((n / 4 % 4:Nat):Int),((n % 4:Nat):Int)]
def lc0:List Nat:=[27]
def lc1:List Nat:=[11,19,24,91,23,25,155,43,26,219,59,31]
def lc2:List Nat:=[3,8,139,10,203,15,16,83,17,211,51,88,20,152,40,87,89,107,90,123,95,7,21,215,55,9,153,41,171,154,151,187,159,35,42,235,47,18,22,251,223,217,218,56,63,58,28,29]
def lc3:List Nat:=[0,195,136,138,131,143,2,207,200,202,12,80,81,67,115,1,243,209,208,48,84,104,72,4,168,148,144,32,85,119,105,103,106,111,86,121,127,122,93,71,5,199,247,213,52,53,137,73,169,149,33,37,170,175,150,167,183,186,191,158,157,163,34,227,239,234,44,46,82,146,6,38,255,250,221,249,233,222,214,248,60,184,50,62,92,220,13,61]
theorem lv0:lvF 0=(lc0.map dc,lc0.map dc):=by decide +kernel
theorem lv1:lvF 1=((lc0++lc1).map dc,lc1.map dc):=by
 show ((lvF 0).2.flatMap stF).foldl vsF ((lvF 0).1,[])=_
 rw [lv0]
 decide +kernel
theorem lv2:lvF 2=((lc0++lc1++lc2).map dc,lc2.map dc):=by
 show ((lvF 1).2.flatMap stF).foldl vsF ((lvF 1).1,[])=_
 rw [lv1]
 decide +kernel
theorem lv3:lvF 3=((lc0++lc1++lc2++lc3).map dc,lc3.map dc):=by
 show ((lvF 2).2.flatMap stF).foldl vsF ((lvF 2).1,[])=_
 rw [lv2]
 decide +kernel
def lcS (n:Nat):List (List Int):=[lc0.map dc,lc1.map dc,lc2.map dc,lc3.map dc].getD n []
theorem lv_lc {n:Nat}(h:n≤3):(lvF n).2=lcS n:=by
 match n,h with
 | 0,_=>rw [lv0];rfl
 | 1,_=>rw [lv1];rfl
 | 2,_=>rw [lv2];rfl
 | 3,_=>rw [lv3];rfl
def nx4:List (List Int):=(lc3.map dc).flatMap stF |>.filter fun s=>!decide (s∈(lc0++lc1++lc2++lc3).map dc)
def fewC (kv:List (Int × Int)):Bool:=decide (fewN kv≤4) && (if fewN kv=4 then nx4 else lcS (fewN kv)).any (fun s=>s.take 3=due3 kv) && (List.range (fewN kv)).all (fun j=>(lcS j).all fun s=>!decide (s.take 3=due3 kv)) && decide ((fewL kv).length≤1) && (kv.all fun p=>decide (p.1∈[(0:Int),1,2]) && decide (0≤p.2)) && decide ((kv.map (·.1)).Nodup) && decide (kv.length≤3)
theorem few_all:(fewP 3).all fewC=true:=by decide +kernel
theorem vs_keep {o:List Int}:∀ (l:List (List Int)) (acc:List (List Int) × List (List Int)),o∈acc.2->o∈(l.foldl vsF acc).2
 | [],_,h=>h
 | x::l,acc,h=>vs_keep l _ (by
  unfold vsF
  by_cases e:x∈acc.1
  ·rw [if_pos e];exact h
  ·rw [if_neg e];exact List.mem_append_left _ h)
theorem vs_new {o:List Int}:∀ (l:List (List Int)) (acc:List (List Int) × List (List Int)),o∈l->o ∉ acc.1->o∈(l.foldl vsF acc).2
 | x::l,acc,h,hn=>by
  by_cases e:o=x
  ·subst e
   refine vs_keep l _ ?_
   unfold vsF
   rw [if_neg hn]
   exact List.mem_append_right _ List.mem_cons_self
  ·refine vs_new l _ ((List.mem_cons.mp h).resolve_left e) ?_
   unfold vsF
   by_cases e2:x∈acc.1
   ·rw [if_pos e2];exact hn
   ·rw [if_neg e2]
    intro m
    rcases List.mem_append.mp m with m|m
    ·exact hn m
    ·exact e (List.mem_singleton.mp m)
theorem vs_of {P:List Int->Prop}:∀ (l:List (List Int)) (acc:List (List Int) × List (List Int)),(∀ o∈l,P o)->(∀ o∈acc.1,P o)->(∀ o∈acc.2,P o)->(∀ o∈(l.foldl vsF acc).1,P o)∧∀ o∈(l.foldl vsF acc).2,P o
 | [],_,_,h1,h2=>⟨h1,h2⟩
 | x::l,acc,h,h1,h2=>by
  have hx:=h x List.mem_cons_self
  refine vs_of l _ (fun o ho=>h o (List.mem_cons_of_mem _ ho)) ?_ ?_
  ·unfold vsF
   by_cases e:x∈acc.1
   ·rw [if_pos e];exact h1
   ·rw [if_neg e]
    intro o ho
    rcases List.mem_append.mp ho with m|m
    ·exact h1 o m
    ·rw [List.mem_singleton.mp m];exact hx
  ·unfold vsF
   by_cases e:x∈acc.1
   ·rw [if_pos e];exact h2
   ·rw [if_neg e]
    intro o ho
    rcases List.mem_append.mp ho with m|m
    ·exact h2 o m
    ·rw [List.mem_singleton.mp m];exact hx
theorem vs_len:∀ (l:List (List Int)) (acc:List (List Int) × List (List Int)),(l.foldl vsF acc).1.length≤acc.1.length+l.length∧(l.foldl vsF acc).2.length≤acc.2.length+l.length
 | [],_=>⟨Nat.le_refl _,Nat.le_refl _⟩
 | x::l,acc=>by
  have h:=vs_len l (vsF acc x)
  have h1:(vsF acc x).1.length≤acc.1.length+1∧(vsF acc x).2.length≤acc.2.length+1:=by
   unfold vsF
   by_cases e:x∈acc.1
   ·rw [if_pos e];omega
   ·rw [if_neg e];simp
  rw [List.foldl_cons,List.length_cons]
  omega
theorem st_four {s o:List Int}(h:s.length=4) (ho:o∈stF s):o.length=4:=by
 unfold stF stI at ho
 obtain ⟨f,_,hf⟩:=List.mem_flatMap.mp ho
 obtain ⟨l,hl,e⟩:=List.mem_filterMap.mp hf
 have hl':=List.mem_range.mp hl
 by_cases c:s.getD f 0=s.getD l 0
 ·rw [if_pos c] at e;cases e
 ·rw [if_neg c] at e
  cases e
  simp [h]
  omega
theorem lv_four:∀ n,(∀ o∈(lvF n).1,o.length=4)∧∀ o∈(lvF n).2,o.length=4
 | 0=>by
  have h:lvF 0=([[0,1,2,3]],[[0,1,2,3]]):=rfl
  rw [h]
  constructor<;>(intro o ho;rw [List.mem_singleton.mp ho];rfl)
 | n+1=>by
  have ih:=lv_four n
  refine vs_of _ _ (fun o ho=>?_) ih.1 (fun _ h=>absurd h List.not_mem_nil)
  obtain ⟨s,hs,h⟩:=List.mem_flatMap.mp ho
  exact st_four (ih.2 s hs) h
theorem lv_sz {n:Nat}(h:n≤3):(lvF n).1.length+((lvF n).2.flatMap stF).length≤2000∧(lvF n).2.length≤2000:=by
 match n,h with
 | 0,_=>rw [lv0];decide +kernel
 | 1,_=>rw [lv1];decide +kernel
 | 2,_=>rw [lv2];decide +kernel
 | 3,_=>rw [lv3];decide +kernel
theorem lv_sz2 {n:Nat}(h:n≤4):(lvF n).2.length≤2000:=by
 rcases Nat.lt_or_ge n 4 with h1|h1
 ·exact (lv_sz (by omega)).2
 ·obtain rfl:n=4:=by omega
  have:=(vs_len ((lvF 3).2.flatMap stF) ((lvF 3).1,[])).2
  have h2:=(lv_sz (n:=3) (by omega)).1
  show (((lvF 3).2.flatMap stF).foldl vsF ((lvF 3).1,[])).2.length≤2000
  simp only [List.length_nil] at this
  omega
def LvOk (kv:List (Int × Int)) (n:Nat):Prop:=n≤4∧(∃ s∈(lvF n).2,s.take 3=due3 kv)∧∀ j,j < n->∀ s∈(lvF j).2,s.take 3 ≠ due3 kv
structure FewOk (kv:List (Int × Int)):Prop where
 lv:LvOk kv (fewN kv)
 one:(fewL kv).length≤1
 key:∀ p∈kv,p.1∈[(0:Int),1,2]∧0≤p.2
 nd:(kv.map (·.1)).Nodup
 len:kv.length≤3
theorem few_ok {kv:List (Int × Int)}(h:kv∈fewP 3):FewOk kv:=by
 have:=List.all_eq_true.mp few_all kv h
 unfold fewC at this
 simp only [Bool.and_eq_true,decide_eq_true_eq] at this
 obtain ⟨⟨⟨⟨⟨⟨h4,ha⟩,hb⟩,h1⟩,hk⟩,hn⟩,h3⟩:=this
 refine ⟨⟨h4,?_,fun j hj s hs=>?_⟩,h1,fun p hp=>?_,hn,h3⟩
 ·obtain ⟨s,hs,e⟩:=List.any_eq_true.mp ha
  refine ⟨s,?_,of_decide_eq_true e⟩
  by_cases c:fewN kv=4
  ·rw [if_pos c] at hs
   rw [c]
   unfold nx4 at hs
   obtain ⟨m1,m2⟩:=List.mem_filter.mp hs
   show s∈(((lvF 3).2.flatMap stF).foldl vsF ((lvF 3).1,[])).2
   rw [lv3]
   exact vs_new _ _ m1 (by simpa using m2)
  ·rw [if_neg c] at hs
   rw [lv_lc (by omega)]
   exact hs
 ·have:=List.all_eq_true.mp hb j (List.mem_range.mpr hj)
  rw [lv_lc (by omega)] at hs
  have h2:=List.all_eq_true.mp this s hs
  simpa using h2
 ·have:=List.all_eq_true.mp hk p hp
  simpa using this
theorem fewP_key:∀ {i:Nat}{kv:List (Int × Int)},kv∈fewP i->∀ p∈kv,p.1 < i
 | 0,kv,h,p,hp=>by rw [List.mem_singleton.mp h] at hp;cases hp
 | i+1,kv,h,p,hp=>by
  unfold fewP at h
  rcases List.mem_append.mp h with h|h
  ·have:=fewP_key h p hp
   omega
  ·obtain ⟨kv0,h0,h1⟩:=List.mem_flatMap.mp h
   obtain ⟨v,_,rfl⟩:=List.mem_map.mp h1
   rcases List.mem_append.mp hp with m|m
   ·have:=fewP_key h0 p m
    omega
   ·rw [List.mem_singleton.mp m]
    show (i:Int) < _
    omega
theorem fewP_skip {i:Nat}{kv:List (Int × Int)}(h:kv∈fewP i):kv∈fewP (i+1):=by unfold fewP;exact List.mem_append_left _ h
theorem fewP_put {i:Nat}{kv:List (Int × Int)}(h:kv∈fewP i){v:Int}(hv:v∈[(0:Int),1,2]):kv++[((i:Int),v)]∈fewP (i+1):=by
 unfold fewP
 exact List.mem_append_right _ (List.mem_flatMap.mpr ⟨kv,h,List.mem_map.mpr ⟨v,hv,rfl⟩⟩)
theorem few_look {kv:List (Int × Int)}(h:FewOk kv){c e:Int}(hl:lookI kv c=some e):c∈[(0:Int),1,2]∧0≤e:=h.key (c,e) (look_mem hl)
theorem few_rings {kv:List (Int × Int)}(h:FewOk kv):RingsOf (lookI kv) (kv.map (·.1)) (fewL kv):=by
 refine ⟨?_,fun p hp=>?_,fun l hl=>?_⟩
 ·have:=h.one
  match fewL kv,this with
  | [],_=>exact .nil
  | [x],_=>exact List.pairwise_singleton _ _
 ·unfold fewL at hp
  obtain ⟨l,hl,rfl⟩:=List.mem_map.mp hp
  obtain ⟨hc,hr⟩:=List.mem_filter.mp hl
  refine ⟨?_,rfl⟩
  show RingL (lookI kv) l
  unfold candR at hc
  simp only [List.mem_cons,List.not_mem_nil,or_false] at hc
  rcases hc with rfl|rfl|rfl|rfl|rfl<;>(simp [ringB] at hr;refine ⟨⟨_,_,rfl,?_,by decide⟩,by decide,by decide⟩)
  ·exact ⟨hr.1,hr.2⟩
  ·exact ⟨hr.1,hr.2⟩
  ·exact ⟨hr.1,hr.2⟩
  ·exact ⟨hr.1.1,hr.1.2,hr.2⟩
  ·exact ⟨hr.1.1,hr.1.2,hr.2⟩
 ·obtain ⟨hr,h2,hm⟩:=hl
  have hin:∀ x∈l,x∈[(0:Int),1,2]:=fun x hx=>by
   obtain ⟨d,hd,_⟩:=hr.mem hx
   exact (few_look h hd).1
  have h3:=nd_len hr.nodup hin
  obtain ⟨c,t,rfl,hp,hn⟩:=hr
  have go:∀ l:List Int,l∈candR->ringB kv l=true->∃ b,(l,b)∈fewL kv:=fun l h1 h2=>⟨_,List.mem_map.mpr ⟨l,List.mem_filter.mpr ⟨h1,h2⟩,rfl⟩⟩
  match t,hp,hn,h2,hm,hin,h3 with
  | [],_,_,h2,_,_,_=>simp at h2
  | [b],hp,hn,_,hm,hin,_=>
   refine go _ ?_ (by simp [ringB,hp.1,show lookI kv b=some c from hp.2])
   have i1:=hin c (by simp)
   have i2:=hin b (by simp)
   have m1:=hm b (by simp)
   simp only [List.mem_cons,List.not_mem_nil,or_false] at i1 i2
   rcases i1 with rfl|rfl|rfl<;>rcases i2 with rfl|rfl|rfl<;>first|(exact absurd hn (by decide))|(exact absurd m1 (by decide))|decide
  | [b,d],hp,hn,_,hm,hin,_=>
   refine go _ ?_ (by simp [ringB,hp.1,hp.2.1,show lookI kv d=some c from hp.2.2])
   have i1:=hin c (by simp)
   have i2:=hin b (by simp)
   have i3:=hin d (by simp)
   have m1:=hm b (by simp)
   have m2:=hm d (by simp)
   simp only [List.mem_cons,List.not_mem_nil,or_false] at i1 i2 i3
   rcases i1 with rfl|rfl|rfl<;>rcases i2 with rfl|rfl|rfl<;>rcases i3 with rfl|rfl|rfl<;>first|(exact absurd hn (by decide))|(exact absurd m1 (by decide))|(exact absurd m2 (by decide))|decide
  | b::d::e::t,_,_,_,_,_,h3=>simp at h3
theorem fewP_len:∀ {i:Nat}{kv:List (Int × Int)},kv∈fewP i->kv.length≤i
 | 0,kv,h=>by rw [List.mem_singleton.mp h];exact Nat.le_refl _
 | i+1,kv,h=>by
  unfold fewP at h
  rcases List.mem_append.mp h with h|h
  ·have:=fewP_len h
   omega
  ·obtain ⟨kv0,h0,h1⟩:=List.mem_flatMap.mp h
   obtain ⟨v,_,rfl⟩:=List.mem_map.mp h1
   have:=fewP_len h0
   simp
   omega
abbrev B_spFew (K:PySem.W.Frag) (a:Addr) (ns:List Int) (p:Addr) (H:Hp) (Q:VK) (E:XK):Prop:=p=a∧SqL K H a (ns.map V.int)∧ns.length≤63∧∀ (kv:List (Int × Int)) (r:Addr) (H':Hp),kv∈fewP 3->H r=none->Ext H H'->H' r=some (.dK (tabI kv))->Q (.ref r) H'
def spFew (K:PySem.W.Frag) (a:Addr) (ns:List Int):Sp:=fun vs H Q E=>∃ (p:Addr),vs=[.ref p]∧(B_spFew K a ns p H Q E)
theorem c_spFew (K:PySem.W.Frag) (a:Addr) (ns:List Int) (p:Addr) (H:Hp) (Q:VK) (E:XK):spFew K a ns [.ref p] H Q E=(B_spFew K a ns p H Q E):=spx1 (f:=fun (p:Addr)=>[.ref p]) (fun _ _ h=>by cases h;exact rfl) p
theorem l_spFew (K:PySem.W.Frag) (a:Addr) (ns:List Int){vs:List V}{H:Hp}{Q:VK}{E:XK}(h:spFew K a ns vs H Q E):vs.length=1:=spl1 h fun _=>rfl
theorem ok__law_few (T:Tx K mg t) (a:Addr) (ns:List Int):FnOk P w K mg base CX0 2 t.a__law_few t.d__law_few ["_law_script"] (spFew K a ns):=by
 have G__law_draw:=ok__law_draw (P:=P) (w:=w) (base:=base) T a ns
 refine T.F__law_few.ok c__law_few (fun vs H Q E h=>l_spFew _ _ _ h) (fun cdv A outer s H vs Q E hr h=>?_)
 ·obtain ⟨_,rfl,rfl,hS,hl,kk⟩:=h
  rename_i a
  refine ⟨_,(@pss_cons _ _ _ _ _ (@ps_set _ _ (1) _ _ _ _ c__law_few.nd rfl (Or.inl rfl) (@pe_nDNew _ _) (by rfl) (by trivial)) (@pss_cons _ _ _ _ _ (@ps_set _ _ (2) _ _ _ _ c__law_few.nd rfl (Or.inl rfl) (@pe_call _ _ _ _ _ _ _ _ _ _ _ _ _ _ _ _ G__law_draw (hr.mono (by decide)) (by rfl) T.m__law_draw T.F__law_draw.kp T.b__law_draw .nil pass0 (@pa_c _ _ _ _ _ (@pvN _ 0 _ _ (by rfl) (by trivial) (by decide) (by decide)) (@pa_c _ _ _ _ _ (@pe_int _ _ _ _) (@pa_c _ _ _ _ _ (@pe_op _ _ _ _ _ _ _ _ on_pow (@pe_int _ _ _ _) (@pe_int _ _ _ _)) (@pa_nil _) (by rfl)) (by rfl)) (by rfl)) (by decide) (by rfl) (by rfl)) (by rfl) (by trivial)) (@pss_cons _ _ _ _ _ (@ps_for _ _ _ _ _ _ _ _ PassesOwn.never rfl (@pi_range1 _ _ _ _ _ _ (by rfl) T.z_range (@pa_c _ _ _ _ _ (@pe_int _ _ _ _) (@pa_nil _) (by rfl)) (by rfl)) (@pg_name _ _ (3) _ c__law_few.nd rfl (Or.inl rfl) (by trivial)) (@pss_cons _ _ _ _ _ (@ps_if _ _ _ _ _ _ _ _ (@pt_cmpRN _ _ _ _ _ _ _ _ on_gt (@pe_op _ _ _ _ _ _ _ _ on_mod (@pvN _ 2 _ _ (by rfl) (by trivial) (by decide) (by decide)) (@pe_int _ _ _ _)) (@pe_int _ _ _ _) (nomark _)) (@pss_one _ _ _ (@ps_dput _ _ _ _ _ _ _ _ _ (units1 hr.units) (@pvN _ 1 _ _ (by rfl) (by trivial) (by decide) (by decide)) (@pvN _ 3 _ _ (by rfl) (by trivial) (by decide) (by decide)) (@pe_ix _ _ _ _ _ _ _ ix_q (@pe_qLst _ _ _ _ (@pa_c _ _ _ _ _ (@pvN _ 3 _ _ (by rfl) (by trivial) (by decide) (by decide)) (@pa_c _ _ _ _ _ (@pe_int _ _ _ _) (@pa_c _ _ _ _ _ (@pe_int _ _ _ _) (@pa_c _ _ _ _ _ (@pe_int _ _ _ _) (@pa_c _ _ _ _ _ (@pe_op _ _ _ _ _ _ _ _ on_mod (@pe_op _ _ _ _ _ _ _ _ on_add (@pvN _ 3 _ _ (by rfl) (by trivial) (by decide) (by decide)) (@pe_int _ _ _ _)) (@pe_int _ _ _ _)) (@pa_nil _) (by rfl)) (by rfl)) (by rfl)) (by rfl)) (by rfl))) (@pe_op _ _ _ _ _ _ _ _ on_mod (@pvN _ 2 _ _ (by rfl) (by trivial) (by decide) (by decide)) (@pe_int _ _ _ _)) (fun _ _=>rfl)) rfl)) (@pss_nil _)) (@pss_one _ _ _ (@ps_set _ _ (2) _ _ _ _ c__law_few.nd rfl (Or.inl rfl) (@pe_op _ _ _ _ _ _ _ _ on_fdiv (@pvN _ 2 _ _ (by rfl) (by trivial) (by decide) (by decide)) (@pe_int _ _ _ _)) (by rfl) (by trivial)))) (by intros;rfl)) (@pss_one _ _ _ (@ps_ret _ _ _ _ (@pvN _ 1 _ _ (by rfl) (by trivial) (by decide) (by decide))))))),?_⟩
  rw [show start ["_law_script", "_law_found_here", "_law_cell", "_law_k"] [.ref a]=[some (.ref a),none,none,none] from rfl]
  clear G__law_draw
  replace kk:=fun (_:Unit)=>kk
  simp! only [and_true]
  intro d H1 hd1 e1 h1
  have hS1:=e1.2 K a _ hS
  simp! only [and_true]
  rw [c_spDraw]
  refine ⟨hS1,hl,⟨by omega,by omega⟩,by decide,fun z z0 z1=>?_⟩
  have f0:([]:List (Int × Int))∈fewP 0:=List.mem_singleton.mpr rfl
  simp! only [and_true]
  refine for_rng (fun i σ H'=>∃ (c:Int) (v3:Option V) (kv:List (Int × Int)),σ=[some (.ref a),some (.ref d),some (.int c),v3]∧0≤c∧Ext H H'∧H' d=some (.dK (tabI kv))∧kv∈fewP i) ⟨z,none,[],rfl,z0,e1,h1,f0⟩ ?_ ?_
  ·rintro i _ H3 hi ⟨c,v3,kv,rfl,hc,e3,d3,hk⟩
   have hc5:0≤c % 5∧c % 5 < 5:=⟨Int.emod_nonneg _ (by decide),Int.emod_lt_of_pos _ (by decide)⟩
   have hc6:0≤c / 5:=Int.ediv_nonneg hc (by decide)
   have hi3:i < 3:=by omega
   clear h1 hS1 f0 z0 z1 hi
   replace hk:=fun (_:Unit)=>hk
   simp only [Int.zero_add]
   by_cases h5:0 < c % 5
   ·have hno:lookI kv (i:Int)=none:=look_none.mpr fun m=>by
     obtain ⟨p,hp,e⟩:=List.mem_map.mp m
     have:=fewP_key (hk ()) p hp
     omega
    have hl5:(tabI kv).length < sizeLine:=lt5000 (by rw [tab_len];have:=fewP_len (hk ());omega)
    simp! only [and_true]
    intro q H4 hq e4 h4
    have d4:=e4.at d3
    have e34:=e3.trans e4
    clear d3
    simp! only [and_true]
    refine optK_ints (fun j=>j∈[(0:Int),1,2]) hc5.1 (by simpa using hc5.2) (fun v hv=>?_) fun j hj=>?_
    ·simp only [List.mem_cons,List.not_mem_nil,or_false] at hv
     have h3:0≤((i:Int)+1) % 3∧((i:Int)+1) % 3 < 3:=⟨Int.emod_nonneg _ (by decide),Int.emod_lt_of_pos _ (by decide)⟩
     rcases hv with rfl|rfl|rfl|rfl|rfl
     ·exact ⟨_,rfl,by simp;omega⟩
     ·exact ⟨_,rfl,by simp⟩
     ·exact ⟨_,rfl,by simp⟩
     ·exact ⟨_,rfl,by simp⟩
     ·exact ⟨_,rfl,by simp;omega⟩
    ·have hput:=fewP_put (hk ()) hj
     replace hput:=fun (_:Unit)=>hput
     clear hj
     simp! only [and_true]
     refine use_dp (k:=.inl (i:Int)) d4 hl5 ?_
     rw [put_tab _ hno]
     simp! only [and_true]
     exact ⟨_,_,_,rfl,hc6,e34.put hd1,rfl,hput ()⟩
   ·simp! only [and_true]
    exact ⟨_,_,kv,rfl,hc6,e3,rfl,fewP_skip (hk ())⟩
  ·rintro _ H3 ⟨c,v3,kv,rfl,hc,e3,d3,hk⟩
   have k':=kk () kv d H3 hk hd1 e3 d3
   clear kk h1 hS1 f0
   simp! only [and_true]
theorem kns_take {xs:List V}{n:Int}{H:Hp}{Q:VK}(h0:0≤n) (h1:n < xs.length) (q:newK (.tup (xs.take n.toNat)) H Q):kNST none (some n) H Q xs:=by
 obtain ⟨k,rfl⟩:=Int.eq_ofNat_of_zero_le h0
 refine ⟨fun e=>?_,?_⟩
 ·have:=e.2
  rw [HT.sIx_nat] at this
  omega
 ·rw [cut_none xs _ h0]
  exact q
theorem kns_drop {xs:List V}{n:Int}{H:Hp}{Q:VK}(h0:1≤n) (h1:n≤xs.length) (q:newK (.tup (xs.drop n.toNat)) H Q):kNST (some n) none H Q xs:=by
 obtain ⟨k,rfl⟩:=Int.eq_ofNat_of_zero_le (show 0≤n by omega)
 refine ⟨fun e=>?_,?_⟩
 ·have:=e.1
  rw [HT.sIx_nat] at this
  omega
 ·rw [cut_some xs _ (show (0:Int)≤(k:Int) by omega)]
  exact q
def tsR (s:List Int) (y:V) (H:Hp):Prop:=∃ q,y=.ref q∧H q=some (.tup (s.map V.int))
theorem tsR.ext {s:List Int}{y:V}{H H':Hp}(h:tsR s y H) (e:Ext H H'):tsR s y H':=by
 obtain ⟨q,h1,h2⟩:=h
 exact ⟨q,h1,e.at h2⟩
theorem tsR.upd {s:List Int}{y:V}{H:Hp}{r:Addr}{xs ys:List V}(h:tsR s y H) (hr:H r=some (.lst xs)):tsR s y (upd H r (.lst ys)):=by
 obtain ⟨q,h1,h2⟩:=h
 exact ⟨q,h1,by rw [upd_ne fun z=>by rw [z,hr] at h2;cases h2];exact h2⟩
theorem tsR.updD {s:List Int}{y:V}{H:Hp}{r:Addr}{xs ys:List (List Key × V)}(h:tsR s y H) (hr:H r=some (.dT xs)):tsR s y (L2.upd H r (.dT ys)):=by
 obtain ⟨q,h1,h2⟩:=h
 exact ⟨q,h1,by rw [upd_ne fun z=>by rw [z,hr] at h2;cases h2];exact h2⟩
def TsL (H:Hp) (r:Addr) (L:List (List Int)):Prop:=∃ ys,H r=some (.lst ys)∧Al (fun p y=>tsR p y H) L ys
theorem TsL.ext {H H':Hp}{r:Addr}{L:List (List Int)}(h:TsL H r L) (e:Ext H H'):TsL H' r L:=by
 obtain ⟨ys,h1,h2⟩:=h
 exact ⟨ys,e.at h1,h2.imp fun _ _ q=>q.ext e⟩
theorem st_succ (s:List Int) (f j:Nat):stI s f (j+1)=stI s f j++if s.getD f 0=s.getD j 0 then [] else [s.take j++s.getD f 0::s.drop (j+1)]:=by
 unfold stI
 rw [List.range_succ,List.filterMap_append]
 by_cases e:s.getD f 0=s.getD j 0
 ·rw [if_pos e,List.filterMap_cons,if_pos e];rfl
 ·rw [if_neg e,List.filterMap_cons,if_neg e];rfl
theorem st_len (s:List Int) (f j:Nat):(stI s f j).length≤j:=by
 unfold stI
 have:=List.length_filterMap_le (fun l=>if s.getD f 0=s.getD l 0 then none else some (s.take l++s.getD f 0::s.drop (l+1))) (List.range j)
 simpa using this
theorem st_len2 (s:List Int):∀ i:Nat,((List.range i).flatMap fun f=>stI s f 4).length≤4 * i
 | 0=>Nat.zero_le _
 | i+1=>by
  have:=st_len2 s i
  have:=st_len s i 4
  rw [List.range_succ,List.flatMap_append,List.length_append,List.flatMap_cons,List.flatMap_nil,List.append_nil]
  omega
theorem at_getD {s:List Int}{i:Nat}(h:i < s.length):atI (s.map V.int) (i:Int)=some (.int (s.getD i 0)):=by
 exact atI_nat (by rw [List.getElem?_map,List.getElem?_eq_getElem h,List.getD_eq_getElem?_getD,List.getElem?_eq_getElem h];rfl)
abbrev B_spSt  (q:Addr) (H:Hp) (Q:VK) (E:XK):Prop:=∃ s:List Int,H q=some (.tup (s.map V.int))∧s.length=4∧∀ (r:Addr) (H':Hp),H r=none->Ext H H'->TsL H' r (stF s)->Q (.ref r) H'
def spSt  : Sp:=fun vs H Q E=>∃ (q:Addr),vs=[.ref q]∧(B_spSt  q H Q E)
theorem c_spSt  (q:Addr) (H:Hp) (Q:VK) (E:XK):spSt  [.ref q] H Q E=(B_spSt  q H Q E):=spx1 (f:=fun (q:Addr)=>[.ref q]) (fun _ _ h=>by cases h;exact rfl) q
theorem l_spSt  {vs:List V}{H:Hp}{Q:VK}{E:XK}(h:spSt  vs H Q E):vs.length=1:=spl1 h fun _=>rfl
theorem ok__law_steps (T:Tx K mg t):FnOk P w K mg base CX0 1 t.a__law_steps t.d__law_steps ["_law_state"] spSt:=by
 refine T.F__law_steps.ok c__law_steps (fun vs H Q E h=>l_spSt h) (fun cdv A outer s' H vs Q E hr h=>?_)
 ·obtain ⟨q,rfl,s,hq,h4,kk⟩:=h
  refine ⟨_,(@pss_cons _ _ _ _ _ (@ps_set _ _ (1) _ _ _ _ c__law_steps.nd rfl (Or.inl rfl) (@pe_qLst _ _ _ _ (@pa_nil _)) (by rfl) (by trivial)) (@pss_cons _ _ _ _ _ (@ps_for _ _ _ _ _ _ _ _ PassesOwn.never rfl (@pi_range1 _ _ _ _ _ _ (by rfl) T.z_range (@pa_c _ _ _ _ _ (@pe_int _ _ _ _) (@pa_nil _) (by rfl)) (by rfl)) (@pg_name _ _ (2) _ c__law_steps.nd rfl (Or.inl rfl) (by trivial)) (@pss_one _ _ _ (@ps_for _ _ _ _ _ _ _ _ PassesOwn.never rfl (@pi_range1 _ _ _ _ _ _ (by rfl) T.z_range (@pa_c _ _ _ _ _ (@pe_int _ _ _ _) (@pa_nil _) (by rfl)) (by rfl)) (@pg_name _ _ (3) _ c__law_steps.nd rfl (Or.inl rfl) (by trivial)) (@pss_one _ _ _ (@ps_if _ _ _ _ _ _ _ _ (@pt_cmpRN _ _ _ _ _ _ _ _ (op_qNe hr.units) (@pe_ix _ _ _ _ _ _ _ ix_q (@pvN _ 0 _ _ (by rfl) (by trivial) (by decide) (by decide)) (@pvN _ 2 _ _ (by rfl) (by trivial) (by decide) (by decide)) (fun _ _=>rfl)) (@pe_ix _ _ _ _ _ _ _ ix_q (@pvN _ 0 _ _ (by rfl) (by trivial) (by decide) (by decide)) (@pvN _ 3 _ _ (by rfl) (by trivial) (by decide) (by decide)) (fun _ _=>rfl)) (nomark _)) (@pss_one _ _ _ (@ps_expr _ _ _ _ (@pe_bm _ _ _ _ _ _ _ _ _ _ _ _ PySem.F.plainAttrs_list PySem.F.slot_list_append PySem.F.type_list_append mt_append (@pvN _ 1 _ _ (by rfl) (by trivial) (by decide) (by decide)) (@pa_c _ _ _ _ _ (@pe_op _ _ _ _ _ _ _ _ op_nCatT (@pe_op _ _ _ _ _ _ _ _ op_nCatT (@pe_slice _ _ _ _ _ _ _ _ _ _ sl_nT (@pvN _ 0 _ _ (by rfl) (by trivial) (by decide) (by decide)) (@po_none _) (@po_some _ _ _ (@pvN _ 3 _ _ (by rfl) (by trivial) (by decide) (by decide)))) (@pe_qTup _ _ _ _ _ (@pa_c _ _ _ _ _ (@pe_ix _ _ _ _ _ _ _ ix_q (@pvN _ 0 _ _ (by rfl) (by trivial) (by decide) (by decide)) (@pvN _ 2 _ _ (by rfl) (by trivial) (by decide) (by decide)) (fun _ _=>rfl)) (@pa_nil _) (by rfl)))) (@pe_slice _ _ _ _ _ _ _ _ _ _ sl_nT (@pvN _ 0 _ _ (by rfl) (by trivial) (by decide) (by decide)) (@po_some _ _ _ (@pe_op _ _ _ _ _ _ _ _ on_add (@pvN _ 3 _ _ (by rfl) (by trivial) (by decide) (by decide)) (@pe_int _ _ _ _))) (@po_none _))) (@pa_nil _) (by rfl)) (by rfl) (by rfl) (by rfl) (by rfl) (by rfl)) (by rfl))) (@pss_nil _))) (by intros;rfl))) (by intros;rfl)) (@pss_one _ _ _ (@ps_ret _ _ _ _ (@pvN _ 1 _ _ (by rfl) (by trivial) (by decide) (by decide)))))),?_⟩
  rw [show start ["_law_state", "_law_found_here", "_law_first", "_law_last"] [.ref q]=[some (.ref q),none,none,none] from rfl]
  replace kk:=fun (_:Unit)=>kk
  simp! only [and_true]
  intro r H1 hr1 e1 h1
  have al0:Al (fun p y=>tsR p y H1) ((List.range 0).flatMap fun f=>stI s f 4) []:=Al.nil
  simp! only [and_true]
  refine for_rng (fun i σ H'=>∃ (v2 v3:Option V) (ys:List V),σ=[some (.ref q),some (.ref r),v2,v3]∧Ext H H'∧H' r=some (.lst ys)∧Al (fun p y=>tsR p y H') ((List.range i).flatMap fun f=>stI s f 4) ys) ⟨none,none,[],rfl,e1,h1,al0⟩ ?_ ?_
  ·rintro i _ H2 hi ⟨v2,v3,ys,rfl,e2,h2,al⟩
   have hi4:i < 4:=by omega
   simp only [Int.zero_add]
   have al1:Al (fun p y=>tsR p y H2) (((List.range i).flatMap fun f=>stI s f 4)++stI s i 0) ys:=by rw [show stI s i 0=[] from rfl,List.append_nil];exact al
   clear h1 al0 al hi
   replace al1:=fun (_:Unit)=>al1
   simp! only [and_true]
   refine for_rng (fun j σ H'=>∃ (v3:Option V) (ys:List V),σ=[some (.ref q),some (.ref r),some (.int (i:Int)),v3]∧Ext H H'∧H' r=some (.lst ys)∧Al (fun p y=>tsR p y H') (((List.range i).flatMap fun f=>stI s f 4)++stI s i j) ys) ⟨v3,ys,rfl,e2,h2,al1 ()⟩ ?_ ?_
   ·rintro j _ H3 hj ⟨v3,ys,rfl,e3,h3,al⟩
    have hj4:j < 4:=by omega
    simp only [Int.zero_add]
    have q3:=e3.at hq
    have g1:=at_getD (s:=s) (i:=i) (by omega)
    have g2:=at_getD (s:=s) (i:=j) (by omega)
    have hyl:ys.length < sizeLine:=lt5000 (by have h1:=al.1;have h2:=st_len2 s i;have h3:=st_len s i j;rw [List.length_append] at h1;omega)
    clear h2 al1 hj
    replace al:=fun (_:Unit)=>al
    have hst:=st_succ s i j
    by_cases c:s.getD i 0=s.getD j 0
    ·rw [if_pos c,List.append_nil] at hst
     have al':Al (fun p y=>tsR p y H3) (((List.range i).flatMap fun f=>stI s f 4)++stI s i (j+1)) ys:=by rw [hst];exact al ()
     replace al':=fun (_:Unit)=>al'
     clear hst
     simp! only [and_true]
     exact ⟨_,ys,rfl,e3,rfl,al' ()⟩
    ·rw [if_neg c] at hst
     replace hst:=fun (_:Unit)=>hst
     simp! only [and_true]
     refine kns_take (by omega) (by rw [List.length_map];omega) ?_
     intro q4 H4 hq4 e4 h4'
     have q4_:=e4.at q3
     have h3_4:=e4.at h3
     clear q3 h3
     simp! only [and_true]
     intro q5 H5 hq5 e5 h5
     have q5_:=e5.at q4_
     have h3_5:=e5.at h3_4
     have h4_5:=e5.at h4'
     clear q4_ h3_4 h4'
     simp! only [and_true]
     refine ⟨len9 (by simp;omega),?_⟩
     intro q6 H6 e6 h6
     have q6_:=e6.at q5_
     have h3_6:=e6.at h3_5
     clear q5_ h3_5 h4_5 h5
     simp! only [and_true]
     refine kns_drop (by omega) (by rw [List.length_map];omega) ?_
     intro q7 H7 hq7 e7 h7
     have h3_7:=e7.at h3_6
     have h6_7:=e7.at h6
     clear q6_ h3_6 h6
     simp! only [and_true]
     refine ⟨len9 (by simp;omega),?_⟩
     intro q8 H8 e8 h8
     have h3_8:=e8.at h3_7
     have e38:=e4.trans (e5.trans (e6.trans (e7.trans e8)))
     have e08:=e3.trans e38
     have nqr:q8 ≠ r:=fun z=>by rw [z,h3_8] at h8;cases h8
     have h8':H8 q8=some (.tup ((s.take j++s.getD i 0::s.drop (j+1)).map V.int)):=by
      rw [h8,List.map_append,List.map_cons,List.map_take,List.map_drop,show ((j:Int)+1).toNat=j+1 by omega,show ((j:Int)).toNat=j by omega]
      simp
     have al':Al (fun p y=>tsR p y (upd H8 r (.lst (ys++[.ref q8])))) (((List.range i).flatMap fun f=>stI s f 4)++stI s i (j+1)) (ys++[.ref q8]):=by
      rw [hst (),←List.append_assoc]
      exact ((al ()).imp fun _ _ z=>(z.ext e38).upd h3_8).snoc ⟨q8,rfl,by rw [upd_ne nqr];exact h8'⟩
     replace al':=fun (_:Unit)=>al'
     clear h3_7 h6_7 h7 e4 e5 e6 e7 e8 hq4 hq5 hq7 h8 h8' nqr
     simp! only [and_true]
     exact ⟨_,_,rfl,e08.put hr1,rfl,al' ()⟩
   ·rintro _ H3 ⟨v3,ys,rfl,e3,h3,al⟩
    have al':Al (fun p y=>tsR p y H3) ((List.range (i+1)).flatMap fun f=>stI s f 4) ys:=by
     rw [List.range_succ,List.flatMap_append,List.flatMap_cons,List.flatMap_nil,List.append_nil]
     exact al
    replace al':=fun (_:Unit)=>al'
    clear al h2
    simp! only [and_true]
    exact ⟨_,_,ys,rfl,e3,rfl,al' ()⟩
  ·rintro _ H2 ⟨v2,v3,ys,rfl,e2,h2,al⟩
   have k':=kk () r H2 hr1 e2 ⟨ys,h2,al⟩
   clear kk h1 al0
   simp! only [and_true]
def kS (s:List Int):List Key:=s.map Sum.inl
def tabS (L:List (List Int)):List (List Key × V):=L.map fun s=>(kS s,V.bl true)
theorem kS_V (s:List Int):(kS s).map kV=s.map V.int:=by unfold kS;rw [List.map_map];rfl
theorem kS_inj:∀ {s t:List Int},kS s=kS t->s=t
 | [],[],_=>rfl
 | [],_::_,h=>by cases h
 | _::_,[],h=>by cases h
 | a::s,b::t,h=>by
  have h1:(Sum.inl a:Key)=Sum.inl b:=(List.cons.inj h).1
  rw [Sum.inl.inj h1,kS_inj (List.cons.inj h).2]
theorem tabS_val (L:List (List Int)) (o:List Int):(valV (tabS L) (kS o)).isSome=decide (o∈L):=by
 rw [←valV_any]
 unfold tabS
 rw [List.any_map,Bool.eq_iff_iff,List.any_eq_true,decide_eq_true_eq]
 constructor
 ·rintro ⟨x,hx,e⟩
  rw [←kS_inj (of_decide_eq_true e)]
  exact hx
 ·intro h
  exact ⟨o,h,decide_eq_true rfl⟩
theorem tabS_put {L:List (List Int)}{o:List Int}(h:o ∉ L):putK (tabS L) (kS o) (.bl true)=tabS (L++[o]):=by
 rw [putK_new _ (by have:=tabS_val L o;rw [decide_eq_false h] at this;cases hv:valV (tabS L) (kS o)<;>simp_all)]
 unfold tabS
 rw [List.map_append]
 rfl
def Cut2 (a b:Addr) (H:Hp):Hp:=fun x=>if x=a∨x=b then none else H x
theorem cut2_sub (a b:Addr) (H:Hp):Ext (Cut2 a b H) H:=Same.ext fun x o h=>by
 unfold Cut2 at h
 by_cases e:x=a∨x=b
 ·rw [if_pos e] at h;cases h
 ·rwa [if_neg e] at h
theorem cut2_at {a b x:Addr}{H:Hp}{o:HO}(h1:x ≠ a) (h2:x ≠ b) (h:H x=some o):Cut2 a b H x=some o:=by
 unfold Cut2
 rw [if_neg (by rintro (e|e);exact h1 e;exact h2 e)]
 exact h
theorem cut2_ext {a b:Addr}{B H:Hp}(e:Ext B H) (h1:B a=none) (h2:B b=none):Ext B (Cut2 a b H):=Same.ext fun x o h=>cut2_at (fun z=>by rw [z,h1] at h;cases h) (fun z=>by rw [z,h2] at h;cases h) (e.at h)
theorem cut2_a {a b:Addr}{H:Hp}:Cut2 a b H a=none:=if_pos (.inl rfl)
theorem cut2_b {a b:Addr}{H:Hp}:Cut2 a b H b=none:=if_pos (.inr rfl)
theorem TsL.cut {a b r:Addr}{H:Hp}{L:List (List Int)}{kvs:List (List Key × V)}{xs:List V}(h:TsL H r L) (ha:H a=some (.dT kvs)) (hb:H b=some (.lst xs)) (hn:r ≠ b):TsL (Cut2 a b H) r L:=by
 obtain ⟨ys,h1,h2⟩:=h
 refine ⟨ys,cut2_at (fun z=>by rw [z,ha] at h1;cases h1) hn h1,h2.imp fun _ _ ⟨q,a1,a2⟩=>⟨q,a1,cut2_at (fun z=>by rw [z,ha] at a2;cases a2) (fun z=>by rw [z,hb] at a2;cases a2) a2⟩⟩
def accP (m:Nat) (l:List (List Int)):List (List Int) × List (List Int):=l.foldl vsF ((lvF m).1,[])
theorem acc_snoc (m:Nat) (l:List (List Int)) (o:List Int):accP m (l++[o])=vsF (accP m l) o:=by unfold accP;rw [List.foldl_append];rfl
theorem acc_in {m:Nat}{l:List (List Int)}{o:List Int}(h:o∈(accP m l).1):accP m (l++[o])=accP m l:=by rw [acc_snoc];unfold vsF;rw [if_pos h]
theorem acc_out {m:Nat}{l:List (List Int)}{o:List Int}(h:o ∉ (accP m l).1):accP m (l++[o])=((accP m l).1++[o],(accP m l).2++[o]):=by rw [acc_snoc];unfold vsF;rw [if_neg h]
theorem acc_full (m:Nat):accP m ((lvF m).2.flatMap stF)=lvF (m+1):=rfl
theorem pre_len {L:List (List Int)}{i:Nat}{s:List Int}(hs:L[i]? = some s) (j:Nat):((L.take i).flatMap stF++(stF s).take j).length≤(L.flatMap stF).length:=by
 have hi:=(List.getElem?_eq_some_iff.mp hs).1
 have e:L=L.take i++s::L.drop (i+1):=by
  rw [show s=L[i] from ((List.getElem?_eq_some_iff.mp hs).2).symm,←List.drop_eq_getElem_cons hi,List.take_append_drop]
 have e2:L.flatMap stF=(L.take i).flatMap stF++(stF s++(L.drop (i+1)).flatMap stF):=by
  conv=>lhs;rw [e,List.flatMap_append,List.flatMap_cons]
 rw [e2]
 simp only [List.length_append,List.length_take]
 omega
theorem acc_len {m:Nat}(hm:m≤3){l:List (List Int)}(h:l.length≤((lvF m).2.flatMap stF).length):(accP m l).1.length≤2000∧(accP m l).2.length≤2000:=by
 have h1:=vs_len l ((lvF m).1,[])
 have h2:=(lv_sz hm).1
 unfold accP
 simp only [List.length_nil] at h1
 omega
theorem take_fl {L:List (List Int)}{i:Nat}{s:List Int}(hs:L[i]? = some s):(L.take (i+1)).flatMap stF=(L.take i).flatMap stF++stF s:=by
 rw [List.take_add_one,hs,List.flatMap_append]
 simp
theorem ext_no {H H':Hp}{x:Addr}(e:Ext H H') (h:H' x=none):H x=none:=by
 cases hx:H x with
 | none=>rfl
 | some o=>rw [e.at hx] at h;cases h
theorem opt_some {α:Type}{l:List α}{i:Nat}(h:i < l.length):∃ x,l[i]? = some x:=⟨_,List.getElem?_eq_getElem h⟩
abbrev B_spLs  (d:Addr) (H:Hp) (Q:VK) (E:XK):Prop:=∃ (kv:List (Int × Int)) (n:Nat),H d=some (.dK (tabI kv))∧LvOk kv n∧∀ H',Ext H H'->Q (.int (n:Int)) H'
def spLs  : Sp:=fun vs H Q E=>∃ (d:Addr),vs=[.ref d]∧(B_spLs  d H Q E)
theorem c_spLs  (d:Addr) (H:Hp) (Q:VK) (E:XK):spLs  [.ref d] H Q E=(B_spLs  d H Q E):=spx1 (f:=fun (d:Addr)=>[.ref d]) (fun _ _ h=>by cases h;exact rfl) d
theorem l_spLs  {vs:List V}{H:Hp}{Q:VK}{E:XK}(h:spLs  vs H Q E):vs.length=1:=spl1 h fun _=>rfl
theorem ok__law_least (T:Tx K mg t):FnOk P w K mg base CX0 2 t.a__law_least t.d__law_least ["_law_found_here"] spLs:=by
 have G__law_steps:=ok__law_steps (P:=P) (w:=w) (base:=base) T
 refine T.F__law_least.ok c__law_least (fun vs H Q E h=>l_spLs h) (fun cdv A outer s' H vs Q E hr h=>?_)
 ·obtain ⟨d,rfl,kv,n,hd,hn,kk⟩:=h
  refine ⟨_,(@pss_cons _ _ _ _ _ (@ps_set _ _ (1) _ _ _ _ c__law_least.nd rfl (Or.inr rfl) (@pe_callTy _ _ _ _ _ _ _ _ _ call_nTuple (by rfl) T.z_tuple (by decide +kernel) (@pa_c _ _ _ _ _ (@pe_comp _ _ _ _ _ _ _ _ _ _ _ (["_law_cell", "_law_found_here", "_law_due", "_law_states", "_law_seen", "_law_many", "_law_more", "_law_state", "_law_other"]) (1) (comp_ok (defScope s__law_least) ["_law_found_here", "_law_due", "_law_states", "_law_seen", "_law_many", "_law_more", "_law_state", "_law_other"] rfl rfl (by decide +kernel)) rfl (@pi_range1 _ _ _ _ _ _ (by rfl) T.z_range (@pa_c _ _ _ _ _ (@pe_int _ _ _ _) (@pa_nil _) (by rfl)) (by rfl)) (fun C s₀ H₀ ex pn=>(@pg_name _ _ (0) _ (show List.Nodup (["_law_cell", "_law_found_here", "_law_due", "_law_states", "_law_seen", "_law_many", "_law_more", "_law_state", "_law_other"]:List Str) from by decide +kernel) rfl (Or.inl rfl) (by trivial))) (fun C s₀ H₀ ex pn=>(@pts_nil _)) (fun C s₀ H₀ ex pn=>(@pe_dget2 _ _ _ _ _ _ _ _ _ (units1 hr.units) (@pvN _ 1 _ _ (by rfl) (by trivial) (by decide) (by decide)) (@pvN _ 0 _ _ (by rfl) (by trivial) (by decide) (by decide)) (@pvN _ 0 _ _ (by rfl) (by trivial) (by decide) (by decide)) ⟨by rfl,by rfl,by rfl,by rfl⟩)) (by intros;rfl)) (@pa_nil _) (by rfl)) (by decide) (by decide) (by rfl) (by rfl)) (by rfl) (by trivial)) (@pss_cons _ _ _ _ _ (@ps_set _ _ (2) _ _ _ _ c__law_least.nd rfl (Or.inl rfl) (@pe_qLst _ _ _ _ (@pa_c _ _ _ _ _ (@pe_qTup _ _ _ _ _ (@pa_c _ _ _ _ _ (@pe_int _ _ _ _) (@pa_c _ _ _ _ _ (@pe_int _ _ _ _) (@pa_c _ _ _ _ _ (@pe_int _ _ _ _) (@pa_c _ _ _ _ _ (@pe_int _ _ _ _) (@pa_nil _) (by rfl)) (by rfl)) (by rfl)) (by rfl))) (@pa_nil _) (by rfl))) (by rfl) (by trivial)) (@pss_cons _ _ _ _ _ (@ps_set _ _ (3) _ _ _ _ c__law_least.nd rfl (Or.inl rfl) (pe_nDispT (units1 hr.units) (@pe_qTup _ _ _ _ _ (@pa_c _ _ _ _ _ (@pe_int _ _ _ _) (@pa_c _ _ _ _ _ (@pe_int _ _ _ _) (@pa_c _ _ _ _ _ (@pe_int _ _ _ _) (@pa_c _ _ _ _ _ (@pe_int _ _ _ _) (@pa_nil _) (by rfl)) (by rfl)) (by rfl)) (by rfl))) (@pe_bl _ _ _ _)) (by rfl) (by trivial)) (@pss_cons _ _ _ _ _ (@ps_for _ _ _ _ _ _ _ _ PassesOwn.never rfl (@pi_range1 _ _ _ _ _ _ (by rfl) T.z_range (@pa_c _ _ _ _ _ (@pe_int _ _ _ _) (@pa_nil _) (by rfl)) (by rfl)) (@pg_name _ _ (4) _ c__law_least.nd rfl (Or.inl rfl) (by trivial)) (@pss_cons _ _ _ _ _ (@ps_if _ _ _ _ _ _ _ _ (@pt_cmpRN _ _ _ _ _ _ _ _ (op_qNe hr.units) (@pe_comp _ _ _ _ _ _ _ _ _ _ _ (["_law_state", "_law_found_here", "_law_due", "_law_states", "_law_seen", "_law_many", "_law_more", "!_law_state", "_law_other"]) (1) (comp_ok (defScope s__law_least) ["_law_found_here", "_law_due", "_law_states", "_law_seen", "_law_many", "_law_more", "_law_state", "_law_other"] rfl rfl (by decide +kernel)) rfl (@pi_seq _ _ _ _ (@pvN _ 2 _ _ (by rfl) (by trivial) (by decide) (by decide))) (fun C s₀ H₀ ex pn=>(@pg_name _ _ (0) _ (show List.Nodup (["_law_state", "_law_found_here", "_law_due", "_law_states", "_law_seen", "_law_many", "_law_more", "!_law_state", "_law_other"]:List Str) from by decide +kernel) rfl (Or.inl rfl) (by trivial))) (fun C s₀ H₀ ex pn=>(@pts_one _ _ _ (@pt_cmpRN _ _ _ _ _ _ _ _ (op_qEq hr.units) (@pe_slice _ _ _ _ _ _ _ _ _ _ sl_nT (@pvN _ 0 _ _ (by rfl) (by trivial) (by decide) (by decide)) (@po_none _) (@po_some _ _ _ (@pe_int _ _ _ _))) (@pvN _ 2 _ _ (by rfl) (by trivial) (by decide) (by decide)) (nomark _)))) (fun C s₀ H₀ ex pn=>(@pvN _ 0 _ _ (by rfl) (by trivial) (by decide) (by decide))) (by intros;rfl)) (@pe_qLst _ _ _ _ (@pa_nil _)) (nomark _)) (@pss_one _ _ _ (@ps_ret _ _ _ _ (@pvN _ 4 _ _ (by rfl) (by trivial) (by decide) (by decide)))) (@pss_nil _)) (@pss_cons _ _ _ _ _ (@ps_set _ _ (5) _ _ _ _ c__law_least.nd rfl (Or.inl rfl) (@pe_qLst _ _ _ _ (@pa_nil _)) (by rfl) (by trivial)) (@pss_cons _ _ _ _ _ (@ps_for _ _ _ _ _ _ _ _ PassesOwn.never rfl (@pi_seq _ _ _ _ (@pvN _ 2 _ _ (by rfl) (by trivial) (by decide) (by decide))) (@pg_name _ _ (6) _ c__law_least.nd rfl (Or.inl rfl) (by trivial)) (@pss_one _ _ _ (@ps_for _ _ _ _ _ _ _ _ PassesOwn.never rfl (@pi_seq _ _ _ _ (@pe_call _ _ _ _ _ _ _ _ _ _ _ _ _ _ _ _ G__law_steps (hr.mono (by decide)) (by rfl) T.m__law_steps T.F__law_steps.kp T.b__law_steps .nil pass0 (@pa_c _ _ _ _ _ (@pvN _ 6 _ _ (by rfl) (by trivial) (by decide) (by decide)) (@pa_nil _) (by rfl)) (by decide) (by rfl) (by rfl))) (@pg_name _ _ (7) _ c__law_least.nd rfl (Or.inl rfl) (by trivial)) (@pss_one _ _ _ (@ps_if _ _ _ _ _ _ _ _ (@pt_cmpRN _ _ _ _ _ _ _ _ (op_notInD (units1 hr.units)) (@pvN _ 7 _ _ (by rfl) (by trivial) (by decide) (by decide)) (@pvN _ 3 _ _ (by rfl) (by trivial) (by decide) (by decide)) (by with_unfolding_all rfl)) (@pss_cons _ _ _ _ _ (@ps_dput _ _ _ _ _ _ _ _ _ (units1 hr.units) (@pvN _ 3 _ _ (by rfl) (by trivial) (by decide) (by decide)) (@pvN _ 7 _ _ (by rfl) (by trivial) (by decide) (by decide)) (@pe_bl _ _ _ _) rfl) (@pss_one _ _ _ (@ps_expr _ _ _ _ (@pe_bm _ _ _ _ _ _ _ _ _ _ _ _ PySem.F.plainAttrs_list PySem.F.slot_list_append PySem.F.type_list_append mt_append (@pvN _ 5 _ _ (by rfl) (by trivial) (by decide) (by decide)) (@pa_c _ _ _ _ _ (@pvN _ 7 _ _ (by rfl) (by trivial) (by decide) (by decide)) (@pa_nil _) (by rfl)) (by rfl) (by rfl) (by rfl) (by rfl) (by rfl)) (by rfl)))) (@pss_nil _))) (by intros;rfl))) (by intros;rfl)) (@pss_one _ _ _ (@ps_set _ _ (2) _ _ _ _ c__law_least.nd rfl (Or.inl rfl) (@pvN _ 5 _ _ (by rfl) (by trivial) (by decide) (by decide)) (by rfl) (by trivial)))))) (by intros;rfl)) (@pss_one _ _ _ (@ps_ret _ _ _ _ (@pe_non _ _ _))))))),?_⟩
  rw [show start ["_law_found_here", "_law_due", "_law_states", "_law_seen", "_law_many", "_law_more", "_law_state", "_law_other"] [.ref d]=[some (.ref d),none,none,none,none,none,none,none] from rfl]
  clear G__law_steps
  replace kk:=fun (_:Unit)=>kk
  replace hn:=fun (_:Unit)=>hn
  simp! only [and_true]
  refine comp_fm (List.range 3) (fun _=>true) (fun j=>.int (fhat kv (j:Int))) (fun j x _=>x=.int (0+(j:Int))) wk_rng.1 (by simpa using wk_rng.2) (by decide) ?_ ?_
  ·rintro D j x H' N1 N0 hj hD e' rfl k1 k0
   have d':=e'.at hd
   have hgv:((lookI kv (j:Int)).map V.int).getD (.int (j:Int))=.int (fhat kv (j:Int)):=by unfold fhat;cases lookI kv (j:Int)<;>rfl
   simp only [Int.zero_add]
   have k1':=k1 rfl H' (Ext.refl _)
   clear k1 k0 kk
   simp! only [and_true]
   refine use_ge0 d' ?_
   simp! only [and_true]
   refine use_ge (k:=.inl (j:Int)) d' ?_
   rw [val_tab,hgv]
   simp! only [and_true]
  ·intro D1 H1 hD1 e1 h1
   have h1':H1 D1=some (.lst ((due3 kv).map V.int)):=h1
   clear h1
   generalize hdu:due3 kv=dl at *
   simp! only [and_true]
   intro du H2 hdu2 e2 h2
   have e02:=e1.trans e2
   clear h1'
   simp! only [and_true]
   intro q0 H3 hq0 e3 h3
   have u3:=e3.at h2
   clear h2
   simp! only [and_true]
   intro st0 H4 hst0 e4 h4
   have u4:=e4.at u3
   have q4:=e4.at h3
   have e04:=e02.trans (e3.trans e4)
   have ts4:TsL H4 st0 (lvF 0).2:=⟨[.ref q0],h4,(Al.nil (R:=fun p y=>tsR p y H4)).snoc (z:=[0,1,2,3]) ⟨q0,rfl,q4⟩⟩
   replace ts4:=fun (_:Unit)=>ts4
   clear u3 h3 q4 h4
   simp! only [and_true]
   intro se H5 hse e5 h5
   simp! only [and_true]
   intro q1 H6 hq1 e6 h6
   have se6:=e6.at h5
   clear h5
   simp! only [and_true]
   refine use_disp (k:=kS [0,1,2,3]) (by rw [kS_V];exact h6) se6 ?_
   have e47:Ext H4 (upd H6 se (.dT [(kS [0,1,2,3],V.bl true)])):=(e5.trans e6).put hse
   have se7:upd H6 se (.dT [(kS [0,1,2,3],V.bl true)]) se=some (.dT (tabS (lvF 0).1)):=upd_same
   generalize upd H6 se (.dT [(kS [0,1,2,3],V.bl true)])=H7 at e47 se7
   have ts7:=(ts4 ()).ext e47
   replace ts7:=fun (_:Unit)=>ts7
   clear ts4 se6 h6 hq1 e5 e6 hq0 hst0 e3 e4 hdu2 hD1 e1 e2 e02
   simp! only [and_true]
   refine for_rng (fun m σ H'=>∃ (st:Addr) (v4 v5 v6 v7:Option V),σ=[some (.ref d),some (.ref du),some (.ref st),some (.ref se),v4,v5,v6,v7]∧m≤n∧Ext H4 H'∧H' se=some (.dT (tabS (lvF m).1))∧TsL H' st (lvF m).2) ⟨st0,none,none,none,none,rfl,Nat.zero_le _,e47,se7,ts7 ()⟩ ?_ ?_
   ·rintro m _ H8 hm ⟨st,v4,v5,v6,v7,rfl,hmn,e8,se8,ts8⟩
    have u8:=e8.at u4
    simp only [Int.zero_add]
    obtain ⟨ys,st8,al8⟩:=ts8
    have four:=(lv_four m).2
    have hls:=lv_sz2 (show m≤4 by have:=(hn ()).1;omega)
    generalize hLm:(lvF m).2=Lm at *
    clear se7 ts7 hm
    replace four:=fun (_:Unit)=>four
    simp! only [and_true]
    refine comp_rel2 Lm (fun s=>decide (s.take 3=dl)) (fun s x H'=>tsR s x H') (fun _ s y H'=>tsR s y H') (wk_al (R:=fun s y H'=>tsR s y H') (fun _ _ _ _ q e=>q.ext e) st8 al8).1 (wk_al (R:=fun s y H'=>tsR s y H') (fun _ _ _ _ q e=>q.ext e) st8 al8).2 (fun D z y H1 H2 q e=>q.ext e) (fun D z y H1 xs o ⟨q,a1,a2⟩ hD=>⟨q,a1,by rw [upd_ne fun z=>by rw [z,hD] at a2;cases a2];exact a2⟩) (len5000 (by omega)) ?_ ?_
    ·rintro D s x H' N1 N0 hs hD e' _ ⟨q,rfl,hq⟩ k1 k0
     have u':=e'.at u8
     have h4s:=four () s hs
     clear al8 kk hs u8 st8 se8
     simp! only [and_true]
     refine kns_take (by decide) (by rw [List.length_map,h4s];decide) ?_
     intro q' H'' hq' e'' h''
     rw [←List.map_take,show ((3:Int)).toNat=3 from rfl] at h''
     have u'':=e''.at u'
     have hq'':=e''.at hq
     clear u' hq
     by_cases hc:s.take 3=dl
     ·have k1':=k1 (decide_eq_true hc) (.ref q) H'' e'' ⟨q,rfl,hq''⟩
      clear k1 k0
      rw [hc] at h''
      simp! only [and_true]
     ·have k0':=k0 (decide_eq_false hc) H'' e''
      clear k1 k0
      simp! only [and_true]
    ·intro D2 ys2 H9 hD2 e9 h9 al9
     simp! only [and_true]
     intro em H10 hem e10 h10
     have D10:=e10.at h9
     have al10:Al (TupV H10) (Lm.filter fun s=>decide (s.take 3=dl)) ys2:=al9.imp fun _ _ q=>q.ext e10
     have ha:=tups_all (f:=datF H10 (datF H10 (datF H10 noD))) al10
     have e810:=e9.trans e10
     have e410:=e8.trans e810
     clear al9 h9
     by_cases hmn':m=n
     ·obtain ⟨s,hs,hs3⟩:=(hn ()).2.1
      have hF:(Lm.filter fun s=>decide (s.take 3=dl)) ≠ []:=fun z=>by
       have:s∈Lm.filter fun s=>decide (s.take 3=dl):=List.mem_filter.mpr ⟨by rw [←hLm,hmn'];exact hs,by rw [hdu] at hs3;exact decide_eq_true hs3⟩
       rw [z] at this
       cases this
      generalize (Lm.filter fun s=>decide (s.take 3=dl))=F at al10 ha hF
      have k':=kk () H10 (e04.trans e410)
      clear kk al8 st8 u8 se8 al10
      rw [←hmn'] at k'
      clear hmn' hmn hn hs
      obtain ⟨z,F',rfl⟩:=List.exists_cons_of_ne_nil hF
      rw [List.map_cons] at ha
      clear hF
      simp! only [and_true]
     ·have hF:(Lm.filter fun s=>decide (s.take 3=dl))=[]:=List.filter_eq_nil_iff.mpr fun s hs=>by
       have:=(hn ()).2.2 m (by omega) s (by rw [hLm];exact hs)
       rw [hdu] at this
       simpa using this
      rw [hF] at al10 ha
      have hy2:ys2=[]:=List.eq_nil_of_length_eq_zero al10.1
      subst hy2
      have st10:=e810.at st8
      have al10':Al (fun p y=>tsR p y H10) Lm ys:=al8.imp fun _ _ q=>q.ext e810
      have se10:=e810.at se8
      have hm3:m≤3:=by have:=(hn ()).1;omega
      have hmn1:m+1≤n:=by omega
      replace al10':=fun (_:Unit)=>al10'
      clear al8 st8 u8 se8 al10 ha
      simp! only [and_true]
      intro mo H11 hmo e11 h11
      have se11:=e11.at se10
      have st11:=e11.at st10
      have nstm:st ≠ mo:=fun z=>by rw [z,hmo] at st10;cases st10
      have ts11:TsL (Cut2 se mo H11) st Lm:=TsL.cut ⟨ys,st11,(al10' ()).imp fun _ _ q=>q.ext e11⟩ se11 h11 nstm
      have e4c:Ext H4 (Cut2 se mo H11):=cut2_ext (e410.trans e11) hse (ext_no e410 hmo)
      obtain ⟨ys',stC,alC⟩:=ts11
      obtain rfl:ys'=ys:=by have:=(cut2_sub se mo H11).at stC;rw [st11] at this;cases this;rfl
      have seC:Cut2 se mo H11 se=none:=cut2_a
      have moC:Cut2 se mo H11 mo=none:=cut2_b
      have eC:=cut2_sub se mo H11
      generalize Cut2 se mo H11=B at stC alC seC moC eC e4c
      have nsm:se ≠ mo:=fun z=>by rw [z,hmo] at se10;cases se10
      replace alC:=fun (_:Unit)=>alC
      have al0:Al (fun p y=>tsR p y H11) (accP m ((Lm.take 0).flatMap stF)).2 []:=Al.nil
      have se0:H11 se=some (.dT (tabS (accP m ((Lm.take 0).flatMap stF)).1)):=se11
      have stE:=eC.at stC
      clear h10 D10 se10 st10 al10' hem e9 hD2 e10 hmo e11 e810 e410 st11 se11 kk
      replace al0:=fun (_:Unit)=>al0
      simp! only [and_true]
      refine for_lst (xs:=ys') (fun i σ H'=>∃ (v6 v7:Option V) (ms:List V),σ=[some (.ref d),some (.ref du),some (.ref st),some (.ref se),some (.int (m:Int)),some (.ref mo),v6,v7]∧Ext B H'∧H' se=some (.dT (tabS (accP m ((Lm.take i).flatMap stF)).1))∧H' mo=some (.lst ms)∧Al (fun p y=>tsR p y H') (accP m ((Lm.take i).flatMap stF)).2 ms) ⟨v6,v7,[],rfl,eC,se0,h11,al0 ()⟩ (fun i σ H' _ ⟨_,_,_,_,e,_⟩=>e.at stC) ?_ ?_
      ·rintro i y _ H12 hy ⟨v6',v7',ms,rfl,e12,se12,mo12,al12⟩
       have hi:i < Lm.length:=by have:=(List.getElem?_eq_some_iff.mp hy).1;rw [(alC ()).1] at this;exact this
       obtain ⟨s,hs⟩:=opt_some hi
       obtain ⟨q,rfl,hq⟩:=((alC ()).2 i s y hs hy).ext e12
       have h4s:=four () s (List.mem_of_getElem? hs)
       have hpl:=pre_len hs
       have htf:=take_fl hs
       clear hy stE h11 se0 al0
       replace hpl:=fun (_:Unit)=>hpl
       replace htf:=fun (_:Unit)=>htf
       replace al12:=fun (_:Unit)=>al12
       simp! only [and_true]
       rw [c_spSt]
       refine ⟨s,hq,h4s,fun r H13 hr13 e13 ts13=>?_⟩
       have se13:=e13.at se12
       have mo13:=e13.at mo12
       have nrm:r ≠ mo:=fun z=>by rw [z,mo12] at hr13;cases hr13
       have al13:Al (fun p y=>tsR p y H13) (accP m ((Lm.take i).flatMap stF++(stF s).take 0)).2 ms:=by
        rw [List.take_zero,List.append_nil]
        exact (al12 ()).imp fun _ _ q=>q.ext e13
       have se13':H13 se=some (.dT (tabS (accP m ((Lm.take i).flatMap stF++(stF s).take 0)).1)):=by rw [List.take_zero,List.append_nil];exact se13
       have eB2:Ext B (Cut2 se mo H13):=cut2_ext (e12.trans e13) seC moC
       obtain ⟨zs,rC,alR⟩:=ts13.cut se13 mo13 nrm
       have eC2:=cut2_sub se mo H13
       have seC2:Cut2 se mo H13 se=none:=cut2_a
       have moC2:Cut2 se mo H13 mo=none:=cut2_b
       generalize Cut2 se mo H13=B2 at rC alR eC2 eB2 seC2 moC2
       have rE:=eC2.at rC
       generalize hA:(Lm.take i).flatMap stF=A0 at *
       replace al13:=fun (_:Unit)=>al13
       replace alR:=fun (_:Unit)=>alR
       clear al12 se12 mo12 hq hr13 e13 ts13 se13 hs
       simp! only [and_true]
       refine for_lst (xs:=zs) (fun j σ H'=>∃ (v7:Option V) (ms:List V),σ=[some (.ref d),some (.ref du),some (.ref st),some (.ref se),some (.int (m:Int)),some (.ref mo),some (.ref q),v7]∧Ext B2 H'∧H' se=some (.dT (tabS (accP m (A0++(stF s).take j)).1))∧H' mo=some (.lst ms)∧Al (fun p y=>tsR p y H') (accP m (A0++(stF s).take j)).2 ms) ⟨v7',ms,rfl,eC2,se13',mo13,al13 ()⟩ (fun i σ H' _ ⟨_,_,_,e,_⟩=>e.at rC) ?_ ?_
       ·rintro j y _ H14 hy ⟨v7'',ms',rfl,e14,se14,mo14,al14⟩
        have hj:j < (stF s).length:=by have:=(List.getElem?_eq_some_iff.mp hy).1;rw [(alR ()).1] at this;exact this
        obtain ⟨o,ho⟩:=opt_some hj
        obtain ⟨q2,rfl,hq2⟩:=((alR ()).2 j o y ho hy).ext e14
        have htk:(stF s).take (j+1)=(stF s).take j++[o]:=by rw [List.take_add_one,ho];rfl
        have hql:=acc_len hm3 (l:=A0++(stF s).take j) (by rw [hLm];exact hpl () j)
        have hkq:H14 q2=some (.tup ((kS o).map kV)):=by rw [kS_V];exact hq2
        have hval:=tabS_val (accP m (A0++(stF s).take j)).1 o
        have hmsl:ms'.length≤2000:=by rw [al14.1];exact hql.2
        rw [htk,←List.append_assoc]
        generalize A0++(stF s).take j=A1 at *
        clear hy rE mo13 se13' al13 hq2 ho htk
        replace al14:=fun (_:Unit)=>al14
        by_cases hin:o∈(accP m A1).1
        ·rw [decide_eq_true hin] at hval
         rw [acc_in hin]
         replace hin:=fun (_:Unit)=>hin
         simp! only [and_true]
         refine use_inT (k:=kS o) se14 hkq ?_
         rw [hval]
         simp! only [and_true]
         exact ⟨_,ms',rfl,e14,rfl,al14 ()⟩
        ·rw [decide_eq_false hin] at hval
         have hput:=tabS_put hin
         rw [acc_out hin]
         replace hin:=fun (_:Unit)=>hin
         simp! only [and_true]
         refine use_inT (k:=kS o) se14 hkq ?_
         rw [hval]
         simp! only [and_true]
         refine use_dpT (k:=kS o) se14 hkq (lt5000 (by unfold tabS;rw [List.length_map];omega)) ?_
         rw [hput]
         have mo15:upd H14 se (.dT (tabS ((accP m A1).1++[o]))) mo=some (.lst ms'):=by rw [upd_ne (Ne.symm nsm)];exact mo14
         have al15:Al (fun p y=>tsR p y (upd H14 se (.dT (tabS ((accP m A1).1++[o]))))) (accP m A1).2 ms':=(al14 ()).imp fun _ _ z=>z.updD se14
         have e15:Ext B2 (upd H14 se (.dT (tabS ((accP m A1).1++[o])))):=e14.put seC2
         have nq2:q2 ≠ se:=fun z=>by rw [z,se14] at hkq;cases hkq
         have q15:upd H14 se (.dT (tabS ((accP m A1).1++[o]))) q2=some (.tup (o.map V.int)):=by rw [upd_ne nq2,←kS_V];exact hkq
         have se15:upd H14 se (.dT (tabS ((accP m A1).1++[o]))) se=some (.dT (tabS ((accP m A1).1++[o]))):=upd_same
         generalize upd H14 se (.dT (tabS ((accP m A1).1++[o])))=H15 at mo15 al15 e15 q15 se15
         have al16:Al (fun p y=>tsR p y (upd H15 mo (.lst (ms'++[.ref q2])))) ((accP m A1).2++[o]) (ms'++[.ref q2]):=(al15.imp fun _ _ z=>z.upd mo15).snoc ⟨q2,rfl,by rw [upd_ne fun z=>by rw [z,mo15] at q15;cases q15];exact q15⟩
         have se16:upd H15 mo (.lst (ms'++[.ref q2])) se=some (.dT (tabS ((accP m A1).1++[o]))):=by rw [upd_ne nsm];exact se15
         replace al16:=fun (_:Unit)=>al16
         replace se16:=fun (_:Unit)=>se16
         clear al15 al14 mo14 se14 hkq hput hval q15 se15
         simp! only [and_true]
         refine ⟨lt5000 (by omega),?_⟩
         exact ⟨_,_,rfl,e15.put moC2,se16 (),rfl,al16 ()⟩
       ·rintro _ H14 ⟨v7'',ms',rfl,e14,se14,mo14,al14⟩
        have hzl:zs.length=(stF s).length:=(alR ()).1
        rw [hzl,List.take_length,←htf ()] at se14 al14
        have e15:=eB2.trans e14
        replace al14:=fun (_:Unit)=>al14
        clear hzl al13 se13' mo13 rE
        simp! only [and_true]
        exact ⟨_,_,ms',rfl,e15,rfl,al14 ()⟩
      ·rintro _ H12 ⟨v6',v7',ms,rfl,e12,se12,mo12,al12⟩
       have hyl:ys'.length=Lm.length:=(alC ()).1
       rw [hyl,List.take_length,←hLm,acc_full] at se12 al12
       have tsF:TsL H12 mo (lvF (m+1)).2:=⟨ms,mo12,al12⟩
       have e412:=e4c.trans e12
       clear al12 al0 se0 stE h11 hyl mo12
       replace tsF:=fun (_:Unit)=>tsF
       simp! only [and_true]
       exact ⟨_,_,_,_,_,rfl,e412,tsF ()⟩
   ·rintro _ H8 ⟨st,v4,v5,v6,v7,rfl,h8n,_⟩
    have:=(hn ()).1
    omega
theorem RingsOf.len {kv:List (Int × Int)}{L:List (List Int × Bool)}(h:RingsOf (lookI kv) (kv.map (·.1)) L):L.length≤kv.length∧∀ p∈L,p.1.length≤kv.length:=by
 refine ⟨?_,fun p hp=>ring_len (h.2.1 p hp).1.1⟩
 have h1:=nd_len (a:=L.map fun p=>p.1.headD 0) (b:=kv.map (·.1)) (by rw [List.nodup_iff_pairwise_ne,List.pairwise_map];exact h.1.imp fun h=>by omega) fun x hx=>by
  obtain ⟨p,hp,rfl⟩:=List.mem_map.mp hx
  obtain ⟨d,h1,_⟩:=(h.2.1 p hp).1.1.mem (h.2.1 p hp).1.head_mem
  exact look_some.mp (by rw [h1];rfl)
 rw [List.length_map,List.length_map] at h1
 exact h1
theorem flp_nn {tn k:Int}(h:0≤k∧k≤5000):0≤flp tn k:=by unfold flp;split<;>omega
theorem flp_inj2 {tn k l:Int}(h:flp tn k=flp tn l):k=l:=by unfold flp at h;split at h<;>omega
def wrC (z:Key × V):Bool:=!decide (z.2=kV z.1)
theorem wrC_len (kv:List (Int × Int)):((tabI kv).filter wrC).length=wrN kv:=by
 unfold tabI wrN
 rw [List.filter_map,List.length_map]
 congr 1
 refine List.filter_congr fun p _=>?_
 show (!decide (V.int p.2=V.int p.1))=_
 by_cases e:p.2=p.1
 ·simp [e]
 ·simp [e]
theorem lng_mem {m:Nat}{wy x tn:Int}{q:Int × Int}(hm:2≤m) (hx:0≤x∧x < m) (h:q∈lng m wy x tn):∃ k e:Int,q=(flp tn k,flp tn e)∧k ≠ e∧(0≤k∧k≤(m:Int)+3)∧(0≤e∧e≤(m:Int)):=by
 unfold lng lngB at h
 obtain ⟨p,hp,rfl⟩:=List.mem_map.mp h
 rcases List.mem_append.mp hp with hp|hp
 ·obtain ⟨k,hk,rfl⟩:=List.mem_map.mp hp
  have hk':=List.mem_range.mp hk
  refine ⟨_,_,rfl,?_,⟨by dsimp only;omega,by dsimp only;omega⟩,?_⟩
  ·dsimp only;split<;>omega
  ·dsimp only;split<;>omega
 ·by_cases e:wy=2
  ·rw [if_pos e] at hp
   obtain rfl:=List.mem_singleton.mp hp
   exact ⟨_,_,rfl,by dsimp only;omega,by dsimp only;omega,by dsimp only;omega⟩
  ·rw [if_neg e] at hp
   cases hp
theorem lng_nn {m:Nat}{wy x tn:Int}(hm:2≤m∧m≤4095) (hx:0≤x∧x < m):∀ c e,lookI (lng m wy x tn) c=some e->0≤c∧0≤e:=fun c e h=>by
 obtain ⟨k,f,q,_,h1,h2⟩:=lng_mem hm.1 hx (look_mem h)
 cases q
 exact ⟨flp_nn (by omega),flp_nn (by omega)⟩
theorem lng_wr {m:Nat}{wy x tn:Int}(hm:2≤m) (hx:0≤x∧x < m):wrN (lng m wy x tn)=(lng m wy x tn).length:=by
 unfold wrN
 rw [List.filter_eq_self.mpr]
 intro q hq
 obtain ⟨k,f,rfl,hne,_⟩:=lng_mem hm hx hq
 simp only [Bool.not_eq_true',decide_eq_false_iff_not]
 exact fun e=>hne (flp_inj2 e).symm
theorem min_split:∀ l:List Int,l ≠ []->∃ (a b:List Int) (M:Int),l=a++b∧b.head? = some M∧∀ y∈l,M≤y
 | [],h=>absurd rfl h
 | [x],_=>⟨[],[x],x,rfl,rfl,fun y hy=>by rw [List.mem_singleton.mp hy];exact Int.le_refl _⟩
 | x::z::l,_=>by
  obtain ⟨a,b,M,e,hb,hl⟩:=min_split (z::l) (List.cons_ne_nil _ _)
  by_cases c:x≤M
  ·refine ⟨[],x::z::l,x,rfl,rfl,fun y hy=>?_⟩
   rcases List.mem_cons.mp hy with rfl|hy
   ·exact Int.le_refl _
   ·exact Int.le_trans c (hl y hy)
  ·refine ⟨x::a,b,M,by rw [e];rfl,hb,fun y hy=>?_⟩
   rcases List.mem_cons.mp hy with rfl|hy
   ·omega
   ·exact hl y hy
theorem lng_bare {m:Nat}{wy x tn:Int}(hw:0≤wy∧wy < 3) (hm:2≤m) (hx:0≤x∧x < m):∃ L,RingsOf (lookI (lng m wy x tn)) ((lng m wy x tn).map (·.1)) L∧((L.filter (·.2)).length:Int)=if wy=1 then 1 else 0:=by
 rcases (show wy=0∨wy=1∨wy=2 by omega) with rfl|h
 ·exact ⟨[],lng_rings0 hx,rfl⟩
 ·obtain ⟨a,b,M,e,hb,hl⟩:=min_split (lngR m tn) (fun z=>by have:=congrArg List.length z;unfold lngR at this;simp at this;omega)
  refine ⟨_,lng_rings h hm hx e hb hl,?_⟩
  rcases h with rfl|rfl<;>rfl
theorem lng_rows {m:Nat}{wy x tn:Int}(hw:0≤wy∧wy < 3) (hm:2≤m) (hx:0≤x∧x < m){rows:List (Int × Int)}(h:RwsOf (lng m wy x tn) rows):(rows.length:Int)=((lng m wy x tn).length:Int)+if wy=1 then 1 else 0:=by
 obtain ⟨L,h1,h2⟩:=lng_bare (tn:=tn) hw hm hx
 have:=h.2.2 L h1
 rw [lng_wr hm hx] at this
 omega
abbrev B_spLaw (K:PySem.W.Frag) (a:Addr) (H:Hp) (Q:VK) (E:XK):Prop:=∃ ns:List Int,SqL K H a (ns.map V.int)∧ns.length≤63∧∀ H',Q (.bl true) H'
def spLaw (K:PySem.W.Frag):Sp:=fun vs H Q E=>∃ (a:Addr),vs=[.ref a]∧(B_spLaw K a H Q E)
theorem l_spLaw (K:PySem.W.Frag){vs:List V}{H:Hp}{Q:VK}{E:XK}(h:spLaw K vs H Q E):vs.length=1:=spl1 h fun _=>rfl
theorem ok_law (T:Tx K mg t):FnOk P w K mg base CX0 6 t.a_law t.d_law ["_law_script"] (spLaw K):=by
 refine T.F_law.ok c_law (fun vs H Q E h=>l_spLaw _ h) (fun cdv A outer s' H vs Q E hr h=>?_)
 ·obtain ⟨a,rfl,ns,hS,hl,kk⟩:=h
  have G__law_draw:=okx__law_draw (P:=P) (w:=w) (base:=base) T a ns
  have G__law_long:=ok__law_long (P:=P) (w:=w) (base:=base) T a ns
  have G__law_found:=ok__law_found (P:=P) (w:=w) (base:=base) T a ns
  have G__law_rings:=ok__law_rings (P:=P) (w:=w) (base:=base) T
  have G__law_leave:=ok__law_leave (P:=P) (w:=w) (base:=base) T
  have G__law_few:=ok__law_few (P:=P) (w:=w) (base:=base) T a ns
  have G__law_least:=ok__law_least (P:=P) (w:=w) (base:=base) T
  have G_rows_for:=ok_rows_for (P:=P) (w:=w) (base:=base) T
  refine ⟨_,(@pss_cons _ _ _ _ _ (@ps_if _ _ _ _ _ _ _ _ (@pt_cmpRN _ _ _ _ _ _ _ _ (op_qEq hr.units) (@pe_call _ _ _ _ _ _ _ _ _ _ _ _ _ _ _ _ G__law_draw (hr.mono (by decide)) (by rfl) T.m__law_draw T.F__law_draw.kp T.b__law_draw .nil pass0 (@pa_c _ _ _ _ _ (@pvN _ 0 _ _ (by rfl) (by trivial) (by decide) (by decide)) (@pa_c _ _ _ _ _ (@pe_int _ _ _ _) (@pa_c _ _ _ _ _ (@pe_int _ _ _ _) (@pa_nil _) (by rfl)) (by rfl)) (by rfl)) (by decide) (by rfl) (by rfl)) (@pe_int _ _ _ _) (nomark _)) (@pss_cons _ _ _ _ _ (@ps_set _ _ (1) _ _ _ _ c_law.nd rfl (Or.inr rfl) (@pe_call _ _ _ _ _ _ _ _ _ _ _ _ _ _ _ _ G__law_long (hr.mono (by decide)) (by rfl) T.m__law_long T.F__law_long.kp T.b__law_long .nil pass0 (@pa_c _ _ _ _ _ (@pvN _ 0 _ _ (by rfl) (by trivial) (by decide) (by decide)) (@pa_nil _) (by rfl)) (by decide) (by rfl) (by rfl)) (by rfl) (by trivial)) (@pss_cons _ _ _ _ _ (@ps_set _ _ (2) _ _ _ _ c_law.nd rfl (Or.inl rfl) (@pe_call _ _ _ _ _ _ _ _ _ _ _ _ _ _ _ _ G_rows_for (hr.mono (by decide)) (by rfl) T.m_rows_for T.F_rows_for.kp T.b_rows_for .nil pass0 (@pa_c _ _ _ _ _ (@pe_callTy _ _ _ _ _ _ _ _ _ call_qDict (by rfl) T.z_dict (by decide +kernel) (@pa_c _ _ _ _ _ (@pvN _ 1 _ _ (by rfl) (by trivial) (by decide) (by decide)) (@pa_nil _) (by rfl)) (by decide) (by decide) (by rfl) (by rfl)) (@pa_nil _) (by rfl)) (by decide) (by rfl) (by rfl)) (by rfl) (by trivial)) (@pss_cons _ _ _ _ _ (@ps_set _ _ (3) _ _ _ _ c_law.nd rfl (Or.inl rfl) (@pe_callTy _ _ _ _ _ _ _ _ _ call_qInt (by rfl) T.z_int (by decide +kernel) (@pa_c _ _ _ _ _ (@pe_cmpR _ _ _ _ _ _ _ _ (op_qEq hr.units) (@pe_call _ _ _ _ _ _ _ _ _ _ _ _ _ _ _ _ G__law_draw (hr.mono (by decide)) (by rfl) T.m__law_draw T.F__law_draw.kp T.b__law_draw .nil pass0 (@pa_c _ _ _ _ _ (@pvN _ 0 _ _ (by rfl) (by trivial) (by decide) (by decide)) (@pa_c _ _ _ _ _ (@pe_int _ _ _ _) (@pa_c _ _ _ _ _ (@pe_int _ _ _ _) (@pa_nil _) (by rfl)) (by rfl)) (by rfl)) (by decide) (by rfl) (by rfl)) (@pe_int _ _ _ _) (nomark _)) (@pa_nil _) (by rfl)) (by decide) (by decide) (by rfl) (by rfl)) (by rfl) (by trivial)) (@pss_one _ _ _ (@ps_ret _ _ _ _ (@pe_andN _ _ _ _ _ _ _ (@pe_call _ _ _ _ _ _ _ _ _ _ _ _ _ _ _ _ G__law_leave (hr.mono (by decide)) (by rfl) T.m__law_leave T.F__law_leave.kp T.b__law_leave .nil pass0 (@pa_c _ _ _ _ _ (@pvN _ 2 _ _ (by rfl) (by trivial) (by decide) (by decide)) (@pa_c _ _ _ _ _ (@pvN _ 1 _ _ (by rfl) (by trivial) (by decide) (by decide)) (@pa_nil _) (by rfl)) (by rfl)) (by decide) (by rfl) (by rfl)) (@pe_one _ _ _ _ _ (@pe_cmpR _ _ _ _ _ _ _ _ (op_qEq hr.units) (@pe_callB _ _ _ _ _ _ _ ("len") _ call_qLen (by rfl) T.z_len (by decide +kernel) (@pa_c _ _ _ _ _ (@pvN _ 2 _ _ (by rfl) (by trivial) (by decide) (by decide)) (@pa_nil _) (by rfl)) (by decide) (by decide) (by rfl) (by rfl)) (@pe_op _ _ _ _ _ _ _ _ on_add (@pe_callB _ _ _ _ _ _ _ ("len") _ call_qLenD (by rfl) T.z_len (by decide +kernel) (@pa_c _ _ _ _ _ (@pvN _ 1 _ _ (by rfl) (by trivial) (by decide) (by decide)) (@pa_nil _) (by rfl)) (by decide) (by decide) (by rfl) (by rfl)) (@pvN _ 3 _ _ (by rfl) (by trivial) (by decide) (by decide))) (nomark _))))))))) (@pss_nil _)) (@pss_cons _ _ _ _ _ (@ps_set _ _ (1) _ _ _ _ c_law.nd rfl (Or.inr rfl) (@pe_call _ _ _ _ _ _ _ _ _ _ _ _ _ _ _ _ G__law_found (hr.mono (by decide)) (by rfl) T.m__law_found T.F__law_found.kp T.b__law_found .nil pass0 (@pa_c _ _ _ _ _ (@pvN _ 0 _ _ (by rfl) (by trivial) (by decide) (by decide)) (@pa_nil _) (by rfl)) (by decide) (by rfl) (by rfl)) (by rfl) (by trivial)) (@pss_cons _ _ _ _ _ (@ps_set _ _ (2) _ _ _ _ c_law.nd rfl (Or.inl rfl) (@pe_call _ _ _ _ _ _ _ _ _ _ _ _ _ _ _ _ G_rows_for (hr.mono (by decide)) (by rfl) T.m_rows_for T.F_rows_for.kp T.b_rows_for .nil pass0 (@pa_c _ _ _ _ _ (@pe_callTy _ _ _ _ _ _ _ _ _ call_qDict (by rfl) T.z_dict (by decide +kernel) (@pa_c _ _ _ _ _ (@pvN _ 1 _ _ (by rfl) (by trivial) (by decide) (by decide)) (@pa_nil _) (by rfl)) (by decide) (by decide) (by rfl) (by rfl)) (@pa_nil _) (by rfl)) (by decide) (by rfl) (by rfl)) (by rfl) (by trivial)) (@pss_cons _ _ _ _ _ (@ps_set _ _ (4) _ _ _ _ c_law.nd rfl (Or.inl rfl) (@pe_callB _ _ _ _ _ _ _ ("len") _ call_qLen (by rfl) T.z_len (by decide +kernel) (@pa_c _ _ _ _ _ (@pe_thaw _ _ _ (@pe_comp _ _ _ _ _ _ _ _ _ _ _ (["_law_cell", "_law_script", "_law_found_here", "_law_rows", "_law_bare", "_law_many", "_law_few_here"]) (1) (comp_ok (defScope s_law) ["_law_script", "_law_found_here", "_law_rows", "_law_bare", "_law_many", "_law_few_here"] rfl rfl (by decide +kernel)) rfl (@pi_dict _ _ _ _ (@pvN _ 1 _ _ (by rfl) (by trivial) (by decide) (by decide))) (fun C s₀ H₀ ex pn=>(@pg_name _ _ (0) _ (show List.Nodup (["_law_cell", "_law_script", "_law_found_here", "_law_rows", "_law_bare", "_law_many", "_law_few_here"]:List Str) from by decide +kernel) rfl (Or.inl rfl) (by trivial))) (fun C s₀ H₀ ex pn=>(@pts_one _ _ _ (@pt_cmpRN _ _ _ _ _ _ _ _ (op_qNe hr.units) (@pe_dget _ _ _ _ _ _ (units1 hr.units) (@pvN _ 2 _ _ (by rfl) (by trivial) (by decide) (by decide)) (@pvN _ 0 _ _ (by rfl) (by trivial) (by decide) (by decide)) (fun _ _=>rfl)) (@pvN _ 0 _ _ (by rfl) (by trivial) (by decide) (by decide)) (nomark _)))) (fun C s₀ H₀ ex pn=>(@pvN _ 0 _ _ (by rfl) (by trivial) (by decide) (by decide))) (by intros;rfl))) (@pa_nil _) (by rfl)) (by decide) (by decide) (by rfl) (by rfl)) (by rfl) (by trivial)) (@pss_cons _ _ _ _ _ (@ps_set _ _ (3) _ _ _ _ c_law.nd rfl (Or.inl rfl) (@pe_callB _ _ _ _ _ _ _ ("len") _ call_qLen (by rfl) T.z_len (by decide +kernel) (@pa_c _ _ _ _ _ (@pe_comp _ _ _ _ _ _ _ _ _ _ _ (["_law_ring", "_law_is_bare", "_law_script", "_law_found_here", "_law_rows", "_law_bare", "_law_many", "_law_few_here"]) (2) (comp_ok (defScope s_law) ["_law_script", "_law_found_here", "_law_rows", "_law_bare", "_law_many", "_law_few_here"] rfl rfl (by decide +kernel)) rfl (@pi_seq _ _ _ _ (@pe_call _ _ _ _ _ _ _ _ _ _ _ _ _ _ _ _ G__law_rings (hr.mono (by decide)) (by rfl) T.m__law_rings T.F__law_rings.kp T.b__law_rings .nil pass0 (@pa_c _ _ _ _ _ (@pvN _ 1 _ _ (by rfl) (by trivial) (by decide) (by decide)) (@pa_nil _) (by rfl)) (by decide) (by rfl) (by rfl))) (fun C s₀ H₀ ex pn=>((@pg_tup _ _ _ _ _ (2) rfl (@pgs_consN _ _ _ _ _ (@pg_name _ _ (0) _ (show List.Nodup (["_law_ring", "_law_is_bare", "_law_script", "_law_found_here", "_law_rows", "_law_bare", "_law_many", "_law_few_here"]:List Str) from by decide +kernel) rfl (Or.inl rfl) (by trivial)) (@pgs_consN _ _ _ _ _ (@pg_name _ _ (1) _ (show List.Nodup (["_law_ring", "_law_is_bare", "_law_script", "_law_found_here", "_law_rows", "_law_bare", "_law_many", "_law_few_here"]:List Str) from by decide +kernel) rfl (Or.inl rfl) (by trivial)) (@pgs_nilN _) (by rfl)) (by rfl)) (by rfl) (by rfl)).mono fun _ _ _ _ h=>gTup_q h)) (fun C s₀ H₀ ex pn=>(@pts_one _ _ _ (@pt_valN _ _ _ (@pvN _ 1 _ _ (by rfl) (by trivial) (by decide) (by decide)) (by intros;rfl)))) (fun C s₀ H₀ ex pn=>(@pvN _ 0 _ _ (by rfl) (by trivial) (by decide) (by decide))) (by intros;rfl)) (@pa_nil _) (by rfl)) (by decide) (by decide) (by rfl) (by rfl)) (by rfl) (by trivial)) (@pss_cons _ _ _ _ _ (@ps_if _ _ _ _ _ _ _ _ (PW.pt (@pw_or _ _ _ _ _ _ _ (@pt_not _ _ _ _ (@pt_valN _ _ _ (@pe_call _ _ _ _ _ _ _ _ _ _ _ _ _ _ _ _ G__law_leave (hr.mono (by decide)) (by rfl) T.m__law_leave T.F__law_leave.kp T.b__law_leave .nil pass0 (@pa_c _ _ _ _ _ (@pvN _ 2 _ _ (by rfl) (by trivial) (by decide) (by decide)) (@pa_c _ _ _ _ _ (@pvN _ 1 _ _ (by rfl) (by trivial) (by decide) (by decide)) (@pa_nil _) (by rfl)) (by rfl)) (by decide) (by rfl) (by rfl)) (by intros;rfl))) (@pw_or1 _ _ _ _ (@pt_cmpRN _ _ _ _ _ _ _ _ (op_qNe hr.units) (@pe_callB _ _ _ _ _ _ _ ("len") _ call_qLen (by rfl) T.z_len (by decide +kernel) (@pa_c _ _ _ _ _ (@pvN _ 2 _ _ (by rfl) (by trivial) (by decide) (by decide)) (@pa_nil _) (by rfl)) (by decide) (by decide) (by rfl) (by rfl)) (@pe_op _ _ _ _ _ _ _ _ on_add (@pvN _ 4 _ _ (by rfl) (by trivial) (by decide) (by decide)) (@pvN _ 3 _ _ (by rfl) (by trivial) (by decide) (by decide))) (nomark _))))) (@pss_one _ _ _ (@ps_ret _ _ _ _ (@pe_bl _ _ _ _))) (@pss_nil _)) (@pss_cons _ _ _ _ _ (@ps_set _ _ (5) _ _ _ _ c_law.nd rfl (Or.inl rfl) (@pe_call _ _ _ _ _ _ _ _ _ _ _ _ _ _ _ _ G__law_few (hr.mono (by decide)) (by rfl) T.m__law_few T.F__law_few.kp T.b__law_few .nil pass0 (@pa_c _ _ _ _ _ (@pvN _ 0 _ _ (by rfl) (by trivial) (by decide) (by decide)) (@pa_nil _) (by rfl)) (by decide) (by rfl) (by rfl)) (by rfl) (by trivial)) (@pss_cons _ _ _ _ _ (@ps_set _ _ (2) _ _ _ _ c_law.nd rfl (Or.inl rfl) (@pe_call _ _ _ _ _ _ _ _ _ _ _ _ _ _ _ _ G_rows_for (hr.mono (by decide)) (by rfl) T.m_rows_for T.F_rows_for.kp T.b_rows_for .nil pass0 (@pa_c _ _ _ _ _ (@pe_callTy _ _ _ _ _ _ _ _ _ call_qDict (by rfl) T.z_dict (by decide +kernel) (@pa_c _ _ _ _ _ (@pvN _ 5 _ _ (by rfl) (by trivial) (by decide) (by decide)) (@pa_nil _) (by rfl)) (by decide) (by decide) (by rfl) (by rfl)) (@pa_nil _) (by rfl)) (by decide) (by rfl) (by rfl)) (by rfl) (by trivial)) (@pss_one _ _ _ (@ps_ret _ _ _ _ (@pe_andN _ _ _ _ _ _ _ (@pe_call _ _ _ _ _ _ _ _ _ _ _ _ _ _ _ _ G__law_leave (hr.mono (by decide)) (by rfl) T.m__law_leave T.F__law_leave.kp T.b__law_leave .nil pass0 (@pa_c _ _ _ _ _ (@pvN _ 2 _ _ (by rfl) (by trivial) (by decide) (by decide)) (@pa_c _ _ _ _ _ (@pvN _ 5 _ _ (by rfl) (by trivial) (by decide) (by decide)) (@pa_nil _) (by rfl)) (by rfl)) (by decide) (by rfl) (by rfl)) (@pe_one _ _ _ _ _ (@pe_cmpR _ _ _ _ _ _ _ _ (op_qEq hr.units) (@pe_callB _ _ _ _ _ _ _ ("len") _ call_qLen (by rfl) T.z_len (by decide +kernel) (@pa_c _ _ _ _ _ (@pvN _ 2 _ _ (by rfl) (by trivial) (by decide) (by decide)) (@pa_nil _) (by rfl)) (by decide) (by decide) (by rfl) (by rfl)) (@pe_call _ _ _ _ _ _ _ _ _ _ _ _ _ _ _ _ G__law_least (hr.mono (by decide)) (by rfl) T.m__law_least T.F__law_least.kp T.b__law_least .nil pass0 (@pa_c _ _ _ _ _ (@pvN _ 5 _ _ (by rfl) (by trivial) (by decide) (by decide)) (@pa_nil _) (by rfl)) (by decide) (by rfl) (by rfl)) (nomark _)))))))))))))),?_⟩
  rw [show start ["_law_script", "_law_found_here", "_law_rows", "_law_bare", "_law_many", "_law_few_here"] [.ref a]=[some (.ref a),none,none,none,none,none] from rfl]
  clear G__law_draw G__law_long G__law_found G__law_rings G__law_leave G__law_few G__law_least G_rows_for
  replace kk:=fun (_:Unit)=>kk
  have w01:=drawF_nn ns 2 3 (by decide)
  simp! only [and_true]
  rw [c_spDrawX]
  refine ⟨hS,hl,⟨by decide,by decide⟩,by decide,?_⟩
  generalize drawF ns 0 8=z
  by_cases hz:z=5
  ·simp! only [and_true]
   rw [c_spLg]
   refine ⟨rfl,hS,hl,fun m x d H1 hm hx hd1 e1 h1=>?_⟩
   have hS1:=e1.2 K a _ hS
   have hlen:(lng m (drawF ns 2 3) x (drawF ns 4 2)).length≤4200:=by have:=lng_len m (drawF ns 2 3) x (drawF ns 4 2);omega
   replace hlen:=fun (_:Unit)=>hlen
   clear hz hS
   simp! only [and_true]
   refine use_dict h1 (len5000 (by rw [tab_len];have:=hlen ();omega)) ?_
   intro d2 H2 hd2 e2 h2
   have h1_2:=e2.at h1
   have hS2:=e2.2 K a _ hS1
   simp! only [and_true]
   rw [c_spRw]
   refine ⟨_,h2,lng_nd _ _ _ _,hlen (),lng_easy _ _ _ _,lng_few w01.1 (by omega) hx,lng_nn ⟨by omega,by omega⟩ hx,fun rows W H3 hR hRl hW e3 tw=>?_⟩
   have h1_3:=e3.at h1_2
   have hS3:=e3.2 K a _ hS2
   have hlr:=lng_rows w01 (by omega) hx hR
   have hrun:=hR.1
   replace hlr:=fun (_:Unit)=>hlr
   replace hrun:=fun (_:Unit)=>hrun
   replace tw:=fun (_:Unit)=>tw
   clear h1 h2 h1_2 hS1 hS2 hR
   generalize lng m (drawF ns 2 3) x (drawF ns 4 2)=kv at h1_3 hlr hrun hlen
   simp! only [and_true]
   rw [c_spDrawX]
   refine ⟨hS3,hl,⟨by decide,by decide⟩,by decide,?_⟩
   generalize drawF ns 2 3=wy at hlr
   have go:∀ b:Int,(rows.length:Int)=(kv.length:Int)+b->∀ H4,Ext H3 H4->∃ ys:List V,H4 W=some (.lst ys)∧(ys.length:Int)=((tabI kv).length:Int)+b:=fun b hb H4 e4=>by
    obtain ⟨ys,h1,h2⟩:=(tw ()).ext e4
    exact ⟨ys,h1,by rw [h2.1,tab_len];exact hb⟩
   replace go:=fun (_:Unit)=>go
   by_cases hw1:wy=1
   ·have hb:(rows.length:Int)=(kv.length:Int)+1:=by have:=hlr ();rw [if_pos hw1] at this;exact this
    replace hb:=fun (_:Unit)=>hb
    clear hlr
    subst hw1
    simp! only [and_true]
    rw [c_spLv]
    refine ⟨rows,kv,tw (),hRl,h1_3,hlen (),hrun (),fun H4 e4=>?_⟩
    obtain ⟨ys,hW4,heq⟩:=go () 1 (hb ()) H4 e4
    have h1_4:=e4.at h1_3
    have k':=kk () H4
    replace heq:=fun (_:Unit)=>heq
    clear kk h1_3 hS3
    simp! only [and_true]
    refine use_lenD h1_4 ?_
    have heq':=heq ()
    clear heq hW4 h1_4
    generalize ((tabI kv).length:Int)=u at heq' ⊢
    generalize (ys.length:Int)=v at heq' ⊢
    subst heq'
    simp! only [and_true]
   ·have hb:(rows.length:Int)=(kv.length:Int)+0:=by have:=hlr ();rw [if_neg hw1] at this;exact this
    replace hb:=fun (_:Unit)=>hb
    clear hlr
    simp! only [and_true]
    rw [c_spLv]
    refine ⟨rows,kv,tw (),hRl,h1_3,hlen (),hrun (),fun H4 e4=>?_⟩
    obtain ⟨ys,hW4,heq⟩:=go () 0 (hb ()) H4 e4
    have h1_4:=e4.at h1_3
    have k':=kk () H4
    replace heq:=fun (_:Unit)=>heq
    clear kk h1_3 hS3
    simp! only [and_true]
    refine use_lenD h1_4 ?_
    have heq':=heq ()
    clear heq hW4 h1_4
    rw [Int.add_zero] at heq'
    generalize ((tabI kv).length:Int)=u at heq' ⊢
    generalize (ys.length:Int)=v at heq' ⊢
    subst heq'
    simp! only [and_true]
    rw [Int.add_zero,decide_eq_true rfl]
    exact k'
  ·simp! only [and_true]
   rw [c_spFd]
   refine ⟨rfl,hS,hl,fun kv d H1 hnd h50 hnn hd1 e1 h1=>?_⟩
   replace hnd:=fun (_:Unit)=>hnd
   replace hnn:=fun (_:Unit)=>hnn
   have hS1:=e1.2 K a _ hS
   clear hz hS
   simp! only [and_true]
   refine use_dict h1 (len5000 (by rw [tab_len];omega)) ?_
   intro d2 H2 hd2 e2 h2
   have h1_2:=e2.at h1
   have hS2:=e2.2 K a _ hS1
   simp! only [and_true]
   rw [c_spRw]
   refine ⟨kv,h2,hnd (),by omega,.inl (by rw [List.length_map];omega),few_short (by omega),hnn (),fun rows W H3 hR hRl hW e3 tw=>?_⟩
   have h1_3:=e3.at h1_2
   have hS3:=e3.2 K a _ hS2
   replace hR:=fun (_:Unit)=>hR
   replace tw:=fun (_:Unit)=>tw
   clear h1 h2 h1_2 hS1 hS2
   simp! only [and_true]
   refine use_cd wrC (fun z=>kV z.1) h1_3 (len5000 (by rw [tab_len];omega)) ?_ ?_
   ·intro D ob z H4 N1 N0 hz hD e4 f4 k1 k0
    obtain ⟨p,hp,rfl⟩:=List.mem_map.mp hz
    have hvv:valV (tabI kv) (.inl p.1)=some (.int p.2):=by rw [val_tab,look_of (hnd ()) (show (p.1,p.2)∈kv from hp)];rfl
    rw [show wrC ((Sum.inl p.1:Key),V.int p.2) = !decide (V.int p.2=V.int p.1) from rfl] at k1 k0
    rw [show kV ((Sum.inl p.1:Key),V.int p.2).1=V.int p.1 from rfl] at k1 ⊢
    generalize p.1=p1 at hvv k1 k0 ⊢
    generalize p.2=p2 at hvv k1 k0 ⊢
    replace k1:=fun (_:Unit)=>k1
    replace k0:=fun (_:Unit)=>k0
    clear hz hp h1_3 hS3 kk
    simp! only [↓m_kCm_1,↓m_kCm2]
    refine use_dgF (k:=.inl p1) f4 hvv ?_
    by_cases m1:p2=p1
    ·have jj:=k0 () (by simp [m1]) H4 (Ext.refl _)
     clear k0 k1
     subst m1
     simp! only [↓m_kCm_1,↓m_kCm2]
    ·have jj:=k1 () (by simp [m1]) H4 (Ext.refl _)
     clear k0 k1
     simp! only [↓m_kCm_1,↓m_kCm2]
   ·intro D H4 hD e4 h4
    have hwl:(((tabI kv).filter wrC).map fun z=>kV z.1).length=wrN kv:=by rw [List.length_map,wrC_len]
    generalize (((tabI kv).filter wrC).map fun z=>kV z.1)=ws at h4 hwl
    have h1_4:=e4.at h1_3
    have hS4:=e4.2 K a _ hS3
    replace hwl:=fun (_:Unit)=>hwl
    clear h1_3 hS3
    simp! only [and_true]
    rw [c_spLR]
    refine ⟨kv,h1_4,hnd (),h50,fun L r H5 hL e5 ra=>?_⟩
    obtain ⟨ys5,h5,_,al5⟩:=ra
    have h1_5:=e5.at h1_4
    have hS5:=e5.2 K a _ hS4
    have hcnt:=(hR ()).2.2 L hL
    have hLl:=hL.len.1
    have al5':Al (fun p y=>(fun (p:List Int × Bool) (y:V) (H':Hp)=>∃ q l,y=.ref q∧H' q=some (.tup [.ref l,.bl p.2])) p y H5) L ys5:=al5.imp fun p y ⟨q,l,a1,a2,_⟩=>⟨q,l,a1,a2⟩
    replace hcnt:=fun (_:Unit)=>hcnt
    clear al5 h1_4 hS4 h4 hL
    have wk:=wk_al (K:=K) (R:=fun (p:List Int × Bool) (y:V) (H':Hp)=>∃ q l,y=.ref q∧H' q=some (.tup [.ref l,.bl p.2])) (fun _ _ _ _ ⟨q,l,a1,a2⟩ e=>⟨q,l,a1,e.at a2⟩) h5 al5'
    replace wk:=fun (_:Unit)=>wk
    clear al5'
    simp! only [and_true]
    refine comp_rel2 L (fun p=>p.2) (fun p x H'=>∃ q l,x=.ref q∧H' q=some (.tup [.ref l,.bl p.2])) (fun _ _ _ _=>True) (wk ()).1 (wk ()).2 (fun _ _ _ _ _ _ _=>trivial) (fun _ _ _ _ _ _ _ _=>trivial) (len5000 (by omega)) ?_ ?_
    ·rintro D p x H6 N1 N0 _ hD e6 _ ⟨q,l,rfl,hq⟩ k1 k0
     clear wk kk h5 h1_5 hS5
     cases hb:p.2 with
     | true=>
      have j1:=k1 hb
      rw [hb] at hq
      clear k1 k0 hb
      simp! only [and_true]
      exact j1 (.ref l) H6 (Ext.refl _) trivial
     | false=>
      have j0:=k0 hb H6 (Ext.refl _)
      rw [hb] at hq
      clear k1 k0 hb
      simp! only [and_true]
    ·intro D2 ys6 H6 hD2 e6 h6 al6
     have hy6:ys6.length=(L.filter fun p=>p.2).length:=al6.1
     have h1_6:=e6.at h1_5
     have hS6:=e6.2 K a _ hS5
     have tw6:=(tw ()).ext (e4.trans (e5.trans e6))
     replace tw6:=fun (_:Unit)=>tw6
     replace hy6:=fun (_:Unit)=>hy6
     clear wk h5 h1_5 hS5 al6 tw
     simp! only [and_true]
     rw [c_spLv]
     refine ⟨rows,kv,tw6 (),hRl,h1_6,by omega,(hR ()).1,fun H7 e7=>?_⟩
     obtain ⟨ys7,W7,al7⟩:=(tw6 ()).ext e7
     have heq:(ys7.length:Int)=(ws.length:Int)+(ys6.length:Int):=by
      have h1:=hcnt ()
      have h2:=hwl ()
      have h3:=hy6 ()
      have h4:=al7.1
      omega
     have hS7:=e7.2 K a _ hS6
     clear al7 tw6 h1_6 hS6 h6
     simp! only [and_true]
     clear heq W7 hcnt hwl hy6
     rw [c_spFew]
     refine ⟨rfl,hS7,hl,fun kv2 d3 H8 hk2 hd3 e8 h8=>?_⟩
     have fo:=few_ok hk2
     have hk3:=fo.len
     replace fo:=fun (_:Unit)=>fo
     clear hk2
     simp! only [and_true]
     refine use_dict h8 (len5000 (by rw [tab_len];omega)) ?_
     intro d4 H9 hd4 e9 h9
     have h8_9:=e9.at h8
     clear h8
     simp! only [and_true]
     rw [c_spRw]
     refine ⟨kv2,h9,(fo ()).nd,by omega,.inl (by rw [List.length_map];omega),few_short (by omega),fun c e hce=>⟨by have h:=(few_look (fo ()) hce).1;simp at h;omega,(few_look (fo ()) hce).2⟩,fun rows2 W2 H10 hR2 hRl2 hW2 e10 tw2=>?_⟩
     have hn2:rows2.length=fewN kv2:=hR2.2.2 _ (few_rings (fo ()))
     have hrun2:=hR2.1
     have d10:=e10.at h8_9
     replace hn2:=fun (_:Unit)=>hn2
     replace hrun2:=fun (_:Unit)=>hrun2
     replace tw2:=fun (_:Unit)=>tw2
     clear h9 h8_9 hR2
     simp! only [and_true]
     rw [c_spLv]
     refine ⟨rows2,kv2,tw2 (),hRl2,d10,by omega,hrun2 (),fun H11 e11=>?_⟩
     obtain ⟨ys11,W11,al11⟩:=(tw2 ()).ext e11
     have d11:=e11.at d10
     have heq:(ys11.length:Int)=(fewN kv2:Int):=by
      have h1:=hn2 ()
      have h4:=al11.1
      omega
     replace heq:=fun (_:Unit)=>heq
     clear al11 tw2 d10 hn2
     simp! only [and_true]
     rw [c_spLs]
     refine ⟨kv2,fewN kv2,d11,(fo ()).lv,fun H12 e12=>?_⟩
     have heq':=heq ()
     have k':=kk () H12
     clear heq W11 d11 kk
     simp! only [and_true]
end
theorem all_mk {l:PySem.W.OpenLaw}{w:World}{K:PySem.W.Frag}{h:Heap}{mg:Str->Option Value}{fa:Addr}(X:K.In h) (G:h.Ns mainGlobals mg) (hfa:mg "law"=some (.ref fa))
  {f0:Addr} {d0:FuncData} (a0:PySem.W.nsIn K mainGlobals "ring_from"=some (some (.ref f0))) (F0:Fun K "ring_from" "ring_from" s_ring_from f0 d0)
  {f1:Addr} {d1:FuncData} (a1:PySem.W.nsIn K mainGlobals "least_first"=some (some (.ref f1))) (F1:Fun K "least_first" "least_first" s_least_first f1 d1)
  {f2:Addr} {d2:FuncData} (a2:PySem.W.nsIn K mainGlobals "drawn_from_beyond"=some (some (.ref f2))) (F2:Fun K "drawn_from_beyond" "drawn_from_beyond" s_drawn_from_beyond f2 d2)
  {f3:Addr} {d3:FuncData} (a3:PySem.W.nsIn K mainGlobals "rings"=some (some (.ref f3))) (F3:Fun K "rings" "rings" s_rings f3 d3)
  {f4:Addr} {d4:FuncData} (a4:PySem.W.nsIn K mainGlobals "first_cell"=some (some (.ref f4))) (F4:Fun K "first_cell" "first_cell" s_first_cell f4 d4)
  {f5:Addr} {d5:FuncData} (a5:PySem.W.nsIn K mainGlobals "readers_of"=some (some (.ref f5))) (F5:Fun K "readers_of" "readers_of" s_readers_of f5 d5)
  {f6:Addr} {d6:FuncData} (a6:PySem.W.nsIn K mainGlobals "rows_beside_rings"=some (some (.ref f6))) (F6:Fun K "rows_beside_rings" "rows_beside_rings" s_rows_beside_rings f6 d6)
  {f7:Addr} {d7:FuncData} (a7:PySem.W.nsIn K mainGlobals "rows_round"=some (some (.ref f7))) (F7:Fun K "rows_round" "rows_round" s_rows_round f7 d7)
  {f8:Addr} {d8:FuncData} (a8:PySem.W.nsIn K mainGlobals "rows_for"=some (some (.ref f8))) (F8:Fun K "rows_for" "rows_for" s_rows_for f8 d8)
  {f9:Addr} {d9:FuncData} (a9:PySem.W.nsIn K mainGlobals "_law_draw"=some (some (.ref f9))) (F9:Fun K "_law_draw" "_law_draw" s__law_draw f9 d9)
  {f10:Addr} {d10:FuncData} (a10:PySem.W.nsIn K mainGlobals "_law_names"=some (some (.ref f10))) (F10:Fun K "_law_names" "_law_names" s__law_names f10 d10)
  {f11:Addr} {d11:FuncData} (a11:PySem.W.nsIn K mainGlobals "_law_blocks"=some (some (.ref f11))) (F11:Fun K "_law_blocks" "_law_blocks" s__law_blocks f11 d11)
  {f12:Addr} {d12:FuncData} (a12:PySem.W.nsIn K mainGlobals "_law_found"=some (some (.ref f12))) (F12:Fun K "_law_found" "_law_found" s__law_found f12 d12)
  {f13:Addr} {d13:FuncData} (a13:PySem.W.nsIn K mainGlobals "_law_rings"=some (some (.ref f13))) (F13:Fun K "_law_rings" "_law_rings" s__law_rings f13 d13)
  {f14:Addr} {d14:FuncData} (a14:PySem.W.nsIn K mainGlobals "_law_long"=some (some (.ref f14))) (F14:Fun K "_law_long" "_law_long" s__law_long f14 d14)
  {f15:Addr} {d15:FuncData} (a15:PySem.W.nsIn K mainGlobals "_law_run"=some (some (.ref f15))) (F15:Fun K "_law_run" "_law_run" s__law_run f15 d15)
  {f16:Addr} {d16:FuncData} (a16:PySem.W.nsIn K mainGlobals "_law_leave"=some (some (.ref f16))) (F16:Fun K "_law_leave" "_law_leave" s__law_leave f16 d16)
  {f17:Addr} {d17:FuncData} (a17:PySem.W.nsIn K mainGlobals "_law_few"=some (some (.ref f17))) (F17:Fun K "_law_few" "_law_few" s__law_few f17 d17)
  {f18:Addr} {d18:FuncData} (a18:PySem.W.nsIn K mainGlobals "_law_steps"=some (some (.ref f18))) (F18:Fun K "_law_steps" "_law_steps" s__law_steps f18 d18)
  {f19:Addr} {d19:FuncData} (a19:PySem.W.nsIn K mainGlobals "_law_least"=some (some (.ref f19))) (F19:Fun K "_law_least" "_law_least" s__law_least f19 d19)
  {f20:Addr} {od20 an20:Option Addr} {sl20:Array (Option Value)} {oc20 kV20 dc20 pm20 cd20 ct20:Value}
  (a20:PySem.W.nsIn K mainGlobals "law"=some (some (.ref f20))) (l20:K.lookup f20=some ⟨oc20,od20,.func (PySem.W.fnOf "law" "law" (defArgs s_law) (defBody s_law) (defScope s_law) .none kV20 dc20 pm20 an20 cd20 ct20),sl20⟩)
  (c20:PySem.W.codeIn K cd20 "law"=true) (k20:PySem.W.keepIn K (.ref f20)=true)
  {tk0:Tok} (w0:PySem.W.nsIn K mainGlobals "SPARE"=some (some (.int (-1) tk0)))
  (z0:PySem.W.nsIn K mainGlobals "any"=some none)
  (z1:PySem.W.nsIn K mainGlobals "dict"=some none)
  (z2:PySem.W.nsIn K mainGlobals "int"=some none)
  (z3:PySem.W.nsIn K mainGlobals "len"=some none)
  (z4:PySem.W.nsIn K mainGlobals "list"=some none)
  (z5:PySem.W.nsIn K mainGlobals "min"=some none)
  (z6:PySem.W.nsIn K mainGlobals "range"=some none)
  (z7:PySem.W.nsIn K mainGlobals "sorted"=some none)
  (z8:PySem.W.nsIn K mainGlobals "tuple"=some none)
  (z9:PySem.W.nsIn K mainGlobals "zip"=some none)
  : ∃ fd:FuncData,(∀ (s:Shared) (v:Value),BindsTo s fd ⟨[v],[]⟩ [("_law_script",v)])∧∀ base:Heap,K.In base->base.Ns mainGlobals mg->FnOk l.prog w K mg base CX0 6 fa fd ["_law_script"] (spLaw K):=by
 have e:=hfa.symm.trans (PySem.W.mg_of X G a20)
 cases e
 have F20:=fun_mk (st:=s_law) l20 c20 k20
 have T:Tx K mg ⟨f0,_,f1,_,f2,_,f3,_,f4,_,f5,_,f6,_,f7,_,f8,_,f9,_,f10,_,f11,_,f12,_,f13,_,f14,_,f15,_,f16,_,f17,_,f18,_,f19,_,fa,_⟩:=⟨⟨_,PySem.W.mg_of X G w0⟩,F0,PySem.W.mg_of X G a0,F0.binds (ps:=["found", "start", "walked"]) (fun _ _ _ _ _ _=>len3 (fun _ _ _=>rfl)),F1,PySem.W.mg_of X G a1,F1.binds (ps:=["ring"]) (fun _ _ _ _ _ _=>len1 (fun _=>rfl)),F2,PySem.W.mg_of X G a2,F2.binds (ps:=["found", "ring_of"]) (fun _ _ _ _ _ _=>len2 (fun _ _=>rfl)),F3,PySem.W.mg_of X G a3,F3.binds (ps:=["found"]) (fun _ _ _ _ _ _=>len1 (fun _=>rfl)),F4,PySem.W.mg_of X G a4,F4.binds (ps:=["ring"]) (fun _ _ _ _ _ _=>len1 (fun _=>rfl)),F5,PySem.W.mg_of X G a5,F5.binds (ps:=["found"]) (fun _ _ _ _ _ _=>len1 (fun _=>rfl)),F6,PySem.W.mg_of X G a6,F6.binds (ps:=["found"]) (fun _ _ _ _ _ _=>len1 (fun _=>rfl)),F7,PySem.W.mg_of X G a7,F7.binds (ps:=["ring", "elsewhere"]) (fun _ _ _ _ _ _=>len2 (fun _ _=>rfl)),F8,PySem.W.mg_of X G a8,F8.binds (ps:=["found"]) (fun _ _ _ _ _ _=>len1 (fun _=>rfl)),F9,PySem.W.mg_of X G a9,F9.binds (ps:=["_law_script", "_law_k", "_law_many"]) (fun _ _ _ _ _ _=>len3 (fun _ _ _=>rfl)),F10,PySem.W.mg_of X G a10,F10.binds (ps:=["_law_script"]) (fun _ _ _ _ _ _=>len1 (fun _=>rfl)),F11,PySem.W.mg_of X G a11,F11.binds (ps:=["_law_script", "_law_many"]) (fun _ _ _ _ _ _=>len2 (fun _ _=>rfl)),F12,PySem.W.mg_of X G a12,F12.binds (ps:=["_law_script"]) (fun _ _ _ _ _ _=>len1 (fun _=>rfl)),F13,PySem.W.mg_of X G a13,F13.binds (ps:=["_law_found_here"]) (fun _ _ _ _ _ _=>len1 (fun _=>rfl)),F14,PySem.W.mg_of X G a14,F14.binds (ps:=["_law_script"]) (fun _ _ _ _ _ _=>len1 (fun _=>rfl)),F15,PySem.W.mg_of X G a15,F15.binds (ps:=["_law_rows", "_law_held"]) (fun _ _ _ _ _ _=>len2 (fun _ _=>rfl)),F16,PySem.W.mg_of X G a16,F16.binds (ps:=["_law_rows", "_law_found_here"]) (fun _ _ _ _ _ _=>len2 (fun _ _=>rfl)),F17,PySem.W.mg_of X G a17,F17.binds (ps:=["_law_script"]) (fun _ _ _ _ _ _=>len1 (fun _=>rfl)),F18,PySem.W.mg_of X G a18,F18.binds (ps:=["_law_state"]) (fun _ _ _ _ _ _=>len1 (fun _=>rfl)),F19,PySem.W.mg_of X G a19,F19.binds (ps:=["_law_found_here"]) (fun _ _ _ _ _ _=>len1 (fun _=>rfl)),F20,PySem.W.mg_of X G a20,F20.binds (ps:=["_law_script"]) (fun _ _ _ _ _ _=>len1 (fun _=>rfl)),PySem.W.mg_none_of X G z0,PySem.W.mg_none_of X G z1,PySem.W.mg_none_of X G z2,PySem.W.mg_none_of X G z3,PySem.W.mg_none_of X G z4,PySem.W.mg_none_of X G z5,PySem.W.mg_none_of X G z6,PySem.W.mg_none_of X G z7,PySem.W.mg_none_of X G z8,PySem.W.mg_none_of X G z9⟩
 exact ⟨PySem.W.fnOf "law" "law" (defArgs s_law) (defBody s_law) (defScope s_law) .none kV20 dc20 pm20 an20 cd20 ct20,fun s v=>.of_eq rfl,fun base _ _=>ok_law T⟩
theorem walk {l:PySem.W.OpenLaw}{q:Program}{loose:List Str}{XP:(Str->Option Value)->Heap->Prop}{YP:World->Heap->Prop}{d:DefRec}{K:Params->PySem.W.Frag}(hn:l.most=some 63) (hdf:d.params.defaults=[])
  (hY:∀ (w:World) (h:Heap),YP w h->(K w.params).In h)
  (F:∀ (w:World) (mg:Str->Option Value) (fa:Addr) (h:Heap),(K w.params).In h->h.Ns mainGlobals mg->mg d.name=some (.ref fa) →
   ∃ fd:FuncData,(∀ (s:Shared) (u:Value),BindsTo s fd ⟨[u],[]⟩ [("_law_script",u)])∧∀ base:Heap,(K w.params).In base->base.Ns mainGlobals mg->FnOk l.prog w (K w.params) mg base CX0 6 fa fd ["_law_script"] (spLaw (K w.params))) :
  PySem.W.WalkO q loose XP YP l.row.toRowW d [] (fun f vs=>PySem.call f vs):=
 L2.walk_of (n:=63) (k:=6) (x := "_law_script") (CX:=fun _=>CX0) (sp:=fun w=>spLaw (K w.params)) hn (by decide) hdf ⟨rfl,by decide,by decide⟩ hY F (fun _ _ a ns hl _ hS=>⟨a,rfl,ns,hS,hl,fun _=>rfl⟩) fun _ _ _ _ _ z=>z
end PH
namespace PySem.W.Fast
def tw3222370419732315755:=0
def tw5126588977595302656:=0
def tw5520266063459997158:=0
def tw15413285655772313998:=0
def tw9149510113083452034:=0
def tw5958070298803891586:=0
def tw3546264795152559248:=0
def tw7073670535433432210:=0
def tw5837619078818066125:=0
def tw13801381660581541381:=0
def tw5080247475590716741:=0
def tw16749449595669787186:=0
def tw15736784974545594287:=0
def tw9115562645849847332:=0
def tw17701333103931148798:=0
def tw3824431176496175871:=0
def tw10856994706709267008:=0
def tw4473517089003822216:=0
def tw8080796895620249842:=0
def tw12614879209692176681:=0
def tw13810439150489548278:=0
def tw18122925571266646536:=0
def tw9890279675123695159:=0
def tw1932631515496529337:=0
def tw17075075204264008519:=0
def tw1027558044648948731:=0
def tw1699292090949796040:=0
def tw13330858371263165582:=0
def tw165150239010917884:=0
def tw2497211279948622053:=0
def tw677889212826109479:=0
def tw11433340865845606174:=0
def tw15271360333059926000:=0
def tw16828912971539089760:=0
def tw2119882644494793598:=0
def tw1577990449693523843:=0
def tw4301931585739075878:=0
def tw4167446956090183247:=0
def tw7907650590850540760:=0
def tw12837235278786390998:=0
def tw4669836030907040986:=0
def tw9302968042278599706:=0
def tw93535802948323618:=0
def tw1180826040486159087:=0
def tw9691741292118753461:=0
def tw3110392118950953110:=0
end PySem.W.Fast
open PySem PySem.W PyProof.Rows
set_option maxRecDepth 100000 in
set_option maxHeartbeats 0 in
theorem PySem.Challenge.cw_pacehall_k66_whole_fewest_rows_holds : PySem.Challenge.rw_pacehall_k66_whole_fewest_rows.Holds := by
 w_on;o_law;k_head;(case hw=>w_witness2)
 k_fill
 refine PH.walk (l:=PySem.Challenge.rw_pacehall_k66_whole_fewest_rows) rfl rfl (fun w h Y=>PySem.W.kIn_of Y) ?F
 case F=>
  intro w mg fa h KX G hmg
  refine' PH.all_mk KX G hmg ?a0 ?F0 ?a1 ?F1 ?a2 ?F2 ?a3 ?F3 ?a4 ?F4 ?a5 ?F5 ?a6 ?F6 ?a7 ?F7 ?a8 ?F8 ?a9 ?F9 ?a10 ?F10 ?a11 ?F11 ?a12 ?F12 ?a13 ?F13 ?a14 ?F14 ?a15 ?F15 ?a16 ?F16 ?a17 ?F17 ?a18 ?F18 ?a19 ?F19 ?a20 ?l20 ?c20 ?k20 ?w0 ?z0 ?z1 ?z2 ?z3 ?z4 ?z5 ?z6 ?z7 ?z8 ?z9
  (case a0|a1|a2|a3|a4|a5|a6|a7|a8|a9|a10|a11=>first|k_is|k_exc|kts_exm|decide|rfl|decide +kernel|kernel_rfl)
  (case a12|a13|a14|a15|a16|a17|a18|a19|a20=>first|k_is|k_exc|kts_exm|decide|rfl|decide +kernel|kernel_rfl)
  (case F0|F1|F2|F3|F4|F5|F6|F7|F8|F9|F10|F11=>(refine' L2.fun_mk ?l ?c ?k;(case l|c|k=>first|k_is|k_exc|kts_exm|decide|rfl|decide +kernel|kernel_rfl)))
  (case F12|F13|F14|F15|F16|F17|F18|F19=>(refine' L2.fun_mk ?l ?c ?k;(case l|c|k=>first|k_is|k_exc|kts_exm|decide|rfl|decide +kernel|kernel_rfl)))
  (case l20|c20|k20|w0|z0|z1|z2|z3|z4|z5|z6|z7=>first|k_is|k_exc|kts_exm|decide|rfl|decide +kernel|kernel_rfl)
  (case z8|z9=>first|k_is|k_exc|kts_exm|decide|rfl|decide +kernel|kernel_rfl)
#print axioms PySem.Challenge.cw_pacehall_k66_whole_fewest_rows_holds