import PyProof.Rows.All
import Wide.All
import OpenK.AllK
import Wide.FinOn
import Lean
import PyProof.EqAt
import PyProof.EqKinds
import PyProof.TupleCall
import PySem.Challenge.RW_pacehall_k82_clashes
-- CHANGE: your row's module here, as the last of these rows
set_option Elab.async false
set_option linter.all false
set_option maxRecDepth 100000
namespace L2
open PySem PySem.Spec PyProof.Rows
abbrev Key:=Sum Int Str
def keyIs:Key->Value->Bool
 | .inl k,v=>Value.isInt k v
 | .inr x,v=>Value.isStrOf x v
def keyH (w:World):Key->Int
 | .inl k=>hashInt k
 | .inr x=>hashStr w x
theorem keyIs_shape:∀ {k:Key}{v:Value},keyIs k v=true->(∃ i t,k=Sum.inl i∧v=Value.int i t)∨(∃ x t,k=Sum.inr x∧v=Value.str x t)
 | .inl i,v,h=>by
  obtain ⟨t,e⟩:=Value.isInt_shape (k:=i) (v:=v) h
  exact .inl ⟨i,t,rfl,e⟩
 | .inr x,v,h=>by
  obtain ⟨t,e⟩:=Value.isStrOf_shape (x:=x) (v:=v) h
  exact .inr ⟨x,t,rfl,e⟩
theorem keyIs_int (i:Int) (t:Tok):keyIs (.inl i) (.int i t)=true:=by simp [keyIs,Value.isInt]
theorem keyIs_str (x:Str) (t:Tok):keyIs (.inr x) (.str x t)=true:=by simp [keyIs,Value.isStrOf]
theorem key_ll (a b:Int):decide ((Sum.inl a:Key)=Sum.inl b)=(a == b):=by
 by_cases e:a=b
 ·subst e;simp
 ·have h:¬ (Sum.inl a:Key)=Sum.inl b:=fun q=>e (Sum.inl.inj q)
  rw [decide_eq_false h]
  exact (beq_eq_false_iff_ne.mpr e).symm
theorem key_rr (a b:Str):decide ((Sum.inr a:Key)=Sum.inr b)=decide (a=b):=by
 by_cases e:a=b
 ·subst e;simp
 ·have h:¬ (Sum.inr a:Key)=Sum.inr b:=fun q=>e (Sum.inr.inj q)
  rw [decide_eq_false h,decide_eq_false e]
theorem key_lr (a:Int) (b:Str):decide ((Sum.inl a:Key)=Sum.inr b)=false:=decide_eq_false (fun q=>nomatch q)
theorem key_rl (a:Str) (b:Int):decide ((Sum.inr a:Key)=Sum.inl b)=false:=decide_eq_false (fun q=>nomatch q)
def mixKind (prog:Program) (w:World):PySem.KeyKind prog w Key where
 is:=keyIs
 hash:=keyH w
 inj:=fun v a b ha hb=>by
  rcases keyIs_shape ha with ⟨i,t,rfl,rfl⟩|⟨x,t,rfl,rfl⟩
  ·rcases keyIs_shape hb with ⟨j,u,rfl,e⟩|⟨y,u,rfl,e⟩
   ·injection e with e1 _;rw [e1]
   ·exact nomatch e
  ·rcases keyIs_shape hb with ⟨j,u,rfl,e⟩|⟨y,u,rfl,e⟩
   ·exact nomatch e
   ·injection e with e1 _;rw [e1]
 byValue:=fun k v h=>by
  rcases keyIs_shape h with ⟨i,t,rfl,rfl⟩|⟨x,t,rfl,rfl⟩<;>rfl
 pyHash:=fun hv h=>by
  rcases keyIs_shape hv with ⟨i,t,rfl,rfl⟩|⟨x,t,rfl,rfl⟩
  ·exact wpAny_pyHash_int h
  ·exact wpAny_pyHash_str h
 eqBool:=fun hu hv h=>by
  rcases keyIs_shape hu with ⟨i,t,rfl,rfl⟩|⟨x,t,rfl,rfl⟩
  ·rcases keyIs_shape hv with ⟨j,u,rfl,rfl⟩|⟨y,u,rfl,rfl⟩
   ·rw [key_ll] at h;exact wpAny_eqBool_int h
   ·rw [key_lr] at h;exact SeqAt.EqAt.int_str i t y u _ _ _ _ h
  ·rcases keyIs_shape hv with ⟨j,u,rfl,rfl⟩|⟨y,u,rfl,rfl⟩
   ·rw [key_rl] at h;exact SeqAt.EqAt.str_int x t j u _ _ _ _ h
   ·rw [key_rr] at h;exact wpAny_eqBool_str h
 «strs»:=fun k x t v h=>by
  rcases keyIs_shape h with ⟨i,u,rfl,e⟩|⟨y,u,rfl,e⟩
  ·exact nomatch e
  ·injection e with e1 _
   subst e1
   cases v<;>rfl
theorem mixKind_int (prog:Program) (w:World) (i:Int) (t:Tok):(mixKind prog w).is (.inl i) (.int i t)=true:=keyIs_int i t
theorem mixKind_str (prog:Program) (w:World) (x:Str) (t:Tok):(mixKind prog w).is (.inr x) (.str x t)=true:=keyIs_str x t
end L2
namespace L2
open PySem PySem.Spec PyProof.Rows
inductive V where
 | non|bl (b:Bool)|int (i:Int)|str (x:Str)|byt (b:Array UInt8)|flt (b:UInt64)|ref (a:Addr)|ty (n:String)
 deriving DecidableEq
def RelV:V->Value->Prop
 | .non,u=>u=Value.none
 | .bl b,u=>u=Value.bool b
 | .int i,u=>∃ t,u=Value.int i t
 | .str x,u=>∃ t,u=Value.str x t
 | .byt b,u=>∃ t,u=Value.bytes b t
 | .flt b,u=>∃ t,u=Value.float b t
 | .ref a,u=>u=Value.ref a
 | .ty n,u=>u=Value.type n
abbrev Vals:List V->List Value->Prop:=Paired RelV
theorem Vals.length {xs:List V}{us:List Value}(r:Vals xs us):xs.length=us.length:=Paired.length r
theorem Vals.get:∀ {xs:List V}{us:List Value}{i:Nat}{x:V},Vals xs us->xs[i]? = some x->∃ u,us[i]? = some u∧RelV x u
 | _,_,_,_,.nil,e=>by simp at e
 | _,_,0,_,.cons r _,e=>by simp at e;subst e;exact ⟨_,rfl,r⟩
 | _,_,i+1,x,.cons _ t,e=>by
  obtain ⟨u,h1,h2⟩:=Vals.get (i:=i) (x:=x) t (by simpa using e)
  exact ⟨u,by simpa using h1,h2⟩
theorem Vals.append:∀ {xs ys:List V}{us ws:List Value},Vals xs us->Vals ys ws->Vals (xs++ys) (us++ws)
 | _,_,_,_,.nil,s=>s
 | _,_,_,_,.cons r t,s=>.cons r (Vals.append t s)
def RelO:Option V->Option Value->Prop
 | some v,some u=>RelV v u
 | none,none=>True
 | _,_=>False
def KV {κ:Type}:List (κ × V)->List (κ × Value)->Prop:=Paired fun (p:κ × V) (q:κ × Value)=>p.1=q.1∧RelV p.2 q.2
def kV:Key->V
 | .inl i=>.int i
 | .inr x=>.str x
inductive HO where
 | lst (xs:List V)
 | tup (xs:List V)
 | dK (kvs:List (Key × V))|dT (kvs:List (List Key × V))
 | set (S:Int->Bool) (n:Nat)
 | ins (C dx:Addr) (fs:List (Str × V))
 | own (x:Addr)
 | xd (fs:List (Str × V))
 | met (f x:Addr)
 | rng (lo hi:Int)
 | frz (o:Obj) (u:HO)
 | tbl (ps:Array Value)
 | ext (φ:Heap->Prop)
abbrev Hp:=Addr->Option HO
def upd (H:Hp) (a:Addr) (o:HO):Hp:=fun b=>if b=a then some o else H b
theorem upd_same {H:Hp}{a:Addr}{o:HO}:upd H a o a=some o:=by unfold upd;rw [if_pos rfl]
theorem upd_ne {H:Hp}{a b:Addr}{o:HO}(h:b ≠ a):upd H a o b=H b:=by unfold upd;rw [if_neg h]
theorem upd_upd {H:Hp}{a:Addr}{o u:HO}:upd (upd H a o) a u=upd H a u:=by
 funext b;unfold upd;split<;>rfl
theorem ne_of {H:Hp}{a b:Addr}{o u:HO}(h:H a=some o) (h':H b=some u) (d:o ≠ u):a ≠ b:=by
 intro e;subst e;rw [h] at h';exact d (Option.some.inj h')
theorem ne_of_none {H:Hp}{a b:Addr}{o:HO}(h:H a=some o) (h':H b=none):a ≠ b:=by
 intro e;subst e;rw [h] at h';cases h'
section
variable (P:Program) (w:World)
def ObjOk (H:Hp) (h:Heap) (a:Addr):HO->Prop
 | .lst xs=>xs.length≤sizeLine∧∃ (its:List Value) (n:Nat),Vals xs its∧h.get? a=some { cls:=.type "list",data:=.seq its.toArray n }
 | .tup xs=>xs.length≤sizeLine∧∃ its:List Value,Vals xs its∧IsTup h a its.toArray
 | .dK kvs=>kvs.length≤sizeLine∧(a == sysModules)=false∧∃ vs,KV kvs vs∧h.DictOf (mixKind P w) a vs
 | .dT kvs=>kvs.length≤sizeLine∧(a == sysModules)=false∧∃ xs:List (List Key × Addr × Value),
   Paired (fun (p:List Key × V) (q:List Key × Addr × Value)=>p.1=q.1∧H q.2.1=some (.tup (p.1.map kV))∧RelV p.2 q.2.2) kvs xs ∧
   ∃ o es ep,h.get? a=some o∧o.ExactDict∧o.data=.dict es ep∧es.toList=xs.map (entryOfKey (tupleKind (mixKind P w)))∧(xs.map (·.1)).Nodup
 | .set S n=>h.SetOf (intKind P w) a S n
 | .ins C dx fs=>H dx=some (.own a)∧fs.length≤1000∧dx ≠ a∧h.get? a=some (PySem.W.instObj C dx) ∧
   ∃ mA,h.Ns1 dx mA∧(∀ f,RelO (fs.lookup f) (mA f))∧PySem.Within mA (fs.map (·.1))
 | .own _=>∃ o,h.get? a=some o
 | .xd fs=>∃ mA,h.Ns1 a mA∧∀ f,RelO (fs.lookup f) (mA f)
 | .rng lo hi=>∃ t u v,h.get? a=some { cls:=.type "range",data:=.fields #[.int lo t,.int hi u,.int 1 v] }
 | .frz o u=>h.get? a=some o∧ObjOk H h a u
 | .tbl ps=>h.get? a=some { cls:=.none,data:=.fields ps }
 | .met f x=>h.get? a=some (PySem.W.methodObj (.ref f) (.ref x))
 | .ext φ=>φ h∧(∃ o,h.get? a=some o)∧∀ h1 h2:Heap,φ h1->(∀ o,h1.get? a=some o->h2.get? a=some o)->φ h2
def HOk (H:Hp) (h:Heap):Prop:=∀ a o,H a=some o->ObjOk P w H h a o
end
section
variable {P:Program}{w:World}{H H':Hp}{h h':Heap}{a:Addr}{o:HO}
theorem ObjOk.lt (x:ObjOk P w H h a o):a < h.objs.size:=by
 cases o with
 | lst xs=>obtain ⟨_,_,_,_,e⟩:=x;exact Heap.lt_size e
 | tup xs=>obtain ⟨_,_,_,p⟩:=x;exact p.lt
 | dK kvs=>obtain ⟨_,_,_,_,o,_,_,e,_⟩:=x;exact Heap.lt_size e
 | dT kvs=>obtain ⟨_,_,_,_,o,_,_,e,_⟩:=x;exact Heap.lt_size e
 | set S n=>obtain ⟨o,_,_,_,e,_⟩:=x;exact Heap.lt_size e
 | ins C dx fs=>obtain ⟨_,_,_,e,_⟩:=x;exact Heap.lt_size e
 | own y=>obtain ⟨_,e⟩:=x;exact Heap.lt_size e
 | xd fs=>obtain ⟨_,⟨_,_,_,e,_⟩,_⟩:=x;exact Heap.lt_size e
 | rng lo hi=>obtain ⟨_,_,_,e⟩:=x;exact Heap.lt_size e
 | frz ob u=>obtain ⟨e,_⟩:=x;exact Heap.lt_size e
 | tbl ps=>exact Heap.lt_size (show h.get? a=some _ from x)
 | met f y=>exact Heap.lt_size (show h.get? a=some _ from x)
 | ext φ=>obtain ⟨_,⟨_,e⟩,_⟩:=x;exact Heap.lt_size e
theorem Paired.mapP {α β:Type}{F G:α->β->Prop}:∀ {l₁:List α}{l₂:List β},Paired F l₁ l₂->(∀ a b,F a b->G a b)->Paired G l₁ l₂
 | _,_,.nil,_=>.nil
 | _,_,.cons r t,f=>.cons (f _ _ r) (Paired.mapP t f)
theorem ObjOk.stay (x:ObjOk P w H h a o) (k:∀ b u,(b=a∨H b=some (.own a))->h.get? b=some u->h'.get? b=some u)
  (ho:∀ b,H b=some (.own a)->H' b=some (.own a)) (ht:∀ b xs,H b=some (.tup xs)->H' b=some (.tup xs)):ObjOk P w H' h' a o:=by
 induction o with
 | lst xs=>obtain ⟨z,its,n,r,e⟩:=x;exact ⟨z,its,n,r,k _ _ (.inl rfl) e⟩
 | tup xs=>obtain ⟨z,its,r,ob,e,c⟩:=x;exact ⟨z,its,r,ob,k _ _ (.inl rfl) e,c⟩
 | dK kvs=>obtain ⟨z,y,vs,r,ob,es,ep,e,c⟩:=x;exact ⟨z,y,vs,r,ob,es,ep,k _ _ (.inl rfl) e,c⟩
 | dT kvs=>
  obtain ⟨z,y,xs,r,ob,es,ep,e,c⟩:=x
  exact ⟨z,y,xs,Paired.mapP r fun p q z=>⟨z.1,ht _ _ z.2.1,z.2.2⟩,ob,es,ep,k _ _ (.inl rfl) e,c⟩
 | set S n=>obtain ⟨ob,es,ep,t,e,c⟩:=x;exact ⟨ob,es,ep,t,k _ _ (.inl rfl) e,c⟩
 | ins C dx fs=>
  obtain ⟨d,z,ne,e,mA,⟨od,es,ep,e2,c⟩,r⟩:=x
  exact ⟨ho _ d,z,ne,k _ _ (.inl rfl) e,mA,⟨od,es,ep,k _ _ (.inr d) e2,c⟩,r⟩
 | own y=>obtain ⟨ob,e⟩:=x;exact ⟨ob,k _ _ (.inl rfl) e⟩
 | xd fs=>obtain ⟨mA,⟨od,es,ep,e,c⟩,r⟩:=x;exact ⟨mA,⟨od,es,ep,k _ _ (.inl rfl) e,c⟩,r⟩
 | rng lo hi=>obtain ⟨t,u,v,e⟩:=x;exact ⟨t,u,v,k _ _ (.inl rfl) e⟩
 | frz ob u ih=>obtain ⟨e,q⟩:=x;exact ⟨k _ _ (.inl rfl) e,ih q⟩
 | tbl ps=>
  have e:h.get? a=some { cls:=.none,data:=.fields ps }:=x
  show h'.get? a=some { cls:=.none,data:=.fields ps }
  exact k a _ (.inl rfl) e
 | met f y=>
  have e:h.get? a=some (PySem.W.methodObj (.ref f) (.ref y)):=x
  show h'.get? a=some (PySem.W.methodObj (.ref f) (.ref y))
  exact k a _ (.inl rfl) e
 | ext φ=>obtain ⟨p,⟨o,e⟩,st⟩:=x;exact ⟨st _ _ p fun o q=>k _ _ (.inl rfl) q,⟨o,k _ _ (.inl rfl) e⟩,st⟩
theorem HOk.lt (x:HOk P w H h) (e:H a=some o):a < h.objs.size:=(x a o e).lt
theorem HOk.fresh (x:HOk P w H h) (e:h.objs.size≤a):H a=none:=by
 cases q:H a with
 | none=>rfl
 | some u=>exact absurd (Nat.lt_of_lt_of_le (x.lt q) e) (Nat.lt_irrefl _)
theorem HOk.kept (x:HOk P w H h) (k:∀ b u,h.get? b=some u->h'.get? b=some u):HOk P w H h':=fun a o e=>
 (x a o e).stay (fun b u _ q=>k b u q) (fun _ q=>q) fun _ _ q=>q
theorem HOk.laid (x:HOk P w H h) (k:∀ b u,h.get? b=some u->h'.get? b=some u) (hp:h.objs.size≤a) (new:ObjOk P w (upd H a o) h' a o):HOk P w (upd H a o) h':=fun b u e=>by
 have hn:=x.fresh hp
 by_cases hb:b=a
 ·subst hb;rw [upd_same] at e;cases e;exact new
 ·rw [upd_ne hb] at e
  exact (x b u e).stay (fun c v _ q=>k c v q) (fun c q=>by rw [upd_ne (ne_of_none q hn)];exact q) fun c xs q=>by rw [upd_ne (ne_of_none q hn)];exact q
end
def Rd (H:Hp) (a:Addr) (u:HO):Prop:=H a=some u∨∃ o,H a=some (.frz o u)
theorem Rd.ok {P:Program}{w:World}{H:Hp}{h:Heap}{a:Addr}{u:HO}(r:Rd H a u) (x:HOk P w H h):ObjOk P w H h a u:=by
 rcases r with r|⟨o,r⟩
 ·exact x a u r
 ·obtain ⟨_,q⟩:=x a _ r
  exact q
def Mut:Option HO->Prop
 | some (.lst _)=>True
 | some (.dK _)=>True
 | some (.dT _)=>True
 | some (.set _ _)=>True
 | some (.ins _ _ _)=>True
 | some (.ext _)=>True
 | _=>False
section
variable {P:Program}{w:World}{H:Hp}{h h':Heap}{x e:Addr}{o':HO}
theorem HOk.write (ok:HOk P w H h) (mu:Mut (H x)) (he:e=x∨H e=some (.own x)) (k:∀ b u,b ≠ e->h.get? b=some u->h'.get? b=some u) (heo:∃ u,h'.get? e=some u)
  (new:ObjOk P w (upd H x o') h' x o'):HOk P w (upd H x o') h':=fun b u q=>by
 have nown:∀ c y,H c=some (.own y)->c ≠ x:=fun c y r z=>by subst z;rw [r] at mu;exact mu
 have ntup:∀ c xs,H c=some (.tup xs)->c ≠ x:=fun c xs r z=>by subst z;rw [r] at mu;exact mu
 by_cases hb:b=x
 ·subst hb;rw [upd_same] at q;cases q;exact new
 ·rw [upd_ne hb] at q
  by_cases hbe:b=e
  ·have q':H b=some (.own x):=by
    rcases he with z|z
    ·exact absurd (hbe.trans z) hb
    ·rw [hbe];exact z
   rw [q] at q';cases q'
   obtain ⟨v,hv⟩:=heo
   exact ⟨v,by rw [hbe];exact hv⟩
  ·refine (ok b u q).stay (fun c v hc r=>k c v ?_ r) (fun c r=>by rw [upd_ne (nown c b r)];exact r) fun c xs r=>by rw [upd_ne (ntup c xs r)];exact r
   rcases hc with rfl|hc
   ·exact hbe
   ·rintro rfl
    rcases he with z|z
    ·exact nown c b hc z
    ·rw [hc] at z;cases z;exact hb rfl
end
structure Un (fs ex:List Addr) (H H':Hp) (h h':Heap):Prop where
 keep:∀ b o,h.get? b=some o->H b=none->b ∉ fs->b ∉ ex->h'.get? b=some o
 slot:∀ b o,h.get? b=some o->H b=none->b∈fs->b ∉ ex->∃ sl,h'.get? b=some { o with slots:=sl }
 free:∀ b o,h.get? b=some o->H b=none->b ∉ ex->H' b=none
 there:∀ b o,h.get? b=some o->b ∉ ex->∃ o',h'.get? b=some o'
 tups:∀ b xs,H b=some (.tup xs)->H' b=some (.tup xs)
 frzs:∀ b o u,H b=some (.frz o u)->H' b=some (.frz o u)
 tbls:∀ b ps,H b=some (.tbl ps)->∃ more,H' b=some (.tbl (ps++more))
section
variable {fs fs' ex ex':List Addr}{H H1 H2:Hp}{h h1 h2 h':Heap}{a x e:Addr}{o:HO}
theorem Un.any (u:Un fs ex H H1 h h1){b:Addr}{ob:Obj}(q:h.get? b=some ob) (n:H b=none) (hx:b ∉ ex):∃ sl,h1.get? b=some { ob with slots:=sl }:=by
 by_cases hb:b∈fs
 ·exact u.slot b ob q n hb hx
 ·exact ⟨ob.slots,u.keep b ob q n hb hx⟩
theorem Un.trans (a:Un fs ex H H1 h h1) (b:Un fs ex H1 H2 h1 h2):Un fs ex H H2 h h2 where
 keep:=fun c ob q n hc hx=>b.keep c ob (a.keep c ob q n hc hx) (a.free c ob q n hx) hc hx
 slot:=fun c ob q n hc hx=>by
  obtain ⟨sl,e1⟩:=a.slot c ob q n hc hx
  obtain ⟨sl',e2⟩:=b.slot c _ e1 (a.free c ob q n hx) hc hx
  exact ⟨sl',e2⟩
 free:=fun c ob q n hx=>by
  obtain ⟨o',e1⟩:=a.there c ob q hx
  exact b.free c o' e1 (a.free c ob q n hx) hx
 there:=fun c ob q hx=>by
  obtain ⟨o',e1⟩:=a.there c ob q hx
  exact b.there c o' e1 hx
 tups:=fun c xs q=>b.tups c xs (a.tups c xs q)
 frzs:=fun c ob xs q=>b.frzs c ob xs (a.frzs c ob xs q)
 tbls:=fun c ps q=>by
  obtain ⟨m1,e1⟩:=a.tbls c ps q
  obtain ⟨m2,e2⟩:=b.tbls c _ e1
  exact ⟨m1++m2,by rw [e2,Array.append_assoc]⟩
theorem Un.kept (k:∀ b u,h.get? b=some u->h'.get? b=some u):Un fs ex H H h h':=
 ⟨fun b ob q _ _ _=>k b ob q,fun b ob q _ _ _=>⟨ob.slots,k b ob q⟩,fun _ _ _ n _=>n,fun b ob q _=>⟨ob,k b ob q⟩,fun _ _ q=>q,fun _ _ _ q=>q,fun _ ps q=>⟨#[],by rw [q];simp⟩⟩
theorem Un.refl:Un fs ex H H h h:=Un.kept fun _ _ q=>q
theorem Un.laid (k:∀ b u,h.get? b=some u->h'.get? b=some u) (hp:h.objs.size≤a) (hn:H a=none):Un fs ex H (upd H a o) h h' where
 keep:=fun b u q _ _ _=>k b u q
 slot:=fun b u q _ _ _=>⟨u.slots,k b u q⟩
 free:=fun b u q n _=>by rw [upd_ne (Nat.ne_of_lt (Nat.lt_of_lt_of_le (Heap.lt_size q) hp))];exact n
 there:=fun b u q _=>⟨u,k b u q⟩
 tups:=fun b xs q=>by rw [upd_ne (ne_of_none q hn)];exact q
 frzs:=fun b u xs q=>by rw [upd_ne (ne_of_none q hn)];exact q
 tbls:=fun b ps q=>⟨#[],by rw [upd_ne (ne_of_none q hn),q];simp⟩
theorem Un.write (mu:Mut (H x)) (he:e=x∨H e=some (.own x)) (k:∀ b u,b ≠ e->h.get? b=some u->h'.get? b=some u) (heo:∃ u,h'.get? e=some u):Un fs ex H (upd H x o) h h':=by
 have hx:∀ b,H b=none->b ≠ x:=fun b n z=>by subst z;rw [n] at mu;exact mu
 have hb:∀ b,H b=none->b ≠ e:=fun b n z=>by
  subst z
  rcases he with r|r
  ·exact hx b n r
  ·rw [n] at r;cases r
 have hm:∀ b u,H b=some u->¬ Mut (some u)->b ≠ x:=fun b u q nm z=>by subst z;rw [q] at mu;exact nm mu
 refine ⟨fun b u q n _ _=>k b u (hb b n) q,fun b u q n _ _=>⟨u.slots,k b u (hb b n) q⟩,fun b u q n _=>by rw [upd_ne (hx b n)];exact n,fun b u q _=>?_,
  fun b xs q=>by rw [upd_ne (hm b _ q fun z=>z)];exact q,fun b u xs q=>by rw [upd_ne (hm b _ q fun z=>z)];exact q,fun b ps q=>⟨#[],by rw [upd_ne (hm b _ q fun z=>z),q];simp⟩⟩
 by_cases hbe:b=e
 ·subst hbe;exact heo
 ·exact ⟨u,k b u hbe q⟩
end
def trk (h:Heap) (H:Hp):List Addr:=(List.range h.objs.size).filter fun a=>(H a).isSome
def hidT (h:Heap) (H:Hp):Heap:=PySem.W.hideAll h (trk h H)
theorem hidT_size (h:Heap) (H:Hp):(hidT h H).objs.size=h.objs.size:=PySem.W.hideAll_size _ _
theorem hidT_get {h:Heap}{H:Hp}{b:Addr}{o:Obj}(e:h.get? b=some o) (n:H b=none):(hidT h H).get? b=some o:=
 PySem.W.hideAll_get _ e fun hm=>by
  have q:(H b).isSome=true:=(List.mem_filter.mp hm).2
  rw [n] at q;simp at q
theorem of_hidT {h:Heap}{H:Hp}{b:Addr}{o:Obj}(e:(hidT h H).get? b=some o):h.get? b=some o∧H b=none:=by
 have e':h.get? b=some o:=PySem.W.of_hideAll (trk h H) e
 refine ⟨e',?_⟩
 cases q:H b with
 | none=>rfl
 | some x=>
  have hm:b∈trk h H:=List.mem_filter.mpr ⟨List.mem_range.mpr (Heap.lt_size e'),by simp [q]⟩
  have z:(hidT h H).get? b=none:=PySem.W.hideAll_none (trk h H) hm
  rw [z] at e;cases e
def allNews (g h:Heap) (L:Addr):List (Addr × Obj):=(List.range h.objs.size).filterMap fun a=>if a=L∨(g.get? a).isSome=true then none else (h.get? a).map fun o=>(a,o)
def rest (g h:Heap) (L d:Addr):List (Addr × Obj):=(allNews g h L).filter fun p=>decide (p.1 ≠ d)
end L2
namespace L2
open PySem PySem.Spec PyProof.Rows
structure Mod (K:PySem.W.Frag) (mg:Str->Option Value) (base:Heap):Prop where
 kin:K.In base
 glob:base.Ns mainGlobals mg
 blt:∃ mb,base.Ns builtinsNs mb∧∀ x:Str,x ≠ "__name__" → mb x=bootBuiltins x
 nolimit:base.NoLimit
structure Cx where
 prog:Program
 w:World
 K:PySem.W.Frag
 mg:Str->Option Value
 base:Heap
 A:Around
 N:List Str
 s₀:Shared
 H₀:Hp
 env:Env
 outer:List Env
 stack:List Env
 ex:List Addr
 fn:Str->Bool
 calm:Bool
 pn:List (Addr × Obj)
 xe:Value->Shared->Prop
def frs (l:List Env):List Addr:=l.filterMap (·.frame)
abbrev Cx.fs (X:Cx):List Addr:=frs X.outer
def Vis (sc:Scope) (x:Str):Prop:=sc.names.lookup x=some .local∨sc.names.lookup x=some .cell∨sc.names.lookup x=some .free
def Loc (sc:Scope) (x:Str):Prop:=sc.names.lookup x=some .local∨sc.names.lookup x=some .cell
def Look (env:Env) (h:Heap) (m:Str->Option Value) (x:Str) (u:Value):Prop:=
 (env.kindOf x=some .local∧m x=some u)∨((env.kindOf x=some .cell∨env.kindOf x=some .free)∧∃ c,env.cells.lookup x=some c∧h.IsCell c (some u))
structure Cx.Ok (X:Cx):Prop where
 mod:Mod X.K X.mg X.base
 kind:X.env.scope.kind=.function
 glob:X.env.globals=mainGlobals
 blt:X.env.builtins=builtinsNs
 above:X.s₀.heap.objs.size≤X.env.locals
 inj:∀ x y c,X.env.cells.lookup x=some c->X.env.cells.lookup y=some c->x=y
 has:∀ x,(X.env.kindOf x=some .cell∨X.env.kindOf x=some .free)->∃ c,X.env.cells.lookup x=some c
 cab:∀ x c,X.fn x=true->X.env.cells.lookup x=some c->X.s₀.heap.objs.size≤c
 hd:X.calm=true->X.A.handled=none
 frames:X.A.frames=some X.stack
 stk:X.stack=X.outer∨(X.stack=X.env::X.outer∧X.env.frame=some X.env.locals)
 exf:∀ b∈X.ex,b ≠ X.env.locals∧∀ x c,X.env.cells.lookup x=some c->c ≠ b
 bs:∀ b o,X.base.get? b=some o->X.s₀.heap.get? b=some o∧X.H₀ b=none
 bsz:X.base.objs.size≤X.s₀.heap.objs.size
 noex:∀ b o,X.base.get? b=some o->b ∉ X.ex
 exfs:∀ b∈X.ex,b ∉ X.fs
 funs:X.s₀.heap.FunFrames X.base X.outer
 frf:∀ b∈X.fs,X.H₀ b=none
structure Inv (X:Cx) (pins:List (Addr × Obj)) (σ:List (Option V)) (H:Hp) (s:Shared):Prop where
 ok:X.Ok
 os:s.os=X.s₀.os
 bare:AllBare s.gens
 base:Un X.fs X.ex X.H₀ H X.s₀.heap s.heap
 loc:∃ m,s.heap.Ns X.env.locals m∧∀ (i:Nat) (x:Str) (v:V),X.N[i]? = some x->σ[i]? = some (some v)->Vis X.env.scope x->∃ u,RelV v u∧Look X.env s.heap m x u
 cell:∀ x c,X.env.cells.lookup x=some c->∃ v,s.heap.IsCell c v
 free:H X.env.locals=none
 freeC:∀ x c,X.env.cells.lookup x=some c->H c=none
 pin:∀ p∈X.pn++pins,s.heap.get? p.1=some p.2∧H p.1=none∧p.1 ≠ X.env.locals∧p.1 ∉ X.fs∧∀ v,p.2.data ≠ .cell v
 hok:HOk X.prog X.w H s.heap
 len:σ.length=X.N.length
section
variable {X:Cx}{pins:List (Addr × Obj)}{σ:List (Option V)}{H H':Hp}{s:Shared}{h':Heap}
theorem Cx.Ok.nofr (ok:X.Ok){b:Addr}{o:Obj}(e:X.base.get? b=some o):b ∉ X.fs:=fun hb=>by
 have:=(ok.funs.mem hb).1
 rw [e] at this;cases this
theorem Inv.bs (I:Inv X pins σ H s):∀ b o,X.base.get? b=some o->s.heap.get? b=some o∧H b=none:=fun b o e=>
 ⟨I.base.keep b o (I.ok.bs b o e).1 (I.ok.bs b o e).2 (I.ok.nofr e) (I.ok.noex b o e),I.base.free b o (I.ok.bs b o e).1 (I.ok.bs b o e).2 (I.ok.noex b o e)⟩
theorem Inv.bk (I:Inv X pins σ H s):∀ b o,X.base.get? b=some o->s.heap.get? b=some o:=fun b o e=>(I.bs b o e).1
theorem Inv.mod (I:Inv X pins σ H s):Mod X.K X.mg X.base:=I.ok.mod
theorem Inv.kIn (I:Inv X pins σ H s):X.K.In s.heap:=I.ok.mod.kin.keeps I.bk
theorem Inv.lt (I:Inv X pins σ H s):X.env.locals < s.heap.objs.size:=let ⟨_,hn,_⟩:=I.loc;hn.lt
theorem Inv.sz (I:Inv X pins σ H s):X.s₀.heap.objs.size≤s.heap.objs.size:=Nat.le_trans I.ok.above (Nat.le_of_lt I.lt)
theorem Inv.nofs (I:Inv X pins σ H s){a:Addr}(h:s.heap.objs.size≤a):a ∉ X.fs:=fun hb=>by
 obtain ⟨_,o,ho,_⟩:=I.ok.funs.mem hb
 exact absurd (Nat.lt_of_lt_of_le (Heap.lt_size ho) (Nat.le_trans I.sz h)) (Nat.lt_irrefl _)
theorem Inv.cne (I:Inv X pins σ H s):∀ x c,X.env.cells.lookup x=some c->c ≠ X.env.locals:=fun x c e z=>by
 obtain ⟨v,o,ho,hd⟩:=I.cell x c e
 obtain ⟨m,⟨o',es,ep,ho',hd',_⟩,_⟩:=I.loc
 rw [z,ho'] at ho;cases ho;rw [hd'] at hd;cases hd
theorem Inv.funs (I:Inv X pins σ H s):s.heap.FunFrames X.base X.outer:=by
 have all:∀ (l:List Env),(∀ b∈frs l,b∈X.fs)->X.s₀.heap.FunFrames X.base l->s.heap.FunFrames X.base l:=by
  intro l
  induction l with
  | nil=>intro _ _;trivial
  | cons env r ih=>
   intro hs hl
   obtain ⟨hk,⟨L,o,hf,hn,ho,hd⟩,hr⟩:=hl
   have hL:L∈X.fs:=hs L (by unfold frs;rw [List.filterMap_cons,hf];exact List.mem_cons_self)
   obtain ⟨sl,e⟩:=I.base.slot L o ho (I.ok.frf L hL) hL fun z=>I.ok.exfs L z hL
   exact ⟨hk,⟨L,_,hf,hn,e,hd⟩,ih (fun b hb=>hs b (by unfold frs;rw [List.filterMap_cons,hf];exact List.mem_cons_of_mem _ hb)) hr⟩
 exact all X.outer (fun _ hb=>hb) I.ok.funs
theorem Inv.stack (I:Inv X pins σ H s):s.heap.FunFrames X.base X.stack:=by
 rcases I.ok.stk with e|⟨e,hf⟩
 ·rw [e];exact I.funs
 ·rw [e]
  obtain ⟨m,hn,_⟩:=I.loc
  refine .cons (by rw [I.ok.kind];decide) hf hn ?_ I.funs
  exact Heap.get?_none_of_le (Nat.le_trans I.ok.bsz I.ok.above)
theorem Inv.stkSub (I:Inv X pins σ H s):∀ b∈frs X.stack,b∈X.env.locals::X.fs:=fun b hb=>by
 rcases I.ok.stk with e|⟨e,hf⟩
 ·rw [e] at hb;exact List.mem_cons_of_mem _ hb
 ·rw [e] at hb
  unfold frs at hb
  rw [List.filterMap_cons,hf] at hb
  exact hb
theorem Inv.stkFree (I:Inv X pins σ H s):∀ b∈frs X.stack,H b=none:=fun b hb=>by
 rcases List.mem_cons.mp (I.stkSub b hb) with e|hb
 ·rw [e];exact I.free
 ·obtain ⟨_,o,ho,_⟩:=I.ok.funs.mem hb
  exact I.base.free b o ho (I.ok.frf b hb) fun z=>I.ok.exfs b z hb
theorem Inv.step {g':Array GenState}{t':Nat}{d':Drawn}{ch:List Addr}(I:Inv X pins σ H s)
  (hch:∀ b∈ch,(b∈X.ex∨X.s₀.heap.objs.size≤b)∧b ≠ X.env.locals∧(∀ x c,X.env.cells.lookup x=some c->c ≠ b)∧∀ p∈X.pn++pins,p.1 ≠ b)
  (keep:∀ b o,b ≠ X.env.locals->b ∉ X.fs->b ∉ ch->s.heap.get? b=some o->H b=none->h'.get? b=some o)
  (slot:∀ b o,b ≠ X.env.locals->b∈X.fs->b ∉ ch->s.heap.get? b=some o->H b=none->∃ sl,h'.get? b=some { o with slots:=sl }) (free:∀ b o,b ∉ ch->s.heap.get? b=some o->H b=none->H' b=none)
  (there:∀ b o,b ∉ ch->s.heap.get? b=some o->∃ o',h'.get? b=some o')
  (tups:∀ b xs,H b=some (.tup xs)->H' b=some (.tup xs)) (frzs:∀ b o u,H b=some (.frz o u)->H' b=some (.frz o u)) (tbls:∀ b ps,H b=some (.tbl ps)->∃ more,H' b=some (.tbl (ps++more)))
  (ns:∀ m,s.heap.Ns X.env.locals m->h'.Ns X.env.locals m) (hok:HOk X.prog X.w H' h') (hg:AllBare g') :
  Inv X pins σ H' { s with heap:=h',gens:=g',drawn:=d',toks:=t' }:=by
 have neL:∀ b o,X.s₀.heap.get? b=some o->b ≠ X.env.locals:=fun b o e=>Nat.ne_of_lt (Nat.lt_of_lt_of_le (Heap.lt_size e) I.ok.above)
 have neC:∀ b o,X.s₀.heap.get? b=some o->b ∉ X.ex->b ∉ ch:=fun b o e hx hb=>by
  rcases (hch b hb).1 with z|z
  ·exact hx z
  ·exact absurd (Nat.lt_of_lt_of_le (Heap.lt_size e) z) (Nat.lt_irrefl _)
 have cellK:∀ x c,X.env.cells.lookup x=some c->∀ v,s.heap.IsCell c v->h'.IsCell c v:=fun x c e v ⟨o,ho,hd⟩=>by
  have nch:c ∉ ch:=fun z=>(hch c z).2.2.1 x c e rfl
  by_cases hc:c∈X.fs
  ·obtain ⟨sl,q⟩:=slot c o (I.cne x c e) hc nch ho (I.freeC x c e)
   exact ⟨_,q,hd⟩
  ·exact ⟨o,keep c o (I.cne x c e) hc nch ho (I.freeC x c e),hd⟩
 refine ⟨I.ok,I.os,hg,⟨fun b o e n hb hx=>?_,fun b o e n hb hx=>?_,fun b o e n hx=>?_,fun b o e hx=>?_,fun b xs e=>tups b xs (I.base.tups b xs e),fun b o xs e=>frzs b o xs (I.base.frzs b o xs e),fun b ps e=>?_⟩,?_,fun x c e=>?_,?_,fun x c e=>?_,fun p hp=>?_,hok,I.len⟩
 ·exact keep b o (neL b o e) hb (neC b o e hx) (I.base.keep b o e n hb hx) (I.base.free b o e n hx)
 ·obtain ⟨sl,e1⟩:=I.base.slot b o e n hb hx
  obtain ⟨sl',e2⟩:=slot b _ (neL b o e) hb (neC b o e hx) e1 (I.base.free b o e n hx)
  exact ⟨sl',e2⟩
 ·obtain ⟨o',e1⟩:=I.base.there b o e hx
  exact free b o' (neC b o e hx) e1 (I.base.free b o e n hx)
 ·obtain ⟨o',e1⟩:=I.base.there b o e hx
  exact there b o' (neC b o e hx) e1
 ·obtain ⟨m1,e1⟩:=I.base.tbls b ps e
  obtain ⟨m2,e2⟩:=tbls b _ e1
  exact ⟨m1++m2,by rw [e2,Array.append_assoc]⟩
 ·obtain ⟨m,hn,hl⟩:=I.loc
  refine ⟨m,ns m hn,fun i x v e1 e2 e3=>?_⟩
  obtain ⟨u,r,l⟩:=hl i x v e1 e2 e3
  refine ⟨u,r,?_⟩
  rcases l with l|⟨k,c,e,z⟩
  ·exact .inl l
  ·exact .inr ⟨k,c,e,cellK x c e _ z⟩
 ·obtain ⟨v,z⟩:=I.cell x c e
  exact ⟨v,cellK x c e v z⟩
 ·obtain ⟨m,⟨o,_,_,ho,_⟩,_⟩:=I.loc
  exact free _ o (fun z=>(hch _ z).2.1 rfl) ho I.free
 ·obtain ⟨v,o,ho,hd⟩:=I.cell x c e
  exact free c o (fun z=>(hch c z).2.2.1 x c e rfl) ho (I.freeC x c e)
 ·obtain ⟨e,n,ne,nf,d⟩:=I.pin p hp
  have nch:p.1 ∉ ch:=fun z=>(hch p.1 z).2.2.2 p hp rfl
  exact ⟨keep p.1 p.2 ne nf nch e n,free p.1 p.2 nch e n,ne,nf,d⟩
theorem Inv.un {t':Nat}(I:Inv X pins σ H s) (u:Un X.fs [] H H' s.heap h') (hok:HOk X.prog X.w H' h'):Inv X pins σ H' { s with heap:=h',toks:=t' }:=by
 obtain ⟨m,⟨o,es,ep,ho,r⟩,_⟩:=id I.loc
 obtain ⟨sl,hL⟩:=u.any ho I.free (by simp)
 exact I.step (g':=s.gens) (d':=s.drawn) (ch:=[]) (fun _ z=>nomatch z) (fun b o _ hb _ e n=>u.keep b o e n hb (by simp)) (fun b o _ hb _ e n=>u.slot b o e n hb (by simp)) (fun b o _ e n=>u.free b o e n (by simp)) (fun b o _ e=>u.there b o e (by simp)) u.tups u.frzs u.tbls (fun m' hm=>by
  obtain ⟨o',es',ep',ho',r'⟩:=hm
  rw [ho] at ho';cases ho'
  exact ⟨_,es',ep',hL,r'⟩) hok I.bare
theorem Inv.call {g':Array GenState}{t':Nat}{d':Drawn}{ch:List Addr}(I:Inv X pins σ H s) (u:Un (frs X.stack) ch H H' s.heap h') (hok:HOk X.prog X.w H' h') (hg:AllBare g')
  (hch:∀ b∈ch,(b∈X.ex∨X.s₀.heap.objs.size≤b)∧b ≠ X.env.locals∧(∀ x c,X.env.cells.lookup x=some c->c ≠ b)∧∀ p∈X.pn++pins,p.1 ≠ b) :
  Inv X pins σ H' { s with heap:=h',gens:=g',drawn:=d',toks:=t' }:=by
 obtain ⟨m,⟨o,es,ep,ho,r⟩,_⟩:=id I.loc
 obtain ⟨sl,hL⟩:=u.any ho I.free fun z=>(hch _ z).2.1 rfl
 exact I.step (ch:=ch) hch (fun b o hL hb hc e n=>u.keep b o e n (fun z=>(List.mem_cons.mp (I.stkSub b z)).elim hL hb) hc) (fun b o _ _ hc e n=>u.any e n hc) (fun b o hc e n=>u.free b o e n hc) (fun b o hc e=>u.there b o e hc) u.tups u.frzs u.tbls (fun m' hm=>by
  obtain ⟨o',es',ep',ho',r'⟩:=hm
  rw [ho] at ho';cases ho'
  exact ⟨_,es',ep',hL,r'⟩) hok hg
theorem Inv.turned {t':Nat}{it:Addr}(I:Inv X pins σ H s) (k:∀ b o,b ≠ it->s.heap.get? b=some o->h'.get? b=some o) (hn:H it=none) (hL:it ≠ X.env.locals)
  (h1:it∈X.ex∨X.s₀.heap.objs.size≤it) (h2:∀ x c,X.env.cells.lookup x=some c->c ≠ it) (h3:∀ p∈X.pn++pins,p.1 ≠ it):Inv X pins σ H { s with heap:=h',toks:=t' }:=by
 have nit:∀ b u,H b=some u->b ≠ it:=fun b u e z=>by rw [z,hn] at e;cases e
 refine I.step (g':=s.gens) (d':=s.drawn) (ch:=[it]) (fun b hb=>?_) (fun b o _ _ hc e _=>k b o (fun z=>hc (by simp [z])) e) (fun b o _ _ hc e _=>⟨o.slots,k b o (fun z=>hc (by simp [z])) e⟩) (fun _ _ _ _ n=>n)
  (fun b o hc e=>⟨o,k b o (fun z=>hc (by simp [z])) e⟩) (fun _ _ e=>e) (fun _ _ _ e=>e) (fun b ps e=>⟨#[],by rw [e];simp⟩) (fun m hm=>?_) (fun b u e=>?_) I.bare
 ·have e:b=it:=by simpa using hb
  subst e
  exact ⟨h1,hL,h2,h3⟩
 ·obtain ⟨o,es,ep,ho,r⟩:=hm
  exact ⟨o,es,ep,k _ o (Ne.symm hL) ho,r⟩
 ·refine (I.hok b u e).stay (fun c v hc q=>k c v ?_ q) (fun _ q=>q) fun _ _ q=>q
  rcases hc with z|z
  ·rw [z];exact nit b u e
  ·exact nit c _ z
theorem Inv.tok (I:Inv X pins σ H s) (t:Nat):Inv X pins σ H { s with toks:=t }:=I.un (h':=s.heap) (t':=t) Un.refl I.hok
theorem Inv.kept {t':Nat}(I:Inv X pins σ H s) (k:∀ b u,s.heap.get? b=some u->h'.get? b=some u):Inv X pins σ H { s with heap:=h',toks:=t' }:=I.un (Un.kept k) (I.hok.kept k)
theorem Inv.laid {a:Addr}{o:HO}{t':Nat}(I:Inv X pins σ H s) (k:∀ b u,s.heap.get? b=some u->h'.get? b=some u) (hp:s.heap.objs.size≤a) (new:ObjOk X.prog X.w (upd H a o) h' a o) :
  Inv X pins σ (upd H a o) { s with heap:=h',toks:=t' }:=I.un (Un.laid k hp (I.hok.fresh hp)) (I.hok.laid k hp new)
theorem Inv.write {x e:Addr}{o:HO}{t':Nat}(I:Inv X pins σ H s) (mu:Mut (H x)) (he:e=x∨H e=some (.own x)) (k:∀ b u,b ≠ e->s.heap.get? b=some u->h'.get? b=some u) (heo:∃ u,h'.get? e=some u)
  (new:ObjOk X.prog X.w (upd H x o) h' x o):Inv X pins σ (upd H x o) { s with heap:=h',toks:=t' }:=I.un (Un.write mu he k heo) (I.hok.write mu he k heo new)
theorem Inv.weak {σ':List (Option V)}(I:Inv X pins σ H s) (hl:σ'.length=σ.length) (w:∀ (i:Nat) v,σ'[i]? = some (some v)->σ[i]? = some (some v)):Inv X pins σ' H s:=
 ⟨I.ok,I.os,I.bare,I.base,let ⟨m,hn,hl'⟩:=I.loc;⟨m,hn,fun i x v e1 e2 e3=>hl' i x v e1 (w i v e2) e3⟩,I.cell,I.free,I.freeC,I.pin,I.hok,hl.trans I.len⟩
theorem Inv.pins_of {pins':List (Addr × Obj)}(I:Inv X pins σ H s) (h:∀ p∈pins',s.heap.get? p.1=some p.2∧H p.1=none∧p.1 ≠ X.env.locals∧p.1 ∉ X.fs∧∀ v,p.2.data ≠ .cell v):Inv X pins' σ H s:=
 ⟨I.ok,I.os,I.bare,I.base,I.loc,I.cell,I.free,I.freeC,fun p hp=>(List.mem_append.mp hp).elim (fun z=>I.pin p (List.mem_append_left _ z)) (h p),I.hok,I.len⟩
theorem nodup_ix {N:List Str}(hN:N.Nodup){i j:Nat}{x:Str}(a:N[i]? = some x) (b:N[j]? = some x):i=j:=by
 obtain ⟨h1,e1⟩:=List.getElem?_eq_some_iff.mp a
 obtain ⟨h2,e2⟩:=List.getElem?_eq_some_iff.mp b
 exact (List.getElem_inj hN).mp (e1.trans e2.symm)
theorem store_ok2 {M:Model}{A:Around}{E:Value->Shared->Prop}{i:Nat}{x:Str}{v:V}{u:Value}{Q:Unit->Shared->Prop}(I:Inv X pins σ H s) (hN:X.N.Nodup) (hi:X.N[i]? = some x) (hx:Loc X.env.scope x) (r:RelV v u)
  (h:∀ s',Inv X pins (σ.set i (some v)) H s'->(∃ a,Heap.SameBut a s.heap s'.heap∧(a=X.env.locals∨X.env.cells.lookup x=some a))->Q () s') (hf:X.fn x=true∨X.env.scope.names.lookup x=some .local:=by first|exact .inl rfl|exact .inr rfl|assumption):wpAny M A (storeName X.env x u) Q E s:=by
 obtain ⟨m,hn,hl⟩:=id I.loc
 have hcls:(X.env.scope.kind == .class || (X.env.scope.kind == .module && X.env.locals != X.env.globals))=false:=by rw [I.ok.kind];rfl
 have hiσ:i < σ.length:=by rw [I.len];exact (List.getElem?_eq_some_iff.mp hi).1
 have cne:=I.cne
 have tracked:∀ {a:Addr} {h':Heap},(∃ o,s.heap.get? a=some o∧H a=none)->Heap.SameBut a s.heap h'->HOk X.prog X.w H h':=fun {a h'} ha hs b ob e=>by
  obtain ⟨_,_,hfree⟩:=ha
  refine (I.hok b ob e).stay (fun c w' hc q=>(hs.2 c ?_).trans q) (fun _ q=>q) fun _ _ q=>q
  rintro rfl
  rcases hc with rfl|hc
  ·rw [hfree] at e;cases e
  ·rw [hfree] at hc;cases hc
 rcases hx with hk|hk
 ·refine wpAny_storeName_local hk hn (fun h' hn' hs=>?_) hcls
  obtain ⟨oL,_,_,hoL,_⟩:=id hn
  refine h _ ⟨I.ok,I.os,I.bare,⟨fun b o e n hb hx=>?_,fun b o e n hb hx=>?_,I.base.free,fun b o e hx=>?_,I.base.tups,I.base.frzs,I.base.tbls⟩,⟨_,hn',fun j y v' e1 e2 e3=>?_⟩,fun y c e=>?_,I.free,I.freeC,fun p hp=>?_,tracked ⟨oL,hoL,I.free⟩ hs,by simpa using I.len⟩ ⟨_,hs,.inl rfl⟩
  ·exact (hs.2 b (Nat.ne_of_lt (Nat.lt_of_lt_of_le (Heap.lt_size e) I.ok.above))).trans (I.base.keep b o e n hb hx)
  ·obtain ⟨sl,e1⟩:=I.base.slot b o e n hb hx
   exact ⟨sl,(hs.2 b (Nat.ne_of_lt (Nat.lt_of_lt_of_le (Heap.lt_size e) I.ok.above))).trans e1⟩
  ·obtain ⟨o',e1⟩:=I.base.there b o e hx
   exact ⟨o',(hs.2 b (Nat.ne_of_lt (Nat.lt_of_lt_of_le (Heap.lt_size e) I.ok.above))).trans e1⟩
  ·by_cases hj:j=i
   ·subst hj
    rw [hi] at e1;cases e1
    rw [List.getElem?_set_self hiσ] at e2
    cases e2
    exact ⟨u,r,.inl ⟨hk,by simp⟩⟩
   ·rw [List.getElem?_set_ne (Ne.symm hj)] at e2
    obtain ⟨u',r',q⟩:=hl j y v' e1 e2 e3
    refine ⟨u',r',?_⟩
    rcases q with ⟨k,e⟩|⟨k,c,e,z⟩
    ·refine .inl ⟨k,?_⟩
     have:y ≠ x:=fun e=>hj (nodup_ix hN e1 (e ▸ hi))
     simp [this,e]
    ·exact .inr ⟨k,c,e,z.sameBut hs (cne y c e)⟩
  ·obtain ⟨w',z⟩:=I.cell y c e
   exact ⟨w',z.sameBut hs (cne y c e)⟩
  ·obtain ⟨e,n,ne,nf,d⟩:=I.pin p hp
   exact ⟨(hs.2 p.1 ne).trans e,n,ne,nf,d⟩
 ·have hfn:X.fn x=true:=by
   rcases hf with z|z
   ·exact z
   ·rw [z] at hk;cases hk
  obtain ⟨c,hc⟩:=I.ok.has x (.inl hk)
  obtain ⟨w',z⟩:=I.cell x c hc
  refine wpAny_storeName_cell I.ok.kind hk hc z (fun h' hc' hs=>?_)
  obtain ⟨oc,hoc,hocd⟩:=id z
  refine h { s with heap:=h' } ⟨I.ok,I.os,I.bare,⟨fun b o e n hb hx=>?_,fun b o e n hb hx=>?_,I.base.free,fun b o e hx=>?_,I.base.tups,I.base.frzs,I.base.tbls⟩,⟨m,hn.sameBut hs (Ne.symm (cne x c hc)),fun j y v' e1 e2 e3=>?_⟩,fun y c' e=>?_,I.free,I.freeC,fun p hp=>?_,tracked ⟨oc,hoc,I.freeC x c hc⟩ hs,by simpa using I.len⟩ ⟨c,hs,.inr hc⟩
  ·exact (hs.2 b (Nat.ne_of_lt (Nat.lt_of_lt_of_le (Heap.lt_size e) (I.ok.cab x c hfn hc)))).trans (I.base.keep b o e n hb hx)
  ·obtain ⟨sl,e1⟩:=I.base.slot b o e n hb hx
   exact ⟨sl,(hs.2 b (Nat.ne_of_lt (Nat.lt_of_lt_of_le (Heap.lt_size e) (I.ok.cab x c hfn hc)))).trans e1⟩
  ·obtain ⟨o',e1⟩:=I.base.there b o e hx
   exact ⟨o',(hs.2 b (Nat.ne_of_lt (Nat.lt_of_lt_of_le (Heap.lt_size e) (I.ok.cab x c hfn hc)))).trans e1⟩
  ·by_cases hj:j=i
   ·subst hj
    rw [hi] at e1;cases e1
    rw [List.getElem?_set_self hiσ] at e2
    cases e2
    exact ⟨u,r,.inr ⟨.inl hk,c,hc,hc'⟩⟩
   ·rw [List.getElem?_set_ne (Ne.symm hj)] at e2
    obtain ⟨u',r',q⟩:=hl j y v' e1 e2 e3
    refine ⟨u',r',?_⟩
    rcases q with q|⟨k,c',e,z'⟩
    ·exact .inl q
    ·refine .inr ⟨k,c',e,z'.sameBut hs ?_⟩
     rintro rfl
     exact hj (nodup_ix hN e1 (I.ok.inj _ _ _ e hc ▸ hi))
  ·by_cases hcc:c'=c
   ·subst hcc;exact ⟨_,hc'⟩
   ·obtain ⟨w2,z2⟩:=I.cell y c' e
    exact ⟨w2,z2.sameBut hs hcc⟩
  ·obtain ⟨e,n,ne,nf,d⟩:=I.pin p hp
   refine ⟨(hs.2 p.1 ?_).trans e,n,ne,nf,d⟩
   intro q
   rw [q,hoc] at e
   have q':oc=p.2:=Option.some.inj e
   exact d w' (by rw [←q'];exact hocd)
theorem store_ok {M:Model}{A:Around}{E:Value->Shared->Prop}{i:Nat}{x:Str}{v:V}{u:Value}{Q:Unit->Shared->Prop}(I:Inv X pins σ H s) (hN:X.N.Nodup) (hi:X.N[i]? = some x) (hx:Loc X.env.scope x) (r:RelV v u)
  (h:∀ s',Inv X pins (σ.set i (some v)) H s'->Q () s') (hf:X.fn x=true∨X.env.scope.names.lookup x=some .local:=by first|exact .inl rfl|exact .inr rfl|assumption):wpAny M A (storeName X.env x u) Q E s:=
 store_ok2 I hN hi hx r (fun s' I' _=>h s' I') hf
theorem Inv.call' {s':Shared}{ch:List Addr}(I:Inv X pins σ H s) (ho:s'.os=s.os) (u:Un (frs X.stack) ch H H' s.heap s'.heap) (hok:HOk X.prog X.w H' s'.heap) (hg:AllBare s'.gens)
  (hch:∀ b∈ch,(b∈X.ex∨X.s₀.heap.objs.size≤b)∧b ≠ X.env.locals∧(∀ x c,X.env.cells.lookup x=some c->c ≠ b)∧∀ p∈X.pn++pins,p.1 ≠ b):Inv X pins σ H' s':=by
 obtain ⟨h',g',d',t',o'⟩:=s'
 have e:o'=s.os:=ho
 subst e
 exact I.call (g':=g') (t':=t') (d':=d') u hok hg hch
end
abbrev XK:=Value->Option Addr->Hp->Prop
abbrev St:=List (Option V)
abbrev VK:=V->Hp->Prop
abbrev TE:=St->Hp->VK->Prop
abbrev TT:=St->Hp->(Bool->Hp->Prop)->Prop
abbrev TA:=St->Hp->(List V->Hp->Prop)->Prop
structure Ends where
 nx:St->Hp->Prop
 rt:VK
 bk:St->Hp->Prop:=fun _ _=>False
 ct:St->Hp->Prop:=fun _ _=>False
abbrev TS:=Ends->St->Hp->Prop
def EP (X:Cx) (pins:List (Addr × Obj)) (σ:St) (Q:VK) (u:Value) (s':Shared):Prop:=∃ v H',Inv X pins σ H' s'∧RelV v u∧Q v H'
def TP (X:Cx) (pins:List (Addr × Obj)) (σ:St) (Q:Bool->Hp->Prop) (b:Bool) (s':Shared):Prop:=∃ H',Inv X pins σ H' s'∧Q b H'
def AP (X:Cx) (pins:List (Addr × Obj)) (σ:St) (Q:List V->Hp->Prop) (us:List Value) (s':Shared):Prop:=∃ vs H',Inv X pins σ H' s'∧Vals vs us∧Q vs H'
def SP (X:Cx) (pins:List (Addr × Obj)) (D:Ends) (f:Flow) (s':Shared):Prop:=
 match f with
 | .next=>∃ σ' H',Inv X pins σ' H' s'∧D.nx σ' H'
 | .brk=>∃ σ' H',Inv X pins σ' H' s'∧D.bk σ' H'
 | .cont=>∃ σ' H',Inv X pins σ' H' s'∧D.ct σ' H'
 | .ret u=>∃ v σ' H',Inv X pins σ' H' s'∧RelV v u∧D.rt v H'
def PE (X:Cx) (e:Expr) (t:TE):Prop:=
 ∀ (pins:List (Addr × Obj)) (s:Shared) (σ:St) (H:Hp) (Q:VK),Inv X pins σ H s->t σ H Q->wpAny (model X.prog X.w) X.A (eval e X.env) (EP X pins σ Q) X.xe s
def PT (X:Cx) (e:Expr) (t:TT):Prop:=
 ∀ (pins:List (Addr × Obj)) (s:Shared) (σ:St) (H:Hp) (Q:Bool->Hp->Prop),Inv X pins σ H s->t σ H Q->wpAny (model X.prog X.w) X.A (isTrue e X.env (eval e X.env)) (TP X pins σ Q) X.xe s
def PW (X:Cx) (e:Expr) (t:TT):Prop:=
 ∀ (whole:Sem Value) (pins:List (Addr × Obj)) (s:Shared) (σ:St) (H:Hp) (Q:Bool->Hp->Prop),Inv X pins σ H s->t σ H Q->wpAny (model X.prog X.w) X.A (isTrue e X.env whole) (TP X pins σ Q) X.xe s
theorem PW.pt {X:Cx}{e:Expr}{t:TT}(h:PW X e t):PT X e t:=h _
def PA (X:Cx) (es:List Expr) (t:TA):Prop:=
 ∀ (pos:Pos) (pins:List (Addr × Obj)) (s:Shared) (σ:St) (H:Hp) (Q:List V->Hp->Prop),Inv X pins σ H s->t σ H Q->wpAny (model X.prog X.w) X.A (spliced (backTo pos (starEach es X.env))) (AP X pins σ Q) X.xe s
def PS (X:Cx) (st:Stmt) (t:TS):Prop:=
 ∀ (pins:List (Addr × Obj)) (s:Shared) (σ:St) (H:Hp) (D:Ends),Inv X pins σ H s->t D σ H->wpAny (model X.prog X.w) X.A (exec st X.env) (SP X pins D) X.xe s
def PSs (X:Cx) (st:List Stmt) (t:TS):Prop:=
 ∀ (pins:List (Addr × Obj)) (s:Shared) (σ:St) (H:Hp) (D:Ends),Inv X pins σ H s->t D σ H->wpAny (model X.prog X.w) X.A (execs st X.env) (SP X pins D) X.xe s
theorem thn {α:Type}{t:Sem α}{Q Q':α->Shared->Prop}{M:Model}{A:Around}{E:Value->Shared->Prop}{s:Shared}(h:wpAny M A t Q E s) (hQ:∀ a s,Q a s->Q' a s):wpAny M A t Q' E s:=wpAny_mono h hQ fun _ _ x=>x
end L2
namespace L2
open PySem PySem.Spec PyProof.Rows
section
variable {X:Cx}
def tVar (i:Nat):TE:=fun σ H Q=>∃ v,σ[i]? = some (some v)∧Q v H
def tC (v:V):TE:=fun _ H Q=>Q v H
theorem pe_var {i:Nat}{x:Str}{pos:Pos}(hN:X.N[i]? = some x) (hv:Vis X.env.scope x) (hd:(x == ("__debug__":Str))=false:=by decide) (hcd:(x == ("__classdict__":Str))=false:=by decide):PE X (.Name x pos) (tVar i):=by
 intro pins s σ H Q I h
 obtain ⟨v,e,h⟩:=h
 obtain ⟨m,hn,hl⟩:=I.loc
 obtain ⟨u,r,l⟩:=hl i x v hN e hv
 have fin:EP X pins σ Q u s:=⟨v,H,I,r,h⟩
 rcases l with ⟨hk,hm⟩|⟨hk,c,hc,hcell⟩
 ·exact wpAny_Name (wpAny_loadName_local I.ok.kind hk hn hm fin) hd
 ·rcases hk with hk|hk
  ·exact wpAny_Name (wpAny_loadName_cell I.ok.kind hk hc hcell fin) hd
  ·exact wpAny_Name (wpAny_loadName_free I.ok.kind hk hc hcell fin hcd) hd
theorem pe_int {i j pos}:PE X (.Constant (.int i) j pos) (tC (.int i)):=fun _ _ _ H _ I h=>wpAny_Constant_int ⟨.int i,H,I.tok _,⟨_,rfl⟩,h⟩
theorem pe_bl {b j pos}:PE X (.Constant (.bool b) j pos) (tC (.bl b)):=fun _ _ _ H _ I h=>Constant_bool ⟨.bl b,H,I,rfl,h⟩
theorem pe_str {x j pos}:PE X (.Constant (.str x) j pos) (tC (.str x)):=fun _ _ _ H _ I h=>Calls.Constant_str ⟨.str x,H,I.tok _,⟨_,rfl⟩,h⟩
def Gl (X:Cx) (x:Str):Prop:=X.env.kindOf x=some .globalImplicit
theorem ld_glob {E:Value->Shared->Prop}{pins:List (Addr × Obj)}{s:Shared}{σ:St}{H:Hp}{x:Str}{u:Value}{pos:Pos}{Q:Value->Shared->Prop}(I:Inv X pins σ H s) (hg:Gl X x) (hm:X.mg x=some u) (h:Q u s)
  (hd:(x == ("__debug__":Str))=false:=by decide):wpAny (model X.prog X.w) X.A (eval (.Name x pos) X.env) Q E s:=
 Calls.Name_function_global I.ok.kind hg (Calls.loadGlobal_global (by rw [I.ok.glob];exact I.mod.glob.keeps I.bk) hm h) hd
theorem ld_blt {E:Value->Shared->Prop}{pins:List (Addr × Obj)}{s:Shared}{σ:St}{H:Hp}{x:Str}{u:Value}{pos:Pos}{Q:Value->Shared->Prop}(I:Inv X pins σ H s) (hg:Gl X x) (hm:X.mg x=none) (hv:bootBuiltins x=some u) (h:Q u s)
  (hn:x ≠ "__name__":=by decide) (hd:(x == ("__debug__":Str))=false:=by decide):wpAny (model X.prog X.w) X.A (eval (.Name x pos) X.env) Q E s:=by
 obtain ⟨mb,h1,h2⟩:=I.mod.blt
 exact Calls.Name_function_global I.ok.kind hg (Calls.loadGlobal_builtin (by rw [I.ok.glob];exact I.mod.glob.keeps I.bk) hm (by rw [I.ok.blt];exact h1.keeps I.bk) ((h2 x hn).trans hv) h) hd
theorem pe_glob {x:Str}{v:V}{u:Value}{pos:Pos}(hg:Gl X x) (hm:X.mg x=some u) (r:RelV v u) (hd:(x == ("__debug__":Str))=false:=by decide):PE X (.Name x pos) (tC v):=
 fun _ _ _ H _ I h=>ld_glob I hg hm ⟨v,H,I,r,h⟩ hd
theorem pe_bltn {x:Str}{v:V}{u:Value}{pos:Pos}(hg:Gl X x) (hm:X.mg x=none) (hv:bootBuiltins x=some u) (r:RelV v u) (hn:x ≠ "__name__":=by decide) (hd:(x == ("__debug__":Str))=false:=by decide):PE X (.Name x pos) (tC v):=
 fun _ _ _ H _ I h=>ld_blt I hg hm hv ⟨v,H,I,r,h⟩ hn hd
variable {a b:Expr}{ta tb:TE}{pos:Pos}
def tB (t:TE):TT:=fun σ H Q=>t σ H fun x H1=>∃ c,x=.bl c∧Q c H1
theorem pt_val {e:Expr}{t:TE}(h:PE X e t) (he:∀ whole,isTrue e X.env whole=(do let v ←whole;standAt e.pos;holding [v] (truthy v)):=by intro _;rfl):PT X e (tB t):=by
 intro pins s σ H Q I hw
 refine isTrue_plain (thn (h pins s σ H _ I hw) fun v s1 ⟨x,H1,I1,r1,q1⟩=>?_) (he _)
 obtain ⟨d,rfl,q⟩:=q1
 cases r1
 exact wpAny_truthy_bool ⟨H1,I1,q⟩
variable {tA tB':TT}{rest:List Expr}
def tAnd (t u:TT):TT:=fun σ H Q=>t σ H fun c H1=>if c=true then u σ H1 Q else Q false H1
def tOr (t u:TT):TT:=fun σ H Q=>t σ H fun c H1=>if c=true then Q true H1 else u σ H1 Q
def tNot (t:TT):TT:=fun σ H Q=>t σ H fun c H1=>Q (!c) H1
theorem pw_and1 (ha:PT X a tA):PW X (.BoolOp .And [a] pos) tA:=by
 intro wh pins s σ H Q I h
 refine isTrue_and (thn (ha pins s σ H Q I h) fun c s1 e=>?_)
 cases c with
 | true=>exact isTrue_and_nil e
 | false=>exact e
theorem pw_or1 (ha:PT X a tA):PW X (.BoolOp .Or [a] pos) tA:=by
 intro wh pins s σ H Q I h
 refine isTrue_or (thn (ha pins s σ H Q I h) fun c s1 e=>?_)
 cases c with
 | false=>exact isTrue_or_nil e
 | true=>exact e
theorem pw_and (ha:PT X a tA) (hb:PW X (.BoolOp .And (b::rest) pos) tB'):PW X (.BoolOp .And (a::b::rest) pos) (tAnd tA tB'):=by
 intro wh pins s σ H Q I h
 refine isTrue_and (thn (ha pins s σ H _ I h) fun c s1 ⟨H1,I1,q1⟩=>?_)
 cases c with
 | true=>exact hb wh pins s1 σ H1 Q I1 q1
 | false=>exact ⟨H1,I1,q1⟩
theorem pw_or (ha:PT X a tA) (hb:PW X (.BoolOp .Or (b::rest) pos) tB'):PW X (.BoolOp .Or (a::b::rest) pos) (tOr tA tB'):=by
 intro wh pins s σ H Q I h
 refine isTrue_or (thn (ha pins s σ H _ I h) fun c s1 ⟨H1,I1,q1⟩=>?_)
 cases c with
 | true=>exact ⟨H1,I1,q1⟩
 | false=>exact hb wh pins s1 σ H1 Q I1 q1
theorem pt_not (ha:PT X a tA):PT X (.UnaryOp .Not a pos) (tNot tA):=by
 intro pins s σ H Q I h
 exact isTrue_not (ha pins s σ H (fun c H1=>Q (!c) H1) I h)
def tAndV (ta tb:TE):TE:=fun σ H Q=>ta σ H fun x H1=>∃ c,x=.bl c∧if c=true then tb σ H1 Q else Q (.bl false) H1
def tOrV (ta tb:TE):TE:=fun σ H Q=>ta σ H fun x H1=>∃ c,x=.bl c∧if c=true then Q (.bl true) H1 else tb σ H1 Q
def tNotV (ta:TE):TE:=fun σ H Q=>ta σ H fun x H1=>∃ c,x=.bl c∧Q (.bl (!c)) H1
theorem pe_one {op}{t:TE}(h:PE X a t):PE X (.BoolOp op [a] pos) t:=fun pins s σ H Q I hw=>BoolOp_one (h pins s σ H Q I hw)
theorem pe_and (ha:PE X a ta) (hb:PE X (.BoolOp .And (b::rest) pos) tb):PE X (.BoolOp .And (a::b::rest) pos) (tAndV ta tb):=by
 intro pins s σ H Q I h
 refine BoolOp_and (thn (ha pins s σ H _ I h) fun v s1 ⟨x,H1,I1,r1,q1⟩=>?_)
 obtain ⟨c,rfl,q1⟩:=q1
 cases r1
 refine wpAny_truthy_bool ?_
 cases c with
 | true=>exact hb pins s1 σ H1 Q I1 q1
 | false=>exact ⟨.bl false,H1,I1,rfl,q1⟩
theorem pe_or (ha:PE X a ta) (hb:PE X (.BoolOp .Or (b::rest) pos) tb):PE X (.BoolOp .Or (a::b::rest) pos) (tOrV ta tb):=by
 intro pins s σ H Q I h
 refine BoolOp_or (thn (ha pins s σ H _ I h) fun v s1 ⟨x,H1,I1,r1,q1⟩=>?_)
 obtain ⟨c,rfl,q1⟩:=q1
 cases r1
 refine wpAny_truthy_bool ?_
 cases c with
 | false=>exact hb pins s1 σ H1 Q I1 q1
 | true=>exact ⟨.bl true,H1,I1,rfl,q1⟩
theorem pe_not (ha:PE X a ta):PE X (.UnaryOp .Not a pos) (tNotV ta):=by
 intro pins s σ H Q I h
 refine UnaryOp_ (thn (ha pins s σ H _ I h) fun v s1 ⟨x,H1,I1,r1,q1⟩=>?_)
 obtain ⟨c,rfl,q1⟩:=q1
 cases r1
 exact not_of (wpAny_truthy_bool ⟨.bl (!c),H1,I1,rfl,q1⟩)
def tIf (t:TT) (ta tb:TE):TE:=fun σ H Q=>t σ H fun c H1=>if c=true then ta σ H1 Q else tb σ H1 Q
theorem pe_ifExp {c:Expr}(hc:PT X c tA) (ha:PE X a ta) (hb:PE X b tb):PE X (.IfExp c a b pos) (tIf tA ta tb):=by
 intro pins s σ H Q I h
 refine wpAny_IfExp (thn (hc pins s σ H _ I h) fun d s1 ⟨H1,I1,q1⟩=>?_)
 cases d with
 | true=>exact ha pins s1 σ H1 Q I1 q1
 | false=>exact hb pins s1 σ H1 Q I1 q1
end
end L2
namespace L2
open PySem PySem.Spec PyProof.Rows
def SqL (K:PySem.W.Frag) (H:Hp) (a:Addr) (xs:List V):Prop:=
 Rd H a (.lst xs) ∨
  ∃ (o:Obj) (its:Array Value) (n:Nat),K.lookup a=some o∧o.cls=.type "list" ∧ o.dict=none∧o.data=.seq its n∧its.size≤sizeLine∧Vals xs its.toList
def SqT (K:PySem.W.Frag) (H:Hp) (a:Addr) (xs:List V):Prop:=
 Rd H a (.tup xs) ∨
  ∃ (o:Obj) (its:Array Value) (n:Nat),K.lookup a=some o∧o.cls=.type "tuple" ∧ o.data=.seq its n∧its.size≤sizeLine∧Vals xs its.toList
def absV:Value->Option V
 | .none=>some .non
 | .bool b=>some (.bl b)
 | .int i _=>some (.int i)
 | .str x _=>some (.str x)
 | .bytes b _=>some (.byt b)
 | .float b _=>some (.flt b)
 | .ref a=>some (.ref a)
 | .type n=>some (.ty n)
 | _=>none
theorem RelV.abs {x:V}{u:Value}(r:RelV x u):absV u=some x:=by
 cases x with
 | non=>cases r;rfl
 | bl _=>cases r;rfl
 | int _=>obtain ⟨t,rfl⟩:=r;rfl
 | str _=>obtain ⟨t,rfl⟩:=r;rfl
 | byt _=>obtain ⟨t,rfl⟩:=r;rfl
 | flt _=>obtain ⟨t,rfl⟩:=r;rfl
 | ref _=>cases r;rfl
 | ty _=>cases r;rfl
theorem RelV.inj {x y:V}{u:Value}(r:RelV x u) (q:RelV y u):x=y:=Option.some.inj (r.abs.symm.trans q.abs)
theorem Vals.inj:∀ {xs ys:List V}{us:List Value},Vals xs us->Vals ys us->xs=ys
 | _,_,_,.nil,.nil=>rfl
 | _,_,_,.cons r t,.cons r' t'=>by rw [r.inj r',Vals.inj t t']
section
variable {X:Cx}{pins:List (Addr × Obj)}{σ:St}{H:Hp}{s:Shared}{a:Addr}{xs ys:List V}
theorem SqL.of {K:PySem.W.Frag}(h:H a=some (.lst xs)):SqL K H a xs:=.inl (.inl h)
theorem SqT.of {K:PySem.W.Frag}(h:H a=some (.tup xs)):SqT K H a xs:=.inl (.inl h)
theorem Inv.list (I:Inv X pins σ H s) (h:SqL X.K H a xs):∃ its:List Value,Vals xs its∧PlainL s.heap a its.toArray∧xs.length≤sizeLine:=by
 rcases h with h|⟨o,its,n,hk,hc,hd,hs,hz,r⟩
 ·obtain ⟨z,its,n,r,e⟩:=h.ok I.hok
  exact ⟨its,r,⟨_,n,e,rfl,rfl,rfl⟩,z⟩
 ·refine ⟨its.toList,r,⟨o,n,I.kIn a o hk,hc,hd,by simpa using hs⟩,?_⟩
  have e:=r.length
  simp only [Array.length_toList] at e
  omega
theorem Inv.tuple (I:Inv X pins σ H s) (h:SqT X.K H a xs):∃ its:List Value,Vals xs its∧IsTup s.heap a its.toArray∧xs.length≤sizeLine:=by
 rcases h with h|⟨o,its,n,hk,hc,hs,hz,r⟩
 ·obtain ⟨z,its,r,p⟩:=h.ok I.hok
  exact ⟨its,r,p,z⟩
 ·refine ⟨its.toList,r,⟨o,I.kIn a o hk,hc,n,by simpa using hs⟩,?_⟩
  have e:=r.length
  simp only [Array.length_toList] at e
  omega
theorem Inv.list_inj (I:Inv X pins σ H s) (h:SqL X.K H a xs) (h':SqL X.K H a ys):xs=ys:=by
 obtain ⟨its,r,⟨o,n,e,_,_,d⟩,_⟩:=I.list h
 obtain ⟨its',r',⟨o',n',e',_,_,d'⟩,_⟩:=I.list h'
 rw [e] at e';cases e'
 rw [d] at d'
 injection d' with d1 _
 have:its=its':=by simpa using congrArg Array.toList d1
 subst this
 exact r.inj r'
theorem Inv.tuple_inj (I:Inv X pins σ H s) (h:SqT X.K H a xs) (h':SqT X.K H a ys):xs=ys:=by
 obtain ⟨its,r,⟨o,e,_,n,d⟩,_⟩:=I.tuple h
 obtain ⟨its',r',⟨o',e',_,n',d'⟩,_⟩:=I.tuple h'
 rw [e] at e';cases e'
 rw [d] at d'
 injection d' with d1 _
 have:its=its':=by simpa using congrArg Array.toList d1
 subst this
 exact r.inj r'
end
abbrev Cx.wish (X:Cx) (E:Value->Shared->Prop):Cx:={ X with xe:=E }
abbrev Cx.nox (X:Cx):Cx:=X.wish fun _ _=>False
theorem Cx.Ok.wish {X:Cx}(ok:X.Ok) (E:Value->Shared->Prop):(X.wish E).Ok:=
 ⟨ok.mod,ok.kind,ok.glob,ok.blt,ok.above,ok.inj,ok.has,ok.cab,ok.hd,ok.frames,ok.stk,ok.exf,ok.bs,ok.bsz,ok.noex,ok.exfs,ok.funs,ok.frf⟩
theorem Cx.Ok.unwish {X:Cx}{E:Value->Shared->Prop}(ok:(X.wish E).Ok):X.Ok:=
 ⟨ok.mod,ok.kind,ok.glob,ok.blt,ok.above,ok.inj,ok.has,ok.cab,ok.hd,ok.frames,ok.stk,ok.exf,ok.bs,ok.bsz,ok.noex,ok.exfs,ok.funs,ok.frf⟩
section
variable {X:Cx}{pins:List (Addr × Obj)}{σ:St}{H:Hp}{s:Shared}{E:Value->Shared->Prop}
theorem Inv.wish (I:Inv X pins σ H s) (E:Value->Shared->Prop):Inv (X.wish E) pins σ H s:=⟨I.ok.wish E,I.os,I.bare,I.base,I.loc,I.cell,I.free,I.freeC,I.pin,I.hok,I.len⟩
theorem Inv.unwish (I:Inv (X.wish E) pins σ H s):Inv X pins σ H s:=⟨I.ok.unwish,I.os,I.bare,I.base,I.loc,I.cell,I.free,I.freeC,I.pin,I.hok,I.len⟩
theorem SP.unwish {D:Ends}{f:Flow}{s':Shared}(h:SP (X.wish E) pins D f s'):SP X pins D f s':=by
 cases f with
 | next=>obtain ⟨σ',H',I,q⟩:=h;exact ⟨σ',H',I.unwish,q⟩
 | brk=>obtain ⟨σ',H',I,q⟩:=h;exact ⟨σ',H',I.unwish,q⟩
 | cont=>obtain ⟨σ',H',I,q⟩:=h;exact ⟨σ',H',I.unwish,q⟩
 | ret u=>obtain ⟨v,σ',H',I,r,q⟩:=h;exact ⟨v,σ',H',I.unwish,r,q⟩
theorem PSs.nox {st:List Stmt}{t:TS}(h:PSs X.nox st t):PSs X st t:=fun pins s σ H D I hw=>
 wpAny_mono (h pins s σ H D (I.wish _) hw) (fun _ _ q=>q.unwish) fun _ _ z=>False.elim z
end
section
variable {X:Cx}{st:Stmt}{rest:List Stmt}{t u:TS}{e:Expr}{te:TE}{pos:Pos}
def tNext:TS:=fun D σ H=>D.nx σ H
def tSeq (t u:TS):TS:=fun D σ H=>t { D with nx:=u D } σ H
theorem pss_nil:PSs X [] tNext:=fun _ _ σ H _ I h=>wpAny_execs_nil ⟨σ,H,I,h⟩
theorem pss_cons (h1:PS X st t) (h2:PSs X rest u):PSs X (st::rest) (tSeq t u):=by
 intro pins s σ H D I h
 refine wpAny_execs_cons (thn (h1 pins s σ H { D with nx:=u D } I h) fun f s1 q=>?_)
 cases f with
 | next=>
  obtain ⟨σ',H',I',q⟩:=q
  exact h2 pins s1 σ' H' D I' q
 | ret v=>exact q
 | brk=>exact q
 | cont=>exact q
theorem pss_one (h1:PS X st t):PSs X [st] t:=by
 intro pins s σ H D I h
 refine wpAny_execs_cons (thn (h1 pins s σ H D I h) fun f s1 q=>?_)
 cases f with
 | next=>exact wpAny_execs_nil q
 | ret v=>exact q
 | brk=>exact q
 | cont=>exact q
theorem Inv.quiet {pins:List (Addr × Obj)}{σ:St}{H:Hp}{s:Shared}(I:Inv X pins σ H s):interactive X.env=false:=by simp [interactive,I.ok.kind]
def tDrop (te:TE):TS:=fun D σ H=>te σ H fun _ H1=>D.nx σ H1
theorem ps_expr (he:PE X e te) (hs:swapsWith e none pos.line X.env=pure false:=by rfl):PS X (.Expr e pos) (tDrop te):=by
 intro pins s σ H D I h
 exact wpAny_Expr_any (thn (he pins s σ H _ I h) fun v s1 ⟨x,H1,I1,r1,q1⟩=>⟨σ,H1,I1,q1⟩) I.quiet hs
def tRet (te:TE):TS:=fun D σ H=>te σ H D.rt
theorem ps_ret (he:PE X e te):PS X (.Return (some e) pos) (tRet te):=by
 intro pins s σ H D I h
 exact wpAny_Return_some (thn (he pins s σ H _ I h) fun v s1 ⟨x,H1,I1,r1,q1⟩=>⟨x,σ,H1,I1,r1,q1⟩)
def tIfS (c:TT) (t u:TS):TS:=fun D σ H=>c σ H fun b H1=>if b=true then t D σ H1 else u D σ H1
theorem ps_if {c:Expr}{a b:List Stmt}{tc:TT}(hc:PT X c tc) (ha:PSs X a t) (hb:PSs X b u):PS X (.If c a b pos) (tIfS tc t u):=by
 intro pins s σ H D I h
 refine wpAny_If (thn (hc pins s σ H _ I h) fun d s1 ⟨H1,I1,q1⟩=>?_)
 cases d with
 | true=>exact ha pins s1 σ H1 D I1 q1
 | false=>exact hb pins s1 σ H1 D I1 q1
def tNever:TS:=fun _ _ _=>False
theorem ps_never:PS X st tNever:=fun _ _ _ _ _ _ h=>h.elim
end
abbrev TG:=V->St->Hp->(St->Hp->Prop)->Prop
abbrev TGs:=List V->St->Hp->(St->Hp->Prop)->Prop
def PG (X:Cx) (target:Expr) (t:TG):Prop:=
 ∀ (pins:List (Addr × Obj)) (s:Shared) (σ:St) (H:Hp) (v:V) (u:Value) (Q:St->Hp->Prop),Inv X pins σ H s->RelV v u->t v σ H Q →
  wpAny (model X.prog X.w) X.A (assign target X.env u) (fun _ s'=>∃ σ' H',Inv X pins σ' H' s'∧Q σ' H') X.xe s
def PGs (X:Cx) (ts:List Expr) (t:TGs):Prop:=
 ∀ (pins:List (Addr × Obj)) (s:Shared) (σ:St) (H:Hp) (vs:List V) (us:List Value) (Q:St->Hp->Prop),Inv X pins σ H s->Vals vs us->t vs σ H Q →
  wpAny (model X.prog X.w) X.A (assignInOrder ((assignEach ts X.env).map (·.2)) us) (fun _ s'=>∃ σ' H',Inv X pins σ' H' s'∧Q σ' H') X.xe s
section
variable {X:Cx}{pos:Pos}
def gName (i:Nat):TG:=fun v σ H Q=>Q (σ.set i (some v)) H
theorem pg_name {i:Nat}{x:Str}(hN:X.N.Nodup) (hi:X.N[i]? = some x) (hx:Loc X.env.scope x) (hf:X.fn x=true∨X.env.scope.names.lookup x=some .local:=by first|exact .inl rfl|exact .inr rfl|assumption):PG X (.Name x pos) (gName i):=by
 intro pins s σ H v u Q I r h
 exact wpAny_assign_Name (store_ok I hN hi hx r (fun s' I'=>⟨_,H,I',h⟩) hf)
def gNil:TGs:=fun vs σ H Q=>vs=[]∧Q σ H
def gCons (t:TG) (u:TGs):TGs:=fun vs σ H Q=>∃ v r,vs=v::r∧t v σ H fun σ' H'=>u r σ' H' Q
theorem pgs_nil:PGs X [] gNil:=by
 intro pins s σ H vs us Q I r h
 obtain ⟨e,h⟩:=h
 subst e
 cases r
 exact assignInOrder_nil ⟨σ,H,I,h⟩
theorem pgs_cons {e:Expr}{es:List Expr}{t:TG}{u:TGs}(h1:PG X e t) (h2:PGs X es u)
  (hs:(assignEach (e::es) X.env).map (·.2)=assign e X.env::(assignEach es X.env).map (·.2):=by rfl):PGs X (e::es) (gCons t u):=by
 intro pins s σ H vs us Q I r h
 obtain ⟨v,vr,e1,h⟩:=h
 subst e1
 cases r with
 | cons r rr=>
  rw [hs]
  refine assignInOrder_cons (thn (h1 pins s σ H _ _ _ I r h) fun _ s1 ⟨σ1,H1,I1,q1⟩=>?_)
  exact h2 pins s1 σ1 H1 _ _ Q I1 rr q1
def gTup (K:PySem.W.Frag) (n:Nat) (t:TGs):TG:=fun v σ H Q=>∃ a xs,v=.ref a∧SqT K H a xs∧xs.length=n∧t xs σ H Q
theorem pg_tup {es:List Expr}{k:Nat}{t:TGs}{n:Nat}(hc:X.calm=true) (h:PGs X es t)
  (hn:(assignEach es X.env).length=n:=by rfl) (hst:(assignEach es X.env).findIdx? (·.1)=none:=by rfl):PG X (.Tuple es k pos) (gTup X.K n t):=by
 intro pins s σ H v u Q I r hw
 obtain ⟨a,xs,e1,hq,hl,hw⟩:=hw
 subst e1
 cases r
 obtain ⟨its,rv,ht,hz⟩:=I.tuple hq
 refine assign_Tuple_tuple (I.ok.hd hc) ht (by simp [hn,←hl,rv.length]) hst fun h' hx=>?_
 have I1:Inv X pins σ H { s with heap:=h' }:=I.kept (t':=s.toks) fun b o e=>hx b o (Nat.ne_of_lt (Heap.lt_size e)) e
 exact h pins _ σ H xs _ Q I1 (by simpa using rv) hw
def tAsg (te:TE) (g:TG):TS:=fun D σ H=>te σ H fun x H1=>g x σ H1 D.nx
theorem ps_asg {tg e:Expr}{te:TE}{g:TG}(he:PE X e te) (hg:PG X tg g) (hs:swapsWithSole [tg] e pos.line X.env=pure false:=by rfl) (hw:swappedStores [tg] e X.env=pure none:=by rfl)
  (h1:(assignEach [tg] X.env).map (·.2)=[assign tg X.env]:=by rfl):PS X (.Assign [tg] e pos) (tAsg te g):=by
 intro pins s σ H D I h
 refine wpAny_Assign_stores (thn (he pins s σ H _ I h) fun v s1 ⟨x,H1,I1,r1,q1⟩=>?_) hs hw
 rw [h1]
 exact thn (hg pins s1 σ H1 x v _ I1 r1 q1) fun _ s2 q=>q
theorem ps_set {i:Nat}{x:Str}{e:Expr}{te:TE}{pos':Pos}(hN:X.N.Nodup) (hi:X.N[i]? = some x) (hx:Loc X.env.scope x) (he:PE X e te) (hs:swapsWith e (some (.Name x pos')) pos.line X.env=pure false:=by rfl) (hf:X.fn x=true∨X.env.scope.names.lookup x=some .local:=by first|exact .inl rfl|exact .inr rfl|assumption) :
  PS X (.Assign [.Name x pos'] e pos) (tAsg te (gName i)):=by
 intro pins s σ H D I h
 refine wpAny_Assign_Name (thn (he pins s σ H _ I h) fun v s1 ⟨y,H1,I1,r1,q1⟩=>?_) hs
 exact store_ok I1 hN hi hx r1 (fun s2 I2=>⟨_,H1,I2,q1⟩) hf
end
section
variable {X:Cx}{pos:Pos}
end
structure It where
 go:Nat->Hp->Prop
 yld:Nat->Hp->V->Hp->Prop
 stop:Nat->Hp->Prop
def FpOk (X:Cx) (pins:List (Addr × Obj)) (H:Hp) (b:Addr):Prop:=
 H b=none∧b ≠ X.env.locals∧b ∉ X.fs∧(b∈X.ex∨X.s₀.heap.objs.size≤b)∧(∀ x c,X.env.cells.lookup x=some c->c ≠ b)∧∀ p∈X.pn++pins,p.1 ≠ b
theorem Inv.fpOk {X:Cx}{pins:List (Addr × Obj)}{σ:St}{H H':Hp}{s:Shared}{b:Addr}(I:Inv X pins σ H s) (hb:s.heap.objs.size≤b) (hn:H' b=none):FpOk X pins H' b:=by
 refine ⟨hn,Nat.ne_of_gt (Nat.lt_of_lt_of_le I.lt hb),I.nofs hb,.inr (Nat.le_trans I.sz hb),fun x c e z=>?_,fun p hp z=>?_⟩
 ·obtain ⟨v,q⟩:=I.cell x c e
  exact absurd (Nat.lt_of_lt_of_le q.lt (by rw [z];exact hb)) (Nat.lt_irrefl _)
 ·exact absurd (Nat.lt_of_lt_of_le (Heap.lt_size (I.pin p hp).1) (by rw [z];exact hb)) (Nat.lt_irrefl _)
structure Turn (P:Program) (w:World) (K:PySem.W.Frag) (tg:Expr) (J:It) (fp:List Addr) (it:Addr) (tn:Nat->Heap->Prop):Prop where
 mem:it∈fp
 obj:∀ i h,tn i h->∀ b∈fp,∃ o,h.get? b=some o∧∀ v,o.data ≠ .cell v
 keep:∀ i h h',tn i h->(∀ b∈fp,∀ o,h.get? b=some o->h'.get? b=some o)->tn i h'
 item:∀ (X:Cx),X.prog=P->X.w=w->X.K=K->X.calm=true->∀ (i:Nat) (pins:List (Addr × Obj)) (s:Shared) (σ:St) (H:Hp) (E:Value->Shared->Prop),Inv X pins σ H s->(∀ b∈fp,FpOk X pins H b)->tn i s.heap->J.go i H →
  wpAny (model P w) X.A (pyNext (.ref it)) (fun r s1=>∃ u,r=some u ∧
   wpAny (model P w) X.A (letOwnedTupleGo tg (.ref it) u) (fun _ s2=>∃ x H',Inv X pins σ H' s2∧RelV x u∧J.yld i H x H'∧tn (i+1) s2.heap∧∀ b∈fp,H' b=none) E s1) E s
 done:∀ (X:Cx),X.prog=P->X.w=w->X.K=K->X.calm=true->∀ (i:Nat) (pins:List (Addr × Obj)) (s:Shared) (σ:St) (H:Hp) (E:Value->Shared->Prop),Inv X pins σ H s->(∀ b∈fp,FpOk X pins H b)->tn i s.heap->J.stop i H →
  wpAny (model P w) X.A (pyNext (.ref it)) (fun r s1=>r=none∧Inv X pins σ H s1) E s
 self:∀ (A:Around) (i:Nat) (s:Shared) (Q:Value->Shared->Prop) (E:Value->Shared->Prop),tn i s.heap->Q (.ref it) s->wpAny (model P w) A (pyIter (.ref it)) Q E s
abbrev TI:=St->Hp->(It->Hp->Prop)->Prop
def PIE (X:Cx) (pins:List (Addr × Obj)) (σ:St) (tg:Expr) (R:It->Hp->Prop) (itv:Value) (s2:Shared):Prop:=
 ∃ (it:Addr) (fp:List Addr) (tn:Nat->Heap->Prop) (J:It) (H':Hp),itv=.ref it∧Inv X pins σ H' s2∧Turn X.prog X.w X.K tg J fp it tn∧tn 0 s2.heap∧(∀ b∈fp,FpOk X pins H' b)∧R J H'
def PI (X:Cx) (tg iter:Expr) (wi:TI):Prop:=
 ∀ (pins:List (Addr × Obj)) (s:Shared) (σ:St) (H:Hp) (R:It->Hp->Prop),Inv X pins σ H s->wi σ H R →
  wpAny (model X.prog X.w) X.A (eval iter X.env) (fun v s1=>wpAny (model X.prog X.w) X.A (pyIter v) (PIE X pins σ tg R) X.xe s1) X.xe s
theorem go_of {M:Model}{A:Around}{E:Value->Shared->Prop}{s:Shared}{tg:Expr}{it:Addr}{u:Value}{o:Obj}{n:String}{vs:Array Value}{Q:Unit->Shared->Prop}(ho:s.heap.get? it=some o) (hc:o.cls=.type n) (hd:o.data=.fields vs)
    (hn:["enumerate", "zip", "dict_itemiterator", "dict_reverseitemiterator", "odict_iterator", "itertools.zip_longest", "itertools.pairwise"].contains n=false) (hQ:Q () s):wpAny M A (letOwnedTupleGo tg (.ref it) u) Q E s:=by
  unfold letOwnedTupleGo
  cases tg<;>first
    | exact wpAny_pure hQ
    | (cases u<;>first
        | exact wpAny_pure hQ
        | (refine wpAny_bind (wpAny_load ho ?_)
           rw [hc,hd]
           show wpAny M A (if (["enumerate", "zip", "dict_itemiterator", "dict_reverseitemiterator", "odict_iterator", "itertools.zip_longest", "itertools.pairwise"].contains n && vs[0]? == some (rawInt _))=true then _ else _) Q E s
           rw [if_neg (by intro h;rw [hn,Bool.false_and] at h;cases h)]
           exact wpAny_pure hQ))
def Itl (K:PySem.W.Frag) (a:Addr):It:=
 ⟨fun i H=>∃ xs x,SqL K H a xs∧xs[i]? = some x,fun i H x H'=>H'=H∧∀ xs,SqL K H a xs->xs[i]? = some x,fun i H=>∃ xs,SqL K H a xs∧xs.length≤i⟩
def Itt (K:PySem.W.Frag) (a:Addr):It:=
 ⟨fun i H=>∃ xs x,SqT K H a xs∧xs[i]? = some x,fun i H x H'=>H'=H∧∀ xs,SqT K H a xs->xs[i]? = some x,fun i H=>∃ xs,SqT K H a xs∧xs.length≤i⟩
def Itr (lo:Int) (n:Nat):It:=⟨fun i _=>i < n,fun i H x H'=>H'=H∧x=.int (lo+i),fun i _=>n≤i⟩
theorem turn_list {P:Program}{w:World}{K:PySem.W.Frag}{tg:Expr}(a it:Addr):Turn P w K tg (Itl K a) [it] it (fun i h=>h.IsListIter it a i) where
 mem:=by simp
 obj:=fun i h st b hb=>by
  have e:b=it:=by simpa using hb
  subst e
  obtain ⟨o,e,c,d⟩:=st
  exact ⟨o,e,fun v z=>by rw [d] at z;cases z⟩
 keep:=fun i h h' st k=>st.at fun o e=>k it (by simp) o e
 item:=by
  intro X hP hw hK hc i pins s σ H E I hf st hg
  subst hP hw hK
  obtain ⟨xs,x,hq,hx⟩:=hg
  obtain ⟨its,rv,p,hz⟩:=I.list hq
  obtain ⟨u,hu,ru⟩:=rv.get hx
  obtain ⟨f0,f1,f2,f3,f4,f5⟩:=hf it (by simp)
  refine wpAny_pyNext_list_item st p.isList (x:=u) (by simpa using hu) fun h' st' sb=>?_
  have I1:Inv X pins σ H { s with heap:=h' }:=I.turned (t':=s.toks) (fun b o hb e=>(sb.2 b hb).trans e) f0 f1 f3 f4 f5
  obtain ⟨o,e,c,d⟩:=id st'
  exact ⟨u,rfl,go_of (s:={ s with heap:=h' }) e c d (by decide) ⟨x,H,I1,ru,⟨rfl,fun ys hy=>by rw [I.list_inj hy hq];exact hx⟩,st',fun b hb=>(hf b hb).1⟩⟩
 done:=by
  intro X hP hw hK hc i pins s σ H E I hf st hg
  subst hP hw hK
  obtain ⟨xs,hq,hx⟩:=hg
  obtain ⟨its,rv,p,hz⟩:=I.list hq
  obtain ⟨f0,f1,f2,f3,f4,f5⟩:=hf it (by simp)
  have hl:=rv.length
  exact wpAny_pyNext_list_end (I.ok.hd hc) st p.isList (by simp;omega) fun h' eb=>⟨rfl,I.turned (t':=s.toks) (fun b o hb e=>eb b o hb e) f0 f1 f3 f4 f5⟩
 self:=fun _ _ _ _ _ st h=>wpAny_pyIter_listiter st h
theorem turn_tuple {P:Program}{w:World}{K:PySem.W.Frag}{tg:Expr}(a it:Addr):Turn P w K tg (Itt K a) [it] it (fun i h=>h.IsTupleIter it a i) where
 mem:=by simp
 obj:=fun i h st b hb=>by
  have e:b=it:=by simpa using hb
  subst e
  obtain ⟨o,e,c,d⟩:=st
  exact ⟨o,e,fun v z=>by rw [d] at z;cases z⟩
 keep:=fun i h h' st k=>st.at fun o e=>k it (by simp) o e
 item:=by
  intro X hP hw hK hc i pins s σ H E I hf st hg
  subst hP hw hK
  obtain ⟨xs,x,hq,hx⟩:=hg
  obtain ⟨its,rv,p,hz⟩:=I.tuple hq
  obtain ⟨u,hu,ru⟩:=rv.get hx
  obtain ⟨f0,f1,f2,f3,f4,f5⟩:=hf it (by simp)
  refine wpAny_pyNext_tuple_item st (show s.heap.IsTuple a its.toArray from p) (x:=u) (by simpa using hu) fun h' st' sb=>?_
  have I1:Inv X pins σ H { s with heap:=h' }:=I.turned (t':=s.toks) (fun b o hb e=>(sb.2 b hb).trans e) f0 f1 f3 f4 f5
  obtain ⟨o,e,c,d⟩:=id st'
  exact ⟨u,rfl,go_of (s:={ s with heap:=h' }) e c d (by decide) ⟨x,H,I1,ru,⟨rfl,fun ys hy=>by rw [I.tuple_inj hy hq];exact hx⟩,st',fun b hb=>(hf b hb).1⟩⟩
 done:=by
  intro X hP hw hK hc i pins s σ H E I hf st hg
  subst hP hw hK
  obtain ⟨xs,hq,hx⟩:=hg
  obtain ⟨its,rv,p,hz⟩:=I.tuple hq
  obtain ⟨f0,f1,f2,f3,f4,f5⟩:=hf it (by simp)
  have hl:=rv.length
  exact wpAny_pyNext_tuple_end (I.ok.hd hc) st (show s.heap.IsTuple a its.toArray from p) (by simp;omega) fun h' eb=>⟨rfl,I.turned (t':=s.toks) (fun b o hb e=>eb b o hb e) f0 f1 f3 f4 f5⟩
 self:=fun _ _ _ _ _ st h=>wpAny_pyIter_tupleiter st h
theorem turn_range {P:Program}{w:World}{K:PySem.W.Frag}{tg:Expr}(it:Addr) (lo:Int) (n:Nat):Turn P w K tg (Itr lo n) [it] it (fun i h=>IsRangeIter h it (lo+(i:Nat) * 1) ((n:Int) - (i:Nat)) 1) where
 mem:=by simp
 obj:=fun i h st b hb=>by
  have e:b=it:=by simpa using hb
  subst e
  exact ⟨_,st,fun v z=>by
   have z':Data.fields _=Data.cell v:=z
   cases z'⟩
 keep:=fun i h h' st k=>k it (by simp) _ st
 item:=by
  intro X hP hw hK hc i pins s σ H E I hf st hg
  subst hP hw hK
  obtain ⟨f0,f1,f2,f3,f4,f5⟩:=hf it (by simp)
  have W:=Walks.range (prog:=X.prog) (w:=X.w) (I.ok.hd hc) it lo 1 n
  refine W.item i s _ _ hg st fun v h' tk hv st' kk=>?_
  obtain ⟨t,rfl⟩:=hv
  have I1:Inv X pins σ H { s with heap:=h',toks:=tk }:=I.turned (fun b o hb e=>kk b o (by simpa using hb) e) f0 f1 f3 f4 f5
  refine ⟨_,rfl,go_of (s:={ s with heap:=h',toks:=tk }) (n := "range_iterator") st' rfl rfl (by decide) ⟨.int (lo+i),H,I1,⟨t,?_⟩,⟨rfl,rfl⟩,st',fun b hb=>(hf b hb).1⟩⟩
  rw [Int.mul_one]
 done:=by
  intro X hP hw hK hc i pins s σ H E I hf st hg
  subst hP hw hK
  obtain ⟨f0,f1,f2,f3,f4,f5⟩:=hf it (by simp)
  exact wpAny_pyNext_range_end (I.ok.hd hc) st (by have:n≤i:=hg;omega) fun h' eb=>⟨rfl,I.turned (t':=s.toks) (fun b o hb e=>eb b o hb e) f0 f1 f3 f4 f5⟩
 self:=fun _ _ _ _ _ st h=>wpAny_pyIter_rangeiter st h
end L2
namespace L2
open PySem PySem.Spec PyProof.Rows
section
variable {X:Cx}{tg:Expr}
theorem range_it {pins:List (Addr × Obj)}{σ:St}{H:Hp}{s:Shared}{R:It->Hp->Prop}{E:Value->Shared->Prop}{lo hi:Int}{t u v:Tok}{tk:Nat}(I:Inv X pins σ H s) (h1:-(2 ^ 62)≤lo) (h2:lo < 2 ^ 62) (h3:-(2 ^ 62)≤hi) (h4:hi < 2 ^ 62)
  (q:R (Itr lo (hi - lo).toNat) H):wpAny (model X.prog X.w) X.A (pyIter (.ref s.heap.objs.size)) (PIE X pins σ tg R) E { s with heap:=s.heap.push { cls:=.type "range",data:=.fields #[.int lo t,.int hi u,.int 1 v] },toks:=tk }:=by
 refine wpAny_pyIter_range (IsRange.new ..) (small_one h1 h2 h3 h4) ?_
 have I1:Inv X pins σ H { s with heap:=s.heap.push { cls:=.type "range",data:=.fields #[.int lo t,.int hi u,.int 1 v] },toks:=tk }:=I.kept fun b o e=>Heap.get?_push_of_some _ e
 refine ⟨(s.heap.push { cls:=.type "range",data:=.fields #[.int lo t,.int hi u,.int 1 v] }).objs.size,[(s.heap.push { cls:=.type "range",data:=.fields #[.int lo t,.int hi u,.int 1 v] }).objs.size],_,_,H,rfl,
  I1.kept (t':=tk) fun b o e=>Heap.get?_push_of_some _ e,turn_range _ lo (hi - lo).toNat,?_,fun b hb=>?_,q⟩
 ·have e1:lo+((0:Nat):Int) * 1=lo:=by simp
  have e2:(((hi - lo).toNat:Nat):Int) - ((0:Nat):Int)=Builtin.Range.rangeSize lo hi 1:=by rw [rangeSize_one];split<;>omega
  show IsRangeIter _ _ (lo+((0:Nat):Int) * 1) ((((hi - lo).toNat:Nat):Int) - ((0:Nat):Int)) 1
  rw [e1,e2]
  exact Heap.get?_push_size _ rfl
 ·have e:b=(s.heap.push { cls:=.type "range",data:=.fields #[.int lo t,.int hi u,.int 1 v] }).objs.size:=by simpa using hb
  subst e
  exact I1.fpOk (Nat.le_refl _) (I1.hok.fresh (Nat.le_refl _))
def iRng1 (ta:TA):TI:=fun σ H R=>ta σ H fun vs H1=>∃ j:Int,vs=[.int j]∧-(2 ^ 62)≤j∧j < 2 ^ 62∧R (Itr 0 j.toNat) H1
def iRng2 (ta:TA):TI:=fun σ H R=>ta σ H fun vs H1=>∃ i j:Int,vs=[.int i,.int j]∧(-(2 ^ 62)≤i∧i < 2 ^ 62∧-(2 ^ 62)≤j∧j < 2 ^ 62)∧R (Itr i (j - i).toNat) H1
theorem pi_range1 {a:Expr}{ta:TA}{p pos:Pos}(hg:Gl X "range") (hm:X.mg "range"=none) (ha:PA X [a] ta) (hs:starEach [a] X.env=[(false,eval a X.env)]:=by rfl):PI X tg (.Call (.Name "range" p) [a] [] pos) (iRng1 ta):=by
 intro pins s σ H R I h
 refine Call_ (ld_blt I hg hm boot_range (PyProof.Rows.callWith_type1 (thn (ha pos pins s σ H _ I h) fun us s1 ⟨vs,H1,I1,r1,q1⟩=>?_) hs rfl))
 obtain ⟨j,e,q1,q2,q⟩:=q1
 subst e
 cases r1 with
 | cons r rr=>
  cases rr
  obtain ⟨t,rfl⟩:=r
  exact call_range_1 (range_it I1 (by omega) (by omega) q1 q2 (by simpa using q))
theorem pi_range2 {a b:Expr}{ta:TA}{p pos:Pos}(hg:Gl X "range") (hm:X.mg "range"=none) (ha:PA X [a,b] ta) (hs:starEach [a,b] X.env=[(false,eval a X.env),(false,eval b X.env)]:=by rfl) (hs2:starEach [b] X.env=[(false,eval b X.env)]:=by rfl) :
  PI X tg (.Call (.Name "range" p) [a,b] [] pos) (iRng2 ta):=by
 intro pins s σ H R I h
 refine Call_ (ld_blt I hg hm boot_range (PyProof.Rows.callWith_type1 (thn (ha pos pins s σ H _ I h) fun us s1 ⟨vs,H1,I1,r1,q1⟩=>?_) (by rw [hs,hs2]) (by rw [hs2];rfl)))
 obtain ⟨i,j,e,⟨q1,q2,q3,q4⟩,q⟩:=q1
 subst e
 cases r1 with
 | cons r rr=>
  cases rr with
  | cons r' rr=>
   cases rr
   obtain ⟨t,rfl⟩:=r
   obtain ⟨t',rfl⟩:=r'
   exact call_range_2 (range_it I1 q1 q2 q3 q4 q)
def tFor (wi:TI) (g:TG) (tb:TS):TS:=fun D σ H=>wi σ H fun J H1=>∃ W:Nat->Nat->St->Hp->Prop,(∃ m,W 0 m σ H1)∧∀ i m σ H,W i m σ H →
 (J.stop i H∧D.nx σ H)∨(J.go i H∧∃ N:St->Hp->Prop,(∀ σ' H',N σ' H'->∃ m',m' < m∧W (i+1) m' σ' H')∧∀ x H',J.yld i H x H'->g x σ H' fun σ2 H2=>tb { D with nx:=N,ct:=N,bk:=D.nx } σ2 H2)
def pinsAt (fp:List Addr) (h:Heap):List (Addr × Obj):=fp.filterMap fun b=>(h.get? b).map fun o=>(b,o)
theorem mem_pinsAt {fp:List Addr}{h:Heap}{b:Addr}{o:Obj}(hb:b∈fp) (e:h.get? b=some o):(b,o)∈pinsAt fp h:=List.mem_filterMap.mpr ⟨b,hb,by rw [e];rfl⟩
theorem of_pinsAt {fp:List Addr}{h:Heap}{p:Addr × Obj}(hp:p∈pinsAt fp h):p.1∈fp∧h.get? p.1=some p.2:=by
 obtain ⟨b,hb,e⟩:=List.mem_filterMap.mp hp
 cases q:h.get? b with
 | none=>rw [q] at e;cases e
 | some o=>
  rw [q] at e
  have e':(b,o)=p:=Option.some.inj e
  subst e'
  exact ⟨hb,q⟩
theorem Inv.pinned {pins:List (Addr × Obj)}{σ:St}{H:Hp}{s:Shared}{fp:List Addr}(I:Inv X pins σ H s) (hf:∀ b∈fp,FpOk X pins H b) (ho:∀ b∈fp,∃ o,s.heap.get? b=some o∧∀ v,o.data ≠ .cell v):Inv X (pins++pinsAt fp s.heap) σ H s:=
 I.pins_of fun p hp=>(List.mem_append.mp hp).elim (fun z=>I.pin p (List.mem_append_right _ z)) fun z=>by
  obtain ⟨hb,e⟩:=of_pinsAt z
  obtain ⟨f0,f1,f2,_⟩:=hf p.1 hb
  obtain ⟨o,e',d⟩:=ho p.1 hb
  rw [e] at e';cases e'
  exact ⟨e,f0,f1,f2,d⟩
theorem Inv.unpinned {pins pl:List (Addr × Obj)}{σ:St}{H:Hp}{s:Shared}(I:Inv X (pins++pl) σ H s):Inv X pins σ H s:=I.pins_of fun p hp=>I.pin p (List.mem_append_right _ (List.mem_append_left _ hp))
theorem ps_for {iter:Expr}{body:List Stmt}{wi:TI}{g:TG}{tb:TS}{pos:Pos}(hp:PassesOwn (model X.prog X.w) X.A X.env X.xe) (hc:X.calm=true) (hi:PI X tg iter wi) (hg:PG X tg g) (hb:PSs X body tb)
  (hs:∀ x,foldedSetIterable iter X.env x=pure x:=by intro _;rfl):PS X (.For tg iter body [] pos) (tFor wi g tb):=by
 intro pins s σ H D I h
 refine wpAny_For (thn (hi pins s σ H _ I h) fun v s1 h1=>thn h1 fun itv s2 h2=>?_) hs
 obtain ⟨it,fp,tn,J,H2,e,I2,T,st2,f2,W,⟨m0,w0⟩,turn⟩:=h2
 subst e
 have stat:∀ {H':Hp},(∀ b∈fp,H' b=none)->∀ b∈fp,FpOk X pins H' b:=fun hn b hb=>⟨hn b hb,(f2 b hb).2⟩
 refine codeAny_forLoop_any (fun n s'=>∃ i σ' H',Inv X pins σ' H' s'∧tn i s'.heap∧(∀ b∈fp,H' b=none)∧W i n σ' H') ?_ m0 ⟨0,σ,H2,I2,st2,fun b hb=>(f2 b hb).1,w0⟩
 rintro n s3 ⟨i,σ3,H3,I3,st3,fr3,w3⟩
 rcases turn i n σ3 H3 w3 with ⟨stop,qn⟩|⟨go,N,hN,step⟩
 ·refine wpAny_passesOwn hp (thn (T.done X rfl rfl rfl hc i pins s3 σ3 H3 X.xe I3 (stat fr3) st3 stop) fun r s4 ⟨hr,I4⟩=>?_)
  subst hr
  exact wpAny_execs_nil ⟨σ3,H3,I4,qn⟩
 ·refine wpAny_passesOwn hp (thn (T.item X rfl rfl rfl hc i pins s3 σ3 H3 X.xe I3 (stat fr3) st3 go) fun r s4 ⟨u,hr,h4⟩=>?_)
  subst hr
  refine wpAny_passesOwn hp (thn h4 fun _ s5 ⟨x,H5,I5,r5,y5,st5,fr5⟩=>?_)
  have I5':=I5.pinned (stat fr5) (T.obj _ _ st5)
  refine wpAny_passesOwn hp (thn (hg _ s5 σ3 H5 x u _ I5' r5 (step x H5 y5)) fun _ s6 ⟨σ6,H6,I6,q6⟩=>?_)
  refine wpAny_passesOwn hp (thn (hb _ s6 σ6 H6 _ I6 q6) fun f s7 q7=>?_)
  have again:∀ {σ7:St} {H7:Hp},Inv X (pins++pinsAt fp s5.heap) σ7 H7 s7->N σ7 H7->∃ m,m < n∧∃ i σ' H',Inv X pins σ' H' s7∧tn i s7.heap∧(∀ b∈fp,H' b=none)∧W i m σ' H':=fun {σ7 H7} I7 n7=>by
   obtain ⟨m',hm,w7⟩:=hN σ7 H7 n7
   refine ⟨m',hm,i+1,σ7,H7,I7.unpinned,T.keep _ _ _ st5 fun b hb o e=>(I7.pin (b,o) (List.mem_append_right _ (List.mem_append_right _ (mem_pinsAt hb e)))).1,fun b hb=>?_,w7⟩
   obtain ⟨o,e,d⟩:=T.obj _ _ st5 b hb
   exact (I7.pin (b,o) (List.mem_append_right _ (List.mem_append_right _ (mem_pinsAt hb e)))).2.1
  cases f with
  | next=>obtain ⟨σ7,H7,I7,n7⟩:=q7;exact again I7 n7
  | cont=>obtain ⟨σ7,H7,I7,n7⟩:=q7;exact again I7 n7
  | brk=>obtain ⟨σ7,H7,I7,q7⟩:=q7;exact ⟨σ7,H7,I7.unpinned,q7⟩
  | ret v=>obtain ⟨x7,σ7,H7,I7,r7,q7⟩:=q7;exact ⟨x7,σ7,H7,I7.unpinned,r7,q7⟩
end
theorem for_list {K:PySem.W.Frag}{a:Addr}{xs:List V}{g:TG}{tb:TS}{D:Ends}{σ:St}{H:Hp}(Pv:Nat->St->Hp->Prop) (h0:Pv 0 σ H) (hl:∀ i σ H,i≤xs.length->Pv i σ H->SqL K H a xs)
  (hs:∀ i x σ H,xs[i]? = some x->Pv i σ H->g x σ H fun σ2 H2=>tb { D with nx:=Pv (i+1),ct:=Pv (i+1),bk:=D.nx } σ2 H2) (hd:∀ σ H,Pv xs.length σ H->D.nx σ H) :
  ∃ W:Nat->Nat->St->Hp->Prop,(∃ m,W 0 m σ H)∧∀ i m σ H,W i m σ H →
   ((Itl K a).stop i H∧D.nx σ H)∨((Itl K a).go i H∧∃ N:St->Hp->Prop,(∀ σ' H',N σ' H'->∃ m',m' < m∧W (i+1) m' σ' H')∧∀ x H',(Itl K a).yld i H x H'->g x σ H' fun σ2 H2=>tb { D with nx:=N,ct:=N,bk:=D.nx } σ2 H2):=by
 refine ⟨fun i m σ H=>m=xs.length - i∧i≤xs.length∧Pv i σ H,⟨xs.length,by simp,Nat.zero_le _,h0⟩,?_⟩
 rintro i m σ H ⟨rfl,hi,p⟩
 have q:=hl i σ H hi p
 by_cases hlt:i < xs.length
 ·refine .inr ⟨⟨xs,xs[i],q,by simp [hlt]⟩,Pv (i+1),fun σ' H' p'=>⟨xs.length - (i+1),by omega,rfl,hlt,p'⟩,fun x H' y=>?_⟩
  obtain ⟨e,y⟩:=y
  subst e
  exact hs i x σ _ (y xs q) p
 ·have e:i=xs.length:=by omega
  subst e
  exact .inl ⟨⟨xs,q,Nat.le_refl _⟩,hd σ H p⟩
theorem for_range {lo:Int}{n:Nat}{g:TG}{tb:TS}{D:Ends}{σ:St}{H:Hp}(Pv:Nat->St->Hp->Prop) (h0:Pv 0 σ H)
  (hs:∀ i σ H,i < n->Pv i σ H->g (.int (lo+i)) σ H fun σ2 H2=>tb { D with nx:=Pv (i+1),ct:=Pv (i+1),bk:=D.nx } σ2 H2) (hd:∀ σ H,Pv n σ H->D.nx σ H) :
  ∃ W:Nat->Nat->St->Hp->Prop,(∃ m,W 0 m σ H)∧∀ i m σ H,W i m σ H →
   ((Itr lo n).stop i H∧D.nx σ H)∨((Itr lo n).go i H∧∃ N:St->Hp->Prop,(∀ σ' H',N σ' H'->∃ m',m' < m∧W (i+1) m' σ' H')∧∀ x H',(Itr lo n).yld i H x H'->g x σ H' fun σ2 H2=>tb { D with nx:=N,ct:=N,bk:=D.nx } σ2 H2):=by
 refine ⟨fun i m σ H=>m=n - i∧i≤n∧Pv i σ H,⟨n,by simp,Nat.zero_le _,h0⟩,?_⟩
 rintro i m σ H ⟨rfl,hi,p⟩
 by_cases hlt:i < n
 ·refine .inr ⟨hlt,Pv (i+1),fun σ' H' p'=>⟨n - (i+1),by omega,rfl,hlt,p'⟩,fun x H' y=>?_⟩
  obtain ⟨e,y⟩:=y
  subst e y
  exact hs i σ _ hlt p
 ·have e:i=n:=by omega
  subst e
  exact .inl ⟨Nat.le_refl _,hd σ H p⟩
end L2
namespace L2
open PySem PySem.Spec PyProof.Rows
abbrev R2:=V->V->Hp->VK->Prop
def OpR (X:Cx) (f:Value->Value->Sem Value) (r:R2):Prop:=
 ∀ (pins:List (Addr × Obj)) (s:Shared) (σ:St) (H:Hp) (x y:V) (v u:Value) (Q:VK),Inv X pins σ H s->RelV x v->RelV y u->r x y H Q →
  wpAny (model X.prog X.w) X.A (f v u) (EP X pins σ Q) X.xe s
def UnR (X:Cx) (f:Value->Sem Value) (r:V->Hp->VK->Prop):Prop:=
 ∀ (pins:List (Addr × Obj)) (s:Shared) (σ:St) (H:Hp) (x:V) (v:Value) (Q:VK),Inv X pins σ H s->RelV x v->r x H Q →
  wpAny (model X.prog X.w) X.A (f v) (EP X pins σ Q) X.xe s
def CallR (X:Cx) (f:Value) (r:List V->Hp->VK->Prop):Prop:=
 ∀ (pins:List (Addr × Obj)) (s:Shared) (σ:St) (H:Hp) (xs:List V) (us:List Value) (Q:VK),Inv X pins σ H s->Vals xs us->r xs H Q →
  wpAny (model X.prog X.w) X.A (call f us) (EP X pins σ Q) X.xe s
def tOp (r:R2) (ta tb:TE):TE:=fun σ H Q=>ta σ H fun x H1=>tb σ H1 fun y H2=>r x y H2 Q
def tUn (r:V->Hp->VK->Prop) (ta:TE):TE:=fun σ H Q=>ta σ H fun x H1=>r x H1 Q
def rI (C:Int->Int->Prop) (g:Int->Int->V):R2:=fun x y H Q=>∃ i j,x=.int i∧y=.int j∧C i j∧Q (g i j) H
def rI0 (g:Int->Int->V):R2:=fun x y H Q=>∃ i j,x=.int i∧y=.int j∧Q (g i j) H
def rU (g:Int->V):V->Hp->VK->Prop:=fun x H Q=>∃ i,x=.int i∧Q (g i) H
section
variable {X:Cx}{a b c:Expr}{ta tb tc:TE}{pos:Pos}
theorem binT (ha:PE X a ta) (hb:PE X b tb){pins:List (Addr × Obj)}{s:Shared}{σ:St}{H:Hp}{R:V->V->Hp->Prop}(I:Inv X pins σ H s)
  (h:ta σ H fun x H1=>tb σ H1 fun y H2=>R x y H2) {Q:Value->Shared->Prop} {f:Value->Value->Sem Value}
  (hf:∀ v u s2 x y H2,Inv X pins σ H2 s2->RelV x v->RelV y u->R x y H2->wpAny (model X.prog X.w) X.A (f v u) Q X.xe s2) :
  wpAny (model X.prog X.w) X.A (eval a X.env) (fun v s₁=>wpAny (model X.prog X.w) X.A (eval b X.env) (fun u s₂=>wpAny (model X.prog X.w) X.A (f v u) Q X.xe s₂) X.xe s₁) X.xe s:=by
 refine thn (ha pins s σ H _ I h) fun v s1 ⟨x,H1,I1,r1,q1⟩=>?_
 refine thn (hb pins s1 σ H1 _ I1 q1) fun u s2 ⟨y,H2,I2,r2,q2⟩=>?_
 exact hf v u s2 x y H2 I2 r1 r2 q2
theorem pe_op {op:Operator}{r:R2}(ho:OpR X (binaryOp op) r) (ha:PE X a ta) (hb:PE X b tb):PE X (.BinOp a op b pos) (tOp r ta tb):=by
 intro pins s σ H Q I h
 exact wpAny_BinOp (binT ha hb I h fun v u s2 x y H2 I2 rx ry q=>ho pins s2 σ H2 x y v u Q I2 rx ry q)
theorem pe_un {op:UnaryOp}{r:V->Hp->VK->Prop}(ho:UnR X (unaryOp op) r) (ha:PE X a ta):PE X (.UnaryOp op a pos) (tUn r ta):=by
 intro pins s σ H Q I h
 exact UnaryOp_ (thn (ha pins s σ H _ I h) fun v s1 ⟨x,H1,I1,r1,q1⟩=>ho pins s1 σ H1 x v Q I1 r1 q1)
theorem opI {f:Value->Value->Sem Value}{C:Int->Int->Prop}{g:Int->Int->Int}
  (rule:∀ (i j:Int) (t u:Tok) (s:Shared) (Q:Value->Shared->Prop) (E:Value->Shared->Prop),C i j->Q (.int (g i j) s.toks) { s with toks:=s.toks+1 }->wpAny (model X.prog X.w) X.A (f (.int i t) (.int j u)) Q E s) :
  OpR X f (rI C fun i j=>.int (g i j)):=by
 intro pins s σ H x y v u Q I rx ry h
 obtain ⟨i,j,rfl,rfl,hc,q⟩:=h
 obtain ⟨t,rfl⟩:=rx
 obtain ⟨t',rfl⟩:=ry
 exact rule i j t t' s _ _ hc ⟨.int (g i j),H,I.tok _,⟨_,rfl⟩,q⟩
theorem opI0 {f:Value->Value->Sem Value}{g:Int->Int->Int}
  (rule:∀ (i j:Int) (t u:Tok) (s:Shared) (Q:Value->Shared->Prop) (E:Value->Shared->Prop),Q (.int (g i j) s.toks) { s with toks:=s.toks+1 }->wpAny (model X.prog X.w) X.A (f (.int i t) (.int j u)) Q E s) :
  OpR X f (rI0 fun i j=>.int (g i j)):=by
 intro pins s σ H x y v u Q I rx ry h
 obtain ⟨i,j,rfl,rfl,q⟩:=h
 obtain ⟨t,rfl⟩:=rx
 obtain ⟨t',rfl⟩:=ry
 exact rule i j t t' s _ _ ⟨.int (g i j),H,I.tok _,⟨_,rfl⟩,q⟩
theorem opB0 {f:Value->Value->Sem Value}{g:Int->Int->Bool}
  (rule:∀ (i j:Int) (t u:Tok) (s:Shared) (Q:Value->Shared->Prop) (E:Value->Shared->Prop),Q (.bool (g i j)) s->wpAny (model X.prog X.w) X.A (f (.int i t) (.int j u)) Q E s) :
  OpR X f (rI0 fun i j=>.bl (g i j)):=by
 intro pins s σ H x y v u Q I rx ry h
 obtain ⟨i,j,rfl,rfl,q⟩:=h
 obtain ⟨t,rfl⟩:=rx
 obtain ⟨t',rfl⟩:=ry
 exact rule i j t t' s _ _ ⟨.bl (g i j),H,I,rfl,q⟩
def CDiv (i j:Int):Prop:=0 < j∧j < 1073741824
def CPow (i j:Int):Prop:=0≤j∧j≤1000000∧i.natAbs < 2 ^ 64
def CMul (i j:Int):Prop:=(-(2 ^ 64) < i∧i < 2 ^ 64)∨(-(2 ^ 64) < j∧j < 2 ^ 64)
theorem CMul.ok {i j:Int}(h:CMul i j):IntMulOk i j:=by
 rcases h with ⟨h1,h2⟩|⟨h1,h2⟩
 ·exact .of_left (intBits_le_64 h1 h2)
 ·exact .of_right (intBits_le_64 h1 h2)
theorem op_add:OpR X (binaryOp .Add) (rI0 fun i j=>.int (i+j)):=opI0 fun _ _ _ _ _ _ _ q=>add_int q
theorem op_sub:OpR X (binaryOp .Sub) (rI0 fun i j=>.int (i - j)):=opI0 fun _ _ _ _ _ _ _ q=>sub_int q
theorem op_mul:OpR X (binaryOp .Mult) (rI CMul fun i j=>.int (i * j)):=opI fun _ _ _ _ _ _ _ hc q=>mul_int q hc.ok
theorem op_fdiv:OpR X (binaryOp .FloorDiv) (rI CDiv fun i j=>.int (i / j)):=opI fun i j _ _ _ _ _ hc q=>by
 have h1:(0:Int) < j:=hc.1
 have h2:j < 1073741824:=hc.2
 exact floordiv_int (by omega) (by rw [Int.fdiv_eq_ediv_of_nonneg i (by omega)];exact q) (.inl (PyProof.noPylong_small (by omega)))
theorem op_mod:OpR X (binaryOp .Mod) (rI (fun _ j=>0 < j) fun i j=>.int (i % j)):=opI fun i j _ _ _ _ _ hc q=>by
 have h1:(0:Int) < j:=hc
 exact mod_int' (by omega) (by rw [Int.fmod_eq_emod_of_nonneg i (by omega)];exact q)
theorem op_pow:OpR X (binaryOp .Pow) (rI CPow fun i j=>.int (i ^ j.toNat)):=opI fun _ _ _ _ _ _ _ hc q=>pow_int_small hc.1 hc.2.1 hc.2.2 q
theorem unI {f:Value->Sem Value}{g:Int->Int}
  (rule:∀ (i:Int) (t:Tok) (s:Shared) (Q:Value->Shared->Prop) (E:Value->Shared->Prop),Q (.int (g i) s.toks) { s with toks:=s.toks+1 }->wpAny (model X.prog X.w) X.A (f (.int i t)) Q E s) :
  UnR X f (rU fun i=>.int (g i)):=by
 intro pins s σ H x v Q I rx h
 obtain ⟨i,rfl,q⟩:=h
 obtain ⟨t,rfl⟩:=rx
 exact rule i t s _ _ ⟨.int (g i),H,I.tok _,⟨_,rfl⟩,q⟩
theorem un_neg:UnR X (unaryOp .USub) (rU fun i=>.int (-i)):=unI fun _ _ _ _ _ q=>neg_int q
end
def scal:V->V->Bool
 | .non,.non=>true | .non,.int _=>true | .int _,.non=>true | .non,.bl _=>true | .bl _,.non=>true | .non,.str _=>true | .str _,.non=>true
 | .int _,.int _=>true | .bl _,.bl _=>true | .str _,.str _=>true | .byt _,.byt _=>true
 | .int _,.str _=>true | .str _,.int _=>true | .bl _,.str _=>true | .str _,.bl _=>true
 | _,_=>false
def rEq:R2:=fun x y H Q=>scal x y=true∧Q (.bl (decide (x=y))) H
def rNe:R2:=fun x y H Q=>scal x y=true∧Q (.bl (!decide (x=y))) H
theorem dec_int {i j:Int}:decide (V.int i=V.int j)=(i == j):=by
 rw [Bool.eq_iff_iff]
 simp
theorem dec_bl {i j:Bool}:decide (V.bl i=V.bl j)=(i == j):=by
 rw [Bool.eq_iff_iff]
 simp
theorem dec_str {i j:Str}:decide (V.str i=V.str j)=(i == j):=by
 rw [Bool.eq_iff_iff]
 simp
theorem dec_byt {i j:Array UInt8}:decide (V.byt i=V.byt j)=(i.toList == j.toList):=by
 rw [Bool.eq_iff_iff]
 cases i
 cases j
 simp
section
variable {X:Cx}{a b c:Expr}{ta tb tc:TE}{pos:Pos}
theorem fin_bl {pins:List (Addr × Obj)}{σ:St}{H:Hp}{s:Shared}{Q:VK}{k k':Bool}(I:Inv X pins σ H s) (q:Q (.bl k) H) (e:k=k'):EP X pins σ Q (.bool k') s:=by
 subst e
 exact ⟨.bl k,H,I,rfl,q⟩
theorem op_eq:OpR X (compareOp .Eq) rEq:=by
 intro pins s σ H x y v u Q I rx ry h
 obtain ⟨hs,q⟩:=h
 cases x with
 | non=>
  cases rx
  cases y with
  | non=>cases ry;exact PySem.EqNone.eq_none_none (fin_bl I q (by simp))
  | bl j=>cases ry;exact PySem.EqNone.eq_none_bool (fin_bl I q (by simp))
  | int j=>obtain ⟨t',rfl⟩:=ry;exact PySem.EqNone.eq_none_int (fin_bl I q (by simp))
  | str j=>obtain ⟨t',rfl⟩:=ry;exact PySem.EqNone.eq_none_str (fin_bl I q (by simp))
  | _=>exact absurd (show false=true from hs) Bool.false_ne_true
 | bl i=>
  cases rx
  cases y with
  | non=>cases ry;exact PySem.EqNone.eq_bool_none (fin_bl I q (by simp))
  | bl j=>cases ry;exact eq_bool (fin_bl I q dec_bl)
  | str j=>obtain ⟨t',rfl⟩:=ry;exact PySem.EqMixed.eq_bool_str (fin_bl I q (by simp))
  | _=>exact absurd (show false=true from hs) Bool.false_ne_true
 | int i=>
  obtain ⟨t,rfl⟩:=rx
  cases y with
  | non=>cases ry;exact PySem.EqNone.eq_int_none (fin_bl I q (by simp))
  | int j=>obtain ⟨t',rfl⟩:=ry;exact eq_int (fin_bl I q dec_int)
  | str j=>obtain ⟨t',rfl⟩:=ry;exact PySem.EqMixed.eq_int_str (fin_bl I q (by simp))
  | _=>exact absurd (show false=true from hs) Bool.false_ne_true
 | str i=>
  obtain ⟨t,rfl⟩:=rx
  cases y with
  | non=>cases ry;exact PySem.EqNone.eq_str_none (fin_bl I q (by simp))
  | bl j=>cases ry;exact PySem.EqMixed.eq_str_bool (fin_bl I q (by simp))
  | int j=>obtain ⟨t',rfl⟩:=ry;exact PySem.EqMixed.eq_str_int (fin_bl I q (by simp))
  | str j=>obtain ⟨t',rfl⟩:=ry;exact eq_str (fin_bl I q dec_str)
  | _=>exact absurd (show false=true from hs) Bool.false_ne_true
 | byt i=>
  obtain ⟨t,rfl⟩:=rx
  cases y with
  | byt j=>obtain ⟨t',rfl⟩:=ry;exact PySem.W.eq_bytes (fin_bl I q dec_byt)
  | _=>exact absurd (show false=true from hs) Bool.false_ne_true
 | _=>cases y<;>exact absurd (show false=true from hs) Bool.false_ne_true
theorem op_ne:OpR X (compareOp .NotEq) rNe:=by
 intro pins s σ H x y v u Q I rx ry h
 obtain ⟨hs,q⟩:=h
 cases x with
 | non=>
  cases rx
  cases y with
  | non=>cases ry;exact PySem.EqNone.ne_none_none (fin_bl I q (by simp))
  | bl j=>cases ry;exact PySem.EqNone.ne_none_bool (fin_bl I q (by simp))
  | int j=>obtain ⟨t',rfl⟩:=ry;exact PySem.EqNone.ne_none_int (fin_bl I q (by simp))
  | str j=>obtain ⟨t',rfl⟩:=ry;exact PySem.EqNone.ne_none_str (fin_bl I q (by simp))
  | _=>exact absurd (show false=true from hs) Bool.false_ne_true
 | bl i=>
  cases rx
  cases y with
  | non=>cases ry;exact PySem.EqNone.ne_bool_none (fin_bl I q (by simp))
  | bl j=>cases ry;exact ne_bool (fin_bl I q (congrArg not dec_bl))
  | str j=>obtain ⟨t',rfl⟩:=ry;exact PySem.EqMixed.ne_bool_str (fin_bl I q (by simp))
  | _=>exact absurd (show false=true from hs) Bool.false_ne_true
 | int i=>
  obtain ⟨t,rfl⟩:=rx
  cases y with
  | non=>cases ry;exact PySem.EqNone.ne_int_none (fin_bl I q (by simp))
  | int j=>obtain ⟨t',rfl⟩:=ry;exact ne_int (fin_bl I q (congrArg not dec_int))
  | str j=>obtain ⟨t',rfl⟩:=ry;exact PySem.EqMixed.ne_int_str (fin_bl I q (by simp))
  | _=>exact absurd (show false=true from hs) Bool.false_ne_true
 | str i=>
  obtain ⟨t,rfl⟩:=rx
  cases y with
  | non=>cases ry;exact PySem.EqNone.ne_str_none (fin_bl I q (by simp))
  | bl j=>cases ry;exact PySem.EqMixed.ne_str_bool (fin_bl I q (by simp))
  | int j=>obtain ⟨t',rfl⟩:=ry;exact PySem.EqMixed.ne_str_int (fin_bl I q (by simp))
  | str j=>obtain ⟨t',rfl⟩:=ry;exact ne_str (fin_bl I q (congrArg not dec_str))
  | _=>exact absurd (show false=true from hs) Bool.false_ne_true
 | byt i=>
  obtain ⟨t,rfl⟩:=rx
  cases y with
  | byt j=>obtain ⟨t',rfl⟩:=ry;exact PySem.W.ne_bytes (fin_bl I q (congrArg not dec_byt))
  | _=>exact absurd (show false=true from hs) Bool.false_ne_true
 | _=>cases y<;>exact absurd (show false=true from hs) Bool.false_ne_true
theorem op_lt:OpR X (compareOp .Lt) (rI0 fun i j=>.bl (decide (i < j))):=opB0 fun _ _ _ _ _ _ _ q=>lt_int q
theorem op_le:OpR X (compareOp .LtE) (rI0 fun i j=>.bl (decide (i≤j))):=opB0 fun _ _ _ _ _ _ _ q=>le_int q
theorem op_gt:OpR X (compareOp .Gt) (rI0 fun i j=>.bl (decide (j < i))):=opB0 fun _ _ _ _ _ _ _ q=>gt_int q
theorem op_ge:OpR X (compareOp .GtE) (rI0 fun i j=>.bl (decide (j≤i))):=opB0 fun _ _ _ _ _ _ _ q=>ge_int q
def isObj:HO->Bool
 | .lst _=>true
 | .ins _ _ _=>true
 | _=>false
theorem OpR.or {f:Value->Value->Sem Value}{r r':R2}(h:OpR X f r) (h':OpR X f r'):OpR X f (fun x y H Q=>r x y H Q∨r' x y H Q):=by
 intro pins s σ H x y v u Q I rx ry q
 rcases q with q|q
 ·exact h pins s σ H x y v u Q I rx ry q
 ·exact h' pins s σ H x y v u Q I rx ry q
theorem nomark (b:Expr){op:CmpOp}(h:op ≠ .In:=by decide) (h2:op ≠ .NotIn:=by decide):behindInMarks op b=false:=by
 have e1:(op == CmpOp.In)=false:=by cases op<;>first|rfl|exact absurd rfl h
 have e2:(op == CmpOp.NotIn)=false:=by cases op<;>first|rfl|exact absurd rfl h2
 cases b<;>simp [behindInMarks,e1,e2]
theorem pe_cmpR {op:CmpOp}{r:R2}(ho:OpR X (compareOp op) r) (ha:PE X a ta) (hb:PE X b tb) (hm:behindInMarks op b=false):PE X (.Compare a [op] [b] pos) (tOp r ta tb):=by
 intro pins s σ H Q I h
 exact wpAny_Compare1 (binT ha hb I h fun v u s2 x y H2 I2 rx ry q=>ho pins s2 σ H2 x y v u Q I2 rx ry q) hm
def tTest (t:TE):TT:=fun σ H Q=>t σ H fun x H'=>∃ k,x=.bl k∧Q k H'
theorem pt_cmpR {op:CmpOp}{r:R2}(ho:OpR X (compareOp op) r) (ha:PE X a ta) (hb:PE X b tb) (hm:behindInMarks op b=false):PT X (.Compare a [op] [b] pos) (tTest (tOp r ta tb)):=by
 intro pins s σ H Q I h
 refine wpAny_isTrue_Compare1 (thn (ha pins s σ H _ I h) fun v s1 ⟨x,H1,I1,r1,q1⟩=>thn (hb pins s1 σ H1 _ I1 q1) fun u s2 ⟨y,H2,I2,r2,q2⟩=>
  thn (ho pins s2 σ H2 x y v u _ I2 r1 r2 q2) fun c s3 ⟨z,H3,I3,r3,k,e,q3⟩=>?_) hm
 subst e
 cases r3
 exact wpAny_truthy_bool ⟨H3,I3,q3⟩
def tChain (r r':R2) (ta tb tc:TE):TE:=fun σ H Q=>ta σ H fun x H1=>tb σ H1 fun y H2=>r x y H2 fun z H3=>∃ k,z=.bl k ∧
 (if k=true then tc σ H3 fun w' H4=>r' y w' H4 Q else Q (.bl false) H3)
theorem pe_chain {op op':CmpOp}{r r':R2}(ho:OpR X (compareOp op) r) (ho':OpR X (compareOp op') r') (ha:PE X a ta) (hb:PE X b tb) (hc:PE X c tc)
  (hm:lastMarks [op,op'] [b,c]=false:=by with_unfolding_all rfl):PE X (.Compare a [op,op'] [b,c] pos) (tChain r r' ta tb tc):=by
 intro pins s σ H Q I h
 refine Compare_chain (thn (ha pins s σ H _ I h) fun v s1 ⟨x,H1,I1,r1,q1⟩=>chain_link (thn (hb pins s1 σ H1 _ I1 q1) fun u s2 ⟨y,H2,I2,r2,q2⟩=>
  thn (ho pins s2 σ H2 x y v u _ I2 r1 r2 q2) fun d s3 ⟨z,H3,I3,r3,k,e,q3⟩=>?_)) hm
 subst e
 cases r3
 refine wpAny_truthy_bool ?_
 cases k with
 | false=>exact ite_ff ⟨.bl false,H3,I3,rfl,q3⟩
 | true=>exact ite_tt (chain_last (thn (hc pins s3 σ H3 _ I3 q3) fun w' s4 ⟨z',H4,I4,r4,q4⟩=>ho' pins s4 σ H4 y z' u w' Q I4 r2 r4 q4))
theorem line63:(sizeLine:Nat) < 2 ^ 63:=by rw [sizeLine_eq];decide
theorem vals1 {x:V}{us:List Value}(r:Vals [x] us):∃ u,us=[u]∧RelV x u:=by
 cases r with
 | cons r1 r2=>cases r2;exact ⟨_,rfl,r1⟩
theorem vals2 {x y:V}{us:List Value}(r:Vals [x,y] us):∃ u w',us=[u,w']∧RelV x u∧RelV y w':=by
 cases r with
 | cons r1 r2=>
  cases r2 with
  | cons r3 r4=>cases r4;exact ⟨_,_,rfl,r1,r3⟩
theorem call_max2 (hc:X.calm=true):CallR X (.builtin "max") (fun xs H Q=>∃ i j,xs=[.int i,.int j]∧Q (.int (if j > i then j else i)) H):=by
 intro pins s σ H xs us Q I r h
 obtain ⟨i,j,rfl,q⟩:=h
 obtain ⟨u,w',rfl,⟨t,rfl⟩,⟨t',rfl⟩⟩:=vals2 r
 refine max_two_ints (I.ok.hd hc) fun h' tk k=>⟨_,H,I.kept k,?_,q⟩
 by_cases hj:j > i
 ·rw [if_pos hj,if_pos hj];exact ⟨_,rfl⟩
 ·rw [if_neg hj,if_neg hj];exact ⟨_,rfl⟩
theorem call_min2 (hc:X.calm=true):CallR X (.builtin "min") (fun xs H Q=>∃ i j,xs=[.int i,.int j]∧Q (.int (if j < i then j else i)) H):=by
 intro pins s σ H xs us Q I r h
 obtain ⟨i,j,rfl,q⟩:=h
 obtain ⟨u,w',rfl,⟨t,rfl⟩,⟨t',rfl⟩⟩:=vals2 r
 refine min_two_ints (I.ok.hd hc) fun h' tk k=>⟨_,H,I.kept k,?_,q⟩
 by_cases hj:j < i
 ·rw [if_pos hj,if_pos hj];exact ⟨_,rfl⟩
 ·rw [if_neg hj,if_neg hj];exact ⟨_,rfl⟩
end
end L2
namespace L2
open PySem PySem.Spec PyProof.Rows
structure ObjM (h:Heap) (x dx C:Addr) (mA:Str->Option Value):Prop where
 obj:h.get? x=some (PySem.W.instObj C dx)
 ns:h.Ns1 dx mA
 ne:dx ≠ x
theorem lookIn_ns {h:Heap}{dx:Addr}{mA:Str->Option Value}(n:h.Ns1 dx mA):∃ od,h.get? dx=some od∧∀ name,PySem.W.lookIn name od=some (mA name):=by
 obtain ⟨o,es,ep,ho,hd,hk,_,hm⟩:=n
 refine ⟨o,ho,fun name=>?_⟩
 have e:=hm name
 unfold nsFind findBy at e
 rw [←Array.find?_toList] at e
 unfold PySem.W.lookIn
 rw [hd]
 dsimp only
 split
 ·rename_i y q
  rw [q] at e
  exact congrArg some e
 ·rename_i q
  rw [q] at e
  have a:es.toList.any (·.refKey)=false:=by
   rw [List.any_eq_false]
   intro y hy
   obtain ⟨z,t,hkey⟩:=hk y (Array.mem_toList_iff.mp hy)
   simp [DictEntry.refKey,hkey]
  have a':¬ es.toList.any (·.refKey)=true:=by rw [a];exact Bool.false_ne_true
  rw [if_neg a']
  exact congrArg some e
theorem ObjM.look {h:Heap}{x dx C:Addr}{mA:Str->Option Value}(I:ObjM h x dx C mA):∃ od,PySem.W.InstAt h x (PySem.W.instObj C dx) C (some od)∧∀ name,PySem.W.lookIn name od=some (mA name):=
 let ⟨od,ho,hl⟩:=lookIn_ns I.ns
 ⟨od,⟨I.obj,rfl,rfl,ho⟩,hl⟩
section
variable {prog:Program}{w:World}{A:Around}{E:Value->Shared->Prop}{s:Shared}{K:PySem.W.Frag}{x dx C f:Addr}{mA:Str->Option Value}{name:Str}{v:Value}
theorem get_map {expr:Bool}{Q:Value->Shared->Prop}(X:K.In s.heap) (I:ObjM s.heap x dx C mA) (hg:PySem.W.plainGet K C name=true) (hh:PySem.W.hasDictIn K C=true)
  (ha:PySem.W.findIn K (.ref C) name=some none) (hv:mA name=some v) (hv':PySem.W.handedIn v=true) (h:Q v { s with toks:=s.toks+1 }) :
  wpAny (model prog w) A (getAttr (.ref x) name expr) Q E s:=by
 obtain ⟨od,J,hl⟩:=I.look
 exact PySem.W.get_value X J (PySem.W.plainGet_of hg).1 (PySem.W.findObj_own hh ha rfl (by rw [hl,hv])) hv' h
theorem get_meth {pl:Sem Bool}{Q:Value × List Value->Shared->Prop}(X:K.In s.heap) (I:ObjM s.heap x dx C mA) (hg:PySem.W.plainGet K C name=true)
  (hf:PySem.W.findIn K (.ref C) name=some (some (.ref f))) (ht:PySem.W.isFn K (.ref f)=true) (hv:mA name=none) (h:Q (.ref f,[.ref x]) s) :
  wpAny (model prog w) A (getMethod (.ref x) name pl) Q E s:=by
 obtain ⟨od,J,hl⟩:=I.look
 exact PySem.W.method_fn X J (PySem.W.plainGet_of hg).1 (PySem.W.plainGet_of hg).2 hf (beq_iff_eq.mp ht) (by show (PySem.W.lookIn name od).map (·.isSome)=some false;rw [hl,hv];rfl) h
theorem set_map {ns:List Str}{Q:Unit->Shared->Prop}(X:K.In s.heap) (I:ObjM s.heap x dx C mA)
  (hs:PySem.W.findIn K (.ref C) "__setattr__"=some (some (.builtin "object.__setattr__"))) (hp:PySem.W.plainOver K C=true) (ht:PySem.W.takerIn K C name=some none) (hh:PySem.W.hasDictIn K C=true)
  (hw:PySem.Within mA ns) (hsz:ns.length≤sizeLine)
  (h:∀ h',ObjM h' x dx C (fun y=>if y=name then some v else mA y)->Heap.SameBut dx s.heap h'->Q () { s with heap:=h',toks:=s.toks+2 }) :
  wpAny (model prog w) A (setAttr (.ref x) name v) Q E s:=by
 obtain ⟨od,J,hl⟩:=I.look
 refine PySem.W.set_plain X J hs (PySem.W.osa_open (s:={ s with toks:=s.toks+1 }) (r:=none) X J hp ht fun b=>?_)
 obtain ⟨cd,hc,hd'⟩:=PySem.W.any_some hh
 have hx:s.heap.get? x=some ⟨.ref C,some dx,.plain,#[]⟩:=I.obj
 refine wpAny_bind (wpAny_pure (wpAny_bind (wpAny_bind (wpAny_loadPart hx (wpAny_bind (PySem.W.Looks.here (s:={ s with toks:=s.toks+1 }) (PySem.W.looks_clsIn X hc) ?_))))))
 rw [hd']
 refine wpAny_pure (a:=some dx) (wpAny_bind (wpAny_pure (wpAny_bind ?_)))
 refine wpAny_nsSet1 (s:={ s with toks:=s.toks+1 }) I.ns fun h' hn2 hs2=>?_
 obtain ⟨oD,esD,epD,hoD,hdD,hcD⟩:=hn2.count (PySem.Within.cons name v hw)
 refine wpAny_bind (wpAny_lookBehind hoD (by rw [hdD];exact pastItsLine_dict (Nat.le_trans hcD (by rw [List.length_cons];omega))) ?_)
 exact wpAny_pure (h _ ⟨(hs2.2 _ (Ne.symm I.ne)).trans I.obj,hn2,I.ne⟩ hs2)
theorem make_map {R:Result->Shared->Prop}{vs:List Value}{kw:List (Str × Value)}(X:K.In s.heap) (hm:PySem.W.makesIn K C=true)
  (hi:PySem.W.findIn K (.ref C) "__init__"=some (some (.ref f))) (hf:PySem.W.typeIn K (.ref f)=some (.type "function"))
  (h:codeAny (model prog w) (A.under (.builtin "type.__call__" ⟨.ref C::vs,kw⟩)) (.call (.ref f) ⟨.ref (s.heap.objs.size+1)::vs,kw⟩) (PySem.W.InitBack (s.heap.objs.size+1) R)
   { s with heap:=(s.heap.push PySem.W.emptyDict).push (PySem.W.instObj C s.heap.objs.size) }) :
  codeAny (model prog w) A (.call (.ref C) ⟨vs,kw⟩) R s:=by
 obtain ⟨hh,g,d,t,os⟩:=s
 exact PySem.W.make_core (PySem.W.makes_of X hm) (PySem.W.looks_findIn X hi) (fun self=>PySem.W.bind_fn X self hf) (.inl rfl) h
theorem make_map0 {R:Result->Shared->Prop}(X:K.In s.heap) (hm:PySem.W.makesIn K C=true)
  (hi:PySem.W.findIn K (.ref C) "__init__"=some (some (.builtin "object.__init__")))
  (hb:∀ self,PySem.W.Looks (model prog w) s.heap (bindSpecial (.builtin "object.__init__") self) (.builtin "object.__init__",[self]))
  (h:codeAny (model prog w) (A.under (.builtin "type.__call__" ⟨[.ref C],[]⟩)) (.call (.builtin "object.__init__") ⟨[.ref (s.heap.objs.size+1)],[]⟩) (PySem.W.InitBack (s.heap.objs.size+1) R)
   { s with heap:=(s.heap.push PySem.W.emptyDict).push (PySem.W.instObj C s.heap.objs.size) }) :
  codeAny (model prog w) A (.call (.ref C) ⟨[],[]⟩) R s:=by
 obtain ⟨hh,g,d,t,os⟩:=s
 exact PySem.W.make_core (PySem.W.makes_of X hm) (PySem.W.looks_findIn X hi) hb (.inr ⟨rfl,rfl⟩) h
end
def putF (f:Str) (v:V):List (Str × V)->List (Str × V)
 | []=>[(f,v)]
 | (g,x)::r=>if g=f then (g,v)::r else (g,x)::putF f v r
theorem lookup_putF (f g:Str) (v:V):∀ fs:List (Str × V),(putF f v fs).lookup g=if g=f then some v else fs.lookup g
 | []=>by
  show List.lookup g [(f,v)]=_
  by_cases h:g=f
  ·have hb:(g == f)=true:=beq_iff_eq.mpr h
   simp only [List.lookup,hb,if_pos h]
  ·have hb:(g == f)=false:=beq_eq_false_iff_ne.mpr h
   simp only [List.lookup,hb,if_neg h]
 | (k,x)::r=>by
  have ih:=lookup_putF f g v r
  rw [show putF f v ((k,x)::r)=(if k=f then (k,v)::r else (k,x)::putF f v r) from rfl]
  by_cases hk:k=f
  ·rw [if_pos hk]
   by_cases h:g=k
   ·have hb:(g == k)=true:=beq_iff_eq.mpr h
    simp only [List.lookup,hb,if_pos (h.trans hk)]
   ·have hb:(g == k)=false:=beq_eq_false_iff_ne.mpr h
    simp only [List.lookup,hb,if_neg (fun e:g=f=>h (e.trans hk.symm))]
  ·rw [if_neg hk]
   by_cases h:g=k
   ·have hb:(g == k)=true:=beq_iff_eq.mpr h
    simp only [List.lookup,hb,if_neg (fun e:g=f=>hk (h.symm.trans e))]
   ·have hb:(g == k)=false:=beq_eq_false_iff_ne.mpr h
    simp only [List.lookup,hb]
    exact ih
theorem keys_putF (f:Str) (v:V):∀ fs:List (Str × V),f∈(putF f v fs).map (·.1)∧∀ g,g∈fs.map (·.1)->g∈(putF f v fs).map (·.1)
 | []=>⟨by simp [putF],fun g h=>by simp at h⟩
 | (k,x)::r=>by
  obtain ⟨i1,i2⟩:=keys_putF f v r
  rw [show putF f v ((k,x)::r)=(if k=f then (k,v)::r else (k,x)::putF f v r) from rfl]
  by_cases hk:k=f
  ·rw [if_pos hk]
   subst hk
   exact ⟨by simp,fun g h=>by simpa using h⟩
  ·rw [if_neg hk]
   refine ⟨?_,fun g h=>?_⟩
   ·rw [List.map_cons]
    exact List.mem_cons_of_mem _ i1
   ·rw [List.map_cons] at h ⊢
    rcases List.mem_cons.mp h with e|e
    ·exact List.mem_cons.mpr (.inl e)
    ·exact List.mem_cons_of_mem _ (i2 g e)
theorem length_putF (f:Str) (v:V):∀ fs:List (Str × V),(putF f v fs).length≤fs.length+1
 | []=>by simp [putF]
 | (k,x)::r=>by
  have ih:=length_putF f v r
  rw [show putF f v ((k,x)::r)=(if k=f then (k,v)::r else (k,x)::putF f v r) from rfl]
  by_cases hk:k=f
  ·rw [if_pos hk,List.length_cons,List.length_cons];omega
  ·rw [if_neg hk,List.length_cons,List.length_cons];omega
theorem RelO.some_of {v:V}{o:Option Value}(r:RelO (some v) o):∃ u,o=some u∧RelV v u:=by
 cases o with
 | none=>exact (show False from r).elim
 | some u=>exact ⟨u,rfl,r⟩
theorem RelO.none_of {o:Option Value}(r:RelO none o):o=none:=by
 cases o with
 | none=>rfl
 | some u=>exact (show False from r).elim
theorem handed_of {v:V}{u:Value}(r:RelV v u):PySem.W.handedIn u=true:=by
 cases v with
 | non=>cases (show u=Value.none from r);rfl
 | bl b=>cases (show u=Value.bool b from r);rfl
 | int i=>obtain ⟨t,e⟩:=(show ∃ t,u=Value.int i t from r);cases e;rfl
 | str x=>obtain ⟨t,e⟩:=(show ∃ t,u=Value.str x t from r);cases e;rfl
 | byt b=>obtain ⟨t,e⟩:=(show ∃ t,u=Value.bytes b t from r);cases e;rfl
 | flt b=>obtain ⟨t,e⟩:=(show ∃ t,u=Value.float b t from r);cases e;rfl
 | ref a=>cases (show u=Value.ref a from r);rfl
 | ty n=>cases (show u=Value.type n from r);rfl
section
variable {P:Program}{w:World}{H H':Hp}{h h':Heap}{a C dx:Addr}{fs fs':List (Str × V)}
theorem ins_get (hok:HOk P w H h) (e:H a=some (.ins C dx fs)):∃ mA,ObjM h a dx C mA∧(∀ f,RelO (fs.lookup f) (mA f))∧PySem.Within mA (fs.map (·.1))∧fs.length≤1000∧H dx=some (.own a):=by
 obtain ⟨d,z,ne,ob,mA,n,r,q⟩:=(show ObjOk P w H h a (.ins C dx fs) from hok a _ e)
 exact ⟨mA,⟨ob,n,ne⟩,r,q,z,d⟩
end
structure Cls (K:PySem.W.Frag) (C:Addr):Prop where
 pg:PySem.W.plainGet K C Str.empty=true
 hd:PySem.W.hasDictIn K C=true
 po:PySem.W.plainOver K C=true
 sa:PySem.W.findIn K (.ref C) "__setattr__"=some (some (.builtin "object.__setattr__"))
theorem Cls.get {K:PySem.W.Frag}{C:Addr}(c:Cls K C) (f:Str):PySem.W.plainGet K C f=true:=c.pg
def NoAttr (K:PySem.W.Frag) (C:Addr) (f:Str):Prop:=PySem.W.findIn K (.ref C) f=some none
theorem NoAttr.taker {K:PySem.W.Frag}{C:Addr}{f:Str}(n:NoAttr K C f):PySem.W.takerIn K C f=some none:=by
 unfold PySem.W.takerIn
 rw [show PySem.W.findIn K (.ref C) f=some none from n]
 rfl
structure Meth (K:PySem.W.Frag) (C:Addr) (m:Str) (f:Addr):Prop where
 at_:PySem.W.findIn K (.ref C) m=some (some (.ref f))
 fn:PySem.W.isFn K (.ref f)=true
 kp:PySem.W.keepIn K (.ref f)=true
section
variable {X:Cx}{pins:List (Addr × Obj)}{σ:St}{H:Hp}{s:Shared}{a C dx:Addr}{fs:List (Str × V)}{f:Str}{v:V}{A:Around}{E:Value->Shared->Prop}
theorem getattr_ok {b:Bool}{Q:Value->Shared->Prop}(I:Inv X pins σ H s) (e:H a=some (.ins C dx fs)) (c:Cls X.K C) (n:NoAttr X.K C f) (l:fs.lookup f=some v)
  (h:∀ u s',Inv X pins σ H s'->RelV v u->Q u s'):wpAny (model X.prog X.w) A (getAttr (.ref a) f b) Q E s:=by
 obtain ⟨mA,O,r,_,_,_⟩:=ins_get I.hok e
 obtain ⟨u,hu,ru⟩:=RelO.some_of (v:=v) (o:=mA f) (by rw [←l];exact r f)
 exact get_map I.kIn O (c.get f) c.hd n hu (handed_of ru) (h u _ (I.tok _) ru)
theorem getmeth_ok {m:Str}{g:Addr}{pl:Sem Bool}{Q:Value × List Value->Shared->Prop}(I:Inv X pins σ H s) (e:H a=some (.ins C dx fs)) (c:Cls X.K C) (k:Meth X.K C m g) (l:fs.lookup m=none)
  (h:Q (.ref g,[.ref a]) s):wpAny (model X.prog X.w) A (getMethod (.ref a) m pl) Q E s:=by
 obtain ⟨mA,O,r,_,_,_⟩:=ins_get I.hok e
 have hn:mA m=none:=RelO.none_of (by rw [←l];exact r m)
 exact get_meth I.kIn O (c.get m) k.at_ k.fn hn h
theorem setattr_ok {y:V}{u:Value}{Q:Unit->Shared->Prop}(I:Inv X pins σ H s) (e:H a=some (.ins C dx fs)) (c:Cls X.K C) (n:NoAttr X.K C f) (hl:fs.length < 1000) (ry:RelV y u)
  (h:∀ s',Inv X pins σ (upd H a (.ins C dx (putF f y fs))) s'->Q () s'):wpAny (model X.prog X.w) A (setAttr (.ref a) f u) Q E s:=by
 obtain ⟨mA,O,r,wi,_,ho⟩:=ins_get I.hok e
 have hz:(fs.map (·.1)).length≤sizeLine:=by rw [List.length_map,sizeLine_eq];omega
 refine set_map I.kIn O c.sa c.po n.taker c.hd wi hz fun h' O' sb=>h _ ?_
 have hd:∃ o,h'.get? dx=some o:=let ⟨o,_,_,e',_⟩:=O'.ns;⟨o,e'⟩
 refine I.write (x:=a) (e:=dx) (by rw [e];exact True.intro) (.inr ho) (fun b q hb z=>(sb.2 b hb).trans z) hd ?_
 refine ⟨by rw [upd_ne O.ne];exact ho,?_,O.ne,O'.obj,_,O'.ns,fun g=>?_,fun g hg=>?_⟩
 ·have:=length_putF f y fs;omega
 ·show RelO ((putF f y fs).lookup g) (if g=f then some u else mA g)
  rw [lookup_putF]
  by_cases q:g=f
  ·rw [if_pos q,if_pos q];exact ry
  ·rw [if_neg q,if_neg q];exact r g
 ·by_cases q:g=f
  ·rw [q];exact (keys_putF f y fs).1
  ·refine (keys_putF f y fs).2 g (wi g fun z=>hg ?_)
   show (if g=f then some u else mA g)=none
   rw [if_neg q];exact z
theorem Inv.made (I:Inv X pins σ H s):Inv X pins σ (upd (upd H s.heap.objs.size (.own (s.heap.objs.size+1))) (s.heap.objs.size+1) (.ins C s.heap.objs.size []))
  { s with heap:=(s.heap.push PySem.W.emptyDict).push (PySem.W.instObj C s.heap.objs.size) }:=by
 have e1:(s.heap.push PySem.W.emptyDict).get? s.heap.objs.size=some PySem.W.emptyDict:=Heap.get?_push_size s.heap rfl
 have e2:((s.heap.push PySem.W.emptyDict).push (PySem.W.instObj C s.heap.objs.size)).get? (s.heap.objs.size+1)=some (PySem.W.instObj C s.heap.objs.size):=by
  have:=Heap.get?_push_size (s.heap.push PySem.W.emptyDict) (o:=PySem.W.instObj C s.heap.objs.size) rfl
  rwa [Heap.size_push] at this
 have e3:(s.heap.push PySem.W.emptyDict).Ns s.heap.objs.size (fun _=>none):=⟨PySem.W.emptyDict,#[],_,e1,rfl,(fun e he=>absurd he (by simp)),fun _=>rfl⟩
 have I1:=I.laid (a:=s.heap.objs.size) (o:=.own (s.heap.objs.size+1)) (h':=s.heap.push PySem.W.emptyDict) (t':=s.toks) (fun b u q=>Heap.get?_push_of_some _ q) (Nat.le_refl _) ⟨_,e1⟩
 refine I1.laid (a:=s.heap.objs.size+1) (o:=.ins C s.heap.objs.size []) (t':=s.toks) (fun b u q=>Heap.get?_push_of_some _ q) (Nat.le_of_eq (Heap.size_push _ _)) ?_
 have ne:s.heap.objs.size ≠ s.heap.objs.size+1:=Nat.ne_of_lt (Nat.lt_succ_self _)
 refine ⟨by rw [upd_ne ne,upd_same],Nat.zero_le _,ne,e2,fun _=>none,(Heap.Ns1.of_empty e3).at fun o q=>Heap.get?_push_of_some _ q,fun _=>True.intro,fun y hy=>absurd rfl hy⟩
theorem attr_of {prog:Program}{w:World}{env:Env}{e:Expr}{f:Str}{pos:Pos}{s:Shared}{Q:Value->Shared->Prop}(hb:attributeBase e f env (eval e env)=eval e env)
  (h:wpAny (model prog w) A (eval e env) (fun o s₁=>wpAny (model prog w) A (getAttr o f true) Q E s₁) E s):wpAny (model prog w) A (eval (.Attribute e f pos) env) Q E s:=
 Attribute_any_ h (by rw [arm_eval_Attribute,hb])
end
section
variable {X:Cx}{o e value:Expr}{f:Str}{pos pos' tpos:Pos}{ta tv:TE}
end
section
variable {X:Cx}{pins:List (Addr × Obj)}{σ:St}{H:Hp}{s:Shared}{A:Around}{E:Value->Shared->Prop}{Q:Value->Shared->Prop}{c:Value}{b:Bool}
inductive TyOf (K:PySem.W.Frag) (H:Hp):V->Value->Prop where
 | non:TyOf K H .non (.type "NoneType")
 | bl (x:Bool):TyOf K H (.bl x) (.type "bool")
 | int (i:Int):TyOf K H (.int i) (.type "int")
 | str (x:Str):TyOf K H (.str x) (.type "str")
 | flt (x:UInt64):TyOf K H (.flt x) (.type "float")
 | lst {a:Addr} {xs:List V} (e:H a=some (.lst xs)):TyOf K H (.ref a) (.type "list")
 | frz {a:Addr} {o:Obj} {xs:List V} (e:H a=some (.frz o (.lst xs))):TyOf K H (.ref a) (.type "list")
 | tup {a:Addr} {xs:List V} (e:H a=some (.tup xs)):TyOf K H (.ref a) (.type "tuple")
 | dK {a:Addr} {kvs:List (Key × V)} (e:H a=some (.dK kvs)):TyOf K H (.ref a) (.type "dict")
 | dT {a:Addr} {kvs:List (List Key × V)} (e:H a=some (.dT kvs)):TyOf K H (.ref a) (.type "dict")
 | ins {a C dx:Addr} {fs:List (Str × V)} (e:H a=some (.ins C dx fs)) (cl:Cls K C) (ha:PySem.W.findIn K (.ref C) "__class__"=some (some (.builtin "object.__class__")))
   (hn:PySem.W.specialIn K (.builtin "object.__class__") "__get__"=some (some (.builtin "getset_descriptor.__get__"))) (htk:PySem.W.takesIn K (.builtin "object.__class__")=some true)
   (hm:PySem.W.mroIn K C (.type "object")=some true):TyOf K H (.ref a) (.ref C)
theorem isinst_ok {x:V}{u t:Value}(I:Inv X pins σ H s) (rx:RelV x u) (ty:TyOf X.K H x t) (e:PySem.W.kitOne X.K t c=some b) (h:∀ tk,Q (.bool b) { s with toks:=tk }) :
  wpAny (model X.prog X.w) A (call (.builtin "isinstance") [u,c]) Q E s:=by
 cases ty with
 | non=>cases (show u=Value.none from rx);exact PySem.W.kia_one PySem.W.kitx_none I.kIn True.intro e (fun z=>nomatch z) h
 | bl y=>cases (show u=Value.bool y from rx);exact PySem.W.kia_one PySem.W.kitx_bool I.kIn True.intro e (fun z=>nomatch z) h
 | int i=>obtain ⟨t,q⟩:=(show ∃ t,u=Value.int i t from rx);cases q;exact PySem.W.kia_one PySem.W.kitx_int I.kIn True.intro e (fun z=>nomatch z) h
 | str y=>obtain ⟨t,q⟩:=(show ∃ t,u=Value.str y t from rx);cases q;exact PySem.W.kia_one PySem.W.kitx_str I.kIn True.intro e (fun z=>nomatch z) h
 | flt y=>obtain ⟨t,q⟩:=(show ∃ t,u=Value.float y t from rx);cases q;exact PySem.W.kia_one PySem.W.kitx_float I.kIn True.intro e (fun z=>nomatch z) h
 | @lst a xs ea=>
  cases (show u=Value.ref a from rx)
  obtain ⟨_,_,n,_,h1⟩:=(show ObjOk X.prog X.w H s.heap a (.lst xs) from I.hok a _ ea)
  exact PySem.W.kia_one PySem.W.kitx_list I.kIn ⟨_,h1,rfl⟩ e (fun z=>nomatch z) h
 | @frz a ob xs ea=>
  cases (show u=Value.ref a from rx)
  obtain ⟨_,_,_,n,_,h1⟩:=(show ObjOk X.prog X.w H s.heap a (.frz ob (.lst xs)) from I.hok a _ ea)
  exact PySem.W.kia_one PySem.W.kitx_list I.kIn ⟨_,h1,rfl⟩ e (fun z=>nomatch z) h
 | @tup a xs ea=>
  cases (show u=Value.ref a from rx)
  obtain ⟨_,_,_,p⟩:=(show ObjOk X.prog X.w H s.heap a (.tup xs) from I.hok a _ ea)
  obtain ⟨o,h1,h2,_⟩:=p
  exact PySem.W.kia_one PySem.W.kitx_tuple I.kIn ⟨o,h1,h2⟩ e (fun z=>nomatch z) h
 | @dK a kvs ea=>
  cases (show u=Value.ref a from rx)
  obtain ⟨_,_,vs,_,p⟩:=(show ObjOk X.prog X.w H s.heap a (.dK kvs) from I.hok a _ ea)
  obtain ⟨o,es,ep,h1,h2,_⟩:=p
  exact PySem.W.kia_one PySem.W.kitx_dict I.kIn ⟨o,h1,h2.1⟩ e (fun z=>nomatch z) h
 | @dT a kvs ea=>
  cases (show u=Value.ref a from rx)
  obtain ⟨_,_,xs,_,o,es,ep,h1,h2,_⟩:=(show ObjOk X.prog X.w H s.heap a (.dT kvs) from I.hok a _ ea)
  exact PySem.W.kia_one PySem.W.kitx_dict I.kIn ⟨o,h1,h2.1⟩ e (fun z=>nomatch z) h
 | @ins a C dx fs ea cl ha hn htk hm=>
  cases (show u=Value.ref a from rx)
  obtain ⟨mA,O,_⟩:=ins_get I.hok ea
  obtain ⟨od,J,_⟩:=O.look
  exact PySem.W.kia_one (PySem.W.kitx_own (cl.get _) cl.hd ha hn htk hm) I.kIn J e (fun z=>nomatch z) h
end
end L2
namespace L2
open PySem PySem.Spec PyProof.Rows
structure Room (k:Nat) (A:Around):Prop where
 hd:A.handled=none
 dp:A.depth+3 * k+5 < recursionLimit
 un:A.units+16 * k+200 < cLine
theorem Room.mono {j k:Nat}{A:Around}(r:Room k A) (h:j≤k):Room j A:=⟨r.hd,by have:=r.dp;omega,by have:=r.un;omega⟩
theorem Room.deeper {k:Nat}{A:Around}(r:Room (k+1) A) (env:Env):Room k (A.deeper env):=
 ⟨r.hd,by have:=r.dp;show A.depth+1+3 * k+5 < _;omega,by have:=r.un;show A.units+3+16 * k+200 < _;omega⟩
theorem make_depth {A:Around}{C:Addr}{us:List Value}{kw:List (Str × Value)}:(A.under (.builtin "type.__call__" ⟨.ref C::us,kw⟩)).depth=A.depth+1:=by
 first|rfl|simp [Around.under,Code.weight,Code.isCreation,Code.isGuard,Code.isCaller,Code.frames,Code.isFrame,guardIds]
theorem make_units {A:Around}{C:Addr}{us:List Value}{kw:List (Str × Value)}:(A.under (.builtin "type.__call__" ⟨.ref C::us,kw⟩)).units=A.units+1:=by
 first|rfl|simp [Around.under,Code.cUnits,Code.frames,Code.isFrame]
theorem Room.make {k:Nat}{A:Around}(r:Room (k+1) A) (C:Addr) (us:List Value) (kw:List (Str × Value)):Room k (A.under (.builtin "type.__call__" ⟨.ref C::us,kw⟩)):=
 ⟨r.hd,by have:=r.dp;rw [make_depth];omega,by have:=r.un;rw [make_units];omega⟩
theorem Room.depth {k:Nat}{A:Around}(r:Room k A):A.depth < recursionLimit:=by have:=r.dp;omega
theorem Room.units {k:Nat}{A:Around}(r:Room k A):A.units+64 < cLine:=by have:=r.un;omega
def tNil:TA:=fun _ H Q=>Q [] H
def tCons (ta:TE) (tr:TA):TA:=fun σ H Q=>ta σ H fun x H1=>tr σ H1 fun xs H2=>Q (x::xs) H2
section
variable {X:Cx}{e:Expr}{es:List Expr}{te:TE}{t:TA}{pos:Pos}
theorem pa_nil:PA X [] tNil:=fun _ _ _ _ H Q I h=>Calls.spliced_nil ⟨[],H,I,.nil,h⟩
theorem pa_cons (ha:PE X e te) (hr:PA X es t) (hs:starEach (e::es) X.env=(false,eval e X.env)::starEach es X.env:=by rfl):PA X (e::es) (tCons te t):=by
 intro pos pins s σ H Q I h
 rw [hs]
 show wpAny _ _ (spliced ((false,eval e X.env)::backTo pos (starEach es X.env))) _ _ s
 refine Calls.spliced_cons (thn (ha pins s σ H _ I h) fun u s1 ⟨x,H1,I1,r1,q1⟩=>?_)
 exact thn (hr pos pins s1 σ H1 _ I1 q1) fun us s2 ⟨xs,H2,I2,r2,q2⟩=>⟨x::xs,H2,I2,.cons r1 r2,q2⟩
end
abbrev Sp:=List V->Hp->VK->XK->Prop
abbrev CXT:=List Env->Hp->Shared->XK->Value->Shared->Prop
structure Env0 (P:Program) (w:World) (K:PySem.W.Frag) (mg:Str->Option Value) (base:Heap) (A:Around) (outer:List Env) (s:Shared) (H:Hp):Prop where
 frames:A.frames=some outer
 mod:Mod K mg base
 bs:∀ b o,base.get? b=some o->s.heap.get? b=some o∧H b=none
 bsz:base.objs.size≤s.heap.objs.size
 funs:s.heap.FunFrames base outer
 frf:∀ b∈frs outer,H b=none
 hok:HOk P w H s.heap
 bare:AllBare s.gens
def CE (outer:List Env) (P:Program) (w:World) (H:Hp) (s:Shared) (Q:VK) (u:Value) (s':Shared):Prop:=
 ∃ v H',s'.os=s.os∧AllBare s'.gens∧Un (frs outer) [] H H' s.heap s'.heap∧HOk P w H' s'.heap∧RelV v u∧Q v H'
def CR (CX:CXT) (outer:List Env) (P:Program) (w:World) (H:Hp) (s:Shared) (Q:VK) (E:XK) (r:Result) (s':Shared):Prop:=
 match r with
 | .ok (.ret u)=>CE outer P w H s Q u s'
 | .ok _=>False
 | .error e=>CX outer H s E e s'
structure FnOk (P:Program) (w:World) (K:PySem.W.Frag) (mg:Str->Option Value) (base:Heap) (CX:CXT) (k:Nat) (f:Addr) (fd:FuncData) (ps:List Str) (sp:Sp):Prop where
 len:∀ vs H Q E,sp vs H Q E->vs.length=ps.length
 run:∀ (A:Around) (outer:List Env) (s:Shared) (H:Hp) (args:Args) (us:List Value) (vs:List V) (Q:VK) (E:XK),Room k A->Env0 P w K mg base A outer s H->BindsTo s fd args (ps.zip us)->Vals vs us->sp vs H Q E →
  codeAny (model P w) A (.call (.ref f) args) (CR CX outer P w H s Q E) s
theorem FnOk.imp {P:Program}{w:World}{K:PySem.W.Frag}{mg:Str->Option Value}{base:Heap}{CX:CXT}{k:Nat}{f:Addr}{fd:FuncData}{ps:List Str}{sp sp':Sp}(F:FnOk P w K mg base CX k f fd ps sp)
  (h:∀ vs H Q E,sp' vs H Q E->sp vs H Q E):FnOk P w K mg base CX k f fd ps sp':=
 ⟨fun vs H Q E q=>F.len vs H Q E (h _ _ _ _ q),fun A outer s H args us vs Q E hr he hb hv hs=>F.run A outer s H args us vs Q E hr he hb hv (h _ _ _ _ hs)⟩
theorem Env0.make {P:Program}{w:World}{K:PySem.W.Frag}{mg:Str->Option Value}{base:Heap}{A:Around}{outer:List Env}{s:Shared}{H:Hp}(e:Env0 P w K mg base A outer s H) (C:Addr) (us:List Value) (kw:List (Str × Value)) :
  Env0 P w K mg base (A.under (.builtin "type.__call__" ⟨.ref C::us,kw⟩)) outer s H:=⟨by first|exact e.frames|(simpa [Around.under,Code.envs,Code.isFrame,pushEnvs] using e.frames),e.mod,e.bs,e.bsz,e.funs,e.frf,e.hok,e.bare⟩
section
variable {X:Cx}{pins:List (Addr × Obj)}{σ:St}{H:Hp}{s s':Shared}
theorem Inv.env0 (I:Inv X pins σ H s):Env0 X.prog X.w X.K X.mg X.base X.A X.stack s H:=
 ⟨I.ok.frames,I.ok.mod,I.bs,Nat.le_trans I.ok.bsz I.sz,I.stack,I.stkFree,I.hok,I.bare⟩
theorem Inv.after {Q:VK}{u:Value}(I:Inv X pins σ H s) (h:CE X.stack X.prog X.w H s Q u s'):EP X pins σ Q u s':=by
 obtain ⟨v,H',os,bare,un,hok,r,q⟩:=h
 obtain ⟨hh,g,d,t,os'⟩:=s'
 obtain rfl:os'=s.os:=os
 exact ⟨v,H',I.call (h':=hh) (g':=g) (d':=d) (t':=t) (ch:=[]) un hok bare (fun b z=>absurd z (by simp)),r,q⟩
end
def tCall (sp:Sp) (dvs:List V) (E:XK) (t:TA):TE:=fun σ H Q=>t σ H fun vs H1=>sp (vs++dvs) H1 Q E
def Binds (K:PySem.W.Frag) (fd:FuncData) (ps:List Str) (ds:List Value):Prop:=
 ∀ (s:Shared) (us:List Value),K.In s.heap->(us++ds).length=ps.length->BindsTo s fd ⟨us,[]⟩ (ps.zip (us++ds))
theorem Binds.all {K:PySem.W.Frag}{fd:FuncData}{ps:List Str}(h:∀ us:List Value,us.length=ps.length->bindArgs fd ⟨us,[]⟩=pure (ps.zip us)):Binds K fd ps []:=fun s us _ hl=>by
 rw [List.append_nil] at hl ⊢
 exact .of_eq (h us hl)
def Passes (CX:CXT) (X:Cx) (E:XK):Prop:=∀ (pins:List (Addr × Obj)) (σ:St) (H:Hp) (s:Shared) (e:Value) (s':Shared),Inv X pins σ H s->CX X.stack H s E e s'->X.xe e s'
section
variable {X:Cx}{CX:CXT}{k:Nat}{f C:Addr}{fd:FuncData}{ps:List Str}{sp:Sp}{dvs:List V}{ds:List Value}{E:XK}{x m:Str}{p pos apos:Pos}{e o:Expr}{es:List Expr}{ta:TE}{t:TA}
theorem run_fn {pins:List (Addr × Obj)}{σ:St}{H:Hp}{s:Shared}{Q:VK}{us:List Value}{vs:List V}(F:FnOk X.prog X.w X.K X.mg X.base CX k f fd ps sp) (hr:Room k X.A) (hb:Binds X.K fd ps ds) (hd:Vals dvs ds) (hx:Passes CX X E)
  (I:Inv X pins σ H s) (r:Vals vs us) (h:sp (vs++dvs) H Q E):wpAny (model X.prog X.w) X.A (call (.ref f) us) (EP X pins σ Q) X.xe s:=by
 have r2:Vals (vs++dvs) (us++ds):=r.append hd
 have hl:(us++ds).length=ps.length:=by rw [←r2.length];exact F.len _ _ _ _ h
 refine wpAny_call (codeAny_mono (F.run X.A X.stack s H ⟨us,[]⟩ (us++ds) (vs++dvs) Q E hr I.env0 (hb s us I.kIn hl) r2 h) fun r s' hq=>?_)
 cases r with
 | error e=>exact hx pins σ H s e s' I hq
 | ok fl=>
  cases fl with
  | ret u=>exact I.after hq
  | next=>exact False.elim hq
  | brk=>exact False.elim hq
  | cont=>exact False.elim hq
theorem pe_call (F:FnOk X.prog X.w X.K X.mg X.base CX k f fd ps sp) (hr:Room k X.A) (hg:Gl X x) (hm:X.mg x=some (.ref f)) (hk:PySem.W.keepIn X.K (.ref f)=true) (hb:Binds X.K fd ps ds) (hd:Vals dvs ds) (hx:Passes CX X E)
  (ha:PA X (e::es) t) (hdb:(x == ("__debug__":Str))=false:=by decide) (he:starEach (e::es) X.env=(false,eval e X.env)::starEach es X.env:=by rfl) (hpl:(backTo pos (starEach es X.env)).any (·.1)=false:=by rfl) :
  PE X (.Call (.Name x p) (e::es) [] pos) (tCall sp dvs E t):=by
 intro pins s σ H Q I h
 refine wpAny_Call_Name_kw (ld_glob I hg hm ?_ hdb)
 refine PySem.W.callWith_K (h₀:=X.base) I.ok.mod.kin hk (thn (ha pos pins s σ H _ I h) fun us s1 ⟨vs,H1,I1,r,q⟩=>⟨I1.kIn,?_⟩) he hpl
 exact run_fn F hr hb hd hx I1 r q
structure Mk (K:PySem.W.Frag) (C f:Addr):Prop where
 makes:PySem.W.makesIn K C=true
 init:PySem.W.findIn K (.ref C) "__init__"=some (some (.ref f))
 fn:PySem.W.isFn K (.ref f)=true
 kp:PySem.W.keepIn K (.ref C)=true
theorem run_make {pins:List (Addr × Obj)}{σ:St}{H:Hp}{s:Shared}{Q:VK}{us:List Value}{vs:List V}(M:Mk X.K C f) (F:FnOk X.prog X.w X.K X.mg X.base CX k f fd ps sp) (hr:Room (k+1) X.A) (hb:Binds X.K fd ps ds) (hd:Vals dvs ds)
  (hx:Passes CX X E) (I:Inv X pins σ H s) (r:Vals vs us)
  (h:∀ x dx,H x=none->H dx=none->dx ≠ x->sp (.ref x::(vs++dvs)) (upd (upd H dx (.own x)) x (.ins C dx [])) (fun v H2=>v=.non∧Q (.ref x) H2) E) :
  wpAny (model X.prog X.w) X.A (call (.ref C) us) (EP X pins σ Q) X.xe s:=by
 have hq:=h (s.heap.objs.size+1) s.heap.objs.size (I.hok.fresh (Nat.le_succ _)) (I.hok.fresh (Nat.le_refl _)) (Nat.ne_of_lt (Nat.lt_succ_self _))
 have I2:=Inv.made (C:=C) I
 have r2:Vals (V.ref (s.heap.objs.size+1)::(vs++dvs)) (Value.ref (s.heap.objs.size+1)::(us++ds)):=.cons rfl (r.append hd)
 have hl:(Value.ref (s.heap.objs.size+1)::us++ds).length=ps.length:=by
  have e:=r2.length
  rw [F.len _ _ _ _ hq] at e
  exact e.symm
 refine wpAny_call (make_map (f:=f) I.kIn M.makes M.init (beq_iff_eq.mp M.fn) (codeAny_mono (F.run _ X.stack _ _ ⟨Value.ref (s.heap.objs.size+1)::us,[]⟩ (Value.ref (s.heap.objs.size+1)::(us++ds)) _ _ E (hr.make C us [])
  (I2.env0.make C us []) (hb _ (Value.ref (s.heap.objs.size+1)::us) I2.kIn hl) r2 hq) fun r s' hq'=>?_))
 cases r with
 | error e=>exact hx pins σ _ _ e s' I2 hq'
 | ok fl=>
  cases fl with
  | ret u=>
   obtain ⟨v,H',I3,rv,ev,q3⟩:=I2.after hq'
   subst ev
   exact ⟨rv,⟨V.ref (s.heap.objs.size+1),H',I3,rfl,q3⟩⟩
  | next=>exact False.elim hq'
  | brk=>exact False.elim hq'
  | cont=>exact False.elim hq'
end
section
variable {X:Cx}{CX:CXT}{k:Nat}{f C:Addr}{fd:FuncData}{ps ks:List Str}{sp:Sp}{E:XK}{x m:Str}{p pos apos kpos:Pos}{e o:Expr}{es:List Expr}{kws:List Keyword}{te ta:TE}{t tk:TA}{nm:Option Str}
variable {g:List Value->List Value->List Value}{gV:List V->List V->List V}
end
structure FnScope (N P:List Str) (sc:Scope):Prop where
 kind:sc.kind=.function
 co:sc.isCoroutine=false
 gen:sc.isGenerator=false
 nd:N.Nodup
 pre:N.take P.length=P
 par:∀ x∈P,sc.names.lookup x=some .local∨sc.names.lookup x=some .cell
 nofree:∀ y∈sc.names,y.2 ≠ .free
theorem bindL_out {kindOf:Str->Option NameKind}{x:Str}:∀ {binds:List (Str × Value)}{m:Str->Option Value},(∀ v,(x,v) ∉ binds)->bindL kindOf binds m x=m x
 | [],_,_=>rfl
 | (n,v)::r,m,h=>by
  unfold bindL
  rw [bindL_out fun w hw=>h w (List.mem_cons_of_mem _ hw)]
  split
  ·have:x ≠ n:=by rintro rfl;exact h v List.mem_cons_self
   simp [this]
  ·rfl
theorem bindC_out {kindOf:Str->Option NameKind}{x:Str}:∀ {binds:List (Str × Value)}{m:Str->Option Value},(∀ v,(x,v) ∉ binds)->bindC kindOf binds m x=m x
 | [],_,_=>rfl
 | (n,v)::r,m,h=>by
  unfold bindC
  rw [bindC_out fun w hw=>h w (List.mem_cons_of_mem _ hw)]
  split
  ·rfl
  ·have:x ≠ n:=by rintro rfl;exact h v List.mem_cons_self
   simp [this]
theorem bindL_get {kindOf:Str->Option NameKind}{x:Str}{v:Value}:∀ {P:List Str}{vs:List Value}{i:Nat}{m:Str->Option Value},P.Nodup->P[i]? = some x->vs[i]? = some v->kindOf x=some .local →
  bindL kindOf (P.zip vs) m x=some v
 | [],_,_,_,_,h,_,_=>by simp at h
 | _::_,[],_,_,_,_,h,_=>by simp at h
 | p::P,w::vs,0,m,nd,h1,h2,hk=>by
  simp at h1 h2;subst h1;subst h2
  show bindL kindOf ((p,w)::P.zip vs) m p=_
  unfold bindL
  rw [bindL_out fun v hv=>(List.nodup_cons.mp nd).1 (List.of_mem_zip hv).1,if_pos hk]
  simp
 | p::P,w::vs,i+1,m,nd,h1,h2,hk=>by
  show bindL kindOf ((p,w)::P.zip vs) m x=_
  unfold bindL
  exact bindL_get (i:=i) (List.nodup_cons.mp nd).2 (by simpa using h1) (by simpa using h2) hk
theorem bindC_get {kindOf:Str->Option NameKind}{x:Str}{v:Value}:∀ {P:List Str}{vs:List Value}{i:Nat}{m:Str->Option Value},P.Nodup->P[i]? = some x->vs[i]? = some v->kindOf x ≠ some .local →
  bindC kindOf (P.zip vs) m x=some v
 | [],_,_,_,_,h,_,_=>by simp at h
 | _::_,[],_,_,_,_,h,_=>by simp at h
 | p::P,w::vs,0,m,nd,h1,h2,hk=>by
  simp at h1 h2;subst h1;subst h2
  show bindC kindOf ((p,w)::P.zip vs) m p=_
  unfold bindC
  rw [bindC_out fun v hv=>(List.nodup_cons.mp nd).1 (List.of_mem_zip hv).1,if_neg hk]
  simp
 | p::P,w::vs,i+1,m,nd,h1,h2,hk=>by
  show bindC kindOf ((p,w)::P.zip vs) m x=_
  unfold bindC
  exact bindC_get (i:=i) (List.nodup_cons.mp nd).2 (by simpa using h1) (by simpa using h2) hk
def start (N:List Str) (vs:List V):St:=vs.map some++List.replicate (N.length - vs.length) none
def cxOf (CX:CXT) (P:Program) (w:World) (K:PySem.W.Frag) (mg:Str->Option Value) (base:Heap) (N:List Str) (qual:Str) (scope:Scope) (f:Addr) (cd:Value) (A:Around) (outer:List Env) (s:Shared) (H:Hp) (E:XK):Cx where
 prog:=P
 w:=w
 K:=K
 mg:=mg
 base:=base
 A:=A.deeper (envOfC qual scope s.heap.objs.size f cd)
 N:=N
 s₀:=s
 H₀:=H
 env:=envOfC qual scope s.heap.objs.size f cd
 outer:=outer
 stack:=envOfC qual scope s.heap.objs.size f cd::outer
 ex:=[]
 calm:=true
 fn:=fun _=>true
 pn:=[]
 xe:=fun e s'=>wpAny (model P w) (A.deeper (envOfC qual scope s.heap.objs.size f cd)) (leaving (envOfC qual scope s.heap.objs.size f cd) e) (fun _ s''=>CX outer H s E e s'') (fun e' s''=>CX outer H s E e' s'') s'
theorem cell_has {sc:Scope}{n:Nat}{x:Str}(h:sc.names.lookup x=some .cell):∃ c,(cellsFrom n sc.names []).lookup x=some c:=by
 have q:=PySem.W.cellsFrom_some sc.names n [] (.inl h)
 exact Option.isSome_iff_exists.mp q
theorem inv_start {CX:CXT}{P:Program}{w:World}{K:PySem.W.Frag}{mg:Str->Option Value}{base:Heap}{N ps:List Str}{qual:Str}{scope:Scope}{f:Addr}{cd:Value}{A:Around}{outer:List Env}{s s1:Shared}{H:Hp}{E:XK}{us:List Value}{vs:List V}
  (S:FnScope N ps scope) (hd:A.handled=none) (e0:Env0 P w K mg base A outer s H) (hl:vs.length=ps.length) (r:Vals vs us)
  (x:InCallC s s.heap.objs.size (bindL (envOfC qual scope s.heap.objs.size f cd).kindOf (ps.zip us) fun _=>none) (cellsFrom (s.heap.objs.size+1) scope.names []) (bindC (envOfC qual scope s.heap.objs.size f cd).kindOf (ps.zip us) fun _=>none) s1) :
  Inv (cxOf CX P w K mg base N qual scope f cd A outer s H E) [] (start N vs) H s1:=by
 have hpl:ps.length≤N.length:=by have:=congrArg List.length S.pre;rw [List.length_take] at this;omega
 obtain ⟨h1,tk,rfl,hk⟩:=x.done
 have noA:∀ b:Addr,b ∉ (cxOf CX P w K mg base N qual scope f cd A outer s H E).ex:=fun b z=>absurd (show b∈([]:List Addr) from z) (by simp)
 refine ⟨⟨e0.mod,S.kind,rfl,rfl,Nat.le_refl _,fun y z c h1 h2=>?_,fun y hy=>?_,fun y c _ h=>?_,fun _=>hd,Around.frames_deeper e0.frames,.inr ⟨rfl,rfl⟩,fun b z=>absurd z (noA b),e0.bs,e0.bsz,fun b _ _=>noA b,fun b z=>absurd z (noA b),e0.funs,e0.frf⟩,
  rfl,e0.bare,Un.kept hk,⟨_,x.toInCall.ns,fun i y v h1 h2 h3=>?_⟩,fun y c h=>⟨_,x.cell y c h⟩,e0.hok.fresh (Nat.le_refl _),fun y c h=>?_,fun p hp=>absurd (show p∈([]:List (Addr × Obj)) from hp) (by simp),e0.hok.kept hk,?_⟩
 ·exact name_of_addr x.apart (PySem.mem_of_lookup h1) (PySem.mem_of_lookup h2)
 ·have hy:scope.names.lookup y=some .cell∨scope.names.lookup y=some .free:=hy
  rcases hy with hy|hy
  ·exact cell_has hy
  ·exact absurd rfl (S.nofree _ (PySem.mem_of_lookup hy))
 ·exact Nat.le_of_lt (x.above y c (PySem.mem_of_lookup h))
 ·have hi:i < vs.length:=by
   unfold start at h2
   by_cases hi:i < vs.length
   ·exact hi
   ·rw [List.getElem?_append_right (by simpa using hi)] at h2
    rw [List.getElem?_replicate] at h2
    split at h2<;>cases h2
  have ha:vs[i]? = some v:=by
   unfold start at h2
   rw [List.getElem?_append_left (by simpa using hi),List.getElem?_map] at h2
   cases e:vs[i]? with
   | none=>rw [e] at h2;cases h2
   | some a=>rw [e] at h2;cases h2;rfl
  obtain ⟨u,hu,rv⟩:=r.get ha
  have hp:ps[i]? = some y:=by
   rw [←S.pre,List.getElem?_take_of_lt (by omega)];exact h1
  have ndP:ps.Nodup:=by rw [←S.pre];exact S.nd.sublist (List.take_sublist _ _)
  refine ⟨u,rv,?_⟩
  rcases S.par y (List.mem_of_getElem? hp) with k|k
  ·exact .inl ⟨k,bindL_get ndP hp hu k⟩
  ·obtain ⟨c,e⟩:=cell_has (n:=s.heap.objs.size+1) k
   refine .inr ⟨.inl k,c,e,?_⟩
   have q:=x.cell y c e
   rw [bindC_get ndP hp hu (by show scope.names.lookup y ≠ _;rw [k];decide)] at q
   exact q
 ·exact e0.hok.fresh (Nat.le_of_lt (x.above y c (PySem.mem_of_lookup h)))
 ·unfold start
  show _=N.length
  rw [List.length_append,List.length_map,List.length_replicate]
  omega
theorem fn_of {CX:CXT}{P:Program}{w:World}{K:PySem.W.Frag}{mg:Str->Option Value}{base:Heap}{k:Nat}{f:Addr}{name qual:Str}{params:Arguments}{body:List Stmt}{scope:Scope}{dV kV doc pm cdv ct oc:Value}{an od:Option Addr}
  {osl:Array (Option Value)} {N ps:List Str} {sp:Sp} (lk:K.lookup f=some ⟨oc,od,.func (PySem.W.fnOf name qual params body scope dV kV doc pm an cdv ct),osl⟩) (hcd:PySem.W.codeIn K cdv qual=true) (S:FnScope N ps scope)
  (len:∀ vs H Q E,sp vs H Q E->vs.length=ps.length)
  (hbody:∀ (A:Around) (outer:List Env) (s:Shared) (H:Hp) (vs:List V) (Q:VK) (E:XK),Room k (A.deeper (envOfC qual scope s.heap.objs.size f cdv))->sp vs H Q E →
   ∃ t,PSs (cxOf CX P w K mg base N qual scope f cdv A outer s H E) body t∧t { nx:=fun _ H'=>Q .non H',rt:=Q } (start N vs) H) :
  FnOk P w K mg base CX (k+1) f (PySem.W.fnOf name qual params body scope dV kV doc pm an cdv ct) ps sp:=by
 refine ⟨len,fun A outer s H args us vs Q E hr e0 hb r hsp=>?_⟩
 have hl:=len _ _ _ _ hsp
 have KX:K.In s.heap:=e0.mod.kin.keeps fun b o e=>(e0.bs b o e).1
 have lim:s.heap.NoLimit:=e0.mod.nolimit.keeps fun b o e=>(e0.bs b o e).1
 have hkind:∀ y∈ps.zip us,scope.names.lookup y.1=some .local∨(scope.names.lookup y.1=some .cell∧((cellsFrom (s.heap.objs.size+1) scope.names []).lookup y.1).isSome=true):=fun ⟨n,v⟩ hy=>by
  rcases S.par n (List.of_mem_zip hy).1 with q|q
  ·exact .inl q
  ·exact .inr ⟨q,PySem.W.cellsFrom_some _ _ _ (.inl q)⟩
 refine codeAny_call_function hr.depth (KX _ _ lk) rfl S.co S.gen rfl (PySem.W.codeRec_of KX hcd) (hb _ _ _ _ ?_)
 refine wpAny_newFunctionEnv_cells S.kind hkind fun env he s1 x=>?_
 subst he
 refine ⟨lim.keeps x.toInCall.keep,codeAny_func ?_⟩
 obtain ⟨t,ht,hq⟩:=hbody A outer s H vs Q E (hr.deeper _) hsp
 have I:Inv (cxOf CX P w K mg base N qual scope f cdv A outer s H E) [] (start N vs) H s1:=inv_start S hr.hd e0 hl r x
 refine wpAny_mono (ht [] s1 (start N vs) H _ I hq) (fun fl s' hs=>?_) fun e s' hs=>hs
 have fin:∀ {σ':St} {H':Hp} {v:V} {u:Value},Inv (cxOf CX P w K mg base N qual scope f cdv A outer s H E) [] σ' H' s'->RelV v u->Q v H'->CE outer P w H s Q u s':=
  fun {σ' H' v u} J rv q=>⟨v,H',J.os,J.bare,J.base,J.hok,rv,q⟩
 cases fl with
 | ret u=>
  obtain ⟨v,σ',H',J,rv,q⟩:=hs
  exact fin J rv q
 | next=>
  obtain ⟨σ',H',J,q⟩:=hs
  exact fin (v:=V.non) (u:=Value.none) J rfl q
 | brk=>
  obtain ⟨_,_,_,q⟩:=hs
  exact False.elim q
 | cont=>
  obtain ⟨_,_,_,q⟩:=hs
  exact False.elim q
end L2
namespace L2
open PySem PySem.Spec PyProof.Rows
section
variable {X:Cx}{x:Str}{p pos:Pos}{e:Expr}{es:List Expr}{t:TA}{id T:String}{r:List V->Hp->VK->Prop}
def tCB (r:List V->Hp->VK->Prop) (t:TA):TE:=fun σ H Q=>t σ H fun vs H1=>r vs H1 Q
theorem pe_callB (hc:CallR X (.builtin id) r) (hg:Gl X x) (hm:X.mg x=none) (hv:bootBuiltins x=some (.builtin id)) (ha:PA X (e::es) t) (hn:x ≠ "__name__":=by decide) (hdb:(x == ("__debug__":Str))=false:=by decide)
  (he:starEach (e::es) X.env=(false,eval e X.env)::starEach es X.env:=by rfl) (hpl:(backTo pos (starEach es X.env)).any (·.1)=false:=by rfl):PE X (.Call (.Name x p) (e::es) [] pos) (tCB r t):=by
 intro pins s σ H Q I h
 refine wpAny_Call_Name_kw (ld_blt I hg hm hv ?_ hn hdb)
 exact PyProof.Rows.callWith_builtin1 (thn (ha pos pins s σ H _ I h) fun us s1 ⟨vs,H1,I1,r1,q1⟩=>hc pins s1 σ H1 vs us Q I1 r1 q1) he hpl
theorem pe_callTy (hc:CallR X (.type T) r) (hg:Gl X x) (hm:X.mg x=none) (hv:bootBuiltins x=some (.type T)) (ha:PA X (e::es) t) (hn:x ≠ "__name__":=by decide) (hdb:(x == ("__debug__":Str))=false:=by decide)
  (he:starEach (e::es) X.env=(false,eval e X.env)::starEach es X.env:=by rfl) (hpl:(backTo pos (starEach es X.env)).any (·.1)=false:=by rfl):PE X (.Call (.Name x p) (e::es) [] pos) (tCB r t):=by
 intro pins s σ H Q I h
 refine wpAny_Call_Name_kw (ld_blt I hg hm hv ?_ hn hdb)
 exact PyProof.Rows.callWith_type1 (thn (ha pos pins s σ H _ I h) fun us s1 ⟨vs,H1,I1,r1,q1⟩=>hc pins s1 σ H1 vs us Q I1 r1 q1) he hpl
end
end L2
namespace HT
open PySem PyProof.Rows
section
open PySem.SeqAt
open PySem.AutoSeq1 (wpAny_loadPart')
open PySem.MeetsSeq PySem.MeetsSeq2 PySem.MeetsSeq3
end
section
variable {prog:Program}{w:World}{A:Around}{E:Value->Shared->Prop}{s:Shared}
end
end HT
namespace L2
open PySem PySem.Spec PyProof.Rows
abbrev TO:=St->Hp->(Option Int->Hp->Prop)->Prop
section
variable {X:Cx}{e:Expr}{te:TE}{lo hi:Option Expr}{tl th:TO}{pos p2:Pos}
end
end L2
namespace L2
open PySem PySem.Spec PyProof.Rows
def ixN (n:Nat) (i:Int):Option Nat:=if 0≤i then (if i < n then some i.toNat else none) else if -(n:Int)≤i then some (i+n).toNat else none
def atI {α:Type}(xs:List α) (i:Int):Option α:=(ixN xs.length i).bind fun j=>xs[j]?
theorem ixN_seq {n:Nat}{i:Int}{j:Nat}(h:ixN n i=some j):seqIndex? i n=some j∧j < n∧-(n:Int)≤i∧i < n:=by
 unfold ixN at h
 by_cases h0:0≤i
 ·rw [if_pos h0] at h
  by_cases h1:i < n
  ·rw [if_pos h1] at h
   have e:i.toNat=j:=Option.some.inj h
   exact ⟨by rw [seqIndex_of h0 h1,e],by omega,by omega,h1⟩
  ·rw [if_neg h1] at h;cases h
 ·rw [if_neg h0] at h
  by_cases h1:-(n:Int)≤i
  ·rw [if_pos h1] at h
   have e:(i+n).toNat=j:=Option.some.inj h
   exact ⟨by rw [seqIndex_neg (by omega) h1,e],by omega,h1,by omega⟩
  ·rw [if_neg h1] at h;cases h
theorem atI_get {α:Type}{xs:List α}{i:Int}{v:α}(h:atI xs i=some v):∃ j,seqIndex? i xs.length=some j∧xs[j]? = some v∧j < xs.length∧-(xs.length:Int)≤i∧i < xs.length:=by
 unfold atI at h
 cases e:ixN xs.length i with
 | none=>rw [e] at h;cases h
 | some j=>
  rw [e] at h
  obtain ⟨h1,h2,h3,h4⟩:=ixN_seq e
  exact ⟨j,h1,h,h2,h3,h4⟩
theorem atI_nat {α:Type}{xs:List α}{j:Nat}{v:α}(h:xs[j]? = some v):atI xs (j:Int)=some v:=by
 have hj:j < xs.length:=(List.getElem?_eq_some_iff.mp h).1
 have e:ixN xs.length (j:Int)=some j:=by
  unfold ixN
  rw [if_pos (by omega),if_pos (by omega)];simp
 unfold atI;rw [e];exact h
def PlainIx (b:Expr):Prop:=∀ o i,subscripted b false o i=operate [o,i] (getItem o i)
def IxR (X:Cx) (r:R2):Prop:=
 ∀ (value slice:Expr) (pins:List (Addr × Obj)) (s:Shared) (σ:St) (H:Hp) (x y:V) (v u:Value) (Q:VK),Inv X pins σ H s->RelV x v->RelV y u->r x y H Q →
  subscripted slice false v u=operate [v,u] (getItem v u)->wpAny (model X.prog X.w) X.A (subscriptTail value slice v u) (EP X pins σ Q) X.xe s
def MtR (X:Cx) (id:String) (r:V->List V->Hp->VK->Prop):Prop:=
 ∀ (pins:List (Addr × Obj)) (s:Shared) (σ:St) (H:Hp) (x:V) (xs:List V) (v:Value) (us:List Value) (Q:VK),Inv X pins σ H s->RelV x v->Vals xs us->r x xs H Q →
  wpAny (model X.prog X.w) X.A (call (.builtin id) (v::us)) (EP X pins σ Q) X.xe s
section
variable {X:Cx}{a b:Expr}{ta tb:TE}{pos:Pos}
theorem IxR.or {r r':R2}(h:IxR X r) (h':IxR X r'):IxR X (fun x y H Q=>r x y H Q∨r' x y H Q):=by
 intro value slice pins s σ H x y v u Q I rx ry q hs
 rcases q with q|q
 ·exact h value slice pins s σ H x y v u Q I rx ry q hs
 ·exact h' value slice pins s σ H x y v u Q I rx ry q hs
theorem pe_ix {r:R2}(hr:IxR X r) (ha:PE X a ta) (hb:PE X b tb) (hs:PlainIx b):PE X (.Subscript a b pos) (tOp r ta tb):=by
 intro pins s σ H Q I h
 exact Subscript_ (binT ha hb I h fun v u s2 x y H2 I2 rx ry q=>hr a b pins s2 σ H2 x y v u Q I2 rx ry q (hs _ _))
def rIxL (K:PySem.W.Frag):R2:=fun x y H Q=>∃ p xs i v,x=.ref p∧y=.int i∧SqL K H p xs∧atI xs i=some v∧Q v H
def rIxT (K:PySem.W.Frag):R2:=fun x y H Q=>∃ p xs i v,x=.ref p∧y=.int i∧SqT K H p xs∧atI xs i=some v∧Q v H
theorem ix_list:IxR X (rIxL X.K):=by
 intro value slice pins s σ H x y v u Q I rx ry h hs
 obtain ⟨p,xs,i,z,rfl,rfl,hq,he,q⟩:=h
 cases rx
 obtain ⟨t,rfl⟩:=ry
 obtain ⟨its,r,pl,hz⟩:=I.list hq
 obtain ⟨j,h1,h2,h3,h4,h5⟩:=atI_get he
 obtain ⟨w,ew,rw'⟩:=r.get h2
 have hl:=r.length
 have hn:=line63
 have fin:EP X pins σ Q w s:=⟨z,H,I,rw',q⟩
 by_cases h0:0≤i
 ·have hj:i.toNat=j:=by
   rw [seqIndex_of h0 h5] at h1
   exact Option.some.inj h1
  exact item_listR pl.isList h0 (by omega) (by rw [hj];simpa using ew) fin hs
 ·have hj:(i+(its.toArray.size:Int)).toNat=j:=by
   rw [seqIndex_neg (by omega) h4] at h1
   rw [List.size_toArray,←hl]
   exact Option.some.inj h1
  exact subscriptTail_builtinR (x:=w) pl.isList.typeIs slot_list_getitem.lookup
   (wpAny_getItem_list_neg (Q:=fun r s'=>r=w∧EP X pins σ Q r s') pl.isList (by omega) (by rw [List.size_toArray]<;>omega) (by omega) (by rw [hj];simpa using ew) ⟨rfl,fin⟩) hs
theorem ix_tup:IxR X (rIxT X.K):=by
 intro value slice pins s σ H x y v u Q I rx ry h hs
 obtain ⟨p,xs,i,z,rfl,rfl,hq,he,q⟩:=h
 cases rx
 obtain ⟨t,rfl⟩:=ry
 obtain ⟨its,r,pl,hz⟩:=I.tuple hq
 obtain ⟨j,h1,h2,h3,h4,h5⟩:=atI_get he
 obtain ⟨w,ew,rw'⟩:=r.get h2
 have hl:=r.length
 have hn:=line63
 have fin:EP X pins σ Q w s:=⟨z,H,I,rw',q⟩
 exact subscriptTail_builtinR (x:=w) pl.typeIs slot_tuple_getitem.lookup
  (getItem_tuple (j:=j) (Q:=fun r s'=>r=w∧EP X pins σ Q r s') pl (by omega) (by omega) (by rw [List.size_toArray,←hl];exact h1) (by simpa using ew) ⟨rfl,fin⟩) hs
def flatV:V->Bool
 | .non=>true
 | .bl _=>true
 | .int _=>true
 | .str _=>true
 | _=>false
def eqV:V->V->Bool
 | .non,.non=>true
 | .bl a,.bl b=>a == b
 | .bl a,.int b=>(if a then 1 else 0) == b
 | .int a,.bl b=>a == (if b then 1 else 0)
 | .int a,.int b=>a == b
 | .str a,.str b=>a == b
 | _,_=>false
theorem eqAt_V {A:Around}{s:Shared}{y x:V}{u v:Value}(ry:RelV y u) (rx:RelV x v) (fy:flatV y=true) (fx:flatV x=true):SeqAt.EqAt A s u v (eqV y x):=by
 cases y with
 | non=>
  cases ry
  cases x with
  | non=>cases rx;exact SeqAt.EqAt.same _
  | bl b=>cases rx;exact SeqAt.EqAt.none_bool b
  | int b=>obtain ⟨t,rfl⟩:=rx;exact SeqAt.EqAt.none_int b t
  | str b=>obtain ⟨t,rfl⟩:=rx;exact SeqAt.EqAt.none_str b t
  | _=>exact absurd (show false=true from fx) Bool.false_ne_true
 | bl a=>
  cases ry
  cases x with
  | non=>cases rx;exact SeqAt.EqAt.bool_none a
  | bl b=>cases rx;exact SeqAt.EqAt.bool_bool a b
  | int b=>obtain ⟨t,rfl⟩:=rx;exact SeqAt.EqAt.bool_int a b t
  | str b=>obtain ⟨t,rfl⟩:=rx;exact SeqAt.EqAt.bool_str a b t
  | _=>exact absurd (show false=true from fx) Bool.false_ne_true
 | int a=>
  obtain ⟨t',rfl⟩:=ry
  cases x with
  | non=>cases rx;exact SeqAt.EqAt.int_none a t'
  | bl b=>cases rx;exact SeqAt.EqAt.int_bool a t' b
  | int b=>obtain ⟨t,rfl⟩:=rx;exact SeqAt.EqAt.int_int a t' b t
  | str b=>obtain ⟨t,rfl⟩:=rx;exact SeqAt.EqAt.int_str a t' b t
  | _=>exact absurd (show false=true from fx) Bool.false_ne_true
 | str a=>
  obtain ⟨t',rfl⟩:=ry
  cases x with
  | non=>cases rx;exact SeqAt.EqAt.str_none a t'
  | bl b=>cases rx;exact SeqAt.EqAt.str_bool a t' b
  | int b=>obtain ⟨t,rfl⟩:=rx;exact SeqAt.EqAt.str_int a t' b t
  | str b=>obtain ⟨t,rfl⟩:=rx;exact SeqAt.EqAt.str_str a t' b t
  | _=>exact absurd (show false=true from fx) Bool.false_ne_true
 | _=>exact absurd (show false=true from fy) Bool.false_ne_true
def eqU (x:V) (u:Value):Bool:=match u with
 | .none=>eqV .non x
 | .bool b=>eqV (.bl b) x
 | .int i _=>eqV (.int i) x
 | .str z _=>eqV (.str z) x
 | _=>false
theorem eqU_of {x y:V}{u:Value}(r:RelV y u) (f:flatV y=true):eqU x u=eqV y x:=by
 cases y with
 | non=>cases r;rfl
 | bl b=>cases r;rfl
 | int i=>obtain ⟨t,rfl⟩:=r;rfl
 | str z=>obtain ⟨t,rfl⟩:=r;rfl
 | _=>exact absurd (show false=true from f) Bool.false_ne_true
theorem any_eqU {x:V}:∀ {xs:List V}{us:List Value},Vals xs us->xs.all flatV=true->us.any (eqU x)=xs.any fun y=>eqV y x
 | _,_,.nil,_=>rfl
 | y::xs,u::us,.cons r t,f=>by
  rw [List.all_cons,Bool.and_eq_true] at f
  rw [List.any_cons,List.any_cons,eqU_of r f.1,any_eqU t f.2]
theorem mem_eqAt {A:Around}{s:Shared}{x:V}{v:Value}(rx:RelV x v) (fx:flatV x=true):∀ {xs:List V}{us:List Value},Vals xs us->xs.all flatV=true->∀ u∈us,SeqAt.EqAt A s u v (eqU x u)
 | _,_,.nil,_=>fun u hu=>by cases hu
 | y::xs,u::us,.cons r t,f=>fun u' hu=>by
  rw [List.all_cons,Bool.and_eq_true] at f
  rcases List.mem_cons.mp hu with rfl|hu
  ·rw [eqU_of r f.1];exact eqAt_V r rx f.1 fx
  ·exact mem_eqAt rx fx t f.2 u' hu
def inV (x:V) (xs:List V):Bool:=xs.any fun y=>eqV y x
def rIn (K:PySem.W.Frag) (neg:Bool):R2:=fun x y H Q=>∃ p xs,y=.ref p∧(SqL K H p xs∨SqT K H p xs)∧flatV x=true∧xs.all flatV=true∧Q (.bl (if neg then !inV x xs else inV x xs)) H
theorem op_in_seq:OpR X (compareOp .In) (rIn X.K false):=by
 intro pins s σ H x y v u Q I rx ry h
 obtain ⟨p,xs,rfl,hq,fx,fs,q⟩:=h
 cases ry
 rcases hq with hq|hq
 ·obtain ⟨its,r,pl,hz⟩:=I.list hq
  refine SeqAt.in_listAt (eqU x) pl.isList (fun w hw=>mem_eqAt rx fx r fs w (by simpa using hw)) ⟨.bl _,H,I,rfl,?_⟩
  rw [show its.toArray.any (eqU x)=its.any (eqU x) by simp,any_eqU r fs]
  exact q
 ·obtain ⟨its,r,pl,hz⟩:=I.tuple hq
  refine SeqAt.in_tupleAt (eqU x) pl (fun w hw=>mem_eqAt rx fx r fs w (by simpa using hw)) ⟨.bl _,H,I,rfl,?_⟩
  rw [show its.toArray.any (eqU x)=its.any (eqU x) by simp,any_eqU r fs]
  exact q
theorem call_len_seq:CallR X (.builtin "len") (fun xs H Q=>∃ p ys,xs=[.ref p]∧(SqL X.K H p ys∨SqT X.K H p ys)∧Q (.int ys.length) H):=by
 intro pins s σ H xs us Q I r h
 obtain ⟨p,ys,rfl,hq,q⟩:=h
 obtain ⟨u,rfl,rx⟩:=vals1 r
 cases rx
 have hn:=line63
 rcases hq with hq|hq
 ·obtain ⟨its,r',pl,hz⟩:=I.list hq
  have hlen:=r'.length
  exact Calls.call_len_list pl.isList (by simp only [List.size_toArray]<;>omega) ⟨.int ys.length,H,I.tok _,⟨s.toks+1,by rw [List.size_toArray,hlen]⟩,q⟩
 ·obtain ⟨its,r',pl,hz⟩:=I.tuple hq
  have hlen:=r'.length
  exact len_tuple pl (by simp only [List.size_toArray]<;>omega) ⟨.int ys.length,H,I.tok _,⟨s.toks+1,by rw [List.size_toArray,hlen]⟩,q⟩
theorem call_len_str:CallR X (.builtin "len") (fun xs H Q=>∃ z,xs=[.str z]∧z.length≤sizeLine∧Q (.int z.length) H):=by
 intro pins s σ H xs us Q I r h
 obtain ⟨z,rfl,hz,q⟩:=h
 obtain ⟨u,rfl,t,rfl⟩:=vals1 r
 have hn:=line63
 exact len_str (by omega) ⟨.int z.length,H,I.tok _,⟨_,rfl⟩,q⟩
theorem CallR.or {f:Value}{r r':List V->Hp->VK->Prop}(h:CallR X f r) (h':CallR X f r'):CallR X f (fun xs H Q=>r xs H Q∨r' xs H Q):=by
 intro pins s σ H xs us Q I rs q
 rcases q with q|q
 ·exact h pins s σ H xs us Q I rs q
 ·exact h' pins s σ H xs us Q I rs q
theorem call_list_of:CallR X (.type "list") (fun xs H Q=>∃ p ys,xs=[.ref p]∧(SqL X.K H p ys∨SqT X.K H p ys)∧∀ l,H l=none->Q (.ref l) (upd H l (.lst ys))):=by
 intro pins s σ H xs us Q I r h
 obtain ⟨p,ys,rfl,hq,q⟩:=h
 obtain ⟨u,rfl,rx⟩:=vals1 r
 cases rx
 have fin:∀ (its:List Value),Vals ys its->ys.length≤sizeLine->∀ (h':Heap) (c':Nat),(∀ b o',s.heap.get? b=some o'->h'.get? b=some o') →
   h'.get? s.heap.objs.size=some { cls:=.type "list",dict:=none,data:=.seq its.toArray c',slots:=#[] }->EP X pins σ Q (.ref s.heap.objs.size) { s with heap:=h' }:=fun its r' hz h' c' kp e=>
  ⟨.ref s.heap.objs.size,_,I.laid (t':=s.toks) kp (Nat.le_refl _) (show ObjOk X.prog X.w _ h' _ (.lst ys) from ⟨hz,its,c',r',e⟩),rfl,q _ (I.hok.fresh (Nat.le_refl _))⟩
 rcases hq with hq|hq
 ·obtain ⟨its,r',pl,hz⟩:=I.list hq
  have hlen:=r'.length
  obtain ⟨o,ho,hc,n,hd⟩:=pl.isList
  exact call_list_seq p (.inl rfl) ho hc hd (fun h' c' kp e=>fin its r' hz h' c' kp e) (by simp only [List.size_toArray]<;>omega)
 ·obtain ⟨its,r',pl,hz⟩:=I.tuple hq
  have hlen:=r'.length
  obtain ⟨o,ho,hc,n,hd⟩:=pl
  exact call_list_seq p (.inr rfl) ho hc hd (fun h' c' kp e=>fin its r' hz h' c' kp e) (by simp only [List.size_toArray]<;>omega)
def tyV (K:PySem.W.Frag) (T:String) (x:V) (H:Hp):Prop:=match x with
 | .str _=>T = "str"
 | .int _=>T = "int"
 | .ref p=>(T = "list" ∧ ∃ xs,SqL K H p xs)∨(T = "tuple" ∧ ∃ o,K.lookup p=some o∧o.cls=.type "tuple" ∧ o.dict=none) ∨
   (T = "dict" ∧ ((∃ kvs,H p=some (.dK kvs))∨∃ kvs,H p=some (.dT kvs)))∨(T = "set" ∧ ∃ S n,H p=some (.set S n))
 | _=>False
theorem tyV_is {pins:List (Addr × Obj)}{σ:St}{H:Hp}{s:Shared}{T:String}{x:V}{v:Value}(I:Inv X pins σ H s) (r:RelV x v) (ty:tyV X.K T x H) :
  s.TypeIs v T∧∀ a,v=.ref a->∃ ob,s.heap.get? a=some ob∧ob.dict=none:=by
 cases x with
 | str z=>
  obtain ⟨t,rfl⟩:=r
  cases (show T = "str" from ty)
  exact ⟨typeIs_str s z t,fun _ e=>nomatch e⟩
 | int i=>
  obtain ⟨t,rfl⟩:=r
  cases (show T = "int" from ty)
  exact ⟨typeIs_int s i t,fun _ e=>nomatch e⟩
 | ref p=>
  cases r
  rcases ty with ⟨rfl,xs,hq⟩|⟨rfl,o,hk,hc,hd⟩|⟨rfl,hk⟩|⟨rfl,S,n,hk⟩
  ·obtain ⟨its,_,pl,_⟩:=I.list hq
   refine ⟨pl.isList.typeIs,fun a e=>?_⟩
   cases e
   obtain ⟨o,n,e,c,hd,_⟩:=pl
   exact ⟨o,e,hd⟩
  ·refine ⟨⟨o,I.kIn p o hk,hc⟩,fun a e=>?_⟩
   cases e
   exact ⟨o,I.kIn _ o hk,hd⟩
  ·have z:∃ o,s.heap.get? p=some o∧o.ExactDict:=by
    rcases hk with ⟨kvs,hk⟩|⟨kvs,hk⟩
    ·obtain ⟨_,_,_,_,o,_,_,e,ex,_⟩:=I.hok p _ hk
     exact ⟨o,e,ex⟩
    ·obtain ⟨_,_,_,_,o,_,_,e,ex,_⟩:=I.hok p _ hk
     exact ⟨o,e,ex⟩
   obtain ⟨o,e,ex⟩:=z
   refine ⟨⟨o,e,ex.1⟩,fun a e2=>?_⟩
   cases e2
   exact ⟨o,e,ex.2.1⟩
  ·obtain ⟨o,_,_,_,e,ex,_⟩:=I.hok p _ hk
   refine ⟨⟨o,e,ex.1⟩,fun a e2=>?_⟩
   cases e2
   exact ⟨o,e,ex.2.1⟩
 | _=>exact False.elim ty
def tBM (K:PySem.W.Frag) (T:String) (r:V->List V->Hp->VK->Prop) (to:TE) (t:TA):TE:=fun σ H Q=>to σ H fun x H1=>tyV K T x H1∧t σ H1 fun xs H2=>r x xs H2 Q
variable {o e:Expr}{es:List Expr}{to:TE}{t:TA}{name:Str}{apos cpos:Pos}{T id:String}{r:V->List V->Hp->VK->Prop}
theorem pe_bm (pa:PlainAttrs T) (slot:Slot T name id) (hty:typeOf (.builtin id)=pure (.type "method_descriptor")) (hm:MtR X id r) (ho:PE X o to) (ha:PA X (e::es) t)
  (hbase:attributeBase o name X.env (eval o X.env)=eval o X.env:=by rfl)
  (hfew:((backTo cpos (starEach (e::es) X.env)).all (fun x=>!x.1) && (backToKw cpos (keywordEach [] X.env)).all (fun x=>x.1.isSome)
   && decide ((e::es).length+([]:List Keyword).length+(if ([]:List Keyword).isEmpty then 0 else 1) < 30))=true:=by rfl)
  (hline:(apos.endLine == cpos.line)=true:=by rfl) (hs:starEach (e::es) X.env=(false,eval e X.env)::starEach es X.env:=by rfl) (hplain:(backTo cpos (starEach es X.env)).any (·.1)=false:=by rfl) :
  PE X (.Call (.Attribute o name apos) (e::es) [] cpos) (tBM X.K T r to t):=by
 intro pins s σ H Q I h
 refine wpAny_Call_method_late hbase hfew hline rfl (thn (ho pins s σ H _ I h) fun v s1 ⟨x,H1,I1,r1,ty,q1⟩=>?_)
 obtain ⟨h1,h2⟩:=tyV_is I1 r1 ty
 refine ⟨T,id,pa,slot,hty,h1,h2,?_⟩
 have hA:=ha cpos pins s1 σ H1 _ I1 q1
 rw [hs] at hA ⊢
 refine Calls.callWith_builtin (by show (false || (backTo cpos (starEach es X.env)).any (·.1))=false;rw [hplain]<;>rfl) (Calls.evalArgs_plain ?_)
 exact thn hA fun us s2 ⟨vs,H2,I2,r2,q2⟩=>hm pins s2 σ H2 x vs v us Q I2 r1 r2 q2
/- xs.append(e),list.index on a module's tuple .. are MtR facts of 06m -/
end
end L2
namespace L2
open PySem PySem.Spec PyProof.Rows
def MtM (X:Cx) (id:String) (r:V->List V->Hp->VK->Prop):Prop:=
 ∀ (pins:List (Addr × Obj)) (s:Shared) (σ:St) (H:Hp) (x:V) (xs:List V) (v:Value) (us:List Value) (Q:VK),Inv X pins σ H s->RelV x v->Vals xs us->r x xs H Q →
  wpAny (model X.prog X.w) X.A (call (.builtin id) (v::us)) (EP X pins σ Q) X.xe s
theorem Vals.one:∀ {x:V}{us:List Value},Vals [x] us->∃ u,us=[u]∧RelV x u
 | _,_,.cons r .nil=>⟨_,rfl,r⟩
section
variable {X:Cx}{pins:List (Addr × Obj)}{σ:St}{H:Hp}{s:Shared}{l b:Addr}{xs ys zs:List V}
theorem Inv.lset {its its':List Value}{n:Nat}{f:Array Value->Array Value}{t':Nat}(I:Inv X pins σ H s) (hH:H l=some (.lst xs))
  (e:s.heap.get? l=some { cls:=.type "list",data:=.seq its.toArray n }) (hf:f its.toArray=its'.toArray) (hv:Vals ys its') (hz:ys.length≤sizeLine) :
  Inv X pins σ (upd H l (.lst ys)) { s with heap:=s.heap.update l (Obj.mapSeq f),toks:=t' }:=by
 have q:=PySem.IsL.update e f
 rw [hf] at q
 refine I.write (x:=l) (e:=l) (by rw [hH];exact trivial) (.inl rfl) (fun b' u hb hu=>(Heap.get?_update_other s.heap (Obj.mapSeq f) (Ne.symm hb)).trans hu) ⟨_,q⟩ ?_
 exact ⟨hz,its',_,hv,q⟩
theorem Inv.lnew {its:List Value}{t':Nat}(I:Inv X pins σ H s) (hv:Vals ys its) (hz:ys.length≤sizeLine) :
  Inv X pins σ (upd H s.heap.objs.size (.lst ys)) { s with heap:=s.heap.push { cls:=.type "list",data:=.seq its.toArray },toks:=t' }:=
 I.laid (fun _ _ q=>Heap.get?_push_of_some _ q) (Nat.le_refl _) ⟨hz,its,0,hv,Heap.get?_push_size _ rfl⟩
theorem Inv.fresh (I:Inv X pins σ H s):H s.heap.objs.size=none:=I.hok.fresh (Nat.le_refl _)
theorem Inv.lstM (I:Inv X pins σ H s) (hH:H l=some (.lst xs)):xs.length≤sizeLine∧∃ (its:List Value) (n:Nat),Vals xs its∧xs.length=its.length∧s.heap.get? l=some { cls:=.type "list",data:=.seq its.toArray n }:=by
 obtain ⟨z,its,n,r,e⟩:=I.hok l _ hH
 exact ⟨z,its,n,r,r.length,e⟩
theorem notLongL {n:Nat}(h:n≤sizeLine):Builtin.List.listTooLong n=false:=by
 unfold Builtin.List.listTooLong
 exact decide_eq_false (by omega)
end
section
variable {X:Cx}
def rAppend:V->List V->Hp->VK->Prop:=fun x vs H Q=>∃ l xs y,x=.ref l∧vs=[y]∧H l=some (.lst xs)∧xs.length < sizeLine∧Q .non (upd H l (.lst (xs++[y])))
theorem mt_append:MtM X "list.append" rAppend:=by
 intro pins s σ H x vs v us Q I rx rv h
 obtain ⟨l,xs,y,rfl,rfl,hH,hz,q⟩:=h
 cases rx
 obtain ⟨u,rfl,ru⟩:=rv.one
 obtain ⟨z,its,n,r,hl,e⟩:=I.lstM hH
 refine call_meets F.slot_list_append ⟨_,e,rfl⟩ F.entry_list_append (F.args_list_append_2 _ _) (PySem.list_append l its.toArray n u (by rw [List.size_toArray];omega)) ⟨e,?_⟩
 refine ⟨.non,_,I.lset (its':=its++[u]) hH e (by simp) (r.append (.cons ru .nil)) ?_,rfl,q⟩
 rw [List.length_append,List.length_singleton]
 omega
def rExtend:V->List V->Hp->VK->Prop:=fun x vs H Q=>∃ l b xs zs,x=.ref l∧vs=[.ref b]∧H l=some (.lst xs)∧H b=some (.lst zs)∧xs.length+zs.length≤sizeLine∧Q .non (upd H l (.lst (xs++zs)))
theorem mt_extend:MtM X "list.extend" rExtend:=by
 intro pins s σ H x vs v us Q I rx rv h
 obtain ⟨l,b,xs,zs,rfl,rfl,hH,hB,hz,q⟩:=h
 cases rx
 obtain ⟨u,rfl,ru⟩:=rv.one
 cases ru
 obtain ⟨z,its,n,r,hl,e⟩:=I.lstM hH
 obtain ⟨z2,its2,n2,r2,hl2,e2⟩:=I.lstM hB
 have hsz:its.toArray.size+its2.toArray.size≤sizeLine:=by rw [List.size_toArray,List.size_toArray];omega
 have hlong:¬ (!its.toArray.isEmpty && Builtin.List.listTooLong (its.toArray.size+its2.toArray.size))=true:=by
  rw [notLongL hsz,Bool.and_false]
  exact Bool.false_ne_true
 refine call_meets F.slot_list_extend ⟨_,e,rfl⟩ F.entry_list_extend (F.args_list_extend_2 _ _)
  (AutoSeq1.list_extend_list_list_0 l its.toArray n b its2.toArray n2 hlong (by rw [List.size_toArray];omega) (by omega)) ⟨e,e2,?_⟩
 refine ⟨.non,_,I.lset (its':=its++its2) hH e (by simp) (r.append r2) ?_,rfl,q⟩
 rw [List.length_append]
 omega
def rCat:R2:=fun x y H Q=>∃ l b xs zs,x=.ref l∧y=.ref b∧H l=some (.lst xs)∧H b=some (.lst zs)∧xs.length+zs.length≤sizeLine∧∀ p,H p=none->Q (.ref p) (upd H p (.lst (xs++zs)))
theorem op_cat:OpR X (binaryOp .Add) rCat:=by
 intro pins s σ H x y v u Q I rx ry h
 obtain ⟨l,b,xs,zs,rfl,rfl,hH,hB,hz,q⟩:=h
 cases rx
 cases ry
 obtain ⟨z,its,n,r,hl,e⟩:=I.lstM hH
 obtain ⟨z2,its2,n2,r2,hl2,e2⟩:=I.lstM hB
 refine PySem.P.add_list e e2 ?_ (by rw [List.size_toArray,List.size_toArray];omega)
 have ea:its.toArray++its2.toArray=(its++its2).toArray:=by simp
 rw [ea]
 exact ⟨.ref _,_,I.lnew (t':=s.toks) (r.append r2) (by rw [List.length_append];omega),rfl,q _ I.fresh⟩
end
section
variable {prog:Program}{w:World}{A:Around}{E:Value->Shared->Prop}{s:Shared}
set_option maxRecDepth 100000 in
end
section
variable {X:Cx}
end
end L2
namespace Att
open PySem PySem.W PySem.Calls PyProof.Rows
theorem ints_of_wellAll {P:Params}{h:Heap}:∀ (ns:List Int) (vs:List Value),WellAll P h vs (ns.map WData.int)->IntsAre vs ns:=by
 intro ns
 induction ns with
 | nil=>
  intro vs w
  rw [List.map_nil] at w
  cases w
  exact .nil
 | cons n ns ih=>
  intro vs w
  rw [List.map_cons] at w
  cases w with
  | cons a b=>
   cases a
   exact .cons _ _ (ih _ b)
theorem script_of {l:OpenLaw}{n:Nat}(hn:l.most=some n){P:Params}{h:Heap}{args:List WData}{vals:List Value}
  (hpre:l.row.toRowW.claim.pre args=true) (hwl:WellAll P h vals args) :
  ∃ a vs ns,vals=[Value.ref a]∧args=[WData.list (ns.map WData.int)]∧h.get? a=some { cls:=.type "list",data:=.seq vs.toArray }∧IntsAre vs ns∧ns.length≤n:=by
 have hsh:WShape.hasAll [] args [.list .int]=true:=(pre_splitW hpre).1
 have hc:l.pre.holds [] { args:=args }=true:=(pre_splitW hpre).2
 obtain ⟨d,r,rfl,h1,h2⟩:=hasAllW_cons hsh
 obtain rfl:=hasAllW_nil h2
 obtain ⟨xs,rfl,h3⟩:=hasW_list h1
 obtain ⟨ns,rfl⟩:=items_int h3
 have hlen:ns.length≤n:=by
  unfold OpenLaw.pre at hc
  have h4:(WTm.not (.lt (.lit (.int (n:Int))) (.len (.arg 0)))).holds [] { args:=[.list (ns.map .int)] }=true:=by
   have h4:=(holds_andW hc).1
   rw [hn] at h4
   exact h4
  have h5:=condW_of h4 (w_not (w_lt w_lit (w_len_list (w_arg rfl))))
  rw [List.length_map] at h5
  refine Nat.le_of_not_lt fun q=>?_
  have q':(n:Int) < ((ns.length:Nat):Int):=by omega
  first
   | (rw [decide_eq_true q'] at h5;exact absurd h5 (by decide))
   | (simp at h5;omega)
 cases hwl with
 | cons w1 w2=>
  cases w2
  cases w1 with
  | list ho hall=>exact ⟨_,_,ns,rfl,rfl,ho,ints_of_wellAll ns _ hall,hlen⟩
theorem post_true (l:OpenLaw) (args:List WData):l.row.toRowW.claim.post args (.bool true) args=true:=
 postW_of (r:=l.row.toRowW) (X:=(true == true))
  (show WShape.has [] (.bool true) .bool=true by first|rfl|decide|simp [WShape.has,WShape.arms,WShape.armsAll])
  (show (WTm.eq .res (.lit (.bool true))).value [] { args:=args,res:=some (.bool true),after:=args }=some (.bool (true == true)) from w_eq_bool (w_res rfl) w_lit) rfl
theorem attach_call {l:OpenLaw}{n:Nat}{q:Program}{loose:List Str}{XP:(Str->Option Value)->Heap->Prop}{YP:World->Heap->Prop}{d:DefRec}
  (hn:l.most=some n) (hdf:d.params.defaults=[])
  (call:∀ (w:World) (s₀ s₁:Shared) (mg mb:Str->Option Value) (fa:Addr) (o:Obj) (pm cd doc:Value) (a:Addr) (vs:List Value) (ns:List Int),
   Ground q loose [] XP w s₀ mg mb s₁.heap->YP w s₁.heap →
   s₁.heap.get? fa=some o->o.data=.func (docDef d.name d.params d.body d.scope pm cd doc)->s₁.heap.CodeRec cd d.name->mg d.name=some (.ref fa) →
   s₁.heap.get? a=some { cls:=.type "list",data:=.seq vs.toArray }->IntsAre vs ns->ns.length≤n->s₁.gens=#[] →
   codeAny (model l.prog w) callerA (.call (.ref fa) ⟨[.ref a],[]⟩) (fun r s'=>r=.ok (.ret (.bool true))∧OldK s₁.heap s'.heap∧s'.os=s₁.os∧AllBare s'.gens) s₁) :
  WalkO q loose XP YP l.row.toRowW d [] (fun f vs=>PySem.call f vs):=by
 intro w s₀ s₁ mg mb G Y fa o pm cd doc dV kV ho hd hcd hD hmg hg args vals as hpre hlay hrd hwl hlo
 obtain rfl:dV=.none:=Dflts.none hD hdf
 obtain rfl:kV=.none:=Dflts.noKw hD
 obtain ⟨a,vs,ns,rfl,rfl,hobj,hints,hlen⟩:=script_of hn hpre hwl
 refine enter_call (codeAny_mono (call w s₀ s₁ mg mb fa o pm cd doc a vs ns G Y ho (fd_plain hd) hcd hmg hobj hints hlen hg) fun r s' hq=>?_)
 obtain ⟨rfl,h2,h3,h4⟩:=hq
 exact ⟨.inl ⟨.bool true,.bool true,[],rfl,fun _=>rfl,.bool true,post_true l _,fun _=>⟨List.Pairwise.nil,fun _ hm=>(nomatch hm)⟩⟩,h2,h3,h4⟩
section
variable {prog:Program}{w:World}{A:Around}{E:Value->Shared->Prop}{s:Shared}{K:Frag}
def ledger (h:Heap) (L d:Addr):List (Addr × Obj):=(List.range h.objs.size).filterMap fun a=>if a=L∨a=d then none else (h.get? a).map fun o=>(a,o)
end
end Att
namespace L2
open PySem PySem.Spec PyProof.Rows
theorem vals_ints:∀ {vs:List Value}{ns:List Int},IntsAre vs ns->Vals (ns.map V.int) vs
 | _,_,.nil=>.nil
 | _,_,.cons n t h=>.cons ⟨t,rfl⟩ (vals_ints h)
def Only (H:Hp):Prop:=∀ b,H b=none∨∃ o xs,H b=some (.frz o (.lst xs))
theorem law_call {P:Program}{w:World}{K:PySem.W.Frag}{mg mb:Str->Option Value}{CX:CXT}{k:Nat}{fa a:Addr}{fd:FuncData}{x:Str}{sp:Sp}{s₁:Shared}{vs:List Value}{ns:List Int}
  (KX:K.In s₁.heap) (hns:s₁.heap.Ns mainGlobals mg) (hb:s₁.heap.Ns builtinsNs mb) (hbb:∀ x:Str,x ≠ "__name__" → mb x=bootBuiltins x) (hlim:s₁.heap.NoLimit) (hg:s₁.gens=#[])
  (ha:s₁.heap.get? a=some { cls:=.type "list",data:=.seq vs.toArray }) (hi:IntsAre vs ns) (hl:ns.length≤sizeLine) (hr:Room k callerA)
  (F:∀ base:Heap,K.In base->base.Ns mainGlobals mg->FnOk P w K mg base CX k fa fd [x] sp) (hbind:∀ (s:Shared) (u:Value),BindsTo s fd ⟨[u],[]⟩ [(x,u)])
  (hsp:∀ H:Hp,Only H->SqL K H a (ns.map V.int)->sp [.ref a] H (fun v _=>v=.bl true) fun _ _ _=>False)
  (hCX:∀ H e s',CX [] H s₁ (fun _ _ _=>False) e s'->False) :
  codeAny (model P w) callerA (.call (.ref fa) ⟨[.ref a],[]⟩) (fun r s'=>r=.ok (.ret (.bool true))∧OldK s₁.heap s'.heap∧s'.os=s₁.os∧AllBare s'.gens) s₁:=by
 have rv:=vals_ints hi
 have lenV:=hi.length
 have core:∀ H:Hp,Only H->SqL K H a (ns.map V.int)->HOk P w H s₁.heap->(∀ b,H b ≠ none->b=a)->(H a ≠ none->K.lookup a=none) →
   codeAny (model P w) callerA (.call (.ref fa) ⟨[.ref a],[]⟩) (fun r s'=>r=.ok (.ret (.bool true))∧OldK s₁.heap s'.heap∧s'.os=s₁.os∧AllBare s'.gens) s₁:=by
  intro H hO hS hok hA hK
  have base_of:∀ {b:Addr} {o:Obj},s₁.heap.get? b=some o->H b=none->(hidT s₁.heap H).get? b=some o:=fun e n=>hidT_get e n
  have noA:∀ {b:Addr} {o:Obj} {es:Array DictEntry} {ep:Nat},s₁.heap.get? b=some o->o.data=.dict es ep->H b=none:=fun {b o es ep} e d=>by
   cases q:H b with
   | none=>rfl
   | some u=>
    have e':b=a:=hA b (by rw [q];simp)
    subst e'
    rw [ha] at e;cases e
    have d':Data.seq vs.toArray _=Data.dict es ep:=d
    cases d'
  have nsK:∀ {b:Addr} {m:Str->Option Value},s₁.heap.Ns b m->(hidT s₁.heap H).Ns b m:=fun {b m} ⟨o,es,ep,e,d,r⟩=>⟨o,es,ep,base_of e (noA e d),d,r⟩
  have hKb:K.In (hidT s₁.heap H):=fun b o e=>base_of (KX b o e) (by
   cases q:H b with
   | none=>rfl
   | some u=>
    have e':b=a:=hA b (by rw [q];simp)
    subst e'
    rw [hK (by rw [q];simp)] at e;cases e)
  have hM:Mod K mg (hidT s₁.heap H):=⟨hKb,nsK hns,⟨mb,nsK hb,hbb⟩,let ⟨mc,h1,h2⟩:=hlim;⟨mc,nsK h1,h2⟩⟩
  have e0:Env0 P w K mg (hidT s₁.heap H) callerA [] s₁ H:=⟨rfl,hM,fun b o e=>of_hidT e,Nat.le_of_eq (hidT_size _ _),trivial,fun b hb=>absurd (show b∈([]:List Addr) from hb) (by simp),hok,.of_eq hg⟩
  refine codeAny_mono ((F _ hKb (nsK hns)).run callerA [] s₁ H ⟨[.ref a],[]⟩ [.ref a] [.ref a] _ _ hr e0 (hbind s₁ (.ref a)) (.cons rfl .nil) (hsp H hO hS)) fun r s' h=>?_
  cases r with
  | error e=>exact (hCX H e s' h).elim
  | ok fl=>
   cases fl with
   | next=>exact False.elim h
   | brk=>exact False.elim h
   | cont=>exact False.elim h
   | ret u=>
    obtain ⟨v,H',os,bare,un,hok',r',q⟩:=h
    have q':v=.bl true:=q
    subst q'
    obtain rfl:u=Value.bool true:=r'
    refine ⟨rfl,OldK.of_keep fun b o e=>?_,os,bare⟩
    cases q:H b with
    | none=>exact un.keep b o e q (by intro z;exact absurd (show b∈([]:List Addr) from z) (by simp)) (by simp)
    | some u=>
     rcases hO b with z|⟨ob,xs,z⟩
     ·rw [q] at z;cases z
     ·have z2:=un.frzs b ob _ z
      obtain ⟨e1,_⟩:=hok b _ z
      obtain ⟨e2,_⟩:=hok' b _ z2
      rw [e] at e1;cases e1
      exact e2
 cases hk:K.lookup a with
 | some o=>
  have e:=KX a o hk
  rw [ha] at e
  cases e
  refine core (fun _=>none) (fun _=>.inl rfl) (.inr ⟨_,vs.toArray,_,hk,rfl,rfl,rfl,by rw [List.size_toArray,lenV];exact hl,by simpa using rv⟩) (fun b u z=>by have z':(none:Option HO)=some u:=z;cases z') (fun b z=>absurd rfl z) fun z=>absurd rfl z
 | none=>
  refine core (fun b=>if b=a then some (.frz { cls:=.type "list",data:=.seq vs.toArray } (.lst (ns.map V.int))) else none) (fun b=>?_) (.inl (.inr ⟨{ cls:=.type "list",data:=.seq vs.toArray },if_pos rfl⟩)) (fun b u z=>?_) (fun b z=>?_) fun _=>hk
  ·by_cases hb:b=a
   ·exact .inr ⟨_,_,if_pos hb⟩
   ·exact .inl (if_neg hb)
  ·by_cases hb:b=a
   ·have z':=(if_pos hb).symm.trans z
    cases z'
    subst hb
    exact ⟨ha,by rw [List.length_map];exact hl,vs,_,rv,ha⟩
   ·have z':=(if_neg hb).symm.trans z
    cases z'
  ·by_cases hb:b=a
   ·exact hb
   ·exact absurd (if_neg hb) z
end L2
namespace L2
open PySem PySem.Spec PyProof.Rows
abbrev KOf {K:PySem.W.Frag} {h:Heap} (_:K.In h):PySem.W.Frag:=K
theorem walk_of {l:PySem.W.OpenLaw}{n k:Nat}{q:Program}{loose:List Str}{XP:(Str->Option Value)->Heap->Prop}{YP:World->Heap->Prop}{d:DefRec}{K:Params->PySem.W.Frag}{CX:World->CXT}{sp:World->Sp}{x:Str}
  (hn:l.most=some n) (hn2:n≤sizeLine) (hdf:d.params.defaults=[]) (hr:Room k callerA)
  (hY:∀ (w:World) (h:Heap),YP w h->(K w.params).In h)
  (F:∀ (w:World) (mg:Str->Option Value) (fa:Addr) (h:Heap),(K w.params).In h->h.Ns mainGlobals mg->mg d.name=some (.ref fa) →
   ∃ fd:FuncData,(∀ (s:Shared) (u:Value),BindsTo s fd ⟨[u],[]⟩ [(x,u)]) ∧
    ∀ base:Heap,(K w.params).In base->base.Ns mainGlobals mg->FnOk l.prog w (K w.params) mg base (CX w) k fa fd [x] (sp w))
  (hsp:∀ (w:World) (H:Hp) (a:Addr) (ns:List Int),ns.length≤n->Only H->SqL (K w.params) H a (ns.map V.int)->sp w [.ref a] H (fun v _=>v=.bl true) fun _ _ _=>False)
  (hCX:∀ (w:World) (H:Hp) (s:Shared) (e:Value) (s':Shared),CX w [] H s (fun _ _ _=>False) e s'->False) :
  PySem.W.WalkO q loose XP YP l.row.toRowW d [] (fun f vs=>PySem.call f vs):=by
 refine Att.attach_call hn hdf fun w s₀ s₁ mg mb fa o pm cd doc a vs ns G Y ho hd hcd hmg hobj hints hlen hg=>?_
 have KX:=hY w _ Y
 obtain ⟨fd,hb,hF⟩:=F w mg fa _ KX G.T.g hmg
 exact law_call KX G.T.g G.T.b G.T.builtins G.T.nolimit hg hobj hints (Nat.le_trans hlen hn2) hr hF hb (fun H hO hS=>hsp w H a ns hlen hO hS) fun H e s'=>hCX w H s₁ e s'
end L2
/- THE LAST THEOREM (shape;LID,My.* are yours):
   My.Adr: a structure of the addresses that your layer names (classes,functions);My.Txt K t: a structure (Prop) of the equations over K;
   My.txt_mk:{K} {implicit addresses ..} (e1:nsIn K mainGlobals "law"=some (some (.ref f))) (e2:K.lookup f=some ⟨oc,od,.func (fnOf "law" "law" params body scope dV kV doc pm an cdv ct),sl⟩) (e3:codeIn K cdv "law"=true) ..:∃ t,My.Txt K t
set_option maxRecDepth 100000 in
set_option maxHeartbeats 0 in
theorem PySem.Challenge.cw_LID_holds : PySem.Challenge.rw_LID.Holds := by
 w_on;o_law;k_head;(case hw=>w_witness2)
 k_fill
 refine L2.walk_of (l:=PySem.Challenge.rw_LID) (n:=63) (k:=40) (x := "script") (CX:=fun w=>..) (sp:=fun _=>My.sp_law) rfl (by decide) rfl ⟨rfl,by decide,by decide⟩ (fun w h Y=>PySem.W.kIn_of Y) ?F ?S ?C
 case F=>
  intro w mg fa h KX G hmg
  have T:∃ t,My.Txt (L2.KOf KX) t:=by
   dsimp only [L2.KOf]                          -- K must stand as «<heap const> w.params» for k_is
   refine' My.txt_mk ?e1 ?e2 ?e3 ..
   (case e1=>PySem.W.k_is)                    -- in the order: a name -> its address -> its object -> its parts
   (case e2=>PySem.W.k_is)
   ..
  obtain ⟨t,T⟩:=T
  have e0:=hmg.symm.trans (PySem.W.mg_of KX G T.law)
  cases e0                                       -- fa is the law's own address
  exact ⟨_,fun s u=>.of_eq rfl,fun base kb nb=>My.law_fn T kb nb⟩     -- if «.of_eq rfl» comes too early: refine' ⟨_,?b,fun base kb nb=>My.law_fn T kb nb⟩;exact fun s u=>.of_eq rfl
 case S=>exact fun w H a ns hl hO hS=>..
 case C=>exact ..
(the tactic k_is has no namespace: write k_is) -/
namespace L2
open PySem PySem.Spec PyProof.Rows
def inClass (s:Stmt) (j:Nat):Stmt:=match s with
 | .ClassDef _ _ _ body _ _ _ _ _ _ _=>body.getD j (.Pass ⟨0,0,0,0⟩)
 | _=>.Pass ⟨0,0,0,0⟩
def defArgs (s:Stmt):Arguments:=match s with
 | .FunctionDef _ a _ _ _ _ _ _ _ _=>a
 | _=>{ posonlyargs:=[],args:=[],vararg:=none,kwonlyargs:=[],kw_defaults:=[],kwarg:=none,defaults:=[] }
def defBody (s:Stmt):List Stmt:=match s with
 | .FunctionDef _ _ b _ _ _ _ _ _ _=>b
 | _=>[]
def defScope (s:Stmt):Scope:=match s with
 | .FunctionDef _ _ _ _ _ _ sc _ _ _=>sc
 | _=>{ kind:=.function,names:=[],isGenerator:=false,isCoroutine:=false }
abbrev CX0:CXT:=fun _ _ _ _ _ _=>False
abbrev E0:XK:=fun _ _ _=>False
theorem pass0 {X:Cx}:Passes CX0 X E0:=fun _ _ _ _ _ _ _ h=>h.elim
structure Fun (K:PySem.W.Frag) (x qual:Str) (st:Stmt) (f:Addr) (fd:FuncData):Prop where
 ex:∃ (oc:Value) (od:Option Addr) (kV doc pm:Value) (an:Option Addr) (cdv ct:Value) (osl:Array (Option Value)),
  fd=PySem.W.fnOf x qual (defArgs st) (defBody st) (defScope st) .none kV doc pm an cdv ct∧K.lookup f=some ⟨oc,od,.func fd,osl⟩∧PySem.W.codeIn K cdv qual=true
 kp:PySem.W.keepIn K (.ref f)=true
section
variable {P:Program}{w:World}{K:PySem.W.Frag}{mg:Str->Option Value}{base:Heap}
theorem Fun.ok {x qual:Str}{st:Stmt}{f:Addr}{fd:FuncData}{N ps:List Str}{k:Nat}{sp:Sp}(F:Fun K x qual st f fd) (S:FnScope N ps (defScope st)) (len:∀ vs H Q E,sp vs H Q E->vs.length=ps.length)
  (hbody:∀ (cdv:Value) (A:Around) (outer:List Env) (s:Shared) (H:Hp) (vs:List V) (Q:VK) (E:XK),Room k (A.deeper (envOfC qual (defScope st) s.heap.objs.size f cdv))->sp vs H Q E →
   ∃ t,PSs (cxOf CX0 P w K mg base N qual (defScope st) f cdv A outer s H E).nox (defBody st) t∧t { nx:=fun _ H'=>Q .non H',rt:=Q } (start N vs) H):FnOk P w K mg base CX0 (k+1) f fd ps sp:=by
 obtain ⟨oc,od,kV,doc,pm,an,cdv,ct,osl,rfl,lk,hcd⟩:=F.ex
 refine fn_of lk hcd S len fun A outer s H vs Q E hr hsp=>?_
 obtain ⟨t,h,q⟩:=hbody cdv A outer s H vs Q E hr hsp
 exact ⟨t,h.nox,q⟩
theorem Fun.binds {x qual:Str}{st:Stmt}{f:Addr}{fd:FuncData}{ps:List Str}(F:Fun K x qual st f fd)
  (h:∀ (kV doc pm:Value) (an:Option Addr) (cdv ct:Value) (us:List Value),us.length=ps.length->bindArgs (PySem.W.fnOf x qual (defArgs st) (defBody st) (defScope st) .none kV doc pm an cdv ct) ⟨us,[]⟩=pure (ps.zip us)):Binds K fd ps []:=by
 obtain ⟨oc,od,kV,doc,pm,an,cdv,ct,osl,rfl,lk,hcd⟩:=F.ex
 exact .all (h kV doc pm an cdv ct)
theorem fun_mk {x qual:Str}{st:Stmt}{f:Addr}{oc:Value}{od an:Option Addr}{osl:Array (Option Value)}{kV doc pm cdv ct:Value}(l:K.lookup f=some ⟨oc,od,.func (PySem.W.fnOf x qual (defArgs st) (defBody st) (defScope st) .none kV doc pm an cdv ct),osl⟩)
  (c:PySem.W.codeIn K cdv qual=true) (k:PySem.W.keepIn K (.ref f)=true):Fun K x qual st f (PySem.W.fnOf x qual (defArgs st) (defBody st) (defScope st) .none kV doc pm an cdv ct):=⟨⟨oc,od,kV,doc,pm,an,cdv,ct,osl,rfl,l,c⟩,k⟩
end
theorem small1000 {n:Nat}(h:n≤1000):n < sizeLine:=Nat.lt_of_le_of_lt h (by decide)
section
variable {X:Cx}
theorem pv (i:Nat){x:Str}{pos:Pos}(hN:X.N[i]? = some x:=by rfl) (hv:Vis X.env.scope x:=by first|exact Or.inl rfl|exact Or.inr (Or.inl rfl)|exact Or.inr (Or.inr rfl)) (hd:(x == ("__debug__":Str))=false:=by decide)
  (hcd:(x == ("__classdict__":Str))=false:=by decide):PE X (.Name x pos) (tVar i):=pe_var hN hv hd hcd
end
theorem ite2 {c A B:Prop} [Decidable c] (h1:c->A) (h2:¬ c->B):if c then A else B:=by
 by_cases h:c
 ·rw [if_pos h]
  exact h1 h
 ·rw [if_neg h]
  exact h2 h
def Same (H H':Hp):Prop:=∀ b o,H b=some o->H' b=some o
theorem Same.refl (H:Hp):Same H H:=fun _ _ h=>h
theorem Same.trans {H H1 H2:Hp}(a:Same H H1) (b:Same H1 H2):Same H H2:=fun c o h=>b c o (a c o h)
theorem Same.free {H H':Hp}(e:Same H H'){l:Addr}(h:H' l=Option.none):H l=Option.none:=by
 cases q:H l with
 | none=>rfl
 | some o=>
  rw [e l o q] at h
  cases h
theorem Same.seq {K:PySem.W.Frag}{H H':Hp}{a:Addr}{xs:List V}(e:Same H H') (h:SqL K H a xs):SqL K H' a xs:=by
 rcases h with (h|⟨o,h⟩)|h
 ·exact .inl (.inl (e _ _ h))
 ·exact .inl (.inr ⟨o,e _ _ h⟩)
 ·exact .inr h
end L2
set_option Elab.async false
set_option linter.all false
set_option maxRecDepth 100000
set_option maxHeartbeats 4000000
set_option Elab.async false
set_option linter.all false
set_option maxRecDepth 100000
namespace L2
open PySem PySem.Spec PyProof.Rows
section
variable {κ:Type} [DecidableEq κ]
def valV (kvs:List (κ × V)) (k:κ):Option V:=(kvs.find? fun kv=>decide (kv.1=k)).map (·.2)
def putK (kvs:List (κ × V)) (k:κ) (v:V):List (κ × V):=
 if (kvs.any fun kv=>decide (kv.1=k))=true then kvs.map (fun kv=>if kv.1=k then (kv.1,v) else kv) else kvs++[(k,v)]
theorem valV_pos {p:κ × V}{r:List (κ × V)}{k:κ}(e:p.1=k):valV (p::r) k=some p.2:=by simp [valV,List.find?_cons,e]
theorem valV_neg {p:κ × V}{r:List (κ × V)}{k:κ}(e:¬ p.1=k):valV (p::r) k=valV r k:=by simp [valV,List.find?_cons,e]
theorem valV_any (k:κ):∀ kvs:List (κ × V),(kvs.any fun kv=>decide (kv.1=k))=(valV kvs k).isSome
 | []=>rfl
 | p::r=>by
  rw [List.any_cons]
  by_cases e:p.1=k
  ·simp only [valV_pos e,decide_eq_true e,Bool.true_or,Option.isSome_some]
  ·rw [valV_neg e,decide_eq_false e,Bool.false_or];exact valV_any k r
theorem length_putK (kvs:List (κ × V)) (k:κ) (v:V):(putK kvs k v).length≤kvs.length+1:=by
 unfold putK
 split
 ·rw [List.length_map];omega
 ·rw [List.length_append,List.length_cons,List.length_nil];omega
theorem RelO.isSome_eq {o:Option V}{u:Option Value}(r:RelO o u):o.isSome=u.isSome:=by
 cases o with
 | none=>cases u with
  | none=>rfl
  | some _=>exact (show False from r).elim
 | some _=>cases u with
  | none=>exact (show False from r).elim
  | some _=>rfl
theorem KV.val {kvs:List (κ × V)}{vs:List (κ × Value)}(r:KV kvs vs) (k:κ):RelO (valV kvs k) (valueAt vs k):=by
 unfold KV at r
 induction r with
 | nil=>exact True.intro
 | @cons p q ps qs h t ih=>
  obtain ⟨h1,h2⟩:=h
  by_cases e:p.1=k
  ·have e':q.1=k:=h1.symm.trans e
   have b:valueAt (q::qs) k=some q.2:=by simp [valueAt,List.find?_cons,e']
   rw [valV_pos e,b];exact h2
  ·have e':¬ q.1=k:=fun z=>e (h1.trans z)
   have b:valueAt (q::qs) k=valueAt qs k:=by simp [valueAt,List.find?_cons,e']
   rw [valV_neg e,b];exact ih
theorem KV.any {kvs:List (κ × V)}{vs:List (κ × Value)}(r:KV kvs vs) (k:κ):(kvs.any fun kv=>decide (kv.1=k))=vs.any fun kv=>decide (kv.1=k):=by
 unfold KV at r
 induction r with
 | nil=>rfl
 | cons h t ih=>rw [List.any_cons,List.any_cons,ih,h.1]
theorem KV.repl {kvs:List (κ × V)}{vs:List (κ × Value)}(r:KV kvs vs) (k:κ){y:V}{u:Value}(ry:RelV y u) :
  KV (kvs.map fun kv=>if kv.1=k then (kv.1,y) else kv) (vs.map fun kv=>if kv.1=k then (kv.1,u) else kv):=by
 unfold KV at r ⊢
 induction r with
 | nil=>exact .nil
 | @cons p q ps qs h t ih=>
  rw [List.map_cons,List.map_cons]
  refine .cons ?_ ih
  obtain ⟨h1,h2⟩:=h
  by_cases e:p.1=k
  ·rw [if_pos e,if_pos (h1.symm.trans e)];exact ⟨h1,ry⟩
  ·rw [if_neg e,if_neg (fun z=>e (h1.trans z))];exact ⟨h1,h2⟩
theorem KV.put {kvs:List (κ × V)}{vs:List (κ × Value)}(r:KV kvs vs) (k:κ){y:V}{u:Value}(ry:RelV y u):KV (putK kvs k y) (stored vs k u):=by
 unfold putK stored
 rw [r.any k]
 by_cases e:(vs.any fun kv=>decide (kv.1=k))=true
 ·rw [if_pos e,if_pos e];exact r.repl k ry
 ·rw [if_neg e,if_neg e];exact Paired.snoc r ⟨rfl,ry⟩
theorem KV.length {kvs:List (κ × V)}{vs:List (κ × Value)}(r:KV kvs vs):kvs.length=vs.length:=Paired.length r
end
theorem kV_is {P:Program}{w:World}{k:Key}{u:Value}(r:RelV (kV k) u):(mixKind P w).is k u=true:=by
 cases k with
 | inl i=>obtain ⟨t,e⟩:=(show ∃ t,u=Value.int i t from r);subst e;exact mixKind_int P w i t
 | inr x=>obtain ⟨t,e⟩:=(show ∃ t,u=Value.str x t from r);subst e;exact mixKind_str P w x t
theorem items_are {P:Program}{w:World}:∀ {ks:List Key}{us:List Value},Vals (ks.map kV) us->ItemsAre (mixKind P w) ks us
 | [],_,r=>by rw [List.map_nil] at r;cases r;exact .nil
 | k::ks,_,r=>by
  rw [List.map_cons] at r
  cases r with
  | cons h t=>exact .cons (kV_is h) (items_are t)
abbrev KT (H:Hp):List (List Key × V)->List (List Key × Addr × Value)->Prop:=Paired fun p q=>p.1=q.1∧H q.2.1=some (.tup (p.1.map kV))∧RelV p.2 q.2.2
theorem KT.val {H:Hp}{kvs:List (List Key × V)}{xs:List (List Key × Addr × Value)}(r:KT H kvs xs) (k:List Key):RelO (valV kvs k) ((atKey xs k).map (·.2)):=by
 induction r with
 | nil=>exact True.intro
 | @cons p q ps qs h t ih=>
  obtain ⟨h1,_,h2⟩:=h
  by_cases e:p.1=k
  ·have e':q.1=k:=h1.symm.trans e
   have b:atKey (q::qs) k=some q.2:=by simp [atKey,List.find?_cons,e']
   rw [valV_pos e,b];exact h2
  ·have e':¬ q.1=k:=fun z=>e (h1.trans z)
   have b:atKey (q::qs) k=atKey qs k:=by simp [atKey,List.find?_cons,e']
   rw [valV_neg e,b];exact ih
theorem KT.repl {H:Hp}{kvs:List (List Key × V)}{xs:List (List Key × Addr × Value)}(r:KT H kvs xs) (k:List Key){y:V}{u:Value}(ry:RelV y u) :
  KT H (kvs.map fun kv=>if kv.1=k then (kv.1,y) else kv) (xs.map (putAt k u)):=by
 induction r with
 | nil=>exact .nil
 | @cons p q ps qs h t ih=>
  rw [List.map_cons,List.map_cons]
  refine .cons ?_ ih
  obtain ⟨h1,h2,h3⟩:=h
  unfold putAt
  by_cases e:p.1=k
  ·rw [if_pos e,if_pos (h1.symm.trans e)];exact ⟨h1,h2,ry⟩
  ·rw [if_neg e,if_neg (fun z=>e (h1.trans z))];exact ⟨h1,h2,h3⟩
theorem KT.put {H:Hp}{kvs:List (List Key × V)}{xs:List (List Key × Addr × Value)}(r:KT H kvs xs) (k:List Key){b:Addr}{y:V}{u:Value}(hb:H b=some (.tup (k.map kV))) (ry:RelV y u) :
  KT H (putK kvs k y) (storedH xs k b u):=by
 have e:(kvs.any fun kv=>decide (kv.1=k))=(atKey xs k).isSome:=by
  rw [valV_any,(r.val k).isSome_eq,Option.isSome_map]
 unfold putK storedH
 rw [e]
 by_cases q:(atKey xs k).isSome=true
 ·rw [if_pos q,if_pos q];exact r.repl k ry
 ·rw [if_neg q,if_neg q];exact Paired.snoc r ⟨rfl,hb,ry⟩
theorem KT.keeps {H H':Hp}{kvs:List (List Key × V)}{xs:List (List Key × Addr × Value)}(r:KT H kvs xs) (ht:∀ b ys,H b=some (.tup ys)->H' b=some (.tup ys)):KT H' kvs xs:=
 Paired.mapP r fun _ _ z=>⟨z.1,ht _ _ z.2.1,z.2.2⟩
section
variable {P:Program}{w:World}{H:Hp}{h:Heap}{a:Addr}
theorem rd_of {u:HO}(ok:HOk P w H h) (e:Rd H a u):ObjOk P w H h a u:=e.ok ok
theorem dk_rd {kvs:List (Key × V)}(ok:HOk P w H h) (e:Rd H a (.dK kvs)):kvs.length≤sizeLine∧(a == sysModules)=false∧∃ vs,KV kvs vs∧h.DictOf (mixKind P w) a vs:=
 show ObjOk P w H h a (.dK kvs) from rd_of ok e
theorem dk_of {kvs:List (Key × V)}(ok:HOk P w H h) (e:H a=some (.dK kvs)):kvs.length≤sizeLine∧(a == sysModules)=false∧∃ vs,KV kvs vs∧h.DictOf (mixKind P w) a vs:=dk_rd ok (.inl e)
theorem key_of {ks:List Key}(ok:HOk P w H h) (e:H a=some (.tup (ks.map kV))):(tupleKind (mixKind P w)).is h ks a:=by
 obtain ⟨_,its,r,o,h1,h2,n,h3⟩:=(show ObjOk P w H h a (.tup (ks.map kV)) from ok a _ e)
 exact ⟨o,its.toArray,n,h1,h2,h3,by simpa using items_are r⟩
theorem dt_rd {kvs:List (List Key × V)}(ok:HOk P w H h) (e:Rd H a (.dT kvs)):kvs.length≤sizeLine∧(a == sysModules)=false ∧
  ∃ xs,KT H kvs xs∧h.DictOfH (tupleKind (mixKind P w)) a xs:=by
 obtain ⟨z,y,xs,r,o,es,ep,h1,h2,h3,h4,h5⟩:=(show ObjOk P w H h a (.dT kvs) from rd_of ok e)
 refine ⟨z,y,xs,r,o,es,ep,h1,h2,h3,h4,fun x hx=>?_,h5⟩
 have all:∀ {l:List (List Key × V)} {m:List (List Key × Addr × Value)},KT H l m->∀ x∈m,(tupleKind (mixKind P w)).is h x.1 x.2.1:=by
  intro l m q
  induction q with
  | nil=>intro x hx;exact nomatch hx
  | @cons p q ps qs hq t ih=>
   intro x hx
   rcases List.mem_cons.mp hx with e|hx
   ·subst e
    exact key_of ok (by rw [←hq.1];exact hq.2.1)
   ·exact ih x hx
 exact all r x hx
theorem dt_of {kvs:List (List Key × V)}(ok:HOk P w H h) (e:H a=some (.dT kvs)):kvs.length≤sizeLine∧(a == sysModules)=false ∧
  ∃ xs,KT H kvs xs∧h.DictOfH (tupleKind (mixKind P w)) a xs:=dt_rd ok (.inl e)
end
def DGet (H:Hp) (a:Addr) (y:V) (r:Option V):Prop:=
 (∃ kvs k,Rd H a (.dK kvs)∧y=kV k∧r=valV kvs k)∨∃ kvs k b,Rd H a (.dT kvs)∧y=.ref b∧H b=some (.tup (k.map kV))∧r=valV kvs k
def DPut (H:Hp) (a:Addr) (y v:V) (H':Hp):Prop:=
 (∃ kvs k,H a=some (.dK kvs)∧y=kV k∧kvs.length < sizeLine∧H'=upd H a (.dK (putK kvs k v))) ∨
 ∃ kvs k b,H a=some (.dT kvs)∧y=.ref b∧H b=some (.tup (k.map kV))∧kvs.length < sizeLine∧H'=upd H a (.dT (putK kvs k v))
theorem DGet.k {H:Hp}{a:Addr}{kvs:List (Key × V)}{k:Key}(e:H a=some (.dK kvs)):DGet H a (kV k) (valV kvs k):=.inl ⟨kvs,k,.inl e,rfl,rfl⟩
theorem DPut.k {H:Hp}{a:Addr}{kvs:List (Key × V)}{k:Key}{v:V}(e:H a=some (.dK kvs)) (hl:kvs.length < sizeLine):DPut H a (kV k) v (upd H a (.dK (putK kvs k v))):=.inl ⟨kvs,k,e,rfl,hl,rfl⟩
section
variable {X:Cx}{pins:List (Addr × Obj)}{σ:St}{H:Hp}{s:Shared}{a:Addr}{y v:V}{u r:Value}{o:Option V}{A:Around}{E:Value->Shared->Prop}
theorem Inv.big (I:Inv X pins σ H s):sysModules < s.heap.objs.size:=by
 have h:mainGlobals < s.heap.objs.size:=(I.mod.glob.keeps I.bk).lt
 exact Nat.lt_trans (by decide) h
theorem d_in {Q:Value->Shared->Prop}(hu:A.units+1 < cLine) (I:Inv X pins σ H s) (g:DGet H a y o) (ry:RelV y u) (h:∀ s',Inv X pins σ H s'->Q (.bool o.isSome) s') :
  wpAny (model X.prog X.w) A (compareOp .In u (.ref a)) Q E s:=by
 rcases g with ⟨kvs,k,e,ey,l⟩|⟨kvs,k,b,e,ey,eb,l⟩
 ·subst ey
  obtain ⟨z,hd,vs,rel,dd⟩:=dk_rd I.hok e
  refine wpAny_in_of (kV_is ry) hd dd.mapOf ?_
  rw [←(rel.val k).isSome_eq,←l]
  exact h _ (I.tok _)
 ·subst ey
  cases (show u=Value.ref b from ry)
  obtain ⟨z,hd,xs,rel,dd⟩:=dt_rd I.hok e
  refine wpAny_in_heap (tupleKind_room_in1 hu) (key_of I.hok eb) hd dd ?_
  have q:=(rel.val k).isSome_eq
  rw [Option.isSome_map] at q
  rw [←q,←l]
  exact h _ (I.tok _)
theorem d_write {h':Heap}{t':Nat}{ob:HO}(I:Inv X pins σ H s) (mu:Mut (H a)) (hs:Heap.SameBut a s.heap h') (he:∃ q,h'.get? a=some q) (new:ObjOk X.prog X.w (upd H a ob) h' a ob) :
  Inv X pins σ (upd H a ob) { s with heap:=h',toks:=t' }:=
 I.write (x:=a) (e:=a) mu (.inl rfl) (fun b q hb z=>(hs.2 b hb).trans z) he new
theorem dk_new {P:Program}{w:World}{H':Hp}{h':Heap}{kvs:List (Key × V)}{vs:List (Key × Value)}(z:kvs.length≤sizeLine) (hd:(a == sysModules)=false) (rel:KV kvs vs) (dd:h'.DictOf (mixKind P w) a vs) :
  ObjOk P w H' h' a (.dK kvs):=⟨z,hd,vs,rel,dd⟩
theorem d_setItem {H':Hp}{Q:Unit->Shared->Prop}(hu:A.units+1 < cLine) (I:Inv X pins σ H s) (g:DPut H a y v H') (ry:RelV y u) (rv:RelV v r) (h:∀ s',Inv X pins σ H' s'->Q () s') :
  wpAny (model X.prog X.w) A (setItem (.ref a) u r) Q E s:=by
 rcases g with ⟨kvs,k,e,ey,l,eH⟩|⟨kvs,k,b,e,ey,eb,l,eH⟩
 ·subst ey eH
  obtain ⟨z,hd,vs,rel,dd⟩:=dk_of I.hok e
  have hz:vs.length≤sizeLine:=by rw [←rel.length];exact z
  have hl:(putK kvs k v).length≤sizeLine:=by have:=length_putK kvs k v;omega
  refine wpAny_setItem_pairs (hsz:=hz) (kV_is ry) dd fun h' dd' hs=>h _ ?_
  have he:∃ q,h'.get? a=some q:=let ⟨q,_,_,hq,_⟩:=dd';⟨q,hq⟩
  exact d_write I (by rw [e];exact True.intro) hs he (dk_new hl hd (rel.put k rv) dd')
 ·subst ey eH
  cases (show u=Value.ref b from ry)
  obtain ⟨z,hd,xs,rel,dd⟩:=dt_of I.hok e
  have hz:xs.length≤sizeLine:=by rw [←Paired.length rel];exact z
  have hl:(putK kvs k v).length≤sizeLine:=by have:=length_putK kvs k v;omega
  refine wpAny_setItem_heap (hsz:=hz) (tupleKind_room_in1 hu) (key_of I.hok eb) dd fun h' dd' hs=>h _ ?_
  obtain ⟨q,es,ep,hq,h2,h3,h4,_,h5⟩:=dd'
  refine d_write I (by rw [e];exact True.intro) hs ⟨q,hq⟩ ⟨hl,hd,_,(rel.put k eb rv).keeps fun c ys ec=>?_,q,es,ep,hq,h2,h3,h4,h5⟩
  rw [upd_ne (ne_of ec e (fun z=>nomatch z))]
  exact ec
end
section
variable {X:Cx}{pins:List (Addr × Obj)}{σ:St}{H:Hp}{s:Shared}{a:Addr}{kvs:List (Key × V)}{k:Key}{u:Value}{A:Around}{E:Value->Shared->Prop}
end
def sDPut (td ty tv:TE):TS:=fun D σ H=>tv σ H fun v H1=>td σ H1 fun x H2=>ty σ H2 fun y H3=>∃ a H4,x=.ref a∧DPut H3 a y v H4∧D.nx σ H4
section
variable {X:Cx}{o i e value:Expr}{pos pos' tpos:Pos}{td ty tv:TE}
theorem ps_dput (hu:X.A.units+1 < cLine) (ho:PE X o td) (hi:PE X i ty) (hv:PE X value tv) (hs:swapsWith value (some (.Subscript o i pos')) pos.line X.env=pure false) :
  PS X (.Assign [.Subscript o i pos'] value pos) (sDPut td ty tv):=by
 intro pins s σ H D I h
 refine wpAny_Assign_Subscript (thn (hv pins s σ H _ I h) fun r s1 ⟨v,H1,I1,rv,q1⟩=>thn (ho pins s1 σ H1 _ I1 q1) fun u s2 ⟨x,H2,I2,rx,q2⟩=>thn (hi pins s2 σ H2 _ I2 q2) fun iv s3 ⟨y,H3,I3,ry,a,H4,ex,g,q3⟩=>?_) hs
 subst ex
 obtain rfl:u=Value.ref a:=rx
 exact d_setItem hu I3 g ry rv fun s4 I4=>⟨σ,H4,I4,q3⟩
end
theorem dk_empty {P:Program}{w:World}{H:Hp}(h:Heap) (hb:sysModules < h.objs.size):ObjOk P w H (h.push { cls:=.type "dict",data:=.dict #[] }) h.objs.size (.dK []):=
 ⟨Nat.zero_le _,beq_eq_false_iff_ne.mpr (Ne.symm (Nat.ne_of_lt hb)),[],.nil,Heap.DictOf.new h⟩
def tDNewK:TE:=fun _ H Q=>∀ p,H p=none->Q (.ref p) (upd H p (.dK []))
section
variable {X:Cx}{pos:Pos}
theorem pe_dnewK:PE X (.Dict [] [] pos) tDNewK:=fun pins s σ H Q I h=>
 wpAny_Dict_empty ⟨.ref s.heap.objs.size,_,I.laid (a:=s.heap.objs.size) (o:=.dK []) (t':=s.toks) (fun _ _ q=>Heap.get?_push_of_some _ q) (Nat.le_refl _) (dk_empty s.heap I.big),rfl,h _ (I.hok.fresh (Nat.le_refl _))⟩
end
structure M1 (X:Cx) (o:Expr) (m:Str) (apos:Pos) (e:Expr) (cpos:Pos):Prop where
 base:attributeBase o m X.env (eval o X.env)=eval o X.env
 few:((backTo cpos (starEach [e] X.env)).all (fun x=>!x.1) && (backToKw cpos (keywordEach [] X.env)).all (fun x=>x.1.isSome)
  && decide (([e]:List Expr).length+([]:List Keyword).length+(if ([]:List Keyword).isEmpty then 0 else 1) < 30))=true
 line:(apos.endLine == cpos.line)=true
 trees:backTo cpos (starEach [e] X.env)=[(false,eval e X.env)]
structure M2 (X:Cx) (o:Expr) (m:Str) (apos:Pos) (e f:Expr) (cpos:Pos):Prop where
 base:attributeBase o m X.env (eval o X.env)=eval o X.env
 few:((backTo cpos (starEach [e,f] X.env)).all (fun x=>!x.1) && (backToKw cpos (keywordEach [] X.env)).all (fun x=>x.1.isSome)
  && decide (([e,f]:List Expr).length+([]:List Keyword).length+(if ([]:List Keyword).isEmpty then 0 else 1) < 30))=true
 line:(apos.endLine == cpos.line)=true
 trees:backTo cpos (starEach [e,f] X.env)=[(false,eval e X.env),(false,eval f X.env)]
section
variable {X:Cx}{pins:List (Addr × Obj)}{σ:St}{H:Hp}{s:Shared}{a:Addr}{y d:V}{u r:Value}{o:Option V}{A:Around}{E:Value->Shared->Prop}
end
section
variable {X:Cx}{o e f:Expr}{apos cpos:Pos}{td ty tx:TE}
end
section
variable {X:Cx}{pins:List (Addr × Obj)}{σ:St}{H:Hp}{s:Shared}{a:Addr}{kvs:List (Key × V)}{A:Around}{E:Value->Shared->Prop}
end
section
variable {X:Cx}{pins:List (Addr × Obj)}{σ:St}{H:Hp}{s:Shared}{a:Addr}{y:V}{u:Value}{A:Around}{E:Value->Shared->Prop}
end
end L2
namespace L2
open PySem PySem.Spec PyProof.Rows
section
variable {κ:Type} [DecidableEq κ]
end
end L2
set_option Elab.async false
set_option linter.all false
set_option maxRecDepth 100000
set_option maxHeartbeats 4000000
namespace L2
open PySem PySem.Spec PyProof.Rows
section
variable {X:Cx}
def CMulB (i j:Int):Prop:=i.natAbs < 2 ^ 256∧j.natAbs < 2 ^ 256
theorem bits256 {i:Int}(h:i.natAbs < 2 ^ 256):Builtin.Int.intBits i≤2 ^ 20:=Nat.le_trans (intBits_le h) (by decide)
theorem op_mulB:OpR X (binaryOp .Mult) (rI CMulB fun i j=>.int (i * j)):=opI fun _ _ _ _ _ _ _ hc q=>mul_int q (IntMulOk.of_bits (bits256 hc.1) (bits256 hc.2))
theorem call_isi:CallR X (.builtin "isinstance") (fun xs H Q=>∃ x n ty b,xs=[x,.ty n]∧TyOf X.K H x ty∧PySem.W.kitOne X.K ty (.type n)=some b∧Q (.bl b) H):=by
 intro pins s σ H xs us Q I r h
 obtain ⟨x,n,ty,b,rfl,hty,hk,q⟩:=h
 obtain ⟨u,w',rfl,rx,rc⟩:=vals2 r
 cases (show w'=Value.type n from rc)
 exact isinst_ok I rx hty hk (fun tk=>⟨.bl b,H,I.tok _,rfl,q⟩)
theorem kitOne_ty (K:PySem.W.Frag) (A B:String) (r:Bool)
  (h:(if (Value.type A == Value.type B)=true then some true else if PySem.W.kitMeta B=true then (fastBuiltinMro A).map (·.contains (.type B)) else none)=some r):PySem.W.kitOne K (.type A) (.type B)=some r:=h
mutual
inductive DatV (K:PySem.W.Frag) (H:Hp):V->PyData->Prop
 | non:DatV K H .non .none
 | bl (b:Bool):DatV K H (.bl b) (.bool b)
 | int (i:Int):DatV K H (.int i) (.int i)
 | str (x:Str):DatV K H (.str x) (.str x)
 | lst {a:Addr} {xs:List V} {ds:List PyData} (h:SqL K H a xs) (r:DatVs K H xs ds):DatV K H (.ref a) (.list ds)
 | tup {a:Addr} {xs:List V} {ds:List PyData} (h:SqT K H a xs) (r:DatVs K H xs ds):DatV K H (.ref a) (.tuple ds)
inductive DatVs (K:PySem.W.Frag) (H:Hp):List V->List PyData->Prop
 | nil:DatVs K H [] []
 | cons {x:V} {d:PyData} {xs:List V} {ds:List PyData} (h:DatV K H x d) (t:DatVs K H xs ds):DatVs K H (x::xs) (d::ds)
end
mutual
theorem DatV.reads {pins:List (Addr × Obj)}{σ:St}{H:Hp}{s:Shared}(I:Inv X pins σ H s):∀ {x:V}{d:PyData}{u:Value},DatV X.K H x d->RelV x u->∃ as,Reads s.heap u d as
 | _,_,_,.non,r=>by cases (show _=Value.none from r);exact ⟨_,.none⟩
 | _,_,_,.bl b,r=>by cases (show _=Value.bool b from r);exact ⟨_,.bool b⟩
 | _,_,_,.int i,r=>by obtain ⟨t,rfl⟩:=r;exact ⟨_,.int i t⟩
 | _,_,_,.str x,r=>by obtain ⟨t,rfl⟩:=r;exact ⟨_,.str x t⟩
 | _,_,_,@DatV.lst _ _ a xs ds h q,r=>by
  cases (show _=Value.ref a from r)
  obtain ⟨its,hv,hp,_⟩:=I.list h
  obtain ⟨o,n,e,c,_,d⟩:=hp
  obtain ⟨as,z⟩:=DatVs.reads I q hv
  exact ⟨_,.list e c d (by simpa using z)⟩
 | _,_,_,@DatV.tup _ _ a xs ds h q,r=>by
  cases (show _=Value.ref a from r)
  obtain ⟨its,hv,hp,_⟩:=I.tuple h
  obtain ⟨o,e,c,n,d⟩:=hp
  obtain ⟨as,z⟩:=DatVs.reads I q hv
  exact ⟨_,.tuple e c d (by simpa using z)⟩
theorem DatVs.reads {pins:List (Addr × Obj)}{σ:St}{H:Hp}{s:Shared}(I:Inv X pins σ H s):∀ {xs:List V}{ds:List PyData}{us:List Value},DatVs X.K H xs ds->Vals xs us->∃ as,ReadsAll s.heap us ds as
 | _,_,_,.nil,.nil=>⟨_,.nil⟩
 | _,_,_,.cons h t,.cons r q=>by
  obtain ⟨as,z⟩:=DatV.reads I h r
  obtain ⟨bs,y⟩:=DatVs.reads I t q
  exact ⟨_,.cons z y⟩
end
def rEqD (K:PySem.W.Frag):R2:=fun x y H Q=>∃ d e,DatV K H x d∧DatV K H y e∧SeqAt.shaped d=true∧SeqAt.shaped e=true∧Q (.bl (PyData.eqv d e)) H
def rNeD (K:PySem.W.Frag):R2:=fun x y H Q=>∃ d e,DatV K H x d∧DatV K H y e∧SeqAt.shaped d=true∧SeqAt.shaped e=true∧Q (.bl (!PyData.eqv d e)) H
theorem op_eqD (hu:X.A.units+64 < cLine):OpR X (compareOp .Eq) (rEqD X.K):=by
 intro pins s σ H x y v u Q I rx ry h
 obtain ⟨d,e,hd,he,sd,se,q⟩:=h
 obtain ⟨as,z⟩:=hd.reads I rx
 obtain ⟨bs,z'⟩:=he.reads I ry
 exact SeqAt.compareEq_shaped z z' sd se hu ⟨.bl _,H,I,rfl,q⟩
theorem op_neD (hu:X.A.units+64 < cLine):OpR X (compareOp .NotEq) (rNeD X.K):=by
 intro pins s σ H x y v u Q I rx ry h
 obtain ⟨d,e,hd,he,sd,se,q⟩:=h
 obtain ⟨as,z⟩:=hd.reads I rx
 obtain ⟨bs,z'⟩:=he.reads I ry
 exact SeqAt.compareNe_shaped z z' sd se hu ⟨.bl _,H,I,rfl,q⟩
end
theorem same_upd {H:Hp}{p:Addr}{o:HO}(h:H p=none):Same H (upd H p o):=fun b u e=>by
 rw [upd_ne (ne_of_none e h)];exact e
theorem atI_lt {α:Type}(xs:List α) (i:Int) (h0:0≤i) (h1:i < xs.length):∃ v,atI xs i=some v∧v∈xs:=by
 have hl:i.toNat < xs.length:=by omega
 refine ⟨xs[i.toNat],?_,List.getElem_mem hl⟩
 have e:((i.toNat:Nat):Int)=i:=by omega
 have:=atI_nat (xs:=xs) (j:=i.toNat) (v:=xs[i.toNat]) (List.getElem?_eq_getElem hl)
 rw [e] at this
 exact this
theorem atI_ints (ns:List Int) (i:Int) (h0:0≤i) (h1:i < ns.length):∃ z,atI (ns.map V.int) i=some (.int z)∧z∈ns:=by
 obtain ⟨v,e,m⟩:=atI_lt (ns.map V.int) i h0 (by simpa using h1)
 obtain ⟨z,hz,rfl⟩:=List.mem_map.mp m
 exact ⟨z,e,hz⟩
end L2
set_option Elab.async false
set_option linter.all false
set_option maxRecDepth 100000
set_option maxHeartbeats 4000000
namespace L2
open PySem PySem.Spec PyProof.Rows
def clOf (cells:List (Str × Addr)):List (Str × NameKind)->List (Str × Addr)->List (Str × Addr)
 | [],acc=>acc
 | (n,k)::r,acc=>if (k == .free)=true then clOf cells r ((n,(cells.lookup n).getD 0)::acc) else clOf cells r acc
theorem closure_run {env:Env}:∀ (names:List (Str × NameKind)) (acc:List (Str × Addr)),(∀ y∈names,y.2=.free->∃ c,env.cells.lookup y.1=some c) →
  (forIn names acc (fun (x:Str × NameKind) (cs:List (Str × Addr))=>match x with
   | (name,kind)=>if (kind == .free)=true then (do let a ←cellOf env name;pure (ForInStep.yield ((name,a)::cs))) else (do pure PUnit.unit;pure (ForInStep.yield cs))):Sem (List (Str × Addr)))=pure (clOf env.cells names acc)
 | [],acc,_=>rfl
 | (n,k)::r,acc,h=>by
  rw [List.forIn_cons]
  have hr:∀ y∈r,y.2=.free->∃ c,env.cells.lookup y.1=some c:=fun y hy=>h y (List.mem_cons_of_mem _ hy)
  by_cases hk:(k == .free)=true
  ·obtain ⟨c,hc⟩:=h (n,k) List.mem_cons_self (by simpa using hk)
   have hc':env.cells.lookup n=some c:=hc
   simp only [hk,if_true,clOf,hc',Option.getD_some]
   have e:cellOf env n=pure c:=by unfold cellOf;rw [hc']
   rw [e]
   exact closure_run r _ hr
  ·simp only [hk,if_false,clOf]
   exact closure_run r acc hr
theorem closureFor_eq {scope:Scope}{env:Env}(h:∀ y∈scope.names,y.2=.free->∃ c,env.cells.lookup y.1=some c):closureFor scope env=pure (clOf env.cells scope.names []):=by
 unfold closureFor
 have:=closure_run (env:=env) scope.names [] h
 first
  | exact (congrArg (fun m=>m >>= fun cs=>pure cs) this).trans (pure_bind _ _)
  | (simp only [] at this ⊢;rw [this];rfl)
theorem clOf_sub {cells:List (Str × Addr)}{x:Str}{c:Addr}:∀ {names:List (Str × NameKind)}{acc:List (Str × Addr)},(∀ y∈names,y.2=.free->∃ c,cells.lookup y.1=some c)->(clOf cells names acc).lookup x=some c->acc.lookup x=some c∨cells.lookup x=some c
 | [],acc,_,h=>.inl h
 | (n,k)::r,acc,hf,h=>by
  have hr:∀ y∈r,y.2=.free->∃ c,cells.lookup y.1=some c:=fun y hy=>hf y (List.mem_cons_of_mem _ hy)
  unfold clOf at h
  by_cases hk:(k == .free)=true
  ·rw [if_pos hk] at h
   rcases clOf_sub hr h with q|q
   ·rw [List.lookup_cons] at q
    cases hx:x == n with
    | true=>
     rw [hx] at q
     obtain ⟨d,hd⟩:=hf (n,k) List.mem_cons_self (by simpa using hk)
     have e:x=n:=by simpa using hx
     subst e
     have hd':cells.lookup x=some d:=hd
     rw [hd'] at q ⊢
     exact .inr (by simpa using q)
    | false=>rw [hx] at q;exact .inl q
   ·exact .inr q
  ·rw [if_neg hk] at h
   exact clOf_sub hr h
theorem clOf_acc {cells:List (Str × Addr)}{x:Str}:∀ {names:List (Str × NameKind)}{acc:List (Str × Addr)},(∀ y∈names,y.2=.free->∃ c,cells.lookup y.1=some c)->(∃ c,acc.lookup x=some c)->∃ c,(clOf cells names acc).lookup x=some c
 | [],acc,_,h=>h
 | (n,k)::r,acc,hf,h=>by
  have hr:∀ y∈r,y.2=.free->∃ c,cells.lookup y.1=some c:=fun y hy=>hf y (List.mem_cons_of_mem _ hy)
  unfold clOf
  by_cases hk:(k == .free)=true
  ·rw [if_pos hk]
   refine clOf_acc hr ?_
   rw [List.lookup_cons]
   cases hx:x == n with
   | true=>exact ⟨_,rfl⟩
   | false=>exact h
  ·rw [if_neg hk]
   exact clOf_acc hr h
theorem clOf_has {cells:List (Str × Addr)}{x:Str}:∀ {names:List (Str × NameKind)}{acc:List (Str × Addr)},(∀ y∈names,y.2=.free->∃ c,cells.lookup y.1=some c)->names.lookup x=some .free->∃ c,(clOf cells names acc).lookup x=some c
 | [],acc,_,h=>by simp at h
 | (n,k)::r,acc,hf,h=>by
  have hr:∀ y∈r,y.2=.free->∃ c,cells.lookup y.1=some c:=fun y hy=>hf y (List.mem_cons_of_mem _ hy)
  rw [List.lookup_cons] at h
  unfold clOf
  cases hx:x == n with
  | true=>
   rw [hx] at h
   have hk:k=.free:=by simpa using h
   subst hk
   rw [if_pos (show (NameKind.free == NameKind.free)=true from rfl)]
   refine clOf_acc hr ⟨(cells.lookup n).getD 0,?_⟩
   rw [List.lookup_cons,hx]
  | false=>
   rw [hx] at h
   by_cases hk:(k == .free)=true
   ·rw [if_pos hk];exact clOf_has hr h
   ·rw [if_neg hk];exact clOf_has hr h
theorem lookup_mem {x:Str}{k:NameKind}:∀ {names:List (Str × NameKind)},names.lookup x=some k->(x,k)∈names
 | [],h=>by simp at h
 | (n,j)::r,h=>by
  rw [List.lookup_cons] at h
  cases hx:x == n with
  | true=>
   rw [hx] at h
   have e:x=n:=by simpa using hx
   have e2:j=k:=by simpa using h
   subst e;subst e2
   exact List.mem_cons_self
  | false=>rw [hx] at h;exact List.mem_cons_of_mem _ (lookup_mem h)
theorem lookup_relabel {env:Env}{x:Str}:∀ {names:List (Str × NameKind)},
  (names.map fun (n,k)=>if (k == NameKind.free && env.scope.kind == .function && env.kindOf n == some .cell) then (n,NameKind.cell) else (n,k)).lookup x
   = (names.lookup x).map fun k=>if (k == NameKind.free && env.scope.kind == .function && env.kindOf x == some .cell) then NameKind.cell else k
 | []=>rfl
 | (n,k)::r=>by
  have ih:=@lookup_relabel env x r
  show List.lookup x ((if (k == NameKind.free && env.scope.kind == .function && env.kindOf n == some .cell)=true then (n,NameKind.cell) else (n,k))::_)=_
  cases hx:x == n with
  | true=>
   have e:x=n:=by simpa using hx
   subst e
   by_cases hc:(k == NameKind.free && env.scope.kind == .function && env.kindOf x == some .cell)=true
   ·rw [if_pos hc]
    simp only [List.lookup_cons,beq_self_eq_true,Option.map_some]
    rw [if_pos hc]
   ·rw [if_neg hc]
    simp only [List.lookup_cons,beq_self_eq_true,Option.map_some]
    rw [if_neg hc]
  | false=>
   by_cases hc:(k == NameKind.free && env.scope.kind == .function && env.kindOf n == some .cell)=true
   ·rw [if_pos hc];simp only [List.lookup_cons,hx];exact ih
   ·rw [if_neg hc];simp only [List.lookup_cons,hx];exact ih
abbrev cCx (X:Cx) (scope:Scope) (N':List Str) (C:Addr) (s₀:Shared) (H₀:Hp) (ex:List Addr) (pn:List (Addr × Obj)):Cx:=
 { X with N:=N',s₀:=s₀,H₀:=H₀,env:=compEnvC scope (clOf X.env.cells scope.names []) C X.env,outer:=X.stack,stack:=X.stack,ex:=ex,fn:=fun _=>false,pn:=pn,xe:=fun _ _=>False }
def PTs (Y:Cx) (ifs:List Expr) (t:TT):Prop:=
 ∀ (pins:List (Addr × Obj)) (s:Shared) (σ:St) (H:Hp) (Q:Bool->Hp->Prop),Inv Y pins σ H s->t σ H Q →
  wpAny (model Y.prog Y.w) Y.A (forIn ifs true fun c r=>if r=true then do let ok ←isTrue c Y.env (eval c Y.env);pure (ForInStep.yield ok) else pure (ForInStep.yield r)) (TP Y pins σ Q) Y.xe s
def tYes:TT:=fun _ H Q=>Q true H
theorem pts_nil {Y:Cx}:PTs Y [] tYes:=fun _ _ _ H _ I h=>wpAny_pure ⟨H,I,h⟩
theorem pts_one {Y:Cx}{c:Expr}{t:TT}(h:PT Y c t):PTs Y [c] t:=fun pins s σ H Q I hw=>PySem.wpAny_tests_one (h pins s σ H Q I hw)
theorem HOk.but {P:Program}{w:World}{H:Hp}{h h':Heap}{C:Addr}(ok:HOk P w H h) (hn:H C=none) (hs:Heap.SameBut C h h'):HOk P w H h':=fun b ob e=>by
 refine (ok b ob e).stay (fun c w' hc q=>(hs.2 c ?_).trans q) (fun _ q=>q) fun _ _ q=>q
 rintro rfl
 rcases hc with rfl|hc
 ·rw [hn] at e;cases e
 ·rw [hn] at hc;cases hc
theorem Un.but {fs ex:List Addr}{H H':Hp}{h h1 h2:Heap}{C:Addr}(u:Un fs ex H H' h h1) (hs:Heap.SameBut C h1 h2) (hC:∀ b o,h.get? b=some o->b ≠ C):Un fs ex H H' h h2 where
 keep:=fun b o e n hb hx=>(hs.2 b (hC b o e)).trans (u.keep b o e n hb hx)
 slot:=fun b o e n hb hx=>by
  obtain ⟨sl,q⟩:=u.slot b o e n hb hx
  exact ⟨sl,(hs.2 b (hC b o e)).trans q⟩
 free:=u.free
 there:=fun b o e hx=>by
  obtain ⟨o',q⟩:=u.there b o e hx
  exact ⟨o',(hs.2 b (hC b o e)).trans q⟩
 tups:=u.tups
 frzs:=u.frzs
 tbls:=u.tbls
section
variable {X:Cx}
def tComp (k:Nat) (wi:TI) (g:TG) (tt:TT) (te:TE):TE:=fun σ H Q=>wi σ H fun J H1=>∀ D,H1 D=none->∃ W:Nat->Nat->List V->Hp->Prop,(∃ m,W 0 m [] (upd H1 D (.lst [])))∧∀ i m ys H,W i m ys H →
 (J.stop i H∧Q (.ref D) H)∨(J.go i H∧∃ N:List V->Hp->Prop,(∀ ys' H',N ys' H'->∃ m',m' < m∧W (i+1) m' ys' H') ∧
  ∀ x H',J.yld i H x H'->g x (List.replicate k none++σ) H' fun σ2 H2=>(∃ vs:St,vs.length=k∧σ2=vs++σ)∧tt σ2 H2 fun b H3=>if b=true then te σ2 H3 fun y H4=>H4 D=some (.lst ys)∧ys.length < sizeLine∧N (ys++[y]) (upd H4 D (.lst (ys++[y]))) else N ys H3)
theorem comp_loop {Y:Cx}{tg elt iter:Expr}{ifs:List Expr}{scope:Scope}{pos:Pos}{it D:Addr}{g:TG}{tt:TT}{te:TE}{J:It}{fp:List Addr}{tn:Nat->Heap->Prop}{k:Nat}{σ:St}{Q:VK}
  (hc:Y.calm=true) (hx:Y.xe=fun _ _=>False) (hg:PG Y tg g) (ht:PTs Y ifs tt) (he:PE Y elt te) (T:Turn Y.prog Y.w Y.K tg J fp it tn) (hf:∀ H:Hp,(∀ b∈fp,H b=none)->∀ b∈fp,FpOk Y [] H b)
  (W:Nat->Nat->List V->Hp->Prop)
  (turn:∀ i m ys H,W i m ys H->(J.stop i H∧Q (.ref D) H)∨(J.go i H∧∃ N:List V->Hp->Prop,(∀ ys' H',N ys' H'->∃ m',m' < m∧W (i+1) m' ys' H') ∧
   ∀ x H',J.yld i H x H'->g x (List.replicate k none++σ) H' fun σ2 H2=>(∃ vs:St,vs.length=k∧σ2=vs++σ)∧tt σ2 H2 fun b H3=>if b=true then te σ2 H3 fun y H4=>H4 D=some (.lst ys)∧ys.length < sizeLine∧N (ys++[y]) (upd H4 D (.lst (ys++[y]))) else N ys H3))
  (n:Nat) (s:Shared) (h:∃ i ys H,Inv Y [] (List.replicate k none++σ) H s∧tn i s.heap∧(∀ b∈fp,H b=none)∧W i n ys H) :
  codeAny (model Y.prog Y.w) Y.A (.compLoop (.ListComp elt [⟨tg,iter,ifs,0⟩] scope pos) 0 (.ref it) (.ref D) Y.env) (fun r s'=>r=.ok .next∧∃ H',Inv Y [] (List.replicate k none++σ) H' s'∧Q (.ref D) H') s:=by
 refine codeAny_loop rfl (fun n s=>∃ i ys H,Inv Y [] (List.replicate k none++σ) H s∧tn i s.heap∧(∀ b∈fp,H b=none)∧W i n ys H) ?_ n h
 rintro n s3 ⟨i,ys,H3,I3,st3,fr3,w3⟩
 show wpAny _ Y.A ((compTurn (.ListComp elt [⟨tg,iter,ifs,0⟩] scope pos) 0 (.ref it) (.ref D) Y.env).onRaise (fun x=>do noteFrame x Y.env;theTreesLotGoes x)) _ _ s3
 refine PySem.wpAny_noted ?_
 rw [PySem.compTurn_list]
 have no:∀ {α:Type} {m:Sem α} {P:α->Shared->Prop} {E:Value->Shared->Prop} {s:Shared},wpAny (model Y.prog Y.w) Y.A m P Y.xe s->wpAny (model Y.prog Y.w) Y.A m P E s:=fun {α m P E s} h=>
  wpAny_mono h (fun _ _ q=>q) fun _ _ q=>by rw [hx] at q;exact q.elim
 refine wpAny_bind (wpAny_standAt (wpAny_bind ?_))
 rcases turn i n ys H3 w3 with ⟨stop,qn⟩|⟨go,N,hN,step⟩
 ·refine thn (T.done Y rfl rfl rfl hc i [] s3 (List.replicate k none++σ) H3 _ I3 (hf H3 fr3) st3 stop) fun r s4 ⟨hr,I4⟩=>?_
  subst hr
  exact wpAny_pure ⟨rfl,H3,I4,qn⟩
 ·refine thn (T.item Y rfl rfl rfl hc i [] s3 (List.replicate k none++σ) H3 _ I3 (hf H3 fr3) st3 go) fun r s4 ⟨u,hr,h4⟩=>?_
  subst hr
  refine wpAny_bind (thn h4 fun _ s5 ⟨x,H5,I5,r5,y5,st5,fr5⟩=>?_)
  have I5':=I5.pinned (hf H5 fr5) (T.obj _ _ st5)
  refine wpAny_bind (no (thn (hg _ s5 (List.replicate k none++σ) H5 x u _ I5' r5 (step x H5 y5)) fun _ s6 ⟨σ6,H6,I6,⟨vs,hvs,e6⟩,q6⟩=>?_))
  subst e6
  have forget:∀ {pins:List (Addr × Obj)} {H:Hp} {s:Shared},Inv Y pins (vs++σ) H s->Inv Y pins (List.replicate k none++σ) H s:=fun {pins H s} I=>I.weak (by simp [hvs]) fun i v e=>by
   by_cases hi:i < k
   ·rw [List.getElem?_append_left (by simpa using hi)] at e
    simp [List.getElem?_replicate,hi] at e
   ·rw [List.getElem?_append_right (by simpa using Nat.le_of_not_lt hi)] at e
    rw [List.getElem?_append_right (by omega)]
    simpa [hvs] using e
  refine wpAny_bind (no (thn (ht _ s6 (vs++σ) H6 _ I6 q6) fun b s7 ⟨H7,I7,q7⟩=>?_))
  have again:∀ {H8:Hp} {s8:Shared} {ys':List V},Inv Y ([]++pinsAt fp s5.heap) (vs++σ) H8 s8->N ys' H8->∃ m,m < n∧∃ i ys H,Inv Y [] (List.replicate k none++σ) H s8∧tn i s8.heap∧(∀ b∈fp,H b=none)∧W i m ys H:=fun {H8 s8 ys'} I8 n8=>by
   obtain ⟨m',hm,w8⟩:=hN ys' H8 n8
   refine ⟨m',hm,i+1,ys',H8,forget I8.unpinned,T.keep _ _ _ st5 fun b hb o e=>(I8.pin (b,o) (List.mem_append_right _ (List.mem_append_right _ (mem_pinsAt hb e)))).1,fun b hb=>?_,w8⟩
   obtain ⟨o,e,d⟩:=T.obj _ _ st5 b hb
   exact (I8.pin (b,o) (List.mem_append_right _ (List.mem_append_right _ (mem_pinsAt hb e)))).2.1
  cases b with
  | false=>
   rw [if_neg Bool.false_ne_true] at q7
   exact wpAny_pure ⟨rfl,again I7 q7⟩
  | true=>
   rw [if_pos rfl] at q7
   refine wpAny_bind (wpAny_bind (no (thn (he _ s7 (vs++σ) H7 _ I7 q7) fun y s8 ⟨y',H8,I8,ry,q8,l8,n8⟩=>?_)))
   exact wpAny_bind (no (thn (mt_append _ s8 (vs++σ) H8 (.ref D) [y'] (.ref D) [y] (fun _ H'=>N (ys++[y']) H') I8 rfl (.cons ry .nil) ⟨D,ys,y',rfl,rfl,q8,l8,n8⟩) fun _ s9 ⟨_,H9,I9,_,q9⟩=>wpAny_pure (wpAny_pure ⟨rfl,again I9 q9⟩)))
structure CompOk (X:Cx) (scope:Scope) (N':List Str) (k:Nat):Prop where
 cell:∀ y∈scope.names,y.2 ≠ .cell
 kind:scope.kind=.function
 names:∀ y∈scope.names,y.2=.local->scope.names.lookup y.1=some .local
 free:∀ y∈scope.names,y.2=.free->X.env.scope.names.lookup y.1=some .cell
 len:N'.length=k+X.N.length
 sub:∀ i x,N'[k+i]? = some x->scope.names.lookup x=some .free->X.N[i]? = some x
 loc:∀ i x,N'[k+i]? = some x->scope.names.lookup x ≠ some .local
theorem CompOk.cells {scope:Scope}{N':List Str}{k:Nat}{pins:List (Addr × Obj)}{σ:St}{H:Hp}{s:Shared}(c:CompOk X scope N' k) (I:Inv X pins σ H s):∀ y∈scope.names,y.2=.free->∃ a,X.env.cells.lookup y.1=some a:=fun y hy e=>
 I.ok.has y.1 (.inl (c.free y hy e))
theorem inv_comp {scope:Scope}{N':List Str}{k:Nat}{pins:List (Addr × Obj)}{σ:St}{H:Hp}{s s₄:Shared}{fp:List Addr}{m:Str->Option Value}(c:CompOk X scope N' k) (hc:X.calm=true) (I:Inv X pins σ H s)
  (hf:∀ b∈fp,FpOk X pins H b) (hfl:∀ b∈fp,b < s.heap.objs.size) (hb:∀ b∈fp,X.base.get? b=none) (hns:s₄.heap.Ns s.heap.objs.size m) (hk:∀ b o,s.heap.get? b=some o->s₄.heap.get? b=some o) (ho:s₄.os=s.os) (hg:s₄.gens=s.gens) :
  Inv (cCx X scope N' s.heap.objs.size s H fp (X.pn++pins)) [] (List.replicate k none++σ) H s₄:=by
 have hcl:=c.cells I
 have sub:∀ x a,(clOf X.env.cells scope.names []).lookup x=some a->X.env.cells.lookup x=some a:=fun x a e=>by
  rcases clOf_sub hcl e with q|q
  ·simp at q
  ·exact q
 have kinds:∀ x,(compEnvC scope (clOf X.env.cells scope.names []) s.heap.objs.size X.env).kindOf x=some .cell∨(compEnvC scope (clOf X.env.cells scope.names []) s.heap.objs.size X.env).kindOf x=some .free->scope.names.lookup x=some .free:=fun x hx=>by
  have e:(compEnvC scope (clOf X.env.cells scope.names []) s.heap.objs.size X.env).kindOf x=(scope.names.lookup x).map fun k=>if (k == NameKind.free && X.env.scope.kind == .function && X.env.kindOf x == some .cell) then NameKind.cell else k:=lookup_relabel
  rw [e] at hx
  cases q:scope.names.lookup x with
  | none=>rw [q] at hx;simp at hx
  | some j=>
   rw [q] at hx
   have hj:j ≠ .cell:=c.cell (x,j) (lookup_mem q)
   cases j<;>simp_all
 have fresh:∀ b,s.heap.objs.size≤b->s.heap.get? b=none:=fun b hb=>Heap.get?_none_of_le hb
 have ne:∀ b o,s.heap.get? b=some o->b ≠ s.heap.objs.size:=fun b o e=>Nat.ne_of_lt (Heap.lt_size e)
 have cl_lt:∀ x a,X.env.cells.lookup x=some a->a < s.heap.objs.size:=fun x a e=>by
  obtain ⟨v,o,h1,_⟩:=I.cell x a e
  exact Heap.lt_size h1
 refine ⟨⟨I.ok.mod,c.kind,I.ok.glob,I.ok.blt,Nat.le_refl _,fun x y a e1 e2=>I.ok.inj x y a (sub x a e1) (sub y a e2),fun x hx=>clOf_has hcl (kinds x hx),(fun _ _ z=>nomatch z),I.ok.hd,I.ok.frames,.inl rfl,fun b hb'=>⟨Nat.ne_of_lt (hfl b hb'),fun x a e=>(hf b hb').2.2.2.2.1 x a (sub x a e)⟩,
   I.bs,Nat.le_trans I.ok.bsz I.sz,(fun b o e hb'=>by rw [hb b hb'] at e;cases e),fun b hb' hz=>?_,I.stack,I.stkFree⟩,ho,by rw [hg];exact I.bare,Un.kept hk,⟨m,hns,fun i x v e1 e2 e3=>?_⟩,fun x a e=>?_,I.hok.fresh (Nat.le_refl _),fun x a e=>I.freeC x a (sub x a e),fun p hp=>?_,I.hok.kept hk,?_⟩
 ·rcases List.mem_cons.mp (I.stkSub b hz) with z|z
  ·exact (hf b hb').2.1 z
  ·exact (hf b hb').2.2.1 z
 ·have hi:k≤i:=by
   refine Nat.le_of_not_lt fun hi=>?_
   rw [List.getElem?_append_left (by simpa using hi)] at e2
   simp [List.getElem?_replicate,hi] at e2
  obtain ⟨j,rfl⟩:∃ j,i=k+j:=⟨i - k,by omega⟩
  rw [List.getElem?_append_right (by simp)] at e2
  have e2':σ[j]? = some (some v):=by simpa using e2
  have e:(relabel scope X.env).names.lookup x=(scope.names.lookup x).map fun k=>if (k == NameKind.free && X.env.scope.kind == .function && X.env.kindOf x == some .cell) then NameKind.cell else k:=lookup_relabel
  have hfree:scope.names.lookup x=some .free:=by
   cases q:scope.names.lookup x with
   | none=>
    rcases e3 with z|z|z
    all_goals (have z':(relabel scope X.env).names.lookup x=some _:=z;rw [e,q] at z';simp at z')
   | some j'=>
    have h1:j' ≠ .cell:=c.cell (x,j') (lookup_mem q)
    have h2:j' ≠ .local:=fun z=>c.loc j x e1 (by rw [q,z])
    rcases e3 with z|z|z
    all_goals (have z':(relabel scope X.env).names.lookup x=some _:=z;rw [e,q] at z';cases j'<;>simp_all)
  have hX:=c.sub j x e1 hfree
  have hcellX:=c.free (x,.free) (lookup_mem hfree) rfl
  obtain ⟨m0,hn0,hl0⟩:=I.loc
  obtain ⟨u,r,l⟩:=hl0 j x v hX e2' (.inr (.inl hcellX))
  refine ⟨u,r,?_⟩
  rcases l with ⟨z,_⟩|⟨_,a,ea,hz⟩
  ·have z':X.env.scope.names.lookup x=some .local:=z
   rw [hcellX] at z';cases z'
  ·obtain ⟨a',ea'⟩:=clOf_has (acc:=[]) hcl hfree
   have e4:=sub x a' ea'
   rw [ea] at e4
   cases e4
   refine .inr ⟨.inl ?_,a,ea',?_⟩
   ·show (relabel scope X.env).names.lookup x=some .cell
    rw [e,hfree]
    have k1:(X.env.scope.kind == .function)=true:=by rw [I.ok.kind];rfl
    have k2:(X.env.kindOf x == some .cell)=true:=by
     have:X.env.kindOf x=some .cell:=hcellX
     rw [this];rfl
    simp [k1,k2]
   ·obtain ⟨o,h1,h2⟩:=hz
    exact ⟨o,hk _ _ h1,h2⟩
 ·obtain ⟨v,o,h1,h2⟩:=I.cell x a (sub x a e)
  exact ⟨v,o,hk _ _ h1,h2⟩
 ·have hp':p∈X.pn++pins:=by simpa using hp
  obtain ⟨e,n,nl,nf,d⟩:=I.pin p hp'
  refine ⟨hk _ _ e,n,ne _ _ e,fun z=>?_,d⟩
  rcases List.mem_cons.mp (I.stkSub _ z) with z|z
  ·exact nl z
  ·exact nf z
 ·show (List.replicate k none++σ).length=N'.length
  rw [c.len,List.length_append,List.length_replicate,I.len]
theorem comp_block {elt iter tg:Expr}{ifs:List Expr}{scope:Scope}{pos:Pos}{g:TG}{tt:TT}{te:TE}{N':List Str}{k:Nat}{it:Addr}{J:It}{fp:List Addr}{tn:Nat->Heap->Prop}{pins:List (Addr × Obj)}{σ:St}{H:Hp}{s:Shared}{Q:VK}{RR:Value->Addr->Result->Shared->Prop}{E:Value->Shared->Prop}
  (c:CompOk X scope N' k) (hc:X.calm=true) (I:Inv X pins σ H s) (T:Turn X.prog X.w X.K tg J fp it tn) (st:tn 0 s.heap) (hf:∀ b∈fp,FpOk X pins H b)
  (hg:∀ C s₀ H₀ ex pn,PG (cCx X scope N' C s₀ H₀ ex pn) tg g) (ht:∀ C s₀ H₀ ex pn,PTs (cCx X scope N' C s₀ H₀ ex pn) ifs tt) (he:∀ C s₀ H₀ ex pn,PE (cCx X scope N' C s₀ H₀ ex pn) elt te)
  (h:∀ D,H D=none->∃ W:Nat->Nat->List V->Hp->Prop,(∃ m,W 0 m [] (upd H D (.lst [])))∧∀ i m ys H,W i m ys H →
   (J.stop i H∧Q (.ref D) H)∨(J.go i H∧∃ N:List V->Hp->Prop,(∀ ys' H',N ys' H'->∃ m',m' < m∧W (i+1) m' ys' H') ∧
    ∀ x H',J.yld i H x H'->g x (List.replicate k none++σ) H' fun σ2 H2=>(∃ vs:St,vs.length=k∧σ2=vs++σ)∧tt σ2 H2 fun b H3=>if b=true then te σ2 H3 fun y H4=>H4 D=some (.lst ys)∧ys.length < sizeLine∧N (ys++[y]) (upd H4 D (.lst (ys++[y]))) else N ys H3))
  (fin:∀ D C s' H' m,s'.heap.Ns C m->C ≠ X.env.locals->(∀ x a,X.env.cells.lookup x=some a->a ≠ C)->(H' C=none∧X.s₀.heap.objs.size≤C∧∀ p∈X.pn++pins,p.1 ≠ C)->(∀ h',Heap.SameBut C s'.heap h'->Inv X pins σ H' { s' with heap:=h' })->Q (.ref D) H'->RR (.ref D) C (.ok .next) s') :
  wpAny (model X.prog X.w) X.A (newList []) (fun acc s₃=>wpAny (model X.prog X.w) X.A (newFunctionEnv scope X.env.globals (clOf X.env.cells scope.names []) [] X.env.qual none .none (some X.env)) (fun cenv s₄=>
   codeAny (model X.prog X.w) X.A (.compStart (.ListComp elt [⟨tg,iter,ifs,0⟩] scope pos) 0 (.ref it) acc { cenv with scope:=relabel scope X.env }) (RR acc cenv.locals) s₄) E s₃) E s:=by
 refine wpAny_newObj_type (wpAny_newFunctionEnv c.cell (by intro y hy;simp at hy) (fun h₁ hns₁ hsb₁=>?_) c.kind)
 dsimp only at hns₁ hsb₁ ⊢
 have I3:Inv X pins σ (upd H s.heap.objs.size (.lst [])) { s with heap:=s.heap.push { cls:=.type "list",data:=.seq ([]:List Value).toArray },toks:=s.toks }:=I.lnew (ys:=[]) (its:=[]) .nil (Nat.zero_le _)
 generalize hH2:s.heap.push { cls:=.type "list",dict:=none,data:=.seq ([]:List Value).toArray }=hp at hns₁ hsb₁ I3 ⊢
 have hlt:∀ b o,s.heap.get? b=some o->hp.get? b=some o:=fun b o e=>by rw [←hH2];exact Heap.get?_push_of_some _ e
 have hnD:H s.heap.objs.size=none:=I.hok.fresh (Nat.le_refl _)
 have kp:∀ b o,hp.get? b=some o->h₁.get? b=some o:=fun b o e=>hsb₁.extBut b o (Nat.ne_of_lt (Heap.lt_size e)) (Heap.get?_push_of_some _ e)
 have stk:∀ b∈fp,s.heap.get? b ≠ none:=fun b hb z=>by
  obtain ⟨o,e,_⟩:=T.obj _ _ st b hb
  rw [z] at e;cases e
 have flt:∀ b∈fp,b < s.heap.objs.size:=fun b hb=>by
  obtain ⟨o,e,_⟩:=T.obj _ _ st b hb
  exact Heap.lt_size e
 have fpD:∀ b∈fp,b ≠ s.heap.objs.size:=fun b hb=>Nat.ne_of_lt (flt b hb)
 have hf3:∀ b∈fp,FpOk X pins (upd H s.heap.objs.size (.lst [])) b:=fun b hb=>by
  obtain ⟨a1,a2⟩:=hf b hb
  exact ⟨by rw [upd_ne (fpD b hb)];exact a1,a2⟩
 have hnb:∀ b∈fp,X.base.get? b=none:=fun b hb=>by
  cases e:X.base.get? b with
  | none=>rfl
  | some o=>
   rcases (hf b hb).2.2.2.1 with z|z
   ·exact absurd z (I.ok.noex b o e)
   ·have:=Heap.lt_size (I.ok.bs b o e).1
    exact absurd (Nat.lt_of_lt_of_le this z) (Nat.lt_irrefl _)
 have hsz:s.heap.objs.size < hp.objs.size:=by rw [←hH2,Heap.size_push];exact Nat.lt_succ_self _
 have IY:=inv_comp (s₄:={ s with heap:=h₁,toks:=s.toks+([]:List (Str × Value)).length }) (fp:=fp) c hc I3 hf3 (fun b hb=>Nat.lt_trans (flt b hb) hsz) hnb hns₁ kp rfl rfl
 obtain ⟨W,⟨m0,w0⟩,turn⟩:=h s.heap.objs.size hnD
 have run:=comp_loop (Y:=cCx X scope N' hp.objs.size { s with heap:=hp,toks:=s.toks } (upd H s.heap.objs.size (.lst [])) fp (X.pn++pins)) (tg:=tg) (elt:=elt) (iter:=iter) (ifs:=ifs) (scope:=scope) (pos:=pos) (it:=it) (D:=s.heap.objs.size) (k:=k) (σ:=σ) (Q:=Q)
  hc rfl (hg _ _ _ _ _) (ht _ _ _ _ _) (he _ _ _ _ _) T (fun H' hn b hb=>⟨hn b hb,Nat.ne_of_lt (Nat.lt_trans (flt b hb) hsz),fun z=>(IY.ok.exfs b hb) z,.inl hb,fun x a e=>(IY.ok.exf b hb).2 x a e,fun p hp=>by
   have hp':p∈X.pn++pins:=by simpa using hp
   exact (hf b hb).2.2.2.2.2 p hp'⟩) W turn m0
 have st₁:tn 0 h₁:=T.keep _ _ _ st fun b hb o e=>kp b o (hlt b o e)
 have go:=run { s with heap:=h₁,toks:=s.toks+([]:List (Str × Value)).length } ⟨0,[],_,IY,st₁,fun b hb=>(hf3 b hb).1,w0⟩
 have out:∀ r s',(r=Except.ok Flow.next∧∃ H',Inv (cCx X scope N' hp.objs.size { s with heap:=hp,toks:=s.toks } (upd H s.heap.objs.size (.lst [])) fp (X.pn++pins)) [] (List.replicate k none++σ) H' s'∧Q (.ref s.heap.objs.size) H')->RR (.ref s.heap.objs.size) hp.objs.size r s':=by
  rintro r s' ⟨rfl,H',J',q⟩
  obtain ⟨m,hn,_⟩:=J'.loc
  have hC:hp.objs.size ≠ X.env.locals:=Nat.ne_of_gt (Nat.lt_of_lt_of_le I.lt (Nat.le_of_lt hsz))
  refine fin _ _ s' H' m hn hC (fun x a e=>?_) ⟨J'.free,Nat.le_trans I.sz (Nat.le_of_lt hsz),fun p hp'=>Nat.ne_of_lt (Nat.lt_trans (Heap.lt_size (I.pin p hp').1) hsz)⟩ (fun h' hs'=>?_) q
  ·obtain ⟨v,o,h1,_⟩:=I.cell x a e
   exact Nat.ne_of_lt (Nat.lt_trans (Heap.lt_size h1) hsz)
  ·refine I.call' (ch:=fp) ?_ ?_ ?_ J'.bare fun b hb=>⟨(hf b hb).2.2.2.1,(hf b hb).2.1,(hf b hb).2.2.2.2.1,(hf b hb).2.2.2.2.2⟩
   ·exact J'.os
   ·have u1:Un (frs X.stack) fp H (upd H s.heap.objs.size (.lst [])) s.heap hp:=Un.laid hlt (Nat.le_refl _) hnD
    exact (u1.trans J'.base).but hs' fun b o e=>Nat.ne_of_lt (Nat.lt_trans (Heap.lt_size e) hsz)
   ·exact J'.hok.but J'.free hs'
 exact codeAny_compStart_list (codeAny_mono go out) (T.self _ 0 _ _ _ st₁ (codeAny_mono go out))
theorem pe_comp {elt iter tg:Expr}{ifs:List Expr}{scope:Scope}{pos:Pos}{wi:TI}{g:TG}{tt:TT}{te:TE}{N':List Str}{k:Nat}
  (c:CompOk X scope N' k) (hc:X.calm=true) (hi:PI X tg iter wi)
  (hg:∀ C s₀ H₀ ex pn,PG (cCx X scope N' C s₀ H₀ ex pn) tg g) (ht:∀ C s₀ H₀ ex pn,PTs (cCx X scope N' C s₀ H₀ ex pn) ifs tt) (he:∀ C s₀ H₀ ex pn,PE (cCx X scope N' C s₀ H₀ ex pn) elt te)
  (hs:∀ x,foldedSetIterable iter X.env x=pure x:=by intro _;rfl):PE X (.ListComp elt [⟨tg,iter,ifs,0⟩] scope pos) (tComp k wi g tt te):=by
 intro pins s σ H Q I h
 rw [PySem.eval_ListComp]
 refine PySem.wpAny_comprehension_free (use:=none) rfl hs (closureFor_eq (c.cells I)) c.kind c.names (thn (hi pins s σ H _ I h) fun v s1 h1=>thn h1 fun itv s2 h2=>?_)
 obtain ⟨it,fp,tn,J,H2,rfl,I2,T,st2,f2,hW⟩:=h2
 refine comp_block (RR:=fun acc C=>PySem.compPost (model X.prog X.w) X.A X.xe none (EP X pins σ Q) acc C) c hc I2 T st2 f2 hg ht he hW ?_
 intro D C s' H' m hn _ _ _ hI q
 exact ⟨m,hn,fun h' hs'=>⟨.ref D,H',hI h' hs',rfl,q⟩⟩
def tSetC (i:Nat) (te:TE):TS:=fun D σ H=>te σ H fun x H1=>D.nx (σ.set i (some x)) H1
theorem ps_setC {elt iter tg:Expr}{ifs:List Expr}{scope:Scope}{pos spos py:Pos}{wi:TI}{g:TG}{tt:TT}{te:TE}{N':List Str}{k i:Nat}{y:Str}
  (hN:X.N.Nodup) (hi':X.N[i]? = some y) (hy:Loc X.env.scope y)
  (c:CompOk X scope N' k) (hc:X.calm=true) (hi:PI X tg iter wi)
  (hg:∀ C s₀ H₀ ex pn,PG (cCx X scope N' C s₀ H₀ ex pn) tg g) (ht:∀ C s₀ H₀ ex pn,PTs (cCx X scope N' C s₀ H₀ ex pn) ifs tt) (he:∀ C s₀ H₀ ex pn,PE (cCx X scope N' C s₀ H₀ ex pn) elt te)
  (hsw:swapsWith (.ListComp elt [⟨tg,iter,ifs,0⟩] scope pos) (some (.Name y py)) spos.line X.env=pure true:=by rfl)
  (hs:∀ x,foldedSetIterable iter X.env x=pure x:=by intro _;rfl) (hf:X.fn y=true∨X.env.scope.names.lookup y=some .local:=by first|exact .inl rfl|exact .inr rfl|assumption) :
  PS X (.Assign [.Name y py] (.ListComp elt [⟨tg,iter,ifs,0⟩] scope pos) spos) (tSetC i (tComp k wi g tt te)):=by
 intro pins s σ H D I h
 rw [PySem.exec_Assign_Name_used _ _ _ _ hsw]
 refine wpAny_bind (wpAny_standAt (wpAny_bind ?_))
 show wpAny _ X.A (do let _ ←comprehension (.ListComp elt [⟨tg,iter,ifs,0⟩] scope pos) scope X.env _ (newList []) false (eval iter X.env) (some (assign (.Name y py) X.env))) _ _ s
 refine wpAny_bind (thn (PySem.wpAny_comprehension_free (use:=some (assign (.Name y py) X.env)) (Q:=fun _ s'=>SP X pins D .next s') rfl hs (closureFor_eq (c.cells I)) c.kind c.names (thn (hi pins s σ H _ I h) fun v s1 h1=>thn h1 fun itv s2 h2=>?_)) fun _ s' hq=>wpAny_pure (wpAny_pure hq))
 obtain ⟨it,fp,tn,J,H2,rfl,I2,T,st2,f2,hW⟩:=h2
 refine comp_block (Q:=fun x H1=>D.nx (σ.set i (some x)) H1) (RR:=fun acc C=>PySem.compPost (model X.prog X.w) X.A X.xe (some (assign (.Name y py) X.env)) (fun _ s'=>SP X pins D .next s') acc C) c hc I2 T st2 f2 hg ht he hW ?_
 intro D' C s' H' m hn hCl hCc hCo hI q
 show wpAny _ X.A (assign (.Name y py) X.env (.ref D')) _ _ s'
 have I':Inv X pins σ H' s':=hI s'.heap (Heap.SameBut.refl _ _)
 refine wpAny_assign_Name (store_ok2 I' hN hi' hy (show RelV (.ref D') (.ref D') from rfl) (fun s'' I'' ⟨a,sb,ha⟩=>?_) hf)
 have hCa:C ≠ a:=by
  rcases ha with rfl|ha
  ·exact hCl
  ·exact fun z=>hCc _ _ ha z.symm
 refine ⟨m,hn.sameBut sb hCa,fun h' hs'=>⟨_,H',?_,q⟩⟩
 exact I''.turned (t':=s''.toks) (fun b o hb e=>(hs'.2 b hb).trans e) hCo.1 hCl (.inr hCo.2.1) hCc hCo.2.2
end
end L2
set_option Elab.async false
set_option linter.all false
set_option maxRecDepth 100000
set_option maxHeartbeats 4000000
namespace L2
open PySem PySem.Spec PyProof.Rows
def ExcAt (h:Heap) (e:Addr) (cls:Value) (d:Option Addr) (T:Addr):Prop:=
 ∃ oe vs oT ts,h.get? e=some oe∧oe.cls=cls∧oe.dict=d∧oe.data=.fields vs∧vs[1]? = some (.ref T)∧T ≠ e∧h.get? T=some oT∧oT.data=.fields ts∧ts[3]? = some .none∧vs[2]? = some .none
def CX1 (P:Program) (w:World):CXT:=fun outer H s E ev s'=>∃ e T cls d H',ev=.ref e∧s'.os=s.os∧AllBare s'.gens∧Un (frs outer) [] H H' s.heap s'.heap∧HOk P w H' s'.heap ∧
 s.heap.get? e=none∧s.heap.get? T=none∧H' e=none∧H' T=none∧ExcAt s'.heap e cls d T∧(∀ dx,d=some dx->∃ fs,H' dx=some (.xd fs))∧E cls d H'
theorem dict_mapF (f:Array Value->Array Value) (o:Obj):(Obj.mapFields f o).dict=o.dict:=by
 unfold Obj.mapFields;split<;>rfl
structure Noted (fs:List Addr) (e:Addr) (no:Addr->Prop) (h h':Heap):Prop where
 keep:∀ b o,b ≠ e->¬ no b->b ∉ fs->h.get? b=some o->h'.get? b=some o
 slot:∀ b o,b ≠ e->¬ no b->b∈fs->h.get? b=some o->∃ sl,h'.get? b=some { o with slots:=sl }
 size:h.objs.size≤h'.objs.size
section
variable {M:Model}{A:Around}{E:Value->Shared->Prop}{s:Shared}
theorem entry1 {base:Heap}{env:Env}{outer:List Env}{L e:Addr}{oe:Obj}{vs:Array Value}{head:Value}{hadNext:Bool}{Q:Unit->Shared->Prop}
  (hfr:A.frames=some (env::outer)) (hl:s.heap.FunFrames base (env::outer)) (hf:env.frame=some L) (he:s.heap.get? e=some oe) (hd:oe.data=.fields vs) (hsz:1 < vs.size) (h2c:vs[2]? = some .none)
  (hQ:∀ h',Noted (frs (env::outer)) e (fun _=>False) s.heap h'->(∃ T oe' vs' oT ts,s.heap.get? T=none∧h'.get? e=some oe'∧oe'.cls=oe.cls∧oe'.dict=oe.dict∧oe'.data=.fields vs'∧vs'[1]? = some (.ref T)∧T ≠ e∧h'.get? T=some oT∧oT.data=.fields ts∧ts[3]? = some (rawInt L)∧vs'[2]? = some .none)->Q () { s with heap:=h' }) :
  wpAny M A (do let a ←frameOf env;let pl ←entryPlaceOf L hadNext;let b ←EntryCells.newEntry head a .none (rawInt L) .none pl;setField (.ref e) 1 b) Q E s:=by
 have efr:e ∉ frs (env::outer):=fun z=>by
  obtain ⟨_,o,q1,q2⟩:=hl.mem z
  rw [he] at q1
  cases q1
  exact q2 vs hd
 refine wpAny_bind (wpAny_frameOf_fun hfr hl hf fun g1 sg=>?_)
 refine wpAny_bind (wpAny_entryPlaceOf fun pl ipl=>?_)
 unfold EntryCells.newEntry newFields
 refine wpAny_bind (wpAny_newObj_type ?_ (ipl.sizeOk5 _ _ _ _ _))
 have e1:g1.get? e=some oe:=(sg.2.1 e efr).trans he
 generalize hnew:({ cls:=.type "traceback",dict:=none,data:=.fields ([head,.ref L,.none,rawInt L,.none]++(if pl.isEmpty then List.replicate 6 Value.none else pl)).toArray }:Obj)=oN
 have dN:oN.data=.fields ([head,.ref L,.none,rawInt L,.none]++(if pl.isEmpty then List.replicate 6 Value.none else pl)).toArray:=by rw [←hnew]
 have e2:(g1.push oN).get? e=some oe:=Heap.get?_push_of_some _ e1
 refine wpAny_setField e2 hd hsz (hQ _ ?_ ?_)
 ·have other:∀ b o,b ≠ e->g1.get? b=some o->((g1.push oN).update e (Obj.mapFields (·.setIfInBounds 1 (Value.ref g1.objs.size)))).get? b=some o:=fun b o hb q=>by
   rw [Heap.get?_update_other _ _ (Ne.symm hb)]
   exact Heap.get?_push_of_some _ q
  refine ⟨fun b o hb _ hfs q=>other b o hb ((sg.2.1 b hfs).trans q),fun b o hb _ _ q=>?_,?_⟩
  ·obtain ⟨sl,q'⟩:=sg.2.2 b o q
   exact ⟨sl,other b _ hb q'⟩
  ·have z1:g1.objs.size=s.heap.objs.size:=sg.1
   have z2:=((Heap.SameBut.update (g1.push oN) e (Obj.mapFields (·.setIfInBounds 1 (Value.ref g1.objs.size))))).1
   rw [z2,Heap.size_push]
   omega
 ·have ne:g1.objs.size ≠ e:=Nat.ne_of_gt (Heap.lt_size e1)
  have d3:=Obj.data_mapFields hd (·.setIfInBounds 1 (Value.ref g1.objs.size))
  refine ⟨g1.objs.size,_,_,oN,_,?_,Heap.get?_update_self _ e2 (Obj.isFreed_of_fields d3),Obj.cls_mapFields _ _,dict_mapF _ _,d3,by simp [hsz],ne,?_,dN,by simp,by rw [Array.getElem?_setIfInBounds_ne (by decide)];exact h2c⟩
  ·have z1:g1.objs.size=s.heap.objs.size:=sg.1
   rw [z1]
   exact Heap.get?_none_of_le (Nat.le_refl _)
  ·rw [Heap.get?_update_other _ _ (Ne.symm ne)]
   exact Heap.get?_push_size _ (Obj.isFreed_of_fields dN)
theorem flight0 {e T:Addr}{oe oT:Obj}{vs ts:Array Value}{Q:Unit->Shared->Prop}(he:s.heap.get? e=some oe) (hd:oe.data=.fields vs) (h1:vs[1]? = some (.ref T)) (hT:s.heap.get? T=some oT) (hdT:oT.data=.fields ts) (h3:3 < ts.size) (ne:T ≠ e) (h2c:vs[2]? = some .none)
  (hQ:∀ h',(∀ b,b ≠ T->h'.get? b=s.heap.get? b)->h'.objs.size=s.heap.objs.size->ExcAt h' e oe.cls oe.dict T->Q () { s with heap:=h' }):wpAny M A (setFlight (.ref e) none) Q E s:=by
 unfold setFlight
 refine wpAny_bind (wpAny_field he hd h1 ?_)
 rw [if_pos (show (Value.ref T != Value.none)=true from by simp)]
 have sb:=Heap.SameBut.update s.heap T (Obj.mapFields (·.setIfInBounds 3 ((none:Option Addr).elim Value.none fun f=>rawInt f)))
 refine wpAny_setField hT hdT h3 (hQ _ sb.2 sb.1 ?_)
 have d3:=Obj.data_mapFields hdT (·.setIfInBounds 3 ((none:Option Addr).elim Value.none fun f=>rawInt f))
 exact ⟨oe,vs,_,_,(sb.2 e (Ne.symm ne)).trans he,rfl,rfl,hd,h1,ne,Heap.get?_update_self _ hT (Obj.isFreed_of_fields d3),d3,by simp [h3],h2c⟩
theorem note_new {base:Heap}{env:Env}{outer:List Env}{L e:Addr}{oe:Obj}{vs:Array Value}{Q:Unit->Shared->Prop}
  (hfr:A.frames=some (env::outer)) (hl:s.heap.FunFrames base (env::outer)) (hf:env.frame=some L) (he:s.heap.get? e=some oe) (hd:oe.data=.fields vs) (h1:vs[1]? = some .none) (h2c:vs[2]? = some .none)
  (hQ:∀ h' T,Noted (frs (env::outer)) e (fun _=>False) s.heap h'->s.heap.get? T=none->ExcAt h' e oe.cls oe.dict T->Q () { s with heap:=h' }) :
  wpAny M A (noteFrame (.ref e) env) (fun _ s2=>wpAny M A (setFlight (.ref e) none) Q E s2) E s:=by
 unfold noteFrame
 simp only [hf]
 refine wpAny_bind (wpAny_field he hd h1 ?_)
 rw [if_neg (by decide)]
 refine entry1 hfr hl hf he hd (Array.getElem?_eq_some_iff.mp h1).1 h2c fun g ng hx=>?_
 obtain ⟨T,oe',vs',oT,ts,nT,q1,q2,q2d,q3,q4,ne,q5,q6,q7,q8⟩:=hx
 refine flight0 (s:={ s with heap:=g }) q1 q3 q4 q5 q6 (Array.getElem?_eq_some_iff.mp q7).1 ne q8 fun g' sb sz ex=>?_
 rw [q2,q2d] at ex
 have lt:∀ b o,s.heap.get? b=some o->b ≠ T:=fun b o q z=>by rw [z,nT] at q;cases q
 exact hQ g' T ⟨fun b o hb hn hfs q=>(sb b (lt b o q)).trans (ng.keep b o hb hn hfs q),fun b o hb hn hfs q=>by
  obtain ⟨sl,q'⟩:=ng.slot b o hb hn hfs q
  exact ⟨sl,(sb b (lt b o q)).trans q'⟩,Nat.le_trans ng.size (Nat.le_of_eq sz.symm)⟩ nT ex
theorem note_next {base:Heap}{env:Env}{outer:List Env}{L e T:Addr}{cls:Value}{dd:Option Addr}{Q:Unit->Shared->Prop}
  (hfr:A.frames=some (env::outer)) (hl:s.heap.FunFrames base (env::outer)) (hf:env.frame=some L) (hx:ExcAt s.heap e cls dd T) (hfe:e ∉ frs (env::outer)) (hfT:T ∉ frs (env::outer)) (hb:base.get? T=none)
  (hQ:∀ h' T',Noted (frs (env::outer)) e (fun b=>b=T) s.heap h'->s.heap.get? T'=none->ExcAt h' e cls dd T'->Q () { s with heap:=h' }) :
  wpAny M A (noteFrame (.ref e) env) (fun _ s2=>wpAny M A (setFlight (.ref e) none) Q E s2) E s:=by
 obtain ⟨oe,vs,oT,ts,he,rfl,rfl,hd,h1,ne,hT,hdT,h3,h2c⟩:=hx
 unfold noteFrame
 simp only [hf]
 refine wpAny_bind (wpAny_field he hd h1 ?_)
 rw [if_pos (show (Value.ref T != Value.none)=true from by simp)]
 refine wpAny_bind (wpAny_field hT hdT h3 ?_)
 rw [if_neg (show ¬ ((Value.none == rawInt L)=true) from by simp [rawInt])]
 have sb0:=Heap.SameBut.update s.heap T (Obj.mapFields (·.setIfInBounds 3 Value.none))
 refine wpAny_bind (wpAny_setField hT hdT (Array.getElem?_eq_some_iff.mp h3).1 ?_)
 generalize hg0:s.heap.update T (Obj.mapFields (·.setIfInBounds 3 Value.none))=g0 at sb0
 have fl:g0.FunFrames base (env::outer):=hl.of_keeps fun b o q hnf=>⟨o,(sb0.2 b (fun z=>by rw [z,hT] at q;cases q;exact hnf ts hdT)).trans q,rfl⟩
 have he0:g0.get? e=some oe:=(sb0.2 e (Ne.symm ne)).trans he
 refine entry1 (s:={ s with heap:=g0 }) hfr fl hf he0 hd (Array.getElem?_eq_some_iff.mp h1).1 h2c fun g ng hx=>?_
 obtain ⟨T',oe',vs',oT',ts',nT,q1,q2,q2d,q3,q4,ne',q5,q6,q7,q8⟩:=hx
 refine flight0 (s:={ s with heap:=g }) q1 q3 q4 q5 q6 (Array.getElem?_eq_some_iff.mp q7).1 ne' q8 fun g' sb sz ex=>?_
 rw [q2,q2d] at ex
 have tT:T ≠ T':=fun z=>by
  subst z
  have:=Heap.get?_update_self (Obj.mapFields (·.setIfInBounds 3 Value.none)) hT (Obj.isFreed_of_fields (Obj.data_mapFields hdT _))
  rw [hg0] at this
  have nT':g0.get? T=none:=nT
  rw [this] at nT'
  cases nT'
 have nT0:s.heap.get? T'=none:=(sb0.2 T' (Ne.symm tT)).symm.trans nT
 have lt:∀ b o,s.heap.get? b=some o->b ≠ T':=fun b o q z=>by rw [z,nT0] at q;cases q
 exact hQ g' T' ⟨fun b o hb hn hfs q=>(sb b (lt b o q)).trans (ng.keep b o hb (fun z=>z) hfs ((sb0.2 b hn).trans q)),fun b o hb hn hfs q=>by
  obtain ⟨sl,q'⟩:=ng.slot b o hb (fun z=>z) hfs ((sb0.2 b hn).trans q)
  exact ⟨sl,(sb b (lt b o q)).trans q'⟩,Nat.le_trans (Nat.le_of_eq sb0.1.symm) (Nat.le_trans ng.size (Nat.le_of_eq sz.symm))⟩ nT0 ex
end
theorem HOk.noted {P:Program}{w:World}{H:Hp}{h h':Heap}{fs:List Addr}{e:Addr}{no:Addr->Prop}(ok:HOk P w H h) (n:Noted fs e no h h') (he:H e=none) (hn:∀ b,no b->H b=none) (hf:∀ b∈fs,H b=none):HOk P w H h':=fun b ob q=>by
 refine (ok b ob q).stay (fun c v hc r=>n.keep c v ?_ ?_ ?_ r) (fun _ z=>z) fun _ _ z=>z
 all_goals
  rcases hc with z|z
  all_goals intro k
 ·rw [←z,k,he] at q;cases q
 ·rw [k,he] at z;cases z
 ·rw [←z,hn _ k] at q;cases q
 ·rw [hn _ k] at z;cases z
 ·rw [←z,hf _ k] at q;cases q
 ·rw [hf _ k] at z;cases z
theorem Un.noted {fs fs':List Addr}{H H':Hp}{h h1 h2:Heap}{e:Addr}{no:Addr->Prop}(u:Un fs [] H H' h h1) (n:Noted fs' e no h1 h2) (he:h.get? e=none) (hn:∀ b,no b->h.get? b=none) (hs:∀ b∈fs',b∈fs∨h.get? b=none):Un fs [] H H' h h2:=by
 have ne:∀ b o,h.get? b=some o->b ≠ e∧¬ no b:=fun b o q=>⟨fun z=>(by rw [z,he] at q;cases q),fun z=>(by rw [hn b z] at q;cases q)⟩
 have nf:∀ b o,h.get? b=some o->b ∉ fs->b ∉ fs':=fun b o q hb z=>by
  rcases hs b z with k|k
  ·exact hb k
  ·rw [k] at q;cases q
 refine ⟨fun b o q a hb hx=>n.keep b o (ne b o q).1 (ne b o q).2 (nf b o q hb) (u.keep b o q a hb hx),fun b o q a hb hx=>?_,u.free,fun b o q hx=>?_,u.tups,u.frzs,u.tbls⟩
 ·obtain ⟨sl,r⟩:=u.slot b o q a hb hx
  by_cases hb':b∈fs'
  ·obtain ⟨sl',r'⟩:=n.slot b _ (ne b o q).1 (ne b o q).2 hb' r
   exact ⟨sl',r'⟩
  ·exact ⟨sl,n.keep b _ (ne b o q).1 (ne b o q).2 hb' r⟩
 ·obtain ⟨o',r⟩:=u.there b o q hx
  by_cases hb':b∈fs'
  ·obtain ⟨sl',r'⟩:=n.slot b _ (ne b o q).1 (ne b o q).2 hb' r
   exact ⟨_,r'⟩
  ·exact ⟨_,n.keep b _ (ne b o q).1 (ne b o q).2 hb' r⟩
def PassAt (CX:CXT) (X:Cx) (E:XK) (σ:St):Prop:=∀ (pins:List (Addr × Obj)) (H:Hp) (s:Shared) (e:Value) (s':Shared),Inv X pins σ H s->CX X.stack H s E e s'->X.xe e s'
def RaisesAt (X:Cx) (E:XK) (σ:St):Prop:=∀ (pins:List (Addr × Obj)) (H:Hp) (s:Shared) (h':Heap) (e:Addr) (C:Addr) (us:List Value),Inv X pins σ H s->Heap.MadeExcOf s.heap h' e (.ref C) us->E (.ref C) none H->X.xe (.ref e) { s with heap:=h' }
theorem ObjOk.there {P:Program}{w:World}{H:Hp}{h:Heap}{a:Addr}{o:HO}(x:ObjOk P w H h a o):∃ ob,h.get? a=some ob:=by
 cases o with
 | lst xs=>obtain ⟨_,_,_,_,e⟩:=x;exact ⟨_,e⟩
 | tup xs=>obtain ⟨_,_,_,ob,e,_⟩:=x;exact ⟨ob,e⟩
 | dK kvs=>obtain ⟨_,_,_,_,ob,_,_,e,_⟩:=x;exact ⟨ob,e⟩
 | dT kvs=>obtain ⟨_,_,_,_,ob,_,_,e,_⟩:=x;exact ⟨ob,e⟩
 | set S n=>obtain ⟨ob,_,_,_,e,_⟩:=x;exact ⟨ob,e⟩
 | ins C dx fs=>obtain ⟨_,_,_,e,_⟩:=x;exact ⟨_,e⟩
 | own y=>exact x
 | xd fs=>obtain ⟨_,⟨ob,_,_,e,_⟩,_⟩:=x;exact ⟨ob,e⟩
 | rng lo hi=>obtain ⟨_,_,_,e⟩:=x;exact ⟨_,e⟩
 | frz ob u=>exact ⟨_,x.1⟩
 | tbl ps=>exact ⟨_,x⟩
 | met f y=>exact ⟨_,x⟩
 | ext φ=>exact x.2.1
theorem HOk.gone {P:Program}{w:World}{H:Hp}{h:Heap}{a:Addr}(ok:HOk P w H h) (e:h.get? a=none):H a=none:=by
 cases q:H a with
 | none=>rfl
 | some o=>
  obtain ⟨ob,z⟩:=(ok a o q).there
  rw [e] at z;cases z
theorem Un.gone {fs:List Addr}{H H':Hp}{h h1:Heap}{a:Addr}(u:Un fs [] H H' h h1) (e:h1.get? a=none):h.get? a=none:=by
 cases q:h.get? a with
 | none=>rfl
 | some o=>
  obtain ⟨o',z⟩:=u.there a o q (by simp)
  rw [e] at z;cases z
theorem raises_def {P:Program}{w:World}{K:PySem.W.Frag}{mg:Str->Option Value}{base:Heap}{N:List Str}{qual:Str}{scope:Scope}{f:Addr}{cd:Value}{A:Around}{outer:List Env}{s₀:Shared}{H₀:Hp}{E:XK}{σ:St} :
  RaisesAt (cxOf (CX1 P w) P w K mg base N qual scope f cd A outer s₀ H₀ E) E σ:=by
 intro pins H s h' e C us I hm hE
 obtain ⟨t,he,_,_⟩:=hm.there
 show wpAny (model P w) (A.deeper (envOfC qual scope s₀.heap.objs.size f cd)) (leaving (envOfC qual scope s₀.heap.objs.size f cd) (.ref e)) _ _ _
 unfold leaving
 have un:Un (frs outer) [] H₀ H s₀.heap s.heap:=I.base
 have fl:h'.FunFrames base (envOfC qual scope s₀.heap.objs.size f cd::outer):=I.stack.of_keeps fun b o q _=>⟨o,hm.keeps b o q,rfl⟩
 refine wpAny_bind (note_new (s:={ s with heap:=h' }) (base:=base) (outer:=outer) I.ok.frames fl rfl he rfl rfl rfl fun g T ng nT ex=>?_)
 have nT':s.heap.get? T=none:=by
  cases q:s.heap.get? T with
  | none=>rfl
  | some o=>
   have z:=hm.keeps T o q
   have nT2:h'.get? T=none:=nT
   rw [nT2] at z;cases z
 have u2:Un (frs outer) [] H₀ H s₀.heap h':=un.trans (Un.kept hm.keeps)
 refine ⟨e,T,.ref C,none,H,rfl,I.os,I.bare,u2.noted ng (un.gone hm.new) (fun _ z=>z.elim) (fun b hb=>?_),(I.hok.kept hm.keeps).noted ng (I.hok.gone hm.new) (fun _ z=>z.elim) I.stkFree,un.gone hm.new,un.gone nT',I.hok.gone hm.new,I.hok.gone nT',ex,(fun _ z=>nomatch z),hE⟩
 rcases List.mem_cons.mp (I.stkSub b hb) with z|z
 ·exact .inr (by rw [z];exact Heap.get?_none_of_le (Nat.le_refl _))
 ·exact .inl z
theorem passes_def {P:Program}{w:World}{K:PySem.W.Frag}{mg:Str->Option Value}{base:Heap}{N:List Str}{qual:Str}{scope:Scope}{f:Addr}{cd:Value}{A:Around}{outer:List Env}{s₀:Shared}{H₀:Hp}{E:XK} :
  Passes (CX1 P w) (cxOf (CX1 P w) P w K mg base N qual scope f cd A outer s₀ H₀ E) E:=by
 intro pins σ H s ev s' I hc
 obtain ⟨e,T,cls,dd,H',rfl,os,bare,un1,hok,ne,nT,He,HT,ex,hxd,hE⟩:=hc
 show wpAny (model P w) (A.deeper (envOfC qual scope s₀.heap.objs.size f cd)) (leaving (envOfC qual scope s₀.heap.objs.size f cd) (.ref e)) _ _ _
 unfold leaving
 have I2:Inv _ pins σ H' s':=I.call' (ch:=[]) os un1 hok bare (fun b z=>absurd z (by simp))
 have nf:∀ b,s.heap.get? b=none->b ∉ frs (envOfC qual scope s₀.heap.objs.size f cd::outer):=fun b hb z=>by
  obtain ⟨_,o,q,_⟩:=I.stack.mem z
  rw [hb] at q;cases q
 have nb:base.get? T=none:=by
  cases q:base.get? T with
  | none=>rfl
  | some o=>
   have:=I.bk T o q
   rw [nT] at this;cases this
 have fl:s'.heap.FunFrames base (envOfC qual scope s₀.heap.objs.size f cd::outer):=I2.stack
 refine wpAny_bind (note_next (base:=base) (outer:=outer) I.ok.frames fl rfl ex (nf e ne) (nf T nT) nb fun g T' ng nT' ex'=>?_)
 have un0:Un (frs outer) [] H₀ H s₀.heap s.heap:=I.base
 have un2:Un (frs outer) [] H₀ H' s₀.heap s'.heap:=I2.base
 refine ⟨e,T',cls,dd,H',rfl,I2.os,bare,un2.noted ng (un0.gone ne) (fun b z=>by rw [z];exact un0.gone nT) (fun b hb=>?_),hok.noted ng He (fun b z=>by rw [z];exact HT) I2.stkFree,un0.gone ne,un2.gone nT',He,hok.gone nT',ex',hxd,hE⟩
 rcases List.mem_cons.mp (I.stkSub b hb) with z|z
 ·exact .inr (by rw [z];exact Heap.get?_none_of_le (Nat.le_refl _))
 ·exact .inl z
section
variable {X:Cx}
def tCallX (sp:Sp) (dvs:List V) (E:St->XK) (t:TA):TE:=fun σ H Q=>t σ H fun vs H1=>sp (vs++dvs) H1 Q (E σ)
theorem pe_callX {CX:CXT}{k:Nat}{f:Addr}{fd:FuncData}{ps:List Str}{sp:Sp}{ds:List Value}{dvs:List V}{E:St->XK}{x:Str}{e:Expr}{es:List Expr}{t:TA}{p pos:Pos}
  (F:FnOk X.prog X.w X.K X.mg X.base CX k f fd ps sp) (hr:Room k X.A) (hg:Gl X x) (hm:X.mg x=some (.ref f)) (hk:PySem.W.keepIn X.K (.ref f)=true) (hb:Binds X.K fd ps ds) (hd:Vals dvs ds) (hx:∀ σ,PassAt CX X (E σ) σ)
  (ha:PA X (e::es) t) (hdb:(x == ("__debug__":Str))=false:=by decide) (he:starEach (e::es) X.env=(false,eval e X.env)::starEach es X.env:=by rfl) (hpl:(backTo pos (starEach es X.env)).any (·.1)=false:=by rfl) :
  PE X (.Call (.Name x p) (e::es) [] pos) (tCallX sp dvs E t):=by
 intro pins s σ H Q I h
 refine wpAny_Call_Name_kw (ld_glob I hg hm ?_ hdb)
 refine PySem.W.callWith_K (h₀:=X.base) I.ok.mod.kin hk (thn (ha pos pins s σ H _ I h) fun us s1 ⟨vs,H1,I1,r,q⟩=>⟨I1.kIn,?_⟩) he hpl
 have r2:Vals (vs++dvs) (us++ds):=r.append hd
 have hl:(us++ds).length=ps.length:=by rw [←r2.length];exact F.len _ _ _ _ q
 refine wpAny_call (codeAny_mono (F.run X.A X.stack s1 H1 ⟨us,[]⟩ (us++ds) (vs++dvs) Q (E σ) hr I1.env0 (hb s1 us I1.kIn hl) r2 q) fun rr s' hq=>?_)
 cases rr with
 | error ev=>exact hx σ pins H1 s1 ev s' I1 hq
 | ok fl=>
  cases fl with
  | ret u=>exact I1.after hq
  | next=>exact False.elim hq
  | brk=>exact False.elim hq
  | cont=>exact False.elim hq
set_option genInjectivity false in
structure ClsD where
 nm:Str
 q:Str
 N:Addr
 bs:List Value
 bm:List Value
 hdct:Bool
 sn:List Str
 sub:List Value
 ab:Bool
 col:Option Bool
 dd:Option Addr
 k0:Option Value
 k1:Option Value
 k2:Option Value
 k3:Option Value
 k5:Option Value
def ownIn0 (K:PySem.W.Frag) (C:Addr) (z:Option Value) (bmB:List Value) (newId:String):Bool:=match K.lookup C with
 | some ⟨.type "type",_,.cls dat,slt⟩=>(match dat.mro,slt.toList with
  | .ref C'::up,[_,_,_,_,some (.builtin n),_]=>C' == C && n == newId && !dat.hasDel && PySem.W.tailIn K bmB up && PySem.W.nsOkIn K dat.ns && PySem.W.nsIn K dat.ns "__init__" == some z
  | _,_=>false)
 | _=>false
theorem cls_op {K:PySem.W.Frag}{C:Addr}{z:Option Value}(q0:ownIn0 K C z [.type "ValueError",.type "Exception",.type "BaseException",.type "object"] "ValueError.__new__"=true) :
  ∃ c:ClsD,K.lookup C=some (excClassObj c.nm c.q C c.N c.bs c.bm c.hdct c.sn c.sub c.ab c.col c.dd c.k0 c.k1 c.k2 c.k3 c.k5 "ValueError.__new__")∧PySem.W.tailIn K [.type "ValueError",.type "Exception",.type "BaseException",.type "object"] c.bm=true∧PySem.W.nsOkIn K c.N=true∧PySem.W.nsIn K c.N "__init__"=some z:=by
 unfold ownIn0 at q0
 split at q0
 ·rename_i dd0 cdat slots0 look0
  split at q0
  ·rename_i Cx0 tl0 g0 g1 g2 g3 nw g5 em es0
   simp only [Bool.and_eq_true,beq_iff_eq,Bool.not_eq_true'] at q0<;>skip
   obtain ⟨⟨⟨⟨⟨rfl,rfl⟩,ndel⟩,tok⟩,nok⟩,noi⟩:=q0
   obtain ⟨c1,c2,c3,c4,c5,c6,c7,c8,c9,c10,c11⟩:=cdat
   dsimp only at em ndel nok noi
   subst em ndel
   obtain ⟨lst0⟩:=slots0
   have es1:lst0=[g0,g1,g2,g3,some (.builtin "ValueError.__new__"),g5]:=es0
   subst es1
   exact ⟨⟨c1,c5,c4,c2,tl0,c6,c7,c8,c9,c10,dd0,g0,g1,g2,g3,g5⟩,look0,tok,nok,noi⟩
  ·cases q0
 ·cases q0
structure OwnE (K:PySem.W.Frag) (C:Addr):Prop where
 ex:PySem.W.excIn K C [.type "ValueError",.type "Exception",.type "BaseException",.type "object"] "ValueError.__new__"=true
def tRaise (C:Addr) (E:St->XK) (t:TA):TS:=fun _ σ H=>t σ H fun vs H1=>vs.length≤sizeLine∧E σ (.ref C) none H1
theorem ps_raise {C:Addr}{x:Str}{e₀:Expr}{rest:List Expr}{np cpos pos:Pos}{t:TA}{E:St->XK}(hc:X.calm=true) (hg:Gl X x) (hmg:X.mg x=some (.ref C)) (O:OwnE X.K C) (hx:∀ σ,RaisesAt X (E σ) σ) (ha:PA X (e₀::rest) t)
  (he:starEach (e₀::rest) X.env=(false,eval e₀ X.env)::starEach rest X.env:=by rfl) (hplain:(backTo cpos (starEach rest X.env)).any (·.1)=false:=by rfl) (hdb:(x == ("__debug__":Str))=false:=by decide) :
  PS X (.Raise (some (.Call (.Name x np) (e₀::rest) [] cpos)) none pos) (tRaise C E t):=by
 intro pins s σ H D I h
 obtain ⟨c,look0,tok,nok,noi⟩:=cls_op (z:=none) O.ex
 have nsb:X.base.Ns c.N (X.base.nsMap c.N):=.of_isNs (PySem.W.isNs_of_in I.mod.kin nok)
 refine PySem.wpAny_Raise_call_subU (C:=C) (nm:=c.nm) (q:=c.q) (N:=c.N) (bs:=c.bs) (bm:=c.bm) (hdct:=c.hdct) (sn:=c.sn) (sub:=c.sub) (ab:=c.ab) (col:=c.col) (dd:=c.dd) (k0:=c.k0) (k1:=c.k1) (k2:=c.k2) (k3:=c.k3) (k5:=c.k5)
  PySem.F.excBase_ValueError (by decide +kernel) PySem.F.excBase_ValueError (mN:=X.base.nsMap c.N) ((PySem.W.tail_of_in I.kIn tok).hasType (by decide +kernel)) (I.ok.hd hc) (by rw [he];exact (Bool.false_or _).trans hplain) (PySem.W.nsMap_none_of_in I.mod.kin nok noi) (ld_glob I hg hmg ⟨rfl,?_⟩ hdb)
 have hh:=ha cpos pins s σ H _ I h
 rw [he] at hh ⊢
 exact Calls.evalArgs_plain (thn hh fun us s2 ⟨vs,H2,I2,r,hl,hE⟩=>⟨rfl,by rw [←r.length];exact hl,I2.kIn _ _ look0,nsb.keeps I2.bk,PySem.W.tail_of_in I2.kIn tok,fun h' e hm=>hx σ pins H2 s2 h' e C us I2 hm hE⟩)
abbrev Cx.mark (X:Cx) (e:Addr):Cx:={ X with A:=X.A.mark (some (.ref e)),calm:=false,xe:=fun _ _=>False }
theorem Inv.mark {pins:List (Addr × Obj)}{σ:St}{H:Hp}{s:Shared}(I:Inv X pins σ H s) (e:Addr):Inv (X.mark e) pins σ H s:=
 ⟨⟨I.ok.mod,I.ok.kind,I.ok.glob,I.ok.blt,I.ok.above,I.ok.inj,I.ok.has,I.ok.cab,(fun z=>by cases z),I.ok.frames,I.ok.stk,I.ok.exf,I.ok.bs,I.ok.bsz,I.ok.noex,I.ok.exfs,I.ok.funs,I.ok.frf⟩,I.os,I.bare,I.base,I.loc,I.cell,I.free,I.freeC,I.pin,I.hok,I.len⟩
theorem Inv.unmark {pins:List (Addr × Obj)}{σ:St}{H:Hp}{s:Shared}{e:Addr}(ok:X.Ok) (I:Inv (X.mark e) pins σ H s):Inv X pins σ H s:=
 ⟨ok,I.os,I.bare,I.base,I.loc,I.cell,I.free,I.freeC,I.pin,I.hok,I.len⟩
end
end L2
set_option Elab.async false
set_option linter.all false
set_option maxRecDepth 100000
set_option maxHeartbeats 4000000
namespace L2
open PySem PySem.Spec PyProof.Rows
structure FunX (K:PySem.W.Frag) (x qual:Str) (st:Stmt) (f:Addr) (fd:FuncData):Prop where
 ex:∃ (oc:Value) (od:Option Addr) (dV kV doc pm:Value) (an:Option Addr) (cdv ct:Value) (osl:Array (Option Value)),
  fd=PySem.W.fnOf x qual (defArgs st) (defBody st) (defScope st) dV kV doc pm an cdv ct∧K.lookup f=some ⟨oc,od,.func fd,osl⟩∧PySem.W.codeIn K cdv qual=true
 kp:PySem.W.keepIn K (.ref f)=true
section
variable {P:Program}{w:World}{K:PySem.W.Frag}{mg:Str->Option Value}{base:Heap}
theorem FunX.ok {CX:CXT}{x qual:Str}{st:Stmt}{f:Addr}{fd:FuncData}{N ps:List Str}{k:Nat}{sp:Sp}(F:FunX K x qual st f fd) (S:FnScope N ps (defScope st)) (len:∀ vs H Q E,sp vs H Q E->vs.length=ps.length)
  (hbody:∀ (cdv:Value) (A:Around) (outer:List Env) (s:Shared) (H:Hp) (vs:List V) (Q:VK) (E:XK),Room k (A.deeper (envOfC qual (defScope st) s.heap.objs.size f cdv))->sp vs H Q E →
   ∃ t,PSs (cxOf CX P w K mg base N qual (defScope st) f cdv A outer s H E) (defBody st) t∧t { nx:=fun _ H'=>Q .non H',rt:=Q } (start N vs) H):FnOk P w K mg base CX (k+1) f fd ps sp:=by
 obtain ⟨oc,od,dV,kV,doc,pm,an,cdv,ct,osl,rfl,lk,hcd⟩:=F.ex
 exact fn_of lk hcd S len fun A outer s H vs Q E hr hsp=>hbody cdv A outer s H vs Q E hr hsp
end
end L2
set_option Elab.async false
set_option linter.all false
set_option maxRecDepth 100000
set_option maxHeartbeats 4000000
namespace L2
open PySem PySem.Spec PyProof.Rows PySem.W
structure ECls (K:PySem.W.Frag) (C:Addr):Prop where
 ga:PySem.W.findIn K (.ref C) "__getattribute__"=some (some (.builtin "BaseException.__getattribute__"))
 no:PySem.W.findIn K (.ref C) "__getattr__"=some none
 mb:PySem.W.mroIn K C (.type "BaseException")=some true
 mo:PySem.W.mroIn K C (.type "object")=some true
 cl:PySem.W.findIn K (.ref C) "__class__"=some (some (.builtin "object.__class__"))
 sp:PySem.W.specialIn K (.builtin "object.__class__") "__get__"=some (some (.builtin "getset_descriptor.__get__"))
 tk:PySem.W.takesIn K (.builtin "object.__class__")=some true
 hd:PySem.W.hasDictIn K C=true
section
variable {prog:Program}{w:World}{A:Around}{E:Value->Shared->Prop}{s:Shared}{K:PySem.W.Frag}{x C:Addr}{ox:Obj}{od:Option Obj}{name:Str}
theorem exc_check {M:Model}{nameV:Value}{Q:Unit->Shared->Prop}(c:ECls K C) (X:K.In s.heap) (I:InstAt s.heap x ox C od) (hq:Q () s):wpAny M A (checkBuiltinCall "BaseException.__getattribute__" ⟨[.ref x,nameV],[]⟩) Q E s:=by
 have hk:builtinKind "BaseException.__getattribute__"=some .slot:=by decide +kernel
 have hsplit:splitId "BaseException.__getattribute__"=some ("BaseException", "__getattribute__"):=by decide +kernel
 have ha:=F.args_bexc_ga (.ref x) nameV
 have L0:=I.type (M:=M)
 have L1:=looks_mroIn (M:=M) X c.mb
 obtain ⟨hh,g,d,t,os⟩:=s
 simp only [checkBuiltinCall,hk,hsplit]
 have LI:Looks M hh (isInstance (.ref x) (.type "BaseException")) true:=L0.andThen L1
 refine wpAny_bind (LI.at ?_)
 first|exact hq|exact wpAny_pure hq|(simp only [Bool.not_true,Bool.false_eq_true,if_false];exact hq)
def FinP (M:Model) (A:Around) (P:Value->Shared->Prop) (fin:PySem.Fin) (s:Shared):Prop:=match fin with
 | .done (.ret v)=>P v s
 | .again c=>c.quiet=true∧codeAny M A c (fun r s'=>match r with | .ok (.ret v)=>P v s'|_=>False) s
 | _=>False
theorem exc_get? {Q:Option Value->Shared->Prop}(c:ECls K C) (X:K.In s.heap) (I:InstAt s.heap x ox C od)
  (h:∀ A':Around,wpAny (model prog w) A' (Builtin.«object.__getattribute__» ⟨[.ref x,.str name s.toks],[]⟩) (FinP (model prog w) A fun v s'=>wpAny (model prog w) A (handedOut v) (fun v s''=>Q (some v) s'') (fun _ _=>False) s') (fun _ _=>False) { s with toks:=s.toks+1 }) :
  wpAny (model prog w) A (getAttr? (.ref x) name) Q E s:=by
 obtain ⟨hh,g,d,t,os⟩:=s
 have L0:=I.type (M:=model prog w)
 have L1:=looks_findIn (M:=model prog w) X c.ga
 have L2:=looks_findIn (M:=model prog w) X c.no
 unfold getAttr? getAttrBy? getAttrBy
 refine wpAny_bind (wpAny_mkText (wpAny_bind (wpAny_attempt (wpAny_holding (wpAny_bind (L0.at (wpAny_bind (L1.at ?_))))))))
 show wpAny _ _ (getAttrByItsOwn _ _ _ _ _ _) _ _ _
 unfold getAttrByItsOwn
 show wpAny _ _ (do let before ←typeLookup (.ref C) "__getattr__";_) _ _ _
 refine wpAny_bind (L2.at (wpAny_bind (wpAny_attempt (wpAny_holding ?_))))
 unfold callGetattribute
 rw [if_neg (by simp)]
 unfold boundAndCalled
 rw [F.attr_ValueError.ga.bind (.ref x)]
 refine wpAny_bind (wpAny_pure (wpAny_call (codeAny_call_builtin F.attr_ValueError.ga.plain F.entry_bexc_ga (exc_check c X I ?_))))
 have fin1:∀ v s',wpAny (model prog w) A (handedOut v) (fun v s''=>Q (some v) s'') (fun _ _=>False) s'->wpAny (model prog w) A (handedOut v) (fun a s'=>wpAny (model prog w) A (pure (some a)) Q E s') (fun e s'=>wpAny (model prog w) A (do if ←isInstance e (.type "AttributeError") then pure none else throw e) Q E s') s':=fun v s' z=>wpAny_mono z (fun _ _ q=>wpAny_pure q) fun _ _ q=>q.elim
 refine wpAny_mono (h _) (fun fin s' z=>?_) fun _ _ z=>z.elim
 cases fin with
 | done f=>cases f with
  | ret v=>exact fin1 v s' z
  | _=>exact z.elim
 | again c'=>
  obtain ⟨z1,z2⟩:=z
  refine ⟨z1,codeAny_mono z2 fun r s'' q=>?_⟩
  cases r with
  | error e=>exact q.elim
  | ok f=>cases f with
   | ret v=>exact fin1 v s'' q
   | _=>exact q.elim
theorem findObj_data' {a g:Value}(hc:(clsIn K C).isSome=true) (ha:findIn K (.ref C) name=some (some a)) (hg:specialIn K a "__get__"=some (some g)) (ht:takesIn K a=some true):findObj K C od name=some (.bind g a):=by
 obtain ⟨cd,hc⟩:=Option.isSome_iff_exists.mp hc
 unfold findObj
 rw [hc,Option.bind_some,ha,Option.bind_some]
 simp [hg,ht]
theorem ECls.some (c:ECls K C):(clsIn K C).isSome=true:=by
 obtain ⟨cd,hc,_⟩:=any_some c.hd
 rw [hc];rfl
theorem exc_class {Q:Option Value->Shared->Prop}(c:ECls K C) (X:K.In s.heap) (I:InstAt s.heap x ox C od) (hq:Q (some (.ref C)) { s with toks:=s.toks+1 }):wpAny (model prog w) A (getAttr? (.ref x) "__class__") Q E s:=by
 have hf:findObj K C od "__class__"=some (.bind (.builtin "getset_descriptor.__get__") (.builtin "object.__class__")):=findObj_data' c.some c.cl c.sp c.tk
 refine exc_get? c X I fun A'=>?_
 have L0:=I.type (M:=model prog w)
 have L1:=looks_find (M:=model prog w) X I hf
 have cg:∀ {A:Around} {R:Result->Shared->Prop},R (.ok (.ret (.ref C))) { s with toks:=s.toks+1 }->codeAny (model prog w) A (.call (.builtin "getset_descriptor.__get__") ⟨[.builtin "object.__class__",.ref x,.ref C],[]⟩) R { s with toks:=s.toks+1 }:=fun h=>class_get (s:={ s with toks:=s.toks+1 }) (ox:=ox) (od:=od) X I c.mo h
 obtain ⟨hh,gg,d,t,os⟩:=s
 refine wpAny_bind (wpAny_pure (wpAny_bind (wpAny_pure (wpAny_bind (L0.at (wpAny_bind (L1.at ?_)))))))
 show wpAny _ _ (do ret (←holding [.builtin "object.__class__"] (call (.builtin "getset_descriptor.__get__") [.builtin "object.__class__",.ref x,.ref C]))) _ _ _
 exact wpAny_bind (wpAny_holding (wpAny_call (cg (wpAny_pure (show FinP _ _ _ (.done (.ret (.ref C))) _ from handed_on rfl hq)))))
theorem kitx_exc (c:ECls K C):KitX K (.ref x) (.ref C) (fun h=>InstAt h x ox C od) where
 ty:=fun _ _ _ I=>I.type
 it:=fun _ _ X _=>by
  obtain ⟨cdD,hcD,_⟩:=any_some c.hd
  unfold clsIn at hcD
  split at hcD
  ·rename_i c' d' cd' sl' ho
   intro A' Q' E' s' k q
   unfold isType loadHead
   exact wpAny_bind (wpAny_loadPart (k _ _ (X _ _ ho)) (wpAny_pure q))
  ·cases hcD
 ne:=fun h tp dd its n sl X htp=>by
  obtain ⟨cdD,hcD,_⟩:=any_some c.hd
  refine Bool.eq_false_iff.mpr fun q=>?_
  have e:C=tp:=Value.ref.inj (beq_iff_eq.mp q)
  subst e
  unfold clsIn at hcD
  split at hcD
  ·rename_i c' d' cd' sl' ho
   have z:=(X _ _ ho).symm.trans htp
   cases z
  ·cases hcD
 ca:=fun X I k=>exc_class c X I k
end
end L2
set_option Elab.async false
set_option linter.all false
set_option maxRecDepth 100000
set_option maxHeartbeats 4000000
namespace L2
open PySem PySem.Spec PyProof.Rows
def excO (oe:Obj):HO:=.frz oe (.ext fun _=>True)
structure NewAt (X:Cx) (pins:List (Addr × Obj)) (e:Addr):Prop where
 s0:X.s₀.heap.get? e=none
 loc:e ≠ X.env.locals
 cel:∀ x c,X.env.cells.lookup x=some c->c ≠ e
 fs:e ∉ X.fs
 pin:∀ p∈X.pn++pins,p.1 ≠ e
section
variable {X:Cx}
theorem NewAt.of {pins:List (Addr × Obj)}{σ:St}{H:Hp}{s:Shared}{e:Addr}(I:Inv X pins σ H s) (hx:X.ex=[]) (h:s.heap.get? e=none):NewAt X pins e where
 s0:=by
  cases q:X.s₀.heap.get? e with
  | none=>rfl
  | some o=>
   obtain ⟨o',z⟩:=I.base.there e o q (by rw [hx];simp)
   rw [h] at z;cases z
 loc:=fun z=>by
  obtain ⟨m,⟨o,_,_,q,_⟩,_⟩:=I.loc
  rw [←z,h] at q;cases q
 cel:=fun x c q z=>by
  obtain ⟨v,o,r,_⟩:=I.cell x c q
  rw [z,h] at r;cases r
 fs:=fun z=>by
  obtain ⟨_,o,q,_⟩:=I.funs.mem z
  rw [h] at q;cases q
 pin:=fun p hp z=>by
  have q:=(I.pin p hp).1
  rw [z,h] at q;cases q
theorem Inv.track {pins:List (Addr × Obj)}{σ:St}{H:Hp}{s:Shared}{e:Addr}{oe:Obj}(I:Inv X pins σ H s) (N:NewAt X pins e) (he:s.heap.get? e=some oe) (hn:H e=none):Inv X pins σ (upd H e (excO oe)) s:=by
 have ne:∀ {b:Addr} {o:HO},H b=some o->b ≠ e:=fun q z=>by rw [z,hn] at q;cases q
 refine ⟨I.ok,I.os,I.bare,⟨I.base.keep,I.base.slot,fun b o q n hx=>?_,I.base.there,fun b xs q=>?_,fun b o u q=>?_,fun b ps q=>?_⟩,I.loc,I.cell,?_,fun x c q=>?_,fun p hp=>?_,fun b o q=>?_,I.len⟩
 ·rw [upd_ne (fun z=>by rw [z,N.s0] at q;cases q)];exact I.base.free b o q n hx
 ·have z:=I.base.tups b xs q;rw [upd_ne (ne z)];exact z
 ·have z:=I.base.frzs b o u q;rw [upd_ne (ne z)];exact z
 ·obtain ⟨m,z⟩:=I.base.tbls b ps q;exact ⟨m,by rw [upd_ne (ne z)];exact z⟩
 ·rw [upd_ne (Ne.symm N.loc)];exact I.free
 ·rw [upd_ne (N.cel x c q)];exact I.freeC x c q
 ·obtain ⟨a,b,c,d,f⟩:=I.pin p hp
  exact ⟨a,by rw [upd_ne (N.pin p hp)];exact b,c,d,f⟩
 ·by_cases hb:b=e
  ·subst hb
   rw [upd_same] at q
   cases q
   exact ⟨he,trivial,⟨oe,he⟩,fun _ _ _ _=>trivial⟩
  ·rw [upd_ne hb] at q
   exact (I.hok b o q).stay (fun _ _ _ r=>r) (fun c r=>by rw [upd_ne (ne r)];exact r) fun c xs r=>by rw [upd_ne (ne r)];exact r
def PHs (X:Cx) (hs:List ExceptHandler) (th:Value->Option Addr->TS):Prop:=
 ∀ (pins:List (Addr × Obj)) (s:Shared) (σ:St) (H:Hp) (D:Ends) (e T:Addr) (cls:Value) (d:Option Addr),Inv X pins σ H s->NewAt X pins e->H e=none->ExcAt s.heap e cls d T->th cls d D σ H->wpAny (model X.prog X.w) X.A (handleBy (.ref e) X.env hs) (SP X pins D) X.xe s
theorem flight1 {M:Model}{A:Around}{E:Value->Shared->Prop}{s:Shared}{e T:Addr}{cls:Value}{d:Option Addr}{Q:Unit->Shared->Prop}(x:ExcAt s.heap e cls d T) (hQ:∀ h',(∀ b o,s.heap.get? b=some o->h'.get? b=some o)->Q () { s with heap:=h' }) :
  wpAny M A (setFlight (.ref e) none) Q E s:=by
 obtain ⟨oe,vs,oT,ts,he,rfl,rfl,hd,h1,ne,hT,hdT,h3,h2c⟩:=x
 unfold setFlight
 refine wpAny_bind (wpAny_field he hd h1 ?_)
 rw [if_pos (show (Value.ref T != Value.none)=true from by simp)]
 refine wpAny_setField hT hdT (Array.getElem?_eq_some_iff.mp h3).1 (hQ _ fun b o q=>?_)
 by_cases hb:b=T
 ·subst hb
  rw [hT] at q;cases q
  have same:Obj.mapFields (·.setIfInBounds 3 ((none:Option Addr).elim Value.none fun f=>rawInt f)) oT=oT:=by
   obtain ⟨c,d,dat,sl⟩:=oT
   cases hdT
   have e3:ts.setIfInBounds 3 ((none:Option Addr).elim Value.none fun f=>rawInt f)=ts:=by
    apply Array.ext_getElem?
    intro i
    by_cases hi:i=3
    ·subst hi
     obtain ⟨hlt,hv⟩:=Array.getElem?_eq_some_iff.mp h3
     simp [Array.getElem?_setIfInBounds,hlt,hv]
    ·rw [Array.getElem?_setIfInBounds_ne (Ne.symm hi)]
   show (⟨c,d,.fields (ts.setIfInBounds 3 ((none:Option Addr).elim Value.none fun f=>rawInt f)),sl⟩:Obj)=_
   rw [e3]
  have:=Heap.get?_update_self (Obj.mapFields (·.setIfInBounds 3 ((none:Option Addr).elim Value.none fun f=>rawInt f))) hT (Obj.isFreed_of_fields (Obj.data_mapFields hdT _))
  rw [same] at this
  exact this
 ·rw [Heap.get?_update_other _ _ (Ne.symm hb)]
  exact q
def tLost:Value->Option Addr->TS:=fun _ _ _ _ _=>False
theorem phs_nil:PHs X [] tLost:=fun _ _ _ _ _ _ _ _ _ _ _ _ _ h=>h.elim
theorem SP.unmark {pins:List (Addr × Obj)}{D:Ends}{f:Flow}{s2:Shared}{e:Addr}(ok:X.Ok) (q:SP (X.mark e) pins D f s2):SP X pins D f s2:=by
 cases f with
 | next=>obtain ⟨σ',H',J,q⟩:=q;exact ⟨σ',H',J.unmark ok,q⟩
 | brk=>obtain ⟨σ',H',J,q⟩:=q;exact ⟨σ',H',J.unmark ok,q⟩
 | cont=>obtain ⟨σ',H',J,q⟩:=q;exact ⟨σ',H',J.unmark ok,q⟩
 | ret u=>obtain ⟨v,σ',H',J,r,q⟩:=q;exact ⟨v,σ',H',J.unmark ok,r,q⟩
theorem exc_ty {M:Model}{h:Heap}{e T:Addr}{cls:Value}{d:Option Addr}(ex:ExcAt h e cls d T):PySem.W.Looks M h (typeOf (.ref e)) cls:=by
 obtain ⟨oe,vs,oT,ts,he,rfl,_⟩:=ex
 exact (PySem.W.Looks.ld he).andThen .now
def gDel (i:Nat):St->Hp->(St->Hp->Prop)->Prop:=fun σ H Q=>Q (σ.set i none) H
def kDel (i:Nat) (nx:St->Hp->Prop):St->Hp->Prop:=fun σ H=>gDel i σ H nx
def Ends.del (i:Nat) (D:Ends):Ends:=⟨kDel i D.nx,D.rt,kDel i D.bk,kDel i D.ct⟩
theorem gone_ok {M:Model}{A:Around}{E:Value->Shared->Prop}{pins:List (Addr × Obj)}{σ:St}{H:Hp}{s:Shared}{i:Nat}{x:Str}{pos:Pos}{Q:Unit->Shared->Prop}(I:Inv X pins σ H s) (hi:X.N[i]? = some x) (hk:X.env.scope.names.lookup x=some .local) (hN:X.N.Nodup)
  (h:∀ s',Inv X pins (σ.set i none) H s'->Q () s'):wpAny M A (do bindName X.env x .none;unbindBehindTheSuite X.env x pos) Q E s:=by
 obtain ⟨m,hn,hl⟩:=id I.loc
 have hcls:(X.env.scope.kind == .class || (X.env.scope.kind == .module && X.env.locals != X.env.globals))=false:=by rw [I.ok.kind];rfl
 have cne:=I.cne
 refine PySem.wpAny_nameGoes_keeps hk hn hcls fun h' v hn' hs=>?_
 obtain ⟨oL,_,_,hoL,_⟩:=id hn
 refine h _ ⟨I.ok,I.os,I.bare,⟨fun b o e n hb hx=>?_,fun b o e n hb hx=>?_,I.base.free,fun b o e hx=>?_,I.base.tups,I.base.frzs,I.base.tbls⟩,⟨_,hn',fun j y v' e1 e2 e3=>?_⟩,fun y c e=>?_,I.free,I.freeC,fun p hp=>?_,fun b ob e=>?_,by simpa using I.len⟩
 ·exact (hs.2 b (Nat.ne_of_lt (Nat.lt_of_lt_of_le (Heap.lt_size e) I.ok.above))).trans (I.base.keep b o e n hb hx)
 ·obtain ⟨sl,e1⟩:=I.base.slot b o e n hb hx
  exact ⟨sl,(hs.2 b (Nat.ne_of_lt (Nat.lt_of_lt_of_le (Heap.lt_size e) I.ok.above))).trans e1⟩
 ·obtain ⟨o',e1⟩:=I.base.there b o e hx
  exact ⟨o',(hs.2 b (Nat.ne_of_lt (Nat.lt_of_lt_of_le (Heap.lt_size e) I.ok.above))).trans e1⟩
 ·have hj:j ≠ i:=by
   rintro rfl
   by_cases hlt:j < σ.length
   ·rw [List.getElem?_set_self hlt] at e2;cases e2
   ·rw [List.getElem?_eq_none (by simpa using Nat.le_of_not_lt hlt)] at e2;cases e2
  rw [List.getElem?_set_ne (Ne.symm hj)] at e2
  obtain ⟨u',r',q⟩:=hl j y v' e1 e2 e3
  refine ⟨u',r',?_⟩
  rcases q with ⟨k,e⟩|⟨k,c,e,z⟩
  ·refine .inl ⟨k,?_⟩
   have:y ≠ x:=fun e=>hj (nodup_ix hN e1 (e ▸ hi))
   simp [this,e]
  ·exact .inr ⟨k,c,e,z.sameBut hs (cne y c e)⟩
 ·obtain ⟨w',z⟩:=I.cell y c e
  exact ⟨w',z.sameBut hs (cne y c e)⟩
 ·obtain ⟨e,n,ne,nf,d⟩:=I.pin p hp
  exact ⟨(hs.2 p.1 ne).trans e,n,ne,nf,d⟩
 ·refine (I.hok b ob e).stay (fun c w' hc q=>(hs.2 c ?_).trans q) (fun _ q=>q) fun _ _ q=>q
  rintro rfl
  rcases hc with rfl|hc
  ·rw [I.free] at e;cases e
  ·rw [I.free] at hc;cases hc
def tTry (tb:(St->XK)->TS) (th:Value->Option Addr->TS):TS:=fun D σ H=>tb (fun σ' cls d H'=>th cls d D σ' H') D σ H
abbrev Cx.tried (X:Cx) (E:Value->Shared->Prop) (pn:List (Addr × Obj)):Cx:={ X with xe:=E,pn:=pn }
theorem ps_try {body:List Stmt}{h₀:ExceptHandler}{hs:List ExceptHandler}{pos:Pos}{tb:(St->XK)->TS}{th:Value->Option Addr->TS}(hstk:X.stack=X.env::X.outer∧X.env.frame=some X.env.locals∧X.ex=[])
  (hb:∀ (EX:St->XK) (E:Value->Shared->Prop) (pn:List (Addr × Obj)),(∀ σ,PassAt (CX1 X.prog X.w) (X.tried E pn) (EX σ) σ)->PSs (X.tried E pn) body (tb EX)) (hh:PHs X (h₀::hs) th) :
  PS X (.Try body (h₀::hs) [] [] pos) (tTry tb th):=by
 intro pins s σ H D I h
 refine PySem.wpAny_Try_except ?_
 have okT:∀ E pn,(X.tried E pn).Ok:=fun E pn=>⟨I.ok.mod,I.ok.kind,I.ok.glob,I.ok.blt,I.ok.above,I.ok.inj,I.ok.has,I.ok.cab,I.ok.hd,I.ok.frames,I.ok.stk,I.ok.exf,I.ok.bs,I.ok.bsz,I.ok.noex,I.ok.exfs,I.ok.funs,I.ok.frf⟩
 have back:∀ {E:Value->Shared->Prop} {pins':List (Addr × Obj)} {σ':St} {H':Hp} {s':Shared},Inv (X.tried E (X.pn++pins)) pins' σ' H' s'->Inv X pins σ' H' s':=fun {E pins' σ' H' s'} J=>
  ⟨I.ok,J.os,J.bare,J.base,J.loc,J.cell,J.free,J.freeC,fun p hp=>J.pin p (List.mem_append_left _ hp),J.hok,J.len⟩
 have I0:∀ E,Inv (X.tried E (X.pn++pins)) [] σ H s:=fun E=>⟨okT E _,I.os,I.bare,I.base,I.loc,I.cell,I.free,I.freeC,fun p hp=>I.pin p (by simpa using hp),I.hok,I.len⟩
 refine thn (hb (fun σ' cls d H'=>th cls d D σ' H') _ (X.pn++pins) ?_ [] s σ H D (I0 _) h) fun f s1 q=>?_
 ·intro σ1 pins1 H1 s1 ev s2 I1 hc
  obtain ⟨e,T,cls,dd,H',rfl,os,bare,un1,hok,ne,nT,He,HT,ex,hxd,hE⟩:=hc
  have I2:=I1.call' (ch:=[]) os un1 hok bare (fun b z=>absurd z (by simp))
  have nf:∀ b,s1.heap.get? b=none->b ∉ frs (X.env::X.outer):=fun b hb z=>by
   have st:=I1.stack
   have st':s1.heap.FunFrames X.base (X.env::X.outer):=by rw [←hstk.1];exact st
   obtain ⟨_,o,q,_⟩:=st'.mem z
   rw [hb] at q;cases q
  have nb:X.base.get? T=none:=by
   cases q:X.base.get? T with
   | none=>rfl
   | some o=>
    have:=I1.bk T o q
    rw [nT] at this;cases this
  have fl:s2.heap.FunFrames X.base (X.env::X.outer):=by rw [←hstk.1];exact I2.stack
  have fr:X.A.frames=some (X.env::X.outer):=by rw [←hstk.1];exact I.ok.frames
  refine note_next (base:=X.base) (outer:=X.outer) fr fl hstk.2.1 ex (nf e ne) (nf T nT) nb fun g T' ng nT' ex'=>?_
  have fs:∀ b∈frs (X.env::X.outer),b∈frs X.stack:=fun b hb=>by rw [hstk.1];exact hb
  have I3:=I1.call' (s':={ s2 with heap:=g }) (ch:=[]) os (un1.noted ng ne (fun b z=>by rw [z];exact nT) fun b hb=>.inl (fs b hb)) (hok.noted ng He (fun b z=>by rw [z];exact HT) fun b hb=>I2.stkFree b (fs b hb)) bare (fun b z=>absurd z (by simp))
  exact hh pins _ σ1 H' D e T' cls dd (back I3) (NewAt.of (back I1) hstk.2.2 ne) He ex' hE
 ·cases f with
  | next=>obtain ⟨σ',H',J,q⟩:=q;exact wpAny_execs_nil ⟨σ',H',back J,q⟩
  | brk=>obtain ⟨σ',H',J,q⟩:=q;exact ⟨σ',H',back J,q⟩
  | cont=>obtain ⟨σ',H',J,q⟩:=q;exact ⟨σ',H',back J,q⟩
  | ret u=>obtain ⟨v,σ',H',J,r,q⟩:=q;exact ⟨v,σ',H',back J,r,q⟩
def kXd:HO->Prop:=fun o=>match o with
 | .xd _=>True
 | _=>False
def dictO (H:Hp):Option Addr->Prop
 | none=>True
 | some dx=>∃ o,H dx=some o∧kXd o
theorem call_isiE:CallR X (.builtin "isinstance") (fun xs H Q=>∃ e oe C D b,xs=[.ref e,D]∧(∃ u,H e=some (.frz oe u))∧oe.cls=.ref C∧dictO H oe.dict∧(∃ vs,oe.data=.fields vs)∧ECls X.K C∧(∃ u,RelV D u∧PySem.W.kitOne X.K (.ref C) u=some b)∧Q (.bl b) H):=by
 intro pins s σ H xs us Q I r h
 obtain ⟨e,oe,C,D,b,rfl,⟨uu,hH⟩,hc,hd,⟨vs,hv⟩,ec,⟨u,ru,hk⟩,q⟩:=h
 obtain ⟨u1,u2,rfl,r1,r2⟩:=vals2 r
 cases (show u1=Value.ref e from r1)
 have hu:u2=u:=by
  cases D with
  | ref a=>exact (show u2=Value.ref a from r2).trans (show u=Value.ref a from ru).symm
  | ty n=>exact (show u2=Value.type n from r2).trans (show u=Value.type n from ru).symm
  | non=>exact (show u2=Value.none from r2).trans (show u=Value.none from ru).symm
  | bl b'=>exact (show u2=Value.bool b' from r2).trans (show u=Value.bool b' from ru).symm
  | int i=>obtain ⟨t,rfl⟩:=ru;simp [PySem.W.kitOne,PySem.W.kitCls] at hk
  | str i=>obtain ⟨t,rfl⟩:=ru;simp [PySem.W.kitOne,PySem.W.kitCls] at hk
  | byt i=>obtain ⟨t,rfl⟩:=ru;simp [PySem.W.kitOne,PySem.W.kitCls] at hk
  | flt i=>obtain ⟨t,rfl⟩:=ru;simp [PySem.W.kitOne,PySem.W.kitCls] at hk
 subst hu
 obtain ⟨he,_⟩:=(show ObjOk X.prog X.w H s.heap e (.frz oe uu) from I.hok e _ hH)
 have hno:PySem.W.notCls oe=true:=by unfold PySem.W.notCls;rw [hv]
 cases q0:oe.dict with
 | none=>
  have J:PySem.W.InstAt s.heap e oe C none:=⟨he,hc,hno,by rw [q0];trivial⟩
  exact PySem.W.kia_one (kitx_exc ec) I.kIn J hk (fun z=>nomatch z) fun tk=>⟨.bl b,H,I.tok _,rfl,q⟩
 | some dx=>
  rw [q0] at hd
  obtain ⟨o,ho,hx⟩:=hd
  cases o with
  | xd fs=>
   obtain ⟨mA,hn,_⟩:=I.hok dx _ ho
   obtain ⟨oD,hoD,_⟩:=lookIn_ns hn
   have J:PySem.W.InstAt s.heap e oe C (some oD):=⟨he,hc,hno,by rw [q0];exact hoD⟩
   exact PySem.W.kia_one (kitx_exc ec) I.kIn J hk (fun z=>nomatch z) fun tk=>⟨.bl b,H,I.tok _,rfl,q⟩
  | _=>exact hx.elim
end
end L2
set_option Elab.async false
set_option linter.all false
set_option maxRecDepth 100000
set_option maxHeartbeats 4000000
namespace L2
open PySem PySem.Spec PyProof.Rows PySem.W
def excInI (K:Frag) (C fI:Addr) (bmB:List Value) (newId:String):Bool:=ownIn0 K C (some (.ref fI)) bmB newId
section
variable {prog:Program}{w:World}{A:Around}{R:Result->Shared->Prop}{h:Heap}{g:Array GenState}{d:Drawn}{t:Nat}{os:OsState}{K:Frag}
variable {nm q:Str}{C N fI:Addr}{bs bm bmB:List Value}{hdct:Bool}{sn:List Str}{sub:List Value}{ab:Bool}{col:Option Bool}{dd:Option Addr}{k0 k1 k2 k3 k5:Option Value}{B Bn newId nid initId inN:String}{bmN:List Value}
abbrev exNew (C:Addr) (rest:List Value) (h:Heap):Heap:=(h.push { cls:=.type "tuple",data:=.seq rest.toArray }).push { cls:=.ref C,data:=.fields #[.ref h.objs.size,.none,.none,.none,.bool false,.none] }
theorem exc_own (Fn:ExcBaseFacts Bn newId inN bmN) (hBn:bmB.contains (.type Bn)=true) (F:ExcBaseFacts B nid initId bmB) (T:OwnTail h bmB bm){mN:Str->Option Value}{rest:List Value}
  (hC:h.get? C=some (excClassObj nm q C N bs bm hdct sn sub ab col dd k0 k1 k2 k3 k5 newId)) (hn:h.Ns N mN) (hni:mN "__init__"=some (.ref fI)) (X:K.In h) (hf:typeIn K (.ref fI)=some (.type "function")) (hrest:rest.length≤sizeLine)
  (hq:codeAny (model prog w) (A.under (.builtin "type.__call__" ⟨.ref C::rest,[]⟩)) (.call (.ref fI) ⟨.ref (h.objs.size+1)::rest,[]⟩) (InitBack (h.objs.size+1) R) ⟨exNew C rest h,g,d,t,os⟩) :
  codeAny (model prog w) A (.call (.ref C) ⟨rest,[]⟩) R ⟨h,g,d,t,os⟩:=by
 have f1:=tc_lookup
 have f2:=tc_bind (.ref C)
 have hT:(⟨h,g,d,t,os⟩:Shared).TypeIs (.ref C) "type":=⟨_,hC,rfl⟩
 refine codeAny_of_tree ?_
 show wpAny _ _ (callAny (.ref C) _) _ _ _
 repeat (any_goals (first|assumption|with_reducible refine wpAny_loadPart_at hC ?_|wp_step))
 refine ⟨rfl,?_⟩
 refine codeAny_call_builtin_at (Code.quiet_builtin _ (by decide +kernel)) entry_typeCall (wpAny_check_type_call_sub hC ?_)
 repeat (first|with_reducible refine wpAny_loadPart_at hC ?_|with_reducible refine wpAny_madeBy_exc hC ?_|wp_step)
 refine codeAny_call_builtin_code (Code.quiet_builtin _ Fn.quiet) (wpAny_check_new_subU Fn hBn T hC (codeAny_exc_new_subU Fn hBn F T hC ?_ hrest))
 show wpAny _ _ _ _ _ _
 have kp:∀ b o,h.get? b=some o->(exNew C rest h).get? b=some o:=fun b o e=>Heap.get?_push_of_some _ (Heap.get?_push_of_some _ e)
 have hC1:=kp _ _ hC
 have hn1:(exNew C rest h).Ns N mN:=let ⟨o,es,ep,e,r⟩:=hn;⟨o,es,ep,kp _ _ e,r⟩
 have hg:(exNew C rest h).get? (h.objs.size+1)=some { cls:=.ref C,data:=.fields #[.ref h.objs.size,.none,.none,.none,.bool false,.none] }:=by unfold exNew;heap_get
 have hcC:(Value.ref C::bm).contains (.ref C)=true:=by simp
 have T1:=T.keeps (h':=exNew C rest h) kp
 have X1:K.In (exNew C rest h):=fun b o e=>kp b o (X b o e)
 unfold isInstance
 repeat (first|with_reducible refine wpAny_loadPart_at hg ?_|wp_step)
 show wpAny _ _ (isSubtype (.ref C) (.ref C)) _ _ ⟨exNew C rest h,g,d,t,os⟩
 refine wpAny_isSubtype_exc hC1 ?_
 rw [hcC]
 repeat (first|with_reducible refine wpAny_loadPart_at hg ?_|wp_step)
 show wpAny _ _ (typeLookup (.ref C) _) _ _ _
 refine wpAny_typeLookup_tail hC1 hn1 T1 F.mroIs F.init.lookup ?_
 rw [hni]
 refine wpAny_holding (wpAny_bind ((bind_fn X1 _ hf).at ?_))
 refine wpAny_bind (wpAny_call (codeAny_mono hq fun r s' z=>?_))
 cases r with
 | error e=>exact z
 | ok f=>
  cases f with
  | ret v=>obtain ⟨rfl,y⟩:=z;exact wpAny_pure (wpAny_pure y)
  | next=>exact z.elim
  | brk=>exact z.elim
  | cont=>exact z.elim
end
def dropRefs:List Value->List Value
 | .ref _::r=>dropRefs r
 | l=>l
theorem refuse_drop (self:Value):∀ l:List Value,refuseLoop self "__setattr__" l=refuseLoop self "__setattr__" (dropRefs l)
 | []=>rfl
 | v::r=>by
  cases v with
  | ref c=>rw [refuseLoop_ref];exact refuse_drop self r
  | _=>rfl
def onlyExc (l:List Value):Bool:=dropRefs l == [.type "ValueError",.type "Exception",.type "BaseException",.type "object"]
theorem refuse_exc (self:Value){l:List Value}(e:onlyExc l=true):refuseLoop self "__setattr__" l=pure ():=by
 rw [refuse_drop,beq_iff_eq.mp e];exact PySem.F.store_ValueError.passes self
def excOver (K:Frag) (C:Addr):Bool:=(clsIn K C).any fun cd=>onlyExc cd.mro && cd.mro.contains (.type "object")
structure EStore (K:Frag) (C:Addr):Prop where
 ov:excOver K C=true
 sa:findIn K (.ref C) "__setattr__"=some (some (.builtin "object.__setattr__"))
 hd:hasDictIn K C=true
section
variable {prog:Program}{w:World}{A:Around}{E:Value->Shared->Prop}{K:Frag}{x C:Addr}{s:Shared}{name:Str}{v:Value}
theorem osx_open {ox:Obj}{od:Option Obj}{tk:Tok}{R:Result->Shared->Prop}(X:K.In s.heap) (I:InstAt s.heap x ox C od) (hp:excOver K C=true) (ht:takerIn K C name=some none)
  (h:∀ b,wpAny (model prog w) A.in1 (Builtin.ObjectAttr.storeInOwnDict (.ref x) (.ref C) (.str name tk) name v b) (fun fin s'=>match fin with | .done f=>R (.ok f) s' | .again c'=>c'.quiet=true∧codeAny (model prog w) A c' R s') (fun e s'=>R (.error e) s') s) :
  codeAny (model prog w) A (.call (.builtin "object.__setattr__") ⟨[.ref x,.str name tk,v],[]⟩) R s:=by
 have sf:=PySem.F.store_object
 obtain ⟨dat,hcl,hov⟩:=any_some hp
 rw [Bool.and_eq_true] at hov
 have emp:dat.mro.isEmpty=false:=by cases q:dat.mro with|nil=>rw [q] at hov;cases hov.2|cons _ _=>rfl
 have isObj:Looks (model prog w) s.heap (isInstance (.ref x) (.type "object")) true:=I.type.andThen (looks_mroIn X (by unfold mroIn;rw [hcl,Option.bind_some,if_neg (by rw [emp];decide),hov.2]))
 refine codeAny_call_builtin sf.slot.plain sf.entry (@check_slot (model prog w) _ _ s "object.__setattr__" "object" "__setattr__" (.ref x) [.str name tk,v] [] _ sf.kind sf.split isObj (sf.args (.ref x) (.str name tk) v) ?_)
 obtain ⟨on,hon,hr⟩:=Option.bind_eq_some_iff.mp ht
 have lm:Looks (model prog w) s.heap (mroOf (.ref C)) dat.mro:=(looks_clsIn X hcl).andThen .now
 have lt:Looks (model prog w) s.heap (Builtin.ObjectAttr.storeTaker? on) none:=by
  cases on with
  | none=>exact .now
  | some a=>
   obtain ⟨b,hb,hz⟩:=Option.map_eq_some_iff.mp hr
   refine (looks_takesIn X hb).andThen ?_
   cases b
   ·exact .now
   ·cases hz
 rw [osa_eq,refuse_eq]
 refine wpAny_bind (wpAny_bind (I.type.here (wpAny_bind (lm.here (by rw [refuse_exc _ hov.1];refine wpAny_pure (wpAny_bind (I.type.here (wpAny_bind ((looks_findIn X hon).here (wpAny_bind (lt.here (h _))))))))))))
theorem set_exc {vs:Array Value}{sl:Array (Option Value)}{Q:Unit->Shared->Prop}(c:EStore K C) (X:K.In s.heap) (hx:s.heap.get? x=some ⟨.ref C,none,.fields vs,sl⟩) (ht:takerIn K C name=some none)
  (h:∀ h' tk,h'.get? x=some ⟨.ref C,some s.heap.objs.size,.fields vs,sl⟩->h'.Ns1 s.heap.objs.size (fun y=>if y=name then some v else none)->(∀ b o,b ≠ x->s.heap.get? b=some o->h'.get? b=some o)->Q () { s with heap:=h',toks:=tk }) :
  wpAny (model prog w) A (setAttr (.ref x) name v) Q E s:=by
 have I:InstAt s.heap x ⟨.ref C,none,.fields vs,sl⟩ C none:=⟨hx,rfl,rfl,trivial⟩
 refine set_plain X I c.sa (osx_open (s:={ s with toks:=s.toks+1 }) X I c.ov ht fun b=>?_)
 obtain ⟨cd,hc,hd'⟩:=any_some c.hd
 have hxs:x ≠ s.heap.objs.size:=Nat.ne_of_lt (Heap.lt_size hx)
 have hx1:(s.heap.push { cls:=.type "dict",data:=.dict #[] }).get? x=some ⟨.ref C,none,.fields vs,sl⟩:=Heap.get?_push_of_some _ hx
 refine wpAny_bind (wpAny_pure (wpAny_bind (wpAny_bind (wpAny_loadPart hx ?_))))
 show wpAny _ _ (do if !(←classData C).hasDict then pure none else _) _ _ _
 refine wpAny_bind (Looks.here (s:={ s with toks:=s.toks+1 }) (looks_clsIn X hc) ?_)
 rw [hd',if_neg (by decide)]
 show wpAny _ _ (do let d ←alloc { cls:=.type "dict",data:=.dict #[] };update x fun o=>{ o with dict:=some d };dictMade (.ref C) x d) _ _ _
 refine wpAny_bind (wpAny_alloc (wpAny_bind (wpAny_update hx1 (wpAny_pure (a:=some s.heap.objs.size) ?_))))
 generalize hg:(s.heap.push { cls:=.type "dict",data:=.dict #[] }).update x (fun o=>{ o with dict:=some s.heap.objs.size })=g0
 have gx:g0.get? x=some ⟨.ref C,some s.heap.objs.size,.fields vs,sl⟩:=by rw [←hg];exact Heap.get?_update_self _ hx1 rfl
 have gd:g0.get? s.heap.objs.size=some { cls:=.type "dict",data:=.dict #[] }:=by rw [←hg];exact (Heap.get?_update_ne _ _ _ _ hxs.symm).trans (Heap.get?_push_at rfl rfl)
 have gk:∀ b o,b ≠ x->s.heap.get? b=some o->g0.get? b=some o:=fun b o hb e=>by rw [←hg];exact (Heap.get?_update_ne _ _ _ _ hb).trans (Heap.get?_push_of_some _ e)
 have gn:g0.Ns s.heap.objs.size (fun _=>none):=⟨_,#[],_,gd,rfl,fun e he=>absurd he (by simp),fun _=>rfl⟩
 show wpAny _ _ (Builtin.ObjectAttr.storeInDict s.heap.objs.size (.str name s.toks) name v) _ _ _
 unfold Builtin.ObjectAttr.storeInDict Builtin.ObjectAttr.newKeyGuard
 refine wpAny_bind (wpAny_pure (wpAny_bind (wpAny_nsSet1 (Heap.Ns1.of_empty gn) fun h2 n2 s2=>?_)))
 obtain ⟨oD,eD,pD,q1,q2,q3⟩:=n2.count (Within.cons name v Within.nil)
 refine wpAny_bind (wpAny_lookBehind q1 (by rw [q2];exact pastItsLine_dict (Nat.le_trans q3 (by rw [List.length_cons,List.length_nil,sizeLine_eq];omega))) ?_)
 exact wpAny_pure (h h2 _ ((s2.2 x hxs).trans gx) n2 fun b o hb e=>(s2.2 b (Nat.ne_of_lt (Heap.lt_size e))).trans (gk b o hb e))
end
end L2
set_option Elab.async false
set_option linter.all false
set_option maxRecDepth 100000
set_option maxHeartbeats 4000000
namespace L2
open PySem PySem.Spec PyProof.Rows PySem.W
section
variable {prog:Program}{w:World}{A:Around}{E:Value->Shared->Prop}{s:Shared}{K:PySem.W.Frag}{x C dx:Addr}{ox:Obj}{od:Option Obj}{name:Str}{mA:Str->Option Value}{u:Value}
theorem exc_get {expr:Bool}{Q:Value->Shared->Prop}(c:ECls K C) (X:K.In s.heap) (hx:s.heap.get? x=some ox) (hcl:ox.cls=.ref C) (hno:notCls ox=true) (hd:ox.dict=some dx) (hn:s.heap.Ns1 dx mA) (ha:NoAttr K C name) (hv:mA name=some u) (hh:handedIn u=true)
  (h:Q u { s with toks:=s.toks+1 }):wpAny (model prog w) A (getAttr (.ref x) name expr) Q E s:=by
 obtain ⟨oD,ho,hl⟩:=lookIn_ns hn
 have I:InstAt s.heap x ox C (some oD):=⟨hx,hcl,hno,by rw [hd];exact ho⟩
 have hf:findObj K C (some oD) name=some (.value u):=findObj_own c.hd ha rfl (by rw [hl,hv])
 have L0:=I.type (M:=model prog w)
 have L1:=looks_findIn (M:=model prog w) X c.ga
 have L2:=looks_findIn (M:=model prog w) X c.no
 have L3:=looks_find (M:=model prog w) X I hf
 have ck:=fun {M:Model} {A:Around} {E:Value->Shared->Prop} {Q:Unit->Shared->Prop} (q:Q () { s with toks:=s.toks+1 })=>exc_check (M:=M) (A:=A) (E:=E) (nameV:=.str name s.toks) (s:={ s with toks:=s.toks+1 }) c X I q
 obtain ⟨hp,g,d,t,os⟩:=s
 unfold getAttr getAttrBy
 refine wpAny_bind (wpAny_mkText (wpAny_holding (wpAny_bind (L0.at (wpAny_bind (L1.at ?_))))))
 show wpAny _ _ (getAttrByItsOwn _ _ _ _ _ _) _ _ _
 unfold getAttrByItsOwn
 show wpAny _ _ (do let before ←typeLookup (.ref C) "__getattr__";_) _ _ _
 refine wpAny_bind (L2.at (wpAny_bind (wpAny_attempt (wpAny_holding ?_))))
 unfold callGetattribute
 rw [show (expr && onTheHeap (Value.builtin "BaseException.__getattribute__"))=false from Bool.and_false _,if_neg (by decide)]
 unfold boundAndCalled
 rw [F.attr_ValueError.ga.bind (.ref x)]
 refine wpAny_bind (wpAny_pure (wpAny_call (codeAny_call_builtin F.attr_ValueError.ga.plain F.entry_bexc_ga (ck ?_))))
 refine wpAny_bind (wpAny_pure (wpAny_bind (wpAny_pure (wpAny_bind (L0.at (wpAny_bind (L3.at (wpAny_pure ?_))))))))
 show wpAny _ _ (handedOut u) _ _ _
 rw [handedOut_of hh]
 exact wpAny_pure h
end
section
variable {prog:Program}{w:World}{A:Around}{E:Value->Shared->Prop}{h:Heap}{g:Array GenState}{d:Drawn}{t:Nat}{os:OsState}{e a0:Addr}{dct:Option Addr}
variable {nm q:Str}{C N:Addr}{bs bm bmB:List Value}{hdct:Bool}{sn:List Str}{sub:List Value}{ab:Bool}{col:Option Bool}{dd:Option Addr}{k0 k1 k2 k3 k5:Option Value}{B newId nid initId:String}
theorem init_base (F:ExcBaseFacts B nid initId bmB) (T:OwnTail h bmB bm){rest:List Value}{Q:Value->Shared->Prop}(hC:h.get? C=some (excClassObj nm q C N bs bm hdct sn sub ab col dd k0 k1 k2 k3 k5 newId))
  (he:h.get? e=some ⟨.ref C,dct,.fields #[.ref a0,.none,.none,.none,.bool false,.none],#[]⟩) (hrest:rest.length≤sizeLine)
  (hq:∀ h' a1,h'.get? e=some ⟨.ref C,dct,.fields #[.ref a1,.none,.none,.none,.bool false,.none],#[]⟩->(∀ b o,b ≠ e->h.get? b=some o->h'.get? b=some o)->Q .none ⟨h',g,d,t,os⟩) :
  wpAny (model prog w) A (call (.builtin initId) (.ref e::rest)) Q E ⟨h,g,d,t,os⟩:=by
 refine wpAny_call (codeAny_call_builtin F.init.plain F.initEntry (wpAny_check_init_subU F T hC he rfl ?_))
 wp_walk
 refine hq _ h.objs.size ?_ fun b o hb z=>?_
 ·rw [Heap.get?_update_self _ (Heap.get?_push_of_some _ he) rfl];rfl
 ·rw [Heap.get?_update_other _ _ (Ne.symm hb)];exact Heap.get?_push_of_some _ z
end
theorem ns_at {K:Frag}{h:Heap}{N:Addr}{mg:Str->Option Value}{n:Str}{v:Value}(X:K.In h) (G:h.Ns N mg) (e:nsIn K N n=some (some v)):mg n=some v:=by
 obtain ⟨ob,ents,prev,hob,hdat,_,hfind⟩:=G
 unfold nsIn at e
 split at e
 ·rename_i c0 d0 es0 n0 sl0 look
  have z:=X _ _ look
  rw [hob] at z
  cases z
  cases hdat
  split at e
  ·rename_i ent hent
   cases e
   rw [←hfind]
   unfold nsFind findBy
   rw [←Array.find?_toList,hent];rfl
  ·split at e<;>cases e
 ·cases e
structure OwnI (K:PySem.W.Frag) (C fI:Addr):Prop where
 ex:excInI K C fI [.type "ValueError",.type "Exception",.type "BaseException",.type "object"] "ValueError.__new__"=true
 fn:typeIn K (.ref fI)=some (.type "function")
 st:EStore K C
theorem OwnI.op {K:PySem.W.Frag}{C fI:Addr}{h:Heap}(O:OwnI K C fI) (X:K.In h):∃ c:ClsD,h.get? C=some (excClassObj c.nm c.q C c.N c.bs c.bm c.hdct c.sn c.sub c.ab c.col c.dd c.k0 c.k1 c.k2 c.k3 c.k5 "ValueError.__new__") ∧
  OwnTail h [.type "ValueError",.type "Exception",.type "BaseException",.type "object"] c.bm∧h.Ns c.N (h.nsMap c.N)∧h.nsMap c.N "__init__"=some (.ref fI):=by
 obtain ⟨c,look0,tok,nok,noi⟩:=cls_op O.ex
 have nsb:h.Ns c.N (h.nsMap c.N):=.of_isNs (PySem.W.isNs_of_in X nok)
 exact ⟨c,X _ _ look0,PySem.W.tail_of_in X tok,nsb,ns_at X nsb noi⟩
def exO (e C:Addr) (d:Option Addr):Heap->Prop:=fun h=>∃ t,h.get? e=some ⟨.ref C,d,.fields #[.ref t,.none,.none,.none,.bool false,.none],#[]⟩
def exH (e C:Addr) (d:Option Addr):HO:=.ext (exO e C d)
theorem exH_ok {P:Program}{w:World}{H:Hp}{h:Heap}{e C:Addr}{d:Option Addr}(q:exO e C d h):ObjOk P w H h e (exH e C d):=by
 obtain ⟨t,he⟩:=id q
 exact ⟨q,⟨_,he⟩,fun h1 h2 ⟨t,a⟩ b=>⟨t,b _ a⟩⟩
theorem exH_get {P:Program}{w:World}{H:Hp}{h:Heap}{e C:Addr}{d:Option Addr}(q:ObjOk P w H h e (exH e C d)):exO e C d h:=q.1
section
variable {X:Cx}{pins:List (Addr × Obj)}{σ:St}{H:Hp}{s:Shared}
theorem Inv.adopt {a:Addr}{o:HO}(I:Inv X pins σ H s) (N:NewAt X pins a) (hn:H a=none) (new:ObjOk X.prog X.w (upd H a o) s.heap a o):Inv X pins σ (upd H a o) s:=by
 have ne:∀ {b:Addr} {u:HO},H b=some u->b ≠ a:=fun q z=>by rw [z,hn] at q;cases q
 refine ⟨I.ok,I.os,I.bare,⟨I.base.keep,I.base.slot,fun b u q n hx=>?_,I.base.there,fun b xs q=>?_,fun b u v q=>?_,fun b ps q=>?_⟩,I.loc,I.cell,?_,fun x c q=>?_,fun p hp=>?_,fun b u q=>?_,I.len⟩
 ·rw [upd_ne (fun z=>by rw [z,N.s0] at q;cases q)];exact I.base.free b u q n hx
 ·have z:=I.base.tups b xs q;rw [upd_ne (ne z)];exact z
 ·have z:=I.base.frzs b u v q;rw [upd_ne (ne z)];exact z
 ·obtain ⟨m,z⟩:=I.base.tbls b ps q;exact ⟨m,by rw [upd_ne (ne z)];exact z⟩
 ·rw [upd_ne (Ne.symm N.loc)];exact I.free
 ·rw [upd_ne (N.cel x c q)];exact I.freeC x c q
 ·obtain ⟨a1,b1,c1,d1,f1⟩:=I.pin p hp
  exact ⟨a1,by rw [upd_ne (N.pin p hp)];exact b1,c1,d1,f1⟩
 ·by_cases hb:b=a
  ·subst hb;rw [upd_same] at q;cases q;exact new
  ·rw [upd_ne hb] at q
   exact (I.hok b u q).stay (fun _ _ _ r=>r) (fun c r=>by rw [upd_ne (ne r)];exact r) fun c xs r=>by rw [upd_ne (ne r)];exact r
theorem Inv.newAt {a:Addr}(I:Inv X pins σ H s) (ha:s.heap.objs.size≤a):NewAt X pins a where
 s0:=Heap.get?_none_of_le (Nat.le_trans I.sz ha)
 loc:=Nat.ne_of_gt (Nat.lt_of_lt_of_le I.lt ha)
 cel:=fun x c e z=>by
  obtain ⟨v,o,q,_⟩:=I.cell x c e
  exact absurd (Nat.lt_of_lt_of_le (Heap.lt_size q) (by rw [z];exact ha)) (Nat.lt_irrefl _)
 fs:=I.nofs ha
 pin:=fun p hp z=>absurd (Nat.lt_of_lt_of_le (Heap.lt_size (I.pin p hp).1) (by rw [z];exact ha)) (Nat.lt_irrefl _)
structure BaseI (K:PySem.W.Frag) (B:Addr):Prop where
 sp:specialIn K (.ref B) "__getattribute__"=some (some (.builtin "type.__getattribute__"))
 rd:readsIn K B (.type "type")=true
 fc:findCls K (.ref B) (.type "type") "__init__"=some (.val (.builtin "ValueError.__init__"))
def kXI (K:PySem.W.Frag) (Q:VK):List V->Hp->Prop:=fun vs H=>∃ e C d fI rest,vs=.ref e::rest∧H e=some (exH e C d)∧OwnI K C fI∧rest.length≤sizeLine∧Q .non H
def tXI (K:PySem.W.Frag) (t:TA):TE:=fun σ H Q=>t σ H (kXI K Q)
theorem pe_xinit {x:Str}{B:Addr}{p apos pos:Pos}{e:Expr}{es:List Expr}{t:TA}{pl:Sem Bool}(hg:Gl X x) (hm:X.mg x=some (.ref B)) (b:BaseI X.K B) (ha:PA X (e::es) t) (hdb:(x == ("__debug__":Str))=false:=by decide)
  (hst:starEach (e::es) X.env=(false,eval e X.env)::starEach es X.env:=by rfl) (hpl:(backTo pos (starEach es X.env)).any (·.1)=false:=by rfl)
  (ht:eval (.Call (.Attribute (.Name x p) "__init__" apos) (e::es) [] pos) X.env=(do
   let ov ←eval (.Name x p) X.env
   standAt apos.atName
   let (f,first) ←holding [ov] (getMethod ov "__init__" pl)
   callWith pos f first (backTo pos (starEach (e::es) X.env)) (backToKw pos (keywordEach [] X.env))):=by rfl) :
  PE X (.Call (.Attribute (.Name x p) "__init__" apos) (e::es) [] pos) (tXI X.K t):=by
 intro pins s σ H Q I h
 refine PySem.W.methodCall_KW (pl:=pl) (ld_glob I hg hm ?_ hdb) ht
 refine method_cls I.kIn b.sp (cls_value I.kIn b.rd b.fc (by decide +kernel) ?_)
 have I1:=I.tok (s.toks+1)
 refine PyProof.Rows.callWith_builtin1 (thn (ha pos pins _ σ H _ I1 h) fun us s1 ⟨vs,H1,J,r1,q1⟩=>?_) hst hpl
 obtain ⟨ex,C,d,fI,rest,rfl,he,O,hl,q⟩:=q1
 cases r1 with
 | cons r rr=>
  cases r
  obtain ⟨t0,h0⟩:=exH_get (J.hok ex _ he)
  obtain ⟨c,hC,T,_,_⟩:=O.op J.kIn
  refine init_base (h:=s1.heap) (g:=s1.gens) (d:=s1.drawn) (t:=s1.toks) (os:=s1.os) PySem.F.excBase_ValueError T hC h0 (by rw [←rr.length];exact hl) fun h' a1 q1 q2=>?_
  have same:upd H1 ex (exH ex C d)=H1:=funext fun b=>by
   by_cases hb:b=ex
   ·rw [hb,upd_same,he]
   ·rw [upd_ne hb]
  have J2:=J.write (t':=s1.toks) (x:=ex) (e:=ex) (o:=exH ex C d) (by rw [he];trivial) (.inl rfl) (fun b u hb z=>q2 b u hb z) ⟨_,q1⟩ (exH_ok ⟨a1,q1⟩)
  rw [same] at J2
  exact ⟨.non,H1,J2,rfl,q⟩
end
end L2
set_option Elab.async false
set_option linter.all false
set_option maxRecDepth 100000
set_option maxHeartbeats 4000000
namespace L2
open PySem PySem.Spec PyProof.Rows PySem.W
def kXS1 (K:PySem.W.Frag) (f:Str) (y:V) (σ:St) (nx:St->Hp->Prop):VK:=fun x H=>∃ e C,x=.ref e∧H e=some (exH e C none)∧EStore K C∧takerIn K C f=some none ∧
 ∀ dx H',H dx=none->dx ≠ e->(∀ b o,b ≠ e->H b=some o->H' b=some o)->H' e=some (exH e C (some dx))->H' dx=some (.xd [(f,y)])->nx σ H'
def kXS0 (K:PySem.W.Frag) (f:Str) (ta:TE) (σ:St) (nx:St->Hp->Prop):VK:=fun y H=>ta σ H (kXS1 K f y σ nx)
def xSetF (K:PySem.W.Frag) (ta tv:TE) (f:Str):TS:=fun D σ H=>tv σ H (kXS0 K f ta σ D.nx)
section
variable {X:Cx}{e o value:Expr}{ta tv:TE}{f:Str}{pos pos':Pos}
theorem ps_xset (ha:PE X o ta) (hv:PE X value tv) (hs:swapsWith value (some (.Attribute o f pos')) pos.line X.env=pure false):PS X (.Assign [.Attribute o f pos'] value pos) (xSetF X.K ta tv f):=by
 intro pins s σ H D I h
 refine plainObj_wpAny_Assign_Attribute (thn (hv pins s σ H _ I h) fun u s1 ⟨y,H1,I1,ry,q⟩=>thn (ha pins s1 σ H1 _ I1 q) fun ov s2 ⟨x,H2,I2,rx,q1⟩=>?_) hs
 obtain ⟨ex,C,rfl,he,st,ht,k⟩:=q1
 obtain rfl:ov=Value.ref ex:=rx
 obtain ⟨t0,h0⟩:=exH_get (I2.hok ex _ he)
 refine set_exc st I2.kIn h0 ht fun h' tk q1 q2 q3=>?_
 have fr:H2 s2.heap.objs.size=none:=I2.hok.fresh (Nat.le_refl _)
 have ne:s2.heap.objs.size ≠ ex:=Nat.ne_of_gt (Heap.lt_size h0)
 have J:=I2.write (t':=tk) (x:=ex) (e:=ex) (o:=exH ex C (some s2.heap.objs.size)) (by rw [he];trivial) (.inl rfl) (fun b u hb z=>q3 b u hb z) ⟨_,q1⟩ (exH_ok ⟨t0,q1⟩)
 have J2:=J.adopt (a:=s2.heap.objs.size) (o:=.xd [(f,y)]) (I2.newAt (Nat.le_refl _)) (by rw [upd_ne ne];exact fr) ⟨_,q2,fun g=>?_⟩
 ·refine ⟨σ,_,J2,k s2.heap.objs.size _ fr ne (fun b u hb z=>?_) ?_ upd_same⟩
  ·rw [upd_ne (ne_of_none z fr),upd_ne hb];exact z
  ·rw [upd_ne (Ne.symm ne),upd_same]
 ·show RelO (List.lookup g [(f,y)]) (if g=f then some u else none)
  by_cases hg:g=f
  ·subst hg
   rw [if_pos rfl,List.lookup_cons_self];exact ry
  ·have hb:(g == f)=false:=beq_eq_false_iff_ne.mpr hg
   rw [if_neg hg,List.lookup_cons,hb];exact True.intro
end
def del (H:Hp) (e:Addr):Hp:=fun b=>if b=e then none else H b
theorem del_same {H:Hp}{e:Addr}:del H e e=none:=if_pos rfl
theorem del_ne {H:Hp}{e b:Addr}(h:b ≠ e):del H e b=H b:=if_neg h
theorem Inv.untrack {X:Cx}{pins:List (Addr × Obj)}{σ:St}{H:Hp}{s:Shared}{e C:Addr}{d:Option Addr}(I:Inv X pins σ H s) (he:H e=some (exH e C d)):Inv X pins σ (del H e) s:=by
 have ne:∀ {b:Addr} {u:HO},H b=some u->u ≠ exH e C d->b ≠ e:=fun q z k=>by rw [k,he] at q;exact z (Option.some.inj q).symm
 have no:∀ {b:Addr},H b=none->del H e b=none:=fun {b} q=>by
  by_cases hb:b=e
  ·rw [hb];exact del_same
  ·rw [del_ne hb];exact q
 refine ⟨I.ok,I.os,I.bare,⟨I.base.keep,I.base.slot,fun b u q n hx=>no (I.base.free b u q n hx),I.base.there,fun b xs q=>?_,fun b u v q=>?_,fun b ps q=>?_⟩,I.loc,I.cell,no I.free,fun x c q=>no (I.freeC x c q),fun p hp=>?_,fun b u q=>?_,I.len⟩
 ·have z:=I.base.tups b xs q;rw [del_ne (ne z (by intro k;cases k))];exact z
 ·have z:=I.base.frzs b u v q;rw [del_ne (ne z (by intro k;cases k))];exact z
 ·obtain ⟨m,z⟩:=I.base.tbls b ps q;exact ⟨m,by rw [del_ne (ne z (by intro k;cases k))];exact z⟩
 ·obtain ⟨a1,b1,c1,d1,f1⟩:=I.pin p hp
  exact ⟨a1,no b1,c1,d1,f1⟩
 ·have hb:b ≠ e:=fun z=>by rw [z,del_same] at q;cases q
  rw [del_ne hb] at q
  exact (I.hok b u q).stay (fun _ _ _ r=>r) (fun c r=>by rw [del_ne (ne r (by intro k;cases k))];exact r) fun c xs r=>by rw [del_ne (ne r (by intro k;cases k))];exact r
def RaisesD (X:Cx) (E:XK) (σ:St):Prop:=∀ (pins:List (Addr × Obj)) (H:Hp) (s:Shared) (e C:Addr) (d:Option Addr),Inv X pins σ H s->H e=none->X.s₀.heap.get? e=none->exO e C d s.heap->(∀ dx,d=some dx->∃ fs,H dx=some (.xd fs))->E (.ref C) d H->X.xe (.ref e) s
theorem raisesD_def {P:Program}{w:World}{K:PySem.W.Frag}{mg:Str->Option Value}{base:Heap}{N:List Str}{qual:Str}{scope:Scope}{f:Addr}{cd:Value}{A:Around}{outer:List Env}{s₀:Shared}{H₀:Hp}{E:XK}{σ:St} :
  RaisesD (cxOf (CX1 P w) P w K mg base N qual scope f cd A outer s₀ H₀ E) E σ:=by
 intro pins H s e C d I hn hn0 hx hd hE
 obtain ⟨t,he⟩:=hx
 show wpAny (model P w) (A.deeper (envOfC qual scope s₀.heap.objs.size f cd)) (leaving (envOfC qual scope s₀.heap.objs.size f cd) (.ref e)) _ _ _
 unfold leaving
 have un:Un (frs outer) [] H₀ H s₀.heap s.heap:=I.base
 refine wpAny_bind (note_new (s:=s) (base:=base) (outer:=outer) I.ok.frames I.stack rfl he rfl rfl rfl fun g T ng nT ex=>?_)
 refine ⟨e,T,.ref C,d,H,rfl,I.os,I.bare,un.noted ng hn0 (fun _ z=>z.elim) (fun b hb=>?_),I.hok.noted ng hn (fun _ z=>z.elim) I.stkFree,hn0,un.gone nT,hn,I.hok.gone nT,ex,hd,hE⟩
 rcases List.mem_cons.mp (I.stkSub b hb) with z|z
 ·exact .inr (by rw [z];exact Heap.get?_none_of_le (Nat.le_refl _))
 ·exact .inl z
theorem raise_made {M:Model}{A:Around}{E:Value->Shared->Prop}{env:Env}{s:Shared}{x:Sem Value}{Q:Flow->Shared->Prop}{C:Addr}(hh:A.handled=none)
  (h:wpAny M A x (fun v s1=>∃ (e:Addr) (d:Option Addr) (c:ClsD) (newId:String),v=.ref e∧s1.heap.get? C=some (excClassObj c.nm c.q C c.N c.bs c.bm c.hdct c.sn c.sub c.ab c.col c.dd c.k0 c.k1 c.k2 c.k3 c.k5 newId)∧c.bm.contains (.type "BaseException")=true∧exO e C d s1.heap∧E (.ref e) s1) E s) :
  wpAny M A (raiseStmt env (some x) none) Q E s:=by
 unfold raiseStmt
 refine wpAny_bind (wpAny_mono h (fun v s1 h1=>?_) fun _ _ z=>z)
 obtain ⟨e,d,c,newId,rfl,hC,hb,⟨t,he⟩,hE⟩:=h1
 have hcB:(Value.ref C::c.bm).contains (.type "BaseException")=true:=by rw [List.contains_cons,hb,Bool.or_true]
 obtain ⟨hp,g,dr,tk,os⟩:=s1
 repeat (first|with_reducible refine wpAny_loadPart_at he ?_|with_reducible refine wpAny_loadPart_at hC ?_|(with_reducible refine wpAny_isSubtype_exc hC ?_;rw [hcB])|wp_step)
 exact wpAny_raiseNew_none hh hE
section
variable {X:Cx}
def kRz (e C:Addr) (E:XK):VK:=fun v H=>v=.non∧∃ d,H e=some (exH e C d)∧(∀ dx,d=some dx->∃ fs,del H e dx=some (.xd fs))∧E (.ref C) d (del H e)
def kRI (C:Addr) (sp:Sp) (E:XK):List V->Hp->Prop:=fun vs H=>vs.length≤sizeLine∧∀ e,H e=none->sp (.ref e::vs) (upd H e (exH e C none)) (kRz e C E) E0
def tRaiseI (C:Addr) (sp:Sp) (E:St->XK) (t:TA):TS:=fun _ σ H=>t σ H (kRI C sp (E σ))
theorem ps_raiseI {C fI:Addr}{fd:FuncData}{ps:List Str}{sp:Sp}{k:Nat}{x:Str}{e₀:Expr}{rest:List Expr}{np cpos pos:Pos}{t:TA}{E:St->XK}(hc:X.calm=true) (hg:Gl X x) (hmg:X.mg x=some (.ref C)) (O:OwnI X.K C fI)
  (F:FnOk X.prog X.w X.K X.mg X.base CX0 k fI fd ps sp) (hr:Room (k+1) X.A) (hb:Binds X.K fd ps []) (hx:∀ σ,RaisesD X (E σ) σ) (ha:PA X (e₀::rest) t)
  (he:starEach (e₀::rest) X.env=(false,eval e₀ X.env)::starEach rest X.env:=by rfl) (hplain:(backTo cpos (starEach rest X.env)).any (·.1)=false:=by rfl) (hdb:(x == ("__debug__":Str))=false:=by decide) :
  PS X (.Raise (some (.Call (.Name x np) (e₀::rest) [] cpos)) none pos) (tRaiseI C sp E t):=by
 intro pins s σ H D I h
 rw [arm_exec_Raise]
 refine wpAny_bind (wpAny_standAt (raise_made (C:=C) (I.ok.hd hc) (wpAny_bind (wpAny_mono (wpAny_Call_ofName (ld_glob I hg hmg ?_ hdb)) (fun v s3 h3=>wpAny_bind (wpAny_standAt (wpAny_pure h3))) fun _ _ z=>z))))
 unfold callWith
 have hh:=ha cpos pins s σ H _ I h
 rw [he] at hh ⊢
 refine wpAny_bind (wpAny_holding (Calls.evalArgs_plain (thn hh fun us s2 ⟨vs,H2,I2,r,hl,hsp⟩=>wpAny_bind (wpAny_standAt ?_))))
 obtain ⟨c,hC,T,hN,hi⟩:=O.op I2.kIn
 have hpl2:(backTo cpos ((false,eval e₀ X.env)::starEach rest X.env)).any (·.1)=false:=(Bool.false_or _).trans hplain
 have I3:Inv X pins σ (upd H2 (s2.heap.objs.size+1) (exH (s2.heap.objs.size+1) C none)) { s2 with heap:=exNew C us s2.heap }:=by
  have J:=I2.kept (t':=s2.toks) (h':=s2.heap.push { cls:=.type "tuple",data:=.seq us.toArray }) fun b u q=>Heap.get?_push_of_some _ q
  refine J.laid (t':=s2.toks) (a:=s2.heap.objs.size+1) (o:=exH (s2.heap.objs.size+1) C none) (fun b u q=>Heap.get?_push_of_some _ q) (Nat.le_of_eq (Heap.size_push _ _)) (exH_ok ⟨s2.heap.objs.size,?_⟩)
  have:=Heap.get?_push_size (s2.heap.push { cls:=.type "tuple",data:=.seq us.toArray }) (o:=⟨.ref C,none,.fields #[.ref s2.heap.objs.size,.none,.none,.none,.bool false,.none],#[]⟩) rfl
  rwa [Heap.size_push] at this
 have hq:=hsp (s2.heap.objs.size+1) (I2.hok.fresh (Nat.le_succ _))
 have r2:Vals (V.ref (s2.heap.objs.size+1)::vs) (Value.ref (s2.heap.objs.size+1)::us):=.cons rfl r
 have hl2:(Value.ref (s2.heap.objs.size+1)::us++[]).length=ps.length:=by
  rw [List.append_nil,←r2.length];exact F.len _ _ _ _ hq
 simp only [hpl2]
 refine wpAny_bind (wpAny_keeperOf_exc (h:=s2.heap) (g:=s2.gens) (d:=s2.drawn) (t:=s2.toks) (os:=s2.os) hC ?_)
 refine wpAny_bind (wpAny_call (exc_own (h:=s2.heap) (g:=s2.gens) (d:=s2.drawn) (t:=s2.toks) (os:=s2.os) PySem.F.excBase_ValueError (by decide +kernel) PySem.F.excBase_ValueError T hC hN hi I2.kIn O.fn (by show us.length≤sizeLine;rw [←r.length];exact hl) ?_))
 have hbind:=hb { s2 with heap:=exNew C us s2.heap } (Value.ref (s2.heap.objs.size+1)::us) I3.kIn hl2
 rw [List.append_nil] at hbind
 refine codeAny_mono (F.run _ X.stack _ _ ⟨Value.ref (s2.heap.objs.size+1)::us,[]⟩ (Value.ref (s2.heap.objs.size+1)::us) _ _ E0 (hr.make C us []) (I3.env0.make C us []) hbind r2 hq) fun rr s' hq'=>?_
 cases rr with
 | error e=>exact hq'.elim
 | ok fl=>
  cases fl with
  | ret u=>
   obtain ⟨v,H',I4,rv,rfl,d,hd1,hd2,hE⟩:=I3.after hq'
   cases rv
   refine ⟨rfl,wpAny_bind (wpAny_holding (wpAny_point (wpAny_pure ?_)))⟩
   obtain ⟨c',hC',T',_,_⟩:=O.op I4.kIn
   exact ⟨s2.heap.objs.size+1,d,c',_,rfl,hC',T'.hasType (by decide +kernel),exH_get (I4.hok _ _ hd1),
    hx σ pins (del H' (s2.heap.objs.size+1)) s' _ C d (I4.untrack hd1) del_same (Heap.get?_none_of_le (Nat.le_trans I2.sz (Nat.le_succ _))) (exH_get (I4.hok _ _ hd1)) hd2 hE⟩
  | next=>exact False.elim hq'
  | brk=>exact False.elim hq'
  | cont=>exact False.elim hq'
def kXF (K:PySem.W.Frag) (f:Str) (Q:VK):VK:=fun x H=>∃ e oe C dx fs v,x=.ref e∧H e=some (excO oe)∧oe.cls=.ref C∧oe.dict=some dx∧(∃ vs,oe.data=.fields vs)∧H dx=some (.xd fs)∧ECls K C∧NoAttr K C f∧fs.lookup f=some v∧Q v H
def tXF (K:PySem.W.Frag) (ta:TE) (f:Str):TE:=fun σ H Q=>ta σ H (kXF K f Q)
theorem pe_xfld {e:Expr}{f:Str}{pos:Pos}{ta:TE}(he:PE X e ta) (hb:attributeBase e f X.env (eval e X.env)=eval e X.env):PE X (.Attribute e f pos) (tXF X.K ta f):=by
 intro pins s σ H Q I h
 refine attr_of hb (thn (he pins s σ H _ I h) fun u s1 ⟨x,H1,I1,rx,q1⟩=>?_)
 obtain ⟨ex,oe,C,dx,fs,v,rfl,hx,hcl,hd,⟨vs,hdat⟩,hxd,c,n,l,q⟩:=q1
 obtain rfl:u=Value.ref ex:=rx
 have h1:s1.heap.get? ex=some oe:=(I1.hok ex _ hx).1
 obtain ⟨mA,hn,hr⟩:=I1.hok dx _ hxd
 obtain ⟨u,hu,ru⟩:=RelO.some_of (v:=v) (o:=mA f) (by rw [←l];exact hr f)
 exact exc_get c I1.kIn h1 hcl (by unfold notCls;rw [hdat]) hd hn n hu (handed_of ru) ⟨v,H1,I1.tok _,ru,q⟩
theorem pe_xfld' {K:PySem.W.Frag}(hK:X.K=K){e:Expr}{f:Str}{pos:Pos}{ta:TE}(he:PE X e ta) (hb:attributeBase e f X.env (eval e X.env)=eval e X.env):PE X (.Attribute e f pos) (tXF K ta f):=hK ▸ pe_xfld he hb
end
end L2
set_option Elab.async false
set_option linter.all false
set_option maxRecDepth 100000
set_option maxHeartbeats 4000000
namespace L2
open PySem
open PySem.Spec PyProof.Rows
theorem gName_0 {a:Option V}{v:V}{σ:St}{H:Hp}{Q:St->Hp->Prop}:gName 0 v (a::σ) H Q=Q (some v::σ) H:=rfl
theorem gName_1 {a0:Option V}{a:Option V}{v:V}{σ:St}{H:Hp}{Q:St->Hp->Prop}:gName 1 v (a0::a::σ) H Q=Q (a0::some v::σ) H:=rfl
theorem gName_2 {a0 a1:Option V}{a:Option V}{v:V}{σ:St}{H:Hp}{Q:St->Hp->Prop}:gName 2 v (a0::a1::a::σ) H Q=Q (a0::a1::some v::σ) H:=rfl
theorem gName_3 {a0 a1 a2:Option V}{a:Option V}{v:V}{σ:St}{H:Hp}{Q:St->Hp->Prop}:gName 3 v (a0::a1::a2::a::σ) H Q=Q (a0::a1::a2::some v::σ) H:=rfl
theorem gName_4 {a0 a1 a2 a3:Option V}{a:Option V}{v:V}{σ:St}{H:Hp}{Q:St->Hp->Prop}:gName 4 v (a0::a1::a2::a3::a::σ) H Q=Q (a0::a1::a2::a3::some v::σ) H:=rfl
theorem gName_5 {a0 a1 a2 a3 a4:Option V}{a:Option V}{v:V}{σ:St}{H:Hp}{Q:St->Hp->Prop}:gName 5 v (a0::a1::a2::a3::a4::a::σ) H Q=Q (a0::a1::a2::a3::a4::some v::σ) H:=rfl
theorem gName_6 {a0 a1 a2 a3 a4 a5:Option V}{a:Option V}{v:V}{σ:St}{H:Hp}{Q:St->Hp->Prop}:gName 6 v (a0::a1::a2::a3::a4::a5::a::σ) H Q=Q (a0::a1::a2::a3::a4::a5::some v::σ) H:=rfl
theorem gName_7 {a0 a1 a2 a3 a4 a5 a6:Option V}{a:Option V}{v:V}{σ:St}{H:Hp}{Q:St->Hp->Prop}:gName 7 v (a0::a1::a2::a3::a4::a5::a6::a::σ) H Q=Q (a0::a1::a2::a3::a4::a5::a6::some v::σ) H:=rfl
theorem gName_8 {a0 a1 a2 a3 a4 a5 a6 a7:Option V}{a:Option V}{v:V}{σ:St}{H:Hp}{Q:St->Hp->Prop}:gName 8 v (a0::a1::a2::a3::a4::a5::a6::a7::a::σ) H Q=Q (a0::a1::a2::a3::a4::a5::a6::a7::some v::σ) H:=rfl
theorem gName_9 {a0 a1 a2 a3 a4 a5 a6 a7 a8:Option V}{a:Option V}{v:V}{σ:St}{H:Hp}{Q:St->Hp->Prop}:gName 9 v (a0::a1::a2::a3::a4::a5::a6::a7::a8::a::σ) H Q=Q (a0::a1::a2::a3::a4::a5::a6::a7::a8::some v::σ) H:=rfl
theorem gName_10 {a0 a1 a2 a3 a4 a5 a6 a7 a8 a9:Option V}{a:Option V}{v:V}{σ:St}{H:Hp}{Q:St->Hp->Prop}:gName 10 v (a0::a1::a2::a3::a4::a5::a6::a7::a8::a9::a::σ) H Q=Q (a0::a1::a2::a3::a4::a5::a6::a7::a8::a9::some v::σ) H:=rfl
theorem gName_11 {a0 a1 a2 a3 a4 a5 a6 a7 a8 a9 a10:Option V}{a:Option V}{v:V}{σ:St}{H:Hp}{Q:St->Hp->Prop}:gName 11 v (a0::a1::a2::a3::a4::a5::a6::a7::a8::a9::a10::a::σ) H Q=Q (a0::a1::a2::a3::a4::a5::a6::a7::a8::a9::a10::some v::σ) H:=rfl
theorem gName_12 {a0 a1 a2 a3 a4 a5 a6 a7 a8 a9 a10 a11:Option V}{a:Option V}{v:V}{σ:St}{H:Hp}{Q:St->Hp->Prop}:gName 12 v (a0::a1::a2::a3::a4::a5::a6::a7::a8::a9::a10::a11::a::σ) H Q=Q (a0::a1::a2::a3::a4::a5::a6::a7::a8::a9::a10::a11::some v::σ) H:=rfl
def optK {α:Type}:Option α->(α->Prop)->Prop
 | some x,k=>k x
 | none,_=>False
theorem optK_some {α:Type}(x:α) (k:α->Prop):optK (some x) k=k x:=rfl
theorem optK_ex {α:Type}{o:Option α}{k:α->Prop}(h:optK o k):∃ x,o=some x∧k x:=by
 cases o with
 | none=>exact h.elim
 | some x=>exact ⟨x,rfl,h⟩
def seqO:HO->Option (List V)
 | .lst xs=>some xs
 | .tup xs=>some xs
 | .frz _ (.lst xs)=>some xs
 | _=>none
def lstO:HO->Option (List V)
 | .lst xs=>some xs
 | _=>none
def tupO:HO->Option (List V)
 | .tup xs=>some xs
 | _=>none
def itemsAt (H:Hp) (p:Addr):Option (List V):=(H p).bind seqO
def lstAt (H:Hp) (p:Addr):Option (List V):=(H p).bind lstO
def tupAt (H:Hp) (p:Addr):Option (List V):=(H p).bind tupO
theorem seqO_lst (xs:List V):seqO (.lst xs)=some xs:=rfl
theorem seqO_tup (xs:List V):seqO (.tup xs)=some xs:=rfl
theorem lstO_lst (xs:List V):lstO (.lst xs)=some xs:=rfl
theorem tupO_tup (xs:List V):tupO (.tup xs)=some xs:=rfl
theorem bind_some' {α β:Type}(x:α) (f:α->Option β):(some x).bind f=f x:=rfl
abbrev Ext (H H':Hp):Prop:=(∀ a,(H a).isSome=true->H' a=H a)∧∀ (K:PySem.W.Frag) a xs,SqL K H a xs->SqL K H' a xs
def kOp' (r:R2) (x:V) (Q:VK):VK:=fun y H=>r x y H Q
theorem m_kOp' (r:R2) (x y:V) (H:Hp) (Q:VK):(kOp' r x Q y H)=(r x y H Q):=rfl
def kOp (r:R2) (tb:TE) (σ:St) (Q:VK):VK:=fun x H=>tb σ H (kOp' r x Q)
theorem m_kOp (r:R2) (tb:TE) (σ:St) (Q:VK) (x:V) (H:Hp):(kOp r tb σ Q x H)=(tb σ H (kOp' r x Q)):=rfl
theorem m_tOp (r:R2) (ta tb:TE) (σ:St) (H:Hp) (Q:VK):(tOp r ta tb σ H Q)=(ta σ H (kOp r tb σ Q)):=rfl
theorem m_tC (v:V) (σ:St) (H:Hp) (Q:VK):(tC v σ H Q)=(Q v H):=rfl
def kUn (r:V->Hp->VK->Prop) (Q:VK):VK:=fun x H=>r x H Q
theorem m_kUn (r:V->Hp->VK->Prop) (Q:VK) (x:V) (H:Hp):(kUn r Q x H)=(r x H Q):=rfl
theorem m_tUn (r:V->Hp->VK->Prop) (ta:TE) (σ:St) (H:Hp) (Q:VK):(tUn r ta σ H Q)=(ta σ H (kUn r Q)):=rfl
def kTest (Q:Bool->Hp->Prop):VK:=fun x H=>∃ k,x=.bl k∧Q k H
def kNot (Q:Bool->Hp->Prop):Bool->Hp->Prop:=fun c H=>Q (!c) H
theorem m_kNot (Q:Bool->Hp->Prop) (c:Bool) (H:Hp):(kNot Q c H)=(Q (!c) H):=rfl
theorem m_tNot (t:TT) (σ:St) (H:Hp) (Q:Bool->Hp->Prop):(tNot t σ H Q)=(t σ H (kNot Q)):=rfl
def kAnd (u:TT) (σ:St) (Q:Bool->Hp->Prop):Bool->Hp->Prop:=fun c H=>if c=true then u σ H Q else Q false H
theorem m_kAnd (u:TT) (σ:St) (Q:Bool->Hp->Prop) (c:Bool) (H:Hp):(kAnd u σ Q c H)=(if c=true then u σ H Q else Q false H):=rfl
theorem m_tAnd (t u:TT) (σ:St) (H:Hp) (Q:Bool->Hp->Prop):(tAnd t u σ H Q)=(t σ H (kAnd u σ Q)):=rfl
def kOr (u:TT) (σ:St) (Q:Bool->Hp->Prop):Bool->Hp->Prop:=fun c H=>if c=true then Q true H else u σ H Q
theorem m_kOr (u:TT) (σ:St) (Q:Bool->Hp->Prop) (c:Bool) (H:Hp):(kOr u σ Q c H)=(if c=true then Q true H else u σ H Q):=rfl
theorem m_tOr (t u:TT) (σ:St) (H:Hp) (Q:Bool->Hp->Prop):(tOr t u σ H Q)=(t σ H (kOr u σ Q)):=rfl
def kAndV (tb:TE) (σ:St) (Q:VK):VK:=fun x H=>∃ c,x=.bl c∧if c=true then tb σ H Q else Q (.bl false) H
def kOrV (tb:TE) (σ:St) (Q:VK):VK:=fun x H=>∃ c,x=.bl c∧if c=true then Q (.bl true) H else tb σ H Q
def kNotV (Q:VK):VK:=fun x H=>∃ c,x=.bl c∧Q (.bl (!c)) H
def kIfE (ta tb:TE) (σ:St) (Q:VK):Bool->Hp->Prop:=fun c H=>if c=true then ta σ H Q else tb σ H Q
theorem m_kIfE (ta tb:TE) (σ:St) (Q:VK) (c:Bool) (H:Hp):(kIfE ta tb σ Q c H)=(if c=true then ta σ H Q else tb σ H Q):=rfl
theorem m_tIf (t:TT) (ta tb:TE) (σ:St) (H:Hp) (Q:VK):(tIf t ta tb σ H Q)=(t σ H (kIfE ta tb σ Q)):=rfl
def kCh3 (r':R2) (y:V) (Q:VK):VK:=fun w H=>r' y w H Q
theorem m_kCh3 (r':R2) (y w:V) (Q:VK) (H:Hp):(kCh3 r' y Q w H)=(r' y w H Q):=rfl
def kCh2 (r':R2) (tc:TE) (σ:St) (y:V) (Q:VK):VK:=fun z H=>∃ k,z=.bl k∧(if k=true then tc σ H (kCh3 r' y Q) else Q (.bl false) H)
def kCh1 (r r':R2) (tc:TE) (σ:St) (x:V) (Q:VK):VK:=fun y H=>r x y H (kCh2 r' tc σ y Q)
def kCh0 (r r':R2) (tb tc:TE) (σ:St) (Q:VK):VK:=fun x H=>tb σ H (kCh1 r r' tc σ x Q)
theorem m_tNil (σ:St) (H:Hp) (Q:List V->Hp->Prop):(tNil σ H Q)=(Q [] H):=rfl
def kCons' (x:V) (Q:List V->Hp->Prop):List V->Hp->Prop:=fun xs H=>Q (x::xs) H
theorem m_kCons' (x:V) (Q:List V->Hp->Prop) (xs:List V) (H:Hp):(kCons' x Q xs H)=(Q (x::xs) H):=rfl
def kCons (tr:TA) (σ:St) (Q:List V->Hp->Prop):VK:=fun x H=>tr σ H (kCons' x Q)
theorem m_kCons (tr:TA) (σ:St) (Q:List V->Hp->Prop) (x:V) (H:Hp):(kCons tr σ Q x H)=(tr σ H (kCons' x Q)):=rfl
theorem m_tCons (ta:TE) (tr:TA) (σ:St) (H:Hp) (Q:List V->Hp->Prop):(tCons ta tr σ H Q)=(ta σ H (kCons tr σ Q)):=rfl
def kCall (sp:Sp) (dvs:List V) (E:XK) (Q:VK):List V->Hp->Prop:=fun vs H=>sp (vs++dvs) H Q E
theorem m_kCall_1 (v0:V) (sp:Sp) (dvs:List V) (E:XK) (Q:VK) (H:Hp):kCall sp dvs E Q [v0] H=sp (v0::dvs) H Q E:=rfl
theorem m_kCall_2 (v0 v1:V) (sp:Sp) (dvs:List V) (E:XK) (Q:VK) (H:Hp):kCall sp dvs E Q [v0,v1] H=sp (v0::v1::dvs) H Q E:=rfl
theorem m_kCall_3 (v0 v1 v2:V) (sp:Sp) (dvs:List V) (E:XK) (Q:VK) (H:Hp):kCall sp dvs E Q [v0,v1,v2] H=sp (v0::v1::v2::dvs) H Q E:=rfl
theorem m_tCall (sp:Sp) (dvs:List V) (E:XK) (t:TA) (σ:St) (H:Hp) (Q:VK):(tCall sp dvs E t σ H Q)=(t σ H (kCall sp dvs E Q)):=rfl
def kCB (r:List V->Hp->VK->Prop) (Q:VK):List V->Hp->Prop:=fun vs H=>r vs H Q
theorem m_kCB (r:List V->Hp->VK->Prop) (Q:VK) (vs:List V) (H:Hp):(kCB r Q vs H)=(r vs H Q):=rfl
theorem m_tCB (r:List V->Hp->VK->Prop) (t:TA) (σ:St) (H:Hp) (Q:VK):(tCB r t σ H Q)=(t σ H (kCB r Q)):=rfl
theorem m_tNext (nx:St->Hp->Prop) (rt:VK) (bk ct:St->Hp->Prop) (σ:St) (H:Hp):(tNext ⟨nx,rt,bk,ct⟩ σ H)=(nx σ H):=rfl
theorem m_tSeq (t u:TS) (nx:St->Hp->Prop) (rt:VK) (bk ct:St->Hp->Prop) (σ:St) (H:Hp):(tSeq t u ⟨nx,rt,bk,ct⟩ σ H)=(t ⟨u ⟨nx,rt,bk,ct⟩,rt,bk,ct⟩ σ H):=rfl
theorem m_tRet (te:TE) (nx:St->Hp->Prop) (rt:VK) (bk ct:St->Hp->Prop) (σ:St) (H:Hp):(tRet te ⟨nx,rt,bk,ct⟩ σ H)=(te σ H rt):=rfl
def kDrop (nx:St->Hp->Prop) (σ:St):VK:=fun x H=>nx σ H
theorem m_kDrop (nx:St->Hp->Prop) (σ:St) (x:V) (H:Hp):(kDrop nx σ x H)=(nx σ H):=rfl
theorem m_tDrop (te:TE) (nx:St->Hp->Prop) (rt:VK) (bk ct:St->Hp->Prop) (σ:St) (H:Hp):(tDrop te ⟨nx,rt,bk,ct⟩ σ H)=(te σ H (kDrop nx σ)):=rfl
def kIfS (t u:TS) (D:Ends) (σ:St):Bool->Hp->Prop:=fun b H=>if b=true then t D σ H else u D σ H
theorem m_kIfS (t u:TS) (D:Ends) (σ:St) (b:Bool) (H:Hp):(kIfS t u D σ b H)=(if b=true then t D σ H else u D σ H):=rfl
theorem m_tIfS (c:TT) (t u:TS) (D:Ends) (σ:St) (H:Hp):(tIfS c t u D σ H)=(c σ H (kIfS t u D σ)):=rfl
def kAsg (g:TG) (σ:St) (nx:St->Hp->Prop):VK:=fun x H=>g x σ H nx
theorem m_kAsg (g:TG) (σ:St) (nx:St->Hp->Prop) (x:V) (H:Hp):(kAsg g σ nx x H)=(g x σ H nx):=rfl
theorem m_tAsg (te:TE) (g:TG) (nx:St->Hp->Prop) (rt:VK) (bk ct:St->Hp->Prop) (σ:St) (H:Hp):(tAsg te g ⟨nx,rt,bk,ct⟩ σ H)=(te σ H (kAsg g σ nx)):=rfl
def kGs (u:TGs) (r:List V) (Q:St->Hp->Prop):St->Hp->Prop:=fun σ' H'=>u r σ' H' Q
theorem m_kGs (u:TGs) (r:List V) (Q:St->Hp->Prop) (σ:St) (H:Hp):(kGs u r Q σ H)=(u r σ H Q):=rfl
end L2
set_option Elab.async false
set_option linter.all false
set_option maxRecDepth 100000
set_option maxHeartbeats 4000000
namespace L2
open PySem PySem.Spec PyProof.Rows
section
variable {X:Cx}
theorem OpR.mono {f:Value->Value->Sem Value}{r r':R2}(h:OpR X f r) (m:∀ x y H Q,r' x y H Q->r x y H Q):OpR X f r':=fun pins s σ H x y v u Q I rx ry hq=>h pins s σ H x y v u Q I rx ry (m _ _ _ _ hq)
theorem CallR.mono {f:Value}{r r':List V->Hp->VK->Prop}(h:CallR X f r) (m:∀ xs H Q,r' xs H Q->r xs H Q):CallR X f r':=fun pins s σ H xs us Q I rx hq=>h pins s σ H xs us Q I rx (m _ _ _ hq)
theorem IxR.mono {r r':R2}(h:IxR X r) (m:∀ x y H Q,r' x y H Q->r x y H Q):IxR X r':=fun a b pins s σ H x y v u Q I rx ry hq=>h a b pins s σ H x y v u Q I rx ry (m _ _ _ _ hq)
theorem PG.mono {tg:Expr}{g g':TG}(h:PG X tg g) (m:∀ v σ H Q,g' v σ H Q->g v σ H Q):PG X tg g':=fun pins s σ H v u Q I r hq=>h pins s σ H v u Q I r (m _ _ _ _ hq)
theorem items_seq {K:PySem.W.Frag}{H:Hp}{p:Addr}{ys:List V}(h:itemsAt H p=some ys):SqL K H p ys∨SqT K H p ys:=by
 unfold itemsAt at h
 cases e:H p with
 | none=>rw [e] at h;cases h
 | some o=>
  rw [e] at h
  have h':seqO o=some ys:=h
  cases o with
  | lst xs=>cases h';exact .inl (SqL.of e)
  | tup xs=>cases h';exact .inr (SqT.of e)
  | frz ob u=>
   cases u with
   | lst xs=>cases h';exact .inl (.inl (.inr ⟨ob,e⟩))
   | _=>cases h'
  | _=>cases h'
theorem lst_of {H:Hp}{p:Addr}{ys:List V}(h:lstAt H p=some ys):H p=some (.lst ys):=by
 unfold lstAt at h
 cases e:H p with
 | none=>rw [e] at h;cases h
 | some o=>
  rw [e] at h
  have h':lstO o=some ys:=h
  cases o with
  | lst xs=>cases h';rfl
  | _=>cases h'
theorem tup_of {H:Hp}{p:Addr}{ys:List V}(h:tupAt H p=some ys):H p=some (.tup ys):=by
 unfold tupAt at h
 cases e:H p with
 | none=>rw [e] at h;cases h
 | some o=>
  rw [e] at h
  have h':tupO o=some ys:=h
  cases o with
  | tup xs=>cases h';rfl
  | _=>cases h'
def kLen (H:Hp) (Q:VK):List V->Prop:=fun ys=>Q (.int ys.length) H
theorem m_kLen (H:Hp) (Q:VK) (ys:List V):kLen H Q ys=Q (.int ys.length) H:=rfl
def qLen (xs:List V) (H:Hp) (Q:VK):Prop:=match xs with
 | [.ref p]=>optK (itemsAt H p) (kLen H Q)
 | [.str z]=>z.length≤sizeLine∧Q (.int z.length) H
 | _=>False
theorem m_qLen (p:Addr) (H:Hp) (Q:VK):qLen [.ref p] H Q=optK (itemsAt H p) (kLen H Q):=rfl
theorem call_qLen:CallR X (.builtin "len") qLen:=by
 refine (call_len_seq.or call_len_str).mono fun xs H Q h=>?_
 unfold qLen at h
 split at h
 ·rename_i p
  obtain ⟨ys,e,q⟩:=optK_ex h
  exact .inl ⟨p,ys,rfl,items_seq e,q⟩
 ·rename_i z
  exact .inr ⟨z,rfl,h.1,h.2⟩
 ·exact h.elim
def kIx' (H:Hp) (Q:VK):V->Prop:=fun v=>Q v H
theorem m_kIx' (H:Hp) (Q:VK) (v:V):kIx' H Q v=Q v H:=rfl
def kIx (i:Int) (H:Hp) (Q:VK):List V->Prop:=fun ys=>optK (atI ys i) (kIx' H Q)
theorem m_kIx (i:Int) (H:Hp) (Q:VK) (ys:List V):kIx i H Q ys=optK (atI ys i) (kIx' H Q):=rfl
def qIx:R2:=fun x y H Q=>match x,y with
 | .ref p,.int i=>optK (itemsAt H p) (kIx i H Q)
 | _,_=>False
theorem m_qIx (p:Addr) (i:Int) (H:Hp) (Q:VK):qIx (.ref p) (.int i) H Q=optK (itemsAt H p) (kIx i H Q):=rfl
theorem ix_q:IxR X qIx:=by
 refine (ix_list.or ix_tup).mono fun x y H Q h=>?_
 unfold qIx at h
 split at h
 ·rename_i p i
  obtain ⟨ys,e,q⟩:=optK_ex h
  obtain ⟨v,e2,q2⟩:=optK_ex q
  rcases items_seq (K:=X.K) e with z|z
  ·exact .inl ⟨p,ys,i,v,rfl,rfl,z,e2,q2⟩
  ·exact .inr ⟨p,ys,i,v,rfl,rfl,z,e2,q2⟩
 ·exact h.elim
theorem atI_0 {α:Type}(a:α) (xs:List α):atI (a::xs) 0=some a:=atI_nat (j:=0) rfl
theorem atI_1 {α:Type}(a b:α) (xs:List α):atI (a::b::xs) 1=some b:=atI_nat (j:=1) rfl
def kNewL (H:Hp) (Q:VK):List V->Prop:=fun ys=>∀ l,H l=none->Q (.ref l) (upd H l (.lst ys))
def qList (xs:List V) (H:Hp) (Q:VK):Prop:=match xs with
 | [.ref p]=>optK (itemsAt H p) (kNewL H Q)
 | _=>False
theorem call_qList:CallR X (.type "list") qList:=by
 refine call_list_of.mono fun xs H Q h=>?_
 unfold qList at h
 split at h
 ·rename_i p
  obtain ⟨ys,e,q⟩:=optK_ex h
  exact ⟨p,ys,rfl,items_seq e,q⟩
 ·exact h.elim
def qMax (xs:List V) (H:Hp) (Q:VK):Prop:=match xs with
 | [.int i,.int j]=>Q (.int (if i < j then j else i)) H
 | _=>False
theorem m_qMax (i j:Int) (H:Hp) (Q:VK):qMax [.int i,.int j] H Q=Q (.int (if i < j then j else i)) H:=rfl
theorem call_qMax (hc:X.calm=true):CallR X (.builtin "max") qMax:=by
 refine (call_max2 hc).mono fun xs H Q h=>?_
 unfold qMax at h
 split at h
 ·rename_i i j;exact ⟨i,j,rfl,h⟩
 ·exact h.elim
def qMin (xs:List V) (H:Hp) (Q:VK):Prop:=match xs with
 | [.int i,.int j]=>Q (.int (if j < i then j else i)) H
 | _=>False
theorem m_qMin (i j:Int) (H:Hp) (Q:VK):qMin [.int i,.int j] H Q=Q (.int (if j < i then j else i)) H:=rfl
theorem call_qMin (hc:X.calm=true):CallR X (.builtin "min") qMin:=by
 refine (call_min2 hc).mono fun xs H Q h=>?_
 unfold qMin at h
 split at h
 ·rename_i i j;exact ⟨i,j,rfl,h⟩
 ·exact h.elim
def tyO:HO->Option String
 | .lst _=>some "list"
 | .tup _=>some "tuple"
 | .frz _ (.lst _)=>some "list"
 | .dK _=>some "dict"
 | .dT _=>some "dict"
 | _=>none
theorem tyO_lst (xs:List V):tyO (.lst xs)=some "list":=rfl
theorem tyO_tup (xs:List V):tyO (.tup xs)=some "tuple":=rfl
def tyN (H:Hp):V->Option String
 | .non=>some "NoneType"
 | .bl _=>some "bool"
 | .int _=>some "int"
 | .str _=>some "str"
 | .ref p=>(H p).bind tyO
 | _=>none
theorem tyN_non (H:Hp):tyN H .non=some "NoneType":=rfl
theorem tyN_bl (H:Hp) (b:Bool):tyN H (.bl b)=some "bool":=rfl
theorem tyN_int (H:Hp) (i:Int):tyN H (.int i)=some "int":=rfl
theorem tyN_str (H:Hp) (x:Str):tyN H (.str x)=some "str":=rfl
theorem tyN_ref (H:Hp) (p:Addr):tyN H (.ref p)=(H p).bind tyO:=rfl
theorem tyN_ok {K:PySem.W.Frag}{H:Hp}{x:V}{t:String}(h:tyN H x=some t):TyOf K H x (.type t):=by
 cases x with
 | non=>cases h;exact .non
 | bl b=>cases h;exact .bl b
 | int i=>cases h;exact .int i
 | str x=>cases h;exact .str x
 | ref p=>
  have h':(H p).bind tyO=some t:=h
  cases e:H p with
  | none=>rw [e] at h';cases h'
  | some o=>
   rw [e] at h'
   have h2:tyO o=some t:=h'
   cases o with
   | lst xs=>cases h2;exact .lst e
   | tup xs=>cases h2;exact .tup e
   | dK xs=>cases h2;exact .dK e
   | dT xs=>cases h2;exact .dT e
   | frz ob u=>
    cases u with
    | lst xs=>cases h2;exact .frz e
    | _=>cases h2
   | _=>cases h2
 | _=>cases h
def kTypes:List String:=["NoneType", "bool", "int", "str", "list", "tuple", "dict"]
def isiN (t n:String):Bool:=t == n || (t == "bool" && n == "int")
theorem kit_isiN (K:PySem.W.Frag):∀ t∈kTypes,∀ n∈kTypes,PySem.W.kitOne K (.type t) (.type n)=some (isiN t n):=by
 intro t ht n hn
 unfold kTypes at ht hn
 simp only [List.mem_cons,List.not_mem_nil,or_false] at ht hn
 rcases ht with rfl|rfl|rfl|rfl|rfl|rfl|rfl<;>rcases hn with rfl|rfl|rfl|rfl|rfl|rfl|rfl<;>exact kitOne_ty K _ _ _ (by decide +kernel)
def kIsi (n:String) (H:Hp) (Q:VK):String->Prop:=fun t=>t∈kTypes∧Q (.bl (isiN t n)) H
def qIsi (xs:List V) (H:Hp) (Q:VK):Prop:=match xs with
 | [x,.ty n]=>n∈kTypes∧optK (tyN H x) (kIsi n H Q)
 | _=>False
theorem call_qIsi:CallR X (.builtin "isinstance") qIsi:=by
 refine call_isi.mono fun xs H Q h=>?_
 unfold qIsi at h
 split at h
 ·rename_i x n
  obtain ⟨hn,h⟩:=h
  obtain ⟨t,e,ht,q⟩:=optK_ex h
  exact ⟨x,n,_,_,rfl,tyN_ok e,kit_isiN _ t ht n hn,q⟩
 ·exact h.elim
theorem m_qIsi_int (x:V) (H:Hp) (Q:VK):qIsi [x,.ty "int"] H Q=optK (tyN H x) (kIsi "int" H Q):=by
 unfold qIsi;exact propext ⟨fun h=>h.2,fun h=>⟨by decide,h⟩⟩
theorem m_qIsi_bool (x:V) (H:Hp) (Q:VK):qIsi [x,.ty "bool"] H Q=optK (tyN H x) (kIsi "bool" H Q):=by
 unfold qIsi;exact propext ⟨fun h=>h.2,fun h=>⟨by decide,h⟩⟩
theorem m_qIsi_tuple (x:V) (H:Hp) (Q:VK):qIsi [x,.ty "tuple"] H Q=optK (tyN H x) (kIsi "tuple" H Q):=by
 unfold qIsi;exact propext ⟨fun h=>h.2,fun h=>⟨by decide,h⟩⟩
theorem m_qIsi_list (x:V) (H:Hp) (Q:VK):qIsi [x,.ty "list"] H Q=optK (tyN H x) (kIsi "list" H Q):=by
 unfold qIsi;exact propext ⟨fun h=>h.2,fun h=>⟨by decide,h⟩⟩
theorem m_kIsi_Ni (H:Hp) (Q:VK):kIsi "int" H Q "NoneType"=Q (.bl false) H:=propext ⟨fun h=>h.2,fun h=>⟨by decide,h⟩⟩
theorem m_kIsi_bb (H:Hp) (Q:VK):kIsi "bool" H Q "bool"=Q (.bl true) H:=propext ⟨fun h=>h.2,fun h=>⟨by decide,h⟩⟩
theorem m_kIsi_bi (H:Hp) (Q:VK):kIsi "int" H Q "bool"=Q (.bl true) H:=propext ⟨fun h=>h.2,fun h=>⟨by decide,h⟩⟩
theorem m_kIsi_ib (H:Hp) (Q:VK):kIsi "bool" H Q "int"=Q (.bl false) H:=propext ⟨fun h=>h.2,fun h=>⟨by decide,h⟩⟩
theorem m_kIsi_ii (H:Hp) (Q:VK):kIsi "int" H Q "int"=Q (.bl true) H:=propext ⟨fun h=>h.2,fun h=>⟨by decide,h⟩⟩
theorem m_kIsi_si (H:Hp) (Q:VK):kIsi "int" H Q "str"=Q (.bl false) H:=propext ⟨fun h=>h.2,fun h=>⟨by decide,h⟩⟩
theorem m_kIsi_li (H:Hp) (Q:VK):kIsi "int" H Q "list"=Q (.bl false) H:=propext ⟨fun h=>h.2,fun h=>⟨by decide,h⟩⟩
theorem m_kIsi_ll (H:Hp) (Q:VK):kIsi "list" H Q "list"=Q (.bl true) H:=propext ⟨fun h=>h.2,fun h=>⟨by decide,h⟩⟩
theorem m_kIsi_ti (H:Hp) (Q:VK):kIsi "int" H Q "tuple"=Q (.bl false) H:=propext ⟨fun h=>h.2,fun h=>⟨by decide,h⟩⟩
theorem m_kIsi_tt (H:Hp) (Q:VK):kIsi "tuple" H Q "tuple"=Q (.bl true) H:=propext ⟨fun h=>h.2,fun h=>⟨by decide,h⟩⟩
theorem m_kIsi_di (H:Hp) (Q:VK):kIsi "int" H Q "dict"=Q (.bl false) H:=propext ⟨fun h=>h.2,fun h=>⟨by decide,h⟩⟩
def kBM' (r:V->List V->Hp->VK->Prop) (x:V) (Q:VK):List V->Hp->Prop:=fun xs H=>r x xs H Q
theorem m_kBM' (r:V->List V->Hp->VK->Prop) (x:V) (Q:VK) (xs:List V) (H:Hp):kBM' r x Q xs H=r x xs H Q:=rfl
def kBM (K:PySem.W.Frag) (T:String) (r:V->List V->Hp->VK->Prop) (t:TA) (σ:St) (Q:VK):VK:=fun x H=>tyV K T x H∧t σ H (kBM' r x Q)
theorem m_kBM (K:PySem.W.Frag) (T:String) (r:V->List V->Hp->VK->Prop) (t:TA) (σ:St) (Q:VK) (x:V) (H:Hp):kBM K T r t σ Q x H=(tyV K T x H∧t σ H (kBM' r x Q)):=rfl
theorem m_tBM (K:PySem.W.Frag) (T:String) (r:V->List V->Hp->VK->Prop) (to:TE) (t:TA) (σ:St) (H:Hp) (Q:VK):tBM K T r to t σ H Q=to σ H (kBM K T r t σ Q):=rfl
theorem tyV_list (K:PySem.W.Frag) (p:Addr) (H:Hp) (h:(lstAt H p).isSome=true):tyV K "list" (.ref p) H=True:=by
 cases e:lstAt H p with
 | none=>rw [e] at h;cases h
 | some ys=>exact eq_true (.inl ⟨rfl,ys,SqL.of (lst_of e)⟩)
def kApp (l:Addr) (y:V) (H:Hp) (Q:VK):List V->Prop:=fun xs=>xs.length < sizeLine∧Q .non (upd H l (.lst (xs++[y])))
theorem m_kApp (l:Addr) (y:V) (H:Hp) (Q:VK) (xs:List V):kApp l y H Q xs=(xs.length < sizeLine∧Q .non (upd H l (.lst (xs++[y])))):=rfl
theorem m_rAppend (l:Addr) (y:V) (H:Hp) (Q:VK):rAppend (.ref l) [y] H Q=optK (lstAt H l) (kApp l y H Q):=by
 refine propext ⟨fun h=>?_,fun h=>?_⟩
 ·obtain ⟨_,xs,_,e1,e2,e3,a,b⟩:=h
  cases e1;cases e2
  have e:lstAt H l=some xs:=by unfold lstAt;rw [e3];rfl
  rw [e];exact ⟨a,b⟩
 ·obtain ⟨xs,e,a,b⟩:=optK_ex h
  exact ⟨l,xs,y,rfl,rfl,lst_of e,a,b⟩
def kCat2 (xs:List V) (H:Hp) (Q:VK):List V->Prop:=fun ys=>xs.length+ys.length≤sizeLine∧∀ p,H p=none->Q (.ref p) (upd H p (.lst (xs++ys)))
def kCat1 (b:Addr) (H:Hp) (Q:VK):List V->Prop:=fun xs=>optK (lstAt H b) (kCat2 xs H Q)
theorem m_rCat (l b:Addr) (H:Hp) (Q:VK):rCat (.ref l) (.ref b) H Q=optK (lstAt H l) (kCat1 b H Q):=by
 refine propext ⟨fun h=>?_,fun h=>?_⟩
 ·obtain ⟨l',b',xs,zs,e1,e2,e3,e4,hz,hq⟩:=h
  cases e1;cases e2
  have e:lstAt H l=some xs:=by unfold lstAt;rw [e3];rfl
  have e':lstAt H b=some zs:=by unfold lstAt;rw [e4];rfl
  rw [e]
  show optK (lstAt H b) _
  rw [e'];exact ⟨hz,hq⟩
 ·obtain ⟨xs,e,q⟩:=optK_ex h
  obtain ⟨zs,e',a,q⟩:=optK_ex q
  exact ⟨l,b,xs,zs,rfl,rfl,lst_of e,lst_of e',a,q⟩
def kGT (n:Nat) (t:TGs) (σ:St) (H:Hp) (Q:St->Hp->Prop):List V->Prop:=fun xs=>xs.length=n∧t xs σ H Q
theorem m_kGT (n:Nat) (t:TGs) (σ:St) (H:Hp) (Q:St->Hp->Prop) (xs:List V):kGT n t σ H Q xs=(xs.length=n∧t xs σ H Q):=rfl
def qGT (n:Nat) (t:TGs):TG:=fun v σ H Q=>match v with
 | .ref a=>optK (tupAt H a) (kGT n t σ H Q)
 | _=>False
theorem m_qGT (n:Nat) (t:TGs) (a:Addr) (σ:St) (H:Hp) (Q:St->Hp->Prop):qGT n t (.ref a) σ H Q=optK (tupAt H a) (kGT n t σ H Q):=rfl
theorem gTup_q {K:PySem.W.Frag}{n:Nat}{t:TGs}{v:V}{σ:St}{H:Hp}{Q:St->Hp->Prop}(h:qGT n t v σ H Q):gTup K n t v σ H Q:=by
 unfold qGT at h
 split at h
 ·rename_i a
  obtain ⟨xs,e,hl,q⟩:=optK_ex h
  exact ⟨a,xs,rfl,SqT.of (tup_of e),hl,q⟩
 ·exact h.elim
def kBody (tb:TS) (D:Ends):St->Hp->Prop:=fun σ H=>tb D σ H
theorem m_kBody (tb:TS) (D:Ends) (σ:St) (H:Hp):kBody tb D σ H=tb D σ H:=rfl
def kFor (g:TG) (tb:TS) (D:Ends) (σ:St) (J:It) (H1:Hp):Prop:=∃ W:Nat->Nat->St->Hp->Prop,(∃ m,W 0 m σ H1)∧∀ i m σ H,W i m σ H →
 (J.stop i H∧D.nx σ H)∨(J.go i H∧∃ N:St->Hp->Prop,(∀ σ' H',N σ' H'->∃ m',m' < m∧W (i+1) m' σ' H')∧∀ x H',J.yld i H x H'->g x σ H' fun σ2 H2=>tb { D with nx:=N,ct:=N,bk:=D.nx } σ2 H2)
theorem m_tFor (wi:TI) (g:TG) (tb:TS) (D:Ends) (σ:St) (H:Hp):tFor wi g tb D σ H=wi σ H (kFor g tb D σ):=rfl
def kR1 (R:It->Hp->Prop):List V->Hp->Prop:=fun vs H=>∃ j:Int,vs=[.int j]∧-(2 ^ 62)≤j∧j < 2 ^ 62∧R (Itr 0 j.toNat) H
theorem m_kR1 (R:It->Hp->Prop) (j:Int) (H:Hp):kR1 R [.int j] H=(-(2 ^ 62)≤j∧j < 2 ^ 62∧R (Itr 0 j.toNat) H):=propext ⟨fun ⟨_,e,q⟩=>by cases e;exact q,fun q=>⟨j,rfl,q⟩⟩
theorem m_iRng1 (ta:TA) (σ:St) (H:Hp) (R:It->Hp->Prop):iRng1 ta σ H R=ta σ H (kR1 R):=rfl
def kR2 (R:It->Hp->Prop):List V->Hp->Prop:=fun vs H=>∃ i j:Int,vs=[.int i,.int j]∧(-(2 ^ 62)≤i∧i < 2 ^ 62∧-(2 ^ 62)≤j∧j < 2 ^ 62)∧R (Itr i (j - i).toNat) H
theorem m_kR2 (R:It->Hp->Prop) (i j:Int) (H:Hp):kR2 R [.int i,.int j] H=((-(2 ^ 62)≤i∧i < 2 ^ 62∧-(2 ^ 62)≤j∧j < 2 ^ 62)∧R (Itr i (j - i).toNat) H):=propext ⟨fun ⟨_,_,e,q⟩=>by cases e;exact q,fun q=>⟨i,j,rfl,q⟩⟩
theorem m_iRng2 (ta:TA) (σ:St) (H:Hp) (R:It->Hp->Prop):iRng2 ta σ H R=ta σ H (kR2 R):=rfl
def kISq' (K:PySem.W.Frag) (a:Addr) (H:Hp) (R:It->Hp->Prop):HO->Prop:=fun o=>match o with
 | .lst _=>R (Itl K a) H
 | .frz _ (.lst _)=>R (Itl K a) H
 | .tup _=>R (Itt K a) H
 | _=>False
theorem m_kISq'_l (K:PySem.W.Frag) (a:Addr) (H:Hp) (R:It->Hp->Prop) (xs:List V):kISq' K a H R (.lst xs)=R (Itl K a) H:=rfl
def kISq (K:PySem.W.Frag) (R:It->Hp->Prop):VK:=fun x H=>match x with
 | .ref a=>optK (H a) (kISq' K a H R)
 | _=>False
theorem m_kISq (K:PySem.W.Frag) (R:It->Hp->Prop) (a:Addr) (H:Hp):kISq K R (.ref a) H=optK (H a) (kISq' K a H R):=rfl
def iSeq (K:PySem.W.Frag) (tl:TE):TI:=fun σ H R=>tl σ H (kISq K R)
theorem m_iSeq (K:PySem.W.Frag) (tl:TE) (σ:St) (H:Hp) (R:It->Hp->Prop):iSeq K tl σ H R=tl σ H (kISq K R):=rfl
theorem pi_seq {tg l:Expr}{tl:TE}(hl:PE X l tl):PI X tg l (iSeq X.K tl):=by
 intro pins s σ H R I h
 refine thn (hl pins s σ H _ I h) fun v s1 ⟨x,H1,I1,r1,q1⟩=>?_
 unfold kISq at q1
 split at q1
 ·rename_i a
  cases r1
  obtain ⟨o,e,q⟩:=optK_ex q1
  have fp:∀ b∈[s1.heap.objs.size],FpOk X pins H1 b:=fun b hb=>by
   have e:b=s1.heap.objs.size:=by simpa using hb
   subst e
   exact I1.fpOk (Nat.le_refl _) (I1.hok.fresh (Nat.le_refl _))
  have lst:∀ xs,SqL X.K H1 a xs->R (Itl X.K a) H1->wpAny (model X.prog X.w) X.A (pyIter (.ref a)) (PIE X pins σ tg R) X.xe s1:=fun xs hq q=>by
   obtain ⟨its,rv,p,hz⟩:=I1.list hq
   refine wpAny_pyIter_list p.isList ?_
   exact ⟨s1.heap.objs.size,[s1.heap.objs.size],_,_,H1,rfl,I1.kept (t':=s1.toks) fun b o e=>Heap.get?_push_of_some _ e,turn_list a _,⟨_,Heap.get?_push_size _ rfl,rfl,rfl⟩,fp,q⟩
  unfold kISq' at q
  split at q
  ·exact lst _ (SqL.of e) q
  ·exact lst _ (.inl (.inr ⟨_,e⟩)) q
  ·obtain ⟨its,rv,p,hz⟩:=I1.tuple (SqT.of e)
   refine wpAny_pyIter_tuple (show s1.heap.IsTuple a its.toArray from p) ?_
   exact ⟨s1.heap.objs.size,[s1.heap.objs.size],_,_,H1,rfl,I1.kept (t':=s1.toks) fun b o e=>Heap.get?_push_of_some _ e,turn_tuple a _,⟨_,Heap.get?_push_size _ rfl,rfl,rfl⟩,fp,q⟩
  ·exact q.elim
 ·exact q1.elim
theorem for_rng {lo:Int}{n:Nat}{g:TG}{tb:TS}{nx:St->Hp->Prop}{rt:VK}{bk ct:St->Hp->Prop}{σ:St}{H:Hp}(Pv:Nat->St->Hp->Prop) (h0:Pv 0 σ H)
  (hs:∀ i σ H,i < n->Pv i σ H->g (.int (lo+i)) σ H (kBody tb ⟨Pv (i+1),rt,nx,Pv (i+1)⟩)) (hd:∀ σ H,Pv n σ H->nx σ H):kFor g tb ⟨nx,rt,bk,ct⟩ σ (Itr lo n) H:=for_range Pv h0 hs hd
theorem for_lst {K:PySem.W.Frag}{a:Addr}{xs:List V}{g:TG}{tb:TS}{nx:St->Hp->Prop}{rt:VK}{bk ct:St->Hp->Prop}{σ:St}{H:Hp}(Pv:Nat->St->Hp->Prop) (h0:Pv 0 σ H) (hl:∀ i σ H,i≤xs.length->Pv i σ H->H a=some (.lst xs))
  (hs:∀ i x σ H,xs[i]? = some x->Pv i σ H->g x σ H (kBody tb ⟨Pv (i+1),rt,nx,Pv (i+1)⟩)) (hd:∀ σ H,Pv xs.length σ H->nx σ H):kFor g tb ⟨nx,rt,bk,ct⟩ σ (Itl K a) H:=for_list (xs:=xs) Pv h0 (fun i σ H hi p=>SqL.of (hl i σ H hi p)) hs hd
end
end L2
set_option Elab.async false
set_option linter.all false
set_option maxRecDepth 100000
set_option maxHeartbeats 4000000
namespace L2
open PySem PySem.Spec PyProof.Rows
theorem m_tCallX (sp:Sp) (dvs:List V) (E:St->XK) (t:TA) (σ:St) (H:Hp) (Q:VK):tCallX sp dvs E t σ H Q=t σ H (kCall sp dvs (E σ) Q):=rfl
def kTry (th:Value->Option Addr->TS) (D:Ends):St->XK:=fun σ cls d H=>th cls d D σ H
theorem m_kTry (th:Value->Option Addr->TS) (D:Ends) (σ:St) (cls:Value) (d:Option Addr) (H:Hp):kTry th D σ cls d H=th cls d D σ H:=rfl
theorem m_tTry (tb:(St->XK)->TS) (th:Value->Option Addr->TS) (D:Ends) (σ:St) (H:Hp):tTry tb th D σ H=tb (kTry th D) D σ H:=rfl
def kRaise (C:Addr) (E:XK):List V->Hp->Prop:=fun vs H=>vs.length≤sizeLine∧E (.ref C) none H
theorem m_kRaise (C:Addr) (E:XK) (vs:List V) (H:Hp):kRaise C E vs H=(vs.length≤sizeLine∧E (.ref C) none H):=rfl
theorem m_tRaise (C:Addr) (E:St->XK) (t:TA) (D:Ends) (σ:St) (H:Hp):tRaise C E t D σ H=t σ H (kRaise C (E σ)):=rfl
def kSetE (i:Nat) (tb:TS) (D:Ends):St->Hp->Prop:=fun σ H=>tb D σ H
theorem m_kSetE (i:Nat) (tb:TS) (D:Ends) (σ:St) (H:Hp):kSetE i tb D σ H=tb D σ H:=rfl
theorem m_del (i:Nat) (nx:St->Hp->Prop) (rt:VK) (bk ct:St->Hp->Prop):Ends.del i ⟨nx,rt,bk,ct⟩=⟨kDel i nx,rt,kDel i bk,kDel i ct⟩:=rfl
theorem m_kDel (i:Nat) (nx:St->Hp->Prop) (σ:St) (H:Hp):kDel i nx σ H=gDel i σ H nx:=rfl
theorem m_gDel_3 {a0 a1 a2:Option V}{a:Option V}{σ:St}{H:Hp}{Q:St->Hp->Prop}:gDel 3 (a0::a1::a2::a::σ) H Q=Q (a0::a1::a2::none::σ) H:=rfl
theorem m_dictO_none (H:Hp):dictO H none=True:=rfl
theorem m_dictO_some (H:Hp) (dx:Addr):dictO H (some dx)=optK (H dx) kXd:=by
 refine propext ⟨fun ⟨o,h,k⟩=>by rw [h];exact k,fun h=>?_⟩
 obtain ⟨o,e,k⟩:=optK_ex h
 exact ⟨o,e,k⟩
theorem m_kXd (fs:List (Str × V)):kXd (.xd fs)=True:=rfl
def refC:Value->Option Addr
 | .ref C=>some C
 | _=>none
theorem refC_ref (C:Addr):refC (.ref C)=some C:=rfl
def clsV:V->Option Value
 | .ref C=>some (.ref C)
 | .ty n=>some (.type n)
 | _=>none
theorem clsV_ref (C:Addr):clsV (.ref C)=some (.ref C):=rfl
theorem clsV_ty (n:String):clsV (.ty n)=some (.type n):=rfl
def kE4 (H:Hp) (Q:VK):Bool->Prop:=fun b=>Q (.bl b) H
theorem m_kE4 (H:Hp) (Q:VK) (b:Bool):kE4 H Q b=Q (.bl b) H:=rfl
def kE3 (K:PySem.W.Frag) (C:Addr) (H:Hp) (Q:VK):Value->Prop:=fun u=>optK (PySem.W.kitOne K (.ref C) u) (kE4 H Q)
theorem m_kE3 (K:PySem.W.Frag) (C:Addr) (H:Hp) (Q:VK) (u:Value):kE3 K C H Q u=optK (PySem.W.kitOne K (.ref C) u) (kE4 H Q):=rfl
def kE2 (K:PySem.W.Frag) (oe:Obj) (D:V) (H:Hp) (Q:VK):Addr->Prop:=fun C=>dictO H oe.dict∧(∃ vs,oe.data=.fields vs)∧ECls K C∧optK (clsV D) (kE3 K C H Q)
theorem m_kE2 (K:PySem.W.Frag) (oe:Obj) (D:V) (H:Hp) (Q:VK) (C:Addr):kE2 K oe D H Q C=(dictO H oe.dict∧(∃ vs,oe.data=.fields vs)∧ECls K C∧optK (clsV D) (kE3 K C H Q)):=rfl
def kE1 (K:PySem.W.Frag) (D:V) (H:Hp) (Q:VK):HO->Prop:=fun o=>match o with
 | .frz oe (.ext _)=>optK (refC oe.cls) (kE2 K oe D H Q)
 | _=>False
theorem m_kE1 (K:PySem.W.Frag) (D:V) (H:Hp) (Q:VK) (oe:Obj):kE1 K D H Q (excO oe)=optK (refC oe.cls) (kE2 K oe D H Q):=rfl
def qIsE (K:PySem.W.Frag) (xs:List V) (H:Hp) (Q:VK):Prop:=match xs with
 | [.ref e,D]=>optK (H e) (kE1 K D H Q)
 | _=>False
theorem m_qIsE (K:PySem.W.Frag) (e:Addr) (D:V) (H:Hp) (Q:VK):qIsE K [.ref e,D] H Q=optK (H e) (kE1 K D H Q):=rfl
theorem call_qIsE {X:Cx}:CallR X (.builtin "isinstance") (qIsE X.K):=by
 refine call_isiE.mono fun xs H Q h=>?_
 unfold qIsE at h
 split at h
 ·rename_i e D
  obtain ⟨o,h1,h⟩:=optK_ex h
  unfold kE1 at h
  split at h
  ·rename_i oe φ
   obtain ⟨C,h2,h⟩:=optK_ex h
   obtain ⟨h3,h4,h5,h⟩:=h
   obtain ⟨u,h6,h⟩:=optK_ex h
   obtain ⟨b,h7,h⟩:=optK_ex h
   have hc:oe.cls=.ref C:=by
    cases q:oe.cls with
    | ref C'=>rw [q] at h2;cases h2;rfl
    | _=>rw [q] at h2;cases h2
   refine ⟨e,oe,C,D,b,rfl,⟨_,h1⟩,hc,h3,h4,h5,⟨u,?_,h7⟩,h⟩
   cases D with
   | ref a=>cases h6;rfl
   | ty n=>cases h6;rfl
   | _=>cases h6
  ·exact h.elim
 ·exact h.elim
def kC3 (D:Addr) (ys:List V) (N:List V->Hp->Prop):VK:=fun y H=>H D=some (.lst ys)∧ys.length < sizeLine∧N (ys++[y]) (upd H D (.lst (ys++[y])))
def kC2 (te:TE) (σ2:St) (D:Addr) (ys:List V) (N:List V->Hp->Prop):Bool->Hp->Prop:=fun b H=>if b=true then te σ2 H (kC3 D ys N) else N ys H
def kC1 (k:Nat) (tt:TT) (te:TE) (σ:St) (D:Addr) (ys:List V) (N:List V->Hp->Prop):St->Hp->Prop:=fun σ2 H=>(∃ vs:St,vs.length=k∧σ2=vs++σ)∧tt σ2 H (kC2 te σ2 D ys N)
theorem m_tYes (σ:St) (H:Hp) (Q:Bool->Hp->Prop):tYes σ H Q=Q true H:=rfl
def kComp (k:Nat) (g:TG) (tt:TT) (te:TE) (σ:St) (Q:VK):It->Hp->Prop:=fun J H1=>∀ D,H1 D=none->∃ W:Nat->Nat->List V->Hp->Prop,(∃ m,W 0 m [] (upd H1 D (.lst [])))∧∀ i m ys H,W i m ys H →
 (J.stop i H∧Q (.ref D) H)∨(J.go i H∧∃ N:List V->Hp->Prop,(∀ ys' H',N ys' H'->∃ m',m' < m∧W (i+1) m' ys' H') ∧
  ∀ x H',J.yld i H x H'->g x (List.replicate k none++σ) H' (kC1 k tt te σ D ys N))
theorem m_tComp (k:Nat) (wi:TI) (g:TG) (tt:TT) (te:TE) (σ:St) (H:Hp) (Q:VK):tComp k wi g tt te σ H Q=wi σ H (kComp k g tt te σ Q):=rfl
def kSetC (i:Nat) (σ:St) (nx:St->Hp->Prop):VK:=fun x H=>gName i x σ H nx
theorem m_kSetC (i:Nat) (σ:St) (nx:St->Hp->Prop) (x:V) (H:Hp):kSetC i σ nx x H=gName i x σ H nx:=rfl
theorem m_tSetC (i:Nat) (te:TE) (nx:St->Hp->Prop) (rt:VK) (bk ct:St->Hp->Prop) (σ:St) (H:Hp):tSetC i te ⟨nx,rt,bk,ct⟩ σ H=te σ H (kSetC i σ nx):=rfl
section
variable {k:Nat}{g:TG}{tt:TT}{te:TE}{σ:St}{Q:VK}{H:Hp}{K:PySem.W.Frag}
end
def allSome {α:Type}:List (Option α)->Option (List α)
 | []=>some []
 | o::r=>o.bind fun x=>(allSome r).map fun xs=>x::xs
def datO (f:V->Option PyData):HO->Option PyData
 | .lst xs=>(allSome (xs.map f)).map .list
 | .tup xs=>(allSome (xs.map f)).map .tuple
 | _=>none
def datF (H:Hp) (f:V->Option PyData):V->Option PyData
 | .non=>some .none
 | .bl b=>some (.bool b)
 | .int i=>some (.int i)
 | .str z=>if PyData.strOk z=true then some (.str z) else none
 | .ref p=>(H p).bind (datO f)
 | _=>none
def datV (H:Hp):Nat->V->Option PyData
 | 0,_=>none
 | n+1,x=>datF H (datV H n) x
def noD:V->Option PyData:=fun _=>none
theorem m_datV (H:Hp) (x:V):datV H 6 x=datF H (datF H (datF H (datF H (datF H (datF H noD))))) x:=rfl
theorem m_datV_str (H:Hp) (n:Nat) (z:Str):datV H (n+1) (.str z)=if PyData.strOk z=true then some (.str z) else none:=rfl
theorem m_datV_ref (H:Hp) (n:Nat) (p:Addr):datV H (n+1) (.ref p)=(H p).bind (datO (datV H n)):=rfl
theorem m_datF_int (H:Hp) (f:V->Option PyData) (i:Int):datF H f (.int i)=some (.int i):=rfl
theorem m_datF_ref (H:Hp) (f:V->Option PyData) (p:Addr):datF H f (.ref p)=(H p).bind (datO f):=rfl
theorem m_datO_lst (f:V->Option PyData) (xs:List V):datO f (.lst xs)=(allSome (xs.map f)).map .list:=rfl
theorem m_datO_tup (f:V->Option PyData) (xs:List V):datO f (.tup xs)=(allSome (xs.map f)).map .tuple:=rfl
theorem m_allSome_nil {α:Type}:allSome ([]:List (Option α))=some []:=rfl
theorem m_allSome_cons {α:Type}(x:α) (r:List (Option α)):allSome (some x::r)=(allSome r).map fun xs=>x::xs:=rfl
theorem allSome_ints (H:Hp) (f:V->Option PyData):∀ ns:List Int,allSome ((ns.map V.int).map (datF H f))=some (ns.map PyData.int)
 | []=>rfl
 | i::r=>by
  show (allSome ((r.map V.int).map (datF H f))).map _=_
  rw [allSome_ints H f r];rfl
theorem datVs_ok {K:PySem.W.Frag}{H:Hp}{n:Nat}(ih:∀ x d,datV H n x=some d->DatV K H x d∧d.canLay0=true∧d.depth≤n):∀ (xs:List V) (ds:List PyData),allSome (xs.map (datV H n))=some ds->DatVs K H xs ds∧PyData.canLayAll0 ds=true∧PyData.depthAll ds≤n
 | [],ds,h=>by cases h;exact ⟨.nil,rfl,Nat.zero_le _⟩
 | x::xs,ds,h=>by
  have h':(datV H n x).bind (fun d=>(allSome (xs.map (datV H n))).map fun ds=>d::ds)=some ds:=h
  cases e:datV H n x with
  | none=>rw [e] at h';cases h'
  | some d=>
   rw [e] at h'
   have h2:(allSome (xs.map (datV H n))).map (fun ds=>d::ds)=some ds:=h'
   cases e2:allSome (xs.map (datV H n)) with
   | none=>rw [e2] at h2;cases h2
   | some es=>
    rw [e2] at h2
    cases h2
    obtain ⟨a,b,c⟩:=ih x d e
    obtain ⟨a',b',c'⟩:=datVs_ok ih xs es e2
    exact ⟨.cons a a',by simp [PyData.canLayAll0,b,b'],by simp only [PyData.depthAll];omega⟩
theorem datV_ok {K:PySem.W.Frag}{H:Hp}:∀ (n:Nat) (x:V) (d:PyData),datV H n x=some d->DatV K H x d∧d.canLay0=true∧d.depth≤n
 | 0,x,d,h=>by cases h
 | n+1,x,d,h=>by
  cases x with
  | non=>cases h;exact ⟨.non,rfl,Nat.zero_le _⟩
  | bl b=>cases h;exact ⟨.bl b,rfl,Nat.zero_le _⟩
  | int i=>cases h;exact ⟨.int i,rfl,Nat.zero_le _⟩
  | str z=>
   rw [m_datV_str] at h
   split at h
   ·rename_i hz;cases h;exact ⟨.str z,by simpa [PyData.canLay0] using hz,Nat.zero_le _⟩
   ·cases h
  | ref p=>
   rw [m_datV_ref] at h
   cases e:H p with
   | none=>rw [e] at h;cases h
   | some o=>
    rw [e] at h
    have h':datO (datV H n) o=some d:=h
    cases o with
    | lst xs=>
     rw [m_datO_lst] at h'
     cases e2:allSome (xs.map (datV H n)) with
     | none=>rw [e2] at h';cases h'
     | some ds=>
      rw [e2] at h';cases h'
      obtain ⟨a,b,c⟩:=datVs_ok (K:=K) (datV_ok n) xs ds e2
      exact ⟨.lst (SqL.of e) a,by simpa [PyData.canLay0] using b,by simp only [PyData.depth];omega⟩
    | tup xs=>
     rw [m_datO_tup] at h'
     cases e2:allSome (xs.map (datV H n)) with
     | none=>rw [e2] at h';cases h'
     | some ds=>
      rw [e2] at h';cases h'
      obtain ⟨a,b,c⟩:=datVs_ok (K:=K) (datV_ok n) xs ds e2
      exact ⟨.tup (SqT.of e) a,by simpa [PyData.canLay0] using b,by simp only [PyData.depth];omega⟩
    | _=>cases h'
  | _=>cases h
theorem datV_shaped {K:PySem.W.Frag}{H:Hp}{n:Nat}{x:V}{d:PyData}(hn:n≤64) (h:datV H n x=some d):DatV K H x d∧SeqAt.shaped d=true:=by
 obtain ⟨a,b,c⟩:=datV_ok (K:=K) n x d h
 refine ⟨a,?_⟩
 unfold SeqAt.shaped
 rw [b,decide_eq_true (show d.depth≤64 by omega)]
 rfl
def kEq2 (neg:Bool) (H:Hp) (Q:VK) (d:PyData):PyData->Prop:=fun e=>Q (.bl (if neg=true then !PyData.eqv d e else PyData.eqv d e)) H
theorem m_kEq2_t (H:Hp) (Q:VK) (d e:PyData):kEq2 true H Q d e=Q (.bl (!PyData.eqv d e)) H:=rfl
def kEq1 (neg:Bool) (y:V) (H:Hp) (Q:VK):PyData->Prop:=fun d=>optK (datV H 6 y) (kEq2 neg H Q d)
theorem m_kEq1 (neg:Bool) (y:V) (H:Hp) (Q:VK) (d:PyData):kEq1 neg y H Q d=optK (datV H 6 y) (kEq2 neg H Q d):=rfl
def qEq (neg:Bool):R2:=fun x y H Q=>if scal x y=true then Q (.bl (if neg=true then !decide (x=y) else decide (x=y))) H else optK (datV H 6 x) (kEq1 neg y H Q)
theorem m_qEq_refr (neg:Bool) (p:Addr) (x:V) (H:Hp) (Q:VK):qEq neg x (.ref p) H Q=optK (datV H 6 x) (kEq1 neg (.ref p) H Q):=by
 show (if scal x (.ref p)=true then _ else _)=_
 rw [if_neg (by cases x<;>exact Bool.false_ne_true)]
theorem m_qEq_int_int (i:Int) (j:Int) (H:Hp) (Q:VK):qEq false (V.int i) (V.int j) H Q=Q (.bl (decide (i=j))) H:=by
 have e:decide (((V.int i):V)=(V.int j))=decide (i=j):=by simp
 show Q (.bl (if false=true then !decide ((V.int i)=(V.int j)) else decide ((V.int i)=(V.int j)))) H=_
 rw [e];rfl
theorem m_qNe_int_int (i:Int) (j:Int) (H:Hp) (Q:VK):qEq true (V.int i) (V.int j) H Q=Q (.bl (!decide (i=j))) H:=by
 have e:decide (((V.int i):V)=(V.int j))=decide (i=j):=by simp
 show Q (.bl (if true=true then !decide ((V.int i)=(V.int j)) else decide ((V.int i)=(V.int j)))) H=_
 rw [e];rfl
theorem m_qEq_bl_bl (i:Bool) (j:Bool) (H:Hp) (Q:VK):qEq false (V.bl i) (V.bl j) H Q=Q (.bl (decide (i=j))) H:=by
 have e:decide (((V.bl i):V)=(V.bl j))=decide (i=j):=by simp
 show Q (.bl (if false=true then !decide ((V.bl i)=(V.bl j)) else decide ((V.bl i)=(V.bl j)))) H=_
 rw [e];rfl
theorem m_qNe_bl_bl (i:Bool) (j:Bool) (H:Hp) (Q:VK):qEq true (V.bl i) (V.bl j) H Q=Q (.bl (!decide (i=j))) H:=by
 have e:decide (((V.bl i):V)=(V.bl j))=decide (i=j):=by simp
 show Q (.bl (if true=true then !decide ((V.bl i)=(V.bl j)) else decide ((V.bl i)=(V.bl j)))) H=_
 rw [e];rfl
theorem m_qEq_str_str (i:Str) (j:Str) (H:Hp) (Q:VK):qEq false (V.str i) (V.str j) H Q=Q (.bl (decide (i=j))) H:=by
 have e:decide (((V.str i):V)=(V.str j))=decide (i=j):=by simp
 show Q (.bl (if false=true then !decide ((V.str i)=(V.str j)) else decide ((V.str i)=(V.str j)))) H=_
 rw [e];rfl
theorem m_qNe_str_str (i:Str) (j:Str) (H:Hp) (Q:VK):qEq true (V.str i) (V.str j) H Q=Q (.bl (!decide (i=j))) H:=by
 have e:decide (((V.str i):V)=(V.str j))=decide (i=j):=by simp
 show Q (.bl (if true=true then !decide ((V.str i)=(V.str j)) else decide ((V.str i)=(V.str j)))) H=_
 rw [e];rfl
section
variable {X:Cx}
theorem op_qEq (hu:X.A.units+64 < cLine):OpR X (compareOp .Eq) (qEq false):=by
 refine (op_eq.or (op_eqD hu)).mono fun x y H Q h=>?_
 unfold qEq at h
 split at h
 ·rename_i hs;exact .inl ⟨hs,h⟩
 obtain ⟨d,e1,h⟩:=optK_ex h
 obtain ⟨e,e2,h⟩:=optK_ex h
 obtain ⟨a,b⟩:=datV_shaped (K:=X.K) (by decide) e1
 obtain ⟨a',b'⟩:=datV_shaped (K:=X.K) (by decide) e2
 exact .inr ⟨d,e,a,a',b,b',h⟩
theorem op_qNe (hu:X.A.units+64 < cLine):OpR X (compareOp .NotEq) (qEq true):=by
 refine (op_ne.or (op_neD hu)).mono fun x y H Q h=>?_
 unfold qEq at h
 split at h
 ·rename_i hs;exact .inl ⟨hs,h⟩
 obtain ⟨d,e1,h⟩:=optK_ex h
 obtain ⟨e,e2,h⟩:=optK_ex h
 obtain ⟨a,b⟩:=datV_shaped (K:=X.K) (by decide) e1
 obtain ⟨a',b'⟩:=datV_shaped (K:=X.K) (by decide) e2
 exact .inr ⟨d,e,a,a',b,b',h⟩
end
theorem eqv_list (xs ys:List PyData):PyData.eqv (.list xs) (.list ys)=PyData.eqvAll xs ys:=by simp only [PyData.eqv]
theorem eqvAll_nil:PyData.eqvAll [] []=true:=by simp only [PyData.eqvAll]
theorem eqvAll_l (x:PyData) (xs:List PyData):PyData.eqvAll (x::xs) []=false:=by simp only [PyData.eqvAll]
end L2
set_option Elab.async false
set_option linter.all false
set_option maxRecDepth 100000
set_option maxHeartbeats 4000000
namespace L2
open PySem PySem.Spec PyProof.Rows
theorem CDiv_eq (i j:Int):CDiv i j=(0 < j∧j < 1073741824):=rfl
theorem CPow_10 (j:Int):CPow 10 j=(0≤j∧j≤1000000):=propext ⟨fun h=>⟨h.1,h.2.1⟩,fun h=>⟨h.1,h.2,by decide⟩⟩
theorem lenLe (n:Nat) (h:n≤1000):(n≤sizeLine)=True:=eq_true (Nat.le_of_lt (small1000 h))
theorem Ext.of {H H':Hp}(h:∀ a,(H a).isSome=true->H' a=H a):Ext H H':=⟨h,fun K a xs q=>by
 have s:Same H H':=fun b o e=>(h b (by rw [e];rfl)).trans e
 exact s.seq q⟩
theorem Ext.same {H H':Hp}(h:Ext H H'):Same H H':=fun b o e=>(h.1 b (by rw [e];rfl)).trans e
theorem Same.ext {H H':Hp}(h:Same H H'):Ext H H':=Ext.of fun a q=>by
 cases e:H a with
 | none=>rw [e] at q;cases q
 | some o=>exact h a o e
theorem Ext.refl (H:Hp):Ext H H:=(Same.refl H).ext
theorem Ext.trans {H H1 H2:Hp}(a:Ext H H1) (b:Ext H1 H2):Ext H H2:=(a.same.trans b.same).ext
theorem Ext.new {H:Hp}{p:Addr}{o:HO}(h:H p=none):Ext H (upd H p o):=(same_upd h).ext
theorem Ext.put {H H1:Hp}{p:Addr}{o:HO}(a:Ext H H1) (h:H p=none):Ext H (upd H1 p o):=Same.ext fun b u e=>by
 rw [upd_ne (ne_of_none e h)];exact a.same b u e
theorem Ext.free {H H1:Hp}{p:Addr}(a:Ext H H1) (h:H1 p=none):H p=none:=a.same.free h
theorem Ext.at {H H1:Hp}{p:Addr}{o:HO}(a:Ext H H1) (h:H p=some o):H1 p=some o:=a.same _ _ h
theorem optK_at {xs:List V}{i:Int}{k:V->Prop}(h0:0≤i) (h1:i < xs.length) (h:∀ v∈xs,k v):optK (atI xs i) k:=by
 obtain ⟨v,e,m⟩:=atI_lt xs i h0 h1
 rw [e];exact h v m
theorem cx_K (CX:CXT) (P:Program) (w:World) (K:PySem.W.Frag) (mg:Str->Option Value) (base:Heap) (N:List Str) (qual:Str) (scope:Scope) (f:Addr) (cd:Value) (A:Around) (outer:List Env) (s:Shared) (H:Hp) (E:XK):(cxOf CX P w K mg base N qual scope f cd A outer s H E).K=K:=rfl
theorem call_qIsE' {X:Cx}{K:PySem.W.Frag}(h:X.K=K):CallR X (.builtin "isinstance") (qIsE K):=h ▸ call_qIsE
theorem cls_some {K:PySem.W.Frag}{C:Addr}(h:PySem.W.hasDictIn K C=true):(PySem.W.clsIn K C).isSome=true:=by
 obtain ⟨cd,hc,_⟩:=PySem.W.any_some h
 rw [hc];rfl
theorem kit_yes {K:PySem.W.Frag}{A C:Addr}(h1:PySem.W.hasDictIn K C=true) (h2:PySem.W.typeIn K (.ref C)=some (.type "type")) (h3:PySem.W.subIn K (.ref A) (.ref C)=some true):PySem.W.kitOne K (.ref A) (.ref C)=some true:=by
 unfold PySem.W.kitOne
 split
 ·rfl
 ·show (if _ then _ else _)=_
  rw [cls_some h1,h2,if_pos (by decide),h3]
theorem kit_no {K:PySem.W.Frag}{A C:Addr}(h0:(A == C)=false) (h1:PySem.W.hasDictIn K C=true) (h2:PySem.W.typeIn K (.ref C)=some (.type "type")) (h3:PySem.W.subIn K (.ref A) (.ref C)=some false):PySem.W.kitOne K (.ref A) (.ref C)=some false:=by
 unfold PySem.W.kitOne
 rw [if_neg (by intro z;have e:A=C:=Value.ref.inj (beq_iff_eq.mp z);rw [e] at h0;simp at h0)]
 show (if _ then _ else _)=_
 rw [cls_some h1,h2,if_pos (by decide),h3]
theorem kit_ty {K:PySem.W.Frag}{A:Addr}{n:String}{b:Bool}(h1:PySem.W.kitMeta n=true) (h3:PySem.W.subIn K (.ref A) (.type n)=some b):PySem.W.kitOne K (.ref A) (.type n)=some b:=by
 unfold PySem.W.kitOne
 rw [if_neg (by intro z;have e:=beq_iff_eq.mp z;cases e)]
 show (if _ then _ else _)=_
 rw [if_pos h1,h3]
def isW (H:Hp):V->Option Bool
 | .int _=>some true
 | .bl _=>some false
 | .non=>some false
 | .str _=>some false
 | .ref p=>((H p).bind tyO).map fun _=>false
 | _=>none
theorem isW_int' (H:Hp) (i:Int):isW H (.int i)=some true:=rfl
theorem isW_ref' (H:Hp) (p:Addr):isW H (.ref p)=((H p).bind tyO).map fun _=>false:=rfl
theorem isW_obj {H:Hp}{p:Addr}{b:Bool}(h:isW H (.ref p)=some b):b=false∧∃ o,H p=some o∧(tyO o=some "list" ∨ tyO o=some "tuple" ∨ tyO o=some "dict"):=by
 rw [isW_ref'] at h
 cases e:H p with
 | none=>rw [e] at h;cases h
 | some o=>
  rw [e] at h
  have h':(tyO o).map (fun _=>false)=some b:=h
  cases e2:tyO o with
  | none=>rw [e2] at h';cases h'
  | some t=>
   rw [e2] at h';cases h'
   refine ⟨rfl,o,rfl,?_⟩
   cases o with
   | lst xs=>exact .inl rfl
   | tup xs=>exact .inr (.inl rfl)
   | dK xs=>exact .inr (.inr rfl)
   | dT xs=>exact .inr (.inr rfl)
   | frz ob u=>cases u with
    | lst xs=>exact .inl rfl
    | _=>cases e2
   | _=>cases e2
end L2
set_option Elab.async false
set_option linter.all false
set_option maxRecDepth 100000
set_option maxHeartbeats 4000000
namespace L2
open PySem PySem.Spec PyProof.Rows
theorem optK_mono {α:Type}{o:Option α}{k k':α->Prop}(m:∀ x,k x->k' x) (h:optK o k):optK o k':=by
 obtain ⟨x,e,q⟩:=optK_ex h
 rw [e];exact m x q
theorem ints_inj:∀ {ns ms:List Int},ns.map V.int=ms.map V.int->ns=ms
 | [],[],_=>rfl
 | [],_::_,h=>by cases h
 | _::_,[],h=>by cases h
 | i::r,j::t,h=>by
  simp only [List.map_cons,List.cons.injEq,V.int.injEq] at h
  rw [h.1,ints_inj h.2]
def kInts (F:List Int->Prop):List V->Prop:=fun xs=>∃ ns,xs=ns.map V.int∧F ns
theorem m_kInts (F:List Int->Prop) (ns:List Int):kInts F (ns.map V.int)=F ns:=propext ⟨fun ⟨ms,e,h⟩=>by rw [ints_inj e];exact h,fun h=>⟨ns,rfl,h⟩⟩
theorem CMulB_of (i j:Int) (h:i.natAbs < 2 ^ 256) (h':j.natAbs < 2 ^ 256):CMulB i j=True:=eq_true ⟨h,h'⟩
end L2
set_option Elab.async false
set_option linter.all false
set_option maxRecDepth 100000
set_option maxHeartbeats 4000000
namespace L2
open PySem PySem.Spec PyProof.Rows
def newK (o:HO) (H:Hp) (Q:VK):Prop:=∀ (p:Addr) (H':Hp),H p=none->Ext H H'->H' p=some o->Q (.ref p) H'
theorem newK.to {o:HO}{H:Hp}{Q:VK}(h:newK o H Q):∀ p,H p=none->Q (.ref p) (upd H p o):=fun p hp=>h p _ hp (Ext.new hp) upd_same
def kQT (Q:VK):List V->Hp->Prop:=fun xs H=>xs.length≤sizeLine∧newK (.tup xs) H Q
theorem m_kQT (Q:VK) (xs:List V) (H:Hp):kQT Q xs H=(xs.length≤sizeLine∧newK (.tup xs) H Q):=rfl
def kQL (Q:VK):List V->Hp->Prop:=fun xs H=>xs.length≤sizeLine∧newK (.lst xs) H Q
theorem m_kQL (Q:VK) (xs:List V) (H:Hp):kQL Q xs H=(xs.length≤sizeLine∧newK (.lst xs) H Q):=rfl
def qTup (t:TA):TE:=fun σ H Q=>t σ H (kQT Q)
theorem m_qTup (t:TA) (σ:St) (H:Hp) (Q:VK):qTup t σ H Q=t σ H (kQT Q):=rfl
def qLst (t:TA):TE:=fun σ H Q=>t σ H (kQL Q)
theorem m_qLst (t:TA) (σ:St) (H:Hp) (Q:VK):qLst t σ H Q=t σ H (kQL Q):=rfl
section
variable {X:Cx}{es:List Expr}{t:TA}{pos:Pos}
theorem pe_qTup {x1}(h:PA X es t):PE X (.Tuple es x1 pos) (qTup t):=by
 intro pins s σ H Q I hq
 refine wpAny_Tuple_spliced (thn (h pos pins s σ H _ I hq) fun us s1 ⟨xs,H1,I1,r,z,q⟩=>⟨by rw [←r.length];exact z,?_⟩)
 have hf:H1 s1.heap.objs.size=none:=I1.hok.fresh (Nat.le_refl _)
 refine ⟨.ref s1.heap.objs.size,upd H1 s1.heap.objs.size (.tup xs),I1.laid (t':=s1.toks) (fun b u e=>Heap.get?_push_of_some _ e) (Nat.le_refl _) ?_,rfl,q.to _ hf⟩
 exact ⟨z,us,r,⟨_,Heap.get?_push_size _ rfl,rfl,_,rfl⟩⟩
theorem pe_qLst (h:PA X es t):PE X (.List es pos) (qLst t):=by
 intro pins s σ H Q I hq
 refine wpAny_List_spliced (thn (h pos pins s σ H _ I hq) fun us s1 ⟨xs,H1,I1,r,z,q⟩=>⟨by rw [←r.length];exact z,?_⟩)
 have hf:H1 s1.heap.objs.size=none:=I1.hok.fresh (Nat.le_refl _)
 refine ⟨.ref s1.heap.objs.size,upd H1 s1.heap.objs.size (.lst xs),I1.laid (t':=s1.toks) (fun b u e=>Heap.get?_push_of_some _ e) (Nat.le_refl _) ?_,rfl,q.to _ hf⟩
 exact ⟨z,us,0,r,Heap.get?_push_size _ rfl⟩
end
def kN (f:List V->HO) (H:Hp) (Q:VK):List V->Prop:=fun ys=>newK (f ys) H Q
theorem m_kN (f:List V->HO) (H:Hp) (Q:VK) (ys:List V):kN f H Q ys=newK (f ys) H Q:=rfl
def nList (xs:List V) (H:Hp) (Q:VK):Prop:=match xs with
 | [.ref p]=>optK (itemsAt H p) (kN .lst H Q)
 | _=>False
theorem m_nList (p:Addr) (H:Hp) (Q:VK):nList [.ref p] H Q=optK (itemsAt H p) (kN .lst H Q):=rfl
theorem call_nList {X:Cx}:CallR X (.type "list") nList:=call_qList.mono fun xs H Q h=>by
 unfold nList at h
 split at h
 ·exact optK_mono (fun _ q=>q.to) h
 ·exact h.elim
def kNC2 (xs:List V) (H:Hp) (Q:VK):List V->Prop:=fun ys=>xs.length+ys.length≤sizeLine∧newK (.lst (xs++ys)) H Q
theorem m_kNC2 (xs:List V) (H:Hp) (Q:VK) (ys:List V):kNC2 xs H Q ys=(xs.length+ys.length≤sizeLine∧newK (.lst (xs++ys)) H Q):=rfl
def kNC1 (b:Addr) (H:Hp) (Q:VK):List V->Prop:=fun xs=>optK (lstAt H b) (kNC2 xs H Q)
theorem m_kNC1 (b:Addr) (H:Hp) (Q:VK) (xs:List V):kNC1 b H Q xs=optK (lstAt H b) (kNC2 xs H Q):=rfl
def nCat:R2:=fun x y H Q=>match x,y with
 | .ref l,.ref b=>optK (lstAt H l) (kNC1 b H Q)
 | _,_=>False
theorem m_nCat (l b:Addr) (H:Hp) (Q:VK):nCat (.ref l) (.ref b) H Q=optK (lstAt H l) (kNC1 b H Q):=rfl
theorem op_nCat {X:Cx}:OpR X (binaryOp .Add) nCat:=op_cat.mono fun x y H Q h=>by
 unfold nCat at h
 split at h
 ·rw [m_rCat]
  exact optK_mono (fun _ q=>optK_mono (fun _ q=>⟨q.1,q.2.to⟩) q) h
 ·exact h.elim
theorem PE.mono {X:Cx}{e:Expr}{t t':TE}(h:PE X e t) (m:∀ σ H Q,t' σ H Q->t σ H Q):PE X e t':=fun pins s σ H Q I q=>h pins s σ H Q I (m _ _ _ q)
def nDNew:TE:=fun _ H Q=>newK (.dK []) H Q
theorem m_nDNew (σ:St) (H:Hp) (Q:VK):nDNew σ H Q=newK (.dK []) H Q:=rfl
theorem pe_nDNew {X:Cx}{pos:Pos}:PE X (.Dict [] [] pos) nDNew:=pe_dnewK.mono fun _ _ _ h=>h.to
end L2
set_option Elab.async false
set_option linter.all false
set_option maxRecDepth 100000
set_option maxHeartbeats 4000000
namespace L2
open PySem PySem.Spec PyProof.Rows
section
variable {prog:Program}{w:World}{A:Around}{E:Value->Shared->Prop}{s:Shared}
end
section
variable {X:Cx}{pos:Pos}
end
end L2
set_option Elab.async false
set_option linter.all false
set_option maxRecDepth 100000
set_option maxHeartbeats 4000000
namespace L2
open PySem PySem.Spec PyProof.Rows
section
variable {X:Cx}{tg:Expr}
end
end L2
set_option Elab.async false
set_option linter.all false
set_option maxRecDepth 100000
set_option maxHeartbeats 4000000
namespace L2
open PySem PySem.Spec PyProof.Rows
theorem preSum_ints:∀ (n:Nat) (ns:List Int) (val:Nat->Int),(∀ i,val i=ns.getD i 0)->n≤ns.length->preSum val n=(ns.take n).sum
 | 0,ns,val,h,hl=>by simp [preSum]
 | n+1,ns,val,h,hl=>by
  have ih:=preSum_ints n ns val h (by omega)
  have e:ns.take (n+1)=ns.take n++[ns.getD n 0]:=by
   rw [List.take_succ,List.getElem?_eq_getElem (by omega)]
   simp [List.getD,List.getElem?_eq_getElem (show n < ns.length by omega)]
  rw [preSum,ih,e,List.sum_append,h]
  simp
def kSumI (H:Hp) (Q:VK):List Int->Prop:=fun ns=>Q (.int ns.sum) H
theorem m_kSumI (H:Hp) (Q:VK) (ns:List Int):kSumI H Q ns=Q (.int ns.sum) H:=rfl
def qSum:List V->Hp->VK->Prop:=fun vs H Q=>match vs with
 | [.ref p]=>optK (lstAt H p) (kInts (kSumI H Q))
 | _=>False
theorem m_qSum (p:Addr) (H:Hp) (Q:VK):qSum [.ref p] H Q=optK (lstAt H p) (kInts (kSumI H Q)):=rfl
def kBls (F:List Bool->Prop):List V->Prop:=fun xs=>∃ bs,xs=bs.map V.bl∧F bs
theorem bls_inj:∀ {ns ms:List Bool},ns.map V.bl=ms.map V.bl->ns=ms
 | [],[],_=>rfl
 | [],_::_,h=>by cases h
 | _::_,[],h=>by cases h
 | i::r,j::t,h=>by
  simp only [List.map_cons,List.cons.injEq,V.bl.injEq] at h
  rw [h.1,bls_inj h.2]
theorem m_kBls (F:List Bool->Prop) (bs:List Bool):kBls F (bs.map V.bl)=F bs:=propext ⟨fun ⟨ms,e,h⟩=>by rw [bls_inj e];exact h,fun h=>⟨bs,rfl,h⟩⟩
def kAllB (H:Hp) (Q:VK):List Bool->Prop:=fun bs=>Q (.bl (bs.all id)) H
theorem m_kAllB (H:Hp) (Q:VK) (bs:List Bool):kAllB H Q bs=Q (.bl (bs.all id)) H:=rfl
def qAll:List V->Hp->VK->Prop:=fun vs H Q=>match vs with
 | [.ref p]=>optK (lstAt H p) (kBls (kAllB H Q))
 | _=>False
theorem m_qAll (p:Addr) (H:Hp) (Q:VK):qAll [.ref p] H Q=optK (lstAt H p) (kBls (kAllB H Q)):=rfl
section
variable {X:Cx}
theorem call_qSum (hc:X.calm=true):CallR X (.builtin "sum") qSum:=by
 intro pins s σ H vs us Q I r h
 unfold qSum at h
 split at h
 ·rename_i p
  obtain ⟨xs,e,ns,rfl,q⟩:=optK_ex h
  cases r with
  | cons r rr=>
   cases rr
   cases r
   obtain ⟨its,rv,pl,hz⟩:=I.list (SqL.of (lst_of e))
   have hlt:p < s.heap.objs.size:=by obtain ⟨_,e,_⟩:=pl.isList;exact Heap.lt_size e
   have hlen:its.length=ns.length:=by have:=rv.length;simpa using this.symm
   refine call_sum_walkAnyS (wpAny_pyIter_list pl.isList ⟨s.heap.objs.size,_,_,_,_,_,_,fun i=>ns.getD i 0,rfl,(Walks.list (show X.A.in1.handled=none from I.ok.hd hc) _ p (Nat.ne_of_lt hlt) its.toArray).toS,⟨⟨_,Heap.get?_push_size _ rfl,rfl,rfl⟩,pl.isList.push _⟩,fun b hb=>?_,fun i v hP=>?_,fun s' t' hm=>?_⟩)
   ·rw [Heap.size_push]
    rcases List.mem_cons.mp hb with rfl|hb
    ·exact Nat.lt_succ_self _
    ·rw [List.mem_singleton.mp hb];exact Nat.lt_succ_of_lt hlt
   ·have hv:its[i]? = some v:=by simpa using hP
    have hi:i < ns.length:=by rw [←hlen];exact (List.getElem?_eq_some_iff.mp hv).1
    obtain ⟨u,hu,ru⟩:=rv.get (i:=i) (x:=.int (ns.getD i 0)) (by rw [List.getElem?_map,List.getElem?_eq_getElem hi];simp [List.getD,List.getElem?_eq_getElem hi])
    rw [hv] at hu
    cases hu
    exact ru
   ·obtain ⟨hp,g,d,tk,os⟩:=s'
    have kp:∀ b o,s.heap.get? b=some o->hp.get? b=some o:=fun b o e=>hm.heap b o (fun hmem=>by
     have:b=s.heap.objs.size:=by simpa using hmem
     subst this
     exact absurd (Heap.lt_size e) (Nat.lt_irrefl _)) (Heap.get?_push_of_some _ e)
    have e1:g=s.gens:=hm.gens
    have e2:d=s.drawn:=hm.drawn
    have e3:os=s.os:=hm.os
    subst e1 e2 e3
    refine ⟨.int ns.sum,H,I.kept (t':=tk) kp,?_,q⟩
    have es:=preSum_ints its.toArray.size ns (fun i=>ns.getD i 0) (fun _=>rfl) (by simp [hlen])
    rw [show its.toArray.size=ns.length by simp [hlen],List.take_length] at es
    rw [show its.toArray.size=ns.length by simp [hlen],es]
    exact ⟨t',rfl⟩
 ·exact h.elim
theorem all_range (bs:List Bool):(List.range bs.length).all (fun i=>bs.getD i false)=bs.all id:=by
 rw [Bool.eq_iff_iff,List.all_eq_true,List.all_eq_true]
 refine ⟨fun h x hx=>?_,fun h i hi=>?_⟩
 ·obtain ⟨i,hi,e⟩:=List.getElem_of_mem hx
  have:=h i (List.mem_range.mpr hi)
  simpa [List.getD,List.getElem?_eq_getElem hi,e] using this
 ·have hi':=List.mem_range.mp hi
  have:=h (bs[i]) (List.getElem_mem hi')
  simpa [List.getD,List.getElem?_eq_getElem hi'] using this
theorem call_qAll (hc:X.calm=true):CallR X (.builtin "all") qAll:=by
 intro pins s σ H vs us Q I r h
 unfold qAll at h
 split at h
 ·rename_i p
  obtain ⟨xs,e,bs,rfl,q⟩:=optK_ex h
  cases r with
  | cons r rr=>
   cases rr
   cases r
   obtain ⟨its,rv,pl,hz⟩:=I.list (SqL.of (lst_of e))
   have hlt:p < s.heap.objs.size:=by obtain ⟨_,e,_⟩:=pl.isList;exact Heap.lt_size e
   have hlen:its.length=bs.length:=by have:=rv.length;simpa using this.symm
   refine call_all_walk (wpAny_pyIter_list pl.isList ⟨s.heap.objs.size,_,_,_,_,_,fun i=>bs.getD i false,rfl,Walks.list (show X.A.in1.handled=none from I.ok.hd hc) _ p (Nat.ne_of_lt hlt) its.toArray,⟨⟨_,Heap.get?_push_size _ rfl,rfl,rfl⟩,pl.isList.push _⟩,fun i v s' Q' E' hP hQ=>?_,fun h' tk hk=>?_⟩)
   ·have hv:its[i]? = some v:=by simpa using hP
    have hi:i < bs.length:=by rw [←hlen];exact (List.getElem?_eq_some_iff.mp hv).1
    obtain ⟨u,hu,ru⟩:=rv.get (i:=i) (x:=.bl (bs.getD i false)) (by rw [List.getElem?_map,List.getElem?_eq_getElem hi];simp [List.getD,List.getElem?_eq_getElem hi])
    rw [hv] at hu
    cases hu
    have e2:v=.bool (bs.getD i false):=ru
    subst e2
    exact wpAny_truthy_bool hQ
   ·have kp:∀ b o,s.heap.get? b=some o->h'.get? b=some o:=fun b o e=>hk b o (fun hmem=>by
     have:b=s.heap.objs.size:=by simpa using hmem
     subst this
     exact absurd (Heap.lt_size e) (Nat.lt_irrefl _)) (Heap.get?_push_of_some _ e)
    refine ⟨.bl (bs.all id),H,I.kept (t':=tk) kp,?_,q⟩
    rw [show its.toArray.size=bs.length by simp [hlen],all_range]
    exact rfl
 ·exact h.elim
end
end L2
set_option Elab.async false
set_option linter.all false
set_option maxRecDepth 100000
set_option maxHeartbeats 4000000
namespace L2
open PySem PySem.Spec PyProof.Rows
section
variable {prog:Program}{w:World}{A:Around}{E:Value->Shared->Prop}{s:Shared}
structure Apart2 (z TI TO i j:Addr) (f g:List Addr):Prop where
 ti:TI ≠ z∧TI ≠ TO∧TI ≠ i∧TI ≠ j
 zt:z ≠ TO
 zf:z ∉ f
 zg:z ∉ g
 tf:TO ∉ f
 tg:TO ∉ g
 ig:i ∉ g
 jf:j ∉ f
variable {z TI TO i j:Addr}{f g:List Addr}{ti tj:Nat->Heap->Prop}{vi vj:Nat->Option Value}{k m:Nat}{x y a b:Value}
end
end L2
set_option Elab.async false
set_option linter.all false
set_option maxRecDepth 100000
set_option maxHeartbeats 4000000
namespace L2
open PySem PySem.Spec PyProof.Rows
def SeqAt (h:Heap) (k:Bool) (l:Addr) (xs:Array Value):Prop:=match k with
 | true=>h.IsTuple l xs
 | false=>h.IsList l xs
section
variable {prog:Program}{w:World}{A:Around}{E:Value->Shared->Prop}{s:Shared}
end
section
variable {X:Cx}{pins:List (Addr × Obj)}{σ:List (Option V)}{H:Hp}{s:Shared}{h':Heap}
end
section
variable {X:Cx}
end
end L2
set_option Elab.async false
set_option linter.all false
set_option maxRecDepth 100000
set_option maxHeartbeats 4000000
namespace L2
open PySem PySem.Spec PyProof.Rows
def kCm2 (te:TE) (σ2:St) (N1:VK) (N0:Hp->Prop):Bool->Hp->Prop:=fun b H=>if b=true then te σ2 H N1 else N0 H
theorem m_kCm2 (te:TE) (σ2:St) (N1:VK) (N0:Hp->Prop) (b:Bool) (H:Hp):kCm2 te σ2 N1 N0 b H=(if b=true then te σ2 H N1 else N0 H):=rfl
def kCm (k:Nat) (tt:TT) (te:TE) (σ:St) (N1:VK) (N0:Hp->Prop):St->Hp->Prop:=fun σ2 H=>(∃ vs:St,vs.length=k∧σ2=vs++σ)∧tt σ2 H (kCm2 te σ2 N1 N0)
theorem m_kCm_1 (tt:TT) (te:TE) (σ:St) (N1:VK) (N0:Hp->Prop) (a:Option V) (H:Hp):kCm 1 tt te σ N1 N0 (a::σ) H=tt (a::σ) H (kCm2 te (a::σ) N1 N0):=propext ⟨fun h=>h.2,fun h=>⟨⟨[a],rfl,rfl⟩,h⟩⟩
theorem m_kCm_2 (tt:TT) (te:TE) (σ:St) (N1:VK) (N0:Hp->Prop) (a b:Option V) (H:Hp):kCm 2 tt te σ N1 N0 (a::b::σ) H=tt (a::b::σ) H (kCm2 te (a::b::σ) N1 N0):=propext ⟨fun h=>h.2,fun h=>⟨⟨[a,b],rfl,rfl⟩,h⟩⟩
theorem m_rep_1 (σ:St):List.replicate 1 (none:Option V)++σ=none::σ:=rfl
theorem m_rep_2 (σ:St):List.replicate 2 (none:Option V)++σ=none::none::σ:=rfl
def Al {α:Type}(R:α->V->Prop) (zs:List α) (ys:List V):Prop:=ys.length=zs.length∧∀ (i:Nat) z y,zs[i]? = some z->ys[i]? = some y->R z y
theorem Al.nil {α:Type}{R:α->V->Prop}:Al R [] []:=⟨rfl,fun i z y h=>by simp at h⟩
theorem Al.snoc {α:Type}{R:α->V->Prop}{zs:List α}{ys:List V}{z:α}{y:V}(h:Al R zs ys) (r:R z y):Al R (zs++[z]) (ys++[y]):=by
 refine ⟨by simp [h.1],fun i z' y' h1 h2=>?_⟩
 by_cases hi:i < zs.length
 ·rw [List.getElem?_append_left hi] at h1
  rw [List.getElem?_append_left (by rw [h.1];exact hi)] at h2
  exact h.2 i z' y' h1 h2
 ·rw [List.getElem?_append_right (by omega)] at h1
  rw [List.getElem?_append_right (by rw [h.1];omega),h.1] at h2
  by_cases h0:i - zs.length=0
  ·rw [h0] at h1 h2;simp at h1 h2;subst h1;subst h2;exact r
  ·rw [List.getElem?_eq_none (by simp;omega)] at h1;cases h1
theorem Al.imp {α:Type}{R S:α->V->Prop}{zs:List α}{ys:List V}(h:Al R zs ys) (f:∀ z y,R z y->S z y):Al S zs ys:=⟨h.1,fun i z y a b=>f z y (h.2 i z y a b)⟩
theorem Al.map {α:Type}{f:α->V}{zs:List α}{ys:List V}(h:Al (fun z y=>y=f z) zs ys):ys=zs.map f:=by
 apply List.ext_getElem?
 intro i
 rw [List.getElem?_map]
 by_cases hi:i < zs.length
 ·have e1:zs[i]? = some zs[i]:=List.getElem?_eq_getElem hi
  have e2:ys[i]? = some (ys[i]'(by rw [h.1];exact hi)):=List.getElem?_eq_getElem _
  rw [e1,e2,h.2 i _ _ e1 e2];rfl
 ·have:=h.1;rw [List.getElem?_eq_none (show ys.length≤i by omega),List.getElem?_eq_none (show zs.length≤i by omega)];rfl
section
variable {k:Nat}{g:TG}{tt:TT}{te:TE}{σ:St}{Q:VK}{H:Hp}{K:PySem.W.Frag}
theorem comp_rel {α:Type}{J:It}(zs:List α) (c:α->Bool) (P:α->V->Hp->Prop) (R:Addr->α->V->Hp->Prop)
  (hgo:∀ i z H',zs[i]? = some z->Ext H H'->J.go i H'∧∀ x H'',J.yld i H' x H''->Ext H' H''∧P z x H'')
  (hst:∀ H',Ext H H'->J.stop zs.length H')
  (hR1:∀ D z y H1 H2,R D z y H1->Ext H1 H2->R D z y H2) (hR2:∀ D z y H1 o,R D z y H1->R D z y (upd H1 D o))
  (hl:zs.length≤sizeLine)
  (hs:∀ D z x H' N1 N0,z∈zs->H D=none->Ext H H'->(∃ ys,H' D=some (.lst ys))->P z x H'->(c z=true->∀ y H'',Ext H' H''->R D z y H''->N1 y H'')->(c z=false->∀ H'',Ext H' H''->N0 H'')->g x (List.replicate k none++σ) H' (kCm k tt te σ N1 N0))
  (hd:∀ D ys H',H D=none->Ext H H'->H' D=some (.lst ys)->Al (fun z y=>R D z y H') (zs.filter c) ys->Q (.ref D) H'):kComp k g tt te σ Q J H:=by
 intro D hD
 refine ⟨fun i m ys H'=>m=zs.length - i∧i≤zs.length∧Ext H H'∧H' D=some (.lst ys)∧Al (fun z y=>R D z y H') ((zs.take i).filter c) ys,⟨zs.length,by simp,Nat.zero_le _,Ext.new hD,upd_same,by simpa using Al.nil⟩,?_⟩
 rintro i m ys H' ⟨rfl,hi,e,hD',al⟩
 by_cases hlt:i < zs.length
 ·have hz:zs[i]? = some zs[i]:=List.getElem?_eq_getElem hlt
  obtain ⟨go,y⟩:=hgo i zs[i] H' hz e
  have tk:zs.take (i+1)=zs.take i++[zs[i]]:=by rw [List.take_succ,hz];rfl
  have ln:ys.length < sizeLine:=by
   have h1:=al.1
   have h2:=List.length_filter_le c (zs.take i)
   simp only [List.length_take] at h2
   omega
  refine .inr ⟨go,fun ys' H2=>Ext H H2∧H2 D=some (.lst ys')∧Al (fun z y=>R D z y H2) ((zs.take (i+1)).filter c) ys',fun ys' H2 p=>⟨zs.length - (i+1),by omega,rfl,hlt,p⟩,fun x H2 z=>?_⟩
  obtain ⟨e2,p2⟩:=y x H2 z
  refine hs D zs[i] x H2 (kC3 D ys _) _ (List.getElem_mem hlt) hD (e.trans e2) ⟨ys,e2.at hD'⟩ p2 (fun hc y H3 e3 r3=>?_) fun hc H3 e3=>?_
  ·refine ⟨e3.at (e2.at hD'),ln,(e.trans (e2.trans e3)).put hD,upd_same,?_⟩
   rw [tk,List.filter_append,show [zs[i]].filter c=[zs[i]] by simp [hc]]
   exact Al.snoc (al.imp fun z y r=>hR2 _ _ _ _ _ (hR1 _ _ _ _ _ r (e2.trans e3))) (hR2 _ _ _ _ _ r3)
  ·refine ⟨e.trans (e2.trans e3),(e2.trans e3).at hD',?_⟩
   rw [tk,List.filter_append,show [zs[i]].filter c=[] by simp [hc],List.append_nil]
   exact al.imp fun z y r=>hR1 _ _ _ _ _ r (e2.trans e3)
 ·have e':i=zs.length:=by omega
  subst e'
  rw [List.take_length] at al
  exact .inl ⟨hst H' e,hd D ys H' hD e hD' al⟩
theorem comp_fm {α:Type}{J:It}(zs:List α) (c:α->Bool) (f:α->V) (P:α->V->Hp->Prop)
  (hgo:∀ i z H',zs[i]? = some z->Ext H H'->J.go i H'∧∀ x H'',J.yld i H' x H''->Ext H' H''∧P z x H'')
  (hst:∀ H',Ext H H'->J.stop zs.length H') (hl:zs.length≤sizeLine)
  (hs:∀ D z x H' N1 N0,z∈zs->H D=none->Ext H H'->P z x H'->(c z=true->∀ H'',Ext H' H''->N1 (f z) H'')->(c z=false->∀ H'',Ext H' H''->N0 H'')->g x (List.replicate k none++σ) H' (kCm k tt te σ N1 N0))
  (hd:∀ D H',H D=none->Ext H H'->H' D=some (.lst ((zs.filter c).map f))->Q (.ref D) H'):kComp k g tt te σ Q J H:=
 comp_rel zs c P (fun _ z y _=>y=f z) hgo hst (fun _ _ _ _ _ r _=>r) (fun _ _ _ _ _ r=>r) hl (fun D z x H' N1 N0 hz hD e _ p k1 k0=>hs D z x H' N1 N0 hz hD e p (fun hc H'' e'=>k1 hc _ H'' e' rfl) k0) fun D ys H' hD e hD' al=>hd D H' hD e (by rw [←al.map];exact hD')
theorem wk_rng {lo:Int}{n:Nat}:(∀ i z H',(List.range n)[i]? = some z->Ext H H'->(Itr lo n).go i H'∧∀ x H'',(Itr lo n).yld i H' x H''->Ext H' H''∧x=.int (lo+(z:Nat)))∧∀ H',Ext H H'->(Itr lo n).stop (List.range n).length H':=by
 refine ⟨fun i z H' hz _=>?_,fun H' _=>by simp [Itr]⟩
 obtain ⟨h1,h2⟩:=List.getElem?_eq_some_iff.mp hz
 have e:i=z:=by simpa using h2
 subst e
 exact ⟨(show i < n by simpa using h1),fun x H'' y=>⟨by rw [y.1];exact Ext.refl _,y.2⟩⟩
theorem wk_lst {a:Addr}{xs:List V}(h:H a=some (.lst xs)):(∀ i z H',xs[i]? = some z->Ext H H'->(Itl K a).go i H'∧∀ x H'',(Itl K a).yld i H' x H''->Ext H' H''∧(x=z∧H'' a=some (.lst xs)))∧∀ H',Ext H H'->(Itl K a).stop xs.length H':=
 ⟨fun i z H' hz e=>⟨⟨xs,z,SqL.of (e.at h),hz⟩,fun x H'' y=>⟨by rw [y.1];exact Ext.refl _,Option.some.inj ((y.2 xs (SqL.of (e.at h))).symm.trans hz),by rw [y.1];exact e.at h⟩⟩,fun H' e=>⟨xs,SqL.of (e.at h),Nat.le_refl _⟩⟩
end
def compB (sc:Scope) (N:List Str) (scope:Scope) (N':List Str) (k:Nat):Bool:=
 scope.names.all (fun y=>!(y.2 == .cell)) && (scope.kind == .function) && scope.names.all (fun y=>!(y.2 == .local) || scope.names.lookup y.1 == some .local) && scope.names.all (fun y=>!(y.2 == .free) || sc.names.lookup y.1 == some .cell) && decide (N'.length=k+N.length) &&
  ((N'.drop k).zip N).all (fun p=>(!(scope.names.lookup p.1 == some .free) || decide (p.1=p.2)) && !(scope.names.lookup p.1 == some .local))
theorem comp_ok {X:Cx}{scope:Scope}{N':List Str}{k:Nat}(sc:Scope) (N:List Str) (h1:X.env.scope=sc) (h2:X.N=N) (h:compB sc N scope N' k=true):CompOk X scope N' k:=by
 unfold compB at h
 simp only [Bool.and_eq_true,decide_eq_true_eq] at h
 obtain ⟨⟨⟨⟨⟨a1,a2⟩,a3⟩,a4⟩,a5⟩,a6⟩:=h
 rw [List.all_eq_true] at a1 a3 a4 a6
 have pr:∀ i x,N'[k+i]? = some x->∃ y,N[i]? = some y∧(x,y)∈(N'.drop k).zip N:=fun i x hx=>by
  have h0:=(List.getElem?_eq_some_iff.mp hx).1
  have hi:i < N.length:=by omega
  have e1:(N'.drop k)[i]? = some x:=by rw [List.getElem?_drop];exact hx
  have e2:N[i]? = some N[i]:=List.getElem?_eq_getElem hi
  refine ⟨_,e2,List.mem_of_getElem? (i:=i) ?_⟩
  rw [List.getElem?_zip_eq_some]
  exact ⟨e1,e2⟩
 refine ⟨fun y hy e=>?_,by simpa using a2,fun y hy e=>?_,fun y hy e=>?_,by rw [h2];exact a5,fun i x hx hf=>?_,fun i x hx hf=>?_⟩
 ·have:=a1 y hy;rw [e] at this;simp at this
 ·have:=a3 y hy;rw [e] at this;simpa using this
 ·have:=a4 y hy;rw [e] at this;rw [h1];simpa using this
 ·obtain ⟨y,hy,hm⟩:=pr i x hx
  have:=a6 _ hm
  simp only [hf] at this
  rw [h2,hy]
  simp at this
  rw [this]
 ·obtain ⟨y,hy,hm⟩:=pr i x hx
  have:=a6 _ hm
  simp [hf] at this
end L2
set_option Elab.async false
set_option linter.all false
set_option maxRecDepth 100000
set_option maxHeartbeats 4000000
namespace L2
open PySem PySem.Spec PyProof.Rows
def kFldV (H:Hp) (Q:VK):V->Prop:=fun v=>Q v H
theorem m_kFldV (H:Hp) (Q:VK) (v:V):kFldV H Q v=Q v H:=rfl
def kFldO (K:PySem.W.Frag) (f:Str) (H:Hp) (Q:VK):HO->Prop:=fun o=>match o with
 | .ins C dx fs=>Cls K C∧NoAttr K C f∧optK (fs.lookup f) (kFldV H Q)
 | _=>False
theorem m_kFldO (K:PySem.W.Frag) (f:Str) (H:Hp) (Q:VK) (C dx:Addr) (fs:List (Str × V)):kFldO K f H Q (.ins C dx fs)=(Cls K C∧NoAttr K C f∧optK (fs.lookup f) (kFldV H Q)):=rfl
def kFld (K:PySem.W.Frag) (f:Str) (Q:VK):VK:=fun x H=>match x with
 | .ref a=>optK (H a) (kFldO K f H Q)
 | _=>False
theorem m_kFld (K:PySem.W.Frag) (f:Str) (Q:VK) (a:Addr) (H:Hp):kFld K f Q (.ref a) H=optK (H a) (kFldO K f H Q):=rfl
def nFld (K:PySem.W.Frag) (ta:TE) (f:Str):TE:=fun σ H Q=>ta σ H (kFld K f Q)
theorem m_nFld (K:PySem.W.Frag) (ta:TE) (f:Str) (σ:St) (H:Hp) (Q:VK):nFld K ta f σ H Q=ta σ H (kFld K f Q):=rfl
theorem kFld_ex {K:PySem.W.Frag}{f:Str}{Q:VK}{x:V}{H:Hp}(h:kFld K f Q x H):∃ a C dx fs v,x=.ref a∧H a=some (.ins C dx fs)∧Cls K C∧NoAttr K C f∧fs.lookup f=some v∧Q v H:=by
 unfold kFld at h
 split at h
 ·obtain ⟨o,e,h⟩:=optK_ex h
  unfold kFldO at h
  split at h
  ·obtain ⟨c,n,h⟩:=h
   obtain ⟨v,l,q⟩:=optK_ex h
   exact ⟨_,_,_,_,v,rfl,e,c,n,l,q⟩
  ·exact h.elim
 ·exact h.elim
section
variable {X:Cx}{e o value:Expr}{ta tv:TE}{f:Str}{pos pos':Pos}
theorem pe_nFld (he:PE X e ta) (hb:attributeBase e f X.env (eval e X.env)=eval e X.env):PE X (.Attribute e f pos) (nFld X.K ta f):=by
 intro pins s σ H Q I h
 refine attr_of hb (thn (he pins s σ H _ I h) fun u s1 ⟨x,H1,I1,rx,q1⟩=>?_)
 obtain ⟨a,C,dx,fs,v,ex,ea,c,n,l,q⟩:=kFld_ex q1
 subst ex
 obtain rfl:u=Value.ref a:=rx
 exact getattr_ok I1 ea c n l fun u' s2 I2 ru=>⟨v,H1,I2,ru,q⟩
def kSetO (K:PySem.W.Frag) (f:Str) (y:V) (a:Addr) (σ:St) (nx:St->Hp->Prop) (H:Hp):HO->Prop:=fun o=>match o with
 | .ins C dx fs=>Cls K C∧NoAttr K C f∧fs.length < 1000∧nx σ (upd H a (.ins C dx (putF f y fs)))
 | _=>False
theorem m_kSetO (K:PySem.W.Frag) (f:Str) (y:V) (a:Addr) (σ:St) (nx:St->Hp->Prop) (H:Hp) (C dx:Addr) (fs:List (Str × V)):kSetO K f y a σ nx H (.ins C dx fs)=(Cls K C∧NoAttr K C f∧fs.length < 1000∧nx σ (upd H a (.ins C dx (putF f y fs)))):=rfl
def kSet1 (K:PySem.W.Frag) (f:Str) (y:V) (σ:St) (nx:St->Hp->Prop):VK:=fun x H=>match x with
 | .ref a=>optK (H a) (kSetO K f y a σ nx H)
 | _=>False
theorem m_kSet1 (K:PySem.W.Frag) (f:Str) (y:V) (σ:St) (nx:St->Hp->Prop) (a:Addr) (H:Hp):kSet1 K f y σ nx (.ref a) H=optK (H a) (kSetO K f y a σ nx H):=rfl
def kSet0 (K:PySem.W.Frag) (f:Str) (ta:TE) (σ:St) (nx:St->Hp->Prop):VK:=fun y H=>ta σ H (kSet1 K f y σ nx)
theorem m_kSet0 (K:PySem.W.Frag) (f:Str) (ta:TE) (σ:St) (nx:St->Hp->Prop) (y:V) (H:Hp):kSet0 K f ta σ nx y H=ta σ H (kSet1 K f y σ nx):=rfl
def nSetF (K:PySem.W.Frag) (ta tv:TE) (f:Str):TS:=fun D σ H=>tv σ H (kSet0 K f ta σ D.nx)
theorem m_nSetF (K:PySem.W.Frag) (ta tv:TE) (f:Str) (nx:St->Hp->Prop) (rt:VK) (bk ct:St->Hp->Prop) (σ:St) (H:Hp):nSetF K ta tv f ⟨nx,rt,bk,ct⟩ σ H=tv σ H (kSet0 K f ta σ nx):=rfl
theorem ps_nSetF (ha:PE X o ta) (hv:PE X value tv) (hs:swapsWith value (some (.Attribute o f pos')) pos.line X.env=pure false):PS X (.Assign [.Attribute o f pos'] value pos) (nSetF X.K ta tv f):=by
 intro pins s σ H D I h
 refine plainObj_wpAny_Assign_Attribute (thn (hv pins s σ H _ I h) fun u s1 ⟨y,H1,I1,ry,q⟩=>thn (ha pins s1 σ H1 _ I1 q) fun ov s2 ⟨x,H2,I2,rx,q1⟩=>?_) hs
 unfold kSet1 at q1
 split at q1
 ·rename_i a
  obtain rfl:ov=Value.ref a:=rx
  obtain ⟨ob,ea,q1⟩:=optK_ex q1
  unfold kSetO at q1
  split at q1
  ·obtain ⟨c,n,l,q2⟩:=q1
   exact setattr_ok I2 ea c n l ry fun s3 I3=>⟨σ,_,I3,q2⟩
  ·exact q1.elim
 ·exact q1.elim
end
def kMethA (sp:Sp) (dvs:List V) (E:XK) (a:Addr) (Q:VK):List V->Hp->Prop:=fun vs H=>sp (.ref a::(vs++dvs)) H Q E
theorem m_kMethA_0 (sp:Sp) (dvs:List V) (E:XK) (a:Addr) (Q:VK) (H:Hp):kMethA sp dvs E a Q [] H=sp (.ref a::dvs) H Q E:=rfl
def kMethO (C:Addr) (m:Str) (sp:Sp) (dvs:List V) (E:XK) (t:TA) (σ:St) (Q:VK) (a:Addr) (H:Hp):HO->Prop:=fun o=>match o with
 | .ins C' dx fs=>C'=C∧fs.lookup m=none∧t σ H (kMethA sp dvs E a Q)
 | _=>False
theorem m_kMethO (C:Addr) (m:Str) (sp:Sp) (dvs:List V) (E:XK) (t:TA) (σ:St) (Q:VK) (a:Addr) (H:Hp) (dx:Addr) (fs:List (Str × V)):kMethO C m sp dvs E t σ Q a H (.ins C dx fs)=(fs.lookup m=none∧t σ H (kMethA sp dvs E a Q)):=propext ⟨fun h=>h.2,fun h=>⟨rfl,h⟩⟩
def kMeth (C:Addr) (m:Str) (sp:Sp) (dvs:List V) (E:XK) (t:TA) (σ:St) (Q:VK):VK:=fun x H=>match x with
 | .ref a=>optK (H a) (kMethO C m sp dvs E t σ Q a H)
 | _=>False
theorem m_kMeth (C:Addr) (m:Str) (sp:Sp) (dvs:List V) (E:XK) (t:TA) (σ:St) (Q:VK) (a:Addr) (H:Hp):kMeth C m sp dvs E t σ Q (.ref a) H=optK (H a) (kMethO C m sp dvs E t σ Q a H):=rfl
def nMeth (C:Addr) (m:Str) (sp:Sp) (dvs:List V) (E:XK) (ta:TE) (t:TA):TE:=fun σ H Q=>ta σ H (kMeth C m sp dvs E t σ Q)
theorem m_nMeth (C:Addr) (m:Str) (sp:Sp) (dvs:List V) (E:XK) (ta:TE) (t:TA) (σ:St) (H:Hp) (Q:VK):nMeth C m sp dvs E ta t σ H Q=ta σ H (kMeth C m sp dvs E t σ Q):=rfl
theorem kMeth_ex {C:Addr}{m:Str}{sp:Sp}{dvs:List V}{E:XK}{t:TA}{σ:St}{Q:VK}{x:V}{H:Hp}(h:kMeth C m sp dvs E t σ Q x H):∃ a dx fs,x=.ref a∧H a=some (.ins C dx fs)∧fs.lookup m=none∧t σ H fun vs H2=>sp (x::(vs++dvs)) H2 Q E:=by
 unfold kMeth at h
 split at h
 ·obtain ⟨o,e,h⟩:=optK_ex h
  unfold kMethO at h
  split at h
  ·obtain ⟨rfl,l,h⟩:=h
   exact ⟨_,_,_,rfl,e,l,h⟩
  ·exact h.elim
 ·exact h.elim
section
variable {X:Cx}{CX:CXT}{k:Nat}{f C:Addr}{fd:FuncData}{ps:List Str}{sp:Sp}{dvs:List V}{ds:List Value}{E:XK}{x m:Str}{p pos apos:Pos}{e o:Expr}{es:List Expr}{ta:TE}{t:TA}
theorem pe_nMeth0 {pl:Sem Bool}(he:PE X o ta) (c:Cls X.K C) (hm:Meth X.K C m f) (F:FnOk X.prog X.w X.K X.mg X.base CX k f fd ps sp) (hr:Room k X.A) (hb:Binds X.K fd ps ds) (hd:Vals dvs ds) (hx:Passes CX X E)
  (ht:eval (.Call (.Attribute o m apos) [] [] pos) X.env=(do
   let ov ←eval o X.env
   standAt apos.atName
   let (f,first) ←holding [ov] (getMethod ov m pl)
   callWith pos f first (backTo pos (starEach [] X.env)) (backToKw pos (keywordEach [] X.env))):=by rfl) :
  PE X (.Call (.Attribute o m apos) [] [] pos) (nMeth C m sp dvs E ta tNil):=by
 intro pins s σ H Q I h
 refine PySem.W.methodCall_KW (pl:=pl) (thn (he pins s σ H _ I h) fun u s1 ⟨x,H1,I1,rx,q0⟩=>?_) ht
 obtain ⟨a,dx,fs,ex,ea,l,q⟩:=kMeth_ex q0
 subst ex
 obtain rfl:u=Value.ref a:=rx
 refine getmeth_ok I1 ea c hm l ?_
 exact PySem.W.callWith_K0 (first:=[.ref a]) I1.kIn hm.kp (run_fn (us:=[.ref a]) (vs:=[.ref a]) F hr hb hd hx I1 (.cons rfl .nil) q)
end
def kMade (x:Addr) (Q:VK):VK:=fun v H=>v=.non∧Q (.ref x) H
theorem m_kMade (x:Addr) (Q:VK) (H:Hp):kMade x Q .non H=Q (.ref x) H:=propext ⟨fun h=>h.2,fun h=>⟨rfl,h⟩⟩
def kMake (C:Addr) (sp:Sp) (dvs:List V) (E:XK) (Q:VK):List V->Hp->Prop:=fun vs H=>∀ (x dx:Addr) (H':Hp),H x=none->H dx=none->dx ≠ x->Ext H H'->H' x=some (.ins C dx [])->H' dx=some (.own x)->sp (.ref x::(vs++dvs)) H' (kMade x Q) E
theorem m_kMake_2 (C:Addr) (sp:Sp) (dvs:List V) (E:XK) (Q:VK) (a b:V) (H:Hp):kMake C sp dvs E Q [a,b] H=∀ (x dx:Addr) (H':Hp),H x=none->H dx=none->dx ≠ x->Ext H H'->H' x=some (.ins C dx [])->H' dx=some (.own x)->sp (.ref x::a::b::dvs) H' (kMade x Q) E:=rfl
theorem m_kMake_3 (C:Addr) (sp:Sp) (dvs:List V) (E:XK) (Q:VK) (a b c:V) (H:Hp):kMake C sp dvs E Q [a,b,c] H=∀ (x dx:Addr) (H':Hp),H x=none->H dx=none->dx ≠ x->Ext H H'->H' x=some (.ins C dx [])->H' dx=some (.own x)->sp (.ref x::a::b::c::dvs) H' (kMade x Q) E:=rfl
def nMake (C:Addr) (sp:Sp) (dvs:List V) (E:XK) (t:TA):TE:=fun σ H Q=>t σ H (kMake C sp dvs E Q)
theorem m_nMake (C:Addr) (sp:Sp) (dvs:List V) (E:XK) (t:TA) (σ:St) (H:Hp) (Q:VK):nMake C sp dvs E t σ H Q=t σ H (kMake C sp dvs E Q):=rfl
section
variable {X:Cx}{CX:CXT}{k:Nat}{f C:Addr}{fd:FuncData}{ps:List Str}{sp:Sp}{dvs:List V}{ds:List Value}{E:XK}{x m:Str}{p pos apos:Pos}{e o:Expr}{es:List Expr}{ta:TE}{t:TA}
theorem kMake.to {Q:VK}{vs:List V}{H:Hp}(h:kMake C sp dvs E Q vs H):∀ x dx,H x=none->H dx=none->dx ≠ x->sp (.ref x::(vs++dvs)) (upd (upd H dx (.own x)) x (.ins C dx [])) (fun v H2=>v=.non∧Q (.ref x) H2) E:=fun x dx hx hd ne=>
 h x dx _ hx hd ne ((Ext.new hd).put hx) upd_same (by rw [upd_ne ne,upd_same])
theorem pe_nMake (M:Mk X.K C f) (F:FnOk X.prog X.w X.K X.mg X.base CX k f fd ps sp) (hr:Room (k+1) X.A) (hg:Gl X x) (hm:X.mg x=some (.ref C)) (hb:Binds X.K fd ps ds) (hd:Vals dvs ds) (hx:Passes CX X E)
  (ha:PA X (e::es) t) (hdb:(x == ("__debug__":Str))=false:=by decide) (he:starEach (e::es) X.env=(false,eval e X.env)::starEach es X.env:=by rfl) (hpl:(backTo pos (starEach es X.env)).any (·.1)=false:=by rfl) :
  PE X (.Call (.Name x p) (e::es) [] pos) (nMake C sp dvs E t):=by
 intro pins s σ H Q I h
 refine wpAny_Call_Name_kw (ld_glob I hg hm ?_ hdb)
 refine PySem.W.callWith_K (h₀:=X.base) I.ok.mod.kin M.kp (thn (ha pos pins s σ H _ I h) fun us s1 ⟨vs,H1,I1,r,q⟩=>⟨I1.kIn,?_⟩) he hpl
 exact run_make M F hr hb hd hx I1 r q.to
end
end L2
set_option Elab.async false
set_option linter.all false
set_option maxRecDepth 100000
set_option maxHeartbeats 4000000
namespace L2
open PySem PySem.Spec PyProof.Rows
def notStar:Expr->Bool
 | .Starred ..=>false
 | _=>true
theorem star_ok {e:Expr}{es:List Expr}{env:Env}(h:notStar e=true):starEach (e::es) env=(false,eval e env)::starEach es env:=by
 cases e<;>first|rfl|cases h
theorem pa_c {X:Cx}{e:Expr}{es:List Expr}{te:TE}{t:TA}(ha:PE X e te) (hr:PA X es t) (hn:notStar e=true:=by rfl):PA X (e::es) (tCons te t):=pa_cons ha hr (star_ok hn)
theorem m_tXI (K:PySem.W.Frag) (t:TA) (σ:St) (H:Hp) (Q:VK):tXI K t σ H Q=t σ H (kXI K Q):=rfl
theorem m_xSetF (K:PySem.W.Frag) (ta tv:TE) (f:Str) (nx:St->Hp->Prop) (rt:VK) (bk ct:St->Hp->Prop) (σ:St) (H:Hp):xSetF K ta tv f ⟨nx,rt,bk,ct⟩ σ H=tv σ H (kXS0 K f ta σ nx):=rfl
theorem m_kXS0 (K:PySem.W.Frag) (f:Str) (ta:TE) (σ:St) (nx:St->Hp->Prop) (y:V) (H:Hp):kXS0 K f ta σ nx y H=ta σ H (kXS1 K f y σ nx):=rfl
theorem m_tRaiseI (C:Addr) (sp:Sp) (E:St->XK) (t:TA) (D:Ends) (σ:St) (H:Hp):tRaiseI C sp E t D σ H=t σ H (kRI C sp (E σ)):=rfl
theorem m_tXF (K:PySem.W.Frag) (ta:TE) (f:Str) (σ:St) (H:Hp) (Q:VK):tXF K ta f σ H Q=ta σ H (kXF K f Q):=rfl
def spX1 (C:Addr) (f:Str):Sp:=fun vs H Q E=>∃ e x,vs=[.ref e,x]∧H e=some (exH e C none)∧∀ dx H',H dx=none->dx ≠ e->(∀ b o,b ≠ e->H b=some o->H' b=some o)->H' e=some (exH e C (some dx))->H' dx=some (.xd [(f,x)])->Q .non H'
theorem l_spX1 (C:Addr) (f:Str){vs:List V}{H:Hp}{Q:VK}{E:XK}(h:spX1 C f vs H Q E):vs.length=2:=by
 obtain ⟨_,_,rfl,_⟩:=h
 rfl
theorem kRI_x1 {C:Addr}{f:Str}{E:XK}{x:V}{H:Hp}(h:∀ dx H',Ext H H'->H' dx=some (.xd [(f,x)])->E (.ref C) (some dx) H'):kRI C (spX1 C f) E [x] H:=by
 refine ⟨(show 1≤sizeLine by decide),fun e he=>⟨e,x,rfl,upd_same,fun dx H' h1 h2 h3 h4 h5=>⟨rfl,some dx,h4,fun _ z=>by cases z;exact ⟨_,by rw [del_ne h2];exact h5⟩,h dx _ (Same.ext fun b o q=>?_) (by rw [del_ne h2];exact h5)⟩⟩⟩
 have hb:b ≠ e:=ne_of_none q he
 rw [del_ne hb]
 exact h3 b o hb (by rw [upd_ne hb];exact q)
end L2
namespace L2
open PySem PySem.Spec PyProof.Rows
def TupV (H:Hp) (z:List Int) (y:V):Prop:=∃ q,y=.ref q∧H q=some (.tup (z.map V.int))
theorem TupV.ext {H H':Hp}{z:List Int}{y:V}(h:TupV H z y) (e:Ext H H'):TupV H' z y:=by
 obtain ⟨q,rfl,hq⟩:=h
 exact ⟨q,rfl,e.at hq⟩
theorem TupV.upd {H:Hp}{z:List Int}{y:V}{p:Addr}{xs:List V}{o:HO}(h:TupV H z y) (hp:H p=some (.lst xs)):TupV (upd H p o) z y:=by
 obtain ⟨q,rfl,hq⟩:=h
 exact ⟨q,rfl,by rw [upd_ne (fun z=>by rw [z,hp] at hq;cases hq)];exact hq⟩
def TupsAt (H:Hp) (p:Addr) (zs:List (List Int)):Prop:=∃ ys,H p=some (.lst ys)∧Al (TupV H) zs ys
theorem TupsAt.ext {H H':Hp}{p:Addr}{zs:List (List Int)}(h:TupsAt H p zs) (e:Ext H H'):TupsAt H' p zs:=by
 obtain ⟨ys,hp,al⟩:=h
 exact ⟨ys,e.at hp,al.imp fun _ _ r=>r.ext e⟩
theorem len5000 {n:Nat}(h:n≤5000):n≤sizeLine:=Nat.le_trans h (by decide)
theorem lt5000 {n:Nat}(h:n < 5000):n < sizeLine:=Nat.lt_of_lt_of_le h (by decide)
end L2
set_option Elab.async false
set_option linter.all false
set_option maxRecDepth 100000
set_option maxHeartbeats 4000000
namespace L2
open PySem PySem.Spec PyProof.Rows
theorem wk_al {K:PySem.W.Frag}{H:Hp} {α:Type}{R:α->V->Hp->Prop}(hR:∀ z y H H',R z y H->Ext H H'->R z y H'){l:Addr}{ys:List V}{zs:List α}(h:H l=some (.lst ys)) (al:Al (fun z y=>R z y H) zs ys) :
  (∀ i z H',zs[i]? = some z->Ext H H'->(Itl K l).go i H'∧∀ x H'',(Itl K l).yld i H' x H''->Ext H' H''∧R z x H'')∧∀ H',Ext H H'->(Itl K l).stop zs.length H':=by
 refine ⟨fun i z H' hz e=>?_,fun H' e=>⟨ys,SqL.of (e.at h),by rw [al.1];exact Nat.le_refl _⟩⟩
 have hi:i < ys.length:=by rw [al.1];exact (List.getElem?_eq_some_iff.mp hz).1
 have hy:ys[i]? = some ys[i]:=List.getElem?_eq_getElem hi
 refine ⟨⟨ys,ys[i],SqL.of (e.at h),hy⟩,fun x H'' y=>?_⟩
 have hx:x=ys[i]:=Option.some.inj ((y.2 ys (SqL.of (e.at h))).symm.trans hy)
 refine ⟨by rw [y.1];exact Ext.refl _,?_⟩
 rw [hx,y.1]
 exact hR _ _ _ _ (al.2 i z _ hz hy) e
def axP (a:Int × Int) (x:V) (H:Hp):Prop:=∃ q,x=.ref q∧H q=some (.tup [.int a.1,.int a.2])
theorem axP.ext {a:Int × Int}{x:V}{H H':Hp}(h:axP a x H) (e:Ext H H'):axP a x H':=by
 obtain ⟨q,rfl,hq⟩:=h
 exact ⟨q,rfl,e.at hq⟩
theorem al_axP {H:Hp}{axs:List (Int × Int)}{ys:List V}(al:Al (TupV H) (axs.map fun a=>[a.1,a.2]) ys):Al (fun a y=>axP a y H) axs ys:=by
 refine ⟨by rw [al.1,List.length_map],fun i a y ha hy=>?_⟩
 obtain ⟨q,hq,h⟩:=al.2 i [a.1,a.2] y (by rw [List.getElem?_map,ha];rfl) hy
 exact ⟨q,hq,h⟩
end L2
set_option Elab.async false
set_option linter.all false
set_option maxRecDepth 100000
set_option maxHeartbeats 4000000
namespace L2
open PySem PySem.Spec PyProof.Rows
section
variable {prog:Program}{w:World}{A:Around}{E:Value->Shared->Prop}{s:Shared}
variable {z TI TO i j:Addr}{f g:List Addr}{ti tj:Nat->Heap->Prop}{vi vj:Nat->Option Value}{k m:Nat}{x y:Value}{t:Addr}{fl:Bool}{ot:Obj}
variable {ka kb:Bool}{a b p q:Addr}{as bs:Array Value}{n:Nat}
end
section
variable {X:Cx}{pins:List (Addr × Obj)}{σ:St}{s:Shared}
end
section
variable {X:Cx}
end
end L2
set_option Elab.async false
set_option linter.all false
set_option maxRecDepth 100000
set_option maxHeartbeats 4000000
namespace L2
open PySem PySem.Spec PyProof.Rows
def kMaxI (H:Hp) (Q:VK):List Int->Prop:=fun ns=>0 < ns.length∧∀ M,M∈ns->(∀ a∈ns,a≤M)->Q (.int M) H
theorem x_kMaxI (H:Hp) (Q:VK) (ns:List Int):kMaxI H Q ns=(0 < ns.length∧∀ M,M∈ns->(∀ a∈ns,a≤M)->Q (.int M) H):=rfl
def qMaxL:List V->Hp->VK->Prop:=fun vs H Q=>match vs with
 | [.ref p]=>optK (lstAt H p) (kInts (kMaxI H Q))
 | _=>False
theorem m_qMaxL (p:Addr) (H:Hp) (Q:VK):qMaxL [.ref p] H Q=optK (lstAt H p) (kInts (kMaxI H Q)):=rfl
section
variable {X:Cx}
theorem call_qMaxL (hc:X.calm=true):CallR X (.builtin "max") qMaxL:=by
 intro pins s σ H vs us Q I r h
 unfold qMaxL at h
 split at h
 ·rename_i p
  obtain ⟨xs,e,ns,rfl,hn,q⟩:=optK_ex h
  cases r with
  | cons r rr=>
   cases rr
   cases r
   obtain ⟨its,rv,pl,hz⟩:=I.list (SqL.of (lst_of e))
   have hlt:p < s.heap.objs.size:=by obtain ⟨_,e,_⟩:=pl.isList;exact Heap.lt_size e
   have hlen:its.length=ns.length:=by have:=rv.length;simpa using this.symm
   have hsz:its.toArray.size=ns.length:=by simp [hlen]
   have hP:∀ (i:Nat) (v:Value),its.toArray[i]? = some v->∃ t,v=.int (ns.getD i 0) t:=fun i v hP=>by
    have hv:its[i]? = some v:=by simpa using hP
    have hi:i < ns.length:=by rw [←hlen];exact (List.getElem?_eq_some_iff.mp hv).1
    obtain ⟨u,hu,ru⟩:=rv.get (i:=i) (x:=.int (ns.getD i 0)) (by rw [List.getElem?_map,List.getElem?_eq_getElem hi];simp [List.getD,List.getElem?_eq_getElem hi])
    rw [hv] at hu
    cases hu
    exact ru
   refine call_max_walkS (wpAny_pyIter_list pl.isList ⟨s.heap.objs.size,_,_,_,_,_,_,fun i j=>decide (ns.getD i 0 > ns.getD j 0),rfl,(Walks.list (show X.A.in1.handled=none from I.ok.hd hc) _ p (Nat.ne_of_lt hlt) its.toArray).toS,⟨⟨_,Heap.get?_push_size _ rfl,rfl,rfl⟩,pl.isList.push _⟩,fun b hb=>?_,by rw [hsz];exact hn,CmpOf.ints_gt (fun i=>ns.getD i 0) fun i v h=>hP i v h,fun v s' hv hm=>?_⟩)
   ·rw [Heap.size_push]
    rcases List.mem_cons.mp hb with rfl|hb
    ·exact Nat.lt_succ_self _
    ·rw [List.mem_singleton.mp hb];exact Nat.lt_succ_of_lt hlt
   ·obtain ⟨hp,g,d,tk,os⟩:=s'
    have kp:∀ b o,s.heap.get? b=some o->hp.get? b=some o:=fun b o e=>hm.heap b o (fun hmem=>by
     have:b=s.heap.objs.size:=by simpa using hmem
     subst this
     exact absurd (Heap.lt_size e) (Nat.lt_irrefl _)) (Heap.get?_push_of_some _ e)
    have e1:g=s.gens:=hm.gens
    have e2:d=s.drawn:=hm.drawn
    have e3:os=s.os:=hm.os
    subst e1 e2 e3
    obtain ⟨b1,b2⟩:=argBest_gt (fun i=>ns.getD i 0) (its.toArray.size - 1)
    have rv2:=hP _ v hv
    generalize argBest (fun i j=>decide (ns.getD i 0 > ns.getD j 0)) (its.toArray.size - 1)=k at b1 b2 rv2
    rw [hsz] at b1 b2
    have hk:k < ns.length:=by omega
    refine ⟨.int (ns.getD k 0),H,I.kept (t':=tk) kp,rv2,q _ ?_ fun a ha=>?_⟩
    ·rw [List.getD,List.getElem?_eq_getElem hk];exact List.getElem_mem hk
    ·obtain ⟨j,hj,rfl⟩:=List.getElem_of_mem ha
     have:=b2 j (by omega)
     rw [show ns.getD j 0=ns[j] by rw [List.getD,List.getElem?_eq_getElem hj];rfl] at this
     exact this
 ·exact h.elim
end
def kExt2 (l:Addr) (xs:List V) (H:Hp) (Q:VK):List V->Prop:=fun zs=>xs.length+zs.length≤sizeLine∧Q .non (upd H l (.lst (xs++zs)))
theorem m_kExt2 (l:Addr) (xs:List V) (H:Hp) (Q:VK) (zs:List V):kExt2 l xs H Q zs=(xs.length+zs.length≤sizeLine∧Q .non (upd H l (.lst (xs++zs)))):=rfl
def kExt1 (l b:Addr) (H:Hp) (Q:VK):List V->Prop:=fun xs=>optK (lstAt H b) (kExt2 l xs H Q)
theorem m_kExt1 (l b:Addr) (H:Hp) (Q:VK) (xs:List V):kExt1 l b H Q xs=optK (lstAt H b) (kExt2 l xs H Q):=rfl
theorem m_rExtend (l b:Addr) (H:Hp) (Q:VK):rExtend (.ref l) [.ref b] H Q=optK (lstAt H l) (kExt1 l b H Q):=by
 refine propext ⟨fun h=>?_,fun h=>?_⟩
 ·obtain ⟨l',b',xs,zs,e1,e2,h1,h2,h3,q⟩:=h
  cases e1
  cases e2
  unfold lstAt
  rw [h1]
  show optK (lstAt H b) _
  unfold lstAt
  rw [h2]
  exact ⟨h3,q⟩
 ·obtain ⟨xs,e,h⟩:=optK_ex h
  obtain ⟨zs,e2,h3,q⟩:=optK_ex h
  exact ⟨l,b,xs,zs,rfl,rfl,lst_of e,lst_of e2,h3,q⟩
section
variable {X:Cx}{a b c d:Expr}{ta tb tc td:TE}{pos:Pos}
end
section
variable {k:Nat}{g:TG}{tt:TT}{te:TE}{σ:St}{Q:VK}{H:Hp}{K:PySem.W.Frag}
theorem comp_rel2 {α:Type}{J:It}(zs:List α) (c:α->Bool) (P:α->V->Hp->Prop) (R:Addr->α->V->Hp->Prop)
  (hgo:∀ i z H',zs[i]? = some z->Ext H H'->J.go i H'∧∀ x H'',J.yld i H' x H''->Ext H' H''∧P z x H'')
  (hst:∀ H',Ext H H'->J.stop zs.length H')
  (hR1:∀ D z y H1 H2,R D z y H1->Ext H1 H2->R D z y H2) (hR2:∀ D z y H1 xs o,R D z y H1->H1 D=some (.lst xs)->R D z y (upd H1 D o))
  (hl:zs.length≤sizeLine)
  (hs:∀ D z x H' N1 N0,z∈zs->H D=none->Ext H H'->(∃ ys,H' D=some (.lst ys))->P z x H'->(c z=true->∀ y H'',Ext H' H''->R D z y H''->N1 y H'')->(c z=false->∀ H'',Ext H' H''->N0 H'')->g x (List.replicate k none++σ) H' (kCm k tt te σ N1 N0))
  (hd:∀ D ys H',H D=none->Ext H H'->H' D=some (.lst ys)->Al (fun z y=>R D z y H') (zs.filter c) ys->Q (.ref D) H'):kComp k g tt te σ Q J H:=by
 intro D hD
 refine ⟨fun i m ys H'=>m=zs.length - i∧i≤zs.length∧Ext H H'∧H' D=some (.lst ys)∧Al (fun z y=>R D z y H') ((zs.take i).filter c) ys,⟨zs.length,by simp,Nat.zero_le _,Ext.new hD,upd_same,by simpa using Al.nil⟩,?_⟩
 rintro i m ys H' ⟨rfl,hi,e,hD',al⟩
 by_cases hlt:i < zs.length
 ·have hz:zs[i]? = some zs[i]:=List.getElem?_eq_getElem hlt
  obtain ⟨go,y⟩:=hgo i zs[i] H' hz e
  have tk:zs.take (i+1)=zs.take i++[zs[i]]:=by rw [List.take_succ,hz];rfl
  have ln:ys.length < sizeLine:=by
   have h1:=al.1
   have h2:=List.length_filter_le c (zs.take i)
   simp only [List.length_take] at h2
   omega
  refine .inr ⟨go,fun ys' H2=>Ext H H2∧H2 D=some (.lst ys')∧Al (fun z y=>R D z y H2) ((zs.take (i+1)).filter c) ys',fun ys' H2 p=>⟨zs.length - (i+1),by omega,rfl,hlt,p⟩,fun x H2 z=>?_⟩
  obtain ⟨e2,p2⟩:=y x H2 z
  refine hs D zs[i] x H2 (kC3 D ys _) _ (List.getElem_mem hlt) hD (e.trans e2) ⟨ys,e2.at hD'⟩ p2 (fun hc y H3 e3 r3=>?_) fun hc H3 e3=>?_
  ·refine ⟨e3.at (e2.at hD'),ln,(e.trans (e2.trans e3)).put hD,upd_same,?_⟩
   rw [tk,List.filter_append,show [zs[i]].filter c=[zs[i]] by simp [hc]]
   exact Al.snoc (al.imp fun z y r=>hR2 _ _ _ _ _ _ (hR1 _ _ _ _ _ r (e2.trans e3)) (e3.at (e2.at hD'))) (hR2 _ _ _ _ _ _ r3 (e3.at (e2.at hD')))
  ·refine ⟨e.trans (e2.trans e3),(e2.trans e3).at hD',?_⟩
   rw [tk,List.filter_append,show [zs[i]].filter c=[] by simp [hc],List.append_nil]
   exact al.imp fun z y r=>hR1 _ _ _ _ _ r (e2.trans e3)
 ·have e':i=zs.length:=by omega
  subst e'
  rw [List.take_length] at al
  exact .inl ⟨hst H' e,hd D ys H' hD e hD' al⟩
end
end L2
set_option Elab.async false
set_option linter.all false
set_option maxRecDepth 100000
set_option maxHeartbeats 4000000
namespace L2
open PySem PySem.Spec PyProof.Rows
section
variable {X:Cx}
end
section
variable {g:TG}{σ:St}{Q:VK}{H:Hp}{K:PySem.W.Frag}
end
section
variable {X:Cx}{CX:CXT}{k:Nat}{f C:Addr}{fd:FuncData}{ps:List Str}{sp:Sp}{dvs:List V}{ds:List Value}{E:St->XK}{x m:Str}{p pos apos:Pos}{e o:Expr}{es:List Expr}{ta:TE}{t:TA}
end
end L2
set_option Elab.async false
set_option linter.all false
set_option maxRecDepth 100000
set_option maxHeartbeats 1000000
namespace L2
open PySem PySem.Spec PyProof.Rows
section
variable {X:Cx}{e st:Expr}{te tst:TE}{pos p2:Pos}
end
end L2
set_option Elab.async false
set_option linter.all false
set_option maxRecDepth 100000
set_option maxHeartbeats 1000000
namespace L2
open PySem PySem.Spec PyProof.Rows
section
variable {X:Cx}
end
end L2
set_option Elab.async false
set_option linter.all false
set_option maxRecDepth 100000
set_option maxHeartbeats 1000000
namespace L2
open PySem PySem.Spec PyProof.Rows
theorem units1 {n:Nat}(h:n+64 < cLine):n+1 < cLine:=by omega
def rInD (neg:Bool):R2:=fun y x H Q=>∃ a o,x=.ref a∧DGet H a y o∧Q (.bl (if neg=true then !o.isSome else o.isSome)) H
theorem use_in {neg:Bool}{H:Hp}{a:Addr}{kvs:List (Key × V)}{k:Key}{Q:VK}(e:H a=some (.dK kvs)) (q:Q (.bl (if neg=true then !(valV kvs k).isSome else (valV kvs k).isSome)) H):rInD neg (kV k) (.ref a) H Q:=⟨a,_,rfl,DGet.k e,q⟩
section
variable {X:Cx}
theorem op_inD (hu:X.A.units+1 < cLine):OpR X (compareOp .In) (rInD false):=by
 intro pins s σ H x y v u Q I rx ry h
 obtain ⟨a,o,rfl,g,q⟩:=h
 obtain rfl:u=Value.ref a:=ry
 exact d_in hu I g rx fun s3 I3=>⟨.bl o.isSome,H,I3,rfl,q⟩
end
def kDP2 (nx:St->Hp->Prop) (σ:St) (v x:V):VK:=fun y H=>∃ a H4,x=.ref a∧DPut H a y v H4∧nx σ H4
def kDP1 (ty:TE) (nx:St->Hp->Prop) (σ:St) (v:V):VK:=fun x H=>ty σ H (kDP2 nx σ v x)
theorem m_kDP1 (ty:TE) (nx:St->Hp->Prop) (σ:St) (v x:V) (H:Hp):kDP1 ty nx σ v x H=ty σ H (kDP2 nx σ v x):=rfl
def kDP0 (td ty:TE) (nx:St->Hp->Prop) (σ:St):VK:=fun v H=>td σ H (kDP1 ty nx σ v)
theorem m_kDP0 (td ty:TE) (nx:St->Hp->Prop) (σ:St) (v:V) (H:Hp):kDP0 td ty nx σ v H=td σ H (kDP1 ty nx σ v):=rfl
theorem m_sDPut (td ty tv:TE) (nx:St->Hp->Prop) (rt:VK) (bk ct:St->Hp->Prop) (σ:St) (H:Hp):sDPut td ty tv ⟨nx,rt,bk,ct⟩ σ H=tv σ H (kDP0 td ty nx σ):=rfl
theorem use_dp {H:Hp}{a:Addr}{kvs:List (Key × V)}{k:Key}{v:V}{nx:St->Hp->Prop}{σ:St}(e:H a=some (.dK kvs)) (hl:kvs.length < sizeLine) (q:nx σ (upd H a (.dK (putK kvs k v)))):kDP2 nx σ v (.ref a) (kV k) H:=⟨a,_,rfl,DPut.k e hl,q⟩
end L2
set_option Elab.async false
set_option linter.all false
set_option maxRecDepth 100000
set_option maxHeartbeats 4000000
namespace L2
open PySem PySem.Spec PyProof.Rows
section
variable {X:Cx}
end
end L2
set_option Elab.async false
set_option linter.all false
set_option maxRecDepth 100000
set_option maxHeartbeats 4000000
namespace L2
open PySem PySem.Spec PyProof.Rows
def tV (i:Nat):TE:=fun σ H Q=>match σ[i]? with
 | some (some v)=>Q v H
 | _=>False
theorem tV_eq (i:Nat):tVar i=tV i:=by
 funext σ H Q
 refine propext ⟨fun ⟨v,e,q⟩=>?_,fun h=>?_⟩
 ·unfold tV;rw [e];exact q
 ·unfold tV at h
  split at h
  ·rename_i v e;exact ⟨v,e,h⟩
  ·exact h.elim
theorem m_tV_0 {v:V}{σ:St}{H:Hp}{Q:VK}:tV 0 (some v::σ) H Q=Q v H:=rfl
theorem m_tV_1 {a0:Option V}{v:V}{σ:St}{H:Hp}{Q:VK}:tV 1 (a0::some v::σ) H Q=Q v H:=rfl
theorem m_tV_2 {a0 a1:Option V}{v:V}{σ:St}{H:Hp}{Q:VK}:tV 2 (a0::a1::some v::σ) H Q=Q v H:=rfl
theorem m_tV_3 {a0 a1 a2:Option V}{v:V}{σ:St}{H:Hp}{Q:VK}:tV 3 (a0::a1::a2::some v::σ) H Q=Q v H:=rfl
theorem m_tV_4 {a0 a1 a2 a3:Option V}{v:V}{σ:St}{H:Hp}{Q:VK}:tV 4 (a0::a1::a2::a3::some v::σ) H Q=Q v H:=rfl
theorem m_tV_5 {a0 a1 a2 a3 a4:Option V}{v:V}{σ:St}{H:Hp}{Q:VK}:tV 5 (a0::a1::a2::a3::a4::some v::σ) H Q=Q v H:=rfl
theorem m_tV_6 {a0 a1 a2 a3 a4 a5:Option V}{v:V}{σ:St}{H:Hp}{Q:VK}:tV 6 (a0::a1::a2::a3::a4::a5::some v::σ) H Q=Q v H:=rfl
theorem m_tV_7 {a0 a1 a2 a3 a4 a5 a6:Option V}{v:V}{σ:St}{H:Hp}{Q:VK}:tV 7 (a0::a1::a2::a3::a4::a5::a6::some v::σ) H Q=Q v H:=rfl
theorem m_tV_8 {a0 a1 a2 a3 a4 a5 a6 a7:Option V}{v:V}{σ:St}{H:Hp}{Q:VK}:tV 8 (a0::a1::a2::a3::a4::a5::a6::a7::some v::σ) H Q=Q v H:=rfl
theorem m_tV_9 {a0 a1 a2 a3 a4 a5 a6 a7 a8:Option V}{v:V}{σ:St}{H:Hp}{Q:VK}:tV 9 (a0::a1::a2::a3::a4::a5::a6::a7::a8::some v::σ) H Q=Q v H:=rfl
theorem m_tV_10 {a0 a1 a2 a3 a4 a5 a6 a7 a8 a9:Option V}{v:V}{σ:St}{H:Hp}{Q:VK}:tV 10 (a0::a1::a2::a3::a4::a5::a6::a7::a8::a9::some v::σ) H Q=Q v H:=rfl
theorem m_tV_11 {a0 a1 a2 a3 a4 a5 a6 a7 a8 a9 a10:Option V}{v:V}{σ:St}{H:Hp}{Q:VK}:tV 11 (a0::a1::a2::a3::a4::a5::a6::a7::a8::a9::a10::some v::σ) H Q=Q v H:=rfl
theorem m_tV_12 {a0 a1 a2 a3 a4 a5 a6 a7 a8 a9 a10 a11:Option V}{v:V}{σ:St}{H:Hp}{Q:VK}:tV 12 (a0::a1::a2::a3::a4::a5::a6::a7::a8::a9::a10::a11::some v::σ) H Q=Q v H:=rfl
def nI0 (g:Int->Int->V):R2:=fun x y H Q=>match x,y with
 | .int i,.int j=>Q (g i j) H
 | _,_=>False
theorem m_nI0 (g:Int->Int->V) (i j:Int) (H:Hp) (Q:VK):nI0 g (.int i) (.int j) H Q=Q (g i j) H:=rfl
theorem nI0_eq (g:Int->Int->V):rI0 g=nI0 g:=by
 funext x y H Q
 refine propext ⟨fun ⟨i,j,e,e',q⟩=>by subst e e';exact q,fun h=>?_⟩
 unfold nI0 at h
 split at h
 ·exact ⟨_,_,rfl,rfl,h⟩
 ·exact h.elim
def nI (C:Int->Int->Prop) (g:Int->Int->V):R2:=fun x y H Q=>match x,y with
 | .int i,.int j=>C i j∧Q (g i j) H
 | _,_=>False
theorem m_nI (C:Int->Int->Prop) (g:Int->Int->V) (i j:Int) (H:Hp) (Q:VK):nI C g (.int i) (.int j) H Q=(C i j∧Q (g i j) H):=rfl
theorem nI_eq (C:Int->Int->Prop) (g:Int->Int->V):rI C g=nI C g:=by
 funext x y H Q
 refine propext ⟨fun ⟨i,j,e,e',q⟩=>by subst e e';exact q,fun h=>?_⟩
 unfold nI at h
 split at h
 ·exact ⟨_,_,rfl,rfl,h⟩
 ·exact h.elim
def nU (g:Int->V):V->Hp->VK->Prop:=fun x H Q=>match x with
 | .int i=>Q (g i) H
 | _=>False
theorem m_nU (g:Int->V) (i:Int) (H:Hp) (Q:VK):nU g (.int i) H Q=Q (g i) H:=rfl
theorem nU_eq (g:Int->V):rU g=nU g:=by
 funext x H Q
 refine propext ⟨fun ⟨i,e,q⟩=>by subst e;exact q,fun h=>?_⟩
 unfold nU at h
 split at h
 ·exact ⟨_,rfl,h⟩
 ·exact h.elim
def kTestN (Q:Bool->Hp->Prop):VK:=fun x H=>match x with
 | .bl k=>Q k H
 | _=>False
theorem m_kTestN (Q:Bool->Hp->Prop) (k:Bool) (H:Hp):kTestN Q (.bl k) H=Q k H:=rfl
theorem kTest_eq (Q:Bool->Hp->Prop):kTest Q=kTestN Q:=by
 funext x H
 refine propext ⟨fun ⟨k,e,q⟩=>by subst e;exact q,fun h=>?_⟩
 unfold kTestN at h
 split at h
 ·exact ⟨_,rfl,h⟩
 ·exact h.elim
def nTest (t:TE):TT:=fun σ H Q=>t σ H (kTestN Q)
theorem m_nTest (t:TE) (σ:St) (H:Hp) (Q:Bool->Hp->Prop):nTest t σ H Q=t σ H (kTestN Q):=rfl
theorem nTest_eq (t:TE):tTest t=nTest t:=by
 funext σ H Q
 show t σ H (kTest Q)=t σ H (kTestN Q)
 rw [kTest_eq]
theorem nTest_eqB (t:TE):tB t=nTest t:=nTest_eq t
def kAndN (tb:TE) (σ:St) (Q:VK):VK:=fun x H=>match x with
 | .bl c=>if c=true then tb σ H Q else Q (.bl false) H
 | _=>False
theorem m_kAndN (tb:TE) (σ:St) (Q:VK) (c:Bool) (H:Hp):kAndN tb σ Q (.bl c) H=(if c=true then tb σ H Q else Q (.bl false) H):=rfl
def nAndV (ta tb:TE):TE:=fun σ H Q=>ta σ H (kAndN tb σ Q)
theorem m_nAndV (ta tb:TE) (σ:St) (H:Hp) (Q:VK):nAndV ta tb σ H Q=ta σ H (kAndN tb σ Q):=rfl
theorem nAndV_eq (ta tb:TE):tAndV ta tb=nAndV ta tb:=by
 funext σ H Q
 show ta σ H (kAndV tb σ Q)=ta σ H (kAndN tb σ Q)
 congr 1
 funext x H
 refine propext ⟨fun ⟨k,e,q⟩=>by subst e;exact q,fun h=>?_⟩
 unfold kAndN at h
 split at h
 ·exact ⟨_,rfl,h⟩
 ·exact h.elim
def kOrN (tb:TE) (σ:St) (Q:VK):VK:=fun x H=>match x with
 | .bl c=>if c=true then Q (.bl true) H else tb σ H Q
 | _=>False
theorem m_kOrN (tb:TE) (σ:St) (Q:VK) (c:Bool) (H:Hp):kOrN tb σ Q (.bl c) H=(if c=true then Q (.bl true) H else tb σ H Q):=rfl
def nOrV (ta tb:TE):TE:=fun σ H Q=>ta σ H (kOrN tb σ Q)
theorem m_nOrV (ta tb:TE) (σ:St) (H:Hp) (Q:VK):nOrV ta tb σ H Q=ta σ H (kOrN tb σ Q):=rfl
theorem nOrV_eq (ta tb:TE):tOrV ta tb=nOrV ta tb:=by
 funext σ H Q
 show ta σ H (kOrV tb σ Q)=ta σ H (kOrN tb σ Q)
 congr 1
 funext x H
 refine propext ⟨fun ⟨k,e,q⟩=>by subst e;exact q,fun h=>?_⟩
 unfold kOrN at h
 split at h
 ·exact ⟨_,rfl,h⟩
 ·exact h.elim
def kNotN (Q:VK):VK:=fun x H=>match x with
 | .bl c=>Q (.bl (!c)) H
 | _=>False
theorem m_kNotN (Q:VK) (c:Bool) (H:Hp):kNotN Q (.bl c) H=Q (.bl (!c)) H:=rfl
def nNotV (ta:TE):TE:=fun σ H Q=>ta σ H (kNotN Q)
theorem m_nNotV (ta:TE) (σ:St) (H:Hp) (Q:VK):nNotV ta σ H Q=ta σ H (kNotN Q):=rfl
theorem nNotV_eq (ta:TE):tNotV ta=nNotV ta:=by
 funext σ H Q
 show ta σ H (kNotV Q)=ta σ H (kNotN Q)
 congr 1
 funext x H
 refine propext ⟨fun ⟨k,e,q⟩=>by subst e;exact q,fun h=>?_⟩
 unfold kNotN at h
 split at h
 ·exact ⟨_,rfl,h⟩
 ·exact h.elim
def kChN2 (r':R2) (tc:TE) (σ:St) (y:V) (Q:VK):VK:=fun z H=>match z with
 | .bl k=>if k=true then tc σ H (kCh3 r' y Q) else Q (.bl false) H
 | _=>False
theorem m_kChN2 (r':R2) (tc:TE) (σ:St) (y:V) (Q:VK) (k:Bool) (H:Hp):kChN2 r' tc σ y Q (.bl k) H=(if k=true then tc σ H (kCh3 r' y Q) else Q (.bl false) H):=rfl
theorem kCh2_eq (r':R2) (tc:TE) (σ:St) (y:V) (Q:VK):kCh2 r' tc σ y Q=kChN2 r' tc σ y Q:=by
 funext z H
 refine propext ⟨fun ⟨k,e,q⟩=>by subst e;exact q,fun h=>?_⟩
 unfold kChN2 at h
 split at h
 ·exact ⟨_,rfl,h⟩
 ·exact h.elim
def kChN1 (r r':R2) (tc:TE) (σ:St) (x:V) (Q:VK):VK:=fun y H=>r x y H (kChN2 r' tc σ y Q)
theorem m_kChN1 (r r':R2) (tc:TE) (σ:St) (x y:V) (Q:VK) (H:Hp):kChN1 r r' tc σ x Q y H=r x y H (kChN2 r' tc σ y Q):=rfl
def kChN0 (r r':R2) (tb tc:TE) (σ:St) (Q:VK):VK:=fun x H=>tb σ H (kChN1 r r' tc σ x Q)
theorem m_kChN0 (r r':R2) (tb tc:TE) (σ:St) (Q:VK) (x:V) (H:Hp):kChN0 r r' tb tc σ Q x H=tb σ H (kChN1 r r' tc σ x Q):=rfl
def nChain (r r':R2) (ta tb tc:TE):TE:=fun σ H Q=>ta σ H (kChN0 r r' tb tc σ Q)
theorem m_nChain (r r':R2) (ta tb tc:TE) (σ:St) (H:Hp) (Q:VK):nChain r r' ta tb tc σ H Q=ta σ H (kChN0 r r' tb tc σ Q):=rfl
theorem nChain_eq (r r':R2) (ta tb tc:TE):tChain r r' ta tb tc=nChain r r' ta tb tc:=by
 funext σ H Q
 show ta σ H (kCh0 r r' tb tc σ Q)=ta σ H (kChN0 r r' tb tc σ Q)
 congr 1
 funext x H1
 show tb σ H1 (kCh1 r r' tc σ x Q)=tb σ H1 (kChN1 r r' tc σ x Q)
 congr 1
 funext y H2
 show r x y H2 (kCh2 r' tc σ y Q)=r x y H2 (kChN2 r' tc σ y Q)
 rw [kCh2_eq]
def gNilN:TGs:=fun vs σ H Q=>match vs with
 | []=>Q σ H
 | _=>False
theorem m_gNilN (σ:St) (H:Hp) (Q:St->Hp->Prop):gNilN [] σ H Q=Q σ H:=rfl
theorem gNil_eq:gNil=gNilN:=by
 funext vs σ H Q
 refine propext ⟨fun ⟨e,q⟩=>by subst e;exact q,fun h=>?_⟩
 unfold gNilN at h
 split at h
 ·exact ⟨rfl,h⟩
 ·exact h.elim
def gConsN (t:TG) (u:TGs):TGs:=fun vs σ H Q=>match vs with
 | v::r=>t v σ H (kGs u r Q)
 | _=>False
theorem m_gConsN (t:TG) (u:TGs) (v:V) (r:List V) (σ:St) (H:Hp) (Q:St->Hp->Prop):gConsN t u (v::r) σ H Q=t v σ H (kGs u r Q):=rfl
theorem gCons_eq (t:TG) (u:TGs):gCons t u=gConsN t u:=by
 funext vs σ H Q
 refine propext ⟨fun ⟨v,r,e,q⟩=>by subst e;exact q,fun h=>?_⟩
 unfold gConsN at h
 split at h
 ·exact ⟨_,_,rfl,h⟩
 ·exact h.elim
theorem spx1 {α0:Type}{f:α0->List V}{B:α0->Prop}(inj:∀ a a',f a=f a'->a=a') (a:α0):(∃ a',f a=f a'∧B a')=B a:=propext ⟨fun ⟨a',e,q⟩=>by obtain rfl:=inj _ _ e;exact q,fun q=>⟨a,rfl,q⟩⟩
theorem spl1 {α0:Type}{f:α0->List V}{B:α0->Prop}{vs:List V}{n:Nat}(h:∃ a,vs=f a∧B a) (l:∀ a,(f a).length=n):vs.length=n:=by
 obtain ⟨_,rfl,_⟩:=h
 exact l _
theorem spx2 {α0 α1:Type}{f:α0->α1->List V}{B:α0->α1->Prop}(inj:∀ a b a' b',f a b=f a' b'->a=a'∧b=b') (a:α0) (b:α1):(∃ a' b',f a b=f a' b'∧B a' b')=B a b:=propext ⟨fun ⟨a',b',e,q⟩=>by obtain ⟨rfl,rfl⟩:=inj _ _ _ _ e;exact q,fun q=>⟨a,b,rfl,q⟩⟩
theorem spl2 {α0 α1:Type}{f:α0->α1->List V}{B:α0->α1->Prop}{vs:List V}{n:Nat}(h:∃ a b,vs=f a b∧B a b) (l:∀ a b,(f a b).length=n):vs.length=n:=by
 obtain ⟨_,_,rfl,_⟩:=h
 exact l _ _
theorem spx3 {α0 α1 α2:Type}{f:α0->α1->α2->List V}{B:α0->α1->α2->Prop}(inj:∀ a b c a' b' c',f a b c=f a' b' c'->a=a'∧b=b'∧c=c') (a:α0) (b:α1) (c:α2):(∃ a' b' c',f a b c=f a' b' c'∧B a' b' c')=B a b c:=propext ⟨fun ⟨a',b',c',e,q⟩=>by obtain ⟨rfl,rfl,rfl⟩:=inj _ _ _ _ _ _ e;exact q,fun q=>⟨a,b,c,rfl,q⟩⟩
theorem spl3 {α0 α1 α2:Type}{f:α0->α1->α2->List V}{B:α0->α1->α2->Prop}{vs:List V}{n:Nat}(h:∃ a b c,vs=f a b c∧B a b c) (l:∀ a b c,(f a b c).length=n):vs.length=n:=by
 obtain ⟨_,_,_,rfl,_⟩:=h
 exact l _ _ _
theorem spx4 {α0 α1 α2 α3:Type}{f:α0->α1->α2->α3->List V}{B:α0->α1->α2->α3->Prop}(inj:∀ a b c d a' b' c' d',f a b c d=f a' b' c' d'->a=a'∧b=b'∧c=c'∧d=d') (a:α0) (b:α1) (c:α2) (d:α3):(∃ a' b' c' d',f a b c d=f a' b' c' d'∧B a' b' c' d')=B a b c d:=propext ⟨fun ⟨a',b',c',d',e,q⟩=>by obtain ⟨rfl,rfl,rfl,rfl⟩:=inj _ _ _ _ _ _ _ _ e;exact q,fun q=>⟨a,b,c,d,rfl,q⟩⟩
theorem spl4 {α0 α1 α2 α3:Type}{f:α0->α1->α2->α3->List V}{B:α0->α1->α2->α3->Prop}{vs:List V}{n:Nat}(h:∃ a b c d,vs=f a b c d∧B a b c d) (l:∀ a b c d,(f a b c d).length=n):vs.length=n:=by
 obtain ⟨_,_,_,_,rfl,_⟩:=h
 exact l _ _ _ _
theorem len0 {P:List Value->Prop}(h:P []):∀ us:List Value,us.length=0->P us:=fun us e=>by
 cases us with
 | nil=>exact h
 | cons a r=>cases e
theorem len1 {P:List Value->Prop}(h:∀ a,P [a]):∀ us:List Value,us.length=1->P us:=fun us e=>by
 cases us with
 | nil=>cases e
 | cons x r=>exact len0 (P:=fun r=>P (x::r)) (h x) r (Nat.succ.inj e)
theorem len2 {P:List Value->Prop}(h:∀ a b,P [a,b]):∀ us:List Value,us.length=2->P us:=fun us e=>by
 cases us with
 | nil=>cases e
 | cons x r=>exact len1 (P:=fun r=>P (x::r)) (h x) r (Nat.succ.inj e)
theorem len3 {P:List Value->Prop}(h:∀ a b c,P [a,b,c]):∀ us:List Value,us.length=3->P us:=fun us e=>by
 cases us with
 | nil=>cases e
 | cons x r=>exact len2 (P:=fun r=>P (x::r)) (h x) r (Nat.succ.inj e)
theorem len4 {P:List Value->Prop}(h:∀ a b c d,P [a,b,c,d]):∀ us:List Value,us.length=4->P us:=fun us e=>by
 cases us with
 | nil=>cases e
 | cons x r=>exact len3 (P:=fun r=>P (x::r)) (h x) r (Nat.succ.inj e)
section
variable {X:Cx}
theorem pvN (i:Nat){x:Str}{pos:Pos}(hN:X.N[i]? = some x:=by rfl) (hv:Vis X.env.scope x:=by first|exact Or.inl rfl|exact Or.inr (Or.inl rfl)|exact Or.inr (Or.inr rfl)) (hd:(x == ("__debug__":Str))=false:=by decide)
  (hcd:(x == ("__classdict__":Str))=false:=by decide):PE X (.Name x pos) (tV i):=by rw [←tV_eq];exact pv i hN hv hd hcd
theorem on_add:OpR X (binaryOp .Add) (nI0 fun i j=>.int (i+j)):=by rw [←nI0_eq];exact op_add
theorem on_sub:OpR X (binaryOp .Sub) (nI0 fun i j=>.int (i - j)):=by rw [←nI0_eq];exact op_sub
theorem on_lt:OpR X (compareOp .Lt) (nI0 fun i j=>.bl (decide (i < j))):=by rw [←nI0_eq];exact op_lt
theorem on_le:OpR X (compareOp .LtE) (nI0 fun i j=>.bl (decide (i≤j))):=by rw [←nI0_eq];exact op_le
theorem on_gt:OpR X (compareOp .Gt) (nI0 fun i j=>.bl (decide (j < i))):=by rw [←nI0_eq];exact op_gt
theorem on_ge:OpR X (compareOp .GtE) (nI0 fun i j=>.bl (decide (j≤i))):=by rw [←nI0_eq];exact op_ge
theorem on_mul:OpR X (binaryOp .Mult) (nI CMul fun i j=>.int (i * j)):=by rw [←nI_eq];exact op_mul
theorem on_mulB:OpR X (binaryOp .Mult) (nI CMulB fun i j=>.int (i * j)):=by rw [←nI_eq];exact op_mulB
theorem on_fdiv:OpR X (binaryOp .FloorDiv) (nI CDiv fun i j=>.int (i / j)):=by rw [←nI_eq];exact op_fdiv
theorem on_mod:OpR X (binaryOp .Mod) (nI (fun _ j=>0 < j) fun i j=>.int (i % j)):=by rw [←nI_eq];exact op_mod
theorem on_pow:OpR X (binaryOp .Pow) (nI CPow fun i j=>.int (i ^ j.toNat)):=by rw [←nI_eq];exact op_pow
theorem un_negN:UnR X (unaryOp .USub) (nU fun i=>.int (-i)):=by rw [←nU_eq];exact un_neg
variable {a b c d e:Expr}{ta tb tc td t:TE}{pos:Pos}
theorem pt_cmpRN {op:CmpOp}{r:R2}(ho:OpR X (compareOp op) r) (ha:PE X a ta) (hb:PE X b tb) (hm:behindInMarks op b=false):PT X (.Compare a [op] [b] pos) (nTest (tOp r ta tb)):=by rw [←nTest_eq];exact pt_cmpR ho ha hb hm
theorem pt_valN (h:PE X e t) (he:∀ whole,isTrue e X.env whole=(do let v ←whole;standAt e.pos;holding [v] (truthy v)):=by intro _;rfl):PT X e (nTest t):=by rw [←nTest_eqB];exact pt_val h he
theorem pe_chainN {op op':CmpOp}{r r':R2}(ho:OpR X (compareOp op) r) (ho':OpR X (compareOp op') r') (ha:PE X a ta) (hb:PE X b tb) (hc:PE X c tc)
  (hm:lastMarks [op,op'] [b,c]=false:=by with_unfolding_all rfl):PE X (.Compare a [op,op'] [b,c] pos) (nChain r r' ta tb tc):=by rw [←nChain_eq];exact pe_chain ho ho' ha hb hc hm
variable {rest:List Expr}
theorem pe_andN (ha:PE X a ta) (hb:PE X (.BoolOp .And (b::rest) pos) tb):PE X (.BoolOp .And (a::b::rest) pos) (nAndV ta tb):=by rw [←nAndV_eq];exact pe_and ha hb
theorem pe_orN (ha:PE X a ta) (hb:PE X (.BoolOp .Or (b::rest) pos) tb):PE X (.BoolOp .Or (a::b::rest) pos) (nOrV ta tb):=by rw [←nOrV_eq];exact pe_or ha hb
theorem pe_notN (ha:PE X a ta):PE X (.UnaryOp .Not a pos) (nNotV ta):=by rw [←nNotV_eq];exact pe_not ha
theorem pgs_nilN:PGs X [] gNilN:=by rw [←gNil_eq];exact pgs_nil
theorem pgs_consN {e:Expr}{es:List Expr}{t:TG}{u:TGs}(h1:PG X e t) (h2:PGs X es u)
  (hs:(assignEach (e::es) X.env).map (·.2)=assign e X.env::(assignEach es X.env).map (·.2):=by rfl):PGs X (e::es) (gConsN t u):=by rw [←gCons_eq];exact pgs_cons h1 h2 hs
end
theorem if_gen {c:TT}{t u:TS}{nx:St->Hp->Prop}{rt:VK}{bk ct:St->Hp->Prop}{σ:St}{H:Hp}(R:St->Hp->Prop) (h:∀ nx':St->Hp->Prop,(∀ σ' H',R σ' H'->nx' σ' H')->tIfS c t u ⟨nx',rt,bk,ct⟩ σ H) (k:∀ σ' H',R σ' H'->nx σ' H'):tIfS c t u ⟨nx,rt,bk,ct⟩ σ H:=h nx k
end L2
set_option Elab.async false
set_option linter.all false
set_option maxRecDepth 100000
set_option maxHeartbeats 4000000
namespace L2
open PySem PySem.Spec PyProof.Rows
end L2
set_option Elab.async false
set_option linter.all false
set_option maxRecDepth 100000
set_option maxHeartbeats 4000000
namespace L2
open PySem PySem.Spec PyProof.Rows
def kInI (neg:Bool) (x:V) (H:Hp) (Q:VK):List V->Prop:=fun xs=>flatV x=true∧xs.all flatV=true∧Q (.bl (if neg=true then !inV x xs else inV x xs)) H
theorem m_kInI (neg:Bool) (x:V) (H:Hp) (Q:VK) (xs:List V):kInI neg x H Q xs=(flatV x=true∧xs.all flatV=true∧Q (.bl (if neg=true then !inV x xs else inV x xs)) H):=rfl
def nIn (neg:Bool):R2:=fun x y H Q=>match y with
 | .ref p=>optK (itemsAt H p) (kInI neg x H Q)
 | _=>False
theorem m_nIn (neg:Bool) (x:V) (p:Addr) (H:Hp) (Q:VK):nIn neg x (.ref p) H Q=optK (itemsAt H p) (kInI neg x H Q):=rfl
theorem rIn_of {K:PySem.W.Frag}{neg:Bool}{x y:V}{H:Hp}{Q:VK}(h:nIn neg x y H Q):rIn K neg x y H Q:=by
 unfold nIn at h
 split at h
 ·rename_i p
  obtain ⟨xs,e,h1,h2,q⟩:=optK_ex h
  exact ⟨p,xs,rfl,items_seq e,h1,h2,q⟩
 ·exact h.elim
theorem op_nIn {X:Cx}:OpR X (compareOp .In) (nIn false):=op_in_seq.mono fun x y H Q h=>rIn_of h
section
variable {X:Cx}
end
end L2
set_option Elab.async false
set_option linter.all false
set_option maxRecDepth 100000
set_option maxHeartbeats 4000000
namespace L2
open PySem PySem.Spec PyProof.Rows
section
variable {prog:Program}{w:World}{A:Around}{E:Value->Shared->Prop}{s:Shared}
end
section
variable {X:Cx}
end
end L2
set_option Elab.async false
set_option linter.all false
set_option maxRecDepth 100000
set_option maxHeartbeats 4000000
namespace L2
open PySem PySem.Spec PyProof.Rows
theorem kv_get':∀ {kvs:List (Key × V)}{xs:List (Key × Value)},KV kvs xs->∀ {i:Nat}{p:Key × V},kvs[i]? = some p->∃ q,xs[i]? = some q∧p.1=q.1∧RelV p.2 q.2
 | _,_,.nil,i,q,h=>by simp at h
 | _::_,q::_,.cons h t,0,p,hq=>by cases hq;exact ⟨q,rfl,h⟩
 | _::_,_::_,.cons h t,i+1,p,hq=>kv_get' t (i:=i) (by simpa using hq)
end L2
set_option Elab.async false
set_option linter.all false
set_option maxRecDepth 100000
set_option maxHeartbeats 4000000
namespace L2
open PySem PySem.Spec PyProof.Rows
def Itd (a:Addr) (ob:Obj) (kvs:List (Key × V)):It:=
 ⟨fun i H=>H a=some (.frz ob (.dK kvs))∧i < kvs.length,fun i H x H'=>H'=H∧∃ p,kvs[i]? = some p∧x=kV p.1,fun i H=>H a=some (.frz ob (.dK kvs))∧kvs.length≤i⟩
theorem relV_key:∀ {k:Key}{u:Value},keyIs k u=true->RelV (kV k) u
 | .inl i,u,h=>by
  rcases keyIs_shape h with ⟨j,t,e1,e2⟩|⟨j,t,e1,e2⟩
  ·cases e1;exact ⟨t,e2⟩
  ·cases e1
 | .inr x,u,h=>by
  rcases keyIs_shape h with ⟨j,t,e1,e2⟩|⟨j,t,e1,e2⟩
  ·cases e1
  ·cases e1;exact ⟨t,e2⟩
def DObj (P:Program) (w:World) (ob:Obj) (vs:List (Key × Value)) (ep:Nat):Prop:=∀ (h:Heap) (a:Addr),h.get? a=some ob->h.DictAt (mixKind P w) a vs ep
theorem turn_dict {P:Program}{w:World}{K:PySem.W.Frag}{tg:Expr}(a it:Addr) (ob:Obj) (kvs:List (Key × V)) (vs:List (Key × Value)) (ep:Nat) (kx:KV kvs vs) (dx:DObj P w ob vs ep):Turn P w K tg (Itd a ob kvs) [it] it (fun i h=>h.IsKeyIter it a i vs.length ep) where
 mem:=by simp
 obj:=fun i h st b hb=>by
  have e:b=it:=by simpa using hb
  subst e
  obtain ⟨o,e,c,d⟩:=st
  exact ⟨o,e,fun v z=>by rw [d] at z;cases z⟩
 keep:=fun i h h' st k=>st.at fun o e=>k it (by simp) o e
 item:=by
  intro X hP hw hK hc i pins s σ H E I hf st hg
  subst hP hw hK
  obtain ⟨ha,hi⟩:=hg
  have hob:=(show ObjOk X.prog X.w H s.heap a (.frz ob (.dK kvs)) from I.hok a _ ha).1
  have hlen:kvs.length=vs.length:=Paired.length kx
  obtain ⟨q,hq,hk,hr⟩:=kv_get' kx (List.getElem?_eq_getElem hi)
  obtain ⟨f0,f1,f2,f3,f4,f5⟩:=hf it (by simp)
  refine wpAny_pyNext_dict_item st (dx _ a hob) hq fun key h' hkey st' hs'=>?_
  have I1:Inv X pins σ H { s with heap:=h' }:=I.turned (t':=s.toks) (fun b o hb e=>hs'.extBut b o hb e) f0 f1 f3 f4 f5
  obtain ⟨o,e,c,d⟩:=id st'
  refine ⟨key,rfl,go_of (s:={ s with heap:=h' }) e c d (by decide) ⟨kV kvs[i].1,H,I1,?_,⟨rfl,kvs[i],List.getElem?_eq_getElem hi,rfl⟩,st',fun b hb=>(hf b hb).1⟩⟩
  rw [hk]
  exact relV_key hkey
 done:=by
  intro X hP hw hK hc i pins s σ H E I hf st hg
  subst hP hw hK
  obtain ⟨ha,hi⟩:=hg
  have hob:=(show ObjOk X.prog X.w H s.heap a (.frz ob (.dK kvs)) from I.hok a _ ha).1
  have hlen:kvs.length=vs.length:=Paired.length kx
  obtain ⟨f0,f1,f2,f3,f4,f5⟩:=hf it (by simp)
  exact wpAny_pyNext_dict_end (I.ok.hd hc) st (dx _ a hob) (by simp;omega) fun h' eb=>⟨rfl,I.turned (t':=s.toks) (fun b o hb e=>eb b o hb e) f0 f1 f3 f4 f5⟩
 self:=fun _ _ _ _ _ st h=>wpAny_pyIter_keyiter st h
def kIDc (R:It->Hp->Prop):VK:=fun x H1=>∃ a kvs,x=.ref a∧H1 a=some (.dK kvs)∧∀ ob,R (Itd a ob kvs) (upd H1 a (.frz ob (.dK kvs)))
def iDict (tl:TE):TI:=fun σ H R=>tl σ H (kIDc R)
theorem m_iDict (tl:TE) (σ:St) (H:Hp) (R:It->Hp->Prop):iDict tl σ H R=tl σ H (kIDc R):=rfl
theorem pi_dict {X:Cx}{tg l:Expr}{tl:TE}(hl:PE X l tl):PI X tg l (iDict tl):=by
 intro pins s σ H R I h
 refine thn (hl pins s σ H _ I h) fun v s1 ⟨x,H1,I1,r1,q1⟩=>?_
 obtain ⟨a,kvs,e,ha,q⟩:=q1
 subst e
 cases r1
 have hO:ObjOk X.prog X.w H1 s1.heap a (.dK kvs):=I1.hok a _ ha
 obtain ⟨z0,lo,vs,kx,dd⟩:=id hO
 obtain ⟨ep,hat⟩:=dd.dictAt
 obtain ⟨ob,es,ho,rest⟩:=id hat
 have dx:DObj X.prog X.w ob vs ep:=fun h b hb=>⟨ob,es,hb,rest⟩
 have hO':ObjOk X.prog X.w (upd H1 a (.frz ob (.dK kvs))) s1.heap a (.frz ob (.dK kvs)):=⟨ho,⟨z0,lo,vs,kx,dd⟩⟩
 have I2:=I1.write (t':=s1.toks) (x:=a) (e:=a) (o:=.frz ob (.dK kvs)) (h':=s1.heap) (by rw [ha];trivial) (.inl rfl) (fun b u _ e=>e) ⟨ob,ho⟩ hO'
 refine wpAny_pyIter_dict lo hat ?_
 refine ⟨s1.heap.objs.size,[s1.heap.objs.size],_,_,_,rfl,I2.kept (t':=s1.toks) fun b o e=>Heap.get?_push_of_some _ e,turn_dict a _ ob kvs vs ep kx dx,⟨_,Heap.get?_push_size _ rfl,rfl,rfl⟩,fun b hb=>?_,q ob⟩
 have e:b=s1.heap.objs.size:=by simpa using hb
 subst e
 exact I2.fpOk (Nat.le_refl _) (I2.hok.fresh (Nat.le_refl _))
section
variable {k:Nat}{g:TG}{tt:TT}{te:TE}{σ:St}{Q:VK}{H:Hp}
end
end L2
set_option Elab.async false
set_option linter.all false
set_option maxRecDepth 100000
set_option maxHeartbeats 4000000
namespace L2
open PySem PySem.Spec PyProof.Rows
structure IsC (K:PySem.W.Frag) (C:Addr):Prop where
 cl:Cls K C
 fc:PySem.W.findIn K (.ref C) "__class__"=some (some (.builtin "object.__class__"))
 ocs:PySem.W.specialIn K (.builtin "object.__class__") "__get__"=some (some (.builtin "getset_descriptor.__get__"))
 oct:PySem.W.takesIn K (.builtin "object.__class__")=some true
 mo:PySem.W.mroIn K C (.type "object")=some true
end L2
set_option Elab.async false
set_option linter.all false
set_option maxRecDepth 100000
set_option maxHeartbeats 4000000
namespace L2
open PySem PySem.Spec PyProof.Rows
def nIsB (neg:Bool):R2:=fun x y H Q=>match x,y with
 | .bl b,.bl c=>Q (.bl (if neg=true then !(b == c) else b == c)) H
 | _,_=>False
theorem m_nIsB (neg b c:Bool) (H:Hp) (Q:VK):nIsB neg (.bl b) (.bl c) H Q=Q (.bl (if neg=true then !(b == c) else b == c)) H:=rfl
section
variable {X:Cx}
theorem op_nIsB:OpR X (compareOp .Is) (nIsB false):=by
 intro pins s σ H x y v u Q I rx ry h
 unfold nIsB at h
 split at h
 ·rename_i b c
  cases (show v=Value.bool b from rx)
  cases (show u=Value.bool c from ry)
  refine wpAny_is_plain (by cases b<;>cases c<;>rfl) ⟨.bl (b == c),H,I,?_,h⟩
  cases b<;>cases c<;>rfl
 ·exact h.elim
theorem op_nIsntB:OpR X (compareOp .IsNot) (nIsB true):=by
 intro pins s σ H x y v u Q I rx ry h
 unfold nIsB at h
 split at h
 ·rename_i b c
  cases (show v=Value.bool b from rx)
  cases (show u=Value.bool c from ry)
  refine wpAny_isNot_plain (by cases b<;>cases c<;>rfl) ⟨.bl (!(b == c)),H,I,?_,h⟩
  cases b<;>cases c<;>rfl
 ·exact h.elim
end
end L2
set_option Elab.async false
set_option linter.all false
set_option maxRecDepth 100000
set_option maxHeartbeats 4000000
namespace L2
open PySem PySem.Spec PyProof.Rows PySem.W
section
variable {prog:Program}{w:World}{A:Around}{E:Value->Shared->Prop}{K:Frag}{x C dx:Addr}{s:Shared}{name:Str}{v:Value}
end
section
variable {X:Cx}{e o value:Expr}{ta tv:TE}{f:Str}{pos pos':Pos}
end
end L2
set_option Elab.async false
set_option linter.all false
set_option maxRecDepth 100000
set_option maxHeartbeats 4000000
namespace L2
open PySem PySem.Spec PyProof.Rows
open Sem (wp)
open AutoSeq1 (wpAny_loadPart')
section
variable {X:Cx}
end
end L2
set_option Elab.async false
set_option linter.all false
set_option maxRecDepth 100000
set_option maxHeartbeats 4000000
namespace L2
open PySem PySem.Spec PyProof.Rows
end L2
set_option Elab.async false
set_option linter.all false
set_option maxRecDepth 100000
set_option maxHeartbeats 4000000
namespace L2
open PySem PySem.Spec PyProof.Rows
def NoCtx (o:Obj):Prop:=∃ vs,o.data=.fields vs∧vs[2]? = some .none
section
variable {prog:Program}{w:World}{A:Around}{E:Value->Shared->Prop}{s:Shared}
end
def Hand (X:Cx):Prop:=∃ (e:Addr) (oe:Obj) (u:HO),X.A.handled=some (.ref e)∧X.H₀ e=some (.frz oe u)∧NoCtx oe
structure TurnH (P:Program) (w:World) (K:PySem.W.Frag) (tg:Expr) (J:It) (fp:List Addr) (it:Addr) (tn:Nat->Heap->Prop):Prop where
 mem:it∈fp
 obj:∀ i h,tn i h->∀ b∈fp,∃ o,h.get? b=some o∧∀ v,o.data ≠ .cell v
 keep:∀ i h h',tn i h->(∀ b∈fp,∀ o,h.get? b=some o->h'.get? b=some o)->tn i h'
 item:∀ (X:Cx),X.prog=P->X.w=w->X.K=K->Hand X->∀ (i:Nat) (pins:List (Addr × Obj)) (s:Shared) (σ:St) (H:Hp) (E:Value->Shared->Prop),Inv X pins σ H s->(∀ b∈fp,FpOk X pins H b)->tn i s.heap->J.go i H →
  wpAny (model P w) X.A (pyNext (.ref it)) (fun r s1=>∃ u,r=some u ∧
   wpAny (model P w) X.A (letOwnedTupleGo tg (.ref it) u) (fun _ s2=>∃ x H',Inv X pins σ H' s2∧RelV x u∧J.yld i H x H'∧tn (i+1) s2.heap∧∀ b∈fp,H' b=none) E s1) E s
 done:∀ (X:Cx),X.prog=P->X.w=w->X.K=K->Hand X->∀ (i:Nat) (pins:List (Addr × Obj)) (s:Shared) (σ:St) (H:Hp) (E:Value->Shared->Prop),Inv X pins σ H s->(∀ b∈fp,FpOk X pins H b)->tn i s.heap->J.stop i H →
  wpAny (model P w) X.A (pyNext (.ref it)) (fun r s1=>r=none∧Inv X pins σ H s1) E s
section
variable {X:Cx}{tg:Expr}
end
structure RoomH (k:Nat) (e:Addr) (A:Around):Prop where
 hd:A.handled=some (.ref e)
 dp:A.depth+3 * k+5 < recursionLimit
 un:A.units+16 * k+200 < cLine
theorem RoomH.deeper {k:Nat}{e:Addr}{A:Around}(r:RoomH (k+1) e A) (env:Env):RoomH k e (A.deeper env):=
 ⟨r.hd,by have:=r.dp;show A.depth+1+3 * k+5 < _;omega,by have:=r.un;show A.units+3+16 * k+200 < _;omega⟩
theorem RoomH.depth {k:Nat}{e:Addr}{A:Around}(r:RoomH k e A):A.depth < recursionLimit:=by have:=r.dp;omega
theorem Room.hand {k:Nat}{A:Around}(r:Room k A) (e:Addr):RoomH k e (A.mark (some (.ref e))):=⟨rfl,r.dp,r.un⟩
structure FnOkH (P:Program) (w:World) (K:PySem.W.Frag) (mg:Str->Option Value) (base:Heap) (CX:CXT) (k:Nat) (f:Addr) (fd:FuncData) (ps:List Str) (sp:Sp):Prop where
 len:∀ vs H Q E,sp vs H Q E->vs.length=ps.length
 run:∀ (A:Around) (outer:List Env) (s:Shared) (H:Hp) (args:Args) (us:List Value) (vs:List V) (Q:VK) (E:XK) (e:Addr) (oe:Obj) (u:HO),RoomH k e A->H e=some (.frz oe u)->NoCtx oe->Env0 P w K mg base A outer s H->BindsTo s fd args (ps.zip us)->Vals vs us->sp vs H Q E →
  codeAny (model P w) A (.call (.ref f) args) (CR CX outer P w H s Q E) s
abbrev Cx.uncalm (X:Cx):Cx:={ X with calm:=false }
theorem fn_ofH {CX:CXT}{P:Program}{w:World}{K:PySem.W.Frag}{mg:Str->Option Value}{base:Heap}{k:Nat}{f:Addr}{name qual:Str}{params:Arguments}{body:List Stmt}{scope:Scope}{dV kV doc pm cdv ct oc:Value}{an od:Option Addr}
  {osl:Array (Option Value)} {N ps:List Str} {sp:Sp} (lk:K.lookup f=some ⟨oc,od,.func (PySem.W.fnOf name qual params body scope dV kV doc pm an cdv ct),osl⟩) (hcd:PySem.W.codeIn K cdv qual=true) (S:FnScope N ps scope)
  (len:∀ vs H Q E,sp vs H Q E->vs.length=ps.length)
  (hbody:∀ (A:Around) (outer:List Env) (s:Shared) (H:Hp) (vs:List V) (Q:VK) (E:XK) (e:Addr),RoomH k e (A.deeper (envOfC qual scope s.heap.objs.size f cdv))->Hand (cxOf CX P w K mg base N qual scope f cdv A outer s H E).uncalm->sp vs H Q E →
   ∃ t,PSs (cxOf CX P w K mg base N qual scope f cdv A outer s H E).uncalm body t∧t { nx:=fun _ H'=>Q .non H',rt:=Q } (start N vs) H) :
  FnOkH P w K mg base CX (k+1) f (PySem.W.fnOf name qual params body scope dV kV doc pm an cdv ct) ps sp:=by
 refine ⟨len,fun A outer s H args us vs Q E e oe ue hr hHe hnc e0 hb r hsp=>?_⟩
 have hl:=len _ _ _ _ hsp
 have KX:K.In s.heap:=e0.mod.kin.keeps fun b o e=>(e0.bs b o e).1
 have lim:s.heap.NoLimit:=e0.mod.nolimit.keeps fun b o e=>(e0.bs b o e).1
 have hkind:∀ y∈ps.zip us,scope.names.lookup y.1=some .local∨(scope.names.lookup y.1=some .cell∧((cellsFrom (s.heap.objs.size+1) scope.names []).lookup y.1).isSome=true):=fun ⟨n,v⟩ hy=>by
  rcases S.par n (List.of_mem_zip hy).1 with q|q
  ·exact .inl q
  ·exact .inr ⟨q,PySem.W.cellsFrom_some _ _ _ (.inl q)⟩
 refine codeAny_call_function hr.depth (KX _ _ lk) rfl S.co S.gen rfl (PySem.W.codeRec_of KX hcd) (hb _ _ _ _ ?_)
 refine wpAny_newFunctionEnv_cells S.kind hkind fun env he s1 x=>?_
 subst he
 refine ⟨lim.keeps x.toInCall.keep,codeAny_func ?_⟩
 obtain ⟨t,ht,hq⟩:=hbody A outer s H vs Q E e (hr.deeper _) ⟨e,oe,ue,hr.hd,hHe,hnc⟩ hsp
 have e0':Env0 P w K mg base { A with handled:=none } outer s H:=⟨e0.frames,e0.mod,e0.bs,e0.bsz,e0.funs,e0.frf,e0.hok,e0.bare⟩
 have I0:Inv (cxOf CX P w K mg base N qual scope f cdv { A with handled:=none } outer s H E) [] (start N vs) H s1:=inv_start S rfl e0' hl r x
 have I:Inv (cxOf CX P w K mg base N qual scope f cdv A outer s H E).uncalm [] (start N vs) H s1:=
  ⟨⟨I0.ok.mod,I0.ok.kind,I0.ok.glob,I0.ok.blt,I0.ok.above,I0.ok.inj,I0.ok.has,I0.ok.cab,(fun z=>by cases z),I0.ok.frames,I0.ok.stk,I0.ok.exf,I0.ok.bs,I0.ok.bsz,I0.ok.noex,I0.ok.exfs,I0.ok.funs,I0.ok.frf⟩,I0.os,I0.bare,I0.base,I0.loc,I0.cell,I0.free,I0.freeC,I0.pin,I0.hok,I0.len⟩
 refine wpAny_mono (ht [] s1 (start N vs) H _ I hq) (fun fl s' hs=>?_) fun e s' hs=>hs
 have fin:∀ {σ':St} {H':Hp} {v:V} {u:Value},Inv (cxOf CX P w K mg base N qual scope f cdv A outer s H E).uncalm [] σ' H' s'->RelV v u->Q v H'->CE outer P w H s Q u s':=
  fun {σ' H' v u} J rv q=>⟨v,H',J.os,J.bare,J.base,J.hok,rv,q⟩
 cases fl with
 | ret u=>
  obtain ⟨v,σ',H',J,rv,q⟩:=hs
  exact fin J rv q
 | next=>
  obtain ⟨σ',H',J,q⟩:=hs
  exact fin (v:=V.non) (u:=Value.none) J rfl q
 | brk=>
  obtain ⟨_,_,_,q⟩:=hs
  exact False.elim q
 | cont=>
  obtain ⟨_,_,_,q⟩:=hs
  exact False.elim q
theorem Fun.okH {P:Program}{w:World}{K:PySem.W.Frag}{mg:Str->Option Value}{base:Heap}{x qual:Str}{st:Stmt}{f:Addr}{fd:FuncData}{N ps:List Str}{k:Nat}{sp:Sp}(F:Fun K x qual st f fd) (S:FnScope N ps (defScope st)) (len:∀ vs H Q E,sp vs H Q E->vs.length=ps.length)
  (hbody:∀ (cdv:Value) (A:Around) (outer:List Env) (s:Shared) (H:Hp) (vs:List V) (Q:VK) (E:XK) (e:Addr),RoomH k e (A.deeper (envOfC qual (defScope st) s.heap.objs.size f cdv))->Hand (cxOf CX0 P w K mg base N qual (defScope st) f cdv A outer s H E).uncalm.nox->sp vs H Q E →
   ∃ t,PSs (cxOf CX0 P w K mg base N qual (defScope st) f cdv A outer s H E).uncalm.nox (defBody st) t∧t { nx:=fun _ H'=>Q .non H',rt:=Q } (start N vs) H):FnOkH P w K mg base CX0 (k+1) f fd ps sp:=by
 obtain ⟨oc,od,kV,doc,pm,an,cdv,ct,osl,rfl,lk,hcd⟩:=F.ex
 refine fn_ofH lk hcd S len fun A outer s H vs Q E e hr hh hsp=>?_
 obtain ⟨t,h,q⟩:=hbody cdv A outer s H vs Q E e hr hh hsp
 exact ⟨t,h.nox,q⟩
section
variable {X:Cx}
def kCallH (e:Addr) (sp:Sp) (dvs:List V) (E:XK) (Q:VK):List V->Hp->Prop:=fun vs H=>(∃ (oe:Obj) (u:HO),H e=some (.frz oe u)∧NoCtx oe)∧sp (vs++dvs) H Q E
def tCallH (e:Addr) (sp:Sp) (dvs:List V) (E:XK) (t:TA):TE:=fun σ H Q=>t σ H (kCallH e sp dvs E Q)
theorem m_tCallH (e:Addr) (sp:Sp) (dvs:List V) (E:XK) (t:TA) (σ:St) (H:Hp) (Q:VK):tCallH e sp dvs E t σ H Q=t σ H (kCallH e sp dvs E Q):=rfl
theorem use_callH {e:Addr}{sp:Sp}{dvs:List V}{E:XK}{Q:VK}{vs:List V}{H:Hp}{oe:Obj}(h:H e=some (excO oe)) (n:NoCtx oe) (q:sp (vs++dvs) H Q E):kCallH e sp dvs E Q vs H:=⟨⟨oe,_,h,n⟩,q⟩
theorem pe_callH {ee:Addr}{CX:CXT}{k:Nat}{f:Addr}{fd:FuncData}{ps:List Str}{sp:Sp}{ds:List Value}{dvs:List V}{E:XK}{x:Str}{e:Expr}{es:List Expr}{t:TA}{p pos:Pos}
  (F:FnOkH X.prog X.w X.K X.mg X.base CX k f fd ps sp) (hr:Room k X.A) (hg:Gl (X.mark ee) x) (hm:X.mg x=some (.ref f)) (hk:PySem.W.keepIn X.K (.ref f)=true) (hb:Binds X.K fd ps ds) (hd:Vals dvs ds) (hx:Passes CX (X.mark ee) E)
  (ha:PA (X.mark ee) (e::es) t) (hdb:(x == ("__debug__":Str))=false:=by decide) (he:starEach (e::es) (X.mark ee).env=(false,eval e (X.mark ee).env)::starEach es (X.mark ee).env:=by rfl) (hpl:(backTo pos (starEach es (X.mark ee).env)).any (·.1)=false:=by rfl) :
  PE (X.mark ee) (.Call (.Name x p) (e::es) [] pos) (tCallH ee sp dvs E t):=by
 intro pins s σ H Q I h
 refine wpAny_Call_Name_kw (ld_glob (X:=X.mark ee) I hg hm ?_ hdb)
 refine PySem.W.callWith_K (h₀:=X.base) I.ok.mod.kin hk (thn (ha pos pins s σ H _ I h) fun us s1 ⟨vs,H1,I1,r,q0⟩=>⟨I1.kIn,?_⟩) he hpl
 obtain ⟨⟨oe,u,hHe,hnc⟩,q⟩:=q0
 have r2:Vals (vs++dvs) (us++ds):=r.append hd
 have hl:(us++ds).length=ps.length:=by rw [←r2.length];exact F.len _ _ _ _ q
 refine wpAny_call (codeAny_mono (F.run (X.mark ee).A X.stack s1 H1 ⟨us,[]⟩ (us++ds) (vs++dvs) Q E ee oe u (hr.hand ee) hHe hnc I1.env0 (hb s1 us I1.kIn hl) r2 q) fun rr s' hq=>?_)
 cases rr with
 | error ev=>exact hx pins σ H1 s1 ev s' I1 hq
 | ok fl=>
  cases fl with
  | ret u=>exact I1.after hq
  | next=>exact False.elim hq
  | brk=>exact False.elim hq
  | cont=>exact False.elim hq
end
end L2
set_option Elab.async false
set_option linter.all false
set_option maxRecDepth 100000
set_option maxHeartbeats 4000000
namespace L2
open PySem PySem.Spec PyProof.Rows
section
variable {prog:Program}{w:World}{A:Around}{E:Value->Shared->Prop}{s:Shared}
structure Apart3 (z TI TO i j l:Addr) (f g e:List Addr):Prop where
 ti:TI ≠ z∧TI ≠ TO∧TI ≠ i∧TI ≠ j∧TI ≠ l
 zt:z ≠ TO
 zf:z ∉ f
 zg:z ∉ g
 ze:z ∉ e
 tf:TO ∉ f
 tg:TO ∉ g
 te:TO ∉ e
 ig:i ∉ g
 ie:i ∉ e
 jf:j ∉ f
 je:j ∉ e
 lf:l ∉ f
 lg:l ∉ g
variable {z TI TO i j l:Addr}{f g e:List Addr}{ti tj tl:Nat->Heap->Prop}{vi vj vl:Nat->Option Value}{k m n:Nat}{x y u a b c:Value}
end
section
variable {prog:Program}{w:World}{A:Around}{E:Value->Shared->Prop}{s:Shared}
end
section
variable {X:Cx}
end
end L2
set_option Elab.async false
set_option linter.all false
set_option maxRecDepth 100000
set_option maxHeartbeats 4000000
namespace L2
open PySem PySem.Spec PyProof.Rows
end L2
set_option Elab.async false
set_option linter.all false
set_option maxRecDepth 100000
set_option maxHeartbeats 4000000
namespace L2
open PySem PySem.Spec PyProof.Rows
section
variable {X:Cx}
end
end L2
set_option Elab.async false
set_option linter.all false
set_option maxRecDepth 100000
set_option maxHeartbeats 4000000
namespace L2
open PySem PySem.Spec PyProof.Rows
section
variable {prog:Program}{w:World}{A:Around}{R:Result->Shared->Prop}{J:Addr}{fp wr:List Addr}{G:Array GenState->Array GenState->Prop}{n:Nat}{P:Nat->Value->Prop}{St:Nat->Shared->Prop}
end
section
variable {prog:Program}{w:World}{A:Around}{R:Result->Shared->Prop}{J:Addr}{fp wr:List Addr}{G:Array GenState->Array GenState->Prop}{n:Nat}{P:Nat->Value->Prop}{St:Nat->Shared->Prop}
end
end L2
set_option Elab.async false
set_option linter.all false
set_option maxRecDepth 100000
set_option maxHeartbeats 4000000
namespace L2
open PySem PySem.Spec PyProof.Rows
end L2
set_option Elab.async false
set_option linter.all false
set_option maxRecDepth 100000
set_option maxHeartbeats 4000000
namespace L2
open PySem PySem.Spec PyProof.Rows
abbrev PKy:=List Int × List Int
section
variable {prog:Program}{w:World}
end
section
variable {P:Program}{w:World}{H:Hp}{h:Heap}{a:Addr}
end
section
variable {X:Cx}{pins:List (Addr × Obj)}{σ:St}{H:Hp}{s:Shared}{d b:Addr}{k:PKy}{Z:List PKy}{A:Around}{E:Value->Shared->Prop}
end
section
variable {X:Cx}
end
end L2
set_option Elab.async false
set_option linter.all false
set_option maxRecDepth 100000
set_option maxHeartbeats 4000000
namespace L2
open PySem PySem.Spec PyProof.Rows
end L2
set_option Elab.async false
set_option linter.all false
set_option maxRecDepth 100000
set_option maxHeartbeats 1000000
namespace L2
open PySem PySem.Spec PyProof.Rows
section
variable {X:Cx}{e st:Expr}{te tst:TE}{pos p2:Pos}
end
end L2
set_option Elab.async false
set_option linter.all false
set_option maxRecDepth 100000
set_option maxHeartbeats 4000000
namespace L2
open PySem PySem.Spec PyProof.Rows
section
variable {X:Cx}
end
end L2
set_option Elab.async false
set_option linter.all false
set_option maxRecDepth 100000
set_option maxHeartbeats 4000000
namespace L2
open PySem PySem.Spec PyProof.Rows
section
variable {X:Cx}{a b:Expr}{ta tb:TE}{pos:Pos}{rest:List Expr}
end
end L2
set_option Elab.async false
set_option linter.all false
set_option maxRecDepth 100000
set_option maxHeartbeats 4000000
namespace L2
open PySem PySem.Spec PyProof.Rows PySem.SeqAt
def kAnyB (H:Hp) (Q:VK):List Bool->Prop:=fun bs=>Q (.bl (bs.any id)) H
theorem m_kAnyB (H:Hp) (Q:VK) (bs:List Bool):kAnyB H Q bs=Q (.bl (bs.any id)) H:=rfl
def qAny:List V->Hp->VK->Prop:=fun vs H Q=>match vs with
 | [.ref p]=>optK (lstAt H p) (kBls (kAnyB H Q))
 | _=>False
theorem m_qAny (p:Addr) (H:Hp) (Q:VK):qAny [.ref p] H Q=optK (lstAt H p) (kBls (kAnyB H Q)):=rfl
section
variable {X:Cx}
theorem any_range (bs:List Bool):(List.range bs.length).any (fun i=>bs.getD i false)=bs.any id:=by
 rw [Bool.eq_iff_iff,List.any_eq_true,List.any_eq_true]
 refine ⟨fun ⟨i,hi,e⟩=>?_,fun ⟨x,hx,e⟩=>?_⟩
 ·have hi':=List.mem_range.mp hi
  exact ⟨bs[i],List.getElem_mem hi',by simpa [List.getD,List.getElem?_eq_getElem hi'] using e⟩
 ·obtain ⟨i,hi,h⟩:=List.getElem_of_mem hx
  exact ⟨i,List.mem_range.mpr hi,by simpa [List.getD,List.getElem?_eq_getElem hi,h] using e⟩
theorem call_qAny (hc:X.calm=true):CallR X (.builtin "any") qAny:=by
 intro pins s σ H vs us Q I r h
 unfold qAny at h
 split at h
 ·rename_i p
  obtain ⟨xs,e,bs,rfl,q⟩:=optK_ex h
  cases r with
  | cons r rr=>
   cases rr
   cases r
   obtain ⟨its,rv,pl,hz⟩:=I.list (SqL.of (lst_of e))
   have hlt:p < s.heap.objs.size:=by obtain ⟨_,e,_⟩:=pl.isList;exact Heap.lt_size e
   have hlen:its.length=bs.length:=by have:=rv.length;simpa using this.symm
   refine call_any_walk (wpAny_pyIter_list pl.isList ⟨s.heap.objs.size,_,_,_,_,_,fun i=>bs.getD i false,rfl,Walks.list (show X.A.in1.handled=none from I.ok.hd hc) _ p (Nat.ne_of_lt hlt) its.toArray,⟨⟨_,Heap.get?_push_size _ rfl,rfl,rfl⟩,pl.isList.push _⟩,fun i v s' Q' E' hP hQ=>?_,fun h' tk hk=>?_⟩)
   ·have hv:its[i]? = some v:=by simpa using hP
    have hi:i < bs.length:=by rw [←hlen];exact (List.getElem?_eq_some_iff.mp hv).1
    obtain ⟨u,hu,ru⟩:=rv.get (i:=i) (x:=.bl (bs.getD i false)) (by rw [List.getElem?_map,List.getElem?_eq_getElem hi];simp [List.getD,List.getElem?_eq_getElem hi])
    rw [hv] at hu
    cases hu
    have e2:v=.bool (bs.getD i false):=ru
    subst e2
    exact wpAny_truthy_bool hQ
   ·have kp:∀ b o,s.heap.get? b=some o->h'.get? b=some o:=fun b o e=>hk b o (fun hmem=>by
     have:b=s.heap.objs.size:=by simpa using hmem
     subst this
     exact absurd (Heap.lt_size e) (Nat.lt_irrefl _)) (Heap.get?_push_of_some _ e)
    refine ⟨.bl (bs.any id),H,I.kept (t':=tk) kp,?_,q⟩
    rw [show its.toArray.size=bs.length by simp [hlen],any_range]
    exact rfl
 ·exact h.elim
theorem eq_bools (k:Bool):∀ {bs:List Bool}{vs:List Value},Vals (bs.map V.bl) vs->∀ y,y∈vs->∀ (A:Around) (s:Shared),EqAt A s y (.bool k) (isBoolOf k y)
 | [],_,.nil,y,hy,_,_=>absurd hy List.not_mem_nil
 | b::bs,_,.cons (b:=u) r rr,y,hy,A,s=>by
  rcases List.mem_cons.mp hy with e|hy
  ·have e2:u=.bool b:=r
   rw [e,e2];exact EqAt.bool_bool b k
  ·exact eq_bools k rr y hy A s
theorem cnt_bools (k:Bool):∀ {bs:List Bool}{vs:List Value},Vals (bs.map V.bl) vs->vs.countP (isBoolOf k)=bs.count k
 | [],_,.nil=>rfl
 | b::bs,_,.cons (b:=u) r rr=>by
  have e2:u=.bool b:=r
  rw [List.countP_cons,List.count_cons,cnt_bools k rr,e2];rfl
theorem at_bools (k:Bool):∀ {bs:List Bool}{vs:List Value},Vals (bs.map V.bl) vs->∀ (j:Nat) (h:j < vs.length) (h':j < bs.length),isBoolOf k vs[j]=(bs[j] == k)
 | b::bs,_,.cons (b:=u) r rr,0,_,_=>by
  have e2:u=.bool b:=r
  subst e2;rfl
 | b::bs,_,.cons (b:=u) r rr,j+1,h,h'=>at_bools k rr j (by simpa using h) (by simpa using h')
def kCntB (k:Bool) (H:Hp) (Q:VK):List Bool->Prop:=fun bs=>Q (.int (bs.count k:Nat)) H
theorem m_kCntB (k:Bool) (H:Hp) (Q:VK) (bs:List Bool):kCntB k H Q bs=Q (.int (bs.count k:Nat)) H:=rfl
def nCntB:V->List V->Hp->VK->Prop:=fun x vs H Q=>match x,vs with
 | .ref l,[.bl k]=>optK (lstAt H l) (kBls (kCntB k H Q))
 | _,_=>False
theorem m_nCntB (l:Addr) (k:Bool) (H:Hp) (Q:VK):nCntB (.ref l) [.bl k] H Q=optK (lstAt H l) (kBls (kCntB k H Q)):=rfl
theorem mt_nCntB:MtM X "list.count" nCntB:=by
 intro pins s σ H x vs v us Q I rx rv h
 unfold nCntB at h
 split at h
 ·rename_i l k
  obtain ⟨xs,hx,bs,rfl,q⟩:=optK_ex h
  replace hx:=lst_of hx
  cases rx
  cases rv with
  | cons rk rr=>
   cases rr
   cases rk
   obtain ⟨z,its,n,r,hl,e⟩:=I.lstM hx
   refine call_meets F.slot_list_count ⟨_,e,rfl⟩ F.entry_list_count (F.args_list_count_2 _ _) (list_countAt l its.toArray n _ _ (.bool k) (isBoolOf k)) ⟨e,fun y hy=>eq_bools k r y (by simpa using hy) _ _,?_⟩
   rw [show its.toArray.toList.countP (isBoolOf k)=bs.count k from cnt_bools k r]
   exact ⟨.int (bs.count k:Nat),H,I.tok _,⟨_,rfl⟩,q⟩
 ·exact h.elim
def kIdxB (k:Bool) (H:Hp) (Q:VK):List Bool->Prop:=fun bs=>k∈bs∧Q (.int (bs.idxOf k:Nat)) H
theorem m_kIdxB (k:Bool) (H:Hp) (Q:VK) (bs:List Bool):kIdxB k H Q bs=(k∈bs∧Q (.int (bs.idxOf k:Nat)) H):=rfl
def nIdxB:V->List V->Hp->VK->Prop:=fun x vs H Q=>match x,vs with
 | .ref l,[.bl k]=>optK (lstAt H l) (kBls (kIdxB k H Q))
 | _,_=>False
theorem m_nIdxB (l:Addr) (k:Bool) (H:Hp) (Q:VK):nIdxB (.ref l) [.bl k] H Q=optK (lstAt H l) (kBls (kIdxB k H Q)):=rfl
theorem mt_nIdxB:MtM X "list.index" nIdxB:=by
 intro pins s σ H x vs v us Q I rx rv h
 unfold nIdxB at h
 split at h
 ·rename_i l k
  obtain ⟨xs,hx,bs,rfl,hk,q⟩:=optK_ex h
  replace hx:=lst_of hx
  cases rx
  cases rv with
  | cons rk rr=>
   cases rr
   cases rk
   obtain ⟨z,its,n,r,hl,e⟩:=I.lstM hx
   have hs:sizeLine=16777216:=sizeLine_eq
   rw [List.length_map] at hl z
   have hj:bs.idxOf k < bs.length:=List.idxOf_lt_length_iff.mpr hk
   refine call_meets F.slot_list_index ⟨_,e,rfl⟩ F.entry_list_index (F.args_list_index_2 _ _) (list_indexAt l its.toArray n _ _ (.bool k) (isBoolOf k) (bs.idxOf k) (by simpa [←hl] using hj) (by omega) ?_ ?_) ⟨e,fun y hy=>eq_bools k r y (by simpa using hy) _ _,?_⟩
   ·show isBoolOf k its[bs.idxOf k]=true
    rw [at_bools k r _ (by omega) hj,List.getElem_idxOf hj]
    exact beq_self_eq_true k
   ·intro j hjs hlt
    show isBoolOf k its[j]=false
    rw [at_bools k r j (by simpa using hjs) (by omega)]
    exact eq_false_of_ne_true (by simpa using List.not_of_lt_findIdx hlt)
   ·exact ⟨.int (bs.idxOf k:Nat),H,I.tok _,⟨_,rfl⟩,q⟩
 ·exact h.elim
end
structure Mk0 (K:PySem.W.Frag) (C:Addr):Prop where
 makes:PySem.W.makesIn K C=true
 init:PySem.W.findIn K (.ref C) "__init__"=some (some (.builtin "object.__init__"))
 kp:PySem.W.keepIn K (.ref C)=true
def nMk0 (C:Addr):TE:=fun _ H Q=>∀ x dx H',H x=none->H dx=none->dx ≠ x->Ext H H'->H' x=some (.ins C dx [])->H' dx=some (.own x)->Q (.ref x) H'
theorem m_nMk0 (C:Addr) (σ:St) (H:Hp) (Q:VK):nMk0 C σ H Q=∀ x dx H',H x=none->H dx=none->dx ≠ x->Ext H H'->H' x=some (.ins C dx [])->H' dx=some (.own x)->Q (.ref x) H':=rfl
theorem pe_nMk0 {X:Cx}{C:Addr}{x:Str}{p pos:Pos}(M:Mk0 X.K C) (hg:Gl X x) (hm:X.mg x=some (.ref C)) (hdb:(x == ("__debug__":Str))=false:=by decide):PE X (.Call (.Name x p) [] [] pos) (nMk0 C):=by
 intro pins s σ H Q I h
 refine wpAny_Call_Name_kw (ld_glob I hg hm ?_ hdb)
 refine PySem.W.callWith_K0 I.kIn M.kp ?_
 have hx:H (s.heap.objs.size+1)=none:=I.hok.fresh (Nat.le_succ _)
 have hd:H s.heap.objs.size=none:=I.hok.fresh (Nat.le_refl _)
 have ne:s.heap.objs.size ≠ s.heap.objs.size+1:=Nat.ne_of_lt (Nat.lt_succ_self _)
 have hq:=h (s.heap.objs.size+1) s.heap.objs.size (upd (upd H s.heap.objs.size (.own (s.heap.objs.size+1))) (s.heap.objs.size+1) (.ins C s.heap.objs.size [])) hx hd ne ((Ext.new hd).put hx) upd_same (by rw [upd_ne ne,upd_same])
 have I2:=Inv.made (C:=C) I
 refine wpAny_call (make_map0 I.kIn M.makes M.init (fun self=>PySem.W.Looks.of_pure (PySem.W.oi_bind self)) ?_)
 have Y:=PySem.W.makes_of (M:=model X.prog X.w) I.kIn M.makes
 have e2:((s.heap.push PySem.W.emptyDict).push (PySem.W.instObj C s.heap.objs.size)).get? (s.heap.objs.size+1)=some (PySem.W.instObj C s.heap.objs.size):=by
  have:=Heap.get?_push_size (s.heap.push PySem.W.emptyDict) (o:=PySem.W.instObj C s.heap.objs.size) rfl
  rwa [Heap.size_push] at this
 have t1:PySem.W.Looks (model X.prog X.w) ((s.heap.push PySem.W.emptyDict).push (PySem.W.instObj C s.heap.objs.size)) (typeOf (.ref (s.heap.objs.size+1))) (.ref C):=(PySem.W.Looks.ld e2).andThen .now
 have t2:PySem.W.Looks (model X.prog X.w) ((s.heap.push PySem.W.emptyDict).push (PySem.W.instObj C s.heap.objs.size)) (isInstance (.ref (s.heap.objs.size+1)) (.type "object")) true:=t1.andThen (Y.top.keeps fun b o e=>Heap.get?_push_of_some _ (Heap.get?_push_of_some _ e))
 refine codeAny_call_builtin PySem.W.oi_plain PySem.W.entry_oi (@PySem.W.check_slot (model X.prog X.w) _ _ _ "object.__init__" "object" "__init__" (.ref (s.heap.objs.size+1)) [] [] _ PySem.W.oi_kind PySem.W.oi_split t2 (PySem.W.oi_args (.ref (s.heap.objs.size+1))) ?_)
 rw [PySem.W.oi_run]
 exact wpAny_pure (And.intro rfl ⟨V.ref (s.heap.objs.size+1),_,I2,rfl,hq⟩)
end L2
set_option Elab.async false
set_option linter.all false
set_option maxRecDepth 100000
set_option maxHeartbeats 4000000
namespace L2
open PySem PySem.Spec PyProof.Rows
structure MD (P:Program) (w:World) (K:PySem.W.Frag) (mg:Str->Option Value) (base:Heap) (CX:CXT) (k:Nat) (m:Str) (C:Addr) (sp:Sp):Prop where
 c:Cls K C
 ex:∃ f fd ps,Meth K C m f∧FnOk P w K mg base CX k f fd ps sp∧Binds K fd ps []
def kMethD (n:Nat) (cl:Nat->Addr) (m:Str) (sp:Nat->Sp) (E:XK) (Q:VK):VK:=fun x H=>∃ a i dx fs,x=.ref a∧i < n∧H a=some (.ins (cl i) dx fs)∧fs.lookup m=none∧sp i [.ref a] H Q E
def nMethD (n:Nat) (cl:Nat->Addr) (m:Str) (sp:Nat->Sp) (E:XK) (ta:TE):TE:=fun σ H Q=>ta σ H (kMethD n cl m sp E Q)
theorem m_nMethD (n:Nat) (cl:Nat->Addr) (m:Str) (sp:Nat->Sp) (E:XK) (ta:TE) (σ:St) (H:Hp) (Q:VK):nMethD n cl m sp E ta σ H Q=ta σ H (kMethD n cl m sp E Q):=rfl
theorem pe_nMethD {X:Cx}{CX:CXT}{n k:Nat}{cl:Nat->Addr}{m:Str}{sp:Nat->Sp}{E:XK}{pos apos:Pos}{o:Expr}{ta:TE}{pl:Sem Bool}(he:PE X o ta) (hT:∀ i,i < n->MD X.prog X.w X.K X.mg X.base CX k m (cl i) (sp i)) (hr:Room k X.A) (hx:Passes CX X E)
  (ht:eval (.Call (.Attribute o m apos) [] [] pos) X.env=(do
   let ov ←eval o X.env
   standAt apos.atName
   let (f,first) ←holding [ov] (getMethod ov m pl)
   callWith pos f first (backTo pos (starEach [] X.env)) (backToKw pos (keywordEach [] X.env))):=by rfl) :
  PE X (.Call (.Attribute o m apos) [] [] pos) (nMethD n cl m sp E ta):=by
 intro pins s σ H Q I h
 refine PySem.W.methodCall_KW (pl:=pl) (thn (he pins s σ H _ I h) fun u s1 ⟨x,H1,I1,rx,q0⟩=>?_) ht
 obtain ⟨a,i,dx,fs,ex,hi,ea,l,q⟩:=q0
 obtain ⟨c,f,fd,ps,hm,F,hb⟩:=hT i hi
 subst ex
 obtain rfl:u=Value.ref a:=rx
 refine getmeth_ok I1 ea c hm l ?_
 refine PySem.W.callWith_K0 (first:=[.ref a]) I1.kIn hm.kp ?_
 exact run_fn (us:=[.ref a]) (vs:=[.ref a]) F hr hb .nil hx I1 (.cons rfl .nil) q
section
variable {k:Nat}{g:TG}{tt:TT}{te:TE}{σ:St}{Q:VK}{H:Hp}
theorem use_cdN {a:Addr}{kvs:List (Key × V)}(c:Key × V->Bool) (f:Key × V->V) (ha:H a=some (.dK kvs)) (hl:kvs.length≤sizeLine)
  (hs:∀ D ob z H' N1 N0,z∈kvs->H D=none->Ext (upd H a (.frz ob (.dK kvs))) H'->H' a=some (.frz ob (.dK kvs))->(c z=true->∀ H'',Ext H' H''->N1 (f z) H'')->(c z=false->∀ H'',Ext H' H''->N0 H'')->g (kV z.1) (List.replicate k none++σ) H' (kCm k tt te σ N1 N0))
  (hd:∀ D ob H',H D=none->Ext (upd H a (.frz ob (.dK kvs))) H'->H' D=some (.lst ((kvs.filter c).map f))->Q (.ref D) H'):kIDc (kComp k g tt te σ Q) (.ref a) H:=by
 refine ⟨a,kvs,rfl,ha,fun ob=>?_⟩
 have hfr:upd H a (.frz ob (.dK kvs)) a=some (.frz ob (.dK kvs)):=upd_same
 refine comp_fm kvs c f (fun z x H'=>x=kV z.1∧H' a=some (.frz ob (.dK kvs))) (fun i z H' hz e=>?_) (fun H' e=>?_) hl (fun D z x H' N1 N0 hz hD e p k1 k0=>?_) fun D H' hD e hD'=>?_
 ·have h1:H' a=some (.frz ob (.dK kvs)):=by rw [e.1 a (by rw [hfr];rfl)];exact hfr
  refine ⟨⟨h1,(List.getElem?_eq_some_iff.mp hz).1⟩,fun x H'' ⟨e1,p,hp,ex⟩=>?_⟩
  rw [hz] at hp
  cases hp
  subst e1
  exact ⟨Ext.refl _,ex,h1⟩
 ·exact ⟨by rw [e.1 a (by rw [hfr];rfl)];exact hfr,Nat.le_refl _⟩
 ·obtain ⟨rfl,hp⟩:=p
  exact hs D ob z H' N1 N0 hz (by rwa [upd_ne (fun z=>by rw [z,hfr] at hD;cases hD)] at hD) e hp k1 k0
 ·have hDa:D ≠ a:=fun z=>by rw [z,hfr] at hD;cases hD
  exact hd D ob H' (by rwa [upd_ne hDa] at hD) e hD'
end
end L2
set_option Elab.async false
set_option linter.all false
set_option maxRecDepth 100000
set_option maxHeartbeats 4000000
namespace L2
open PySem PySem.Spec PyProof.Rows
section
variable {X:Cx}
def kExcAH (i:Nat) (tb:Addr->TS) (tr:Value->Option Addr->TS) (cls:Value) (d:Option Addr) (D:Ends) (σ:St) (H:Hp):Bool->Prop:=fun b=>if b=true then ∀ (e:Addr) (oe:Obj),H e=none->oe.cls=cls->oe.dict=d->NoCtx oe->gName i (.ref e) σ (upd H e (excO oe)) (kSetE i (tb e) (D.del i)) else tr cls d D σ H
theorem m_kExcAH (i:Nat) (tb:Addr->TS) (tr:Value->Option Addr->TS) (cls:Value) (d:Option Addr) (D:Ends) (σ:St) (H:Hp) (b:Bool):kExcAH i tb tr cls d D σ H b=(if b=true then ∀ (e:Addr) (oe:Obj),H e=none->oe.cls=cls->oe.dict=d->NoCtx oe->gName i (.ref e) σ (upd H e (excO oe)) (kSetE i (tb e) (D.del i)) else tr cls d D σ H):=rfl
def tExcAH (K:PySem.W.Frag) (C:Value) (i:Nat) (tb:Addr->TS) (tr:Value->Option Addr->TS):Value->Option Addr->TS:=fun cls d D σ H=>optK (PySem.W.exmOne K cls C) (kExcAH i tb tr cls d D σ H)
theorem m_tExcAH (K:PySem.W.Frag) (C:Value) (i:Nat) (tb:Addr->TS) (tr:Value->Option Addr->TS) (cls:Value) (d:Option Addr) (D:Ends) (σ:St) (H:Hp):tExcAH K C i tb tr cls d D σ H=optK (PySem.W.exmOne K cls C) (kExcAH i tb tr cls d D σ H):=rfl
theorem phs_asH {x n:Str}{i:Nat}{np pos:Pos}{b₀:Stmt}{body:List Stmt}{rest:List ExceptHandler}{C:Value}{tb:Addr->TS}{tr:Value->Option Addr->TS}(hN:X.N.Nodup) (hi:X.N[i]? = some n) (hk:X.env.scope.names.lookup n=some .local) (hg:Gl X x) (hm:X.mg x=some C∨(X.mg x=none∧bootBuiltins x=some C∧x ≠ "__name__")) (hb:∀ e,PSs (X.mark e) (b₀::body) (tb e)) (hr:PHs X rest tr)
  (hdb:(x == ("__debug__":Str))=false:=by decide):PHs X (.ExceptHandler (some (.Name x np)) (some n) (b₀::body) pos::rest) (tExcAH X.K C i tb tr):=by
 intro pins s σ H D e T cls d I N hn ex h
 obtain ⟨b,hx,h⟩:=optK_ex h
 have Im:=I.mark e
 have ld:∀ {Q:Value->Shared->Prop} {E:Value->Shared->Prop},Q C s->wpAny (model X.prog X.w) (X.A.mark (some (.ref e))) (eval (.Name x np) X.env) Q E s:=fun {Q E} q=>by
  rcases hm with z|⟨z1,z2,z3⟩
  ·exact ld_glob (X:=X.mark e) Im hg z q hdb
  ·exact ld_blt (X:=X.mark e) Im hg z1 z2 q z3 hdb
 refine PySem.wpAny_handleBy_cons (PySem.codeAny_handlers_test (ld ((PySem.W.exm_one I.kIn (exc_ty ex) hx).here ?_))) (by intro q;cases q)
 unfold kExcAH at h
 cases b with
 | false=>
  rw [if_neg Bool.false_ne_true] at h
  exact hr pins s σ H D e T cls d I N hn ex h
 | true=>
  rw [if_pos rfl] at h
  refine PySem.codeAny_handlers_suite_as (flight1 ex fun h' kp=>?_)
  obtain ⟨oe,vs,oT,ts,he,hc,hd,hdat,_,_,_,_,_,h2c⟩:=ex
  have N':NewAt (X.mark e) pins e:=⟨N.s0,N.loc,N.cel,N.fs,N.pin⟩
  have I':Inv (X.mark e) pins σ (upd H e (excO oe)) { s with heap:=h' }:=(Im.kept (t':=s.toks) kp).track N' (kp _ _ he) hn
  refine store_ok (X:=X.mark e) I' hN hi (.inl hk) (show RelV (.ref e) (.ref e) from rfl) (fun s1 I1=>?_) (.inr hk)
  have hh:tb e (D.del i) (σ.set i (some (.ref e))) (upd H e (excO oe)):=h e oe hn hc hd ⟨vs,hdat,h2c⟩
  refine wpAny_mono (hb e pins s1 _ _ (D.del i) I1 hh) (fun f s2 q=>?_) fun _ _ z=>z.elim
  show wpAny _ X.A _ _ _ s2
  have q':=SP.unmark I.ok q
  cases f with
  | next=>obtain ⟨σ',H',J,q⟩:=q';exact gone_ok J hi hk hN fun s3 J3=>⟨_,H',J3,q⟩
  | brk=>obtain ⟨σ',H',J,q⟩:=q';exact gone_ok J hi hk hN fun s3 J3=>⟨_,H',J3,q⟩
  | cont=>obtain ⟨σ',H',J,q⟩:=q';exact gone_ok J hi hk hN fun s3 J3=>⟨_,H',J3,q⟩
  | ret u=>obtain ⟨v,σ',H',J,r,q⟩:=q';exact gone_ok J hi hk hN fun s3 J3=>⟨v,_,H',J3,r,q⟩
end
end L2
namespace PH
def Sizes (ns:List Int):Prop:=ns.length≤8∧∀ n∈ns,1≤n∧n≤1000000000
def prodL:List Int->Int
 | []=>1
 | n::r=>n * prodL r
theorem prodL_append:∀ ns ms:List Int,prodL (ns++ms)=prodL ns * prodL ms
 | [],ms=>by simp [prodL]
 | n::r,ms=>by simp only [List.cons_append,prodL,prodL_append r ms,Int.mul_assoc]
theorem prodL_take (ns:List Int) (i:Nat) (z:Int) (h:ns[i]? = some z):prodL (ns.take (i+1))=prodL (ns.take i) * z:=by
 rw [List.take_add_one,h,prodL_append]
 simp [prodL]
theorem prodL_pos:∀ ns:List Int,(∀ n∈ns,1≤n∧n≤1000000000)->1≤prodL ns∧prodL ns≤1000000000 ^ ns.length
 | [],_=>by simp [prodL]
 | n::r,h=>by
  obtain ⟨h1,h2⟩:=prodL_pos r fun m hm=>h m (List.mem_cons_of_mem _ hm)
  obtain ⟨g1,g2⟩:=h n List.mem_cons_self
  refine ⟨?_,?_⟩
  ·show 1≤n * prodL r
   exact Int.le_trans (by omega) (Int.mul_le_mul g1 h1 (by decide) (by omega):1 * 1≤n * prodL r)
  ·show n * prodL r≤1000000000 ^ (r.length+1)
   rw [Int.pow_succ,Int.mul_comm]
   exact Int.mul_le_mul h2 g2 (by omega) (Int.le_trans (by omega) h2)
theorem pow9_le:∀ {k:Nat},k≤8->(1000000000:Int) ^ k≤1000000000 ^ 8
 | 0,_=>by decide
 | 1,_=>by decide
 | 2,_=>by decide
 | 3,_=>by decide
 | 4,_=>by decide
 | 5,_=>by decide
 | 6,_=>by decide
 | 7,_=>by decide
 | 8,_=>by decide
 | k+9,h=>by omega
theorem Sizes.prod {ns:List Int}(h:Sizes ns):1≤prodL ns∧prodL ns≤1000000000 ^ 8:=by
 obtain ⟨a,b⟩:=prodL_pos ns h.2
 exact ⟨a,Int.le_trans b (pow9_le h.1)⟩
theorem Sizes.take {ns:List Int}(h:Sizes ns) (i:Nat):Sizes (ns.take i):=⟨by have:=h.1;simp;omega,fun n hn=>h.2 n (List.mem_of_mem_take hn)⟩
def InR:List Int->List Int->Prop
 | [],[]=>True
 | n::r,x::xs=>(0≤x∧x < n)∧InR r xs
 | _,_=>False
end PH
namespace PH
open PySem L2
def vi:V->Int
 | .int i=>i
 | _=>0
end PH
namespace PH
end PH
namespace PH
open PySem L2
theorem filt {α:Type}(l:List α):(l.filter fun _=>true)=l:=List.filter_eq_self.mpr fun _ _=>rfl
end PH
namespace PH
open PySem L2
def keptA (a:Int × Int):Int × Int:=(a.1,if a.1 > 1 then a.2 else 0)
def axL (axs:List (Int × Int)):List (List Int):=axs.map fun a=>[a.1,a.2]
def leastL (axs:List (Int × Int)):Int:=(axs.map fun a=>min 0 ((a.1 - 1) * a.2)).sum
def greatL (axs:List (Int × Int)):Int:=(axs.map fun a=>max 0 ((a.1 - 1) * a.2)).sum
def Axes (axs:List (Int × Int)):Prop:=axs.length≤8∧∀ a∈axs,1≤a.1∧a.1≤1000000000
structure ViewOk (room first:Int) (axs:List (Int × Int)):Prop where
 ax:Axes axs
 r1:1≤room
 r2:room≤1000000000000000000
 lo:0≤first+leastL (axs.map keptA)
 hi:first+greatL (axs.map keptA) < room
theorem Axes.kept {axs:List (Int × Int)}(h:Axes axs):Axes (axs.map keptA):=⟨by rw [List.length_map];exact h.1,fun a ha=>by
 obtain ⟨b,hb,rfl⟩:=List.mem_map.mp ha
 exact h.2 b hb⟩
theorem Axes.sizes {axs:List (Int × Int)}(h:Axes axs):Sizes (axs.map fun a=>a.1):=⟨by rw [List.length_map];exact h.1,fun n hn=>by
 obtain ⟨b,hb,rfl⟩:=List.mem_map.mp hn
 exact h.2 b hb⟩
def viewF (room first:Int) (l:Addr):List (Str × V):=putF "axes" (.ref l) (putF "first" (.int first) (putF "room" (.int room) []))
theorem ne_ra:¬ (("room":Str) = "axes"):=by decide +kernel
theorem ne_rf:¬ (("room":Str) = "first"):=by decide +kernel
theorem ne_fa:¬ (("first":Str) = "axes"):=by decide +kernel
theorem viewF_room (room first:Int) (l:Addr):(viewF room first l).lookup ("room":Str)=some (.int room):=by
 unfold viewF
 rw [lookup_putF,if_neg ne_ra,lookup_putF,if_neg ne_rf,lookup_putF,if_pos rfl]
theorem viewF_first (room first:Int) (l:Addr):(viewF room first l).lookup ("first":Str)=some (.int first):=by
 unfold viewF
 rw [lookup_putF,if_neg ne_fa,lookup_putF,if_pos rfl]
theorem viewF_axes (room first:Int) (l:Addr):(viewF room first l).lookup ("axes":Str)=some (.ref l):=by
 unfold viewF
 rw [lookup_putF,if_pos rfl]
theorem viewF_no (room first:Int) (l:Addr){m:Str}(h1:¬ m = "axes") (h2:¬ m = "first") (h3:¬ m = "room"):(viewF room first l).lookup m=none:=by
 unfold viewF
 rw [lookup_putF,if_neg h1,lookup_putF,if_neg h2,lookup_putF,if_neg h3]
 rfl
end PH
namespace PH
open PySem L2
theorem prodL_one:∀ ns:List Int,(∀ n∈ns,(1:Int)≤n)->1≤prodL ns
 | [],_=>by simp [prodL]
 | n::ns,h=>by
  have h1:=h n List.mem_cons_self
  have h2:=prodL_one ns fun m hm=>h m (List.mem_cons_of_mem _ hm)
  show 1≤n * prodL ns
  have:=Int.mul_le_mul h1 h2 (by decide) (by omega)
  omega
theorem leastL_cons (a:Int × Int) (l:List (Int × Int)):leastL (a::l)=min 0 ((a.1 - 1) * a.2)+leastL l:=by unfold leastL;simp
theorem greatL_cons (a:Int × Int) (l:List (Int × Int)):greatL (a::l)=max 0 ((a.1 - 1) * a.2)+greatL l:=by unfold greatL;simp
end PH
namespace PH
open PySem L2
end PH
namespace PH
def dotL (xs ps:List Int):Int:=(List.zipWith (fun x p=>x * p) xs ps).sum
theorem mul_between {x p s:Int}(h0:0≤x) (h1:x≤s - 1):min 0 ((s - 1) * p)≤x * p∧x * p≤max 0 ((s - 1) * p):=by
 rcases Int.le_total 0 p with hp|hp
 ·have a:=Int.mul_nonneg h0 hp
  have b:=Int.mul_le_mul_of_nonneg_right h1 hp
  omega
 ·have a:=Int.mul_nonneg h0 (show 0≤-p by omega)
  have b:=Int.mul_le_mul_of_nonneg_right h1 (show 0≤-p by omega)
  rw [Int.mul_neg] at a b
  rw [Int.mul_neg] at b
  omega
theorem dot_between:∀ (axs:List (Int × Int)) (xs:List Int),InR (axs.map fun a=>a.1) xs->leastL axs≤dotL xs (axs.map fun a=>a.2)∧dotL xs (axs.map fun a=>a.2)≤greatL axs
 | [],[],_=>by decide
 | [],_::_,h=>h.elim
 | _::_,[],h=>h.elim
 | a::r,x::xs,⟨⟨h0,h1⟩,h⟩=>by
  obtain ⟨b1,b2⟩:=dot_between r xs h
  have e:dotL (x::xs) ((a::r).map fun a=>a.2)=x * a.2+dotL xs (r.map fun a=>a.2):=by
   unfold dotL;rw [List.map_cons,List.zipWith_cons_cons,List.sum_cons]
  rw [leastL_cons,greatL_cons,e]
  have h1':x < a.1:=h1
  obtain ⟨c1,c2⟩:=mul_between (p:=a.2) h0 (show x≤a.1 - 1 by omega)
  omega
def cornerL (axs:List (Int × Int)) (way:Int):List Int:=axs.map fun a=>if a.2 * way > 0 then a.1 - 1 else 0
theorem corner_in (way:Int):∀ axs:List (Int × Int),(∀ a∈axs,1≤a.1∧a.1≤1000000000)->InR (axs.map fun a=>a.1) (cornerL axs way)
 | [],_=>trivial
 | a::r,h=>by
  refine ⟨?_,corner_in way r fun b hb=>h b (List.mem_cons_of_mem _ hb)⟩
  have:=h a List.mem_cons_self
  show 0≤(if a.2 * way > 0 then a.1 - 1 else 0)∧(if a.2 * way > 0 then a.1 - 1 else 0) < a.1
  split<;>omega
theorem corner_great:∀ axs:List (Int × Int),(∀ a∈axs,1≤a.1∧a.1≤1000000000)->dotL (cornerL axs 1) (axs.map fun a=>a.2)=greatL axs
 | [],_=>by decide
 | a::r,h=>by
  have ih:=corner_great r fun b hb=>h b (List.mem_cons_of_mem _ hb)
  have ha:=h a List.mem_cons_self
  have e:dotL (cornerL (a::r) 1) ((a::r).map fun a=>a.2)=(if a.2 * 1 > 0 then a.1 - 1 else 0) * a.2+dotL (cornerL r 1) (r.map fun a=>a.2):=by
   unfold dotL cornerL;rw [List.map_cons,List.map_cons,List.zipWith_cons_cons,List.sum_cons]
  rw [greatL_cons,e,ih,Int.mul_one]
  congr 1
  split
  ·rename_i hp
   have:=Int.mul_nonneg (show 0≤a.1 - 1 by omega) (show 0≤a.2 by omega)
   omega
  ·rename_i hp
   have:=Int.mul_nonneg (show 0≤a.1 - 1 by omega) (show 0≤-a.2 by omega)
   rw [Int.mul_neg] at this
   omega
theorem prodL_take_le (ns:List Int) (h:∀ n∈ns,(1:Int)≤n) (i:Nat):prodL (ns.take i)≤prodL ns:=by
 have e:prodL ns=prodL (ns.take i) * prodL (ns.drop i):=by rw [←prodL_append,List.take_append_drop]
 have a:=prodL_one (ns.take i) fun n hn=>h n (List.mem_of_mem_take hn)
 have b:=prodL_one (ns.drop i) fun n hn=>h n (List.mem_of_mem_drop hn)
 rw [e]
 have:=Int.mul_le_mul_of_nonneg_left b (show 0≤prodL (ns.take i) by omega)
 omega
def wideL (cs:List Int) (a:Int × Int):List Int:=cs.flatMap fun c=>(List.range a.1.toNat).map fun (n:Nat)=>c+(n:Int) * a.2
def cellsL (first:Int) (axs:List (Int × Int)):List Int:=axs.foldl wideL [first]
theorem wideL_len (cs:List Int) (a:Int × Int):(wideL cs a).length=cs.length * a.1.toNat:=by
 unfold wideL
 induction cs with
 | nil=>simp
 | cons c r ih=>rw [List.flatMap_cons,List.length_append,ih,List.length_map,List.length_range,List.length_cons,Nat.add_mul];omega
theorem cellsL_snoc (first:Int) (axs:List (Int × Int)) (a:Int × Int):cellsL first (axs++[a])=wideL (cellsL first axs) a:=by
 unfold cellsL;rw [List.foldl_append];rfl
theorem foldW_len:∀ (axs:List (Int × Int)) (cs:List Int),(∀ a∈axs,(1:Int)≤a.1)->((axs.foldl wideL cs).length:Int)=cs.length * prodL (axs.map fun a=>a.1)
 | [],cs,_=>by simp [prodL]
 | a::r,cs,h=>by
  have ha:=h a List.mem_cons_self
  rw [List.foldl_cons,foldW_len r (wideL cs a) fun b hb=>h b (List.mem_cons_of_mem _ hb),wideL_len,Int.natCast_mul,Int.toNat_of_nonneg (by omega),Int.mul_assoc]
  rfl
theorem cellsL_len (first:Int) (axs:List (Int × Int)) (h:∀ a∈axs,(1:Int)≤a.1):((cellsL first axs).length:Int)=prodL (axs.map fun a=>a.1):=by
 unfold cellsL
 rw [foldW_len axs [first] h]
 simp
theorem foldW_mem:∀ (axs:List (Int × Int)) (cs:List Int) (M:Int),M∈axs.foldl wideL cs ↔ ∃ c∈cs,∃ xs,InR (axs.map fun a=>a.1) xs∧M=c+dotL xs (axs.map fun a=>a.2)
 | [],cs,M=>by
  refine ⟨fun h=>⟨M,h,[],trivial,by simp [dotL]⟩,fun ⟨c,hc,xs,hx,e⟩=>?_⟩
  match xs,hx with
  | [],_=>rw [e];simpa [dotL] using hc
 | a::r,cs,M=>by
  rw [List.foldl_cons,foldW_mem r (wideL cs a) M]
  have de:∀ (x:Int) (xs:List Int),dotL (x::xs) ((a::r).map fun a=>a.2)=x * a.2+dotL xs (r.map fun a=>a.2):=fun x xs=>by
   unfold dotL;rw [List.map_cons,List.zipWith_cons_cons,List.sum_cons]
  constructor
  ·rintro ⟨c,hc,xs,hx,e⟩
   unfold wideL at hc
   obtain ⟨c0,hc0,hc1⟩:=List.mem_flatMap.mp hc
   obtain ⟨n,hn,rfl⟩:=List.mem_map.mp hc1
   have hn':=List.mem_range.mp hn
   refine ⟨c0,hc0,(n:Int)::xs,⟨⟨by omega,?_⟩,hx⟩,by rw [de,e];omega⟩
   show (n:Int) < a.1
   omega
  ·rintro ⟨c,hc,xs,hx,e⟩
   match xs,hx with
   | x::xs,⟨⟨h0,h1⟩,hx⟩=>
    have h1':x < a.1:=h1
    refine ⟨c+x * a.2,?_,xs,hx,by rw [e,de];omega⟩
    unfold wideL
    refine List.mem_flatMap.mpr ⟨c,hc,List.mem_map.mpr ⟨x.toNat,List.mem_range.mpr (by omega),?_⟩⟩
    rw [Int.toNat_of_nonneg h0]
theorem cellsL_mem (first:Int) (axs:List (Int × Int)) (M:Int):M∈cellsL first axs ↔ ∃ xs,InR (axs.map fun a=>a.1) xs∧M=first+dotL xs (axs.map fun a=>a.2):=by
 unfold cellsL
 rw [foldW_mem]
 refine ⟨fun ⟨c,hc,xs,hx,e⟩=>⟨xs,hx,by rw [e,List.mem_singleton.mp hc]⟩,fun ⟨xs,hx,e⟩=>⟨first,List.mem_singleton.mpr rfl,xs,hx,e⟩⟩
theorem cellsL_max {first:Int}{axs:List (Int × Int)}(h:∀ a∈axs,1≤a.1∧a.1≤1000000000){M:Int}(hM:M∈cellsL first axs) (hm:∀ a∈cellsL first axs,a≤M):M=first+greatL axs:=by
 have a:=hm (first+greatL axs) ((cellsL_mem _ _ _).mpr ⟨_,corner_in 1 axs h,by rw [corner_great axs h]⟩)
 obtain ⟨xs,hx,e⟩:=(cellsL_mem _ _ _).mp hM
 have b:=(dot_between axs xs hx).2
 omega
end PH
namespace PH
end PH
set_option Elab.async false
set_option linter.all false
set_option maxRecDepth 100000
set_option maxHeartbeats 4000000
namespace PH
open PySem L2
def top (i:Nat):Stmt:=PySem.Challenge.pw_pacehall_k82_clashes.main.body.getD i (.Pass ⟨0,0,0,0⟩)
abbrev s_TooMany___init__:Stmt:=inClass (top 7) 0
theorem c_TooMany___init__:FnScope ["self", "number"] ["self", "number"] (defScope s_TooMany___init__):=⟨rfl,rfl,rfl,by decide +kernel,rfl,by decide +kernel,by decide +kernel⟩
abbrev s_is_whole:Stmt:=top 9
theorem c_is_whole:FnScope ["thing"] ["thing"] (defScope s_is_whole):=⟨rfl,rfl,rfl,by decide +kernel,rfl,by decide +kernel,by decide +kernel⟩
abbrev s_count_of:Stmt:=top 12
theorem c_count_of:FnScope ["sizes", "count", "size"] ["sizes"] (defScope s_count_of):=⟨rfl,rfl,rfl,by decide +kernel,rfl,by decide +kernel,by decide +kernel⟩
abbrev s_is_number_below:Stmt:=top 13
abbrev s_is_place:Stmt:=top 14
abbrev s_refuse_long:Stmt:=top 15
theorem c_refuse_long:FnScope ["count"] ["count"] (defScope s_refuse_long):=⟨rfl,rfl,rfl,by decide +kernel,rfl,by decide +kernel,by decide +kernel⟩
abbrev s_is_within:Stmt:=top 20
theorem c_is_within:FnScope ["thing", "low", "high"] ["thing", "low", "high"] (defScope s_is_within):=⟨rfl,rfl,rfl,by decide +kernel,rfl,by decide +kernel,by decide +kernel⟩
abbrev s_is_size:Stmt:=top 21
theorem c_is_size:FnScope ["thing"] ["thing"] (defScope s_is_size):=⟨rfl,rfl,rfl,by decide +kernel,rfl,by decide +kernel,by decide +kernel⟩
abbrev s_is_axis:Stmt:=top 22
theorem c_is_axis:FnScope ["thing"] ["thing"] (defScope s_is_axis):=⟨rfl,rfl,rfl,by decide +kernel,rfl,by decide +kernel,by decide +kernel⟩
abbrev s_are_axes:Stmt:=top 23
theorem c_are_axes:FnScope ["thing"] ["thing"] (defScope s_are_axes):=⟨rfl,rfl,rfl,by decide +kernel,rfl,by decide +kernel,by decide +kernel⟩
abbrev s_kept_axis:Stmt:=top 24
theorem c_kept_axis:FnScope ["axis"] ["axis"] (defScope s_kept_axis):=⟨rfl,rfl,rfl,by decide +kernel,rfl,by decide +kernel,by decide +kernel⟩
abbrev s_View___init__:Stmt:=inClass (top 25) 0
theorem c_View___init__:FnScope ["self", "room", "first", "axes"] ["self", "room", "first", "axes"] (defScope s_View___init__):=⟨rfl,rfl,rfl,by decide +kernel,rfl,by decide +kernel,by decide +kernel⟩
abbrev s_View_sizes:Stmt:=inClass (top 25) 1
theorem c_View_sizes:FnScope ["self"] ["self"] (defScope s_View_sizes):=⟨rfl,rfl,rfl,by decide +kernel,rfl,by decide +kernel,by decide +kernel⟩
abbrev s_View_paces:Stmt:=inClass (top 25) 2
abbrev s_View_count:Stmt:=inClass (top 25) 3
theorem c_View_count:FnScope ["self"] ["self"] (defScope s_View_count):=⟨rfl,rfl,rfl,by decide +kernel,rfl,by decide +kernel,by decide +kernel⟩
abbrev s_View_cell:Stmt:=inClass (top 25) 4
abbrev s_View_cells:Stmt:=inClass (top 25) 6
theorem c_View_cells:FnScope ["self", "found", "size", "pace"] ["self"] (defScope s_View_cells):=⟨rfl,rfl,rfl,by decide +kernel,rfl,by decide +kernel,by decide +kernel⟩
abbrev s_View_least:Stmt:=inClass (top 25) 7
theorem c_View_least:FnScope ["self"] ["self"] (defScope s_View_least):=⟨rfl,rfl,rfl,by decide +kernel,rfl,by decide +kernel,by decide +kernel⟩
abbrev s_View_greatest:Stmt:=inClass (top 25) 8
theorem c_View_greatest:FnScope ["self"] ["self"] (defScope s_View_greatest):=⟨rfl,rfl,rfl,by decide +kernel,rfl,by decide +kernel,by decide +kernel⟩
abbrev s_widened:Stmt:=top 26
theorem c_widened:FnScope ["cells", "size", "pace", "found", "cell"] ["cells", "size", "pace"] (defScope s_widened):=⟨rfl,rfl,rfl,by decide +kernel,rfl,by decide +kernel,by decide +kernel⟩
abbrev s_refuse_rooms:Stmt:=top 28
theorem c_refuse_rooms:FnScope ["one", "other"] ["one", "other"] (defScope s_refuse_rooms):=⟨rfl,rfl,rfl,by decide +kernel,rfl,by decide +kernel,by decide +kernel⟩
abbrev s_refuse_count:Stmt:=top 30
theorem c_refuse_count:FnScope ["view", "many"] ["view", "many"] (defScope s_refuse_count):=⟨rfl,rfl,rfl,by decide +kernel,rfl,by decide +kernel,by decide +kernel⟩
abbrev s_refuse_two:Stmt:=top 32
theorem c_refuse_two:FnScope ["one", "other"] ["one", "other"] (defScope s_refuse_two):=⟨rfl,rfl,rfl,by decide +kernel,rfl,by decide +kernel,by decide +kernel⟩
abbrev s_Statement_writes:Stmt:=inClass (top 33) 0
theorem c_Statement_writes:FnScope ["self"] ["self"] (defScope s_Statement_writes):=⟨rfl,rfl,rfl,by decide +kernel,rfl,by decide +kernel,by decide +kernel⟩
abbrev s_Statement_reads:Stmt:=inClass (top 33) 1
theorem c_Statement_reads:FnScope ["self"] ["self"] (defScope s_Statement_reads):=⟨rfl,rfl,rfl,by decide +kernel,rfl,by decide +kernel,by decide +kernel⟩
abbrev s_Fill___init__:Stmt:=inClass (top 34) 0
theorem c_Fill___init__:FnScope ["self", "to", "value"] ["self", "to", "value"] (defScope s_Fill___init__):=⟨rfl,rfl,rfl,by decide +kernel,rfl,by decide +kernel,by decide +kernel⟩
abbrev s_Fill_writes:Stmt:=inClass (top 34) 1
theorem c_Fill_writes:FnScope ["self"] ["self"] (defScope s_Fill_writes):=⟨rfl,rfl,rfl,by decide +kernel,rfl,by decide +kernel,by decide +kernel⟩
abbrev s_Copy___init__:Stmt:=inClass (top 35) 0
theorem c_Copy___init__:FnScope ["self", "to", "source"] ["self", "to", "source"] (defScope s_Copy___init__):=⟨rfl,rfl,rfl,by decide +kernel,rfl,by decide +kernel,by decide +kernel⟩
abbrev s_Copy_writes:Stmt:=inClass (top 35) 1
theorem c_Copy_writes:FnScope ["self"] ["self"] (defScope s_Copy_writes):=⟨rfl,rfl,rfl,by decide +kernel,rfl,by decide +kernel,by decide +kernel⟩
abbrev s_Copy_reads:Stmt:=inClass (top 35) 2
theorem c_Copy_reads:FnScope ["self"] ["self"] (defScope s_Copy_reads):=⟨rfl,rfl,rfl,by decide +kernel,rfl,by decide +kernel,by decide +kernel⟩
abbrev s_Swap___init__:Stmt:=inClass (top 36) 0
theorem c_Swap___init__:FnScope ["self", "one", "other"] ["self", "one", "other"] (defScope s_Swap___init__):=⟨rfl,rfl,rfl,by decide +kernel,rfl,by decide +kernel,by decide +kernel⟩
abbrev s_Swap_writes:Stmt:=inClass (top 36) 1
theorem c_Swap_writes:FnScope ["self"] ["self"] (defScope s_Swap_writes):=⟨rfl,rfl,rfl,by decide +kernel,rfl,by decide +kernel,by decide +kernel⟩
abbrev s_Swap_reads:Stmt:=inClass (top 36) 2
theorem c_Swap_reads:FnScope ["self"] ["self"] (defScope s_Swap_reads):=⟨rfl,rfl,rfl,by decide +kernel,rfl,by decide +kernel,by decide +kernel⟩
abbrev s_Raise___init__:Stmt:=inClass (top 37) 0
theorem c_Raise___init__:FnScope ["self", "to", "source"] ["self", "to", "source"] (defScope s_Raise___init__):=⟨rfl,rfl,rfl,by decide +kernel,rfl,by decide +kernel,by decide +kernel⟩
abbrev s_Raise_writes:Stmt:=inClass (top 37) 1
theorem c_Raise_writes:FnScope ["self"] ["self"] (defScope s_Raise_writes):=⟨rfl,rfl,rfl,by decide +kernel,rfl,by decide +kernel,by decide +kernel⟩
abbrev s_Raise_reads:Stmt:=inClass (top 37) 2
theorem c_Raise_reads:FnScope ["self"] ["self"] (defScope s_Raise_reads):=⟨rfl,rfl,rfl,by decide +kernel,rfl,by decide +kernel,by decide +kernel⟩
abbrev s_views_of:Stmt:=top 38
theorem c_views_of:FnScope ["statement"] ["statement"] (defScope s_views_of):=⟨rfl,rfl,rfl,by decide +kernel,rfl,by decide +kernel,by decide +kernel⟩
abbrev s_refuse_views:Stmt:=top 39
theorem c_refuse_views:FnScope ["views", "view"] ["views"] (defScope s_refuse_views):=⟨rfl,rfl,rfl,by decide +kernel,rfl,by decide +kernel,by decide +kernel⟩
abbrev s_cells_of:Stmt:=top 40
theorem c_cells_of:FnScope ["views", "found", "view", "cell"] ["views"] (defScope s_cells_of):=⟨rfl,rfl,rfl,by decide +kernel,rfl,by decide +kernel,by decide +kernel⟩
abbrev s_meet:Stmt:=top 41
theorem c_meet:FnScope ["some", "others", "cells"] ["some", "others"] (defScope s_meet):=⟨rfl,rfl,rfl,by decide +kernel,rfl,by decide +kernel,by decide +kernel⟩
abbrev s_clash:Stmt:=top 42
theorem c_clash:FnScope ["one", "other"] ["one", "other"] (defScope s_clash):=⟨rfl,rfl,rfl,by decide +kernel,rfl,by decide +kernel,by decide +kernel⟩
abbrev s__law_draw:Stmt:=top 44
theorem c__law_draw:FnScope ["_law_script", "_law_k", "_law_many", "_law_number", "_law_cell"] ["_law_script", "_law_k", "_law_many"] (defScope s__law_draw):=⟨rfl,rfl,rfl,by decide +kernel,rfl,by decide +kernel,by decide +kernel⟩
abbrev s__law_whole:Stmt:=top 45
theorem c__law_whole:FnScope ["_law_found"] ["_law_found"] (defScope s__law_whole):=⟨rfl,rfl,rfl,by decide +kernel,rfl,by decide +kernel,by decide +kernel⟩
abbrev s__law_cells:Stmt:=top 46
theorem c__law_cells:FnScope ["_law_first", "_law_axes", "_law_cells_here", "_law_size", "_law_pace", "_law_more", "_law_cell"] ["_law_first", "_law_axes"] (defScope s__law_cells):=⟨rfl,rfl,rfl,by decide +kernel,rfl,by decide +kernel,by decide +kernel⟩
abbrev s__law_some:Stmt:=top 47
theorem c__law_some:FnScope ["_law_script", "_law_at", "_law_room", "_law_views", "_law_k", "_law_cell", "_law_size", "_law_pace", "_law_axes", "_law_low", "_law_high"] ["_law_script", "_law_at", "_law_room"] (defScope s__law_some):=⟨rfl,rfl,rfl,by decide +kernel,rfl,by decide +kernel,by decide +kernel⟩
abbrev s__law_drawn:Stmt:=top 48
theorem c__law_drawn:FnScope ["_law_views", "_law_cell", "_law_one", "_law_same", "_law_other"] ["_law_views", "_law_cell"] (defScope s__law_drawn):=⟨rfl,rfl,rfl,by decide +kernel,rfl,by decide +kernel,by decide +kernel⟩
abbrev s__law_count:Stmt:=top 49
theorem c__law_count:FnScope ["_law_view", "_law_count_here", "_law_size", "_law_pace"] ["_law_view"] (defScope s__law_count):=⟨rfl,rfl,rfl,by decide +kernel,rfl,by decide +kernel,by decide +kernel⟩
abbrev s__law_made:Stmt:=top 50
theorem c__law_made:FnScope ["_law_drawn_here", "_law_room", "_law_way", "_law_one", "_law_other", "_law_value", "_law_to", "_law_source"] ["_law_drawn_here", "_law_room"] (defScope s__law_made):=⟨rfl,rfl,rfl,by decide +kernel,rfl,by decide +kernel,by decide +kernel⟩
abbrev s__law_touched:Stmt:=top 51
theorem c__law_touched:FnScope ["_law_drawn_here", "_law_way", "_law_one", "_law_other", "_law_value", "_law_here", "_law_there", "_law_writes"] ["_law_drawn_here"] (defScope s__law_touched):=⟨rfl,rfl,rfl,by decide +kernel,rfl,by decide +kernel,by decide +kernel⟩
abbrev s__law_clash:Stmt:=top 52
theorem c__law_clash:FnScope ["_law_one", "_law_other", "_law_here", "_law_there", "_law_cell"] ["_law_one", "_law_other"] (defScope s__law_clash):=⟨rfl,rfl,rfl,by decide +kernel,rfl,by decide +kernel,by decide +kernel⟩
abbrev s__law_told:Stmt:=top 53
theorem c__law_told:FnScope ["_law_one", "_law_other", "_law_word", "e", "_law_some_here"] ["_law_one", "_law_other"] (defScope s__law_told):=⟨rfl,rfl,rfl,by decide +kernel,rfl,by decide +kernel,by decide +kernel⟩
abbrev s__law_refused:Stmt:=top 54
theorem c__law_refused:FnScope ["_law_script", "_law_room", "_law_one", "_law_size", "_law_many", "_law_beyond", "_law_here", "_law_near", "_law_far", "_law_much", "_law_rows", "_law_some_here", "_law_word"] ["_law_script", "_law_room", "_law_one"] (defScope s__law_refused):=⟨rfl,rfl,rfl,by decide +kernel,rfl,by decide +kernel,by decide +kernel⟩
abbrev s__law_great:Stmt:=top 55
theorem c__law_great:FnScope ["_law_script", "_law_room", "_law_at", "_law_tall", "_law_one", "_law_other", "_law_both"] ["_law_script", "_law_room"] (defScope s__law_great):=⟨rfl,rfl,rfl,by decide +kernel,rfl,by decide +kernel,by decide +kernel⟩
abbrev s__law_wide:Stmt:=top 56
theorem c__law_wide:FnScope ["_law_script", "_law_paces", "_law_axes", "_law_cells_here", "_law_room", "_law_there", "_law_cell", "_law_one", "_law_at", "_law_other", "_law_due"] ["_law_script"] (defScope s__law_wide):=⟨rfl,rfl,rfl,by decide +kernel,rfl,by decide +kernel,by decide +kernel⟩
abbrev s_law:Stmt:=top 57
theorem c_law:FnScope ["_law_script", "_law_room", "_law_views", "_law_drawn_here", "_law_built", "_law_k", "_law_j", "_law_found"] ["_law_script"] (defScope s_law):=⟨rfl,rfl,rfl,by decide +kernel,rfl,by decide +kernel,by decide +kernel⟩
set_option genInjectivity false in
structure Adr where
 a_PaceError:Addr
 a_NoPlace:Addr
 a_NoView:Addr
 a_NoCount:Addr
 a_NoPair:Addr
 a_TooMany:Addr
 a_View:Addr
 a_Statement:Addr
 a_Fill:Addr
 a_Copy:Addr
 a_Swap:Addr
 a_Raise:Addr
 a_TooMany___init__:Addr
 d_TooMany___init__:FuncData
 a_is_whole:Addr
 d_is_whole:FuncData
 a_count_of:Addr
 d_count_of:FuncData
 a_is_number_below:Addr
 d_is_number_below:FuncData
 a_is_place:Addr
 d_is_place:FuncData
 a_refuse_long:Addr
 d_refuse_long:FuncData
 a_is_within:Addr
 d_is_within:FuncData
 a_is_size:Addr
 d_is_size:FuncData
 a_is_axis:Addr
 d_is_axis:FuncData
 a_are_axes:Addr
 d_are_axes:FuncData
 a_kept_axis:Addr
 d_kept_axis:FuncData
 a_View___init__:Addr
 d_View___init__:FuncData
 a_View_sizes:Addr
 d_View_sizes:FuncData
 a_View_paces:Addr
 d_View_paces:FuncData
 a_View_count:Addr
 d_View_count:FuncData
 a_View_cell:Addr
 d_View_cell:FuncData
 a_View_cells:Addr
 d_View_cells:FuncData
 a_View_least:Addr
 d_View_least:FuncData
 a_View_greatest:Addr
 d_View_greatest:FuncData
 a_widened:Addr
 d_widened:FuncData
 a_refuse_rooms:Addr
 d_refuse_rooms:FuncData
 a_refuse_count:Addr
 d_refuse_count:FuncData
 a_refuse_two:Addr
 d_refuse_two:FuncData
 a_Statement_writes:Addr
 d_Statement_writes:FuncData
 a_Statement_reads:Addr
 d_Statement_reads:FuncData
 a_Fill___init__:Addr
 d_Fill___init__:FuncData
 a_Fill_writes:Addr
 d_Fill_writes:FuncData
 a_Copy___init__:Addr
 d_Copy___init__:FuncData
 a_Copy_writes:Addr
 d_Copy_writes:FuncData
 a_Copy_reads:Addr
 d_Copy_reads:FuncData
 a_Swap___init__:Addr
 d_Swap___init__:FuncData
 a_Swap_writes:Addr
 d_Swap_writes:FuncData
 a_Swap_reads:Addr
 d_Swap_reads:FuncData
 a_Raise___init__:Addr
 d_Raise___init__:FuncData
 a_Raise_writes:Addr
 d_Raise_writes:FuncData
 a_Raise_reads:Addr
 d_Raise_reads:FuncData
 a_views_of:Addr
 d_views_of:FuncData
 a_refuse_views:Addr
 d_refuse_views:FuncData
 a_cells_of:Addr
 d_cells_of:FuncData
 a_meet:Addr
 d_meet:FuncData
 a_clash:Addr
 d_clash:FuncData
 a__law_draw:Addr
 d__law_draw:FuncData
 a__law_whole:Addr
 d__law_whole:FuncData
 a__law_cells:Addr
 d__law_cells:FuncData
 a__law_some:Addr
 d__law_some:FuncData
 a__law_drawn:Addr
 d__law_drawn:FuncData
 a__law_count:Addr
 d__law_count:FuncData
 a__law_made:Addr
 d__law_made:FuncData
 a__law_touched:Addr
 d__law_touched:FuncData
 a__law_clash:Addr
 d__law_clash:FuncData
 a__law_told:Addr
 d__law_told:FuncData
 a__law_refused:Addr
 d__law_refused:FuncData
 a__law_great:Addr
 d__law_great:FuncData
 a__law_wide:Addr
 d__law_wide:FuncData
 a_law:Addr
 d_law:FuncData
structure Tx (K:PySem.W.Frag) (mg:Str->Option Value) (t:Adr):Prop where
 m_PaceError:mg "PaceError"=some (.ref t.a_PaceError)
 m_NoPlace:mg "NoPlace"=some (.ref t.a_NoPlace)
 m_NoView:mg "NoView"=some (.ref t.a_NoView)
 m_NoCount:mg "NoCount"=some (.ref t.a_NoCount)
 m_NoPair:mg "NoPair"=some (.ref t.a_NoPair)
 m_TooMany:mg "TooMany"=some (.ref t.a_TooMany)
 m_View:mg "View"=some (.ref t.a_View)
 m_Statement:mg "Statement"=some (.ref t.a_Statement)
 m_Fill:mg "Fill"=some (.ref t.a_Fill)
 m_Copy:mg "Copy"=some (.ref t.a_Copy)
 m_Swap:mg "Swap"=some (.ref t.a_Swap)
 m_Raise:mg "Raise"=some (.ref t.a_Raise)
 o_NoPair:PySem.W.excIn K t.a_NoPair [.type "ValueError",.type "Exception",.type "BaseException",.type "object"] "ValueError.__new__"=true
 x_NoPair_PaceError:PySem.W.exmOne K (.ref t.a_NoPair) (.ref t.a_PaceError)=some true
 x_TooMany_PaceError:PySem.W.exmOne K (.ref t.a_TooMany) (.ref t.a_PaceError)=some true
 ocs:PySem.W.specialIn K (.builtin "object.__class__") "__get__"=some (some (.builtin "getset_descriptor.__get__"))
 oct:PySem.W.takesIn K (.builtin "object.__class__")=some true
 ga_NoPair:PySem.W.findIn K (.ref t.a_NoPair) "__getattribute__"=some (some (.builtin "BaseException.__getattribute__"))
 gn_NoPair:PySem.W.findIn K (.ref t.a_NoPair) "__getattr__"=some none
 mb_NoPair:PySem.W.mroIn K t.a_NoPair (.type "BaseException")=some true
 mo_NoPair:PySem.W.mroIn K t.a_NoPair (.type "object")=some true
 fc_NoPair:PySem.W.findIn K (.ref t.a_NoPair) "__class__"=some (some (.builtin "object.__class__"))
 hd_NoPair:PySem.W.hasDictIn K t.a_NoPair=true
 ga_TooMany:PySem.W.findIn K (.ref t.a_TooMany) "__getattribute__"=some (some (.builtin "BaseException.__getattribute__"))
 gn_TooMany:PySem.W.findIn K (.ref t.a_TooMany) "__getattr__"=some none
 mb_TooMany:PySem.W.mroIn K t.a_TooMany (.type "BaseException")=some true
 mo_TooMany:PySem.W.mroIn K t.a_TooMany (.type "object")=some true
 fc_TooMany:PySem.W.findIn K (.ref t.a_TooMany) "__class__"=some (some (.builtin "object.__class__"))
 hd_TooMany:PySem.W.hasDictIn K t.a_TooMany=true
 kc_NoPair_NoPair:PySem.W.hasDictIn K t.a_NoPair=true
 kt_NoPair_NoPair:PySem.W.typeIn K (.ref t.a_NoPair)=some (.type "type")
 ks_NoPair_NoPair:PySem.W.subIn K (.ref t.a_NoPair) (.ref t.a_NoPair)=some true
 kc_TooMany_NoPair:PySem.W.hasDictIn K t.a_NoPair=true
 kt_TooMany_NoPair:PySem.W.typeIn K (.ref t.a_NoPair)=some (.type "type")
 ks_TooMany_NoPair:PySem.W.subIn K (.ref t.a_TooMany) (.ref t.a_NoPair)=some false
 kn_TooMany_NoPair:(t.a_TooMany == t.a_NoPair)=false
 kc_NoPair_TooMany:PySem.W.hasDictIn K t.a_TooMany=true
 kt_NoPair_TooMany:PySem.W.typeIn K (.ref t.a_TooMany)=some (.type "type")
 ks_NoPair_TooMany:PySem.W.subIn K (.ref t.a_NoPair) (.ref t.a_TooMany)=some false
 kn_NoPair_TooMany:(t.a_NoPair == t.a_TooMany)=false
 kc_TooMany_TooMany:PySem.W.hasDictIn K t.a_TooMany=true
 kt_TooMany_TooMany:PySem.W.typeIn K (.ref t.a_TooMany)=some (.type "type")
 ks_TooMany_TooMany:PySem.W.subIn K (.ref t.a_TooMany) (.ref t.a_TooMany)=some true
 kc_NoPair_NoCount:PySem.W.hasDictIn K t.a_NoCount=true
 kt_NoPair_NoCount:PySem.W.typeIn K (.ref t.a_NoCount)=some (.type "type")
 ks_NoPair_NoCount:PySem.W.subIn K (.ref t.a_NoPair) (.ref t.a_NoCount)=some false
 kn_NoPair_NoCount:(t.a_NoPair == t.a_NoCount)=false
 kc_TooMany_NoCount:PySem.W.hasDictIn K t.a_NoCount=true
 kt_TooMany_NoCount:PySem.W.typeIn K (.ref t.a_NoCount)=some (.type "type")
 ks_TooMany_NoCount:PySem.W.subIn K (.ref t.a_TooMany) (.ref t.a_NoCount)=some false
 kn_TooMany_NoCount:(t.a_TooMany == t.a_NoCount)=false
 kc_NoPair_NoView:PySem.W.hasDictIn K t.a_NoView=true
 kt_NoPair_NoView:PySem.W.typeIn K (.ref t.a_NoView)=some (.type "type")
 ks_NoPair_NoView:PySem.W.subIn K (.ref t.a_NoPair) (.ref t.a_NoView)=some false
 kn_NoPair_NoView:(t.a_NoPair == t.a_NoView)=false
 kc_TooMany_NoView:PySem.W.hasDictIn K t.a_NoView=true
 kt_TooMany_NoView:PySem.W.typeIn K (.ref t.a_NoView)=some (.type "type")
 ks_TooMany_NoView:PySem.W.subIn K (.ref t.a_TooMany) (.ref t.a_NoView)=some false
 kn_TooMany_NoView:(t.a_TooMany == t.a_NoView)=false
 ks_NoPair_ValueError:PySem.W.subIn K (.ref t.a_NoPair) (.type "ValueError")=some true
 ks_TooMany_ValueError:PySem.W.subIn K (.ref t.a_TooMany) (.type "ValueError")=some true
 m_MOST_TOLD:∃ tk,mg "MOST_TOLD"=some (.int 4096 tk)
 m_MOST_ROOM:∃ tk,mg "MOST_ROOM"=some (.int 1000000000000000000 tk)
 m_MOST_SIZE:∃ tk,mg "MOST_SIZE"=some (.int 1000000000 tk)
 m_MOST_AXES:∃ tk,mg "MOST_AXES"=some (.int 8 tk)
 oi_TooMany:OwnI K t.a_TooMany t.a_TooMany___init__
 tk_TooMany_number:PySem.W.takerIn K t.a_TooMany "number"=some none
 na_TooMany_number:NoAttr K t.a_TooMany "number"
 bi_PaceError:BaseI K t.a_PaceError
 cl_View:Cls K t.a_View
 na_View_axes:NoAttr K t.a_View "axes"
 na_View_first:NoAttr K t.a_View "first"
 na_View_room:NoAttr K t.a_View "room"
 mk_View:Mk K t.a_View t.a_View___init__
 mt_View_sizes:Meth K t.a_View "sizes" t.a_View_sizes
 mt_View_paces:Meth K t.a_View "paces" t.a_View_paces
 mt_View_count:Meth K t.a_View "count" t.a_View_count
 mt_View_cell:Meth K t.a_View "cell" t.a_View_cell
 mt_View_cells:Meth K t.a_View "cells" t.a_View_cells
 mt_View_least:Meth K t.a_View "least" t.a_View_least
 mt_View_greatest:Meth K t.a_View "greatest" t.a_View_greatest
 cl_Statement:Cls K t.a_Statement
 mk0_Statement:Mk0 K t.a_Statement
 mt_Statement_writes:Meth K t.a_Statement "writes" t.a_Statement_writes
 mt_Statement_reads:Meth K t.a_Statement "reads" t.a_Statement_reads
 cl_Fill:Cls K t.a_Fill
 na_Fill_to:NoAttr K t.a_Fill "to"
 na_Fill_value:NoAttr K t.a_Fill "value"
 mt_Fill_writes:Meth K t.a_Fill "writes" t.a_Fill_writes
 mt_Fill_reads:Meth K t.a_Fill "reads" t.a_Statement_reads
 mk_Fill:Mk K t.a_Fill t.a_Fill___init__
 cl_Copy:Cls K t.a_Copy
 na_Copy_source:NoAttr K t.a_Copy "source"
 na_Copy_to:NoAttr K t.a_Copy "to"
 mt_Copy_writes:Meth K t.a_Copy "writes" t.a_Copy_writes
 mt_Copy_reads:Meth K t.a_Copy "reads" t.a_Copy_reads
 mk_Copy:Mk K t.a_Copy t.a_Copy___init__
 cl_Swap:Cls K t.a_Swap
 na_Swap_one:NoAttr K t.a_Swap "one"
 na_Swap_other:NoAttr K t.a_Swap "other"
 mt_Swap_writes:Meth K t.a_Swap "writes" t.a_Swap_writes
 mt_Swap_reads:Meth K t.a_Swap "reads" t.a_Swap_reads
 mk_Swap:Mk K t.a_Swap t.a_Swap___init__
 cl_Raise:Cls K t.a_Raise
 na_Raise_source:NoAttr K t.a_Raise "source"
 na_Raise_to:NoAttr K t.a_Raise "to"
 mt_Raise_writes:Meth K t.a_Raise "writes" t.a_Raise_writes
 mt_Raise_reads:Meth K t.a_Raise "reads" t.a_Raise_reads
 mk_Raise:Mk K t.a_Raise t.a_Raise___init__
 F_TooMany___init__:Fun K "__init__" "TooMany.__init__" s_TooMany___init__ t.a_TooMany___init__ t.d_TooMany___init__
 b_TooMany___init__:Binds K t.d_TooMany___init__ ["self", "number"] []
 F_is_whole:Fun K "is_whole" "is_whole" s_is_whole t.a_is_whole t.d_is_whole
 m_is_whole:mg "is_whole"=some (.ref t.a_is_whole)
 b_is_whole:Binds K t.d_is_whole ["thing"] []
 F_count_of:Fun K "count_of" "count_of" s_count_of t.a_count_of t.d_count_of
 m_count_of:mg "count_of"=some (.ref t.a_count_of)
 b_count_of:Binds K t.d_count_of ["sizes"] []
 F_is_number_below:Fun K "is_number_below" "is_number_below" s_is_number_below t.a_is_number_below t.d_is_number_below
 m_is_number_below:mg "is_number_below"=some (.ref t.a_is_number_below)
 b_is_number_below:Binds K t.d_is_number_below ["thing", "bound"] []
 F_is_place:Fun K "is_place" "is_place" s_is_place t.a_is_place t.d_is_place
 m_is_place:mg "is_place"=some (.ref t.a_is_place)
 b_is_place:Binds K t.d_is_place ["sizes", "thing"] []
 F_refuse_long:Fun K "refuse_long" "refuse_long" s_refuse_long t.a_refuse_long t.d_refuse_long
 m_refuse_long:mg "refuse_long"=some (.ref t.a_refuse_long)
 b_refuse_long:Binds K t.d_refuse_long ["count"] []
 F_is_within:Fun K "is_within" "is_within" s_is_within t.a_is_within t.d_is_within
 m_is_within:mg "is_within"=some (.ref t.a_is_within)
 b_is_within:Binds K t.d_is_within ["thing", "low", "high"] []
 F_is_size:Fun K "is_size" "is_size" s_is_size t.a_is_size t.d_is_size
 m_is_size:mg "is_size"=some (.ref t.a_is_size)
 b_is_size:Binds K t.d_is_size ["thing"] []
 F_is_axis:Fun K "is_axis" "is_axis" s_is_axis t.a_is_axis t.d_is_axis
 m_is_axis:mg "is_axis"=some (.ref t.a_is_axis)
 b_is_axis:Binds K t.d_is_axis ["thing"] []
 F_are_axes:Fun K "are_axes" "are_axes" s_are_axes t.a_are_axes t.d_are_axes
 m_are_axes:mg "are_axes"=some (.ref t.a_are_axes)
 b_are_axes:Binds K t.d_are_axes ["thing"] []
 F_kept_axis:Fun K "kept_axis" "kept_axis" s_kept_axis t.a_kept_axis t.d_kept_axis
 m_kept_axis:mg "kept_axis"=some (.ref t.a_kept_axis)
 b_kept_axis:Binds K t.d_kept_axis ["axis"] []
 F_View___init__:Fun K "__init__" "View.__init__" s_View___init__ t.a_View___init__ t.d_View___init__
 b_View___init__:Binds K t.d_View___init__ ["self", "room", "first", "axes"] []
 F_View_sizes:Fun K "sizes" "View.sizes" s_View_sizes t.a_View_sizes t.d_View_sizes
 b_View_sizes:Binds K t.d_View_sizes ["self"] []
 F_View_paces:Fun K "paces" "View.paces" s_View_paces t.a_View_paces t.d_View_paces
 b_View_paces:Binds K t.d_View_paces ["self"] []
 F_View_count:Fun K "count" "View.count" s_View_count t.a_View_count t.d_View_count
 b_View_count:Binds K t.d_View_count ["self"] []
 F_View_cell:Fun K "cell" "View.cell" s_View_cell t.a_View_cell t.d_View_cell
 b_View_cell:Binds K t.d_View_cell ["self", "place"] []
 F_View_cells:Fun K "cells" "View.cells" s_View_cells t.a_View_cells t.d_View_cells
 b_View_cells:Binds K t.d_View_cells ["self"] []
 F_View_least:Fun K "least" "View.least" s_View_least t.a_View_least t.d_View_least
 b_View_least:Binds K t.d_View_least ["self"] []
 F_View_greatest:Fun K "greatest" "View.greatest" s_View_greatest t.a_View_greatest t.d_View_greatest
 b_View_greatest:Binds K t.d_View_greatest ["self"] []
 F_widened:Fun K "widened" "widened" s_widened t.a_widened t.d_widened
 m_widened:mg "widened"=some (.ref t.a_widened)
 b_widened:Binds K t.d_widened ["cells", "size", "pace"] []
 F_refuse_rooms:Fun K "refuse_rooms" "refuse_rooms" s_refuse_rooms t.a_refuse_rooms t.d_refuse_rooms
 m_refuse_rooms:mg "refuse_rooms"=some (.ref t.a_refuse_rooms)
 b_refuse_rooms:Binds K t.d_refuse_rooms ["one", "other"] []
 F_refuse_count:Fun K "refuse_count" "refuse_count" s_refuse_count t.a_refuse_count t.d_refuse_count
 m_refuse_count:mg "refuse_count"=some (.ref t.a_refuse_count)
 b_refuse_count:Binds K t.d_refuse_count ["view", "many"] []
 F_refuse_two:Fun K "refuse_two" "refuse_two" s_refuse_two t.a_refuse_two t.d_refuse_two
 m_refuse_two:mg "refuse_two"=some (.ref t.a_refuse_two)
 b_refuse_two:Binds K t.d_refuse_two ["one", "other"] []
 F_Statement_writes:Fun K "writes" "Statement.writes" s_Statement_writes t.a_Statement_writes t.d_Statement_writes
 b_Statement_writes:Binds K t.d_Statement_writes ["self"] []
 F_Statement_reads:Fun K "reads" "Statement.reads" s_Statement_reads t.a_Statement_reads t.d_Statement_reads
 b_Statement_reads:Binds K t.d_Statement_reads ["self"] []
 F_Fill___init__:Fun K "__init__" "Fill.__init__" s_Fill___init__ t.a_Fill___init__ t.d_Fill___init__
 b_Fill___init__:Binds K t.d_Fill___init__ ["self", "to", "value"] []
 F_Fill_writes:Fun K "writes" "Fill.writes" s_Fill_writes t.a_Fill_writes t.d_Fill_writes
 b_Fill_writes:Binds K t.d_Fill_writes ["self"] []
 F_Copy___init__:Fun K "__init__" "Copy.__init__" s_Copy___init__ t.a_Copy___init__ t.d_Copy___init__
 b_Copy___init__:Binds K t.d_Copy___init__ ["self", "to", "source"] []
 F_Copy_writes:Fun K "writes" "Copy.writes" s_Copy_writes t.a_Copy_writes t.d_Copy_writes
 b_Copy_writes:Binds K t.d_Copy_writes ["self"] []
 F_Copy_reads:Fun K "reads" "Copy.reads" s_Copy_reads t.a_Copy_reads t.d_Copy_reads
 b_Copy_reads:Binds K t.d_Copy_reads ["self"] []
 F_Swap___init__:Fun K "__init__" "Swap.__init__" s_Swap___init__ t.a_Swap___init__ t.d_Swap___init__
 b_Swap___init__:Binds K t.d_Swap___init__ ["self", "one", "other"] []
 F_Swap_writes:Fun K "writes" "Swap.writes" s_Swap_writes t.a_Swap_writes t.d_Swap_writes
 b_Swap_writes:Binds K t.d_Swap_writes ["self"] []
 F_Swap_reads:Fun K "reads" "Swap.reads" s_Swap_reads t.a_Swap_reads t.d_Swap_reads
 b_Swap_reads:Binds K t.d_Swap_reads ["self"] []
 F_Raise___init__:Fun K "__init__" "Raise.__init__" s_Raise___init__ t.a_Raise___init__ t.d_Raise___init__
 b_Raise___init__:Binds K t.d_Raise___init__ ["self", "to", "source"] []
 F_Raise_writes:Fun K "writes" "Raise.writes" s_Raise_writes t.a_Raise_writes t.d_Raise_writes
 b_Raise_writes:Binds K t.d_Raise_writes ["self"] []
 F_Raise_reads:Fun K "reads" "Raise.reads" s_Raise_reads t.a_Raise_reads t.d_Raise_reads
 b_Raise_reads:Binds K t.d_Raise_reads ["self"] []
 F_views_of:Fun K "views_of" "views_of" s_views_of t.a_views_of t.d_views_of
 m_views_of:mg "views_of"=some (.ref t.a_views_of)
 b_views_of:Binds K t.d_views_of ["statement"] []
 F_refuse_views:Fun K "refuse_views" "refuse_views" s_refuse_views t.a_refuse_views t.d_refuse_views
 m_refuse_views:mg "refuse_views"=some (.ref t.a_refuse_views)
 b_refuse_views:Binds K t.d_refuse_views ["views"] []
 F_cells_of:Fun K "cells_of" "cells_of" s_cells_of t.a_cells_of t.d_cells_of
 m_cells_of:mg "cells_of"=some (.ref t.a_cells_of)
 b_cells_of:Binds K t.d_cells_of ["views"] []
 F_meet:Fun K "meet" "meet" s_meet t.a_meet t.d_meet
 m_meet:mg "meet"=some (.ref t.a_meet)
 b_meet:Binds K t.d_meet ["some", "others"] []
 F_clash:Fun K "clash" "clash" s_clash t.a_clash t.d_clash
 m_clash:mg "clash"=some (.ref t.a_clash)
 b_clash:Binds K t.d_clash ["one", "other"] []
 F__law_draw:Fun K "_law_draw" "_law_draw" s__law_draw t.a__law_draw t.d__law_draw
 m__law_draw:mg "_law_draw"=some (.ref t.a__law_draw)
 b__law_draw:Binds K t.d__law_draw ["_law_script", "_law_k", "_law_many"] []
 F__law_whole:Fun K "_law_whole" "_law_whole" s__law_whole t.a__law_whole t.d__law_whole
 m__law_whole:mg "_law_whole"=some (.ref t.a__law_whole)
 b__law_whole:Binds K t.d__law_whole ["_law_found"] []
 F__law_cells:Fun K "_law_cells" "_law_cells" s__law_cells t.a__law_cells t.d__law_cells
 m__law_cells:mg "_law_cells"=some (.ref t.a__law_cells)
 b__law_cells:Binds K t.d__law_cells ["_law_first", "_law_axes"] []
 F__law_some:Fun K "_law_some" "_law_some" s__law_some t.a__law_some t.d__law_some
 m__law_some:mg "_law_some"=some (.ref t.a__law_some)
 b__law_some:Binds K t.d__law_some ["_law_script", "_law_at", "_law_room"] []
 F__law_drawn:Fun K "_law_drawn" "_law_drawn" s__law_drawn t.a__law_drawn t.d__law_drawn
 m__law_drawn:mg "_law_drawn"=some (.ref t.a__law_drawn)
 b__law_drawn:Binds K t.d__law_drawn ["_law_views", "_law_cell"] []
 F__law_count:Fun K "_law_count" "_law_count" s__law_count t.a__law_count t.d__law_count
 m__law_count:mg "_law_count"=some (.ref t.a__law_count)
 b__law_count:Binds K t.d__law_count ["_law_view"] []
 F__law_made:Fun K "_law_made" "_law_made" s__law_made t.a__law_made t.d__law_made
 m__law_made:mg "_law_made"=some (.ref t.a__law_made)
 b__law_made:Binds K t.d__law_made ["_law_drawn_here", "_law_room"] []
 F__law_touched:Fun K "_law_touched" "_law_touched" s__law_touched t.a__law_touched t.d__law_touched
 m__law_touched:mg "_law_touched"=some (.ref t.a__law_touched)
 b__law_touched:Binds K t.d__law_touched ["_law_drawn_here"] []
 F__law_clash:Fun K "_law_clash" "_law_clash" s__law_clash t.a__law_clash t.d__law_clash
 m__law_clash:mg "_law_clash"=some (.ref t.a__law_clash)
 b__law_clash:Binds K t.d__law_clash ["_law_one", "_law_other"] []
 F__law_told:Fun K "_law_told" "_law_told" s__law_told t.a__law_told t.d__law_told
 m__law_told:mg "_law_told"=some (.ref t.a__law_told)
 b__law_told:Binds K t.d__law_told ["_law_one", "_law_other"] []
 F__law_refused:Fun K "_law_refused" "_law_refused" s__law_refused t.a__law_refused t.d__law_refused
 m__law_refused:mg "_law_refused"=some (.ref t.a__law_refused)
 b__law_refused:Binds K t.d__law_refused ["_law_script", "_law_room", "_law_one"] []
 F__law_great:Fun K "_law_great" "_law_great" s__law_great t.a__law_great t.d__law_great
 m__law_great:mg "_law_great"=some (.ref t.a__law_great)
 b__law_great:Binds K t.d__law_great ["_law_script", "_law_room"] []
 F__law_wide:Fun K "_law_wide" "_law_wide" s__law_wide t.a__law_wide t.d__law_wide
 m__law_wide:mg "_law_wide"=some (.ref t.a__law_wide)
 b__law_wide:Binds K t.d__law_wide ["_law_script"] []
 F_law:Fun K "law" "law" s_law t.a_law t.d_law
 m_law:mg "law"=some (.ref t.a_law)
 b_law:Binds K t.d_law ["_law_script"] []
 z_ValueError:mg "ValueError"=none
 z_all:mg "all"=none
 z_any:mg "any"=none
 z_bool:mg "bool"=none
 z_int:mg "int"=none
 z_isinstance:mg "isinstance"=none
 z_len:mg "len"=none
 z_list:mg "list"=none
 z_max:mg "max"=none
 z_min:mg "min"=none
 z_range:mg "range"=none
 z_sum:mg "sum"=none
 z_tuple:mg "tuple"=none
 z_zip:mg "zip"=none
theorem Tx.e_NoPair {K:PySem.W.Frag}{mg:Str->Option Value}{t:Adr}(T:Tx K mg t):ECls K t.a_NoPair:=⟨T.ga_NoPair,T.gn_NoPair,T.mb_NoPair,T.mo_NoPair,T.fc_NoPair,T.ocs,T.oct,T.hd_NoPair⟩
theorem Tx.e_TooMany {K:PySem.W.Frag}{mg:Str->Option Value}{t:Adr}(T:Tx K mg t):ECls K t.a_TooMany:=⟨T.ga_TooMany,T.gn_TooMany,T.mb_TooMany,T.mo_TooMany,T.fc_TooMany,T.ocs,T.oct,T.hd_TooMany⟩
theorem Tx.k_NoPair_NoPair {K:PySem.W.Frag}{mg:Str->Option Value}{t:Adr}(T:Tx K mg t):PySem.W.kitOne K (.ref t.a_NoPair) (.ref t.a_NoPair)=some true:=kit_yes T.kc_NoPair_NoPair T.kt_NoPair_NoPair T.ks_NoPair_NoPair
theorem Tx.k_TooMany_NoPair {K:PySem.W.Frag}{mg:Str->Option Value}{t:Adr}(T:Tx K mg t):PySem.W.kitOne K (.ref t.a_TooMany) (.ref t.a_NoPair)=some false:=kit_no T.kn_TooMany_NoPair T.kc_TooMany_NoPair T.kt_TooMany_NoPair T.ks_TooMany_NoPair
theorem Tx.k_NoPair_TooMany {K:PySem.W.Frag}{mg:Str->Option Value}{t:Adr}(T:Tx K mg t):PySem.W.kitOne K (.ref t.a_NoPair) (.ref t.a_TooMany)=some false:=kit_no T.kn_NoPair_TooMany T.kc_NoPair_TooMany T.kt_NoPair_TooMany T.ks_NoPair_TooMany
theorem Tx.k_TooMany_TooMany {K:PySem.W.Frag}{mg:Str->Option Value}{t:Adr}(T:Tx K mg t):PySem.W.kitOne K (.ref t.a_TooMany) (.ref t.a_TooMany)=some true:=kit_yes T.kc_TooMany_TooMany T.kt_TooMany_TooMany T.ks_TooMany_TooMany
theorem Tx.k_NoPair_NoCount {K:PySem.W.Frag}{mg:Str->Option Value}{t:Adr}(T:Tx K mg t):PySem.W.kitOne K (.ref t.a_NoPair) (.ref t.a_NoCount)=some false:=kit_no T.kn_NoPair_NoCount T.kc_NoPair_NoCount T.kt_NoPair_NoCount T.ks_NoPair_NoCount
theorem Tx.k_TooMany_NoCount {K:PySem.W.Frag}{mg:Str->Option Value}{t:Adr}(T:Tx K mg t):PySem.W.kitOne K (.ref t.a_TooMany) (.ref t.a_NoCount)=some false:=kit_no T.kn_TooMany_NoCount T.kc_TooMany_NoCount T.kt_TooMany_NoCount T.ks_TooMany_NoCount
theorem Tx.k_NoPair_NoView {K:PySem.W.Frag}{mg:Str->Option Value}{t:Adr}(T:Tx K mg t):PySem.W.kitOne K (.ref t.a_NoPair) (.ref t.a_NoView)=some false:=kit_no T.kn_NoPair_NoView T.kc_NoPair_NoView T.kt_NoPair_NoView T.ks_NoPair_NoView
theorem Tx.k_TooMany_NoView {K:PySem.W.Frag}{mg:Str->Option Value}{t:Adr}(T:Tx K mg t):PySem.W.kitOne K (.ref t.a_TooMany) (.ref t.a_NoView)=some false:=kit_no T.kn_TooMany_NoView T.kc_TooMany_NoView T.kt_TooMany_NoView T.ks_TooMany_NoView
theorem Tx.k_NoPair_ValueError {K:PySem.W.Frag}{mg:Str->Option Value}{t:Adr}(T:Tx K mg t):PySem.W.kitOne K (.ref t.a_NoPair) (.type "ValueError")=some true:=kit_ty (by decide +kernel) T.ks_NoPair_ValueError
theorem Tx.k_TooMany_ValueError {K:PySem.W.Frag}{mg:Str->Option Value}{t:Adr}(T:Tx K mg t):PySem.W.kitOne K (.ref t.a_TooMany) (.type "ValueError")=some true:=kit_ty (by decide +kernel) T.ks_TooMany_ValueError
local macro_rules | `(tactic| trivial) => `(tactic| first | exact Or.inl rfl | exact Or.inr rfl | exact Or.inr (Or.inl rfl) | exact Or.inr (Or.inr rfl) | assumption)
local macro_rules | `(tactic| simp! only [$xs,*]) => do
  let ys := xs.getElems.map fun x => (⟨x.raw⟩ : Lean.TSyntax `Lean.Parser.Tactic.simpLemma)
  let zs ← ("↓reduceIte ↓optK_some ↓gName_0 ↓gName_1 ↓gName_2 ↓gName_3 ↓gName_4 ↓gName_5 ↓gName_6 ↓gName_7 ↓gName_8 ↓gName_9 ↓gName_10 ↓gName_11 ↓gName_12 ↓m_kOp' ↓m_kOp ↓m_tOp ↓m_tC ↓m_kUn ↓m_tUn ↓m_kNot ↓m_tNot ↓m_kAnd ↓m_tAnd ↓m_kOr ↓m_tOr ↓m_kIfE ↓m_tIf ↓m_kCh3 ↓m_tNil ↓m_kCons' ↓m_kCons ↓m_tCons ↓m_kCall_1 ↓m_kCall_2 ↓m_kCall_3 ↓m_tCall ↓m_kCB ↓m_tCB ↓m_tNext ↓m_tSeq ↓m_tRet ↓m_kDrop ↓m_tDrop ↓m_kIfS ↓m_tIfS ↓m_kAsg ↓m_tAsg ↓m_kGs ↓m_kLen ↓m_qLen ↓m_kIx' ↓m_kIx ↓m_qIx ↓m_qMax ↓m_qMin ↓m_qIsi_int ↓m_qIsi_bool ↓m_qIsi_tuple ↓m_qIsi_list ↓m_kIsi_Ni ↓m_kIsi_bb ↓m_kIsi_bi ↓m_kIsi_ib ↓m_kIsi_ii ↓m_kIsi_si ↓m_kIsi_li ↓m_kIsi_ll ↓m_kIsi_ti ↓m_kIsi_tt ↓m_kIsi_di ↓m_kBM' ↓m_kBM ↓m_tBM ↓m_kApp ↓m_rAppend ↓m_kGT ↓m_qGT ↓m_kBody ↓m_tFor ↓m_kR1 ↓m_iRng1 ↓m_kR2 ↓m_iRng2 ↓m_kISq'_l ↓m_kISq ↓m_iSeq ↓m_tCallX ↓m_kTry ↓m_tTry ↓m_kRaise ↓m_tRaise ↓m_kSetE ↓m_del ↓m_kDel ↓m_gDel_3 ↓m_dictO_none ↓m_dictO_some ↓m_kXd ↓m_kE4 ↓m_kE3 ↓m_kE2 ↓m_kE1 ↓m_qIsE ↓m_tYes ↓m_tComp ↓m_kSetC ↓m_tSetC ↓m_datV ↓m_datF_int ↓m_datF_ref ↓m_datO_lst ↓m_allSome_nil ↓m_allSome_cons ↓m_kEq2_t ↓m_kEq1 ↓m_qEq_refr ↓m_qEq_int_int ↓m_qNe_int_int ↓m_qEq_bl_bl ↓m_qNe_bl_bl ↓m_qEq_str_str ↓m_qNe_str_str ↓m_kInts ↓m_kQT ↓m_kQL ↓m_qTup ↓m_qLst ↓m_kN ↓m_nList ↓m_kNC2 ↓m_kNC1 ↓m_nCat ↓m_nDNew ↓m_kSumI ↓m_qSum ↓m_kBls ↓m_kAllB ↓m_qAll ↓m_kCm2 ↓m_kCm_1 ↓m_kCm_2 ↓m_rep_1 ↓m_rep_2 ↓m_kFldV ↓m_kFldO ↓m_kFld ↓m_nFld ↓m_kSetO ↓m_kSet1 ↓m_kSet0 ↓m_nSetF ↓m_kMethA_0 ↓m_kMethO ↓m_kMeth ↓m_nMeth ↓m_kMade ↓m_kMake_2 ↓m_kMake_3 ↓m_nMake ↓m_tXI ↓m_xSetF ↓m_kXS0 ↓m_tRaiseI ↓m_tXF ↓m_qMaxL ↓m_kExt2 ↓m_kExt1 ↓m_rExtend ↓m_kDP1 ↓m_kDP0 ↓m_sDPut ↓m_tV_0 ↓m_tV_1 ↓m_tV_2 ↓m_tV_3 ↓m_tV_4 ↓m_tV_5 ↓m_tV_6 ↓m_tV_7 ↓m_tV_8 ↓m_tV_9 ↓m_tV_10 ↓m_tV_11 ↓m_tV_12 ↓m_nI0 ↓m_nI ↓m_nU ↓m_kTestN ↓m_nTest ↓m_kAndN ↓m_nAndV ↓m_kOrN ↓m_nOrV ↓m_kNotN ↓m_nNotV ↓m_kChN2 ↓m_kChN1 ↓m_kChN0 ↓m_nChain ↓m_gNilN ↓m_gConsN ↓m_kInI ↓m_nIn ↓m_iDict ↓m_nIsB ↓m_tCallH ↓m_kAnyB ↓m_qAny ↓m_kCntB ↓m_nCntB ↓m_kIdxB ↓m_nIdxB ↓m_nMk0 ↓m_nMethD ↓m_kExcAH ↓m_tExcAH optK_some itemsAt lstAt tupAt seqO_lst seqO_tup lstO_lst tupO_tup bind_some' upd_same upd_upd tyO_lst tyO_tup tyN_non tyN_bl tyN_int tyN_str tyN_ref tyV_list isW_int' cx_K refC_ref clsV_ref clsV_ty atI_0 atI_1 eqv_list eqvAll_nil eqvAll_l allSome_ints CDiv_eq CPow_10 Option.isSome_some Option.isSome_none Option.map_some List.length_cons List.length_nil List.length_map List.map_cons List.map_nil and_true true_and and_self implies_true reduceCtorEq decide_true decide_false Bool.not_true Bool.not_false if_true if_false decide_eq_true_eq Bool.false_eq_true Bool.not_eq_true' decide_eq_false_iff_not Bool.and_true Bool.true_and Bool.and_self Bool.and_eq_true Int.reduceToNat Int.reducePow Int.reduceMul Int.reduceAdd Int.reduceSub Int.reduceNeg Int.reduceLT Int.reduceLE Int.reduceEq Int.reduceNe Int.reduceDiv Int.reduceMod Nat.reduceAdd Nat.reduceLeDiff Nat.reduceLT Nat.reduceMul Nat.reducePow gt_iff_lt ge_iff_le ne_eq false_implies true_implies eq_self String.reduceEq Int.cast_ofNat_Int not_true_eq_false not_false_eq_true false_and and_false List.cons_append List.nil_append List.append_nil lenLe".splitOn " ").toArray.mapM fun s => if s.startsWith "↓" then `(Lean.Parser.Tactic.simpLemma| ↓ $(Lean.mkIdent (s.replace "↓" "").toName):ident) else `(Lean.Parser.Tactic.simpLemma| $(Lean.mkIdent s.toName):ident)
  `(tactic| simp (config := { failIfUnchanged := false, maxDischargeDepth := 30, maxSteps := 10000000 }) only [$zs,*, $ys,*, *])
section
variable {P:Program}{w:World}{K:PySem.W.Frag}{mg:Str->Option Value}{base:Heap}{t:Adr}
def spDraw (K:PySem.W.Frag) (a:Addr) (ns:List Int):Sp:=fun vs H Q E=>∃ (k:Int) (m:Int),vs=[.ref a,.int k,.int m]∧(SqL K H a (ns.map V.int)∧ns.length≤63∧(0≤k∧k < 1000)∧0 < m∧∀ z:Int,0≤z->z < m->Q (.int z) H)
theorem c_spDraw (K:PySem.W.Frag) (a:Addr) (ns:List Int) (k:Int) (m:Int) (H:Hp) (Q:VK) (E:XK):spDraw K a ns [.ref a,.int k,.int m] H Q E=(SqL K H a (ns.map V.int)∧ns.length≤63∧(0≤k∧k < 1000)∧0 < m∧∀ z:Int,0≤z->z < m->Q (.int z) H):=spx2 (f:=fun (k:Int) (m:Int)=>[.ref a,.int k,.int m]) (fun _ _ _ _ h=>by cases h;exact ⟨rfl,rfl⟩) k m
theorem l_spDraw (K:PySem.W.Frag) (a:Addr) (ns:List Int){vs:List V}{H:Hp}{Q:VK}{E:XK}(h:spDraw K a ns vs H Q E):vs.length=3:=spl2 h fun _ _=>rfl
theorem ok__law_draw (T:Tx K mg t) (a:Addr) (ns:List Int):FnOk P w K mg base CX0 1 t.a__law_draw t.d__law_draw ["_law_script", "_law_k", "_law_many"] (spDraw K a ns):=by
 refine T.F__law_draw.ok c__law_draw (fun vs H Q E h=>l_spDraw _ _ _ h) (fun cdv A outer s H vs Q E hr h=>?_)
 ·obtain ⟨k,m,rfl,hS,hl,⟨hk0,hk1⟩,hm,kk⟩:=h
  have fin:∀ z:Int,Q (.int (z % m)) H:=fun z=>kk _ (Int.emod_nonneg _ (by omega)) (Int.emod_lt_of_pos _ hm)
  refine ⟨_,(pss_cons (ps_if (pt_cmpR op_lt (pv 1) (pe_callB (id := "len") call_len_seq (by rfl) T.z_len (by decide +kernel) (pa_c (pv 0) pa_nil)) (nomark _))
   (pss_one (ps_ret (pe_op op_mod (pe_ix ix_list (pv 0) (pv 1) (fun _ _=>rfl)) (pv 2))))
   pss_nil)
  (pss_cons (ps_set (i:=3) c__law_draw.nd rfl (Or.inl rfl) (pe_op op_add (pe_op op_mul (pe_op op_mul (pv 1) (pv 1)) pe_int) pe_int))
  (pss_cons (ps_if (pt_cmpR op_gt (pe_callB (id := "len") call_len_seq (by rfl) T.z_len (by decide +kernel) (pa_c (pv 0) pa_nil)) pe_int (nomark _))
   (pss_cons (ps_set (i:=4) c__law_draw.nd rfl (Or.inl rfl) (pe_op op_mod (pe_ix ix_list (pv 0) (pe_op op_mod (pv 1) (pe_callB (id := "len") call_len_seq (by rfl) T.z_len (by decide +kernel) (pa_c (pv 0) pa_nil))) (fun _ _=>rfl)) pe_int))
   (pss_one (ps_set (i:=3) c__law_draw.nd rfl (Or.inl rfl) (pe_op op_add (pe_op op_mul (pv 4) (pe_op op_add pe_int (pe_op op_mul (pe_op op_mul pe_int (pv 1)) (pv 1)))) (pe_op op_mul (pv 1) pe_int)))))
   pss_nil)
  (pss_one (ps_ret (pe_op op_mod (pe_op op_mod (pe_op op_mul (pe_op op_mod (pv 3) pe_int) pe_int) pe_int) (pv 2))))))),?_⟩
  refine ⟨_,rfl,_,rfl,a,_,rfl,.inl hS,_,_,rfl,rfl,_,rfl,?_⟩
  refine ite2 (fun h=>?_) (fun h=>?_)
  ·have h1:k < (ns.length:Int):=by simpa using h
   obtain ⟨z,hz,_⟩:=atI_ints ns k hk0 h1
   exact ⟨_,rfl,_,rfl,a,_,k,_,rfl,rfl,hS,hz,_,rfl,_,_,rfl,rfl,hm,fin _⟩
  ·refine ⟨_,rfl,_,rfl,_,_,rfl,rfl,.inl ⟨by omega,by omega⟩,_,_,rfl,rfl,.inr ⟨by decide,by decide⟩,_,_,rfl,rfl,?_⟩
   refine ⟨_,rfl,a,_,rfl,.inl hS,_,_,rfl,rfl,_,rfl,?_⟩
   refine ite2 (fun h2=>?_) (fun h2=>?_)
   ·have h3:0 < (ns.length:Int):=by simpa using h2
    have h4:(0:Int) < ((ns.map V.int).length:Int):=by simpa using h3
    obtain ⟨z,hz,_⟩:=atI_ints ns (k % ((ns.map V.int).length:Int)) (Int.emod_nonneg _ (by omega)) (by have:=Int.emod_lt_of_pos k h4;simpa using this)
    refine ⟨_,rfl,_,rfl,_,rfl,a,_,rfl,.inl hS,_,_,rfl,rfl,h4,a,_,_,_,rfl,rfl,hS,hz,_,_,rfl,rfl,(by first|decide|(show (0:Int) < _;decide)),?_⟩
    refine ⟨_,rfl,_,rfl,_,_,rfl,rfl,.inl ⟨by decide,by decide⟩,_,rfl,_,_,rfl,rfl,.inr ⟨by omega,by omega⟩,_,_,rfl,rfl,_,_,rfl,rfl,?_,?_⟩
    ·refine .inl ⟨?_,?_⟩
     ·have:=Int.emod_nonneg z (show (999999937:Int) ≠ 0 by decide);omega
     ·have:=Int.emod_lt_of_pos z (show (0:Int) < 999999937 by decide);omega
    refine ⟨_,rfl,_,_,rfl,rfl,.inr ⟨by decide,by decide⟩,_,_,rfl,rfl,?_⟩
    exact ⟨_,rfl,_,_,rfl,rfl,(by first|decide|(show (0:Int) < _;decide)),_,_,rfl,rfl,.inr ⟨by decide,by decide⟩,_,_,rfl,rfl,(by first|decide|(show (0:Int) < _;decide)),_,rfl,_,_,rfl,rfl,hm,fin _⟩
   ·exact ⟨_,rfl,_,_,rfl,rfl,(by first|decide|(show (0:Int) < _;decide)),_,_,rfl,rfl,.inr ⟨by decide,by decide⟩,_,_,rfl,rfl,(by first|decide|(show (0:Int) < _;decide)),_,rfl,_,_,rfl,rfl,hm,fin _⟩
def spWhole  : Sp:=fun vs H Q E=>∃ (x:V),vs=[x]∧(optK (isW H x) (kE4 H Q))
theorem c_spWhole  (x:V) (H:Hp) (Q:VK) (E:XK):spWhole  [x] H Q E=(optK (isW H x) (kE4 H Q)):=spx1 (f:=fun (x:V)=>[x]) (fun _ _ h=>by cases h;exact rfl) x
theorem l_spWhole  {vs:List V}{H:Hp}{Q:VK}{E:XK}(h:spWhole  vs H Q E):vs.length=1:=spl1 h fun _=>rfl
theorem ok_is_whole (T:Tx K mg t):FnOk P w K mg base CX0 1 t.a_is_whole t.d_is_whole ["thing"] spWhole:=by
 refine T.F_is_whole.ok c_is_whole (fun vs H Q E h=>l_spWhole h) (fun cdv A outer s H vs Q E hr h=>?_)
 ·obtain ⟨x,rfl,h⟩:=h
  obtain ⟨b,hb,k⟩:=optK_ex h
  clear h
  rw [m_kE4] at k
  refine ⟨_,(@pss_one _ _ _ (@ps_ret _ _ _ _ (@pe_andN _ _ _ _ _ _ _ (@pe_callB _ _ _ _ _ _ _ ("isinstance") _ call_qIsi (by rfl) T.z_isinstance (by decide +kernel) (@pa_c _ _ _ _ _ (@pvN _ 0 _ _ (by rfl) (by trivial) (by decide) (by decide)) (@pa_c _ _ _ _ _ (@pe_bltn _ _ (.ty "int") (.type "int") _ (by rfl) T.z_int (by decide +kernel) rfl (by decide) (by decide)) (@pa_nil _) (by rfl)) (by rfl)) (by decide) (by decide) (by rfl) (by rfl)) (@pe_one _ _ _ _ _ (@pe_notN _ _ _ _ (@pe_callB _ _ _ _ _ _ _ ("isinstance") _ call_qIsi (by rfl) T.z_isinstance (by decide +kernel) (@pa_c _ _ _ _ _ (@pvN _ 0 _ _ (by rfl) (by trivial) (by decide) (by decide)) (@pa_c _ _ _ _ _ (@pe_bltn _ _ (.ty "bool") (.type "bool") _ (by rfl) T.z_bool (by decide +kernel) rfl (by decide) (by decide)) (@pa_nil _) (by rfl)) (by rfl)) (by decide) (by decide) (by rfl) (by rfl))))))),?_⟩
  rw [show start ["thing"] [x]=[some (x)] from rfl]
  cases x with
  | int i=>cases hb;simp! only [and_true]
  | bl i=>cases hb;simp! only [and_true]
  | non=>cases hb;simp! only [and_true]
  | str i=>cases hb;simp! only [and_true]
  | ref p=>
   obtain ⟨rfl,o,ho,ht⟩:=isW_obj hb
   rcases ht with ht|ht|ht<;>simp! only [and_true]
  | _=>cases hb
def kSz (F:List Int->Prop):List Int->Prop:=fun ns=>Sizes ns∧F ns
theorem m_kSz (F:List Int->Prop) (ns:List Int):kSz F ns=(Sizes ns∧F ns):=rfl
def kCnt (H:Hp) (Q:VK):List Int->Prop:=fun ns=>Q (.int (prodL ns)) H
theorem x_kCnt (H:Hp) (Q:VK) (ns:List Int):kCnt H Q ns=Q (.int (prodL ns)) H:=rfl
def spCount  : Sp:=fun vs H Q E=>∃ (p:Addr),vs=[.ref p]∧(optK (lstAt H p) (kInts (kSz (kCnt H Q))))
theorem c_spCount  (p:Addr) (H:Hp) (Q:VK) (E:XK):spCount  [.ref p] H Q E=(optK (lstAt H p) (kInts (kSz (kCnt H Q)))):=spx1 (f:=fun (p:Addr)=>[.ref p]) (fun _ _ h=>by cases h;exact rfl) p
theorem l_spCount  {vs:List V}{H:Hp}{Q:VK}{E:XK}(h:spCount  vs H Q E):vs.length=1:=spl1 h fun _=>rfl
theorem ok_count_of (T:Tx K mg t):FnOk P w K mg base CX0 1 t.a_count_of t.d_count_of ["sizes"] spCount:=by
 refine T.F_count_of.ok c_count_of (fun vs H Q E h=>l_spCount h) (fun cdv A outer s H vs Q E hr h=>?_)
 ·obtain ⟨p,rfl,h⟩:=h
  obtain ⟨xs,hp,ns,rfl,hs,k⟩:=optK_ex h
  replace hp:=lst_of hp
  rw [x_kCnt] at k
  refine ⟨_,(@pss_cons _ _ _ _ _ (@ps_set _ _ (1) _ _ _ _ c_count_of.nd rfl (Or.inl rfl) (@pe_int _ _ _ _) (by rfl) (by trivial)) (@pss_cons _ _ _ _ _ (@ps_for _ _ _ _ _ _ _ _ PassesOwn.never rfl (@pi_seq _ _ _ _ (@pvN _ 0 _ _ (by rfl) (by trivial) (by decide) (by decide))) (@pg_name _ _ (2) _ c_count_of.nd rfl (Or.inl rfl) (by trivial)) (@pss_one _ _ _ (@ps_set _ _ (1) _ _ _ _ c_count_of.nd rfl (Or.inl rfl) (@pe_op _ _ _ _ _ _ _ _ on_mulB (@pvN _ 1 _ _ (by rfl) (by trivial) (by decide) (by decide)) (@pvN _ 2 _ _ (by rfl) (by trivial) (by decide) (by decide))) (by rfl) (by trivial))) (by intros;rfl)) (@pss_one _ _ _ (@ps_ret _ _ _ _ (@pvN _ 1 _ _ (by rfl) (by trivial) (by decide) (by decide)))))),?_⟩
  rw [show start ["sizes", "count", "size"] [.ref p]=[some (.ref p),none,none] from rfl]
  simp! only [and_true]
  refine for_lst (xs:=ns.map V.int) (fun i σ H'=>∃ v:Option V,σ=[some (.ref p),some (.int (prodL (ns.take i))),v]∧H'=H) ⟨_,rfl,rfl⟩ (fun i σ H' _ ⟨_,_,e⟩=>by subst e;exact hp) ?_ ?_
  ·rintro i x _ _ hi ⟨v,rfl,rfl⟩
   rw [List.getElem?_map] at hi
   obtain ⟨z,hz,rfl⟩:=Option.map_eq_some_iff.mp hi
   have e:=prodL_take ns i z hz
   have b1:=(hs.take i).prod
   have b2:=hs.2 z (List.mem_of_getElem? hz)
   have c1:(prodL (ns.take i)).natAbs < 2 ^ 256:=by
    generalize prodL (ns.take i)=y at b1
    have:(1000000000:Int) ^ 8 < 2 ^ 256:=by decide
    omega
   have c2:z.natAbs < 2 ^ 256:=by omega
   clear b1 b2
   simp! only [↓m_kBody,CMulB_of]
   exact ⟨_,rfl⟩
  ·rintro _ _ ⟨v,rfl,rfl⟩
   rw [List.length_map,List.take_length]
   simp! only [and_true]
def spWithin  : Sp:=fun vs H Q E=>∃ (i:Int) (lo:Int) (hi:Int),vs=[.int i,.int lo,.int hi]∧(Q (.bl (decide (lo≤i) && decide (i≤hi))) H)
theorem c_spWithin  (i:Int) (lo:Int) (hi:Int) (H:Hp) (Q:VK) (E:XK):spWithin  [.int i,.int lo,.int hi] H Q E=(Q (.bl (decide (lo≤i) && decide (i≤hi))) H):=spx3 (f:=fun (i:Int) (lo:Int) (hi:Int)=>[.int i,.int lo,.int hi]) (fun _ _ _ _ _ _ h=>by cases h;exact ⟨rfl,rfl,rfl⟩) i lo hi
theorem l_spWithin  {vs:List V}{H:Hp}{Q:VK}{E:XK}(h:spWithin  vs H Q E):vs.length=3:=spl3 h fun _ _ _=>rfl
theorem ok_is_within (T:Tx K mg t):FnOk P w K mg base CX0 2 t.a_is_within t.d_is_within ["thing", "low", "high"] spWithin:=by
 have G_is_whole:=ok_is_whole (P:=P) (w:=w) (base:=base) T
 refine T.F_is_within.ok c_is_within (fun vs H Q E h=>l_spWithin h) (fun cdv A outer s H vs Q E hr h=>?_)
 ·obtain ⟨i,lo,hi,rfl,k⟩:=h
  refine ⟨_,(@pss_one _ _ _ (@ps_ret _ _ _ _ (@pe_andN _ _ _ _ _ _ _ (@pe_call _ _ _ _ _ _ _ _ _ _ _ _ _ _ _ _ G_is_whole (hr.mono (by decide)) (by rfl) T.m_is_whole T.F_is_whole.kp T.b_is_whole .nil pass0 (@pa_c _ _ _ _ _ (@pvN _ 0 _ _ (by rfl) (by trivial) (by decide) (by decide)) (@pa_nil _) (by rfl)) (by decide) (by rfl) (by rfl)) (@pe_one _ _ _ _ _ (@pe_chainN _ _ _ _ _ _ _ _ _ _ _ _ on_le on_le (@pvN _ 1 _ _ (by rfl) (by trivial) (by decide) (by decide)) (@pvN _ 0 _ _ (by rfl) (by trivial) (by decide) (by decide)) (@pvN _ 2 _ _ (by rfl) (by trivial) (by decide) (by decide)) (by rfl)))))),?_⟩
  rw [show start ["thing", "low", "high"] [.int i,.int lo,.int hi]=[some (.int i),some (.int lo),some (.int hi)] from rfl]
  by_cases h0:lo≤i
  ·rw [decide_eq_true h0,Bool.true_and] at k
   simp! only [↓c_spWhole]
  ·rw [decide_eq_false h0,Bool.false_and] at k
   simp! only [↓c_spWhole]
def spSize  : Sp:=fun vs H Q E=>∃ (i:Int),vs=[.int i]∧(Q (.bl (decide (1≤i) && decide (i≤1000000000))) H)
theorem c_spSize  (i:Int) (H:Hp) (Q:VK) (E:XK):spSize  [.int i] H Q E=(Q (.bl (decide (1≤i) && decide (i≤1000000000))) H):=spx1 (f:=fun (i:Int)=>[.int i]) (fun _ _ h=>by cases h;exact rfl) i
theorem l_spSize  {vs:List V}{H:Hp}{Q:VK}{E:XK}(h:spSize  vs H Q E):vs.length=1:=spl1 h fun _=>rfl
theorem ok_is_size (T:Tx K mg t):FnOk P w K mg base CX0 3 t.a_is_size t.d_is_size ["thing"] spSize:=by
 have G_is_within:=ok_is_within (P:=P) (w:=w) (base:=base) T
 refine T.F_is_size.ok c_is_size (fun vs H Q E h=>l_spSize h) (fun cdv A outer s H vs Q E hr h=>?_)
 ·obtain ⟨i,rfl,k⟩:=h
  refine ⟨_,(@pss_one _ _ _ (@ps_ret _ _ _ _ (@pe_call _ _ _ _ _ _ _ _ _ _ _ _ _ _ _ _ G_is_within (hr.mono (by decide)) (by rfl) T.m_is_within T.F_is_within.kp T.b_is_within .nil pass0 (@pa_c _ _ _ _ _ (@pvN _ 0 _ _ (by rfl) (by trivial) (by decide) (by decide)) (@pa_c _ _ _ _ _ (@pe_int _ _ _ _) (@pa_c _ _ _ _ _ (@pe_glob _ _ (.int 1000000000) _ _ (by rfl) T.m_MOST_SIZE.choose_spec ⟨_,rfl⟩ (by decide)) (@pa_nil _) (by rfl)) (by rfl)) (by rfl)) (by decide) (by rfl) (by rfl)))),?_⟩
  rw [show start ["thing"] [.int i]=[some (.int i)] from rfl]
  simp! only [↓c_spWithin]
abbrev B_spAxis  (p:Addr) (H:Hp) (Q:VK) (E:XK):Prop:=∃ a:Int × Int,H p=some (.tup [.int a.1,.int a.2])∧1≤a.1∧a.1≤1000000000∧Q (.bl true) H
def spAxis  : Sp:=fun vs H Q E=>∃ (p:Addr),vs=[.ref p]∧(B_spAxis  p H Q E)
theorem c_spAxis  (p:Addr) (H:Hp) (Q:VK) (E:XK):spAxis  [.ref p] H Q E=(B_spAxis  p H Q E):=spx1 (f:=fun (p:Addr)=>[.ref p]) (fun _ _ h=>by cases h;exact rfl) p
theorem l_spAxis  {vs:List V}{H:Hp}{Q:VK}{E:XK}(h:spAxis  vs H Q E):vs.length=1:=spl1 h fun _=>rfl
theorem ok_is_axis (T:Tx K mg t):FnOk P w K mg base CX0 4 t.a_is_axis t.d_is_axis ["thing"] spAxis:=by
 have G_is_size:=ok_is_size (P:=P) (w:=w) (base:=base) T
 have G_is_whole:=ok_is_whole (P:=P) (w:=w) (base:=base) T
 refine T.F_is_axis.ok c_is_axis (fun vs H Q E h=>l_spAxis h) (fun cdv A outer s H vs Q E hr h=>?_)
 ·obtain ⟨p,rfl,a,hp,h1,h2,k⟩:=h
  refine ⟨_,(@pss_one _ _ _ (@ps_ret _ _ _ _ (@pe_andN _ _ _ _ _ _ _ (@pe_callB _ _ _ _ _ _ _ ("isinstance") _ call_qIsi (by rfl) T.z_isinstance (by decide +kernel) (@pa_c _ _ _ _ _ (@pvN _ 0 _ _ (by rfl) (by trivial) (by decide) (by decide)) (@pa_c _ _ _ _ _ (@pe_bltn _ _ (.ty "tuple") (.type "tuple") _ (by rfl) T.z_tuple (by decide +kernel) rfl (by decide) (by decide)) (@pa_nil _) (by rfl)) (by rfl)) (by decide) (by decide) (by rfl) (by rfl)) (@pe_andN _ _ _ _ _ _ _ (@pe_cmpR _ _ _ _ _ _ _ _ (op_qEq hr.units) (@pe_callB _ _ _ _ _ _ _ ("len") _ call_qLen (by rfl) T.z_len (by decide +kernel) (@pa_c _ _ _ _ _ (@pvN _ 0 _ _ (by rfl) (by trivial) (by decide) (by decide)) (@pa_nil _) (by rfl)) (by decide) (by decide) (by rfl) (by rfl)) (@pe_int _ _ _ _) (nomark _)) (@pe_andN _ _ _ _ _ _ _ (@pe_call _ _ _ _ _ _ _ _ _ _ _ _ _ _ _ _ G_is_size (hr.mono (by decide)) (by rfl) T.m_is_size T.F_is_size.kp T.b_is_size .nil pass0 (@pa_c _ _ _ _ _ (@pe_ix _ _ _ _ _ _ _ ix_q (@pvN _ 0 _ _ (by rfl) (by trivial) (by decide) (by decide)) (@pe_int _ _ _ _) (fun _ _=>rfl)) (@pa_nil _) (by rfl)) (by decide) (by rfl) (by rfl)) (@pe_one _ _ _ _ _ (@pe_call _ _ _ _ _ _ _ _ _ _ _ _ _ _ _ _ G_is_whole (hr.mono (by decide)) (by rfl) T.m_is_whole T.F_is_whole.kp T.b_is_whole .nil pass0 (@pa_c _ _ _ _ _ (@pe_ix _ _ _ _ _ _ _ ix_q (@pvN _ 0 _ _ (by rfl) (by trivial) (by decide) (by decide)) (@pe_int _ _ _ _) (fun _ _=>rfl)) (@pa_nil _) (by rfl)) (by decide) (by rfl) (by rfl)))))))),?_⟩
  rw [show start ["thing"] [.ref p]=[some (.ref p)] from rfl]
  simp! only [↓c_spSize,↓c_spWhole]
abbrev B_spKept  (p:Addr) (H:Hp) (Q:VK) (E:XK):Prop:=∃ a:Int × Int,H p=some (.tup [.int a.1,.int a.2])∧∀ (r:Addr) (H':Hp),H r=none->Ext H H'->H' r=some (.tup [.int (keptA a).1,.int (keptA a).2])->Q (.ref r) H'
def spKept  : Sp:=fun vs H Q E=>∃ (p:Addr),vs=[.ref p]∧(B_spKept  p H Q E)
theorem c_spKept  (p:Addr) (H:Hp) (Q:VK) (E:XK):spKept  [.ref p] H Q E=(B_spKept  p H Q E):=spx1 (f:=fun (p:Addr)=>[.ref p]) (fun _ _ h=>by cases h;exact rfl) p
theorem l_spKept  {vs:List V}{H:Hp}{Q:VK}{E:XK}(h:spKept  vs H Q E):vs.length=1:=spl1 h fun _=>rfl
theorem ok_kept_axis (T:Tx K mg t):FnOk P w K mg base CX0 1 t.a_kept_axis t.d_kept_axis ["axis"] spKept:=by
 refine T.F_kept_axis.ok c_kept_axis (fun vs H Q E h=>l_spKept h) (fun cdv A outer s H vs Q E hr h=>?_)
 ·obtain ⟨p,rfl,a,hp,k⟩:=h
  refine ⟨_,(@pss_one _ _ _ (@ps_ret _ _ _ _ (@pe_qTup _ _ _ _ _ (@pa_c _ _ _ _ _ (@pe_ix _ _ _ _ _ _ _ ix_q (@pvN _ 0 _ _ (by rfl) (by trivial) (by decide) (by decide)) (@pe_int _ _ _ _) (fun _ _=>rfl)) (@pa_c _ _ _ _ _ (@pe_ifExp _ _ _ _ _ _ _ _ (@pt_cmpRN _ _ _ _ _ _ _ _ on_gt (@pe_ix _ _ _ _ _ _ _ ix_q (@pvN _ 0 _ _ (by rfl) (by trivial) (by decide) (by decide)) (@pe_int _ _ _ _) (fun _ _=>rfl)) (@pe_int _ _ _ _) (nomark _)) (@pe_ix _ _ _ _ _ _ _ ix_q (@pvN _ 0 _ _ (by rfl) (by trivial) (by decide) (by decide)) (@pe_int _ _ _ _) (fun _ _=>rfl)) (@pe_int _ _ _ _)) (@pa_nil _) (by rfl)) (by rfl))))),?_⟩
  rw [show start ["axis"] [.ref p]=[some (.ref p)] from rfl]
  have e1:(keptA a).1=a.1:=rfl
  by_cases h1:1 < a.1
  ·have e2:(keptA a).2=a.2:=if_pos h1
   rw [e1,e2] at k
   simp! only [and_true]
   exact fun r H' h e h'=>k r H' h e h'
  ·have e2:(keptA a).2=0:=if_neg h1
   rw [e1,e2] at k
   simp! only [and_true]
   exact fun r H' h e h'=>k r H' h e h'
abbrev B_spAxes  (p:Addr) (H:Hp) (Q:VK) (E:XK):Prop:=∃ axs:List (Int × Int),TupsAt H p (axL axs)∧Axes axs∧∀ H',Ext H H'->Q (.bl true) H'
def spAxes  : Sp:=fun vs H Q E=>∃ (p:Addr),vs=[.ref p]∧(B_spAxes  p H Q E)
theorem c_spAxes  (p:Addr) (H:Hp) (Q:VK) (E:XK):spAxes  [.ref p] H Q E=(B_spAxes  p H Q E):=spx1 (f:=fun (p:Addr)=>[.ref p]) (fun _ _ h=>by cases h;exact rfl) p
theorem l_spAxes  {vs:List V}{H:Hp}{Q:VK}{E:XK}(h:spAxes  vs H Q E):vs.length=1:=spl1 h fun _=>rfl
theorem ok_are_axes (T:Tx K mg t):FnOk P w K mg base CX0 5 t.a_are_axes t.d_are_axes ["thing"] spAxes:=by
 have G_is_axis:=ok_is_axis (P:=P) (w:=w) (base:=base) T
 refine T.F_are_axes.ok c_are_axes (fun vs H Q E h=>l_spAxes h) (fun cdv A outer s H vs Q E hr h=>?_)
 ·obtain ⟨p,rfl,axs,⟨ys,hp,al⟩,ha,k⟩:=h
  refine ⟨_,(@pss_one _ _ _ (@ps_ret _ _ _ _ (@pe_andN _ _ _ _ _ _ _ (@pe_callB _ _ _ _ _ _ _ ("isinstance") _ call_qIsi (by rfl) T.z_isinstance (by decide +kernel) (@pa_c _ _ _ _ _ (@pvN _ 0 _ _ (by rfl) (by trivial) (by decide) (by decide)) (@pa_c _ _ _ _ _ (@pe_bltn _ _ (.ty "list") (.type "list") _ (by rfl) T.z_list (by decide +kernel) rfl (by decide) (by decide)) (@pa_nil _) (by rfl)) (by rfl)) (by decide) (by decide) (by rfl) (by rfl)) (@pe_andN _ _ _ _ _ _ _ (@pe_cmpR _ _ _ _ _ _ _ _ on_le (@pe_callB _ _ _ _ _ _ _ ("len") _ call_qLen (by rfl) T.z_len (by decide +kernel) (@pa_c _ _ _ _ _ (@pvN _ 0 _ _ (by rfl) (by trivial) (by decide) (by decide)) (@pa_nil _) (by rfl)) (by decide) (by decide) (by rfl) (by rfl)) (@pe_glob _ _ (.int 8) _ _ (by rfl) T.m_MOST_AXES.choose_spec ⟨_,rfl⟩ (by decide)) (nomark _)) (@pe_one _ _ _ _ _ (@pe_callB _ _ _ _ _ _ _ ("all") _ (call_qAll rfl) (by rfl) T.z_all (by decide +kernel) (@pa_c _ _ _ _ _ (@pe_comp _ _ _ _ _ _ _ _ _ _ _ (["axis", "thing"]) (1) (comp_ok (defScope s_are_axes) ["thing"] rfl rfl (by decide +kernel)) rfl (@pi_seq _ _ _ _ (@pvN _ 0 _ _ (by rfl) (by trivial) (by decide) (by decide))) (fun C s₀ H₀ ex pn=>(@pg_name _ _ (0) _ (show List.Nodup (["axis", "thing"]:List Str) from by decide +kernel) rfl (Or.inl rfl) (by trivial))) (fun C s₀ H₀ ex pn=>(@pts_nil _)) (fun C s₀ H₀ ex pn=>(@pe_call _ _ _ _ _ _ _ _ _ _ _ _ _ _ _ _ G_is_axis (hr.mono (by decide)) (by rfl) T.m_is_axis T.F_is_axis.kp T.b_is_axis .nil pass0 (@pa_c _ _ _ _ _ (@pvN _ 0 _ _ (by rfl) (by trivial) (by decide) (by decide)) (@pa_nil _) (by rfl)) (by decide) (by rfl) (by rfl))) (by intros;rfl)) (@pa_nil _) (by rfl)) (by decide) (by decide) (by rfl) (by rfl))))))),?_⟩
  rw [show start ["thing"] [.ref p]=[some (.ref p)] from rfl]
  have hl:ys.length=axs.length:=by rw [al.1];unfold axL;rw [List.length_map]
  have hl8:(axs.length:Int)≤8:=by have:=ha.1;omega
  simp! only [and_true]
  refine comp_fm ys (fun _=>true) (fun _=>.bl true) (fun z x H'=>x=z∧H' p=some (.lst ys)) (wk_lst hp).1 (wk_lst hp).2 (len5000 (by omega)) ?_ ?_
  ·intro D z x H' N1 N0 hz hD e ⟨hx,_⟩ k1 _
   subst hx
   obtain ⟨i,hi,rfl⟩:=List.getElem_of_mem hz
   have hi':i < axs.length:=by rw [←hl];exact hi
   obtain ⟨q,hq1,hq2⟩:=al.2 i [axs[i].1,axs[i].2] ys[i] (by unfold axL;rw [List.getElem?_map,List.getElem?_eq_getElem hi'];rfl) (List.getElem?_eq_getElem hi)
   have hb:=ha.2 _ (List.getElem_mem hi')
   have k1':=k1 rfl H' (Ext.refl _)
   have hq3:=e.at hq2
   rw [hq1]
   clear k1 k hp al
   simp! only [↓m_kCm_1,↓m_kCm2]
   rw [c_spAxis]
   exact ⟨axs[i],hq3,hb.1,hb.2,k1'⟩
  ·intro D H' hD e hD'
   have hD2:H' D=some (.lst ((ys.map fun _=>true).map V.bl)):=by rw [hD',filt,List.map_map];rfl
   have e2:((ys.map fun _=>true).all id)=true:=by rw [List.all_map];simp
   have k2:=k H' e
   clear k hD'
   simp! only [and_true]
theorem getElem?_zs {zs:List (List Int)}{ys:List V}{H:Hp}(al:Al (TupV H) zs ys){i:Nat}{y:V}(h:ys[i]? = some y):∃ z,zs[i]? = some z∧TupV H z y:=by
 have hi:i < ys.length:=(List.getElem?_eq_some_iff.mp h).1
 have hz:zs[i]? = some (zs[i]'(by rw [←al.1];exact hi)):=List.getElem?_eq_getElem _
 exact ⟨_,hz,al.2 i _ y hz h⟩
abbrev B_spLong (cT:Addr) (n:Int) (H:Hp) (Q:VK) (E:XK):Prop:=(n≤4096->Q .non H)∧¬ 4096 < n
def spLong (cT:Addr):Sp:=fun vs H Q E=>∃ (n:Int),vs=[.int n]∧(B_spLong cT n H Q E)
theorem c_spLong (cT:Addr) (n:Int) (H:Hp) (Q:VK) (E:XK):spLong cT [.int n] H Q E=(B_spLong cT n H Q E):=spx1 (f:=fun (n:Int)=>[.int n]) (fun _ _ h=>by cases h;exact rfl) n
theorem l_spLong (cT:Addr){vs:List V}{H:Hp}{Q:VK}{E:XK}(h:spLong cT vs H Q E):vs.length=1:=spl1 h fun _=>rfl
theorem ok_refuse_long (T:Tx K mg t):FnOk P w K mg base CX0 3 t.a_refuse_long t.d_refuse_long ["count"] (spLong t.a_TooMany):=by
 refine T.F_refuse_long.ok c_refuse_long (fun vs H Q E h=>l_spLong _ h) (fun cdv A outer s H vs Q E hr h=>?_)
 ·obtain ⟨n,rfl,k1,hn⟩:=h
  refine ⟨_,(@pss_one _ _ _ (@ps_if _ _ _ _ _ _ _ _ (@pt_cmpRN _ _ _ _ _ _ _ _ on_gt (@pvN _ 0 _ _ (by rfl) (by trivial) (by decide) (by decide)) (@pe_glob _ _ (.int 4096) _ _ (by rfl) T.m_MOST_TOLD.choose_spec ⟨_,rfl⟩ (by decide)) (nomark _)) (@pss_one _ _ _ (@ps_never _ _)) (@pss_nil _))),?_⟩
  rw [show start ["count"] [.int n]=[some (.int n)] from rfl]
  have k1':=k1 (by omega)
  clear k1
  simp! only [and_true]
theorem min0 (x:Int):min 0 x=if x < 0 then x else 0:=by split<;>omega
theorem max0 (x:Int):max 0 x=if 0 < x then x else 0:=by split<;>omega
structure ViewAt (C:Addr) (H:Hp) (v:Addr) (room first:Int) (axs:List (Int × Int)):Prop where
 ob:∃ dx l,H v=some (.ins C dx (viewF room first l))∧TupsAt H l (axL axs)
theorem ViewAt.ext {C:Addr}{H H':Hp}{v:Addr}{room first:Int}{axs:List (Int × Int)}(h:ViewAt C H v room first axs) (e:Ext H H'):ViewAt C H' v room first axs:=by
 obtain ⟨dx,l,h1,h2⟩:=h.ob
 exact ⟨⟨dx,l,e.at h1,h2.ext e⟩⟩
theorem ne_no {m:Str}(h:m∈([("sizes":Str), "paces", "count", "cell", "cell_at", "cells", "least", "greatest"]:List Str)):¬ m = "axes" ∧ ¬ m = "first" ∧ ¬ m = "room":=by
 revert m
 decide +kernel
theorem vn (room first:Int) (l:Addr){m:Str}(h:m∈([("sizes":Str), "paces", "count", "cell", "cell_at", "cells", "least", "greatest"]:List Str)):(viewF room first l).lookup m=none:=viewF_no room first l (ne_no h).1 (ne_no h).2.1 (ne_no h).2.2
theorem al_ax {H:Hp}{axs:List (Int × Int)}{ys:List V}(al:Al (TupV H) (axL axs) ys){i:Nat}{y:V}(h:ys[i]? = some y):∃ a q,axs[i]? = some a∧y=.ref q∧H q=some (.tup [.int a.1,.int a.2]):=by
 obtain ⟨z,hz,q,hq,hq2⟩:=getElem?_zs al h
 unfold axL at hz
 rw [List.getElem?_map] at hz
 obtain ⟨a,ha,rfl⟩:=Option.map_eq_some_iff.mp hz
 exact ⟨a,q,ha,hq,hq2⟩
abbrev B_spLeast (C:Addr) (v:Addr) (H:Hp) (Q:VK) (E:XK):Prop:=∃ (room first:Int) (axs:List (Int × Int)),ViewAt C H v room first axs∧Axes axs∧∀ H',Ext H H'->Q (.int (first+leastL axs)) H'
def spLeast (C:Addr):Sp:=fun vs H Q E=>∃ (v:Addr),vs=[.ref v]∧(B_spLeast C v H Q E)
theorem c_spLeast (C:Addr) (v:Addr) (H:Hp) (Q:VK) (E:XK):spLeast C [.ref v] H Q E=(B_spLeast C v H Q E):=spx1 (f:=fun (v:Addr)=>[.ref v]) (fun _ _ h=>by cases h;exact rfl) v
theorem l_spLeast (C:Addr){vs:List V}{H:Hp}{Q:VK}{E:XK}(h:spLeast C vs H Q E):vs.length=1:=spl1 h fun _=>rfl
theorem ok_View_least (T:Tx K mg t):FnOk P w K mg base CX0 1 t.a_View_least t.d_View_least ["self"] (spLeast t.a_View):=by
 refine T.F_View_least.ok c_View_least (fun vs H Q E h=>l_spLeast _ h) (fun cdv A outer s H vs Q E hr h=>?_)
 ·obtain ⟨v,rfl,room,first,axs,vo,hax,k⟩:=h
  obtain ⟨dx,l,hv,ys,hl,al⟩:=vo.ob
  have c1:=T.cl_View
  have c2:=T.na_View_first
  have c3:=T.na_View_axes
  have f1:=viewF_first room first l
  have f2:=viewF_axes room first l
  refine ⟨_,(@pss_one _ _ _ (@ps_ret _ _ _ _ (@pe_op _ _ _ _ _ _ _ _ on_add (@pe_nFld _ _ _ _ _ (@pvN _ 0 _ _ (by rfl) (by trivial) (by decide) (by decide)) rfl) (@pe_callB _ _ _ _ _ _ _ ("sum") _ (call_qSum rfl) (by rfl) T.z_sum (by decide +kernel) (@pa_c _ _ _ _ _ (@pe_comp _ _ _ _ _ _ _ _ _ _ _ (["size", "pace", "self"]) (2) (comp_ok (defScope s_View_least) ["self"] rfl rfl (by decide +kernel)) rfl (@pi_seq _ _ _ _ (@pe_nFld _ _ _ _ _ (@pvN _ 0 _ _ (by rfl) (by trivial) (by decide) (by decide)) rfl)) (fun C s₀ H₀ ex pn=>((@pg_tup _ _ _ _ _ (2) rfl (@pgs_consN _ _ _ _ _ (@pg_name _ _ (0) _ (show List.Nodup (["size", "pace", "self"]:List Str) from by decide +kernel) rfl (Or.inl rfl) (by trivial)) (@pgs_consN _ _ _ _ _ (@pg_name _ _ (1) _ (show List.Nodup (["size", "pace", "self"]:List Str) from by decide +kernel) rfl (Or.inl rfl) (by trivial)) (@pgs_nilN _) (by rfl)) (by rfl)) (by rfl) (by rfl)).mono fun _ _ _ _ h=>gTup_q h)) (fun C s₀ H₀ ex pn=>(@pts_nil _)) (fun C s₀ H₀ ex pn=>(@pe_callB _ _ _ _ _ _ _ ("min") _ (call_qMin rfl) (by rfl) T.z_min (by decide +kernel) (@pa_c _ _ _ _ _ (@pe_int _ _ _ _) (@pa_c _ _ _ _ _ (@pe_op _ _ _ _ _ _ _ _ on_mul (@pe_op _ _ _ _ _ _ _ _ on_sub (@pvN _ 0 _ _ (by rfl) (by trivial) (by decide) (by decide)) (@pe_int _ _ _ _)) (@pvN _ 1 _ _ (by rfl) (by trivial) (by decide) (by decide))) (@pa_nil _) (by rfl)) (by rfl)) (by decide) (by decide) (by rfl) (by rfl))) (by intros;rfl)) (@pa_nil _) (by rfl)) (by decide) (by decide) (by rfl) (by rfl))))),?_⟩
  rw [show start ["self"] [.ref v]=[some (.ref v)] from rfl]
  simp! only [and_true]
  have wk:=wk_al (K:=K) (R:=axP) (fun _ _ _ _ h e=>h.ext e) hl (al_axP al)
  refine comp_fm axs (fun _=>true) (fun a=>.int (min 0 ((a.1 - 1) * a.2))) axP wk.1 wk.2 (len5000 (by have:=hax.1;omega)) ?_ ?_
  ·intro D a x H' N1 N0 ha hD e ⟨q,hx,hq⟩ k1 _
   subst hx
   have hb:=hax.2 a ha
   have k1':=k1 rfl H' (Ext.refl _)
   have hcm:CMul (a.1 - 1) a.2:=.inl ⟨by omega,by omega⟩
   rw [min0] at k1'
   clear k1 k
   simp! only [↓m_kCm_2,↓m_kCm2]
  ·intro D H' hD e hD'
   have hD2:H' D=some (.lst ((axs.map fun a=>min 0 ((a.1 - 1) * a.2)).map V.int)):=by rw [hD',filt,List.map_map];rfl
   have k2:Q (.int (first+(axs.map fun a=>min 0 ((a.1 - 1) * a.2)).sum)) H':=k H' e
   clear k hD'
   simp! only [and_true]
abbrev B_spGreatest (C:Addr) (v:Addr) (H:Hp) (Q:VK) (E:XK):Prop:=∃ (room first:Int) (axs:List (Int × Int)),ViewAt C H v room first axs∧Axes axs∧∀ H',Ext H H'->Q (.int (first+greatL axs)) H'
def spGreatest (C:Addr):Sp:=fun vs H Q E=>∃ (v:Addr),vs=[.ref v]∧(B_spGreatest C v H Q E)
theorem c_spGreatest (C:Addr) (v:Addr) (H:Hp) (Q:VK) (E:XK):spGreatest C [.ref v] H Q E=(B_spGreatest C v H Q E):=spx1 (f:=fun (v:Addr)=>[.ref v]) (fun _ _ h=>by cases h;exact rfl) v
theorem l_spGreatest (C:Addr){vs:List V}{H:Hp}{Q:VK}{E:XK}(h:spGreatest C vs H Q E):vs.length=1:=spl1 h fun _=>rfl
theorem ok_View_greatest (T:Tx K mg t):FnOk P w K mg base CX0 1 t.a_View_greatest t.d_View_greatest ["self"] (spGreatest t.a_View):=by
 refine T.F_View_greatest.ok c_View_greatest (fun vs H Q E h=>l_spGreatest _ h) (fun cdv A outer s H vs Q E hr h=>?_)
 ·obtain ⟨v,rfl,room,first,axs,vo,hax,k⟩:=h
  obtain ⟨dx,l,hv,ys,hl,al⟩:=vo.ob
  have c1:=T.cl_View
  have c2:=T.na_View_first
  have c3:=T.na_View_axes
  have f1:=viewF_first room first l
  have f2:=viewF_axes room first l
  refine ⟨_,(@pss_one _ _ _ (@ps_ret _ _ _ _ (@pe_op _ _ _ _ _ _ _ _ on_add (@pe_nFld _ _ _ _ _ (@pvN _ 0 _ _ (by rfl) (by trivial) (by decide) (by decide)) rfl) (@pe_callB _ _ _ _ _ _ _ ("sum") _ (call_qSum rfl) (by rfl) T.z_sum (by decide +kernel) (@pa_c _ _ _ _ _ (@pe_comp _ _ _ _ _ _ _ _ _ _ _ (["size", "pace", "self"]) (2) (comp_ok (defScope s_View_greatest) ["self"] rfl rfl (by decide +kernel)) rfl (@pi_seq _ _ _ _ (@pe_nFld _ _ _ _ _ (@pvN _ 0 _ _ (by rfl) (by trivial) (by decide) (by decide)) rfl)) (fun C s₀ H₀ ex pn=>((@pg_tup _ _ _ _ _ (2) rfl (@pgs_consN _ _ _ _ _ (@pg_name _ _ (0) _ (show List.Nodup (["size", "pace", "self"]:List Str) from by decide +kernel) rfl (Or.inl rfl) (by trivial)) (@pgs_consN _ _ _ _ _ (@pg_name _ _ (1) _ (show List.Nodup (["size", "pace", "self"]:List Str) from by decide +kernel) rfl (Or.inl rfl) (by trivial)) (@pgs_nilN _) (by rfl)) (by rfl)) (by rfl) (by rfl)).mono fun _ _ _ _ h=>gTup_q h)) (fun C s₀ H₀ ex pn=>(@pts_nil _)) (fun C s₀ H₀ ex pn=>(@pe_callB _ _ _ _ _ _ _ ("max") _ (call_qMax rfl) (by rfl) T.z_max (by decide +kernel) (@pa_c _ _ _ _ _ (@pe_int _ _ _ _) (@pa_c _ _ _ _ _ (@pe_op _ _ _ _ _ _ _ _ on_mul (@pe_op _ _ _ _ _ _ _ _ on_sub (@pvN _ 0 _ _ (by rfl) (by trivial) (by decide) (by decide)) (@pe_int _ _ _ _)) (@pvN _ 1 _ _ (by rfl) (by trivial) (by decide) (by decide))) (@pa_nil _) (by rfl)) (by rfl)) (by decide) (by decide) (by rfl) (by rfl))) (by intros;rfl)) (@pa_nil _) (by rfl)) (by decide) (by decide) (by rfl) (by rfl))))),?_⟩
  rw [show start ["self"] [.ref v]=[some (.ref v)] from rfl]
  simp! only [and_true]
  have wk:=wk_al (K:=K) (R:=axP) (fun _ _ _ _ h e=>h.ext e) hl (al_axP al)
  refine comp_fm axs (fun _=>true) (fun a=>.int (max 0 ((a.1 - 1) * a.2))) axP wk.1 wk.2 (len5000 (by have:=hax.1;omega)) ?_ ?_
  ·intro D a x H' N1 N0 ha hD e ⟨q,hx,hq⟩ k1 _
   subst hx
   have hb:=hax.2 a ha
   have k1':=k1 rfl H' (Ext.refl _)
   have hcm:CMul (a.1 - 1) a.2:=.inl ⟨by omega,by omega⟩
   rw [max0] at k1'
   clear k1 k
   simp! only [↓m_kCm_2,↓m_kCm2]
  ·intro D H' hD e hD'
   have hD2:H' D=some (.lst ((axs.map fun a=>max 0 ((a.1 - 1) * a.2)).map V.int)):=by rw [hD',filt,List.map_map];rfl
   have k2:Q (.int (first+(axs.map fun a=>max 0 ((a.1 - 1) * a.2)).sum)) H':=k H' e
   clear k hD'
   simp! only [and_true]
def kSzs (H:Hp) (Q:VK) (f:Int × Int->Int) (axs:List (Int × Int)):Prop:=∀ (r:Addr) (H':Hp),H r=none->Ext H H'->H' r=some (.lst ((axs.map f).map V.int))->Q (.ref r) H'
abbrev B_spVSizes (C:Addr) (v:Addr) (H:Hp) (Q:VK) (E:XK):Prop:=∃ (room first:Int) (axs:List (Int × Int)),ViewAt C H v room first axs∧axs.length≤8∧kSzs H Q (fun a=>a.1) axs
def spVSizes (C:Addr):Sp:=fun vs H Q E=>∃ (v:Addr),vs=[.ref v]∧(B_spVSizes C v H Q E)
theorem c_spVSizes (C:Addr) (v:Addr) (H:Hp) (Q:VK) (E:XK):spVSizes C [.ref v] H Q E=(B_spVSizes C v H Q E):=spx1 (f:=fun (v:Addr)=>[.ref v]) (fun _ _ h=>by cases h;exact rfl) v
theorem l_spVSizes (C:Addr){vs:List V}{H:Hp}{Q:VK}{E:XK}(h:spVSizes C vs H Q E):vs.length=1:=spl1 h fun _=>rfl
theorem ok_View_sizes (T:Tx K mg t):FnOk P w K mg base CX0 1 t.a_View_sizes t.d_View_sizes ["self"] (spVSizes t.a_View):=by
 refine T.F_View_sizes.ok c_View_sizes (fun vs H Q E h=>l_spVSizes _ h) (fun cdv A outer s H vs Q E hr h=>?_)
 ·obtain ⟨v,rfl,room,first,axs,vo,hax,k⟩:=h
  obtain ⟨dx,l,hv,ys,hl,al⟩:=vo.ob
  have c1:=T.cl_View
  have c3:=T.na_View_axes
  have f2:=viewF_axes room first l
  refine ⟨_,(@pss_one _ _ _ (@ps_ret _ _ _ _ (@pe_comp _ _ _ _ _ _ _ _ _ _ _ (["size", "pace", "self"]) (2) (comp_ok (defScope s_View_sizes) ["self"] rfl rfl (by decide +kernel)) rfl (@pi_seq _ _ _ _ (@pe_nFld _ _ _ _ _ (@pvN _ 0 _ _ (by rfl) (by trivial) (by decide) (by decide)) rfl)) (fun C s₀ H₀ ex pn=>((@pg_tup _ _ _ _ _ (2) rfl (@pgs_consN _ _ _ _ _ (@pg_name _ _ (0) _ (show List.Nodup (["size", "pace", "self"]:List Str) from by decide +kernel) rfl (Or.inl rfl) (by trivial)) (@pgs_consN _ _ _ _ _ (@pg_name _ _ (1) _ (show List.Nodup (["size", "pace", "self"]:List Str) from by decide +kernel) rfl (Or.inl rfl) (by trivial)) (@pgs_nilN _) (by rfl)) (by rfl)) (by rfl) (by rfl)).mono fun _ _ _ _ h=>gTup_q h)) (fun C s₀ H₀ ex pn=>(@pts_nil _)) (fun C s₀ H₀ ex pn=>(@pvN _ 0 _ _ (by rfl) (by trivial) (by decide) (by decide))) (by intros;rfl)))),?_⟩
  rw [show start ["self"] [.ref v]=[some (.ref v)] from rfl]
  simp! only [and_true]
  have wk:=wk_al (K:=K) (R:=axP) (fun _ _ _ _ h e=>h.ext e) hl (al_axP al)
  refine comp_fm axs (fun _=>true) (fun a=>.int a.1) axP wk.1 wk.2 (len5000 (by omega)) ?_ ?_
  ·intro D a x H' N1 N0 ha hD e ⟨q,hx,hq⟩ k1 _
   subst hx
   have k1':=k1 rfl H' (Ext.refl _)
   clear k1 k
   simp! only [↓m_kCm_2,↓m_kCm2]
  ·intro D H' hD e hD'
   exact k D H' hD e (by rw [hD',filt,List.map_map];rfl)
abbrev B_spVPaces (C:Addr) (v:Addr) (H:Hp) (Q:VK) (E:XK):Prop:=∃ (room first:Int) (axs:List (Int × Int)),ViewAt C H v room first axs∧axs.length≤8∧kSzs H Q (fun a=>a.2) axs
def spVPaces (C:Addr):Sp:=fun vs H Q E=>∃ (v:Addr),vs=[.ref v]∧(B_spVPaces C v H Q E)
abbrev B_spVCount (C:Addr) (v:Addr) (H:Hp) (Q:VK) (E:XK):Prop:=∃ (room first:Int) (axs:List (Int × Int)),ViewAt C H v room first axs∧Axes axs∧∀ H',Ext H H'->Q (.int (prodL (axs.map fun a=>a.1))) H'
def spVCount (C:Addr):Sp:=fun vs H Q E=>∃ (v:Addr),vs=[.ref v]∧(B_spVCount C v H Q E)
theorem c_spVCount (C:Addr) (v:Addr) (H:Hp) (Q:VK) (E:XK):spVCount C [.ref v] H Q E=(B_spVCount C v H Q E):=spx1 (f:=fun (v:Addr)=>[.ref v]) (fun _ _ h=>by cases h;exact rfl) v
theorem l_spVCount (C:Addr){vs:List V}{H:Hp}{Q:VK}{E:XK}(h:spVCount C vs H Q E):vs.length=1:=spl1 h fun _=>rfl
theorem ok_View_count (T:Tx K mg t):FnOk P w K mg base CX0 2 t.a_View_count t.d_View_count ["self"] (spVCount t.a_View):=by
 have G_View_sizes:=ok_View_sizes (P:=P) (w:=w) (base:=base) T
 have G_count_of:=ok_count_of (P:=P) (w:=w) (base:=base) T
 refine T.F_View_count.ok c_View_count (fun vs H Q E h=>l_spVCount _ h) (fun cdv A outer s H vs Q E hr h=>?_)
 ·obtain ⟨v,rfl,room,first,axs,vo,hax,k⟩:=h
  obtain ⟨dx,l,hv,_⟩:=vo.ob
  have f3:=vn room first l (m := "sizes") (by decide +kernel)
  refine ⟨_,(@pss_one _ _ _ (@ps_ret _ _ _ _ (@pe_call _ _ _ _ _ _ _ _ _ _ _ _ _ _ _ _ G_count_of (hr.mono (by decide)) (by rfl) T.m_count_of T.F_count_of.kp T.b_count_of .nil pass0 (@pa_c _ _ _ _ _ (@pe_nMeth0 _ _ _ _ _ _ _ _ _ _ _ _ _ _ _ _ _ (@pvN _ 0 _ _ (by rfl) (by trivial) (by decide) (by decide)) T.cl_View T.mt_View_sizes G_View_sizes (hr.mono (by decide)) T.b_View_sizes .nil pass0 (by rfl)) (@pa_nil _) (by rfl)) (by decide) (by rfl) (by rfl)))),?_⟩
  rw [show start ["self"] [.ref v]=[some (.ref v)] from rfl]
  simp! only [and_true]
  rw [c_spVSizes]
  refine ⟨room,first,axs,vo,hax.1,fun r H' hr' e h'=>?_⟩
  have k':=k H' e
  have hsz:=hax.sizes
  clear k
  simp! only [↓c_spCount,↓m_kSz,↓x_kCnt]
def spVInit (C:Addr):Sp:=fun vs H Q E=>∃ (x:Addr) (room:Int) (first:Int) (l:Addr),vs=[.ref x,.int room,.int first,.ref l]∧(∃ (dx:Addr) (axs:List (Int × Int)),H x=some (.ins C dx [])∧TupsAt H l (axL axs)∧ViewOk room first axs∧∀ (H':Hp) (D:Addr),(∀ H0,Ext H0 H->H0 x=none->Ext H0 H')->H D=none->H' x=some (.ins C dx (viewF room first D))->TupsAt H' D (axL (axs.map keptA))->Q .non H')
theorem c_spVInit (C:Addr) (x:Addr) (room:Int) (first:Int) (l:Addr) (H:Hp) (Q:VK) (E:XK):spVInit C [.ref x,.int room,.int first,.ref l] H Q E=(∃ (dx:Addr) (axs:List (Int × Int)),H x=some (.ins C dx [])∧TupsAt H l (axL axs)∧ViewOk room first axs∧∀ (H':Hp) (D:Addr),(∀ H0,Ext H0 H->H0 x=none->Ext H0 H')->H D=none->H' x=some (.ins C dx (viewF room first D))->TupsAt H' D (axL (axs.map keptA))->Q .non H'):=spx4 (f:=fun (x:Addr) (room:Int) (first:Int) (l:Addr)=>[.ref x,.int room,.int first,.ref l]) (fun _ _ _ _ _ _ _ _ h=>by cases h;exact ⟨rfl,rfl,rfl,rfl⟩) x room first l
theorem l_spVInit (C:Addr){vs:List V}{H:Hp}{Q:VK}{E:XK}(h:spVInit C vs H Q E):vs.length=4:=spl4 h fun _ _ _ _=>rfl
theorem ok_View___init__ (T:Tx K mg t):FnOk P w K mg base CX0 6 t.a_View___init__ t.d_View___init__ ["self", "room", "first", "axes"] (spVInit t.a_View):=by
 have G_is_within:=ok_is_within (P:=P) (w:=w) (base:=base) T
 have G_is_whole:=ok_is_whole (P:=P) (w:=w) (base:=base) T
 have G_are_axes:=ok_are_axes (P:=P) (w:=w) (base:=base) T
 have G_kept_axis:=ok_kept_axis (P:=P) (w:=w) (base:=base) T
 have G_View_least:=ok_View_least (P:=P) (w:=w) (base:=base) T
 have G_View_greatest:=ok_View_greatest (P:=P) (w:=w) (base:=base) T
 refine T.F_View___init__.ok c_View___init__ (fun vs H Q E h=>l_spVInit _ h) (fun cdv A outer s H vs Q E hr h=>?_)
 ·obtain ⟨x,room,first,l,rfl,dx,axs,hx,tl,vok,k⟩:=h
  have c1:=T.cl_View
  have c2:=T.na_View_first
  have c3:=T.na_View_axes
  have c4:=T.na_View_room
  refine ⟨_,(@pss_cons _ _ _ _ _ (@ps_if _ _ _ _ _ _ _ _ (PW.pt (@pw_or _ _ _ _ _ _ _ (@pt_not _ _ _ _ (@pt_valN _ _ _ (@pe_call _ _ _ _ _ _ _ _ _ _ _ _ _ _ _ _ G_is_within (hr.mono (by decide)) (by rfl) T.m_is_within T.F_is_within.kp T.b_is_within .nil pass0 (@pa_c _ _ _ _ _ (@pvN _ 1 _ _ (by rfl) (by trivial) (by decide) (by decide)) (@pa_c _ _ _ _ _ (@pe_int _ _ _ _) (@pa_c _ _ _ _ _ (@pe_glob _ _ (.int 1000000000000000000) _ _ (by rfl) T.m_MOST_ROOM.choose_spec ⟨_,rfl⟩ (by decide)) (@pa_nil _) (by rfl)) (by rfl)) (by rfl)) (by decide) (by rfl) (by rfl)) (by intros;rfl))) (@pw_or _ _ _ _ _ _ _ (@pt_not _ _ _ _ (@pt_valN _ _ _ (@pe_call _ _ _ _ _ _ _ _ _ _ _ _ _ _ _ _ G_is_whole (hr.mono (by decide)) (by rfl) T.m_is_whole T.F_is_whole.kp T.b_is_whole .nil pass0 (@pa_c _ _ _ _ _ (@pvN _ 2 _ _ (by rfl) (by trivial) (by decide) (by decide)) (@pa_nil _) (by rfl)) (by decide) (by rfl) (by rfl)) (by intros;rfl))) (@pw_or1 _ _ _ _ (@pt_not _ _ _ _ (@pt_valN _ _ _ (@pe_call _ _ _ _ _ _ _ _ _ _ _ _ _ _ _ _ G_are_axes (hr.mono (by decide)) (by rfl) T.m_are_axes T.F_are_axes.kp T.b_are_axes .nil pass0 (@pa_c _ _ _ _ _ (@pvN _ 3 _ _ (by rfl) (by trivial) (by decide) (by decide)) (@pa_nil _) (by rfl)) (by decide) (by rfl) (by rfl)) (by intros;rfl))))))) (@pss_one _ _ _ (@ps_never _ _)) (@pss_nil _)) (@pss_cons _ _ _ _ _ (@ps_nSetF _ _ _ _ _ _ _ _ (@pvN _ 0 _ _ (by rfl) (by trivial) (by decide) (by decide)) (@pvN _ 1 _ _ (by rfl) (by trivial) (by decide) (by decide)) rfl) (@pss_cons _ _ _ _ _ (@ps_nSetF _ _ _ _ _ _ _ _ (@pvN _ 0 _ _ (by rfl) (by trivial) (by decide) (by decide)) (@pvN _ 2 _ _ (by rfl) (by trivial) (by decide) (by decide)) rfl) (@pss_cons _ _ _ _ _ (@ps_nSetF _ _ _ _ _ _ _ _ (@pvN _ 0 _ _ (by rfl) (by trivial) (by decide) (by decide)) (@pe_comp _ _ _ _ _ _ _ _ _ _ _ (["axis", "self", "room", "first", "axes"]) (1) (comp_ok (defScope s_View___init__) ["self", "room", "first", "axes"] rfl rfl (by decide +kernel)) rfl (@pi_seq _ _ _ _ (@pvN _ 3 _ _ (by rfl) (by trivial) (by decide) (by decide))) (fun C s₀ H₀ ex pn=>(@pg_name _ _ (0) _ (show List.Nodup (["axis", "self", "room", "first", "axes"]:List Str) from by decide +kernel) rfl (Or.inl rfl) (by trivial))) (fun C s₀ H₀ ex pn=>(@pts_nil _)) (fun C s₀ H₀ ex pn=>(@pe_call _ _ _ _ _ _ _ _ _ _ _ _ _ _ _ _ G_kept_axis (hr.mono (by decide)) (by rfl) T.m_kept_axis T.F_kept_axis.kp T.b_kept_axis .nil pass0 (@pa_c _ _ _ _ _ (@pvN _ 0 _ _ (by rfl) (by trivial) (by decide) (by decide)) (@pa_nil _) (by rfl)) (by decide) (by rfl) (by rfl))) (by intros;rfl)) rfl) (@pss_one _ _ _ (@ps_if _ _ _ _ _ _ _ _ (PW.pt (@pw_or _ _ _ _ _ _ _ (@pt_cmpRN _ _ _ _ _ _ _ _ on_lt (@pe_nMeth0 _ _ _ _ _ _ _ _ _ _ _ _ _ _ _ _ _ (@pvN _ 0 _ _ (by rfl) (by trivial) (by decide) (by decide)) T.cl_View T.mt_View_least G_View_least (hr.mono (by decide)) T.b_View_least .nil pass0 (by rfl)) (@pe_int _ _ _ _) (nomark _)) (@pw_or1 _ _ _ _ (@pt_cmpRN _ _ _ _ _ _ _ _ on_ge (@pe_nMeth0 _ _ _ _ _ _ _ _ _ _ _ _ _ _ _ _ _ (@pvN _ 0 _ _ (by rfl) (by trivial) (by decide) (by decide)) T.cl_View T.mt_View_greatest G_View_greatest (hr.mono (by decide)) T.b_View_greatest .nil pass0 (by rfl)) (@pvN _ 1 _ _ (by rfl) (by trivial) (by decide) (by decide)) (nomark _))))) (@pss_one _ _ _ (@ps_never _ _)) (@pss_nil _))))))),?_⟩
  rw [show start ["self", "room", "first", "axes"] [.ref x,.int room,.int first,.ref l]=[some (.ref x),some (.int room),some (.int first),some (.ref l)] from rfl]
  have r1:=vok.r1
  have r2:=vok.r2
  simp! only [↓c_spWithin,↓c_spWhole]
  rw [c_spAxes]
  refine ⟨axs,tl,vok.ax,fun H1 e1=>?_⟩
  have hx1:=e1.at hx
  have tl1:=tl.ext e1
  clear hx tl
  simp! only [and_true]
  refine ⟨(show (1:Nat) < 1000 by decide),?_⟩
  obtain ⟨ys,hl1,al1⟩:=tl1
  have hlx:l ≠ x:=fun z=>by rw [z,hx1] at hl1;cases hl1
  have hx2:(upd H1 x (HO.ins t.a_View dx (putF "first" (V.int first) (putF "room" (V.int room) [])))) x=some (HO.ins t.a_View dx (putF "first" (V.int first) (putF "room" (V.int room) []))):=upd_same
  have hl2:(upd H1 x (HO.ins t.a_View dx (putF "first" (V.int first) (putF "room" (V.int room) [])))) l=some (.lst ys):=by rw [upd_ne hlx];exact hl1
  have al2:Al (fun a y=>axP a y (upd H1 x (HO.ins t.a_View dx (putF "first" (V.int first) (putF "room" (V.int room) []))))) axs ys:=(al_axP al1).imp fun a y ⟨q,hy,hq⟩=>⟨q,hy,by rw [upd_ne (fun z=>by rw [z,hx1] at hq;cases hq)];exact hq⟩
  have b2:∀ H0,Ext H0 H->H0 x=none->Ext H0 (upd H1 x (HO.ins t.a_View dx (putF "first" (V.int first) (putF "room" (V.int room) [])))):=fun H0 q0 q1=>(q0.trans e1).put q1
  have b3:∀ b,b ≠ x->(upd H1 x (HO.ins t.a_View dx (putF "first" (V.int first) (putF "room" (V.int room) [])))) b=none->H b=none:=fun b hb q=>by rw [upd_ne hb] at q;exact e1.free q
  generalize upd H1 x (HO.ins t.a_View dx (putF "first" (V.int first) (putF "room" (V.int room) [])))=H2 at hx2 hl2 al2 b2 b3
  clear hl1 al1 hx1
  simp! only [and_true]
  have wk:=wk_al (K:=K) (R:=axP) (fun _ _ _ _ h e=>h.ext e) hl2 al2
  refine comp_rel axs (fun _=>true) axP (fun D a y H'=>∃ q,y=.ref q∧q ≠ D∧H' q=some (.tup [.int (keptA a).1,.int (keptA a).2])) wk.1 wk.2 (fun D _ y H1 H2 ⟨q,h1,h2,h3⟩ e=>⟨q,h1,h2,e.at h3⟩) (fun D _ y H1 o ⟨q,h1,h2,h3⟩=>⟨q,h1,h2,by rw [upd_ne h2];exact h3⟩) (len5000 (by have:=vok.ax.1;omega)) ?_ ?_
  ·intro D a y H' N1 N0 ha hD e ⟨ys0,hys0⟩ ⟨q,hy,hq⟩ k1 _
   subst hy
   have k1':=k1 rfl
   clear k1 k
   simp! only [↓m_kCm_1,↓m_kCm2]
   rw [c_spKept]
   exact ⟨a,hq,fun r H'' hr' e' h'=>k1' _ H'' e' ⟨r,rfl,(fun z=>by rw [z,hys0] at hr';cases hr'),h'⟩⟩
  ·intro D zs H3 hD e3 hD3 al3
   rw [filt] at al3
   have hx3:=e3.at hx2
   have hDx:D ≠ x:=fun z=>by rw [z,hx2] at hD;cases hD
   clear wk
   simp! only [and_true]
   refine ⟨(show (2:Nat) < 1000 by decide),?_⟩
   have tt:TupsAt (upd H3 x (HO.ins t.a_View dx (viewF room first D))) D (axL (axs.map keptA)):=by
    refine ⟨zs,by rw [upd_ne hDx];exact hD3,?_,fun i z y hz hy=>?_⟩
    ·rw [al3.1];unfold axL;rw [List.length_map,List.length_map]
    ·unfold axL at hz
     rw [List.map_map,List.getElem?_map] at hz
     obtain ⟨a,ha,rfl⟩:=Option.map_eq_some_iff.mp hz
     obtain ⟨q,hq1,_,hq3⟩:=al3.2 i a y ha hy
     exact ⟨q,hq1,by rw [upd_ne (fun z=>by rw [z,hx3] at hq3;cases hq3)];exact hq3⟩
   have b4:∀ H0,Ext H0 H->H0 x=none->Ext H0 (upd H3 x (HO.ins t.a_View dx (viewF room first D))):=fun H0 q0 q1=>((b2 H0 q0 q1).trans e3).put q1
   have hx4:(upd H3 x (HO.ins t.a_View dx (viewF room first D))) x=some (HO.ins t.a_View dx (viewF room first D)):=upd_same
   have f1:=vn room first D (m := "least") (by decide +kernel)
   have f2:=vn room first D (m := "greatest") (by decide +kernel)
   refine ⟨f1,?_⟩
   show spLeast t.a_View [V.ref x] (upd H3 x (HO.ins t.a_View dx (viewF room first D))) _ _
   generalize upd H3 x (HO.ins t.a_View dx (viewF room first D))=H4 at tt b4 hx4
   have vo:ViewAt t.a_View H4 x room first (axs.map keptA):=⟨dx,D,hx4,tt⟩
   rw [c_spLeast]
   refine ⟨room,first,axs.map keptA,vo,vok.ax.kept,fun H5 e5=>?_⟩
   have hlo:¬ first+leastL (axs.map keptA) < 0:=by have:=vok.lo;omega
   have hx5:=e5.at hx4
   simp! only [and_true]
   rw [c_spGreatest]
   refine ⟨room,first,axs.map keptA,vo.ext e5,vok.ax.kept,fun H6 e6=>?_⟩
   have hhi:¬ room≤first+greatL (axs.map keptA):=by have:=vok.hi;omega
   have k':=k H6 D (fun H0 q0 q1=>((b4 H0 q0 q1).trans e5).trans e6) (b3 D hDx hD) (e6.at hx5) ((tt.ext e5).ext e6)
   clear k
   simp! only [and_true]
theorem wideL_take (cs:List Int) (a:Int × Int) (i:Nat) (c:Int) (h:cs[i]? = some c):wideL (cs.take (i+1)) a=wideL (cs.take i) a++(List.range a.1.toNat).map fun (n:Nat)=>c+(n:Int) * a.2:=by
 unfold wideL
 rw [List.take_add_one,h,List.flatMap_append]
 simp
abbrev B_spWidened  (p:Addr) (z:Int) (pc:Int) (H:Hp) (Q:VK) (E:XK):Prop:=∃ cs:List Int,H p=some (.lst (cs.map V.int))∧1≤z∧cs.length * z.toNat≤4096∧z≤1000000000∧∀ (r:Addr) (H':Hp),H r=none->Ext H H'->H' r=some (.lst ((wideL cs (z,pc)).map V.int))->Q (.ref r) H'
def spWidened  : Sp:=fun vs H Q E=>∃ (p:Addr) (z:Int) (pc:Int),vs=[.ref p,.int z,.int pc]∧(B_spWidened  p z pc H Q E)
theorem c_spWidened  (p:Addr) (z:Int) (pc:Int) (H:Hp) (Q:VK) (E:XK):spWidened  [.ref p,.int z,.int pc] H Q E=(B_spWidened  p z pc H Q E):=spx3 (f:=fun (p:Addr) (z:Int) (pc:Int)=>[.ref p,.int z,.int pc]) (fun _ _ _ _ _ _ h=>by cases h;exact ⟨rfl,rfl,rfl⟩) p z pc
theorem l_spWidened  {vs:List V}{H:Hp}{Q:VK}{E:XK}(h:spWidened  vs H Q E):vs.length=3:=spl3 h fun _ _ _=>rfl
theorem ok_widened (T:Tx K mg t):FnOk P w K mg base CX0 1 t.a_widened t.d_widened ["cells", "size", "pace"] spWidened:=by
 refine T.F_widened.ok c_widened (fun vs H Q E h=>l_spWidened h) (fun cdv A outer s H vs Q E hr h=>?_)
 ·obtain ⟨p,z,pc,rfl,cs,hp,hz,hln,hz2,k⟩:=h
  refine ⟨_,(@pss_cons _ _ _ _ _ (@ps_set _ _ (3) _ _ _ _ c_widened.nd rfl (Or.inl rfl) (@pe_qLst _ _ _ _ (@pa_nil _)) (by rfl) (by trivial)) (@pss_cons _ _ _ _ _ (@ps_for _ _ _ _ _ _ _ _ PassesOwn.never rfl (@pi_seq _ _ _ _ (@pvN _ 0 _ _ (by rfl) (by trivial) (by decide) (by decide))) (@pg_name _ _ (4) _ c_widened.nd rfl (Or.inr rfl) (by trivial)) (@pss_one _ _ _ (@ps_expr _ _ _ _ (@pe_bm _ _ _ _ _ _ _ _ _ _ _ _ PySem.F.plainAttrs_list PySem.F.slot_list_extend PySem.F.type_list_extend mt_extend (@pvN _ 3 _ _ (by rfl) (by trivial) (by decide) (by decide)) (@pa_c _ _ _ _ _ (@pe_comp _ _ _ _ _ _ _ _ _ _ _ (["number", "cells", "size", "pace", "found", "cell"]) (1) (comp_ok (defScope s_widened) ["cells", "size", "pace", "found", "cell"] rfl rfl (by decide +kernel)) rfl (@pi_range1 _ _ _ _ _ _ (by rfl) T.z_range (@pa_c _ _ _ _ _ (@pvN _ 1 _ _ (by rfl) (by trivial) (by decide) (by decide)) (@pa_nil _) (by rfl)) (by rfl)) (fun C s₀ H₀ ex pn=>(@pg_name _ _ (0) _ (show List.Nodup (["number", "cells", "size", "pace", "found", "cell"]:List Str) from by decide +kernel) rfl (Or.inl rfl) (by trivial))) (fun C s₀ H₀ ex pn=>(@pts_nil _)) (fun C s₀ H₀ ex pn=>(@pe_op _ _ _ _ _ _ _ _ on_add (@pvN _ 5 _ _ (by rfl) (by trivial) (by decide) (by decide)) (@pe_op _ _ _ _ _ _ _ _ on_mul (@pvN _ 0 _ _ (by rfl) (by trivial) (by decide) (by decide)) (@pvN _ 3 _ _ (by rfl) (by trivial) (by decide) (by decide))))) (by intros;rfl)) (@pa_nil _) (by rfl)) (by rfl) (by rfl) (by rfl) (by rfl) (by rfl)) (by rfl))) (by intros;rfl)) (@pss_one _ _ _ (@ps_ret _ _ _ _ (@pvN _ 3 _ _ (by rfl) (by trivial) (by decide) (by decide)))))),?_⟩
  rw [show start ["cells", "size", "pace", "found", "cell"] [.ref p,.int z,.int pc]=[some (.ref p),some (.int z),some (.int pc),none,none] from rfl]
  simp! only [and_true]
  intro r H1 hr1 e1 h1
  have hp1:=e1.at hp
  simp! only [and_true]
  refine for_lst (xs:=cs.map V.int) (fun i σ H'=>∃ v4:Option V,σ=[some (.ref p),some (.int z),some (.int pc),some (.ref r),v4]∧Ext H H'∧H' r=some (.lst ((wideL (cs.take i) (z,pc)).map V.int))) ⟨none,rfl,e1,h1⟩ (fun i σ H' _ ⟨_,_,e,_⟩=>e.at hp) ?_ ?_
  ·rintro i x _ H2 hi ⟨v4,rfl,e2,h2⟩
   rw [List.getElem?_map] at hi
   obtain ⟨c,hc,rfl⟩:=Option.map_eq_some_iff.mp hi
   have hil:i < cs.length:=(List.getElem?_eq_some_iff.mp hc).1
   have hzn:z.toNat≤4096:=by
    have:=Nat.mul_le_mul_right z.toNat (show 1≤cs.length by omega)
    omega
   have hwl:(wideL (cs.take i) (z,pc)).length+z.toNat≤4096:=by
    rw [wideL_len,List.length_take,show ((z,pc):Int × Int).1=z from rfl]
    have:(min i cs.length+1) * z.toNat≤cs.length * z.toNat:=Nat.mul_le_mul_right _ (by omega)
    rw [Nat.add_mul,Nat.one_mul] at this
    omega
   simp! only [↓m_kBody]
   refine ⟨by omega,by omega,?_⟩
   refine comp_fm (List.range z.toNat) (fun _=>true) (fun j=>.int (c+(j:Int) * pc)) (fun j x H'=>x=.int (0+(j:Nat))) wk_rng.1 wk_rng.2 (len5000 (by rw [List.length_range];omega)) ?_ ?_
   ·intro D j x H' N1 N0 hj hD e hx k1 _
    subst hx
    have hj':=List.mem_range.mp hj
    have k1':=k1 rfl H' (Ext.refl _)
    have hcm:CMul (j:Int) pc:=.inl (by omega)
    have e0:(0:Int)+(j:Int)=(j:Int):=Int.zero_add _
    clear k1 k hj
    simp! only [↓m_kCm_1,↓m_kCm2]
   ·intro D H3 hD e3 hD3
    have hD3':H3 D=some (.lst (((List.range z.toNat).map fun (j:Nat)=>c+(j:Int) * pc).map V.int)):=by rw [hD3,filt,List.map_map];rfl
    have h2_3:=e3.at h2
    have hle:(wideL (cs.take i) (z,pc)).length+(List.range z.toNat).length≤sizeLine:=len5000 (by rw [List.length_range];omega)
    clear hD3 hi
    simp! only [and_true]
    refine ⟨_,rfl,(e2.trans e3).put hr1,?_⟩
    rw [wideL_take cs (z,pc) i c hc,List.map_append]
  ·rintro _ H2 ⟨v4,rfl,e2,h2⟩
   simp! only [and_true]
   rw [List.length_map,List.take_length] at h2
   exact k r H2 hr1 e2 h2
abbrev B_spCells (C cT:Addr) (v:Addr) (H:Hp) (Q:VK) (E:XK):Prop:=∃ (room first:Int) (axs:List (Int × Int)),ViewAt C H v room first axs∧Axes axs∧(prodL (axs.map fun a=>a.1)≤4096->∀ (r:Addr) (H':Hp),H r=none->Ext H H'->H' r=some (.lst ((cellsL first axs).map V.int))->Q (.ref r) H')∧¬ 4096 < prodL (axs.map fun a=>a.1)
def spCells (C cT:Addr):Sp:=fun vs H Q E=>∃ (v:Addr),vs=[.ref v]∧(B_spCells C cT v H Q E)
theorem c_spCells (C cT:Addr) (v:Addr) (H:Hp) (Q:VK) (E:XK):spCells C cT [.ref v] H Q E=(B_spCells C cT v H Q E):=spx1 (f:=fun (v:Addr)=>[.ref v]) (fun _ _ h=>by cases h;exact rfl) v
theorem l_spCells (C cT:Addr){vs:List V}{H:Hp}{Q:VK}{E:XK}(h:spCells C cT vs H Q E):vs.length=1:=spl1 h fun _=>rfl
theorem ok_View_cells (T:Tx K mg t):FnOk P w K mg base CX0 4 t.a_View_cells t.d_View_cells ["self"] (spCells t.a_View t.a_TooMany):=by
 have G_View_count:=ok_View_count (P:=P) (w:=w) (base:=base) T
 have G_refuse_long:=ok_refuse_long (P:=P) (w:=w) (base:=base) T
 have G_widened:=ok_widened (P:=P) (w:=w) (base:=base) T
 refine T.F_View_cells.ok c_View_cells (fun vs H Q E h=>l_spCells _ _ h) (fun cdv A outer s H vs Q E hr h=>?_)
 ·obtain ⟨v,rfl,room,first,axs,vo,hax,kQ,kE⟩:=h
  obtain ⟨dx,l,hv,ys,hl,al⟩:=vo.ob
  have c1:=T.cl_View
  have c2:=T.na_View_first
  have c3:=T.na_View_axes
  have f1:=viewF_first room first l
  have f2:=viewF_axes room first l
  have f3:=vn room first l (m := "count") (by decide +kernel)
  refine ⟨_,(@pss_cons _ _ _ _ _ (@ps_expr _ _ _ _ (@pe_call _ _ _ _ _ _ _ _ _ _ _ _ _ _ _ _ G_refuse_long (hr.mono (by decide)) (by rfl) T.m_refuse_long T.F_refuse_long.kp T.b_refuse_long .nil pass0 (@pa_c _ _ _ _ _ (@pe_nMeth0 _ _ _ _ _ _ _ _ _ _ _ _ _ _ _ _ _ (@pvN _ 0 _ _ (by rfl) (by trivial) (by decide) (by decide)) T.cl_View T.mt_View_count G_View_count (hr.mono (by decide)) T.b_View_count .nil pass0 (by rfl)) (@pa_nil _) (by rfl)) (by decide) (by rfl) (by rfl)) (by rfl)) (@pss_cons _ _ _ _ _ (@ps_set _ _ (1) _ _ _ _ c_View_cells.nd rfl (Or.inl rfl) (@pe_qLst _ _ _ _ (@pa_c _ _ _ _ _ (@pe_nFld _ _ _ _ _ (@pvN _ 0 _ _ (by rfl) (by trivial) (by decide) (by decide)) rfl) (@pa_nil _) (by rfl))) (by rfl) (by trivial)) (@pss_cons _ _ _ _ _ (@ps_for _ _ _ _ _ _ _ _ PassesOwn.never rfl (@pi_seq _ _ _ _ (@pe_nFld _ _ _ _ _ (@pvN _ 0 _ _ (by rfl) (by trivial) (by decide) (by decide)) rfl)) ((@pg_tup _ _ _ _ _ (2) rfl (@pgs_consN _ _ _ _ _ (@pg_name _ _ (2) _ c_View_cells.nd rfl (Or.inl rfl) (by trivial)) (@pgs_consN _ _ _ _ _ (@pg_name _ _ (3) _ c_View_cells.nd rfl (Or.inl rfl) (by trivial)) (@pgs_nilN _) (by rfl)) (by rfl)) (by rfl) (by rfl)).mono fun _ _ _ _ h=>gTup_q h) (@pss_one _ _ _ (@ps_set _ _ (1) _ _ _ _ c_View_cells.nd rfl (Or.inl rfl) (@pe_call _ _ _ _ _ _ _ _ _ _ _ _ _ _ _ _ G_widened (hr.mono (by decide)) (by rfl) T.m_widened T.F_widened.kp T.b_widened .nil pass0 (@pa_c _ _ _ _ _ (@pvN _ 1 _ _ (by rfl) (by trivial) (by decide) (by decide)) (@pa_c _ _ _ _ _ (@pvN _ 2 _ _ (by rfl) (by trivial) (by decide) (by decide)) (@pa_c _ _ _ _ _ (@pvN _ 3 _ _ (by rfl) (by trivial) (by decide) (by decide)) (@pa_nil _) (by rfl)) (by rfl)) (by rfl)) (by decide) (by rfl) (by rfl)) (by rfl) (by trivial))) (by intros;rfl)) (@pss_one _ _ _ (@ps_ret _ _ _ _ (@pvN _ 1 _ _ (by rfl) (by trivial) (by decide) (by decide))))))),?_⟩
  rw [show start ["self", "found", "size", "pace"] [.ref v]=[some (.ref v),none,none,none] from rfl]
  clear G_View_count G_refuse_long G_widened
  simp! only [and_true]
  rw [c_spVCount]
  refine ⟨room,first,axs,vo,hax,fun H1 e1=>?_⟩
  have hv1:=e1.at hv
  have hl1:=e1.at hl
  simp! only [and_true]
  rw [c_spLong]
  refine ⟨fun hc=>?_,kE⟩
  have kQ':=kQ hc
  clear kQ kE
  simp! only [and_true]
  intro r H2 hr2 e2 h2
  have hv2:=e2.at hv1
  have hl2:=e2.at hl1
  simp! only [and_true]
  have hpos:∀ a∈axs,(1:Int)≤a.1:=fun a ha=>(hax.2 a ha).1
  refine for_lst (xs:=ys) (fun i σ H'=>∃ (r:Addr) (v2 v3:Option V),σ=[some (.ref v),some (.ref r),v2,v3]∧Ext H H'∧H r=none∧H' r=some (.lst ((cellsL first (axs.take i)).map V.int))) ⟨r,none,none,rfl,e1.trans e2,e1.free hr2,h2⟩ (fun i σ H' _ ⟨_,_,_,_,e,_,_⟩=>e.at hl) ?_ ?_
  ·rintro i y _ H3 hi ⟨r3,v2,v3,rfl,e3,hr3,h3⟩
   obtain ⟨a,q,ha,rfl,hq⟩:=al_ax al hi
   have hq3:=e3.at hq
   have hm:=hax.2 a (List.mem_of_getElem? ha)
   simp! only [↓m_kBody]
   rw [c_spWidened]
   refine ⟨_,h3,hm.1,?_,hm.2,fun r4 H4 hr4 e4 h4=>?_⟩
   ·have hl4:=cellsL_len first (axs.take i) fun b hb=>hpos b (List.mem_of_mem_take hb)
    have hp:=prodL_take_le (axs.map fun a=>a.1) (fun n hn=>by obtain ⟨b,hb,rfl⟩:=List.mem_map.mp hn;exact hpos b hb) (i+1)
    rw [prodL_take _ i a.1 (by rw [List.getElem?_map,ha];rfl),←List.map_take,←hl4] at hp
    have hza:((a.1.toNat:Nat):Int)=a.1:=Int.toNat_of_nonneg (by omega)
    have:(((cellsL first (axs.take i)).length * a.1.toNat:Nat):Int)≤4096:=by rw [Int.natCast_mul,hza];omega
    omega
   ·simp! only [and_true]
    refine ⟨r4,_,_,rfl,e3.trans e4,e3.free hr4,?_⟩
    rw [h4,List.take_add_one,ha]
    show _=some (HO.lst (List.map V.int (cellsL first (axs.take i++[a]))))
    rw [cellsL_snoc]
  ·rintro _ H3 ⟨r3,v2,v3,rfl,e3,hr3,h3⟩
   have hyl:ys.length=axs.length:=by rw [al.1];unfold axL;rw [List.length_map]
   rw [hyl,List.take_length] at h3
   simp! only [and_true]
   exact kQ' r3 H3 hr3 e3 h3
def clsW (t:Adr):Nat->Addr
 | 0=>t.a_Statement
 | 1=>t.a_Fill
 | 2=>t.a_Copy
 | 3=>t.a_Swap
 | _=>t.a_Raise
def fldW:Nat->Addr->Addr->V->List (Str × V)
 | 0,_,_,_=>[]
 | 1,u,_,x=>[("to",.ref u),("value",x)]
 | 2,u,v,_=>[("to",.ref u),("source",.ref v)]
 | 3,u,v,_=>[("one",.ref u),("other",.ref v)]
 | _,u,v,_=>[("to",.ref u),("source",.ref v)]
def wrs:Nat->Addr->Addr->List Addr
 | 0,_,_=>[]
 | 3,u,v=>[u,v]
 | _,u,_=>[u]
def rds:Nat->Addr->Addr->List Addr
 | 0,_,_=>[]
 | 1,_,_=>[]
 | 2,_,v=>[v]
 | _,u,v=>[u,v]
def StAt (t:Adr) (H:Hp) (s:Addr) (w:Nat) (u v:Addr):Prop:=w < 5∧∃ dx x,H s=some (.ins (clsW t w) dx (fldW w u v x))
theorem StAt.ext {t:Adr}{H H':Hp}{s:Addr}{w:Nat}{u v:Addr}(h:StAt t H s w u v) (e:Ext H H'):StAt t H' s w u v:=by
 obtain ⟨h1,dx,x,h2⟩:=h
 exact ⟨h1,dx,x,e.at h2⟩
abbrev B_spWr (t:Adr) (i:Nat) (s:Addr) (H:Hp) (Q:VK) (E:XK):Prop:=∃ (u v dx:Addr) (x:V),H s=some (.ins (clsW t i) dx (fldW i u v x))∧∀ (r:Addr) (H':Hp),Ext H H'->H' r=some (.lst ((wrs i u v).map V.ref))->Q (.ref r) H'
def spWr (t:Adr) (i:Nat):Sp:=fun vs H Q E=>∃ (s:Addr),vs=[.ref s]∧(B_spWr t i s H Q E)
theorem l_spWr (t:Adr) (i:Nat){vs:List V}{H:Hp}{Q:VK}{E:XK}(h:spWr t i vs H Q E):vs.length=1:=spl1 h fun _=>rfl
abbrev B_spRd (t:Adr) (i:Nat) (s:Addr) (H:Hp) (Q:VK) (E:XK):Prop:=∃ (u v dx:Addr) (x:V),H s=some (.ins (clsW t i) dx (fldW i u v x))∧∀ (r:Addr) (H':Hp),Ext H H'->H' r=some (.lst ((rds i u v).map V.ref))->Q (.ref r) H'
def spRd (t:Adr) (i:Nat):Sp:=fun vs H Q E=>∃ (s:Addr),vs=[.ref s]∧(B_spRd t i s H Q E)
theorem l_spRd (t:Adr) (i:Nat){vs:List V}{H:Hp}{Q:VK}{E:XK}(h:spRd t i vs H Q E):vs.length=1:=spl1 h fun _=>rfl
theorem ok_Statement_writes (T:Tx K mg t):FnOk P w K mg base CX0 1 t.a_Statement_writes t.d_Statement_writes ["self"] (spWr t 0):=by
 refine T.F_Statement_writes.ok c_Statement_writes (fun vs H Q E h=>l_spWr _ _ h) (fun cdv A outer s0 H vs Q E hr h=>?_)
 ·obtain ⟨s,rfl,u,v,dx,x,hs,k⟩:=h
  have hs':H s=some (.ins t.a_Statement dx []):=hs
  clear hs
  have c9:=T.cl_Statement
  refine ⟨_,(@pss_one _ _ _ (@ps_ret _ _ _ _ (@pe_qLst _ _ _ _ (@pa_nil _)))),?_⟩
  rw [show start ["self"] [.ref s]=[some (.ref s)] from rfl]
  replace k:=fun (_:Unit)=>k
  simp! only [and_true]
  intro r H1 _ e1 h1
  exact k () r H1 e1 h1
theorem ok_Statement_reads (T:Tx K mg t):FnOk P w K mg base CX0 1 t.a_Statement_reads t.d_Statement_reads ["self"] (spRd t 0):=by
 refine T.F_Statement_reads.ok c_Statement_reads (fun vs H Q E h=>l_spRd _ _ h) (fun cdv A outer s0 H vs Q E hr h=>?_)
 ·obtain ⟨s,rfl,u,v,dx,x,hs,k⟩:=h
  have hs':H s=some (.ins t.a_Statement dx []):=hs
  clear hs
  have c9:=T.cl_Statement
  refine ⟨_,(@pss_one _ _ _ (@ps_ret _ _ _ _ (@pe_qLst _ _ _ _ (@pa_nil _)))),?_⟩
  rw [show start ["self"] [.ref s]=[some (.ref s)] from rfl]
  replace k:=fun (_:Unit)=>k
  simp! only [and_true]
  intro r H1 _ e1 h1
  exact k () r H1 e1 h1
theorem ok_Fill_writes (T:Tx K mg t):FnOk P w K mg base CX0 1 t.a_Fill_writes t.d_Fill_writes ["self"] (spWr t 1):=by
 refine T.F_Fill_writes.ok c_Fill_writes (fun vs H Q E h=>l_spWr _ _ h) (fun cdv A outer s0 H vs Q E hr h=>?_)
 ·obtain ⟨s,rfl,u,v,dx,x,hs,k⟩:=h
  have hs':H s=some (.ins t.a_Fill dx [("to",V.ref u),("value",x)]):=hs
  clear hs
  have c0:=T.na_Fill_to
  have l0:([("to",V.ref u),("value",x)]:List (Str × V)).lookup (Str.ofString "to")=some (V.ref u):=by rfl
  have c9:=T.cl_Fill
  refine ⟨_,(@pss_one _ _ _ (@ps_ret _ _ _ _ (@pe_qLst _ _ _ _ (@pa_c _ _ _ _ _ (@pe_nFld _ _ _ _ _ (@pvN _ 0 _ _ (by rfl) (by trivial) (by decide) (by decide)) rfl) (@pa_nil _) (by rfl))))),?_⟩
  rw [show start ["self"] [.ref s]=[some (.ref s)] from rfl]
  replace k:=fun (_:Unit)=>k
  simp! only [and_true]
  intro r H1 _ e1 h1
  exact k () r H1 e1 h1
theorem ok_Copy_writes (T:Tx K mg t):FnOk P w K mg base CX0 1 t.a_Copy_writes t.d_Copy_writes ["self"] (spWr t 2):=by
 refine T.F_Copy_writes.ok c_Copy_writes (fun vs H Q E h=>l_spWr _ _ h) (fun cdv A outer s0 H vs Q E hr h=>?_)
 ·obtain ⟨s,rfl,u,v,dx,x,hs,k⟩:=h
  have hs':H s=some (.ins t.a_Copy dx [("to",V.ref u),("source",V.ref v)]):=hs
  clear hs
  have c0:=T.na_Copy_to
  have l0:([("to",V.ref u),("source",V.ref v)]:List (Str × V)).lookup (Str.ofString "to")=some (V.ref u):=by rfl
  have c9:=T.cl_Copy
  refine ⟨_,(@pss_one _ _ _ (@ps_ret _ _ _ _ (@pe_qLst _ _ _ _ (@pa_c _ _ _ _ _ (@pe_nFld _ _ _ _ _ (@pvN _ 0 _ _ (by rfl) (by trivial) (by decide) (by decide)) rfl) (@pa_nil _) (by rfl))))),?_⟩
  rw [show start ["self"] [.ref s]=[some (.ref s)] from rfl]
  replace k:=fun (_:Unit)=>k
  simp! only [and_true]
  intro r H1 _ e1 h1
  exact k () r H1 e1 h1
theorem ok_Copy_reads (T:Tx K mg t):FnOk P w K mg base CX0 1 t.a_Copy_reads t.d_Copy_reads ["self"] (spRd t 2):=by
 refine T.F_Copy_reads.ok c_Copy_reads (fun vs H Q E h=>l_spRd _ _ h) (fun cdv A outer s0 H vs Q E hr h=>?_)
 ·obtain ⟨s,rfl,u,v,dx,x,hs,k⟩:=h
  have hs':H s=some (.ins t.a_Copy dx [("to",V.ref u),("source",V.ref v)]):=hs
  clear hs
  have c0:=T.na_Copy_source
  have l0:([("to",V.ref u),("source",V.ref v)]:List (Str × V)).lookup (Str.ofString "source")=some (V.ref v):=by rfl
  have c9:=T.cl_Copy
  refine ⟨_,(@pss_one _ _ _ (@ps_ret _ _ _ _ (@pe_qLst _ _ _ _ (@pa_c _ _ _ _ _ (@pe_nFld _ _ _ _ _ (@pvN _ 0 _ _ (by rfl) (by trivial) (by decide) (by decide)) rfl) (@pa_nil _) (by rfl))))),?_⟩
  rw [show start ["self"] [.ref s]=[some (.ref s)] from rfl]
  replace k:=fun (_:Unit)=>k
  simp! only [and_true]
  intro r H1 _ e1 h1
  exact k () r H1 e1 h1
theorem ok_Swap_writes (T:Tx K mg t):FnOk P w K mg base CX0 1 t.a_Swap_writes t.d_Swap_writes ["self"] (spWr t 3):=by
 refine T.F_Swap_writes.ok c_Swap_writes (fun vs H Q E h=>l_spWr _ _ h) (fun cdv A outer s0 H vs Q E hr h=>?_)
 ·obtain ⟨s,rfl,u,v,dx,x,hs,k⟩:=h
  have hs':H s=some (.ins t.a_Swap dx [("one",V.ref u),("other",V.ref v)]):=hs
  clear hs
  have c0:=T.na_Swap_one
  have l0:([("one",V.ref u),("other",V.ref v)]:List (Str × V)).lookup (Str.ofString "one")=some (V.ref u):=by rfl
  have c1:=T.na_Swap_other
  have l1:([("one",V.ref u),("other",V.ref v)]:List (Str × V)).lookup (Str.ofString "other")=some (V.ref v):=by rfl
  have c9:=T.cl_Swap
  refine ⟨_,(@pss_one _ _ _ (@ps_ret _ _ _ _ (@pe_qLst _ _ _ _ (@pa_c _ _ _ _ _ (@pe_nFld _ _ _ _ _ (@pvN _ 0 _ _ (by rfl) (by trivial) (by decide) (by decide)) rfl) (@pa_c _ _ _ _ _ (@pe_nFld _ _ _ _ _ (@pvN _ 0 _ _ (by rfl) (by trivial) (by decide) (by decide)) rfl) (@pa_nil _) (by rfl)) (by rfl))))),?_⟩
  rw [show start ["self"] [.ref s]=[some (.ref s)] from rfl]
  replace k:=fun (_:Unit)=>k
  simp! only [and_true]
  intro r H1 _ e1 h1
  exact k () r H1 e1 h1
theorem ok_Swap_reads (T:Tx K mg t):FnOk P w K mg base CX0 1 t.a_Swap_reads t.d_Swap_reads ["self"] (spRd t 3):=by
 refine T.F_Swap_reads.ok c_Swap_reads (fun vs H Q E h=>l_spRd _ _ h) (fun cdv A outer s0 H vs Q E hr h=>?_)
 ·obtain ⟨s,rfl,u,v,dx,x,hs,k⟩:=h
  have hs':H s=some (.ins t.a_Swap dx [("one",V.ref u),("other",V.ref v)]):=hs
  clear hs
  have c0:=T.na_Swap_one
  have l0:([("one",V.ref u),("other",V.ref v)]:List (Str × V)).lookup (Str.ofString "one")=some (V.ref u):=by rfl
  have c1:=T.na_Swap_other
  have l1:([("one",V.ref u),("other",V.ref v)]:List (Str × V)).lookup (Str.ofString "other")=some (V.ref v):=by rfl
  have c9:=T.cl_Swap
  refine ⟨_,(@pss_one _ _ _ (@ps_ret _ _ _ _ (@pe_qLst _ _ _ _ (@pa_c _ _ _ _ _ (@pe_nFld _ _ _ _ _ (@pvN _ 0 _ _ (by rfl) (by trivial) (by decide) (by decide)) rfl) (@pa_c _ _ _ _ _ (@pe_nFld _ _ _ _ _ (@pvN _ 0 _ _ (by rfl) (by trivial) (by decide) (by decide)) rfl) (@pa_nil _) (by rfl)) (by rfl))))),?_⟩
  rw [show start ["self"] [.ref s]=[some (.ref s)] from rfl]
  replace k:=fun (_:Unit)=>k
  simp! only [and_true]
  intro r H1 _ e1 h1
  exact k () r H1 e1 h1
theorem ok_Raise_writes (T:Tx K mg t):FnOk P w K mg base CX0 1 t.a_Raise_writes t.d_Raise_writes ["self"] (spWr t 4):=by
 refine T.F_Raise_writes.ok c_Raise_writes (fun vs H Q E h=>l_spWr _ _ h) (fun cdv A outer s0 H vs Q E hr h=>?_)
 ·obtain ⟨s,rfl,u,v,dx,x,hs,k⟩:=h
  have hs':H s=some (.ins t.a_Raise dx [("to",V.ref u),("source",V.ref v)]):=hs
  clear hs
  have c0:=T.na_Raise_to
  have l0:([("to",V.ref u),("source",V.ref v)]:List (Str × V)).lookup (Str.ofString "to")=some (V.ref u):=by rfl
  have c9:=T.cl_Raise
  refine ⟨_,(@pss_one _ _ _ (@ps_ret _ _ _ _ (@pe_qLst _ _ _ _ (@pa_c _ _ _ _ _ (@pe_nFld _ _ _ _ _ (@pvN _ 0 _ _ (by rfl) (by trivial) (by decide) (by decide)) rfl) (@pa_nil _) (by rfl))))),?_⟩
  rw [show start ["self"] [.ref s]=[some (.ref s)] from rfl]
  replace k:=fun (_:Unit)=>k
  simp! only [and_true]
  intro r H1 _ e1 h1
  exact k () r H1 e1 h1
theorem ok_Raise_reads (T:Tx K mg t):FnOk P w K mg base CX0 1 t.a_Raise_reads t.d_Raise_reads ["self"] (spRd t 4):=by
 refine T.F_Raise_reads.ok c_Raise_reads (fun vs H Q E h=>l_spRd _ _ h) (fun cdv A outer s0 H vs Q E hr h=>?_)
 ·obtain ⟨s,rfl,u,v,dx,x,hs,k⟩:=h
  have hs':H s=some (.ins t.a_Raise dx [("to",V.ref u),("source",V.ref v)]):=hs
  clear hs
  have c0:=T.na_Raise_source
  have l0:([("to",V.ref u),("source",V.ref v)]:List (Str × V)).lookup (Str.ofString "source")=some (V.ref v):=by rfl
  have c1:=T.na_Raise_to
  have l1:([("to",V.ref u),("source",V.ref v)]:List (Str × V)).lookup (Str.ofString "to")=some (V.ref u):=by rfl
  have c9:=T.cl_Raise
  refine ⟨_,(@pss_one _ _ _ (@ps_ret _ _ _ _ (@pe_qLst _ _ _ _ (@pa_c _ _ _ _ _ (@pe_nFld _ _ _ _ _ (@pvN _ 0 _ _ (by rfl) (by trivial) (by decide) (by decide)) rfl) (@pa_c _ _ _ _ _ (@pe_nFld _ _ _ _ _ (@pvN _ 0 _ _ (by rfl) (by trivial) (by decide) (by decide)) rfl) (@pa_nil _) (by rfl)) (by rfl))))),?_⟩
  rw [show start ["self"] [.ref s]=[some (.ref s)] from rfl]
  replace k:=fun (_:Unit)=>k
  simp! only [and_true]
  intro r H1 _ e1 h1
  exact k () r H1 e1 h1
theorem ok1_Statement_reads (T:Tx K mg t):FnOk P w K mg base CX0 1 t.a_Statement_reads t.d_Statement_reads ["self"] (spRd t 1):=by
 refine T.F_Statement_reads.ok c_Statement_reads (fun vs H Q E h=>l_spRd _ _ h) (fun cdv A outer s0 H vs Q E hr h=>?_)
 ·obtain ⟨s,rfl,u,v,dx,x,hs,k⟩:=h
  have hs':H s=some (.ins t.a_Fill dx [("to",V.ref u),("value",x)]):=hs
  clear hs
  have c9:=T.cl_Fill
  refine ⟨_,(@pss_one _ _ _ (@ps_ret _ _ _ _ (@pe_qLst _ _ _ _ (@pa_nil _)))),?_⟩
  rw [show start ["self"] [.ref s]=[some (.ref s)] from rfl]
  replace k:=fun (_:Unit)=>k
  simp! only [and_true]
  intro r H1 _ e1 h1
  exact k () r H1 e1 h1
theorem MDw {P:Program}{w:World}{K:PySem.W.Frag}{mg:Str->Option Value}{base:Heap}{t:Adr}(T:Tx K mg t):∀ i,i < 5->MD P w K mg base CX0 1 "writes" (clsW t i) (spWr t i)
 | 0,_=>⟨T.cl_Statement,_,_,_,T.mt_Statement_writes,ok_Statement_writes T,T.b_Statement_writes⟩
 | 1,_=>⟨T.cl_Fill,_,_,_,T.mt_Fill_writes,ok_Fill_writes T,T.b_Fill_writes⟩
 | 2,_=>⟨T.cl_Copy,_,_,_,T.mt_Copy_writes,ok_Copy_writes T,T.b_Copy_writes⟩
 | 3,_=>⟨T.cl_Swap,_,_,_,T.mt_Swap_writes,ok_Swap_writes T,T.b_Swap_writes⟩
 | 4,_=>⟨T.cl_Raise,_,_,_,T.mt_Raise_writes,ok_Raise_writes T,T.b_Raise_writes⟩
 | n+5,h=>absurd h (by omega)
theorem MDr {P:Program}{w:World}{K:PySem.W.Frag}{mg:Str->Option Value}{base:Heap}{t:Adr}(T:Tx K mg t):∀ i,i < 5->MD P w K mg base CX0 1 "reads" (clsW t i) (spRd t i)
 | 0,_=>⟨T.cl_Statement,_,_,_,T.mt_Statement_reads,ok_Statement_reads T,T.b_Statement_reads⟩
 | 1,_=>⟨T.cl_Fill,_,_,_,T.mt_Fill_reads,ok1_Statement_reads T,T.b_Statement_reads⟩
 | 2,_=>⟨T.cl_Copy,_,_,_,T.mt_Copy_reads,ok_Copy_reads T,T.b_Copy_reads⟩
 | 3,_=>⟨T.cl_Swap,_,_,_,T.mt_Swap_reads,ok_Swap_reads T,T.b_Swap_reads⟩
 | 4,_=>⟨T.cl_Raise,_,_,_,T.mt_Raise_reads,ok_Raise_reads T,T.b_Raise_reads⟩
 | n+5,h=>absurd h (by omega)
theorem fld_no {w:Nat}{u v:Addr}{x:V}(hw:w < 5):(fldW w u v x).lookup (Str.ofString "writes")=none∧(fldW w u v x).lookup (Str.ofString "reads")=none:=by
 match w,hw with
 | 0,_=>exact ⟨rfl,rfl⟩
 | 1,_=>exact ⟨rfl,rfl⟩
 | 2,_=>exact ⟨rfl,rfl⟩
 | 3,_=>exact ⟨rfl,rfl⟩
 | 4,_=>exact ⟨rfl,rfl⟩
theorem use_wr {t:Adr}{H:Hp}{s:Addr}{w:Nat}{u v:Addr}{E:XK}{Q:VK}(h:StAt t H s w u v) (q:∀ (r:Addr) (H':Hp),Ext H H'->H' r=some (.lst ((wrs w u v).map V.ref))->Q (.ref r) H'):kMethD 5 (clsW t) "writes" (spWr t) E Q (.ref s) H:=by
 obtain ⟨h1,dx,x,h2⟩:=h
 exact ⟨s,w,dx,_,rfl,h1,h2,(fld_no h1).1,s,rfl,u,v,dx,x,h2,q⟩
theorem use_rd {t:Adr}{H:Hp}{s:Addr}{w:Nat}{u v:Addr}{E:XK}{Q:VK}(h:StAt t H s w u v) (q:∀ (r:Addr) (H':Hp),Ext H H'->H' r=some (.lst ((rds w u v).map V.ref))->Q (.ref r) H'):kMethD 5 (clsW t) "reads" (spRd t) E Q (.ref s) H:=by
 obtain ⟨h1,dx,x,h2⟩:=h
 exact ⟨s,w,dx,_,rfl,h1,h2,(fld_no h1).2,s,rfl,u,v,dx,x,h2,q⟩
abbrev B_spViewsOf (t:Adr) (s:Addr) (H:Hp) (Q:VK) (E:XK):Prop:=∃ (w:Nat) (u v:Addr),StAt t H s w u v∧∀ (r:Addr) (H':Hp),Ext H H'->H' r=some (.lst ((wrs w u v++rds w u v).map V.ref))->Q (.ref r) H'
def spViewsOf (t:Adr):Sp:=fun vs H Q E=>∃ (s:Addr),vs=[.ref s]∧(B_spViewsOf t s H Q E)
theorem c_spViewsOf (t:Adr) (s:Addr) (H:Hp) (Q:VK) (E:XK):spViewsOf t [.ref s] H Q E=(B_spViewsOf t s H Q E):=spx1 (f:=fun (s:Addr)=>[.ref s]) (fun _ _ h=>by cases h;exact rfl) s
theorem l_spViewsOf (t:Adr){vs:List V}{H:Hp}{Q:VK}{E:XK}(h:spViewsOf t vs H Q E):vs.length=1:=spl1 h fun _=>rfl
theorem wr_len (w:Nat) (u v:Addr):(wrs w u v).length≤2∧(rds w u v).length≤2:=by
 match w with
 | 0=>exact ⟨Nat.zero_le _,Nat.zero_le _⟩
 | 1=>exact ⟨Nat.le_succ _,Nat.zero_le _⟩
 | 2=>exact ⟨Nat.le_succ _,Nat.le_succ _⟩
 | 3=>exact ⟨Nat.le_refl _,Nat.le_refl _⟩
 | n+4=>exact ⟨Nat.le_succ _,Nat.le_refl _⟩
theorem use_cat {l b:Addr}{xs ys:List V}{H:Hp}{Q:VK}(h:H l=some (.lst xs)) (h':H b=some (.lst ys)) (hl:xs.length+ys.length≤sizeLine) (q:newK (.lst (xs++ys)) H Q):kOp' nCat (.ref l) Q (.ref b) H:=by
 rw [m_kOp',m_nCat,lstAt,h]
 show optK (lstAt H b) (kNC2 xs H Q)
 rw [lstAt,h']
 exact ⟨hl,q⟩
theorem ok_views_of (T:Tx K mg t):FnOk P w K mg base CX0 2 t.a_views_of t.d_views_of ["statement"] (spViewsOf t):=by
 have MD_writes:=MDw (P:=P) (w:=w) (base:=base) T
 have MD_reads:=MDr (P:=P) (w:=w) (base:=base) T
 refine T.F_views_of.ok c_views_of (fun vs H Q E h=>l_spViewsOf _ h) (fun cdv A outer s0 H vs Q E hr h=>?_)
 ·obtain ⟨s,rfl,w',u,v,hs,k⟩:=h
  refine ⟨_,(@pss_one _ _ _ (@ps_ret _ _ _ _ (@pe_op _ _ _ _ _ _ _ _ op_nCat (@pe_nMethD _ _ _ _ _ _ _ _ _ _ _ _ _ (@pvN _ 0 _ _ (by rfl) (by trivial) (by decide) (by decide)) MD_writes (hr.mono (by decide)) pass0 (by rfl)) (@pe_nMethD _ _ _ _ _ _ _ _ _ _ _ _ _ (@pvN _ 0 _ _ (by rfl) (by trivial) (by decide) (by decide)) MD_reads (hr.mono (by decide)) pass0 (by rfl))))),?_⟩
  rw [show start ["statement"] [.ref s]=[some (.ref s)] from rfl]
  clear MD_writes MD_reads
  replace k:=fun (_:Unit)=>k
  simp! only [and_true]
  refine use_wr hs fun r1 H1 e1 h1=>?_
  simp! only [and_true]
  refine use_rd (hs.ext e1) fun r2 H2 e2 h2=>?_
  have h1_2:=e2.at h1
  refine use_cat h1_2 h2 (len5000 (by rw [List.length_map,List.length_map];have:=wr_len w' u v;omega)) ?_
  rw [←List.map_append]
  intro r3 H3 _ e3 h3
  have k2:=k () r3 H3 (e1.trans (e2.trans e3)) h3
  clear k h1_2 h2 h1 hs
  simp! only [and_true]
abbrev B_spRooms (C:Addr) (u:Addr) (v:Addr) (H:Hp) (Q:VK) (E:XK):Prop:=∃ (r f1 f2:Int) (A B:List (Int × Int)),ViewAt C H u r f1 A∧ViewAt C H v r f2 B∧Q .non H
def spRooms (C:Addr):Sp:=fun vs H Q E=>∃ (u:Addr) (v:Addr),vs=[.ref u,.ref v]∧(B_spRooms C u v H Q E)
theorem c_spRooms (C:Addr) (u:Addr) (v:Addr) (H:Hp) (Q:VK) (E:XK):spRooms C [.ref u,.ref v] H Q E=(B_spRooms C u v H Q E):=spx2 (f:=fun (u:Addr) (v:Addr)=>[.ref u,.ref v]) (fun _ _ _ _ h=>by cases h;exact ⟨rfl,rfl⟩) u v
theorem l_spRooms (C:Addr){vs:List V}{H:Hp}{Q:VK}{E:XK}(h:spRooms C vs H Q E):vs.length=2:=spl2 h fun _ _=>rfl
theorem ok_refuse_rooms (T:Tx K mg t):FnOk P w K mg base CX0 1 t.a_refuse_rooms t.d_refuse_rooms ["one", "other"] (spRooms t.a_View):=by
 refine T.F_refuse_rooms.ok c_refuse_rooms (fun vs H Q E h=>l_spRooms _ h) (fun cdv A outer s H vs Q E hr h=>?_)
 ·obtain ⟨u,v,rfl,ra,f1,f2,A,B,vu,vv,k⟩:=h
  obtain ⟨dx,D,hu,_⟩:=vu.ob
  obtain ⟨dy,D2,hv,_⟩:=vv.ob
  have c1:=T.cl_View
  have c4:=T.na_View_room
  have g1:=viewF_room ra f1 D
  have g2:=viewF_room ra f2 D2
  refine ⟨_,(@pss_one _ _ _ (@ps_if _ _ _ _ _ _ _ _ (@pt_cmpRN _ _ _ _ _ _ _ _ (op_qNe hr.units) (@pe_nFld _ _ _ _ _ (@pvN _ 0 _ _ (by rfl) (by trivial) (by decide) (by decide)) rfl) (@pe_nFld _ _ _ _ _ (@pvN _ 1 _ _ (by rfl) (by trivial) (by decide) (by decide)) rfl) (nomark _)) (@pss_one _ _ _ (@ps_never _ _)) (@pss_nil _))),?_⟩
  rw [show start ["one", "other"] [.ref u,.ref v]=[some (.ref u),some (.ref v)] from rfl]
  simp! only [and_true]
abbrev B_spRCount (CV:Addr) (v:Addr) (n:Int) (H:Hp) (Q:VK) (E:XK):Prop:=∃ (room first:Int) (axs:List (Int × Int)),ViewAt CV H v room first axs∧Axes axs∧n=prodL (axs.map fun a=>a.1)∧∀ H',Ext H H'->Q .non H'
def spRCount (CV:Addr):Sp:=fun vs H Q E=>∃ (v:Addr) (n:Int),vs=[.ref v,.int n]∧(B_spRCount CV v n H Q E)
theorem c_spRCount (CV:Addr) (v:Addr) (n:Int) (H:Hp) (Q:VK) (E:XK):spRCount CV [.ref v,.int n] H Q E=(B_spRCount CV v n H Q E):=spx2 (f:=fun (v:Addr) (n:Int)=>[.ref v,.int n]) (fun _ _ _ _ h=>by cases h;exact ⟨rfl,rfl⟩) v n
theorem l_spRCount (CV:Addr){vs:List V}{H:Hp}{Q:VK}{E:XK}(h:spRCount CV vs H Q E):vs.length=2:=spl2 h fun _ _=>rfl
theorem ok_refuse_count (T:Tx K mg t):FnOk P w K mg base CX0 3 t.a_refuse_count t.d_refuse_count ["view", "many"] (spRCount t.a_View):=by
 have G_View_count:=ok_View_count (P:=P) (w:=w) (base:=base) T
 refine T.F_refuse_count.ok c_refuse_count (fun vs H Q E h=>l_spRCount _ h) (fun cdv A outer s' H vs Q E hr h=>?_)
 ·obtain ⟨v,n,rfl,room,first,axs,vo,hax,hn,k⟩:=h
  obtain ⟨dy,D,hv,_⟩:=vo.ob
  have f3:=vn room first D (m := "count") (by decide +kernel)
  have c3:=T.cl_View
  refine ⟨_,(@pss_one _ _ _ (@ps_if _ _ _ _ _ _ _ _ (@pt_cmpRN _ _ _ _ _ _ _ _ (op_qNe hr.units) (@pe_nMeth0 _ _ _ _ _ _ _ _ _ _ _ _ _ _ _ _ _ (@pvN _ 0 _ _ (by rfl) (by trivial) (by decide) (by decide)) T.cl_View T.mt_View_count G_View_count (hr.mono (by decide)) T.b_View_count .nil pass0 (by rfl)) (@pvN _ 1 _ _ (by rfl) (by trivial) (by decide) (by decide)) (nomark _)) (@pss_one _ _ _ (@ps_never _ _)) (@pss_nil _))),?_⟩
  rw [show start ["view", "many"] [.ref v,.int n]=[some (.ref v),some (.int n)] from rfl]
  clear G_View_count
  subst hn
  simp! only [and_true]
  rw [c_spVCount]
  refine ⟨room,first,axs,vo,hax,fun H1 e1=>?_⟩
  have k1:=k H1 e1
  clear k
  simp! only [and_true]
abbrev B_spTwo (C:Addr) (u:Addr) (v:Addr) (H:Hp) (Q:VK) (E:XK):Prop:=∃ (r f1 f2:Int) (A B:List (Int × Int)),ViewAt C H u r f1 A∧ViewAt C H v r f2 B∧Axes A∧Axes B∧prodL (A.map fun a=>a.1)=prodL (B.map fun a=>a.1)∧∀ H',Ext H H'->Q .non H'
def spTwo (C:Addr):Sp:=fun vs H Q E=>∃ (u:Addr) (v:Addr),vs=[.ref u,.ref v]∧(B_spTwo C u v H Q E)
theorem c_spTwo (C:Addr) (u:Addr) (v:Addr) (H:Hp) (Q:VK) (E:XK):spTwo C [.ref u,.ref v] H Q E=(B_spTwo C u v H Q E):=spx2 (f:=fun (u:Addr) (v:Addr)=>[.ref u,.ref v]) (fun _ _ _ _ h=>by cases h;exact ⟨rfl,rfl⟩) u v
theorem l_spTwo (C:Addr){vs:List V}{H:Hp}{Q:VK}{E:XK}(h:spTwo C vs H Q E):vs.length=2:=spl2 h fun _ _=>rfl
theorem ok_refuse_two (T:Tx K mg t):FnOk P w K mg base CX0 4 t.a_refuse_two t.d_refuse_two ["one", "other"] (spTwo t.a_View):=by
 have G_refuse_rooms:=ok_refuse_rooms (P:=P) (w:=w) (base:=base) T
 have G_View_count:=ok_View_count (P:=P) (w:=w) (base:=base) T
 have G_refuse_count:=ok_refuse_count (P:=P) (w:=w) (base:=base) T
 refine T.F_refuse_two.ok c_refuse_two (fun vs H Q E h=>l_spTwo _ h) (fun cdv A outer s H vs Q E hr h=>?_)
 ·obtain ⟨u,v,rfl,ra,f1,f2,A,B,vu,vv,hA,hB,hc,k⟩:=h
  obtain ⟨dy,D2,hv,_⟩:=vv.ob
  have f3:=vn ra f2 D2 (m := "count") (by decide +kernel)
  have c1:=T.cl_View
  refine ⟨_,(@pss_cons _ _ _ _ _ (@ps_expr _ _ _ _ (@pe_call _ _ _ _ _ _ _ _ _ _ _ _ _ _ _ _ G_refuse_rooms (hr.mono (by decide)) (by rfl) T.m_refuse_rooms T.F_refuse_rooms.kp T.b_refuse_rooms .nil pass0 (@pa_c _ _ _ _ _ (@pvN _ 0 _ _ (by rfl) (by trivial) (by decide) (by decide)) (@pa_c _ _ _ _ _ (@pvN _ 1 _ _ (by rfl) (by trivial) (by decide) (by decide)) (@pa_nil _) (by rfl)) (by rfl)) (by decide) (by rfl) (by rfl)) (by rfl)) (@pss_one _ _ _ (@ps_expr _ _ _ _ (@pe_call _ _ _ _ _ _ _ _ _ _ _ _ _ _ _ _ G_refuse_count (hr.mono (by decide)) (by rfl) T.m_refuse_count T.F_refuse_count.kp T.b_refuse_count .nil pass0 (@pa_c _ _ _ _ _ (@pvN _ 0 _ _ (by rfl) (by trivial) (by decide) (by decide)) (@pa_c _ _ _ _ _ (@pe_nMeth0 _ _ _ _ _ _ _ _ _ _ _ _ _ _ _ _ _ (@pvN _ 1 _ _ (by rfl) (by trivial) (by decide) (by decide)) T.cl_View T.mt_View_count G_View_count (hr.mono (by decide)) T.b_View_count .nil pass0 (by rfl)) (@pa_nil _) (by rfl)) (by rfl)) (by decide) (by rfl) (by rfl)) (by rfl)))),?_⟩
  rw [show start ["one", "other"] [.ref u,.ref v]=[some (.ref u),some (.ref v)] from rfl]
  clear G_refuse_rooms G_View_count G_refuse_count
  replace k:=fun (_:Unit)=>k
  simp! only [and_true]
  rw [c_spRooms]
  refine ⟨ra,f1,f2,A,B,vu,vv,?_⟩
  simp! only [and_true]
  rw [c_spVCount]
  refine ⟨ra,f2,B,vv,hB,fun H1 e1=>?_⟩
  simp! only [and_true]
  rw [c_spRCount]
  refine ⟨ra,f1,A,vu.ext e1,hA,hc.symm,fun H2 e2=>?_⟩
  have k2:=k () H2 (e1.trans e2)
  clear k
  simp! only [and_true]
abbrev B_spFInit (C:Addr) (x:Addr) (u:Addr) (y:V) (H:Hp) (Q:VK) (E:XK):Prop:=∃ dx:Addr,H x=some (.ins C dx [])∧∀ H':Hp,(∀ H0,Ext H0 H->H0 x=none->Ext H0 H')->H' x=some (.ins C dx [("to",.ref u),("value",y)])->Q .non H'
def spFInit (C:Addr):Sp:=fun vs H Q E=>∃ (x:Addr) (u:Addr) (y:V),vs=[.ref x,.ref u,y]∧(B_spFInit C x u y H Q E)
theorem c_spFInit (C:Addr) (x:Addr) (u:Addr) (y:V) (H:Hp) (Q:VK) (E:XK):spFInit C [.ref x,.ref u,y] H Q E=(B_spFInit C x u y H Q E):=spx3 (f:=fun (x:Addr) (u:Addr) (y:V)=>[.ref x,.ref u,y]) (fun _ _ _ _ _ _ h=>by cases h;exact ⟨rfl,rfl,rfl⟩) x u y
theorem l_spFInit (C:Addr){vs:List V}{H:Hp}{Q:VK}{E:XK}(h:spFInit C vs H Q E):vs.length=3:=spl3 h fun _ _ _=>rfl
theorem ok_Fill___init__ (T:Tx K mg t):FnOk P w K mg base CX0 1 t.a_Fill___init__ t.d_Fill___init__ ["self", "to", "value"] (spFInit t.a_Fill):=by
 refine T.F_Fill___init__.ok c_Fill___init__ (fun vs H Q E h=>l_spFInit _ h) (fun cdv A outer s H vs Q E hr h=>?_)
 ·obtain ⟨x,u,y,rfl,dx,hx,k⟩:=h
  have c1:=T.cl_Fill
  have c2:=T.na_Fill_to
  have c3:=T.na_Fill_value
  refine ⟨_,(@pss_cons _ _ _ _ _ (@ps_nSetF _ _ _ _ _ _ _ _ (@pvN _ 0 _ _ (by rfl) (by trivial) (by decide) (by decide)) (@pvN _ 1 _ _ (by rfl) (by trivial) (by decide) (by decide)) rfl) (@pss_one _ _ _ (@ps_nSetF _ _ _ _ _ _ _ _ (@pvN _ 0 _ _ (by rfl) (by trivial) (by decide) (by decide)) (@pvN _ 2 _ _ (by rfl) (by trivial) (by decide) (by decide)) rfl))),?_⟩
  rw [show start ["self", "to", "value"] [.ref x,.ref u,y]=[some (.ref x),some (.ref u),some (y)] from rfl]
  have k2:=fun (_:Unit)=>k (upd H x (.ins t.a_Fill dx [("to",.ref u),("value",y)])) (fun H0 q0 q1=>q0.put q1) upd_same
  clear k
  simp! only [and_true]
  refine ⟨(show (1:Nat) < 1000 by decide),?_⟩
  simp! only [and_true]
  exact k2 ()
abbrev B_spCopyInit (C CV:Addr) (x:Addr) (u:Addr) (v:Addr) (H:Hp) (Q:VK) (E:XK):Prop:=∃ (dx:Addr) (r f1 f2:Int) (A B:List (Int × Int)),H x=some (.ins C dx [])∧ViewAt CV H u r f1 A∧ViewAt CV H v r f2 B∧Axes A∧Axes B∧prodL (A.map fun a=>a.1)=prodL (B.map fun a=>a.1)∧∀ H':Hp,(∀ H0,Ext H0 H->H0 x=none->Ext H0 H')->H' x=some (.ins C dx [("to",.ref u),("source",.ref v)])->Q .non H'
def spCopyInit (C CV:Addr):Sp:=fun vs H Q E=>∃ (x:Addr) (u:Addr) (v:Addr),vs=[.ref x,.ref u,.ref v]∧(B_spCopyInit C CV x u v H Q E)
theorem c_spCopyInit (C CV:Addr) (x:Addr) (u:Addr) (v:Addr) (H:Hp) (Q:VK) (E:XK):spCopyInit C CV [.ref x,.ref u,.ref v] H Q E=(B_spCopyInit C CV x u v H Q E):=spx3 (f:=fun (x:Addr) (u:Addr) (v:Addr)=>[.ref x,.ref u,.ref v]) (fun _ _ _ _ _ _ h=>by cases h;exact ⟨rfl,rfl,rfl⟩) x u v
theorem l_spCopyInit (C CV:Addr){vs:List V}{H:Hp}{Q:VK}{E:XK}(h:spCopyInit C CV vs H Q E):vs.length=3:=spl3 h fun _ _ _=>rfl
theorem ok_Copy___init__ (T:Tx K mg t):FnOk P w K mg base CX0 5 t.a_Copy___init__ t.d_Copy___init__ ["self", "to", "source"] (spCopyInit t.a_Copy t.a_View):=by
 have G_refuse_two:=ok_refuse_two (P:=P) (w:=w) (base:=base) T
 refine T.F_Copy___init__.ok c_Copy___init__ (fun vs H Q E h=>l_spCopyInit _ _ h) (fun cdv A' outer s H vs Q E hr h=>?_)
 ·obtain ⟨x,u,v,rfl,dx,r,f1,f2,A,B,hx,vu,vv,hA,hB,hc,k⟩:=h
  have c1:=T.cl_Copy
  have c2:=T.na_Copy_to
  have c3:=T.na_Copy_source
  refine ⟨_,(@pss_cons _ _ _ _ _ (@ps_expr _ _ _ _ (@pe_call _ _ _ _ _ _ _ _ _ _ _ _ _ _ _ _ G_refuse_two (hr.mono (by decide)) (by rfl) T.m_refuse_two T.F_refuse_two.kp T.b_refuse_two .nil pass0 (@pa_c _ _ _ _ _ (@pvN _ 1 _ _ (by rfl) (by trivial) (by decide) (by decide)) (@pa_c _ _ _ _ _ (@pvN _ 2 _ _ (by rfl) (by trivial) (by decide) (by decide)) (@pa_nil _) (by rfl)) (by rfl)) (by decide) (by rfl) (by rfl)) (by rfl)) (@pss_cons _ _ _ _ _ (@ps_nSetF _ _ _ _ _ _ _ _ (@pvN _ 0 _ _ (by rfl) (by trivial) (by decide) (by decide)) (@pvN _ 1 _ _ (by rfl) (by trivial) (by decide) (by decide)) rfl) (@pss_one _ _ _ (@ps_nSetF _ _ _ _ _ _ _ _ (@pvN _ 0 _ _ (by rfl) (by trivial) (by decide) (by decide)) (@pvN _ 2 _ _ (by rfl) (by trivial) (by decide) (by decide)) rfl)))),?_⟩
  rw [show start ["self", "to", "source"] [.ref x,.ref u,.ref v]=[some (.ref x),some (.ref u),some (.ref v)] from rfl]
  clear G_refuse_two
  replace k:=fun (_:Unit)=>k
  simp! only [and_true]
  rw [c_spTwo]
  refine ⟨r,f1,f2,A,B,vu,vv,hA,hB,hc,fun H1 e1=>?_⟩
  have hx1:=e1.at hx
  have k2:=fun (_:Unit)=>k () (upd H1 x (.ins t.a_Copy dx [("to",.ref u),("source",.ref v)])) (fun H0 q0 q1=>(q0.trans e1).put q1) upd_same
  clear k hx
  simp! only [and_true]
  refine ⟨(show (1:Nat) < 1000 by decide),?_⟩
  simp! only [and_true]
  exact k2 ()
abbrev B_spSwapInit (C CV:Addr) (x:Addr) (u:Addr) (v:Addr) (H:Hp) (Q:VK) (E:XK):Prop:=∃ (dx:Addr) (r f1 f2:Int) (A B:List (Int × Int)),H x=some (.ins C dx [])∧ViewAt CV H u r f1 A∧ViewAt CV H v r f2 B∧Axes A∧Axes B∧prodL (A.map fun a=>a.1)=prodL (B.map fun a=>a.1)∧∀ H':Hp,(∀ H0,Ext H0 H->H0 x=none->Ext H0 H')->H' x=some (.ins C dx [("one",.ref u),("other",.ref v)])->Q .non H'
def spSwapInit (C CV:Addr):Sp:=fun vs H Q E=>∃ (x:Addr) (u:Addr) (v:Addr),vs=[.ref x,.ref u,.ref v]∧(B_spSwapInit C CV x u v H Q E)
theorem c_spSwapInit (C CV:Addr) (x:Addr) (u:Addr) (v:Addr) (H:Hp) (Q:VK) (E:XK):spSwapInit C CV [.ref x,.ref u,.ref v] H Q E=(B_spSwapInit C CV x u v H Q E):=spx3 (f:=fun (x:Addr) (u:Addr) (v:Addr)=>[.ref x,.ref u,.ref v]) (fun _ _ _ _ _ _ h=>by cases h;exact ⟨rfl,rfl,rfl⟩) x u v
theorem l_spSwapInit (C CV:Addr){vs:List V}{H:Hp}{Q:VK}{E:XK}(h:spSwapInit C CV vs H Q E):vs.length=3:=spl3 h fun _ _ _=>rfl
theorem ok_Swap___init__ (T:Tx K mg t):FnOk P w K mg base CX0 5 t.a_Swap___init__ t.d_Swap___init__ ["self", "one", "other"] (spSwapInit t.a_Swap t.a_View):=by
 have G_refuse_two:=ok_refuse_two (P:=P) (w:=w) (base:=base) T
 refine T.F_Swap___init__.ok c_Swap___init__ (fun vs H Q E h=>l_spSwapInit _ _ h) (fun cdv A' outer s H vs Q E hr h=>?_)
 ·obtain ⟨x,u,v,rfl,dx,r,f1,f2,A,B,hx,vu,vv,hA,hB,hc,k⟩:=h
  have c1:=T.cl_Swap
  have c2:=T.na_Swap_one
  have c3:=T.na_Swap_other
  refine ⟨_,(@pss_cons _ _ _ _ _ (@ps_expr _ _ _ _ (@pe_call _ _ _ _ _ _ _ _ _ _ _ _ _ _ _ _ G_refuse_two (hr.mono (by decide)) (by rfl) T.m_refuse_two T.F_refuse_two.kp T.b_refuse_two .nil pass0 (@pa_c _ _ _ _ _ (@pvN _ 1 _ _ (by rfl) (by trivial) (by decide) (by decide)) (@pa_c _ _ _ _ _ (@pvN _ 2 _ _ (by rfl) (by trivial) (by decide) (by decide)) (@pa_nil _) (by rfl)) (by rfl)) (by decide) (by rfl) (by rfl)) (by rfl)) (@pss_cons _ _ _ _ _ (@ps_nSetF _ _ _ _ _ _ _ _ (@pvN _ 0 _ _ (by rfl) (by trivial) (by decide) (by decide)) (@pvN _ 1 _ _ (by rfl) (by trivial) (by decide) (by decide)) rfl) (@pss_one _ _ _ (@ps_nSetF _ _ _ _ _ _ _ _ (@pvN _ 0 _ _ (by rfl) (by trivial) (by decide) (by decide)) (@pvN _ 2 _ _ (by rfl) (by trivial) (by decide) (by decide)) rfl)))),?_⟩
  rw [show start ["self", "one", "other"] [.ref x,.ref u,.ref v]=[some (.ref x),some (.ref u),some (.ref v)] from rfl]
  clear G_refuse_two
  replace k:=fun (_:Unit)=>k
  simp! only [and_true]
  rw [c_spTwo]
  refine ⟨r,f1,f2,A,B,vu,vv,hA,hB,hc,fun H1 e1=>?_⟩
  have hx1:=e1.at hx
  have k2:=fun (_:Unit)=>k () (upd H1 x (.ins t.a_Swap dx [("one",.ref u),("other",.ref v)])) (fun H0 q0 q1=>(q0.trans e1).put q1) upd_same
  clear k hx
  simp! only [and_true]
  refine ⟨(show (1:Nat) < 1000 by decide),?_⟩
  simp! only [and_true]
  exact k2 ()
abbrev B_spRaiseInit (C CV:Addr) (x:Addr) (u:Addr) (v:Addr) (H:Hp) (Q:VK) (E:XK):Prop:=∃ (dx:Addr) (r f1 f2:Int) (A B:List (Int × Int)),H x=some (.ins C dx [])∧ViewAt CV H u r f1 A∧ViewAt CV H v r f2 B∧Axes A∧Axes B∧prodL (A.map fun a=>a.1)=prodL (B.map fun a=>a.1)∧∀ H':Hp,(∀ H0,Ext H0 H->H0 x=none->Ext H0 H')->H' x=some (.ins C dx [("to",.ref u),("source",.ref v)])->Q .non H'
def spRaiseInit (C CV:Addr):Sp:=fun vs H Q E=>∃ (x:Addr) (u:Addr) (v:Addr),vs=[.ref x,.ref u,.ref v]∧(B_spRaiseInit C CV x u v H Q E)
theorem c_spRaiseInit (C CV:Addr) (x:Addr) (u:Addr) (v:Addr) (H:Hp) (Q:VK) (E:XK):spRaiseInit C CV [.ref x,.ref u,.ref v] H Q E=(B_spRaiseInit C CV x u v H Q E):=spx3 (f:=fun (x:Addr) (u:Addr) (v:Addr)=>[.ref x,.ref u,.ref v]) (fun _ _ _ _ _ _ h=>by cases h;exact ⟨rfl,rfl,rfl⟩) x u v
theorem l_spRaiseInit (C CV:Addr){vs:List V}{H:Hp}{Q:VK}{E:XK}(h:spRaiseInit C CV vs H Q E):vs.length=3:=spl3 h fun _ _ _=>rfl
theorem ok_Raise___init__ (T:Tx K mg t):FnOk P w K mg base CX0 5 t.a_Raise___init__ t.d_Raise___init__ ["self", "to", "source"] (spRaiseInit t.a_Raise t.a_View):=by
 have G_refuse_two:=ok_refuse_two (P:=P) (w:=w) (base:=base) T
 refine T.F_Raise___init__.ok c_Raise___init__ (fun vs H Q E h=>l_spRaiseInit _ _ h) (fun cdv A' outer s H vs Q E hr h=>?_)
 ·obtain ⟨x,u,v,rfl,dx,r,f1,f2,A,B,hx,vu,vv,hA,hB,hc,k⟩:=h
  have c1:=T.cl_Raise
  have c2:=T.na_Raise_to
  have c3:=T.na_Raise_source
  refine ⟨_,(@pss_cons _ _ _ _ _ (@ps_expr _ _ _ _ (@pe_call _ _ _ _ _ _ _ _ _ _ _ _ _ _ _ _ G_refuse_two (hr.mono (by decide)) (by rfl) T.m_refuse_two T.F_refuse_two.kp T.b_refuse_two .nil pass0 (@pa_c _ _ _ _ _ (@pvN _ 1 _ _ (by rfl) (by trivial) (by decide) (by decide)) (@pa_c _ _ _ _ _ (@pvN _ 2 _ _ (by rfl) (by trivial) (by decide) (by decide)) (@pa_nil _) (by rfl)) (by rfl)) (by decide) (by rfl) (by rfl)) (by rfl)) (@pss_cons _ _ _ _ _ (@ps_nSetF _ _ _ _ _ _ _ _ (@pvN _ 0 _ _ (by rfl) (by trivial) (by decide) (by decide)) (@pvN _ 1 _ _ (by rfl) (by trivial) (by decide) (by decide)) rfl) (@pss_one _ _ _ (@ps_nSetF _ _ _ _ _ _ _ _ (@pvN _ 0 _ _ (by rfl) (by trivial) (by decide) (by decide)) (@pvN _ 2 _ _ (by rfl) (by trivial) (by decide) (by decide)) rfl)))),?_⟩
  rw [show start ["self", "to", "source"] [.ref x,.ref u,.ref v]=[some (.ref x),some (.ref u),some (.ref v)] from rfl]
  clear G_refuse_two
  replace k:=fun (_:Unit)=>k
  simp! only [and_true]
  rw [c_spTwo]
  refine ⟨r,f1,f2,A,B,vu,vv,hA,hB,hc,fun H1 e1=>?_⟩
  have hx1:=e1.at hx
  have k2:=fun (_:Unit)=>k () (upd H1 x (.ins t.a_Raise dx [("to",.ref u),("source",.ref v)])) (fun H0 q0 q1=>(q0.trans e1).put q1) upd_same
  clear k hx
  simp! only [and_true]
  refine ⟨(show (1:Nat) < 1000 by decide),?_⟩
  simp! only [and_true]
  exact k2 ()
theorem len100k {n:Nat}(h:n≤100000):n≤sizeLine:=Nat.le_trans h (by decide)
def VwC (C:Addr) (H:Hp) (x:Addr) (room:Int) (cs:List Int):Prop:=∃ f A,ViewAt C H x room f A∧Axes A∧prodL (A.map fun a=>a.1)≤4096∧cellsL f A=cs
theorem VwC.ext {C:Addr}{H H':Hp}{x:Addr}{room:Int}{cs:List Int}(h:VwC C H x room cs) (e:Ext H H'):VwC C H' x room cs:=by
 obtain ⟨f,A,h1,h2⟩:=h
 exact ⟨f,A,h1.ext e,h2⟩
theorem VwC.len {C:Addr}{H:Hp}{x:Addr}{room:Int}{cs:List Int}(h:VwC C H x room cs):cs.length≤4096:=by
 obtain ⟨f,A,_,h2,h3,rfl⟩:=h
 have:=cellsL_len f A fun a ha=>(h2.2 a ha).1
 omega
def VwL (C:Addr) (H:Hp) (room:Int) (cel:Addr->List Int) (xs:List Addr):Prop:=∀ x∈xs,VwC C H x room (cel x)
theorem VwL.ext {C:Addr}{H H':Hp}{room:Int}{cel:Addr->List Int}{xs:List Addr}(h:VwL C H room cel xs) (e:Ext H H'):VwL C H' room cel xs:=fun x hx=>(h x hx).ext e
theorem at_zero {xs:List Addr}{x:Addr}{ys:List Addr}(h:xs=x::ys):atI (xs.map V.ref) 0=some (.ref x):=by rw [h];exact atI_nat (show ((x::ys).map V.ref)[0]? = some (.ref x) from rfl)
abbrev B_spRViews (C:Addr) (p:Addr) (H:Hp) (Q:VK) (E:XK):Prop:=∃ (xs:List Addr) (room:Int) (cel:Addr->List Int),H p=some (.lst (xs.map V.ref))∧VwL C H room cel xs∧∀ H',Ext H H'->Q .non H'
def spRViews (C:Addr):Sp:=fun vs H Q E=>∃ (p:Addr),vs=[.ref p]∧(B_spRViews C p H Q E)
theorem c_spRViews (C:Addr) (p:Addr) (H:Hp) (Q:VK) (E:XK):spRViews C [.ref p] H Q E=(B_spRViews C p H Q E):=spx1 (f:=fun (p:Addr)=>[.ref p]) (fun _ _ h=>by cases h;exact rfl) p
theorem l_spRViews (C:Addr){vs:List V}{H:Hp}{Q:VK}{E:XK}(h:spRViews C vs H Q E):vs.length=1:=spl1 h fun _=>rfl
theorem ok_refuse_views (T:Tx K mg t):FnOk P w K mg base CX0 4 t.a_refuse_views t.d_refuse_views ["views"] (spRViews t.a_View):=by
 have G_refuse_rooms:=ok_refuse_rooms (P:=P) (w:=w) (base:=base) T
 have G_View_count:=ok_View_count (P:=P) (w:=w) (base:=base) T
 have G_refuse_long:=ok_refuse_long (P:=P) (w:=w) (base:=base) T
 refine T.F_refuse_views.ok c_refuse_views (fun vs H Q E h=>l_spRViews _ h) (fun cdv A outer s H vs Q E hr h=>?_)
 ·obtain ⟨p,rfl,xs,room,cel,hp,hv,k⟩:=h
  have c1:=T.cl_View
  refine ⟨_,(@pss_cons _ _ _ _ _ (@ps_for _ _ _ _ _ _ _ _ PassesOwn.never rfl (@pi_seq _ _ _ _ (@pvN _ 0 _ _ (by rfl) (by trivial) (by decide) (by decide))) (@pg_name _ _ (1) _ c_refuse_views.nd rfl (Or.inl rfl) (by trivial)) (@pss_one _ _ _ (@ps_expr _ _ _ _ (@pe_call _ _ _ _ _ _ _ _ _ _ _ _ _ _ _ _ G_refuse_rooms (hr.mono (by decide)) (by rfl) T.m_refuse_rooms T.F_refuse_rooms.kp T.b_refuse_rooms .nil pass0 (@pa_c _ _ _ _ _ (@pe_ix _ _ _ _ _ _ _ ix_q (@pvN _ 0 _ _ (by rfl) (by trivial) (by decide) (by decide)) (@pe_int _ _ _ _) (fun _ _=>rfl)) (@pa_c _ _ _ _ _ (@pvN _ 1 _ _ (by rfl) (by trivial) (by decide) (by decide)) (@pa_nil _) (by rfl)) (by rfl)) (by decide) (by rfl) (by rfl)) (by rfl))) (by intros;rfl)) (@pss_one _ _ _ (@ps_for _ _ _ _ _ _ _ _ PassesOwn.never rfl (@pi_seq _ _ _ _ (@pvN _ 0 _ _ (by rfl) (by trivial) (by decide) (by decide))) (@pg_name _ _ (1) _ c_refuse_views.nd rfl (Or.inl rfl) (by trivial)) (@pss_one _ _ _ (@ps_expr _ _ _ _ (@pe_call _ _ _ _ _ _ _ _ _ _ _ _ _ _ _ _ G_refuse_long (hr.mono (by decide)) (by rfl) T.m_refuse_long T.F_refuse_long.kp T.b_refuse_long .nil pass0 (@pa_c _ _ _ _ _ (@pe_nMeth0 _ _ _ _ _ _ _ _ _ _ _ _ _ _ _ _ _ (@pvN _ 1 _ _ (by rfl) (by trivial) (by decide) (by decide)) T.cl_View T.mt_View_count G_View_count (hr.mono (by decide)) T.b_View_count .nil pass0 (by rfl)) (@pa_nil _) (by rfl)) (by decide) (by rfl) (by rfl)) (by rfl))) (by intros;rfl)))),?_⟩
  rw [show start ["views", "view"] [.ref p]=[some (.ref p),none] from rfl]
  clear G_refuse_rooms G_View_count G_refuse_long
  replace k:=fun (_:Unit)=>k
  replace hv:=fun (_:Unit)=>hv
  simp! only [and_true]
  refine for_lst (xs:=xs.map V.ref) (fun i σ H'=>∃ v:Option V,σ=[some (.ref p),v]∧Ext H H') ⟨none,rfl,Ext.refl _⟩ (fun i σ H' _ ⟨_,_,e⟩=>e.at hp) ?_ ?_
  ·rintro i y _ H1 hi ⟨v,rfl,e1⟩
   obtain ⟨x,hx,rfl⟩:=List.mem_map.mp (List.mem_of_getElem? hi)
   obtain ⟨x0,ys,hxs⟩:∃ x0 ys,xs=x0::ys:=by
    cases xs with
    | nil=>cases hx
    | cons a b=>exact ⟨a,b,rfl⟩
   have hat:=at_zero hxs
   have hp1:=e1.at hp
   obtain ⟨f0,A0,w0,_⟩:=hv () x0 (by rw [hxs];exact List.mem_cons_self)
   obtain ⟨f1,A1,w1,_⟩:=hv () x hx
   clear hi hxs hp
   simp! only [↓m_kBody]
   rw [c_spRooms]
   refine ⟨room,f0,f1,A0,A1,w0.ext e1,w1.ext e1,?_⟩
   simp! only [and_true]
   exact ⟨_,rfl,e1⟩
  ·rintro _ H1 ⟨v,rfl,e1⟩
   have hp1:=e1.at hp
   simp! only [and_true]
   refine for_lst (xs:=xs.map V.ref) (fun i σ H'=>∃ v:Option V,σ=[some (.ref p),v]∧Ext H H') ⟨_,rfl,e1⟩ (fun i σ H' _ ⟨_,_,e⟩=>e.at hp) ?_ ?_
   ·clear e1 hp1
    rintro i y _ H2 hi ⟨v,rfl,e2⟩
    obtain ⟨x,hx,rfl⟩:=List.mem_map.mp (List.mem_of_getElem? hi)
    obtain ⟨f1,A1,w1,hA,hn,_⟩:=hv () x hx
    have w2:=w1.ext e2
    obtain ⟨dy,D,hv2,_⟩:=w2.ob
    have f3:=vn room f1 D (m := "count") (by decide +kernel)
    clear hi hp
    simp! only [↓m_kBody]
    rw [c_spVCount]
    refine ⟨room,f1,A1,w2,hA,fun H3 e3=>?_⟩
    simp! only [and_true]
    rw [c_spLong]
    refine ⟨fun _=>?_,by omega⟩
    have e23:=e2.trans e3
    clear w1 w2 hv2
    simp! only [and_true]
    exact ⟨_,rfl,e23⟩
   ·rintro _ H2 ⟨v,rfl,e2⟩
    have k2:=k () H2 e2
    clear k
    simp! only [and_true]
def tabB (ks:List Int):List (Key × V):=ks.map fun k=>(.inl k,.bl true)
def insK (ks:List Int) (c:Int):List Int:=if c∈ks then ks else ks++[c]
theorem tab_any:∀ (ks:List Int) (c:Int),((tabB ks).any fun kv=>decide (kv.1=(.inl c:Key)))=decide (c∈ks)
 | [],c=>by simp [tabB]
 | k::ks,c=>by
  have ih:=tab_any ks c
  show (decide ((.inl k:Key)=.inl c) || ((tabB ks).any fun kv=>decide (kv.1=(.inl c:Key))))=_
  rw [ih]
  by_cases h:k=c
  ·subst h;simp
  ·have h1:¬ (.inl k:Key)=.inl c:=fun e=>h (Sum.inl.inj e)
   rw [decide_eq_false h1,Bool.false_or]
   by_cases h2:c∈ks
   ·rw [decide_eq_true h2,decide_eq_true (List.mem_cons_of_mem _ h2)]
   ·rw [decide_eq_false h2,decide_eq_false (fun z=>(List.mem_cons.mp z).elim (fun e=>h e.symm) h2)]
theorem put_tabB (ks:List Int) (c:Int):putK (tabB ks) (.inl c:Key) (.bl true)=tabB (insK ks c):=by
 unfold putK insK
 rw [tab_any]
 by_cases h:c∈ks
 ·rw [if_pos (decide_eq_true h),if_pos h]
  unfold tabB
  rw [List.map_map]
  refine List.map_congr_left fun k _=>?_
  show (if (.inl k:Key)=.inl c then _ else _)=_
  split<;>rfl
 ·rw [if_neg (by rw [decide_eq_false h];decide),if_neg h]
  unfold tabB
  rw [List.map_append];rfl
theorem val_tabB:∀ (ks:List Int) (c:Int),(valV (tabB ks) (.inl c:Key)).isSome=decide (c∈ks)
 | [],c=>by simp [tabB,valV]
 | k::ks,c=>by
  by_cases h:k=c
  ·subst h
   rw [show tabB (k::ks)=((.inl k,.bl true):Key × V)::tabB ks from rfl,valV_pos rfl,decide_eq_true List.mem_cons_self];rfl
  ·rw [show tabB (k::ks)=((.inl k,.bl true):Key × V)::tabB ks from rfl,valV_neg (fun e=>h (Sum.inl.inj e)),val_tabB ks c]
   by_cases h2:c∈ks
   ·rw [decide_eq_true h2,decide_eq_true (List.mem_cons_of_mem _ h2)]
   ·rw [decide_eq_false h2,decide_eq_false (fun z=>(List.mem_cons.mp z).elim (fun e=>h e.symm) h2)]
theorem ins_mem (ks:List Int) (c x:Int):x∈insK ks c ↔ x∈ks∨x=c:=by
 unfold insK
 by_cases h:c∈ks
 ·rw [if_pos h]
  exact ⟨.inl,fun z=>z.elim id fun e=>by rw [e];exact h⟩
 ·rw [if_neg h,List.mem_append,List.mem_singleton]
theorem ins_len (ks:List Int) (c:Int):(insK ks c).length≤ks.length+1:=by
 unfold insK
 split
 ·omega
 ·rw [List.length_append,List.length_singleton];omega
theorem tabB_len (ks:List Int):(tabB ks).length=ks.length:=by unfold tabB;rw [List.length_map]
def CoI (H H':Hp) (d:Addr) (S:List Int) (n:Nat):Prop:=∃ ks,Ext H H'∧H' d=some (.dK (tabB ks))∧(∀ c,c∈ks ↔ c∈S)∧ks.length≤n
abbrev B_spCellsOf (C:Addr) (p:Addr) (H:Hp) (Q:VK) (E:XK):Prop:=∃ (xs:List Addr) (room:Int) (cel:Addr->List Int),H p=some (.lst (xs.map V.ref))∧xs.length≤8∧VwL C H room cel xs∧∀ (d:Addr) (H':Hp),H d=none->CoI H H' d (xs.flatMap cel) 40000->Q (.ref d) H'
def spCellsOf (C:Addr):Sp:=fun vs H Q E=>∃ (p:Addr),vs=[.ref p]∧(B_spCellsOf C p H Q E)
theorem c_spCellsOf (C:Addr) (p:Addr) (H:Hp) (Q:VK) (E:XK):spCellsOf C [.ref p] H Q E=(B_spCellsOf C p H Q E):=spx1 (f:=fun (p:Addr)=>[.ref p]) (fun _ _ h=>by cases h;exact rfl) p
theorem l_spCellsOf (C:Addr){vs:List V}{H:Hp}{Q:VK}{E:XK}(h:spCellsOf C vs H Q E):vs.length=1:=spl1 h fun _=>rfl
theorem ok_cells_of (T:Tx K mg t):FnOk P w K mg base CX0 5 t.a_cells_of t.d_cells_of ["views"] (spCellsOf t.a_View):=by
 have G_View_cells:=ok_View_cells (P:=P) (w:=w) (base:=base) T
 refine T.F_cells_of.ok c_cells_of (fun vs H Q E h=>l_spCellsOf _ h) (fun cdv A outer s H vs Q E hr h=>?_)
 ·obtain ⟨p,rfl,xs,room,cel,hp,hxl,hv,k⟩:=h
  have c1:=T.cl_View
  refine ⟨_,(@pss_cons _ _ _ _ _ (@ps_set _ _ (1) _ _ _ _ c_cells_of.nd rfl (Or.inl rfl) (@pe_nDNew _ _) (by rfl) (by trivial)) (@pss_cons _ _ _ _ _ (@ps_for _ _ _ _ _ _ _ _ PassesOwn.never rfl (@pi_seq _ _ _ _ (@pvN _ 0 _ _ (by rfl) (by trivial) (by decide) (by decide))) (@pg_name _ _ (2) _ c_cells_of.nd rfl (Or.inl rfl) (by trivial)) (@pss_one _ _ _ (@ps_for _ _ _ _ _ _ _ _ PassesOwn.never rfl (@pi_seq _ _ _ _ (@pe_nMeth0 _ _ _ _ _ _ _ _ _ _ _ _ _ _ _ _ _ (@pvN _ 2 _ _ (by rfl) (by trivial) (by decide) (by decide)) T.cl_View T.mt_View_cells G_View_cells (hr.mono (by decide)) T.b_View_cells .nil pass0 (by rfl))) (@pg_name _ _ (3) _ c_cells_of.nd rfl (Or.inl rfl) (by trivial)) (@pss_one _ _ _ (@ps_dput _ _ _ _ _ _ _ _ _ (units1 hr.units) (@pvN _ 1 _ _ (by rfl) (by trivial) (by decide) (by decide)) (@pvN _ 3 _ _ (by rfl) (by trivial) (by decide) (by decide)) (@pe_bl _ _ _ _) rfl)) (by intros;rfl))) (by intros;rfl)) (@pss_one _ _ _ (@ps_ret _ _ _ _ (@pvN _ 1 _ _ (by rfl) (by trivial) (by decide) (by decide)))))),?_⟩
  rw [show start ["views", "found", "view", "cell"] [.ref p]=[some (.ref p),none,none,none] from rfl]
  clear G_View_cells
  replace k:=fun (_:Unit)=>k
  replace hv:=fun (_:Unit)=>hv
  simp! only [and_true]
  intro d H1 hd e1 h1
  have hp1:=e1.at hp
  have ini:CoI H H1 d ((xs.take 0).flatMap cel) (4096 * 0):=⟨[],e1,h1,(fun c=>by simp),Nat.zero_le _⟩
  clear h1 e1
  simp! only [and_true]
  refine for_lst (xs:=xs.map V.ref) (fun i σ H'=>∃ v2 v3:Option V,σ=[some (.ref p),some (.ref d),v2,v3]∧CoI H H' d ((xs.take i).flatMap cel) (4096 * i)) ⟨none,none,rfl,ini⟩ (fun i σ H' _ ⟨_,_,_,_,e,_⟩=>e.at hp) ?_ ?_
  ·clear ini hp1
   rintro i y _ H2 hi ⟨v2,v3,rfl,ks,e2,h2,hks,hkl⟩
   rw [List.getElem?_map] at hi
   obtain ⟨x,hix,rfl⟩:=Option.map_eq_some_iff.mp hi
   have hx:=List.mem_of_getElem? hix
   have hil:i < xs.length:=(List.getElem?_eq_some_iff.mp hix).1
   have hvx:=hv () x hx
   have hcl:=hvx.len
   obtain ⟨f1,A1,w1,hA,hn,hce⟩:=hvx.ext e2
   obtain ⟨dy,D,hv2,_⟩:=w1.ob
   have f3:=vn room f1 D (m := "cells") (by decide +kernel)
   replace hks:=fun (_:Unit)=>hks
   clear hi hvx
   simp! only [↓m_kBody]
   rw [c_spCells]
   refine ⟨room,f1,A1,w1,hA,fun _ r H3 hr3 e3 h3=>?_,by omega⟩
   rw [hce] at h3
   have h2_3:=e3.at h2
   have nrd:r ≠ d:=fun e=>by rw [e,h2] at hr3;cases hr3
   have hS:(xs.take (i+1)).flatMap cel=(xs.take i).flatMap cel++cel x:=by rw [List.take_add_one,hix,List.flatMap_append];simp
   have ini:CoI H H3 d ((xs.take i).flatMap cel++(cel x).take 0) (4096 * i+0):=⟨ks,e2.trans e3,h2_3,(fun c=>by rw [List.take_zero,List.append_nil];exact hks () c),hkl⟩
   replace hS:=fun (_:Unit)=>hS
   clear w1 hv2 hks h2 h2_3 hce
   simp! only [and_true]
   refine for_lst (xs:=(cel x).map V.int) (fun j σ H'=>∃ v3:Option V,σ=[some (.ref p),some (.ref d),some (.ref x),v3]∧H' r=some (.lst ((cel x).map V.int))∧CoI H H' d ((xs.take i).flatMap cel++(cel x).take j) (4096 * i+j)) ⟨_,rfl,h3,ini⟩ (fun j σ H' _ ⟨_,_,h,_⟩=>h) ?_ ?_
   ·clear ini h3
    rintro j y _ H4 hj ⟨v3,rfl,h4r,ks,e4,h4,hks,hkl4⟩
    rw [List.getElem?_map] at hj
    obtain ⟨c,hjc,rfl⟩:=Option.map_eq_some_iff.mp hj
    have hjl:j < (cel x).length:=(List.getElem?_eq_some_iff.mp hjc).1
    have fin:CoI H (upd H4 d (.dK (tabB (insK ks c)))) d ((xs.take i).flatMap cel++(cel x).take (j+1)) (4096 * i+(j+1)):=⟨insK ks c,e4.put hd,upd_same,(fun z=>by
     rw [ins_mem,hks z,List.take_add_one,hjc,List.mem_append,List.mem_append,List.mem_append]
     show _∨z=c ↔ _∨_∨z∈[c]
     rw [List.mem_singleton,or_assoc]),by have:=ins_len ks c;omega⟩
    have hr4:upd H4 d (.dK (tabB (insK ks c))) r=some (.lst ((cel x).map V.int)):=by rw [upd_ne nrd];exact h4r
    have hlim:(tabB ks).length < sizeLine:=by rw [tabB_len];exact len100k (by omega)
    replace hks:=fun (_:Unit)=>hks
    clear hj
    simp! only [↓m_kBody]
    refine use_dp (k:=.inl c) h4 hlim ?_
    rw [put_tabB]
    exact ⟨_,rfl,hr4,fin⟩
   ·rintro _ H4 ⟨v3,rfl,h4r,ks,e4,h4,hks,hkl4⟩
    rw [List.length_map] at hks hkl4
    rw [List.take_length,←hS ()] at hks
    have fin:CoI H H4 d ((xs.take (i+1)).flatMap cel) (4096 * (i+1)):=⟨ks,e4,h4,hks,by omega⟩
    clear hks h4 e4 h4r
    simp! only [and_true]
    first|exact ⟨_,_,rfl,fin⟩|exact ⟨_,_,rfl⟩
  ·rintro _ H2 ⟨v2,v3,rfl,ks,e2,h2,hks,hkl⟩
   rw [List.length_map] at hks hkl
   rw [List.take_length] at hks
   have k2:=k () d H2 hd ⟨ks,e2,h2,hks,by omega⟩
   clear k hks
   simp! only [and_true]
def MtP (S R:List Int):Prop:=∃ c,c∈S∧c∈R
theorem tab_mem {ks:List Int}{z:Key × V}(h:z∈tabB ks):∃ c:Int,c∈ks∧z=(.inl c,.bl true):=by
 obtain ⟨c,hc,rfl⟩:=List.mem_map.mp h
 exact ⟨c,hc,rfl⟩
def keyC (z:Key × V):Int:=match z.1 with
 | .inl c=>c
 | _=>0
abbrev B_spMeet (C:Addr) (p:Addr) (q:Addr) (H:Hp) (Q:VK) (E:XK):Prop:=∃ (xs ys:List Addr) (room:Int) (cel:Addr->List Int),H p=some (.lst (xs.map V.ref))∧H q=some (.lst (ys.map V.ref))∧xs.length≤8∧ys.length≤8∧VwL C H room cel xs∧VwL C H room cel ys∧∀ (b:Bool) (H':Hp),Ext H H'->(b=true ↔ MtP (xs.flatMap cel) (ys.flatMap cel))->Q (.bl b) H'
def spMeet (C:Addr):Sp:=fun vs H Q E=>∃ (p:Addr) (q:Addr),vs=[.ref p,.ref q]∧(B_spMeet C p q H Q E)
theorem c_spMeet (C:Addr) (p:Addr) (q:Addr) (H:Hp) (Q:VK) (E:XK):spMeet C [.ref p,.ref q] H Q E=(B_spMeet C p q H Q E):=spx2 (f:=fun (p:Addr) (q:Addr)=>[.ref p,.ref q]) (fun _ _ _ _ h=>by cases h;exact ⟨rfl,rfl⟩) p q
theorem l_spMeet (C:Addr){vs:List V}{H:Hp}{Q:VK}{E:XK}(h:spMeet C vs H Q E):vs.length=2:=spl2 h fun _ _=>rfl
theorem ok_meet (T:Tx K mg t):FnOk P w K mg base CX0 6 t.a_meet t.d_meet ["some", "others"] (spMeet t.a_View):=by
 have G_cells_of:=ok_cells_of (P:=P) (w:=w) (base:=base) T
 refine T.F_meet.ok c_meet (fun vs H Q E h=>l_spMeet _ h) (fun cdv A outer s H vs Q E hr h=>?_)
 ·obtain ⟨p,q,rfl,xs,ys,room,cel,hp,hq,hxl,hyl,hv,hw,k⟩:=h
  refine ⟨_,(@pss_cons _ _ _ _ _ (@ps_set _ _ (2) _ _ _ _ c_meet.nd rfl (Or.inr rfl) (@pe_call _ _ _ _ _ _ _ _ _ _ _ _ _ _ _ _ G_cells_of (hr.mono (by decide)) (by rfl) T.m_cells_of T.F_cells_of.kp T.b_cells_of .nil pass0 (@pa_c _ _ _ _ _ (@pvN _ 1 _ _ (by rfl) (by trivial) (by decide) (by decide)) (@pa_nil _) (by rfl)) (by decide) (by rfl) (by rfl)) (by rfl) (by trivial)) (@pss_one _ _ _ (@ps_ret _ _ _ _ (@pe_callB _ _ _ _ _ _ _ ("any") _ (call_qAny rfl) (by rfl) T.z_any (by decide +kernel) (@pa_c _ _ _ _ _ (@pe_comp _ _ _ _ _ _ _ _ _ _ _ (["cell", "some", "others", "cells"]) (1) (comp_ok (defScope s_meet) ["some", "others", "cells"] rfl rfl (by decide +kernel)) rfl (@pi_dict _ _ _ _ (@pe_call _ _ _ _ _ _ _ _ _ _ _ _ _ _ _ _ G_cells_of (hr.mono (by decide)) (by rfl) T.m_cells_of T.F_cells_of.kp T.b_cells_of .nil pass0 (@pa_c _ _ _ _ _ (@pvN _ 0 _ _ (by rfl) (by trivial) (by decide) (by decide)) (@pa_nil _) (by rfl)) (by decide) (by rfl) (by rfl))) (fun C s₀ H₀ ex pn=>(@pg_name _ _ (0) _ (show List.Nodup (["cell", "some", "others", "cells"]:List Str) from by decide +kernel) rfl (Or.inl rfl) (by trivial))) (fun C s₀ H₀ ex pn=>(@pts_nil _)) (fun C s₀ H₀ ex pn=>(@pe_cmpR _ _ _ _ _ _ _ _ (op_inD (units1 hr.units)) (@pvN _ 0 _ _ (by rfl) (by trivial) (by decide) (by decide)) (@pvN _ 3 _ _ (by rfl) (by trivial) (by decide) (by decide)) (by with_unfolding_all rfl))) (by intros;rfl)) (@pa_nil _) (by rfl)) (by decide) (by decide) (by rfl) (by rfl))))),?_⟩
  rw [show start ["some", "others", "cells"] [.ref p,.ref q]=[some (.ref p),some (.ref q),none] from rfl]
  clear G_cells_of
  replace k:=fun (_:Unit)=>k
  replace hv:=fun (_:Unit)=>hv
  replace hw:=fun (_:Unit)=>hw
  simp! only [and_true]
  rw [c_spCellsOf]
  refine ⟨ys,room,cel,hq,hyl,hw (),fun d1 H1 hd1 ⟨k1,e1,h1,hk1,hl1⟩=>?_⟩
  replace hk1:=fun (_:Unit)=>hk1
  have hp1:=e1.at hp
  simp! only [and_true]
  rw [c_spCellsOf]
  refine ⟨xs,room,cel,hp1,hxl,(hv ()).ext e1,fun d2 H2 hd2 ⟨k2,e2,h2,hk2,hl2⟩=>?_⟩
  replace hk2:=fun (_:Unit)=>hk2
  have h1_2:=e2.at h1
  have nd:d1 ≠ d2:=fun e=>by rw [←e,h1] at hd2;cases hd2
  clear hp hq hp1 h1
  refine use_cdN (fun _=>true) (fun z=>.bl (decide (keyC z∈k1))) h2 (by rw [tabB_len];exact len100k (by omega)) ?_ ?_
  ·intro D ob z H' N1 N0 hz hD e hfr kk1 _
   obtain ⟨c,hc,rfl⟩:=tab_mem hz
   have h1':H' d1=some (.dK (tabB k1)):=e.at (by rw [upd_ne nd];exact h1_2)
   have kk2:N1 (.bl (valV (tabB k1) (.inl c:Key)).isSome) H':=by rw [val_tabB];exact kk1 rfl H' (Ext.refl _)
   clear kk1 hz hfr k hk1 hk2
   show gName _ (V.int c) _ _ _
   simp! only [↓m_kCm_1,↓m_kCm2]
   exact use_in (k:=.inl c) h1' kk2
  ·intro D ob H3 hD e3 h3
   rw [filt] at h3
   have hbl:(tabB k2).map (fun z=>V.bl (decide (keyC z∈k1)))=(k2.map fun c=>decide (c∈k1)).map V.bl:=by
    unfold tabB
    rw [List.map_map,List.map_map];rfl
   rw [hbl] at h3
   have e03:Ext H H3:=by
    have hd20:H d2=none:=e1.free hd2
    exact ((e1.trans e2).put hd20).trans e3
   have hany:(k2.map fun c=>decide (c∈k1)).any id=true ↔ MtP (xs.flatMap cel) (ys.flatMap cel):=by
    rw [List.any_map,List.any_eq_true]
    constructor
    ·rintro ⟨c,hc,h⟩
     exact ⟨c,(hk2 () c).mp hc,(hk1 () c).mp (of_decide_eq_true h)⟩
    ·rintro ⟨c,hc,h⟩
     exact ⟨c,(hk2 () c).mpr hc,decide_eq_true ((hk1 () c).mpr h)⟩
   generalize (k2.map fun c=>decide (c∈k1))=bs at *
   have kf:=k () (bs.any id) H3 e03 hany
   clear k hk1 hk2 hany hbl
   simp! only [and_true]
def ClaP (cel:Addr->List Int) (w1:Nat) (u1 v1:Addr) (w2:Nat) (u2 v2:Addr):Prop:=MtP ((wrs w1 u1 v1).flatMap cel) ((wrs w2 u2 v2++rds w2 u2 v2).flatMap cel)∨MtP ((wrs w2 u2 v2).flatMap cel) ((rds w1 u1 v1).flatMap cel)
abbrev B_spClash (t:Adr) (s1:Addr) (s2:Addr) (H:Hp) (Q:VK) (E:XK):Prop:=∃ (w1:Nat) (u1 v1:Addr) (w2:Nat) (u2 v2:Addr) (room:Int) (cel:Addr->List Int),StAt t H s1 w1 u1 v1∧StAt t H s2 w2 u2 v2∧VwL t.a_View H room cel (wrs w1 u1 v1++rds w1 u1 v1)∧VwL t.a_View H room cel (wrs w2 u2 v2++rds w2 u2 v2)∧∀ (b:Bool) (H':Hp),Ext H H'->(b=true ↔ ClaP cel w1 u1 v1 w2 u2 v2)->Q (.bl b) H'
def spClash (t:Adr):Sp:=fun vs H Q E=>∃ (s1:Addr) (s2:Addr),vs=[.ref s1,.ref s2]∧(B_spClash t s1 s2 H Q E)
theorem c_spClash (t:Adr) (s1:Addr) (s2:Addr) (H:Hp) (Q:VK) (E:XK):spClash t [.ref s1,.ref s2] H Q E=(B_spClash t s1 s2 H Q E):=spx2 (f:=fun (s1:Addr) (s2:Addr)=>[.ref s1,.ref s2]) (fun _ _ _ _ h=>by cases h;exact ⟨rfl,rfl⟩) s1 s2
theorem l_spClash (t:Adr){vs:List V}{H:Hp}{Q:VK}{E:XK}(h:spClash t vs H Q E):vs.length=2:=spl2 h fun _ _=>rfl
theorem VwL.left {C:Addr}{H:Hp}{room:Int}{cel:Addr->List Int}{xs ys:List Addr}(h:VwL C H room cel (xs++ys)):VwL C H room cel xs:=fun x hx=>h x (List.mem_append_left _ hx)
theorem VwL.right {C:Addr}{H:Hp}{room:Int}{cel:Addr->List Int}{xs ys:List Addr}(h:VwL C H room cel (xs++ys)):VwL C H room cel ys:=fun x hx=>h x (List.mem_append_right _ hx)
theorem VwL.app {C:Addr}{H:Hp}{room:Int}{cel:Addr->List Int}{xs ys:List Addr}(h:VwL C H room cel xs) (h':VwL C H room cel ys):VwL C H room cel (xs++ys):=fun x hx=>(List.mem_append.mp hx).elim (h x) (h' x)
theorem ok_clash (T:Tx K mg t):FnOk P w K mg base CX0 7 t.a_clash t.d_clash ["one", "other"] (spClash t):=by
 have G_views_of:=ok_views_of (P:=P) (w:=w) (base:=base) T
 have G_refuse_views:=ok_refuse_views (P:=P) (w:=w) (base:=base) T
 have G_meet:=ok_meet (P:=P) (w:=w) (base:=base) T
 have MD_writes:=MDw (P:=P) (w:=w) (base:=base) T
 have MD_reads:=MDr (P:=P) (w:=w) (base:=base) T
 refine T.F_clash.ok c_clash (fun vs H Q E h=>l_spClash _ h) (fun cdv A outer s H vs Q E hr h=>?_)
 ·obtain ⟨s1,s2,rfl,w1,u1,v1,w2,u2,v2,room,cel,hs1,hs2,hv1,hv2,k⟩:=h
  refine ⟨_,(@pss_cons _ _ _ _ _ (@ps_expr _ _ _ _ (@pe_call _ _ _ _ _ _ _ _ _ _ _ _ _ _ _ _ G_refuse_views (hr.mono (by decide)) (by rfl) T.m_refuse_views T.F_refuse_views.kp T.b_refuse_views .nil pass0 (@pa_c _ _ _ _ _ (@pe_op _ _ _ _ _ _ _ _ op_nCat (@pe_call _ _ _ _ _ _ _ _ _ _ _ _ _ _ _ _ G_views_of (hr.mono (by decide)) (by rfl) T.m_views_of T.F_views_of.kp T.b_views_of .nil pass0 (@pa_c _ _ _ _ _ (@pvN _ 0 _ _ (by rfl) (by trivial) (by decide) (by decide)) (@pa_nil _) (by rfl)) (by decide) (by rfl) (by rfl)) (@pe_call _ _ _ _ _ _ _ _ _ _ _ _ _ _ _ _ G_views_of (hr.mono (by decide)) (by rfl) T.m_views_of T.F_views_of.kp T.b_views_of .nil pass0 (@pa_c _ _ _ _ _ (@pvN _ 1 _ _ (by rfl) (by trivial) (by decide) (by decide)) (@pa_nil _) (by rfl)) (by decide) (by rfl) (by rfl))) (@pa_nil _) (by rfl)) (by decide) (by rfl) (by rfl)) (by rfl)) (@pss_one _ _ _ (@ps_ret _ _ _ _ (@pe_orN _ _ _ _ _ _ _ (@pe_call _ _ _ _ _ _ _ _ _ _ _ _ _ _ _ _ G_meet (hr.mono (by decide)) (by rfl) T.m_meet T.F_meet.kp T.b_meet .nil pass0 (@pa_c _ _ _ _ _ (@pe_nMethD _ _ _ _ _ _ _ _ _ _ _ _ _ (@pvN _ 0 _ _ (by rfl) (by trivial) (by decide) (by decide)) MD_writes (hr.mono (by decide)) pass0 (by rfl)) (@pa_c _ _ _ _ _ (@pe_call _ _ _ _ _ _ _ _ _ _ _ _ _ _ _ _ G_views_of (hr.mono (by decide)) (by rfl) T.m_views_of T.F_views_of.kp T.b_views_of .nil pass0 (@pa_c _ _ _ _ _ (@pvN _ 1 _ _ (by rfl) (by trivial) (by decide) (by decide)) (@pa_nil _) (by rfl)) (by decide) (by rfl) (by rfl)) (@pa_nil _) (by rfl)) (by rfl)) (by decide) (by rfl) (by rfl)) (@pe_one _ _ _ _ _ (@pe_call _ _ _ _ _ _ _ _ _ _ _ _ _ _ _ _ G_meet (hr.mono (by decide)) (by rfl) T.m_meet T.F_meet.kp T.b_meet .nil pass0 (@pa_c _ _ _ _ _ (@pe_nMethD _ _ _ _ _ _ _ _ _ _ _ _ _ (@pvN _ 1 _ _ (by rfl) (by trivial) (by decide) (by decide)) MD_writes (hr.mono (by decide)) pass0 (by rfl)) (@pa_c _ _ _ _ _ (@pe_nMethD _ _ _ _ _ _ _ _ _ _ _ _ _ (@pvN _ 0 _ _ (by rfl) (by trivial) (by decide) (by decide)) MD_reads (hr.mono (by decide)) pass0 (by rfl)) (@pa_nil _) (by rfl)) (by rfl)) (by decide) (by rfl) (by rfl))))))),?_⟩
  rw [show start ["one", "other"] [.ref s1,.ref s2]=[some (.ref s1),some (.ref s2)] from rfl]
  clear G_views_of G_refuse_views G_meet MD_writes MD_reads
  have l1:=wr_len w1 u1 v1
  have l2:=wr_len w2 u2 v2
  replace k:=fun (_:Unit)=>k
  replace hv1:=fun (_:Unit)=>hv1
  replace hv2:=fun (_:Unit)=>hv2
  simp! only [and_true]
  rw [c_spViewsOf]
  refine ⟨w1,u1,v1,hs1,fun r1 H1 e1 h1=>?_⟩
  simp! only [and_true]
  rw [c_spViewsOf]
  refine ⟨w2,u2,v2,hs2.ext e1,fun r2 H2 e2 h2=>?_⟩
  have h1_2:=e2.at h1
  refine use_cat h1_2 h2 (len5000 (by rw [List.length_map,List.length_map,List.length_append,List.length_append];omega)) ?_
  rw [←List.map_append]
  intro r3 H3 _ e3 h3
  have e03:=e1.trans (e2.trans e3)
  clear h1 h2 h1_2 e1 e2 e3
  simp! only [and_true]
  rw [c_spRViews]
  refine ⟨_,room,cel,h3,((hv1 ()).ext e03).app ((hv2 ()).ext e03),fun H4 e4=>?_⟩
  have e04:=e03.trans e4
  clear h3 e03 e4
  simp! only [and_true]
  refine use_wr (hs1.ext e04) fun r5 H5 e5 h5=>?_
  simp! only [and_true]
  rw [c_spViewsOf]
  refine ⟨w2,u2,v2,hs2.ext (e04.trans e5),fun r6 H6 e6 h6=>?_⟩
  have e06:=e04.trans (e5.trans e6)
  have h5_6:=e6.at h5
  clear h5
  simp! only [and_true]
  rw [c_spMeet]
  refine ⟨_,_,room,cel,h5_6,h6,by omega,(by rw [List.length_append];omega),((hv1 ()).ext e06).left,(hv2 ()).ext e06,fun b7 H7 e7 hb7=>?_⟩
  have e07:=e06.trans e7
  replace hb7:=fun (_:Unit)=>hb7
  clear h5_6 h6 e04 e5 e6 e06 e7
  cases b7 with
  | true=>
   have kf:=k () true H7 e07 ⟨fun _=>.inl ((hb7 ()).mp rfl),fun _=>rfl⟩
   clear k
   simp! only [and_true]
  | false=>
   simp! only [and_true]
   refine use_wr (hs2.ext e07) fun r8 H8 e8 h8=>?_
   simp! only [and_true]
   refine use_rd (hs1.ext (e07.trans e8)) fun r9 H9 e9 h9=>?_
   have e09:=e07.trans (e8.trans e9)
   have h8_9:=e9.at h8
   clear h8
   simp! only [and_true]
   rw [c_spMeet]
   refine ⟨_,_,room,cel,h8_9,h9,by omega,by omega,((hv2 ()).ext e09).left,((hv1 ()).ext e09).right,fun b10 H10 e10 hb10=>?_⟩
   have kf:=k () b10 H10 (e09.trans e10) ⟨fun h=>.inr (hb10.mp h),fun h=>h.elim (fun h=>absurd ((hb7 ()).mpr h) (by decide)) hb10.mpr⟩
   clear k hb7 hb10 h8_9 h9
   simp! only [and_true]
theorem Fun.x {K:PySem.W.Frag}{x qual:Str}{st:Stmt}{f:Addr}{fd:FuncData}(F:Fun K x qual st f fd):FunX K x qual st f fd:=by
 obtain ⟨oc,od,kV,doc,pm,an,cdv,ct,osl,e,lk,hcd⟩:=F.ex
 exact ⟨⟨oc,od,.none,kV,doc,pm,an,cdv,ct,osl,e,lk,hcd⟩,F.kp⟩
abbrev B_spRoomsX (C cN:Addr) (u:Addr) (v:Addr) (H:Hp) (Q:VK) (E:XK):Prop:=∃ (r1 r2 f1 f2:Int) (A B:List (Int × Int)),ViewAt C H u r1 f1 A∧ViewAt C H v r2 f2 B∧(r1=r2->Q .non H)∧(r1 ≠ r2->∀ H',Ext H H'->E (.ref cN) none H')
def spRoomsX (C cN:Addr):Sp:=fun vs H Q E=>∃ (u:Addr) (v:Addr),vs=[.ref u,.ref v]∧(B_spRoomsX C cN u v H Q E)
theorem c_spRoomsX (C cN:Addr) (u:Addr) (v:Addr) (H:Hp) (Q:VK) (E:XK):spRoomsX C cN [.ref u,.ref v] H Q E=(B_spRoomsX C cN u v H Q E):=spx2 (f:=fun (u:Addr) (v:Addr)=>[.ref u,.ref v]) (fun _ _ _ _ h=>by cases h;exact ⟨rfl,rfl⟩) u v
theorem l_spRoomsX (C cN:Addr){vs:List V}{H:Hp}{Q:VK}{E:XK}(h:spRoomsX C cN vs H Q E):vs.length=2:=spl2 h fun _ _=>rfl
theorem okX_refuse_rooms (T:Tx K mg t):FnOk P w K mg base (CX1 P  w) 1 t.a_refuse_rooms t.d_refuse_rooms ["one", "other"] (spRoomsX t.a_View t.a_NoPair):=by
 refine (Fun.x T.F_refuse_rooms).ok c_refuse_rooms (fun vs H Q E h=>l_spRoomsX _ _ h) (fun cdv A outer s H vs Q E hr h=>?_)
 ·obtain ⟨u,v,rfl,ra,rb,f1,f2,A,B,vu,vv,kQ,kE⟩:=h
  obtain ⟨dx,D,hu,_⟩:=vu.ob
  obtain ⟨dy,D2,hv,_⟩:=vv.ob
  have c1:=T.cl_View
  have c4:=T.na_View_room
  have g1:=viewF_room ra f1 D
  have g2:=viewF_room rb f2 D2
  refine ⟨_,(@pss_one _ _ _ (@ps_if _ _ _ _ _ _ _ _ (@pt_cmpRN _ _ _ _ _ _ _ _ (op_qNe hr.units) (@pe_nFld _ _ _ _ _ (@pvN _ 0 _ _ (by rfl) (by trivial) (by decide) (by decide)) rfl) (@pe_nFld _ _ _ _ _ (@pvN _ 1 _ _ (by rfl) (by trivial) (by decide) (by decide)) rfl) (nomark _)) (@pss_one _ _ _ (@ps_raise _ _ _ _ _ _ _ _ _ _ rfl (by rfl) T.m_NoPair ⟨T.o_NoPair⟩ (fun σ=>raises_def) (@pa_c _ _ _ _ _ (@pe_str _ _ _ _) (@pa_nil _) (by rfl)) (by rfl) (by rfl) (by decide))) (@pss_nil _))),?_⟩
  rw [show start ["one", "other"] [.ref u,.ref v]=[some (.ref u),some (.ref v)] from rfl]
  by_cases he:ra=rb
  ·subst he
   have k':=kQ rfl
   clear kQ kE
   simp! only [and_true]
  ·have k':=kE he H (Ext.refl _)
   clear kQ kE
   simp! only [and_true]
theorem ok_TooMany___init__ (T:Tx K mg t):FnOk P w K mg base CX0 1 t.a_TooMany___init__ t.d_TooMany___init__ ["self", "number"] (spX1 t.a_TooMany "number"):=by
 refine T.F_TooMany___init__.ok c_TooMany___init__ (fun vs H Q E h=>l_spX1 _ _ h) (fun cdv A outer s H vs Q E hr h=>?_)
 ·obtain ⟨e,x,rfl,he,k⟩:=h
  refine ⟨_,(@pss_cons _ _ _ _ _ (@ps_expr _ _ _ _ (@pe_xinit _ _ _ _ _ _ _ _ _ _ (by rfl) T.m_PaceError T.bi_PaceError (@pa_c _ _ _ _ _ (@pvN _ 0 _ _ (by rfl) (by trivial) (by decide) (by decide)) (@pa_c _ _ _ _ _ (@pvN _ 1 _ _ (by rfl) (by trivial) (by decide) (by decide)) (@pa_nil _) (by rfl)) (by rfl)) (by decide) (by rfl) (by rfl) (by rfl)) (by rfl)) (@pss_one _ _ _ (@ps_xset _ _ _ _ _ _ _ _ (@pvN _ 0 _ _ (by rfl) (by trivial) (by decide) (by decide)) (@pvN _ 1 _ _ (by rfl) (by trivial) (by decide) (by decide)) rfl))),?_⟩
  rw [show start ["self", "number"] [.ref e,x]=[some (.ref e),some (x)] from rfl]
  simp! only [and_true]
  refine ⟨e,_,_,_,[x],rfl,he,T.oi_TooMany,(show 1≤sizeLine by decide),?_⟩
  simp! only [and_true]
  exact ⟨e,_,rfl,he,T.oi_TooMany.st,T.tk_TooMany_number,fun dx H' h1 h2 h3 h4 h5=>k dx H' h1 h2 h3 h4 h5⟩
abbrev B_spLongX (cT:Addr) (n:Int) (H:Hp) (Q:VK) (E:XK):Prop:=(n≤4096->Q .non H)∧(4096 < n->∀ dx H',Ext H H'->H' dx=some (.xd [("number",.int n)])->E (.ref cT) (some dx) H')
def spLongX (cT:Addr):Sp:=fun vs H Q E=>∃ (n:Int),vs=[.int n]∧(B_spLongX cT n H Q E)
theorem c_spLongX (cT:Addr) (n:Int) (H:Hp) (Q:VK) (E:XK):spLongX cT [.int n] H Q E=(B_spLongX cT n H Q E):=spx1 (f:=fun (n:Int)=>[.int n]) (fun _ _ h=>by cases h;exact rfl) n
theorem l_spLongX (cT:Addr){vs:List V}{H:Hp}{Q:VK}{E:XK}(h:spLongX cT vs H Q E):vs.length=1:=spl1 h fun _=>rfl
theorem okX_refuse_long (T:Tx K mg t):FnOk P w K mg base (CX1 P  w) 3 t.a_refuse_long t.d_refuse_long ["count"] (spLongX t.a_TooMany):=by
 have G_TooMany___init__:=ok_TooMany___init__ (P:=P) (w:=w) (base:=base) T
 refine (Fun.x T.F_refuse_long).ok c_refuse_long (fun vs H Q E h=>l_spLongX _ h) (fun cdv A outer s H vs Q E hr h=>?_)
 ·obtain ⟨n,rfl,k1,k2⟩:=h
  refine ⟨_,(@pss_one _ _ _ (@ps_if _ _ _ _ _ _ _ _ (@pt_cmpRN _ _ _ _ _ _ _ _ on_gt (@pvN _ 0 _ _ (by rfl) (by trivial) (by decide) (by decide)) (@pe_glob _ _ (.int 4096) _ _ (by rfl) T.m_MOST_TOLD.choose_spec ⟨_,rfl⟩ (by decide)) (nomark _)) (@pss_one _ _ _ (@ps_raiseI _ _ _ _ _ _ _ _ _ _ _ _ _ _ _ rfl (by rfl) T.m_TooMany T.oi_TooMany G_TooMany___init__ (hr.mono (by decide)) T.b_TooMany___init__ (fun σ=>raisesD_def) (@pa_c _ _ _ _ _ (@pvN _ 0 _ _ (by rfl) (by trivial) (by decide) (by decide)) (@pa_nil _) (by rfl)) (by rfl) (by rfl) (by decide))) (@pss_nil _))),?_⟩
  rw [show start ["count"] [.int n]=[some (.int n)] from rfl]
  by_cases hn:4096 < n
  ·have k2':=k2 hn
   clear k1 k2
   simp! only [and_true]
   exact kRI_x1 k2'
  ·have k1':=k1 (by omega)
   clear k1 k2
   simp! only [and_true]
def VwX (C:Addr) (H:Hp) (rm cn:Addr->Int) (xs:List Addr):Prop:=∀ x∈xs,∃ f A,ViewAt C H x (rm x) f A∧Axes A∧prodL (A.map fun a=>a.1)=cn x
theorem VwX.ext {C:Addr}{H H':Hp}{rm cn:Addr->Int}{xs:List Addr}(h:VwX C H rm cn xs) (e:Ext H H'):VwX C H' rm cn xs:=fun x hx=>by
 obtain ⟨f,A,h1,h2⟩:=h x hx
 exact ⟨f,A,h1.ext e,h2⟩
def RmE (rm:Addr->Int) (x0:Addr) (xs:List Addr):Prop:=∀ x∈xs,rm x=rm x0
def CnE (cn:Addr->Int) (xs:List Addr):Prop:=∀ x∈xs,cn x≤4096
theorem mem_take_succ {xs:List Addr}{i:Nat}{x y:Addr}(h:xs[i]? = some x) (hy:y∈xs.take (i+1)):y∈xs.take i∨y=x:=by
 rw [List.take_add_one,h] at hy
 rcases List.mem_append.mp hy with q|q
 ·exact .inl q
 ·exact .inr (by simpa using q)
abbrev B_spRViewsX (C cN cT:Addr) (p:Addr) (H:Hp) (Q:VK) (E:XK):Prop:=∃ (x0:Addr) (ys:List Addr) (rm cn:Addr->Int),H p=some (.lst ((x0::ys).map V.ref))∧VwX C H rm cn (x0::ys)∧(¬ RmE rm x0 (x0::ys)∨¬ CnE cn (x0::ys))∧(¬ RmE rm x0 (x0::ys)->∀ H',Ext H H'->E (.ref cN) none H')∧(RmE rm x0 (x0::ys)->∀ n dx H',Ext H H'->H' dx=some (.xd [("number",.int n)])->E (.ref cT) (some dx) H')
def spRViewsX (C cN cT:Addr):Sp:=fun vs H Q E=>∃ (p:Addr),vs=[.ref p]∧(B_spRViewsX C cN cT p H Q E)
theorem c_spRViewsX (C cN cT:Addr) (p:Addr) (H:Hp) (Q:VK) (E:XK):spRViewsX C cN cT [.ref p] H Q E=(B_spRViewsX C cN cT p H Q E):=spx1 (f:=fun (p:Addr)=>[.ref p]) (fun _ _ h=>by cases h;exact rfl) p
theorem l_spRViewsX (C cN cT:Addr){vs:List V}{H:Hp}{Q:VK}{E:XK}(h:spRViewsX C cN cT vs H Q E):vs.length=1:=spl1 h fun _=>rfl
theorem okX_refuse_views (T:Tx K mg t):FnOk P w K mg base (CX1 P  w) 4 t.a_refuse_views t.d_refuse_views ["views"] (spRViewsX t.a_View t.a_NoPair t.a_TooMany):=by
 have G_refuse_rooms:=okX_refuse_rooms (P:=P) (w:=w) (base:=base) T
 have G_View_count:=ok_View_count (P:=P) (w:=w) (base:=base) T
 have G_refuse_long:=okX_refuse_long (P:=P) (w:=w) (base:=base) T
 refine (Fun.x T.F_refuse_views).ok c_refuse_views (fun vs H Q E h=>l_spRViewsX _ _ _ h) (fun cdv A outer s H vs Q E hr h=>?_)
 ·obtain ⟨p,rfl,x0,ys,rm,cn,hp,hv,hbad,kN,kT⟩:=h
  have c1:=T.cl_View
  refine ⟨_,(@pss_cons _ _ _ _ _ (@ps_for _ _ _ _ _ _ _ _ PassesOwn.leaving rfl (@pi_seq _ _ _ _ (@pvN _ 0 _ _ (by rfl) (by trivial) (by decide) (by decide))) (@pg_name _ _ (1) _ c_refuse_views.nd rfl (Or.inl rfl) (by trivial)) (@pss_one _ _ _ (@ps_expr _ _ _ _ (@pe_call _ _ _ _ _ _ _ _ _ _ _ _ _ _ _ _ G_refuse_rooms (hr.mono (by decide)) (by rfl) T.m_refuse_rooms T.F_refuse_rooms.kp T.b_refuse_rooms .nil passes_def (@pa_c _ _ _ _ _ (@pe_ix _ _ _ _ _ _ _ ix_q (@pvN _ 0 _ _ (by rfl) (by trivial) (by decide) (by decide)) (@pe_int _ _ _ _) (fun _ _=>rfl)) (@pa_c _ _ _ _ _ (@pvN _ 1 _ _ (by rfl) (by trivial) (by decide) (by decide)) (@pa_nil _) (by rfl)) (by rfl)) (by decide) (by rfl) (by rfl)) (by rfl))) (by intros;rfl)) (@pss_one _ _ _ (@ps_for _ _ _ _ _ _ _ _ PassesOwn.leaving rfl (@pi_seq _ _ _ _ (@pvN _ 0 _ _ (by rfl) (by trivial) (by decide) (by decide))) (@pg_name _ _ (1) _ c_refuse_views.nd rfl (Or.inl rfl) (by trivial)) (@pss_one _ _ _ (@ps_expr _ _ _ _ (@pe_call _ _ _ _ _ _ _ _ _ _ _ _ _ _ _ _ G_refuse_long (hr.mono (by decide)) (by rfl) T.m_refuse_long T.F_refuse_long.kp T.b_refuse_long .nil passes_def (@pa_c _ _ _ _ _ (@pe_nMeth0 _ _ _ _ _ _ _ _ _ _ _ _ _ _ _ _ _ (@pvN _ 1 _ _ (by rfl) (by trivial) (by decide) (by decide)) T.cl_View T.mt_View_count G_View_count (hr.mono (by decide)) T.b_View_count .nil pass0 (by rfl)) (@pa_nil _) (by rfl)) (by decide) (by rfl) (by rfl)) (by rfl))) (by intros;rfl)))),?_⟩
  rw [show start ["views", "view"] [.ref p]=[some (.ref p),none] from rfl]
  clear G_refuse_rooms G_View_count G_refuse_long
  obtain ⟨xs,hxs⟩:∃ xs,x0::ys=xs:=⟨_,rfl⟩
  rw [hxs] at hp hv hbad kN kT
  have hat:=at_zero hxs.symm
  have hx0:x0∈xs:=by rw [←hxs];exact List.mem_cons_self
  replace kN:=fun (_:Unit)=>kN
  replace kT:=fun (_:Unit)=>kT
  replace hv:=fun (_:Unit)=>hv
  replace hbad:=fun (_:Unit)=>hbad
  replace hx0:=fun (_:Unit)=>hx0
  clear hxs
  simp! only [and_true]
  refine for_lst (xs:=xs.map V.ref) (fun i σ H'=>∃ v:Option V,σ=[some (.ref p),v]∧H'=H∧RmE rm x0 (xs.take i)) ⟨none,rfl,rfl,fun y hy=>absurd hy (by rw [List.take_zero];exact List.not_mem_nil)⟩ (fun i σ H' _ ⟨_,_,e,_⟩=>e ▸ hp) ?_ ?_
  ·rintro i y _ _ hi ⟨v,rfl,rfl,rmi⟩
   rename_i H
   rw [List.getElem?_map] at hi
   obtain ⟨x,hix,rfl⟩:=Option.map_eq_some_iff.mp hi
   have hx:=List.mem_of_getElem? hix
   obtain ⟨f0,A0,w0,_⟩:=hv () x0 (hx0 ())
   obtain ⟨f1,A1,w1,_⟩:=hv () x hx
   have stp:rm x=rm x0->RmE rm x0 (xs.take (i+1)):=fun e y hy=>(mem_take_succ hix hy).elim (rmi y) fun q=>by rw [q];exact e
   have kn:rm x0 ≠ rm x->∀ H',Ext H H'->E (.ref t.a_NoPair) none H':=fun ne=>kN () fun h=>ne (h x hx).symm
   replace stp:=fun (_:Unit)=>stp
   replace kn:=fun (_:Unit)=>kn
   clear hi hix rmi kN kT hbad
   simp! only [↓m_kBody]
   rw [c_spRoomsX]
   refine ⟨rm x0,rm x,f0,f1,A0,A1,w0,w1,fun e=>?_,fun ne=>kn () ne⟩
   have st:=stp () e.symm
   clear stp kn w0 w1
   simp! only [and_true]
   first|exact ⟨_,rfl,rfl,st⟩|exact ⟨_,rfl,st⟩|exact ⟨_,rfl⟩
  ·rintro _ _ ⟨v,rfl,rfl,rma⟩
   rename_i H
   rw [List.length_map,List.take_length] at rma
   have hb2:¬ CnE cn xs:=(hbad ()).elim (fun h=>absurd rma h) id
   have kt:=kT () rma
   replace kt:=fun (_:Unit)=>kt
   replace hb2:=fun (_:Unit)=>hb2
   clear kN kT hbad rma
   simp! only [and_true]
   refine for_lst (xs:=xs.map V.ref) (fun i σ H'=>∃ v:Option V,σ=[some (.ref p),v]∧Ext H H'∧CnE cn (xs.take i)) ⟨_,rfl,Ext.refl _,fun y hy=>absurd hy (by rw [List.take_zero];exact List.not_mem_nil)⟩ (fun i σ H' _ ⟨_,_,e,_⟩=>e.at hp) ?_ ?_
   ·rintro i y _ H2 hi ⟨v,rfl,e2,cni⟩
    rw [List.getElem?_map] at hi
    obtain ⟨x,hix,rfl⟩:=Option.map_eq_some_iff.mp hi
    have hx:=List.mem_of_getElem? hix
    obtain ⟨f1,A1,w1,hA,hn⟩:=hv () x hx
    have w2:=w1.ext e2
    obtain ⟨dy,D,hv2,_⟩:=w2.ob
    have f3:=vn (rm x) f1 D (m := "count") (by decide +kernel)
    have stp:cn x≤4096->CnE cn (xs.take (i+1)):=fun e y hy=>(mem_take_succ hix hy).elim (cni y) fun q=>by rw [q];exact e
    replace stp:=fun (_:Unit)=>stp
    clear hi hix cni hb2
    simp! only [↓m_kBody]
    rw [c_spVCount]
    refine ⟨rm x,f1,A1,w2,hA,fun H3 e3=>?_⟩
    rw [hn]
    have e23:=e2.trans e3
    simp! only [and_true]
    rw [c_spLongX]
    refine ⟨fun hle=>?_,fun _ dx H' e' h'=>kt () _ dx H' (e23.trans e') h'⟩
    have st:=stp () hle
    clear stp w1 w2 hv2 kt
    simp! only [and_true]
    first|exact ⟨_,rfl,e23,st⟩|exact ⟨_,rfl,e23⟩
   ·rintro _ H2 ⟨v,rfl,e2,cna⟩
    rw [List.length_map,List.take_length] at cna
    exact absurd cna (hb2 ())
abbrev B_spClashX (t:Adr) (s1:Addr) (s2:Addr) (H:Hp) (Q:VK) (E:XK):Prop:=∃ (w1:Nat) (u1 v1:Addr) (w2:Nat) (u2 v2:Addr) (x0:Addr) (ys:List Addr) (rm cn:Addr->Int),StAt t H s1 w1 u1 v1∧StAt t H s2 w2 u2 v2∧(wrs w1 u1 v1++rds w1 u1 v1)++(wrs w2 u2 v2++rds w2 u2 v2)=x0::ys∧VwX t.a_View H rm cn (x0::ys)∧(¬ RmE rm x0 (x0::ys)∨¬ CnE cn (x0::ys))∧(¬ RmE rm x0 (x0::ys)->∀ H',Ext H H'->E (.ref t.a_NoPair) none H')∧(RmE rm x0 (x0::ys)->∀ n dx H',Ext H H'->H' dx=some (.xd [("number",.int n)])->E (.ref t.a_TooMany) (some dx) H')
def spClashX (t:Adr):Sp:=fun vs H Q E=>∃ (s1:Addr) (s2:Addr),vs=[.ref s1,.ref s2]∧(B_spClashX t s1 s2 H Q E)
theorem c_spClashX (t:Adr) (s1:Addr) (s2:Addr) (H:Hp) (Q:VK) (E:XK):spClashX t [.ref s1,.ref s2] H Q E=(B_spClashX t s1 s2 H Q E):=spx2 (f:=fun (s1:Addr) (s2:Addr)=>[.ref s1,.ref s2]) (fun _ _ _ _ h=>by cases h;exact ⟨rfl,rfl⟩) s1 s2
theorem l_spClashX (t:Adr){vs:List V}{H:Hp}{Q:VK}{E:XK}(h:spClashX t vs H Q E):vs.length=2:=spl2 h fun _ _=>rfl
theorem okX_clash (T:Tx K mg t):FnOk P w K mg base (CX1 P  w) 7 t.a_clash t.d_clash ["one", "other"] (spClashX t):=by
 have G_views_of:=ok_views_of (P:=P) (w:=w) (base:=base) T
 have G_refuse_views:=okX_refuse_views (P:=P) (w:=w) (base:=base) T
 have G_meet:=ok_meet (P:=P) (w:=w) (base:=base) T
 have MD_writes:=MDw (P:=P) (w:=w) (base:=base) T
 have MD_reads:=MDr (P:=P) (w:=w) (base:=base) T
 refine (Fun.x T.F_clash).ok c_clash (fun vs H Q E h=>l_spClashX _ h) (fun cdv A outer s H vs Q E hr h=>?_)
 ·obtain ⟨s1,s2,rfl,w1,u1,v1,w2,u2,v2,x0,ys,rm,cn,hs1,hs2,hxs,hv,hbad,kN,kT⟩:=h
  refine ⟨_,(@pss_cons _ _ _ _ _ (@ps_expr _ _ _ _ (@pe_call _ _ _ _ _ _ _ _ _ _ _ _ _ _ _ _ G_refuse_views (hr.mono (by decide)) (by rfl) T.m_refuse_views T.F_refuse_views.kp T.b_refuse_views .nil passes_def (@pa_c _ _ _ _ _ (@pe_op _ _ _ _ _ _ _ _ op_nCat (@pe_call _ _ _ _ _ _ _ _ _ _ _ _ _ _ _ _ G_views_of (hr.mono (by decide)) (by rfl) T.m_views_of T.F_views_of.kp T.b_views_of .nil pass0 (@pa_c _ _ _ _ _ (@pvN _ 0 _ _ (by rfl) (by trivial) (by decide) (by decide)) (@pa_nil _) (by rfl)) (by decide) (by rfl) (by rfl)) (@pe_call _ _ _ _ _ _ _ _ _ _ _ _ _ _ _ _ G_views_of (hr.mono (by decide)) (by rfl) T.m_views_of T.F_views_of.kp T.b_views_of .nil pass0 (@pa_c _ _ _ _ _ (@pvN _ 1 _ _ (by rfl) (by trivial) (by decide) (by decide)) (@pa_nil _) (by rfl)) (by decide) (by rfl) (by rfl))) (@pa_nil _) (by rfl)) (by decide) (by rfl) (by rfl)) (by rfl)) (@pss_one _ _ _ (@ps_ret _ _ _ _ (@pe_orN _ _ _ _ _ _ _ (@pe_call _ _ _ _ _ _ _ _ _ _ _ _ _ _ _ _ G_meet (hr.mono (by decide)) (by rfl) T.m_meet T.F_meet.kp T.b_meet .nil pass0 (@pa_c _ _ _ _ _ (@pe_nMethD _ _ _ _ _ _ _ _ _ _ _ _ _ (@pvN _ 0 _ _ (by rfl) (by trivial) (by decide) (by decide)) MD_writes (hr.mono (by decide)) pass0 (by rfl)) (@pa_c _ _ _ _ _ (@pe_call _ _ _ _ _ _ _ _ _ _ _ _ _ _ _ _ G_views_of (hr.mono (by decide)) (by rfl) T.m_views_of T.F_views_of.kp T.b_views_of .nil pass0 (@pa_c _ _ _ _ _ (@pvN _ 1 _ _ (by rfl) (by trivial) (by decide) (by decide)) (@pa_nil _) (by rfl)) (by decide) (by rfl) (by rfl)) (@pa_nil _) (by rfl)) (by rfl)) (by decide) (by rfl) (by rfl)) (@pe_one _ _ _ _ _ (@pe_call _ _ _ _ _ _ _ _ _ _ _ _ _ _ _ _ G_meet (hr.mono (by decide)) (by rfl) T.m_meet T.F_meet.kp T.b_meet .nil pass0 (@pa_c _ _ _ _ _ (@pe_nMethD _ _ _ _ _ _ _ _ _ _ _ _ _ (@pvN _ 1 _ _ (by rfl) (by trivial) (by decide) (by decide)) MD_writes (hr.mono (by decide)) pass0 (by rfl)) (@pa_c _ _ _ _ _ (@pe_nMethD _ _ _ _ _ _ _ _ _ _ _ _ _ (@pvN _ 0 _ _ (by rfl) (by trivial) (by decide) (by decide)) MD_reads (hr.mono (by decide)) pass0 (by rfl)) (@pa_nil _) (by rfl)) (by rfl)) (by decide) (by rfl) (by rfl))))))),?_⟩
  rw [show start ["one", "other"] [.ref s1,.ref s2]=[some (.ref s1),some (.ref s2)] from rfl]
  clear G_views_of G_refuse_views G_meet MD_writes MD_reads
  have l1:=wr_len w1 u1 v1
  have l2:=wr_len w2 u2 v2
  replace kN:=fun (_:Unit)=>kN
  replace kT:=fun (_:Unit)=>kT
  replace hv:=fun (_:Unit)=>hv
  replace hbad:=fun (_:Unit)=>hbad
  replace hxs:=fun (_:Unit)=>hxs
  simp! only [and_true]
  rw [c_spViewsOf]
  refine ⟨w1,u1,v1,hs1,fun r1 H1 e1 h1=>?_⟩
  simp! only [and_true]
  rw [c_spViewsOf]
  refine ⟨w2,u2,v2,hs2.ext e1,fun r2 H2 e2 h2=>?_⟩
  have h1_2:=e2.at h1
  refine use_cat h1_2 h2 (len5000 (by rw [List.length_map,List.length_map,List.length_append,List.length_append];omega)) ?_
  rw [←List.map_append,hxs ()]
  intro r3 H3 _ e3 h3
  have e03:=e1.trans (e2.trans e3)
  clear h1 h2 h1_2 e1 e2 e3
  simp! only [and_true]
  rw [c_spRViewsX]
  exact ⟨x0,ys,rm,cn,h3,(hv ()).ext e03,hbad (),fun h H' e=>kN () h H' (e03.trans e),fun h n dx H' e h'=>kT () h n dx H' (e03.trans e) h'⟩
theorem wide_kept (cs:List Int) (a:Int × Int) (h:1≤a.1):wideL cs (keptA a)=wideL cs a:=by
 unfold wideL
 show (cs.flatMap fun c=>(List.range a.1.toNat).map fun (n:Nat)=>c+(n:Int) * (if a.1 > 1 then a.2 else 0))=_
 by_cases h1:a.1 > 1
 ·rw [if_pos h1]
 ·rw [if_neg h1]
  have e:a.1.toNat=1:=by omega
  rw [e]
  refine congrArg (fun f=>cs.flatMap f) (funext fun c=>?_)
  simp
theorem fold_kept:∀ (axs:List (Int × Int)) (cs:List Int),(∀ a∈axs,(1:Int)≤a.1)->(axs.map keptA).foldl wideL cs=axs.foldl wideL cs
 | [],cs,_=>rfl
 | a::r,cs,h=>by
  rw [List.map_cons,List.foldl_cons,List.foldl_cons,wide_kept cs a (h a List.mem_cons_self),fold_kept r _ fun b hb=>h b (List.mem_cons_of_mem _ hb)]
theorem cells_kept (f:Int) (axs:List (Int × Int)) (h:∀ a∈axs,(1:Int)≤a.1):cellsL f (axs.map keptA)=cellsL f axs:=fold_kept axs [f] h
theorem kept_sizes (axs:List (Int × Int)):(axs.map keptA).map (fun a=>a.1)=axs.map fun a=>a.1:=by rw [List.map_map];rfl
theorem span_kept:∀ l:List (Int × Int),(∀ a∈l,(1:Int)≤a.1)->leastL (l.map keptA)=leastL l∧greatL (l.map keptA)=greatL l
 | [],_=>⟨rfl,rfl⟩
 | a::r,h=>by
  obtain ⟨i1,i2⟩:=span_kept r fun b hb=>h b (List.mem_cons_of_mem _ hb)
  have ha:=h a List.mem_cons_self
  have e:((keptA a).1 - 1) * (keptA a).2=(a.1 - 1) * a.2:=by
   show (a.1 - 1) * (if a.1 > 1 then a.2 else 0)=_
   split
   ·rfl
   ·have:a.1=1:=by omega
    rw [this];simp
  rw [List.map_cons,leastL_cons,greatL_cons,leastL_cons,greatL_cons,e,i1,i2]
  exact ⟨rfl,rfl⟩
theorem al_uniq {H:Hp}:∀ {A A':List (Int × Int)}{ys:List V},Al (TupV H) (axL A) ys->Al (TupV H) (axL A') ys->A=A'
 | [],[],_,_,_=>rfl
 | [],a::A',ys,h,h'=>by have h1:ys.length=0:=h.1;have h2:ys.length=(axL (a::A')).length:=h'.1;rw [h1] at h2;simp [axL] at h2
 | a::A,[],ys,h,h'=>by have h1:ys.length=0:=h'.1;have h2:ys.length=(axL (a::A)).length:=h.1;rw [h1] at h2;simp [axL] at h2
 | a::A,b::A',[],h,h'=>by have:=h.1;simp [axL] at this
 | a::A,b::A',y::ys,h,h'=>by
  obtain ⟨q,rfl,hq⟩:=h.2 0 [a.1,a.2] y rfl rfl
  obtain ⟨q',e,hq'⟩:=h'.2 0 [b.1,b.2] (.ref q) rfl rfl
  cases e
  rw [hq] at hq'
  have e:=HO.tup.inj (Option.some.inj hq')
  have e1:a.1=b.1:=by injection e with e _;injection e
  have e2:a.2=b.2:=by injection e with _ e;injection e with e _;injection e
  have ih:=al_uniq (A:=A) (A':=A') (ys:=ys) ⟨by have:=h.1;simpa [axL] using this,fun i z x hz hx=>h.2 (i+1) z x (by simpa [axL] using hz) (by simpa using hx)⟩ ⟨by have:=h'.1;simpa [axL] using this,fun i z x hz hx=>h'.2 (i+1) z x (by simpa [axL] using hz) (by simpa using hx)⟩
  rw [ih,Prod.ext e1 e2]
theorem ViewAt.uniq {C:Addr}{H:Hp}{x:Addr}{r f r' f':Int}{A A':List (Int × Int)}(h:ViewAt C H x r f A) (h':ViewAt C H x r' f' A'):r=r'∧f=f'∧A=A':=by
 obtain ⟨dx,l,hx,ys,hl,al⟩:=h.ob
 obtain ⟨dx',l',hx',ys',hl',al'⟩:=h'.ob
 rw [hx] at hx'
 have e:viewF r f l=viewF r' f' l':=by injection hx' with e;injection e
 have a1:=viewF_room r f l
 have a2:=viewF_first r f l
 have a3:=viewF_axes r f l
 rw [e,viewF_room] at a1
 rw [e,viewF_first] at a2
 rw [e,viewF_axes] at a3
 have b1:r'=r:=by injection a1 with a;injection a
 have b2:f'=f:=by injection a2 with a;injection a
 have b3:l'=l:=by injection a3 with a;injection a
 subst b3
 rw [hl] at hl'
 have b4:ys=ys':=by injection hl' with a;injection a
 subst b4
 exact ⟨b1.symm,b2.symm,al_uniq al al'⟩
open Classical in
noncomputable def vwH (C:Addr) (H:Hp) (x:Addr):Int × Int × List (Int × Int):=if h:∃ p:Int × Int × List (Int × Int),ViewAt C H x p.1 p.2.1 p.2.2 then h.choose else (0,0,[])
theorem vwH_of {C:Addr}{H:Hp}{x:Addr}{r f:Int}{A:List (Int × Int)}(h:ViewAt C H x r f A):vwH C H x=(r,f,A):=by
 have hh:∃ p:Int × Int × List (Int × Int),ViewAt C H x p.1 p.2.1 p.2.2:=⟨(r,f,A),h⟩
 unfold vwH
 rw [dif_pos hh]
 obtain ⟨a,b,c⟩:=hh.choose_spec.uniq h
 exact Prod.ext a (Prod.ext b c)
noncomputable def celH (C:Addr) (H:Hp) (x:Addr):List Int:=cellsL (vwH C H x).2.1 (vwH C H x).2.2
noncomputable def rmH (C:Addr) (H:Hp) (x:Addr):Int:=(vwH C H x).1
noncomputable def cnH (C:Addr) (H:Hp) (x:Addr):Int:=prodL ((vwH C H x).2.2.map fun a=>a.1)
def WrC:Nat->List Int->List Int->List Int
 | 0,_,_=>[]
 | 3,a,b=>a++b
 | _,a,_=>a
def RdC:Nat->List Int->List Int->List Int
 | 0,_,_=>[]
 | 1,_,_=>[]
 | 2,_,b=>b
 | _,a,b=>a++b
def ClC (w:Nat) (a b:List Int) (w':Nat) (a' b':List Int):Prop:=MtP (WrC w a b) (WrC w' a' b'++RdC w' a' b')∨MtP (WrC w' a' b') (RdC w a b)
theorem wr_cel (cel:Addr->List Int) (w:Nat) (u v:Addr):(wrs w u v).flatMap cel=WrC w (cel u) (cel v)∧(rds w u v).flatMap cel=RdC w (cel u) (cel v):=by
 match w with
 | 0=>exact ⟨rfl,rfl⟩
 | 1=>exact ⟨by simp [wrs,WrC],rfl⟩
 | 2=>exact ⟨by simp [wrs,WrC],by simp [rds,RdC]⟩
 | 3=>exact ⟨by simp [wrs,WrC],by simp [rds,RdC]⟩
 | n+4=>exact ⟨by simp [wrs,WrC],by simp [rds,RdC]⟩
theorem wr_sub {w:Nat}{a b a' b':List Int}(h1:1≤w->a=a') (h2:2≤w->b=b'):WrC w a b=WrC w a' b'∧RdC w a b=RdC w a' b':=by
 match w with
 | 0=>exact ⟨rfl,rfl⟩
 | 1=>rw [h1 (by decide)];exact ⟨rfl,rfl⟩
 | 2=>rw [h1 (by decide),h2 (by decide)];exact ⟨rfl,rfl⟩
 | 3=>rw [h1 (by decide),h2 (by decide)];exact ⟨rfl,rfl⟩
 | n+4=>rw [h1 (by omega),h2 (by omega)];exact ⟨rfl,rfl⟩
theorem wr_mem {w:Nat}{u v x:Addr}(h:x∈wrs w u v++rds w u v):(1≤w∧x=u)∨(2≤w∧x=v):=by
 match w,h with
 | 0,h=>cases h
 | 1,h=>exact .inl ⟨by decide,by simpa [wrs,rds] using h⟩
 | 2,h=>
  rcases (by simpa [wrs,rds] using h:x=u∨x=v) with e|e
  ·exact .inl ⟨by decide,e⟩
  ·exact .inr ⟨by decide,e⟩
 | 3,h=>
  rcases (by simpa [wrs,rds] using h:x=u∨x=v∨x=u∨x=v) with e|e|e|e
  ·exact .inl ⟨by decide,e⟩
  ·exact .inr ⟨by decide,e⟩
  ·exact .inl ⟨by decide,e⟩
  ·exact .inr ⟨by decide,e⟩
 | n+4,h=>
  rcases (by simpa [wrs,rds] using h:x=u∨x=v) with e|e
  ·exact .inl ⟨by omega,e⟩
  ·exact .inr ⟨by omega,e⟩
def StV (t:Adr) (H:Hp) (s:Addr) (w:Nat) (room:Int) (a b:List Int):Prop:=∃ u v,StAt t H s w u v∧(1≤w->VwC t.a_View H u room a)∧(2≤w->VwC t.a_View H v room b)
theorem StV.ext {t:Adr}{H H':Hp}{s:Addr}{w:Nat}{room:Int}{a b:List Int}(h:StV t H s w room a b) (e:Ext H H'):StV t H' s w room a b:=by
 obtain ⟨u,v,h1,h2,h3⟩:=h
 exact ⟨u,v,h1.ext e,fun q=>(h2 q).ext e,fun q=>(h3 q).ext e⟩
theorem VwC.cel {C:Addr}{H:Hp}{x:Addr}{room:Int}{cs:List Int}(h:VwC C H x room cs):celH C H x=cs∧VwC C H x room (celH C H x):=by
 have h0:=h
 obtain ⟨f,A,h1,h2,h3,h4⟩:=h
 have e:celH C H x=cs:=by unfold celH;rw [vwH_of h1];exact h4
 exact ⟨e,by rw [e];exact h0⟩
theorem use_clash {t:Adr}{H:Hp}{s1 s2:Addr}{w1 w2:Nat}{room:Int}{a b a' b':List Int}{Q:VK}{E:XK}(h1:StV t H s1 w1 room a b) (h2:StV t H s2 w2 room a' b') (k:∀ (c:Bool) (H':Hp),Ext H H'->(c=true ↔ ClC w1 a b w2 a' b')->Q (.bl c) H'):spClash t [.ref s1,.ref s2] H Q E:=by
 obtain ⟨u1,v1,p1,p2,p3⟩:=h1
 obtain ⟨u2,v2,q1,q2,q3⟩:=h2
 rw [c_spClash]
 refine ⟨w1,u1,v1,w2,u2,v2,room,celH t.a_View H,p1,q1,fun x hx=>?_,fun x hx=>?_,fun c H' e hc=>k c H' e (hc.trans ?_)⟩
 ·rcases wr_mem hx with ⟨hw,rfl⟩|⟨hw,rfl⟩
  ·exact (p2 hw).cel.2
  ·exact (p3 hw).cel.2
 ·rcases wr_mem hx with ⟨hw,rfl⟩|⟨hw,rfl⟩
  ·exact (q2 hw).cel.2
  ·exact (q3 hw).cel.2
 ·obtain ⟨m1,m2⟩:=wr_cel (celH t.a_View H) w1 u1 v1
  obtain ⟨n1,n2⟩:=wr_cel (celH t.a_View H) w2 u2 v2
  obtain ⟨m3,m4⟩:=wr_sub (w:=w1) (fun q=>(p2 q).cel.1) (fun q=>(p3 q).cel.1)
  obtain ⟨n3,n4⟩:=wr_sub (w:=w2) (fun q=>(q2 q).cel.1) (fun q=>(q3 q).cel.1)
  unfold ClaP ClC
  rw [List.flatMap_append,m1,m2,n1,n2,m3,m4,n3,n4]
def VwN (C:Addr) (H:Hp) (x:Addr) (room n:Int):Prop:=∃ f A,ViewAt C H x room f A∧Axes A∧prodL (A.map fun a=>a.1)=n
theorem VwN.ext {C:Addr}{H H':Hp}{x:Addr}{room n:Int}(h:VwN C H x room n) (e:Ext H H'):VwN C H' x room n:=by
 obtain ⟨f,A,h1,h2⟩:=h
 exact ⟨f,A,h1.ext e,h2⟩
def StX (t:Adr) (H:Hp) (s:Addr) (w:Nat) (room n:Int):Prop:=∃ u v,StAt t H s w u v∧(1≤w->VwN t.a_View H u room n)∧(2≤w->VwN t.a_View H v room n)
theorem StX.ext {t:Adr}{H H':Hp}{s:Addr}{w:Nat}{room n:Int}(h:StX t H s w room n) (e:Ext H H'):StX t H' s w room n:=by
 obtain ⟨u,v,h1,h2,h3⟩:=h
 exact ⟨u,v,h1.ext e,fun q=>(h2 q).ext e,fun q=>(h3 q).ext e⟩
theorem VwN.fn {C:Addr}{H:Hp}{x:Addr}{room n:Int}(h:VwN C H x room n):rmH C H x=room∧cnH C H x=n:=by
 obtain ⟨f,A,h1,_,h3⟩:=h
 unfold rmH cnH
 rw [vwH_of h1]
 exact ⟨rfl,h3⟩
theorem wr_ne {w:Nat}(u v:Addr) (h:1≤w):u∈wrs w u v++rds w u v:=by
 match w,h with
 | 1,_=>simp [wrs]
 | 2,_=>simp [wrs]
 | 3,_=>simp [wrs]
 | n+4,_=>simp [wrs]
theorem use_clashX {t:Adr}{H:Hp}{s1 s2:Addr}{w1 w2:Nat}{r1 n1 r2 n2:Int}{Q:VK}{E:XK}(h1:StX t H s1 w1 r1 n1) (h2:StX t H s2 w2 r2 n2) (hp:(1≤w1∧1≤w2∧r1 ≠ r2)∨(1≤w1∧4096 < n1)∨(1≤w2∧4096 < n2)) (kN:1≤w1∧1≤w2∧r1 ≠ r2->∀ H',Ext H H'->E (.ref t.a_NoPair) none H') (kT:¬ (1≤w1∧1≤w2∧r1 ≠ r2)->∀ n dx H',Ext H H'->H' dx=some (.xd [("number",.int n)])->E (.ref t.a_TooMany) (some dx) H'):spClashX t [.ref s1,.ref s2] H Q E:=by
 obtain ⟨u1,v1,p1,p2,p3⟩:=h1
 obtain ⟨u2,v2,q1,q2,q3⟩:=h2
 have F1:∀ x∈wrs w1 u1 v1++rds w1 u1 v1,VwN t.a_View H x r1 n1:=fun x hx=>by
  rcases wr_mem hx with ⟨hw,rfl⟩|⟨hw,rfl⟩
  ·exact p2 hw
  ·exact p3 hw
 have F2:∀ x∈wrs w2 u2 v2++rds w2 u2 v2,VwN t.a_View H x r2 n2:=fun x hx=>by
  rcases wr_mem hx with ⟨hw,rfl⟩|⟨hw,rfl⟩
  ·exact q2 hw
  ·exact q3 hw
 have W1:∀ {x},x∈wrs w1 u1 v1++rds w1 u1 v1->1≤w1:=fun hx=>by rcases wr_mem hx with ⟨hw,_⟩|⟨hw,_⟩<;>omega
 have W2:∀ {x},x∈wrs w2 u2 v2++rds w2 u2 v2->1≤w2:=fun hx=>by rcases wr_mem hx with ⟨hw,_⟩|⟨hw,_⟩<;>omega
 have U1:1≤w1->u1∈(wrs w1 u1 v1++rds w1 u1 v1)++(wrs w2 u2 v2++rds w2 u2 v2):=fun h=>List.mem_append_left _ (wr_ne u1 v1 h)
 have U2:1≤w2->u2∈(wrs w1 u1 v1++rds w1 u1 v1)++(wrs w2 u2 v2++rds w2 u2 v2):=fun h=>List.mem_append_right _ (wr_ne u2 v2 h)
 obtain ⟨x0,ys,hxs⟩:∃ x0 ys,(wrs w1 u1 v1++rds w1 u1 v1)++(wrs w2 u2 v2++rds w2 u2 v2)=x0::ys:=by
  cases hl:(wrs w1 u1 v1++rds w1 u1 v1)++(wrs w2 u2 v2++rds w2 u2 v2) with
  | nil=>
   rw [hl] at U1 U2
   rcases hp with ⟨h,_⟩|⟨h,_⟩|⟨h,_⟩
   ·cases U1 h
   ·cases U1 h
   ·cases U2 h
  | cons a b=>exact ⟨a,b,rfl⟩
 have hx0:x0∈(wrs w1 u1 v1++rds w1 u1 v1)++(wrs w2 u2 v2++rds w2 u2 v2):=by rw [hxs];exact List.mem_cons_self
 have A1:RmE (rmH t.a_View H) x0 (x0::ys) ↔ ¬ (1≤w1∧1≤w2∧r1 ≠ r2):=by
  rw [←hxs]
  constructor
  ·rintro h ⟨a,b,c⟩
   have e1:=h u1 (U1 a)
   have e2:=h u2 (U2 b)
   rw [(p2 a).fn.1] at e1
   rw [(q2 b).fn.1] at e2
   omega
  ·intro h x hx
   rcases List.mem_append.mp hx with hx|hx
   ·rw [(F1 x hx).fn.1]
    rcases List.mem_append.mp hx0 with h0|h0
    ·rw [(F1 x0 h0).fn.1]
    ·rw [(F2 x0 h0).fn.1]
     exact Classical.byContradiction fun q=>h ⟨W1 hx,W2 h0,q⟩
   ·rw [(F2 x hx).fn.1]
    rcases List.mem_append.mp hx0 with h0|h0
    ·rw [(F1 x0 h0).fn.1]
     exact Classical.byContradiction fun q=>h ⟨W1 h0,W2 hx,fun z=>q z.symm⟩
    ·rw [(F2 x0 h0).fn.1]
 rw [c_spClashX]
 refine ⟨w1,u1,v1,w2,u2,v2,x0,ys,rmH t.a_View H,cnH t.a_View H,p1,q1,hxs,fun x hx=>?_,?_,fun h=>kN (Classical.byContradiction fun q=>h (A1.mpr q)),fun h=>kT (A1.mp h)⟩
 ·rw [←hxs] at hx
  rcases List.mem_append.mp hx with hx|hx
  ·have f:=F1 x hx
   obtain ⟨f1,A,g1,g2,g3⟩:=f
   exact ⟨f1,A,by rw [(F1 x hx).fn.1];exact g1,g2,by rw [(F1 x hx).fn.2];exact g3⟩
  ·have f:=F2 x hx
   obtain ⟨f1,A,g1,g2,g3⟩:=f
   exact ⟨f1,A,by rw [(F2 x hx).fn.1];exact g1,g2,by rw [(F2 x hx).fn.2];exact g3⟩
 ·rcases hp with h|⟨h,h'⟩|⟨h,h'⟩
  ·exact .inl fun q=>A1.mp q h
  ·refine .inr fun q=>?_
   have:=q u1 (by rw [←hxs];exact U1 h)
   rw [(p2 h).fn.2] at this
   omega
  ·refine .inr fun q=>?_
   have:=q u2 (by rw [←hxs];exact U2 h)
   rw [(q2 h).fn.2] at this
   omega
theorem okH__law_whole (T:Tx K mg t):FnOkH P w K mg base CX0 1 t.a__law_whole t.d__law_whole ["_law_found"] spWhole:=by
 refine T.F__law_whole.okH c__law_whole (fun vs H Q E h=>l_spWhole h) (fun cdv A outer s H vs Q E ee hr hH h=>?_)
 ·obtain ⟨x,rfl,h⟩:=h
  obtain ⟨b,hb,k⟩:=optK_ex h
  clear h
  rw [m_kE4] at k
  refine ⟨_,(@pss_one _ _ _ (@ps_ret _ _ _ _ (@pe_andN _ _ _ _ _ _ _ (@pe_callB _ _ _ _ _ _ _ ("isinstance") _ call_qIsi (by rfl) T.z_isinstance (by decide +kernel) (@pa_c _ _ _ _ _ (@pvN _ 0 _ _ (by rfl) (by trivial) (by decide) (by decide)) (@pa_c _ _ _ _ _ (@pe_bltn _ _ (.ty "int") (.type "int") _ (by rfl) T.z_int (by decide +kernel) rfl (by decide) (by decide)) (@pa_nil _) (by rfl)) (by rfl)) (by decide) (by decide) (by rfl) (by rfl)) (@pe_one _ _ _ _ _ (@pe_notN _ _ _ _ (@pe_callB _ _ _ _ _ _ _ ("isinstance") _ call_qIsi (by rfl) T.z_isinstance (by decide +kernel) (@pa_c _ _ _ _ _ (@pvN _ 0 _ _ (by rfl) (by trivial) (by decide) (by decide)) (@pa_c _ _ _ _ _ (@pe_bltn _ _ (.ty "bool") (.type "bool") _ (by rfl) T.z_bool (by decide +kernel) rfl (by decide) (by decide)) (@pa_nil _) (by rfl)) (by rfl)) (by decide) (by decide) (by rfl) (by rfl))))))),?_⟩
  rw [show start ["_law_found"] [x]=[some (x)] from rfl]
  cases x with
  | int i=>cases hb;simp! only [and_true]
  | bl i=>cases hb;simp! only [and_true]
  | non=>cases hb;simp! only [and_true]
  | str i=>cases hb;simp! only [and_true]
  | ref p=>
   obtain ⟨rfl,o,ho,ht⟩:=isW_obj hb
   rcases ht with ht|ht|ht<;>simp! only [and_true]
  | _=>cases hb
def spTold (t:Adr):Sp:=fun vs H Q E=>∃ (s1:Addr) (s2:Addr),vs=[.ref s1,.ref s2]∧(∃ (w1 w2:Nat) (r1 n1 r2 n2:Int),StX t H s1 w1 r1 n1∧StX t H s2 w2 r2 n2∧((1≤w1∧1≤w2∧r1 ≠ r2)∨(1≤w1∧4096 < n1)∨(1≤w2∧4096 < n2))∧((1≤w1∧1≤w2∧r1 ≠ r2)->∀ H',Ext H H'->Q (.str "pair") H')∧(¬ (1≤w1∧1≤w2∧r1 ≠ r2)->∀ H',Ext H H'->Q (.str "many") H'))
theorem c_spTold (t:Adr) (s1:Addr) (s2:Addr) (H:Hp) (Q:VK) (E:XK):spTold t [.ref s1,.ref s2] H Q E=(∃ (w1 w2:Nat) (r1 n1 r2 n2:Int),StX t H s1 w1 r1 n1∧StX t H s2 w2 r2 n2∧((1≤w1∧1≤w2∧r1 ≠ r2)∨(1≤w1∧4096 < n1)∨(1≤w2∧4096 < n2))∧((1≤w1∧1≤w2∧r1 ≠ r2)->∀ H',Ext H H'->Q (.str "pair") H')∧(¬ (1≤w1∧1≤w2∧r1 ≠ r2)->∀ H',Ext H H'->Q (.str "many") H')):=spx2 (f:=fun (s1:Addr) (s2:Addr)=>[.ref s1,.ref s2]) (fun _ _ _ _ h=>by cases h;exact ⟨rfl,rfl⟩) s1 s2
theorem l_spTold (t:Adr){vs:List V}{H:Hp}{Q:VK}{E:XK}(h:spTold t vs H Q E):vs.length=2:=spl2 h fun _ _=>rfl
theorem ok__law_told (T:Tx K mg t):FnOk P w K mg base CX0 8 t.a__law_told t.d__law_told ["_law_one", "_law_other"] (spTold t):=by
 have G_clash:=okX_clash (P:=P) (w:=w) (base:=base) T
 have GH__law_whole:=okH__law_whole (P:=P) (w:=w) (base:=base) T
 refine T.F__law_told.ok c__law_told (fun vs H Q E h=>l_spTold _ h) (fun cdv A' outer s H vs Q E hr h=>?_)
 ·obtain ⟨s1,s2,rfl,w1,w2,r1,n1,r2,n2,h1,h2,hp,kP,kM⟩:=h
  have hx1:=T.x_NoPair_PaceError
  have hx2:=T.x_TooMany_PaceError
  refine ⟨_,(@pss_cons _ _ _ _ _ (@ps_set _ _ (2) _ _ _ _ c__law_told.nd rfl (Or.inl rfl) (@pe_str _ _ _ _) (by rfl) (by trivial)) (@pss_cons _ _ _ _ _ (@ps_try _ _ _ _ _ _ _ ⟨rfl,rfl,rfl⟩ (fun EX E pn hx=>(@pss_one _ _ _ (@ps_expr _ _ _ _ (@pe_callX _ _ _ _ _ _ _ _ _ _ _ _ _ _ _ _ G_clash (hr.mono (by decide)) (by rfl) T.m_clash T.F_clash.kp T.b_clash .nil hx (@pa_c _ _ _ _ _ (@pvN _ 0 _ _ (by rfl) (by trivial) (by decide) (by decide)) (@pa_c _ _ _ _ _ (@pvN _ 1 _ _ (by rfl) (by trivial) (by decide) (by decide)) (@pa_nil _) (by rfl)) (by rfl)) (by decide) (by rfl) (by rfl)) (by rfl)))) (@phs_asH _ _ _ (3) _ _ _ _ _ _ _ _ c__law_told.nd rfl rfl (by rfl) (.inl T.m_PaceError) (fun ee=>(@pss_cons _ _ _ _ _ (@ps_set _ _ (4) _ _ _ _ c__law_told.nd rfl (Or.inl rfl) (@pe_qLst _ _ _ _ (@pa_c _ _ _ _ _ (@pe_callB _ _ _ _ _ _ _ ("isinstance") _ (call_qIsE' (K:=K) rfl) (by rfl) T.z_isinstance (by decide +kernel) (@pa_c _ _ _ _ _ (@pvN _ 3 _ _ (by rfl) (by trivial) (by decide) (by decide)) (@pa_c _ _ _ _ _ (@pe_glob _ _ (.ref t.a_NoPair) _ _ (by rfl) T.m_NoPair rfl (by decide)) (@pa_nil _) (by rfl)) (by rfl)) (by decide) (by decide) (by rfl) (by rfl)) (@pa_c _ _ _ _ _ (@pe_callB _ _ _ _ _ _ _ ("isinstance") _ (call_qIsE' (K:=K) rfl) (by rfl) T.z_isinstance (by decide +kernel) (@pa_c _ _ _ _ _ (@pvN _ 3 _ _ (by rfl) (by trivial) (by decide) (by decide)) (@pa_c _ _ _ _ _ (@pe_glob _ _ (.ref t.a_TooMany) _ _ (by rfl) T.m_TooMany rfl (by decide)) (@pa_nil _) (by rfl)) (by rfl)) (by decide) (by decide) (by rfl) (by rfl)) (@pa_c _ _ _ _ _ (@pe_callB _ _ _ _ _ _ _ ("isinstance") _ (call_qIsE' (K:=K) rfl) (by rfl) T.z_isinstance (by decide +kernel) (@pa_c _ _ _ _ _ (@pvN _ 3 _ _ (by rfl) (by trivial) (by decide) (by decide)) (@pa_c _ _ _ _ _ (@pe_glob _ _ (.ref t.a_NoCount) _ _ (by rfl) T.m_NoCount rfl (by decide)) (@pa_nil _) (by rfl)) (by rfl)) (by decide) (by decide) (by rfl) (by rfl)) (@pa_c _ _ _ _ _ (@pe_callB _ _ _ _ _ _ _ ("isinstance") _ (call_qIsE' (K:=K) rfl) (by rfl) T.z_isinstance (by decide +kernel) (@pa_c _ _ _ _ _ (@pvN _ 3 _ _ (by rfl) (by trivial) (by decide) (by decide)) (@pa_c _ _ _ _ _ (@pe_glob _ _ (.ref t.a_NoView) _ _ (by rfl) T.m_NoView rfl (by decide)) (@pa_nil _) (by rfl)) (by rfl)) (by decide) (by decide) (by rfl) (by rfl)) (@pa_nil _) (by rfl)) (by rfl)) (by rfl)) (by rfl))) (by rfl) (by trivial)) (@pss_cons _ _ _ _ _ (@ps_if _ _ _ _ _ _ _ _ (PW.pt (@pw_and _ _ _ _ _ _ _ (@pt_cmpRN _ _ _ _ _ _ _ _ (op_qEq hr.units) (@pe_bm _ _ _ _ _ _ _ _ _ _ _ _ PySem.F.plainAttrs_list PySem.F.slot_list_count PySem.F.type_list_count mt_nCntB (@pvN _ 4 _ _ (by rfl) (by trivial) (by decide) (by decide)) (@pa_c _ _ _ _ _ (@pe_bl _ _ _ _) (@pa_nil _) (by rfl)) (by rfl) (by rfl) (by rfl) (by rfl) (by rfl)) (@pe_int _ _ _ _) (nomark _)) (@pw_and1 _ _ _ _ (@pt_valN _ _ _ (@pe_callB _ _ _ _ _ _ _ ("isinstance") _ (call_qIsE' (K:=K) rfl) (by rfl) T.z_isinstance (by decide +kernel) (@pa_c _ _ _ _ _ (@pvN _ 3 _ _ (by rfl) (by trivial) (by decide) (by decide)) (@pa_c _ _ _ _ _ (@pe_bltn _ _ (.ty "ValueError") (.type "ValueError") _ (by rfl) T.z_ValueError (by decide +kernel) rfl (by decide) (by decide)) (@pa_nil _) (by rfl)) (by rfl)) (by decide) (by decide) (by rfl) (by rfl)) (by intros;rfl))))) (@pss_one _ _ _ (@ps_set _ _ (2) _ _ _ _ c__law_told.nd rfl (Or.inl rfl) (@pe_ix _ _ _ _ _ _ _ ix_q (@pe_qLst _ _ _ _ (@pa_c _ _ _ _ _ (@pe_str _ _ _ _) (@pa_c _ _ _ _ _ (@pe_str _ _ _ _) (@pa_c _ _ _ _ _ (@pe_str _ _ _ _) (@pa_c _ _ _ _ _ (@pe_str _ _ _ _) (@pa_nil _) (by rfl)) (by rfl)) (by rfl)) (by rfl))) (@pe_bm _ _ _ _ _ _ _ _ _ _ _ _ PySem.F.plainAttrs_list PySem.F.slot_list_index PySem.F.type_list_index mt_nIdxB (@pvN _ 4 _ _ (by rfl) (by trivial) (by decide) (by decide)) (@pa_c _ _ _ _ _ (@pe_bl _ _ _ _) (@pa_nil _) (by rfl)) (by rfl) (by rfl) (by rfl) (by rfl) (by rfl)) (fun _ _=>rfl)) (by rfl) (by trivial))) (@pss_nil _)) (@pss_one _ _ _ (@ps_if _ _ _ _ _ _ _ _ (PW.pt (@pw_and _ _ _ _ _ _ _ (@pt_cmpRN _ _ _ _ _ _ _ _ (op_qEq hr.units) (@pvN _ 2 _ _ (by rfl) (by trivial) (by decide) (by decide)) (@pe_str _ _ _ _) (nomark _)) (@pw_and1 _ _ _ _ (@pt_not _ _ _ _ (@pt_valN _ _ _ (@pe_callH _ _ _ _ _ _ _ _ _ _ _ _ _ _ _ _ _ GH__law_whole (hr.mono (by decide)) (by rfl) T.m__law_whole T.F__law_whole.kp T.b__law_whole .nil pass0 (@pa_c _ _ _ _ _ (@pe_xfld' _ (K) rfl _ _ _ _ (@pvN _ 3 _ _ (by rfl) (by trivial) (by decide) (by decide)) rfl) (@pa_nil _) (by rfl)) (by decide) (by rfl) (by rfl)) (by intros;rfl)))))) (@pss_one _ _ _ (@ps_set _ _ (2) _ _ _ _ c__law_told.nd rfl (Or.inl rfl) (@pe_str _ _ _ _) (by rfl) (by trivial))) (@pss_nil _)))))) (@phs_nil _) (by decide))) (@pss_one _ _ _ (@ps_ret _ _ _ _ (@pvN _ 2 _ _ (by rfl) (by trivial) (by decide) (by decide)))))),?_⟩
  rw [show start ["_law_one", "_law_other", "_law_word", "e", "_law_some_here"] [.ref s1,.ref s2]=[some (.ref s1),some (.ref s2),none,none,none] from rfl]
  clear G_clash GH__law_whole
  replace kP:=fun (_:Unit)=>kP
  replace kM:=fun (_:Unit)=>kM
  have sn1:¬ (Str.ofString "pair"=Str.ofString "many"):=by decide +kernel
  simp! only [and_true]
  refine use_clashX h1 h2 hp (fun hc H1 e1=>?_) (fun hc n dx H1 e1 hdx=>?_)
  ·have kf:=fun (_:Unit)=>kP () hc
   clear kP kM hp hc h1 h2
   simp! only [and_true]
   intro e oe he' hcl hdc hnc
   have g4:(upd H1 e (excO oe)) e=some (excO oe):=upd_same
   have e2:Ext H (upd H1 e (excO oe)):=e1.trans (Ext.new he')
   generalize upd H1 e (excO oe)=H2 at e2 g4
   have hdat:∃ vs,oe.data=.fields vs:=(let ⟨vs,a,_⟩:=hnc;⟨vs,a⟩)
   clear he'
   simp! only [T.e_NoPair,T.k_NoPair_NoPair,T.k_NoPair_TooMany,T.k_NoPair_NoCount,T.k_NoPair_NoView,T.k_NoPair_ValueError]
   intro l3 H3 _ e3 h3
   obtain ⟨bs,b1,b2,b3,h3'⟩:∃ bs:List Bool,bs.count true=1∧true∈bs∧bs.idxOf true=0∧H3 l3=some (.lst (bs.map V.bl)):=⟨[true,false,false,false],by decide,by decide,by decide,h3⟩
   have g5:=e3.at g4
   clear h3 g4
   simp! only [T.e_NoPair,T.k_NoPair_NoPair,T.k_NoPair_TooMany,T.k_NoPair_NoCount,T.k_NoPair_NoView,T.k_NoPair_ValueError]
   intro l4 H4 _ e4 h4
   have g6:=e4.at g5
   have h3_4:=e4.at h3'
   have k2:=kf () H4 (e2.trans (e3.trans e4))
   clear g5 h3' kf
   simp! only [T.e_NoPair,T.k_NoPair_NoPair,T.k_NoPair_TooMany,T.k_NoPair_NoCount,T.k_NoPair_NoView,T.k_NoPair_ValueError]
  ·have kf:=fun (_:Unit)=>kM () hc
   clear kP kM hp hc h1 h2
   simp! only [and_true]
   intro e oe he' hcl hdc hnc
   have hne:dx ≠ e:=ne_of_none hdx he'
   have g3:(upd H1 e (excO oe)) dx=some (.xd [("number",.int n)]):=by rw [upd_ne hne];exact hdx
   have g4:(upd H1 e (excO oe)) e=some (excO oe):=upd_same
   have e2:Ext H (upd H1 e (excO oe)):=e1.trans (Ext.new he')
   generalize upd H1 e (excO oe)=H2 at e2 g4 g3
   have hdat:∃ vs,oe.data=.fields vs:=(let ⟨vs,a,_⟩:=hnc;⟨vs,a⟩)
   clear he' hdx hne
   simp! only [T.e_TooMany,T.k_TooMany_NoPair,T.k_TooMany_TooMany,T.k_TooMany_NoCount,T.k_TooMany_NoView,T.k_TooMany_ValueError]
   intro l3 H3 _ e3 h3
   obtain ⟨bs,b1,b2,b3,h3'⟩:∃ bs:List Bool,bs.count true=1∧true∈bs∧bs.idxOf true=1∧H3 l3=some (.lst (bs.map V.bl)):=⟨[false,true,false,false],by decide,by decide,by decide,h3⟩
   have g5:=e3.at g4
   have g7:=e3.at g3
   clear h3 g4 g3
   simp! only [T.e_TooMany,T.k_TooMany_NoPair,T.k_TooMany_TooMany,T.k_TooMany_NoCount,T.k_TooMany_NoView,T.k_TooMany_ValueError]
   intro l4 H4 _ e4 h4
   have g6:=e4.at g5
   have g8:=e4.at g7
   have h3_4:=e4.at h3'
   have k2:=kf () H4 (e2.trans (e3.trans e4))
   clear g5 g7 h3' kf
   simp! only [T.e_TooMany,T.k_TooMany_NoPair,T.k_TooMany_TooMany,T.k_TooMany_NoCount,T.k_TooMany_NoView,T.k_TooMany_ValueError]
   refine ⟨e,oe,t.a_TooMany,dx,[("number",.int n)],.int n,rfl,g6,hcl,hdc,hdat,g8,T.e_TooMany,T.na_TooMany_number,rfl,?_⟩
   simp! only [and_true]
   refine use_callH g6 hnc ?_
   show spWhole [.int n] H4 _ _
   simp! only [↓c_spWhole]
abbrev B_spLCells  (first:Int) (l:Addr) (H:Hp) (Q:VK) (E:XK):Prop:=∃ axs:List (Int × Int),TupsAt H l (axL axs)∧Axes axs∧prodL (axs.map fun a=>a.1)≤4096∧∀ (r:Addr) (H':Hp),H r=none->Ext H H'->H' r=some (.lst ((cellsL first axs).map V.int))->Q (.ref r) H'
def spLCells  : Sp:=fun vs H Q E=>∃ (first:Int) (l:Addr),vs=[.int first,.ref l]∧(B_spLCells  first l H Q E)
theorem c_spLCells  (first:Int) (l:Addr) (H:Hp) (Q:VK) (E:XK):spLCells  [.int first,.ref l] H Q E=(B_spLCells  first l H Q E):=spx2 (f:=fun (first:Int) (l:Addr)=>[.int first,.ref l]) (fun _ _ _ _ h=>by cases h;exact ⟨rfl,rfl⟩) first l
theorem l_spLCells  {vs:List V}{H:Hp}{Q:VK}{E:XK}(h:spLCells  vs H Q E):vs.length=2:=spl2 h fun _ _=>rfl
theorem ok__law_cells (T:Tx K mg t):FnOk P w K mg base CX0 1 t.a__law_cells t.d__law_cells ["_law_first", "_law_axes"] spLCells:=by
 refine T.F__law_cells.ok c__law_cells (fun vs H Q E h=>l_spLCells h) (fun cdv A outer s H vs Q E hr h=>?_)
 ·obtain ⟨first,l,rfl,axs,⟨ys,hl,al⟩,hax,hpr,k⟩:=h
  refine ⟨_,(@pss_cons _ _ _ _ _ (@ps_set _ _ (2) _ _ _ _ c__law_cells.nd rfl (Or.inl rfl) (@pe_qLst _ _ _ _ (@pa_c _ _ _ _ _ (@pvN _ 0 _ _ (by rfl) (by trivial) (by decide) (by decide)) (@pa_nil _) (by rfl))) (by rfl) (by trivial)) (@pss_cons _ _ _ _ _ (@ps_for _ _ _ _ _ _ _ _ PassesOwn.never rfl (@pi_seq _ _ _ _ (@pvN _ 1 _ _ (by rfl) (by trivial) (by decide) (by decide))) ((@pg_tup _ _ _ _ _ (2) rfl (@pgs_consN _ _ _ _ _ (@pg_name _ _ (3) _ c__law_cells.nd rfl (Or.inl rfl) (by trivial)) (@pgs_consN _ _ _ _ _ (@pg_name _ _ (4) _ c__law_cells.nd rfl (Or.inr rfl) (by trivial)) (@pgs_nilN _) (by rfl)) (by rfl)) (by rfl) (by rfl)).mono fun _ _ _ _ h=>gTup_q h) (@pss_cons _ _ _ _ _ (@ps_set _ _ (5) _ _ _ _ c__law_cells.nd rfl (Or.inl rfl) (@pe_qLst _ _ _ _ (@pa_nil _)) (by rfl) (by trivial)) (@pss_cons _ _ _ _ _ (@ps_for _ _ _ _ _ _ _ _ PassesOwn.never rfl (@pi_seq _ _ _ _ (@pvN _ 2 _ _ (by rfl) (by trivial) (by decide) (by decide))) (@pg_name _ _ (6) _ c__law_cells.nd rfl (Or.inr rfl) (by trivial)) (@pss_one _ _ _ (@ps_expr _ _ _ _ (@pe_bm _ _ _ _ _ _ _ _ _ _ _ _ PySem.F.plainAttrs_list PySem.F.slot_list_extend PySem.F.type_list_extend mt_extend (@pvN _ 5 _ _ (by rfl) (by trivial) (by decide) (by decide)) (@pa_c _ _ _ _ _ (@pe_comp _ _ _ _ _ _ _ _ _ _ _ (["_law_k", "_law_first", "_law_axes", "_law_cells_here", "_law_size", "_law_pace", "_law_more", "_law_cell"]) (1) (comp_ok (defScope s__law_cells) ["_law_first", "_law_axes", "_law_cells_here", "_law_size", "_law_pace", "_law_more", "_law_cell"] rfl rfl (by decide +kernel)) rfl (@pi_range1 _ _ _ _ _ _ (by rfl) T.z_range (@pa_c _ _ _ _ _ (@pvN _ 3 _ _ (by rfl) (by trivial) (by decide) (by decide)) (@pa_nil _) (by rfl)) (by rfl)) (fun C s₀ H₀ ex pn=>(@pg_name _ _ (0) _ (show List.Nodup (["_law_k", "_law_first", "_law_axes", "_law_cells_here", "_law_size", "_law_pace", "_law_more", "_law_cell"]:List Str) from by decide +kernel) rfl (Or.inl rfl) (by trivial))) (fun C s₀ H₀ ex pn=>(@pts_nil _)) (fun C s₀ H₀ ex pn=>(@pe_op _ _ _ _ _ _ _ _ on_add (@pvN _ 7 _ _ (by rfl) (by trivial) (by decide) (by decide)) (@pe_op _ _ _ _ _ _ _ _ on_mul (@pvN _ 0 _ _ (by rfl) (by trivial) (by decide) (by decide)) (@pvN _ 5 _ _ (by rfl) (by trivial) (by decide) (by decide))))) (by intros;rfl)) (@pa_nil _) (by rfl)) (by rfl) (by rfl) (by rfl) (by rfl) (by rfl)) (by rfl))) (by intros;rfl)) (@pss_one _ _ _ (@ps_set _ _ (2) _ _ _ _ c__law_cells.nd rfl (Or.inl rfl) (@pvN _ 5 _ _ (by rfl) (by trivial) (by decide) (by decide)) (by rfl) (by trivial))))) (by intros;rfl)) (@pss_one _ _ _ (@ps_ret _ _ _ _ (@pvN _ 2 _ _ (by rfl) (by trivial) (by decide) (by decide)))))),?_⟩
  rw [show start ["_law_first", "_law_axes", "_law_cells_here", "_law_size", "_law_pace", "_law_more", "_law_cell"] [.int first,.ref l]=[some (.int first),some (.ref l),none,none,none,none,none] from rfl]
  simp! only [and_true]
  intro r H1 hr1 e1 h1
  have hl1:=e1.at hl
  have hpos:∀ a∈axs,(1:Int)≤a.1:=fun a ha=>(hax.2 a ha).1
  simp! only [and_true]
  refine for_lst (xs:=ys) (fun i σ H'=>∃ (r:Addr) (v3 v4 v5 v6:Option V),σ=[some (.int first),some (.ref l),some (.ref r),v3,v4,v5,v6]∧Ext H H'∧H r=none∧H' r=some (.lst ((cellsL first (axs.take i)).map V.int))) ⟨r,none,none,none,none,rfl,e1,hr1,h1⟩ (fun i σ H' _ ⟨_,_,_,_,_,_,e,_,_⟩=>e.at hl) ?_ ?_
  ·rintro i y _ H3 hi ⟨r3,v3,v4,v5,v6,rfl,e3,hr3,h3⟩
   obtain ⟨a,q,ha,rfl,hq⟩:=al_ax al hi
   have hq3:=e3.at hq
   have hm:=hax.2 a (List.mem_of_getElem? ha)
   have hlen:(cellsL first (axs.take i)).length * a.1.toNat≤4096:=by
    have hl4:=cellsL_len first (axs.take i) fun b hb=>hpos b (List.mem_of_mem_take hb)
    have hp:=prodL_take_le (axs.map fun a=>a.1) (fun n hn=>by obtain ⟨b,hb,rfl⟩:=List.mem_map.mp hn;exact hpos b hb) (i+1)
    rw [prodL_take _ i a.1 (by rw [List.getElem?_map,ha];rfl),←List.map_take,←hl4] at hp
    have hza:((a.1.toNat:Nat):Int)=a.1:=Int.toNat_of_nonneg (by omega)
    have:(((cellsL first (axs.take i)).length * a.1.toNat:Nat):Int)≤4096:=by rw [Int.natCast_mul,hza];omega
    omega
   have hsn:cellsL first (axs.take (i+1))=wideL (cellsL first (axs.take i)) a:=by
    rw [List.take_add_one,ha]
    show cellsL first (axs.take i++[a])=_
    rw [cellsL_snoc]
   rw [hsn]
   generalize cellsL first (axs.take i)=cs at hlen h3
   clear hsn hi k
   simp! only [↓m_kBody]
   intro g H4 hg4 e4 h4
   have h3_4:=e4.at h3
   have hg0:H g=none:=e3.free hg4
   simp! only [and_true]
   refine for_lst (xs:=cs.map V.int) (fun j σ H'=>∃ v6:Option V,σ=[some (.int first),some (.ref l),some (.ref r3),some (.int a.1),some (.int a.2),some (.ref g),v6]∧Ext H H'∧Ext H3 H'∧H' g=some (.lst ((wideL (cs.take j) a).map V.int))) ⟨_,rfl,e3.trans e4,e4,h4⟩ (fun j σ H' _ ⟨_,_,_,e,_⟩=>e.at h3) ?_ ?_
   ·rintro j x _ H5 hj ⟨v6',rfl,e5,e35,h5⟩
    rw [List.getElem?_map] at hj
    obtain ⟨c,hc,rfl⟩:=Option.map_eq_some_iff.mp hj
    have hjl:j < cs.length:=(List.getElem?_eq_some_iff.mp hc).1
    have hzn:a.1.toNat≤4096:=by
     have:=Nat.mul_le_mul_right a.1.toNat (show 1≤cs.length by omega)
     omega
    have hwl:(wideL (cs.take j) a).length+a.1.toNat≤4096:=by
     rw [wideL_len,List.length_take]
     have:(min j cs.length+1) * a.1.toNat≤cs.length * a.1.toNat:=Nat.mul_le_mul_right _ (by omega)
     rw [Nat.add_mul,Nat.one_mul] at this
     omega
    rw [wideL_take cs a j c hc]
    generalize wideL (cs.take j) a=ws at h5 hwl
    clear hj
    simp! only [↓m_kBody]
    refine ⟨by omega,by omega,?_⟩
    refine comp_fm (List.range a.1.toNat) (fun _=>true) (fun m=>.int (c+(m:Int) * a.2)) (fun j x H'=>x=.int (0+(j:Nat))) wk_rng.1 wk_rng.2 (len5000 (by rw [List.length_range];omega)) ?_ ?_
    ·intro D m x H' N1 N0 hm' hD e hx k1 _
     subst hx
     have hmr:=List.mem_range.mp hm'
     have k1':=k1 rfl H' (Ext.refl _)
     rw [show c+(m:Int) * a.2=c+(0+(m:Int)) * a.2 by rw [Int.zero_add]] at k1'
     have hcm:CMul (0+(m:Int)) a.2:=.inl ⟨by omega,by omega⟩
     clear k1 hm'
     simp! only [↓m_kCm_1,↓m_kCm2]
    ·intro D H6 hD e6 h6
     rw [filt] at h6
     have h5_6:=e6.at h5
     have hll:ws.length+(List.range a.1.toNat).length≤sizeLine:=len5000 (by rw [List.length_range];omega)
     clear h5
     simp! only [and_true]
     refine ⟨_,rfl,(e5.trans e6).put hg0,(e35.trans e6).put hg4,?_⟩
     rw [List.map_append,List.map_map]
     rfl
   ·rintro _ H5 ⟨v6',rfl,e5,e35,h5⟩
    rw [List.length_map,List.take_length] at h5
    simp! only [and_true]
    exact ⟨g,_,_,_,_,rfl,e5,hg0,h5⟩
  ·rintro _ H3 ⟨r3,v3,v4,v5,v6,rfl,e3,hr3,h3⟩
   have hyl:ys.length=axs.length:=by rw [al.1];unfold axL;rw [List.length_map]
   rw [hyl,List.take_length] at h3
   simp! only [and_true]
   exact k r3 H3 hr3 e3 h3
theorem inV_ints (a:Int) (xs:List Int):inV (.int a) (xs.map V.int)=decide (a∈xs):=by
 unfold inV
 rw [List.any_map]
 apply Bool.eq_iff_iff.mpr
 rw [List.any_eq_true,decide_eq_true_eq]
 constructor
 ·rintro ⟨y,hy,e⟩
  have e':eqV (.int y) (.int a)=true:=e
  have:y=a:=by simpa [eqV] using e'
  rw [←this]
  exact hy
 ·intro h
  exact ⟨a,h,by show eqV (.int a) (.int a)=true;simp [eqV]⟩
theorem flat_ints (ns:List Int):(ns.map V.int).all flatV=true:=by rw [List.all_map];exact List.all_eq_true.mpr fun _ _=>rfl
structure SmV (room f:Int) (A:List (Int × Int)):Prop where
 len:A.length≤2
 sz:∀ a∈A,(1≤a.1∧a.1≤4)∧(-5≤a.2∧a.2≤5)
 pr:prodL (A.map fun a=>a.1)≤16
 lo:0≤f+leastL A
 hi:f+greatL A < room
def DvA (H:Hp) (p:Addr) (f:Int) (A:List (Int × Int)):Prop:=∃ l,H p=some (.tup [.int f,.ref l])∧TupsAt H l (axL A)
theorem DvA.ext {H H':Hp}{p:Addr}{f:Int}{A:List (Int × Int)}(h:DvA H p f A) (e:Ext H H'):DvA H' p f A:=by
 obtain ⟨l,h1,h2⟩:=h
 exact ⟨l,e.at h1,h2.ext e⟩
theorem SmV.axes {room f:Int}{A:List (Int × Int)}(h:SmV room f A):Axes A:=⟨by have:=h.len;omega,fun a ha=>by have:=(h.sz a ha).1;omega⟩
def DrA (H:Hp) (d:Addr) (room:Int) (w:Nat) (f1:Int) (A1:List (Int × Int)) (f2:Int) (A2:List (Int × Int)):Prop:=w < 5∧SmV room f1 A1∧SmV room f2 A2∧prodL (A1.map fun a=>a.1)=prodL (A2.map fun a=>a.1)∧∃ p1 p2 x,H d=some (.tup [.int (w:Int),.ref p1,.ref p2,.int x])∧DvA H p1 f1 A1∧DvA H p2 f2 A2
theorem DrA.ext {H H':Hp}{d:Addr}{room:Int}{w:Nat}{f1:Int}{A1:List (Int × Int)}{f2:Int}{A2:List (Int × Int)}(h:DrA H d room w f1 A1 f2 A2) (e:Ext H H'):DrA H' d room w f1 A1 f2 A2:=by
 obtain ⟨h1,h2,h3,h4,p1,p2,x,h5,h6,h7⟩:=h
 exact ⟨h1,h2,h3,h4,p1,p2,x,e.at h5,h6.ext e,h7.ext e⟩
abbrev B_spKCount  (p:Addr) (H:Hp) (Q:VK) (E:XK):Prop:=∃ (f room:Int) (A:List (Int × Int)),DvA H p f A∧SmV room f A∧Q (.int (prodL (A.map fun a=>a.1))) H
def spKCount  : Sp:=fun vs H Q E=>∃ (p:Addr),vs=[.ref p]∧(B_spKCount  p H Q E)
theorem c_spKCount  (p:Addr) (H:Hp) (Q:VK) (E:XK):spKCount  [.ref p] H Q E=(B_spKCount  p H Q E):=spx1 (f:=fun (p:Addr)=>[.ref p]) (fun _ _ h=>by cases h;exact rfl) p
theorem l_spKCount  {vs:List V}{H:Hp}{Q:VK}{E:XK}(h:spKCount  vs H Q E):vs.length=1:=spl1 h fun _=>rfl
theorem ok__law_count (T:Tx K mg t):FnOk P w K mg base CX0 1 t.a__law_count t.d__law_count ["_law_view"] spKCount:=by
 refine T.F__law_count.ok c__law_count (fun vs H Q E h=>l_spKCount h) (fun cdv A' outer s H vs Q E hr h=>?_)
 ·obtain ⟨p,rfl,f,room,A,⟨l,hp,ys,hl,al⟩,sv,k⟩:=h
  refine ⟨_,(@pss_cons _ _ _ _ _ (@ps_set _ _ (1) _ _ _ _ c__law_count.nd rfl (Or.inl rfl) (@pe_int _ _ _ _) (by rfl) (by trivial)) (@pss_cons _ _ _ _ _ (@ps_for _ _ _ _ _ _ _ _ PassesOwn.never rfl (@pi_seq _ _ _ _ (@pe_ix _ _ _ _ _ _ _ ix_q (@pvN _ 0 _ _ (by rfl) (by trivial) (by decide) (by decide)) (@pe_int _ _ _ _) (fun _ _=>rfl))) ((@pg_tup _ _ _ _ _ (2) rfl (@pgs_consN _ _ _ _ _ (@pg_name _ _ (2) _ c__law_count.nd rfl (Or.inl rfl) (by trivial)) (@pgs_consN _ _ _ _ _ (@pg_name _ _ (3) _ c__law_count.nd rfl (Or.inl rfl) (by trivial)) (@pgs_nilN _) (by rfl)) (by rfl)) (by rfl) (by rfl)).mono fun _ _ _ _ h=>gTup_q h) (@pss_one _ _ _ (@ps_set _ _ (1) _ _ _ _ c__law_count.nd rfl (Or.inl rfl) (@pe_op _ _ _ _ _ _ _ _ on_mul (@pvN _ 1 _ _ (by rfl) (by trivial) (by decide) (by decide)) (@pvN _ 2 _ _ (by rfl) (by trivial) (by decide) (by decide))) (by rfl) (by trivial))) (by intros;rfl)) (@pss_one _ _ _ (@ps_ret _ _ _ _ (@pvN _ 1 _ _ (by rfl) (by trivial) (by decide) (by decide)))))),?_⟩
  rw [show start ["_law_view", "_law_count_here", "_law_size", "_law_pace"] [.ref p]=[some (.ref p),none,none,none] from rfl]
  replace al:=fun (_:Unit)=>al
  replace k:=fun (_:Unit)=>k
  simp! only [and_true]
  refine for_lst (xs:=ys) (fun i σ H'=>∃ v2 v3:Option V,σ=[some (.ref p),some (.int (prodL ((A.map fun a=>a.1).take i))),v2,v3]∧H'=H) ⟨none,none,rfl,rfl⟩ (fun i σ H' _ ⟨_,_,_,e⟩=>e ▸ hl) ?_ ?_
  ·rintro i y _ _ hi ⟨v2,v3,rfl,rfl⟩
   rename_i H
   obtain ⟨a,q,ha,rfl,hq⟩:=al_ax (al ()) hi
   have hs:=sv.sz a (List.mem_of_getElem? ha)
   have e:=prodL_take (A.map fun a=>a.1) i a.1 (by rw [List.getElem?_map,ha];rfl)
   have cm:CMul (prodL ((A.map fun a=>a.1).take i)) a.1:=.inr ⟨by omega,by omega⟩
   rw [e]
   generalize prodL ((A.map fun a=>a.1).take i)=pp at *
   clear hi ha e k
   simp! only [↓m_kBody]
   exact ⟨_,_,rfl⟩
  ·rintro _ _ ⟨v2,v3,rfl,rfl⟩
   rename_i H
   have hyl:ys.length=(A.map fun a=>a.1).length:=by rw [(al ()).1];unfold axL;rw [List.length_map,List.length_map]
   rw [hyl,List.take_length]
   have k2:=k ()
   clear k
   simp! only [and_true]
theorem at5 {x0 x1 x2 x3 x4:Addr}{w:Nat}(hw:w < 5):∃ x,atI [V.ref x0,V.ref x1,V.ref x2,V.ref x3,V.ref x4] (w:Int)=some (.ref x)∧((w=0∧x=x0)∨(w=1∧x=x1)∨(w=2∧x=x2)∨(w=3∧x=x3)∨(w=4∧x=x4)):=by
 match w,hw with
 | 0,_=>exact ⟨x0,atI_nat (j:=0) rfl,.inl ⟨rfl,rfl⟩⟩
 | 1,_=>exact ⟨x1,atI_nat (j:=1) rfl,.inr (.inl ⟨rfl,rfl⟩)⟩
 | 2,_=>exact ⟨x2,atI_nat (j:=2) rfl,.inr (.inr (.inl ⟨rfl,rfl⟩))⟩
 | 3,_=>exact ⟨x3,atI_nat (j:=3) rfl,.inr (.inr (.inr (.inl ⟨rfl,rfl⟩)))⟩
 | 4,_=>exact ⟨x4,atI_nat (j:=4) rfl,.inr (.inr (.inr (.inr ⟨rfl,rfl⟩)))⟩
def TchA (H:Hp) (r:Addr) (w:Nat) (c1 c2:List Int):Prop:=∃ a b,H r=some (.tup [.ref a,.ref b])∧H a=some (.lst ((WrC w c1 c2).map V.int))∧H b=some (.lst ((RdC w c1 c2).map V.int))
theorem TchA.ext {H H':Hp}{r:Addr}{w:Nat}{c1 c2:List Int}(h:TchA H r w c1 c2) (e:Ext H H'):TchA H' r w c1 c2:=by
 obtain ⟨a,b,h1,h2,h3⟩:=h
 exact ⟨a,b,e.at h1,e.at h2,e.at h3⟩
abbrev B_spTouched  (d:Addr) (H:Hp) (Q:VK) (E:XK):Prop:=∃ (room:Int) (w:Nat) (f1:Int) (A1:List (Int × Int)) (f2:Int) (A2:List (Int × Int)),DrA H d room w f1 A1 f2 A2∧∀ (r:Addr) (H':Hp),Ext H H'->TchA H' r w (cellsL f1 A1) (cellsL f2 A2)->Q (.ref r) H'
def spTouched  : Sp:=fun vs H Q E=>∃ (d:Addr),vs=[.ref d]∧(B_spTouched  d H Q E)
theorem c_spTouched  (d:Addr) (H:Hp) (Q:VK) (E:XK):spTouched  [.ref d] H Q E=(B_spTouched  d H Q E):=spx1 (f:=fun (d:Addr)=>[.ref d]) (fun _ _ h=>by cases h;exact rfl) d
theorem l_spTouched  {vs:List V}{H:Hp}{Q:VK}{E:XK}(h:spTouched  vs H Q E):vs.length=1:=spl1 h fun _=>rfl
theorem ok__law_touched (T:Tx K mg t):FnOk P w K mg base CX0 2 t.a__law_touched t.d__law_touched ["_law_drawn_here"] spTouched:=by
 have G__law_cells:=ok__law_cells (P:=P) (w:=w) (base:=base) T
 refine T.F__law_touched.ok c__law_touched (fun vs H Q E h=>l_spTouched h) (fun cdv A' outer s H vs Q E hr h=>?_)
 ·obtain ⟨d,rfl,room,w',f1,A1,f2,A2,⟨hw,s1,s2,hpe,p1,p2,x,hd,⟨l1,hp1,t1⟩,⟨l2,hp2,t2⟩⟩,k⟩:=h
  refine ⟨_,(@pss_cons _ _ _ _ _ (@ps_asg _ _ _ _ _ _ (@pvN _ 0 _ _ (by rfl) (by trivial) (by decide) (by decide)) ((@pg_tup _ _ _ _ _ (4) rfl (@pgs_consN _ _ _ _ _ (@pg_name _ _ (1) _ c__law_touched.nd rfl (Or.inl rfl) (by trivial)) (@pgs_consN _ _ _ _ _ (@pg_name _ _ (2) _ c__law_touched.nd rfl (Or.inl rfl) (by trivial)) (@pgs_consN _ _ _ _ _ (@pg_name _ _ (3) _ c__law_touched.nd rfl (Or.inl rfl) (by trivial)) (@pgs_consN _ _ _ _ _ (@pg_name _ _ (4) _ c__law_touched.nd rfl (Or.inl rfl) (by trivial)) (@pgs_nilN _) (by rfl)) (by rfl)) (by rfl)) (by rfl)) (by rfl) (by rfl)).mono fun _ _ _ _ h=>gTup_q h) (by rfl) (by rfl) (by rfl)) (@pss_cons _ _ _ _ _ (@ps_set _ _ (5) _ _ _ _ c__law_touched.nd rfl (Or.inl rfl) (@pe_call _ _ _ _ _ _ _ _ _ _ _ _ _ _ _ _ G__law_cells (hr.mono (by decide)) (by rfl) T.m__law_cells T.F__law_cells.kp T.b__law_cells .nil pass0 (@pa_c _ _ _ _ _ (@pe_ix _ _ _ _ _ _ _ ix_q (@pvN _ 2 _ _ (by rfl) (by trivial) (by decide) (by decide)) (@pe_int _ _ _ _) (fun _ _=>rfl)) (@pa_c _ _ _ _ _ (@pe_ix _ _ _ _ _ _ _ ix_q (@pvN _ 2 _ _ (by rfl) (by trivial) (by decide) (by decide)) (@pe_int _ _ _ _) (fun _ _=>rfl)) (@pa_nil _) (by rfl)) (by rfl)) (by decide) (by rfl) (by rfl)) (by rfl) (by trivial)) (@pss_cons _ _ _ _ _ (@ps_set _ _ (6) _ _ _ _ c__law_touched.nd rfl (Or.inl rfl) (@pe_call _ _ _ _ _ _ _ _ _ _ _ _ _ _ _ _ G__law_cells (hr.mono (by decide)) (by rfl) T.m__law_cells T.F__law_cells.kp T.b__law_cells .nil pass0 (@pa_c _ _ _ _ _ (@pe_ix _ _ _ _ _ _ _ ix_q (@pvN _ 3 _ _ (by rfl) (by trivial) (by decide) (by decide)) (@pe_int _ _ _ _) (fun _ _=>rfl)) (@pa_c _ _ _ _ _ (@pe_ix _ _ _ _ _ _ _ ix_q (@pvN _ 3 _ _ (by rfl) (by trivial) (by decide) (by decide)) (@pe_int _ _ _ _) (fun _ _=>rfl)) (@pa_nil _) (by rfl)) (by rfl)) (by decide) (by rfl) (by rfl)) (by rfl) (by trivial)) (@pss_cons _ _ _ _ _ (@ps_set _ _ (7) _ _ _ _ c__law_touched.nd rfl (Or.inl rfl) (@pe_ix _ _ _ _ _ _ _ ix_q (@pe_qLst _ _ _ _ (@pa_c _ _ _ _ _ (@pe_qLst _ _ _ _ (@pa_nil _)) (@pa_c _ _ _ _ _ (@pvN _ 5 _ _ (by rfl) (by trivial) (by decide) (by decide)) (@pa_c _ _ _ _ _ (@pvN _ 5 _ _ (by rfl) (by trivial) (by decide) (by decide)) (@pa_c _ _ _ _ _ (@pe_op _ _ _ _ _ _ _ _ op_nCat (@pvN _ 5 _ _ (by rfl) (by trivial) (by decide) (by decide)) (@pvN _ 6 _ _ (by rfl) (by trivial) (by decide) (by decide))) (@pa_c _ _ _ _ _ (@pvN _ 5 _ _ (by rfl) (by trivial) (by decide) (by decide)) (@pa_nil _) (by rfl)) (by rfl)) (by rfl)) (by rfl)) (by rfl))) (@pvN _ 1 _ _ (by rfl) (by trivial) (by decide) (by decide)) (fun _ _=>rfl)) (by rfl) (by trivial)) (@pss_one _ _ _ (@ps_ret _ _ _ _ (@pe_qTup _ _ _ _ _ (@pa_c _ _ _ _ _ (@pvN _ 7 _ _ (by rfl) (by trivial) (by decide) (by decide)) (@pa_c _ _ _ _ _ (@pe_ix _ _ _ _ _ _ _ ix_q (@pe_qLst _ _ _ _ (@pa_c _ _ _ _ _ (@pe_qLst _ _ _ _ (@pa_nil _)) (@pa_c _ _ _ _ _ (@pe_qLst _ _ _ _ (@pa_nil _)) (@pa_c _ _ _ _ _ (@pvN _ 6 _ _ (by rfl) (by trivial) (by decide) (by decide)) (@pa_c _ _ _ _ _ (@pe_op _ _ _ _ _ _ _ _ op_nCat (@pvN _ 5 _ _ (by rfl) (by trivial) (by decide) (by decide)) (@pvN _ 6 _ _ (by rfl) (by trivial) (by decide) (by decide))) (@pa_c _ _ _ _ _ (@pe_op _ _ _ _ _ _ _ _ op_nCat (@pvN _ 5 _ _ (by rfl) (by trivial) (by decide) (by decide)) (@pvN _ 6 _ _ (by rfl) (by trivial) (by decide) (by decide))) (@pa_nil _) (by rfl)) (by rfl)) (by rfl)) (by rfl)) (by rfl))) (@pvN _ 1 _ _ (by rfl) (by trivial) (by decide) (by decide)) (fun _ _=>rfl)) (@pa_nil _) (by rfl)) (by rfl))))))))),?_⟩
  rw [show start ["_law_drawn_here", "_law_way", "_law_one", "_law_other", "_law_value", "_law_here", "_law_there", "_law_writes"] [.ref d]=[some (.ref d),none,none,none,none,none,none,none] from rfl]
  clear G__law_cells
  replace k:=fun (_:Unit)=>k
  have n1:=s1.pr
  have n2:=s2.pr
  have q1:=cellsL_len f1 A1 fun a ha=>(s1.axes.2 a ha).1
  have q2:=cellsL_len f2 A2 fun a ha=>(s2.axes.2 a ha).1
  simp! only [and_true]
  rw [c_spLCells]
  refine ⟨A1,t1,s1.axes,by omega,fun r1 H1 _ e1 h1=>?_⟩
  have hp2_1:=e1.at hp2
  clear hd hp1 hp2
  simp! only [and_true]
  rw [c_spLCells]
  refine ⟨A2,t2.ext e1,s2.axes,by omega,fun r2 H2 _ e2 h2=>?_⟩
  have h1_2:=e2.at h1
  have e02:=e1.trans e2
  generalize cellsL f1 A1=c1 at *
  generalize cellsL f2 A2=c2 at *
  have hlen:(c1.map V.int).length+(c2.map V.int).length≤sizeLine:=len5000 (by rw [List.length_map,List.length_map];omega)
  clear hp2_1 h1 e1 e2
  simp! only [and_true]
  intro e0 H3 _ e3 h3
  refine use_cat (e3.at h1_2) (e3.at h2) hlen ?_
  rw [←List.map_append]
  intro ct H4 _ e4 h4
  have e24:=e3.trans e4
  have h1_4:=e24.at h1_2
  have h2_4:=e24.at h2
  have h3_4:=e4.at h3
  clear h1_2 h2 h3 e3 e4
  simp! only [and_true]
  intro L5 H5 _ e5 h5
  obtain ⟨xw,hatw,hxw⟩:=at5 (x0:=e0) (x1:=r1) (x2:=r1) (x3:=ct) (x4:=r1) hw
  have h1_5:=e5.at h1_4
  have h2_5:=e5.at h2_4
  have h3_5:=e5.at h3_4
  have h4_5:=e5.at h4
  have hxw5:H5 xw=some (.lst ((WrC w' c1 c2).map V.int)):=by
   rcases hxw with ⟨rfl,rfl⟩|⟨rfl,rfl⟩|⟨rfl,rfl⟩|⟨rfl,rfl⟩|⟨rfl,rfl⟩
   ·exact h3_5
   ·exact h1_5
   ·exact h1_5
   ·exact h4_5
   ·exact h1_5
  have e05:=e02.trans (e24.trans e5)
  clear hxw h1_4 h2_4 h3_4 h4 h3_5 h4_5 e02 e24 e5
  simp! only [and_true]
  clear h5 hatw
  intro a0 H6 _ e6 h6
  simp! only [and_true]
  intro a1 H7 _ e7 h7
  have e57:=e6.trans e7
  refine use_cat (e57.at h1_5) (e57.at h2_5) hlen ?_
  rw [←List.map_append]
  intro b3 H8 _ e8 h8
  have e58:=e57.trans e8
  have h1_8:=e58.at h1_5
  have h2_8:=e58.at h2_5
  have h6_8:=(e7.trans e8).at h6
  have h7_8:=e8.at h7
  have hxw8:=e58.at hxw5
  have e08:=e05.trans e58
  clear h1_5 h2_5 h6 h7 hxw5 e6 e7 e8 e57 e58 e05
  simp! only [and_true]
  refine ⟨len5000 (by omega),?_⟩
  rw [←List.map_append]
  intro b4 H9 _ e9 h9
  have h8_9:=e9.at h8
  have h2_9:=e9.at h2_8
  have h6_9:=e9.at h6_8
  have h7_9:=e9.at h7_8
  have hxw9:=e9.at hxw8
  clear h8 h2_8 h1_8 h6_8 h7_8 hxw8
  simp! only [and_true]
  intro L10 H10 _ e10 h10
  obtain ⟨xr,hatr,hxr⟩:=at5 (x0:=a0) (x1:=a1) (x2:=r2) (x3:=b3) (x4:=b4) hw
  have hxr10:H10 xr=some (.lst ((RdC w' c1 c2).map V.int)):=by
   rcases hxr with ⟨rfl,rfl⟩|⟨rfl,rfl⟩|⟨rfl,rfl⟩|⟨rfl,rfl⟩|⟨rfl,rfl⟩
   ·exact e10.at h6_9
   ·exact e10.at h7_9
   ·exact e10.at h2_9
   ·exact e10.at h8_9
   ·exact e10.at h9
  have hxw10:=e10.at hxw9
  have e010:=e08.trans (e9.trans e10)
  clear hxr h8_9 h2_9 h6_9 h7_9 hxw9 h9 e9 e10 e08
  simp! only [and_true]
  intro r11 H11 _ e11 h11
  exact k () r11 H11 (e010.trans e11) ⟨xw,xr,h11,e11.at hxw10,e11.at hxr10⟩
def inC (R:List Int):V->Bool
 | .int c=>decide (c∈R)
 | _=>false
abbrev B_spKClash  (d:Addr) (d':Addr) (H:Hp) (Q:VK) (E:XK):Prop:=∃ (room:Int) (w:Nat) (f1:Int) (A1:List (Int × Int)) (f2:Int) (A2:List (Int × Int)) (w':Nat) (g1:Int) (B1:List (Int × Int)) (g2:Int) (B2:List (Int × Int)),DrA H d room w f1 A1 f2 A2∧DrA H d' room w' g1 B1 g2 B2∧∀ (b:Bool) (H':Hp),Ext H H'->(b=true ↔ ClC w (cellsL f1 A1) (cellsL f2 A2) w' (cellsL g1 B1) (cellsL g2 B2))->Q (.bl b) H'
def spKClash  : Sp:=fun vs H Q E=>∃ (d:Addr) (d':Addr),vs=[.ref d,.ref d']∧(B_spKClash  d d' H Q E)
theorem c_spKClash  (d:Addr) (d':Addr) (H:Hp) (Q:VK) (E:XK):spKClash  [.ref d,.ref d'] H Q E=(B_spKClash  d d' H Q E):=spx2 (f:=fun (d:Addr) (d':Addr)=>[.ref d,.ref d']) (fun _ _ _ _ h=>by cases h;exact ⟨rfl,rfl⟩) d d'
theorem l_spKClash  {vs:List V}{H:Hp}{Q:VK}{E:XK}(h:spKClash  vs H Q E):vs.length=2:=spl2 h fun _ _=>rfl
theorem wc_len (w:Nat) (a b:List Int):(WrC w a b).length≤a.length+b.length∧(RdC w a b).length≤a.length+b.length:=by
 match w with
 | 0=>exact ⟨Nat.zero_le _,Nat.zero_le _⟩
 | 1=>exact ⟨Nat.le_add_right _ _,Nat.zero_le _⟩
 | 2=>exact ⟨Nat.le_add_right _ _,Nat.le_add_left _ _⟩
 | 3=>exact ⟨by show (a++b).length≤_;rw [List.length_append];exact Nat.le_refl _,by show (a++b).length≤_;rw [List.length_append];exact Nat.le_refl _⟩
 | n+4=>exact ⟨Nat.le_add_right _ _,by show (a++b).length≤_;rw [List.length_append];exact Nat.le_refl _⟩
theorem ok__law_clash (T:Tx K mg t):FnOk P w K mg base CX0 3 t.a__law_clash t.d__law_clash ["_law_one", "_law_other"] spKClash:=by
 have G__law_touched:=ok__law_touched (P:=P) (w:=w) (base:=base) T
 refine T.F__law_clash.ok c__law_clash (fun vs H Q E h=>l_spKClash h) (fun cdv A' outer s H vs Q E hr h=>?_)
 ·obtain ⟨d,d',rfl,room,w1,f1,A1,f2,A2,w2,g1,B1,g2,B2,hd,hd',k⟩:=h
  refine ⟨_,(@pss_cons _ _ _ _ _ (@ps_set _ _ (2) _ _ _ _ c__law_clash.nd rfl (Or.inr rfl) (@pe_call _ _ _ _ _ _ _ _ _ _ _ _ _ _ _ _ G__law_touched (hr.mono (by decide)) (by rfl) T.m__law_touched T.F__law_touched.kp T.b__law_touched .nil pass0 (@pa_c _ _ _ _ _ (@pvN _ 0 _ _ (by rfl) (by trivial) (by decide) (by decide)) (@pa_nil _) (by rfl)) (by decide) (by rfl) (by rfl)) (by rfl) (by trivial)) (@pss_cons _ _ _ _ _ (@ps_set _ _ (3) _ _ _ _ c__law_clash.nd rfl (Or.inl rfl) (@pe_call _ _ _ _ _ _ _ _ _ _ _ _ _ _ _ _ G__law_touched (hr.mono (by decide)) (by rfl) T.m__law_touched T.F__law_touched.kp T.b__law_touched .nil pass0 (@pa_c _ _ _ _ _ (@pvN _ 1 _ _ (by rfl) (by trivial) (by decide) (by decide)) (@pa_nil _) (by rfl)) (by decide) (by rfl) (by rfl)) (by rfl) (by trivial)) (@pss_cons _ _ _ _ _ (@ps_for _ _ _ _ _ _ _ _ PassesOwn.never rfl (@pi_seq _ _ _ _ (@pe_ix _ _ _ _ _ _ _ ix_q (@pvN _ 2 _ _ (by rfl) (by trivial) (by decide) (by decide)) (@pe_int _ _ _ _) (fun _ _=>rfl))) (@pg_name _ _ (4) _ c__law_clash.nd rfl (Or.inl rfl) (by trivial)) (@pss_one _ _ _ (@ps_if _ _ _ _ _ _ _ _ (PW.pt (@pw_or _ _ _ _ _ _ _ (@pt_cmpRN _ _ _ _ _ _ _ _ op_nIn (@pvN _ 4 _ _ (by rfl) (by trivial) (by decide) (by decide)) (@pe_ix _ _ _ _ _ _ _ ix_q (@pvN _ 3 _ _ (by rfl) (by trivial) (by decide) (by decide)) (@pe_int _ _ _ _) (fun _ _=>rfl)) (by with_unfolding_all rfl)) (@pw_or1 _ _ _ _ (@pt_cmpRN _ _ _ _ _ _ _ _ op_nIn (@pvN _ 4 _ _ (by rfl) (by trivial) (by decide) (by decide)) (@pe_ix _ _ _ _ _ _ _ ix_q (@pvN _ 3 _ _ (by rfl) (by trivial) (by decide) (by decide)) (@pe_int _ _ _ _) (fun _ _=>rfl)) (by with_unfolding_all rfl))))) (@pss_one _ _ _ (@ps_ret _ _ _ _ (@pe_bl _ _ _ _))) (@pss_nil _))) (by intros;rfl)) (@pss_one _ _ _ (@ps_ret _ _ _ _ (@pe_cmpR _ _ _ _ _ _ _ _ (op_qNe hr.units) (@pe_comp _ _ _ _ _ _ _ _ _ _ _ (["_law_cell", "_law_one", "_law_other", "_law_here", "_law_there", "!_law_cell"]) (1) (comp_ok (defScope s__law_clash) ["_law_one", "_law_other", "_law_here", "_law_there", "_law_cell"] rfl rfl (by decide +kernel)) rfl (@pi_seq _ _ _ _ (@pe_ix _ _ _ _ _ _ _ ix_q (@pvN _ 3 _ _ (by rfl) (by trivial) (by decide) (by decide)) (@pe_int _ _ _ _) (fun _ _=>rfl))) (fun C s₀ H₀ ex pn=>(@pg_name _ _ (0) _ (show List.Nodup (["_law_cell", "_law_one", "_law_other", "_law_here", "_law_there", "!_law_cell"]:List Str) from by decide +kernel) rfl (Or.inl rfl) (by trivial))) (fun C s₀ H₀ ex pn=>(@pts_one _ _ _ (@pt_cmpRN _ _ _ _ _ _ _ _ op_nIn (@pvN _ 0 _ _ (by rfl) (by trivial) (by decide) (by decide)) (@pe_ix _ _ _ _ _ _ _ ix_q (@pvN _ 3 _ _ (by rfl) (by trivial) (by decide) (by decide)) (@pe_int _ _ _ _) (fun _ _=>rfl)) (by with_unfolding_all rfl)))) (fun C s₀ H₀ ex pn=>(@pvN _ 0 _ _ (by rfl) (by trivial) (by decide) (by decide))) (by intros;rfl)) (@pe_qLst _ _ _ _ (@pa_nil _)) (nomark _))))))),?_⟩
  rw [show start ["_law_one", "_law_other", "_law_here", "_law_there", "_law_cell"] [.ref d,.ref d']=[some (.ref d),some (.ref d'),none,none,none] from rfl]
  clear G__law_touched
  replace k:=fun (_:Unit)=>k
  have l1:(cellsL f1 A1).length≤16:=by have:=cellsL_len f1 A1 fun a ha=>(hd.2.1.axes.2 a ha).1;have:=hd.2.1.pr;omega
  have l2:(cellsL f2 A2).length≤16:=by have:=cellsL_len f2 A2 fun a ha=>(hd.2.2.1.axes.2 a ha).1;have:=hd.2.2.1.pr;omega
  have l3:(cellsL g1 B1).length≤16:=by have:=cellsL_len g1 B1 fun a ha=>(hd'.2.1.axes.2 a ha).1;have:=hd'.2.1.pr;omega
  have l4:(cellsL g2 B2).length≤16:=by have:=cellsL_len g2 B2 fun a ha=>(hd'.2.2.1.axes.2 a ha).1;have:=hd'.2.2.1.pr;omega
  simp! only [and_true]
  rw [c_spTouched]
  refine ⟨room,w1,f1,A1,f2,A2,hd,fun r1 H1 e1 t1=>?_⟩
  simp! only [and_true]
  rw [c_spTouched]
  refine ⟨room,w2,g1,B1,g2,B2,hd'.ext e1,fun r2 H2 e2 t2=>?_⟩
  have wl1:=wc_len w1 (cellsL f1 A1) (cellsL f2 A2)
  have wl2:=wc_len w2 (cellsL g1 B1) (cellsL g2 B2)
  obtain ⟨a1,b1,u1,u2,u3⟩:=t1.ext e2
  obtain ⟨a2,b2,v1,v2,v3⟩:=t2
  have e02:=e1.trans e2
  unfold ClC at k
  generalize WrC w1 (cellsL f1 A1) (cellsL f2 A2)=W1 at *
  generalize RdC w1 (cellsL f1 A1) (cellsL f2 A2)=R1 at *
  generalize WrC w2 (cellsL g1 B1) (cellsL g2 B2)=W2 at *
  generalize RdC w2 (cellsL g1 B1) (cellsL g2 B2)=R2 at *
  have hW1:W1.length≤32:=by omega
  have hW2:W2.length≤32:=by omega
  have fl1:=flat_ints W2
  have fl2:=flat_ints R2
  have fl3:=flat_ints R1
  clear t1 hd hd' e1 e2 wl1 wl2 l1 l2 l3 l4
  simp! only [and_true]
  refine for_lst (xs:=W1.map V.int) (fun i σ H'=>∃ v4:Option V,σ=[some (.ref d),some (.ref d'),some (.ref r1),some (.ref r2),v4]∧H'=H2∧∀ c∈W1.take i,¬ (c∈W2∨c∈R2)) ⟨none,rfl,rfl,fun c hc=>absurd hc (by rw [List.take_zero];exact List.not_mem_nil)⟩ (fun i σ H' _ ⟨_,_,e,_⟩=>e ▸ u2) ?_ ?_
  ·rintro i y _ _ hi ⟨v4,rfl,rfl,hno⟩
   rename_i H2
   rw [List.getElem?_map] at hi
   obtain ⟨c,hic,rfl⟩:=Option.map_eq_some_iff.mp hi
   have hcm:=List.mem_of_getElem? hic
   have i1:=inV_ints c W2
   have i2:=inV_ints c R2
   have flc:flatV (V.int c)=true:=rfl
   by_cases m1:c∈W2
   ·have k2:=k () true H2 e02 ⟨fun _=>.inl ⟨c,hcm,List.mem_append_left _ m1⟩,fun _=>rfl⟩
    rw [decide_eq_true m1] at i1
    clear k hno hi hic i2 m1 hcm
    simp! only [↓m_kBody]
   ·by_cases m2:c∈R2
    ·have k2:=k () true H2 e02 ⟨fun _=>.inl ⟨c,hcm,List.mem_append_right _ m2⟩,fun _=>rfl⟩
     rw [decide_eq_false m1] at i1
     rw [decide_eq_true m2] at i2
     clear k hno hi hic m1 m2 hcm
     simp! only [↓m_kBody]
    ·have hn2:∀ z∈W1.take (i+1),¬ (z∈W2∨z∈R2):=fun z hz=>by
      rw [List.take_add_one,hic] at hz
      rcases List.mem_append.mp hz with hz|hz
      ·exact hno z hz
      ·have:z=c:=by simpa using hz
       rw [this]
       exact fun q=>q.elim m1 m2
     rw [decide_eq_false m1] at i1
     rw [decide_eq_false m2] at i2
     replace hn2:=fun (_:Unit)=>hn2
     clear k hno hi hic m1 m2 hcm
     simp! only [↓m_kBody]
     first|exact ⟨_,rfl,rfl,hn2 ()⟩|exact ⟨_,rfl,hn2 ()⟩
  ·rintro _ _ ⟨v4,rfl,rfl,hno⟩
   rename_i H2
   rw [List.length_map,List.take_length] at hno
   replace hno:=fun (_:Unit)=>hno
   have wk:=wk_lst (K:=K) v2
   clear fl1 fl2
   simp! only [and_true]
   refine comp_fm (W2.map V.int) (inC R1) (fun z=>z) (fun z x H'=>x=z∧H' a2=some (.lst (W2.map V.int))) wk.1 wk.2 (len5000 (by rw [List.length_map];omega)) ?_ ?_
   ·intro D z x H' N1 N0 hz hD e ⟨hx,_⟩ k1 k0
    obtain ⟨c,hc,rfl⟩:=List.mem_map.mp hz
    subst hx
    have u1':=e.at u1
    have u3':=e.at u3
    have i3:=inV_ints c R1
    have flc:flatV (V.int c)=true:=rfl
    by_cases m:c∈R1
    ·have k1':N1 (.int c) H':=k1 (decide_eq_true m) H' (Ext.refl _)
     rw [decide_eq_true m] at i3
     clear k1 k0 hz hc m k hno wk u1 u2 u3 v1 v2 v3
     simp! only [↓m_kCm_1,↓m_kCm2]
    ·have k0':N0 H':=k0 (decide_eq_false m) H' (Ext.refl _)
     rw [decide_eq_false m] at i3
     clear k1 k0 hz hc m k hno wk u1 u2 u3 v1 v2 v3
     simp! only [↓m_kCm_1,↓m_kCm2]
   ·intro D H3 hD e3 h3
    have h3':H3 D=some (.lst ((W2.filter fun c=>decide (c∈R1)).map V.int)):=by rw [h3,List.filter_map,List.map_map];rfl
    have hF:(W2.filter fun c=>decide (c∈R1)) ≠ [] ↔ MtP W2 R1:=by
     constructor
     ·intro h
      obtain ⟨c,hc⟩:=List.exists_mem_of_ne_nil _ h
      obtain ⟨h1,h2⟩:=List.mem_filter.mp hc
      exact ⟨c,h1,of_decide_eq_true h2⟩
     ·rintro ⟨c,h1,h2⟩ h
      have:c∈(W2.filter fun c=>decide (c∈R1)):=List.mem_filter.mpr ⟨h1,decide_eq_true h2⟩
      rw [h] at this
      cases this
    generalize (W2.filter fun c=>decide (c∈R1))=F at *
    have hl1:¬ MtP W1 (W2++R2):=fun ⟨c,h1,h2⟩=>hno () c h1 (List.mem_append.mp h2)
    replace hF:=fun (_:Unit)=>hF
    replace hl1:=fun (_:Unit)=>hl1
    clear h3 wk hno hD
    cases F with
    | nil=>
     have kf:=fun (_:Unit) H4 e4=>k () false H4 e4 ⟨(fun h=>by cases h),fun h=>h.elim (fun q=>absurd q (hl1 ())) fun q=>absurd ((hF ()).mpr q) (by simp)⟩
     clear k hF hl1
     simp! only [and_true]
     intro n4 H4 _ e4 h4
     have h3_4:=e4.at h3'
     have k2:=kf () H4 (e02.trans (e3.trans e4))
     clear kf h3'
     simp! only [and_true]
    | cons c0 F=>
     have kf:=fun (_:Unit) H4 e4=>k () true H4 e4 ⟨fun _=>.inr ((hF ()).mp (by simp)),fun _=>rfl⟩
     clear k hF hl1
     simp! only [and_true]
     intro n4 H4 _ e4 h4
     have h3_4:=e4.at h3'
     have k2:=kf () H4 (e02.trans (e3.trans e4))
     clear kf h3'
     simp! only [and_true]
theorem optK_pick {xs:List V}{i:Int}{k:V->Prop}(P:V->Prop) (h0:0≤i) (h1:i < xs.length) (ha:∀ v∈xs,P v) (hk:∀ v,P v->k v):optK (atI xs i) k:=optK_at h0 h1 fun v hv=>hk v (ha v hv)
theorem Al.cons' {α:Type}{R:α->V->Prop}{z:α}{y:V}{zs:List α}{ys:List V}(r:R z y) (h:Al R zs ys):Al R (z::zs) (y::ys):=⟨by simp [h.1],fun i z' y' a b=>by
 cases i with
 | zero=>cases a;cases b;exact r
 | succ n=>exact h.2 n z' y' (by simpa using a) (by simpa using b)⟩
abbrev Vz:=Addr × Int × List (Int × Int)
def VsZ (H:Hp) (room:Int) (r:Addr) (zs:List Vz):Prop:=∀ z∈zs,SmV room z.2.1 z.2.2∧∃ l,l ≠ r∧H z.1=some (.tup [.int z.2.1,.ref l])∧TupsAt H l (axL z.2.2)
theorem VsZ.ext {H H':Hp}{room:Int}{r:Addr}{zs:List Vz}(h:VsZ H room r zs) (e:Ext H H'):VsZ H' room r zs:=fun z hz=>by
 obtain ⟨h1,l,h2,h3,h4⟩:=h z hz
 exact ⟨h1,l,h2,e.at h3,h4.ext e⟩
theorem TupsAt.up {H:Hp}{l r:Addr}{zs:List (List Int)}{xs:List V}{o:HO}(h:TupsAt H l zs) (hne:l ≠ r) (hr:H r=some (.lst xs)):TupsAt (upd H r o) l zs:=by
 obtain ⟨ys,h1,h2⟩:=h
 exact ⟨ys,by rw [upd_ne hne];exact h1,h2.imp fun _ _ t=>t.upd hr⟩
theorem VsZ.upd {H:Hp}{room:Int}{r:Addr}{zs:List Vz}{xs:List V}{o:HO}(h:VsZ H room r zs) (hr:H r=some (.lst xs)):VsZ (upd H r o) room r zs:=fun z hz=>by
 obtain ⟨h1,l,h2,h3,h4⟩:=h z hz
 exact ⟨h1,l,h2,by rw [upd_ne (fun e=>by rw [e,hr] at h3;cases h3)];exact h3,TupsAt.up h4 h2 hr⟩
theorem VsZ.dv {H:Hp}{room:Int}{r:Addr}{zs:List Vz}(h:VsZ H room r zs){z:Vz}(hz:z∈zs):DvA H z.1 z.2.1 z.2.2∧SmV room z.2.1 z.2.2:=by
 obtain ⟨h1,l,_,h3,h4⟩:=h z hz
 exact ⟨⟨l,h3,h4⟩,h1⟩
structure AxD (A:List (Int × Int)):Prop where
 len:A.length≤2
 sz:∀ a∈A,(1≤a.1∧a.1≤4)∧(-5≤a.2∧a.2≤5)
 pr:prodL (A.map fun a=>a.1)≤16
 sp:greatL A - leastL A≤18
 lo:leastL A≤0
 hi:0≤greatL A
theorem one_span {s p:Int}(h:1≤s∧s≤4) (hp:-3≤p∧p≤5):max 0 ((s - 1) * p) - min 0 ((s - 1) * p)≤15:=by
 have hs:s=1∨s=2∨s=3∨s=4:=by omega
 rcases hs with rfl|rfl|rfl|rfl
 ·show max 0 (0 * p) - min 0 (0 * p)≤15;omega
 ·show max 0 (1 * p) - min 0 (1 * p)≤15;omega
 ·show max 0 (2 * p) - min 0 (2 * p)≤15;omega
 ·show max 0 (3 * p) - min 0 (3 * p)≤15;omega
theorem axd_one {s p:Int}(h:1≤s∧s≤4) (hp:-3≤p∧p≤5):AxD [(s,p)]:=by
 have e1:leastL [(s,p)]=min 0 ((s - 1) * p):=by show min 0 ((s - 1) * p)+0=_;omega
 have e2:greatL [(s,p)]=max 0 ((s - 1) * p):=by show max 0 ((s - 1) * p)+0=_;omega
 have:=one_span h hp
 refine ⟨by simp,fun a ha=>?_,?_,by rw [e1,e2];omega,by rw [e1];omega,by rw [e2];omega⟩
 ·rw [List.mem_singleton.mp ha];exact ⟨h,by show -5≤p∧p≤5;omega⟩
 ·show prodL [s]≤16
  have:prodL [s]=s:=by simp [prodL]
  omega
theorem axd_two {s p q:Int}(h:1≤s∧s≤4) (hp:-3≤p∧p≤5) (hq:-3≤q∧q≤3):AxD [(2,q),(s,p)]:=by
 have e1:leastL [(2,q),(s,p)]=min 0 ((2 - 1) * q)+min 0 ((s - 1) * p):=by show min 0 ((2 - 1) * q)+(min 0 ((s - 1) * p)+0)=_;omega
 have e2:greatL [(2,q),(s,p)]=max 0 ((2 - 1) * q)+max 0 ((s - 1) * p):=by show max 0 ((2 - 1) * q)+(max 0 ((s - 1) * p)+0)=_;omega
 have:=one_span h hp
 refine ⟨by simp,fun a ha=>?_,?_,by rw [e1,e2];omega,by rw [e1];omega,by rw [e2];omega⟩
 ·rcases List.mem_cons.mp ha with rfl|ha
  ·exact ⟨by show (1:Int)≤2∧(2:Int)≤4;omega,by show -5≤q∧q≤5;omega⟩
  ·rw [List.mem_singleton.mp ha];exact ⟨h,by show -5≤p∧p≤5;omega⟩
 ·show prodL [2,s]≤16
  have:prodL [2,s]=2 * s:=by simp [prodL]
  omega
def SoI (H H':Hp) (room:Int) (r:Addr) (n:Nat):Prop:=Ext H H'∧∃ zs:List Vz,H' r=some (.lst (zs.map fun z=>V.ref z.1))∧zs.length=n∧VsZ H' room r zs
abbrev B_spKSome (K:PySem.W.Frag) (a:Addr) (ns:List Int) (s:Addr) (i:Int) (room:Int) (H:Hp) (Q:VK) (E:XK):Prop:=s=a∧SqL K H a (ns.map V.int)∧ns.length≤63∧0≤i∧i≤60∧20≤room∧room≤60∧∀ (r:Addr) (H':Hp),SoI H H' room r 4->Q (.ref r) H'
def spKSome (K:PySem.W.Frag) (a:Addr) (ns:List Int):Sp:=fun vs H Q E=>∃ (s:Addr) (i:Int) (room:Int),vs=[.ref s,.int i,.int room]∧(B_spKSome K a ns s i room H Q E)
theorem c_spKSome (K:PySem.W.Frag) (a:Addr) (ns:List Int) (s:Addr) (i:Int) (room:Int) (H:Hp) (Q:VK) (E:XK):spKSome K a ns [.ref s,.int i,.int room] H Q E=(B_spKSome K a ns s i room H Q E):=spx3 (f:=fun (s:Addr) (i:Int) (room:Int)=>[.ref s,.int i,.int room]) (fun _ _ _ _ _ _ h=>by cases h;exact ⟨rfl,rfl,rfl⟩) s i room
theorem l_spKSome (K:PySem.W.Frag) (a:Addr) (ns:List Int){vs:List V}{H:Hp}{Q:VK}{E:XK}(h:spKSome K a ns vs H Q E):vs.length=3:=spl3 h fun _ _ _=>rfl
theorem ok__law_some (T:Tx K mg t) (a:Addr) (ns:List Int):FnOk P w K mg base CX0 2 t.a__law_some t.d__law_some ["_law_script", "_law_at", "_law_room"] (spKSome K a ns):=by
 have G__law_draw:=ok__law_draw (P:=P) (w:=w) (base:=base) T a ns
 refine T.F__law_some.ok c__law_some (fun vs H Q E h=>l_spKSome _ _ _ h) (fun cdv A' outer s H vs Q E hr h=>?_)
 ·obtain ⟨_,i0,room,rfl,rfl,hS,hl,hi0,hi1,hr0,hr1,k⟩:=h
  rename_i a
  refine ⟨_,(@pss_cons _ _ _ _ _ (@ps_set _ _ (3) _ _ _ _ c__law_some.nd rfl (Or.inl rfl) (@pe_qLst _ _ _ _ (@pa_nil _)) (by rfl) (by trivial)) (@pss_cons _ _ _ _ _ (@ps_for _ _ _ _ _ _ _ _ PassesOwn.never rfl (@pi_range1 _ _ _ _ _ _ (by rfl) T.z_range (@pa_c _ _ _ _ _ (@pe_int _ _ _ _) (@pa_nil _) (by rfl)) (by rfl)) (@pg_name _ _ (4) _ c__law_some.nd rfl (Or.inl rfl) (by trivial)) (@pss_cons _ _ _ _ _ (@ps_set _ _ (5) _ _ _ _ c__law_some.nd rfl (Or.inl rfl) (@pe_call _ _ _ _ _ _ _ _ _ _ _ _ _ _ _ _ G__law_draw (hr.mono (by decide)) (by rfl) T.m__law_draw T.F__law_draw.kp T.b__law_draw .nil pass0 (@pa_c _ _ _ _ _ (@pvN _ 0 _ _ (by rfl) (by trivial) (by decide) (by decide)) (@pa_c _ _ _ _ _ (@pe_op _ _ _ _ _ _ _ _ on_add (@pvN _ 1 _ _ (by rfl) (by trivial) (by decide) (by decide)) (@pvN _ 4 _ _ (by rfl) (by trivial) (by decide) (by decide))) (@pa_c _ _ _ _ _ (@pe_op _ _ _ _ _ _ _ _ on_pow (@pe_int _ _ _ _) (@pe_int _ _ _ _)) (@pa_nil _) (by rfl)) (by rfl)) (by rfl)) (by decide) (by rfl) (by rfl)) (by rfl) (by trivial)) (@pss_cons _ _ _ _ _ (@ps_set _ _ (6) _ _ _ _ c__law_some.nd rfl (Or.inl rfl) (@pe_op _ _ _ _ _ _ _ _ on_add (@pe_int _ _ _ _) (@pe_op _ _ _ _ _ _ _ _ on_mod (@pvN _ 5 _ _ (by rfl) (by trivial) (by decide) (by decide)) (@pe_int _ _ _ _))) (by rfl) (by trivial)) (@pss_cons _ _ _ _ _ (@ps_set _ _ (7) _ _ _ _ c__law_some.nd rfl (Or.inl rfl) (@pe_ix _ _ _ _ _ _ _ ix_q (@pe_qLst _ _ _ _ (@pa_c _ _ _ _ _ (@pe_int _ _ _ _) (@pa_c _ _ _ _ _ (@pe_int _ _ _ _) (@pa_c _ _ _ _ _ (@pe_int _ _ _ _) (@pa_c _ _ _ _ _ (@pe_int _ _ _ _) (@pa_c _ _ _ _ _ (@pe_int _ _ _ _) (@pa_c _ _ _ _ _ (@pe_un _ _ _ _ _ _ un_negN (@pe_int _ _ _ _)) (@pa_c _ _ _ _ _ (@pe_un _ _ _ _ _ _ un_negN (@pe_int _ _ _ _)) (@pa_c _ _ _ _ _ (@pe_un _ _ _ _ _ _ un_negN (@pe_int _ _ _ _)) (@pa_nil _) (by rfl)) (by rfl)) (by rfl)) (by rfl)) (by rfl)) (by rfl)) (by rfl)) (by rfl))) (@pe_op _ _ _ _ _ _ _ _ on_mod (@pe_op _ _ _ _ _ _ _ _ on_fdiv (@pvN _ 5 _ _ (by rfl) (by trivial) (by decide) (by decide)) (@pe_int _ _ _ _)) (@pe_int _ _ _ _)) (fun _ _=>rfl)) (by rfl) (by trivial)) (@pss_cons _ _ _ _ _ (@ps_set _ _ (8) _ _ _ _ c__law_some.nd rfl (Or.inl rfl) (@pe_qLst _ _ _ _ (@pa_c _ _ _ _ _ (@pe_qTup _ _ _ _ _ (@pa_c _ _ _ _ _ (@pvN _ 6 _ _ (by rfl) (by trivial) (by decide) (by decide)) (@pa_c _ _ _ _ _ (@pvN _ 7 _ _ (by rfl) (by trivial) (by decide) (by decide)) (@pa_nil _) (by rfl)) (by rfl))) (@pa_nil _) (by rfl))) (by rfl) (by trivial)) (@pss_cons _ _ _ _ _ (@ps_if _ _ _ _ _ _ _ _ (@pt_cmpRN _ _ _ _ _ _ _ _ (op_qEq hr.units) (@pe_op _ _ _ _ _ _ _ _ on_mod (@pe_op _ _ _ _ _ _ _ _ on_fdiv (@pvN _ 5 _ _ (by rfl) (by trivial) (by decide) (by decide)) (@pe_int _ _ _ _)) (@pe_int _ _ _ _)) (@pe_int _ _ _ _) (nomark _)) (@pss_one _ _ _ (@ps_set _ _ (8) _ _ _ _ c__law_some.nd rfl (Or.inl rfl) (@pe_op _ _ _ _ _ _ _ _ op_nCat (@pe_qLst _ _ _ _ (@pa_c _ _ _ _ _ (@pe_qTup _ _ _ _ _ (@pa_c _ _ _ _ _ (@pe_int _ _ _ _) (@pa_c _ _ _ _ _ (@pe_op _ _ _ _ _ _ _ _ on_sub (@pe_op _ _ _ _ _ _ _ _ on_mod (@pe_op _ _ _ _ _ _ _ _ on_fdiv (@pvN _ 5 _ _ (by rfl) (by trivial) (by decide) (by decide)) (@pe_int _ _ _ _)) (@pe_int _ _ _ _)) (@pe_int _ _ _ _)) (@pa_nil _) (by rfl)) (by rfl))) (@pa_nil _) (by rfl))) (@pvN _ 8 _ _ (by rfl) (by trivial) (by decide) (by decide))) (by rfl) (by trivial))) (@pss_nil _)) (@pss_cons _ _ _ _ _ (@ps_set _ _ (9) _ _ _ _ c__law_some.nd rfl (Or.inl rfl) (@pe_callB _ _ _ _ _ _ _ ("sum") _ (call_qSum rfl) (by rfl) T.z_sum (by decide +kernel) (@pa_c _ _ _ _ _ (@pe_comp _ _ _ _ _ _ _ _ _ _ _ (["_law_one", "_law_script", "_law_at", "_law_room", "_law_views", "_law_k", "_law_cell", "_law_size", "_law_pace", "_law_axes", "_law_low", "_law_high"]) (1) (comp_ok (defScope s__law_some) ["_law_script", "_law_at", "_law_room", "_law_views", "_law_k", "_law_cell", "_law_size", "_law_pace", "_law_axes", "_law_low", "_law_high"] rfl rfl (by decide +kernel)) rfl (@pi_seq _ _ _ _ (@pvN _ 8 _ _ (by rfl) (by trivial) (by decide) (by decide))) (fun C s₀ H₀ ex pn=>(@pg_name _ _ (0) _ (show List.Nodup (["_law_one", "_law_script", "_law_at", "_law_room", "_law_views", "_law_k", "_law_cell", "_law_size", "_law_pace", "_law_axes", "_law_low", "_law_high"]:List Str) from by decide +kernel) rfl (Or.inl rfl) (by trivial))) (fun C s₀ H₀ ex pn=>(@pts_nil _)) (fun C s₀ H₀ ex pn=>(@pe_callB _ _ _ _ _ _ _ ("min") _ (call_qMin rfl) (by rfl) T.z_min (by decide +kernel) (@pa_c _ _ _ _ _ (@pe_int _ _ _ _) (@pa_c _ _ _ _ _ (@pe_op _ _ _ _ _ _ _ _ on_mul (@pe_ix _ _ _ _ _ _ _ ix_q (@pvN _ 0 _ _ (by rfl) (by trivial) (by decide) (by decide)) (@pe_int _ _ _ _) (fun _ _=>rfl)) (@pe_op _ _ _ _ _ _ _ _ on_sub (@pe_ix _ _ _ _ _ _ _ ix_q (@pvN _ 0 _ _ (by rfl) (by trivial) (by decide) (by decide)) (@pe_int _ _ _ _) (fun _ _=>rfl)) (@pe_int _ _ _ _))) (@pa_nil _) (by rfl)) (by rfl)) (by decide) (by decide) (by rfl) (by rfl))) (by intros;rfl)) (@pa_nil _) (by rfl)) (by decide) (by decide) (by rfl) (by rfl)) (by rfl) (by trivial)) (@pss_cons _ _ _ _ _ (@ps_set _ _ (10) _ _ _ _ c__law_some.nd rfl (Or.inl rfl) (@pe_callB _ _ _ _ _ _ _ ("sum") _ (call_qSum rfl) (by rfl) T.z_sum (by decide +kernel) (@pa_c _ _ _ _ _ (@pe_comp _ _ _ _ _ _ _ _ _ _ _ (["_law_one", "_law_script", "_law_at", "_law_room", "_law_views", "_law_k", "_law_cell", "_law_size", "_law_pace", "_law_axes", "_law_low", "_law_high"]) (1) (comp_ok (defScope s__law_some) ["_law_script", "_law_at", "_law_room", "_law_views", "_law_k", "_law_cell", "_law_size", "_law_pace", "_law_axes", "_law_low", "_law_high"] rfl rfl (by decide +kernel)) rfl (@pi_seq _ _ _ _ (@pvN _ 8 _ _ (by rfl) (by trivial) (by decide) (by decide))) (fun C s₀ H₀ ex pn=>(@pg_name _ _ (0) _ (show List.Nodup (["_law_one", "_law_script", "_law_at", "_law_room", "_law_views", "_law_k", "_law_cell", "_law_size", "_law_pace", "_law_axes", "_law_low", "_law_high"]:List Str) from by decide +kernel) rfl (Or.inl rfl) (by trivial))) (fun C s₀ H₀ ex pn=>(@pts_nil _)) (fun C s₀ H₀ ex pn=>(@pe_callB _ _ _ _ _ _ _ ("max") _ (call_qMax rfl) (by rfl) T.z_max (by decide +kernel) (@pa_c _ _ _ _ _ (@pe_int _ _ _ _) (@pa_c _ _ _ _ _ (@pe_op _ _ _ _ _ _ _ _ on_mul (@pe_ix _ _ _ _ _ _ _ ix_q (@pvN _ 0 _ _ (by rfl) (by trivial) (by decide) (by decide)) (@pe_int _ _ _ _) (fun _ _=>rfl)) (@pe_op _ _ _ _ _ _ _ _ on_sub (@pe_ix _ _ _ _ _ _ _ ix_q (@pvN _ 0 _ _ (by rfl) (by trivial) (by decide) (by decide)) (@pe_int _ _ _ _) (fun _ _=>rfl)) (@pe_int _ _ _ _))) (@pa_nil _) (by rfl)) (by rfl)) (by decide) (by decide) (by rfl) (by rfl))) (by intros;rfl)) (@pa_nil _) (by rfl)) (by decide) (by decide) (by rfl) (by rfl)) (by rfl) (by trivial)) (@pss_one _ _ _ (@ps_expr _ _ _ _ (@pe_bm _ _ _ _ _ _ _ _ _ _ _ _ PySem.F.plainAttrs_list PySem.F.slot_list_append PySem.F.type_list_append mt_append (@pvN _ 3 _ _ (by rfl) (by trivial) (by decide) (by decide)) (@pa_c _ _ _ _ _ (@pe_qTup _ _ _ _ _ (@pa_c _ _ _ _ _ (@pe_op _ _ _ _ _ _ _ _ on_sub (@pe_op _ _ _ _ _ _ _ _ on_mod (@pe_op _ _ _ _ _ _ _ _ on_fdiv (@pvN _ 5 _ _ (by rfl) (by trivial) (by decide) (by decide)) (@pe_int _ _ _ _)) (@pe_op _ _ _ _ _ _ _ _ on_add (@pe_op _ _ _ _ _ _ _ _ on_sub (@pvN _ 2 _ _ (by rfl) (by trivial) (by decide) (by decide)) (@pvN _ 10 _ _ (by rfl) (by trivial) (by decide) (by decide))) (@pvN _ 9 _ _ (by rfl) (by trivial) (by decide) (by decide)))) (@pvN _ 9 _ _ (by rfl) (by trivial) (by decide) (by decide))) (@pa_c _ _ _ _ _ (@pvN _ 8 _ _ (by rfl) (by trivial) (by decide) (by decide)) (@pa_nil _) (by rfl)) (by rfl))) (@pa_nil _) (by rfl)) (by rfl) (by rfl) (by rfl) (by rfl) (by rfl)) (by rfl)))))))))) (by intros;rfl)) (@pss_one _ _ _ (@ps_ret _ _ _ _ (@pvN _ 3 _ _ (by rfl) (by trivial) (by decide) (by decide)))))),?_⟩
  rw [show start ["_law_script", "_law_at", "_law_room", "_law_views", "_law_k", "_law_cell", "_law_size", "_law_pace", "_law_axes", "_law_low", "_law_high"] [.ref a,.int i0,.int room]=[some (.ref a),some (.int i0),some (.int room),none,none,none,none,none,none,none,none] from rfl]
  clear G__law_draw
  replace k:=fun (_:Unit)=>k
  simp! only [and_true]
  intro r H1 hr1' e1 h1
  have ini:SoI H H1 room r 0:=⟨e1,[],h1,rfl,fun z hz=>absurd hz List.not_mem_nil⟩
  clear h1 e1
  simp! only [and_true]
  refine for_rng (fun j σ H'=>∃ v5 v6 v7 v8 v9 v10 v11:Option V,σ=[some (.ref a),some (.int i0),some (.int room),some (.ref r),v5,v6,v7,v8,v9,v10,v11]∧SoI H H' room r j) ⟨none,none,none,none,none,none,none,rfl,ini⟩ ?_ ?_
  ·clear ini k
   rintro j _ H2 hj ⟨v5,v6,v7,v8,v9,v10,v11,rfl,e2,zs,h2,hzl,vz⟩
   have hj4:j < 4:=hj
   have hS2:=e2.2 K a _ hS
   replace vz:=fun (_:Unit)=>vz
   clear hj
   simp! only [↓m_kBody]
   rw [c_spDraw]
   refine ⟨hS2,hl,⟨by omega,by omega⟩,by decide,fun c c0 c1=>?_⟩
   simp! only [and_true]
   intro l3 H3 _ e3 h3
   simp! only [and_true]
   refine optK_pick (fun v=>∃ p:Int,v=.int p∧-3≤p∧p≤5) (by omega) (by show _ < (8:Int);omega) (fun v hv=>?_) fun v hv=>?_
   ·simp only [List.mem_cons,List.not_mem_nil,or_false] at hv
    rcases hv with rfl|rfl|rfl|rfl|rfl|rfl|rfl|rfl<;>exact ⟨_,rfl,by decide,by decide⟩
   obtain ⟨pc,rfl,pc0,pc1⟩:=hv
   clear h3
   obtain ⟨sz,hsz⟩:∃ sz,1+c % 4=sz:=⟨_,rfl⟩
   have hs1:1≤sz∧sz≤4:=by omega
   simp! only [and_true]
   intro t4 H4 _ e4 h4
   simp! only [and_true]
   intro l5 H5 hl5 e5 h5
   have tA:TupsAt H5 l5 (axL [(sz,pc)]):=⟨_,h5,Al.cons' ⟨t4,rfl,e5.at h4⟩ Al.nil⟩
   have e25:=e3.trans (e4.trans e5)
   have nl5:l5 ≠ r:=fun e=>by rw [e] at hl5;rw [(e3.trans e4).at h2] at hl5;cases hl5
   replace tA:=fun (_:Unit)=>tA
   clear h4 hsz e3 e4 e5 hl5
   simp! only [-m_tIfS]
   refine if_gen (fun σ' H'=>∃ (l:Addr) (A:List (Int × Int)),σ'=[some (.ref a),some (.int i0),some (.int room),some (.ref r),some (.int (0+(j:Int))),some (.int c),some (.int sz),some (.int pc),some (.ref l),v10,v11]∧Ext H5 H'∧l ≠ r∧TupsAt H' l (axL A)∧AxD A) (fun nx' hn=>?_) ?_
   ·replace hn:=fun (_:Unit)=>hn
    by_cases hb:c / 32 % 2=1
    ·simp! only [and_true]
     intro t6 H6 _ e6 h6
     simp! only [and_true]
     intro l7 H7 _ e7 h7
     have h5_7:=(e6.trans e7).at h5
     refine use_cat h7 h5_7 (len5000 (by simp)) ?_
     intro l8 H8 hl8 e8 h8
     have e58:=e6.trans (e7.trans e8)
     have nl8:l8 ≠ r:=fun e=>by rw [e] at hl8;rw [(e25.trans (e6.trans e7)).at h2] at hl8;cases hl8
     have h4_8:∃ ys,H8 l8=some (.lst (.ref t6::ys))∧Al (TupV H8) (axL [(sz,pc)]) ys:=by
      obtain ⟨ys,hy,al⟩:=tA ()
      rw [h5] at hy
      cases hy
      exact ⟨_,h8,al.imp fun _ _ t=>t.ext e58⟩
     obtain ⟨ys,hy,al⟩:=h4_8
     have tB:TupsAt H8 l8 (axL [(2,c / 64 % 7 - 3),(sz,pc)]):=⟨_,hy,Al.cons' ⟨t6,rfl,(e7.trans e8).at h6⟩ al⟩
     replace tB:=fun (_:Unit)=>tB
     clear h6 h7 h5_7 h8 hl8 al hy e6 e7 e8
     simp! only [and_true]
     exact hn () _ _ ⟨l8,_,rfl,e58,nl8,tB (),axd_two hs1 ⟨pc0,pc1⟩ ⟨by omega,by omega⟩⟩
    ·simp! only [and_true]
     exact hn () _ _ ⟨l5,_,rfl,Ext.refl _,nl5,tA (),axd_one hs1 ⟨pc0,pc1⟩⟩
   clear tA h5
   rintro _ H6 ⟨l,A,rfl,e6,nl,⟨ys,hy,al⟩,ad⟩
   have e26:=e25.trans e6
   have a2:=ad.len
   have asz:=fun (_:Unit)=>ad.sz
   have wk:=wk_al (K:=K) (R:=axP) (fun _ _ _ _ h e=>h.ext e) hy (al_axP al)
   replace al:=fun (_:Unit)=>al
   simp! only [and_true]
   refine comp_fm A (fun _=>true) (fun a=>.int (min 0 ((a.1 - 1) * a.2))) axP wk.1 wk.2 (len5000 (by omega)) ?_ ?_
   ·intro D2 z x H7 M1 M0 hz hD2 e7 ⟨aq,hx,haq⟩ k2 _
    subst hx
    have k2':M1 (.int (min 0 ((z.1 - 1) * z.2))) H7:=k2 rfl H7 (Ext.refl _)
    have hzs:=asz () z hz
    have cm:CMul z.2 (z.1 - 1):=.inr ⟨by omega,by omega⟩
    rw [min0,Int.mul_comm] at k2'
    clear k2 hz wk
    simp! only [↓m_kCm_1,↓m_kCm2]
   intro D7 H7 hD7 e7 h7
   have h7':H7 D7=some (.lst ((A.map fun a=>min 0 ((a.1 - 1) * a.2)).map V.int)):=by rw [h7,filt,List.map_map];rfl
   have hsum:(A.map fun a=>min 0 ((a.1 - 1) * a.2)).sum=leastL A:=rfl
   have hy7:=e7.at hy
   have wk7:=wk_al (K:=K) (R:=axP) (fun _ _ _ _ h e=>h.ext e) hy7 ((al_axP (al ())).imp fun _ _ t=>axP.ext t e7)
   clear h7 hD7 wk hy
   simp! only [and_true]
   clear hsum h7'
   refine comp_fm A (fun _=>true) (fun a=>.int (max 0 ((a.1 - 1) * a.2))) axP wk7.1 wk7.2 (len5000 (by omega)) ?_ ?_
   ·intro D2 z x H8 M1 M0 hz hD2 e8 ⟨aq,hx,haq⟩ k2 _
    subst hx
    have k2':M1 (.int (max 0 ((z.1 - 1) * z.2))) H8:=k2 rfl H8 (Ext.refl _)
    have hzs:=asz () z hz
    have cm:CMul z.2 (z.1 - 1):=.inr ⟨by omega,by omega⟩
    rw [max0,Int.mul_comm] at k2'
    clear k2 hz wk7
    simp! only [↓m_kCm_1,↓m_kCm2]
   intro D8 H8 hD8 e8 h8
   have h8':H8 D8=some (.lst ((A.map fun a=>max 0 ((a.1 - 1) * a.2)).map V.int)):=by rw [h8,filt,List.map_map];rfl
   have hsum:(A.map fun a=>max 0 ((a.1 - 1) * a.2)).sum=greatL A:=rfl
   have e68:=e7.trans e8
   have e28:=e26.trans e68
   have h2_8:=e28.at h2
   have tA8:TupsAt H8 l (axL A):=⟨ys,e8.at hy7,(al ()).imp fun _ _ t=>t.ext e68⟩
   have ap:=ad.sp
   have a3:=ad.lo
   have a4:=ad.hi
   have apr:=ad.pr
   have hm:0 < room - greatL A+leastL A:=by omega
   replace tA8:=fun (_:Unit)=>tA8
   clear h8 hD8 wk7 hy7
   simp! only [and_true]
   clear hsum h8'
   intro t9 H9 _ e9 h9
   have h2_9:=e9.at h2_8
   have q1:=Int.emod_nonneg (c / 1000) (show room - greatL A+leastL A ≠ 0 by omega)
   have q2:=Int.emod_lt_of_pos (c / 1000) hm
   have sv:SmV room (c / 1000 % (room - greatL A+leastL A) - leastL A) A:=⟨a2,asz (),apr,by omega,by omega⟩
   have fin:SoI H (upd H9 r (.lst ((zs.map fun z=>V.ref z.1)++[.ref t9]))) room r (j+1):=by
    refine ⟨(e2.trans (e28.trans e9)).put hr1',zs++[(t9,c / 1000 % (room - greatL A+leastL A) - leastL A,A)],by rw [List.map_append];exact upd_same,by rw [List.length_append,hzl];rfl,fun z hz=>?_⟩
    rcases List.mem_append.mp hz with hz|hz
    ·exact (((vz ()).ext (e28.trans e9)).upd h2_9) z hz
    ·rw [List.mem_singleton.mp hz]
     exact ⟨sv,l,nl,by show upd H9 r _ t9=_;rw [upd_ne (fun e=>by rw [e,h2_9] at h9;cases h9)];exact h9,TupsAt.up ((tA8 ()).ext e9) nl h2_9⟩
   have hlim:zs.length < sizeLine:=lt5000 (by omega)
   have hlim2:j < sizeLine:=lt5000 (by omega)
   clear sv q1 q2 tA8 h9 h2_8 vz
   simp! only [and_true]
   first|exact ⟨_,_,_,_,_,_,_,rfl,fin⟩|exact ⟨_,_,_,_,_,_,_,rfl⟩
  ·rintro _ H2 ⟨v5,v6,v7,v8,v9,v10,v11,rfl,so⟩
   have so4:SoI H H2 room r 4:=so
   have k2:=k () r H2 so4
   clear k so so4
   simp! only [and_true]
abbrev Dd:=Addr × Nat × Vz × Vz
def DrD (zs:List Vz) (H:Hp) (d:Dd) (y:V):Prop:=y=.ref d.1∧d.2.1 < 5∧d.2.2.1∈zs∧d.2.2.2∈zs∧prodL (d.2.2.1.2.2.map fun a=>a.1)=prodL (d.2.2.2.2.2.map fun a=>a.1)∧∃ x,H d.1=some (.tup [.int (d.2.1:Int),.ref d.2.2.1.1,.ref d.2.2.2.1,.int x])
theorem DrD.ext {zs:List Vz}{H H':Hp}{d:Dd}{y:V}(h:DrD zs H d y) (e:Ext H H'):DrD zs H' d y:=by
 obtain ⟨h1,h2,h3,h4,h5,x,h6⟩:=h
 exact ⟨h1,h2,h3,h4,h5,x,e.at h6⟩
theorem DrD.upd {zs:List Vz}{H:Hp}{d:Dd}{y:V}{r:Addr}{xs:List V}{o:HO}(h:DrD zs H d y) (hr:H r=some (.lst xs)):DrD zs (upd H r o) d y:=by
 obtain ⟨h1,h2,h3,h4,h5,x,h6⟩:=h
 exact ⟨h1,h2,h3,h4,h5,x,by rw [upd_ne (fun e=>by rw [e,hr] at h6;cases h6)];exact h6⟩
theorem DrD.a {zs:List Vz}{H:Hp}{room:Int}{r:Addr}{d:Dd}{y:V}(h:DrD zs H d y) (vz:VsZ H room r zs):DrA H d.1 room d.2.1 d.2.2.1.2.1 d.2.2.1.2.2 d.2.2.2.2.1 d.2.2.2.2.2:=by
 obtain ⟨_,h2,h3,h4,h5,x,h6⟩:=h
 exact ⟨h2,(vz.dv h3).2,(vz.dv h4).2,h5,_,_,x,h6,(vz.dv h3).1,(vz.dv h4).1⟩
abbrev B_spKDrawn  (p:Addr) (c:Int) (H:Hp) (Q:VK) (E:XK):Prop:=∃ (room:Int) (r0:Addr) (zs:List Vz),H p=some (.lst (zs.map fun z=>V.ref z.1))∧VsZ H room r0 zs∧zs.length=4∧0≤c∧∀ (d:Dd) (H':Hp),Ext H H'->DrD zs H' d (.ref d.1)->Q (.ref d.1) H'
def spKDrawn  : Sp:=fun vs H Q E=>∃ (p:Addr) (c:Int),vs=[.ref p,.int c]∧(B_spKDrawn  p c H Q E)
theorem c_spKDrawn  (p:Addr) (c:Int) (H:Hp) (Q:VK) (E:XK):spKDrawn  [.ref p,.int c] H Q E=(B_spKDrawn  p c H Q E):=spx2 (f:=fun (p:Addr) (c:Int)=>[.ref p,.int c]) (fun _ _ _ _ h=>by cases h;exact ⟨rfl,rfl⟩) p c
theorem l_spKDrawn  {vs:List V}{H:Hp}{Q:VK}{E:XK}(h:spKDrawn  vs H Q E):vs.length=2:=spl2 h fun _ _=>rfl
theorem ok__law_drawn (T:Tx K mg t):FnOk P w K mg base CX0 2 t.a__law_drawn t.d__law_drawn ["_law_views", "_law_cell"] spKDrawn:=by
 have G__law_count:=ok__law_count (P:=P) (w:=w) (base:=base) T
 refine T.F__law_drawn.ok c__law_drawn (fun vs H Q E h=>l_spKDrawn h) (fun cdv A' outer s H vs Q E hr h=>?_)
 ·obtain ⟨p,c,rfl,room,r0,zs,hp,vz,hz4,hc0,k⟩:=h
  refine ⟨_,(@pss_cons _ _ _ _ _ (@ps_set _ _ (2) _ _ _ _ c__law_drawn.nd rfl (Or.inr rfl) (@pe_ix _ _ _ _ _ _ _ ix_q (@pvN _ 0 _ _ (by rfl) (by trivial) (by decide) (by decide)) (@pe_op _ _ _ _ _ _ _ _ on_mod (@pe_op _ _ _ _ _ _ _ _ on_fdiv (@pvN _ 1 _ _ (by rfl) (by trivial) (by decide) (by decide)) (@pe_int _ _ _ _)) (@pe_callB _ _ _ _ _ _ _ ("len") _ call_qLen (by rfl) T.z_len (by decide +kernel) (@pa_c _ _ _ _ _ (@pvN _ 0 _ _ (by rfl) (by trivial) (by decide) (by decide)) (@pa_nil _) (by rfl)) (by decide) (by decide) (by rfl) (by rfl))) (fun _ _=>rfl)) (by rfl) (by trivial)) (@pss_cons _ _ _ _ _ (@ps_setC _ _ _ _ _ _ _ _ _ _ _ _ _ (["_law_other", "_law_views", "_law_cell", "_law_one", "_law_same", "!_law_other"]) (1) (3) _ c__law_drawn.nd rfl (Or.inl rfl) (comp_ok (defScope s__law_drawn) ["_law_views", "_law_cell", "_law_one", "_law_same", "_law_other"] rfl rfl (by decide +kernel)) rfl (@pi_seq _ _ _ _ (@pvN _ 0 _ _ (by rfl) (by trivial) (by decide) (by decide))) (fun C s₀ H₀ ex pn=>(@pg_name _ _ (0) _ (show List.Nodup (["_law_other", "_law_views", "_law_cell", "_law_one", "_law_same", "!_law_other"]:List Str) from by decide +kernel) rfl (Or.inl rfl) (by trivial))) (fun C s₀ H₀ ex pn=>(@pts_one _ _ _ (@pt_cmpRN _ _ _ _ _ _ _ _ (op_qEq hr.units) (@pe_call _ _ _ _ _ _ _ _ _ _ _ _ _ _ _ _ G__law_count (hr.mono (by decide)) (by rfl) T.m__law_count T.F__law_count.kp T.b__law_count .nil pass0 (@pa_c _ _ _ _ _ (@pvN _ 0 _ _ (by rfl) (by trivial) (by decide) (by decide)) (@pa_nil _) (by rfl)) (by decide) (by rfl) (by rfl)) (@pe_call _ _ _ _ _ _ _ _ _ _ _ _ _ _ _ _ G__law_count (hr.mono (by decide)) (by rfl) T.m__law_count T.F__law_count.kp T.b__law_count .nil pass0 (@pa_c _ _ _ _ _ (@pvN _ 3 _ _ (by rfl) (by trivial) (by decide) (by decide)) (@pa_nil _) (by rfl)) (by decide) (by rfl) (by rfl)) (nomark _)))) (fun C s₀ H₀ ex pn=>(@pvN _ 0 _ _ (by rfl) (by trivial) (by decide) (by decide))) (by rfl) (by intros;rfl) (by trivial)) (@pss_cons _ _ _ _ _ (@ps_set _ _ (4) _ _ _ _ c__law_drawn.nd rfl (Or.inl rfl) (@pe_ix _ _ _ _ _ _ _ ix_q (@pvN _ 3 _ _ (by rfl) (by trivial) (by decide) (by decide)) (@pe_op _ _ _ _ _ _ _ _ on_mod (@pe_op _ _ _ _ _ _ _ _ on_fdiv (@pvN _ 1 _ _ (by rfl) (by trivial) (by decide) (by decide)) (@pe_int _ _ _ _)) (@pe_callB _ _ _ _ _ _ _ ("len") _ call_qLen (by rfl) T.z_len (by decide +kernel) (@pa_c _ _ _ _ _ (@pvN _ 3 _ _ (by rfl) (by trivial) (by decide) (by decide)) (@pa_nil _) (by rfl)) (by decide) (by decide) (by rfl) (by rfl))) (fun _ _=>rfl)) (by rfl) (by trivial)) (@pss_one _ _ _ (@ps_ret _ _ _ _ (@pe_qTup _ _ _ _ _ (@pa_c _ _ _ _ _ (@pe_op _ _ _ _ _ _ _ _ on_mod (@pvN _ 1 _ _ (by rfl) (by trivial) (by decide) (by decide)) (@pe_int _ _ _ _)) (@pa_c _ _ _ _ _ (@pvN _ 2 _ _ (by rfl) (by trivial) (by decide) (by decide)) (@pa_c _ _ _ _ _ (@pvN _ 4 _ _ (by rfl) (by trivial) (by decide) (by decide)) (@pa_c _ _ _ _ _ (@pe_op _ _ _ _ _ _ _ _ on_mod (@pe_op _ _ _ _ _ _ _ _ on_fdiv (@pvN _ 1 _ _ (by rfl) (by trivial) (by decide) (by decide)) (@pe_int _ _ _ _)) (@pe_int _ _ _ _)) (@pa_nil _) (by rfl)) (by rfl)) (by rfl)) (by rfl)))))))),?_⟩
  rw [show start ["_law_views", "_law_cell", "_law_one", "_law_same", "_law_other"] [.ref p,.int c]=[some (.ref p),some (.int c),none,none,none] from rfl]
  clear G__law_count
  replace k:=fun (_:Unit)=>k
  replace vz:=fun (_:Unit)=>vz
  have hz4':0 < (zs.length:Int):=by omega
  simp! only [and_true]
  refine optK_pick (fun v=>∃ z∈zs,v=.ref z.1) (by omega) (by rw [List.length_map];omega) (fun v hv=>?_) fun v hv=>?_
  ·obtain ⟨z,hz,rfl⟩:=List.mem_map.mp hv
   exact ⟨z,hz,rfl⟩
  obtain ⟨z1,hz1,rfl⟩:=hv
  obtain ⟨dv1,sv1⟩:=(vz ()).dv hz1
  have al:Al (fun (z:Vz) y=>y=V.ref z.1∧z∈zs) zs (zs.map fun z=>V.ref z.1):=⟨by rw [List.length_map],fun i z y hz hy=>by
   rw [List.getElem?_map,hz] at hy
   cases hy
   exact ⟨rfl,List.mem_of_getElem? hz⟩⟩
  have wk:=wk_al (K:=K) (R:=fun (z:Vz) y _=>y=V.ref z.1∧z∈zs) (fun _ _ _ _ h e=>h) hp al
  clear al
  simp! only [and_true]
  refine comp_fm zs (fun z=>decide (prodL (z.2.2.map fun a=>a.1)=prodL (z1.2.2.map fun a=>a.1))) (fun z=>.ref z.1) (fun z y H'=>y=V.ref z.1∧z∈zs) wk.1 wk.2 (len5000 (by omega)) ?_ ?_
  ·intro D z y H' N1 N0 hz hD e ⟨hy,_⟩ k1 k0
   subst hy
   obtain ⟨dv,sv⟩:=(vz ()).dv hz
   have dvE:=dv.ext e
   have dv1E:=dv1.ext e
   clear hz wk k
   simp! only [↓m_kCm_1,↓m_kCm2]
   rw [c_spKCount]
   refine ⟨z.2.1,room,z.2.2,dvE,sv,?_⟩
   simp! only [↓m_kCm_1,↓m_kCm2]
   rw [c_spKCount]
   refine ⟨z1.2.1,room,z1.2.2,dv1E,sv1,?_⟩
   by_cases hpe:prodL (z.2.2.map fun a=>a.1)=prodL (z1.2.2.map fun a=>a.1)
   ·have k1':N1 (.ref z.1) H':=k1 (decide_eq_true hpe) H' (Ext.refl _)
    clear k1 k0
    simp! only [↓m_kCm_1,↓m_kCm2]
   ·have k0':N0 H':=k0 (decide_eq_false hpe) H' (Ext.refl _)
    clear k1 k0
    simp! only [↓m_kCm_1,↓m_kCm2]
  intro D1 H1 hD1 e1 h1
  have hne:z1∈zs.filter fun z=>decide (prodL (z.2.2.map fun a=>a.1)=prodL (z1.2.2.map fun a=>a.1)):=List.mem_filter.mpr ⟨hz1,decide_eq_true rfl⟩
  have hall:∀ z∈zs.filter (fun z=>decide (prodL (z.2.2.map fun a=>a.1)=prodL (z1.2.2.map fun a=>a.1))),z∈zs∧prodL (z.2.2.map fun a=>a.1)=prodL (z1.2.2.map fun a=>a.1):=fun z hz=>⟨(List.mem_filter.mp hz).1,of_decide_eq_true (List.mem_filter.mp hz).2⟩
  generalize (zs.filter fun z=>decide (prodL (z.2.2.map fun a=>a.1)=prodL (z1.2.2.map fun a=>a.1)))=F at *
  have hFl:0 < (F.length:Int):=by
   cases F with
   | nil=>cases hne
   | cons a b=>rw [List.length_cons];omega
  replace hall:=fun (_:Unit)=>hall
  clear wk hD1 hne
  simp! only [and_true]
  refine optK_pick (fun v=>∃ z∈F,v=.ref z.1) (Int.emod_nonneg _ (by omega)) (by rw [List.length_map];exact Int.emod_lt_of_pos _ hFl) (fun v hv=>?_) fun v hv=>?_
  ·obtain ⟨z,hz,rfl⟩:=List.mem_map.mp hv
   exact ⟨z,hz,rfl⟩
  obtain ⟨z2,hz2,rfl⟩:=hv
  obtain ⟨hz2m,hpe⟩:=hall () z2 hz2
  obtain ⟨dv2,sv2⟩:=(vz ()).dv hz2m
  obtain ⟨w',hw'⟩:∃ w':Nat,c % 5=(w':Int):=⟨(c % 5).toNat,by omega⟩
  have hw5:w' < 5:=by omega
  clear hz2 hall
  simp! only [and_true]
  intro d H2 _ e2 h2
  exact k () (d,w',z1,z2) H2 (e1.trans e2) ⟨rfl,hw5,hz1,hz2m,hpe.symm,_,h2⟩
theorem SmV.vok {room f:Int}{A:List (Int × Int)}(h:SmV room f A) (h1:1≤room) (h2:room≤1000000):ViewOk room f A:=by
 obtain ⟨s1,s2⟩:=span_kept A fun a ha=>(h.axes.2 a ha).1
 have:=h.lo
 have:=h.hi
 exact ⟨h.axes,h1,by omega,by rw [s1];omega,by rw [s2];omega⟩
theorem SmV.vwc {C:Addr}{H:Hp}{x:Addr}{room f:Int}{A:List (Int × Int)}(h:SmV room f A) (v:ViewAt C H x room f (A.map keptA)):VwC C H x room (cellsL f A):=⟨f,_,v,h.axes.kept,by rw [kept_sizes];have:=h.pr;omega,cells_kept f A fun a ha=>(h.axes.2 a ha).1⟩
theorem at3 {x0 x1 x2:Addr}{w:Nat}(h2:2≤w) (hw:w < 5):∃ x,atI [V.ref x0,V.ref x1,V.ref x2] ((w:Int) - 2)=some (.ref x)∧((w=2∧x=x0)∨(w=3∧x=x1)∨(w=4∧x=x2)):=by
 match w,h2,hw with
 | 2,_,_=>exact ⟨x0,atI_nat (j:=0) rfl,.inl ⟨rfl,rfl⟩⟩
 | 3,_,_=>exact ⟨x1,atI_nat (j:=1) rfl,.inr (.inl ⟨rfl,rfl⟩)⟩
 | 4,_,_=>exact ⟨x2,atI_nat (j:=2) rfl,.inr (.inr ⟨rfl,rfl⟩)⟩
def VwF (C:Addr) (H0 H:Hp) (x:Addr) (room:Int) (cs:List Int):Prop:=∃ f A dx l,H x=some (.ins C dx (viewF room f l))∧H0 l=none∧TupsAt H l (axL A)∧Axes A∧prodL (A.map fun a=>a.1)≤4096∧cellsL f A=cs
theorem VwF.ext {C:Addr}{H0 H H':Hp}{x:Addr}{room:Int}{cs:List Int}(h:VwF C H0 H x room cs) (e:Ext H H'):VwF C H0 H' x room cs:=by
 obtain ⟨f,A,dx,l,h1,h2,h3,h4⟩:=h
 exact ⟨f,A,dx,l,e.at h1,h2,h3.ext e,h4⟩
def VwZ (C:Addr) (z:Addr) (H:Hp) (x:Addr) (room:Int) (cs:List Int):Prop:=∃ f A dx l,H x=some (.ins C dx (viewF room f l))∧l ≠ z∧TupsAt H l (axL A)∧Axes A∧prodL (A.map fun a=>a.1)≤4096∧cellsL f A=cs
theorem VwF.z {C:Addr}{H0 H:Hp}{x z:Addr}{room:Int}{cs:List Int}{o:HO}(h:VwF C H0 H x room cs) (hz:H0 z=some o):VwZ C z H x room cs:=by
 obtain ⟨f,A,dx,l,h1,h2,h3⟩:=h
 exact ⟨f,A,dx,l,h1,(fun e=>by rw [e,hz] at h2;cases h2),h3⟩
theorem VwZ.ext {C z:Addr}{H H':Hp}{x:Addr}{room:Int}{cs:List Int}(h:VwZ C z H x room cs) (e:Ext H H'):VwZ C z H' x room cs:=by
 obtain ⟨f,A,dx,l,h1,h2,h3,h4⟩:=h
 exact ⟨f,A,dx,l,e.at h1,h2,h3.ext e,h4⟩
theorem VwZ.upd {C z:Addr}{H:Hp}{x:Addr}{room:Int}{cs:List Int}{xs:List V}{o:HO}(h:VwZ C z H x room cs) (hz:H z=some (.lst xs)):VwZ C z (upd H z o) x room cs:=by
 obtain ⟨f,A,dx,l,h1,h2,h3,h4⟩:=h
 exact ⟨f,A,dx,l,by rw [upd_ne (fun e=>by rw [e,hz] at h1;cases h1)];exact h1,h2,TupsAt.up h3 h2 hz,h4⟩
theorem VwZ.c {C z:Addr}{H:Hp}{x:Addr}{room:Int}{cs:List Int}(h:VwZ C z H x room cs):VwC C H x room cs:=by
 obtain ⟨f,A,dx,l,h1,_,h3,h4⟩:=h
 exact ⟨f,A,⟨dx,l,h1,h3⟩,h4⟩
def StF (t:Adr) (H0 H:Hp) (s:Addr) (w:Nat) (room:Int) (a b:List Int):Prop:=∃ u v,StAt t H s w u v∧(1≤w->VwF t.a_View H0 H u room a)∧(2≤w->VwF t.a_View H0 H v room b)
def StZ (t:Adr) (z:Addr) (H:Hp) (s:Addr) (w:Nat) (room:Int) (a b:List Int):Prop:=∃ u v,StAt t H s w u v∧(1≤w->VwZ t.a_View z H u room a)∧(2≤w->VwZ t.a_View z H v room b)
theorem StF.z {t:Adr}{H0 H:Hp}{s z:Addr}{w:Nat}{room:Int}{a b:List Int}{o:HO}(h:StF t H0 H s w room a b) (hz:H0 z=some o):StZ t z H s w room a b:=by
 obtain ⟨u,v,h1,h2,h3⟩:=h
 exact ⟨u,v,h1,fun q=>(h2 q).z hz,fun q=>(h3 q).z hz⟩
theorem StZ.ext {t:Adr}{z:Addr}{H H':Hp}{s:Addr}{w:Nat}{room:Int}{a b:List Int}(h:StZ t z H s w room a b) (e:Ext H H'):StZ t z H' s w room a b:=by
 obtain ⟨u,v,h1,h2,h3⟩:=h
 exact ⟨u,v,h1.ext e,fun q=>(h2 q).ext e,fun q=>(h3 q).ext e⟩
theorem StZ.upd {t:Adr}{z:Addr}{H:Hp}{s:Addr}{w:Nat}{room:Int}{a b:List Int}{xs:List V}{o:HO}(h:StZ t z H s w room a b) (hz:H z=some (.lst xs)):StZ t z (upd H z o) s w room a b:=by
 obtain ⟨u,v,⟨h0,dx,x,h1⟩,h2,h3⟩:=h
 exact ⟨u,v,⟨h0,dx,x,by rw [upd_ne (fun e=>by rw [e,hz] at h1;cases h1)];exact h1⟩,fun q=>(h2 q).upd hz,fun q=>(h3 q).upd hz⟩
theorem StZ.v {t:Adr}{z:Addr}{H:Hp}{s:Addr}{w:Nat}{room:Int}{a b:List Int}(h:StZ t z H s w room a b):StV t H s w room a b:=by
 obtain ⟨u,v,h1,h2,h3⟩:=h
 exact ⟨u,v,h1,fun q=>(h2 q).c,fun q=>(h3 q).c⟩
theorem SmV.vwf {C:Addr}{H0 H:Hp}{x dx l:Addr}{room f:Int}{A:List (Int × Int)}(h:SmV room f A) (hx:H x=some (.ins C dx (viewF room f l))) (hl:H0 l=none) (tt:TupsAt H l (axL (A.map keptA))):VwF C H0 H x room (cellsL f A):=⟨f,_,dx,l,hx,hl,tt,h.axes.kept,by rw [kept_sizes];have:=h.pr;omega,cells_kept f A fun a ha=>(h.axes.2 a ha).1⟩
abbrev B_spKMade (t:Adr) (d:Addr) (room:Int) (H:Hp) (Q:VK) (E:XK):Prop:=∃ (w:Nat) (f1:Int) (A1:List (Int × Int)) (f2:Int) (A2:List (Int × Int)),DrA H d room w f1 A1 f2 A2∧1≤room∧room≤1000000∧∀ (s:Addr) (H':Hp),Ext H H'->StF t H H' s w room (cellsL f1 A1) (cellsL f2 A2)->Q (.ref s) H'
def spKMade (t:Adr):Sp:=fun vs H Q E=>∃ (d:Addr) (room:Int),vs=[.ref d,.int room]∧(B_spKMade t d room H Q E)
theorem c_spKMade (t:Adr) (d:Addr) (room:Int) (H:Hp) (Q:VK) (E:XK):spKMade t [.ref d,.int room] H Q E=(B_spKMade t d room H Q E):=spx2 (f:=fun (d:Addr) (room:Int)=>[.ref d,.int room]) (fun _ _ _ _ h=>by cases h;exact ⟨rfl,rfl⟩) d room
theorem l_spKMade (t:Adr){vs:List V}{H:Hp}{Q:VK}{E:XK}(h:spKMade t vs H Q E):vs.length=2:=spl2 h fun _ _=>rfl
theorem ok__law_made (T:Tx K mg t):FnOk P w K mg base CX0 8 t.a__law_made t.d__law_made ["_law_drawn_here", "_law_room"] (spKMade t):=by
 have G_View___init__:=ok_View___init__ (P:=P) (w:=w) (base:=base) T
 have G_Fill___init__:=ok_Fill___init__ (P:=P) (w:=w) (base:=base) T
 have G_Copy___init__:=ok_Copy___init__ (P:=P) (w:=w) (base:=base) T
 have G_Swap___init__:=ok_Swap___init__ (P:=P) (w:=w) (base:=base) T
 have G_Raise___init__:=ok_Raise___init__ (P:=P) (w:=w) (base:=base) T
 refine T.F__law_made.ok c__law_made (fun vs H Q E h=>l_spKMade _ h) (fun cdv A' outer s H vs Q E hr h=>?_)
 ·obtain ⟨d,room,rfl,w',f1,A1,f2,A2,⟨hw,s1,s2,hpe,p1,p2,x,hd,⟨l1,hp1,t1⟩,⟨l2,hp2,t2⟩⟩,hr1,hr2,k⟩:=h
  refine ⟨_,(@pss_cons _ _ _ _ _ (@ps_asg _ _ _ _ _ _ (@pvN _ 0 _ _ (by rfl) (by trivial) (by decide) (by decide)) ((@pg_tup _ _ _ _ _ (4) rfl (@pgs_consN _ _ _ _ _ (@pg_name _ _ (2) _ c__law_made.nd rfl (Or.inl rfl) (by trivial)) (@pgs_consN _ _ _ _ _ (@pg_name _ _ (3) _ c__law_made.nd rfl (Or.inl rfl) (by trivial)) (@pgs_consN _ _ _ _ _ (@pg_name _ _ (4) _ c__law_made.nd rfl (Or.inl rfl) (by trivial)) (@pgs_consN _ _ _ _ _ (@pg_name _ _ (5) _ c__law_made.nd rfl (Or.inl rfl) (by trivial)) (@pgs_nilN _) (by rfl)) (by rfl)) (by rfl)) (by rfl)) (by rfl) (by rfl)).mono fun _ _ _ _ h=>gTup_q h) (by rfl) (by rfl) (by rfl)) (@pss_cons _ _ _ _ _ (@ps_set _ _ (6) _ _ _ _ c__law_made.nd rfl (Or.inl rfl) (@pe_nMake _ _ _ _ _ _ _ _ _ _ _ _ _ _ _ _ _ T.mk_View G_View___init__ (hr.mono (by decide)) (by rfl) T.m_View T.b_View___init__ .nil pass0 (@pa_c _ _ _ _ _ (@pvN _ 1 _ _ (by rfl) (by trivial) (by decide) (by decide)) (@pa_c _ _ _ _ _ (@pe_ix _ _ _ _ _ _ _ ix_q (@pvN _ 3 _ _ (by rfl) (by trivial) (by decide) (by decide)) (@pe_int _ _ _ _) (fun _ _=>rfl)) (@pa_c _ _ _ _ _ (@pe_callTy _ _ _ _ _ _ _ _ _ call_nList (by rfl) T.z_list (by decide +kernel) (@pa_c _ _ _ _ _ (@pe_ix _ _ _ _ _ _ _ ix_q (@pvN _ 3 _ _ (by rfl) (by trivial) (by decide) (by decide)) (@pe_int _ _ _ _) (fun _ _=>rfl)) (@pa_nil _) (by rfl)) (by decide) (by decide) (by rfl) (by rfl)) (@pa_nil _) (by rfl)) (by rfl)) (by rfl)) (by decide) (by rfl) (by rfl)) (by rfl) (by trivial)) (@pss_cons _ _ _ _ _ (@ps_set _ _ (7) _ _ _ _ c__law_made.nd rfl (Or.inl rfl) (@pe_nMake _ _ _ _ _ _ _ _ _ _ _ _ _ _ _ _ _ T.mk_View G_View___init__ (hr.mono (by decide)) (by rfl) T.m_View T.b_View___init__ .nil pass0 (@pa_c _ _ _ _ _ (@pvN _ 1 _ _ (by rfl) (by trivial) (by decide) (by decide)) (@pa_c _ _ _ _ _ (@pe_ix _ _ _ _ _ _ _ ix_q (@pvN _ 4 _ _ (by rfl) (by trivial) (by decide) (by decide)) (@pe_int _ _ _ _) (fun _ _=>rfl)) (@pa_c _ _ _ _ _ (@pe_callTy _ _ _ _ _ _ _ _ _ call_nList (by rfl) T.z_list (by decide +kernel) (@pa_c _ _ _ _ _ (@pe_ix _ _ _ _ _ _ _ ix_q (@pvN _ 4 _ _ (by rfl) (by trivial) (by decide) (by decide)) (@pe_int _ _ _ _) (fun _ _=>rfl)) (@pa_nil _) (by rfl)) (by decide) (by decide) (by rfl) (by rfl)) (@pa_nil _) (by rfl)) (by rfl)) (by rfl)) (by decide) (by rfl) (by rfl)) (by rfl) (by trivial)) (@pss_cons _ _ _ _ _ (@ps_if _ _ _ _ _ _ _ _ (@pt_cmpRN _ _ _ _ _ _ _ _ (op_qEq hr.units) (@pvN _ 2 _ _ (by rfl) (by trivial) (by decide) (by decide)) (@pe_int _ _ _ _) (nomark _)) (@pss_one _ _ _ (@ps_ret _ _ _ _ (@pe_nMk0 _ _ _ _ _ T.mk0_Statement (by rfl) T.m_Statement (by decide)))) (@pss_nil _)) (@pss_cons _ _ _ _ _ (@ps_if _ _ _ _ _ _ _ _ (@pt_cmpRN _ _ _ _ _ _ _ _ (op_qEq hr.units) (@pvN _ 2 _ _ (by rfl) (by trivial) (by decide) (by decide)) (@pe_int _ _ _ _) (nomark _)) (@pss_one _ _ _ (@ps_ret _ _ _ _ (@pe_nMake _ _ _ _ _ _ _ _ _ _ _ _ _ _ _ _ _ T.mk_Fill G_Fill___init__ (hr.mono (by decide)) (by rfl) T.m_Fill T.b_Fill___init__ .nil pass0 (@pa_c _ _ _ _ _ (@pvN _ 6 _ _ (by rfl) (by trivial) (by decide) (by decide)) (@pa_c _ _ _ _ _ (@pvN _ 5 _ _ (by rfl) (by trivial) (by decide) (by decide)) (@pa_nil _) (by rfl)) (by rfl)) (by decide) (by rfl) (by rfl)))) (@pss_nil _)) (@pss_one _ _ _ (@ps_ret _ _ _ _ (@pe_ix _ _ _ _ _ _ _ ix_q (@pe_qLst _ _ _ _ (@pa_c _ _ _ _ _ (@pe_nMake _ _ _ _ _ _ _ _ _ _ _ _ _ _ _ _ _ T.mk_Copy G_Copy___init__ (hr.mono (by decide)) (by rfl) T.m_Copy T.b_Copy___init__ .nil pass0 (@pa_c _ _ _ _ _ (@pvN _ 6 _ _ (by rfl) (by trivial) (by decide) (by decide)) (@pa_c _ _ _ _ _ (@pvN _ 7 _ _ (by rfl) (by trivial) (by decide) (by decide)) (@pa_nil _) (by rfl)) (by rfl)) (by decide) (by rfl) (by rfl)) (@pa_c _ _ _ _ _ (@pe_nMake _ _ _ _ _ _ _ _ _ _ _ _ _ _ _ _ _ T.mk_Swap G_Swap___init__ (hr.mono (by decide)) (by rfl) T.m_Swap T.b_Swap___init__ .nil pass0 (@pa_c _ _ _ _ _ (@pvN _ 6 _ _ (by rfl) (by trivial) (by decide) (by decide)) (@pa_c _ _ _ _ _ (@pvN _ 7 _ _ (by rfl) (by trivial) (by decide) (by decide)) (@pa_nil _) (by rfl)) (by rfl)) (by decide) (by rfl) (by rfl)) (@pa_c _ _ _ _ _ (@pe_nMake _ _ _ _ _ _ _ _ _ _ _ _ _ _ _ _ _ T.mk_Raise G_Raise___init__ (hr.mono (by decide)) (by rfl) T.m_Raise T.b_Raise___init__ .nil pass0 (@pa_c _ _ _ _ _ (@pvN _ 6 _ _ (by rfl) (by trivial) (by decide) (by decide)) (@pa_c _ _ _ _ _ (@pvN _ 7 _ _ (by rfl) (by trivial) (by decide) (by decide)) (@pa_nil _) (by rfl)) (by rfl)) (by decide) (by rfl) (by rfl)) (@pa_nil _) (by rfl)) (by rfl)) (by rfl))) (@pe_op _ _ _ _ _ _ _ _ on_sub (@pvN _ 2 _ _ (by rfl) (by trivial) (by decide) (by decide)) (@pe_int _ _ _ _)) (fun _ _=>rfl))))))))),?_⟩
  rw [show start ["_law_drawn_here", "_law_room", "_law_way", "_law_one", "_law_other", "_law_value", "_law_to", "_law_source"] [.ref d,.int room]=[some (.ref d),some (.int room),none,none,none,none,none,none] from rfl]
  clear G_View___init__ G_Fill___init__ G_Copy___init__ G_Swap___init__ G_Raise___init__
  replace k:=fun (_:Unit)=>k
  have vA:=s1.vok hr1 hr2
  have vB:=s2.vok hr1 hr2
  obtain ⟨y1,hl1,al1⟩:=t1
  obtain ⟨y2,hl2,al2⟩:=t2
  replace al1:=fun (_:Unit)=>al1
  replace al2:=fun (_:Unit)=>al2
  simp! only [and_true]
  intro q6 H6 _ e6 h6
  have tt6:TupsAt H6 q6 (axL A1):=⟨y1,h6,(al1 ()).imp fun _ _ t=>t.ext e6⟩
  have hp2_6:=e6.at hp2
  have hl2_6:=e6.at hl2
  clear hd hp1 hp2 hl1 hl2
  simp! only [and_true]
  intro u dx1 G1 hx1 hdx1 hne1 g1 k1 k1'
  rw [c_spVInit]
  refine ⟨dx1,A1,k1,TupsAt.ext tt6 g1,vA,fun G2 D2 g2' hD2 hx2 tt2=>?_⟩
  have eg:=g2' H6 g1 hx1
  have vo1:ViewAt t.a_View G2 u room f1 (A1.map keptA):=⟨dx1,D2,hx2,tt2⟩
  have vf1:=s1.vwf (H0:=H) hx2 ((e6.trans g1).free hD2) tt2
  replace vf1:=fun (_:Unit)=>vf1
  have hp2_7:=eg.at hp2_6
  have hl2_7:=eg.at hl2_6
  have e07:=e6.trans eg
  clear h6 tt6 hp2_6 hl2_6 k1 k1' hx1 hdx1 hne1 g1 g2' hD2 hx2 tt2 eg e6
  simp! only [and_true]
  intro q8 G3 _ e8 h8
  have tt8:TupsAt G3 q8 (axL A2):=⟨y2,h8,(al2 ()).imp fun _ _ t=>t.ext (e07.trans e8)⟩
  clear hp2_7 hl2_7
  simp! only [and_true]
  intro v dx2 G4 hx2 hdx2 hne2 g4 k4 k4'
  rw [c_spVInit]
  refine ⟨dx2,A2,k4,TupsAt.ext tt8 g4,vB,fun G5 D5' g5' hD5 hx5 tt5=>?_⟩
  have eg2:=e8.trans (g5' G3 g4 hx2)
  have vo2:ViewAt t.a_View G5 v room f2 (A2.map keptA):=⟨dx2,D5',hx5,tt5⟩
  have w2:=s2.vwf (H0:=H) hx5 ((e07.trans (e8.trans g4)).free hD5) tt5
  have w1:=(vf1 ()).ext eg2
  have vo1':=vo1.ext eg2
  have e05:=e07.trans eg2
  clear h8 tt8 k4 k4' hx2 hdx2 hne2 g4 g5' hD5 hx5 tt5 vo1 e07 e8 eg2
  have hpe':prodL ((A1.map keptA).map fun a=>a.1)=prodL ((A2.map keptA).map fun a=>a.1):=by rw [kept_sizes,kept_sizes];exact hpe
  have xA:=s1.axes.kept
  have xB:=s2.axes.kept
  replace w1:=fun (_:Unit)=>w1
  replace w2:=fun (_:Unit)=>w2
  replace hpe':=fun (_:Unit)=>hpe'
  clear hpe
  by_cases hw0:w'=0
  ·subst hw0
   simp! only [and_true]
   intro sx dx G6 _ _ _ e6 h6 _
   have kf:=k () sx G6 (e05.trans e6) ⟨u,v,⟨by decide,dx,.non,h6⟩,fun h=>absurd h (by decide),fun h=>absurd h (by decide)⟩
   clear k
   simp! only [and_true]
  by_cases hw1:w'=1
  ·subst hw1
   simp! only [and_true]
   intro sx dx G6 hx6 _ _ g6 k6 _
   rw [c_spFInit]
   refine ⟨dx,k6,fun G7 g7' h7=>?_⟩
   have e67:=g7' G5 g6 hx6
   have kf:=k () sx G7 (e05.trans e67) ⟨u,v,⟨by decide,dx,.int x,h7⟩,fun _=>(w1 ()).ext e67,fun h=>absurd h (by decide)⟩
   clear k
   simp! only [and_true]
  have hwi0:¬ (w':Int)=0:=by omega
  have hwi1:¬ (w':Int)=1:=by omega
  simp! only [and_true]
  intro sa da Ga hxa _ _ ga ka _
  rw [c_spCopyInit]
  refine ⟨da,room,f1,f2,_,_,ka,vo1'.ext ga,vo2.ext ga,xA,xB,hpe' (),fun Gb gb' hb=>?_⟩
  have e1:=gb' G5 ga hxa
  clear ka hxa ga gb'
  simp! only [and_true]
  intro sb db Gc hxb _ _ gc kc _
  rw [c_spSwapInit]
  refine ⟨db,room,f1,f2,_,_,kc,vo1'.ext (e1.trans gc),vo2.ext (e1.trans gc),xA,xB,hpe' (),fun Gd gd' hd=>?_⟩
  have e2:=gd' Gb gc hxb
  have ha2:=e2.at hb
  clear kc hxb gc gd' hb
  simp! only [and_true]
  intro sc dc Ge hxc _ _ ge ke _
  rw [c_spRaiseInit]
  refine ⟨dc,room,f1,f2,_,_,ke,vo1'.ext (e1.trans (e2.trans ge)),vo2.ext (e1.trans (e2.trans ge)),xA,xB,hpe' (),fun Gf gf' hf=>?_⟩
  have e3:=gf' Gd ge hxc
  have ha3:=e3.at ha2
  have hb3:=e3.at hd
  have e13:=e1.trans (e2.trans e3)
  clear ke hxc ge gf' ha2 hd
  simp! only [and_true]
  intro L H8 _ e8 h8
  obtain ⟨sx,hat,hsx⟩:=at3 (x0:=sa) (x1:=sb) (x2:=sc) (by omega:2≤w') hw
  have e58:=e13.trans e8
  have st:StF t H H8 sx w' room (cellsL f1 A1) (cellsL f2 A2):=by
   refine ⟨u,v,?_,fun _=>(w1 ()).ext e58,fun _=>(w2 ()).ext e58⟩
   rcases hsx with ⟨rfl,rfl⟩|⟨rfl,rfl⟩|⟨rfl,rfl⟩
   ·exact ⟨hw,da,.non,e8.at ha3⟩
   ·exact ⟨hw,db,.non,e8.at hb3⟩
   ·exact ⟨hw,dc,.non,e8.at hf⟩
  have kf:=k () sx H8 (e05.trans e58) st
  clear k st hsx ha3 hb3 hf
  simp! only [and_true]
theorem StV.zero {t:Adr}{H:Hp}{s dx:Addr}{room:Int}{a b:List Int}(h:H s=some (.ins t.a_Statement dx [])):StV t H s 0 room a b:=⟨s,s,⟨by decide,dx,.non,h⟩,(fun q=>absurd q (by decide)),fun q=>absurd q (by decide)⟩
theorem StX.zero {t:Adr}{H:Hp}{s dx:Addr}{room n:Int}(h:H s=some (.ins t.a_Statement dx [])):StX t H s 0 room n:=⟨s,s,⟨by decide,dx,.non,h⟩,(fun q=>absurd q (by decide)),fun q=>absurd q (by decide)⟩
def BadP (w1 w2:Nat) (r1 n1 r2 n2:Int):Prop:=(1≤w1∧1≤w2∧r1 ≠ r2)∨(1≤w1∧4096 < n1)∨(1≤w2∧4096 < n2)
def RowT (t:Adr) (H:Hp) (y:V):Prop:=∃ (p q s1 s2:Addr) (wd:Str) (w1 w2:Nat) (r1 n1 r2 n2:Int),y=.ref p∧H p=some (.tup [.ref q,.str wd])∧H q=some (.tup [.ref s1,.ref s2])∧StX t H s1 w1 r1 n1∧StX t H s2 w2 r2 n2∧BadP w1 w2 r1 n1 r2 n2∧((wd = "pair" ∧ 1≤w1∧1≤w2∧r1 ≠ r2)∨(wd = "many" ∧ ¬ (1≤w1∧1≤w2∧r1 ≠ r2)))
theorem RowT.ext {t:Adr}{H H':Hp}{y:V}(h:RowT t H y) (e:Ext H H'):RowT t H' y:=by
 obtain ⟨p,q,s1,s2,wd,w1,w2,r1,n1,r2,n2,h1,h2,h3,h4,h5,h6⟩:=h
 exact ⟨p,q,s1,s2,wd,w1,w2,r1,n1,r2,n2,h1,e.at h2,e.at h3,h4.ext e,h5.ext e,h6⟩
def RowL (t:Adr) (H:Hp) (ys:List V):Prop:=∀ y∈ys,RowT t H y
theorem RowL.ext {t:Adr}{H H':Hp}{ys:List V}(h:RowL t H ys) (e:Ext H H'):RowL t H' ys:=fun y hy=>(h y hy).ext e
theorem RowL.nil {t:Adr}{H:Hp}:RowL t H []:=fun y hy=>absurd hy List.not_mem_nil
theorem RowL.cons {t:Adr}{H:Hp}{y:V}{ys:List V}(h:RowT t H y) (hs:RowL t H ys):RowL t H (y::ys):=fun x hx=>(List.mem_cons.mp hx).elim (fun e=>e ▸ h) (hs x)
theorem RowL.app {t:Adr}{H:Hp}{xs ys:List V}(h:RowL t H xs) (hs:RowL t H ys):RowL t H (xs++ys):=fun x hx=>(List.mem_append.mp hx).elim (h x) (hs x)
theorem stx_fill {t:Adr}{H:Hp}{s dx u:Addr}{x:V}{room n:Int}(h:H s=some (.ins t.a_Fill dx [("to",.ref u),("value",x)])) (v:VwN t.a_View H u room n):StX t H s 1 room n:=⟨u,u,⟨by decide,dx,x,h⟩,(fun _=>v),fun q=>absurd q (by decide)⟩
theorem stx_two {t:Adr}{H:Hp}{s dx u:Addr}{w:Nat}{room n:Int}(hw:w < 5) (h:H s=some (.ins (clsW t w) dx (fldW w u u .non))) (v:VwN t.a_View H u room n):StX t H s w room n:=⟨u,u,⟨hw,dx,.non,h⟩,(fun _=>v),fun _=>v⟩
theorem one_ok {room f n p:Int}(hr:1≤room∧room≤1000000) (hf:0≤f∧f < room) (hn:1≤n∧n≤1000000000):ViewOk room f [(n,0)]:=by
 have ax:Axes [(n,(0:Int))]:=⟨by simp,fun a ha=>by rw [List.mem_singleton.mp ha];exact ⟨by show 1≤n;omega,by show n≤_;omega⟩⟩
 have e:[(n,(0:Int))].map keptA=[(n,0)]:=by show [(n,if n > 1 then (0:Int) else 0)]=_;rw [ite_self]
 have l:leastL [(n,(0:Int))]=0:=by show min 0 ((n - 1) * 0)+0=_;rw [Int.mul_zero];decide
 have g:greatL [(n,(0:Int))]=0:=by show max 0 ((n - 1) * 0)+0=_;rw [Int.mul_zero];decide
 exact ⟨ax,hr.1,by omega,by rw [e,l];omega,by rw [e,g];omega⟩
theorem one_vwn {C:Addr}{H:Hp}{x:Addr}{room f n:Int}(hn:1≤n∧n≤1000000000) (v:ViewAt C H x room f ([(n,(0:Int))].map keptA)):VwN C H x room n:=by
 have ax:Axes [(n,(0:Int))]:=⟨by simp,fun a ha=>by rw [List.mem_singleton.mp ha];exact ⟨by show 1≤n;omega,by show n≤_;omega⟩⟩
 exact ⟨f,_,v,ax.kept,by rw [kept_sizes];show prodL [n]=n;simp [prodL]⟩
abbrev B_spKRefu (t:Adr) (K:PySem.W.Frag) (a:Addr) (ns:List Int) (s:Addr) (room:Int) (p:Addr) (H:Hp) (Q:VK) (E:XK):Prop:=s=a∧SqL K H a (ns.map V.int)∧ns.length≤63∧20≤room∧room≤60∧∃ (f:Int) (A:List (Int × Int)),DvA H p f A∧SmV room f A∧∀ H',Ext H H'->Q (.bl true) H'
def spKRefu (t:Adr) (K:PySem.W.Frag) (a:Addr) (ns:List Int):Sp:=fun vs H Q E=>∃ (s:Addr) (room:Int) (p:Addr),vs=[.ref s,.int room,.ref p]∧(B_spKRefu t K a ns s room p H Q E)
theorem c_spKRefu (t:Adr) (K:PySem.W.Frag) (a:Addr) (ns:List Int) (s:Addr) (room:Int) (p:Addr) (H:Hp) (Q:VK) (E:XK):spKRefu t K a ns [.ref s,.int room,.ref p] H Q E=(B_spKRefu t K a ns s room p H Q E):=spx3 (f:=fun (s:Addr) (room:Int) (p:Addr)=>[.ref s,.int room,.ref p]) (fun _ _ _ _ _ _ h=>by cases h;exact ⟨rfl,rfl,rfl⟩) s room p
theorem l_spKRefu (t:Adr) (K:PySem.W.Frag) (a:Addr) (ns:List Int){vs:List V}{H:Hp}{Q:VK}{E:XK}(h:spKRefu t K a ns vs H Q E):vs.length=3:=spl3 h fun _ _ _=>rfl
theorem ok__law_refused (T:Tx K mg t) (a:Addr) (ns:List Int):FnOk P w K mg base CX0 9 t.a__law_refused t.d__law_refused ["_law_script", "_law_room", "_law_one"] (spKRefu t K a ns):=by
 have G__law_draw:=ok__law_draw (P:=P) (w:=w) (base:=base) T a ns
 have G_View___init__:=ok_View___init__ (P:=P) (w:=w) (base:=base) T
 have G_Fill___init__:=ok_Fill___init__ (P:=P) (w:=w) (base:=base) T
 have G_Copy___init__:=ok_Copy___init__ (P:=P) (w:=w) (base:=base) T
 have G_Swap___init__:=ok_Swap___init__ (P:=P) (w:=w) (base:=base) T
 have G_Raise___init__:=ok_Raise___init__ (P:=P) (w:=w) (base:=base) T
 have G__law_told:=ok__law_told (P:=P) (w:=w) (base:=base) T
 have G_clash:=ok_clash (P:=P) (w:=w) (base:=base) T
 refine T.F__law_refused.ok c__law_refused (fun vs H Q E h=>l_spKRefu _ _ _ _ h) (fun cdv A' outer s H vs Q E hr h=>?_)
 ·obtain ⟨_,room,p,rfl,rfl,hS,hl,hr0,hr1,f,A,⟨l1,hp,tt⟩,sv,kk⟩:=h
  rename_i a
  refine ⟨_,(@pss_cons _ _ _ _ _ (@ps_set _ _ (3) _ _ _ _ c__law_refused.nd rfl (Or.inl rfl) (@pe_op _ _ _ _ _ _ _ _ on_add (@pe_int _ _ _ _) (@pe_call _ _ _ _ _ _ _ _ _ _ _ _ _ _ _ _ G__law_draw (hr.mono (by decide)) (by rfl) T.m__law_draw T.F__law_draw.kp T.b__law_draw .nil pass0 (@pa_c _ _ _ _ _ (@pvN _ 0 _ _ (by rfl) (by trivial) (by decide) (by decide)) (@pa_c _ _ _ _ _ (@pe_int _ _ _ _) (@pa_c _ _ _ _ _ (@pe_op _ _ _ _ _ _ _ _ on_pow (@pe_int _ _ _ _) (@pe_int _ _ _ _)) (@pa_nil _) (by rfl)) (by rfl)) (by rfl)) (by decide) (by rfl) (by rfl))) (by rfl) (by trivial)) (@pss_cons _ _ _ _ _ (@ps_set _ _ (4) _ _ _ _ c__law_refused.nd rfl (Or.inl rfl) (@pe_nMake _ _ _ _ _ _ _ _ _ _ _ _ _ _ _ _ _ T.mk_View G_View___init__ (hr.mono (by decide)) (by rfl) T.m_View T.b_View___init__ .nil pass0 (@pa_c _ _ _ _ _ (@pvN _ 1 _ _ (by rfl) (by trivial) (by decide) (by decide)) (@pa_c _ _ _ _ _ (@pe_call _ _ _ _ _ _ _ _ _ _ _ _ _ _ _ _ G__law_draw (hr.mono (by decide)) (by rfl) T.m__law_draw T.F__law_draw.kp T.b__law_draw .nil pass0 (@pa_c _ _ _ _ _ (@pvN _ 0 _ _ (by rfl) (by trivial) (by decide) (by decide)) (@pa_c _ _ _ _ _ (@pe_int _ _ _ _) (@pa_c _ _ _ _ _ (@pvN _ 1 _ _ (by rfl) (by trivial) (by decide) (by decide)) (@pa_nil _) (by rfl)) (by rfl)) (by rfl)) (by decide) (by rfl) (by rfl)) (@pa_c _ _ _ _ _ (@pe_qLst _ _ _ _ (@pa_c _ _ _ _ _ (@pe_qTup _ _ _ _ _ (@pa_c _ _ _ _ _ (@pvN _ 3 _ _ (by rfl) (by trivial) (by decide) (by decide)) (@pa_c _ _ _ _ _ (@pe_int _ _ _ _) (@pa_nil _) (by rfl)) (by rfl))) (@pa_nil _) (by rfl))) (@pa_nil _) (by rfl)) (by rfl)) (by rfl)) (by decide) (by rfl) (by rfl)) (by rfl) (by trivial)) (@pss_cons _ _ _ _ _ (@ps_set _ _ (5) _ _ _ _ c__law_refused.nd rfl (Or.inl rfl) (@pe_nMake _ _ _ _ _ _ _ _ _ _ _ _ _ _ _ _ _ T.mk_View G_View___init__ (hr.mono (by decide)) (by rfl) T.m_View T.b_View___init__ .nil pass0 (@pa_c _ _ _ _ _ (@pe_op _ _ _ _ _ _ _ _ on_add (@pe_op _ _ _ _ _ _ _ _ on_add (@pvN _ 1 _ _ (by rfl) (by trivial) (by decide) (by decide)) (@pe_int _ _ _ _)) (@pe_call _ _ _ _ _ _ _ _ _ _ _ _ _ _ _ _ G__law_draw (hr.mono (by decide)) (by rfl) T.m__law_draw T.F__law_draw.kp T.b__law_draw .nil pass0 (@pa_c _ _ _ _ _ (@pvN _ 0 _ _ (by rfl) (by trivial) (by decide) (by decide)) (@pa_c _ _ _ _ _ (@pe_int _ _ _ _) (@pa_c _ _ _ _ _ (@pe_int _ _ _ _) (@pa_nil _) (by rfl)) (by rfl)) (by rfl)) (by decide) (by rfl) (by rfl))) (@pa_c _ _ _ _ _ (@pe_int _ _ _ _) (@pa_c _ _ _ _ _ (@pe_qLst _ _ _ _ (@pa_c _ _ _ _ _ (@pe_qTup _ _ _ _ _ (@pa_c _ _ _ _ _ (@pvN _ 3 _ _ (by rfl) (by trivial) (by decide) (by decide)) (@pa_c _ _ _ _ _ (@pe_int _ _ _ _) (@pa_nil _) (by rfl)) (by rfl))) (@pa_nil _) (by rfl))) (@pa_nil _) (by rfl)) (by rfl)) (by rfl)) (by decide) (by rfl) (by rfl)) (by rfl) (by trivial)) (@pss_cons _ _ _ _ _ (@ps_set _ _ (6) _ _ _ _ c__law_refused.nd rfl (Or.inl rfl) (@pe_nMake _ _ _ _ _ _ _ _ _ _ _ _ _ _ _ _ _ T.mk_View G_View___init__ (hr.mono (by decide)) (by rfl) T.m_View T.b_View___init__ .nil pass0 (@pa_c _ _ _ _ _ (@pvN _ 1 _ _ (by rfl) (by trivial) (by decide) (by decide)) (@pa_c _ _ _ _ _ (@pe_ix _ _ _ _ _ _ _ ix_q (@pvN _ 2 _ _ (by rfl) (by trivial) (by decide) (by decide)) (@pe_int _ _ _ _) (fun _ _=>rfl)) (@pa_c _ _ _ _ _ (@pe_callTy _ _ _ _ _ _ _ _ _ call_nList (by rfl) T.z_list (by decide +kernel) (@pa_c _ _ _ _ _ (@pe_ix _ _ _ _ _ _ _ ix_q (@pvN _ 2 _ _ (by rfl) (by trivial) (by decide) (by decide)) (@pe_int _ _ _ _) (fun _ _=>rfl)) (@pa_nil _) (by rfl)) (by decide) (by decide) (by rfl) (by rfl)) (@pa_nil _) (by rfl)) (by rfl)) (by rfl)) (by decide) (by rfl) (by rfl)) (by rfl) (by trivial)) (@pss_cons _ _ _ _ _ (@ps_set _ _ (7) _ _ _ _ c__law_refused.nd rfl (Or.inl rfl) (@pe_nMake _ _ _ _ _ _ _ _ _ _ _ _ _ _ _ _ _ T.mk_Fill G_Fill___init__ (hr.mono (by decide)) (by rfl) T.m_Fill T.b_Fill___init__ .nil pass0 (@pa_c _ _ _ _ _ (@pvN _ 6 _ _ (by rfl) (by trivial) (by decide) (by decide)) (@pa_c _ _ _ _ _ (@pe_int _ _ _ _) (@pa_nil _) (by rfl)) (by rfl)) (by decide) (by rfl) (by rfl)) (by rfl) (by trivial)) (@pss_cons _ _ _ _ _ (@ps_set _ _ (8) _ _ _ _ c__law_refused.nd rfl (Or.inl rfl) (@pe_ix _ _ _ _ _ _ _ ix_q (@pe_qLst _ _ _ _ (@pa_c _ _ _ _ _ (@pe_nMake _ _ _ _ _ _ _ _ _ _ _ _ _ _ _ _ _ T.mk_Fill G_Fill___init__ (hr.mono (by decide)) (by rfl) T.m_Fill T.b_Fill___init__ .nil pass0 (@pa_c _ _ _ _ _ (@pvN _ 5 _ _ (by rfl) (by trivial) (by decide) (by decide)) (@pa_c _ _ _ _ _ (@pe_int _ _ _ _) (@pa_nil _) (by rfl)) (by rfl)) (by decide) (by rfl) (by rfl)) (@pa_c _ _ _ _ _ (@pe_nMake _ _ _ _ _ _ _ _ _ _ _ _ _ _ _ _ _ T.mk_Copy G_Copy___init__ (hr.mono (by decide)) (by rfl) T.m_Copy T.b_Copy___init__ .nil pass0 (@pa_c _ _ _ _ _ (@pvN _ 5 _ _ (by rfl) (by trivial) (by decide) (by decide)) (@pa_c _ _ _ _ _ (@pvN _ 5 _ _ (by rfl) (by trivial) (by decide) (by decide)) (@pa_nil _) (by rfl)) (by rfl)) (by decide) (by rfl) (by rfl)) (@pa_c _ _ _ _ _ (@pe_nMake _ _ _ _ _ _ _ _ _ _ _ _ _ _ _ _ _ T.mk_Raise G_Raise___init__ (hr.mono (by decide)) (by rfl) T.m_Raise T.b_Raise___init__ .nil pass0 (@pa_c _ _ _ _ _ (@pvN _ 5 _ _ (by rfl) (by trivial) (by decide) (by decide)) (@pa_c _ _ _ _ _ (@pvN _ 5 _ _ (by rfl) (by trivial) (by decide) (by decide)) (@pa_nil _) (by rfl)) (by rfl)) (by decide) (by rfl) (by rfl)) (@pa_nil _) (by rfl)) (by rfl)) (by rfl))) (@pe_call _ _ _ _ _ _ _ _ _ _ _ _ _ _ _ _ G__law_draw (hr.mono (by decide)) (by rfl) T.m__law_draw T.F__law_draw.kp T.b__law_draw .nil pass0 (@pa_c _ _ _ _ _ (@pvN _ 0 _ _ (by rfl) (by trivial) (by decide) (by decide)) (@pa_c _ _ _ _ _ (@pe_int _ _ _ _) (@pa_c _ _ _ _ _ (@pe_int _ _ _ _) (@pa_nil _) (by rfl)) (by rfl)) (by rfl)) (by decide) (by rfl) (by rfl)) (fun _ _=>rfl)) (by rfl) (by trivial)) (@pss_cons _ _ _ _ _ (@ps_set _ _ (9) _ _ _ _ c__law_refused.nd rfl (Or.inl rfl) (@pe_ix _ _ _ _ _ _ _ ix_q (@pe_qLst _ _ _ _ (@pa_c _ _ _ _ _ (@pe_nMake _ _ _ _ _ _ _ _ _ _ _ _ _ _ _ _ _ T.mk_Fill G_Fill___init__ (hr.mono (by decide)) (by rfl) T.m_Fill T.b_Fill___init__ .nil pass0 (@pa_c _ _ _ _ _ (@pvN _ 4 _ _ (by rfl) (by trivial) (by decide) (by decide)) (@pa_c _ _ _ _ _ (@pe_int _ _ _ _) (@pa_nil _) (by rfl)) (by rfl)) (by decide) (by rfl) (by rfl)) (@pa_c _ _ _ _ _ (@pe_nMake _ _ _ _ _ _ _ _ _ _ _ _ _ _ _ _ _ T.mk_Copy G_Copy___init__ (hr.mono (by decide)) (by rfl) T.m_Copy T.b_Copy___init__ .nil pass0 (@pa_c _ _ _ _ _ (@pvN _ 4 _ _ (by rfl) (by trivial) (by decide) (by decide)) (@pa_c _ _ _ _ _ (@pvN _ 4 _ _ (by rfl) (by trivial) (by decide) (by decide)) (@pa_nil _) (by rfl)) (by rfl)) (by decide) (by rfl) (by rfl)) (@pa_c _ _ _ _ _ (@pe_nMake _ _ _ _ _ _ _ _ _ _ _ _ _ _ _ _ _ T.mk_Swap G_Swap___init__ (hr.mono (by decide)) (by rfl) T.m_Swap T.b_Swap___init__ .nil pass0 (@pa_c _ _ _ _ _ (@pvN _ 4 _ _ (by rfl) (by trivial) (by decide) (by decide)) (@pa_c _ _ _ _ _ (@pvN _ 4 _ _ (by rfl) (by trivial) (by decide) (by decide)) (@pa_nil _) (by rfl)) (by rfl)) (by decide) (by rfl) (by rfl)) (@pa_nil _) (by rfl)) (by rfl)) (by rfl))) (@pe_call _ _ _ _ _ _ _ _ _ _ _ _ _ _ _ _ G__law_draw (hr.mono (by decide)) (by rfl) T.m__law_draw T.F__law_draw.kp T.b__law_draw .nil pass0 (@pa_c _ _ _ _ _ (@pvN _ 0 _ _ (by rfl) (by trivial) (by decide) (by decide)) (@pa_c _ _ _ _ _ (@pe_int _ _ _ _) (@pa_c _ _ _ _ _ (@pe_int _ _ _ _) (@pa_nil _) (by rfl)) (by rfl)) (by rfl)) (by decide) (by rfl) (by rfl)) (fun _ _=>rfl)) (by rfl) (by trivial)) (@pss_cons _ _ _ _ _ (@ps_set _ _ (10) _ _ _ _ c__law_refused.nd rfl (Or.inl rfl) (@pe_qLst _ _ _ _ (@pa_c _ _ _ _ _ (@pe_qTup _ _ _ _ _ (@pa_c _ _ _ _ _ (@pe_qTup _ _ _ _ _ (@pa_c _ _ _ _ _ (@pvN _ 7 _ _ (by rfl) (by trivial) (by decide) (by decide)) (@pa_c _ _ _ _ _ (@pvN _ 8 _ _ (by rfl) (by trivial) (by decide) (by decide)) (@pa_nil _) (by rfl)) (by rfl))) (@pa_c _ _ _ _ _ (@pe_str _ _ _ _) (@pa_nil _) (by rfl)) (by rfl))) (@pa_c _ _ _ _ _ (@pe_qTup _ _ _ _ _ (@pa_c _ _ _ _ _ (@pe_qTup _ _ _ _ _ (@pa_c _ _ _ _ _ (@pvN _ 9 _ _ (by rfl) (by trivial) (by decide) (by decide)) (@pa_c _ _ _ _ _ (@pvN _ 8 _ _ (by rfl) (by trivial) (by decide) (by decide)) (@pa_nil _) (by rfl)) (by rfl))) (@pa_c _ _ _ _ _ (@pe_str _ _ _ _) (@pa_nil _) (by rfl)) (by rfl))) (@pa_c _ _ _ _ _ (@pe_qTup _ _ _ _ _ (@pa_c _ _ _ _ _ (@pe_qTup _ _ _ _ _ (@pa_c _ _ _ _ _ (@pvN _ 7 _ _ (by rfl) (by trivial) (by decide) (by decide)) (@pa_c _ _ _ _ _ (@pvN _ 9 _ _ (by rfl) (by trivial) (by decide) (by decide)) (@pa_nil _) (by rfl)) (by rfl))) (@pa_c _ _ _ _ _ (@pe_str _ _ _ _) (@pa_nil _) (by rfl)) (by rfl))) (@pa_c _ _ _ _ _ (@pe_qTup _ _ _ _ _ (@pa_c _ _ _ _ _ (@pe_qTup _ _ _ _ _ (@pa_c _ _ _ _ _ (@pvN _ 9 _ _ (by rfl) (by trivial) (by decide) (by decide)) (@pa_c _ _ _ _ _ (@pvN _ 9 _ _ (by rfl) (by trivial) (by decide) (by decide)) (@pa_nil _) (by rfl)) (by rfl))) (@pa_c _ _ _ _ _ (@pe_str _ _ _ _) (@pa_nil _) (by rfl)) (by rfl))) (@pa_nil _) (by rfl)) (by rfl)) (by rfl)) (by rfl))) (by rfl) (by trivial)) (@pss_cons _ _ _ _ _ (@ps_for _ _ _ _ _ _ _ _ PassesOwn.never rfl (@pi_seq _ _ _ _ (@pe_op _ _ _ _ _ _ _ _ op_nCat (@pvN _ 10 _ _ (by rfl) (by trivial) (by decide) (by decide)) (@pe_qLst _ _ _ _ (@pa_c _ _ _ _ _ (@pe_qTup _ _ _ _ _ (@pa_c _ _ _ _ _ (@pe_qTup _ _ _ _ _ (@pa_c _ _ _ _ _ (@pe_nMk0 _ _ _ _ _ T.mk0_Statement (by rfl) T.m_Statement (by decide)) (@pa_c _ _ _ _ _ (@pvN _ 9 _ _ (by rfl) (by trivial) (by decide) (by decide)) (@pa_nil _) (by rfl)) (by rfl))) (@pa_c _ _ _ _ _ (@pe_str _ _ _ _) (@pa_nil _) (by rfl)) (by rfl))) (@pa_nil _) (by rfl))))) ((@pg_tup _ _ _ _ _ (2) rfl (@pgs_consN _ _ _ _ _ (@pg_name _ _ (11) _ c__law_refused.nd rfl (Or.inl rfl) (by trivial)) (@pgs_consN _ _ _ _ _ (@pg_name _ _ (12) _ c__law_refused.nd rfl (Or.inl rfl) (by trivial)) (@pgs_nilN _) (by rfl)) (by rfl)) (by rfl) (by rfl)).mono fun _ _ _ _ h=>gTup_q h) (@pss_one _ _ _ (@ps_if _ _ _ _ _ _ _ _ (PW.pt (@pw_or _ _ _ _ _ _ _ (@pt_cmpRN _ _ _ _ _ _ _ _ (op_qNe hr.units) (@pe_call _ _ _ _ _ _ _ _ _ _ _ _ _ _ _ _ G__law_told (hr.mono (by decide)) (by rfl) T.m__law_told T.F__law_told.kp T.b__law_told .nil pass0 (@pa_c _ _ _ _ _ (@pe_ix _ _ _ _ _ _ _ ix_q (@pvN _ 11 _ _ (by rfl) (by trivial) (by decide) (by decide)) (@pe_int _ _ _ _) (fun _ _=>rfl)) (@pa_c _ _ _ _ _ (@pe_ix _ _ _ _ _ _ _ ix_q (@pvN _ 11 _ _ (by rfl) (by trivial) (by decide) (by decide)) (@pe_int _ _ _ _) (fun _ _=>rfl)) (@pa_nil _) (by rfl)) (by rfl)) (by decide) (by rfl) (by rfl)) (@pvN _ 12 _ _ (by rfl) (by trivial) (by decide) (by decide)) (nomark _)) (@pw_or1 _ _ _ _ (@pt_cmpRN _ _ _ _ _ _ _ _ (op_qNe hr.units) (@pe_call _ _ _ _ _ _ _ _ _ _ _ _ _ _ _ _ G__law_told (hr.mono (by decide)) (by rfl) T.m__law_told T.F__law_told.kp T.b__law_told .nil pass0 (@pa_c _ _ _ _ _ (@pe_ix _ _ _ _ _ _ _ ix_q (@pvN _ 11 _ _ (by rfl) (by trivial) (by decide) (by decide)) (@pe_int _ _ _ _) (fun _ _=>rfl)) (@pa_c _ _ _ _ _ (@pe_ix _ _ _ _ _ _ _ ix_q (@pvN _ 11 _ _ (by rfl) (by trivial) (by decide) (by decide)) (@pe_int _ _ _ _) (fun _ _=>rfl)) (@pa_nil _) (by rfl)) (by rfl)) (by decide) (by rfl) (by rfl)) (@pvN _ 12 _ _ (by rfl) (by trivial) (by decide) (by decide)) (nomark _))))) (@pss_one _ _ _ (@ps_ret _ _ _ _ (@pe_bl _ _ _ _))) (@pss_nil _))) (by intros;rfl)) (@pss_one _ _ _ (@ps_ret _ _ _ _ (@pe_andN _ _ _ _ _ _ _ (@pe_cmpR _ _ _ _ _ _ _ _ op_nIsB (@pe_call _ _ _ _ _ _ _ _ _ _ _ _ _ _ _ _ G_clash (hr.mono (by decide)) (by rfl) T.m_clash T.F_clash.kp T.b_clash .nil pass0 (@pa_c _ _ _ _ _ (@pe_nMk0 _ _ _ _ _ T.mk0_Statement (by rfl) T.m_Statement (by decide)) (@pa_c _ _ _ _ _ (@pvN _ 7 _ _ (by rfl) (by trivial) (by decide) (by decide)) (@pa_nil _) (by rfl)) (by rfl)) (by decide) (by rfl) (by rfl)) (@pe_bl _ _ _ _) (nomark _)) (@pe_one _ _ _ _ _ (@pe_cmpR _ _ _ _ _ _ _ _ op_nIsB (@pe_call _ _ _ _ _ _ _ _ _ _ _ _ _ _ _ _ G_clash (hr.mono (by decide)) (by rfl) T.m_clash T.F_clash.kp T.b_clash .nil pass0 (@pa_c _ _ _ _ _ (@pe_nMk0 _ _ _ _ _ T.mk0_Statement (by rfl) T.m_Statement (by decide)) (@pa_c _ _ _ _ _ (@pe_nMk0 _ _ _ _ _ T.mk0_Statement (by rfl) T.m_Statement (by decide)) (@pa_nil _) (by rfl)) (by rfl)) (by decide) (by rfl) (by rfl)) (@pe_bl _ _ _ _) (nomark _))))))))))))))),?_⟩
  rw [show start ["_law_script", "_law_room", "_law_one", "_law_size", "_law_many", "_law_beyond", "_law_here", "_law_near", "_law_far", "_law_much", "_law_rows", "_law_some_here", "_law_word"] [.ref a,.int room,.ref p]=[some (.ref a),some (.int room),some (.ref p),none,none,none,none,none,none,none,none,none,none] from rfl]
  clear G__law_draw G_View___init__ G_Fill___init__ G_Copy___init__ G_Swap___init__ G_Raise___init__ G__law_told G_clash
  replace kk:=fun (_:Unit)=>kk
  obtain ⟨y1,hl1,al1⟩:=tt
  replace al1:=fun (_:Unit)=>al1
  simp! only [and_true]
  rw [c_spDraw]
  refine ⟨hS,hl,⟨by decide,by decide⟩,by decide,fun d1 d10 d11=>?_⟩
  obtain ⟨n,hn0⟩:∃ n,4097+d1=n:=⟨_,rfl⟩
  have hn1:4097≤n:=by omega
  have hn2:n≤1100000:=by omega
  simp! only [and_true]
  clear hn0 d10 d11
  rw [c_spDraw]
  refine ⟨hS,hl,⟨by decide,by decide⟩,by omega,fun d2 d20 d21=>?_⟩
  have eb:=Ext.refl H
  simp! only [and_true]
  intro t1 J101 ut1 j101 ht1
  clear ut1
  replace hp:=j101.at hp
  replace hl1:=j101.at hl1
  replace hS:=j101.2 K a _ hS
  replace eb:=eb.trans j101
  clear j101
  simp! only [and_true]
  intro l2 J102 ul2 j102 hl2
  clear ul2
  replace hp:=j102.at hp
  replace hl1:=j102.at hl1
  replace ht1:=j102.at ht1
  replace hS:=j102.2 K a _ hS
  replace eb:=eb.trans j102
  clear j102
  have tA:TupsAt J102 l2 (axL [(n,0)]):=⟨_,hl2,Al.cons' ⟨t1,rfl,ht1⟩ Al.nil⟩
  clear ht1 hl2
  simp! only [and_true]
  intro mv dx103 G103 hx103 hd103 hq103 g103 k103 kk103
  rw [c_spVInit]
  refine ⟨dx103,[(n,0)],k103,TupsAt.ext tA g103,one_ok (p:=0) ⟨by omega,by omega⟩ ⟨d20,d21⟩ ⟨by omega,by omega⟩,fun J103 D103 gg103 hD103 hx103' tt103=>?_⟩
  have j103:=gg103 J102 g103 hx103
  have vmv:ViewAt t.a_View J103 mv room d2 ([(n,0)].map keptA):=⟨dx103,D103,hx103',tt103⟩
  replace vmv:=fun (_:Unit)=>vmv
  clear k103 kk103 hx103 hd103 hq103 g103 gg103 hD103 hx103' tt103
  replace hp:=j103.at hp
  replace hl1:=j103.at hl1
  replace hS:=j103.2 K a _ hS
  replace eb:=eb.trans j103
  clear j103
  clear tA d20 d21
  simp! only [and_true]
  rw [c_spDraw]
  refine ⟨hS,hl,⟨by decide,by decide⟩,by decide,fun d3 d30 d31=>?_⟩
  obtain ⟨rb,hrb⟩:∃ rb,room+1+d3=rb:=⟨_,rfl⟩
  have hrb1:room < rb:=by omega
  have hrb2:rb≤100:=by omega
  simp! only [and_true]
  clear hrb d30 d31
  intro t3 J104 ut3 j104 ht3
  clear ut3
  replace vmv:=fun (_:Unit)=>(vmv ()).ext j104
  replace hp:=j104.at hp
  replace hl1:=j104.at hl1
  replace hS:=j104.2 K a _ hS
  replace eb:=eb.trans j104
  clear j104
  simp! only [and_true]
  intro l4 J105 ul4 j105 hl4
  clear ul4
  replace vmv:=fun (_:Unit)=>(vmv ()).ext j105
  replace hp:=j105.at hp
  replace hl1:=j105.at hl1
  replace ht3:=j105.at ht3
  replace hS:=j105.2 K a _ hS
  replace eb:=eb.trans j105
  clear j105
  have tA:TupsAt J105 l4 (axL [(n,0)]):=⟨_,hl4,Al.cons' ⟨t3,rfl,ht3⟩ Al.nil⟩
  clear ht3 hl4
  simp! only [and_true]
  intro bv dx106 G106 hx106 hd106 hq106 g106 k106 kk106
  rw [c_spVInit]
  refine ⟨dx106,[(n,0)],k106,TupsAt.ext tA g106,one_ok (p:=0) ⟨by omega,by omega⟩ ⟨by decide,by omega⟩ ⟨by omega,by omega⟩,fun J106 D106 gg106 hD106 hx106' tt106=>?_⟩
  have j106:=gg106 J105 g106 hx106
  have vbv:ViewAt t.a_View J106 bv rb 0 ([(n,0)].map keptA):=⟨dx106,D106,hx106',tt106⟩
  replace vbv:=fun (_:Unit)=>vbv
  clear k106 kk106 hx106 hd106 hq106 g106 gg106 hD106 hx106' tt106
  replace vmv:=fun (_:Unit)=>(vmv ()).ext j106
  replace hp:=j106.at hp
  replace hl1:=j106.at hl1
  replace hS:=j106.2 K a _ hS
  replace eb:=eb.trans j106
  clear j106
  clear tA
  simp! only [and_true]
  intro q5 J107 uq5 j107 hq5
  clear uq5
  replace vmv:=fun (_:Unit)=>(vmv ()).ext j107
  replace vbv:=fun (_:Unit)=>(vbv ()).ext j107
  replace hp:=j107.at hp
  replace hl1:=j107.at hl1
  replace hS:=j107.2 K a _ hS
  replace eb:=eb.trans j107
  clear j107
  have tA:TupsAt J107 q5 (axL A):=⟨y1,hq5,(al1 ()).imp fun _ _ t=>t.ext eb⟩
  clear hq5
  simp! only [and_true]
  intro hv dx108 G108 hx108 hd108 hq108 g108 k108 kk108
  rw [c_spVInit]
  refine ⟨dx108,A,k108,TupsAt.ext tA g108,sv.vok (by omega) (by omega),fun J108 D108 gg108 hD108 hx108' tt108=>?_⟩
  have j108:=gg108 J107 g108 hx108
  have vhv:ViewAt t.a_View J108 hv room f (A.map keptA):=⟨dx108,D108,hx108',tt108⟩
  replace vhv:=fun (_:Unit)=>vhv
  clear k108 kk108 hx108 hd108 hq108 g108 gg108 hD108 hx108' tt108
  replace vmv:=fun (_:Unit)=>(vmv ()).ext j108
  replace vbv:=fun (_:Unit)=>(vbv ()).ext j108
  replace hp:=j108.at hp
  replace hl1:=j108.at hl1
  replace hS:=j108.2 K a _ hS
  replace eb:=eb.trans j108
  clear j108
  clear tA
  simp! only [and_true]
  intro nr dx109 G109 hx109 hd109 hq109 g109 k109 kk109
  rw [c_spFInit]
  refine ⟨dx109,k109,fun J109 gg109 hnr=>?_⟩
  have j109:=gg109 J108 g109 hx109
  clear k109 kk109 hx109 hd109 hq109 g109 gg109
  replace vmv:=fun (_:Unit)=>(vmv ()).ext j109
  replace vbv:=fun (_:Unit)=>(vbv ()).ext j109
  replace vhv:=fun (_:Unit)=>(vhv ()).ext j109
  replace hp:=j109.at hp
  replace hl1:=j109.at hl1
  replace hS:=j109.2 K a _ hS
  replace eb:=eb.trans j109
  clear j109
  have sn:StX t J109 nr 1 room (prodL (A.map fun a=>a.1)):=stx_fill hnr ⟨f,_,vhv (),sv.axes.kept,by rw [kept_sizes]⟩
  have sn2:StV t J109 nr 1 room (cellsL f A) []:=⟨hv,hv,⟨by decide,dx109,.int 1,hnr⟩,(fun _=>sv.vwc (vhv ())),fun q=>absurd q (by decide)⟩
  replace sn:=fun (_:Unit)=>sn
  replace sn2:=fun (_:Unit)=>sn2
  clear hnr
  have kax:Axes ([(n,(0:Int))].map keptA):=Axes.kept ⟨by simp,fun a ha=>by rw [List.mem_singleton.mp ha];exact ⟨by show 1≤n;omega,by show n≤_;omega⟩⟩
  simp! only [and_true]
  intro fa1 dx110 G110 hx110 hd110 hq110 g110 k110 kk110
  rw [c_spFInit]
  refine ⟨dx110,k110,fun J110 gg110 hfa1=>?_⟩
  have j110:=gg110 J109 g110 hx110
  clear k110 kk110 hx110 hd110 hq110 g110 gg110
  replace vmv:=fun (_:Unit)=>(vmv ()).ext j110
  replace vbv:=fun (_:Unit)=>(vbv ()).ext j110
  replace vhv:=fun (_:Unit)=>(vhv ()).ext j110
  replace sn:=fun (_:Unit)=>(sn ()).ext j110
  replace sn2:=fun (_:Unit)=>(sn2 ()).ext j110
  replace hp:=j110.at hp
  replace hl1:=j110.at hl1
  replace hS:=j110.2 K a _ hS
  replace eb:=eb.trans j110
  clear j110
  have sfa1:StX t J110 fa1 1 rb n:=stx_fill hfa1 (one_vwn ⟨by omega,by omega⟩ (vbv ()))
  replace sfa1:=fun (_:Unit)=>sfa1
  clear hfa1
  simp! only [and_true]
  intro fa2 dx111 G111 hx111 hd111 hq111 g111 k111 kk111
  rw [c_spCopyInit]
  refine ⟨dx111,rb,0,0,_,_,k111,(vbv ()).ext g111,(vbv ()).ext g111,kax,kax,rfl,fun J111 gg111 hfa2=>?_⟩
  have j111:=gg111 J110 g111 hx111
  clear k111 kk111 hx111 hd111 hq111 g111 gg111
  replace vmv:=fun (_:Unit)=>(vmv ()).ext j111
  replace vbv:=fun (_:Unit)=>(vbv ()).ext j111
  replace vhv:=fun (_:Unit)=>(vhv ()).ext j111
  replace sn:=fun (_:Unit)=>(sn ()).ext j111
  replace sn2:=fun (_:Unit)=>(sn2 ()).ext j111
  replace sfa1:=fun (_:Unit)=>(sfa1 ()).ext j111
  replace hp:=j111.at hp
  replace hl1:=j111.at hl1
  replace hS:=j111.2 K a _ hS
  replace eb:=eb.trans j111
  clear j111
  have sfa2:StX t J111 fa2 2 rb n:=stx_two (w:=2) (by decide) hfa2 (one_vwn ⟨by omega,by omega⟩ (vbv ()))
  replace sfa2:=fun (_:Unit)=>sfa2
  clear hfa2
  simp! only [and_true]
  intro fa3 dx112 G112 hx112 hd112 hq112 g112 k112 kk112
  rw [c_spRaiseInit]
  refine ⟨dx112,rb,0,0,_,_,k112,(vbv ()).ext g112,(vbv ()).ext g112,kax,kax,rfl,fun J112 gg112 hfa3=>?_⟩
  have j112:=gg112 J111 g112 hx112
  clear k112 kk112 hx112 hd112 hq112 g112 gg112
  replace vmv:=fun (_:Unit)=>(vmv ()).ext j112
  replace vbv:=fun (_:Unit)=>(vbv ()).ext j112
  replace vhv:=fun (_:Unit)=>(vhv ()).ext j112
  replace sn:=fun (_:Unit)=>(sn ()).ext j112
  replace sn2:=fun (_:Unit)=>(sn2 ()).ext j112
  replace sfa1:=fun (_:Unit)=>(sfa1 ()).ext j112
  replace sfa2:=fun (_:Unit)=>(sfa2 ()).ext j112
  replace hp:=j112.at hp
  replace hl1:=j112.at hl1
  replace hS:=j112.2 K a _ hS
  replace eb:=eb.trans j112
  clear j112
  have sfa3:StX t J112 fa3 4 rb n:=stx_two (w:=4) (by decide) hfa3 (one_vwn ⟨by omega,by omega⟩ (vbv ()))
  replace sfa3:=fun (_:Unit)=>sfa3
  clear hfa3
  simp! only [and_true]
  intro Lfa J113 uLfa j113 hLfa
  clear uLfa
  replace vmv:=fun (_:Unit)=>(vmv ()).ext j113
  replace vbv:=fun (_:Unit)=>(vbv ()).ext j113
  replace vhv:=fun (_:Unit)=>(vhv ()).ext j113
  replace sn:=fun (_:Unit)=>(sn ()).ext j113
  replace sn2:=fun (_:Unit)=>(sn2 ()).ext j113
  replace sfa1:=fun (_:Unit)=>(sfa1 ()).ext j113
  replace sfa2:=fun (_:Unit)=>(sfa2 ()).ext j113
  replace sfa3:=fun (_:Unit)=>(sfa3 ()).ext j113
  replace hp:=j113.at hp
  replace hl1:=j113.at hl1
  replace hS:=j113.2 K a _ hS
  replace eb:=eb.trans j113
  clear j113
  simp! only [and_true]
  rw [c_spDraw]
  refine ⟨hS,hl,⟨by decide,by decide⟩,by decide,fun dfa dfa0 dfa1=>?_⟩
  simp! only [and_true]
  refine optK_pick (fun v=>∃ (s:Addr) (w:Nat),v=.ref s∧1≤w∧StX t J113 s w rb n) dfa0 (by show dfa < (3:Int);exact dfa1) (fun v hv=>?_) fun v hv=>?_
  ·simp only [List.mem_cons,List.not_mem_nil,or_false] at hv
   rcases hv with rfl|rfl|rfl
   ·exact ⟨_,_,rfl,by decide,sfa1 ()⟩
   ·exact ⟨_,_,rfl,by decide,sfa2 ()⟩
   ·exact ⟨_,_,rfl,by decide,sfa3 ()⟩
  obtain ⟨far,wfar,rfl,hwfar,sfar⟩:=hv
  replace sfar:=fun (_:Unit)=>sfar
  clear sfa1 sfa2 sfa3
  clear hLfa dfa0 dfa1
  simp! only [and_true]
  intro mu1 dx114 G114 hx114 hd114 hq114 g114 k114 kk114
  rw [c_spFInit]
  refine ⟨dx114,k114,fun J114 gg114 hmu1=>?_⟩
  have j114:=gg114 J113 g114 hx114
  clear k114 kk114 hx114 hd114 hq114 g114 gg114
  replace vmv:=fun (_:Unit)=>(vmv ()).ext j114
  replace vbv:=fun (_:Unit)=>(vbv ()).ext j114
  replace vhv:=fun (_:Unit)=>(vhv ()).ext j114
  replace sn:=fun (_:Unit)=>(sn ()).ext j114
  replace sn2:=fun (_:Unit)=>(sn2 ()).ext j114
  replace sfar:=fun (_:Unit)=>(sfar ()).ext j114
  replace hp:=j114.at hp
  replace hl1:=j114.at hl1
  replace hS:=j114.2 K a _ hS
  replace eb:=eb.trans j114
  clear j114
  have smu1:StX t J114 mu1 1 room n:=stx_fill hmu1 (one_vwn ⟨by omega,by omega⟩ (vmv ()))
  replace smu1:=fun (_:Unit)=>smu1
  clear hmu1
  simp! only [and_true]
  intro mu2 dx115 G115 hx115 hd115 hq115 g115 k115 kk115
  rw [c_spCopyInit]
  refine ⟨dx115,room,d2,d2,_,_,k115,(vmv ()).ext g115,(vmv ()).ext g115,kax,kax,rfl,fun J115 gg115 hmu2=>?_⟩
  have j115:=gg115 J114 g115 hx115
  clear k115 kk115 hx115 hd115 hq115 g115 gg115
  replace vmv:=fun (_:Unit)=>(vmv ()).ext j115
  replace vbv:=fun (_:Unit)=>(vbv ()).ext j115
  replace vhv:=fun (_:Unit)=>(vhv ()).ext j115
  replace sn:=fun (_:Unit)=>(sn ()).ext j115
  replace sn2:=fun (_:Unit)=>(sn2 ()).ext j115
  replace sfar:=fun (_:Unit)=>(sfar ()).ext j115
  replace smu1:=fun (_:Unit)=>(smu1 ()).ext j115
  replace hp:=j115.at hp
  replace hl1:=j115.at hl1
  replace hS:=j115.2 K a _ hS
  replace eb:=eb.trans j115
  clear j115
  have smu2:StX t J115 mu2 2 room n:=stx_two (w:=2) (by decide) hmu2 (one_vwn ⟨by omega,by omega⟩ (vmv ()))
  replace smu2:=fun (_:Unit)=>smu2
  clear hmu2
  simp! only [and_true]
  intro mu3 dx116 G116 hx116 hd116 hq116 g116 k116 kk116
  rw [c_spSwapInit]
  refine ⟨dx116,room,d2,d2,_,_,k116,(vmv ()).ext g116,(vmv ()).ext g116,kax,kax,rfl,fun J116 gg116 hmu3=>?_⟩
  have j116:=gg116 J115 g116 hx116
  clear k116 kk116 hx116 hd116 hq116 g116 gg116
  replace vmv:=fun (_:Unit)=>(vmv ()).ext j116
  replace vbv:=fun (_:Unit)=>(vbv ()).ext j116
  replace vhv:=fun (_:Unit)=>(vhv ()).ext j116
  replace sn:=fun (_:Unit)=>(sn ()).ext j116
  replace sn2:=fun (_:Unit)=>(sn2 ()).ext j116
  replace sfar:=fun (_:Unit)=>(sfar ()).ext j116
  replace smu1:=fun (_:Unit)=>(smu1 ()).ext j116
  replace smu2:=fun (_:Unit)=>(smu2 ()).ext j116
  replace hp:=j116.at hp
  replace hl1:=j116.at hl1
  replace hS:=j116.2 K a _ hS
  replace eb:=eb.trans j116
  clear j116
  have smu3:StX t J116 mu3 3 room n:=stx_two (w:=3) (by decide) hmu3 (one_vwn ⟨by omega,by omega⟩ (vmv ()))
  replace smu3:=fun (_:Unit)=>smu3
  clear hmu3
  simp! only [and_true]
  intro Lmu J117 uLmu j117 hLmu
  clear uLmu
  replace vmv:=fun (_:Unit)=>(vmv ()).ext j117
  replace vbv:=fun (_:Unit)=>(vbv ()).ext j117
  replace vhv:=fun (_:Unit)=>(vhv ()).ext j117
  replace sn:=fun (_:Unit)=>(sn ()).ext j117
  replace sn2:=fun (_:Unit)=>(sn2 ()).ext j117
  replace sfar:=fun (_:Unit)=>(sfar ()).ext j117
  replace smu1:=fun (_:Unit)=>(smu1 ()).ext j117
  replace smu2:=fun (_:Unit)=>(smu2 ()).ext j117
  replace smu3:=fun (_:Unit)=>(smu3 ()).ext j117
  replace hp:=j117.at hp
  replace hl1:=j117.at hl1
  replace hS:=j117.2 K a _ hS
  replace eb:=eb.trans j117
  clear j117
  simp! only [and_true]
  rw [c_spDraw]
  refine ⟨hS,hl,⟨by decide,by decide⟩,by decide,fun dmu dmu0 dmu1=>?_⟩
  simp! only [and_true]
  refine optK_pick (fun v=>∃ (s:Addr) (w:Nat),v=.ref s∧1≤w∧StX t J117 s w room n) dmu0 (by show dmu < (3:Int);exact dmu1) (fun v hv=>?_) fun v hv=>?_
  ·simp only [List.mem_cons,List.not_mem_nil,or_false] at hv
   rcases hv with rfl|rfl|rfl
   ·exact ⟨_,_,rfl,by decide,smu1 ()⟩
   ·exact ⟨_,_,rfl,by decide,smu2 ()⟩
   ·exact ⟨_,_,rfl,by decide,smu3 ()⟩
  obtain ⟨much,wmuch,rfl,hwmuch,smuch⟩:=hv
  replace smuch:=fun (_:Unit)=>smuch
  clear smu1 smu2 smu3
  clear hLmu dmu0 dmu1
  clear vmv vbv vhv
  have rl:RowL t J117 []:=RowL.nil
  replace rl:=fun (_:Unit)=>rl
  simp! only [and_true]
  intro q20 J118 uq20 j118 hq20
  clear uq20
  replace sn:=fun (_:Unit)=>(sn ()).ext j118
  replace sn2:=fun (_:Unit)=>(sn2 ()).ext j118
  replace sfar:=fun (_:Unit)=>(sfar ()).ext j118
  replace smuch:=fun (_:Unit)=>(smuch ()).ext j118
  replace rl:=fun (_:Unit)=>(rl ()).ext j118
  replace hp:=j118.at hp
  replace hl1:=j118.at hl1
  replace hS:=j118.2 K a _ hS
  replace eb:=eb.trans j118
  clear j118
  simp! only [and_true]
  intro r20 J119 ur20 j119 hr20
  clear ur20
  replace sn:=fun (_:Unit)=>(sn ()).ext j119
  replace sn2:=fun (_:Unit)=>(sn2 ()).ext j119
  replace sfar:=fun (_:Unit)=>(sfar ()).ext j119
  replace smuch:=fun (_:Unit)=>(smuch ()).ext j119
  replace rl:=fun (_:Unit)=>(rl ()).ext j119
  replace hp:=j119.at hp
  replace hl1:=j119.at hl1
  replace hq20:=j119.at hq20
  replace hS:=j119.2 K a _ hS
  replace eb:=eb.trans j119
  clear j119
  have row0:RowT t J119 (.ref r20):=⟨r20,q20,_,_,_,_,_,_,_,_,_,rfl,hr20,hq20,sn (),sfar (),.inl ⟨(Nat.le_refl 1),hwfar,by omega⟩,.inl ⟨rfl,(Nat.le_refl 1),hwfar,by omega⟩⟩
  replace row0:=fun (_:Unit)=>row0
  clear hq20 hr20
  simp! only [and_true]
  intro q21 J120 uq21 j120 hq21
  clear uq21
  replace sn:=fun (_:Unit)=>(sn ()).ext j120
  replace sn2:=fun (_:Unit)=>(sn2 ()).ext j120
  replace sfar:=fun (_:Unit)=>(sfar ()).ext j120
  replace smuch:=fun (_:Unit)=>(smuch ()).ext j120
  replace rl:=fun (_:Unit)=>(rl ()).ext j120
  replace row0:=fun (_:Unit)=>(row0 ()).ext j120
  replace hp:=j120.at hp
  replace hl1:=j120.at hl1
  replace hS:=j120.2 K a _ hS
  replace eb:=eb.trans j120
  clear j120
  simp! only [and_true]
  intro r21 J121 ur21 j121 hr21
  clear ur21
  replace sn:=fun (_:Unit)=>(sn ()).ext j121
  replace sn2:=fun (_:Unit)=>(sn2 ()).ext j121
  replace sfar:=fun (_:Unit)=>(sfar ()).ext j121
  replace smuch:=fun (_:Unit)=>(smuch ()).ext j121
  replace rl:=fun (_:Unit)=>(rl ()).ext j121
  replace row0:=fun (_:Unit)=>(row0 ()).ext j121
  replace hp:=j121.at hp
  replace hl1:=j121.at hl1
  replace hq21:=j121.at hq21
  replace hS:=j121.2 K a _ hS
  replace eb:=eb.trans j121
  clear j121
  have row1:RowT t J121 (.ref r21):=⟨r21,q21,_,_,_,_,_,_,_,_,_,rfl,hr21,hq21,smuch (),sfar (),.inl ⟨hwmuch,hwfar,by omega⟩,.inl ⟨rfl,hwmuch,hwfar,by omega⟩⟩
  replace row1:=fun (_:Unit)=>row1
  clear hq21 hr21
  simp! only [and_true]
  intro q22 J122 uq22 j122 hq22
  clear uq22
  replace sn:=fun (_:Unit)=>(sn ()).ext j122
  replace sn2:=fun (_:Unit)=>(sn2 ()).ext j122
  replace sfar:=fun (_:Unit)=>(sfar ()).ext j122
  replace smuch:=fun (_:Unit)=>(smuch ()).ext j122
  replace rl:=fun (_:Unit)=>(rl ()).ext j122
  replace row0:=fun (_:Unit)=>(row0 ()).ext j122
  replace row1:=fun (_:Unit)=>(row1 ()).ext j122
  replace hp:=j122.at hp
  replace hl1:=j122.at hl1
  replace hS:=j122.2 K a _ hS
  replace eb:=eb.trans j122
  clear j122
  simp! only [and_true]
  intro r22 J123 ur22 j123 hr22
  clear ur22
  replace sn:=fun (_:Unit)=>(sn ()).ext j123
  replace sn2:=fun (_:Unit)=>(sn2 ()).ext j123
  replace sfar:=fun (_:Unit)=>(sfar ()).ext j123
  replace smuch:=fun (_:Unit)=>(smuch ()).ext j123
  replace rl:=fun (_:Unit)=>(rl ()).ext j123
  replace row0:=fun (_:Unit)=>(row0 ()).ext j123
  replace row1:=fun (_:Unit)=>(row1 ()).ext j123
  replace hp:=j123.at hp
  replace hl1:=j123.at hl1
  replace hq22:=j123.at hq22
  replace hS:=j123.2 K a _ hS
  replace eb:=eb.trans j123
  clear j123
  have row2:RowT t J123 (.ref r22):=⟨r22,q22,_,_,_,_,_,_,_,_,_,rfl,hr22,hq22,sn (),smuch (),.inr (.inr ⟨hwmuch,by omega⟩),.inr ⟨rfl,fun h=>absurd h (by omega)⟩⟩
  replace row2:=fun (_:Unit)=>row2
  clear hq22 hr22
  simp! only [and_true]
  intro q23 J124 uq23 j124 hq23
  clear uq23
  replace sn:=fun (_:Unit)=>(sn ()).ext j124
  replace sn2:=fun (_:Unit)=>(sn2 ()).ext j124
  replace sfar:=fun (_:Unit)=>(sfar ()).ext j124
  replace smuch:=fun (_:Unit)=>(smuch ()).ext j124
  replace rl:=fun (_:Unit)=>(rl ()).ext j124
  replace row0:=fun (_:Unit)=>(row0 ()).ext j124
  replace row1:=fun (_:Unit)=>(row1 ()).ext j124
  replace row2:=fun (_:Unit)=>(row2 ()).ext j124
  replace hp:=j124.at hp
  replace hl1:=j124.at hl1
  replace hS:=j124.2 K a _ hS
  replace eb:=eb.trans j124
  clear j124
  simp! only [and_true]
  intro r23 J125 ur23 j125 hr23
  clear ur23
  replace sn:=fun (_:Unit)=>(sn ()).ext j125
  replace sn2:=fun (_:Unit)=>(sn2 ()).ext j125
  replace sfar:=fun (_:Unit)=>(sfar ()).ext j125
  replace smuch:=fun (_:Unit)=>(smuch ()).ext j125
  replace rl:=fun (_:Unit)=>(rl ()).ext j125
  replace row0:=fun (_:Unit)=>(row0 ()).ext j125
  replace row1:=fun (_:Unit)=>(row1 ()).ext j125
  replace row2:=fun (_:Unit)=>(row2 ()).ext j125
  replace hp:=j125.at hp
  replace hl1:=j125.at hl1
  replace hq23:=j125.at hq23
  replace hS:=j125.2 K a _ hS
  replace eb:=eb.trans j125
  clear j125
  have row3:RowT t J125 (.ref r23):=⟨r23,q23,_,_,_,_,_,_,_,_,_,rfl,hr23,hq23,smuch (),smuch (),.inr (.inr ⟨hwmuch,by omega⟩),.inr ⟨rfl,fun h=>absurd h (by omega)⟩⟩
  replace row3:=fun (_:Unit)=>row3
  clear hq23 hr23
  simp! only [and_true]
  intro rr J126 urr j126 hrr
  clear urr
  replace sn:=fun (_:Unit)=>(sn ()).ext j126
  replace sn2:=fun (_:Unit)=>(sn2 ()).ext j126
  replace sfar:=fun (_:Unit)=>(sfar ()).ext j126
  replace smuch:=fun (_:Unit)=>(smuch ()).ext j126
  replace rl:=fun (_:Unit)=>(rl ()).ext j126
  replace row0:=fun (_:Unit)=>(row0 ()).ext j126
  replace row1:=fun (_:Unit)=>(row1 ()).ext j126
  replace row2:=fun (_:Unit)=>(row2 ()).ext j126
  replace row3:=fun (_:Unit)=>(row3 ()).ext j126
  replace hp:=j126.at hp
  replace hl1:=j126.at hl1
  replace hS:=j126.2 K a _ hS
  replace eb:=eb.trans j126
  clear j126
  have rowL:RowL t J126 [.ref r20,.ref r21,.ref r22,.ref r23]:=RowL.cons (row0 ()) (RowL.cons (row1 ()) (RowL.cons (row2 ()) (RowL.cons (row3 ()) RowL.nil)))
  replace rowL:=fun (_:Unit)=>rowL
  clear row0 row1 row2 row3 rl
  simp! only [and_true]
  intro st dx127 J127 hx127 hd127 hq127 j127 hst hh127
  clear hx127 hd127 hq127 hh127
  replace sn:=fun (_:Unit)=>(sn ()).ext j127
  replace sn2:=fun (_:Unit)=>(sn2 ()).ext j127
  replace sfar:=fun (_:Unit)=>(sfar ()).ext j127
  replace smuch:=fun (_:Unit)=>(smuch ()).ext j127
  replace rowL:=fun (_:Unit)=>(rowL ()).ext j127
  replace hp:=j127.at hp
  replace hl1:=j127.at hl1
  replace hrr:=j127.at hrr
  replace hS:=j127.2 K a _ hS
  replace eb:=eb.trans j127
  clear j127
  have sst:StX t J127 st 0 room n:=StX.zero hst
  replace sst:=fun (_:Unit)=>sst
  clear hst
  simp! only [and_true]
  intro q24 J128 uq24 j128 hq24
  clear uq24
  replace sn:=fun (_:Unit)=>(sn ()).ext j128
  replace sn2:=fun (_:Unit)=>(sn2 ()).ext j128
  replace sfar:=fun (_:Unit)=>(sfar ()).ext j128
  replace smuch:=fun (_:Unit)=>(smuch ()).ext j128
  replace rowL:=fun (_:Unit)=>(rowL ()).ext j128
  replace sst:=fun (_:Unit)=>(sst ()).ext j128
  replace hp:=j128.at hp
  replace hl1:=j128.at hl1
  replace hrr:=j128.at hrr
  replace hS:=j128.2 K a _ hS
  replace eb:=eb.trans j128
  clear j128
  simp! only [and_true]
  intro r24 J129 ur24 j129 hr24
  clear ur24
  replace sn:=fun (_:Unit)=>(sn ()).ext j129
  replace sn2:=fun (_:Unit)=>(sn2 ()).ext j129
  replace sfar:=fun (_:Unit)=>(sfar ()).ext j129
  replace smuch:=fun (_:Unit)=>(smuch ()).ext j129
  replace rowL:=fun (_:Unit)=>(rowL ()).ext j129
  replace sst:=fun (_:Unit)=>(sst ()).ext j129
  replace hp:=j129.at hp
  replace hl1:=j129.at hl1
  replace hrr:=j129.at hrr
  replace hq24:=j129.at hq24
  replace hS:=j129.2 K a _ hS
  replace eb:=eb.trans j129
  clear j129
  have row4:RowT t J129 (.ref r24):=⟨r24,q24,_,_,_,_,_,_,_,_,_,rfl,hr24,hq24,sst (),smuch (),.inr (.inr ⟨hwmuch,by omega⟩),.inr ⟨rfl,fun h=>absurd h (by omega)⟩⟩
  replace row4:=fun (_:Unit)=>row4
  clear hq24 hr24
  simp! only [and_true]
  intro r5 J130 ur5 j130 hr5
  clear ur5
  replace sn:=fun (_:Unit)=>(sn ()).ext j130
  replace sn2:=fun (_:Unit)=>(sn2 ()).ext j130
  replace sfar:=fun (_:Unit)=>(sfar ()).ext j130
  replace smuch:=fun (_:Unit)=>(smuch ()).ext j130
  replace rowL:=fun (_:Unit)=>(rowL ()).ext j130
  replace sst:=fun (_:Unit)=>(sst ()).ext j130
  replace row4:=fun (_:Unit)=>(row4 ()).ext j130
  replace hp:=j130.at hp
  replace hl1:=j130.at hl1
  replace hrr:=j130.at hrr
  replace hS:=j130.2 K a _ hS
  replace eb:=eb.trans j130
  clear j130
  refine use_cat hrr hr5 (len5000 (by simp)) ?_
  intro ra J131 _ j131 hra
  replace sn:=fun (_:Unit)=>(sn ()).ext j131
  replace sn2:=fun (_:Unit)=>(sn2 ()).ext j131
  replace sfar:=fun (_:Unit)=>(sfar ()).ext j131
  replace smuch:=fun (_:Unit)=>(smuch ()).ext j131
  replace rowL:=fun (_:Unit)=>(rowL ()).ext j131
  replace sst:=fun (_:Unit)=>(sst ()).ext j131
  replace row4:=fun (_:Unit)=>(row4 ()).ext j131
  replace hp:=j131.at hp
  replace hl1:=j131.at hl1
  replace hrr:=j131.at hrr
  replace hS:=j131.2 K a _ hS
  replace eb:=eb.trans j131
  obtain ⟨rs,hrs,rlAll⟩:∃ rs:List V,J131 ra=some (.lst rs)∧RowL t J131 rs:=⟨_,hra,(rowL ()).app (RowL.cons (row4 ()) RowL.nil)⟩
  replace rlAll:=fun (_:Unit)=>rlAll
  clear hra hr5 hrr rowL row4 sst j131 smuch sfar sn
  have eb0:=eb
  simp! only [and_true]
  refine for_lst (xs:=rs) (fun i σ H'=>∃ v11 v12:Option V,σ=[some (.ref a),some (.int room),some (.ref p),some (.int n),some (.ref mv),some (.ref bv),some (.ref hv),some (.ref nr),some (.ref far),some (.ref much),some (.ref rr),v11,v12]∧Ext J131 H') ⟨none,none,rfl,Ext.refl _⟩ (fun i σ H' _ ⟨_,_,_,e⟩=>e.at hrs) ?_ ?_
  ·clear kk
   rintro i y _ H1 hi ⟨v11,v12,rfl,e1⟩
   obtain ⟨p1,q1,s1,s2,wd,w1,w2,r1,n1,r2,n2,rfl,hp1,hq1,x1,x2,bad,hwd⟩:=(rlAll () y (List.mem_of_getElem? hi)).ext e1
   have sne:¬ (Str.ofString "pair"=Str.ofString "many"):=by decide +kernel
   clear hi
   rcases hwd with ⟨rfl,a1,a2,a3⟩|⟨rfl,a1⟩
   ·simp! only [↓m_kBody]
    rw [c_spTold]
    refine ⟨w1,w2,r1,n1,r2,n2,x1,x2,bad,fun _ H2 e2=>?_,fun h=>absurd ⟨a1,a2,a3⟩ h⟩
    have hq2:=e2.at hq1
    simp! only [and_true]
    rw [c_spTold]
    refine ⟨w2,w1,r2,n2,r1,n1,x2.ext e2,x1.ext e2,.inl ⟨a2,a1,fun e=>a3 e.symm⟩,fun _ H3 e3=>?_,fun h=>absurd ⟨a2,a1,fun e=>a3 e.symm⟩ h⟩
    have e13:=e1.trans (e2.trans e3)
    clear hq2 hp1 hq1 e2 e3
    simp! only [and_true]
    exact ⟨_,_,rfl,e13⟩
   ·simp! only [↓m_kBody]
    rw [c_spTold]
    refine ⟨w1,w2,r1,n1,r2,n2,x1,x2,bad,fun h=>absurd h a1,fun _ H2 e2=>?_⟩
    have hq2:=e2.at hq1
    have a1':¬ (1≤w2∧1≤w1∧r2 ≠ r1):=fun ⟨x,y,z⟩=>a1 ⟨y,x,fun e=>z e.symm⟩
    simp! only [and_true]
    rw [c_spTold]
    refine ⟨w2,w1,r2,n2,r1,n1,x2.ext e2,x1.ext e2,(bad.elim (fun h=>absurd h a1) fun h=>h.elim (fun h=>.inr (.inr h)) fun h=>.inr (.inl h)),fun h=>absurd h a1',fun _ H3 e3=>?_⟩
    have e13:=e1.trans (e2.trans e3)
    clear hq2 hp1 hq1 e2 e3 a1'
    simp! only [and_true]
    exact ⟨_,_,rfl,e13⟩
  ·rintro _ H1 ⟨v11,v12,rfl,e1⟩
   have sn3:=fun (_:Unit)=>(sn2 ()).ext e1
   have e01:=eb.trans e1
   clear hrs rlAll sn2
   simp! only [and_true]
   intro sa dxa H2 _ _ _ e2 hsa _
   have sn4:=fun (_:Unit)=>(sn3 ()).ext e2
   simp! only [and_true]
   refine use_clash (w1:=0) (a:=[]) (b:=[]) (StV.zero hsa) (sn4 ()) fun b3 H3 e3 hb3=>?_
   have hb:b3=false:=by
    cases b3 with
    | false=>rfl
    | true=>rcases hb3.mp rfl with ⟨c,h,_⟩|⟨c,_,h⟩<;>cases h
   subst hb
   clear hb3 sn3 sn4
   simp! only [and_true]
   intro sb dxb H4 _ _ _ e4 hsb _
   simp! only [and_true]
   intro sc dxc H5 _ _ _ e5 hsc _
   simp! only [and_true]
   refine use_clash (w1:=0) (w2:=0) (room:=0) (a:=[]) (b:=[]) (a':=[]) (b':=[]) (StV.zero (e5.at hsb)) (StV.zero hsc) fun b6 H6 e6 hb6=>?_
   have hb:b6=false:=by
    cases b6 with
    | false=>rfl
    | true=>rcases hb6.mp rfl with ⟨c,h,_⟩|⟨c,h,_⟩<;>cases h
   subst hb
   have k2:=kk () H6 (e01.trans (e2.trans (e3.trans (e4.trans (e5.trans e6)))))
   clear kk hb6
   simp! only [and_true]
   exact k2
theorem vwc_of {C:Addr}{H:Hp}{x:Addr}{room f:Int}{A:List (Int × Int)}(ax:Axes A) (pr:prodL (A.map fun a=>a.1)≤4096) (v:ViewAt C H x room f (A.map keptA)):VwC C H x room (cellsL f A):=⟨f,_,v,ax.kept,by rw [kept_sizes];exact pr,cells_kept f A fun a ha=>(ax.2 a ha).1⟩
theorem stv_fill {t:Adr}{H:Hp}{s dx u:Addr}{x:V}{room:Int}{cs:List Int}(h:H s=some (.ins t.a_Fill dx [("to",.ref u),("value",x)])) (v:VwC t.a_View H u room cs):StV t H s 1 room cs []:=⟨u,u,⟨by decide,dx,x,h⟩,(fun _=>v),fun q=>absurd q (by decide)⟩
theorem clc11 {a b a' b':List Int}:ClC 1 a b 1 a' b' ↔ MtP a a':=by
 constructor
 ·rintro (⟨c,h1,h2⟩|⟨c,_,h2⟩)
  ·exact ⟨c,h1,by have h3:c∈a'++[]:=h2;rw [List.append_nil] at h3;exact h3⟩
  ·cases h2
 ·rintro ⟨c,h1,h2⟩
  exact .inl ⟨c,h1,List.mem_append_left _ h2⟩
theorem wide_mem {cs:List Int}{a:Int × Int}{c:Int}:c∈wideL cs a ↔ ∃ d∈cs,∃ i:Nat,i < a.1.toNat∧c=d+(i:Int) * a.2:=by
 unfold wideL
 rw [List.mem_flatMap]
 constructor
 ·rintro ⟨d,hd,h⟩
  obtain ⟨i,hi,e⟩:=List.mem_map.mp h
  exact ⟨d,hd,i,List.mem_range.mp hi,e.symm⟩
 ·rintro ⟨d,hd,i,hi,e⟩
  exact ⟨d,hd,List.mem_map.mpr ⟨i,List.mem_range.mpr hi,e.symm⟩⟩
theorem cells0 {f c:Int}:c∈cellsL f [] ↔ c=f:=List.mem_singleton
theorem cells1 {f c:Int}{x:Int × Int}:c∈cellsL f [x] ↔ ∃ i:Nat,i < x.1.toNat∧c=f+(i:Int) * x.2:=by
 show c∈wideL [f] x ↔ _
 rw [wide_mem]
 constructor
 ·rintro ⟨d,hd,h⟩
  rw [List.mem_singleton.mp hd] at h
  exact h
 ·intro h
  exact ⟨f,List.mem_singleton.mpr rfl,h⟩
theorem cells2 {f c:Int}{x y:Int × Int}:c∈cellsL f [x,y] ↔ ∃ i j:Nat,i < x.1.toNat∧j < y.1.toNat∧c=f+(i:Int) * x.2+(j:Int) * y.2:=by
 show c∈wideL (wideL [f] x) y ↔ _
 rw [wide_mem]
 constructor
 ·rintro ⟨d,hd,j,hj,e⟩
  obtain ⟨i,hi,e'⟩:=cells1.mp (show d∈cellsL f [x] from hd)
  exact ⟨i,j,hi,hj,by rw [e,e']⟩
 ·rintro ⟨i,j,hi,hj,e⟩
  exact ⟨_,(cells1 (f:=f) (x:=x)).mpr ⟨i,hi,rfl⟩,j,hj,e⟩
theorem nil_ok {room f:Int}(hr:1≤room∧room≤1000000) (hf:0≤f∧f < room):ViewOk room f []:=⟨⟨by decide,fun a ha=>absurd ha List.not_mem_nil⟩,hr.1,by omega,by show 0≤f+0;omega,by show f+0 < room;omega⟩
theorem nil_ax:Axes ([]:List (Int × Int)):=⟨by decide,fun a ha=>absurd ha List.not_mem_nil⟩
def axO:List (Int × Int):=[(32,64),(64,1)]
def axP2:List (Int × Int):=[(64,1),(32,64)]
def axB:List (Int × Int):=[(64,-64),(64,-1)]
theorem mt_one_other:¬ MtP (cellsL 0 axO) (cellsL 2048 axP2):=by
 rintro ⟨c,h1,h2⟩
 obtain ⟨i,j,hi,hj,e⟩:=cells2.mp h1
 obtain ⟨i',j',hi',hj',e'⟩:=cells2.mp h2
 have a1:i < 32:=hi
 have a2:j < 64:=hj
 have b1:c=0+(i:Int) * 64+(j:Int) * 1:=e
 have b2:c=2048+(i':Int) * 1+(j':Int) * 64:=e'
 omega
theorem MtP.symm {a b:List Int}(h:MtP a b):MtP b a:=(let ⟨c,h1,h2⟩:=h;⟨c,h2,h1⟩)
theorem mt_both_one:MtP (cellsL 4095 axB) (cellsL 0 axO):=⟨0,(cells2 (f:=4095) (x:=(64,-64)) (y:=(64,-1))).mpr ⟨63,63,by decide,by decide,by decide⟩,(cells2 (f:=0) (x:=(32,64)) (y:=(64,1))).mpr ⟨0,0,by decide,by decide,by decide⟩⟩
theorem mt_other_both:MtP (cellsL 2048 axP2) (cellsL 4095 axB):=⟨2048,(cells2 (f:=2048) (x:=(64,1)) (y:=(32,64))).mpr ⟨0,0,by decide,by decide,by decide⟩,(cells2 (f:=4095) (x:=(64,-64)) (y:=(64,-1))).mpr ⟨31,63,by decide,by decide,by decide⟩⟩
theorem mt_both_both:MtP (cellsL 4095 axB) (cellsL 4095 axB):=⟨4095,(cells2 (f:=4095) (x:=(64,-64)) (y:=(64,-1))).mpr ⟨0,0,by decide,by decide,by decide⟩,(cells2 (f:=4095) (x:=(64,-64)) (y:=(64,-1))).mpr ⟨0,0,by decide,by decide,by decide⟩⟩
theorem okO:ViewOk 4096 0 axO:=⟨⟨by decide,by decide⟩,by decide,by decide,by decide,by decide⟩
theorem okP:ViewOk 4096 2048 axP2:=⟨⟨by decide,by decide⟩,by decide,by decide,by decide,by decide⟩
theorem okB:ViewOk 4096 4095 axB:=⟨⟨by decide,by decide⟩,by decide,by decide,by decide,by decide⟩
abbrev B_spKGreat (K:PySem.W.Frag) (a:Addr) (ns:List Int) (s:Addr) (room:Int) (H:Hp) (Q:VK) (E:XK):Prop:=s=a∧SqL K H a (ns.map V.int)∧ns.length≤63∧20≤room∧room≤60∧∀ H',Ext H H'->Q (.bl true) H'
def spKGreat (K:PySem.W.Frag) (a:Addr) (ns:List Int):Sp:=fun vs H Q E=>∃ (s:Addr) (room:Int),vs=[.ref s,.int room]∧(B_spKGreat K a ns s room H Q E)
theorem c_spKGreat (K:PySem.W.Frag) (a:Addr) (ns:List Int) (s:Addr) (room:Int) (H:Hp) (Q:VK) (E:XK):spKGreat K a ns [.ref s,.int room] H Q E=(B_spKGreat K a ns s room H Q E):=spx2 (f:=fun (s:Addr) (room:Int)=>[.ref s,.int room]) (fun _ _ _ _ h=>by cases h;exact ⟨rfl,rfl⟩) s room
theorem l_spKGreat (K:PySem.W.Frag) (a:Addr) (ns:List Int){vs:List V}{H:Hp}{Q:VK}{E:XK}(h:spKGreat K a ns vs H Q E):vs.length=2:=spl2 h fun _ _=>rfl
theorem ok__law_great (T:Tx K mg t) (a:Addr) (ns:List Int):FnOk P w K mg base CX0 8 t.a__law_great t.d__law_great ["_law_script", "_law_room"] (spKGreat K a ns):=by
 have G__law_draw:=ok__law_draw (P:=P) (w:=w) (base:=base) T a ns
 have G_View___init__:=ok_View___init__ (P:=P) (w:=w) (base:=base) T
 have G_Fill___init__:=ok_Fill___init__ (P:=P) (w:=w) (base:=base) T
 have G_clash:=ok_clash (P:=P) (w:=w) (base:=base) T
 refine T.F__law_great.ok c__law_great (fun vs H Q E h=>l_spKGreat _ _ _ h) (fun cdv A' outer s H vs Q E hr h=>?_)
 ·obtain ⟨_,room,rfl,rfl,hS,hl,hr0,hr1,kk⟩:=h
  rename_i a
  refine ⟨_,(@pss_cons _ _ _ _ _ (@ps_set _ _ (2) _ _ _ _ c__law_great.nd rfl (Or.inl rfl) (@pe_call _ _ _ _ _ _ _ _ _ _ _ _ _ _ _ _ G__law_draw (hr.mono (by decide)) (by rfl) T.m__law_draw T.F__law_draw.kp T.b__law_draw .nil pass0 (@pa_c _ _ _ _ _ (@pvN _ 0 _ _ (by rfl) (by trivial) (by decide) (by decide)) (@pa_c _ _ _ _ _ (@pe_int _ _ _ _) (@pa_c _ _ _ _ _ (@pvN _ 1 _ _ (by rfl) (by trivial) (by decide) (by decide)) (@pa_nil _) (by rfl)) (by rfl)) (by rfl)) (by decide) (by rfl) (by rfl)) (by rfl) (by trivial)) (@pss_cons _ _ _ _ _ (@ps_set _ _ (3) _ _ _ _ c__law_great.nd rfl (Or.inl rfl) (@pe_nMake _ _ _ _ _ _ _ _ _ _ _ _ _ _ _ _ _ T.mk_Fill G_Fill___init__ (hr.mono (by decide)) (by rfl) T.m_Fill T.b_Fill___init__ .nil pass0 (@pa_c _ _ _ _ _ (@pe_nMake _ _ _ _ _ _ _ _ _ _ _ _ _ _ _ _ _ T.mk_View G_View___init__ (hr.mono (by decide)) (by rfl) T.m_View T.b_View___init__ .nil pass0 (@pa_c _ _ _ _ _ (@pvN _ 1 _ _ (by rfl) (by trivial) (by decide) (by decide)) (@pa_c _ _ _ _ _ (@pvN _ 2 _ _ (by rfl) (by trivial) (by decide) (by decide)) (@pa_c _ _ _ _ _ (@pe_qLst _ _ _ _ (@pa_c _ _ _ _ _ (@pe_qTup _ _ _ _ _ (@pa_c _ _ _ _ _ (@pe_int _ _ _ _) (@pa_c _ _ _ _ _ (@pe_int _ _ _ _) (@pa_nil _) (by rfl)) (by rfl))) (@pa_nil _) (by rfl))) (@pa_nil _) (by rfl)) (by rfl)) (by rfl)) (by decide) (by rfl) (by rfl)) (@pa_c _ _ _ _ _ (@pe_int _ _ _ _) (@pa_nil _) (by rfl)) (by rfl)) (by decide) (by rfl) (by rfl)) (by rfl) (by trivial)) (@pss_cons _ _ _ _ _ (@ps_if _ _ _ _ _ _ _ _ (@pt_cmpRN _ _ _ _ _ _ _ _ op_nIsntB (@pe_call _ _ _ _ _ _ _ _ _ _ _ _ _ _ _ _ G_clash (hr.mono (by decide)) (by rfl) T.m_clash T.F_clash.kp T.b_clash .nil pass0 (@pa_c _ _ _ _ _ (@pvN _ 3 _ _ (by rfl) (by trivial) (by decide) (by decide)) (@pa_c _ _ _ _ _ (@pe_nMake _ _ _ _ _ _ _ _ _ _ _ _ _ _ _ _ _ T.mk_Fill G_Fill___init__ (hr.mono (by decide)) (by rfl) T.m_Fill T.b_Fill___init__ .nil pass0 (@pa_c _ _ _ _ _ (@pe_nMake _ _ _ _ _ _ _ _ _ _ _ _ _ _ _ _ _ T.mk_View G_View___init__ (hr.mono (by decide)) (by rfl) T.m_View T.b_View___init__ .nil pass0 (@pa_c _ _ _ _ _ (@pvN _ 1 _ _ (by rfl) (by trivial) (by decide) (by decide)) (@pa_c _ _ _ _ _ (@pvN _ 2 _ _ (by rfl) (by trivial) (by decide) (by decide)) (@pa_c _ _ _ _ _ (@pe_qLst _ _ _ _ (@pa_nil _)) (@pa_nil _) (by rfl)) (by rfl)) (by rfl)) (by decide) (by rfl) (by rfl)) (@pa_c _ _ _ _ _ (@pe_int _ _ _ _) (@pa_nil _) (by rfl)) (by rfl)) (by decide) (by rfl) (by rfl)) (@pa_nil _) (by rfl)) (by rfl)) (by decide) (by rfl) (by rfl)) (@pe_bl _ _ _ _) (nomark _)) (@pss_one _ _ _ (@ps_ret _ _ _ _ (@pe_bl _ _ _ _))) (@pss_nil _)) (@pss_cons _ _ _ _ _ (@ps_if _ _ _ _ _ _ _ _ (@pt_cmpRN _ _ _ _ _ _ _ _ op_nIsntB (@pe_call _ _ _ _ _ _ _ _ _ _ _ _ _ _ _ _ G_clash (hr.mono (by decide)) (by rfl) T.m_clash T.F_clash.kp T.b_clash .nil pass0 (@pa_c _ _ _ _ _ (@pe_nMake _ _ _ _ _ _ _ _ _ _ _ _ _ _ _ _ _ T.mk_Fill G_Fill___init__ (hr.mono (by decide)) (by rfl) T.m_Fill T.b_Fill___init__ .nil pass0 (@pa_c _ _ _ _ _ (@pe_nMake _ _ _ _ _ _ _ _ _ _ _ _ _ _ _ _ _ T.mk_View G_View___init__ (hr.mono (by decide)) (by rfl) T.m_View T.b_View___init__ .nil pass0 (@pa_c _ _ _ _ _ (@pvN _ 1 _ _ (by rfl) (by trivial) (by decide) (by decide)) (@pa_c _ _ _ _ _ (@pe_op _ _ _ _ _ _ _ _ on_mod (@pe_op _ _ _ _ _ _ _ _ on_add (@pvN _ 2 _ _ (by rfl) (by trivial) (by decide) (by decide)) (@pe_int _ _ _ _)) (@pvN _ 1 _ _ (by rfl) (by trivial) (by decide) (by decide))) (@pa_c _ _ _ _ _ (@pe_qLst _ _ _ _ (@pa_nil _)) (@pa_nil _) (by rfl)) (by rfl)) (by rfl)) (by decide) (by rfl) (by rfl)) (@pa_c _ _ _ _ _ (@pe_int _ _ _ _) (@pa_nil _) (by rfl)) (by rfl)) (by decide) (by rfl) (by rfl)) (@pa_c _ _ _ _ _ (@pvN _ 3 _ _ (by rfl) (by trivial) (by decide) (by decide)) (@pa_nil _) (by rfl)) (by rfl)) (by decide) (by rfl) (by rfl)) (@pe_bl _ _ _ _) (nomark _)) (@pss_one _ _ _ (@ps_ret _ _ _ _ (@pe_bl _ _ _ _))) (@pss_nil _)) (@pss_cons _ _ _ _ _ (@ps_if _ _ _ _ _ _ _ _ (@pt_cmpRN _ _ _ _ _ _ _ _ (op_qNe hr.units) (@pe_call _ _ _ _ _ _ _ _ _ _ _ _ _ _ _ _ G__law_draw (hr.mono (by decide)) (by rfl) T.m__law_draw T.F__law_draw.kp T.b__law_draw .nil pass0 (@pa_c _ _ _ _ _ (@pvN _ 0 _ _ (by rfl) (by trivial) (by decide) (by decide)) (@pa_c _ _ _ _ _ (@pe_int _ _ _ _) (@pa_c _ _ _ _ _ (@pe_int _ _ _ _) (@pa_nil _) (by rfl)) (by rfl)) (by rfl)) (by decide) (by rfl) (by rfl)) (@pe_int _ _ _ _) (nomark _)) (@pss_one _ _ _ (@ps_ret _ _ _ _ (@pe_bl _ _ _ _))) (@pss_nil _)) (@pss_cons _ _ _ _ _ (@ps_set _ _ (4) _ _ _ _ c__law_great.nd rfl (Or.inl rfl) (@pe_nMake _ _ _ _ _ _ _ _ _ _ _ _ _ _ _ _ _ T.mk_Fill G_Fill___init__ (hr.mono (by decide)) (by rfl) T.m_Fill T.b_Fill___init__ .nil pass0 (@pa_c _ _ _ _ _ (@pe_nMake _ _ _ _ _ _ _ _ _ _ _ _ _ _ _ _ _ T.mk_View G_View___init__ (hr.mono (by decide)) (by rfl) T.m_View T.b_View___init__ .nil pass0 (@pa_c _ _ _ _ _ (@pe_int _ _ _ _) (@pa_c _ _ _ _ _ (@pe_int _ _ _ _) (@pa_c _ _ _ _ _ (@pe_qLst _ _ _ _ (@pa_c _ _ _ _ _ (@pe_qTup _ _ _ _ _ (@pa_c _ _ _ _ _ (@pe_int _ _ _ _) (@pa_c _ _ _ _ _ (@pe_int _ _ _ _) (@pa_nil _) (by rfl)) (by rfl))) (@pa_c _ _ _ _ _ (@pe_qTup _ _ _ _ _ (@pa_c _ _ _ _ _ (@pe_int _ _ _ _) (@pa_c _ _ _ _ _ (@pe_int _ _ _ _) (@pa_nil _) (by rfl)) (by rfl))) (@pa_nil _) (by rfl)) (by rfl))) (@pa_nil _) (by rfl)) (by rfl)) (by rfl)) (by decide) (by rfl) (by rfl)) (@pa_c _ _ _ _ _ (@pe_int _ _ _ _) (@pa_nil _) (by rfl)) (by rfl)) (by decide) (by rfl) (by rfl)) (by rfl) (by trivial)) (@pss_cons _ _ _ _ _ (@ps_set _ _ (5) _ _ _ _ c__law_great.nd rfl (Or.inl rfl) (@pe_nMake _ _ _ _ _ _ _ _ _ _ _ _ _ _ _ _ _ T.mk_Fill G_Fill___init__ (hr.mono (by decide)) (by rfl) T.m_Fill T.b_Fill___init__ .nil pass0 (@pa_c _ _ _ _ _ (@pe_nMake _ _ _ _ _ _ _ _ _ _ _ _ _ _ _ _ _ T.mk_View G_View___init__ (hr.mono (by decide)) (by rfl) T.m_View T.b_View___init__ .nil pass0 (@pa_c _ _ _ _ _ (@pe_int _ _ _ _) (@pa_c _ _ _ _ _ (@pe_int _ _ _ _) (@pa_c _ _ _ _ _ (@pe_qLst _ _ _ _ (@pa_c _ _ _ _ _ (@pe_qTup _ _ _ _ _ (@pa_c _ _ _ _ _ (@pe_int _ _ _ _) (@pa_c _ _ _ _ _ (@pe_int _ _ _ _) (@pa_nil _) (by rfl)) (by rfl))) (@pa_c _ _ _ _ _ (@pe_qTup _ _ _ _ _ (@pa_c _ _ _ _ _ (@pe_int _ _ _ _) (@pa_c _ _ _ _ _ (@pe_int _ _ _ _) (@pa_nil _) (by rfl)) (by rfl))) (@pa_nil _) (by rfl)) (by rfl))) (@pa_nil _) (by rfl)) (by rfl)) (by rfl)) (by decide) (by rfl) (by rfl)) (@pa_c _ _ _ _ _ (@pe_int _ _ _ _) (@pa_nil _) (by rfl)) (by rfl)) (by decide) (by rfl) (by rfl)) (by rfl) (by trivial)) (@pss_cons _ _ _ _ _ (@ps_set _ _ (6) _ _ _ _ c__law_great.nd rfl (Or.inl rfl) (@pe_nMake _ _ _ _ _ _ _ _ _ _ _ _ _ _ _ _ _ T.mk_Fill G_Fill___init__ (hr.mono (by decide)) (by rfl) T.m_Fill T.b_Fill___init__ .nil pass0 (@pa_c _ _ _ _ _ (@pe_nMake _ _ _ _ _ _ _ _ _ _ _ _ _ _ _ _ _ T.mk_View G_View___init__ (hr.mono (by decide)) (by rfl) T.m_View T.b_View___init__ .nil pass0 (@pa_c _ _ _ _ _ (@pe_int _ _ _ _) (@pa_c _ _ _ _ _ (@pe_int _ _ _ _) (@pa_c _ _ _ _ _ (@pe_qLst _ _ _ _ (@pa_c _ _ _ _ _ (@pe_qTup _ _ _ _ _ (@pa_c _ _ _ _ _ (@pe_int _ _ _ _) (@pa_c _ _ _ _ _ (@pe_un _ _ _ _ _ _ un_negN (@pe_int _ _ _ _)) (@pa_nil _) (by rfl)) (by rfl))) (@pa_c _ _ _ _ _ (@pe_qTup _ _ _ _ _ (@pa_c _ _ _ _ _ (@pe_int _ _ _ _) (@pa_c _ _ _ _ _ (@pe_un _ _ _ _ _ _ un_negN (@pe_int _ _ _ _)) (@pa_nil _) (by rfl)) (by rfl))) (@pa_nil _) (by rfl)) (by rfl))) (@pa_nil _) (by rfl)) (by rfl)) (by rfl)) (by decide) (by rfl) (by rfl)) (@pa_c _ _ _ _ _ (@pe_int _ _ _ _) (@pa_nil _) (by rfl)) (by rfl)) (by decide) (by rfl) (by rfl)) (by rfl) (by trivial)) (@pss_cons _ _ _ _ _ (@ps_if _ _ _ _ _ _ _ _ (PW.pt (@pw_or _ _ _ _ _ _ _ (@pt_cmpRN _ _ _ _ _ _ _ _ op_nIsntB (@pe_call _ _ _ _ _ _ _ _ _ _ _ _ _ _ _ _ G_clash (hr.mono (by decide)) (by rfl) T.m_clash T.F_clash.kp T.b_clash .nil pass0 (@pa_c _ _ _ _ _ (@pvN _ 4 _ _ (by rfl) (by trivial) (by decide) (by decide)) (@pa_c _ _ _ _ _ (@pvN _ 5 _ _ (by rfl) (by trivial) (by decide) (by decide)) (@pa_nil _) (by rfl)) (by rfl)) (by decide) (by rfl) (by rfl)) (@pe_bl _ _ _ _) (nomark _)) (@pw_or1 _ _ _ _ (@pt_cmpRN _ _ _ _ _ _ _ _ op_nIsntB (@pe_call _ _ _ _ _ _ _ _ _ _ _ _ _ _ _ _ G_clash (hr.mono (by decide)) (by rfl) T.m_clash T.F_clash.kp T.b_clash .nil pass0 (@pa_c _ _ _ _ _ (@pvN _ 5 _ _ (by rfl) (by trivial) (by decide) (by decide)) (@pa_c _ _ _ _ _ (@pvN _ 4 _ _ (by rfl) (by trivial) (by decide) (by decide)) (@pa_nil _) (by rfl)) (by rfl)) (by decide) (by rfl) (by rfl)) (@pe_bl _ _ _ _) (nomark _))))) (@pss_one _ _ _ (@ps_ret _ _ _ _ (@pe_bl _ _ _ _))) (@pss_nil _)) (@pss_one _ _ _ (@ps_ret _ _ _ _ (@pe_andN _ _ _ _ _ _ _ (@pe_cmpR _ _ _ _ _ _ _ _ op_nIsB (@pe_call _ _ _ _ _ _ _ _ _ _ _ _ _ _ _ _ G_clash (hr.mono (by decide)) (by rfl) T.m_clash T.F_clash.kp T.b_clash .nil pass0 (@pa_c _ _ _ _ _ (@pvN _ 6 _ _ (by rfl) (by trivial) (by decide) (by decide)) (@pa_c _ _ _ _ _ (@pvN _ 4 _ _ (by rfl) (by trivial) (by decide) (by decide)) (@pa_nil _) (by rfl)) (by rfl)) (by decide) (by rfl) (by rfl)) (@pe_bl _ _ _ _) (nomark _)) (@pe_andN _ _ _ _ _ _ _ (@pe_cmpR _ _ _ _ _ _ _ _ op_nIsB (@pe_call _ _ _ _ _ _ _ _ _ _ _ _ _ _ _ _ G_clash (hr.mono (by decide)) (by rfl) T.m_clash T.F_clash.kp T.b_clash .nil pass0 (@pa_c _ _ _ _ _ (@pvN _ 5 _ _ (by rfl) (by trivial) (by decide) (by decide)) (@pa_c _ _ _ _ _ (@pvN _ 6 _ _ (by rfl) (by trivial) (by decide) (by decide)) (@pa_nil _) (by rfl)) (by rfl)) (by decide) (by rfl) (by rfl)) (@pe_bl _ _ _ _) (nomark _)) (@pe_one _ _ _ _ _ (@pe_cmpR _ _ _ _ _ _ _ _ op_nIsB (@pe_call _ _ _ _ _ _ _ _ _ _ _ _ _ _ _ _ G_clash (hr.mono (by decide)) (by rfl) T.m_clash T.F_clash.kp T.b_clash .nil pass0 (@pa_c _ _ _ _ _ (@pvN _ 6 _ _ (by rfl) (by trivial) (by decide) (by decide)) (@pa_c _ _ _ _ _ (@pvN _ 6 _ _ (by rfl) (by trivial) (by decide) (by decide)) (@pa_nil _) (by rfl)) (by rfl)) (by decide) (by rfl) (by rfl)) (@pe_bl _ _ _ _) (nomark _)))))))))))))))),?_⟩
  rw [show start ["_law_script", "_law_room", "_law_at", "_law_tall", "_law_one", "_law_other", "_law_both"] [.ref a,.int room]=[some (.ref a),some (.int room),none,none,none,none,none] from rfl]
  clear G__law_draw G_View___init__ G_Fill___init__ G_clash
  replace kk:=fun (_:Unit)=>kk
  have hrp:0 < room:=by omega
  simp! only [and_true]
  rw [c_spDraw]
  refine ⟨hS,hl,⟨by decide,by decide⟩,by omega,fun d d0 d1=>?_⟩
  have eb:=Ext.refl H
  simp! only [and_true]
  intro tat0 J101 utat0 j101 htat0
  clear utat0
  replace hS:=j101.2 K a _ hS
  replace eb:=eb.trans j101
  clear j101
  simp! only [and_true]
  intro tal J102 utal j102 htal
  clear utal
  replace htat0:=j102.at htat0
  replace hS:=j102.2 K a _ hS
  replace eb:=eb.trans j102
  clear j102
  have tA:TupsAt J102 tal (axL [(4096,0)]):=⟨_,htal,(Al.cons' ⟨tat0,rfl,htat0⟩ Al.nil)⟩
  clear htal htat0
  simp! only [and_true]
  intro tav dx103 G103 hx103 hd103 hq103 g103 k103 kk103
  rw [c_spVInit]
  refine ⟨dx103,[(4096,0)],k103,TupsAt.ext tA g103,one_ok (p:=0) ⟨by omega,by omega⟩ ⟨d0,d1⟩ ⟨by decide,by decide⟩,fun J103 D103 gg103 hD103 hx103' tt103=>?_⟩
  have j103:=gg103 J102 g103 hx103
  have vtav:ViewAt t.a_View J103 tav room d ([(4096,0)].map keptA):=⟨dx103,D103,hx103',tt103⟩
  replace vtav:=fun (_:Unit)=>vtav
  clear k103 kk103 hx103 hd103 hq103 g103 gg103 hD103 hx103' tt103
  replace hS:=j103.2 K a _ hS
  replace eb:=eb.trans j103
  clear j103
  clear tA
  simp! only [and_true]
  intro tas dx104 G104 hx104 hd104 hq104 g104 k104 kk104
  rw [c_spFInit]
  refine ⟨dx104,k104,fun J104 gg104 htas=>?_⟩
  have j104:=gg104 J103 g104 hx104
  clear k104 kk104 hx104 hd104 hq104 g104 gg104
  replace vtav:=fun (_:Unit)=>(vtav ()).ext j104
  replace hS:=j104.2 K a _ hS
  replace eb:=eb.trans j104
  clear j104
  have sta:StV t J104 tas 1 room (cellsL d [(4096,0)]) []:=stv_fill htas (vwc_of ⟨by simp,fun a ha=>by rw [List.mem_singleton.mp ha];exact ⟨by decide,by decide⟩⟩ (by decide) (vtav ()))
  replace sta:=fun (_:Unit)=>sta
  clear htas
  clear vtav
  simp! only [and_true]
  intro tbl J105 utbl j105 htbl
  clear utbl
  replace sta:=fun (_:Unit)=>(sta ()).ext j105
  replace hS:=j105.2 K a _ hS
  replace eb:=eb.trans j105
  clear j105
  have tA:TupsAt J105 tbl (axL []):=⟨_,htbl,Al.nil⟩
  clear htbl
  simp! only [and_true]
  intro tbv dx106 G106 hx106 hd106 hq106 g106 k106 kk106
  rw [c_spVInit]
  refine ⟨dx106,[],k106,TupsAt.ext tA g106,nil_ok ⟨by omega,by omega⟩ ⟨d0,d1⟩,fun J106 D106 gg106 hD106 hx106' tt106=>?_⟩
  have j106:=gg106 J105 g106 hx106
  have vtbv:ViewAt t.a_View J106 tbv room d ([].map keptA):=⟨dx106,D106,hx106',tt106⟩
  replace vtbv:=fun (_:Unit)=>vtbv
  clear k106 kk106 hx106 hd106 hq106 g106 gg106 hD106 hx106' tt106
  replace sta:=fun (_:Unit)=>(sta ()).ext j106
  replace hS:=j106.2 K a _ hS
  replace eb:=eb.trans j106
  clear j106
  clear tA
  simp! only [and_true]
  intro tbs dx107 G107 hx107 hd107 hq107 g107 k107 kk107
  rw [c_spFInit]
  refine ⟨dx107,k107,fun J107 gg107 htbs=>?_⟩
  have j107:=gg107 J106 g107 hx107
  clear k107 kk107 hx107 hd107 hq107 g107 gg107
  replace sta:=fun (_:Unit)=>(sta ()).ext j107
  replace vtbv:=fun (_:Unit)=>(vtbv ()).ext j107
  replace hS:=j107.2 K a _ hS
  replace eb:=eb.trans j107
  clear j107
  have stb:StV t J107 tbs 1 room (cellsL d []) []:=stv_fill htbs (vwc_of nil_ax (by decide) (vtbv ()))
  replace stb:=fun (_:Unit)=>stb
  clear htbs
  clear vtbv
  simp! only [and_true]
  refine use_clash (E:=E0) (sta ()) (stb ()) fun b108 J108 j108 hb108=>?_
  rw [clc11] at hb108
  have hbt:b108=true:=hb108.mpr ⟨d,cells1.mpr ⟨0,by decide,by show d=d+((0:Nat):Int) * 0;omega⟩,cells0.mpr rfl⟩
  subst hbt
  clear hb108
  replace sta:=fun (_:Unit)=>(sta ()).ext j108
  replace stb:=fun (_:Unit)=>(stb ()).ext j108
  replace hS:=j108.2 K a _ hS
  replace eb:=eb.trans j108
  clear j108
  clear stb
  obtain ⟨d2,hd2⟩:∃ d2,(d+1) % room=d2:=⟨_,rfl⟩
  have d20:0≤d2∧d2 < room:=by rw [←hd2];exact ⟨Int.emod_nonneg _ (by omega),Int.emod_lt_of_pos _ hrp⟩
  have d2n:d2 ≠ d:=by
   rw [←hd2]
   by_cases hq:d+1 < room
   ·rw [Int.emod_eq_of_lt (by omega) hq];omega
   ·have:d+1=room:=by omega
    rw [this,Int.emod_self];omega
  replace d2n:=fun (_:Unit)=>d2n
  simp! only [and_true]
  intro tcl J109 utcl j109 htcl
  clear utcl
  replace sta:=fun (_:Unit)=>(sta ()).ext j109
  replace hS:=j109.2 K a _ hS
  replace eb:=eb.trans j109
  clear j109
  have tA:TupsAt J109 tcl (axL []):=⟨_,htcl,Al.nil⟩
  clear htcl
  simp! only [and_true]
  intro tcv dx110 G110 hx110 hd110 hq110 g110 k110 kk110
  rw [c_spVInit]
  refine ⟨dx110,[],k110,TupsAt.ext tA g110,nil_ok ⟨by omega,by omega⟩ d20,fun J110 D110 gg110 hD110 hx110' tt110=>?_⟩
  have j110:=gg110 J109 g110 hx110
  have vtcv:ViewAt t.a_View J110 tcv room d2 ([].map keptA):=⟨dx110,D110,hx110',tt110⟩
  replace vtcv:=fun (_:Unit)=>vtcv
  clear k110 kk110 hx110 hd110 hq110 g110 gg110 hD110 hx110' tt110
  replace sta:=fun (_:Unit)=>(sta ()).ext j110
  replace hS:=j110.2 K a _ hS
  replace eb:=eb.trans j110
  clear j110
  clear tA
  simp! only [and_true]
  intro tcs dx111 G111 hx111 hd111 hq111 g111 k111 kk111
  rw [c_spFInit]
  refine ⟨dx111,k111,fun J111 gg111 htcs=>?_⟩
  have j111:=gg111 J110 g111 hx111
  clear k111 kk111 hx111 hd111 hq111 g111 gg111
  replace sta:=fun (_:Unit)=>(sta ()).ext j111
  replace vtcv:=fun (_:Unit)=>(vtcv ()).ext j111
  replace hS:=j111.2 K a _ hS
  replace eb:=eb.trans j111
  clear j111
  have stc:StV t J111 tcs 1 room (cellsL d2 []) []:=stv_fill htcs (vwc_of nil_ax (by decide) (vtcv ()))
  replace stc:=fun (_:Unit)=>stc
  clear htcs
  clear vtcv
  clear hd2
  simp! only [and_true]
  refine use_clash (E:=E0) (stc ()) (sta ()) fun b112 J112 j112 hb112=>?_
  rw [clc11] at hb112
  have hbt:b112=false:=by
   cases b112 with
   | false=>rfl
   | true=>exact absurd (hb112.mp rfl) (by rintro ⟨c,h1,h2⟩;rw [cells0.mp h1] at h2;obtain ⟨i,_,e⟩:=cells1.mp h2;have e2:d2=d+(i:Int) * 0:=e;have:=d2n ();omega)
  subst hbt
  clear hb112
  replace sta:=fun (_:Unit)=>(sta ()).ext j112
  replace stc:=fun (_:Unit)=>(stc ()).ext j112
  replace hS:=j112.2 K a _ hS
  replace eb:=eb.trans j112
  clear j112
  clear stc sta
  clear d2n d20 d0 d1
  simp! only [and_true]
  rw [c_spDraw]
  refine ⟨hS,hl,⟨by decide,by decide⟩,by decide,fun d3 d30 d31=>?_⟩
  by_cases hd3:¬ (d3=1)
  ·have k2:=kk () J112 eb
   clear kk
   simp! only [and_true]
  replace hd3:d3=1:=Decidable.not_not.mp hd3
  simp! only [and_true]
  intro tot0 J113 utot0 j113 htot0
  clear utot0
  replace hS:=j113.2 K a _ hS
  replace eb:=eb.trans j113
  clear j113
  simp! only [and_true]
  intro tot1 J114 utot1 j114 htot1
  clear utot1
  replace htot0:=j114.at htot0
  replace hS:=j114.2 K a _ hS
  replace eb:=eb.trans j114
  clear j114
  simp! only [and_true]
  intro tol J115 utol j115 htol
  clear utol
  replace htot0:=j115.at htot0
  replace htot1:=j115.at htot1
  replace hS:=j115.2 K a _ hS
  replace eb:=eb.trans j115
  clear j115
  have tA:TupsAt J115 tol (axL axO):=⟨_,htol,(Al.cons' ⟨tot0,rfl,htot0⟩ (Al.cons' ⟨tot1,rfl,htot1⟩ Al.nil))⟩
  clear htol htot0 htot1
  simp! only [and_true]
  intro tov dx116 G116 hx116 hd116 hq116 g116 k116 kk116
  rw [c_spVInit]
  refine ⟨dx116,axO,k116,TupsAt.ext tA g116,okO,fun J116 D116 gg116 hD116 hx116' tt116=>?_⟩
  have j116:=gg116 J115 g116 hx116
  have vtov:ViewAt t.a_View J116 tov 4096 0 (axO.map keptA):=⟨dx116,D116,hx116',tt116⟩
  replace vtov:=fun (_:Unit)=>vtov
  clear k116 kk116 hx116 hd116 hq116 g116 gg116 hD116 hx116' tt116
  replace hS:=j116.2 K a _ hS
  replace eb:=eb.trans j116
  clear j116
  clear tA
  simp! only [and_true]
  intro tos dx117 G117 hx117 hd117 hq117 g117 k117 kk117
  rw [c_spFInit]
  refine ⟨dx117,k117,fun J117 gg117 htos=>?_⟩
  have j117:=gg117 J116 g117 hx117
  clear k117 kk117 hx117 hd117 hq117 g117 gg117
  replace vtov:=fun (_:Unit)=>(vtov ()).ext j117
  replace hS:=j117.2 K a _ hS
  replace eb:=eb.trans j117
  clear j117
  have sto:StV t J117 tos 1 4096 (cellsL 0 axO) []:=stv_fill htos (vwc_of okO.ax (by decide) (vtov ()))
  replace sto:=fun (_:Unit)=>sto
  clear htos
  clear vtov
  simp! only [and_true]
  intro tpt0 J118 utpt0 j118 htpt0
  clear utpt0
  replace sto:=fun (_:Unit)=>(sto ()).ext j118
  replace hS:=j118.2 K a _ hS
  replace eb:=eb.trans j118
  clear j118
  simp! only [and_true]
  intro tpt1 J119 utpt1 j119 htpt1
  clear utpt1
  replace sto:=fun (_:Unit)=>(sto ()).ext j119
  replace htpt0:=j119.at htpt0
  replace hS:=j119.2 K a _ hS
  replace eb:=eb.trans j119
  clear j119
  simp! only [and_true]
  intro tpl J120 utpl j120 htpl
  clear utpl
  replace sto:=fun (_:Unit)=>(sto ()).ext j120
  replace htpt0:=j120.at htpt0
  replace htpt1:=j120.at htpt1
  replace hS:=j120.2 K a _ hS
  replace eb:=eb.trans j120
  clear j120
  have tA:TupsAt J120 tpl (axL axP2):=⟨_,htpl,(Al.cons' ⟨tpt0,rfl,htpt0⟩ (Al.cons' ⟨tpt1,rfl,htpt1⟩ Al.nil))⟩
  clear htpl htpt0 htpt1
  simp! only [and_true]
  intro tpv dx121 G121 hx121 hd121 hq121 g121 k121 kk121
  rw [c_spVInit]
  refine ⟨dx121,axP2,k121,TupsAt.ext tA g121,okP,fun J121 D121 gg121 hD121 hx121' tt121=>?_⟩
  have j121:=gg121 J120 g121 hx121
  have vtpv:ViewAt t.a_View J121 tpv 4096 2048 (axP2.map keptA):=⟨dx121,D121,hx121',tt121⟩
  replace vtpv:=fun (_:Unit)=>vtpv
  clear k121 kk121 hx121 hd121 hq121 g121 gg121 hD121 hx121' tt121
  replace sto:=fun (_:Unit)=>(sto ()).ext j121
  replace hS:=j121.2 K a _ hS
  replace eb:=eb.trans j121
  clear j121
  clear tA
  simp! only [and_true]
  intro tps dx122 G122 hx122 hd122 hq122 g122 k122 kk122
  rw [c_spFInit]
  refine ⟨dx122,k122,fun J122 gg122 htps=>?_⟩
  have j122:=gg122 J121 g122 hx122
  clear k122 kk122 hx122 hd122 hq122 g122 gg122
  replace sto:=fun (_:Unit)=>(sto ()).ext j122
  replace vtpv:=fun (_:Unit)=>(vtpv ()).ext j122
  replace hS:=j122.2 K a _ hS
  replace eb:=eb.trans j122
  clear j122
  have stp:StV t J122 tps 1 4096 (cellsL 2048 axP2) []:=stv_fill htps (vwc_of okP.ax (by decide) (vtpv ()))
  replace stp:=fun (_:Unit)=>stp
  clear htps
  clear vtpv
  simp! only [and_true]
  intro tqt0 J123 utqt0 j123 htqt0
  clear utqt0
  replace sto:=fun (_:Unit)=>(sto ()).ext j123
  replace stp:=fun (_:Unit)=>(stp ()).ext j123
  replace hS:=j123.2 K a _ hS
  replace eb:=eb.trans j123
  clear j123
  simp! only [and_true]
  intro tqt1 J124 utqt1 j124 htqt1
  clear utqt1
  replace sto:=fun (_:Unit)=>(sto ()).ext j124
  replace stp:=fun (_:Unit)=>(stp ()).ext j124
  replace htqt0:=j124.at htqt0
  replace hS:=j124.2 K a _ hS
  replace eb:=eb.trans j124
  clear j124
  simp! only [and_true]
  intro tql J125 utql j125 htql
  clear utql
  replace sto:=fun (_:Unit)=>(sto ()).ext j125
  replace stp:=fun (_:Unit)=>(stp ()).ext j125
  replace htqt0:=j125.at htqt0
  replace htqt1:=j125.at htqt1
  replace hS:=j125.2 K a _ hS
  replace eb:=eb.trans j125
  clear j125
  have tA:TupsAt J125 tql (axL axB):=⟨_,htql,(Al.cons' ⟨tqt0,rfl,htqt0⟩ (Al.cons' ⟨tqt1,rfl,htqt1⟩ Al.nil))⟩
  clear htql htqt0 htqt1
  simp! only [and_true]
  intro tqv dx126 G126 hx126 hd126 hq126 g126 k126 kk126
  rw [c_spVInit]
  refine ⟨dx126,axB,k126,TupsAt.ext tA g126,okB,fun J126 D126 gg126 hD126 hx126' tt126=>?_⟩
  have j126:=gg126 J125 g126 hx126
  have vtqv:ViewAt t.a_View J126 tqv 4096 4095 (axB.map keptA):=⟨dx126,D126,hx126',tt126⟩
  replace vtqv:=fun (_:Unit)=>vtqv
  clear k126 kk126 hx126 hd126 hq126 g126 gg126 hD126 hx126' tt126
  replace sto:=fun (_:Unit)=>(sto ()).ext j126
  replace stp:=fun (_:Unit)=>(stp ()).ext j126
  replace hS:=j126.2 K a _ hS
  replace eb:=eb.trans j126
  clear j126
  clear tA
  simp! only [and_true]
  intro tqs dx127 G127 hx127 hd127 hq127 g127 k127 kk127
  rw [c_spFInit]
  refine ⟨dx127,k127,fun J127 gg127 htqs=>?_⟩
  have j127:=gg127 J126 g127 hx127
  clear k127 kk127 hx127 hd127 hq127 g127 gg127
  replace sto:=fun (_:Unit)=>(sto ()).ext j127
  replace stp:=fun (_:Unit)=>(stp ()).ext j127
  replace vtqv:=fun (_:Unit)=>(vtqv ()).ext j127
  replace hS:=j127.2 K a _ hS
  replace eb:=eb.trans j127
  clear j127
  have stq:StV t J127 tqs 1 4096 (cellsL 4095 axB) []:=stv_fill htqs (vwc_of okB.ax (by decide) (vtqv ()))
  replace stq:=fun (_:Unit)=>stq
  clear htqs
  clear vtqv
  simp! only [and_true]
  refine use_clash (E:=E0) (sto ()) (stp ()) fun b128 J128 j128 hb128=>?_
  rw [clc11] at hb128
  have hbt:b128=false:=by
   cases b128 with
   | false=>rfl
   | true=>exact absurd (hb128.mp rfl) mt_one_other
  subst hbt
  clear hb128
  replace sto:=fun (_:Unit)=>(sto ()).ext j128
  replace stp:=fun (_:Unit)=>(stp ()).ext j128
  replace stq:=fun (_:Unit)=>(stq ()).ext j128
  replace hS:=j128.2 K a _ hS
  replace eb:=eb.trans j128
  clear j128
  simp! only [and_true]
  refine use_clash (E:=E0) (stp ()) (sto ()) fun b129 J129 j129 hb129=>?_
  rw [clc11] at hb129
  have hbt:b129=false:=by
   cases b129 with
   | false=>rfl
   | true=>exact absurd (hb129.mp rfl) (fun h=>mt_one_other h.symm)
  subst hbt
  clear hb129
  replace sto:=fun (_:Unit)=>(sto ()).ext j129
  replace stp:=fun (_:Unit)=>(stp ()).ext j129
  replace stq:=fun (_:Unit)=>(stq ()).ext j129
  replace hS:=j129.2 K a _ hS
  replace eb:=eb.trans j129
  clear j129
  simp! only [and_true]
  refine use_clash (E:=E0) (stq ()) (sto ()) fun b130 J130 j130 hb130=>?_
  rw [clc11] at hb130
  have hbt:b130=true:=hb130.mpr mt_both_one
  subst hbt
  clear hb130
  replace sto:=fun (_:Unit)=>(sto ()).ext j130
  replace stp:=fun (_:Unit)=>(stp ()).ext j130
  replace stq:=fun (_:Unit)=>(stq ()).ext j130
  replace hS:=j130.2 K a _ hS
  replace eb:=eb.trans j130
  clear j130
  simp! only [and_true]
  refine use_clash (E:=E0) (stp ()) (stq ()) fun b131 J131 j131 hb131=>?_
  rw [clc11] at hb131
  have hbt:b131=true:=hb131.mpr mt_other_both
  subst hbt
  clear hb131
  replace sto:=fun (_:Unit)=>(sto ()).ext j131
  replace stp:=fun (_:Unit)=>(stp ()).ext j131
  replace stq:=fun (_:Unit)=>(stq ()).ext j131
  replace hS:=j131.2 K a _ hS
  replace eb:=eb.trans j131
  clear j131
  simp! only [and_true]
  refine use_clash (E:=E0) (stq ()) (stq ()) fun b132 J132 j132 hb132=>?_
  rw [clc11] at hb132
  have hbt:b132=true:=hb132.mpr mt_both_both
  subst hbt
  clear hb132
  replace sto:=fun (_:Unit)=>(sto ()).ext j132
  replace stp:=fun (_:Unit)=>(stp ()).ext j132
  replace stq:=fun (_:Unit)=>(stq ()).ext j132
  replace hS:=j132.2 K a _ hS
  replace eb:=eb.trans j132
  clear j132
  have k2:=kk () J132 eb
  clear kk
  simp! only [and_true]
  first|done|exact k2
theorem cellsL_in {first:Int}{axs:List (Int × Int)}{M:Int}(h:∀ a∈axs,1≤a.1∧a.1≤1000000000) (hM:M∈cellsL first axs):first+leastL axs≤M∧M≤first+greatL axs:=by
 obtain ⟨xs,hx,e⟩:=(cellsL_mem _ _ _).mp hM
 have b:=dot_between axs xs hx
 omega
theorem clc12 {S b:List Int}{x y:Int}(hx:x ∉ S):ClC 1 S b 2 [x] [y] ↔ y∈S:=by
 constructor
 ·rintro (⟨c,h1,h2⟩|⟨c,_,h2⟩)
  ·have h3:c∈[x,y]:=h2
   rcases List.mem_cons.mp h3 with rfl|h3
   ·exact absurd h1 hx
   ·rw [←List.mem_singleton.mp h3];exact h1
  ·cases h2
 ·intro h
  exact .inl ⟨y,h,List.mem_append_right _ List.mem_cons_self⟩
theorem clc21 {S b:List Int}{x y:Int}(hx:x ∉ S):ClC 2 [x] [y] 1 S b ↔ y∈S:=by
 constructor
 ·rintro (⟨c,h1,h2⟩|⟨c,h1,h2⟩)
  ·have h3:c∈S++[]:=h2
   have h4:c∈[x]:=h1
   rw [List.append_nil] at h3
   rw [List.mem_singleton.mp h4] at h3
   exact absurd h3 hx
  ·have h4:c∈[y]:=h2
   rw [←List.mem_singleton.mp h4];exact h1
 ·intro h
  exact .inr ⟨y,h,List.mem_cons_self⟩
def AxW (a:Int × Int):Prop:=(14≤a.1∧a.1≤16)∧(61≤a.2∧a.2≤1019)
theorem axw {a b c:Int × Int}(ha:AxW a) (hb:AxW b) (hc:AxW c):Axes [a,b,c]∧prodL ([a,b,c].map fun a=>a.1)≤4096∧1≤prodL ([a,b,c].map fun a=>a.1)∧leastL [a,b,c]=0∧0≤greatL [a,b,c]∧greatL [a,b,c]≤100000:=by
 have n1:∀ z:Int × Int,AxW z->0≤(z.1 - 1) * z.2∧(z.1 - 1) * z.2≤15 * 1019:=fun z hz=>by
  have h1:=Int.mul_nonneg (show 0≤z.1 - 1 by have:=hz.1;omega) (show 0≤z.2 by have:=hz.2;omega)
  have h2:=Int.mul_le_mul_of_nonneg_left (show z.2≤1019 by have:=hz.2;omega) (show 0≤z.1 - 1 by have:=hz.1;omega)
  have:=hz.1
  omega
 have a1:=n1 a ha
 have b1:=n1 b hb
 have c1:=n1 c hc
 have l:leastL [a,b,c]=min 0 ((a.1 - 1) * a.2)+(min 0 ((b.1 - 1) * b.2)+(min 0 ((c.1 - 1) * c.2)+0)):=rfl
 have g:greatL [a,b,c]=max 0 ((a.1 - 1) * a.2)+(max 0 ((b.1 - 1) * b.2)+(max 0 ((c.1 - 1) * c.2)+0)):=rfl
 have p:prodL ([a,b,c].map fun a=>a.1)=a.1 * (b.1 * c.1):=by simp [prodL]
 have q1:=Int.mul_le_mul_of_nonneg_left (show c.1≤16 by have:=hc.1;omega) (show 0≤b.1 by have:=hb.1;omega)
 have q2:=Int.mul_nonneg (show 0≤b.1 by have:=hb.1;omega) (show 0≤c.1 by have:=hc.1;omega)
 have q0:=Int.mul_le_mul_of_nonneg_left (show 1≤c.1 by have:=hc.1;omega) (show 0≤b.1 by have:=hb.1;omega)
 have q3:=Int.mul_le_mul_of_nonneg_left (show b.1 * c.1≤256 by have:=hb.1;omega) (show 0≤a.1 by have:=ha.1;omega)
 have q4:=Int.mul_le_mul_of_nonneg_left (show 1≤b.1 * c.1 by have:=hb.1;omega) (show 0≤a.1 by have:=ha.1;omega)
 refine ⟨⟨by simp,fun z hz=>?_⟩,by rw [p];have:=ha.1;omega,by rw [p];have:=ha.1;omega,by rw [l];omega,by rw [g];omega,by rw [g];omega⟩
 simp only [List.mem_cons,List.not_mem_nil,or_false] at hz
 rcases hz with rfl|rfl|rfl
 ·have:=ha.1;omega
 ·have:=hb.1;omega
 ·have:=hc.1;omega
theorem al3 {R:Nat->V->Prop}{ys:List V}(h:Al R (List.range 3) ys):∃ y0 y1 y2,ys=[y0,y1,y2]∧R 0 y0∧R 1 y1∧R 2 y2:=by
 have hl:ys.length=3:=h.1
 match ys,hl with
 | [y0,y1,y2],_=>exact ⟨y0,y1,y2,rfl,h.2 0 0 y0 rfl rfl,h.2 1 1 y1 rfl rfl,h.2 2 2 y2 rfl rfl⟩
def axQ (H:Hp) (y:V):Prop:=∃ q s p,y=.ref q∧H q=some (.tup [.int s,.int p])∧AxW (s,p)
abbrev B_spKWide (K:PySem.W.Frag) (a:Addr) (ns:List Int) (s:Addr) (H:Hp) (Q:VK) (E:XK):Prop:=s=a∧SqL K H a (ns.map V.int)∧ns.length≤63∧∀ H',Ext H H'->Q (.bl true) H'
def spKWide (K:PySem.W.Frag) (a:Addr) (ns:List Int):Sp:=fun vs H Q E=>∃ (s:Addr),vs=[.ref s]∧(B_spKWide K a ns s H Q E)
theorem c_spKWide (K:PySem.W.Frag) (a:Addr) (ns:List Int) (s:Addr) (H:Hp) (Q:VK) (E:XK):spKWide K a ns [.ref s] H Q E=(B_spKWide K a ns s H Q E):=spx1 (f:=fun (s:Addr)=>[.ref s]) (fun _ _ h=>by cases h;exact rfl) s
theorem l_spKWide (K:PySem.W.Frag) (a:Addr) (ns:List Int){vs:List V}{H:Hp}{Q:VK}{E:XK}(h:spKWide K a ns vs H Q E):vs.length=1:=spl1 h fun _=>rfl
theorem ok__law_wide (T:Tx K mg t) (a:Addr) (ns:List Int):FnOk P w K mg base CX0 8 t.a__law_wide t.d__law_wide ["_law_script"] (spKWide K a ns):=by
 have G__law_draw:=ok__law_draw (P:=P) (w:=w) (base:=base) T a ns
 have G__law_cells:=ok__law_cells (P:=P) (w:=w) (base:=base) T
 have G_View___init__:=ok_View___init__ (P:=P) (w:=w) (base:=base) T
 have G_Fill___init__:=ok_Fill___init__ (P:=P) (w:=w) (base:=base) T
 have G_Copy___init__:=ok_Copy___init__ (P:=P) (w:=w) (base:=base) T
 have G_clash:=ok_clash (P:=P) (w:=w) (base:=base) T
 refine T.F__law_wide.ok c__law_wide (fun vs H Q E h=>l_spKWide _ _ _ h) (fun cdv A' outer s H vs Q E hr h=>?_)
 ·obtain ⟨_,rfl,rfl,hS,hl,kk⟩:=h
  rename_i a
  have hS0:Unit->SqL K H a (ns.map V.int):=fun _=>hS
  refine ⟨_,(@pss_cons _ _ _ _ _ (@ps_set _ _ (1) _ _ _ _ c__law_wide.nd rfl (Or.inr rfl) (@pe_comp _ _ _ _ _ _ _ _ _ _ _ (["_law_k", "_law_script", "_law_paces", "_law_axes", "_law_cells_here", "_law_room", "_law_there", "_law_cell", "_law_one", "_law_at", "_law_other", "_law_due"]) (1) (comp_ok (defScope s__law_wide) ["_law_script", "_law_paces", "_law_axes", "_law_cells_here", "_law_room", "_law_there", "_law_cell", "_law_one", "_law_at", "_law_other", "_law_due"] rfl rfl (by decide +kernel)) rfl (@pi_range1 _ _ _ _ _ _ (by rfl) T.z_range (@pa_c _ _ _ _ _ (@pe_int _ _ _ _) (@pa_nil _) (by rfl)) (by rfl)) (fun C s₀ H₀ ex pn=>(@pg_name _ _ (0) _ (show List.Nodup (["_law_k", "_law_script", "_law_paces", "_law_axes", "_law_cells_here", "_law_room", "_law_there", "_law_cell", "_law_one", "_law_at", "_law_other", "_law_due"]:List Str) from by decide +kernel) rfl (Or.inl rfl) (by trivial))) (fun C s₀ H₀ ex pn=>(@pts_nil _)) (fun C s₀ H₀ ex pn=>(@pe_op _ _ _ _ _ _ _ _ on_add (@pe_int _ _ _ _) (@pe_call _ _ _ _ _ _ _ _ _ _ _ _ _ _ _ _ G__law_draw (hr.mono (by decide)) (by rfl) T.m__law_draw T.F__law_draw.kp T.b__law_draw .nil pass0 (@pa_c _ _ _ _ _ (@pvN _ 1 _ _ (by rfl) (by trivial) (by decide) (by decide)) (@pa_c _ _ _ _ _ (@pe_op _ _ _ _ _ _ _ _ on_add (@pe_int _ _ _ _) (@pvN _ 0 _ _ (by rfl) (by trivial) (by decide) (by decide))) (@pa_c _ _ _ _ _ (@pe_int _ _ _ _) (@pa_nil _) (by rfl)) (by rfl)) (by rfl)) (by decide) (by rfl) (by rfl)))) (by intros;rfl)) (by rfl) (by trivial)) (@pss_cons _ _ _ _ _ (@ps_setC _ _ _ _ _ _ _ _ _ _ _ _ _ (["_law_k", "_law_script", "_law_paces", "_law_axes", "_law_cells_here", "_law_room", "_law_there", "_law_cell", "_law_one", "_law_at", "_law_other", "_law_due"]) (1) (2) _ c__law_wide.nd rfl (Or.inl rfl) (comp_ok (defScope s__law_wide) ["_law_script", "_law_paces", "_law_axes", "_law_cells_here", "_law_room", "_law_there", "_law_cell", "_law_one", "_law_at", "_law_other", "_law_due"] rfl rfl (by decide +kernel)) rfl (@pi_range1 _ _ _ _ _ _ (by rfl) T.z_range (@pa_c _ _ _ _ _ (@pe_int _ _ _ _) (@pa_nil _) (by rfl)) (by rfl)) (fun C s₀ H₀ ex pn=>(@pg_name _ _ (0) _ (show List.Nodup (["_law_k", "_law_script", "_law_paces", "_law_axes", "_law_cells_here", "_law_room", "_law_there", "_law_cell", "_law_one", "_law_at", "_law_other", "_law_due"]:List Str) from by decide +kernel) rfl (Or.inl rfl) (by trivial))) (fun C s₀ H₀ ex pn=>(@pts_nil _)) (fun C s₀ H₀ ex pn=>(@pe_qTup _ _ _ _ _ (@pa_c _ _ _ _ _ (@pe_op _ _ _ _ _ _ _ _ on_sub (@pe_int _ _ _ _) (@pe_call _ _ _ _ _ _ _ _ _ _ _ _ _ _ _ _ G__law_draw (hr.mono (by decide)) (by rfl) T.m__law_draw T.F__law_draw.kp T.b__law_draw .nil pass0 (@pa_c _ _ _ _ _ (@pvN _ 1 _ _ (by rfl) (by trivial) (by decide) (by decide)) (@pa_c _ _ _ _ _ (@pe_op _ _ _ _ _ _ _ _ on_add (@pe_int _ _ _ _) (@pvN _ 0 _ _ (by rfl) (by trivial) (by decide) (by decide))) (@pa_c _ _ _ _ _ (@pe_int _ _ _ _) (@pa_nil _) (by rfl)) (by rfl)) (by rfl)) (by decide) (by rfl) (by rfl))) (@pa_c _ _ _ _ _ (@pe_ix _ _ _ _ _ _ _ ix_q (@pvN _ 2 _ _ (by rfl) (by trivial) (by decide) (by decide)) (@pvN _ 0 _ _ (by rfl) (by trivial) (by decide) (by decide)) (fun _ _=>rfl)) (@pa_nil _) (by rfl)) (by rfl)))) (by rfl) (by intros;rfl) (by trivial)) (@pss_cons _ _ _ _ _ (@ps_set _ _ (3) _ _ _ _ c__law_wide.nd rfl (Or.inl rfl) (@pe_call _ _ _ _ _ _ _ _ _ _ _ _ _ _ _ _ G__law_cells (hr.mono (by decide)) (by rfl) T.m__law_cells T.F__law_cells.kp T.b__law_cells .nil pass0 (@pa_c _ _ _ _ _ (@pe_int _ _ _ _) (@pa_c _ _ _ _ _ (@pvN _ 2 _ _ (by rfl) (by trivial) (by decide) (by decide)) (@pa_nil _) (by rfl)) (by rfl)) (by decide) (by rfl) (by rfl)) (by rfl) (by trivial)) (@pss_cons _ _ _ _ _ (@ps_set _ _ (4) _ _ _ _ c__law_wide.nd rfl (Or.inl rfl) (@pe_op _ _ _ _ _ _ _ _ on_add (@pe_callB _ _ _ _ _ _ _ ("max") _ (call_qMaxL rfl) (by rfl) T.z_max (by decide +kernel) (@pa_c _ _ _ _ _ (@pvN _ 3 _ _ (by rfl) (by trivial) (by decide) (by decide)) (@pa_nil _) (by rfl)) (by decide) (by decide) (by rfl) (by rfl)) (@pe_int _ _ _ _)) (by rfl) (by trivial)) (@pss_cons _ _ _ _ _ (@ps_set _ _ (5) _ _ _ _ c__law_wide.nd rfl (Or.inl rfl) (@pe_nDNew _ _) (by rfl) (by trivial)) (@pss_cons _ _ _ _ _ (@ps_for _ _ _ _ _ _ _ _ PassesOwn.never rfl (@pi_seq _ _ _ _ (@pvN _ 3 _ _ (by rfl) (by trivial) (by decide) (by decide))) (@pg_name _ _ (6) _ c__law_wide.nd rfl (Or.inl rfl) (by trivial)) (@pss_one _ _ _ (@ps_dput _ _ _ _ _ _ _ _ _ (units1 hr.units) (@pvN _ 5 _ _ (by rfl) (by trivial) (by decide) (by decide)) (@pvN _ 6 _ _ (by rfl) (by trivial) (by decide) (by decide)) (@pe_bl _ _ _ _) rfl)) (by intros;rfl)) (@pss_cons _ _ _ _ _ (@ps_set _ _ (7) _ _ _ _ c__law_wide.nd rfl (Or.inl rfl) (@pe_nMake _ _ _ _ _ _ _ _ _ _ _ _ _ _ _ _ _ T.mk_Fill G_Fill___init__ (hr.mono (by decide)) (by rfl) T.m_Fill T.b_Fill___init__ .nil pass0 (@pa_c _ _ _ _ _ (@pe_nMake _ _ _ _ _ _ _ _ _ _ _ _ _ _ _ _ _ T.mk_View G_View___init__ (hr.mono (by decide)) (by rfl) T.m_View T.b_View___init__ .nil pass0 (@pa_c _ _ _ _ _ (@pvN _ 4 _ _ (by rfl) (by trivial) (by decide) (by decide)) (@pa_c _ _ _ _ _ (@pe_int _ _ _ _) (@pa_c _ _ _ _ _ (@pe_callTy _ _ _ _ _ _ _ _ _ call_nList (by rfl) T.z_list (by decide +kernel) (@pa_c _ _ _ _ _ (@pvN _ 2 _ _ (by rfl) (by trivial) (by decide) (by decide)) (@pa_nil _) (by rfl)) (by decide) (by decide) (by rfl) (by rfl)) (@pa_nil _) (by rfl)) (by rfl)) (by rfl)) (by decide) (by rfl) (by rfl)) (@pa_c _ _ _ _ _ (@pe_int _ _ _ _) (@pa_nil _) (by rfl)) (by rfl)) (by decide) (by rfl) (by rfl)) (by rfl) (by trivial)) (@pss_cons _ _ _ _ _ (@ps_set _ _ (6) _ _ _ _ c__law_wide.nd rfl (Or.inl rfl) (@pe_ix _ _ _ _ _ _ _ ix_q (@pvN _ 3 _ _ (by rfl) (by trivial) (by decide) (by decide)) (@pe_call _ _ _ _ _ _ _ _ _ _ _ _ _ _ _ _ G__law_draw (hr.mono (by decide)) (by rfl) T.m__law_draw T.F__law_draw.kp T.b__law_draw .nil pass0 (@pa_c _ _ _ _ _ (@pvN _ 0 _ _ (by rfl) (by trivial) (by decide) (by decide)) (@pa_c _ _ _ _ _ (@pe_int _ _ _ _) (@pa_c _ _ _ _ _ (@pe_callB _ _ _ _ _ _ _ ("len") _ call_qLen (by rfl) T.z_len (by decide +kernel) (@pa_c _ _ _ _ _ (@pvN _ 3 _ _ (by rfl) (by trivial) (by decide) (by decide)) (@pa_nil _) (by rfl)) (by decide) (by decide) (by rfl) (by rfl)) (@pa_nil _) (by rfl)) (by rfl)) (by rfl)) (by decide) (by rfl) (by rfl)) (fun _ _=>rfl)) (by rfl) (by trivial)) (@pss_cons _ _ _ _ _ (@ps_for _ _ _ _ _ _ _ _ PassesOwn.never rfl (@pi_range2 _ _ _ _ _ _ _ (by rfl) T.z_range (@pa_c _ _ _ _ _ (@pvN _ 6 _ _ (by rfl) (by trivial) (by decide) (by decide)) (@pa_c _ _ _ _ _ (@pe_op _ _ _ _ _ _ _ _ on_add (@pvN _ 6 _ _ (by rfl) (by trivial) (by decide) (by decide)) (@pe_int _ _ _ _)) (@pa_nil _) (by rfl)) (by rfl)) (by rfl) (by rfl)) (@pg_name _ _ (8) _ c__law_wide.nd rfl (Or.inl rfl) (by trivial)) (@pss_cons _ _ _ _ _ (@ps_set _ _ (9) _ _ _ _ c__law_wide.nd rfl (Or.inl rfl) (@pe_nMake _ _ _ _ _ _ _ _ _ _ _ _ _ _ _ _ _ T.mk_Copy G_Copy___init__ (hr.mono (by decide)) (by rfl) T.m_Copy T.b_Copy___init__ .nil pass0 (@pa_c _ _ _ _ _ (@pe_nMake _ _ _ _ _ _ _ _ _ _ _ _ _ _ _ _ _ T.mk_View G_View___init__ (hr.mono (by decide)) (by rfl) T.m_View T.b_View___init__ .nil pass0 (@pa_c _ _ _ _ _ (@pvN _ 4 _ _ (by rfl) (by trivial) (by decide) (by decide)) (@pa_c _ _ _ _ _ (@pe_op _ _ _ _ _ _ _ _ on_sub (@pvN _ 4 _ _ (by rfl) (by trivial) (by decide) (by decide)) (@pe_int _ _ _ _)) (@pa_c _ _ _ _ _ (@pe_qLst _ _ _ _ (@pa_nil _)) (@pa_nil _) (by rfl)) (by rfl)) (by rfl)) (by decide) (by rfl) (by rfl)) (@pa_c _ _ _ _ _ (@pe_nMake _ _ _ _ _ _ _ _ _ _ _ _ _ _ _ _ _ T.mk_View G_View___init__ (hr.mono (by decide)) (by rfl) T.m_View T.b_View___init__ .nil pass0 (@pa_c _ _ _ _ _ (@pvN _ 4 _ _ (by rfl) (by trivial) (by decide) (by decide)) (@pa_c _ _ _ _ _ (@pvN _ 8 _ _ (by rfl) (by trivial) (by decide) (by decide)) (@pa_c _ _ _ _ _ (@pe_qLst _ _ _ _ (@pa_nil _)) (@pa_nil _) (by rfl)) (by rfl)) (by rfl)) (by decide) (by rfl) (by rfl)) (@pa_nil _) (by rfl)) (by rfl)) (by decide) (by rfl) (by rfl)) (by rfl) (by trivial)) (@pss_cons _ _ _ _ _ (@ps_set _ _ (10) _ _ _ _ c__law_wide.nd rfl (Or.inl rfl) (@pe_cmpR _ _ _ _ _ _ _ _ (op_inD (units1 hr.units)) (@pvN _ 8 _ _ (by rfl) (by trivial) (by decide) (by decide)) (@pvN _ 5 _ _ (by rfl) (by trivial) (by decide) (by decide)) (by with_unfolding_all rfl)) (by rfl) (by trivial)) (@pss_one _ _ _ (@ps_if _ _ _ _ _ _ _ _ (PW.pt (@pw_or _ _ _ _ _ _ _ (@pt_cmpRN _ _ _ _ _ _ _ _ on_lt (@pvN _ 8 _ _ (by rfl) (by trivial) (by decide) (by decide)) (@pe_op _ _ _ _ _ _ _ _ on_add (@pvN _ 6 _ _ (by rfl) (by trivial) (by decide) (by decide)) (@pe_int _ _ _ _)) (nomark _)) (@pw_or1 _ _ _ _ (@pt_not _ _ _ _ (@pt_valN _ _ _ (@pvN _ 10 _ _ (by rfl) (by trivial) (by decide) (by decide)) (by intros;rfl)))))) (@pss_one _ _ _ (@ps_if _ _ _ _ _ _ _ _ (PW.pt (@pw_or _ _ _ _ _ _ _ (@pt_cmpRN _ _ _ _ _ _ _ _ (op_qNe hr.units) (@pe_call _ _ _ _ _ _ _ _ _ _ _ _ _ _ _ _ G_clash (hr.mono (by decide)) (by rfl) T.m_clash T.F_clash.kp T.b_clash .nil pass0 (@pa_c _ _ _ _ _ (@pvN _ 7 _ _ (by rfl) (by trivial) (by decide) (by decide)) (@pa_c _ _ _ _ _ (@pvN _ 9 _ _ (by rfl) (by trivial) (by decide) (by decide)) (@pa_nil _) (by rfl)) (by rfl)) (by decide) (by rfl) (by rfl)) (@pvN _ 10 _ _ (by rfl) (by trivial) (by decide) (by decide)) (nomark _)) (@pw_or1 _ _ _ _ (@pt_cmpRN _ _ _ _ _ _ _ _ (op_qNe hr.units) (@pe_call _ _ _ _ _ _ _ _ _ _ _ _ _ _ _ _ G_clash (hr.mono (by decide)) (by rfl) T.m_clash T.F_clash.kp T.b_clash .nil pass0 (@pa_c _ _ _ _ _ (@pvN _ 9 _ _ (by rfl) (by trivial) (by decide) (by decide)) (@pa_c _ _ _ _ _ (@pvN _ 7 _ _ (by rfl) (by trivial) (by decide) (by decide)) (@pa_nil _) (by rfl)) (by rfl)) (by decide) (by rfl) (by rfl)) (@pvN _ 10 _ _ (by rfl) (by trivial) (by decide) (by decide)) (nomark _))))) (@pss_one _ _ _ (@ps_ret _ _ _ _ (@pe_bl _ _ _ _))) (@pss_nil _))) (@pss_nil _))))) (by intros;rfl)) (@pss_one _ _ _ (@ps_ret _ _ _ _ (@pe_bl _ _ _ _)))))))))))),?_⟩
  rw [show start ["_law_script", "_law_paces", "_law_axes", "_law_cells_here", "_law_room", "_law_there", "_law_cell", "_law_one", "_law_at", "_law_other", "_law_due"] [.ref a]=[some (.ref a),none,none,none,none,none,none,none,none,none,none] from rfl]
  clear G__law_draw G__law_cells G_View___init__ G_Fill___init__ G_Copy___init__ G_clash
  replace kk:=fun (_:Unit)=>kk
  simp! only [and_true]
  refine comp_rel2 (List.range 3) (fun _=>true) (fun (z:Nat) x H'=>x=.int (0+(z:Int))) (fun D (z:Nat) y H'=>∃ p:Int,y=.int p∧61≤p∧p≤1019) wk_rng.1 wk_rng.2 (fun D z y H1 H2 h e=>h) (fun D z y H1 xs o h hD=>h) (len5000 (by rw [List.length_range];omega)) ?_ ?_
  ·intro D z y H' N1 N0 hz hD e' _ hy k1 _
   subst hy
   have hz3:=List.mem_range.mp hz
   have hS':=e'.2 K a _ hS
   have k1':=k1 rfl
   clear k1 hz hS kk
   simp! only [↓m_kCm_1,↓m_kCm2]
   rw [c_spDraw]
   refine ⟨hS',hl,⟨by omega,by omega⟩,by decide,fun d d0 d1=>?_⟩
   have k2:=k1' (.int (61+d)) H' (Ext.refl _) ⟨_,rfl,by omega,by omega⟩
   clear k1'
   simp! only [↓m_kCm_1,↓m_kCm2]
  intro Dp ys1 H1 hDp e1 h1 al1
  rw [filt] at al1
  obtain ⟨_,_,_,rfl,⟨p0,rfl,p00,p01⟩,⟨p1,rfl,p10,p11⟩,⟨p2,rfl,p20,p21⟩⟩:=al3 al1
  have hS1:=e1.2 K a _ hS
  clear al1 hDp hS
  simp! only [and_true]
  refine comp_rel2 (List.range 3) (fun _=>true) (fun (z:Nat) x H'=>x=.int (0+(z:Int))) (fun D (z:Nat) y H'=>axQ H' y) wk_rng.1 wk_rng.2 (fun D z y H1 H2 h e=>(let ⟨q,s,p,a1,a2,a3⟩:=h;⟨q,s,p,a1,e.at a2,a3⟩)) (fun D z y H1 xs o h hD=>(let ⟨q,s,p,a1,a2,a3⟩:=h;⟨q,s,p,a1,by rw [upd_ne (fun e=>by rw [e,hD] at a2;cases a2)];exact a2,a3⟩)) (len5000 (by rw [List.length_range];omega)) ?_ ?_
  ·intro D z y H' N1 N0 hz hD e' _ hy k1 _
   subst hy
   have hz3:=List.mem_range.mp hz
   have hS':=e'.2 K a _ hS1
   have h1':=e'.at h1
   have k1':=k1 rfl
   clear k1 hz hS1 kk h1
   simp! only [↓m_kCm_1,↓m_kCm2]
   rw [c_spDraw]
   refine ⟨hS',hl,⟨by omega,by omega⟩,by decide,fun d d0 d1=>?_⟩
   simp! only [↓m_kCm_1,↓m_kCm2]
   refine optK_pick (fun v=>∃ p:Int,v=.int p∧61≤p∧p≤1019) (by omega) (by show _ < (3:Int);omega) (fun v hv=>?_) fun v hv=>?_
   ·simp only [List.mem_cons,List.not_mem_nil,or_false] at hv
    rcases hv with rfl|rfl|rfl
    ·exact ⟨_,rfl,p00,p01⟩
    ·exact ⟨_,rfl,p10,p11⟩
    ·exact ⟨_,rfl,p20,p21⟩
   obtain ⟨pp,rfl,q0,q1⟩:=hv
   simp! only [↓m_kCm_1,↓m_kCm2]
   intro t3 H3 _ e3 h3
   exact k1' _ H3 e3 ⟨t3,_,_,rfl,h3,⟨by show 14≤16 - d;omega,by show 16 - d≤16;omega⟩,q0,q1⟩
  intro Da ys2 H2 hDa e2 h2 al2
  rw [filt] at al2
  obtain ⟨_,_,_,rfl,⟨b0,s0,r0,rfl,b00,w0⟩,⟨b1,s1,r1,rfl,b10,w1⟩,⟨b2,s2,r2,rfl,b20,w2⟩⟩:=al3 al2
  have tA:TupsAt H2 Da (axL [(s0,r0),(s1,r1),(s2,r2)]):=⟨_,h2,Al.cons' ⟨b0,rfl,b00⟩ (Al.cons' ⟨b1,rfl,b10⟩ (Al.cons' ⟨b2,rfl,b20⟩ Al.nil))⟩
  obtain ⟨ax,pr,pr1,ls,gr0,gr1⟩:=axw w0 w1 w2
  have e02:=e1.trans e2
  have hS2:=e02.2 K a _ (show SqL K H a (ns.map V.int) from hS0 ())
  obtain ⟨A,hA⟩:∃ A,[(s0,r0),(s1,r1),(s2,r2)]=A:=⟨_,rfl⟩
  rw [hA] at tA ax pr pr1 ls gr0 gr1
  replace tA:=fun (_:Unit)=>tA
  clear al2 hDa h1 h2 b00 b10 b20 w0 w1 w2 p00 p01 p10 p11 p20 p21 hA e1 e2 hS1
  simp! only [and_true]
  rw [c_spLCells]
  refine ⟨A,tA (),ax,pr,fun cr H3 hcr e3 h3=>?_⟩
  have hlen:=cellsL_len 0 A fun a ha=>(ax.2 a ha).1
  obtain ⟨S,hSd⟩:∃ S,cellsL 0 A=S:=⟨_,rfl⟩
  rw [hSd] at h3 hlen
  have hSn:S ≠ []:=fun e=>by rw [e] at hlen;have:(0:Int)=_:=hlen;omega
  have hmax:∀ M,M∈S->(∀ c∈S,c≤M)->M=greatL A:=fun M h1 h2=>by
   have:=cellsL_max (first:=0) (axs:=A) ax.2 (by rw [hSd];exact h1) (by rw [hSd];exact h2)
   omega
  have hlow:∀ c∈S,0≤c:=fun c hc=>by
   rw [←hSd] at hc
   have:=(cellsL_in ax.2 hc).1
   omega
  have e03:=e02.trans e3
  have hS3:=e3.2 K a _ hS2
  have tA3:=fun (_:Unit)=>(tA ()).ext e3
  replace hmax:=fun (_:Unit)=>hmax
  replace hlow:=fun (_:Unit)=>hlow
  replace hSd:=fun (_:Unit)=>hSd
  clear hS2 tA hcr e02
  simp! only [and_true]
  rw [x_kMaxI]
  refine ⟨List.length_pos_iff.mpr hSn,fun M hM1 hM2=>?_⟩
  have hMg:=hmax () M hM1 hM2
  obtain ⟨room,hroom⟩:∃ room,M+41=room:=⟨_,rfl⟩
  have hxn:room - 1 ∉ S:=fun h=>by have:=hM2 _ h;omega
  have hrb:41≤room∧room≤200000:=by omega
  have hlt:∀ c∈S,c+40 < room:=fun c hc=>by have:=hM2 c hc;omega
  replace hxn:=fun (_:Unit)=>hxn
  replace hlt:=fun (_:Unit)=>hlt
  have vok:ViewOk room 0 A:=by
   obtain ⟨q1,q2⟩:=span_kept A fun a ha=>(ax.2 a ha).1
   exact ⟨ax,by omega,by omega,by rw [q1,ls];decide,by rw [q2];omega⟩
  have hSl:(S.length:Int)≤4096:=by omega
  have hSp:0 < (S.length:Int):=by omega
  clear hM1 hM2 hMg hmax hlen
  simp! only [and_true]
  clear hroom
  intro d H4 hd4 e4 h4
  have h3_4:=e4.at h3
  have ndr:cr ≠ d:=fun e=>by rw [e,hd4] at h3;cases h3
  have ini:CoI H3 H4 d (S.take 0) 0:=⟨[],e4,h4,(fun c=>by simp),Nat.zero_le _⟩
  clear h4 e4
  simp! only [and_true]
  refine for_lst (xs:=S.map V.int) (fun j σ H'=>∃ v6:Option V,σ=[some (.ref a),some (.ref Dp),some (.ref Da),some (.ref cr),some (.int room),some (.ref d),v6,none,none,none,none]∧CoI H3 H' d (S.take j) j) ⟨none,rfl,ini⟩ (fun j σ H' _ ⟨_,_,_,e,_⟩=>e.at h3) ?_ ?_
  ·clear ini h3_4 kk
   rintro j y _ H5 hj ⟨v6,rfl,ks,e5,h5,hks,hkl⟩
   rw [List.getElem?_map] at hj
   obtain ⟨c,hjc,rfl⟩:=Option.map_eq_some_iff.mp hj
   have hjl:j < S.length:=(List.getElem?_eq_some_iff.mp hjc).1
   have fin:CoI H3 (upd H5 d (.dK (tabB (insK ks c)))) d (S.take (j+1)) (j+1):=⟨insK ks c,e5.put hd4,upd_same,(fun z=>by
    rw [ins_mem,hks z,List.take_add_one,hjc,List.mem_append]
    show _∨z=c ↔ _∨z∈[c]
    rw [List.mem_singleton]),by have:=ins_len ks c;omega⟩
   have hlim:(tabB ks).length < sizeLine:=by rw [tabB_len];exact len100k (by omega)
   replace hks:=fun (_:Unit)=>hks
   clear hj
   simp! only [↓m_kBody]
   refine use_dp (k:=.inl c) h5 hlim ?_
   rw [put_tabB]
   exact ⟨_,rfl,fin⟩
  rintro _ H5 ⟨v6,rfl,ks,e5,h5,hks,hkl⟩
  rw [List.length_map,List.take_length] at hks
  have hS5:=e5.2 K a _ hS3
  have h3_5:=e5.at h3
  obtain ⟨ya,hya,ala⟩:=(tA3 ()).ext e5
  have e05:=e03.trans e5
  replace hks:=fun (_:Unit)=>hks
  replace ala:=fun (_:Unit)=>ala
  clear ini h3_4 h3 hS3 tA3 e5 e3 e03 hkl
  simp! only [and_true]
  intro q6 J101 uq6 j101 hq6
  clear uq6
  replace h3_5:=j101.at h3_5
  replace h5:=j101.at h5
  replace hya:=j101.at hya
  replace hS5:=j101.2 K a _ hS5
  replace e05:=e05.trans j101
  have tA:TupsAt J101 q6 (axL A):=⟨ya,hq6,(ala ()).imp fun _ _ t=>t.ext j101⟩
  clear j101
  clear hq6
  simp! only [and_true]
  intro vv dx102 G102 hx102 hd102 hq102 g102 k102 kk102
  rw [c_spVInit]
  refine ⟨dx102,A,k102,TupsAt.ext tA g102,vok,fun J102 D102 gg102 hD102 hx102' tt102=>?_⟩
  have j102:=gg102 J101 g102 hx102
  have vvv:ViewAt t.a_View J102 vv room 0 (A.map keptA):=⟨dx102,D102,hx102',tt102⟩
  replace vvv:=fun (_:Unit)=>vvv
  clear k102 kk102 hx102 hd102 hq102 g102 gg102 hD102 hx102' tt102
  replace h3_5:=j102.at h3_5
  replace h5:=j102.at h5
  replace hya:=j102.at hya
  replace hS5:=j102.2 K a _ hS5
  replace e05:=e05.trans j102
  clear j102
  clear tA
  clear hya
  simp! only [and_true]
  intro on dx103 G103 hx103 hd103 hq103 g103 k103 kk103
  rw [c_spFInit]
  refine ⟨dx103,k103,fun J103 gg103 hon=>?_⟩
  have j103:=gg103 J102 g103 hx103
  clear k103 kk103 hx103 hd103 hq103 g103 gg103
  replace vvv:=fun (_:Unit)=>(vvv ()).ext j103
  replace h3_5:=j103.at h3_5
  replace h5:=j103.at h5
  replace hS5:=j103.2 K a _ hS5
  replace e05:=e05.trans j103
  clear j103
  have so:StV t J103 on 1 room S []:=by rw [←hSd ()];exact stv_fill hon (vwc_of ax pr (vvv ()))
  replace so:=fun (_:Unit)=>so
  clear hon
  clear vvv
  simp! only [and_true]
  rw [c_spDraw]
  refine ⟨hS5,hl,⟨by decide,by decide⟩,hSp,fun di di0 di1=>?_⟩
  simp! only [and_true]
  refine optK_pick (fun v=>∃ c:Int,v=.int c∧c∈S) di0 (by rw [List.length_map];exact di1) (fun v hv=>?_) fun v hv=>?_
  ·obtain ⟨c,hc,rfl⟩:=List.mem_map.mp hv
   exact ⟨c,rfl,hc⟩
  obtain ⟨c,rfl,hcS⟩:=hv
  have hc0:=hlow () c hcS
  have hc1:=hlt () c hcS
  replace hcS:=fun (_:Unit)=>hcS
  clear di0 di1 h3_5
  simp! only [and_true]
  refine ⟨⟨by omega,by omega,by omega,by omega⟩,?_⟩
  refine for_rng (fun j σ H'=>∃ v8 v9 v10:Option V,σ=[some (.ref a),some (.ref Dp),some (.ref Da),some (.ref cr),some (.int room),some (.ref d),some (.int c),some (.ref on),v8,v9,v10]∧Ext J103 H') ⟨none,none,none,rfl,Ext.refl _⟩ ?_ ?_
  ·clear kk
   rintro j _ H7 hj ⟨v8,v9,v10,rfl,e7⟩
   have hj8:j < 8:=by have:j < (c+8 - c).toNat:=hj;omega
   have so7:=fun (_:Unit)=>(so ()).ext e7
   have h5_7:=e7.at h5
   have eb:=e7
   obtain ⟨at',hat'⟩:∃ at',c+(j:Int)=at':=⟨_,rfl⟩
   have hat0:0≤at'∧at' < room:=by omega
   clear hj
   rw [hat']
   simp! only [↓m_kBody]
   intro val J301 uval j301 hval
   clear uval
   replace so7:=fun (_:Unit)=>(so7 ()).ext j301
   replace h5_7:=j301.at h5_7
   replace eb:=eb.trans j301
   clear j301
   have tA:TupsAt J301 val (axL []):=⟨_,hval,Al.nil⟩
   clear hval
   simp! only [and_true]
   intro va dx302 G302 hx302 hd302 hq302 g302 k302 kk302
   rw [c_spVInit]
   refine ⟨dx302,[],k302,TupsAt.ext tA g302,nil_ok ⟨by omega,by omega⟩ ⟨by omega,by omega⟩,fun J302 D302 gg302 hD302 hx302' tt302=>?_⟩
   have j302:=gg302 J301 g302 hx302
   have vva:ViewAt t.a_View J302 va room (room - 1) ([].map keptA):=⟨dx302,D302,hx302',tt302⟩
   replace vva:=fun (_:Unit)=>vva
   clear k302 kk302 hx302 hd302 hq302 g302 gg302 hD302 hx302' tt302
   replace so7:=fun (_:Unit)=>(so7 ()).ext j302
   replace h5_7:=j302.at h5_7
   replace eb:=eb.trans j302
   clear j302
   clear tA
   simp! only [and_true]
   intro vbl J303 uvbl j303 hvbl
   clear uvbl
   replace so7:=fun (_:Unit)=>(so7 ()).ext j303
   replace vva:=fun (_:Unit)=>(vva ()).ext j303
   replace h5_7:=j303.at h5_7
   replace eb:=eb.trans j303
   clear j303
   have tA:TupsAt J303 vbl (axL []):=⟨_,hvbl,Al.nil⟩
   clear hvbl
   simp! only [and_true]
   intro vb dx304 G304 hx304 hd304 hq304 g304 k304 kk304
   rw [c_spVInit]
   refine ⟨dx304,[],k304,TupsAt.ext tA g304,nil_ok ⟨by omega,by omega⟩ hat0,fun J304 D304 gg304 hD304 hx304' tt304=>?_⟩
   have j304:=gg304 J303 g304 hx304
   have vvb:ViewAt t.a_View J304 vb room at' ([].map keptA):=⟨dx304,D304,hx304',tt304⟩
   replace vvb:=fun (_:Unit)=>vvb
   clear k304 kk304 hx304 hd304 hq304 g304 gg304 hD304 hx304' tt304
   replace so7:=fun (_:Unit)=>(so7 ()).ext j304
   replace vva:=fun (_:Unit)=>(vva ()).ext j304
   replace h5_7:=j304.at h5_7
   replace eb:=eb.trans j304
   clear j304
   clear tA
   simp! only [and_true]
   intro cp dx305 G305 hx305 hd305 hq305 g305 k305 kk305
   rw [c_spCopyInit]
   refine ⟨dx305,room,(room - 1),at',_,_,k305,(vva ()).ext g305,(vvb ()).ext g305,nil_ax,nil_ax,rfl,fun J305 gg305 hcp=>?_⟩
   have j305:=gg305 J304 g305 hx305
   clear k305 kk305 hx305 hd305 hq305 g305 gg305
   replace so7:=fun (_:Unit)=>(so7 ()).ext j305
   replace vva:=fun (_:Unit)=>(vva ()).ext j305
   replace vvb:=fun (_:Unit)=>(vvb ()).ext j305
   replace h5_7:=j305.at h5_7
   replace eb:=eb.trans j305
   clear j305
   have sc:StV t J305 cp 2 room [room - 1] [at']:=⟨va,vb,⟨by decide,dx305,.non,hcp⟩,(fun _=>vwc_of nil_ax (by decide) (vva ())),fun _=>vwc_of nil_ax (by decide) (vvb ())⟩
   replace sc:=fun (_:Unit)=>sc
   clear hcp
   clear vva vvb
   simp! only [and_true]
   refine use_in (k:=.inl at') h5_7 ?_
   rw [val_tabB]
   have hdd:decide (at'∈ks)=decide (at'∈S):=by have:=hks () at';simp [this]
   rw [if_neg (by decide),hdd]
   clear hdd
   by_cases hin:at'∈S
   ·rw [decide_eq_true hin]
    by_cases hlt3:at' < c+3
    ·replace hin:=fun (_:Unit)=>hin
     simp! only [and_true]
     refine use_clash (E:=E0) (so7 ()) (sc ()) fun b1 K1 k1 hb1=>?_
     have hbt:b1=true:=hb1.mpr ((clc12 (hxn ())).mpr (hin ()))
     subst hbt
     clear hb1
     simp! only [and_true]
     refine use_clash (E:=E0) ((sc ()).ext k1) ((so7 ()).ext k1) fun b2 K2 k2 hb2=>?_
     have hbt:b2=true:=hb2.mpr ((clc21 (hxn ())).mpr (hin ()))
     subst hbt
     have ef:=eb.trans (k1.trans k2)
     clear hb2 k1 k2 eb
     simp! only [and_true]
     exact ⟨_,_,_,rfl,ef⟩
    ·replace hin:=fun (_:Unit)=>hin
     simp! only [and_true]
     exact ⟨_,_,_,rfl,eb⟩
   ·rw [decide_eq_false hin]
    replace hin:=fun (_:Unit)=>hin
    have go:True:=trivial
    by_cases hlt3:at' < c+3
    ·simp! only [and_true]
     refine use_clash (E:=E0) (so7 ()) (sc ()) fun b1 K1 k1 hb1=>?_
     have hbt:b1=false:=by
      cases b1 with
      | false=>rfl
      | true=>exact absurd ((clc12 (hxn ())).mp (hb1.mp rfl)) (hin ())
     subst hbt
     clear hb1
     simp! only [and_true]
     refine use_clash (E:=E0) ((sc ()).ext k1) ((so7 ()).ext k1) fun b2 K2 k2 hb2=>?_
     have hbt:b2=false:=by
      cases b2 with
      | false=>rfl
      | true=>exact absurd ((clc21 (hxn ())).mp (hb2.mp rfl)) (hin ())
     subst hbt
     have ef:=eb.trans (k1.trans k2)
     clear hb2 k1 k2 eb
     simp! only [and_true]
     exact ⟨_,_,_,rfl,ef⟩
    ·simp! only [and_true]
     refine use_clash (E:=E0) (so7 ()) (sc ()) fun b1 K1 k1 hb1=>?_
     have hbt:b1=false:=by
      cases b1 with
      | false=>rfl
      | true=>exact absurd ((clc12 (hxn ())).mp (hb1.mp rfl)) (hin ())
     subst hbt
     clear hb1
     simp! only [and_true]
     refine use_clash (E:=E0) ((sc ()).ext k1) ((so7 ()).ext k1) fun b2 K2 k2 hb2=>?_
     have hbt:b2=false:=by
      cases b2 with
      | false=>rfl
      | true=>exact absurd ((clc21 (hxn ())).mp (hb2.mp rfl)) (hin ())
     subst hbt
     have ef:=eb.trans (k1.trans k2)
     clear hb2 k1 k2 eb
     simp! only [and_true]
     exact ⟨_,_,_,rfl,ef⟩
  ·rintro _ H7 ⟨v8,v9,v10,rfl,e7⟩
   have k2:=kk () H7 (e05.trans e7)
   clear kk
   simp! only [and_true]
theorem al_choose {α β:Type}{S:β->V->Prop}:∀ {zs:List α}{ys:List V},Al (fun (_:α) y=>∃ d,S d y) zs ys->∃ ds,Al S ds ys∧ds.length=zs.length
 | [],ys,h=>⟨[],by rw [List.length_eq_zero_iff.mp (show ys.length=0 from h.1)];exact Al.nil,rfl⟩
 | z::zs,[],h=>by have:=h.1;simp at this
 | z::zs,y::ys,h=>by
  obtain ⟨d,hd⟩:=h.2 0 z y rfl rfl
  obtain ⟨ds,h1,h2⟩:=al_choose (zs:=zs) (ys:=ys) ⟨by have:=h.1;simpa using this,fun i a b ha hb=>h.2 (i+1) a b (by simpa using ha) (by simpa using hb)⟩
  exact ⟨d::ds,Al.cons' hd h1,by rw [List.length_cons,List.length_cons,h2]⟩
theorem al_at {α:Type}{R:α->V->Prop}{zs:List α}{ys:List V}(h:Al R zs ys){i:Nat}(hi:i < zs.length):∃ y,zs[i]? = some zs[i]∧R zs[i] y∧atI ys (0+(i:Int))=some y:=by
 have hy:i < ys.length:=by rw [h.1];exact hi
 exact ⟨ys[i],List.getElem?_eq_getElem hi,h.2 i _ _ (List.getElem?_eq_getElem hi) (List.getElem?_eq_getElem hy),by rw [Int.zero_add];exact atI_nat (List.getElem?_eq_getElem hy)⟩
abbrev B_spLaw (K:PySem.W.Frag) (a:Addr) (H:Hp) (Q:VK) (E:XK):Prop:=∃ ns:List Int,SqL K H a (ns.map V.int)∧ns.length≤63∧∀ H',Q (.bl true) H'
def spLaw (K:PySem.W.Frag):Sp:=fun vs H Q E=>∃ (a:Addr),vs=[.ref a]∧(B_spLaw K a H Q E)
theorem l_spLaw (K:PySem.W.Frag){vs:List V}{H:Hp}{Q:VK}{E:XK}(h:spLaw K vs H Q E):vs.length=1:=spl1 h fun _=>rfl
theorem ok_law (T:Tx K mg t):FnOk P w K mg base CX0 10 t.a_law t.d_law ["_law_script"] (spLaw K):=by
 refine T.F_law.ok c_law (fun vs H Q E h=>l_spLaw _ h) (fun cdv A' outer s H vs Q E hr h=>?_)
 ·obtain ⟨a,rfl,ns,hS,hl,kk⟩:=h
  have G__law_draw:=ok__law_draw (P:=P) (w:=w) (base:=base) T a ns
  have G__law_some:=ok__law_some (P:=P) (w:=w) (base:=base) T a ns
  have G__law_drawn:=ok__law_drawn (P:=P) (w:=w) (base:=base) T
  have G__law_made:=ok__law_made (P:=P) (w:=w) (base:=base) T
  have G_clash:=ok_clash (P:=P) (w:=w) (base:=base) T
  have G__law_clash:=ok__law_clash (P:=P) (w:=w) (base:=base) T
  have G__law_refused:=ok__law_refused (P:=P) (w:=w) (base:=base) T a ns
  have G__law_great:=ok__law_great (P:=P) (w:=w) (base:=base) T a ns
  have G__law_wide:=ok__law_wide (P:=P) (w:=w) (base:=base) T a ns
  refine ⟨_,(@pss_cons _ _ _ _ _ (@ps_set _ _ (1) _ _ _ _ c_law.nd rfl (Or.inr rfl) (@pe_op _ _ _ _ _ _ _ _ on_add (@pe_int _ _ _ _) (@pe_call _ _ _ _ _ _ _ _ _ _ _ _ _ _ _ _ G__law_draw (hr.mono (by decide)) (by rfl) T.m__law_draw T.F__law_draw.kp T.b__law_draw .nil pass0 (@pa_c _ _ _ _ _ (@pvN _ 0 _ _ (by rfl) (by trivial) (by decide) (by decide)) (@pa_c _ _ _ _ _ (@pe_int _ _ _ _) (@pa_c _ _ _ _ _ (@pe_int _ _ _ _) (@pa_nil _) (by rfl)) (by rfl)) (by rfl)) (by decide) (by rfl) (by rfl))) (by rfl) (by trivial)) (@pss_cons _ _ _ _ _ (@ps_set _ _ (2) _ _ _ _ c_law.nd rfl (Or.inr rfl) (@pe_call _ _ _ _ _ _ _ _ _ _ _ _ _ _ _ _ G__law_some (hr.mono (by decide)) (by rfl) T.m__law_some T.F__law_some.kp T.b__law_some .nil pass0 (@pa_c _ _ _ _ _ (@pvN _ 0 _ _ (by rfl) (by trivial) (by decide) (by decide)) (@pa_c _ _ _ _ _ (@pe_int _ _ _ _) (@pa_c _ _ _ _ _ (@pvN _ 1 _ _ (by rfl) (by trivial) (by decide) (by decide)) (@pa_nil _) (by rfl)) (by rfl)) (by rfl)) (by decide) (by rfl) (by rfl)) (by rfl) (by trivial)) (@pss_cons _ _ _ _ _ (@ps_setC _ _ _ _ _ _ _ _ _ _ _ _ _ (["_law_k", "_law_script", "_law_room", "_law_views", "_law_drawn_here", "_law_built", "!_law_k", "_law_j", "_law_found"]) (1) (3) _ c_law.nd rfl (Or.inl rfl) (comp_ok (defScope s_law) ["_law_script", "_law_room", "_law_views", "_law_drawn_here", "_law_built", "_law_k", "_law_j", "_law_found"] rfl rfl (by decide +kernel)) rfl (@pi_range1 _ _ _ _ _ _ (by rfl) T.z_range (@pa_c _ _ _ _ _ (@pe_int _ _ _ _) (@pa_nil _) (by rfl)) (by rfl)) (fun C s₀ H₀ ex pn=>(@pg_name _ _ (0) _ (show List.Nodup (["_law_k", "_law_script", "_law_room", "_law_views", "_law_drawn_here", "_law_built", "!_law_k", "_law_j", "_law_found"]:List Str) from by decide +kernel) rfl (Or.inl rfl) (by trivial))) (fun C s₀ H₀ ex pn=>(@pts_nil _)) (fun C s₀ H₀ ex pn=>(@pe_call _ _ _ _ _ _ _ _ _ _ _ _ _ _ _ _ G__law_drawn (hr.mono (by decide)) (by rfl) T.m__law_drawn T.F__law_drawn.kp T.b__law_drawn .nil pass0 (@pa_c _ _ _ _ _ (@pvN _ 3 _ _ (by rfl) (by trivial) (by decide) (by decide)) (@pa_c _ _ _ _ _ (@pe_call _ _ _ _ _ _ _ _ _ _ _ _ _ _ _ _ G__law_draw (hr.mono (by decide)) (by rfl) T.m__law_draw T.F__law_draw.kp T.b__law_draw .nil pass0 (@pa_c _ _ _ _ _ (@pvN _ 1 _ _ (by rfl) (by trivial) (by decide) (by decide)) (@pa_c _ _ _ _ _ (@pe_op _ _ _ _ _ _ _ _ on_add (@pe_int _ _ _ _) (@pvN _ 0 _ _ (by rfl) (by trivial) (by decide) (by decide))) (@pa_c _ _ _ _ _ (@pe_op _ _ _ _ _ _ _ _ on_pow (@pe_int _ _ _ _) (@pe_int _ _ _ _)) (@pa_nil _) (by rfl)) (by rfl)) (by rfl)) (by decide) (by rfl) (by rfl)) (@pa_nil _) (by rfl)) (by rfl)) (by decide) (by rfl) (by rfl))) (by rfl) (by intros;rfl) (by trivial)) (@pss_cons _ _ _ _ _ (@ps_setC _ _ _ _ _ _ _ _ _ _ _ _ _ (["_law_one", "_law_script", "_law_room", "_law_views", "_law_drawn_here", "_law_built", "_law_k", "_law_j", "_law_found"]) (1) (4) _ c_law.nd rfl (Or.inl rfl) (comp_ok (defScope s_law) ["_law_script", "_law_room", "_law_views", "_law_drawn_here", "_law_built", "_law_k", "_law_j", "_law_found"] rfl rfl (by decide +kernel)) rfl (@pi_seq _ _ _ _ (@pvN _ 3 _ _ (by rfl) (by trivial) (by decide) (by decide))) (fun C s₀ H₀ ex pn=>(@pg_name _ _ (0) _ (show List.Nodup (["_law_one", "_law_script", "_law_room", "_law_views", "_law_drawn_here", "_law_built", "_law_k", "_law_j", "_law_found"]:List Str) from by decide +kernel) rfl (Or.inl rfl) (by trivial))) (fun C s₀ H₀ ex pn=>(@pts_nil _)) (fun C s₀ H₀ ex pn=>(@pe_call _ _ _ _ _ _ _ _ _ _ _ _ _ _ _ _ G__law_made (hr.mono (by decide)) (by rfl) T.m__law_made T.F__law_made.kp T.b__law_made .nil pass0 (@pa_c _ _ _ _ _ (@pvN _ 0 _ _ (by rfl) (by trivial) (by decide) (by decide)) (@pa_c _ _ _ _ _ (@pvN _ 2 _ _ (by rfl) (by trivial) (by decide) (by decide)) (@pa_nil _) (by rfl)) (by rfl)) (by decide) (by rfl) (by rfl))) (by rfl) (by intros;rfl) (by trivial)) (@pss_cons _ _ _ _ _ (@ps_for _ _ _ _ _ _ _ _ PassesOwn.never rfl (@pi_range1 _ _ _ _ _ _ (by rfl) T.z_range (@pa_c _ _ _ _ _ (@pe_int _ _ _ _) (@pa_nil _) (by rfl)) (by rfl)) (@pg_name _ _ (5) _ c_law.nd rfl (Or.inl rfl) (by trivial)) (@pss_one _ _ _ (@ps_for _ _ _ _ _ _ _ _ PassesOwn.never rfl (@pi_range1 _ _ _ _ _ _ (by rfl) T.z_range (@pa_c _ _ _ _ _ (@pe_int _ _ _ _) (@pa_nil _) (by rfl)) (by rfl)) (@pg_name _ _ (6) _ c_law.nd rfl (Or.inl rfl) (by trivial)) (@pss_cons _ _ _ _ _ (@ps_set _ _ (7) _ _ _ _ c_law.nd rfl (Or.inl rfl) (@pe_call _ _ _ _ _ _ _ _ _ _ _ _ _ _ _ _ G_clash (hr.mono (by decide)) (by rfl) T.m_clash T.F_clash.kp T.b_clash .nil pass0 (@pa_c _ _ _ _ _ (@pe_ix _ _ _ _ _ _ _ ix_q (@pvN _ 4 _ _ (by rfl) (by trivial) (by decide) (by decide)) (@pvN _ 5 _ _ (by rfl) (by trivial) (by decide) (by decide)) (fun _ _=>rfl)) (@pa_c _ _ _ _ _ (@pe_ix _ _ _ _ _ _ _ ix_q (@pvN _ 4 _ _ (by rfl) (by trivial) (by decide) (by decide)) (@pvN _ 6 _ _ (by rfl) (by trivial) (by decide) (by decide)) (fun _ _=>rfl)) (@pa_nil _) (by rfl)) (by rfl)) (by decide) (by rfl) (by rfl)) (by rfl) (by trivial)) (@pss_one _ _ _ (@ps_if _ _ _ _ _ _ _ _ (PW.pt (@pw_or _ _ _ _ _ _ _ (@pt_not _ _ _ _ (@pt_valN _ _ _ (@pe_callB _ _ _ _ _ _ _ ("isinstance") _ call_qIsi (by rfl) T.z_isinstance (by decide +kernel) (@pa_c _ _ _ _ _ (@pvN _ 7 _ _ (by rfl) (by trivial) (by decide) (by decide)) (@pa_c _ _ _ _ _ (@pe_bltn _ _ (.ty "bool") (.type "bool") _ (by rfl) T.z_bool (by decide +kernel) rfl (by decide) (by decide)) (@pa_nil _) (by rfl)) (by rfl)) (by decide) (by decide) (by rfl) (by rfl)) (by intros;rfl))) (@pw_or1 _ _ _ _ (@pt_cmpRN _ _ _ _ _ _ _ _ (op_qNe hr.units) (@pvN _ 7 _ _ (by rfl) (by trivial) (by decide) (by decide)) (@pe_call _ _ _ _ _ _ _ _ _ _ _ _ _ _ _ _ G__law_clash (hr.mono (by decide)) (by rfl) T.m__law_clash T.F__law_clash.kp T.b__law_clash .nil pass0 (@pa_c _ _ _ _ _ (@pe_ix _ _ _ _ _ _ _ ix_q (@pvN _ 3 _ _ (by rfl) (by trivial) (by decide) (by decide)) (@pvN _ 5 _ _ (by rfl) (by trivial) (by decide) (by decide)) (fun _ _=>rfl)) (@pa_c _ _ _ _ _ (@pe_ix _ _ _ _ _ _ _ ix_q (@pvN _ 3 _ _ (by rfl) (by trivial) (by decide) (by decide)) (@pvN _ 6 _ _ (by rfl) (by trivial) (by decide) (by decide)) (fun _ _=>rfl)) (@pa_nil _) (by rfl)) (by rfl)) (by decide) (by rfl) (by rfl)) (nomark _))))) (@pss_one _ _ _ (@ps_ret _ _ _ _ (@pe_bl _ _ _ _))) (@pss_nil _)))) (by intros;rfl))) (by intros;rfl)) (@pss_cons _ _ _ _ _ (@ps_if _ _ _ _ _ _ _ _ (PW.pt (@pw_or _ _ _ _ _ _ _ (@pt_not _ _ _ _ (@pt_valN _ _ _ (@pe_call _ _ _ _ _ _ _ _ _ _ _ _ _ _ _ _ G__law_refused (hr.mono (by decide)) (by rfl) T.m__law_refused T.F__law_refused.kp T.b__law_refused .nil pass0 (@pa_c _ _ _ _ _ (@pvN _ 0 _ _ (by rfl) (by trivial) (by decide) (by decide)) (@pa_c _ _ _ _ _ (@pvN _ 1 _ _ (by rfl) (by trivial) (by decide) (by decide)) (@pa_c _ _ _ _ _ (@pe_ix _ _ _ _ _ _ _ ix_q (@pvN _ 2 _ _ (by rfl) (by trivial) (by decide) (by decide)) (@pe_int _ _ _ _) (fun _ _=>rfl)) (@pa_nil _) (by rfl)) (by rfl)) (by rfl)) (by decide) (by rfl) (by rfl)) (by intros;rfl))) (@pw_or1 _ _ _ _ (@pt_not _ _ _ _ (@pt_valN _ _ _ (@pe_call _ _ _ _ _ _ _ _ _ _ _ _ _ _ _ _ G__law_great (hr.mono (by decide)) (by rfl) T.m__law_great T.F__law_great.kp T.b__law_great .nil pass0 (@pa_c _ _ _ _ _ (@pvN _ 0 _ _ (by rfl) (by trivial) (by decide) (by decide)) (@pa_c _ _ _ _ _ (@pvN _ 1 _ _ (by rfl) (by trivial) (by decide) (by decide)) (@pa_nil _) (by rfl)) (by rfl)) (by decide) (by rfl) (by rfl)) (by intros;rfl)))))) (@pss_one _ _ _ (@ps_ret _ _ _ _ (@pe_bl _ _ _ _))) (@pss_nil _)) (@pss_cons _ _ _ _ _ (@ps_if _ _ _ _ _ _ _ _ (PW.pt (@pw_and _ _ _ _ _ _ _ (@pt_cmpRN _ _ _ _ _ _ _ _ (op_qEq hr.units) (@pe_call _ _ _ _ _ _ _ _ _ _ _ _ _ _ _ _ G__law_draw (hr.mono (by decide)) (by rfl) T.m__law_draw T.F__law_draw.kp T.b__law_draw .nil pass0 (@pa_c _ _ _ _ _ (@pvN _ 0 _ _ (by rfl) (by trivial) (by decide) (by decide)) (@pa_c _ _ _ _ _ (@pe_int _ _ _ _) (@pa_c _ _ _ _ _ (@pe_int _ _ _ _) (@pa_nil _) (by rfl)) (by rfl)) (by rfl)) (by decide) (by rfl) (by rfl)) (@pe_int _ _ _ _) (nomark _)) (@pw_and1 _ _ _ _ (@pt_not _ _ _ _ (@pt_valN _ _ _ (@pe_call _ _ _ _ _ _ _ _ _ _ _ _ _ _ _ _ G__law_wide (hr.mono (by decide)) (by rfl) T.m__law_wide T.F__law_wide.kp T.b__law_wide .nil pass0 (@pa_c _ _ _ _ _ (@pvN _ 0 _ _ (by rfl) (by trivial) (by decide) (by decide)) (@pa_nil _) (by rfl)) (by decide) (by rfl) (by rfl)) (by intros;rfl)))))) (@pss_one _ _ _ (@ps_ret _ _ _ _ (@pe_bl _ _ _ _))) (@pss_nil _)) (@pss_one _ _ _ (@ps_ret _ _ _ _ (@pe_cmpR _ _ _ _ _ _ _ _ (op_qEq hr.units) (@pe_call _ _ _ _ _ _ _ _ _ _ _ _ _ _ _ _ G_clash (hr.mono (by decide)) (by rfl) T.m_clash T.F_clash.kp T.b_clash .nil pass0 (@pa_c _ _ _ _ _ (@pe_ix _ _ _ _ _ _ _ ix_q (@pvN _ 4 _ _ (by rfl) (by trivial) (by decide) (by decide)) (@pe_int _ _ _ _) (fun _ _=>rfl)) (@pa_c _ _ _ _ _ (@pe_ix _ _ _ _ _ _ _ ix_q (@pvN _ 4 _ _ (by rfl) (by trivial) (by decide) (by decide)) (@pe_int _ _ _ _) (fun _ _=>rfl)) (@pa_nil _) (by rfl)) (by rfl)) (by decide) (by rfl) (by rfl)) (@pe_call _ _ _ _ _ _ _ _ _ _ _ _ _ _ _ _ G__law_clash (hr.mono (by decide)) (by rfl) T.m__law_clash T.F__law_clash.kp T.b__law_clash .nil pass0 (@pa_c _ _ _ _ _ (@pe_ix _ _ _ _ _ _ _ ix_q (@pvN _ 3 _ _ (by rfl) (by trivial) (by decide) (by decide)) (@pe_int _ _ _ _) (fun _ _=>rfl)) (@pa_c _ _ _ _ _ (@pe_ix _ _ _ _ _ _ _ ix_q (@pvN _ 3 _ _ (by rfl) (by trivial) (by decide) (by decide)) (@pe_int _ _ _ _) (fun _ _=>rfl)) (@pa_nil _) (by rfl)) (by rfl)) (by decide) (by rfl) (by rfl)) (nomark _))))))))))),?_⟩
  rw [show start ["_law_script", "_law_room", "_law_views", "_law_drawn_here", "_law_built", "_law_k", "_law_j", "_law_found"] [.ref a]=[some (.ref a),none,none,none,none,none,none,none] from rfl]
  clear G__law_draw G__law_some G__law_drawn G__law_made G_clash G__law_clash G__law_refused G__law_great G__law_wide
  replace kk:=fun (_:Unit)=>kk
  simp! only [and_true]
  rw [c_spDraw]
  refine ⟨hS,hl,⟨by decide,by decide⟩,by decide,fun d1 d10 d11=>?_⟩
  obtain ⟨room,hro⟩:∃ room,20+d1=room:=⟨_,rfl⟩
  have hr0:20≤room:=by omega
  have hr1:room≤60:=by omega
  simp! only [and_true]
  clear hro d10 d11
  rw [c_spKSome]
  refine ⟨rfl,hS,hl,by decide,by decide,hr0,hr1,fun vr H1 ⟨e1,zs,h1,hzl,vz⟩=>?_⟩
  have hS1:=e1.2 K a _ hS
  replace vz:=fun (_:Unit)=>vz
  clear hS e1
  simp! only [and_true]
  refine comp_rel2 (List.range 8) (fun _=>true) (fun (z:Nat) x H'=>x=.int (0+(z:Int))) (fun D (z:Nat) y H'=>∃ d:Dd,DrD zs H' d y) wk_rng.1 wk_rng.2 (fun D z y H1 H2 h e=>(let ⟨d,q⟩:=h;⟨d,q.ext e⟩)) (fun D z y H1 xs o h hD=>(let ⟨d,q⟩:=h;⟨d,q.upd hD⟩)) (len5000 (by rw [List.length_range];omega)) ?_ ?_
  ·intro D z y H' N1 N0 hz hD e' _ hy k1 _
   subst hy
   have hz8:=List.mem_range.mp hz
   have hS':=e'.2 K a _ hS1
   have h1':=e'.at h1
   have vz':=fun (_:Unit)=>(vz ()).ext e'
   have k1':=k1 rfl
   clear k1 hz hS1 kk h1 vz
   simp! only [↓m_kCm_1,↓m_kCm2]
   rw [c_spDraw]
   refine ⟨hS',hl,⟨by omega,by omega⟩,by decide,fun c c0 c1=>?_⟩
   simp! only [↓m_kCm_1,↓m_kCm2]
   rw [c_spKDrawn]
   refine ⟨room,vr,zs,h1',vz' (),hzl,c0,fun d H2 e2 hd=>?_⟩
   exact k1' _ H2 e2 ⟨d,hd⟩
  intro Dd1 ys1 H2 hD1 e2 h2 al1
  rw [filt] at al1
  obtain ⟨ds,ald,hdl⟩:=al_choose al1
  rw [List.length_range] at hdl
  have hS2:=e2.2 K a _ hS1
  have vz2:=fun (_:Unit)=>(vz ()).ext e2
  have h1_2:=e2.at h1
  have wk:=wk_al (K:=K) (R:=fun d y H'=>DrD zs H' d y) (fun _ _ _ _ h e=>h.ext e) h2 ald
  replace ald:=fun (_:Unit)=>ald
  clear al1 hD1 hS1 h1 vz e2
  simp! only [and_true]
  refine comp_rel2 ds (fun _=>true) (fun d y H'=>DrD zs H' d y) (fun D (d:Dd) y H'=>∃ s,y=.ref s∧StZ t D H' s d.2.1 room (cellsL d.2.2.1.2.1 d.2.2.1.2.2) (cellsL d.2.2.2.2.1 d.2.2.2.2.2)) wk.1 wk.2 (fun D z y H1 H2 h e=>(let ⟨s,a1,q⟩:=h;⟨s,a1,q.ext e⟩)) (fun D z y H1 xs o h hD=>(let ⟨s,a1,q⟩:=h;⟨s,a1,q.upd hD⟩)) (len5000 (by omega)) ?_ ?_
  ·intro D d y H' N1 N0 hz hD e' hDl hy k1 _
   have hda:=hy.a ((vz2 ()).ext e')
   obtain ⟨rfl,_⟩:=hy
   have k1':=k1 rfl
   clear k1 hz kk wk
   simp! only [↓m_kCm_1,↓m_kCm2]
   rw [c_spKMade]
   refine ⟨_,_,_,_,_,hda,by omega,by omega,fun s H3 e3 sf=>?_⟩
   obtain ⟨_,hDl'⟩:=hDl
   exact k1' _ H3 e3 ⟨s,rfl,sf.z hDl'⟩
  intro Db ys2 H3 hDb e3 h3 alb
  rw [filt] at alb
  have hS3:=e3.2 K a _ hS2
  have vz3:=fun (_:Unit)=>(vz2 ()).ext e3
  have h1_3:=e3.at h1_2
  have h2_3:=e3.at h2
  have ald3:Al (fun d y=>DrD zs H3 d y) ds ys1:=(ald ()).imp fun _ _ t=>t.ext e3
  have CL:∀ (i j:Nat),i < 8->j < 8->∀ (H':Hp),Ext H3 H'->∃ (s1 s2 x1 x2:Addr) (X:Prop),atI ys2 (0+(i:Int))=some (.ref s1)∧atI ys2 (0+(j:Int))=some (.ref s2)∧atI ys1 (0+(i:Int))=some (.ref x1)∧atI ys1 (0+(j:Int))=some (.ref x2)∧(∀ (H4:Hp) (Q:VK),Ext H3 H4->(∀ (b:Bool) H'',Ext H4 H''->(b=true ↔ X)->Q (.bl b) H'')->spClash t [.ref s1,.ref s2] H4 Q E0)∧(∀ (H4:Hp) (Q:VK),Ext H3 H4->(∀ (b:Bool) H'',Ext H4 H''->(b=true ↔ X)->Q (.bl b) H'')->spKClash [.ref x1,.ref x2] H4 Q E0):=fun i j hi hj H' e'=>by
   obtain ⟨_,_,⟨s1,rfl,st1⟩,a1⟩:=al_at alb (i:=i) (by omega)
   obtain ⟨_,_,⟨s2,rfl,st2⟩,a2⟩:=al_at alb (i:=j) (by omega)
   obtain ⟨y1,_,dr1,b1⟩:=al_at ald3 (i:=i) (by omega)
   obtain ⟨y2,_,dr2,b2⟩:=al_at ald3 (i:=j) (by omega)
   rw [dr1.1] at b1
   rw [dr2.1] at b2
   refine ⟨s1,s2,_,_,_,a1,a2,b1,b2,fun H4 Q e4 k=>use_clash (st1.v.ext e4) (st2.v.ext e4) k,fun H4 Q e4 k=>?_⟩
   rw [c_spKClash]
   exact ⟨room,_,_,_,_,_,_,_,_,_,_,(dr1.ext e4).a ((vz3 ()).ext e4),(dr2.ext e4).a ((vz3 ()).ext e4),k⟩
  replace CL:=fun (_:Unit)=>CL
  clear alb ald3 ald wk hDb hS2 h1_2 h2 vz2 e3
  simp! only [and_true]
  refine for_rng (fun i σ H'=>∃ v5 v6 v7:Option V,σ=[some (.ref a),some (.int room),some (.ref vr),some (.ref Dd1),some (.ref Db),v5,v6,v7]∧Ext H3 H') ⟨none,none,none,rfl,Ext.refl _⟩ ?_ ?_
  ·clear kk
   rintro i _ H4 hi ⟨v5,v6,v7,rfl,e4⟩
   have hi8:i < 8:=hi
   clear hi
   simp! only [↓m_kBody]
   refine for_rng (fun j σ H'=>∃ v6 v7:Option V,σ=[some (.ref a),some (.int room),some (.ref vr),some (.ref Dd1),some (.ref Db),some (.int (0+(i:Int))),v6,v7]∧Ext H3 H') ⟨_,_,rfl,e4⟩ ?_ ?_
   ·clear e4
    rintro j _ H5 hj ⟨v6,v7,rfl,e5⟩
    have hj8:j < 8:=hj
    obtain ⟨s1,s2,x1,x2,X,a1,a2,b1,b2,c1,c2⟩:=CL () i j hi8 hj8 H5 e5
    have h3_5:=e5.at h3
    have h2_5:=e5.at h2_3
    replace c1:=fun (_:Unit)=>c1
    replace c2:=fun (_:Unit)=>c2
    clear hj h3 h2_3
    simp! only [↓m_kBody]
    refine c1 () H5 _ e5 fun p1 H6 e6 hp1=>?_
    have h2_6:=e6.at h2_5
    clear h3_5 h2_5
    simp! only [and_true]
    refine c2 () H6 _ (e5.trans e6) fun p2 H7 e7 hp2=>?_
    have hpp:p1=p2:=Bool.eq_iff_iff.mpr (hp1.trans hp2.symm)
    have ef:=e5.trans (e6.trans e7)
    subst hpp
    clear hp1 hp2 c1 c2 h2_6 e6 e7 e5
    cases p1 with
    | true=>
     simp! only [and_true]
     exact ⟨_,_,rfl,ef⟩
    | false=>
     simp! only [and_true]
     exact ⟨_,_,rfl,ef⟩
   ·rintro _ H5 ⟨v6,v7,rfl,e5⟩
    simp! only [and_true]
    exact ⟨_,_,_,rfl,e5⟩
  ·rintro _ H4 ⟨v5,v6,v7,rfl,e4⟩
   obtain ⟨z0,zr,hz0⟩:∃ z0 zr,zs=z0::zr:=by
    cases zs with
    | nil=>cases hzl
    | cons x y=>exact ⟨x,y,rfl⟩
   have hat:atI (zs.map fun z=>V.ref z.1) 0=some (.ref z0.1):=by rw [hz0];exact atI_nat (j:=0) rfl
   obtain ⟨dv0,sv0⟩:=((vz3 ()).ext e4).dv (z:=z0) (by rw [hz0];exact List.mem_cons_self)
   have h1_4:=e4.at h1_3
   have hS4:=e4.2 K a _ hS3
   replace hz0:=fun (_:Unit)=>hz0
   simp! only [and_true]
   rw [c_spKRefu]
   refine ⟨rfl,hS4,hl,hr0,hr1,_,_,dv0,sv0,fun H5 e5=>?_⟩
   have hS5:=e5.2 K a _ hS4
   simp! only [and_true]
   rw [c_spKGreat]
   refine ⟨rfl,hS5,hl,hr0,hr1,fun H6 e6=>?_⟩
   have hS6:=e6.2 K a _ hS5
   have e36:=e4.trans (e5.trans e6)
   clear dv0 hat h1_4 hS4 hS5
   simp! only [-m_tIfS]
   refine if_gen (fun σ' H'=>σ'=[some (.ref a),some (.int room),some (.ref vr),some (.ref Dd1),some (.ref Db),v5,v6,v7]∧Ext H3 H') (fun nx' hn=>?_) ?_
   ·replace hn:=fun (_:Unit)=>hn
    clear kk
    simp! only [and_true]
    rw [c_spDraw]
    refine ⟨hS6,hl,⟨by decide,by decide⟩,by decide,fun d d0 d1=>?_⟩
    by_cases hd:d=1
    ·simp! only [and_true]
     rw [c_spKWide]
     refine ⟨rfl,hS6,hl,fun H7 e7=>?_⟩
     simp! only [and_true]
     exact hn () _ _ ⟨rfl,e36.trans e7⟩
    ·simp! only [and_true]
     exact hn () _ _ ⟨rfl,e36⟩
   rintro _ H7 ⟨rfl,e7⟩
   obtain ⟨s1,s2,x1,x2,X,a1,a2,b1,b2,c1,c2⟩:=CL () 0 1 (by decide) (by decide) H7 e7
   have a1':atI ys2 0=some (.ref s1):=a1
   have a2':atI ys2 1=some (.ref s2):=a2
   have b1':atI ys1 0=some (.ref x1):=b1
   have b2':atI ys1 1=some (.ref x2):=b2
   have h3_7:=e7.at h3
   have h2_7:=e7.at h2_3
   replace c1:=fun (_:Unit)=>c1
   replace c2:=fun (_:Unit)=>c2
   clear h3 h2_3 a1 a2 b1 b2 hS6
   simp! only [and_true]
   refine c1 () H7 _ e7 fun p1 H8 e8 hp1=>?_
   have h2_8:=e8.at h2_7
   clear h3_7 h2_7
   simp! only [and_true]
   refine c2 () H8 _ (e7.trans e8) fun p2 H9 e9 hp2=>?_
   have hpp:p1=p2:=Bool.eq_iff_iff.mpr (hp1.trans hp2.symm)
   have k2:=kk () H9
   subst hpp
   clear hp1 hp2 c1 c2 kk
   cases p1 with
   | true=>simp! only [and_true]
   | false=>simp! only [and_true]
end
theorem all_mk {l:PySem.W.OpenLaw}{w:World}{K:PySem.W.Frag}{h:Heap}{mg:Str->Option Value}{fa:Addr}(X:K.In h) (G:h.Ns mainGlobals mg) (hfa:mg "law"=some (.ref fa))
  {C0:Addr} (y0:PySem.W.nsIn K mainGlobals "PaceError"=some (some (.ref C0)))
  {C1:Addr} (y1:PySem.W.nsIn K mainGlobals "NoPlace"=some (some (.ref C1)))
  {C2:Addr} (y2:PySem.W.nsIn K mainGlobals "NoView"=some (some (.ref C2)))
  {C3:Addr} (y3:PySem.W.nsIn K mainGlobals "NoCount"=some (some (.ref C3)))
  {C4:Addr} (y4:PySem.W.nsIn K mainGlobals "NoPair"=some (some (.ref C4)))
  {C5:Addr} (y5:PySem.W.nsIn K mainGlobals "TooMany"=some (some (.ref C5)))
  {C6:Addr} (y6:PySem.W.nsIn K mainGlobals "View"=some (some (.ref C6)))
  {C7:Addr} (y7:PySem.W.nsIn K mainGlobals "Statement"=some (some (.ref C7)))
  {C8:Addr} (y8:PySem.W.nsIn K mainGlobals "Fill"=some (some (.ref C8)))
  {C9:Addr} (y9:PySem.W.nsIn K mainGlobals "Copy"=some (some (.ref C9)))
  {C10:Addr} (y10:PySem.W.nsIn K mainGlobals "Swap"=some (some (.ref C10)))
  {C11:Addr} (y11:PySem.W.nsIn K mainGlobals "Raise"=some (some (.ref C11)))
  (o_NoPair:PySem.W.excIn K C4 [.type "ValueError",.type "Exception",.type "BaseException",.type "object"] "ValueError.__new__"=true)
  (x_NoPair_PaceError:PySem.W.exmOne K (.ref C4) (.ref C0)=some true)
  (x_TooMany_PaceError:PySem.W.exmOne K (.ref C5) (.ref C0)=some true)
  (ocs:PySem.W.specialIn K (.builtin "object.__class__") "__get__"=some (some (.builtin "getset_descriptor.__get__")))
  (oct:PySem.W.takesIn K (.builtin "object.__class__")=some true)
  (ga_NoPair:PySem.W.findIn K (.ref C4) "__getattribute__"=some (some (.builtin "BaseException.__getattribute__")))
  (gn_NoPair:PySem.W.findIn K (.ref C4) "__getattr__"=some none)
  (mb_NoPair:PySem.W.mroIn K C4 (.type "BaseException")=some true)
  (mo_NoPair:PySem.W.mroIn K C4 (.type "object")=some true)
  (fc_NoPair:PySem.W.findIn K (.ref C4) "__class__"=some (some (.builtin "object.__class__")))
  (hd_NoPair:PySem.W.hasDictIn K C4=true)
  (ga_TooMany:PySem.W.findIn K (.ref C5) "__getattribute__"=some (some (.builtin "BaseException.__getattribute__")))
  (gn_TooMany:PySem.W.findIn K (.ref C5) "__getattr__"=some none)
  (mb_TooMany:PySem.W.mroIn K C5 (.type "BaseException")=some true)
  (mo_TooMany:PySem.W.mroIn K C5 (.type "object")=some true)
  (fc_TooMany:PySem.W.findIn K (.ref C5) "__class__"=some (some (.builtin "object.__class__")))
  (hd_TooMany:PySem.W.hasDictIn K C5=true)
  (kc_NoPair_NoPair:PySem.W.hasDictIn K C4=true)
  (kt_NoPair_NoPair:PySem.W.typeIn K (.ref C4)=some (.type "type"))
  (ks_NoPair_NoPair:PySem.W.subIn K (.ref C4) (.ref C4)=some true)
  (kc_TooMany_NoPair:PySem.W.hasDictIn K C4=true)
  (kt_TooMany_NoPair:PySem.W.typeIn K (.ref C4)=some (.type "type"))
  (ks_TooMany_NoPair:PySem.W.subIn K (.ref C5) (.ref C4)=some false)
  (kn_TooMany_NoPair:(C5 == C4)=false)
  (kc_NoPair_TooMany:PySem.W.hasDictIn K C5=true)
  (kt_NoPair_TooMany:PySem.W.typeIn K (.ref C5)=some (.type "type"))
  (ks_NoPair_TooMany:PySem.W.subIn K (.ref C4) (.ref C5)=some false)
  (kn_NoPair_TooMany:(C4 == C5)=false)
  (kc_TooMany_TooMany:PySem.W.hasDictIn K C5=true)
  (kt_TooMany_TooMany:PySem.W.typeIn K (.ref C5)=some (.type "type"))
  (ks_TooMany_TooMany:PySem.W.subIn K (.ref C5) (.ref C5)=some true)
  (kc_NoPair_NoCount:PySem.W.hasDictIn K C3=true)
  (kt_NoPair_NoCount:PySem.W.typeIn K (.ref C3)=some (.type "type"))
  (ks_NoPair_NoCount:PySem.W.subIn K (.ref C4) (.ref C3)=some false)
  (kn_NoPair_NoCount:(C4 == C3)=false)
  (kc_TooMany_NoCount:PySem.W.hasDictIn K C3=true)
  (kt_TooMany_NoCount:PySem.W.typeIn K (.ref C3)=some (.type "type"))
  (ks_TooMany_NoCount:PySem.W.subIn K (.ref C5) (.ref C3)=some false)
  (kn_TooMany_NoCount:(C5 == C3)=false)
  (kc_NoPair_NoView:PySem.W.hasDictIn K C2=true)
  (kt_NoPair_NoView:PySem.W.typeIn K (.ref C2)=some (.type "type"))
  (ks_NoPair_NoView:PySem.W.subIn K (.ref C4) (.ref C2)=some false)
  (kn_NoPair_NoView:(C4 == C2)=false)
  (kc_TooMany_NoView:PySem.W.hasDictIn K C2=true)
  (kt_TooMany_NoView:PySem.W.typeIn K (.ref C2)=some (.type "type"))
  (ks_TooMany_NoView:PySem.W.subIn K (.ref C5) (.ref C2)=some false)
  (kn_TooMany_NoView:(C5 == C2)=false)
  (ks_NoPair_ValueError:PySem.W.subIn K (.ref C4) (.type "ValueError")=some true)
  (ks_TooMany_ValueError:PySem.W.subIn K (.ref C5) (.type "ValueError")=some true)
  {f0:Addr} {d0:FuncData} (F0:Fun K "__init__" "TooMany.__init__" s_TooMany___init__ f0 d0)
  {f1:Addr} {d1:FuncData} (a1:PySem.W.nsIn K mainGlobals "is_whole"=some (some (.ref f1))) (F1:Fun K "is_whole" "is_whole" s_is_whole f1 d1)
  {f2:Addr} {d2:FuncData} (a2:PySem.W.nsIn K mainGlobals "count_of"=some (some (.ref f2))) (F2:Fun K "count_of" "count_of" s_count_of f2 d2)
  {f3:Addr} {d3:FuncData} (a3:PySem.W.nsIn K mainGlobals "is_number_below"=some (some (.ref f3))) (F3:Fun K "is_number_below" "is_number_below" s_is_number_below f3 d3)
  {f4:Addr} {d4:FuncData} (a4:PySem.W.nsIn K mainGlobals "is_place"=some (some (.ref f4))) (F4:Fun K "is_place" "is_place" s_is_place f4 d4)
  {f5:Addr} {d5:FuncData} (a5:PySem.W.nsIn K mainGlobals "refuse_long"=some (some (.ref f5))) (F5:Fun K "refuse_long" "refuse_long" s_refuse_long f5 d5)
  {f6:Addr} {d6:FuncData} (a6:PySem.W.nsIn K mainGlobals "is_within"=some (some (.ref f6))) (F6:Fun K "is_within" "is_within" s_is_within f6 d6)
  {f7:Addr} {d7:FuncData} (a7:PySem.W.nsIn K mainGlobals "is_size"=some (some (.ref f7))) (F7:Fun K "is_size" "is_size" s_is_size f7 d7)
  {f8:Addr} {d8:FuncData} (a8:PySem.W.nsIn K mainGlobals "is_axis"=some (some (.ref f8))) (F8:Fun K "is_axis" "is_axis" s_is_axis f8 d8)
  {f9:Addr} {d9:FuncData} (a9:PySem.W.nsIn K mainGlobals "are_axes"=some (some (.ref f9))) (F9:Fun K "are_axes" "are_axes" s_are_axes f9 d9)
  {f10:Addr} {d10:FuncData} (a10:PySem.W.nsIn K mainGlobals "kept_axis"=some (some (.ref f10))) (F10:Fun K "kept_axis" "kept_axis" s_kept_axis f10 d10)
  {f11:Addr} {d11:FuncData} (F11:Fun K "__init__" "View.__init__" s_View___init__ f11 d11)
  {f12:Addr} {d12:FuncData} (F12:Fun K "sizes" "View.sizes" s_View_sizes f12 d12)
  {f13:Addr} {d13:FuncData} (F13:Fun K "paces" "View.paces" s_View_paces f13 d13)
  {f14:Addr} {d14:FuncData} (F14:Fun K "count" "View.count" s_View_count f14 d14)
  {f15:Addr} {d15:FuncData} (F15:Fun K "cell" "View.cell" s_View_cell f15 d15)
  {f16:Addr} {d16:FuncData} (F16:Fun K "cells" "View.cells" s_View_cells f16 d16)
  {f17:Addr} {d17:FuncData} (F17:Fun K "least" "View.least" s_View_least f17 d17)
  {f18:Addr} {d18:FuncData} (F18:Fun K "greatest" "View.greatest" s_View_greatest f18 d18)
  {f19:Addr} {d19:FuncData} (a19:PySem.W.nsIn K mainGlobals "widened"=some (some (.ref f19))) (F19:Fun K "widened" "widened" s_widened f19 d19)
  {f20:Addr} {d20:FuncData} (a20:PySem.W.nsIn K mainGlobals "refuse_rooms"=some (some (.ref f20))) (F20:Fun K "refuse_rooms" "refuse_rooms" s_refuse_rooms f20 d20)
  {f21:Addr} {d21:FuncData} (a21:PySem.W.nsIn K mainGlobals "refuse_count"=some (some (.ref f21))) (F21:Fun K "refuse_count" "refuse_count" s_refuse_count f21 d21)
  {f22:Addr} {d22:FuncData} (a22:PySem.W.nsIn K mainGlobals "refuse_two"=some (some (.ref f22))) (F22:Fun K "refuse_two" "refuse_two" s_refuse_two f22 d22)
  {f23:Addr} {d23:FuncData} (F23:Fun K "writes" "Statement.writes" s_Statement_writes f23 d23)
  {f24:Addr} {d24:FuncData} (F24:Fun K "reads" "Statement.reads" s_Statement_reads f24 d24)
  {f25:Addr} {d25:FuncData} (F25:Fun K "__init__" "Fill.__init__" s_Fill___init__ f25 d25)
  {f26:Addr} {d26:FuncData} (F26:Fun K "writes" "Fill.writes" s_Fill_writes f26 d26)
  {f27:Addr} {d27:FuncData} (F27:Fun K "__init__" "Copy.__init__" s_Copy___init__ f27 d27)
  {f28:Addr} {d28:FuncData} (F28:Fun K "writes" "Copy.writes" s_Copy_writes f28 d28)
  {f29:Addr} {d29:FuncData} (F29:Fun K "reads" "Copy.reads" s_Copy_reads f29 d29)
  {f30:Addr} {d30:FuncData} (F30:Fun K "__init__" "Swap.__init__" s_Swap___init__ f30 d30)
  {f31:Addr} {d31:FuncData} (F31:Fun K "writes" "Swap.writes" s_Swap_writes f31 d31)
  {f32:Addr} {d32:FuncData} (F32:Fun K "reads" "Swap.reads" s_Swap_reads f32 d32)
  {f33:Addr} {d33:FuncData} (F33:Fun K "__init__" "Raise.__init__" s_Raise___init__ f33 d33)
  {f34:Addr} {d34:FuncData} (F34:Fun K "writes" "Raise.writes" s_Raise_writes f34 d34)
  {f35:Addr} {d35:FuncData} (F35:Fun K "reads" "Raise.reads" s_Raise_reads f35 d35)
  {f36:Addr} {d36:FuncData} (a36:PySem.W.nsIn K mainGlobals "views_of"=some (some (.ref f36))) (F36:Fun K "views_of" "views_of" s_views_of f36 d36)
  {f37:Addr} {d37:FuncData} (a37:PySem.W.nsIn K mainGlobals "refuse_views"=some (some (.ref f37))) (F37:Fun K "refuse_views" "refuse_views" s_refuse_views f37 d37)
  {f38:Addr} {d38:FuncData} (a38:PySem.W.nsIn K mainGlobals "cells_of"=some (some (.ref f38))) (F38:Fun K "cells_of" "cells_of" s_cells_of f38 d38)
  {f39:Addr} {d39:FuncData} (a39:PySem.W.nsIn K mainGlobals "meet"=some (some (.ref f39))) (F39:Fun K "meet" "meet" s_meet f39 d39)
  {f40:Addr} {d40:FuncData} (a40:PySem.W.nsIn K mainGlobals "clash"=some (some (.ref f40))) (F40:Fun K "clash" "clash" s_clash f40 d40)
  {f41:Addr} {d41:FuncData} (a41:PySem.W.nsIn K mainGlobals "_law_draw"=some (some (.ref f41))) (F41:Fun K "_law_draw" "_law_draw" s__law_draw f41 d41)
  {f42:Addr} {d42:FuncData} (a42:PySem.W.nsIn K mainGlobals "_law_whole"=some (some (.ref f42))) (F42:Fun K "_law_whole" "_law_whole" s__law_whole f42 d42)
  {f43:Addr} {d43:FuncData} (a43:PySem.W.nsIn K mainGlobals "_law_cells"=some (some (.ref f43))) (F43:Fun K "_law_cells" "_law_cells" s__law_cells f43 d43)
  {f44:Addr} {d44:FuncData} (a44:PySem.W.nsIn K mainGlobals "_law_some"=some (some (.ref f44))) (F44:Fun K "_law_some" "_law_some" s__law_some f44 d44)
  {f45:Addr} {d45:FuncData} (a45:PySem.W.nsIn K mainGlobals "_law_drawn"=some (some (.ref f45))) (F45:Fun K "_law_drawn" "_law_drawn" s__law_drawn f45 d45)
  {f46:Addr} {d46:FuncData} (a46:PySem.W.nsIn K mainGlobals "_law_count"=some (some (.ref f46))) (F46:Fun K "_law_count" "_law_count" s__law_count f46 d46)
  {f47:Addr} {d47:FuncData} (a47:PySem.W.nsIn K mainGlobals "_law_made"=some (some (.ref f47))) (F47:Fun K "_law_made" "_law_made" s__law_made f47 d47)
  {f48:Addr} {d48:FuncData} (a48:PySem.W.nsIn K mainGlobals "_law_touched"=some (some (.ref f48))) (F48:Fun K "_law_touched" "_law_touched" s__law_touched f48 d48)
  {f49:Addr} {d49:FuncData} (a49:PySem.W.nsIn K mainGlobals "_law_clash"=some (some (.ref f49))) (F49:Fun K "_law_clash" "_law_clash" s__law_clash f49 d49)
  {f50:Addr} {d50:FuncData} (a50:PySem.W.nsIn K mainGlobals "_law_told"=some (some (.ref f50))) (F50:Fun K "_law_told" "_law_told" s__law_told f50 d50)
  {f51:Addr} {d51:FuncData} (a51:PySem.W.nsIn K mainGlobals "_law_refused"=some (some (.ref f51))) (F51:Fun K "_law_refused" "_law_refused" s__law_refused f51 d51)
  {f52:Addr} {d52:FuncData} (a52:PySem.W.nsIn K mainGlobals "_law_great"=some (some (.ref f52))) (F52:Fun K "_law_great" "_law_great" s__law_great f52 d52)
  {f53:Addr} {d53:FuncData} (a53:PySem.W.nsIn K mainGlobals "_law_wide"=some (some (.ref f53))) (F53:Fun K "_law_wide" "_law_wide" s__law_wide f53 d53)
  {f54:Addr} {od54 an54:Option Addr} {sl54:Array (Option Value)} {oc54 kV54 dc54 pm54 cd54 ct54:Value}
  (a54:PySem.W.nsIn K mainGlobals "law"=some (some (.ref f54))) (l54:K.lookup f54=some ⟨oc54,od54,.func (PySem.W.fnOf "law" "law" (defArgs s_law) (defBody s_law) (defScope s_law) .none kV54 dc54 pm54 an54 cd54 ct54),sl54⟩)
  (c54:PySem.W.codeIn K cd54 "law"=true) (k54:PySem.W.keepIn K (.ref f54)=true)
  (fi_TooMany:PySem.W.findIn K (.ref C5) "__init__"=some (some (.ref f0)))
  (xe_TooMany:excInI K C5 f0 [.type "ValueError",.type "Exception",.type "BaseException",.type "object"] "ValueError.__new__"=true)
  (xf_TooMany:PySem.W.typeIn K (.ref f0)=some (.type "function"))
  (xo_TooMany:excOver K C5=true)
  (xs_TooMany:PySem.W.findIn K (.ref C5) "__setattr__"=some (some (.builtin "object.__setattr__")))
  (xh_TooMany:PySem.W.hasDictIn K C5=true)
  (nt_TooMany_number:PySem.W.takerIn K C5 "number"=some none)
  (nf_TooMany_number:PySem.W.findIn K (.ref C5) "number"=some none)
  (bs_PaceError:PySem.W.specialIn K (.ref C0) "__getattribute__"=some (some (.builtin "type.__getattribute__")))
  (br_PaceError:PySem.W.readsIn K C0 (.type "type")=true)
  (bf_PaceError:PySem.W.findCls K (.ref C0) (.type "type") "__init__"=some (.val (.builtin "ValueError.__init__")))
  (pg_View:PySem.W.plainGet K C6 Str.empty=true)
  (hd_View:PySem.W.hasDictIn K C6=true)
  (po_View:PySem.W.plainOver K C6=true)
  (sa_View:PySem.W.findIn K (.ref C6) "__setattr__"=some (some (.builtin "object.__setattr__")))
  (nf_View_axes:PySem.W.findIn K (.ref C6) "axes"=some none)
  (nf_View_first:PySem.W.findIn K (.ref C6) "first"=some none)
  (nf_View_room:PySem.W.findIn K (.ref C6) "room"=some none)
  (fi_View___init__:PySem.W.findIn K (.ref C6) "__init__"=some (some (.ref f11)))
  (fn_View___init__:PySem.W.isFn K (.ref f11)=true)
  (mm_View:PySem.W.makesIn K C6=true)
  (ck_View:PySem.W.keepIn K (.ref C6)=true)
  (fi_View_sizes:PySem.W.findIn K (.ref C6) "sizes"=some (some (.ref f12)))
  (fn_View_sizes:PySem.W.isFn K (.ref f12)=true)
  (fi_View_paces:PySem.W.findIn K (.ref C6) "paces"=some (some (.ref f13)))
  (fn_View_paces:PySem.W.isFn K (.ref f13)=true)
  (fi_View_count:PySem.W.findIn K (.ref C6) "count"=some (some (.ref f14)))
  (fn_View_count:PySem.W.isFn K (.ref f14)=true)
  (fi_View_cell:PySem.W.findIn K (.ref C6) "cell"=some (some (.ref f15)))
  (fn_View_cell:PySem.W.isFn K (.ref f15)=true)
  (fi_View_cells:PySem.W.findIn K (.ref C6) "cells"=some (some (.ref f16)))
  (fn_View_cells:PySem.W.isFn K (.ref f16)=true)
  (fi_View_least:PySem.W.findIn K (.ref C6) "least"=some (some (.ref f17)))
  (fn_View_least:PySem.W.isFn K (.ref f17)=true)
  (fi_View_greatest:PySem.W.findIn K (.ref C6) "greatest"=some (some (.ref f18)))
  (fn_View_greatest:PySem.W.isFn K (.ref f18)=true)
  (pg_Statement:PySem.W.plainGet K C7 Str.empty=true)
  (hd_Statement:PySem.W.hasDictIn K C7=true)
  (po_Statement:PySem.W.plainOver K C7=true)
  (sa_Statement:PySem.W.findIn K (.ref C7) "__setattr__"=some (some (.builtin "object.__setattr__")))
  (mm_Statement:PySem.W.makesIn K C7=true)
  (ck_Statement:PySem.W.keepIn K (.ref C7)=true)
  (fi0_Statement:PySem.W.findIn K (.ref C7) "__init__"=some (some (.builtin "object.__init__")))
  (fi_Statement_writes:PySem.W.findIn K (.ref C7) "writes"=some (some (.ref f23)))
  (fn_Statement_writes:PySem.W.isFn K (.ref f23)=true)
  (fi_Statement_reads:PySem.W.findIn K (.ref C7) "reads"=some (some (.ref f24)))
  (fn_Statement_reads:PySem.W.isFn K (.ref f24)=true)
  (pg_Fill:PySem.W.plainGet K C8 Str.empty=true)
  (hd_Fill:PySem.W.hasDictIn K C8=true)
  (po_Fill:PySem.W.plainOver K C8=true)
  (sa_Fill:PySem.W.findIn K (.ref C8) "__setattr__"=some (some (.builtin "object.__setattr__")))
  (nf_Fill_to:PySem.W.findIn K (.ref C8) "to"=some none)
  (nf_Fill_value:PySem.W.findIn K (.ref C8) "value"=some none)
  (fi_Fill_writes:PySem.W.findIn K (.ref C8) "writes"=some (some (.ref f26)))
  (fn_Fill_writes:PySem.W.isFn K (.ref f26)=true)
  (fi_Fill_reads:PySem.W.findIn K (.ref C8) "reads"=some (some (.ref f24)))
  (fn_Fill_reads:PySem.W.isFn K (.ref f24)=true)
  (fi_Fill___init__:PySem.W.findIn K (.ref C8) "__init__"=some (some (.ref f25)))
  (fn_Fill___init__:PySem.W.isFn K (.ref f25)=true)
  (mm_Fill:PySem.W.makesIn K C8=true)
  (ck_Fill:PySem.W.keepIn K (.ref C8)=true)
  (pg_Copy:PySem.W.plainGet K C9 Str.empty=true)
  (hd_Copy:PySem.W.hasDictIn K C9=true)
  (po_Copy:PySem.W.plainOver K C9=true)
  (sa_Copy:PySem.W.findIn K (.ref C9) "__setattr__"=some (some (.builtin "object.__setattr__")))
  (nf_Copy_source:PySem.W.findIn K (.ref C9) "source"=some none)
  (nf_Copy_to:PySem.W.findIn K (.ref C9) "to"=some none)
  (fi_Copy_writes:PySem.W.findIn K (.ref C9) "writes"=some (some (.ref f28)))
  (fn_Copy_writes:PySem.W.isFn K (.ref f28)=true)
  (fi_Copy_reads:PySem.W.findIn K (.ref C9) "reads"=some (some (.ref f29)))
  (fn_Copy_reads:PySem.W.isFn K (.ref f29)=true)
  (fi_Copy___init__:PySem.W.findIn K (.ref C9) "__init__"=some (some (.ref f27)))
  (fn_Copy___init__:PySem.W.isFn K (.ref f27)=true)
  (mm_Copy:PySem.W.makesIn K C9=true)
  (ck_Copy:PySem.W.keepIn K (.ref C9)=true)
  (pg_Swap:PySem.W.plainGet K C10 Str.empty=true)
  (hd_Swap:PySem.W.hasDictIn K C10=true)
  (po_Swap:PySem.W.plainOver K C10=true)
  (sa_Swap:PySem.W.findIn K (.ref C10) "__setattr__"=some (some (.builtin "object.__setattr__")))
  (nf_Swap_one:PySem.W.findIn K (.ref C10) "one"=some none)
  (nf_Swap_other:PySem.W.findIn K (.ref C10) "other"=some none)
  (fi_Swap_writes:PySem.W.findIn K (.ref C10) "writes"=some (some (.ref f31)))
  (fn_Swap_writes:PySem.W.isFn K (.ref f31)=true)
  (fi_Swap_reads:PySem.W.findIn K (.ref C10) "reads"=some (some (.ref f32)))
  (fn_Swap_reads:PySem.W.isFn K (.ref f32)=true)
  (fi_Swap___init__:PySem.W.findIn K (.ref C10) "__init__"=some (some (.ref f30)))
  (fn_Swap___init__:PySem.W.isFn K (.ref f30)=true)
  (mm_Swap:PySem.W.makesIn K C10=true)
  (ck_Swap:PySem.W.keepIn K (.ref C10)=true)
  (pg_Raise:PySem.W.plainGet K C11 Str.empty=true)
  (hd_Raise:PySem.W.hasDictIn K C11=true)
  (po_Raise:PySem.W.plainOver K C11=true)
  (sa_Raise:PySem.W.findIn K (.ref C11) "__setattr__"=some (some (.builtin "object.__setattr__")))
  (nf_Raise_source:PySem.W.findIn K (.ref C11) "source"=some none)
  (nf_Raise_to:PySem.W.findIn K (.ref C11) "to"=some none)
  (fi_Raise_writes:PySem.W.findIn K (.ref C11) "writes"=some (some (.ref f34)))
  (fn_Raise_writes:PySem.W.isFn K (.ref f34)=true)
  (fi_Raise_reads:PySem.W.findIn K (.ref C11) "reads"=some (some (.ref f35)))
  (fn_Raise_reads:PySem.W.isFn K (.ref f35)=true)
  (fi_Raise___init__:PySem.W.findIn K (.ref C11) "__init__"=some (some (.ref f33)))
  (fn_Raise___init__:PySem.W.isFn K (.ref f33)=true)
  (mm_Raise:PySem.W.makesIn K C11=true)
  (ck_Raise:PySem.W.keepIn K (.ref C11)=true)
  {tk0:Tok} (w0:PySem.W.nsIn K mainGlobals "MOST_TOLD"=some (some (.int 4096 tk0)))
  {tk1:Tok} (w1:PySem.W.nsIn K mainGlobals "MOST_ROOM"=some (some (.int 1000000000000000000 tk1)))
  {tk2:Tok} (w2:PySem.W.nsIn K mainGlobals "MOST_SIZE"=some (some (.int 1000000000 tk2)))
  {tk3:Tok} (w3:PySem.W.nsIn K mainGlobals "MOST_AXES"=some (some (.int 8 tk3)))
  (z0:PySem.W.nsIn K mainGlobals "ValueError"=some none)
  (z1:PySem.W.nsIn K mainGlobals "all"=some none)
  (z2:PySem.W.nsIn K mainGlobals "any"=some none)
  (z3:PySem.W.nsIn K mainGlobals "bool"=some none)
  (z4:PySem.W.nsIn K mainGlobals "int"=some none)
  (z5:PySem.W.nsIn K mainGlobals "isinstance"=some none)
  (z6:PySem.W.nsIn K mainGlobals "len"=some none)
  (z7:PySem.W.nsIn K mainGlobals "list"=some none)
  (z8:PySem.W.nsIn K mainGlobals "max"=some none)
  (z9:PySem.W.nsIn K mainGlobals "min"=some none)
  (z10:PySem.W.nsIn K mainGlobals "range"=some none)
  (z11:PySem.W.nsIn K mainGlobals "sum"=some none)
  (z12:PySem.W.nsIn K mainGlobals "tuple"=some none)
  (z13:PySem.W.nsIn K mainGlobals "zip"=some none)
  : ∃ fd:FuncData,(∀ (s:Shared) (v:Value),BindsTo s fd ⟨[v],[]⟩ [("_law_script",v)])∧∀ base:Heap,K.In base->base.Ns mainGlobals mg->FnOk l.prog w K mg base CX0 10 fa fd ["_law_script"] (spLaw K):=by
 have e:=hfa.symm.trans (PySem.W.mg_of X G a54)
 cases e
 have F54:=fun_mk (st:=s_law) l54 c54 k54
 have T:Tx K mg ⟨C0,C1,C2,C3,C4,C5,C6,C7,C8,C9,C10,C11,f0,_,f1,_,f2,_,f3,_,f4,_,f5,_,f6,_,f7,_,f8,_,f9,_,f10,_,f11,_,f12,_,f13,_,f14,_,f15,_,f16,_,f17,_,f18,_,f19,_,f20,_,f21,_,f22,_,f23,_,f24,_,f25,_,f26,_,f27,_,f28,_,f29,_,f30,_,f31,_,f32,_,f33,_,f34,_,f35,_,f36,_,f37,_,f38,_,f39,_,f40,_,f41,_,f42,_,f43,_,f44,_,f45,_,f46,_,f47,_,f48,_,f49,_,f50,_,f51,_,f52,_,f53,_,fa,_⟩:=⟨PySem.W.mg_of X G y0,PySem.W.mg_of X G y1,PySem.W.mg_of X G y2,PySem.W.mg_of X G y3,PySem.W.mg_of X G y4,PySem.W.mg_of X G y5,PySem.W.mg_of X G y6,PySem.W.mg_of X G y7,PySem.W.mg_of X G y8,PySem.W.mg_of X G y9,PySem.W.mg_of X G y10,PySem.W.mg_of X G y11,o_NoPair,x_NoPair_PaceError,x_TooMany_PaceError,ocs,oct,ga_NoPair,gn_NoPair,mb_NoPair,mo_NoPair,fc_NoPair,hd_NoPair,ga_TooMany,gn_TooMany,mb_TooMany,mo_TooMany,fc_TooMany,hd_TooMany,kc_NoPair_NoPair,kt_NoPair_NoPair,ks_NoPair_NoPair,kc_TooMany_NoPair,kt_TooMany_NoPair,ks_TooMany_NoPair,kn_TooMany_NoPair,kc_NoPair_TooMany,kt_NoPair_TooMany,ks_NoPair_TooMany,kn_NoPair_TooMany,kc_TooMany_TooMany,kt_TooMany_TooMany,ks_TooMany_TooMany,kc_NoPair_NoCount,kt_NoPair_NoCount,ks_NoPair_NoCount,kn_NoPair_NoCount,kc_TooMany_NoCount,kt_TooMany_NoCount,ks_TooMany_NoCount,kn_TooMany_NoCount,kc_NoPair_NoView,kt_NoPair_NoView,ks_NoPair_NoView,kn_NoPair_NoView,kc_TooMany_NoView,kt_TooMany_NoView,ks_TooMany_NoView,kn_TooMany_NoView,ks_NoPair_ValueError,ks_TooMany_ValueError,⟨_,PySem.W.mg_of X G w0⟩,⟨_,PySem.W.mg_of X G w1⟩,⟨_,PySem.W.mg_of X G w2⟩,⟨_,PySem.W.mg_of X G w3⟩,⟨xe_TooMany,xf_TooMany,⟨xo_TooMany,xs_TooMany,xh_TooMany⟩⟩,nt_TooMany_number,nf_TooMany_number,⟨bs_PaceError,br_PaceError,bf_PaceError⟩,⟨pg_View,hd_View,po_View,sa_View⟩,nf_View_axes,nf_View_first,nf_View_room,⟨mm_View,fi_View___init__,fn_View___init__,ck_View⟩,⟨fi_View_sizes,fn_View_sizes,F12.kp⟩,⟨fi_View_paces,fn_View_paces,F13.kp⟩,⟨fi_View_count,fn_View_count,F14.kp⟩,⟨fi_View_cell,fn_View_cell,F15.kp⟩,⟨fi_View_cells,fn_View_cells,F16.kp⟩,⟨fi_View_least,fn_View_least,F17.kp⟩,⟨fi_View_greatest,fn_View_greatest,F18.kp⟩,⟨pg_Statement,hd_Statement,po_Statement,sa_Statement⟩,⟨mm_Statement,fi0_Statement,ck_Statement⟩,⟨fi_Statement_writes,fn_Statement_writes,F23.kp⟩,⟨fi_Statement_reads,fn_Statement_reads,F24.kp⟩,⟨pg_Fill,hd_Fill,po_Fill,sa_Fill⟩,nf_Fill_to,nf_Fill_value,⟨fi_Fill_writes,fn_Fill_writes,F26.kp⟩,⟨fi_Fill_reads,fn_Fill_reads,F24.kp⟩,⟨mm_Fill,fi_Fill___init__,fn_Fill___init__,ck_Fill⟩,⟨pg_Copy,hd_Copy,po_Copy,sa_Copy⟩,nf_Copy_source,nf_Copy_to,⟨fi_Copy_writes,fn_Copy_writes,F28.kp⟩,⟨fi_Copy_reads,fn_Copy_reads,F29.kp⟩,⟨mm_Copy,fi_Copy___init__,fn_Copy___init__,ck_Copy⟩,⟨pg_Swap,hd_Swap,po_Swap,sa_Swap⟩,nf_Swap_one,nf_Swap_other,⟨fi_Swap_writes,fn_Swap_writes,F31.kp⟩,⟨fi_Swap_reads,fn_Swap_reads,F32.kp⟩,⟨mm_Swap,fi_Swap___init__,fn_Swap___init__,ck_Swap⟩,⟨pg_Raise,hd_Raise,po_Raise,sa_Raise⟩,nf_Raise_source,nf_Raise_to,⟨fi_Raise_writes,fn_Raise_writes,F34.kp⟩,⟨fi_Raise_reads,fn_Raise_reads,F35.kp⟩,⟨mm_Raise,fi_Raise___init__,fn_Raise___init__,ck_Raise⟩,F0,F0.binds (ps:=["self", "number"]) (fun _ _ _ _ _ _=>len2 (fun _ _=>rfl)),F1,PySem.W.mg_of X G a1,F1.binds (ps:=["thing"]) (fun _ _ _ _ _ _=>len1 (fun _=>rfl)),F2,PySem.W.mg_of X G a2,F2.binds (ps:=["sizes"]) (fun _ _ _ _ _ _=>len1 (fun _=>rfl)),F3,PySem.W.mg_of X G a3,F3.binds (ps:=["thing", "bound"]) (fun _ _ _ _ _ _=>len2 (fun _ _=>rfl)),F4,PySem.W.mg_of X G a4,F4.binds (ps:=["sizes", "thing"]) (fun _ _ _ _ _ _=>len2 (fun _ _=>rfl)),F5,PySem.W.mg_of X G a5,F5.binds (ps:=["count"]) (fun _ _ _ _ _ _=>len1 (fun _=>rfl)),F6,PySem.W.mg_of X G a6,F6.binds (ps:=["thing", "low", "high"]) (fun _ _ _ _ _ _=>len3 (fun _ _ _=>rfl)),F7,PySem.W.mg_of X G a7,F7.binds (ps:=["thing"]) (fun _ _ _ _ _ _=>len1 (fun _=>rfl)),F8,PySem.W.mg_of X G a8,F8.binds (ps:=["thing"]) (fun _ _ _ _ _ _=>len1 (fun _=>rfl)),F9,PySem.W.mg_of X G a9,F9.binds (ps:=["thing"]) (fun _ _ _ _ _ _=>len1 (fun _=>rfl)),F10,PySem.W.mg_of X G a10,F10.binds (ps:=["axis"]) (fun _ _ _ _ _ _=>len1 (fun _=>rfl)),F11,F11.binds (ps:=["self", "room", "first", "axes"]) (fun _ _ _ _ _ _=>len4 (fun _ _ _ _=>rfl)),F12,F12.binds (ps:=["self"]) (fun _ _ _ _ _ _=>len1 (fun _=>rfl)),F13,F13.binds (ps:=["self"]) (fun _ _ _ _ _ _=>len1 (fun _=>rfl)),F14,F14.binds (ps:=["self"]) (fun _ _ _ _ _ _=>len1 (fun _=>rfl)),F15,F15.binds (ps:=["self", "place"]) (fun _ _ _ _ _ _=>len2 (fun _ _=>rfl)),F16,F16.binds (ps:=["self"]) (fun _ _ _ _ _ _=>len1 (fun _=>rfl)),F17,F17.binds (ps:=["self"]) (fun _ _ _ _ _ _=>len1 (fun _=>rfl)),F18,F18.binds (ps:=["self"]) (fun _ _ _ _ _ _=>len1 (fun _=>rfl)),F19,PySem.W.mg_of X G a19,F19.binds (ps:=["cells", "size", "pace"]) (fun _ _ _ _ _ _=>len3 (fun _ _ _=>rfl)),F20,PySem.W.mg_of X G a20,F20.binds (ps:=["one", "other"]) (fun _ _ _ _ _ _=>len2 (fun _ _=>rfl)),F21,PySem.W.mg_of X G a21,F21.binds (ps:=["view", "many"]) (fun _ _ _ _ _ _=>len2 (fun _ _=>rfl)),F22,PySem.W.mg_of X G a22,F22.binds (ps:=["one", "other"]) (fun _ _ _ _ _ _=>len2 (fun _ _=>rfl)),F23,F23.binds (ps:=["self"]) (fun _ _ _ _ _ _=>len1 (fun _=>rfl)),F24,F24.binds (ps:=["self"]) (fun _ _ _ _ _ _=>len1 (fun _=>rfl)),F25,F25.binds (ps:=["self", "to", "value"]) (fun _ _ _ _ _ _=>len3 (fun _ _ _=>rfl)),F26,F26.binds (ps:=["self"]) (fun _ _ _ _ _ _=>len1 (fun _=>rfl)),F27,F27.binds (ps:=["self", "to", "source"]) (fun _ _ _ _ _ _=>len3 (fun _ _ _=>rfl)),F28,F28.binds (ps:=["self"]) (fun _ _ _ _ _ _=>len1 (fun _=>rfl)),F29,F29.binds (ps:=["self"]) (fun _ _ _ _ _ _=>len1 (fun _=>rfl)),F30,F30.binds (ps:=["self", "one", "other"]) (fun _ _ _ _ _ _=>len3 (fun _ _ _=>rfl)),F31,F31.binds (ps:=["self"]) (fun _ _ _ _ _ _=>len1 (fun _=>rfl)),F32,F32.binds (ps:=["self"]) (fun _ _ _ _ _ _=>len1 (fun _=>rfl)),F33,F33.binds (ps:=["self", "to", "source"]) (fun _ _ _ _ _ _=>len3 (fun _ _ _=>rfl)),F34,F34.binds (ps:=["self"]) (fun _ _ _ _ _ _=>len1 (fun _=>rfl)),F35,F35.binds (ps:=["self"]) (fun _ _ _ _ _ _=>len1 (fun _=>rfl)),F36,PySem.W.mg_of X G a36,F36.binds (ps:=["statement"]) (fun _ _ _ _ _ _=>len1 (fun _=>rfl)),F37,PySem.W.mg_of X G a37,F37.binds (ps:=["views"]) (fun _ _ _ _ _ _=>len1 (fun _=>rfl)),F38,PySem.W.mg_of X G a38,F38.binds (ps:=["views"]) (fun _ _ _ _ _ _=>len1 (fun _=>rfl)),F39,PySem.W.mg_of X G a39,F39.binds (ps:=["some", "others"]) (fun _ _ _ _ _ _=>len2 (fun _ _=>rfl)),F40,PySem.W.mg_of X G a40,F40.binds (ps:=["one", "other"]) (fun _ _ _ _ _ _=>len2 (fun _ _=>rfl)),F41,PySem.W.mg_of X G a41,F41.binds (ps:=["_law_script", "_law_k", "_law_many"]) (fun _ _ _ _ _ _=>len3 (fun _ _ _=>rfl)),F42,PySem.W.mg_of X G a42,F42.binds (ps:=["_law_found"]) (fun _ _ _ _ _ _=>len1 (fun _=>rfl)),F43,PySem.W.mg_of X G a43,F43.binds (ps:=["_law_first", "_law_axes"]) (fun _ _ _ _ _ _=>len2 (fun _ _=>rfl)),F44,PySem.W.mg_of X G a44,F44.binds (ps:=["_law_script", "_law_at", "_law_room"]) (fun _ _ _ _ _ _=>len3 (fun _ _ _=>rfl)),F45,PySem.W.mg_of X G a45,F45.binds (ps:=["_law_views", "_law_cell"]) (fun _ _ _ _ _ _=>len2 (fun _ _=>rfl)),F46,PySem.W.mg_of X G a46,F46.binds (ps:=["_law_view"]) (fun _ _ _ _ _ _=>len1 (fun _=>rfl)),F47,PySem.W.mg_of X G a47,F47.binds (ps:=["_law_drawn_here", "_law_room"]) (fun _ _ _ _ _ _=>len2 (fun _ _=>rfl)),F48,PySem.W.mg_of X G a48,F48.binds (ps:=["_law_drawn_here"]) (fun _ _ _ _ _ _=>len1 (fun _=>rfl)),F49,PySem.W.mg_of X G a49,F49.binds (ps:=["_law_one", "_law_other"]) (fun _ _ _ _ _ _=>len2 (fun _ _=>rfl)),F50,PySem.W.mg_of X G a50,F50.binds (ps:=["_law_one", "_law_other"]) (fun _ _ _ _ _ _=>len2 (fun _ _=>rfl)),F51,PySem.W.mg_of X G a51,F51.binds (ps:=["_law_script", "_law_room", "_law_one"]) (fun _ _ _ _ _ _=>len3 (fun _ _ _=>rfl)),F52,PySem.W.mg_of X G a52,F52.binds (ps:=["_law_script", "_law_room"]) (fun _ _ _ _ _ _=>len2 (fun _ _=>rfl)),F53,PySem.W.mg_of X G a53,F53.binds (ps:=["_law_script"]) (fun _ _ _ _ _ _=>len1 (fun _=>rfl)),F54,PySem.W.mg_of X G a54,F54.binds (ps:=["_law_script"]) (fun _ _ _ _ _ _=>len1 (fun _=>rfl)),PySem.W.mg_none_of X G z0,PySem.W.mg_none_of X G z1,PySem.W.mg_none_of X G z2,PySem.W.mg_none_of X G z3,PySem.W.mg_none_of X G z4,PySem.W.mg_none_of X G z5,PySem.W.mg_none_of X G z6,PySem.W.mg_none_of X G z7,PySem.W.mg_none_of X G z8,PySem.W.mg_none_of X G z9,PySem.W.mg_none_of X G z10,PySem.W.mg_none_of X G z11,PySem.W.mg_none_of X G z12,PySem.W.mg_none_of X G z13⟩
 exact ⟨PySem.W.fnOf "law" "law" (defArgs s_law) (defBody s_law) (defScope s_law) .none kV54 dc54 pm54 an54 cd54 ct54,fun s v=>.of_eq rfl,fun base _ _=>ok_law T⟩
theorem walk {l:PySem.W.OpenLaw}{q:Program}{loose:List Str}{XP:(Str->Option Value)->Heap->Prop}{YP:World->Heap->Prop}{d:DefRec}{K:Params->PySem.W.Frag}(hn:l.most=some 63) (hdf:d.params.defaults=[])
  (hY:∀ (w:World) (h:Heap),YP w h->(K w.params).In h)
  (F:∀ (w:World) (mg:Str->Option Value) (fa:Addr) (h:Heap),(K w.params).In h->h.Ns mainGlobals mg->mg d.name=some (.ref fa) →
   ∃ fd:FuncData,(∀ (s:Shared) (u:Value),BindsTo s fd ⟨[u],[]⟩ [("_law_script",u)])∧∀ base:Heap,(K w.params).In base->base.Ns mainGlobals mg->FnOk l.prog w (K w.params) mg base CX0 10 fa fd ["_law_script"] (spLaw (K w.params))) :
  PySem.W.WalkO q loose XP YP l.row.toRowW d [] (fun f vs=>PySem.call f vs):=
 L2.walk_of (n:=63) (k:=10) (x := "_law_script") (CX:=fun _=>CX0) (sp:=fun w=>spLaw (K w.params)) hn (by decide) hdf ⟨rfl,by decide,by decide⟩ hY F (fun _ _ a ns hl _ hS=>⟨a,rfl,ns,hS,hl,fun _=>rfl⟩) fun _ _ _ _ _ z=>z
end PH
namespace PySem.W.Fast
def tw16190206753162483104:=0
def tw120962791576657916:=0
def tw13406309231927267555:=0
def tw9611519209149778904:=0
def tw7926610565426878050:=0
def tw2421198230848943435:=0
def tw10026485304577854898:=0
def tw10335513666026921601:=0
def tw6304833773428923674:=0
def tw5269635273346772319:=0
def tw7318722516108884853:=0
def tw1487057392521008453:=0
def tw2372155806661976414:=0
def tw2539046878559276559:=0
def tw7175644903981298108:=0
def tw8076650730110043252:=0
def tw5297599919121982647:=0
def tw12239604420561791450:=0
def tw15594449764317965659:=0
def tw16936131182657952791:=0
def tw2107491862495191625:=0
def tw15534681644676346419:=0
def tw4253318054021061104:=0
def tw11637823458305563656:=0
def tw2730151242063926156:=0
def tw15342874326186566498:=0
def tw8893549510975582065:=0
def tw5711725330839903485:=0
def tw1613263862598542302:=0
def tw15586432716000431698:=0
def tw8274179263561575211:=0
def tw5820864010530863263:=0
def tw5343587479681058618:=0
def tw7100528883900775848:=0
def tw12972919408858655308:=0
def tw9378188046717546941:=0
def tw17441710397536186264:=0
def tw17021017430574905765:=0
def tw11151708375823746862:=0
def tw3569285569102213432:=0
def tw2114438398886785686:=0
def tw7050001315107354984:=0
def tw5859325045402287325:=0
def tw16051377820152452740:=0
def tw17024739702408699940:=0
def tw13489749616121422090:=0
def tw9295699356704667030:=0
def tw14315107541810227590:=0
def tw10067009081404418680:=0
def tw7974978707922767798:=0
def tw8970073055946981174:=0
def tw16624574059324590103:=0
def tw3908978057727240052:=0
def tw16587707154887566579:=0
def tw14453847020660670452:=0
def tw3696267800656755493:=0
def tw17426951134947653167:=0
def tw14094063021771484717:=0
def tw492868896461720618:=0
def tw15945105197400338125:=0
def tw11064163710316553055:=0
def tw2447903165695113597:=0
def tw4971851109745148709:=0
def tw10101045645673858627:=0
def tw13036715800953422925:=0
def tw13757095105339513041:=0
def tw5611568965950863217:=0
def tw3066277778605752472:=0
def tw2247913791857467298:=0
def tw6073574823259643279:=0
def tw8170904960498267059:=0
def tw3181887954288231193:=0
def tw9195647242974260419:=0
def tw3576694623277719680:=0
def tw16465973724476786976:=0
def tw13305569427802921160:=0
def tw7096703087749977756:=0
def tw10421636587775311722:=0
def tw374752877003942452:=0
def tw4423217207974646781:=0
def tw12265480117798973110:=0
def tw11597450715283226523:=0
def tw3721643807847083872:=0
def tw13909979498141271073:=0
def tw14057041768571535208:=0
def tw1071597168004808950:=0
def tw14153454844995168130:=0
def tw16644429529644850246:=0
def tw1205950405421418641:=0
def tw8203339062498040125:=0
def tw3243519205555101983:=0
def tw8226398964409289848:=0
def tw15342106078948766536:=0
def tw8467932559042881685:=0
def tw7051407558561630577:=0
def tw13211593160415407816:=0
def tw12585551578471446762:=0
def tw16249550772158869722:=0
def tw15114945793100914206:=0
def tw7279702877594984233:=0
def tw17265864365190420971:=0
def tw12362435902456185511:=0
def tw8716423349088035164:=0
end PySem.W.Fast
open PySem PySem.W PyProof.Rows
set_option maxRecDepth 100000 in
set_option maxHeartbeats 0 in
theorem PySem.Challenge.cw_pacehall_k82_clashes_holds : PySem.Challenge.rw_pacehall_k82_clashes.Holds := by
 w_on;o_law;k_head;(case hw=>w_witness2)
 k_fill
 refine PH.walk (l:=PySem.Challenge.rw_pacehall_k82_clashes) rfl rfl (fun w h Y=>PySem.W.kIn_of Y) ?F
 case F=>
  intro w mg fa h KX G hmg
  refine' PH.all_mk KX G hmg ?y0 ?y1 ?y2 ?y3 ?y4 ?y5 ?y6 ?y7 ?y8 ?y9 ?y10 ?y11 ?o_NoPair ?x_NoPair_PaceError ?x_TooMany_PaceError ?ocs ?oct ?ga_NoPair ?gn_NoPair ?mb_NoPair ?mo_NoPair ?fc_NoPair ?hd_NoPair ?ga_TooMany ?gn_TooMany ?mb_TooMany ?mo_TooMany ?fc_TooMany ?hd_TooMany ?kc_NoPair_NoPair ?kt_NoPair_NoPair ?ks_NoPair_NoPair ?kc_TooMany_NoPair ?kt_TooMany_NoPair ?ks_TooMany_NoPair ?kn_TooMany_NoPair ?kc_NoPair_TooMany ?kt_NoPair_TooMany ?ks_NoPair_TooMany ?kn_NoPair_TooMany ?kc_TooMany_TooMany ?kt_TooMany_TooMany ?ks_TooMany_TooMany ?kc_NoPair_NoCount ?kt_NoPair_NoCount ?ks_NoPair_NoCount ?kn_NoPair_NoCount ?kc_TooMany_NoCount ?kt_TooMany_NoCount ?ks_TooMany_NoCount ?kn_TooMany_NoCount ?kc_NoPair_NoView ?kt_NoPair_NoView ?ks_NoPair_NoView ?kn_NoPair_NoView ?kc_TooMany_NoView ?kt_TooMany_NoView ?ks_TooMany_NoView ?kn_TooMany_NoView ?ks_NoPair_ValueError ?ks_TooMany_ValueError ?F0 ?a1 ?F1 ?a2 ?F2 ?a3 ?F3 ?a4 ?F4 ?a5 ?F5 ?a6 ?F6 ?a7 ?F7 ?a8 ?F8 ?a9 ?F9 ?a10 ?F10 ?F11 ?F12 ?F13 ?F14 ?F15 ?F16 ?F17 ?F18 ?a19 ?F19 ?a20 ?F20 ?a21 ?F21 ?a22 ?F22 ?F23 ?F24 ?F25 ?F26 ?F27 ?F28 ?F29 ?F30 ?F31 ?F32 ?F33 ?F34 ?F35 ?a36 ?F36 ?a37 ?F37 ?a38 ?F38 ?a39 ?F39 ?a40 ?F40 ?a41 ?F41 ?a42 ?F42 ?a43 ?F43 ?a44 ?F44 ?a45 ?F45 ?a46 ?F46 ?a47 ?F47 ?a48 ?F48 ?a49 ?F49 ?a50 ?F50 ?a51 ?F51 ?a52 ?F52 ?a53 ?F53 ?a54 ?l54 ?c54 ?k54 ?fi_TooMany ?xe_TooMany ?xf_TooMany ?xo_TooMany ?xs_TooMany ?xh_TooMany ?nt_TooMany_number ?nf_TooMany_number ?bs_PaceError ?br_PaceError ?bf_PaceError ?pg_View ?hd_View ?po_View ?sa_View ?nf_View_axes ?nf_View_first ?nf_View_room ?fi_View___init__ ?fn_View___init__ ?mm_View ?ck_View ?fi_View_sizes ?fn_View_sizes ?fi_View_paces ?fn_View_paces ?fi_View_count ?fn_View_count ?fi_View_cell ?fn_View_cell ?fi_View_cells ?fn_View_cells ?fi_View_least ?fn_View_least ?fi_View_greatest ?fn_View_greatest ?pg_Statement ?hd_Statement ?po_Statement ?sa_Statement ?mm_Statement ?ck_Statement ?fi0_Statement ?fi_Statement_writes ?fn_Statement_writes ?fi_Statement_reads ?fn_Statement_reads ?pg_Fill ?hd_Fill ?po_Fill ?sa_Fill ?nf_Fill_to ?nf_Fill_value ?fi_Fill_writes ?fn_Fill_writes ?fi_Fill_reads ?fn_Fill_reads ?fi_Fill___init__ ?fn_Fill___init__ ?mm_Fill ?ck_Fill ?pg_Copy ?hd_Copy ?po_Copy ?sa_Copy ?nf_Copy_source ?nf_Copy_to ?fi_Copy_writes ?fn_Copy_writes ?fi_Copy_reads ?fn_Copy_reads ?fi_Copy___init__ ?fn_Copy___init__ ?mm_Copy ?ck_Copy ?pg_Swap ?hd_Swap ?po_Swap ?sa_Swap ?nf_Swap_one ?nf_Swap_other ?fi_Swap_writes ?fn_Swap_writes ?fi_Swap_reads ?fn_Swap_reads ?fi_Swap___init__ ?fn_Swap___init__ ?mm_Swap ?ck_Swap ?pg_Raise ?hd_Raise ?po_Raise ?sa_Raise ?nf_Raise_source ?nf_Raise_to ?fi_Raise_writes ?fn_Raise_writes ?fi_Raise_reads ?fn_Raise_reads ?fi_Raise___init__ ?fn_Raise___init__ ?mm_Raise ?ck_Raise ?w0 ?w1 ?w2 ?w3 ?z0 ?z1 ?z2 ?z3 ?z4 ?z5 ?z6 ?z7 ?z8 ?z9 ?z10 ?z11 ?z12 ?z13
  (case y0|y1|y2|y3|y4|y5|y6|y7|y8|y9|y10|y11=>first|k_is|k_exc|kts_exm|decide|rfl|decide +kernel|kernel_rfl)
  (case fi_TooMany|fi_View___init__|fi_View_sizes|fi_View_paces|fi_View_count|fi_View_cell|fi_View_cells|fi_View_least|fi_View_greatest|fi_Statement_writes|fi_Statement_reads|fi_Fill_writes=>first|k_is|k_exc|kts_exm|decide|rfl|decide +kernel|kernel_rfl)
  (case fi_Fill_reads|fi_Fill___init__|fi_Copy_writes|fi_Copy_reads|fi_Copy___init__|fi_Swap_writes|fi_Swap_reads|fi_Swap___init__|fi_Raise_writes|fi_Raise_reads|fi_Raise___init__|a1=>first|k_is|k_exc|kts_exm|decide|rfl|decide +kernel|kernel_rfl)
  (case a2|a3|a4|a5|a6|a7|a8|a9|a10|a19|a20|a21=>first|k_is|k_exc|kts_exm|decide|rfl|decide +kernel|kernel_rfl)
  (case a22|a36|a37|a38|a39|a40|a41|a42|a43|a44|a45|a46=>first|k_is|k_exc|kts_exm|decide|rfl|decide +kernel|kernel_rfl)
  (case a47|a48|a49|a50|a51|a52|a53|a54=>first|k_is|k_exc|kts_exm|decide|rfl|decide +kernel|kernel_rfl)
  (case F0|F1|F2|F3|F4|F5|F6|F7|F8|F9|F10|F11=>(refine' L2.fun_mk ?l ?c ?k;(case l|c|k=>first|k_is|k_exc|kts_exm|decide|rfl|decide +kernel|kernel_rfl)))
  (case F12|F13|F14|F15|F16|F17|F18|F19|F20|F21|F22|F23=>(refine' L2.fun_mk ?l ?c ?k;(case l|c|k=>first|k_is|k_exc|kts_exm|decide|rfl|decide +kernel|kernel_rfl)))
  (case F24|F25|F26|F27|F28|F29|F30|F31|F32|F33|F34|F35=>(refine' L2.fun_mk ?l ?c ?k;(case l|c|k=>first|k_is|k_exc|kts_exm|decide|rfl|decide +kernel|kernel_rfl)))
  (case F36|F37|F38|F39|F40|F41|F42|F43|F44|F45|F46|F47=>(refine' L2.fun_mk ?l ?c ?k;(case l|c|k=>first|k_is|k_exc|kts_exm|decide|rfl|decide +kernel|kernel_rfl)))
  (case F48|F49|F50|F51|F52|F53=>(refine' L2.fun_mk ?l ?c ?k;(case l|c|k=>first|k_is|k_exc|kts_exm|decide|rfl|decide +kernel|kernel_rfl)))
  (case o_NoPair|x_NoPair_PaceError|x_TooMany_PaceError|ocs|oct|ga_NoPair|gn_NoPair|mb_NoPair|mo_NoPair|fc_NoPair|hd_NoPair|ga_TooMany=>first|k_is|k_exc|kts_exm|decide|rfl|decide +kernel|kernel_rfl)
  (case gn_TooMany|mb_TooMany|mo_TooMany|fc_TooMany|hd_TooMany|kc_NoPair_NoPair|kt_NoPair_NoPair|ks_NoPair_NoPair|kc_TooMany_NoPair|kt_TooMany_NoPair|ks_TooMany_NoPair|kn_TooMany_NoPair=>first|k_is|k_exc|kts_exm|decide|rfl|decide +kernel|kernel_rfl)
  (case kc_NoPair_TooMany|kt_NoPair_TooMany|ks_NoPair_TooMany|kn_NoPair_TooMany|kc_TooMany_TooMany|kt_TooMany_TooMany|ks_TooMany_TooMany|kc_NoPair_NoCount|kt_NoPair_NoCount|ks_NoPair_NoCount|kn_NoPair_NoCount|kc_TooMany_NoCount=>first|k_is|k_exc|kts_exm|decide|rfl|decide +kernel|kernel_rfl)
  (case kt_TooMany_NoCount|ks_TooMany_NoCount|kn_TooMany_NoCount|kc_NoPair_NoView|kt_NoPair_NoView|ks_NoPair_NoView|kn_NoPair_NoView|kc_TooMany_NoView|kt_TooMany_NoView|ks_TooMany_NoView|kn_TooMany_NoView|ks_NoPair_ValueError=>first|k_is|k_exc|kts_exm|decide|rfl|decide +kernel|kernel_rfl)
  (case ks_TooMany_ValueError|l54|c54|k54|xe_TooMany|xf_TooMany|xo_TooMany|xs_TooMany|xh_TooMany|nt_TooMany_number|nf_TooMany_number|bs_PaceError=>first|k_is|k_exc|kts_exm|decide|rfl|decide +kernel|kernel_rfl)
  (case br_PaceError|bf_PaceError|pg_View|hd_View|po_View|sa_View|nf_View_axes|nf_View_first|nf_View_room|fn_View___init__|mm_View|ck_View=>first|k_is|k_exc|kts_exm|decide|rfl|decide +kernel|kernel_rfl)
  (case fn_View_sizes|fn_View_paces|fn_View_count|fn_View_cell|fn_View_cells|fn_View_least|fn_View_greatest|pg_Statement|hd_Statement|po_Statement|sa_Statement|mm_Statement=>first|k_is|k_exc|kts_exm|decide|rfl|decide +kernel|kernel_rfl)
  (case ck_Statement|fi0_Statement|fn_Statement_writes|fn_Statement_reads|pg_Fill|hd_Fill|po_Fill|sa_Fill|nf_Fill_to|nf_Fill_value|fn_Fill_writes|fn_Fill_reads=>first|k_is|k_exc|kts_exm|decide|rfl|decide +kernel|kernel_rfl)
  (case fn_Fill___init__|mm_Fill|ck_Fill|pg_Copy|hd_Copy|po_Copy|sa_Copy|nf_Copy_source|nf_Copy_to|fn_Copy_writes|fn_Copy_reads|fn_Copy___init__=>first|k_is|k_exc|kts_exm|decide|rfl|decide +kernel|kernel_rfl)
  (case mm_Copy|ck_Copy|pg_Swap|hd_Swap|po_Swap|sa_Swap|nf_Swap_one|nf_Swap_other|fn_Swap_writes|fn_Swap_reads|fn_Swap___init__|mm_Swap=>first|k_is|k_exc|kts_exm|decide|rfl|decide +kernel|kernel_rfl)
  (case ck_Swap|pg_Raise|hd_Raise|po_Raise|sa_Raise|nf_Raise_source|nf_Raise_to|fn_Raise_writes|fn_Raise_reads|fn_Raise___init__|mm_Raise|ck_Raise=>first|k_is|k_exc|kts_exm|decide|rfl|decide +kernel|kernel_rfl)
  (case w0|w1|w2|w3|z0|z1|z2|z3|z4|z5|z6|z7=>first|k_is|k_exc|kts_exm|decide|rfl|decide +kernel|kernel_rfl)
  (case z8|z9|z10|z11|z12|z13=>first|k_is|k_exc|kts_exm|decide|rfl|decide +kernel|kernel_rfl)
#print axioms PySem.Challenge.cw_pacehall_k82_clashes_holds