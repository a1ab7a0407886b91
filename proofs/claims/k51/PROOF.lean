import PyProof.Rows.All
import Wide.All
import OpenK.AllK
import Wide.FinOn
import Lean
import PyProof.EqAt
import PyProof.EqKinds
import PyProof.TupleCall
import PySem.Challenge.RW_pacehall_k51_gathered
-- CHANGE: your row's module here, as the last of these rows
set_option Elab.async false
set_option linter.all false
set_option maxRecDepth 100000
namespace L2
open PySem PySem.Spec PyProof.Rows
abbrev Key:=Sum Int Str
def keyIs:Key->Value->Bool
 | .inl k,v=>Value.isInt k v
 | .inr x,v=>Value.isStrOf x v
def keyH (w:World):Key->Int
 | .inl k=>hashInt k
 | .inr x=>hashStr w x
theorem keyIs_shape:∀ {k:Key}{v:Value},keyIs k v=true->(∃ i t,k=Sum.inl i∧v=Value.int i t)∨(∃ x t,k=Sum.inr x∧v=Value.str x t)
 | .inl i,v,h=>by
  obtain ⟨t,e⟩:=Value.isInt_shape (k:=i) (v:=v) h
  exact .inl ⟨i,t,rfl,e⟩
 | .inr x,v,h=>by
  obtain ⟨t,e⟩:=Value.isStrOf_shape (x:=x) (v:=v) h
  exact .inr ⟨x,t,rfl,e⟩
theorem keyIs_int (i:Int) (t:Tok):keyIs (.inl i) (.int i t)=true:=by simp [keyIs,Value.isInt]
theorem keyIs_str (x:Str) (t:Tok):keyIs (.inr x) (.str x t)=true:=by simp [keyIs,Value.isStrOf]
theorem key_ll (a b:Int):decide ((Sum.inl a:Key)=Sum.inl b)=(a == b):=by
 by_cases e:a=b
 ·subst e;simp
 ·have h:¬ (Sum.inl a:Key)=Sum.inl b:=fun q=>e (Sum.inl.inj q)
  rw [decide_eq_false h]
  exact (beq_eq_false_iff_ne.mpr e).symm
theorem key_rr (a b:Str):decide ((Sum.inr a:Key)=Sum.inr b)=decide (a=b):=by
 by_cases e:a=b
 ·subst e;simp
 ·have h:¬ (Sum.inr a:Key)=Sum.inr b:=fun q=>e (Sum.inr.inj q)
  rw [decide_eq_false h,decide_eq_false e]
theorem key_lr (a:Int) (b:Str):decide ((Sum.inl a:Key)=Sum.inr b)=false:=decide_eq_false (fun q=>nomatch q)
theorem key_rl (a:Str) (b:Int):decide ((Sum.inr a:Key)=Sum.inl b)=false:=decide_eq_false (fun q=>nomatch q)
def mixKind (prog:Program) (w:World):PySem.KeyKind prog w Key where
 is:=keyIs
 hash:=keyH w
 inj:=fun v a b ha hb=>by
  rcases keyIs_shape ha with ⟨i,t,rfl,rfl⟩|⟨x,t,rfl,rfl⟩
  ·rcases keyIs_shape hb with ⟨j,u,rfl,e⟩|⟨y,u,rfl,e⟩
   ·injection e with e1 _;rw [e1]
   ·exact nomatch e
  ·rcases keyIs_shape hb with ⟨j,u,rfl,e⟩|⟨y,u,rfl,e⟩
   ·exact nomatch e
   ·injection e with e1 _;rw [e1]
 byValue:=fun k v h=>by
  rcases keyIs_shape h with ⟨i,t,rfl,rfl⟩|⟨x,t,rfl,rfl⟩<;>rfl
 pyHash:=fun hv h=>by
  rcases keyIs_shape hv with ⟨i,t,rfl,rfl⟩|⟨x,t,rfl,rfl⟩
  ·exact wpAny_pyHash_int h
  ·exact wpAny_pyHash_str h
 eqBool:=fun hu hv h=>by
  rcases keyIs_shape hu with ⟨i,t,rfl,rfl⟩|⟨x,t,rfl,rfl⟩
  ·rcases keyIs_shape hv with ⟨j,u,rfl,rfl⟩|⟨y,u,rfl,rfl⟩
   ·rw [key_ll] at h;exact wpAny_eqBool_int h
   ·rw [key_lr] at h;exact SeqAt.EqAt.int_str i t y u _ _ _ _ h
  ·rcases keyIs_shape hv with ⟨j,u,rfl,rfl⟩|⟨y,u,rfl,rfl⟩
   ·rw [key_rl] at h;exact SeqAt.EqAt.str_int x t j u _ _ _ _ h
   ·rw [key_rr] at h;exact wpAny_eqBool_str h
 «strs»:=fun k x t v h=>by
  rcases keyIs_shape h with ⟨i,u,rfl,e⟩|⟨y,u,rfl,e⟩
  ·exact nomatch e
  ·injection e with e1 _
   subst e1
   cases v<;>rfl
theorem mixKind_int (prog:Program) (w:World) (i:Int) (t:Tok):(mixKind prog w).is (.inl i) (.int i t)=true:=keyIs_int i t
theorem mixKind_str (prog:Program) (w:World) (x:Str) (t:Tok):(mixKind prog w).is (.inr x) (.str x t)=true:=keyIs_str x t
end L2
namespace L2
open PySem PySem.Spec PyProof.Rows
inductive V where
 | non|bl (b:Bool)|int (i:Int)|str (x:Str)|byt (b:Array UInt8)|flt (b:UInt64)|ref (a:Addr)|ty (n:String)
 deriving DecidableEq
def RelV:V->Value->Prop
 | .non,u=>u=Value.none
 | .bl b,u=>u=Value.bool b
 | .int i,u=>∃ t,u=Value.int i t
 | .str x,u=>∃ t,u=Value.str x t
 | .byt b,u=>∃ t,u=Value.bytes b t
 | .flt b,u=>∃ t,u=Value.float b t
 | .ref a,u=>u=Value.ref a
 | .ty n,u=>u=Value.type n
abbrev Vals:List V->List Value->Prop:=Paired RelV
theorem Vals.length {xs:List V}{us:List Value}(r:Vals xs us):xs.length=us.length:=Paired.length r
theorem Vals.get:∀ {xs:List V}{us:List Value}{i:Nat}{x:V},Vals xs us->xs[i]? = some x->∃ u,us[i]? = some u∧RelV x u
 | _,_,_,_,.nil,e=>by simp at e
 | _,_,0,_,.cons r _,e=>by simp at e;subst e;exact ⟨_,rfl,r⟩
 | _,_,i+1,x,.cons _ t,e=>by
  obtain ⟨u,h1,h2⟩:=Vals.get (i:=i) (x:=x) t (by simpa using e)
  exact ⟨u,by simpa using h1,h2⟩
theorem Vals.append:∀ {xs ys:List V}{us ws:List Value},Vals xs us->Vals ys ws->Vals (xs++ys) (us++ws)
 | _,_,_,_,.nil,s=>s
 | _,_,_,_,.cons r t,s=>.cons r (Vals.append t s)
def RelO:Option V->Option Value->Prop
 | some v,some u=>RelV v u
 | none,none=>True
 | _,_=>False
def KV {κ:Type}:List (κ × V)->List (κ × Value)->Prop:=Paired fun (p:κ × V) (q:κ × Value)=>p.1=q.1∧RelV p.2 q.2
def kV:Key->V
 | .inl i=>.int i
 | .inr x=>.str x
inductive HO where
 | lst (xs:List V)
 | tup (xs:List V)
 | dK (kvs:List (Key × V))|dT (kvs:List (List Key × V))
 | set (S:Int->Bool) (n:Nat)
 | ins (C dx:Addr) (fs:List (Str × V))
 | own (x:Addr)
 | xd (fs:List (Str × V))
 | met (f x:Addr)
 | rng (lo hi:Int)
 | frz (o:Obj) (u:HO)
 | tbl (ps:Array Value)
 | cod (q:Str)
 | ext (φ:Heap->Prop)
abbrev Hp:=Addr->Option HO
def upd (H:Hp) (a:Addr) (o:HO):Hp:=fun b=>if b=a then some o else H b
theorem upd_same {H:Hp}{a:Addr}{o:HO}:upd H a o a=some o:=by unfold upd;rw [if_pos rfl]
theorem upd_ne {H:Hp}{a b:Addr}{o:HO}(h:b ≠ a):upd H a o b=H b:=by unfold upd;rw [if_neg h]
theorem upd_upd {H:Hp}{a:Addr}{o u:HO}:upd (upd H a o) a u=upd H a u:=by
 funext b;unfold upd;split<;>rfl
theorem ne_of {H:Hp}{a b:Addr}{o u:HO}(h:H a=some o) (h':H b=some u) (d:o ≠ u):a ≠ b:=by
 intro e;subst e;rw [h] at h';exact d (Option.some.inj h')
theorem ne_of_none {H:Hp}{a b:Addr}{o:HO}(h:H a=some o) (h':H b=none):a ≠ b:=by
 intro e;subst e;rw [h] at h';cases h'
section
variable (P:Program) (w:World)
def ObjOk (H:Hp) (h:Heap) (a:Addr):HO->Prop
 | .lst xs=>xs.length≤sizeLine∧∃ (its:List Value) (n:Nat),Vals xs its∧h.get? a=some { cls:=.type "list",data:=.seq its.toArray n }
 | .tup xs=>xs.length≤sizeLine∧∃ its:List Value,Vals xs its∧IsTup h a its.toArray
 | .dK kvs=>kvs.length≤sizeLine∧(a == sysModules)=false∧∃ vs,KV kvs vs∧h.DictOf (mixKind P w) a vs
 | .dT kvs=>kvs.length≤sizeLine∧(a == sysModules)=false∧∃ xs:List (List Key × Addr × Value),
   Paired (fun (p:List Key × V) (q:List Key × Addr × Value)=>p.1=q.1∧H q.2.1=some (.tup (p.1.map kV))∧RelV p.2 q.2.2) kvs xs ∧
   ∃ o es ep,h.get? a=some o∧o.ExactDict∧o.data=.dict es ep∧es.toList=xs.map (entryOfKey (tupleKind (mixKind P w)))∧(xs.map (·.1)).Nodup
 | .set S n=>h.SetOf (intKind P w) a S n
 | .ins C dx fs=>H dx=some (.own a)∧fs.length≤1000∧dx ≠ a∧h.get? a=some (PySem.W.instObj C dx) ∧
   ∃ mA,h.Ns1 dx mA∧(∀ f,RelO (fs.lookup f) (mA f))∧PySem.Within mA (fs.map (·.1))
 | .own _=>∃ o,h.get? a=some o
 | .xd fs=>∃ mA,h.Ns1 a mA∧∀ f,RelO (fs.lookup f) (mA f)
 | .rng lo hi=>∃ t u v,h.get? a=some { cls:=.type "range",data:=.fields #[.int lo t,.int hi u,.int 1 v] }
 | .frz o u=>h.get? a=some o∧ObjOk H h a u
 | .tbl ps=>∃ (q:Str) (t:Tok) (qs:Array Value),ps=#[.str q t]∧h.get? a=some { cls:=.none,data:=.fields qs }∧TriplesOk qs.toList∧∀ (pos:Pos) (cv:Value),codeAmong pos qs.toList=some cv->∃ c:Addr,cv=.ref c∧H c=some (.cod q)
 | .cod q=>∃ (o:Obj) (vs:Array Value) (t:Tok),h.get? a=some o∧o.data=.fields vs∧vs[1]? = some (.str q t)
 | .met f x=>h.get? a=some (PySem.W.methodObj (.ref f) (.ref x))
 | .ext φ=>φ h∧(∃ o,h.get? a=some o)∧∀ h1 h2:Heap,φ h1->(∀ o,h1.get? a=some o->h2.get? a=some o)->φ h2
def HOk (H:Hp) (h:Heap):Prop:=∀ a o,H a=some o->ObjOk P w H h a o
end
section
variable {P:Program}{w:World}{H H':Hp}{h h':Heap}{a:Addr}{o:HO}
theorem ObjOk.lt (x:ObjOk P w H h a o):a < h.objs.size:=by
 cases o with
 | lst xs=>obtain ⟨_,_,_,_,e⟩:=x;exact Heap.lt_size e
 | tup xs=>obtain ⟨_,_,_,p⟩:=x;exact p.lt
 | dK kvs=>obtain ⟨_,_,_,_,o,_,_,e,_⟩:=x;exact Heap.lt_size e
 | dT kvs=>obtain ⟨_,_,_,_,o,_,_,e,_⟩:=x;exact Heap.lt_size e
 | set S n=>obtain ⟨o,_,_,_,e,_⟩:=x;exact Heap.lt_size e
 | ins C dx fs=>obtain ⟨_,_,_,e,_⟩:=x;exact Heap.lt_size e
 | own y=>obtain ⟨_,e⟩:=x;exact Heap.lt_size e
 | xd fs=>obtain ⟨_,⟨_,_,_,e,_⟩,_⟩:=x;exact Heap.lt_size e
 | rng lo hi=>obtain ⟨_,_,_,e⟩:=x;exact Heap.lt_size e
 | frz ob u=>obtain ⟨e,_⟩:=x;exact Heap.lt_size e
 | tbl ps=>obtain ⟨_,_,_,_,e,_⟩:=x;exact Heap.lt_size e
 | cod q=>obtain ⟨_,_,_,e,_⟩:=x;exact Heap.lt_size e
 | met f y=>exact Heap.lt_size (show h.get? a=some _ from x)
 | ext φ=>obtain ⟨_,⟨_,e⟩,_⟩:=x;exact Heap.lt_size e
theorem Paired.mapP {α β:Type}{F G:α->β->Prop}:∀ {l₁:List α}{l₂:List β},Paired F l₁ l₂->(∀ a b,F a b->G a b)->Paired G l₁ l₂
 | _,_,.nil,_=>.nil
 | _,_,.cons r t,f=>.cons (f _ _ r) (Paired.mapP t f)
theorem ObjOk.stay (x:ObjOk P w H h a o) (k:∀ b u,(b=a∨H b=some (.own a))->h.get? b=some u->h'.get? b=some u)
  (ho:∀ b,H b=some (.own a)->H' b=some (.own a)) (hq:∀ b q,H b=some (.cod q)->H' b=some (.cod q)) (ht:∀ b xs,H b=some (.tup xs)->H' b=some (.tup xs)):ObjOk P w H' h' a o:=by
 induction o with
 | lst xs=>obtain ⟨z,its,n,r,e⟩:=x;exact ⟨z,its,n,r,k _ _ (.inl rfl) e⟩
 | tup xs=>obtain ⟨z,its,r,ob,e,c⟩:=x;exact ⟨z,its,r,ob,k _ _ (.inl rfl) e,c⟩
 | dK kvs=>obtain ⟨z,y,vs,r,ob,es,ep,e,c⟩:=x;exact ⟨z,y,vs,r,ob,es,ep,k _ _ (.inl rfl) e,c⟩
 | dT kvs=>
  obtain ⟨z,y,xs,r,ob,es,ep,e,c⟩:=x
  exact ⟨z,y,xs,Paired.mapP r fun p q z=>⟨z.1,ht _ _ z.2.1,z.2.2⟩,ob,es,ep,k _ _ (.inl rfl) e,c⟩
 | set S n=>obtain ⟨ob,es,ep,t,e,c⟩:=x;exact ⟨ob,es,ep,t,k _ _ (.inl rfl) e,c⟩
 | ins C dx fs=>
  obtain ⟨d,z,ne,e,mA,⟨od,es,ep,e2,c⟩,r⟩:=x
  exact ⟨ho _ d,z,ne,k _ _ (.inl rfl) e,mA,⟨od,es,ep,k _ _ (.inr d) e2,c⟩,r⟩
 | own y=>obtain ⟨ob,e⟩:=x;exact ⟨ob,k _ _ (.inl rfl) e⟩
 | xd fs=>obtain ⟨mA,⟨od,es,ep,e,c⟩,r⟩:=x;exact ⟨mA,⟨od,es,ep,k _ _ (.inl rfl) e,c⟩,r⟩
 | rng lo hi=>obtain ⟨t,u,v,e⟩:=x;exact ⟨t,u,v,k _ _ (.inl rfl) e⟩
 | frz ob u ih=>obtain ⟨e,q⟩:=x;exact ⟨k _ _ (.inl rfl) e,ih q⟩
 | tbl ps=>
  obtain ⟨q,t,qs,e0,e,tr,hc⟩:=x
  refine ⟨q,t,qs,e0,k _ _ (.inl rfl) e,tr,fun pos cv hcv=>?_⟩
  obtain ⟨c,r1,r2⟩:=hc pos cv hcv
  exact ⟨c,r1,hq _ _ r2⟩
 | cod q=>obtain ⟨ob,vs,t,e,c⟩:=x;exact ⟨ob,vs,t,k _ _ (.inl rfl) e,c⟩
 | met f y=>
  have e:h.get? a=some (PySem.W.methodObj (.ref f) (.ref y)):=x
  show h'.get? a=some (PySem.W.methodObj (.ref f) (.ref y))
  exact k a _ (.inl rfl) e
 | ext φ=>obtain ⟨p,⟨o,e⟩,st⟩:=x;exact ⟨st _ _ p fun o q=>k _ _ (.inl rfl) q,⟨o,k _ _ (.inl rfl) e⟩,st⟩
theorem HOk.lt (x:HOk P w H h) (e:H a=some o):a < h.objs.size:=(x a o e).lt
theorem HOk.fresh (x:HOk P w H h) (e:h.objs.size≤a):H a=none:=by
 cases q:H a with
 | none=>rfl
 | some u=>exact absurd (Nat.lt_of_lt_of_le (x.lt q) e) (Nat.lt_irrefl _)
theorem HOk.kept (x:HOk P w H h) (k:∀ b u,h.get? b=some u->h'.get? b=some u):HOk P w H h':=fun a o e=>
 (x a o e).stay (fun b u _ q=>k b u q) (fun _ q=>q) (fun _ _ q=>q) fun _ _ q=>q
theorem HOk.laid (x:HOk P w H h) (k:∀ b u,h.get? b=some u->h'.get? b=some u) (hp:h.objs.size≤a) (new:ObjOk P w (upd H a o) h' a o):HOk P w (upd H a o) h':=fun b u e=>by
 have hn:=x.fresh hp
 by_cases hb:b=a
 ·subst hb;rw [upd_same] at e;cases e;exact new
 ·rw [upd_ne hb] at e
  exact (x b u e).stay (fun c v _ q=>k c v q) (fun c q=>by rw [upd_ne (ne_of_none q hn)];exact q) (fun c y q=>by rw [upd_ne (ne_of_none q hn)];exact q) fun c xs q=>by rw [upd_ne (ne_of_none q hn)];exact q
end
def Rd (H:Hp) (a:Addr) (u:HO):Prop:=H a=some u∨∃ o,H a=some (.frz o u)
theorem Rd.ok {P:Program}{w:World}{H:Hp}{h:Heap}{a:Addr}{u:HO}(r:Rd H a u) (x:HOk P w H h):ObjOk P w H h a u:=by
 rcases r with r|⟨o,r⟩
 ·exact x a u r
 ·obtain ⟨_,q⟩:=x a _ r
  exact q
def Mut:Option HO->Prop
 | some (.lst _)=>True
 | some (.dK _)=>True
 | some (.dT _)=>True
 | some (.set _ _)=>True
 | some (.ins _ _ _)=>True
 | some (.ext _)=>True
 | _=>False
section
variable {P:Program}{w:World}{H:Hp}{h h':Heap}{x e:Addr}{o':HO}
theorem HOk.write (ok:HOk P w H h) (mu:Mut (H x)) (he:e=x∨H e=some (.own x)) (k:∀ b u,b ≠ e->h.get? b=some u->h'.get? b=some u) (heo:∃ u,h'.get? e=some u)
  (new:ObjOk P w (upd H x o') h' x o'):HOk P w (upd H x o') h':=fun b u q=>by
 have nown:∀ c y,H c=some (.own y)->c ≠ x:=fun c y r z=>by subst z;rw [r] at mu;exact mu
 have ntup:∀ c xs,H c=some (.tup xs)->c ≠ x:=fun c xs r z=>by subst z;rw [r] at mu;exact mu
 have ncod:∀ c y,H c=some (.cod y)->c ≠ x:=fun c y r z=>by subst z;rw [r] at mu;exact mu
 by_cases hb:b=x
 ·subst hb;rw [upd_same] at q;cases q;exact new
 ·rw [upd_ne hb] at q
  by_cases hbe:b=e
  ·have q':H b=some (.own x):=by
    rcases he with z|z
    ·exact absurd (hbe.trans z) hb
    ·rw [hbe];exact z
   rw [q] at q';cases q'
   obtain ⟨v,hv⟩:=heo
   exact ⟨v,by rw [hbe];exact hv⟩
  ·refine (ok b u q).stay (fun c v hc r=>k c v ?_ r) (fun c r=>by rw [upd_ne (nown c b r)];exact r) (fun c y r=>by rw [upd_ne (ncod c y r)];exact r) fun c xs r=>by rw [upd_ne (ntup c xs r)];exact r
   rcases hc with rfl|hc
   ·exact hbe
   ·rintro rfl
    rcases he with z|z
    ·exact nown c b hc z
    ·rw [hc] at z;cases z;exact hb rfl
end
structure Un (fs ex:List Addr) (H H':Hp) (h h':Heap):Prop where
 keep:∀ b o,h.get? b=some o->H b=none->b ∉ fs->b ∉ ex->h'.get? b=some o
 slot:∀ b o,h.get? b=some o->H b=none->b∈fs->b ∉ ex->∃ sl,h'.get? b=some { o with slots:=sl }
 free:∀ b o,h.get? b=some o->H b=none->b ∉ ex->H' b=none
 there:∀ b o,h.get? b=some o->b ∉ ex->∃ o',h'.get? b=some o'
 tups:∀ b xs,H b=some (.tup xs)->H' b=some (.tup xs)
 frzs:∀ b o u,H b=some (.frz o u)->H' b=some (.frz o u)
 tbls:∀ b ps,H b=some (.tbl ps)->∃ more,H' b=some (.tbl (ps++more))
section
variable {fs fs' ex ex':List Addr}{H H1 H2:Hp}{h h1 h2 h':Heap}{a x e:Addr}{o:HO}
theorem Un.any (u:Un fs ex H H1 h h1){b:Addr}{ob:Obj}(q:h.get? b=some ob) (n:H b=none) (hx:b ∉ ex):∃ sl,h1.get? b=some { ob with slots:=sl }:=by
 by_cases hb:b∈fs
 ·exact u.slot b ob q n hb hx
 ·exact ⟨ob.slots,u.keep b ob q n hb hx⟩
theorem Un.trans (a:Un fs ex H H1 h h1) (b:Un fs ex H1 H2 h1 h2):Un fs ex H H2 h h2 where
 keep:=fun c ob q n hc hx=>b.keep c ob (a.keep c ob q n hc hx) (a.free c ob q n hx) hc hx
 slot:=fun c ob q n hc hx=>by
  obtain ⟨sl,e1⟩:=a.slot c ob q n hc hx
  obtain ⟨sl',e2⟩:=b.slot c _ e1 (a.free c ob q n hx) hc hx
  exact ⟨sl',e2⟩
 free:=fun c ob q n hx=>by
  obtain ⟨o',e1⟩:=a.there c ob q hx
  exact b.free c o' e1 (a.free c ob q n hx) hx
 there:=fun c ob q hx=>by
  obtain ⟨o',e1⟩:=a.there c ob q hx
  exact b.there c o' e1 hx
 tups:=fun c xs q=>b.tups c xs (a.tups c xs q)
 frzs:=fun c ob xs q=>b.frzs c ob xs (a.frzs c ob xs q)
 tbls:=fun c ps q=>by
  obtain ⟨m1,e1⟩:=a.tbls c ps q
  obtain ⟨m2,e2⟩:=b.tbls c _ e1
  exact ⟨m1++m2,by rw [e2,Array.append_assoc]⟩
theorem Un.kept (k:∀ b u,h.get? b=some u->h'.get? b=some u):Un fs ex H H h h':=
 ⟨fun b ob q _ _ _=>k b ob q,fun b ob q _ _ _=>⟨ob.slots,k b ob q⟩,fun _ _ _ n _=>n,fun b ob q _=>⟨ob,k b ob q⟩,fun _ _ q=>q,fun _ _ _ q=>q,fun _ ps q=>⟨#[],by rw [q];simp⟩⟩
theorem Un.refl:Un fs ex H H h h:=Un.kept fun _ _ q=>q
theorem Un.laid (k:∀ b u,h.get? b=some u->h'.get? b=some u) (hp:h.objs.size≤a) (hn:H a=none):Un fs ex H (upd H a o) h h' where
 keep:=fun b u q _ _ _=>k b u q
 slot:=fun b u q _ _ _=>⟨u.slots,k b u q⟩
 free:=fun b u q n _=>by rw [upd_ne (Nat.ne_of_lt (Nat.lt_of_lt_of_le (Heap.lt_size q) hp))];exact n
 there:=fun b u q _=>⟨u,k b u q⟩
 tups:=fun b xs q=>by rw [upd_ne (ne_of_none q hn)];exact q
 frzs:=fun b u xs q=>by rw [upd_ne (ne_of_none q hn)];exact q
 tbls:=fun b ps q=>⟨#[],by rw [upd_ne (ne_of_none q hn),q];simp⟩
theorem Un.write (mu:Mut (H x)) (he:e=x∨H e=some (.own x)) (k:∀ b u,b ≠ e->h.get? b=some u->h'.get? b=some u) (heo:∃ u,h'.get? e=some u):Un fs ex H (upd H x o) h h':=by
 have hx:∀ b,H b=none->b ≠ x:=fun b n z=>by subst z;rw [n] at mu;exact mu
 have hb:∀ b,H b=none->b ≠ e:=fun b n z=>by
  subst z
  rcases he with r|r
  ·exact hx b n r
  ·rw [n] at r;cases r
 have hm:∀ b u,H b=some u->¬ Mut (some u)->b ≠ x:=fun b u q nm z=>by subst z;rw [q] at mu;exact nm mu
 refine ⟨fun b u q n _ _=>k b u (hb b n) q,fun b u q n _ _=>⟨u.slots,k b u (hb b n) q⟩,fun b u q n _=>by rw [upd_ne (hx b n)];exact n,fun b u q _=>?_,
  fun b xs q=>by rw [upd_ne (hm b _ q fun z=>z)];exact q,fun b u xs q=>by rw [upd_ne (hm b _ q fun z=>z)];exact q,fun b ps q=>⟨#[],by rw [upd_ne (hm b _ q fun z=>z),q];simp⟩⟩
 by_cases hbe:b=e
 ·subst hbe;exact heo
 ·exact ⟨u,k b u hbe q⟩
end
def trk (h:Heap) (H:Hp):List Addr:=(List.range h.objs.size).filter fun a=>(H a).isSome
def hidT (h:Heap) (H:Hp):Heap:=PySem.W.hideAll h (trk h H)
theorem hidT_size (h:Heap) (H:Hp):(hidT h H).objs.size=h.objs.size:=PySem.W.hideAll_size _ _
theorem hidT_get {h:Heap}{H:Hp}{b:Addr}{o:Obj}(e:h.get? b=some o) (n:H b=none):(hidT h H).get? b=some o:=
 PySem.W.hideAll_get _ e fun hm=>by
  have q:(H b).isSome=true:=(List.mem_filter.mp hm).2
  rw [n] at q;simp at q
theorem of_hidT {h:Heap}{H:Hp}{b:Addr}{o:Obj}(e:(hidT h H).get? b=some o):h.get? b=some o∧H b=none:=by
 have e':h.get? b=some o:=PySem.W.of_hideAll (trk h H) e
 refine ⟨e',?_⟩
 cases q:H b with
 | none=>rfl
 | some x=>
  have hm:b∈trk h H:=List.mem_filter.mpr ⟨List.mem_range.mpr (Heap.lt_size e'),by simp [q]⟩
  have z:(hidT h H).get? b=none:=PySem.W.hideAll_none (trk h H) hm
  rw [z] at e;cases e
def allNews (g h:Heap) (L:Addr):List (Addr × Obj):=(List.range h.objs.size).filterMap fun a=>if a=L∨(g.get? a).isSome=true then none else (h.get? a).map fun o=>(a,o)
def rest (g h:Heap) (L d:Addr):List (Addr × Obj):=(allNews g h L).filter fun p=>decide (p.1 ≠ d)
end L2
namespace L2
open PySem PySem.Spec PyProof.Rows
structure Mod (K:PySem.W.Frag) (mg:Str->Option Value) (base:Heap):Prop where
 kin:K.In base
 glob:base.Ns mainGlobals mg
 blt:∃ mb,base.Ns builtinsNs mb∧∀ x:Str,x ≠ "__name__" → mb x=bootBuiltins x
 nolimit:base.NoLimit
structure Cx where
 prog:Program
 w:World
 K:PySem.W.Frag
 mg:Str->Option Value
 base:Heap
 A:Around
 N:List Str
 s₀:Shared
 H₀:Hp
 env:Env
 outer:List Env
 stack:List Env
 ex:List Addr
 fn:Str->Bool
 calm:Bool
 pn:List (Addr × Obj)
 xe:Value->Shared->Prop
def frs (l:List Env):List Addr:=l.filterMap (·.frame)
abbrev Cx.fs (X:Cx):List Addr:=frs X.outer
def Vis (sc:Scope) (x:Str):Prop:=sc.names.lookup x=some .local∨sc.names.lookup x=some .cell∨sc.names.lookup x=some .free
def Loc (sc:Scope) (x:Str):Prop:=sc.names.lookup x=some .local∨sc.names.lookup x=some .cell
def Look (env:Env) (h:Heap) (m:Str->Option Value) (x:Str) (u:Value):Prop:=
 (env.kindOf x=some .local∧m x=some u)∨((env.kindOf x=some .cell∨env.kindOf x=some .free)∧∃ c,env.cells.lookup x=some c∧h.IsCell c (some u))
structure Cx.Ok (X:Cx):Prop where
 mod:Mod X.K X.mg X.base
 kind:X.env.scope.kind=.function
 glob:X.env.globals=mainGlobals
 blt:X.env.builtins=builtinsNs
 above:X.s₀.heap.objs.size≤X.env.locals
 inj:∀ x y c,X.env.cells.lookup x=some c->X.env.cells.lookup y=some c->x=y
 has:∀ x,(X.env.kindOf x=some .cell∨X.env.kindOf x=some .free)->∃ c,X.env.cells.lookup x=some c
 cab:∀ x c,X.fn x=true->X.env.cells.lookup x=some c->X.s₀.heap.objs.size≤c
 hd:X.calm=true->X.A.handled=none
 frames:X.A.frames=some X.stack
 stk:X.stack=X.outer∨(X.stack=X.env::X.outer∧X.env.frame=some X.env.locals)
 exf:∀ b∈X.ex,b ≠ X.env.locals∧∀ x c,X.env.cells.lookup x=some c->c ≠ b
 bs:∀ b o,X.base.get? b=some o->X.s₀.heap.get? b=some o∧X.H₀ b=none
 bsz:X.base.objs.size≤X.s₀.heap.objs.size
 noex:∀ b o,X.base.get? b=some o->b ∉ X.ex
 exfs:∀ b∈X.ex,b ∉ X.fs
 funs:X.s₀.heap.FunFrames X.base X.outer
 frf:∀ b∈X.fs,X.H₀ b=none
structure Inv (X:Cx) (pins:List (Addr × Obj)) (σ:List (Option V)) (H:Hp) (s:Shared):Prop where
 ok:X.Ok
 os:s.os=X.s₀.os
 bare:AllBare s.gens
 base:Un X.fs X.ex X.H₀ H X.s₀.heap s.heap
 loc:∃ m,s.heap.Ns X.env.locals m∧∀ (i:Nat) (x:Str) (v:V),X.N[i]? = some x->σ[i]? = some (some v)->Vis X.env.scope x->∃ u,RelV v u∧Look X.env s.heap m x u
 cell:∀ x c,X.env.cells.lookup x=some c->∃ v,s.heap.IsCell c v
 free:H X.env.locals=none
 freeC:∀ x c,X.env.cells.lookup x=some c->H c=none
 pin:∀ p∈X.pn++pins,s.heap.get? p.1=some p.2∧H p.1=none∧p.1 ≠ X.env.locals∧p.1 ∉ X.fs∧∀ v,p.2.data ≠ .cell v
 hok:HOk X.prog X.w H s.heap
 len:σ.length=X.N.length
section
variable {X:Cx}{pins:List (Addr × Obj)}{σ:List (Option V)}{H H':Hp}{s:Shared}{h':Heap}
theorem Cx.Ok.nofr (ok:X.Ok){b:Addr}{o:Obj}(e:X.base.get? b=some o):b ∉ X.fs:=fun hb=>by
 have:=(ok.funs.mem hb).1
 rw [e] at this;cases this
theorem Inv.bs (I:Inv X pins σ H s):∀ b o,X.base.get? b=some o->s.heap.get? b=some o∧H b=none:=fun b o e=>
 ⟨I.base.keep b o (I.ok.bs b o e).1 (I.ok.bs b o e).2 (I.ok.nofr e) (I.ok.noex b o e),I.base.free b o (I.ok.bs b o e).1 (I.ok.bs b o e).2 (I.ok.noex b o e)⟩
theorem Inv.bk (I:Inv X pins σ H s):∀ b o,X.base.get? b=some o->s.heap.get? b=some o:=fun b o e=>(I.bs b o e).1
theorem Inv.mod (I:Inv X pins σ H s):Mod X.K X.mg X.base:=I.ok.mod
theorem Inv.kIn (I:Inv X pins σ H s):X.K.In s.heap:=I.ok.mod.kin.keeps I.bk
theorem Inv.lt (I:Inv X pins σ H s):X.env.locals < s.heap.objs.size:=let ⟨_,hn,_⟩:=I.loc;hn.lt
theorem Inv.sz (I:Inv X pins σ H s):X.s₀.heap.objs.size≤s.heap.objs.size:=Nat.le_trans I.ok.above (Nat.le_of_lt I.lt)
theorem Inv.nofs (I:Inv X pins σ H s){a:Addr}(h:s.heap.objs.size≤a):a ∉ X.fs:=fun hb=>by
 obtain ⟨_,o,ho,_⟩:=I.ok.funs.mem hb
 exact absurd (Nat.lt_of_lt_of_le (Heap.lt_size ho) (Nat.le_trans I.sz h)) (Nat.lt_irrefl _)
theorem Inv.cne (I:Inv X pins σ H s):∀ x c,X.env.cells.lookup x=some c->c ≠ X.env.locals:=fun x c e z=>by
 obtain ⟨v,o,ho,hd⟩:=I.cell x c e
 obtain ⟨m,⟨o',es,ep,ho',hd',_⟩,_⟩:=I.loc
 rw [z,ho'] at ho;cases ho;rw [hd'] at hd;cases hd
theorem Inv.funs (I:Inv X pins σ H s):s.heap.FunFrames X.base X.outer:=by
 have all:∀ (l:List Env),(∀ b∈frs l,b∈X.fs)->X.s₀.heap.FunFrames X.base l->s.heap.FunFrames X.base l:=by
  intro l
  induction l with
  | nil=>intro _ _;trivial
  | cons env r ih=>
   intro hs hl
   obtain ⟨hk,⟨L,o,hf,hn,ho,hd⟩,hr⟩:=hl
   have hL:L∈X.fs:=hs L (by unfold frs;rw [List.filterMap_cons,hf];exact List.mem_cons_self)
   obtain ⟨sl,e⟩:=I.base.slot L o ho (I.ok.frf L hL) hL fun z=>I.ok.exfs L z hL
   exact ⟨hk,⟨L,_,hf,hn,e,hd⟩,ih (fun b hb=>hs b (by unfold frs;rw [List.filterMap_cons,hf];exact List.mem_cons_of_mem _ hb)) hr⟩
 exact all X.outer (fun _ hb=>hb) I.ok.funs
theorem Inv.stack (I:Inv X pins σ H s):s.heap.FunFrames X.base X.stack:=by
 rcases I.ok.stk with e|⟨e,hf⟩
 ·rw [e];exact I.funs
 ·rw [e]
  obtain ⟨m,hn,_⟩:=I.loc
  refine .cons (by rw [I.ok.kind];decide) hf hn ?_ I.funs
  exact Heap.get?_none_of_le (Nat.le_trans I.ok.bsz I.ok.above)
theorem Inv.stkSub (I:Inv X pins σ H s):∀ b∈frs X.stack,b∈X.env.locals::X.fs:=fun b hb=>by
 rcases I.ok.stk with e|⟨e,hf⟩
 ·rw [e] at hb;exact List.mem_cons_of_mem _ hb
 ·rw [e] at hb
  unfold frs at hb
  rw [List.filterMap_cons,hf] at hb
  exact hb
theorem Inv.stkFree (I:Inv X pins σ H s):∀ b∈frs X.stack,H b=none:=fun b hb=>by
 rcases List.mem_cons.mp (I.stkSub b hb) with e|hb
 ·rw [e];exact I.free
 ·obtain ⟨_,o,ho,_⟩:=I.ok.funs.mem hb
  exact I.base.free b o ho (I.ok.frf b hb) fun z=>I.ok.exfs b z hb
theorem Inv.step {g':Array GenState}{t':Nat}{d':Drawn}{ch:List Addr}(I:Inv X pins σ H s)
  (hch:∀ b∈ch,(b∈X.ex∨X.s₀.heap.objs.size≤b)∧b ≠ X.env.locals∧(∀ x c,X.env.cells.lookup x=some c->c ≠ b)∧∀ p∈X.pn++pins,p.1 ≠ b)
  (keep:∀ b o,b ≠ X.env.locals->b ∉ X.fs->b ∉ ch->s.heap.get? b=some o->H b=none->h'.get? b=some o)
  (slot:∀ b o,b ≠ X.env.locals->b∈X.fs->b ∉ ch->s.heap.get? b=some o->H b=none->∃ sl,h'.get? b=some { o with slots:=sl }) (free:∀ b o,b ∉ ch->s.heap.get? b=some o->H b=none->H' b=none)
  (there:∀ b o,b ∉ ch->s.heap.get? b=some o->∃ o',h'.get? b=some o')
  (tups:∀ b xs,H b=some (.tup xs)->H' b=some (.tup xs)) (frzs:∀ b o u,H b=some (.frz o u)->H' b=some (.frz o u)) (tbls:∀ b ps,H b=some (.tbl ps)->∃ more,H' b=some (.tbl (ps++more)))
  (ns:∀ m,s.heap.Ns X.env.locals m->h'.Ns X.env.locals m) (hok:HOk X.prog X.w H' h') (hg:AllBare g') :
  Inv X pins σ H' { s with heap:=h',gens:=g',drawn:=d',toks:=t' }:=by
 have neL:∀ b o,X.s₀.heap.get? b=some o->b ≠ X.env.locals:=fun b o e=>Nat.ne_of_lt (Nat.lt_of_lt_of_le (Heap.lt_size e) I.ok.above)
 have neC:∀ b o,X.s₀.heap.get? b=some o->b ∉ X.ex->b ∉ ch:=fun b o e hx hb=>by
  rcases (hch b hb).1 with z|z
  ·exact hx z
  ·exact absurd (Nat.lt_of_lt_of_le (Heap.lt_size e) z) (Nat.lt_irrefl _)
 have cellK:∀ x c,X.env.cells.lookup x=some c->∀ v,s.heap.IsCell c v->h'.IsCell c v:=fun x c e v ⟨o,ho,hd⟩=>by
  have nch:c ∉ ch:=fun z=>(hch c z).2.2.1 x c e rfl
  by_cases hc:c∈X.fs
  ·obtain ⟨sl,q⟩:=slot c o (I.cne x c e) hc nch ho (I.freeC x c e)
   exact ⟨_,q,hd⟩
  ·exact ⟨o,keep c o (I.cne x c e) hc nch ho (I.freeC x c e),hd⟩
 refine ⟨I.ok,I.os,hg,⟨fun b o e n hb hx=>?_,fun b o e n hb hx=>?_,fun b o e n hx=>?_,fun b o e hx=>?_,fun b xs e=>tups b xs (I.base.tups b xs e),fun b o xs e=>frzs b o xs (I.base.frzs b o xs e),fun b ps e=>?_⟩,?_,fun x c e=>?_,?_,fun x c e=>?_,fun p hp=>?_,hok,I.len⟩
 ·exact keep b o (neL b o e) hb (neC b o e hx) (I.base.keep b o e n hb hx) (I.base.free b o e n hx)
 ·obtain ⟨sl,e1⟩:=I.base.slot b o e n hb hx
  obtain ⟨sl',e2⟩:=slot b _ (neL b o e) hb (neC b o e hx) e1 (I.base.free b o e n hx)
  exact ⟨sl',e2⟩
 ·obtain ⟨o',e1⟩:=I.base.there b o e hx
  exact free b o' (neC b o e hx) e1 (I.base.free b o e n hx)
 ·obtain ⟨o',e1⟩:=I.base.there b o e hx
  exact there b o' (neC b o e hx) e1
 ·obtain ⟨m1,e1⟩:=I.base.tbls b ps e
  obtain ⟨m2,e2⟩:=tbls b _ e1
  exact ⟨m1++m2,by rw [e2,Array.append_assoc]⟩
 ·obtain ⟨m,hn,hl⟩:=I.loc
  refine ⟨m,ns m hn,fun i x v e1 e2 e3=>?_⟩
  obtain ⟨u,r,l⟩:=hl i x v e1 e2 e3
  refine ⟨u,r,?_⟩
  rcases l with l|⟨k,c,e,z⟩
  ·exact .inl l
  ·exact .inr ⟨k,c,e,cellK x c e _ z⟩
 ·obtain ⟨v,z⟩:=I.cell x c e
  exact ⟨v,cellK x c e v z⟩
 ·obtain ⟨m,⟨o,_,_,ho,_⟩,_⟩:=I.loc
  exact free _ o (fun z=>(hch _ z).2.1 rfl) ho I.free
 ·obtain ⟨v,o,ho,hd⟩:=I.cell x c e
  exact free c o (fun z=>(hch c z).2.2.1 x c e rfl) ho (I.freeC x c e)
 ·obtain ⟨e,n,ne,nf,d⟩:=I.pin p hp
  have nch:p.1 ∉ ch:=fun z=>(hch p.1 z).2.2.2 p hp rfl
  exact ⟨keep p.1 p.2 ne nf nch e n,free p.1 p.2 nch e n,ne,nf,d⟩
theorem Inv.un {t':Nat}(I:Inv X pins σ H s) (u:Un X.fs [] H H' s.heap h') (hok:HOk X.prog X.w H' h'):Inv X pins σ H' { s with heap:=h',toks:=t' }:=by
 obtain ⟨m,⟨o,es,ep,ho,r⟩,_⟩:=id I.loc
 obtain ⟨sl,hL⟩:=u.any ho I.free (by simp)
 exact I.step (g':=s.gens) (d':=s.drawn) (ch:=[]) (fun _ z=>nomatch z) (fun b o _ hb _ e n=>u.keep b o e n hb (by simp)) (fun b o _ hb _ e n=>u.slot b o e n hb (by simp)) (fun b o _ e n=>u.free b o e n (by simp)) (fun b o _ e=>u.there b o e (by simp)) u.tups u.frzs u.tbls (fun m' hm=>by
  obtain ⟨o',es',ep',ho',r'⟩:=hm
  rw [ho] at ho';cases ho'
  exact ⟨_,es',ep',hL,r'⟩) hok I.bare
theorem Inv.call {g':Array GenState}{t':Nat}{d':Drawn}{ch:List Addr}(I:Inv X pins σ H s) (u:Un (frs X.stack) ch H H' s.heap h') (hok:HOk X.prog X.w H' h') (hg:AllBare g')
  (hch:∀ b∈ch,(b∈X.ex∨X.s₀.heap.objs.size≤b)∧b ≠ X.env.locals∧(∀ x c,X.env.cells.lookup x=some c->c ≠ b)∧∀ p∈X.pn++pins,p.1 ≠ b) :
  Inv X pins σ H' { s with heap:=h',gens:=g',drawn:=d',toks:=t' }:=by
 obtain ⟨m,⟨o,es,ep,ho,r⟩,_⟩:=id I.loc
 obtain ⟨sl,hL⟩:=u.any ho I.free fun z=>(hch _ z).2.1 rfl
 exact I.step (ch:=ch) hch (fun b o hL hb hc e n=>u.keep b o e n (fun z=>(List.mem_cons.mp (I.stkSub b z)).elim hL hb) hc) (fun b o _ _ hc e n=>u.any e n hc) (fun b o hc e n=>u.free b o e n hc) (fun b o hc e=>u.there b o e hc) u.tups u.frzs u.tbls (fun m' hm=>by
  obtain ⟨o',es',ep',ho',r'⟩:=hm
  rw [ho] at ho';cases ho'
  exact ⟨_,es',ep',hL,r'⟩) hok hg
theorem Inv.turned {t':Nat}{it:Addr}(I:Inv X pins σ H s) (k:∀ b o,b ≠ it->s.heap.get? b=some o->h'.get? b=some o) (hn:H it=none) (hL:it ≠ X.env.locals)
  (h1:it∈X.ex∨X.s₀.heap.objs.size≤it) (h2:∀ x c,X.env.cells.lookup x=some c->c ≠ it) (h3:∀ p∈X.pn++pins,p.1 ≠ it):Inv X pins σ H { s with heap:=h',toks:=t' }:=by
 have nit:∀ b u,H b=some u->b ≠ it:=fun b u e z=>by rw [z,hn] at e;cases e
 refine I.step (g':=s.gens) (d':=s.drawn) (ch:=[it]) (fun b hb=>?_) (fun b o _ _ hc e _=>k b o (fun z=>hc (by simp [z])) e) (fun b o _ _ hc e _=>⟨o.slots,k b o (fun z=>hc (by simp [z])) e⟩) (fun _ _ _ _ n=>n)
  (fun b o hc e=>⟨o,k b o (fun z=>hc (by simp [z])) e⟩) (fun _ _ e=>e) (fun _ _ _ e=>e) (fun b ps e=>⟨#[],by rw [e];simp⟩) (fun m hm=>?_) (fun b u e=>?_) I.bare
 ·have e:b=it:=by simpa using hb
  subst e
  exact ⟨h1,hL,h2,h3⟩
 ·obtain ⟨o,es,ep,ho,r⟩:=hm
  exact ⟨o,es,ep,k _ o (Ne.symm hL) ho,r⟩
 ·refine (I.hok b u e).stay (fun c v hc q=>k c v ?_ q) (fun _ q=>q) (fun _ _ q=>q) fun _ _ q=>q
  rcases hc with z|z
  ·rw [z];exact nit b u e
  ·exact nit c _ z
theorem Inv.tok (I:Inv X pins σ H s) (t:Nat):Inv X pins σ H { s with toks:=t }:=I.un (h':=s.heap) (t':=t) Un.refl I.hok
theorem Inv.kept {t':Nat}(I:Inv X pins σ H s) (k:∀ b u,s.heap.get? b=some u->h'.get? b=some u):Inv X pins σ H { s with heap:=h',toks:=t' }:=I.un (Un.kept k) (I.hok.kept k)
theorem Inv.laid {a:Addr}{o:HO}{t':Nat}(I:Inv X pins σ H s) (k:∀ b u,s.heap.get? b=some u->h'.get? b=some u) (hp:s.heap.objs.size≤a) (new:ObjOk X.prog X.w (upd H a o) h' a o) :
  Inv X pins σ (upd H a o) { s with heap:=h',toks:=t' }:=I.un (Un.laid k hp (I.hok.fresh hp)) (I.hok.laid k hp new)
theorem Inv.write {x e:Addr}{o:HO}{t':Nat}(I:Inv X pins σ H s) (mu:Mut (H x)) (he:e=x∨H e=some (.own x)) (k:∀ b u,b ≠ e->s.heap.get? b=some u->h'.get? b=some u) (heo:∃ u,h'.get? e=some u)
  (new:ObjOk X.prog X.w (upd H x o) h' x o):Inv X pins σ (upd H x o) { s with heap:=h',toks:=t' }:=I.un (Un.write mu he k heo) (I.hok.write mu he k heo new)
theorem Inv.weak {σ':List (Option V)}(I:Inv X pins σ H s) (hl:σ'.length=σ.length) (w:∀ (i:Nat) v,σ'[i]? = some (some v)->σ[i]? = some (some v)):Inv X pins σ' H s:=
 ⟨I.ok,I.os,I.bare,I.base,let ⟨m,hn,hl'⟩:=I.loc;⟨m,hn,fun i x v e1 e2 e3=>hl' i x v e1 (w i v e2) e3⟩,I.cell,I.free,I.freeC,I.pin,I.hok,hl.trans I.len⟩
theorem Inv.pins_of {pins':List (Addr × Obj)}(I:Inv X pins σ H s) (h:∀ p∈pins',s.heap.get? p.1=some p.2∧H p.1=none∧p.1 ≠ X.env.locals∧p.1 ∉ X.fs∧∀ v,p.2.data ≠ .cell v):Inv X pins' σ H s:=
 ⟨I.ok,I.os,I.bare,I.base,I.loc,I.cell,I.free,I.freeC,fun p hp=>(List.mem_append.mp hp).elim (fun z=>I.pin p (List.mem_append_left _ z)) (h p),I.hok,I.len⟩
theorem nodup_ix {N:List Str}(hN:N.Nodup){i j:Nat}{x:Str}(a:N[i]? = some x) (b:N[j]? = some x):i=j:=by
 obtain ⟨h1,e1⟩:=List.getElem?_eq_some_iff.mp a
 obtain ⟨h2,e2⟩:=List.getElem?_eq_some_iff.mp b
 exact (List.getElem_inj hN).mp (e1.trans e2.symm)
theorem store_ok2 {M:Model}{A:Around}{E:Value->Shared->Prop}{i:Nat}{x:Str}{v:V}{u:Value}{Q:Unit->Shared->Prop}(I:Inv X pins σ H s) (hN:X.N.Nodup) (hi:X.N[i]? = some x) (hx:Loc X.env.scope x) (r:RelV v u)
  (h:∀ s',Inv X pins (σ.set i (some v)) H s'->(∃ a,Heap.SameBut a s.heap s'.heap∧(a=X.env.locals∨X.env.cells.lookup x=some a))->Q () s') (hf:X.fn x=true∨X.env.scope.names.lookup x=some .local:=by first|exact .inl rfl|exact .inr rfl|assumption):wpAny M A (storeName X.env x u) Q E s:=by
 obtain ⟨m,hn,hl⟩:=id I.loc
 have hcls:(X.env.scope.kind == .class || (X.env.scope.kind == .module && X.env.locals != X.env.globals))=false:=by rw [I.ok.kind];rfl
 have hiσ:i < σ.length:=by rw [I.len];exact (List.getElem?_eq_some_iff.mp hi).1
 have cne:=I.cne
 have tracked:∀ {a:Addr} {h':Heap},(∃ o,s.heap.get? a=some o∧H a=none)->Heap.SameBut a s.heap h'->HOk X.prog X.w H h':=fun {a h'} ha hs b ob e=>by
  obtain ⟨_,_,hfree⟩:=ha
  refine (I.hok b ob e).stay (fun c w' hc q=>(hs.2 c ?_).trans q) (fun _ q=>q) (fun _ _ q=>q) fun _ _ q=>q
  rintro rfl
  rcases hc with rfl|hc
  ·rw [hfree] at e;cases e
  ·rw [hfree] at hc;cases hc
 rcases hx with hk|hk
 ·refine wpAny_storeName_local hk hn (fun h' hn' hs=>?_) hcls
  obtain ⟨oL,_,_,hoL,_⟩:=id hn
  refine h _ ⟨I.ok,I.os,I.bare,⟨fun b o e n hb hx=>?_,fun b o e n hb hx=>?_,I.base.free,fun b o e hx=>?_,I.base.tups,I.base.frzs,I.base.tbls⟩,⟨_,hn',fun j y v' e1 e2 e3=>?_⟩,fun y c e=>?_,I.free,I.freeC,fun p hp=>?_,tracked ⟨oL,hoL,I.free⟩ hs,by simpa using I.len⟩ ⟨_,hs,.inl rfl⟩
  ·exact (hs.2 b (Nat.ne_of_lt (Nat.lt_of_lt_of_le (Heap.lt_size e) I.ok.above))).trans (I.base.keep b o e n hb hx)
  ·obtain ⟨sl,e1⟩:=I.base.slot b o e n hb hx
   exact ⟨sl,(hs.2 b (Nat.ne_of_lt (Nat.lt_of_lt_of_le (Heap.lt_size e) I.ok.above))).trans e1⟩
  ·obtain ⟨o',e1⟩:=I.base.there b o e hx
   exact ⟨o',(hs.2 b (Nat.ne_of_lt (Nat.lt_of_lt_of_le (Heap.lt_size e) I.ok.above))).trans e1⟩
  ·by_cases hj:j=i
   ·subst hj
    rw [hi] at e1;cases e1
    rw [List.getElem?_set_self hiσ] at e2
    cases e2
    exact ⟨u,r,.inl ⟨hk,by simp⟩⟩
   ·rw [List.getElem?_set_ne (Ne.symm hj)] at e2
    obtain ⟨u',r',q⟩:=hl j y v' e1 e2 e3
    refine ⟨u',r',?_⟩
    rcases q with ⟨k,e⟩|⟨k,c,e,z⟩
    ·refine .inl ⟨k,?_⟩
     have:y ≠ x:=fun e=>hj (nodup_ix hN e1 (e ▸ hi))
     simp [this,e]
    ·exact .inr ⟨k,c,e,z.sameBut hs (cne y c e)⟩
  ·obtain ⟨w',z⟩:=I.cell y c e
   exact ⟨w',z.sameBut hs (cne y c e)⟩
  ·obtain ⟨e,n,ne,nf,d⟩:=I.pin p hp
   exact ⟨(hs.2 p.1 ne).trans e,n,ne,nf,d⟩
 ·have hfn:X.fn x=true:=by
   rcases hf with z|z
   ·exact z
   ·rw [z] at hk;cases hk
  obtain ⟨c,hc⟩:=I.ok.has x (.inl hk)
  obtain ⟨w',z⟩:=I.cell x c hc
  refine wpAny_storeName_cell I.ok.kind hk hc z (fun h' hc' hs=>?_)
  obtain ⟨oc,hoc,hocd⟩:=id z
  refine h { s with heap:=h' } ⟨I.ok,I.os,I.bare,⟨fun b o e n hb hx=>?_,fun b o e n hb hx=>?_,I.base.free,fun b o e hx=>?_,I.base.tups,I.base.frzs,I.base.tbls⟩,⟨m,hn.sameBut hs (Ne.symm (cne x c hc)),fun j y v' e1 e2 e3=>?_⟩,fun y c' e=>?_,I.free,I.freeC,fun p hp=>?_,tracked ⟨oc,hoc,I.freeC x c hc⟩ hs,by simpa using I.len⟩ ⟨c,hs,.inr hc⟩
  ·exact (hs.2 b (Nat.ne_of_lt (Nat.lt_of_lt_of_le (Heap.lt_size e) (I.ok.cab x c hfn hc)))).trans (I.base.keep b o e n hb hx)
  ·obtain ⟨sl,e1⟩:=I.base.slot b o e n hb hx
   exact ⟨sl,(hs.2 b (Nat.ne_of_lt (Nat.lt_of_lt_of_le (Heap.lt_size e) (I.ok.cab x c hfn hc)))).trans e1⟩
  ·obtain ⟨o',e1⟩:=I.base.there b o e hx
   exact ⟨o',(hs.2 b (Nat.ne_of_lt (Nat.lt_of_lt_of_le (Heap.lt_size e) (I.ok.cab x c hfn hc)))).trans e1⟩
  ·by_cases hj:j=i
   ·subst hj
    rw [hi] at e1;cases e1
    rw [List.getElem?_set_self hiσ] at e2
    cases e2
    exact ⟨u,r,.inr ⟨.inl hk,c,hc,hc'⟩⟩
   ·rw [List.getElem?_set_ne (Ne.symm hj)] at e2
    obtain ⟨u',r',q⟩:=hl j y v' e1 e2 e3
    refine ⟨u',r',?_⟩
    rcases q with q|⟨k,c',e,z'⟩
    ·exact .inl q
    ·refine .inr ⟨k,c',e,z'.sameBut hs ?_⟩
     rintro rfl
     exact hj (nodup_ix hN e1 (I.ok.inj _ _ _ e hc ▸ hi))
  ·by_cases hcc:c'=c
   ·subst hcc;exact ⟨_,hc'⟩
   ·obtain ⟨w2,z2⟩:=I.cell y c' e
    exact ⟨w2,z2.sameBut hs hcc⟩
  ·obtain ⟨e,n,ne,nf,d⟩:=I.pin p hp
   refine ⟨(hs.2 p.1 ?_).trans e,n,ne,nf,d⟩
   intro q
   rw [q,hoc] at e
   have q':oc=p.2:=Option.some.inj e
   exact d w' (by rw [←q'];exact hocd)
theorem store_ok {M:Model}{A:Around}{E:Value->Shared->Prop}{i:Nat}{x:Str}{v:V}{u:Value}{Q:Unit->Shared->Prop}(I:Inv X pins σ H s) (hN:X.N.Nodup) (hi:X.N[i]? = some x) (hx:Loc X.env.scope x) (r:RelV v u)
  (h:∀ s',Inv X pins (σ.set i (some v)) H s'->Q () s') (hf:X.fn x=true∨X.env.scope.names.lookup x=some .local:=by first|exact .inl rfl|exact .inr rfl|assumption):wpAny M A (storeName X.env x u) Q E s:=
 store_ok2 I hN hi hx r (fun s' I' _=>h s' I') hf
theorem Inv.call' {s':Shared}{ch:List Addr}(I:Inv X pins σ H s) (ho:s'.os=s.os) (u:Un (frs X.stack) ch H H' s.heap s'.heap) (hok:HOk X.prog X.w H' s'.heap) (hg:AllBare s'.gens)
  (hch:∀ b∈ch,(b∈X.ex∨X.s₀.heap.objs.size≤b)∧b ≠ X.env.locals∧(∀ x c,X.env.cells.lookup x=some c->c ≠ b)∧∀ p∈X.pn++pins,p.1 ≠ b):Inv X pins σ H' s':=by
 obtain ⟨h',g',d',t',o'⟩:=s'
 have e:o'=s.os:=ho
 subst e
 exact I.call (g':=g') (t':=t') (d':=d') u hok hg hch
end
abbrev XK:=Value->Option Addr->Hp->Prop
abbrev St:=List (Option V)
abbrev VK:=V->Hp->Prop
abbrev TE:=St->Hp->VK->Prop
abbrev TT:=St->Hp->(Bool->Hp->Prop)->Prop
abbrev TA:=St->Hp->(List V->Hp->Prop)->Prop
structure Ends where
 nx:St->Hp->Prop
 rt:VK
 bk:St->Hp->Prop:=fun _ _=>False
 ct:St->Hp->Prop:=fun _ _=>False
abbrev TS:=Ends->St->Hp->Prop
def EP (X:Cx) (pins:List (Addr × Obj)) (σ:St) (Q:VK) (u:Value) (s':Shared):Prop:=∃ v H',Inv X pins σ H' s'∧RelV v u∧Q v H'
def TP (X:Cx) (pins:List (Addr × Obj)) (σ:St) (Q:Bool->Hp->Prop) (b:Bool) (s':Shared):Prop:=∃ H',Inv X pins σ H' s'∧Q b H'
def AP (X:Cx) (pins:List (Addr × Obj)) (σ:St) (Q:List V->Hp->Prop) (us:List Value) (s':Shared):Prop:=∃ vs H',Inv X pins σ H' s'∧Vals vs us∧Q vs H'
def SP (X:Cx) (pins:List (Addr × Obj)) (D:Ends) (f:Flow) (s':Shared):Prop:=
 match f with
 | .next=>∃ σ' H',Inv X pins σ' H' s'∧D.nx σ' H'
 | .brk=>∃ σ' H',Inv X pins σ' H' s'∧D.bk σ' H'
 | .cont=>∃ σ' H',Inv X pins σ' H' s'∧D.ct σ' H'
 | .ret u=>∃ v σ' H',Inv X pins σ' H' s'∧RelV v u∧D.rt v H'
def PE (X:Cx) (e:Expr) (t:TE):Prop:=
 ∀ (pins:List (Addr × Obj)) (s:Shared) (σ:St) (H:Hp) (Q:VK),Inv X pins σ H s->t σ H Q->wpAny (model X.prog X.w) X.A (eval e X.env) (EP X pins σ Q) X.xe s
def PT (X:Cx) (e:Expr) (t:TT):Prop:=
 ∀ (pins:List (Addr × Obj)) (s:Shared) (σ:St) (H:Hp) (Q:Bool->Hp->Prop),Inv X pins σ H s->t σ H Q->wpAny (model X.prog X.w) X.A (isTrue e X.env (eval e X.env)) (TP X pins σ Q) X.xe s
def PW (X:Cx) (e:Expr) (t:TT):Prop:=
 ∀ (whole:Sem Value) (pins:List (Addr × Obj)) (s:Shared) (σ:St) (H:Hp) (Q:Bool->Hp->Prop),Inv X pins σ H s->t σ H Q->wpAny (model X.prog X.w) X.A (isTrue e X.env whole) (TP X pins σ Q) X.xe s
theorem PW.pt {X:Cx}{e:Expr}{t:TT}(h:PW X e t):PT X e t:=h _
def PA (X:Cx) (es:List Expr) (t:TA):Prop:=
 ∀ (pos:Pos) (pins:List (Addr × Obj)) (s:Shared) (σ:St) (H:Hp) (Q:List V->Hp->Prop),Inv X pins σ H s->t σ H Q->wpAny (model X.prog X.w) X.A (spliced (backTo pos (starEach es X.env))) (AP X pins σ Q) X.xe s
def PS (X:Cx) (st:Stmt) (t:TS):Prop:=
 ∀ (pins:List (Addr × Obj)) (s:Shared) (σ:St) (H:Hp) (D:Ends),Inv X pins σ H s->t D σ H->wpAny (model X.prog X.w) X.A (exec st X.env) (SP X pins D) X.xe s
def PSs (X:Cx) (st:List Stmt) (t:TS):Prop:=
 ∀ (pins:List (Addr × Obj)) (s:Shared) (σ:St) (H:Hp) (D:Ends),Inv X pins σ H s->t D σ H->wpAny (model X.prog X.w) X.A (execs st X.env) (SP X pins D) X.xe s
theorem thn {α:Type}{t:Sem α}{Q Q':α->Shared->Prop}{M:Model}{A:Around}{E:Value->Shared->Prop}{s:Shared}(h:wpAny M A t Q E s) (hQ:∀ a s,Q a s->Q' a s):wpAny M A t Q' E s:=wpAny_mono h hQ fun _ _ x=>x
end L2
namespace L2
open PySem PySem.Spec PyProof.Rows
section
variable {X:Cx}
def tVar (i:Nat):TE:=fun σ H Q=>∃ v,σ[i]? = some (some v)∧Q v H
def tC (v:V):TE:=fun _ H Q=>Q v H
theorem pe_var {i:Nat}{x:Str}{pos:Pos}(hN:X.N[i]? = some x) (hv:Vis X.env.scope x) (hd:(x == ("__debug__":Str))=false:=by decide) (hcd:(x == ("__classdict__":Str))=false:=by decide):PE X (.Name x pos) (tVar i):=by
 intro pins s σ H Q I h
 obtain ⟨v,e,h⟩:=h
 obtain ⟨m,hn,hl⟩:=I.loc
 obtain ⟨u,r,l⟩:=hl i x v hN e hv
 have fin:EP X pins σ Q u s:=⟨v,H,I,r,h⟩
 rcases l with ⟨hk,hm⟩|⟨hk,c,hc,hcell⟩
 ·exact wpAny_Name (wpAny_loadName_local I.ok.kind hk hn hm fin) hd
 ·rcases hk with hk|hk
  ·exact wpAny_Name (wpAny_loadName_cell I.ok.kind hk hc hcell fin) hd
  ·exact wpAny_Name (wpAny_loadName_free I.ok.kind hk hc hcell fin hcd) hd
theorem pe_int {i j pos}:PE X (.Constant (.int i) j pos) (tC (.int i)):=fun _ _ _ H _ I h=>wpAny_Constant_int ⟨.int i,H,I.tok _,⟨_,rfl⟩,h⟩
theorem pe_bl {b j pos}:PE X (.Constant (.bool b) j pos) (tC (.bl b)):=fun _ _ _ H _ I h=>Constant_bool ⟨.bl b,H,I,rfl,h⟩
theorem pe_str {x j pos}:PE X (.Constant (.str x) j pos) (tC (.str x)):=fun _ _ _ H _ I h=>Calls.Constant_str ⟨.str x,H,I.tok _,⟨_,rfl⟩,h⟩
def Gl (X:Cx) (x:Str):Prop:=X.env.kindOf x=some .globalImplicit
theorem ld_glob {E:Value->Shared->Prop}{pins:List (Addr × Obj)}{s:Shared}{σ:St}{H:Hp}{x:Str}{u:Value}{pos:Pos}{Q:Value->Shared->Prop}(I:Inv X pins σ H s) (hg:Gl X x) (hm:X.mg x=some u) (h:Q u s)
  (hd:(x == ("__debug__":Str))=false:=by decide):wpAny (model X.prog X.w) X.A (eval (.Name x pos) X.env) Q E s:=
 Calls.Name_function_global I.ok.kind hg (Calls.loadGlobal_global (by rw [I.ok.glob];exact I.mod.glob.keeps I.bk) hm h) hd
theorem ld_blt {E:Value->Shared->Prop}{pins:List (Addr × Obj)}{s:Shared}{σ:St}{H:Hp}{x:Str}{u:Value}{pos:Pos}{Q:Value->Shared->Prop}(I:Inv X pins σ H s) (hg:Gl X x) (hm:X.mg x=none) (hv:bootBuiltins x=some u) (h:Q u s)
  (hn:x ≠ "__name__":=by decide) (hd:(x == ("__debug__":Str))=false:=by decide):wpAny (model X.prog X.w) X.A (eval (.Name x pos) X.env) Q E s:=by
 obtain ⟨mb,h1,h2⟩:=I.mod.blt
 exact Calls.Name_function_global I.ok.kind hg (Calls.loadGlobal_builtin (by rw [I.ok.glob];exact I.mod.glob.keeps I.bk) hm (by rw [I.ok.blt];exact h1.keeps I.bk) ((h2 x hn).trans hv) h) hd
theorem pe_glob {x:Str}{v:V}{u:Value}{pos:Pos}(hg:Gl X x) (hm:X.mg x=some u) (r:RelV v u) (hd:(x == ("__debug__":Str))=false:=by decide):PE X (.Name x pos) (tC v):=
 fun _ _ _ H _ I h=>ld_glob I hg hm ⟨v,H,I,r,h⟩ hd
theorem pe_bltn {x:Str}{v:V}{u:Value}{pos:Pos}(hg:Gl X x) (hm:X.mg x=none) (hv:bootBuiltins x=some u) (r:RelV v u) (hn:x ≠ "__name__":=by decide) (hd:(x == ("__debug__":Str))=false:=by decide):PE X (.Name x pos) (tC v):=
 fun _ _ _ H _ I h=>ld_blt I hg hm hv ⟨v,H,I,r,h⟩ hn hd
variable {a b:Expr}{ta tb:TE}{pos:Pos}
def tB (t:TE):TT:=fun σ H Q=>t σ H fun x H1=>∃ c,x=.bl c∧Q c H1
theorem pt_val {e:Expr}{t:TE}(h:PE X e t) (he:∀ whole,isTrue e X.env whole=(do let v ←whole;standAt e.pos;holding [v] (truthy v)):=by intro _;rfl):PT X e (tB t):=by
 intro pins s σ H Q I hw
 refine isTrue_plain (thn (h pins s σ H _ I hw) fun v s1 ⟨x,H1,I1,r1,q1⟩=>?_) (he _)
 obtain ⟨d,rfl,q⟩:=q1
 cases r1
 exact wpAny_truthy_bool ⟨H1,I1,q⟩
variable {tA tB':TT}{rest:List Expr}
def tAnd (t u:TT):TT:=fun σ H Q=>t σ H fun c H1=>if c=true then u σ H1 Q else Q false H1
def tOr (t u:TT):TT:=fun σ H Q=>t σ H fun c H1=>if c=true then Q true H1 else u σ H1 Q
def tNot (t:TT):TT:=fun σ H Q=>t σ H fun c H1=>Q (!c) H1
theorem pw_and1 (ha:PT X a tA):PW X (.BoolOp .And [a] pos) tA:=by
 intro wh pins s σ H Q I h
 refine isTrue_and (thn (ha pins s σ H Q I h) fun c s1 e=>?_)
 cases c with
 | true=>exact isTrue_and_nil e
 | false=>exact e
theorem pw_or1 (ha:PT X a tA):PW X (.BoolOp .Or [a] pos) tA:=by
 intro wh pins s σ H Q I h
 refine isTrue_or (thn (ha pins s σ H Q I h) fun c s1 e=>?_)
 cases c with
 | false=>exact isTrue_or_nil e
 | true=>exact e
theorem pw_and (ha:PT X a tA) (hb:PW X (.BoolOp .And (b::rest) pos) tB'):PW X (.BoolOp .And (a::b::rest) pos) (tAnd tA tB'):=by
 intro wh pins s σ H Q I h
 refine isTrue_and (thn (ha pins s σ H _ I h) fun c s1 ⟨H1,I1,q1⟩=>?_)
 cases c with
 | true=>exact hb wh pins s1 σ H1 Q I1 q1
 | false=>exact ⟨H1,I1,q1⟩
theorem pw_or (ha:PT X a tA) (hb:PW X (.BoolOp .Or (b::rest) pos) tB'):PW X (.BoolOp .Or (a::b::rest) pos) (tOr tA tB'):=by
 intro wh pins s σ H Q I h
 refine isTrue_or (thn (ha pins s σ H _ I h) fun c s1 ⟨H1,I1,q1⟩=>?_)
 cases c with
 | true=>exact ⟨H1,I1,q1⟩
 | false=>exact hb wh pins s1 σ H1 Q I1 q1
theorem pt_not (ha:PT X a tA):PT X (.UnaryOp .Not a pos) (tNot tA):=by
 intro pins s σ H Q I h
 exact isTrue_not (ha pins s σ H (fun c H1=>Q (!c) H1) I h)
def tAndV (ta tb:TE):TE:=fun σ H Q=>ta σ H fun x H1=>∃ c,x=.bl c∧if c=true then tb σ H1 Q else Q (.bl false) H1
def tNotV (ta:TE):TE:=fun σ H Q=>ta σ H fun x H1=>∃ c,x=.bl c∧Q (.bl (!c)) H1
theorem pe_one {op}{t:TE}(h:PE X a t):PE X (.BoolOp op [a] pos) t:=fun pins s σ H Q I hw=>BoolOp_one (h pins s σ H Q I hw)
theorem pe_and (ha:PE X a ta) (hb:PE X (.BoolOp .And (b::rest) pos) tb):PE X (.BoolOp .And (a::b::rest) pos) (tAndV ta tb):=by
 intro pins s σ H Q I h
 refine BoolOp_and (thn (ha pins s σ H _ I h) fun v s1 ⟨x,H1,I1,r1,q1⟩=>?_)
 obtain ⟨c,rfl,q1⟩:=q1
 cases r1
 refine wpAny_truthy_bool ?_
 cases c with
 | true=>exact hb pins s1 σ H1 Q I1 q1
 | false=>exact ⟨.bl false,H1,I1,rfl,q1⟩
theorem pe_not (ha:PE X a ta):PE X (.UnaryOp .Not a pos) (tNotV ta):=by
 intro pins s σ H Q I h
 refine UnaryOp_ (thn (ha pins s σ H _ I h) fun v s1 ⟨x,H1,I1,r1,q1⟩=>?_)
 obtain ⟨c,rfl,q1⟩:=q1
 cases r1
 exact not_of (wpAny_truthy_bool ⟨.bl (!c),H1,I1,rfl,q1⟩)
def tIf (t:TT) (ta tb:TE):TE:=fun σ H Q=>t σ H fun c H1=>if c=true then ta σ H1 Q else tb σ H1 Q
theorem pe_ifExp {c:Expr}(hc:PT X c tA) (ha:PE X a ta) (hb:PE X b tb):PE X (.IfExp c a b pos) (tIf tA ta tb):=by
 intro pins s σ H Q I h
 refine wpAny_IfExp (thn (hc pins s σ H _ I h) fun d s1 ⟨H1,I1,q1⟩=>?_)
 cases d with
 | true=>exact ha pins s1 σ H1 Q I1 q1
 | false=>exact hb pins s1 σ H1 Q I1 q1
end
end L2
namespace L2
open PySem PySem.Spec PyProof.Rows
def SqL (K:PySem.W.Frag) (H:Hp) (a:Addr) (xs:List V):Prop:=
 Rd H a (.lst xs) ∨
  ∃ (o:Obj) (its:Array Value) (n:Nat),K.lookup a=some o∧o.cls=.type "list" ∧ o.dict=none∧o.data=.seq its n∧its.size≤sizeLine∧Vals xs its.toList
def SqT (K:PySem.W.Frag) (H:Hp) (a:Addr) (xs:List V):Prop:=
 Rd H a (.tup xs) ∨
  ∃ (o:Obj) (its:Array Value) (n:Nat),K.lookup a=some o∧o.cls=.type "tuple" ∧ o.data=.seq its n∧its.size≤sizeLine∧Vals xs its.toList
def absV:Value->Option V
 | .none=>some .non
 | .bool b=>some (.bl b)
 | .int i _=>some (.int i)
 | .str x _=>some (.str x)
 | .bytes b _=>some (.byt b)
 | .float b _=>some (.flt b)
 | .ref a=>some (.ref a)
 | .type n=>some (.ty n)
 | _=>none
theorem RelV.abs {x:V}{u:Value}(r:RelV x u):absV u=some x:=by
 cases x with
 | non=>cases r;rfl
 | bl _=>cases r;rfl
 | int _=>obtain ⟨t,rfl⟩:=r;rfl
 | str _=>obtain ⟨t,rfl⟩:=r;rfl
 | byt _=>obtain ⟨t,rfl⟩:=r;rfl
 | flt _=>obtain ⟨t,rfl⟩:=r;rfl
 | ref _=>cases r;rfl
 | ty _=>cases r;rfl
theorem RelV.inj {x y:V}{u:Value}(r:RelV x u) (q:RelV y u):x=y:=Option.some.inj (r.abs.symm.trans q.abs)
theorem Vals.inj:∀ {xs ys:List V}{us:List Value},Vals xs us->Vals ys us->xs=ys
 | _,_,_,.nil,.nil=>rfl
 | _,_,_,.cons r t,.cons r' t'=>by rw [r.inj r',Vals.inj t t']
section
variable {X:Cx}{pins:List (Addr × Obj)}{σ:St}{H:Hp}{s:Shared}{a:Addr}{xs ys:List V}
theorem SqL.of {K:PySem.W.Frag}(h:H a=some (.lst xs)):SqL K H a xs:=.inl (.inl h)
theorem SqT.of {K:PySem.W.Frag}(h:H a=some (.tup xs)):SqT K H a xs:=.inl (.inl h)
theorem Inv.list (I:Inv X pins σ H s) (h:SqL X.K H a xs):∃ its:List Value,Vals xs its∧PlainL s.heap a its.toArray∧xs.length≤sizeLine:=by
 rcases h with h|⟨o,its,n,hk,hc,hd,hs,hz,r⟩
 ·obtain ⟨z,its,n,r,e⟩:=h.ok I.hok
  exact ⟨its,r,⟨_,n,e,rfl,rfl,rfl⟩,z⟩
 ·refine ⟨its.toList,r,⟨o,n,I.kIn a o hk,hc,hd,by simpa using hs⟩,?_⟩
  have e:=r.length
  simp only [Array.length_toList] at e
  omega
theorem Inv.tuple (I:Inv X pins σ H s) (h:SqT X.K H a xs):∃ its:List Value,Vals xs its∧IsTup s.heap a its.toArray∧xs.length≤sizeLine:=by
 rcases h with h|⟨o,its,n,hk,hc,hs,hz,r⟩
 ·obtain ⟨z,its,r,p⟩:=h.ok I.hok
  exact ⟨its,r,p,z⟩
 ·refine ⟨its.toList,r,⟨o,I.kIn a o hk,hc,n,by simpa using hs⟩,?_⟩
  have e:=r.length
  simp only [Array.length_toList] at e
  omega
theorem Inv.list_inj (I:Inv X pins σ H s) (h:SqL X.K H a xs) (h':SqL X.K H a ys):xs=ys:=by
 obtain ⟨its,r,⟨o,n,e,_,_,d⟩,_⟩:=I.list h
 obtain ⟨its',r',⟨o',n',e',_,_,d'⟩,_⟩:=I.list h'
 rw [e] at e';cases e'
 rw [d] at d'
 injection d' with d1 _
 have:its=its':=by simpa using congrArg Array.toList d1
 subst this
 exact r.inj r'
theorem Inv.tuple_inj (I:Inv X pins σ H s) (h:SqT X.K H a xs) (h':SqT X.K H a ys):xs=ys:=by
 obtain ⟨its,r,⟨o,e,_,n,d⟩,_⟩:=I.tuple h
 obtain ⟨its',r',⟨o',e',_,n',d'⟩,_⟩:=I.tuple h'
 rw [e] at e';cases e'
 rw [d] at d'
 injection d' with d1 _
 have:its=its':=by simpa using congrArg Array.toList d1
 subst this
 exact r.inj r'
end
abbrev Cx.wish (X:Cx) (E:Value->Shared->Prop):Cx:={ X with xe:=E }
abbrev Cx.nox (X:Cx):Cx:=X.wish fun _ _=>False
theorem Cx.Ok.wish {X:Cx}(ok:X.Ok) (E:Value->Shared->Prop):(X.wish E).Ok:=
 ⟨ok.mod,ok.kind,ok.glob,ok.blt,ok.above,ok.inj,ok.has,ok.cab,ok.hd,ok.frames,ok.stk,ok.exf,ok.bs,ok.bsz,ok.noex,ok.exfs,ok.funs,ok.frf⟩
theorem Cx.Ok.unwish {X:Cx}{E:Value->Shared->Prop}(ok:(X.wish E).Ok):X.Ok:=
 ⟨ok.mod,ok.kind,ok.glob,ok.blt,ok.above,ok.inj,ok.has,ok.cab,ok.hd,ok.frames,ok.stk,ok.exf,ok.bs,ok.bsz,ok.noex,ok.exfs,ok.funs,ok.frf⟩
section
variable {X:Cx}{pins:List (Addr × Obj)}{σ:St}{H:Hp}{s:Shared}{E:Value->Shared->Prop}
theorem Inv.wish (I:Inv X pins σ H s) (E:Value->Shared->Prop):Inv (X.wish E) pins σ H s:=⟨I.ok.wish E,I.os,I.bare,I.base,I.loc,I.cell,I.free,I.freeC,I.pin,I.hok,I.len⟩
theorem Inv.unwish (I:Inv (X.wish E) pins σ H s):Inv X pins σ H s:=⟨I.ok.unwish,I.os,I.bare,I.base,I.loc,I.cell,I.free,I.freeC,I.pin,I.hok,I.len⟩
theorem SP.unwish {D:Ends}{f:Flow}{s':Shared}(h:SP (X.wish E) pins D f s'):SP X pins D f s':=by
 cases f with
 | next=>obtain ⟨σ',H',I,q⟩:=h;exact ⟨σ',H',I.unwish,q⟩
 | brk=>obtain ⟨σ',H',I,q⟩:=h;exact ⟨σ',H',I.unwish,q⟩
 | cont=>obtain ⟨σ',H',I,q⟩:=h;exact ⟨σ',H',I.unwish,q⟩
 | ret u=>obtain ⟨v,σ',H',I,r,q⟩:=h;exact ⟨v,σ',H',I.unwish,r,q⟩
theorem PSs.nox {st:List Stmt}{t:TS}(h:PSs X.nox st t):PSs X st t:=fun pins s σ H D I hw=>
 wpAny_mono (h pins s σ H D (I.wish _) hw) (fun _ _ q=>q.unwish) fun _ _ z=>False.elim z
end
section
variable {X:Cx}{st:Stmt}{rest:List Stmt}{t u:TS}{e:Expr}{te:TE}{pos:Pos}
def tNext:TS:=fun D σ H=>D.nx σ H
def tSeq (t u:TS):TS:=fun D σ H=>t { D with nx:=u D } σ H
theorem pss_nil:PSs X [] tNext:=fun _ _ σ H _ I h=>wpAny_execs_nil ⟨σ,H,I,h⟩
theorem pss_cons (h1:PS X st t) (h2:PSs X rest u):PSs X (st::rest) (tSeq t u):=by
 intro pins s σ H D I h
 refine wpAny_execs_cons (thn (h1 pins s σ H { D with nx:=u D } I h) fun f s1 q=>?_)
 cases f with
 | next=>
  obtain ⟨σ',H',I',q⟩:=q
  exact h2 pins s1 σ' H' D I' q
 | ret v=>exact q
 | brk=>exact q
 | cont=>exact q
theorem pss_one (h1:PS X st t):PSs X [st] t:=by
 intro pins s σ H D I h
 refine wpAny_execs_cons (thn (h1 pins s σ H D I h) fun f s1 q=>?_)
 cases f with
 | next=>exact wpAny_execs_nil q
 | ret v=>exact q
 | brk=>exact q
 | cont=>exact q
theorem Inv.quiet {pins:List (Addr × Obj)}{σ:St}{H:Hp}{s:Shared}(I:Inv X pins σ H s):interactive X.env=false:=by simp [interactive,I.ok.kind]
def tDrop (te:TE):TS:=fun D σ H=>te σ H fun _ H1=>D.nx σ H1
theorem ps_expr (he:PE X e te) (hs:swapsWith e none pos.line X.env=pure false:=by rfl):PS X (.Expr e pos) (tDrop te):=by
 intro pins s σ H D I h
 exact wpAny_Expr_any (thn (he pins s σ H _ I h) fun v s1 ⟨x,H1,I1,r1,q1⟩=>⟨σ,H1,I1,q1⟩) I.quiet hs
def tRet (te:TE):TS:=fun D σ H=>te σ H D.rt
theorem ps_ret (he:PE X e te):PS X (.Return (some e) pos) (tRet te):=by
 intro pins s σ H D I h
 exact wpAny_Return_some (thn (he pins s σ H _ I h) fun v s1 ⟨x,H1,I1,r1,q1⟩=>⟨x,σ,H1,I1,r1,q1⟩)
def tIfS (c:TT) (t u:TS):TS:=fun D σ H=>c σ H fun b H1=>if b=true then t D σ H1 else u D σ H1
theorem ps_if {c:Expr}{a b:List Stmt}{tc:TT}(hc:PT X c tc) (ha:PSs X a t) (hb:PSs X b u):PS X (.If c a b pos) (tIfS tc t u):=by
 intro pins s σ H D I h
 refine wpAny_If (thn (hc pins s σ H _ I h) fun d s1 ⟨H1,I1,q1⟩=>?_)
 cases d with
 | true=>exact ha pins s1 σ H1 D I1 q1
 | false=>exact hb pins s1 σ H1 D I1 q1
def tNever:TS:=fun _ _ _=>False
theorem ps_never:PS X st tNever:=fun _ _ _ _ _ _ h=>h.elim
end
abbrev TG:=V->St->Hp->(St->Hp->Prop)->Prop
abbrev TGs:=List V->St->Hp->(St->Hp->Prop)->Prop
def PG (X:Cx) (target:Expr) (t:TG):Prop:=
 ∀ (pins:List (Addr × Obj)) (s:Shared) (σ:St) (H:Hp) (v:V) (u:Value) (Q:St->Hp->Prop),Inv X pins σ H s->RelV v u->t v σ H Q →
  wpAny (model X.prog X.w) X.A (assign target X.env u) (fun _ s'=>∃ σ' H',Inv X pins σ' H' s'∧Q σ' H') X.xe s
def PGs (X:Cx) (ts:List Expr) (t:TGs):Prop:=
 ∀ (pins:List (Addr × Obj)) (s:Shared) (σ:St) (H:Hp) (vs:List V) (us:List Value) (Q:St->Hp->Prop),Inv X pins σ H s->Vals vs us->t vs σ H Q →
  wpAny (model X.prog X.w) X.A (assignInOrder ((assignEach ts X.env).map (·.2)) us) (fun _ s'=>∃ σ' H',Inv X pins σ' H' s'∧Q σ' H') X.xe s
section
variable {X:Cx}{pos:Pos}
def gName (i:Nat):TG:=fun v σ H Q=>Q (σ.set i (some v)) H
theorem pg_name {i:Nat}{x:Str}(hN:X.N.Nodup) (hi:X.N[i]? = some x) (hx:Loc X.env.scope x) (hf:X.fn x=true∨X.env.scope.names.lookup x=some .local:=by first|exact .inl rfl|exact .inr rfl|assumption):PG X (.Name x pos) (gName i):=by
 intro pins s σ H v u Q I r h
 exact wpAny_assign_Name (store_ok I hN hi hx r (fun s' I'=>⟨_,H,I',h⟩) hf)
def gNil:TGs:=fun vs σ H Q=>vs=[]∧Q σ H
def gCons (t:TG) (u:TGs):TGs:=fun vs σ H Q=>∃ v r,vs=v::r∧t v σ H fun σ' H'=>u r σ' H' Q
theorem pgs_nil:PGs X [] gNil:=by
 intro pins s σ H vs us Q I r h
 obtain ⟨e,h⟩:=h
 subst e
 cases r
 exact assignInOrder_nil ⟨σ,H,I,h⟩
theorem pgs_cons {e:Expr}{es:List Expr}{t:TG}{u:TGs}(h1:PG X e t) (h2:PGs X es u)
  (hs:(assignEach (e::es) X.env).map (·.2)=assign e X.env::(assignEach es X.env).map (·.2):=by rfl):PGs X (e::es) (gCons t u):=by
 intro pins s σ H vs us Q I r h
 obtain ⟨v,vr,e1,h⟩:=h
 subst e1
 cases r with
 | cons r rr=>
  rw [hs]
  refine assignInOrder_cons (thn (h1 pins s σ H _ _ _ I r h) fun _ s1 ⟨σ1,H1,I1,q1⟩=>?_)
  exact h2 pins s1 σ1 H1 _ _ Q I1 rr q1
def gTup (K:PySem.W.Frag) (n:Nat) (t:TGs):TG:=fun v σ H Q=>∃ a xs,v=.ref a∧SqT K H a xs∧xs.length=n∧t xs σ H Q
theorem pg_tup {es:List Expr}{k:Nat}{t:TGs}{n:Nat}(hc:X.calm=true) (h:PGs X es t)
  (hn:(assignEach es X.env).length=n:=by rfl) (hst:(assignEach es X.env).findIdx? (·.1)=none:=by rfl):PG X (.Tuple es k pos) (gTup X.K n t):=by
 intro pins s σ H v u Q I r hw
 obtain ⟨a,xs,e1,hq,hl,hw⟩:=hw
 subst e1
 cases r
 obtain ⟨its,rv,ht,hz⟩:=I.tuple hq
 refine assign_Tuple_tuple (I.ok.hd hc) ht (by simp [hn,←hl,rv.length]) hst fun h' hx=>?_
 have I1:Inv X pins σ H { s with heap:=h' }:=I.kept (t':=s.toks) fun b o e=>hx b o (Nat.ne_of_lt (Heap.lt_size e)) e
 exact h pins _ σ H xs _ Q I1 (by simpa using rv) hw
def tAsg (te:TE) (g:TG):TS:=fun D σ H=>te σ H fun x H1=>g x σ H1 D.nx
theorem ps_asg {tg e:Expr}{te:TE}{g:TG}(he:PE X e te) (hg:PG X tg g) (hs:swapsWithSole [tg] e pos.line X.env=pure false:=by rfl) (hw:swappedStores [tg] e X.env=pure none:=by rfl)
  (h1:(assignEach [tg] X.env).map (·.2)=[assign tg X.env]:=by rfl):PS X (.Assign [tg] e pos) (tAsg te g):=by
 intro pins s σ H D I h
 refine wpAny_Assign_stores (thn (he pins s σ H _ I h) fun v s1 ⟨x,H1,I1,r1,q1⟩=>?_) hs hw
 rw [h1]
 exact thn (hg pins s1 σ H1 x v _ I1 r1 q1) fun _ s2 q=>q
theorem ps_set {i:Nat}{x:Str}{e:Expr}{te:TE}{pos':Pos}(hN:X.N.Nodup) (hi:X.N[i]? = some x) (hx:Loc X.env.scope x) (he:PE X e te) (hs:swapsWith e (some (.Name x pos')) pos.line X.env=pure false:=by rfl) (hf:X.fn x=true∨X.env.scope.names.lookup x=some .local:=by first|exact .inl rfl|exact .inr rfl|assumption) :
  PS X (.Assign [.Name x pos'] e pos) (tAsg te (gName i)):=by
 intro pins s σ H D I h
 refine wpAny_Assign_Name (thn (he pins s σ H _ I h) fun v s1 ⟨y,H1,I1,r1,q1⟩=>?_) hs
 exact store_ok I1 hN hi hx r1 (fun s2 I2=>⟨_,H1,I2,q1⟩) hf
end
section
variable {X:Cx}{pos:Pos}
end
structure It where
 go:Nat->Hp->Prop
 yld:Nat->Hp->V->Hp->Prop
 stop:Nat->Hp->Prop
def FpOk (X:Cx) (pins:List (Addr × Obj)) (H:Hp) (b:Addr):Prop:=
 H b=none∧b ≠ X.env.locals∧b ∉ X.fs∧(b∈X.ex∨X.s₀.heap.objs.size≤b)∧(∀ x c,X.env.cells.lookup x=some c->c ≠ b)∧∀ p∈X.pn++pins,p.1 ≠ b
theorem Inv.fpOk {X:Cx}{pins:List (Addr × Obj)}{σ:St}{H H':Hp}{s:Shared}{b:Addr}(I:Inv X pins σ H s) (hb:s.heap.objs.size≤b) (hn:H' b=none):FpOk X pins H' b:=by
 refine ⟨hn,Nat.ne_of_gt (Nat.lt_of_lt_of_le I.lt hb),I.nofs hb,.inr (Nat.le_trans I.sz hb),fun x c e z=>?_,fun p hp z=>?_⟩
 ·obtain ⟨v,q⟩:=I.cell x c e
  exact absurd (Nat.lt_of_lt_of_le q.lt (by rw [z];exact hb)) (Nat.lt_irrefl _)
 ·exact absurd (Nat.lt_of_lt_of_le (Heap.lt_size (I.pin p hp).1) (by rw [z];exact hb)) (Nat.lt_irrefl _)
structure Turn (P:Program) (w:World) (K:PySem.W.Frag) (tg:Expr) (J:It) (fp:List Addr) (it:Addr) (tn:Nat->Heap->Prop):Prop where
 mem:it∈fp
 obj:∀ i h,tn i h->∀ b∈fp,∃ o,h.get? b=some o∧∀ v,o.data ≠ .cell v
 keep:∀ i h h',tn i h->(∀ b∈fp,∀ o,h.get? b=some o->h'.get? b=some o)->tn i h'
 item:∀ (X:Cx),X.prog=P->X.w=w->X.K=K->X.calm=true->∀ (i:Nat) (pins:List (Addr × Obj)) (s:Shared) (σ:St) (H:Hp) (E:Value->Shared->Prop),Inv X pins σ H s->(∀ b∈fp,FpOk X pins H b)->tn i s.heap->J.go i H →
  wpAny (model P w) X.A (pyNext (.ref it)) (fun r s1=>∃ u,r=some u ∧
   wpAny (model P w) X.A (letOwnedTupleGo tg (.ref it) u) (fun _ s2=>∃ x H',Inv X pins σ H' s2∧RelV x u∧J.yld i H x H'∧tn (i+1) s2.heap∧∀ b∈fp,H' b=none) E s1) E s
 done:∀ (X:Cx),X.prog=P->X.w=w->X.K=K->X.calm=true->∀ (i:Nat) (pins:List (Addr × Obj)) (s:Shared) (σ:St) (H:Hp) (E:Value->Shared->Prop),Inv X pins σ H s->(∀ b∈fp,FpOk X pins H b)->tn i s.heap->J.stop i H →
  wpAny (model P w) X.A (pyNext (.ref it)) (fun r s1=>r=none∧Inv X pins σ H s1) E s
 self:∀ (A:Around) (i:Nat) (s:Shared) (Q:Value->Shared->Prop) (E:Value->Shared->Prop),tn i s.heap->Q (.ref it) s->wpAny (model P w) A (pyIter (.ref it)) Q E s
abbrev TI:=St->Hp->(It->Hp->Prop)->Prop
def PIE (X:Cx) (pins:List (Addr × Obj)) (σ:St) (tg:Expr) (R:It->Hp->Prop) (itv:Value) (s2:Shared):Prop:=
 ∃ (it:Addr) (fp:List Addr) (tn:Nat->Heap->Prop) (J:It) (H':Hp),itv=.ref it∧Inv X pins σ H' s2∧Turn X.prog X.w X.K tg J fp it tn∧tn 0 s2.heap∧(∀ b∈fp,FpOk X pins H' b)∧R J H'
def PI (X:Cx) (tg iter:Expr) (wi:TI):Prop:=
 ∀ (pins:List (Addr × Obj)) (s:Shared) (σ:St) (H:Hp) (R:It->Hp->Prop),Inv X pins σ H s->wi σ H R →
  wpAny (model X.prog X.w) X.A (eval iter X.env) (fun v s1=>wpAny (model X.prog X.w) X.A (pyIter v) (PIE X pins σ tg R) X.xe s1) X.xe s
theorem go_of {M:Model}{A:Around}{E:Value->Shared->Prop}{s:Shared}{tg:Expr}{it:Addr}{u:Value}{o:Obj}{n:String}{vs:Array Value}{Q:Unit->Shared->Prop}(ho:s.heap.get? it=some o) (hc:o.cls=.type n) (hd:o.data=.fields vs)
    (hn:["enumerate", "zip", "dict_itemiterator", "dict_reverseitemiterator", "odict_iterator", "itertools.zip_longest", "itertools.pairwise"].contains n=false) (hQ:Q () s):wpAny M A (letOwnedTupleGo tg (.ref it) u) Q E s:=by
  unfold letOwnedTupleGo
  cases tg<;>first
    | exact wpAny_pure hQ
    | (cases u<;>first
        | exact wpAny_pure hQ
        | (refine wpAny_bind (wpAny_load ho ?_)
           rw [hc,hd]
           show wpAny M A (if (["enumerate", "zip", "dict_itemiterator", "dict_reverseitemiterator", "odict_iterator", "itertools.zip_longest", "itertools.pairwise"].contains n && vs[0]? == some (rawInt _))=true then _ else _) Q E s
           rw [if_neg (by intro h;rw [hn,Bool.false_and] at h;cases h)]
           exact wpAny_pure hQ))
def Itl (K:PySem.W.Frag) (a:Addr):It:=
 ⟨fun i H=>∃ xs x,SqL K H a xs∧xs[i]? = some x,fun i H x H'=>H'=H∧∀ xs,SqL K H a xs->xs[i]? = some x,fun i H=>∃ xs,SqL K H a xs∧xs.length≤i⟩
def Itt (K:PySem.W.Frag) (a:Addr):It:=
 ⟨fun i H=>∃ xs x,SqT K H a xs∧xs[i]? = some x,fun i H x H'=>H'=H∧∀ xs,SqT K H a xs->xs[i]? = some x,fun i H=>∃ xs,SqT K H a xs∧xs.length≤i⟩
def Itr (lo:Int) (n:Nat):It:=⟨fun i _=>i < n,fun i H x H'=>H'=H∧x=.int (lo+i),fun i _=>n≤i⟩
theorem turn_list {P:Program}{w:World}{K:PySem.W.Frag}{tg:Expr}(a it:Addr):Turn P w K tg (Itl K a) [it] it (fun i h=>h.IsListIter it a i) where
 mem:=by simp
 obj:=fun i h st b hb=>by
  have e:b=it:=by simpa using hb
  subst e
  obtain ⟨o,e,c,d⟩:=st
  exact ⟨o,e,fun v z=>by rw [d] at z;cases z⟩
 keep:=fun i h h' st k=>st.at fun o e=>k it (by simp) o e
 item:=by
  intro X hP hw hK hc i pins s σ H E I hf st hg
  subst hP hw hK
  obtain ⟨xs,x,hq,hx⟩:=hg
  obtain ⟨its,rv,p,hz⟩:=I.list hq
  obtain ⟨u,hu,ru⟩:=rv.get hx
  obtain ⟨f0,f1,f2,f3,f4,f5⟩:=hf it (by simp)
  refine wpAny_pyNext_list_item st p.isList (x:=u) (by simpa using hu) fun h' st' sb=>?_
  have I1:Inv X pins σ H { s with heap:=h' }:=I.turned (t':=s.toks) (fun b o hb e=>(sb.2 b hb).trans e) f0 f1 f3 f4 f5
  obtain ⟨o,e,c,d⟩:=id st'
  exact ⟨u,rfl,go_of (s:={ s with heap:=h' }) e c d (by decide) ⟨x,H,I1,ru,⟨rfl,fun ys hy=>by rw [I.list_inj hy hq];exact hx⟩,st',fun b hb=>(hf b hb).1⟩⟩
 done:=by
  intro X hP hw hK hc i pins s σ H E I hf st hg
  subst hP hw hK
  obtain ⟨xs,hq,hx⟩:=hg
  obtain ⟨its,rv,p,hz⟩:=I.list hq
  obtain ⟨f0,f1,f2,f3,f4,f5⟩:=hf it (by simp)
  have hl:=rv.length
  exact wpAny_pyNext_list_end (I.ok.hd hc) st p.isList (by simp;omega) fun h' eb=>⟨rfl,I.turned (t':=s.toks) (fun b o hb e=>eb b o hb e) f0 f1 f3 f4 f5⟩
 self:=fun _ _ _ _ _ st h=>wpAny_pyIter_listiter st h
theorem turn_tuple {P:Program}{w:World}{K:PySem.W.Frag}{tg:Expr}(a it:Addr):Turn P w K tg (Itt K a) [it] it (fun i h=>h.IsTupleIter it a i) where
 mem:=by simp
 obj:=fun i h st b hb=>by
  have e:b=it:=by simpa using hb
  subst e
  obtain ⟨o,e,c,d⟩:=st
  exact ⟨o,e,fun v z=>by rw [d] at z;cases z⟩
 keep:=fun i h h' st k=>st.at fun o e=>k it (by simp) o e
 item:=by
  intro X hP hw hK hc i pins s σ H E I hf st hg
  subst hP hw hK
  obtain ⟨xs,x,hq,hx⟩:=hg
  obtain ⟨its,rv,p,hz⟩:=I.tuple hq
  obtain ⟨u,hu,ru⟩:=rv.get hx
  obtain ⟨f0,f1,f2,f3,f4,f5⟩:=hf it (by simp)
  refine wpAny_pyNext_tuple_item st (show s.heap.IsTuple a its.toArray from p) (x:=u) (by simpa using hu) fun h' st' sb=>?_
  have I1:Inv X pins σ H { s with heap:=h' }:=I.turned (t':=s.toks) (fun b o hb e=>(sb.2 b hb).trans e) f0 f1 f3 f4 f5
  obtain ⟨o,e,c,d⟩:=id st'
  exact ⟨u,rfl,go_of (s:={ s with heap:=h' }) e c d (by decide) ⟨x,H,I1,ru,⟨rfl,fun ys hy=>by rw [I.tuple_inj hy hq];exact hx⟩,st',fun b hb=>(hf b hb).1⟩⟩
 done:=by
  intro X hP hw hK hc i pins s σ H E I hf st hg
  subst hP hw hK
  obtain ⟨xs,hq,hx⟩:=hg
  obtain ⟨its,rv,p,hz⟩:=I.tuple hq
  obtain ⟨f0,f1,f2,f3,f4,f5⟩:=hf it (by simp)
  have hl:=rv.length
  exact wpAny_pyNext_tuple_end (I.ok.hd hc) st (show s.heap.IsTuple a its.toArray from p) (by simp;omega) fun h' eb=>⟨rfl,I.turned (t':=s.toks) (fun b o hb e=>eb b o hb e) f0 f1 f3 f4 f5⟩
 self:=fun _ _ _ _ _ st h=>wpAny_pyIter_tupleiter st h
theorem turn_range {P:Program}{w:World}{K:PySem.W.Frag}{tg:Expr}(it:Addr) (lo:Int) (n:Nat):Turn P w K tg (Itr lo n) [it] it (fun i h=>IsRangeIter h it (lo+(i:Nat) * 1) ((n:Int) - (i:Nat)) 1) where
 mem:=by simp
 obj:=fun i h st b hb=>by
  have e:b=it:=by simpa using hb
  subst e
  exact ⟨_,st,fun v z=>by
   have z':Data.fields _=Data.cell v:=z
   cases z'⟩
 keep:=fun i h h' st k=>k it (by simp) _ st
 item:=by
  intro X hP hw hK hc i pins s σ H E I hf st hg
  subst hP hw hK
  obtain ⟨f0,f1,f2,f3,f4,f5⟩:=hf it (by simp)
  have W:=Walks.range (prog:=X.prog) (w:=X.w) (I.ok.hd hc) it lo 1 n
  refine W.item i s _ _ hg st fun v h' tk hv st' kk=>?_
  obtain ⟨t,rfl⟩:=hv
  have I1:Inv X pins σ H { s with heap:=h',toks:=tk }:=I.turned (fun b o hb e=>kk b o (by simpa using hb) e) f0 f1 f3 f4 f5
  refine ⟨_,rfl,go_of (s:={ s with heap:=h',toks:=tk }) (n := "range_iterator") st' rfl rfl (by decide) ⟨.int (lo+i),H,I1,⟨t,?_⟩,⟨rfl,rfl⟩,st',fun b hb=>(hf b hb).1⟩⟩
  rw [Int.mul_one]
 done:=by
  intro X hP hw hK hc i pins s σ H E I hf st hg
  subst hP hw hK
  obtain ⟨f0,f1,f2,f3,f4,f5⟩:=hf it (by simp)
  exact wpAny_pyNext_range_end (I.ok.hd hc) st (by have:n≤i:=hg;omega) fun h' eb=>⟨rfl,I.turned (t':=s.toks) (fun b o hb e=>eb b o hb e) f0 f1 f3 f4 f5⟩
 self:=fun _ _ _ _ _ st h=>wpAny_pyIter_rangeiter st h
end L2
namespace L2
open PySem PySem.Spec PyProof.Rows
section
variable {X:Cx}{tg:Expr}
theorem range_it {pins:List (Addr × Obj)}{σ:St}{H:Hp}{s:Shared}{R:It->Hp->Prop}{E:Value->Shared->Prop}{lo hi:Int}{t u v:Tok}{tk:Nat}(I:Inv X pins σ H s) (h1:-(2 ^ 62)≤lo) (h2:lo < 2 ^ 62) (h3:-(2 ^ 62)≤hi) (h4:hi < 2 ^ 62)
  (q:R (Itr lo (hi - lo).toNat) H):wpAny (model X.prog X.w) X.A (pyIter (.ref s.heap.objs.size)) (PIE X pins σ tg R) E { s with heap:=s.heap.push { cls:=.type "range",data:=.fields #[.int lo t,.int hi u,.int 1 v] },toks:=tk }:=by
 refine wpAny_pyIter_range (IsRange.new ..) (small_one h1 h2 h3 h4) ?_
 have I1:Inv X pins σ H { s with heap:=s.heap.push { cls:=.type "range",data:=.fields #[.int lo t,.int hi u,.int 1 v] },toks:=tk }:=I.kept fun b o e=>Heap.get?_push_of_some _ e
 refine ⟨(s.heap.push { cls:=.type "range",data:=.fields #[.int lo t,.int hi u,.int 1 v] }).objs.size,[(s.heap.push { cls:=.type "range",data:=.fields #[.int lo t,.int hi u,.int 1 v] }).objs.size],_,_,H,rfl,
  I1.kept (t':=tk) fun b o e=>Heap.get?_push_of_some _ e,turn_range _ lo (hi - lo).toNat,?_,fun b hb=>?_,q⟩
 ·have e1:lo+((0:Nat):Int) * 1=lo:=by simp
  have e2:(((hi - lo).toNat:Nat):Int) - ((0:Nat):Int)=Builtin.Range.rangeSize lo hi 1:=by rw [rangeSize_one];split<;>omega
  show IsRangeIter _ _ (lo+((0:Nat):Int) * 1) ((((hi - lo).toNat:Nat):Int) - ((0:Nat):Int)) 1
  rw [e1,e2]
  exact Heap.get?_push_size _ rfl
 ·have e:b=(s.heap.push { cls:=.type "range",data:=.fields #[.int lo t,.int hi u,.int 1 v] }).objs.size:=by simpa using hb
  subst e
  exact I1.fpOk (Nat.le_refl _) (I1.hok.fresh (Nat.le_refl _))
def iRng1 (ta:TA):TI:=fun σ H R=>ta σ H fun vs H1=>∃ j:Int,vs=[.int j]∧-(2 ^ 62)≤j∧j < 2 ^ 62∧R (Itr 0 j.toNat) H1
def iRng2 (ta:TA):TI:=fun σ H R=>ta σ H fun vs H1=>∃ i j:Int,vs=[.int i,.int j]∧(-(2 ^ 62)≤i∧i < 2 ^ 62∧-(2 ^ 62)≤j∧j < 2 ^ 62)∧R (Itr i (j - i).toNat) H1
theorem pi_range1 {a:Expr}{ta:TA}{p pos:Pos}(hg:Gl X "range") (hm:X.mg "range"=none) (ha:PA X [a] ta) (hs:starEach [a] X.env=[(false,eval a X.env)]:=by rfl):PI X tg (.Call (.Name "range" p) [a] [] pos) (iRng1 ta):=by
 intro pins s σ H R I h
 refine Call_ (ld_blt I hg hm boot_range (PyProof.Rows.callWith_type1 (thn (ha pos pins s σ H _ I h) fun us s1 ⟨vs,H1,I1,r1,q1⟩=>?_) hs rfl))
 obtain ⟨j,e,q1,q2,q⟩:=q1
 subst e
 cases r1 with
 | cons r rr=>
  cases rr
  obtain ⟨t,rfl⟩:=r
  exact call_range_1 (range_it I1 (by omega) (by omega) q1 q2 (by simpa using q))
theorem pi_range2 {a b:Expr}{ta:TA}{p pos:Pos}(hg:Gl X "range") (hm:X.mg "range"=none) (ha:PA X [a,b] ta) (hs:starEach [a,b] X.env=[(false,eval a X.env),(false,eval b X.env)]:=by rfl) (hs2:starEach [b] X.env=[(false,eval b X.env)]:=by rfl) :
  PI X tg (.Call (.Name "range" p) [a,b] [] pos) (iRng2 ta):=by
 intro pins s σ H R I h
 refine Call_ (ld_blt I hg hm boot_range (PyProof.Rows.callWith_type1 (thn (ha pos pins s σ H _ I h) fun us s1 ⟨vs,H1,I1,r1,q1⟩=>?_) (by rw [hs,hs2]) (by rw [hs2];rfl)))
 obtain ⟨i,j,e,⟨q1,q2,q3,q4⟩,q⟩:=q1
 subst e
 cases r1 with
 | cons r rr=>
  cases rr with
  | cons r' rr=>
   cases rr
   obtain ⟨t,rfl⟩:=r
   obtain ⟨t',rfl⟩:=r'
   exact call_range_2 (range_it I1 q1 q2 q3 q4 q)
def tFor (wi:TI) (g:TG) (tb:TS):TS:=fun D σ H=>wi σ H fun J H1=>∃ W:Nat->Nat->St->Hp->Prop,(∃ m,W 0 m σ H1)∧∀ i m σ H,W i m σ H →
 (J.stop i H∧D.nx σ H)∨(J.go i H∧∃ N:St->Hp->Prop,(∀ σ' H',N σ' H'->∃ m',m' < m∧W (i+1) m' σ' H')∧∀ x H',J.yld i H x H'->g x σ H' fun σ2 H2=>tb { D with nx:=N,ct:=N,bk:=D.nx } σ2 H2)
def pinsAt (fp:List Addr) (h:Heap):List (Addr × Obj):=fp.filterMap fun b=>(h.get? b).map fun o=>(b,o)
theorem mem_pinsAt {fp:List Addr}{h:Heap}{b:Addr}{o:Obj}(hb:b∈fp) (e:h.get? b=some o):(b,o)∈pinsAt fp h:=List.mem_filterMap.mpr ⟨b,hb,by rw [e];rfl⟩
theorem of_pinsAt {fp:List Addr}{h:Heap}{p:Addr × Obj}(hp:p∈pinsAt fp h):p.1∈fp∧h.get? p.1=some p.2:=by
 obtain ⟨b,hb,e⟩:=List.mem_filterMap.mp hp
 cases q:h.get? b with
 | none=>rw [q] at e;cases e
 | some o=>
  rw [q] at e
  have e':(b,o)=p:=Option.some.inj e
  subst e'
  exact ⟨hb,q⟩
theorem Inv.pinned {pins:List (Addr × Obj)}{σ:St}{H:Hp}{s:Shared}{fp:List Addr}(I:Inv X pins σ H s) (hf:∀ b∈fp,FpOk X pins H b) (ho:∀ b∈fp,∃ o,s.heap.get? b=some o∧∀ v,o.data ≠ .cell v):Inv X (pins++pinsAt fp s.heap) σ H s:=
 I.pins_of fun p hp=>(List.mem_append.mp hp).elim (fun z=>I.pin p (List.mem_append_right _ z)) fun z=>by
  obtain ⟨hb,e⟩:=of_pinsAt z
  obtain ⟨f0,f1,f2,_⟩:=hf p.1 hb
  obtain ⟨o,e',d⟩:=ho p.1 hb
  rw [e] at e';cases e'
  exact ⟨e,f0,f1,f2,d⟩
theorem Inv.unpinned {pins pl:List (Addr × Obj)}{σ:St}{H:Hp}{s:Shared}(I:Inv X (pins++pl) σ H s):Inv X pins σ H s:=I.pins_of fun p hp=>I.pin p (List.mem_append_right _ (List.mem_append_left _ hp))
theorem ps_for {iter:Expr}{body:List Stmt}{wi:TI}{g:TG}{tb:TS}{pos:Pos}(hp:PassesOwn (model X.prog X.w) X.A X.env X.xe) (hc:X.calm=true) (hi:PI X tg iter wi) (hg:PG X tg g) (hb:PSs X body tb)
  (hs:∀ x,foldedSetIterable iter X.env x=pure x:=by intro _;rfl):PS X (.For tg iter body [] pos) (tFor wi g tb):=by
 intro pins s σ H D I h
 refine wpAny_For (thn (hi pins s σ H _ I h) fun v s1 h1=>thn h1 fun itv s2 h2=>?_) hs
 obtain ⟨it,fp,tn,J,H2,e,I2,T,st2,f2,W,⟨m0,w0⟩,turn⟩:=h2
 subst e
 have stat:∀ {H':Hp},(∀ b∈fp,H' b=none)->∀ b∈fp,FpOk X pins H' b:=fun hn b hb=>⟨hn b hb,(f2 b hb).2⟩
 refine codeAny_forLoop_any (fun n s'=>∃ i σ' H',Inv X pins σ' H' s'∧tn i s'.heap∧(∀ b∈fp,H' b=none)∧W i n σ' H') ?_ m0 ⟨0,σ,H2,I2,st2,fun b hb=>(f2 b hb).1,w0⟩
 rintro n s3 ⟨i,σ3,H3,I3,st3,fr3,w3⟩
 rcases turn i n σ3 H3 w3 with ⟨stop,qn⟩|⟨go,N,hN,step⟩
 ·refine wpAny_passesOwn hp (thn (T.done X rfl rfl rfl hc i pins s3 σ3 H3 X.xe I3 (stat fr3) st3 stop) fun r s4 ⟨hr,I4⟩=>?_)
  subst hr
  exact wpAny_execs_nil ⟨σ3,H3,I4,qn⟩
 ·refine wpAny_passesOwn hp (thn (T.item X rfl rfl rfl hc i pins s3 σ3 H3 X.xe I3 (stat fr3) st3 go) fun r s4 ⟨u,hr,h4⟩=>?_)
  subst hr
  refine wpAny_passesOwn hp (thn h4 fun _ s5 ⟨x,H5,I5,r5,y5,st5,fr5⟩=>?_)
  have I5':=I5.pinned (stat fr5) (T.obj _ _ st5)
  refine wpAny_passesOwn hp (thn (hg _ s5 σ3 H5 x u _ I5' r5 (step x H5 y5)) fun _ s6 ⟨σ6,H6,I6,q6⟩=>?_)
  refine wpAny_passesOwn hp (thn (hb _ s6 σ6 H6 _ I6 q6) fun f s7 q7=>?_)
  have again:∀ {σ7:St} {H7:Hp},Inv X (pins++pinsAt fp s5.heap) σ7 H7 s7->N σ7 H7->∃ m,m < n∧∃ i σ' H',Inv X pins σ' H' s7∧tn i s7.heap∧(∀ b∈fp,H' b=none)∧W i m σ' H':=fun {σ7 H7} I7 n7=>by
   obtain ⟨m',hm,w7⟩:=hN σ7 H7 n7
   refine ⟨m',hm,i+1,σ7,H7,I7.unpinned,T.keep _ _ _ st5 fun b hb o e=>(I7.pin (b,o) (List.mem_append_right _ (List.mem_append_right _ (mem_pinsAt hb e)))).1,fun b hb=>?_,w7⟩
   obtain ⟨o,e,d⟩:=T.obj _ _ st5 b hb
   exact (I7.pin (b,o) (List.mem_append_right _ (List.mem_append_right _ (mem_pinsAt hb e)))).2.1
  cases f with
  | next=>obtain ⟨σ7,H7,I7,n7⟩:=q7;exact again I7 n7
  | cont=>obtain ⟨σ7,H7,I7,n7⟩:=q7;exact again I7 n7
  | brk=>obtain ⟨σ7,H7,I7,q7⟩:=q7;exact ⟨σ7,H7,I7.unpinned,q7⟩
  | ret v=>obtain ⟨x7,σ7,H7,I7,r7,q7⟩:=q7;exact ⟨x7,σ7,H7,I7.unpinned,r7,q7⟩
end
theorem for_list {K:PySem.W.Frag}{a:Addr}{xs:List V}{g:TG}{tb:TS}{D:Ends}{σ:St}{H:Hp}(Pv:Nat->St->Hp->Prop) (h0:Pv 0 σ H) (hl:∀ i σ H,i≤xs.length->Pv i σ H->SqL K H a xs)
  (hs:∀ i x σ H,xs[i]? = some x->Pv i σ H->g x σ H fun σ2 H2=>tb { D with nx:=Pv (i+1),ct:=Pv (i+1),bk:=D.nx } σ2 H2) (hd:∀ σ H,Pv xs.length σ H->D.nx σ H) :
  ∃ W:Nat->Nat->St->Hp->Prop,(∃ m,W 0 m σ H)∧∀ i m σ H,W i m σ H →
   ((Itl K a).stop i H∧D.nx σ H)∨((Itl K a).go i H∧∃ N:St->Hp->Prop,(∀ σ' H',N σ' H'->∃ m',m' < m∧W (i+1) m' σ' H')∧∀ x H',(Itl K a).yld i H x H'->g x σ H' fun σ2 H2=>tb { D with nx:=N,ct:=N,bk:=D.nx } σ2 H2):=by
 refine ⟨fun i m σ H=>m=xs.length - i∧i≤xs.length∧Pv i σ H,⟨xs.length,by simp,Nat.zero_le _,h0⟩,?_⟩
 rintro i m σ H ⟨rfl,hi,p⟩
 have q:=hl i σ H hi p
 by_cases hlt:i < xs.length
 ·refine .inr ⟨⟨xs,xs[i],q,by simp [hlt]⟩,Pv (i+1),fun σ' H' p'=>⟨xs.length - (i+1),by omega,rfl,hlt,p'⟩,fun x H' y=>?_⟩
  obtain ⟨e,y⟩:=y
  subst e
  exact hs i x σ _ (y xs q) p
 ·have e:i=xs.length:=by omega
  subst e
  exact .inl ⟨⟨xs,q,Nat.le_refl _⟩,hd σ H p⟩
theorem for_range {lo:Int}{n:Nat}{g:TG}{tb:TS}{D:Ends}{σ:St}{H:Hp}(Pv:Nat->St->Hp->Prop) (h0:Pv 0 σ H)
  (hs:∀ i σ H,i < n->Pv i σ H->g (.int (lo+i)) σ H fun σ2 H2=>tb { D with nx:=Pv (i+1),ct:=Pv (i+1),bk:=D.nx } σ2 H2) (hd:∀ σ H,Pv n σ H->D.nx σ H) :
  ∃ W:Nat->Nat->St->Hp->Prop,(∃ m,W 0 m σ H)∧∀ i m σ H,W i m σ H →
   ((Itr lo n).stop i H∧D.nx σ H)∨((Itr lo n).go i H∧∃ N:St->Hp->Prop,(∀ σ' H',N σ' H'->∃ m',m' < m∧W (i+1) m' σ' H')∧∀ x H',(Itr lo n).yld i H x H'->g x σ H' fun σ2 H2=>tb { D with nx:=N,ct:=N,bk:=D.nx } σ2 H2):=by
 refine ⟨fun i m σ H=>m=n - i∧i≤n∧Pv i σ H,⟨n,by simp,Nat.zero_le _,h0⟩,?_⟩
 rintro i m σ H ⟨rfl,hi,p⟩
 by_cases hlt:i < n
 ·refine .inr ⟨hlt,Pv (i+1),fun σ' H' p'=>⟨n - (i+1),by omega,rfl,hlt,p'⟩,fun x H' y=>?_⟩
  obtain ⟨e,y⟩:=y
  subst e y
  exact hs i σ _ hlt p
 ·have e:i=n:=by omega
  subst e
  exact .inl ⟨Nat.le_refl _,hd σ H p⟩
end L2
namespace L2
open PySem PySem.Spec PyProof.Rows
abbrev R2:=V->V->Hp->VK->Prop
def OpR (X:Cx) (f:Value->Value->Sem Value) (r:R2):Prop:=
 ∀ (pins:List (Addr × Obj)) (s:Shared) (σ:St) (H:Hp) (x y:V) (v u:Value) (Q:VK),Inv X pins σ H s->RelV x v->RelV y u->r x y H Q →
  wpAny (model X.prog X.w) X.A (f v u) (EP X pins σ Q) X.xe s
def UnR (X:Cx) (f:Value->Sem Value) (r:V->Hp->VK->Prop):Prop:=
 ∀ (pins:List (Addr × Obj)) (s:Shared) (σ:St) (H:Hp) (x:V) (v:Value) (Q:VK),Inv X pins σ H s->RelV x v->r x H Q →
  wpAny (model X.prog X.w) X.A (f v) (EP X pins σ Q) X.xe s
def CallR (X:Cx) (f:Value) (r:List V->Hp->VK->Prop):Prop:=
 ∀ (pins:List (Addr × Obj)) (s:Shared) (σ:St) (H:Hp) (xs:List V) (us:List Value) (Q:VK),Inv X pins σ H s->Vals xs us->r xs H Q →
  wpAny (model X.prog X.w) X.A (call f us) (EP X pins σ Q) X.xe s
def tOp (r:R2) (ta tb:TE):TE:=fun σ H Q=>ta σ H fun x H1=>tb σ H1 fun y H2=>r x y H2 Q
def tUn (r:V->Hp->VK->Prop) (ta:TE):TE:=fun σ H Q=>ta σ H fun x H1=>r x H1 Q
def rI (C:Int->Int->Prop) (g:Int->Int->V):R2:=fun x y H Q=>∃ i j,x=.int i∧y=.int j∧C i j∧Q (g i j) H
def rI0 (g:Int->Int->V):R2:=fun x y H Q=>∃ i j,x=.int i∧y=.int j∧Q (g i j) H
def rU (g:Int->V):V->Hp->VK->Prop:=fun x H Q=>∃ i,x=.int i∧Q (g i) H
section
variable {X:Cx}{a b c:Expr}{ta tb tc:TE}{pos:Pos}
theorem binT (ha:PE X a ta) (hb:PE X b tb){pins:List (Addr × Obj)}{s:Shared}{σ:St}{H:Hp}{R:V->V->Hp->Prop}(I:Inv X pins σ H s)
  (h:ta σ H fun x H1=>tb σ H1 fun y H2=>R x y H2) {Q:Value->Shared->Prop} {f:Value->Value->Sem Value}
  (hf:∀ v u s2 x y H2,Inv X pins σ H2 s2->RelV x v->RelV y u->R x y H2->wpAny (model X.prog X.w) X.A (f v u) Q X.xe s2) :
  wpAny (model X.prog X.w) X.A (eval a X.env) (fun v s₁=>wpAny (model X.prog X.w) X.A (eval b X.env) (fun u s₂=>wpAny (model X.prog X.w) X.A (f v u) Q X.xe s₂) X.xe s₁) X.xe s:=by
 refine thn (ha pins s σ H _ I h) fun v s1 ⟨x,H1,I1,r1,q1⟩=>?_
 refine thn (hb pins s1 σ H1 _ I1 q1) fun u s2 ⟨y,H2,I2,r2,q2⟩=>?_
 exact hf v u s2 x y H2 I2 r1 r2 q2
theorem pe_op {op:Operator}{r:R2}(ho:OpR X (binaryOp op) r) (ha:PE X a ta) (hb:PE X b tb):PE X (.BinOp a op b pos) (tOp r ta tb):=by
 intro pins s σ H Q I h
 exact wpAny_BinOp (binT ha hb I h fun v u s2 x y H2 I2 rx ry q=>ho pins s2 σ H2 x y v u Q I2 rx ry q)
theorem pe_un {op:UnaryOp}{r:V->Hp->VK->Prop}(ho:UnR X (unaryOp op) r) (ha:PE X a ta):PE X (.UnaryOp op a pos) (tUn r ta):=by
 intro pins s σ H Q I h
 exact UnaryOp_ (thn (ha pins s σ H _ I h) fun v s1 ⟨x,H1,I1,r1,q1⟩=>ho pins s1 σ H1 x v Q I1 r1 q1)
theorem opI {f:Value->Value->Sem Value}{C:Int->Int->Prop}{g:Int->Int->Int}
  (rule:∀ (i j:Int) (t u:Tok) (s:Shared) (Q:Value->Shared->Prop) (E:Value->Shared->Prop),C i j->Q (.int (g i j) s.toks) { s with toks:=s.toks+1 }->wpAny (model X.prog X.w) X.A (f (.int i t) (.int j u)) Q E s) :
  OpR X f (rI C fun i j=>.int (g i j)):=by
 intro pins s σ H x y v u Q I rx ry h
 obtain ⟨i,j,rfl,rfl,hc,q⟩:=h
 obtain ⟨t,rfl⟩:=rx
 obtain ⟨t',rfl⟩:=ry
 exact rule i j t t' s _ _ hc ⟨.int (g i j),H,I.tok _,⟨_,rfl⟩,q⟩
theorem opI0 {f:Value->Value->Sem Value}{g:Int->Int->Int}
  (rule:∀ (i j:Int) (t u:Tok) (s:Shared) (Q:Value->Shared->Prop) (E:Value->Shared->Prop),Q (.int (g i j) s.toks) { s with toks:=s.toks+1 }->wpAny (model X.prog X.w) X.A (f (.int i t) (.int j u)) Q E s) :
  OpR X f (rI0 fun i j=>.int (g i j)):=by
 intro pins s σ H x y v u Q I rx ry h
 obtain ⟨i,j,rfl,rfl,q⟩:=h
 obtain ⟨t,rfl⟩:=rx
 obtain ⟨t',rfl⟩:=ry
 exact rule i j t t' s _ _ ⟨.int (g i j),H,I.tok _,⟨_,rfl⟩,q⟩
theorem opB0 {f:Value->Value->Sem Value}{g:Int->Int->Bool}
  (rule:∀ (i j:Int) (t u:Tok) (s:Shared) (Q:Value->Shared->Prop) (E:Value->Shared->Prop),Q (.bool (g i j)) s->wpAny (model X.prog X.w) X.A (f (.int i t) (.int j u)) Q E s) :
  OpR X f (rI0 fun i j=>.bl (g i j)):=by
 intro pins s σ H x y v u Q I rx ry h
 obtain ⟨i,j,rfl,rfl,q⟩:=h
 obtain ⟨t,rfl⟩:=rx
 obtain ⟨t',rfl⟩:=ry
 exact rule i j t t' s _ _ ⟨.bl (g i j),H,I,rfl,q⟩
def CDiv (i j:Int):Prop:=0 < j∧j < 1073741824
def CPow (i j:Int):Prop:=0≤j∧j≤1000000∧i.natAbs < 2 ^ 64
def CMul (i j:Int):Prop:=(-(2 ^ 64) < i∧i < 2 ^ 64)∨(-(2 ^ 64) < j∧j < 2 ^ 64)
theorem CMul.ok {i j:Int}(h:CMul i j):IntMulOk i j:=by
 rcases h with ⟨h1,h2⟩|⟨h1,h2⟩
 ·exact .of_left (intBits_le_64 h1 h2)
 ·exact .of_right (intBits_le_64 h1 h2)
theorem op_add:OpR X (binaryOp .Add) (rI0 fun i j=>.int (i+j)):=opI0 fun _ _ _ _ _ _ _ q=>add_int q
theorem op_sub:OpR X (binaryOp .Sub) (rI0 fun i j=>.int (i - j)):=opI0 fun _ _ _ _ _ _ _ q=>sub_int q
theorem op_mul:OpR X (binaryOp .Mult) (rI CMul fun i j=>.int (i * j)):=opI fun _ _ _ _ _ _ _ hc q=>mul_int q hc.ok
theorem op_fdiv:OpR X (binaryOp .FloorDiv) (rI CDiv fun i j=>.int (i / j)):=opI fun i j _ _ _ _ _ hc q=>by
 have h1:(0:Int) < j:=hc.1
 have h2:j < 1073741824:=hc.2
 exact floordiv_int (by omega) (by rw [Int.fdiv_eq_ediv_of_nonneg i (by omega)];exact q) (.inl (PyProof.noPylong_small (by omega)))
theorem op_mod:OpR X (binaryOp .Mod) (rI (fun _ j=>0 < j) fun i j=>.int (i % j)):=opI fun i j _ _ _ _ _ hc q=>by
 have h1:(0:Int) < j:=hc
 exact mod_int' (by omega) (by rw [Int.fmod_eq_emod_of_nonneg i (by omega)];exact q)
theorem op_pow:OpR X (binaryOp .Pow) (rI CPow fun i j=>.int (i ^ j.toNat)):=opI fun _ _ _ _ _ _ _ hc q=>pow_int_small hc.1 hc.2.1 hc.2.2 q
theorem unI {f:Value->Sem Value}{g:Int->Int}
  (rule:∀ (i:Int) (t:Tok) (s:Shared) (Q:Value->Shared->Prop) (E:Value->Shared->Prop),Q (.int (g i) s.toks) { s with toks:=s.toks+1 }->wpAny (model X.prog X.w) X.A (f (.int i t)) Q E s) :
  UnR X f (rU fun i=>.int (g i)):=by
 intro pins s σ H x v Q I rx h
 obtain ⟨i,rfl,q⟩:=h
 obtain ⟨t,rfl⟩:=rx
 exact rule i t s _ _ ⟨.int (g i),H,I.tok _,⟨_,rfl⟩,q⟩
theorem un_neg:UnR X (unaryOp .USub) (rU fun i=>.int (-i)):=unI fun _ _ _ _ _ q=>neg_int q
end
def scal:V->V->Bool
 | .non,.non=>true | .non,.int _=>true | .int _,.non=>true | .non,.bl _=>true | .bl _,.non=>true | .non,.str _=>true | .str _,.non=>true
 | .int _,.int _=>true | .bl _,.bl _=>true | .str _,.str _=>true | .byt _,.byt _=>true
 | .int _,.str _=>true | .str _,.int _=>true | .bl _,.str _=>true | .str _,.bl _=>true
 | _,_=>false
def rEq:R2:=fun x y H Q=>scal x y=true∧Q (.bl (decide (x=y))) H
def rNe:R2:=fun x y H Q=>scal x y=true∧Q (.bl (!decide (x=y))) H
theorem dec_int {i j:Int}:decide (V.int i=V.int j)=(i == j):=by
 rw [Bool.eq_iff_iff]
 simp
theorem dec_bl {i j:Bool}:decide (V.bl i=V.bl j)=(i == j):=by
 rw [Bool.eq_iff_iff]
 simp
theorem dec_str {i j:Str}:decide (V.str i=V.str j)=(i == j):=by
 rw [Bool.eq_iff_iff]
 simp
theorem dec_byt {i j:Array UInt8}:decide (V.byt i=V.byt j)=(i.toList == j.toList):=by
 rw [Bool.eq_iff_iff]
 cases i
 cases j
 simp
section
variable {X:Cx}{a b c:Expr}{ta tb tc:TE}{pos:Pos}
theorem fin_bl {pins:List (Addr × Obj)}{σ:St}{H:Hp}{s:Shared}{Q:VK}{k k':Bool}(I:Inv X pins σ H s) (q:Q (.bl k) H) (e:k=k'):EP X pins σ Q (.bool k') s:=by
 subst e
 exact ⟨.bl k,H,I,rfl,q⟩
theorem op_eq:OpR X (compareOp .Eq) rEq:=by
 intro pins s σ H x y v u Q I rx ry h
 obtain ⟨hs,q⟩:=h
 cases x with
 | non=>
  cases rx
  cases y with
  | non=>cases ry;exact PySem.EqNone.eq_none_none (fin_bl I q (by simp))
  | bl j=>cases ry;exact PySem.EqNone.eq_none_bool (fin_bl I q (by simp))
  | int j=>obtain ⟨t',rfl⟩:=ry;exact PySem.EqNone.eq_none_int (fin_bl I q (by simp))
  | str j=>obtain ⟨t',rfl⟩:=ry;exact PySem.EqNone.eq_none_str (fin_bl I q (by simp))
  | _=>exact absurd (show false=true from hs) Bool.false_ne_true
 | bl i=>
  cases rx
  cases y with
  | non=>cases ry;exact PySem.EqNone.eq_bool_none (fin_bl I q (by simp))
  | bl j=>cases ry;exact eq_bool (fin_bl I q dec_bl)
  | str j=>obtain ⟨t',rfl⟩:=ry;exact PySem.EqMixed.eq_bool_str (fin_bl I q (by simp))
  | _=>exact absurd (show false=true from hs) Bool.false_ne_true
 | int i=>
  obtain ⟨t,rfl⟩:=rx
  cases y with
  | non=>cases ry;exact PySem.EqNone.eq_int_none (fin_bl I q (by simp))
  | int j=>obtain ⟨t',rfl⟩:=ry;exact eq_int (fin_bl I q dec_int)
  | str j=>obtain ⟨t',rfl⟩:=ry;exact PySem.EqMixed.eq_int_str (fin_bl I q (by simp))
  | _=>exact absurd (show false=true from hs) Bool.false_ne_true
 | str i=>
  obtain ⟨t,rfl⟩:=rx
  cases y with
  | non=>cases ry;exact PySem.EqNone.eq_str_none (fin_bl I q (by simp))
  | bl j=>cases ry;exact PySem.EqMixed.eq_str_bool (fin_bl I q (by simp))
  | int j=>obtain ⟨t',rfl⟩:=ry;exact PySem.EqMixed.eq_str_int (fin_bl I q (by simp))
  | str j=>obtain ⟨t',rfl⟩:=ry;exact eq_str (fin_bl I q dec_str)
  | _=>exact absurd (show false=true from hs) Bool.false_ne_true
 | byt i=>
  obtain ⟨t,rfl⟩:=rx
  cases y with
  | byt j=>obtain ⟨t',rfl⟩:=ry;exact PySem.W.eq_bytes (fin_bl I q dec_byt)
  | _=>exact absurd (show false=true from hs) Bool.false_ne_true
 | _=>cases y<;>exact absurd (show false=true from hs) Bool.false_ne_true
theorem op_ne:OpR X (compareOp .NotEq) rNe:=by
 intro pins s σ H x y v u Q I rx ry h
 obtain ⟨hs,q⟩:=h
 cases x with
 | non=>
  cases rx
  cases y with
  | non=>cases ry;exact PySem.EqNone.ne_none_none (fin_bl I q (by simp))
  | bl j=>cases ry;exact PySem.EqNone.ne_none_bool (fin_bl I q (by simp))
  | int j=>obtain ⟨t',rfl⟩:=ry;exact PySem.EqNone.ne_none_int (fin_bl I q (by simp))
  | str j=>obtain ⟨t',rfl⟩:=ry;exact PySem.EqNone.ne_none_str (fin_bl I q (by simp))
  | _=>exact absurd (show false=true from hs) Bool.false_ne_true
 | bl i=>
  cases rx
  cases y with
  | non=>cases ry;exact PySem.EqNone.ne_bool_none (fin_bl I q (by simp))
  | bl j=>cases ry;exact ne_bool (fin_bl I q (congrArg not dec_bl))
  | str j=>obtain ⟨t',rfl⟩:=ry;exact PySem.EqMixed.ne_bool_str (fin_bl I q (by simp))
  | _=>exact absurd (show false=true from hs) Bool.false_ne_true
 | int i=>
  obtain ⟨t,rfl⟩:=rx
  cases y with
  | non=>cases ry;exact PySem.EqNone.ne_int_none (fin_bl I q (by simp))
  | int j=>obtain ⟨t',rfl⟩:=ry;exact ne_int (fin_bl I q (congrArg not dec_int))
  | str j=>obtain ⟨t',rfl⟩:=ry;exact PySem.EqMixed.ne_int_str (fin_bl I q (by simp))
  | _=>exact absurd (show false=true from hs) Bool.false_ne_true
 | str i=>
  obtain ⟨t,rfl⟩:=rx
  cases y with
  | non=>cases ry;exact PySem.EqNone.ne_str_none (fin_bl I q (by simp))
  | bl j=>cases ry;exact PySem.EqMixed.ne_str_bool (fin_bl I q (by simp))
  | int j=>obtain ⟨t',rfl⟩:=ry;exact PySem.EqMixed.ne_str_int (fin_bl I q (by simp))
  | str j=>obtain ⟨t',rfl⟩:=ry;exact ne_str (fin_bl I q (congrArg not dec_str))
  | _=>exact absurd (show false=true from hs) Bool.false_ne_true
 | byt i=>
  obtain ⟨t,rfl⟩:=rx
  cases y with
  | byt j=>obtain ⟨t',rfl⟩:=ry;exact PySem.W.ne_bytes (fin_bl I q (congrArg not dec_byt))
  | _=>exact absurd (show false=true from hs) Bool.false_ne_true
 | _=>cases y<;>exact absurd (show false=true from hs) Bool.false_ne_true
theorem op_lt:OpR X (compareOp .Lt) (rI0 fun i j=>.bl (decide (i < j))):=opB0 fun _ _ _ _ _ _ _ q=>lt_int q
theorem op_le:OpR X (compareOp .LtE) (rI0 fun i j=>.bl (decide (i≤j))):=opB0 fun _ _ _ _ _ _ _ q=>le_int q
theorem op_gt:OpR X (compareOp .Gt) (rI0 fun i j=>.bl (decide (j < i))):=opB0 fun _ _ _ _ _ _ _ q=>gt_int q
theorem op_ge:OpR X (compareOp .GtE) (rI0 fun i j=>.bl (decide (j≤i))):=opB0 fun _ _ _ _ _ _ _ q=>ge_int q
theorem OpR.or {f:Value->Value->Sem Value}{r r':R2}(h:OpR X f r) (h':OpR X f r'):OpR X f (fun x y H Q=>r x y H Q∨r' x y H Q):=by
 intro pins s σ H x y v u Q I rx ry q
 rcases q with q|q
 ·exact h pins s σ H x y v u Q I rx ry q
 ·exact h' pins s σ H x y v u Q I rx ry q
theorem nomark (b:Expr){op:CmpOp}(h:op ≠ .In:=by decide) (h2:op ≠ .NotIn:=by decide):behindInMarks op b=false:=by
 have e1:(op == CmpOp.In)=false:=by cases op<;>first|rfl|exact absurd rfl h
 have e2:(op == CmpOp.NotIn)=false:=by cases op<;>first|rfl|exact absurd rfl h2
 cases b<;>simp [behindInMarks,e1,e2]
theorem pe_cmpR {op:CmpOp}{r:R2}(ho:OpR X (compareOp op) r) (ha:PE X a ta) (hb:PE X b tb) (hm:behindInMarks op b=false):PE X (.Compare a [op] [b] pos) (tOp r ta tb):=by
 intro pins s σ H Q I h
 exact wpAny_Compare1 (binT ha hb I h fun v u s2 x y H2 I2 rx ry q=>ho pins s2 σ H2 x y v u Q I2 rx ry q) hm
def tTest (t:TE):TT:=fun σ H Q=>t σ H fun x H'=>∃ k,x=.bl k∧Q k H'
theorem pt_cmpR {op:CmpOp}{r:R2}(ho:OpR X (compareOp op) r) (ha:PE X a ta) (hb:PE X b tb) (hm:behindInMarks op b=false):PT X (.Compare a [op] [b] pos) (tTest (tOp r ta tb)):=by
 intro pins s σ H Q I h
 refine wpAny_isTrue_Compare1 (thn (ha pins s σ H _ I h) fun v s1 ⟨x,H1,I1,r1,q1⟩=>thn (hb pins s1 σ H1 _ I1 q1) fun u s2 ⟨y,H2,I2,r2,q2⟩=>
  thn (ho pins s2 σ H2 x y v u _ I2 r1 r2 q2) fun c s3 ⟨z,H3,I3,r3,k,e,q3⟩=>?_) hm
 subst e
 cases r3
 exact wpAny_truthy_bool ⟨H3,I3,q3⟩
def tChain (r r':R2) (ta tb tc:TE):TE:=fun σ H Q=>ta σ H fun x H1=>tb σ H1 fun y H2=>r x y H2 fun z H3=>∃ k,z=.bl k ∧
 (if k=true then tc σ H3 fun w' H4=>r' y w' H4 Q else Q (.bl false) H3)
theorem pe_chain {op op':CmpOp}{r r':R2}(ho:OpR X (compareOp op) r) (ho':OpR X (compareOp op') r') (ha:PE X a ta) (hb:PE X b tb) (hc:PE X c tc)
  (hm:lastMarks [op,op'] [b,c]=false:=by with_unfolding_all rfl):PE X (.Compare a [op,op'] [b,c] pos) (tChain r r' ta tb tc):=by
 intro pins s σ H Q I h
 refine Compare_chain (thn (ha pins s σ H _ I h) fun v s1 ⟨x,H1,I1,r1,q1⟩=>chain_link (thn (hb pins s1 σ H1 _ I1 q1) fun u s2 ⟨y,H2,I2,r2,q2⟩=>
  thn (ho pins s2 σ H2 x y v u _ I2 r1 r2 q2) fun d s3 ⟨z,H3,I3,r3,k,e,q3⟩=>?_)) hm
 subst e
 cases r3
 refine wpAny_truthy_bool ?_
 cases k with
 | false=>exact ite_ff ⟨.bl false,H3,I3,rfl,q3⟩
 | true=>exact ite_tt (chain_last (thn (hc pins s3 σ H3 _ I3 q3) fun w' s4 ⟨z',H4,I4,r4,q4⟩=>ho' pins s4 σ H4 y z' u w' Q I4 r2 r4 q4))
theorem line63:(sizeLine:Nat) < 2 ^ 63:=by rw [sizeLine_eq];decide
theorem vals1 {x:V}{us:List Value}(r:Vals [x] us):∃ u,us=[u]∧RelV x u:=by
 cases r with
 | cons r1 r2=>cases r2;exact ⟨_,rfl,r1⟩
theorem vals2 {x y:V}{us:List Value}(r:Vals [x,y] us):∃ u w',us=[u,w']∧RelV x u∧RelV y w':=by
 cases r with
 | cons r1 r2=>
  cases r2 with
  | cons r3 r4=>cases r4;exact ⟨_,_,rfl,r1,r3⟩
theorem call_abs:CallR X (.builtin "abs") (fun xs H Q=>∃ i,xs=[.int i]∧Q (.int (if i < 0 then -i else i)) H):=by
 intro pins s σ H xs us Q I r h
 obtain ⟨i,rfl,q⟩:=h
 obtain ⟨u,rfl,t,rfl⟩:=vals1 r
 exact call_abs_int fun u tk=>⟨.int (if i < 0 then -i else i),H,I.tok _,⟨_,rfl⟩,q⟩
theorem call_max2 (hc:X.calm=true):CallR X (.builtin "max") (fun xs H Q=>∃ i j,xs=[.int i,.int j]∧Q (.int (if j > i then j else i)) H):=by
 intro pins s σ H xs us Q I r h
 obtain ⟨i,j,rfl,q⟩:=h
 obtain ⟨u,w',rfl,⟨t,rfl⟩,⟨t',rfl⟩⟩:=vals2 r
 refine max_two_ints (I.ok.hd hc) fun h' tk k=>⟨_,H,I.kept k,?_,q⟩
 by_cases hj:j > i
 ·rw [if_pos hj,if_pos hj];exact ⟨_,rfl⟩
 ·rw [if_neg hj,if_neg hj];exact ⟨_,rfl⟩
theorem call_min2 (hc:X.calm=true):CallR X (.builtin "min") (fun xs H Q=>∃ i j,xs=[.int i,.int j]∧Q (.int (if j < i then j else i)) H):=by
 intro pins s σ H xs us Q I r h
 obtain ⟨i,j,rfl,q⟩:=h
 obtain ⟨u,w',rfl,⟨t,rfl⟩,⟨t',rfl⟩⟩:=vals2 r
 refine min_two_ints (I.ok.hd hc) fun h' tk k=>⟨_,H,I.kept k,?_,q⟩
 by_cases hj:j < i
 ·rw [if_pos hj,if_pos hj];exact ⟨_,rfl⟩
 ·rw [if_neg hj,if_neg hj];exact ⟨_,rfl⟩
end
end L2
namespace L2
open PySem PySem.Spec PyProof.Rows
structure ObjM (h:Heap) (x dx C:Addr) (mA:Str->Option Value):Prop where
 obj:h.get? x=some (PySem.W.instObj C dx)
 ns:h.Ns1 dx mA
 ne:dx ≠ x
theorem lookIn_ns {h:Heap}{dx:Addr}{mA:Str->Option Value}(n:h.Ns1 dx mA):∃ od,h.get? dx=some od∧∀ name,PySem.W.lookIn name od=some (mA name):=by
 obtain ⟨o,es,ep,ho,hd,hk,_,hm⟩:=n
 refine ⟨o,ho,fun name=>?_⟩
 have e:=hm name
 unfold nsFind findBy at e
 rw [←Array.find?_toList] at e
 unfold PySem.W.lookIn
 rw [hd]
 dsimp only
 split
 ·rename_i y q
  rw [q] at e
  exact congrArg some e
 ·rename_i q
  rw [q] at e
  have a:es.toList.any (·.refKey)=false:=by
   rw [List.any_eq_false]
   intro y hy
   obtain ⟨z,t,hkey⟩:=hk y (Array.mem_toList_iff.mp hy)
   simp [DictEntry.refKey,hkey]
  have a':¬ es.toList.any (·.refKey)=true:=by rw [a];exact Bool.false_ne_true
  rw [if_neg a']
  exact congrArg some e
theorem ObjM.look {h:Heap}{x dx C:Addr}{mA:Str->Option Value}(I:ObjM h x dx C mA):∃ od,PySem.W.InstAt h x (PySem.W.instObj C dx) C (some od)∧∀ name,PySem.W.lookIn name od=some (mA name):=
 let ⟨od,ho,hl⟩:=lookIn_ns I.ns
 ⟨od,⟨I.obj,rfl,rfl,ho⟩,hl⟩
section
variable {prog:Program}{w:World}{A:Around}{E:Value->Shared->Prop}{s:Shared}{K:PySem.W.Frag}{x dx C f:Addr}{mA:Str->Option Value}{name:Str}{v:Value}
theorem get_map {expr:Bool}{Q:Value->Shared->Prop}(X:K.In s.heap) (I:ObjM s.heap x dx C mA) (hg:PySem.W.plainGet K C name=true) (hh:PySem.W.hasDictIn K C=true)
  (ha:PySem.W.findIn K (.ref C) name=some none) (hv:mA name=some v) (hv':PySem.W.handedIn v=true) (h:Q v { s with toks:=s.toks+1 }) :
  wpAny (model prog w) A (getAttr (.ref x) name expr) Q E s:=by
 obtain ⟨od,J,hl⟩:=I.look
 exact PySem.W.get_value X J (PySem.W.plainGet_of hg).1 (PySem.W.findObj_own hh ha rfl (by rw [hl,hv])) hv' h
theorem get_meth {pl:Sem Bool}{Q:Value × List Value->Shared->Prop}(X:K.In s.heap) (I:ObjM s.heap x dx C mA) (hg:PySem.W.plainGet K C name=true)
  (hf:PySem.W.findIn K (.ref C) name=some (some (.ref f))) (ht:PySem.W.isFn K (.ref f)=true) (hv:mA name=none) (h:Q (.ref f,[.ref x]) s) :
  wpAny (model prog w) A (getMethod (.ref x) name pl) Q E s:=by
 obtain ⟨od,J,hl⟩:=I.look
 exact PySem.W.method_fn X J (PySem.W.plainGet_of hg).1 (PySem.W.plainGet_of hg).2 hf (beq_iff_eq.mp ht) (by show (PySem.W.lookIn name od).map (·.isSome)=some false;rw [hl,hv];rfl) h
theorem set_map {ns:List Str}{Q:Unit->Shared->Prop}(X:K.In s.heap) (I:ObjM s.heap x dx C mA)
  (hs:PySem.W.findIn K (.ref C) "__setattr__"=some (some (.builtin "object.__setattr__"))) (hp:PySem.W.plainOver K C=true) (ht:PySem.W.takerIn K C name=some none) (hh:PySem.W.hasDictIn K C=true)
  (hw:PySem.Within mA ns) (hsz:ns.length≤sizeLine)
  (h:∀ h',ObjM h' x dx C (fun y=>if y=name then some v else mA y)->Heap.SameBut dx s.heap h'->Q () { s with heap:=h',toks:=s.toks+2 }) :
  wpAny (model prog w) A (setAttr (.ref x) name v) Q E s:=by
 obtain ⟨od,J,hl⟩:=I.look
 refine PySem.W.set_plain X J hs (PySem.W.osa_open (s:={ s with toks:=s.toks+1 }) (r:=none) X J hp ht fun b=>?_)
 obtain ⟨cd,hc,hd'⟩:=PySem.W.any_some hh
 have hx:s.heap.get? x=some ⟨.ref C,some dx,.plain,#[]⟩:=I.obj
 refine wpAny_bind (wpAny_pure (wpAny_bind (wpAny_bind (wpAny_loadPart hx (wpAny_bind (PySem.W.Looks.here (s:={ s with toks:=s.toks+1 }) (PySem.W.looks_clsIn X hc) ?_))))))
 rw [hd']
 refine wpAny_pure (a:=some dx) (wpAny_bind (wpAny_pure (wpAny_bind ?_)))
 refine wpAny_nsSet1 (s:={ s with toks:=s.toks+1 }) I.ns fun h' hn2 hs2=>?_
 obtain ⟨oD,esD,epD,hoD,hdD,hcD⟩:=hn2.count (PySem.Within.cons name v hw)
 refine wpAny_bind (wpAny_lookBehind hoD (by rw [hdD];exact pastItsLine_dict (Nat.le_trans hcD (by rw [List.length_cons];omega))) ?_)
 exact wpAny_pure (h _ ⟨(hs2.2 _ (Ne.symm I.ne)).trans I.obj,hn2,I.ne⟩ hs2)
theorem make_map {R:Result->Shared->Prop}{vs:List Value}{kw:List (Str × Value)}(X:K.In s.heap) (hm:PySem.W.makesIn K C=true)
  (hi:PySem.W.findIn K (.ref C) "__init__"=some (some (.ref f))) (hf:PySem.W.typeIn K (.ref f)=some (.type "function"))
  (h:codeAny (model prog w) (A.under (.builtin "type.__call__" ⟨.ref C::vs,kw⟩)) (.call (.ref f) ⟨.ref (s.heap.objs.size+1)::vs,kw⟩) (PySem.W.InitBack (s.heap.objs.size+1) R)
   { s with heap:=(s.heap.push PySem.W.emptyDict).push (PySem.W.instObj C s.heap.objs.size) }) :
  codeAny (model prog w) A (.call (.ref C) ⟨vs,kw⟩) R s:=by
 obtain ⟨hh,g,d,t,os⟩:=s
 exact PySem.W.make_core (PySem.W.makes_of X hm) (PySem.W.looks_findIn X hi) (fun self=>PySem.W.bind_fn X self hf) (.inl rfl) h
end
def putF (f:Str) (v:V):List (Str × V)->List (Str × V)
 | []=>[(f,v)]
 | (g,x)::r=>if g=f then (g,v)::r else (g,x)::putF f v r
theorem lookup_putF (f g:Str) (v:V):∀ fs:List (Str × V),(putF f v fs).lookup g=if g=f then some v else fs.lookup g
 | []=>by
  show List.lookup g [(f,v)]=_
  by_cases h:g=f
  ·have hb:(g == f)=true:=beq_iff_eq.mpr h
   simp only [List.lookup,hb,if_pos h]
  ·have hb:(g == f)=false:=beq_eq_false_iff_ne.mpr h
   simp only [List.lookup,hb,if_neg h]
 | (k,x)::r=>by
  have ih:=lookup_putF f g v r
  rw [show putF f v ((k,x)::r)=(if k=f then (k,v)::r else (k,x)::putF f v r) from rfl]
  by_cases hk:k=f
  ·rw [if_pos hk]
   by_cases h:g=k
   ·have hb:(g == k)=true:=beq_iff_eq.mpr h
    simp only [List.lookup,hb,if_pos (h.trans hk)]
   ·have hb:(g == k)=false:=beq_eq_false_iff_ne.mpr h
    simp only [List.lookup,hb,if_neg (fun e:g=f=>h (e.trans hk.symm))]
  ·rw [if_neg hk]
   by_cases h:g=k
   ·have hb:(g == k)=true:=beq_iff_eq.mpr h
    simp only [List.lookup,hb,if_neg (fun e:g=f=>hk (h.symm.trans e))]
   ·have hb:(g == k)=false:=beq_eq_false_iff_ne.mpr h
    simp only [List.lookup,hb]
    exact ih
theorem keys_putF (f:Str) (v:V):∀ fs:List (Str × V),f∈(putF f v fs).map (·.1)∧∀ g,g∈fs.map (·.1)->g∈(putF f v fs).map (·.1)
 | []=>⟨by simp [putF],fun g h=>by simp at h⟩
 | (k,x)::r=>by
  obtain ⟨i1,i2⟩:=keys_putF f v r
  rw [show putF f v ((k,x)::r)=(if k=f then (k,v)::r else (k,x)::putF f v r) from rfl]
  by_cases hk:k=f
  ·rw [if_pos hk]
   subst hk
   exact ⟨by simp,fun g h=>by simpa using h⟩
  ·rw [if_neg hk]
   refine ⟨?_,fun g h=>?_⟩
   ·rw [List.map_cons]
    exact List.mem_cons_of_mem _ i1
   ·rw [List.map_cons] at h ⊢
    rcases List.mem_cons.mp h with e|e
    ·exact List.mem_cons.mpr (.inl e)
    ·exact List.mem_cons_of_mem _ (i2 g e)
theorem length_putF (f:Str) (v:V):∀ fs:List (Str × V),(putF f v fs).length≤fs.length+1
 | []=>by simp [putF]
 | (k,x)::r=>by
  have ih:=length_putF f v r
  rw [show putF f v ((k,x)::r)=(if k=f then (k,v)::r else (k,x)::putF f v r) from rfl]
  by_cases hk:k=f
  ·rw [if_pos hk,List.length_cons,List.length_cons];omega
  ·rw [if_neg hk,List.length_cons,List.length_cons];omega
theorem RelO.some_of {v:V}{o:Option Value}(r:RelO (some v) o):∃ u,o=some u∧RelV v u:=by
 cases o with
 | none=>exact (show False from r).elim
 | some u=>exact ⟨u,rfl,r⟩
theorem RelO.none_of {o:Option Value}(r:RelO none o):o=none:=by
 cases o with
 | none=>rfl
 | some u=>exact (show False from r).elim
theorem handed_of {v:V}{u:Value}(r:RelV v u):PySem.W.handedIn u=true:=by
 cases v with
 | non=>cases (show u=Value.none from r);rfl
 | bl b=>cases (show u=Value.bool b from r);rfl
 | int i=>obtain ⟨t,e⟩:=(show ∃ t,u=Value.int i t from r);cases e;rfl
 | str x=>obtain ⟨t,e⟩:=(show ∃ t,u=Value.str x t from r);cases e;rfl
 | byt b=>obtain ⟨t,e⟩:=(show ∃ t,u=Value.bytes b t from r);cases e;rfl
 | flt b=>obtain ⟨t,e⟩:=(show ∃ t,u=Value.float b t from r);cases e;rfl
 | ref a=>cases (show u=Value.ref a from r);rfl
 | ty n=>cases (show u=Value.type n from r);rfl
section
variable {P:Program}{w:World}{H H':Hp}{h h':Heap}{a C dx:Addr}{fs fs':List (Str × V)}
theorem ins_get (hok:HOk P w H h) (e:H a=some (.ins C dx fs)):∃ mA,ObjM h a dx C mA∧(∀ f,RelO (fs.lookup f) (mA f))∧PySem.Within mA (fs.map (·.1))∧fs.length≤1000∧H dx=some (.own a):=by
 obtain ⟨d,z,ne,ob,mA,n,r,q⟩:=(show ObjOk P w H h a (.ins C dx fs) from hok a _ e)
 exact ⟨mA,⟨ob,n,ne⟩,r,q,z,d⟩
end
structure Cls (K:PySem.W.Frag) (C:Addr):Prop where
 pg:PySem.W.plainGet K C Str.empty=true
 hd:PySem.W.hasDictIn K C=true
 po:PySem.W.plainOver K C=true
 sa:PySem.W.findIn K (.ref C) "__setattr__"=some (some (.builtin "object.__setattr__"))
theorem Cls.get {K:PySem.W.Frag}{C:Addr}(c:Cls K C) (f:Str):PySem.W.plainGet K C f=true:=c.pg
def NoAttr (K:PySem.W.Frag) (C:Addr) (f:Str):Prop:=PySem.W.findIn K (.ref C) f=some none
theorem NoAttr.taker {K:PySem.W.Frag}{C:Addr}{f:Str}(n:NoAttr K C f):PySem.W.takerIn K C f=some none:=by
 unfold PySem.W.takerIn
 rw [show PySem.W.findIn K (.ref C) f=some none from n]
 rfl
structure Meth (K:PySem.W.Frag) (C:Addr) (m:Str) (f:Addr):Prop where
 at_:PySem.W.findIn K (.ref C) m=some (some (.ref f))
 fn:PySem.W.isFn K (.ref f)=true
 kp:PySem.W.keepIn K (.ref f)=true
section
variable {X:Cx}{pins:List (Addr × Obj)}{σ:St}{H:Hp}{s:Shared}{a C dx:Addr}{fs:List (Str × V)}{f:Str}{v:V}{A:Around}{E:Value->Shared->Prop}
theorem getattr_ok {b:Bool}{Q:Value->Shared->Prop}(I:Inv X pins σ H s) (e:H a=some (.ins C dx fs)) (c:Cls X.K C) (n:NoAttr X.K C f) (l:fs.lookup f=some v)
  (h:∀ u s',Inv X pins σ H s'->RelV v u->Q u s'):wpAny (model X.prog X.w) A (getAttr (.ref a) f b) Q E s:=by
 obtain ⟨mA,O,r,_,_,_⟩:=ins_get I.hok e
 obtain ⟨u,hu,ru⟩:=RelO.some_of (v:=v) (o:=mA f) (by rw [←l];exact r f)
 exact get_map I.kIn O (c.get f) c.hd n hu (handed_of ru) (h u _ (I.tok _) ru)
theorem getmeth_ok {m:Str}{g:Addr}{pl:Sem Bool}{Q:Value × List Value->Shared->Prop}(I:Inv X pins σ H s) (e:H a=some (.ins C dx fs)) (c:Cls X.K C) (k:Meth X.K C m g) (l:fs.lookup m=none)
  (h:Q (.ref g,[.ref a]) s):wpAny (model X.prog X.w) A (getMethod (.ref a) m pl) Q E s:=by
 obtain ⟨mA,O,r,_,_,_⟩:=ins_get I.hok e
 have hn:mA m=none:=RelO.none_of (by rw [←l];exact r m)
 exact get_meth I.kIn O (c.get m) k.at_ k.fn hn h
theorem setattr_ok {y:V}{u:Value}{Q:Unit->Shared->Prop}(I:Inv X pins σ H s) (e:H a=some (.ins C dx fs)) (c:Cls X.K C) (n:NoAttr X.K C f) (hl:fs.length < 1000) (ry:RelV y u)
  (h:∀ s',Inv X pins σ (upd H a (.ins C dx (putF f y fs))) s'->Q () s'):wpAny (model X.prog X.w) A (setAttr (.ref a) f u) Q E s:=by
 obtain ⟨mA,O,r,wi,_,ho⟩:=ins_get I.hok e
 have hz:(fs.map (·.1)).length≤sizeLine:=by rw [List.length_map,sizeLine_eq];omega
 refine set_map I.kIn O c.sa c.po n.taker c.hd wi hz fun h' O' sb=>h _ ?_
 have hd:∃ o,h'.get? dx=some o:=let ⟨o,_,_,e',_⟩:=O'.ns;⟨o,e'⟩
 refine I.write (x:=a) (e:=dx) (by rw [e];exact True.intro) (.inr ho) (fun b q hb z=>(sb.2 b hb).trans z) hd ?_
 refine ⟨by rw [upd_ne O.ne];exact ho,?_,O.ne,O'.obj,_,O'.ns,fun g=>?_,fun g hg=>?_⟩
 ·have:=length_putF f y fs;omega
 ·show RelO ((putF f y fs).lookup g) (if g=f then some u else mA g)
  rw [lookup_putF]
  by_cases q:g=f
  ·rw [if_pos q,if_pos q];exact ry
  ·rw [if_neg q,if_neg q];exact r g
 ·by_cases q:g=f
  ·rw [q];exact (keys_putF f y fs).1
  ·refine (keys_putF f y fs).2 g (wi g fun z=>hg ?_)
   show (if g=f then some u else mA g)=none
   rw [if_neg q];exact z
theorem Inv.made (I:Inv X pins σ H s):Inv X pins σ (upd (upd H s.heap.objs.size (.own (s.heap.objs.size+1))) (s.heap.objs.size+1) (.ins C s.heap.objs.size []))
  { s with heap:=(s.heap.push PySem.W.emptyDict).push (PySem.W.instObj C s.heap.objs.size) }:=by
 have e1:(s.heap.push PySem.W.emptyDict).get? s.heap.objs.size=some PySem.W.emptyDict:=Heap.get?_push_size s.heap rfl
 have e2:((s.heap.push PySem.W.emptyDict).push (PySem.W.instObj C s.heap.objs.size)).get? (s.heap.objs.size+1)=some (PySem.W.instObj C s.heap.objs.size):=by
  have:=Heap.get?_push_size (s.heap.push PySem.W.emptyDict) (o:=PySem.W.instObj C s.heap.objs.size) rfl
  rwa [Heap.size_push] at this
 have e3:(s.heap.push PySem.W.emptyDict).Ns s.heap.objs.size (fun _=>none):=⟨PySem.W.emptyDict,#[],_,e1,rfl,(fun e he=>absurd he (by simp)),fun _=>rfl⟩
 have I1:=I.laid (a:=s.heap.objs.size) (o:=.own (s.heap.objs.size+1)) (h':=s.heap.push PySem.W.emptyDict) (t':=s.toks) (fun b u q=>Heap.get?_push_of_some _ q) (Nat.le_refl _) ⟨_,e1⟩
 refine I1.laid (a:=s.heap.objs.size+1) (o:=.ins C s.heap.objs.size []) (t':=s.toks) (fun b u q=>Heap.get?_push_of_some _ q) (Nat.le_of_eq (Heap.size_push _ _)) ?_
 have ne:s.heap.objs.size ≠ s.heap.objs.size+1:=Nat.ne_of_lt (Nat.lt_succ_self _)
 refine ⟨by rw [upd_ne ne,upd_same],Nat.zero_le _,ne,e2,fun _=>none,(Heap.Ns1.of_empty e3).at fun o q=>Heap.get?_push_of_some _ q,fun _=>True.intro,fun y hy=>absurd rfl hy⟩
theorem attr_of {prog:Program}{w:World}{env:Env}{e:Expr}{f:Str}{pos:Pos}{s:Shared}{Q:Value->Shared->Prop}(hb:attributeBase e f env (eval e env)=eval e env)
  (h:wpAny (model prog w) A (eval e env) (fun o s₁=>wpAny (model prog w) A (getAttr o f true) Q E s₁) E s):wpAny (model prog w) A (eval (.Attribute e f pos) env) Q E s:=
 Attribute_any_ h (by rw [arm_eval_Attribute,hb])
end
section
variable {X:Cx}{o e value:Expr}{f:Str}{pos pos' tpos:Pos}{ta tv:TE}
end
section
variable {X:Cx}{pins:List (Addr × Obj)}{σ:St}{H:Hp}{s:Shared}{A:Around}{E:Value->Shared->Prop}{Q:Value->Shared->Prop}{c:Value}{b:Bool}
inductive TyOf (K:PySem.W.Frag) (H:Hp):V->Value->Prop where
 | non:TyOf K H .non (.type "NoneType")
 | bl (x:Bool):TyOf K H (.bl x) (.type "bool")
 | int (i:Int):TyOf K H (.int i) (.type "int")
 | str (x:Str):TyOf K H (.str x) (.type "str")
 | flt (x:UInt64):TyOf K H (.flt x) (.type "float")
 | lst {a:Addr} {xs:List V} (e:H a=some (.lst xs)):TyOf K H (.ref a) (.type "list")
 | frz {a:Addr} {o:Obj} {xs:List V} (e:H a=some (.frz o (.lst xs))):TyOf K H (.ref a) (.type "list")
 | tup {a:Addr} {xs:List V} (e:H a=some (.tup xs)):TyOf K H (.ref a) (.type "tuple")
 | dK {a:Addr} {kvs:List (Key × V)} (e:H a=some (.dK kvs)):TyOf K H (.ref a) (.type "dict")
 | dT {a:Addr} {kvs:List (List Key × V)} (e:H a=some (.dT kvs)):TyOf K H (.ref a) (.type "dict")
 | ins {a C dx:Addr} {fs:List (Str × V)} (e:H a=some (.ins C dx fs)) (cl:Cls K C) (ha:PySem.W.findIn K (.ref C) "__class__"=some (some (.builtin "object.__class__")))
   (hn:PySem.W.specialIn K (.builtin "object.__class__") "__get__"=some (some (.builtin "getset_descriptor.__get__"))) (htk:PySem.W.takesIn K (.builtin "object.__class__")=some true)
   (hm:PySem.W.mroIn K C (.type "object")=some true):TyOf K H (.ref a) (.ref C)
theorem isinst_ok {x:V}{u t:Value}(I:Inv X pins σ H s) (rx:RelV x u) (ty:TyOf X.K H x t) (e:PySem.W.kitOne X.K t c=some b) (h:∀ tk,Q (.bool b) { s with toks:=tk }) :
  wpAny (model X.prog X.w) A (call (.builtin "isinstance") [u,c]) Q E s:=by
 cases ty with
 | non=>cases (show u=Value.none from rx);exact PySem.W.kia_one PySem.W.kitx_none I.kIn True.intro e (fun z=>nomatch z) h
 | bl y=>cases (show u=Value.bool y from rx);exact PySem.W.kia_one PySem.W.kitx_bool I.kIn True.intro e (fun z=>nomatch z) h
 | int i=>obtain ⟨t,q⟩:=(show ∃ t,u=Value.int i t from rx);cases q;exact PySem.W.kia_one PySem.W.kitx_int I.kIn True.intro e (fun z=>nomatch z) h
 | str y=>obtain ⟨t,q⟩:=(show ∃ t,u=Value.str y t from rx);cases q;exact PySem.W.kia_one PySem.W.kitx_str I.kIn True.intro e (fun z=>nomatch z) h
 | flt y=>obtain ⟨t,q⟩:=(show ∃ t,u=Value.float y t from rx);cases q;exact PySem.W.kia_one PySem.W.kitx_float I.kIn True.intro e (fun z=>nomatch z) h
 | @lst a xs ea=>
  cases (show u=Value.ref a from rx)
  obtain ⟨_,_,n,_,h1⟩:=(show ObjOk X.prog X.w H s.heap a (.lst xs) from I.hok a _ ea)
  exact PySem.W.kia_one PySem.W.kitx_list I.kIn ⟨_,h1,rfl⟩ e (fun z=>nomatch z) h
 | @frz a ob xs ea=>
  cases (show u=Value.ref a from rx)
  obtain ⟨_,_,_,n,_,h1⟩:=(show ObjOk X.prog X.w H s.heap a (.frz ob (.lst xs)) from I.hok a _ ea)
  exact PySem.W.kia_one PySem.W.kitx_list I.kIn ⟨_,h1,rfl⟩ e (fun z=>nomatch z) h
 | @tup a xs ea=>
  cases (show u=Value.ref a from rx)
  obtain ⟨_,_,_,p⟩:=(show ObjOk X.prog X.w H s.heap a (.tup xs) from I.hok a _ ea)
  obtain ⟨o,h1,h2,_⟩:=p
  exact PySem.W.kia_one PySem.W.kitx_tuple I.kIn ⟨o,h1,h2⟩ e (fun z=>nomatch z) h
 | @dK a kvs ea=>
  cases (show u=Value.ref a from rx)
  obtain ⟨_,_,vs,_,p⟩:=(show ObjOk X.prog X.w H s.heap a (.dK kvs) from I.hok a _ ea)
  obtain ⟨o,es,ep,h1,h2,_⟩:=p
  exact PySem.W.kia_one PySem.W.kitx_dict I.kIn ⟨o,h1,h2.1⟩ e (fun z=>nomatch z) h
 | @dT a kvs ea=>
  cases (show u=Value.ref a from rx)
  obtain ⟨_,_,xs,_,o,es,ep,h1,h2,_⟩:=(show ObjOk X.prog X.w H s.heap a (.dT kvs) from I.hok a _ ea)
  exact PySem.W.kia_one PySem.W.kitx_dict I.kIn ⟨o,h1,h2.1⟩ e (fun z=>nomatch z) h
 | @ins a C dx fs ea cl ha hn htk hm=>
  cases (show u=Value.ref a from rx)
  obtain ⟨mA,O,_⟩:=ins_get I.hok ea
  obtain ⟨od,J,_⟩:=O.look
  exact PySem.W.kia_one (PySem.W.kitx_own (cl.get _) cl.hd ha hn htk hm) I.kIn J e (fun z=>nomatch z) h
end
end L2
namespace L2
open PySem PySem.Spec PyProof.Rows
structure Room (k:Nat) (A:Around):Prop where
 hd:A.handled=none
 dp:A.depth+3 * k+5 < recursionLimit
 un:A.units+16 * k+200 < cLine
 gd:A.guards=some []
theorem Room.mono {j k:Nat}{A:Around}(r:Room k A) (h:j≤k):Room j A:=⟨r.hd,by have:=r.dp;omega,by have:=r.un;omega,r.gd⟩
theorem Room.deeper {k:Nat}{A:Around}(r:Room (k+1) A) (env:Env):Room k (A.deeper env):=
 ⟨r.hd,by have:=r.dp;show A.depth+1+3 * k+5 < _;omega,by have:=r.un;show A.units+3+16 * k+200 < _;omega,r.gd⟩
theorem make_depth {A:Around}{C:Addr}{us:List Value}{kw:List (Str × Value)}:(A.under (.builtin "type.__call__" ⟨.ref C::us,kw⟩)).depth=A.depth+1:=by
 first|rfl|simp [Around.under,Code.weight,Code.isCreation,Code.isGuard,Code.isCaller,Code.frames,Code.isFrame,guardIds]
theorem make_units {A:Around}{C:Addr}{us:List Value}{kw:List (Str × Value)}:(A.under (.builtin "type.__call__" ⟨.ref C::us,kw⟩)).units=A.units+1:=by
 first|rfl|simp [Around.under,Code.cUnits,Code.frames,Code.isFrame]
theorem make_guards {A:Around}{C:Addr}{us:List Value}{kw:List (Str × Value)}:(A.under (.builtin "type.__call__" ⟨.ref C::us,kw⟩)).guards=A.guards:=by
 first|rfl|(simp [Around.under,Around.pushGuard,Code.isGuard,guardIds];done)
theorem Room.make {k:Nat}{A:Around}(r:Room (k+1) A) (C:Addr) (us:List Value) (kw:List (Str × Value)):Room k (A.under (.builtin "type.__call__" ⟨.ref C::us,kw⟩)):=
 ⟨r.hd,by have:=r.dp;rw [make_depth];omega,by have:=r.un;rw [make_units];omega,by rw [make_guards];exact r.gd⟩
theorem Room.depth {k:Nat}{A:Around}(r:Room k A):A.depth < recursionLimit:=by have:=r.dp;omega
theorem Room.units {k:Nat}{A:Around}(r:Room k A):A.units+64 < cLine:=by have:=r.un;omega
def tNil:TA:=fun _ H Q=>Q [] H
def tCons (ta:TE) (tr:TA):TA:=fun σ H Q=>ta σ H fun x H1=>tr σ H1 fun xs H2=>Q (x::xs) H2
section
variable {X:Cx}{e:Expr}{es:List Expr}{te:TE}{t:TA}{pos:Pos}
theorem pa_nil:PA X [] tNil:=fun _ _ _ _ H Q I h=>Calls.spliced_nil ⟨[],H,I,.nil,h⟩
theorem pa_cons (ha:PE X e te) (hr:PA X es t) (hs:starEach (e::es) X.env=(false,eval e X.env)::starEach es X.env:=by rfl):PA X (e::es) (tCons te t):=by
 intro pos pins s σ H Q I h
 rw [hs]
 show wpAny _ _ (spliced ((false,eval e X.env)::backTo pos (starEach es X.env))) _ _ s
 refine Calls.spliced_cons (thn (ha pins s σ H _ I h) fun u s1 ⟨x,H1,I1,r1,q1⟩=>?_)
 exact thn (hr pos pins s1 σ H1 _ I1 q1) fun us s2 ⟨xs,H2,I2,r2,q2⟩=>⟨x::xs,H2,I2,.cons r1 r2,q2⟩
end
abbrev Sp:=List V->Hp->VK->XK->Prop
abbrev CXT:=List Env->Hp->Shared->XK->Value->Shared->Prop
structure Env0 (P:Program) (w:World) (K:PySem.W.Frag) (mg:Str->Option Value) (base:Heap) (A:Around) (outer:List Env) (s:Shared) (H:Hp):Prop where
 frames:A.frames=some outer
 mod:Mod K mg base
 bs:∀ b o,base.get? b=some o->s.heap.get? b=some o∧H b=none
 bsz:base.objs.size≤s.heap.objs.size
 funs:s.heap.FunFrames base outer
 frf:∀ b∈frs outer,H b=none
 hok:HOk P w H s.heap
 bare:AllBare s.gens
def CE (outer:List Env) (P:Program) (w:World) (H:Hp) (s:Shared) (Q:VK) (u:Value) (s':Shared):Prop:=
 ∃ v H',s'.os=s.os∧AllBare s'.gens∧Un (frs outer) [] H H' s.heap s'.heap∧HOk P w H' s'.heap∧RelV v u∧Q v H'
def CR (CX:CXT) (outer:List Env) (P:Program) (w:World) (H:Hp) (s:Shared) (Q:VK) (E:XK) (r:Result) (s':Shared):Prop:=
 match r with
 | .ok (.ret u)=>CE outer P w H s Q u s'
 | .ok _=>False
 | .error e=>CX outer H s E e s'
structure FnOk (P:Program) (w:World) (K:PySem.W.Frag) (mg:Str->Option Value) (base:Heap) (CX:CXT) (k:Nat) (f:Addr) (fd:FuncData) (ps:List Str) (sp:Sp):Prop where
 len:∀ vs H Q E,sp vs H Q E->vs.length=ps.length
 run:∀ (A:Around) (outer:List Env) (s:Shared) (H:Hp) (args:Args) (us:List Value) (vs:List V) (Q:VK) (E:XK),Room k A->Env0 P w K mg base A outer s H->BindsTo s fd args (ps.zip us)->Vals vs us->sp vs H Q E →
  codeAny (model P w) A (.call (.ref f) args) (CR CX outer P w H s Q E) s
theorem FnOk.imp {P:Program}{w:World}{K:PySem.W.Frag}{mg:Str->Option Value}{base:Heap}{CX:CXT}{k:Nat}{f:Addr}{fd:FuncData}{ps:List Str}{sp sp':Sp}(F:FnOk P w K mg base CX k f fd ps sp)
  (h:∀ vs H Q E,sp' vs H Q E->sp vs H Q E):FnOk P w K mg base CX k f fd ps sp':=
 ⟨fun vs H Q E q=>F.len vs H Q E (h _ _ _ _ q),fun A outer s H args us vs Q E hr he hb hv hs=>F.run A outer s H args us vs Q E hr he hb hv (h _ _ _ _ hs)⟩
theorem Env0.make {P:Program}{w:World}{K:PySem.W.Frag}{mg:Str->Option Value}{base:Heap}{A:Around}{outer:List Env}{s:Shared}{H:Hp}(e:Env0 P w K mg base A outer s H) (C:Addr) (us:List Value) (kw:List (Str × Value)) :
  Env0 P w K mg base (A.under (.builtin "type.__call__" ⟨.ref C::us,kw⟩)) outer s H:=⟨by first|exact e.frames|(simpa [Around.under,Code.envs,Code.isFrame,pushEnvs] using e.frames),e.mod,e.bs,e.bsz,e.funs,e.frf,e.hok,e.bare⟩
section
variable {X:Cx}{pins:List (Addr × Obj)}{σ:St}{H:Hp}{s s':Shared}
theorem Inv.env0 (I:Inv X pins σ H s):Env0 X.prog X.w X.K X.mg X.base X.A X.stack s H:=
 ⟨I.ok.frames,I.ok.mod,I.bs,Nat.le_trans I.ok.bsz I.sz,I.stack,I.stkFree,I.hok,I.bare⟩
theorem Inv.after {Q:VK}{u:Value}(I:Inv X pins σ H s) (h:CE X.stack X.prog X.w H s Q u s'):EP X pins σ Q u s':=by
 obtain ⟨v,H',os,bare,un,hok,r,q⟩:=h
 obtain ⟨hh,g,d,t,os'⟩:=s'
 obtain rfl:os'=s.os:=os
 exact ⟨v,H',I.call (h':=hh) (g':=g) (d':=d) (t':=t) (ch:=[]) un hok bare (fun b z=>absurd z (by simp)),r,q⟩
end
def tCall (sp:Sp) (dvs:List V) (E:XK) (t:TA):TE:=fun σ H Q=>t σ H fun vs H1=>sp (vs++dvs) H1 Q E
def Binds (K:PySem.W.Frag) (fd:FuncData) (ps:List Str) (ds:List Value):Prop:=
 ∀ (s:Shared) (us:List Value),K.In s.heap->(us++ds).length=ps.length->BindsTo s fd ⟨us,[]⟩ (ps.zip (us++ds))
theorem Binds.all {K:PySem.W.Frag}{fd:FuncData}{ps:List Str}(h:∀ us:List Value,us.length=ps.length->bindArgs fd ⟨us,[]⟩=pure (ps.zip us)):Binds K fd ps []:=fun s us _ hl=>by
 rw [List.append_nil] at hl ⊢
 exact .of_eq (h us hl)
def Passes (CX:CXT) (X:Cx) (E:XK):Prop:=∀ (pins:List (Addr × Obj)) (σ:St) (H:Hp) (s:Shared) (e:Value) (s':Shared),Inv X pins σ H s->CX X.stack H s E e s'->X.xe e s'
section
variable {X:Cx}{CX:CXT}{k:Nat}{f C:Addr}{fd:FuncData}{ps:List Str}{sp:Sp}{dvs:List V}{ds:List Value}{E:XK}{x m:Str}{p pos apos:Pos}{e o:Expr}{es:List Expr}{ta:TE}{t:TA}
theorem run_fn {pins:List (Addr × Obj)}{σ:St}{H:Hp}{s:Shared}{Q:VK}{us:List Value}{vs:List V}(F:FnOk X.prog X.w X.K X.mg X.base CX k f fd ps sp) (hr:Room k X.A) (hb:Binds X.K fd ps ds) (hd:Vals dvs ds) (hx:Passes CX X E)
  (I:Inv X pins σ H s) (r:Vals vs us) (h:sp (vs++dvs) H Q E):wpAny (model X.prog X.w) X.A (call (.ref f) us) (EP X pins σ Q) X.xe s:=by
 have r2:Vals (vs++dvs) (us++ds):=r.append hd
 have hl:(us++ds).length=ps.length:=by rw [←r2.length];exact F.len _ _ _ _ h
 refine wpAny_call (codeAny_mono (F.run X.A X.stack s H ⟨us,[]⟩ (us++ds) (vs++dvs) Q E hr I.env0 (hb s us I.kIn hl) r2 h) fun r s' hq=>?_)
 cases r with
 | error e=>exact hx pins σ H s e s' I hq
 | ok fl=>
  cases fl with
  | ret u=>exact I.after hq
  | next=>exact False.elim hq
  | brk=>exact False.elim hq
  | cont=>exact False.elim hq
theorem pe_call (F:FnOk X.prog X.w X.K X.mg X.base CX k f fd ps sp) (hr:Room k X.A) (hg:Gl X x) (hm:X.mg x=some (.ref f)) (hk:PySem.W.keepIn X.K (.ref f)=true) (hb:Binds X.K fd ps ds) (hd:Vals dvs ds) (hx:Passes CX X E)
  (ha:PA X (e::es) t) (hdb:(x == ("__debug__":Str))=false:=by decide) (he:starEach (e::es) X.env=(false,eval e X.env)::starEach es X.env:=by rfl) (hpl:(backTo pos (starEach es X.env)).any (·.1)=false:=by rfl) :
  PE X (.Call (.Name x p) (e::es) [] pos) (tCall sp dvs E t):=by
 intro pins s σ H Q I h
 refine wpAny_Call_Name_kw (ld_glob I hg hm ?_ hdb)
 refine PySem.W.callWith_K (h₀:=X.base) I.ok.mod.kin hk (thn (ha pos pins s σ H _ I h) fun us s1 ⟨vs,H1,I1,r,q⟩=>⟨I1.kIn,?_⟩) he hpl
 exact run_fn F hr hb hd hx I1 r q
structure Mk (K:PySem.W.Frag) (C f:Addr):Prop where
 makes:PySem.W.makesIn K C=true
 init:PySem.W.findIn K (.ref C) "__init__"=some (some (.ref f))
 fn:PySem.W.isFn K (.ref f)=true
 kp:PySem.W.keepIn K (.ref C)=true
theorem run_make {pins:List (Addr × Obj)}{σ:St}{H:Hp}{s:Shared}{Q:VK}{us:List Value}{vs:List V}(M:Mk X.K C f) (F:FnOk X.prog X.w X.K X.mg X.base CX k f fd ps sp) (hr:Room (k+1) X.A) (hb:Binds X.K fd ps ds) (hd:Vals dvs ds)
  (hx:Passes CX X E) (I:Inv X pins σ H s) (r:Vals vs us)
  (h:∀ x dx,H x=none->H dx=none->dx ≠ x->sp (.ref x::(vs++dvs)) (upd (upd H dx (.own x)) x (.ins C dx [])) (fun v H2=>v=.non∧Q (.ref x) H2) E) :
  wpAny (model X.prog X.w) X.A (call (.ref C) us) (EP X pins σ Q) X.xe s:=by
 have hq:=h (s.heap.objs.size+1) s.heap.objs.size (I.hok.fresh (Nat.le_succ _)) (I.hok.fresh (Nat.le_refl _)) (Nat.ne_of_lt (Nat.lt_succ_self _))
 have I2:=Inv.made (C:=C) I
 have r2:Vals (V.ref (s.heap.objs.size+1)::(vs++dvs)) (Value.ref (s.heap.objs.size+1)::(us++ds)):=.cons rfl (r.append hd)
 have hl:(Value.ref (s.heap.objs.size+1)::us++ds).length=ps.length:=by
  have e:=r2.length
  rw [F.len _ _ _ _ hq] at e
  exact e.symm
 refine wpAny_call (make_map (f:=f) I.kIn M.makes M.init (beq_iff_eq.mp M.fn) (codeAny_mono (F.run _ X.stack _ _ ⟨Value.ref (s.heap.objs.size+1)::us,[]⟩ (Value.ref (s.heap.objs.size+1)::(us++ds)) _ _ E (hr.make C us [])
  (I2.env0.make C us []) (hb _ (Value.ref (s.heap.objs.size+1)::us) I2.kIn hl) r2 hq) fun r s' hq'=>?_))
 cases r with
 | error e=>exact hx pins σ _ _ e s' I2 hq'
 | ok fl=>
  cases fl with
  | ret u=>
   obtain ⟨v,H',I3,rv,ev,q3⟩:=I2.after hq'
   subst ev
   exact ⟨rv,⟨V.ref (s.heap.objs.size+1),H',I3,rfl,q3⟩⟩
  | next=>exact False.elim hq'
  | brk=>exact False.elim hq'
  | cont=>exact False.elim hq'
end
def PK (X:Cx) (kws:List Keyword) (t:TA):Prop:=
 ∀ (pos:Pos) (pins:List (Addr × Obj)) (s:Shared) (σ:St) (H:Hp) (Q:List V->Hp->Prop),Inv X pins σ H s->t σ H Q->wpAny (model X.prog X.w) X.A (evalAll ((backToKw pos (keywordEach kws X.env)).map (·.2))) (AP X pins σ Q) X.xe s
section
variable {X:Cx}{CX:CXT}{k:Nat}{f C:Addr}{fd:FuncData}{ps ks:List Str}{sp:Sp}{E:XK}{x m:Str}{p pos apos kpos:Pos}{e o:Expr}{es:List Expr}{kws:List Keyword}{te ta:TE}{t tk:TA}{nm:Option Str}
theorem pk_nil:PK X [] tNil:=fun _ _ _ _ H Q I h=>wpAny_evalAll_nil ⟨[],H,I,.nil,h⟩
theorem pk_cons (ha:PE X e te) (hr:PK X kws t):PK X (⟨nm,e,kpos⟩ :: kws) (tCons te t):=by
 intro pos pins s σ H Q I h
 show wpAny _ _ (evalAll ((do let v ←eval e X.env;standAt pos;pure v)::(backToKw pos (keywordEach kws X.env)).map (·.2))) _ _ s
 refine wpAny_evalAll_cons (wpAny_bind (thn (ha pins s σ H _ I h) fun u s1 ⟨x,H1,I1,r1,q1⟩=>wpAny_bind (wpAny_standAt (wpAny_pure ?_))))
 exact thn (hr pos pins s1 σ H1 _ I1 q1) fun us s2 ⟨xs,H2,I2,r2,q2⟩=>⟨x::xs,H2,I2,.cons r1 r2,q2⟩
variable {g:List Value->List Value->List Value}{gV:List V->List V->List V}
end
structure FnScope (N P:List Str) (sc:Scope):Prop where
 kind:sc.kind=.function
 co:sc.isCoroutine=false
 gen:sc.isGenerator=false
 nd:N.Nodup
 pre:N.take P.length=P
 par:∀ x∈P,sc.names.lookup x=some .local∨sc.names.lookup x=some .cell
 nofree:∀ y∈sc.names,y.2 ≠ .free
theorem bindL_out {kindOf:Str->Option NameKind}{x:Str}:∀ {binds:List (Str × Value)}{m:Str->Option Value},(∀ v,(x,v) ∉ binds)->bindL kindOf binds m x=m x
 | [],_,_=>rfl
 | (n,v)::r,m,h=>by
  unfold bindL
  rw [bindL_out fun w hw=>h w (List.mem_cons_of_mem _ hw)]
  split
  ·have:x ≠ n:=by rintro rfl;exact h v List.mem_cons_self
   simp [this]
  ·rfl
theorem bindC_out {kindOf:Str->Option NameKind}{x:Str}:∀ {binds:List (Str × Value)}{m:Str->Option Value},(∀ v,(x,v) ∉ binds)->bindC kindOf binds m x=m x
 | [],_,_=>rfl
 | (n,v)::r,m,h=>by
  unfold bindC
  rw [bindC_out fun w hw=>h w (List.mem_cons_of_mem _ hw)]
  split
  ·rfl
  ·have:x ≠ n:=by rintro rfl;exact h v List.mem_cons_self
   simp [this]
theorem bindL_get {kindOf:Str->Option NameKind}{x:Str}{v:Value}:∀ {P:List Str}{vs:List Value}{i:Nat}{m:Str->Option Value},P.Nodup->P[i]? = some x->vs[i]? = some v->kindOf x=some .local →
  bindL kindOf (P.zip vs) m x=some v
 | [],_,_,_,_,h,_,_=>by simp at h
 | _::_,[],_,_,_,_,h,_=>by simp at h
 | p::P,w::vs,0,m,nd,h1,h2,hk=>by
  simp at h1 h2;subst h1;subst h2
  show bindL kindOf ((p,w)::P.zip vs) m p=_
  unfold bindL
  rw [bindL_out fun v hv=>(List.nodup_cons.mp nd).1 (List.of_mem_zip hv).1,if_pos hk]
  simp
 | p::P,w::vs,i+1,m,nd,h1,h2,hk=>by
  show bindL kindOf ((p,w)::P.zip vs) m x=_
  unfold bindL
  exact bindL_get (i:=i) (List.nodup_cons.mp nd).2 (by simpa using h1) (by simpa using h2) hk
theorem bindC_get {kindOf:Str->Option NameKind}{x:Str}{v:Value}:∀ {P:List Str}{vs:List Value}{i:Nat}{m:Str->Option Value},P.Nodup->P[i]? = some x->vs[i]? = some v->kindOf x ≠ some .local →
  bindC kindOf (P.zip vs) m x=some v
 | [],_,_,_,_,h,_,_=>by simp at h
 | _::_,[],_,_,_,_,h,_=>by simp at h
 | p::P,w::vs,0,m,nd,h1,h2,hk=>by
  simp at h1 h2;subst h1;subst h2
  show bindC kindOf ((p,w)::P.zip vs) m p=_
  unfold bindC
  rw [bindC_out fun v hv=>(List.nodup_cons.mp nd).1 (List.of_mem_zip hv).1,if_neg hk]
  simp
 | p::P,w::vs,i+1,m,nd,h1,h2,hk=>by
  show bindC kindOf ((p,w)::P.zip vs) m x=_
  unfold bindC
  exact bindC_get (i:=i) (List.nodup_cons.mp nd).2 (by simpa using h1) (by simpa using h2) hk
def start (N:List Str) (vs:List V):St:=vs.map some++List.replicate (N.length - vs.length) none
def cxOf (CX:CXT) (P:Program) (w:World) (K:PySem.W.Frag) (mg:Str->Option Value) (base:Heap) (N:List Str) (qual:Str) (scope:Scope) (f:Addr) (cd:Value) (A:Around) (outer:List Env) (s:Shared) (H:Hp) (E:XK):Cx where
 prog:=P
 w:=w
 K:=K
 mg:=mg
 base:=base
 A:=A.deeper (envOfC qual scope s.heap.objs.size f cd)
 N:=N
 s₀:=s
 H₀:=H
 env:=envOfC qual scope s.heap.objs.size f cd
 outer:=outer
 stack:=envOfC qual scope s.heap.objs.size f cd::outer
 ex:=[]
 calm:=true
 fn:=fun _=>true
 pn:=[]
 xe:=fun e s'=>wpAny (model P w) (A.deeper (envOfC qual scope s.heap.objs.size f cd)) (leaving (envOfC qual scope s.heap.objs.size f cd) e) (fun _ s''=>CX outer H s E e s'') (fun e' s''=>CX outer H s E e' s'') s'
theorem cell_has {sc:Scope}{n:Nat}{x:Str}(h:sc.names.lookup x=some .cell):∃ c,(cellsFrom n sc.names []).lookup x=some c:=by
 have q:=PySem.W.cellsFrom_some sc.names n [] (.inl h)
 exact Option.isSome_iff_exists.mp q
theorem inv_start {CX:CXT}{P:Program}{w:World}{K:PySem.W.Frag}{mg:Str->Option Value}{base:Heap}{N ps:List Str}{qual:Str}{scope:Scope}{f:Addr}{cd:Value}{A:Around}{outer:List Env}{s s1:Shared}{H:Hp}{E:XK}{us:List Value}{vs:List V}
  (S:FnScope N ps scope) (hd:A.handled=none) (e0:Env0 P w K mg base A outer s H) (hl:vs.length=ps.length) (r:Vals vs us)
  (x:InCallC s s.heap.objs.size (bindL (envOfC qual scope s.heap.objs.size f cd).kindOf (ps.zip us) fun _=>none) (cellsFrom (s.heap.objs.size+1) scope.names []) (bindC (envOfC qual scope s.heap.objs.size f cd).kindOf (ps.zip us) fun _=>none) s1) :
  Inv (cxOf CX P w K mg base N qual scope f cd A outer s H E) [] (start N vs) H s1:=by
 have hpl:ps.length≤N.length:=by have:=congrArg List.length S.pre;rw [List.length_take] at this;omega
 obtain ⟨h1,tk,rfl,hk⟩:=x.done
 have noA:∀ b:Addr,b ∉ (cxOf CX P w K mg base N qual scope f cd A outer s H E).ex:=fun b z=>absurd (show b∈([]:List Addr) from z) (by simp)
 refine ⟨⟨e0.mod,S.kind,rfl,rfl,Nat.le_refl _,fun y z c h1 h2=>?_,fun y hy=>?_,fun y c _ h=>?_,fun _=>hd,Around.frames_deeper e0.frames,.inr ⟨rfl,rfl⟩,fun b z=>absurd z (noA b),e0.bs,e0.bsz,fun b _ _=>noA b,fun b z=>absurd z (noA b),e0.funs,e0.frf⟩,
  rfl,e0.bare,Un.kept hk,⟨_,x.toInCall.ns,fun i y v h1 h2 h3=>?_⟩,fun y c h=>⟨_,x.cell y c h⟩,e0.hok.fresh (Nat.le_refl _),fun y c h=>?_,fun p hp=>absurd (show p∈([]:List (Addr × Obj)) from hp) (by simp),e0.hok.kept hk,?_⟩
 ·exact name_of_addr x.apart (PySem.mem_of_lookup h1) (PySem.mem_of_lookup h2)
 ·have hy:scope.names.lookup y=some .cell∨scope.names.lookup y=some .free:=hy
  rcases hy with hy|hy
  ·exact cell_has hy
  ·exact absurd rfl (S.nofree _ (PySem.mem_of_lookup hy))
 ·exact Nat.le_of_lt (x.above y c (PySem.mem_of_lookup h))
 ·have hi:i < vs.length:=by
   unfold start at h2
   by_cases hi:i < vs.length
   ·exact hi
   ·rw [List.getElem?_append_right (by simpa using hi)] at h2
    rw [List.getElem?_replicate] at h2
    split at h2<;>cases h2
  have ha:vs[i]? = some v:=by
   unfold start at h2
   rw [List.getElem?_append_left (by simpa using hi),List.getElem?_map] at h2
   cases e:vs[i]? with
   | none=>rw [e] at h2;cases h2
   | some a=>rw [e] at h2;cases h2;rfl
  obtain ⟨u,hu,rv⟩:=r.get ha
  have hp:ps[i]? = some y:=by
   rw [←S.pre,List.getElem?_take_of_lt (by omega)];exact h1
  have ndP:ps.Nodup:=by rw [←S.pre];exact S.nd.sublist (List.take_sublist _ _)
  refine ⟨u,rv,?_⟩
  rcases S.par y (List.mem_of_getElem? hp) with k|k
  ·exact .inl ⟨k,bindL_get ndP hp hu k⟩
  ·obtain ⟨c,e⟩:=cell_has (n:=s.heap.objs.size+1) k
   refine .inr ⟨.inl k,c,e,?_⟩
   have q:=x.cell y c e
   rw [bindC_get ndP hp hu (by show scope.names.lookup y ≠ _;rw [k];decide)] at q
   exact q
 ·exact e0.hok.fresh (Nat.le_of_lt (x.above y c (PySem.mem_of_lookup h)))
 ·unfold start
  show _=N.length
  rw [List.length_append,List.length_map,List.length_replicate]
  omega
theorem fn_of {CX:CXT}{P:Program}{w:World}{K:PySem.W.Frag}{mg:Str->Option Value}{base:Heap}{k:Nat}{f:Addr}{name qual:Str}{params:Arguments}{body:List Stmt}{scope:Scope}{dV kV doc pm cdv ct oc:Value}{an od:Option Addr}
  {osl:Array (Option Value)} {N ps:List Str} {sp:Sp} (lk:K.lookup f=some ⟨oc,od,.func (PySem.W.fnOf name qual params body scope dV kV doc pm an cdv ct),osl⟩) (hcd:PySem.W.codeIn K cdv qual=true) (S:FnScope N ps scope)
  (len:∀ vs H Q E,sp vs H Q E->vs.length=ps.length)
  (hbody:∀ (A:Around) (outer:List Env) (s:Shared) (H:Hp) (vs:List V) (Q:VK) (E:XK),Room k (A.deeper (envOfC qual scope s.heap.objs.size f cdv))->sp vs H Q E →
   ∃ t,PSs (cxOf CX P w K mg base N qual scope f cdv A outer s H E) body t∧t { nx:=fun _ H'=>Q .non H',rt:=Q } (start N vs) H) :
  FnOk P w K mg base CX (k+1) f (PySem.W.fnOf name qual params body scope dV kV doc pm an cdv ct) ps sp:=by
 refine ⟨len,fun A outer s H args us vs Q E hr e0 hb r hsp=>?_⟩
 have hl:=len _ _ _ _ hsp
 have KX:K.In s.heap:=e0.mod.kin.keeps fun b o e=>(e0.bs b o e).1
 have lim:s.heap.NoLimit:=e0.mod.nolimit.keeps fun b o e=>(e0.bs b o e).1
 have hkind:∀ y∈ps.zip us,scope.names.lookup y.1=some .local∨(scope.names.lookup y.1=some .cell∧((cellsFrom (s.heap.objs.size+1) scope.names []).lookup y.1).isSome=true):=fun ⟨n,v⟩ hy=>by
  rcases S.par n (List.of_mem_zip hy).1 with q|q
  ·exact .inl q
  ·exact .inr ⟨q,PySem.W.cellsFrom_some _ _ _ (.inl q)⟩
 refine codeAny_call_function hr.depth (KX _ _ lk) rfl S.co S.gen rfl (PySem.W.codeRec_of KX hcd) (hb _ _ _ _ ?_)
 refine wpAny_newFunctionEnv_cells S.kind hkind fun env he s1 x=>?_
 subst he
 refine ⟨lim.keeps x.toInCall.keep,codeAny_func ?_⟩
 obtain ⟨t,ht,hq⟩:=hbody A outer s H vs Q E (hr.deeper _) hsp
 have I:Inv (cxOf CX P w K mg base N qual scope f cdv A outer s H E) [] (start N vs) H s1:=inv_start S hr.hd e0 hl r x
 refine wpAny_mono (ht [] s1 (start N vs) H _ I hq) (fun fl s' hs=>?_) fun e s' hs=>hs
 have fin:∀ {σ':St} {H':Hp} {v:V} {u:Value},Inv (cxOf CX P w K mg base N qual scope f cdv A outer s H E) [] σ' H' s'->RelV v u->Q v H'->CE outer P w H s Q u s':=
  fun {σ' H' v u} J rv q=>⟨v,H',J.os,J.bare,J.base,J.hok,rv,q⟩
 cases fl with
 | ret u=>
  obtain ⟨v,σ',H',J,rv,q⟩:=hs
  exact fin J rv q
 | next=>
  obtain ⟨σ',H',J,q⟩:=hs
  exact fin (v:=V.non) (u:=Value.none) J rfl q
 | brk=>
  obtain ⟨_,_,_,q⟩:=hs
  exact False.elim q
 | cont=>
  obtain ⟨_,_,_,q⟩:=hs
  exact False.elim q
end L2
namespace L2
open PySem PySem.Spec PyProof.Rows
section
variable {X:Cx}{x:Str}{p pos:Pos}{e:Expr}{es:List Expr}{t:TA}{id T:String}{r:List V->Hp->VK->Prop}
def tCB (r:List V->Hp->VK->Prop) (t:TA):TE:=fun σ H Q=>t σ H fun vs H1=>r vs H1 Q
theorem pe_callB (hc:CallR X (.builtin id) r) (hg:Gl X x) (hm:X.mg x=none) (hv:bootBuiltins x=some (.builtin id)) (ha:PA X (e::es) t) (hn:x ≠ "__name__":=by decide) (hdb:(x == ("__debug__":Str))=false:=by decide)
  (he:starEach (e::es) X.env=(false,eval e X.env)::starEach es X.env:=by rfl) (hpl:(backTo pos (starEach es X.env)).any (·.1)=false:=by rfl):PE X (.Call (.Name x p) (e::es) [] pos) (tCB r t):=by
 intro pins s σ H Q I h
 refine wpAny_Call_Name_kw (ld_blt I hg hm hv ?_ hn hdb)
 exact PyProof.Rows.callWith_builtin1 (thn (ha pos pins s σ H _ I h) fun us s1 ⟨vs,H1,I1,r1,q1⟩=>hc pins s1 σ H1 vs us Q I1 r1 q1) he hpl
theorem pe_callTy (hc:CallR X (.type T) r) (hg:Gl X x) (hm:X.mg x=none) (hv:bootBuiltins x=some (.type T)) (ha:PA X (e::es) t) (hn:x ≠ "__name__":=by decide) (hdb:(x == ("__debug__":Str))=false:=by decide)
  (he:starEach (e::es) X.env=(false,eval e X.env)::starEach es X.env:=by rfl) (hpl:(backTo pos (starEach es X.env)).any (·.1)=false:=by rfl):PE X (.Call (.Name x p) (e::es) [] pos) (tCB r t):=by
 intro pins s σ H Q I h
 refine wpAny_Call_Name_kw (ld_blt I hg hm hv ?_ hn hdb)
 exact PyProof.Rows.callWith_type1 (thn (ha pos pins s σ H _ I h) fun us s1 ⟨vs,H1,I1,r1,q1⟩=>hc pins s1 σ H1 vs us Q I1 r1 q1) he hpl
end
end L2
namespace HT
open PySem PyProof.Rows
section
open PySem.SeqAt
open PySem.AutoSeq1 (wpAny_loadPart')
open PySem.MeetsSeq PySem.MeetsSeq2 PySem.MeetsSeq3
end
section
variable {prog:Program}{w:World}{A:Around}{E:Value->Shared->Prop}{s:Shared}
theorem cat_tup {t b:Addr}{vs ws:List Value}{Q:Value->Shared->Prop}(ht:IsTup s.heap t vs.toArray) (hb:IsTup s.heap b ws.toArray) (hv:vs ≠ [])
  (h1:ws=[]->Q (.ref t) s) (h2:ws ≠ []->Q (.ref s.heap.objs.size) { s with heap:=s.heap.push { cls:=.type "tuple",data:=.seq (vs++ws).toArray } })
  (hsz:vs.length+ws.length≤sizeLine):wpAny (model prog w) A (binaryOp .Add (.ref t) (.ref b)) Q E s:=by
 obtain ⟨⟨cls,dd,data,sl⟩,ho,hc,n,hd⟩:=id ht
 obtain ⟨⟨cls2,dd2,data2,sl2⟩,ho2,hc2,n2,hd2⟩:=id hb
 simp only at hc hd hc2 hd2
 subst hc hd hc2 hd2
 have e:vs.toArray++ws.toArray=(vs++ws).toArray:=by simp
 by_cases hw:ws=[]
 ·exact concat_meets ⟨_,ho,rfl⟩ ⟨_,ho2,rfl⟩ noFill_tuple_add seq_tuple_add PySem.F.slot_tuple_add PySem.F.entry_tuple_add (PySem.F.args_tuple_add_2 _ _)
   (tuple_addW1 t b vs.toArray ws.toArray n n2 dd dd2 sl sl2 (by simpa using hv) (by simp [hw])) ⟨ho,ho2,h1 hw⟩
 ·refine concat_meets ⟨_,ho,rfl⟩ ⟨_,ho2,rfl⟩ noFill_tuple_add seq_tuple_add PySem.F.slot_tuple_add PySem.F.entry_tuple_add (PySem.F.args_tuple_add_2 _ _)
   (tuple_addW2 t b vs.toArray ws.toArray n n2 dd dd2 sl sl2 (by simpa using hv) (by simpa using hw) (by rw [List.size_toArray,List.size_toArray];exact hsz)) ⟨ho,ho2,?_⟩
  rw [e]
  exact h2 hw
end
end HT
namespace L2
open PySem PySem.Spec PyProof.Rows
abbrev TO:=St->Hp->(Option Int->Hp->Prop)->Prop
section
variable {X:Cx}{e:Expr}{te:TE}{lo hi:Option Expr}{tl th:TO}{pos p2:Pos}
def rCatT (K:PySem.W.Frag):R2:=fun x y H Q=>∃ a b xs ys,x=.ref a∧y=.ref b∧SqT K H a xs∧SqT K H b ys∧xs ≠ []∧xs.length+ys.length≤sizeLine ∧
 (ys=[]->Q (.ref a) H)∧(ys ≠ []->∀ p,H p=none->Q (.ref p) (upd H p (.tup (xs++ys))))
theorem Vals.nil_iff {xs:List V}{us:List Value}(r:Vals xs us):us=[] ↔ xs=[]:=by
 cases r with
 | nil=>simp
 | cons _ _=>simp
theorem op_catT:OpR X (binaryOp .Add) (rCatT X.K):=by
 intro pins s σ H x y v u Q I rx ry h
 obtain ⟨a,b,xs,ys,rfl,rfl,ha,hb,hx,hz,q1,q2⟩:=h
 cases rx
 cases ry
 obtain ⟨its,r1,p1,_⟩:=I.tuple ha
 obtain ⟨its2,r2,p2,_⟩:=I.tuple hb
 refine HT.cat_tup p1 p2 (fun z=>hx (r1.nil_iff.mp z)) (fun z=>⟨.ref a,H,I,rfl,q1 (r2.nil_iff.mp z)⟩) (fun z=>?_) (by rw [←r1.length,←r2.length];exact hz)
 refine ⟨.ref s.heap.objs.size,_,I.laid (t':=s.toks) (o:=.tup (xs++ys)) (fun b ob q=>Heap.get?_push_of_some _ q) (Nat.le_refl _) ?_,rfl,q2 (fun w=>z (r2.nil_iff.mpr w)) _ (I.hok.fresh (Nat.le_refl _))⟩
 exact ⟨by rw [List.length_append];exact hz,_,r1.append r2,IsTup.new _ _⟩
end
end L2
namespace L2
open PySem PySem.Spec PyProof.Rows
def ixN (n:Nat) (i:Int):Option Nat:=if 0≤i then (if i < n then some i.toNat else none) else if -(n:Int)≤i then some (i+n).toNat else none
def atI {α:Type}(xs:List α) (i:Int):Option α:=(ixN xs.length i).bind fun j=>xs[j]?
theorem ixN_seq {n:Nat}{i:Int}{j:Nat}(h:ixN n i=some j):seqIndex? i n=some j∧j < n∧-(n:Int)≤i∧i < n:=by
 unfold ixN at h
 by_cases h0:0≤i
 ·rw [if_pos h0] at h
  by_cases h1:i < n
  ·rw [if_pos h1] at h
   have e:i.toNat=j:=Option.some.inj h
   exact ⟨by rw [seqIndex_of h0 h1,e],by omega,by omega,h1⟩
  ·rw [if_neg h1] at h;cases h
 ·rw [if_neg h0] at h
  by_cases h1:-(n:Int)≤i
  ·rw [if_pos h1] at h
   have e:(i+n).toNat=j:=Option.some.inj h
   exact ⟨by rw [seqIndex_neg (by omega) h1,e],by omega,h1,by omega⟩
  ·rw [if_neg h1] at h;cases h
theorem atI_get {α:Type}{xs:List α}{i:Int}{v:α}(h:atI xs i=some v):∃ j,seqIndex? i xs.length=some j∧xs[j]? = some v∧j < xs.length∧-(xs.length:Int)≤i∧i < xs.length:=by
 unfold atI at h
 cases e:ixN xs.length i with
 | none=>rw [e] at h;cases h
 | some j=>
  rw [e] at h
  obtain ⟨h1,h2,h3,h4⟩:=ixN_seq e
  exact ⟨j,h1,h,h2,h3,h4⟩
theorem atI_nat {α:Type}{xs:List α}{j:Nat}{v:α}(h:xs[j]? = some v):atI xs (j:Int)=some v:=by
 have hj:j < xs.length:=(List.getElem?_eq_some_iff.mp h).1
 have e:ixN xs.length (j:Int)=some j:=by
  unfold ixN
  rw [if_pos (by omega),if_pos (by omega)];simp
 unfold atI;rw [e];exact h
def PlainIx (b:Expr):Prop:=∀ o i,subscripted b false o i=operate [o,i] (getItem o i)
def IxR (X:Cx) (r:R2):Prop:=
 ∀ (value slice:Expr) (pins:List (Addr × Obj)) (s:Shared) (σ:St) (H:Hp) (x y:V) (v u:Value) (Q:VK),Inv X pins σ H s->RelV x v->RelV y u->r x y H Q →
  subscripted slice false v u=operate [v,u] (getItem v u)->wpAny (model X.prog X.w) X.A (subscriptTail value slice v u) (EP X pins σ Q) X.xe s
def MtR (X:Cx) (id:String) (r:V->List V->Hp->VK->Prop):Prop:=
 ∀ (pins:List (Addr × Obj)) (s:Shared) (σ:St) (H:Hp) (x:V) (xs:List V) (v:Value) (us:List Value) (Q:VK),Inv X pins σ H s->RelV x v->Vals xs us->r x xs H Q →
  wpAny (model X.prog X.w) X.A (call (.builtin id) (v::us)) (EP X pins σ Q) X.xe s
section
variable {X:Cx}{a b:Expr}{ta tb:TE}{pos:Pos}
theorem IxR.or {r r':R2}(h:IxR X r) (h':IxR X r'):IxR X (fun x y H Q=>r x y H Q∨r' x y H Q):=by
 intro value slice pins s σ H x y v u Q I rx ry q hs
 rcases q with q|q
 ·exact h value slice pins s σ H x y v u Q I rx ry q hs
 ·exact h' value slice pins s σ H x y v u Q I rx ry q hs
theorem pe_ix {r:R2}(hr:IxR X r) (ha:PE X a ta) (hb:PE X b tb) (hs:PlainIx b):PE X (.Subscript a b pos) (tOp r ta tb):=by
 intro pins s σ H Q I h
 exact Subscript_ (binT ha hb I h fun v u s2 x y H2 I2 rx ry q=>hr a b pins s2 σ H2 x y v u Q I2 rx ry q (hs _ _))
def rIxL (K:PySem.W.Frag):R2:=fun x y H Q=>∃ p xs i v,x=.ref p∧y=.int i∧SqL K H p xs∧atI xs i=some v∧Q v H
def rIxT (K:PySem.W.Frag):R2:=fun x y H Q=>∃ p xs i v,x=.ref p∧y=.int i∧SqT K H p xs∧atI xs i=some v∧Q v H
theorem ix_list:IxR X (rIxL X.K):=by
 intro value slice pins s σ H x y v u Q I rx ry h hs
 obtain ⟨p,xs,i,z,rfl,rfl,hq,he,q⟩:=h
 cases rx
 obtain ⟨t,rfl⟩:=ry
 obtain ⟨its,r,pl,hz⟩:=I.list hq
 obtain ⟨j,h1,h2,h3,h4,h5⟩:=atI_get he
 obtain ⟨w,ew,rw'⟩:=r.get h2
 have hl:=r.length
 have hn:=line63
 have fin:EP X pins σ Q w s:=⟨z,H,I,rw',q⟩
 by_cases h0:0≤i
 ·have hj:i.toNat=j:=by
   rw [seqIndex_of h0 h5] at h1
   exact Option.some.inj h1
  exact item_listR pl.isList h0 (by omega) (by rw [hj];simpa using ew) fin hs
 ·have hj:(i+(its.toArray.size:Int)).toNat=j:=by
   rw [seqIndex_neg (by omega) h4] at h1
   rw [List.size_toArray,←hl]
   exact Option.some.inj h1
  exact subscriptTail_builtinR (x:=w) pl.isList.typeIs slot_list_getitem.lookup
   (wpAny_getItem_list_neg (Q:=fun r s'=>r=w∧EP X pins σ Q r s') pl.isList (by omega) (by rw [List.size_toArray]<;>omega) (by omega) (by rw [hj];simpa using ew) ⟨rfl,fin⟩) hs
theorem ix_tup:IxR X (rIxT X.K):=by
 intro value slice pins s σ H x y v u Q I rx ry h hs
 obtain ⟨p,xs,i,z,rfl,rfl,hq,he,q⟩:=h
 cases rx
 obtain ⟨t,rfl⟩:=ry
 obtain ⟨its,r,pl,hz⟩:=I.tuple hq
 obtain ⟨j,h1,h2,h3,h4,h5⟩:=atI_get he
 obtain ⟨w,ew,rw'⟩:=r.get h2
 have hl:=r.length
 have hn:=line63
 have fin:EP X pins σ Q w s:=⟨z,H,I,rw',q⟩
 exact subscriptTail_builtinR (x:=w) pl.typeIs slot_tuple_getitem.lookup
  (getItem_tuple (j:=j) (Q:=fun r s'=>r=w∧EP X pins σ Q r s') pl (by omega) (by omega) (by rw [List.size_toArray,←hl];exact h1) (by simpa using ew) ⟨rfl,fin⟩) hs
theorem call_len_seq:CallR X (.builtin "len") (fun xs H Q=>∃ p ys,xs=[.ref p]∧(SqL X.K H p ys∨SqT X.K H p ys)∧Q (.int ys.length) H):=by
 intro pins s σ H xs us Q I r h
 obtain ⟨p,ys,rfl,hq,q⟩:=h
 obtain ⟨u,rfl,rx⟩:=vals1 r
 cases rx
 have hn:=line63
 rcases hq with hq|hq
 ·obtain ⟨its,r',pl,hz⟩:=I.list hq
  have hlen:=r'.length
  exact Calls.call_len_list pl.isList (by simp only [List.size_toArray]<;>omega) ⟨.int ys.length,H,I.tok _,⟨s.toks+1,by rw [List.size_toArray,hlen]⟩,q⟩
 ·obtain ⟨its,r',pl,hz⟩:=I.tuple hq
  have hlen:=r'.length
  exact len_tuple pl (by simp only [List.size_toArray]<;>omega) ⟨.int ys.length,H,I.tok _,⟨s.toks+1,by rw [List.size_toArray,hlen]⟩,q⟩
theorem call_len_str:CallR X (.builtin "len") (fun xs H Q=>∃ z,xs=[.str z]∧z.length≤sizeLine∧Q (.int z.length) H):=by
 intro pins s σ H xs us Q I r h
 obtain ⟨z,rfl,hz,q⟩:=h
 obtain ⟨u,rfl,t,rfl⟩:=vals1 r
 have hn:=line63
 exact len_str (by omega) ⟨.int z.length,H,I.tok _,⟨_,rfl⟩,q⟩
theorem CallR.or {f:Value}{r r':List V->Hp->VK->Prop}(h:CallR X f r) (h':CallR X f r'):CallR X f (fun xs H Q=>r xs H Q∨r' xs H Q):=by
 intro pins s σ H xs us Q I rs q
 rcases q with q|q
 ·exact h pins s σ H xs us Q I rs q
 ·exact h' pins s σ H xs us Q I rs q
theorem call_list_of:CallR X (.type "list") (fun xs H Q=>∃ p ys,xs=[.ref p]∧(SqL X.K H p ys∨SqT X.K H p ys)∧∀ l,H l=none->Q (.ref l) (upd H l (.lst ys))):=by
 intro pins s σ H xs us Q I r h
 obtain ⟨p,ys,rfl,hq,q⟩:=h
 obtain ⟨u,rfl,rx⟩:=vals1 r
 cases rx
 have fin:∀ (its:List Value),Vals ys its->ys.length≤sizeLine->∀ (h':Heap) (c':Nat),(∀ b o',s.heap.get? b=some o'->h'.get? b=some o') →
   h'.get? s.heap.objs.size=some { cls:=.type "list",dict:=none,data:=.seq its.toArray c',slots:=#[] }->EP X pins σ Q (.ref s.heap.objs.size) { s with heap:=h' }:=fun its r' hz h' c' kp e=>
  ⟨.ref s.heap.objs.size,_,I.laid (t':=s.toks) kp (Nat.le_refl _) (show ObjOk X.prog X.w _ h' _ (.lst ys) from ⟨hz,its,c',r',e⟩),rfl,q _ (I.hok.fresh (Nat.le_refl _))⟩
 rcases hq with hq|hq
 ·obtain ⟨its,r',pl,hz⟩:=I.list hq
  have hlen:=r'.length
  obtain ⟨o,ho,hc,n,hd⟩:=pl.isList
  exact call_list_seq p (.inl rfl) ho hc hd (fun h' c' kp e=>fin its r' hz h' c' kp e) (by simp only [List.size_toArray]<;>omega)
 ·obtain ⟨its,r',pl,hz⟩:=I.tuple hq
  have hlen:=r'.length
  obtain ⟨o,ho,hc,n,hd⟩:=pl
  exact call_list_seq p (.inr rfl) ho hc hd (fun h' c' kp e=>fin its r' hz h' c' kp e) (by simp only [List.size_toArray]<;>omega)
def tyV (K:PySem.W.Frag) (T:String) (x:V) (H:Hp):Prop:=match x with
 | .str _=>T = "str"
 | .int _=>T = "int"
 | .ref p=>(T = "list" ∧ ∃ xs,SqL K H p xs)∨(T = "tuple" ∧ ∃ o,K.lookup p=some o∧o.cls=.type "tuple" ∧ o.dict=none) ∨
   (T = "dict" ∧ ((∃ kvs,H p=some (.dK kvs))∨∃ kvs,H p=some (.dT kvs)))∨(T = "set" ∧ ∃ S n,H p=some (.set S n))
 | _=>False
theorem tyV_is {pins:List (Addr × Obj)}{σ:St}{H:Hp}{s:Shared}{T:String}{x:V}{v:Value}(I:Inv X pins σ H s) (r:RelV x v) (ty:tyV X.K T x H) :
  s.TypeIs v T∧∀ a,v=.ref a->∃ ob,s.heap.get? a=some ob∧ob.dict=none:=by
 cases x with
 | str z=>
  obtain ⟨t,rfl⟩:=r
  cases (show T = "str" from ty)
  exact ⟨typeIs_str s z t,fun _ e=>nomatch e⟩
 | int i=>
  obtain ⟨t,rfl⟩:=r
  cases (show T = "int" from ty)
  exact ⟨typeIs_int s i t,fun _ e=>nomatch e⟩
 | ref p=>
  cases r
  rcases ty with ⟨rfl,xs,hq⟩|⟨rfl,o,hk,hc,hd⟩|⟨rfl,hk⟩|⟨rfl,S,n,hk⟩
  ·obtain ⟨its,_,pl,_⟩:=I.list hq
   refine ⟨pl.isList.typeIs,fun a e=>?_⟩
   cases e
   obtain ⟨o,n,e,c,hd,_⟩:=pl
   exact ⟨o,e,hd⟩
  ·refine ⟨⟨o,I.kIn p o hk,hc⟩,fun a e=>?_⟩
   cases e
   exact ⟨o,I.kIn _ o hk,hd⟩
  ·have z:∃ o,s.heap.get? p=some o∧o.ExactDict:=by
    rcases hk with ⟨kvs,hk⟩|⟨kvs,hk⟩
    ·obtain ⟨_,_,_,_,o,_,_,e,ex,_⟩:=I.hok p _ hk
     exact ⟨o,e,ex⟩
    ·obtain ⟨_,_,_,_,o,_,_,e,ex,_⟩:=I.hok p _ hk
     exact ⟨o,e,ex⟩
   obtain ⟨o,e,ex⟩:=z
   refine ⟨⟨o,e,ex.1⟩,fun a e2=>?_⟩
   cases e2
   exact ⟨o,e,ex.2.1⟩
  ·obtain ⟨o,_,_,_,e,ex,_⟩:=I.hok p _ hk
   refine ⟨⟨o,e,ex.1⟩,fun a e2=>?_⟩
   cases e2
   exact ⟨o,e,ex.2.1⟩
 | _=>exact False.elim ty
def tBM0 (K:PySem.W.Frag) (T:String) (r:V->List V->Hp->VK->Prop) (to:TE):TE:=fun σ H Q=>to σ H fun x H1=>tyV K T x H1∧r x [] H1 Q
def tBM (K:PySem.W.Frag) (T:String) (r:V->List V->Hp->VK->Prop) (to:TE) (t:TA):TE:=fun σ H Q=>to σ H fun x H1=>tyV K T x H1∧t σ H1 fun xs H2=>r x xs H2 Q
variable {o e:Expr}{es:List Expr}{to:TE}{t:TA}{name:Str}{apos cpos:Pos}{T id:String}{r:V->List V->Hp->VK->Prop}
theorem pe_bm0 (pa:PlainAttrs T) (slot:Slot T name id) (hty:typeOf (.builtin id)=pure (.type "method_descriptor")) (hm:MtR X id r) (ho:PE X o to)
  (hbase:attributeBase o name X.env (eval o X.env)=eval o X.env:=by rfl) (hline:(apos.endLine == cpos.line)=true:=by rfl):PE X (.Call (.Attribute o name apos) [] [] cpos) (tBM0 X.K T r to):=by
 intro pins s σ H Q I h
 refine wpAny_Call_method0_late hbase hline (thn (ho pins s σ H _ I h) fun v s1 ⟨x,H1,I1,r1,ty,q1⟩=>?_)
 obtain ⟨h1,h2⟩:=tyV_is I1 r1 ty
 exact ⟨T,id,pa,slot,hty,h1,h2,Calls.callWith_builtin rfl (PySem.evalArgs_none (hm pins s1 σ H1 x [] v [] Q I1 r1 .nil q1))⟩
theorem pe_bm (pa:PlainAttrs T) (slot:Slot T name id) (hty:typeOf (.builtin id)=pure (.type "method_descriptor")) (hm:MtR X id r) (ho:PE X o to) (ha:PA X (e::es) t)
  (hbase:attributeBase o name X.env (eval o X.env)=eval o X.env:=by rfl)
  (hfew:((backTo cpos (starEach (e::es) X.env)).all (fun x=>!x.1) && (backToKw cpos (keywordEach [] X.env)).all (fun x=>x.1.isSome)
   && decide ((e::es).length+([]:List Keyword).length+(if ([]:List Keyword).isEmpty then 0 else 1) < 30))=true:=by rfl)
  (hline:(apos.endLine == cpos.line)=true:=by rfl) (hs:starEach (e::es) X.env=(false,eval e X.env)::starEach es X.env:=by rfl) (hplain:(backTo cpos (starEach es X.env)).any (·.1)=false:=by rfl) :
  PE X (.Call (.Attribute o name apos) (e::es) [] cpos) (tBM X.K T r to t):=by
 intro pins s σ H Q I h
 refine wpAny_Call_method_late hbase hfew hline rfl (thn (ho pins s σ H _ I h) fun v s1 ⟨x,H1,I1,r1,ty,q1⟩=>?_)
 obtain ⟨h1,h2⟩:=tyV_is I1 r1 ty
 refine ⟨T,id,pa,slot,hty,h1,h2,?_⟩
 have hA:=ha cpos pins s1 σ H1 _ I1 q1
 rw [hs] at hA ⊢
 refine Calls.callWith_builtin (by show (false || (backTo cpos (starEach es X.env)).any (·.1))=false;rw [hplain]<;>rfl) (Calls.evalArgs_plain ?_)
 exact thn hA fun us s2 ⟨vs,H2,I2,r2,q2⟩=>hm pins s2 σ H2 x vs v us Q I2 r1 r2 q2
/- xs.append(e),list.index on a module's tuple .. are MtR facts of 06m -/
end
end L2
namespace L2
open PySem PySem.Spec PyProof.Rows
def MtM (X:Cx) (id:String) (r:V->List V->Hp->VK->Prop):Prop:=
 ∀ (pins:List (Addr × Obj)) (s:Shared) (σ:St) (H:Hp) (x:V) (xs:List V) (v:Value) (us:List Value) (Q:VK),Inv X pins σ H s->RelV x v->Vals xs us->r x xs H Q →
  wpAny (model X.prog X.w) X.A (call (.builtin id) (v::us)) (EP X pins σ Q) X.xe s
theorem Vals.one:∀ {x:V}{us:List Value},Vals [x] us->∃ u,us=[u]∧RelV x u
 | _,_,.cons r .nil=>⟨_,rfl,r⟩
theorem Vals.zero:∀ {us:List Value},Vals [] us->us=[]
 | _,.nil=>rfl
theorem Vals.reverse {xs:List V}{us:List Value}(h:Vals xs us):Vals xs.reverse us.reverse:=by
 induction h with
 | nil=>exact .nil
 | cons r t ih=>rw [List.reverse_cons,List.reverse_cons];exact Vals.append ih (.cons r .nil)
section
variable {X:Cx}{pins:List (Addr × Obj)}{σ:St}{H:Hp}{s:Shared}{l b:Addr}{xs ys zs:List V}
theorem Inv.lset {its its':List Value}{n:Nat}{f:Array Value->Array Value}{t':Nat}(I:Inv X pins σ H s) (hH:H l=some (.lst xs))
  (e:s.heap.get? l=some { cls:=.type "list",data:=.seq its.toArray n }) (hf:f its.toArray=its'.toArray) (hv:Vals ys its') (hz:ys.length≤sizeLine) :
  Inv X pins σ (upd H l (.lst ys)) { s with heap:=s.heap.update l (Obj.mapSeq f),toks:=t' }:=by
 have q:=PySem.IsL.update e f
 rw [hf] at q
 refine I.write (x:=l) (e:=l) (by rw [hH];exact trivial) (.inl rfl) (fun b' u hb hu=>(Heap.get?_update_other s.heap (Obj.mapSeq f) (Ne.symm hb)).trans hu) ⟨_,q⟩ ?_
 exact ⟨hz,its',_,hv,q⟩
theorem Inv.lnew {its:List Value}{t':Nat}(I:Inv X pins σ H s) (hv:Vals ys its) (hz:ys.length≤sizeLine) :
  Inv X pins σ (upd H s.heap.objs.size (.lst ys)) { s with heap:=s.heap.push { cls:=.type "list",data:=.seq its.toArray },toks:=t' }:=
 I.laid (fun _ _ q=>Heap.get?_push_of_some _ q) (Nat.le_refl _) ⟨hz,its,0,hv,Heap.get?_push_size _ rfl⟩
theorem Inv.fresh (I:Inv X pins σ H s):H s.heap.objs.size=none:=I.hok.fresh (Nat.le_refl _)
theorem Inv.lstM (I:Inv X pins σ H s) (hH:H l=some (.lst xs)):xs.length≤sizeLine∧∃ (its:List Value) (n:Nat),Vals xs its∧xs.length=its.length∧s.heap.get? l=some { cls:=.type "list",data:=.seq its.toArray n }:=by
 obtain ⟨z,its,n,r,e⟩:=I.hok l _ hH
 exact ⟨z,its,n,r,r.length,e⟩
end
section
variable {X:Cx}
def rAppend:V->List V->Hp->VK->Prop:=fun x vs H Q=>∃ l xs y,x=.ref l∧vs=[y]∧H l=some (.lst xs)∧xs.length < sizeLine∧Q .non (upd H l (.lst (xs++[y])))
theorem mt_append:MtM X "list.append" rAppend:=by
 intro pins s σ H x vs v us Q I rx rv h
 obtain ⟨l,xs,y,rfl,rfl,hH,hz,q⟩:=h
 cases rx
 obtain ⟨u,rfl,ru⟩:=rv.one
 obtain ⟨z,its,n,r,hl,e⟩:=I.lstM hH
 refine call_meets F.slot_list_append ⟨_,e,rfl⟩ F.entry_list_append (F.args_list_append_2 _ _) (PySem.list_append l its.toArray n u (by rw [List.size_toArray];omega)) ⟨e,?_⟩
 refine ⟨.non,_,I.lset (its':=its++[u]) hH e (by simp) (r.append (.cons ru .nil)) ?_,rfl,q⟩
 rw [List.length_append,List.length_singleton]
 omega
def rReverse:V->List V->Hp->VK->Prop:=fun x vs H Q=>∃ l xs,x=.ref l∧vs=[]∧H l=some (.lst xs)∧Q .non (upd H l (.lst xs.reverse))
theorem mt_reverse:MtM X "list.reverse" rReverse:=by
 intro pins s σ H x vs v us Q I rx rv h
 obtain ⟨l,xs,rfl,rfl,hH,q⟩:=h
 cases rx
 have hus:=rv.zero
 subst hus
 obtain ⟨z,its,n,r,hl,e⟩:=I.lstM hH
 refine call_meets F.slot_list_reverse ⟨_,e,rfl⟩ F.entry_list_reverse (F.args_list_reverse_1 _) (AutoSeq1.list_reverse_list_0 l its.toArray n (by rw [List.size_toArray];omega)) ⟨e,?_⟩
 refine ⟨.non,_,I.lset (its':=its.reverse) hH e (by simp) r.reverse ?_,rfl,q⟩
 rw [List.length_reverse]
 omega
def rCat:R2:=fun x y H Q=>∃ l b xs zs,x=.ref l∧y=.ref b∧H l=some (.lst xs)∧H b=some (.lst zs)∧xs.length+zs.length≤sizeLine∧∀ p,H p=none->Q (.ref p) (upd H p (.lst (xs++zs)))
theorem op_cat:OpR X (binaryOp .Add) rCat:=by
 intro pins s σ H x y v u Q I rx ry h
 obtain ⟨l,b,xs,zs,rfl,rfl,hH,hB,hz,q⟩:=h
 cases rx
 cases ry
 obtain ⟨z,its,n,r,hl,e⟩:=I.lstM hH
 obtain ⟨z2,its2,n2,r2,hl2,e2⟩:=I.lstM hB
 refine PySem.P.add_list e e2 ?_ (by rw [List.size_toArray,List.size_toArray];omega)
 have ea:its.toArray++its2.toArray=(its++its2).toArray:=by simp
 rw [ea]
 exact ⟨.ref _,_,I.lnew (t':=s.toks) (r.append r2) (by rw [List.length_append];omega),rfl,q _ I.fresh⟩
end
section
variable {prog:Program}{w:World}{A:Around}{E:Value->Shared->Prop}{s:Shared}
set_option maxRecDepth 100000 in
end
section
variable {X:Cx}
end
end L2
namespace Att
open PySem PySem.W PySem.Calls PyProof.Rows
theorem ints_of_wellAll {P:Params}{h:Heap}:∀ (ns:List Int) (vs:List Value),WellAll P h vs (ns.map WData.int)->IntsAre vs ns:=by
 intro ns
 induction ns with
 | nil=>
  intro vs w
  rw [List.map_nil] at w
  cases w
  exact .nil
 | cons n ns ih=>
  intro vs w
  rw [List.map_cons] at w
  cases w with
  | cons a b=>
   cases a
   exact .cons _ _ (ih _ b)
theorem script_of {l:OpenLaw}{n:Nat}(hn:l.most=some n){P:Params}{h:Heap}{args:List WData}{vals:List Value}
  (hpre:l.row.toRowW.claim.pre args=true) (hwl:WellAll P h vals args) :
  ∃ a vs ns,vals=[Value.ref a]∧args=[WData.list (ns.map WData.int)]∧h.get? a=some { cls:=.type "list",data:=.seq vs.toArray }∧IntsAre vs ns∧ns.length≤n:=by
 have hsh:WShape.hasAll [] args [.list .int]=true:=(pre_splitW hpre).1
 have hc:l.pre.holds [] { args:=args }=true:=(pre_splitW hpre).2
 obtain ⟨d,r,rfl,h1,h2⟩:=hasAllW_cons hsh
 obtain rfl:=hasAllW_nil h2
 obtain ⟨xs,rfl,h3⟩:=hasW_list h1
 obtain ⟨ns,rfl⟩:=items_int h3
 have hlen:ns.length≤n:=by
  unfold OpenLaw.pre at hc
  have h4:(WTm.not (.lt (.lit (.int (n:Int))) (.len (.arg 0)))).holds [] { args:=[.list (ns.map .int)] }=true:=by
   have h4:=(holds_andW hc).1
   rw [hn] at h4
   exact h4
  have h5:=condW_of h4 (w_not (w_lt w_lit (w_len_list (w_arg rfl))))
  rw [List.length_map] at h5
  refine Nat.le_of_not_lt fun q=>?_
  have q':(n:Int) < ((ns.length:Nat):Int):=by omega
  first
   | (rw [decide_eq_true q'] at h5;exact absurd h5 (by decide))
   | (simp at h5;omega)
 cases hwl with
 | cons w1 w2=>
  cases w2
  cases w1 with
  | list ho hall=>exact ⟨_,_,ns,rfl,rfl,ho,ints_of_wellAll ns _ hall,hlen⟩
theorem post_true (l:OpenLaw) (args:List WData):l.row.toRowW.claim.post args (.bool true) args=true:=
 postW_of (r:=l.row.toRowW) (X:=(true == true))
  (show WShape.has [] (.bool true) .bool=true by first|rfl|decide|simp [WShape.has,WShape.arms,WShape.armsAll])
  (show (WTm.eq .res (.lit (.bool true))).value [] { args:=args,res:=some (.bool true),after:=args }=some (.bool (true == true)) from w_eq_bool (w_res rfl) w_lit) rfl
theorem attach_call {l:OpenLaw}{n:Nat}{q:Program}{loose:List Str}{XP:(Str->Option Value)->Heap->Prop}{YP:World->Heap->Prop}{d:DefRec}
  (hn:l.most=some n) (hdf:d.params.defaults=[])
  (call:∀ (w:World) (s₀ s₁:Shared) (mg mb:Str->Option Value) (fa:Addr) (o:Obj) (pm cd doc:Value) (a:Addr) (vs:List Value) (ns:List Int),
   Ground q loose [] XP w s₀ mg mb s₁.heap->YP w s₁.heap →
   s₁.heap.get? fa=some o->o.data=.func (docDef d.name d.params d.body d.scope pm cd doc)->s₁.heap.CodeRec cd d.name->mg d.name=some (.ref fa) →
   s₁.heap.get? a=some { cls:=.type "list",data:=.seq vs.toArray }->IntsAre vs ns->ns.length≤n->s₁.gens=#[] →
   codeAny (model l.prog w) callerA (.call (.ref fa) ⟨[.ref a],[]⟩) (fun r s'=>r=.ok (.ret (.bool true))∧OldK s₁.heap s'.heap∧s'.os=s₁.os∧AllBare s'.gens) s₁) :
  WalkO q loose XP YP l.row.toRowW d [] (fun f vs=>PySem.call f vs):=by
 intro w s₀ s₁ mg mb G Y fa o pm cd doc dV kV ho hd hcd hD hmg hg args vals as hpre hlay hrd hwl hlo
 obtain rfl:dV=.none:=Dflts.none hD hdf
 obtain rfl:kV=.none:=Dflts.noKw hD
 obtain ⟨a,vs,ns,rfl,rfl,hobj,hints,hlen⟩:=script_of hn hpre hwl
 refine enter_call (codeAny_mono (call w s₀ s₁ mg mb fa o pm cd doc a vs ns G Y ho (fd_plain hd) hcd hmg hobj hints hlen hg) fun r s' hq=>?_)
 obtain ⟨rfl,h2,h3,h4⟩:=hq
 exact ⟨.inl ⟨.bool true,.bool true,[],rfl,fun _=>rfl,.bool true,post_true l _,fun _=>⟨List.Pairwise.nil,fun _ hm=>(nomatch hm)⟩⟩,h2,h3,h4⟩
section
variable {prog:Program}{w:World}{A:Around}{E:Value->Shared->Prop}{s:Shared}{K:Frag}
def ledger (h:Heap) (L d:Addr):List (Addr × Obj):=(List.range h.objs.size).filterMap fun a=>if a=L∨a=d then none else (h.get? a).map fun o=>(a,o)
end
end Att
namespace L2
open PySem PySem.Spec PyProof.Rows
theorem vals_ints:∀ {vs:List Value}{ns:List Int},IntsAre vs ns->Vals (ns.map V.int) vs
 | _,_,.nil=>.nil
 | _,_,.cons n t h=>.cons ⟨t,rfl⟩ (vals_ints h)
def Only (H:Hp):Prop:=∀ b,H b=none∨∃ o xs,H b=some (.frz o (.lst xs))
theorem law_call {P:Program}{w:World}{K:PySem.W.Frag}{mg mb:Str->Option Value}{CX:CXT}{k:Nat}{fa a:Addr}{fd:FuncData}{x:Str}{sp:Sp}{s₁:Shared}{vs:List Value}{ns:List Int}
  (KX:K.In s₁.heap) (hns:s₁.heap.Ns mainGlobals mg) (hb:s₁.heap.Ns builtinsNs mb) (hbb:∀ x:Str,x ≠ "__name__" → mb x=bootBuiltins x) (hlim:s₁.heap.NoLimit) (hg:s₁.gens=#[])
  (ha:s₁.heap.get? a=some { cls:=.type "list",data:=.seq vs.toArray }) (hi:IntsAre vs ns) (hl:ns.length≤sizeLine) (hr:Room k callerA)
  (F:∀ base:Heap,K.In base->base.Ns mainGlobals mg->FnOk P w K mg base CX k fa fd [x] sp) (hbind:∀ (s:Shared) (u:Value),BindsTo s fd ⟨[u],[]⟩ [(x,u)])
  (hsp:∀ H:Hp,Only H->SqL K H a (ns.map V.int)->sp [.ref a] H (fun v _=>v=.bl true) fun _ _ _=>False)
  (hCX:∀ H e s',CX [] H s₁ (fun _ _ _=>False) e s'->False) :
  codeAny (model P w) callerA (.call (.ref fa) ⟨[.ref a],[]⟩) (fun r s'=>r=.ok (.ret (.bool true))∧OldK s₁.heap s'.heap∧s'.os=s₁.os∧AllBare s'.gens) s₁:=by
 have rv:=vals_ints hi
 have lenV:=hi.length
 have core:∀ H:Hp,Only H->SqL K H a (ns.map V.int)->HOk P w H s₁.heap->(∀ b,H b ≠ none->b=a)->(H a ≠ none->K.lookup a=none) →
   codeAny (model P w) callerA (.call (.ref fa) ⟨[.ref a],[]⟩) (fun r s'=>r=.ok (.ret (.bool true))∧OldK s₁.heap s'.heap∧s'.os=s₁.os∧AllBare s'.gens) s₁:=by
  intro H hO hS hok hA hK
  have base_of:∀ {b:Addr} {o:Obj},s₁.heap.get? b=some o->H b=none->(hidT s₁.heap H).get? b=some o:=fun e n=>hidT_get e n
  have noA:∀ {b:Addr} {o:Obj} {es:Array DictEntry} {ep:Nat},s₁.heap.get? b=some o->o.data=.dict es ep->H b=none:=fun {b o es ep} e d=>by
   cases q:H b with
   | none=>rfl
   | some u=>
    have e':b=a:=hA b (by rw [q];simp)
    subst e'
    rw [ha] at e;cases e
    have d':Data.seq vs.toArray _=Data.dict es ep:=d
    cases d'
  have nsK:∀ {b:Addr} {m:Str->Option Value},s₁.heap.Ns b m->(hidT s₁.heap H).Ns b m:=fun {b m} ⟨o,es,ep,e,d,r⟩=>⟨o,es,ep,base_of e (noA e d),d,r⟩
  have hKb:K.In (hidT s₁.heap H):=fun b o e=>base_of (KX b o e) (by
   cases q:H b with
   | none=>rfl
   | some u=>
    have e':b=a:=hA b (by rw [q];simp)
    subst e'
    rw [hK (by rw [q];simp)] at e;cases e)
  have hM:Mod K mg (hidT s₁.heap H):=⟨hKb,nsK hns,⟨mb,nsK hb,hbb⟩,let ⟨mc,h1,h2⟩:=hlim;⟨mc,nsK h1,h2⟩⟩
  have e0:Env0 P w K mg (hidT s₁.heap H) callerA [] s₁ H:=⟨rfl,hM,fun b o e=>of_hidT e,Nat.le_of_eq (hidT_size _ _),trivial,fun b hb=>absurd (show b∈([]:List Addr) from hb) (by simp),hok,.of_eq hg⟩
  refine codeAny_mono ((F _ hKb (nsK hns)).run callerA [] s₁ H ⟨[.ref a],[]⟩ [.ref a] [.ref a] _ _ hr e0 (hbind s₁ (.ref a)) (.cons rfl .nil) (hsp H hO hS)) fun r s' h=>?_
  cases r with
  | error e=>exact (hCX H e s' h).elim
  | ok fl=>
   cases fl with
   | next=>exact False.elim h
   | brk=>exact False.elim h
   | cont=>exact False.elim h
   | ret u=>
    obtain ⟨v,H',os,bare,un,hok',r',q⟩:=h
    have q':v=.bl true:=q
    subst q'
    obtain rfl:u=Value.bool true:=r'
    refine ⟨rfl,OldK.of_keep fun b o e=>?_,os,bare⟩
    cases q:H b with
    | none=>exact un.keep b o e q (by intro z;exact absurd (show b∈([]:List Addr) from z) (by simp)) (by simp)
    | some u=>
     rcases hO b with z|⟨ob,xs,z⟩
     ·rw [q] at z;cases z
     ·have z2:=un.frzs b ob _ z
      obtain ⟨e1,_⟩:=hok b _ z
      obtain ⟨e2,_⟩:=hok' b _ z2
      rw [e] at e1;cases e1
      exact e2
 cases hk:K.lookup a with
 | some o=>
  have e:=KX a o hk
  rw [ha] at e
  cases e
  refine core (fun _=>none) (fun _=>.inl rfl) (.inr ⟨_,vs.toArray,_,hk,rfl,rfl,rfl,by rw [List.size_toArray,lenV];exact hl,by simpa using rv⟩) (fun b u z=>by have z':(none:Option HO)=some u:=z;cases z') (fun b z=>absurd rfl z) fun z=>absurd rfl z
 | none=>
  refine core (fun b=>if b=a then some (.frz { cls:=.type "list",data:=.seq vs.toArray } (.lst (ns.map V.int))) else none) (fun b=>?_) (.inl (.inr ⟨{ cls:=.type "list",data:=.seq vs.toArray },if_pos rfl⟩)) (fun b u z=>?_) (fun b z=>?_) fun _=>hk
  ·by_cases hb:b=a
   ·exact .inr ⟨_,_,if_pos hb⟩
   ·exact .inl (if_neg hb)
  ·by_cases hb:b=a
   ·have z':=(if_pos hb).symm.trans z
    cases z'
    subst hb
    exact ⟨ha,by rw [List.length_map];exact hl,vs,_,rv,ha⟩
   ·have z':=(if_neg hb).symm.trans z
    cases z'
  ·by_cases hb:b=a
   ·exact hb
   ·exact absurd (if_neg hb) z
end L2
namespace L2
open PySem PySem.Spec PyProof.Rows
abbrev KOf {K:PySem.W.Frag} {h:Heap} (_:K.In h):PySem.W.Frag:=K
theorem walk_of {l:PySem.W.OpenLaw}{n k:Nat}{q:Program}{loose:List Str}{XP:(Str->Option Value)->Heap->Prop}{YP:World->Heap->Prop}{d:DefRec}{K:Params->PySem.W.Frag}{CX:World->CXT}{sp:World->Sp}{x:Str}
  (hn:l.most=some n) (hn2:n≤sizeLine) (hdf:d.params.defaults=[]) (hr:Room k callerA)
  (hY:∀ (w:World) (h:Heap),YP w h->(K w.params).In h)
  (F:∀ (w:World) (mg:Str->Option Value) (fa:Addr) (h:Heap),(K w.params).In h->h.Ns mainGlobals mg->mg d.name=some (.ref fa) →
   ∃ fd:FuncData,(∀ (s:Shared) (u:Value),BindsTo s fd ⟨[u],[]⟩ [(x,u)]) ∧
    ∀ base:Heap,(K w.params).In base->base.Ns mainGlobals mg->FnOk l.prog w (K w.params) mg base (CX w) k fa fd [x] (sp w))
  (hsp:∀ (w:World) (H:Hp) (a:Addr) (ns:List Int),ns.length≤n->Only H->SqL (K w.params) H a (ns.map V.int)->sp w [.ref a] H (fun v _=>v=.bl true) fun _ _ _=>False)
  (hCX:∀ (w:World) (H:Hp) (s:Shared) (e:Value) (s':Shared),CX w [] H s (fun _ _ _=>False) e s'->False) :
  PySem.W.WalkO q loose XP YP l.row.toRowW d [] (fun f vs=>PySem.call f vs):=by
 refine Att.attach_call hn hdf fun w s₀ s₁ mg mb fa o pm cd doc a vs ns G Y ho hd hcd hmg hobj hints hlen hg=>?_
 have KX:=hY w _ Y
 obtain ⟨fd,hb,hF⟩:=F w mg fa _ KX G.T.g hmg
 exact law_call KX G.T.g G.T.b G.T.builtins G.T.nolimit hg hobj hints (Nat.le_trans hlen hn2) hr hF hb (fun H hO hS=>hsp w H a ns hlen hO hS) fun H e s'=>hCX w H s₁ e s'
end L2
/- THE LAST THEOREM (shape;LID,My.* are yours):
   My.Adr: a structure of the addresses that your layer names (classes,functions);My.Txt K t: a structure (Prop) of the equations over K;
   My.txt_mk:{K} {implicit addresses ..} (e1:nsIn K mainGlobals "law"=some (some (.ref f))) (e2:K.lookup f=some ⟨oc,od,.func (fnOf "law" "law" params body scope dV kV doc pm an cdv ct),sl⟩) (e3:codeIn K cdv "law"=true) ..:∃ t,My.Txt K t
set_option maxRecDepth 100000 in
set_option maxHeartbeats 0 in
theorem PySem.Challenge.cw_LID_holds : PySem.Challenge.rw_LID.Holds := by
 w_on;o_law;k_head;(case hw=>w_witness2)
 k_fill
 refine L2.walk_of (l:=PySem.Challenge.rw_LID) (n:=63) (k:=40) (x := "script") (CX:=fun w=>..) (sp:=fun _=>My.sp_law) rfl (by decide) rfl ⟨rfl,by decide,by decide⟩ (fun w h Y=>PySem.W.kIn_of Y) ?F ?S ?C
 case F=>
  intro w mg fa h KX G hmg
  have T:∃ t,My.Txt (L2.KOf KX) t:=by
   dsimp only [L2.KOf]                          -- K must stand as «<heap const> w.params» for k_is
   refine' My.txt_mk ?e1 ?e2 ?e3 ..
   (case e1=>PySem.W.k_is)                    -- in the order: a name -> its address -> its object -> its parts
   (case e2=>PySem.W.k_is)
   ..
  obtain ⟨t,T⟩:=T
  have e0:=hmg.symm.trans (PySem.W.mg_of KX G T.law)
  cases e0                                       -- fa is the law's own address
  exact ⟨_,fun s u=>.of_eq rfl,fun base kb nb=>My.law_fn T kb nb⟩     -- if «.of_eq rfl» comes too early: refine' ⟨_,?b,fun base kb nb=>My.law_fn T kb nb⟩;exact fun s u=>.of_eq rfl
 case S=>exact fun w H a ns hl hO hS=>..
 case C=>exact ..
(the tactic k_is has no namespace: write k_is) -/
namespace L2
open PySem PySem.Spec PyProof.Rows
def inClass (s:Stmt) (j:Nat):Stmt:=match s with
 | .ClassDef _ _ _ body _ _ _ _ _ _ _=>body.getD j (.Pass ⟨0,0,0,0⟩)
 | _=>.Pass ⟨0,0,0,0⟩
def defArgs (s:Stmt):Arguments:=match s with
 | .FunctionDef _ a _ _ _ _ _ _ _ _=>a
 | _=>{ posonlyargs:=[],args:=[],vararg:=none,kwonlyargs:=[],kw_defaults:=[],kwarg:=none,defaults:=[] }
def defBody (s:Stmt):List Stmt:=match s with
 | .FunctionDef _ _ b _ _ _ _ _ _ _=>b
 | _=>[]
def defScope (s:Stmt):Scope:=match s with
 | .FunctionDef _ _ _ _ _ _ sc _ _ _=>sc
 | _=>{ kind:=.function,names:=[],isGenerator:=false,isCoroutine:=false }
abbrev CX0:CXT:=fun _ _ _ _ _ _=>False
abbrev E0:XK:=fun _ _ _=>False
theorem pass0 {X:Cx}:Passes CX0 X E0:=fun _ _ _ _ _ _ _ h=>h.elim
structure Fun (K:PySem.W.Frag) (x qual:Str) (st:Stmt) (f:Addr) (fd:FuncData):Prop where
 ex:∃ (oc:Value) (od:Option Addr) (kV doc pm:Value) (an:Option Addr) (cdv ct:Value) (osl:Array (Option Value)),
  fd=PySem.W.fnOf x qual (defArgs st) (defBody st) (defScope st) .none kV doc pm an cdv ct∧K.lookup f=some ⟨oc,od,.func fd,osl⟩∧PySem.W.codeIn K cdv qual=true
 kp:PySem.W.keepIn K (.ref f)=true
section
variable {P:Program}{w:World}{K:PySem.W.Frag}{mg:Str->Option Value}{base:Heap}
theorem Fun.ok {x qual:Str}{st:Stmt}{f:Addr}{fd:FuncData}{N ps:List Str}{k:Nat}{sp:Sp}(F:Fun K x qual st f fd) (S:FnScope N ps (defScope st)) (len:∀ vs H Q E,sp vs H Q E->vs.length=ps.length)
  (hbody:∀ (cdv:Value) (A:Around) (outer:List Env) (s:Shared) (H:Hp) (vs:List V) (Q:VK) (E:XK),Room k (A.deeper (envOfC qual (defScope st) s.heap.objs.size f cdv))->sp vs H Q E →
   ∃ t,PSs (cxOf CX0 P w K mg base N qual (defScope st) f cdv A outer s H E).nox (defBody st) t∧t { nx:=fun _ H'=>Q .non H',rt:=Q } (start N vs) H):FnOk P w K mg base CX0 (k+1) f fd ps sp:=by
 obtain ⟨oc,od,kV,doc,pm,an,cdv,ct,osl,rfl,lk,hcd⟩:=F.ex
 refine fn_of lk hcd S len fun A outer s H vs Q E hr hsp=>?_
 obtain ⟨t,h,q⟩:=hbody cdv A outer s H vs Q E hr hsp
 exact ⟨t,h.nox,q⟩
theorem Fun.binds {x qual:Str}{st:Stmt}{f:Addr}{fd:FuncData}{ps:List Str}(F:Fun K x qual st f fd)
  (h:∀ (kV doc pm:Value) (an:Option Addr) (cdv ct:Value) (us:List Value),us.length=ps.length->bindArgs (PySem.W.fnOf x qual (defArgs st) (defBody st) (defScope st) .none kV doc pm an cdv ct) ⟨us,[]⟩=pure (ps.zip us)):Binds K fd ps []:=by
 obtain ⟨oc,od,kV,doc,pm,an,cdv,ct,osl,rfl,lk,hcd⟩:=F.ex
 exact .all (h kV doc pm an cdv ct)
theorem fun_mk {x qual:Str}{st:Stmt}{f:Addr}{oc:Value}{od an:Option Addr}{osl:Array (Option Value)}{kV doc pm cdv ct:Value}(l:K.lookup f=some ⟨oc,od,.func (PySem.W.fnOf x qual (defArgs st) (defBody st) (defScope st) .none kV doc pm an cdv ct),osl⟩)
  (c:PySem.W.codeIn K cdv qual=true) (k:PySem.W.keepIn K (.ref f)=true):Fun K x qual st f (PySem.W.fnOf x qual (defArgs st) (defBody st) (defScope st) .none kV doc pm an cdv ct):=⟨⟨oc,od,kV,doc,pm,an,cdv,ct,osl,rfl,l,c⟩,k⟩
end
theorem small1000 {n:Nat}(h:n≤1000):n < sizeLine:=Nat.lt_of_le_of_lt h (by decide)
section
variable {X:Cx}
theorem pv (i:Nat){x:Str}{pos:Pos}(hN:X.N[i]? = some x:=by rfl) (hv:Vis X.env.scope x:=by first|exact Or.inl rfl|exact Or.inr (Or.inl rfl)|exact Or.inr (Or.inr rfl)) (hd:(x == ("__debug__":Str))=false:=by decide)
  (hcd:(x == ("__classdict__":Str))=false:=by decide):PE X (.Name x pos) (tVar i):=pe_var hN hv hd hcd
end
theorem ite2 {c A B:Prop} [Decidable c] (h1:c->A) (h2:¬ c->B):if c then A else B:=by
 by_cases h:c
 ·rw [if_pos h]
  exact h1 h
 ·rw [if_neg h]
  exact h2 h
def Same (H H':Hp):Prop:=∀ b o,H b=some o->H' b=some o
theorem Same.refl (H:Hp):Same H H:=fun _ _ h=>h
theorem Same.trans {H H1 H2:Hp}(a:Same H H1) (b:Same H1 H2):Same H H2:=fun c o h=>b c o (a c o h)
theorem Same.free {H H':Hp}(e:Same H H'){l:Addr}(h:H' l=Option.none):H l=Option.none:=by
 cases q:H l with
 | none=>rfl
 | some o=>
  rw [e l o q] at h
  cases h
theorem Same.seq {K:PySem.W.Frag}{H H':Hp}{a:Addr}{xs:List V}(e:Same H H') (h:SqL K H a xs):SqL K H' a xs:=by
 rcases h with (h|⟨o,h⟩)|h
 ·exact .inl (.inl (e _ _ h))
 ·exact .inl (.inr ⟨o,e _ _ h⟩)
 ·exact .inr h
end L2
set_option Elab.async false
set_option linter.all false
set_option maxRecDepth 100000
set_option maxHeartbeats 4000000
set_option Elab.async false
set_option linter.all false
set_option maxRecDepth 100000
namespace L2
open PySem PySem.Spec PyProof.Rows
section
variable {κ:Type} [DecidableEq κ]
def valV (kvs:List (κ × V)) (k:κ):Option V:=(kvs.find? fun kv=>decide (kv.1=k)).map (·.2)
def putK (kvs:List (κ × V)) (k:κ) (v:V):List (κ × V):=
 if (kvs.any fun kv=>decide (kv.1=k))=true then kvs.map (fun kv=>if kv.1=k then (kv.1,v) else kv) else kvs++[(k,v)]
theorem valV_pos {p:κ × V}{r:List (κ × V)}{k:κ}(e:p.1=k):valV (p::r) k=some p.2:=by simp [valV,List.find?_cons,e]
theorem valV_neg {p:κ × V}{r:List (κ × V)}{k:κ}(e:¬ p.1=k):valV (p::r) k=valV r k:=by simp [valV,List.find?_cons,e]
theorem valV_any (k:κ):∀ kvs:List (κ × V),(kvs.any fun kv=>decide (kv.1=k))=(valV kvs k).isSome
 | []=>rfl
 | p::r=>by
  rw [List.any_cons]
  by_cases e:p.1=k
  ·simp only [valV_pos e,decide_eq_true e,Bool.true_or,Option.isSome_some]
  ·rw [valV_neg e,decide_eq_false e,Bool.false_or];exact valV_any k r
theorem valV_map (k j:κ) (y:V):∀ kvs:List (κ × V),valV (kvs.map fun kv=>if kv.1=k then (kv.1,y) else kv) j=(valV kvs j).map fun x=>if j=k then y else x
 | []=>rfl
 | p::r=>by
  have ih:=valV_map k j y r
  rw [List.map_cons]
  by_cases h:p.1=k
  ·rw [if_pos h]
   by_cases e:p.1=j
   ·rw [valV_pos (p:=(p.1,y)) e,valV_pos e,Option.map_some,if_pos (e.symm.trans h)]
   ·rw [valV_neg (p:=(p.1,y)) e,valV_neg e,ih]
  ·rw [if_neg h]
   by_cases e:p.1=j
   ·rw [valV_pos (p:=p) e,valV_pos e,Option.map_some,if_neg (fun z=>h (e.trans z))]
   ·rw [valV_neg (p:=p) e,valV_neg e,ih]
theorem valV_snoc (k j:κ) (y:V):∀ kvs:List (κ × V),valV kvs k=none->valV (kvs++[(k,y)]) j=if j=k then some y else valV kvs j
 | [],_=>by
  by_cases e:k=j
  ·rw [if_pos e.symm];exact valV_pos (p:=(k,y)) e
  ·rw [if_neg (fun z=>e z.symm)];exact valV_neg (p:=(k,y)) e
 | p::r,hn=>by
  rw [List.cons_append]
  have hk:¬ p.1=k:=fun z=>by rw [valV_pos z] at hn;cases hn
  rw [valV_neg hk] at hn
  have ih:=valV_snoc k j y r hn
  by_cases e:p.1=j
  ·rw [valV_pos e,valV_pos e,if_neg (fun z=>hk (e.trans z))]
  ·rw [valV_neg e,valV_neg e,ih]
theorem valV_put (kvs:List (κ × V)) (k j:κ) (y:V):valV (putK kvs k y) j=if j=k then some y else valV kvs j:=by
 unfold putK
 by_cases a:(kvs.any fun kv=>decide (kv.1=k))=true
 ·rw [if_pos a,valV_map]
  rw [valV_any] at a
  by_cases e:j=k
  ·obtain ⟨x,hx⟩:=Option.isSome_iff_exists.mp a
   rw [if_pos e,e,hx,Option.map_some,if_pos rfl]
  ·rw [if_neg e]
   cases valV kvs j with
   | none=>rfl
   | some x=>rw [Option.map_some,if_neg e]
 ·rw [if_neg a]
  refine valV_snoc k j y kvs ?_
  rw [valV_any] at a
  cases q:valV kvs k with
  | none=>rfl
  | some x=>rw [q] at a;exact (a rfl).elim
theorem length_putK (kvs:List (κ × V)) (k:κ) (v:V):(putK kvs k v).length≤kvs.length+1:=by
 unfold putK
 split
 ·rw [List.length_map];omega
 ·rw [List.length_append,List.length_cons,List.length_nil];omega
theorem RelO.isSome_eq {o:Option V}{u:Option Value}(r:RelO o u):o.isSome=u.isSome:=by
 cases o with
 | none=>cases u with
  | none=>rfl
  | some _=>exact (show False from r).elim
 | some _=>cases u with
  | none=>exact (show False from r).elim
  | some _=>rfl
theorem RelO.getD {o:Option V}{u:Option Value}{d:V}{d':Value}(r:RelO o u) (rd:RelV d d'):RelV (o.getD d) (u.getD d'):=by
 cases o with
 | none=>cases u with
  | none=>exact rd
  | some _=>exact (show False from r).elim
 | some _=>cases u with
  | none=>exact (show False from r).elim
  | some _=>exact r
theorem KV.val {kvs:List (κ × V)}{vs:List (κ × Value)}(r:KV kvs vs) (k:κ):RelO (valV kvs k) (valueAt vs k):=by
 unfold KV at r
 induction r with
 | nil=>exact True.intro
 | @cons p q ps qs h t ih=>
  obtain ⟨h1,h2⟩:=h
  by_cases e:p.1=k
  ·have e':q.1=k:=h1.symm.trans e
   have b:valueAt (q::qs) k=some q.2:=by simp [valueAt,List.find?_cons,e']
   rw [valV_pos e,b];exact h2
  ·have e':¬ q.1=k:=fun z=>e (h1.trans z)
   have b:valueAt (q::qs) k=valueAt qs k:=by simp [valueAt,List.find?_cons,e']
   rw [valV_neg e,b];exact ih
theorem KV.any {kvs:List (κ × V)}{vs:List (κ × Value)}(r:KV kvs vs) (k:κ):(kvs.any fun kv=>decide (kv.1=k))=vs.any fun kv=>decide (kv.1=k):=by
 unfold KV at r
 induction r with
 | nil=>rfl
 | cons h t ih=>rw [List.any_cons,List.any_cons,ih,h.1]
theorem KV.repl {kvs:List (κ × V)}{vs:List (κ × Value)}(r:KV kvs vs) (k:κ){y:V}{u:Value}(ry:RelV y u) :
  KV (kvs.map fun kv=>if kv.1=k then (kv.1,y) else kv) (vs.map fun kv=>if kv.1=k then (kv.1,u) else kv):=by
 unfold KV at r ⊢
 induction r with
 | nil=>exact .nil
 | @cons p q ps qs h t ih=>
  rw [List.map_cons,List.map_cons]
  refine .cons ?_ ih
  obtain ⟨h1,h2⟩:=h
  by_cases e:p.1=k
  ·rw [if_pos e,if_pos (h1.symm.trans e)];exact ⟨h1,ry⟩
  ·rw [if_neg e,if_neg (fun z=>e (h1.trans z))];exact ⟨h1,h2⟩
theorem KV.put {kvs:List (κ × V)}{vs:List (κ × Value)}(r:KV kvs vs) (k:κ){y:V}{u:Value}(ry:RelV y u):KV (putK kvs k y) (stored vs k u):=by
 unfold putK stored
 rw [r.any k]
 by_cases e:(vs.any fun kv=>decide (kv.1=k))=true
 ·rw [if_pos e,if_pos e];exact r.repl k ry
 ·rw [if_neg e,if_neg e];exact Paired.snoc r ⟨rfl,ry⟩
theorem KV.length {kvs:List (κ × V)}{vs:List (κ × Value)}(r:KV kvs vs):kvs.length=vs.length:=Paired.length r
end
theorem kV_is {P:Program}{w:World}{k:Key}{u:Value}(r:RelV (kV k) u):(mixKind P w).is k u=true:=by
 cases k with
 | inl i=>obtain ⟨t,e⟩:=(show ∃ t,u=Value.int i t from r);subst e;exact mixKind_int P w i t
 | inr x=>obtain ⟨t,e⟩:=(show ∃ t,u=Value.str x t from r);subst e;exact mixKind_str P w x t
theorem items_are {P:Program}{w:World}:∀ {ks:List Key}{us:List Value},Vals (ks.map kV) us->ItemsAre (mixKind P w) ks us
 | [],_,r=>by rw [List.map_nil] at r;cases r;exact .nil
 | k::ks,_,r=>by
  rw [List.map_cons] at r
  cases r with
  | cons h t=>exact .cons (kV_is h) (items_are t)
abbrev KT (H:Hp):List (List Key × V)->List (List Key × Addr × Value)->Prop:=Paired fun p q=>p.1=q.1∧H q.2.1=some (.tup (p.1.map kV))∧RelV p.2 q.2.2
theorem KT.val {H:Hp}{kvs:List (List Key × V)}{xs:List (List Key × Addr × Value)}(r:KT H kvs xs) (k:List Key):RelO (valV kvs k) ((atKey xs k).map (·.2)):=by
 induction r with
 | nil=>exact True.intro
 | @cons p q ps qs h t ih=>
  obtain ⟨h1,_,h2⟩:=h
  by_cases e:p.1=k
  ·have e':q.1=k:=h1.symm.trans e
   have b:atKey (q::qs) k=some q.2:=by simp [atKey,List.find?_cons,e']
   rw [valV_pos e,b];exact h2
  ·have e':¬ q.1=k:=fun z=>e (h1.trans z)
   have b:atKey (q::qs) k=atKey qs k:=by simp [atKey,List.find?_cons,e']
   rw [valV_neg e,b];exact ih
theorem KT.repl {H:Hp}{kvs:List (List Key × V)}{xs:List (List Key × Addr × Value)}(r:KT H kvs xs) (k:List Key){y:V}{u:Value}(ry:RelV y u) :
  KT H (kvs.map fun kv=>if kv.1=k then (kv.1,y) else kv) (xs.map (putAt k u)):=by
 induction r with
 | nil=>exact .nil
 | @cons p q ps qs h t ih=>
  rw [List.map_cons,List.map_cons]
  refine .cons ?_ ih
  obtain ⟨h1,h2,h3⟩:=h
  unfold putAt
  by_cases e:p.1=k
  ·rw [if_pos e,if_pos (h1.symm.trans e)];exact ⟨h1,h2,ry⟩
  ·rw [if_neg e,if_neg (fun z=>e (h1.trans z))];exact ⟨h1,h2,h3⟩
theorem KT.put {H:Hp}{kvs:List (List Key × V)}{xs:List (List Key × Addr × Value)}(r:KT H kvs xs) (k:List Key){b:Addr}{y:V}{u:Value}(hb:H b=some (.tup (k.map kV))) (ry:RelV y u) :
  KT H (putK kvs k y) (storedH xs k b u):=by
 have e:(kvs.any fun kv=>decide (kv.1=k))=(atKey xs k).isSome:=by
  rw [valV_any,(r.val k).isSome_eq,Option.isSome_map]
 unfold putK storedH
 rw [e]
 by_cases q:(atKey xs k).isSome=true
 ·rw [if_pos q,if_pos q];exact r.repl k ry
 ·rw [if_neg q,if_neg q];exact Paired.snoc r ⟨rfl,hb,ry⟩
theorem KT.keeps {H H':Hp}{kvs:List (List Key × V)}{xs:List (List Key × Addr × Value)}(r:KT H kvs xs) (ht:∀ b ys,H b=some (.tup ys)->H' b=some (.tup ys)):KT H' kvs xs:=
 Paired.mapP r fun _ _ z=>⟨z.1,ht _ _ z.2.1,z.2.2⟩
section
variable {P:Program}{w:World}{H:Hp}{h:Heap}{a:Addr}
theorem rd_of {u:HO}(ok:HOk P w H h) (e:Rd H a u):ObjOk P w H h a u:=e.ok ok
theorem dk_rd {kvs:List (Key × V)}(ok:HOk P w H h) (e:Rd H a (.dK kvs)):kvs.length≤sizeLine∧(a == sysModules)=false∧∃ vs,KV kvs vs∧h.DictOf (mixKind P w) a vs:=
 show ObjOk P w H h a (.dK kvs) from rd_of ok e
theorem dk_of {kvs:List (Key × V)}(ok:HOk P w H h) (e:H a=some (.dK kvs)):kvs.length≤sizeLine∧(a == sysModules)=false∧∃ vs,KV kvs vs∧h.DictOf (mixKind P w) a vs:=dk_rd ok (.inl e)
theorem key_of {ks:List Key}(ok:HOk P w H h) (e:H a=some (.tup (ks.map kV))):(tupleKind (mixKind P w)).is h ks a:=by
 obtain ⟨_,its,r,o,h1,h2,n,h3⟩:=(show ObjOk P w H h a (.tup (ks.map kV)) from ok a _ e)
 exact ⟨o,its.toArray,n,h1,h2,h3,by simpa using items_are r⟩
theorem dt_rd {kvs:List (List Key × V)}(ok:HOk P w H h) (e:Rd H a (.dT kvs)):kvs.length≤sizeLine∧(a == sysModules)=false ∧
  ∃ xs,KT H kvs xs∧h.DictOfH (tupleKind (mixKind P w)) a xs:=by
 obtain ⟨z,y,xs,r,o,es,ep,h1,h2,h3,h4,h5⟩:=(show ObjOk P w H h a (.dT kvs) from rd_of ok e)
 refine ⟨z,y,xs,r,o,es,ep,h1,h2,h3,h4,fun x hx=>?_,h5⟩
 have all:∀ {l:List (List Key × V)} {m:List (List Key × Addr × Value)},KT H l m->∀ x∈m,(tupleKind (mixKind P w)).is h x.1 x.2.1:=by
  intro l m q
  induction q with
  | nil=>intro x hx;exact nomatch hx
  | @cons p q ps qs hq t ih=>
   intro x hx
   rcases List.mem_cons.mp hx with e|hx
   ·subst e
    exact key_of ok (by rw [←hq.1];exact hq.2.1)
   ·exact ih x hx
 exact all r x hx
theorem dt_of {kvs:List (List Key × V)}(ok:HOk P w H h) (e:H a=some (.dT kvs)):kvs.length≤sizeLine∧(a == sysModules)=false ∧
  ∃ xs,KT H kvs xs∧h.DictOfH (tupleKind (mixKind P w)) a xs:=dt_rd ok (.inl e)
end
def DGet (H:Hp) (a:Addr) (y:V) (r:Option V):Prop:=
 (∃ kvs k,Rd H a (.dK kvs)∧y=kV k∧r=valV kvs k)∨∃ kvs k b,Rd H a (.dT kvs)∧y=.ref b∧H b=some (.tup (k.map kV))∧r=valV kvs k
def DPut (H:Hp) (a:Addr) (y v:V) (H':Hp):Prop:=
 (∃ kvs k,H a=some (.dK kvs)∧y=kV k∧kvs.length < sizeLine∧H'=upd H a (.dK (putK kvs k v))) ∨
 ∃ kvs k b,H a=some (.dT kvs)∧y=.ref b∧H b=some (.tup (k.map kV))∧kvs.length < sizeLine∧H'=upd H a (.dT (putK kvs k v))
theorem DGet.k {H:Hp}{a:Addr}{kvs:List (Key × V)}{k:Key}(e:H a=some (.dK kvs)):DGet H a (kV k) (valV kvs k):=.inl ⟨kvs,k,.inl e,rfl,rfl⟩
theorem DPut.k {H:Hp}{a:Addr}{kvs:List (Key × V)}{k:Key}{v:V}(e:H a=some (.dK kvs)) (hl:kvs.length < sizeLine):DPut H a (kV k) v (upd H a (.dK (putK kvs k v))):=.inl ⟨kvs,k,e,rfl,hl,rfl⟩
section
variable {X:Cx}{pins:List (Addr × Obj)}{σ:St}{H:Hp}{s:Shared}{a:Addr}{y v:V}{u r:Value}{o:Option V}{A:Around}{E:Value->Shared->Prop}
theorem Inv.big (I:Inv X pins σ H s):sysModules < s.heap.objs.size:=by
 have h:mainGlobals < s.heap.objs.size:=(I.mod.glob.keeps I.bk).lt
 exact Nat.lt_trans (by decide) h
theorem d_getItem {Q:Value->Shared->Prop}(hu:A.units+1 < cLine) (I:Inv X pins σ H s) (g:DGet H a y (some v)) (ry:RelV y u) (h:∀ w' s',Inv X pins σ H s'->RelV v w'->Q w' s') :
  wpAny (model X.prog X.w) A (getItem (.ref a) u) Q E s:=by
 rcases g with ⟨kvs,k,e,ey,l⟩|⟨kvs,k,b,e,ey,eb,l⟩
 ·subst ey
  obtain ⟨z,hd,vs,rel,dd⟩:=dk_rd I.hok e
  obtain ⟨w',hw,rw'⟩:=RelO.some_of (v:=v) (o:=valueAt vs k) (by rw [l];exact rel.val k)
  exact wpAny_getItem_of (kV_is ry) dd.mapOf hw (h w' _ (I.tok _) rw')
 ·subst ey
  cases (show u=Value.ref b from ry)
  obtain ⟨z,hd,xs,rel,dd⟩:=dt_rd I.hok e
  obtain ⟨w',hw,rw'⟩:=RelO.some_of (v:=v) (o:=(atKey xs k).map (·.2)) (by rw [l];exact rel.val k)
  obtain ⟨p,hp,hp2⟩:=Option.map_eq_some_iff.mp hw
  refine wpAny_getItem_heap (tupleKind_room_in1 hu) (key_of I.hok eb) dd hp ?_
  rw [hp2]
  exact h w' _ (I.tok _) rw'
theorem d_write {h':Heap}{t':Nat}{ob:HO}(I:Inv X pins σ H s) (mu:Mut (H a)) (hs:Heap.SameBut a s.heap h') (he:∃ q,h'.get? a=some q) (new:ObjOk X.prog X.w (upd H a ob) h' a ob) :
  Inv X pins σ (upd H a ob) { s with heap:=h',toks:=t' }:=
 I.write (x:=a) (e:=a) mu (.inl rfl) (fun b q hb z=>(hs.2 b hb).trans z) he new
theorem dk_new {P:Program}{w:World}{H':Hp}{h':Heap}{kvs:List (Key × V)}{vs:List (Key × Value)}(z:kvs.length≤sizeLine) (hd:(a == sysModules)=false) (rel:KV kvs vs) (dd:h'.DictOf (mixKind P w) a vs) :
  ObjOk P w H' h' a (.dK kvs):=⟨z,hd,vs,rel,dd⟩
theorem d_setItem {H':Hp}{Q:Unit->Shared->Prop}(hu:A.units+1 < cLine) (I:Inv X pins σ H s) (g:DPut H a y v H') (ry:RelV y u) (rv:RelV v r) (h:∀ s',Inv X pins σ H' s'->Q () s') :
  wpAny (model X.prog X.w) A (setItem (.ref a) u r) Q E s:=by
 rcases g with ⟨kvs,k,e,ey,l,eH⟩|⟨kvs,k,b,e,ey,eb,l,eH⟩
 ·subst ey eH
  obtain ⟨z,hd,vs,rel,dd⟩:=dk_of I.hok e
  have hz:vs.length≤sizeLine:=by rw [←rel.length];exact z
  have hl:(putK kvs k v).length≤sizeLine:=by have:=length_putK kvs k v;omega
  refine wpAny_setItem_pairs (hsz:=hz) (kV_is ry) dd fun h' dd' hs=>h _ ?_
  have he:∃ q,h'.get? a=some q:=let ⟨q,_,_,hq,_⟩:=dd';⟨q,hq⟩
  exact d_write I (by rw [e];exact True.intro) hs he (dk_new hl hd (rel.put k rv) dd')
 ·subst ey eH
  cases (show u=Value.ref b from ry)
  obtain ⟨z,hd,xs,rel,dd⟩:=dt_of I.hok e
  have hz:xs.length≤sizeLine:=by rw [←Paired.length rel];exact z
  have hl:(putK kvs k v).length≤sizeLine:=by have:=length_putK kvs k v;omega
  refine wpAny_setItem_heap (hsz:=hz) (tupleKind_room_in1 hu) (key_of I.hok eb) dd fun h' dd' hs=>h _ ?_
  obtain ⟨q,es,ep,hq,h2,h3,h4,_,h5⟩:=dd'
  refine d_write I (by rw [e];exact True.intro) hs ⟨q,hq⟩ ⟨hl,hd,_,(rel.put k eb rv).keeps fun c ys ec=>?_,q,es,ep,hq,h2,h3,h4,h5⟩
  rw [upd_ne (ne_of ec e (fun z=>nomatch z))]
  exact ec
end
section
variable {X:Cx}{pins:List (Addr × Obj)}{σ:St}{H:Hp}{s:Shared}{a:Addr}{kvs:List (Key × V)}{k:Key}{u:Value}{A:Around}{E:Value->Shared->Prop}
end
def NoSl (i:Expr):Prop:=∀ ov iv,subscripted i false ov iv=operate [ov,iv] (getItem ov iv)
theorem subD_of {prog:Program}{w:World}{A:Around}{E:Value->Shared->Prop}{s:Shared}{env:Env}{value slice:Expr}{pos:Pos}{T id:String}{Q:Value->Shared->Prop}
  (hl:typeLookup (.type T) "__getitem__"=pure (some (.builtin id))) (hs:NoSl slice)
  (h:wpAny (model prog w) A (eval value env) (fun o s₁=>wpAny (model prog w) A (eval slice env) (fun i s₂=>s₂.TypeIs o T∧wpAny (model prog w) A (getItem o i) Q E s₂) E s₁) E s) :
  wpAny (model prog w) A (eval (.Subscript value slice pos) env) Q E s:=by
 refine Subscript_ (wpAny_mono h (fun o s₁ h₁=>wpAny_mono h₁ (fun i s₂ h₂=>?_) fun _ _ x=>x) fun _ _ x=>x)
 obtain ⟨hT,h₂⟩:=h₂
 unfold subscriptTail
 refine wpAny_bind ?_
 rw [getitemInPython_of_ne hT.not_modules]
 refine wpAny_bind (wpAny_specialOf hT hl ?_)
 have fin:wpAny (model prog w) A (subscripted slice false o i) (fun r s₃=>wpAny (model prog w) A (letTemporaryGo value o r >>= fun _=>pure r) Q E s₃) E s₂:=by
  rw [hs o i]
  exact wpAny_operating (wpAny_mono h₂ (fun r s₃ h₃=>wpAny_bind (wpAny_letTemporaryGo (wpAny_pure h₃))) fun _ _ x=>x)
 first
  | exact wpAny_pure (wpAny_bind fin)
  | exact wpAny_bind (wpAny_pure (wpAny_bind fin))
  | exact wpAny_bind fin
theorem dict_typeIs {X:Cx}{pins:List (Addr × Obj)}{σ:St}{H:Hp}{s:Shared}{a:Addr}{y:V}{o:Option V}(I:Inv X pins σ H s) (g:DGet H a y o):s.TypeIs (.ref a) "dict":=by
 rcases g with ⟨kvs,k,e,_,_⟩|⟨kvs,k,b,e,_,_,_⟩
 ·obtain ⟨_,_,vs,_,dd⟩:=dk_rd I.hok e
  exact dd.typeIs
 ·obtain ⟨_,_,xs,_,dd⟩:=dt_rd I.hok e
  exact dd.typeIs
def tDGet (td ty:TE):TE:=fun σ H Q=>td σ H fun x H1=>ty σ H1 fun y H2=>∃ a v,x=.ref a∧DGet H2 a y (some v)∧Q v H2
def sDPut (td ty tv:TE):TS:=fun D σ H=>tv σ H fun v H1=>td σ H1 fun x H2=>ty σ H2 fun y H3=>∃ a H4,x=.ref a∧DPut H3 a y v H4∧D.nx σ H4
section
variable {X:Cx}{o i e value:Expr}{pos pos' tpos:Pos}{td ty tv:TE}
theorem pe_dget (hu:X.A.units+1 < cLine) (ho:PE X o td) (hi:PE X i ty) (hs:NoSl i):PE X (.Subscript o i pos) (tDGet td ty):=by
 intro pins s σ H Q I h
 refine subD_of PySem.F.slot_dict_getitem.lookup hs (thn (ho pins s σ H _ I h) fun u s1 ⟨x,H1,I1,rx,q1⟩=>thn (hi pins s1 σ H1 _ I1 q1) fun iv s2 ⟨y,H2,I2,ry,a,v,ex,g,q2⟩=>?_)
 subst ex
 obtain rfl:u=Value.ref a:=rx
 exact ⟨dict_typeIs I2 g,d_getItem hu I2 g ry fun w' s3 I3 rw'=>⟨v,H2,I3,rw',q2⟩⟩
theorem ps_dput (hu:X.A.units+1 < cLine) (ho:PE X o td) (hi:PE X i ty) (hv:PE X value tv) (hs:swapsWith value (some (.Subscript o i pos')) pos.line X.env=pure false) :
  PS X (.Assign [.Subscript o i pos'] value pos) (sDPut td ty tv):=by
 intro pins s σ H D I h
 refine wpAny_Assign_Subscript (thn (hv pins s σ H _ I h) fun r s1 ⟨v,H1,I1,rv,q1⟩=>thn (ho pins s1 σ H1 _ I1 q1) fun u s2 ⟨x,H2,I2,rx,q2⟩=>thn (hi pins s2 σ H2 _ I2 q2) fun iv s3 ⟨y,H3,I3,ry,a,H4,ex,g,q3⟩=>?_) hs
 subst ex
 obtain rfl:u=Value.ref a:=rx
 exact d_setItem hu I3 g ry rv fun s4 I4=>⟨σ,H4,I4,q3⟩
end
theorem dk_empty {P:Program}{w:World}{H:Hp}(h:Heap) (hb:sysModules < h.objs.size):ObjOk P w H (h.push { cls:=.type "dict",data:=.dict #[] }) h.objs.size (.dK []):=
 ⟨Nat.zero_le _,beq_eq_false_iff_ne.mpr (Ne.symm (Nat.ne_of_lt hb)),[],.nil,Heap.DictOf.new h⟩
def tDNewK:TE:=fun _ H Q=>∀ p,H p=none->Q (.ref p) (upd H p (.dK []))
section
variable {X:Cx}{pos:Pos}
theorem pe_dnewK:PE X (.Dict [] [] pos) tDNewK:=fun pins s σ H Q I h=>
 wpAny_Dict_empty ⟨.ref s.heap.objs.size,_,I.laid (a:=s.heap.objs.size) (o:=.dK []) (t':=s.toks) (fun _ _ q=>Heap.get?_push_of_some _ q) (Nat.le_refl _) (dk_empty s.heap I.big),rfl,h _ (I.hok.fresh (Nat.le_refl _))⟩
end
structure M1 (X:Cx) (o:Expr) (m:Str) (apos:Pos) (e:Expr) (cpos:Pos):Prop where
 base:attributeBase o m X.env (eval o X.env)=eval o X.env
 few:((backTo cpos (starEach [e] X.env)).all (fun x=>!x.1) && (backToKw cpos (keywordEach [] X.env)).all (fun x=>x.1.isSome)
  && decide (([e]:List Expr).length+([]:List Keyword).length+(if ([]:List Keyword).isEmpty then 0 else 1) < 30))=true
 line:(apos.endLine == cpos.line)=true
 trees:backTo cpos (starEach [e] X.env)=[(false,eval e X.env)]
structure M2 (X:Cx) (o:Expr) (m:Str) (apos:Pos) (e f:Expr) (cpos:Pos):Prop where
 base:attributeBase o m X.env (eval o X.env)=eval o X.env
 few:((backTo cpos (starEach [e,f] X.env)).all (fun x=>!x.1) && (backToKw cpos (keywordEach [] X.env)).all (fun x=>x.1.isSome)
  && decide (([e,f]:List Expr).length+([]:List Keyword).length+(if ([]:List Keyword).isEmpty then 0 else 1) < 30))=true
 line:(apos.endLine == cpos.line)=true
 trees:backTo cpos (starEach [e,f] X.env)=[(false,eval e X.env),(false,eval f X.env)]
def IsD (H:Hp) (a:Addr):Prop:=(∃ kvs,Rd H a (.dK kvs))∨∃ kvs,Rd H a (.dT kvs)
theorem isD_at {X:Cx}{pins:List (Addr × Obj)}{σ:St}{H:Hp}{s:Shared}{a:Addr}(I:Inv X pins σ H s) (d:IsD H a) :
  s.TypeIs (.ref a) "dict" ∧ (∀ b,Value.ref a=.ref b->∃ ob,s.heap.get? b=some ob∧ob.dict=none)∧(a == sysModules)=false:=by
 rcases d with ⟨kvs,e⟩|⟨kvs,e⟩
 ·obtain ⟨_,hd,vs,_,dd⟩:=dk_rd I.hok e
  refine ⟨dd.typeIs,fun b q=>?_,hd⟩
  cases q
  obtain ⟨ob,_,_,h1,h2,_⟩:=dd
  exact ⟨ob,h1,h2.2.1⟩
 ·obtain ⟨_,hd,xs,_,dd⟩:=dt_rd I.hok e
  refine ⟨dd.typeIs,fun b q=>?_,hd⟩
  cases q
  obtain ⟨ob,_,_,h1,h2,_⟩:=dd
  exact ⟨ob,h1,h2.2.1⟩
section
variable {X:Cx}{pins:List (Addr × Obj)}{σ:St}{H:Hp}{s:Shared}{a:Addr}{y d:V}{u r:Value}{o:Option V}{A:Around}{E:Value->Shared->Prop}
theorem d_get2 {Q:Value->Shared->Prop}(hu:A.units+1 < cLine) (I:Inv X pins σ H s) (g:DGet H a y o) (ry:RelV y u) (rd:RelV d r) (h:∀ w' s',Inv X pins σ H s'->RelV (o.getD d) w'->Q w' s') :
  wpAny (model X.prog X.w) A (call (.builtin "dict.get") [.ref a,u,r]) Q E s:=by
 rcases g with ⟨kvs,k,e,ey,l⟩|⟨kvs,k,b,e,ey,eb,l⟩
 ·subst ey
  obtain ⟨z,hd,vs,rel,dd⟩:=dk_rd I.hok e
  refine call_meetsIn PySem.F.slot_dict_get dd.typeIs PySem.F.entry_dict_get (PySem.F.args_dict_get_3 _ _ _) (meets_dict_get_default (mixKind X.prog X.w) a (kV_is ry) hd r) ⟨_,dd.mapOf,h _ _ (I.tok _) ?_⟩
  rw [l]
  exact (rel.val k).getD rd
 ·subst ey
  cases (show u=Value.ref b from ry)
  obtain ⟨z,hd,xs,rel,dd⟩:=dt_rd I.hok e
  refine call_meetsIn PySem.F.slot_dict_get dd.typeIs PySem.F.entry_dict_get (PySem.F.args_dict_get_3 _ _ _) (meetsH_dict_get_default (tupleKind (mixKind X.prog X.w)) a b hd r) ⟨tupleKind_room_in1 hu,k,xs,key_of I.hok eb,dd,h _ _ (I.tok _) ?_⟩
  rw [l]
  exact (rel.val k).getD rd
end
def tDGet2 (td ty tx:TE):TE:=fun σ H Q=>td σ H fun x H1=>∃ a,x=.ref a∧IsD H1 a∧ty σ H1 fun y H2=>tx σ H2 fun z H3=>∃ o,DGet H3 a y o∧Q (o.getD z) H3
section
variable {X:Cx}{o e f:Expr}{apos cpos:Pos}{td ty tx:TE}
theorem pe_dget2 (hu:X.A.units+1 < cLine) (ho:PE X o td) (he:PE X e ty) (hf:PE X f tx) (m:M2 X o "get" apos e f cpos):PE X (.Call (.Attribute o "get" apos) [e,f] [] cpos) (tDGet2 td ty tx):=by
 intro pins s σ H Q I h
 refine wpAny_Call_method m.base m.few m.line PySem.F.plainAttrs_dict PySem.F.slot_dict_get PySem.F.type_dict_get (thn (ho pins s σ H _ I h) fun u s1 ⟨x,H1,I1,rx,a,ex,d,q1⟩=>?_)
 subst ex
 obtain rfl:u=Value.ref a:=rx
 obtain ⟨t1,t2,_⟩:=isD_at I1 d
 refine ⟨t1,t2,?_⟩
 rw [m.trees]
 refine Calls.callWith_builtin rfl (Calls.evalArgs_plain (Calls.spliced_cons (thn (he pins s1 σ H1 _ I1 q1) fun iv s2 ⟨y,H2,I2,ry,q2⟩=>
  Calls.spliced_cons (thn (hf pins s2 σ H2 _ I2 q2) fun fv s3 ⟨z,H3,I3,rz,ov,g,q3⟩=>Calls.spliced_nil ?_))))
 exact d_get2 hu I3 g ry rz fun w' s4 I4 rw'=>⟨_,H3,I4,rw',q3⟩
end
section
variable {X:Cx}{pins:List (Addr × Obj)}{σ:St}{H:Hp}{s:Shared}{a:Addr}{kvs:List (Key × V)}{A:Around}{E:Value->Shared->Prop}
end
section
variable {X:Cx}{pins:List (Addr × Obj)}{σ:St}{H:Hp}{s:Shared}{a:Addr}{y:V}{u:Value}{A:Around}{E:Value->Shared->Prop}
end
end L2
namespace L2
open PySem PySem.Spec PyProof.Rows
section
variable {κ:Type} [DecidableEq κ]
theorem valV_not {kvs:List (κ × V)}{k:κ}(h:valV kvs k=none):¬ k∈kvs.map (·.1):=by
 intro m
 obtain ⟨p,hp,e⟩:=List.mem_map.mp m
 have q:(kvs.any fun kv=>decide (kv.1=k))=true:=List.any_eq_true.mpr ⟨p,hp,decide_eq_true e⟩
 rw [valV_any,h] at q
 exact absurd q (by simp)
end
end L2
set_option Elab.async false
set_option linter.all false
set_option maxRecDepth 100000
set_option maxHeartbeats 4000000
namespace L2
open PySem PySem.Spec PyProof.Rows
section
variable {X:Cx}
def CDivB (_ j:Int):Prop:=j ≠ 0∧j.natAbs < 2 ^ 256
theorem log256 {j:Int}(h:j ≠ 0) (hj:j.natAbs < 2 ^ 256):j.natAbs.log2 < 9000:=by
 have h0:j.natAbs ≠ 0:=by omega
 have h1:=(Nat.log2_lt h0).mpr hj
 omega
theorem op_fdivB:OpR X (binaryOp .FloorDiv) (rI CDivB fun i j=>.int (i.fdiv j)):=opI fun _ _ _ _ _ _ _ hc q=>floordiv_int hc.1 q (.inl (PyProof.noPylong_of_log2 (log256 hc.1 hc.2)))
theorem call_isi:CallR X (.builtin "isinstance") (fun xs H Q=>∃ x n ty b,xs=[x,.ty n]∧TyOf X.K H x ty∧PySem.W.kitOne X.K ty (.type n)=some b∧Q (.bl b) H):=by
 intro pins s σ H xs us Q I r h
 obtain ⟨x,n,ty,b,rfl,hty,hk,q⟩:=h
 obtain ⟨u,w',rfl,rx,rc⟩:=vals2 r
 cases (show w'=Value.type n from rc)
 exact isinst_ok I rx hty hk (fun tk=>⟨.bl b,H,I.tok _,rfl,q⟩)
theorem kitOne_ty (K:PySem.W.Frag) (A B:String) (r:Bool)
  (h:(if (Value.type A == Value.type B)=true then some true else if PySem.W.kitMeta B=true then (fastBuiltinMro A).map (·.contains (.type B)) else none)=some r):PySem.W.kitOne K (.type A) (.type B)=some r:=h
mutual
inductive DatV (K:PySem.W.Frag) (H:Hp):V->PyData->Prop
 | non:DatV K H .non .none
 | bl (b:Bool):DatV K H (.bl b) (.bool b)
 | int (i:Int):DatV K H (.int i) (.int i)
 | str (x:Str):DatV K H (.str x) (.str x)
 | lst {a:Addr} {xs:List V} {ds:List PyData} (h:SqL K H a xs) (r:DatVs K H xs ds):DatV K H (.ref a) (.list ds)
 | tup {a:Addr} {xs:List V} {ds:List PyData} (h:SqT K H a xs) (r:DatVs K H xs ds):DatV K H (.ref a) (.tuple ds)
inductive DatVs (K:PySem.W.Frag) (H:Hp):List V->List PyData->Prop
 | nil:DatVs K H [] []
 | cons {x:V} {d:PyData} {xs:List V} {ds:List PyData} (h:DatV K H x d) (t:DatVs K H xs ds):DatVs K H (x::xs) (d::ds)
end
mutual
theorem DatV.reads {pins:List (Addr × Obj)}{σ:St}{H:Hp}{s:Shared}(I:Inv X pins σ H s):∀ {x:V}{d:PyData}{u:Value},DatV X.K H x d->RelV x u->∃ as,Reads s.heap u d as
 | _,_,_,.non,r=>by cases (show _=Value.none from r);exact ⟨_,.none⟩
 | _,_,_,.bl b,r=>by cases (show _=Value.bool b from r);exact ⟨_,.bool b⟩
 | _,_,_,.int i,r=>by obtain ⟨t,rfl⟩:=r;exact ⟨_,.int i t⟩
 | _,_,_,.str x,r=>by obtain ⟨t,rfl⟩:=r;exact ⟨_,.str x t⟩
 | _,_,_,@DatV.lst _ _ a xs ds h q,r=>by
  cases (show _=Value.ref a from r)
  obtain ⟨its,hv,hp,_⟩:=I.list h
  obtain ⟨o,n,e,c,_,d⟩:=hp
  obtain ⟨as,z⟩:=DatVs.reads I q hv
  exact ⟨_,.list e c d (by simpa using z)⟩
 | _,_,_,@DatV.tup _ _ a xs ds h q,r=>by
  cases (show _=Value.ref a from r)
  obtain ⟨its,hv,hp,_⟩:=I.tuple h
  obtain ⟨o,e,c,n,d⟩:=hp
  obtain ⟨as,z⟩:=DatVs.reads I q hv
  exact ⟨_,.tuple e c d (by simpa using z)⟩
theorem DatVs.reads {pins:List (Addr × Obj)}{σ:St}{H:Hp}{s:Shared}(I:Inv X pins σ H s):∀ {xs:List V}{ds:List PyData}{us:List Value},DatVs X.K H xs ds->Vals xs us->∃ as,ReadsAll s.heap us ds as
 | _,_,_,.nil,.nil=>⟨_,.nil⟩
 | _,_,_,.cons h t,.cons r q=>by
  obtain ⟨as,z⟩:=DatV.reads I h r
  obtain ⟨bs,y⟩:=DatVs.reads I t q
  exact ⟨_,.cons z y⟩
end
def rEqD (K:PySem.W.Frag):R2:=fun x y H Q=>∃ d e,DatV K H x d∧DatV K H y e∧SeqAt.shaped d=true∧SeqAt.shaped e=true∧Q (.bl (PyData.eqv d e)) H
def rNeD (K:PySem.W.Frag):R2:=fun x y H Q=>∃ d e,DatV K H x d∧DatV K H y e∧SeqAt.shaped d=true∧SeqAt.shaped e=true∧Q (.bl (!PyData.eqv d e)) H
theorem op_eqD (hu:X.A.units+64 < cLine):OpR X (compareOp .Eq) (rEqD X.K):=by
 intro pins s σ H x y v u Q I rx ry h
 obtain ⟨d,e,hd,he,sd,se,q⟩:=h
 obtain ⟨as,z⟩:=hd.reads I rx
 obtain ⟨bs,z'⟩:=he.reads I ry
 exact SeqAt.compareEq_shaped z z' sd se hu ⟨.bl _,H,I,rfl,q⟩
theorem op_neD (hu:X.A.units+64 < cLine):OpR X (compareOp .NotEq) (rNeD X.K):=by
 intro pins s σ H x y v u Q I rx ry h
 obtain ⟨d,e,hd,he,sd,se,q⟩:=h
 obtain ⟨as,z⟩:=hd.reads I rx
 obtain ⟨bs,z'⟩:=he.reads I ry
 exact SeqAt.compareNe_shaped z z' sd se hu ⟨.bl _,H,I,rfl,q⟩
end
theorem same_upd {H:Hp}{p:Addr}{o:HO}(h:H p=none):Same H (upd H p o):=fun b u e=>by
 rw [upd_ne (ne_of_none e h)];exact e
theorem atI_lt {α:Type}(xs:List α) (i:Int) (h0:0≤i) (h1:i < xs.length):∃ v,atI xs i=some v∧v∈xs:=by
 have hl:i.toNat < xs.length:=by omega
 refine ⟨xs[i.toNat],?_,List.getElem_mem hl⟩
 have e:((i.toNat:Nat):Int)=i:=by omega
 have:=atI_nat (xs:=xs) (j:=i.toNat) (v:=xs[i.toNat]) (List.getElem?_eq_getElem hl)
 rw [e] at this
 exact this
theorem atI_ints (ns:List Int) (i:Int) (h0:0≤i) (h1:i < ns.length):∃ z,atI (ns.map V.int) i=some (.int z)∧z∈ns:=by
 obtain ⟨v,e,m⟩:=atI_lt (ns.map V.int) i h0 (by simpa using h1)
 obtain ⟨z,hz,rfl⟩:=List.mem_map.mp m
 exact ⟨z,e,hz⟩
end L2
set_option Elab.async false
set_option linter.all false
set_option maxRecDepth 100000
set_option maxHeartbeats 4000000
namespace L2
open PySem PySem.Spec PyProof.Rows
def clOf (cells:List (Str × Addr)):List (Str × NameKind)->List (Str × Addr)->List (Str × Addr)
 | [],acc=>acc
 | (n,k)::r,acc=>if (k == .free)=true then clOf cells r ((n,(cells.lookup n).getD 0)::acc) else clOf cells r acc
theorem closure_run {env:Env}:∀ (names:List (Str × NameKind)) (acc:List (Str × Addr)),(∀ y∈names,y.2=.free->∃ c,env.cells.lookup y.1=some c) →
  (forIn names acc (fun (x:Str × NameKind) (cs:List (Str × Addr))=>match x with
   | (name,kind)=>if (kind == .free)=true then (do let a ←cellOf env name;pure (ForInStep.yield ((name,a)::cs))) else (do pure PUnit.unit;pure (ForInStep.yield cs))):Sem (List (Str × Addr)))=pure (clOf env.cells names acc)
 | [],acc,_=>rfl
 | (n,k)::r,acc,h=>by
  rw [List.forIn_cons]
  have hr:∀ y∈r,y.2=.free->∃ c,env.cells.lookup y.1=some c:=fun y hy=>h y (List.mem_cons_of_mem _ hy)
  by_cases hk:(k == .free)=true
  ·obtain ⟨c,hc⟩:=h (n,k) List.mem_cons_self (by simpa using hk)
   have hc':env.cells.lookup n=some c:=hc
   simp only [hk,if_true,clOf,hc',Option.getD_some]
   have e:cellOf env n=pure c:=by unfold cellOf;rw [hc']
   rw [e]
   exact closure_run r _ hr
  ·simp only [hk,if_false,clOf]
   exact closure_run r acc hr
theorem closureFor_eq {scope:Scope}{env:Env}(h:∀ y∈scope.names,y.2=.free->∃ c,env.cells.lookup y.1=some c):closureFor scope env=pure (clOf env.cells scope.names []):=by
 unfold closureFor
 have:=closure_run (env:=env) scope.names [] h
 first
  | exact (congrArg (fun m=>m >>= fun cs=>pure cs) this).trans (pure_bind _ _)
  | (simp only [] at this ⊢;rw [this];rfl)
theorem clOf_sub {cells:List (Str × Addr)}{x:Str}{c:Addr}:∀ {names:List (Str × NameKind)}{acc:List (Str × Addr)},(∀ y∈names,y.2=.free->∃ c,cells.lookup y.1=some c)->(clOf cells names acc).lookup x=some c->acc.lookup x=some c∨cells.lookup x=some c
 | [],acc,_,h=>.inl h
 | (n,k)::r,acc,hf,h=>by
  have hr:∀ y∈r,y.2=.free->∃ c,cells.lookup y.1=some c:=fun y hy=>hf y (List.mem_cons_of_mem _ hy)
  unfold clOf at h
  by_cases hk:(k == .free)=true
  ·rw [if_pos hk] at h
   rcases clOf_sub hr h with q|q
   ·rw [List.lookup_cons] at q
    cases hx:x == n with
    | true=>
     rw [hx] at q
     obtain ⟨d,hd⟩:=hf (n,k) List.mem_cons_self (by simpa using hk)
     have e:x=n:=by simpa using hx
     subst e
     have hd':cells.lookup x=some d:=hd
     rw [hd'] at q ⊢
     exact .inr (by simpa using q)
    | false=>rw [hx] at q;exact .inl q
   ·exact .inr q
  ·rw [if_neg hk] at h
   exact clOf_sub hr h
theorem clOf_acc {cells:List (Str × Addr)}{x:Str}:∀ {names:List (Str × NameKind)}{acc:List (Str × Addr)},(∀ y∈names,y.2=.free->∃ c,cells.lookup y.1=some c)->(∃ c,acc.lookup x=some c)->∃ c,(clOf cells names acc).lookup x=some c
 | [],acc,_,h=>h
 | (n,k)::r,acc,hf,h=>by
  have hr:∀ y∈r,y.2=.free->∃ c,cells.lookup y.1=some c:=fun y hy=>hf y (List.mem_cons_of_mem _ hy)
  unfold clOf
  by_cases hk:(k == .free)=true
  ·rw [if_pos hk]
   refine clOf_acc hr ?_
   rw [List.lookup_cons]
   cases hx:x == n with
   | true=>exact ⟨_,rfl⟩
   | false=>exact h
  ·rw [if_neg hk]
   exact clOf_acc hr h
theorem clOf_has {cells:List (Str × Addr)}{x:Str}:∀ {names:List (Str × NameKind)}{acc:List (Str × Addr)},(∀ y∈names,y.2=.free->∃ c,cells.lookup y.1=some c)->names.lookup x=some .free->∃ c,(clOf cells names acc).lookup x=some c
 | [],acc,_,h=>by simp at h
 | (n,k)::r,acc,hf,h=>by
  have hr:∀ y∈r,y.2=.free->∃ c,cells.lookup y.1=some c:=fun y hy=>hf y (List.mem_cons_of_mem _ hy)
  rw [List.lookup_cons] at h
  unfold clOf
  cases hx:x == n with
  | true=>
   rw [hx] at h
   have hk:k=.free:=by simpa using h
   subst hk
   rw [if_pos (show (NameKind.free == NameKind.free)=true from rfl)]
   refine clOf_acc hr ⟨(cells.lookup n).getD 0,?_⟩
   rw [List.lookup_cons,hx]
  | false=>
   rw [hx] at h
   by_cases hk:(k == .free)=true
   ·rw [if_pos hk];exact clOf_has hr h
   ·rw [if_neg hk];exact clOf_has hr h
theorem lookup_mem {x:Str}{k:NameKind}:∀ {names:List (Str × NameKind)},names.lookup x=some k->(x,k)∈names
 | [],h=>by simp at h
 | (n,j)::r,h=>by
  rw [List.lookup_cons] at h
  cases hx:x == n with
  | true=>
   rw [hx] at h
   have e:x=n:=by simpa using hx
   have e2:j=k:=by simpa using h
   subst e;subst e2
   exact List.mem_cons_self
  | false=>rw [hx] at h;exact List.mem_cons_of_mem _ (lookup_mem h)
theorem lookup_relabel {env:Env}{x:Str}:∀ {names:List (Str × NameKind)},
  (names.map fun (n,k)=>if (k == NameKind.free && env.scope.kind == .function && env.kindOf n == some .cell) then (n,NameKind.cell) else (n,k)).lookup x
   = (names.lookup x).map fun k=>if (k == NameKind.free && env.scope.kind == .function && env.kindOf x == some .cell) then NameKind.cell else k
 | []=>rfl
 | (n,k)::r=>by
  have ih:=@lookup_relabel env x r
  show List.lookup x ((if (k == NameKind.free && env.scope.kind == .function && env.kindOf n == some .cell)=true then (n,NameKind.cell) else (n,k))::_)=_
  cases hx:x == n with
  | true=>
   have e:x=n:=by simpa using hx
   subst e
   by_cases hc:(k == NameKind.free && env.scope.kind == .function && env.kindOf x == some .cell)=true
   ·rw [if_pos hc]
    simp only [List.lookup_cons,beq_self_eq_true,Option.map_some]
    rw [if_pos hc]
   ·rw [if_neg hc]
    simp only [List.lookup_cons,beq_self_eq_true,Option.map_some]
    rw [if_neg hc]
  | false=>
   by_cases hc:(k == NameKind.free && env.scope.kind == .function && env.kindOf n == some .cell)=true
   ·rw [if_pos hc];simp only [List.lookup_cons,hx];exact ih
   ·rw [if_neg hc];simp only [List.lookup_cons,hx];exact ih
abbrev cCx (X:Cx) (scope:Scope) (N':List Str) (C:Addr) (s₀:Shared) (H₀:Hp) (ex:List Addr) (pn:List (Addr × Obj)):Cx:=
 { X with N:=N',s₀:=s₀,H₀:=H₀,env:=compEnvC scope (clOf X.env.cells scope.names []) C X.env,outer:=X.stack,stack:=X.stack,ex:=ex,fn:=fun _=>false,pn:=pn,xe:=fun _ _=>False }
def PTs (Y:Cx) (ifs:List Expr) (t:TT):Prop:=
 ∀ (pins:List (Addr × Obj)) (s:Shared) (σ:St) (H:Hp) (Q:Bool->Hp->Prop),Inv Y pins σ H s->t σ H Q →
  wpAny (model Y.prog Y.w) Y.A (forIn ifs true fun c r=>if r=true then do let ok ←isTrue c Y.env (eval c Y.env);pure (ForInStep.yield ok) else pure (ForInStep.yield r)) (TP Y pins σ Q) Y.xe s
def tYes:TT:=fun _ H Q=>Q true H
theorem pts_nil {Y:Cx}:PTs Y [] tYes:=fun _ _ _ H _ I h=>wpAny_pure ⟨H,I,h⟩
theorem pts_one {Y:Cx}{c:Expr}{t:TT}(h:PT Y c t):PTs Y [c] t:=fun pins s σ H Q I hw=>PySem.wpAny_tests_one (h pins s σ H Q I hw)
theorem HOk.but {P:Program}{w:World}{H:Hp}{h h':Heap}{C:Addr}(ok:HOk P w H h) (hn:H C=none) (hs:Heap.SameBut C h h'):HOk P w H h':=fun b ob e=>by
 refine (ok b ob e).stay (fun c w' hc q=>(hs.2 c ?_).trans q) (fun _ q=>q) (fun _ _ q=>q) fun _ _ q=>q
 rintro rfl
 rcases hc with rfl|hc
 ·rw [hn] at e;cases e
 ·rw [hn] at hc;cases hc
theorem Un.but {fs ex:List Addr}{H H':Hp}{h h1 h2:Heap}{C:Addr}(u:Un fs ex H H' h h1) (hs:Heap.SameBut C h1 h2) (hC:∀ b o,h.get? b=some o->b ≠ C):Un fs ex H H' h h2 where
 keep:=fun b o e n hb hx=>(hs.2 b (hC b o e)).trans (u.keep b o e n hb hx)
 slot:=fun b o e n hb hx=>by
  obtain ⟨sl,q⟩:=u.slot b o e n hb hx
  exact ⟨sl,(hs.2 b (hC b o e)).trans q⟩
 free:=u.free
 there:=fun b o e hx=>by
  obtain ⟨o',q⟩:=u.there b o e hx
  exact ⟨o',(hs.2 b (hC b o e)).trans q⟩
 tups:=u.tups
 frzs:=u.frzs
 tbls:=u.tbls
section
variable {X:Cx}
def tComp (k:Nat) (wi:TI) (g:TG) (tt:TT) (te:TE):TE:=fun σ H Q=>wi σ H fun J H1=>∀ D,H1 D=none->∃ W:Nat->Nat->List V->Hp->Prop,(∃ m,W 0 m [] (upd H1 D (.lst [])))∧∀ i m ys H,W i m ys H →
 (J.stop i H∧Q (.ref D) H)∨(J.go i H∧∃ N:List V->Hp->Prop,(∀ ys' H',N ys' H'->∃ m',m' < m∧W (i+1) m' ys' H') ∧
  ∀ x H',J.yld i H x H'->g x (List.replicate k none++σ) H' fun σ2 H2=>(∃ vs:St,vs.length=k∧σ2=vs++σ)∧tt σ2 H2 fun b H3=>if b=true then te σ2 H3 fun y H4=>H4 D=some (.lst ys)∧ys.length < sizeLine∧N (ys++[y]) (upd H4 D (.lst (ys++[y]))) else N ys H3)
theorem comp_loop {Y:Cx}{tg elt iter:Expr}{ifs:List Expr}{scope:Scope}{pos:Pos}{it D:Addr}{g:TG}{tt:TT}{te:TE}{J:It}{fp:List Addr}{tn:Nat->Heap->Prop}{k:Nat}{σ:St}{Q:VK}
  (hc:Y.calm=true) (hx:Y.xe=fun _ _=>False) (hg:PG Y tg g) (ht:PTs Y ifs tt) (he:PE Y elt te) (T:Turn Y.prog Y.w Y.K tg J fp it tn) (hf:∀ H:Hp,(∀ b∈fp,H b=none)->∀ b∈fp,FpOk Y [] H b)
  (W:Nat->Nat->List V->Hp->Prop)
  (turn:∀ i m ys H,W i m ys H->(J.stop i H∧Q (.ref D) H)∨(J.go i H∧∃ N:List V->Hp->Prop,(∀ ys' H',N ys' H'->∃ m',m' < m∧W (i+1) m' ys' H') ∧
   ∀ x H',J.yld i H x H'->g x (List.replicate k none++σ) H' fun σ2 H2=>(∃ vs:St,vs.length=k∧σ2=vs++σ)∧tt σ2 H2 fun b H3=>if b=true then te σ2 H3 fun y H4=>H4 D=some (.lst ys)∧ys.length < sizeLine∧N (ys++[y]) (upd H4 D (.lst (ys++[y]))) else N ys H3))
  (n:Nat) (s:Shared) (h:∃ i ys H,Inv Y [] (List.replicate k none++σ) H s∧tn i s.heap∧(∀ b∈fp,H b=none)∧W i n ys H) :
  codeAny (model Y.prog Y.w) Y.A (.compLoop (.ListComp elt [⟨tg,iter,ifs,0⟩] scope pos) 0 (.ref it) (.ref D) Y.env) (fun r s'=>r=.ok .next∧∃ H',Inv Y [] (List.replicate k none++σ) H' s'∧Q (.ref D) H') s:=by
 refine codeAny_loop rfl (fun n s=>∃ i ys H,Inv Y [] (List.replicate k none++σ) H s∧tn i s.heap∧(∀ b∈fp,H b=none)∧W i n ys H) ?_ n h
 rintro n s3 ⟨i,ys,H3,I3,st3,fr3,w3⟩
 show wpAny _ Y.A ((compTurn (.ListComp elt [⟨tg,iter,ifs,0⟩] scope pos) 0 (.ref it) (.ref D) Y.env).onRaise (fun x=>do noteFrame x Y.env;theTreesLotGoes x)) _ _ s3
 refine PySem.wpAny_noted ?_
 rw [PySem.compTurn_list]
 have no:∀ {α:Type} {m:Sem α} {P:α->Shared->Prop} {E:Value->Shared->Prop} {s:Shared},wpAny (model Y.prog Y.w) Y.A m P Y.xe s->wpAny (model Y.prog Y.w) Y.A m P E s:=fun {α m P E s} h=>
  wpAny_mono h (fun _ _ q=>q) fun _ _ q=>by rw [hx] at q;exact q.elim
 refine wpAny_bind (wpAny_standAt (wpAny_bind ?_))
 rcases turn i n ys H3 w3 with ⟨stop,qn⟩|⟨go,N,hN,step⟩
 ·refine thn (T.done Y rfl rfl rfl hc i [] s3 (List.replicate k none++σ) H3 _ I3 (hf H3 fr3) st3 stop) fun r s4 ⟨hr,I4⟩=>?_
  subst hr
  exact wpAny_pure ⟨rfl,H3,I4,qn⟩
 ·refine thn (T.item Y rfl rfl rfl hc i [] s3 (List.replicate k none++σ) H3 _ I3 (hf H3 fr3) st3 go) fun r s4 ⟨u,hr,h4⟩=>?_
  subst hr
  refine wpAny_bind (thn h4 fun _ s5 ⟨x,H5,I5,r5,y5,st5,fr5⟩=>?_)
  have I5':=I5.pinned (hf H5 fr5) (T.obj _ _ st5)
  refine wpAny_bind (no (thn (hg _ s5 (List.replicate k none++σ) H5 x u _ I5' r5 (step x H5 y5)) fun _ s6 ⟨σ6,H6,I6,⟨vs,hvs,e6⟩,q6⟩=>?_))
  subst e6
  have forget:∀ {pins:List (Addr × Obj)} {H:Hp} {s:Shared},Inv Y pins (vs++σ) H s->Inv Y pins (List.replicate k none++σ) H s:=fun {pins H s} I=>I.weak (by simp [hvs]) fun i v e=>by
   by_cases hi:i < k
   ·rw [List.getElem?_append_left (by simpa using hi)] at e
    simp [List.getElem?_replicate,hi] at e
   ·rw [List.getElem?_append_right (by simpa using Nat.le_of_not_lt hi)] at e
    rw [List.getElem?_append_right (by omega)]
    simpa [hvs] using e
  refine wpAny_bind (no (thn (ht _ s6 (vs++σ) H6 _ I6 q6) fun b s7 ⟨H7,I7,q7⟩=>?_))
  have again:∀ {H8:Hp} {s8:Shared} {ys':List V},Inv Y ([]++pinsAt fp s5.heap) (vs++σ) H8 s8->N ys' H8->∃ m,m < n∧∃ i ys H,Inv Y [] (List.replicate k none++σ) H s8∧tn i s8.heap∧(∀ b∈fp,H b=none)∧W i m ys H:=fun {H8 s8 ys'} I8 n8=>by
   obtain ⟨m',hm,w8⟩:=hN ys' H8 n8
   refine ⟨m',hm,i+1,ys',H8,forget I8.unpinned,T.keep _ _ _ st5 fun b hb o e=>(I8.pin (b,o) (List.mem_append_right _ (List.mem_append_right _ (mem_pinsAt hb e)))).1,fun b hb=>?_,w8⟩
   obtain ⟨o,e,d⟩:=T.obj _ _ st5 b hb
   exact (I8.pin (b,o) (List.mem_append_right _ (List.mem_append_right _ (mem_pinsAt hb e)))).2.1
  cases b with
  | false=>
   rw [if_neg Bool.false_ne_true] at q7
   exact wpAny_pure ⟨rfl,again I7 q7⟩
  | true=>
   rw [if_pos rfl] at q7
   refine wpAny_bind (wpAny_bind (no (thn (he _ s7 (vs++σ) H7 _ I7 q7) fun y s8 ⟨y',H8,I8,ry,q8,l8,n8⟩=>?_)))
   exact wpAny_bind (no (thn (mt_append _ s8 (vs++σ) H8 (.ref D) [y'] (.ref D) [y] (fun _ H'=>N (ys++[y']) H') I8 rfl (.cons ry .nil) ⟨D,ys,y',rfl,rfl,q8,l8,n8⟩) fun _ s9 ⟨_,H9,I9,_,q9⟩=>wpAny_pure (wpAny_pure ⟨rfl,again I9 q9⟩)))
structure CompOk (X:Cx) (scope:Scope) (N':List Str) (k:Nat):Prop where
 cell:∀ y∈scope.names,y.2 ≠ .cell
 kind:scope.kind=.function
 names:∀ y∈scope.names,y.2=.local->scope.names.lookup y.1=some .local
 free:∀ y∈scope.names,y.2=.free->X.env.scope.names.lookup y.1=some .cell
 len:N'.length=k+X.N.length
 sub:∀ i x,N'[k+i]? = some x->scope.names.lookup x=some .free->X.N[i]? = some x
 loc:∀ i x,N'[k+i]? = some x->scope.names.lookup x ≠ some .local
theorem CompOk.cells {scope:Scope}{N':List Str}{k:Nat}{pins:List (Addr × Obj)}{σ:St}{H:Hp}{s:Shared}(c:CompOk X scope N' k) (I:Inv X pins σ H s):∀ y∈scope.names,y.2=.free->∃ a,X.env.cells.lookup y.1=some a:=fun y hy e=>
 I.ok.has y.1 (.inl (c.free y hy e))
theorem inv_comp {scope:Scope}{N':List Str}{k:Nat}{pins:List (Addr × Obj)}{σ:St}{H:Hp}{s s₄:Shared}{fp:List Addr}{m:Str->Option Value}(c:CompOk X scope N' k) (hc:X.calm=true) (I:Inv X pins σ H s)
  (hf:∀ b∈fp,FpOk X pins H b) (hfl:∀ b∈fp,b < s.heap.objs.size) (hb:∀ b∈fp,X.base.get? b=none) (hns:s₄.heap.Ns s.heap.objs.size m) (hk:∀ b o,s.heap.get? b=some o->s₄.heap.get? b=some o) (ho:s₄.os=s.os) (hg:s₄.gens=s.gens) :
  Inv (cCx X scope N' s.heap.objs.size s H fp (X.pn++pins)) [] (List.replicate k none++σ) H s₄:=by
 have hcl:=c.cells I
 have sub:∀ x a,(clOf X.env.cells scope.names []).lookup x=some a->X.env.cells.lookup x=some a:=fun x a e=>by
  rcases clOf_sub hcl e with q|q
  ·simp at q
  ·exact q
 have kinds:∀ x,(compEnvC scope (clOf X.env.cells scope.names []) s.heap.objs.size X.env).kindOf x=some .cell∨(compEnvC scope (clOf X.env.cells scope.names []) s.heap.objs.size X.env).kindOf x=some .free->scope.names.lookup x=some .free:=fun x hx=>by
  have e:(compEnvC scope (clOf X.env.cells scope.names []) s.heap.objs.size X.env).kindOf x=(scope.names.lookup x).map fun k=>if (k == NameKind.free && X.env.scope.kind == .function && X.env.kindOf x == some .cell) then NameKind.cell else k:=lookup_relabel
  rw [e] at hx
  cases q:scope.names.lookup x with
  | none=>rw [q] at hx;simp at hx
  | some j=>
   rw [q] at hx
   have hj:j ≠ .cell:=c.cell (x,j) (lookup_mem q)
   cases j<;>simp_all
 have fresh:∀ b,s.heap.objs.size≤b->s.heap.get? b=none:=fun b hb=>Heap.get?_none_of_le hb
 have ne:∀ b o,s.heap.get? b=some o->b ≠ s.heap.objs.size:=fun b o e=>Nat.ne_of_lt (Heap.lt_size e)
 have cl_lt:∀ x a,X.env.cells.lookup x=some a->a < s.heap.objs.size:=fun x a e=>by
  obtain ⟨v,o,h1,_⟩:=I.cell x a e
  exact Heap.lt_size h1
 refine ⟨⟨I.ok.mod,c.kind,I.ok.glob,I.ok.blt,Nat.le_refl _,fun x y a e1 e2=>I.ok.inj x y a (sub x a e1) (sub y a e2),fun x hx=>clOf_has hcl (kinds x hx),(fun _ _ z=>nomatch z),I.ok.hd,I.ok.frames,.inl rfl,fun b hb'=>⟨Nat.ne_of_lt (hfl b hb'),fun x a e=>(hf b hb').2.2.2.2.1 x a (sub x a e)⟩,
   I.bs,Nat.le_trans I.ok.bsz I.sz,(fun b o e hb'=>by rw [hb b hb'] at e;cases e),fun b hb' hz=>?_,I.stack,I.stkFree⟩,ho,by rw [hg];exact I.bare,Un.kept hk,⟨m,hns,fun i x v e1 e2 e3=>?_⟩,fun x a e=>?_,I.hok.fresh (Nat.le_refl _),fun x a e=>I.freeC x a (sub x a e),fun p hp=>?_,I.hok.kept hk,?_⟩
 ·rcases List.mem_cons.mp (I.stkSub b hz) with z|z
  ·exact (hf b hb').2.1 z
  ·exact (hf b hb').2.2.1 z
 ·have hi:k≤i:=by
   refine Nat.le_of_not_lt fun hi=>?_
   rw [List.getElem?_append_left (by simpa using hi)] at e2
   simp [List.getElem?_replicate,hi] at e2
  obtain ⟨j,rfl⟩:∃ j,i=k+j:=⟨i - k,by omega⟩
  rw [List.getElem?_append_right (by simp)] at e2
  have e2':σ[j]? = some (some v):=by simpa using e2
  have e:(relabel scope X.env).names.lookup x=(scope.names.lookup x).map fun k=>if (k == NameKind.free && X.env.scope.kind == .function && X.env.kindOf x == some .cell) then NameKind.cell else k:=lookup_relabel
  have hfree:scope.names.lookup x=some .free:=by
   cases q:scope.names.lookup x with
   | none=>
    rcases e3 with z|z|z
    all_goals (have z':(relabel scope X.env).names.lookup x=some _:=z;rw [e,q] at z';simp at z')
   | some j'=>
    have h1:j' ≠ .cell:=c.cell (x,j') (lookup_mem q)
    have h2:j' ≠ .local:=fun z=>c.loc j x e1 (by rw [q,z])
    rcases e3 with z|z|z
    all_goals (have z':(relabel scope X.env).names.lookup x=some _:=z;rw [e,q] at z';cases j'<;>simp_all)
  have hX:=c.sub j x e1 hfree
  have hcellX:=c.free (x,.free) (lookup_mem hfree) rfl
  obtain ⟨m0,hn0,hl0⟩:=I.loc
  obtain ⟨u,r,l⟩:=hl0 j x v hX e2' (.inr (.inl hcellX))
  refine ⟨u,r,?_⟩
  rcases l with ⟨z,_⟩|⟨_,a,ea,hz⟩
  ·have z':X.env.scope.names.lookup x=some .local:=z
   rw [hcellX] at z';cases z'
  ·obtain ⟨a',ea'⟩:=clOf_has (acc:=[]) hcl hfree
   have e4:=sub x a' ea'
   rw [ea] at e4
   cases e4
   refine .inr ⟨.inl ?_,a,ea',?_⟩
   ·show (relabel scope X.env).names.lookup x=some .cell
    rw [e,hfree]
    have k1:(X.env.scope.kind == .function)=true:=by rw [I.ok.kind];rfl
    have k2:(X.env.kindOf x == some .cell)=true:=by
     have:X.env.kindOf x=some .cell:=hcellX
     rw [this];rfl
    simp [k1,k2]
   ·obtain ⟨o,h1,h2⟩:=hz
    exact ⟨o,hk _ _ h1,h2⟩
 ·obtain ⟨v,o,h1,h2⟩:=I.cell x a (sub x a e)
  exact ⟨v,o,hk _ _ h1,h2⟩
 ·have hp':p∈X.pn++pins:=by simpa using hp
  obtain ⟨e,n,nl,nf,d⟩:=I.pin p hp'
  refine ⟨hk _ _ e,n,ne _ _ e,fun z=>?_,d⟩
  rcases List.mem_cons.mp (I.stkSub _ z) with z|z
  ·exact nl z
  ·exact nf z
 ·show (List.replicate k none++σ).length=N'.length
  rw [c.len,List.length_append,List.length_replicate,I.len]
theorem comp_block {elt iter tg:Expr}{ifs:List Expr}{scope:Scope}{pos:Pos}{g:TG}{tt:TT}{te:TE}{N':List Str}{k:Nat}{it:Addr}{J:It}{fp:List Addr}{tn:Nat->Heap->Prop}{pins:List (Addr × Obj)}{σ:St}{H:Hp}{s:Shared}{Q:VK}{RR:Value->Addr->Result->Shared->Prop}{E:Value->Shared->Prop}
  (c:CompOk X scope N' k) (hc:X.calm=true) (I:Inv X pins σ H s) (T:Turn X.prog X.w X.K tg J fp it tn) (st:tn 0 s.heap) (hf:∀ b∈fp,FpOk X pins H b)
  (hg:∀ C s₀ H₀ ex pn,PG (cCx X scope N' C s₀ H₀ ex pn) tg g) (ht:∀ C s₀ H₀ ex pn,PTs (cCx X scope N' C s₀ H₀ ex pn) ifs tt) (he:∀ C s₀ H₀ ex pn,PE (cCx X scope N' C s₀ H₀ ex pn) elt te)
  (h:∀ D,H D=none->∃ W:Nat->Nat->List V->Hp->Prop,(∃ m,W 0 m [] (upd H D (.lst [])))∧∀ i m ys H,W i m ys H →
   (J.stop i H∧Q (.ref D) H)∨(J.go i H∧∃ N:List V->Hp->Prop,(∀ ys' H',N ys' H'->∃ m',m' < m∧W (i+1) m' ys' H') ∧
    ∀ x H',J.yld i H x H'->g x (List.replicate k none++σ) H' fun σ2 H2=>(∃ vs:St,vs.length=k∧σ2=vs++σ)∧tt σ2 H2 fun b H3=>if b=true then te σ2 H3 fun y H4=>H4 D=some (.lst ys)∧ys.length < sizeLine∧N (ys++[y]) (upd H4 D (.lst (ys++[y]))) else N ys H3))
  (fin:∀ D C s' H' m,s'.heap.Ns C m->C ≠ X.env.locals->(∀ x a,X.env.cells.lookup x=some a->a ≠ C)->(H' C=none∧X.s₀.heap.objs.size≤C∧∀ p∈X.pn++pins,p.1 ≠ C)->(∀ h',Heap.SameBut C s'.heap h'->Inv X pins σ H' { s' with heap:=h' })->Q (.ref D) H'->RR (.ref D) C (.ok .next) s') :
  wpAny (model X.prog X.w) X.A (newList []) (fun acc s₃=>wpAny (model X.prog X.w) X.A (newFunctionEnv scope X.env.globals (clOf X.env.cells scope.names []) [] X.env.qual none .none (some X.env)) (fun cenv s₄=>
   codeAny (model X.prog X.w) X.A (.compStart (.ListComp elt [⟨tg,iter,ifs,0⟩] scope pos) 0 (.ref it) acc { cenv with scope:=relabel scope X.env }) (RR acc cenv.locals) s₄) E s₃) E s:=by
 refine wpAny_newObj_type (wpAny_newFunctionEnv c.cell (by intro y hy;simp at hy) (fun h₁ hns₁ hsb₁=>?_) c.kind)
 dsimp only at hns₁ hsb₁ ⊢
 have I3:Inv X pins σ (upd H s.heap.objs.size (.lst [])) { s with heap:=s.heap.push { cls:=.type "list",data:=.seq ([]:List Value).toArray },toks:=s.toks }:=I.lnew (ys:=[]) (its:=[]) .nil (Nat.zero_le _)
 generalize hH2:s.heap.push { cls:=.type "list",dict:=none,data:=.seq ([]:List Value).toArray }=hp at hns₁ hsb₁ I3 ⊢
 have hlt:∀ b o,s.heap.get? b=some o->hp.get? b=some o:=fun b o e=>by rw [←hH2];exact Heap.get?_push_of_some _ e
 have hnD:H s.heap.objs.size=none:=I.hok.fresh (Nat.le_refl _)
 have kp:∀ b o,hp.get? b=some o->h₁.get? b=some o:=fun b o e=>hsb₁.extBut b o (Nat.ne_of_lt (Heap.lt_size e)) (Heap.get?_push_of_some _ e)
 have stk:∀ b∈fp,s.heap.get? b ≠ none:=fun b hb z=>by
  obtain ⟨o,e,_⟩:=T.obj _ _ st b hb
  rw [z] at e;cases e
 have flt:∀ b∈fp,b < s.heap.objs.size:=fun b hb=>by
  obtain ⟨o,e,_⟩:=T.obj _ _ st b hb
  exact Heap.lt_size e
 have fpD:∀ b∈fp,b ≠ s.heap.objs.size:=fun b hb=>Nat.ne_of_lt (flt b hb)
 have hf3:∀ b∈fp,FpOk X pins (upd H s.heap.objs.size (.lst [])) b:=fun b hb=>by
  obtain ⟨a1,a2⟩:=hf b hb
  exact ⟨by rw [upd_ne (fpD b hb)];exact a1,a2⟩
 have hnb:∀ b∈fp,X.base.get? b=none:=fun b hb=>by
  cases e:X.base.get? b with
  | none=>rfl
  | some o=>
   rcases (hf b hb).2.2.2.1 with z|z
   ·exact absurd z (I.ok.noex b o e)
   ·have:=Heap.lt_size (I.ok.bs b o e).1
    exact absurd (Nat.lt_of_lt_of_le this z) (Nat.lt_irrefl _)
 have hsz:s.heap.objs.size < hp.objs.size:=by rw [←hH2,Heap.size_push];exact Nat.lt_succ_self _
 have IY:=inv_comp (s₄:={ s with heap:=h₁,toks:=s.toks+([]:List (Str × Value)).length }) (fp:=fp) c hc I3 hf3 (fun b hb=>Nat.lt_trans (flt b hb) hsz) hnb hns₁ kp rfl rfl
 obtain ⟨W,⟨m0,w0⟩,turn⟩:=h s.heap.objs.size hnD
 have run:=comp_loop (Y:=cCx X scope N' hp.objs.size { s with heap:=hp,toks:=s.toks } (upd H s.heap.objs.size (.lst [])) fp (X.pn++pins)) (tg:=tg) (elt:=elt) (iter:=iter) (ifs:=ifs) (scope:=scope) (pos:=pos) (it:=it) (D:=s.heap.objs.size) (k:=k) (σ:=σ) (Q:=Q)
  hc rfl (hg _ _ _ _ _) (ht _ _ _ _ _) (he _ _ _ _ _) T (fun H' hn b hb=>⟨hn b hb,Nat.ne_of_lt (Nat.lt_trans (flt b hb) hsz),fun z=>(IY.ok.exfs b hb) z,.inl hb,fun x a e=>(IY.ok.exf b hb).2 x a e,fun p hp=>by
   have hp':p∈X.pn++pins:=by simpa using hp
   exact (hf b hb).2.2.2.2.2 p hp'⟩) W turn m0
 have st₁:tn 0 h₁:=T.keep _ _ _ st fun b hb o e=>kp b o (hlt b o e)
 have go:=run { s with heap:=h₁,toks:=s.toks+([]:List (Str × Value)).length } ⟨0,[],_,IY,st₁,fun b hb=>(hf3 b hb).1,w0⟩
 have out:∀ r s',(r=Except.ok Flow.next∧∃ H',Inv (cCx X scope N' hp.objs.size { s with heap:=hp,toks:=s.toks } (upd H s.heap.objs.size (.lst [])) fp (X.pn++pins)) [] (List.replicate k none++σ) H' s'∧Q (.ref s.heap.objs.size) H')->RR (.ref s.heap.objs.size) hp.objs.size r s':=by
  rintro r s' ⟨rfl,H',J',q⟩
  obtain ⟨m,hn,_⟩:=J'.loc
  have hC:hp.objs.size ≠ X.env.locals:=Nat.ne_of_gt (Nat.lt_of_lt_of_le I.lt (Nat.le_of_lt hsz))
  refine fin _ _ s' H' m hn hC (fun x a e=>?_) ⟨J'.free,Nat.le_trans I.sz (Nat.le_of_lt hsz),fun p hp'=>Nat.ne_of_lt (Nat.lt_trans (Heap.lt_size (I.pin p hp').1) hsz)⟩ (fun h' hs'=>?_) q
  ·obtain ⟨v,o,h1,_⟩:=I.cell x a e
   exact Nat.ne_of_lt (Nat.lt_trans (Heap.lt_size h1) hsz)
  ·refine I.call' (ch:=fp) ?_ ?_ ?_ J'.bare fun b hb=>⟨(hf b hb).2.2.2.1,(hf b hb).2.1,(hf b hb).2.2.2.2.1,(hf b hb).2.2.2.2.2⟩
   ·exact J'.os
   ·have u1:Un (frs X.stack) fp H (upd H s.heap.objs.size (.lst [])) s.heap hp:=Un.laid hlt (Nat.le_refl _) hnD
    exact (u1.trans J'.base).but hs' fun b o e=>Nat.ne_of_lt (Nat.lt_trans (Heap.lt_size e) hsz)
   ·exact J'.hok.but J'.free hs'
 exact codeAny_compStart_list (codeAny_mono go out) (T.self _ 0 _ _ _ st₁ (codeAny_mono go out))
theorem pe_comp {elt iter tg:Expr}{ifs:List Expr}{scope:Scope}{pos:Pos}{wi:TI}{g:TG}{tt:TT}{te:TE}{N':List Str}{k:Nat}
  (c:CompOk X scope N' k) (hc:X.calm=true) (hi:PI X tg iter wi)
  (hg:∀ C s₀ H₀ ex pn,PG (cCx X scope N' C s₀ H₀ ex pn) tg g) (ht:∀ C s₀ H₀ ex pn,PTs (cCx X scope N' C s₀ H₀ ex pn) ifs tt) (he:∀ C s₀ H₀ ex pn,PE (cCx X scope N' C s₀ H₀ ex pn) elt te)
  (hs:∀ x,foldedSetIterable iter X.env x=pure x:=by intro _;rfl):PE X (.ListComp elt [⟨tg,iter,ifs,0⟩] scope pos) (tComp k wi g tt te):=by
 intro pins s σ H Q I h
 rw [PySem.eval_ListComp]
 refine PySem.wpAny_comprehension_free (use:=none) rfl hs (closureFor_eq (c.cells I)) c.kind c.names (thn (hi pins s σ H _ I h) fun v s1 h1=>thn h1 fun itv s2 h2=>?_)
 obtain ⟨it,fp,tn,J,H2,rfl,I2,T,st2,f2,hW⟩:=h2
 refine comp_block (RR:=fun acc C=>PySem.compPost (model X.prog X.w) X.A X.xe none (EP X pins σ Q) acc C) c hc I2 T st2 f2 hg ht he hW ?_
 intro D C s' H' m hn _ _ _ hI q
 exact ⟨m,hn,fun h' hs'=>⟨.ref D,H',hI h' hs',rfl,q⟩⟩
def tSetC (i:Nat) (te:TE):TS:=fun D σ H=>te σ H fun x H1=>D.nx (σ.set i (some x)) H1
theorem ps_setC {elt iter tg:Expr}{ifs:List Expr}{scope:Scope}{pos spos py:Pos}{wi:TI}{g:TG}{tt:TT}{te:TE}{N':List Str}{k i:Nat}{y:Str}
  (hN:X.N.Nodup) (hi':X.N[i]? = some y) (hy:Loc X.env.scope y)
  (c:CompOk X scope N' k) (hc:X.calm=true) (hi:PI X tg iter wi)
  (hg:∀ C s₀ H₀ ex pn,PG (cCx X scope N' C s₀ H₀ ex pn) tg g) (ht:∀ C s₀ H₀ ex pn,PTs (cCx X scope N' C s₀ H₀ ex pn) ifs tt) (he:∀ C s₀ H₀ ex pn,PE (cCx X scope N' C s₀ H₀ ex pn) elt te)
  (hsw:swapsWith (.ListComp elt [⟨tg,iter,ifs,0⟩] scope pos) (some (.Name y py)) spos.line X.env=pure true:=by rfl)
  (hs:∀ x,foldedSetIterable iter X.env x=pure x:=by intro _;rfl) (hf:X.fn y=true∨X.env.scope.names.lookup y=some .local:=by first|exact .inl rfl|exact .inr rfl|assumption) :
  PS X (.Assign [.Name y py] (.ListComp elt [⟨tg,iter,ifs,0⟩] scope pos) spos) (tSetC i (tComp k wi g tt te)):=by
 intro pins s σ H D I h
 rw [PySem.exec_Assign_Name_used _ _ _ _ hsw]
 refine wpAny_bind (wpAny_standAt (wpAny_bind ?_))
 show wpAny _ X.A (do let _ ←comprehension (.ListComp elt [⟨tg,iter,ifs,0⟩] scope pos) scope X.env _ (newList []) false (eval iter X.env) (some (assign (.Name y py) X.env))) _ _ s
 refine wpAny_bind (thn (PySem.wpAny_comprehension_free (use:=some (assign (.Name y py) X.env)) (Q:=fun _ s'=>SP X pins D .next s') rfl hs (closureFor_eq (c.cells I)) c.kind c.names (thn (hi pins s σ H _ I h) fun v s1 h1=>thn h1 fun itv s2 h2=>?_)) fun _ s' hq=>wpAny_pure (wpAny_pure hq))
 obtain ⟨it,fp,tn,J,H2,rfl,I2,T,st2,f2,hW⟩:=h2
 refine comp_block (Q:=fun x H1=>D.nx (σ.set i (some x)) H1) (RR:=fun acc C=>PySem.compPost (model X.prog X.w) X.A X.xe (some (assign (.Name y py) X.env)) (fun _ s'=>SP X pins D .next s') acc C) c hc I2 T st2 f2 hg ht he hW ?_
 intro D' C s' H' m hn hCl hCc hCo hI q
 show wpAny _ X.A (assign (.Name y py) X.env (.ref D')) _ _ s'
 have I':Inv X pins σ H' s':=hI s'.heap (Heap.SameBut.refl _ _)
 refine wpAny_assign_Name (store_ok2 I' hN hi' hy (show RelV (.ref D') (.ref D') from rfl) (fun s'' I'' ⟨a,sb,ha⟩=>?_) hf)
 have hCa:C ≠ a:=by
  rcases ha with rfl|ha
  ·exact hCl
  ·exact fun z=>hCc _ _ ha z.symm
 refine ⟨m,hn.sameBut sb hCa,fun h' hs'=>⟨_,H',?_,q⟩⟩
 exact I''.turned (t':=s''.toks) (fun b o hb e=>(hs'.2 b hb).trans e) hCo.1 hCl (.inr hCo.2.1) hCc hCo.2.2
end
end L2
set_option Elab.async false
set_option linter.all false
set_option maxRecDepth 100000
set_option maxHeartbeats 4000000
namespace L2
open PySem PySem.Spec PyProof.Rows
def ExcAt (h:Heap) (e:Addr) (cls:Value) (d:Option Addr) (T:Addr):Prop:=
 ∃ oe vs oT ts,h.get? e=some oe∧oe.cls=cls∧oe.dict=d∧oe.data=.fields vs∧vs[1]? = some (.ref T)∧T ≠ e∧h.get? T=some oT∧oT.data=.fields ts∧ts[3]? = some .none∧vs[2]? = some .none
def CX1 (P:Program) (w:World):CXT:=fun outer H s E ev s'=>∃ e T cls d H',ev=.ref e∧s'.os=s.os∧AllBare s'.gens∧Un (frs outer) [] H H' s.heap s'.heap∧HOk P w H' s'.heap ∧
 s.heap.get? e=none∧s.heap.get? T=none∧H' e=none∧H' T=none∧ExcAt s'.heap e cls d T∧(∀ dx,d=some dx->∃ fs,H' dx=some (.xd fs))∧E cls d H'
theorem dict_mapF (f:Array Value->Array Value) (o:Obj):(Obj.mapFields f o).dict=o.dict:=by
 unfold Obj.mapFields;split<;>rfl
structure Noted (fs:List Addr) (e:Addr) (no:Addr->Prop) (h h':Heap):Prop where
 keep:∀ b o,b ≠ e->¬ no b->b ∉ fs->h.get? b=some o->h'.get? b=some o
 slot:∀ b o,b ≠ e->¬ no b->b∈fs->h.get? b=some o->∃ sl,h'.get? b=some { o with slots:=sl }
 size:h.objs.size≤h'.objs.size
section
variable {M:Model}{A:Around}{E:Value->Shared->Prop}{s:Shared}
theorem entry1 {base:Heap}{env:Env}{outer:List Env}{L e:Addr}{oe:Obj}{vs:Array Value}{head:Value}{hadNext:Bool}{Q:Unit->Shared->Prop}
  (hfr:A.frames=some (env::outer)) (hl:s.heap.FunFrames base (env::outer)) (hf:env.frame=some L) (he:s.heap.get? e=some oe) (hd:oe.data=.fields vs) (hsz:1 < vs.size) (h2c:vs[2]? = some .none)
  (hQ:∀ h',Noted (frs (env::outer)) e (fun _=>False) s.heap h'->(∃ T oe' vs' oT ts,s.heap.get? T=none∧h'.get? e=some oe'∧oe'.cls=oe.cls∧oe'.dict=oe.dict∧oe'.data=.fields vs'∧vs'[1]? = some (.ref T)∧T ≠ e∧h'.get? T=some oT∧oT.data=.fields ts∧ts[3]? = some (rawInt L)∧vs'[2]? = some .none)->Q () { s with heap:=h' }) :
  wpAny M A (do let a ←frameOf env;let pl ←entryPlaceOf L hadNext;let b ←EntryCells.newEntry head a .none (rawInt L) .none pl;setField (.ref e) 1 b) Q E s:=by
 have efr:e ∉ frs (env::outer):=fun z=>by
  obtain ⟨_,o,q1,q2⟩:=hl.mem z
  rw [he] at q1
  cases q1
  exact q2 vs hd
 refine wpAny_bind (wpAny_frameOf_fun hfr hl hf fun g1 sg=>?_)
 refine wpAny_bind (wpAny_entryPlaceOf fun pl ipl=>?_)
 unfold EntryCells.newEntry newFields
 refine wpAny_bind (wpAny_newObj_type ?_ (ipl.sizeOk5 _ _ _ _ _))
 have e1:g1.get? e=some oe:=(sg.2.1 e efr).trans he
 generalize hnew:({ cls:=.type "traceback",dict:=none,data:=.fields ([head,.ref L,.none,rawInt L,.none]++(if pl.isEmpty then List.replicate 6 Value.none else pl)).toArray }:Obj)=oN
 have dN:oN.data=.fields ([head,.ref L,.none,rawInt L,.none]++(if pl.isEmpty then List.replicate 6 Value.none else pl)).toArray:=by rw [←hnew]
 have e2:(g1.push oN).get? e=some oe:=Heap.get?_push_of_some _ e1
 refine wpAny_setField e2 hd hsz (hQ _ ?_ ?_)
 ·have other:∀ b o,b ≠ e->g1.get? b=some o->((g1.push oN).update e (Obj.mapFields (·.setIfInBounds 1 (Value.ref g1.objs.size)))).get? b=some o:=fun b o hb q=>by
   rw [Heap.get?_update_other _ _ (Ne.symm hb)]
   exact Heap.get?_push_of_some _ q
  refine ⟨fun b o hb _ hfs q=>other b o hb ((sg.2.1 b hfs).trans q),fun b o hb _ _ q=>?_,?_⟩
  ·obtain ⟨sl,q'⟩:=sg.2.2 b o q
   exact ⟨sl,other b _ hb q'⟩
  ·have z1:g1.objs.size=s.heap.objs.size:=sg.1
   have z2:=((Heap.SameBut.update (g1.push oN) e (Obj.mapFields (·.setIfInBounds 1 (Value.ref g1.objs.size))))).1
   rw [z2,Heap.size_push]
   omega
 ·have ne:g1.objs.size ≠ e:=Nat.ne_of_gt (Heap.lt_size e1)
  have d3:=Obj.data_mapFields hd (·.setIfInBounds 1 (Value.ref g1.objs.size))
  refine ⟨g1.objs.size,_,_,oN,_,?_,Heap.get?_update_self _ e2 (Obj.isFreed_of_fields d3),Obj.cls_mapFields _ _,dict_mapF _ _,d3,by simp [hsz],ne,?_,dN,by simp,by rw [Array.getElem?_setIfInBounds_ne (by decide)];exact h2c⟩
  ·have z1:g1.objs.size=s.heap.objs.size:=sg.1
   rw [z1]
   exact Heap.get?_none_of_le (Nat.le_refl _)
  ·rw [Heap.get?_update_other _ _ (Ne.symm ne)]
   exact Heap.get?_push_size _ (Obj.isFreed_of_fields dN)
theorem flight0 {e T:Addr}{oe oT:Obj}{vs ts:Array Value}{Q:Unit->Shared->Prop}(he:s.heap.get? e=some oe) (hd:oe.data=.fields vs) (h1:vs[1]? = some (.ref T)) (hT:s.heap.get? T=some oT) (hdT:oT.data=.fields ts) (h3:3 < ts.size) (ne:T ≠ e) (h2c:vs[2]? = some .none)
  (hQ:∀ h',(∀ b,b ≠ T->h'.get? b=s.heap.get? b)->h'.objs.size=s.heap.objs.size->ExcAt h' e oe.cls oe.dict T->Q () { s with heap:=h' }):wpAny M A (setFlight (.ref e) none) Q E s:=by
 unfold setFlight
 refine wpAny_bind (wpAny_field he hd h1 ?_)
 rw [if_pos (show (Value.ref T != Value.none)=true from by simp)]
 have sb:=Heap.SameBut.update s.heap T (Obj.mapFields (·.setIfInBounds 3 ((none:Option Addr).elim Value.none fun f=>rawInt f)))
 refine wpAny_setField hT hdT h3 (hQ _ sb.2 sb.1 ?_)
 have d3:=Obj.data_mapFields hdT (·.setIfInBounds 3 ((none:Option Addr).elim Value.none fun f=>rawInt f))
 exact ⟨oe,vs,_,_,(sb.2 e (Ne.symm ne)).trans he,rfl,rfl,hd,h1,ne,Heap.get?_update_self _ hT (Obj.isFreed_of_fields d3),d3,by simp [h3],h2c⟩
theorem note_new {base:Heap}{env:Env}{outer:List Env}{L e:Addr}{oe:Obj}{vs:Array Value}{Q:Unit->Shared->Prop}
  (hfr:A.frames=some (env::outer)) (hl:s.heap.FunFrames base (env::outer)) (hf:env.frame=some L) (he:s.heap.get? e=some oe) (hd:oe.data=.fields vs) (h1:vs[1]? = some .none) (h2c:vs[2]? = some .none)
  (hQ:∀ h' T,Noted (frs (env::outer)) e (fun _=>False) s.heap h'->s.heap.get? T=none->ExcAt h' e oe.cls oe.dict T->Q () { s with heap:=h' }) :
  wpAny M A (noteFrame (.ref e) env) (fun _ s2=>wpAny M A (setFlight (.ref e) none) Q E s2) E s:=by
 unfold noteFrame
 simp only [hf]
 refine wpAny_bind (wpAny_field he hd h1 ?_)
 rw [if_neg (by decide)]
 refine entry1 hfr hl hf he hd (Array.getElem?_eq_some_iff.mp h1).1 h2c fun g ng hx=>?_
 obtain ⟨T,oe',vs',oT,ts,nT,q1,q2,q2d,q3,q4,ne,q5,q6,q7,q8⟩:=hx
 refine flight0 (s:={ s with heap:=g }) q1 q3 q4 q5 q6 (Array.getElem?_eq_some_iff.mp q7).1 ne q8 fun g' sb sz ex=>?_
 rw [q2,q2d] at ex
 have lt:∀ b o,s.heap.get? b=some o->b ≠ T:=fun b o q z=>by rw [z,nT] at q;cases q
 exact hQ g' T ⟨fun b o hb hn hfs q=>(sb b (lt b o q)).trans (ng.keep b o hb hn hfs q),fun b o hb hn hfs q=>by
  obtain ⟨sl,q'⟩:=ng.slot b o hb hn hfs q
  exact ⟨sl,(sb b (lt b o q)).trans q'⟩,Nat.le_trans ng.size (Nat.le_of_eq sz.symm)⟩ nT ex
theorem note_next {base:Heap}{env:Env}{outer:List Env}{L e T:Addr}{cls:Value}{dd:Option Addr}{Q:Unit->Shared->Prop}
  (hfr:A.frames=some (env::outer)) (hl:s.heap.FunFrames base (env::outer)) (hf:env.frame=some L) (hx:ExcAt s.heap e cls dd T) (hfe:e ∉ frs (env::outer)) (hfT:T ∉ frs (env::outer)) (hb:base.get? T=none)
  (hQ:∀ h' T',Noted (frs (env::outer)) e (fun b=>b=T) s.heap h'->s.heap.get? T'=none->ExcAt h' e cls dd T'->Q () { s with heap:=h' }) :
  wpAny M A (noteFrame (.ref e) env) (fun _ s2=>wpAny M A (setFlight (.ref e) none) Q E s2) E s:=by
 obtain ⟨oe,vs,oT,ts,he,rfl,rfl,hd,h1,ne,hT,hdT,h3,h2c⟩:=hx
 unfold noteFrame
 simp only [hf]
 refine wpAny_bind (wpAny_field he hd h1 ?_)
 rw [if_pos (show (Value.ref T != Value.none)=true from by simp)]
 refine wpAny_bind (wpAny_field hT hdT h3 ?_)
 rw [if_neg (show ¬ ((Value.none == rawInt L)=true) from by simp [rawInt])]
 have sb0:=Heap.SameBut.update s.heap T (Obj.mapFields (·.setIfInBounds 3 Value.none))
 refine wpAny_bind (wpAny_setField hT hdT (Array.getElem?_eq_some_iff.mp h3).1 ?_)
 generalize hg0:s.heap.update T (Obj.mapFields (·.setIfInBounds 3 Value.none))=g0 at sb0
 have fl:g0.FunFrames base (env::outer):=hl.of_keeps fun b o q hnf=>⟨o,(sb0.2 b (fun z=>by rw [z,hT] at q;cases q;exact hnf ts hdT)).trans q,rfl⟩
 have he0:g0.get? e=some oe:=(sb0.2 e (Ne.symm ne)).trans he
 refine entry1 (s:={ s with heap:=g0 }) hfr fl hf he0 hd (Array.getElem?_eq_some_iff.mp h1).1 h2c fun g ng hx=>?_
 obtain ⟨T',oe',vs',oT',ts',nT,q1,q2,q2d,q3,q4,ne',q5,q6,q7,q8⟩:=hx
 refine flight0 (s:={ s with heap:=g }) q1 q3 q4 q5 q6 (Array.getElem?_eq_some_iff.mp q7).1 ne' q8 fun g' sb sz ex=>?_
 rw [q2,q2d] at ex
 have tT:T ≠ T':=fun z=>by
  subst z
  have:=Heap.get?_update_self (Obj.mapFields (·.setIfInBounds 3 Value.none)) hT (Obj.isFreed_of_fields (Obj.data_mapFields hdT _))
  rw [hg0] at this
  have nT':g0.get? T=none:=nT
  rw [this] at nT'
  cases nT'
 have nT0:s.heap.get? T'=none:=(sb0.2 T' (Ne.symm tT)).symm.trans nT
 have lt:∀ b o,s.heap.get? b=some o->b ≠ T':=fun b o q z=>by rw [z,nT0] at q;cases q
 exact hQ g' T' ⟨fun b o hb hn hfs q=>(sb b (lt b o q)).trans (ng.keep b o hb (fun z=>z) hfs ((sb0.2 b hn).trans q)),fun b o hb hn hfs q=>by
  obtain ⟨sl,q'⟩:=ng.slot b o hb (fun z=>z) hfs ((sb0.2 b hn).trans q)
  exact ⟨sl,(sb b (lt b o q)).trans q'⟩,Nat.le_trans (Nat.le_of_eq sb0.1.symm) (Nat.le_trans ng.size (Nat.le_of_eq sz.symm))⟩ nT0 ex
end
theorem HOk.noted {P:Program}{w:World}{H:Hp}{h h':Heap}{fs:List Addr}{e:Addr}{no:Addr->Prop}(ok:HOk P w H h) (n:Noted fs e no h h') (he:H e=none) (hn:∀ b,no b->H b=none) (hf:∀ b∈fs,H b=none):HOk P w H h':=fun b ob q=>by
 refine (ok b ob q).stay (fun c v hc r=>n.keep c v ?_ ?_ ?_ r) (fun _ z=>z) (fun _ _ z=>z) fun _ _ z=>z
 all_goals
  rcases hc with z|z
  all_goals intro k
 ·rw [←z,k,he] at q;cases q
 ·rw [k,he] at z;cases z
 ·rw [←z,hn _ k] at q;cases q
 ·rw [hn _ k] at z;cases z
 ·rw [←z,hf _ k] at q;cases q
 ·rw [hf _ k] at z;cases z
theorem Un.noted {fs fs':List Addr}{H H':Hp}{h h1 h2:Heap}{e:Addr}{no:Addr->Prop}(u:Un fs [] H H' h h1) (n:Noted fs' e no h1 h2) (he:h.get? e=none) (hn:∀ b,no b->h.get? b=none) (hs:∀ b∈fs',b∈fs∨h.get? b=none):Un fs [] H H' h h2:=by
 have ne:∀ b o,h.get? b=some o->b ≠ e∧¬ no b:=fun b o q=>⟨fun z=>(by rw [z,he] at q;cases q),fun z=>(by rw [hn b z] at q;cases q)⟩
 have nf:∀ b o,h.get? b=some o->b ∉ fs->b ∉ fs':=fun b o q hb z=>by
  rcases hs b z with k|k
  ·exact hb k
  ·rw [k] at q;cases q
 refine ⟨fun b o q a hb hx=>n.keep b o (ne b o q).1 (ne b o q).2 (nf b o q hb) (u.keep b o q a hb hx),fun b o q a hb hx=>?_,u.free,fun b o q hx=>?_,u.tups,u.frzs,u.tbls⟩
 ·obtain ⟨sl,r⟩:=u.slot b o q a hb hx
  by_cases hb':b∈fs'
  ·obtain ⟨sl',r'⟩:=n.slot b _ (ne b o q).1 (ne b o q).2 hb' r
   exact ⟨sl',r'⟩
  ·exact ⟨sl,n.keep b _ (ne b o q).1 (ne b o q).2 hb' r⟩
 ·obtain ⟨o',r⟩:=u.there b o q hx
  by_cases hb':b∈fs'
  ·obtain ⟨sl',r'⟩:=n.slot b _ (ne b o q).1 (ne b o q).2 hb' r
   exact ⟨_,r'⟩
  ·exact ⟨_,n.keep b _ (ne b o q).1 (ne b o q).2 hb' r⟩
def PassAt (CX:CXT) (X:Cx) (E:XK) (σ:St):Prop:=∀ (pins:List (Addr × Obj)) (H:Hp) (s:Shared) (e:Value) (s':Shared),Inv X pins σ H s->CX X.stack H s E e s'->X.xe e s'
def RaisesAt (X:Cx) (E:XK) (σ:St):Prop:=∀ (pins:List (Addr × Obj)) (H:Hp) (s:Shared) (h':Heap) (e:Addr) (C:Addr) (us:List Value),Inv X pins σ H s->Heap.MadeExcOf s.heap h' e (.ref C) us->E (.ref C) none H->X.xe (.ref e) { s with heap:=h' }
theorem ObjOk.there {P:Program}{w:World}{H:Hp}{h:Heap}{a:Addr}{o:HO}(x:ObjOk P w H h a o):∃ ob,h.get? a=some ob:=by
 cases o with
 | lst xs=>obtain ⟨_,_,_,_,e⟩:=x;exact ⟨_,e⟩
 | tup xs=>obtain ⟨_,_,_,ob,e,_⟩:=x;exact ⟨ob,e⟩
 | dK kvs=>obtain ⟨_,_,_,_,ob,_,_,e,_⟩:=x;exact ⟨ob,e⟩
 | dT kvs=>obtain ⟨_,_,_,_,ob,_,_,e,_⟩:=x;exact ⟨ob,e⟩
 | set S n=>obtain ⟨ob,_,_,_,e,_⟩:=x;exact ⟨ob,e⟩
 | ins C dx fs=>obtain ⟨_,_,_,e,_⟩:=x;exact ⟨_,e⟩
 | own y=>exact x
 | xd fs=>obtain ⟨_,⟨ob,_,_,e,_⟩,_⟩:=x;exact ⟨ob,e⟩
 | rng lo hi=>obtain ⟨_,_,_,e⟩:=x;exact ⟨_,e⟩
 | frz ob u=>exact ⟨_,x.1⟩
 | tbl ps=>obtain ⟨_,_,_,_,e,_⟩:=x;exact ⟨_,e⟩
 | cod q=>obtain ⟨_,_,_,e,_⟩:=x;exact ⟨_,e⟩
 | met f y=>exact ⟨_,x⟩
 | ext φ=>exact x.2.1
theorem HOk.gone {P:Program}{w:World}{H:Hp}{h:Heap}{a:Addr}(ok:HOk P w H h) (e:h.get? a=none):H a=none:=by
 cases q:H a with
 | none=>rfl
 | some o=>
  obtain ⟨ob,z⟩:=(ok a o q).there
  rw [e] at z;cases z
theorem Un.gone {fs:List Addr}{H H':Hp}{h h1:Heap}{a:Addr}(u:Un fs [] H H' h h1) (e:h1.get? a=none):h.get? a=none:=by
 cases q:h.get? a with
 | none=>rfl
 | some o=>
  obtain ⟨o',z⟩:=u.there a o q (by simp)
  rw [e] at z;cases z
theorem raises_def {P:Program}{w:World}{K:PySem.W.Frag}{mg:Str->Option Value}{base:Heap}{N:List Str}{qual:Str}{scope:Scope}{f:Addr}{cd:Value}{A:Around}{outer:List Env}{s₀:Shared}{H₀:Hp}{E:XK}{σ:St} :
  RaisesAt (cxOf (CX1 P w) P w K mg base N qual scope f cd A outer s₀ H₀ E) E σ:=by
 intro pins H s h' e C us I hm hE
 obtain ⟨t,he,_,_⟩:=hm.there
 show wpAny (model P w) (A.deeper (envOfC qual scope s₀.heap.objs.size f cd)) (leaving (envOfC qual scope s₀.heap.objs.size f cd) (.ref e)) _ _ _
 unfold leaving
 have un:Un (frs outer) [] H₀ H s₀.heap s.heap:=I.base
 have fl:h'.FunFrames base (envOfC qual scope s₀.heap.objs.size f cd::outer):=I.stack.of_keeps fun b o q _=>⟨o,hm.keeps b o q,rfl⟩
 refine wpAny_bind (note_new (s:={ s with heap:=h' }) (base:=base) (outer:=outer) I.ok.frames fl rfl he rfl rfl rfl fun g T ng nT ex=>?_)
 have nT':s.heap.get? T=none:=by
  cases q:s.heap.get? T with
  | none=>rfl
  | some o=>
   have z:=hm.keeps T o q
   have nT2:h'.get? T=none:=nT
   rw [nT2] at z;cases z
 have u2:Un (frs outer) [] H₀ H s₀.heap h':=un.trans (Un.kept hm.keeps)
 refine ⟨e,T,.ref C,none,H,rfl,I.os,I.bare,u2.noted ng (un.gone hm.new) (fun _ z=>z.elim) (fun b hb=>?_),(I.hok.kept hm.keeps).noted ng (I.hok.gone hm.new) (fun _ z=>z.elim) I.stkFree,un.gone hm.new,un.gone nT',I.hok.gone hm.new,I.hok.gone nT',ex,(fun _ z=>nomatch z),hE⟩
 rcases List.mem_cons.mp (I.stkSub b hb) with z|z
 ·exact .inr (by rw [z];exact Heap.get?_none_of_le (Nat.le_refl _))
 ·exact .inl z
theorem passes_def {P:Program}{w:World}{K:PySem.W.Frag}{mg:Str->Option Value}{base:Heap}{N:List Str}{qual:Str}{scope:Scope}{f:Addr}{cd:Value}{A:Around}{outer:List Env}{s₀:Shared}{H₀:Hp}{E:XK} :
  Passes (CX1 P w) (cxOf (CX1 P w) P w K mg base N qual scope f cd A outer s₀ H₀ E) E:=by
 intro pins σ H s ev s' I hc
 obtain ⟨e,T,cls,dd,H',rfl,os,bare,un1,hok,ne,nT,He,HT,ex,hxd,hE⟩:=hc
 show wpAny (model P w) (A.deeper (envOfC qual scope s₀.heap.objs.size f cd)) (leaving (envOfC qual scope s₀.heap.objs.size f cd) (.ref e)) _ _ _
 unfold leaving
 have I2:Inv _ pins σ H' s':=I.call' (ch:=[]) os un1 hok bare (fun b z=>absurd z (by simp))
 have nf:∀ b,s.heap.get? b=none->b ∉ frs (envOfC qual scope s₀.heap.objs.size f cd::outer):=fun b hb z=>by
  obtain ⟨_,o,q,_⟩:=I.stack.mem z
  rw [hb] at q;cases q
 have nb:base.get? T=none:=by
  cases q:base.get? T with
  | none=>rfl
  | some o=>
   have:=I.bk T o q
   rw [nT] at this;cases this
 have fl:s'.heap.FunFrames base (envOfC qual scope s₀.heap.objs.size f cd::outer):=I2.stack
 refine wpAny_bind (note_next (base:=base) (outer:=outer) I.ok.frames fl rfl ex (nf e ne) (nf T nT) nb fun g T' ng nT' ex'=>?_)
 have un0:Un (frs outer) [] H₀ H s₀.heap s.heap:=I.base
 have un2:Un (frs outer) [] H₀ H' s₀.heap s'.heap:=I2.base
 refine ⟨e,T',cls,dd,H',rfl,I2.os,bare,un2.noted ng (un0.gone ne) (fun b z=>by rw [z];exact un0.gone nT) (fun b hb=>?_),hok.noted ng He (fun b z=>by rw [z];exact HT) I2.stkFree,un0.gone ne,un2.gone nT',He,hok.gone nT',ex',hxd,hE⟩
 rcases List.mem_cons.mp (I.stkSub b hb) with z|z
 ·exact .inr (by rw [z];exact Heap.get?_none_of_le (Nat.le_refl _))
 ·exact .inl z
section
variable {X:Cx}
def tCallX (sp:Sp) (dvs:List V) (E:St->XK) (t:TA):TE:=fun σ H Q=>t σ H fun vs H1=>sp (vs++dvs) H1 Q (E σ)
theorem pe_callX {CX:CXT}{k:Nat}{f:Addr}{fd:FuncData}{ps:List Str}{sp:Sp}{ds:List Value}{dvs:List V}{E:St->XK}{x:Str}{e:Expr}{es:List Expr}{t:TA}{p pos:Pos}
  (F:FnOk X.prog X.w X.K X.mg X.base CX k f fd ps sp) (hr:Room k X.A) (hg:Gl X x) (hm:X.mg x=some (.ref f)) (hk:PySem.W.keepIn X.K (.ref f)=true) (hb:Binds X.K fd ps ds) (hd:Vals dvs ds) (hx:∀ σ,PassAt CX X (E σ) σ)
  (ha:PA X (e::es) t) (hdb:(x == ("__debug__":Str))=false:=by decide) (he:starEach (e::es) X.env=(false,eval e X.env)::starEach es X.env:=by rfl) (hpl:(backTo pos (starEach es X.env)).any (·.1)=false:=by rfl) :
  PE X (.Call (.Name x p) (e::es) [] pos) (tCallX sp dvs E t):=by
 intro pins s σ H Q I h
 refine wpAny_Call_Name_kw (ld_glob I hg hm ?_ hdb)
 refine PySem.W.callWith_K (h₀:=X.base) I.ok.mod.kin hk (thn (ha pos pins s σ H _ I h) fun us s1 ⟨vs,H1,I1,r,q⟩=>⟨I1.kIn,?_⟩) he hpl
 have r2:Vals (vs++dvs) (us++ds):=r.append hd
 have hl:(us++ds).length=ps.length:=by rw [←r2.length];exact F.len _ _ _ _ q
 refine wpAny_call (codeAny_mono (F.run X.A X.stack s1 H1 ⟨us,[]⟩ (us++ds) (vs++dvs) Q (E σ) hr I1.env0 (hb s1 us I1.kIn hl) r2 q) fun rr s' hq=>?_)
 cases rr with
 | error ev=>exact hx σ pins H1 s1 ev s' I1 hq
 | ok fl=>
  cases fl with
  | ret u=>exact I1.after hq
  | next=>exact False.elim hq
  | brk=>exact False.elim hq
  | cont=>exact False.elim hq
set_option genInjectivity false in
structure ClsD where
 nm:Str
 q:Str
 N:Addr
 bs:List Value
 bm:List Value
 hdct:Bool
 sn:List Str
 sub:List Value
 ab:Bool
 col:Option Bool
 dd:Option Addr
 k0:Option Value
 k1:Option Value
 k2:Option Value
 k3:Option Value
 k5:Option Value
def ownIn0 (K:PySem.W.Frag) (C:Addr) (z:Option Value) (bmB:List Value) (newId:String):Bool:=match K.lookup C with
 | some ⟨.type "type",_,.cls dat,slt⟩=>(match dat.mro,slt.toList with
  | .ref C'::up,[_,_,_,_,some (.builtin n),_]=>C' == C && n == newId && !dat.hasDel && PySem.W.tailIn K bmB up && PySem.W.nsOkIn K dat.ns && PySem.W.nsIn K dat.ns "__init__" == some z
  | _,_=>false)
 | _=>false
theorem cls_op {K:PySem.W.Frag}{C:Addr}{z:Option Value}(q0:ownIn0 K C z [.type "ValueError",.type "Exception",.type "BaseException",.type "object"] "ValueError.__new__"=true) :
  ∃ c:ClsD,K.lookup C=some (excClassObj c.nm c.q C c.N c.bs c.bm c.hdct c.sn c.sub c.ab c.col c.dd c.k0 c.k1 c.k2 c.k3 c.k5 "ValueError.__new__")∧PySem.W.tailIn K [.type "ValueError",.type "Exception",.type "BaseException",.type "object"] c.bm=true∧PySem.W.nsOkIn K c.N=true∧PySem.W.nsIn K c.N "__init__"=some z:=by
 unfold ownIn0 at q0
 split at q0
 ·rename_i dd0 cdat slots0 look0
  split at q0
  ·rename_i Cx0 tl0 g0 g1 g2 g3 nw g5 em es0
   simp only [Bool.and_eq_true,beq_iff_eq,Bool.not_eq_true'] at q0<;>skip
   obtain ⟨⟨⟨⟨⟨rfl,rfl⟩,ndel⟩,tok⟩,nok⟩,noi⟩:=q0
   obtain ⟨c1,c2,c3,c4,c5,c6,c7,c8,c9,c10,c11⟩:=cdat
   dsimp only at em ndel nok noi
   subst em ndel
   obtain ⟨lst0⟩:=slots0
   have es1:lst0=[g0,g1,g2,g3,some (.builtin "ValueError.__new__"),g5]:=es0
   subst es1
   exact ⟨⟨c1,c5,c4,c2,tl0,c6,c7,c8,c9,c10,dd0,g0,g1,g2,g3,g5⟩,look0,tok,nok,noi⟩
  ·cases q0
 ·cases q0
structure OwnE (K:PySem.W.Frag) (C:Addr):Prop where
 ex:PySem.W.excIn K C [.type "ValueError",.type "Exception",.type "BaseException",.type "object"] "ValueError.__new__"=true
def tRaise (C:Addr) (E:St->XK) (t:TA):TS:=fun _ σ H=>t σ H fun vs H1=>vs.length≤sizeLine∧E σ (.ref C) none H1
theorem ps_raise {C:Addr}{x:Str}{e₀:Expr}{rest:List Expr}{np cpos pos:Pos}{t:TA}{E:St->XK}(hc:X.calm=true) (hg:Gl X x) (hmg:X.mg x=some (.ref C)) (O:OwnE X.K C) (hx:∀ σ,RaisesAt X (E σ) σ) (ha:PA X (e₀::rest) t)
  (he:starEach (e₀::rest) X.env=(false,eval e₀ X.env)::starEach rest X.env:=by rfl) (hplain:(backTo cpos (starEach rest X.env)).any (·.1)=false:=by rfl) (hdb:(x == ("__debug__":Str))=false:=by decide) :
  PS X (.Raise (some (.Call (.Name x np) (e₀::rest) [] cpos)) none pos) (tRaise C E t):=by
 intro pins s σ H D I h
 obtain ⟨c,look0,tok,nok,noi⟩:=cls_op (z:=none) O.ex
 have nsb:X.base.Ns c.N (X.base.nsMap c.N):=.of_isNs (PySem.W.isNs_of_in I.mod.kin nok)
 refine PySem.wpAny_Raise_call_subU (C:=C) (nm:=c.nm) (q:=c.q) (N:=c.N) (bs:=c.bs) (bm:=c.bm) (hdct:=c.hdct) (sn:=c.sn) (sub:=c.sub) (ab:=c.ab) (col:=c.col) (dd:=c.dd) (k0:=c.k0) (k1:=c.k1) (k2:=c.k2) (k3:=c.k3) (k5:=c.k5)
  PySem.F.excBase_ValueError (by decide +kernel) PySem.F.excBase_ValueError (mN:=X.base.nsMap c.N) ((PySem.W.tail_of_in I.kIn tok).hasType (by decide +kernel)) (I.ok.hd hc) (by rw [he];exact (Bool.false_or _).trans hplain) (PySem.W.nsMap_none_of_in I.mod.kin nok noi) (ld_glob I hg hmg ⟨rfl,?_⟩ hdb)
 have hh:=ha cpos pins s σ H _ I h
 rw [he] at hh ⊢
 exact Calls.evalArgs_plain (thn hh fun us s2 ⟨vs,H2,I2,r,hl,hE⟩=>⟨rfl,by rw [←r.length];exact hl,I2.kIn _ _ look0,nsb.keeps I2.bk,PySem.W.tail_of_in I2.kIn tok,fun h' e hm=>hx σ pins H2 s2 h' e C us I2 hm hE⟩)
abbrev Cx.mark (X:Cx) (e:Addr):Cx:={ X with A:=X.A.mark (some (.ref e)),calm:=false,xe:=fun _ _=>False }
theorem Inv.mark {pins:List (Addr × Obj)}{σ:St}{H:Hp}{s:Shared}(I:Inv X pins σ H s) (e:Addr):Inv (X.mark e) pins σ H s:=
 ⟨⟨I.ok.mod,I.ok.kind,I.ok.glob,I.ok.blt,I.ok.above,I.ok.inj,I.ok.has,I.ok.cab,(fun z=>by cases z),I.ok.frames,I.ok.stk,I.ok.exf,I.ok.bs,I.ok.bsz,I.ok.noex,I.ok.exfs,I.ok.funs,I.ok.frf⟩,I.os,I.bare,I.base,I.loc,I.cell,I.free,I.freeC,I.pin,I.hok,I.len⟩
theorem Inv.unmark {pins:List (Addr × Obj)}{σ:St}{H:Hp}{s:Shared}{e:Addr}(ok:X.Ok) (I:Inv (X.mark e) pins σ H s):Inv X pins σ H s:=
 ⟨ok,I.os,I.bare,I.base,I.loc,I.cell,I.free,I.freeC,I.pin,I.hok,I.len⟩
end
end L2
set_option Elab.async false
set_option linter.all false
set_option maxRecDepth 100000
set_option maxHeartbeats 4000000
namespace L2
open PySem PySem.Spec PyProof.Rows
structure FunX (K:PySem.W.Frag) (x qual:Str) (st:Stmt) (f:Addr) (fd:FuncData):Prop where
 ex:∃ (oc:Value) (od:Option Addr) (dV kV doc pm:Value) (an:Option Addr) (cdv ct:Value) (osl:Array (Option Value)),
  fd=PySem.W.fnOf x qual (defArgs st) (defBody st) (defScope st) dV kV doc pm an cdv ct∧K.lookup f=some ⟨oc,od,.func fd,osl⟩∧PySem.W.codeIn K cdv qual=true
 kp:PySem.W.keepIn K (.ref f)=true
section
variable {P:Program}{w:World}{K:PySem.W.Frag}{mg:Str->Option Value}{base:Heap}
theorem FunX.ok {CX:CXT}{x qual:Str}{st:Stmt}{f:Addr}{fd:FuncData}{N ps:List Str}{k:Nat}{sp:Sp}(F:FunX K x qual st f fd) (S:FnScope N ps (defScope st)) (len:∀ vs H Q E,sp vs H Q E->vs.length=ps.length)
  (hbody:∀ (cdv:Value) (A:Around) (outer:List Env) (s:Shared) (H:Hp) (vs:List V) (Q:VK) (E:XK),Room k (A.deeper (envOfC qual (defScope st) s.heap.objs.size f cdv))->sp vs H Q E →
   ∃ t,PSs (cxOf CX P w K mg base N qual (defScope st) f cdv A outer s H E) (defBody st) t∧t { nx:=fun _ H'=>Q .non H',rt:=Q } (start N vs) H):FnOk P w K mg base CX (k+1) f fd ps sp:=by
 obtain ⟨oc,od,dV,kV,doc,pm,an,cdv,ct,osl,rfl,lk,hcd⟩:=F.ex
 exact fn_of lk hcd S len fun A outer s H vs Q E hr hsp=>hbody cdv A outer s H vs Q E hr hsp
end
end L2
set_option Elab.async false
set_option linter.all false
set_option maxRecDepth 100000
set_option maxHeartbeats 4000000
namespace L2
open PySem PySem.Spec PyProof.Rows PySem.W
structure ECls (K:PySem.W.Frag) (C:Addr):Prop where
 ga:PySem.W.findIn K (.ref C) "__getattribute__"=some (some (.builtin "BaseException.__getattribute__"))
 no:PySem.W.findIn K (.ref C) "__getattr__"=some none
 mb:PySem.W.mroIn K C (.type "BaseException")=some true
 mo:PySem.W.mroIn K C (.type "object")=some true
 cl:PySem.W.findIn K (.ref C) "__class__"=some (some (.builtin "object.__class__"))
 sp:PySem.W.specialIn K (.builtin "object.__class__") "__get__"=some (some (.builtin "getset_descriptor.__get__"))
 tk:PySem.W.takesIn K (.builtin "object.__class__")=some true
 hd:PySem.W.hasDictIn K C=true
section
variable {prog:Program}{w:World}{A:Around}{E:Value->Shared->Prop}{s:Shared}{K:PySem.W.Frag}{x C:Addr}{ox:Obj}{od:Option Obj}{name:Str}
theorem exc_check {M:Model}{nameV:Value}{Q:Unit->Shared->Prop}(c:ECls K C) (X:K.In s.heap) (I:InstAt s.heap x ox C od) (hq:Q () s):wpAny M A (checkBuiltinCall "BaseException.__getattribute__" ⟨[.ref x,nameV],[]⟩) Q E s:=by
 have hk:builtinKind "BaseException.__getattribute__"=some .slot:=by decide +kernel
 have hsplit:splitId "BaseException.__getattribute__"=some ("BaseException", "__getattribute__"):=by decide +kernel
 have ha:=F.args_bexc_ga (.ref x) nameV
 have L0:=I.type (M:=M)
 have L1:=looks_mroIn (M:=M) X c.mb
 obtain ⟨hh,g,d,t,os⟩:=s
 simp only [checkBuiltinCall,hk,hsplit]
 have LI:Looks M hh (isInstance (.ref x) (.type "BaseException")) true:=L0.andThen L1
 refine wpAny_bind (LI.at ?_)
 first|exact hq|exact wpAny_pure hq|(simp only [Bool.not_true,Bool.false_eq_true,if_false];exact hq)
def FinP (M:Model) (A:Around) (P:Value->Shared->Prop) (fin:PySem.Fin) (s:Shared):Prop:=match fin with
 | .done (.ret v)=>P v s
 | .again c=>c.quiet=true∧codeAny M A c (fun r s'=>match r with | .ok (.ret v)=>P v s'|_=>False) s
 | _=>False
theorem exc_get? {Q:Option Value->Shared->Prop}(c:ECls K C) (X:K.In s.heap) (I:InstAt s.heap x ox C od)
  (h:∀ A':Around,wpAny (model prog w) A' (Builtin.«object.__getattribute__» ⟨[.ref x,.str name s.toks],[]⟩) (FinP (model prog w) A fun v s'=>wpAny (model prog w) A (handedOut v) (fun v s''=>Q (some v) s'') (fun _ _=>False) s') (fun _ _=>False) { s with toks:=s.toks+1 }) :
  wpAny (model prog w) A (getAttr? (.ref x) name) Q E s:=by
 obtain ⟨hh,g,d,t,os⟩:=s
 have L0:=I.type (M:=model prog w)
 have L1:=looks_findIn (M:=model prog w) X c.ga
 have L2:=looks_findIn (M:=model prog w) X c.no
 unfold getAttr? getAttrBy? getAttrBy
 refine wpAny_bind (wpAny_mkText (wpAny_bind (wpAny_attempt (wpAny_holding (wpAny_bind (L0.at (wpAny_bind (L1.at ?_))))))))
 show wpAny _ _ (getAttrByItsOwn _ _ _ _ _ _) _ _ _
 unfold getAttrByItsOwn
 show wpAny _ _ (do let before ←typeLookup (.ref C) "__getattr__";_) _ _ _
 refine wpAny_bind (L2.at (wpAny_bind (wpAny_attempt (wpAny_holding ?_))))
 unfold callGetattribute
 rw [if_neg (by simp)]
 unfold boundAndCalled
 rw [F.attr_ValueError.ga.bind (.ref x)]
 refine wpAny_bind (wpAny_pure (wpAny_call (codeAny_call_builtin F.attr_ValueError.ga.plain F.entry_bexc_ga (exc_check c X I ?_))))
 have fin1:∀ v s',wpAny (model prog w) A (handedOut v) (fun v s''=>Q (some v) s'') (fun _ _=>False) s'->wpAny (model prog w) A (handedOut v) (fun a s'=>wpAny (model prog w) A (pure (some a)) Q E s') (fun e s'=>wpAny (model prog w) A (do if ←isInstance e (.type "AttributeError") then pure none else throw e) Q E s') s':=fun v s' z=>wpAny_mono z (fun _ _ q=>wpAny_pure q) fun _ _ q=>q.elim
 refine wpAny_mono (h _) (fun fin s' z=>?_) fun _ _ z=>z.elim
 cases fin with
 | done f=>cases f with
  | ret v=>exact fin1 v s' z
  | _=>exact z.elim
 | again c'=>
  obtain ⟨z1,z2⟩:=z
  refine ⟨z1,codeAny_mono z2 fun r s'' q=>?_⟩
  cases r with
  | error e=>exact q.elim
  | ok f=>cases f with
   | ret v=>exact fin1 v s'' q
   | _=>exact q.elim
theorem findObj_data' {a g:Value}(hc:(clsIn K C).isSome=true) (ha:findIn K (.ref C) name=some (some a)) (hg:specialIn K a "__get__"=some (some g)) (ht:takesIn K a=some true):findObj K C od name=some (.bind g a):=by
 obtain ⟨cd,hc⟩:=Option.isSome_iff_exists.mp hc
 unfold findObj
 rw [hc,Option.bind_some,ha,Option.bind_some]
 simp [hg,ht]
theorem ECls.some (c:ECls K C):(clsIn K C).isSome=true:=by
 obtain ⟨cd,hc,_⟩:=any_some c.hd
 rw [hc];rfl
theorem exc_class {Q:Option Value->Shared->Prop}(c:ECls K C) (X:K.In s.heap) (I:InstAt s.heap x ox C od) (hq:Q (some (.ref C)) { s with toks:=s.toks+1 }):wpAny (model prog w) A (getAttr? (.ref x) "__class__") Q E s:=by
 have hf:findObj K C od "__class__"=some (.bind (.builtin "getset_descriptor.__get__") (.builtin "object.__class__")):=findObj_data' c.some c.cl c.sp c.tk
 refine exc_get? c X I fun A'=>?_
 have L0:=I.type (M:=model prog w)
 have L1:=looks_find (M:=model prog w) X I hf
 have cg:∀ {A:Around} {R:Result->Shared->Prop},R (.ok (.ret (.ref C))) { s with toks:=s.toks+1 }->codeAny (model prog w) A (.call (.builtin "getset_descriptor.__get__") ⟨[.builtin "object.__class__",.ref x,.ref C],[]⟩) R { s with toks:=s.toks+1 }:=fun h=>class_get (s:={ s with toks:=s.toks+1 }) (ox:=ox) (od:=od) X I c.mo h
 obtain ⟨hh,gg,d,t,os⟩:=s
 refine wpAny_bind (wpAny_pure (wpAny_bind (wpAny_pure (wpAny_bind (L0.at (wpAny_bind (L1.at ?_)))))))
 show wpAny _ _ (do ret (←holding [.builtin "object.__class__"] (call (.builtin "getset_descriptor.__get__") [.builtin "object.__class__",.ref x,.ref C]))) _ _ _
 exact wpAny_bind (wpAny_holding (wpAny_call (cg (wpAny_pure (show FinP _ _ _ (.done (.ret (.ref C))) _ from handed_on rfl hq)))))
theorem kitx_exc (c:ECls K C):KitX K (.ref x) (.ref C) (fun h=>InstAt h x ox C od) where
 ty:=fun _ _ _ I=>I.type
 it:=fun _ _ X _=>by
  obtain ⟨cdD,hcD,_⟩:=any_some c.hd
  unfold clsIn at hcD
  split at hcD
  ·rename_i c' d' cd' sl' ho
   intro A' Q' E' s' k q
   unfold isType loadHead
   exact wpAny_bind (wpAny_loadPart (k _ _ (X _ _ ho)) (wpAny_pure q))
  ·cases hcD
 ne:=fun h tp dd its n sl X htp=>by
  obtain ⟨cdD,hcD,_⟩:=any_some c.hd
  refine Bool.eq_false_iff.mpr fun q=>?_
  have e:C=tp:=Value.ref.inj (beq_iff_eq.mp q)
  subst e
  unfold clsIn at hcD
  split at hcD
  ·rename_i c' d' cd' sl' ho
   have z:=(X _ _ ho).symm.trans htp
   cases z
  ·cases hcD
 ca:=fun X I k=>exc_class c X I k
end
end L2
set_option Elab.async false
set_option linter.all false
set_option maxRecDepth 100000
set_option maxHeartbeats 4000000
namespace L2
open PySem PySem.Spec PyProof.Rows
def excO (oe:Obj):HO:=.frz oe (.ext fun _=>True)
structure NewAt (X:Cx) (pins:List (Addr × Obj)) (e:Addr):Prop where
 s0:X.s₀.heap.get? e=none
 loc:e ≠ X.env.locals
 cel:∀ x c,X.env.cells.lookup x=some c->c ≠ e
 fs:e ∉ X.fs
 pin:∀ p∈X.pn++pins,p.1 ≠ e
section
variable {X:Cx}
theorem NewAt.of {pins:List (Addr × Obj)}{σ:St}{H:Hp}{s:Shared}{e:Addr}(I:Inv X pins σ H s) (hx:X.ex=[]) (h:s.heap.get? e=none):NewAt X pins e where
 s0:=by
  cases q:X.s₀.heap.get? e with
  | none=>rfl
  | some o=>
   obtain ⟨o',z⟩:=I.base.there e o q (by rw [hx];simp)
   rw [h] at z;cases z
 loc:=fun z=>by
  obtain ⟨m,⟨o,_,_,q,_⟩,_⟩:=I.loc
  rw [←z,h] at q;cases q
 cel:=fun x c q z=>by
  obtain ⟨v,o,r,_⟩:=I.cell x c q
  rw [z,h] at r;cases r
 fs:=fun z=>by
  obtain ⟨_,o,q,_⟩:=I.funs.mem z
  rw [h] at q;cases q
 pin:=fun p hp z=>by
  have q:=(I.pin p hp).1
  rw [z,h] at q;cases q
theorem Inv.track {pins:List (Addr × Obj)}{σ:St}{H:Hp}{s:Shared}{e:Addr}{oe:Obj}(I:Inv X pins σ H s) (N:NewAt X pins e) (he:s.heap.get? e=some oe) (hn:H e=none):Inv X pins σ (upd H e (excO oe)) s:=by
 have ne:∀ {b:Addr} {o:HO},H b=some o->b ≠ e:=fun q z=>by rw [z,hn] at q;cases q
 refine ⟨I.ok,I.os,I.bare,⟨I.base.keep,I.base.slot,fun b o q n hx=>?_,I.base.there,fun b xs q=>?_,fun b o u q=>?_,fun b ps q=>?_⟩,I.loc,I.cell,?_,fun x c q=>?_,fun p hp=>?_,fun b o q=>?_,I.len⟩
 ·rw [upd_ne (fun z=>by rw [z,N.s0] at q;cases q)];exact I.base.free b o q n hx
 ·have z:=I.base.tups b xs q;rw [upd_ne (ne z)];exact z
 ·have z:=I.base.frzs b o u q;rw [upd_ne (ne z)];exact z
 ·obtain ⟨m,z⟩:=I.base.tbls b ps q;exact ⟨m,by rw [upd_ne (ne z)];exact z⟩
 ·rw [upd_ne (Ne.symm N.loc)];exact I.free
 ·rw [upd_ne (N.cel x c q)];exact I.freeC x c q
 ·obtain ⟨a,b,c,d,f⟩:=I.pin p hp
  exact ⟨a,by rw [upd_ne (N.pin p hp)];exact b,c,d,f⟩
 ·by_cases hb:b=e
  ·subst hb
   rw [upd_same] at q
   cases q
   exact ⟨he,trivial,⟨oe,he⟩,fun _ _ _ _=>trivial⟩
  ·rw [upd_ne hb] at q
   exact (I.hok b o q).stay (fun _ _ _ r=>r) (fun c r=>by rw [upd_ne (ne r)];exact r) (fun c y r=>by rw [upd_ne (ne r)];exact r) fun c xs r=>by rw [upd_ne (ne r)];exact r
def PHs (X:Cx) (hs:List ExceptHandler) (th:Value->Option Addr->TS):Prop:=
 ∀ (pins:List (Addr × Obj)) (s:Shared) (σ:St) (H:Hp) (D:Ends) (e T:Addr) (cls:Value) (d:Option Addr),Inv X pins σ H s->NewAt X pins e->H e=none->ExcAt s.heap e cls d T->th cls d D σ H->wpAny (model X.prog X.w) X.A (handleBy (.ref e) X.env hs) (SP X pins D) X.xe s
theorem flight1 {M:Model}{A:Around}{E:Value->Shared->Prop}{s:Shared}{e T:Addr}{cls:Value}{d:Option Addr}{Q:Unit->Shared->Prop}(x:ExcAt s.heap e cls d T) (hQ:∀ h',(∀ b o,s.heap.get? b=some o->h'.get? b=some o)->Q () { s with heap:=h' }) :
  wpAny M A (setFlight (.ref e) none) Q E s:=by
 obtain ⟨oe,vs,oT,ts,he,rfl,rfl,hd,h1,ne,hT,hdT,h3,h2c⟩:=x
 unfold setFlight
 refine wpAny_bind (wpAny_field he hd h1 ?_)
 rw [if_pos (show (Value.ref T != Value.none)=true from by simp)]
 refine wpAny_setField hT hdT (Array.getElem?_eq_some_iff.mp h3).1 (hQ _ fun b o q=>?_)
 by_cases hb:b=T
 ·subst hb
  rw [hT] at q;cases q
  have same:Obj.mapFields (·.setIfInBounds 3 ((none:Option Addr).elim Value.none fun f=>rawInt f)) oT=oT:=by
   obtain ⟨c,d,dat,sl⟩:=oT
   cases hdT
   have e3:ts.setIfInBounds 3 ((none:Option Addr).elim Value.none fun f=>rawInt f)=ts:=by
    apply Array.ext_getElem?
    intro i
    by_cases hi:i=3
    ·subst hi
     obtain ⟨hlt,hv⟩:=Array.getElem?_eq_some_iff.mp h3
     simp [Array.getElem?_setIfInBounds,hlt,hv]
    ·rw [Array.getElem?_setIfInBounds_ne (Ne.symm hi)]
   show (⟨c,d,.fields (ts.setIfInBounds 3 ((none:Option Addr).elim Value.none fun f=>rawInt f)),sl⟩:Obj)=_
   rw [e3]
  have:=Heap.get?_update_self (Obj.mapFields (·.setIfInBounds 3 ((none:Option Addr).elim Value.none fun f=>rawInt f))) hT (Obj.isFreed_of_fields (Obj.data_mapFields hdT _))
  rw [same] at this
  exact this
 ·rw [Heap.get?_update_other _ _ (Ne.symm hb)]
  exact q
def tLost:Value->Option Addr->TS:=fun _ _ _ _ _=>False
theorem phs_nil:PHs X [] tLost:=fun _ _ _ _ _ _ _ _ _ _ _ _ _ h=>h.elim
theorem SP.unmark {pins:List (Addr × Obj)}{D:Ends}{f:Flow}{s2:Shared}{e:Addr}(ok:X.Ok) (q:SP (X.mark e) pins D f s2):SP X pins D f s2:=by
 cases f with
 | next=>obtain ⟨σ',H',J,q⟩:=q;exact ⟨σ',H',J.unmark ok,q⟩
 | brk=>obtain ⟨σ',H',J,q⟩:=q;exact ⟨σ',H',J.unmark ok,q⟩
 | cont=>obtain ⟨σ',H',J,q⟩:=q;exact ⟨σ',H',J.unmark ok,q⟩
 | ret u=>obtain ⟨v,σ',H',J,r,q⟩:=q;exact ⟨v,σ',H',J.unmark ok,r,q⟩
theorem exc_ty {M:Model}{h:Heap}{e T:Addr}{cls:Value}{d:Option Addr}(ex:ExcAt h e cls d T):PySem.W.Looks M h (typeOf (.ref e)) cls:=by
 obtain ⟨oe,vs,oT,ts,he,rfl,_⟩:=ex
 exact (PySem.W.Looks.ld he).andThen .now
def gDel (i:Nat):St->Hp->(St->Hp->Prop)->Prop:=fun σ H Q=>Q (σ.set i none) H
def kDel (i:Nat) (nx:St->Hp->Prop):St->Hp->Prop:=fun σ H=>gDel i σ H nx
def Ends.del (i:Nat) (D:Ends):Ends:=⟨kDel i D.nx,D.rt,kDel i D.bk,kDel i D.ct⟩
theorem gone_ok {M:Model}{A:Around}{E:Value->Shared->Prop}{pins:List (Addr × Obj)}{σ:St}{H:Hp}{s:Shared}{i:Nat}{x:Str}{pos:Pos}{Q:Unit->Shared->Prop}(I:Inv X pins σ H s) (hi:X.N[i]? = some x) (hk:X.env.scope.names.lookup x=some .local) (hN:X.N.Nodup)
  (h:∀ s',Inv X pins (σ.set i none) H s'->Q () s'):wpAny M A (do bindName X.env x .none;unbindBehindTheSuite X.env x pos) Q E s:=by
 obtain ⟨m,hn,hl⟩:=id I.loc
 have hcls:(X.env.scope.kind == .class || (X.env.scope.kind == .module && X.env.locals != X.env.globals))=false:=by rw [I.ok.kind];rfl
 have cne:=I.cne
 refine PySem.wpAny_nameGoes_keeps hk hn hcls fun h' v hn' hs=>?_
 obtain ⟨oL,_,_,hoL,_⟩:=id hn
 refine h _ ⟨I.ok,I.os,I.bare,⟨fun b o e n hb hx=>?_,fun b o e n hb hx=>?_,I.base.free,fun b o e hx=>?_,I.base.tups,I.base.frzs,I.base.tbls⟩,⟨_,hn',fun j y v' e1 e2 e3=>?_⟩,fun y c e=>?_,I.free,I.freeC,fun p hp=>?_,fun b ob e=>?_,by simpa using I.len⟩
 ·exact (hs.2 b (Nat.ne_of_lt (Nat.lt_of_lt_of_le (Heap.lt_size e) I.ok.above))).trans (I.base.keep b o e n hb hx)
 ·obtain ⟨sl,e1⟩:=I.base.slot b o e n hb hx
  exact ⟨sl,(hs.2 b (Nat.ne_of_lt (Nat.lt_of_lt_of_le (Heap.lt_size e) I.ok.above))).trans e1⟩
 ·obtain ⟨o',e1⟩:=I.base.there b o e hx
  exact ⟨o',(hs.2 b (Nat.ne_of_lt (Nat.lt_of_lt_of_le (Heap.lt_size e) I.ok.above))).trans e1⟩
 ·have hj:j ≠ i:=by
   rintro rfl
   by_cases hlt:j < σ.length
   ·rw [List.getElem?_set_self hlt] at e2;cases e2
   ·rw [List.getElem?_eq_none (by simpa using Nat.le_of_not_lt hlt)] at e2;cases e2
  rw [List.getElem?_set_ne (Ne.symm hj)] at e2
  obtain ⟨u',r',q⟩:=hl j y v' e1 e2 e3
  refine ⟨u',r',?_⟩
  rcases q with ⟨k,e⟩|⟨k,c,e,z⟩
  ·refine .inl ⟨k,?_⟩
   have:y ≠ x:=fun e=>hj (nodup_ix hN e1 (e ▸ hi))
   simp [this,e]
  ·exact .inr ⟨k,c,e,z.sameBut hs (cne y c e)⟩
 ·obtain ⟨w',z⟩:=I.cell y c e
  exact ⟨w',z.sameBut hs (cne y c e)⟩
 ·obtain ⟨e,n,ne,nf,d⟩:=I.pin p hp
  exact ⟨(hs.2 p.1 ne).trans e,n,ne,nf,d⟩
 ·refine (I.hok b ob e).stay (fun c w' hc q=>(hs.2 c ?_).trans q) (fun _ q=>q) (fun _ _ q=>q) fun _ _ q=>q
  rintro rfl
  rcases hc with rfl|hc
  ·rw [I.free] at e;cases e
  ·rw [I.free] at hc;cases hc
def tExcAs (K:PySem.W.Frag) (C:Value) (i:Nat) (tb:TS) (tr:Value->Option Addr->TS):Value->Option Addr->TS:=fun cls d D σ H=>∃ b,PySem.W.exmOne K cls C=some b ∧
 if b=true then ∀ (e:Addr) (oe:Obj),H e=none->oe.cls=cls->oe.dict=d->(∃ vs,oe.data=.fields vs)->tb (D.del i) (σ.set i (some (.ref e))) (upd H e (excO oe)) else tr cls d D σ H
theorem phs_as {x n:Str}{i:Nat}{np pos:Pos}{b₀:Stmt}{body:List Stmt}{rest:List ExceptHandler}{C:Value}{tb:TS}{tr:Value->Option Addr->TS}(hN:X.N.Nodup) (hi:X.N[i]? = some n) (hk:X.env.scope.names.lookup n=some .local) (hg:Gl X x) (hm:X.mg x=some C∨(X.mg x=none∧bootBuiltins x=some C∧x ≠ "__name__")) (hb:∀ e,PSs (X.mark e) (b₀::body) tb) (hr:PHs X rest tr)
  (hdb:(x == ("__debug__":Str))=false:=by decide):PHs X (.ExceptHandler (some (.Name x np)) (some n) (b₀::body) pos::rest) (tExcAs X.K C i tb tr):=by
 intro pins s σ H D e T cls d I N hn ex h
 obtain ⟨b,hx,h⟩:=h
 have Im:=I.mark e
 have ld:∀ {Q:Value->Shared->Prop} {E:Value->Shared->Prop},Q C s->wpAny (model X.prog X.w) (X.A.mark (some (.ref e))) (eval (.Name x np) X.env) Q E s:=fun {Q E} q=>by
  rcases hm with z|⟨z1,z2,z3⟩
  ·exact ld_glob (X:=X.mark e) Im hg z q hdb
  ·exact ld_blt (X:=X.mark e) Im hg z1 z2 q z3 hdb
 refine PySem.wpAny_handleBy_cons (PySem.codeAny_handlers_test (ld ((PySem.W.exm_one I.kIn (exc_ty ex) hx).here ?_))) (by intro q;cases q)
 cases b with
 | false=>
  rw [if_neg Bool.false_ne_true] at h
  exact hr pins s σ H D e T cls d I N hn ex h
 | true=>
  rw [if_pos rfl] at h
  refine PySem.codeAny_handlers_suite_as (flight1 ex fun h' kp=>?_)
  obtain ⟨oe,vs,oT,ts,he,hc,hd,hdat,_⟩:=ex
  have N':NewAt (X.mark e) pins e:=⟨N.s0,N.loc,N.cel,N.fs,N.pin⟩
  have I':Inv (X.mark e) pins σ (upd H e (excO oe)) { s with heap:=h' }:=(Im.kept (t':=s.toks) kp).track N' (kp _ _ he) hn
  refine store_ok (X:=X.mark e) I' hN hi (.inl hk) (show RelV (.ref e) (.ref e) from rfl) (fun s1 I1=>?_) (.inr hk)
  refine wpAny_mono (hb e pins s1 _ _ (D.del i) I1 (h e oe hn hc hd ⟨vs,hdat⟩)) (fun f s2 q=>?_) fun _ _ z=>z.elim
  show wpAny _ X.A _ _ _ s2
  have q':=SP.unmark I.ok q
  cases f with
  | next=>obtain ⟨σ',H',J,q⟩:=q';exact gone_ok J hi hk hN fun s3 J3=>⟨_,H',J3,q⟩
  | brk=>obtain ⟨σ',H',J,q⟩:=q';exact gone_ok J hi hk hN fun s3 J3=>⟨_,H',J3,q⟩
  | cont=>obtain ⟨σ',H',J,q⟩:=q';exact gone_ok J hi hk hN fun s3 J3=>⟨_,H',J3,q⟩
  | ret u=>obtain ⟨v,σ',H',J,r,q⟩:=q';exact gone_ok J hi hk hN fun s3 J3=>⟨v,_,H',J3,r,q⟩
def tTry (tb:(St->XK)->TS) (th:Value->Option Addr->TS):TS:=fun D σ H=>tb (fun σ' cls d H'=>th cls d D σ' H') D σ H
abbrev Cx.tried (X:Cx) (E:Value->Shared->Prop) (pn:List (Addr × Obj)):Cx:={ X with xe:=E,pn:=pn }
theorem ps_try {body:List Stmt}{h₀:ExceptHandler}{hs:List ExceptHandler}{pos:Pos}{tb:(St->XK)->TS}{th:Value->Option Addr->TS}(hstk:X.stack=X.env::X.outer∧X.env.frame=some X.env.locals∧X.ex=[])
  (hb:∀ (EX:St->XK) (E:Value->Shared->Prop) (pn:List (Addr × Obj)),(∀ σ,PassAt (CX1 X.prog X.w) (X.tried E pn) (EX σ) σ)->PSs (X.tried E pn) body (tb EX)) (hh:PHs X (h₀::hs) th) :
  PS X (.Try body (h₀::hs) [] [] pos) (tTry tb th):=by
 intro pins s σ H D I h
 refine PySem.wpAny_Try_except ?_
 have okT:∀ E pn,(X.tried E pn).Ok:=fun E pn=>⟨I.ok.mod,I.ok.kind,I.ok.glob,I.ok.blt,I.ok.above,I.ok.inj,I.ok.has,I.ok.cab,I.ok.hd,I.ok.frames,I.ok.stk,I.ok.exf,I.ok.bs,I.ok.bsz,I.ok.noex,I.ok.exfs,I.ok.funs,I.ok.frf⟩
 have back:∀ {E:Value->Shared->Prop} {pins':List (Addr × Obj)} {σ':St} {H':Hp} {s':Shared},Inv (X.tried E (X.pn++pins)) pins' σ' H' s'->Inv X pins σ' H' s':=fun {E pins' σ' H' s'} J=>
  ⟨I.ok,J.os,J.bare,J.base,J.loc,J.cell,J.free,J.freeC,fun p hp=>J.pin p (List.mem_append_left _ hp),J.hok,J.len⟩
 have I0:∀ E,Inv (X.tried E (X.pn++pins)) [] σ H s:=fun E=>⟨okT E _,I.os,I.bare,I.base,I.loc,I.cell,I.free,I.freeC,fun p hp=>I.pin p (by simpa using hp),I.hok,I.len⟩
 refine thn (hb (fun σ' cls d H'=>th cls d D σ' H') _ (X.pn++pins) ?_ [] s σ H D (I0 _) h) fun f s1 q=>?_
 ·intro σ1 pins1 H1 s1 ev s2 I1 hc
  obtain ⟨e,T,cls,dd,H',rfl,os,bare,un1,hok,ne,nT,He,HT,ex,hxd,hE⟩:=hc
  have I2:=I1.call' (ch:=[]) os un1 hok bare (fun b z=>absurd z (by simp))
  have nf:∀ b,s1.heap.get? b=none->b ∉ frs (X.env::X.outer):=fun b hb z=>by
   have st:=I1.stack
   have st':s1.heap.FunFrames X.base (X.env::X.outer):=by rw [←hstk.1];exact st
   obtain ⟨_,o,q,_⟩:=st'.mem z
   rw [hb] at q;cases q
  have nb:X.base.get? T=none:=by
   cases q:X.base.get? T with
   | none=>rfl
   | some o=>
    have:=I1.bk T o q
    rw [nT] at this;cases this
  have fl:s2.heap.FunFrames X.base (X.env::X.outer):=by rw [←hstk.1];exact I2.stack
  have fr:X.A.frames=some (X.env::X.outer):=by rw [←hstk.1];exact I.ok.frames
  refine note_next (base:=X.base) (outer:=X.outer) fr fl hstk.2.1 ex (nf e ne) (nf T nT) nb fun g T' ng nT' ex'=>?_
  have fs:∀ b∈frs (X.env::X.outer),b∈frs X.stack:=fun b hb=>by rw [hstk.1];exact hb
  have I3:=I1.call' (s':={ s2 with heap:=g }) (ch:=[]) os (un1.noted ng ne (fun b z=>by rw [z];exact nT) fun b hb=>.inl (fs b hb)) (hok.noted ng He (fun b z=>by rw [z];exact HT) fun b hb=>I2.stkFree b (fs b hb)) bare (fun b z=>absurd z (by simp))
  exact hh pins _ σ1 H' D e T' cls dd (back I3) (NewAt.of (back I1) hstk.2.2 ne) He ex' hE
 ·cases f with
  | next=>obtain ⟨σ',H',J,q⟩:=q;exact wpAny_execs_nil ⟨σ',H',back J,q⟩
  | brk=>obtain ⟨σ',H',J,q⟩:=q;exact ⟨σ',H',back J,q⟩
  | cont=>obtain ⟨σ',H',J,q⟩:=q;exact ⟨σ',H',back J,q⟩
  | ret u=>obtain ⟨v,σ',H',J,r,q⟩:=q;exact ⟨v,σ',H',back J,r,q⟩
def kXd:HO->Prop:=fun o=>match o with
 | .xd _=>True
 | _=>False
def dictO (H:Hp):Option Addr->Prop
 | none=>True
 | some dx=>∃ o,H dx=some o∧kXd o
theorem call_isiE:CallR X (.builtin "isinstance") (fun xs H Q=>∃ e oe C D b,xs=[.ref e,D]∧(∃ u,H e=some (.frz oe u))∧oe.cls=.ref C∧dictO H oe.dict∧(∃ vs,oe.data=.fields vs)∧ECls X.K C∧(∃ u,RelV D u∧PySem.W.kitOne X.K (.ref C) u=some b)∧Q (.bl b) H):=by
 intro pins s σ H xs us Q I r h
 obtain ⟨e,oe,C,D,b,rfl,⟨uu,hH⟩,hc,hd,⟨vs,hv⟩,ec,⟨u,ru,hk⟩,q⟩:=h
 obtain ⟨u1,u2,rfl,r1,r2⟩:=vals2 r
 cases (show u1=Value.ref e from r1)
 have hu:u2=u:=by
  cases D with
  | ref a=>exact (show u2=Value.ref a from r2).trans (show u=Value.ref a from ru).symm
  | ty n=>exact (show u2=Value.type n from r2).trans (show u=Value.type n from ru).symm
  | non=>exact (show u2=Value.none from r2).trans (show u=Value.none from ru).symm
  | bl b'=>exact (show u2=Value.bool b' from r2).trans (show u=Value.bool b' from ru).symm
  | int i=>obtain ⟨t,rfl⟩:=ru;simp [PySem.W.kitOne,PySem.W.kitCls] at hk
  | str i=>obtain ⟨t,rfl⟩:=ru;simp [PySem.W.kitOne,PySem.W.kitCls] at hk
  | byt i=>obtain ⟨t,rfl⟩:=ru;simp [PySem.W.kitOne,PySem.W.kitCls] at hk
  | flt i=>obtain ⟨t,rfl⟩:=ru;simp [PySem.W.kitOne,PySem.W.kitCls] at hk
 subst hu
 obtain ⟨he,_⟩:=(show ObjOk X.prog X.w H s.heap e (.frz oe uu) from I.hok e _ hH)
 have hno:PySem.W.notCls oe=true:=by unfold PySem.W.notCls;rw [hv]
 cases q0:oe.dict with
 | none=>
  have J:PySem.W.InstAt s.heap e oe C none:=⟨he,hc,hno,by rw [q0];trivial⟩
  exact PySem.W.kia_one (kitx_exc ec) I.kIn J hk (fun z=>nomatch z) fun tk=>⟨.bl b,H,I.tok _,rfl,q⟩
 | some dx=>
  rw [q0] at hd
  obtain ⟨o,ho,hx⟩:=hd
  cases o with
  | xd fs=>
   obtain ⟨mA,hn,_⟩:=I.hok dx _ ho
   obtain ⟨oD,hoD,_⟩:=lookIn_ns hn
   have J:PySem.W.InstAt s.heap e oe C (some oD):=⟨he,hc,hno,by rw [q0];exact hoD⟩
   exact PySem.W.kia_one (kitx_exc ec) I.kIn J hk (fun z=>nomatch z) fun tk=>⟨.bl b,H,I.tok _,rfl,q⟩
  | _=>exact hx.elim
end
end L2
set_option Elab.async false
set_option linter.all false
set_option maxRecDepth 100000
set_option maxHeartbeats 4000000
namespace L2
open PySem PySem.Spec PyProof.Rows PySem.W
section
variable {prog:Program}{w:World}{A:Around}{R:Result->Shared->Prop}{h:Heap}{g:Array GenState}{d:Drawn}{t:Nat}{os:OsState}{K:Frag}
variable {nm q:Str}{C N fI:Addr}{bs bm bmB:List Value}{hdct:Bool}{sn:List Str}{sub:List Value}{ab:Bool}{col:Option Bool}{dd:Option Addr}{k0 k1 k2 k3 k5:Option Value}{B Bn newId nid initId inN:String}{bmN:List Value}
end
section
variable {prog:Program}{w:World}{A:Around}{E:Value->Shared->Prop}{K:Frag}{x C:Addr}{s:Shared}{name:Str}{v:Value}
end
end L2
set_option Elab.async false
set_option linter.all false
set_option maxRecDepth 100000
set_option maxHeartbeats 4000000
namespace L2
open PySem PySem.Spec PyProof.Rows PySem.W
section
variable {prog:Program}{w:World}{A:Around}{E:Value->Shared->Prop}{s:Shared}{K:PySem.W.Frag}{x C dx:Addr}{ox:Obj}{od:Option Obj}{name:Str}{mA:Str->Option Value}{u:Value}
end
section
variable {prog:Program}{w:World}{A:Around}{E:Value->Shared->Prop}{h:Heap}{g:Array GenState}{d:Drawn}{t:Nat}{os:OsState}{e a0:Addr}{dct:Option Addr}
variable {nm q:Str}{C N:Addr}{bs bm bmB:List Value}{hdct:Bool}{sn:List Str}{sub:List Value}{ab:Bool}{col:Option Bool}{dd:Option Addr}{k0 k1 k2 k3 k5:Option Value}{B newId nid initId:String}
end
section
variable {X:Cx}{pins:List (Addr × Obj)}{σ:St}{H:Hp}{s:Shared}
end
end L2
set_option Elab.async false
set_option linter.all false
set_option maxRecDepth 100000
set_option maxHeartbeats 4000000
namespace L2
open PySem PySem.Spec PyProof.Rows PySem.W
section
variable {X:Cx}{e o value:Expr}{ta tv:TE}{f:Str}{pos pos':Pos}
end
def del (H:Hp) (e:Addr):Hp:=fun b=>if b=e then none else H b
section
variable {X:Cx}
end
end L2
set_option Elab.async false
set_option linter.all false
set_option maxRecDepth 100000
set_option maxHeartbeats 4000000
namespace L2
open PySem
open PySem.Spec PyProof.Rows
theorem gName_0 {a:Option V}{v:V}{σ:St}{H:Hp}{Q:St->Hp->Prop}:gName 0 v (a::σ) H Q=Q (some v::σ) H:=rfl
theorem gName_1 {a0:Option V}{a:Option V}{v:V}{σ:St}{H:Hp}{Q:St->Hp->Prop}:gName 1 v (a0::a::σ) H Q=Q (a0::some v::σ) H:=rfl
theorem gName_2 {a0 a1:Option V}{a:Option V}{v:V}{σ:St}{H:Hp}{Q:St->Hp->Prop}:gName 2 v (a0::a1::a::σ) H Q=Q (a0::a1::some v::σ) H:=rfl
theorem gName_3 {a0 a1 a2:Option V}{a:Option V}{v:V}{σ:St}{H:Hp}{Q:St->Hp->Prop}:gName 3 v (a0::a1::a2::a::σ) H Q=Q (a0::a1::a2::some v::σ) H:=rfl
theorem gName_4 {a0 a1 a2 a3:Option V}{a:Option V}{v:V}{σ:St}{H:Hp}{Q:St->Hp->Prop}:gName 4 v (a0::a1::a2::a3::a::σ) H Q=Q (a0::a1::a2::a3::some v::σ) H:=rfl
theorem gName_5 {a0 a1 a2 a3 a4:Option V}{a:Option V}{v:V}{σ:St}{H:Hp}{Q:St->Hp->Prop}:gName 5 v (a0::a1::a2::a3::a4::a::σ) H Q=Q (a0::a1::a2::a3::a4::some v::σ) H:=rfl
theorem gName_6 {a0 a1 a2 a3 a4 a5:Option V}{a:Option V}{v:V}{σ:St}{H:Hp}{Q:St->Hp->Prop}:gName 6 v (a0::a1::a2::a3::a4::a5::a::σ) H Q=Q (a0::a1::a2::a3::a4::a5::some v::σ) H:=rfl
theorem gName_7 {a0 a1 a2 a3 a4 a5 a6:Option V}{a:Option V}{v:V}{σ:St}{H:Hp}{Q:St->Hp->Prop}:gName 7 v (a0::a1::a2::a3::a4::a5::a6::a::σ) H Q=Q (a0::a1::a2::a3::a4::a5::a6::some v::σ) H:=rfl
theorem gName_8 {a0 a1 a2 a3 a4 a5 a6 a7:Option V}{a:Option V}{v:V}{σ:St}{H:Hp}{Q:St->Hp->Prop}:gName 8 v (a0::a1::a2::a3::a4::a5::a6::a7::a::σ) H Q=Q (a0::a1::a2::a3::a4::a5::a6::a7::some v::σ) H:=rfl
theorem gName_9 {a0 a1 a2 a3 a4 a5 a6 a7 a8:Option V}{a:Option V}{v:V}{σ:St}{H:Hp}{Q:St->Hp->Prop}:gName 9 v (a0::a1::a2::a3::a4::a5::a6::a7::a8::a::σ) H Q=Q (a0::a1::a2::a3::a4::a5::a6::a7::a8::some v::σ) H:=rfl
theorem gName_10 {a0 a1 a2 a3 a4 a5 a6 a7 a8 a9:Option V}{a:Option V}{v:V}{σ:St}{H:Hp}{Q:St->Hp->Prop}:gName 10 v (a0::a1::a2::a3::a4::a5::a6::a7::a8::a9::a::σ) H Q=Q (a0::a1::a2::a3::a4::a5::a6::a7::a8::a9::some v::σ) H:=rfl
def optK {α:Type}:Option α->(α->Prop)->Prop
 | some x,k=>k x
 | none,_=>False
theorem optK_some {α:Type}(x:α) (k:α->Prop):optK (some x) k=k x:=rfl
theorem optK_ex {α:Type}{o:Option α}{k:α->Prop}(h:optK o k):∃ x,o=some x∧k x:=by
 cases o with
 | none=>exact h.elim
 | some x=>exact ⟨x,rfl,h⟩
def seqO:HO->Option (List V)
 | .lst xs=>some xs
 | .tup xs=>some xs
 | .frz _ (.lst xs)=>some xs
 | _=>none
def lstO:HO->Option (List V)
 | .lst xs=>some xs
 | _=>none
def tupO:HO->Option (List V)
 | .tup xs=>some xs
 | _=>none
def itemsAt (H:Hp) (p:Addr):Option (List V):=(H p).bind seqO
def lstAt (H:Hp) (p:Addr):Option (List V):=(H p).bind lstO
def tupAt (H:Hp) (p:Addr):Option (List V):=(H p).bind tupO
theorem seqO_lst (xs:List V):seqO (.lst xs)=some xs:=rfl
theorem seqO_tup (xs:List V):seqO (.tup xs)=some xs:=rfl
theorem lstO_lst (xs:List V):lstO (.lst xs)=some xs:=rfl
theorem tupO_tup (xs:List V):tupO (.tup xs)=some xs:=rfl
theorem bind_some' {α β:Type}(x:α) (f:α->Option β):(some x).bind f=f x:=rfl
abbrev Ext (H H':Hp):Prop:=(∀ a,(H a).isSome=true->H' a=H a)∧∀ (K:PySem.W.Frag) a xs,SqL K H a xs->SqL K H' a xs
def kOp' (r:R2) (x:V) (Q:VK):VK:=fun y H=>r x y H Q
theorem m_kOp' (r:R2) (x y:V) (H:Hp) (Q:VK):(kOp' r x Q y H)=(r x y H Q):=rfl
def kOp (r:R2) (tb:TE) (σ:St) (Q:VK):VK:=fun x H=>tb σ H (kOp' r x Q)
theorem m_kOp (r:R2) (tb:TE) (σ:St) (Q:VK) (x:V) (H:Hp):(kOp r tb σ Q x H)=(tb σ H (kOp' r x Q)):=rfl
theorem m_tOp (r:R2) (ta tb:TE) (σ:St) (H:Hp) (Q:VK):(tOp r ta tb σ H Q)=(ta σ H (kOp r tb σ Q)):=rfl
theorem m_tC (v:V) (σ:St) (H:Hp) (Q:VK):(tC v σ H Q)=(Q v H):=rfl
def kUn (r:V->Hp->VK->Prop) (Q:VK):VK:=fun x H=>r x H Q
theorem m_kUn (r:V->Hp->VK->Prop) (Q:VK) (x:V) (H:Hp):(kUn r Q x H)=(r x H Q):=rfl
theorem m_tUn (r:V->Hp->VK->Prop) (ta:TE) (σ:St) (H:Hp) (Q:VK):(tUn r ta σ H Q)=(ta σ H (kUn r Q)):=rfl
def kTest (Q:Bool->Hp->Prop):VK:=fun x H=>∃ k,x=.bl k∧Q k H
def kNot (Q:Bool->Hp->Prop):Bool->Hp->Prop:=fun c H=>Q (!c) H
theorem m_kNot (Q:Bool->Hp->Prop) (c:Bool) (H:Hp):(kNot Q c H)=(Q (!c) H):=rfl
theorem m_tNot (t:TT) (σ:St) (H:Hp) (Q:Bool->Hp->Prop):(tNot t σ H Q)=(t σ H (kNot Q)):=rfl
def kAnd (u:TT) (σ:St) (Q:Bool->Hp->Prop):Bool->Hp->Prop:=fun c H=>if c=true then u σ H Q else Q false H
theorem m_kAnd (u:TT) (σ:St) (Q:Bool->Hp->Prop) (c:Bool) (H:Hp):(kAnd u σ Q c H)=(if c=true then u σ H Q else Q false H):=rfl
theorem m_tAnd (t u:TT) (σ:St) (H:Hp) (Q:Bool->Hp->Prop):(tAnd t u σ H Q)=(t σ H (kAnd u σ Q)):=rfl
def kOr (u:TT) (σ:St) (Q:Bool->Hp->Prop):Bool->Hp->Prop:=fun c H=>if c=true then Q true H else u σ H Q
theorem m_kOr (u:TT) (σ:St) (Q:Bool->Hp->Prop) (c:Bool) (H:Hp):(kOr u σ Q c H)=(if c=true then Q true H else u σ H Q):=rfl
theorem m_tOr (t u:TT) (σ:St) (H:Hp) (Q:Bool->Hp->Prop):(tOr t u σ H Q)=(t σ H (kOr u σ Q)):=rfl
def kAndV (tb:TE) (σ:St) (Q:VK):VK:=fun x H=>∃ c,x=.bl c∧if c=true then tb σ H Q else Q (.bl false) H
def kNotV (Q:VK):VK:=fun x H=>∃ c,x=.bl c∧Q (.bl (!c)) H
def kIfE (ta tb:TE) (σ:St) (Q:VK):Bool->Hp->Prop:=fun c H=>if c=true then ta σ H Q else tb σ H Q
theorem m_kIfE (ta tb:TE) (σ:St) (Q:VK) (c:Bool) (H:Hp):(kIfE ta tb σ Q c H)=(if c=true then ta σ H Q else tb σ H Q):=rfl
theorem m_tIf (t:TT) (ta tb:TE) (σ:St) (H:Hp) (Q:VK):(tIf t ta tb σ H Q)=(t σ H (kIfE ta tb σ Q)):=rfl
def kCh3 (r':R2) (y:V) (Q:VK):VK:=fun w H=>r' y w H Q
theorem m_kCh3 (r':R2) (y w:V) (Q:VK) (H:Hp):(kCh3 r' y Q w H)=(r' y w H Q):=rfl
def kCh2 (r':R2) (tc:TE) (σ:St) (y:V) (Q:VK):VK:=fun z H=>∃ k,z=.bl k∧(if k=true then tc σ H (kCh3 r' y Q) else Q (.bl false) H)
def kCh1 (r r':R2) (tc:TE) (σ:St) (x:V) (Q:VK):VK:=fun y H=>r x y H (kCh2 r' tc σ y Q)
def kCh0 (r r':R2) (tb tc:TE) (σ:St) (Q:VK):VK:=fun x H=>tb σ H (kCh1 r r' tc σ x Q)
theorem m_tNil (σ:St) (H:Hp) (Q:List V->Hp->Prop):(tNil σ H Q)=(Q [] H):=rfl
def kCons' (x:V) (Q:List V->Hp->Prop):List V->Hp->Prop:=fun xs H=>Q (x::xs) H
theorem m_kCons' (x:V) (Q:List V->Hp->Prop) (xs:List V) (H:Hp):(kCons' x Q xs H)=(Q (x::xs) H):=rfl
def kCons (tr:TA) (σ:St) (Q:List V->Hp->Prop):VK:=fun x H=>tr σ H (kCons' x Q)
theorem m_kCons (tr:TA) (σ:St) (Q:List V->Hp->Prop) (x:V) (H:Hp):(kCons tr σ Q x H)=(tr σ H (kCons' x Q)):=rfl
theorem m_tCons (ta:TE) (tr:TA) (σ:St) (H:Hp) (Q:List V->Hp->Prop):(tCons ta tr σ H Q)=(ta σ H (kCons tr σ Q)):=rfl
def kCall (sp:Sp) (dvs:List V) (E:XK) (Q:VK):List V->Hp->Prop:=fun vs H=>sp (vs++dvs) H Q E
theorem m_kCall_1 (v0:V) (sp:Sp) (dvs:List V) (E:XK) (Q:VK) (H:Hp):kCall sp dvs E Q [v0] H=sp (v0::dvs) H Q E:=rfl
theorem m_kCall_2 (v0 v1:V) (sp:Sp) (dvs:List V) (E:XK) (Q:VK) (H:Hp):kCall sp dvs E Q [v0,v1] H=sp (v0::v1::dvs) H Q E:=rfl
theorem m_kCall_3 (v0 v1 v2:V) (sp:Sp) (dvs:List V) (E:XK) (Q:VK) (H:Hp):kCall sp dvs E Q [v0,v1,v2] H=sp (v0::v1::v2::dvs) H Q E:=rfl
theorem m_kCall_5 (v0 v1 v2 v3 v4:V) (sp:Sp) (dvs:List V) (E:XK) (Q:VK) (H:Hp):kCall sp dvs E Q [v0,v1,v2,v3,v4] H=sp (v0::v1::v2::v3::v4::dvs) H Q E:=rfl
theorem m_tCall (sp:Sp) (dvs:List V) (E:XK) (t:TA) (σ:St) (H:Hp) (Q:VK):(tCall sp dvs E t σ H Q)=(t σ H (kCall sp dvs E Q)):=rfl
def kCB (r:List V->Hp->VK->Prop) (Q:VK):List V->Hp->Prop:=fun vs H=>r vs H Q
theorem m_kCB (r:List V->Hp->VK->Prop) (Q:VK) (vs:List V) (H:Hp):(kCB r Q vs H)=(r vs H Q):=rfl
theorem m_tCB (r:List V->Hp->VK->Prop) (t:TA) (σ:St) (H:Hp) (Q:VK):(tCB r t σ H Q)=(t σ H (kCB r Q)):=rfl
theorem m_tNext (nx:St->Hp->Prop) (rt:VK) (bk ct:St->Hp->Prop) (σ:St) (H:Hp):(tNext ⟨nx,rt,bk,ct⟩ σ H)=(nx σ H):=rfl
theorem m_tSeq (t u:TS) (nx:St->Hp->Prop) (rt:VK) (bk ct:St->Hp->Prop) (σ:St) (H:Hp):(tSeq t u ⟨nx,rt,bk,ct⟩ σ H)=(t ⟨u ⟨nx,rt,bk,ct⟩,rt,bk,ct⟩ σ H):=rfl
theorem m_tRet (te:TE) (nx:St->Hp->Prop) (rt:VK) (bk ct:St->Hp->Prop) (σ:St) (H:Hp):(tRet te ⟨nx,rt,bk,ct⟩ σ H)=(te σ H rt):=rfl
def kDrop (nx:St->Hp->Prop) (σ:St):VK:=fun x H=>nx σ H
theorem m_kDrop (nx:St->Hp->Prop) (σ:St) (x:V) (H:Hp):(kDrop nx σ x H)=(nx σ H):=rfl
theorem m_tDrop (te:TE) (nx:St->Hp->Prop) (rt:VK) (bk ct:St->Hp->Prop) (σ:St) (H:Hp):(tDrop te ⟨nx,rt,bk,ct⟩ σ H)=(te σ H (kDrop nx σ)):=rfl
def kIfS (t u:TS) (D:Ends) (σ:St):Bool->Hp->Prop:=fun b H=>if b=true then t D σ H else u D σ H
theorem m_kIfS (t u:TS) (D:Ends) (σ:St) (b:Bool) (H:Hp):(kIfS t u D σ b H)=(if b=true then t D σ H else u D σ H):=rfl
theorem m_tIfS (c:TT) (t u:TS) (D:Ends) (σ:St) (H:Hp):(tIfS c t u D σ H)=(c σ H (kIfS t u D σ)):=rfl
def kAsg (g:TG) (σ:St) (nx:St->Hp->Prop):VK:=fun x H=>g x σ H nx
theorem m_kAsg (g:TG) (σ:St) (nx:St->Hp->Prop) (x:V) (H:Hp):(kAsg g σ nx x H)=(g x σ H nx):=rfl
theorem m_tAsg (te:TE) (g:TG) (nx:St->Hp->Prop) (rt:VK) (bk ct:St->Hp->Prop) (σ:St) (H:Hp):(tAsg te g ⟨nx,rt,bk,ct⟩ σ H)=(te σ H (kAsg g σ nx)):=rfl
def kGs (u:TGs) (r:List V) (Q:St->Hp->Prop):St->Hp->Prop:=fun σ' H'=>u r σ' H' Q
theorem m_kGs (u:TGs) (r:List V) (Q:St->Hp->Prop) (σ:St) (H:Hp):(kGs u r Q σ H)=(u r σ H Q):=rfl
end L2
set_option Elab.async false
set_option linter.all false
set_option maxRecDepth 100000
set_option maxHeartbeats 4000000
namespace L2
open PySem PySem.Spec PyProof.Rows
section
variable {X:Cx}
theorem OpR.mono {f:Value->Value->Sem Value}{r r':R2}(h:OpR X f r) (m:∀ x y H Q,r' x y H Q->r x y H Q):OpR X f r':=fun pins s σ H x y v u Q I rx ry hq=>h pins s σ H x y v u Q I rx ry (m _ _ _ _ hq)
theorem CallR.mono {f:Value}{r r':List V->Hp->VK->Prop}(h:CallR X f r) (m:∀ xs H Q,r' xs H Q->r xs H Q):CallR X f r':=fun pins s σ H xs us Q I rx hq=>h pins s σ H xs us Q I rx (m _ _ _ hq)
theorem IxR.mono {r r':R2}(h:IxR X r) (m:∀ x y H Q,r' x y H Q->r x y H Q):IxR X r':=fun a b pins s σ H x y v u Q I rx ry hq=>h a b pins s σ H x y v u Q I rx ry (m _ _ _ _ hq)
theorem PG.mono {tg:Expr}{g g':TG}(h:PG X tg g) (m:∀ v σ H Q,g' v σ H Q->g v σ H Q):PG X tg g':=fun pins s σ H v u Q I r hq=>h pins s σ H v u Q I r (m _ _ _ _ hq)
theorem items_seq {K:PySem.W.Frag}{H:Hp}{p:Addr}{ys:List V}(h:itemsAt H p=some ys):SqL K H p ys∨SqT K H p ys:=by
 unfold itemsAt at h
 cases e:H p with
 | none=>rw [e] at h;cases h
 | some o=>
  rw [e] at h
  have h':seqO o=some ys:=h
  cases o with
  | lst xs=>cases h';exact .inl (SqL.of e)
  | tup xs=>cases h';exact .inr (SqT.of e)
  | frz ob u=>
   cases u with
   | lst xs=>cases h';exact .inl (.inl (.inr ⟨ob,e⟩))
   | _=>cases h'
  | _=>cases h'
theorem lst_of {H:Hp}{p:Addr}{ys:List V}(h:lstAt H p=some ys):H p=some (.lst ys):=by
 unfold lstAt at h
 cases e:H p with
 | none=>rw [e] at h;cases h
 | some o=>
  rw [e] at h
  have h':lstO o=some ys:=h
  cases o with
  | lst xs=>cases h';rfl
  | _=>cases h'
theorem tup_of {H:Hp}{p:Addr}{ys:List V}(h:tupAt H p=some ys):H p=some (.tup ys):=by
 unfold tupAt at h
 cases e:H p with
 | none=>rw [e] at h;cases h
 | some o=>
  rw [e] at h
  have h':tupO o=some ys:=h
  cases o with
  | tup xs=>cases h';rfl
  | _=>cases h'
def kLen (H:Hp) (Q:VK):List V->Prop:=fun ys=>Q (.int ys.length) H
theorem m_kLen (H:Hp) (Q:VK) (ys:List V):kLen H Q ys=Q (.int ys.length) H:=rfl
def qLen (xs:List V) (H:Hp) (Q:VK):Prop:=match xs with
 | [.ref p]=>optK (itemsAt H p) (kLen H Q)
 | [.str z]=>z.length≤sizeLine∧Q (.int z.length) H
 | _=>False
theorem m_qLen (p:Addr) (H:Hp) (Q:VK):qLen [.ref p] H Q=optK (itemsAt H p) (kLen H Q):=rfl
theorem call_qLen:CallR X (.builtin "len") qLen:=by
 refine (call_len_seq.or call_len_str).mono fun xs H Q h=>?_
 unfold qLen at h
 split at h
 ·rename_i p
  obtain ⟨ys,e,q⟩:=optK_ex h
  exact .inl ⟨p,ys,rfl,items_seq e,q⟩
 ·rename_i z
  exact .inr ⟨z,rfl,h.1,h.2⟩
 ·exact h.elim
def kIx' (H:Hp) (Q:VK):V->Prop:=fun v=>Q v H
theorem m_kIx' (H:Hp) (Q:VK) (v:V):kIx' H Q v=Q v H:=rfl
def kIx (i:Int) (H:Hp) (Q:VK):List V->Prop:=fun ys=>optK (atI ys i) (kIx' H Q)
theorem m_kIx (i:Int) (H:Hp) (Q:VK) (ys:List V):kIx i H Q ys=optK (atI ys i) (kIx' H Q):=rfl
def qIx:R2:=fun x y H Q=>match x,y with
 | .ref p,.int i=>optK (itemsAt H p) (kIx i H Q)
 | _,_=>False
theorem m_qIx (p:Addr) (i:Int) (H:Hp) (Q:VK):qIx (.ref p) (.int i) H Q=optK (itemsAt H p) (kIx i H Q):=rfl
theorem ix_q:IxR X qIx:=by
 refine (ix_list.or ix_tup).mono fun x y H Q h=>?_
 unfold qIx at h
 split at h
 ·rename_i p i
  obtain ⟨ys,e,q⟩:=optK_ex h
  obtain ⟨v,e2,q2⟩:=optK_ex q
  rcases items_seq (K:=X.K) e with z|z
  ·exact .inl ⟨p,ys,i,v,rfl,rfl,z,e2,q2⟩
  ·exact .inr ⟨p,ys,i,v,rfl,rfl,z,e2,q2⟩
 ·exact h.elim
theorem atI_0 {α:Type}(a:α) (xs:List α):atI (a::xs) 0=some a:=atI_nat (j:=0) rfl
theorem atI_1 {α:Type}(a b:α) (xs:List α):atI (a::b::xs) 1=some b:=atI_nat (j:=1) rfl
def kNewL (H:Hp) (Q:VK):List V->Prop:=fun ys=>∀ l,H l=none->Q (.ref l) (upd H l (.lst ys))
def qList (xs:List V) (H:Hp) (Q:VK):Prop:=match xs with
 | [.ref p]=>optK (itemsAt H p) (kNewL H Q)
 | _=>False
theorem call_qList:CallR X (.type "list") qList:=by
 refine call_list_of.mono fun xs H Q h=>?_
 unfold qList at h
 split at h
 ·rename_i p
  obtain ⟨ys,e,q⟩:=optK_ex h
  exact ⟨p,ys,rfl,items_seq e,q⟩
 ·exact h.elim
def qAbs (xs:List V) (H:Hp) (Q:VK):Prop:=match xs with
 | [.int i]=>Q (.int (if i < 0 then -i else i)) H
 | _=>False
theorem m_qAbs (i:Int) (H:Hp) (Q:VK):qAbs [.int i] H Q=Q (.int (if i < 0 then -i else i)) H:=rfl
theorem call_qAbs:CallR X (.builtin "abs") qAbs:=by
 refine call_abs.mono fun xs H Q h=>?_
 unfold qAbs at h
 split at h
 ·rename_i i;exact ⟨i,rfl,h⟩
 ·exact h.elim
def qMax (xs:List V) (H:Hp) (Q:VK):Prop:=match xs with
 | [.int i,.int j]=>Q (.int (if i < j then j else i)) H
 | _=>False
theorem m_qMax (i j:Int) (H:Hp) (Q:VK):qMax [.int i,.int j] H Q=Q (.int (if i < j then j else i)) H:=rfl
theorem call_qMax (hc:X.calm=true):CallR X (.builtin "max") qMax:=by
 refine (call_max2 hc).mono fun xs H Q h=>?_
 unfold qMax at h
 split at h
 ·rename_i i j;exact ⟨i,j,rfl,h⟩
 ·exact h.elim
def qMin (xs:List V) (H:Hp) (Q:VK):Prop:=match xs with
 | [.int i,.int j]=>Q (.int (if j < i then j else i)) H
 | _=>False
theorem m_qMin (i j:Int) (H:Hp) (Q:VK):qMin [.int i,.int j] H Q=Q (.int (if j < i then j else i)) H:=rfl
theorem call_qMin (hc:X.calm=true):CallR X (.builtin "min") qMin:=by
 refine (call_min2 hc).mono fun xs H Q h=>?_
 unfold qMin at h
 split at h
 ·rename_i i j;exact ⟨i,j,rfl,h⟩
 ·exact h.elim
def tyO:HO->Option String
 | .lst _=>some "list"
 | .tup _=>some "tuple"
 | .frz _ (.lst _)=>some "list"
 | .dK _=>some "dict"
 | .dT _=>some "dict"
 | _=>none
theorem tyO_lst (xs:List V):tyO (.lst xs)=some "list":=rfl
theorem tyO_tup (xs:List V):tyO (.tup xs)=some "tuple":=rfl
def tyN (H:Hp):V->Option String
 | .non=>some "NoneType"
 | .bl _=>some "bool"
 | .int _=>some "int"
 | .str _=>some "str"
 | .ref p=>(H p).bind tyO
 | _=>none
theorem tyN_non (H:Hp):tyN H .non=some "NoneType":=rfl
theorem tyN_bl (H:Hp) (b:Bool):tyN H (.bl b)=some "bool":=rfl
theorem tyN_int (H:Hp) (i:Int):tyN H (.int i)=some "int":=rfl
theorem tyN_str (H:Hp) (x:Str):tyN H (.str x)=some "str":=rfl
theorem tyN_ref (H:Hp) (p:Addr):tyN H (.ref p)=(H p).bind tyO:=rfl
theorem tyN_ok {K:PySem.W.Frag}{H:Hp}{x:V}{t:String}(h:tyN H x=some t):TyOf K H x (.type t):=by
 cases x with
 | non=>cases h;exact .non
 | bl b=>cases h;exact .bl b
 | int i=>cases h;exact .int i
 | str x=>cases h;exact .str x
 | ref p=>
  have h':(H p).bind tyO=some t:=h
  cases e:H p with
  | none=>rw [e] at h';cases h'
  | some o=>
   rw [e] at h'
   have h2:tyO o=some t:=h'
   cases o with
   | lst xs=>cases h2;exact .lst e
   | tup xs=>cases h2;exact .tup e
   | dK xs=>cases h2;exact .dK e
   | dT xs=>cases h2;exact .dT e
   | frz ob u=>
    cases u with
    | lst xs=>cases h2;exact .frz e
    | _=>cases h2
   | _=>cases h2
 | _=>cases h
def kTypes:List String:=["NoneType", "bool", "int", "str", "list", "tuple", "dict"]
def isiN (t n:String):Bool:=t == n || (t == "bool" && n == "int")
theorem kit_isiN (K:PySem.W.Frag):∀ t∈kTypes,∀ n∈kTypes,PySem.W.kitOne K (.type t) (.type n)=some (isiN t n):=by
 intro t ht n hn
 unfold kTypes at ht hn
 simp only [List.mem_cons,List.not_mem_nil,or_false] at ht hn
 rcases ht with rfl|rfl|rfl|rfl|rfl|rfl|rfl<;>rcases hn with rfl|rfl|rfl|rfl|rfl|rfl|rfl<;>exact kitOne_ty K _ _ _ (by decide +kernel)
def kIsi (n:String) (H:Hp) (Q:VK):String->Prop:=fun t=>t∈kTypes∧Q (.bl (isiN t n)) H
def qIsi (xs:List V) (H:Hp) (Q:VK):Prop:=match xs with
 | [x,.ty n]=>n∈kTypes∧optK (tyN H x) (kIsi n H Q)
 | _=>False
theorem call_qIsi:CallR X (.builtin "isinstance") qIsi:=by
 refine call_isi.mono fun xs H Q h=>?_
 unfold qIsi at h
 split at h
 ·rename_i x n
  obtain ⟨hn,h⟩:=h
  obtain ⟨t,e,ht,q⟩:=optK_ex h
  exact ⟨x,n,_,_,rfl,tyN_ok e,kit_isiN _ t ht n hn,q⟩
 ·exact h.elim
theorem m_qIsi_int (x:V) (H:Hp) (Q:VK):qIsi [x,.ty "int"] H Q=optK (tyN H x) (kIsi "int" H Q):=by
 unfold qIsi;exact propext ⟨fun h=>h.2,fun h=>⟨by decide,h⟩⟩
theorem m_qIsi_bool (x:V) (H:Hp) (Q:VK):qIsi [x,.ty "bool"] H Q=optK (tyN H x) (kIsi "bool" H Q):=by
 unfold qIsi;exact propext ⟨fun h=>h.2,fun h=>⟨by decide,h⟩⟩
theorem m_qIsi_tuple (x:V) (H:Hp) (Q:VK):qIsi [x,.ty "tuple"] H Q=optK (tyN H x) (kIsi "tuple" H Q):=by
 unfold qIsi;exact propext ⟨fun h=>h.2,fun h=>⟨by decide,h⟩⟩
theorem m_qIsi_list (x:V) (H:Hp) (Q:VK):qIsi [x,.ty "list"] H Q=optK (tyN H x) (kIsi "list" H Q):=by
 unfold qIsi;exact propext ⟨fun h=>h.2,fun h=>⟨by decide,h⟩⟩
theorem m_kIsi_Ni (H:Hp) (Q:VK):kIsi "int" H Q "NoneType"=Q (.bl false) H:=propext ⟨fun h=>h.2,fun h=>⟨by decide,h⟩⟩
theorem m_kIsi_bb (H:Hp) (Q:VK):kIsi "bool" H Q "bool"=Q (.bl true) H:=propext ⟨fun h=>h.2,fun h=>⟨by decide,h⟩⟩
theorem m_kIsi_bi (H:Hp) (Q:VK):kIsi "int" H Q "bool"=Q (.bl true) H:=propext ⟨fun h=>h.2,fun h=>⟨by decide,h⟩⟩
theorem m_kIsi_ib (H:Hp) (Q:VK):kIsi "bool" H Q "int"=Q (.bl false) H:=propext ⟨fun h=>h.2,fun h=>⟨by decide,h⟩⟩
theorem m_kIsi_ii (H:Hp) (Q:VK):kIsi "int" H Q "int"=Q (.bl true) H:=propext ⟨fun h=>h.2,fun h=>⟨by decide,h⟩⟩
theorem m_kIsi_si (H:Hp) (Q:VK):kIsi "int" H Q "str"=Q (.bl false) H:=propext ⟨fun h=>h.2,fun h=>⟨by decide,h⟩⟩
theorem m_kIsi_li (H:Hp) (Q:VK):kIsi "int" H Q "list"=Q (.bl false) H:=propext ⟨fun h=>h.2,fun h=>⟨by decide,h⟩⟩
theorem m_kIsi_ll (H:Hp) (Q:VK):kIsi "list" H Q "list"=Q (.bl true) H:=propext ⟨fun h=>h.2,fun h=>⟨by decide,h⟩⟩
theorem m_kIsi_ti (H:Hp) (Q:VK):kIsi "int" H Q "tuple"=Q (.bl false) H:=propext ⟨fun h=>h.2,fun h=>⟨by decide,h⟩⟩
theorem m_kIsi_tt (H:Hp) (Q:VK):kIsi "tuple" H Q "tuple"=Q (.bl true) H:=propext ⟨fun h=>h.2,fun h=>⟨by decide,h⟩⟩
theorem m_kIsi_di (H:Hp) (Q:VK):kIsi "int" H Q "dict"=Q (.bl false) H:=propext ⟨fun h=>h.2,fun h=>⟨by decide,h⟩⟩
def kBM' (r:V->List V->Hp->VK->Prop) (x:V) (Q:VK):List V->Hp->Prop:=fun xs H=>r x xs H Q
theorem m_kBM' (r:V->List V->Hp->VK->Prop) (x:V) (Q:VK) (xs:List V) (H:Hp):kBM' r x Q xs H=r x xs H Q:=rfl
def kBM (K:PySem.W.Frag) (T:String) (r:V->List V->Hp->VK->Prop) (t:TA) (σ:St) (Q:VK):VK:=fun x H=>tyV K T x H∧t σ H (kBM' r x Q)
theorem m_kBM (K:PySem.W.Frag) (T:String) (r:V->List V->Hp->VK->Prop) (t:TA) (σ:St) (Q:VK) (x:V) (H:Hp):kBM K T r t σ Q x H=(tyV K T x H∧t σ H (kBM' r x Q)):=rfl
theorem m_tBM (K:PySem.W.Frag) (T:String) (r:V->List V->Hp->VK->Prop) (to:TE) (t:TA) (σ:St) (H:Hp) (Q:VK):tBM K T r to t σ H Q=to σ H (kBM K T r t σ Q):=rfl
def kBM0 (K:PySem.W.Frag) (T:String) (r:V->List V->Hp->VK->Prop) (Q:VK):VK:=fun x H=>tyV K T x H∧r x [] H Q
theorem m_kBM0 (K:PySem.W.Frag) (T:String) (r:V->List V->Hp->VK->Prop) (Q:VK) (x:V) (H:Hp):kBM0 K T r Q x H=(tyV K T x H∧r x [] H Q):=rfl
theorem m_tBM0 (K:PySem.W.Frag) (T:String) (r:V->List V->Hp->VK->Prop) (to:TE) (σ:St) (H:Hp) (Q:VK):tBM0 K T r to σ H Q=to σ H (kBM0 K T r Q):=rfl
theorem tyV_list (K:PySem.W.Frag) (p:Addr) (H:Hp) (h:(lstAt H p).isSome=true):tyV K "list" (.ref p) H=True:=by
 cases e:lstAt H p with
 | none=>rw [e] at h;cases h
 | some ys=>exact eq_true (.inl ⟨rfl,ys,SqL.of (lst_of e)⟩)
def kApp (l:Addr) (y:V) (H:Hp) (Q:VK):List V->Prop:=fun xs=>xs.length < sizeLine∧Q .non (upd H l (.lst (xs++[y])))
theorem m_kApp (l:Addr) (y:V) (H:Hp) (Q:VK) (xs:List V):kApp l y H Q xs=(xs.length < sizeLine∧Q .non (upd H l (.lst (xs++[y])))):=rfl
theorem m_rAppend (l:Addr) (y:V) (H:Hp) (Q:VK):rAppend (.ref l) [y] H Q=optK (lstAt H l) (kApp l y H Q):=by
 refine propext ⟨fun h=>?_,fun h=>?_⟩
 ·obtain ⟨_,xs,_,e1,e2,e3,a,b⟩:=h
  cases e1;cases e2
  have e:lstAt H l=some xs:=by unfold lstAt;rw [e3];rfl
  rw [e];exact ⟨a,b⟩
 ·obtain ⟨xs,e,a,b⟩:=optK_ex h
  exact ⟨l,xs,y,rfl,rfl,lst_of e,a,b⟩
def kRev (l:Addr) (H:Hp) (Q:VK):List V->Prop:=fun xs=>Q .non (upd H l (.lst xs.reverse))
theorem m_kRev (l:Addr) (H:Hp) (Q:VK) (xs:List V):kRev l H Q xs=Q .non (upd H l (.lst xs.reverse)):=rfl
theorem m_rReverse (l:Addr) (H:Hp) (Q:VK):rReverse (.ref l) [] H Q=optK (lstAt H l) (kRev l H Q):=by
 refine propext ⟨fun h=>?_,fun h=>?_⟩
 ·obtain ⟨_,xs,e1,_,e3,b⟩:=h
  cases e1
  have e:lstAt H l=some xs:=by unfold lstAt;rw [e3];rfl
  rw [e];exact b
 ·obtain ⟨xs,e,b⟩:=optK_ex h
  exact ⟨l,xs,rfl,rfl,lst_of e,b⟩
def kCat2 (xs:List V) (H:Hp) (Q:VK):List V->Prop:=fun ys=>xs.length+ys.length≤sizeLine∧∀ p,H p=none->Q (.ref p) (upd H p (.lst (xs++ys)))
def kCat1 (b:Addr) (H:Hp) (Q:VK):List V->Prop:=fun xs=>optK (lstAt H b) (kCat2 xs H Q)
theorem m_rCat (l b:Addr) (H:Hp) (Q:VK):rCat (.ref l) (.ref b) H Q=optK (lstAt H l) (kCat1 b H Q):=by
 refine propext ⟨fun h=>?_,fun h=>?_⟩
 ·obtain ⟨l',b',xs,zs,e1,e2,e3,e4,hz,hq⟩:=h
  cases e1;cases e2
  have e:lstAt H l=some xs:=by unfold lstAt;rw [e3];rfl
  have e':lstAt H b=some zs:=by unfold lstAt;rw [e4];rfl
  rw [e]
  show optK (lstAt H b) _
  rw [e'];exact ⟨hz,hq⟩
 ·obtain ⟨xs,e,q⟩:=optK_ex h
  obtain ⟨zs,e',a,q⟩:=optK_ex q
  exact ⟨l,b,xs,zs,rfl,rfl,lst_of e,lst_of e',a,q⟩
def kGT (n:Nat) (t:TGs) (σ:St) (H:Hp) (Q:St->Hp->Prop):List V->Prop:=fun xs=>xs.length=n∧t xs σ H Q
theorem m_kGT (n:Nat) (t:TGs) (σ:St) (H:Hp) (Q:St->Hp->Prop) (xs:List V):kGT n t σ H Q xs=(xs.length=n∧t xs σ H Q):=rfl
def qGT (n:Nat) (t:TGs):TG:=fun v σ H Q=>match v with
 | .ref a=>optK (tupAt H a) (kGT n t σ H Q)
 | _=>False
theorem m_qGT (n:Nat) (t:TGs) (a:Addr) (σ:St) (H:Hp) (Q:St->Hp->Prop):qGT n t (.ref a) σ H Q=optK (tupAt H a) (kGT n t σ H Q):=rfl
theorem gTup_q {K:PySem.W.Frag}{n:Nat}{t:TGs}{v:V}{σ:St}{H:Hp}{Q:St->Hp->Prop}(h:qGT n t v σ H Q):gTup K n t v σ H Q:=by
 unfold qGT at h
 split at h
 ·rename_i a
  obtain ⟨xs,e,hl,q⟩:=optK_ex h
  exact ⟨a,xs,rfl,SqT.of (tup_of e),hl,q⟩
 ·exact h.elim
def kBody (tb:TS) (D:Ends):St->Hp->Prop:=fun σ H=>tb D σ H
theorem m_kBody (tb:TS) (D:Ends) (σ:St) (H:Hp):kBody tb D σ H=tb D σ H:=rfl
def kFor (g:TG) (tb:TS) (D:Ends) (σ:St) (J:It) (H1:Hp):Prop:=∃ W:Nat->Nat->St->Hp->Prop,(∃ m,W 0 m σ H1)∧∀ i m σ H,W i m σ H →
 (J.stop i H∧D.nx σ H)∨(J.go i H∧∃ N:St->Hp->Prop,(∀ σ' H',N σ' H'->∃ m',m' < m∧W (i+1) m' σ' H')∧∀ x H',J.yld i H x H'->g x σ H' fun σ2 H2=>tb { D with nx:=N,ct:=N,bk:=D.nx } σ2 H2)
theorem m_tFor (wi:TI) (g:TG) (tb:TS) (D:Ends) (σ:St) (H:Hp):tFor wi g tb D σ H=wi σ H (kFor g tb D σ):=rfl
def kR1 (R:It->Hp->Prop):List V->Hp->Prop:=fun vs H=>∃ j:Int,vs=[.int j]∧-(2 ^ 62)≤j∧j < 2 ^ 62∧R (Itr 0 j.toNat) H
theorem m_kR1 (R:It->Hp->Prop) (j:Int) (H:Hp):kR1 R [.int j] H=(-(2 ^ 62)≤j∧j < 2 ^ 62∧R (Itr 0 j.toNat) H):=propext ⟨fun ⟨_,e,q⟩=>by cases e;exact q,fun q=>⟨j,rfl,q⟩⟩
theorem m_iRng1 (ta:TA) (σ:St) (H:Hp) (R:It->Hp->Prop):iRng1 ta σ H R=ta σ H (kR1 R):=rfl
def kR2 (R:It->Hp->Prop):List V->Hp->Prop:=fun vs H=>∃ i j:Int,vs=[.int i,.int j]∧(-(2 ^ 62)≤i∧i < 2 ^ 62∧-(2 ^ 62)≤j∧j < 2 ^ 62)∧R (Itr i (j - i).toNat) H
theorem m_kR2 (R:It->Hp->Prop) (i j:Int) (H:Hp):kR2 R [.int i,.int j] H=((-(2 ^ 62)≤i∧i < 2 ^ 62∧-(2 ^ 62)≤j∧j < 2 ^ 62)∧R (Itr i (j - i).toNat) H):=propext ⟨fun ⟨_,_,e,q⟩=>by cases e;exact q,fun q=>⟨i,j,rfl,q⟩⟩
theorem m_iRng2 (ta:TA) (σ:St) (H:Hp) (R:It->Hp->Prop):iRng2 ta σ H R=ta σ H (kR2 R):=rfl
def kISq' (K:PySem.W.Frag) (a:Addr) (H:Hp) (R:It->Hp->Prop):HO->Prop:=fun o=>match o with
 | .lst _=>R (Itl K a) H
 | .frz _ (.lst _)=>R (Itl K a) H
 | .tup _=>R (Itt K a) H
 | _=>False
theorem m_kISq'_l (K:PySem.W.Frag) (a:Addr) (H:Hp) (R:It->Hp->Prop) (xs:List V):kISq' K a H R (.lst xs)=R (Itl K a) H:=rfl
theorem m_kISq'_t (K:PySem.W.Frag) (a:Addr) (H:Hp) (R:It->Hp->Prop) (xs:List V):kISq' K a H R (.tup xs)=R (Itt K a) H:=rfl
def kISq (K:PySem.W.Frag) (R:It->Hp->Prop):VK:=fun x H=>match x with
 | .ref a=>optK (H a) (kISq' K a H R)
 | _=>False
theorem m_kISq (K:PySem.W.Frag) (R:It->Hp->Prop) (a:Addr) (H:Hp):kISq K R (.ref a) H=optK (H a) (kISq' K a H R):=rfl
def iSeq (K:PySem.W.Frag) (tl:TE):TI:=fun σ H R=>tl σ H (kISq K R)
theorem m_iSeq (K:PySem.W.Frag) (tl:TE) (σ:St) (H:Hp) (R:It->Hp->Prop):iSeq K tl σ H R=tl σ H (kISq K R):=rfl
theorem pi_seq {tg l:Expr}{tl:TE}(hl:PE X l tl):PI X tg l (iSeq X.K tl):=by
 intro pins s σ H R I h
 refine thn (hl pins s σ H _ I h) fun v s1 ⟨x,H1,I1,r1,q1⟩=>?_
 unfold kISq at q1
 split at q1
 ·rename_i a
  cases r1
  obtain ⟨o,e,q⟩:=optK_ex q1
  have fp:∀ b∈[s1.heap.objs.size],FpOk X pins H1 b:=fun b hb=>by
   have e:b=s1.heap.objs.size:=by simpa using hb
   subst e
   exact I1.fpOk (Nat.le_refl _) (I1.hok.fresh (Nat.le_refl _))
  have lst:∀ xs,SqL X.K H1 a xs->R (Itl X.K a) H1->wpAny (model X.prog X.w) X.A (pyIter (.ref a)) (PIE X pins σ tg R) X.xe s1:=fun xs hq q=>by
   obtain ⟨its,rv,p,hz⟩:=I1.list hq
   refine wpAny_pyIter_list p.isList ?_
   exact ⟨s1.heap.objs.size,[s1.heap.objs.size],_,_,H1,rfl,I1.kept (t':=s1.toks) fun b o e=>Heap.get?_push_of_some _ e,turn_list a _,⟨_,Heap.get?_push_size _ rfl,rfl,rfl⟩,fp,q⟩
  unfold kISq' at q
  split at q
  ·exact lst _ (SqL.of e) q
  ·exact lst _ (.inl (.inr ⟨_,e⟩)) q
  ·obtain ⟨its,rv,p,hz⟩:=I1.tuple (SqT.of e)
   refine wpAny_pyIter_tuple (show s1.heap.IsTuple a its.toArray from p) ?_
   exact ⟨s1.heap.objs.size,[s1.heap.objs.size],_,_,H1,rfl,I1.kept (t':=s1.toks) fun b o e=>Heap.get?_push_of_some _ e,turn_tuple a _,⟨_,Heap.get?_push_size _ rfl,rfl,rfl⟩,fp,q⟩
  ·exact q.elim
 ·exact q1.elim
theorem for_rng {lo:Int}{n:Nat}{g:TG}{tb:TS}{nx:St->Hp->Prop}{rt:VK}{bk ct:St->Hp->Prop}{σ:St}{H:Hp}(Pv:Nat->St->Hp->Prop) (h0:Pv 0 σ H)
  (hs:∀ i σ H,i < n->Pv i σ H->g (.int (lo+i)) σ H (kBody tb ⟨Pv (i+1),rt,nx,Pv (i+1)⟩)) (hd:∀ σ H,Pv n σ H->nx σ H):kFor g tb ⟨nx,rt,bk,ct⟩ σ (Itr lo n) H:=for_range Pv h0 hs hd
theorem for_lst {K:PySem.W.Frag}{a:Addr}{xs:List V}{g:TG}{tb:TS}{nx:St->Hp->Prop}{rt:VK}{bk ct:St->Hp->Prop}{σ:St}{H:Hp}(Pv:Nat->St->Hp->Prop) (h0:Pv 0 σ H) (hl:∀ i σ H,i≤xs.length->Pv i σ H->H a=some (.lst xs))
  (hs:∀ i x σ H,xs[i]? = some x->Pv i σ H->g x σ H (kBody tb ⟨Pv (i+1),rt,nx,Pv (i+1)⟩)) (hd:∀ σ H,Pv xs.length σ H->nx σ H):kFor g tb ⟨nx,rt,bk,ct⟩ σ (Itl K a) H:=for_list (xs:=xs) Pv h0 (fun i σ H hi p=>SqL.of (hl i σ H hi p)) hs hd
end
end L2
set_option Elab.async false
set_option linter.all false
set_option maxRecDepth 100000
set_option maxHeartbeats 4000000
namespace L2
open PySem PySem.Spec PyProof.Rows
theorem m_tCallX (sp:Sp) (dvs:List V) (E:St->XK) (t:TA) (σ:St) (H:Hp) (Q:VK):tCallX sp dvs E t σ H Q=t σ H (kCall sp dvs (E σ) Q):=rfl
def kTry (th:Value->Option Addr->TS) (D:Ends):St->XK:=fun σ cls d H=>th cls d D σ H
theorem m_kTry (th:Value->Option Addr->TS) (D:Ends) (σ:St) (cls:Value) (d:Option Addr) (H:Hp):kTry th D σ cls d H=th cls d D σ H:=rfl
theorem m_tTry (tb:(St->XK)->TS) (th:Value->Option Addr->TS) (D:Ends) (σ:St) (H:Hp):tTry tb th D σ H=tb (kTry th D) D σ H:=rfl
def kRaise (C:Addr) (E:XK):List V->Hp->Prop:=fun vs H=>vs.length≤sizeLine∧E (.ref C) none H
theorem m_kRaise (C:Addr) (E:XK) (vs:List V) (H:Hp):kRaise C E vs H=(vs.length≤sizeLine∧E (.ref C) none H):=rfl
theorem m_tRaise (C:Addr) (E:St->XK) (t:TA) (D:Ends) (σ:St) (H:Hp):tRaise C E t D σ H=t σ H (kRaise C (E σ)):=rfl
def kSetE (i:Nat) (tb:TS) (D:Ends):St->Hp->Prop:=fun σ H=>tb D σ H
theorem m_kSetE (i:Nat) (tb:TS) (D:Ends) (σ:St) (H:Hp):kSetE i tb D σ H=tb D σ H:=rfl
def kExcAs (i:Nat) (tb:TS) (tr:Value->Option Addr->TS) (cls:Value) (d:Option Addr) (D:Ends) (σ:St) (H:Hp):Bool->Prop:=fun b=>if b=true then ∀ (e:Addr) (oe:Obj),H e=none->oe.cls=cls->oe.dict=d->(∃ vs,oe.data=.fields vs)->gName i (.ref e) σ (upd H e (excO oe)) (kSetE i tb (D.del i)) else tr cls d D σ H
theorem m_kExcAs (i:Nat) (tb:TS) (tr:Value->Option Addr->TS) (cls:Value) (d:Option Addr) (D:Ends) (σ:St) (H:Hp) (b:Bool):kExcAs i tb tr cls d D σ H b=(if b=true then ∀ (e:Addr) (oe:Obj),H e=none->oe.cls=cls->oe.dict=d->(∃ vs,oe.data=.fields vs)->gName i (.ref e) σ (upd H e (excO oe)) (kSetE i tb (D.del i)) else tr cls d D σ H):=rfl
theorem m_tExcAs (K:PySem.W.Frag) (C:Value) (i:Nat) (tb:TS) (tr:Value->Option Addr->TS) (cls:Value) (d:Option Addr) (D:Ends) (σ:St) (H:Hp):tExcAs K C i tb tr cls d D σ H=optK (PySem.W.exmOne K cls C) (kExcAs i tb tr cls d D σ H):=by
 refine propext ⟨fun ⟨b,e,h⟩=>?_,fun h=>?_⟩
 ·rw [e];exact h
 ·obtain ⟨b,e,h⟩:=optK_ex h
  exact ⟨b,e,h⟩
theorem m_del (i:Nat) (nx:St->Hp->Prop) (rt:VK) (bk ct:St->Hp->Prop):Ends.del i ⟨nx,rt,bk,ct⟩=⟨kDel i nx,rt,kDel i bk,kDel i ct⟩:=rfl
theorem m_dictO_none (H:Hp):dictO H none=True:=rfl
def refC:Value->Option Addr
 | .ref C=>some C
 | _=>none
theorem refC_ref (C:Addr):refC (.ref C)=some C:=rfl
def clsV:V->Option Value
 | .ref C=>some (.ref C)
 | .ty n=>some (.type n)
 | _=>none
theorem clsV_ref (C:Addr):clsV (.ref C)=some (.ref C):=rfl
theorem clsV_ty (n:String):clsV (.ty n)=some (.type n):=rfl
def kE4 (H:Hp) (Q:VK):Bool->Prop:=fun b=>Q (.bl b) H
theorem m_kE4 (H:Hp) (Q:VK) (b:Bool):kE4 H Q b=Q (.bl b) H:=rfl
def kE3 (K:PySem.W.Frag) (C:Addr) (H:Hp) (Q:VK):Value->Prop:=fun u=>optK (PySem.W.kitOne K (.ref C) u) (kE4 H Q)
theorem m_kE3 (K:PySem.W.Frag) (C:Addr) (H:Hp) (Q:VK) (u:Value):kE3 K C H Q u=optK (PySem.W.kitOne K (.ref C) u) (kE4 H Q):=rfl
def kE2 (K:PySem.W.Frag) (oe:Obj) (D:V) (H:Hp) (Q:VK):Addr->Prop:=fun C=>dictO H oe.dict∧(∃ vs,oe.data=.fields vs)∧ECls K C∧optK (clsV D) (kE3 K C H Q)
theorem m_kE2 (K:PySem.W.Frag) (oe:Obj) (D:V) (H:Hp) (Q:VK) (C:Addr):kE2 K oe D H Q C=(dictO H oe.dict∧(∃ vs,oe.data=.fields vs)∧ECls K C∧optK (clsV D) (kE3 K C H Q)):=rfl
def kE1 (K:PySem.W.Frag) (D:V) (H:Hp) (Q:VK):HO->Prop:=fun o=>match o with
 | .frz oe (.ext _)=>optK (refC oe.cls) (kE2 K oe D H Q)
 | _=>False
theorem m_kE1 (K:PySem.W.Frag) (D:V) (H:Hp) (Q:VK) (oe:Obj):kE1 K D H Q (excO oe)=optK (refC oe.cls) (kE2 K oe D H Q):=rfl
def qIsE (K:PySem.W.Frag) (xs:List V) (H:Hp) (Q:VK):Prop:=match xs with
 | [.ref e,D]=>optK (H e) (kE1 K D H Q)
 | _=>False
theorem m_qIsE (K:PySem.W.Frag) (e:Addr) (D:V) (H:Hp) (Q:VK):qIsE K [.ref e,D] H Q=optK (H e) (kE1 K D H Q):=rfl
theorem call_qIsE {X:Cx}:CallR X (.builtin "isinstance") (qIsE X.K):=by
 refine call_isiE.mono fun xs H Q h=>?_
 unfold qIsE at h
 split at h
 ·rename_i e D
  obtain ⟨o,h1,h⟩:=optK_ex h
  unfold kE1 at h
  split at h
  ·rename_i oe φ
   obtain ⟨C,h2,h⟩:=optK_ex h
   obtain ⟨h3,h4,h5,h⟩:=h
   obtain ⟨u,h6,h⟩:=optK_ex h
   obtain ⟨b,h7,h⟩:=optK_ex h
   have hc:oe.cls=.ref C:=by
    cases q:oe.cls with
    | ref C'=>rw [q] at h2;cases h2;rfl
    | _=>rw [q] at h2;cases h2
   refine ⟨e,oe,C,D,b,rfl,⟨_,h1⟩,hc,h3,h4,h5,⟨u,?_,h7⟩,h⟩
   cases D with
   | ref a=>cases h6;rfl
   | ty n=>cases h6;rfl
   | _=>cases h6
  ·exact h.elim
 ·exact h.elim
def kC3 (D:Addr) (ys:List V) (N:List V->Hp->Prop):VK:=fun y H=>H D=some (.lst ys)∧ys.length < sizeLine∧N (ys++[y]) (upd H D (.lst (ys++[y])))
def kC2 (te:TE) (σ2:St) (D:Addr) (ys:List V) (N:List V->Hp->Prop):Bool->Hp->Prop:=fun b H=>if b=true then te σ2 H (kC3 D ys N) else N ys H
def kC1 (k:Nat) (tt:TT) (te:TE) (σ:St) (D:Addr) (ys:List V) (N:List V->Hp->Prop):St->Hp->Prop:=fun σ2 H=>(∃ vs:St,vs.length=k∧σ2=vs++σ)∧tt σ2 H (kC2 te σ2 D ys N)
theorem m_tYes (σ:St) (H:Hp) (Q:Bool->Hp->Prop):tYes σ H Q=Q true H:=rfl
def kComp (k:Nat) (g:TG) (tt:TT) (te:TE) (σ:St) (Q:VK):It->Hp->Prop:=fun J H1=>∀ D,H1 D=none->∃ W:Nat->Nat->List V->Hp->Prop,(∃ m,W 0 m [] (upd H1 D (.lst [])))∧∀ i m ys H,W i m ys H →
 (J.stop i H∧Q (.ref D) H)∨(J.go i H∧∃ N:List V->Hp->Prop,(∀ ys' H',N ys' H'->∃ m',m' < m∧W (i+1) m' ys' H') ∧
  ∀ x H',J.yld i H x H'->g x (List.replicate k none++σ) H' (kC1 k tt te σ D ys N))
theorem m_tComp (k:Nat) (wi:TI) (g:TG) (tt:TT) (te:TE) (σ:St) (H:Hp) (Q:VK):tComp k wi g tt te σ H Q=wi σ H (kComp k g tt te σ Q):=rfl
def kSetC (i:Nat) (σ:St) (nx:St->Hp->Prop):VK:=fun x H=>gName i x σ H nx
theorem m_kSetC (i:Nat) (σ:St) (nx:St->Hp->Prop) (x:V) (H:Hp):kSetC i σ nx x H=gName i x σ H nx:=rfl
theorem m_tSetC (i:Nat) (te:TE) (nx:St->Hp->Prop) (rt:VK) (bk ct:St->Hp->Prop) (σ:St) (H:Hp):tSetC i te ⟨nx,rt,bk,ct⟩ σ H=te σ H (kSetC i σ nx):=rfl
section
variable {k:Nat}{g:TG}{tt:TT}{te:TE}{σ:St}{Q:VK}{H:Hp}{K:PySem.W.Frag}
end
def allSome {α:Type}:List (Option α)->Option (List α)
 | []=>some []
 | o::r=>o.bind fun x=>(allSome r).map fun xs=>x::xs
def datO (f:V->Option PyData):HO->Option PyData
 | .lst xs=>(allSome (xs.map f)).map .list
 | .tup xs=>(allSome (xs.map f)).map .tuple
 | _=>none
def datF (H:Hp) (f:V->Option PyData):V->Option PyData
 | .non=>some .none
 | .bl b=>some (.bool b)
 | .int i=>some (.int i)
 | .str z=>if PyData.strOk z=true then some (.str z) else none
 | .ref p=>(H p).bind (datO f)
 | _=>none
def datV (H:Hp):Nat->V->Option PyData
 | 0,_=>none
 | n+1,x=>datF H (datV H n) x
def noD:V->Option PyData:=fun _=>none
theorem m_datV (H:Hp) (x:V):datV H 6 x=datF H (datF H (datF H (datF H (datF H (datF H noD))))) x:=rfl
theorem m_datV_str (H:Hp) (n:Nat) (z:Str):datV H (n+1) (.str z)=if PyData.strOk z=true then some (.str z) else none:=rfl
theorem m_datV_ref (H:Hp) (n:Nat) (p:Addr):datV H (n+1) (.ref p)=(H p).bind (datO (datV H n)):=rfl
theorem m_datF_ref (H:Hp) (f:V->Option PyData) (p:Addr):datF H f (.ref p)=(H p).bind (datO f):=rfl
theorem m_datO_lst (f:V->Option PyData) (xs:List V):datO f (.lst xs)=(allSome (xs.map f)).map .list:=rfl
theorem m_datO_tup (f:V->Option PyData) (xs:List V):datO f (.tup xs)=(allSome (xs.map f)).map .tuple:=rfl
theorem m_allSome_nil {α:Type}:allSome ([]:List (Option α))=some []:=rfl
theorem m_allSome_cons {α:Type}(x:α) (r:List (Option α)):allSome (some x::r)=(allSome r).map fun xs=>x::xs:=rfl
theorem allSome_ints (H:Hp) (f:V->Option PyData):∀ ns:List Int,allSome ((ns.map V.int).map (datF H f))=some (ns.map PyData.int)
 | []=>rfl
 | i::r=>by
  show (allSome ((r.map V.int).map (datF H f))).map _=_
  rw [allSome_ints H f r];rfl
theorem datVs_ok {K:PySem.W.Frag}{H:Hp}{n:Nat}(ih:∀ x d,datV H n x=some d->DatV K H x d∧d.canLay0=true∧d.depth≤n):∀ (xs:List V) (ds:List PyData),allSome (xs.map (datV H n))=some ds->DatVs K H xs ds∧PyData.canLayAll0 ds=true∧PyData.depthAll ds≤n
 | [],ds,h=>by cases h;exact ⟨.nil,rfl,Nat.zero_le _⟩
 | x::xs,ds,h=>by
  have h':(datV H n x).bind (fun d=>(allSome (xs.map (datV H n))).map fun ds=>d::ds)=some ds:=h
  cases e:datV H n x with
  | none=>rw [e] at h';cases h'
  | some d=>
   rw [e] at h'
   have h2:(allSome (xs.map (datV H n))).map (fun ds=>d::ds)=some ds:=h'
   cases e2:allSome (xs.map (datV H n)) with
   | none=>rw [e2] at h2;cases h2
   | some es=>
    rw [e2] at h2
    cases h2
    obtain ⟨a,b,c⟩:=ih x d e
    obtain ⟨a',b',c'⟩:=datVs_ok ih xs es e2
    exact ⟨.cons a a',by simp [PyData.canLayAll0,b,b'],by simp only [PyData.depthAll];omega⟩
theorem datV_ok {K:PySem.W.Frag}{H:Hp}:∀ (n:Nat) (x:V) (d:PyData),datV H n x=some d->DatV K H x d∧d.canLay0=true∧d.depth≤n
 | 0,x,d,h=>by cases h
 | n+1,x,d,h=>by
  cases x with
  | non=>cases h;exact ⟨.non,rfl,Nat.zero_le _⟩
  | bl b=>cases h;exact ⟨.bl b,rfl,Nat.zero_le _⟩
  | int i=>cases h;exact ⟨.int i,rfl,Nat.zero_le _⟩
  | str z=>
   rw [m_datV_str] at h
   split at h
   ·rename_i hz;cases h;exact ⟨.str z,by simpa [PyData.canLay0] using hz,Nat.zero_le _⟩
   ·cases h
  | ref p=>
   rw [m_datV_ref] at h
   cases e:H p with
   | none=>rw [e] at h;cases h
   | some o=>
    rw [e] at h
    have h':datO (datV H n) o=some d:=h
    cases o with
    | lst xs=>
     rw [m_datO_lst] at h'
     cases e2:allSome (xs.map (datV H n)) with
     | none=>rw [e2] at h';cases h'
     | some ds=>
      rw [e2] at h';cases h'
      obtain ⟨a,b,c⟩:=datVs_ok (K:=K) (datV_ok n) xs ds e2
      exact ⟨.lst (SqL.of e) a,by simpa [PyData.canLay0] using b,by simp only [PyData.depth];omega⟩
    | tup xs=>
     rw [m_datO_tup] at h'
     cases e2:allSome (xs.map (datV H n)) with
     | none=>rw [e2] at h';cases h'
     | some ds=>
      rw [e2] at h';cases h'
      obtain ⟨a,b,c⟩:=datVs_ok (K:=K) (datV_ok n) xs ds e2
      exact ⟨.tup (SqT.of e) a,by simpa [PyData.canLay0] using b,by simp only [PyData.depth];omega⟩
    | _=>cases h'
  | _=>cases h
theorem datV_shaped {K:PySem.W.Frag}{H:Hp}{n:Nat}{x:V}{d:PyData}(hn:n≤64) (h:datV H n x=some d):DatV K H x d∧SeqAt.shaped d=true:=by
 obtain ⟨a,b,c⟩:=datV_ok (K:=K) n x d h
 refine ⟨a,?_⟩
 unfold SeqAt.shaped
 rw [b,decide_eq_true (show d.depth≤64 by omega)]
 rfl
def kEq2 (neg:Bool) (H:Hp) (Q:VK) (d:PyData):PyData->Prop:=fun e=>Q (.bl (if neg=true then !PyData.eqv d e else PyData.eqv d e)) H
theorem m_kEq2_t (H:Hp) (Q:VK) (d e:PyData):kEq2 true H Q d e=Q (.bl (!PyData.eqv d e)) H:=rfl
def kEq1 (neg:Bool) (y:V) (H:Hp) (Q:VK):PyData->Prop:=fun d=>optK (datV H 6 y) (kEq2 neg H Q d)
theorem m_kEq1 (neg:Bool) (y:V) (H:Hp) (Q:VK) (d:PyData):kEq1 neg y H Q d=optK (datV H 6 y) (kEq2 neg H Q d):=rfl
def qEq (neg:Bool):R2:=fun x y H Q=>if scal x y=true then Q (.bl (if neg=true then !decide (x=y) else decide (x=y))) H else optK (datV H 6 x) (kEq1 neg y H Q)
theorem m_qEq_refr (neg:Bool) (p:Addr) (x:V) (H:Hp) (Q:VK):qEq neg x (.ref p) H Q=optK (datV H 6 x) (kEq1 neg (.ref p) H Q):=by
 show (if scal x (.ref p)=true then _ else _)=_
 rw [if_neg (by cases x<;>exact Bool.false_ne_true)]
theorem m_qEq_int_int (i:Int) (j:Int) (H:Hp) (Q:VK):qEq false (V.int i) (V.int j) H Q=Q (.bl (decide (i=j))) H:=by
 have e:decide (((V.int i):V)=(V.int j))=decide (i=j):=by simp
 show Q (.bl (if false=true then !decide ((V.int i)=(V.int j)) else decide ((V.int i)=(V.int j)))) H=_
 rw [e];rfl
theorem m_qNe_int_int (i:Int) (j:Int) (H:Hp) (Q:VK):qEq true (V.int i) (V.int j) H Q=Q (.bl (!decide (i=j))) H:=by
 have e:decide (((V.int i):V)=(V.int j))=decide (i=j):=by simp
 show Q (.bl (if true=true then !decide ((V.int i)=(V.int j)) else decide ((V.int i)=(V.int j)))) H=_
 rw [e];rfl
section
variable {X:Cx}
theorem op_qEq (hu:X.A.units+64 < cLine):OpR X (compareOp .Eq) (qEq false):=by
 refine (op_eq.or (op_eqD hu)).mono fun x y H Q h=>?_
 unfold qEq at h
 split at h
 ·rename_i hs;exact .inl ⟨hs,h⟩
 obtain ⟨d,e1,h⟩:=optK_ex h
 obtain ⟨e,e2,h⟩:=optK_ex h
 obtain ⟨a,b⟩:=datV_shaped (K:=X.K) (by decide) e1
 obtain ⟨a',b'⟩:=datV_shaped (K:=X.K) (by decide) e2
 exact .inr ⟨d,e,a,a',b,b',h⟩
theorem op_qNe (hu:X.A.units+64 < cLine):OpR X (compareOp .NotEq) (qEq true):=by
 refine (op_ne.or (op_neD hu)).mono fun x y H Q h=>?_
 unfold qEq at h
 split at h
 ·rename_i hs;exact .inl ⟨hs,h⟩
 obtain ⟨d,e1,h⟩:=optK_ex h
 obtain ⟨e,e2,h⟩:=optK_ex h
 obtain ⟨a,b⟩:=datV_shaped (K:=X.K) (by decide) e1
 obtain ⟨a',b'⟩:=datV_shaped (K:=X.K) (by decide) e2
 exact .inr ⟨d,e,a,a',b,b',h⟩
end
theorem eqv_int (i j:Int):PyData.eqv (.int i) (.int j)=decide (i=j):=Bool.beq_eq_decide_eq i j
theorem eqv_tuple (xs ys:List PyData):PyData.eqv (.tuple xs) (.tuple ys)=PyData.eqvAll xs ys:=by simp only [PyData.eqv]
theorem eqv_list (xs ys:List PyData):PyData.eqv (.list xs) (.list ys)=PyData.eqvAll xs ys:=by simp only [PyData.eqv]
theorem eqvAll_nil:PyData.eqvAll [] []=true:=by simp only [PyData.eqvAll]
theorem eqvAll_cons (x y:PyData) (xs ys:List PyData):PyData.eqvAll (x::xs) (y::ys)=(PyData.eqv x y && PyData.eqvAll xs ys):=by simp only [PyData.eqvAll]
theorem eqvAll_l (x:PyData) (xs:List PyData):PyData.eqvAll (x::xs) []=false:=by simp only [PyData.eqvAll]
theorem eqvAll_r (x:PyData) (xs:List PyData):PyData.eqvAll [] (x::xs)=false:=by simp only [PyData.eqvAll]
theorem eqvAll_ints:∀ ns ms:List Int,PyData.eqvAll (ns.map PyData.int) (ms.map PyData.int)=decide (ns=ms)
 | [],[]=>by rw [List.map_nil,eqvAll_nil];rfl
 | [],_::_=>by rw [List.map_nil,List.map_cons,eqvAll_r];rfl
 | _::_,[]=>by rw [List.map_nil,List.map_cons,eqvAll_l];rfl
 | i::r,j::t=>by
  rw [List.map_cons,List.map_cons,eqvAll_cons,eqv_int,eqvAll_ints r t]
  by_cases h:i=j<;>by_cases h2:r=t<;>simp [h,h2]
end L2
set_option Elab.async false
set_option linter.all false
set_option maxRecDepth 100000
set_option maxHeartbeats 4000000
namespace L2
open PySem PySem.Spec PyProof.Rows
theorem CDiv_eq (i j:Int):CDiv i j=(0 < j∧j < 1073741824):=rfl
theorem CMul_l (i j:Int) (h:-18446744073709551616 < i) (h':i < 18446744073709551616):CMul i j=True:=eq_true (.inl ⟨by omega,by omega⟩)
theorem CMul_r (i j:Int) (h:-18446744073709551616 < j) (h':j < 18446744073709551616):CMul i j=True:=eq_true (.inr ⟨by omega,by omega⟩)
theorem CPow_10 (j:Int):CPow 10 j=(0≤j∧j≤1000000):=propext ⟨fun h=>⟨h.1,h.2.1⟩,fun h=>⟨h.1,h.2,by decide⟩⟩
theorem lenLe (n:Nat) (h:n≤1000):(n≤sizeLine)=True:=eq_true (Nat.le_of_lt (small1000 h))
theorem Ext.of {H H':Hp}(h:∀ a,(H a).isSome=true->H' a=H a):Ext H H':=⟨h,fun K a xs q=>by
 have s:Same H H':=fun b o e=>(h b (by rw [e];rfl)).trans e
 exact s.seq q⟩
theorem Ext.same {H H':Hp}(h:Ext H H'):Same H H':=fun b o e=>(h.1 b (by rw [e];rfl)).trans e
theorem Same.ext {H H':Hp}(h:Same H H'):Ext H H':=Ext.of fun a q=>by
 cases e:H a with
 | none=>rw [e] at q;cases q
 | some o=>exact h a o e
theorem Ext.refl (H:Hp):Ext H H:=(Same.refl H).ext
theorem Ext.trans {H H1 H2:Hp}(a:Ext H H1) (b:Ext H1 H2):Ext H H2:=(a.same.trans b.same).ext
theorem Ext.new {H:Hp}{p:Addr}{o:HO}(h:H p=none):Ext H (upd H p o):=(same_upd h).ext
theorem Ext.put {H H1:Hp}{p:Addr}{o:HO}(a:Ext H H1) (h:H p=none):Ext H (upd H1 p o):=Same.ext fun b u e=>by
 rw [upd_ne (ne_of_none e h)];exact a.same b u e
theorem Ext.free {H H1:Hp}{p:Addr}(a:Ext H H1) (h:H1 p=none):H p=none:=a.same.free h
theorem Ext.at {H H1:Hp}{p:Addr}{o:HO}(a:Ext H H1) (h:H p=some o):H1 p=some o:=a.same _ _ h
theorem optK_at {xs:List V}{i:Int}{k:V->Prop}(h0:0≤i) (h1:i < xs.length) (h:∀ v∈xs,k v):optK (atI xs i) k:=by
 obtain ⟨v,e,m⟩:=atI_lt xs i h0 h1
 rw [e];exact h v m
theorem cx_K (CX:CXT) (P:Program) (w:World) (K:PySem.W.Frag) (mg:Str->Option Value) (base:Heap) (N:List Str) (qual:Str) (scope:Scope) (f:Addr) (cd:Value) (A:Around) (outer:List Env) (s:Shared) (H:Hp) (E:XK):(cxOf CX P w K mg base N qual scope f cd A outer s H E).K=K:=rfl
theorem call_qIsE' {X:Cx}{K:PySem.W.Frag}(h:X.K=K):CallR X (.builtin "isinstance") (qIsE K):=h ▸ call_qIsE
theorem cls_some {K:PySem.W.Frag}{C:Addr}(h:PySem.W.hasDictIn K C=true):(PySem.W.clsIn K C).isSome=true:=by
 obtain ⟨cd,hc,_⟩:=PySem.W.any_some h
 rw [hc];rfl
theorem kit_yes {K:PySem.W.Frag}{A C:Addr}(h1:PySem.W.hasDictIn K C=true) (h2:PySem.W.typeIn K (.ref C)=some (.type "type")) (h3:PySem.W.subIn K (.ref A) (.ref C)=some true):PySem.W.kitOne K (.ref A) (.ref C)=some true:=by
 unfold PySem.W.kitOne
 split
 ·rfl
 ·show (if _ then _ else _)=_
  rw [cls_some h1,h2,if_pos (by decide),h3]
theorem kit_no {K:PySem.W.Frag}{A C:Addr}(h0:(A == C)=false) (h1:PySem.W.hasDictIn K C=true) (h2:PySem.W.typeIn K (.ref C)=some (.type "type")) (h3:PySem.W.subIn K (.ref A) (.ref C)=some false):PySem.W.kitOne K (.ref A) (.ref C)=some false:=by
 unfold PySem.W.kitOne
 rw [if_neg (by intro z;have e:A=C:=Value.ref.inj (beq_iff_eq.mp z);rw [e] at h0;simp at h0)]
 show (if _ then _ else _)=_
 rw [cls_some h1,h2,if_pos (by decide),h3]
theorem kit_ty {K:PySem.W.Frag}{A:Addr}{n:String}{b:Bool}(h1:PySem.W.kitMeta n=true) (h3:PySem.W.subIn K (.ref A) (.type n)=some b):PySem.W.kitOne K (.ref A) (.type n)=some b:=by
 unfold PySem.W.kitOne
 rw [if_neg (by intro z;have e:=beq_iff_eq.mp z;cases e)]
 show (if _ then _ else _)=_
 rw [if_pos h1,h3]
def isW (H:Hp):V->Option Bool
 | .int _=>some true
 | .bl _=>some false
 | .non=>some false
 | .str _=>some false
 | .ref p=>((H p).bind tyO).map fun _=>false
 | _=>none
theorem isW_int' (H:Hp) (i:Int):isW H (.int i)=some true:=rfl
theorem isW_ref' (H:Hp) (p:Addr):isW H (.ref p)=((H p).bind tyO).map fun _=>false:=rfl
theorem isW_obj {H:Hp}{p:Addr}{b:Bool}(h:isW H (.ref p)=some b):b=false∧∃ o,H p=some o∧(tyO o=some "list" ∨ tyO o=some "tuple" ∨ tyO o=some "dict"):=by
 rw [isW_ref'] at h
 cases e:H p with
 | none=>rw [e] at h;cases h
 | some o=>
  rw [e] at h
  have h':(tyO o).map (fun _=>false)=some b:=h
  cases e2:tyO o with
  | none=>rw [e2] at h';cases h'
  | some t=>
   rw [e2] at h';cases h'
   refine ⟨rfl,o,rfl,?_⟩
   cases o with
   | lst xs=>exact .inl rfl
   | tup xs=>exact .inr (.inl rfl)
   | dK xs=>exact .inr (.inr rfl)
   | dT xs=>exact .inr (.inr rfl)
   | frz ob u=>cases u with
    | lst xs=>exact .inl rfl
    | _=>cases e2
   | _=>cases e2
end L2
set_option Elab.async false
set_option linter.all false
set_option maxRecDepth 100000
set_option maxHeartbeats 4000000
namespace L2
open PySem PySem.Spec PyProof.Rows
theorem optK_mono {α:Type}{o:Option α}{k k':α->Prop}(m:∀ x,k x->k' x) (h:optK o k):optK o k':=by
 obtain ⟨x,e,q⟩:=optK_ex h
 rw [e];exact m x q
theorem ints_inj:∀ {ns ms:List Int},ns.map V.int=ms.map V.int->ns=ms
 | [],[],_=>rfl
 | [],_::_,h=>by cases h
 | _::_,[],h=>by cases h
 | i::r,j::t,h=>by
  simp only [List.map_cons,List.cons.injEq,V.int.injEq] at h
  rw [h.1,ints_inj h.2]
def kInts (F:List Int->Prop):List V->Prop:=fun xs=>∃ ns,xs=ns.map V.int∧F ns
theorem m_kInts (F:List Int->Prop) (ns:List Int):kInts F (ns.map V.int)=F ns:=propext ⟨fun ⟨ms,e,h⟩=>by rw [ints_inj e];exact h,fun h=>⟨ns,rfl,h⟩⟩
end L2
set_option Elab.async false
set_option linter.all false
set_option maxRecDepth 100000
set_option maxHeartbeats 4000000
namespace L2
open PySem PySem.Spec PyProof.Rows
def newK (o:HO) (H:Hp) (Q:VK):Prop:=∀ (p:Addr) (H':Hp),H p=none->Ext H H'->H' p=some o->Q (.ref p) H'
theorem newK.to {o:HO}{H:Hp}{Q:VK}(h:newK o H Q):∀ p,H p=none->Q (.ref p) (upd H p o):=fun p hp=>h p _ hp (Ext.new hp) upd_same
def kQT (Q:VK):List V->Hp->Prop:=fun xs H=>xs.length≤sizeLine∧newK (.tup xs) H Q
theorem m_kQT (Q:VK) (xs:List V) (H:Hp):kQT Q xs H=(xs.length≤sizeLine∧newK (.tup xs) H Q):=rfl
def kQL (Q:VK):List V->Hp->Prop:=fun xs H=>xs.length≤sizeLine∧newK (.lst xs) H Q
theorem m_kQL (Q:VK) (xs:List V) (H:Hp):kQL Q xs H=(xs.length≤sizeLine∧newK (.lst xs) H Q):=rfl
def qTup (t:TA):TE:=fun σ H Q=>t σ H (kQT Q)
theorem m_qTup (t:TA) (σ:St) (H:Hp) (Q:VK):qTup t σ H Q=t σ H (kQT Q):=rfl
def qLst (t:TA):TE:=fun σ H Q=>t σ H (kQL Q)
theorem m_qLst (t:TA) (σ:St) (H:Hp) (Q:VK):qLst t σ H Q=t σ H (kQL Q):=rfl
section
variable {X:Cx}{es:List Expr}{t:TA}{pos:Pos}
theorem pe_qTup {x1}(h:PA X es t):PE X (.Tuple es x1 pos) (qTup t):=by
 intro pins s σ H Q I hq
 refine wpAny_Tuple_spliced (thn (h pos pins s σ H _ I hq) fun us s1 ⟨xs,H1,I1,r,z,q⟩=>⟨by rw [←r.length];exact z,?_⟩)
 have hf:H1 s1.heap.objs.size=none:=I1.hok.fresh (Nat.le_refl _)
 refine ⟨.ref s1.heap.objs.size,upd H1 s1.heap.objs.size (.tup xs),I1.laid (t':=s1.toks) (fun b u e=>Heap.get?_push_of_some _ e) (Nat.le_refl _) ?_,rfl,q.to _ hf⟩
 exact ⟨z,us,r,⟨_,Heap.get?_push_size _ rfl,rfl,_,rfl⟩⟩
theorem pe_qLst (h:PA X es t):PE X (.List es pos) (qLst t):=by
 intro pins s σ H Q I hq
 refine wpAny_List_spliced (thn (h pos pins s σ H _ I hq) fun us s1 ⟨xs,H1,I1,r,z,q⟩=>⟨by rw [←r.length];exact z,?_⟩)
 have hf:H1 s1.heap.objs.size=none:=I1.hok.fresh (Nat.le_refl _)
 refine ⟨.ref s1.heap.objs.size,upd H1 s1.heap.objs.size (.lst xs),I1.laid (t':=s1.toks) (fun b u e=>Heap.get?_push_of_some _ e) (Nat.le_refl _) ?_,rfl,q.to _ hf⟩
 exact ⟨z,us,0,r,Heap.get?_push_size _ rfl⟩
end
def kN (f:List V->HO) (H:Hp) (Q:VK):List V->Prop:=fun ys=>newK (f ys) H Q
theorem m_kN (f:List V->HO) (H:Hp) (Q:VK) (ys:List V):kN f H Q ys=newK (f ys) H Q:=rfl
def nList (xs:List V) (H:Hp) (Q:VK):Prop:=match xs with
 | [.ref p]=>optK (itemsAt H p) (kN .lst H Q)
 | _=>False
theorem m_nList (p:Addr) (H:Hp) (Q:VK):nList [.ref p] H Q=optK (itemsAt H p) (kN .lst H Q):=rfl
theorem call_nList {X:Cx}:CallR X (.type "list") nList:=call_qList.mono fun xs H Q h=>by
 unfold nList at h
 split at h
 ·exact optK_mono (fun _ q=>q.to) h
 ·exact h.elim
def kNC2 (xs:List V) (H:Hp) (Q:VK):List V->Prop:=fun ys=>xs.length+ys.length≤sizeLine∧newK (.lst (xs++ys)) H Q
def kNC1 (b:Addr) (H:Hp) (Q:VK):List V->Prop:=fun xs=>optK (lstAt H b) (kNC2 xs H Q)
def nCat:R2:=fun x y H Q=>match x,y with
 | .ref l,.ref b=>optK (lstAt H l) (kNC1 b H Q)
 | _,_=>False
theorem m_nCat (l b:Addr) (H:Hp) (Q:VK):nCat (.ref l) (.ref b) H Q=optK (lstAt H l) (kNC1 b H Q):=rfl
theorem op_nCat {X:Cx}:OpR X (binaryOp .Add) nCat:=op_cat.mono fun x y H Q h=>by
 unfold nCat at h
 split at h
 ·rw [m_rCat]
  exact optK_mono (fun _ q=>optK_mono (fun _ q=>⟨q.1,q.2.to⟩) q) h
 ·exact h.elim
theorem PE.mono {X:Cx}{e:Expr}{t t':TE}(h:PE X e t) (m:∀ σ H Q,t' σ H Q->t σ H Q):PE X e t':=fun pins s σ H Q I q=>h pins s σ H Q I (m _ _ _ q)
def nDNew:TE:=fun _ H Q=>newK (.dK []) H Q
theorem m_nDNew (σ:St) (H:Hp) (Q:VK):nDNew σ H Q=newK (.dK []) H Q:=rfl
theorem pe_nDNew {X:Cx}{pos:Pos}:PE X (.Dict [] [] pos) nDNew:=pe_dnewK.mono fun _ _ _ h=>h.to
end L2
set_option Elab.async false
set_option linter.all false
set_option maxRecDepth 100000
set_option maxHeartbeats 4000000
namespace L2
open PySem PySem.Spec PyProof.Rows
section
variable {prog:Program}{w:World}{A:Around}{E:Value->Shared->Prop}{s:Shared}
end
section
variable {X:Cx}{pos:Pos}
end
end L2
set_option Elab.async false
set_option linter.all false
set_option maxRecDepth 100000
set_option maxHeartbeats 4000000
namespace L2
open PySem PySem.Spec PyProof.Rows
section
variable {X:Cx}{tg:Expr}
end
end L2
set_option Elab.async false
set_option linter.all false
set_option maxRecDepth 100000
set_option maxHeartbeats 4000000
namespace L2
open PySem PySem.Spec PyProof.Rows
theorem preSum_ints:∀ (n:Nat) (ns:List Int) (val:Nat->Int),(∀ i,val i=ns.getD i 0)->n≤ns.length->preSum val n=(ns.take n).sum
 | 0,ns,val,h,hl=>by simp [preSum]
 | n+1,ns,val,h,hl=>by
  have ih:=preSum_ints n ns val h (by omega)
  have e:ns.take (n+1)=ns.take n++[ns.getD n 0]:=by
   rw [List.take_succ,List.getElem?_eq_getElem (by omega)]
   simp [List.getD,List.getElem?_eq_getElem (show n < ns.length by omega)]
  rw [preSum,ih,e,List.sum_append,h]
  simp
def kSumI (H:Hp) (Q:VK):List Int->Prop:=fun ns=>Q (.int ns.sum) H
theorem m_kSumI (H:Hp) (Q:VK) (ns:List Int):kSumI H Q ns=Q (.int ns.sum) H:=rfl
def qSum:List V->Hp->VK->Prop:=fun vs H Q=>match vs with
 | [.ref p]=>optK (lstAt H p) (kInts (kSumI H Q))
 | _=>False
theorem m_qSum (p:Addr) (H:Hp) (Q:VK):qSum [.ref p] H Q=optK (lstAt H p) (kInts (kSumI H Q)):=rfl
def kBls (F:List Bool->Prop):List V->Prop:=fun xs=>∃ bs,xs=bs.map V.bl∧F bs
theorem bls_inj:∀ {ns ms:List Bool},ns.map V.bl=ms.map V.bl->ns=ms
 | [],[],_=>rfl
 | [],_::_,h=>by cases h
 | _::_,[],h=>by cases h
 | i::r,j::t,h=>by
  simp only [List.map_cons,List.cons.injEq,V.bl.injEq] at h
  rw [h.1,bls_inj h.2]
theorem m_kBls (F:List Bool->Prop) (bs:List Bool):kBls F (bs.map V.bl)=F bs:=propext ⟨fun ⟨ms,e,h⟩=>by rw [bls_inj e];exact h,fun h=>⟨bs,rfl,h⟩⟩
def kAllB (H:Hp) (Q:VK):List Bool->Prop:=fun bs=>Q (.bl (bs.all id)) H
theorem m_kAllB (H:Hp) (Q:VK) (bs:List Bool):kAllB H Q bs=Q (.bl (bs.all id)) H:=rfl
def qAll:List V->Hp->VK->Prop:=fun vs H Q=>match vs with
 | [.ref p]=>optK (lstAt H p) (kBls (kAllB H Q))
 | _=>False
theorem m_qAll (p:Addr) (H:Hp) (Q:VK):qAll [.ref p] H Q=optK (lstAt H p) (kBls (kAllB H Q)):=rfl
section
variable {X:Cx}
theorem call_qSum (hc:X.calm=true):CallR X (.builtin "sum") qSum:=by
 intro pins s σ H vs us Q I r h
 unfold qSum at h
 split at h
 ·rename_i p
  obtain ⟨xs,e,ns,rfl,q⟩:=optK_ex h
  cases r with
  | cons r rr=>
   cases rr
   cases r
   obtain ⟨its,rv,pl,hz⟩:=I.list (SqL.of (lst_of e))
   have hlt:p < s.heap.objs.size:=by obtain ⟨_,e,_⟩:=pl.isList;exact Heap.lt_size e
   have hlen:its.length=ns.length:=by have:=rv.length;simpa using this.symm
   refine call_sum_walkAnyS (wpAny_pyIter_list pl.isList ⟨s.heap.objs.size,_,_,_,_,_,_,fun i=>ns.getD i 0,rfl,(Walks.list (show X.A.in1.handled=none from I.ok.hd hc) _ p (Nat.ne_of_lt hlt) its.toArray).toS,⟨⟨_,Heap.get?_push_size _ rfl,rfl,rfl⟩,pl.isList.push _⟩,fun b hb=>?_,fun i v hP=>?_,fun s' t' hm=>?_⟩)
   ·rw [Heap.size_push]
    rcases List.mem_cons.mp hb with rfl|hb
    ·exact Nat.lt_succ_self _
    ·rw [List.mem_singleton.mp hb];exact Nat.lt_succ_of_lt hlt
   ·have hv:its[i]? = some v:=by simpa using hP
    have hi:i < ns.length:=by rw [←hlen];exact (List.getElem?_eq_some_iff.mp hv).1
    obtain ⟨u,hu,ru⟩:=rv.get (i:=i) (x:=.int (ns.getD i 0)) (by rw [List.getElem?_map,List.getElem?_eq_getElem hi];simp [List.getD,List.getElem?_eq_getElem hi])
    rw [hv] at hu
    cases hu
    exact ru
   ·obtain ⟨hp,g,d,tk,os⟩:=s'
    have kp:∀ b o,s.heap.get? b=some o->hp.get? b=some o:=fun b o e=>hm.heap b o (fun hmem=>by
     have:b=s.heap.objs.size:=by simpa using hmem
     subst this
     exact absurd (Heap.lt_size e) (Nat.lt_irrefl _)) (Heap.get?_push_of_some _ e)
    have e1:g=s.gens:=hm.gens
    have e2:d=s.drawn:=hm.drawn
    have e3:os=s.os:=hm.os
    subst e1 e2 e3
    refine ⟨.int ns.sum,H,I.kept (t':=tk) kp,?_,q⟩
    have es:=preSum_ints its.toArray.size ns (fun i=>ns.getD i 0) (fun _=>rfl) (by simp [hlen])
    rw [show its.toArray.size=ns.length by simp [hlen],List.take_length] at es
    rw [show its.toArray.size=ns.length by simp [hlen],es]
    exact ⟨t',rfl⟩
 ·exact h.elim
theorem all_range (bs:List Bool):(List.range bs.length).all (fun i=>bs.getD i false)=bs.all id:=by
 rw [Bool.eq_iff_iff,List.all_eq_true,List.all_eq_true]
 refine ⟨fun h x hx=>?_,fun h i hi=>?_⟩
 ·obtain ⟨i,hi,e⟩:=List.getElem_of_mem hx
  have:=h i (List.mem_range.mpr hi)
  simpa [List.getD,List.getElem?_eq_getElem hi,e] using this
 ·have hi':=List.mem_range.mp hi
  have:=h (bs[i]) (List.getElem_mem hi')
  simpa [List.getD,List.getElem?_eq_getElem hi'] using this
theorem call_qAll (hc:X.calm=true):CallR X (.builtin "all") qAll:=by
 intro pins s σ H vs us Q I r h
 unfold qAll at h
 split at h
 ·rename_i p
  obtain ⟨xs,e,bs,rfl,q⟩:=optK_ex h
  cases r with
  | cons r rr=>
   cases rr
   cases r
   obtain ⟨its,rv,pl,hz⟩:=I.list (SqL.of (lst_of e))
   have hlt:p < s.heap.objs.size:=by obtain ⟨_,e,_⟩:=pl.isList;exact Heap.lt_size e
   have hlen:its.length=bs.length:=by have:=rv.length;simpa using this.symm
   refine call_all_walk (wpAny_pyIter_list pl.isList ⟨s.heap.objs.size,_,_,_,_,_,fun i=>bs.getD i false,rfl,Walks.list (show X.A.in1.handled=none from I.ok.hd hc) _ p (Nat.ne_of_lt hlt) its.toArray,⟨⟨_,Heap.get?_push_size _ rfl,rfl,rfl⟩,pl.isList.push _⟩,fun i v s' Q' E' hP hQ=>?_,fun h' tk hk=>?_⟩)
   ·have hv:its[i]? = some v:=by simpa using hP
    have hi:i < bs.length:=by rw [←hlen];exact (List.getElem?_eq_some_iff.mp hv).1
    obtain ⟨u,hu,ru⟩:=rv.get (i:=i) (x:=.bl (bs.getD i false)) (by rw [List.getElem?_map,List.getElem?_eq_getElem hi];simp [List.getD,List.getElem?_eq_getElem hi])
    rw [hv] at hu
    cases hu
    have e2:v=.bool (bs.getD i false):=ru
    subst e2
    exact wpAny_truthy_bool hQ
   ·have kp:∀ b o,s.heap.get? b=some o->h'.get? b=some o:=fun b o e=>hk b o (fun hmem=>by
     have:b=s.heap.objs.size:=by simpa using hmem
     subst this
     exact absurd (Heap.lt_size e) (Nat.lt_irrefl _)) (Heap.get?_push_of_some _ e)
    refine ⟨.bl (bs.all id),H,I.kept (t':=tk) kp,?_,q⟩
    rw [show its.toArray.size=bs.length by simp [hlen],all_range]
    exact rfl
 ·exact h.elim
end
end L2
set_option Elab.async false
set_option linter.all false
set_option maxRecDepth 100000
set_option maxHeartbeats 4000000
namespace L2
open PySem PySem.Spec PyProof.Rows
section
variable {prog:Program}{w:World}{A:Around}{E:Value->Shared->Prop}{s:Shared}
structure Apart2 (z TI TO i j:Addr) (f g:List Addr):Prop where
 ti:TI ≠ z∧TI ≠ TO∧TI ≠ i∧TI ≠ j
 zt:z ≠ TO
 zf:z ∉ f
 zg:z ∉ g
 tf:TO ∉ f
 tg:TO ∉ g
 ig:i ∉ g
 jf:j ∉ f
variable {z TI TO i j:Addr}{f g:List Addr}{ti tj:Nat->Heap->Prop}{vi vj:Nat->Option Value}{k m:Nat}{x y a b:Value}
end
end L2
set_option Elab.async false
set_option linter.all false
set_option maxRecDepth 100000
set_option maxHeartbeats 4000000
namespace L2
open PySem PySem.Spec PyProof.Rows
def SeqAt (h:Heap) (k:Bool) (l:Addr) (xs:Array Value):Prop:=match k with
 | true=>h.IsTuple l xs
 | false=>h.IsList l xs
section
variable {prog:Program}{w:World}{A:Around}{E:Value->Shared->Prop}{s:Shared}
end
section
variable {X:Cx}{pins:List (Addr × Obj)}{σ:List (Option V)}{H:Hp}{s:Shared}{h':Heap}
end
section
variable {X:Cx}
end
end L2
set_option Elab.async false
set_option linter.all false
set_option maxRecDepth 100000
set_option maxHeartbeats 4000000
namespace L2
open PySem PySem.Spec PyProof.Rows
def kCm2 (te:TE) (σ2:St) (N1:VK) (N0:Hp->Prop):Bool->Hp->Prop:=fun b H=>if b=true then te σ2 H N1 else N0 H
theorem m_kCm2 (te:TE) (σ2:St) (N1:VK) (N0:Hp->Prop) (b:Bool) (H:Hp):kCm2 te σ2 N1 N0 b H=(if b=true then te σ2 H N1 else N0 H):=rfl
def kCm (k:Nat) (tt:TT) (te:TE) (σ:St) (N1:VK) (N0:Hp->Prop):St->Hp->Prop:=fun σ2 H=>(∃ vs:St,vs.length=k∧σ2=vs++σ)∧tt σ2 H (kCm2 te σ2 N1 N0)
theorem m_kCm_1 (tt:TT) (te:TE) (σ:St) (N1:VK) (N0:Hp->Prop) (a:Option V) (H:Hp):kCm 1 tt te σ N1 N0 (a::σ) H=tt (a::σ) H (kCm2 te (a::σ) N1 N0):=propext ⟨fun h=>h.2,fun h=>⟨⟨[a],rfl,rfl⟩,h⟩⟩
theorem m_kCm_2 (tt:TT) (te:TE) (σ:St) (N1:VK) (N0:Hp->Prop) (a b:Option V) (H:Hp):kCm 2 tt te σ N1 N0 (a::b::σ) H=tt (a::b::σ) H (kCm2 te (a::b::σ) N1 N0):=propext ⟨fun h=>h.2,fun h=>⟨⟨[a,b],rfl,rfl⟩,h⟩⟩
theorem m_rep_1 (σ:St):List.replicate 1 (none:Option V)++σ=none::σ:=rfl
theorem m_rep_2 (σ:St):List.replicate 2 (none:Option V)++σ=none::none::σ:=rfl
theorem m_rep_3 (σ:St):List.replicate 3 (none:Option V)++σ=none::none::none::σ:=rfl
theorem m_kCm_3 (tt:TT) (te:TE) (σ:St) (N1:VK) (N0:Hp->Prop) (a b c:Option V) (H:Hp):kCm 3 tt te σ N1 N0 (a::b::c::σ) H=tt (a::b::c::σ) H (kCm2 te (a::b::c::σ) N1 N0):=propext ⟨fun h=>h.2,fun h=>⟨⟨[a,b,c],rfl,rfl⟩,h⟩⟩
def Al {α:Type}(R:α->V->Prop) (zs:List α) (ys:List V):Prop:=ys.length=zs.length∧∀ (i:Nat) z y,zs[i]? = some z->ys[i]? = some y->R z y
theorem Al.nil {α:Type}{R:α->V->Prop}:Al R [] []:=⟨rfl,fun i z y h=>by simp at h⟩
theorem Al.snoc {α:Type}{R:α->V->Prop}{zs:List α}{ys:List V}{z:α}{y:V}(h:Al R zs ys) (r:R z y):Al R (zs++[z]) (ys++[y]):=by
 refine ⟨by simp [h.1],fun i z' y' h1 h2=>?_⟩
 by_cases hi:i < zs.length
 ·rw [List.getElem?_append_left hi] at h1
  rw [List.getElem?_append_left (by rw [h.1];exact hi)] at h2
  exact h.2 i z' y' h1 h2
 ·rw [List.getElem?_append_right (by omega)] at h1
  rw [List.getElem?_append_right (by rw [h.1];omega),h.1] at h2
  by_cases h0:i - zs.length=0
  ·rw [h0] at h1 h2;simp at h1 h2;subst h1;subst h2;exact r
  ·rw [List.getElem?_eq_none (by simp;omega)] at h1;cases h1
theorem Al.imp {α:Type}{R S:α->V->Prop}{zs:List α}{ys:List V}(h:Al R zs ys) (f:∀ z y,R z y->S z y):Al S zs ys:=⟨h.1,fun i z y a b=>f z y (h.2 i z y a b)⟩
theorem Al.map {α:Type}{f:α->V}{zs:List α}{ys:List V}(h:Al (fun z y=>y=f z) zs ys):ys=zs.map f:=by
 apply List.ext_getElem?
 intro i
 rw [List.getElem?_map]
 by_cases hi:i < zs.length
 ·have e1:zs[i]? = some zs[i]:=List.getElem?_eq_getElem hi
  have e2:ys[i]? = some (ys[i]'(by rw [h.1];exact hi)):=List.getElem?_eq_getElem _
  rw [e1,e2,h.2 i _ _ e1 e2];rfl
 ·have:=h.1;rw [List.getElem?_eq_none (show ys.length≤i by omega),List.getElem?_eq_none (show zs.length≤i by omega)];rfl
section
variable {k:Nat}{g:TG}{tt:TT}{te:TE}{σ:St}{Q:VK}{H:Hp}{K:PySem.W.Frag}
theorem comp_rel {α:Type}{J:It}(zs:List α) (c:α->Bool) (P:α->V->Hp->Prop) (R:Addr->α->V->Hp->Prop)
  (hgo:∀ i z H',zs[i]? = some z->Ext H H'->J.go i H'∧∀ x H'',J.yld i H' x H''->Ext H' H''∧P z x H'')
  (hst:∀ H',Ext H H'->J.stop zs.length H')
  (hR1:∀ D z y H1 H2,R D z y H1->Ext H1 H2->R D z y H2) (hR2:∀ D z y H1 o,R D z y H1->R D z y (upd H1 D o))
  (hl:zs.length≤sizeLine)
  (hs:∀ D z x H' N1 N0,z∈zs->H D=none->Ext H H'->(∃ ys,H' D=some (.lst ys))->P z x H'->(c z=true->∀ y H'',Ext H' H''->R D z y H''->N1 y H'')->(c z=false->∀ H'',Ext H' H''->N0 H'')->g x (List.replicate k none++σ) H' (kCm k tt te σ N1 N0))
  (hd:∀ D ys H',H D=none->Ext H H'->H' D=some (.lst ys)->Al (fun z y=>R D z y H') (zs.filter c) ys->Q (.ref D) H'):kComp k g tt te σ Q J H:=by
 intro D hD
 refine ⟨fun i m ys H'=>m=zs.length - i∧i≤zs.length∧Ext H H'∧H' D=some (.lst ys)∧Al (fun z y=>R D z y H') ((zs.take i).filter c) ys,⟨zs.length,by simp,Nat.zero_le _,Ext.new hD,upd_same,by simpa using Al.nil⟩,?_⟩
 rintro i m ys H' ⟨rfl,hi,e,hD',al⟩
 by_cases hlt:i < zs.length
 ·have hz:zs[i]? = some zs[i]:=List.getElem?_eq_getElem hlt
  obtain ⟨go,y⟩:=hgo i zs[i] H' hz e
  have tk:zs.take (i+1)=zs.take i++[zs[i]]:=by rw [List.take_succ,hz];rfl
  have ln:ys.length < sizeLine:=by
   have h1:=al.1
   have h2:=List.length_filter_le c (zs.take i)
   simp only [List.length_take] at h2
   omega
  refine .inr ⟨go,fun ys' H2=>Ext H H2∧H2 D=some (.lst ys')∧Al (fun z y=>R D z y H2) ((zs.take (i+1)).filter c) ys',fun ys' H2 p=>⟨zs.length - (i+1),by omega,rfl,hlt,p⟩,fun x H2 z=>?_⟩
  obtain ⟨e2,p2⟩:=y x H2 z
  refine hs D zs[i] x H2 (kC3 D ys _) _ (List.getElem_mem hlt) hD (e.trans e2) ⟨ys,e2.at hD'⟩ p2 (fun hc y H3 e3 r3=>?_) fun hc H3 e3=>?_
  ·refine ⟨e3.at (e2.at hD'),ln,(e.trans (e2.trans e3)).put hD,upd_same,?_⟩
   rw [tk,List.filter_append,show [zs[i]].filter c=[zs[i]] by simp [hc]]
   exact Al.snoc (al.imp fun z y r=>hR2 _ _ _ _ _ (hR1 _ _ _ _ _ r (e2.trans e3))) (hR2 _ _ _ _ _ r3)
  ·refine ⟨e.trans (e2.trans e3),(e2.trans e3).at hD',?_⟩
   rw [tk,List.filter_append,show [zs[i]].filter c=[] by simp [hc],List.append_nil]
   exact al.imp fun z y r=>hR1 _ _ _ _ _ r (e2.trans e3)
 ·have e':i=zs.length:=by omega
  subst e'
  rw [List.take_length] at al
  exact .inl ⟨hst H' e,hd D ys H' hD e hD' al⟩
theorem comp_fm {α:Type}{J:It}(zs:List α) (c:α->Bool) (f:α->V) (P:α->V->Hp->Prop)
  (hgo:∀ i z H',zs[i]? = some z->Ext H H'->J.go i H'∧∀ x H'',J.yld i H' x H''->Ext H' H''∧P z x H'')
  (hst:∀ H',Ext H H'->J.stop zs.length H') (hl:zs.length≤sizeLine)
  (hs:∀ D z x H' N1 N0,z∈zs->H D=none->Ext H H'->P z x H'->(c z=true->∀ H'',Ext H' H''->N1 (f z) H'')->(c z=false->∀ H'',Ext H' H''->N0 H'')->g x (List.replicate k none++σ) H' (kCm k tt te σ N1 N0))
  (hd:∀ D H',H D=none->Ext H H'->H' D=some (.lst ((zs.filter c).map f))->Q (.ref D) H'):kComp k g tt te σ Q J H:=
 comp_rel zs c P (fun _ z y _=>y=f z) hgo hst (fun _ _ _ _ _ r _=>r) (fun _ _ _ _ _ r=>r) hl (fun D z x H' N1 N0 hz hD e _ p k1 k0=>hs D z x H' N1 N0 hz hD e p (fun hc H'' e'=>k1 hc _ H'' e' rfl) k0) fun D ys H' hD e hD' al=>hd D H' hD e (by rw [←al.map];exact hD')
theorem wk_rng {lo:Int}{n:Nat}:(∀ i z H',(List.range n)[i]? = some z->Ext H H'->(Itr lo n).go i H'∧∀ x H'',(Itr lo n).yld i H' x H''->Ext H' H''∧x=.int (lo+(z:Nat)))∧∀ H',Ext H H'->(Itr lo n).stop (List.range n).length H':=by
 refine ⟨fun i z H' hz _=>?_,fun H' _=>by simp [Itr]⟩
 obtain ⟨h1,h2⟩:=List.getElem?_eq_some_iff.mp hz
 have e:i=z:=by simpa using h2
 subst e
 exact ⟨(show i < n by simpa using h1),fun x H'' y=>⟨by rw [y.1];exact Ext.refl _,y.2⟩⟩
theorem wk_lst {a:Addr}{xs:List V}(h:H a=some (.lst xs)):(∀ i z H',xs[i]? = some z->Ext H H'->(Itl K a).go i H'∧∀ x H'',(Itl K a).yld i H' x H''->Ext H' H''∧(x=z∧H'' a=some (.lst xs)))∧∀ H',Ext H H'->(Itl K a).stop xs.length H':=
 ⟨fun i z H' hz e=>⟨⟨xs,z,SqL.of (e.at h),hz⟩,fun x H'' y=>⟨by rw [y.1];exact Ext.refl _,Option.some.inj ((y.2 xs (SqL.of (e.at h))).symm.trans hz),by rw [y.1];exact e.at h⟩⟩,fun H' e=>⟨xs,SqL.of (e.at h),Nat.le_refl _⟩⟩
theorem wk_tup {a:Addr}{xs:List V}(h:H a=some (.tup xs)):(∀ i z H',xs[i]? = some z->Ext H H'->(Itt K a).go i H'∧∀ x H'',(Itt K a).yld i H' x H''->Ext H' H''∧(x=z∧H'' a=some (.tup xs)))∧∀ H',Ext H H'->(Itt K a).stop xs.length H':=
 ⟨fun i z H' hz e=>⟨⟨xs,z,SqT.of (e.at h),hz⟩,fun x H'' y=>⟨by rw [y.1];exact Ext.refl _,Option.some.inj ((y.2 xs (SqT.of (e.at h))).symm.trans hz),by rw [y.1];exact e.at h⟩⟩,fun H' e=>⟨xs,SqT.of (e.at h),Nat.le_refl _⟩⟩
end
def compB (sc:Scope) (N:List Str) (scope:Scope) (N':List Str) (k:Nat):Bool:=
 scope.names.all (fun y=>!(y.2 == .cell)) && (scope.kind == .function) && scope.names.all (fun y=>!(y.2 == .local) || scope.names.lookup y.1 == some .local) && scope.names.all (fun y=>!(y.2 == .free) || sc.names.lookup y.1 == some .cell) && decide (N'.length=k+N.length) &&
  ((N'.drop k).zip N).all (fun p=>(!(scope.names.lookup p.1 == some .free) || decide (p.1=p.2)) && !(scope.names.lookup p.1 == some .local))
theorem comp_ok {X:Cx}{scope:Scope}{N':List Str}{k:Nat}(sc:Scope) (N:List Str) (h1:X.env.scope=sc) (h2:X.N=N) (h:compB sc N scope N' k=true):CompOk X scope N' k:=by
 unfold compB at h
 simp only [Bool.and_eq_true,decide_eq_true_eq] at h
 obtain ⟨⟨⟨⟨⟨a1,a2⟩,a3⟩,a4⟩,a5⟩,a6⟩:=h
 rw [List.all_eq_true] at a1 a3 a4 a6
 have pr:∀ i x,N'[k+i]? = some x->∃ y,N[i]? = some y∧(x,y)∈(N'.drop k).zip N:=fun i x hx=>by
  have h0:=(List.getElem?_eq_some_iff.mp hx).1
  have hi:i < N.length:=by omega
  have e1:(N'.drop k)[i]? = some x:=by rw [List.getElem?_drop];exact hx
  have e2:N[i]? = some N[i]:=List.getElem?_eq_getElem hi
  refine ⟨_,e2,List.mem_of_getElem? (i:=i) ?_⟩
  rw [List.getElem?_zip_eq_some]
  exact ⟨e1,e2⟩
 refine ⟨fun y hy e=>?_,by simpa using a2,fun y hy e=>?_,fun y hy e=>?_,by rw [h2];exact a5,fun i x hx hf=>?_,fun i x hx hf=>?_⟩
 ·have:=a1 y hy;rw [e] at this;simp at this
 ·have:=a3 y hy;rw [e] at this;simpa using this
 ·have:=a4 y hy;rw [e] at this;rw [h1];simpa using this
 ·obtain ⟨y,hy,hm⟩:=pr i x hx
  have:=a6 _ hm
  simp only [hf] at this
  rw [h2,hy]
  simp at this
  rw [this]
 ·obtain ⟨y,hy,hm⟩:=pr i x hx
  have:=a6 _ hm
  simp [hf] at this
end L2
set_option Elab.async false
set_option linter.all false
set_option maxRecDepth 100000
set_option maxHeartbeats 4000000
namespace L2
open PySem PySem.Spec PyProof.Rows
def kFldV (H:Hp) (Q:VK):V->Prop:=fun v=>Q v H
theorem m_kFldV (H:Hp) (Q:VK) (v:V):kFldV H Q v=Q v H:=rfl
def kFldO (K:PySem.W.Frag) (f:Str) (H:Hp) (Q:VK):HO->Prop:=fun o=>match o with
 | .ins C dx fs=>Cls K C∧NoAttr K C f∧optK (fs.lookup f) (kFldV H Q)
 | _=>False
theorem m_kFldO (K:PySem.W.Frag) (f:Str) (H:Hp) (Q:VK) (C dx:Addr) (fs:List (Str × V)):kFldO K f H Q (.ins C dx fs)=(Cls K C∧NoAttr K C f∧optK (fs.lookup f) (kFldV H Q)):=rfl
def kFld (K:PySem.W.Frag) (f:Str) (Q:VK):VK:=fun x H=>match x with
 | .ref a=>optK (H a) (kFldO K f H Q)
 | _=>False
theorem m_kFld (K:PySem.W.Frag) (f:Str) (Q:VK) (a:Addr) (H:Hp):kFld K f Q (.ref a) H=optK (H a) (kFldO K f H Q):=rfl
def nFld (K:PySem.W.Frag) (ta:TE) (f:Str):TE:=fun σ H Q=>ta σ H (kFld K f Q)
theorem m_nFld (K:PySem.W.Frag) (ta:TE) (f:Str) (σ:St) (H:Hp) (Q:VK):nFld K ta f σ H Q=ta σ H (kFld K f Q):=rfl
theorem kFld_ex {K:PySem.W.Frag}{f:Str}{Q:VK}{x:V}{H:Hp}(h:kFld K f Q x H):∃ a C dx fs v,x=.ref a∧H a=some (.ins C dx fs)∧Cls K C∧NoAttr K C f∧fs.lookup f=some v∧Q v H:=by
 unfold kFld at h
 split at h
 ·obtain ⟨o,e,h⟩:=optK_ex h
  unfold kFldO at h
  split at h
  ·obtain ⟨c,n,h⟩:=h
   obtain ⟨v,l,q⟩:=optK_ex h
   exact ⟨_,_,_,_,v,rfl,e,c,n,l,q⟩
  ·exact h.elim
 ·exact h.elim
section
variable {X:Cx}{e o value:Expr}{ta tv:TE}{f:Str}{pos pos':Pos}
theorem pe_nFld (he:PE X e ta) (hb:attributeBase e f X.env (eval e X.env)=eval e X.env):PE X (.Attribute e f pos) (nFld X.K ta f):=by
 intro pins s σ H Q I h
 refine attr_of hb (thn (he pins s σ H _ I h) fun u s1 ⟨x,H1,I1,rx,q1⟩=>?_)
 obtain ⟨a,C,dx,fs,v,ex,ea,c,n,l,q⟩:=kFld_ex q1
 subst ex
 obtain rfl:u=Value.ref a:=rx
 exact getattr_ok I1 ea c n l fun u' s2 I2 ru=>⟨v,H1,I2,ru,q⟩
def kSetO (K:PySem.W.Frag) (f:Str) (y:V) (a:Addr) (σ:St) (nx:St->Hp->Prop) (H:Hp):HO->Prop:=fun o=>match o with
 | .ins C dx fs=>Cls K C∧NoAttr K C f∧fs.length < 1000∧nx σ (upd H a (.ins C dx (putF f y fs)))
 | _=>False
theorem m_kSetO (K:PySem.W.Frag) (f:Str) (y:V) (a:Addr) (σ:St) (nx:St->Hp->Prop) (H:Hp) (C dx:Addr) (fs:List (Str × V)):kSetO K f y a σ nx H (.ins C dx fs)=(Cls K C∧NoAttr K C f∧fs.length < 1000∧nx σ (upd H a (.ins C dx (putF f y fs)))):=rfl
def kSet1 (K:PySem.W.Frag) (f:Str) (y:V) (σ:St) (nx:St->Hp->Prop):VK:=fun x H=>match x with
 | .ref a=>optK (H a) (kSetO K f y a σ nx H)
 | _=>False
theorem m_kSet1 (K:PySem.W.Frag) (f:Str) (y:V) (σ:St) (nx:St->Hp->Prop) (a:Addr) (H:Hp):kSet1 K f y σ nx (.ref a) H=optK (H a) (kSetO K f y a σ nx H):=rfl
def kSet0 (K:PySem.W.Frag) (f:Str) (ta:TE) (σ:St) (nx:St->Hp->Prop):VK:=fun y H=>ta σ H (kSet1 K f y σ nx)
theorem m_kSet0 (K:PySem.W.Frag) (f:Str) (ta:TE) (σ:St) (nx:St->Hp->Prop) (y:V) (H:Hp):kSet0 K f ta σ nx y H=ta σ H (kSet1 K f y σ nx):=rfl
def nSetF (K:PySem.W.Frag) (ta tv:TE) (f:Str):TS:=fun D σ H=>tv σ H (kSet0 K f ta σ D.nx)
theorem m_nSetF (K:PySem.W.Frag) (ta tv:TE) (f:Str) (nx:St->Hp->Prop) (rt:VK) (bk ct:St->Hp->Prop) (σ:St) (H:Hp):nSetF K ta tv f ⟨nx,rt,bk,ct⟩ σ H=tv σ H (kSet0 K f ta σ nx):=rfl
theorem ps_nSetF (ha:PE X o ta) (hv:PE X value tv) (hs:swapsWith value (some (.Attribute o f pos')) pos.line X.env=pure false):PS X (.Assign [.Attribute o f pos'] value pos) (nSetF X.K ta tv f):=by
 intro pins s σ H D I h
 refine plainObj_wpAny_Assign_Attribute (thn (hv pins s σ H _ I h) fun u s1 ⟨y,H1,I1,ry,q⟩=>thn (ha pins s1 σ H1 _ I1 q) fun ov s2 ⟨x,H2,I2,rx,q1⟩=>?_) hs
 unfold kSet1 at q1
 split at q1
 ·rename_i a
  obtain rfl:ov=Value.ref a:=rx
  obtain ⟨ob,ea,q1⟩:=optK_ex q1
  unfold kSetO at q1
  split at q1
  ·obtain ⟨c,n,l,q2⟩:=q1
   exact setattr_ok I2 ea c n l ry fun s3 I3=>⟨σ,_,I3,q2⟩
  ·exact q1.elim
 ·exact q1.elim
end
def kMethA (sp:Sp) (dvs:List V) (E:XK) (a:Addr) (Q:VK):List V->Hp->Prop:=fun vs H=>sp (.ref a::(vs++dvs)) H Q E
theorem m_kMethA_0 (sp:Sp) (dvs:List V) (E:XK) (a:Addr) (Q:VK) (H:Hp):kMethA sp dvs E a Q [] H=sp (.ref a::dvs) H Q E:=rfl
def kMethO (C:Addr) (m:Str) (sp:Sp) (dvs:List V) (E:XK) (t:TA) (σ:St) (Q:VK) (a:Addr) (H:Hp):HO->Prop:=fun o=>match o with
 | .ins C' dx fs=>C'=C∧fs.lookup m=none∧t σ H (kMethA sp dvs E a Q)
 | _=>False
theorem m_kMethO (C:Addr) (m:Str) (sp:Sp) (dvs:List V) (E:XK) (t:TA) (σ:St) (Q:VK) (a:Addr) (H:Hp) (dx:Addr) (fs:List (Str × V)):kMethO C m sp dvs E t σ Q a H (.ins C dx fs)=(fs.lookup m=none∧t σ H (kMethA sp dvs E a Q)):=propext ⟨fun h=>h.2,fun h=>⟨rfl,h⟩⟩
def kMeth (C:Addr) (m:Str) (sp:Sp) (dvs:List V) (E:XK) (t:TA) (σ:St) (Q:VK):VK:=fun x H=>match x with
 | .ref a=>optK (H a) (kMethO C m sp dvs E t σ Q a H)
 | _=>False
theorem m_kMeth (C:Addr) (m:Str) (sp:Sp) (dvs:List V) (E:XK) (t:TA) (σ:St) (Q:VK) (a:Addr) (H:Hp):kMeth C m sp dvs E t σ Q (.ref a) H=optK (H a) (kMethO C m sp dvs E t σ Q a H):=rfl
def nMeth (C:Addr) (m:Str) (sp:Sp) (dvs:List V) (E:XK) (ta:TE) (t:TA):TE:=fun σ H Q=>ta σ H (kMeth C m sp dvs E t σ Q)
theorem m_nMeth (C:Addr) (m:Str) (sp:Sp) (dvs:List V) (E:XK) (ta:TE) (t:TA) (σ:St) (H:Hp) (Q:VK):nMeth C m sp dvs E ta t σ H Q=ta σ H (kMeth C m sp dvs E t σ Q):=rfl
theorem kMeth_ex {C:Addr}{m:Str}{sp:Sp}{dvs:List V}{E:XK}{t:TA}{σ:St}{Q:VK}{x:V}{H:Hp}(h:kMeth C m sp dvs E t σ Q x H):∃ a dx fs,x=.ref a∧H a=some (.ins C dx fs)∧fs.lookup m=none∧t σ H fun vs H2=>sp (x::(vs++dvs)) H2 Q E:=by
 unfold kMeth at h
 split at h
 ·obtain ⟨o,e,h⟩:=optK_ex h
  unfold kMethO at h
  split at h
  ·obtain ⟨rfl,l,h⟩:=h
   exact ⟨_,_,_,rfl,e,l,h⟩
  ·exact h.elim
 ·exact h.elim
section
variable {X:Cx}{CX:CXT}{k:Nat}{f C:Addr}{fd:FuncData}{ps:List Str}{sp:Sp}{dvs:List V}{ds:List Value}{E:XK}{x m:Str}{p pos apos:Pos}{e o:Expr}{es:List Expr}{ta:TE}{t:TA}
theorem pe_nMeth0 {pl:Sem Bool}(he:PE X o ta) (c:Cls X.K C) (hm:Meth X.K C m f) (F:FnOk X.prog X.w X.K X.mg X.base CX k f fd ps sp) (hr:Room k X.A) (hb:Binds X.K fd ps ds) (hd:Vals dvs ds) (hx:Passes CX X E)
  (ht:eval (.Call (.Attribute o m apos) [] [] pos) X.env=(do
   let ov ←eval o X.env
   standAt apos.atName
   let (f,first) ←holding [ov] (getMethod ov m pl)
   callWith pos f first (backTo pos (starEach [] X.env)) (backToKw pos (keywordEach [] X.env))):=by rfl) :
  PE X (.Call (.Attribute o m apos) [] [] pos) (nMeth C m sp dvs E ta tNil):=by
 intro pins s σ H Q I h
 refine PySem.W.methodCall_KW (pl:=pl) (thn (he pins s σ H _ I h) fun u s1 ⟨x,H1,I1,rx,q0⟩=>?_) ht
 obtain ⟨a,dx,fs,ex,ea,l,q⟩:=kMeth_ex q0
 subst ex
 obtain rfl:u=Value.ref a:=rx
 refine getmeth_ok I1 ea c hm l ?_
 exact PySem.W.callWith_K0 (first:=[.ref a]) I1.kIn hm.kp (run_fn (us:=[.ref a]) (vs:=[.ref a]) F hr hb hd hx I1 (.cons rfl .nil) q)
end
def kMade (x:Addr) (Q:VK):VK:=fun v H=>v=.non∧Q (.ref x) H
theorem m_kMade (x:Addr) (Q:VK) (H:Hp):kMade x Q .non H=Q (.ref x) H:=propext ⟨fun h=>h.2,fun h=>⟨rfl,h⟩⟩
def kMake (C:Addr) (sp:Sp) (dvs:List V) (E:XK) (Q:VK):List V->Hp->Prop:=fun vs H=>∀ (x dx:Addr) (H':Hp),H x=none->H dx=none->dx ≠ x->Ext H H'->H' x=some (.ins C dx [])->H' dx=some (.own x)->sp (.ref x::(vs++dvs)) H' (kMade x Q) E
theorem m_kMake_3 (C:Addr) (sp:Sp) (dvs:List V) (E:XK) (Q:VK) (a b c:V) (H:Hp):kMake C sp dvs E Q [a,b,c] H=∀ (x dx:Addr) (H':Hp),H x=none->H dx=none->dx ≠ x->Ext H H'->H' x=some (.ins C dx [])->H' dx=some (.own x)->sp (.ref x::a::b::c::dvs) H' (kMade x Q) E:=rfl
def nMake (C:Addr) (sp:Sp) (dvs:List V) (E:XK) (t:TA):TE:=fun σ H Q=>t σ H (kMake C sp dvs E Q)
theorem m_nMake (C:Addr) (sp:Sp) (dvs:List V) (E:XK) (t:TA) (σ:St) (H:Hp) (Q:VK):nMake C sp dvs E t σ H Q=t σ H (kMake C sp dvs E Q):=rfl
section
variable {X:Cx}{CX:CXT}{k:Nat}{f C:Addr}{fd:FuncData}{ps:List Str}{sp:Sp}{dvs:List V}{ds:List Value}{E:XK}{x m:Str}{p pos apos:Pos}{e o:Expr}{es:List Expr}{ta:TE}{t:TA}
theorem kMake.to {Q:VK}{vs:List V}{H:Hp}(h:kMake C sp dvs E Q vs H):∀ x dx,H x=none->H dx=none->dx ≠ x->sp (.ref x::(vs++dvs)) (upd (upd H dx (.own x)) x (.ins C dx [])) (fun v H2=>v=.non∧Q (.ref x) H2) E:=fun x dx hx hd ne=>
 h x dx _ hx hd ne ((Ext.new hd).put hx) upd_same (by rw [upd_ne ne,upd_same])
theorem pe_nMake (M:Mk X.K C f) (F:FnOk X.prog X.w X.K X.mg X.base CX k f fd ps sp) (hr:Room (k+1) X.A) (hg:Gl X x) (hm:X.mg x=some (.ref C)) (hb:Binds X.K fd ps ds) (hd:Vals dvs ds) (hx:Passes CX X E)
  (ha:PA X (e::es) t) (hdb:(x == ("__debug__":Str))=false:=by decide) (he:starEach (e::es) X.env=(false,eval e X.env)::starEach es X.env:=by rfl) (hpl:(backTo pos (starEach es X.env)).any (·.1)=false:=by rfl) :
  PE X (.Call (.Name x p) (e::es) [] pos) (nMake C sp dvs E t):=by
 intro pins s σ H Q I h
 refine wpAny_Call_Name_kw (ld_glob I hg hm ?_ hdb)
 refine PySem.W.callWith_K (h₀:=X.base) I.ok.mod.kin M.kp (thn (ha pos pins s σ H _ I h) fun us s1 ⟨vs,H1,I1,r,q⟩=>⟨I1.kIn,?_⟩) he hpl
 exact run_make M F hr hb hd hx I1 r q.to
end
end L2
set_option Elab.async false
set_option linter.all false
set_option maxRecDepth 100000
set_option maxHeartbeats 4000000
namespace L2
open PySem PySem.Spec PyProof.Rows
def notStar:Expr->Bool
 | .Starred ..=>false
 | _=>true
theorem star_ok {e:Expr}{es:List Expr}{env:Env}(h:notStar e=true):starEach (e::es) env=(false,eval e env)::starEach es env:=by
 cases e<;>first|rfl|cases h
theorem pa_c {X:Cx}{e:Expr}{es:List Expr}{te:TE}{t:TA}(ha:PE X e te) (hr:PA X es t) (hn:notStar e=true:=by rfl):PA X (e::es) (tCons te t):=pa_cons ha hr (star_ok hn)
end L2
namespace L2
open PySem PySem.Spec PyProof.Rows
def TupV (H:Hp) (z:List Int) (y:V):Prop:=∃ q,y=.ref q∧H q=some (.tup (z.map V.int))
theorem TupV.ext {H H':Hp}{z:List Int}{y:V}(h:TupV H z y) (e:Ext H H'):TupV H' z y:=by
 obtain ⟨q,rfl,hq⟩:=h
 exact ⟨q,rfl,e.at hq⟩
def TupsAt (H:Hp) (p:Addr) (zs:List (List Int)):Prop:=∃ ys,H p=some (.lst ys)∧Al (TupV H) zs ys
theorem TupsAt.ext {H H':Hp}{p:Addr}{zs:List (List Int)}(h:TupsAt H p zs) (e:Ext H H'):TupsAt H' p zs:=by
 obtain ⟨ys,hp,al⟩:=h
 exact ⟨ys,e.at hp,al.imp fun _ _ r=>r.ext e⟩
theorem tups_all {H:Hp}{f:V->Option PyData}:∀ {zs:List (List Int)}{ys:List V},Al (TupV H) zs ys->allSome (ys.map (datF H (datF H f)))=some (zs.map fun z=>PyData.tuple (z.map PyData.int))
 | [],ys,h=>by rw [List.eq_nil_of_length_eq_zero h.1];rfl
 | z::zs,[],h=>by have:=h.1;simp at this
 | z::zs,y::ys,h=>by
  obtain ⟨q,rfl,hq⟩:=h.2 0 z y rfl rfl
  have ih:=tups_all (H:=H) (f:=f) (zs:=zs) (ys:=ys) ⟨by have:=h.1;simpa using this,fun i z y a b=>h.2 (i+1) z y (by simpa using a) (by simpa using b)⟩
  have e1:datF H (datF H f) (.ref q)=some (.tuple (z.map PyData.int)):=by
   rw [m_datF_ref,hq]
   show datO (datF H f) (.tup (z.map V.int))=_
   rw [m_datO_tup,allSome_ints];rfl
  rw [List.map_cons,e1,m_allSome_cons,ih];rfl
theorem tups_eqv:∀ zs:List (List Int),PyData.eqvAll (zs.map fun z=>PyData.tuple (z.map PyData.int)) (zs.map fun z=>PyData.tuple (z.map PyData.int))=true
 | []=>by rw [List.map_nil,eqvAll_nil]
 | z::zs=>by rw [List.map_cons,eqvAll_cons,eqv_tuple,eqvAll_ints,tups_eqv zs];simp
theorem len5000 {n:Nat}(h:n≤5000):n≤sizeLine:=Nat.le_trans h (by decide)
theorem lt5000 {n:Nat}(h:n < 5000):n < sizeLine:=Nat.lt_of_lt_of_le h (by decide)
def kCT2 (xs:List V) (H:Hp) (Q:VK):List V->Prop:=fun ys=>xs.length+ys.length≤sizeLine∧∀ (p:Addr) (H':Hp),Ext H H'->H' p=some (.tup (xs++ys))->Q (.ref p) H'
theorem x_kCT2 (xs:List V) (H:Hp) (Q:VK) (ys:List V):kCT2 xs H Q ys=(xs.length+ys.length≤sizeLine∧∀ (p:Addr) (H':Hp),Ext H H'->H' p=some (.tup (xs++ys))->Q (.ref p) H'):=rfl
def kCT1 (b:Addr) (H:Hp) (Q:VK):List V->Prop:=fun xs=>optK (tupAt H b) (kCT2 xs H Q)
theorem m_kCT1 (b:Addr) (H:Hp) (Q:VK) (xs:List V):kCT1 b H Q xs=optK (tupAt H b) (kCT2 xs H Q):=rfl
def nCatT:R2:=fun x y H Q=>match x,y with
 | .ref l,.ref b=>optK (tupAt H l) (kCT1 b H Q)
 | _,_=>False
theorem m_nCatT (l b:Addr) (H:Hp) (Q:VK):nCatT (.ref l) (.ref b) H Q=optK (tupAt H l) (kCT1 b H Q):=rfl
theorem op_nCatT {X:Cx}:OpR X (binaryOp .Add) nCatT:=by
 intro pins s σ H x y v u Q I rx ry h
 unfold nCatT at h
 split at h
 ·rename_i l b
  obtain ⟨xs,e1,h⟩:=optK_ex h
  obtain ⟨ys,e2,hz,k⟩:=optK_ex h
  have g1:=tup_of e1
  have g2:=tup_of e2
  by_cases hx:xs=[]
  ·subst hx
   cases rx
   cases ry
   obtain ⟨its,r1,p1,_⟩:=I.tuple (SqT.of g1)
   obtain ⟨its2,r2,p2,_⟩:=I.tuple (SqT.of g2)
   obtain ⟨⟨cls,dd,data,sl⟩,ho,hc,n,hd⟩:=id p1
   obtain ⟨⟨cls2,dd2,data2,sl2⟩,ho2,hc2,n2,hd2⟩:=id p2
   simp only at hc hd hc2 hd2
   subst hc hd hc2 hd2
   cases r1
   exact concat_meets ⟨_,ho,rfl⟩ ⟨_,ho2,rfl⟩ noFill_tuple_add seq_tuple_add PySem.F.slot_tuple_add PySem.F.entry_tuple_add (PySem.F.args_tuple_add_2 _ _)
    (tuple_addW0 l b #[] its2.toArray n n2 dd dd2 sl sl2 (by simp)) ⟨ho,ho2,show EP X pins σ Q (.ref b) s from ⟨.ref b,H,I,rfl,k b H (Ext.refl _) (by rw [List.nil_append];exact g2)⟩⟩
  ·refine op_catT pins s σ H (.ref l) (.ref b) v u Q I rx ry ⟨l,b,xs,ys,rfl,rfl,SqT.of g1,SqT.of g2,hx,hz,fun hy=>?_,fun hy p hp=>k p _ (Ext.new hp) upd_same⟩
   subst hy
   exact k l H (Ext.refl _) (by rw [List.append_nil];exact g1)
 ·exact h.elim
end L2
set_option Elab.async false
set_option linter.all false
set_option maxRecDepth 100000
set_option maxHeartbeats 4000000
namespace L2
open PySem PySem.Spec PyProof.Rows
theorem wk_al {K:PySem.W.Frag}{H:Hp} {α:Type}{R:α->V->Hp->Prop}(hR:∀ z y H H',R z y H->Ext H H'->R z y H'){l:Addr}{ys:List V}{zs:List α}(h:H l=some (.lst ys)) (al:Al (fun z y=>R z y H) zs ys) :
  (∀ i z H',zs[i]? = some z->Ext H H'->(Itl K l).go i H'∧∀ x H'',(Itl K l).yld i H' x H''->Ext H' H''∧R z x H'')∧∀ H',Ext H H'->(Itl K l).stop zs.length H':=by
 refine ⟨fun i z H' hz e=>?_,fun H' e=>⟨ys,SqL.of (e.at h),by rw [al.1];exact Nat.le_refl _⟩⟩
 have hi:i < ys.length:=by rw [al.1];exact (List.getElem?_eq_some_iff.mp hz).1
 have hy:ys[i]? = some ys[i]:=List.getElem?_eq_getElem hi
 refine ⟨⟨ys,ys[i],SqL.of (e.at h),hy⟩,fun x H'' y=>?_⟩
 have hx:x=ys[i]:=Option.some.inj ((y.2 ys (SqL.of (e.at h))).symm.trans hy)
 refine ⟨by rw [y.1];exact Ext.refl _,?_⟩
 rw [hx,y.1]
 exact hR _ _ _ _ (al.2 i z _ hz hy) e
def axP (a:Int × Int) (x:V) (H:Hp):Prop:=∃ q,x=.ref q∧H q=some (.tup [.int a.1,.int a.2])
theorem axP.ext {a:Int × Int}{x:V}{H H':Hp}(h:axP a x H) (e:Ext H H'):axP a x H':=by
 obtain ⟨q,rfl,hq⟩:=h
 exact ⟨q,rfl,e.at hq⟩
theorem al_axP {H:Hp}{axs:List (Int × Int)}{ys:List V}(al:Al (TupV H) (axs.map fun a=>[a.1,a.2]) ys):Al (fun a y=>axP a y H) axs ys:=by
 refine ⟨by rw [al.1,List.length_map],fun i a y ha hy=>?_⟩
 obtain ⟨q,hq,h⟩:=al.2 i [a.1,a.2] y (by rw [List.getElem?_map,ha];rfl) hy
 exact ⟨q,hq,h⟩
end L2
set_option Elab.async false
set_option linter.all false
set_option maxRecDepth 100000
set_option maxHeartbeats 4000000
namespace L2
open PySem PySem.Spec PyProof.Rows
section
variable {prog:Program}{w:World}{A:Around}{E:Value->Shared->Prop}{s:Shared}
variable {z TI TO i j:Addr}{f g:List Addr}{ti tj:Nat->Heap->Prop}{vi vj:Nat->Option Value}{k m:Nat}{x y:Value}{t:Addr}{fl:Bool}{ot:Obj}
variable {ka kb:Bool}{a b p q:Addr}{as bs:Array Value}{n:Nat}
end
section
variable {X:Cx}{pins:List (Addr × Obj)}{σ:St}{s:Shared}
end
section
variable {X:Cx}
end
end L2
set_option Elab.async false
set_option linter.all false
set_option maxRecDepth 100000
set_option maxHeartbeats 4000000
namespace L2
open PySem PySem.Spec PyProof.Rows
section
variable {X:Cx}
end
section
variable {X:Cx}{a b c d:Expr}{ta tb tc td:TE}{pos:Pos}
end
section
variable {k:Nat}{g:TG}{tt:TT}{te:TE}{σ:St}{Q:VK}{H:Hp}{K:PySem.W.Frag}
theorem comp_rel2 {α:Type}{J:It}(zs:List α) (c:α->Bool) (P:α->V->Hp->Prop) (R:Addr->α->V->Hp->Prop)
  (hgo:∀ i z H',zs[i]? = some z->Ext H H'->J.go i H'∧∀ x H'',J.yld i H' x H''->Ext H' H''∧P z x H'')
  (hst:∀ H',Ext H H'->J.stop zs.length H')
  (hR1:∀ D z y H1 H2,R D z y H1->Ext H1 H2->R D z y H2) (hR2:∀ D z y H1 xs o,R D z y H1->H1 D=some (.lst xs)->R D z y (upd H1 D o))
  (hl:zs.length≤sizeLine)
  (hs:∀ D z x H' N1 N0,z∈zs->H D=none->Ext H H'->(∃ ys,H' D=some (.lst ys))->P z x H'->(c z=true->∀ y H'',Ext H' H''->R D z y H''->N1 y H'')->(c z=false->∀ H'',Ext H' H''->N0 H'')->g x (List.replicate k none++σ) H' (kCm k tt te σ N1 N0))
  (hd:∀ D ys H',H D=none->Ext H H'->H' D=some (.lst ys)->Al (fun z y=>R D z y H') (zs.filter c) ys->Q (.ref D) H'):kComp k g tt te σ Q J H:=by
 intro D hD
 refine ⟨fun i m ys H'=>m=zs.length - i∧i≤zs.length∧Ext H H'∧H' D=some (.lst ys)∧Al (fun z y=>R D z y H') ((zs.take i).filter c) ys,⟨zs.length,by simp,Nat.zero_le _,Ext.new hD,upd_same,by simpa using Al.nil⟩,?_⟩
 rintro i m ys H' ⟨rfl,hi,e,hD',al⟩
 by_cases hlt:i < zs.length
 ·have hz:zs[i]? = some zs[i]:=List.getElem?_eq_getElem hlt
  obtain ⟨go,y⟩:=hgo i zs[i] H' hz e
  have tk:zs.take (i+1)=zs.take i++[zs[i]]:=by rw [List.take_succ,hz];rfl
  have ln:ys.length < sizeLine:=by
   have h1:=al.1
   have h2:=List.length_filter_le c (zs.take i)
   simp only [List.length_take] at h2
   omega
  refine .inr ⟨go,fun ys' H2=>Ext H H2∧H2 D=some (.lst ys')∧Al (fun z y=>R D z y H2) ((zs.take (i+1)).filter c) ys',fun ys' H2 p=>⟨zs.length - (i+1),by omega,rfl,hlt,p⟩,fun x H2 z=>?_⟩
  obtain ⟨e2,p2⟩:=y x H2 z
  refine hs D zs[i] x H2 (kC3 D ys _) _ (List.getElem_mem hlt) hD (e.trans e2) ⟨ys,e2.at hD'⟩ p2 (fun hc y H3 e3 r3=>?_) fun hc H3 e3=>?_
  ·refine ⟨e3.at (e2.at hD'),ln,(e.trans (e2.trans e3)).put hD,upd_same,?_⟩
   rw [tk,List.filter_append,show [zs[i]].filter c=[zs[i]] by simp [hc]]
   exact Al.snoc (al.imp fun z y r=>hR2 _ _ _ _ _ _ (hR1 _ _ _ _ _ r (e2.trans e3)) (e3.at (e2.at hD'))) (hR2 _ _ _ _ _ _ r3 (e3.at (e2.at hD')))
  ·refine ⟨e.trans (e2.trans e3),(e2.trans e3).at hD',?_⟩
   rw [tk,List.filter_append,show [zs[i]].filter c=[] by simp [hc],List.append_nil]
   exact al.imp fun z y r=>hR1 _ _ _ _ _ r (e2.trans e3)
 ·have e':i=zs.length:=by omega
  subst e'
  rw [List.take_length] at al
  exact .inl ⟨hst H' e,hd D ys H' hD e hD' al⟩
end
end L2
set_option Elab.async false
set_option linter.all false
set_option maxRecDepth 100000
set_option maxHeartbeats 4000000
namespace L2
open PySem PySem.Spec PyProof.Rows
section
variable {X:Cx}
end
section
variable {g:TG}{σ:St}{Q:VK}{H:Hp}{K:PySem.W.Frag}
end
section
variable {X:Cx}{CX:CXT}{k:Nat}{f C:Addr}{fd:FuncData}{ps:List Str}{sp:Sp}{dvs:List V}{ds:List Value}{E:St->XK}{x m:Str}{p pos apos:Pos}{e o:Expr}{es:List Expr}{ta:TE}{t:TA}
end
end L2
set_option Elab.async false
set_option linter.all false
set_option maxRecDepth 100000
set_option maxHeartbeats 1000000
namespace L2
open PySem PySem.Spec PyProof.Rows
section
variable {X:Cx}{e st:Expr}{te tst:TE}{pos p2:Pos}
end
end L2
set_option Elab.async false
set_option linter.all false
set_option maxRecDepth 100000
set_option maxHeartbeats 1000000
namespace L2
open PySem PySem.Spec PyProof.Rows
section
variable {X:Cx}
end
end L2
set_option Elab.async false
set_option linter.all false
set_option maxRecDepth 100000
set_option maxHeartbeats 1000000
namespace L2
open PySem PySem.Spec PyProof.Rows
theorem units1 {n:Nat}(h:n+64 < cLine):n+1 < cLine:=by omega
def kDG1 (Q:VK) (x:V):VK:=fun y H=>∃ a v,x=.ref a∧DGet H a y (some v)∧Q v H
def kDG0 (ty:TE) (σ:St) (Q:VK):VK:=fun x H=>ty σ H (kDG1 Q x)
theorem m_kDG0 (ty:TE) (σ:St) (Q:VK) (x:V) (H:Hp):kDG0 ty σ Q x H=ty σ H (kDG1 Q x):=rfl
theorem m_tDGet (td ty:TE) (σ:St) (H:Hp) (Q:VK):tDGet td ty σ H Q=td σ H (kDG0 ty σ Q):=rfl
theorem use_dg {H:Hp}{a:Addr}{kvs:List (Key × V)}{k:Key}{v:V}{Q:VK}(e:H a=some (.dK kvs)) (h:valV kvs k=some v) (q:Q v H):kDG1 Q (.ref a) (kV k) H:=⟨a,v,rfl,h ▸ DGet.k e,q⟩
section
variable {X:Cx}
end
def kDP2 (nx:St->Hp->Prop) (σ:St) (v x:V):VK:=fun y H=>∃ a H4,x=.ref a∧DPut H a y v H4∧nx σ H4
def kDP1 (ty:TE) (nx:St->Hp->Prop) (σ:St) (v:V):VK:=fun x H=>ty σ H (kDP2 nx σ v x)
theorem m_kDP1 (ty:TE) (nx:St->Hp->Prop) (σ:St) (v x:V) (H:Hp):kDP1 ty nx σ v x H=ty σ H (kDP2 nx σ v x):=rfl
def kDP0 (td ty:TE) (nx:St->Hp->Prop) (σ:St):VK:=fun v H=>td σ H (kDP1 ty nx σ v)
theorem m_kDP0 (td ty:TE) (nx:St->Hp->Prop) (σ:St) (v:V) (H:Hp):kDP0 td ty nx σ v H=td σ H (kDP1 ty nx σ v):=rfl
theorem m_sDPut (td ty tv:TE) (nx:St->Hp->Prop) (rt:VK) (bk ct:St->Hp->Prop) (σ:St) (H:Hp):sDPut td ty tv ⟨nx,rt,bk,ct⟩ σ H=tv σ H (kDP0 td ty nx σ):=rfl
theorem use_dp {H:Hp}{a:Addr}{kvs:List (Key × V)}{k:Key}{v:V}{nx:St->Hp->Prop}{σ:St}(e:H a=some (.dK kvs)) (hl:kvs.length < sizeLine) (q:nx σ (upd H a (.dK (putK kvs k v)))):kDP2 nx σ v (.ref a) (kV k) H:=⟨a,_,rfl,DPut.k e hl,q⟩
end L2
set_option Elab.async false
set_option linter.all false
set_option maxRecDepth 100000
set_option maxHeartbeats 4000000
namespace L2
open PySem PySem.Spec PyProof.Rows
def qSrtD:List V->Hp->VK->Prop:=fun vs H Q=>∃ p kvs ns,vs=[.ref p]∧H p=some (.dK kvs)∧kvs.map (·.1)=ns.map (Sum.inl:Int->Key)∧ns.length < 64∧∀ ms:List Int,ms.Perm ns->ms.Pairwise (·≤·)->newK (.lst (ms.map V.int)) H Q
theorem use_srt {p:Addr}{kvs:List (Key × V)}{ns:List Int}{H:Hp}{Q:VK}(e:H p=some (.dK kvs)) (hk:kvs.map (·.1)=ns.map (Sum.inl:Int->Key)) (hl:ns.length < 64) (q:∀ ms:List Int,ms.Perm ns->ms.Pairwise (·≤·)->newK (.lst (ms.map V.int)) H Q):qSrtD [.ref p] H Q:=⟨p,kvs,ns,rfl,e,hk,hl,q⟩
theorem intsAre_get:∀ {us:List Value}{ns:List Int},us.length=ns.length->(∀ (i:Nat) (u:Value),us[i]? = some u->∃ n t,ns[i]? = some n∧u=.int n t)->IntsAre us ns
 | [],[],_,_=>.nil
 | [],_::_,h,_=>by cases h
 | _::_,[],h,_=>by cases h
 | u::us,n::ns,h,k=>by
  obtain ⟨m,t,e1,rfl⟩:=k 0 u rfl
  cases e1
  exact .cons n t (intsAre_get (by simpa using h) fun i u e=>k (i+1) u (by simpa using e))
theorem vals_of_ints:∀ {us:List Value}{ns:List Int},IntsAre us ns->Vals (ns.map V.int) us
 | _,_,.nil=>.nil
 | _,_,.cons n t r=>.cons ⟨t,rfl⟩ (vals_of_ints r)
theorem paired_get {α β:Type}{F:α->β->Prop}:∀ {l₁:List α}{l₂:List β},Paired F l₁ l₂->∀ {i:Nat}{a:α},l₁[i]? = some a->∃ b,l₂[i]? = some b∧F a b
 | _,_,.nil,i,a,h=>by simp at h
 | _,_,.cons h₁ t,0,a,h=>by cases h;exact ⟨_,rfl,h₁⟩
 | _,_,.cons h₁ t,i+1,a,h=>paired_get t (i:=i) (by simpa using h)
section
variable {X:Cx}
theorem call_qSrtD (hc:X.calm=true):CallR X (.builtin "sorted") qSrtD:=by
 intro pins s σ H vs us Q I r h
 obtain ⟨p,kvs,ns,rfl,e,hk,hl,q⟩:=h
 cases r with
 | cons r rr=>
  cases rr
  cases r
  obtain ⟨z,hd,xs,rel,dd⟩:=dk_of I.hok e
  obtain ⟨ep,hat⟩:=dd.dictAt
  have hlen:kvs.length=xs.length:=Paired.length rel
  have hln:xs.length=ns.length:=by rw [←hlen];have:=congrArg List.length hk;simpa using this
  refine Calls.call_function_entry kind_sorted plain_sorted entry_sorted (args_sorted1 _) ?_
  unfold Builtin.«sorted»
  refine wpAny_bind (m:=checkCount "sorted" 1 1 _) (wpAny_pure ?_)
  refine wpAny_bind (PySem.W.kdu_collect (A:=X.A.in1) (PySem.W.kdl_dict (knd:=mixKind X.prog X.w) (kvs:=xs) (ep:=ep) hd) (show X.A.in1.handled=none from I.ok.hd hc) hat (by omega) fun h' tk acc kp hacc=>?_)
  have hal:acc.toList.length=ns.length:=by rw [Array.length_toList,hacc.1,hln]
  have hI:IntsAre acc.toList ns:=by
   refine intsAre_get hal fun i u hu=>?_
   obtain ⟨k,x,hx,hku⟩:=hacc.2 i u (by simpa using hu)
   have hi:i < kvs.length:=by rw [hlen];exact (List.getElem?_eq_some_iff.mp hx).1
   have h1:kvs[i]? = some kvs[i]:=List.getElem?_eq_getElem hi
   obtain ⟨w',hw',rw'⟩:=paired_get rel h1
   rw [hx] at hw'
   cases hw'
   have h2:(kvs.map (·.1))[i]? = some k:=by rw [List.getElem?_map,h1];exact congrArg some rw'.1
   rw [hk,List.getElem?_map] at h2
   obtain ⟨n,hn,rfl⟩:=Option.map_eq_some_iff.mp h2
   rcases keyIs_shape (show keyIs (Sum.inl n) u=true from hku) with ⟨j,t,e1,e2⟩|⟨j,t,e1,e2⟩
   ·cases e1
    exact ⟨n,t,hn,e2⟩
   ·cases e1
  refine wpAny_bind (wpAny_newList ?_ (by rw [hal];exact len5000 (by omega)))
  have hoL:(h'.push (seqObj "list" acc.toList.toArray 0)).get? h'.objs.size=some (seqObj "list" acc.toList.toArray 0):=Heap.get?_push_size _ rfl
  refine wpAny_bind (wpAny_holding (wpAny_call_entry slot_list_sort ⟨_,hoL,rfl⟩ entry_list_sort (list_sort_tree hoL hI (by omega) fun out ns' a1 a2 a3=>⟨_,rfl,?_⟩) (args_list_sort _)))
  refine wpAny_pure ⟨_,rfl,?_⟩
  have I2:Inv X pins σ H { s with heap:=h',toks:=tk }:=I.kept (t':=tk) kp
  have fr:=I2.hok.fresh (Nat.le_refl _)
  obtain ⟨e',he'⟩:=sortedHeap_at (out:=out) hoL
  refine ⟨.ref h'.objs.size,_,I2.laid (t':=tk) (h':=sortedHeap (h'.push (seqObj "list" acc.toList.toArray 0)) h'.objs.size acc.toList out) (o:=.lst (ns'.map V.int)) (fun b u hb=>?_) (Nat.le_refl _) ⟨?_,out.toList,e',vals_of_ints a1,?_⟩,rfl,q ns' a2 a3 _ _ fr (Ext.new fr) upd_same⟩
  ·have hb':h'.get? b=some u:=hb
   have hlt:=Heap.lt_size hb'
   rw [sortedHeap_old (Nat.ne_of_lt hlt) (by rw [size_push'];exact Nat.lt_succ_of_lt hlt)]
   exact Heap.get?_push_of_some _ hb'
  ·rw [List.length_map,a2.length_eq];exact len5000 (by omega)
  ·rw [Array.toArray_toList];exact he'
end
end L2
set_option Elab.async false
set_option linter.all false
set_option maxRecDepth 100000
set_option maxHeartbeats 4000000
namespace L2
open PySem PySem.Spec PyProof.Rows
def tV (i:Nat):TE:=fun σ H Q=>match σ[i]? with
 | some (some v)=>Q v H
 | _=>False
theorem tV_eq (i:Nat):tVar i=tV i:=by
 funext σ H Q
 refine propext ⟨fun ⟨v,e,q⟩=>?_,fun h=>?_⟩
 ·unfold tV;rw [e];exact q
 ·unfold tV at h
  split at h
  ·rename_i v e;exact ⟨v,e,h⟩
  ·exact h.elim
theorem m_tV_0 {v:V}{σ:St}{H:Hp}{Q:VK}:tV 0 (some v::σ) H Q=Q v H:=rfl
theorem m_tV_1 {a0:Option V}{v:V}{σ:St}{H:Hp}{Q:VK}:tV 1 (a0::some v::σ) H Q=Q v H:=rfl
theorem m_tV_2 {a0 a1:Option V}{v:V}{σ:St}{H:Hp}{Q:VK}:tV 2 (a0::a1::some v::σ) H Q=Q v H:=rfl
theorem m_tV_3 {a0 a1 a2:Option V}{v:V}{σ:St}{H:Hp}{Q:VK}:tV 3 (a0::a1::a2::some v::σ) H Q=Q v H:=rfl
theorem m_tV_4 {a0 a1 a2 a3:Option V}{v:V}{σ:St}{H:Hp}{Q:VK}:tV 4 (a0::a1::a2::a3::some v::σ) H Q=Q v H:=rfl
theorem m_tV_5 {a0 a1 a2 a3 a4:Option V}{v:V}{σ:St}{H:Hp}{Q:VK}:tV 5 (a0::a1::a2::a3::a4::some v::σ) H Q=Q v H:=rfl
theorem m_tV_6 {a0 a1 a2 a3 a4 a5:Option V}{v:V}{σ:St}{H:Hp}{Q:VK}:tV 6 (a0::a1::a2::a3::a4::a5::some v::σ) H Q=Q v H:=rfl
theorem m_tV_7 {a0 a1 a2 a3 a4 a5 a6:Option V}{v:V}{σ:St}{H:Hp}{Q:VK}:tV 7 (a0::a1::a2::a3::a4::a5::a6::some v::σ) H Q=Q v H:=rfl
theorem m_tV_8 {a0 a1 a2 a3 a4 a5 a6 a7:Option V}{v:V}{σ:St}{H:Hp}{Q:VK}:tV 8 (a0::a1::a2::a3::a4::a5::a6::a7::some v::σ) H Q=Q v H:=rfl
theorem m_tV_9 {a0 a1 a2 a3 a4 a5 a6 a7 a8:Option V}{v:V}{σ:St}{H:Hp}{Q:VK}:tV 9 (a0::a1::a2::a3::a4::a5::a6::a7::a8::some v::σ) H Q=Q v H:=rfl
theorem m_tV_10 {a0 a1 a2 a3 a4 a5 a6 a7 a8 a9:Option V}{v:V}{σ:St}{H:Hp}{Q:VK}:tV 10 (a0::a1::a2::a3::a4::a5::a6::a7::a8::a9::some v::σ) H Q=Q v H:=rfl
def nI0 (g:Int->Int->V):R2:=fun x y H Q=>match x,y with
 | .int i,.int j=>Q (g i j) H
 | _,_=>False
theorem m_nI0 (g:Int->Int->V) (i j:Int) (H:Hp) (Q:VK):nI0 g (.int i) (.int j) H Q=Q (g i j) H:=rfl
theorem nI0_eq (g:Int->Int->V):rI0 g=nI0 g:=by
 funext x y H Q
 refine propext ⟨fun ⟨i,j,e,e',q⟩=>by subst e e';exact q,fun h=>?_⟩
 unfold nI0 at h
 split at h
 ·exact ⟨_,_,rfl,rfl,h⟩
 ·exact h.elim
def nI (C:Int->Int->Prop) (g:Int->Int->V):R2:=fun x y H Q=>match x,y with
 | .int i,.int j=>C i j∧Q (g i j) H
 | _,_=>False
theorem m_nI (C:Int->Int->Prop) (g:Int->Int->V) (i j:Int) (H:Hp) (Q:VK):nI C g (.int i) (.int j) H Q=(C i j∧Q (g i j) H):=rfl
theorem nI_eq (C:Int->Int->Prop) (g:Int->Int->V):rI C g=nI C g:=by
 funext x y H Q
 refine propext ⟨fun ⟨i,j,e,e',q⟩=>by subst e e';exact q,fun h=>?_⟩
 unfold nI at h
 split at h
 ·exact ⟨_,_,rfl,rfl,h⟩
 ·exact h.elim
def nU (g:Int->V):V->Hp->VK->Prop:=fun x H Q=>match x with
 | .int i=>Q (g i) H
 | _=>False
theorem m_nU (g:Int->V) (i:Int) (H:Hp) (Q:VK):nU g (.int i) H Q=Q (g i) H:=rfl
theorem nU_eq (g:Int->V):rU g=nU g:=by
 funext x H Q
 refine propext ⟨fun ⟨i,e,q⟩=>by subst e;exact q,fun h=>?_⟩
 unfold nU at h
 split at h
 ·exact ⟨_,rfl,h⟩
 ·exact h.elim
def kTestN (Q:Bool->Hp->Prop):VK:=fun x H=>match x with
 | .bl k=>Q k H
 | _=>False
theorem m_kTestN (Q:Bool->Hp->Prop) (k:Bool) (H:Hp):kTestN Q (.bl k) H=Q k H:=rfl
theorem kTest_eq (Q:Bool->Hp->Prop):kTest Q=kTestN Q:=by
 funext x H
 refine propext ⟨fun ⟨k,e,q⟩=>by subst e;exact q,fun h=>?_⟩
 unfold kTestN at h
 split at h
 ·exact ⟨_,rfl,h⟩
 ·exact h.elim
def nTest (t:TE):TT:=fun σ H Q=>t σ H (kTestN Q)
theorem m_nTest (t:TE) (σ:St) (H:Hp) (Q:Bool->Hp->Prop):nTest t σ H Q=t σ H (kTestN Q):=rfl
theorem nTest_eq (t:TE):tTest t=nTest t:=by
 funext σ H Q
 show t σ H (kTest Q)=t σ H (kTestN Q)
 rw [kTest_eq]
theorem nTest_eqB (t:TE):tB t=nTest t:=nTest_eq t
def kAndN (tb:TE) (σ:St) (Q:VK):VK:=fun x H=>match x with
 | .bl c=>if c=true then tb σ H Q else Q (.bl false) H
 | _=>False
theorem m_kAndN (tb:TE) (σ:St) (Q:VK) (c:Bool) (H:Hp):kAndN tb σ Q (.bl c) H=(if c=true then tb σ H Q else Q (.bl false) H):=rfl
def nAndV (ta tb:TE):TE:=fun σ H Q=>ta σ H (kAndN tb σ Q)
theorem m_nAndV (ta tb:TE) (σ:St) (H:Hp) (Q:VK):nAndV ta tb σ H Q=ta σ H (kAndN tb σ Q):=rfl
theorem nAndV_eq (ta tb:TE):tAndV ta tb=nAndV ta tb:=by
 funext σ H Q
 show ta σ H (kAndV tb σ Q)=ta σ H (kAndN tb σ Q)
 congr 1
 funext x H
 refine propext ⟨fun ⟨k,e,q⟩=>by subst e;exact q,fun h=>?_⟩
 unfold kAndN at h
 split at h
 ·exact ⟨_,rfl,h⟩
 ·exact h.elim
def kNotN (Q:VK):VK:=fun x H=>match x with
 | .bl c=>Q (.bl (!c)) H
 | _=>False
theorem m_kNotN (Q:VK) (c:Bool) (H:Hp):kNotN Q (.bl c) H=Q (.bl (!c)) H:=rfl
def nNotV (ta:TE):TE:=fun σ H Q=>ta σ H (kNotN Q)
theorem m_nNotV (ta:TE) (σ:St) (H:Hp) (Q:VK):nNotV ta σ H Q=ta σ H (kNotN Q):=rfl
theorem nNotV_eq (ta:TE):tNotV ta=nNotV ta:=by
 funext σ H Q
 show ta σ H (kNotV Q)=ta σ H (kNotN Q)
 congr 1
 funext x H
 refine propext ⟨fun ⟨k,e,q⟩=>by subst e;exact q,fun h=>?_⟩
 unfold kNotN at h
 split at h
 ·exact ⟨_,rfl,h⟩
 ·exact h.elim
def kChN2 (r':R2) (tc:TE) (σ:St) (y:V) (Q:VK):VK:=fun z H=>match z with
 | .bl k=>if k=true then tc σ H (kCh3 r' y Q) else Q (.bl false) H
 | _=>False
theorem m_kChN2 (r':R2) (tc:TE) (σ:St) (y:V) (Q:VK) (k:Bool) (H:Hp):kChN2 r' tc σ y Q (.bl k) H=(if k=true then tc σ H (kCh3 r' y Q) else Q (.bl false) H):=rfl
theorem kCh2_eq (r':R2) (tc:TE) (σ:St) (y:V) (Q:VK):kCh2 r' tc σ y Q=kChN2 r' tc σ y Q:=by
 funext z H
 refine propext ⟨fun ⟨k,e,q⟩=>by subst e;exact q,fun h=>?_⟩
 unfold kChN2 at h
 split at h
 ·exact ⟨_,rfl,h⟩
 ·exact h.elim
def kChN1 (r r':R2) (tc:TE) (σ:St) (x:V) (Q:VK):VK:=fun y H=>r x y H (kChN2 r' tc σ y Q)
theorem m_kChN1 (r r':R2) (tc:TE) (σ:St) (x y:V) (Q:VK) (H:Hp):kChN1 r r' tc σ x Q y H=r x y H (kChN2 r' tc σ y Q):=rfl
def kChN0 (r r':R2) (tb tc:TE) (σ:St) (Q:VK):VK:=fun x H=>tb σ H (kChN1 r r' tc σ x Q)
theorem m_kChN0 (r r':R2) (tb tc:TE) (σ:St) (Q:VK) (x:V) (H:Hp):kChN0 r r' tb tc σ Q x H=tb σ H (kChN1 r r' tc σ x Q):=rfl
def nChain (r r':R2) (ta tb tc:TE):TE:=fun σ H Q=>ta σ H (kChN0 r r' tb tc σ Q)
theorem m_nChain (r r':R2) (ta tb tc:TE) (σ:St) (H:Hp) (Q:VK):nChain r r' ta tb tc σ H Q=ta σ H (kChN0 r r' tb tc σ Q):=rfl
theorem nChain_eq (r r':R2) (ta tb tc:TE):tChain r r' ta tb tc=nChain r r' ta tb tc:=by
 funext σ H Q
 show ta σ H (kCh0 r r' tb tc σ Q)=ta σ H (kChN0 r r' tb tc σ Q)
 congr 1
 funext x H1
 show tb σ H1 (kCh1 r r' tc σ x Q)=tb σ H1 (kChN1 r r' tc σ x Q)
 congr 1
 funext y H2
 show r x y H2 (kCh2 r' tc σ y Q)=r x y H2 (kChN2 r' tc σ y Q)
 rw [kCh2_eq]
def gNilN:TGs:=fun vs σ H Q=>match vs with
 | []=>Q σ H
 | _=>False
theorem m_gNilN (σ:St) (H:Hp) (Q:St->Hp->Prop):gNilN [] σ H Q=Q σ H:=rfl
theorem gNil_eq:gNil=gNilN:=by
 funext vs σ H Q
 refine propext ⟨fun ⟨e,q⟩=>by subst e;exact q,fun h=>?_⟩
 unfold gNilN at h
 split at h
 ·exact ⟨rfl,h⟩
 ·exact h.elim
def gConsN (t:TG) (u:TGs):TGs:=fun vs σ H Q=>match vs with
 | v::r=>t v σ H (kGs u r Q)
 | _=>False
theorem m_gConsN (t:TG) (u:TGs) (v:V) (r:List V) (σ:St) (H:Hp) (Q:St->Hp->Prop):gConsN t u (v::r) σ H Q=t v σ H (kGs u r Q):=rfl
theorem gCons_eq (t:TG) (u:TGs):gCons t u=gConsN t u:=by
 funext vs σ H Q
 refine propext ⟨fun ⟨v,r,e,q⟩=>by subst e;exact q,fun h=>?_⟩
 unfold gConsN at h
 split at h
 ·exact ⟨_,_,rfl,h⟩
 ·exact h.elim
theorem spx1 {α0:Type}{f:α0->List V}{B:α0->Prop}(inj:∀ a a',f a=f a'->a=a') (a:α0):(∃ a',f a=f a'∧B a')=B a:=propext ⟨fun ⟨a',e,q⟩=>by obtain rfl:=inj _ _ e;exact q,fun q=>⟨a,rfl,q⟩⟩
theorem spl1 {α0:Type}{f:α0->List V}{B:α0->Prop}{vs:List V}{n:Nat}(h:∃ a,vs=f a∧B a) (l:∀ a,(f a).length=n):vs.length=n:=by
 obtain ⟨_,rfl,_⟩:=h
 exact l _
theorem spx2 {α0 α1:Type}{f:α0->α1->List V}{B:α0->α1->Prop}(inj:∀ a b a' b',f a b=f a' b'->a=a'∧b=b') (a:α0) (b:α1):(∃ a' b',f a b=f a' b'∧B a' b')=B a b:=propext ⟨fun ⟨a',b',e,q⟩=>by obtain ⟨rfl,rfl⟩:=inj _ _ _ _ e;exact q,fun q=>⟨a,b,rfl,q⟩⟩
theorem spl2 {α0 α1:Type}{f:α0->α1->List V}{B:α0->α1->Prop}{vs:List V}{n:Nat}(h:∃ a b,vs=f a b∧B a b) (l:∀ a b,(f a b).length=n):vs.length=n:=by
 obtain ⟨_,_,rfl,_⟩:=h
 exact l _ _
theorem spx3 {α0 α1 α2:Type}{f:α0->α1->α2->List V}{B:α0->α1->α2->Prop}(inj:∀ a b c a' b' c',f a b c=f a' b' c'->a=a'∧b=b'∧c=c') (a:α0) (b:α1) (c:α2):(∃ a' b' c',f a b c=f a' b' c'∧B a' b' c')=B a b c:=propext ⟨fun ⟨a',b',c',e,q⟩=>by obtain ⟨rfl,rfl,rfl⟩:=inj _ _ _ _ _ _ e;exact q,fun q=>⟨a,b,c,rfl,q⟩⟩
theorem spl3 {α0 α1 α2:Type}{f:α0->α1->α2->List V}{B:α0->α1->α2->Prop}{vs:List V}{n:Nat}(h:∃ a b c,vs=f a b c∧B a b c) (l:∀ a b c,(f a b c).length=n):vs.length=n:=by
 obtain ⟨_,_,_,rfl,_⟩:=h
 exact l _ _ _
theorem spx4 {α0 α1 α2 α3:Type}{f:α0->α1->α2->α3->List V}{B:α0->α1->α2->α3->Prop}(inj:∀ a b c d a' b' c' d',f a b c d=f a' b' c' d'->a=a'∧b=b'∧c=c'∧d=d') (a:α0) (b:α1) (c:α2) (d:α3):(∃ a' b' c' d',f a b c d=f a' b' c' d'∧B a' b' c' d')=B a b c d:=propext ⟨fun ⟨a',b',c',d',e,q⟩=>by obtain ⟨rfl,rfl,rfl,rfl⟩:=inj _ _ _ _ _ _ _ _ e;exact q,fun q=>⟨a,b,c,d,rfl,q⟩⟩
theorem spl4 {α0 α1 α2 α3:Type}{f:α0->α1->α2->α3->List V}{B:α0->α1->α2->α3->Prop}{vs:List V}{n:Nat}(h:∃ a b c d,vs=f a b c d∧B a b c d) (l:∀ a b c d,(f a b c d).length=n):vs.length=n:=by
 obtain ⟨_,_,_,_,rfl,_⟩:=h
 exact l _ _ _ _
theorem spx5 {α0 α1 α2 α3 α4:Type}{f:α0->α1->α2->α3->α4->List V}{B:α0->α1->α2->α3->α4->Prop}(inj:∀ a b c d i a' b' c' d' i',f a b c d i=f a' b' c' d' i'->a=a'∧b=b'∧c=c'∧d=d'∧i=i') (a:α0) (b:α1) (c:α2) (d:α3) (i:α4):(∃ a' b' c' d' i',f a b c d i=f a' b' c' d' i'∧B a' b' c' d' i')=B a b c d i:=propext ⟨fun ⟨a',b',c',d',i',e,q⟩=>by obtain ⟨rfl,rfl,rfl,rfl,rfl⟩:=inj _ _ _ _ _ _ _ _ _ _ e;exact q,fun q=>⟨a,b,c,d,i,rfl,q⟩⟩
theorem spl5 {α0 α1 α2 α3 α4:Type}{f:α0->α1->α2->α3->α4->List V}{B:α0->α1->α2->α3->α4->Prop}{vs:List V}{n:Nat}(h:∃ a b c d i,vs=f a b c d i∧B a b c d i) (l:∀ a b c d i,(f a b c d i).length=n):vs.length=n:=by
 obtain ⟨_,_,_,_,_,rfl,_⟩:=h
 exact l _ _ _ _ _
theorem len0 {P:List Value->Prop}(h:P []):∀ us:List Value,us.length=0->P us:=fun us e=>by
 cases us with
 | nil=>exact h
 | cons a r=>cases e
theorem len1 {P:List Value->Prop}(h:∀ a,P [a]):∀ us:List Value,us.length=1->P us:=fun us e=>by
 cases us with
 | nil=>cases e
 | cons x r=>exact len0 (P:=fun r=>P (x::r)) (h x) r (Nat.succ.inj e)
theorem len2 {P:List Value->Prop}(h:∀ a b,P [a,b]):∀ us:List Value,us.length=2->P us:=fun us e=>by
 cases us with
 | nil=>cases e
 | cons x r=>exact len1 (P:=fun r=>P (x::r)) (h x) r (Nat.succ.inj e)
theorem len3 {P:List Value->Prop}(h:∀ a b c,P [a,b,c]):∀ us:List Value,us.length=3->P us:=fun us e=>by
 cases us with
 | nil=>cases e
 | cons x r=>exact len2 (P:=fun r=>P (x::r)) (h x) r (Nat.succ.inj e)
theorem len4 {P:List Value->Prop}(h:∀ a b c d,P [a,b,c,d]):∀ us:List Value,us.length=4->P us:=fun us e=>by
 cases us with
 | nil=>cases e
 | cons x r=>exact len3 (P:=fun r=>P (x::r)) (h x) r (Nat.succ.inj e)
theorem len5 {P:List Value->Prop}(h:∀ a b c d i,P [a,b,c,d,i]):∀ us:List Value,us.length=5->P us:=fun us e=>by
 cases us with
 | nil=>cases e
 | cons x r=>exact len4 (P:=fun r=>P (x::r)) (h x) r (Nat.succ.inj e)
section
variable {X:Cx}
theorem pvN (i:Nat){x:Str}{pos:Pos}(hN:X.N[i]? = some x:=by rfl) (hv:Vis X.env.scope x:=by first|exact Or.inl rfl|exact Or.inr (Or.inl rfl)|exact Or.inr (Or.inr rfl)) (hd:(x == ("__debug__":Str))=false:=by decide)
  (hcd:(x == ("__classdict__":Str))=false:=by decide):PE X (.Name x pos) (tV i):=by rw [←tV_eq];exact pv i hN hv hd hcd
theorem on_add:OpR X (binaryOp .Add) (nI0 fun i j=>.int (i+j)):=by rw [←nI0_eq];exact op_add
theorem on_sub:OpR X (binaryOp .Sub) (nI0 fun i j=>.int (i - j)):=by rw [←nI0_eq];exact op_sub
theorem on_lt:OpR X (compareOp .Lt) (nI0 fun i j=>.bl (decide (i < j))):=by rw [←nI0_eq];exact op_lt
theorem on_le:OpR X (compareOp .LtE) (nI0 fun i j=>.bl (decide (i≤j))):=by rw [←nI0_eq];exact op_le
theorem on_gt:OpR X (compareOp .Gt) (nI0 fun i j=>.bl (decide (j < i))):=by rw [←nI0_eq];exact op_gt
theorem on_ge:OpR X (compareOp .GtE) (nI0 fun i j=>.bl (decide (j≤i))):=by rw [←nI0_eq];exact op_ge
theorem on_mul:OpR X (binaryOp .Mult) (nI CMul fun i j=>.int (i * j)):=by rw [←nI_eq];exact op_mul
theorem on_fdiv:OpR X (binaryOp .FloorDiv) (nI CDiv fun i j=>.int (i / j)):=by rw [←nI_eq];exact op_fdiv
theorem on_fdivB:OpR X (binaryOp .FloorDiv) (nI CDivB fun i j=>.int (i.fdiv j)):=by rw [←nI_eq];exact op_fdivB
theorem on_mod:OpR X (binaryOp .Mod) (nI (fun _ j=>0 < j) fun i j=>.int (i % j)):=by rw [←nI_eq];exact op_mod
theorem on_pow:OpR X (binaryOp .Pow) (nI CPow fun i j=>.int (i ^ j.toNat)):=by rw [←nI_eq];exact op_pow
theorem un_negN:UnR X (unaryOp .USub) (nU fun i=>.int (-i)):=by rw [←nU_eq];exact un_neg
variable {a b c d e:Expr}{ta tb tc td t:TE}{pos:Pos}
theorem pt_cmpRN {op:CmpOp}{r:R2}(ho:OpR X (compareOp op) r) (ha:PE X a ta) (hb:PE X b tb) (hm:behindInMarks op b=false):PT X (.Compare a [op] [b] pos) (nTest (tOp r ta tb)):=by rw [←nTest_eq];exact pt_cmpR ho ha hb hm
theorem pt_valN (h:PE X e t) (he:∀ whole,isTrue e X.env whole=(do let v ←whole;standAt e.pos;holding [v] (truthy v)):=by intro _;rfl):PT X e (nTest t):=by rw [←nTest_eqB];exact pt_val h he
theorem pe_chainN {op op':CmpOp}{r r':R2}(ho:OpR X (compareOp op) r) (ho':OpR X (compareOp op') r') (ha:PE X a ta) (hb:PE X b tb) (hc:PE X c tc)
  (hm:lastMarks [op,op'] [b,c]=false:=by with_unfolding_all rfl):PE X (.Compare a [op,op'] [b,c] pos) (nChain r r' ta tb tc):=by rw [←nChain_eq];exact pe_chain ho ho' ha hb hc hm
variable {rest:List Expr}
theorem pe_andN (ha:PE X a ta) (hb:PE X (.BoolOp .And (b::rest) pos) tb):PE X (.BoolOp .And (a::b::rest) pos) (nAndV ta tb):=by rw [←nAndV_eq];exact pe_and ha hb
theorem pe_notN (ha:PE X a ta):PE X (.UnaryOp .Not a pos) (nNotV ta):=by rw [←nNotV_eq];exact pe_not ha
theorem pgs_nilN:PGs X [] gNilN:=by rw [←gNil_eq];exact pgs_nil
theorem pgs_consN {e:Expr}{es:List Expr}{t:TG}{u:TGs}(h1:PG X e t) (h2:PGs X es u)
  (hs:(assignEach (e::es) X.env).map (·.2)=assign e X.env::(assignEach es X.env).map (·.2):=by rfl):PGs X (e::es) (gConsN t u):=by rw [←gCons_eq];exact pgs_cons h1 h2 hs
end
theorem if_gen {c:TT}{t u:TS}{nx:St->Hp->Prop}{rt:VK}{bk ct:St->Hp->Prop}{σ:St}{H:Hp}(R:St->Hp->Prop) (h:∀ nx':St->Hp->Prop,(∀ σ' H',R σ' H'->nx' σ' H')->tIfS c t u ⟨nx',rt,bk,ct⟩ σ H) (k:∀ σ' H',R σ' H'->nx σ' H'):tIfS c t u ⟨nx,rt,bk,ct⟩ σ H:=h nx k
end L2
set_option Elab.async false
set_option linter.all false
set_option maxRecDepth 100000
set_option maxHeartbeats 4000000
namespace L2
open PySem PySem.Spec PyProof.Rows
end L2
set_option Elab.async false
set_option linter.all false
set_option maxRecDepth 100000
set_option maxHeartbeats 4000000
namespace L2
open PySem PySem.Spec PyProof.Rows
section
variable {X:Cx}
end
end L2
set_option Elab.async false
set_option linter.all false
set_option maxRecDepth 100000
set_option maxHeartbeats 4000000
namespace L2
open PySem PySem.Spec PyProof.Rows
section
variable {prog:Program}{w:World}{A:Around}{E:Value->Shared->Prop}{s:Shared}
end
section
variable {X:Cx}
end
end L2
set_option Elab.async false
set_option linter.all false
set_option maxRecDepth 100000
set_option maxHeartbeats 4000000
namespace L2
open PySem PySem.Spec PyProof.Rows
theorem kv_get':∀ {kvs:List (Key × V)}{xs:List (Key × Value)},KV kvs xs->∀ {i:Nat}{p:Key × V},kvs[i]? = some p->∃ q,xs[i]? = some q∧p.1=q.1∧RelV p.2 q.2
 | _,_,.nil,i,q,h=>by simp at h
 | _::_,q::_,.cons h t,0,p,hq=>by cases hq;exact ⟨q,rfl,h⟩
 | _::_,_::_,.cons h t,i+1,p,hq=>kv_get' t (i:=i) (by simpa using hq)
end L2
set_option Elab.async false
set_option linter.all false
set_option maxRecDepth 100000
set_option maxHeartbeats 4000000
namespace L2
open PySem PySem.Spec PyProof.Rows
def Itd (a:Addr) (ob:Obj) (kvs:List (Key × V)):It:=
 ⟨fun i H=>H a=some (.frz ob (.dK kvs))∧i < kvs.length,fun i H x H'=>H'=H∧∃ p,kvs[i]? = some p∧x=kV p.1,fun i H=>H a=some (.frz ob (.dK kvs))∧kvs.length≤i⟩
theorem relV_key:∀ {k:Key}{u:Value},keyIs k u=true->RelV (kV k) u
 | .inl i,u,h=>by
  rcases keyIs_shape h with ⟨j,t,e1,e2⟩|⟨j,t,e1,e2⟩
  ·cases e1;exact ⟨t,e2⟩
  ·cases e1
 | .inr x,u,h=>by
  rcases keyIs_shape h with ⟨j,t,e1,e2⟩|⟨j,t,e1,e2⟩
  ·cases e1
  ·cases e1;exact ⟨t,e2⟩
def DObj (P:Program) (w:World) (ob:Obj) (vs:List (Key × Value)) (ep:Nat):Prop:=∀ (h:Heap) (a:Addr),h.get? a=some ob->h.DictAt (mixKind P w) a vs ep
theorem turn_dict {P:Program}{w:World}{K:PySem.W.Frag}{tg:Expr}(a it:Addr) (ob:Obj) (kvs:List (Key × V)) (vs:List (Key × Value)) (ep:Nat) (kx:KV kvs vs) (dx:DObj P w ob vs ep):Turn P w K tg (Itd a ob kvs) [it] it (fun i h=>h.IsKeyIter it a i vs.length ep) where
 mem:=by simp
 obj:=fun i h st b hb=>by
  have e:b=it:=by simpa using hb
  subst e
  obtain ⟨o,e,c,d⟩:=st
  exact ⟨o,e,fun v z=>by rw [d] at z;cases z⟩
 keep:=fun i h h' st k=>st.at fun o e=>k it (by simp) o e
 item:=by
  intro X hP hw hK hc i pins s σ H E I hf st hg
  subst hP hw hK
  obtain ⟨ha,hi⟩:=hg
  have hob:=(show ObjOk X.prog X.w H s.heap a (.frz ob (.dK kvs)) from I.hok a _ ha).1
  have hlen:kvs.length=vs.length:=Paired.length kx
  obtain ⟨q,hq,hk,hr⟩:=kv_get' kx (List.getElem?_eq_getElem hi)
  obtain ⟨f0,f1,f2,f3,f4,f5⟩:=hf it (by simp)
  refine wpAny_pyNext_dict_item st (dx _ a hob) hq fun key h' hkey st' hs'=>?_
  have I1:Inv X pins σ H { s with heap:=h' }:=I.turned (t':=s.toks) (fun b o hb e=>hs'.extBut b o hb e) f0 f1 f3 f4 f5
  obtain ⟨o,e,c,d⟩:=id st'
  refine ⟨key,rfl,go_of (s:={ s with heap:=h' }) e c d (by decide) ⟨kV kvs[i].1,H,I1,?_,⟨rfl,kvs[i],List.getElem?_eq_getElem hi,rfl⟩,st',fun b hb=>(hf b hb).1⟩⟩
  rw [hk]
  exact relV_key hkey
 done:=by
  intro X hP hw hK hc i pins s σ H E I hf st hg
  subst hP hw hK
  obtain ⟨ha,hi⟩:=hg
  have hob:=(show ObjOk X.prog X.w H s.heap a (.frz ob (.dK kvs)) from I.hok a _ ha).1
  have hlen:kvs.length=vs.length:=Paired.length kx
  obtain ⟨f0,f1,f2,f3,f4,f5⟩:=hf it (by simp)
  exact wpAny_pyNext_dict_end (I.ok.hd hc) st (dx _ a hob) (by simp;omega) fun h' eb=>⟨rfl,I.turned (t':=s.toks) (fun b o hb e=>eb b o hb e) f0 f1 f3 f4 f5⟩
 self:=fun _ _ _ _ _ st h=>wpAny_pyIter_keyiter st h
def kIDc (R:It->Hp->Prop):VK:=fun x H1=>∃ a kvs,x=.ref a∧H1 a=some (.dK kvs)∧∀ ob,R (Itd a ob kvs) (upd H1 a (.frz ob (.dK kvs)))
def iDict (tl:TE):TI:=fun σ H R=>tl σ H (kIDc R)
theorem m_iDict (tl:TE) (σ:St) (H:Hp) (R:It->Hp->Prop):iDict tl σ H R=tl σ H (kIDc R):=rfl
theorem pi_dict {X:Cx}{tg l:Expr}{tl:TE}(hl:PE X l tl):PI X tg l (iDict tl):=by
 intro pins s σ H R I h
 refine thn (hl pins s σ H _ I h) fun v s1 ⟨x,H1,I1,r1,q1⟩=>?_
 obtain ⟨a,kvs,e,ha,q⟩:=q1
 subst e
 cases r1
 have hO:ObjOk X.prog X.w H1 s1.heap a (.dK kvs):=I1.hok a _ ha
 obtain ⟨z0,lo,vs,kx,dd⟩:=id hO
 obtain ⟨ep,hat⟩:=dd.dictAt
 obtain ⟨ob,es,ho,rest⟩:=id hat
 have dx:DObj X.prog X.w ob vs ep:=fun h b hb=>⟨ob,es,hb,rest⟩
 have hO':ObjOk X.prog X.w (upd H1 a (.frz ob (.dK kvs))) s1.heap a (.frz ob (.dK kvs)):=⟨ho,⟨z0,lo,vs,kx,dd⟩⟩
 have I2:=I1.write (t':=s1.toks) (x:=a) (e:=a) (o:=.frz ob (.dK kvs)) (h':=s1.heap) (by rw [ha];trivial) (.inl rfl) (fun b u _ e=>e) ⟨ob,ho⟩ hO'
 refine wpAny_pyIter_dict lo hat ?_
 refine ⟨s1.heap.objs.size,[s1.heap.objs.size],_,_,_,rfl,I2.kept (t':=s1.toks) fun b o e=>Heap.get?_push_of_some _ e,turn_dict a _ ob kvs vs ep kx dx,⟨_,Heap.get?_push_size _ rfl,rfl,rfl⟩,fun b hb=>?_,q ob⟩
 have e:b=s1.heap.objs.size:=by simpa using hb
 subst e
 exact I2.fpOk (Nat.le_refl _) (I2.hok.fresh (Nat.le_refl _))
theorem Inv.thaw {X:Cx}{pins:List (Addr × Obj)}{σ:St}{H:Hp}{s:Shared}{a:Addr}{ob:Obj}{kvs:List (Key × V)}(I:Inv X pins σ H s) (ha:H a=some (.frz ob (.dK kvs))) (hn:∀ o u,X.H₀ a ≠ some (.frz o u)):Inv X pins σ (upd H a (.dK kvs)) s:=by
 have ne:∀ b,H b=none->b ≠ a:=fun b e z=>by rw [z,ha] at e;cases e
 have keepN:∀ b,H b=none->upd H a (.dK kvs) b=none:=fun b e=>by rw [upd_ne (ne b e)];exact e
 refine ⟨I.ok,I.os,I.bare,⟨I.base.keep,I.base.slot,fun b o e n hx=>keepN b (I.base.free b o e n hx),I.base.there,fun b xs e=>?_,fun b o u e=>?_,fun b ps e=>?_⟩,I.loc,I.cell,keepN _ I.free,fun x c e=>keepN _ (I.freeC x c e),fun p hp=>?_,fun b u e=>?_,I.len⟩
 ·have h:=I.base.tups b xs e
  rw [upd_ne (fun z=>by rw [z,ha] at h;cases h)];exact h
 ·have h:=I.base.frzs b o u e
  rw [upd_ne (fun z=>hn o u (by rw [←z];exact e))];exact h
 ·obtain ⟨m,h⟩:=I.base.tbls b ps e
  exact ⟨m,by rw [upd_ne (fun z=>by rw [z,ha] at h;cases h)];exact h⟩
 ·obtain ⟨h1,h2,h3⟩:=I.pin p hp
  exact ⟨h1,keepN _ h2,h3⟩
 ·have stay:∀ (c:Addr) (v:HO),ObjOk X.prog X.w H s.heap c v->ObjOk X.prog X.w (upd H a (.dK kvs)) s.heap c v:=fun c v x=>x.stay (fun _ _ _ q=>q) (fun d q=>by rw [upd_ne (fun z=>by rw [z,ha] at q;cases q)];exact q) (fun d y q=>by rw [upd_ne (fun z=>by rw [z,ha] at q;cases q)];exact q) fun d xs q=>by rw [upd_ne (fun z=>by rw [z,ha] at q;cases q)];exact q
  by_cases hb:b=a
  ·subst hb
   rw [upd_same] at e
   cases e
   exact stay _ _ (show ObjOk X.prog X.w H s.heap b (.frz ob (.dK kvs)) from I.hok b _ ha).2
  ·rw [upd_ne hb] at e
   exact stay b u (I.hok b u e)
def kThaw (H:Hp) (Q:VK):VK:=fun v H'=>∃ a ob kvs kvs0,H a=some (.dK kvs0)∧H' a=some (.frz ob (.dK kvs))∧Q v (upd H' a (.dK kvs))
section
variable {k:Nat}{g:TG}{tt:TT}{te:TE}{σ:St}{Q:VK}{H:Hp}
end
end L2
set_option Elab.async false
set_option linter.all false
set_option maxRecDepth 100000
set_option maxHeartbeats 4000000
namespace L2
open PySem PySem.Spec PyProof.Rows
structure IsC (K:PySem.W.Frag) (C:Addr):Prop where
 cl:Cls K C
 fc:PySem.W.findIn K (.ref C) "__class__"=some (some (.builtin "object.__class__"))
 ocs:PySem.W.specialIn K (.builtin "object.__class__") "__get__"=some (some (.builtin "getset_descriptor.__get__"))
 oct:PySem.W.takesIn K (.builtin "object.__class__")=some true
 mo:PySem.W.mroIn K C (.type "object")=some true
end L2
set_option Elab.async false
set_option linter.all false
set_option maxRecDepth 100000
set_option maxHeartbeats 4000000
namespace L2
open PySem PySem.Spec PyProof.Rows
section
variable {X:Cx}
end
end L2
set_option Elab.async false
set_option linter.all false
set_option maxRecDepth 100000
set_option maxHeartbeats 4000000
namespace L2
open PySem PySem.Spec PyProof.Rows PySem.W
section
variable {prog:Program}{w:World}{A:Around}{E:Value->Shared->Prop}{K:Frag}{x C dx:Addr}{s:Shared}{name:Str}{v:Value}
end
section
variable {X:Cx}{e o value:Expr}{ta tv:TE}{f:Str}{pos pos':Pos}
end
end L2
set_option Elab.async false
set_option linter.all false
set_option maxRecDepth 100000
set_option maxHeartbeats 4000000
namespace L2
open PySem PySem.Spec PyProof.Rows
open Sem (wp)
open AutoSeq1 (wpAny_loadPart')
section
variable {X:Cx}
end
end L2
set_option Elab.async false
set_option linter.all false
set_option maxRecDepth 100000
set_option maxHeartbeats 4000000
namespace L2
open PySem PySem.Spec PyProof.Rows
end L2
set_option Elab.async false
set_option linter.all false
set_option maxRecDepth 100000
set_option maxHeartbeats 4000000
namespace L2
open PySem PySem.Spec PyProof.Rows
def NoCtx (o:Obj):Prop:=∃ vs,o.data=.fields vs∧vs[2]? = some .none
section
variable {prog:Program}{w:World}{A:Around}{E:Value->Shared->Prop}{s:Shared}
end
def Hand (X:Cx):Prop:=∃ (e:Addr) (oe:Obj) (u:HO),X.A.handled=some (.ref e)∧X.H₀ e=some (.frz oe u)∧NoCtx oe
structure TurnH (P:Program) (w:World) (K:PySem.W.Frag) (tg:Expr) (J:It) (fp:List Addr) (it:Addr) (tn:Nat->Heap->Prop):Prop where
 mem:it∈fp
 obj:∀ i h,tn i h->∀ b∈fp,∃ o,h.get? b=some o∧∀ v,o.data ≠ .cell v
 keep:∀ i h h',tn i h->(∀ b∈fp,∀ o,h.get? b=some o->h'.get? b=some o)->tn i h'
 item:∀ (X:Cx),X.prog=P->X.w=w->X.K=K->Hand X->∀ (i:Nat) (pins:List (Addr × Obj)) (s:Shared) (σ:St) (H:Hp) (E:Value->Shared->Prop),Inv X pins σ H s->(∀ b∈fp,FpOk X pins H b)->tn i s.heap->J.go i H →
  wpAny (model P w) X.A (pyNext (.ref it)) (fun r s1=>∃ u,r=some u ∧
   wpAny (model P w) X.A (letOwnedTupleGo tg (.ref it) u) (fun _ s2=>∃ x H',Inv X pins σ H' s2∧RelV x u∧J.yld i H x H'∧tn (i+1) s2.heap∧∀ b∈fp,H' b=none) E s1) E s
 done:∀ (X:Cx),X.prog=P->X.w=w->X.K=K->Hand X->∀ (i:Nat) (pins:List (Addr × Obj)) (s:Shared) (σ:St) (H:Hp) (E:Value->Shared->Prop),Inv X pins σ H s->(∀ b∈fp,FpOk X pins H b)->tn i s.heap->J.stop i H →
  wpAny (model P w) X.A (pyNext (.ref it)) (fun r s1=>r=none∧Inv X pins σ H s1) E s
section
variable {X:Cx}{tg:Expr}
end
structure RoomH (k:Nat) (e:Addr) (A:Around):Prop where
 hd:A.handled=some (.ref e)
 dp:A.depth+3 * k+5 < recursionLimit
 un:A.units+16 * k+200 < cLine
structure FnOkH (P:Program) (w:World) (K:PySem.W.Frag) (mg:Str->Option Value) (base:Heap) (CX:CXT) (k:Nat) (f:Addr) (fd:FuncData) (ps:List Str) (sp:Sp):Prop where
 len:∀ vs H Q E,sp vs H Q E->vs.length=ps.length
 run:∀ (A:Around) (outer:List Env) (s:Shared) (H:Hp) (args:Args) (us:List Value) (vs:List V) (Q:VK) (E:XK) (e:Addr) (oe:Obj) (u:HO),RoomH k e A->H e=some (.frz oe u)->NoCtx oe->Env0 P w K mg base A outer s H->BindsTo s fd args (ps.zip us)->Vals vs us->sp vs H Q E →
  codeAny (model P w) A (.call (.ref f) args) (CR CX outer P w H s Q E) s
section
variable {X:Cx}
end
end L2
set_option Elab.async false
set_option linter.all false
set_option maxRecDepth 100000
set_option maxHeartbeats 4000000
namespace L2
open PySem PySem.Spec PyProof.Rows
section
variable {prog:Program}{w:World}{A:Around}{E:Value->Shared->Prop}{s:Shared}
structure Apart3 (z TI TO i j l:Addr) (f g e:List Addr):Prop where
 ti:TI ≠ z∧TI ≠ TO∧TI ≠ i∧TI ≠ j∧TI ≠ l
 zt:z ≠ TO
 zf:z ∉ f
 zg:z ∉ g
 ze:z ∉ e
 tf:TO ∉ f
 tg:TO ∉ g
 te:TO ∉ e
 ig:i ∉ g
 ie:i ∉ e
 jf:j ∉ f
 je:j ∉ e
 lf:l ∉ f
 lg:l ∉ g
variable {z TI TO i j l:Addr}{f g e:List Addr}{ti tj tl:Nat->Heap->Prop}{vi vj vl:Nat->Option Value}{k m n:Nat}{x y u a b c:Value}
end
section
variable {prog:Program}{w:World}{A:Around}{E:Value->Shared->Prop}{s:Shared}
end
section
variable {X:Cx}
end
end L2
set_option Elab.async false
set_option linter.all false
set_option maxRecDepth 100000
set_option maxHeartbeats 4000000
namespace L2
open PySem PySem.Spec PyProof.Rows
def kGE2 (Q:VK) (a:Addr) (y:V):VK:=fun z H=>∃ o,DGet H a y o∧Q (o.getD z) H
def kGE1 (tx:TE) (σ:St) (Q:VK) (a:Addr):VK:=fun y H=>tx σ H (kGE2 Q a y)
theorem m_kGE1 (tx:TE) (σ:St) (Q:VK) (a:Addr) (y:V) (H:Hp):kGE1 tx σ Q a y H=tx σ H (kGE2 Q a y):=rfl
def kGE0 (ty tx:TE) (σ:St) (Q:VK):VK:=fun x H=>∃ a,x=.ref a∧IsD H a∧ty σ H (kGE1 tx σ Q a)
theorem m_tDGet2 (td ty tx:TE) (σ:St) (H:Hp) (Q:VK):tDGet2 td ty tx σ H Q=td σ H (kGE0 ty tx σ Q):=rfl
theorem use_ge0 {ty tx:TE}{σ:St}{Q:VK}{H:Hp}{a:Addr}{kvs:List (Key × V)}(e:H a=some (.dK kvs)) (q:ty σ H (kGE1 tx σ Q a)):kGE0 ty tx σ Q (.ref a) H:=⟨a,rfl,.inl ⟨kvs,.inl e⟩,q⟩
theorem use_ge {Q:VK}{H:Hp}{a:Addr}{kvs:List (Key × V)}{k:Key}{z:V}(e:H a=some (.dK kvs)) (q:Q ((valV kvs k).getD z) H):kGE2 Q a (kV k) z H:=⟨_,DGet.k e,q⟩
end L2
set_option Elab.async false
set_option linter.all false
set_option maxRecDepth 100000
set_option maxHeartbeats 4000000
namespace L2
open PySem PySem.Spec PyProof.Rows
section
variable {X:Cx}
end
end L2
set_option Elab.async false
set_option linter.all false
set_option maxRecDepth 100000
set_option maxHeartbeats 4000000
namespace L2
open PySem PySem.Spec PyProof.Rows
def CallRK (X:Cx) (f:Value) (ks:List Str) (r:List V->List V->Hp->VK->Prop):Prop:=∀ pins s σ H vs us zs ws Q,Inv X pins σ H s->Vals vs us->Vals zs ws->r vs zs H Q->wpAny (model X.prog X.w) X.A (call f us (ks.zip ws)) (EP X pins σ Q) X.xe s
def kBK1 (r:List V->List V->Hp->VK->Prop) (Q:VK) (vs:List V):List V->Hp->Prop:=fun zs H=>r vs zs H Q
theorem m_kBK1 (r:List V->List V->Hp->VK->Prop) (Q:VK) (vs zs:List V) (H:Hp):kBK1 r Q vs zs H=r vs zs H Q:=rfl
def kBK0 (r:List V->List V->Hp->VK->Prop) (tk:TA) (σ:St) (Q:VK):List V->Hp->Prop:=fun vs H=>tk σ H (kBK1 r Q vs)
theorem m_kBK0 (r:List V->List V->Hp->VK->Prop) (tk:TA) (σ:St) (Q:VK) (vs:List V) (H:Hp):kBK0 r tk σ Q vs H=tk σ H (kBK1 r Q vs):=rfl
def tCBK (r:List V->List V->Hp->VK->Prop) (t tk:TA):TE:=fun σ H Q=>t σ H (kBK0 r tk σ Q)
theorem m_tCBK (r:List V->List V->Hp->VK->Prop) (t tk:TA) (σ:St) (H:Hp) (Q:VK):tCBK r t tk σ H Q=t σ H (kBK0 r tk σ Q):=rfl
theorem pe_callBK {X:Cx}{id:String}{x:Str}{p pos:Pos}{e:Expr}{es:List Expr}{kws:List Keyword}{ks:List Str}{r:List V->List V->Hp->VK->Prop}{t tk:TA}(hc:CallRK X (.builtin id) ks r) (hg:Gl X x) (hm:X.mg x=none) (hv:bootBuiltins x=some (.builtin id)) (ha:PA X (e::es) t) (hk:PK X kws tk) (hn:x ≠ "__name__":=by decide) (hdb:(x == ("__debug__":Str))=false:=by decide)
  (hks:(backToKw pos (keywordEach kws X.env)).filterMap (·.1)=ks:=by rfl)
  (h1:backTo pos (starEach (e::es) X.env)=(false,eval e X.env)::backTo pos (starEach es X.env):=by rfl)
  (h2:(backTo pos (starEach (e::es) X.env)).any (·.1)=false:=by rfl)
  (h3:(backToKw pos (keywordEach kws X.env)).all (·.1.isSome)=true:=by rfl)
  (h4:(backToKw pos (keywordEach kws X.env)).any (·.1.isNone)=false:=by rfl):PE X (.Call (.Name x p) (e::es) kws pos) (tCBK r t tk):=by
 intro pins s σ H Q I h
 refine wpAny_Call_Name_kw (ld_blt I hg hm hv ?_ hn hdb)
 refine callWith_kw (thn (ha pos pins s σ H _ I h) fun us s1 ⟨vs,H1,I1,r1,q1⟩=>thn (hk pos pins s1 σ H1 _ I1 q1) fun ws s2 ⟨zs,H2,I2,r2,q2⟩=>?_) h1 h2 h3 h4
 rw [hks]
 exact hc pins s2 σ H2 vs us zs ws Q I2 r1 r2 q2
section
variable {prog:Program}{w:World}{A:Around}{R:Result->Shared->Prop}{J:Addr}{fp wr:List Addr}{G:Array GenState->Array GenState->Prop}{n:Nat}{P:Nat->Value->Prop}{St:Nat->Shared->Prop}
end
section
variable {prog:Program}{w:World}{A:Around}{R:Result->Shared->Prop}{J:Addr}{fp wr:List Addr}{G:Array GenState->Array GenState->Prop}{n:Nat}{P:Nat->Value->Prop}{St:Nat->Shared->Prop}
end
end L2
set_option Elab.async false
set_option linter.all false
set_option maxRecDepth 100000
set_option maxHeartbeats 4000000
namespace L2
open PySem PySem.Spec PyProof.Rows
end L2
set_option Elab.async false
set_option linter.all false
set_option maxRecDepth 100000
set_option maxHeartbeats 4000000
namespace L2
open PySem PySem.Spec PyProof.Rows
abbrev PKy:=List Int × List Int
section
variable {prog:Program}{w:World}
end
section
variable {P:Program}{w:World}{H:Hp}{h:Heap}{a:Addr}
end
section
variable {X:Cx}{pins:List (Addr × Obj)}{σ:St}{H:Hp}{s:Shared}{d b:Addr}{k:PKy}{Z:List PKy}{A:Around}{E:Value->Shared->Prop}
end
section
variable {X:Cx}
end
theorem pi_seq' {X:Cx}{tg l:Expr}{tl:TE}{K:PySem.W.Frag}(hK:X.K=K) (hl:PE X l tl):PI X tg l (iSeq K tl):=by subst hK;exact pi_seq hl
end L2
set_option Elab.async false
set_option linter.all false
set_option maxRecDepth 100000
set_option maxHeartbeats 4000000
namespace L2
open PySem PySem.Spec PyProof.Rows
end L2
set_option Elab.async false
set_option linter.all false
set_option maxRecDepth 100000
set_option maxHeartbeats 1000000
namespace L2
open PySem PySem.Spec PyProof.Rows
section
variable {X:Cx}{e st:Expr}{te tst:TE}{pos p2:Pos}
end
end L2
set_option Elab.async false
set_option linter.all false
set_option maxRecDepth 100000
set_option maxHeartbeats 4000000
namespace L2
open PySem PySem.Spec PyProof.Rows
def qSrtR:List V->List V->Hp->VK->Prop:=fun vs zs H Q=>∃ p kvs ns,vs=[.ref p]∧zs=[.bl true]∧H p=some (.dK kvs)∧kvs.map (·.1)=ns.map (Sum.inl:Int->Key)∧ns.length < 64∧∀ ms:List Int,ms.Perm ns->ms.Pairwise (· ≥ ·)->newK (.lst (ms.map V.int)) H Q
theorem use_srtR {p:Addr}{kvs:List (Key × V)}{ns:List Int}{H:Hp}{Q:VK}(e:H p=some (.dK kvs)) (hk:kvs.map (·.1)=ns.map (Sum.inl:Int->Key)) (hl:ns.length < 64) (q:∀ ms:List Int,ms.Perm ns->ms.Pairwise (· ≥ ·)->newK (.lst (ms.map V.int)) H Q):qSrtR [.ref p] [.bl true] H Q:=⟨p,kvs,ns,rfl,rfl,e,hk,hl,q⟩
section
variable {X:Cx}
theorem call_qSrtR (hc:X.calm=true):CallRK X (.builtin "sorted") ["reverse"] qSrtR:=by
 intro pins s σ H vs us zs ws Q I r rz h
 obtain ⟨p,kvs,ns,rfl,rfl,e,hk,hl,q⟩:=h
 cases rz with
 | cons rb rz=>
 cases rz
 cases rb
 cases r with
 | cons r rr=>
  cases rr
  cases r
  obtain ⟨z,hd,xs,rel,dd⟩:=dk_of I.hok e
  obtain ⟨ep,hat⟩:=dd.dictAt
  have hlen:kvs.length=xs.length:=Paired.length rel
  have hln:xs.length=ns.length:=by rw [←hlen];have:=congrArg List.length hk;simpa using this
  show wpAny (model X.prog X.w) X.A (call (.builtin "sorted") [.ref p] [(Str.ofString "reverse",.bool true)]) _ _ _
  refine call_function_entry_kw kind_sorted plain_sorted entry_sorted (args_sorted_rev _ _) ?_
  unfold Builtin.«sorted»
  refine wpAny_bind (m:=checkCount "sorted" 1 1 _) (wpAny_pure ?_)
  refine wpAny_bind (PySem.W.kdu_collect (A:=X.A.in1) (PySem.W.kdl_dict (knd:=mixKind X.prog X.w) (kvs:=xs) (ep:=ep) hd) (show X.A.in1.handled=none from I.ok.hd hc) hat (by omega) fun h' tk acc kp hacc=>?_)
  have hal:acc.toList.length=ns.length:=by rw [Array.length_toList,hacc.1,hln]
  have hI:IntsAre acc.toList ns:=by
   refine intsAre_get hal fun i u hu=>?_
   obtain ⟨k,x,hx,hku⟩:=hacc.2 i u (by simpa using hu)
   have hi:i < kvs.length:=by rw [hlen];exact (List.getElem?_eq_some_iff.mp hx).1
   have h1:kvs[i]? = some kvs[i]:=List.getElem?_eq_getElem hi
   obtain ⟨w',hw',rw'⟩:=paired_get rel h1
   rw [hx] at hw'
   cases hw'
   have h2:(kvs.map (·.1))[i]? = some k:=by rw [List.getElem?_map,h1];exact congrArg some rw'.1
   rw [hk,List.getElem?_map] at h2
   obtain ⟨n,hn,rfl⟩:=Option.map_eq_some_iff.mp h2
   rcases keyIs_shape (show keyIs (Sum.inl n) u=true from hku) with ⟨j,t,e1,e2⟩|⟨j,t,e1,e2⟩
   ·cases e1
    exact ⟨n,t,hn,e2⟩
   ·cases e1
  refine wpAny_bind (wpAny_newList ?_ (by rw [hal];exact len5000 (by omega)))
  have hoL:(h'.push (seqObj "list" acc.toList.toArray 0)).get? h'.objs.size=some (seqObj "list" acc.toList.toArray 0):=Heap.get?_push_size _ rfl
  refine wpAny_bind (wpAny_holding (wpAny_call_entry_kw slot_list_sort ⟨_,hoL,rfl⟩ entry_list_sort (list_sort_tree_rev hoL hI (by omega) fun out ns' a1 a2 a3=>⟨_,rfl,?_⟩) (args_list_sort_rev _ _)))
  refine wpAny_pure ⟨_,rfl,?_⟩
  have I2:Inv X pins σ H { s with heap:=h',toks:=tk }:=I.kept (t':=tk) kp
  have fr:=I2.hok.fresh (Nat.le_refl _)
  obtain ⟨e',he'⟩:=sortedHeap_at (out:=out) hoL
  refine ⟨.ref h'.objs.size,_,I2.laid (t':=tk) (h':=sortedHeap (h'.push (seqObj "list" acc.toList.toArray 0)) h'.objs.size acc.toList out) (o:=.lst (ns'.map V.int)) (fun b u hb=>?_) (Nat.le_refl _) ⟨?_,out.toList,e',vals_of_ints a1,?_⟩,rfl,q ns' a2 a3 _ _ fr (Ext.new fr) upd_same⟩
  ·have hb':h'.get? b=some u:=hb
   have hlt:=Heap.lt_size hb'
   rw [sortedHeap_old (Nat.ne_of_lt hlt) (by rw [size_push'];exact Nat.lt_succ_of_lt hlt)]
   exact Heap.get?_push_of_some _ hb'
  ·rw [List.length_map,a2.length_eq];exact len5000 (by omega)
  ·rw [Array.toArray_toList];exact he'
end
end L2
set_option Elab.async false
set_option linter.all false
set_option maxRecDepth 100000
set_option maxHeartbeats 4000000
namespace L2
open PySem PySem.Spec PyProof.Rows
section
variable {X:Cx}{a b:Expr}{ta tb:TE}{pos:Pos}{rest:List Expr}
end
end L2
set_option Elab.async false
set_option linter.all false
set_option maxRecDepth 100000
set_option maxHeartbeats 4000000
namespace L2
open PySem PySem.Spec PyProof.Rows PySem.SeqAt
section
variable {X:Cx}
end
structure Mk0 (K:PySem.W.Frag) (C:Addr):Prop where
 makes:PySem.W.makesIn K C=true
 init:PySem.W.findIn K (.ref C) "__init__"=some (some (.builtin "object.__init__"))
 kp:PySem.W.keepIn K (.ref C)=true
end L2
set_option Elab.async false
set_option linter.all false
set_option maxRecDepth 100000
set_option maxHeartbeats 4000000
namespace L2
open PySem PySem.Spec PyProof.Rows
structure MD (P:Program) (w:World) (K:PySem.W.Frag) (mg:Str->Option Value) (base:Heap) (CX:CXT) (k:Nat) (m:Str) (C:Addr) (sp:Sp):Prop where
 c:Cls K C
 ex:∃ f fd ps,Meth K C m f∧FnOk P w K mg base CX k f fd ps sp∧Binds K fd ps []
section
variable {k:Nat}{g:TG}{tt:TT}{te:TE}{σ:St}{Q:VK}{H:Hp}
end
end L2
set_option Elab.async false
set_option linter.all false
set_option maxRecDepth 100000
set_option maxHeartbeats 4000000
namespace L2
open PySem PySem.Spec PyProof.Rows
section
variable {X:Cx}
end
end L2
set_option Elab.async false
set_option linter.all false
set_option maxRecDepth 100000
set_option maxHeartbeats 4000000
namespace L2
open PySem PySem.Spec PyProof.Rows
section
variable {X:Cx}{CX:CXT}{n k:Nat}{cl:Nat->Addr}{m:Str}{sp:Nat->Sp}{pos apos:Pos}{o e:Expr}{es:List Expr}{ta:TE}{t:TA}
end
end L2
set_option Elab.async false
set_option linter.all false
set_option maxRecDepth 100000
set_option maxHeartbeats 4000000
namespace L2
open PySem PySem.Spec PyProof.Rows
section
variable {X:Cx}{CX:CXT}{k:Nat}{f C:Addr}{fd:FuncData}{ps:List Str}{sp:Sp}{dvs:List V}{ds:List Value}{E:St->XK}{x:Str}{p pos:Pos}{e:Expr}{es:List Expr}{t:TA}
end
end L2
set_option Elab.async false
set_option linter.all false
set_option maxRecDepth 100000
set_option maxHeartbeats 4000000
namespace L2
open PySem PySem.Spec PyProof.Rows
section
variable {X:Cx}
end
end L2
set_option Elab.async false
set_option linter.all false
set_option maxRecDepth 100000
set_option maxHeartbeats 4000000
namespace L2
open PySem PySem.Spec PyProof.Rows
section
variable {X:Cx}
end
end L2
set_option Elab.async false
set_option linter.all false
set_option maxRecDepth 100000
set_option maxHeartbeats 4000000
namespace L2
open PySem PySem.Spec PyProof.Rows
section
variable {X:Cx}
end
end L2
set_option Elab.async false
set_option linter.all false
set_option maxRecDepth 100000
set_option maxHeartbeats 4000000
namespace L2
open PySem PySem.Spec PyProof.Rows
section
variable {X:Cx}{tg:Expr}
end
section
variable {X:Cx}
end
end L2
set_option Elab.async false
set_option linter.all false
set_option maxRecDepth 100000
set_option maxHeartbeats 4000000
namespace L2
open PySem PySem.Spec PyProof.Rows
end L2
namespace HT
open PySem PySem.Spec PyProof.Rows
section
variable {prog:Program}{w:World}{A:Around}{E:Value->Shared->Prop}{s:Shared}
end
end HT
namespace L2
open PySem PySem.Spec PyProof.Rows
end L2
set_option Elab.async false
set_option linter.all false
set_option maxRecDepth 100000
set_option maxHeartbeats 4000000
namespace L2
open PySem PySem.Spec PyProof.Rows
section
variable {X:Cx}
end
end L2
set_option Elab.async false
set_option linter.all false
set_option maxRecDepth 100000
set_option maxHeartbeats 4000000
namespace L2
open PySem PySem.Spec PyProof.Rows
end L2
set_option Elab.async false
set_option linter.all false
set_option maxRecDepth 100000
set_option maxHeartbeats 4000000
namespace L2
open PySem PySem.Spec PyProof.Rows
section
variable {prog:Program}{w:World}{A:Around}{E:Value->Shared->Prop}{s:Shared}
end
end L2
set_option Elab.async false
set_option linter.all false
set_option maxRecDepth 100000
set_option maxHeartbeats 4000000
namespace L2
open PySem PySem.Spec PyProof.Rows
end L2
set_option Elab.async false
set_option linter.all false
set_option maxRecDepth 100000
set_option maxHeartbeats 4000000
namespace L2
open PySem PySem.Spec PyProof.Rows
section
variable {prog:Program}{w:World}{A:Around}{E:Value->Shared->Prop}{s:Shared}{a₀:Array Keyed}
end
section
variable {X:Cx}
end
end L2
set_option Elab.async false
set_option linter.all false
set_option maxRecDepth 100000
set_option maxHeartbeats 4000000
namespace L2
open PySem PySem.Spec PyProof.Rows
section
variable {X:Cx}{k:Nat}{f:Addr}{fd:FuncData}{ps:List Str}{sp:Sp}
end
end L2
set_option Elab.async false
set_option linter.all false
set_option maxRecDepth 100000
set_option maxHeartbeats 4000000
namespace L2
open PySem PySem.Spec PyProof.Rows
section
variable {n:Nat}(h0:0 < n)
include h0
end
section
variable {prog:Program}{w:World}{A:Around}{E:Value->Shared->Prop}{s:Shared}
end
end L2
set_option Elab.async false
set_option linter.all false
set_option maxRecDepth 100000
set_option maxHeartbeats 4000000
namespace L2
open PySem PySem.Spec PyProof.Rows
def kThS (H:Hp) (nx:St->Hp->Prop):St->Hp->Prop:=fun σ' H'=>∃ a ob kvs kvs0,H a=some (.dK kvs0)∧H' a=some (.frz ob (.dK kvs))∧nx σ' (upd H' a (.dK kvs))
def sThaw (t:TS):TS:=fun D σ H=>t ⟨kThS H D.nx,kThaw H D.rt,D.bk,D.ct⟩ σ H
theorem m_sThaw (t:TS) (nx:St->Hp->Prop) (rt:VK) (bk ct:St->Hp->Prop) (σ:St) (H:Hp):sThaw t ⟨nx,rt,bk,ct⟩ σ H=t ⟨kThS H nx,kThaw H rt,bk,ct⟩ σ H:=rfl
theorem ps_thaw {X:Cx}{st:Stmt}{t:TS}(h:PS X st t):PS X st (sThaw t):=by
 intro pins s σ H D I hh
 refine thn (h pins s σ H _ I hh) fun f s1 hs=>?_
 cases f with
 | next=>
  obtain ⟨σ',H',I1,a,ob,kvs,kvs0,h0,hf,q⟩:=hs
  exact ⟨σ',_,I1.thaw hf fun o w z=>(by have:=I.base.frzs a o w z;rw [h0] at this;cases this),q⟩
 | brk=>exact hs
 | cont=>exact hs
 | ret u=>
  obtain ⟨v,σ',H',I1,r1,a,ob,kvs,kvs0,h0,hf,q⟩:=hs
  exact ⟨v,σ',_,I1.thaw hf fun o w z=>(by have:=I.base.frzs a o w z;rw [h0] at this;cases this),r1,q⟩
section
variable {g:TG}{tb:TS}{nx:St->Hp->Prop}{rt:VK}{bk ct:St->Hp->Prop}{σ:St}{H:Hp}
theorem for_dict {a:Addr}{kvs:List (Key × V)}(Pv:Obj->Nat->St->Hp->Prop) (ha:H a=some (.dK kvs)) (h0:∀ ob,Pv ob 0 σ (upd H a (.frz ob (.dK kvs)))) (hl:∀ ob i σ' H',Pv ob i σ' H'->H' a=some (.frz ob (.dK kvs)))
  (hs:∀ ob i z σ' H',kvs[i]? = some z->Pv ob i σ' H'->H' a=some (.frz ob (.dK kvs))->g (kV z.1) σ' H' (kBody tb ⟨Pv ob (i+1),kThaw H rt,kThS H nx,Pv ob (i+1)⟩)) (hd:∀ ob σ' H',Pv ob kvs.length σ' H'->nx σ' (upd H' a (.dK kvs))) :
  kIDc (kFor g tb ⟨kThS H nx,kThaw H rt,bk,ct⟩ σ) (.ref a) H:=by
 refine ⟨a,kvs,rfl,ha,fun ob=>?_⟩
 refine ⟨fun i m σ' H'=>m=kvs.length - i∧i≤kvs.length∧Pv ob i σ' H',⟨kvs.length,by simp,Nat.zero_le _,h0 ob⟩,?_⟩
 rintro i m σ' H' ⟨rfl,hi,p⟩
 have qa:=hl ob i σ' H' p
 by_cases hlt:i < kvs.length
 ·refine .inr ⟨⟨qa,hlt⟩,Pv ob (i+1),fun σ'' H'' p'=>⟨kvs.length - (i+1),by omega,rfl,hlt,p'⟩,fun x H'' y=>?_⟩
  obtain ⟨rfl,z,hz,rfl⟩:=y
  exact hs ob i z σ' _ hz p qa
 ·have e:i=kvs.length:=by omega
  subst e
  exact .inl ⟨⟨qa,Nat.le_refl _⟩,a,ob,kvs,kvs,ha,qa,hd ob σ' H' p⟩
end
section
variable {prog:Program}{w:World}{A:Around}{E:Value->Shared->Prop}{s:Shared}
end
section
variable {g:TG}{tb:TS}{nx:St->Hp->Prop}{rt:VK}{bk ct:St->Hp->Prop}{σ:St}{H:Hp}
end
end L2
set_option Elab.async false
set_option linter.all false
set_option maxRecDepth 100000
set_option maxHeartbeats 4000000
namespace L2
open PySem PySem.Spec PyProof.Rows
end L2
set_option Elab.async false
set_option linter.all false
set_option maxRecDepth 100000
set_option maxHeartbeats 4000000
namespace L2
open PySem PySem.Spec PyProof.Rows
end L2
set_option Elab.async false
set_option linter.all false
set_option maxRecDepth 100000
set_option maxHeartbeats 4000000
namespace L2
open PySem PySem.Spec PyProof.Rows
section
variable {X:Cx}{pins:List (Addr × Obj)}{σ:St}{H:Hp}{s:Shared}
end
end L2
set_option Elab.async false
set_option linter.all false
set_option maxRecDepth 100000
set_option maxHeartbeats 4000000
namespace L2
open PySem PySem.Spec PyProof.Rows
end L2
set_option Elab.async false
set_option linter.all false
set_option maxRecDepth 100000
set_option maxHeartbeats 4000000
namespace L2
open PySem PySem.Spec PyProof.Rows
end L2
set_option Elab.async false
set_option linter.all false
set_option maxRecDepth 100000
set_option maxHeartbeats 1000000
namespace L2
open PySem PySem.Spec PyProof.Rows
section
variable {X:Cx}{e lo st:Expr}{te tlo tst:TE}{pos p2:Pos}
end
end L2
set_option Elab.async false
set_option linter.all false
set_option maxRecDepth 100000
set_option maxHeartbeats 4000000
namespace L2
open PySem PySem.Spec PyProof.Rows
section
variable {X:Cx}{pins:List (Addr × Obj)}{σ:St}{H:Hp}{s:Shared}
end
end L2
set_option Elab.async false
set_option linter.all false
set_option maxRecDepth 100000
set_option maxHeartbeats 4000000
namespace L2
open PySem
end L2
namespace PySem
open Sem (wp)
section
variable {prog:Program}{w:World}{A:Around}{E:Value->Shared->Prop}{s:Shared}
end
end PySem
namespace PyProof.Rows
open PySem PySem.Spec
section
variable {prog:Program}{w:World}{K:Type} [DecidableEq K] {knd:PySem.KeyKind prog w K}{A:Around}{R:Result->Shared->Prop}{I:Addr}{fp wr:List Addr}{G:Array GenState->Array GenState->Prop}{n:Nat}{P:Nat->Value->Prop}{St:Nat->Shared->Prop}
end
end PyProof.Rows
namespace PySem
open Sem (wp)
open PyProof.Rows
section
variable {prog:Program}{w:World}{K:Type} [DecidableEq K] {knd:KeyKind prog w K}{A:Around}{E:Value->Shared->Prop}{s:Shared}
end
end PySem
namespace L2
open PySem PySem.Spec PyProof.Rows
end L2
set_option Elab.async false
set_option linter.all false
set_option maxRecDepth 100000
set_option maxHeartbeats 4000000
namespace L2
open PySem PySem.Spec PyProof.Rows
def dicO (w:World) (l:List (Str × Tok × Value)):Obj:={ cls:=.type "dict",data:=.dict (l.map fun p=>({ hash:=PyData.keyHash w.params p.1,key:=.str p.1 p.2.1,val:=p.2.2 }:DictEntry)).toArray l.length }
structure DicK (w:World) (K:PySem.W.Frag) (a:Addr) (kvs:List (Str × V)):Prop where
 ex:∃ l:List (Str × Tok × Value),K.lookup a=some (dicO w l)∧(a == sysModules)=false∧(l.map (·.1)).Nodup∧Paired (fun (p:Str × V) (q:Str × Tok × Value)=>p.1=q.1∧RelV p.2 q.2.2) kvs l
section
variable {X:Cx}{o i:Expr}{pos:Pos}{td ty:TE}
end
structure FD (P:Program) (w:World) (K:PySem.W.Frag) (mg:Str->Option Value) (base:Heap) (CX:CXT) (k:Nat) (f:Addr) (sp:Sp):Prop where
 kp:PySem.W.keepIn K (.ref f)=true
 ex:∃ fd ps,FnOk P w K mg base CX k f fd ps sp∧Binds K fd ps []
end L2
set_option Elab.async false
set_option linter.all false
set_option maxRecDepth 100000
set_option maxHeartbeats 4000000
namespace L2
open PySem PySem.Spec PyProof.Rows
section
variable {M:Model}{A:Around}{E:Value->Shared->Prop}{s:Shared}
end
section
variable {X:Cx}
end
end L2
set_option Elab.async false
set_option linter.all false
set_option maxRecDepth 100000
set_option maxHeartbeats 4000000
namespace L2
open PySem PySem.Spec PyProof.Rows
section
variable {X:Cx}{pins:List (Addr × Obj)}{σ:St}{H:Hp}{s:Shared}
end
end L2
set_option Elab.async false
set_option linter.all false
set_option maxRecDepth 100000
set_option maxHeartbeats 4000000
namespace L2
open PySem PySem.Spec PyProof.Rows
section
variable {X:Cx}{CX:CXT}{k:Nat}{f C:Addr}{fd:FuncData}{ps ks:List Str}{sp:Sp}{E:XK}{x:Str}{p pos:Pos}{e:Expr}{es:List Expr}{kws:List Keyword}{t tk:TA}{g:List Value->List Value->List Value}{gV:List V->List V->List V}
end
end L2
set_option Elab.async false
set_option linter.all false
set_option maxRecDepth 100000
set_option maxHeartbeats 4000000
namespace L2
open PySem PySem.Spec PyProof.Rows
def kDI2 (Q:VK) (x y:V):VK:=fun v H=>∃ p k,x=.ref p∧y=kV k∧H p=some (.dK [])∧Q (.ref p) (upd H p (.dK [(k,v)]))
def kDI1 (tv:TE) (σ:St) (Q:VK) (x:V):VK:=fun y H=>tv σ H (kDI2 Q x y)
theorem m_kDI1 (tv:TE) (σ:St) (Q:VK) (x y:V) (H:Hp):kDI1 tv σ Q x y H=tv σ H (kDI2 Q x y):=rfl
def kDI0 (tk tv:TE) (σ:St) (Q:VK):VK:=fun x H=>tk σ H (kDI1 tv σ Q x)
theorem m_kDI0 (tk tv:TE) (σ:St) (Q:VK) (x:V) (H:Hp):kDI0 tk tv σ Q x H=tk σ H (kDI1 tv σ Q x):=rfl
def nDispI (tk tv:TE):TE:=fun σ H Q=>newK (.dK []) H (kDI0 tk tv σ Q)
theorem m_nDispI (tk tv:TE) (σ:St) (H:Hp) (Q:VK):nDispI tk tv σ H Q=newK (.dK []) H (kDI0 tk tv σ Q):=rfl
theorem use_dispI {Q:VK}{p:Addr}{k:Key}{v:V}{H:Hp}(e:H p=some (.dK [])) (q:Q (.ref p) (upd H p (.dK [(k,v)]))):kDI2 Q (.ref p) (kV k) v H:=⟨p,k,rfl,rfl,e,q⟩
theorem pe_nDispI {X:Cx}{pos:Pos}{k v:Expr}{tk tv:TE}(hu:X.A.units+1 < cLine) (hk:PE X k tk) (hv:PE X v tv):PE X (.Dict [some k] [v] pos) (nDispI tk tv):=by
 intro pins s σ H Q I q
 have hn:=I.hok.fresh (Nat.le_refl s.heap.objs.size)
 have I1:=I.laid (a:=s.heap.objs.size) (o:=.dK []) (h':=s.heap.push { cls:=.type "dict",data:=.dict #[] }) (t':=s.toks) (fun _ _ q=>Heap.get?_push_of_some _ q) (Nat.le_refl _) (dk_empty s.heap I.big)
 have q1:=q _ _ hn (Ext.new hn) upd_same
 refine wpAny_Dict_any rfl rfl (by simp) (show 1≤15 by decide) (pairTrees_cons_walk (thn (hk pins _ σ _ _ I1 q1) fun u s1 ⟨y,H1,I2,ry,q2⟩=>thn (hv pins s1 σ H1 _ I2 q2) fun w2 s2 ⟨z,H2,I3,rz,p,kk,e1,e2,e,q3⟩=>pairTrees_nil_walk ?_))
 cases e1
 subst e2
 obtain ⟨_,hd,xs,rel,dd⟩:=dk_of I3.hok e
 cases rel
 unfold storeAll
 rw [List.forIn_cons]
 refine wpAny_bind (wpAny_bind (wpAny_dictSet_pairs (hsz:=Nat.zero_le _) (kV_is ry) dd fun h' dd' hs=>wpAny_pure ?_))
 show wpAny _ _ (forIn [] PUnit.unit _) _ _ _
 rw [List.forIn_nil]
 refine wpAny_pure ⟨.ref s.heap.objs.size,_,?_,rfl,q3⟩
 have he:∃ q,h'.get? s.heap.objs.size=some q:=let ⟨q,_,_,hq,_⟩:=dd';⟨q,hq⟩
 exact d_write I3 (by rw [e];exact True.intro) hs he (dk_new (show 1≤sizeLine by rw [sizeLine_eq];omega) hd ((show KV [] [] from .nil).put kk rz) dd')
end L2
set_option Elab.async false
set_option linter.all false
set_option maxRecDepth 100000
set_option maxHeartbeats 4000000
namespace L2
open PySem PySem.Spec PyProof.Rows
structure SB (a₀:Array Keyed) (st:SortSt):Prop where
 perm:(arrOf st).Perm a₀
 kind:kindOf st=oneType'
 failed:failedOf st=none
abbrev setMin (st:SortSt) (g:Nat):SortSt:=SortSt.mk' (kindOf st) (arrOf st) (pendingOf st) g (failedOf st)
def IntP (p:Keyed):Prop:=∃ n t,p.1=.int n t
def kp (p:Keyed):Int:=numOf p.1
def gallop':Bool->Keyed->Array Keyed->Nat->Nat->Nat->StateT SortSt Sem (Option Nat):=sortPriv% PySem.Builtin.gallop
def setMinGallop':Nat->StateT SortSt Sem Unit:=sortPriv% PySem.Builtin.setMinGallop
def mergeLo':Array Keyed->Array Keyed->StateT SortSt Sem (Array Keyed):=sortPriv% PySem.Builtin.mergeLo
def mergeHi':Array Keyed->Array Keyed->StateT SortSt Sem (Array Keyed):=sortPriv% PySem.Builtin.mergeHi
theorem setMinGallop'_eq (g:Nat):setMinGallop' g=modify fun s=>setMin s g:=rfl
def beyond' (left:Bool) (key:Keyed) (arr:Array Keyed) (base i:Nat):StateT SortSt Sem (Option Bool):=do
  let x ←elem' arr (base+i)
  if left then lt' x key else return (←lt' key x).map (!·)
theorem gallop'_eq (left:Bool) (key:Keyed) (arr:Array Keyed) (base n hint:Nat):gallop' left key arr base n hint=(do
 let mut lastofs:=0
 let mut ofs:=1
 let mut lo:=0
 let mut hi:=0
 let some right ←beyond' left key arr base hint|return none
 if right then
  let maxofs:=n - hint
  for _ in [0:n] do
   if ofs ≥ maxofs then break
   let some more ←beyond' left key arr base (hint+ofs)|return none
   if !more then break
   lastofs:=ofs
   ofs:=2 * ofs+1
  lo:=hint+lastofs+1
  hi:=hint+min ofs maxofs
 else
  let maxofs:=hint+1
  for _ in [0:n] do
   if ofs ≥ maxofs then break
   let some found ←beyond' left key arr base (hint - ofs)|return none
   if found then break
   lastofs:=ofs
   ofs:=2 * ofs+1
  lo:=hint+1 - min ofs maxofs
  hi:=hint - lastofs
 for _ in [0:n] do
  if lo ≥ hi then break
  let m:=lo+(hi - lo) / 2
  let some more ←beyond' left key arr base m|return none
  if more then lo:=m+1 else hi:=m
 return some hi):=rfl
section
variable {prog:Program}{w:World}{A:Around}{E:Value->Shared->Prop}{s:Shared}{a₀:Array Keyed}
theorem wpS_lt {st:SortSt}{x y:Keyed}{Q:Option Bool->SortSt->Prop}(hk:kindOf st=oneType') (hx:IntP x) (hy:IntP y) (h:Q (some (decide (kp x < kp y))) st) :
  wpS (model prog w) A E s (lt' x y) Q st:=by
 obtain ⟨a,t,ha⟩:=hx
 obtain ⟨b,u,hb⟩:=hy
 rw [lt'_eq]
 refine wpS_bind (wpS_get ?_)
 rw [hk,keyLt'_oneType,ha,hb]
 have e:kp x=a:=by unfold kp;rw [ha];rfl
 have e2:kp y=b:=by unfold kp;rw [hb];rfl
 rw [e,e2] at h
 refine wpS_bind (wpS_lift (wpAny_attempt (oneLt_int ⟨rfl,?_⟩)))
 exact wpS_pure h
theorem wpS_elem {st:SortSt}{arr:Array Keyed}{i:Nat}{Q:Keyed->SortSt->Prop}(hi:i < arr.size) (h:Q arr[i] st):wpS (model prog w) A E s (elem' arr i) Q st:=by
 rw [elem'_eq,getElem?_pos arr i hi]
 exact wpS_pure h
def Beys (left:Bool) (key:Keyed) (arr:Array Keyed) (base n:Nat) (p:Nat->Bool):Prop:=
 IntP key∧base+n≤arr.size∧∀ i,i < n->∃ x,arr[base+i]? = some x∧IntP x∧p i=if left then decide (kp x < kp key) else !decide (kp key < kp x)
theorem wpS_gallop {st:SortSt}{left:Bool}{key:Keyed}{arr:Array Keyed}{base n hint:Nat}{p:Nat->Bool}{Q:Option Nat->SortSt->Prop}(hk:kindOf st=oneType')
  (hb:Beys left key arr base n p) (hh:hint < n) (mono:∀ i j,i≤j->j < n->p j=true->p i=true)
  (h:∀ k,k≤n->(∀ i,i < k->p i=true)->(∀ i,k≤i->i < n->p i=false)->Q (some k) st) :
  wpS (model prog w) A E s (gallop' left key arr base n hint) Q st:=by
 have bey:∀ (i:Nat) (R:Option Bool->SortSt->Prop),i < n->R (some (p i)) st->wpS (model prog w) A E s (beyond' left key arr base i) R st:=fun i R hi hr=>by
  obtain ⟨x,hx,hxi,hp⟩:=hb.2.2 i hi
  have hlt:base+i < arr.size:=by have:=hb.2.1;omega
  rw [getElem?_pos arr _ hlt] at hx
  unfold beyond'
  refine wpS_bind (wpS_elem hlt ?_)
  injection hx with hx
  rw [hx]
  cases left with
  | true=>
   simp only [if_true] at hp ⊢
   refine wpS_lt hk hxi hb.1 ?_
   rw [←hp];exact hr
  | false=>
   simp only [Bool.false_eq_true,if_false] at hp ⊢
   refine wpS_bind (wpS_lt hk hb.1 hxi (wpS_pure ?_))
   show R (some (!_)) st
   rw [←hp];exact hr
 rw [gallop'_eq]
 dsimp only
 refine wpS_bind (bey hint _ hh ?_)
 have fin:∀ {f:Nat->Option (Option Nat) × Nat × Nat->StateT SortSt Sem (ForInStep (Option (Option Nat) × Nat × Nat))} {g:Option (Option Nat) × Nat × Nat->StateT SortSt Sem (Option Nat)}
   (hf1:∀ x l r,l ≥ r->f x (none,l,r)=pure (.done (none,l,r)))
   (hf2:∀ x l r (R:_->SortSt->Prop),l < r->r≤n->(p (l+(r - l) / 2)=true->R (.yield (none,l+(r - l) / 2+1,r)) st)->(p (l+(r - l) / 2)=false->R (.yield (none,l,l+(r - l) / 2)) st)->wpS (model prog w) A E s (f x (none,l,r)) R st)
   (hg:∀ l r,g (none,l,r)=pure (some r)) (lo hi:Nat),lo≤hi->hi≤n->(∀ i,i < lo->p i=true)->(∀ i,hi≤i->i < n->p i=false)->wpS (model prog w) A E s (forIn [:n] (none,lo,hi) f >>= g) Q st:=fun {f g} hf1 hf2 hg lo hi h1 h2 h3 h4=>by
  refine wpS_bind (wpS_mono (wpS_forRange (I:=fun x c st'=>st'=st∧∃ l r:Nat,c=(none,l,r)∧l≤r∧r≤n∧r - l≤n - x∧(∀ i,i < l->p i=true)∧(∀ i,r≤i->i < n->p i=false))
   (Q:=fun c st'=>st'=st∧∃ l r:Nat,c=(none,l,r)∧r≤n∧(∀ i,i < r->p i=true)∧(∀ i,r≤i->i < n->p i=false)) ?step ?ende ⟨rfl,lo,hi,rfl,h1,h2,by omega,h3,h4⟩) ?post)
  case post=>
   rintro c st' ⟨rfl,l,r,rfl,a1,a2,a3⟩
   rw [hg]
   exact wpS_pure (h r a1 a2 a3)
  case ende=>
   rintro c st' ⟨rfl,l,r,rfl,b1,b2,b3,b4,b5⟩
   have:l=r:=by omega
   subst this
   exact ⟨rfl,l,l,rfl,b2,b4,b5⟩
  case step=>
   rintro x c st' _ hx ⟨rfl,l,r,rfl,b1,b2,b3,b4,b5⟩
   by_cases hge:l ≥ r
   ·rw [hf1 x l r hge]
    have:l=r:=by omega
    subst this
    exact wpS_pure ⟨rfl,l,l,rfl,b2,b4,b5⟩
   ·refine hf2 x l r _ (by omega) b2 (fun hp=>?_) fun hp=>?_
    ·exact ⟨rfl,_,_,rfl,by omega,by omega,by omega,fun i hi=>mono i _ (by omega) (by omega) hp,b5⟩
    ·refine ⟨rfl,_,_,rfl,by omega,by omega,by omega,b4,fun i hi hn=>?_⟩
     cases hq:p i with
     | false=>rfl
     | true=>rw [mono _ i hi hn hq] at hp;cases hp
 cases hp:p hint with
 | true=>
  simp only [if_true]
  refine wpS_bind (wpS_mono (wpS_forRange (I:=fun x c st'=>st'=st∧∃ l o:Nat,c=(none,l,o)∧l < o∧x+1≤o∧hint+l < n∧p (hint+l)=true)
   (Q:=fun c st'=>st'=st∧∃ l o:Nat,c=(none,l,o)∧l < o∧hint+l < n∧p (hint+l)=true∧(o ≥ n - hint∨p (hint+o)=false)) ?step ?ende ⟨rfl,0,1,rfl,by omega,by omega,by omega,hp⟩) ?post)
  case ende=>
   rintro c st' ⟨rfl,l,o,rfl,b1,b2,b3,b4⟩
   exact ⟨rfl,l,o,rfl,b1,b3,b4,.inl (by omega)⟩
  case step=>
   rintro x c st' _ hx ⟨rfl,l,o,rfl,b1,b2,b3,b4⟩
   dsimp only
   by_cases hge:o ≥ n - hint
   ·rw [if_pos hge]
    exact wpS_pure ⟨rfl,l,o,rfl,b1,b3,b4,.inl hge⟩
   ·rw [if_neg hge]
    refine wpS_bind (bey (hint+o) _ (by omega) ?_)
    cases hq:p (hint+o) with
    | true=>exact wpS_pure ⟨rfl,_,_,rfl,by omega,by omega,by omega,hq⟩
    | false=>exact wpS_pure ⟨rfl,_,_,rfl,b1,b3,b4,.inr hq⟩
  case post=>
   rintro c st' ⟨rfl,l,o,rfl,b1,b3,b4,b5⟩
   refine fin (fun x l r hh=>if_pos hh) (fun x l r R hl hr k1 k2=>by
    dsimp only
    rw [if_neg (by omega)]
    refine wpS_bind (bey _ _ (by omega) ?_)
    cases hq:p (l+(r - l) / 2) with
    | true=>exact wpS_pure (k1 hq)
    | false=>exact wpS_pure (k2 hq)) (fun _ _=>rfl) (hint+l+1) (hint+min o (n - hint)) (by omega) (by omega) (fun i hi=>mono i _ (by omega) b3 b4) fun i hi hn=>?_
   rcases b5 with b5|b5
   ·omega
   ·cases hq:p i with
    | false=>rfl
    | true=>rw [mono (hint+o) i (by omega) hn hq] at b5;cases b5
 | false=>
  simp only [Bool.false_eq_true,if_false]
  refine wpS_bind (wpS_mono (wpS_forRange (I:=fun x c st'=>st'=st∧∃ l o:Nat,c=(none,l,o)∧l < o∧x+1≤o∧l≤hint∧p (hint - l)=false)
   (Q:=fun c st'=>st'=st∧∃ l o:Nat,c=(none,l,o)∧l < o∧l≤hint∧p (hint - l)=false∧(o ≥ hint+1∨p (hint - o)=true)) ?step ?ende ⟨rfl,0,1,rfl,by omega,by omega,by omega,hp⟩) ?post)
  case ende=>
   rintro c st' ⟨rfl,l,o,rfl,b1,b2,b3,b4⟩
   exact ⟨rfl,l,o,rfl,b1,b3,b4,.inl (by omega)⟩
  case step=>
   rintro x c st' _ hx ⟨rfl,l,o,rfl,b1,b2,b3,b4⟩
   dsimp only
   by_cases hge:o ≥ hint+1
   ·rw [if_pos hge]
    exact wpS_pure ⟨rfl,l,o,rfl,b1,b3,b4,.inl hge⟩
   ·rw [if_neg hge]
    refine wpS_bind (bey (hint - o) _ (by omega) ?_)
    cases hq:p (hint - o) with
    | false=>exact wpS_pure ⟨rfl,_,_,rfl,by omega,by omega,by omega,hq⟩
    | true=>exact wpS_pure ⟨rfl,_,_,rfl,b1,b3,b4,.inr hq⟩
  case post=>
   rintro c st' ⟨rfl,l,o,rfl,b1,b3,b4,b5⟩
   refine fin (fun x l r hh=>if_pos hh) (fun x l r R hl hr k1 k2=>by
    dsimp only
    rw [if_neg (by omega)]
    refine wpS_bind (bey _ _ (by omega) ?_)
    cases hq:p (l+(r - l) / 2) with
    | true=>exact wpS_pure (k1 hq)
    | false=>exact wpS_pure (k2 hq)) (fun _ _=>rfl) (hint+1 - min o (hint+1)) (hint - l) (by omega) (by omega) (fun i hi=>?_) fun i hi hn=>?_
   ·rcases b5 with b5|b5
    ·omega
    ·exact mono i (hint - o) (by omega) (by omega) b5
   ·cases hq:p i with
    | false=>rfl
    | true=>rw [mono (hint - l) i hi hn hq] at b4;cases b4
end
def SoL (l:List Keyed):Prop:=l.Pairwise fun p q=>kp p≤kp q
def LeL (l m:List Keyed):Prop:=∀ x∈l,∀ y∈m,kp x≤kp y
theorem SoL.app {l m:List Keyed}(h1:SoL l) (h2:SoL m) (h:LeL l m):SoL (l++m):=List.pairwise_append.mpr ⟨h1,h2,h⟩
theorem SoL.le {l m:List Keyed}(h:SoL (l++m)):LeL l m:=(List.pairwise_append.mp h).2.2
theorem SoL.l {l m:List Keyed}(h:SoL (l++m)):SoL l:=(List.pairwise_append.mp h).1
theorem SoL.r {l m:List Keyed}(h:SoL (l++m)):SoL m:=(List.pairwise_append.mp h).2.1
theorem LeL.perm {l l' m m':List Keyed}(h:LeL l m) (hl:l'.Perm l) (hm:m'.Perm m):LeL l' m':=fun x hx y hy=>h x (hl.mem_iff.mp hx) y (hm.mem_iff.mp hy)
theorem LeL.app {l m n:List Keyed}(h1:LeL l n) (h2:LeL m n):LeL (l++m) n:=fun x hx y hy=>(List.mem_append.mp hx).elim (fun h=>h1 x h y hy) fun h=>h2 x h y hy
theorem LeL.app2 {l m n:List Keyed}(h1:LeL l m) (h2:LeL l n):LeL l (m++n):=fun x hx y hy=>(List.mem_append.mp hy).elim (fun h=>h1 x hx y h) fun h=>h2 x hx y h
theorem LeL.mono {l m l' m':List Keyed}(h:LeL l m) (h1:∀ x∈l',x∈l) (h2:∀ x∈m',x∈m):LeL l' m':=fun x hx y hy=>h x (h1 x hx) y (h2 y hy)
structure Mg (A B:List Keyed) (out:List Keyed) (ia ib:Nat):Prop where
 perm:out.Perm (A.take ia++B.take ib)
 so:SoL out
 le:LeL out (A.drop ia++B.drop ib)
theorem Mg.swap {A B out:List Keyed}{ia ib:Nat}(h:Mg A B out ia ib):Mg B A out ib ia:=
 ⟨h.perm.trans List.perm_append_comm,h.so,h.le.perm (.refl _) List.perm_append_comm⟩
theorem Mg.seg {A B out:List Keyed}{ia ib:Nat}(h:Mg A B out ia ib) (hA:SoL A) (k:Nat) (hk:LeL ((A.drop ia).take k) (B.drop ib)):Mg A B (out++(A.drop ia).take k) (ia+k) ib:=by
 have e:A.drop ia=(A.drop ia).take k++A.drop (ia+k):=by rw [←List.drop_drop,List.take_append_drop]
 have hs:SoL ((A.drop ia).take k++A.drop (ia+k)):=by rw [←e];exact (List.pairwise_append.mp (by rw [List.take_append_drop];exact hA:(A.take ia++A.drop ia).Pairwise _)).2.1
 refine ⟨?_,h.so.app hs.l (h.le.mono (fun _ h=>h) fun x hx=>List.mem_append_left _ (List.mem_of_mem_take hx)),?_⟩
 ·rw [List.take_add]
  refine (h.perm.append_right _).trans ?_
  rw [List.append_assoc,List.append_assoc]
  exact List.Perm.append_left _ List.perm_append_comm
 ·refine LeL.app (h.le.mono (fun _ h=>h) fun x hx=>?_) (hs.le.app2 hk)
  rcases List.mem_append.mp hx with hx|hx
  ·refine List.mem_append_left _ ?_
   rw [←List.drop_drop] at hx
   exact List.mem_of_mem_drop hx
  ·exact List.mem_append_right _ hx
theorem Mg.segB {A B out:List Keyed}{ia ib:Nat}(h:Mg A B out ia ib) (hB:SoL B) (k:Nat) (hk:LeL ((B.drop ib).take k) (A.drop ia)):Mg A B (out++(B.drop ib).take k) ia (ib+k):=
 (h.swap.seg hB k hk).swap
theorem take1 {A:List Keyed}{i:Nat}(h:i < A.length):(A.drop i).take 1=[A[i]]:=by
 rw [List.drop_eq_getElem_cons h];rfl
theorem drop_le {A:List Keyed}(hA:SoL A){i:Nat}(h:i < A.length):∀ y∈A.drop i,kp A[i]≤kp y:=by
 have hs:SoL (A.drop i):=(List.pairwise_append.mp (by rw [List.take_append_drop];exact hA:(A.take i++A.drop i).Pairwise _)).2.1
 rw [List.drop_eq_getElem_cons h] at hs ⊢
 intro y hy
 rcases List.mem_cons.mp hy with rfl|hy
 ·exact Int.le_refl _
 ·exact (List.pairwise_cons.mp hs).1 y hy
theorem Mg.one {A B out:List Keyed}{ia ib:Nat}(h:Mg A B out ia ib) (hA:SoL A) (hB:SoL B) (hi:ia < A.length) (hj:ib < B.length) (hle:kp A[ia]≤kp B[ib]):Mg A B (out++[A[ia]]) (ia+1) ib:=by
 have:=h.seg hA 1 (by rw [take1 hi];exact fun x hx y hy=>by rw [List.mem_singleton.mp hx];exact Int.le_trans hle (drop_le hB hj y hy))
 rwa [take1 hi] at this
theorem Mg.oneB {A B out:List Keyed}{ia ib:Nat}(h:Mg A B out ia ib) (hA:SoL A) (hB:SoL B) (hi:ia < A.length) (hj:ib < B.length) (hle:kp B[ib]≤kp A[ia]):Mg A B (out++[B[ib]]) ia (ib+1):=
 (h.swap.one hB hA hj hi hle).swap
theorem Mg.done {A B out:List Keyed}{ia ib:Nat}(h:Mg A B out ia ib) (hA:SoL A) (hB:SoL B) (hl:LeL (A.drop ia) (B.drop ib)):(out++A.drop ia++B.drop ib).Perm (A++B)∧SoL (out++A.drop ia++B.drop ib):=by
 have hs:SoL (A.drop ia):=(List.pairwise_append.mp (by rw [List.take_append_drop];exact hA:(A.take ia++A.drop ia).Pairwise _)).2.1
 have hs2:SoL (B.drop ib):=(List.pairwise_append.mp (by rw [List.take_append_drop];exact hB:(B.take ib++B.drop ib).Pairwise _)).2.1
 refine ⟨?_,?_⟩
 ·have e:(A++B)=(A.take ia++A.drop ia)++(B.take ib++B.drop ib):=by rw [List.take_append_drop,List.take_append_drop]
  rw [e,List.append_assoc]
  refine (h.perm.append_right _).trans ?_
  rw [List.append_assoc,List.append_assoc]
  refine List.Perm.append_left _ ?_
  rw [←List.append_assoc,←List.append_assoc]
  exact (List.perm_append_comm).append_right _
 ·rw [List.append_assoc]
  exact h.so.app (hs.app hs2 hl) h.le
theorem Mg.doneB {A B out:List Keyed}{ia ib:Nat}(h:Mg A B out ia ib) (hA:SoL A) (hB:SoL B) (hl:LeL (B.drop ib) (A.drop ia)):(out++B.drop ib++A.drop ia).Perm (A++B)∧SoL (out++B.drop ib++A.drop ia):=
 let ⟨h1,h2⟩:=h.swap.done hB hA hl
 ⟨h1.trans List.perm_append_comm,h2⟩
structure Mh (A B:List Keyed) (out:List Keyed) (na nb:Nat):Prop where
 perm:out.Perm (A.drop na++B.drop nb)
 so:SoL out
 le:LeL (A.take na++B.take nb) out
theorem Mh.swap {A B out:List Keyed}{ia ib:Nat}(h:Mh A B out ia ib):Mh B A out ib ia:=
 ⟨h.perm.trans List.perm_append_comm,h.so,h.le.perm List.perm_append_comm (.refl _)⟩
theorem Mh.seg {A B out:List Keyed}{na nb:Nat}(h:Mh A B out na nb) (hA:SoL A) (k:Nat) (hkn:k≤na) (hk:LeL (B.take nb) ((A.take na).drop k)):Mh A B ((A.take na).drop k++out) k nb:=by
 have e:A.take na=A.take k++(A.take na).drop k:=by
  have:=List.take_append_drop k (A.take na)
  rw [List.take_take,Nat.min_eq_left hkn] at this
  exact this.symm
 have hs:SoL (A.take k++(A.take na).drop k):=by rw [←e];exact (List.pairwise_append.mp (by rw [List.take_append_drop];exact hA:(A.take na++A.drop na).Pairwise _)).1
 refine ⟨?_,hs.r.app h.so (h.le.mono (fun x hx=>List.mem_append_left _ (List.mem_of_mem_drop hx)) fun _ h=>h),?_⟩
 ·have e2:A.drop k=(A.take na).drop k++A.drop na:=by
   have h1:A=A.take k++((A.take na).drop k++A.drop na):=by rw [←List.append_assoc,←e,List.take_append_drop]
   by_cases hl:k≤A.length
   ·have h2:=congrArg (List.drop k) h1
    rw [List.drop_append_of_le_length (by rw [List.length_take];omega)] at h2
    rw [h2]
    have:(A.take k).drop k=[]:=List.drop_eq_nil_of_le (by rw [List.length_take];omega)
    rw [this,List.nil_append]
   ·rw [List.drop_eq_nil_of_le (by omega),List.drop_eq_nil_of_le (by rw [List.length_take];omega),List.drop_eq_nil_of_le (by omega)];rfl
  rw [e2,List.append_assoc]
  exact h.perm.append_left _
 ·refine LeL.app (hs.le.app2 ?_) (hk.app2 ?_)
  ·exact h.le.mono (fun x hx=>List.mem_append_left _ (by rw [e];exact List.mem_append_left _ hx)) fun _ h=>h
  ·exact h.le.mono (fun x hx=>List.mem_append_right _ hx) fun _ h=>h
theorem last1 {A:List Keyed}{n:Nat}(h:n < A.length):(A.take (n+1)).drop n=[A[n]]:=by
 rw [List.take_add_one,List.getElem?_eq_getElem h,List.drop_append_of_le_length (by rw [List.length_take];omega),List.drop_eq_nil_of_le (by rw [List.length_take];omega)];rfl
theorem take_le {A:List Keyed}(hA:SoL A){n:Nat}(h:n < A.length):∀ y∈A.take (n+1),kp y≤kp A[n]:=by
 have hs:SoL (A.take (n+1)):=(List.pairwise_append.mp (by rw [List.take_append_drop];exact hA:(A.take (n+1)++A.drop (n+1)).Pairwise _)).1
 rw [List.take_add_one,List.getElem?_eq_getElem h] at hs ⊢
 intro y hy
 rcases List.mem_append.mp hy with hy|hy
 ·exact hs.le y hy _ (List.mem_singleton.mpr rfl)
 ·rw [show y=A[n] from List.mem_singleton.mp hy];exact Int.le_refl _
theorem Mh.one {A B out:List Keyed}{na nb:Nat}(h:Mh A B out (na+1) (nb+1)) (hA:SoL A) (hB:SoL B) (hi:na < A.length) (hj:nb < B.length) (hle:kp B[nb]≤kp A[na]):Mh A B (A[na]::out) na (nb+1):=by
 have:=h.seg hA na (by omega) (by rw [last1 hi];exact fun x hx y hy=>by rw [List.mem_singleton.mp hy];exact Int.le_trans (take_le hB hj x hx) hle)
 rwa [last1 hi] at this
theorem Mh.oneB {A B out:List Keyed}{na nb:Nat}(h:Mh A B out (na+1) (nb+1)) (hA:SoL A) (hB:SoL B) (hi:na < A.length) (hj:nb < B.length) (hle:kp A[na]≤kp B[nb]):Mh A B (B[nb]::out) (na+1) nb:=
 (h.swap.one hB hA hj hi hle).swap
theorem Mh.done {A B out:List Keyed}{na nb:Nat}(h:Mh A B out na nb) (hA:SoL A) (hB:SoL B) (hl:LeL (A.take na) (B.take nb)):(A.take na++B.take nb++out).Perm (A++B)∧SoL (A.take na++B.take nb++out):=by
 have hs:SoL (A.take na):=(List.pairwise_append.mp (by rw [List.take_append_drop];exact hA:(A.take na++A.drop na).Pairwise _)).1
 have hs2:SoL (B.take nb):=(List.pairwise_append.mp (by rw [List.take_append_drop];exact hB:(B.take nb++B.drop nb).Pairwise _)).1
 refine ⟨?_,(hs.app hs2 hl).app h.so h.le⟩
 have e:(A++B)=(A.take na++A.drop na)++(B.take nb++B.drop nb):=by rw [List.take_append_drop,List.take_append_drop]
 rw [e]
 refine (h.perm.append_left _).trans ?_
 rw [List.append_assoc,List.append_assoc]
 refine List.Perm.append_left _ ?_
 rw [←List.append_assoc,←List.append_assoc]
 exact (List.perm_append_comm).append_right _
theorem Mh.doneB {A B out:List Keyed}{na nb:Nat}(h:Mh A B out na nb) (hA:SoL A) (hB:SoL B) (hl:LeL (B.take nb) (A.take na)):(B.take nb++A.take na++out).Perm (A++B)∧SoL (B.take nb++A.take na++out):=
 let ⟨h1,h2⟩:=h.swap.done hB hA hl
 ⟨h1.trans List.perm_append_comm,h2⟩
theorem mergeLo'_eq (a b:Array Keyed):mergeLo' a b=(do
 rule "list.sort.merge-lo"
 let total:=a.size+b.size
 let done (out:Array Keyed) (ia ib:Nat):=out++a.extract ia a.size++b.extract ib b.size
 let lastOfA (out:Array Keyed) (ia ib:Nat):=out++b.extract ib b.size++a.extract ia a.size
 let mut out:Array Keyed:=#[←elem' b 0]
 let mut ia:=0
 let mut ib:=1
 if ib == b.size then return done out ia ib
 if ia+1 == a.size then return lastOfA out ia ib
 let mut minGallop:=gallopOf (←get)
 for _ in [0:total] do
  let mut acount:=0
  let mut bcount:=0
  for _ in [0:total] do
   let some bWins ←lt' (←elem' b ib) (←elem' a ia)|return done out ia ib
   if bWins then
    out:=out.push (←elem' b ib);ib:=ib+1;bcount:=bcount+1;acount:=0
    if ib == b.size then return done out ia ib
    if bcount ≥ minGallop then break
   else
    out:=out.push (←elem' a ia);ia:=ia+1;acount:=acount+1;bcount:=0
    if ia+1 == a.size then return lastOfA out ia ib
    if acount ≥ minGallop then break
  rule "list.sort.gallop"
  minGallop:=minGallop+1
  for _ in [0:total] do
   if minGallop > 1 then minGallop:=minGallop - 1
   setMinGallop' minGallop
   let some k ←gallop' false (←elem' b ib) a ia (a.size - ia) 0|return done out ia ib
   acount:=k
   if k > 0 then
    out:=out++a.extract ia (ia+k);ia:=ia+k
    if ia+1 == a.size then return lastOfA out ia ib
    if ia == a.size then return done out ia ib
   out:=out.push (←elem' b ib);ib:=ib+1
   if ib == b.size then return done out ia ib
   let some k ←gallop' true (←elem' a ia) b ib (b.size - ib) 0|return done out ia ib
   bcount:=k
   if k > 0 then
    out:=out++b.extract ib (ib+k);ib:=ib+k
    if ib == b.size then return done out ia ib
   out:=out.push (←elem' a ia);ia:=ia+1
   if ia+1 == a.size then return lastOfA out ia ib
   if acount < 7 && bcount < 7 then break
  minGallop:=minGallop+1
  setMinGallop' minGallop
 unsupported "internal:list.sort.merge-bound"):=rfl
theorem ex1 (a:Array Keyed) (i k:Nat):(a.extract i (i+k)).toList=(a.toList.drop i).take k:=by
 rw [Array.toList_extract,List.extract_eq_drop_take',List.take_drop]
theorem ex2 (a:Array Keyed) (i:Nat):(a.extract i).toList=a.toList.drop i:=by
 rw [Array.toList_extract,List.extract_eq_drop_take',List.take_of_length_le (by simp)]
theorem mem_seg {l:List Keyed}{i k:Nat}{x:Keyed}(h:x∈(l.drop i).take k):∃ j,j < k∧l[i+j]? = some x:=by
 obtain ⟨j,hj,e⟩:=List.getElem_of_mem h
 rw [List.length_take] at hj
 refine ⟨j,by omega,?_⟩
 rw [List.getElem_take,List.getElem_drop] at e
 rw [←e,List.getElem?_eq_getElem]
theorem K_of {a:Array Keyed}{i:Nat}{x:Keyed}(h:a.toList[i]? = some x):K a i=kp x:=by
 unfold K kp
 rw [Array.getElem?_toList] at h
 rw [h]
theorem K_at {a:Array Keyed}{i:Nat}(h:i < a.size):K a i=kp a[i]:=K_of (by rw [Array.getElem?_toList,getElem?_pos a i h])
theorem SoL.K {a:Array Keyed}(h:SoL a.toList){i j:Nat}(hij:i≤j) (hj:j < a.size):K a i≤K a j:=by
 rw [K_at (by omega),K_at hj]
 rcases Nat.lt_or_ge i j with l|l
 ·have:=List.pairwise_iff_getElem.mp h i j (by simp;omega) (by simp;omega) l
  simpa using this
 ·have:i=j:=by omega
  subst this;exact Int.le_refl _
section
variable {prog:Program}{w:World}{A:Around}{E:Value->Shared->Prop}{s:Shared}{a₀:Array Keyed}
theorem wpS_galF {st:SortSt}{key:Keyed}{arr:Array Keyed}{base n hint:Nat}{Q:Option Nat->SortSt->Prop}(hk:kindOf st=oneType') (ik:IntP key) (ia:∀ p∈arr.toList,IntP p)
  (hn:base+n≤arr.size) (hh:hint < n) (so:∀ i j,i≤j->j < n->K arr (base+i)≤K arr (base+j))
  (h:∀ k,k≤n->(∀ i,i < k->K arr (base+i)≤kp key)->(∀ i,k≤i->i < n->kp key < K arr (base+i))->Q (some k) st) :
  wpS (model prog w) A E s (gallop' false key arr base n hint) Q st:=by
 refine wpS_gallop (p:=fun i=>!decide (kp key < K arr (base+i))) hk ⟨ik,hn,fun i hi=>⟨arr[base+i],getElem?_pos _ _ (by omega),ia _ (by simp),?_⟩⟩ hh (fun i j hij hj hp=>?_) fun k h1 h2 h3=>h k h1 (fun i hi=>?_) fun i hi hn=>?_
 ·show (!decide (kp key < K arr (base+i)))=(!decide _)
  rw [K_at (a:=arr) (i:=base+i) (by omega)]
 ·have:=so i j hij hj
  simp only [Bool.not_eq_true',decide_eq_false_iff_not] at hp ⊢
  omega
 ·have:=h2 i hi
  simp only [Bool.not_eq_true',decide_eq_false_iff_not] at this
  omega
 ·have:=h3 i hi hn
  simpa using this
theorem wpS_galT {st:SortSt}{key:Keyed}{arr:Array Keyed}{base n hint:Nat}{Q:Option Nat->SortSt->Prop}(hk:kindOf st=oneType') (ik:IntP key) (ia:∀ p∈arr.toList,IntP p)
  (hn:base+n≤arr.size) (hh:hint < n) (so:∀ i j,i≤j->j < n->K arr (base+i)≤K arr (base+j))
  (h:∀ k,k≤n->(∀ i,i < k->K arr (base+i) < kp key)->(∀ i,k≤i->i < n->kp key≤K arr (base+i))->Q (some k) st) :
  wpS (model prog w) A E s (gallop' true key arr base n hint) Q st:=by
 refine wpS_gallop (p:=fun i=>decide (K arr (base+i) < kp key)) hk ⟨ik,hn,fun i hi=>⟨arr[base+i],getElem?_pos _ _ (by omega),ia _ (by simp),?_⟩⟩ hh (fun i j hij hj hp=>?_) fun k h1 h2 h3=>h k h1 (fun i hi=>?_) fun i hi hn=>?_
 ·show decide (K arr (base+i) < kp key)=decide _
  rw [K_at (a:=arr) (i:=base+i) (by omega)]
 ·have:=so i j hij hj
  simp only [decide_eq_true_eq] at hp ⊢
  omega
 ·have:=h2 i hi
  simpa using this
 ·have:=h3 i hi hn
  simpa using this
theorem wpS_setMin {st:SortSt}{g:Nat}{Q:Unit->SortSt->Prop}(h:Q () (setMin st g)):wpS (model prog w) A E s (setMinGallop' g) Q st:=by
 rw [setMinGallop'_eq];exact wpS_modify h
def PIs (a b:Array Keyed) (out:Array Keyed) (ia ib n:Nat):Prop:=Mg a.toList b.toList out.toList ia ib∧ia+1 < a.size∧ib < b.size∧n≤ia+ib
def Good (a b r:Array Keyed):Prop:=r.toList.Perm (a.toList++b.toList)∧SoL r.toList
theorem good_done {a b out:Array Keyed}{ia ib:Nat}(m:Mg a.toList b.toList out.toList ia ib) (hA:SoL a.toList) (hB:SoL b.toList) (h:ia=a.size∨ib=b.size):Good a b (out++a.extract ia++b.extract ib):=by
 unfold Good
 rw [Array.toList_append,Array.toList_append,ex2,ex2]
 refine m.done hA hB fun x hx y hy=>?_
 rcases h with h|h
 ·rw [h,List.drop_eq_nil_of_le (by simp)] at hx;cases hx
 ·rw [h,List.drop_eq_nil_of_le (by simp)] at hy;cases hy
theorem good_last {a b out:Array Keyed}{ia ib:Nat}(m:Mg a.toList b.toList out.toList ia ib) (hA:SoL a.toList) (hB:SoL b.toList) (h:ia+1=a.size) (h2:∀ x∈b.toList,kp x≤kp a[ia]):Good a b (out++b.extract ib++a.extract ia):=by
 unfold Good
 rw [Array.toList_append,Array.toList_append,ex2,ex2]
 refine m.doneB hA hB fun x hx y hy=>Int.le_trans (h2 x (List.mem_of_mem_drop hx)) ?_
 have:=drop_le hA (i:=ia) (by simp;omega) y hy
 simpa using this
theorem mg_pushA {a b out:Array Keyed}{ia ib:Nat}(m:Mg a.toList b.toList out.toList ia ib) (hA:SoL a.toList) (hB:SoL b.toList) (hi:ia < a.size) (hj:ib < b.size) (hle:kp a[ia]≤kp b[ib]):Mg a.toList b.toList (out.push a[ia]).toList (ia+1) ib:=by
 rw [Array.toList_push]
 have:=m.one hA hB (by simpa using hi) (by simpa using hj) (by simpa using hle)
 simpa using this
theorem mg_pushB {a b out:Array Keyed}{ia ib:Nat}(m:Mg a.toList b.toList out.toList ia ib) (hA:SoL a.toList) (hB:SoL b.toList) (hi:ia < a.size) (hj:ib < b.size) (hle:kp b[ib]≤kp a[ia]):Mg a.toList b.toList (out.push b[ib]).toList ia (ib+1):=by
 rw [Array.toList_push]
 have:=m.oneB hA hB (by simpa using hi) (by simpa using hj) (by simpa using hle)
 simpa using this
theorem mg_segA {a b out:Array Keyed}{ia ib k:Nat}(m:Mg a.toList b.toList out.toList ia ib) (hA:SoL a.toList) (hB:SoL b.toList) (hj:ib < b.size) (hle:∀ i,i < k->K a (ia+i)≤kp b[ib]):Mg a.toList b.toList (out++a.extract ia (ia+k)).toList (ia+k) ib:=by
 rw [Array.toList_append,ex1]
 refine m.seg hA k fun x hx y hy=>?_
 obtain ⟨j,h1,h2⟩:=mem_seg hx
 have h3:=hle j h1
 rw [K_of h2] at h3
 have h4:=drop_le hB (i:=ib) (by simpa using hj) y hy
 simp only [Array.getElem_toList] at h4
 omega
theorem mg_segB {a b out:Array Keyed}{ia ib k:Nat}(m:Mg a.toList b.toList out.toList ia ib) (hA:SoL a.toList) (hB:SoL b.toList) (hi:ia < a.size) (hle:∀ i,i < k->K b (ib+i) < kp a[ia]):Mg a.toList b.toList (out++b.extract ib (ib+k)).toList ia (ib+k):=by
 rw [Array.toList_append,ex1]
 refine m.segB hB k fun x hx y hy=>?_
 obtain ⟨j,h1,h2⟩:=mem_seg hx
 have h3:=hle j h1
 rw [K_of h2] at h3
 have h4:=drop_le hA (i:=ia) (by simpa using hi) y hy
 simp only [Array.getElem_toList] at h4
 omega
theorem wpS_mergeLo {st:SortSt}{a b:Array Keyed}{Q:Array Keyed->SortSt->Prop}(hk:kindOf st=oneType') (hA:SoL a.toList) (hB:SoL b.toList) (iA:∀ p∈a.toList,IntP p) (iB:∀ p∈b.toList,IntP p)
  (ha:0 < a.size) (hb:0 < b.size) (h1:kp b[0]≤kp a[0]) (h2:∀ x∈b.toList,∀ i (hi:i < a.size),i+1=a.size->kp x≤kp a[i])
  (h:∀ (out:Array Keyed) g,Good a b out->Q out (setMin st g)):wpS (model prog w) A E s (mergeLo' a b) Q st:=by
 rw [mergeLo'_eq]
 refine wpS_bind (wpS_lift (wpAny_rule ⟨rfl,?_⟩))
 dsimp only
 refine wpS_bind (wpS_elem hb ?_)
 have m0:Mg a.toList b.toList (#[]:Array Keyed).toList 0 0:=⟨.refl _,.nil,fun x hx=>by cases hx⟩
 have m1:Mg a.toList b.toList (#[b[0]]:Array Keyed).toList 0 1:=mg_pushB m0 hA hB ha hb h1
 have hst:st=setMin st (gallopOf st):=rfl
 by_cases c1:1=b.size
 ·rw [if_pos (by simpa using c1)]
  refine wpS_pure ?_
  rw [hst]
  exact h _ _ (good_done m1 hA hB (.inr c1))
 rw [if_neg (by simpa using c1)]
 by_cases c2:0+1=a.size
 ·rw [if_pos (by simpa using c2)]
  refine wpS_pure ?_
  rw [hst]
  exact h _ _ (good_last m1 hA hB c2 fun x hx=>h2 x hx _ _ c2)
 rw [if_neg (by simpa using c2)]
 refine wpS_bind (wpS_get ?_)
 generalize gallopOf st=g0 at *
 refine wpS_bind (wpS_mono (wpS_forRange (I:=fun x c st'=>(∃ g,st'=setMin st g)∧∃ out ia ib mg,c=(none,out,ia,ib,mg)∧PIs a b out ia ib x)
  (Q:=fun c st'=>(∃ g,st'=setMin st g)∧∃ r out ia ib mg,c=(some r,out,ia,ib,mg)∧Good a b r) ?step ?fin ⟨⟨_,rfl⟩,_,_,_,_,rfl,m1,by omega,by omega,by omega⟩) ?post)
 case post=>
  rintro c st' ⟨⟨g,rfl⟩,r,out,ia,ib,mg,rfl,hr⟩
  exact wpS_pure (h r g hr)
 case fin=>
  rintro c st' ⟨_,out,ia,ib,mg,rfl,_,b1,b2,b3⟩
  omega
 case step=>
  rintro n0 c st' _ hn0 ⟨⟨g1,rfl⟩,out,ia,ib,mg,rfl,pi⟩
  dsimp only
  refine wpS_bind (wpS_mono (wpS_forRange (I:=fun x c st'=>st'=setMin st g1∧∃ out ia ib ac bc,c=(none,out,ia,ib,ac,bc)∧PIs a b out ia ib n0)
   (Q:=fun c st'=>st'=setMin st g1∧((∃ r out ia ib ac bc,c=(some r,out,ia,ib,ac,bc)∧Good a b r)∨∃ out ia ib ac bc,c=(none,out,ia,ib,ac,bc)∧PIs a b out ia ib n0)) ?step ?fin ⟨rfl,_,_,_,_,_,rfl,pi⟩) ?post)
  case fin=>
   rintro c st' ⟨rfl,hh⟩
   exact ⟨rfl,.inr hh⟩
  case step=>
   rintro x c st' _ _ ⟨rfl,out,ia,ib,ac,bc,rfl,m,b1,b2,b3⟩
   dsimp only
   refine wpS_bind (wpS_elem b2 ?_)
   refine wpS_bind (wpS_elem (show ia < a.size by omega) ?_)
   refine wpS_bind (wpS_lt hk (iB _ (by simp)) (iA _ (by simp)) ?_)
   by_cases hw:kp b[ib] < kp a[ia]
   ·simp only [hw,decide_true,if_true]
    refine wpS_bind (wpS_elem b2 ?_)
    have m2:=mg_pushB m hA hB (by omega) b2 (Int.le_of_lt hw)
    by_cases d1:ib+1=b.size
    ·rw [if_pos (by simpa using d1)]
     exact wpS_pure ⟨rfl,.inl ⟨_,_,_,_,_,_,rfl,good_done m2 hA hB (.inr d1)⟩⟩
    rw [if_neg (by simpa using d1)]
    split
    ·exact wpS_pure ⟨rfl,.inr ⟨_,_,_,_,_,rfl,m2,b1,by omega,by omega⟩⟩
    ·exact wpS_pure ⟨rfl,_,_,_,_,_,rfl,m2,b1,by omega,by omega⟩
   ·simp only [hw,decide_false,Bool.false_eq_true,if_false]
    refine wpS_bind (wpS_elem (show ia < a.size by omega) ?_)
    have m2:=mg_pushA m hA hB (by omega) b2 (by omega)
    by_cases d1:ia+1+1=a.size
    ·rw [if_pos (by simpa using d1)]
     exact wpS_pure ⟨rfl,.inl ⟨_,_,_,_,_,_,rfl,good_last m2 hA hB d1 fun x hx=>h2 x hx _ _ d1⟩⟩
    rw [if_neg (by simpa using d1)]
    split
    ·exact wpS_pure ⟨rfl,.inr ⟨_,_,_,_,_,rfl,m2,by omega,by omega,by omega⟩⟩
    ·exact wpS_pure ⟨rfl,_,_,_,_,_,rfl,m2,by omega,by omega,by omega⟩
  case post=>
   rintro c st' ⟨rfl,⟨r,out,ia,ib,ac,bc,rfl,hr⟩|⟨out,ia,ib,ac,bc,rfl,pi⟩⟩
   ·exact wpS_pure ⟨⟨_,rfl⟩,_,_,_,_,_,rfl,hr⟩
   dsimp only
   refine wpS_bind (wpS_lift (wpAny_rule ⟨rfl,?_⟩))
   refine wpS_bind (wpS_mono (wpS_forRange (I:=fun x c st'=>(∃ g,st'=setMin st g)∧∃ out ia ib mg ac bc,c=(none,out,ia,ib,mg,ac,bc)∧PIs a b out ia ib (n0+x))
    (Q:=fun c st'=>(∃ g,st'=setMin st g)∧((∃ r out ia ib mg ac bc,c=(some r,out,ia,ib,mg,ac,bc)∧Good a b r)∨∃ out ia ib mg ac bc,c=(none,out,ia,ib,mg,ac,bc)∧PIs a b out ia ib (n0+1))) ?step ?fin ⟨⟨_,rfl⟩,_,_,_,_,_,_,rfl,pi⟩) ?post)
   case fin=>
    rintro c st' ⟨hg,out,ia,ib,mg,ac,bc,rfl,m,b1,b2,b3⟩
    exact ⟨hg,.inr ⟨_,_,_,_,_,_,rfl,m,b1,b2,by omega⟩⟩
   case post=>
    rintro c st' ⟨⟨g,rfl⟩,⟨r,out,ia,ib,mg,ac,bc,rfl,hr⟩|⟨out,ia,ib,mg,ac,bc,rfl,pi⟩⟩
    ·exact wpS_pure ⟨⟨_,rfl⟩,_,_,_,_,_,rfl,hr⟩
    dsimp only
    rw [setMinGallop'_eq]
    exact wpS_bind (wpS_modify (wpS_pure ⟨⟨_,rfl⟩,_,_,_,_,rfl,pi⟩))
   case step=>
    clear pi hst m0 m1
    rintro x c st' _ _ ⟨⟨g2,rfl⟩,out,ia,ib,mg,ac,bc,rfl,m,b1,b2,b3⟩
    dsimp only
    by_cases hmg:mg > 1
    ·rw [if_pos hmg]
     refine wpS_bind (wpS_setMin ?_)
     refine wpS_bind (wpS_elem b2 ?_)
     refine wpS_bind (wpS_galF hk (iB _ (by simp)) iA (by omega) (by omega) (fun i j hij hj=>hA.K (by omega) (by omega)) fun k k1 k2 k3=>?_)
     dsimp only
     by_cases hk0:k > 0
     ·rw [if_pos hk0]
      have m2:=mg_segA m hA hB b2 k2
      by_cases d4:ia+k+1=a.size
      ·rw [if_pos (by simpa using d4)]
       exact wpS_pure ⟨⟨_,rfl⟩,.inl ⟨_,_,_,_,_,_,_,rfl,good_last m2 hA hB d4 fun x hx=>h2 x hx _ _ d4⟩⟩
      rw [if_neg (by simpa using d4)]
      by_cases d5:ia+k=a.size
      ·rw [if_pos (by simpa using d5)]
       exact wpS_pure ⟨⟨_,rfl⟩,.inl ⟨_,_,_,_,_,_,_,rfl,good_done m2 hA hB (.inl d5)⟩⟩
      rw [if_neg (by simpa using d5)]
      refine wpS_bind (wpS_elem b2 ?_)
      have hlt:=k3 _ (Nat.le_refl _) (by omega)
      rw [K_at (by omega)] at hlt
      have m3:=mg_pushB m2 hA hB (show ia+k < a.size by omega) b2 (Int.le_of_lt hlt)
      by_cases d1:ib+1=b.size
      ·rw [if_pos (by simpa using d1)]
       exact wpS_pure ⟨⟨_,rfl⟩,.inl ⟨_,_,_,_,_,_,_,rfl,good_done m3 hA hB (.inr d1)⟩⟩
      rw [if_neg (by simpa using d1)]
      refine wpS_bind (wpS_elem (show ia+k < a.size by omega) ?_)
      refine wpS_bind (wpS_galT hk (iA _ (by simp)) iB (by omega) (by omega) (fun i j hij hj=>hB.K (by omega) (by omega)) fun q q1 q2 q3=>?_)
      dsimp only
      by_cases hq:q > 0
      ·rw [if_pos hq]
       have m4:=mg_segB m3 hA hB (show ia+k < a.size by omega) q2
       by_cases d2:ib+1+q=b.size
       ·rw [if_pos (by simpa using d2)]
        exact wpS_pure ⟨⟨_,rfl⟩,.inl ⟨_,_,_,_,_,_,_,rfl,good_done m4 hA hB (.inr d2)⟩⟩
       rw [if_neg (by simpa using d2)]
       refine wpS_bind (wpS_elem (show ia+k < a.size by omega) ?_)
       have r3:=q3 _ (Nat.le_refl _) (by omega)
       rw [K_at (by omega)] at r3
       have m5:=mg_pushA m4 hA hB (show ia+k < a.size by omega) (show ib+1+q < b.size by omega) r3
       by_cases d3:ia+k+1+1=a.size
       ·rw [if_pos (by simpa using d3)]
        exact wpS_pure ⟨⟨_,rfl⟩,.inl ⟨_,_,_,_,_,_,_,rfl,good_last m5 hA hB d3 fun x hx=>h2 x hx _ _ d3⟩⟩
       rw [if_neg (by simpa using d3)]
       split
       ·exact wpS_pure ⟨⟨_,rfl⟩,.inr ⟨_,_,_,_,_,_,rfl,m5,by omega,by omega,by omega⟩⟩
       ·exact wpS_pure ⟨⟨_,rfl⟩,_,_,_,_,_,_,rfl,m5,by omega,by omega,by omega⟩
      ·rw [if_neg hq]
       have hq0:q=0:=by omega
       subst hq0
       have m4:=m3
       refine wpS_bind (wpS_elem (show ia+k < a.size by omega) ?_)
       have r3:=q3 _ (Nat.le_refl _) (by omega)
       rw [K_at (by omega)] at r3
       have m5:=mg_pushA m4 hA hB (show ia+k < a.size by omega) (show ib+1 < b.size by omega) r3
       by_cases d3:ia+k+1+1=a.size
       ·rw [if_pos (by simpa using d3)]
        exact wpS_pure ⟨⟨_,rfl⟩,.inl ⟨_,_,_,_,_,_,_,rfl,good_last m5 hA hB d3 fun x hx=>h2 x hx _ _ d3⟩⟩
       rw [if_neg (by simpa using d3)]
       split
       ·exact wpS_pure ⟨⟨_,rfl⟩,.inr ⟨_,_,_,_,_,_,rfl,m5,by omega,by omega,by omega⟩⟩
       ·exact wpS_pure ⟨⟨_,rfl⟩,_,_,_,_,_,_,rfl,m5,by omega,by omega,by omega⟩
     ·rw [if_neg hk0]
      have hk0':k=0:=by omega
      subst hk0'
      have m2:=m
      refine wpS_bind (wpS_elem b2 ?_)
      have hlt:=k3 _ (Nat.le_refl _) (by omega)
      rw [K_at (by omega)] at hlt
      have m3:=mg_pushB m2 hA hB (show ia < a.size by omega) b2 (Int.le_of_lt hlt)
      by_cases d1:ib+1=b.size
      ·rw [if_pos (by simpa using d1)]
       exact wpS_pure ⟨⟨_,rfl⟩,.inl ⟨_,_,_,_,_,_,_,rfl,good_done m3 hA hB (.inr d1)⟩⟩
      rw [if_neg (by simpa using d1)]
      refine wpS_bind (wpS_elem (show ia < a.size by omega) ?_)
      refine wpS_bind (wpS_galT hk (iA _ (by simp)) iB (by omega) (by omega) (fun i j hij hj=>hB.K (by omega) (by omega)) fun q q1 q2 q3=>?_)
      dsimp only
      by_cases hq:q > 0
      ·rw [if_pos hq]
       have m4:=mg_segB m3 hA hB (show ia < a.size by omega) q2
       by_cases d2:ib+1+q=b.size
       ·rw [if_pos (by simpa using d2)]
        exact wpS_pure ⟨⟨_,rfl⟩,.inl ⟨_,_,_,_,_,_,_,rfl,good_done m4 hA hB (.inr d2)⟩⟩
       rw [if_neg (by simpa using d2)]
       refine wpS_bind (wpS_elem (show ia < a.size by omega) ?_)
       have r3:=q3 _ (Nat.le_refl _) (by omega)
       rw [K_at (by omega)] at r3
       have m5:=mg_pushA m4 hA hB (show ia < a.size by omega) (show ib+1+q < b.size by omega) r3
       by_cases d3:ia+1+1=a.size
       ·rw [if_pos (by simpa using d3)]
        exact wpS_pure ⟨⟨_,rfl⟩,.inl ⟨_,_,_,_,_,_,_,rfl,good_last m5 hA hB d3 fun x hx=>h2 x hx _ _ d3⟩⟩
       rw [if_neg (by simpa using d3)]
       split
       ·exact wpS_pure ⟨⟨_,rfl⟩,.inr ⟨_,_,_,_,_,_,rfl,m5,by omega,by omega,by omega⟩⟩
       ·exact wpS_pure ⟨⟨_,rfl⟩,_,_,_,_,_,_,rfl,m5,by omega,by omega,by omega⟩
      ·rw [if_neg hq]
       have hq0:q=0:=by omega
       subst hq0
       have m4:=m3
       refine wpS_bind (wpS_elem (show ia < a.size by omega) ?_)
       have r3:=q3 _ (Nat.le_refl _) (by omega)
       rw [K_at (by omega)] at r3
       have m5:=mg_pushA m4 hA hB (show ia < a.size by omega) (show ib+1 < b.size by omega) r3
       by_cases d3:ia+1+1=a.size
       ·rw [if_pos (by simpa using d3)]
        exact wpS_pure ⟨⟨_,rfl⟩,.inl ⟨_,_,_,_,_,_,_,rfl,good_last m5 hA hB d3 fun x hx=>h2 x hx _ _ d3⟩⟩
       rw [if_neg (by simpa using d3)]
       split
       ·exact wpS_pure ⟨⟨_,rfl⟩,.inr ⟨_,_,_,_,_,_,rfl,m5,by omega,by omega,by omega⟩⟩
       ·exact wpS_pure ⟨⟨_,rfl⟩,_,_,_,_,_,_,rfl,m5,by omega,by omega,by omega⟩
    ·rw [if_neg hmg]
     refine wpS_bind (wpS_setMin ?_)
     refine wpS_bind (wpS_elem b2 ?_)
     refine wpS_bind (wpS_galF hk (iB _ (by simp)) iA (by omega) (by omega) (fun i j hij hj=>hA.K (by omega) (by omega)) fun k k1 k2 k3=>?_)
     dsimp only
     by_cases hk0:k > 0
     ·rw [if_pos hk0]
      have m2:=mg_segA m hA hB b2 k2
      by_cases d4:ia+k+1=a.size
      ·rw [if_pos (by simpa using d4)]
       exact wpS_pure ⟨⟨_,rfl⟩,.inl ⟨_,_,_,_,_,_,_,rfl,good_last m2 hA hB d4 fun x hx=>h2 x hx _ _ d4⟩⟩
      rw [if_neg (by simpa using d4)]
      by_cases d5:ia+k=a.size
      ·rw [if_pos (by simpa using d5)]
       exact wpS_pure ⟨⟨_,rfl⟩,.inl ⟨_,_,_,_,_,_,_,rfl,good_done m2 hA hB (.inl d5)⟩⟩
      rw [if_neg (by simpa using d5)]
      refine wpS_bind (wpS_elem b2 ?_)
      have hlt:=k3 _ (Nat.le_refl _) (by omega)
      rw [K_at (by omega)] at hlt
      have m3:=mg_pushB m2 hA hB (show ia+k < a.size by omega) b2 (Int.le_of_lt hlt)
      by_cases d1:ib+1=b.size
      ·rw [if_pos (by simpa using d1)]
       exact wpS_pure ⟨⟨_,rfl⟩,.inl ⟨_,_,_,_,_,_,_,rfl,good_done m3 hA hB (.inr d1)⟩⟩
      rw [if_neg (by simpa using d1)]
      refine wpS_bind (wpS_elem (show ia+k < a.size by omega) ?_)
      refine wpS_bind (wpS_galT hk (iA _ (by simp)) iB (by omega) (by omega) (fun i j hij hj=>hB.K (by omega) (by omega)) fun q q1 q2 q3=>?_)
      dsimp only
      by_cases hq:q > 0
      ·rw [if_pos hq]
       have m4:=mg_segB m3 hA hB (show ia+k < a.size by omega) q2
       by_cases d2:ib+1+q=b.size
       ·rw [if_pos (by simpa using d2)]
        exact wpS_pure ⟨⟨_,rfl⟩,.inl ⟨_,_,_,_,_,_,_,rfl,good_done m4 hA hB (.inr d2)⟩⟩
       rw [if_neg (by simpa using d2)]
       refine wpS_bind (wpS_elem (show ia+k < a.size by omega) ?_)
       have r3:=q3 _ (Nat.le_refl _) (by omega)
       rw [K_at (by omega)] at r3
       have m5:=mg_pushA m4 hA hB (show ia+k < a.size by omega) (show ib+1+q < b.size by omega) r3
       by_cases d3:ia+k+1+1=a.size
       ·rw [if_pos (by simpa using d3)]
        exact wpS_pure ⟨⟨_,rfl⟩,.inl ⟨_,_,_,_,_,_,_,rfl,good_last m5 hA hB d3 fun x hx=>h2 x hx _ _ d3⟩⟩
       rw [if_neg (by simpa using d3)]
       split
       ·exact wpS_pure ⟨⟨_,rfl⟩,.inr ⟨_,_,_,_,_,_,rfl,m5,by omega,by omega,by omega⟩⟩
       ·exact wpS_pure ⟨⟨_,rfl⟩,_,_,_,_,_,_,rfl,m5,by omega,by omega,by omega⟩
      ·rw [if_neg hq]
       have hq0:q=0:=by omega
       subst hq0
       have m4:=m3
       refine wpS_bind (wpS_elem (show ia+k < a.size by omega) ?_)
       have r3:=q3 _ (Nat.le_refl _) (by omega)
       rw [K_at (by omega)] at r3
       have m5:=mg_pushA m4 hA hB (show ia+k < a.size by omega) (show ib+1 < b.size by omega) r3
       by_cases d3:ia+k+1+1=a.size
       ·rw [if_pos (by simpa using d3)]
        exact wpS_pure ⟨⟨_,rfl⟩,.inl ⟨_,_,_,_,_,_,_,rfl,good_last m5 hA hB d3 fun x hx=>h2 x hx _ _ d3⟩⟩
       rw [if_neg (by simpa using d3)]
       split
       ·exact wpS_pure ⟨⟨_,rfl⟩,.inr ⟨_,_,_,_,_,_,rfl,m5,by omega,by omega,by omega⟩⟩
       ·exact wpS_pure ⟨⟨_,rfl⟩,_,_,_,_,_,_,rfl,m5,by omega,by omega,by omega⟩
     ·rw [if_neg hk0]
      have hk0':k=0:=by omega
      subst hk0'
      have m2:=m
      refine wpS_bind (wpS_elem b2 ?_)
      have hlt:=k3 _ (Nat.le_refl _) (by omega)
      rw [K_at (by omega)] at hlt
      have m3:=mg_pushB m2 hA hB (show ia < a.size by omega) b2 (Int.le_of_lt hlt)
      by_cases d1:ib+1=b.size
      ·rw [if_pos (by simpa using d1)]
       exact wpS_pure ⟨⟨_,rfl⟩,.inl ⟨_,_,_,_,_,_,_,rfl,good_done m3 hA hB (.inr d1)⟩⟩
      rw [if_neg (by simpa using d1)]
      refine wpS_bind (wpS_elem (show ia < a.size by omega) ?_)
      refine wpS_bind (wpS_galT hk (iA _ (by simp)) iB (by omega) (by omega) (fun i j hij hj=>hB.K (by omega) (by omega)) fun q q1 q2 q3=>?_)
      dsimp only
      by_cases hq:q > 0
      ·rw [if_pos hq]
       have m4:=mg_segB m3 hA hB (show ia < a.size by omega) q2
       by_cases d2:ib+1+q=b.size
       ·rw [if_pos (by simpa using d2)]
        exact wpS_pure ⟨⟨_,rfl⟩,.inl ⟨_,_,_,_,_,_,_,rfl,good_done m4 hA hB (.inr d2)⟩⟩
       rw [if_neg (by simpa using d2)]
       refine wpS_bind (wpS_elem (show ia < a.size by omega) ?_)
       have r3:=q3 _ (Nat.le_refl _) (by omega)
       rw [K_at (by omega)] at r3
       have m5:=mg_pushA m4 hA hB (show ia < a.size by omega) (show ib+1+q < b.size by omega) r3
       by_cases d3:ia+1+1=a.size
       ·rw [if_pos (by simpa using d3)]
        exact wpS_pure ⟨⟨_,rfl⟩,.inl ⟨_,_,_,_,_,_,_,rfl,good_last m5 hA hB d3 fun x hx=>h2 x hx _ _ d3⟩⟩
       rw [if_neg (by simpa using d3)]
       split
       ·exact wpS_pure ⟨⟨_,rfl⟩,.inr ⟨_,_,_,_,_,_,rfl,m5,by omega,by omega,by omega⟩⟩
       ·exact wpS_pure ⟨⟨_,rfl⟩,_,_,_,_,_,_,rfl,m5,by omega,by omega,by omega⟩
      ·rw [if_neg hq]
       have hq0:q=0:=by omega
       subst hq0
       have m4:=m3
       refine wpS_bind (wpS_elem (show ia < a.size by omega) ?_)
       have r3:=q3 _ (Nat.le_refl _) (by omega)
       rw [K_at (by omega)] at r3
       have m5:=mg_pushA m4 hA hB (show ia < a.size by omega) (show ib+1 < b.size by omega) r3
       by_cases d3:ia+1+1=a.size
       ·rw [if_pos (by simpa using d3)]
        exact wpS_pure ⟨⟨_,rfl⟩,.inl ⟨_,_,_,_,_,_,_,rfl,good_last m5 hA hB d3 fun x hx=>h2 x hx _ _ d3⟩⟩
       rw [if_neg (by simpa using d3)]
       split
       ·exact wpS_pure ⟨⟨_,rfl⟩,.inr ⟨_,_,_,_,_,_,rfl,m5,by omega,by omega,by omega⟩⟩
       ·exact wpS_pure ⟨⟨_,rfl⟩,_,_,_,_,_,_,rfl,m5,by omega,by omega,by omega⟩
end
theorem mergeHi'_eq (a b:Array Keyed):mergeHi' a b=(do
 rule "list.sort.merge-hi"
 let total:=a.size+b.size
 let done (out:Array Keyed) (na nb:Nat):=a.extract 0 na++b.extract 0 nb++out.reverse
 let firstOfB (out:Array Keyed) (na nb:Nat):=b.extract 0 nb++a.extract 0 na++out.reverse
 let mut na:=a.size - 1
 let mut nb:=b.size
 let mut out:Array Keyed:=#[←elem' a na]
 if na == 0 then return done out na nb
 if nb == 1 then return firstOfB out na nb
 let mut minGallop:=gallopOf (←get)
 for _ in [0:total] do
  let mut acount:=0
  let mut bcount:=0
  for _ in [0:total] do
   let some aWins ←lt' (←elem' b (nb - 1)) (←elem' a (na - 1))|return done out na nb
   if aWins then
    na:=na - 1;out:=out.push (←elem' a na);acount:=acount+1;bcount:=0
    if na == 0 then return done out na nb
    if acount ≥ minGallop then break
   else
    nb:=nb - 1;out:=out.push (←elem' b nb);bcount:=bcount+1;acount:=0
    if nb == 1 then return firstOfB out na nb
    if bcount ≥ minGallop then break
  rule "list.sort.gallop"
  minGallop:=minGallop+1
  for _ in [0:total] do
   if minGallop > 1 then minGallop:=minGallop - 1
   setMinGallop' minGallop
   let some at_ ←gallop' false (←elem' b (nb - 1)) a 0 na (na - 1)|return done out na nb
   let k:=na - at_
   acount:=k
   if k > 0 then
    out:=out++(a.extract at_ na).reverse;na:=at_
    if na == 0 then return done out na nb
   nb:=nb - 1;out:=out.push (←elem' b nb)
   if nb == 1 then return firstOfB out na nb
   let some at_ ←gallop' true (←elem' a (na - 1)) b 0 nb (nb - 1)|return done out na nb
   let k:=nb - at_
   bcount:=k
   if k > 0 then
    out:=out++(b.extract at_ nb).reverse;nb:=at_
    if nb == 1 then return firstOfB out na nb
    if nb == 0 then return done out na nb
   na:=na - 1;out:=out.push (←elem' a na)
   if na == 0 then return done out na nb
   if acount < 7 && bcount < 7 then break
  minGallop:=minGallop+1
  setMinGallop' minGallop
 unsupported "internal:list.sort.merge-bound"):=rfl
theorem ex3 (a:Array Keyed) (i k:Nat):(a.extract i k).toList=(a.toList.take k).drop i:=by
 rw [Array.toList_extract,List.extract_eq_drop_take']
theorem ex4 (a:Array Keyed) (k:Nat):(a.extract 0 k).toList=a.toList.take k:=by
 rw [ex3,List.drop_zero]
section
variable {prog:Program}{w:World}{A:Around}{E:Value->Shared->Prop}{s:Shared}{a₀:Array Keyed}
abbrev MhA (a b out:Array Keyed) (na nb:Nat):Prop:=Mh a.toList b.toList out.toList.reverse na nb
def PJ (a b:Array Keyed) (out:Array Keyed) (na nb n:Nat):Prop:=MhA a b out na nb∧0 < na∧na≤a.size∧1 < nb∧nb≤b.size∧n+na+nb≤a.size+b.size
theorem goodh_done {a b out:Array Keyed}{na nb:Nat}(m:MhA a b out na nb) (hA:SoL a.toList) (hB:SoL b.toList) (h:na=0∨nb=0):Good a b (a.extract 0 na++b.extract 0 nb++out.reverse):=by
 unfold Good
 rw [Array.toList_append,Array.toList_append,ex4,ex4,Array.toList_reverse]
 refine m.done hA hB fun x hx y hy=>?_
 rcases h with h|h
 ·rw [h] at hx;cases hx
 ·rw [h] at hy;cases hy
theorem goodh_first {a b out:Array Keyed}{na nb:Nat}(m:MhA a b out na nb) (hA:SoL a.toList) (hB:SoL b.toList) (hn:nb=1) (hb:0 < b.size) (h1:∀ x∈a.toList,kp b[0]≤kp x):Good a b (b.extract 0 nb++a.extract 0 na++out.reverse):=by
 unfold Good
 rw [Array.toList_append,Array.toList_append,ex4,ex4,Array.toList_reverse]
 refine m.doneB hA hB fun x hx y hy=>?_
 subst hn
 have h2:=take_le hB (n:=0) (by simpa using hb) x hx
 simp only [Array.getElem_toList] at h2
 exact Int.le_trans h2 (h1 y (List.mem_of_mem_take hy))
theorem mh_pushA {a b out:Array Keyed}{na nb:Nat}(m:MhA a b out na nb) (hA:SoL a.toList) (hB:SoL b.toList) (hi:0 < na) (hi2:na≤a.size) (hj:0 < nb) (hj2:nb≤b.size) (hle:kp b[nb - 1]≤kp a[na - 1]):MhA a b (out.push a[na - 1]) (na - 1) nb:=by
 obtain ⟨i,rfl⟩:∃ i,na=i+1:=⟨na - 1,by omega⟩
 obtain ⟨j,rfl⟩:∃ j,nb=j+1:=⟨nb - 1,by omega⟩
 unfold MhA at *
 rw [Array.toList_push,List.reverse_append]
 have:=Mh.one m hA hB (by rw [Array.length_toList];exact hi2) (by rw [Array.length_toList];exact hj2) (by simpa using hle)
 simpa using this
theorem mh_pushB {a b out:Array Keyed}{na nb:Nat}(m:MhA a b out na nb) (hA:SoL a.toList) (hB:SoL b.toList) (hi:0 < na) (hi2:na≤a.size) (hj:0 < nb) (hj2:nb≤b.size) (hle:kp a[na - 1]≤kp b[nb - 1]):MhA a b (out.push b[nb - 1]) na (nb - 1):=by
 obtain ⟨i,rfl⟩:∃ i,na=i+1:=⟨na - 1,by omega⟩
 obtain ⟨j,rfl⟩:∃ j,nb=j+1:=⟨nb - 1,by omega⟩
 unfold MhA at *
 rw [Array.toList_push,List.reverse_append]
 have:=Mh.oneB m hA hB (by rw [Array.length_toList];exact hi2) (by rw [Array.length_toList];exact hj2) (by simpa using hle)
 simpa using this
theorem mem_seg2 {l:List Keyed}{i n:Nat}{x:Keyed}(h:x∈(l.take n).drop i):∃ j,i≤j∧j < n∧l[j]? = some x:=by
 obtain ⟨j,hj,e⟩:=List.getElem_of_mem h
 rw [List.length_drop,List.length_take] at hj
 refine ⟨i+j,by omega,by omega,?_⟩
 rw [List.getElem_drop,List.getElem_take] at e
 rw [←e,List.getElem?_eq_getElem]
theorem mh_segA {a b out:Array Keyed}{na nb k:Nat}(m:MhA a b out na nb) (hA:SoL a.toList) (hB:SoL b.toList) (hk:k≤na) (hj:0 < nb) (hj2:nb≤b.size) (hle:∀ i,k≤i->i < na->kp b[nb - 1]≤K a i):MhA a b (out++(a.extract k na).reverse) k nb:=by
 unfold MhA at *
 rw [Array.toList_append,Array.toList_reverse,ex3,List.reverse_append,List.reverse_reverse]
 refine Mh.seg m hA k hk fun x hx y hy=>?_
 obtain ⟨j,h1,h2,h3⟩:=mem_seg2 hy
 have h4:=hle j h1 h2
 rw [K_of h3] at h4
 obtain ⟨n,rfl⟩:∃ n,nb=n+1:=⟨nb - 1,by omega⟩
 have h5:=take_le hB (n:=n) (by rw [Array.length_toList];exact hj2) x hx
 simp only [Array.getElem_toList,Nat.add_sub_cancel] at h4 h5
 omega
theorem mh_segB {a b out:Array Keyed}{na nb k:Nat}(m:MhA a b out na nb) (hA:SoL a.toList) (hB:SoL b.toList) (hk:k≤nb) (hj:0 < na) (hj2:na≤a.size) (hle:∀ i,k≤i->i < nb->kp a[na - 1]≤K b i):MhA a b (out++(b.extract k nb).reverse) na k:=
 (mh_segA (a:=b) (b:=a) (out:=out) (Mh.swap m) hB hA hk hj hj2 hle).swap
theorem wpS_mergeHi {st:SortSt}{a b:Array Keyed}{Q:Array Keyed->SortSt->Prop}(hk:kindOf st=oneType') (hA:SoL a.toList) (hB:SoL b.toList) (iA:∀ p∈a.toList,IntP p) (iB:∀ p∈b.toList,IntP p)
  (ha:0 < a.size) (hb:0 < b.size) (h1:∀ x∈a.toList,kp b[0]≤kp x) (h2:kp b[b.size - 1]≤kp a[a.size - 1])
  (h:∀ (out:Array Keyed) g,Good a b out->Q out (setMin st g)):wpS (model prog w) A E s (mergeHi' a b) Q st:=by
 rw [mergeHi'_eq]
 refine wpS_bind (wpS_lift (wpAny_rule ⟨rfl,?_⟩))
 dsimp only
 refine wpS_bind (wpS_elem (show a.size - 1 < a.size by omega) ?_)
 have m0:MhA a b (#[]:Array Keyed) a.size b.size:=⟨by rw [List.drop_eq_nil_of_le (by simp),List.drop_eq_nil_of_le (by simp)];exact .refl _,.nil,fun x _ y hy=>by cases hy⟩
 have m1:MhA a b (#[a[a.size - 1]]:Array Keyed) (a.size - 1) b.size:=mh_pushA m0 hA hB ha (Nat.le_refl _) hb (Nat.le_refl _) h2
 have hst:st=setMin st (gallopOf st):=rfl
 by_cases c1:a.size - 1=0
 ·rw [if_pos (by simpa using c1)]
  refine wpS_pure ?_
  rw [hst]
  exact h _ _ (goodh_done m1 hA hB (.inl c1))
 rw [if_neg (by simpa using c1)]
 by_cases c2:b.size=1
 ·rw [if_pos (by simpa using c2)]
  refine wpS_pure ?_
  rw [hst]
  exact h _ _ (goodh_first m1 hA hB c2 hb h1)
 rw [if_neg (by simpa using c2)]
 refine wpS_bind (wpS_get ?_)
 generalize gallopOf st=g0 at *
 refine wpS_bind (wpS_mono (wpS_forRange (I:=fun x c st'=>(∃ g,st'=setMin st g)∧∃ na nb out mg,c=(none,na,nb,out,mg)∧PJ a b out na nb x)
  (Q:=fun c st'=>(∃ g,st'=setMin st g)∧∃ r na nb out mg,c=(some r,na,nb,out,mg)∧Good a b r) ?step ?fin ⟨⟨_,rfl⟩,_,_,_,_,rfl,m1,by omega,by omega,by omega,by omega,by omega⟩) ?post)
 case post=>
  rintro c st' ⟨⟨g,rfl⟩,r,na,nb,out,mg,rfl,hr⟩
  exact wpS_pure (h r g hr)
 case fin=>
  rintro c st' ⟨_,na,nb,out,mg,rfl,_,b1,b2,b3,b4,b5⟩
  omega
 case step=>
  rintro n0 c st' _ hn0 ⟨⟨g1,rfl⟩,na,nb,out,mg,rfl,pi⟩
  dsimp only
  refine wpS_bind (wpS_mono (wpS_forRange (I:=fun x c st'=>st'=setMin st g1∧∃ na nb out ac bc,c=(none,na,nb,out,ac,bc)∧PJ a b out na nb n0)
   (Q:=fun c st'=>st'=setMin st g1∧((∃ r na nb out ac bc,c=(some r,na,nb,out,ac,bc)∧Good a b r)∨∃ na nb out ac bc,c=(none,na,nb,out,ac,bc)∧PJ a b out na nb n0)) ?step ?fin ⟨rfl,_,_,_,_,_,rfl,pi⟩) ?post)
  case fin=>
   rintro c st' ⟨rfl,hh⟩
   exact ⟨rfl,.inr hh⟩
  case step=>
   rintro x c st' _ _ ⟨rfl,na,nb,out,ac,bc,rfl,m,b1,b2,b3,b4,b5⟩
   dsimp only
   refine wpS_bind (wpS_elem (show nb - 1 < b.size by omega) ?_)
   refine wpS_bind (wpS_elem (show na - 1 < a.size by omega) ?_)
   refine wpS_bind (wpS_lt hk (iB _ (by simp)) (iA _ (by simp)) ?_)
   by_cases hw:kp b[nb - 1] < kp a[na - 1]
   ·simp only [hw,decide_true,if_true]
    refine wpS_bind (wpS_elem (show na - 1 < a.size by omega) ?_)
    have m2:=mh_pushA m hA hB b1 b2 (by omega) b4 (Int.le_of_lt hw)
    by_cases d1:na - 1=0
    ·rw [if_pos (by simpa using d1)]
     exact wpS_pure ⟨rfl,.inl ⟨_,_,_,_,_,_,rfl,goodh_done m2 hA hB (.inl d1)⟩⟩
    rw [if_neg (by simpa using d1)]
    split
    ·exact wpS_pure ⟨rfl,.inr ⟨_,_,_,_,_,rfl,m2,by omega,by omega,b3,b4,by omega⟩⟩
    ·exact wpS_pure ⟨rfl,_,_,_,_,_,rfl,m2,by omega,by omega,b3,b4,by omega⟩
   ·simp only [hw,decide_false,Bool.false_eq_true,if_false]
    refine wpS_bind (wpS_elem (show nb - 1 < b.size by omega) ?_)
    have m2:=mh_pushB m hA hB b1 b2 (by omega) b4 (by omega)
    by_cases d1:nb - 1=1
    ·rw [if_pos (by simpa using d1)]
     exact wpS_pure ⟨rfl,.inl ⟨_,_,_,_,_,_,rfl,goodh_first m2 hA hB d1 hb h1⟩⟩
    rw [if_neg (by simpa using d1)]
    split
    ·exact wpS_pure ⟨rfl,.inr ⟨_,_,_,_,_,rfl,m2,by omega,by omega,by omega,by omega,by omega⟩⟩
    ·exact wpS_pure ⟨rfl,_,_,_,_,_,rfl,m2,by omega,by omega,by omega,by omega,by omega⟩
  case post=>
   rintro c st' ⟨rfl,⟨r,na,nb,out,ac,bc,rfl,hr⟩|⟨na,nb,out,ac,bc,rfl,pi⟩⟩
   ·exact wpS_pure ⟨⟨_,rfl⟩,_,_,_,_,_,rfl,hr⟩
   dsimp only
   refine wpS_bind (wpS_lift (wpAny_rule ⟨rfl,?_⟩))
   refine wpS_bind (wpS_mono (wpS_forRange (I:=fun x c st'=>(∃ g,st'=setMin st g)∧∃ na nb out mg ac bc,c=(none,na,nb,out,mg,ac,bc)∧PJ a b out na nb (n0+x))
    (Q:=fun c st'=>(∃ g,st'=setMin st g)∧((∃ r na nb out mg ac bc,c=(some r,na,nb,out,mg,ac,bc)∧Good a b r)∨∃ na nb out mg ac bc,c=(none,na,nb,out,mg,ac,bc)∧PJ a b out na nb (n0+1))) ?step ?fin ⟨⟨_,rfl⟩,_,_,_,_,_,_,rfl,pi⟩) ?post)
   case fin=>
    rintro c st' ⟨hg,na,nb,out,mg,ac,bc,rfl,m,b1,b2,b3,b4,b5⟩
    exact ⟨hg,.inr ⟨_,_,_,_,_,_,rfl,m,b1,b2,b3,b4,by omega⟩⟩
   case post=>
    rintro c st' ⟨⟨g,rfl⟩,⟨r,na,nb,out,mg,ac,bc,rfl,hr⟩|⟨na,nb,out,mg,ac,bc,rfl,pi⟩⟩
    ·exact wpS_pure ⟨⟨_,rfl⟩,_,_,_,_,_,rfl,hr⟩
    dsimp only
    exact wpS_bind (wpS_setMin (wpS_pure ⟨⟨_,rfl⟩,_,_,_,_,rfl,pi⟩))
   case step=>
    clear pi hst m0 m1
    rintro x c st' _ _ ⟨⟨g2,rfl⟩,na,nb,out,mg,ac,bc,rfl,m,b1,b2,b3,b4,b5⟩
    dsimp only
    by_cases hmg:mg > 1
    ·rw [if_pos hmg]
     refine wpS_bind (wpS_setMin ?_)
     refine wpS_bind (wpS_elem (show nb - 1 < b.size by omega) ?_)
     refine wpS_bind (wpS_galF hk (iB _ (by simp)) iA (by omega) (by omega) (fun i j hij hj=>hA.K (by omega) (by omega)) fun k k1 k2 k3=>?_)
     dsimp only
     by_cases hk0:na - k > 0
     ·rw [if_pos hk0]
      have m2:=mh_segA m hA hB (show k≤na by omega) (show 0 < nb by omega) b4 (fun i i1 i2=>by have:=k3 i i1 i2;rw [Nat.zero_add] at this;exact Int.le_of_lt this)
      by_cases d4:k=0
      ·rw [if_pos (by simpa using d4)]
       exact wpS_pure ⟨⟨_,rfl⟩,.inl ⟨_,_,_,_,_,_,_,rfl,goodh_done m2 hA hB (.inl d4)⟩⟩
      rw [if_neg (by simpa using d4)]
      refine wpS_bind (wpS_elem (show nb - 1 < b.size by omega) ?_)
      have hlt:=k2 (k - 1) (by omega)
      rw [Nat.zero_add,K_at (by omega)] at hlt
      have m3:=mh_pushB m2 hA hB (show 0 < k by omega) (by omega) (show 0 < nb by omega) b4 hlt
      by_cases d1:nb - 1=1
      ·rw [if_pos (by simpa using d1)]
       exact wpS_pure ⟨⟨_,rfl⟩,.inl ⟨_,_,_,_,_,_,_,rfl,goodh_first m3 hA hB d1 hb h1⟩⟩
      rw [if_neg (by simpa using d1)]
      refine wpS_bind (wpS_elem (show k - 1 < a.size by omega) ?_)
      refine wpS_bind (wpS_galT hk (iA _ (by simp)) iB (by omega) (by omega) (fun i j hij hj=>hB.K (by omega) (by omega)) fun q q1 q2 q3=>?_)
      dsimp only
      by_cases hq:nb - 1 - q > 0
      ·rw [if_pos hq]
       have m4:=mh_segB m3 hA hB (show q≤nb - 1 by omega) (show 0 < k by omega) (by omega) (fun i i1 i2=>by have:=q3 i i1 i2;rwa [Nat.zero_add] at this)
       by_cases d2:q=1
       ·rw [if_pos (by simpa using d2)]
        exact wpS_pure ⟨⟨_,rfl⟩,.inl ⟨_,_,_,_,_,_,_,rfl,goodh_first m4 hA hB d2 hb h1⟩⟩
       rw [if_neg (by simpa using d2)]
       by_cases d6:q=0
       ·rw [if_pos (by simpa using d6)]
        exact wpS_pure ⟨⟨_,rfl⟩,.inl ⟨_,_,_,_,_,_,_,rfl,goodh_done m4 hA hB (.inr d6)⟩⟩
       rw [if_neg (by simpa using d6)]
       refine wpS_bind (wpS_elem (show k - 1 < a.size by omega) ?_)
       have r3:=q2 (q - 1) (by omega)
       rw [Nat.zero_add,K_at (by omega)] at r3
       have m5:=mh_pushA m4 hA hB (show 0 < k by omega) (by omega) (show 0 < q by omega) (by omega) (Int.le_of_lt r3)
       by_cases d3:k - 1=0
       ·rw [if_pos (by simpa using d3)]
        exact wpS_pure ⟨⟨_,rfl⟩,.inl ⟨_,_,_,_,_,_,_,rfl,goodh_done m5 hA hB (.inl d3)⟩⟩
       rw [if_neg (by simpa using d3)]
       split
       ·exact wpS_pure ⟨⟨_,rfl⟩,.inr ⟨_,_,_,_,_,_,rfl,m5,by omega,by omega,by omega,by omega,by omega⟩⟩
       ·exact wpS_pure ⟨⟨_,rfl⟩,_,_,_,_,_,_,rfl,m5,by omega,by omega,by omega,by omega,by omega⟩
      ·rw [if_neg hq]
       have hq0:q=nb - 1:=by omega
       subst hq0
       have m4:=m3
       refine wpS_bind (wpS_elem (show k - 1 < a.size by omega) ?_)
       have r3:=q2 ((nb - 1) - 1) (by omega)
       rw [Nat.zero_add,K_at (by omega)] at r3
       have m5:=mh_pushA m4 hA hB (show 0 < k by omega) (by omega) (show 0 < (nb - 1) by omega) (by omega) (Int.le_of_lt r3)
       by_cases d3:k - 1=0
       ·rw [if_pos (by simpa using d3)]
        exact wpS_pure ⟨⟨_,rfl⟩,.inl ⟨_,_,_,_,_,_,_,rfl,goodh_done m5 hA hB (.inl d3)⟩⟩
       rw [if_neg (by simpa using d3)]
       split
       ·exact wpS_pure ⟨⟨_,rfl⟩,.inr ⟨_,_,_,_,_,_,rfl,m5,by omega,by omega,by omega,by omega,by omega⟩⟩
       ·exact wpS_pure ⟨⟨_,rfl⟩,_,_,_,_,_,_,rfl,m5,by omega,by omega,by omega,by omega,by omega⟩
     ·rw [if_neg hk0]
      have hk0':k=na:=by omega
      subst hk0'
      have m2:=m
      refine wpS_bind (wpS_elem (show nb - 1 < b.size by omega) ?_)
      have hlt:=k2 (k - 1) (by omega)
      rw [Nat.zero_add,K_at (by omega)] at hlt
      have m3:=mh_pushB m2 hA hB (show 0 < k by omega) (by omega) (show 0 < nb by omega) b4 hlt
      by_cases d1:nb - 1=1
      ·rw [if_pos (by simpa using d1)]
       exact wpS_pure ⟨⟨_,rfl⟩,.inl ⟨_,_,_,_,_,_,_,rfl,goodh_first m3 hA hB d1 hb h1⟩⟩
      rw [if_neg (by simpa using d1)]
      refine wpS_bind (wpS_elem (show k - 1 < a.size by omega) ?_)
      refine wpS_bind (wpS_galT hk (iA _ (by simp)) iB (by omega) (by omega) (fun i j hij hj=>hB.K (by omega) (by omega)) fun q q1 q2 q3=>?_)
      dsimp only
      by_cases hq:nb - 1 - q > 0
      ·rw [if_pos hq]
       have m4:=mh_segB m3 hA hB (show q≤nb - 1 by omega) (show 0 < k by omega) (by omega) (fun i i1 i2=>by have:=q3 i i1 i2;rwa [Nat.zero_add] at this)
       by_cases d2:q=1
       ·rw [if_pos (by simpa using d2)]
        exact wpS_pure ⟨⟨_,rfl⟩,.inl ⟨_,_,_,_,_,_,_,rfl,goodh_first m4 hA hB d2 hb h1⟩⟩
       rw [if_neg (by simpa using d2)]
       by_cases d6:q=0
       ·rw [if_pos (by simpa using d6)]
        exact wpS_pure ⟨⟨_,rfl⟩,.inl ⟨_,_,_,_,_,_,_,rfl,goodh_done m4 hA hB (.inr d6)⟩⟩
       rw [if_neg (by simpa using d6)]
       refine wpS_bind (wpS_elem (show k - 1 < a.size by omega) ?_)
       have r3:=q2 (q - 1) (by omega)
       rw [Nat.zero_add,K_at (by omega)] at r3
       have m5:=mh_pushA m4 hA hB (show 0 < k by omega) (by omega) (show 0 < q by omega) (by omega) (Int.le_of_lt r3)
       by_cases d3:k - 1=0
       ·rw [if_pos (by simpa using d3)]
        exact wpS_pure ⟨⟨_,rfl⟩,.inl ⟨_,_,_,_,_,_,_,rfl,goodh_done m5 hA hB (.inl d3)⟩⟩
       rw [if_neg (by simpa using d3)]
       split
       ·exact wpS_pure ⟨⟨_,rfl⟩,.inr ⟨_,_,_,_,_,_,rfl,m5,by omega,by omega,by omega,by omega,by omega⟩⟩
       ·exact wpS_pure ⟨⟨_,rfl⟩,_,_,_,_,_,_,rfl,m5,by omega,by omega,by omega,by omega,by omega⟩
      ·rw [if_neg hq]
       have hq0:q=nb - 1:=by omega
       subst hq0
       have m4:=m3
       refine wpS_bind (wpS_elem (show k - 1 < a.size by omega) ?_)
       have r3:=q2 ((nb - 1) - 1) (by omega)
       rw [Nat.zero_add,K_at (by omega)] at r3
       have m5:=mh_pushA m4 hA hB (show 0 < k by omega) (by omega) (show 0 < (nb - 1) by omega) (by omega) (Int.le_of_lt r3)
       by_cases d3:k - 1=0
       ·rw [if_pos (by simpa using d3)]
        exact wpS_pure ⟨⟨_,rfl⟩,.inl ⟨_,_,_,_,_,_,_,rfl,goodh_done m5 hA hB (.inl d3)⟩⟩
       rw [if_neg (by simpa using d3)]
       split
       ·exact wpS_pure ⟨⟨_,rfl⟩,.inr ⟨_,_,_,_,_,_,rfl,m5,by omega,by omega,by omega,by omega,by omega⟩⟩
       ·exact wpS_pure ⟨⟨_,rfl⟩,_,_,_,_,_,_,rfl,m5,by omega,by omega,by omega,by omega,by omega⟩
    ·rw [if_neg hmg]
     refine wpS_bind (wpS_setMin ?_)
     refine wpS_bind (wpS_elem (show nb - 1 < b.size by omega) ?_)
     refine wpS_bind (wpS_galF hk (iB _ (by simp)) iA (by omega) (by omega) (fun i j hij hj=>hA.K (by omega) (by omega)) fun k k1 k2 k3=>?_)
     dsimp only
     by_cases hk0:na - k > 0
     ·rw [if_pos hk0]
      have m2:=mh_segA m hA hB (show k≤na by omega) (show 0 < nb by omega) b4 (fun i i1 i2=>by have:=k3 i i1 i2;rw [Nat.zero_add] at this;exact Int.le_of_lt this)
      by_cases d4:k=0
      ·rw [if_pos (by simpa using d4)]
       exact wpS_pure ⟨⟨_,rfl⟩,.inl ⟨_,_,_,_,_,_,_,rfl,goodh_done m2 hA hB (.inl d4)⟩⟩
      rw [if_neg (by simpa using d4)]
      refine wpS_bind (wpS_elem (show nb - 1 < b.size by omega) ?_)
      have hlt:=k2 (k - 1) (by omega)
      rw [Nat.zero_add,K_at (by omega)] at hlt
      have m3:=mh_pushB m2 hA hB (show 0 < k by omega) (by omega) (show 0 < nb by omega) b4 hlt
      by_cases d1:nb - 1=1
      ·rw [if_pos (by simpa using d1)]
       exact wpS_pure ⟨⟨_,rfl⟩,.inl ⟨_,_,_,_,_,_,_,rfl,goodh_first m3 hA hB d1 hb h1⟩⟩
      rw [if_neg (by simpa using d1)]
      refine wpS_bind (wpS_elem (show k - 1 < a.size by omega) ?_)
      refine wpS_bind (wpS_galT hk (iA _ (by simp)) iB (by omega) (by omega) (fun i j hij hj=>hB.K (by omega) (by omega)) fun q q1 q2 q3=>?_)
      dsimp only
      by_cases hq:nb - 1 - q > 0
      ·rw [if_pos hq]
       have m4:=mh_segB m3 hA hB (show q≤nb - 1 by omega) (show 0 < k by omega) (by omega) (fun i i1 i2=>by have:=q3 i i1 i2;rwa [Nat.zero_add] at this)
       by_cases d2:q=1
       ·rw [if_pos (by simpa using d2)]
        exact wpS_pure ⟨⟨_,rfl⟩,.inl ⟨_,_,_,_,_,_,_,rfl,goodh_first m4 hA hB d2 hb h1⟩⟩
       rw [if_neg (by simpa using d2)]
       by_cases d6:q=0
       ·rw [if_pos (by simpa using d6)]
        exact wpS_pure ⟨⟨_,rfl⟩,.inl ⟨_,_,_,_,_,_,_,rfl,goodh_done m4 hA hB (.inr d6)⟩⟩
       rw [if_neg (by simpa using d6)]
       refine wpS_bind (wpS_elem (show k - 1 < a.size by omega) ?_)
       have r3:=q2 (q - 1) (by omega)
       rw [Nat.zero_add,K_at (by omega)] at r3
       have m5:=mh_pushA m4 hA hB (show 0 < k by omega) (by omega) (show 0 < q by omega) (by omega) (Int.le_of_lt r3)
       by_cases d3:k - 1=0
       ·rw [if_pos (by simpa using d3)]
        exact wpS_pure ⟨⟨_,rfl⟩,.inl ⟨_,_,_,_,_,_,_,rfl,goodh_done m5 hA hB (.inl d3)⟩⟩
       rw [if_neg (by simpa using d3)]
       split
       ·exact wpS_pure ⟨⟨_,rfl⟩,.inr ⟨_,_,_,_,_,_,rfl,m5,by omega,by omega,by omega,by omega,by omega⟩⟩
       ·exact wpS_pure ⟨⟨_,rfl⟩,_,_,_,_,_,_,rfl,m5,by omega,by omega,by omega,by omega,by omega⟩
      ·rw [if_neg hq]
       have hq0:q=nb - 1:=by omega
       subst hq0
       have m4:=m3
       refine wpS_bind (wpS_elem (show k - 1 < a.size by omega) ?_)
       have r3:=q2 ((nb - 1) - 1) (by omega)
       rw [Nat.zero_add,K_at (by omega)] at r3
       have m5:=mh_pushA m4 hA hB (show 0 < k by omega) (by omega) (show 0 < (nb - 1) by omega) (by omega) (Int.le_of_lt r3)
       by_cases d3:k - 1=0
       ·rw [if_pos (by simpa using d3)]
        exact wpS_pure ⟨⟨_,rfl⟩,.inl ⟨_,_,_,_,_,_,_,rfl,goodh_done m5 hA hB (.inl d3)⟩⟩
       rw [if_neg (by simpa using d3)]
       split
       ·exact wpS_pure ⟨⟨_,rfl⟩,.inr ⟨_,_,_,_,_,_,rfl,m5,by omega,by omega,by omega,by omega,by omega⟩⟩
       ·exact wpS_pure ⟨⟨_,rfl⟩,_,_,_,_,_,_,rfl,m5,by omega,by omega,by omega,by omega,by omega⟩
     ·rw [if_neg hk0]
      have hk0':k=na:=by omega
      subst hk0'
      have m2:=m
      refine wpS_bind (wpS_elem (show nb - 1 < b.size by omega) ?_)
      have hlt:=k2 (k - 1) (by omega)
      rw [Nat.zero_add,K_at (by omega)] at hlt
      have m3:=mh_pushB m2 hA hB (show 0 < k by omega) (by omega) (show 0 < nb by omega) b4 hlt
      by_cases d1:nb - 1=1
      ·rw [if_pos (by simpa using d1)]
       exact wpS_pure ⟨⟨_,rfl⟩,.inl ⟨_,_,_,_,_,_,_,rfl,goodh_first m3 hA hB d1 hb h1⟩⟩
      rw [if_neg (by simpa using d1)]
      refine wpS_bind (wpS_elem (show k - 1 < a.size by omega) ?_)
      refine wpS_bind (wpS_galT hk (iA _ (by simp)) iB (by omega) (by omega) (fun i j hij hj=>hB.K (by omega) (by omega)) fun q q1 q2 q3=>?_)
      dsimp only
      by_cases hq:nb - 1 - q > 0
      ·rw [if_pos hq]
       have m4:=mh_segB m3 hA hB (show q≤nb - 1 by omega) (show 0 < k by omega) (by omega) (fun i i1 i2=>by have:=q3 i i1 i2;rwa [Nat.zero_add] at this)
       by_cases d2:q=1
       ·rw [if_pos (by simpa using d2)]
        exact wpS_pure ⟨⟨_,rfl⟩,.inl ⟨_,_,_,_,_,_,_,rfl,goodh_first m4 hA hB d2 hb h1⟩⟩
       rw [if_neg (by simpa using d2)]
       by_cases d6:q=0
       ·rw [if_pos (by simpa using d6)]
        exact wpS_pure ⟨⟨_,rfl⟩,.inl ⟨_,_,_,_,_,_,_,rfl,goodh_done m4 hA hB (.inr d6)⟩⟩
       rw [if_neg (by simpa using d6)]
       refine wpS_bind (wpS_elem (show k - 1 < a.size by omega) ?_)
       have r3:=q2 (q - 1) (by omega)
       rw [Nat.zero_add,K_at (by omega)] at r3
       have m5:=mh_pushA m4 hA hB (show 0 < k by omega) (by omega) (show 0 < q by omega) (by omega) (Int.le_of_lt r3)
       by_cases d3:k - 1=0
       ·rw [if_pos (by simpa using d3)]
        exact wpS_pure ⟨⟨_,rfl⟩,.inl ⟨_,_,_,_,_,_,_,rfl,goodh_done m5 hA hB (.inl d3)⟩⟩
       rw [if_neg (by simpa using d3)]
       split
       ·exact wpS_pure ⟨⟨_,rfl⟩,.inr ⟨_,_,_,_,_,_,rfl,m5,by omega,by omega,by omega,by omega,by omega⟩⟩
       ·exact wpS_pure ⟨⟨_,rfl⟩,_,_,_,_,_,_,rfl,m5,by omega,by omega,by omega,by omega,by omega⟩
      ·rw [if_neg hq]
       have hq0:q=nb - 1:=by omega
       subst hq0
       have m4:=m3
       refine wpS_bind (wpS_elem (show k - 1 < a.size by omega) ?_)
       have r3:=q2 ((nb - 1) - 1) (by omega)
       rw [Nat.zero_add,K_at (by omega)] at r3
       have m5:=mh_pushA m4 hA hB (show 0 < k by omega) (by omega) (show 0 < (nb - 1) by omega) (by omega) (Int.le_of_lt r3)
       by_cases d3:k - 1=0
       ·rw [if_pos (by simpa using d3)]
        exact wpS_pure ⟨⟨_,rfl⟩,.inl ⟨_,_,_,_,_,_,_,rfl,goodh_done m5 hA hB (.inl d3)⟩⟩
       rw [if_neg (by simpa using d3)]
       split
       ·exact wpS_pure ⟨⟨_,rfl⟩,.inr ⟨_,_,_,_,_,_,rfl,m5,by omega,by omega,by omega,by omega,by omega⟩⟩
       ·exact wpS_pure ⟨⟨_,rfl⟩,_,_,_,_,_,_,rfl,m5,by omega,by omega,by omega,by omega,by omega⟩
end
def DsK (xs:Array Keyed):Prop:=∀ i j,i < j->j < xs.size->K xs i ≠ K xs j
theorem dsK_of {xs a₀:Array Keyed}(hp:xs.Perm a₀) (h:(a₀.toList.map kp).Nodup):DsK xs:=by
 intro i j hij hj e
 have hn:(xs.toList.map kp).Nodup:=((Array.perm_iff_toList_perm.mp hp).map kp).nodup_iff.mpr h
 rw [K_at (by omega),K_at hj] at e
 have:=List.pairwise_iff_getElem.mp hn i j (by simp;omega) (by simp;omega) hij
 simp at this
 exact this e
theorem SB.size {a₀:Array Keyed}{st:SortSt}(h:SB a₀ st):(arrOf st).size=a₀.size:=h.perm.size_eq
theorem SB.ints {a₀:Array Keyed}{st:SortSt}(h:SB a₀ st) (h0:IntKeys a₀):∀ p∈(arrOf st).toList,IntP p:=fun p hp=>h0 p ((Array.perm_iff_toList_perm.mp h.perm).mem_iff.mp hp)
section
variable {prog:Program}{w:World}{A:Around}{E:Value->Shared->Prop}{s:Shared}{a₀:Array Keyed}
theorem wpS_ltB {st:SortSt}{i j:Nat}{Q:Option Bool->SortSt->Prop}(hB:SB a₀ st) (h0:IntKeys a₀) (hi:i < a₀.size) (hj:j < a₀.size)
  (h:Q (some (decide (K (arrOf st) i < K (arrOf st) j))) st):wpS (model prog w) A E s (ltAt' i j) Q st:=by
 have hi':i < (arrOf st).size:=by rw [hB.size];exact hi
 have hj':j < (arrOf st).size:=by rw [hB.size];exact hj
 obtain ⟨n,t,e1⟩:=hB.ints h0 (arrOf st)[i] (by simp)
 obtain ⟨m,u,e2⟩:=hB.ints h0 (arrOf st)[j] (by simp)
 have k1:K (arrOf st) i=n:=by rw [K_at hi'];unfold kp;rw [e1];rfl
 have k2:K (arrOf st) j=m:=by rw [K_at hj'];unfold kp;rw [e2];rfl
 refine wpS_ltAt (a:=n) (b:=m) (t:=t) (u:=u) (p:=(arrOf st)[i].2) (q:=(arrOf st)[j].2) hB.kind ?_ ?_ (by rw [←k1,←k2];exact h)
 ·rw [getElem?_pos (arrOf st) i hi',←e1]
 ·rw [getElem?_pos (arrOf st) j hj',←e2]
abbrev AscS:=Option (Option Nat) × Nat
theorem asc_loop {st:SortSt}{lo a nrem:Nat}{f:Nat->AscS->StateT SortSt Sem (ForInStep AscS)}{g:AscS->StateT SortSt Sem (Option Nat)}{Q:Option Nat->SortSt->Prop}(hB:SB a₀ st) (h0:IntKeys a₀) (hn:lo+nrem≤a₀.size) (ha:1≤a) (han:a≤nrem)
  (hs:∀ i j,i≤j->j < a->K (arrOf st) (lo+i)≤K (arrOf st) (lo+j))
  (hf:∀ x n (R:ForInStep AscS->SortSt->Prop),(∀ b:Bool,b=decide (K (arrOf st) (lo+n) < K (arrOf st) (lo+n - 1))->R (if b then .done (none,n) else .yield (none,n+1)) st)->1≤n->n < nrem->wpS (model prog w) A E s (f x (none,n)) R st)
  (hg:∀ n,a≤n->n≤nrem->(∀ i j,i≤j->j < n->K (arrOf st) (lo+i)≤K (arrOf st) (lo+j))->(n=nrem∨K (arrOf st) (lo+n) < K (arrOf st) (lo+n - 1))->wpS (model prog w) A E s (g (none,n)) Q st) :
  wpS (model prog w) A E s (forIn [a:nrem] (none,a) f >>= g) Q st:=by
 refine wpS_bind (wpS_forRange (I:=fun x c st'=>st'=st∧c=(none,x)∧∀ i j,i≤j->j < x->K (arrOf st) (lo+i)≤K (arrOf st) (lo+j)) ?step ?fin ⟨rfl,rfl,hs⟩)
 case fin=>
  rintro c st' ⟨rfl,rfl,hs'⟩
  rw [show max a nrem=nrem by omega] at hs' ⊢
  exact hg nrem han (Nat.le_refl _) hs' (.inl rfl)
 case step=>
  rintro x c st' hax hxn ⟨rfl,rfl,hs'⟩
  refine hf x x _ (fun b hb=>?_) (by omega) hxn
  by_cases hless:K (arrOf st') (lo+x) < K (arrOf st') (lo+x - 1)
  ·rw [hb,decide_eq_true hless]
   exact hg x hax (by omega) hs' (.inr hless)
  ·rw [hb,decide_eq_false hless]
   refine ⟨rfl,rfl,fun i j hij hj=>?_⟩
   by_cases hjx:j < x
   ·exact hs' i j hij hjx
   ·have hj':j=x:=by omega
    subst hj'
    by_cases hi':i=j
    ·subst hi';exact Int.le_refl _
    ·have:=hs' i (j - 1) (by omega) (by omega)
     rw [show lo+(j - 1)=lo+j - 1 by omega] at this
     exact Int.le_trans this (Int.not_lt.mp hless)
theorem SB.put {st:SortSt}(hB:SB a₀ st){xs:Array Keyed}(hp:xs.Perm (arrOf st)):SB a₀ (setArr st xs):=⟨hp.trans hB.perm,hB.kind,hB.failed⟩
theorem wpS_countRunL {st:SortSt}{lo nrem:Nat}{Q:Option Nat->SortSt->Prop}(hB:SB a₀ st) (h0:IntKeys a₀) (hd:DsK (arrOf st)) (hn:lo+nrem≤a₀.size) (h1:1≤nrem)
  (h:∀ m xs,xs.Perm (arrOf st)->1≤m->m≤nrem->(∀ i j,i≤j->j < m->K xs (lo+i)≤K xs (lo+j))->(∀ i,i < lo->xs[i]? = (arrOf st)[i]?)->Q (some m) (setArr st xs)) :
  wpS (model prog w) A E s (countRun' lo nrem) Q st:=by
 rw [countRun'_eq]
 dsimp only
 refine asc_loop hB h0 hn (Nat.le_refl 1) h1 (fun i j hij hj=>by rw [show i=j by omega];exact Int.le_refl _) (fun x n R hR n1 n2=>?_) fun n n1 n2 hs hor=>?_
 ·dsimp only
  refine wpS_bind (wpS_ltB hB h0 (by omega) (by omega) ?_)
  have:=hR _ rfl
  by_cases hless:K (arrOf st) (lo+n) < K (arrOf st) (lo+n - 1)
  ·simp only [hless,decide_true,if_true] at this ⊢
   exact wpS_pure this
  ·simp only [hless,decide_false,Bool.false_eq_true,if_false] at this ⊢
   exact wpS_pure this
 dsimp only
 by_cases hnn:n=nrem
 ·rw [if_pos (by simpa using hnn)]
  exact wpS_pure (h n _ (Array.Perm.refl _) n1 n2 hs fun _ _=>rfl)
 rw [if_neg (by simpa using hnn)]
 have hlt:=hor.resolve_left hnn
 have hsz:=hB.size
 by_cases hgt:n > 1
 ·rw [if_pos hgt]
  refine wpS_bind (wpS_ltB hB h0 (by omega) (by omega) ?_)
  have hrose:K (arrOf st) lo < K (arrOf st) (lo+n - 1):=by
   have a1:=hs 0 (n - 1) (by omega) (by omega)
   have a2:=hd lo (lo+n - 1) (by omega) (by omega)
   rw [Nat.add_zero,show lo+(n - 1)=lo+n - 1 by omega] at a1
   omega
  simp only [hrose,decide_true,if_true]
  exact wpS_pure (h n _ (Array.Perm.refl _) n1 n2 hs fun _ _=>rfl)
 rw [if_neg hgt]
 have n1':n=1:=by omega
 subst n1'
 refine wpS_bind (wpS_lift (wpAny_rule ⟨rfl,?_⟩))
 refine wpS_bind (wpS_mono (wpS_forRange (I:=fun x c st'=>st'=st∧c=(none,x,0)∧∀ i j,i≤j->j < x->K (arrOf st) (lo+j)≤K (arrOf st) (lo+i))
  (Q:=fun c st'=>st'=st∧∃ n,c=(none,n,0)∧2≤n∧n≤nrem∧∀ i j,i≤j->j < n->K (arrOf st) (lo+j)≤K (arrOf st) (lo+i)) ?step ?fin ⟨rfl,rfl,?init⟩) ?post)
 case init=>
  intro i j hij hj
  by_cases e:i=j
  ·rw [e];exact Int.le_refl _
  ·have i0:i=0:=by omega
   have j1:j=1:=by omega
   subst i0;subst j1
   exact Int.le_of_lt hlt
 case fin=>
  rintro c st' ⟨rfl,rfl,hs'⟩
  rw [show max (1+1) nrem=nrem by omega] at hs' ⊢
  exact ⟨rfl,_,rfl,by omega,by omega,hs'⟩
 case step=>
  rintro x c st' hax hxn ⟨rfl,rfl,hs'⟩
  dsimp only
  refine wpS_bind (wpS_ltB hB h0 (by omega) (by omega) ?_)
  by_cases hless:K (arrOf st') (lo+x) < K (arrOf st') (lo+x - 1)
  ·simp only [hless,decide_true,if_true]
   rw [if_neg (by omega)]
   refine wpS_pure ⟨rfl,rfl,fun i j hij hj=>?_⟩
   by_cases hjx:j < x
   ·exact hs' i j hij hjx
   ·have hj':j=x:=by omega
    subst hj'
    by_cases hi':i=j
    ·subst hi';exact Int.le_refl _
    ·have:=hs' i (j - 1) (by omega) (by omega)
     rw [show lo+(j - 1)=lo+j - 1 by omega] at this
     exact Int.le_trans (Int.le_of_lt hless) this
  ·simp only [hless,decide_false,Bool.false_eq_true,if_false]
   refine wpS_bind (wpS_ltB hB h0 (by omega) (by omega) ?_)
   have hlarger:K (arrOf st') (lo+x - 1) < K (arrOf st') (lo+x):=by
    have:=hd (lo+x - 1) (lo+x) (by omega) (by omega)
    omega
   simp only [hlarger,decide_true,if_true]
   exact wpS_pure ⟨rfl,_,rfl,by omega,by omega,hs'⟩
 case post=>
  rintro c st' ⟨rfl,n,rfl,m1,m2,hs'⟩
  dsimp only
  rw [if_neg (by omega)]
  refine wpS_bind (wpS_reverse ?_)
  have hsz2:lo+n≤(arrOf st').size:=by omega
  have hp:=mirror_perm (arrOf st') lo (lo+n) ((lo+n - lo) / 2)
  have hk:∀ i,i < n->K (mirror (arrOf st') lo (lo+n) ((lo+n - lo) / 2)) (lo+i)=K (arrOf st') (lo+(n - 1 - i)):=fun i hi=>by
   rw [K_mirror hsz2,if_pos (by omega)]
   congr 1;omega
  have old:∀ i,i < lo->(mirror (arrOf st') lo (lo+n) ((lo+n - lo) / 2))[i]? = (arrOf st')[i]?:=fun i hi=>by
   rw [getElem?_mirror_all hsz2,if_neg (by omega)]
  generalize mirror (arrOf st') lo (lo+n) ((lo+n - lo) / 2)=ys at hp hk old
  have hB':SB a₀ (setArr st' ys):=hB.put hp
  refine asc_loop (st:=setArr st' ys) hB' h0 hn (by omega) m2 (fun i j hij hj=>?_) (fun x n R hR n1 n2=>?_) fun m n1 n2 hs2 _=>?_
  ·show K ys (lo+i)≤K ys (lo+j)
   rw [hk i (by omega),hk j hj]
   exact hs' _ _ (by omega) (by omega)
  ·dsimp only
   refine wpS_bind (wpS_ltB hB' h0 (by omega) (by omega) ?_)
   have:=hR _ rfl
   by_cases hless:K (arrOf (setArr st' ys)) (lo+n) < K (arrOf (setArr st' ys)) (lo+n - 1)
   ·simp only [hless,decide_true,if_true] at this ⊢
    exact wpS_pure this
   ·simp only [hless,decide_false,Bool.false_eq_true,if_false] at this ⊢
    exact wpS_pure this
  ·exact wpS_pure (h m ys hp (by omega) n2 hs2 old)
end
def SoK (xs:Array Keyed) (lo n:Nat):Prop:=∀ i j,i≤j->j < n->K xs (lo+i)≤K xs (lo+j)
section
variable {prog:Program}{w:World}{A:Around}{E:Value->Shared->Prop}{s:Shared}{a₀:Array Keyed}
theorem wpS_binarySortL {st:SortSt}{lo n ok:Nat}{Q:Bool->SortSt->Prop}(hB:SB a₀ st) (h0:IntKeys a₀) (hn:lo+n≤a₀.size) (hok:ok≤n) (hs:SoK (arrOf st) lo ok)
  (h:∀ xs,xs.Perm (arrOf st)->SoK xs lo n->(∀ i,i < lo->xs[i]? = (arrOf st)[i]?)->Q true (setArr st xs)):wpS (model prog w) A E s (binarySort' lo n ok) Q st:=by
 rw [binarySort'_eq]
 dsimp only
 refine wpS_bind (wpS_mono (wpS_forRange (I:=fun k c st'=>c=(none,())∧∃ xs:Array Keyed,st'=setArr st xs∧xs.Perm (arrOf st)∧SoK xs lo (min k n)∧∀ i,i < lo->xs[i]? = (arrOf st)[i]?)
  (Q:=fun c st'=>c=(none,())∧∃ xs:Array Keyed,st'=setArr st xs∧xs.Perm (arrOf st)∧SoK xs lo n∧∀ i,i < lo->xs[i]? = (arrOf st)[i]?) ?step ?fin ?init) ?post)
 case post=>
  rintro c st' ⟨rfl,xs,rfl,p,so,old⟩
  exact wpS_pure (h xs p so old)
 case init=>
  refine ⟨rfl,_,rfl,Array.Perm.refl _,fun i j hij hj=>?_,fun _ _=>rfl⟩
  by_cases h1:ok=0
  ·have:i=j:=by omega
   subst this;exact Int.le_refl _
  ·exact hs i j hij (by omega)
 case fin=>
  rintro c st' ⟨hc,xs,e,p,so,old⟩
  refine ⟨hc,xs,e,p,?_,old⟩
  rwa [show min (max (max ok 1) n) n=n by omega] at so
 case step=>
  rintro k c st' hak hkn ⟨rfl,xs,rfl,p,so,old⟩
  rw [show min k n=k by omega] at so
  have hB':SB a₀ (setArr st xs):=hB.put p
  have hk:lo+k < a₀.size:=by omega
  refine wpS_bind (wpS_mono (wpS_forRange (I:=fun x c st''=>st''=setArr st xs∧∃ l r,c=(none,l,r)∧l≤r∧r≤k∧r - l≤k - x ∧
    (∀ i,i < l->K xs (lo+i)≤K xs (lo+k))∧(∀ i,r≤i->i < k->K xs (lo+k) < K xs (lo+i)))
   (Q:=fun c st''=>st''=setArr st xs∧∃ l r,c=(none,l,r)∧l≤k ∧
    (∀ i,i < l->K xs (lo+i)≤K xs (lo+k))∧(∀ i,l≤i->i < k->K xs (lo+k) < K xs (lo+i))) ?istep ?ifin ?iinit) ?ipost)
  case iinit=>exact ⟨rfl,0,k,rfl,by omega,by omega,by omega,fun i hi=>by omega,fun i h1 h2=>by omega⟩
  case ifin=>
   rintro c st'' ⟨rfl,l,r,rfl,hlr,hrk,hm,hlo,hhi⟩
   have:l=r:=by omega
   subst this
   exact ⟨rfl,l,l,rfl,hrk,hlo,hhi⟩
  case istep=>
   rintro x c st'' _ hxk ⟨rfl,l,r,rfl,hlr,hrk,hm,hlo,hhi⟩
   dsimp only
   by_cases hge:l ≥ r
   ·rw [if_pos hge]
    have:l=r:=by omega
    subst this
    exact wpS_pure ⟨rfl,l,l,rfl,hrk,hlo,hhi⟩
   ·rw [if_neg hge]
    refine wpS_bind (wpS_ltB hB' h0 hk (by omega) ?_)
    by_cases hless:K xs (lo+k) < K xs (lo+(l+r) / 2)
    ·have e:K (arrOf (setArr st xs)) (lo+k) < K (arrOf (setArr st xs)) (lo+(l+r) / 2):=hless
     simp only [e,decide_true,if_true]
     refine wpS_pure ⟨rfl,l,(l+r) / 2,rfl,by omega,by omega,by omega,hlo,fun i h1 h2=>?_⟩
     exact Int.lt_of_lt_of_le hless (so _ _ h1 h2)
    ·have e:¬ K (arrOf (setArr st xs)) (lo+k) < K (arrOf (setArr st xs)) (lo+(l+r) / 2):=hless
     simp only [e,decide_false,Bool.false_eq_true,if_false]
     refine wpS_pure ⟨rfl,(l+r) / 2+1,r,rfl,by omega,by omega,by omega,fun i h1=>?_,hhi⟩
     exact Int.le_trans (so i ((l+r) / 2) (by omega) (by omega)) (Int.not_lt.mp hless)
  case ipost=>
   rintro c st'' ⟨rfl,l,r,rfl,hlk,hlo,hhi⟩
   dsimp only
   rw [moveDown'_eq]
   have hks:lo+k < xs.size:=by rw [p.size_eq,hB.size];exact hk
   refine wpS_bind (wpS_modify (wpS_pure ⟨rfl,bubble xs (lo+k) (lo+k - (lo+l)),rfl,(bubble_perm _ _ _).trans p,?_,fun i hi=>?_⟩))
   ·rw [show min (k+1) n=k+1 by omega]
    intro i j hij hj
    rw [K_bubble hks (by omega),K_bubble hks (by omega),show lo+k - (lo+k - (lo+l))=lo+l by omega]
    have c1:∀ i,0 < i->lo+i - 1=lo+(i - 1):=fun i h=>by omega
    repeat' split
    all_goals first
     | (exfalso;omega)
     | exact Int.le_refl _
     | exact hlo _ (by omega)
     | exact Int.le_of_lt (hhi _ (by omega) (by omega))
     | exact so _ _ (by omega) (by omega)
     | (rw [c1 j (by omega)];exact Int.le_of_lt (hhi _ (by omega) (by omega)))
     | (rw [c1 i (by omega),c1 j (by omega)];exact so _ _ (by omega) (by omega))
     | (rw [c1 j (by omega)];exact so _ _ (by omega) (by omega))
     | (rw [c1 i (by omega)];exact so _ _ (by omega) (by omega))
   ·rw [getElem?_bubble hks _ (by omega),if_neg (by omega),if_neg (by omega)]
    exact old i hi
end
theorem mergeAt'_eq (i:Nat):mergeAt' i=(do
 let s ←get
 let (some (sa,na,power),some (sb,nb,_)):=((pendingOf s)[i]?,(pendingOf s)[i+1]?)|unsupported "internal:list.sort.pending"
 set (setPending s (((pendingOf s).setIfInBounds i (sa,na+nb,power)).eraseIdxIfInBounds (i+1)))
 let some k ←gallop' false (←elem' (arrOf s) sb) (arrOf s) sa na 0|return false
 let (sa,na):=(sa+k,na - k)
 if na == 0 then return true
 let some nb ←gallop' true (←elem' (arrOf s) (sa+na - 1)) (arrOf s) sb nb (nb - 1)|return false
 if nb == 0 then return true
 let x:=(arrOf s).extract sa sb
 let y:=(arrOf s).extract sb (sb+nb)
 let merged ←if na≤nb then mergeLo' x y else mergeHi' x y
 modify fun s=>setArr s (merged.toList.zipIdx.foldl (fun a (p,j)=>a.setIfInBounds (sa+j) p) (arrOf s))
 return (failedOf (←get)).isNone):=rfl
theorem soL_of {xs:Array Keyed}{lo n:Nat}(h:SoK xs lo n):SoL ((xs.toList.drop lo).take n):=by
 refine List.pairwise_iff_getElem.mpr fun i j hi hj hij=>?_
 have hi':=hi
 have hj':=hj
 rw [List.length_take,List.length_drop] at hi' hj'
 have:=h i j (Nat.le_of_lt hij) (by omega)
 rw [K_at (by rw [Array.length_toList] at hj';omega),K_at (by rw [Array.length_toList] at hj';omega)] at this
 simp only [List.getElem_take,List.getElem_drop,Array.getElem_toList]
 exact this
theorem soK_of {xs:Array Keyed}{P M S:List Keyed}{lo n:Nat}(e:xs.toList=P++M++S) (hP:P.length=lo) (hM:M.length=n) (h:SoL M):SoK xs lo n:=by
 intro i j hij hj
 have g:∀ i,i < n->∃ h:i < M.length,K xs (lo+i)=kp M[i]:=fun i hi=>⟨by omega,K_of (by
  rw [e,List.append_assoc,List.getElem?_append_right (by omega),List.getElem?_append_left (by omega),show lo+i - P.length=i by omega,List.getElem?_eq_getElem])⟩
 obtain ⟨a1,a2⟩:=g i (by omega)
 obtain ⟨b1,b2⟩:=g j hj
 rw [a2,b2]
 rcases Nat.lt_or_ge i j with l|l
 ·exact List.pairwise_iff_getElem.mp h i j a1 b1 l
 ·have:i=j:=by omega
  subst this;exact Int.le_refl _
theorem soK_join {xs:Array Keyed}{sa na nb:Nat}(h1:SoK xs sa na) (h2:SoK xs (sa+na) nb) (h:0 < na->0 < nb->K xs (sa+na - 1)≤K xs (sa+na)):SoK xs sa (na+nb):=by
 intro i j hij hj
 by_cases c1:j < na
 ·exact h1 i j hij c1
 ·by_cases c2:i < na
  ·have a:=h1 i (na - 1) (by omega) (by omega)
   have b:=h2 0 (j - na) (by omega) (by omega)
   have c:=h (by omega) (by omega)
   rw [show sa+(na - 1)=sa+na - 1 by omega] at a
   rw [show sa+na+(j - na)=sa+j by omega,Nat.add_zero] at b
   omega
  ·have b:=h2 (i - na) (j - na) (by omega) (by omega)
   rwa [show sa+na+(j - na)=sa+j by omega,show sa+na+(i - na)=sa+i by omega] at b
theorem put_all:∀ (l:List Keyed) (xs:Array Keyed) (lo j0:Nat),lo+j0+l.length≤xs.size->((l.zipIdx j0).foldl (fun a (q:Keyed × Nat)=>a.setIfInBounds (lo+q.2) q.1) xs).toList=xs.toList.take (lo+j0)++l++xs.toList.drop (lo+j0+l.length)
 | [],xs,lo,j0,_=>by simp
 | x::l,xs,lo,j0,h=>by
  rw [List.length_cons] at h
  rw [List.zipIdx_cons,List.foldl_cons,put_all l _ lo (j0+1) (by rw [Array.size_setIfInBounds];omega)]
  rw [Array.toList_setIfInBounds]
  have hl:lo+j0 < xs.toList.length:=by rw [Array.length_toList];omega
  rw [List.length_cons,show lo+(j0+1)=lo+j0+1 by omega,show lo+j0+(l.length+1)=lo+j0+1+l.length by omega]
  show (xs.toList.set (lo+j0) x).take _++l++(xs.toList.set (lo+j0) x).drop _=_
  rw [List.set_eq_take_append_cons_drop,if_pos hl]
  have e1:(xs.toList.take (lo+j0)++[x]).length=lo+j0+1:=by rw [List.length_append,List.length_take];show min _ _+1=_;omega
  rw [show xs.toList.take (lo+j0)++x::xs.toList.drop (lo+j0+1)=(xs.toList.take (lo+j0)++[x])++xs.toList.drop (lo+j0+1) by simp]
  rw [List.take_left' e1,List.drop_append,e1,List.drop_eq_nil_of_le (by rw [e1];omega),List.drop_drop,show lo+j0+1+l.length - (lo+j0+1)=l.length by omega]
  simp
section
variable {prog:Program}{w:World}{A:Around}{E:Value->Shared->Prop}{s:Shared}{a₀:Array Keyed}
theorem wpS_set {σ:Type}{M:Model}{st st2:σ}{Q:PUnit->σ->Prop}(h:Q ⟨⟩ st2):wpS M A E s (set st2:StateT σ Sem PUnit) Q st:=by
 unfold wpS;rw [StateT.run_set];exact wpAny_pure ⟨rfl,h⟩
theorem wpS_mergeAt {st:SortSt}{i sa na pw sb nb pw2:Nat}{Q:Bool->SortSt->Prop}(hk:kindOf st=oneType') (hf:failedOf st=none) (hints:∀ p∈(arrOf st).toList,IntP p)
  (e1:(pendingOf st)[i]? = some (sa,na,pw)) (e2:(pendingOf st)[i+1]? = some (sb,nb,pw2)) (hs:sb=sa+na) (hna:1≤na) (hnb:1≤nb) (hsz:sb+nb≤(arrOf st).size)
  (s1:SoK (arrOf st) sa na) (s2:SoK (arrOf st) sb nb)
  (h:∀ (xs:Array Keyed) g,xs.Perm (arrOf st)->SoK xs sa (na+nb)->(∀ j,j < sa∨sa+na+nb≤j->xs[j]? = (arrOf st)[j]?)->Q true (SortSt.mk' oneType' xs (((pendingOf st).setIfInBounds i (sa,na+nb,pw)).eraseIdxIfInBounds (i+1)) g none)) :
  wpS (model prog w) A E s (mergeAt' i) Q st:=by
 rw [mergeAt'_eq]
 refine wpS_bind (wpS_get ?_)
 rw [e1,e2]
 dsimp only
 refine wpS_bind (wpS_set ?_)
 refine wpS_bind (wpS_elem (show sb < (arrOf st).size by omega) ?_)
 have hk':kindOf (setPending st (((pendingOf st).setIfInBounds i (sa,na+nb,pw)).eraseIdxIfInBounds (i+1)))=oneType':=hk
 have same:Q true (SortSt.mk' oneType' (arrOf st) (((pendingOf st).setIfInBounds i (sa,na+nb,pw)).eraseIdxIfInBounds (i+1)) (gallopOf st) none)->Q true (setPending st (((pendingOf st).setIfInBounds i (sa,na+nb,pw)).eraseIdxIfInBounds (i+1))):=fun q=>by
  have e:setPending st (((pendingOf st).setIfInBounds i (sa,na+nb,pw)).eraseIdxIfInBounds (i+1))=SortSt.mk' oneType' (arrOf st) (((pendingOf st).setIfInBounds i (sa,na+nb,pw)).eraseIdxIfInBounds (i+1)) (gallopOf st) none:=by
   show SortSt.mk' (kindOf st) _ _ _ (failedOf st)=_
   rw [hk,hf]
  rw [e];exact q
 refine wpS_bind (wpS_galF hk' (hints _ (by simp)) hints (by omega) (by omega) s1 fun k k1 k2 k3=>?_)
 dsimp only
 subst hs
 by_cases c1:na - k=0
 ·rw [if_pos (by simpa using c1)]
  refine wpS_pure (same (h _ _ (Array.Perm.refl _) (soK_join s1 s2 fun _ _=>?_) fun _ _=>rfl))
  have:=k2 (na - 1) (by omega)
  rw [←K_at,show sa+(na - 1)=sa+na - 1 by omega] at this
  exact this
 rw [if_neg (by simpa using c1)]
 have hl:sa+k+(na - k) - 1=sa+na - 1:=by omega
 rw [hl]
 refine wpS_bind (wpS_elem (show sa+na - 1 < (arrOf st).size by omega) ?_)
 refine wpS_bind (wpS_galT hk' (hints _ (by simp)) hints hsz (by omega) s2 fun q q1 q2 q3=>?_)
 dsimp only
 by_cases c2:q=0
 ·rw [if_pos (by simpa using c2)]
  refine wpS_pure (same (h _ _ (Array.Perm.refl _) (soK_join s1 s2 fun _ _=>?_) fun _ _=>rfl))
  have:=q3 0 (by omega) (by omega)
  rw [←K_at,Nat.add_zero] at this
  exact this
 rw [if_neg (by simpa using c2)]
 have key1:=k3 k (Nat.le_refl _) (by omega)
 rw [←K_at] at key1
 generalize hx:(arrOf st).extract (sa+k) (sa+na)=x
 generalize hy:(arrOf st).extract (sa+na) (sa+na+q)=y
 have ex:x.toList=((arrOf st).toList.drop (sa+k)).take (na - k):=by rw [←hx,←ex1];congr 2;omega
 have ey:y.toList=((arrOf st).toList.drop (sa+na)).take q:=by rw [←hy,ex1]
 have lx:x.size=na - k:=by rw [←Array.length_toList,ex,List.length_take,List.length_drop,Array.length_toList];omega
 have ly:y.size=q:=by rw [←Array.length_toList,ey,List.length_take,List.length_drop,Array.length_toList];omega
 have kx:∀ j,j < na - k->K x j=K (arrOf st) (sa+k+j):=fun j hj=>by
  refine K_congr ?_
  rw [←hx,Array.getElem?_extract,if_pos (by omega)]
 have ky:∀ j,j < q->K y j=K (arrOf st) (sa+na+j):=fun j hj=>by
  refine K_congr ?_
  rw [←hy,Array.getElem?_extract,if_pos (by omega)]
 have sx:SoL x.toList:=by
  rw [ex]
  refine soL_of fun a b hab hb=>?_
  have:=s1 (k+a) (k+b) (by omega) (by omega)
  rwa [←Nat.add_assoc,←Nat.add_assoc] at this
 have sy:SoL y.toList:=by rw [ey];exact soL_of fun a b hab hb=>s2 a b hab (by omega)
 have ix:∀ p∈x.toList,IntP p:=fun p hp=>by rw [ex] at hp;exact hints p (List.mem_of_mem_drop (List.mem_of_mem_take hp))
 have iy:∀ p∈y.toList,IntP p:=fun p hp=>by rw [ey] at hp;exact hints p (List.mem_of_mem_drop (List.mem_of_mem_take hp))
 have mem_x:∀ p∈x.toList,∃ j,j < na - k∧K (arrOf st) (sa+k+j)=kp p:=fun p hp=>by
  rw [ex] at hp
  obtain ⟨j,h1,h2⟩:=mem_seg hp
  exact ⟨j,h1,K_of h2⟩
 have mem_y:∀ p∈y.toList,∃ j,j < q∧K (arrOf st) (sa+na+j)=kp p:=fun p hp=>by
  rw [ey] at hp
  obtain ⟨j,h1,h2⟩:=mem_seg hp
  exact ⟨j,h1,K_of h2⟩
 have lasty:∀ j,j < q->K (arrOf st) (sa+na+j) < K (arrOf st) (sa+na - 1):=fun j hj=>by
  have:=q2 j hj
  rwa [←K_at] at this
 have post:∀ (merged:Array Keyed) g,Good x y merged->wpS (model prog w) A E s (do
   modify fun s=>setArr s (merged.toList.zipIdx.foldl (fun a (p,j)=>a.setIfInBounds (sa+k+j) p) (arrOf s))
   let __do_lift ←get
   pure (failedOf __do_lift).isNone) Q (setMin (setPending st (((pendingOf st).setIfInBounds i (sa,na+nb,pw)).eraseIdxIfInBounds (i+1))) g):=fun merged g ⟨gp,gs⟩=>by
  refine wpS_bind (wpS_modify (wpS_bind (wpS_get (wpS_pure ?_))))
  have lm:merged.toList.length=na - k+q:=by rw [gp.length_eq,List.length_append,Array.length_toList,Array.length_toList,lx,ly]
  have pa:=put_all merged.toList (arrOf st) (sa+k) 0 (by rw [lm];omega)
  rw [lm,Nat.add_zero] at pa
  have hfin:(failedOf st).isNone=true:=by rw [hf];rfl
  show Q (failedOf st).isNone (SortSt.mk' (kindOf st) _ _ _ (failedOf st))
  rw [hfin,hk,hf]
  show Q true (SortSt.mk' oneType' (merged.toList.zipIdx.foldl (fun a (q:Keyed × Nat)=>a.setIfInBounds (sa+k+q.2) q.1) (arrOf st)) _ _ _)
  generalize merged.toList.zipIdx.foldl (fun a (q:Keyed × Nat)=>a.setIfInBounds (sa+k+q.2) q.1) (arrOf st)=zs at pa
  have tot:(arrOf st).toList=(arrOf st).toList.take (sa+k)++(x.toList++y.toList)++(arrOf st).toList.drop (sa+k+(na - k+q)):=by
   have t1:=List.take_append_drop (sa+k) (arrOf st).toList
   have t2:=List.take_append_drop (na - k) ((arrOf st).toList.drop (sa+k))
   have t3:=List.take_append_drop q ((arrOf st).toList.drop (sa+na))
   rw [List.drop_drop,show sa+k+(na - k)=sa+na by omega,←ex] at t2
   rw [List.drop_drop,←ey] at t3
   rw [show sa+k+(na - k+q)=sa+na+q by omega]
   rw [List.append_assoc,List.append_assoc,t3,t2,t1]
  have hp:zs.Perm (arrOf st):=by
   refine Array.perm_iff_toList_perm.mpr ?_
   rw [pa]
   refine List.Perm.trans ?_ (List.Perm.of_eq tot.symm)
   exact (gp.append_left _).append_right _
  refine h zs g hp ?_ fun j hj=>?_
  ·have lz:(arrOf st).toList.length=(arrOf st).size:=Array.length_toList
   have f1:(arrOf st).toList.take (sa+k)=(arrOf st).toList.take sa++((arrOf st).toList.drop sa).take k:=List.take_add
   have f2:(arrOf st).toList.drop (sa+k+(na - k+q))=((arrOf st).toList.drop (sa+na+q)).take (nb - q)++(arrOf st).toList.drop (sa+na+nb):=by
    rw [show sa+k+(na - k+q)=sa+na+q by omega]
    have:=List.take_append_drop (nb - q) ((arrOf st).toList.drop (sa+na+q))
    rw [List.drop_drop,show sa+na+q+(nb - q)=sa+na+nb by omega] at this
    exact this.symm
   rw [f1,f2] at pa
   have pa2:zs.toList=(arrOf st).toList.take sa++(((arrOf st).toList.drop sa).take k++merged.toList++((arrOf st).toList.drop (sa+na+q)).take (nb - q))++(arrOf st).toList.drop (sa+na+nb):=by
    rw [pa];simp only [List.append_assoc]
   refine soK_of pa2 (by rw [List.length_take];omega) (by rw [List.length_append,List.length_append,lm,List.length_take,List.length_take,List.length_drop,List.length_drop];omega) ?_
   have mem_a:∀ p∈((arrOf st).toList.drop sa).take k,∃ j,j < k∧K (arrOf st) (sa+j)=kp p:=fun p hp=>by
    obtain ⟨j,h1,h2⟩:=mem_seg hp
    exact ⟨j,h1,K_of h2⟩
   have mem_b:∀ p∈((arrOf st).toList.drop (sa+na+q)).take (nb - q),∃ j,q≤j∧j < nb∧K (arrOf st) (sa+na+j)=kp p:=fun p hp=>by
    obtain ⟨j,h1,h2⟩:=mem_seg hp
    exact ⟨q+j,by omega,by omega,by rw [←Nat.add_assoc];exact K_of h2⟩
   have mem_m:∀ p∈merged.toList,(∃ j,j < na - k∧K (arrOf st) (sa+k+j)=kp p)∨∃ j,j < q∧K (arrOf st) (sa+na+j)=kp p:=fun p hp=>
    (List.mem_append.mp (gp.mem_iff.mp hp)).elim (fun h=>.inl (mem_x p h)) fun h=>.inr (mem_y p h)
   have aLow:∀ j,j < k->K (arrOf st) (sa+j)≤K (arrOf st) (sa+na):=fun j hj=>by
    have:=k2 j hj
    rwa [←K_at] at this
   have bHigh:∀ j,q≤j->j < nb->K (arrOf st) (sa+na - 1)≤K (arrOf st) (sa+na+j):=fun j h1 h2=>by
    have:=q3 j h1 h2
    rwa [←K_at] at this
   refine SoL.app (SoL.app (soL_of fun a b hab hb=>s1 a b hab (by omega)) gs fun p hp p' hp'=>?_) (soL_of fun a b hab hb=>?_) (LeL.app (fun p hp p' hp'=>?_) fun p hp p' hp'=>?_)
   ·obtain ⟨j,j1,j2⟩:=mem_a p hp
    rw [←j2]
    rcases mem_m p' hp' with ⟨j',a1,a2⟩|⟨j',a1,a2⟩
    ·rw [←a2]
     have:=s1 j (k+j') (by omega) (by omega)
     rwa [←Nat.add_assoc] at this
    ·rw [←a2]
     have t1:=aLow j j1
     have t2:=s2 0 j' (by omega) (by omega)
     rw [Nat.add_zero] at t2
     omega
   ·have:=s2 (q+a) (q+b) (by omega) (by omega)
    rwa [←Nat.add_assoc,←Nat.add_assoc] at this
   ·obtain ⟨j,j1,j2⟩:=mem_a p hp
    obtain ⟨j',a1,a2,a3⟩:=mem_b p' hp'
    rw [←j2,←a3]
    have t1:=aLow j j1
    have t2:=s2 0 j' (by omega) (by omega)
    rw [Nat.add_zero] at t2
    omega
   ·obtain ⟨j',a1,a2,a3⟩:=mem_b p' hp'
    rw [←a3]
    rcases mem_m p hp with ⟨j,b1,b2⟩|⟨j,b1,b2⟩
    ·rw [←b2]
     have t1:=bHigh j' a1 a2
     have t2:=s1 (k+j) (na - 1) (by omega) (by omega)
     rw [←Nat.add_assoc,show sa+(na - 1)=sa+na - 1 by omega] at t2
     omega
    ·rw [←b2]
     exact s2 j j' (by omega) (by omega)
  ·rw [←Array.getElem?_toList,←Array.getElem?_toList,pa]
   have lz:(arrOf st).toList.length=(arrOf st).size:=Array.length_toList
   have l1:((arrOf st).toList.take (sa+k)).length=sa+k:=by rw [List.length_take];omega
   rcases hj with hj|hj
   ·rw [List.append_assoc,List.getElem?_append_left (by omega),List.getElem?_take,if_pos (by omega)]
   ·rw [List.getElem?_append_right (by rw [List.length_append,l1,lm];omega),List.getElem?_drop,List.length_append,l1,lm]
    congr 1;omega
 by_cases c3:na - k≤q
 ·rw [if_pos c3]
  refine wpS_bind (wpS_mergeLo hk' sx sy ix iy (by omega) (by omega) ?_ (fun p hp j hj hjs=>?_) post)
  ·rw [←K_at,←K_at,kx 0 (by omega),ky 0 (by omega),Nat.add_zero,Nat.add_zero]
   exact Int.le_of_lt key1
  ·rw [←K_at,kx j (by omega)]
   obtain ⟨j',a1,a2⟩:=mem_y p hp
   rw [←a2,show sa+k+j=sa+na - 1 by omega]
   exact Int.le_of_lt (lasty j' a1)
 ·rw [if_neg c3]
  refine wpS_bind (wpS_mergeHi hk' sx sy ix iy (by omega) (by omega) (fun p hp=>?_) ?_ post)
  ·rw [←K_at,ky 0 (by omega),Nat.add_zero]
   obtain ⟨j',a1,a2⟩:=mem_x p hp
   rw [←a2]
   have t:=s1 k (k+j') (by omega) (by omega)
   rw [←Nat.add_assoc] at t
   omega
  ·rw [←K_at,←K_at,kx _ (by omega),ky _ (by omega),show sa+k+(x.size - 1)=sa+na - 1 by omega]
   exact Int.le_of_lt (lasty _ (by omega))
end
abbrev Pd:=Nat × Nat × Nat
def Chn (xs:Array Keyed):Nat->List Pd->Nat->Prop
 | s,[],lo=>s=lo
 | s,q::ps,lo=>q.1=s∧1≤q.2.1∧SoK xs s q.2.1∧Chn xs (s+q.2.1) ps lo
theorem Chn.app {xs:Array Keyed}:∀ {P R:List Pd}{s lo:Nat},Chn xs s (P++R) lo->∃ m,Chn xs s P m∧Chn xs m R lo
 | [],R,s,lo,h=>⟨s,rfl,h⟩
 | q::P,R,s,lo,⟨h1,h2,h3,h4⟩=>by
  obtain ⟨m,a,b⟩:=Chn.app (P:=P) h4
  exact ⟨m,⟨h1,h2,h3,a⟩,b⟩
theorem Chn.join {xs:Array Keyed}:∀ {P R:List Pd}{s m lo:Nat},Chn xs s P m->Chn xs m R lo->Chn xs s (P++R) lo
 | [],R,s,m,lo,h,h'=>by cases h;exact h'
 | q::P,R,s,m,lo,⟨h1,h2,h3,h4⟩,h'=>⟨h1,h2,h3,Chn.join (P:=P) h4 h'⟩
theorem Chn.le {xs:Array Keyed}:∀ {P:List Pd}{s lo:Nat},Chn xs s P lo->s+P.length≤lo
 | [],s,lo,h=>by cases h;exact Nat.le_refl _
 | q::P,s,lo,⟨h1,h2,h3,h4⟩=>by have:=Chn.le (P:=P) h4;rw [List.length_cons];omega
theorem SoK.same {xs ys:Array Keyed}{s n:Nat}(h:SoK xs s n) (e:∀ j,s≤j->j < s+n->ys[j]? = xs[j]?):SoK ys s n:=fun i j hij hj=>by
 rw [K_congr (e (s+i) (by omega) (by omega)),K_congr (e (s+j) (by omega) (by omega))]
 exact h i j hij hj
theorem Chn.same {xs ys:Array Keyed}:∀ {P:List Pd}{s lo:Nat},Chn xs s P lo->(∀ j,s≤j->j < lo->ys[j]? = xs[j]?)->Chn ys s P lo
 | [],s,lo,h,_=>h
 | q::P,s,lo,⟨h1,h2,h3,h4⟩,e=>by
  have:=Chn.le (P:=P) h4
  exact ⟨h1,h2,h3.same fun j a b=>e j a (by omega),Chn.same (P:=P) h4 fun j a b=>e j (by omega) b⟩
theorem Chn.map {xs:Array Keyed}:∀ {P R:List Pd}{s lo:Nat},Chn xs s P lo->P.map (fun q=>(q.1,q.2.1))=R.map (fun q=>(q.1,q.2.1))->Chn xs s R lo
 | [],[],s,lo,h,_=>h
 | q::P,[],s,lo,h,e=>by cases e
 | [],q::P,s,lo,h,e=>by cases e
 | q::P,r::R,s,lo,⟨h1,h2,h3,h4⟩,e=>by
  rw [List.map_cons,List.map_cons] at e
  injection e with e1 e2
  injection e1 with e3 e4
  exact ⟨e3 ▸ h1,e4 ▸ h2,e4 ▸ h3,Chn.map (P:=P) (e4 ▸ h4) e2⟩
theorem split2 {α:Type}:∀ {l:List α}{i:Nat},i+1 < l.length->∃ P a b R,l=P++a::b::R∧P.length=i
 | [],i,h=>by simp at h
 | [a],i,h=>by simp at h
 | a::b::R,0,h=>⟨[],a,b,R,rfl,rfl⟩
 | a::b::R,i+1,h=>by
  obtain ⟨P,x,y,S,e,l⟩:=split2 (l:=b::R) (i:=i) (by simpa using h)
  exact ⟨a::P,x,y,S,by rw [e];rfl,by rw [List.length_cons,l]⟩
theorem modify_map {P:List Pd}{f:Pd->Pd}(hf:∀ q,((f q).1,(f q).2.1)=(q.1,q.2.1)):∀ i,(P.modify i f).map (fun q=>(q.1,q.2.1))=P.map (fun q=>(q.1,q.2.1)):=by
 induction P with
 | nil=>intro i;cases i<;>rfl
 | cons q P ih=>
  intro i
  cases i with
  | zero=>simp [hf q]
  | succ i=>simp [ih i]
theorem pend_upd {pend:Array Pd}{P R:List Pd}{a b v:Pd}{i:Nat}(e:pend.toList=P++a::b::R) (hi:P.length=i):((pend.setIfInBounds i v).eraseIdxIfInBounds (i+1)).toList=P++v::R:=by
 have hs:pend.size=P.length+R.length+2:=by rw [←Array.length_toList,e];simp;omega
 rw [Array.eraseIdxIfInBounds,dif_pos (by rw [Array.size_setIfInBounds];omega),Array.toList_eraseIdx,Array.toList_setIfInBounds,e]
 subst hi
 rw [List.set_append_right _ _ (Nat.le_refl _),Nat.sub_self,List.eraseIdx_append_of_length_le (by omega)]
 rw [show P.length+1 - P.length=1 by omega]
 rfl
section
variable {prog:Program}{w:World}{A:Around}{E:Value->Shared->Prop}{s:Shared}{a₀:Array Keyed}
def Rn (a₀:Array Keyed) (st:SortSt) (lo:Nat):Prop:=kindOf st=oneType'∧failedOf st=none∧(arrOf st).Perm a₀∧Chn (arrOf st) 0 (pendingOf st).toList lo∧lo≤a₀.size
theorem wpS_mergeRn {st:SortSt}{lo i:Nat}{Q:Bool->SortSt->Prop}(h0:IntKeys a₀) (r:Rn a₀ st lo) (hi:i+1 < (pendingOf st).size)
  (h:∀ st',Rn a₀ st' lo->(pendingOf st').size+1=(pendingOf st).size->(∀ j,lo≤j->(arrOf st')[j]? = (arrOf st)[j]?)->Q true st'):wpS (model prog w) A E s (mergeAt' i) Q st:=by
 obtain ⟨rk,rf,rp,rc,rl⟩:=r
 obtain ⟨P,a,b,R,e,hl⟩:=split2 (l:=(pendingOf st).toList) (i:=i) (by rw [Array.length_toList];exact hi)
 rw [e] at rc
 obtain ⟨m,c1,c2⟩:=rc.app
 obtain ⟨a1,a2,a3,b1,b2,b3,c3⟩:=c2
 have hle:=c3.le
 have g1:(pendingOf st)[i]? = some a:=by rw [←Array.getElem?_toList,e,←hl,List.getElem?_append_right (Nat.le_refl _),Nat.sub_self];rfl
 have g2:(pendingOf st)[i+1]? = some b:=by rw [←Array.getElem?_toList,e,←hl,List.getElem?_append_right (by omega),show P.length+1 - P.length=1 by omega];rfl
 obtain ⟨sa,na,pw⟩:=a
 obtain ⟨sb,nb,pw2⟩:=b
 dsimp only at a1 a2 a3 b1 b2 b3 c3 hle
 subst a1
 subst b1
 have hsz:(arrOf st).size=a₀.size:=rp.size_eq
 have hints:∀ p∈(arrOf st).toList,IntP p:=fun p hp=>h0 p ((Array.perm_iff_toList_perm.mp rp).mem_iff.mp hp)
 refine wpS_mergeAt rk rf hints g1 g2 rfl a2 b2 (by omega) a3 b3 fun xs g hp so old=>?_
 refine h _ ⟨rfl,rfl,hp.trans rp,?_,rl⟩ ?_ fun j hj=>old j (.inr (by omega))
 ·show Chn xs 0 (Array.toList _) lo
  rw [pend_upd e hl]
  refine (c1.same fun j _ hj=>old j (.inl hj)).join ⟨rfl,by show 1≤na+nb;omega,so,?_⟩
  show Chn xs (sa+(na+nb)) R lo
  rw [←Nat.add_assoc]
  exact c3.same fun j hj _=>old j (.inr hj)
 ·show (Array.size _)+1=_
  rw [←Array.length_toList,pend_upd e hl,←Array.length_toList,e]
  simp
  omega
theorem Rn.push {st:SortSt}{lo n:Nat}(r:Rn a₀ st lo) (so:SoK (arrOf st) lo n) (h1:1≤n) (h2:lo+n≤a₀.size):Rn a₀ (setPending st ((pendingOf st).push (lo,n,0))) (lo+n):=by
 refine ⟨r.1,r.2.1,r.2.2.1,?_,h2⟩
 show Chn (arrOf st) 0 ((pendingOf st).push (lo,n,0)).toList (lo+n)
 rw [Array.toList_push]
 exact r.2.2.2.1.join ⟨rfl,h1,so,rfl⟩
theorem Rn.mod {st:SortSt}{lo i:Nat}{f:Pd->Pd}(r:Rn a₀ st lo) (hf:∀ q,((f q).1,(f q).2.1)=(q.1,q.2.1)):Rn a₀ (setPending st ((pendingOf st).modify i f)) lo:=by
 refine ⟨r.1,r.2.1,r.2.2.1,?_,r.2.2.2.2⟩
 show Chn (arrOf st) 0 ((pendingOf st).modify i f).toList lo
 rw [Array.toList_modify]
 exact r.2.2.2.1.map (modify_map hf i).symm
theorem wpS_sortRunsA {st:SortSt}{Q:Unit->SortSt->Prop}(h0:IntKeys a₀) (hB:SBase a₀ st) (h2:2≤a₀.size) (hd:(a₀.toList.map kp).Nodup)
  (h:∀ st',(arrOf st').Perm a₀->failedOf st'=none->SortedTo (arrOf st') a₀.size->Q () st'):wpS (model prog w) A E s sortRuns' Q st:=by
 rw [sortRuns'_eq]
 refine wpS_bind (wpS_get ?_)
 dsimp only
 simp only [hB.size]
 generalize minRun' a₀.size a₀.size 0=mr
 refine wpS_bind (wpS_mono (wpS_forRange
  (I:=fun x c st'=>∃ lo,c=(none,lo)∧x≤lo∧Rn a₀ st' lo)
  (Q:=fun c st'=>c=(none,a₀.size)∧Rn a₀ st' a₀.size) ?step ?fin ⟨0,rfl,Nat.le_refl _,hB.kind,hB.failed,hB.perm,by rw [hB.pend];rfl,Nat.zero_le _⟩) ?post)
 case fin=>
  rintro c st' ⟨lo,rfl,hx,r⟩
  have:lo=a₀.size:=by have:=r.2.2.2.2;omega
  subst this
  exact ⟨rfl,r⟩
 case step=>
  rintro x c st' _ hx ⟨lo,rfl,hxl,r⟩
  dsimp only
  by_cases hge:lo ≥ a₀.size
  ·rw [if_pos hge]
   have:lo=a₀.size:=by have:=r.2.2.2.2;omega
   subst this
   exact wpS_pure ⟨rfl,r⟩
  rw [if_neg hge]
  have rsz:(arrOf st').size=a₀.size:=r.2.2.1.size_eq
  have hB':SB a₀ st':=⟨r.2.2.1,r.1,r.2.1⟩
  refine wpS_bind (wpS_countRunL hB' h0 (dsK_of r.2.2.1 hd) (by omega) (by omega) fun m xs hp m1 m2 so old=>?_)
  have r2:Rn a₀ (setArr st' xs) lo:=⟨r.1,r.2.1,hp.trans r.2.2.1,r.2.2.2.1.same fun j _ hj=>old j hj,r.2.2.2.2⟩
  dsimp only
  by_cases hlt:m < mr
  ·rw [if_pos hlt]
   refine wpS_bind (wpS_lift (wpAny_rule ⟨rfl,?_⟩))
   have hB2:SB a₀ (setArr st' xs):=⟨r2.2.2.1,r2.1,r2.2.1⟩
   refine wpS_bind (wpS_binarySortL hB2 h0 (by omega) (by omega) so fun ys hp2 so2 old2=>?_)
   replace r2:Rn a₀ (setArr st' ys) lo:=⟨r.1,r.2.1,hp2.trans (hp.trans r.2.2.1),r.2.2.2.1.same fun j _ hj=>(old2 j hj).trans (old j hj),r.2.2.2.2⟩
   replace so2:SoK (arrOf (setArr st' ys)) lo (min (a₀.size - lo) mr):=so2
   simp only [Bool.not_true,Bool.false_eq_true,if_false]
   refine wpS_bind (wpS_get ?_)
   cases hb:(pendingOf (setArr (setArr st' xs) ys)).back? with
   | none=>exact wpS_bind (wpS_modify (wpS_pure ⟨_,rfl,by omega,r2.push so2 (by omega) (by omega)⟩))
   | some q=>
    obtain ⟨s1,n1,p1⟩:=q
    dsimp only
    refine wpS_bind (wpS_mono (wpS_forRange (I:=fun x c st3=>c=(none,())∧Rn a₀ st3 lo∧SoK (arrOf st3) lo (min (a₀.size - lo) mr)) (Q:=fun c st3=>c=(none,())∧Rn a₀ st3 lo∧SoK (arrOf st3) lo (min (a₀.size - lo) mr)) ?istep (fun _ _ hh=>hh) ⟨rfl,r2,so2⟩) ?ipost)
    case istep=>
     rintro x3 c3 st3 _ _ ⟨rfl,r3,so3⟩
     refine wpS_bind (wpS_get ?_)
     by_cases h1:(pendingOf st3).size > 1
     ·rw [if_pos h1,getElem?_pos (pendingOf st3) ((pendingOf st3).size - 2) (by omega)]
      generalize (pendingOf st3)[(pendingOf st3).size - 2]=q3
      obtain ⟨u1,u2,older⟩:=q3
      dsimp only
      split
      ·exact wpS_pure ⟨rfl,r3,so3⟩
      ·exact wpS_bind (wpS_mergeRn h0 r3 (by omega) fun st4 r4 _ old=>wpS_pure ⟨rfl,r4,so3.same fun j hj _=>old j hj⟩)
     ·rw [if_neg h1]
      exact wpS_pure ⟨rfl,r3,so3⟩
    case ipost=>
     rintro c3 st3 ⟨rfl,r3,so3⟩
     dsimp only
     refine wpS_bind (wpS_modify (wpS_bind (wpS_modify (wpS_pure ⟨_,rfl,by omega,Rn.push (r3.mod fun q=>rfl) so3 (by omega) (by omega)⟩))))
  ·rw [if_neg hlt]
   have so2:SoK (arrOf (setArr st' xs)) lo m:=so
   refine wpS_bind (wpS_get ?_)
   cases hb:(pendingOf (setArr st' xs)).back? with
   | none=>exact wpS_bind (wpS_modify (wpS_pure ⟨_,rfl,by omega,r2.push so2 (by omega) (by omega)⟩))
   | some q=>
    obtain ⟨s1,n1,p1⟩:=q
    dsimp only
    refine wpS_bind (wpS_mono (wpS_forRange (I:=fun x c st3=>c=(none,())∧Rn a₀ st3 lo∧SoK (arrOf st3) lo m) (Q:=fun c st3=>c=(none,())∧Rn a₀ st3 lo∧SoK (arrOf st3) lo m) ?istep (fun _ _ hh=>hh) ⟨rfl,r2,so2⟩) ?ipost)
    case istep=>
     rintro x3 c3 st3 _ _ ⟨rfl,r3,so3⟩
     refine wpS_bind (wpS_get ?_)
     by_cases h1:(pendingOf st3).size > 1
     ·rw [if_pos h1,getElem?_pos (pendingOf st3) ((pendingOf st3).size - 2) (by omega)]
      generalize (pendingOf st3)[(pendingOf st3).size - 2]=q3
      obtain ⟨u1,u2,older⟩:=q3
      dsimp only
      split
      ·exact wpS_pure ⟨rfl,r3,so3⟩
      ·exact wpS_bind (wpS_mergeRn h0 r3 (by omega) fun st4 r4 _ old=>wpS_pure ⟨rfl,r4,so3.same fun j hj _=>old j hj⟩)
     ·rw [if_neg h1]
      exact wpS_pure ⟨rfl,r3,so3⟩
    case ipost=>
     rintro c3 st3 ⟨rfl,r3,so3⟩
     dsimp only
     refine wpS_bind (wpS_modify (wpS_bind (wpS_modify (wpS_pure ⟨_,rfl,by omega,Rn.push (r3.mod fun q=>rfl) so3 (by omega) (by omega)⟩))))
 case post=>
  rintro c st' ⟨rfl,r⟩
  dsimp only
  refine wpS_bind (wpS_mono (wpS_forRange (I:=fun x c st''=>c=(none,())∧Rn a₀ st'' a₀.size∧((pendingOf st'').size≤1∨(pendingOf st'').size+x≤a₀.size+1)) (Q:=fun c st''=>c=(none,())∧Rn a₀ st'' a₀.size∧(pendingOf st'').size≤1) ?step ?fin ⟨rfl,r,.inr ?init⟩) ?post)
  case init=>
   have:=r.2.2.2.1.le
   rw [Array.length_toList] at this
   omega
  case fin=>
   rintro c st'' ⟨hc,r,hh⟩
   exact ⟨hc,r,by omega⟩
  case step=>
   rintro x c st'' _ _ ⟨rfl,r,hh⟩
   refine wpS_bind (wpS_get ?_)
   by_cases hle:(pendingOf st'').size≤1
   ·rw [if_pos hle]
    exact wpS_pure ⟨rfl,r,hle⟩
   rw [if_neg hle]
   refine wpS_bind (wpS_mergeRn h0 r ?_ fun st4 r4 h4 _=>wpS_pure ⟨rfl,r4,by omega⟩)
   (repeat' split)<;>omega
  case post=>
   rintro c st'' ⟨rfl,r,hle⟩
   refine wpS_pure (h _ r.2.2.1 r.2.1 ?_)
   have rc:=r.2.2.2.1
   generalize hL:(pendingOf st'').toList=L at rc
   have:L.length≤1:=by rw [←hL,Array.length_toList];exact hle
   match L,rc,this with
   | [],rc,_=>have:0=a₀.size:=rc;omega
   | [q],⟨e1,e2,e3,e4⟩,_=>
    have e4':0+q.2.1=a₀.size:=e4
    intro i j hij hj
    have:=e3 i j hij (by omega)
    rwa [Nat.zero_add,Nat.zero_add] at this
   | _::_::_,_,h=>simp at h
end
section
variable {prog:Program}{w:World}{A:Around}{E:Value->Shared->Prop}{s:Shared}
theorem list_sort_treeA {a:Addr}{vs:List Value}{ns:List Int}{n:Nat}{P:Fin->Shared->Prop}(ho:s.heap.get? a=some (seqObj "list" vs.toArray n))
  (hI:IntsAre vs ns) (hz:vs.length≤sizeLine) (hE:ns.Nodup)
  (h:∀ (out:Array Value) (ns':List Int),IntsAre out.toList ns'->ns'.Perm ns->ns'.Pairwise (·≤·)->P (.done (.ret .none)) { s with heap:=sortedHeap s.heap a vs out }) :
  wpAny (model prog w) A (Builtin.«list.sort» ⟨[.ref a],[]⟩) P E s:=by
 rw [list_sort_plain]
 have ha:a < s.heap.objs.size:=Heap.lt_size ho
 refine wpAny_bind (listItems_at ho rfl ?_)
 refine wpAny_bind (listUpdate_at ho rfl ?_ (by simpa using hz) (Nat.zero_le _))
 obtain ⟨e1,ho1⟩:∃ e1,(s.heap.update a (Obj.mapSeq fun _=>#[])).get? a=some (seqObj "list" #[] e1):=⟨_,get?_update_seq ho (fun _=>#[])⟩
 refine wpAny_bind (seqEpoch_at ho1 rfl ?_)
 refine wpAny_bind (wpAny_newTuple ?_ (by simpa using hz))
 refine wpAny_bind (wpAny_newList ?_ (Nat.zero_le _))
 refine wpAny_holding ?_
 have ho6:(((s.heap.update a (Obj.mapSeq fun _=>#[])).push (seqObj "tuple" vs.toArray 0)).push (seqObj "list" #[] 0)).get? a=some (seqObj "list" #[] e1):=by
  rw [Heap.get?_push_ne _ _ _ (by rw [size_push',Heap.size_update];exact Nat.ne_of_lt (Nat.lt_succ_of_lt ha)),Heap.get?_push_ne _ _ _ (by rw [Heap.size_update];exact Nat.ne_of_lt ha)]
  exact ho1
 show wpAny (model prog w) A _ P E { s with heap:=((s.heap.update a (Obj.mapSeq fun _=>#[])).push (seqObj "tuple" vs.toArray 0)).push (seqObj "list" #[] 0) }
 dsimp only
 have hsz:vs.toArray.size=vs.length:=by simp
 have fin:∀ st':SortSt,(arrOf st').Perm (pairsOf vs)->SortedTo (arrOf st') (pairsOf vs).size →
   P (.done (.ret .none)) { s with heap:=sortedHeap s.heap a vs ((arrOf st').map (·.2)) }:=by
  intro st' hp hs
  obtain ⟨ns',h1,h2,h3⟩:=sorted_out hI hp hs
  exact h _ ns' h1 h2 h3
 by_cases h2:vs.toArray.size < 2
 ·rw [if_pos h2,if_pos h2]
  refine wpAny_bind (wpAny_pure ?_)
  rw [StateT.run_pure]
  refine wpAny_bind (wpAny_pure ?_)
  dsimp only
  refine wpAny_bind (seqEpoch_at ho6 rfl ?_)
  refine wpAny_bind (listUpdate_at ho6 rfl ?_ (Nat.zero_le _) (hsz2:=by rw [Array.size_map];show (pairsOf vs).size≤_;rw [pairsOf_size];omega))
  simp only [bne_self_eq_false,Bool.false_eq_true,if_false]
  refine wpAny_pure (fin (SortSt.mk' general' (vs.toArray.zip vs.toArray) #[] 7 none) (Array.Perm.refl _) ?_)
  intro i j hij hj
  have:i=j:=by rw [pairsOf_size] at hj;omega
  subst this;exact Int.le_refl _
 ·rw [if_neg h2,if_neg h2]
  obtain ⟨v₁,v₂,rest,rfl⟩:∃ v₁ v₂ rest,vs=v₁::v₂::rest:=by
   match vs,hsz,h2 with
   | [],_,h2=>simp at h2
   | [_],_,h2=>simp at h2
   | v₁::v₂::rest,_,_=>exact ⟨v₁,v₂,rest,rfl⟩
  rw [keyKind_ints hI]
  refine wpAny_bind (wpAny_pure ?_)
  have hnum:(pairsOf (v₁::v₂::rest)).toList.map (fun p=>numOf p.1)=ns:=by
   rw [pairsOf_toList]
   have e:∀ l:List Value,(l.zip l).map (fun p=>numOf p.1)=l.map numOf:=fun l=>by
    have:(l.zip l).map (fun p=>numOf p.1)=((l.zip l).map Prod.fst).map numOf:=by rw [List.map_map];rfl
    rw [this,List.map_fst_zip (Nat.le_refl _)]
   rw [e]
   exact hI.nums
  refine wpAny_bind (wpAny_mono (wpS_sortRunsA (a₀:=pairsOf (v₁::v₂::rest)) (st:=SortSt.mk' oneType' ((v₁::v₂::rest).toArray.zip (v₁::v₂::rest).toArray) #[] 7 none)
   (Q:=fun _ st'=>(arrOf st').Perm (pairsOf (v₁::v₂::rest))∧failedOf st'=none∧SortedTo (arrOf st') (pairsOf (v₁::v₂::rest)).size)
   hI.intKeys ⟨Array.Perm.refl _,rfl,rfl,rfl⟩ (by rw [pairsOf_size];simp) (by rw [show (pairsOf (v₁::v₂::rest)).toList.map kp=ns from hnum];exact hE) fun st' a1 a2 a3=>⟨a1,a2,a3⟩) ?_ fun _ _ e=>e)
  rintro ⟨⟨⟩,st'⟩ s' ⟨rfl,hp,hf,hs⟩
  dsimp only
  refine wpAny_bind (seqEpoch_at ho6 rfl ?_)
  refine wpAny_bind (listUpdate_at ho6 rfl ?_ (Nat.zero_le _) (hsz2:=by refine Nat.le_trans (Nat.le_of_eq ((Array.size_map ..).trans (hp.size_eq.trans (pairsOf_size _)))) ?_;omega))
  rw [hf]
  simp only [bne_self_eq_false,Bool.false_eq_true,if_false]
  exact wpAny_pure (fin st' hp hs)
end
def qSrtA:List V->Hp->VK->Prop:=fun vs H Q=>∃ p kvs ns,vs=[.ref p]∧H p=some (.dK kvs)∧kvs.map (·.1)=ns.map (Sum.inl:Int->Key)∧ns.length≤sizeLine∧ns.Nodup∧∀ ms:List Int,ms.Perm ns->ms.Pairwise (·≤·)->newK (.lst (ms.map V.int)) H Q
theorem use_srtA {p:Addr}{kvs:List (Key × V)}{ns:List Int}{H:Hp}{Q:VK}(e:H p=some (.dK kvs)) (hk:kvs.map (·.1)=ns.map (Sum.inl:Int->Key)) (hl:ns.length≤sizeLine) (hE:ns.Nodup) (q:∀ ms:List Int,ms.Perm ns->ms.Pairwise (·≤·)->newK (.lst (ms.map V.int)) H Q):qSrtA [.ref p] H Q:=⟨p,kvs,ns,rfl,e,hk,hl,hE,q⟩
section
variable {X:Cx}
theorem call_qSrtA (hc:X.calm=true):CallR X (.builtin "sorted") qSrtA:=by
 intro pins s σ H vs us Q I r h
 obtain ⟨p,kvs,ns,rfl,e,hk,hl,hE,q⟩:=h
 cases r with
 | cons r rr=>
  cases rr
  cases r
  obtain ⟨z,hd,xs,rel,dd⟩:=dk_of I.hok e
  obtain ⟨ep,hat⟩:=dd.dictAt
  have hlen:kvs.length=xs.length:=Paired.length rel
  have hln:xs.length=ns.length:=by rw [←hlen];have:=congrArg List.length hk;simpa using this
  refine Calls.call_function_entry kind_sorted plain_sorted entry_sorted (args_sorted1 _) ?_
  unfold Builtin.«sorted»
  refine wpAny_bind (m:=checkCount "sorted" 1 1 _) (wpAny_pure ?_)
  refine wpAny_bind (PySem.W.kdu_collect (A:=X.A.in1) (PySem.W.kdl_dict (knd:=mixKind X.prog X.w) (kvs:=xs) (ep:=ep) hd) (show X.A.in1.handled=none from I.ok.hd hc) hat (by omega) fun h' tk acc kp hacc=>?_)
  have hal:acc.toList.length=ns.length:=by rw [Array.length_toList,hacc.1,hln]
  have hI:IntsAre acc.toList ns:=by
   refine intsAre_get hal fun i u hu=>?_
   obtain ⟨k,x,hx,hku⟩:=hacc.2 i u (by simpa using hu)
   have hi:i < kvs.length:=by rw [hlen];exact (List.getElem?_eq_some_iff.mp hx).1
   have h1:kvs[i]? = some kvs[i]:=List.getElem?_eq_getElem hi
   obtain ⟨w',hw',rw'⟩:=paired_get rel h1
   rw [hx] at hw'
   cases hw'
   have h2:(kvs.map (·.1))[i]? = some k:=by rw [List.getElem?_map,h1];exact congrArg some rw'.1
   rw [hk,List.getElem?_map] at h2
   obtain ⟨n,hn,rfl⟩:=Option.map_eq_some_iff.mp h2
   rcases keyIs_shape (show keyIs (Sum.inl n) u=true from hku) with ⟨j,t,e1,e2⟩|⟨j,t,e1,e2⟩
   ·cases e1
    exact ⟨n,t,hn,e2⟩
   ·cases e1
  refine wpAny_bind (wpAny_newList ?_ (by rw [hal];exact hl))
  have hoL:(h'.push (seqObj "list" acc.toList.toArray 0)).get? h'.objs.size=some (seqObj "list" acc.toList.toArray 0):=Heap.get?_push_size _ rfl
  refine wpAny_bind (wpAny_holding (wpAny_call_entry slot_list_sort ⟨_,hoL,rfl⟩ entry_list_sort (list_sort_treeA hoL hI (by rw [hal];exact hl) hE fun out ns' a1 a2 a3=>⟨_,rfl,?_⟩) (args_list_sort _)))
  refine wpAny_pure ⟨_,rfl,?_⟩
  have I2:Inv X pins σ H { s with heap:=h',toks:=tk }:=I.kept (t':=tk) kp
  have fr:=I2.hok.fresh (Nat.le_refl _)
  obtain ⟨e',he'⟩:=sortedHeap_at (out:=out) hoL
  refine ⟨.ref h'.objs.size,_,I2.laid (t':=tk) (h':=sortedHeap (h'.push (seqObj "list" acc.toList.toArray 0)) h'.objs.size acc.toList out) (o:=.lst (ns'.map V.int)) (fun b u hb=>?_) (Nat.le_refl _) ⟨?_,out.toList,e',vals_of_ints a1,?_⟩,rfl,q ns' a2 a3 _ _ fr (Ext.new fr) upd_same⟩
  ·have hb':h'.get? b=some u:=hb
   have hlt:=Heap.lt_size hb'
   rw [sortedHeap_old (Nat.ne_of_lt hlt) (by rw [size_push'];exact Nat.lt_succ_of_lt hlt)]
   exact Heap.get?_push_of_some _ hb'
  ·rw [List.length_map,a2.length_eq];exact hl
  ·rw [Array.toArray_toList];exact he'
end
end L2
set_option Elab.async false
set_option linter.all false
set_option maxRecDepth 100000
set_option maxHeartbeats 4000000
namespace L2
open PySem PySem.Spec PyProof.Rows
section
variable {X:Cx}
end
end L2
namespace PH
def prodL:List Int->Int
 | []=>1
 | n::r=>n * prodL r
theorem prodL_append:∀ ns ms:List Int,prodL (ns++ms)=prodL ns * prodL ms
 | [],ms=>by simp [prodL]
 | n::r,ms=>by simp only [List.cons_append,prodL,prodL_append r ms,Int.mul_assoc]
theorem prodL_take (ns:List Int) (i:Nat) (z:Int) (h:ns[i]? = some z):prodL (ns.take (i+1))=prodL (ns.take i) * z:=by
 rw [List.take_add_one,h,prodL_append]
 simp [prodL]
def InR:List Int->List Int->Prop
 | [],[]=>True
 | n::r,x::xs=>(0≤x∧x < n)∧InR r xs
 | _,_=>False
end PH
namespace PH
open PySem L2
def vi:V->Int
 | .int i=>i
 | _=>0
end PH
namespace PH
end PH
namespace PH
open PySem L2
theorem filt {α:Type}(l:List α):(l.filter fun _=>true)=l:=List.filter_eq_self.mpr fun _ _=>rfl
end PH
namespace PH
open PySem L2
def keptA (a:Int × Int):Int × Int:=(a.1,if a.1 > 1 then a.2 else 0)
def axL (axs:List (Int × Int)):List (List Int):=axs.map fun a=>[a.1,a.2]
def leastL (axs:List (Int × Int)):Int:=(axs.map fun a=>min 0 ((a.1 - 1) * a.2)).sum
def greatL (axs:List (Int × Int)):Int:=(axs.map fun a=>max 0 ((a.1 - 1) * a.2)).sum
def Axes (axs:List (Int × Int)):Prop:=axs.length≤8∧∀ a∈axs,1≤a.1∧a.1≤1000000000
structure ViewOk (room first:Int) (axs:List (Int × Int)):Prop where
 ax:Axes axs
 r1:1≤room
 r2:room≤1000000000000000000
 lo:0≤first+leastL (axs.map keptA)
 hi:first+greatL (axs.map keptA) < room
theorem Axes.kept {axs:List (Int × Int)}(h:Axes axs):Axes (axs.map keptA):=⟨by rw [List.length_map];exact h.1,fun a ha=>by
 obtain ⟨b,hb,rfl⟩:=List.mem_map.mp ha
 exact h.2 b hb⟩
def viewF (room first:Int) (l:Addr):List (Str × V):=putF "axes" (.ref l) (putF "first" (.int first) (putF "room" (.int room) []))
theorem ne_ra:¬ (("room":Str) = "axes"):=by decide +kernel
theorem ne_rf:¬ (("room":Str) = "first"):=by decide +kernel
theorem ne_fa:¬ (("first":Str) = "axes"):=by decide +kernel
theorem viewF_room (room first:Int) (l:Addr):(viewF room first l).lookup ("room":Str)=some (.int room):=by
 unfold viewF
 rw [lookup_putF,if_neg ne_ra,lookup_putF,if_neg ne_rf,lookup_putF,if_pos rfl]
theorem viewF_first (room first:Int) (l:Addr):(viewF room first l).lookup ("first":Str)=some (.int first):=by
 unfold viewF
 rw [lookup_putF,if_neg ne_fa,lookup_putF,if_pos rfl]
theorem viewF_axes (room first:Int) (l:Addr):(viewF room first l).lookup ("axes":Str)=some (.ref l):=by
 unfold viewF
 rw [lookup_putF,if_pos rfl]
theorem viewF_no (room first:Int) (l:Addr){m:Str}(h1:¬ m = "axes") (h2:¬ m = "first") (h3:¬ m = "room"):(viewF room first l).lookup m=none:=by
 unfold viewF
 rw [lookup_putF,if_neg h1,lookup_putF,if_neg h2,lookup_putF,if_neg h3]
 rfl
end PH
namespace PH
open PySem L2
theorem prodL_one:∀ ns:List Int,(∀ n∈ns,(1:Int)≤n)->1≤prodL ns
 | [],_=>by simp [prodL]
 | n::ns,h=>by
  have h1:=h n List.mem_cons_self
  have h2:=prodL_one ns fun m hm=>h m (List.mem_cons_of_mem _ hm)
  show 1≤n * prodL ns
  have:=Int.mul_le_mul h1 h2 (by decide) (by omega)
  omega
theorem leastL_cons (a:Int × Int) (l:List (Int × Int)):leastL (a::l)=min 0 ((a.1 - 1) * a.2)+leastL l:=by unfold leastL;simp
theorem greatL_cons (a:Int × Int) (l:List (Int × Int)):greatL (a::l)=max 0 ((a.1 - 1) * a.2)+greatL l:=by unfold greatL;simp
end PH
namespace PH
open PySem L2
end PH
namespace PH
def dotL (xs ps:List Int):Int:=(List.zipWith (fun x p=>x * p) xs ps).sum
theorem prodL_take_le (ns:List Int) (h:∀ n∈ns,(1:Int)≤n) (i:Nat):prodL (ns.take i)≤prodL ns:=by
 have e:prodL ns=prodL (ns.take i) * prodL (ns.drop i):=by rw [←prodL_append,List.take_append_drop]
 have a:=prodL_one (ns.take i) fun n hn=>h n (List.mem_of_mem_take hn)
 have b:=prodL_one (ns.drop i) fun n hn=>h n (List.mem_of_mem_drop hn)
 rw [e]
 have:=Int.mul_le_mul_of_nonneg_left b (show 0≤prodL (ns.take i) by omega)
 omega
def wideL (cs:List Int) (a:Int × Int):List Int:=cs.flatMap fun c=>(List.range a.1.toNat).map fun (n:Nat)=>c+(n:Int) * a.2
def cellsL (first:Int) (axs:List (Int × Int)):List Int:=axs.foldl wideL [first]
theorem wideL_len (cs:List Int) (a:Int × Int):(wideL cs a).length=cs.length * a.1.toNat:=by
 unfold wideL
 induction cs with
 | nil=>simp
 | cons c r ih=>rw [List.flatMap_cons,List.length_append,ih,List.length_map,List.length_range,List.length_cons,Nat.add_mul];omega
theorem cellsL_snoc (first:Int) (axs:List (Int × Int)) (a:Int × Int):cellsL first (axs++[a])=wideL (cellsL first axs) a:=by
 unfold cellsL;rw [List.foldl_append];rfl
theorem foldW_len:∀ (axs:List (Int × Int)) (cs:List Int),(∀ a∈axs,(1:Int)≤a.1)->((axs.foldl wideL cs).length:Int)=cs.length * prodL (axs.map fun a=>a.1)
 | [],cs,_=>by simp [prodL]
 | a::r,cs,h=>by
  have ha:=h a List.mem_cons_self
  rw [List.foldl_cons,foldW_len r (wideL cs a) fun b hb=>h b (List.mem_cons_of_mem _ hb),wideL_len,Int.natCast_mul,Int.toNat_of_nonneg (by omega),Int.mul_assoc]
  rfl
theorem cellsL_len (first:Int) (axs:List (Int × Int)) (h:∀ a∈axs,(1:Int)≤a.1):((cellsL first axs).length:Int)=prodL (axs.map fun a=>a.1):=by
 unfold cellsL
 rw [foldW_len axs [first] h]
 simp
theorem foldW_mem:∀ (axs:List (Int × Int)) (cs:List Int) (M:Int),M∈axs.foldl wideL cs ↔ ∃ c∈cs,∃ xs,InR (axs.map fun a=>a.1) xs∧M=c+dotL xs (axs.map fun a=>a.2)
 | [],cs,M=>by
  refine ⟨fun h=>⟨M,h,[],trivial,by simp [dotL]⟩,fun ⟨c,hc,xs,hx,e⟩=>?_⟩
  match xs,hx with
  | [],_=>rw [e];simpa [dotL] using hc
 | a::r,cs,M=>by
  rw [List.foldl_cons,foldW_mem r (wideL cs a) M]
  have de:∀ (x:Int) (xs:List Int),dotL (x::xs) ((a::r).map fun a=>a.2)=x * a.2+dotL xs (r.map fun a=>a.2):=fun x xs=>by
   unfold dotL;rw [List.map_cons,List.zipWith_cons_cons,List.sum_cons]
  constructor
  ·rintro ⟨c,hc,xs,hx,e⟩
   unfold wideL at hc
   obtain ⟨c0,hc0,hc1⟩:=List.mem_flatMap.mp hc
   obtain ⟨n,hn,rfl⟩:=List.mem_map.mp hc1
   have hn':=List.mem_range.mp hn
   refine ⟨c0,hc0,(n:Int)::xs,⟨⟨by omega,?_⟩,hx⟩,by rw [de,e];omega⟩
   show (n:Int) < a.1
   omega
  ·rintro ⟨c,hc,xs,hx,e⟩
   match xs,hx with
   | x::xs,⟨⟨h0,h1⟩,hx⟩=>
    have h1':x < a.1:=h1
    refine ⟨c+x * a.2,?_,xs,hx,by rw [e,de];omega⟩
    unfold wideL
    refine List.mem_flatMap.mpr ⟨c,hc,List.mem_map.mpr ⟨x.toNat,List.mem_range.mpr (by omega),?_⟩⟩
    rw [Int.toNat_of_nonneg h0]
theorem cellsL_mem (first:Int) (axs:List (Int × Int)) (M:Int):M∈cellsL first axs ↔ ∃ xs,InR (axs.map fun a=>a.1) xs∧M=first+dotL xs (axs.map fun a=>a.2):=by
 unfold cellsL
 rw [foldW_mem]
 refine ⟨fun ⟨c,hc,xs,hx,e⟩=>⟨xs,hx,by rw [e,List.mem_singleton.mp hc]⟩,fun ⟨xs,hx,e⟩=>⟨first,List.mem_singleton.mpr rfl,xs,hx,e⟩⟩
end PH
namespace PH
end PH
namespace PH
def gcdL (ns:List Int):Int:=ns.foldl (fun f n=>(Int.gcd f n:Int)) 0
end PH
namespace PH
open L2 PySem
abbrev Tm3:=Int × Int × Int
def lsum (zs:List Tm3) (cs:List (Int × Int)):Int:=((zs.zip cs).map fun p=>p.1.1 * p.2.1).sum
def gsum (zs:List Tm3) (cs:List (Int × Int)):Int:=((zs.zip cs).map fun p=>p.1.1 * p.2.2).sum
def restL (zs:List Tm3) (cs:List (Int × Int)):List Int:=((zs.zip cs).filter fun p=>decide (p.2.1 < p.2.2)).map fun p=>p.1.1
def endedB (g l gr r:Int):Bool:=decide (g < l) || decide (gr < g) || (decide (1 < r) && decide (0 < (g - l) % r))
def ended (zs:List Tm3) (cs:List (Int × Int)) (g:Int):Bool:=endedB g (lsum zs cs) (gsum zs cs) (gcdL (restL zs cs))
structure TmsOk (zs:List Tm3):Prop where
 len:zs.length≤17
 all:∀ z∈zs,(1≤z.1∧z.1≤2000000000000000000)∧(-20000000000≤z.2.1∧z.2.1≤20000000000)∧z.2.1 < z.2.2∧z.2.2≤20000000000
structure CsOk (zs:List Tm3) (cs:List (Int × Int)):Prop where
 len:cs.length=zs.length
 all:∀ p∈zs.zip cs,p.1.2.1≤p.2.1∧p.2.1≤p.2.2∧p.2.2≤p.1.2.2
def trP (z:Tm3) (x:V) (H:Hp):Prop:=∃ q,x=.ref q∧H q=some (.tup [.int z.1,.int z.2.1,.int z.2.2])
theorem trP.ext {z:Tm3}{x:V}{H H':Hp}(h:trP z x H) (e:Ext H H'):trP z x H':=by
 obtain ⟨q,rfl,hq⟩:=h
 exact ⟨q,rfl,e.at hq⟩
def LAt {α:Type}(R:α->V->Hp->Prop) (H:Hp) (p:Addr) (zs:List α):Prop:=∃ ys,H p=some (.lst ys)∧Al (fun z y=>R z y H) zs ys
theorem LAt.ext {α:Type}{R:α->V->Hp->Prop}{H H':Hp}{p:Addr}{zs:List α}(hR:∀ z y H H',R z y H->Ext H H'->R z y H') (h:LAt R H p zs) (e:Ext H H'):LAt R H' p zs:=by
 obtain ⟨ys,hp,al⟩:=h
 exact ⟨ys,e.at hp,al.imp fun _ _ r=>hR _ _ _ _ r e⟩
abbrev TrAt (H:Hp) (p:Addr) (zs:List Tm3):Prop:=LAt trP H p zs
abbrev PrAt (H:Hp) (p:Addr) (cs:List (Int × Int)):Prop:=LAt axP H p cs
theorem tr_ext {H H':Hp}{p:Addr}{zs:List Tm3}(h:TrAt H p zs) (e:Ext H H'):TrAt H' p zs:=LAt.ext (fun _ _ _ _ r e=>r.ext e) h e
theorem pr_ext {H H':Hp}{p:Addr}{zs:List (Int × Int)}(h:PrAt H p zs) (e:Ext H H'):PrAt H' p zs:=LAt.ext (fun _ _ _ _ r e=>r.ext e) h e
theorem al_pr {H:Hp}{zs:List (Int × Int)}{ys:List V}(al:Al (fun z y=>axP z y H) zs ys):Al (TupV H) (zs.map fun z=>[z.1,z.2]) ys:=by
 refine ⟨by rw [al.1,List.length_map],fun i z y hz hy=>?_⟩
 rw [List.getElem?_map] at hz
 obtain ⟨a,ha,rfl⟩:=Option.map_eq_some_iff.mp hz
 exact al.2 i a y ha hy
theorem Al.cons' {α:Type}{R:α->V->Prop}{z:α}{y:V}{zs:List α}{ys:List V}(r:R z y) (h:Al R zs ys):Al R (z::zs) (y::ys):=⟨by simp [h.1],fun i z' y' a b=>by
 cases i with
 | zero=>cases a;cases b;exact r
 | succ n=>exact h.2 n z' y' (by simpa using a) (by simpa using b)⟩
theorem axP.upd {z:Int × Int}{y:V}{H:Hp}{p:Addr}{xs:List V}{o:HO}(h:axP z y H) (hp:H p=some (.lst xs)):axP z y (upd H p o):=by
 obtain ⟨q,rfl,hq⟩:=h
 exact ⟨q,rfl,by rw [upd_ne (fun e=>by rw [e,hp] at hq;cases hq)];exact hq⟩
theorem key_val {B:Int->V->Prop}{kvs:List (Key × V)}{ns:List Int}(h:∀ kv∈kvs,∃ n:Int,kv.1=.inl n∧B n kv.2) (hk:kvs.map (·.1)=ns.map (Sum.inl:Int->Key)){n:Int}(hn:n∈ns):∃ v,valV kvs (.inl n)=some v∧B n v:=by
 cases hv:valV kvs (.inl n) with
 | none=>exact absurd (show (Sum.inl n:Key)∈kvs.map (·.1) by rw [hk];exact List.mem_map.mpr ⟨n,hn,rfl⟩) (L2.valV_not hv)
 | some v=>
  refine ⟨v,rfl,?_⟩
  unfold valV at hv
  obtain ⟨kv,hf,rfl⟩:=Option.map_eq_some_iff.mp hv
  obtain ⟨m,e1,hb⟩:=h kv (List.mem_of_find?_eq_some hf)
  have e2:=List.find?_some hf
  have e3:kv.1=.inl n:=of_decide_eq_true e2
  rw [e1] at e3
  cases e3
  exact hb
end PH
set_option Elab.async false
set_option linter.all false
set_option maxRecDepth 100000
set_option maxHeartbeats 4000000
namespace PH
open PySem L2
def top (i:Nat):Stmt:=PySem.Challenge.pw_pacehall_k51_gathered.main.body.getD i (.Pass ⟨0,0,0,0⟩)
abbrev s_is_whole:Stmt:=top 8
theorem c_is_whole:FnScope ["thing"] ["thing"] (defScope s_is_whole):=⟨rfl,rfl,rfl,by decide +kernel,rfl,by decide +kernel,by decide +kernel⟩
abbrev s_is_number_below:Stmt:=top 10
abbrev s_is_place:Stmt:=top 11
abbrev s_is_within:Stmt:=top 16
theorem c_is_within:FnScope ["thing", "low", "high"] ["thing", "low", "high"] (defScope s_is_within):=⟨rfl,rfl,rfl,by decide +kernel,rfl,by decide +kernel,by decide +kernel⟩
abbrev s_is_size:Stmt:=top 17
theorem c_is_size:FnScope ["thing"] ["thing"] (defScope s_is_size):=⟨rfl,rfl,rfl,by decide +kernel,rfl,by decide +kernel,by decide +kernel⟩
abbrev s_is_axis:Stmt:=top 18
theorem c_is_axis:FnScope ["thing"] ["thing"] (defScope s_is_axis):=⟨rfl,rfl,rfl,by decide +kernel,rfl,by decide +kernel,by decide +kernel⟩
abbrev s_are_axes:Stmt:=top 19
theorem c_are_axes:FnScope ["thing"] ["thing"] (defScope s_are_axes):=⟨rfl,rfl,rfl,by decide +kernel,rfl,by decide +kernel,by decide +kernel⟩
abbrev s_kept_axis:Stmt:=top 20
theorem c_kept_axis:FnScope ["axis"] ["axis"] (defScope s_kept_axis):=⟨rfl,rfl,rfl,by decide +kernel,rfl,by decide +kernel,by decide +kernel⟩
abbrev s_View___init__:Stmt:=inClass (top 21) 0
theorem c_View___init__:FnScope ["self", "room", "first", "axes"] ["self", "room", "first", "axes"] (defScope s_View___init__):=⟨rfl,rfl,rfl,by decide +kernel,rfl,by decide +kernel,by decide +kernel⟩
abbrev s_View_sizes:Stmt:=inClass (top 21) 1
abbrev s_View_paces:Stmt:=inClass (top 21) 2
abbrev s_View_cell:Stmt:=inClass (top 21) 4
abbrev s_View_least:Stmt:=inClass (top 21) 7
theorem c_View_least:FnScope ["self"] ["self"] (defScope s_View_least):=⟨rfl,rfl,rfl,by decide +kernel,rfl,by decide +kernel,by decide +kernel⟩
abbrev s_View_greatest:Stmt:=inClass (top 21) 8
theorem c_View_greatest:FnScope ["self"] ["self"] (defScope s_View_greatest):=⟨rfl,rfl,rfl,by decide +kernel,rfl,by decide +kernel,by decide +kernel⟩
abbrev s_refuse_rooms:Stmt:=top 23
theorem c_refuse_rooms:FnScope ["one", "other"] ["one", "other"] (defScope s_refuse_rooms):=⟨rfl,rfl,rfl,by decide +kernel,rfl,by decide +kernel,by decide +kernel⟩
abbrev s_pulls:Stmt:=top 25
theorem c_pulls:FnScope ["one", "other"] ["one", "other"] (defScope s_pulls):=⟨rfl,rfl,rfl,by decide +kernel,rfl,by decide +kernel,by decide +kernel⟩
abbrev s_gathered:Stmt:=top 26
theorem c_gathered:FnScope ["one", "other", "lows", "highs", "pace", "size", "times", "reach", "terms"] ["one", "other"] (defScope s_gathered):=⟨rfl,rfl,rfl,by decide +kernel,rfl,by decide +kernel,by decide +kernel⟩
abbrev s__law_draw:Stmt:=top 28
theorem c__law_draw:FnScope ["_law_script", "_law_k", "_law_many", "_law_number", "_law_cell"] ["_law_script", "_law_k", "_law_many"] (defScope s__law_draw):=⟨rfl,rfl,rfl,by decide +kernel,rfl,by decide +kernel,by decide +kernel⟩
abbrev s__law_whole:Stmt:=top 29
theorem c__law_whole:FnScope ["_law_found"] ["_law_found"] (defScope s__law_whole):=⟨rfl,rfl,rfl,by decide +kernel,rfl,by decide +kernel,by decide +kernel⟩
abbrev s__law_axes:Stmt:=top 30
theorem c__law_axes:FnScope ["_law_script", "_law_at", "_law_factor", "_law_axes_here", "_law_count", "_law_k", "_law_cell", "_law_size", "_law_pace"] ["_law_script", "_law_at", "_law_factor"] (defScope s__law_axes):=⟨rfl,rfl,rfl,by decide +kernel,rfl,by decide +kernel,by decide +kernel⟩
abbrev s__law_great:Stmt:=top 31
theorem c__law_great:FnScope ["_law_script", "_law_at", "_law_pool", "_law_axes_here", "_law_k", "_law_cell", "_law_size", "_law_most", "_law_wide", "_law_pace", "_law_same"] ["_law_script", "_law_at", "_law_pool"] (defScope s__law_great):=⟨rfl,rfl,rfl,by decide +kernel,rfl,by decide +kernel,by decide +kernel⟩
abbrev s__law_placed:Stmt:=top 32
theorem c__law_placed:FnScope ["_law_one", "_law_other", "_law_goal", "_law_low", "_law_more", "_law_least", "_law_greatest", "_law_first", "_law_room"] ["_law_one", "_law_other", "_law_goal", "_law_low", "_law_more"] (defScope s__law_placed):=⟨rfl,rfl,rfl,by decide +kernel,rfl,by decide +kernel,by decide +kernel⟩
abbrev s__law_terms:Stmt:=top 33
theorem c__law_terms:FnScope ["_law_one", "_law_other", "_law_ranges", "_law_axes_here", "_law_sign", "_law_size", "_law_pace", "_law_low", "_law_high", "_law_found"] ["_law_one", "_law_other"] (defScope s__law_terms):=⟨rfl,rfl,rfl,by decide +kernel,rfl,by decide +kernel,by decide +kernel⟩
abbrev s__law_told:Stmt:=top 34
theorem c__law_told:FnScope ["_law_found", "_law_terms_here", "_law_goal", "_law_term"] ["_law_found", "_law_terms_here", "_law_goal"] (defScope s__law_told):=⟨rfl,rfl,rfl,by decide +kernel,rfl,by decide +kernel,by decide +kernel⟩
abbrev s__law_turned:Stmt:=top 35
theorem c__law_turned:FnScope ["_law_terms_here"] ["_law_terms_here"] (defScope s__law_turned):=⟨rfl,rfl,rfl,by decide +kernel,rfl,by decide +kernel,by decide +kernel⟩
abbrev s__law_sums:Stmt:=top 36
theorem c__law_sums:FnScope ["_law_terms_here", "_law_found", "_law_times", "_law_low", "_law_high", "_law_wider", "_law_one", "_law_number"] ["_law_terms_here"] (defScope s__law_sums):=⟨rfl,rfl,rfl,by decide +kernel,rfl,by decide +kernel,by decide +kernel⟩
abbrev s__law_cells:Stmt:=top 37
theorem c__law_cells:FnScope ["_law_first", "_law_axes_here", "_law_found", "_law_size", "_law_pace", "_law_longer", "_law_cell"] ["_law_first", "_law_axes_here"] (defScope s__law_cells):=⟨rfl,rfl,rfl,by decide +kernel,rfl,by decide +kernel,by decide +kernel⟩
abbrev s__law_differences:Stmt:=top 38
theorem c__law_differences:FnScope ["_law_one", "_law_other", "_law_found", "_law_here", "_law_there"] ["_law_one", "_law_other"] (defScope s__law_differences):=⟨rfl,rfl,rfl,by decide +kernel,rfl,by decide +kernel,by decide +kernel⟩
abbrev s__law_refused:Stmt:=top 39
theorem c__law_refused:FnScope ["_law_one", "_law_other", "e"] ["_law_one", "_law_other"] (defScope s__law_refused):=⟨rfl,rfl,rfl,by decide +kernel,rfl,by decide +kernel,by decide +kernel⟩
abbrev s_law:Stmt:=top 40
theorem c_law:FnScope ["_law_script", "_law_great_here", "_law_one", "_law_other", "_law_goal", "_law_here", "_law_there", "_law_terms_here", "_law_found", "_law_wider"] ["_law_script"] (defScope s_law):=⟨rfl,rfl,rfl,by decide +kernel,rfl,by decide +kernel,by decide +kernel⟩
set_option genInjectivity false in
structure Adr where
 a_PaceError:Addr
 a_NoPlace:Addr
 a_NoView:Addr
 a_NoCount:Addr
 a_NoPair:Addr
 a_View:Addr
 a_is_whole:Addr
 d_is_whole:FuncData
 a_is_number_below:Addr
 d_is_number_below:FuncData
 a_is_place:Addr
 d_is_place:FuncData
 a_is_within:Addr
 d_is_within:FuncData
 a_is_size:Addr
 d_is_size:FuncData
 a_is_axis:Addr
 d_is_axis:FuncData
 a_are_axes:Addr
 d_are_axes:FuncData
 a_kept_axis:Addr
 d_kept_axis:FuncData
 a_View___init__:Addr
 d_View___init__:FuncData
 a_View_sizes:Addr
 d_View_sizes:FuncData
 a_View_paces:Addr
 d_View_paces:FuncData
 a_View_cell:Addr
 d_View_cell:FuncData
 a_View_least:Addr
 d_View_least:FuncData
 a_View_greatest:Addr
 d_View_greatest:FuncData
 a_refuse_rooms:Addr
 d_refuse_rooms:FuncData
 a_pulls:Addr
 d_pulls:FuncData
 a_gathered:Addr
 d_gathered:FuncData
 a__law_draw:Addr
 d__law_draw:FuncData
 a__law_whole:Addr
 d__law_whole:FuncData
 a__law_axes:Addr
 d__law_axes:FuncData
 a__law_great:Addr
 d__law_great:FuncData
 a__law_placed:Addr
 d__law_placed:FuncData
 a__law_terms:Addr
 d__law_terms:FuncData
 a__law_told:Addr
 d__law_told:FuncData
 a__law_turned:Addr
 d__law_turned:FuncData
 a__law_sums:Addr
 d__law_sums:FuncData
 a__law_cells:Addr
 d__law_cells:FuncData
 a__law_differences:Addr
 d__law_differences:FuncData
 a__law_refused:Addr
 d__law_refused:FuncData
 a_law:Addr
 d_law:FuncData
structure Tx (K:PySem.W.Frag) (mg:Str->Option Value) (t:Adr):Prop where
 m_PaceError:mg "PaceError"=some (.ref t.a_PaceError)
 m_NoPlace:mg "NoPlace"=some (.ref t.a_NoPlace)
 m_NoView:mg "NoView"=some (.ref t.a_NoView)
 m_NoCount:mg "NoCount"=some (.ref t.a_NoCount)
 m_NoPair:mg "NoPair"=some (.ref t.a_NoPair)
 m_View:mg "View"=some (.ref t.a_View)
 o_NoPair:PySem.W.excIn K t.a_NoPair [.type "ValueError",.type "Exception",.type "BaseException",.type "object"] "ValueError.__new__"=true
 x_NoPair_PaceError:PySem.W.exmOne K (.ref t.a_NoPair) (.ref t.a_PaceError)=some true
 ocs:PySem.W.specialIn K (.builtin "object.__class__") "__get__"=some (some (.builtin "getset_descriptor.__get__"))
 oct:PySem.W.takesIn K (.builtin "object.__class__")=some true
 ga_NoPair:PySem.W.findIn K (.ref t.a_NoPair) "__getattribute__"=some (some (.builtin "BaseException.__getattribute__"))
 gn_NoPair:PySem.W.findIn K (.ref t.a_NoPair) "__getattr__"=some none
 mb_NoPair:PySem.W.mroIn K t.a_NoPair (.type "BaseException")=some true
 mo_NoPair:PySem.W.mroIn K t.a_NoPair (.type "object")=some true
 fc_NoPair:PySem.W.findIn K (.ref t.a_NoPair) "__class__"=some (some (.builtin "object.__class__"))
 hd_NoPair:PySem.W.hasDictIn K t.a_NoPair=true
 kc_NoPair_NoPair:PySem.W.hasDictIn K t.a_NoPair=true
 kt_NoPair_NoPair:PySem.W.typeIn K (.ref t.a_NoPair)=some (.type "type")
 ks_NoPair_NoPair:PySem.W.subIn K (.ref t.a_NoPair) (.ref t.a_NoPair)=some true
 kc_NoPair_NoView:PySem.W.hasDictIn K t.a_NoView=true
 kt_NoPair_NoView:PySem.W.typeIn K (.ref t.a_NoView)=some (.type "type")
 ks_NoPair_NoView:PySem.W.subIn K (.ref t.a_NoPair) (.ref t.a_NoView)=some false
 kn_NoPair_NoView:(t.a_NoPair == t.a_NoView)=false
 ks_NoPair_ValueError:PySem.W.subIn K (.ref t.a_NoPair) (.type "ValueError")=some true
 kc_NoPair_NoCount:PySem.W.hasDictIn K t.a_NoCount=true
 kt_NoPair_NoCount:PySem.W.typeIn K (.ref t.a_NoCount)=some (.type "type")
 ks_NoPair_NoCount:PySem.W.subIn K (.ref t.a_NoPair) (.ref t.a_NoCount)=some false
 kn_NoPair_NoCount:(t.a_NoPair == t.a_NoCount)=false
 m_MOST_ROOM:∃ tk,mg "MOST_ROOM"=some (.int 1000000000000000000 tk)
 m_MOST_SIZE:∃ tk,mg "MOST_SIZE"=some (.int 1000000000 tk)
 m_MOST_AXES:∃ tk,mg "MOST_AXES"=some (.int 8 tk)
 cl_View:Cls K t.a_View
 na_View_axes:NoAttr K t.a_View "axes"
 na_View_first:NoAttr K t.a_View "first"
 na_View_room:NoAttr K t.a_View "room"
 mk_View:Mk K t.a_View t.a_View___init__
 mt_View_sizes:Meth K t.a_View "sizes" t.a_View_sizes
 mt_View_paces:Meth K t.a_View "paces" t.a_View_paces
 mt_View_cell:Meth K t.a_View "cell" t.a_View_cell
 mt_View_least:Meth K t.a_View "least" t.a_View_least
 mt_View_greatest:Meth K t.a_View "greatest" t.a_View_greatest
 F_is_whole:Fun K "is_whole" "is_whole" s_is_whole t.a_is_whole t.d_is_whole
 m_is_whole:mg "is_whole"=some (.ref t.a_is_whole)
 b_is_whole:Binds K t.d_is_whole ["thing"] []
 F_is_number_below:Fun K "is_number_below" "is_number_below" s_is_number_below t.a_is_number_below t.d_is_number_below
 m_is_number_below:mg "is_number_below"=some (.ref t.a_is_number_below)
 b_is_number_below:Binds K t.d_is_number_below ["thing", "bound"] []
 F_is_place:Fun K "is_place" "is_place" s_is_place t.a_is_place t.d_is_place
 m_is_place:mg "is_place"=some (.ref t.a_is_place)
 b_is_place:Binds K t.d_is_place ["sizes", "thing"] []
 F_is_within:Fun K "is_within" "is_within" s_is_within t.a_is_within t.d_is_within
 m_is_within:mg "is_within"=some (.ref t.a_is_within)
 b_is_within:Binds K t.d_is_within ["thing", "low", "high"] []
 F_is_size:Fun K "is_size" "is_size" s_is_size t.a_is_size t.d_is_size
 m_is_size:mg "is_size"=some (.ref t.a_is_size)
 b_is_size:Binds K t.d_is_size ["thing"] []
 F_is_axis:Fun K "is_axis" "is_axis" s_is_axis t.a_is_axis t.d_is_axis
 m_is_axis:mg "is_axis"=some (.ref t.a_is_axis)
 b_is_axis:Binds K t.d_is_axis ["thing"] []
 F_are_axes:Fun K "are_axes" "are_axes" s_are_axes t.a_are_axes t.d_are_axes
 m_are_axes:mg "are_axes"=some (.ref t.a_are_axes)
 b_are_axes:Binds K t.d_are_axes ["thing"] []
 F_kept_axis:Fun K "kept_axis" "kept_axis" s_kept_axis t.a_kept_axis t.d_kept_axis
 m_kept_axis:mg "kept_axis"=some (.ref t.a_kept_axis)
 b_kept_axis:Binds K t.d_kept_axis ["axis"] []
 F_View___init__:Fun K "__init__" "View.__init__" s_View___init__ t.a_View___init__ t.d_View___init__
 b_View___init__:Binds K t.d_View___init__ ["self", "room", "first", "axes"] []
 F_View_sizes:Fun K "sizes" "View.sizes" s_View_sizes t.a_View_sizes t.d_View_sizes
 b_View_sizes:Binds K t.d_View_sizes ["self"] []
 F_View_paces:Fun K "paces" "View.paces" s_View_paces t.a_View_paces t.d_View_paces
 b_View_paces:Binds K t.d_View_paces ["self"] []
 F_View_cell:Fun K "cell" "View.cell" s_View_cell t.a_View_cell t.d_View_cell
 b_View_cell:Binds K t.d_View_cell ["self", "place"] []
 F_View_least:Fun K "least" "View.least" s_View_least t.a_View_least t.d_View_least
 b_View_least:Binds K t.d_View_least ["self"] []
 F_View_greatest:Fun K "greatest" "View.greatest" s_View_greatest t.a_View_greatest t.d_View_greatest
 b_View_greatest:Binds K t.d_View_greatest ["self"] []
 F_refuse_rooms:Fun K "refuse_rooms" "refuse_rooms" s_refuse_rooms t.a_refuse_rooms t.d_refuse_rooms
 m_refuse_rooms:mg "refuse_rooms"=some (.ref t.a_refuse_rooms)
 b_refuse_rooms:Binds K t.d_refuse_rooms ["one", "other"] []
 F_pulls:Fun K "pulls" "pulls" s_pulls t.a_pulls t.d_pulls
 m_pulls:mg "pulls"=some (.ref t.a_pulls)
 b_pulls:Binds K t.d_pulls ["one", "other"] []
 F_gathered:Fun K "gathered" "gathered" s_gathered t.a_gathered t.d_gathered
 m_gathered:mg "gathered"=some (.ref t.a_gathered)
 b_gathered:Binds K t.d_gathered ["one", "other"] []
 F__law_draw:Fun K "_law_draw" "_law_draw" s__law_draw t.a__law_draw t.d__law_draw
 m__law_draw:mg "_law_draw"=some (.ref t.a__law_draw)
 b__law_draw:Binds K t.d__law_draw ["_law_script", "_law_k", "_law_many"] []
 F__law_whole:Fun K "_law_whole" "_law_whole" s__law_whole t.a__law_whole t.d__law_whole
 m__law_whole:mg "_law_whole"=some (.ref t.a__law_whole)
 b__law_whole:Binds K t.d__law_whole ["_law_found"] []
 F__law_axes:Fun K "_law_axes" "_law_axes" s__law_axes t.a__law_axes t.d__law_axes
 m__law_axes:mg "_law_axes"=some (.ref t.a__law_axes)
 b__law_axes:Binds K t.d__law_axes ["_law_script", "_law_at", "_law_factor"] []
 F__law_great:Fun K "_law_great" "_law_great" s__law_great t.a__law_great t.d__law_great
 m__law_great:mg "_law_great"=some (.ref t.a__law_great)
 b__law_great:Binds K t.d__law_great ["_law_script", "_law_at", "_law_pool"] []
 F__law_placed:Fun K "_law_placed" "_law_placed" s__law_placed t.a__law_placed t.d__law_placed
 m__law_placed:mg "_law_placed"=some (.ref t.a__law_placed)
 b__law_placed:Binds K t.d__law_placed ["_law_one", "_law_other", "_law_goal", "_law_low", "_law_more"] []
 F__law_terms:Fun K "_law_terms" "_law_terms" s__law_terms t.a__law_terms t.d__law_terms
 m__law_terms:mg "_law_terms"=some (.ref t.a__law_terms)
 b__law_terms:Binds K t.d__law_terms ["_law_one", "_law_other"] []
 F__law_told:Fun K "_law_told" "_law_told" s__law_told t.a__law_told t.d__law_told
 m__law_told:mg "_law_told"=some (.ref t.a__law_told)
 b__law_told:Binds K t.d__law_told ["_law_found", "_law_terms_here", "_law_goal"] []
 F__law_turned:Fun K "_law_turned" "_law_turned" s__law_turned t.a__law_turned t.d__law_turned
 m__law_turned:mg "_law_turned"=some (.ref t.a__law_turned)
 b__law_turned:Binds K t.d__law_turned ["_law_terms_here"] []
 F__law_sums:Fun K "_law_sums" "_law_sums" s__law_sums t.a__law_sums t.d__law_sums
 m__law_sums:mg "_law_sums"=some (.ref t.a__law_sums)
 b__law_sums:Binds K t.d__law_sums ["_law_terms_here"] []
 F__law_cells:Fun K "_law_cells" "_law_cells" s__law_cells t.a__law_cells t.d__law_cells
 m__law_cells:mg "_law_cells"=some (.ref t.a__law_cells)
 b__law_cells:Binds K t.d__law_cells ["_law_first", "_law_axes_here"] []
 F__law_differences:Fun K "_law_differences" "_law_differences" s__law_differences t.a__law_differences t.d__law_differences
 m__law_differences:mg "_law_differences"=some (.ref t.a__law_differences)
 b__law_differences:Binds K t.d__law_differences ["_law_one", "_law_other"] []
 F__law_refused:Fun K "_law_refused" "_law_refused" s__law_refused t.a__law_refused t.d__law_refused
 m__law_refused:mg "_law_refused"=some (.ref t.a__law_refused)
 b__law_refused:Binds K t.d__law_refused ["_law_one", "_law_other"] []
 F_law:Fun K "law" "law" s_law t.a_law t.d_law
 m_law:mg "law"=some (.ref t.a_law)
 b_law:Binds K t.d_law ["_law_script"] []
 z_ValueError:mg "ValueError"=none
 z_abs:mg "abs"=none
 z_all:mg "all"=none
 z_bool:mg "bool"=none
 z_int:mg "int"=none
 z_isinstance:mg "isinstance"=none
 z_len:mg "len"=none
 z_list:mg "list"=none
 z_max:mg "max"=none
 z_min:mg "min"=none
 z_range:mg "range"=none
 z_sorted:mg "sorted"=none
 z_sum:mg "sum"=none
 z_tuple:mg "tuple"=none
 z_zip:mg "zip"=none
theorem Tx.e_NoPair {K:PySem.W.Frag}{mg:Str->Option Value}{t:Adr}(T:Tx K mg t):ECls K t.a_NoPair:=⟨T.ga_NoPair,T.gn_NoPair,T.mb_NoPair,T.mo_NoPair,T.fc_NoPair,T.ocs,T.oct,T.hd_NoPair⟩
theorem Tx.k_NoPair_NoPair {K:PySem.W.Frag}{mg:Str->Option Value}{t:Adr}(T:Tx K mg t):PySem.W.kitOne K (.ref t.a_NoPair) (.ref t.a_NoPair)=some true:=kit_yes T.kc_NoPair_NoPair T.kt_NoPair_NoPair T.ks_NoPair_NoPair
theorem Tx.k_NoPair_NoView {K:PySem.W.Frag}{mg:Str->Option Value}{t:Adr}(T:Tx K mg t):PySem.W.kitOne K (.ref t.a_NoPair) (.ref t.a_NoView)=some false:=kit_no T.kn_NoPair_NoView T.kc_NoPair_NoView T.kt_NoPair_NoView T.ks_NoPair_NoView
theorem Tx.k_NoPair_ValueError {K:PySem.W.Frag}{mg:Str->Option Value}{t:Adr}(T:Tx K mg t):PySem.W.kitOne K (.ref t.a_NoPair) (.type "ValueError")=some true:=kit_ty (by decide +kernel) T.ks_NoPair_ValueError
theorem Tx.k_NoPair_NoCount {K:PySem.W.Frag}{mg:Str->Option Value}{t:Adr}(T:Tx K mg t):PySem.W.kitOne K (.ref t.a_NoPair) (.ref t.a_NoCount)=some false:=kit_no T.kn_NoPair_NoCount T.kc_NoPair_NoCount T.kt_NoPair_NoCount T.ks_NoPair_NoCount
local macro_rules | `(tactic| trivial) => `(tactic| first | exact Or.inl rfl | exact Or.inr rfl | exact Or.inr (Or.inl rfl) | exact Or.inr (Or.inr rfl) | assumption)
local macro_rules | `(tactic| simp! only [$xs,*]) => do
  let ys := xs.getElems.map fun x => (⟨x.raw⟩ : Lean.TSyntax `Lean.Parser.Tactic.simpLemma)
  let zs ← ("↓reduceIte ↓optK_some ↓gName_0 ↓gName_1 ↓gName_2 ↓gName_3 ↓gName_4 ↓gName_5 ↓gName_6 ↓gName_7 ↓gName_8 ↓gName_9 ↓gName_10 ↓m_kOp' ↓m_kOp ↓m_tOp ↓m_tC ↓m_kUn ↓m_tUn ↓m_kNot ↓m_tNot ↓m_kAnd ↓m_tAnd ↓m_kOr ↓m_tOr ↓m_kIfE ↓m_tIf ↓m_kCh3 ↓m_tNil ↓m_kCons' ↓m_kCons ↓m_tCons ↓m_kCall_1 ↓m_kCall_2 ↓m_kCall_3 ↓m_kCall_5 ↓m_tCall ↓m_kCB ↓m_tCB ↓m_tNext ↓m_tSeq ↓m_tRet ↓m_kDrop ↓m_tDrop ↓m_kIfS ↓m_tIfS ↓m_kAsg ↓m_tAsg ↓m_kGs ↓m_kLen ↓m_qLen ↓m_kIx' ↓m_kIx ↓m_qIx ↓m_qAbs ↓m_qMax ↓m_qMin ↓m_qIsi_int ↓m_qIsi_bool ↓m_qIsi_tuple ↓m_qIsi_list ↓m_kIsi_Ni ↓m_kIsi_bb ↓m_kIsi_bi ↓m_kIsi_ib ↓m_kIsi_ii ↓m_kIsi_si ↓m_kIsi_li ↓m_kIsi_ll ↓m_kIsi_ti ↓m_kIsi_tt ↓m_kIsi_di ↓m_kBM' ↓m_kBM ↓m_tBM ↓m_kBM0 ↓m_tBM0 ↓m_kApp ↓m_rAppend ↓m_kRev ↓m_rReverse ↓m_kGT ↓m_qGT ↓m_kBody ↓m_tFor ↓m_kR1 ↓m_iRng1 ↓m_kR2 ↓m_iRng2 ↓m_kISq'_l ↓m_kISq'_t ↓m_kISq ↓m_iSeq ↓m_tCallX ↓m_kTry ↓m_tTry ↓m_kRaise ↓m_tRaise ↓m_kSetE ↓m_kExcAs ↓m_tExcAs ↓m_del ↓m_dictO_none ↓m_kE4 ↓m_kE3 ↓m_kE2 ↓m_kE1 ↓m_qIsE ↓m_tYes ↓m_tComp ↓m_kSetC ↓m_tSetC ↓m_datV ↓m_datF_ref ↓m_datO_lst ↓m_allSome_nil ↓m_kEq2_t ↓m_kEq1 ↓m_qEq_refr ↓m_qEq_int_int ↓m_qNe_int_int ↓m_kInts ↓m_kQT ↓m_kQL ↓m_qTup ↓m_qLst ↓m_kN ↓m_nList ↓m_nDNew ↓m_kSumI ↓m_qSum ↓m_kBls ↓m_kAllB ↓m_qAll ↓m_kCm2 ↓m_kCm_1 ↓m_kCm_2 ↓m_rep_1 ↓m_rep_2 ↓m_rep_3 ↓m_kCm_3 ↓m_kFldV ↓m_kFldO ↓m_kFld ↓m_nFld ↓m_kSetO ↓m_kSet1 ↓m_kSet0 ↓m_nSetF ↓m_kMethA_0 ↓m_kMethO ↓m_kMeth ↓m_nMeth ↓m_kMade ↓m_kMake_3 ↓m_nMake ↓m_kCT1 ↓m_nCatT ↓m_kDG0 ↓m_tDGet ↓m_kDP1 ↓m_kDP0 ↓m_sDPut ↓m_tV_0 ↓m_tV_1 ↓m_tV_2 ↓m_tV_3 ↓m_tV_4 ↓m_tV_5 ↓m_tV_6 ↓m_tV_7 ↓m_tV_8 ↓m_tV_9 ↓m_tV_10 ↓m_nI0 ↓m_nI ↓m_nU ↓m_kTestN ↓m_nTest ↓m_kAndN ↓m_nAndV ↓m_kNotN ↓m_nNotV ↓m_kChN2 ↓m_kChN1 ↓m_kChN0 ↓m_nChain ↓m_gNilN ↓m_gConsN ↓m_iDict ↓m_kGE1 ↓m_tDGet2 ↓m_kBK1 ↓m_kBK0 ↓m_tCBK ↓m_sThaw ↓m_kDI1 ↓m_kDI0 ↓m_nDispI optK_some itemsAt lstAt tupAt seqO_lst seqO_tup lstO_lst tupO_tup bind_some' upd_same upd_upd tyO_lst tyO_tup tyN_non tyN_bl tyN_int tyN_str tyN_ref tyV_list isW_int' cx_K refC_ref clsV_ref clsV_ty atI_0 atI_1 eqv_list eqvAll_nil eqvAll_l eqvAll_ints allSome_ints CDiv_eq CMul_l CMul_r CPow_10 Option.isSome_some Option.isSome_none Option.map_some List.length_cons List.length_nil List.length_map List.map_cons List.map_nil and_true true_and and_self implies_true reduceCtorEq decide_true decide_false Bool.not_true Bool.not_false if_true if_false decide_eq_true_eq Bool.false_eq_true Bool.not_eq_true' decide_eq_false_iff_not Bool.and_true Bool.true_and Bool.and_self Bool.and_eq_true Int.reduceToNat Int.reducePow Int.reduceMul Int.reduceAdd Int.reduceSub Int.reduceNeg Int.reduceLT Int.reduceLE Int.reduceEq Int.reduceNe Int.reduceDiv Int.reduceMod Nat.reduceAdd Nat.reduceLeDiff Nat.reduceLT Nat.reduceMul Nat.reducePow gt_iff_lt ge_iff_le ne_eq false_implies true_implies eq_self String.reduceEq Int.cast_ofNat_Int not_true_eq_false not_false_eq_true false_and and_false List.cons_append List.nil_append List.append_nil lenLe".splitOn " ").toArray.mapM fun s => if s.startsWith "↓" then `(Lean.Parser.Tactic.simpLemma| ↓ $(Lean.mkIdent (s.replace "↓" "").toName):ident) else `(Lean.Parser.Tactic.simpLemma| $(Lean.mkIdent s.toName):ident)
  `(tactic| simp (config := { failIfUnchanged := false, maxDischargeDepth := 30, maxSteps := 10000000 }) only [$zs,*, $ys,*, *])
section
variable {P:Program}{w:World}{K:PySem.W.Frag}{mg:Str->Option Value}{base:Heap}{t:Adr}
def spDraw (K:PySem.W.Frag) (a:Addr) (ns:List Int):Sp:=fun vs H Q E=>∃ (k:Int) (m:Int),vs=[.ref a,.int k,.int m]∧(SqL K H a (ns.map V.int)∧ns.length≤63∧(0≤k∧k < 1000)∧0 < m∧∀ z:Int,0≤z->z < m->Q (.int z) H)
theorem c_spDraw (K:PySem.W.Frag) (a:Addr) (ns:List Int) (k:Int) (m:Int) (H:Hp) (Q:VK) (E:XK):spDraw K a ns [.ref a,.int k,.int m] H Q E=(SqL K H a (ns.map V.int)∧ns.length≤63∧(0≤k∧k < 1000)∧0 < m∧∀ z:Int,0≤z->z < m->Q (.int z) H):=spx2 (f:=fun (k:Int) (m:Int)=>[.ref a,.int k,.int m]) (fun _ _ _ _ h=>by cases h;exact ⟨rfl,rfl⟩) k m
theorem l_spDraw (K:PySem.W.Frag) (a:Addr) (ns:List Int){vs:List V}{H:Hp}{Q:VK}{E:XK}(h:spDraw K a ns vs H Q E):vs.length=3:=spl2 h fun _ _=>rfl
theorem ok__law_draw (T:Tx K mg t) (a:Addr) (ns:List Int):FnOk P w K mg base CX0 1 t.a__law_draw t.d__law_draw ["_law_script", "_law_k", "_law_many"] (spDraw K a ns):=by
 refine T.F__law_draw.ok c__law_draw (fun vs H Q E h=>l_spDraw _ _ _ h) (fun cdv A outer s H vs Q E hr h=>?_)
 ·obtain ⟨k,m,rfl,hS,hl,⟨hk0,hk1⟩,hm,kk⟩:=h
  have fin:∀ z:Int,Q (.int (z % m)) H:=fun z=>kk _ (Int.emod_nonneg _ (by omega)) (Int.emod_lt_of_pos _ hm)
  refine ⟨_,(pss_cons (ps_if (pt_cmpR op_lt (pv 1) (pe_callB (id := "len") call_len_seq (by rfl) T.z_len (by decide +kernel) (pa_c (pv 0) pa_nil)) (nomark _))
   (pss_one (ps_ret (pe_op op_mod (pe_ix ix_list (pv 0) (pv 1) (fun _ _=>rfl)) (pv 2))))
   pss_nil)
  (pss_cons (ps_set (i:=3) c__law_draw.nd rfl (Or.inl rfl) (pe_op op_add (pe_op op_mul (pe_op op_mul (pv 1) (pv 1)) pe_int) pe_int))
  (pss_cons (ps_if (pt_cmpR op_gt (pe_callB (id := "len") call_len_seq (by rfl) T.z_len (by decide +kernel) (pa_c (pv 0) pa_nil)) pe_int (nomark _))
   (pss_cons (ps_set (i:=4) c__law_draw.nd rfl (Or.inl rfl) (pe_op op_mod (pe_ix ix_list (pv 0) (pe_op op_mod (pv 1) (pe_callB (id := "len") call_len_seq (by rfl) T.z_len (by decide +kernel) (pa_c (pv 0) pa_nil))) (fun _ _=>rfl)) pe_int))
   (pss_one (ps_set (i:=3) c__law_draw.nd rfl (Or.inl rfl) (pe_op op_add (pe_op op_mul (pv 4) (pe_op op_add pe_int (pe_op op_mul (pe_op op_mul pe_int (pv 1)) (pv 1)))) (pe_op op_mul (pv 1) pe_int)))))
   pss_nil)
  (pss_one (ps_ret (pe_op op_mod (pe_op op_mod (pe_op op_mul (pe_op op_mod (pv 3) pe_int) pe_int) pe_int) (pv 2))))))),?_⟩
  refine ⟨_,rfl,_,rfl,a,_,rfl,.inl hS,_,_,rfl,rfl,_,rfl,?_⟩
  refine ite2 (fun h=>?_) (fun h=>?_)
  ·have h1:k < (ns.length:Int):=by simpa using h
   obtain ⟨z,hz,_⟩:=atI_ints ns k hk0 h1
   exact ⟨_,rfl,_,rfl,a,_,k,_,rfl,rfl,hS,hz,_,rfl,_,_,rfl,rfl,hm,fin _⟩
  ·refine ⟨_,rfl,_,rfl,_,_,rfl,rfl,.inl ⟨by omega,by omega⟩,_,_,rfl,rfl,.inr ⟨by decide,by decide⟩,_,_,rfl,rfl,?_⟩
   refine ⟨_,rfl,a,_,rfl,.inl hS,_,_,rfl,rfl,_,rfl,?_⟩
   refine ite2 (fun h2=>?_) (fun h2=>?_)
   ·have h3:0 < (ns.length:Int):=by simpa using h2
    have h4:(0:Int) < ((ns.map V.int).length:Int):=by simpa using h3
    obtain ⟨z,hz,_⟩:=atI_ints ns (k % ((ns.map V.int).length:Int)) (Int.emod_nonneg _ (by omega)) (by have:=Int.emod_lt_of_pos k h4;simpa using this)
    refine ⟨_,rfl,_,rfl,_,rfl,a,_,rfl,.inl hS,_,_,rfl,rfl,h4,a,_,_,_,rfl,rfl,hS,hz,_,_,rfl,rfl,(by first|decide|(show (0:Int) < _;decide)),?_⟩
    refine ⟨_,rfl,_,rfl,_,_,rfl,rfl,.inl ⟨by decide,by decide⟩,_,rfl,_,_,rfl,rfl,.inr ⟨by omega,by omega⟩,_,_,rfl,rfl,_,_,rfl,rfl,?_,?_⟩
    ·refine .inl ⟨?_,?_⟩
     ·have:=Int.emod_nonneg z (show (999999937:Int) ≠ 0 by decide);omega
     ·have:=Int.emod_lt_of_pos z (show (0:Int) < 999999937 by decide);omega
    refine ⟨_,rfl,_,_,rfl,rfl,.inr ⟨by decide,by decide⟩,_,_,rfl,rfl,?_⟩
    exact ⟨_,rfl,_,_,rfl,rfl,(by first|decide|(show (0:Int) < _;decide)),_,_,rfl,rfl,.inr ⟨by decide,by decide⟩,_,_,rfl,rfl,(by first|decide|(show (0:Int) < _;decide)),_,rfl,_,_,rfl,rfl,hm,fin _⟩
   ·exact ⟨_,rfl,_,_,rfl,rfl,(by first|decide|(show (0:Int) < _;decide)),_,_,rfl,rfl,.inr ⟨by decide,by decide⟩,_,_,rfl,rfl,(by first|decide|(show (0:Int) < _;decide)),_,rfl,_,_,rfl,rfl,hm,fin _⟩
def spWhole  : Sp:=fun vs H Q E=>∃ (x:V),vs=[x]∧(optK (isW H x) (kE4 H Q))
theorem c_spWhole  (x:V) (H:Hp) (Q:VK) (E:XK):spWhole  [x] H Q E=(optK (isW H x) (kE4 H Q)):=spx1 (f:=fun (x:V)=>[x]) (fun _ _ h=>by cases h;exact rfl) x
theorem l_spWhole  {vs:List V}{H:Hp}{Q:VK}{E:XK}(h:spWhole  vs H Q E):vs.length=1:=spl1 h fun _=>rfl
theorem ok__law_whole (T:Tx K mg t):FnOk P w K mg base CX0 1 t.a__law_whole t.d__law_whole ["_law_found"] spWhole:=by
 refine T.F__law_whole.ok c__law_whole (fun vs H Q E h=>l_spWhole h) (fun cdv A outer s H vs Q E hr h=>?_)
 ·obtain ⟨x,rfl,h⟩:=h
  obtain ⟨b,hb,k⟩:=optK_ex h
  clear h
  rw [m_kE4] at k
  refine ⟨_,(@pss_one _ _ _ (@ps_ret _ _ _ _ (@pe_andN _ _ _ _ _ _ _ (@pe_callB _ _ _ _ _ _ _ ("isinstance") _ call_qIsi (by rfl) T.z_isinstance (by decide +kernel) (@pa_c _ _ _ _ _ (@pvN _ 0 _ _ (by rfl) (by trivial) (by decide) (by decide)) (@pa_c _ _ _ _ _ (@pe_bltn _ _ (.ty "int") (.type "int") _ (by rfl) T.z_int (by decide +kernel) rfl (by decide) (by decide)) (@pa_nil _) (by rfl)) (by rfl)) (by decide) (by decide) (by rfl) (by rfl)) (@pe_one _ _ _ _ _ (@pe_notN _ _ _ _ (@pe_callB _ _ _ _ _ _ _ ("isinstance") _ call_qIsi (by rfl) T.z_isinstance (by decide +kernel) (@pa_c _ _ _ _ _ (@pvN _ 0 _ _ (by rfl) (by trivial) (by decide) (by decide)) (@pa_c _ _ _ _ _ (@pe_bltn _ _ (.ty "bool") (.type "bool") _ (by rfl) T.z_bool (by decide +kernel) rfl (by decide) (by decide)) (@pa_nil _) (by rfl)) (by rfl)) (by decide) (by decide) (by rfl) (by rfl))))))),?_⟩
  rw [show start ["_law_found"] [x]=[some (x)] from rfl]
  cases x with
  | int i=>cases hb;simp! only [and_true]
  | bl i=>cases hb;simp! only [and_true]
  | non=>cases hb;simp! only [and_true]
  | str i=>cases hb;simp! only [and_true]
  | ref p=>
   obtain ⟨rfl,o,ho,ht⟩:=isW_obj hb
   rcases ht with ht|ht|ht<;>simp! only [and_true]
  | _=>cases hb
theorem ok_is_whole (T:Tx K mg t):FnOk P w K mg base CX0 1 t.a_is_whole t.d_is_whole ["thing"] spWhole:=by
 refine T.F_is_whole.ok c_is_whole (fun vs H Q E h=>l_spWhole h) (fun cdv A outer s H vs Q E hr h=>?_)
 ·obtain ⟨x,rfl,h⟩:=h
  obtain ⟨b,hb,k⟩:=optK_ex h
  clear h
  rw [m_kE4] at k
  refine ⟨_,(@pss_one _ _ _ (@ps_ret _ _ _ _ (@pe_andN _ _ _ _ _ _ _ (@pe_callB _ _ _ _ _ _ _ ("isinstance") _ call_qIsi (by rfl) T.z_isinstance (by decide +kernel) (@pa_c _ _ _ _ _ (@pvN _ 0 _ _ (by rfl) (by trivial) (by decide) (by decide)) (@pa_c _ _ _ _ _ (@pe_bltn _ _ (.ty "int") (.type "int") _ (by rfl) T.z_int (by decide +kernel) rfl (by decide) (by decide)) (@pa_nil _) (by rfl)) (by rfl)) (by decide) (by decide) (by rfl) (by rfl)) (@pe_one _ _ _ _ _ (@pe_notN _ _ _ _ (@pe_callB _ _ _ _ _ _ _ ("isinstance") _ call_qIsi (by rfl) T.z_isinstance (by decide +kernel) (@pa_c _ _ _ _ _ (@pvN _ 0 _ _ (by rfl) (by trivial) (by decide) (by decide)) (@pa_c _ _ _ _ _ (@pe_bltn _ _ (.ty "bool") (.type "bool") _ (by rfl) T.z_bool (by decide +kernel) rfl (by decide) (by decide)) (@pa_nil _) (by rfl)) (by rfl)) (by decide) (by decide) (by rfl) (by rfl))))))),?_⟩
  rw [show start ["thing"] [x]=[some (x)] from rfl]
  cases x with
  | int i=>cases hb;simp! only [and_true]
  | bl i=>cases hb;simp! only [and_true]
  | non=>cases hb;simp! only [and_true]
  | str i=>cases hb;simp! only [and_true]
  | ref p=>
   obtain ⟨rfl,o,ho,ht⟩:=isW_obj hb
   rcases ht with ht|ht|ht<;>simp! only [and_true]
  | _=>cases hb
def spWithin  : Sp:=fun vs H Q E=>∃ (i:Int) (lo:Int) (hi:Int),vs=[.int i,.int lo,.int hi]∧(Q (.bl (decide (lo≤i) && decide (i≤hi))) H)
theorem c_spWithin  (i:Int) (lo:Int) (hi:Int) (H:Hp) (Q:VK) (E:XK):spWithin  [.int i,.int lo,.int hi] H Q E=(Q (.bl (decide (lo≤i) && decide (i≤hi))) H):=spx3 (f:=fun (i:Int) (lo:Int) (hi:Int)=>[.int i,.int lo,.int hi]) (fun _ _ _ _ _ _ h=>by cases h;exact ⟨rfl,rfl,rfl⟩) i lo hi
theorem l_spWithin  {vs:List V}{H:Hp}{Q:VK}{E:XK}(h:spWithin  vs H Q E):vs.length=3:=spl3 h fun _ _ _=>rfl
theorem ok_is_within (T:Tx K mg t):FnOk P w K mg base CX0 2 t.a_is_within t.d_is_within ["thing", "low", "high"] spWithin:=by
 have G_is_whole:=ok_is_whole (P:=P) (w:=w) (base:=base) T
 refine T.F_is_within.ok c_is_within (fun vs H Q E h=>l_spWithin h) (fun cdv A outer s H vs Q E hr h=>?_)
 ·obtain ⟨i,lo,hi,rfl,k⟩:=h
  refine ⟨_,(@pss_one _ _ _ (@ps_ret _ _ _ _ (@pe_andN _ _ _ _ _ _ _ (@pe_call _ _ _ _ _ _ _ _ _ _ _ _ _ _ _ _ G_is_whole (hr.mono (by decide)) (by rfl) T.m_is_whole T.F_is_whole.kp T.b_is_whole .nil pass0 (@pa_c _ _ _ _ _ (@pvN _ 0 _ _ (by rfl) (by trivial) (by decide) (by decide)) (@pa_nil _) (by rfl)) (by decide) (by rfl) (by rfl)) (@pe_one _ _ _ _ _ (@pe_chainN _ _ _ _ _ _ _ _ _ _ _ _ on_le on_le (@pvN _ 1 _ _ (by rfl) (by trivial) (by decide) (by decide)) (@pvN _ 0 _ _ (by rfl) (by trivial) (by decide) (by decide)) (@pvN _ 2 _ _ (by rfl) (by trivial) (by decide) (by decide)) (by rfl)))))),?_⟩
  rw [show start ["thing", "low", "high"] [.int i,.int lo,.int hi]=[some (.int i),some (.int lo),some (.int hi)] from rfl]
  by_cases h0:lo≤i
  ·rw [decide_eq_true h0,Bool.true_and] at k
   simp! only [↓c_spWhole]
  ·rw [decide_eq_false h0,Bool.false_and] at k
   simp! only [↓c_spWhole]
def spSize  : Sp:=fun vs H Q E=>∃ (i:Int),vs=[.int i]∧(Q (.bl (decide (1≤i) && decide (i≤1000000000))) H)
theorem c_spSize  (i:Int) (H:Hp) (Q:VK) (E:XK):spSize  [.int i] H Q E=(Q (.bl (decide (1≤i) && decide (i≤1000000000))) H):=spx1 (f:=fun (i:Int)=>[.int i]) (fun _ _ h=>by cases h;exact rfl) i
theorem l_spSize  {vs:List V}{H:Hp}{Q:VK}{E:XK}(h:spSize  vs H Q E):vs.length=1:=spl1 h fun _=>rfl
theorem ok_is_size (T:Tx K mg t):FnOk P w K mg base CX0 3 t.a_is_size t.d_is_size ["thing"] spSize:=by
 have G_is_within:=ok_is_within (P:=P) (w:=w) (base:=base) T
 refine T.F_is_size.ok c_is_size (fun vs H Q E h=>l_spSize h) (fun cdv A outer s H vs Q E hr h=>?_)
 ·obtain ⟨i,rfl,k⟩:=h
  refine ⟨_,(@pss_one _ _ _ (@ps_ret _ _ _ _ (@pe_call _ _ _ _ _ _ _ _ _ _ _ _ _ _ _ _ G_is_within (hr.mono (by decide)) (by rfl) T.m_is_within T.F_is_within.kp T.b_is_within .nil pass0 (@pa_c _ _ _ _ _ (@pvN _ 0 _ _ (by rfl) (by trivial) (by decide) (by decide)) (@pa_c _ _ _ _ _ (@pe_int _ _ _ _) (@pa_c _ _ _ _ _ (@pe_glob _ _ (.int 1000000000) _ _ (by rfl) T.m_MOST_SIZE.choose_spec ⟨_,rfl⟩ (by decide)) (@pa_nil _) (by rfl)) (by rfl)) (by rfl)) (by decide) (by rfl) (by rfl)))),?_⟩
  rw [show start ["thing"] [.int i]=[some (.int i)] from rfl]
  simp! only [↓c_spWithin]
abbrev B_spAxis  (p:Addr) (H:Hp) (Q:VK) (E:XK):Prop:=∃ a:Int × Int,H p=some (.tup [.int a.1,.int a.2])∧1≤a.1∧a.1≤1000000000∧Q (.bl true) H
def spAxis  : Sp:=fun vs H Q E=>∃ (p:Addr),vs=[.ref p]∧(B_spAxis  p H Q E)
theorem c_spAxis  (p:Addr) (H:Hp) (Q:VK) (E:XK):spAxis  [.ref p] H Q E=(B_spAxis  p H Q E):=spx1 (f:=fun (p:Addr)=>[.ref p]) (fun _ _ h=>by cases h;exact rfl) p
theorem l_spAxis  {vs:List V}{H:Hp}{Q:VK}{E:XK}(h:spAxis  vs H Q E):vs.length=1:=spl1 h fun _=>rfl
theorem ok_is_axis (T:Tx K mg t):FnOk P w K mg base CX0 4 t.a_is_axis t.d_is_axis ["thing"] spAxis:=by
 have G_is_size:=ok_is_size (P:=P) (w:=w) (base:=base) T
 have G_is_whole:=ok_is_whole (P:=P) (w:=w) (base:=base) T
 refine T.F_is_axis.ok c_is_axis (fun vs H Q E h=>l_spAxis h) (fun cdv A outer s H vs Q E hr h=>?_)
 ·obtain ⟨p,rfl,a,hp,h1,h2,k⟩:=h
  refine ⟨_,(@pss_one _ _ _ (@ps_ret _ _ _ _ (@pe_andN _ _ _ _ _ _ _ (@pe_callB _ _ _ _ _ _ _ ("isinstance") _ call_qIsi (by rfl) T.z_isinstance (by decide +kernel) (@pa_c _ _ _ _ _ (@pvN _ 0 _ _ (by rfl) (by trivial) (by decide) (by decide)) (@pa_c _ _ _ _ _ (@pe_bltn _ _ (.ty "tuple") (.type "tuple") _ (by rfl) T.z_tuple (by decide +kernel) rfl (by decide) (by decide)) (@pa_nil _) (by rfl)) (by rfl)) (by decide) (by decide) (by rfl) (by rfl)) (@pe_andN _ _ _ _ _ _ _ (@pe_cmpR _ _ _ _ _ _ _ _ (op_qEq hr.units) (@pe_callB _ _ _ _ _ _ _ ("len") _ call_qLen (by rfl) T.z_len (by decide +kernel) (@pa_c _ _ _ _ _ (@pvN _ 0 _ _ (by rfl) (by trivial) (by decide) (by decide)) (@pa_nil _) (by rfl)) (by decide) (by decide) (by rfl) (by rfl)) (@pe_int _ _ _ _) (nomark _)) (@pe_andN _ _ _ _ _ _ _ (@pe_call _ _ _ _ _ _ _ _ _ _ _ _ _ _ _ _ G_is_size (hr.mono (by decide)) (by rfl) T.m_is_size T.F_is_size.kp T.b_is_size .nil pass0 (@pa_c _ _ _ _ _ (@pe_ix _ _ _ _ _ _ _ ix_q (@pvN _ 0 _ _ (by rfl) (by trivial) (by decide) (by decide)) (@pe_int _ _ _ _) (fun _ _=>rfl)) (@pa_nil _) (by rfl)) (by decide) (by rfl) (by rfl)) (@pe_one _ _ _ _ _ (@pe_call _ _ _ _ _ _ _ _ _ _ _ _ _ _ _ _ G_is_whole (hr.mono (by decide)) (by rfl) T.m_is_whole T.F_is_whole.kp T.b_is_whole .nil pass0 (@pa_c _ _ _ _ _ (@pe_ix _ _ _ _ _ _ _ ix_q (@pvN _ 0 _ _ (by rfl) (by trivial) (by decide) (by decide)) (@pe_int _ _ _ _) (fun _ _=>rfl)) (@pa_nil _) (by rfl)) (by decide) (by rfl) (by rfl)))))))),?_⟩
  rw [show start ["thing"] [.ref p]=[some (.ref p)] from rfl]
  simp! only [↓c_spSize,↓c_spWhole]
abbrev B_spKept  (p:Addr) (H:Hp) (Q:VK) (E:XK):Prop:=∃ a:Int × Int,H p=some (.tup [.int a.1,.int a.2])∧∀ (r:Addr) (H':Hp),H r=none->Ext H H'->H' r=some (.tup [.int (keptA a).1,.int (keptA a).2])->Q (.ref r) H'
def spKept  : Sp:=fun vs H Q E=>∃ (p:Addr),vs=[.ref p]∧(B_spKept  p H Q E)
theorem c_spKept  (p:Addr) (H:Hp) (Q:VK) (E:XK):spKept  [.ref p] H Q E=(B_spKept  p H Q E):=spx1 (f:=fun (p:Addr)=>[.ref p]) (fun _ _ h=>by cases h;exact rfl) p
theorem l_spKept  {vs:List V}{H:Hp}{Q:VK}{E:XK}(h:spKept  vs H Q E):vs.length=1:=spl1 h fun _=>rfl
theorem ok_kept_axis (T:Tx K mg t):FnOk P w K mg base CX0 1 t.a_kept_axis t.d_kept_axis ["axis"] spKept:=by
 refine T.F_kept_axis.ok c_kept_axis (fun vs H Q E h=>l_spKept h) (fun cdv A outer s H vs Q E hr h=>?_)
 ·obtain ⟨p,rfl,a,hp,k⟩:=h
  refine ⟨_,(@pss_one _ _ _ (@ps_ret _ _ _ _ (@pe_qTup _ _ _ _ _ (@pa_c _ _ _ _ _ (@pe_ix _ _ _ _ _ _ _ ix_q (@pvN _ 0 _ _ (by rfl) (by trivial) (by decide) (by decide)) (@pe_int _ _ _ _) (fun _ _=>rfl)) (@pa_c _ _ _ _ _ (@pe_ifExp _ _ _ _ _ _ _ _ (@pt_cmpRN _ _ _ _ _ _ _ _ on_gt (@pe_ix _ _ _ _ _ _ _ ix_q (@pvN _ 0 _ _ (by rfl) (by trivial) (by decide) (by decide)) (@pe_int _ _ _ _) (fun _ _=>rfl)) (@pe_int _ _ _ _) (nomark _)) (@pe_ix _ _ _ _ _ _ _ ix_q (@pvN _ 0 _ _ (by rfl) (by trivial) (by decide) (by decide)) (@pe_int _ _ _ _) (fun _ _=>rfl)) (@pe_int _ _ _ _)) (@pa_nil _) (by rfl)) (by rfl))))),?_⟩
  rw [show start ["axis"] [.ref p]=[some (.ref p)] from rfl]
  have e1:(keptA a).1=a.1:=rfl
  by_cases h1:1 < a.1
  ·have e2:(keptA a).2=a.2:=if_pos h1
   rw [e1,e2] at k
   simp! only [and_true]
   exact fun r H' h e h'=>k r H' h e h'
  ·have e2:(keptA a).2=0:=if_neg h1
   rw [e1,e2] at k
   simp! only [and_true]
   exact fun r H' h e h'=>k r H' h e h'
abbrev B_spAxes  (p:Addr) (H:Hp) (Q:VK) (E:XK):Prop:=∃ axs:List (Int × Int),TupsAt H p (axL axs)∧Axes axs∧∀ H',Ext H H'->Q (.bl true) H'
def spAxes  : Sp:=fun vs H Q E=>∃ (p:Addr),vs=[.ref p]∧(B_spAxes  p H Q E)
theorem c_spAxes  (p:Addr) (H:Hp) (Q:VK) (E:XK):spAxes  [.ref p] H Q E=(B_spAxes  p H Q E):=spx1 (f:=fun (p:Addr)=>[.ref p]) (fun _ _ h=>by cases h;exact rfl) p
theorem l_spAxes  {vs:List V}{H:Hp}{Q:VK}{E:XK}(h:spAxes  vs H Q E):vs.length=1:=spl1 h fun _=>rfl
theorem ok_are_axes (T:Tx K mg t):FnOk P w K mg base CX0 5 t.a_are_axes t.d_are_axes ["thing"] spAxes:=by
 have G_is_axis:=ok_is_axis (P:=P) (w:=w) (base:=base) T
 refine T.F_are_axes.ok c_are_axes (fun vs H Q E h=>l_spAxes h) (fun cdv A outer s H vs Q E hr h=>?_)
 ·obtain ⟨p,rfl,axs,⟨ys,hp,al⟩,ha,k⟩:=h
  refine ⟨_,(@pss_one _ _ _ (@ps_ret _ _ _ _ (@pe_andN _ _ _ _ _ _ _ (@pe_callB _ _ _ _ _ _ _ ("isinstance") _ call_qIsi (by rfl) T.z_isinstance (by decide +kernel) (@pa_c _ _ _ _ _ (@pvN _ 0 _ _ (by rfl) (by trivial) (by decide) (by decide)) (@pa_c _ _ _ _ _ (@pe_bltn _ _ (.ty "list") (.type "list") _ (by rfl) T.z_list (by decide +kernel) rfl (by decide) (by decide)) (@pa_nil _) (by rfl)) (by rfl)) (by decide) (by decide) (by rfl) (by rfl)) (@pe_andN _ _ _ _ _ _ _ (@pe_cmpR _ _ _ _ _ _ _ _ on_le (@pe_callB _ _ _ _ _ _ _ ("len") _ call_qLen (by rfl) T.z_len (by decide +kernel) (@pa_c _ _ _ _ _ (@pvN _ 0 _ _ (by rfl) (by trivial) (by decide) (by decide)) (@pa_nil _) (by rfl)) (by decide) (by decide) (by rfl) (by rfl)) (@pe_glob _ _ (.int 8) _ _ (by rfl) T.m_MOST_AXES.choose_spec ⟨_,rfl⟩ (by decide)) (nomark _)) (@pe_one _ _ _ _ _ (@pe_callB _ _ _ _ _ _ _ ("all") _ (call_qAll rfl) (by rfl) T.z_all (by decide +kernel) (@pa_c _ _ _ _ _ (@pe_comp _ _ _ _ _ _ _ _ _ _ _ (["axis", "thing"]) (1) (comp_ok (defScope s_are_axes) ["thing"] rfl rfl (by decide +kernel)) rfl (@pi_seq _ _ _ _ (@pvN _ 0 _ _ (by rfl) (by trivial) (by decide) (by decide))) (fun C s₀ H₀ ex pn=>(@pg_name _ _ (0) _ (show List.Nodup (["axis", "thing"]:List Str) from by decide +kernel) rfl (Or.inl rfl) (by trivial))) (fun C s₀ H₀ ex pn=>(@pts_nil _)) (fun C s₀ H₀ ex pn=>(@pe_call _ _ _ _ _ _ _ _ _ _ _ _ _ _ _ _ G_is_axis (hr.mono (by decide)) (by rfl) T.m_is_axis T.F_is_axis.kp T.b_is_axis .nil pass0 (@pa_c _ _ _ _ _ (@pvN _ 0 _ _ (by rfl) (by trivial) (by decide) (by decide)) (@pa_nil _) (by rfl)) (by decide) (by rfl) (by rfl))) (by intros;rfl)) (@pa_nil _) (by rfl)) (by decide) (by decide) (by rfl) (by rfl))))))),?_⟩
  rw [show start ["thing"] [.ref p]=[some (.ref p)] from rfl]
  have hl:ys.length=axs.length:=by rw [al.1];unfold axL;rw [List.length_map]
  have hl8:(axs.length:Int)≤8:=by have:=ha.1;omega
  simp! only [and_true]
  refine comp_fm ys (fun _=>true) (fun _=>.bl true) (fun z x H'=>x=z∧H' p=some (.lst ys)) (wk_lst hp).1 (wk_lst hp).2 (len5000 (by omega)) ?_ ?_
  ·intro D z x H' N1 N0 hz hD e ⟨hx,_⟩ k1 _
   subst hx
   obtain ⟨i,hi,rfl⟩:=List.getElem_of_mem hz
   have hi':i < axs.length:=by rw [←hl];exact hi
   obtain ⟨q,hq1,hq2⟩:=al.2 i [axs[i].1,axs[i].2] ys[i] (by unfold axL;rw [List.getElem?_map,List.getElem?_eq_getElem hi'];rfl) (List.getElem?_eq_getElem hi)
   have hb:=ha.2 _ (List.getElem_mem hi')
   have k1':=k1 rfl H' (Ext.refl _)
   have hq3:=e.at hq2
   rw [hq1]
   clear k1 k hp al
   simp! only [↓m_kCm_1,↓m_kCm2]
   rw [c_spAxis]
   exact ⟨axs[i],hq3,hb.1,hb.2,k1'⟩
  ·intro D H' hD e hD'
   have hD2:H' D=some (.lst ((ys.map fun _=>true).map V.bl)):=by rw [hD',filt,List.map_map];rfl
   have e2:((ys.map fun _=>true).all id)=true:=by rw [List.all_map];simp
   have k2:=k H' e
   clear k hD'
   simp! only [and_true]
theorem getElem?_zs {zs:List (List Int)}{ys:List V}{H:Hp}(al:Al (TupV H) zs ys){i:Nat}{y:V}(h:ys[i]? = some y):∃ z,zs[i]? = some z∧TupV H z y:=by
 have hi:i < ys.length:=(List.getElem?_eq_some_iff.mp h).1
 have hz:zs[i]? = some (zs[i]'(by rw [←al.1];exact hi)):=List.getElem?_eq_getElem _
 exact ⟨_,hz,al.2 i _ y hz h⟩
theorem min0 (x:Int):min 0 x=if x < 0 then x else 0:=by split<;>omega
theorem max0 (x:Int):max 0 x=if 0 < x then x else 0:=by split<;>omega
structure ViewAt (C:Addr) (H:Hp) (v:Addr) (room first:Int) (axs:List (Int × Int)):Prop where
 ob:∃ dx l,H v=some (.ins C dx (viewF room first l))∧TupsAt H l (axL axs)
theorem ViewAt.ext {C:Addr}{H H':Hp}{v:Addr}{room first:Int}{axs:List (Int × Int)}(h:ViewAt C H v room first axs) (e:Ext H H'):ViewAt C H' v room first axs:=by
 obtain ⟨dx,l,h1,h2⟩:=h.ob
 exact ⟨⟨dx,l,e.at h1,h2.ext e⟩⟩
theorem ne_no {m:Str}(h:m∈([("sizes":Str), "paces", "count", "cell", "cell_at", "cells", "least", "greatest"]:List Str)):¬ m = "axes" ∧ ¬ m = "first" ∧ ¬ m = "room":=by
 revert m
 decide +kernel
theorem vn (room first:Int) (l:Addr){m:Str}(h:m∈([("sizes":Str), "paces", "count", "cell", "cell_at", "cells", "least", "greatest"]:List Str)):(viewF room first l).lookup m=none:=viewF_no room first l (ne_no h).1 (ne_no h).2.1 (ne_no h).2.2
theorem al_ax {H:Hp}{axs:List (Int × Int)}{ys:List V}(al:Al (TupV H) (axL axs) ys){i:Nat}{y:V}(h:ys[i]? = some y):∃ a q,axs[i]? = some a∧y=.ref q∧H q=some (.tup [.int a.1,.int a.2]):=by
 obtain ⟨z,hz,q,hq,hq2⟩:=getElem?_zs al h
 unfold axL at hz
 rw [List.getElem?_map] at hz
 obtain ⟨a,ha,rfl⟩:=Option.map_eq_some_iff.mp hz
 exact ⟨a,q,ha,hq,hq2⟩
abbrev B_spLeast (C:Addr) (v:Addr) (H:Hp) (Q:VK) (E:XK):Prop:=∃ (room first:Int) (axs:List (Int × Int)),ViewAt C H v room first axs∧Axes axs∧∀ H',Ext H H'->Q (.int (first+leastL axs)) H'
def spLeast (C:Addr):Sp:=fun vs H Q E=>∃ (v:Addr),vs=[.ref v]∧(B_spLeast C v H Q E)
theorem c_spLeast (C:Addr) (v:Addr) (H:Hp) (Q:VK) (E:XK):spLeast C [.ref v] H Q E=(B_spLeast C v H Q E):=spx1 (f:=fun (v:Addr)=>[.ref v]) (fun _ _ h=>by cases h;exact rfl) v
theorem l_spLeast (C:Addr){vs:List V}{H:Hp}{Q:VK}{E:XK}(h:spLeast C vs H Q E):vs.length=1:=spl1 h fun _=>rfl
theorem ok_View_least (T:Tx K mg t):FnOk P w K mg base CX0 1 t.a_View_least t.d_View_least ["self"] (spLeast t.a_View):=by
 refine T.F_View_least.ok c_View_least (fun vs H Q E h=>l_spLeast _ h) (fun cdv A outer s H vs Q E hr h=>?_)
 ·obtain ⟨v,rfl,room,first,axs,vo,hax,k⟩:=h
  obtain ⟨dx,l,hv,ys,hl,al⟩:=vo.ob
  have c1:=T.cl_View
  have c2:=T.na_View_first
  have c3:=T.na_View_axes
  have f1:=viewF_first room first l
  have f2:=viewF_axes room first l
  refine ⟨_,(@pss_one _ _ _ (@ps_ret _ _ _ _ (@pe_op _ _ _ _ _ _ _ _ on_add (@pe_nFld _ _ _ _ _ (@pvN _ 0 _ _ (by rfl) (by trivial) (by decide) (by decide)) rfl) (@pe_callB _ _ _ _ _ _ _ ("sum") _ (call_qSum rfl) (by rfl) T.z_sum (by decide +kernel) (@pa_c _ _ _ _ _ (@pe_comp _ _ _ _ _ _ _ _ _ _ _ (["size", "pace", "self"]) (2) (comp_ok (defScope s_View_least) ["self"] rfl rfl (by decide +kernel)) rfl (@pi_seq _ _ _ _ (@pe_nFld _ _ _ _ _ (@pvN _ 0 _ _ (by rfl) (by trivial) (by decide) (by decide)) rfl)) (fun C s₀ H₀ ex pn=>((@pg_tup _ _ _ _ _ (2) rfl (@pgs_consN _ _ _ _ _ (@pg_name _ _ (0) _ (show List.Nodup (["size", "pace", "self"]:List Str) from by decide +kernel) rfl (Or.inl rfl) (by trivial)) (@pgs_consN _ _ _ _ _ (@pg_name _ _ (1) _ (show List.Nodup (["size", "pace", "self"]:List Str) from by decide +kernel) rfl (Or.inl rfl) (by trivial)) (@pgs_nilN _) (by rfl)) (by rfl)) (by rfl) (by rfl)).mono fun _ _ _ _ h=>gTup_q h)) (fun C s₀ H₀ ex pn=>(@pts_nil _)) (fun C s₀ H₀ ex pn=>(@pe_callB _ _ _ _ _ _ _ ("min") _ (call_qMin rfl) (by rfl) T.z_min (by decide +kernel) (@pa_c _ _ _ _ _ (@pe_int _ _ _ _) (@pa_c _ _ _ _ _ (@pe_op _ _ _ _ _ _ _ _ on_mul (@pe_op _ _ _ _ _ _ _ _ on_sub (@pvN _ 0 _ _ (by rfl) (by trivial) (by decide) (by decide)) (@pe_int _ _ _ _)) (@pvN _ 1 _ _ (by rfl) (by trivial) (by decide) (by decide))) (@pa_nil _) (by rfl)) (by rfl)) (by decide) (by decide) (by rfl) (by rfl))) (by intros;rfl)) (@pa_nil _) (by rfl)) (by decide) (by decide) (by rfl) (by rfl))))),?_⟩
  rw [show start ["self"] [.ref v]=[some (.ref v)] from rfl]
  simp! only [and_true]
  have wk:=wk_al (K:=K) (R:=axP) (fun _ _ _ _ h e=>h.ext e) hl (al_axP al)
  refine comp_fm axs (fun _=>true) (fun a=>.int (min 0 ((a.1 - 1) * a.2))) axP wk.1 wk.2 (len5000 (by have:=hax.1;omega)) ?_ ?_
  ·intro D a x H' N1 N0 ha hD e ⟨q,hx,hq⟩ k1 _
   subst hx
   have hb:=hax.2 a ha
   have k1':=k1 rfl H' (Ext.refl _)
   have hcm:CMul (a.1 - 1) a.2:=.inl ⟨by omega,by omega⟩
   rw [min0] at k1'
   clear k1 k
   simp! only [↓m_kCm_2,↓m_kCm2]
  ·intro D H' hD e hD'
   have hD2:H' D=some (.lst ((axs.map fun a=>min 0 ((a.1 - 1) * a.2)).map V.int)):=by rw [hD',filt,List.map_map];rfl
   have k2:Q (.int (first+(axs.map fun a=>min 0 ((a.1 - 1) * a.2)).sum)) H':=k H' e
   clear k hD'
   simp! only [and_true]
abbrev B_spGreatest (C:Addr) (v:Addr) (H:Hp) (Q:VK) (E:XK):Prop:=∃ (room first:Int) (axs:List (Int × Int)),ViewAt C H v room first axs∧Axes axs∧∀ H',Ext H H'->Q (.int (first+greatL axs)) H'
def spGreatest (C:Addr):Sp:=fun vs H Q E=>∃ (v:Addr),vs=[.ref v]∧(B_spGreatest C v H Q E)
theorem c_spGreatest (C:Addr) (v:Addr) (H:Hp) (Q:VK) (E:XK):spGreatest C [.ref v] H Q E=(B_spGreatest C v H Q E):=spx1 (f:=fun (v:Addr)=>[.ref v]) (fun _ _ h=>by cases h;exact rfl) v
theorem l_spGreatest (C:Addr){vs:List V}{H:Hp}{Q:VK}{E:XK}(h:spGreatest C vs H Q E):vs.length=1:=spl1 h fun _=>rfl
theorem ok_View_greatest (T:Tx K mg t):FnOk P w K mg base CX0 1 t.a_View_greatest t.d_View_greatest ["self"] (spGreatest t.a_View):=by
 refine T.F_View_greatest.ok c_View_greatest (fun vs H Q E h=>l_spGreatest _ h) (fun cdv A outer s H vs Q E hr h=>?_)
 ·obtain ⟨v,rfl,room,first,axs,vo,hax,k⟩:=h
  obtain ⟨dx,l,hv,ys,hl,al⟩:=vo.ob
  have c1:=T.cl_View
  have c2:=T.na_View_first
  have c3:=T.na_View_axes
  have f1:=viewF_first room first l
  have f2:=viewF_axes room first l
  refine ⟨_,(@pss_one _ _ _ (@ps_ret _ _ _ _ (@pe_op _ _ _ _ _ _ _ _ on_add (@pe_nFld _ _ _ _ _ (@pvN _ 0 _ _ (by rfl) (by trivial) (by decide) (by decide)) rfl) (@pe_callB _ _ _ _ _ _ _ ("sum") _ (call_qSum rfl) (by rfl) T.z_sum (by decide +kernel) (@pa_c _ _ _ _ _ (@pe_comp _ _ _ _ _ _ _ _ _ _ _ (["size", "pace", "self"]) (2) (comp_ok (defScope s_View_greatest) ["self"] rfl rfl (by decide +kernel)) rfl (@pi_seq _ _ _ _ (@pe_nFld _ _ _ _ _ (@pvN _ 0 _ _ (by rfl) (by trivial) (by decide) (by decide)) rfl)) (fun C s₀ H₀ ex pn=>((@pg_tup _ _ _ _ _ (2) rfl (@pgs_consN _ _ _ _ _ (@pg_name _ _ (0) _ (show List.Nodup (["size", "pace", "self"]:List Str) from by decide +kernel) rfl (Or.inl rfl) (by trivial)) (@pgs_consN _ _ _ _ _ (@pg_name _ _ (1) _ (show List.Nodup (["size", "pace", "self"]:List Str) from by decide +kernel) rfl (Or.inl rfl) (by trivial)) (@pgs_nilN _) (by rfl)) (by rfl)) (by rfl) (by rfl)).mono fun _ _ _ _ h=>gTup_q h)) (fun C s₀ H₀ ex pn=>(@pts_nil _)) (fun C s₀ H₀ ex pn=>(@pe_callB _ _ _ _ _ _ _ ("max") _ (call_qMax rfl) (by rfl) T.z_max (by decide +kernel) (@pa_c _ _ _ _ _ (@pe_int _ _ _ _) (@pa_c _ _ _ _ _ (@pe_op _ _ _ _ _ _ _ _ on_mul (@pe_op _ _ _ _ _ _ _ _ on_sub (@pvN _ 0 _ _ (by rfl) (by trivial) (by decide) (by decide)) (@pe_int _ _ _ _)) (@pvN _ 1 _ _ (by rfl) (by trivial) (by decide) (by decide))) (@pa_nil _) (by rfl)) (by rfl)) (by decide) (by decide) (by rfl) (by rfl))) (by intros;rfl)) (@pa_nil _) (by rfl)) (by decide) (by decide) (by rfl) (by rfl))))),?_⟩
  rw [show start ["self"] [.ref v]=[some (.ref v)] from rfl]
  simp! only [and_true]
  have wk:=wk_al (K:=K) (R:=axP) (fun _ _ _ _ h e=>h.ext e) hl (al_axP al)
  refine comp_fm axs (fun _=>true) (fun a=>.int (max 0 ((a.1 - 1) * a.2))) axP wk.1 wk.2 (len5000 (by have:=hax.1;omega)) ?_ ?_
  ·intro D a x H' N1 N0 ha hD e ⟨q,hx,hq⟩ k1 _
   subst hx
   have hb:=hax.2 a ha
   have k1':=k1 rfl H' (Ext.refl _)
   have hcm:CMul (a.1 - 1) a.2:=.inl ⟨by omega,by omega⟩
   rw [max0] at k1'
   clear k1 k
   simp! only [↓m_kCm_2,↓m_kCm2]
  ·intro D H' hD e hD'
   have hD2:H' D=some (.lst ((axs.map fun a=>max 0 ((a.1 - 1) * a.2)).map V.int)):=by rw [hD',filt,List.map_map];rfl
   have k2:Q (.int (first+(axs.map fun a=>max 0 ((a.1 - 1) * a.2)).sum)) H':=k H' e
   clear k hD'
   simp! only [and_true]
def kSzs (H:Hp) (Q:VK) (f:Int × Int->Int) (axs:List (Int × Int)):Prop:=∀ (r:Addr) (H':Hp),H r=none->Ext H H'->H' r=some (.lst ((axs.map f).map V.int))->Q (.ref r) H'
abbrev B_spVSizes (C:Addr) (v:Addr) (H:Hp) (Q:VK) (E:XK):Prop:=∃ (room first:Int) (axs:List (Int × Int)),ViewAt C H v room first axs∧axs.length≤8∧kSzs H Q (fun a=>a.1) axs
def spVSizes (C:Addr):Sp:=fun vs H Q E=>∃ (v:Addr),vs=[.ref v]∧(B_spVSizes C v H Q E)
abbrev B_spVPaces (C:Addr) (v:Addr) (H:Hp) (Q:VK) (E:XK):Prop:=∃ (room first:Int) (axs:List (Int × Int)),ViewAt C H v room first axs∧axs.length≤8∧kSzs H Q (fun a=>a.2) axs
def spVPaces (C:Addr):Sp:=fun vs H Q E=>∃ (v:Addr),vs=[.ref v]∧(B_spVPaces C v H Q E)
def spVInit (C:Addr):Sp:=fun vs H Q E=>∃ (x:Addr) (room:Int) (first:Int) (l:Addr),vs=[.ref x,.int room,.int first,.ref l]∧(∃ (dx:Addr) (axs:List (Int × Int)),H x=some (.ins C dx [])∧TupsAt H l (axL axs)∧ViewOk room first axs∧∀ (H':Hp) (D:Addr),(∀ H0,Ext H0 H->H0 x=none->Ext H0 H')->H D=none->H' x=some (.ins C dx (viewF room first D))->TupsAt H' D (axL (axs.map keptA))->Q .non H')
theorem c_spVInit (C:Addr) (x:Addr) (room:Int) (first:Int) (l:Addr) (H:Hp) (Q:VK) (E:XK):spVInit C [.ref x,.int room,.int first,.ref l] H Q E=(∃ (dx:Addr) (axs:List (Int × Int)),H x=some (.ins C dx [])∧TupsAt H l (axL axs)∧ViewOk room first axs∧∀ (H':Hp) (D:Addr),(∀ H0,Ext H0 H->H0 x=none->Ext H0 H')->H D=none->H' x=some (.ins C dx (viewF room first D))->TupsAt H' D (axL (axs.map keptA))->Q .non H'):=spx4 (f:=fun (x:Addr) (room:Int) (first:Int) (l:Addr)=>[.ref x,.int room,.int first,.ref l]) (fun _ _ _ _ _ _ _ _ h=>by cases h;exact ⟨rfl,rfl,rfl,rfl⟩) x room first l
theorem l_spVInit (C:Addr){vs:List V}{H:Hp}{Q:VK}{E:XK}(h:spVInit C vs H Q E):vs.length=4:=spl4 h fun _ _ _ _=>rfl
theorem ok_View___init__ (T:Tx K mg t):FnOk P w K mg base CX0 6 t.a_View___init__ t.d_View___init__ ["self", "room", "first", "axes"] (spVInit t.a_View):=by
 have G_is_within:=ok_is_within (P:=P) (w:=w) (base:=base) T
 have G_is_whole:=ok_is_whole (P:=P) (w:=w) (base:=base) T
 have G_are_axes:=ok_are_axes (P:=P) (w:=w) (base:=base) T
 have G_kept_axis:=ok_kept_axis (P:=P) (w:=w) (base:=base) T
 have G_View_least:=ok_View_least (P:=P) (w:=w) (base:=base) T
 have G_View_greatest:=ok_View_greatest (P:=P) (w:=w) (base:=base) T
 refine T.F_View___init__.ok c_View___init__ (fun vs H Q E h=>l_spVInit _ h) (fun cdv A outer s H vs Q E hr h=>?_)
 ·obtain ⟨x,room,first,l,rfl,dx,axs,hx,tl,vok,k⟩:=h
  have c1:=T.cl_View
  have c2:=T.na_View_first
  have c3:=T.na_View_axes
  have c4:=T.na_View_room
  refine ⟨_,(@pss_cons _ _ _ _ _ (@ps_if _ _ _ _ _ _ _ _ (PW.pt (@pw_or _ _ _ _ _ _ _ (@pt_not _ _ _ _ (@pt_valN _ _ _ (@pe_call _ _ _ _ _ _ _ _ _ _ _ _ _ _ _ _ G_is_within (hr.mono (by decide)) (by rfl) T.m_is_within T.F_is_within.kp T.b_is_within .nil pass0 (@pa_c _ _ _ _ _ (@pvN _ 1 _ _ (by rfl) (by trivial) (by decide) (by decide)) (@pa_c _ _ _ _ _ (@pe_int _ _ _ _) (@pa_c _ _ _ _ _ (@pe_glob _ _ (.int 1000000000000000000) _ _ (by rfl) T.m_MOST_ROOM.choose_spec ⟨_,rfl⟩ (by decide)) (@pa_nil _) (by rfl)) (by rfl)) (by rfl)) (by decide) (by rfl) (by rfl)) (by intros;rfl))) (@pw_or _ _ _ _ _ _ _ (@pt_not _ _ _ _ (@pt_valN _ _ _ (@pe_call _ _ _ _ _ _ _ _ _ _ _ _ _ _ _ _ G_is_whole (hr.mono (by decide)) (by rfl) T.m_is_whole T.F_is_whole.kp T.b_is_whole .nil pass0 (@pa_c _ _ _ _ _ (@pvN _ 2 _ _ (by rfl) (by trivial) (by decide) (by decide)) (@pa_nil _) (by rfl)) (by decide) (by rfl) (by rfl)) (by intros;rfl))) (@pw_or1 _ _ _ _ (@pt_not _ _ _ _ (@pt_valN _ _ _ (@pe_call _ _ _ _ _ _ _ _ _ _ _ _ _ _ _ _ G_are_axes (hr.mono (by decide)) (by rfl) T.m_are_axes T.F_are_axes.kp T.b_are_axes .nil pass0 (@pa_c _ _ _ _ _ (@pvN _ 3 _ _ (by rfl) (by trivial) (by decide) (by decide)) (@pa_nil _) (by rfl)) (by decide) (by rfl) (by rfl)) (by intros;rfl))))))) (@pss_one _ _ _ (@ps_never _ _)) (@pss_nil _)) (@pss_cons _ _ _ _ _ (@ps_nSetF _ _ _ _ _ _ _ _ (@pvN _ 0 _ _ (by rfl) (by trivial) (by decide) (by decide)) (@pvN _ 1 _ _ (by rfl) (by trivial) (by decide) (by decide)) rfl) (@pss_cons _ _ _ _ _ (@ps_nSetF _ _ _ _ _ _ _ _ (@pvN _ 0 _ _ (by rfl) (by trivial) (by decide) (by decide)) (@pvN _ 2 _ _ (by rfl) (by trivial) (by decide) (by decide)) rfl) (@pss_cons _ _ _ _ _ (@ps_nSetF _ _ _ _ _ _ _ _ (@pvN _ 0 _ _ (by rfl) (by trivial) (by decide) (by decide)) (@pe_comp _ _ _ _ _ _ _ _ _ _ _ (["axis", "self", "room", "first", "axes"]) (1) (comp_ok (defScope s_View___init__) ["self", "room", "first", "axes"] rfl rfl (by decide +kernel)) rfl (@pi_seq _ _ _ _ (@pvN _ 3 _ _ (by rfl) (by trivial) (by decide) (by decide))) (fun C s₀ H₀ ex pn=>(@pg_name _ _ (0) _ (show List.Nodup (["axis", "self", "room", "first", "axes"]:List Str) from by decide +kernel) rfl (Or.inl rfl) (by trivial))) (fun C s₀ H₀ ex pn=>(@pts_nil _)) (fun C s₀ H₀ ex pn=>(@pe_call _ _ _ _ _ _ _ _ _ _ _ _ _ _ _ _ G_kept_axis (hr.mono (by decide)) (by rfl) T.m_kept_axis T.F_kept_axis.kp T.b_kept_axis .nil pass0 (@pa_c _ _ _ _ _ (@pvN _ 0 _ _ (by rfl) (by trivial) (by decide) (by decide)) (@pa_nil _) (by rfl)) (by decide) (by rfl) (by rfl))) (by intros;rfl)) rfl) (@pss_one _ _ _ (@ps_if _ _ _ _ _ _ _ _ (PW.pt (@pw_or _ _ _ _ _ _ _ (@pt_cmpRN _ _ _ _ _ _ _ _ on_lt (@pe_nMeth0 _ _ _ _ _ _ _ _ _ _ _ _ _ _ _ _ _ (@pvN _ 0 _ _ (by rfl) (by trivial) (by decide) (by decide)) T.cl_View T.mt_View_least G_View_least (hr.mono (by decide)) T.b_View_least .nil pass0 (by rfl)) (@pe_int _ _ _ _) (nomark _)) (@pw_or1 _ _ _ _ (@pt_cmpRN _ _ _ _ _ _ _ _ on_ge (@pe_nMeth0 _ _ _ _ _ _ _ _ _ _ _ _ _ _ _ _ _ (@pvN _ 0 _ _ (by rfl) (by trivial) (by decide) (by decide)) T.cl_View T.mt_View_greatest G_View_greatest (hr.mono (by decide)) T.b_View_greatest .nil pass0 (by rfl)) (@pvN _ 1 _ _ (by rfl) (by trivial) (by decide) (by decide)) (nomark _))))) (@pss_one _ _ _ (@ps_never _ _)) (@pss_nil _))))))),?_⟩
  rw [show start ["self", "room", "first", "axes"] [.ref x,.int room,.int first,.ref l]=[some (.ref x),some (.int room),some (.int first),some (.ref l)] from rfl]
  have r1:=vok.r1
  have r2:=vok.r2
  simp! only [↓c_spWithin,↓c_spWhole]
  rw [c_spAxes]
  refine ⟨axs,tl,vok.ax,fun H1 e1=>?_⟩
  have hx1:=e1.at hx
  have tl1:=tl.ext e1
  clear hx tl
  simp! only [and_true]
  refine ⟨(show (1:Nat) < 1000 by decide),?_⟩
  obtain ⟨ys,hl1,al1⟩:=tl1
  have hlx:l ≠ x:=fun z=>by rw [z,hx1] at hl1;cases hl1
  have hx2:(upd H1 x (HO.ins t.a_View dx (putF "first" (V.int first) (putF "room" (V.int room) [])))) x=some (HO.ins t.a_View dx (putF "first" (V.int first) (putF "room" (V.int room) []))):=upd_same
  have hl2:(upd H1 x (HO.ins t.a_View dx (putF "first" (V.int first) (putF "room" (V.int room) [])))) l=some (.lst ys):=by rw [upd_ne hlx];exact hl1
  have al2:Al (fun a y=>axP a y (upd H1 x (HO.ins t.a_View dx (putF "first" (V.int first) (putF "room" (V.int room) []))))) axs ys:=(al_axP al1).imp fun a y ⟨q,hy,hq⟩=>⟨q,hy,by rw [upd_ne (fun z=>by rw [z,hx1] at hq;cases hq)];exact hq⟩
  have b2:∀ H0,Ext H0 H->H0 x=none->Ext H0 (upd H1 x (HO.ins t.a_View dx (putF "first" (V.int first) (putF "room" (V.int room) [])))):=fun H0 q0 q1=>(q0.trans e1).put q1
  have b3:∀ b,b ≠ x->(upd H1 x (HO.ins t.a_View dx (putF "first" (V.int first) (putF "room" (V.int room) [])))) b=none->H b=none:=fun b hb q=>by rw [upd_ne hb] at q;exact e1.free q
  generalize upd H1 x (HO.ins t.a_View dx (putF "first" (V.int first) (putF "room" (V.int room) [])))=H2 at hx2 hl2 al2 b2 b3
  clear hl1 al1 hx1
  simp! only [and_true]
  have wk:=wk_al (K:=K) (R:=axP) (fun _ _ _ _ h e=>h.ext e) hl2 al2
  refine comp_rel axs (fun _=>true) axP (fun D a y H'=>∃ q,y=.ref q∧q ≠ D∧H' q=some (.tup [.int (keptA a).1,.int (keptA a).2])) wk.1 wk.2 (fun D _ y H1 H2 ⟨q,h1,h2,h3⟩ e=>⟨q,h1,h2,e.at h3⟩) (fun D _ y H1 o ⟨q,h1,h2,h3⟩=>⟨q,h1,h2,by rw [upd_ne h2];exact h3⟩) (len5000 (by have:=vok.ax.1;omega)) ?_ ?_
  ·intro D a y H' N1 N0 ha hD e ⟨ys0,hys0⟩ ⟨q,hy,hq⟩ k1 _
   subst hy
   have k1':=k1 rfl
   clear k1 k
   simp! only [↓m_kCm_1,↓m_kCm2]
   rw [c_spKept]
   exact ⟨a,hq,fun r H'' hr' e' h'=>k1' _ H'' e' ⟨r,rfl,(fun z=>by rw [z,hys0] at hr';cases hr'),h'⟩⟩
  ·intro D zs H3 hD e3 hD3 al3
   rw [filt] at al3
   have hx3:=e3.at hx2
   have hDx:D ≠ x:=fun z=>by rw [z,hx2] at hD;cases hD
   clear wk
   simp! only [and_true]
   refine ⟨(show (2:Nat) < 1000 by decide),?_⟩
   have tt:TupsAt (upd H3 x (HO.ins t.a_View dx (viewF room first D))) D (axL (axs.map keptA)):=by
    refine ⟨zs,by rw [upd_ne hDx];exact hD3,?_,fun i z y hz hy=>?_⟩
    ·rw [al3.1];unfold axL;rw [List.length_map,List.length_map]
    ·unfold axL at hz
     rw [List.map_map,List.getElem?_map] at hz
     obtain ⟨a,ha,rfl⟩:=Option.map_eq_some_iff.mp hz
     obtain ⟨q,hq1,_,hq3⟩:=al3.2 i a y ha hy
     exact ⟨q,hq1,by rw [upd_ne (fun z=>by rw [z,hx3] at hq3;cases hq3)];exact hq3⟩
   have b4:∀ H0,Ext H0 H->H0 x=none->Ext H0 (upd H3 x (HO.ins t.a_View dx (viewF room first D))):=fun H0 q0 q1=>((b2 H0 q0 q1).trans e3).put q1
   have hx4:(upd H3 x (HO.ins t.a_View dx (viewF room first D))) x=some (HO.ins t.a_View dx (viewF room first D)):=upd_same
   have f1:=vn room first D (m := "least") (by decide +kernel)
   have f2:=vn room first D (m := "greatest") (by decide +kernel)
   refine ⟨f1,?_⟩
   show spLeast t.a_View [V.ref x] (upd H3 x (HO.ins t.a_View dx (viewF room first D))) _ _
   generalize upd H3 x (HO.ins t.a_View dx (viewF room first D))=H4 at tt b4 hx4
   have vo:ViewAt t.a_View H4 x room first (axs.map keptA):=⟨dx,D,hx4,tt⟩
   rw [c_spLeast]
   refine ⟨room,first,axs.map keptA,vo,vok.ax.kept,fun H5 e5=>?_⟩
   have hlo:¬ first+leastL (axs.map keptA) < 0:=by have:=vok.lo;omega
   have hx5:=e5.at hx4
   simp! only [and_true]
   rw [c_spGreatest]
   refine ⟨room,first,axs.map keptA,vo.ext e5,vok.ax.kept,fun H6 e6=>?_⟩
   have hhi:¬ room≤first+greatL (axs.map keptA):=by have:=vok.hi;omega
   have k':=k H6 D (fun H0 q0 q1=>((b4 H0 q0 q1).trans e5).trans e6) (b3 D hDx hD) (e6.at hx5) ((tt.ext e5).ext e6)
   clear k
   simp! only [and_true]
abbrev Bx:=List (Int × Int)
def InB:Bx->List Int->Prop
 | [],[]=>True
 | b::cs,x::xs=>(b.1≤x∧x≤b.2)∧InB cs xs
 | _,_=>False
def valL:List Tm3->List Int->Int
 | z::zs,x::xs=>z.1 * x+valL zs xs
 | _,_=>0
def volL:Bx->Int
 | []=>1
 | b::cs=>(b.2 - b.1+1) * volL cs
def BxOk (cs:Bx):Prop:=∀ b∈cs,b.1≤b.2
theorem vol_one:∀ {cs:Bx},BxOk cs->1≤volL cs
 | [],_=>Int.le_refl _
 | b::cs,h=>by
  have ih:=vol_one (cs:=cs) fun c hc=>h c (List.mem_cons_of_mem _ hc)
  have hb:=h b List.mem_cons_self
  show 1≤(b.2 - b.1+1) * volL cs
  have:=Int.mul_le_mul (show (1:Int)≤b.2 - b.1+1 by omega) ih (by decide) (by omega)
  omega
def upC (cs:Bx) (k:Nat) (at':Int):Bx:=cs.set k (at'+1,(cs.getD k default).2)
def loC (cs:Bx) (k:Nat) (at':Int):Bx:=cs.set k ((cs.getD k default).1,at')
def naoL (zs:List Tm3) (g:Int) (cs:Bx):Option (List Int):=if lsum zs cs=g then some (cs.map fun b=>b.1) else if gsum zs cs=g then some (cs.map fun b=>b.2) else none
def narF (t:Int) (b:Int × Int) (al bg:Int):Int × Int:=(if b.1 < b.2 - bg / t then b.2 - bg / t else b.1,if b.1+al / t < b.2 then b.1+al / t else b.2)
def bestF (zs:List Tm3) (cs:Bx) (al bg:Int):Nat->Option (Nat × Int × Int)
 | 0=>none
 | i+1=>if (cs.getD i default).1 < (cs.getD i default).2 then (match bestF zs cs al bg i with
   | none=>some (i,narF (zs.getD i default).1 (cs.getD i default) al bg)
   | some q=>if (narF (zs.getD i default).1 (cs.getD i default) al bg).2 - (narF (zs.getD i default).1 (cs.getD i default) al bg).1 < q.2.2 - q.2.1 then some (i,narF (zs.getD i default).1 (cs.getD i default) al bg) else some q) else bestF zs cs al bg i
def partK (cs:Bx) (q:Nat × Int × Int):Int:=if q.2.2 < (cs.getD q.1 default).2 then q.2.2 else if (cs.getD q.1 default).1 < q.2.1 then q.2.1 - 1 else (cs.getD q.1 default).1
def partF (zs:List Tm3) (g:Int) (cs:Bx):Nat × Int:=match bestF zs cs (g - lsum zs cs) (gsum zs cs - g) zs.length with
 | none=>(0,0)
 | some q=>(q.1,partK cs q)
def outF (zs:List Tm3) (g:Int):Nat->List Bx->Option (List Int)
 | 0,_=>none
 | _+1,[]=>none
 | n+1,c::st=>if ended zs c g=true then outF zs g n st else match naoL zs g c with
  | some xs=>some xs
  | none=>outF zs g n (loC c (partF zs g c).1 (partF zs g c).2::upC c (partF zs g c).1 (partF zs g c).2::st)
def potL:List Bx->Int
 | []=>0
 | c::st=>2 * volL c - 1+potL st
structure StI (zs:List Tm3) (g:Int) (N:Nat) (F:Bx) (most:Int) (st:List Bx) (looked:Int):Prop where
 ok:∀ c∈st,CsOk zs c
 pot:looked+potL st≤most
 sol:∃ c∈st,∃ xs,InB c xs∧valL zs xs=g
 out:∃ n:Nat,potL st≤n∧outF zs g n st=outF zs g N [F]
def sumAt:List (Int × Int)->Int->Int
 | [],_=>0
 | z::l,t=>(if z.1=t then z.2 else 0)+sumAt l t
def dotP (l:List (Int × Int)):Int:=(l.map fun z=>z.1 * z.2).sum
def keyS (ks:List Int) (f:Int->Int):Int:=(ks.map fun t=>t * f t).sum
theorem keyS_cons (k:Int) (ks:List Int) (f:Int->Int):keyS (k::ks) f=k * f k+keyS ks f:=by unfold keyS;rw [List.map_cons,List.sum_cons]
theorem keyS_zero:∀ {ks:List Int}{f:Int->Int},(∀ t∈ks,f t=0)->keyS ks f=0
 | [],_,_=>rfl
 | k::ks,f,h=>by rw [keyS_cons,h k List.mem_cons_self,keyS_zero fun t ht=>h t (List.mem_cons_of_mem _ ht)];omega
theorem keyS_add:∀ (ks:List Int) (f g:Int->Int),keyS ks (fun t=>f t+g t)=keyS ks f+keyS ks g
 | [],_,_=>rfl
 | k::ks,f,g=>by rw [keyS_cons,keyS_cons,keyS_cons,keyS_add ks f g,Int.mul_add];omega
theorem keyS_congr:∀ {ks:List Int}{f g:Int->Int},(∀ t∈ks,f t=g t)->keyS ks f=keyS ks g
 | [],_,_,_=>rfl
 | k::ks,f,g,h=>by rw [keyS_cons,keyS_cons,h k List.mem_cons_self,keyS_congr fun t ht=>h t (List.mem_cons_of_mem _ ht)]
theorem keyS_one:∀ {ks:List Int}{a c:Int},ks.Nodup->(a=0∨a∈ks)->keyS ks (fun t=>if a=t then c else 0)=a * c
 | [],a,c,_,h=>by
  rcases h with rfl|h
  ·rw [Int.zero_mul];rfl
  ·cases h
 | k::ks,a,c,hn,h=>by
  rw [keyS_cons]
  obtain ⟨hk,hn'⟩:=List.nodup_cons.mp hn
  by_cases e:a=k
  ·subst e
   rw [if_pos rfl,keyS_zero fun t ht=>if_neg fun e=>hk (by rw [e];exact ht)]
   omega
  ·rw [if_neg e,keyS_one hn' (h.imp id fun hm=>(List.mem_cons.mp hm).resolve_left e),Int.mul_zero]
   omega
theorem swapS {ks:List Int}(hn:ks.Nodup):∀ {l:List (Int × Int)},(∀ z∈l,z.1=0∨z.1∈ks)->keyS ks (sumAt l)=dotP l
 | [],_=>keyS_zero fun _ _=>rfl
 | z::l,h=>by
  have ih:=swapS hn (l:=l) fun y hy=>h y (List.mem_cons_of_mem _ hy)
  have e:sumAt (z::l)=fun t=>(if z.1=t then z.2 else 0)+sumAt l t:=rfl
  rw [e,keyS_add,keyS_one hn (h z List.mem_cons_self),ih]
  unfold dotP
  rw [List.map_cons,List.sum_cons]
def absI (p:Int):Int:=(p.natAbs:Int)
def loP (z:Int × Int):Int:=if 0 < z.1 then 0 else 1 - z.2
def hiP (z:Int × Int):Int:=if 0 < z.1 then z.2 - 1 else 0
def lowF (P:List (Int × Int)):Int->Int:=sumAt (P.map fun z=>(absI z.1,loP z))
def highF (P:List (Int × Int)):Int->Int:=sumAt (P.map fun z=>(absI z.1,hiP z))
def capF (P:List (Int × Int)):Int->Int:=sumAt (P.map fun z=>(absI z.1,z.2 - 1))
theorem high_low:∀ (P:List (Int × Int)) (t:Int),highF P t - lowF P t=capF P t
 | [],_=>rfl
 | z::P,t=>by
  have ih:=high_low P t
  unfold highF lowF capF at ih ⊢
  rw [List.map_cons,List.map_cons,List.map_cons]
  show (if absI z.1=t then hiP z else 0)+_ - ((if absI z.1=t then loP z else 0)+_)=(if absI z.1=t then z.2 - 1 else 0)+_
  by_cases e:absI z.1=t
  ·rw [if_pos e,if_pos e,if_pos e]
   have e1:loP z=(if 0 < z.1 then 0 else 1 - z.2):=rfl
   have e2:hiP z=(if 0 < z.1 then z.2 - 1 else 0):=rfl
   rw [e1,e2]
   split<;>omega
  ·rw [if_neg e,if_neg e,if_neg e];omega
def dotQ:List (Int × Int)->List Int->Int
 | z::P,y::ys=>z.1 * y+dotQ P ys
 | _,_=>0
def InP:List (Int × Int)->List Int->Prop
 | [],[]=>True
 | z::P,y::ys=>(0≤y∧y < z.2)∧InP P ys
 | _,_=>False
def takeL:List (Int × Int)->List Int->List (Int × Int)
 | z::P,y::ys=>(absI z.1,if 0 < z.1 then y else 0 - y)::takeL P ys
 | _,_=>[]
theorem take_bounds:∀ {P:List (Int × Int)}{ys:List Int},InP P ys->∀ t,lowF P t≤sumAt (takeL P ys) t∧sumAt (takeL P ys) t≤highF P t
 | [],[],_,_=>⟨Int.le_refl _,Int.le_refl _⟩
 | [],_::_,h,_=>h.elim
 | _::_,[],h,_=>h.elim
 | z::P,y::ys,h,t=>by
  have ih:=take_bounds h.2 t
  unfold lowF highF at ih ⊢
  rw [List.map_cons,List.map_cons]
  show (if absI z.1=t then loP z else 0)+_≤(if absI z.1=t then (if 0 < z.1 then y else 0 - y) else 0)+sumAt (takeL P ys) t∧(if absI z.1=t then (if 0 < z.1 then y else 0 - y) else 0)+sumAt (takeL P ys) t≤(if absI z.1=t then hiP z else 0)+_
  have:=h.1
  by_cases e:absI z.1=t
  ·rw [if_pos e,if_pos e,if_pos e]
   have e1:loP z=(if 0 < z.1 then 0 else 1 - z.2):=rfl
   have e2:hiP z=(if 0 < z.1 then z.2 - 1 else 0):=rfl
   rw [e1,e2]
   split<;>omega
  ·rw [if_neg e,if_neg e,if_neg e];omega
theorem take_dot:∀ {P:List (Int × Int)}{ys:List Int},InP P ys->dotP (takeL P ys)=dotQ P ys
 | [],[],_=>rfl
 | [],_::_,h=>h.elim
 | _::_,[],h=>h.elim
 | z::P,y::ys,h=>by
  have ih:=take_dot h.2
  unfold dotP at ih ⊢
  show (((absI z.1,if 0 < z.1 then y else 0 - y)::takeL P ys).map fun z=>z.1 * z.2).sum=z.1 * y+dotQ P ys
  rw [List.map_cons,List.sum_cons,ih]
  congr 1
  show absI z.1 * (if 0 < z.1 then y else 0 - y)=z.1 * y
  unfold absI
  split
  ·rw [show ((z.1.natAbs:Nat):Int)=z.1 by omega]
  ·rw [show ((z.1.natAbs:Nat):Int)=-z.1 by omega,Int.zero_sub,Int.neg_mul_neg]
theorem take_keys {ks:List Int}:∀ {P:List (Int × Int)}{ys:List Int},(∀ z∈P,absI z.1=0∨absI z.1∈ks)->∀ z∈takeL P ys,z.1=0∨z.1∈ks
 | [],_,_,_,h=>by cases h
 | _::_,[],_,_,h=>by cases h
 | z::P,y::ys,hk,q,hq=>by
  rcases List.mem_cons.mp hq with rfl|hq
  ·exact hk z List.mem_cons_self
  ·exact take_keys (fun x hx=>hk x (List.mem_cons_of_mem _ hx)) q hq
def termsF (ks:List Int) (P:List (Int × Int)):List Tm3:=ks.map fun t=>(t,lowF P t,highF P t)
theorem val_keys (P:List (Int × Int)) (f:Int->Int):∀ ks:List Int,valL (termsF ks P) (ks.map f)=keyS ks f
 | []=>rfl
 | k::ks=>by
  rw [keyS_cons,←val_keys P f ks]
  rfl
theorem in_keys {P:List (Int × Int)}{f:Int->Int}(h:∀ t,lowF P t≤f t∧f t≤highF P t):∀ ks:List Int,InB ((termsF ks P).map fun z=>z.2) (ks.map f)
 | []=>trivial
 | k::ks=>⟨h k,in_keys h ks⟩
theorem first_sol {ks:List Int}{P:List (Int × Int)}{ys:List Int}{g:Int}(hn:ks.Nodup) (hk:∀ z∈P,absI z.1=0∨absI z.1∈ks) (hy:InP P ys) (hg:dotQ P ys=g):∃ xs,InB ((termsF ks P).map fun z=>z.2) xs∧valL (termsF ks P) xs=g:=
 ⟨ks.map (sumAt (takeL P ys)),in_keys (take_bounds hy) ks,by rw [val_keys,swapS hn (take_keys hk),take_dot hy,hg]⟩
def tkF (z:Int × Int) (L:Int->Int):Int:=if L (absI z.1) < z.2 - 1 then L (absI z.1) else z.2 - 1
def updF (L:Int->Int) (a v:Int):Int->Int:=fun t=>if t=a then v else L t
def fillF:(Int->Int)->List (Int × Int)->List Int
 | _,[]=>[]
 | L,z::P=>(if 0≤z.1 then tkF z L else z.2 - 1 - tkF z L)::fillF (updF L (absI z.1) (L (absI z.1) - tkF z L)) P
theorem cap_cons (z:Int × Int) (P:List (Int × Int)) (t:Int):capF (z::P) t=(if absI z.1=t then z.2 - 1 else 0)+capF P t:=rfl
theorem cap_nn:∀ {P:List (Int × Int)},(∀ z∈P,(1:Int)≤z.2)->∀ t,0≤capF P t
 | [],_,_=>Int.le_refl _
 | z::P,h,t=>by
  have ih:=cap_nn (P:=P) (fun y hy=>h y (List.mem_cons_of_mem _ hy)) t
  have:=h z List.mem_cons_self
  rw [cap_cons]
  split<;>omega
theorem fill_step {z:Int × Int}{P:List (Int × Int)}{L:Int->Int}(h1:1≤z.2) (hP:∀ y∈P,(1:Int)≤y.2) (h:∀ t,0≤L t∧L t≤capF (z::P) t):(0≤tkF z L∧tkF z L≤z.2 - 1)∧∀ t,0≤updF L (absI z.1) (L (absI z.1) - tkF z L) t∧updF L (absI z.1) (L (absI z.1) - tkF z L) t≤capF P t:=by
 have ha:=h (absI z.1)
 rw [cap_cons,if_pos rfl] at ha
 have hc:=cap_nn hP (absI z.1)
 refine ⟨by unfold tkF;split<;>omega,fun t=>?_⟩
 unfold updF
 by_cases e:t=absI z.1
 ·rw [if_pos e,e]
  unfold tkF
  split<;>omega
 ·rw [if_neg e]
  have:=h t
  rw [cap_cons,if_neg (fun q=>e q.symm)] at this
  omega
theorem fill_in:∀ {P:List (Int × Int)}{L:Int->Int},(∀ y∈P,(1:Int)≤y.2)->(∀ t,0≤L t∧L t≤capF P t)->InP P (fillF L P)
 | [],_,_,_=>trivial
 | z::P,L,h1,h=>by
  have hP:∀ y∈P,(1:Int)≤y.2:=fun y hy=>h1 y (List.mem_cons_of_mem _ hy)
  obtain ⟨a,b⟩:=fill_step (h1 z List.mem_cons_self) hP h
  refine ⟨?_,fill_in hP b⟩
  show 0≤(if 0≤z.1 then tkF z L else z.2 - 1 - tkF z L)∧(if 0≤z.1 then tkF z L else z.2 - 1 - tkF z L) < z.2
  split<;>omega
theorem fill_dot {ks:List Int}(hn:ks.Nodup):∀ {P:List (Int × Int)}{L:Int->Int},(∀ y∈P,(1:Int)≤y.2)->(∀ z∈P,absI z.1=0∨absI z.1∈ks)->(∀ t,0≤L t∧L t≤capF P t)->dotQ P (fillF L P)=dotP (P.map fun z=>(absI z.1,loP z))+keyS ks L
 | [],L,_,_,h=>by
  rw [keyS_zero fun t _=>by have:=h t;have e:capF [] t=0:=rfl;omega]
  rfl
 | z::P,L,h1,hk,h=>by
  have hP:∀ y∈P,(1:Int)≤y.2:=fun y hy=>h1 y (List.mem_cons_of_mem _ hy)
  obtain ⟨a,b⟩:=fill_step (h1 z List.mem_cons_self) hP h
  have ih:=fill_dot hn hP (fun y hy=>hk y (List.mem_cons_of_mem _ hy)) b
  have hL:L=fun t=>updF L (absI z.1) (L (absI z.1) - tkF z L) t+(if absI z.1=t then tkF z L else 0):=funext fun t=>by
   unfold updF
   by_cases e:t=absI z.1
   ·rw [if_pos e,if_pos e.symm,e];omega
   ·rw [if_neg e,if_neg (fun q=>e q.symm)];omega
  have hkS:keyS ks L=keyS ks (updF L (absI z.1) (L (absI z.1) - tkF z L))+absI z.1 * tkF z L:=by
   conv=>lhs;rw [hL]
   rw [keyS_add,keyS_one hn (hk z List.mem_cons_self)]
  show z.1 * (if 0≤z.1 then tkF z L else z.2 - 1 - tkF z L)+dotQ P (fillF (updF L (absI z.1) (L (absI z.1) - tkF z L)) P)=dotP ((absI z.1,loP z)::P.map fun z=>(absI z.1,loP z))+keyS ks L
  rw [ih,hkS]
  unfold dotP
  rw [List.map_cons,List.sum_cons]
  have key:z.1 * (if 0≤z.1 then tkF z L else z.2 - 1 - tkF z L)=absI z.1 * loP z+absI z.1 * tkF z L:=by
   have e1:loP z=(if 0 < z.1 then 0 else 1 - z.2):=rfl
   rw [e1]
   unfold absI
   rcases Int.lt_trichotomy z.1 0 with h|h|h
   ·rw [if_neg (by omega),if_neg (by omega),show ((z.1.natAbs:Nat):Int)=-z.1 by omega,←Int.mul_add,show 1 - z.2+tkF z L=-(z.2 - 1 - tkF z L) by omega,Int.neg_mul_neg]
   ·rw [h];simp
   ·rw [if_pos (by omega),if_pos h,show ((z.1.natAbs:Nat):Int)=z.1 by omega,Int.mul_zero,Int.zero_add]
  rw [key]
  dsimp only
  omega
def leftF:List Tm3->List Int->Int->Int
 | z::zs,x::xs=>fun t=>if z.1=t then x - z.2.1 else leftF zs xs t
 | _,_=>fun _=>0
theorem left_bounds {P:List (Int × Int)}(hc:∀ t,0≤capF P t):∀ {ks:List Int}{xs:List Int},InB ((termsF ks P).map fun z=>z.2) xs->∀ t,0≤leftF (termsF ks P) xs t∧leftF (termsF ks P) xs t≤capF P t
 | [],[],_,t=>⟨Int.le_refl _,hc t⟩
 | [],_::_,h,_=>h.elim
 | _::_,[],h,_=>h.elim
 | k::ks,x::xs,h,t=>by
  show 0≤(if k=t then x - lowF P k else leftF (termsF ks P) xs t)∧(if k=t then x - lowF P k else leftF (termsF ks P) xs t)≤capF P t
  by_cases e:k=t
  ·rw [if_pos e]
   have h1:lowF P k≤x∧x≤highF P k:=h.1
   have:=high_low P k
   rw [←e]
   omega
  ·rw [if_neg e]
   exact left_bounds hc h.2 t
theorem left_key {P:List (Int × Int)}:∀ {ks:List Int}{xs:List Int},ks.Nodup->InB ((termsF ks P).map fun z=>z.2) xs->keyS ks (leftF (termsF ks P) xs)=valL (termsF ks P) xs - keyS ks (lowF P)
 | [],[],_,_=>rfl
 | [],_::_,_,h=>h.elim
 | _::_,[],_,h=>h.elim
 | k::ks,x::xs,hn,h=>by
  obtain ⟨hk,hn'⟩:=List.nodup_cons.mp hn
  have ih:=left_key hn' h.2
  rw [keyS_cons,keyS_cons]
  have e1:leftF (termsF (k::ks) P) (x::xs) k=x - lowF P k:=by
   show (if k=k then x - lowF P k else leftF (termsF ks P) xs k)=_
   rw [if_pos rfl]
  have e2:keyS ks (leftF (termsF (k::ks) P) (x::xs))=keyS ks (leftF (termsF ks P) xs):=keyS_congr fun t ht=>by
   show (if k=t then x - lowF P k else leftF (termsF ks P) xs t)=_
   rw [if_neg fun e=>hk (by rw [e];exact ht)]
  rw [e1,e2,ih]
  show _=k * x+valL (termsF ks P) xs - _
  rw [Int.mul_sub]
  omega
theorem meet {ks:List Int}{P:List (Int × Int)}{xs:List Int}(hn:ks.Nodup) (h1:∀ y∈P,(1:Int)≤y.2) (hk:∀ z∈P,absI z.1=0∨absI z.1∈ks) (hx:InB ((termsF ks P).map fun z=>z.2) xs):InP P (fillF (leftF (termsF ks P) xs) P)∧dotQ P (fillF (leftF (termsF ks P) xs) P)=valL (termsF ks P) xs:=by
 have hb:=left_bounds (cap_nn h1) hx
 refine ⟨fill_in h1 hb,?_⟩
 rw [fill_dot hn h1 hk hb,left_key hn hx]
 have:keyS ks (lowF P)=dotP (P.map fun z=>(absI z.1,loP z)):=swapS hn fun z hz=>by
  obtain ⟨y,hy,rfl⟩:=List.mem_map.mp hz
  exact hk y hy
 omega
def prodF (ks:List Int) (f:Int->Int):Int:=ks.foldr (fun t r=>(1+f t) * r) 1
theorem prodF_pos {f:Int->Int}(h:∀ t,0≤f t):∀ ks:List Int,1≤prodF ks f
 | []=>Int.le_refl _
 | k::ks=>by
  have ih:=prodF_pos h ks
  have:=h k
  have m:=Int.mul_le_mul (show (1:Int)≤1+f k by omega) ih (by decide) (by omega)
  show 1≤(1+f k) * prodF ks f
  omega
theorem prodF_same {f g:Int->Int}:∀ {ks:List Int},(∀ t∈ks,f t=g t)->prodF ks f=prodF ks g
 | [],_=>rfl
 | k::ks,h=>by
  show (1+f k) * prodF ks f=(1+g k) * prodF ks g
  rw [h k List.mem_cons_self,prodF_same fun t ht=>h t (List.mem_cons_of_mem _ ht)]
theorem prodF_step {f:Int->Int}{a d:Int}(hf:∀ t,0≤f t) (hd:0≤d):∀ {ks:List Int},ks.Nodup->prodF ks (fun t=>(if a=t then d else 0)+f t)≤(1+d) * prodF ks f
 | [],_=>by show 1≤(1+d) * 1;omega
 | k::ks,hn=>by
  obtain ⟨hk,hn'⟩:=List.nodup_cons.mp hn
  have hp:=prodF_pos hf ks
  have h0:=hf k
  show (1+((if a=k then d else 0)+f k)) * prodF ks (fun t=>(if a=t then d else 0)+f t)≤(1+d) * ((1+f k) * prodF ks f)
  by_cases e:a=k
  ·subst e
   rw [if_pos rfl,prodF_same (g:=f) fun t ht=>by rw [if_neg fun e=>hk (by rw [e];exact ht),Int.zero_add],←Int.mul_assoc]
   refine Int.mul_le_mul_of_nonneg_right ?_ (by omega)
   have:=Int.mul_nonneg hd h0
   rw [Int.add_mul,Int.one_mul,Int.mul_add,Int.mul_one]
   omega
  ·rw [if_neg e,Int.zero_add]
   have ih:=prodF_step (a:=a) hf hd hn'
   have:=Int.mul_le_mul_of_nonneg_left ih (show 0≤1+f k by omega)
   rw [←Int.mul_assoc,Int.mul_comm (1+f k) (1+d),Int.mul_assoc] at this
   exact this
theorem prodF_le {ks:List Int}(hn:ks.Nodup):∀ {P:List (Int × Int)},(∀ y∈P,(1:Int)≤y.2)->prodF ks (capF P)≤(P.foldr (fun z r=>z.2 * r) 1)
 | [],_=>by
  have:∀ ks:List Int,prodF ks (capF [])=1:=fun ks=>by
   induction ks with
   | nil=>rfl
   | cons k ks ih=>show (1+0) * prodF ks (capF [])=1;rw [ih];rfl
  rw [this]
  exact Int.le_refl _
 | z::P,h=>by
  have hP:∀ y∈P,(1:Int)≤y.2:=fun y hy=>h y (List.mem_cons_of_mem _ hy)
  have ih:=prodF_le hn hP
  have hz:=h z List.mem_cons_self
  have e:capF (z::P)=fun t=>(if absI z.1=t then z.2 - 1 else 0)+capF P t:=rfl
  have st:=prodF_step (a:=absI z.1) (d:=z.2 - 1) (cap_nn hP) (by omega) hn
  rw [e]
  have m:=Int.mul_le_mul_of_nonneg_left ih (show 0≤z.2 by omega)
  rw [show 1+(z.2 - 1)=z.2 by omega] at st
  exact Int.le_trans st m
theorem vol_terms (P:List (Int × Int)):∀ ks:List Int,volL ((termsF ks P).map fun z=>z.2)=prodF ks (capF P)
 | []=>rfl
 | k::ks=>by
  show (highF P k - lowF P k+1) * volL ((termsF ks P).map fun z=>z.2)=(1+capF P k) * prodF ks (capF P)
  rw [vol_terms P ks,high_low,Int.add_comm]
def pullL (A B:List (Int × Int)):List (Int × Int):=(A.map fun a=>(a.2,a.1))++B.map fun a=>(-a.2,a.1)
theorem use_cat {l b:Addr}{xs ys:List V}{H:Hp}{Q:VK}(h:H l=some (.lst xs)) (h':H b=some (.lst ys)) (hl:xs.length+ys.length≤sizeLine) (q:newK (.lst (xs++ys)) H Q):kOp' nCat (.ref l) Q (.ref b) H:=by
 rw [m_kOp',m_nCat,lstAt,h]
 show optK (lstAt H b) (kNC2 xs H Q)
 rw [lstAt,h']
 exact ⟨hl,q⟩
theorem al_app' {α:Type}{R:α->V->Prop}{as bs:List α}{xs ys:List V}(h1:Al R as xs) (h2:Al R bs ys):Al R (as++bs) (xs++ys):=by
 refine ⟨by rw [List.length_append,List.length_append,h1.1,h2.1],fun i z y hz hy=>?_⟩
 by_cases hi:i < as.length
 ·rw [List.getElem?_append_left hi] at hz
  rw [List.getElem?_append_left (by rw [h1.1];exact hi)] at hy
  exact h1.2 i z y hz hy
 ·rw [List.getElem?_append_right (by omega)] at hz
  rw [List.getElem?_append_right (by rw [h1.1];omega),h1.1] at hy
  exact h2.2 _ z y hz hy
theorem al_mapR {α β:Type}{R:β->V->Prop}{f:α->β}{as:List α}{ys:List V}(h:Al (fun a y=>R (f a) y) as ys):Al R (as.map f) ys:=by
 refine ⟨by rw [List.length_map];exact h.1,fun i z y hz hy=>?_⟩
 rw [List.getElem?_map] at hz
 obtain ⟨a,ha,rfl⟩:=Option.map_eq_some_iff.mp hz
 exact h.2 i a y ha hy
abbrev B_spPulls (C:Addr) (u:Addr) (v:Addr) (H:Hp) (Q:VK) (E:XK):Prop:=∃ (r1 r2 f1 f2:Int) (A B:List (Int × Int)),ViewAt C H u r1 f1 A∧ViewAt C H v r2 f2 B∧A.length≤8∧B.length≤8∧∀ (r:Addr) (H':Hp),H r=none->Ext H H'->PrAt H' r (pullL A B)->Q (.ref r) H'
def spPulls (C:Addr):Sp:=fun vs H Q E=>∃ (u:Addr) (v:Addr),vs=[.ref u,.ref v]∧(B_spPulls C u v H Q E)
theorem c_spPulls (C:Addr) (u:Addr) (v:Addr) (H:Hp) (Q:VK) (E:XK):spPulls C [.ref u,.ref v] H Q E=(B_spPulls C u v H Q E):=spx2 (f:=fun (u:Addr) (v:Addr)=>[.ref u,.ref v]) (fun _ _ _ _ h=>by cases h;exact ⟨rfl,rfl⟩) u v
theorem l_spPulls (C:Addr){vs:List V}{H:Hp}{Q:VK}{E:XK}(h:spPulls C vs H Q E):vs.length=2:=spl2 h fun _ _=>rfl
theorem ok_pulls (T:Tx K mg t):FnOk P w K mg base CX0 1 t.a_pulls t.d_pulls ["one", "other"] (spPulls t.a_View):=by
 refine T.F_pulls.ok c_pulls (fun vs H Q E h=>l_spPulls _ h) (fun cdv A outer s H vs Q E hr h=>?_)
 ·obtain ⟨u,v,rfl,r1,r2,f1,f2,A,B,vu,vv,hA,hB,k⟩:=h
  obtain ⟨dx,l,hu,ys,hl,al⟩:=vu.ob
  obtain ⟨dy,l2,hv,ys2,hl2,al2⟩:=vv.ob
  have c1:=T.cl_View
  have c3:=T.na_View_axes
  have g1:=viewF_axes r1 f1 l
  have g2:=viewF_axes r2 f2 l2
  refine ⟨_,(@pss_one _ _ _ (@ps_ret _ _ _ _ (@pe_op _ _ _ _ _ _ _ _ op_nCat (@pe_comp _ _ _ _ _ _ _ _ _ _ _ (["size", "pace", "one", "other"]) (2) (comp_ok (defScope s_pulls) ["one", "other"] rfl rfl (by decide +kernel)) rfl (@pi_seq _ _ _ _ (@pe_nFld _ _ _ _ _ (@pvN _ 0 _ _ (by rfl) (by trivial) (by decide) (by decide)) rfl)) (fun C s₀ H₀ ex pn=>((@pg_tup _ _ _ _ _ (2) rfl (@pgs_consN _ _ _ _ _ (@pg_name _ _ (0) _ (show List.Nodup (["size", "pace", "one", "other"]:List Str) from by decide +kernel) rfl (Or.inl rfl) (by trivial)) (@pgs_consN _ _ _ _ _ (@pg_name _ _ (1) _ (show List.Nodup (["size", "pace", "one", "other"]:List Str) from by decide +kernel) rfl (Or.inl rfl) (by trivial)) (@pgs_nilN _) (by rfl)) (by rfl)) (by rfl) (by rfl)).mono fun _ _ _ _ h=>gTup_q h)) (fun C s₀ H₀ ex pn=>(@pts_nil _)) (fun C s₀ H₀ ex pn=>(@pe_qTup _ _ _ _ _ (@pa_c _ _ _ _ _ (@pvN _ 1 _ _ (by rfl) (by trivial) (by decide) (by decide)) (@pa_c _ _ _ _ _ (@pvN _ 0 _ _ (by rfl) (by trivial) (by decide) (by decide)) (@pa_nil _) (by rfl)) (by rfl)))) (by intros;rfl)) (@pe_comp _ _ _ _ _ _ _ _ _ _ _ (["size", "pace", "one", "other"]) (2) (comp_ok (defScope s_pulls) ["one", "other"] rfl rfl (by decide +kernel)) rfl (@pi_seq _ _ _ _ (@pe_nFld _ _ _ _ _ (@pvN _ 1 _ _ (by rfl) (by trivial) (by decide) (by decide)) rfl)) (fun C s₀ H₀ ex pn=>((@pg_tup _ _ _ _ _ (2) rfl (@pgs_consN _ _ _ _ _ (@pg_name _ _ (0) _ (show List.Nodup (["size", "pace", "one", "other"]:List Str) from by decide +kernel) rfl (Or.inl rfl) (by trivial)) (@pgs_consN _ _ _ _ _ (@pg_name _ _ (1) _ (show List.Nodup (["size", "pace", "one", "other"]:List Str) from by decide +kernel) rfl (Or.inl rfl) (by trivial)) (@pgs_nilN _) (by rfl)) (by rfl)) (by rfl) (by rfl)).mono fun _ _ _ _ h=>gTup_q h)) (fun C s₀ H₀ ex pn=>(@pts_nil _)) (fun C s₀ H₀ ex pn=>(@pe_qTup _ _ _ _ _ (@pa_c _ _ _ _ _ (@pe_un _ _ _ _ _ _ un_negN (@pvN _ 1 _ _ (by rfl) (by trivial) (by decide) (by decide))) (@pa_c _ _ _ _ _ (@pvN _ 0 _ _ (by rfl) (by trivial) (by decide) (by decide)) (@pa_nil _) (by rfl)) (by rfl)))) (by intros;rfl))))),?_⟩
  rw [show start ["one", "other"] [.ref u,.ref v]=[some (.ref u),some (.ref v)] from rfl]
  replace k:=fun (_:Unit)=>k
  simp! only [and_true]
  have wk:=wk_al (K:=K) (R:=axP) (fun _ _ _ _ h e=>h.ext e) hl (al_axP al)
  refine comp_rel2 A (fun _=>true) axP (fun D a y H'=>axP (a.2,a.1) y H') wk.1 wk.2 (fun D a y H1 H2 h e=>axP.ext (a:=(a.2,a.1)) h e) (fun D a y H1 xs o h hD=>axP.upd (z:=(a.2,a.1)) h hD) (len5000 (by omega)) ?_ ?_
  ·intro D a x H' N1 N0 ha hD e _ ⟨q,hx,hq⟩ k1 _
   subst hx
   have k1':=k1 rfl
   clear k1 k wk
   simp! only [↓m_kCm_2,↓m_kCm2]
   intro t1 H6 ht1 e6 h6
   exact k1' _ H6 e6 ⟨t1,rfl,h6⟩
  intro D xs1 H1 hD e1 h1 al1
  rw [filt] at al1
  have hv1:=e1.at hv
  have hl21:=e1.at hl2
  replace al1:=fun (_:Unit)=>al1
  clear wk
  have wk:=wk_al (K:=K) (R:=axP) (fun _ _ _ _ h e=>h.ext e) hl21 ((al_axP al2).imp fun _ _ t=>axP.ext t e1)
  simp! only [and_true]
  refine comp_rel2 B (fun _=>true) axP (fun D a y H'=>axP (-a.2,a.1) y H') wk.1 wk.2 (fun D a y H1 H2 h e=>axP.ext (a:=(-a.2,a.1)) h e) (fun D a y H1 xs o h hD=>axP.upd (z:=(-a.2,a.1)) h hD) (len5000 (by omega)) ?_ ?_
  ·intro D a x H' N1 N0 ha hD e _ ⟨q,hx,hq⟩ k1 _
   subst hx
   have k1':=k1 rfl
   clear k1 k wk
   simp! only [↓m_kCm_2,↓m_kCm2]
   intro t1 H6 ht1 e6 h6
   exact k1' _ H6 e6 ⟨t1,rfl,h6⟩
  intro D2 xs2 H2 hD2 e2 h2 al2'
  rw [filt] at al2'
  have h1_2:=e2.at h1
  have n1:xs1.length=A.length:=(al1 ()).1
  have n2:xs2.length=B.length:=al2'.1
  have fin:Al (fun z y=>axP z y H2) (pullL A B) (xs1++xs2):=al_app' (al_mapR ((al1 ()).imp fun _ _ t=>axP.ext t e2)) (al_mapR al2')
  replace fin:=fun (_:Unit)=>fin
  clear wk al1 al2' hv1 hl21
  refine use_cat h1_2 h2 (len5000 (by omega)) ?_
  intro D3 H3 hD3 e3 h3
  exact k () D3 H3 ((e1.trans e2).free hD3) (e1.trans (e2.trans e3)) ⟨_,h3,(fin ()).imp fun _ _ t=>axP.ext t e3⟩
abbrev B_spRooms (C:Addr) (u:Addr) (v:Addr) (H:Hp) (Q:VK) (E:XK):Prop:=∃ (room f1 f2:Int) (A B:List (Int × Int)),ViewAt C H u room f1 A∧ViewAt C H v room f2 B∧Q .non H
def spRooms (C:Addr):Sp:=fun vs H Q E=>∃ (u:Addr) (v:Addr),vs=[.ref u,.ref v]∧(B_spRooms C u v H Q E)
theorem c_spRooms (C:Addr) (u:Addr) (v:Addr) (H:Hp) (Q:VK) (E:XK):spRooms C [.ref u,.ref v] H Q E=(B_spRooms C u v H Q E):=spx2 (f:=fun (u:Addr) (v:Addr)=>[.ref u,.ref v]) (fun _ _ _ _ h=>by cases h;exact ⟨rfl,rfl⟩) u v
theorem l_spRooms (C:Addr){vs:List V}{H:Hp}{Q:VK}{E:XK}(h:spRooms C vs H Q E):vs.length=2:=spl2 h fun _ _=>rfl
theorem ok_refuse_rooms (T:Tx K mg t):FnOk P w K mg base CX0 1 t.a_refuse_rooms t.d_refuse_rooms ["one", "other"] (spRooms t.a_View):=by
 refine T.F_refuse_rooms.ok c_refuse_rooms (fun vs H Q E h=>l_spRooms _ h) (fun cdv A outer s H vs Q E hr h=>?_)
 ·obtain ⟨u,v,rfl,room,f1,f2,A,B,vu,vv,k⟩:=h
  obtain ⟨dx,D,hu,_⟩:=vu.ob
  obtain ⟨dy,D2,hv,_⟩:=vv.ob
  have c1:=T.cl_View
  have c4:=T.na_View_room
  have g1:=viewF_room room f1 D
  have g2:=viewF_room room f2 D2
  refine ⟨_,(@pss_one _ _ _ (@ps_if _ _ _ _ _ _ _ _ (@pt_cmpRN _ _ _ _ _ _ _ _ (op_qNe hr.units) (@pe_nFld _ _ _ _ _ (@pvN _ 0 _ _ (by rfl) (by trivial) (by decide) (by decide)) rfl) (@pe_nFld _ _ _ _ _ (@pvN _ 1 _ _ (by rfl) (by trivial) (by decide) (by decide)) rfl) (nomark _)) (@pss_one _ _ _ (@ps_never _ _)) (@pss_nil _))),?_⟩
  rw [show start ["one", "other"] [.ref u,.ref v]=[some (.ref u),some (.ref v)] from rfl]
  simp! only [and_true]
theorem putK_keys {kvs:List (Key × V)}{k:Key}(v:V){x:V}(h:valV kvs k=some x):(putK kvs k v).map (·.1)=kvs.map (·.1):=by
 unfold putK
 rw [valV_any,h,Option.isSome_some,if_pos rfl,List.map_map]
 refine List.map_congr_left fun p _=>?_
 show (if p.1=k then (p.1,v) else p).1=p.1
 split<;>rfl
theorem sumAt_snoc:∀ (l:List (Int × Int)) (z:Int × Int) (t:Int),sumAt (l++[z]) t=sumAt l t+(if z.1=t then z.2 else 0)
 | [],z,t=>by show (if z.1=t then z.2 else 0)+0=0+_;omega
 | y::l,z,t=>by
  show (if y.1=t then y.2 else 0)+sumAt (l++[z]) t=(if y.1=t then y.2 else 0)+sumAt l t+_
  rw [sumAt_snoc l z t];omega
theorem low_snoc (P:List (Int × Int)) (z:Int × Int) (t:Int):lowF (P++[z]) t=lowF P t+(if absI z.1=t then loP z else 0):=by
 unfold lowF;rw [List.map_append];exact sumAt_snoc _ _ _
theorem high_snoc (P:List (Int × Int)) (z:Int × Int) (t:Int):highF (P++[z]) t=highF P t+(if absI z.1=t then hiP z else 0):=by
 unfold highF;rw [List.map_append];exact sumAt_snoc _ _ _
theorem sumAt_out {f:Int × Int->Int}{t:Int}:∀ {P:List (Int × Int)},(∀ z∈P,¬ absI z.1=t)->sumAt (P.map fun z=>(absI z.1,f z)) t=0
 | [],_=>rfl
 | z::P,h=>by
  rw [List.map_cons]
  show (if absI z.1=t then f z else 0)+_=0
  rw [if_neg (h z List.mem_cons_self),sumAt_out fun y hy=>h y (List.mem_cons_of_mem _ hy)]
  rfl
theorem putK_keysN {kvs:List (Key × V)}{k:Key}{v:V}(h:valV kvs k=none):(putK kvs k v).map (·.1)=kvs.map (·.1)++[k]:=by
 have hn:=L2.valV_not h
 unfold putK
 split
 ·rename_i hc
  exact absurd hc (by
   intro hc
   apply hn
   simpa [List.mem_map] using hc)
 ·rw [List.map_append];rfl
structure GatI (P:List (Int × Int)) (ks:List Int) (k1 k2:List (Key × V)):Prop where
 e1:k1.map (·.1)=ks.map (Sum.inl:Int->Key)
 e2:k2.map (·.1)=ks.map (Sum.inl:Int->Key)
 nd:ks.Nodup
 len:ks.length≤P.length
 v1:∀ t∈ks,valV k1 (.inl t)=some (.int (lowF P t))
 v2:∀ t∈ks,valV k2 (.inl t)=some (.int (highF P t))
 mem:∀ t,t∈ks ↔ t ≠ 0∧∃ z∈P,absI z.1=t
theorem keys_not {kvs:List (Key × V)}{ks:List Int}{t:Int}(e:kvs.map (·.1)=ks.map (Sum.inl:Int->Key)) (h:¬ t∈ks):valV kvs (.inl t)=none:=by
 cases hv:valV kvs (.inl t) with
 | none=>rfl
 | some v=>
  exfalso
  unfold valV at hv
  obtain ⟨kv,hf,rfl⟩:=Option.map_eq_some_iff.mp hv
  have e2:=List.find?_some hf
  have e3:kv.1=.inl t:=of_decide_eq_true e2
  have hm:kv.1∈kvs.map (·.1):=List.mem_map.mpr ⟨kv,List.mem_of_find?_eq_some hf,rfl⟩
  rw [e,e3] at hm
  obtain ⟨x,hx,ex⟩:=List.mem_map.mp hm
  cases ex
  exact h hx
theorem GatI.get {P:List (Int × Int)}{ks:List Int}{k1 k2:List (Key × V)}(h:GatI P ks k1 k2){t:Int}(ht:t ≠ 0):(valV k1 (.inl t)).getD (.int 0)=.int (lowF P t)∧(valV k2 (.inl t)).getD (.int 0)=.int (highF P t):=by
 by_cases hm:t∈ks
 ·rw [h.v1 t hm,h.v2 t hm];exact ⟨rfl,rfl⟩
 ·have hno:∀ z∈P,¬ absI z.1=t:=fun z hz e=>hm ((h.mem t).mpr ⟨ht,z,hz,e⟩)
  rw [keys_not h.e1 hm,keys_not h.e2 hm]
  unfold lowF highF
  rw [sumAt_out hno,sumAt_out hno]
  exact ⟨rfl,rfl⟩
theorem GatI.nil:GatI [] [] [] []:=⟨rfl,rfl,List.nodup_nil,Nat.le_refl _,(fun t h=>by cases h),(fun t h=>by cases h),fun t=>⟨(fun h=>by cases h),fun ⟨_,z,hz,_⟩=>by cases hz⟩⟩
theorem GatI.skip {P:List (Int × Int)}{ks:List Int}{k1 k2:List (Key × V)}{z:Int × Int}(h:GatI P ks k1 k2) (hz:z.1=0):GatI (P++[z]) ks k1 k2:=by
 have h0:absI z.1=0:=by rw [hz];rfl
 have hne:∀ t∈ks,¬ absI z.1=t:=fun t ht e=>((h.mem t).mp ht).1 (by rw [←e];exact h0)
 refine ⟨h.e1,h.e2,h.nd,by rw [List.length_append];have:=h.len;omega,fun t ht=>?_,fun t ht=>?_,fun t=>?_⟩
 ·rw [h.v1 t ht,low_snoc,if_neg (hne t ht),Int.add_zero]
 ·rw [h.v2 t ht,high_snoc,if_neg (hne t ht),Int.add_zero]
 ·rw [h.mem t]
  constructor
  ·rintro ⟨a,y,hy,e⟩
   exact ⟨a,y,List.mem_append_left _ hy,e⟩
  ·rintro ⟨a,y,hy,e⟩
   rcases List.mem_append.mp hy with hy|hy
   ·exact ⟨a,y,hy,e⟩
   ·rw [List.mem_singleton.mp hy,h0] at e
    exact absurd e.symm a
theorem GatI.put {P:List (Int × Int)}{ks:List Int}{k1 k2:List (Key × V)}{z:Int × Int}(h:GatI P ks k1 k2) (hz:z.1 ≠ 0):∃ ks',GatI (P++[z]) ks' (putK k1 (.inl (absI z.1)) (.int (lowF P (absI z.1)+loP z))) (putK k2 (.inl (absI z.1)) (.int (highF P (absI z.1)+hiP z))):=by
 have h0:absI z.1 ≠ 0:=by unfold absI;omega
 have hv:∀ (k:List (Key × V)) (v:V) (t:Int),valV (putK k (.inl (absI z.1)) v) (.inl t)=if absI z.1=t then some v else valV k (.inl t):=fun k v t=>by
  rw [valV_put]
  by_cases e:absI z.1=t
  ·rw [if_pos e,if_pos (by rw [e])]
  ·rw [if_neg e,if_neg (fun q=>e (by cases q;rfl))]
 have fin:∀ ks',(∀ t,t∈ks' ↔ t∈ks∨t=absI z.1)->(putK k1 (.inl (absI z.1)) (.int (lowF P (absI z.1)+loP z))).map (·.1)=ks'.map (Sum.inl:Int->Key)->(putK k2 (.inl (absI z.1)) (.int (highF P (absI z.1)+hiP z))).map (·.1)=ks'.map (Sum.inl:Int->Key)->ks'.Nodup->ks'.length≤ks.length+1->GatI (P++[z]) ks' (putK k1 (.inl (absI z.1)) (.int (lowF P (absI z.1)+loP z))) (putK k2 (.inl (absI z.1)) (.int (highF P (absI z.1)+hiP z))):=fun ks' hm a1 a2 a3 a4=>by
  refine ⟨a1,a2,a3,by rw [List.length_append,List.length_singleton];have:=h.len;omega,fun t ht=>?_,fun t ht=>?_,fun t=>?_⟩
  ·rw [hv,low_snoc]
   by_cases e:absI z.1=t
   ·rw [if_pos e,if_pos e,e]
   ·rw [if_neg e,if_neg e,Int.add_zero]
    exact h.v1 t (((hm t).mp ht).resolve_right fun q=>e q.symm)
  ·rw [hv,high_snoc]
   by_cases e:absI z.1=t
   ·rw [if_pos e,if_pos e,e]
   ·rw [if_neg e,if_neg e,Int.add_zero]
    exact h.v2 t (((hm t).mp ht).resolve_right fun q=>e q.symm)
  ·rw [hm t,h.mem t]
   constructor
   ·rintro (⟨a,y,hy,e⟩|e)
    ·exact ⟨a,y,List.mem_append_left _ hy,e⟩
    ·exact ⟨by rw [e];exact h0,z,List.mem_append_right _ List.mem_cons_self,e.symm⟩
   ·rintro ⟨a,y,hy,e⟩
    rcases List.mem_append.mp hy with hy|hy
    ·exact .inl ⟨a,y,hy,e⟩
    ·rw [List.mem_singleton.mp hy] at e
     exact .inr e.symm
 by_cases hm:absI z.1∈ks
 ·refine ⟨ks,fin ks (fun t=>⟨.inl,fun q=>q.elim id fun e=>by rw [e];exact hm⟩) ?_ ?_ h.nd (by omega)⟩
  ·rw [putK_keys _ (h.v1 _ hm)];exact h.e1
  ·rw [putK_keys _ (h.v2 _ hm)];exact h.e2
 ·refine ⟨ks++[absI z.1],fin _ (fun t=>by rw [List.mem_append,List.mem_singleton]) ?_ ?_ ?_ (by rw [List.length_append];exact Nat.le_refl _)⟩
  ·rw [putK_keysN (keys_not h.e1 hm),h.e1,List.map_append];rfl
  ·rw [putK_keysN (keys_not h.e2 hm),h.e2,List.map_append];rfl
  ·rw [List.nodup_append]
   exact ⟨h.nd,by simp,fun a ha b hb e=>hm (by rw [List.mem_singleton] at hb;rw [←hb,←e];exact ha)⟩
structure KsOk (ks:List Int) (P:List (Int × Int)):Prop where
 nd:ks.Nodup
 len:ks.length≤P.length
 mem:∀ t,t∈ks ↔ t ≠ 0∧∃ z∈P,absI z.1=t
 ord:ks.Pairwise (· ≥ ·)
theorem trP.upd {z:Tm3}{y:V}{H:Hp}{p:Addr}{xs:List V}{o:HO}(h:trP z y H) (hp:H p=some (.lst xs)):trP z y (upd H p o):=by
 obtain ⟨q,rfl,hq⟩:=h
 exact ⟨q,rfl,by rw [upd_ne (fun e=>by rw [e,hp] at hq;cases hq)];exact hq⟩
abbrev B_spGath (C:Addr) (u:Addr) (v:Addr) (H:Hp) (Q:VK) (E:XK):Prop:=∃ (room f1 f2:Int) (A B:List (Int × Int)),ViewAt C H u room f1 A∧ViewAt C H v room f2 B∧Axes A∧Axes B∧∀ (ks:List Int) (l r:Addr) (H':Hp),H l=none->Ext H H'->H' r=some (.tup [.ref l,.int (f2 - f1)])->TrAt H' l (termsF ks (pullL A B))->KsOk ks (pullL A B)->Q (.ref r) H'
def spGath (C:Addr):Sp:=fun vs H Q E=>∃ (u:Addr) (v:Addr),vs=[.ref u,.ref v]∧(B_spGath C u v H Q E)
theorem c_spGath (C:Addr) (u:Addr) (v:Addr) (H:Hp) (Q:VK) (E:XK):spGath C [.ref u,.ref v] H Q E=(B_spGath C u v H Q E):=spx2 (f:=fun (u:Addr) (v:Addr)=>[.ref u,.ref v]) (fun _ _ _ _ h=>by cases h;exact ⟨rfl,rfl⟩) u v
theorem l_spGath (C:Addr){vs:List V}{H:Hp}{Q:VK}{E:XK}(h:spGath C vs H Q E):vs.length=2:=spl2 h fun _ _=>rfl
theorem ok_gathered (T:Tx K mg t):FnOk P w K mg base CX0 2 t.a_gathered t.d_gathered ["one", "other"] (spGath t.a_View):=by
 have G_refuse_rooms:=ok_refuse_rooms (P:=P) (w:=w) (base:=base) T
 have G_pulls:=ok_pulls (P:=P) (w:=w) (base:=base) T
 refine T.F_gathered.ok c_gathered (fun vs H Q E h=>l_spGath _ h) (fun cdv A' outer s H vs Q E hr h=>?_)
 ·obtain ⟨u,v,rfl,room,f1,f2,A,B,vu,vv,hA,hB,k⟩:=h
  obtain ⟨dx,l1,hu,_⟩:=vu.ob
  obtain ⟨dy,l2,hv,_⟩:=vv.ob
  have c1:=T.cl_View
  have c4:=T.na_View_first
  have g1:=viewF_first room f1 l1
  have g2:=viewF_first room f2 l2
  refine ⟨_,(@pss_cons _ _ _ _ _ (@ps_expr _ _ _ _ (@pe_call _ _ _ _ _ _ _ _ _ _ _ _ _ _ _ _ G_refuse_rooms (hr.mono (by decide)) (by rfl) T.m_refuse_rooms T.F_refuse_rooms.kp T.b_refuse_rooms .nil pass0 (@pa_c _ _ _ _ _ (@pvN _ 0 _ _ (by rfl) (by trivial) (by decide) (by decide)) (@pa_c _ _ _ _ _ (@pvN _ 1 _ _ (by rfl) (by trivial) (by decide) (by decide)) (@pa_nil _) (by rfl)) (by rfl)) (by decide) (by rfl) (by rfl)) (by rfl)) (@pss_cons _ _ _ _ _ (@ps_set _ _ (2) _ _ _ _ c_gathered.nd rfl (Or.inr rfl) (@pe_nDNew _ _) (by rfl) (by trivial)) (@pss_cons _ _ _ _ _ (@ps_set _ _ (3) _ _ _ _ c_gathered.nd rfl (Or.inr rfl) (@pe_nDNew _ _) (by rfl) (by trivial)) (@pss_cons _ _ _ _ _ (@ps_for _ _ _ _ _ _ _ _ PassesOwn.never rfl (@pi_seq _ _ _ _ (@pe_call _ _ _ _ _ _ _ _ _ _ _ _ _ _ _ _ G_pulls (hr.mono (by decide)) (by rfl) T.m_pulls T.F_pulls.kp T.b_pulls .nil pass0 (@pa_c _ _ _ _ _ (@pvN _ 0 _ _ (by rfl) (by trivial) (by decide) (by decide)) (@pa_c _ _ _ _ _ (@pvN _ 1 _ _ (by rfl) (by trivial) (by decide) (by decide)) (@pa_nil _) (by rfl)) (by rfl)) (by decide) (by rfl) (by rfl))) ((@pg_tup _ _ _ _ _ (2) rfl (@pgs_consN _ _ _ _ _ (@pg_name _ _ (4) _ c_gathered.nd rfl (Or.inl rfl) (by trivial)) (@pgs_consN _ _ _ _ _ (@pg_name _ _ (5) _ c_gathered.nd rfl (Or.inl rfl) (by trivial)) (@pgs_nilN _) (by rfl)) (by rfl)) (by rfl) (by rfl)).mono fun _ _ _ _ h=>gTup_q h) (@pss_one _ _ _ (@ps_if _ _ _ _ _ _ _ _ (@pt_cmpRN _ _ _ _ _ _ _ _ (op_qNe hr.units) (@pvN _ 4 _ _ (by rfl) (by trivial) (by decide) (by decide)) (@pe_int _ _ _ _) (nomark _)) (@pss_cons _ _ _ _ _ (@ps_set _ _ (6) _ _ _ _ c_gathered.nd rfl (Or.inl rfl) (@pe_callB _ _ _ _ _ _ _ ("abs") _ call_qAbs (by rfl) T.z_abs (by decide +kernel) (@pa_c _ _ _ _ _ (@pvN _ 4 _ _ (by rfl) (by trivial) (by decide) (by decide)) (@pa_nil _) (by rfl)) (by decide) (by decide) (by rfl) (by rfl)) (by rfl) (by trivial)) (@pss_cons _ _ _ _ _ (@ps_set _ _ (7) _ _ _ _ c_gathered.nd rfl (Or.inl rfl) (@pe_ifExp _ _ _ _ _ _ _ _ (@pt_cmpRN _ _ _ _ _ _ _ _ on_gt (@pvN _ 4 _ _ (by rfl) (by trivial) (by decide) (by decide)) (@pe_int _ _ _ _) (nomark _)) (@pe_op _ _ _ _ _ _ _ _ on_sub (@pvN _ 5 _ _ (by rfl) (by trivial) (by decide) (by decide)) (@pe_int _ _ _ _)) (@pe_op _ _ _ _ _ _ _ _ on_sub (@pe_int _ _ _ _) (@pvN _ 5 _ _ (by rfl) (by trivial) (by decide) (by decide)))) (by rfl) (by trivial)) (@pss_cons _ _ _ _ _ (@ps_dput _ _ _ _ _ _ _ _ _ (units1 hr.units) (@pvN _ 2 _ _ (by rfl) (by trivial) (by decide) (by decide)) (@pvN _ 6 _ _ (by rfl) (by trivial) (by decide) (by decide)) (@pe_op _ _ _ _ _ _ _ _ on_add (@pe_dget2 _ _ _ _ _ _ _ _ _ (units1 hr.units) (@pvN _ 2 _ _ (by rfl) (by trivial) (by decide) (by decide)) (@pvN _ 6 _ _ (by rfl) (by trivial) (by decide) (by decide)) (@pe_int _ _ _ _) ⟨by rfl,by rfl,by rfl,by rfl⟩) (@pe_callB _ _ _ _ _ _ _ ("min") _ (call_qMin rfl) (by rfl) T.z_min (by decide +kernel) (@pa_c _ _ _ _ _ (@pe_int _ _ _ _) (@pa_c _ _ _ _ _ (@pvN _ 7 _ _ (by rfl) (by trivial) (by decide) (by decide)) (@pa_nil _) (by rfl)) (by rfl)) (by decide) (by decide) (by rfl) (by rfl))) rfl) (@pss_one _ _ _ (@ps_dput _ _ _ _ _ _ _ _ _ (units1 hr.units) (@pvN _ 3 _ _ (by rfl) (by trivial) (by decide) (by decide)) (@pvN _ 6 _ _ (by rfl) (by trivial) (by decide) (by decide)) (@pe_op _ _ _ _ _ _ _ _ on_add (@pe_dget2 _ _ _ _ _ _ _ _ _ (units1 hr.units) (@pvN _ 3 _ _ (by rfl) (by trivial) (by decide) (by decide)) (@pvN _ 6 _ _ (by rfl) (by trivial) (by decide) (by decide)) (@pe_int _ _ _ _) ⟨by rfl,by rfl,by rfl,by rfl⟩) (@pe_callB _ _ _ _ _ _ _ ("max") _ (call_qMax rfl) (by rfl) T.z_max (by decide +kernel) (@pa_c _ _ _ _ _ (@pe_int _ _ _ _) (@pa_c _ _ _ _ _ (@pvN _ 7 _ _ (by rfl) (by trivial) (by decide) (by decide)) (@pa_nil _) (by rfl)) (by rfl)) (by decide) (by decide) (by rfl) (by rfl))) rfl))))) (@pss_nil _))) (by intros;rfl)) (@pss_cons _ _ _ _ _ (@ps_setC _ _ _ _ _ _ _ _ _ _ _ _ _ (["times", "one", "other", "lows", "highs", "pace", "size", "!times", "reach", "terms"]) (1) (8) _ c_gathered.nd rfl (Or.inl rfl) (comp_ok (defScope s_gathered) ["one", "other", "lows", "highs", "pace", "size", "times", "reach", "terms"] rfl rfl (by decide +kernel)) rfl (@pi_seq _ _ _ _ (@pe_callBK _ ("sorted") _ _ _ _ _ _ _ _ _ _ (call_qSrtR rfl) (by rfl) T.z_sorted (by decide +kernel) (@pa_c _ _ _ _ _ (@pvN _ 2 _ _ (by rfl) (by trivial) (by decide) (by decide)) (@pa_nil _) (by rfl)) (@pk_cons _ _ _ _ _ _ _ (@pe_bl _ _ _ _) (@pk_nil _)) (by decide) (by decide) (by rfl) (by rfl) (by rfl) (by rfl) (by rfl))) (fun C s₀ H₀ ex pn=>(@pg_name _ _ (0) _ (show List.Nodup (["times", "one", "other", "lows", "highs", "pace", "size", "!times", "reach", "terms"]:List Str) from by decide +kernel) rfl (Or.inl rfl) (by trivial))) (fun C s₀ H₀ ex pn=>(@pts_nil _)) (fun C s₀ H₀ ex pn=>(@pe_qTup _ _ _ _ _ (@pa_c _ _ _ _ _ (@pvN _ 0 _ _ (by rfl) (by trivial) (by decide) (by decide)) (@pa_c _ _ _ _ _ (@pe_dget _ _ _ _ _ _ (units1 hr.units) (@pvN _ 3 _ _ (by rfl) (by trivial) (by decide) (by decide)) (@pvN _ 0 _ _ (by rfl) (by trivial) (by decide) (by decide)) (fun _ _=>rfl)) (@pa_c _ _ _ _ _ (@pe_dget _ _ _ _ _ _ (units1 hr.units) (@pvN _ 4 _ _ (by rfl) (by trivial) (by decide) (by decide)) (@pvN _ 0 _ _ (by rfl) (by trivial) (by decide) (by decide)) (fun _ _=>rfl)) (@pa_nil _) (by rfl)) (by rfl)) (by rfl)))) (by rfl) (by intros;rfl) (by trivial)) (@pss_one _ _ _ (@ps_ret _ _ _ _ (@pe_qTup _ _ _ _ _ (@pa_c _ _ _ _ _ (@pvN _ 8 _ _ (by rfl) (by trivial) (by decide) (by decide)) (@pa_c _ _ _ _ _ (@pe_op _ _ _ _ _ _ _ _ on_sub (@pe_nFld _ _ _ _ _ (@pvN _ 1 _ _ (by rfl) (by trivial) (by decide) (by decide)) rfl) (@pe_nFld _ _ _ _ _ (@pvN _ 0 _ _ (by rfl) (by trivial) (by decide) (by decide)) rfl)) (@pa_nil _) (by rfl)) (by rfl)))))))))),?_⟩
  rw [show start ["one", "other", "lows", "highs", "pace", "size", "times", "reach", "terms"] [.ref u,.ref v]=[some (.ref u),some (.ref v),none,none,none,none,none,none,none] from rfl]
  clear G_refuse_rooms G_pulls
  have hsz:∀ z∈pullL A B,(1:Int)≤z.2:=fun z hz=>by
   unfold pullL at hz
   rcases List.mem_append.mp hz with hz|hz
   ·obtain ⟨a,ha,rfl⟩:=List.mem_map.mp hz
    exact (hA.2 a ha).1
   ·obtain ⟨a,ha,rfl⟩:=List.mem_map.mp hz
    exact (hB.2 a ha).1
  have hPl:(pullL A B).length≤16:=by unfold pullL;rw [List.length_append,List.length_map,List.length_map];have:=hA.1;have:=hB.1;omega
  replace k:=fun (_:Unit)=>k
  replace hsz:=fun (_:Unit)=>hsz
  simp! only [and_true]
  rw [c_spRooms]
  refine ⟨room,f1,f2,A,B,vu,vv,?_⟩
  simp! only [and_true]
  intro d1 H1 hd1 e1 h1
  simp! only [and_true]
  intro d2 H2 hd2 e2 h2
  have e02:=e1.trans e2
  have h1_2:=e2.at h1
  have hd1_0:=hd1
  have hd2_0:H d2=none:=e1.free hd2
  have n12:d1 ≠ d2:=fun z=>by rw [z,hd2] at h1;cases h1
  clear hd1 hd2 h1
  simp! only [and_true]
  rw [c_spPulls]
  refine ⟨room,room,f1,f2,A,B,vu.ext e02,vv.ext e02,hA.1,hB.1,fun r H3 hr3 e3 t3=>?_⟩
  obtain ⟨ys,hy3,al⟩:=t3
  have e03:=e02.trans e3
  have nr1:r ≠ d1:=fun z=>by rw [z,h1_2] at hr3;cases hr3
  have nr2:r ≠ d2:=fun z=>by rw [z,h2] at hr3;cases hr3
  have hyl:ys.length=(pullL A B).length:=al.1
  generalize pullL A B=P' at *
  have h1_3:=e3.at h1_2
  have h2_3:=e3.at h2
  replace al:=fun (_:Unit)=>al
  clear hr3 e1 e2 e3 e02 h1_2 h2
  simp! only [and_true]
  refine for_lst (xs:=ys) (fun i σ H'=>∃ (ks:List Int) (k1 k2:List (Key × V)) (v4 v5 v6 v7:Option V),σ=[some (.ref u),some (.ref v),some (.ref d1),some (.ref d2),v4,v5,v6,v7,none]∧Ext H H'∧(∀ b o,b ≠ d1->b ≠ d2->H3 b=some o->H' b=some o)∧H' d1=some (.dK k1)∧H' d2=some (.dK k2)∧GatI (P'.take i) ks k1 k2) ⟨[],[],[],none,none,none,none,rfl,e03,fun _ _ _ _ h=>h,h1_3,h2_3,GatI.nil⟩ (fun i σ H' _ ⟨_,_,_,_,_,_,_,_,_,kp,_⟩=>kp r _ nr1 nr2 hy3) ?_ ?_
  ·rintro i y _ H4 hi ⟨ks,k1,k2,v4,v5,v6,v7,rfl,e4,kp,h14,h24,gi⟩
   have hil:i < P'.length:=by have:=(List.getElem?_eq_some_iff.mp hi).1;omega
   obtain ⟨z,hz⟩:∃ z,P'[i]? = some z:=⟨_,List.getElem?_eq_getElem hil⟩
   obtain ⟨q,rfl,hq⟩:=(al ()).2 i z y hz hi
   have hz1:=hsz () z (List.mem_of_getElem? hz)
   have htk:P'.take (i+1)=P'.take i++[z]:=by rw [List.take_add_one,hz];rfl
   have hq4:=kp q _ (fun e=>by rw [e,h1_3] at hq;cases hq) (fun e=>by rw [e,h2_3] at hq;cases hq) hq
   have lk1:k1.length < sizeLine:=lt5000 (by have:=congrArg List.length gi.e1;have:=gi.len;rw [List.length_map,List.length_map] at *;rw [List.length_take] at *;omega)
   have lk2:k2.length < sizeLine:=lt5000 (by have:=congrArg List.length gi.e2;have:=gi.len;rw [List.length_map,List.length_map] at *;rw [List.length_take] at *;omega)
   rw [htk]
   by_cases hz0:z.1=0
   ·have gs:=fun (_:Unit)=>gi.skip hz0
    clear gi hi hz k
    simp! only [↓m_kBody]
    exact ⟨ks,k1,k2,_,_,_,_,rfl,e4,kp,rfl,rfl,gs ()⟩
   ·have hab:absI z.1 ≠ 0:=by unfold absI;omega
    obtain ⟨b1,b2⟩:=gi.get hab
    have gp:=fun (_:Unit)=>gi.put hz0
    replace hz1:=fun (_:Unit)=>hz1
    have habs:(if z.1 < 0 then -z.1 else z.1)=absI z.1:=by unfold absI;split<;>omega
    clear gi hi hz k
    by_cases hp:0 < z.1
    ·have hmin:(if z.2 - 1 < 0 then z.2 - 1 else 0)=loP z:=by unfold loP;rw [if_pos hp];have:=hz1 ();split<;>omega
     have hmax:(if 0 < z.2 - 1 then z.2 - 1 else 0)=hiP z:=by unfold hiP;rw [if_pos hp];have:=hz1 ();split<;>omega
     simp! only [↓m_kBody]
     refine use_ge0 h14 ?_
     simp! only [and_true]
     refine use_ge (k:=.inl (absI z.1)) h14 ?_
     rw [b1]
     simp! only [and_true]
     refine use_dp (k:=.inl (absI z.1)) h14 lk1 ?_
     have h15:upd H4 d1 (.dK (putK k1 (.inl (absI z.1)) (.int (lowF (P'.take i) (absI z.1)+loP z)))) d2=some (.dK k2):=by rw [upd_ne (Ne.symm n12)];exact h24
     simp! only [and_true]
     refine use_ge0 h15 ?_
     simp! only [and_true]
     refine use_ge (k:=.inl (absI z.1)) h15 ?_
     rw [b2]
     simp! only [and_true]
     refine use_dp (k:=.inl (absI z.1)) h15 lk2 ?_
     obtain ⟨ks',gp'⟩:=gp ()
     exact ⟨ks',_,_,_,_,_,_,rfl,(e4.put hd1_0).put hd2_0,fun b o x1 x2 h=>by rw [upd_ne x2,upd_ne x1];exact kp b o x1 x2 h,by rw [upd_ne n12];exact upd_same,upd_same,gp'⟩
    ·have hmin:(if 1 - z.2 < 0 then 1 - z.2 else 0)=loP z:=by unfold loP;rw [if_neg hp];have:=hz1 ();split<;>omega
     have hmax:(if 0 < 1 - z.2 then 1 - z.2 else 0)=hiP z:=by unfold hiP;rw [if_neg hp];have:=hz1 ();split<;>omega
     simp! only [↓m_kBody]
     refine use_ge0 h14 ?_
     simp! only [and_true]
     refine use_ge (k:=.inl (absI z.1)) h14 ?_
     rw [b1]
     simp! only [and_true]
     refine use_dp (k:=.inl (absI z.1)) h14 lk1 ?_
     have h15:upd H4 d1 (.dK (putK k1 (.inl (absI z.1)) (.int (lowF (P'.take i) (absI z.1)+loP z)))) d2=some (.dK k2):=by rw [upd_ne (Ne.symm n12)];exact h24
     simp! only [and_true]
     refine use_ge0 h15 ?_
     simp! only [and_true]
     refine use_ge (k:=.inl (absI z.1)) h15 ?_
     rw [b2]
     simp! only [and_true]
     refine use_dp (k:=.inl (absI z.1)) h15 lk2 ?_
     obtain ⟨ks',gp'⟩:=gp ()
     exact ⟨ks',_,_,_,_,_,_,rfl,(e4.put hd1_0).put hd2_0,fun b o x1 x2 h=>by rw [upd_ne x2,upd_ne x1];exact kp b o x1 x2 h,by rw [upd_ne n12];exact upd_same,upd_same,gp'⟩
  ·rintro _ H4 ⟨ks,k1,k2,v4,v5,v6,v7,rfl,e4,kp,h14,h24,gi⟩
   rw [hyl,List.take_length] at gi
   have hu4:=e4.at hu
   have hv4:=e4.at hv
   have hk1:ks.length < 64:=by have:=gi.len;omega
   replace gi:=fun (_:Unit)=>gi
   clear al hy3 h1_3 h2_3 hd1_0 hd2_0 kp e03 hsz
   simp! only [and_true]
   refine use_srtR h14 (gi ()).e1 hk1 fun ms hpm hord=>?_
   intro q5 H5 hq5 e5 h5
   have h14_5:=e5.at h14
   have h24_5:=e5.at h24
   have hms:ms.length≤64:=by rw [hpm.length_eq];omega
   replace hpm:=fun (_:Unit)=>hpm
   replace hord:=fun (_:Unit)=>hord
   clear hq5
   simp! only [and_true]
   have wk:=wk_lst (K:=K) h5
   refine comp_rel2 (ms.map V.int) (fun _=>true) (fun z x H'=>x=z∧H' q5=some (.lst (ms.map V.int))) (fun D z y H'=>trP (vi z,lowF P' (vi z),highF P' (vi z)) y H') wk.1 wk.2 (fun D z y H1 H2 h e=>trP.ext (z:=(vi z,lowF P' (vi z),highF P' (vi z))) h e) (fun D z y H1 xs o h hD=>trP.upd (z:=(vi z,lowF P' (vi z),highF P' (vi z))) h hD) (len5000 (by rw [List.length_map];omega)) ?_ ?_
   ·intro D z y H' N1 N0 hz hD e _ ⟨hy,_⟩ kx _
    subst hy
    obtain ⟨t',ht',rfl⟩:=List.mem_map.mp hz
    have hm:=(hpm ()).mem_iff.mp ht'
    have w1:=(gi ()).v1 t' hm
    have w2:=(gi ()).v2 t' hm
    have k1':=kx rfl
    have a1:=e.at h14_5
    have a2:=e.at h24_5
    clear kx k hz wk
    simp! only [↓m_kCm_1,↓m_kCm2]
    refine use_dg (k:=.inl t') a1 w1 ?_
    simp! only [and_true]
    refine use_dg (k:=.inl t') a2 w2 ?_
    simp! only [and_true]
    intro g H6 _ e6 h6
    exact k1' _ H6 e6 ⟨g,rfl,h6⟩
   ·intro D zs H6 hD e6 h6 al6
    rw [filt] at al6
    have t6:TrAt H6 D (termsF ms P'):=⟨zs,h6,by
     refine ⟨by rw [al6.1];unfold termsF;rw [List.length_map,List.length_map],fun i z y hz hy=>?_⟩
     unfold termsF at hz
     rw [List.getElem?_map] at hz
     obtain ⟨t',ht',rfl⟩:=Option.map_eq_some_iff.mp hz
     exact al6.2 i (.int t') y (by rw [List.getElem?_map,ht'];rfl) hy⟩
    have ko:KsOk ms P':=⟨(hpm ()).nodup_iff.mpr (gi ()).nd,by rw [(hpm ()).length_eq];exact (gi ()).len,fun t'=>(hpm ()).mem_iff.trans ((gi ()).mem t'),hord ()⟩
    have e46:=e5.trans e6
    have hu6:=e46.at hu4
    have hv6:=e46.at hv4
    replace t6:=fun (_:Unit)=>t6
    replace ko:=fun (_:Unit)=>ko
    have hD0:H D=none:=(e4.trans e5).free hD
    clear al6 wk hD h6 h5 hu4 hv4 h14_5 h24_5 h14 h24
    simp! only [and_true]
    intro r7 H7 _ e7 h7
    exact k () ms D r7 H7 hD0 (e4.trans (e46.trans e7)) h7 (tr_ext (t6 ()) e7) (ko ())
structure AxK (A:List (Int × Int)):Prop where
 len:A.length≤3
 sz:∀ a∈A,(1≤a.1∧a.1≤5)∧(-36≤a.2∧a.2≤36)
 prod:(A.foldr (fun a r=>a.1 * r) 1)≤24
theorem prod_snoc:∀ (A:List (Int × Int)) (b:Int × Int),((A++[b]).foldr (fun a r=>a.1 * r) 1)=(A.foldr (fun a r=>a.1 * r) 1) * b.1
 | [],b=>by show b.1 * 1=1 * b.1;omega
 | a::A,b=>by
  show a.1 * ((A++[b]).foldr (fun a r=>a.1 * r) 1)=a.1 * (A.foldr (fun a r=>a.1 * r) 1) * b.1
  rw [prod_snoc A b,Int.mul_assoc]
theorem prod_pos1:∀ {A:List (Int × Int)},(∀ a∈A,(1:Int)≤a.1)->1≤(A.foldr (fun a r=>a.1 * r) 1)
 | [],_=>Int.le_refl _
 | a::A,h=>by
  have ih:=prod_pos1 (A:=A) fun b hb=>h b (List.mem_cons_of_mem _ hb)
  have:=Int.mul_le_mul (h a List.mem_cons_self) ih (by decide) (by have:=h a List.mem_cons_self;omega)
  show 1≤a.1 * _
  omega
abbrev B_spKAxes (K:PySem.W.Frag) (a:Addr) (ns:List Int) (p:Addr) (i:Int) (f:Int) (H:Hp) (Q:VK) (E:XK):Prop:=p=a∧SqL K H a (ns.map V.int)∧ns.length≤63∧0≤i∧i≤60∧1≤f∧f≤6∧∀ (A:List (Int × Int)) (r:Addr) (H':Hp),Ext H H'->PrAt H' r A->AxK A->Q (.ref r) H'
def spKAxes (K:PySem.W.Frag) (a:Addr) (ns:List Int):Sp:=fun vs H Q E=>∃ (p:Addr) (i:Int) (f:Int),vs=[.ref p,.int i,.int f]∧(B_spKAxes K a ns p i f H Q E)
theorem c_spKAxes (K:PySem.W.Frag) (a:Addr) (ns:List Int) (p:Addr) (i:Int) (f:Int) (H:Hp) (Q:VK) (E:XK):spKAxes K a ns [.ref p,.int i,.int f] H Q E=(B_spKAxes K a ns p i f H Q E):=spx3 (f:=fun (p:Addr) (i:Int) (f:Int)=>[.ref p,.int i,.int f]) (fun _ _ _ _ _ _ h=>by cases h;exact ⟨rfl,rfl,rfl⟩) p i f
theorem l_spKAxes (K:PySem.W.Frag) (a:Addr) (ns:List Int){vs:List V}{H:Hp}{Q:VK}{E:XK}(h:spKAxes K a ns vs H Q E):vs.length=3:=spl3 h fun _ _ _=>rfl
theorem ok__law_axes (T:Tx K mg t) (a:Addr) (ns:List Int):FnOk P w K mg base CX0 2 t.a__law_axes t.d__law_axes ["_law_script", "_law_at", "_law_factor"] (spKAxes K a ns):=by
 have G__law_draw:=ok__law_draw (P:=P) (w:=w) (base:=base) T a ns
 refine T.F__law_axes.ok c__law_axes (fun vs H Q E h=>l_spKAxes _ _ _ h) (fun cdv A outer s H vs Q E hr h=>?_)
 ·obtain ⟨_,i0,f,rfl,rfl,hS,hl,i1,i2,f1,f2,kk⟩:=h
  rename_i a
  refine ⟨_,(@pss_cons _ _ _ _ _ (@ps_set _ _ (3) _ _ _ _ c__law_axes.nd rfl (Or.inl rfl) (@pe_qLst _ _ _ _ (@pa_nil _)) (by rfl) (by trivial)) (@pss_cons _ _ _ _ _ (@ps_set _ _ (4) _ _ _ _ c__law_axes.nd rfl (Or.inl rfl) (@pe_int _ _ _ _) (by rfl) (by trivial)) (@pss_cons _ _ _ _ _ (@ps_for _ _ _ _ _ _ _ _ PassesOwn.never rfl (@pi_range1 _ _ _ _ _ _ (by rfl) T.z_range (@pa_c _ _ _ _ _ (@pe_call _ _ _ _ _ _ _ _ _ _ _ _ _ _ _ _ G__law_draw (hr.mono (by decide)) (by rfl) T.m__law_draw T.F__law_draw.kp T.b__law_draw .nil pass0 (@pa_c _ _ _ _ _ (@pvN _ 0 _ _ (by rfl) (by trivial) (by decide) (by decide)) (@pa_c _ _ _ _ _ (@pvN _ 1 _ _ (by rfl) (by trivial) (by decide) (by decide)) (@pa_c _ _ _ _ _ (@pe_int _ _ _ _) (@pa_nil _) (by rfl)) (by rfl)) (by rfl)) (by decide) (by rfl) (by rfl)) (@pa_nil _) (by rfl)) (by rfl)) (@pg_name _ _ (5) _ c__law_axes.nd rfl (Or.inl rfl) (by trivial)) (@pss_cons _ _ _ _ _ (@ps_set _ _ (6) _ _ _ _ c__law_axes.nd rfl (Or.inl rfl) (@pe_call _ _ _ _ _ _ _ _ _ _ _ _ _ _ _ _ G__law_draw (hr.mono (by decide)) (by rfl) T.m__law_draw T.F__law_draw.kp T.b__law_draw .nil pass0 (@pa_c _ _ _ _ _ (@pvN _ 0 _ _ (by rfl) (by trivial) (by decide) (by decide)) (@pa_c _ _ _ _ _ (@pe_op _ _ _ _ _ _ _ _ on_add (@pe_op _ _ _ _ _ _ _ _ on_add (@pvN _ 1 _ _ (by rfl) (by trivial) (by decide) (by decide)) (@pe_int _ _ _ _)) (@pvN _ 5 _ _ (by rfl) (by trivial) (by decide) (by decide))) (@pa_c _ _ _ _ _ (@pe_op _ _ _ _ _ _ _ _ on_pow (@pe_int _ _ _ _) (@pe_int _ _ _ _)) (@pa_nil _) (by rfl)) (by rfl)) (by rfl)) (by decide) (by rfl) (by rfl)) (by rfl) (by trivial)) (@pss_cons _ _ _ _ _ (@ps_set _ _ (7) _ _ _ _ c__law_axes.nd rfl (Or.inl rfl) (@pe_op _ _ _ _ _ _ _ _ on_add (@pe_int _ _ _ _) (@pe_op _ _ _ _ _ _ _ _ on_mod (@pvN _ 6 _ _ (by rfl) (by trivial) (by decide) (by decide)) (@pe_int _ _ _ _))) (by rfl) (by trivial)) (@pss_cons _ _ _ _ _ (@ps_if _ _ _ _ _ _ _ _ (@pt_cmpRN _ _ _ _ _ _ _ _ on_gt (@pe_op _ _ _ _ _ _ _ _ on_mul (@pvN _ 4 _ _ (by rfl) (by trivial) (by decide) (by decide)) (@pvN _ 7 _ _ (by rfl) (by trivial) (by decide) (by decide))) (@pe_int _ _ _ _) (nomark _)) (@pss_one _ _ _ (@ps_set _ _ (7) _ _ _ _ c__law_axes.nd rfl (Or.inl rfl) (@pe_int _ _ _ _) (by rfl) (by trivial))) (@pss_nil _)) (@pss_cons _ _ _ _ _ (@ps_set _ _ (4) _ _ _ _ c__law_axes.nd rfl (Or.inl rfl) (@pe_op _ _ _ _ _ _ _ _ on_mul (@pvN _ 4 _ _ (by rfl) (by trivial) (by decide) (by decide)) (@pvN _ 7 _ _ (by rfl) (by trivial) (by decide) (by decide))) (by rfl) (by trivial)) (@pss_cons _ _ _ _ _ (@ps_set _ _ (8) _ _ _ _ c__law_axes.nd rfl (Or.inl rfl) (@pe_op _ _ _ _ _ _ _ _ on_mul (@pvN _ 2 _ _ (by rfl) (by trivial) (by decide) (by decide)) (@pe_op _ _ _ _ _ _ _ _ on_sub (@pe_op _ _ _ _ _ _ _ _ on_mod (@pe_op _ _ _ _ _ _ _ _ on_fdiv (@pvN _ 6 _ _ (by rfl) (by trivial) (by decide) (by decide)) (@pe_int _ _ _ _)) (@pe_int _ _ _ _)) (@pe_int _ _ _ _))) (by rfl) (by trivial)) (@pss_cons _ _ _ _ _ (@ps_if _ _ _ _ _ _ _ _ (@pt_cmpRN _ _ _ _ _ _ _ _ (op_qEq hr.units) (@pe_op _ _ _ _ _ _ _ _ on_mod (@pe_op _ _ _ _ _ _ _ _ on_fdiv (@pvN _ 6 _ _ (by rfl) (by trivial) (by decide) (by decide)) (@pe_int _ _ _ _)) (@pe_int _ _ _ _)) (@pe_int _ _ _ _) (nomark _)) (@pss_one _ _ _ (@ps_set _ _ (8) _ _ _ _ c__law_axes.nd rfl (Or.inl rfl) (@pe_op _ _ _ _ _ _ _ _ on_sub (@pe_op _ _ _ _ _ _ _ _ on_mod (@pe_op _ _ _ _ _ _ _ _ on_fdiv (@pvN _ 6 _ _ (by rfl) (by trivial) (by decide) (by decide)) (@pe_int _ _ _ _)) (@pe_int _ _ _ _)) (@pe_int _ _ _ _)) (by rfl) (by trivial))) (@pss_nil _)) (@pss_one _ _ _ (@ps_expr _ _ _ _ (@pe_bm _ _ _ _ _ _ _ _ _ _ _ _ PySem.F.plainAttrs_list PySem.F.slot_list_append PySem.F.type_list_append mt_append (@pvN _ 3 _ _ (by rfl) (by trivial) (by decide) (by decide)) (@pa_c _ _ _ _ _ (@pe_qTup _ _ _ _ _ (@pa_c _ _ _ _ _ (@pvN _ 7 _ _ (by rfl) (by trivial) (by decide) (by decide)) (@pa_c _ _ _ _ _ (@pvN _ 8 _ _ (by rfl) (by trivial) (by decide) (by decide)) (@pa_nil _) (by rfl)) (by rfl))) (@pa_nil _) (by rfl)) (by rfl) (by rfl) (by rfl) (by rfl) (by rfl)) (by rfl))))))))) (by intros;rfl)) (@pss_one _ _ _ (@ps_ret _ _ _ _ (@pvN _ 3 _ _ (by rfl) (by trivial) (by decide) (by decide))))))),?_⟩
  rw [show start ["_law_script", "_law_at", "_law_factor", "_law_axes_here", "_law_count", "_law_k", "_law_cell", "_law_size", "_law_pace"] [.ref a,.int i0,.int f]=[some (.ref a),some (.int i0),some (.int f),none,none,none,none,none,none] from rfl]
  clear G__law_draw
  replace kk:=fun (_:Unit)=>kk
  simp! only [and_true]
  intro r H1 hr1 e1 h1
  have hS1:=e1.2 K a _ hS
  have hr0:=hr1
  clear hr1
  simp! only [and_true]
  rw [c_spDraw]
  refine ⟨hS1,hl,⟨by omega,by omega⟩,by decide,fun n n0 n1=>?_⟩
  simp! only [and_true]
  refine ⟨by omega,by omega,?_⟩
  refine for_rng (fun j σ H'=>∃ (A:List (Int × Int)) (ys:List V) (v5 v6 v7 v8:Option V),σ=[some (.ref a),some (.int i0),some (.int f),some (.ref r),some (.int (A.foldr (fun a r=>a.1 * r) 1)),v5,v6,v7,v8]∧Ext H H'∧H' r=some (.lst ys)∧Al (fun z y=>axP z y H') A ys∧A.length=j∧(∀ a∈A,(1≤a.1∧a.1≤5)∧(-36≤a.2∧a.2≤36))∧(A.foldr (fun a r=>a.1 * r) 1)≤24) ⟨[],[],none,none,none,none,rfl,e1,h1,Al.nil,rfl,(fun a h=>by cases h),by decide⟩ ?_ ?_
  ·rintro j _ H2 hj ⟨A,ys,v5,v6,v7,v8,rfl,e2,h2,al,hAl,hsz,hpr⟩
   have hj3:j < 3:=by have:j < n.toNat:=hj;omega
   have hS2:=e2.2 K a _ hS
   have hyl:ys.length < sizeLine:=lt5000 (by rw [al.1,hAl];omega)
   have hp1:=prod_pos1 fun a ha=>(hsz a ha).1.1
   replace al:=fun (_:Unit)=>al
   replace hsz:=fun (_:Unit)=>hsz
   replace hAl:=fun (_:Unit)=>hAl
   have x5:∀ x:Int,0≤x % 5∧x % 5 < 5:=fun x=>by omega
   have fpos:∀ y:Int,-6≤y->y≤6->-36≤f * y∧f * y≤36:=fun y y1 y2=>by
    have a1:=Int.mul_le_mul_of_nonneg_left y2 (show 0≤f by omega)
    have a2:=Int.mul_le_mul_of_nonneg_left y1 (show 0≤f by omega)
    omega
   have fin:∀ (sz pc:Int) (t6:Addr) (H6:Hp),Ext H2 H6->H6 t6=some (.tup [.int sz,.int pc])->t6 ≠ r->(1≤sz∧sz≤5)->(-36≤pc∧pc≤36)->(A.foldr (fun a r=>a.1 * r) 1) * sz≤24->∃ (A':List (Int × Int)) (ys':List V),A'=A++[(sz,pc)]∧ys'=ys++[.ref t6]∧Ext H (upd H6 r (.lst (ys++[.ref t6])))∧Al (fun z y=>axP z y (upd H6 r (.lst (ys++[.ref t6])))) A' ys'∧A'.length=j+1∧(∀ a∈A',(1≤a.1∧a.1≤5)∧(-36≤a.2∧a.2≤36))∧(A'.foldr (fun a r=>a.1 * r) 1)=(A.foldr (fun a r=>a.1 * r) 1) * sz∧(A'.foldr (fun a r=>a.1 * r) 1)≤24:=fun sz pc t6 H6 e6 h6 ntr s1 s2 s3=>by
    refine ⟨_,_,rfl,rfl,(e2.trans e6).put hr0,?_,by rw [List.length_append,hAl (),List.length_singleton],fun b hb=>?_,prod_snoc _ _,by rw [prod_snoc];exact s3⟩
    ·refine al_app' ((al ()).imp fun _ _ t=>axP.upd (axP.ext t e6) (e6.at h2)) ⟨rfl,fun i z y hz hy=>?_⟩
     cases i with
     | zero=>simp at hz hy;subst hz;subst hy;exact ⟨t6,rfl,by rw [upd_ne ntr];exact h6⟩
     | succ i=>simp at hz
    ·rcases List.mem_append.mp hb with hb|hb
     ·exact hsz () b hb
     ·rw [List.mem_singleton.mp hb];exact ⟨s1,s2⟩
   obtain ⟨cnt,hcnt⟩:∃ cnt,(A.foldr (fun a r=>a.1 * r) 1)=cnt:=⟨_,rfl⟩
   rw [hcnt] at hpr hp1 fin ⊢
   replace fin:=fun (_:Unit)=>fin
   replace fpos:=fun (_:Unit)=>fpos
   clear hj kk h1 hS1 hcnt
   simp! only [↓m_kBody]
   rw [c_spDraw]
   refine ⟨hS2,hl,⟨by omega,by omega⟩,by decide,fun x x0 x1=>?_⟩
   have x5':=x5 x
   have y13:-6≤x / 5 % 13 - 6∧x / 5 % 13 - 6≤6:=by omega
   have y41:-36≤x / 260 % 41 - 20∧x / 260 % 41 - 20≤36:=by omega
   have yf:=fpos () _ y13.1 y13.2
   have cmf:CMul f (x / 5 % 13 - 6):=.inl ⟨by omega,by omega⟩
   have cm1:CMul cnt (1+x % 5):=.inl ⟨by omega,by omega⟩
   have cm2:CMul cnt 1:=.inl ⟨by omega,by omega⟩
   replace y41:=fun (_:Unit)=>y41
   replace yf:=fun (_:Unit)=>yf
   clear fpos x5 y13
   have go:∀ (sz:Int),(sz=1+x % 5∨sz=1)->(1≤sz∧sz≤5):=fun sz h=>by omega
   replace go:=fun (_:Unit)=>go
   by_cases hb:24 < cnt * (1+x % 5)
   ·by_cases hq:x / 65 % 4=1
    ·simp! only [and_true]
     intro t6 H6 ht6 e6 h6
     have h2_6:=e6.at h2
     have ntr:t6 ≠ r:=fun z=>by rw [z,h2] at ht6;cases ht6
     obtain ⟨A',ys',hA',hys',g1,g2,g3,g4,g5,g6⟩:=fin () (1) (x / 260 % 41 - 20) t6 H6 e6 h6 ntr (go () _ (.inr rfl)) (y41 ()) (by rw [Int.mul_one];exact hpr)
     rw [hys'] at g2
     replace g4:=fun (_:Unit)=>g4
     replace g2:=fun (_:Unit)=>g2
     clear ht6 fin go hb hq yf y41 h2
     simp! only [and_true]
     exact ⟨A',ys++[.ref t6],_,_,_,_,by rw [g5],g1,by first|rfl|exact upd_same,g2 (),g3,g4 (),g6⟩
    ·simp! only [and_true]
     intro t6 H6 ht6 e6 h6
     have h2_6:=e6.at h2
     have ntr:t6 ≠ r:=fun z=>by rw [z,h2] at ht6;cases ht6
     obtain ⟨A',ys',hA',hys',g1,g2,g3,g4,g5,g6⟩:=fin () (1) (f * (x / 5 % 13 - 6)) t6 H6 e6 h6 ntr (go () _ (.inr rfl)) (yf ()) (by rw [Int.mul_one];exact hpr)
     rw [hys'] at g2
     replace g4:=fun (_:Unit)=>g4
     replace g2:=fun (_:Unit)=>g2
     clear ht6 fin go hb hq yf y41 h2
     simp! only [and_true]
     exact ⟨A',ys++[.ref t6],_,_,_,_,by rw [g5],g1,by first|rfl|exact upd_same,g2 (),g3,g4 (),g6⟩
   ·by_cases hq:x / 65 % 4=1
    ·simp! only [and_true]
     intro t6 H6 ht6 e6 h6
     have h2_6:=e6.at h2
     have ntr:t6 ≠ r:=fun z=>by rw [z,h2] at ht6;cases ht6
     obtain ⟨A',ys',hA',hys',g1,g2,g3,g4,g5,g6⟩:=fin () (1+x % 5) (x / 260 % 41 - 20) t6 H6 e6 h6 ntr (go () _ (.inl rfl)) (y41 ()) (by omega)
     rw [hys'] at g2
     replace g4:=fun (_:Unit)=>g4
     replace g2:=fun (_:Unit)=>g2
     clear ht6 fin go hb hq yf y41 h2
     simp! only [and_true]
     exact ⟨A',ys++[.ref t6],_,_,_,_,by rw [g5],g1,by first|rfl|exact upd_same,g2 (),g3,g4 (),g6⟩
    ·simp! only [and_true]
     intro t6 H6 ht6 e6 h6
     have h2_6:=e6.at h2
     have ntr:t6 ≠ r:=fun z=>by rw [z,h2] at ht6;cases ht6
     obtain ⟨A',ys',hA',hys',g1,g2,g3,g4,g5,g6⟩:=fin () (1+x % 5) (f * (x / 5 % 13 - 6)) t6 H6 e6 h6 ntr (go () _ (.inl rfl)) (yf ()) (by omega)
     rw [hys'] at g2
     replace g4:=fun (_:Unit)=>g4
     replace g2:=fun (_:Unit)=>g2
     clear ht6 fin go hb hq yf y41 h2
     simp! only [and_true]
     exact ⟨A',ys++[.ref t6],_,_,_,_,by rw [g5],g1,by first|rfl|exact upd_same,g2 (),g3,g4 (),g6⟩
  ·rintro _ H2 ⟨A,ys,v5,v6,v7,v8,rfl,e2,h2,al,hAl,hsz,hpr⟩
   have k':=kk () A r H2 e2 ⟨ys,h2,al⟩ ⟨by rw [hAl];omega,hsz,hpr⟩
   clear kk al hsz
   simp! only [and_true]
structure RngI (H:Hp) (P:List (Int × Int)) (ks:List Int) (kvs:List (Key × V)):Prop where
 e1:kvs.map (·.1)=ks.map (Sum.inl:Int->Key)
 nd:ks.Nodup
 len:ks.length≤P.length
 v:∀ t∈ks,∃ q,valV kvs (.inl t)=some (.ref q)∧H q=some (.tup [.int (lowF P t),.int (highF P t)])
 mem:∀ t,t∈ks ↔ t ≠ 0∧∃ z∈P,absI z.1=t
theorem RngI.ext {H H':Hp}{P:List (Int × Int)}{ks:List Int}{kvs:List (Key × V)}(h:RngI H P ks kvs) (e:Ext H H'):RngI H' P ks kvs:=
 ⟨h.e1,h.nd,h.len,fun t ht=>(let ⟨q,h1,h2⟩:=h.v t ht;⟨q,h1,e.at h2⟩),h.mem⟩
theorem RngI.upd {H:Hp}{P:List (Int × Int)}{ks:List Int}{kvs k0:List (Key × V)}{d:Addr}{o:HO}(h:RngI H P ks kvs) (hd:H d=some (.dK k0)):RngI (upd H d o) P ks kvs:=
 ⟨h.e1,h.nd,h.len,fun t ht=>(let ⟨q,h1,h2⟩:=h.v t ht;⟨q,h1,by rw [upd_ne (fun z=>by rw [z,hd] at h2;cases h2)];exact h2⟩),h.mem⟩
theorem RngI.nil {H:Hp}:RngI H [] [] []:=⟨rfl,List.nodup_nil,Nat.le_refl _,(fun t h=>by cases h),fun t=>⟨(fun h=>by cases h),fun ⟨_,z,hz,_⟩=>by cases hz⟩⟩
theorem RngI.get {H:Hp}{P:List (Int × Int)}{ks:List Int}{kvs:List (Key × V)}{q0:Addr}(h:RngI H P ks kvs){t:Int}(ht:t ≠ 0) (h0:H q0=some (.tup [.int 0,.int 0])):∃ q,(valV kvs (.inl t)).getD (.ref q0)=.ref q∧H q=some (.tup [.int (lowF P t),.int (highF P t)]):=by
 by_cases hm:t∈ks
 ·obtain ⟨q,h1,h2⟩:=h.v t hm
  exact ⟨q,by rw [h1];rfl,h2⟩
 ·have hno:∀ z∈P,¬ absI z.1=t:=fun z hz e=>hm ((h.mem t).mpr ⟨ht,z,hz,e⟩)
  refine ⟨q0,by rw [keys_not h.e1 hm];rfl,?_⟩
  unfold lowF highF
  rw [sumAt_out hno,sumAt_out hno]
  exact h0
theorem RngI.skip {H:Hp}{P:List (Int × Int)}{ks:List Int}{kvs:List (Key × V)}{z:Int × Int}(h:RngI H P ks kvs) (hz:z.1=0):RngI H (P++[z]) ks kvs:=by
 have h0:absI z.1=0:=by rw [hz];rfl
 have hne:∀ t∈ks,¬ absI z.1=t:=fun t ht e=>((h.mem t).mp ht).1 (by rw [←e];exact h0)
 refine ⟨h.e1,h.nd,by rw [List.length_append];have:=h.len;omega,fun t ht=>?_,fun t=>?_⟩
 ·obtain ⟨q,h1,h2⟩:=h.v t ht
  exact ⟨q,h1,by rw [low_snoc,high_snoc,if_neg (hne t ht),if_neg (hne t ht),Int.add_zero,Int.add_zero];exact h2⟩
 ·rw [h.mem t]
  constructor
  ·rintro ⟨a,y,hy,e⟩
   exact ⟨a,y,List.mem_append_left _ hy,e⟩
  ·rintro ⟨a,y,hy,e⟩
   rcases List.mem_append.mp hy with hy|hy
   ·exact ⟨a,y,hy,e⟩
   ·rw [List.mem_singleton.mp hy,h0] at e
    exact absurd e.symm a
theorem RngI.put {H:Hp}{P:List (Int × Int)}{ks:List Int}{kvs:List (Key × V)}{z:Int × Int}{tq:Addr}(h:RngI H P ks kvs) (hz:z.1 ≠ 0) (ht:H tq=some (.tup [.int (lowF P (absI z.1)+loP z),.int (highF P (absI z.1)+hiP z)])):∃ ks',RngI H (P++[z]) ks' (putK kvs (.inl (absI z.1)) (.ref tq)):=by
 have h0:absI z.1 ≠ 0:=by unfold absI;omega
 have hv:∀ t:Int,valV (putK kvs (.inl (absI z.1)) (.ref tq)) (.inl t)=if absI z.1=t then some (.ref tq) else valV kvs (.inl t):=fun t=>by
  rw [valV_put]
  by_cases e:absI z.1=t
  ·rw [if_pos e,if_pos (by rw [e])]
  ·rw [if_neg e,if_neg (fun q=>e (by cases q;rfl))]
 have fin:∀ ks',(∀ t,t∈ks' ↔ t∈ks∨t=absI z.1)->(putK kvs (.inl (absI z.1)) (.ref tq)).map (·.1)=ks'.map (Sum.inl:Int->Key)->ks'.Nodup->ks'.length≤ks.length+1->RngI H (P++[z]) ks' (putK kvs (.inl (absI z.1)) (.ref tq)):=fun ks' hm a1 a3 a4=>by
  refine ⟨a1,a3,by rw [List.length_append,List.length_singleton];have:=h.len;omega,fun t ht'=>?_,fun t=>?_⟩
  ·rw [hv,low_snoc,high_snoc]
   by_cases e:absI z.1=t
   ·rw [if_pos e,if_pos e,if_pos e,←e];exact ⟨tq,rfl,ht⟩
   ·rw [if_neg e,if_neg e,if_neg e,Int.add_zero,Int.add_zero]
    exact h.v t (((hm t).mp ht').resolve_right fun q=>e q.symm)
  ·rw [hm t,h.mem t]
   constructor
   ·rintro (⟨a,y,hy,e⟩|e)
    ·exact ⟨a,y,List.mem_append_left _ hy,e⟩
    ·exact ⟨by rw [e];exact h0,z,List.mem_append_right _ List.mem_cons_self,e.symm⟩
   ·rintro ⟨a,y,hy,e⟩
    rcases List.mem_append.mp hy with hy|hy
    ·exact .inl ⟨a,y,hy,e⟩
    ·rw [List.mem_singleton.mp hy] at e
     exact .inr e.symm
 by_cases hm:absI z.1∈ks
 ·obtain ⟨q,h1,_⟩:=h.v _ hm
  exact ⟨ks,fin ks (fun t=>⟨.inl,fun q=>q.elim id fun e=>by rw [e];exact hm⟩) (by rw [putK_keys _ h1];exact h.e1) h.nd (by omega)⟩
 ·refine ⟨ks++[absI z.1],fin _ (fun t=>by rw [List.mem_append,List.mem_singleton]) ?_ ?_ (by rw [List.length_append];exact Nat.le_refl _)⟩
  ·rw [putK_keysN (keys_not h.e1 hm),h.e1,List.map_append];rfl
  ·rw [List.nodup_append]
   exact ⟨h.nd,by simp,fun a ha b hb e=>hm (by rw [List.mem_singleton] at hb;rw [←hb,←e];exact ha)⟩
theorem desc_eq:∀ {l m:List Int},l.Nodup->m.Nodup->l.Pairwise (· ≥ ·)->m.Pairwise (· ≥ ·)->(∀ t,t∈l ↔ t∈m)->l=m
 | [],[],_,_,_,_,_=>rfl
 | [],b::m,_,_,_,_,h=>by have:=(h b).mpr List.mem_cons_self;cases this
 | a::l,[],_,_,_,_,h=>by have:=(h a).mp List.mem_cons_self;cases this
 | a::l,b::m,n1,n2,p1,p2,h=>by
  obtain ⟨a1,a2⟩:=List.nodup_cons.mp n1
  obtain ⟨b1,b2⟩:=List.nodup_cons.mp n2
  obtain ⟨c1,c2⟩:=List.pairwise_cons.mp p1
  obtain ⟨d1,d2⟩:=List.pairwise_cons.mp p2
  have hab:a=b:=by
   rcases List.mem_cons.mp ((h a).mp List.mem_cons_self) with e|e
   ·exact e
   ·rcases List.mem_cons.mp ((h b).mpr List.mem_cons_self) with e'|e'
    ·exact e'.symm
    ·have x1:=d1 a e
     have x2:=c1 b e'
     omega
  subst hab
  congr 1
  refine desc_eq a2 b2 c2 d2 fun t=>⟨fun ht=>?_,fun ht=>?_⟩
  ·exact (List.mem_cons.mp ((h t).mp (List.mem_cons_of_mem _ ht))).resolve_left fun e=>a1 (by rw [←e];exact ht)
  ·exact (List.mem_cons.mp ((h t).mpr (List.mem_cons_of_mem _ ht))).resolve_left fun e=>b1 (by rw [←e];exact ht)
theorem KsOk.uniq {l m:List Int}{P:List (Int × Int)}(h1:KsOk l P) (h2:KsOk m P):l=m:=desc_eq h1.nd h2.nd h1.ord h2.ord fun t=>(h1.mem t).trans (h2.mem t).symm
def sgP (sg:Int) (a:Int × Int):Int × Int:=(sg * (keptA a).2,a.1)
theorem pull_sg (A B:List (Int × Int)):pullL (A.map keptA) (B.map keptA)=A.map (sgP 1)++B.map (sgP (-1)):=by
 unfold pullL
 rw [List.map_map,List.map_map]
 congr 1
 ·refine List.map_congr_left fun a _=>?_
  show ((keptA a).2,a.1)=(1 * (keptA a).2,a.1)
  rw [Int.one_mul]
 ·refine List.map_congr_left fun a _=>?_
  show (-(keptA a).2,a.1)=(-1 * (keptA a).2,a.1)
  rw [Int.neg_one_mul]
abbrev B_spKTerms  (p:Addr) (q:Addr) (H:Hp) (Q:VK) (E:XK):Prop:=∃ A B:List (Int × Int),PrAt H p A∧PrAt H q B∧A.length≤8∧B.length≤8∧(∀ a∈A,(1:Int)≤a.1)∧(∀ a∈B,(1:Int)≤a.1)∧∀ (ks:List Int) (r:Addr) (H':Hp),Ext H H'->TrAt H' r (termsF ks (pullL (A.map keptA) (B.map keptA)))->KsOk ks (pullL (A.map keptA) (B.map keptA))->Q (.ref r) H'
def spKTerms  : Sp:=fun vs H Q E=>∃ (p:Addr) (q:Addr),vs=[.ref p,.ref q]∧(B_spKTerms  p q H Q E)
theorem c_spKTerms  (p:Addr) (q:Addr) (H:Hp) (Q:VK) (E:XK):spKTerms  [.ref p,.ref q] H Q E=(B_spKTerms  p q H Q E):=spx2 (f:=fun (p:Addr) (q:Addr)=>[.ref p,.ref q]) (fun _ _ _ _ h=>by cases h;exact ⟨rfl,rfl⟩) p q
theorem l_spKTerms  {vs:List V}{H:Hp}{Q:VK}{E:XK}(h:spKTerms  vs H Q E):vs.length=2:=spl2 h fun _ _=>rfl
theorem ok__law_terms (T:Tx K mg t):FnOk P w K mg base CX0 1 t.a__law_terms t.d__law_terms ["_law_one", "_law_other"] spKTerms:=by
 refine T.F__law_terms.ok c__law_terms (fun vs H Q E h=>l_spKTerms h) (fun cdv A' outer s H vs Q E hr h=>?_)
 ·obtain ⟨p,q,rfl,A,B,pA,pB,hA,hB,sA,sB,k⟩:=h
  refine ⟨_,(@pss_cons _ _ _ _ _ (@ps_set _ _ (2) _ _ _ _ c__law_terms.nd rfl (Or.inr rfl) (@pe_nDNew _ _) (by rfl) (by trivial)) (@pss_cons _ _ _ _ _ (@ps_for _ _ _ _ _ _ _ _ PassesOwn.never rfl (@pi_seq _ _ _ _ (@pe_qLst _ _ _ _ (@pa_c _ _ _ _ _ (@pe_qTup _ _ _ _ _ (@pa_c _ _ _ _ _ (@pvN _ 0 _ _ (by rfl) (by trivial) (by decide) (by decide)) (@pa_c _ _ _ _ _ (@pe_int _ _ _ _) (@pa_nil _) (by rfl)) (by rfl))) (@pa_c _ _ _ _ _ (@pe_qTup _ _ _ _ _ (@pa_c _ _ _ _ _ (@pvN _ 1 _ _ (by rfl) (by trivial) (by decide) (by decide)) (@pa_c _ _ _ _ _ (@pe_un _ _ _ _ _ _ un_negN (@pe_int _ _ _ _)) (@pa_nil _) (by rfl)) (by rfl))) (@pa_nil _) (by rfl)) (by rfl)))) ((@pg_tup _ _ _ _ _ (2) rfl (@pgs_consN _ _ _ _ _ (@pg_name _ _ (3) _ c__law_terms.nd rfl (Or.inl rfl) (by trivial)) (@pgs_consN _ _ _ _ _ (@pg_name _ _ (4) _ c__law_terms.nd rfl (Or.inl rfl) (by trivial)) (@pgs_nilN _) (by rfl)) (by rfl)) (by rfl) (by rfl)).mono fun _ _ _ _ h=>gTup_q h) (@pss_one _ _ _ (@ps_for _ _ _ _ _ _ _ _ PassesOwn.never rfl (@pi_seq _ _ _ _ (@pvN _ 3 _ _ (by rfl) (by trivial) (by decide) (by decide))) ((@pg_tup _ _ _ _ _ (2) rfl (@pgs_consN _ _ _ _ _ (@pg_name _ _ (5) _ c__law_terms.nd rfl (Or.inl rfl) (by trivial)) (@pgs_consN _ _ _ _ _ (@pg_name _ _ (6) _ c__law_terms.nd rfl (Or.inl rfl) (by trivial)) (@pgs_nilN _) (by rfl)) (by rfl)) (by rfl) (by rfl)).mono fun _ _ _ _ h=>gTup_q h) (@pss_one _ _ _ (@ps_if _ _ _ _ _ _ _ _ (PW.pt (@pw_and _ _ _ _ _ _ _ (@pt_cmpRN _ _ _ _ _ _ _ _ on_gt (@pvN _ 5 _ _ (by rfl) (by trivial) (by decide) (by decide)) (@pe_int _ _ _ _) (nomark _)) (@pw_and1 _ _ _ _ (@pt_cmpRN _ _ _ _ _ _ _ _ (op_qNe hr.units) (@pvN _ 6 _ _ (by rfl) (by trivial) (by decide) (by decide)) (@pe_int _ _ _ _) (nomark _))))) (@pss_cons _ _ _ _ _ (@ps_asg _ _ _ _ _ _ (@pe_dget2 _ _ _ _ _ _ _ _ _ (units1 hr.units) (@pvN _ 2 _ _ (by rfl) (by trivial) (by decide) (by decide)) (@pe_callB _ _ _ _ _ _ _ ("abs") _ call_qAbs (by rfl) T.z_abs (by decide +kernel) (@pa_c _ _ _ _ _ (@pvN _ 6 _ _ (by rfl) (by trivial) (by decide) (by decide)) (@pa_nil _) (by rfl)) (by decide) (by decide) (by rfl) (by rfl)) (@pe_qTup _ _ _ _ _ (@pa_c _ _ _ _ _ (@pe_int _ _ _ _) (@pa_c _ _ _ _ _ (@pe_int _ _ _ _) (@pa_nil _) (by rfl)) (by rfl))) ⟨by rfl,by rfl,by rfl,by rfl⟩) ((@pg_tup _ _ _ _ _ (2) rfl (@pgs_consN _ _ _ _ _ (@pg_name _ _ (7) _ c__law_terms.nd rfl (Or.inl rfl) (by trivial)) (@pgs_consN _ _ _ _ _ (@pg_name _ _ (8) _ c__law_terms.nd rfl (Or.inl rfl) (by trivial)) (@pgs_nilN _) (by rfl)) (by rfl)) (by rfl) (by rfl)).mono fun _ _ _ _ h=>gTup_q h) (by rfl) (by rfl) (by rfl)) (@pss_one _ _ _ (@ps_if _ _ _ _ _ _ _ _ (@pt_cmpRN _ _ _ _ _ _ _ _ on_gt (@pe_op _ _ _ _ _ _ _ _ on_mul (@pvN _ 6 _ _ (by rfl) (by trivial) (by decide) (by decide)) (@pvN _ 4 _ _ (by rfl) (by trivial) (by decide) (by decide))) (@pe_int _ _ _ _) (nomark _)) (@pss_one _ _ _ (@ps_dput _ _ _ _ _ _ _ _ _ (units1 hr.units) (@pvN _ 2 _ _ (by rfl) (by trivial) (by decide) (by decide)) (@pe_callB _ _ _ _ _ _ _ ("abs") _ call_qAbs (by rfl) T.z_abs (by decide +kernel) (@pa_c _ _ _ _ _ (@pvN _ 6 _ _ (by rfl) (by trivial) (by decide) (by decide)) (@pa_nil _) (by rfl)) (by decide) (by decide) (by rfl) (by rfl)) (@pe_qTup _ _ _ _ _ (@pa_c _ _ _ _ _ (@pvN _ 7 _ _ (by rfl) (by trivial) (by decide) (by decide)) (@pa_c _ _ _ _ _ (@pe_op _ _ _ _ _ _ _ _ on_sub (@pe_op _ _ _ _ _ _ _ _ on_add (@pvN _ 8 _ _ (by rfl) (by trivial) (by decide) (by decide)) (@pvN _ 5 _ _ (by rfl) (by trivial) (by decide) (by decide))) (@pe_int _ _ _ _)) (@pa_nil _) (by rfl)) (by rfl))) rfl)) (@pss_one _ _ _ (@ps_dput _ _ _ _ _ _ _ _ _ (units1 hr.units) (@pvN _ 2 _ _ (by rfl) (by trivial) (by decide) (by decide)) (@pe_callB _ _ _ _ _ _ _ ("abs") _ call_qAbs (by rfl) T.z_abs (by decide +kernel) (@pa_c _ _ _ _ _ (@pvN _ 6 _ _ (by rfl) (by trivial) (by decide) (by decide)) (@pa_nil _) (by rfl)) (by decide) (by decide) (by rfl) (by rfl)) (@pe_qTup _ _ _ _ _ (@pa_c _ _ _ _ _ (@pe_op _ _ _ _ _ _ _ _ on_add (@pe_op _ _ _ _ _ _ _ _ on_sub (@pvN _ 7 _ _ (by rfl) (by trivial) (by decide) (by decide)) (@pvN _ 5 _ _ (by rfl) (by trivial) (by decide) (by decide))) (@pe_int _ _ _ _)) (@pa_c _ _ _ _ _ (@pvN _ 8 _ _ (by rfl) (by trivial) (by decide) (by decide)) (@pa_nil _) (by rfl)) (by rfl))) rfl))))) (@pss_nil _))) (by intros;rfl))) (by intros;rfl)) (@pss_cons _ _ _ _ _ (@ps_setC _ _ _ _ _ _ _ _ _ _ _ _ _ (["_law_times", "_law_one", "_law_other", "_law_ranges", "_law_axes_here", "_law_sign", "_law_size", "_law_pace", "_law_low", "_law_high", "_law_found"]) (1) (9) _ c__law_terms.nd rfl (Or.inl rfl) (comp_ok (defScope s__law_terms) ["_law_one", "_law_other", "_law_ranges", "_law_axes_here", "_law_sign", "_law_size", "_law_pace", "_law_low", "_law_high", "_law_found"] rfl rfl (by decide +kernel)) rfl (@pi_seq _ _ _ _ (@pe_callB _ _ _ _ _ _ _ ("sorted") _ (call_qSrtD rfl) (by rfl) T.z_sorted (by decide +kernel) (@pa_c _ _ _ _ _ (@pvN _ 2 _ _ (by rfl) (by trivial) (by decide) (by decide)) (@pa_nil _) (by rfl)) (by decide) (by decide) (by rfl) (by rfl))) (fun C s₀ H₀ ex pn=>(@pg_name _ _ (0) _ (show List.Nodup (["_law_times", "_law_one", "_law_other", "_law_ranges", "_law_axes_here", "_law_sign", "_law_size", "_law_pace", "_law_low", "_law_high", "_law_found"]:List Str) from by decide +kernel) rfl (Or.inl rfl) (by trivial))) (fun C s₀ H₀ ex pn=>(@pts_nil _)) (fun C s₀ H₀ ex pn=>(@pe_op _ _ _ _ _ _ _ _ op_nCatT (@pe_qTup _ _ _ _ _ (@pa_c _ _ _ _ _ (@pvN _ 0 _ _ (by rfl) (by trivial) (by decide) (by decide)) (@pa_nil _) (by rfl))) (@pe_dget _ _ _ _ _ _ (units1 hr.units) (@pvN _ 3 _ _ (by rfl) (by trivial) (by decide) (by decide)) (@pvN _ 0 _ _ (by rfl) (by trivial) (by decide) (by decide)) (fun _ _=>rfl)))) (by rfl) (by intros;rfl) (by trivial)) (@pss_cons _ _ _ _ _ (@ps_expr _ _ _ _ (@pe_bm0 _ _ _ _ _ _ _ _ _ PySem.F.plainAttrs_list PySem.F.slot_list_reverse PySem.F.type_list_reverse mt_reverse (@pvN _ 9 _ _ (by rfl) (by trivial) (by decide) (by decide)) (by rfl) (by rfl)) (by rfl)) (@pss_one _ _ _ (@ps_ret _ _ _ _ (@pvN _ 9 _ _ (by rfl) (by trivial) (by decide) (by decide)))))))),?_⟩
  rw [show start ["_law_one", "_law_other", "_law_ranges", "_law_axes_here", "_law_sign", "_law_size", "_law_pace", "_law_low", "_law_high", "_law_found"] [.ref p,.ref q]=[some (.ref p),some (.ref q),none,none,none,none,none,none,none,none] from rfl]
  rw [pull_sg] at k
  replace k:=fun (_:Unit)=>k
  replace sA:=fun (_:Unit)=>sA
  replace sB:=fun (_:Unit)=>sB
  simp! only [and_true]
  intro d H1 hd1 e1 h1
  have hd0:=hd1
  simp! only [and_true]
  intro t1 H2 _ e2 h2
  simp! only [and_true]
  intro t2 H3 _ e3 h3
  have h2_3:=e3.at h2
  simp! only [and_true]
  intro l4 H4 hl4 e4 h4
  have nl:l4 ≠ d:=fun z=>by rw [z,(e2.trans e3).at h1] at hl4;cases hl4
  have e04:=e1.trans (e2.trans (e3.trans e4))
  have h1_4:=(e2.trans (e3.trans e4)).at h1
  have ht1:=e4.at h2_3
  have ht2:=e4.at h3
  clear hd1 hl4 h1 h2 h2_3 h3 e1 e2 e3 e4
  simp! only [and_true]
  refine for_lst (xs:=[.ref t1,.ref t2]) (fun i σ H'=>∃ (ks:List Int) (kvs:List (Key × V)) (v3 v4 v5 v6 v7 v8:Option V),σ=[some (.ref p),some (.ref q),some (.ref d),v3,v4,v5,v6,v7,v8,none]∧Ext H H'∧(∀ b o,b ≠ d->H4 b=some o->H' b=some o)∧H' d=some (.dK kvs)∧RngI H' (if i=0 then [] else if i=1 then A.map (sgP 1) else A.map (sgP 1)++B.map (sgP (-1))) ks kvs) ⟨[],[],none,none,none,none,none,none,rfl,e04,fun _ _ _ h=>h,h1_4,RngI.nil⟩ (fun i σ H' _ ⟨_,_,_,_,_,_,_,_,_,_,kp,_⟩=>kp l4 _ nl h4) ?_ ?_
  ·rintro i y _ H5 hi ⟨ks,kvs,v3,v4,v5,v6,v7,v8,rfl,e5,kp,h5d,ri⟩
   obtain ⟨tq,axp,Ax,sg,P0,hy,htq,pX,hX8,hX1,hsg,hP8,hP0,hP1⟩:∃ (tq axp:Addr) (Ax:List (Int × Int)) (sg:Int) (P0:List (Int × Int)),y=.ref tq∧H4 tq=some (.tup [.ref axp,.int sg])∧PrAt H axp Ax∧Ax.length≤8∧(∀ a∈Ax,(1:Int)≤a.1)∧(sg=1∨sg=-1)∧P0.length≤8∧(if i=0 then [] else if i=1 then A.map (sgP 1) else A.map (sgP 1)++B.map (sgP (-1)))=P0∧(if i+1=0 then [] else if i+1=1 then A.map (sgP 1) else A.map (sgP 1)++B.map (sgP (-1)))=P0++Ax.map (sgP sg):=by
    match i,hi with
    | 0,hi=>cases hi;exact ⟨t1,p,A,1,[],rfl,ht1,pA,hA,sA (),.inl rfl,by decide,rfl,rfl⟩
    | 1,hi=>cases hi;exact ⟨t2,q,B,-1,A.map (sgP 1),rfl,ht2,pB,hB,sB (),.inr rfl,by rw [List.length_map];exact hA,rfl,rfl⟩
    | i+2,hi=>simp at hi
   subst hy
   rw [hP0] at ri
   rw [hP1]
   have ht5:=kp tq _ (fun e=>by rw [e,h1_4] at htq;cases htq) htq
   obtain ⟨ts,hax,alX⟩:=pX
   have hax5:=e5.at hax
   have htl:ts.length=Ax.length:=alX.1
   replace alX:=fun (_:Unit)=>alX
   replace htl:=fun (_:Unit)=>htl
   replace hX1:=fun (_:Unit)=>hX1
   have ini:RngI H5 (P0++(Ax.map (sgP sg)).take 0) ks kvs:=by rw [List.take_zero,List.append_nil];exact ri
   replace ini:=fun (_:Unit)=>ini
   clear hi hP0 hP1 ri htq k pA pB ht1 ht2 h4
   simp! only [↓m_kBody]
   refine for_lst (xs:=ts) (fun j σ H'=>∃ (ks:List Int) (kvs:List (Key × V)) (v5 v6 v7 v8:Option V),σ=[some (.ref p),some (.ref q),some (.ref d),some (.ref axp),some (.int sg),v5,v6,v7,v8,none]∧Ext H H'∧(∀ b o,b ≠ d->H4 b=some o->H' b=some o)∧H' d=some (.dK kvs)∧RngI H' (P0++(Ax.map (sgP sg)).take j) ks kvs) ⟨ks,kvs,_,_,_,_,rfl,e5,kp,h5d,ini ()⟩ (fun j σ H' _ ⟨_,_,_,_,_,_,_,e,_⟩=>e.at hax) ?_ ?_
   ·clear ini h5d e5 kp ht5 hax5
    rintro j y _ H6 hj ⟨ks,kvs,v5,v6,v7,v8,rfl,e6,kp,h6d,ri⟩
    have hjA:j < Ax.length:=by have:=(List.getElem?_eq_some_iff.mp hj).1;have:=htl ();omega
    obtain ⟨aq,rfl,haq⟩:=(alX ()).2 j Ax[j] y (List.getElem?_eq_getElem hjA) hj
    have ha6:=e6.at haq
    have hsz:=hX1 () Ax[j] (List.getElem_mem hjA)
    have htk:(Ax.map (sgP sg)).take (j+1)=(Ax.map (sgP sg)).take j++[sgP sg Ax[j]]:=by
     rw [List.take_add_one,List.getElem?_map,List.getElem?_eq_getElem hjA];rfl
    rw [htk,←List.append_assoc]
    have hPl:(P0++(Ax.map (sgP sg)).take j).length≤16:=by rw [List.length_append,List.length_take,List.length_map];omega
    generalize P0++(Ax.map (sgP sg)).take j=PP at *
    have lk:kvs.length < sizeLine:=lt5000 (by have:=congrArg List.length ri.e1;have:=ri.len;rw [List.length_map,List.length_map] at *;omega)
    generalize Ax[j]=a at *
    clear hj htk haq
    by_cases hs1:1 < a.1
    ·have hkp:(keptA a).2=a.2:=by unfold keptA;rw [if_pos hs1]
     by_cases hp0:a.2=0
     ·have rs:=fun (_:Unit)=>ri.skip (z:=sgP sg a) (by show sg * (keptA a).2=0;rw [hkp,hp0,Int.mul_zero])
      clear ri hkp
      simp! only [↓m_kBody]
      exact ⟨ks,kvs,_,_,_,_,rfl,e6,kp,rfl,rs ()⟩
     obtain ⟨z,hz⟩:∃ z,sgP sg a=z:=⟨_,rfl⟩
     have hz1:z.1=sg * a.2:=by rw [←hz];show sg * (keptA a).2=_;rw [hkp]
     have hz2:z.2=a.1:=by rw [←hz];rfl
     have hz0:z.1 ≠ 0:=by rw [hz1];rcases hsg with rfl|rfl<;>omega
     have hab0:absI z.1 ≠ 0:=by unfold absI;omega
     have habs:(if a.2 < 0 then -a.2 else a.2)=absI z.1:=by
      unfold absI;rw [hz1];rcases hsg with rfl|rfl<;>split<;>omega
     have hsgn:(0 < a.2 * sg ↔ 0 < z.1):=by rw [hz1,Int.mul_comm]
     rw [hz]
     have cm:CMul a.2 sg:=.inr ⟨by rcases hsg with rfl|rfl<;>decide,by rcases hsg with rfl|rfl<;>decide⟩
     replace ri:=fun (_:Unit)=>ri
     replace hz1:=fun (_:Unit)=>hz1
     replace hz2:=fun (_:Unit)=>hz2
     replace hz:=fun (_:Unit)=>hz
     replace hsgn:=fun (_:Unit)=>hsgn
     replace hkp:=fun (_:Unit)=>hkp
     simp! only [↓m_kBody]
     refine use_ge0 h6d ?_
     simp! only [and_true]
     intro q0 H8 _ e8 h8
     have h8d:=e8.at h6d
     have e08:=e6.trans e8
     obtain ⟨qv,hgv,hqv⟩:=((ri ()).ext e8).get hab0 h8
     have ri8:=fun (_:Unit)=>(ri ()).ext e8
     have kp8:=fun (_:Unit)=>fun b o (x1:b ≠ d) (h:H4 b=some o)=>e8.at (kp b o x1 h)
     clear ha6 h6d kp e6
     simp! only [and_true]
     refine use_ge (k:=.inl (absI z.1)) h8d ?_
     rw [hgv]
     clear hgv
     by_cases hpos:0 < a.2 * sg
     ·have hzp:=(hsgn ()).mp hpos
      have hlo:loP z=0:=by unfold loP;rw [if_pos hzp]
      have hhi:hiP z=a.1 - 1:=by unfold hiP;rw [if_pos hzp,hz2 ()]
      replace hlo:=fun (_:Unit)=>hlo
      replace hhi:=fun (_:Unit)=>hhi
      clear hzp
      simp! only [and_true]
      intro t9 H9 ht9 e9 h9
      have h9d:=e9.at h8d
      obtain ⟨ks',rn⟩:=((ri8 ()).ext e9).put (z:=z) (tq:=t9) hz0 (by rw [h9,hlo (),hhi (),Int.add_zero,Int.add_sub_assoc])
      have ru:=fun (_:Unit)=>RngI.upd (o:=.dK (putK kvs (.inl (absI z.1)) (.ref t9))) rn h9d
      clear rn ht9 ri8 h8d ri
      simp! only [and_true]
      refine use_dp (k:=.inl (absI z.1)) h9d lk ?_
      exact ⟨ks',_,_,_,_,_,rfl,(e08.trans e9).put hd0,fun b o x1 h=>by rw [upd_ne x1];exact e9.at (kp8 () b o x1 h),upd_same,ru ()⟩
     ·have hzp:¬ 0 < z.1:=fun h=>hpos ((hsgn ()).mpr h)
      have hlo:loP z=1 - a.1:=by unfold loP;rw [if_neg hzp,hz2 ()]
      have hhi:hiP z=0:=by unfold hiP;rw [if_neg hzp]
      replace hlo:=fun (_:Unit)=>hlo
      replace hhi:=fun (_:Unit)=>hhi
      clear hzp
      simp! only [and_true]
      intro t9 H9 ht9 e9 h9
      have h9d:=e9.at h8d
      obtain ⟨ks',rn⟩:=((ri8 ()).ext e9).put (z:=z) (tq:=t9) hz0 (by rw [h9,hlo (),hhi (),Int.add_zero,show lowF PP (absI z.1) - a.1+1=lowF PP (absI z.1)+(1 - a.1) by omega])
      have ru:=fun (_:Unit)=>RngI.upd (o:=.dK (putK kvs (.inl (absI z.1)) (.ref t9))) rn h9d
      clear rn ht9 ri8 h8d ri
      simp! only [and_true]
      refine use_dp (k:=.inl (absI z.1)) h9d lk ?_
      exact ⟨ks',_,_,_,_,_,rfl,(e08.trans e9).put hd0,fun b o x1 h=>by rw [upd_ne x1];exact e9.at (kp8 () b o x1 h),upd_same,ru ()⟩
    ·have hkp:(keptA a).2=0:=by unfold keptA;rw [if_neg hs1]
     have rs:=fun (_:Unit)=>ri.skip (z:=sgP sg a) (by show sg * (keptA a).2=0;rw [hkp,Int.mul_zero])
     clear ri hkp
     simp! only [↓m_kBody]
     exact ⟨ks,kvs,_,_,_,_,rfl,e6,kp,rfl,rs ()⟩
   ·rintro _ H6 ⟨ks,kvs,v5,v6,v7,v8,rfl,e6,kp,h6d,ri⟩
    rw [htl (),List.take_of_length_le (by rw [List.length_map];exact Nat.le_refl _)] at ri
    exact ⟨ks,kvs,_,_,_,_,_,_,rfl,e6,kp,h6d,ri⟩
  ·rintro _ H5 ⟨ks,kvs,v3,v4,v5,v6,v7,v8,rfl,e5,kp,h5d,ri⟩
   have ri':RngI H5 (A.map (sgP 1)++B.map (sgP (-1))) ks kvs:=ri
   have hPl:(A.map (sgP 1)++B.map (sgP (-1))).length≤16:=by rw [List.length_append,List.length_map,List.length_map];omega
   generalize A.map (sgP 1)++B.map (sgP (-1))=P' at *
   have hk1:ks.length < 64:=by have:=ri'.len;omega
   replace ri':=fun (_:Unit)=>ri'
   clear ri kp h4 h1_4 ht1 ht2 pA pB e04
   simp! only [and_true]
   refine use_srt h5d (ri' ()).e1 hk1 fun ms hpm hord=>?_
   intro q6 H6 hq6 e6 h6
   have h6d:=e6.at h5d
   have ri6:=fun (_:Unit)=>(ri' ()).ext e6
   have hms:ms.length≤64:=by rw [hpm.length_eq];omega
   replace hpm:=fun (_:Unit)=>hpm
   replace hord:=fun (_:Unit)=>hord
   clear hq6
   simp! only [and_true]
   have wk:=wk_lst (K:=K) h6
   refine comp_rel2 (ms.map V.int) (fun _=>true) (fun z x H'=>x=z∧H' q6=some (.lst (ms.map V.int))) (fun D z y H'=>trP (vi z,lowF P' (vi z),highF P' (vi z)) y H') wk.1 wk.2 (fun D z y H1 H2 h e=>trP.ext (z:=(vi z,lowF P' (vi z),highF P' (vi z))) h e) (fun D z y H1 xs o h hD=>trP.upd (z:=(vi z,lowF P' (vi z),highF P' (vi z))) h hD) (len5000 (by rw [List.length_map];omega)) ?_ ?_
   ·intro D z y H' N1 N0 hz hD e _ ⟨hy,_⟩ kx _
    subst hy
    obtain ⟨t',ht',rfl⟩:=List.mem_map.mp hz
    obtain ⟨qv,w1,w2⟩:=((ri6 ()).ext e).v t' ((hpm ()).mem_iff.mp ht')
    have k1':=kx rfl
    have a1:=e.at h6d
    clear kx k hz wk
    simp! only [↓m_kCm_1,↓m_kCm2]
    intro t9 H9 _ e9 h9
    have a19:=e9.at a1
    have w29:=e9.at w2
    clear a1 w2
    simp! only [and_true]
    refine use_dg (k:=.inl t') a19 w1 ?_
    simp! only [and_true]
    rw [x_kCT2]
    refine ⟨len5000 (by simp),fun g H10 e10 h10=>?_⟩
    exact k1' _ H10 (e9.trans e10) ⟨g,rfl,h10⟩
   ·intro D zs H7 hD e7 h7 al7
    rw [filt] at al7
    have hD0:H D=none:=(e5.trans e6).free hD
    have al8:Al (fun z y=>trP z y H7) (termsF ms P') zs:=by
     refine ⟨by rw [al7.1];unfold termsF;rw [List.length_map,List.length_map],fun i z y hz hy=>?_⟩
     unfold termsF at hz
     rw [List.getElem?_map] at hz
     obtain ⟨t',ht',rfl⟩:=Option.map_eq_some_iff.mp hz
     exact al7.2 i (.int t') y (by rw [List.getElem?_map,ht'];rfl) hy
    have al9:Al (fun z y=>trP z y H7) (termsF ms.reverse P') zs.reverse:=by
     have e1:termsF ms.reverse P'=(termsF ms P').reverse:=by unfold termsF;rw [List.map_reverse]
     rw [e1]
     refine ⟨by rw [List.length_reverse,List.length_reverse];exact al8.1,fun i z y hz hy=>?_⟩
     have hi:i < (termsF ms P').length:=by have:=(List.getElem?_eq_some_iff.mp hz).1;rw [List.length_reverse] at this;exact this
     rw [List.getElem?_reverse hi] at hz
     rw [List.getElem?_reverse (by rw [al8.1];exact hi),al8.1] at hy
     exact al8.2 _ z y hz hy
    have ko:KsOk ms.reverse P':=⟨(List.reverse_perm ms).nodup_iff.mpr ((hpm ()).nodup_iff.mpr (ri' ()).nd),by rw [List.length_reverse,(hpm ()).length_eq];exact (ri' ()).len,fun t'=>by rw [List.mem_reverse];exact (hpm ()).mem_iff.trans ((ri' ()).mem t'),List.pairwise_reverse.mpr (hord ())⟩
    have fin:=k () ms.reverse D (upd H7 D (.lst zs.reverse)) ((e5.trans (e6.trans e7)).put hD0) ⟨_,upd_same,al9.imp fun _ _ t=>trP.upd t h7⟩ ko
    clear al7 al8 al9 wk ko k hD
    simp! only [and_true]
theorem absI_nn (x:Int):0≤absI x:=by unfold absI;omega
def axW (a:Int × Int):Int:=absI a.2 * (a.1 - 1)
def wS:List (Int × Int)->Int
 | []=>0
 | a::A=>axW a+wS A
def wLt (t:Int):List (Int × Int)->Int
 | []=>0
 | a::A=>(if absI a.2 < t then axW a else 0)+wLt t A
theorem axW_nn {a:Int × Int}(h:1≤a.1):0≤axW a:=Int.mul_nonneg (absI_nn _) (by omega)
theorem wS_nn:∀ {A:List (Int × Int)},(∀ a∈A,1≤a.1)->0≤wS A
 | [],_=>Int.le_refl _
 | a::A,h=>by
  have:=axW_nn (h a List.mem_cons_self)
  have:=wS_nn fun b hb=>h b (List.mem_cons_of_mem _ hb)
  show 0≤axW a+wS A;omega
structure AxG (A:List (Int × Int)):Prop where
 len:A.length≤8
 sz:∀ a∈A,(1≤a.1∧a.1≤1000000000)∧absI a.2≤10000000000000000∧axW a≤10000000000000000
theorem AxG.one {A:List (Int × Int)}(h:AxG A):∀ a∈A,(1:Int)≤a.1:=fun a ha=>(h.sz a ha).1.1
theorem wS_le:∀ {A:List (Int × Int)},(∀ a∈A,axW a≤10000000000000000)->wS A≤10000000000000000 * (A.length:Int)
 | [],_=>by decide
 | a::A,h=>by
  have ih:=wS_le (A:=A) fun b hb=>h b (List.mem_cons_of_mem _ hb)
  have:=h a List.mem_cons_self
  rw [List.length_cons]
  show axW a+wS A≤_
  omega
theorem AxG.wt {A:List (Int × Int)}(h:AxG A):0≤wS A∧wS A≤80000000000000000:=by
 have:=wS_le fun a ha=>(h.sz a ha).2.2
 have:=h.len
 exact ⟨wS_nn h.one,by omega⟩
theorem AxG.bnd {A:List (Int × Int)}(h:AxG A):∀ a∈A,-100000000000000000≤a.2∧a.2≤100000000000000000:=fun a ha=>by
 have h1:=(h.sz a ha).2.1
 have h2:a.2≤absI a.2∧-absI a.2≤a.2:=by unfold absI;omega
 omega
theorem AxG.axes {A:List (Int × Int)}(h:AxG A):Axes (A.map keptA):=⟨by rw [List.length_map];have:=h.len;omega,fun a ha=>by
 obtain ⟨b,hb,rfl⟩:=List.mem_map.mp ha
 exact (h.sz b hb).1⟩
theorem AxK.g {A:List (Int × Int)}(h:AxK A):AxG A:=⟨by have:=h.len;omega,fun a ha=>by
 obtain ⟨h1,h2⟩:=h.sz a ha
 have e:absI a.2≤36∧0≤absI a.2:=by unfold absI;omega
 have m:=Int.mul_le_mul e.1 (show a.1 - 1≤4 by omega) (by omega) (by decide)
 exact ⟨by omega,by omega,by show absI a.2 * (a.1 - 1)≤_;omega⟩⟩
theorem cap_le:∀ {P:List (Int × Int)},(∀ y∈P,1≤y.2∧y.2≤1000000000)->∀ t,capF P t≤999999999 * (P.length:Int)
 | [],_,t=>Int.le_refl 0
 | y::P,h,t=>by
  have ih:=cap_le (P:=P) (fun x hx=>h x (List.mem_cons_of_mem _ hx)) t
  have hy:=h y List.mem_cons_self
  rw [cap_cons,List.length_cons]
  split<;>omega
theorem low_le:∀ {P:List (Int × Int)},(∀ y∈P,(1:Int)≤y.2)->∀ t,lowF P t≤0∧0≤highF P t
 | [],_,_=>⟨Int.le_refl _,Int.le_refl _⟩
 | y::P,h,t=>by
  have ih:=low_le (P:=P) (fun x hx=>h x (List.mem_cons_of_mem _ hx)) t
  have hy:=h y List.mem_cons_self
  have l1:loP y≤0:=by unfold loP;split<;>omega
  have l2:0≤hiP y:=by unfold hiP;split<;>omega
  show (if absI y.1=t then loP y else 0)+lowF P t≤0∧0≤(if absI y.1=t then hiP y else 0)+highF P t
  split<;>omega
theorem sg_abs (a:Int × Int):absI (sgP (-1) a).1=absI (sgP 1 a).1:=by
 show absI (-1 * (keptA a).2)=absI (1 * (keptA a).2)
 unfold absI;omega
theorem mem_sg {A B:List (Int × Int)}{t:Int}:(∃ z∈A.map (sgP 1)++B.map (sgP (-1)),absI z.1=t) ↔ (∃ a∈A,absI (sgP 1 a).1=t)∨∃ a∈B,absI (sgP 1 a).1=t:=by
 constructor
 ·rintro ⟨z,hz,e⟩
  rcases List.mem_append.mp hz with hz|hz
  ·obtain ⟨a,ha,rfl⟩:=List.mem_map.mp hz
   exact .inl ⟨a,ha,e⟩
  ·obtain ⟨a,ha,rfl⟩:=List.mem_map.mp hz
   exact .inr ⟨a,ha,by rw [←sg_abs];exact e⟩
 ·rintro (⟨a,ha,e⟩|⟨a,ha,e⟩)
  ·exact ⟨_,List.mem_append_left _ (List.mem_map_of_mem ha),e⟩
  ·exact ⟨_,List.mem_append_right _ (List.mem_map_of_mem ha),by rw [sg_abs];exact e⟩
theorem KsOk.swap {ks:List Int}{A B:List (Int × Int)}(h:KsOk ks (pullL (A.map keptA) (B.map keptA))):KsOk ks (pullL (B.map keptA) (A.map keptA)):=by
 refine ⟨h.nd,?_,fun t=>?_,h.ord⟩
 ·have:=h.len
  rw [pull_sg,List.length_append,List.length_map,List.length_map] at this ⊢
  omega
 ·have:=h.mem t
  rw [pull_sg,mem_sg] at this ⊢
  rw [this]
  exact ⟨fun x=>⟨x.1,x.2.symm⟩,fun x=>⟨x.1,x.2.symm⟩⟩
theorem pull_mem {A B:List (Int × Int)}{z:Int × Int}(hz:z∈pullL A B):∃ a,(a∈A∨a∈B)∧absI z.1=absI a.2∧z.2=a.1∧(z.1=0 ↔ a.2=0):=by
 unfold pullL at hz
 rcases List.mem_append.mp hz with hz|hz
 ·obtain ⟨a,ha,rfl⟩:=List.mem_map.mp hz
  exact ⟨a,.inl ha,rfl,rfl,Iff.rfl⟩
 ·obtain ⟨a,ha,rfl⟩:=List.mem_map.mp hz
  exact ⟨a,.inr ha,by show absI (-a.2)=_;unfold absI;omega,rfl,by show -a.2=0 ↔ _;omega⟩
theorem span_kept:∀ l:List (Int × Int),(∀ a∈l,(1:Int)≤a.1)->leastL (l.map keptA)=leastL l∧greatL (l.map keptA)=greatL l
 | [],_=>⟨rfl,rfl⟩
 | a::r,h=>by
  obtain ⟨i1,i2⟩:=span_kept r fun b hb=>h b (List.mem_cons_of_mem _ hb)
  have ha:=h a List.mem_cons_self
  have e:((keptA a).1 - 1) * (keptA a).2=(a.1 - 1) * a.2:=by
   show (a.1 - 1) * (if a.1 > 1 then a.2 else 0)=_
   split
   ·rfl
   ·have:a.1=1:=by omega
    rw [this];simp
  rw [List.map_cons,leastL_cons,greatL_cons,leastL_cons,greatL_cons,e,i1,i2]
  exact ⟨rfl,rfl⟩
theorem ax_bnd:∀ {A:List (Int × Int)},(∀ a∈A,1≤a.1)->(-wS A≤leastL A∧leastL A≤0)∧(0≤greatL A∧greatL A≤wS A)
 | [],_=>by decide
 | a::A,h=>by
  have ih:=ax_bnd (A:=A) fun b hb=>h b (List.mem_cons_of_mem _ hb)
  have s:=h a List.mem_cons_self
  have e:axW a=absI a.2 * (a.1 - 1):=rfl
  have u1:=Int.mul_le_mul_of_nonneg_left (show a.2≤absI a.2 by unfold absI;omega) (show 0≤a.1 - 1 by omega)
  have u2:=Int.mul_le_mul_of_nonneg_left (show -absI a.2≤a.2 by unfold absI;omega) (show 0≤a.1 - 1 by omega)
  have n:=axW_nn (a:=a) s
  rw [Int.mul_neg] at u2
  rw [leastL_cons,greatL_cons]
  rw [Int.mul_comm (a.1 - 1) (absI a.2),←e] at u1 u2
  show (-(axW a+wS A)≤_∧_)∧_∧_≤axW a+wS A
  generalize (a.1 - 1) * a.2=x at *
  omega
theorem keptA_id (a:Int × Int):keptA (keptA a)=keptA a:=by
 unfold keptA
 show (a.1,if a.1 > 1 then (if a.1 > 1 then a.2 else 0) else 0)=_
 by_cases h:a.1 > 1
 ·rw [if_pos h,if_pos h]
 ·rw [if_neg h,if_neg h]
def AxV (H:Hp) (Z:List (Int × Int)) (x:V):Prop:=∃ l,x=.ref l∧PrAt H l Z∧AxG Z
theorem AxV.ext {H H':Hp}{Z:List (Int × Int)}{x:V}(h:AxV H Z x) (e:Ext H H'):AxV H' Z x:=by
 obtain ⟨l,h1,h2,h3⟩:=h
 exact ⟨l,h1,pr_ext h2 e,h3⟩
abbrev B_spKPlaced (C:Addr) (p:Addr) (q:Addr) (g:Int) (lo:Int) (mo:Int) (H:Hp) (Q:VK) (E:XK):Prop:=∃ A B:List (Int × Int),PrAt H p A∧PrAt H q B∧AxG A∧AxG B∧(0≤lo∧lo < 4)∧(0≤mo∧mo < 4)∧(-100000000000001000≤g∧g≤100000000000001000)∧∀ (room f:Int) (x1 x2 r:Addr) (H':Hp),Ext H H'->H' r=some (.tup [.ref x1,.ref x2])->ViewAt C H' x1 room f (A.map keptA)->ViewAt C H' x2 room (f+g) (B.map keptA)->ViewOk room (f+g) B->room≤900000000000000000->ViewOk (room+1) f (A.map keptA)->Q (.ref r) H'
def spKPlaced (C:Addr):Sp:=fun vs H Q E=>∃ (p:Addr) (q:Addr) (g:Int) (lo:Int) (mo:Int),vs=[.ref p,.ref q,.int g,.int lo,.int mo]∧(B_spKPlaced C p q g lo mo H Q E)
theorem c_spKPlaced (C:Addr) (p:Addr) (q:Addr) (g:Int) (lo:Int) (mo:Int) (H:Hp) (Q:VK) (E:XK):spKPlaced C [.ref p,.ref q,.int g,.int lo,.int mo] H Q E=(B_spKPlaced C p q g lo mo H Q E):=spx5 (f:=fun (p:Addr) (q:Addr) (g:Int) (lo:Int) (mo:Int)=>[.ref p,.ref q,.int g,.int lo,.int mo]) (fun _ _ _ _ _ _ _ _ _ _ h=>by cases h;exact ⟨rfl,rfl,rfl,rfl,rfl⟩) p q g lo mo
theorem l_spKPlaced (C:Addr){vs:List V}{H:Hp}{Q:VK}{E:XK}(h:spKPlaced C vs H Q E):vs.length=5:=spl5 h fun _ _ _ _ _=>rfl
theorem ok__law_placed (T:Tx K mg t):FnOk P w K mg base CX0 8 t.a__law_placed t.d__law_placed ["_law_one", "_law_other", "_law_goal", "_law_low", "_law_more"] (spKPlaced t.a_View):=by
 have G_View___init__:=ok_View___init__ (P:=P) (w:=w) (base:=base) T
 refine T.F__law_placed.ok c__law_placed (fun vs H Q E h=>l_spKPlaced _ h) (fun cdv A' outer s H vs Q E hr h=>?_)
 ·obtain ⟨p,q,g,lo,mo,rfl,A,B,pA,pB,kA,kB,hlo,hmo,hg,k⟩:=h
  refine ⟨_,(@pss_cons _ _ _ _ _ (@ps_setC _ _ _ _ _ _ _ _ _ _ _ _ _ (["_law_axes_here", "_law_one", "_law_other", "_law_goal", "_law_low", "_law_more", "_law_least", "_law_greatest", "_law_first", "_law_room"]) (1) (5) _ c__law_placed.nd rfl (Or.inl rfl) (comp_ok (defScope s__law_placed) ["_law_one", "_law_other", "_law_goal", "_law_low", "_law_more", "_law_least", "_law_greatest", "_law_first", "_law_room"] rfl rfl (by decide +kernel)) rfl (@pi_seq _ _ _ _ (@pe_qLst _ _ _ _ (@pa_c _ _ _ _ _ (@pvN _ 0 _ _ (by rfl) (by trivial) (by decide) (by decide)) (@pa_c _ _ _ _ _ (@pvN _ 1 _ _ (by rfl) (by trivial) (by decide) (by decide)) (@pa_nil _) (by rfl)) (by rfl)))) (fun C s₀ H₀ ex pn=>(@pg_name _ _ (0) _ (show List.Nodup (["_law_axes_here", "_law_one", "_law_other", "_law_goal", "_law_low", "_law_more", "_law_least", "_law_greatest", "_law_first", "_law_room"]:List Str) from by decide +kernel) rfl (Or.inl rfl) (by trivial))) (fun C s₀ H₀ ex pn=>(@pts_nil _)) (fun C s₀ H₀ ex pn=>(@pe_callB _ _ _ _ _ _ _ ("sum") _ (call_qSum rfl) (by rfl) T.z_sum (by decide +kernel) (@pa_c _ _ _ _ _ (@pe_comp _ _ _ _ _ _ _ _ _ _ _ (["_law_size", "_law_pace", "_law_axes_here", "_law_one", "_law_other", "_law_goal", "_law_low", "_law_more", "_law_least", "_law_greatest", "_law_first", "_law_room"]) (2) (comp_ok _ ["_law_axes_here", "_law_one", "_law_other", "_law_goal", "_law_low", "_law_more", "_law_least", "_law_greatest", "_law_first", "_law_room"] rfl rfl (by kernel_rfl)) rfl (@pi_seq' _ _ _ _ (K) rfl (@pvN _ 0 _ _ (by rfl) (by trivial) (by decide) (by decide))) (fun C s₀ H₀ ex pn=>((@pg_tup _ _ _ _ _ (2) rfl (@pgs_consN _ _ _ _ _ (@pg_name _ _ (0) _ (show List.Nodup (["_law_size", "_law_pace", "_law_axes_here", "_law_one", "_law_other", "_law_goal", "_law_low", "_law_more", "_law_least", "_law_greatest", "_law_first", "_law_room"]:List Str) from by decide +kernel) rfl (Or.inl rfl) (by trivial)) (@pgs_consN _ _ _ _ _ (@pg_name _ _ (1) _ (show List.Nodup (["_law_size", "_law_pace", "_law_axes_here", "_law_one", "_law_other", "_law_goal", "_law_low", "_law_more", "_law_least", "_law_greatest", "_law_first", "_law_room"]:List Str) from by decide +kernel) rfl (Or.inl rfl) (by trivial)) (@pgs_nilN _) (by rfl)) (by rfl)) (by rfl) (by rfl)).mono fun _ _ _ _ h=>gTup_q h)) (fun C s₀ H₀ ex pn=>(@pts_nil _)) (fun C s₀ H₀ ex pn=>(@pe_callB _ _ _ _ _ _ _ ("min") _ (call_qMin rfl) (by rfl) T.z_min (by decide +kernel) (@pa_c _ _ _ _ _ (@pe_int _ _ _ _) (@pa_c _ _ _ _ _ (@pe_op _ _ _ _ _ _ _ _ on_mul (@pvN _ 1 _ _ (by rfl) (by trivial) (by decide) (by decide)) (@pe_op _ _ _ _ _ _ _ _ on_sub (@pvN _ 0 _ _ (by rfl) (by trivial) (by decide) (by decide)) (@pe_int _ _ _ _))) (@pa_nil _) (by rfl)) (by rfl)) (by decide) (by decide) (by rfl) (by rfl))) (by intros;rfl)) (@pa_nil _) (by rfl)) (by decide) (by decide) (by rfl) (by rfl))) (by rfl) (by intros;rfl) (by trivial)) (@pss_cons _ _ _ _ _ (@ps_setC _ _ _ _ _ _ _ _ _ _ _ _ _ (["_law_axes_here", "_law_one", "_law_other", "_law_goal", "_law_low", "_law_more", "_law_least", "_law_greatest", "_law_first", "_law_room"]) (1) (6) _ c__law_placed.nd rfl (Or.inl rfl) (comp_ok (defScope s__law_placed) ["_law_one", "_law_other", "_law_goal", "_law_low", "_law_more", "_law_least", "_law_greatest", "_law_first", "_law_room"] rfl rfl (by decide +kernel)) rfl (@pi_seq _ _ _ _ (@pe_qLst _ _ _ _ (@pa_c _ _ _ _ _ (@pvN _ 0 _ _ (by rfl) (by trivial) (by decide) (by decide)) (@pa_c _ _ _ _ _ (@pvN _ 1 _ _ (by rfl) (by trivial) (by decide) (by decide)) (@pa_nil _) (by rfl)) (by rfl)))) (fun C s₀ H₀ ex pn=>(@pg_name _ _ (0) _ (show List.Nodup (["_law_axes_here", "_law_one", "_law_other", "_law_goal", "_law_low", "_law_more", "_law_least", "_law_greatest", "_law_first", "_law_room"]:List Str) from by decide +kernel) rfl (Or.inl rfl) (by trivial))) (fun C s₀ H₀ ex pn=>(@pts_nil _)) (fun C s₀ H₀ ex pn=>(@pe_callB _ _ _ _ _ _ _ ("sum") _ (call_qSum rfl) (by rfl) T.z_sum (by decide +kernel) (@pa_c _ _ _ _ _ (@pe_comp _ _ _ _ _ _ _ _ _ _ _ (["_law_size", "_law_pace", "_law_axes_here", "_law_one", "_law_other", "_law_goal", "_law_low", "_law_more", "_law_least", "_law_greatest", "_law_first", "_law_room"]) (2) (comp_ok _ ["_law_axes_here", "_law_one", "_law_other", "_law_goal", "_law_low", "_law_more", "_law_least", "_law_greatest", "_law_first", "_law_room"] rfl rfl (by kernel_rfl)) rfl (@pi_seq' _ _ _ _ (K) rfl (@pvN _ 0 _ _ (by rfl) (by trivial) (by decide) (by decide))) (fun C s₀ H₀ ex pn=>((@pg_tup _ _ _ _ _ (2) rfl (@pgs_consN _ _ _ _ _ (@pg_name _ _ (0) _ (show List.Nodup (["_law_size", "_law_pace", "_law_axes_here", "_law_one", "_law_other", "_law_goal", "_law_low", "_law_more", "_law_least", "_law_greatest", "_law_first", "_law_room"]:List Str) from by decide +kernel) rfl (Or.inl rfl) (by trivial)) (@pgs_consN _ _ _ _ _ (@pg_name _ _ (1) _ (show List.Nodup (["_law_size", "_law_pace", "_law_axes_here", "_law_one", "_law_other", "_law_goal", "_law_low", "_law_more", "_law_least", "_law_greatest", "_law_first", "_law_room"]:List Str) from by decide +kernel) rfl (Or.inl rfl) (by trivial)) (@pgs_nilN _) (by rfl)) (by rfl)) (by rfl) (by rfl)).mono fun _ _ _ _ h=>gTup_q h)) (fun C s₀ H₀ ex pn=>(@pts_nil _)) (fun C s₀ H₀ ex pn=>(@pe_callB _ _ _ _ _ _ _ ("max") _ (call_qMax rfl) (by rfl) T.z_max (by decide +kernel) (@pa_c _ _ _ _ _ (@pe_int _ _ _ _) (@pa_c _ _ _ _ _ (@pe_op _ _ _ _ _ _ _ _ on_mul (@pvN _ 1 _ _ (by rfl) (by trivial) (by decide) (by decide)) (@pe_op _ _ _ _ _ _ _ _ on_sub (@pvN _ 0 _ _ (by rfl) (by trivial) (by decide) (by decide)) (@pe_int _ _ _ _))) (@pa_nil _) (by rfl)) (by rfl)) (by decide) (by decide) (by rfl) (by rfl))) (by intros;rfl)) (@pa_nil _) (by rfl)) (by decide) (by decide) (by rfl) (by rfl))) (by rfl) (by intros;rfl) (by trivial)) (@pss_cons _ _ _ _ _ (@ps_set _ _ (7) _ _ _ _ c__law_placed.nd rfl (Or.inl rfl) (@pe_op _ _ _ _ _ _ _ _ on_add (@pe_callB _ _ _ _ _ _ _ ("max") _ (call_qMax rfl) (by rfl) T.z_max (by decide +kernel) (@pa_c _ _ _ _ _ (@pe_op _ _ _ _ _ _ _ _ on_sub (@pe_int _ _ _ _) (@pe_ix _ _ _ _ _ _ _ ix_q (@pvN _ 5 _ _ (by rfl) (by trivial) (by decide) (by decide)) (@pe_int _ _ _ _) (fun _ _=>rfl))) (@pa_c _ _ _ _ _ (@pe_op _ _ _ _ _ _ _ _ on_sub (@pe_op _ _ _ _ _ _ _ _ on_sub (@pe_int _ _ _ _) (@pvN _ 2 _ _ (by rfl) (by trivial) (by decide) (by decide))) (@pe_ix _ _ _ _ _ _ _ ix_q (@pvN _ 5 _ _ (by rfl) (by trivial) (by decide) (by decide)) (@pe_int _ _ _ _) (fun _ _=>rfl))) (@pa_nil _) (by rfl)) (by rfl)) (by decide) (by decide) (by rfl) (by rfl)) (@pvN _ 3 _ _ (by rfl) (by trivial) (by decide) (by decide))) (by rfl) (by trivial)) (@pss_cons _ _ _ _ _ (@ps_set _ _ (8) _ _ _ _ c__law_placed.nd rfl (Or.inl rfl) (@pe_op _ _ _ _ _ _ _ _ on_add (@pe_op _ _ _ _ _ _ _ _ on_add (@pe_callB _ _ _ _ _ _ _ ("max") _ (call_qMax rfl) (by rfl) T.z_max (by decide +kernel) (@pa_c _ _ _ _ _ (@pe_op _ _ _ _ _ _ _ _ on_add (@pvN _ 7 _ _ (by rfl) (by trivial) (by decide) (by decide)) (@pe_ix _ _ _ _ _ _ _ ix_q (@pvN _ 6 _ _ (by rfl) (by trivial) (by decide) (by decide)) (@pe_int _ _ _ _) (fun _ _=>rfl))) (@pa_c _ _ _ _ _ (@pe_op _ _ _ _ _ _ _ _ on_add (@pe_op _ _ _ _ _ _ _ _ on_add (@pvN _ 7 _ _ (by rfl) (by trivial) (by decide) (by decide)) (@pvN _ 2 _ _ (by rfl) (by trivial) (by decide) (by decide))) (@pe_ix _ _ _ _ _ _ _ ix_q (@pvN _ 6 _ _ (by rfl) (by trivial) (by decide) (by decide)) (@pe_int _ _ _ _) (fun _ _=>rfl))) (@pa_nil _) (by rfl)) (by rfl)) (by decide) (by decide) (by rfl) (by rfl)) (@pe_int _ _ _ _)) (@pvN _ 4 _ _ (by rfl) (by trivial) (by decide) (by decide))) (by rfl) (by trivial)) (@pss_one _ _ _ (@ps_ret _ _ _ _ (@pe_qTup _ _ _ _ _ (@pa_c _ _ _ _ _ (@pe_nMake _ _ _ _ _ _ _ _ _ _ _ _ _ _ _ _ _ T.mk_View G_View___init__ (hr.mono (by decide)) (by rfl) T.m_View T.b_View___init__ .nil pass0 (@pa_c _ _ _ _ _ (@pvN _ 8 _ _ (by rfl) (by trivial) (by decide) (by decide)) (@pa_c _ _ _ _ _ (@pvN _ 7 _ _ (by rfl) (by trivial) (by decide) (by decide)) (@pa_c _ _ _ _ _ (@pe_callTy _ _ _ _ _ _ _ _ _ call_nList (by rfl) T.z_list (by decide +kernel) (@pa_c _ _ _ _ _ (@pvN _ 0 _ _ (by rfl) (by trivial) (by decide) (by decide)) (@pa_nil _) (by rfl)) (by decide) (by decide) (by rfl) (by rfl)) (@pa_nil _) (by rfl)) (by rfl)) (by rfl)) (by decide) (by rfl) (by rfl)) (@pa_c _ _ _ _ _ (@pe_nMake _ _ _ _ _ _ _ _ _ _ _ _ _ _ _ _ _ T.mk_View G_View___init__ (hr.mono (by decide)) (by rfl) T.m_View T.b_View___init__ .nil pass0 (@pa_c _ _ _ _ _ (@pvN _ 8 _ _ (by rfl) (by trivial) (by decide) (by decide)) (@pa_c _ _ _ _ _ (@pe_op _ _ _ _ _ _ _ _ on_add (@pvN _ 7 _ _ (by rfl) (by trivial) (by decide) (by decide)) (@pvN _ 2 _ _ (by rfl) (by trivial) (by decide) (by decide))) (@pa_c _ _ _ _ _ (@pe_callTy _ _ _ _ _ _ _ _ _ call_nList (by rfl) T.z_list (by decide +kernel) (@pa_c _ _ _ _ _ (@pvN _ 1 _ _ (by rfl) (by trivial) (by decide) (by decide)) (@pa_nil _) (by rfl)) (by decide) (by decide) (by rfl) (by rfl)) (@pa_nil _) (by rfl)) (by rfl)) (by rfl)) (by decide) (by rfl) (by rfl)) (@pa_nil _) (by rfl)) (by rfl))))))))),?_⟩
  rw [show start ["_law_one", "_law_other", "_law_goal", "_law_low", "_law_more", "_law_least", "_law_greatest", "_law_first", "_law_room"] [.ref p,.ref q,.int g,.int lo,.int mo]=[some (.ref p),some (.ref q),some (.int g),some (.int lo),some (.int mo),none,none,none,none] from rfl]
  clear G_View___init__
  obtain ⟨ta,hpa,alA⟩:=pA
  obtain ⟨tb,hqb,alB⟩:=pB
  replace k:=fun (_:Unit)=>k
  replace alA:=fun (_:Unit)=>alA
  replace alB:=fun (_:Unit)=>alB
  simp! only [and_true]
  intro l1 H1 hl1 e1 h1
  have cA:AxV H1 A (.ref p):=⟨p,rfl,⟨ta,e1.at hpa,(alA ()).imp fun _ _ t=>axP.ext t e1⟩,kA⟩
  have cB:AxV H1 B (.ref q):=⟨q,rfl,⟨tb,e1.at hqb,(alB ()).imp fun _ _ t=>axP.ext t e1⟩,kB⟩
  have al1:Al (fun Z y=>AxV H1 Z y) [A,B] [.ref p,.ref q]:=Al.cons' cA (Al.cons' cB Al.nil)
  have wk:=wk_al (K:=K) (R:=fun Z x H'=>AxV H' Z x) (fun _ _ _ _ h e=>h.ext e) h1 al1
  replace cA:=fun (_:Unit)=>cA
  replace cB:=fun (_:Unit)=>cB
  clear hl1 al1
  simp! only [and_true]
  refine comp_fm [A,B] (fun _=>true) (fun Z=>.int (leastL Z)) (fun Z x H'=>AxV H' Z x) wk.1 wk.2 (len5000 (by simp)) ?_ ?_
  ·intro D Z x H' N1 N0 hZ hD e hx k1 _
   obtain ⟨lz,rfl,⟨tz,hlz,alz⟩,kz⟩:=hx
   have k1':=fun (_:Unit)=>k1 rfl
   have hz3:=kz.len
   have kzs:=fun (_:Unit)=>kz.sz
   have wk2:=wk_al (K:=K) (R:=axP) (fun _ _ _ _ h e=>h.ext e) hlz alz
   clear k1 wk k cA cB
   simp! only [↓m_kCm_1,↓m_kCm2]
   refine comp_fm Z (fun _=>true) (fun a=>.int (min 0 ((a.1 - 1) * a.2))) axP wk2.1 wk2.2 (len5000 (by omega)) ?_ ?_
   ·intro D2 a x H2 M1 M0 ha hD2 e2 ⟨aq,hx,haq⟩ k2 _
    subst hx
    have k2':M1 (.int (min 0 ((a.1 - 1) * a.2))) H2:=k2 rfl H2 (Ext.refl _)
    have hz:=kzs () a ha
    have cm:CMul a.2 (a.1 - 1):=.inr ⟨by omega,by omega⟩
    rw [min0,Int.mul_comm] at k2'
    clear k2 ha wk2 k1'
    simp! only [↓m_kCm_2,↓m_kCm2]
   ·intro D2 H2 hD2 e2 h2
    have h2':H2 D2=some (.lst ((Z.map fun a=>min 0 ((a.1 - 1) * a.2)).map V.int)):=by rw [h2,filt,List.map_map];rfl
    have hsum:(Z.map fun a=>min 0 ((a.1 - 1) * a.2)).sum=leastL Z:=rfl
    have k3:=k1' () H2 e2
    clear h2 wk2 k1'
    simp! only [and_true]
  intro D3 H3 hD3 e3 h3
  rw [filt] at h3
  have h3':H3 D3=some (.lst [.int (leastL A),.int (leastL B)]):=h3
  clear h3 wk hD3
  simp! only [and_true]
  intro l4 H4 _ e4 h4
  have cA4:AxV H4 A (.ref p):=(cA ()).ext (e3.trans e4)
  have cB4:AxV H4 B (.ref q):=(cB ()).ext (e3.trans e4)
  have wk:=wk_al (K:=K) (R:=fun Z x H'=>AxV H' Z x) (fun _ _ _ _ h e=>h.ext e) h4 (Al.cons' cA4 (Al.cons' cB4 Al.nil))
  have h3_4:=e4.at h3'
  clear cA4 cB4 h3'
  simp! only [and_true]
  refine comp_fm [A,B] (fun _=>true) (fun Z=>.int (greatL Z)) (fun Z x H'=>AxV H' Z x) wk.1 wk.2 (len5000 (by simp)) ?_ ?_
  ·intro D Z x H' N1 N0 hZ hD e hx k1 _
   obtain ⟨lz,rfl,⟨tz,hlz,alz⟩,kz⟩:=hx
   have k1':=fun (_:Unit)=>k1 rfl
   have hz3:=kz.len
   have kzs:=fun (_:Unit)=>kz.sz
   have wk2:=wk_al (K:=K) (R:=axP) (fun _ _ _ _ h e=>h.ext e) hlz alz
   clear k1 wk k cA cB
   simp! only [↓m_kCm_1,↓m_kCm2]
   refine comp_fm Z (fun _=>true) (fun a=>.int (max 0 ((a.1 - 1) * a.2))) axP wk2.1 wk2.2 (len5000 (by omega)) ?_ ?_
   ·intro D2 a x H2 M1 M0 ha hD2 e2 ⟨aq,hx,haq⟩ k2 _
    subst hx
    have k2':M1 (.int (max 0 ((a.1 - 1) * a.2))) H2:=k2 rfl H2 (Ext.refl _)
    have hz:=kzs () a ha
    have cm:CMul a.2 (a.1 - 1):=.inr ⟨by omega,by omega⟩
    rw [max0,Int.mul_comm] at k2'
    clear k2 ha wk2 k1'
    simp! only [↓m_kCm_2,↓m_kCm2]
   ·intro D2 H2 hD2 e2 h2
    have h2':H2 D2=some (.lst ((Z.map fun a=>max 0 ((a.1 - 1) * a.2)).map V.int)):=by rw [h2,filt,List.map_map];rfl
    have hsum:(Z.map fun a=>max 0 ((a.1 - 1) * a.2)).sum=greatL Z:=rfl
    have k3:=k1' () H2 e2
    clear h2 wk2 k1'
    simp! only [and_true]
  intro D5 H5 hD5 e5 h5
  rw [filt] at h5
  have h5':H5 D5=some (.lst [.int (greatL A),.int (greatL B)]):=h5
  have h3_5:=e5.at h3_4
  clear h5 wk hD5 h3_4
  obtain ⟨⟨la1,la2⟩,la3,la4⟩:=ax_bnd (fun a ha=>by have:=(kA.sz a ha).1;omega)
  obtain ⟨⟨lb1,lb2⟩,lb3,lb4⟩:=ax_bnd (fun a ha=>by have:=(kB.sz a ha).1;omega)
  have nA:=kA.len
  have nB:=kB.len
  have wA0:=kA.wt
  have wB0:=kB.wt
  have axA:Axes A:=⟨by omega,fun a ha=>by have:=(kA.sz a ha).1;omega⟩
  have axB:Axes B:=⟨by omega,fun a ha=>by have:=(kB.sz a ha).1;omega⟩
  obtain ⟨sA1,sA2⟩:=span_kept A fun a ha=>(axA.2 a ha).1
  obtain ⟨sB1,sB2⟩:=span_kept B fun a ha=>(axB.2 a ha).1
  have e05:=e1.trans (e3.trans (e4.trans e5))
  have hpa5:=e05.at hpa
  have hqb5:=e05.at hqb
  obtain ⟨fx,hfx⟩:∃ fx,(if 0 - leastL A < 0 - g - leastL B then 0 - g - leastL B else 0 - leastL A)=fx:=⟨_,rfl⟩
  have fx1:0 - leastL A≤fx∧0 - g - leastL B≤fx∧fx≤300000000000000000:=by rw [←hfx];split<;>omega
  obtain ⟨f,hf⟩:∃ f,fx+lo=f:=⟨_,rfl⟩
  obtain ⟨lx,hlx⟩:∃ lx,(if f+greatL A < f+g+greatL B then f+g+greatL B else f+greatL A)=lx:=⟨_,rfl⟩
  have lx1:f+greatL A≤lx∧f+g+greatL B≤lx∧lx≤700000000000000000:=by rw [←hlx];split<;>omega
  obtain ⟨room,hroom⟩:∃ room,lx+1+mo=room:=⟨_,rfl⟩
  have vA:ViewOk room f A:=⟨axA,by omega,by omega,by rw [sA1];omega,by rw [sA2];omega⟩
  have hrb:room≤900000000000000000:=by omega
  have vW:ViewOk (room+1) f (A.map keptA):=⟨axA.kept,by omega,by omega,by rw [List.map_map,show keptA ∘ keptA=keptA from funext keptA_id,sA1];omega,by rw [List.map_map,show keptA ∘ keptA=keptA from funext keptA_id,sA2];omega⟩
  have vB:ViewOk room (f+g) B:=⟨axB,by omega,by omega,by rw [sB1];omega,by rw [sB2];omega⟩
  clear wA0 wB0 la1 la2 la3 la4 lb1 lb2 lb3 lb4 sA1 sA2 sB1 sB2 axA axB fx1 lx1 nA nB cA cB
  simp! only [and_true]
  intro q6 H6 _ e6 h6
  have hqb6:=e6.at hqb5
  have al6:Al (fun z y=>axP z y H6) A ta:=(alA ()).imp fun _ _ t=>axP.ext t (e05.trans e6)
  clear hpa5
  simp! only [and_true]
  intro x1 dx1 G1 hx1 hdx1 hne1 g1 k1 k1'
  rw [c_spVInit]
  refine ⟨dx1,A,k1,TupsAt.ext ⟨ta,h6,al_pr al6⟩ g1,vA,fun G2 D2 g2' hD2 hx2 tt2=>?_⟩
  have eg:=g2' H6 g1 hx1
  have vo1:ViewAt t.a_View G2 x1 room f (A.map keptA):=⟨dx1,D2,hx2,tt2⟩
  have hqb7:=eg.at hqb6
  have e07:=e05.trans (e6.trans eg)
  clear h6 al6 hqb6 k1 k1' hx1 hdx1 hne1 g1 g2' hD2 hx2 tt2
  simp! only [and_true]
  intro q8 G3 _ e8 h8
  have al8:Al (fun z y=>axP z y G3) B tb:=(alB ()).imp fun _ _ t=>axP.ext t (e07.trans e8)
  clear hqb7
  simp! only [and_true]
  intro x2 dx2 G4 hx2 hdx2 hne2 g4 k4 k4'
  rw [c_spVInit]
  refine ⟨dx2,B,k4,TupsAt.ext ⟨tb,h8,al_pr al8⟩ g4,vB,fun G5 D5' g5' hD5 hx5 tt5=>?_⟩
  have eg2:=e8.trans (g5' G3 g4 hx2)
  have vo2:ViewAt t.a_View G5 x2 room (f+g) (B.map keptA):=⟨dx2,D5',hx5,tt5⟩
  clear h8 al8 k4 k4' hx2 hdx2 hne2 g4 g5' hD5 hx5 tt5
  simp! only [and_true]
  intro rr G6 _ e9 h9
  exact k () room f x1 x2 rr G6 (e07.trans (eg2.trans e9)) h9 (vo1.ext (eg2.trans e9)) (vo2.ext e9) vB hrb vW
theorem div_le (x:Int){t:Int}(ht:1≤t):t * (x / t)≤x∧x < t * (x / t)+t:=⟨Int.mul_ediv_self_le (by omega),Int.lt_mul_ediv_self_add (by omega)⟩
theorem optK_pick {xs:List V}{i:Int}{k:V->Prop}(P:V->Prop) (h0:0≤i) (h1:i < xs.length) (ha:∀ v∈xs,P v) (hk:∀ v,P v->k v):optK (atI xs i) k:=optK_at h0 h1 fun v hv=>hk v (ha v hv)
abbrev B_spKGreat (K:PySem.W.Frag) (a:Addr) (ns:List Int) (s:Addr) (i:Int) (p:Addr) (H:Hp) (Q:VK) (E:XK):Prop:=s=a∧SqL K H a (ns.map V.int)∧ns.length≤63∧0≤i∧i≤60∧∃ A0:List (Int × Int),PrAt H p A0∧A0.length≤8∧(∀ b∈A0,-100000000000000000≤b.2∧b.2≤100000000000000000)∧∀ (A:List (Int × Int)) (r:Addr) (H':Hp),Ext H H'->PrAt H' r A->AxG A->Q (.ref r) H'
def spKGreat (K:PySem.W.Frag) (a:Addr) (ns:List Int):Sp:=fun vs H Q E=>∃ (s:Addr) (i:Int) (p:Addr),vs=[.ref s,.int i,.ref p]∧(B_spKGreat K a ns s i p H Q E)
theorem c_spKGreat (K:PySem.W.Frag) (a:Addr) (ns:List Int) (s:Addr) (i:Int) (p:Addr) (H:Hp) (Q:VK) (E:XK):spKGreat K a ns [.ref s,.int i,.ref p] H Q E=(B_spKGreat K a ns s i p H Q E):=spx3 (f:=fun (s:Addr) (i:Int) (p:Addr)=>[.ref s,.int i,.ref p]) (fun _ _ _ _ _ _ h=>by cases h;exact ⟨rfl,rfl,rfl⟩) s i p
theorem l_spKGreat (K:PySem.W.Frag) (a:Addr) (ns:List Int){vs:List V}{H:Hp}{Q:VK}{E:XK}(h:spKGreat K a ns vs H Q E):vs.length=3:=spl3 h fun _ _ _=>rfl
theorem ok__law_great (T:Tx K mg t) (a:Addr) (ns:List Int):FnOk P w K mg base CX0 2 t.a__law_great t.d__law_great ["_law_script", "_law_at", "_law_pool"] (spKGreat K a ns):=by
 have G__law_draw:=ok__law_draw (P:=P) (w:=w) (base:=base) T a ns
 refine T.F__law_great.ok c__law_great (fun vs H Q E h=>l_spKGreat _ _ _ h) (fun cdv A' outer s H vs Q E hr h=>?_)
 ·obtain ⟨_,i0,p,rfl,rfl,hS,hl,i1,i2,A0,⟨ts,hp,al⟩,hA0,hb0,kk⟩:=h
  rename_i a
  refine ⟨_,(@pss_cons _ _ _ _ _ (@ps_set _ _ (3) _ _ _ _ c__law_great.nd rfl (Or.inl rfl) (@pe_qLst _ _ _ _ (@pa_nil _)) (by rfl) (by trivial)) (@pss_cons _ _ _ _ _ (@ps_for _ _ _ _ _ _ _ _ PassesOwn.never rfl (@pi_range1 _ _ _ _ _ _ (by rfl) T.z_range (@pa_c _ _ _ _ _ (@pe_call _ _ _ _ _ _ _ _ _ _ _ _ _ _ _ _ G__law_draw (hr.mono (by decide)) (by rfl) T.m__law_draw T.F__law_draw.kp T.b__law_draw .nil pass0 (@pa_c _ _ _ _ _ (@pvN _ 0 _ _ (by rfl) (by trivial) (by decide) (by decide)) (@pa_c _ _ _ _ _ (@pvN _ 1 _ _ (by rfl) (by trivial) (by decide) (by decide)) (@pa_c _ _ _ _ _ (@pe_int _ _ _ _) (@pa_nil _) (by rfl)) (by rfl)) (by rfl)) (by decide) (by rfl) (by rfl)) (@pa_nil _) (by rfl)) (by rfl)) (@pg_name _ _ (4) _ c__law_great.nd rfl (Or.inl rfl) (by trivial)) (@pss_cons _ _ _ _ _ (@ps_set _ _ (5) _ _ _ _ c__law_great.nd rfl (Or.inl rfl) (@pe_call _ _ _ _ _ _ _ _ _ _ _ _ _ _ _ _ G__law_draw (hr.mono (by decide)) (by rfl) T.m__law_draw T.F__law_draw.kp T.b__law_draw .nil pass0 (@pa_c _ _ _ _ _ (@pvN _ 0 _ _ (by rfl) (by trivial) (by decide) (by decide)) (@pa_c _ _ _ _ _ (@pe_op _ _ _ _ _ _ _ _ on_add (@pe_op _ _ _ _ _ _ _ _ on_add (@pvN _ 1 _ _ (by rfl) (by trivial) (by decide) (by decide)) (@pe_int _ _ _ _)) (@pvN _ 4 _ _ (by rfl) (by trivial) (by decide) (by decide))) (@pa_c _ _ _ _ _ (@pe_op _ _ _ _ _ _ _ _ on_pow (@pe_int _ _ _ _) (@pe_int _ _ _ _)) (@pa_nil _) (by rfl)) (by rfl)) (by rfl)) (by decide) (by rfl) (by rfl)) (by rfl) (by trivial)) (@pss_cons _ _ _ _ _ (@ps_set _ _ (6) _ _ _ _ c__law_great.nd rfl (Or.inl rfl) (@pe_ix _ _ _ _ _ _ _ ix_q (@pe_qLst _ _ _ _ (@pa_c _ _ _ _ _ (@pe_op _ _ _ _ _ _ _ _ on_add (@pe_int _ _ _ _) (@pe_op _ _ _ _ _ _ _ _ on_mod (@pe_op _ _ _ _ _ _ _ _ on_fdiv (@pvN _ 5 _ _ (by rfl) (by trivial) (by decide) (by decide)) (@pe_int _ _ _ _)) (@pe_int _ _ _ _))) (@pa_c _ _ _ _ _ (@pe_op _ _ _ _ _ _ _ _ on_add (@pe_int _ _ _ _) (@pe_op _ _ _ _ _ _ _ _ on_mod (@pe_op _ _ _ _ _ _ _ _ on_fdiv (@pvN _ 5 _ _ (by rfl) (by trivial) (by decide) (by decide)) (@pe_int _ _ _ _)) (@pe_op _ _ _ _ _ _ _ _ on_pow (@pe_int _ _ _ _) (@pe_int _ _ _ _)))) (@pa_c _ _ _ _ _ (@pe_op _ _ _ _ _ _ _ _ on_add (@pe_int _ _ _ _) (@pe_op _ _ _ _ _ _ _ _ on_mod (@pe_op _ _ _ _ _ _ _ _ on_fdiv (@pvN _ 5 _ _ (by rfl) (by trivial) (by decide) (by decide)) (@pe_int _ _ _ _)) (@pe_int _ _ _ _))) (@pa_c _ _ _ _ _ (@pe_int _ _ _ _) (@pa_nil _) (by rfl)) (by rfl)) (by rfl)) (by rfl))) (@pe_op _ _ _ _ _ _ _ _ on_mod (@pvN _ 5 _ _ (by rfl) (by trivial) (by decide) (by decide)) (@pe_int _ _ _ _)) (fun _ _=>rfl)) (by rfl) (by trivial)) (@pss_cons _ _ _ _ _ (@ps_set _ _ (7) _ _ _ _ c__law_great.nd rfl (Or.inl rfl) (@pe_op _ _ _ _ _ _ _ _ on_fdivB (@pe_op _ _ _ _ _ _ _ _ on_pow (@pe_int _ _ _ _) (@pe_int _ _ _ _)) (@pvN _ 6 _ _ (by rfl) (by trivial) (by decide) (by decide))) (by rfl) (by trivial)) (@pss_cons _ _ _ _ _ (@ps_set _ _ (8) _ _ _ _ c__law_great.nd rfl (Or.inl rfl) (@pe_op _ _ _ _ _ _ _ _ on_fdivB (@pvN _ 5 _ _ (by rfl) (by trivial) (by decide) (by decide)) (@pe_op _ _ _ _ _ _ _ _ on_pow (@pe_int _ _ _ _) (@pe_int _ _ _ _))) (by rfl) (by trivial)) (@pss_cons _ _ _ _ _ (@ps_set _ _ (9) _ _ _ _ c__law_great.nd rfl (Or.inl rfl) (@pe_ix _ _ _ _ _ _ _ ix_q (@pe_qLst _ _ _ _ (@pa_c _ _ _ _ _ (@pe_op _ _ _ _ _ _ _ _ on_sub (@pe_op _ _ _ _ _ _ _ _ on_mod (@pvN _ 8 _ _ (by rfl) (by trivial) (by decide) (by decide)) (@pe_op _ _ _ _ _ _ _ _ on_add (@pe_op _ _ _ _ _ _ _ _ on_mul (@pe_int _ _ _ _) (@pvN _ 7 _ _ (by rfl) (by trivial) (by decide) (by decide))) (@pe_int _ _ _ _))) (@pvN _ 7 _ _ (by rfl) (by trivial) (by decide) (by decide))) (@pa_c _ _ _ _ _ (@pe_op _ _ _ _ _ _ _ _ on_sub (@pe_op _ _ _ _ _ _ _ _ on_mod (@pvN _ 8 _ _ (by rfl) (by trivial) (by decide) (by decide)) (@pe_int _ _ _ _)) (@pe_int _ _ _ _)) (@pa_c _ _ _ _ _ (@pe_int _ _ _ _) (@pa_c _ _ _ _ _ (@pe_op _ _ _ _ _ _ _ _ on_sub (@pe_op _ _ _ _ _ _ _ _ on_mod (@pvN _ 8 _ _ (by rfl) (by trivial) (by decide) (by decide)) (@pe_int _ _ _ _)) (@pe_int _ _ _ _)) (@pa_nil _) (by rfl)) (by rfl)) (by rfl)) (by rfl))) (@pe_op _ _ _ _ _ _ _ _ on_mod (@pe_op _ _ _ _ _ _ _ _ on_fdiv (@pvN _ 5 _ _ (by rfl) (by trivial) (by decide) (by decide)) (@pe_int _ _ _ _)) (@pe_int _ _ _ _)) (fun _ _=>rfl)) (by rfl) (by trivial)) (@pss_cons _ _ _ _ _ (@ps_if _ _ _ _ _ _ _ _ (PW.pt (@pw_and _ _ _ _ _ _ _ (@pt_cmpRN _ _ _ _ _ _ _ _ (op_qNe hr.units) (@pvN _ 2 _ _ (by rfl) (by trivial) (by decide) (by decide)) (@pe_qLst _ _ _ _ (@pa_nil _)) (nomark _)) (@pw_and1 _ _ _ _ (@pt_cmpRN _ _ _ _ _ _ _ _ (op_qEq hr.units) (@pe_op _ _ _ _ _ _ _ _ on_mod (@pe_op _ _ _ _ _ _ _ _ on_fdiv (@pvN _ 5 _ _ (by rfl) (by trivial) (by decide) (by decide)) (@pe_int _ _ _ _)) (@pe_int _ _ _ _)) (@pe_int _ _ _ _) (nomark _))))) (@pss_cons _ _ _ _ _ (@ps_set _ _ (10) _ _ _ _ c__law_great.nd rfl (Or.inl rfl) (@pe_ix _ _ _ _ _ _ _ ix_q (@pe_ix _ _ _ _ _ _ _ ix_q (@pvN _ 2 _ _ (by rfl) (by trivial) (by decide) (by decide)) (@pe_op _ _ _ _ _ _ _ _ on_mod (@pvN _ 8 _ _ (by rfl) (by trivial) (by decide) (by decide)) (@pe_callB _ _ _ _ _ _ _ ("len") _ call_qLen (by rfl) T.z_len (by decide +kernel) (@pa_c _ _ _ _ _ (@pvN _ 2 _ _ (by rfl) (by trivial) (by decide) (by decide)) (@pa_nil _) (by rfl)) (by decide) (by decide) (by rfl) (by rfl))) (fun _ _=>rfl)) (@pe_int _ _ _ _) (fun _ _=>rfl)) (by rfl) (by trivial)) (@pss_one _ _ _ (@ps_if _ _ _ _ _ _ _ _ (@pt_cmpRN _ _ _ _ _ _ _ _ on_le (@pe_callB _ _ _ _ _ _ _ ("abs") _ call_qAbs (by rfl) T.z_abs (by decide +kernel) (@pa_c _ _ _ _ _ (@pvN _ 10 _ _ (by rfl) (by trivial) (by decide) (by decide)) (@pa_nil _) (by rfl)) (by decide) (by decide) (by rfl) (by rfl)) (@pvN _ 7 _ _ (by rfl) (by trivial) (by decide) (by decide)) (nomark _)) (@pss_one _ _ _ (@ps_set _ _ (9) _ _ _ _ c__law_great.nd rfl (Or.inl rfl) (@pe_ix _ _ _ _ _ _ _ ix_q (@pe_qLst _ _ _ _ (@pa_c _ _ _ _ _ (@pvN _ 10 _ _ (by rfl) (by trivial) (by decide) (by decide)) (@pa_c _ _ _ _ _ (@pe_op _ _ _ _ _ _ _ _ on_sub (@pe_int _ _ _ _) (@pvN _ 10 _ _ (by rfl) (by trivial) (by decide) (by decide))) (@pa_nil _) (by rfl)) (by rfl))) (@pe_op _ _ _ _ _ _ _ _ on_mod (@pe_op _ _ _ _ _ _ _ _ on_fdiv (@pvN _ 8 _ _ (by rfl) (by trivial) (by decide) (by decide)) (@pe_int _ _ _ _)) (@pe_int _ _ _ _)) (fun _ _=>rfl)) (by rfl) (by trivial))) (@pss_nil _)))) (@pss_nil _)) (@pss_one _ _ _ (@ps_expr _ _ _ _ (@pe_bm _ _ _ _ _ _ _ _ _ _ _ _ PySem.F.plainAttrs_list PySem.F.slot_list_append PySem.F.type_list_append mt_append (@pvN _ 3 _ _ (by rfl) (by trivial) (by decide) (by decide)) (@pa_c _ _ _ _ _ (@pe_qTup _ _ _ _ _ (@pa_c _ _ _ _ _ (@pvN _ 6 _ _ (by rfl) (by trivial) (by decide) (by decide)) (@pa_c _ _ _ _ _ (@pvN _ 9 _ _ (by rfl) (by trivial) (by decide) (by decide)) (@pa_nil _) (by rfl)) (by rfl))) (@pa_nil _) (by rfl)) (by rfl) (by rfl) (by rfl) (by rfl) (by rfl)) (by rfl))))))))) (by intros;rfl)) (@pss_one _ _ _ (@ps_ret _ _ _ _ (@pvN _ 3 _ _ (by rfl) (by trivial) (by decide) (by decide)))))),?_⟩
  rw [show start ["_law_script", "_law_at", "_law_pool", "_law_axes_here", "_law_k", "_law_cell", "_law_size", "_law_most", "_law_wide", "_law_pace", "_law_same"] [.ref a,.int i0,.ref p]=[some (.ref a),some (.int i0),some (.ref p),none,none,none,none,none,none,none,none] from rfl]
  clear G__law_draw
  have htl:ts.length=A0.length:=al.1
  replace kk:=fun (_:Unit)=>kk
  replace al:=fun (_:Unit)=>al
  replace hb0:=fun (_:Unit)=>hb0
  simp! only [and_true]
  intro r H1 hr1 e1 h1
  have hS1:=e1.2 K a _ hS
  have hr0:=hr1
  clear hr1
  simp! only [and_true]
  rw [c_spDraw]
  refine ⟨hS1,hl,⟨by omega,by omega⟩,by decide,fun n n0 n1=>?_⟩
  simp! only [and_true]
  refine ⟨by omega,by omega,?_⟩
  refine for_rng (fun j σ H'=>∃ (A:List (Int × Int)) (ya:List V) (v4 v5 v6 v7 v8 v9 v10:Option V),σ=[some (.ref a),some (.int i0),some (.ref p),some (.ref r),v4,v5,v6,v7,v8,v9,v10]∧Ext H H'∧H' r=some (.lst ya)∧Al (fun z y=>axP z y H') A ya∧A.length=j∧(∀ a∈A,(1≤a.1∧a.1≤1000000000)∧absI a.2≤10000000000000000∧axW a≤10000000000000000)) ⟨[],[],none,none,none,none,none,none,none,rfl,e1,h1,Al.nil,rfl,fun a h=>by cases h⟩ ?_ ?_
  ·clear h1 hS1 e1
   rintro j _ H2 hj ⟨A,ya,v4,v5,v6,v7,v8,v9,v10,rfl,e2,h2,alA,hAl,hsz⟩
   have hj4:j < 8:=by have:j < n.toNat:=hj;omega
   have hS2:=e2.2 K a _ hS
   have hyl:ya.length < sizeLine:=lt5000 (by rw [alA.1,hAl];omega)
   replace alA:=fun (_:Unit)=>alA
   replace hsz:=fun (_:Unit)=>hsz
   replace hAl:=fun (_:Unit)=>hAl
   clear hj kk
   simp! only [↓m_kBody]
   rw [c_spDraw]
   refine ⟨hS2,hl,⟨by omega,by omega⟩,by decide,fun c c0 c1=>?_⟩
   simp! only [and_true]
   intro l3 H3 _ e3 h3
   have c4:0≤c % 4∧c % 4 < 4:=by omega
   have c44:0≤c / 4 % 4∧c / 4 % 4 < 4:=by omega
   simp! only [and_true]
   refine optK_pick (fun v=>∃ z:Int,v=.int z∧1≤z∧z≤1000000000) c4.1 (by simpa using c4.2) (fun v hv=>?_) fun v hv=>?_
   ·simp only [List.mem_cons,List.not_mem_nil,or_false] at hv
    rcases hv with rfl|rfl|rfl|rfl
    ·exact ⟨_,rfl,by omega,by omega⟩
    ·exact ⟨_,rfl,by omega,by omega⟩
    ·exact ⟨_,rfl,by omega,by omega⟩
    ·exact ⟨_,rfl,by decide,by decide⟩
   obtain ⟨sz,rfl,sz0,sz1⟩:=hv
   obtain ⟨mo,hmo⟩:∃ mo,Int.fdiv 10000000000000000 sz=mo:=⟨_,rfl⟩
   have hmo':10000000000000000 / sz=mo:=by rw [←hmo,Int.fdiv_eq_ediv_of_nonneg _ (by omega)]
   have mo1:sz * mo≤10000000000000000:=by rw [←hmo'];exact (div_le _ (by omega)).1
   have mo2:10000000≤mo:=by
    rw [←hmo']
    exact (Int.le_ediv_iff_mul_le (by omega)).mpr (by omega)
   have mo3:mo≤10000000000000000:=by
    have:=Int.mul_le_mul_of_nonneg_right sz0 (show 0≤mo by omega)
    omega
   have dv1:CDivB 10000000000000000 sz:=⟨by omega,by omega⟩
   have dv2:CDivB c 100000000000:=⟨by decide,by decide⟩
   obtain ⟨wd,hwd⟩:∃ wd,Int.fdiv c 100000000000=wd:=⟨_,rfl⟩
   have wd0:0≤wd:=by rw [←hwd,Int.fdiv_eq_ediv_of_nonneg _ (by decide)];exact Int.ediv_nonneg c0 (by decide)
   have m0:0 < 2 * mo+1:=by omega
   have cm:CMul 2 mo:=.inl ⟨by decide,by decide⟩
   have md:0≤wd % (2 * mo+1)∧wd % (2 * mo+1) < 2 * mo+1:=⟨Int.emod_nonneg _ (by omega),Int.emod_lt_of_pos _ m0⟩
   clear hmo' c4 h3
   simp! only [and_true]
   intro l4 H4 _ e4 h4
   simp! only [and_true]
   refine optK_pick (fun v=>∃ z:Int,v=.int z∧-mo≤z∧z≤mo) c44.1 (by simpa using c44.2) (fun v hv=>?_) fun v hv=>?_
   ·simp only [List.mem_cons,List.not_mem_nil,or_false] at hv
    rcases hv with rfl|rfl|rfl|rfl
    ·exact ⟨_,rfl,by omega,by omega⟩
    ·exact ⟨_,rfl,by omega,by omega⟩
    ·exact ⟨_,rfl,by omega,by omega⟩
    ·exact ⟨_,rfl,by omega,by omega⟩
   obtain ⟨pc,rfl,pc0,pc1⟩:=hv
   have e24:=e3.trans e4
   have e04:=e2.trans e24
   have h24:=e24.at h2
   have alA4:=fun (_:Unit)=>(alA ()).imp fun _ _ t=>axP.ext t e24
   have hp4:=e04.at hp
   have al4:=fun (_:Unit)=>(al ()).imp fun _ _ t=>axP.ext t e04
   clear h4 hS2 h2 alA e2 e3 e4 e24 dv1 dv2 cm md c44 hmo hwd
   simp! only [-m_tIfS]
   refine if_gen (fun σ' H'=>∃ (pc:Int) (v10:Option V),σ'=[some (.ref a),some (.int i0),some (.ref p),some (.ref r),some (.int (0+(j:Int))),some (.int c),some (.int sz),some (.int mo),some (.int wd),some (.int pc),v10]∧Ext H4 H'∧(-mo≤pc∧pc≤mo)) (fun nx' hn=>?_) ?_
   ·replace hn:=fun (_:Unit)=>hn
    simp! only [and_true]
    intro l5 H5 _ e5 h5
    have hp5:=e5.at hp4
    have al5:=(al4 ()).imp fun _ _ t=>axP.ext t e5
    have d1:=tups_all (H:=H5) (f:=datF H5 (datF H5 (datF H5 noD))) (al_pr al5)
    replace al5:=fun (_:Unit)=>al5
    have keep:∀ H',Ext H5 H'->∀ w10,nx' [some (.ref a),some (.int i0),some (.ref p),some (.ref r),some (.int (0+(j:Int))),some (.int c),some (.int sz),some (.int mo),some (.int wd),some (.int pc),w10] H':=fun H' e w10=>hn () _ H' ⟨pc,w10,rfl,e5.trans e,pc0,pc1⟩
    replace keep:=fun (_:Unit)=>keep
    clear al4 hp4
    cases A0 with
    | nil=>
     have hts:ts=[]:=List.length_eq_zero_iff.mp htl
     subst hts
     have kp:=keep () H5 (Ext.refl _) v10
     clear hn keep al5
     simp! only [and_true]
    | cons b0 A0'=>
     rw [List.map_cons,List.map_cons] at d1
     have tl0:0 < (ts.length:Int):=by rw [htl,List.length_cons];omega
     by_cases h16:c / 16 % 3=1
     ·have ix0:=Int.emod_nonneg wd (show (ts.length:Int) ≠ 0 by omega)
      have ix1:=Int.emod_lt_of_pos wd tl0
      have pk:∀ v∈ts,∃ (q:Addr) (b1 b2:Int),v=.ref q∧H5 q=some (.tup [.int b1,.int b2])∧-100000000000000000≤b2∧b2≤100000000000000000:=fun v hv=>by
       obtain ⟨m,hm⟩:=List.mem_iff_getElem?.mp hv
       have hml:m < (b0::A0').length:=by have:=(List.getElem?_eq_some_iff.mp hm).1;omega
       obtain ⟨q,e,hq⟩:=(al5 ()).2 m (b0::A0')[m] v (List.getElem?_eq_getElem hml) hm
       exact ⟨q,_,_,e,hq,hb0 () _ (List.getElem_mem hml)⟩
      replace pk:=fun (_:Unit)=>pk
      generalize hln:(ts.length:Int)=ln at *
      clear htl al5 hb0
      simp! only [and_true]
      refine optK_pick (fun v=>∃ (q:Addr) (b1 b2:Int),v=.ref q∧H5 q=some (.tup [.int b1,.int b2])∧-100000000000000000≤b2∧b2≤100000000000000000) ix0 (by rw [hln];exact ix1) (pk ()) fun v hv=>?_
      obtain ⟨q,b1,b2,rfl,hq,q0,q1⟩:=hv
      clear d1 hp5 pk
      obtain ⟨ab,hab⟩:∃ ab,(if b2 < 0 then -b2 else b2)=ab:=⟨_,rfl⟩
      have abb:b2≤ab∧-b2≤ab:=by rw [←hab];split<;>omega
      by_cases hle:ab≤mo
      ·simp! only [and_true]
       intro l6 H6 _ e6 h6
       have w8:0≤wd / 8 % 2∧wd / 8 % 2 < 2:=by omega
       clear hq
       simp! only [and_true]
       refine optK_pick (fun v=>v=.int b2∨v=.int (0 - b2)) w8.1 (by simpa using w8.2) (fun v hv=>by simpa only [List.mem_cons,List.not_mem_nil,or_false] using hv) fun v hv=>?_
       rcases hv with rfl|rfl
       ·have hn':=hn () _ H6 ⟨b2,some (.int b2),rfl,e5.trans e6,by omega,by omega⟩
        clear hn keep
        simp! only [and_true]
       ·have hn':=hn () _ H6 ⟨0 - b2,some (.int b2),rfl,e5.trans e6,by omega,by omega⟩
        clear hn keep
        simp! only [and_true]
      ·have kp:=keep () H5 (Ext.refl _) (some (.int b2))
       clear hn keep
       simp! only [and_true]
     ·have kp:=keep () H5 (Ext.refl _) v10
      clear hn keep al5 htl
      simp! only [and_true]
   clear pc0 pc1 hp4 al4 hb0 al htl
   rintro _ H7 ⟨pc',w10,rfl,e7,pb⟩
   have h27:=e7.at h24
   have alA7:=fun (_:Unit)=>(alA4 ()).imp fun _ _ t=>axP.ext t e7
   have e07:=e04.trans e7
   have hab:absI pc'≤mo:=by unfold absI;omega
   have haw:axW (sz,pc')≤10000000000000000:=by
    have m:=Int.mul_le_mul hab (show sz - 1≤sz by omega) (by omega) (by omega)
    rw [Int.mul_comm mo sz] at m
    show absI pc' * (sz - 1)≤_
    omega
   clear alA4 h24 e04 e7
   simp! only [and_true]
   intro t8 H8 ht8 e8 h8
   have h28:=e8.at h27
   have n8:t8 ≠ r:=fun z=>by rw [z,h27] at ht8;cases ht8
   have al8:Al (fun z y=>axP z y (upd H8 r (.lst (ya++[.ref t8])))) (A++[(sz,pc')]) (ya++[.ref t8]):=al_app' ((alA7 ()).imp fun _ _ t=>axP.upd (axP.ext t e8) h28) (Al.cons' ⟨t8,rfl,by rw [upd_ne n8];exact h8⟩ Al.nil)
   have e08:Ext H (upd H8 r (.lst (ya++[.ref t8]))):=(e07.trans e8).put hr0
   have sz8:∀ a∈A++[(sz,pc')],(1≤a.1∧a.1≤1000000000)∧absI a.2≤10000000000000000∧axW a≤10000000000000000:=fun b hb=>by
    rcases List.mem_append.mp hb with hb|hb
    ·exact hsz () b hb
    ·rw [List.mem_singleton.mp hb];exact ⟨⟨sz0,sz1⟩,by show absI pc'≤_;omega,haw⟩
   replace al8:=fun (_:Unit)=>al8
   replace sz8:=fun (_:Unit)=>sz8
   clear ht8 alA7 h27 h8 hsz haw
   simp! only [and_true]
   exact ⟨_,_,_,_,_,_,_,_,_,rfl,e08,(by first|rfl|exact upd_same),al8 (),(by rw [List.length_append,List.length_singleton,hAl ()]),sz8 ()⟩
  ·rintro _ H2 ⟨A,ya,v4,v5,v6,v7,v8,v9,v10,rfl,e2,h2,alA,hAl,hsz⟩
   have k':=kk () A r H2 e2 ⟨ya,h2,alA⟩ ⟨by rw [hAl];omega,hsz⟩
   clear kk alA hsz h1 hS1
   simp! only [and_true]
theorem Fun.x {K:PySem.W.Frag}{x qual:Str}{st:Stmt}{f:Addr}{fd:FuncData}(F:Fun K x qual st f fd):FunX K x qual st f fd:=by
 obtain ⟨oc,od,kV,doc,pm,an,cdv,ct,osl,e,lk,hcd⟩:=F.ex
 exact ⟨⟨oc,od,.none,kV,doc,pm,an,cdv,ct,osl,e,lk,hcd⟩,F.kp⟩
abbrev B_spRoomsX (C cN:Addr) (u:Addr) (v:Addr) (H:Hp) (Q:VK) (E:XK):Prop:=∃ (r1 r2 f1 f2:Int) (A B:List (Int × Int)),ViewAt C H u r1 f1 A∧ViewAt C H v r2 f2 B∧(r1=r2->Q .non H)∧(r1 ≠ r2->∀ H',Ext H H'->E (.ref cN) none H')
def spRoomsX (C cN:Addr):Sp:=fun vs H Q E=>∃ (u:Addr) (v:Addr),vs=[.ref u,.ref v]∧(B_spRoomsX C cN u v H Q E)
theorem c_spRoomsX (C cN:Addr) (u:Addr) (v:Addr) (H:Hp) (Q:VK) (E:XK):spRoomsX C cN [.ref u,.ref v] H Q E=(B_spRoomsX C cN u v H Q E):=spx2 (f:=fun (u:Addr) (v:Addr)=>[.ref u,.ref v]) (fun _ _ _ _ h=>by cases h;exact ⟨rfl,rfl⟩) u v
theorem l_spRoomsX (C cN:Addr){vs:List V}{H:Hp}{Q:VK}{E:XK}(h:spRoomsX C cN vs H Q E):vs.length=2:=spl2 h fun _ _=>rfl
theorem okX_refuse_rooms (T:Tx K mg t):FnOk P w K mg base (CX1 P  w) 1 t.a_refuse_rooms t.d_refuse_rooms ["one", "other"] (spRoomsX t.a_View t.a_NoPair):=by
 refine (Fun.x T.F_refuse_rooms).ok c_refuse_rooms (fun vs H Q E h=>l_spRoomsX _ _ h) (fun cdv A outer s H vs Q E hr h=>?_)
 ·obtain ⟨u,v,rfl,ra,rb,f1,f2,A,B,vu,vv,kQ,kE⟩:=h
  obtain ⟨dx,D,hu,_⟩:=vu.ob
  obtain ⟨dy,D2,hv,_⟩:=vv.ob
  have c1:=T.cl_View
  have c4:=T.na_View_room
  have g1:=viewF_room ra f1 D
  have g2:=viewF_room rb f2 D2
  refine ⟨_,(@pss_one _ _ _ (@ps_if _ _ _ _ _ _ _ _ (@pt_cmpRN _ _ _ _ _ _ _ _ (op_qNe hr.units) (@pe_nFld _ _ _ _ _ (@pvN _ 0 _ _ (by rfl) (by trivial) (by decide) (by decide)) rfl) (@pe_nFld _ _ _ _ _ (@pvN _ 1 _ _ (by rfl) (by trivial) (by decide) (by decide)) rfl) (nomark _)) (@pss_one _ _ _ (@ps_raise _ _ _ _ _ _ _ _ _ _ rfl (by rfl) T.m_NoPair ⟨T.o_NoPair⟩ (fun σ=>raises_def) (@pa_c _ _ _ _ _ (@pe_str _ _ _ _) (@pa_nil _) (by rfl)) (by rfl) (by rfl) (by decide))) (@pss_nil _))),?_⟩
  rw [show start ["one", "other"] [.ref u,.ref v]=[some (.ref u),some (.ref v)] from rfl]
  by_cases he:ra=rb
  ·subst he
   have k':=kQ rfl
   clear kQ kE
   simp! only [and_true]
  ·have k':=kE he H (Ext.refl _)
   clear kQ kE
   simp! only [and_true]
abbrev B_spGathP (C cN:Addr) (u:Addr) (v:Addr) (H:Hp) (Q:VK) (E:XK):Prop:=∃ (r1 r2 f1 f2:Int) (A B:List (Int × Int)),ViewAt C H u r1 f1 A∧ViewAt C H v r2 f2 B∧r1 ≠ r2∧∀ H',Ext H H'->E (.ref cN) none H'
def spGathP (C cN:Addr):Sp:=fun vs H Q E=>∃ (u:Addr) (v:Addr),vs=[.ref u,.ref v]∧(B_spGathP C cN u v H Q E)
theorem c_spGathP (C cN:Addr) (u:Addr) (v:Addr) (H:Hp) (Q:VK) (E:XK):spGathP C cN [.ref u,.ref v] H Q E=(B_spGathP C cN u v H Q E):=spx2 (f:=fun (u:Addr) (v:Addr)=>[.ref u,.ref v]) (fun _ _ _ _ h=>by cases h;exact ⟨rfl,rfl⟩) u v
theorem l_spGathP (C cN:Addr){vs:List V}{H:Hp}{Q:VK}{E:XK}(h:spGathP C cN vs H Q E):vs.length=2:=spl2 h fun _ _=>rfl
theorem okP_gathered (T:Tx K mg t):FnOk P w K mg base (CX1 P  w) 2 t.a_gathered t.d_gathered ["one", "other"] (spGathP t.a_View t.a_NoPair):=by
 have G_refuse_rooms:=okX_refuse_rooms (P:=P) (w:=w) (base:=base) T
 have G_pulls:=ok_pulls (P:=P) (w:=w) (base:=base) T
 refine (Fun.x T.F_gathered).ok c_gathered (fun vs H Q E h=>l_spGathP _ _ h) (fun cdv A' outer s H vs Q E hr h=>?_)
 ·obtain ⟨u,v,rfl,ra,rb,f1,f2,A,B,vu,vv,hne,k⟩:=h
  refine ⟨_,(@pss_cons _ _ _ _ _ (@ps_expr _ _ _ _ (@pe_call _ _ _ _ _ _ _ _ _ _ _ _ _ _ _ _ G_refuse_rooms (hr.mono (by decide)) (by rfl) T.m_refuse_rooms T.F_refuse_rooms.kp T.b_refuse_rooms .nil passes_def (@pa_c _ _ _ _ _ (@pvN _ 0 _ _ (by rfl) (by trivial) (by decide) (by decide)) (@pa_c _ _ _ _ _ (@pvN _ 1 _ _ (by rfl) (by trivial) (by decide) (by decide)) (@pa_nil _) (by rfl)) (by rfl)) (by decide) (by rfl) (by rfl)) (by rfl)) (@pss_cons _ _ _ _ _ (@ps_set _ _ (2) _ _ _ _ c_gathered.nd rfl (Or.inr rfl) (@pe_nDNew _ _) (by rfl) (by trivial)) (@pss_cons _ _ _ _ _ (@ps_set _ _ (3) _ _ _ _ c_gathered.nd rfl (Or.inr rfl) (@pe_nDNew _ _) (by rfl) (by trivial)) (@pss_cons _ _ _ _ _ (@ps_for _ _ _ _ _ _ _ _ PassesOwn.leaving rfl (@pi_seq _ _ _ _ (@pe_call _ _ _ _ _ _ _ _ _ _ _ _ _ _ _ _ G_pulls (hr.mono (by decide)) (by rfl) T.m_pulls T.F_pulls.kp T.b_pulls .nil pass0 (@pa_c _ _ _ _ _ (@pvN _ 0 _ _ (by rfl) (by trivial) (by decide) (by decide)) (@pa_c _ _ _ _ _ (@pvN _ 1 _ _ (by rfl) (by trivial) (by decide) (by decide)) (@pa_nil _) (by rfl)) (by rfl)) (by decide) (by rfl) (by rfl))) ((@pg_tup _ _ _ _ _ (2) rfl (@pgs_consN _ _ _ _ _ (@pg_name _ _ (4) _ c_gathered.nd rfl (Or.inl rfl) (by trivial)) (@pgs_consN _ _ _ _ _ (@pg_name _ _ (5) _ c_gathered.nd rfl (Or.inl rfl) (by trivial)) (@pgs_nilN _) (by rfl)) (by rfl)) (by rfl) (by rfl)).mono fun _ _ _ _ h=>gTup_q h) (@pss_one _ _ _ (@ps_if _ _ _ _ _ _ _ _ (@pt_cmpRN _ _ _ _ _ _ _ _ (op_qNe hr.units) (@pvN _ 4 _ _ (by rfl) (by trivial) (by decide) (by decide)) (@pe_int _ _ _ _) (nomark _)) (@pss_cons _ _ _ _ _ (@ps_set _ _ (6) _ _ _ _ c_gathered.nd rfl (Or.inl rfl) (@pe_callB _ _ _ _ _ _ _ ("abs") _ call_qAbs (by rfl) T.z_abs (by decide +kernel) (@pa_c _ _ _ _ _ (@pvN _ 4 _ _ (by rfl) (by trivial) (by decide) (by decide)) (@pa_nil _) (by rfl)) (by decide) (by decide) (by rfl) (by rfl)) (by rfl) (by trivial)) (@pss_cons _ _ _ _ _ (@ps_set _ _ (7) _ _ _ _ c_gathered.nd rfl (Or.inl rfl) (@pe_ifExp _ _ _ _ _ _ _ _ (@pt_cmpRN _ _ _ _ _ _ _ _ on_gt (@pvN _ 4 _ _ (by rfl) (by trivial) (by decide) (by decide)) (@pe_int _ _ _ _) (nomark _)) (@pe_op _ _ _ _ _ _ _ _ on_sub (@pvN _ 5 _ _ (by rfl) (by trivial) (by decide) (by decide)) (@pe_int _ _ _ _)) (@pe_op _ _ _ _ _ _ _ _ on_sub (@pe_int _ _ _ _) (@pvN _ 5 _ _ (by rfl) (by trivial) (by decide) (by decide)))) (by rfl) (by trivial)) (@pss_cons _ _ _ _ _ (@ps_dput _ _ _ _ _ _ _ _ _ (units1 hr.units) (@pvN _ 2 _ _ (by rfl) (by trivial) (by decide) (by decide)) (@pvN _ 6 _ _ (by rfl) (by trivial) (by decide) (by decide)) (@pe_op _ _ _ _ _ _ _ _ on_add (@pe_dget2 _ _ _ _ _ _ _ _ _ (units1 hr.units) (@pvN _ 2 _ _ (by rfl) (by trivial) (by decide) (by decide)) (@pvN _ 6 _ _ (by rfl) (by trivial) (by decide) (by decide)) (@pe_int _ _ _ _) ⟨by rfl,by rfl,by rfl,by rfl⟩) (@pe_callB _ _ _ _ _ _ _ ("min") _ (call_qMin rfl) (by rfl) T.z_min (by decide +kernel) (@pa_c _ _ _ _ _ (@pe_int _ _ _ _) (@pa_c _ _ _ _ _ (@pvN _ 7 _ _ (by rfl) (by trivial) (by decide) (by decide)) (@pa_nil _) (by rfl)) (by rfl)) (by decide) (by decide) (by rfl) (by rfl))) rfl) (@pss_one _ _ _ (@ps_dput _ _ _ _ _ _ _ _ _ (units1 hr.units) (@pvN _ 3 _ _ (by rfl) (by trivial) (by decide) (by decide)) (@pvN _ 6 _ _ (by rfl) (by trivial) (by decide) (by decide)) (@pe_op _ _ _ _ _ _ _ _ on_add (@pe_dget2 _ _ _ _ _ _ _ _ _ (units1 hr.units) (@pvN _ 3 _ _ (by rfl) (by trivial) (by decide) (by decide)) (@pvN _ 6 _ _ (by rfl) (by trivial) (by decide) (by decide)) (@pe_int _ _ _ _) ⟨by rfl,by rfl,by rfl,by rfl⟩) (@pe_callB _ _ _ _ _ _ _ ("max") _ (call_qMax rfl) (by rfl) T.z_max (by decide +kernel) (@pa_c _ _ _ _ _ (@pe_int _ _ _ _) (@pa_c _ _ _ _ _ (@pvN _ 7 _ _ (by rfl) (by trivial) (by decide) (by decide)) (@pa_nil _) (by rfl)) (by rfl)) (by decide) (by decide) (by rfl) (by rfl))) rfl))))) (@pss_nil _))) (by intros;rfl)) (@pss_cons _ _ _ _ _ (@ps_setC _ _ _ _ _ _ _ _ _ _ _ _ _ (["times", "one", "other", "lows", "highs", "pace", "size", "!times", "reach", "terms"]) (1) (8) _ c_gathered.nd rfl (Or.inl rfl) (comp_ok (defScope s_gathered) ["one", "other", "lows", "highs", "pace", "size", "times", "reach", "terms"] rfl rfl (by decide +kernel)) rfl (@pi_seq _ _ _ _ (@pe_callBK _ ("sorted") _ _ _ _ _ _ _ _ _ _ (call_qSrtR rfl) (by rfl) T.z_sorted (by decide +kernel) (@pa_c _ _ _ _ _ (@pvN _ 2 _ _ (by rfl) (by trivial) (by decide) (by decide)) (@pa_nil _) (by rfl)) (@pk_cons _ _ _ _ _ _ _ (@pe_bl _ _ _ _) (@pk_nil _)) (by decide) (by decide) (by rfl) (by rfl) (by rfl) (by rfl) (by rfl))) (fun C s₀ H₀ ex pn=>(@pg_name _ _ (0) _ (show List.Nodup (["times", "one", "other", "lows", "highs", "pace", "size", "!times", "reach", "terms"]:List Str) from by decide +kernel) rfl (Or.inl rfl) (by trivial))) (fun C s₀ H₀ ex pn=>(@pts_nil _)) (fun C s₀ H₀ ex pn=>(@pe_qTup _ _ _ _ _ (@pa_c _ _ _ _ _ (@pvN _ 0 _ _ (by rfl) (by trivial) (by decide) (by decide)) (@pa_c _ _ _ _ _ (@pe_dget _ _ _ _ _ _ (units1 hr.units) (@pvN _ 3 _ _ (by rfl) (by trivial) (by decide) (by decide)) (@pvN _ 0 _ _ (by rfl) (by trivial) (by decide) (by decide)) (fun _ _=>rfl)) (@pa_c _ _ _ _ _ (@pe_dget _ _ _ _ _ _ (units1 hr.units) (@pvN _ 4 _ _ (by rfl) (by trivial) (by decide) (by decide)) (@pvN _ 0 _ _ (by rfl) (by trivial) (by decide) (by decide)) (fun _ _=>rfl)) (@pa_nil _) (by rfl)) (by rfl)) (by rfl)))) (by rfl) (by intros;rfl) (by trivial)) (@pss_one _ _ _ (@ps_ret _ _ _ _ (@pe_qTup _ _ _ _ _ (@pa_c _ _ _ _ _ (@pvN _ 8 _ _ (by rfl) (by trivial) (by decide) (by decide)) (@pa_c _ _ _ _ _ (@pe_op _ _ _ _ _ _ _ _ on_sub (@pe_nFld _ _ _ _ _ (@pvN _ 1 _ _ (by rfl) (by trivial) (by decide) (by decide)) rfl) (@pe_nFld _ _ _ _ _ (@pvN _ 0 _ _ (by rfl) (by trivial) (by decide) (by decide)) rfl)) (@pa_nil _) (by rfl)) (by rfl)))))))))),?_⟩
  rw [show start ["one", "other", "lows", "highs", "pace", "size", "times", "reach", "terms"] [.ref u,.ref v]=[some (.ref u),some (.ref v),none,none,none,none,none,none,none] from rfl]
  clear G_refuse_rooms G_pulls
  simp! only [and_true]
  rw [c_spRoomsX]
  exact ⟨ra,rb,f1,f2,A,B,vu,vv,fun e=>absurd e hne,fun _ H' e=>k H' e⟩
def spGathX (C cN:Addr):Sp:=fun vs H Q E=>∃ (u:Addr) (v:Addr),vs=[.ref u,.ref v]∧((spGath C [.ref u,.ref v] H Q E)∨∃ (r1 r2 f1 f2:Int) (A B:List (Int × Int)),ViewAt C H u r1 f1 A∧ViewAt C H v r2 f2 B∧r1 ≠ r2∧∀ H',Ext H H'->E (.ref cN) none H')
abbrev B_spTrn  (p:Addr) (H:Hp) (Q:VK) (E:XK):Prop:=∃ zs:List Tm3,TrAt H p zs∧zs.length≤16∧∀ (r:Addr) (H':Hp),Ext H H'->TrAt H' r (zs.map fun z=>(z.1,0 - z.2.2,0 - z.2.1))->Q (.ref r) H'
def spTrn  : Sp:=fun vs H Q E=>∃ (p:Addr),vs=[.ref p]∧(B_spTrn  p H Q E)
theorem c_spTrn  (p:Addr) (H:Hp) (Q:VK) (E:XK):spTrn  [.ref p] H Q E=(B_spTrn  p H Q E):=spx1 (f:=fun (p:Addr)=>[.ref p]) (fun _ _ h=>by cases h;exact rfl) p
theorem l_spTrn  {vs:List V}{H:Hp}{Q:VK}{E:XK}(h:spTrn  vs H Q E):vs.length=1:=spl1 h fun _=>rfl
theorem ok__law_turned (T:Tx K mg t):FnOk P w K mg base CX0 1 t.a__law_turned t.d__law_turned ["_law_terms_here"] spTrn:=by
 refine T.F__law_turned.ok c__law_turned (fun vs H Q E h=>l_spTrn h) (fun cdv A outer s H vs Q E hr h=>?_)
 ·obtain ⟨p,rfl,zs,⟨ys,hl,al⟩,hz,k⟩:=h
  refine ⟨_,(@pss_one _ _ _ (@ps_ret _ _ _ _ (@pe_comp _ _ _ _ _ _ _ _ _ _ _ (["_law_times", "_law_low", "_law_high", "_law_terms_here"]) (3) (comp_ok (defScope s__law_turned) ["_law_terms_here"] rfl rfl (by decide +kernel)) rfl (@pi_seq _ _ _ _ (@pvN _ 0 _ _ (by rfl) (by trivial) (by decide) (by decide))) (fun C s₀ H₀ ex pn=>((@pg_tup _ _ _ _ _ (3) rfl (@pgs_consN _ _ _ _ _ (@pg_name _ _ (0) _ (show List.Nodup (["_law_times", "_law_low", "_law_high", "_law_terms_here"]:List Str) from by decide +kernel) rfl (Or.inl rfl) (by trivial)) (@pgs_consN _ _ _ _ _ (@pg_name _ _ (1) _ (show List.Nodup (["_law_times", "_law_low", "_law_high", "_law_terms_here"]:List Str) from by decide +kernel) rfl (Or.inl rfl) (by trivial)) (@pgs_consN _ _ _ _ _ (@pg_name _ _ (2) _ (show List.Nodup (["_law_times", "_law_low", "_law_high", "_law_terms_here"]:List Str) from by decide +kernel) rfl (Or.inl rfl) (by trivial)) (@pgs_nilN _) (by rfl)) (by rfl)) (by rfl)) (by rfl) (by rfl)).mono fun _ _ _ _ h=>gTup_q h)) (fun C s₀ H₀ ex pn=>(@pts_nil _)) (fun C s₀ H₀ ex pn=>(@pe_qTup _ _ _ _ _ (@pa_c _ _ _ _ _ (@pvN _ 0 _ _ (by rfl) (by trivial) (by decide) (by decide)) (@pa_c _ _ _ _ _ (@pe_op _ _ _ _ _ _ _ _ on_sub (@pe_int _ _ _ _) (@pvN _ 2 _ _ (by rfl) (by trivial) (by decide) (by decide))) (@pa_c _ _ _ _ _ (@pe_op _ _ _ _ _ _ _ _ on_sub (@pe_int _ _ _ _) (@pvN _ 1 _ _ (by rfl) (by trivial) (by decide) (by decide))) (@pa_nil _) (by rfl)) (by rfl)) (by rfl)))) (by intros;rfl)))),?_⟩
  rw [show start ["_law_terms_here"] [.ref p]=[some (.ref p)] from rfl]
  replace k:=fun (_:Unit)=>k
  simp! only [and_true]
  have wk:=wk_al (K:=K) (R:=trP) (fun _ _ _ _ h e=>h.ext e) hl al
  refine comp_rel2 zs (fun _=>true) trP (fun D a y H'=>trP (a.1,0 - a.2.2,0 - a.2.1) y H') wk.1 wk.2 (fun D a y H1 H2 h e=>trP.ext (z:=(a.1,0 - a.2.2,0 - a.2.1)) h e) (fun D a y H1 xs o h hD=>trP.upd (z:=(a.1,0 - a.2.2,0 - a.2.1)) h hD) (len5000 (by omega)) ?_ ?_
  ·intro D a x H' N1 N0 ha hD e _ ⟨q,hx,hq⟩ k1 _
   subst hx
   have k1':=k1 rfl
   clear k1 k wk
   simp! only [↓m_kCm_3,↓m_kCm2]
   intro t1 H6 ht1 e6 h6
   exact k1' _ H6 e6 ⟨t1,rfl,h6⟩
  intro D xs1 H1 hD e1 h1 al1
  rw [filt] at al1
  have k':=k () D H1 e1 ⟨_,h1,al_mapR al1⟩
  clear k wk al1
  simp! only [and_true]
theorem al_tr3 {H:Hp}{zs:List Tm3}{ys:List V}(h:Al (fun z y=>trP z y H) zs ys):Al (TupV H) (zs.map fun z=>[z.1,z.2.1,z.2.2]) ys:=by
 refine ⟨by rw [List.length_map];exact h.1,fun i z y hz hy=>?_⟩
 rw [List.getElem?_map] at hz
 obtain ⟨a,ha,rfl⟩:=Option.map_eq_some_iff.mp hz
 exact h.2 i a y ha hy
abbrev B_spTldG  (x:Addr) (p:Addr) (g:Int) (H:Hp) (Q:VK) (E:XK):Prop:=∃ (zs:List Tm3) (l:Addr),H x=some (.tup [.ref l,.int g])∧TrAt H l zs∧TrAt H p zs∧zs.length≤16∧∀ (H':Hp),Ext H H'->Q (.bl true) H'
def spTldG  : Sp:=fun vs H Q E=>∃ (x:Addr) (p:Addr) (g:Int),vs=[.ref x,.ref p,.int g]∧(B_spTldG  x p g H Q E)
theorem c_spTldG  (x:Addr) (p:Addr) (g:Int) (H:Hp) (Q:VK) (E:XK):spTldG  [.ref x,.ref p,.int g] H Q E=(B_spTldG  x p g H Q E):=spx3 (f:=fun (x:Addr) (p:Addr) (g:Int)=>[.ref x,.ref p,.int g]) (fun _ _ _ _ _ _ h=>by cases h;exact ⟨rfl,rfl,rfl⟩) x p g
theorem l_spTldG  {vs:List V}{H:Hp}{Q:VK}{E:XK}(h:spTldG  vs H Q E):vs.length=3:=spl3 h fun _ _ _=>rfl
theorem ok__law_told (T:Tx K mg t):FnOk P w K mg base CX0 2 t.a__law_told t.d__law_told ["_law_found", "_law_terms_here", "_law_goal"] spTldG:=by
 have G__law_whole:=ok__law_whole (P:=P) (w:=w) (base:=base) T
 refine T.F__law_told.ok c__law_told (fun vs H Q E h=>l_spTldG h) (fun cdv A outer s H vs Q E hr h=>?_)
 ·obtain ⟨x,p,g,rfl,zs,l,hx,⟨ys,hl,al⟩,⟨ys2,hp,al2⟩,hz,k⟩:=h
  refine ⟨_,(@pss_cons _ _ _ _ _ (@ps_if _ _ _ _ _ _ _ _ (PW.pt (@pw_or _ _ _ _ _ _ _ (@pt_not _ _ _ _ (@pt_valN _ _ _ (@pe_callB _ _ _ _ _ _ _ ("isinstance") _ call_qIsi (by rfl) T.z_isinstance (by decide +kernel) (@pa_c _ _ _ _ _ (@pvN _ 0 _ _ (by rfl) (by trivial) (by decide) (by decide)) (@pa_c _ _ _ _ _ (@pe_bltn _ _ (.ty "tuple") (.type "tuple") _ (by rfl) T.z_tuple (by decide +kernel) rfl (by decide) (by decide)) (@pa_nil _) (by rfl)) (by rfl)) (by decide) (by decide) (by rfl) (by rfl)) (by intros;rfl))) (@pw_or _ _ _ _ _ _ _ (@pt_cmpRN _ _ _ _ _ _ _ _ (op_qNe hr.units) (@pe_callB _ _ _ _ _ _ _ ("len") _ call_qLen (by rfl) T.z_len (by decide +kernel) (@pa_c _ _ _ _ _ (@pvN _ 0 _ _ (by rfl) (by trivial) (by decide) (by decide)) (@pa_nil _) (by rfl)) (by decide) (by decide) (by rfl) (by rfl)) (@pe_int _ _ _ _) (nomark _)) (@pw_or1 _ _ _ _ (@pt_not _ _ _ _ (@pt_valN _ _ _ (@pe_callB _ _ _ _ _ _ _ ("isinstance") _ call_qIsi (by rfl) T.z_isinstance (by decide +kernel) (@pa_c _ _ _ _ _ (@pe_ix _ _ _ _ _ _ _ ix_q (@pvN _ 0 _ _ (by rfl) (by trivial) (by decide) (by decide)) (@pe_int _ _ _ _) (fun _ _=>rfl)) (@pa_c _ _ _ _ _ (@pe_bltn _ _ (.ty "list") (.type "list") _ (by rfl) T.z_list (by decide +kernel) rfl (by decide) (by decide)) (@pa_nil _) (by rfl)) (by rfl)) (by decide) (by decide) (by rfl) (by rfl)) (by intros;rfl))))))) (@pss_one _ _ _ (@ps_ret _ _ _ _ (@pe_bl _ _ _ _))) (@pss_nil _)) (@pss_cons _ _ _ _ _ (@ps_if _ _ _ _ _ _ _ _ (PW.pt (@pw_or _ _ _ _ _ _ _ (@pt_not _ _ _ _ (@pt_valN _ _ _ (@pe_call _ _ _ _ _ _ _ _ _ _ _ _ _ _ _ _ G__law_whole (hr.mono (by decide)) (by rfl) T.m__law_whole T.F__law_whole.kp T.b__law_whole .nil pass0 (@pa_c _ _ _ _ _ (@pe_ix _ _ _ _ _ _ _ ix_q (@pvN _ 0 _ _ (by rfl) (by trivial) (by decide) (by decide)) (@pe_int _ _ _ _) (fun _ _=>rfl)) (@pa_nil _) (by rfl)) (by decide) (by rfl) (by rfl)) (by intros;rfl))) (@pw_or _ _ _ _ _ _ _ (@pt_cmpRN _ _ _ _ _ _ _ _ (op_qNe hr.units) (@pe_ix _ _ _ _ _ _ _ ix_q (@pvN _ 0 _ _ (by rfl) (by trivial) (by decide) (by decide)) (@pe_int _ _ _ _) (fun _ _=>rfl)) (@pvN _ 2 _ _ (by rfl) (by trivial) (by decide) (by decide)) (nomark _)) (@pw_or1 _ _ _ _ (@pt_cmpRN _ _ _ _ _ _ _ _ (op_qNe hr.units) (@pe_ix _ _ _ _ _ _ _ ix_q (@pvN _ 0 _ _ (by rfl) (by trivial) (by decide) (by decide)) (@pe_int _ _ _ _) (fun _ _=>rfl)) (@pvN _ 1 _ _ (by rfl) (by trivial) (by decide) (by decide)) (nomark _)))))) (@pss_one _ _ _ (@ps_ret _ _ _ _ (@pe_bl _ _ _ _))) (@pss_nil _)) (@pss_cons _ _ _ _ _ (@ps_for _ _ _ _ _ _ _ _ PassesOwn.never rfl (@pi_seq _ _ _ _ (@pe_ix _ _ _ _ _ _ _ ix_q (@pvN _ 0 _ _ (by rfl) (by trivial) (by decide) (by decide)) (@pe_int _ _ _ _) (fun _ _=>rfl))) (@pg_name _ _ (3) _ c__law_told.nd rfl (Or.inl rfl) (by trivial)) (@pss_one _ _ _ (@ps_if _ _ _ _ _ _ _ _ (PW.pt (@pw_or _ _ _ _ _ _ _ (@pt_not _ _ _ _ (@pt_valN _ _ _ (@pe_callB _ _ _ _ _ _ _ ("isinstance") _ call_qIsi (by rfl) T.z_isinstance (by decide +kernel) (@pa_c _ _ _ _ _ (@pvN _ 3 _ _ (by rfl) (by trivial) (by decide) (by decide)) (@pa_c _ _ _ _ _ (@pe_bltn _ _ (.ty "tuple") (.type "tuple") _ (by rfl) T.z_tuple (by decide +kernel) rfl (by decide) (by decide)) (@pa_nil _) (by rfl)) (by rfl)) (by decide) (by decide) (by rfl) (by rfl)) (by intros;rfl))) (@pw_or1 _ _ _ _ (@pt_cmpRN _ _ _ _ _ _ _ _ (op_qNe hr.units) (@pe_comp _ _ _ _ _ _ _ _ _ _ _ (["_law_one", "_law_found", "_law_terms_here", "_law_goal", "_law_term"]) (1) (comp_ok (defScope s__law_told) ["_law_found", "_law_terms_here", "_law_goal", "_law_term"] rfl rfl (by decide +kernel)) rfl (@pi_seq _ _ _ _ (@pvN _ 3 _ _ (by rfl) (by trivial) (by decide) (by decide))) (fun C s₀ H₀ ex pn=>(@pg_name _ _ (0) _ (show List.Nodup (["_law_one", "_law_found", "_law_terms_here", "_law_goal", "_law_term"]:List Str) from by decide +kernel) rfl (Or.inl rfl) (by trivial))) (fun C s₀ H₀ ex pn=>(@pts_one _ _ _ (@pt_not _ _ _ _ (@pt_valN _ _ _ (@pe_call _ _ _ _ _ _ _ _ _ _ _ _ _ _ _ _ G__law_whole (hr.mono (by decide)) (by rfl) T.m__law_whole T.F__law_whole.kp T.b__law_whole .nil pass0 (@pa_c _ _ _ _ _ (@pvN _ 0 _ _ (by rfl) (by trivial) (by decide) (by decide)) (@pa_nil _) (by rfl)) (by decide) (by rfl) (by rfl)) (by intros;rfl))))) (fun C s₀ H₀ ex pn=>(@pvN _ 0 _ _ (by rfl) (by trivial) (by decide) (by decide))) (by intros;rfl)) (@pe_qLst _ _ _ _ (@pa_nil _)) (nomark _))))) (@pss_one _ _ _ (@ps_ret _ _ _ _ (@pe_bl _ _ _ _))) (@pss_nil _))) (by intros;rfl)) (@pss_one _ _ _ (@ps_ret _ _ _ _ (@pe_bl _ _ _ _)))))),?_⟩
  rw [show start ["_law_found", "_law_terms_here", "_law_goal", "_law_term"] [.ref x,.ref p,.int g]=[some (.ref x),some (.ref p),some (.int g),none] from rfl]
  clear G__law_whole
  have d1:=tups_all (H:=H) (f:=datF H (datF H (datF H noD))) (al_tr3 al)
  have d2:=tups_all (H:=H) (f:=datF H (datF H (datF H noD))) (al_tr3 al2)
  have d3:=tups_eqv (zs.map fun z=>[z.1,z.2.1,z.2.2])
  replace k:=fun (_:Unit)=>k
  replace al:=fun (_:Unit)=>al
  replace al2:=fun (_:Unit)=>al2
  simp! only [↓c_spWhole]
  refine for_lst (xs:=ys) (fun i σ H'=>∃ v3:Option V,σ=[some (.ref x),some (.ref p),some (.int g),v3]∧Ext H H') ⟨none,rfl,Ext.refl _⟩ (fun i σ H' _ ⟨_,_,e⟩=>e.at hl) ?_ ?_
  ·rintro i y _ H2 hi ⟨v3,rfl,e2⟩
   have hil:i < zs.length:=by have:=(List.getElem?_eq_some_iff.mp hi).1;rw [(al ()).1] at this;exact this
   obtain ⟨q,rfl,hq⟩:=(al ()).2 i zs[i] y (List.getElem?_eq_getElem hil) hi
   have hq2:=e2.at hq
   generalize zs[i]=z at *
   clear hi k d1 d2 d3 hq
   simp! only [↓m_kBody]
   have wk:=wk_tup (K:=K) hq2
   refine comp_fm [V.int z.1,V.int z.2.1,V.int z.2.2] (fun _=>false) id (fun z' x H'=>x=z'∧H' q=some (.tup [V.int z.1,V.int z.2.1,V.int z.2.2])) wk.1 wk.2 (len5000 (by simp)) ?_ ?_
   ·intro D z' x' H' N1 N0 hz' hD e ⟨hx',_⟩ _ k0
    subst hx'
    have k0':=k0 rfl H' (Ext.refl _)
    simp only [List.mem_cons,List.not_mem_nil,or_false] at hz'
    clear k0 wk
    rcases hz' with rfl|rfl|rfl
    ·simp! only [↓m_kCm_1,↓m_kCm2,↓c_spWhole]
    ·simp! only [↓m_kCm_1,↓m_kCm2,↓c_spWhole]
    ·simp! only [↓m_kCm_1,↓m_kCm2,↓c_spWhole]
   ·intro D H3 hD e3 h3
    rw [show List.map id (List.filter (fun _=>false) [V.int z.1,V.int z.2.1,V.int z.2.2])=[] from rfl] at h3
    clear wk hD
    simp! only [and_true]
    intro D2 H4 hD2 e4 h4
    have h3_4:=e4.at h3
    clear hD2 h3
    simp! only [and_true]
    exact ⟨_,rfl,e2.trans (e3.trans e4)⟩
  ·rintro _ H2 ⟨v3,rfl,e2⟩
   have k':=k () H2 e2
   clear k al al2 d1 d2 d3
   simp! only [and_true]
theorem wideL_take (cs:List Int) (a:Int × Int) (i:Nat) (c:Int) (h:cs[i]? = some c):wideL (cs.take (i+1)) a=wideL (cs.take i) a++(List.range a.1.toNat).map fun (n:Nat)=>c+(n:Int) * a.2:=by
 unfold wideL
 rw [List.take_add_one,h,List.flatMap_append]
 simp
abbrev B_spLCells  (first:Int) (l:Addr) (H:Hp) (Q:VK) (E:XK):Prop:=∃ axs:List (Int × Int),TupsAt H l (axL axs)∧Axes axs∧prodL (axs.map fun a=>a.1)≤4096∧∀ (r:Addr) (H':Hp),H r=none->Ext H H'->H' r=some (.lst ((cellsL first axs).map V.int))->Q (.ref r) H'
def spLCells  : Sp:=fun vs H Q E=>∃ (first:Int) (l:Addr),vs=[.int first,.ref l]∧(B_spLCells  first l H Q E)
theorem c_spLCells  (first:Int) (l:Addr) (H:Hp) (Q:VK) (E:XK):spLCells  [.int first,.ref l] H Q E=(B_spLCells  first l H Q E):=spx2 (f:=fun (first:Int) (l:Addr)=>[.int first,.ref l]) (fun _ _ _ _ h=>by cases h;exact ⟨rfl,rfl⟩) first l
theorem l_spLCells  {vs:List V}{H:Hp}{Q:VK}{E:XK}(h:spLCells  vs H Q E):vs.length=2:=spl2 h fun _ _=>rfl
theorem ok__law_cells (T:Tx K mg t):FnOk P w K mg base CX0 1 t.a__law_cells t.d__law_cells ["_law_first", "_law_axes_here"] spLCells:=by
 refine T.F__law_cells.ok c__law_cells (fun vs H Q E h=>l_spLCells h) (fun cdv A outer s H vs Q E hr h=>?_)
 ·obtain ⟨first,l,rfl,axs,⟨ys,hl,al⟩,hax,hpr,k⟩:=h
  refine ⟨_,(@pss_cons _ _ _ _ _ (@ps_set _ _ (2) _ _ _ _ c__law_cells.nd rfl (Or.inl rfl) (@pe_qLst _ _ _ _ (@pa_c _ _ _ _ _ (@pvN _ 0 _ _ (by rfl) (by trivial) (by decide) (by decide)) (@pa_nil _) (by rfl))) (by rfl) (by trivial)) (@pss_cons _ _ _ _ _ (@ps_for _ _ _ _ _ _ _ _ PassesOwn.never rfl (@pi_seq _ _ _ _ (@pvN _ 1 _ _ (by rfl) (by trivial) (by decide) (by decide))) ((@pg_tup _ _ _ _ _ (2) rfl (@pgs_consN _ _ _ _ _ (@pg_name _ _ (3) _ c__law_cells.nd rfl (Or.inl rfl) (by trivial)) (@pgs_consN _ _ _ _ _ (@pg_name _ _ (4) _ c__law_cells.nd rfl (Or.inr rfl) (by trivial)) (@pgs_nilN _) (by rfl)) (by rfl)) (by rfl) (by rfl)).mono fun _ _ _ _ h=>gTup_q h) (@pss_cons _ _ _ _ _ (@ps_set _ _ (5) _ _ _ _ c__law_cells.nd rfl (Or.inl rfl) (@pe_qLst _ _ _ _ (@pa_nil _)) (by rfl) (by trivial)) (@pss_cons _ _ _ _ _ (@ps_for _ _ _ _ _ _ _ _ PassesOwn.never rfl (@pi_seq _ _ _ _ (@pvN _ 2 _ _ (by rfl) (by trivial) (by decide) (by decide))) (@pg_name _ _ (6) _ c__law_cells.nd rfl (Or.inr rfl) (by trivial)) (@pss_one _ _ _ (@ps_set _ _ (5) _ _ _ _ c__law_cells.nd rfl (Or.inl rfl) (@pe_op _ _ _ _ _ _ _ _ op_nCat (@pvN _ 5 _ _ (by rfl) (by trivial) (by decide) (by decide)) (@pe_comp _ _ _ _ _ _ _ _ _ _ _ (["_law_k", "_law_first", "_law_axes_here", "_law_found", "_law_size", "_law_pace", "_law_longer", "_law_cell"]) (1) (comp_ok (defScope s__law_cells) ["_law_first", "_law_axes_here", "_law_found", "_law_size", "_law_pace", "_law_longer", "_law_cell"] rfl rfl (by decide +kernel)) rfl (@pi_range1 _ _ _ _ _ _ (by rfl) T.z_range (@pa_c _ _ _ _ _ (@pvN _ 3 _ _ (by rfl) (by trivial) (by decide) (by decide)) (@pa_nil _) (by rfl)) (by rfl)) (fun C s₀ H₀ ex pn=>(@pg_name _ _ (0) _ (show List.Nodup (["_law_k", "_law_first", "_law_axes_here", "_law_found", "_law_size", "_law_pace", "_law_longer", "_law_cell"]:List Str) from by decide +kernel) rfl (Or.inl rfl) (by trivial))) (fun C s₀ H₀ ex pn=>(@pts_nil _)) (fun C s₀ H₀ ex pn=>(@pe_op _ _ _ _ _ _ _ _ on_add (@pvN _ 7 _ _ (by rfl) (by trivial) (by decide) (by decide)) (@pe_op _ _ _ _ _ _ _ _ on_mul (@pvN _ 5 _ _ (by rfl) (by trivial) (by decide) (by decide)) (@pvN _ 0 _ _ (by rfl) (by trivial) (by decide) (by decide))))) (by intros;rfl))) (by rfl) (by trivial))) (by intros;rfl)) (@pss_one _ _ _ (@ps_set _ _ (2) _ _ _ _ c__law_cells.nd rfl (Or.inl rfl) (@pvN _ 5 _ _ (by rfl) (by trivial) (by decide) (by decide)) (by rfl) (by trivial))))) (by intros;rfl)) (@pss_one _ _ _ (@ps_ret _ _ _ _ (@pvN _ 2 _ _ (by rfl) (by trivial) (by decide) (by decide)))))),?_⟩
  rw [show start ["_law_first", "_law_axes_here", "_law_found", "_law_size", "_law_pace", "_law_longer", "_law_cell"] [.int first,.ref l]=[some (.int first),some (.ref l),none,none,none,none,none] from rfl]
  simp! only [and_true]
  intro r H1 hr1 e1 h1
  have hl1:=e1.at hl
  have hpos:∀ a∈axs,(1:Int)≤a.1:=fun a ha=>(hax.2 a ha).1
  simp! only [and_true]
  refine for_lst (xs:=ys) (fun i σ H'=>∃ (r:Addr) (v3 v4 v5 v6:Option V),σ=[some (.int first),some (.ref l),some (.ref r),v3,v4,v5,v6]∧Ext H H'∧H r=none∧H' r=some (.lst ((cellsL first (axs.take i)).map V.int))) ⟨r,none,none,none,none,rfl,e1,hr1,h1⟩ (fun i σ H' _ ⟨_,_,_,_,_,_,e,_,_⟩=>e.at hl) ?_ ?_
  ·rintro i y _ H3 hi ⟨r3,v3,v4,v5,v6,rfl,e3,hr3,h3⟩
   obtain ⟨a,q,ha,rfl,hq⟩:=al_ax al hi
   have hq3:=e3.at hq
   have hm:=hax.2 a (List.mem_of_getElem? ha)
   have hlen:(cellsL first (axs.take i)).length * a.1.toNat≤4096:=by
    have hl4:=cellsL_len first (axs.take i) fun b hb=>hpos b (List.mem_of_mem_take hb)
    have hp:=prodL_take_le (axs.map fun a=>a.1) (fun n hn=>by obtain ⟨b,hb,rfl⟩:=List.mem_map.mp hn;exact hpos b hb) (i+1)
    rw [prodL_take _ i a.1 (by rw [List.getElem?_map,ha];rfl),←List.map_take,←hl4] at hp
    have hza:((a.1.toNat:Nat):Int)=a.1:=Int.toNat_of_nonneg (by omega)
    have:(((cellsL first (axs.take i)).length * a.1.toNat:Nat):Int)≤4096:=by rw [Int.natCast_mul,hza];omega
    omega
   have hsn:cellsL first (axs.take (i+1))=wideL (cellsL first (axs.take i)) a:=by
    rw [List.take_add_one,ha]
    show cellsL first (axs.take i++[a])=_
    rw [cellsL_snoc]
   rw [hsn]
   generalize cellsL first (axs.take i)=cs at hlen h3
   clear hsn hi k
   simp! only [↓m_kBody]
   intro g H4 hg4 e4 h4
   have h3_4:=e4.at h3
   have hg0:H g=none:=e3.free hg4
   simp! only [and_true]
   refine for_lst (xs:=cs.map V.int) (fun j σ H'=>∃ (g:Addr) (v6:Option V),σ=[some (.int first),some (.ref l),some (.ref r3),some (.int a.1),some (.int a.2),some (.ref g),v6]∧Ext H H'∧Ext H3 H'∧H g=none∧H' g=some (.lst ((wideL (cs.take j) a).map V.int))) ⟨g,_,rfl,e3.trans e4,e4,hg0,h4⟩ (fun j σ H' _ ⟨_,_,_,_,e,_⟩=>e.at h3) ?_ ?_
   ·rintro j x _ H5 hj ⟨g,v6',rfl,e5,e35,hg5,h5⟩
    rw [List.getElem?_map] at hj
    obtain ⟨c,hc,rfl⟩:=Option.map_eq_some_iff.mp hj
    have hjl:j < cs.length:=(List.getElem?_eq_some_iff.mp hc).1
    have hzn:a.1.toNat≤4096:=by
     have:=Nat.mul_le_mul_right a.1.toNat (show 1≤cs.length by omega)
     omega
    have hwl:(wideL (cs.take j) a).length+a.1.toNat≤4096:=by
     rw [wideL_len,List.length_take]
     have:(min j cs.length+1) * a.1.toNat≤cs.length * a.1.toNat:=Nat.mul_le_mul_right _ (by omega)
     rw [Nat.add_mul,Nat.one_mul] at this
     omega
    rw [wideL_take cs a j c hc]
    generalize wideL (cs.take j) a=ws at h5 hwl
    clear hj
    simp! only [↓m_kBody]
    refine ⟨by omega,by omega,?_⟩
    refine comp_fm (List.range a.1.toNat) (fun _=>true) (fun m=>.int (c+(m:Int) * a.2)) (fun j x H'=>x=.int (0+(j:Nat))) wk_rng.1 wk_rng.2 (len5000 (by rw [List.length_range];omega)) ?_ ?_
    ·intro D m x H' N1 N0 hm' hD e hx k1 _
     subst hx
     have hmr:=List.mem_range.mp hm'
     have k1':=k1 rfl H' (Ext.refl _)
     rw [show c+(m:Int) * a.2=c+a.2 * (0+(m:Int)) by rw [Int.zero_add,Int.mul_comm]] at k1'
     have hcm:CMul a.2 (0+(m:Int)):=.inr ⟨by omega,by omega⟩
     clear k1 hm'
     simp! only [↓m_kCm_1,↓m_kCm2]
    ·intro D H6 hD e6 h6
     rw [filt] at h6
     have h5_6:=e6.at h5
     refine use_cat h5_6 h6 (len5000 (by rw [List.length_map,List.length_map,List.length_range];omega)) ?_
     intro g7 H7 hg7 e7 h7
     clear h5_6 h6 h5
     simp! only [and_true]
     refine ⟨g7,_,rfl,e5.trans (e6.trans e7),e35.trans (e6.trans e7),(e5.trans e6).free hg7,?_⟩
     rw [h7,List.map_append,List.map_map]
     rfl
   ·rintro _ H5 ⟨g,v6',rfl,e5,e35,hg5,h5⟩
    rw [List.length_map,List.take_length] at h5
    simp! only [and_true]
    exact ⟨g,_,_,_,_,rfl,e5,hg5,h5⟩
  ·rintro _ H3 ⟨r3,v3,v4,v5,v6,rfl,e3,hr3,h3⟩
   have hyl:ys.length=axs.length:=by rw [al.1];unfold axL;rw [List.length_map]
   rw [hyl,List.take_length] at h3
   simp! only [and_true]
   exact k r3 H3 hr3 e3 h3
def dotA:List (Int × Int)->List Int->Int
 | a::A,y::ys=>a.2 * y+dotA A ys
 | _,_=>0
def InA:List (Int × Int)->List Int->Prop
 | [],[]=>True
 | a::A,y::ys=>(0≤y∧y < a.1)∧InA A ys
 | _,_=>False
theorem kept_in:∀ {A:List (Int × Int)}{ys:List Int},InA A ys->InA (A.map keptA) ys
 | [],[],_=>trivial
 | [],_::_,h=>h.elim
 | _::_,[],h=>h.elim
 | _::_,_::_,h=>⟨h.1,kept_in h.2⟩
theorem in_kept:∀ {A:List (Int × Int)}{ys:List Int},InA (A.map keptA) ys->InA A ys
 | [],[],_=>trivial
 | [],_::_,h=>h.elim
 | _::_,[],h=>h.elim
 | _::_,_::_,h=>⟨h.1,in_kept h.2⟩
theorem kept_dot:∀ {A:List (Int × Int)}{ys:List Int},InA A ys->dotA (A.map keptA) ys=dotA A ys
 | [],[],_=>rfl
 | [],_::_,h=>h.elim
 | _::_,[],h=>h.elim
 | a::A,y::ys,h=>by
  show (if a.1 > 1 then a.2 else 0) * y+dotA (A.map keptA) ys=a.2 * y+dotA A ys
  rw [kept_dot h.2]
  by_cases h1:a.1 > 1
  ·rw [if_pos h1]
  ·have hy:y=0:=by have:=h.1;omega
   rw [if_neg h1,hy,Int.mul_zero,Int.mul_zero]
theorem inr_ina:∀ {A:List (Int × Int)}{ys:List Int},InR (A.map fun a=>a.1) ys ↔ InA A ys
 | [],[]=>Iff.rfl
 | [],_::_=>Iff.rfl
 | _::_,[]=>Iff.rfl
 | a::A,y::ys=>and_congr Iff.rfl (inr_ina (A:=A) (ys:=ys))
theorem dotl_a:∀ {A:List (Int × Int)}{ys:List Int},InA A ys->dotL ys (A.map fun a=>a.2)=dotA A ys
 | [],[],_=>rfl
 | [],_::_,h=>h.elim
 | _::_,[],h=>h.elim
 | a::A,y::ys,h=>by
  have ih:=dotl_a (A:=A) (ys:=ys) h.2
  unfold dotL at ih ⊢
  rw [List.map_cons,List.zipWith_cons_cons,List.sum_cons,ih,Int.mul_comm];rfl
theorem cells_in {f:Int}{A:List (Int × Int)}{c:Int}:c∈cellsL f A ↔ ∃ ys,InA A ys∧c=f+dotA A ys:=by
 rw [cellsL_mem]
 constructor
 ·rintro ⟨xs,h,e⟩
  exact ⟨xs,inr_ina.mp h,by rw [e,dotl_a (inr_ina.mp h)]⟩
 ·rintro ⟨xs,h,e⟩
  exact ⟨xs,inr_ina.mpr h,by rw [e,dotl_a h]⟩
def KyI (kvs:List (Key × V)) (ks:List Int):Prop:=kvs.map (·.1)=ks.map (Sum.inl:Int->Key)∧ks.Nodup
theorem KyI.nil:KyI [] []:=⟨rfl,List.nodup_nil⟩
theorem KyI.len {kvs:List (Key × V)}{ks:List Int}(h:KyI kvs ks):kvs.length=ks.length:=by have:=congrArg List.length h.1;simpa using this
theorem KyI.put {kvs:List (Key × V)}{ks:List Int}(h:KyI kvs ks) (t:Int) (v:V):∃ ks',KyI (putK kvs (.inl t) v) ks'∧(∀ x,x∈ks' ↔ x∈ks∨x=t)∧ks'.length≤ks.length+1:=by
 by_cases hm:t∈ks
 ·have hx:∃ x,valV kvs (.inl t)=some x:=by
   have h2:∀ kv∈kvs,∃ n:Int,kv.1=.inl n∧True:=fun kv hkv=>by
    have:kv.1∈kvs.map (·.1):=List.mem_map_of_mem hkv
    rw [h.1] at this
    obtain ⟨n,_,e⟩:=List.mem_map.mp this
    exact ⟨n,e.symm,trivial⟩
   obtain ⟨x,hx,_⟩:=key_val (B:=fun _ _=>True) h2 h.1 hm
   exact ⟨x,hx⟩
  obtain ⟨x,hx⟩:=hx
  exact ⟨ks,⟨by rw [putK_keys _ hx];exact h.1,h.2⟩,fun y=>⟨.inl,fun q=>q.elim id fun e=>by rw [e];exact hm⟩,by omega⟩
 ·refine ⟨ks++[t],⟨by rw [putK_keysN (keys_not h.1 hm),h.1,List.map_append];rfl,?_⟩,fun y=>by rw [List.mem_append,List.mem_singleton],by rw [List.length_append];exact Nat.le_refl _⟩
  rw [List.nodup_append]
  exact ⟨h.2,by simp,fun a ha b hb e=>hm (by rw [List.mem_singleton] at hb;rw [←hb,←e];exact ha)⟩
def SmP (zs:List Tm3) (t:Int):Prop:=∃ xs,InB (zs.map fun z=>z.2) xs∧valL zs xs=t
theorem SmP.nil {t:Int}:SmP [] t ↔ t=0:=⟨fun ⟨xs,h1,h2⟩=>by cases xs with
 | nil=>exact h2.symm
 | cons=>exact h1.elim,fun h=>⟨[],trivial,h.symm⟩⟩
theorem SmP.cons {a:Tm3}{zs:List Tm3}{t:Int}:SmP (a::zs) t ↔ ∃ x s,a.2.1≤x∧x≤a.2.2∧SmP zs s∧t=a.1 * x+s:=by
 constructor
 ·rintro ⟨xs,h1,h2⟩
  cases xs with
  | nil=>exact h1.elim
  | cons x xs=>exact ⟨x,_,h1.1.1,h1.1.2,⟨xs,h1.2,rfl⟩,h2.symm⟩
 ·rintro ⟨x,s,a1,a2,⟨xs,b1,b2⟩,e⟩
  exact ⟨x::xs,⟨⟨a1,a2⟩,b1⟩,by rw [e,←b2];rfl⟩
theorem SmP.snoc {z:Tm3}:∀ {zs:List Tm3}{t:Int},SmP (zs++[z]) t ↔ ∃ s n,SmP zs s∧z.2.1≤n∧n≤z.2.2∧t=s+z.1 * n
 | [],t=>by
  rw [List.nil_append,SmP.cons]
  constructor
  ·rintro ⟨x,s,h1,h2,h3,e⟩
   rw [SmP.nil.mp h3] at e
   exact ⟨0,x,SmP.nil.mpr rfl,h1,h2,by omega⟩
  ·rintro ⟨s,n,h3,h1,h2,e⟩
   rw [SmP.nil.mp h3] at e
   exact ⟨n,0,h1,h2,SmP.nil.mpr rfl,by omega⟩
 | a::zs,t=>by
  rw [List.cons_append,SmP.cons]
  constructor
  ·rintro ⟨x,s,h1,h2,h3,e⟩
   obtain ⟨s',n,g1,g2,g3,g4⟩:=SmP.snoc.mp h3
   exact ⟨a.1 * x+s',n,SmP.cons.mpr ⟨x,s',h1,h2,g1,rfl⟩,g2,g3,by omega⟩
  ·rintro ⟨s,n,h3,h1,h2,e⟩
   obtain ⟨x,s',g1,g2,g3,g4⟩:=SmP.cons.mp h3
   exact ⟨x,s'+z.1 * n,g1,g2,SmP.snoc.mpr ⟨s',n,g3,h1,h2,rfl⟩,by omega⟩
theorem vol_snoc:∀ (cs:Bx) (b:Int × Int),volL (cs++[b])=volL cs * (b.2 - b.1+1)
 | [],b=>by show (b.2 - b.1+1) * 1=1 * _;omega
 | c::cs,b=>by
  show (c.2 - c.1+1) * volL (cs++[b])=(c.2 - c.1+1) * volL cs * _
  rw [vol_snoc cs b,Int.mul_assoc]
theorem vol_take {cs:Bx}(h:BxOk cs):∀ i,volL (cs.take i)≤volL cs:=by
 induction cs with
 | nil=>intro i;rw [List.take_nil];exact Int.le_refl _
 | cons c cs ih=>
  intro i
  have hc:=h c List.mem_cons_self
  have hcs:BxOk cs:=fun b hb=>h b (List.mem_cons_of_mem _ hb)
  have h1:=vol_one hcs
  cases i with
  | zero=>
   have:=Int.mul_le_mul (show (1:Int)≤c.2 - c.1+1 by omega) h1 (by decide) (by omega)
   show 1≤(c.2 - c.1+1) * volL cs
   omega
  | succ i=>
   show (c.2 - c.1+1) * volL (cs.take i)≤(c.2 - c.1+1) * volL cs
   exact Int.mul_le_mul_of_nonneg_left (ih hcs i) (by omega)
def SrtL (H:Hp) (r:Addr) (P:Int->Prop):Prop:=∃ ms:List Int,H r=some (.lst (ms.map V.int))∧ms.Pairwise (·≤·)∧ms.Nodup∧(∀ t,t∈ms ↔ P t)
def WdI (ks:List Int) (z:Tm3) (i:Nat) (ws:List Int):Prop:=(∀ t,t∈ws ↔ ∃ s,s∈ks.take i∧∃ n,z.2.1≤n∧n≤z.2.2∧t=s+z.1 * n)∧(ws.length:Int)≤(i:Int) * (z.2.2 - z.2.1+1)
def WdJ (ks:List Int) (z:Tm3) (i:Nat) (s:Int) (j:Nat) (ws:List Int):Prop:=(∀ t,t∈ws ↔ (∃ s,s∈ks.take i∧∃ n,z.2.1≤n∧n≤z.2.2∧t=s+z.1 * n)∨∃ n,z.2.1≤n∧n < z.2.1+(j:Int)∧t=s+z.1 * n)∧(ws.length:Int)≤(i:Int) * (z.2.2 - z.2.1+1)+(j:Int)
theorem WdI.zero {ks:List Int}{z:Tm3}:WdI ks z 0 []:=⟨fun t=>⟨(fun h=>by cases h),fun ⟨s,h,_⟩=>(by rw [List.take_zero] at h;cases h)⟩,by simp⟩
theorem WdI.to {ks:List Int}{z:Tm3}{i:Nat}{ws:List Int}(h:WdI ks z i ws) (s:Int):WdJ ks z i s 0 ws:=⟨fun t=>(h.1 t).trans ⟨.inl,fun q=>q.elim id fun ⟨n,h1,h2,_⟩=>by omega⟩,by have:=h.2;omega⟩
theorem WdJ.put {ks:List Int}{z:Tm3}{i j:Nat}{s:Int}{ws ws':List Int}(h:WdJ ks z i s j ws) (h1:∀ x,x∈ws' ↔ x∈ws∨x=s+z.1 * (z.2.1+(j:Int))) (h2:ws'.length≤ws.length+1):WdJ ks z i s (j+1) ws':=by
 refine ⟨fun t=>?_,by have:=h.2;omega⟩
 rw [h1 t,h.1 t]
 constructor
 ·rintro ((q|⟨n,a,b,c⟩)|rfl)
  ·exact .inl q
  ·exact .inr ⟨n,a,by omega,c⟩
  ·exact .inr ⟨_,by omega,by omega,rfl⟩
 ·rintro (q|⟨n,a,b,c⟩)
  ·exact .inl (.inl q)
  ·by_cases e:n=z.2.1+(j:Int)
   ·exact .inr (by rw [c,e])
   ·exact .inl (.inr ⟨n,a,by omega,c⟩)
theorem WdJ.to {ks:List Int}{z:Tm3}{i j:Nat}{s:Int}{ws:List Int}(h:WdJ ks z i s j ws) (hi:ks[i]? = some s) (hj:(j:Int)=z.2.2 - z.2.1+1):WdI ks z (i+1) ws:=by
 refine ⟨fun t=>?_,?_⟩
 ·rw [h.1 t,List.take_add_one,hi]
  constructor
  ·rintro (⟨s',a,q⟩|⟨n,a,b,c⟩)
   ·exact ⟨s',List.mem_append_left _ a,q⟩
   ·exact ⟨s,List.mem_append_right _ List.mem_cons_self,n,a,by omega,c⟩
  ·rintro ⟨s',a,n,b,c,d⟩
   rcases List.mem_append.mp a with a|a
   ·exact .inl ⟨s',a,n,b,c,d⟩
   ·have:s'=s:=by simpa using a
    subst this
    exact .inr ⟨n,b,by omega,d⟩
 ·have:=h.2
  rw [Int.natCast_add,Int.add_mul]
  omega
def OuI (zs:List Tm3) (i:Nat) (ks:List Int):Prop:=(∀ t,t∈ks ↔ SmP (zs.take i) t)∧(ks.length:Int)≤volL ((zs.map fun z=>z.2).take i)
theorem OuI.next {zs:List Tm3}{i:Nat}{z:Tm3}{ks ws:List Int}(h:OuI zs i ks) (hz:zs[i]? = some z) (hw:WdI ks z ks.length ws) (h1:z.2.1≤z.2.2):OuI zs (i+1) ws:=by
 have e:zs.take (i+1)=zs.take i++[z]:=by rw [List.take_add_one,hz];rfl
 refine ⟨fun t=>?_,?_⟩
 ·rw [e,SmP.snoc,hw.1 t,List.take_length]
  constructor
  ·rintro ⟨s,a,n,b,c,d⟩
   exact ⟨s,n,(h.1 s).mp a,b,c,d⟩
  ·rintro ⟨s,n,a,b,c,d⟩
   exact ⟨s,(h.1 s).mpr a,n,b,c,d⟩
 ·rw [←List.map_take,e,List.map_append,List.map_take]
  show _≤volL (_++[z.2])
  rw [vol_snoc]
  have:=Int.mul_le_mul_of_nonneg_right h.2 (show 0≤z.2.2 - z.2.1+1 by omega)
  have:=hw.2
  omega
abbrev B_spSums  (p:Addr) (H:Hp) (Q:VK) (E:XK):Prop:=∃ zs:List Tm3,TrAt H p zs∧BxOk (zs.map fun z=>z.2)∧volL (zs.map fun z=>z.2)≤600∧(∀ z∈zs,(0≤z.1∧z.1≤1000)∧(-1000≤z.2.1∧z.2.2≤1000))∧∀ (r:Addr) (H':Hp),Ext H H'->SrtL H' r (SmP zs)->Q (.ref r) H'
def spSums  : Sp:=fun vs H Q E=>∃ (p:Addr),vs=[.ref p]∧(B_spSums  p H Q E)
theorem c_spSums  (p:Addr) (H:Hp) (Q:VK) (E:XK):spSums  [.ref p] H Q E=(B_spSums  p H Q E):=spx1 (f:=fun (p:Addr)=>[.ref p]) (fun _ _ h=>by cases h;exact rfl) p
theorem l_spSums  {vs:List V}{H:Hp}{Q:VK}{E:XK}(h:spSums  vs H Q E):vs.length=1:=spl1 h fun _=>rfl
theorem ok__law_sums (T:Tx K mg t):FnOk P w K mg base CX0 1 t.a__law_sums t.d__law_sums ["_law_terms_here"] spSums:=by
 refine T.F__law_sums.ok c__law_sums (fun vs H Q E h=>l_spSums h) (fun cdv A outer s H vs Q E hr h=>?_)
 ·obtain ⟨p,rfl,zs,⟨ys,hl,al⟩,hbx,hvol,hb,k⟩:=h
  refine ⟨_,(@pss_cons _ _ _ _ _ (@ps_set _ _ (1) _ _ _ _ c__law_sums.nd rfl (Or.inl rfl) (@pe_nDispI _ _ _ _ _ _ (units1 hr.units) (@pe_int _ _ _ _) (@pe_bl _ _ _ _)) (by rfl) (by trivial)) (@pss_cons _ _ _ _ _ (@ps_for _ _ _ _ _ _ _ _ PassesOwn.never rfl (@pi_seq _ _ _ _ (@pvN _ 0 _ _ (by rfl) (by trivial) (by decide) (by decide))) ((@pg_tup _ _ _ _ _ (3) rfl (@pgs_consN _ _ _ _ _ (@pg_name _ _ (2) _ c__law_sums.nd rfl (Or.inl rfl) (by trivial)) (@pgs_consN _ _ _ _ _ (@pg_name _ _ (3) _ c__law_sums.nd rfl (Or.inl rfl) (by trivial)) (@pgs_consN _ _ _ _ _ (@pg_name _ _ (4) _ c__law_sums.nd rfl (Or.inl rfl) (by trivial)) (@pgs_nilN _) (by rfl)) (by rfl)) (by rfl)) (by rfl) (by rfl)).mono fun _ _ _ _ h=>gTup_q h) (@pss_cons _ _ _ _ _ (@ps_set _ _ (5) _ _ _ _ c__law_sums.nd rfl (Or.inl rfl) (@pe_nDNew _ _) (by rfl) (by trivial)) (@pss_cons _ _ _ _ _ (@ps_thaw _ _ _ (@ps_for _ _ _ _ _ _ _ _ PassesOwn.never rfl (@pi_dict _ _ _ _ (@pvN _ 1 _ _ (by rfl) (by trivial) (by decide) (by decide))) (@pg_name _ _ (6) _ c__law_sums.nd rfl (Or.inl rfl) (by trivial)) (@pss_one _ _ _ (@ps_for _ _ _ _ _ _ _ _ PassesOwn.never rfl (@pi_range2 _ _ _ _ _ _ _ (by rfl) T.z_range (@pa_c _ _ _ _ _ (@pvN _ 3 _ _ (by rfl) (by trivial) (by decide) (by decide)) (@pa_c _ _ _ _ _ (@pe_op _ _ _ _ _ _ _ _ on_add (@pvN _ 4 _ _ (by rfl) (by trivial) (by decide) (by decide)) (@pe_int _ _ _ _)) (@pa_nil _) (by rfl)) (by rfl)) (by rfl) (by rfl)) (@pg_name _ _ (7) _ c__law_sums.nd rfl (Or.inl rfl) (by trivial)) (@pss_one _ _ _ (@ps_dput _ _ _ _ _ _ _ _ _ (units1 hr.units) (@pvN _ 5 _ _ (by rfl) (by trivial) (by decide) (by decide)) (@pe_op _ _ _ _ _ _ _ _ on_add (@pvN _ 6 _ _ (by rfl) (by trivial) (by decide) (by decide)) (@pe_op _ _ _ _ _ _ _ _ on_mul (@pvN _ 2 _ _ (by rfl) (by trivial) (by decide) (by decide)) (@pvN _ 7 _ _ (by rfl) (by trivial) (by decide) (by decide)))) (@pe_bl _ _ _ _) rfl)) (by intros;rfl))) (by intros;rfl))) (@pss_one _ _ _ (@ps_set _ _ (1) _ _ _ _ c__law_sums.nd rfl (Or.inl rfl) (@pvN _ 5 _ _ (by rfl) (by trivial) (by decide) (by decide)) (by rfl) (by trivial))))) (by intros;rfl)) (@pss_one _ _ _ (@ps_ret _ _ _ _ (@pe_callB _ _ _ _ _ _ _ ("sorted") _ (call_qSrtA rfl) (by rfl) T.z_sorted (by decide +kernel) (@pa_c _ _ _ _ _ (@pvN _ 1 _ _ (by rfl) (by trivial) (by decide) (by decide)) (@pa_nil _) (by rfl)) (by decide) (by decide) (by rfl) (by rfl)))))),?_⟩
  rw [show start ["_law_terms_here", "_law_found", "_law_times", "_law_low", "_law_high", "_law_wider", "_law_one", "_law_number"] [.ref p]=[some (.ref p),none,none,none,none,none,none,none] from rfl]
  replace k:=fun (_:Unit)=>k
  replace al:=fun (_:Unit)=>al
  replace hb:=fun (_:Unit)=>hb
  replace hbx:=fun (_:Unit)=>hbx
  replace hvol:=fun (_:Unit)=>hvol
  simp! only [and_true]
  intro d0 H1' hd0 e1' h1'
  simp! only [and_true]
  refine use_dispI (k:=.inl 0) h1' ?_
  have h1:(upd H1' d0 (.dK [(.inl 0,V.bl true)])) d0=some (.dK [(.inl 0,V.bl true)]):=upd_same
  have e1:Ext H (upd H1' d0 (.dK [(.inl 0,V.bl true)])):=e1'.put hd0
  generalize upd H1' d0 (.dK [(.inl 0,V.bl true)])=H1 at h1 e1 ⊢
  have hl1:=e1.at hl
  have ou0:OuI zs 0 [0]:=⟨fun t=>by rw [List.take_zero,SmP.nil,List.mem_singleton],by rw [List.take_zero];exact Int.le_refl 1⟩
  clear h1' e1'
  simp! only [and_true]
  refine for_lst (xs:=ys) (fun i σ H'=>∃ (d:Addr) (kvs:List (Key × V)) (ks:List Int) (v2 v3 v4 v5 v6 v7:Option V),σ=[some (.ref p),some (.ref d),v2,v3,v4,v5,v6,v7]∧Ext H H'∧H d=none∧H' d=some (.dK kvs)∧KyI kvs ks∧OuI zs i ks) ⟨d0,_,[0],none,none,none,none,none,none,rfl,e1,hd0,h1,⟨rfl,by simp⟩,ou0⟩ (fun i σ H' _ ⟨_,_,_,_,_,_,_,_,_,_,e,_⟩=>e.at hl) ?_ ?_
  ·clear h1 hl1 e1 hd0 ou0
   rintro i y _ H2 hi ⟨d,kvs,ks,v2,v3,v4,v5,v6,v7,rfl,e2,hd,h2,ky,ou⟩
   have hil:i < zs.length:=by have:=(List.getElem?_eq_some_iff.mp hi).1;rw [(al ()).1] at this;exact this
   have hz:zs[i]? = some zs[i]:=List.getElem?_eq_getElem hil
   obtain ⟨q,rfl,hq⟩:=(al ()).2 i zs[i] y hz hi
   have hq2:=e2.at hq
   have hzb:=hb () zs[i] (List.getElem_mem hil)
   have hz1:zs[i].2.1≤zs[i].2.2:=hbx () zs[i].2 (List.mem_map_of_mem (List.getElem_mem hil))
   have hkl:(ks.length:Int) * (zs[i].2.2 - zs[i].2.1+1)≤600:=by
    have h1:=ou.2
    have h2:=vol_take (hbx ()) (i+1)
    rw [←List.map_take,List.take_add_one,hz,List.map_append,List.map_take] at h2
    have h3:volL ((zs.map fun z=>z.2).take i++[zs[i].2])≤volL (zs.map fun z=>z.2):=h2
    rw [vol_snoc] at h3
    have:=Int.mul_le_mul_of_nonneg_right h1 (show 0≤zs[i].2.2 - zs[i].2.1+1 by omega)
    have:=hvol ()
    omega
   generalize zs[i]=z at *
   replace ou:=fun (_:Unit)=>ou
   replace ky:=fun (_:Unit)=>ky
   replace hz:=fun (_:Unit)=>hz
   clear hi k hq
   simp! only [↓m_kBody]
   intro wd H3 hwd e3 h3
   have h2_3:=e3.at h2
   have nwd:wd ≠ d:=fun z=>by rw [z,h2] at hwd;cases hwd
   have hw0:H wd=none:=e2.free hwd
   have e03:=e2.trans e3
   clear hwd hq2 h2
   simp! only [and_true]
   refine for_dict (fun ob j σ H'=>∃ (kw:List (Key × V)) (ws:List Int) (v6 v7:Option V),σ=[some (.ref p),some (.ref d),some (.int z.1),some (.int z.2.1),some (.int z.2.2),some (.ref wd),v6,v7]∧Ext H H'∧H' d=some (.frz ob (.dK kvs))∧H' wd=some (.dK kw)∧KyI kw ws∧WdI ks z j ws) h2_3 (fun ob=>⟨[],[],_,_,rfl,e03.put hd,upd_same,by rw [upd_ne nwd];exact h3,KyI.nil,WdI.zero⟩) (fun ob j σ' H' ⟨_,_,_,_,_,_,h,_⟩=>h) ?_ ?_
   ·clear h2_3 h3
    rintro ob j zz _ H4 hj ⟨kw,ws,v6,v7,rfl,e4,h4d,h4w,kyw,wi⟩ _
    have hks:(ks.map (Sum.inl:Int->Key))[j]? = some zz.1:=by rw [←(ky ()).1,List.getElem?_map,hj];rfl
    rw [List.getElem?_map] at hks
    obtain ⟨s1,hs1,hs2⟩:=Option.map_eq_some_iff.mp hks
    have hjl:j < ks.length:=(List.getElem?_eq_some_iff.mp hs1).1
    have hjw:(j:Int) * (z.2.2 - z.2.1+1)+(z.2.2 - z.2.1+1)≤600:=by
     have:=Int.mul_le_mul_of_nonneg_right (show (j:Int)+1≤(ks.length:Int) by omega) (show 0≤z.2.2 - z.2.1+1 by omega)
     rw [Int.add_mul,Int.one_mul] at this
     omega
    rw [←hs2,show kV (Sum.inl s1:Key)=V.int s1 from rfl]
    replace wi:=fun (_:Unit)=>wi.to s1
    replace hs1:=fun (_:Unit)=>hs1
    clear hj hks hs2
    simp! only [↓m_kBody]
    refine ⟨by omega,?_⟩
    refine for_rng (fun m σ H'=>∃ (kw:List (Key × V)) (ws:List Int) (v7:Option V),σ=[some (.ref p),some (.ref d),some (.int z.1),some (.int z.2.1),some (.int z.2.2),some (.ref wd),some (.int s1),v7]∧Ext H H'∧H' d=some (.frz ob (.dK kvs))∧H' wd=some (.dK kw)∧KyI kw ws∧WdJ ks z j s1 m ws) ⟨kw,ws,_,rfl,e4,h4d,h4w,kyw,wi ()⟩ ?_ ?_
    ·clear kyw wi h4w h4d e4
     rintro m _ H5 hm ⟨kw,ws,v7,rfl,e5,h5d,h5w,kyw,wj⟩
     have hm':(m:Int) < z.2.2+1 - z.2.1:=by have:m < (z.2.2+1 - z.2.1).toNat:=hm;omega
     have hlw:kw.length < sizeLine:=lt5000 (by rw [kyw.len];have:=wj.2;omega)
     have cm:CMul z.1 (z.2.1+(m:Int)):=.inl ⟨by omega,by omega⟩
     obtain ⟨ws',ky',hm1,hm2⟩:=kyw.put (s1+z.1 * (z.2.1+(m:Int))) (.bl true)
     have wj':=fun (_:Unit)=>wj.put hm1 hm2
     replace ky':=fun (_:Unit)=>ky'
     clear wj kyw hm1 hm2 hm
     simp! only [↓m_kBody]
     refine use_dp (k:=.inl (s1+z.1 * (z.2.1+(m:Int)))) h5w hlw ?_
     exact ⟨_,ws',_,rfl,e5.put hw0,by rw [upd_ne (Ne.symm nwd)];exact h5d,upd_same,ky' (),wj' ()⟩
    ·rintro _ H5 ⟨kw,ws,v7,rfl,e5,h5d,h5w,kyw,wj⟩
     exact ⟨kw,ws,_,_,rfl,e5,h5d,h5w,kyw,wj.to (hs1 ()) (by omega)⟩
   ·rintro ob _ H4 ⟨kw,ws,v6,v7,rfl,e4,h4d,h4w,kyw,wi⟩
    rw [(ky ()).len] at wi
    have h4w':upd H4 d (.dK kvs) wd=some (.dK kw):=by rw [upd_ne nwd];exact h4w
    have e4':Ext H (upd H4 d (.dK kvs)):=e4.put hd
    have ou2:=fun (_:Unit)=>(ou ()).next (hz ()) wi hz1
    replace kyw:=fun (_:Unit)=>kyw
    clear wi h4w h4d e4 h2_3 h3
    simp! only [and_true]
    exact ⟨wd,kw,ws,_,_,_,_,_,_,rfl,e4',hw0,h4w',kyw (),ou2 ()⟩
  ·rintro _ H2 ⟨d,kvs,ks,v2,v3,v4,v5,v6,v7,rfl,e2,hd,h2,ky,ou⟩
   have hyl:ys.length=zs.length:=(al ()).1
   rw [hyl] at ou
   have hl5:ks.length≤sizeLine:=len5000 (by have h1:=ou.2;have h2:=vol_take (hbx ()) zs.length;have:=hvol ();omega)
   have ou1:=ou.1
   rw [List.take_length] at ou1
   replace ou1:=fun (_:Unit)=>ou1
   replace ky:=fun (_:Unit)=>ky
   clear ou h1 hl1 e1 hd0 ou0 hbx hvol hb al hyl
   simp! only [and_true]
   refine use_srtA h2 (ky ()).1 hl5 (ky ()).2 fun ms pm so=>?_
   intro r H3 hr3 e3 h3
   exact k () r H3 (e2.trans e3) ⟨ms,h3,so,pm.nodup_iff.mpr (ky ()).2,fun t=>pm.mem_iff.trans (ou1 () t)⟩
def DfI (cs ds:List Int) (i:Nat) (ks:List Int):Prop:=(∀ t,t∈ks ↔ ∃ c,c∈cs.take i∧∃ e,e∈ds∧t=c - e)∧ks.length≤i * ds.length
def DfJ (cs ds:List Int) (i:Nat) (c:Int) (j:Nat) (ks:List Int):Prop:=(∀ t,t∈ks ↔ (∃ c,c∈cs.take i∧∃ e,e∈ds∧t=c - e)∨∃ e,e∈ds.take j∧t=c - e)∧ks.length≤i * ds.length+j
theorem DfI.zero {cs ds:List Int}:DfI cs ds 0 []:=⟨fun t=>⟨(fun h=>by cases h),fun ⟨s,h,_⟩=>(by rw [List.take_zero] at h;cases h)⟩,by simp⟩
theorem DfI.to {cs ds:List Int}{i:Nat}{ks:List Int}(h:DfI cs ds i ks) (c:Int):DfJ cs ds i c 0 ks:=⟨fun t=>(h.1 t).trans ⟨.inl,fun q=>q.elim id fun ⟨e,h1,_⟩=>(by rw [List.take_zero] at h1;cases h1)⟩,by have:=h.2;omega⟩
theorem DfJ.put {cs ds:List Int}{i j:Nat}{c e:Int}{ks ks':List Int}(h:DfJ cs ds i c j ks) (he:ds[j]? = some e) (h1:∀ x,x∈ks' ↔ x∈ks∨x=c - e) (h2:ks'.length≤ks.length+1):DfJ cs ds i c (j+1) ks':=by
 refine ⟨fun t=>?_,by have:=h.2;omega⟩
 rw [h1 t,h.1 t,List.take_add_one,he]
 constructor
 ·rintro ((q|⟨e',a,b⟩)|rfl)
  ·exact .inl q
  ·exact .inr ⟨e',List.mem_append_left _ a,b⟩
  ·exact .inr ⟨e,List.mem_append_right _ List.mem_cons_self,rfl⟩
 ·rintro (q|⟨e',a,b⟩)
  ·exact .inl (.inl q)
  ·rcases List.mem_append.mp a with a|a
   ·exact .inl (.inr ⟨e',a,b⟩)
   ·have:e'=e:=by simpa using a
    subst this
    exact .inr b
theorem DfJ.to {cs ds:List Int}{i:Nat}{c:Int}{ks:List Int}(h:DfJ cs ds i c ds.length ks) (hi:cs[i]? = some c):DfI cs ds (i+1) ks:=by
 refine ⟨fun t=>?_,?_⟩
 ·rw [h.1 t,List.take_length,List.take_add_one,hi]
  constructor
  ·rintro (⟨s',a,q⟩|⟨e,a,b⟩)
   ·exact ⟨s',List.mem_append_left _ a,q⟩
   ·exact ⟨c,List.mem_append_right _ List.mem_cons_self,e,a,b⟩
  ·rintro ⟨s',a,e,b,d⟩
   rcases List.mem_append.mp a with a|a
   ·exact .inl ⟨s',a,e,b,d⟩
   ·have:s'=c:=by simpa using a
    subst this
    exact .inr ⟨e,b,d⟩
 ·have:=h.2
  rw [Nat.add_mul]
  omega
def spDiffs  : Sp:=fun vs H Q E=>∃ (p:Addr) (q:Addr),vs=[.ref p,.ref q]∧(∃ A B:List (Int × Int),TupsAt H p (axL A)∧TupsAt H q (axL B)∧Axes A∧Axes B∧prodL (A.map fun a=>a.1)≤30∧prodL (B.map fun a=>a.1)≤30∧∀ (r:Addr) (H':Hp),Ext H H'->SrtL H' r (fun t=>∃ c,c∈cellsL 0 A∧∃ e,e∈cellsL 0 B∧t=c - e)->Q (.ref r) H')
theorem c_spDiffs  (p:Addr) (q:Addr) (H:Hp) (Q:VK) (E:XK):spDiffs  [.ref p,.ref q] H Q E=(∃ A B:List (Int × Int),TupsAt H p (axL A)∧TupsAt H q (axL B)∧Axes A∧Axes B∧prodL (A.map fun a=>a.1)≤30∧prodL (B.map fun a=>a.1)≤30∧∀ (r:Addr) (H':Hp),Ext H H'->SrtL H' r (fun t=>∃ c,c∈cellsL 0 A∧∃ e,e∈cellsL 0 B∧t=c - e)->Q (.ref r) H'):=spx2 (f:=fun (p:Addr) (q:Addr)=>[.ref p,.ref q]) (fun _ _ _ _ h=>by cases h;exact ⟨rfl,rfl⟩) p q
theorem l_spDiffs  {vs:List V}{H:Hp}{Q:VK}{E:XK}(h:spDiffs  vs H Q E):vs.length=2:=spl2 h fun _ _=>rfl
theorem ok__law_differences (T:Tx K mg t):FnOk P w K mg base CX0 2 t.a__law_differences t.d__law_differences ["_law_one", "_law_other"] spDiffs:=by
 have G__law_cells:=ok__law_cells (P:=P) (w:=w) (base:=base) T
 refine T.F__law_differences.ok c__law_differences (fun vs H Q E h=>l_spDiffs h) (fun cdv A' outer s H vs Q E hr h=>?_)
 ·obtain ⟨p,q,rfl,A,B,tA,tB,axA,axB,pA,pB,k⟩:=h
  refine ⟨_,(@pss_cons _ _ _ _ _ (@ps_set _ _ (2) _ _ _ _ c__law_differences.nd rfl (Or.inl rfl) (@pe_nDNew _ _) (by rfl) (by trivial)) (@pss_cons _ _ _ _ _ (@ps_for _ _ _ _ _ _ _ _ PassesOwn.never rfl (@pi_seq _ _ _ _ (@pe_call _ _ _ _ _ _ _ _ _ _ _ _ _ _ _ _ G__law_cells (hr.mono (by decide)) (by rfl) T.m__law_cells T.F__law_cells.kp T.b__law_cells .nil pass0 (@pa_c _ _ _ _ _ (@pe_int _ _ _ _) (@pa_c _ _ _ _ _ (@pvN _ 0 _ _ (by rfl) (by trivial) (by decide) (by decide)) (@pa_nil _) (by rfl)) (by rfl)) (by decide) (by rfl) (by rfl))) (@pg_name _ _ (3) _ c__law_differences.nd rfl (Or.inl rfl) (by trivial)) (@pss_one _ _ _ (@ps_for _ _ _ _ _ _ _ _ PassesOwn.never rfl (@pi_seq _ _ _ _ (@pe_call _ _ _ _ _ _ _ _ _ _ _ _ _ _ _ _ G__law_cells (hr.mono (by decide)) (by rfl) T.m__law_cells T.F__law_cells.kp T.b__law_cells .nil pass0 (@pa_c _ _ _ _ _ (@pe_int _ _ _ _) (@pa_c _ _ _ _ _ (@pvN _ 1 _ _ (by rfl) (by trivial) (by decide) (by decide)) (@pa_nil _) (by rfl)) (by rfl)) (by decide) (by rfl) (by rfl))) (@pg_name _ _ (4) _ c__law_differences.nd rfl (Or.inl rfl) (by trivial)) (@pss_one _ _ _ (@ps_dput _ _ _ _ _ _ _ _ _ (units1 hr.units) (@pvN _ 2 _ _ (by rfl) (by trivial) (by decide) (by decide)) (@pe_op _ _ _ _ _ _ _ _ on_sub (@pvN _ 3 _ _ (by rfl) (by trivial) (by decide) (by decide)) (@pvN _ 4 _ _ (by rfl) (by trivial) (by decide) (by decide))) (@pe_bl _ _ _ _) rfl)) (by intros;rfl))) (by intros;rfl)) (@pss_one _ _ _ (@ps_ret _ _ _ _ (@pe_callB _ _ _ _ _ _ _ ("sorted") _ (call_qSrtA rfl) (by rfl) T.z_sorted (by decide +kernel) (@pa_c _ _ _ _ _ (@pvN _ 2 _ _ (by rfl) (by trivial) (by decide) (by decide)) (@pa_nil _) (by rfl)) (by decide) (by decide) (by rfl) (by rfl)))))),?_⟩
  rw [show start ["_law_one", "_law_other", "_law_found", "_law_here", "_law_there"] [.ref p,.ref q]=[some (.ref p),some (.ref q),none,none,none] from rfl]
  clear G__law_cells
  have lA:(cellsL 0 A).length≤30:=by have:=cellsL_len 0 A fun b hb=>(axA.2 b hb).1;omega
  have lB:(cellsL 0 B).length≤30:=by have:=cellsL_len 0 B fun b hb=>(axB.2 b hb).1;omega
  replace k:=fun (_:Unit)=>k
  simp! only [and_true]
  intro d H1 hd e1 h1
  simp! only [and_true]
  rw [c_spLCells]
  refine ⟨A,tA.ext e1,axA,by omega,fun la H2 hla e2 h2=>?_⟩
  have nla:la ≠ d:=fun z=>by rw [z,h1] at hla;cases hla
  have h1_2:=e2.at h1
  have e02:=e1.trans e2
  have hla0:H la=none:=e1.free hla
  generalize cellsL 0 A=cs at *
  clear hla h1 e1 e2
  simp! only [and_true]
  refine for_lst (xs:=cs.map V.int) (fun i σ H'=>∃ (kvs:List (Key × V)) (ks:List Int) (v3 v4:Option V),σ=[some (.ref p),some (.ref q),some (.ref d),v3,v4]∧Ext H H'∧H' la=some (.lst (cs.map V.int))∧H' d=some (.dK kvs)∧KyI kvs ks∧DfI cs (cellsL 0 B) i ks) ⟨[],[],none,none,rfl,e02,h2,h1_2,KyI.nil,DfI.zero⟩ (fun i σ H' _ ⟨_,_,_,_,_,_,h,_⟩=>h) ?_ ?_
  ·clear h1_2 h2
   rintro i y _ H3 hi ⟨kvs,ks,v3,v4,rfl,e3,h3l,h3d,ky,di⟩
   rw [List.getElem?_map] at hi
   obtain ⟨c,hc,rfl⟩:=Option.map_eq_some_iff.mp hi
   have hil:i < cs.length:=(List.getElem?_eq_some_iff.mp hc).1
   replace di:=fun (_:Unit)=>di
   replace ky:=fun (_:Unit)=>ky
   replace hc:=fun (_:Unit)=>hc
   clear hi k
   simp! only [↓m_kBody]
   rw [c_spLCells]
   refine ⟨B,tB.ext e3,axB,by omega,fun lb H4 hlb e4 h4=>?_⟩
   have nlb:lb ≠ d:=fun z=>by rw [z,h3d] at hlb;cases hlb
   have h3l4:=e4.at h3l
   have h3d4:=e4.at h3d
   have e04:=e3.trans e4
   generalize cellsL 0 B=ds at *
   clear hlb h3l h3d e3 e4
   simp! only [and_true]
   refine for_lst (xs:=ds.map V.int) (fun j σ H'=>∃ (kvs:List (Key × V)) (ks:List Int) (v4:Option V),σ=[some (.ref p),some (.ref q),some (.ref d),some (.int c),v4]∧Ext H H'∧H' la=some (.lst (cs.map V.int))∧H' lb=some (.lst (ds.map V.int))∧H' d=some (.dK kvs)∧KyI kvs ks∧DfJ cs ds i c j ks) ⟨kvs,ks,_,rfl,e04,h3l4,h4,h3d4,ky (),(di ()).to c⟩ (fun j σ H' _ ⟨_,_,_,_,_,_,h,_⟩=>h) ?_ ?_
   ·clear di ky h3l4 h3d4 h4
    rintro j y _ H5 hj ⟨kvs,ks,v4,rfl,e5,h5l,h5b,h5d,ky,dj⟩
    rw [List.getElem?_map] at hj
    obtain ⟨e,he,rfl⟩:=Option.map_eq_some_iff.mp hj
    have hjl:j < ds.length:=(List.getElem?_eq_some_iff.mp he).1
    have hlw:kvs.length < sizeLine:=lt5000 (by
     rw [ky.len]
     have h1:=dj.2
     have h2:=Nat.mul_le_mul (show i≤30 by omega) (show ds.length≤30 by omega)
     omega)
    obtain ⟨ks',ky',hm1,hm2⟩:=ky.put (c - e) (.bl true)
    have dj':=fun (_:Unit)=>dj.put he hm1 hm2
    replace ky':=fun (_:Unit)=>ky'
    clear dj ky hm1 hm2 hj he
    simp! only [↓m_kBody]
    refine use_dp (k:=.inl (c - e)) h5d hlw ?_
    exact ⟨_,ks',_,rfl,e5.put hd,by rw [upd_ne nla];exact h5l,by rw [upd_ne nlb];exact h5b,upd_same,ky' (),dj' ()⟩
   ·rintro _ H5 ⟨kvs,ks,v4,rfl,e5,h5l,h5b,h5d,ky,dj⟩
    rw [List.length_map] at dj
    exact ⟨kvs,ks,_,_,rfl,e5,h5l,h5d,ky,dj.to (hc ())⟩
  ·rintro _ H3 ⟨kvs,ks,v3,v4,rfl,e3,h3l,h3d,ky,di⟩
   rw [List.length_map] at di
   have hl5:ks.length≤sizeLine:=len5000 (by
    have h1:=di.2
    have h2:=Nat.mul_le_mul (show cs.length≤30 by omega) (show (cellsL 0 B).length≤30 by omega)
    omega)
   have di1:=di.1
   rw [List.take_length] at di1
   replace di1:=fun (_:Unit)=>di1
   replace ky:=fun (_:Unit)=>ky
   clear di h1_2 h2 h3l
   simp! only [and_true]
   refine use_srtA h3d (ky ()).1 hl5 (ky ()).2 fun ms pm so=>?_
   intro r H4 hr4 e4 h4
   exact k () r H4 (e3.trans e4) ⟨ms,h4,so,pm.nodup_iff.mpr (ky ()).2,fun t=>pm.mem_iff.trans (di1 () t)⟩
theorem inp_pull:∀ {A B:List (Int × Int)}{ys zs:List Int},InA A ys->InA B zs->InP (pullL A B) (ys++zs)
 | [],[],[],[],_,_=>trivial
 | [],[],[],_::_,_,h=>h.elim
 | [],_::_,[],[],_,h=>h.elim
 | [],b::B,[],z::zs,h1,h2=>⟨h2.1,inp_pull (A:=[]) (ys:=[]) trivial h2.2⟩
 | [],_,_::_,_,h,_=>h.elim
 | _::_,_,[],_,h,_=>h.elim
 | a::A,B,y::ys,zs,h1,h2=>⟨h1.1,inp_pull h1.2 h2⟩
theorem dot_pull:∀ {A B:List (Int × Int)}{ys zs:List Int},InA A ys->InA B zs->dotQ (pullL A B) (ys++zs)=dotA A ys - dotA B zs
 | [],[],[],[],_,_=>rfl
 | [],[],[],_::_,_,h=>h.elim
 | [],_::_,[],[],_,h=>h.elim
 | [],b::B,[],z::zs,h1,h2=>by
  have ih:=dot_pull (A:=[]) (ys:=[]) (B:=B) (zs:=zs) trivial h2.2
  show -b.2 * z+dotQ (pullL [] B) ([]++zs)=0 - (b.2 * z+dotA B zs)
  rw [ih,Int.neg_mul]
  show _+(0 - dotA B zs)=_
  omega
 | [],_,_::_,_,h,_=>h.elim
 | _::_,_,[],_,h,_=>h.elim
 | a::A,B,y::ys,zs,h1,h2=>by
  have ih:=dot_pull h1.2 h2
  show a.2 * y+dotQ (pullL A B) (ys++zs)=a.2 * y+dotA A ys - dotA B zs
  rw [ih];omega
theorem pull_in:∀ {A B:List (Int × Int)}{xs:List Int},InP (pullL A B) xs->InA A (xs.take A.length)∧InA B (xs.drop A.length)
 | [],[],[],_=>⟨trivial,trivial⟩
 | [],[],_::_,h=>h.elim
 | [],_::_,[],h=>h.elim
 | [],b::B,z::zs,h=>⟨trivial,h.1,(pull_in (A:=[]) (B:=B) (xs:=zs) h.2).2⟩
 | _::_,_,[],h=>h.elim
 | a::A,B,y::xs,h=>⟨⟨h.1,(pull_in h.2).1⟩,(pull_in h.2).2⟩
def ngP (z:Int × Int):Int × Int:=(-z.1,z.2)
theorem sumAt_app:∀ (l m:List (Int × Int)) (t:Int),sumAt (l++m) t=sumAt l t+sumAt m t
 | [],m,t=>(Int.zero_add _).symm
 | z::l,m,t=>by
  show (if z.1=t then z.2 else 0)+sumAt (l++m) t=(if z.1=t then z.2 else 0)+sumAt l t+sumAt m t
  rw [sumAt_app l m t];omega
theorem turn_sum {t:Int}(ht:t ≠ 0):∀ P:List (Int × Int),lowF (P.map ngP) t=0 - highF P t∧highF (P.map ngP) t=0 - lowF P t
 | []=>⟨rfl,rfl⟩
 | z::P=>by
  have ih:=turn_sum ht P
  show (if absI (-z.1)=t then loP (ngP z) else 0)+lowF (P.map ngP) t=0 - ((if absI z.1=t then hiP z else 0)+highF P t)∧(if absI (-z.1)=t then hiP (ngP z) else 0)+highF (P.map ngP) t=0 - ((if absI z.1=t then loP z else 0)+lowF P t)
  rw [ih.1,ih.2,show absI (-z.1)=absI z.1 by unfold absI;omega]
  by_cases e:absI z.1=t
  ·rw [if_pos e,if_pos e,if_pos e,if_pos e]
   have hz:z.1 ≠ 0:=fun h=>ht (by rw [←e,h];rfl)
   show (if 0 < -z.1 then 0 else 1 - z.2)+_=0 - ((if 0 < z.1 then z.2 - 1 else 0)+_)∧(if 0 < -z.1 then z.2 - 1 else 0)+_=0 - ((if 0 < z.1 then 0 else 1 - z.2)+_)
   by_cases hp:0 < z.1
   ·rw [if_pos hp,if_pos hp,if_neg (by omega),if_neg (by omega)];omega
   ·rw [if_neg hp,if_neg hp,if_pos (by omega),if_pos (by omega)];omega
  ·rw [if_neg e,if_neg e,if_neg e,if_neg e];omega
theorem ng_pull (A B:List (Int × Int)):(pullL A B).map ngP=(A.map fun a=>(-a.2,a.1))++B.map fun a=>(a.2,a.1):=by
 unfold pullL
 rw [List.map_append,List.map_map,List.map_map]
 congr 1
 refine List.map_congr_left fun a _=>?_
 show (- -a.2,a.1)=_
 rw [Int.neg_neg]
theorem pull_turn (A B:List (Int × Int)){t:Int}(ht:t ≠ 0):lowF (pullL B A) t=0 - highF (pullL A B) t∧highF (pullL B A) t=0 - lowF (pullL A B) t:=by
 have h:=turn_sum ht (pullL A B)
 have sw:∀ f:Int × Int->Int,sumAt ((pullL B A).map fun z=>(absI z.1,f z)) t=sumAt (((pullL A B).map ngP).map fun z=>(absI z.1,f z)) t:=fun f=>by
  rw [ng_pull]
  unfold pullL
  rw [List.map_append,List.map_append,sumAt_app,sumAt_app,Int.add_comm]
 unfold lowF highF at h ⊢
 rw [sw,sw]
 exact h
theorem terms_turn {ks:List Int}{A B:List (Int × Int)}(h:∀ t∈ks,t ≠ 0):(termsF ks (pullL A B)).map (fun z=>(z.1,0 - z.2.2,0 - z.2.1))=termsF ks (pullL B A):=by
 unfold termsF
 rw [List.map_map]
 refine List.map_congr_left fun t ht=>?_
 obtain ⟨h1,h2⟩:=pull_turn A B (h t ht)
 show (t,0 - highF (pullL A B) t,0 - lowF (pullL A B) t)=_
 rw [h1,h2]
theorem sums_diff {ks:List Int}{A B:List (Int × Int)}(hk:KsOk ks (pullL (A.map keptA) (B.map keptA))) (h1:∀ y∈pullL (A.map keptA) (B.map keptA),(1:Int)≤y.2) (t:Int):SmP (termsF ks (pullL (A.map keptA) (B.map keptA))) t ↔ ∃ c,c∈cellsL 0 A∧∃ e,e∈cellsL 0 B∧t=c - e:=by
 have hm:∀ z∈pullL (A.map keptA) (B.map keptA),absI z.1=0∨absI z.1∈ks:=fun z hz=>by
  by_cases h0:absI z.1=0
  ·exact .inl h0
  ·exact .inr ((hk.mem _).mpr ⟨h0,z,hz,rfl⟩)
 constructor
 ·rintro ⟨xs,hx,hv⟩
  obtain ⟨i,e⟩:=meet hk.nd h1 hm hx
  generalize fillF (leftF (termsF ks (pullL (A.map keptA) (B.map keptA))) xs) (pullL (A.map keptA) (B.map keptA))=ys at i e
  obtain ⟨i1,i2⟩:=pull_in i
  have e2:=dot_pull i1 i2
  rw [List.take_append_drop,e,hv] at e2
  rw [List.length_map] at i1 i2 e2
  have k1:=in_kept i1
  have k2:=in_kept i2
  rw [kept_dot k1,kept_dot k2] at e2
  exact ⟨_,cells_in.mpr ⟨_,k1,rfl⟩,_,cells_in.mpr ⟨_,k2,rfl⟩,by omega⟩
 ·rintro ⟨c,hc,e,he,rfl⟩
  obtain ⟨ys,iA,rfl⟩:=cells_in.mp hc
  obtain ⟨zs,iB,rfl⟩:=cells_in.mp he
  obtain ⟨xs,hx,hv⟩:=first_sol hk.nd hm (inp_pull (kept_in iA) (kept_in iB)) rfl
  exact ⟨xs,hx,by rw [hv,dot_pull (kept_in iA) (kept_in iB),kept_dot iA,kept_dot iB];omega⟩
theorem asc_eq:∀ {l m:List Int},l.Nodup->m.Nodup->l.Pairwise (·≤·)->m.Pairwise (·≤·)->(∀ t,t∈l ↔ t∈m)->l=m:=fun {l m} n1 n2 o1 o2 h=>by
 have:=desc_eq (l:=l.reverse) (m:=m.reverse) ((List.reverse_perm l).nodup_iff.mpr n1) ((List.reverse_perm m).nodup_iff.mpr n2) (List.pairwise_reverse.mpr o1) (List.pairwise_reverse.mpr o2) fun t=>by rw [List.mem_reverse,List.mem_reverse];exact h t
 exact List.reverse_inj.mp this
theorem AxK.sums {A B:List (Int × Int)}{ks:List Int}(hA:AxK A) (hB:AxK B) (hk:KsOk ks (pullL (A.map keptA) (B.map keptA))):BxOk ((termsF ks (pullL (A.map keptA) (B.map keptA))).map fun z=>z.2)∧volL ((termsF ks (pullL (A.map keptA) (B.map keptA))).map fun z=>z.2)≤600∧(∀ z∈termsF ks (pullL (A.map keptA) (B.map keptA)),(0≤z.1∧z.1≤1000)∧(-1000≤z.2.1∧z.2.2≤1000))∧(∀ y∈pullL (A.map keptA) (B.map keptA),(1:Int)≤y.2):=by
 have one:∀ y∈pullL (A.map keptA) (B.map keptA),(1:Int)≤y.2∧y.2≤5∧absI y.1≤36:=fun y hy=>by
  obtain ⟨a,ha,e1,e2,_⟩:=pull_mem hy
  obtain ⟨b,rfl,hb⟩:∃ b,a=keptA b∧((1≤b.1∧b.1≤5)∧(-36≤b.2∧b.2≤36)):=by
   rcases ha with ha|ha
   ·obtain ⟨b,hb,rfl⟩:=List.mem_map.mp ha
    exact ⟨b,rfl,hA.sz b hb⟩
   ·obtain ⟨b,hb,rfl⟩:=List.mem_map.mp ha
    exact ⟨b,rfl,hB.sz b hb⟩
  rw [e1,e2]
  show 1≤b.1∧b.1≤5∧absI (if b.1 > 1 then b.2 else 0)≤36
  refine ⟨hb.1.1,hb.1.2,?_⟩
  unfold absI
  split<;>omega
 have h1:∀ y∈pullL (A.map keptA) (B.map keptA),(1:Int)≤y.2:=fun y hy=>(one y hy).1
 have hp:(pullL (A.map keptA) (B.map keptA)).foldr (fun z r=>z.2 * r) 1=(A.foldr (fun a r=>a.1 * r) 1) * (B.foldr (fun a r=>a.1 * r) 1):=by
  have fB:∀ (B:List (Int × Int)),((B.map keptA).map fun a=>(-a.2,a.1)).foldr (fun z r=>z.2 * r) 1=(B.foldr (fun a r=>a.1 * r) 1):=fun B=>by
   induction B with
   | nil=>rfl
   | cons b B ih=>show b.1 * _=b.1 * _;rw [ih]
  have fA:∀ (A:List (Int × Int)),(((A.map keptA).map fun a=>(a.2,a.1))++(B.map keptA).map fun a=>(-a.2,a.1)).foldr (fun z r=>z.2 * r) 1=(A.foldr (fun a r=>a.1 * r) 1) * (B.foldr (fun a r=>a.1 * r) 1):=fun A=>by
   induction A with
   | nil=>rw [List.map_nil,List.map_nil,List.nil_append,fB];show _=1 * _;omega
   | cons a A ih=>rw [List.map_cons,List.map_cons,List.cons_append,List.foldr_cons,ih,List.foldr_cons,Int.mul_assoc];rfl
  exact fA A
 have pl:=prodF_le hk.nd h1
 have p1:=prod_pos1 fun a ha=>(hA.sz a ha).1.1
 have p2:=prod_pos1 fun a ha=>(hB.sz a ha).1.1
 have pm:=Int.mul_le_mul hA.prod hB.prod (by omega) (by decide)
 refine ⟨fun b hb=>?_,by rw [vol_terms];rw [hp] at pl;omega,fun z hz=>?_,h1⟩
 ·obtain ⟨z,hz,rfl⟩:=List.mem_map.mp hb
  unfold termsF at hz
  obtain ⟨t,_,rfl⟩:=List.mem_map.mp hz
  have:=low_le h1 t
  show lowF _ t≤highF _ t
  omega
 ·unfold termsF at hz
  obtain ⟨t,ht,rfl⟩:=List.mem_map.mp hz
  have hl:=low_le h1 t
  have hc:=cap_le (P:=pullL (A.map keptA) (B.map keptA)) (fun y hy=>by have:=one y hy;omega) t
  obtain ⟨_,y,hy,e⟩:=(hk.mem t).mp ht
  have hy36:=(one y hy).2.2
  have hhl:=high_low (pullL (A.map keptA) (B.map keptA)) t
  have c4:capF (pullL (A.map keptA) (B.map keptA)) t≤4 * ((pullL (A.map keptA) (B.map keptA)).length:Int):=by
   have:∀ {P:List (Int × Int)},(∀ y∈P,(1:Int)≤y.2∧y.2≤5)->capF P t≤4 * (P.length:Int):=fun {P}=>by
    induction P with
    | nil=>intro _;exact Int.le_refl 0
    | cons y P ih=>
     intro h
     have hy:=h y List.mem_cons_self
     have:=ih fun x hx=>h x (List.mem_cons_of_mem _ hx)
     rw [cap_cons,List.length_cons]
     split<;>omega
   exact this fun y hy=>⟨(one y hy).1,(one y hy).2.1⟩
  have hlen:(pullL (A.map keptA) (B.map keptA)).length≤6:=by unfold pullL;rw [List.length_append,List.length_map,List.length_map,List.length_map,List.length_map];have:=hA.len;have:=hB.len;omega
  have ha:=absI_nn y.1
  show (0≤t∧t≤1000)∧(-1000≤lowF _ t∧highF _ t≤1000)
  omega
abbrev B_spRefG (C:Addr) (u:Addr) (v:Addr) (H:Hp) (Q:VK) (E:XK):Prop:=∃ (r1 r2 f1 f2:Int) (A B:List (Int × Int)),ViewAt C H u r1 f1 A∧ViewAt C H v r2 f2 B∧r1 ≠ r2∧∀ H',Ext H H'->Q (.bl true) H'
def spRefG (C:Addr):Sp:=fun vs H Q E=>∃ (u:Addr) (v:Addr),vs=[.ref u,.ref v]∧(B_spRefG C u v H Q E)
theorem c_spRefG (C:Addr) (u:Addr) (v:Addr) (H:Hp) (Q:VK) (E:XK):spRefG C [.ref u,.ref v] H Q E=(B_spRefG C u v H Q E):=spx2 (f:=fun (u:Addr) (v:Addr)=>[.ref u,.ref v]) (fun _ _ _ _ h=>by cases h;exact ⟨rfl,rfl⟩) u v
theorem l_spRefG (C:Addr){vs:List V}{H:Hp}{Q:VK}{E:XK}(h:spRefG C vs H Q E):vs.length=2:=spl2 h fun _ _=>rfl
theorem ok__law_refused (T:Tx K mg t):FnOk P w K mg base CX0 3 t.a__law_refused t.d__law_refused ["_law_one", "_law_other"] (spRefG t.a_View):=by
 have G_gathered:=okP_gathered (P:=P) (w:=w) (base:=base) T
 refine T.F__law_refused.ok c__law_refused (fun vs H Q E h=>l_spRefG _ h) (fun cdv A' outer s H vs Q E hr h=>?_)
 ·obtain ⟨u,v,rfl,r1,r2,f1,f2,A,B,vu,vv,hne,k⟩:=h
  have hx1:=T.x_NoPair_PaceError
  refine ⟨_,(@pss_cons _ _ _ _ _ (@ps_try _ _ _ _ _ _ _ ⟨rfl,rfl,rfl⟩ (fun EX E pn hx=>(@pss_one _ _ _ (@ps_expr _ _ _ _ (@pe_callX _ _ _ _ _ _ _ _ _ _ _ _ _ _ _ _ G_gathered (hr.mono (by decide)) (by rfl) T.m_gathered T.F_gathered.kp T.b_gathered .nil hx (@pa_c _ _ _ _ _ (@pvN _ 0 _ _ (by rfl) (by trivial) (by decide) (by decide)) (@pa_c _ _ _ _ _ (@pvN _ 1 _ _ (by rfl) (by trivial) (by decide) (by decide)) (@pa_nil _) (by rfl)) (by rfl)) (by decide) (by rfl) (by rfl)) (by rfl)))) (@phs_as _ _ _ (2) _ _ _ _ _ _ _ _ c__law_refused.nd rfl rfl (by rfl) (.inl T.m_PaceError) (fun ee=>(@pss_cons _ _ _ _ _ (@ps_if _ _ _ _ _ _ _ _ (PW.pt (@pw_or _ _ _ _ _ _ _ (@pt_not _ _ _ _ (@pt_valN _ _ _ (@pe_callB _ _ _ _ _ _ _ ("isinstance") _ (call_qIsE' (K:=K) rfl) (by rfl) T.z_isinstance (by decide +kernel) (@pa_c _ _ _ _ _ (@pvN _ 2 _ _ (by rfl) (by trivial) (by decide) (by decide)) (@pa_c _ _ _ _ _ (@pe_glob _ _ (.ref t.a_NoPair) _ _ (by rfl) T.m_NoPair rfl (by decide)) (@pa_nil _) (by rfl)) (by rfl)) (by decide) (by decide) (by rfl) (by rfl)) (by intros;rfl))) (@pw_or1 _ _ _ _ (@pt_not _ _ _ _ (@pt_valN _ _ _ (@pe_callB _ _ _ _ _ _ _ ("isinstance") _ (call_qIsE' (K:=K) rfl) (by rfl) T.z_isinstance (by decide +kernel) (@pa_c _ _ _ _ _ (@pvN _ 2 _ _ (by rfl) (by trivial) (by decide) (by decide)) (@pa_c _ _ _ _ _ (@pe_bltn _ _ (.ty "ValueError") (.type "ValueError") _ (by rfl) T.z_ValueError (by decide +kernel) rfl (by decide) (by decide)) (@pa_nil _) (by rfl)) (by rfl)) (by decide) (by decide) (by rfl) (by rfl)) (by intros;rfl)))))) (@pss_one _ _ _ (@ps_ret _ _ _ _ (@pe_bl _ _ _ _))) (@pss_nil _)) (@pss_one _ _ _ (@ps_ret _ _ _ _ (@pe_andN _ _ _ _ _ _ _ (@pe_notN _ _ _ _ (@pe_callB _ _ _ _ _ _ _ ("isinstance") _ (call_qIsE' (K:=K) rfl) (by rfl) T.z_isinstance (by decide +kernel) (@pa_c _ _ _ _ _ (@pvN _ 2 _ _ (by rfl) (by trivial) (by decide) (by decide)) (@pa_c _ _ _ _ _ (@pe_glob _ _ (.ref t.a_NoView) _ _ (by rfl) T.m_NoView rfl (by decide)) (@pa_nil _) (by rfl)) (by rfl)) (by decide) (by decide) (by rfl) (by rfl))) (@pe_one _ _ _ _ _ (@pe_notN _ _ _ _ (@pe_callB _ _ _ _ _ _ _ ("isinstance") _ (call_qIsE' (K:=K) rfl) (by rfl) T.z_isinstance (by decide +kernel) (@pa_c _ _ _ _ _ (@pvN _ 2 _ _ (by rfl) (by trivial) (by decide) (by decide)) (@pa_c _ _ _ _ _ (@pe_glob _ _ (.ref t.a_NoCount) _ _ (by rfl) T.m_NoCount rfl (by decide)) (@pa_nil _) (by rfl)) (by rfl)) (by decide) (by decide) (by rfl) (by rfl))))))))) (@phs_nil _) (by decide))) (@pss_one _ _ _ (@ps_ret _ _ _ _ (@pe_bl _ _ _ _)))),?_⟩
  rw [show start ["_law_one", "_law_other", "e"] [.ref u,.ref v]=[some (.ref u),some (.ref v),none] from rfl]
  clear G_gathered
  replace k:=fun (_:Unit)=>k
  simp! only [and_true]
  rw [c_spGathP]
  refine ⟨_,_,_,_,_,_,vu,vv,hne,fun H1 e1=>?_⟩
  simp! only [and_true]
  intro e oe he' hcl hdc hdat
  have g4:(upd H1 e (excO oe)) e=some (excO oe):=upd_same
  have e2:Ext H (upd H1 e (excO oe)):=e1.trans (Ext.new he')
  generalize upd H1 e (excO oe)=H2 at e2 g4
  have k2:=k () H2 e2
  clear he' k
  simp! only [T.e_NoPair,T.k_NoPair_NoPair,T.k_NoPair_NoView,T.k_NoPair_NoCount,T.k_NoPair_ValueError]
theorem prod_fold:∀ A:List (Int × Int),prodL (A.map fun a=>a.1)=(A.foldr (fun a r=>a.1 * r) 1)
 | []=>rfl
 | a::A=>by show a.1 * prodL (A.map fun a=>a.1)=a.1 * _;rw [prod_fold A]
abbrev B_spLaw (K:PySem.W.Frag) (a:Addr) (H:Hp) (Q:VK) (E:XK):Prop:=∃ ns:List Int,SqL K H a (ns.map V.int)∧ns.length≤63∧∀ H',Q (.bl true) H'
def spLaw (K:PySem.W.Frag):Sp:=fun vs H Q E=>∃ (a:Addr),vs=[.ref a]∧(B_spLaw K a H Q E)
theorem l_spLaw (K:PySem.W.Frag){vs:List V}{H:Hp}{Q:VK}{E:XK}(h:spLaw K vs H Q E):vs.length=1:=spl1 h fun _=>rfl
theorem ok_law (T:Tx K mg t):FnOk P w K mg base CX0 9 t.a_law t.d_law ["_law_script"] (spLaw K):=by
 refine T.F_law.ok c_law (fun vs H Q E h=>l_spLaw _ h) (fun cdv A' outer s H vs Q E hr h=>?_)
 ·obtain ⟨a,rfl,ns,hS,hl,kk⟩:=h
  have G__law_draw:=ok__law_draw (P:=P) (w:=w) (base:=base) T a ns
  have G__law_great:=ok__law_great (P:=P) (w:=w) (base:=base) T a ns
  have G__law_axes:=ok__law_axes (P:=P) (w:=w) (base:=base) T a ns
  have G__law_placed:=ok__law_placed (P:=P) (w:=w) (base:=base) T
  have G__law_terms:=ok__law_terms (P:=P) (w:=w) (base:=base) T
  have G_gathered:=ok_gathered (P:=P) (w:=w) (base:=base) T
  have G__law_told:=ok__law_told (P:=P) (w:=w) (base:=base) T
  have G__law_turned:=ok__law_turned (P:=P) (w:=w) (base:=base) T
  have G__law_sums:=ok__law_sums (P:=P) (w:=w) (base:=base) T
  have G__law_differences:=ok__law_differences (P:=P) (w:=w) (base:=base) T
  have G__law_refused:=ok__law_refused (P:=P) (w:=w) (base:=base) T
  have G_View___init__:=ok_View___init__ (P:=P) (w:=w) (base:=base) T
  have c1:=T.cl_View
  have c2:=T.na_View_room
  have c3:=T.na_View_first
  refine ⟨_,(@pss_cons _ _ _ _ _ (@ps_set _ _ (1) _ _ _ _ c_law.nd rfl (Or.inl rfl) (@pe_call _ _ _ _ _ _ _ _ _ _ _ _ _ _ _ _ G__law_draw (hr.mono (by decide)) (by rfl) T.m__law_draw T.F__law_draw.kp T.b__law_draw .nil pass0 (@pa_c _ _ _ _ _ (@pvN _ 0 _ _ (by rfl) (by trivial) (by decide) (by decide)) (@pa_c _ _ _ _ _ (@pe_int _ _ _ _) (@pa_c _ _ _ _ _ (@pe_int _ _ _ _) (@pa_nil _) (by rfl)) (by rfl)) (by rfl)) (by decide) (by rfl) (by rfl)) (by rfl) (by trivial)) (@pss_cons _ _ _ _ _ (@ps_if _ _ _ _ _ _ _ _ (@pt_cmpRN _ _ _ _ _ _ _ _ (op_qEq hr.units) (@pvN _ 1 _ _ (by rfl) (by trivial) (by decide) (by decide)) (@pe_int _ _ _ _) (nomark _)) (@pss_cons _ _ _ _ _ (@ps_set _ _ (2) _ _ _ _ c_law.nd rfl (Or.inl rfl) (@pe_call _ _ _ _ _ _ _ _ _ _ _ _ _ _ _ _ G__law_great (hr.mono (by decide)) (by rfl) T.m__law_great T.F__law_great.kp T.b__law_great .nil pass0 (@pa_c _ _ _ _ _ (@pvN _ 0 _ _ (by rfl) (by trivial) (by decide) (by decide)) (@pa_c _ _ _ _ _ (@pe_int _ _ _ _) (@pa_c _ _ _ _ _ (@pe_qLst _ _ _ _ (@pa_nil _)) (@pa_nil _) (by rfl)) (by rfl)) (by rfl)) (by decide) (by rfl) (by rfl)) (by rfl) (by trivial)) (@pss_one _ _ _ (@ps_set _ _ (3) _ _ _ _ c_law.nd rfl (Or.inl rfl) (@pe_call _ _ _ _ _ _ _ _ _ _ _ _ _ _ _ _ G__law_great (hr.mono (by decide)) (by rfl) T.m__law_great T.F__law_great.kp T.b__law_great .nil pass0 (@pa_c _ _ _ _ _ (@pvN _ 0 _ _ (by rfl) (by trivial) (by decide) (by decide)) (@pa_c _ _ _ _ _ (@pe_int _ _ _ _) (@pa_c _ _ _ _ _ (@pvN _ 2 _ _ (by rfl) (by trivial) (by decide) (by decide)) (@pa_nil _) (by rfl)) (by rfl)) (by rfl)) (by decide) (by rfl) (by rfl)) (by rfl) (by trivial)))) (@pss_cons _ _ _ _ _ (@ps_set _ _ (2) _ _ _ _ c_law.nd rfl (Or.inl rfl) (@pe_call _ _ _ _ _ _ _ _ _ _ _ _ _ _ _ _ G__law_axes (hr.mono (by decide)) (by rfl) T.m__law_axes T.F__law_axes.kp T.b__law_axes .nil pass0 (@pa_c _ _ _ _ _ (@pvN _ 0 _ _ (by rfl) (by trivial) (by decide) (by decide)) (@pa_c _ _ _ _ _ (@pe_int _ _ _ _) (@pa_c _ _ _ _ _ (@pe_op _ _ _ _ _ _ _ _ on_add (@pe_int _ _ _ _) (@pe_call _ _ _ _ _ _ _ _ _ _ _ _ _ _ _ _ G__law_draw (hr.mono (by decide)) (by rfl) T.m__law_draw T.F__law_draw.kp T.b__law_draw .nil pass0 (@pa_c _ _ _ _ _ (@pvN _ 0 _ _ (by rfl) (by trivial) (by decide) (by decide)) (@pa_c _ _ _ _ _ (@pe_int _ _ _ _) (@pa_c _ _ _ _ _ (@pe_int _ _ _ _) (@pa_nil _) (by rfl)) (by rfl)) (by rfl)) (by decide) (by rfl) (by rfl))) (@pa_nil _) (by rfl)) (by rfl)) (by rfl)) (by decide) (by rfl) (by rfl)) (by rfl) (by trivial)) (@pss_one _ _ _ (@ps_set _ _ (3) _ _ _ _ c_law.nd rfl (Or.inl rfl) (@pe_call _ _ _ _ _ _ _ _ _ _ _ _ _ _ _ _ G__law_axes (hr.mono (by decide)) (by rfl) T.m__law_axes T.F__law_axes.kp T.b__law_axes .nil pass0 (@pa_c _ _ _ _ _ (@pvN _ 0 _ _ (by rfl) (by trivial) (by decide) (by decide)) (@pa_c _ _ _ _ _ (@pe_int _ _ _ _) (@pa_c _ _ _ _ _ (@pe_op _ _ _ _ _ _ _ _ on_add (@pe_int _ _ _ _) (@pe_call _ _ _ _ _ _ _ _ _ _ _ _ _ _ _ _ G__law_draw (hr.mono (by decide)) (by rfl) T.m__law_draw T.F__law_draw.kp T.b__law_draw .nil pass0 (@pa_c _ _ _ _ _ (@pvN _ 0 _ _ (by rfl) (by trivial) (by decide) (by decide)) (@pa_c _ _ _ _ _ (@pe_int _ _ _ _) (@pa_c _ _ _ _ _ (@pe_int _ _ _ _) (@pa_nil _) (by rfl)) (by rfl)) (by rfl)) (by decide) (by rfl) (by rfl))) (@pa_nil _) (by rfl)) (by rfl)) (by rfl)) (by decide) (by rfl) (by rfl)) (by rfl) (by trivial))))) (@pss_cons _ _ _ _ _ (@ps_set _ _ (4) _ _ _ _ c_law.nd rfl (Or.inl rfl) (@pe_op _ _ _ _ _ _ _ _ on_sub (@pe_call _ _ _ _ _ _ _ _ _ _ _ _ _ _ _ _ G__law_draw (hr.mono (by decide)) (by rfl) T.m__law_draw T.F__law_draw.kp T.b__law_draw .nil pass0 (@pa_c _ _ _ _ _ (@pvN _ 0 _ _ (by rfl) (by trivial) (by decide) (by decide)) (@pa_c _ _ _ _ _ (@pe_int _ _ _ _) (@pa_c _ _ _ _ _ (@pe_ix _ _ _ _ _ _ _ ix_q (@pe_qLst _ _ _ _ (@pa_c _ _ _ _ _ (@pe_int _ _ _ _) (@pa_c _ _ _ _ _ (@pe_op _ _ _ _ _ _ _ _ on_pow (@pe_int _ _ _ _) (@pe_int _ _ _ _)) (@pa_nil _) (by rfl)) (by rfl))) (@pvN _ 1 _ _ (by rfl) (by trivial) (by decide) (by decide)) (fun _ _=>rfl)) (@pa_nil _) (by rfl)) (by rfl)) (by rfl)) (by decide) (by rfl) (by rfl)) (@pe_ix _ _ _ _ _ _ _ ix_q (@pe_qLst _ _ _ _ (@pa_c _ _ _ _ _ (@pe_int _ _ _ _) (@pa_c _ _ _ _ _ (@pe_op _ _ _ _ _ _ _ _ on_mul (@pe_int _ _ _ _) (@pe_op _ _ _ _ _ _ _ _ on_pow (@pe_int _ _ _ _) (@pe_int _ _ _ _))) (@pa_nil _) (by rfl)) (by rfl))) (@pvN _ 1 _ _ (by rfl) (by trivial) (by decide) (by decide)) (fun _ _=>rfl))) (by rfl) (by trivial)) (@pss_cons _ _ _ _ _ (@ps_asg _ _ _ _ _ _ (@pe_call _ _ _ _ _ _ _ _ _ _ _ _ _ _ _ _ G__law_placed (hr.mono (by decide)) (by rfl) T.m__law_placed T.F__law_placed.kp T.b__law_placed .nil pass0 (@pa_c _ _ _ _ _ (@pvN _ 2 _ _ (by rfl) (by trivial) (by decide) (by decide)) (@pa_c _ _ _ _ _ (@pvN _ 3 _ _ (by rfl) (by trivial) (by decide) (by decide)) (@pa_c _ _ _ _ _ (@pvN _ 4 _ _ (by rfl) (by trivial) (by decide) (by decide)) (@pa_c _ _ _ _ _ (@pe_call _ _ _ _ _ _ _ _ _ _ _ _ _ _ _ _ G__law_draw (hr.mono (by decide)) (by rfl) T.m__law_draw T.F__law_draw.kp T.b__law_draw .nil pass0 (@pa_c _ _ _ _ _ (@pvN _ 0 _ _ (by rfl) (by trivial) (by decide) (by decide)) (@pa_c _ _ _ _ _ (@pe_int _ _ _ _) (@pa_c _ _ _ _ _ (@pe_int _ _ _ _) (@pa_nil _) (by rfl)) (by rfl)) (by rfl)) (by decide) (by rfl) (by rfl)) (@pa_c _ _ _ _ _ (@pe_call _ _ _ _ _ _ _ _ _ _ _ _ _ _ _ _ G__law_draw (hr.mono (by decide)) (by rfl) T.m__law_draw T.F__law_draw.kp T.b__law_draw .nil pass0 (@pa_c _ _ _ _ _ (@pvN _ 0 _ _ (by rfl) (by trivial) (by decide) (by decide)) (@pa_c _ _ _ _ _ (@pe_int _ _ _ _) (@pa_c _ _ _ _ _ (@pe_int _ _ _ _) (@pa_nil _) (by rfl)) (by rfl)) (by rfl)) (by decide) (by rfl) (by rfl)) (@pa_nil _) (by rfl)) (by rfl)) (by rfl)) (by rfl)) (by rfl)) (by decide) (by rfl) (by rfl)) ((@pg_tup _ _ _ _ _ (2) rfl (@pgs_consN _ _ _ _ _ (@pg_name _ _ (5) _ c_law.nd rfl (Or.inl rfl) (by trivial)) (@pgs_consN _ _ _ _ _ (@pg_name _ _ (6) _ c_law.nd rfl (Or.inl rfl) (by trivial)) (@pgs_nilN _) (by rfl)) (by rfl)) (by rfl) (by rfl)).mono fun _ _ _ _ h=>gTup_q h) (by rfl) (by rfl) (by rfl)) (@pss_cons _ _ _ _ _ (@ps_set _ _ (7) _ _ _ _ c_law.nd rfl (Or.inl rfl) (@pe_call _ _ _ _ _ _ _ _ _ _ _ _ _ _ _ _ G__law_terms (hr.mono (by decide)) (by rfl) T.m__law_terms T.F__law_terms.kp T.b__law_terms .nil pass0 (@pa_c _ _ _ _ _ (@pvN _ 2 _ _ (by rfl) (by trivial) (by decide) (by decide)) (@pa_c _ _ _ _ _ (@pvN _ 3 _ _ (by rfl) (by trivial) (by decide) (by decide)) (@pa_nil _) (by rfl)) (by rfl)) (by decide) (by rfl) (by rfl)) (by rfl) (by trivial)) (@pss_cons _ _ _ _ _ (@ps_set _ _ (8) _ _ _ _ c_law.nd rfl (Or.inl rfl) (@pe_call _ _ _ _ _ _ _ _ _ _ _ _ _ _ _ _ G_gathered (hr.mono (by decide)) (by rfl) T.m_gathered T.F_gathered.kp T.b_gathered .nil pass0 (@pa_c _ _ _ _ _ (@pvN _ 5 _ _ (by rfl) (by trivial) (by decide) (by decide)) (@pa_c _ _ _ _ _ (@pvN _ 6 _ _ (by rfl) (by trivial) (by decide) (by decide)) (@pa_nil _) (by rfl)) (by rfl)) (by decide) (by rfl) (by rfl)) (by rfl) (by trivial)) (@pss_cons _ _ _ _ _ (@ps_if _ _ _ _ _ _ _ _ (@pt_not _ _ _ _ (@pt_valN _ _ _ (@pe_call _ _ _ _ _ _ _ _ _ _ _ _ _ _ _ _ G__law_told (hr.mono (by decide)) (by rfl) T.m__law_told T.F__law_told.kp T.b__law_told .nil pass0 (@pa_c _ _ _ _ _ (@pvN _ 8 _ _ (by rfl) (by trivial) (by decide) (by decide)) (@pa_c _ _ _ _ _ (@pvN _ 7 _ _ (by rfl) (by trivial) (by decide) (by decide)) (@pa_c _ _ _ _ _ (@pvN _ 4 _ _ (by rfl) (by trivial) (by decide) (by decide)) (@pa_nil _) (by rfl)) (by rfl)) (by rfl)) (by decide) (by rfl) (by rfl)) (by intros;rfl))) (@pss_one _ _ _ (@ps_ret _ _ _ _ (@pe_bl _ _ _ _))) (@pss_nil _)) (@pss_cons _ _ _ _ _ (@ps_expr _ _ _ _ (@pe_bm _ _ _ _ _ _ _ _ _ _ _ _ PySem.F.plainAttrs_list PySem.F.slot_list_append PySem.F.type_list_append mt_append (@pe_ix _ _ _ _ _ _ _ ix_q (@pvN _ 8 _ _ (by rfl) (by trivial) (by decide) (by decide)) (@pe_int _ _ _ _) (fun _ _=>rfl)) (@pa_c _ _ _ _ _ (@pe_qTup _ _ _ _ _ (@pa_c _ _ _ _ _ (@pe_int _ _ _ _) (@pa_c _ _ _ _ _ (@pe_int _ _ _ _) (@pa_c _ _ _ _ _ (@pe_int _ _ _ _) (@pa_nil _) (by rfl)) (by rfl)) (by rfl))) (@pa_nil _) (by rfl)) (by rfl) (by rfl) (by rfl) (by rfl) (by rfl)) (by rfl)) (@pss_cons _ _ _ _ _ (@ps_if _ _ _ _ _ _ _ _ (@pt_not _ _ _ _ (@pt_valN _ _ _ (@pe_call _ _ _ _ _ _ _ _ _ _ _ _ _ _ _ _ G__law_told (hr.mono (by decide)) (by rfl) T.m__law_told T.F__law_told.kp T.b__law_told .nil pass0 (@pa_c _ _ _ _ _ (@pe_call _ _ _ _ _ _ _ _ _ _ _ _ _ _ _ _ G_gathered (hr.mono (by decide)) (by rfl) T.m_gathered T.F_gathered.kp T.b_gathered .nil pass0 (@pa_c _ _ _ _ _ (@pvN _ 6 _ _ (by rfl) (by trivial) (by decide) (by decide)) (@pa_c _ _ _ _ _ (@pvN _ 5 _ _ (by rfl) (by trivial) (by decide) (by decide)) (@pa_nil _) (by rfl)) (by rfl)) (by decide) (by rfl) (by rfl)) (@pa_c _ _ _ _ _ (@pe_call _ _ _ _ _ _ _ _ _ _ _ _ _ _ _ _ G__law_turned (hr.mono (by decide)) (by rfl) T.m__law_turned T.F__law_turned.kp T.b__law_turned .nil pass0 (@pa_c _ _ _ _ _ (@pvN _ 7 _ _ (by rfl) (by trivial) (by decide) (by decide)) (@pa_nil _) (by rfl)) (by decide) (by rfl) (by rfl)) (@pa_c _ _ _ _ _ (@pe_op _ _ _ _ _ _ _ _ on_sub (@pe_int _ _ _ _) (@pvN _ 4 _ _ (by rfl) (by trivial) (by decide) (by decide))) (@pa_nil _) (by rfl)) (by rfl)) (by rfl)) (by decide) (by rfl) (by rfl)) (by intros;rfl))) (@pss_one _ _ _ (@ps_ret _ _ _ _ (@pe_bl _ _ _ _))) (@pss_nil _)) (@pss_cons _ _ _ _ _ (@ps_if _ _ _ _ _ _ _ _ (PW.pt (@pw_and _ _ _ _ _ _ _ (@pt_cmpRN _ _ _ _ _ _ _ _ (op_qEq hr.units) (@pvN _ 1 _ _ (by rfl) (by trivial) (by decide) (by decide)) (@pe_int _ _ _ _) (nomark _)) (@pw_and1 _ _ _ _ (@pt_cmpRN _ _ _ _ _ _ _ _ (op_qNe hr.units) (@pe_call _ _ _ _ _ _ _ _ _ _ _ _ _ _ _ _ G__law_sums (hr.mono (by decide)) (by rfl) T.m__law_sums T.F__law_sums.kp T.b__law_sums .nil pass0 (@pa_c _ _ _ _ _ (@pvN _ 7 _ _ (by rfl) (by trivial) (by decide) (by decide)) (@pa_nil _) (by rfl)) (by decide) (by rfl) (by rfl)) (@pe_call _ _ _ _ _ _ _ _ _ _ _ _ _ _ _ _ G__law_differences (hr.mono (by decide)) (by rfl) T.m__law_differences T.F__law_differences.kp T.b__law_differences .nil pass0 (@pa_c _ _ _ _ _ (@pvN _ 2 _ _ (by rfl) (by trivial) (by decide) (by decide)) (@pa_c _ _ _ _ _ (@pvN _ 3 _ _ (by rfl) (by trivial) (by decide) (by decide)) (@pa_nil _) (by rfl)) (by rfl)) (by decide) (by rfl) (by rfl)) (nomark _))))) (@pss_one _ _ _ (@ps_ret _ _ _ _ (@pe_bl _ _ _ _))) (@pss_nil _)) (@pss_cons _ _ _ _ _ (@ps_set _ _ (9) _ _ _ _ c_law.nd rfl (Or.inl rfl) (@pe_nMake _ _ _ _ _ _ _ _ _ _ _ _ _ _ _ _ _ T.mk_View G_View___init__ (hr.mono (by decide)) (by rfl) T.m_View T.b_View___init__ .nil pass0 (@pa_c _ _ _ _ _ (@pe_op _ _ _ _ _ _ _ _ on_add (@pe_op _ _ _ _ _ _ _ _ on_add (@pe_nFld _ _ _ _ _ (@pvN _ 6 _ _ (by rfl) (by trivial) (by decide) (by decide)) rfl) (@pe_int _ _ _ _)) (@pe_call _ _ _ _ _ _ _ _ _ _ _ _ _ _ _ _ G__law_draw (hr.mono (by decide)) (by rfl) T.m__law_draw T.F__law_draw.kp T.b__law_draw .nil pass0 (@pa_c _ _ _ _ _ (@pvN _ 0 _ _ (by rfl) (by trivial) (by decide) (by decide)) (@pa_c _ _ _ _ _ (@pe_int _ _ _ _) (@pa_c _ _ _ _ _ (@pe_int _ _ _ _) (@pa_nil _) (by rfl)) (by rfl)) (by rfl)) (by decide) (by rfl) (by rfl))) (@pa_c _ _ _ _ _ (@pe_nFld _ _ _ _ _ (@pvN _ 6 _ _ (by rfl) (by trivial) (by decide) (by decide)) rfl) (@pa_c _ _ _ _ _ (@pe_callTy _ _ _ _ _ _ _ _ _ call_nList (by rfl) T.z_list (by decide +kernel) (@pa_c _ _ _ _ _ (@pvN _ 3 _ _ (by rfl) (by trivial) (by decide) (by decide)) (@pa_nil _) (by rfl)) (by decide) (by decide) (by rfl) (by rfl)) (@pa_nil _) (by rfl)) (by rfl)) (by rfl)) (by decide) (by rfl) (by rfl)) (by rfl) (by trivial)) (@pss_cons _ _ _ _ _ (@ps_if _ _ _ _ _ _ _ _ (PW.pt (@pw_or _ _ _ _ _ _ _ (@pt_not _ _ _ _ (@pt_valN _ _ _ (@pe_call _ _ _ _ _ _ _ _ _ _ _ _ _ _ _ _ G__law_refused (hr.mono (by decide)) (by rfl) T.m__law_refused T.F__law_refused.kp T.b__law_refused .nil pass0 (@pa_c _ _ _ _ _ (@pvN _ 5 _ _ (by rfl) (by trivial) (by decide) (by decide)) (@pa_c _ _ _ _ _ (@pvN _ 9 _ _ (by rfl) (by trivial) (by decide) (by decide)) (@pa_nil _) (by rfl)) (by rfl)) (by decide) (by rfl) (by rfl)) (by intros;rfl))) (@pw_or1 _ _ _ _ (@pt_not _ _ _ _ (@pt_valN _ _ _ (@pe_call _ _ _ _ _ _ _ _ _ _ _ _ _ _ _ _ G__law_refused (hr.mono (by decide)) (by rfl) T.m__law_refused T.F__law_refused.kp T.b__law_refused .nil pass0 (@pa_c _ _ _ _ _ (@pvN _ 9 _ _ (by rfl) (by trivial) (by decide) (by decide)) (@pa_c _ _ _ _ _ (@pvN _ 5 _ _ (by rfl) (by trivial) (by decide) (by decide)) (@pa_nil _) (by rfl)) (by rfl)) (by decide) (by rfl) (by rfl)) (by intros;rfl)))))) (@pss_one _ _ _ (@ps_ret _ _ _ _ (@pe_bl _ _ _ _))) (@pss_nil _)) (@pss_one _ _ _ (@ps_ret _ _ _ _ (@pe_andN _ _ _ _ _ _ _ (@pe_call _ _ _ _ _ _ _ _ _ _ _ _ _ _ _ _ G__law_told (hr.mono (by decide)) (by rfl) T.m__law_told T.F__law_told.kp T.b__law_told .nil pass0 (@pa_c _ _ _ _ _ (@pe_call _ _ _ _ _ _ _ _ _ _ _ _ _ _ _ _ G_gathered (hr.mono (by decide)) (by rfl) T.m_gathered T.F_gathered.kp T.b_gathered .nil pass0 (@pa_c _ _ _ _ _ (@pvN _ 5 _ _ (by rfl) (by trivial) (by decide) (by decide)) (@pa_c _ _ _ _ _ (@pvN _ 6 _ _ (by rfl) (by trivial) (by decide) (by decide)) (@pa_nil _) (by rfl)) (by rfl)) (by decide) (by rfl) (by rfl)) (@pa_c _ _ _ _ _ (@pvN _ 7 _ _ (by rfl) (by trivial) (by decide) (by decide)) (@pa_c _ _ _ _ _ (@pvN _ 4 _ _ (by rfl) (by trivial) (by decide) (by decide)) (@pa_nil _) (by rfl)) (by rfl)) (by rfl)) (by decide) (by rfl) (by rfl)) (@pe_one _ _ _ _ _ (@pe_call _ _ _ _ _ _ _ _ _ _ _ _ _ _ _ _ G__law_told (hr.mono (by decide)) (by rfl) T.m__law_told T.F__law_told.kp T.b__law_told .nil pass0 (@pa_c _ _ _ _ _ (@pe_call _ _ _ _ _ _ _ _ _ _ _ _ _ _ _ _ G_gathered (hr.mono (by decide)) (by rfl) T.m_gathered T.F_gathered.kp T.b_gathered .nil pass0 (@pa_c _ _ _ _ _ (@pvN _ 5 _ _ (by rfl) (by trivial) (by decide) (by decide)) (@pa_c _ _ _ _ _ (@pvN _ 5 _ _ (by rfl) (by trivial) (by decide) (by decide)) (@pa_nil _) (by rfl)) (by rfl)) (by decide) (by rfl) (by rfl)) (@pa_c _ _ _ _ _ (@pe_call _ _ _ _ _ _ _ _ _ _ _ _ _ _ _ _ G__law_terms (hr.mono (by decide)) (by rfl) T.m__law_terms T.F__law_terms.kp T.b__law_terms .nil pass0 (@pa_c _ _ _ _ _ (@pvN _ 2 _ _ (by rfl) (by trivial) (by decide) (by decide)) (@pa_c _ _ _ _ _ (@pvN _ 2 _ _ (by rfl) (by trivial) (by decide) (by decide)) (@pa_nil _) (by rfl)) (by rfl)) (by decide) (by rfl) (by rfl)) (@pa_c _ _ _ _ _ (@pe_int _ _ _ _) (@pa_nil _) (by rfl)) (by rfl)) (by rfl)) (by decide) (by rfl) (by rfl)))))))))))))))))),?_⟩
  rw [show start ["_law_script", "_law_great_here", "_law_one", "_law_other", "_law_goal", "_law_here", "_law_there", "_law_terms_here", "_law_found", "_law_wider"] [.ref a]=[some (.ref a),none,none,none,none,none,none,none,none,none] from rfl]
  clear G__law_draw G__law_great G__law_axes G__law_placed G__law_terms G_gathered G__law_told G__law_turned G__law_sums G__law_differences G__law_refused G_View___init__
  replace kk:=fun (_:Unit)=>kk
  simp! only [and_true]
  rw [c_spDraw]
  refine ⟨hS,hl,⟨by decide,by decide⟩,by decide,fun gh g0 g1=>?_⟩
  simp! only [-m_tIfS]
  refine if_gen (fun σ' H'=>∃ (A B:List (Int × Int)) (p q:Addr),σ'=[some (.ref a),some (.int gh),some (.ref p),some (.ref q),none,none,none,none,none,none]∧Ext H H'∧PrAt H' p A∧PrAt H' q B∧AxG A∧AxG B∧(gh=0->AxK A∧AxK B)) (fun nx' hn=>?_) ?_
  ·replace hn:=fun (_:Unit)=>hn
   clear kk
   by_cases hg:gh=1
   ·subst hg
    simp! only [and_true]
    intro l1 H1 _ e1 h1
    have hS1:=e1.2 K a _ hS
    simp! only [and_true]
    rw [c_spKGreat]
    refine ⟨rfl,hS1,hl,by decide,by decide,[],⟨[],h1,Al.nil⟩,by decide,(fun b h=>by cases h),fun A p H2 e2 p2 kA=>?_⟩
    have hS2:=e2.2 K a _ hS1
    clear h1 hS1
    simp! only [and_true]
    rw [c_spKGreat]
    refine ⟨rfl,hS2,hl,by decide,by decide,A,p2,kA.len,kA.bnd,fun B q H3 e3 p3 kB=>?_⟩
    have hn':=hn () _ H3 ⟨A,B,p,q,rfl,e1.trans (e2.trans e3),pr_ext p2 e3,p3,kA,kB,fun h=>by cases h⟩
    clear hn
    simp! only [and_true]
   ·simp! only [and_true]
    rw [c_spDraw]
    refine ⟨hS,hl,⟨by decide,by decide⟩,by decide,fun d2 d20 d21=>?_⟩
    simp! only [and_true]
    rw [c_spKAxes]
    refine ⟨rfl,hS,hl,by decide,by decide,by omega,by omega,fun A p H2 e2 p2 kA=>?_⟩
    have hS2:=e2.2 K a _ hS
    simp! only [and_true]
    rw [c_spDraw]
    refine ⟨hS2,hl,⟨by decide,by decide⟩,by decide,fun d3 d30 d31=>?_⟩
    simp! only [and_true]
    rw [c_spKAxes]
    refine ⟨rfl,hS2,hl,by decide,by decide,by omega,by omega,fun B q H3 e3 p3 kB=>?_⟩
    have hn':=hn () _ H3 ⟨A,B,p,q,rfl,e2.trans e3,pr_ext p2 e3,p3,kA.g,kB.g,fun _=>⟨kA,kB⟩⟩
    clear hn
    simp! only [and_true]
  rintro _ H1 ⟨A,B,p,q,rfl,e1,pA,pB,kA,kB,kS⟩
  have hS1:=e1.2 K a _ hS
  replace kS:=fun (_:Unit)=>kS
  clear hS e1
  simp! only [and_true]
  intro l2 H2 _ e2 h2
  simp! only [and_true]
  refine optK_pick (fun v=>∃ m:Int,v=.int m∧1≤m∧m≤100000000000000000) g0 (by simpa using g1) (fun v hv=>?_) fun v hv=>?_
  ·simp only [List.mem_cons,List.not_mem_nil,or_false] at hv
   rcases hv with rfl|rfl
   ·exact ⟨_,rfl,by decide,by decide⟩
   ·exact ⟨_,rfl,by decide,by decide⟩
  obtain ⟨m1,rfl,m10,m11⟩:=hv
  have hS2:=e2.2 K a _ hS1
  clear h2 hS1
  simp! only [and_true]
  rw [c_spDraw]
  refine ⟨hS2,hl,⟨by decide,by decide⟩,by omega,fun d1 d10 d11=>?_⟩
  simp! only [and_true]
  intro l3 H3 _ e3 h3
  simp! only [and_true]
  refine optK_pick (fun v=>∃ m:Int,v=.int m∧0≤m∧m≤50000000000000000) g0 (by simpa using g1) (fun v hv=>?_) fun v hv=>?_
  ·simp only [List.mem_cons,List.not_mem_nil,or_false] at hv
   rcases hv with rfl|rfl
   ·exact ⟨_,rfl,by decide,by decide⟩
   ·exact ⟨_,rfl,by decide,by decide⟩
  obtain ⟨m2,rfl,m20,m21⟩:=hv
  obtain ⟨g,hg⟩:∃ g,d1 - m2=g:=⟨_,rfl⟩
  have gb:-100000000000000000≤g∧g≤100000000000000000:=by omega
  have hS3:=e3.2 K a _ hS2
  have pA3:=pr_ext pA (e2.trans e3)
  have pB3:=pr_ext pB (e2.trans e3)
  clear h3 hS2 m10 m11 m20 m21 d10 d11 pA pB
  simp! only [and_true]
  rw [c_spDraw]
  refine ⟨hS3,hl,⟨by decide,by decide⟩,by decide,fun d3 d30 d31=>?_⟩
  simp! only [and_true]
  rw [c_spDraw]
  refine ⟨hS3,hl,⟨by decide,by decide⟩,by decide,fun d4 d40 d41=>?_⟩
  simp! only [and_true]
  rw [c_spKPlaced]
  refine ⟨A,B,pA3,pB3,kA,kB,⟨d30,d31⟩,⟨d40,d41⟩,by omega,fun room f x1 x2 r4 H4 e4 h4 v1 v2 vB hrb vW=>?_⟩
  have hS4:=e4.2 K a _ hS3
  have pA4:=pr_ext pA3 e4
  have pB4:=pr_ext pB3 e4
  have a8:=kA.len
  have b8:=kB.len
  have axA:=kA.axes
  have axB:=kB.axes
  have hx:f+g - f=g:=by omega
  have hx':f - (f+g)=0 - g:=by omega
  have hx0:f - f=0:=by omega
  replace hx:=fun (_:Unit)=>hx
  replace hx':=fun (_:Unit)=>hx'
  replace hx0:=fun (_:Unit)=>hx0
  replace vB:=fun (_:Unit)=>vB
  clear vW hS3 pA3 pB3 d30 d31 d40 d41 hg
  simp! only [and_true]
  rw [c_spKTerms]
  refine ⟨A,B,pA4,pB4,a8,b8,kA.one,kB.one,fun ks r5 H5 e5 t5 ko=>?_⟩
  have kl:ks.length≤16:=by have:=ko.len;unfold pullL at this;rw [List.length_append,List.length_map,List.length_map,List.length_map,List.length_map] at this;omega
  have tl:(termsF ks (pullL (A.map keptA) (B.map keptA))).length≤16:=by unfold termsF;rw [List.length_map];exact kl
  replace ko:=fun (_:Unit)=>ko
  replace t5:=fun (_:Unit)=>t5
  have e45:=fun (_:Unit)=>e5
  clear h4 e5
  simp! only [and_true]
  rw [c_spGath]
  refine ⟨room,f,f+g,_,_,v1.ext (e45 ()),v2.ext (e45 ()),axA,axB,fun ks2 l6 r6 H6 hl6 e6 h6 t6 ko2=>?_⟩
  rw [ko2.uniq (ko ())] at t6
  rw [hx ()] at h6
  clear ko2
  simp! only [and_true]
  rw [c_spTldG]
  refine ⟨_,l6,h6,t6,tr_ext (t5 ()) e6,tl,fun H7 e7=>?_⟩
  have h67:=e7.at h6
  obtain ⟨ys6,hl66,al6⟩:=t6
  have hl67:=e7.at hl66
  have yl6:ys6.length < sizeLine:=lt5000 (by rw [al6.1];omega)
  clear h6 al6 hl66
  simp! only [and_true]
  intro tt H8 htt e8 h8
  have h68:=e8.at h67
  have hl68:=e8.at hl67
  clear h67 hl67 htt h8
  simp! only [and_true]
  have e58:Ext H5 (upd H8 l6 (.lst (ys6++[.ref tt]))):=(e6.trans (e7.trans e8)).put hl6
  generalize upd H8 l6 (.lst (ys6++[.ref tt]))=H9 at e58 ⊢
  clear h68 hl68 e6 e7 e8 hl6
  have e49:=fun (_:Unit)=>(e45 ()).trans e58
  have t9:=fun (_:Unit)=>tr_ext (t5 ()) e58
  clear t5 e45
  rw [c_spGath]
  refine ⟨room,f+g,f,_,_,v2.ext (e49 ()),v1.ext (e49 ()),axB,axA,fun ks2 l10 r10 H10 hl10 e10 h10 t10 ko2=>?_⟩
  rw [ko2.uniq (ko ()).swap] at t10
  rw [hx' ()] at h10
  replace t10:=fun (_:Unit)=>t10
  clear ko2 hl10
  simp! only [and_true]
  rw [c_spTrn]
  refine ⟨_,tr_ext (t9 ()) e10,tl,fun r11 H11 e11 t11=>?_⟩
  rw [terms_turn fun t ht=>(((ko ()).mem t).mp ht).1] at t11
  have h10':=e11.at h10
  have t10':=tr_ext (t10 ()) e11
  have tl2:(termsF ks (pullL (B.map keptA) (A.map keptA))).length≤16:=by unfold termsF;rw [List.length_map];exact kl
  clear h10 t10
  simp! only [and_true]
  rw [c_spTldG]
  refine ⟨_,l10,h10',t10',t11,tl2,fun H12 e12=>?_⟩
  have e412:=fun (_:Unit)=>(e49 ()).trans (e10.trans (e11.trans e12))
  have t12:=fun (_:Unit)=>tr_ext (t9 ()) (e10.trans (e11.trans e12))
  clear h10' t10' t11 tl2 e10 e11 e12 e49 t9 e58
  simp! only [-m_tIfS]
  refine if_gen (fun σ' H'=>σ'=[some (.ref a),some (.int gh),some (.ref p),some (.ref q),some (.int g),some (.ref x1),some (.ref x2),some (.ref r5),some (.ref r6),none]∧Ext H12 H') (fun nx' hn=>?_) ?_
  ·replace hn:=fun (_:Unit)=>hn
   clear kk
   by_cases h0:gh=0
   ·subst h0
    obtain ⟨qA,qB⟩:=kS () rfl
    obtain ⟨s1,s2,s3,s4⟩:=qA.sums qB (ko ())
    have sd:=sums_diff (ko ()) s4
    have pA12:=pr_ext pA4 (e412 ())
    have pB12:=pr_ext pB4 (e412 ())
    replace sd:=fun (_:Unit)=>sd
    replace s1:=fun (_:Unit)=>s1
    replace s3:=fun (_:Unit)=>s3
    replace s2:=fun (_:Unit)=>s2
    clear s4
    simp! only [and_true]
    rw [c_spSums]
    refine ⟨_,t12 (),s1 (),s2 (),s3 (),fun r13 H13 e13 st13=>?_⟩
    obtain ⟨ms,hm13,so1,nd1,mem1⟩:=st13
    replace so1:=fun (_:Unit)=>so1
    replace nd1:=fun (_:Unit)=>nd1
    replace mem1:=fun (_:Unit)=>mem1
    simp! only [and_true]
    rw [c_spDiffs]
    obtain ⟨ya,hpa,ala⟩:=pA12
    obtain ⟨yb,hqb,alb⟩:=pB12
    refine ⟨A,B,⟨ya,e13.at hpa,al_pr (ala.imp fun _ _ t=>axP.ext t e13)⟩,⟨yb,e13.at hqb,al_pr (alb.imp fun _ _ t=>axP.ext t e13)⟩,⟨a8,fun b hb=>by have:=(qA.sz b hb).1;omega⟩,⟨b8,fun b hb=>by have:=(qB.sz b hb).1;omega⟩,(by have:=qA.prod;rw [prod_fold];omega),(by have:=qB.prod;rw [prod_fold];omega),fun r14 H14 e14 st14=>?_⟩
    obtain ⟨ms2,hm14,so2,nd2,mem2⟩:=st14
    have heq:ms2=ms:=asc_eq nd2 (nd1 ()) so2 (so1 ()) fun t=>(mem2 t).trans ((sd () t).symm.trans (mem1 () t).symm)
    subst heq
    have hm13':=e14.at hm13
    have hn':=hn () _ H14 ⟨rfl,e13.trans e14⟩
    clear hn so2 nd2 mem2 so1 nd1 mem1 sd s1 s2 s3 hm13 ala alb hpa hqb
    simp! only [and_true]
   ·have hn':=hn () _ H12 ⟨rfl,Ext.refl _⟩
    clear hn
    simp! only [and_true]
  rintro _ H13 ⟨rfl,e13⟩
  have e413:=(e412 ()).trans e13
  have hS13:=e413.2 K a _ hS4
  have pB13:=pr_ext pB4 e413
  obtain ⟨dx,D,hu,_⟩:=(v2.ext e413).ob
  have f1':=viewF_room room (f+g) D
  have f2':=viewF_first room (f+g) D
  obtain ⟨tb,hqb,alB⟩:=pB13
  replace alB:=fun (_:Unit)=>alB
  clear e412
  simp! only [and_true]
  rw [c_spDraw]
  refine ⟨hS13,hl,⟨by decide,by decide⟩,by decide,fun d5 d50 d51=>?_⟩
  simp! only [and_true]
  intro q14 H14 _ e14 h14
  have al14:Al (fun z y=>axP z y H14) B tb:=(alB ()).imp fun _ _ t=>axP.ext t e14
  clear hqb hu
  simp! only [and_true]
  intro x3 dx3 G1 hx3 hdx3 hne3 g1' k1 k1'
  rw [c_spVInit]
  have vW:ViewOk (room+1+d5) (f+g) B:=by
   obtain ⟨w1,w2,w3,w4,w5⟩:=vB ()
   exact ⟨w1,by omega,by omega,by omega,by omega⟩
  refine ⟨dx3,B,k1,TupsAt.ext ⟨tb,h14,al_pr al14⟩ g1',vW,fun G2 D2 g2' hD2 hx4 tt2=>?_⟩
  have eg:=e14.trans (g2' H14 g1' hx3)
  have vo3:ViewAt t.a_View G2 x3 (room+1+d5) (f+g) (B.map keptA):=⟨dx3,D2,hx4,tt2⟩
  have e4g:=e413.trans eg
  have tg:=fun (_:Unit)=>tr_ext (t12 ()) (e13.trans eg)
  clear h14 al14 k1 k1' hx3 hdx3 hne3 g1' g2' hD2 hx4 tt2 vW hS13 eg e13 e413 e14 t12 f1' f2'
  simp! only [and_true]
  rw [c_spRefG]
  refine ⟨_,_,_,_,_,_,v1.ext e4g,vo3,by omega,fun G3 e3'=>?_⟩
  simp! only [and_true]
  rw [c_spRefG]
  refine ⟨_,_,_,_,_,_,vo3.ext e3',v1.ext (e4g.trans e3'),by omega,fun G4 e4'=>?_⟩
  have e4h:=e4g.trans (e3'.trans e4')
  have th:=fun (_:Unit)=>tr_ext (tg ()) (e3'.trans e4')
  clear e4g tg vo3 e3' e4'
  simp! only [and_true]
  rw [c_spGath]
  refine ⟨room,f,f+g,_,_,v1.ext e4h,v2.ext e4h,axA,axB,fun ks2 l20 r20 G5 hl20 e20 h20 t20 ko2=>?_⟩
  rw [ko2.uniq (ko ())] at t20
  rw [hx ()] at h20
  clear ko2 hl20
  simp! only [and_true]
  rw [c_spTldG]
  refine ⟨_,l20,h20,t20,tr_ext (th ()) e20,tl,fun G6 e21=>?_⟩
  have e4i:=e4h.trans (e20.trans e21)
  clear h20 t20 th e20 e21 e4h
  simp! only [and_true]
  rw [c_spGath]
  refine ⟨room,f,f,_,_,v1.ext e4i,v1.ext e4i,axA,axA,fun ks3 l22 r22 G7 hl22 e22 h22 t22 ko3=>?_⟩
  rw [hx0 ()] at h22
  have e4j:=e4i.trans e22
  replace t22:=fun (_:Unit)=>t22
  replace ko3:=fun (_:Unit)=>ko3
  clear hl22 e4i e22
  simp! only [and_true]
  rw [c_spKTerms]
  refine ⟨A,A,pr_ext pA4 e4j,pr_ext pA4 e4j,a8,a8,kA.one,kA.one,fun ks4 r23 G8 e23 t23 ko4=>?_⟩
  rw [ko4.uniq (ko3 ())] at t23
  have tl3:(termsF ks3 (pullL (A.map keptA) (A.map keptA))).length≤16:=by
   have:=(ko3 ()).len
   unfold pullL at this
   simp only [List.length_append,List.length_map] at this
   unfold termsF
   rw [List.length_map]
   omega
  have h22':=e23.at h22
  have t22':=tr_ext (t22 ()) e23
  clear h22 t22 ko4
  simp! only [and_true]
  rw [c_spTldG]
  refine ⟨_,l22,h22',t22',t23,tl3,fun G9 e24=>?_⟩
  exact kk () G9
end
theorem all_mk {l:PySem.W.OpenLaw}{w:World}{K:PySem.W.Frag}{h:Heap}{mg:Str->Option Value}{fa:Addr}(X:K.In h) (G:h.Ns mainGlobals mg) (hfa:mg "law"=some (.ref fa))
  {C0:Addr} (y0:PySem.W.nsIn K mainGlobals "PaceError"=some (some (.ref C0)))
  {C1:Addr} (y1:PySem.W.nsIn K mainGlobals "NoPlace"=some (some (.ref C1)))
  {C2:Addr} (y2:PySem.W.nsIn K mainGlobals "NoView"=some (some (.ref C2)))
  {C3:Addr} (y3:PySem.W.nsIn K mainGlobals "NoCount"=some (some (.ref C3)))
  {C4:Addr} (y4:PySem.W.nsIn K mainGlobals "NoPair"=some (some (.ref C4)))
  {C5:Addr} (y5:PySem.W.nsIn K mainGlobals "View"=some (some (.ref C5)))
  (o_NoPair:PySem.W.excIn K C4 [.type "ValueError",.type "Exception",.type "BaseException",.type "object"] "ValueError.__new__"=true)
  (x_NoPair_PaceError:PySem.W.exmOne K (.ref C4) (.ref C0)=some true)
  (ocs:PySem.W.specialIn K (.builtin "object.__class__") "__get__"=some (some (.builtin "getset_descriptor.__get__")))
  (oct:PySem.W.takesIn K (.builtin "object.__class__")=some true)
  (ga_NoPair:PySem.W.findIn K (.ref C4) "__getattribute__"=some (some (.builtin "BaseException.__getattribute__")))
  (gn_NoPair:PySem.W.findIn K (.ref C4) "__getattr__"=some none)
  (mb_NoPair:PySem.W.mroIn K C4 (.type "BaseException")=some true)
  (mo_NoPair:PySem.W.mroIn K C4 (.type "object")=some true)
  (fc_NoPair:PySem.W.findIn K (.ref C4) "__class__"=some (some (.builtin "object.__class__")))
  (hd_NoPair:PySem.W.hasDictIn K C4=true)
  (kc_NoPair_NoPair:PySem.W.hasDictIn K C4=true)
  (kt_NoPair_NoPair:PySem.W.typeIn K (.ref C4)=some (.type "type"))
  (ks_NoPair_NoPair:PySem.W.subIn K (.ref C4) (.ref C4)=some true)
  (kc_NoPair_NoView:PySem.W.hasDictIn K C2=true)
  (kt_NoPair_NoView:PySem.W.typeIn K (.ref C2)=some (.type "type"))
  (ks_NoPair_NoView:PySem.W.subIn K (.ref C4) (.ref C2)=some false)
  (kn_NoPair_NoView:(C4 == C2)=false)
  (ks_NoPair_ValueError:PySem.W.subIn K (.ref C4) (.type "ValueError")=some true)
  (kc_NoPair_NoCount:PySem.W.hasDictIn K C3=true)
  (kt_NoPair_NoCount:PySem.W.typeIn K (.ref C3)=some (.type "type"))
  (ks_NoPair_NoCount:PySem.W.subIn K (.ref C4) (.ref C3)=some false)
  (kn_NoPair_NoCount:(C4 == C3)=false)
  {f0:Addr} {d0:FuncData} (a0:PySem.W.nsIn K mainGlobals "is_whole"=some (some (.ref f0))) (F0:Fun K "is_whole" "is_whole" s_is_whole f0 d0)
  {f1:Addr} {d1:FuncData} (a1:PySem.W.nsIn K mainGlobals "is_number_below"=some (some (.ref f1))) (F1:Fun K "is_number_below" "is_number_below" s_is_number_below f1 d1)
  {f2:Addr} {d2:FuncData} (a2:PySem.W.nsIn K mainGlobals "is_place"=some (some (.ref f2))) (F2:Fun K "is_place" "is_place" s_is_place f2 d2)
  {f3:Addr} {d3:FuncData} (a3:PySem.W.nsIn K mainGlobals "is_within"=some (some (.ref f3))) (F3:Fun K "is_within" "is_within" s_is_within f3 d3)
  {f4:Addr} {d4:FuncData} (a4:PySem.W.nsIn K mainGlobals "is_size"=some (some (.ref f4))) (F4:Fun K "is_size" "is_size" s_is_size f4 d4)
  {f5:Addr} {d5:FuncData} (a5:PySem.W.nsIn K mainGlobals "is_axis"=some (some (.ref f5))) (F5:Fun K "is_axis" "is_axis" s_is_axis f5 d5)
  {f6:Addr} {d6:FuncData} (a6:PySem.W.nsIn K mainGlobals "are_axes"=some (some (.ref f6))) (F6:Fun K "are_axes" "are_axes" s_are_axes f6 d6)
  {f7:Addr} {d7:FuncData} (a7:PySem.W.nsIn K mainGlobals "kept_axis"=some (some (.ref f7))) (F7:Fun K "kept_axis" "kept_axis" s_kept_axis f7 d7)
  {f8:Addr} {d8:FuncData} (F8:Fun K "__init__" "View.__init__" s_View___init__ f8 d8)
  {f9:Addr} {d9:FuncData} (F9:Fun K "sizes" "View.sizes" s_View_sizes f9 d9)
  {f10:Addr} {d10:FuncData} (F10:Fun K "paces" "View.paces" s_View_paces f10 d10)
  {f11:Addr} {d11:FuncData} (F11:Fun K "cell" "View.cell" s_View_cell f11 d11)
  {f12:Addr} {d12:FuncData} (F12:Fun K "least" "View.least" s_View_least f12 d12)
  {f13:Addr} {d13:FuncData} (F13:Fun K "greatest" "View.greatest" s_View_greatest f13 d13)
  {f14:Addr} {d14:FuncData} (a14:PySem.W.nsIn K mainGlobals "refuse_rooms"=some (some (.ref f14))) (F14:Fun K "refuse_rooms" "refuse_rooms" s_refuse_rooms f14 d14)
  {f15:Addr} {d15:FuncData} (a15:PySem.W.nsIn K mainGlobals "pulls"=some (some (.ref f15))) (F15:Fun K "pulls" "pulls" s_pulls f15 d15)
  {f16:Addr} {d16:FuncData} (a16:PySem.W.nsIn K mainGlobals "gathered"=some (some (.ref f16))) (F16:Fun K "gathered" "gathered" s_gathered f16 d16)
  {f17:Addr} {d17:FuncData} (a17:PySem.W.nsIn K mainGlobals "_law_draw"=some (some (.ref f17))) (F17:Fun K "_law_draw" "_law_draw" s__law_draw f17 d17)
  {f18:Addr} {d18:FuncData} (a18:PySem.W.nsIn K mainGlobals "_law_whole"=some (some (.ref f18))) (F18:Fun K "_law_whole" "_law_whole" s__law_whole f18 d18)
  {f19:Addr} {d19:FuncData} (a19:PySem.W.nsIn K mainGlobals "_law_axes"=some (some (.ref f19))) (F19:Fun K "_law_axes" "_law_axes" s__law_axes f19 d19)
  {f20:Addr} {d20:FuncData} (a20:PySem.W.nsIn K mainGlobals "_law_great"=some (some (.ref f20))) (F20:Fun K "_law_great" "_law_great" s__law_great f20 d20)
  {f21:Addr} {d21:FuncData} (a21:PySem.W.nsIn K mainGlobals "_law_placed"=some (some (.ref f21))) (F21:Fun K "_law_placed" "_law_placed" s__law_placed f21 d21)
  {f22:Addr} {d22:FuncData} (a22:PySem.W.nsIn K mainGlobals "_law_terms"=some (some (.ref f22))) (F22:Fun K "_law_terms" "_law_terms" s__law_terms f22 d22)
  {f23:Addr} {d23:FuncData} (a23:PySem.W.nsIn K mainGlobals "_law_told"=some (some (.ref f23))) (F23:Fun K "_law_told" "_law_told" s__law_told f23 d23)
  {f24:Addr} {d24:FuncData} (a24:PySem.W.nsIn K mainGlobals "_law_turned"=some (some (.ref f24))) (F24:Fun K "_law_turned" "_law_turned" s__law_turned f24 d24)
  {f25:Addr} {d25:FuncData} (a25:PySem.W.nsIn K mainGlobals "_law_sums"=some (some (.ref f25))) (F25:Fun K "_law_sums" "_law_sums" s__law_sums f25 d25)
  {f26:Addr} {d26:FuncData} (a26:PySem.W.nsIn K mainGlobals "_law_cells"=some (some (.ref f26))) (F26:Fun K "_law_cells" "_law_cells" s__law_cells f26 d26)
  {f27:Addr} {d27:FuncData} (a27:PySem.W.nsIn K mainGlobals "_law_differences"=some (some (.ref f27))) (F27:Fun K "_law_differences" "_law_differences" s__law_differences f27 d27)
  {f28:Addr} {d28:FuncData} (a28:PySem.W.nsIn K mainGlobals "_law_refused"=some (some (.ref f28))) (F28:Fun K "_law_refused" "_law_refused" s__law_refused f28 d28)
  {f29:Addr} {od29 an29:Option Addr} {sl29:Array (Option Value)} {oc29 kV29 dc29 pm29 cd29 ct29:Value}
  (a29:PySem.W.nsIn K mainGlobals "law"=some (some (.ref f29))) (l29:K.lookup f29=some ⟨oc29,od29,.func (PySem.W.fnOf "law" "law" (defArgs s_law) (defBody s_law) (defScope s_law) .none kV29 dc29 pm29 an29 cd29 ct29),sl29⟩)
  (c29:PySem.W.codeIn K cd29 "law"=true) (k29:PySem.W.keepIn K (.ref f29)=true)
  (pg_View:PySem.W.plainGet K C5 Str.empty=true)
  (hd_View:PySem.W.hasDictIn K C5=true)
  (po_View:PySem.W.plainOver K C5=true)
  (sa_View:PySem.W.findIn K (.ref C5) "__setattr__"=some (some (.builtin "object.__setattr__")))
  (nf_View_axes:PySem.W.findIn K (.ref C5) "axes"=some none)
  (nf_View_first:PySem.W.findIn K (.ref C5) "first"=some none)
  (nf_View_room:PySem.W.findIn K (.ref C5) "room"=some none)
  (fi_View___init__:PySem.W.findIn K (.ref C5) "__init__"=some (some (.ref f8)))
  (fn_View___init__:PySem.W.isFn K (.ref f8)=true)
  (mm_View:PySem.W.makesIn K C5=true)
  (ck_View:PySem.W.keepIn K (.ref C5)=true)
  (fi_View_sizes:PySem.W.findIn K (.ref C5) "sizes"=some (some (.ref f9)))
  (fn_View_sizes:PySem.W.isFn K (.ref f9)=true)
  (fi_View_paces:PySem.W.findIn K (.ref C5) "paces"=some (some (.ref f10)))
  (fn_View_paces:PySem.W.isFn K (.ref f10)=true)
  (fi_View_cell:PySem.W.findIn K (.ref C5) "cell"=some (some (.ref f11)))
  (fn_View_cell:PySem.W.isFn K (.ref f11)=true)
  (fi_View_least:PySem.W.findIn K (.ref C5) "least"=some (some (.ref f12)))
  (fn_View_least:PySem.W.isFn K (.ref f12)=true)
  (fi_View_greatest:PySem.W.findIn K (.ref C5) "greatest"=some (some (.ref f13)))
  (fn_View_greatest:PySem.W.isFn K (.ref f13)=true)
  {tk0:Tok} (w0:PySem.W.nsIn K mainGlobals "MOST_ROOM"=some (some (.int 1000000000000000000 tk0)))
  {tk1:Tok} (w1:PySem.W.nsIn K mainGlobals "MOST_SIZE"=some (some (.int 1000000000 tk1)))
  {tk2:Tok} (w2:PySem.W.nsIn K mainGlobals "MOST_AXES"=some (some (.int 8 tk2)))
  (z0:PySem.W.nsIn K mainGlobals "ValueError"=some none)
  (z1:PySem.W.nsIn K mainGlobals "abs"=some none)
  (z2:PySem.W.nsIn K mainGlobals "all"=some none)
  (z3:PySem.W.nsIn K mainGlobals "bool"=some none)
  (z4:PySem.W.nsIn K mainGlobals "int"=some none)
  (z5:PySem.W.nsIn K mainGlobals "isinstance"=some none)
  (z6:PySem.W.nsIn K mainGlobals "len"=some none)
  (z7:PySem.W.nsIn K mainGlobals "list"=some none)
  (z8:PySem.W.nsIn K mainGlobals "max"=some none)
  (z9:PySem.W.nsIn K mainGlobals "min"=some none)
  (z10:PySem.W.nsIn K mainGlobals "range"=some none)
  (z11:PySem.W.nsIn K mainGlobals "sorted"=some none)
  (z12:PySem.W.nsIn K mainGlobals "sum"=some none)
  (z13:PySem.W.nsIn K mainGlobals "tuple"=some none)
  (z14:PySem.W.nsIn K mainGlobals "zip"=some none)
  : ∃ fd:FuncData,(∀ (s:Shared) (v:Value),BindsTo s fd ⟨[v],[]⟩ [("_law_script",v)])∧∀ base:Heap,K.In base->base.Ns mainGlobals mg->FnOk l.prog w K mg base CX0 9 fa fd ["_law_script"] (spLaw K):=by
 have e:=hfa.symm.trans (PySem.W.mg_of X G a29)
 cases e
 have F29:=fun_mk (st:=s_law) l29 c29 k29
 have T:Tx K mg ⟨C0,C1,C2,C3,C4,C5,f0,_,f1,_,f2,_,f3,_,f4,_,f5,_,f6,_,f7,_,f8,_,f9,_,f10,_,f11,_,f12,_,f13,_,f14,_,f15,_,f16,_,f17,_,f18,_,f19,_,f20,_,f21,_,f22,_,f23,_,f24,_,f25,_,f26,_,f27,_,f28,_,fa,_⟩:=⟨PySem.W.mg_of X G y0,PySem.W.mg_of X G y1,PySem.W.mg_of X G y2,PySem.W.mg_of X G y3,PySem.W.mg_of X G y4,PySem.W.mg_of X G y5,o_NoPair,x_NoPair_PaceError,ocs,oct,ga_NoPair,gn_NoPair,mb_NoPair,mo_NoPair,fc_NoPair,hd_NoPair,kc_NoPair_NoPair,kt_NoPair_NoPair,ks_NoPair_NoPair,kc_NoPair_NoView,kt_NoPair_NoView,ks_NoPair_NoView,kn_NoPair_NoView,ks_NoPair_ValueError,kc_NoPair_NoCount,kt_NoPair_NoCount,ks_NoPair_NoCount,kn_NoPair_NoCount,⟨_,PySem.W.mg_of X G w0⟩,⟨_,PySem.W.mg_of X G w1⟩,⟨_,PySem.W.mg_of X G w2⟩,⟨pg_View,hd_View,po_View,sa_View⟩,nf_View_axes,nf_View_first,nf_View_room,⟨mm_View,fi_View___init__,fn_View___init__,ck_View⟩,⟨fi_View_sizes,fn_View_sizes,F9.kp⟩,⟨fi_View_paces,fn_View_paces,F10.kp⟩,⟨fi_View_cell,fn_View_cell,F11.kp⟩,⟨fi_View_least,fn_View_least,F12.kp⟩,⟨fi_View_greatest,fn_View_greatest,F13.kp⟩,F0,PySem.W.mg_of X G a0,F0.binds (ps:=["thing"]) (fun _ _ _ _ _ _=>len1 (fun _=>rfl)),F1,PySem.W.mg_of X G a1,F1.binds (ps:=["thing", "bound"]) (fun _ _ _ _ _ _=>len2 (fun _ _=>rfl)),F2,PySem.W.mg_of X G a2,F2.binds (ps:=["sizes", "thing"]) (fun _ _ _ _ _ _=>len2 (fun _ _=>rfl)),F3,PySem.W.mg_of X G a3,F3.binds (ps:=["thing", "low", "high"]) (fun _ _ _ _ _ _=>len3 (fun _ _ _=>rfl)),F4,PySem.W.mg_of X G a4,F4.binds (ps:=["thing"]) (fun _ _ _ _ _ _=>len1 (fun _=>rfl)),F5,PySem.W.mg_of X G a5,F5.binds (ps:=["thing"]) (fun _ _ _ _ _ _=>len1 (fun _=>rfl)),F6,PySem.W.mg_of X G a6,F6.binds (ps:=["thing"]) (fun _ _ _ _ _ _=>len1 (fun _=>rfl)),F7,PySem.W.mg_of X G a7,F7.binds (ps:=["axis"]) (fun _ _ _ _ _ _=>len1 (fun _=>rfl)),F8,F8.binds (ps:=["self", "room", "first", "axes"]) (fun _ _ _ _ _ _=>len4 (fun _ _ _ _=>rfl)),F9,F9.binds (ps:=["self"]) (fun _ _ _ _ _ _=>len1 (fun _=>rfl)),F10,F10.binds (ps:=["self"]) (fun _ _ _ _ _ _=>len1 (fun _=>rfl)),F11,F11.binds (ps:=["self", "place"]) (fun _ _ _ _ _ _=>len2 (fun _ _=>rfl)),F12,F12.binds (ps:=["self"]) (fun _ _ _ _ _ _=>len1 (fun _=>rfl)),F13,F13.binds (ps:=["self"]) (fun _ _ _ _ _ _=>len1 (fun _=>rfl)),F14,PySem.W.mg_of X G a14,F14.binds (ps:=["one", "other"]) (fun _ _ _ _ _ _=>len2 (fun _ _=>rfl)),F15,PySem.W.mg_of X G a15,F15.binds (ps:=["one", "other"]) (fun _ _ _ _ _ _=>len2 (fun _ _=>rfl)),F16,PySem.W.mg_of X G a16,F16.binds (ps:=["one", "other"]) (fun _ _ _ _ _ _=>len2 (fun _ _=>rfl)),F17,PySem.W.mg_of X G a17,F17.binds (ps:=["_law_script", "_law_k", "_law_many"]) (fun _ _ _ _ _ _=>len3 (fun _ _ _=>rfl)),F18,PySem.W.mg_of X G a18,F18.binds (ps:=["_law_found"]) (fun _ _ _ _ _ _=>len1 (fun _=>rfl)),F19,PySem.W.mg_of X G a19,F19.binds (ps:=["_law_script", "_law_at", "_law_factor"]) (fun _ _ _ _ _ _=>len3 (fun _ _ _=>rfl)),F20,PySem.W.mg_of X G a20,F20.binds (ps:=["_law_script", "_law_at", "_law_pool"]) (fun _ _ _ _ _ _=>len3 (fun _ _ _=>rfl)),F21,PySem.W.mg_of X G a21,F21.binds (ps:=["_law_one", "_law_other", "_law_goal", "_law_low", "_law_more"]) (fun _ _ _ _ _ _=>len5 (fun _ _ _ _ _=>rfl)),F22,PySem.W.mg_of X G a22,F22.binds (ps:=["_law_one", "_law_other"]) (fun _ _ _ _ _ _=>len2 (fun _ _=>rfl)),F23,PySem.W.mg_of X G a23,F23.binds (ps:=["_law_found", "_law_terms_here", "_law_goal"]) (fun _ _ _ _ _ _=>len3 (fun _ _ _=>rfl)),F24,PySem.W.mg_of X G a24,F24.binds (ps:=["_law_terms_here"]) (fun _ _ _ _ _ _=>len1 (fun _=>rfl)),F25,PySem.W.mg_of X G a25,F25.binds (ps:=["_law_terms_here"]) (fun _ _ _ _ _ _=>len1 (fun _=>rfl)),F26,PySem.W.mg_of X G a26,F26.binds (ps:=["_law_first", "_law_axes_here"]) (fun _ _ _ _ _ _=>len2 (fun _ _=>rfl)),F27,PySem.W.mg_of X G a27,F27.binds (ps:=["_law_one", "_law_other"]) (fun _ _ _ _ _ _=>len2 (fun _ _=>rfl)),F28,PySem.W.mg_of X G a28,F28.binds (ps:=["_law_one", "_law_other"]) (fun _ _ _ _ _ _=>len2 (fun _ _=>rfl)),F29,PySem.W.mg_of X G a29,F29.binds (ps:=["_law_script"]) (fun _ _ _ _ _ _=>len1 (fun _=>rfl)),PySem.W.mg_none_of X G z0,PySem.W.mg_none_of X G z1,PySem.W.mg_none_of X G z2,PySem.W.mg_none_of X G z3,PySem.W.mg_none_of X G z4,PySem.W.mg_none_of X G z5,PySem.W.mg_none_of X G z6,PySem.W.mg_none_of X G z7,PySem.W.mg_none_of X G z8,PySem.W.mg_none_of X G z9,PySem.W.mg_none_of X G z10,PySem.W.mg_none_of X G z11,PySem.W.mg_none_of X G z12,PySem.W.mg_none_of X G z13,PySem.W.mg_none_of X G z14⟩
 exact ⟨PySem.W.fnOf "law" "law" (defArgs s_law) (defBody s_law) (defScope s_law) .none kV29 dc29 pm29 an29 cd29 ct29,fun s v=>.of_eq rfl,fun base _ _=>ok_law T⟩
theorem walk {l:PySem.W.OpenLaw}{q:Program}{loose:List Str}{XP:(Str->Option Value)->Heap->Prop}{YP:World->Heap->Prop}{d:DefRec}{K:Params->PySem.W.Frag}(hn:l.most=some 63) (hdf:d.params.defaults=[])
  (hY:∀ (w:World) (h:Heap),YP w h->(K w.params).In h)
  (F:∀ (w:World) (mg:Str->Option Value) (fa:Addr) (h:Heap),(K w.params).In h->h.Ns mainGlobals mg->mg d.name=some (.ref fa) →
   ∃ fd:FuncData,(∀ (s:Shared) (u:Value),BindsTo s fd ⟨[u],[]⟩ [("_law_script",u)])∧∀ base:Heap,(K w.params).In base->base.Ns mainGlobals mg->FnOk l.prog w (K w.params) mg base CX0 9 fa fd ["_law_script"] (spLaw (K w.params))) :
  PySem.W.WalkO q loose XP YP l.row.toRowW d [] (fun f vs=>PySem.call f vs):=
 L2.walk_of (n:=63) (k:=9) (x := "_law_script") (CX:=fun _=>CX0) (sp:=fun w=>spLaw (K w.params)) hn (by decide) hdf ⟨rfl,by decide,by decide,rfl⟩ hY F (fun _ _ a ns hl _ hS=>⟨a,rfl,ns,hS,hl,fun _=>rfl⟩) fun _ _ _ _ _ z=>z
end PH
namespace PySem.W.Fast
def tw5535009485470795699:=0
def tw1362580657188766971:=0
def tw10556102942731852374:=0
def tw17397418953499374268:=0
def tw3423504647965861014:=0
def tw3099784429212023468:=0
def tw7515888754583994884:=0
def tw13444565405988727622:=0
def tw2005416921502405996:=0
def tw7795548342086490059:=0
def tw4152377084617386574:=0
def tw393107006597587702:=0
def tw17693698469674919596:=0
def tw947459889151950456:=0
def tw10074370529999712343:=0
def tw9986425723373359141:=0
def tw295477205793206226:=0
def tw8349071510400663088:=0
def tw12832381996960991980:=0
def tw9255701007043576058:=0
def tw562428070273584583:=0
def tw6575439849624683153:=0
def tw14300976290277433470:=0
def tw16652641309280747425:=0
def tw16256641144635056304:=0
def tw7899404838002224163:=0
def tw10650016126338955920:=0
def tw15205067903684431855:=0
def tw14563808996007007594:=0
def tw12374482621633284744:=0
def tw9863762876187739105:=0
def tw10344058429832124460:=0
def tw18146395473151929082:=0
def tw5079407090155563792:=0
def tw5539656862147659995:=0
def tw3279127054602331980:=0
def tw2617412922770114500:=0
def tw17247299538605807780:=0
def tw18078907488872691860:=0
def tw1731411821928050070:=0
def tw18250739063103798243:=0
def tw2442973804014067804:=0
def tw10885527208858217995:=0
def tw15059256276120579767:=0
def tw4599899158085683395:=0
def tw8256684783540943570:=0
def tw566830798201505047:=0
def tw15685384760448595206:=0
def tw2103812307016300600:=0
def tw2156870775111740779:=0
def tw14002659479352186911:=0
def tw14329361972123558855:=0
def tw14791930377014599878:=0
def tw17429931141971892760:=0
def tw15584210562816439189:=0
def tw1273712701482591099:=0
def tw4675453817100987103:=0
def tw8517386857985375780:=0
def tw9909487189407112290:=0
def tw3440831678728101350:=0
def tw2513034949278214631:=0
def tw17194579347577989896:=0
def tw8726790164973074778:=0
def tw17190911753561457766:=0
def tw17825863008764652529:=0
def tw2903255063496494365:=0
def tw8973847819091898325:=0
def tw3676093858420235127:=0
def tw5526967842758283847:=0
def tw10575644722055549856:=0
def tw7887615563273016988:=0
def tw4308991625078828064:=0
def tw15780788770905831193:=0
def tw2822393035975286845:=0
def tw1626653766152983566:=0
def tw12312938838585448213:=0
def tw7350015407693304759:=0
def tw4473292121097036462:=0
def tw14906736839304147517:=0
def tw11633049291939729094:=0
def tw14125295957336567142:=0
def tw1871026941222708292:=0
end PySem.W.Fast
open PySem PySem.W PyProof.Rows
set_option maxRecDepth 100000 in
set_option maxHeartbeats 0 in
theorem PySem.Challenge.cw_pacehall_k51_gathered_holds : PySem.Challenge.rw_pacehall_k51_gathered.Holds := by
 w_on;o_law;k_head;(case hw=>w_witness2)
 k_fill
 refine PH.walk (l:=PySem.Challenge.rw_pacehall_k51_gathered) rfl rfl (fun w h Y=>PySem.W.kIn_of Y) ?F
 case F=>
  intro w mg fa h KX G hmg
  refine' PH.all_mk KX G hmg ?y0 ?y1 ?y2 ?y3 ?y4 ?y5 ?o_NoPair ?x_NoPair_PaceError ?ocs ?oct ?ga_NoPair ?gn_NoPair ?mb_NoPair ?mo_NoPair ?fc_NoPair ?hd_NoPair ?kc_NoPair_NoPair ?kt_NoPair_NoPair ?ks_NoPair_NoPair ?kc_NoPair_NoView ?kt_NoPair_NoView ?ks_NoPair_NoView ?kn_NoPair_NoView ?ks_NoPair_ValueError ?kc_NoPair_NoCount ?kt_NoPair_NoCount ?ks_NoPair_NoCount ?kn_NoPair_NoCount ?a0 ?F0 ?a1 ?F1 ?a2 ?F2 ?a3 ?F3 ?a4 ?F4 ?a5 ?F5 ?a6 ?F6 ?a7 ?F7 ?F8 ?F9 ?F10 ?F11 ?F12 ?F13 ?a14 ?F14 ?a15 ?F15 ?a16 ?F16 ?a17 ?F17 ?a18 ?F18 ?a19 ?F19 ?a20 ?F20 ?a21 ?F21 ?a22 ?F22 ?a23 ?F23 ?a24 ?F24 ?a25 ?F25 ?a26 ?F26 ?a27 ?F27 ?a28 ?F28 ?a29 ?l29 ?c29 ?k29 ?pg_View ?hd_View ?po_View ?sa_View ?nf_View_axes ?nf_View_first ?nf_View_room ?fi_View___init__ ?fn_View___init__ ?mm_View ?ck_View ?fi_View_sizes ?fn_View_sizes ?fi_View_paces ?fn_View_paces ?fi_View_cell ?fn_View_cell ?fi_View_least ?fn_View_least ?fi_View_greatest ?fn_View_greatest ?w0 ?w1 ?w2 ?z0 ?z1 ?z2 ?z3 ?z4 ?z5 ?z6 ?z7 ?z8 ?z9 ?z10 ?z11 ?z12 ?z13 ?z14
  (case y0|y1|y2|y3|y4|y5|fi_View___init__|fi_View_sizes|fi_View_paces|fi_View_cell|fi_View_least|fi_View_greatest=>first|k_is|k_exc|kts_exm|decide|rfl|decide +kernel|kernel_rfl)
  (case a0|a1|a2|a3|a4|a5|a6|a7|a14|a15|a16|a17=>first|k_is|k_exc|kts_exm|decide|rfl|decide +kernel|kernel_rfl)
  (case a18|a19|a20|a21|a22|a23|a24|a25|a26|a27|a28|a29=>first|k_is|k_exc|kts_exm|decide|rfl|decide +kernel|kernel_rfl)
  (case F0|F1|F2|F3|F4|F5|F6|F7|F8|F9|F10|F11=>(refine' L2.fun_mk ?l ?c ?k;(case l|c|k=>first|k_is|k_exc|kts_exm|decide|rfl|decide +kernel|kernel_rfl)))
  (case F12|F13|F14|F15|F16|F17|F18|F19|F20|F21|F22|F23=>(refine' L2.fun_mk ?l ?c ?k;(case l|c|k=>first|k_is|k_exc|kts_exm|decide|rfl|decide +kernel|kernel_rfl)))
  (case F24|F25|F26|F27|F28=>(refine' L2.fun_mk ?l ?c ?k;(case l|c|k=>first|k_is|k_exc|kts_exm|decide|rfl|decide +kernel|kernel_rfl)))
  (case o_NoPair|x_NoPair_PaceError|ocs|oct|ga_NoPair|gn_NoPair|mb_NoPair|mo_NoPair|fc_NoPair|hd_NoPair|kc_NoPair_NoPair|kt_NoPair_NoPair=>first|k_is|k_exc|kts_exm|decide|rfl|decide +kernel|kernel_rfl)
  (case ks_NoPair_NoPair|kc_NoPair_NoView|kt_NoPair_NoView|ks_NoPair_NoView|kn_NoPair_NoView|ks_NoPair_ValueError|kc_NoPair_NoCount|kt_NoPair_NoCount|ks_NoPair_NoCount|kn_NoPair_NoCount|l29|c29=>first|k_is|k_exc|kts_exm|decide|rfl|decide +kernel|kernel_rfl)
  (case k29|pg_View|hd_View|po_View|sa_View|nf_View_axes|nf_View_first|nf_View_room|fn_View___init__|mm_View|ck_View|fn_View_sizes=>first|k_is|k_exc|kts_exm|decide|rfl|decide +kernel|kernel_rfl)
  (case fn_View_paces|fn_View_cell|fn_View_least|fn_View_greatest|w0|w1|w2|z0|z1|z2|z3|z4=>first|k_is|k_exc|kts_exm|decide|rfl|decide +kernel|kernel_rfl)
  (case z5|z6|z7|z8|z9|z10|z11|z12|z13|z14=>first|k_is|k_exc|kts_exm|decide|rfl|decide +kernel|kernel_rfl)
#print axioms PySem.Challenge.cw_pacehall_k51_gathered_holds