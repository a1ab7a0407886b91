import PyProof.Rows.All
import Wide.All
import OpenK.AllK
import Wide.FinOn
import Lean
import PyProof.EqAt
import PyProof.EqKinds
import PyProof.TupleCall
import PySem.Challenge.RW_pacehall_k92_no_move_in_words
-- CHANGE: your row's module here, as the last of these rows
set_option Elab.async false
set_option linter.all false
set_option maxRecDepth 100000
namespace L2
open PySem PySem.Spec PyProof.Rows
abbrev Key:=Sum Int Str
def keyIs:Key->Value->Bool
 | .inl k,v=>Value.isInt k v
 | .inr x,v=>Value.isStrOf x v
def keyH (w:World):Key->Int
 | .inl k=>hashInt k
 | .inr x=>hashStr w x
theorem keyIs_shape:∀ {k:Key}{v:Value},keyIs k v=true->(∃ i t,k=Sum.inl i∧v=Value.int i t)∨(∃ x t,k=Sum.inr x∧v=Value.str x t)
 | .inl i,v,h=>by
  obtain ⟨t,e⟩:=Value.isInt_shape (k:=i) (v:=v) h
  exact .inl ⟨i,t,rfl,e⟩
 | .inr x,v,h=>by
  obtain ⟨t,e⟩:=Value.isStrOf_shape (x:=x) (v:=v) h
  exact .inr ⟨x,t,rfl,e⟩
theorem keyIs_int (i:Int) (t:Tok):keyIs (.inl i) (.int i t)=true:=by simp [keyIs,Value.isInt]
theorem keyIs_str (x:Str) (t:Tok):keyIs (.inr x) (.str x t)=true:=by simp [keyIs,Value.isStrOf]
theorem key_ll (a b:Int):decide ((Sum.inl a:Key)=Sum.inl b)=(a == b):=by
 by_cases e:a=b
 ·subst e;simp
 ·have h:¬ (Sum.inl a:Key)=Sum.inl b:=fun q=>e (Sum.inl.inj q)
  rw [decide_eq_false h]
  exact (beq_eq_false_iff_ne.mpr e).symm
theorem key_rr (a b:Str):decide ((Sum.inr a:Key)=Sum.inr b)=decide (a=b):=by
 by_cases e:a=b
 ·subst e;simp
 ·have h:¬ (Sum.inr a:Key)=Sum.inr b:=fun q=>e (Sum.inr.inj q)
  rw [decide_eq_false h,decide_eq_false e]
theorem key_lr (a:Int) (b:Str):decide ((Sum.inl a:Key)=Sum.inr b)=false:=decide_eq_false (fun q=>nomatch q)
theorem key_rl (a:Str) (b:Int):decide ((Sum.inr a:Key)=Sum.inl b)=false:=decide_eq_false (fun q=>nomatch q)
def mixKind (prog:Program) (w:World):PySem.KeyKind prog w Key where
 is:=keyIs
 hash:=keyH w
 inj:=fun v a b ha hb=>by
  rcases keyIs_shape ha with ⟨i,t,rfl,rfl⟩|⟨x,t,rfl,rfl⟩
  ·rcases keyIs_shape hb with ⟨j,u,rfl,e⟩|⟨y,u,rfl,e⟩
   ·injection e with e1 _;rw [e1]
   ·exact nomatch e
  ·rcases keyIs_shape hb with ⟨j,u,rfl,e⟩|⟨y,u,rfl,e⟩
   ·exact nomatch e
   ·injection e with e1 _;rw [e1]
 byValue:=fun k v h=>by
  rcases keyIs_shape h with ⟨i,t,rfl,rfl⟩|⟨x,t,rfl,rfl⟩<;>rfl
 pyHash:=fun hv h=>by
  rcases keyIs_shape hv with ⟨i,t,rfl,rfl⟩|⟨x,t,rfl,rfl⟩
  ·exact wpAny_pyHash_int h
  ·exact wpAny_pyHash_str h
 eqBool:=fun hu hv h=>by
  rcases keyIs_shape hu with ⟨i,t,rfl,rfl⟩|⟨x,t,rfl,rfl⟩
  ·rcases keyIs_shape hv with ⟨j,u,rfl,rfl⟩|⟨y,u,rfl,rfl⟩
   ·rw [key_ll] at h;exact wpAny_eqBool_int h
   ·rw [key_lr] at h;exact SeqAt.EqAt.int_str i t y u _ _ _ _ h
  ·rcases keyIs_shape hv with ⟨j,u,rfl,rfl⟩|⟨y,u,rfl,rfl⟩
   ·rw [key_rl] at h;exact SeqAt.EqAt.str_int x t j u _ _ _ _ h
   ·rw [key_rr] at h;exact wpAny_eqBool_str h
 «strs»:=fun k x t v h=>by
  rcases keyIs_shape h with ⟨i,u,rfl,e⟩|⟨y,u,rfl,e⟩
  ·exact nomatch e
  ·injection e with e1 _
   subst e1
   cases v<;>rfl
theorem mixKind_int (prog:Program) (w:World) (i:Int) (t:Tok):(mixKind prog w).is (.inl i) (.int i t)=true:=keyIs_int i t
theorem mixKind_str (prog:Program) (w:World) (x:Str) (t:Tok):(mixKind prog w).is (.inr x) (.str x t)=true:=keyIs_str x t
end L2
namespace L2
open PySem PySem.Spec PyProof.Rows
inductive V where
 | non|bl (b:Bool)|int (i:Int)|str (x:Str)|byt (b:Array UInt8)|flt (b:UInt64)|ref (a:Addr)|ty (n:String)
 deriving DecidableEq
def RelV:V->Value->Prop
 | .non,u=>u=Value.none
 | .bl b,u=>u=Value.bool b
 | .int i,u=>∃ t,u=Value.int i t
 | .str x,u=>∃ t,u=Value.str x t
 | .byt b,u=>∃ t,u=Value.bytes b t
 | .flt b,u=>∃ t,u=Value.float b t
 | .ref a,u=>u=Value.ref a
 | .ty n,u=>u=Value.type n
abbrev Vals:List V->List Value->Prop:=Paired RelV
theorem Vals.length {xs:List V}{us:List Value}(r:Vals xs us):xs.length=us.length:=Paired.length r
theorem Vals.get:∀ {xs:List V}{us:List Value}{i:Nat}{x:V},Vals xs us->xs[i]? = some x->∃ u,us[i]? = some u∧RelV x u
 | _,_,_,_,.nil,e=>by simp at e
 | _,_,0,_,.cons r _,e=>by simp at e;subst e;exact ⟨_,rfl,r⟩
 | _,_,i+1,x,.cons _ t,e=>by
  obtain ⟨u,h1,h2⟩:=Vals.get (i:=i) (x:=x) t (by simpa using e)
  exact ⟨u,by simpa using h1,h2⟩
theorem Vals.set {x:V}{u:Value}(r:RelV x u):∀ {xs:List V}{us:List Value}(i:Nat),Vals xs us->Vals (xs.set i x) (us.set i u)
 | _,_,_,.nil=>.nil
 | _,_,0,.cons _ t=>.cons r t
 | _,_,i+1,.cons q t=>.cons q (Vals.set r i t)
theorem Vals.append:∀ {xs ys:List V}{us ws:List Value},Vals xs us->Vals ys ws->Vals (xs++ys) (us++ws)
 | _,_,_,_,.nil,s=>s
 | _,_,_,_,.cons r t,s=>.cons r (Vals.append t s)
theorem Vals.take:∀ {xs:List V}{us:List Value}(n:Nat),Vals xs us->Vals (xs.take n) (us.take n)
 | _,_,0,_=>.nil
 | _,_,_+1,.nil=>.nil
 | _,_,n+1,.cons r t=>.cons r (Vals.take n t)
theorem Vals.drop:∀ {xs:List V}{us:List Value}(n:Nat),Vals xs us->Vals (xs.drop n) (us.drop n)
 | _,_,0,r=>r
 | _,_,_+1,.nil=>.nil
 | _,_,n+1,.cons _ t=>Vals.drop n t
def RelO:Option V->Option Value->Prop
 | some v,some u=>RelV v u
 | none,none=>True
 | _,_=>False
def KV {κ:Type}:List (κ × V)->List (κ × Value)->Prop:=Paired fun (p:κ × V) (q:κ × Value)=>p.1=q.1∧RelV p.2 q.2
def kV:Key->V
 | .inl i=>.int i
 | .inr x=>.str x
inductive HO where
 | lst (xs:List V)
 | tup (xs:List V)
 | dK (kvs:List (Key × V))|dT (kvs:List (List Key × V))
 | set (S:Int->Bool) (n:Nat)
 | ins (C dx:Addr) (fs:List (Str × V))
 | own (x:Addr)
 | xd (fs:List (Str × V))
 | met (f x:Addr)
 | rng (lo hi:Int)
 | frz (o:Obj) (u:HO)
 | tbl (ps:Array Value)
 | cod (q:Str)
 | ext (φ:Heap->Prop)
abbrev Hp:=Addr->Option HO
def upd (H:Hp) (a:Addr) (o:HO):Hp:=fun b=>if b=a then some o else H b
theorem upd_same {H:Hp}{a:Addr}{o:HO}:upd H a o a=some o:=by unfold upd;rw [if_pos rfl]
theorem upd_ne {H:Hp}{a b:Addr}{o:HO}(h:b ≠ a):upd H a o b=H b:=by unfold upd;rw [if_neg h]
theorem upd_upd {H:Hp}{a:Addr}{o u:HO}:upd (upd H a o) a u=upd H a u:=by
 funext b;unfold upd;split<;>rfl
theorem ne_of_none {H:Hp}{a b:Addr}{o:HO}(h:H a=some o) (h':H b=none):a ≠ b:=by
 intro e;subst e;rw [h] at h';cases h'
section
variable (P:Program) (w:World)
def ObjOk (H:Hp) (h:Heap) (a:Addr):HO->Prop
 | .lst xs=>xs.length≤sizeLine∧∃ (its:List Value) (n:Nat),Vals xs its∧h.get? a=some { cls:=.type "list",data:=.seq its.toArray n }
 | .tup xs=>xs.length≤sizeLine∧∃ its:List Value,Vals xs its∧IsTup h a its.toArray
 | .dK kvs=>kvs.length≤sizeLine∧(a == sysModules)=false∧∃ vs,KV kvs vs∧h.DictOf (mixKind P w) a vs
 | .dT kvs=>kvs.length≤sizeLine∧(a == sysModules)=false∧∃ xs:List (List Key × Addr × Value),
   Paired (fun (p:List Key × V) (q:List Key × Addr × Value)=>p.1=q.1∧H q.2.1=some (.tup (p.1.map kV))∧RelV p.2 q.2.2) kvs xs ∧
   ∃ o es ep,h.get? a=some o∧o.ExactDict∧o.data=.dict es ep∧es.toList=xs.map (entryOfKey (tupleKind (mixKind P w)))∧(xs.map (·.1)).Nodup
 | .set S n=>h.SetOf (intKind P w) a S n
 | .ins C dx fs=>H dx=some (.own a)∧fs.length≤1000∧dx ≠ a∧h.get? a=some (PySem.W.instObj C dx) ∧
   ∃ mA,h.Ns1 dx mA∧(∀ f,RelO (fs.lookup f) (mA f))∧PySem.Within mA (fs.map (·.1))
 | .own _=>∃ o,h.get? a=some o
 | .xd fs=>∃ mA,h.Ns1 a mA∧∀ f,RelO (fs.lookup f) (mA f)
 | .rng lo hi=>∃ t u v,h.get? a=some { cls:=.type "range",data:=.fields #[.int lo t,.int hi u,.int 1 v] }
 | .frz o u=>h.get? a=some o∧ObjOk H h a u
 | .tbl ps=>∃ (q:Str) (t:Tok) (qs:Array Value),ps=#[.str q t]∧h.get? a=some { cls:=.none,data:=.fields qs }∧TriplesOk qs.toList∧∀ (pos:Pos) (cv:Value),codeAmong pos qs.toList=some cv->∃ c:Addr,cv=.ref c∧H c=some (.cod q)
 | .cod q=>∃ (o:Obj) (vs:Array Value) (t:Tok),h.get? a=some o∧o.data=.fields vs∧vs[1]? = some (.str q t)
 | .met f x=>h.get? a=some (PySem.W.methodObj (.ref f) (.ref x))
 | .ext φ=>φ h∧(∃ o,h.get? a=some o)∧∀ h1 h2:Heap,φ h1->(∀ o,h1.get? a=some o->h2.get? a=some o)->φ h2
def HOk (H:Hp) (h:Heap):Prop:=∀ a o,H a=some o->ObjOk P w H h a o
end
section
variable {P:Program}{w:World}{H H':Hp}{h h':Heap}{a:Addr}{o:HO}
theorem ObjOk.lt (x:ObjOk P w H h a o):a < h.objs.size:=by
 cases o with
 | lst xs=>obtain ⟨_,_,_,_,e⟩:=x;exact Heap.lt_size e
 | tup xs=>obtain ⟨_,_,_,p⟩:=x;exact p.lt
 | dK kvs=>obtain ⟨_,_,_,_,o,_,_,e,_⟩:=x;exact Heap.lt_size e
 | dT kvs=>obtain ⟨_,_,_,_,o,_,_,e,_⟩:=x;exact Heap.lt_size e
 | set S n=>obtain ⟨o,_,_,_,e,_⟩:=x;exact Heap.lt_size e
 | ins C dx fs=>obtain ⟨_,_,_,e,_⟩:=x;exact Heap.lt_size e
 | own y=>obtain ⟨_,e⟩:=x;exact Heap.lt_size e
 | xd fs=>obtain ⟨_,⟨_,_,_,e,_⟩,_⟩:=x;exact Heap.lt_size e
 | rng lo hi=>obtain ⟨_,_,_,e⟩:=x;exact Heap.lt_size e
 | frz ob u=>obtain ⟨e,_⟩:=x;exact Heap.lt_size e
 | tbl ps=>obtain ⟨_,_,_,_,e,_⟩:=x;exact Heap.lt_size e
 | cod q=>obtain ⟨_,_,_,e,_⟩:=x;exact Heap.lt_size e
 | met f y=>exact Heap.lt_size (show h.get? a=some _ from x)
 | ext φ=>obtain ⟨_,⟨_,e⟩,_⟩:=x;exact Heap.lt_size e
theorem Paired.mapP {α β:Type}{F G:α->β->Prop}:∀ {l₁:List α}{l₂:List β},Paired F l₁ l₂->(∀ a b,F a b->G a b)->Paired G l₁ l₂
 | _,_,.nil,_=>.nil
 | _,_,.cons r t,f=>.cons (f _ _ r) (Paired.mapP t f)
theorem ObjOk.stay (x:ObjOk P w H h a o) (k:∀ b u,(b=a∨H b=some (.own a))->h.get? b=some u->h'.get? b=some u)
  (ho:∀ b,H b=some (.own a)->H' b=some (.own a)) (hq:∀ b q,H b=some (.cod q)->H' b=some (.cod q)) (ht:∀ b xs,H b=some (.tup xs)->H' b=some (.tup xs)):ObjOk P w H' h' a o:=by
 induction o with
 | lst xs=>obtain ⟨z,its,n,r,e⟩:=x;exact ⟨z,its,n,r,k _ _ (.inl rfl) e⟩
 | tup xs=>obtain ⟨z,its,r,ob,e,c⟩:=x;exact ⟨z,its,r,ob,k _ _ (.inl rfl) e,c⟩
 | dK kvs=>obtain ⟨z,y,vs,r,ob,es,ep,e,c⟩:=x;exact ⟨z,y,vs,r,ob,es,ep,k _ _ (.inl rfl) e,c⟩
 | dT kvs=>
  obtain ⟨z,y,xs,r,ob,es,ep,e,c⟩:=x
  exact ⟨z,y,xs,Paired.mapP r fun p q z=>⟨z.1,ht _ _ z.2.1,z.2.2⟩,ob,es,ep,k _ _ (.inl rfl) e,c⟩
 | set S n=>obtain ⟨ob,es,ep,t,e,c⟩:=x;exact ⟨ob,es,ep,t,k _ _ (.inl rfl) e,c⟩
 | ins C dx fs=>
  obtain ⟨d,z,ne,e,mA,⟨od,es,ep,e2,c⟩,r⟩:=x
  exact ⟨ho _ d,z,ne,k _ _ (.inl rfl) e,mA,⟨od,es,ep,k _ _ (.inr d) e2,c⟩,r⟩
 | own y=>obtain ⟨ob,e⟩:=x;exact ⟨ob,k _ _ (.inl rfl) e⟩
 | xd fs=>obtain ⟨mA,⟨od,es,ep,e,c⟩,r⟩:=x;exact ⟨mA,⟨od,es,ep,k _ _ (.inl rfl) e,c⟩,r⟩
 | rng lo hi=>obtain ⟨t,u,v,e⟩:=x;exact ⟨t,u,v,k _ _ (.inl rfl) e⟩
 | frz ob u ih=>obtain ⟨e,q⟩:=x;exact ⟨k _ _ (.inl rfl) e,ih q⟩
 | tbl ps=>
  obtain ⟨q,t,qs,e0,e,tr,hc⟩:=x
  refine ⟨q,t,qs,e0,k _ _ (.inl rfl) e,tr,fun pos cv hcv=>?_⟩
  obtain ⟨c,r1,r2⟩:=hc pos cv hcv
  exact ⟨c,r1,hq _ _ r2⟩
 | cod q=>obtain ⟨ob,vs,t,e,c⟩:=x;exact ⟨ob,vs,t,k _ _ (.inl rfl) e,c⟩
 | met f y=>
  have e:h.get? a=some (PySem.W.methodObj (.ref f) (.ref y)):=x
  show h'.get? a=some (PySem.W.methodObj (.ref f) (.ref y))
  exact k a _ (.inl rfl) e
 | ext φ=>obtain ⟨p,⟨o,e⟩,st⟩:=x;exact ⟨st _ _ p fun o q=>k _ _ (.inl rfl) q,⟨o,k _ _ (.inl rfl) e⟩,st⟩
theorem HOk.lt (x:HOk P w H h) (e:H a=some o):a < h.objs.size:=(x a o e).lt
theorem HOk.fresh (x:HOk P w H h) (e:h.objs.size≤a):H a=none:=by
 cases q:H a with
 | none=>rfl
 | some u=>exact absurd (Nat.lt_of_lt_of_le (x.lt q) e) (Nat.lt_irrefl _)
theorem HOk.kept (x:HOk P w H h) (k:∀ b u,h.get? b=some u->h'.get? b=some u):HOk P w H h':=fun a o e=>
 (x a o e).stay (fun b u _ q=>k b u q) (fun _ q=>q) (fun _ _ q=>q) fun _ _ q=>q
theorem HOk.laid (x:HOk P w H h) (k:∀ b u,h.get? b=some u->h'.get? b=some u) (hp:h.objs.size≤a) (new:ObjOk P w (upd H a o) h' a o):HOk P w (upd H a o) h':=fun b u e=>by
 have hn:=x.fresh hp
 by_cases hb:b=a
 ·subst hb;rw [upd_same] at e;cases e;exact new
 ·rw [upd_ne hb] at e
  exact (x b u e).stay (fun c v _ q=>k c v q) (fun c q=>by rw [upd_ne (ne_of_none q hn)];exact q) (fun c y q=>by rw [upd_ne (ne_of_none q hn)];exact q) fun c xs q=>by rw [upd_ne (ne_of_none q hn)];exact q
end
def Rd (H:Hp) (a:Addr) (u:HO):Prop:=H a=some u∨∃ o,H a=some (.frz o u)
theorem Rd.ok {P:Program}{w:World}{H:Hp}{h:Heap}{a:Addr}{u:HO}(r:Rd H a u) (x:HOk P w H h):ObjOk P w H h a u:=by
 rcases r with r|⟨o,r⟩
 ·exact x a u r
 ·obtain ⟨_,q⟩:=x a _ r
  exact q
def Mut:Option HO->Prop
 | some (.lst _)=>True
 | some (.dK _)=>True
 | some (.dT _)=>True
 | some (.set _ _)=>True
 | some (.ins _ _ _)=>True
 | some (.ext _)=>True
 | _=>False
section
variable {P:Program}{w:World}{H:Hp}{h h':Heap}{x e:Addr}{o':HO}
theorem HOk.write (ok:HOk P w H h) (mu:Mut (H x)) (he:e=x∨H e=some (.own x)) (k:∀ b u,b ≠ e->h.get? b=some u->h'.get? b=some u) (heo:∃ u,h'.get? e=some u)
  (new:ObjOk P w (upd H x o') h' x o'):HOk P w (upd H x o') h':=fun b u q=>by
 have nown:∀ c y,H c=some (.own y)->c ≠ x:=fun c y r z=>by subst z;rw [r] at mu;exact mu
 have ntup:∀ c xs,H c=some (.tup xs)->c ≠ x:=fun c xs r z=>by subst z;rw [r] at mu;exact mu
 have ncod:∀ c y,H c=some (.cod y)->c ≠ x:=fun c y r z=>by subst z;rw [r] at mu;exact mu
 by_cases hb:b=x
 ·subst hb;rw [upd_same] at q;cases q;exact new
 ·rw [upd_ne hb] at q
  by_cases hbe:b=e
  ·have q':H b=some (.own x):=by
    rcases he with z|z
    ·exact absurd (hbe.trans z) hb
    ·rw [hbe];exact z
   rw [q] at q';cases q'
   obtain ⟨v,hv⟩:=heo
   exact ⟨v,by rw [hbe];exact hv⟩
  ·refine (ok b u q).stay (fun c v hc r=>k c v ?_ r) (fun c r=>by rw [upd_ne (nown c b r)];exact r) (fun c y r=>by rw [upd_ne (ncod c y r)];exact r) fun c xs r=>by rw [upd_ne (ntup c xs r)];exact r
   rcases hc with rfl|hc
   ·exact hbe
   ·rintro rfl
    rcases he with z|z
    ·exact nown c b hc z
    ·rw [hc] at z;cases z;exact hb rfl
end
structure Un (fs ex:List Addr) (H H':Hp) (h h':Heap):Prop where
 keep:∀ b o,h.get? b=some o->H b=none->b ∉ fs->b ∉ ex->h'.get? b=some o
 slot:∀ b o,h.get? b=some o->H b=none->b∈fs->b ∉ ex->∃ sl,h'.get? b=some { o with slots:=sl }
 free:∀ b o,h.get? b=some o->H b=none->b ∉ ex->H' b=none
 there:∀ b o,h.get? b=some o->b ∉ ex->∃ o',h'.get? b=some o'
 tups:∀ b xs,H b=some (.tup xs)->H' b=some (.tup xs)
 frzs:∀ b o u,H b=some (.frz o u)->H' b=some (.frz o u)
 tbls:∀ b ps,H b=some (.tbl ps)->∃ more,H' b=some (.tbl (ps++more))
section
variable {fs fs' ex ex':List Addr}{H H1 H2:Hp}{h h1 h2 h':Heap}{a x e:Addr}{o:HO}
theorem Un.any (u:Un fs ex H H1 h h1){b:Addr}{ob:Obj}(q:h.get? b=some ob) (n:H b=none) (hx:b ∉ ex):∃ sl,h1.get? b=some { ob with slots:=sl }:=by
 by_cases hb:b∈fs
 ·exact u.slot b ob q n hb hx
 ·exact ⟨ob.slots,u.keep b ob q n hb hx⟩
theorem Un.trans (a:Un fs ex H H1 h h1) (b:Un fs ex H1 H2 h1 h2):Un fs ex H H2 h h2 where
 keep:=fun c ob q n hc hx=>b.keep c ob (a.keep c ob q n hc hx) (a.free c ob q n hx) hc hx
 slot:=fun c ob q n hc hx=>by
  obtain ⟨sl,e1⟩:=a.slot c ob q n hc hx
  obtain ⟨sl',e2⟩:=b.slot c _ e1 (a.free c ob q n hx) hc hx
  exact ⟨sl',e2⟩
 free:=fun c ob q n hx=>by
  obtain ⟨o',e1⟩:=a.there c ob q hx
  exact b.free c o' e1 (a.free c ob q n hx) hx
 there:=fun c ob q hx=>by
  obtain ⟨o',e1⟩:=a.there c ob q hx
  exact b.there c o' e1 hx
 tups:=fun c xs q=>b.tups c xs (a.tups c xs q)
 frzs:=fun c ob xs q=>b.frzs c ob xs (a.frzs c ob xs q)
 tbls:=fun c ps q=>by
  obtain ⟨m1,e1⟩:=a.tbls c ps q
  obtain ⟨m2,e2⟩:=b.tbls c _ e1
  exact ⟨m1++m2,by rw [e2,Array.append_assoc]⟩
theorem Un.kept (k:∀ b u,h.get? b=some u->h'.get? b=some u):Un fs ex H H h h':=
 ⟨fun b ob q _ _ _=>k b ob q,fun b ob q _ _ _=>⟨ob.slots,k b ob q⟩,fun _ _ _ n _=>n,fun b ob q _=>⟨ob,k b ob q⟩,fun _ _ q=>q,fun _ _ _ q=>q,fun _ ps q=>⟨#[],by rw [q];simp⟩⟩
theorem Un.refl:Un fs ex H H h h:=Un.kept fun _ _ q=>q
theorem Un.laid (k:∀ b u,h.get? b=some u->h'.get? b=some u) (hp:h.objs.size≤a) (hn:H a=none):Un fs ex H (upd H a o) h h' where
 keep:=fun b u q _ _ _=>k b u q
 slot:=fun b u q _ _ _=>⟨u.slots,k b u q⟩
 free:=fun b u q n _=>by rw [upd_ne (Nat.ne_of_lt (Nat.lt_of_lt_of_le (Heap.lt_size q) hp))];exact n
 there:=fun b u q _=>⟨u,k b u q⟩
 tups:=fun b xs q=>by rw [upd_ne (ne_of_none q hn)];exact q
 frzs:=fun b u xs q=>by rw [upd_ne (ne_of_none q hn)];exact q
 tbls:=fun b ps q=>⟨#[],by rw [upd_ne (ne_of_none q hn),q];simp⟩
theorem Un.write (mu:Mut (H x)) (he:e=x∨H e=some (.own x)) (k:∀ b u,b ≠ e->h.get? b=some u->h'.get? b=some u) (heo:∃ u,h'.get? e=some u):Un fs ex H (upd H x o) h h':=by
 have hx:∀ b,H b=none->b ≠ x:=fun b n z=>by subst z;rw [n] at mu;exact mu
 have hb:∀ b,H b=none->b ≠ e:=fun b n z=>by
  subst z
  rcases he with r|r
  ·exact hx b n r
  ·rw [n] at r;cases r
 have hm:∀ b u,H b=some u->¬ Mut (some u)->b ≠ x:=fun b u q nm z=>by subst z;rw [q] at mu;exact nm mu
 refine ⟨fun b u q n _ _=>k b u (hb b n) q,fun b u q n _ _=>⟨u.slots,k b u (hb b n) q⟩,fun b u q n _=>by rw [upd_ne (hx b n)];exact n,fun b u q _=>?_,
  fun b xs q=>by rw [upd_ne (hm b _ q fun z=>z)];exact q,fun b u xs q=>by rw [upd_ne (hm b _ q fun z=>z)];exact q,fun b ps q=>⟨#[],by rw [upd_ne (hm b _ q fun z=>z),q];simp⟩⟩
 by_cases hbe:b=e
 ·subst hbe;exact heo
 ·exact ⟨u,k b u hbe q⟩
end
def trk (h:Heap) (H:Hp):List Addr:=(List.range h.objs.size).filter fun a=>(H a).isSome
def hidT (h:Heap) (H:Hp):Heap:=PySem.W.hideAll h (trk h H)
theorem hidT_size (h:Heap) (H:Hp):(hidT h H).objs.size=h.objs.size:=PySem.W.hideAll_size _ _
theorem hidT_get {h:Heap}{H:Hp}{b:Addr}{o:Obj}(e:h.get? b=some o) (n:H b=none):(hidT h H).get? b=some o:=
 PySem.W.hideAll_get _ e fun hm=>by
  have q:(H b).isSome=true:=(List.mem_filter.mp hm).2
  rw [n] at q;simp at q
theorem of_hidT {h:Heap}{H:Hp}{b:Addr}{o:Obj}(e:(hidT h H).get? b=some o):h.get? b=some o∧H b=none:=by
 have e':h.get? b=some o:=PySem.W.of_hideAll (trk h H) e
 refine ⟨e',?_⟩
 cases q:H b with
 | none=>rfl
 | some x=>
  have hm:b∈trk h H:=List.mem_filter.mpr ⟨List.mem_range.mpr (Heap.lt_size e'),by simp [q]⟩
  have z:(hidT h H).get? b=none:=PySem.W.hideAll_none (trk h H) hm
  rw [z] at e;cases e
def allNews (g h:Heap) (L:Addr):List (Addr × Obj):=(List.range h.objs.size).filterMap fun a=>if a=L∨(g.get? a).isSome=true then none else (h.get? a).map fun o=>(a,o)
def rest (g h:Heap) (L d:Addr):List (Addr × Obj):=(allNews g h L).filter fun p=>decide (p.1 ≠ d)
end L2
namespace L2
open PySem PySem.Spec PyProof.Rows
structure Mod (K:PySem.W.Frag) (mg:Str->Option Value) (base:Heap):Prop where
 kin:K.In base
 glob:base.Ns mainGlobals mg
 blt:∃ mb,base.Ns builtinsNs mb∧∀ x:Str,x ≠ "__name__" → mb x=bootBuiltins x
 nolimit:base.NoLimit
structure Cx where
 prog:Program
 w:World
 K:PySem.W.Frag
 mg:Str->Option Value
 base:Heap
 A:Around
 N:List Str
 s₀:Shared
 H₀:Hp
 env:Env
 outer:List Env
 stack:List Env
 ex:List Addr
 fn:Str->Bool
 calm:Bool
 pn:List (Addr × Obj)
 xe:Value->Shared->Prop
def frs (l:List Env):List Addr:=l.filterMap (·.frame)
abbrev Cx.fs (X:Cx):List Addr:=frs X.outer
def Vis (sc:Scope) (x:Str):Prop:=sc.names.lookup x=some .local∨sc.names.lookup x=some .cell∨sc.names.lookup x=some .free
def Loc (sc:Scope) (x:Str):Prop:=sc.names.lookup x=some .local∨sc.names.lookup x=some .cell
def Look (env:Env) (h:Heap) (m:Str->Option Value) (x:Str) (u:Value):Prop:=
 (env.kindOf x=some .local∧m x=some u)∨((env.kindOf x=some .cell∨env.kindOf x=some .free)∧∃ c,env.cells.lookup x=some c∧h.IsCell c (some u))
structure Cx.Ok (X:Cx):Prop where
 mod:Mod X.K X.mg X.base
 kind:X.env.scope.kind=.function
 glob:X.env.globals=mainGlobals
 blt:X.env.builtins=builtinsNs
 above:X.s₀.heap.objs.size≤X.env.locals
 inj:∀ x y c,X.env.cells.lookup x=some c->X.env.cells.lookup y=some c->x=y
 has:∀ x,(X.env.kindOf x=some .cell∨X.env.kindOf x=some .free)->∃ c,X.env.cells.lookup x=some c
 cab:∀ x c,X.fn x=true->X.env.cells.lookup x=some c->X.s₀.heap.objs.size≤c
 hd:X.calm=true->X.A.handled=none
 frames:X.A.frames=some X.stack
 stk:X.stack=X.outer∨(X.stack=X.env::X.outer∧X.env.frame=some X.env.locals)
 exf:∀ b∈X.ex,b ≠ X.env.locals∧∀ x c,X.env.cells.lookup x=some c->c ≠ b
 bs:∀ b o,X.base.get? b=some o->X.s₀.heap.get? b=some o∧X.H₀ b=none
 bsz:X.base.objs.size≤X.s₀.heap.objs.size
 noex:∀ b o,X.base.get? b=some o->b ∉ X.ex
 exfs:∀ b∈X.ex,b ∉ X.fs
 funs:X.s₀.heap.FunFrames X.base X.outer
 frf:∀ b∈X.fs,X.H₀ b=none
structure Inv (X:Cx) (pins:List (Addr × Obj)) (σ:List (Option V)) (H:Hp) (s:Shared):Prop where
 ok:X.Ok
 os:s.os=X.s₀.os
 bare:AllBare s.gens
 base:Un X.fs X.ex X.H₀ H X.s₀.heap s.heap
 loc:∃ m,s.heap.Ns X.env.locals m∧∀ (i:Nat) (x:Str) (v:V),X.N[i]? = some x->σ[i]? = some (some v)->Vis X.env.scope x->∃ u,RelV v u∧Look X.env s.heap m x u
 cell:∀ x c,X.env.cells.lookup x=some c->∃ v,s.heap.IsCell c v
 free:H X.env.locals=none
 freeC:∀ x c,X.env.cells.lookup x=some c->H c=none
 pin:∀ p∈X.pn++pins,s.heap.get? p.1=some p.2∧H p.1=none∧p.1 ≠ X.env.locals∧p.1 ∉ X.fs∧∀ v,p.2.data ≠ .cell v
 hok:HOk X.prog X.w H s.heap
 len:σ.length=X.N.length
section
variable {X:Cx}{pins:List (Addr × Obj)}{σ:List (Option V)}{H H':Hp}{s:Shared}{h':Heap}
theorem Cx.Ok.nofr (ok:X.Ok){b:Addr}{o:Obj}(e:X.base.get? b=some o):b ∉ X.fs:=fun hb=>by
 have:=(ok.funs.mem hb).1
 rw [e] at this;cases this
theorem Inv.bs (I:Inv X pins σ H s):∀ b o,X.base.get? b=some o->s.heap.get? b=some o∧H b=none:=fun b o e=>
 ⟨I.base.keep b o (I.ok.bs b o e).1 (I.ok.bs b o e).2 (I.ok.nofr e) (I.ok.noex b o e),I.base.free b o (I.ok.bs b o e).1 (I.ok.bs b o e).2 (I.ok.noex b o e)⟩
theorem Inv.bk (I:Inv X pins σ H s):∀ b o,X.base.get? b=some o->s.heap.get? b=some o:=fun b o e=>(I.bs b o e).1
theorem Inv.mod (I:Inv X pins σ H s):Mod X.K X.mg X.base:=I.ok.mod
theorem Inv.kIn (I:Inv X pins σ H s):X.K.In s.heap:=I.ok.mod.kin.keeps I.bk
theorem Inv.lt (I:Inv X pins σ H s):X.env.locals < s.heap.objs.size:=let ⟨_,hn,_⟩:=I.loc;hn.lt
theorem Inv.sz (I:Inv X pins σ H s):X.s₀.heap.objs.size≤s.heap.objs.size:=Nat.le_trans I.ok.above (Nat.le_of_lt I.lt)
theorem Inv.nofs (I:Inv X pins σ H s){a:Addr}(h:s.heap.objs.size≤a):a ∉ X.fs:=fun hb=>by
 obtain ⟨_,o,ho,_⟩:=I.ok.funs.mem hb
 exact absurd (Nat.lt_of_lt_of_le (Heap.lt_size ho) (Nat.le_trans I.sz h)) (Nat.lt_irrefl _)
theorem Inv.cne (I:Inv X pins σ H s):∀ x c,X.env.cells.lookup x=some c->c ≠ X.env.locals:=fun x c e z=>by
 obtain ⟨v,o,ho,hd⟩:=I.cell x c e
 obtain ⟨m,⟨o',es,ep,ho',hd',_⟩,_⟩:=I.loc
 rw [z,ho'] at ho;cases ho;rw [hd'] at hd;cases hd
theorem Inv.funs (I:Inv X pins σ H s):s.heap.FunFrames X.base X.outer:=by
 have all:∀ (l:List Env),(∀ b∈frs l,b∈X.fs)->X.s₀.heap.FunFrames X.base l->s.heap.FunFrames X.base l:=by
  intro l
  induction l with
  | nil=>intro _ _;trivial
  | cons env r ih=>
   intro hs hl
   obtain ⟨hk,⟨L,o,hf,hn,ho,hd⟩,hr⟩:=hl
   have hL:L∈X.fs:=hs L (by unfold frs;rw [List.filterMap_cons,hf];exact List.mem_cons_self)
   obtain ⟨sl,e⟩:=I.base.slot L o ho (I.ok.frf L hL) hL fun z=>I.ok.exfs L z hL
   exact ⟨hk,⟨L,_,hf,hn,e,hd⟩,ih (fun b hb=>hs b (by unfold frs;rw [List.filterMap_cons,hf];exact List.mem_cons_of_mem _ hb)) hr⟩
 exact all X.outer (fun _ hb=>hb) I.ok.funs
theorem Inv.stack (I:Inv X pins σ H s):s.heap.FunFrames X.base X.stack:=by
 rcases I.ok.stk with e|⟨e,hf⟩
 ·rw [e];exact I.funs
 ·rw [e]
  obtain ⟨m,hn,_⟩:=I.loc
  refine .cons (by rw [I.ok.kind];decide) hf hn ?_ I.funs
  exact Heap.get?_none_of_le (Nat.le_trans I.ok.bsz I.ok.above)
theorem Inv.stkSub (I:Inv X pins σ H s):∀ b∈frs X.stack,b∈X.env.locals::X.fs:=fun b hb=>by
 rcases I.ok.stk with e|⟨e,hf⟩
 ·rw [e] at hb;exact List.mem_cons_of_mem _ hb
 ·rw [e] at hb
  unfold frs at hb
  rw [List.filterMap_cons,hf] at hb
  exact hb
theorem Inv.stkFree (I:Inv X pins σ H s):∀ b∈frs X.stack,H b=none:=fun b hb=>by
 rcases List.mem_cons.mp (I.stkSub b hb) with e|hb
 ·rw [e];exact I.free
 ·obtain ⟨_,o,ho,_⟩:=I.ok.funs.mem hb
  exact I.base.free b o ho (I.ok.frf b hb) fun z=>I.ok.exfs b z hb
theorem Inv.step {g':Array GenState}{t':Nat}{d':Drawn}{ch:List Addr}(I:Inv X pins σ H s)
  (hch:∀ b∈ch,(b∈X.ex∨X.s₀.heap.objs.size≤b)∧b ≠ X.env.locals∧(∀ x c,X.env.cells.lookup x=some c->c ≠ b)∧∀ p∈X.pn++pins,p.1 ≠ b)
  (keep:∀ b o,b ≠ X.env.locals->b ∉ X.fs->b ∉ ch->s.heap.get? b=some o->H b=none->h'.get? b=some o)
  (slot:∀ b o,b ≠ X.env.locals->b∈X.fs->b ∉ ch->s.heap.get? b=some o->H b=none->∃ sl,h'.get? b=some { o with slots:=sl }) (free:∀ b o,b ∉ ch->s.heap.get? b=some o->H b=none->H' b=none)
  (there:∀ b o,b ∉ ch->s.heap.get? b=some o->∃ o',h'.get? b=some o')
  (tups:∀ b xs,H b=some (.tup xs)->H' b=some (.tup xs)) (frzs:∀ b o u,H b=some (.frz o u)->H' b=some (.frz o u)) (tbls:∀ b ps,H b=some (.tbl ps)->∃ more,H' b=some (.tbl (ps++more)))
  (ns:∀ m,s.heap.Ns X.env.locals m->h'.Ns X.env.locals m) (hok:HOk X.prog X.w H' h') (hg:AllBare g') :
  Inv X pins σ H' { s with heap:=h',gens:=g',drawn:=d',toks:=t' }:=by
 have neL:∀ b o,X.s₀.heap.get? b=some o->b ≠ X.env.locals:=fun b o e=>Nat.ne_of_lt (Nat.lt_of_lt_of_le (Heap.lt_size e) I.ok.above)
 have neC:∀ b o,X.s₀.heap.get? b=some o->b ∉ X.ex->b ∉ ch:=fun b o e hx hb=>by
  rcases (hch b hb).1 with z|z
  ·exact hx z
  ·exact absurd (Nat.lt_of_lt_of_le (Heap.lt_size e) z) (Nat.lt_irrefl _)
 have cellK:∀ x c,X.env.cells.lookup x=some c->∀ v,s.heap.IsCell c v->h'.IsCell c v:=fun x c e v ⟨o,ho,hd⟩=>by
  have nch:c ∉ ch:=fun z=>(hch c z).2.2.1 x c e rfl
  by_cases hc:c∈X.fs
  ·obtain ⟨sl,q⟩:=slot c o (I.cne x c e) hc nch ho (I.freeC x c e)
   exact ⟨_,q,hd⟩
  ·exact ⟨o,keep c o (I.cne x c e) hc nch ho (I.freeC x c e),hd⟩
 refine ⟨I.ok,I.os,hg,⟨fun b o e n hb hx=>?_,fun b o e n hb hx=>?_,fun b o e n hx=>?_,fun b o e hx=>?_,fun b xs e=>tups b xs (I.base.tups b xs e),fun b o xs e=>frzs b o xs (I.base.frzs b o xs e),fun b ps e=>?_⟩,?_,fun x c e=>?_,?_,fun x c e=>?_,fun p hp=>?_,hok,I.len⟩
 ·exact keep b o (neL b o e) hb (neC b o e hx) (I.base.keep b o e n hb hx) (I.base.free b o e n hx)
 ·obtain ⟨sl,e1⟩:=I.base.slot b o e n hb hx
  obtain ⟨sl',e2⟩:=slot b _ (neL b o e) hb (neC b o e hx) e1 (I.base.free b o e n hx)
  exact ⟨sl',e2⟩
 ·obtain ⟨o',e1⟩:=I.base.there b o e hx
  exact free b o' (neC b o e hx) e1 (I.base.free b o e n hx)
 ·obtain ⟨o',e1⟩:=I.base.there b o e hx
  exact there b o' (neC b o e hx) e1
 ·obtain ⟨m1,e1⟩:=I.base.tbls b ps e
  obtain ⟨m2,e2⟩:=tbls b _ e1
  exact ⟨m1++m2,by rw [e2,Array.append_assoc]⟩
 ·obtain ⟨m,hn,hl⟩:=I.loc
  refine ⟨m,ns m hn,fun i x v e1 e2 e3=>?_⟩
  obtain ⟨u,r,l⟩:=hl i x v e1 e2 e3
  refine ⟨u,r,?_⟩
  rcases l with l|⟨k,c,e,z⟩
  ·exact .inl l
  ·exact .inr ⟨k,c,e,cellK x c e _ z⟩
 ·obtain ⟨v,z⟩:=I.cell x c e
  exact ⟨v,cellK x c e v z⟩
 ·obtain ⟨m,⟨o,_,_,ho,_⟩,_⟩:=I.loc
  exact free _ o (fun z=>(hch _ z).2.1 rfl) ho I.free
 ·obtain ⟨v,o,ho,hd⟩:=I.cell x c e
  exact free c o (fun z=>(hch c z).2.2.1 x c e rfl) ho (I.freeC x c e)
 ·obtain ⟨e,n,ne,nf,d⟩:=I.pin p hp
  have nch:p.1 ∉ ch:=fun z=>(hch p.1 z).2.2.2 p hp rfl
  exact ⟨keep p.1 p.2 ne nf nch e n,free p.1 p.2 nch e n,ne,nf,d⟩
theorem Inv.un {t':Nat}(I:Inv X pins σ H s) (u:Un X.fs [] H H' s.heap h') (hok:HOk X.prog X.w H' h'):Inv X pins σ H' { s with heap:=h',toks:=t' }:=by
 obtain ⟨m,⟨o,es,ep,ho,r⟩,_⟩:=id I.loc
 obtain ⟨sl,hL⟩:=u.any ho I.free (by simp)
 exact I.step (g':=s.gens) (d':=s.drawn) (ch:=[]) (fun _ z=>nomatch z) (fun b o _ hb _ e n=>u.keep b o e n hb (by simp)) (fun b o _ hb _ e n=>u.slot b o e n hb (by simp)) (fun b o _ e n=>u.free b o e n (by simp)) (fun b o _ e=>u.there b o e (by simp)) u.tups u.frzs u.tbls (fun m' hm=>by
  obtain ⟨o',es',ep',ho',r'⟩:=hm
  rw [ho] at ho';cases ho'
  exact ⟨_,es',ep',hL,r'⟩) hok I.bare
theorem Inv.call {g':Array GenState}{t':Nat}{d':Drawn}{ch:List Addr}(I:Inv X pins σ H s) (u:Un (frs X.stack) ch H H' s.heap h') (hok:HOk X.prog X.w H' h') (hg:AllBare g')
  (hch:∀ b∈ch,(b∈X.ex∨X.s₀.heap.objs.size≤b)∧b ≠ X.env.locals∧(∀ x c,X.env.cells.lookup x=some c->c ≠ b)∧∀ p∈X.pn++pins,p.1 ≠ b) :
  Inv X pins σ H' { s with heap:=h',gens:=g',drawn:=d',toks:=t' }:=by
 obtain ⟨m,⟨o,es,ep,ho,r⟩,_⟩:=id I.loc
 obtain ⟨sl,hL⟩:=u.any ho I.free fun z=>(hch _ z).2.1 rfl
 exact I.step (ch:=ch) hch (fun b o hL hb hc e n=>u.keep b o e n (fun z=>(List.mem_cons.mp (I.stkSub b z)).elim hL hb) hc) (fun b o _ _ hc e n=>u.any e n hc) (fun b o hc e n=>u.free b o e n hc) (fun b o hc e=>u.there b o e hc) u.tups u.frzs u.tbls (fun m' hm=>by
  obtain ⟨o',es',ep',ho',r'⟩:=hm
  rw [ho] at ho';cases ho'
  exact ⟨_,es',ep',hL,r'⟩) hok hg
theorem Inv.turned {t':Nat}{it:Addr}(I:Inv X pins σ H s) (k:∀ b o,b ≠ it->s.heap.get? b=some o->h'.get? b=some o) (hn:H it=none) (hL:it ≠ X.env.locals)
  (h1:it∈X.ex∨X.s₀.heap.objs.size≤it) (h2:∀ x c,X.env.cells.lookup x=some c->c ≠ it) (h3:∀ p∈X.pn++pins,p.1 ≠ it):Inv X pins σ H { s with heap:=h',toks:=t' }:=by
 have nit:∀ b u,H b=some u->b ≠ it:=fun b u e z=>by rw [z,hn] at e;cases e
 refine I.step (g':=s.gens) (d':=s.drawn) (ch:=[it]) (fun b hb=>?_) (fun b o _ _ hc e _=>k b o (fun z=>hc (by simp [z])) e) (fun b o _ _ hc e _=>⟨o.slots,k b o (fun z=>hc (by simp [z])) e⟩) (fun _ _ _ _ n=>n)
  (fun b o hc e=>⟨o,k b o (fun z=>hc (by simp [z])) e⟩) (fun _ _ e=>e) (fun _ _ _ e=>e) (fun b ps e=>⟨#[],by rw [e];simp⟩) (fun m hm=>?_) (fun b u e=>?_) I.bare
 ·have e:b=it:=by simpa using hb
  subst e
  exact ⟨h1,hL,h2,h3⟩
 ·obtain ⟨o,es,ep,ho,r⟩:=hm
  exact ⟨o,es,ep,k _ o (Ne.symm hL) ho,r⟩
 ·refine (I.hok b u e).stay (fun c v hc q=>k c v ?_ q) (fun _ q=>q) (fun _ _ q=>q) fun _ _ q=>q
  rcases hc with z|z
  ·rw [z];exact nit b u e
  ·exact nit c _ z
theorem Inv.tok (I:Inv X pins σ H s) (t:Nat):Inv X pins σ H { s with toks:=t }:=I.un (h':=s.heap) (t':=t) Un.refl I.hok
theorem Inv.kept {t':Nat}(I:Inv X pins σ H s) (k:∀ b u,s.heap.get? b=some u->h'.get? b=some u):Inv X pins σ H { s with heap:=h',toks:=t' }:=I.un (Un.kept k) (I.hok.kept k)
theorem Inv.laid {a:Addr}{o:HO}{t':Nat}(I:Inv X pins σ H s) (k:∀ b u,s.heap.get? b=some u->h'.get? b=some u) (hp:s.heap.objs.size≤a) (new:ObjOk X.prog X.w (upd H a o) h' a o) :
  Inv X pins σ (upd H a o) { s with heap:=h',toks:=t' }:=I.un (Un.laid k hp (I.hok.fresh hp)) (I.hok.laid k hp new)
theorem Inv.write {x e:Addr}{o:HO}{t':Nat}(I:Inv X pins σ H s) (mu:Mut (H x)) (he:e=x∨H e=some (.own x)) (k:∀ b u,b ≠ e->s.heap.get? b=some u->h'.get? b=some u) (heo:∃ u,h'.get? e=some u)
  (new:ObjOk X.prog X.w (upd H x o) h' x o):Inv X pins σ (upd H x o) { s with heap:=h',toks:=t' }:=I.un (Un.write mu he k heo) (I.hok.write mu he k heo new)
theorem Inv.weak {σ':List (Option V)}(I:Inv X pins σ H s) (hl:σ'.length=σ.length) (w:∀ (i:Nat) v,σ'[i]? = some (some v)->σ[i]? = some (some v)):Inv X pins σ' H s:=
 ⟨I.ok,I.os,I.bare,I.base,let ⟨m,hn,hl'⟩:=I.loc;⟨m,hn,fun i x v e1 e2 e3=>hl' i x v e1 (w i v e2) e3⟩,I.cell,I.free,I.freeC,I.pin,I.hok,hl.trans I.len⟩
theorem Inv.pins_of {pins':List (Addr × Obj)}(I:Inv X pins σ H s) (h:∀ p∈pins',s.heap.get? p.1=some p.2∧H p.1=none∧p.1 ≠ X.env.locals∧p.1 ∉ X.fs∧∀ v,p.2.data ≠ .cell v):Inv X pins' σ H s:=
 ⟨I.ok,I.os,I.bare,I.base,I.loc,I.cell,I.free,I.freeC,fun p hp=>(List.mem_append.mp hp).elim (fun z=>I.pin p (List.mem_append_left _ z)) (h p),I.hok,I.len⟩
theorem nodup_ix {N:List Str}(hN:N.Nodup){i j:Nat}{x:Str}(a:N[i]? = some x) (b:N[j]? = some x):i=j:=by
 obtain ⟨h1,e1⟩:=List.getElem?_eq_some_iff.mp a
 obtain ⟨h2,e2⟩:=List.getElem?_eq_some_iff.mp b
 exact (List.getElem_inj hN).mp (e1.trans e2.symm)
theorem store_ok2 {M:Model}{A:Around}{E:Value->Shared->Prop}{i:Nat}{x:Str}{v:V}{u:Value}{Q:Unit->Shared->Prop}(I:Inv X pins σ H s) (hN:X.N.Nodup) (hi:X.N[i]? = some x) (hx:Loc X.env.scope x) (r:RelV v u)
  (h:∀ s',Inv X pins (σ.set i (some v)) H s'->(∃ a,Heap.SameBut a s.heap s'.heap∧(a=X.env.locals∨X.env.cells.lookup x=some a))->Q () s') (hf:X.fn x=true∨X.env.scope.names.lookup x=some .local:=by first|exact .inl rfl|exact .inr rfl|assumption):wpAny M A (storeName X.env x u) Q E s:=by
 obtain ⟨m,hn,hl⟩:=id I.loc
 have hcls:(X.env.scope.kind == .class || (X.env.scope.kind == .module && X.env.locals != X.env.globals))=false:=by rw [I.ok.kind];rfl
 have hiσ:i < σ.length:=by rw [I.len];exact (List.getElem?_eq_some_iff.mp hi).1
 have cne:=I.cne
 have tracked:∀ {a:Addr} {h':Heap},(∃ o,s.heap.get? a=some o∧H a=none)->Heap.SameBut a s.heap h'->HOk X.prog X.w H h':=fun {a h'} ha hs b ob e=>by
  obtain ⟨_,_,hfree⟩:=ha
  refine (I.hok b ob e).stay (fun c w' hc q=>(hs.2 c ?_).trans q) (fun _ q=>q) (fun _ _ q=>q) fun _ _ q=>q
  rintro rfl
  rcases hc with rfl|hc
  ·rw [hfree] at e;cases e
  ·rw [hfree] at hc;cases hc
 rcases hx with hk|hk
 ·refine wpAny_storeName_local hk hn (fun h' hn' hs=>?_) hcls
  obtain ⟨oL,_,_,hoL,_⟩:=id hn
  refine h _ ⟨I.ok,I.os,I.bare,⟨fun b o e n hb hx=>?_,fun b o e n hb hx=>?_,I.base.free,fun b o e hx=>?_,I.base.tups,I.base.frzs,I.base.tbls⟩,⟨_,hn',fun j y v' e1 e2 e3=>?_⟩,fun y c e=>?_,I.free,I.freeC,fun p hp=>?_,tracked ⟨oL,hoL,I.free⟩ hs,by simpa using I.len⟩ ⟨_,hs,.inl rfl⟩
  ·exact (hs.2 b (Nat.ne_of_lt (Nat.lt_of_lt_of_le (Heap.lt_size e) I.ok.above))).trans (I.base.keep b o e n hb hx)
  ·obtain ⟨sl,e1⟩:=I.base.slot b o e n hb hx
   exact ⟨sl,(hs.2 b (Nat.ne_of_lt (Nat.lt_of_lt_of_le (Heap.lt_size e) I.ok.above))).trans e1⟩
  ·obtain ⟨o',e1⟩:=I.base.there b o e hx
   exact ⟨o',(hs.2 b (Nat.ne_of_lt (Nat.lt_of_lt_of_le (Heap.lt_size e) I.ok.above))).trans e1⟩
  ·by_cases hj:j=i
   ·subst hj
    rw [hi] at e1;cases e1
    rw [List.getElem?_set_self hiσ] at e2
    cases e2
    exact ⟨u,r,.inl ⟨hk,by simp⟩⟩
   ·rw [List.getElem?_set_ne (Ne.symm hj)] at e2
    obtain ⟨u',r',q⟩:=hl j y v' e1 e2 e3
    refine ⟨u',r',?_⟩
    rcases q with ⟨k,e⟩|⟨k,c,e,z⟩
    ·refine .inl ⟨k,?_⟩
     have:y ≠ x:=fun e=>hj (nodup_ix hN e1 (e ▸ hi))
     simp [this,e]
    ·exact .inr ⟨k,c,e,z.sameBut hs (cne y c e)⟩
  ·obtain ⟨w',z⟩:=I.cell y c e
   exact ⟨w',z.sameBut hs (cne y c e)⟩
  ·obtain ⟨e,n,ne,nf,d⟩:=I.pin p hp
   exact ⟨(hs.2 p.1 ne).trans e,n,ne,nf,d⟩
 ·have hfn:X.fn x=true:=by
   rcases hf with z|z
   ·exact z
   ·rw [z] at hk;cases hk
  obtain ⟨c,hc⟩:=I.ok.has x (.inl hk)
  obtain ⟨w',z⟩:=I.cell x c hc
  refine wpAny_storeName_cell I.ok.kind hk hc z (fun h' hc' hs=>?_)
  obtain ⟨oc,hoc,hocd⟩:=id z
  refine h { s with heap:=h' } ⟨I.ok,I.os,I.bare,⟨fun b o e n hb hx=>?_,fun b o e n hb hx=>?_,I.base.free,fun b o e hx=>?_,I.base.tups,I.base.frzs,I.base.tbls⟩,⟨m,hn.sameBut hs (Ne.symm (cne x c hc)),fun j y v' e1 e2 e3=>?_⟩,fun y c' e=>?_,I.free,I.freeC,fun p hp=>?_,tracked ⟨oc,hoc,I.freeC x c hc⟩ hs,by simpa using I.len⟩ ⟨c,hs,.inr hc⟩
  ·exact (hs.2 b (Nat.ne_of_lt (Nat.lt_of_lt_of_le (Heap.lt_size e) (I.ok.cab x c hfn hc)))).trans (I.base.keep b o e n hb hx)
  ·obtain ⟨sl,e1⟩:=I.base.slot b o e n hb hx
   exact ⟨sl,(hs.2 b (Nat.ne_of_lt (Nat.lt_of_lt_of_le (Heap.lt_size e) (I.ok.cab x c hfn hc)))).trans e1⟩
  ·obtain ⟨o',e1⟩:=I.base.there b o e hx
   exact ⟨o',(hs.2 b (Nat.ne_of_lt (Nat.lt_of_lt_of_le (Heap.lt_size e) (I.ok.cab x c hfn hc)))).trans e1⟩
  ·by_cases hj:j=i
   ·subst hj
    rw [hi] at e1;cases e1
    rw [List.getElem?_set_self hiσ] at e2
    cases e2
    exact ⟨u,r,.inr ⟨.inl hk,c,hc,hc'⟩⟩
   ·rw [List.getElem?_set_ne (Ne.symm hj)] at e2
    obtain ⟨u',r',q⟩:=hl j y v' e1 e2 e3
    refine ⟨u',r',?_⟩
    rcases q with q|⟨k,c',e,z'⟩
    ·exact .inl q
    ·refine .inr ⟨k,c',e,z'.sameBut hs ?_⟩
     rintro rfl
     exact hj (nodup_ix hN e1 (I.ok.inj _ _ _ e hc ▸ hi))
  ·by_cases hcc:c'=c
   ·subst hcc;exact ⟨_,hc'⟩
   ·obtain ⟨w2,z2⟩:=I.cell y c' e
    exact ⟨w2,z2.sameBut hs hcc⟩
  ·obtain ⟨e,n,ne,nf,d⟩:=I.pin p hp
   refine ⟨(hs.2 p.1 ?_).trans e,n,ne,nf,d⟩
   intro q
   rw [q,hoc] at e
   have q':oc=p.2:=Option.some.inj e
   exact d w' (by rw [←q'];exact hocd)
theorem store_ok {M:Model}{A:Around}{E:Value->Shared->Prop}{i:Nat}{x:Str}{v:V}{u:Value}{Q:Unit->Shared->Prop}(I:Inv X pins σ H s) (hN:X.N.Nodup) (hi:X.N[i]? = some x) (hx:Loc X.env.scope x) (r:RelV v u)
  (h:∀ s',Inv X pins (σ.set i (some v)) H s'->Q () s') (hf:X.fn x=true∨X.env.scope.names.lookup x=some .local:=by first|exact .inl rfl|exact .inr rfl|assumption):wpAny M A (storeName X.env x u) Q E s:=
 store_ok2 I hN hi hx r (fun s' I' _=>h s' I') hf
theorem Inv.call' {s':Shared}{ch:List Addr}(I:Inv X pins σ H s) (ho:s'.os=s.os) (u:Un (frs X.stack) ch H H' s.heap s'.heap) (hok:HOk X.prog X.w H' s'.heap) (hg:AllBare s'.gens)
  (hch:∀ b∈ch,(b∈X.ex∨X.s₀.heap.objs.size≤b)∧b ≠ X.env.locals∧(∀ x c,X.env.cells.lookup x=some c->c ≠ b)∧∀ p∈X.pn++pins,p.1 ≠ b):Inv X pins σ H' s':=by
 obtain ⟨h',g',d',t',o'⟩:=s'
 have e:o'=s.os:=ho
 subst e
 exact I.call (g':=g') (t':=t') (d':=d') u hok hg hch
end
abbrev XK:=Value->Option Addr->Hp->Prop
abbrev St:=List (Option V)
abbrev VK:=V->Hp->Prop
abbrev TE:=St->Hp->VK->Prop
abbrev TT:=St->Hp->(Bool->Hp->Prop)->Prop
abbrev TA:=St->Hp->(List V->Hp->Prop)->Prop
structure Ends where
 nx:St->Hp->Prop
 rt:VK
 bk:St->Hp->Prop:=fun _ _=>False
 ct:St->Hp->Prop:=fun _ _=>False
abbrev TS:=Ends->St->Hp->Prop
def EP (X:Cx) (pins:List (Addr × Obj)) (σ:St) (Q:VK) (u:Value) (s':Shared):Prop:=∃ v H',Inv X pins σ H' s'∧RelV v u∧Q v H'
def TP (X:Cx) (pins:List (Addr × Obj)) (σ:St) (Q:Bool->Hp->Prop) (b:Bool) (s':Shared):Prop:=∃ H',Inv X pins σ H' s'∧Q b H'
def AP (X:Cx) (pins:List (Addr × Obj)) (σ:St) (Q:List V->Hp->Prop) (us:List Value) (s':Shared):Prop:=∃ vs H',Inv X pins σ H' s'∧Vals vs us∧Q vs H'
def SP (X:Cx) (pins:List (Addr × Obj)) (D:Ends) (f:Flow) (s':Shared):Prop:=
 match f with
 | .next=>∃ σ' H',Inv X pins σ' H' s'∧D.nx σ' H'
 | .brk=>∃ σ' H',Inv X pins σ' H' s'∧D.bk σ' H'
 | .cont=>∃ σ' H',Inv X pins σ' H' s'∧D.ct σ' H'
 | .ret u=>∃ v σ' H',Inv X pins σ' H' s'∧RelV v u∧D.rt v H'
def PE (X:Cx) (e:Expr) (t:TE):Prop:=
 ∀ (pins:List (Addr × Obj)) (s:Shared) (σ:St) (H:Hp) (Q:VK),Inv X pins σ H s->t σ H Q->wpAny (model X.prog X.w) X.A (eval e X.env) (EP X pins σ Q) X.xe s
def PT (X:Cx) (e:Expr) (t:TT):Prop:=
 ∀ (pins:List (Addr × Obj)) (s:Shared) (σ:St) (H:Hp) (Q:Bool->Hp->Prop),Inv X pins σ H s->t σ H Q->wpAny (model X.prog X.w) X.A (isTrue e X.env (eval e X.env)) (TP X pins σ Q) X.xe s
def PW (X:Cx) (e:Expr) (t:TT):Prop:=
 ∀ (whole:Sem Value) (pins:List (Addr × Obj)) (s:Shared) (σ:St) (H:Hp) (Q:Bool->Hp->Prop),Inv X pins σ H s->t σ H Q->wpAny (model X.prog X.w) X.A (isTrue e X.env whole) (TP X pins σ Q) X.xe s
theorem PW.pt {X:Cx}{e:Expr}{t:TT}(h:PW X e t):PT X e t:=h _
def PA (X:Cx) (es:List Expr) (t:TA):Prop:=
 ∀ (pos:Pos) (pins:List (Addr × Obj)) (s:Shared) (σ:St) (H:Hp) (Q:List V->Hp->Prop),Inv X pins σ H s->t σ H Q->wpAny (model X.prog X.w) X.A (spliced (backTo pos (starEach es X.env))) (AP X pins σ Q) X.xe s
def PS (X:Cx) (st:Stmt) (t:TS):Prop:=
 ∀ (pins:List (Addr × Obj)) (s:Shared) (σ:St) (H:Hp) (D:Ends),Inv X pins σ H s->t D σ H->wpAny (model X.prog X.w) X.A (exec st X.env) (SP X pins D) X.xe s
def PSs (X:Cx) (st:List Stmt) (t:TS):Prop:=
 ∀ (pins:List (Addr × Obj)) (s:Shared) (σ:St) (H:Hp) (D:Ends),Inv X pins σ H s->t D σ H->wpAny (model X.prog X.w) X.A (execs st X.env) (SP X pins D) X.xe s
theorem thn {α:Type}{t:Sem α}{Q Q':α->Shared->Prop}{M:Model}{A:Around}{E:Value->Shared->Prop}{s:Shared}(h:wpAny M A t Q E s) (hQ:∀ a s,Q a s->Q' a s):wpAny M A t Q' E s:=wpAny_mono h hQ fun _ _ x=>x
end L2
namespace L2
open PySem PySem.Spec PyProof.Rows
section
variable {X:Cx}
def tVar (i:Nat):TE:=fun σ H Q=>∃ v,σ[i]? = some (some v)∧Q v H
def tC (v:V):TE:=fun _ H Q=>Q v H
theorem pe_var {i:Nat}{x:Str}{pos:Pos}(hN:X.N[i]? = some x) (hv:Vis X.env.scope x) (hd:(x == ("__debug__":Str))=false:=by decide) (hcd:(x == ("__classdict__":Str))=false:=by decide):PE X (.Name x pos) (tVar i):=by
 intro pins s σ H Q I h
 obtain ⟨v,e,h⟩:=h
 obtain ⟨m,hn,hl⟩:=I.loc
 obtain ⟨u,r,l⟩:=hl i x v hN e hv
 have fin:EP X pins σ Q u s:=⟨v,H,I,r,h⟩
 rcases l with ⟨hk,hm⟩|⟨hk,c,hc,hcell⟩
 ·exact wpAny_Name (wpAny_loadName_local I.ok.kind hk hn hm fin) hd
 ·rcases hk with hk|hk
  ·exact wpAny_Name (wpAny_loadName_cell I.ok.kind hk hc hcell fin) hd
  ·exact wpAny_Name (wpAny_loadName_free I.ok.kind hk hc hcell fin hcd) hd
theorem pe_int {i j pos}:PE X (.Constant (.int i) j pos) (tC (.int i)):=fun _ _ _ H _ I h=>wpAny_Constant_int ⟨.int i,H,I.tok _,⟨_,rfl⟩,h⟩
theorem pe_bl {b j pos}:PE X (.Constant (.bool b) j pos) (tC (.bl b)):=fun _ _ _ H _ I h=>Constant_bool ⟨.bl b,H,I,rfl,h⟩
theorem pe_non {j pos}:PE X (.Constant .none j pos) (tC .non):=fun _ _ _ H _ I h=>Constant_none ⟨.non,H,I,rfl,h⟩
theorem pe_str {x j pos}:PE X (.Constant (.str x) j pos) (tC (.str x)):=fun _ _ _ H _ I h=>Calls.Constant_str ⟨.str x,H,I.tok _,⟨_,rfl⟩,h⟩
def Gl (X:Cx) (x:Str):Prop:=X.env.kindOf x=some .globalImplicit
theorem ld_glob {E:Value->Shared->Prop}{pins:List (Addr × Obj)}{s:Shared}{σ:St}{H:Hp}{x:Str}{u:Value}{pos:Pos}{Q:Value->Shared->Prop}(I:Inv X pins σ H s) (hg:Gl X x) (hm:X.mg x=some u) (h:Q u s)
  (hd:(x == ("__debug__":Str))=false:=by decide):wpAny (model X.prog X.w) X.A (eval (.Name x pos) X.env) Q E s:=
 Calls.Name_function_global I.ok.kind hg (Calls.loadGlobal_global (by rw [I.ok.glob];exact I.mod.glob.keeps I.bk) hm h) hd
theorem ld_blt {E:Value->Shared->Prop}{pins:List (Addr × Obj)}{s:Shared}{σ:St}{H:Hp}{x:Str}{u:Value}{pos:Pos}{Q:Value->Shared->Prop}(I:Inv X pins σ H s) (hg:Gl X x) (hm:X.mg x=none) (hv:bootBuiltins x=some u) (h:Q u s)
  (hn:x ≠ "__name__":=by decide) (hd:(x == ("__debug__":Str))=false:=by decide):wpAny (model X.prog X.w) X.A (eval (.Name x pos) X.env) Q E s:=by
 obtain ⟨mb,h1,h2⟩:=I.mod.blt
 exact Calls.Name_function_global I.ok.kind hg (Calls.loadGlobal_builtin (by rw [I.ok.glob];exact I.mod.glob.keeps I.bk) hm (by rw [I.ok.blt];exact h1.keeps I.bk) ((h2 x hn).trans hv) h) hd
theorem pe_glob {x:Str}{v:V}{u:Value}{pos:Pos}(hg:Gl X x) (hm:X.mg x=some u) (r:RelV v u) (hd:(x == ("__debug__":Str))=false:=by decide):PE X (.Name x pos) (tC v):=
 fun _ _ _ H _ I h=>ld_glob I hg hm ⟨v,H,I,r,h⟩ hd
theorem pe_bltn {x:Str}{v:V}{u:Value}{pos:Pos}(hg:Gl X x) (hm:X.mg x=none) (hv:bootBuiltins x=some u) (r:RelV v u) (hn:x ≠ "__name__":=by decide) (hd:(x == ("__debug__":Str))=false:=by decide):PE X (.Name x pos) (tC v):=
 fun _ _ _ H _ I h=>ld_blt I hg hm hv ⟨v,H,I,r,h⟩ hn hd
variable {a b:Expr}{ta tb:TE}{pos:Pos}
def tB (t:TE):TT:=fun σ H Q=>t σ H fun x H1=>∃ c,x=.bl c∧Q c H1
theorem pt_val {e:Expr}{t:TE}(h:PE X e t) (he:∀ whole,isTrue e X.env whole=(do let v ←whole;standAt e.pos;holding [v] (truthy v)):=by intro _;rfl):PT X e (tB t):=by
 intro pins s σ H Q I hw
 refine isTrue_plain (thn (h pins s σ H _ I hw) fun v s1 ⟨x,H1,I1,r1,q1⟩=>?_) (he _)
 obtain ⟨d,rfl,q⟩:=q1
 cases r1
 exact wpAny_truthy_bool ⟨H1,I1,q⟩
variable {tA tB':TT}{rest:List Expr}
def tAnd (t u:TT):TT:=fun σ H Q=>t σ H fun c H1=>if c=true then u σ H1 Q else Q false H1
def tOr (t u:TT):TT:=fun σ H Q=>t σ H fun c H1=>if c=true then Q true H1 else u σ H1 Q
def tNot (t:TT):TT:=fun σ H Q=>t σ H fun c H1=>Q (!c) H1
theorem pw_and1 (ha:PT X a tA):PW X (.BoolOp .And [a] pos) tA:=by
 intro wh pins s σ H Q I h
 refine isTrue_and (thn (ha pins s σ H Q I h) fun c s1 e=>?_)
 cases c with
 | true=>exact isTrue_and_nil e
 | false=>exact e
theorem pw_or1 (ha:PT X a tA):PW X (.BoolOp .Or [a] pos) tA:=by
 intro wh pins s σ H Q I h
 refine isTrue_or (thn (ha pins s σ H Q I h) fun c s1 e=>?_)
 cases c with
 | false=>exact isTrue_or_nil e
 | true=>exact e
theorem pw_and (ha:PT X a tA) (hb:PW X (.BoolOp .And (b::rest) pos) tB'):PW X (.BoolOp .And (a::b::rest) pos) (tAnd tA tB'):=by
 intro wh pins s σ H Q I h
 refine isTrue_and (thn (ha pins s σ H _ I h) fun c s1 ⟨H1,I1,q1⟩=>?_)
 cases c with
 | true=>exact hb wh pins s1 σ H1 Q I1 q1
 | false=>exact ⟨H1,I1,q1⟩
theorem pw_or (ha:PT X a tA) (hb:PW X (.BoolOp .Or (b::rest) pos) tB'):PW X (.BoolOp .Or (a::b::rest) pos) (tOr tA tB'):=by
 intro wh pins s σ H Q I h
 refine isTrue_or (thn (ha pins s σ H _ I h) fun c s1 ⟨H1,I1,q1⟩=>?_)
 cases c with
 | true=>exact ⟨H1,I1,q1⟩
 | false=>exact hb wh pins s1 σ H1 Q I1 q1
theorem pt_not (ha:PT X a tA):PT X (.UnaryOp .Not a pos) (tNot tA):=by
 intro pins s σ H Q I h
 exact isTrue_not (ha pins s σ H (fun c H1=>Q (!c) H1) I h)
def tAndV (ta tb:TE):TE:=fun σ H Q=>ta σ H fun x H1=>∃ c,x=.bl c∧if c=true then tb σ H1 Q else Q (.bl false) H1
def tOrV (ta tb:TE):TE:=fun σ H Q=>ta σ H fun x H1=>∃ c,x=.bl c∧if c=true then Q (.bl true) H1 else tb σ H1 Q
def tNotV (ta:TE):TE:=fun σ H Q=>ta σ H fun x H1=>∃ c,x=.bl c∧Q (.bl (!c)) H1
theorem pe_one {op}{t:TE}(h:PE X a t):PE X (.BoolOp op [a] pos) t:=fun pins s σ H Q I hw=>BoolOp_one (h pins s σ H Q I hw)
theorem pe_and (ha:PE X a ta) (hb:PE X (.BoolOp .And (b::rest) pos) tb):PE X (.BoolOp .And (a::b::rest) pos) (tAndV ta tb):=by
 intro pins s σ H Q I h
 refine BoolOp_and (thn (ha pins s σ H _ I h) fun v s1 ⟨x,H1,I1,r1,q1⟩=>?_)
 obtain ⟨c,rfl,q1⟩:=q1
 cases r1
 refine wpAny_truthy_bool ?_
 cases c with
 | true=>exact hb pins s1 σ H1 Q I1 q1
 | false=>exact ⟨.bl false,H1,I1,rfl,q1⟩
theorem pe_or (ha:PE X a ta) (hb:PE X (.BoolOp .Or (b::rest) pos) tb):PE X (.BoolOp .Or (a::b::rest) pos) (tOrV ta tb):=by
 intro pins s σ H Q I h
 refine BoolOp_or (thn (ha pins s σ H _ I h) fun v s1 ⟨x,H1,I1,r1,q1⟩=>?_)
 obtain ⟨c,rfl,q1⟩:=q1
 cases r1
 refine wpAny_truthy_bool ?_
 cases c with
 | false=>exact hb pins s1 σ H1 Q I1 q1
 | true=>exact ⟨.bl true,H1,I1,rfl,q1⟩
theorem pe_not (ha:PE X a ta):PE X (.UnaryOp .Not a pos) (tNotV ta):=by
 intro pins s σ H Q I h
 refine UnaryOp_ (thn (ha pins s σ H _ I h) fun v s1 ⟨x,H1,I1,r1,q1⟩=>?_)
 obtain ⟨c,rfl,q1⟩:=q1
 cases r1
 exact not_of (wpAny_truthy_bool ⟨.bl (!c),H1,I1,rfl,q1⟩)
def tIf (t:TT) (ta tb:TE):TE:=fun σ H Q=>t σ H fun c H1=>if c=true then ta σ H1 Q else tb σ H1 Q
theorem pe_ifExp {c:Expr}(hc:PT X c tA) (ha:PE X a ta) (hb:PE X b tb):PE X (.IfExp c a b pos) (tIf tA ta tb):=by
 intro pins s σ H Q I h
 refine wpAny_IfExp (thn (hc pins s σ H _ I h) fun d s1 ⟨H1,I1,q1⟩=>?_)
 cases d with
 | true=>exact ha pins s1 σ H1 Q I1 q1
 | false=>exact hb pins s1 σ H1 Q I1 q1
end
end L2
namespace L2
open PySem PySem.Spec PyProof.Rows
def SqL (K:PySem.W.Frag) (H:Hp) (a:Addr) (xs:List V):Prop:=
 Rd H a (.lst xs) ∨
  ∃ (o:Obj) (its:Array Value) (n:Nat),K.lookup a=some o∧o.cls=.type "list" ∧ o.dict=none∧o.data=.seq its n∧its.size≤sizeLine∧Vals xs its.toList
def SqT (K:PySem.W.Frag) (H:Hp) (a:Addr) (xs:List V):Prop:=
 Rd H a (.tup xs) ∨
  ∃ (o:Obj) (its:Array Value) (n:Nat),K.lookup a=some o∧o.cls=.type "tuple" ∧ o.data=.seq its n∧its.size≤sizeLine∧Vals xs its.toList
def absV:Value->Option V
 | .none=>some .non
 | .bool b=>some (.bl b)
 | .int i _=>some (.int i)
 | .str x _=>some (.str x)
 | .bytes b _=>some (.byt b)
 | .float b _=>some (.flt b)
 | .ref a=>some (.ref a)
 | .type n=>some (.ty n)
 | _=>none
theorem RelV.abs {x:V}{u:Value}(r:RelV x u):absV u=some x:=by
 cases x with
 | non=>cases r;rfl
 | bl _=>cases r;rfl
 | int _=>obtain ⟨t,rfl⟩:=r;rfl
 | str _=>obtain ⟨t,rfl⟩:=r;rfl
 | byt _=>obtain ⟨t,rfl⟩:=r;rfl
 | flt _=>obtain ⟨t,rfl⟩:=r;rfl
 | ref _=>cases r;rfl
 | ty _=>cases r;rfl
theorem RelV.inj {x y:V}{u:Value}(r:RelV x u) (q:RelV y u):x=y:=Option.some.inj (r.abs.symm.trans q.abs)
theorem Vals.inj:∀ {xs ys:List V}{us:List Value},Vals xs us->Vals ys us->xs=ys
 | _,_,_,.nil,.nil=>rfl
 | _,_,_,.cons r t,.cons r' t'=>by rw [r.inj r',Vals.inj t t']
section
variable {X:Cx}{pins:List (Addr × Obj)}{σ:St}{H:Hp}{s:Shared}{a:Addr}{xs ys:List V}
theorem SqL.of {K:PySem.W.Frag}(h:H a=some (.lst xs)):SqL K H a xs:=.inl (.inl h)
theorem SqT.of {K:PySem.W.Frag}(h:H a=some (.tup xs)):SqT K H a xs:=.inl (.inl h)
theorem Inv.list (I:Inv X pins σ H s) (h:SqL X.K H a xs):∃ its:List Value,Vals xs its∧PlainL s.heap a its.toArray∧xs.length≤sizeLine:=by
 rcases h with h|⟨o,its,n,hk,hc,hd,hs,hz,r⟩
 ·obtain ⟨z,its,n,r,e⟩:=h.ok I.hok
  exact ⟨its,r,⟨_,n,e,rfl,rfl,rfl⟩,z⟩
 ·refine ⟨its.toList,r,⟨o,n,I.kIn a o hk,hc,hd,by simpa using hs⟩,?_⟩
  have e:=r.length
  simp only [Array.length_toList] at e
  omega
theorem Inv.tuple (I:Inv X pins σ H s) (h:SqT X.K H a xs):∃ its:List Value,Vals xs its∧IsTup s.heap a its.toArray∧xs.length≤sizeLine:=by
 rcases h with h|⟨o,its,n,hk,hc,hs,hz,r⟩
 ·obtain ⟨z,its,r,p⟩:=h.ok I.hok
  exact ⟨its,r,p,z⟩
 ·refine ⟨its.toList,r,⟨o,I.kIn a o hk,hc,n,by simpa using hs⟩,?_⟩
  have e:=r.length
  simp only [Array.length_toList] at e
  omega
theorem Inv.list_inj (I:Inv X pins σ H s) (h:SqL X.K H a xs) (h':SqL X.K H a ys):xs=ys:=by
 obtain ⟨its,r,⟨o,n,e,_,_,d⟩,_⟩:=I.list h
 obtain ⟨its',r',⟨o',n',e',_,_,d'⟩,_⟩:=I.list h'
 rw [e] at e';cases e'
 rw [d] at d'
 injection d' with d1 _
 have:its=its':=by simpa using congrArg Array.toList d1
 subst this
 exact r.inj r'
theorem Inv.tuple_inj (I:Inv X pins σ H s) (h:SqT X.K H a xs) (h':SqT X.K H a ys):xs=ys:=by
 obtain ⟨its,r,⟨o,e,_,n,d⟩,_⟩:=I.tuple h
 obtain ⟨its',r',⟨o',e',_,n',d'⟩,_⟩:=I.tuple h'
 rw [e] at e';cases e'
 rw [d] at d'
 injection d' with d1 _
 have:its=its':=by simpa using congrArg Array.toList d1
 subst this
 exact r.inj r'
end
abbrev Cx.wish (X:Cx) (E:Value->Shared->Prop):Cx:={ X with xe:=E }
abbrev Cx.nox (X:Cx):Cx:=X.wish fun _ _=>False
theorem Cx.Ok.wish {X:Cx}(ok:X.Ok) (E:Value->Shared->Prop):(X.wish E).Ok:=
 ⟨ok.mod,ok.kind,ok.glob,ok.blt,ok.above,ok.inj,ok.has,ok.cab,ok.hd,ok.frames,ok.stk,ok.exf,ok.bs,ok.bsz,ok.noex,ok.exfs,ok.funs,ok.frf⟩
theorem Cx.Ok.unwish {X:Cx}{E:Value->Shared->Prop}(ok:(X.wish E).Ok):X.Ok:=
 ⟨ok.mod,ok.kind,ok.glob,ok.blt,ok.above,ok.inj,ok.has,ok.cab,ok.hd,ok.frames,ok.stk,ok.exf,ok.bs,ok.bsz,ok.noex,ok.exfs,ok.funs,ok.frf⟩
section
variable {X:Cx}{pins:List (Addr × Obj)}{σ:St}{H:Hp}{s:Shared}{E:Value->Shared->Prop}
theorem Inv.wish (I:Inv X pins σ H s) (E:Value->Shared->Prop):Inv (X.wish E) pins σ H s:=⟨I.ok.wish E,I.os,I.bare,I.base,I.loc,I.cell,I.free,I.freeC,I.pin,I.hok,I.len⟩
theorem Inv.unwish (I:Inv (X.wish E) pins σ H s):Inv X pins σ H s:=⟨I.ok.unwish,I.os,I.bare,I.base,I.loc,I.cell,I.free,I.freeC,I.pin,I.hok,I.len⟩
theorem SP.unwish {D:Ends}{f:Flow}{s':Shared}(h:SP (X.wish E) pins D f s'):SP X pins D f s':=by
 cases f with
 | next=>obtain ⟨σ',H',I,q⟩:=h;exact ⟨σ',H',I.unwish,q⟩
 | brk=>obtain ⟨σ',H',I,q⟩:=h;exact ⟨σ',H',I.unwish,q⟩
 | cont=>obtain ⟨σ',H',I,q⟩:=h;exact ⟨σ',H',I.unwish,q⟩
 | ret u=>obtain ⟨v,σ',H',I,r,q⟩:=h;exact ⟨v,σ',H',I.unwish,r,q⟩
theorem PSs.nox {st:List Stmt}{t:TS}(h:PSs X.nox st t):PSs X st t:=fun pins s σ H D I hw=>
 wpAny_mono (h pins s σ H D (I.wish _) hw) (fun _ _ q=>q.unwish) fun _ _ z=>False.elim z
end
section
variable {X:Cx}{st:Stmt}{rest:List Stmt}{t u:TS}{e:Expr}{te:TE}{pos:Pos}
def tNext:TS:=fun D σ H=>D.nx σ H
def tSeq (t u:TS):TS:=fun D σ H=>t { D with nx:=u D } σ H
theorem pss_nil:PSs X [] tNext:=fun _ _ σ H _ I h=>wpAny_execs_nil ⟨σ,H,I,h⟩
theorem pss_cons (h1:PS X st t) (h2:PSs X rest u):PSs X (st::rest) (tSeq t u):=by
 intro pins s σ H D I h
 refine wpAny_execs_cons (thn (h1 pins s σ H { D with nx:=u D } I h) fun f s1 q=>?_)
 cases f with
 | next=>
  obtain ⟨σ',H',I',q⟩:=q
  exact h2 pins s1 σ' H' D I' q
 | ret v=>exact q
 | brk=>exact q
 | cont=>exact q
theorem pss_one (h1:PS X st t):PSs X [st] t:=by
 intro pins s σ H D I h
 refine wpAny_execs_cons (thn (h1 pins s σ H D I h) fun f s1 q=>?_)
 cases f with
 | next=>exact wpAny_execs_nil q
 | ret v=>exact q
 | brk=>exact q
 | cont=>exact q
theorem Inv.quiet {pins:List (Addr × Obj)}{σ:St}{H:Hp}{s:Shared}(I:Inv X pins σ H s):interactive X.env=false:=by simp [interactive,I.ok.kind]
def tDrop (te:TE):TS:=fun D σ H=>te σ H fun _ H1=>D.nx σ H1
theorem ps_expr (he:PE X e te) (hs:swapsWith e none pos.line X.env=pure false:=by rfl):PS X (.Expr e pos) (tDrop te):=by
 intro pins s σ H D I h
 exact wpAny_Expr_any (thn (he pins s σ H _ I h) fun v s1 ⟨x,H1,I1,r1,q1⟩=>⟨σ,H1,I1,q1⟩) I.quiet hs
def tRet (te:TE):TS:=fun D σ H=>te σ H D.rt
theorem ps_ret (he:PE X e te):PS X (.Return (some e) pos) (tRet te):=by
 intro pins s σ H D I h
 exact wpAny_Return_some (thn (he pins s σ H _ I h) fun v s1 ⟨x,H1,I1,r1,q1⟩=>⟨x,σ,H1,I1,r1,q1⟩)
def tIfS (c:TT) (t u:TS):TS:=fun D σ H=>c σ H fun b H1=>if b=true then t D σ H1 else u D σ H1
theorem ps_if {c:Expr}{a b:List Stmt}{tc:TT}(hc:PT X c tc) (ha:PSs X a t) (hb:PSs X b u):PS X (.If c a b pos) (tIfS tc t u):=by
 intro pins s σ H D I h
 refine wpAny_If (thn (hc pins s σ H _ I h) fun d s1 ⟨H1,I1,q1⟩=>?_)
 cases d with
 | true=>exact ha pins s1 σ H1 D I1 q1
 | false=>exact hb pins s1 σ H1 D I1 q1
def tNever:TS:=fun _ _ _=>False
theorem ps_never:PS X st tNever:=fun _ _ _ _ _ _ h=>h.elim
end
abbrev TG:=V->St->Hp->(St->Hp->Prop)->Prop
def PG (X:Cx) (target:Expr) (t:TG):Prop:=
 ∀ (pins:List (Addr × Obj)) (s:Shared) (σ:St) (H:Hp) (v:V) (u:Value) (Q:St->Hp->Prop),Inv X pins σ H s->RelV v u->t v σ H Q →
  wpAny (model X.prog X.w) X.A (assign target X.env u) (fun _ s'=>∃ σ' H',Inv X pins σ' H' s'∧Q σ' H') X.xe s
abbrev TSet:=V->V->V->Hp->(Hp->Prop)->Prop
def PSet (X:Cx) (t:TSet):Prop:=
 ∀ (pins:List (Addr × Obj)) (s:Shared) (σ:St) (H:Hp) (o i v:V) (ov iv u:Value) (Q:Hp->Prop),Inv X pins σ H s->RelV o ov->RelV i iv->RelV v u->t o i v H Q →
  wpAny (model X.prog X.w) X.A (setItem ov iv u) (fun _ s'=>∃ H',Inv X pins σ H' s'∧Q H') X.xe s
section
variable {X:Cx}{pos:Pos}
def gName (i:Nat):TG:=fun v σ H Q=>Q (σ.set i (some v)) H
theorem pg_name {i:Nat}{x:Str}(hN:X.N.Nodup) (hi:X.N[i]? = some x) (hx:Loc X.env.scope x) (hf:X.fn x=true∨X.env.scope.names.lookup x=some .local:=by first|exact .inl rfl|exact .inr rfl|assumption):PG X (.Name x pos) (gName i):=by
 intro pins s σ H v u Q I r h
 exact wpAny_assign_Name (store_ok I hN hi hx r (fun s' I'=>⟨_,H,I',h⟩) hf)
def gSub (to ti:TE) (t:TSet):TG:=fun v σ H Q=>to σ H fun o H1=>ti σ H1 fun i H2=>t o i v H2 fun H3=>Q σ H3
theorem pg_sub {o i:Expr}{to ti:TE}{t:TSet}(ho:PE X o to) (hi:PE X i ti) (hs:PSet X t)
  (ha:∀ v,assign (.Subscript o i pos) X.env v=(do
   let ov ←holding [v] (eval o X.env)
   let iv ←holding [v,ov] (eval i X.env)
   standAt pos
   holding [v,ov,iv] (setItem ov iv v)
   release [v,ov,iv] []):=by intro _;rfl):PG X (.Subscript o i pos) (gSub to ti t):=by
 intro pins s σ H v u Q I r h
 rw [ha]
 refine wpAny_bind (wpAny_holding (thn (ho pins s σ H _ I h) fun ov s1 ⟨x,H1,I1,r1,q1⟩=>?_))
 refine wpAny_bind (wpAny_holding (thn (hi pins s1 σ H1 _ I1 q1) fun iv s2 ⟨y,H2,I2,r2,q2⟩=>?_))
 refine wpAny_bind (wpAny_standAt (wpAny_bind (wpAny_holding (thn (hs pins s2 σ H2 x y v ov iv u _ I2 r1 r2 r q2) fun _ s3 ⟨H3,I3,q3⟩=>?_))))
 exact wpAny_release ⟨σ,H3,I3,q3⟩
def tAsg (te:TE) (g:TG):TS:=fun D σ H=>te σ H fun x H1=>g x σ H1 D.nx
theorem ps_asg {tg e:Expr}{te:TE}{g:TG}(he:PE X e te) (hg:PG X tg g) (hs:swapsWithSole [tg] e pos.line X.env=pure false:=by rfl) (hw:swappedStores [tg] e X.env=pure none:=by rfl)
  (h1:(assignEach [tg] X.env).map (·.2)=[assign tg X.env]:=by rfl):PS X (.Assign [tg] e pos) (tAsg te g):=by
 intro pins s σ H D I h
 refine wpAny_Assign_stores (thn (he pins s σ H _ I h) fun v s1 ⟨x,H1,I1,r1,q1⟩=>?_) hs hw
 rw [h1]
 exact thn (hg pins s1 σ H1 x v _ I1 r1 q1) fun _ s2 q=>q
theorem ps_set {i:Nat}{x:Str}{e:Expr}{te:TE}{pos':Pos}(hN:X.N.Nodup) (hi:X.N[i]? = some x) (hx:Loc X.env.scope x) (he:PE X e te) (hs:swapsWith e (some (.Name x pos')) pos.line X.env=pure false:=by rfl) (hf:X.fn x=true∨X.env.scope.names.lookup x=some .local:=by first|exact .inl rfl|exact .inr rfl|assumption) :
  PS X (.Assign [.Name x pos'] e pos) (tAsg te (gName i)):=by
 intro pins s σ H D I h
 refine wpAny_Assign_Name (thn (he pins s σ H _ I h) fun v s1 ⟨y,H1,I1,r1,q1⟩=>?_) hs
 exact store_ok I1 hN hi hx r1 (fun s2 I2=>⟨_,H1,I2,q1⟩) hf
end
section
variable {X:Cx}{pos:Pos}
end
structure It where
 go:Nat->Hp->Prop
 yld:Nat->Hp->V->Hp->Prop
 stop:Nat->Hp->Prop
def FpOk (X:Cx) (pins:List (Addr × Obj)) (H:Hp) (b:Addr):Prop:=
 H b=none∧b ≠ X.env.locals∧b ∉ X.fs∧(b∈X.ex∨X.s₀.heap.objs.size≤b)∧(∀ x c,X.env.cells.lookup x=some c->c ≠ b)∧∀ p∈X.pn++pins,p.1 ≠ b
theorem Inv.fpOk {X:Cx}{pins:List (Addr × Obj)}{σ:St}{H H':Hp}{s:Shared}{b:Addr}(I:Inv X pins σ H s) (hb:s.heap.objs.size≤b) (hn:H' b=none):FpOk X pins H' b:=by
 refine ⟨hn,Nat.ne_of_gt (Nat.lt_of_lt_of_le I.lt hb),I.nofs hb,.inr (Nat.le_trans I.sz hb),fun x c e z=>?_,fun p hp z=>?_⟩
 ·obtain ⟨v,q⟩:=I.cell x c e
  exact absurd (Nat.lt_of_lt_of_le q.lt (by rw [z];exact hb)) (Nat.lt_irrefl _)
 ·exact absurd (Nat.lt_of_lt_of_le (Heap.lt_size (I.pin p hp).1) (by rw [z];exact hb)) (Nat.lt_irrefl _)
structure Turn (P:Program) (w:World) (K:PySem.W.Frag) (tg:Expr) (J:It) (fp:List Addr) (it:Addr) (tn:Nat->Heap->Prop):Prop where
 mem:it∈fp
 obj:∀ i h,tn i h->∀ b∈fp,∃ o,h.get? b=some o∧∀ v,o.data ≠ .cell v
 keep:∀ i h h',tn i h->(∀ b∈fp,∀ o,h.get? b=some o->h'.get? b=some o)->tn i h'
 item:∀ (X:Cx),X.prog=P->X.w=w->X.K=K->X.calm=true->∀ (i:Nat) (pins:List (Addr × Obj)) (s:Shared) (σ:St) (H:Hp) (E:Value->Shared->Prop),Inv X pins σ H s->(∀ b∈fp,FpOk X pins H b)->tn i s.heap->J.go i H →
  wpAny (model P w) X.A (pyNext (.ref it)) (fun r s1=>∃ u,r=some u ∧
   wpAny (model P w) X.A (letOwnedTupleGo tg (.ref it) u) (fun _ s2=>∃ x H',Inv X pins σ H' s2∧RelV x u∧J.yld i H x H'∧tn (i+1) s2.heap∧∀ b∈fp,H' b=none) E s1) E s
 done:∀ (X:Cx),X.prog=P->X.w=w->X.K=K->X.calm=true->∀ (i:Nat) (pins:List (Addr × Obj)) (s:Shared) (σ:St) (H:Hp) (E:Value->Shared->Prop),Inv X pins σ H s->(∀ b∈fp,FpOk X pins H b)->tn i s.heap->J.stop i H →
  wpAny (model P w) X.A (pyNext (.ref it)) (fun r s1=>r=none∧Inv X pins σ H s1) E s
 self:∀ (A:Around) (i:Nat) (s:Shared) (Q:Value->Shared->Prop) (E:Value->Shared->Prop),tn i s.heap->Q (.ref it) s->wpAny (model P w) A (pyIter (.ref it)) Q E s
abbrev TI:=St->Hp->(It->Hp->Prop)->Prop
def PIE (X:Cx) (pins:List (Addr × Obj)) (σ:St) (tg:Expr) (R:It->Hp->Prop) (itv:Value) (s2:Shared):Prop:=
 ∃ (it:Addr) (fp:List Addr) (tn:Nat->Heap->Prop) (J:It) (H':Hp),itv=.ref it∧Inv X pins σ H' s2∧Turn X.prog X.w X.K tg J fp it tn∧tn 0 s2.heap∧(∀ b∈fp,FpOk X pins H' b)∧R J H'
def PI (X:Cx) (tg iter:Expr) (wi:TI):Prop:=
 ∀ (pins:List (Addr × Obj)) (s:Shared) (σ:St) (H:Hp) (R:It->Hp->Prop),Inv X pins σ H s->wi σ H R →
  wpAny (model X.prog X.w) X.A (eval iter X.env) (fun v s1=>wpAny (model X.prog X.w) X.A (pyIter v) (PIE X pins σ tg R) X.xe s1) X.xe s
theorem go_of {M:Model}{A:Around}{E:Value->Shared->Prop}{s:Shared}{tg:Expr}{it:Addr}{u:Value}{o:Obj}{n:String}{vs:Array Value}{Q:Unit->Shared->Prop}(ho:s.heap.get? it=some o) (hc:o.cls=.type n) (hd:o.data=.fields vs)
    (hn:["enumerate", "zip", "dict_itemiterator", "dict_reverseitemiterator", "odict_iterator", "itertools.zip_longest", "itertools.pairwise"].contains n=false) (hQ:Q () s):wpAny M A (letOwnedTupleGo tg (.ref it) u) Q E s:=by
  unfold letOwnedTupleGo
  cases tg<;>first
    | exact wpAny_pure hQ
    | (cases u<;>first
        | exact wpAny_pure hQ
        | (refine wpAny_bind (wpAny_load ho ?_)
           rw [hc,hd]
           show wpAny M A (if (["enumerate", "zip", "dict_itemiterator", "dict_reverseitemiterator", "odict_iterator", "itertools.zip_longest", "itertools.pairwise"].contains n && vs[0]? == some (rawInt _))=true then _ else _) Q E s
           rw [if_neg (by intro h;rw [hn,Bool.false_and] at h;cases h)]
           exact wpAny_pure hQ))
def Itl (K:PySem.W.Frag) (a:Addr):It:=
 ⟨fun i H=>∃ xs x,SqL K H a xs∧xs[i]? = some x,fun i H x H'=>H'=H∧∀ xs,SqL K H a xs->xs[i]? = some x,fun i H=>∃ xs,SqL K H a xs∧xs.length≤i⟩
def Itt (K:PySem.W.Frag) (a:Addr):It:=
 ⟨fun i H=>∃ xs x,SqT K H a xs∧xs[i]? = some x,fun i H x H'=>H'=H∧∀ xs,SqT K H a xs->xs[i]? = some x,fun i H=>∃ xs,SqT K H a xs∧xs.length≤i⟩
def Itr (lo:Int) (n:Nat):It:=⟨fun i _=>i < n,fun i H x H'=>H'=H∧x=.int (lo+i),fun i _=>n≤i⟩
theorem turn_list {P:Program}{w:World}{K:PySem.W.Frag}{tg:Expr}(a it:Addr):Turn P w K tg (Itl K a) [it] it (fun i h=>h.IsListIter it a i) where
 mem:=by simp
 obj:=fun i h st b hb=>by
  have e:b=it:=by simpa using hb
  subst e
  obtain ⟨o,e,c,d⟩:=st
  exact ⟨o,e,fun v z=>by rw [d] at z;cases z⟩
 keep:=fun i h h' st k=>st.at fun o e=>k it (by simp) o e
 item:=by
  intro X hP hw hK hc i pins s σ H E I hf st hg
  subst hP hw hK
  obtain ⟨xs,x,hq,hx⟩:=hg
  obtain ⟨its,rv,p,hz⟩:=I.list hq
  obtain ⟨u,hu,ru⟩:=rv.get hx
  obtain ⟨f0,f1,f2,f3,f4,f5⟩:=hf it (by simp)
  refine wpAny_pyNext_list_item st p.isList (x:=u) (by simpa using hu) fun h' st' sb=>?_
  have I1:Inv X pins σ H { s with heap:=h' }:=I.turned (t':=s.toks) (fun b o hb e=>(sb.2 b hb).trans e) f0 f1 f3 f4 f5
  obtain ⟨o,e,c,d⟩:=id st'
  exact ⟨u,rfl,go_of (s:={ s with heap:=h' }) e c d (by decide) ⟨x,H,I1,ru,⟨rfl,fun ys hy=>by rw [I.list_inj hy hq];exact hx⟩,st',fun b hb=>(hf b hb).1⟩⟩
 done:=by
  intro X hP hw hK hc i pins s σ H E I hf st hg
  subst hP hw hK
  obtain ⟨xs,hq,hx⟩:=hg
  obtain ⟨its,rv,p,hz⟩:=I.list hq
  obtain ⟨f0,f1,f2,f3,f4,f5⟩:=hf it (by simp)
  have hl:=rv.length
  exact wpAny_pyNext_list_end (I.ok.hd hc) st p.isList (by simp;omega) fun h' eb=>⟨rfl,I.turned (t':=s.toks) (fun b o hb e=>eb b o hb e) f0 f1 f3 f4 f5⟩
 self:=fun _ _ _ _ _ st h=>wpAny_pyIter_listiter st h
theorem turn_tuple {P:Program}{w:World}{K:PySem.W.Frag}{tg:Expr}(a it:Addr):Turn P w K tg (Itt K a) [it] it (fun i h=>h.IsTupleIter it a i) where
 mem:=by simp
 obj:=fun i h st b hb=>by
  have e:b=it:=by simpa using hb
  subst e
  obtain ⟨o,e,c,d⟩:=st
  exact ⟨o,e,fun v z=>by rw [d] at z;cases z⟩
 keep:=fun i h h' st k=>st.at fun o e=>k it (by simp) o e
 item:=by
  intro X hP hw hK hc i pins s σ H E I hf st hg
  subst hP hw hK
  obtain ⟨xs,x,hq,hx⟩:=hg
  obtain ⟨its,rv,p,hz⟩:=I.tuple hq
  obtain ⟨u,hu,ru⟩:=rv.get hx
  obtain ⟨f0,f1,f2,f3,f4,f5⟩:=hf it (by simp)
  refine wpAny_pyNext_tuple_item st (show s.heap.IsTuple a its.toArray from p) (x:=u) (by simpa using hu) fun h' st' sb=>?_
  have I1:Inv X pins σ H { s with heap:=h' }:=I.turned (t':=s.toks) (fun b o hb e=>(sb.2 b hb).trans e) f0 f1 f3 f4 f5
  obtain ⟨o,e,c,d⟩:=id st'
  exact ⟨u,rfl,go_of (s:={ s with heap:=h' }) e c d (by decide) ⟨x,H,I1,ru,⟨rfl,fun ys hy=>by rw [I.tuple_inj hy hq];exact hx⟩,st',fun b hb=>(hf b hb).1⟩⟩
 done:=by
  intro X hP hw hK hc i pins s σ H E I hf st hg
  subst hP hw hK
  obtain ⟨xs,hq,hx⟩:=hg
  obtain ⟨its,rv,p,hz⟩:=I.tuple hq
  obtain ⟨f0,f1,f2,f3,f4,f5⟩:=hf it (by simp)
  have hl:=rv.length
  exact wpAny_pyNext_tuple_end (I.ok.hd hc) st (show s.heap.IsTuple a its.toArray from p) (by simp;omega) fun h' eb=>⟨rfl,I.turned (t':=s.toks) (fun b o hb e=>eb b o hb e) f0 f1 f3 f4 f5⟩
 self:=fun _ _ _ _ _ st h=>wpAny_pyIter_tupleiter st h
theorem turn_range {P:Program}{w:World}{K:PySem.W.Frag}{tg:Expr}(it:Addr) (lo:Int) (n:Nat):Turn P w K tg (Itr lo n) [it] it (fun i h=>IsRangeIter h it (lo+(i:Nat) * 1) ((n:Int) - (i:Nat)) 1) where
 mem:=by simp
 obj:=fun i h st b hb=>by
  have e:b=it:=by simpa using hb
  subst e
  exact ⟨_,st,fun v z=>by
   have z':Data.fields _=Data.cell v:=z
   cases z'⟩
 keep:=fun i h h' st k=>k it (by simp) _ st
 item:=by
  intro X hP hw hK hc i pins s σ H E I hf st hg
  subst hP hw hK
  obtain ⟨f0,f1,f2,f3,f4,f5⟩:=hf it (by simp)
  have W:=Walks.range (prog:=X.prog) (w:=X.w) (I.ok.hd hc) it lo 1 n
  refine W.item i s _ _ hg st fun v h' tk hv st' kk=>?_
  obtain ⟨t,rfl⟩:=hv
  have I1:Inv X pins σ H { s with heap:=h',toks:=tk }:=I.turned (fun b o hb e=>kk b o (by simpa using hb) e) f0 f1 f3 f4 f5
  refine ⟨_,rfl,go_of (s:={ s with heap:=h',toks:=tk }) (n := "range_iterator") st' rfl rfl (by decide) ⟨.int (lo+i),H,I1,⟨t,?_⟩,⟨rfl,rfl⟩,st',fun b hb=>(hf b hb).1⟩⟩
  rw [Int.mul_one]
 done:=by
  intro X hP hw hK hc i pins s σ H E I hf st hg
  subst hP hw hK
  obtain ⟨f0,f1,f2,f3,f4,f5⟩:=hf it (by simp)
  exact wpAny_pyNext_range_end (I.ok.hd hc) st (by have:n≤i:=hg;omega) fun h' eb=>⟨rfl,I.turned (t':=s.toks) (fun b o hb e=>eb b o hb e) f0 f1 f3 f4 f5⟩
 self:=fun _ _ _ _ _ st h=>wpAny_pyIter_rangeiter st h
end L2
namespace L2
open PySem PySem.Spec PyProof.Rows
section
variable {X:Cx}{tg:Expr}
theorem range_it {pins:List (Addr × Obj)}{σ:St}{H:Hp}{s:Shared}{R:It->Hp->Prop}{E:Value->Shared->Prop}{lo hi:Int}{t u v:Tok}{tk:Nat}(I:Inv X pins σ H s) (h1:-(2 ^ 62)≤lo) (h2:lo < 2 ^ 62) (h3:-(2 ^ 62)≤hi) (h4:hi < 2 ^ 62)
  (q:R (Itr lo (hi - lo).toNat) H):wpAny (model X.prog X.w) X.A (pyIter (.ref s.heap.objs.size)) (PIE X pins σ tg R) E { s with heap:=s.heap.push { cls:=.type "range",data:=.fields #[.int lo t,.int hi u,.int 1 v] },toks:=tk }:=by
 refine wpAny_pyIter_range (IsRange.new ..) (small_one h1 h2 h3 h4) ?_
 have I1:Inv X pins σ H { s with heap:=s.heap.push { cls:=.type "range",data:=.fields #[.int lo t,.int hi u,.int 1 v] },toks:=tk }:=I.kept fun b o e=>Heap.get?_push_of_some _ e
 refine ⟨(s.heap.push { cls:=.type "range",data:=.fields #[.int lo t,.int hi u,.int 1 v] }).objs.size,[(s.heap.push { cls:=.type "range",data:=.fields #[.int lo t,.int hi u,.int 1 v] }).objs.size],_,_,H,rfl,
  I1.kept (t':=tk) fun b o e=>Heap.get?_push_of_some _ e,turn_range _ lo (hi - lo).toNat,?_,fun b hb=>?_,q⟩
 ·have e1:lo+((0:Nat):Int) * 1=lo:=by simp
  have e2:(((hi - lo).toNat:Nat):Int) - ((0:Nat):Int)=Builtin.Range.rangeSize lo hi 1:=by rw [rangeSize_one];split<;>omega
  show IsRangeIter _ _ (lo+((0:Nat):Int) * 1) ((((hi - lo).toNat:Nat):Int) - ((0:Nat):Int)) 1
  rw [e1,e2]
  exact Heap.get?_push_size _ rfl
 ·have e:b=(s.heap.push { cls:=.type "range",data:=.fields #[.int lo t,.int hi u,.int 1 v] }).objs.size:=by simpa using hb
  subst e
  exact I1.fpOk (Nat.le_refl _) (I1.hok.fresh (Nat.le_refl _))
def iRng1 (ta:TA):TI:=fun σ H R=>ta σ H fun vs H1=>∃ j:Int,vs=[.int j]∧-(2 ^ 62)≤j∧j < 2 ^ 62∧R (Itr 0 j.toNat) H1
def iRng2 (ta:TA):TI:=fun σ H R=>ta σ H fun vs H1=>∃ i j:Int,vs=[.int i,.int j]∧(-(2 ^ 62)≤i∧i < 2 ^ 62∧-(2 ^ 62)≤j∧j < 2 ^ 62)∧R (Itr i (j - i).toNat) H1
theorem pi_range1 {a:Expr}{ta:TA}{p pos:Pos}(hg:Gl X "range") (hm:X.mg "range"=none) (ha:PA X [a] ta) (hs:starEach [a] X.env=[(false,eval a X.env)]:=by rfl):PI X tg (.Call (.Name "range" p) [a] [] pos) (iRng1 ta):=by
 intro pins s σ H R I h
 refine Call_ (ld_blt I hg hm boot_range (PyProof.Rows.callWith_type1 (thn (ha pos pins s σ H _ I h) fun us s1 ⟨vs,H1,I1,r1,q1⟩=>?_) hs rfl))
 obtain ⟨j,e,q1,q2,q⟩:=q1
 subst e
 cases r1 with
 | cons r rr=>
  cases rr
  obtain ⟨t,rfl⟩:=r
  exact call_range_1 (range_it I1 (by omega) (by omega) q1 q2 (by simpa using q))
theorem pi_range2 {a b:Expr}{ta:TA}{p pos:Pos}(hg:Gl X "range") (hm:X.mg "range"=none) (ha:PA X [a,b] ta) (hs:starEach [a,b] X.env=[(false,eval a X.env),(false,eval b X.env)]:=by rfl) (hs2:starEach [b] X.env=[(false,eval b X.env)]:=by rfl) :
  PI X tg (.Call (.Name "range" p) [a,b] [] pos) (iRng2 ta):=by
 intro pins s σ H R I h
 refine Call_ (ld_blt I hg hm boot_range (PyProof.Rows.callWith_type1 (thn (ha pos pins s σ H _ I h) fun us s1 ⟨vs,H1,I1,r1,q1⟩=>?_) (by rw [hs,hs2]) (by rw [hs2];rfl)))
 obtain ⟨i,j,e,⟨q1,q2,q3,q4⟩,q⟩:=q1
 subst e
 cases r1 with
 | cons r rr=>
  cases rr with
  | cons r' rr=>
   cases rr
   obtain ⟨t,rfl⟩:=r
   obtain ⟨t',rfl⟩:=r'
   exact call_range_2 (range_it I1 q1 q2 q3 q4 q)
def tFor (wi:TI) (g:TG) (tb:TS):TS:=fun D σ H=>wi σ H fun J H1=>∃ W:Nat->Nat->St->Hp->Prop,(∃ m,W 0 m σ H1)∧∀ i m σ H,W i m σ H →
 (J.stop i H∧D.nx σ H)∨(J.go i H∧∃ N:St->Hp->Prop,(∀ σ' H',N σ' H'->∃ m',m' < m∧W (i+1) m' σ' H')∧∀ x H',J.yld i H x H'->g x σ H' fun σ2 H2=>tb { D with nx:=N,ct:=N,bk:=D.nx } σ2 H2)
def pinsAt (fp:List Addr) (h:Heap):List (Addr × Obj):=fp.filterMap fun b=>(h.get? b).map fun o=>(b,o)
theorem mem_pinsAt {fp:List Addr}{h:Heap}{b:Addr}{o:Obj}(hb:b∈fp) (e:h.get? b=some o):(b,o)∈pinsAt fp h:=List.mem_filterMap.mpr ⟨b,hb,by rw [e];rfl⟩
theorem of_pinsAt {fp:List Addr}{h:Heap}{p:Addr × Obj}(hp:p∈pinsAt fp h):p.1∈fp∧h.get? p.1=some p.2:=by
 obtain ⟨b,hb,e⟩:=List.mem_filterMap.mp hp
 cases q:h.get? b with
 | none=>rw [q] at e;cases e
 | some o=>
  rw [q] at e
  have e':(b,o)=p:=Option.some.inj e
  subst e'
  exact ⟨hb,q⟩
theorem Inv.pinned {pins:List (Addr × Obj)}{σ:St}{H:Hp}{s:Shared}{fp:List Addr}(I:Inv X pins σ H s) (hf:∀ b∈fp,FpOk X pins H b) (ho:∀ b∈fp,∃ o,s.heap.get? b=some o∧∀ v,o.data ≠ .cell v):Inv X (pins++pinsAt fp s.heap) σ H s:=
 I.pins_of fun p hp=>(List.mem_append.mp hp).elim (fun z=>I.pin p (List.mem_append_right _ z)) fun z=>by
  obtain ⟨hb,e⟩:=of_pinsAt z
  obtain ⟨f0,f1,f2,_⟩:=hf p.1 hb
  obtain ⟨o,e',d⟩:=ho p.1 hb
  rw [e] at e';cases e'
  exact ⟨e,f0,f1,f2,d⟩
theorem Inv.unpinned {pins pl:List (Addr × Obj)}{σ:St}{H:Hp}{s:Shared}(I:Inv X (pins++pl) σ H s):Inv X pins σ H s:=I.pins_of fun p hp=>I.pin p (List.mem_append_right _ (List.mem_append_left _ hp))
theorem ps_for {iter:Expr}{body:List Stmt}{wi:TI}{g:TG}{tb:TS}{pos:Pos}(hp:PassesOwn (model X.prog X.w) X.A X.env X.xe) (hc:X.calm=true) (hi:PI X tg iter wi) (hg:PG X tg g) (hb:PSs X body tb)
  (hs:∀ x,foldedSetIterable iter X.env x=pure x:=by intro _;rfl):PS X (.For tg iter body [] pos) (tFor wi g tb):=by
 intro pins s σ H D I h
 refine wpAny_For (thn (hi pins s σ H _ I h) fun v s1 h1=>thn h1 fun itv s2 h2=>?_) hs
 obtain ⟨it,fp,tn,J,H2,e,I2,T,st2,f2,W,⟨m0,w0⟩,turn⟩:=h2
 subst e
 have stat:∀ {H':Hp},(∀ b∈fp,H' b=none)->∀ b∈fp,FpOk X pins H' b:=fun hn b hb=>⟨hn b hb,(f2 b hb).2⟩
 refine codeAny_forLoop_any (fun n s'=>∃ i σ' H',Inv X pins σ' H' s'∧tn i s'.heap∧(∀ b∈fp,H' b=none)∧W i n σ' H') ?_ m0 ⟨0,σ,H2,I2,st2,fun b hb=>(f2 b hb).1,w0⟩
 rintro n s3 ⟨i,σ3,H3,I3,st3,fr3,w3⟩
 rcases turn i n σ3 H3 w3 with ⟨stop,qn⟩|⟨go,N,hN,step⟩
 ·refine wpAny_passesOwn hp (thn (T.done X rfl rfl rfl hc i pins s3 σ3 H3 X.xe I3 (stat fr3) st3 stop) fun r s4 ⟨hr,I4⟩=>?_)
  subst hr
  exact wpAny_execs_nil ⟨σ3,H3,I4,qn⟩
 ·refine wpAny_passesOwn hp (thn (T.item X rfl rfl rfl hc i pins s3 σ3 H3 X.xe I3 (stat fr3) st3 go) fun r s4 ⟨u,hr,h4⟩=>?_)
  subst hr
  refine wpAny_passesOwn hp (thn h4 fun _ s5 ⟨x,H5,I5,r5,y5,st5,fr5⟩=>?_)
  have I5':=I5.pinned (stat fr5) (T.obj _ _ st5)
  refine wpAny_passesOwn hp (thn (hg _ s5 σ3 H5 x u _ I5' r5 (step x H5 y5)) fun _ s6 ⟨σ6,H6,I6,q6⟩=>?_)
  refine wpAny_passesOwn hp (thn (hb _ s6 σ6 H6 _ I6 q6) fun f s7 q7=>?_)
  have again:∀ {σ7:St} {H7:Hp},Inv X (pins++pinsAt fp s5.heap) σ7 H7 s7->N σ7 H7->∃ m,m < n∧∃ i σ' H',Inv X pins σ' H' s7∧tn i s7.heap∧(∀ b∈fp,H' b=none)∧W i m σ' H':=fun {σ7 H7} I7 n7=>by
   obtain ⟨m',hm,w7⟩:=hN σ7 H7 n7
   refine ⟨m',hm,i+1,σ7,H7,I7.unpinned,T.keep _ _ _ st5 fun b hb o e=>(I7.pin (b,o) (List.mem_append_right _ (List.mem_append_right _ (mem_pinsAt hb e)))).1,fun b hb=>?_,w7⟩
   obtain ⟨o,e,d⟩:=T.obj _ _ st5 b hb
   exact (I7.pin (b,o) (List.mem_append_right _ (List.mem_append_right _ (mem_pinsAt hb e)))).2.1
  cases f with
  | next=>obtain ⟨σ7,H7,I7,n7⟩:=q7;exact again I7 n7
  | cont=>obtain ⟨σ7,H7,I7,n7⟩:=q7;exact again I7 n7
  | brk=>obtain ⟨σ7,H7,I7,q7⟩:=q7;exact ⟨σ7,H7,I7.unpinned,q7⟩
  | ret v=>obtain ⟨x7,σ7,H7,I7,r7,q7⟩:=q7;exact ⟨x7,σ7,H7,I7.unpinned,r7,q7⟩
end
theorem for_list {K:PySem.W.Frag}{a:Addr}{xs:List V}{g:TG}{tb:TS}{D:Ends}{σ:St}{H:Hp}(Pv:Nat->St->Hp->Prop) (h0:Pv 0 σ H) (hl:∀ i σ H,i≤xs.length->Pv i σ H->SqL K H a xs)
  (hs:∀ i x σ H,xs[i]? = some x->Pv i σ H->g x σ H fun σ2 H2=>tb { D with nx:=Pv (i+1),ct:=Pv (i+1),bk:=D.nx } σ2 H2) (hd:∀ σ H,Pv xs.length σ H->D.nx σ H) :
  ∃ W:Nat->Nat->St->Hp->Prop,(∃ m,W 0 m σ H)∧∀ i m σ H,W i m σ H →
   ((Itl K a).stop i H∧D.nx σ H)∨((Itl K a).go i H∧∃ N:St->Hp->Prop,(∀ σ' H',N σ' H'->∃ m',m' < m∧W (i+1) m' σ' H')∧∀ x H',(Itl K a).yld i H x H'->g x σ H' fun σ2 H2=>tb { D with nx:=N,ct:=N,bk:=D.nx } σ2 H2):=by
 refine ⟨fun i m σ H=>m=xs.length - i∧i≤xs.length∧Pv i σ H,⟨xs.length,by simp,Nat.zero_le _,h0⟩,?_⟩
 rintro i m σ H ⟨rfl,hi,p⟩
 have q:=hl i σ H hi p
 by_cases hlt:i < xs.length
 ·refine .inr ⟨⟨xs,xs[i],q,by simp [hlt]⟩,Pv (i+1),fun σ' H' p'=>⟨xs.length - (i+1),by omega,rfl,hlt,p'⟩,fun x H' y=>?_⟩
  obtain ⟨e,y⟩:=y
  subst e
  exact hs i x σ _ (y xs q) p
 ·have e:i=xs.length:=by omega
  subst e
  exact .inl ⟨⟨xs,q,Nat.le_refl _⟩,hd σ H p⟩
theorem for_tup {K:PySem.W.Frag}{a:Addr}{xs:List V}{g:TG}{tb:TS}{D:Ends}{σ:St}{H:Hp}(Pv:Nat->St->Hp->Prop) (h0:Pv 0 σ H) (hl:∀ i σ H,i≤xs.length->Pv i σ H->SqT K H a xs)
  (hs:∀ i x σ H,xs[i]? = some x->Pv i σ H->g x σ H fun σ2 H2=>tb { D with nx:=Pv (i+1),ct:=Pv (i+1),bk:=D.nx } σ2 H2) (hd:∀ σ H,Pv xs.length σ H->D.nx σ H) :
  ∃ W:Nat->Nat->St->Hp->Prop,(∃ m,W 0 m σ H)∧∀ i m σ H,W i m σ H →
   ((Itt K a).stop i H∧D.nx σ H)∨((Itt K a).go i H∧∃ N:St->Hp->Prop,(∀ σ' H',N σ' H'->∃ m',m' < m∧W (i+1) m' σ' H')∧∀ x H',(Itt K a).yld i H x H'->g x σ H' fun σ2 H2=>tb { D with nx:=N,ct:=N,bk:=D.nx } σ2 H2):=by
 refine ⟨fun i m σ H=>m=xs.length - i∧i≤xs.length∧Pv i σ H,⟨xs.length,by simp,Nat.zero_le _,h0⟩,?_⟩
 rintro i m σ H ⟨rfl,hi,p⟩
 have q:=hl i σ H hi p
 by_cases hlt:i < xs.length
 ·refine .inr ⟨⟨xs,xs[i],q,by simp [hlt]⟩,Pv (i+1),fun σ' H' p'=>⟨xs.length - (i+1),by omega,rfl,hlt,p'⟩,fun x H' y=>?_⟩
  obtain ⟨e,y⟩:=y
  subst e
  exact hs i x σ _ (y xs q) p
 ·have e:i=xs.length:=by omega
  subst e
  exact .inl ⟨⟨xs,q,Nat.le_refl _⟩,hd σ H p⟩
theorem for_range {lo:Int}{n:Nat}{g:TG}{tb:TS}{D:Ends}{σ:St}{H:Hp}(Pv:Nat->St->Hp->Prop) (h0:Pv 0 σ H)
  (hs:∀ i σ H,i < n->Pv i σ H->g (.int (lo+i)) σ H fun σ2 H2=>tb { D with nx:=Pv (i+1),ct:=Pv (i+1),bk:=D.nx } σ2 H2) (hd:∀ σ H,Pv n σ H->D.nx σ H) :
  ∃ W:Nat->Nat->St->Hp->Prop,(∃ m,W 0 m σ H)∧∀ i m σ H,W i m σ H →
   ((Itr lo n).stop i H∧D.nx σ H)∨((Itr lo n).go i H∧∃ N:St->Hp->Prop,(∀ σ' H',N σ' H'->∃ m',m' < m∧W (i+1) m' σ' H')∧∀ x H',(Itr lo n).yld i H x H'->g x σ H' fun σ2 H2=>tb { D with nx:=N,ct:=N,bk:=D.nx } σ2 H2):=by
 refine ⟨fun i m σ H=>m=n - i∧i≤n∧Pv i σ H,⟨n,by simp,Nat.zero_le _,h0⟩,?_⟩
 rintro i m σ H ⟨rfl,hi,p⟩
 by_cases hlt:i < n
 ·refine .inr ⟨hlt,Pv (i+1),fun σ' H' p'=>⟨n - (i+1),by omega,rfl,hlt,p'⟩,fun x H' y=>?_⟩
  obtain ⟨e,y⟩:=y
  subst e y
  exact hs i σ _ hlt p
 ·have e:i=n:=by omega
  subst e
  exact .inl ⟨Nat.le_refl _,hd σ H p⟩
end L2
namespace L2
open PySem PySem.Spec PyProof.Rows
abbrev R2:=V->V->Hp->VK->Prop
def OpR (X:Cx) (f:Value->Value->Sem Value) (r:R2):Prop:=
 ∀ (pins:List (Addr × Obj)) (s:Shared) (σ:St) (H:Hp) (x y:V) (v u:Value) (Q:VK),Inv X pins σ H s->RelV x v->RelV y u->r x y H Q →
  wpAny (model X.prog X.w) X.A (f v u) (EP X pins σ Q) X.xe s
def UnR (X:Cx) (f:Value->Sem Value) (r:V->Hp->VK->Prop):Prop:=
 ∀ (pins:List (Addr × Obj)) (s:Shared) (σ:St) (H:Hp) (x:V) (v:Value) (Q:VK),Inv X pins σ H s->RelV x v->r x H Q →
  wpAny (model X.prog X.w) X.A (f v) (EP X pins σ Q) X.xe s
def CallR (X:Cx) (f:Value) (r:List V->Hp->VK->Prop):Prop:=
 ∀ (pins:List (Addr × Obj)) (s:Shared) (σ:St) (H:Hp) (xs:List V) (us:List Value) (Q:VK),Inv X pins σ H s->Vals xs us->r xs H Q →
  wpAny (model X.prog X.w) X.A (call f us) (EP X pins σ Q) X.xe s
def tOp (r:R2) (ta tb:TE):TE:=fun σ H Q=>ta σ H fun x H1=>tb σ H1 fun y H2=>r x y H2 Q
def tUn (r:V->Hp->VK->Prop) (ta:TE):TE:=fun σ H Q=>ta σ H fun x H1=>r x H1 Q
def rI (C:Int->Int->Prop) (g:Int->Int->V):R2:=fun x y H Q=>∃ i j,x=.int i∧y=.int j∧C i j∧Q (g i j) H
def rI0 (g:Int->Int->V):R2:=fun x y H Q=>∃ i j,x=.int i∧y=.int j∧Q (g i j) H
def rU (g:Int->V):V->Hp->VK->Prop:=fun x H Q=>∃ i,x=.int i∧Q (g i) H
section
variable {X:Cx}{a b c:Expr}{ta tb tc:TE}{pos:Pos}
theorem binT (ha:PE X a ta) (hb:PE X b tb){pins:List (Addr × Obj)}{s:Shared}{σ:St}{H:Hp}{R:V->V->Hp->Prop}(I:Inv X pins σ H s)
  (h:ta σ H fun x H1=>tb σ H1 fun y H2=>R x y H2) {Q:Value->Shared->Prop} {f:Value->Value->Sem Value}
  (hf:∀ v u s2 x y H2,Inv X pins σ H2 s2->RelV x v->RelV y u->R x y H2->wpAny (model X.prog X.w) X.A (f v u) Q X.xe s2) :
  wpAny (model X.prog X.w) X.A (eval a X.env) (fun v s₁=>wpAny (model X.prog X.w) X.A (eval b X.env) (fun u s₂=>wpAny (model X.prog X.w) X.A (f v u) Q X.xe s₂) X.xe s₁) X.xe s:=by
 refine thn (ha pins s σ H _ I h) fun v s1 ⟨x,H1,I1,r1,q1⟩=>?_
 refine thn (hb pins s1 σ H1 _ I1 q1) fun u s2 ⟨y,H2,I2,r2,q2⟩=>?_
 exact hf v u s2 x y H2 I2 r1 r2 q2
theorem pe_op {op:Operator}{r:R2}(ho:OpR X (binaryOp op) r) (ha:PE X a ta) (hb:PE X b tb):PE X (.BinOp a op b pos) (tOp r ta tb):=by
 intro pins s σ H Q I h
 exact wpAny_BinOp (binT ha hb I h fun v u s2 x y H2 I2 rx ry q=>ho pins s2 σ H2 x y v u Q I2 rx ry q)
theorem pe_un {op:UnaryOp}{r:V->Hp->VK->Prop}(ho:UnR X (unaryOp op) r) (ha:PE X a ta):PE X (.UnaryOp op a pos) (tUn r ta):=by
 intro pins s σ H Q I h
 exact UnaryOp_ (thn (ha pins s σ H _ I h) fun v s1 ⟨x,H1,I1,r1,q1⟩=>ho pins s1 σ H1 x v Q I1 r1 q1)
theorem opI {f:Value->Value->Sem Value}{C:Int->Int->Prop}{g:Int->Int->Int}
  (rule:∀ (i j:Int) (t u:Tok) (s:Shared) (Q:Value->Shared->Prop) (E:Value->Shared->Prop),C i j->Q (.int (g i j) s.toks) { s with toks:=s.toks+1 }->wpAny (model X.prog X.w) X.A (f (.int i t) (.int j u)) Q E s) :
  OpR X f (rI C fun i j=>.int (g i j)):=by
 intro pins s σ H x y v u Q I rx ry h
 obtain ⟨i,j,rfl,rfl,hc,q⟩:=h
 obtain ⟨t,rfl⟩:=rx
 obtain ⟨t',rfl⟩:=ry
 exact rule i j t t' s _ _ hc ⟨.int (g i j),H,I.tok _,⟨_,rfl⟩,q⟩
theorem opI0 {f:Value->Value->Sem Value}{g:Int->Int->Int}
  (rule:∀ (i j:Int) (t u:Tok) (s:Shared) (Q:Value->Shared->Prop) (E:Value->Shared->Prop),Q (.int (g i j) s.toks) { s with toks:=s.toks+1 }->wpAny (model X.prog X.w) X.A (f (.int i t) (.int j u)) Q E s) :
  OpR X f (rI0 fun i j=>.int (g i j)):=by
 intro pins s σ H x y v u Q I rx ry h
 obtain ⟨i,j,rfl,rfl,q⟩:=h
 obtain ⟨t,rfl⟩:=rx
 obtain ⟨t',rfl⟩:=ry
 exact rule i j t t' s _ _ ⟨.int (g i j),H,I.tok _,⟨_,rfl⟩,q⟩
theorem opB0 {f:Value->Value->Sem Value}{g:Int->Int->Bool}
  (rule:∀ (i j:Int) (t u:Tok) (s:Shared) (Q:Value->Shared->Prop) (E:Value->Shared->Prop),Q (.bool (g i j)) s->wpAny (model X.prog X.w) X.A (f (.int i t) (.int j u)) Q E s) :
  OpR X f (rI0 fun i j=>.bl (g i j)):=by
 intro pins s σ H x y v u Q I rx ry h
 obtain ⟨i,j,rfl,rfl,q⟩:=h
 obtain ⟨t,rfl⟩:=rx
 obtain ⟨t',rfl⟩:=ry
 exact rule i j t t' s _ _ ⟨.bl (g i j),H,I,rfl,q⟩
def CDiv (i j:Int):Prop:=0 < j∧j < 1073741824
def CPow (i j:Int):Prop:=0≤j∧j≤1000000∧i.natAbs < 2 ^ 64
def CMul (i j:Int):Prop:=(-(2 ^ 64) < i∧i < 2 ^ 64)∨(-(2 ^ 64) < j∧j < 2 ^ 64)
theorem CMul.ok {i j:Int}(h:CMul i j):IntMulOk i j:=by
 rcases h with ⟨h1,h2⟩|⟨h1,h2⟩
 ·exact .of_left (intBits_le_64 h1 h2)
 ·exact .of_right (intBits_le_64 h1 h2)
theorem op_add:OpR X (binaryOp .Add) (rI0 fun i j=>.int (i+j)):=opI0 fun _ _ _ _ _ _ _ q=>add_int q
theorem op_sub:OpR X (binaryOp .Sub) (rI0 fun i j=>.int (i - j)):=opI0 fun _ _ _ _ _ _ _ q=>sub_int q
theorem op_mul:OpR X (binaryOp .Mult) (rI CMul fun i j=>.int (i * j)):=opI fun _ _ _ _ _ _ _ hc q=>mul_int q hc.ok
theorem op_fdiv:OpR X (binaryOp .FloorDiv) (rI CDiv fun i j=>.int (i / j)):=opI fun i j _ _ _ _ _ hc q=>by
 have h1:(0:Int) < j:=hc.1
 have h2:j < 1073741824:=hc.2
 exact floordiv_int (by omega) (by rw [Int.fdiv_eq_ediv_of_nonneg i (by omega)];exact q) (.inl (PyProof.noPylong_small (by omega)))
theorem op_mod:OpR X (binaryOp .Mod) (rI (fun _ j=>0 < j) fun i j=>.int (i % j)):=opI fun i j _ _ _ _ _ hc q=>by
 have h1:(0:Int) < j:=hc
 exact mod_int' (by omega) (by rw [Int.fmod_eq_emod_of_nonneg i (by omega)];exact q)
theorem op_pow:OpR X (binaryOp .Pow) (rI CPow fun i j=>.int (i ^ j.toNat)):=opI fun _ _ _ _ _ _ _ hc q=>pow_int_small hc.1 hc.2.1 hc.2.2 q
theorem unI {f:Value->Sem Value}{g:Int->Int}
  (rule:∀ (i:Int) (t:Tok) (s:Shared) (Q:Value->Shared->Prop) (E:Value->Shared->Prop),Q (.int (g i) s.toks) { s with toks:=s.toks+1 }->wpAny (model X.prog X.w) X.A (f (.int i t)) Q E s) :
  UnR X f (rU fun i=>.int (g i)):=by
 intro pins s σ H x v Q I rx h
 obtain ⟨i,rfl,q⟩:=h
 obtain ⟨t,rfl⟩:=rx
 exact rule i t s _ _ ⟨.int (g i),H,I.tok _,⟨_,rfl⟩,q⟩
theorem un_neg:UnR X (unaryOp .USub) (rU fun i=>.int (-i)):=unI fun _ _ _ _ _ q=>neg_int q
end
def scal:V->V->Bool
 | .non,.non=>true | .non,.int _=>true | .int _,.non=>true | .non,.bl _=>true | .bl _,.non=>true | .non,.str _=>true | .str _,.non=>true
 | .int _,.int _=>true | .bl _,.bl _=>true | .str _,.str _=>true | .byt _,.byt _=>true
 | .int _,.str _=>true | .str _,.int _=>true | .bl _,.str _=>true | .str _,.bl _=>true
 | _,_=>false
def rEq:R2:=fun x y H Q=>scal x y=true∧Q (.bl (decide (x=y))) H
def rNe:R2:=fun x y H Q=>scal x y=true∧Q (.bl (!decide (x=y))) H
theorem dec_int {i j:Int}:decide (V.int i=V.int j)=(i == j):=by
 rw [Bool.eq_iff_iff]
 simp
theorem dec_bl {i j:Bool}:decide (V.bl i=V.bl j)=(i == j):=by
 rw [Bool.eq_iff_iff]
 simp
theorem dec_str {i j:Str}:decide (V.str i=V.str j)=(i == j):=by
 rw [Bool.eq_iff_iff]
 simp
theorem dec_byt {i j:Array UInt8}:decide (V.byt i=V.byt j)=(i.toList == j.toList):=by
 rw [Bool.eq_iff_iff]
 cases i
 cases j
 simp
section
variable {X:Cx}{a b c:Expr}{ta tb tc:TE}{pos:Pos}
theorem fin_bl {pins:List (Addr × Obj)}{σ:St}{H:Hp}{s:Shared}{Q:VK}{k k':Bool}(I:Inv X pins σ H s) (q:Q (.bl k) H) (e:k=k'):EP X pins σ Q (.bool k') s:=by
 subst e
 exact ⟨.bl k,H,I,rfl,q⟩
theorem op_eq:OpR X (compareOp .Eq) rEq:=by
 intro pins s σ H x y v u Q I rx ry h
 obtain ⟨hs,q⟩:=h
 cases x with
 | non=>
  cases rx
  cases y with
  | non=>cases ry;exact PySem.EqNone.eq_none_none (fin_bl I q (by simp))
  | bl j=>cases ry;exact PySem.EqNone.eq_none_bool (fin_bl I q (by simp))
  | int j=>obtain ⟨t',rfl⟩:=ry;exact PySem.EqNone.eq_none_int (fin_bl I q (by simp))
  | str j=>obtain ⟨t',rfl⟩:=ry;exact PySem.EqNone.eq_none_str (fin_bl I q (by simp))
  | _=>exact absurd (show false=true from hs) Bool.false_ne_true
 | bl i=>
  cases rx
  cases y with
  | non=>cases ry;exact PySem.EqNone.eq_bool_none (fin_bl I q (by simp))
  | bl j=>cases ry;exact eq_bool (fin_bl I q dec_bl)
  | str j=>obtain ⟨t',rfl⟩:=ry;exact PySem.EqMixed.eq_bool_str (fin_bl I q (by simp))
  | _=>exact absurd (show false=true from hs) Bool.false_ne_true
 | int i=>
  obtain ⟨t,rfl⟩:=rx
  cases y with
  | non=>cases ry;exact PySem.EqNone.eq_int_none (fin_bl I q (by simp))
  | int j=>obtain ⟨t',rfl⟩:=ry;exact eq_int (fin_bl I q dec_int)
  | str j=>obtain ⟨t',rfl⟩:=ry;exact PySem.EqMixed.eq_int_str (fin_bl I q (by simp))
  | _=>exact absurd (show false=true from hs) Bool.false_ne_true
 | str i=>
  obtain ⟨t,rfl⟩:=rx
  cases y with
  | non=>cases ry;exact PySem.EqNone.eq_str_none (fin_bl I q (by simp))
  | bl j=>cases ry;exact PySem.EqMixed.eq_str_bool (fin_bl I q (by simp))
  | int j=>obtain ⟨t',rfl⟩:=ry;exact PySem.EqMixed.eq_str_int (fin_bl I q (by simp))
  | str j=>obtain ⟨t',rfl⟩:=ry;exact eq_str (fin_bl I q dec_str)
  | _=>exact absurd (show false=true from hs) Bool.false_ne_true
 | byt i=>
  obtain ⟨t,rfl⟩:=rx
  cases y with
  | byt j=>obtain ⟨t',rfl⟩:=ry;exact PySem.W.eq_bytes (fin_bl I q dec_byt)
  | _=>exact absurd (show false=true from hs) Bool.false_ne_true
 | _=>cases y<;>exact absurd (show false=true from hs) Bool.false_ne_true
theorem op_ne:OpR X (compareOp .NotEq) rNe:=by
 intro pins s σ H x y v u Q I rx ry h
 obtain ⟨hs,q⟩:=h
 cases x with
 | non=>
  cases rx
  cases y with
  | non=>cases ry;exact PySem.EqNone.ne_none_none (fin_bl I q (by simp))
  | bl j=>cases ry;exact PySem.EqNone.ne_none_bool (fin_bl I q (by simp))
  | int j=>obtain ⟨t',rfl⟩:=ry;exact PySem.EqNone.ne_none_int (fin_bl I q (by simp))
  | str j=>obtain ⟨t',rfl⟩:=ry;exact PySem.EqNone.ne_none_str (fin_bl I q (by simp))
  | _=>exact absurd (show false=true from hs) Bool.false_ne_true
 | bl i=>
  cases rx
  cases y with
  | non=>cases ry;exact PySem.EqNone.ne_bool_none (fin_bl I q (by simp))
  | bl j=>cases ry;exact ne_bool (fin_bl I q (congrArg not dec_bl))
  | str j=>obtain ⟨t',rfl⟩:=ry;exact PySem.EqMixed.ne_bool_str (fin_bl I q (by simp))
  | _=>exact absurd (show false=true from hs) Bool.false_ne_true
 | int i=>
  obtain ⟨t,rfl⟩:=rx
  cases y with
  | non=>cases ry;exact PySem.EqNone.ne_int_none (fin_bl I q (by simp))
  | int j=>obtain ⟨t',rfl⟩:=ry;exact ne_int (fin_bl I q (congrArg not dec_int))
  | str j=>obtain ⟨t',rfl⟩:=ry;exact PySem.EqMixed.ne_int_str (fin_bl I q (by simp))
  | _=>exact absurd (show false=true from hs) Bool.false_ne_true
 | str i=>
  obtain ⟨t,rfl⟩:=rx
  cases y with
  | non=>cases ry;exact PySem.EqNone.ne_str_none (fin_bl I q (by simp))
  | bl j=>cases ry;exact PySem.EqMixed.ne_str_bool (fin_bl I q (by simp))
  | int j=>obtain ⟨t',rfl⟩:=ry;exact PySem.EqMixed.ne_str_int (fin_bl I q (by simp))
  | str j=>obtain ⟨t',rfl⟩:=ry;exact ne_str (fin_bl I q (congrArg not dec_str))
  | _=>exact absurd (show false=true from hs) Bool.false_ne_true
 | byt i=>
  obtain ⟨t,rfl⟩:=rx
  cases y with
  | byt j=>obtain ⟨t',rfl⟩:=ry;exact PySem.W.ne_bytes (fin_bl I q (congrArg not dec_byt))
  | _=>exact absurd (show false=true from hs) Bool.false_ne_true
 | _=>cases y<;>exact absurd (show false=true from hs) Bool.false_ne_true
theorem op_lt:OpR X (compareOp .Lt) (rI0 fun i j=>.bl (decide (i < j))):=opB0 fun _ _ _ _ _ _ _ q=>lt_int q
theorem op_le:OpR X (compareOp .LtE) (rI0 fun i j=>.bl (decide (i≤j))):=opB0 fun _ _ _ _ _ _ _ q=>le_int q
theorem op_gt:OpR X (compareOp .Gt) (rI0 fun i j=>.bl (decide (j < i))):=opB0 fun _ _ _ _ _ _ _ q=>gt_int q
theorem op_in_str:OpR X (compareOp .In) (fun x y H Q=>∃ i j,x=.str i∧y=.str j∧Q (.bl (!(Builtin.Str.occurrences j i 0 j.length 1).isEmpty)) H):=by
 intro pins s σ H x y v u Q I rx ry h
 obtain ⟨i,j,rfl,rfl,q⟩:=h
 obtain ⟨t,rfl⟩:=rx
 obtain ⟨t',rfl⟩:=ry
 exact in_str (fin_bl I q rfl)
theorem op_isN:OpR X (compareOp .Is) (fun x y H Q=>y=.non∧Q (.bl (decide (x=.non))) H):=by
 intro pins s σ H x y v u Q I rx ry h
 obtain ⟨rfl,q⟩:=h
 cases ry
 refine is_none_gen (fin_bl I q ?_)
 cases x<;>first
  | (cases rx;rfl)
  | (obtain ⟨t,rfl⟩:=rx;rfl)
theorem OpR.or {f:Value->Value->Sem Value}{r r':R2}(h:OpR X f r) (h':OpR X f r'):OpR X f (fun x y H Q=>r x y H Q∨r' x y H Q):=by
 intro pins s σ H x y v u Q I rx ry q
 rcases q with q|q
 ·exact h pins s σ H x y v u Q I rx ry q
 ·exact h' pins s σ H x y v u Q I rx ry q
theorem nomark (b:Expr){op:CmpOp}(h:op ≠ .In:=by decide) (h2:op ≠ .NotIn:=by decide):behindInMarks op b=false:=by
 have e1:(op == CmpOp.In)=false:=by cases op<;>first|rfl|exact absurd rfl h
 have e2:(op == CmpOp.NotIn)=false:=by cases op<;>first|rfl|exact absurd rfl h2
 cases b<;>simp [behindInMarks,e1,e2]
theorem pe_cmpR {op:CmpOp}{r:R2}(ho:OpR X (compareOp op) r) (ha:PE X a ta) (hb:PE X b tb) (hm:behindInMarks op b=false):PE X (.Compare a [op] [b] pos) (tOp r ta tb):=by
 intro pins s σ H Q I h
 exact wpAny_Compare1 (binT ha hb I h fun v u s2 x y H2 I2 rx ry q=>ho pins s2 σ H2 x y v u Q I2 rx ry q) hm
def tTest (t:TE):TT:=fun σ H Q=>t σ H fun x H'=>∃ k,x=.bl k∧Q k H'
theorem pt_cmpR {op:CmpOp}{r:R2}(ho:OpR X (compareOp op) r) (ha:PE X a ta) (hb:PE X b tb) (hm:behindInMarks op b=false):PT X (.Compare a [op] [b] pos) (tTest (tOp r ta tb)):=by
 intro pins s σ H Q I h
 refine wpAny_isTrue_Compare1 (thn (ha pins s σ H _ I h) fun v s1 ⟨x,H1,I1,r1,q1⟩=>thn (hb pins s1 σ H1 _ I1 q1) fun u s2 ⟨y,H2,I2,r2,q2⟩=>
  thn (ho pins s2 σ H2 x y v u _ I2 r1 r2 q2) fun c s3 ⟨z,H3,I3,r3,k,e,q3⟩=>?_) hm
 subst e
 cases r3
 exact wpAny_truthy_bool ⟨H3,I3,q3⟩
def tChain (r r':R2) (ta tb tc:TE):TE:=fun σ H Q=>ta σ H fun x H1=>tb σ H1 fun y H2=>r x y H2 fun z H3=>∃ k,z=.bl k ∧
 (if k=true then tc σ H3 fun w' H4=>r' y w' H4 Q else Q (.bl false) H3)
theorem pt_chain {op op':CmpOp}{r r':R2}(ho:OpR X (compareOp op) r) (ho':OpR X (compareOp op') r') (ha:PE X a ta) (hb:PE X b tb) (hc:PE X c tc)
  (hm:lastMarks [op,op'] [b,c]=false:=by with_unfolding_all rfl):PT X (.Compare a [op,op'] [b,c] pos) (tTest (tChain r r' ta tb tc)):=by
 intro pins s σ H Q I h
 refine isTrue_chain (thn (ha pins s σ H _ I h) fun v s1 ⟨x,H1,I1,r1,q1⟩=>test_link (thn (hb pins s1 σ H1 _ I1 q1) fun u s2 ⟨y,H2,I2,r2,q2⟩=>
  thn (ho pins s2 σ H2 x y v u _ I2 r1 r2 q2) fun d s3 ⟨z,H3,I3,r3,k,e,q3⟩=>?_)) hm
 subst e
 cases r3
 refine wpAny_truthy_bool ?_
 cases k with
 | false=>
  obtain ⟨k',e',q'⟩:=q3
  cases e'
  exact ite_ff ⟨H3,I3,q'⟩
 | true=>
  refine ite_tt (test_last (thn (hc pins s3 σ H3 _ I3 q3) fun w' s4 ⟨z',H4,I4,r4,q4⟩=>thn (ho' pins s4 σ H4 y z' u w' _ I4 r2 r4 q4) fun d' s5 ⟨z2,H5,I5,r5,k2,e2,q5⟩=>?_))
  subst e2
  cases r5
  exact wpAny_truthy_bool ⟨H5,I5,q5⟩
theorem line63:(sizeLine:Nat) < 2 ^ 63:=by rw [sizeLine_eq];decide
theorem op_add_str:OpR X (binaryOp .Add) (fun x y H Q=>∃ i j,x=.str i∧y=.str j∧i.length+j.length≤sizeLine∧Q (.str (i++j)) H):=by
 intro pins s σ H x y v u Q I rx ry h
 obtain ⟨i,j,rfl,rfl,hz,q⟩:=h
 obtain ⟨t,rfl⟩:=rx
 obtain ⟨t',rfl⟩:=ry
 exact add_str (fun t' tk=>⟨.str (i++j),H,I.tok _,⟨_,rfl⟩,q⟩) hz
theorem vals1 {x:V}{us:List Value}(r:Vals [x] us):∃ u,us=[u]∧RelV x u:=by
 cases r with
 | cons r1 r2=>cases r2;exact ⟨_,rfl,r1⟩
theorem vals2 {x y:V}{us:List Value}(r:Vals [x,y] us):∃ u w',us=[u,w']∧RelV x u∧RelV y w':=by
 cases r with
 | cons r1 r2=>
  cases r2 with
  | cons r3 r4=>cases r4;exact ⟨_,_,rfl,r1,r3⟩
theorem call_int1:CallR X (.type "int") (fun xs H Q=>(∃ i,xs=[.int i]∧Q (.int i) H)∨∃ k,xs=[.bl k]∧Q (.int (if k then 1 else 0)) H):=by
 intro pins s σ H xs us Q I r h
 rcases h with ⟨i,rfl,q⟩|⟨k,rfl,q⟩
 ·obtain ⟨u,rfl,t,rfl⟩:=vals1 r
  exact call_int_int ⟨.int i,H,I,⟨_,rfl⟩,q⟩
 ·obtain ⟨u,rfl,r1⟩:=vals1 r
  cases r1
  exact call_int_bool ⟨.int (if k then 1 else 0),H,I.tok _,⟨_,rfl⟩,q⟩
theorem call_str_int:CallR X (.type "str") (fun xs H Q=>∃ i,xs=[.int i]∧i.natAbs.log2 < 1920∧Q (.str (toString i)) H):=by
 intro pins s σ H xs us Q I r h
 obtain ⟨i,rfl,hz,q⟩:=h
 obtain ⟨u,rfl,t,rfl⟩:=vals1 r
 exact PySem.P.str_of_int hz ⟨.str _,H,I.tok _,⟨_,rfl⟩,q⟩
end
end L2
namespace L2
open PySem PySem.Spec PyProof.Rows
structure ObjM (h:Heap) (x dx C:Addr) (mA:Str->Option Value):Prop where
 obj:h.get? x=some (PySem.W.instObj C dx)
 ns:h.Ns1 dx mA
 ne:dx ≠ x
theorem lookIn_ns {h:Heap}{dx:Addr}{mA:Str->Option Value}(n:h.Ns1 dx mA):∃ od,h.get? dx=some od∧∀ name,PySem.W.lookIn name od=some (mA name):=by
 obtain ⟨o,es,ep,ho,hd,hk,_,hm⟩:=n
 refine ⟨o,ho,fun name=>?_⟩
 have e:=hm name
 unfold nsFind findBy at e
 rw [←Array.find?_toList] at e
 unfold PySem.W.lookIn
 rw [hd]
 dsimp only
 split
 ·rename_i y q
  rw [q] at e
  exact congrArg some e
 ·rename_i q
  rw [q] at e
  have a:es.toList.any (·.refKey)=false:=by
   rw [List.any_eq_false]
   intro y hy
   obtain ⟨z,t,hkey⟩:=hk y (Array.mem_toList_iff.mp hy)
   simp [DictEntry.refKey,hkey]
  have a':¬ es.toList.any (·.refKey)=true:=by rw [a];exact Bool.false_ne_true
  rw [if_neg a']
  exact congrArg some e
theorem ObjM.look {h:Heap}{x dx C:Addr}{mA:Str->Option Value}(I:ObjM h x dx C mA):∃ od,PySem.W.InstAt h x (PySem.W.instObj C dx) C (some od)∧∀ name,PySem.W.lookIn name od=some (mA name):=
 let ⟨od,ho,hl⟩:=lookIn_ns I.ns
 ⟨od,⟨I.obj,rfl,rfl,ho⟩,hl⟩
section
variable {prog:Program}{w:World}{A:Around}{E:Value->Shared->Prop}{s:Shared}{K:PySem.W.Frag}{x dx C f:Addr}{mA:Str->Option Value}{name:Str}{v:Value}
theorem get_map {expr:Bool}{Q:Value->Shared->Prop}(X:K.In s.heap) (I:ObjM s.heap x dx C mA) (hg:PySem.W.plainGet K C name=true) (hh:PySem.W.hasDictIn K C=true)
  (ha:PySem.W.findIn K (.ref C) name=some none) (hv:mA name=some v) (hv':PySem.W.handedIn v=true) (h:Q v { s with toks:=s.toks+1 }) :
  wpAny (model prog w) A (getAttr (.ref x) name expr) Q E s:=by
 obtain ⟨od,J,hl⟩:=I.look
 exact PySem.W.get_value X J (PySem.W.plainGet_of hg).1 (PySem.W.findObj_own hh ha rfl (by rw [hl,hv])) hv' h
theorem get_meth {pl:Sem Bool}{Q:Value × List Value->Shared->Prop}(X:K.In s.heap) (I:ObjM s.heap x dx C mA) (hg:PySem.W.plainGet K C name=true)
  (hf:PySem.W.findIn K (.ref C) name=some (some (.ref f))) (ht:PySem.W.isFn K (.ref f)=true) (hv:mA name=none) (h:Q (.ref f,[.ref x]) s) :
  wpAny (model prog w) A (getMethod (.ref x) name pl) Q E s:=by
 obtain ⟨od,J,hl⟩:=I.look
 exact PySem.W.method_fn X J (PySem.W.plainGet_of hg).1 (PySem.W.plainGet_of hg).2 hf (beq_iff_eq.mp ht) (by show (PySem.W.lookIn name od).map (·.isSome)=some false;rw [hl,hv];rfl) h
theorem set_map {ns:List Str}{Q:Unit->Shared->Prop}(X:K.In s.heap) (I:ObjM s.heap x dx C mA)
  (hs:PySem.W.findIn K (.ref C) "__setattr__"=some (some (.builtin "object.__setattr__"))) (hp:PySem.W.plainOver K C=true) (ht:PySem.W.takerIn K C name=some none) (hh:PySem.W.hasDictIn K C=true)
  (hw:PySem.Within mA ns) (hsz:ns.length≤sizeLine)
  (h:∀ h',ObjM h' x dx C (fun y=>if y=name then some v else mA y)->Heap.SameBut dx s.heap h'->Q () { s with heap:=h',toks:=s.toks+2 }) :
  wpAny (model prog w) A (setAttr (.ref x) name v) Q E s:=by
 obtain ⟨od,J,hl⟩:=I.look
 refine PySem.W.set_plain X J hs (PySem.W.osa_open (s:={ s with toks:=s.toks+1 }) (r:=none) X J hp ht fun b=>?_)
 obtain ⟨cd,hc,hd'⟩:=PySem.W.any_some hh
 have hx:s.heap.get? x=some ⟨.ref C,some dx,.plain,#[]⟩:=I.obj
 refine wpAny_bind (wpAny_pure (wpAny_bind (wpAny_bind (wpAny_loadPart hx (wpAny_bind (PySem.W.Looks.here (s:={ s with toks:=s.toks+1 }) (PySem.W.looks_clsIn X hc) ?_))))))
 rw [hd']
 refine wpAny_pure (a:=some dx) (wpAny_bind (wpAny_pure (wpAny_bind ?_)))
 refine wpAny_nsSet1 (s:={ s with toks:=s.toks+1 }) I.ns fun h' hn2 hs2=>?_
 obtain ⟨oD,esD,epD,hoD,hdD,hcD⟩:=hn2.count (PySem.Within.cons name v hw)
 refine wpAny_bind (wpAny_lookBehind hoD (by rw [hdD];exact pastItsLine_dict (Nat.le_trans hcD (by rw [List.length_cons];omega))) ?_)
 exact wpAny_pure (h _ ⟨(hs2.2 _ (Ne.symm I.ne)).trans I.obj,hn2,I.ne⟩ hs2)
theorem make_map {R:Result->Shared->Prop}{vs:List Value}{kw:List (Str × Value)}(X:K.In s.heap) (hm:PySem.W.makesIn K C=true)
  (hi:PySem.W.findIn K (.ref C) "__init__"=some (some (.ref f))) (hf:PySem.W.typeIn K (.ref f)=some (.type "function"))
  (h:codeAny (model prog w) (A.under (.builtin "type.__call__" ⟨.ref C::vs,kw⟩)) (.call (.ref f) ⟨.ref (s.heap.objs.size+1)::vs,kw⟩) (PySem.W.InitBack (s.heap.objs.size+1) R)
   { s with heap:=(s.heap.push PySem.W.emptyDict).push (PySem.W.instObj C s.heap.objs.size) }) :
  codeAny (model prog w) A (.call (.ref C) ⟨vs,kw⟩) R s:=by
 obtain ⟨hh,g,d,t,os⟩:=s
 exact PySem.W.make_core (PySem.W.makes_of X hm) (PySem.W.looks_findIn X hi) (fun self=>PySem.W.bind_fn X self hf) (.inl rfl) h
theorem make_map0 {R:Result->Shared->Prop}(X:K.In s.heap) (hm:PySem.W.makesIn K C=true)
  (hi:PySem.W.findIn K (.ref C) "__init__"=some (some (.builtin "object.__init__")))
  (hb:∀ self,PySem.W.Looks (model prog w) s.heap (bindSpecial (.builtin "object.__init__") self) (.builtin "object.__init__",[self]))
  (h:codeAny (model prog w) (A.under (.builtin "type.__call__" ⟨[.ref C],[]⟩)) (.call (.builtin "object.__init__") ⟨[.ref (s.heap.objs.size+1)],[]⟩) (PySem.W.InitBack (s.heap.objs.size+1) R)
   { s with heap:=(s.heap.push PySem.W.emptyDict).push (PySem.W.instObj C s.heap.objs.size) }) :
  codeAny (model prog w) A (.call (.ref C) ⟨[],[]⟩) R s:=by
 obtain ⟨hh,g,d,t,os⟩:=s
 exact PySem.W.make_core (PySem.W.makes_of X hm) (PySem.W.looks_findIn X hi) hb (.inr ⟨rfl,rfl⟩) h
end
def putF (f:Str) (v:V):List (Str × V)->List (Str × V)
 | []=>[(f,v)]
 | (g,x)::r=>if g=f then (g,v)::r else (g,x)::putF f v r
theorem lookup_putF (f g:Str) (v:V):∀ fs:List (Str × V),(putF f v fs).lookup g=if g=f then some v else fs.lookup g
 | []=>by
  show List.lookup g [(f,v)]=_
  by_cases h:g=f
  ·have hb:(g == f)=true:=beq_iff_eq.mpr h
   simp only [List.lookup,hb,if_pos h]
  ·have hb:(g == f)=false:=beq_eq_false_iff_ne.mpr h
   simp only [List.lookup,hb,if_neg h]
 | (k,x)::r=>by
  have ih:=lookup_putF f g v r
  rw [show putF f v ((k,x)::r)=(if k=f then (k,v)::r else (k,x)::putF f v r) from rfl]
  by_cases hk:k=f
  ·rw [if_pos hk]
   by_cases h:g=k
   ·have hb:(g == k)=true:=beq_iff_eq.mpr h
    simp only [List.lookup,hb,if_pos (h.trans hk)]
   ·have hb:(g == k)=false:=beq_eq_false_iff_ne.mpr h
    simp only [List.lookup,hb,if_neg (fun e:g=f=>h (e.trans hk.symm))]
  ·rw [if_neg hk]
   by_cases h:g=k
   ·have hb:(g == k)=true:=beq_iff_eq.mpr h
    simp only [List.lookup,hb,if_neg (fun e:g=f=>hk (h.symm.trans e))]
   ·have hb:(g == k)=false:=beq_eq_false_iff_ne.mpr h
    simp only [List.lookup,hb]
    exact ih
theorem keys_putF (f:Str) (v:V):∀ fs:List (Str × V),f∈(putF f v fs).map (·.1)∧∀ g,g∈fs.map (·.1)->g∈(putF f v fs).map (·.1)
 | []=>⟨by simp [putF],fun g h=>by simp at h⟩
 | (k,x)::r=>by
  obtain ⟨i1,i2⟩:=keys_putF f v r
  rw [show putF f v ((k,x)::r)=(if k=f then (k,v)::r else (k,x)::putF f v r) from rfl]
  by_cases hk:k=f
  ·rw [if_pos hk]
   subst hk
   exact ⟨by simp,fun g h=>by simpa using h⟩
  ·rw [if_neg hk]
   refine ⟨?_,fun g h=>?_⟩
   ·rw [List.map_cons]
    exact List.mem_cons_of_mem _ i1
   ·rw [List.map_cons] at h ⊢
    rcases List.mem_cons.mp h with e|e
    ·exact List.mem_cons.mpr (.inl e)
    ·exact List.mem_cons_of_mem _ (i2 g e)
theorem length_putF (f:Str) (v:V):∀ fs:List (Str × V),(putF f v fs).length≤fs.length+1
 | []=>by simp [putF]
 | (k,x)::r=>by
  have ih:=length_putF f v r
  rw [show putF f v ((k,x)::r)=(if k=f then (k,v)::r else (k,x)::putF f v r) from rfl]
  by_cases hk:k=f
  ·rw [if_pos hk,List.length_cons,List.length_cons];omega
  ·rw [if_neg hk,List.length_cons,List.length_cons];omega
theorem RelO.some_of {v:V}{o:Option Value}(r:RelO (some v) o):∃ u,o=some u∧RelV v u:=by
 cases o with
 | none=>exact (show False from r).elim
 | some u=>exact ⟨u,rfl,r⟩
theorem RelO.none_of {o:Option Value}(r:RelO none o):o=none:=by
 cases o with
 | none=>rfl
 | some u=>exact (show False from r).elim
theorem handed_of {v:V}{u:Value}(r:RelV v u):PySem.W.handedIn u=true:=by
 cases v with
 | non=>cases (show u=Value.none from r);rfl
 | bl b=>cases (show u=Value.bool b from r);rfl
 | int i=>obtain ⟨t,e⟩:=(show ∃ t,u=Value.int i t from r);cases e;rfl
 | str x=>obtain ⟨t,e⟩:=(show ∃ t,u=Value.str x t from r);cases e;rfl
 | byt b=>obtain ⟨t,e⟩:=(show ∃ t,u=Value.bytes b t from r);cases e;rfl
 | flt b=>obtain ⟨t,e⟩:=(show ∃ t,u=Value.float b t from r);cases e;rfl
 | ref a=>cases (show u=Value.ref a from r);rfl
 | ty n=>cases (show u=Value.type n from r);rfl
section
variable {P:Program}{w:World}{H H':Hp}{h h':Heap}{a C dx:Addr}{fs fs':List (Str × V)}
theorem ins_get (hok:HOk P w H h) (e:H a=some (.ins C dx fs)):∃ mA,ObjM h a dx C mA∧(∀ f,RelO (fs.lookup f) (mA f))∧PySem.Within mA (fs.map (·.1))∧fs.length≤1000∧H dx=some (.own a):=by
 obtain ⟨d,z,ne,ob,mA,n,r,q⟩:=(show ObjOk P w H h a (.ins C dx fs) from hok a _ e)
 exact ⟨mA,⟨ob,n,ne⟩,r,q,z,d⟩
end
structure Cls (K:PySem.W.Frag) (C:Addr):Prop where
 pg:PySem.W.plainGet K C Str.empty=true
 hd:PySem.W.hasDictIn K C=true
 po:PySem.W.plainOver K C=true
 sa:PySem.W.findIn K (.ref C) "__setattr__"=some (some (.builtin "object.__setattr__"))
theorem Cls.get {K:PySem.W.Frag}{C:Addr}(c:Cls K C) (f:Str):PySem.W.plainGet K C f=true:=c.pg
def NoAttr (K:PySem.W.Frag) (C:Addr) (f:Str):Prop:=PySem.W.findIn K (.ref C) f=some none
theorem NoAttr.taker {K:PySem.W.Frag}{C:Addr}{f:Str}(n:NoAttr K C f):PySem.W.takerIn K C f=some none:=by
 unfold PySem.W.takerIn
 rw [show PySem.W.findIn K (.ref C) f=some none from n]
 rfl
structure Meth (K:PySem.W.Frag) (C:Addr) (m:Str) (f:Addr):Prop where
 at_:PySem.W.findIn K (.ref C) m=some (some (.ref f))
 fn:PySem.W.isFn K (.ref f)=true
 kp:PySem.W.keepIn K (.ref f)=true
section
variable {X:Cx}{pins:List (Addr × Obj)}{σ:St}{H:Hp}{s:Shared}{a C dx:Addr}{fs:List (Str × V)}{f:Str}{v:V}{A:Around}{E:Value->Shared->Prop}
theorem getattr_ok {b:Bool}{Q:Value->Shared->Prop}(I:Inv X pins σ H s) (e:H a=some (.ins C dx fs)) (c:Cls X.K C) (n:NoAttr X.K C f) (l:fs.lookup f=some v)
  (h:∀ u s',Inv X pins σ H s'->RelV v u->Q u s'):wpAny (model X.prog X.w) A (getAttr (.ref a) f b) Q E s:=by
 obtain ⟨mA,O,r,_,_,_⟩:=ins_get I.hok e
 obtain ⟨u,hu,ru⟩:=RelO.some_of (v:=v) (o:=mA f) (by rw [←l];exact r f)
 exact get_map I.kIn O (c.get f) c.hd n hu (handed_of ru) (h u _ (I.tok _) ru)
theorem getmeth_ok {m:Str}{g:Addr}{pl:Sem Bool}{Q:Value × List Value->Shared->Prop}(I:Inv X pins σ H s) (e:H a=some (.ins C dx fs)) (c:Cls X.K C) (k:Meth X.K C m g) (l:fs.lookup m=none)
  (h:Q (.ref g,[.ref a]) s):wpAny (model X.prog X.w) A (getMethod (.ref a) m pl) Q E s:=by
 obtain ⟨mA,O,r,_,_,_⟩:=ins_get I.hok e
 have hn:mA m=none:=RelO.none_of (by rw [←l];exact r m)
 exact get_meth I.kIn O (c.get m) k.at_ k.fn hn h
theorem setattr_ok {y:V}{u:Value}{Q:Unit->Shared->Prop}(I:Inv X pins σ H s) (e:H a=some (.ins C dx fs)) (c:Cls X.K C) (n:NoAttr X.K C f) (hl:fs.length < 1000) (ry:RelV y u)
  (h:∀ s',Inv X pins σ (upd H a (.ins C dx (putF f y fs))) s'->Q () s'):wpAny (model X.prog X.w) A (setAttr (.ref a) f u) Q E s:=by
 obtain ⟨mA,O,r,wi,_,ho⟩:=ins_get I.hok e
 have hz:(fs.map (·.1)).length≤sizeLine:=by rw [List.length_map,sizeLine_eq];omega
 refine set_map I.kIn O c.sa c.po n.taker c.hd wi hz fun h' O' sb=>h _ ?_
 have hd:∃ o,h'.get? dx=some o:=let ⟨o,_,_,e',_⟩:=O'.ns;⟨o,e'⟩
 refine I.write (x:=a) (e:=dx) (by rw [e];exact True.intro) (.inr ho) (fun b q hb z=>(sb.2 b hb).trans z) hd ?_
 refine ⟨by rw [upd_ne O.ne];exact ho,?_,O.ne,O'.obj,_,O'.ns,fun g=>?_,fun g hg=>?_⟩
 ·have:=length_putF f y fs;omega
 ·show RelO ((putF f y fs).lookup g) (if g=f then some u else mA g)
  rw [lookup_putF]
  by_cases q:g=f
  ·rw [if_pos q,if_pos q];exact ry
  ·rw [if_neg q,if_neg q];exact r g
 ·by_cases q:g=f
  ·rw [q];exact (keys_putF f y fs).1
  ·refine (keys_putF f y fs).2 g (wi g fun z=>hg ?_)
   show (if g=f then some u else mA g)=none
   rw [if_neg q];exact z
theorem Inv.made (I:Inv X pins σ H s):Inv X pins σ (upd (upd H s.heap.objs.size (.own (s.heap.objs.size+1))) (s.heap.objs.size+1) (.ins C s.heap.objs.size []))
  { s with heap:=(s.heap.push PySem.W.emptyDict).push (PySem.W.instObj C s.heap.objs.size) }:=by
 have e1:(s.heap.push PySem.W.emptyDict).get? s.heap.objs.size=some PySem.W.emptyDict:=Heap.get?_push_size s.heap rfl
 have e2:((s.heap.push PySem.W.emptyDict).push (PySem.W.instObj C s.heap.objs.size)).get? (s.heap.objs.size+1)=some (PySem.W.instObj C s.heap.objs.size):=by
  have:=Heap.get?_push_size (s.heap.push PySem.W.emptyDict) (o:=PySem.W.instObj C s.heap.objs.size) rfl
  rwa [Heap.size_push] at this
 have e3:(s.heap.push PySem.W.emptyDict).Ns s.heap.objs.size (fun _=>none):=⟨PySem.W.emptyDict,#[],_,e1,rfl,(fun e he=>absurd he (by simp)),fun _=>rfl⟩
 have I1:=I.laid (a:=s.heap.objs.size) (o:=.own (s.heap.objs.size+1)) (h':=s.heap.push PySem.W.emptyDict) (t':=s.toks) (fun b u q=>Heap.get?_push_of_some _ q) (Nat.le_refl _) ⟨_,e1⟩
 refine I1.laid (a:=s.heap.objs.size+1) (o:=.ins C s.heap.objs.size []) (t':=s.toks) (fun b u q=>Heap.get?_push_of_some _ q) (Nat.le_of_eq (Heap.size_push _ _)) ?_
 have ne:s.heap.objs.size ≠ s.heap.objs.size+1:=Nat.ne_of_lt (Nat.lt_succ_self _)
 refine ⟨by rw [upd_ne ne,upd_same],Nat.zero_le _,ne,e2,fun _=>none,(Heap.Ns1.of_empty e3).at fun o q=>Heap.get?_push_of_some _ q,fun _=>True.intro,fun y hy=>absurd rfl hy⟩
theorem attr_of {prog:Program}{w:World}{env:Env}{e:Expr}{f:Str}{pos:Pos}{s:Shared}{Q:Value->Shared->Prop}(hb:attributeBase e f env (eval e env)=eval e env)
  (h:wpAny (model prog w) A (eval e env) (fun o s₁=>wpAny (model prog w) A (getAttr o f true) Q E s₁) E s):wpAny (model prog w) A (eval (.Attribute e f pos) env) Q E s:=
 Attribute_any_ h (by rw [arm_eval_Attribute,hb])
end
section
variable {X:Cx}{o e value:Expr}{f:Str}{pos pos' tpos:Pos}{ta tv:TE}
end
section
variable {X:Cx}{pins:List (Addr × Obj)}{σ:St}{H:Hp}{s:Shared}{A:Around}{E:Value->Shared->Prop}{Q:Value->Shared->Prop}{c:Value}{b:Bool}
inductive TyOf (K:PySem.W.Frag) (H:Hp):V->Value->Prop where
 | non:TyOf K H .non (.type "NoneType")
 | bl (x:Bool):TyOf K H (.bl x) (.type "bool")
 | int (i:Int):TyOf K H (.int i) (.type "int")
 | str (x:Str):TyOf K H (.str x) (.type "str")
 | flt (x:UInt64):TyOf K H (.flt x) (.type "float")
 | lst {a:Addr} {xs:List V} (e:H a=some (.lst xs)):TyOf K H (.ref a) (.type "list")
 | frz {a:Addr} {o:Obj} {xs:List V} (e:H a=some (.frz o (.lst xs))):TyOf K H (.ref a) (.type "list")
 | tup {a:Addr} {xs:List V} (e:H a=some (.tup xs)):TyOf K H (.ref a) (.type "tuple")
 | dK {a:Addr} {kvs:List (Key × V)} (e:H a=some (.dK kvs)):TyOf K H (.ref a) (.type "dict")
 | dT {a:Addr} {kvs:List (List Key × V)} (e:H a=some (.dT kvs)):TyOf K H (.ref a) (.type "dict")
 | ins {a C dx:Addr} {fs:List (Str × V)} (e:H a=some (.ins C dx fs)) (cl:Cls K C) (ha:PySem.W.findIn K (.ref C) "__class__"=some (some (.builtin "object.__class__")))
   (hn:PySem.W.specialIn K (.builtin "object.__class__") "__get__"=some (some (.builtin "getset_descriptor.__get__"))) (htk:PySem.W.takesIn K (.builtin "object.__class__")=some true)
   (hm:PySem.W.mroIn K C (.type "object")=some true):TyOf K H (.ref a) (.ref C)
theorem isinst_ok {x:V}{u t:Value}(I:Inv X pins σ H s) (rx:RelV x u) (ty:TyOf X.K H x t) (e:PySem.W.kitOne X.K t c=some b) (h:∀ tk,Q (.bool b) { s with toks:=tk }) :
  wpAny (model X.prog X.w) A (call (.builtin "isinstance") [u,c]) Q E s:=by
 cases ty with
 | non=>cases (show u=Value.none from rx);exact PySem.W.kia_one PySem.W.kitx_none I.kIn True.intro e (fun z=>nomatch z) h
 | bl y=>cases (show u=Value.bool y from rx);exact PySem.W.kia_one PySem.W.kitx_bool I.kIn True.intro e (fun z=>nomatch z) h
 | int i=>obtain ⟨t,q⟩:=(show ∃ t,u=Value.int i t from rx);cases q;exact PySem.W.kia_one PySem.W.kitx_int I.kIn True.intro e (fun z=>nomatch z) h
 | str y=>obtain ⟨t,q⟩:=(show ∃ t,u=Value.str y t from rx);cases q;exact PySem.W.kia_one PySem.W.kitx_str I.kIn True.intro e (fun z=>nomatch z) h
 | flt y=>obtain ⟨t,q⟩:=(show ∃ t,u=Value.float y t from rx);cases q;exact PySem.W.kia_one PySem.W.kitx_float I.kIn True.intro e (fun z=>nomatch z) h
 | @lst a xs ea=>
  cases (show u=Value.ref a from rx)
  obtain ⟨_,_,n,_,h1⟩:=(show ObjOk X.prog X.w H s.heap a (.lst xs) from I.hok a _ ea)
  exact PySem.W.kia_one PySem.W.kitx_list I.kIn ⟨_,h1,rfl⟩ e (fun z=>nomatch z) h
 | @frz a ob xs ea=>
  cases (show u=Value.ref a from rx)
  obtain ⟨_,_,_,n,_,h1⟩:=(show ObjOk X.prog X.w H s.heap a (.frz ob (.lst xs)) from I.hok a _ ea)
  exact PySem.W.kia_one PySem.W.kitx_list I.kIn ⟨_,h1,rfl⟩ e (fun z=>nomatch z) h
 | @tup a xs ea=>
  cases (show u=Value.ref a from rx)
  obtain ⟨_,_,_,p⟩:=(show ObjOk X.prog X.w H s.heap a (.tup xs) from I.hok a _ ea)
  obtain ⟨o,h1,h2,_⟩:=p
  exact PySem.W.kia_one PySem.W.kitx_tuple I.kIn ⟨o,h1,h2⟩ e (fun z=>nomatch z) h
 | @dK a kvs ea=>
  cases (show u=Value.ref a from rx)
  obtain ⟨_,_,vs,_,p⟩:=(show ObjOk X.prog X.w H s.heap a (.dK kvs) from I.hok a _ ea)
  obtain ⟨o,es,ep,h1,h2,_⟩:=p
  exact PySem.W.kia_one PySem.W.kitx_dict I.kIn ⟨o,h1,h2.1⟩ e (fun z=>nomatch z) h
 | @dT a kvs ea=>
  cases (show u=Value.ref a from rx)
  obtain ⟨_,_,xs,_,o,es,ep,h1,h2,_⟩:=(show ObjOk X.prog X.w H s.heap a (.dT kvs) from I.hok a _ ea)
  exact PySem.W.kia_one PySem.W.kitx_dict I.kIn ⟨o,h1,h2.1⟩ e (fun z=>nomatch z) h
 | @ins a C dx fs ea cl ha hn htk hm=>
  cases (show u=Value.ref a from rx)
  obtain ⟨mA,O,_⟩:=ins_get I.hok ea
  obtain ⟨od,J,_⟩:=O.look
  exact PySem.W.kia_one (PySem.W.kitx_own (cl.get _) cl.hd ha hn htk hm) I.kIn J e (fun z=>nomatch z) h
end
end L2
namespace L2
open PySem PySem.Spec PyProof.Rows
structure Room (k:Nat) (A:Around):Prop where
 hd:A.handled=none
 dp:A.depth+3 * k+5 < recursionLimit
 un:A.units+16 * k+200 < cLine
theorem Room.mono {j k:Nat}{A:Around}(r:Room k A) (h:j≤k):Room j A:=⟨r.hd,by have:=r.dp;omega,by have:=r.un;omega⟩
theorem Room.deeper {k:Nat}{A:Around}(r:Room (k+1) A) (env:Env):Room k (A.deeper env):=
 ⟨r.hd,by have:=r.dp;show A.depth+1+3 * k+5 < _;omega,by have:=r.un;show A.units+3+16 * k+200 < _;omega⟩
theorem make_depth {A:Around}{C:Addr}{us:List Value}{kw:List (Str × Value)}:(A.under (.builtin "type.__call__" ⟨.ref C::us,kw⟩)).depth=A.depth+1:=by
 first|rfl|simp [Around.under,Code.weight,Code.isCreation,Code.isGuard,Code.isCaller,Code.frames,Code.isFrame,guardIds]
theorem make_units {A:Around}{C:Addr}{us:List Value}{kw:List (Str × Value)}:(A.under (.builtin "type.__call__" ⟨.ref C::us,kw⟩)).units=A.units+1:=by
 first|rfl|simp [Around.under,Code.cUnits,Code.frames,Code.isFrame]
theorem Room.make {k:Nat}{A:Around}(r:Room (k+1) A) (C:Addr) (us:List Value) (kw:List (Str × Value)):Room k (A.under (.builtin "type.__call__" ⟨.ref C::us,kw⟩)):=
 ⟨r.hd,by have:=r.dp;rw [make_depth];omega,by have:=r.un;rw [make_units];omega⟩
theorem Room.depth {k:Nat}{A:Around}(r:Room k A):A.depth < recursionLimit:=by have:=r.dp;omega
theorem Room.units {k:Nat}{A:Around}(r:Room k A):A.units+64 < cLine:=by have:=r.un;omega
def tNil:TA:=fun _ H Q=>Q [] H
def tCons (ta:TE) (tr:TA):TA:=fun σ H Q=>ta σ H fun x H1=>tr σ H1 fun xs H2=>Q (x::xs) H2
section
variable {X:Cx}{e:Expr}{es:List Expr}{te:TE}{t:TA}{pos:Pos}
theorem pa_nil:PA X [] tNil:=fun _ _ _ _ H Q I h=>Calls.spliced_nil ⟨[],H,I,.nil,h⟩
theorem pa_cons (ha:PE X e te) (hr:PA X es t) (hs:starEach (e::es) X.env=(false,eval e X.env)::starEach es X.env:=by rfl):PA X (e::es) (tCons te t):=by
 intro pos pins s σ H Q I h
 rw [hs]
 show wpAny _ _ (spliced ((false,eval e X.env)::backTo pos (starEach es X.env))) _ _ s
 refine Calls.spliced_cons (thn (ha pins s σ H _ I h) fun u s1 ⟨x,H1,I1,r1,q1⟩=>?_)
 exact thn (hr pos pins s1 σ H1 _ I1 q1) fun us s2 ⟨xs,H2,I2,r2,q2⟩=>⟨x::xs,H2,I2,.cons r1 r2,q2⟩
end
abbrev Sp:=List V->Hp->VK->XK->Prop
abbrev CXT:=List Env->Hp->Shared->XK->Value->Shared->Prop
structure Env0 (P:Program) (w:World) (K:PySem.W.Frag) (mg:Str->Option Value) (base:Heap) (A:Around) (outer:List Env) (s:Shared) (H:Hp):Prop where
 frames:A.frames=some outer
 mod:Mod K mg base
 bs:∀ b o,base.get? b=some o->s.heap.get? b=some o∧H b=none
 bsz:base.objs.size≤s.heap.objs.size
 funs:s.heap.FunFrames base outer
 frf:∀ b∈frs outer,H b=none
 hok:HOk P w H s.heap
 bare:AllBare s.gens
def CE (outer:List Env) (P:Program) (w:World) (H:Hp) (s:Shared) (Q:VK) (u:Value) (s':Shared):Prop:=
 ∃ v H',s'.os=s.os∧AllBare s'.gens∧Un (frs outer) [] H H' s.heap s'.heap∧HOk P w H' s'.heap∧RelV v u∧Q v H'
def CR (CX:CXT) (outer:List Env) (P:Program) (w:World) (H:Hp) (s:Shared) (Q:VK) (E:XK) (r:Result) (s':Shared):Prop:=
 match r with
 | .ok (.ret u)=>CE outer P w H s Q u s'
 | .ok _=>False
 | .error e=>CX outer H s E e s'
structure FnOk (P:Program) (w:World) (K:PySem.W.Frag) (mg:Str->Option Value) (base:Heap) (CX:CXT) (k:Nat) (f:Addr) (fd:FuncData) (ps:List Str) (sp:Sp):Prop where
 len:∀ vs H Q E,sp vs H Q E->vs.length=ps.length
 run:∀ (A:Around) (outer:List Env) (s:Shared) (H:Hp) (args:Args) (us:List Value) (vs:List V) (Q:VK) (E:XK),Room k A->Env0 P w K mg base A outer s H->BindsTo s fd args (ps.zip us)->Vals vs us->sp vs H Q E →
  codeAny (model P w) A (.call (.ref f) args) (CR CX outer P w H s Q E) s
theorem FnOk.mono {P:Program}{w:World}{K:PySem.W.Frag}{mg:Str->Option Value}{base:Heap}{CX:CXT}{j k:Nat}{f:Addr}{fd:FuncData}{ps:List Str}{sp:Sp}(F:FnOk P w K mg base CX j f fd ps sp) (h:j≤k) :
  FnOk P w K mg base CX k f fd ps sp:=⟨F.len,fun A outer s H args us vs Q E hr=>F.run A outer s H args us vs Q E (hr.mono h)⟩
theorem FnOk.imp {P:Program}{w:World}{K:PySem.W.Frag}{mg:Str->Option Value}{base:Heap}{CX:CXT}{k:Nat}{f:Addr}{fd:FuncData}{ps:List Str}{sp sp':Sp}(F:FnOk P w K mg base CX k f fd ps sp)
  (h:∀ vs H Q E,sp' vs H Q E->sp vs H Q E):FnOk P w K mg base CX k f fd ps sp':=
 ⟨fun vs H Q E q=>F.len vs H Q E (h _ _ _ _ q),fun A outer s H args us vs Q E hr he hb hv hs=>F.run A outer s H args us vs Q E hr he hb hv (h _ _ _ _ hs)⟩
theorem Env0.make {P:Program}{w:World}{K:PySem.W.Frag}{mg:Str->Option Value}{base:Heap}{A:Around}{outer:List Env}{s:Shared}{H:Hp}(e:Env0 P w K mg base A outer s H) (C:Addr) (us:List Value) (kw:List (Str × Value)) :
  Env0 P w K mg base (A.under (.builtin "type.__call__" ⟨.ref C::us,kw⟩)) outer s H:=⟨by first|exact e.frames|(simpa [Around.under,Code.envs,Code.isFrame,pushEnvs] using e.frames),e.mod,e.bs,e.bsz,e.funs,e.frf,e.hok,e.bare⟩
section
variable {X:Cx}{pins:List (Addr × Obj)}{σ:St}{H:Hp}{s s':Shared}
theorem Inv.env0 (I:Inv X pins σ H s):Env0 X.prog X.w X.K X.mg X.base X.A X.stack s H:=
 ⟨I.ok.frames,I.ok.mod,I.bs,Nat.le_trans I.ok.bsz I.sz,I.stack,I.stkFree,I.hok,I.bare⟩
theorem Inv.after {Q:VK}{u:Value}(I:Inv X pins σ H s) (h:CE X.stack X.prog X.w H s Q u s'):EP X pins σ Q u s':=by
 obtain ⟨v,H',os,bare,un,hok,r,q⟩:=h
 obtain ⟨hh,g,d,t,os'⟩:=s'
 obtain rfl:os'=s.os:=os
 exact ⟨v,H',I.call (h':=hh) (g':=g) (d':=d) (t':=t) (ch:=[]) un hok bare (fun b z=>absurd z (by simp)),r,q⟩
end
def tCall (sp:Sp) (dvs:List V) (E:XK) (t:TA):TE:=fun σ H Q=>t σ H fun vs H1=>sp (vs++dvs) H1 Q E
def Binds (K:PySem.W.Frag) (fd:FuncData) (ps:List Str) (ds:List Value):Prop:=
 ∀ (s:Shared) (us:List Value),K.In s.heap->(us++ds).length=ps.length->BindsTo s fd ⟨us,[]⟩ (ps.zip (us++ds))
theorem Binds.all {K:PySem.W.Frag}{fd:FuncData}{ps:List Str}(h:∀ us:List Value,us.length=ps.length->bindArgs fd ⟨us,[]⟩=pure (ps.zip us)):Binds K fd ps []:=fun s us _ hl=>by
 rw [List.append_nil] at hl ⊢
 exact .of_eq (h us hl)
def Passes (CX:CXT) (X:Cx) (E:XK):Prop:=∀ (pins:List (Addr × Obj)) (σ:St) (H:Hp) (s:Shared) (e:Value) (s':Shared),Inv X pins σ H s->CX X.stack H s E e s'->X.xe e s'
section
variable {X:Cx}{CX:CXT}{k:Nat}{f C:Addr}{fd:FuncData}{ps:List Str}{sp:Sp}{dvs:List V}{ds:List Value}{E:XK}{x m:Str}{p pos apos:Pos}{e o:Expr}{es:List Expr}{ta:TE}{t:TA}
theorem run_fn {pins:List (Addr × Obj)}{σ:St}{H:Hp}{s:Shared}{Q:VK}{us:List Value}{vs:List V}(F:FnOk X.prog X.w X.K X.mg X.base CX k f fd ps sp) (hr:Room k X.A) (hb:Binds X.K fd ps ds) (hd:Vals dvs ds) (hx:Passes CX X E)
  (I:Inv X pins σ H s) (r:Vals vs us) (h:sp (vs++dvs) H Q E):wpAny (model X.prog X.w) X.A (call (.ref f) us) (EP X pins σ Q) X.xe s:=by
 have r2:Vals (vs++dvs) (us++ds):=r.append hd
 have hl:(us++ds).length=ps.length:=by rw [←r2.length];exact F.len _ _ _ _ h
 refine wpAny_call (codeAny_mono (F.run X.A X.stack s H ⟨us,[]⟩ (us++ds) (vs++dvs) Q E hr I.env0 (hb s us I.kIn hl) r2 h) fun r s' hq=>?_)
 cases r with
 | error e=>exact hx pins σ H s e s' I hq
 | ok fl=>
  cases fl with
  | ret u=>exact I.after hq
  | next=>exact False.elim hq
  | brk=>exact False.elim hq
  | cont=>exact False.elim hq
theorem pe_call (F:FnOk X.prog X.w X.K X.mg X.base CX k f fd ps sp) (hr:Room k X.A) (hg:Gl X x) (hm:X.mg x=some (.ref f)) (hk:PySem.W.keepIn X.K (.ref f)=true) (hb:Binds X.K fd ps ds) (hd:Vals dvs ds) (hx:Passes CX X E)
  (ha:PA X (e::es) t) (hdb:(x == ("__debug__":Str))=false:=by decide) (he:starEach (e::es) X.env=(false,eval e X.env)::starEach es X.env:=by rfl) (hpl:(backTo pos (starEach es X.env)).any (·.1)=false:=by rfl) :
  PE X (.Call (.Name x p) (e::es) [] pos) (tCall sp dvs E t):=by
 intro pins s σ H Q I h
 refine wpAny_Call_Name_kw (ld_glob I hg hm ?_ hdb)
 refine PySem.W.callWith_K (h₀:=X.base) I.ok.mod.kin hk (thn (ha pos pins s σ H _ I h) fun us s1 ⟨vs,H1,I1,r,q⟩=>⟨I1.kIn,?_⟩) he hpl
 exact run_fn F hr hb hd hx I1 r q
structure Mk (K:PySem.W.Frag) (C f:Addr):Prop where
 makes:PySem.W.makesIn K C=true
 init:PySem.W.findIn K (.ref C) "__init__"=some (some (.ref f))
 fn:PySem.W.isFn K (.ref f)=true
 kp:PySem.W.keepIn K (.ref C)=true
theorem run_make {pins:List (Addr × Obj)}{σ:St}{H:Hp}{s:Shared}{Q:VK}{us:List Value}{vs:List V}(M:Mk X.K C f) (F:FnOk X.prog X.w X.K X.mg X.base CX k f fd ps sp) (hr:Room (k+1) X.A) (hb:Binds X.K fd ps ds) (hd:Vals dvs ds)
  (hx:Passes CX X E) (I:Inv X pins σ H s) (r:Vals vs us)
  (h:∀ x dx,H x=none->H dx=none->dx ≠ x->sp (.ref x::(vs++dvs)) (upd (upd H dx (.own x)) x (.ins C dx [])) (fun v H2=>v=.non∧Q (.ref x) H2) E) :
  wpAny (model X.prog X.w) X.A (call (.ref C) us) (EP X pins σ Q) X.xe s:=by
 have hq:=h (s.heap.objs.size+1) s.heap.objs.size (I.hok.fresh (Nat.le_succ _)) (I.hok.fresh (Nat.le_refl _)) (Nat.ne_of_lt (Nat.lt_succ_self _))
 have I2:=Inv.made (C:=C) I
 have r2:Vals (V.ref (s.heap.objs.size+1)::(vs++dvs)) (Value.ref (s.heap.objs.size+1)::(us++ds)):=.cons rfl (r.append hd)
 have hl:(Value.ref (s.heap.objs.size+1)::us++ds).length=ps.length:=by
  have e:=r2.length
  rw [F.len _ _ _ _ hq] at e
  exact e.symm
 refine wpAny_call (make_map (f:=f) I.kIn M.makes M.init (beq_iff_eq.mp M.fn) (codeAny_mono (F.run _ X.stack _ _ ⟨Value.ref (s.heap.objs.size+1)::us,[]⟩ (Value.ref (s.heap.objs.size+1)::(us++ds)) _ _ E (hr.make C us [])
  (I2.env0.make C us []) (hb _ (Value.ref (s.heap.objs.size+1)::us) I2.kIn hl) r2 hq) fun r s' hq'=>?_))
 cases r with
 | error e=>exact hx pins σ _ _ e s' I2 hq'
 | ok fl=>
  cases fl with
  | ret u=>
   obtain ⟨v,H',I3,rv,ev,q3⟩:=I2.after hq'
   subst ev
   exact ⟨rv,⟨V.ref (s.heap.objs.size+1),H',I3,rfl,q3⟩⟩
  | next=>exact False.elim hq'
  | brk=>exact False.elim hq'
  | cont=>exact False.elim hq'
end
section
variable {X:Cx}{CX:CXT}{k:Nat}{f C:Addr}{fd:FuncData}{ps ks:List Str}{sp:Sp}{E:XK}{x m:Str}{p pos apos kpos:Pos}{e o:Expr}{es:List Expr}{kws:List Keyword}{te ta:TE}{t tk:TA}{nm:Option Str}
variable {g:List Value->List Value->List Value}{gV:List V->List V->List V}
end
structure FnScope (N P:List Str) (sc:Scope):Prop where
 kind:sc.kind=.function
 co:sc.isCoroutine=false
 gen:sc.isGenerator=false
 nd:N.Nodup
 pre:N.take P.length=P
 par:∀ x∈P,sc.names.lookup x=some .local∨sc.names.lookup x=some .cell
 nofree:∀ y∈sc.names,y.2 ≠ .free
theorem bindL_out {kindOf:Str->Option NameKind}{x:Str}:∀ {binds:List (Str × Value)}{m:Str->Option Value},(∀ v,(x,v) ∉ binds)->bindL kindOf binds m x=m x
 | [],_,_=>rfl
 | (n,v)::r,m,h=>by
  unfold bindL
  rw [bindL_out fun w hw=>h w (List.mem_cons_of_mem _ hw)]
  split
  ·have:x ≠ n:=by rintro rfl;exact h v List.mem_cons_self
   simp [this]
  ·rfl
theorem bindC_out {kindOf:Str->Option NameKind}{x:Str}:∀ {binds:List (Str × Value)}{m:Str->Option Value},(∀ v,(x,v) ∉ binds)->bindC kindOf binds m x=m x
 | [],_,_=>rfl
 | (n,v)::r,m,h=>by
  unfold bindC
  rw [bindC_out fun w hw=>h w (List.mem_cons_of_mem _ hw)]
  split
  ·rfl
  ·have:x ≠ n:=by rintro rfl;exact h v List.mem_cons_self
   simp [this]
theorem bindL_get {kindOf:Str->Option NameKind}{x:Str}{v:Value}:∀ {P:List Str}{vs:List Value}{i:Nat}{m:Str->Option Value},P.Nodup->P[i]? = some x->vs[i]? = some v->kindOf x=some .local →
  bindL kindOf (P.zip vs) m x=some v
 | [],_,_,_,_,h,_,_=>by simp at h
 | _::_,[],_,_,_,_,h,_=>by simp at h
 | p::P,w::vs,0,m,nd,h1,h2,hk=>by
  simp at h1 h2;subst h1;subst h2
  show bindL kindOf ((p,w)::P.zip vs) m p=_
  unfold bindL
  rw [bindL_out fun v hv=>(List.nodup_cons.mp nd).1 (List.of_mem_zip hv).1,if_pos hk]
  simp
 | p::P,w::vs,i+1,m,nd,h1,h2,hk=>by
  show bindL kindOf ((p,w)::P.zip vs) m x=_
  unfold bindL
  exact bindL_get (i:=i) (List.nodup_cons.mp nd).2 (by simpa using h1) (by simpa using h2) hk
theorem bindC_get {kindOf:Str->Option NameKind}{x:Str}{v:Value}:∀ {P:List Str}{vs:List Value}{i:Nat}{m:Str->Option Value},P.Nodup->P[i]? = some x->vs[i]? = some v->kindOf x ≠ some .local →
  bindC kindOf (P.zip vs) m x=some v
 | [],_,_,_,_,h,_,_=>by simp at h
 | _::_,[],_,_,_,_,h,_=>by simp at h
 | p::P,w::vs,0,m,nd,h1,h2,hk=>by
  simp at h1 h2;subst h1;subst h2
  show bindC kindOf ((p,w)::P.zip vs) m p=_
  unfold bindC
  rw [bindC_out fun v hv=>(List.nodup_cons.mp nd).1 (List.of_mem_zip hv).1,if_neg hk]
  simp
 | p::P,w::vs,i+1,m,nd,h1,h2,hk=>by
  show bindC kindOf ((p,w)::P.zip vs) m x=_
  unfold bindC
  exact bindC_get (i:=i) (List.nodup_cons.mp nd).2 (by simpa using h1) (by simpa using h2) hk
def start (N:List Str) (vs:List V):St:=vs.map some++List.replicate (N.length - vs.length) none
def cxOf (CX:CXT) (P:Program) (w:World) (K:PySem.W.Frag) (mg:Str->Option Value) (base:Heap) (N:List Str) (qual:Str) (scope:Scope) (f:Addr) (cd:Value) (A:Around) (outer:List Env) (s:Shared) (H:Hp) (E:XK):Cx where
 prog:=P
 w:=w
 K:=K
 mg:=mg
 base:=base
 A:=A.deeper (envOfC qual scope s.heap.objs.size f cd)
 N:=N
 s₀:=s
 H₀:=H
 env:=envOfC qual scope s.heap.objs.size f cd
 outer:=outer
 stack:=envOfC qual scope s.heap.objs.size f cd::outer
 ex:=[]
 calm:=true
 fn:=fun _=>true
 pn:=[]
 xe:=fun e s'=>wpAny (model P w) (A.deeper (envOfC qual scope s.heap.objs.size f cd)) (leaving (envOfC qual scope s.heap.objs.size f cd) e) (fun _ s''=>CX outer H s E e s'') (fun e' s''=>CX outer H s E e' s'') s'
theorem cell_has {sc:Scope}{n:Nat}{x:Str}(h:sc.names.lookup x=some .cell):∃ c,(cellsFrom n sc.names []).lookup x=some c:=by
 have q:=PySem.W.cellsFrom_some sc.names n [] (.inl h)
 exact Option.isSome_iff_exists.mp q
theorem inv_start {CX:CXT}{P:Program}{w:World}{K:PySem.W.Frag}{mg:Str->Option Value}{base:Heap}{N ps:List Str}{qual:Str}{scope:Scope}{f:Addr}{cd:Value}{A:Around}{outer:List Env}{s s1:Shared}{H:Hp}{E:XK}{us:List Value}{vs:List V}
  (S:FnScope N ps scope) (hd:A.handled=none) (e0:Env0 P w K mg base A outer s H) (hl:vs.length=ps.length) (r:Vals vs us)
  (x:InCallC s s.heap.objs.size (bindL (envOfC qual scope s.heap.objs.size f cd).kindOf (ps.zip us) fun _=>none) (cellsFrom (s.heap.objs.size+1) scope.names []) (bindC (envOfC qual scope s.heap.objs.size f cd).kindOf (ps.zip us) fun _=>none) s1) :
  Inv (cxOf CX P w K mg base N qual scope f cd A outer s H E) [] (start N vs) H s1:=by
 have hpl:ps.length≤N.length:=by have:=congrArg List.length S.pre;rw [List.length_take] at this;omega
 obtain ⟨h1,tk,rfl,hk⟩:=x.done
 have noA:∀ b:Addr,b ∉ (cxOf CX P w K mg base N qual scope f cd A outer s H E).ex:=fun b z=>absurd (show b∈([]:List Addr) from z) (by simp)
 refine ⟨⟨e0.mod,S.kind,rfl,rfl,Nat.le_refl _,fun y z c h1 h2=>?_,fun y hy=>?_,fun y c _ h=>?_,fun _=>hd,Around.frames_deeper e0.frames,.inr ⟨rfl,rfl⟩,fun b z=>absurd z (noA b),e0.bs,e0.bsz,fun b _ _=>noA b,fun b z=>absurd z (noA b),e0.funs,e0.frf⟩,
  rfl,e0.bare,Un.kept hk,⟨_,x.toInCall.ns,fun i y v h1 h2 h3=>?_⟩,fun y c h=>⟨_,x.cell y c h⟩,e0.hok.fresh (Nat.le_refl _),fun y c h=>?_,fun p hp=>absurd (show p∈([]:List (Addr × Obj)) from hp) (by simp),e0.hok.kept hk,?_⟩
 ·exact name_of_addr x.apart (PySem.mem_of_lookup h1) (PySem.mem_of_lookup h2)
 ·have hy:scope.names.lookup y=some .cell∨scope.names.lookup y=some .free:=hy
  rcases hy with hy|hy
  ·exact cell_has hy
  ·exact absurd rfl (S.nofree _ (PySem.mem_of_lookup hy))
 ·exact Nat.le_of_lt (x.above y c (PySem.mem_of_lookup h))
 ·have hi:i < vs.length:=by
   unfold start at h2
   by_cases hi:i < vs.length
   ·exact hi
   ·rw [List.getElem?_append_right (by simpa using hi)] at h2
    rw [List.getElem?_replicate] at h2
    split at h2<;>cases h2
  have ha:vs[i]? = some v:=by
   unfold start at h2
   rw [List.getElem?_append_left (by simpa using hi),List.getElem?_map] at h2
   cases e:vs[i]? with
   | none=>rw [e] at h2;cases h2
   | some a=>rw [e] at h2;cases h2;rfl
  obtain ⟨u,hu,rv⟩:=r.get ha
  have hp:ps[i]? = some y:=by
   rw [←S.pre,List.getElem?_take_of_lt (by omega)];exact h1
  have ndP:ps.Nodup:=by rw [←S.pre];exact S.nd.sublist (List.take_sublist _ _)
  refine ⟨u,rv,?_⟩
  rcases S.par y (List.mem_of_getElem? hp) with k|k
  ·exact .inl ⟨k,bindL_get ndP hp hu k⟩
  ·obtain ⟨c,e⟩:=cell_has (n:=s.heap.objs.size+1) k
   refine .inr ⟨.inl k,c,e,?_⟩
   have q:=x.cell y c e
   rw [bindC_get ndP hp hu (by show scope.names.lookup y ≠ _;rw [k];decide)] at q
   exact q
 ·exact e0.hok.fresh (Nat.le_of_lt (x.above y c (PySem.mem_of_lookup h)))
 ·unfold start
  show _=N.length
  rw [List.length_append,List.length_map,List.length_replicate]
  omega
theorem fn_of {CX:CXT}{P:Program}{w:World}{K:PySem.W.Frag}{mg:Str->Option Value}{base:Heap}{k:Nat}{f:Addr}{name qual:Str}{params:Arguments}{body:List Stmt}{scope:Scope}{dV kV doc pm cdv ct oc:Value}{an od:Option Addr}
  {osl:Array (Option Value)} {N ps:List Str} {sp:Sp} (lk:K.lookup f=some ⟨oc,od,.func (PySem.W.fnOf name qual params body scope dV kV doc pm an cdv ct),osl⟩) (hcd:PySem.W.codeIn K cdv qual=true) (S:FnScope N ps scope)
  (len:∀ vs H Q E,sp vs H Q E->vs.length=ps.length)
  (hbody:∀ (A:Around) (outer:List Env) (s:Shared) (H:Hp) (vs:List V) (Q:VK) (E:XK),Room k (A.deeper (envOfC qual scope s.heap.objs.size f cdv))->sp vs H Q E →
   ∃ t,PSs (cxOf CX P w K mg base N qual scope f cdv A outer s H E) body t∧t { nx:=fun _ H'=>Q .non H',rt:=Q } (start N vs) H) :
  FnOk P w K mg base CX (k+1) f (PySem.W.fnOf name qual params body scope dV kV doc pm an cdv ct) ps sp:=by
 refine ⟨len,fun A outer s H args us vs Q E hr e0 hb r hsp=>?_⟩
 have hl:=len _ _ _ _ hsp
 have KX:K.In s.heap:=e0.mod.kin.keeps fun b o e=>(e0.bs b o e).1
 have lim:s.heap.NoLimit:=e0.mod.nolimit.keeps fun b o e=>(e0.bs b o e).1
 have hkind:∀ y∈ps.zip us,scope.names.lookup y.1=some .local∨(scope.names.lookup y.1=some .cell∧((cellsFrom (s.heap.objs.size+1) scope.names []).lookup y.1).isSome=true):=fun ⟨n,v⟩ hy=>by
  rcases S.par n (List.of_mem_zip hy).1 with q|q
  ·exact .inl q
  ·exact .inr ⟨q,PySem.W.cellsFrom_some _ _ _ (.inl q)⟩
 refine codeAny_call_function hr.depth (KX _ _ lk) rfl S.co S.gen rfl (PySem.W.codeRec_of KX hcd) (hb _ _ _ _ ?_)
 refine wpAny_newFunctionEnv_cells S.kind hkind fun env he s1 x=>?_
 subst he
 refine ⟨lim.keeps x.toInCall.keep,codeAny_func ?_⟩
 obtain ⟨t,ht,hq⟩:=hbody A outer s H vs Q E (hr.deeper _) hsp
 have I:Inv (cxOf CX P w K mg base N qual scope f cdv A outer s H E) [] (start N vs) H s1:=inv_start S hr.hd e0 hl r x
 refine wpAny_mono (ht [] s1 (start N vs) H _ I hq) (fun fl s' hs=>?_) fun e s' hs=>hs
 have fin:∀ {σ':St} {H':Hp} {v:V} {u:Value},Inv (cxOf CX P w K mg base N qual scope f cdv A outer s H E) [] σ' H' s'->RelV v u->Q v H'->CE outer P w H s Q u s':=
  fun {σ' H' v u} J rv q=>⟨v,H',J.os,J.bare,J.base,J.hok,rv,q⟩
 cases fl with
 | ret u=>
  obtain ⟨v,σ',H',J,rv,q⟩:=hs
  exact fin J rv q
 | next=>
  obtain ⟨σ',H',J,q⟩:=hs
  exact fin (v:=V.non) (u:=Value.none) J rfl q
 | brk=>
  obtain ⟨_,_,_,q⟩:=hs
  exact False.elim q
 | cont=>
  obtain ⟨_,_,_,q⟩:=hs
  exact False.elim q
end L2
namespace L2
open PySem PySem.Spec PyProof.Rows
section
variable {X:Cx}{x:Str}{p pos:Pos}{e:Expr}{es:List Expr}{t:TA}{id T:String}{r:List V->Hp->VK->Prop}
def tCB (r:List V->Hp->VK->Prop) (t:TA):TE:=fun σ H Q=>t σ H fun vs H1=>r vs H1 Q
theorem pe_callB (hc:CallR X (.builtin id) r) (hg:Gl X x) (hm:X.mg x=none) (hv:bootBuiltins x=some (.builtin id)) (ha:PA X (e::es) t) (hn:x ≠ "__name__":=by decide) (hdb:(x == ("__debug__":Str))=false:=by decide)
  (he:starEach (e::es) X.env=(false,eval e X.env)::starEach es X.env:=by rfl) (hpl:(backTo pos (starEach es X.env)).any (·.1)=false:=by rfl):PE X (.Call (.Name x p) (e::es) [] pos) (tCB r t):=by
 intro pins s σ H Q I h
 refine wpAny_Call_Name_kw (ld_blt I hg hm hv ?_ hn hdb)
 exact PyProof.Rows.callWith_builtin1 (thn (ha pos pins s σ H _ I h) fun us s1 ⟨vs,H1,I1,r1,q1⟩=>hc pins s1 σ H1 vs us Q I1 r1 q1) he hpl
theorem pe_callTy (hc:CallR X (.type T) r) (hg:Gl X x) (hm:X.mg x=none) (hv:bootBuiltins x=some (.type T)) (ha:PA X (e::es) t) (hn:x ≠ "__name__":=by decide) (hdb:(x == ("__debug__":Str))=false:=by decide)
  (he:starEach (e::es) X.env=(false,eval e X.env)::starEach es X.env:=by rfl) (hpl:(backTo pos (starEach es X.env)).any (·.1)=false:=by rfl):PE X (.Call (.Name x p) (e::es) [] pos) (tCB r t):=by
 intro pins s σ H Q I h
 refine wpAny_Call_Name_kw (ld_blt I hg hm hv ?_ hn hdb)
 exact PyProof.Rows.callWith_type1 (thn (ha pos pins s σ H _ I h) fun us s1 ⟨vs,H1,I1,r1,q1⟩=>hc pins s1 σ H1 vs us Q I1 r1 q1) he hpl
end
end L2
namespace HT
open PySem PyProof.Rows
section
open PySem.SeqAt
open PySem.AutoSeq1 (wpAny_loadPart')
open PySem.MeetsSeq PySem.MeetsSeq2 PySem.MeetsSeq3
end
section
variable {prog:Program}{w:World}{A:Around}{E:Value->Shared->Prop}{s:Shared}
theorem cat_tup {t b:Addr}{vs ws:List Value}{Q:Value->Shared->Prop}(ht:IsTup s.heap t vs.toArray) (hb:IsTup s.heap b ws.toArray) (hv:vs ≠ [])
  (h1:ws=[]->Q (.ref t) s) (h2:ws ≠ []->Q (.ref s.heap.objs.size) { s with heap:=s.heap.push { cls:=.type "tuple",data:=.seq (vs++ws).toArray } })
  (hsz:vs.length+ws.length≤sizeLine):wpAny (model prog w) A (binaryOp .Add (.ref t) (.ref b)) Q E s:=by
 obtain ⟨⟨cls,dd,data,sl⟩,ho,hc,n,hd⟩:=id ht
 obtain ⟨⟨cls2,dd2,data2,sl2⟩,ho2,hc2,n2,hd2⟩:=id hb
 simp only at hc hd hc2 hd2
 subst hc hd hc2 hd2
 have e:vs.toArray++ws.toArray=(vs++ws).toArray:=by simp
 by_cases hw:ws=[]
 ·exact concat_meets ⟨_,ho,rfl⟩ ⟨_,ho2,rfl⟩ noFill_tuple_add seq_tuple_add PySem.F.slot_tuple_add PySem.F.entry_tuple_add (PySem.F.args_tuple_add_2 _ _)
   (tuple_addW1 t b vs.toArray ws.toArray n n2 dd dd2 sl sl2 (by simpa using hv) (by simp [hw])) ⟨ho,ho2,h1 hw⟩
 ·refine concat_meets ⟨_,ho,rfl⟩ ⟨_,ho2,rfl⟩ noFill_tuple_add seq_tuple_add PySem.F.slot_tuple_add PySem.F.entry_tuple_add (PySem.F.args_tuple_add_2 _ _)
   (tuple_addW2 t b vs.toArray ws.toArray n n2 dd dd2 sl sl2 (by simpa using hv) (by simpa using hw) (by rw [List.size_toArray,List.size_toArray];exact hsz)) ⟨ho,ho2,?_⟩
  rw [e]
  exact h2 hw
def sIx (n d:Nat):Option Int->Nat
 | none=>d
 | some v=>if v < 0 then (v+(n:Int)).toNat else min v.toNat n
theorem sIx_none (n d:Nat):sIx n d none=d:=rfl
theorem sIx_nat (n d k:Nat):sIx n d (some (k:Int))=min k n:=by
 show (if (k:Int) < 0 then ((k:Int)+(n:Int)).toNat else min (k:Int).toNat n)=min k n
 rw [if_neg (by omega),Int.toNat_natCast]
theorem sIx_le (n d:Nat) (hd:d≤n) (o:Option Int):sIx n d o≤n:=by
 cases o with
 | none=>exact hd
 | some v=>
  show (if v < 0 then (v+(n:Int)).toNat else min v.toNat n)≤n
  by_cases hv:v < 0
  ·rw [if_pos hv];omega
  ·rw [if_neg hv];exact Nat.min_le_right _ _
theorem clip_eq (v:Int) (n d:Nat):(if v < 0 then max (v+(n:Int)) 0 else min v (n:Int))=((sIx n d (some v):Nat):Int):=by
 show (if v < 0 then max (v+(n:Int)) 0 else min v (n:Int))=(((if v < 0 then (v+(n:Int)).toNat else min v.toNat n):Nat):Int)
 by_cases hv:v < 0
 ·simp only [if_pos hv];omega
 ·simp only [if_neg hv];omega
theorem adjust_gen (lo hi:Option Int) (n:Nat):Builtin.Slice.sliceAdjust lo hi 1 (n:Int)=(((sIx n 0 lo:Nat):Int),((sIx n n hi:Nat):Int)):=by
 have h1:¬ ((1:Int) < 0):=by omega
 unfold Builtin.Slice.sliceAdjust
 simp only [h1,if_false]
 refine Prod.ext ?_ ?_
 ·cases lo with
  | none=>rfl
  | some v=>exact clip_eq v n 0
 ·cases hi with
  | none=>rfl
  | some v=>exact clip_eq v n n
theorem places_gen (i j:Nat):Builtin.Slice.slicePlaces (i:Int) (j:Int) 1=j - i:=by
 unfold Builtin.Slice.slicePlaces
 have h1:(1:Int) > 0:=by omega
 simp only [h1,if_true,Int.ediv_one]
 split<;>omega
theorem slicePart_ {v:Value}{o:Option Int}{Q:Option Int->Shared->Prop}(p:IsPart v o) (h:Q o s):wpAny (model prog w) A (Builtin.Slice.slicePartIndex v) Q E s:=by
 cases p with
 | none=>exact slicePart_none h
 | int i t=>exact slicePart_int h
theorem sliceApplied_gen {sl:Addr}{vl vu:Value}{lo hi:Option Int}{n:Nat}{Q:Int × Int × Nat->Shared->Prop}(hs:s.heap.IsSliceOf sl vl vu .none) (pl:IsPart vl lo) (pu:IsPart vu hi)
  (h:Q (((sIx n 0 lo:Nat):Int),1,sIx n n hi - sIx n 0 lo) s):wpAny (model prog w) A (Builtin.Slice.sliceApplied (.ref sl) (pure (n:Int))) Q E s:=by
 obtain ⟨os,hos,hcs,hds⟩:=id hs
 unfold Builtin.Slice.sliceApplied Builtin.Slice.sliceFields
 refine wpAny_bind (wpAny_bind (wpAny_field hos hds (x:=vl) rfl (wpAny_bind (wpAny_field hos hds (x:=vu) rfl (wpAny_bind (wpAny_field hos hds (x:=.none) rfl (wpAny_pure ?_)))))))
 refine wpAny_bind (slicePart_none ?_)
 show wpAny _ _ (if ((1:Int) == 0)=true then _ else _) _ _ s
 rw [if_neg (by decide)]
 refine wpAny_bind (slicePart_ pl (wpAny_bind (slicePart_ pu (wpAny_bind (wpAny_pure ?_)))))
 show wpAny _ _ (match Builtin.Slice.sliceAdjust lo hi 1 (n:Int) with|(lo,hi)=>pure (lo,(1:Int),Builtin.Slice.slicePlaces lo hi 1)) _ _ s
 rw [adjust_gen lo hi n]
 show wpAny _ _ (pure (((sIx n 0 lo:Nat):Int),(1:Int),Builtin.Slice.slicePlaces ((sIx n 0 lo:Nat):Int) ((sIx n n hi:Nat):Int) 1)) _ _ s
 rw [places_gen]
 exact wpAny_pure h
theorem pick_gen (xs:Array Value) (i k:Nat):((List.range k).filterMap fun (m:Nat)=>xs[((i:Int)+(m:Int) * 1).toNat]?).toArray=((xs.toList.drop i).take k).toArray:=by
 have e:(fun (m:Nat)=>xs[((i:Int)+(m:Int) * 1).toNat]?)=fun m=>xs[i+m]?:=by
  funext m
  have:((i:Int)+(m:Int) * 1).toNat=i+m:=by omega
  rw [this]
 rw [e]
 have:=pick_run xs i k
 rw [List.filterMap_map] at this
 have e2:((fun x=>xs[x]?) ∘ fun x=>i+x)=fun m=>xs[i+m]?:=rfl
 rw [e2] at this
 rw [this]
theorem getItem_tuple_cut {t sl:Addr}{items:Array Value}{vl vu:Value}{lo hi:Option Int}{Q:Value->Shared->Prop}(ht:IsTup s.heap t items) (hs:s.heap.IsSliceOf sl vl vu .none) (pl:IsPart vl lo) (pu:IsPart vu hi)
  (hw:¬ (sIx items.size 0 lo=0∧sIx items.size items.size hi=items.size))
  (h:Q (.ref s.heap.objs.size) { s with heap:=s.heap.push { cls:=.type "tuple",data:=.seq ((items.toList.drop (sIx items.size 0 lo)).take (sIx items.size items.size hi - sIx items.size 0 lo)).toArray } })
  (hsz:items.size≤sizeLine):wpAny (model prog w) A (getItem (.ref t) (.ref sl)) Q E s:=by
 have htake:sizeOk (.seq ((items.toList.drop (sIx items.size 0 lo)).take (sIx items.size items.size hi - sIx items.size 0 lo)).toArray):=by
  show ((items.toList.drop (sIx items.size 0 lo)).take (sIx items.size items.size hi - sIx items.size 0 lo)).toArray.size≤sizeLine
  rw [List.size_toArray,List.length_take,List.length_drop,Array.length_toList]
  omega
 have hj:sIx items.size items.size hi≤items.size:=sIx_le _ _ (Nat.le_refl _) hi
 obtain ⟨os,hos,hcs,hds⟩:=id hs
 have hTs:s.TypeIs (.ref sl) "slice":=⟨os,hos,hcs⟩
 unfold getItem
 try with_reducible refine wpAny_holding ?_
 first|refine wpAny_bind (wpAny_pure ?_)|skip
 refine wpAny_bind (wpAny_sequenceKey ht.typeIs (by decide) ?_)
 refine wpAny_bind (wpAny_callSpecial?_slot (name:=Str.ofString "__getitem__") ht.typeIs PyProof.Rows.slot_tuple_getitem
  (wpAny_call_entry PyProof.Rows.slot_tuple_getitem ht.typeIs entry_tuple_getitem ?_ (args_tuple_getitem _ _)))
 show wpAny _ _ (Builtin.Tuple.tupleItemsOf (.ref t) >>= _) _ _ s
 refine wpAny_bind (tupleItemsOf_ ht ?_)
 refine wpAny_bind (wpAny_typeOf hTs ?_)
 rw [if_pos (by decide)]
 refine wpAny_bind (sliceApplied_gen hs pl pu ?_)
 have hno:¬ ((((sIx items.size 0 lo:Nat):Int) == 0 && (1:Int) == 1 && (sIx items.size items.size hi - sIx items.size 0 lo) == items.size)=true):=by
  intro q
  rw [Bool.and_eq_true,Bool.and_eq_true] at q
  have q1:((sIx items.size 0 lo:Nat):Int)=0:=eq_of_beq q.1.1
  have q2:sIx items.size items.size hi - sIx items.size 0 lo=items.size:=eq_of_beq q.2
  exact hw ⟨by omega,by omega⟩
 show wpAny _ _ (if (((sIx items.size 0 lo:Nat):Int) == 0 && (1:Int) == 1 && (sIx items.size items.size hi - sIx items.size 0 lo) == items.size)=true then _ else _) _ _ s
 rw [if_neg hno,pick_gen]
 first
  | exact wpAny_bind (m:=Builtin.Tuple.tupleExact _) (wpAny_newObj_type (wpAny_pure ⟨_,rfl,wpAny_pure h⟩) htake)
  | exact wpAny_bind (m:=Builtin.Tuple.tupleExact _) (wpAny_newObj_type (wpAny_bind (wpAny_pure (wpAny_pure ⟨_,rfl,wpAny_pure h⟩))) htake)
  | exact wpAny_bind (wpAny_bind (m:=Builtin.Tuple.tupleExact _) (wpAny_newObj_type (wpAny_pure (wpAny_pure ⟨_,rfl,wpAny_pure h⟩)) htake))
  | exact wpAny_bind (wpAny_bind (m:=Builtin.Tuple.tupleExact _) (wpAny_newObj_type (wpAny_pure ⟨_,rfl,wpAny_pure h⟩) htake))
end
end HT
namespace L2
open PySem PySem.Spec PyProof.Rows
abbrev TO:=St->Hp->(Option Int->Hp->Prop)->Prop
def PO (X:Cx) (e:Option Expr) (t:TO):Prop:=
 ∀ (pins:List (Addr × Obj)) (s:Shared) (σ:St) (H:Hp) (Q:Option Int->Hp->Prop),Inv X pins σ H s->t σ H Q →
  wpAny (model X.prog X.w) X.A (evalPart e X.env) (fun u s'=>∃ o H',Inv X pins σ H' s'∧IsPart u o∧Q o H') X.xe s
def tNoPart:TO:=fun _ H Q=>Q none H
def tPart (t:TE):TO:=fun σ H Q=>t σ H fun x H1=>∃ i,x=.int i∧Q (some i) H1
section
variable {X:Cx}{e:Expr}{te:TE}{lo hi:Option Expr}{tl th:TO}{pos p2:Pos}
theorem po_none:PO X none tNoPart:=by
 intro pins s σ H Q I h
 rw [evalPart_none]
 exact wpAny_pure ⟨none,H,I,.none,h⟩
theorem po_some (h:PE X e te):PO X (some e) (tPart te):=by
 intro pins s σ H Q I hw
 rw [evalPart_some]
 refine thn (h pins s σ H _ I hw) fun u s1 ⟨x,H1,I1,r1,q1⟩=>?_
 obtain ⟨i,rfl,q⟩:=q1
 obtain ⟨t,rfl⟩:=r1
 exact ⟨some i,H1,I1,.int i t,q⟩
def SlR (X:Cx) (r:V->Option Int->Option Int->Hp->VK->Prop):Prop:=
 ∀ (pins:List (Addr × Obj)) (s:Shared) (σ:St) (H:Hp) (x:V) (v vl vu:Value) (lo hi:Option Int) (sl:Addr) (Q:VK),Inv X pins σ H s->RelV x v->s.heap.IsSliceOf sl vl vu .none->IsPart vl lo->IsPart vu hi->r x lo hi H Q →
  ∃ T id,typeLookup (.type T) "__getitem__"=pure (some (.builtin id))∧s.TypeIs v T∧wpAny (model X.prog X.w) X.A (getItem v (.ref sl)) (EP X pins σ Q) X.xe s
def tSl (r:V->Option Int->Option Int->Hp->VK->Prop) (te:TE) (tl th:TO):TE:=fun σ H Q=>te σ H fun x H1=>tl σ H1 fun l H2=>th σ H2 fun u H3=>r x l u H3 Q
theorem pe_slice {r:V->Option Int->Option Int->Hp->VK->Prop}(hr:SlR X r) (he:PE X e te) (hl:PO X lo tl) (hu:PO X hi th):PE X (.Subscript e (.Slice lo hi none p2) pos) (tSl r te tl th):=by
 intro pins s σ H Q I h
 refine Subscript_ (thn (he pins s σ H _ I h) fun v s1 ⟨x,H1,I1,r1,q1⟩=>?_)
 refine wpAny_Slice (thn (hl pins s1 σ H1 _ I1 q1) fun vl s2 ⟨l,H2,I2,pl,q2⟩=>thn (hu pins s2 σ H2 _ I2 q2) fun vu s3 ⟨u,H3,I3,pu,q3⟩=>?_)
 rw [evalPart_none]
 refine wpAny_pure ?_
 have I4:Inv X pins σ H3 { s3 with heap:=s3.heap.push { cls:=.type "slice",data:=.fields #[vl,vu,.none] } }:=I3.kept (t':=s3.toks) fun b ob q=>Heap.get?_push_of_some _ q
 obtain ⟨T,id,hT,ht,hg⟩:=hr pins { s3 with heap:=s3.heap.push { cls:=.type "slice",data:=.fields #[vl,vu,.none] } } σ H3 x v vl vu l u s3.heap.objs.size Q I4 r1 (Heap.IsSliceOf.new ..) pl pu q3
 show wpAny (model X.prog X.w) X.A (subscriptTail e (.Slice lo hi none p2) v (.ref s3.heap.objs.size)) (EP X pins σ Q) X.xe { s3 with heap:=s3.heap.push { cls:=.type "slice",data:=.fields #[vl,vu,.none] } }
 exact tail_any (ops:=[.ref s3.heap.objs.size,v]) ht hT hg (by with_unfolding_all rfl)
def cutV (xs:List V) (lo hi:Option Int):List V:=(xs.drop (HT.sIx xs.length 0 lo)).take (HT.sIx xs.length xs.length hi - HT.sIx xs.length 0 lo)
theorem cutV_length (xs:List V) (lo hi:Option Int):(cutV xs lo hi).length≤xs.length:=by
 unfold cutV
 rw [List.length_take,List.length_drop]
 omega
def rSlT (K:PySem.W.Frag):V->Option Int->Option Int->Hp->VK->Prop:=fun x lo hi H Q=>∃ a xs,x=.ref a∧SqT K H a xs ∧
 ¬ (HT.sIx xs.length 0 lo=0∧HT.sIx xs.length xs.length hi=xs.length)∧∀ p,H p=none->Q (.ref p) (upd H p (.tup (cutV xs lo hi)))
theorem sl_tup:SlR X (rSlT X.K):=by
 intro pins s σ H x v vl vu lo hi sl Q I rx hs pl pu h
 obtain ⟨a,xs,rfl,hx,hw,q⟩:=h
 cases rx
 obtain ⟨its,r,ht,hz⟩:=I.tuple hx
 have hlen:its.toArray.size=xs.length:=by rw [List.size_toArray];exact r.length.symm
 refine ⟨"tuple",_,PyProof.Rows.slot_tuple_getitem.lookup,ht.typeIs,?_⟩
 refine HT.getItem_tuple_cut ht hs pl pu (by rw [hlen];exact hw) ?_ (by rw [hlen];exact hz)
 rw [hlen]
 refine ⟨.ref s.heap.objs.size,_,I.laid (t':=s.toks) (o:=.tup (cutV xs lo hi)) (fun b ob q=>Heap.get?_push_of_some _ q) (Nat.le_refl _) ?_,rfl,q _ (I.hok.fresh (Nat.le_refl _))⟩
 exact ⟨Nat.le_trans (cutV_length xs lo hi) hz,_,(r.drop (HT.sIx xs.length 0 lo)).take (HT.sIx xs.length xs.length hi - HT.sIx xs.length 0 lo),IsTup.new _ _⟩
def rCatT (K:PySem.W.Frag):R2:=fun x y H Q=>∃ a b xs ys,x=.ref a∧y=.ref b∧SqT K H a xs∧SqT K H b ys∧xs ≠ []∧xs.length+ys.length≤sizeLine ∧
 (ys=[]->Q (.ref a) H)∧(ys ≠ []->∀ p,H p=none->Q (.ref p) (upd H p (.tup (xs++ys))))
theorem Vals.nil_iff {xs:List V}{us:List Value}(r:Vals xs us):us=[] ↔ xs=[]:=by
 cases r with
 | nil=>simp
 | cons _ _=>simp
theorem op_catT:OpR X (binaryOp .Add) (rCatT X.K):=by
 intro pins s σ H x y v u Q I rx ry h
 obtain ⟨a,b,xs,ys,rfl,rfl,ha,hb,hx,hz,q1,q2⟩:=h
 cases rx
 cases ry
 obtain ⟨its,r1,p1,_⟩:=I.tuple ha
 obtain ⟨its2,r2,p2,_⟩:=I.tuple hb
 refine HT.cat_tup p1 p2 (fun z=>hx (r1.nil_iff.mp z)) (fun z=>⟨.ref a,H,I,rfl,q1 (r2.nil_iff.mp z)⟩) (fun z=>?_) (by rw [←r1.length,←r2.length];exact hz)
 refine ⟨.ref s.heap.objs.size,_,I.laid (t':=s.toks) (o:=.tup (xs++ys)) (fun b ob q=>Heap.get?_push_of_some _ q) (Nat.le_refl _) ?_,rfl,q2 (fun w=>z (r2.nil_iff.mpr w)) _ (I.hok.fresh (Nat.le_refl _))⟩
 exact ⟨by rw [List.length_append];exact hz,_,r1.append r2,IsTup.new _ _⟩
end
end L2
namespace L2
open PySem PySem.Spec PyProof.Rows
def ixN (n:Nat) (i:Int):Option Nat:=if 0≤i then (if i < n then some i.toNat else none) else if -(n:Int)≤i then some (i+n).toNat else none
def atI {α:Type}(xs:List α) (i:Int):Option α:=(ixN xs.length i).bind fun j=>xs[j]?
theorem ixN_seq {n:Nat}{i:Int}{j:Nat}(h:ixN n i=some j):seqIndex? i n=some j∧j < n∧-(n:Int)≤i∧i < n:=by
 unfold ixN at h
 by_cases h0:0≤i
 ·rw [if_pos h0] at h
  by_cases h1:i < n
  ·rw [if_pos h1] at h
   have e:i.toNat=j:=Option.some.inj h
   exact ⟨by rw [seqIndex_of h0 h1,e],by omega,by omega,h1⟩
  ·rw [if_neg h1] at h;cases h
 ·rw [if_neg h0] at h
  by_cases h1:-(n:Int)≤i
  ·rw [if_pos h1] at h
   have e:(i+n).toNat=j:=Option.some.inj h
   exact ⟨by rw [seqIndex_neg (by omega) h1,e],by omega,h1,by omega⟩
  ·rw [if_neg h1] at h;cases h
theorem atI_get {α:Type}{xs:List α}{i:Int}{v:α}(h:atI xs i=some v):∃ j,seqIndex? i xs.length=some j∧xs[j]? = some v∧j < xs.length∧-(xs.length:Int)≤i∧i < xs.length:=by
 unfold atI at h
 cases e:ixN xs.length i with
 | none=>rw [e] at h;cases h
 | some j=>
  rw [e] at h
  obtain ⟨h1,h2,h3,h4⟩:=ixN_seq e
  exact ⟨j,h1,h,h2,h3,h4⟩
theorem atI_nat {α:Type}{xs:List α}{j:Nat}{v:α}(h:xs[j]? = some v):atI xs (j:Int)=some v:=by
 have hj:j < xs.length:=(List.getElem?_eq_some_iff.mp h).1
 have e:ixN xs.length (j:Int)=some j:=by
  unfold ixN
  rw [if_pos (by omega),if_pos (by omega)];simp
 unfold atI;rw [e];exact h
theorem atI_last {α:Type}(xs:List α) (v:α):atI (xs++[v]) (-1)=some v:=by
 have hl:(xs++[v]).length=xs.length+1:=by simp
 have e:ixN (xs++[v]).length (-1)=some xs.length:=by
  unfold ixN
  rw [hl,if_neg (by decide),if_pos (by omega)]
  congr 1
  omega
 unfold atI
 rw [e]
 show (xs++[v])[xs.length]? = some v
 simp
def PlainIx (b:Expr):Prop:=∀ o i,subscripted b false o i=operate [o,i] (getItem o i)
def IxR (X:Cx) (r:R2):Prop:=
 ∀ (value slice:Expr) (pins:List (Addr × Obj)) (s:Shared) (σ:St) (H:Hp) (x y:V) (v u:Value) (Q:VK),Inv X pins σ H s->RelV x v->RelV y u->r x y H Q →
  subscripted slice false v u=operate [v,u] (getItem v u)->wpAny (model X.prog X.w) X.A (subscriptTail value slice v u) (EP X pins σ Q) X.xe s
def MtR (X:Cx) (id:String) (r:V->List V->Hp->VK->Prop):Prop:=
 ∀ (pins:List (Addr × Obj)) (s:Shared) (σ:St) (H:Hp) (x:V) (xs:List V) (v:Value) (us:List Value) (Q:VK),Inv X pins σ H s->RelV x v->Vals xs us->r x xs H Q →
  wpAny (model X.prog X.w) X.A (call (.builtin id) (v::us)) (EP X pins σ Q) X.xe s
section
variable {X:Cx}{a b:Expr}{ta tb:TE}{pos:Pos}
theorem IxR.or {r r':R2}(h:IxR X r) (h':IxR X r'):IxR X (fun x y H Q=>r x y H Q∨r' x y H Q):=by
 intro value slice pins s σ H x y v u Q I rx ry q hs
 rcases q with q|q
 ·exact h value slice pins s σ H x y v u Q I rx ry q hs
 ·exact h' value slice pins s σ H x y v u Q I rx ry q hs
theorem pe_ix {r:R2}(hr:IxR X r) (ha:PE X a ta) (hb:PE X b tb) (hs:PlainIx b):PE X (.Subscript a b pos) (tOp r ta tb):=by
 intro pins s σ H Q I h
 exact Subscript_ (binT ha hb I h fun v u s2 x y H2 I2 rx ry q=>hr a b pins s2 σ H2 x y v u Q I2 rx ry q (hs _ _))
def rIxL (K:PySem.W.Frag):R2:=fun x y H Q=>∃ p xs i v,x=.ref p∧y=.int i∧SqL K H p xs∧atI xs i=some v∧Q v H
def rIxT (K:PySem.W.Frag):R2:=fun x y H Q=>∃ p xs i v,x=.ref p∧y=.int i∧SqT K H p xs∧atI xs i=some v∧Q v H
def rIxS:R2:=fun x y H Q=>∃ z i c,x=.str z∧y=.int i∧z.length≤sizeLine∧atI z.cps.toList i=some c∧Q (.str ⟨#[c]⟩) H
theorem ix_list:IxR X (rIxL X.K):=by
 intro value slice pins s σ H x y v u Q I rx ry h hs
 obtain ⟨p,xs,i,z,rfl,rfl,hq,he,q⟩:=h
 cases rx
 obtain ⟨t,rfl⟩:=ry
 obtain ⟨its,r,pl,hz⟩:=I.list hq
 obtain ⟨j,h1,h2,h3,h4,h5⟩:=atI_get he
 obtain ⟨w,ew,rw'⟩:=r.get h2
 have hl:=r.length
 have hn:=line63
 have fin:EP X pins σ Q w s:=⟨z,H,I,rw',q⟩
 by_cases h0:0≤i
 ·have hj:i.toNat=j:=by
   rw [seqIndex_of h0 h5] at h1
   exact Option.some.inj h1
  exact item_listR pl.isList h0 (by omega) (by rw [hj];simpa using ew) fin hs
 ·have hj:(i+(its.toArray.size:Int)).toNat=j:=by
   rw [seqIndex_neg (by omega) h4] at h1
   rw [List.size_toArray,←hl]
   exact Option.some.inj h1
  exact subscriptTail_builtinR (x:=w) pl.isList.typeIs slot_list_getitem.lookup
   (wpAny_getItem_list_neg (Q:=fun r s'=>r=w∧EP X pins σ Q r s') pl.isList (by omega) (by rw [List.size_toArray]<;>omega) (by omega) (by rw [hj];simpa using ew) ⟨rfl,fin⟩) hs
theorem ix_tup:IxR X (rIxT X.K):=by
 intro value slice pins s σ H x y v u Q I rx ry h hs
 obtain ⟨p,xs,i,z,rfl,rfl,hq,he,q⟩:=h
 cases rx
 obtain ⟨t,rfl⟩:=ry
 obtain ⟨its,r,pl,hz⟩:=I.tuple hq
 obtain ⟨j,h1,h2,h3,h4,h5⟩:=atI_get he
 obtain ⟨w,ew,rw'⟩:=r.get h2
 have hl:=r.length
 have hn:=line63
 have fin:EP X pins σ Q w s:=⟨z,H,I,rw',q⟩
 exact subscriptTail_builtinR (x:=w) pl.typeIs slot_tuple_getitem.lookup
  (getItem_tuple (j:=j) (Q:=fun r s'=>r=w∧EP X pins σ Q r s') pl (by omega) (by omega) (by rw [List.size_toArray,←hl];exact h1) (by simpa using ew) ⟨rfl,fin⟩) hs
theorem ix_str:IxR X rIxS:=by
 intro value slice pins s σ H x y v u Q I rx ry h hs
 obtain ⟨z,i,c,rfl,rfl,hz,he,q⟩:=h
 obtain ⟨t,rfl⟩:=rx
 obtain ⟨t',rfl⟩:=ry
 obtain ⟨j,h1,h2,h3,h4,h5⟩:=atI_get he
 have hl:z.cps.toList.length=z.length:=by simp [Str.length]
 rw [hl] at h1 h4 h5
 have hn:=line63
 exact tail_any (typeIs_str s z t) slot_str_getitem.lookup (getItem_str (c:=c) (by
  have e1:decide (i < -(2 ^ 63:Int))=false:=decide_eq_false (by omega)
  have e2:decide (i ≥ 2 ^ 63)=false:=decide_eq_false (by omega)
  rw [e1,e2,Bool.or_false]) (by rw [h1];simpa using h2) ⟨.str ⟨#[c]⟩,H,I.tok _,⟨_,rfl⟩,q⟩) hs
theorem mapSeq_set (its:List Value) (n j:Nat) (u:Value):Obj.mapSeq (·.setIfInBounds j u) { cls:=.type "list",data:=.seq its.toArray n }={ cls:=.type "list",data:=.seq (its.set j u).toArray n }:=by
 simp [Obj.mapSeq]
theorem Inv.lst {pins:List (Addr × Obj)}{σ:St}{H:Hp}{s:Shared}{p:Addr}{xs:List V}(I:Inv X pins σ H s) (h:H p=some (.lst xs)) :
  ∃ (its:List Value) (n:Nat),Vals xs its∧s.heap.get? p=some { cls:=.type "list",data:=.seq its.toArray n }∧xs.length≤sizeLine:=by
 obtain ⟨z,its,n,r,e⟩:=I.hok p _ h
 exact ⟨its,n,r,e,z⟩
theorem Inv.lstUpd {pins:List (Addr × Obj)}{σ:St}{H:Hp}{s:Shared}{p:Addr}{xs ys:List V}{its its':List Value}{n n':Nat}{f:Obj->Obj}(I:Inv X pins σ H s) (h:H p=some (.lst xs))
  (ho:s.heap.get? p=some { cls:=.type "list",data:=.seq its.toArray n }) (hf:f { cls:=.type "list",data:=.seq its.toArray n }={ cls:=.type "list",data:=.seq its'.toArray n' }) (r:Vals ys its') (hz:ys.length≤sizeLine) (t:Nat) :
  Inv X pins σ (upd H p (.lst ys)) { s with heap:=s.heap.update p f,toks:=t }:=by
 have e:(s.heap.update p f).get? p=some { cls:=.type "list",data:=.seq its'.toArray n' }:=by
  rw [Heap.get?_update_self f ho (by rw [hf]<;>rfl),hf]
 refine I.write (x:=p) (e:=p) (by rw [h];trivial) (.inl rfl) (fun b u hb q=>(Heap.get?_update_other _ _ (Ne.symm hb)).trans q) ⟨_,e⟩ ?_
 exact ⟨hz,its',n',r,e⟩
def rSetL:V->V->V->Hp->(Hp->Prop)->Prop:=fun o i v H Q=>∃ p xs k j,o=.ref p∧i=.int k∧H p=some (.lst xs)∧ixN xs.length k=some j∧Q (upd H p (.lst (xs.set j v)))
theorem set_list:PSet X rSetL:=by
 intro pins s σ H o i v ov iv u Q I ro ri rv h
 obtain ⟨p,xs,k,j,rfl,rfl,hp,hj,q⟩:=h
 cases ro
 obtain ⟨t,rfl⟩:=ri
 obtain ⟨its,n,r,ho,hz⟩:=I.lst hp
 obtain ⟨h1,h2,h3,h4⟩:=ixN_seq hj
 have hl:=r.length
 have hn:=line63
 have I':Inv X pins σ (upd H p (.lst (xs.set j v))) { s with heap:=s.heap.update p (Obj.mapSeq (·.setIfInBounds j u)) }:=
  I.lstUpd hp ho (mapSeq_set its n j u) (r.set rv j) (by rw [List.length_set];exact hz) s.toks
 by_cases h0:0≤k
 ·have hk:k.toNat=j:=by
   rw [seqIndex_of h0 h4] at h1
   exact Option.some.inj h1
  exact PySem.W.ki_setAt ho h0 (by omega) (by rw [List.size_toArray,←hl];exact h4) (by rw [hk];exact ⟨_,I',q⟩)
 ·have hk:(k+(its.toArray.size:Int)).toNat=j:=by
   rw [seqIndex_neg (by omega) h3] at h1
   rw [List.size_toArray,←hl]
   exact Option.some.inj h1
  exact PySem.W.ki_setBack ho (by omega) (by rw [List.size_toArray,←hl];exact h3) (by omega) (by rw [hk];exact ⟨_,I',q⟩)
theorem slice_bounds (lo hi:Option Int) (n:Nat):(sliceBounds lo hi none n).1=((HT.sIx n 0 lo:Nat):Int)∧(sliceBounds lo hi none n).2.1=((HT.sIx n n hi:Nat):Int)∧(sliceBounds lo hi none n).2.2=1:=by
 refine ⟨?_,?_,rfl⟩
 ·cases lo with
  | none=>simp [sliceBounds,HT.sIx]
  | some i=>
   simp only [sliceBounds,HT.sIx,Option.getD_none,show (1:Int) > 0 by decide,if_true]
   by_cases h:i < 0
   ·simp only [h,if_true]<;>omega
   ·simp only [h,if_false]<;>omega
 ·cases hi with
  | none=>simp [sliceBounds,HT.sIx]
  | some i=>
   simp only [sliceBounds,HT.sIx,Option.getD_none,show (1:Int) > 0 by decide,if_true]
   by_cases h:i < 0
   ·simp only [h,if_true]<;>omega
   ·simp only [h,if_false]<;>omega
theorem slicePick_cut (its:List Value) (lo hi:Option Int):slicePick its.toArray lo hi none=((its.drop (HT.sIx its.length 0 lo)).take (HT.sIx its.length its.length hi - HT.sIx its.length 0 lo)).toArray:=by
 obtain ⟨h1,h2,h3⟩:=slice_bounds lo hi its.toArray.size
 unfold slicePick
 rw [h1,h2,h3]
 simp only [sliceRange_one,pick_run,List.size_toArray]<;>rfl
def rSlL (K:PySem.W.Frag):V->Option Int->Option Int->Hp->VK->Prop:=fun x lo hi H Q=>∃ a xs,x=.ref a∧SqL K H a xs∧∀ p,H p=none->Q (.ref p) (upd H p (.lst (cutV xs lo hi)))
theorem sl_list:SlR X (rSlL X.K):=by
 intro pins s σ H x v vl vu lo hi sl Q I rx hs pl pu h
 obtain ⟨a,xs,rfl,hx,q⟩:=h
 cases rx
 obtain ⟨its,r,ht,hz⟩:=I.list hx
 have hlen:=r.length
 refine ⟨"list",_,slot_list_getitem.lookup,ht.isList.typeIs,?_⟩
 refine wpAny_getItem_list_slice ht.isList hs pl pu .none (by simp) ?_ (by rw [List.size_toArray]<;>omega)
 rw [slicePick_cut,←hlen]
 refine ⟨.ref s.heap.objs.size,_,I.laid (t':=s.toks) (o:=.lst (cutV xs lo hi)) (fun b ob q=>Heap.get?_push_of_some _ q) (Nat.le_refl _) ?_,rfl,q _ (I.hok.fresh (Nat.le_refl _))⟩
 exact ⟨Nat.le_trans (cutV_length xs lo hi) hz,_,0,(r.drop (HT.sIx xs.length 0 lo)).take (HT.sIx xs.length xs.length hi - HT.sIx xs.length 0 lo),Heap.get?_push_size _ rfl⟩
theorem call_len_seq:CallR X (.builtin "len") (fun xs H Q=>∃ p ys,xs=[.ref p]∧(SqL X.K H p ys∨SqT X.K H p ys)∧Q (.int ys.length) H):=by
 intro pins s σ H xs us Q I r h
 obtain ⟨p,ys,rfl,hq,q⟩:=h
 obtain ⟨u,rfl,rx⟩:=vals1 r
 cases rx
 have hn:=line63
 rcases hq with hq|hq
 ·obtain ⟨its,r',pl,hz⟩:=I.list hq
  have hlen:=r'.length
  exact Calls.call_len_list pl.isList (by simp only [List.size_toArray]<;>omega) ⟨.int ys.length,H,I.tok _,⟨s.toks+1,by rw [List.size_toArray,hlen]⟩,q⟩
 ·obtain ⟨its,r',pl,hz⟩:=I.tuple hq
  have hlen:=r'.length
  exact len_tuple pl (by simp only [List.size_toArray]<;>omega) ⟨.int ys.length,H,I.tok _,⟨s.toks+1,by rw [List.size_toArray,hlen]⟩,q⟩
theorem call_len_str:CallR X (.builtin "len") (fun xs H Q=>∃ z,xs=[.str z]∧z.length≤sizeLine∧Q (.int z.length) H):=by
 intro pins s σ H xs us Q I r h
 obtain ⟨z,rfl,hz,q⟩:=h
 obtain ⟨u,rfl,t,rfl⟩:=vals1 r
 have hn:=line63
 exact len_str (by omega) ⟨.int z.length,H,I.tok _,⟨_,rfl⟩,q⟩
theorem CallR.or {f:Value}{r r':List V->Hp->VK->Prop}(h:CallR X f r) (h':CallR X f r'):CallR X f (fun xs H Q=>r xs H Q∨r' xs H Q):=by
 intro pins s σ H xs us Q I rs q
 rcases q with q|q
 ·exact h pins s σ H xs us Q I rs q
 ·exact h' pins s σ H xs us Q I rs q
theorem call_list_of:CallR X (.type "list") (fun xs H Q=>∃ p ys,xs=[.ref p]∧(SqL X.K H p ys∨SqT X.K H p ys)∧∀ l,H l=none->Q (.ref l) (upd H l (.lst ys))):=by
 intro pins s σ H xs us Q I r h
 obtain ⟨p,ys,rfl,hq,q⟩:=h
 obtain ⟨u,rfl,rx⟩:=vals1 r
 cases rx
 have fin:∀ (its:List Value),Vals ys its->ys.length≤sizeLine->∀ (h':Heap) (c':Nat),(∀ b o',s.heap.get? b=some o'->h'.get? b=some o') →
   h'.get? s.heap.objs.size=some { cls:=.type "list",dict:=none,data:=.seq its.toArray c',slots:=#[] }->EP X pins σ Q (.ref s.heap.objs.size) { s with heap:=h' }:=fun its r' hz h' c' kp e=>
  ⟨.ref s.heap.objs.size,_,I.laid (t':=s.toks) kp (Nat.le_refl _) (show ObjOk X.prog X.w _ h' _ (.lst ys) from ⟨hz,its,c',r',e⟩),rfl,q _ (I.hok.fresh (Nat.le_refl _))⟩
 rcases hq with hq|hq
 ·obtain ⟨its,r',pl,hz⟩:=I.list hq
  have hlen:=r'.length
  obtain ⟨o,ho,hc,n,hd⟩:=pl.isList
  exact call_list_seq p (.inl rfl) ho hc hd (fun h' c' kp e=>fin its r' hz h' c' kp e) (by simp only [List.size_toArray]<;>omega)
 ·obtain ⟨its,r',pl,hz⟩:=I.tuple hq
  have hlen:=r'.length
  obtain ⟨o,ho,hc,n,hd⟩:=pl
  exact call_list_seq p (.inr rfl) ho hc hd (fun h' c' kp e=>fin its r' hz h' c' kp e) (by simp only [List.size_toArray]<;>omega)
theorem call_tuple_of:CallR X (.type "tuple") (fun xs H Q=>∃ p ys,xs=[.ref p]∧((SqL X.K H p ys∧∀ l,H l=none->Q (.ref l) (upd H l (.tup ys)))∨(SqT X.K H p ys∧Q (.ref p) H))):=by
 intro pins s σ H xs us Q I r h
 obtain ⟨p,ys,rfl,h⟩:=h
 obtain ⟨u,rfl,rx⟩:=vals1 r
 cases rx
 rcases h with ⟨hq,q⟩|⟨hq,q⟩
 ·obtain ⟨its,r',pl,hz⟩:=I.list hq
  have hlen:=r'.length
  refine call_tuple_list pl.isList (fun h' kp=>?_) (by simp only [List.size_toArray]<;>omega)
  have I1:Inv X pins σ H { s with heap:=h' }:=I.kept (t':=s.toks) kp
  have I2:Inv X pins σ (upd H h'.objs.size (.tup ys)) { s with heap:=h'.push { cls:=.type "tuple",data:=.seq its.toArray } }:=
   I1.laid (t':=s.toks) (fun b o e=>Heap.get?_push_of_some _ e) (Nat.le_refl _) (show ObjOk X.prog X.w _ _ _ (.tup ys) from ⟨hz,its,r',IsTup.new _ _⟩)
  exact ⟨.ref h'.objs.size,_,I2,rfl,q _ (I1.hok.fresh (Nat.le_refl _))⟩
 ·obtain ⟨its,r',pl,hz⟩:=I.tuple hq
  exact call_tuple_same pl ⟨.ref p,H,I,rfl,q⟩
def tyV (K:PySem.W.Frag) (T:String) (x:V) (H:Hp):Prop:=match x with
 | .str _=>T = "str"
 | .int _=>T = "int"
 | .ref p=>(T = "list" ∧ ∃ xs,SqL K H p xs)∨(T = "tuple" ∧ ∃ o,K.lookup p=some o∧o.cls=.type "tuple" ∧ o.dict=none) ∨
   (T = "dict" ∧ ((∃ kvs,H p=some (.dK kvs))∨∃ kvs,H p=some (.dT kvs)))∨(T = "set" ∧ ∃ S n,H p=some (.set S n))
 | _=>False
theorem tyV_is {pins:List (Addr × Obj)}{σ:St}{H:Hp}{s:Shared}{T:String}{x:V}{v:Value}(I:Inv X pins σ H s) (r:RelV x v) (ty:tyV X.K T x H) :
  s.TypeIs v T∧∀ a,v=.ref a->∃ ob,s.heap.get? a=some ob∧ob.dict=none:=by
 cases x with
 | str z=>
  obtain ⟨t,rfl⟩:=r
  cases (show T = "str" from ty)
  exact ⟨typeIs_str s z t,fun _ e=>nomatch e⟩
 | int i=>
  obtain ⟨t,rfl⟩:=r
  cases (show T = "int" from ty)
  exact ⟨typeIs_int s i t,fun _ e=>nomatch e⟩
 | ref p=>
  cases r
  rcases ty with ⟨rfl,xs,hq⟩|⟨rfl,o,hk,hc,hd⟩|⟨rfl,hk⟩|⟨rfl,S,n,hk⟩
  ·obtain ⟨its,_,pl,_⟩:=I.list hq
   refine ⟨pl.isList.typeIs,fun a e=>?_⟩
   cases e
   obtain ⟨o,n,e,c,hd,_⟩:=pl
   exact ⟨o,e,hd⟩
  ·refine ⟨⟨o,I.kIn p o hk,hc⟩,fun a e=>?_⟩
   cases e
   exact ⟨o,I.kIn _ o hk,hd⟩
  ·have z:∃ o,s.heap.get? p=some o∧o.ExactDict:=by
    rcases hk with ⟨kvs,hk⟩|⟨kvs,hk⟩
    ·obtain ⟨_,_,_,_,o,_,_,e,ex,_⟩:=I.hok p _ hk
     exact ⟨o,e,ex⟩
    ·obtain ⟨_,_,_,_,o,_,_,e,ex,_⟩:=I.hok p _ hk
     exact ⟨o,e,ex⟩
   obtain ⟨o,e,ex⟩:=z
   refine ⟨⟨o,e,ex.1⟩,fun a e2=>?_⟩
   cases e2
   exact ⟨o,e,ex.2.1⟩
  ·obtain ⟨o,_,_,_,e,ex,_⟩:=I.hok p _ hk
   refine ⟨⟨o,e,ex.1⟩,fun a e2=>?_⟩
   cases e2
   exact ⟨o,e,ex.2.1⟩
 | _=>exact False.elim ty
def tBM (K:PySem.W.Frag) (T:String) (r:V->List V->Hp->VK->Prop) (to:TE) (t:TA):TE:=fun σ H Q=>to σ H fun x H1=>tyV K T x H1∧t σ H1 fun xs H2=>r x xs H2 Q
variable {o e:Expr}{es:List Expr}{to:TE}{t:TA}{name:Str}{apos cpos:Pos}{T id:String}{r:V->List V->Hp->VK->Prop}
theorem pe_bm (pa:PlainAttrs T) (slot:Slot T name id) (hty:typeOf (.builtin id)=pure (.type "method_descriptor")) (hm:MtR X id r) (ho:PE X o to) (ha:PA X (e::es) t)
  (hbase:attributeBase o name X.env (eval o X.env)=eval o X.env:=by rfl)
  (hfew:((backTo cpos (starEach (e::es) X.env)).all (fun x=>!x.1) && (backToKw cpos (keywordEach [] X.env)).all (fun x=>x.1.isSome)
   && decide ((e::es).length+([]:List Keyword).length+(if ([]:List Keyword).isEmpty then 0 else 1) < 30))=true:=by rfl)
  (hline:(apos.endLine == cpos.line)=true:=by rfl) (hs:starEach (e::es) X.env=(false,eval e X.env)::starEach es X.env:=by rfl) (hplain:(backTo cpos (starEach es X.env)).any (·.1)=false:=by rfl) :
  PE X (.Call (.Attribute o name apos) (e::es) [] cpos) (tBM X.K T r to t):=by
 intro pins s σ H Q I h
 refine wpAny_Call_method_late hbase hfew hline rfl (thn (ho pins s σ H _ I h) fun v s1 ⟨x,H1,I1,r1,ty,q1⟩=>?_)
 obtain ⟨h1,h2⟩:=tyV_is I1 r1 ty
 refine ⟨T,id,pa,slot,hty,h1,h2,?_⟩
 have hA:=ha cpos pins s1 σ H1 _ I1 q1
 rw [hs] at hA ⊢
 refine Calls.callWith_builtin (by show (false || (backTo cpos (starEach es X.env)).any (·.1))=false;rw [hplain]<;>rfl) (Calls.evalArgs_plain ?_)
 exact thn hA fun us s2 ⟨vs,H2,I2,r2,q2⟩=>hm pins s2 σ H2 x vs v us Q I2 r1 r2 q2
/- xs.append(e),list.index on a module's tuple .. are MtR facts of 06m -/
end
end L2
namespace L2
open PySem PySem.Spec PyProof.Rows
def MtM (X:Cx) (id:String) (r:V->List V->Hp->VK->Prop):Prop:=
 ∀ (pins:List (Addr × Obj)) (s:Shared) (σ:St) (H:Hp) (x:V) (xs:List V) (v:Value) (us:List Value) (Q:VK),Inv X pins σ H s->RelV x v->Vals xs us->r x xs H Q →
  wpAny (model X.prog X.w) X.A (call (.builtin id) (v::us)) (EP X pins σ Q) X.xe s
theorem Vals.one:∀ {x:V}{us:List Value},Vals [x] us->∃ u,us=[u]∧RelV x u
 | _,_,.cons r .nil=>⟨_,rfl,r⟩
theorem Vals.rep {xs:List V}{us:List Value}(h:Vals xs us):∀ k:Nat,Vals (List.replicate k xs).flatten (List.replicate k us).flatten
 | 0=>.nil
 | k+1=>by
  rw [List.replicate_succ,List.replicate_succ,List.flatten_cons,List.flatten_cons]
  exact Vals.append h (Vals.rep h k)
theorem foldl_rep (its:List Value):∀ (k:Nat) (acc:List Value),
  List.foldl (fun x1 x2=>x1++x2) acc.toArray (List.replicate k its.toArray)=(acc++(List.replicate k its).flatten).toArray
 | 0,acc=>by simp
 | k+1,acc=>by
  have e:acc.toArray++its.toArray=(acc++its).toArray:=by simp
  have e2:(acc++its)++(List.replicate k its).flatten=acc++(List.replicate (k+1) its).flatten:=by
   rw [List.replicate_succ,List.flatten_cons,List.append_assoc]
  rw [←e2,←foldl_rep its k (acc++its),←e,List.replicate_succ,List.foldl_cons]
section
variable {X:Cx}{pins:List (Addr × Obj)}{σ:St}{H:Hp}{s:Shared}{l b:Addr}{xs ys zs:List V}
theorem Inv.lset {its its':List Value}{n:Nat}{f:Array Value->Array Value}{t':Nat}(I:Inv X pins σ H s) (hH:H l=some (.lst xs))
  (e:s.heap.get? l=some { cls:=.type "list",data:=.seq its.toArray n }) (hf:f its.toArray=its'.toArray) (hv:Vals ys its') (hz:ys.length≤sizeLine) :
  Inv X pins σ (upd H l (.lst ys)) { s with heap:=s.heap.update l (Obj.mapSeq f),toks:=t' }:=by
 have q:=PySem.IsL.update e f
 rw [hf] at q
 refine I.write (x:=l) (e:=l) (by rw [hH];exact trivial) (.inl rfl) (fun b' u hb hu=>(Heap.get?_update_other s.heap (Obj.mapSeq f) (Ne.symm hb)).trans hu) ⟨_,q⟩ ?_
 exact ⟨hz,its',_,hv,q⟩
theorem Inv.lnew {its:List Value}{t':Nat}(I:Inv X pins σ H s) (hv:Vals ys its) (hz:ys.length≤sizeLine) :
  Inv X pins σ (upd H s.heap.objs.size (.lst ys)) { s with heap:=s.heap.push { cls:=.type "list",data:=.seq its.toArray },toks:=t' }:=
 I.laid (fun _ _ q=>Heap.get?_push_of_some _ q) (Nat.le_refl _) ⟨hz,its,0,hv,Heap.get?_push_size _ rfl⟩
theorem Inv.fresh (I:Inv X pins σ H s):H s.heap.objs.size=none:=I.hok.fresh (Nat.le_refl _)
theorem Inv.lstM (I:Inv X pins σ H s) (hH:H l=some (.lst xs)):xs.length≤sizeLine∧∃ (its:List Value) (n:Nat),Vals xs its∧xs.length=its.length∧s.heap.get? l=some { cls:=.type "list",data:=.seq its.toArray n }:=by
 obtain ⟨z,its,n,r,e⟩:=I.hok l _ hH
 exact ⟨z,its,n,r,r.length,e⟩
theorem notLongL {n:Nat}(h:n≤sizeLine):Builtin.List.listTooLong n=false:=by
 unfold Builtin.List.listTooLong
 exact decide_eq_false (by omega)
end
section
variable {X:Cx}
def rAppend:V->List V->Hp->VK->Prop:=fun x vs H Q=>∃ l xs y,x=.ref l∧vs=[y]∧H l=some (.lst xs)∧xs.length < sizeLine∧Q .non (upd H l (.lst (xs++[y])))
theorem mt_append:MtM X "list.append" rAppend:=by
 intro pins s σ H x vs v us Q I rx rv h
 obtain ⟨l,xs,y,rfl,rfl,hH,hz,q⟩:=h
 cases rx
 obtain ⟨u,rfl,ru⟩:=rv.one
 obtain ⟨z,its,n,r,hl,e⟩:=I.lstM hH
 refine call_meets F.slot_list_append ⟨_,e,rfl⟩ F.entry_list_append (F.args_list_append_2 _ _) (PySem.list_append l its.toArray n u (by rw [List.size_toArray];omega)) ⟨e,?_⟩
 refine ⟨.non,_,I.lset (its':=its++[u]) hH e (by simp) (r.append (.cons ru .nil)) ?_,rfl,q⟩
 rw [List.length_append,List.length_singleton]
 omega
def rCat:R2:=fun x y H Q=>∃ l b xs zs,x=.ref l∧y=.ref b∧H l=some (.lst xs)∧H b=some (.lst zs)∧xs.length+zs.length≤sizeLine∧∀ p,H p=none->Q (.ref p) (upd H p (.lst (xs++zs)))
theorem op_cat:OpR X (binaryOp .Add) rCat:=by
 intro pins s σ H x y v u Q I rx ry h
 obtain ⟨l,b,xs,zs,rfl,rfl,hH,hB,hz,q⟩:=h
 cases rx
 cases ry
 obtain ⟨z,its,n,r,hl,e⟩:=I.lstM hH
 obtain ⟨z2,its2,n2,r2,hl2,e2⟩:=I.lstM hB
 refine PySem.P.add_list e e2 ?_ (by rw [List.size_toArray,List.size_toArray];omega)
 have ea:its.toArray++its2.toArray=(its++its2).toArray:=by simp
 rw [ea]
 exact ⟨.ref _,_,I.lnew (t':=s.toks) (r.append r2) (by rw [List.length_append];omega),rfl,q _ I.fresh⟩
def rRep:R2:=fun x y H Q=>∃ l k xs,x=.ref l∧y=.int k∧H l=some (.lst xs)∧-(2 ^ 63)≤k∧k < 2 ^ 63∧xs.length * k.toNat≤sizeLine ∧
 ∀ p,H p=none->Q (.ref p) (upd H p (.lst (List.replicate k.toNat xs).flatten))
theorem len_rep {α:Type}(xs:List α) (k:Nat):(List.replicate k xs).flatten.length=k * xs.length:=by
 induction k with
 | zero=>simp
 | succ k ih=>rw [List.replicate_succ,List.flatten_cons,List.length_append,ih,Nat.succ_mul,Nat.add_comm]
theorem op_rep:OpR X (binaryOp .Mult) rRep:=by
 intro pins s σ H x y v u Q I rx ry h
 obtain ⟨l,k,xs,rfl,rfl,hH,h1,h2,hz,q⟩:=h
 cases rx
 obtain ⟨t,rfl⟩:=ry
 obtain ⟨z,its,n,r,hl,e⟩:=I.lstM hH
 have hlen:its.toArray.size * k.toNat≤sizeLine:=by rw [List.size_toArray,←hl];exact hz
 have hcap:¬ its.toArray.size * k.toNat > (2 ^ 63 - 1) / 8:=by
  have:(sizeLine:Nat)≤(2 ^ 63 - 1) / 8:=by decide
  omega
 have hfit:¬ (!Builtin.List.listFitsIndex k)=true:=by
  rw [fitsIndex_both h1 h2]
  exact Bool.false_ne_true
 have hlong:¬ Builtin.List.listTooLong (its.toArray.size * k.toNat)=true:=by
  rw [notLongL hlen]
  exact Bool.false_ne_true
 have hnew:List.foldl (fun x1 x2=>x1++x2) #[] (List.replicate (if its.toArray.isEmpty=true then 0 else k.toNat) its.toArray)=(List.replicate k.toNat its).flatten.toArray:=by
  have f0:∀ m:Nat,List.foldl (fun x1 x2=>x1++x2) #[] (List.replicate m its.toArray)=(List.replicate m its).flatten.toArray:=fun m=>by
   have:=foldl_rep its m []
   rw [List.nil_append] at this
   exact this
  rw [f0]
  cases its with
  | nil=>simp
  | cons a r'=>rw [if_neg (by simp)]
 refine wpAny_binaryOp_repeat_ref (T := "list") (U := "int") (by decide) ⟨_,e,rfl⟩ (fun s'=>typeIs_int s' k t) noFill_list_mul F.fills_int_mul F.slot_int_rmul repeat_list F.slot_int_index.lookup
  (call_meets F.slot_int_rmul (typeIs_int s k t) F.entry_int_rmul (F.args_int_rmul_2 _ _) (int___rmul___int_list k t l its.toArray n)
   ⟨e,rfl,⟨_,e,rfl⟩,call_meets F.slot_list_mul ⟨_,e,rfl⟩ F.entry_list_mul (F.args_list_mul_2 _ _) (AutoListH.list___mul___list_int_3 l its.toArray n k t hfit hcap hlong) ⟨e,?_⟩⟩)
 rw [hnew]
 exact ⟨.ref _,_,I.lnew (t':=s.toks) (r.rep k.toNat) (by rw [len_rep,Nat.mul_comm];exact hz),rfl,q _ I.fresh⟩
end
section
variable {prog:Program}{w:World}{A:Around}{E:Value->Shared->Prop}{s:Shared}
set_option maxRecDepth 100000 in
end
section
variable {X:Cx}
end
end L2
namespace Att
open PySem PySem.W PySem.Calls PyProof.Rows
theorem ints_of_wellAll {P:Params}{h:Heap}:∀ (ns:List Int) (vs:List Value),WellAll P h vs (ns.map WData.int)->IntsAre vs ns:=by
 intro ns
 induction ns with
 | nil=>
  intro vs w
  rw [List.map_nil] at w
  cases w
  exact .nil
 | cons n ns ih=>
  intro vs w
  rw [List.map_cons] at w
  cases w with
  | cons a b=>
   cases a
   exact .cons _ _ (ih _ b)
theorem script_of {l:OpenLaw}{n:Nat}(hn:l.most=some n){P:Params}{h:Heap}{args:List WData}{vals:List Value}
  (hpre:l.row.toRowW.claim.pre args=true) (hwl:WellAll P h vals args) :
  ∃ a vs ns,vals=[Value.ref a]∧args=[WData.list (ns.map WData.int)]∧h.get? a=some { cls:=.type "list",data:=.seq vs.toArray }∧IntsAre vs ns∧ns.length≤n:=by
 have hsh:WShape.hasAll [] args [.list .int]=true:=(pre_splitW hpre).1
 have hc:l.pre.holds [] { args:=args }=true:=(pre_splitW hpre).2
 obtain ⟨d,r,rfl,h1,h2⟩:=hasAllW_cons hsh
 obtain rfl:=hasAllW_nil h2
 obtain ⟨xs,rfl,h3⟩:=hasW_list h1
 obtain ⟨ns,rfl⟩:=items_int h3
 have hlen:ns.length≤n:=by
  unfold OpenLaw.pre at hc
  have h4:(WTm.not (.lt (.lit (.int (n:Int))) (.len (.arg 0)))).holds [] { args:=[.list (ns.map .int)] }=true:=by
   have h4:=(holds_andW hc).1
   rw [hn] at h4
   exact h4
  have h5:=condW_of h4 (w_not (w_lt w_lit (w_len_list (w_arg rfl))))
  rw [List.length_map] at h5
  refine Nat.le_of_not_lt fun q=>?_
  have q':(n:Int) < ((ns.length:Nat):Int):=by omega
  first
   | (rw [decide_eq_true q'] at h5;exact absurd h5 (by decide))
   | (simp at h5;omega)
 cases hwl with
 | cons w1 w2=>
  cases w2
  cases w1 with
  | list ho hall=>exact ⟨_,_,ns,rfl,rfl,ho,ints_of_wellAll ns _ hall,hlen⟩
theorem post_true (l:OpenLaw) (args:List WData):l.row.toRowW.claim.post args (.bool true) args=true:=
 postW_of (r:=l.row.toRowW) (X:=(true == true))
  (show WShape.has [] (.bool true) .bool=true by first|rfl|decide|simp [WShape.has,WShape.arms,WShape.armsAll])
  (show (WTm.eq .res (.lit (.bool true))).value [] { args:=args,res:=some (.bool true),after:=args }=some (.bool (true == true)) from w_eq_bool (w_res rfl) w_lit) rfl
theorem attach_call {l:OpenLaw}{n:Nat}{q:Program}{loose:List Str}{XP:(Str->Option Value)->Heap->Prop}{YP:World->Heap->Prop}{d:DefRec}
  (hn:l.most=some n) (hdf:d.params.defaults=[])
  (call:∀ (w:World) (s₀ s₁:Shared) (mg mb:Str->Option Value) (fa:Addr) (o:Obj) (pm cd doc:Value) (a:Addr) (vs:List Value) (ns:List Int),
   Ground q loose [] XP w s₀ mg mb s₁.heap->YP w s₁.heap →
   s₁.heap.get? fa=some o->o.data=.func (docDef d.name d.params d.body d.scope pm cd doc)->s₁.heap.CodeRec cd d.name->mg d.name=some (.ref fa) →
   s₁.heap.get? a=some { cls:=.type "list",data:=.seq vs.toArray }->IntsAre vs ns->ns.length≤n->s₁.gens=#[] →
   codeAny (model l.prog w) callerA (.call (.ref fa) ⟨[.ref a],[]⟩) (fun r s'=>r=.ok (.ret (.bool true))∧OldK s₁.heap s'.heap∧s'.os=s₁.os∧AllBare s'.gens) s₁) :
  WalkO q loose XP YP l.row.toRowW d [] (fun f vs=>PySem.call f vs):=by
 intro w s₀ s₁ mg mb G Y fa o pm cd doc dV kV ho hd hcd hD hmg hg args vals as hpre hlay hrd hwl hlo
 obtain rfl:dV=.none:=Dflts.none hD hdf
 obtain rfl:kV=.none:=Dflts.noKw hD
 obtain ⟨a,vs,ns,rfl,rfl,hobj,hints,hlen⟩:=script_of hn hpre hwl
 refine enter_call (codeAny_mono (call w s₀ s₁ mg mb fa o pm cd doc a vs ns G Y ho (fd_plain hd) hcd hmg hobj hints hlen hg) fun r s' hq=>?_)
 obtain ⟨rfl,h2,h3,h4⟩:=hq
 exact ⟨.inl ⟨.bool true,.bool true,[],rfl,fun _=>rfl,.bool true,post_true l _,fun _=>⟨List.Pairwise.nil,fun _ hm=>(nomatch hm)⟩⟩,h2,h3,h4⟩
section
variable {prog:Program}{w:World}{A:Around}{E:Value->Shared->Prop}{s:Shared}{K:Frag}
def ledger (h:Heap) (L d:Addr):List (Addr × Obj):=(List.range h.objs.size).filterMap fun a=>if a=L∨a=d then none else (h.get? a).map fun o=>(a,o)
end
end Att
namespace L2
open PySem PySem.Spec PyProof.Rows
theorem vals_ints:∀ {vs:List Value}{ns:List Int},IntsAre vs ns->Vals (ns.map V.int) vs
 | _,_,.nil=>.nil
 | _,_,.cons n t h=>.cons ⟨t,rfl⟩ (vals_ints h)
def Only (H:Hp):Prop:=∀ b,H b=none∨∃ o xs,H b=some (.frz o (.lst xs))
theorem law_call {P:Program}{w:World}{K:PySem.W.Frag}{mg mb:Str->Option Value}{CX:CXT}{k:Nat}{fa a:Addr}{fd:FuncData}{x:Str}{sp:Sp}{s₁:Shared}{vs:List Value}{ns:List Int}
  (KX:K.In s₁.heap) (hns:s₁.heap.Ns mainGlobals mg) (hb:s₁.heap.Ns builtinsNs mb) (hbb:∀ x:Str,x ≠ "__name__" → mb x=bootBuiltins x) (hlim:s₁.heap.NoLimit) (hg:s₁.gens=#[])
  (ha:s₁.heap.get? a=some { cls:=.type "list",data:=.seq vs.toArray }) (hi:IntsAre vs ns) (hl:ns.length≤sizeLine) (hr:Room k callerA)
  (F:∀ base:Heap,K.In base->base.Ns mainGlobals mg->FnOk P w K mg base CX k fa fd [x] sp) (hbind:∀ (s:Shared) (u:Value),BindsTo s fd ⟨[u],[]⟩ [(x,u)])
  (hsp:∀ H:Hp,Only H->SqL K H a (ns.map V.int)->sp [.ref a] H (fun v _=>v=.bl true) fun _ _ _=>False)
  (hCX:∀ H e s',CX [] H s₁ (fun _ _ _=>False) e s'->False) :
  codeAny (model P w) callerA (.call (.ref fa) ⟨[.ref a],[]⟩) (fun r s'=>r=.ok (.ret (.bool true))∧OldK s₁.heap s'.heap∧s'.os=s₁.os∧AllBare s'.gens) s₁:=by
 have rv:=vals_ints hi
 have lenV:=hi.length
 have core:∀ H:Hp,Only H->SqL K H a (ns.map V.int)->HOk P w H s₁.heap->(∀ b,H b ≠ none->b=a)->(H a ≠ none->K.lookup a=none) →
   codeAny (model P w) callerA (.call (.ref fa) ⟨[.ref a],[]⟩) (fun r s'=>r=.ok (.ret (.bool true))∧OldK s₁.heap s'.heap∧s'.os=s₁.os∧AllBare s'.gens) s₁:=by
  intro H hO hS hok hA hK
  have base_of:∀ {b:Addr} {o:Obj},s₁.heap.get? b=some o->H b=none->(hidT s₁.heap H).get? b=some o:=fun e n=>hidT_get e n
  have noA:∀ {b:Addr} {o:Obj} {es:Array DictEntry} {ep:Nat},s₁.heap.get? b=some o->o.data=.dict es ep->H b=none:=fun {b o es ep} e d=>by
   cases q:H b with
   | none=>rfl
   | some u=>
    have e':b=a:=hA b (by rw [q];simp)
    subst e'
    rw [ha] at e;cases e
    have d':Data.seq vs.toArray _=Data.dict es ep:=d
    cases d'
  have nsK:∀ {b:Addr} {m:Str->Option Value},s₁.heap.Ns b m->(hidT s₁.heap H).Ns b m:=fun {b m} ⟨o,es,ep,e,d,r⟩=>⟨o,es,ep,base_of e (noA e d),d,r⟩
  have hKb:K.In (hidT s₁.heap H):=fun b o e=>base_of (KX b o e) (by
   cases q:H b with
   | none=>rfl
   | some u=>
    have e':b=a:=hA b (by rw [q];simp)
    subst e'
    rw [hK (by rw [q];simp)] at e;cases e)
  have hM:Mod K mg (hidT s₁.heap H):=⟨hKb,nsK hns,⟨mb,nsK hb,hbb⟩,let ⟨mc,h1,h2⟩:=hlim;⟨mc,nsK h1,h2⟩⟩
  have e0:Env0 P w K mg (hidT s₁.heap H) callerA [] s₁ H:=⟨rfl,hM,fun b o e=>of_hidT e,Nat.le_of_eq (hidT_size _ _),trivial,fun b hb=>absurd (show b∈([]:List Addr) from hb) (by simp),hok,.of_eq hg⟩
  refine codeAny_mono ((F _ hKb (nsK hns)).run callerA [] s₁ H ⟨[.ref a],[]⟩ [.ref a] [.ref a] _ _ hr e0 (hbind s₁ (.ref a)) (.cons rfl .nil) (hsp H hO hS)) fun r s' h=>?_
  cases r with
  | error e=>exact (hCX H e s' h).elim
  | ok fl=>
   cases fl with
   | next=>exact False.elim h
   | brk=>exact False.elim h
   | cont=>exact False.elim h
   | ret u=>
    obtain ⟨v,H',os,bare,un,hok',r',q⟩:=h
    have q':v=.bl true:=q
    subst q'
    obtain rfl:u=Value.bool true:=r'
    refine ⟨rfl,OldK.of_keep fun b o e=>?_,os,bare⟩
    cases q:H b with
    | none=>exact un.keep b o e q (by intro z;exact absurd (show b∈([]:List Addr) from z) (by simp)) (by simp)
    | some u=>
     rcases hO b with z|⟨ob,xs,z⟩
     ·rw [q] at z;cases z
     ·have z2:=un.frzs b ob _ z
      obtain ⟨e1,_⟩:=hok b _ z
      obtain ⟨e2,_⟩:=hok' b _ z2
      rw [e] at e1;cases e1
      exact e2
 cases hk:K.lookup a with
 | some o=>
  have e:=KX a o hk
  rw [ha] at e
  cases e
  refine core (fun _=>none) (fun _=>.inl rfl) (.inr ⟨_,vs.toArray,_,hk,rfl,rfl,rfl,by rw [List.size_toArray,lenV];exact hl,by simpa using rv⟩) (fun b u z=>by have z':(none:Option HO)=some u:=z;cases z') (fun b z=>absurd rfl z) fun z=>absurd rfl z
 | none=>
  refine core (fun b=>if b=a then some (.frz { cls:=.type "list",data:=.seq vs.toArray } (.lst (ns.map V.int))) else none) (fun b=>?_) (.inl (.inr ⟨{ cls:=.type "list",data:=.seq vs.toArray },if_pos rfl⟩)) (fun b u z=>?_) (fun b z=>?_) fun _=>hk
  ·by_cases hb:b=a
   ·exact .inr ⟨_,_,if_pos hb⟩
   ·exact .inl (if_neg hb)
  ·by_cases hb:b=a
   ·have z':=(if_pos hb).symm.trans z
    cases z'
    subst hb
    exact ⟨ha,by rw [List.length_map];exact hl,vs,_,rv,ha⟩
   ·have z':=(if_neg hb).symm.trans z
    cases z'
  ·by_cases hb:b=a
   ·exact hb
   ·exact absurd (if_neg hb) z
end L2
namespace L2
open PySem PySem.Spec PyProof.Rows
abbrev KOf {K:PySem.W.Frag} {h:Heap} (_:K.In h):PySem.W.Frag:=K
theorem walk_of {l:PySem.W.OpenLaw}{n k:Nat}{q:Program}{loose:List Str}{XP:(Str->Option Value)->Heap->Prop}{YP:World->Heap->Prop}{d:DefRec}{K:Params->PySem.W.Frag}{CX:World->CXT}{sp:World->Sp}{x:Str}
  (hn:l.most=some n) (hn2:n≤sizeLine) (hdf:d.params.defaults=[]) (hr:Room k callerA)
  (hY:∀ (w:World) (h:Heap),YP w h->(K w.params).In h)
  (F:∀ (w:World) (mg:Str->Option Value) (fa:Addr) (h:Heap),(K w.params).In h->h.Ns mainGlobals mg->mg d.name=some (.ref fa) →
   ∃ fd:FuncData,(∀ (s:Shared) (u:Value),BindsTo s fd ⟨[u],[]⟩ [(x,u)]) ∧
    ∀ base:Heap,(K w.params).In base->base.Ns mainGlobals mg->FnOk l.prog w (K w.params) mg base (CX w) k fa fd [x] (sp w))
  (hsp:∀ (w:World) (H:Hp) (a:Addr) (ns:List Int),ns.length≤n->Only H->SqL (K w.params) H a (ns.map V.int)->sp w [.ref a] H (fun v _=>v=.bl true) fun _ _ _=>False)
  (hCX:∀ (w:World) (H:Hp) (s:Shared) (e:Value) (s':Shared),CX w [] H s (fun _ _ _=>False) e s'->False) :
  PySem.W.WalkO q loose XP YP l.row.toRowW d [] (fun f vs=>PySem.call f vs):=by
 refine Att.attach_call hn hdf fun w s₀ s₁ mg mb fa o pm cd doc a vs ns G Y ho hd hcd hmg hobj hints hlen hg=>?_
 have KX:=hY w _ Y
 obtain ⟨fd,hb,hF⟩:=F w mg fa _ KX G.T.g hmg
 exact law_call KX G.T.g G.T.b G.T.builtins G.T.nolimit hg hobj hints (Nat.le_trans hlen hn2) hr hF hb (fun H hO hS=>hsp w H a ns hlen hO hS) fun H e s'=>hCX w H s₁ e s'
end L2
/- THE LAST THEOREM (shape;LID,My.* are yours):
   My.Adr: a structure of the addresses that your layer names (classes,functions);My.Txt K t: a structure (Prop) of the equations over K;
   My.txt_mk:{K} {implicit addresses ..} (e1:nsIn K mainGlobals "law"=some (some (.ref f))) (e2:K.lookup f=some ⟨oc,od,.func (fnOf "law" "law" params body scope dV kV doc pm an cdv ct),sl⟩) (e3:codeIn K cdv "law"=true) ..:∃ t,My.Txt K t
set_option maxRecDepth 100000 in
set_option maxHeartbeats 0 in
theorem PySem.Challenge.cw_LID_holds : PySem.Challenge.rw_LID.Holds := by
 w_on;o_law;k_head;(case hw=>w_witness2)
 k_fill
 refine L2.walk_of (l:=PySem.Challenge.rw_LID) (n:=63) (k:=40) (x := "script") (CX:=fun w=>..) (sp:=fun _=>My.sp_law) rfl (by decide) rfl ⟨rfl,by decide,by decide⟩ (fun w h Y=>PySem.W.kIn_of Y) ?F ?S ?C
 case F=>
  intro w mg fa h KX G hmg
  have T:∃ t,My.Txt (L2.KOf KX) t:=by
   dsimp only [L2.KOf]                          -- K must stand as «<heap const> w.params» for k_is
   refine' My.txt_mk ?e1 ?e2 ?e3 ..
   (case e1=>PySem.W.k_is)                    -- in the order: a name -> its address -> its object -> its parts
   (case e2=>PySem.W.k_is)
   ..
  obtain ⟨t,T⟩:=T
  have e0:=hmg.symm.trans (PySem.W.mg_of KX G T.law)
  cases e0                                       -- fa is the law's own address
  exact ⟨_,fun s u=>.of_eq rfl,fun base kb nb=>My.law_fn T kb nb⟩     -- if «.of_eq rfl» comes too early: refine' ⟨_,?b,fun base kb nb=>My.law_fn T kb nb⟩;exact fun s u=>.of_eq rfl
 case S=>exact fun w H a ns hl hO hS=>..
 case C=>exact ..
(the tactic k_is has no namespace: write k_is) -/
namespace L2
open PySem PySem.Spec PyProof.Rows
def inClass (s:Stmt) (j:Nat):Stmt:=match s with
 | .ClassDef _ _ _ body _ _ _ _ _ _ _=>body.getD j (.Pass ⟨0,0,0,0⟩)
 | _=>.Pass ⟨0,0,0,0⟩
def defArgs (s:Stmt):Arguments:=match s with
 | .FunctionDef _ a _ _ _ _ _ _ _ _=>a
 | _=>{ posonlyargs:=[],args:=[],vararg:=none,kwonlyargs:=[],kw_defaults:=[],kwarg:=none,defaults:=[] }
def defBody (s:Stmt):List Stmt:=match s with
 | .FunctionDef _ _ b _ _ _ _ _ _ _=>b
 | _=>[]
def defScope (s:Stmt):Scope:=match s with
 | .FunctionDef _ _ _ _ _ _ sc _ _ _=>sc
 | _=>{ kind:=.function,names:=[],isGenerator:=false,isCoroutine:=false }
abbrev CX0:CXT:=fun _ _ _ _ _ _=>False
abbrev E0:XK:=fun _ _ _=>False
theorem pass0 {X:Cx}:Passes CX0 X E0:=fun _ _ _ _ _ _ _ h=>h.elim
structure Fun (K:PySem.W.Frag) (x qual:Str) (st:Stmt) (f:Addr) (fd:FuncData):Prop where
 ex:∃ (oc:Value) (od:Option Addr) (kV doc pm:Value) (an:Option Addr) (cdv ct:Value) (osl:Array (Option Value)),
  fd=PySem.W.fnOf x qual (defArgs st) (defBody st) (defScope st) .none kV doc pm an cdv ct∧K.lookup f=some ⟨oc,od,.func fd,osl⟩∧PySem.W.codeIn K cdv qual=true
 kp:PySem.W.keepIn K (.ref f)=true
section
variable {P:Program}{w:World}{K:PySem.W.Frag}{mg:Str->Option Value}{base:Heap}
theorem Fun.ok {x qual:Str}{st:Stmt}{f:Addr}{fd:FuncData}{N ps:List Str}{k:Nat}{sp:Sp}(F:Fun K x qual st f fd) (S:FnScope N ps (defScope st)) (len:∀ vs H Q E,sp vs H Q E->vs.length=ps.length)
  (hbody:∀ (cdv:Value) (A:Around) (outer:List Env) (s:Shared) (H:Hp) (vs:List V) (Q:VK) (E:XK),Room k (A.deeper (envOfC qual (defScope st) s.heap.objs.size f cdv))->sp vs H Q E →
   ∃ t,PSs (cxOf CX0 P w K mg base N qual (defScope st) f cdv A outer s H E).nox (defBody st) t∧t { nx:=fun _ H'=>Q .non H',rt:=Q } (start N vs) H):FnOk P w K mg base CX0 (k+1) f fd ps sp:=by
 obtain ⟨oc,od,kV,doc,pm,an,cdv,ct,osl,rfl,lk,hcd⟩:=F.ex
 refine fn_of lk hcd S len fun A outer s H vs Q E hr hsp=>?_
 obtain ⟨t,h,q⟩:=hbody cdv A outer s H vs Q E hr hsp
 exact ⟨t,h.nox,q⟩
theorem Fun.binds {x qual:Str}{st:Stmt}{f:Addr}{fd:FuncData}{ps:List Str}(F:Fun K x qual st f fd)
  (h:∀ (kV doc pm:Value) (an:Option Addr) (cdv ct:Value) (us:List Value),us.length=ps.length->bindArgs (PySem.W.fnOf x qual (defArgs st) (defBody st) (defScope st) .none kV doc pm an cdv ct) ⟨us,[]⟩=pure (ps.zip us)):Binds K fd ps []:=by
 obtain ⟨oc,od,kV,doc,pm,an,cdv,ct,osl,rfl,lk,hcd⟩:=F.ex
 exact .all (h kV doc pm an cdv ct)
theorem fun_mk {x qual:Str}{st:Stmt}{f:Addr}{oc:Value}{od an:Option Addr}{osl:Array (Option Value)}{kV doc pm cdv ct:Value}(l:K.lookup f=some ⟨oc,od,.func (PySem.W.fnOf x qual (defArgs st) (defBody st) (defScope st) .none kV doc pm an cdv ct),osl⟩)
  (c:PySem.W.codeIn K cdv qual=true) (k:PySem.W.keepIn K (.ref f)=true):Fun K x qual st f (PySem.W.fnOf x qual (defArgs st) (defBody st) (defScope st) .none kV doc pm an cdv ct):=⟨⟨oc,od,kV,doc,pm,an,cdv,ct,osl,rfl,l,c⟩,k⟩
end
theorem small1000 {n:Nat}(h:n≤1000):n < sizeLine:=Nat.lt_of_le_of_lt h (by decide)
section
variable {X:Cx}
theorem pv (i:Nat){x:Str}{pos:Pos}(hN:X.N[i]? = some x:=by rfl) (hv:Vis X.env.scope x:=by first|exact Or.inl rfl|exact Or.inr (Or.inl rfl)|exact Or.inr (Or.inr rfl)) (hd:(x == ("__debug__":Str))=false:=by decide)
  (hcd:(x == ("__classdict__":Str))=false:=by decide):PE X (.Name x pos) (tVar i):=pe_var hN hv hd hcd
end
theorem ite2 {c A B:Prop} [Decidable c] (h1:c->A) (h2:¬ c->B):if c then A else B:=by
 by_cases h:c
 ·rw [if_pos h]
  exact h1 h
 ·rw [if_neg h]
  exact h2 h
def Same (H H':Hp):Prop:=∀ b o,H b=some o->H' b=some o
theorem Same.refl (H:Hp):Same H H:=fun _ _ h=>h
theorem Same.trans {H H1 H2:Hp}(a:Same H H1) (b:Same H1 H2):Same H H2:=fun c o h=>b c o (a c o h)
theorem Same.free {H H':Hp}(e:Same H H'){l:Addr}(h:H' l=Option.none):H l=Option.none:=by
 cases q:H l with
 | none=>rfl
 | some o=>
  rw [e l o q] at h
  cases h
theorem Same.seq {K:PySem.W.Frag}{H H':Hp}{a:Addr}{xs:List V}(e:Same H H') (h:SqL K H a xs):SqL K H' a xs:=by
 rcases h with (h|⟨o,h⟩)|h
 ·exact .inl (.inl (e _ _ h))
 ·exact .inl (.inr ⟨o,e _ _ h⟩)
 ·exact .inr h
end L2
set_option Elab.async false
set_option linter.all false
set_option maxRecDepth 100000
set_option maxHeartbeats 4000000
set_option Elab.async false
set_option linter.all false
set_option maxRecDepth 100000
namespace L2
open PySem PySem.Spec PyProof.Rows
section
variable {κ:Type} [DecidableEq κ]
def valV (kvs:List (κ × V)) (k:κ):Option V:=(kvs.find? fun kv=>decide (kv.1=k)).map (·.2)
def putK (kvs:List (κ × V)) (k:κ) (v:V):List (κ × V):=
 if (kvs.any fun kv=>decide (kv.1=k))=true then kvs.map (fun kv=>if kv.1=k then (kv.1,v) else kv) else kvs++[(k,v)]
theorem valV_pos {p:κ × V}{r:List (κ × V)}{k:κ}(e:p.1=k):valV (p::r) k=some p.2:=by simp [valV,List.find?_cons,e]
theorem valV_neg {p:κ × V}{r:List (κ × V)}{k:κ}(e:¬ p.1=k):valV (p::r) k=valV r k:=by simp [valV,List.find?_cons,e]
theorem length_putK (kvs:List (κ × V)) (k:κ) (v:V):(putK kvs k v).length≤kvs.length+1:=by
 unfold putK
 split
 ·rw [List.length_map];omega
 ·rw [List.length_append,List.length_cons,List.length_nil];omega
theorem RelO.isSome_eq {o:Option V}{u:Option Value}(r:RelO o u):o.isSome=u.isSome:=by
 cases o with
 | none=>cases u with
  | none=>rfl
  | some _=>exact (show False from r).elim
 | some _=>cases u with
  | none=>exact (show False from r).elim
  | some _=>rfl
theorem KV.val {kvs:List (κ × V)}{vs:List (κ × Value)}(r:KV kvs vs) (k:κ):RelO (valV kvs k) (valueAt vs k):=by
 unfold KV at r
 induction r with
 | nil=>exact True.intro
 | @cons p q ps qs h t ih=>
  obtain ⟨h1,h2⟩:=h
  by_cases e:p.1=k
  ·have e':q.1=k:=h1.symm.trans e
   have b:valueAt (q::qs) k=some q.2:=by simp [valueAt,List.find?_cons,e']
   rw [valV_pos e,b];exact h2
  ·have e':¬ q.1=k:=fun z=>e (h1.trans z)
   have b:valueAt (q::qs) k=valueAt qs k:=by simp [valueAt,List.find?_cons,e']
   rw [valV_neg e,b];exact ih
theorem KV.any {kvs:List (κ × V)}{vs:List (κ × Value)}(r:KV kvs vs) (k:κ):(kvs.any fun kv=>decide (kv.1=k))=vs.any fun kv=>decide (kv.1=k):=by
 unfold KV at r
 induction r with
 | nil=>rfl
 | cons h t ih=>rw [List.any_cons,List.any_cons,ih,h.1]
theorem KV.repl {kvs:List (κ × V)}{vs:List (κ × Value)}(r:KV kvs vs) (k:κ){y:V}{u:Value}(ry:RelV y u) :
  KV (kvs.map fun kv=>if kv.1=k then (kv.1,y) else kv) (vs.map fun kv=>if kv.1=k then (kv.1,u) else kv):=by
 unfold KV at r ⊢
 induction r with
 | nil=>exact .nil
 | @cons p q ps qs h t ih=>
  rw [List.map_cons,List.map_cons]
  refine .cons ?_ ih
  obtain ⟨h1,h2⟩:=h
  by_cases e:p.1=k
  ·rw [if_pos e,if_pos (h1.symm.trans e)];exact ⟨h1,ry⟩
  ·rw [if_neg e,if_neg (fun z=>e (h1.trans z))];exact ⟨h1,h2⟩
theorem KV.put {kvs:List (κ × V)}{vs:List (κ × Value)}(r:KV kvs vs) (k:κ){y:V}{u:Value}(ry:RelV y u):KV (putK kvs k y) (stored vs k u):=by
 unfold putK stored
 rw [r.any k]
 by_cases e:(vs.any fun kv=>decide (kv.1=k))=true
 ·rw [if_pos e,if_pos e];exact r.repl k ry
 ·rw [if_neg e,if_neg e];exact Paired.snoc r ⟨rfl,ry⟩
end
theorem kV_is {P:Program}{w:World}{k:Key}{u:Value}(r:RelV (kV k) u):(mixKind P w).is k u=true:=by
 cases k with
 | inl i=>obtain ⟨t,e⟩:=(show ∃ t,u=Value.int i t from r);subst e;exact mixKind_int P w i t
 | inr x=>obtain ⟨t,e⟩:=(show ∃ t,u=Value.str x t from r);subst e;exact mixKind_str P w x t
theorem items_are {P:Program}{w:World}:∀ {ks:List Key}{us:List Value},Vals (ks.map kV) us->ItemsAre (mixKind P w) ks us
 | [],_,r=>by rw [List.map_nil] at r;cases r;exact .nil
 | k::ks,_,r=>by
  rw [List.map_cons] at r
  cases r with
  | cons h t=>exact .cons (kV_is h) (items_are t)
abbrev KT (H:Hp):List (List Key × V)->List (List Key × Addr × Value)->Prop:=Paired fun p q=>p.1=q.1∧H q.2.1=some (.tup (p.1.map kV))∧RelV p.2 q.2.2
theorem KT.val {H:Hp}{kvs:List (List Key × V)}{xs:List (List Key × Addr × Value)}(r:KT H kvs xs) (k:List Key):RelO (valV kvs k) ((atKey xs k).map (·.2)):=by
 induction r with
 | nil=>exact True.intro
 | @cons p q ps qs h t ih=>
  obtain ⟨h1,_,h2⟩:=h
  by_cases e:p.1=k
  ·have e':q.1=k:=h1.symm.trans e
   have b:atKey (q::qs) k=some q.2:=by simp [atKey,List.find?_cons,e']
   rw [valV_pos e,b];exact h2
  ·have e':¬ q.1=k:=fun z=>e (h1.trans z)
   have b:atKey (q::qs) k=atKey qs k:=by simp [atKey,List.find?_cons,e']
   rw [valV_neg e,b];exact ih
section
variable {P:Program}{w:World}{H:Hp}{h:Heap}{a:Addr}
theorem rd_of {u:HO}(ok:HOk P w H h) (e:Rd H a u):ObjOk P w H h a u:=e.ok ok
theorem dk_rd {kvs:List (Key × V)}(ok:HOk P w H h) (e:Rd H a (.dK kvs)):kvs.length≤sizeLine∧(a == sysModules)=false∧∃ vs,KV kvs vs∧h.DictOf (mixKind P w) a vs:=
 show ObjOk P w H h a (.dK kvs) from rd_of ok e
theorem dk_of {kvs:List (Key × V)}(ok:HOk P w H h) (e:H a=some (.dK kvs)):kvs.length≤sizeLine∧(a == sysModules)=false∧∃ vs,KV kvs vs∧h.DictOf (mixKind P w) a vs:=dk_rd ok (.inl e)
theorem key_of {ks:List Key}(ok:HOk P w H h) (e:H a=some (.tup (ks.map kV))):(tupleKind (mixKind P w)).is h ks a:=by
 obtain ⟨_,its,r,o,h1,h2,n,h3⟩:=(show ObjOk P w H h a (.tup (ks.map kV)) from ok a _ e)
 exact ⟨o,its.toArray,n,h1,h2,h3,by simpa using items_are r⟩
theorem dt_rd {kvs:List (List Key × V)}(ok:HOk P w H h) (e:Rd H a (.dT kvs)):kvs.length≤sizeLine∧(a == sysModules)=false ∧
  ∃ xs,KT H kvs xs∧h.DictOfH (tupleKind (mixKind P w)) a xs:=by
 obtain ⟨z,y,xs,r,o,es,ep,h1,h2,h3,h4,h5⟩:=(show ObjOk P w H h a (.dT kvs) from rd_of ok e)
 refine ⟨z,y,xs,r,o,es,ep,h1,h2,h3,h4,fun x hx=>?_,h5⟩
 have all:∀ {l:List (List Key × V)} {m:List (List Key × Addr × Value)},KT H l m->∀ x∈m,(tupleKind (mixKind P w)).is h x.1 x.2.1:=by
  intro l m q
  induction q with
  | nil=>intro x hx;exact nomatch hx
  | @cons p q ps qs hq t ih=>
   intro x hx
   rcases List.mem_cons.mp hx with e|hx
   ·subst e
    exact key_of ok (by rw [←hq.1];exact hq.2.1)
   ·exact ih x hx
 exact all r x hx
end
def DGet (H:Hp) (a:Addr) (y:V) (r:Option V):Prop:=
 (∃ kvs k,Rd H a (.dK kvs)∧y=kV k∧r=valV kvs k)∨∃ kvs k b,Rd H a (.dT kvs)∧y=.ref b∧H b=some (.tup (k.map kV))∧r=valV kvs k
theorem DGet.k {H:Hp}{a:Addr}{kvs:List (Key × V)}{k:Key}(e:H a=some (.dK kvs)):DGet H a (kV k) (valV kvs k):=.inl ⟨kvs,k,.inl e,rfl,rfl⟩
section
variable {X:Cx}{pins:List (Addr × Obj)}{σ:St}{H:Hp}{s:Shared}{a:Addr}{y v:V}{u r:Value}{o:Option V}{A:Around}{E:Value->Shared->Prop}
theorem Inv.big (I:Inv X pins σ H s):sysModules < s.heap.objs.size:=by
 have h:mainGlobals < s.heap.objs.size:=(I.mod.glob.keeps I.bk).lt
 exact Nat.lt_trans (by decide) h
theorem d_getItem {Q:Value->Shared->Prop}(hu:A.units+1 < cLine) (I:Inv X pins σ H s) (g:DGet H a y (some v)) (ry:RelV y u) (h:∀ w' s',Inv X pins σ H s'->RelV v w'->Q w' s') :
  wpAny (model X.prog X.w) A (getItem (.ref a) u) Q E s:=by
 rcases g with ⟨kvs,k,e,ey,l⟩|⟨kvs,k,b,e,ey,eb,l⟩
 ·subst ey
  obtain ⟨z,hd,vs,rel,dd⟩:=dk_rd I.hok e
  obtain ⟨w',hw,rw'⟩:=RelO.some_of (v:=v) (o:=valueAt vs k) (by rw [l];exact rel.val k)
  exact wpAny_getItem_of (kV_is ry) dd.mapOf hw (h w' _ (I.tok _) rw')
 ·subst ey
  cases (show u=Value.ref b from ry)
  obtain ⟨z,hd,xs,rel,dd⟩:=dt_rd I.hok e
  obtain ⟨w',hw,rw'⟩:=RelO.some_of (v:=v) (o:=(atKey xs k).map (·.2)) (by rw [l];exact rel.val k)
  obtain ⟨p,hp,hp2⟩:=Option.map_eq_some_iff.mp hw
  refine wpAny_getItem_heap (tupleKind_room_in1 hu) (key_of I.hok eb) dd hp ?_
  rw [hp2]
  exact h w' _ (I.tok _) rw'
theorem d_write {h':Heap}{t':Nat}{ob:HO}(I:Inv X pins σ H s) (mu:Mut (H a)) (hs:Heap.SameBut a s.heap h') (he:∃ q,h'.get? a=some q) (new:ObjOk X.prog X.w (upd H a ob) h' a ob) :
  Inv X pins σ (upd H a ob) { s with heap:=h',toks:=t' }:=
 I.write (x:=a) (e:=a) mu (.inl rfl) (fun b q hb z=>(hs.2 b hb).trans z) he new
theorem dk_new {P:Program}{w:World}{H':Hp}{h':Heap}{kvs:List (Key × V)}{vs:List (Key × Value)}(z:kvs.length≤sizeLine) (hd:(a == sysModules)=false) (rel:KV kvs vs) (dd:h'.DictOf (mixKind P w) a vs) :
  ObjOk P w H' h' a (.dK kvs):=⟨z,hd,vs,rel,dd⟩
end
section
variable {X:Cx}{pins:List (Addr × Obj)}{σ:St}{H:Hp}{s:Shared}{a:Addr}{kvs:List (Key × V)}{k:Key}{u:Value}{A:Around}{E:Value->Shared->Prop}
end
def NoSl (i:Expr):Prop:=∀ ov iv,subscripted i false ov iv=operate [ov,iv] (getItem ov iv)
theorem subD_of {prog:Program}{w:World}{A:Around}{E:Value->Shared->Prop}{s:Shared}{env:Env}{value slice:Expr}{pos:Pos}{T id:String}{Q:Value->Shared->Prop}
  (hl:typeLookup (.type T) "__getitem__"=pure (some (.builtin id))) (hs:NoSl slice)
  (h:wpAny (model prog w) A (eval value env) (fun o s₁=>wpAny (model prog w) A (eval slice env) (fun i s₂=>s₂.TypeIs o T∧wpAny (model prog w) A (getItem o i) Q E s₂) E s₁) E s) :
  wpAny (model prog w) A (eval (.Subscript value slice pos) env) Q E s:=by
 refine Subscript_ (wpAny_mono h (fun o s₁ h₁=>wpAny_mono h₁ (fun i s₂ h₂=>?_) fun _ _ x=>x) fun _ _ x=>x)
 obtain ⟨hT,h₂⟩:=h₂
 unfold subscriptTail
 refine wpAny_bind ?_
 rw [getitemInPython_of_ne hT.not_modules]
 refine wpAny_bind (wpAny_specialOf hT hl ?_)
 have fin:wpAny (model prog w) A (subscripted slice false o i) (fun r s₃=>wpAny (model prog w) A (letTemporaryGo value o r >>= fun _=>pure r) Q E s₃) E s₂:=by
  rw [hs o i]
  exact wpAny_operating (wpAny_mono h₂ (fun r s₃ h₃=>wpAny_bind (wpAny_letTemporaryGo (wpAny_pure h₃))) fun _ _ x=>x)
 first
  | exact wpAny_pure (wpAny_bind fin)
  | exact wpAny_bind (wpAny_pure (wpAny_bind fin))
  | exact wpAny_bind fin
theorem dict_typeIs {X:Cx}{pins:List (Addr × Obj)}{σ:St}{H:Hp}{s:Shared}{a:Addr}{y:V}{o:Option V}(I:Inv X pins σ H s) (g:DGet H a y o):s.TypeIs (.ref a) "dict":=by
 rcases g with ⟨kvs,k,e,_,_⟩|⟨kvs,k,b,e,_,_,_⟩
 ·obtain ⟨_,_,vs,_,dd⟩:=dk_rd I.hok e
  exact dd.typeIs
 ·obtain ⟨_,_,xs,_,dd⟩:=dt_rd I.hok e
  exact dd.typeIs
def tDGet (td ty:TE):TE:=fun σ H Q=>td σ H fun x H1=>ty σ H1 fun y H2=>∃ a v,x=.ref a∧DGet H2 a y (some v)∧Q v H2
section
variable {X:Cx}{o i e value:Expr}{pos pos' tpos:Pos}{td ty tv:TE}
theorem pe_dget (hu:X.A.units+1 < cLine) (ho:PE X o td) (hi:PE X i ty) (hs:NoSl i):PE X (.Subscript o i pos) (tDGet td ty):=by
 intro pins s σ H Q I h
 refine subD_of PySem.F.slot_dict_getitem.lookup hs (thn (ho pins s σ H _ I h) fun u s1 ⟨x,H1,I1,rx,q1⟩=>thn (hi pins s1 σ H1 _ I1 q1) fun iv s2 ⟨y,H2,I2,ry,a,v,ex,g,q2⟩=>?_)
 subst ex
 obtain rfl:u=Value.ref a:=rx
 exact ⟨dict_typeIs I2 g,d_getItem hu I2 g ry fun w' s3 I3 rw'=>⟨v,H2,I3,rw',q2⟩⟩
end
theorem dk_empty {P:Program}{w:World}{H:Hp}(h:Heap) (hb:sysModules < h.objs.size):ObjOk P w H (h.push { cls:=.type "dict",data:=.dict #[] }) h.objs.size (.dK []):=
 ⟨Nat.zero_le _,beq_eq_false_iff_ne.mpr (Ne.symm (Nat.ne_of_lt hb)),[],.nil,Heap.DictOf.new h⟩
def tDNewK:TE:=fun _ H Q=>∀ p,H p=none->Q (.ref p) (upd H p (.dK []))
section
variable {X:Cx}{pos:Pos}
theorem pe_dnewK:PE X (.Dict [] [] pos) tDNewK:=fun pins s σ H Q I h=>
 wpAny_Dict_empty ⟨.ref s.heap.objs.size,_,I.laid (a:=s.heap.objs.size) (o:=.dK []) (t':=s.toks) (fun _ _ q=>Heap.get?_push_of_some _ q) (Nat.le_refl _) (dk_empty s.heap I.big),rfl,h _ (I.hok.fresh (Nat.le_refl _))⟩
end
def tPairs:List (TE × TE)->St->Hp->(List (V × V)->Hp->Prop)->Prop
 | [],_,H,Q=>Q [] H
 | (tk,tv)::r,σ,H,Q=>tk σ H fun x H1=>tv σ H1 fun y H2=>tPairs r σ H2 fun ps H3=>Q ((x,y)::ps) H3
abbrev VV:List (V × V)->List (Value × Value)->Prop:=Paired fun p q=>RelV p.1 q.1∧RelV p.2 q.2
def PPs (X:Cx) (pos:Pos) (keys:List (Option Expr)) (values:List Expr) (trs:List (TE × TE)):Prop:=
 ∀ (pins:List (Addr × Obj)) (s:Shared) (σ:St) (H:Hp) (Q:List (V × V)->Hp->Prop),Inv X pins σ H s->tPairs trs σ H Q →
  wpAny (model X.prog X.w) X.A (evalPairs (pairTrees keys values X.env pos)) (fun vs s'=>∃ ps H',Inv X pins σ H' s'∧VV ps vs∧Q ps H') X.xe s
theorem pps_nil {X:Cx}{pos:Pos}:PPs X pos [] [] []:=fun pins s σ H Q I h=>pairTrees_nil_walk ⟨[],H,I,.nil,h⟩
theorem pps_cons {X:Cx}{pos:Pos}{k v:Expr}{ks:List (Option Expr)}{vs:List Expr}{tk tv:TE}{trs:List (TE × TE)}(hk:PE X k tk) (hv:PE X v tv) (hr:PPs X pos ks vs trs) :
  PPs X pos (some k::ks) (v::vs) ((tk,tv)::trs):=fun pins s σ H Q I h=>
 pairTrees_cons_walk (thn (hk pins s σ H _ I h) fun u s1 ⟨x,H1,I1,rx,q1⟩=>thn (hv pins s1 σ H1 _ I1 q1) fun w2 s2 ⟨y,H2,I2,ry,q2⟩=>
  thn (hr pins s2 σ H2 _ I2 q2) fun ws s3 ⟨ps,H3,I3,rel,q3⟩=>⟨(x,y)::ps,H3,I3,.cons ⟨rx,ry⟩ rel,q3⟩)
def mergeK (kvs more:List (Key × V)):List (Key × V):=more.foldl (fun acc kv=>putK acc kv.1 kv.2) kvs
theorem KV.merge:∀ {more:List (Key × V)}{rs:List (Key × Value)}{kvs:List (Key × V)}{vs:List (Key × Value)},KV more rs->KV kvs vs->KV (mergeK kvs more) (merged vs rs):=by
 intro more rs kvs vs r
 unfold KV at r
 induction r generalizing kvs vs with
 | nil=>intro q;exact q
 | @cons p q ps qs h t ih=>
  intro r0
  have e:KV (putK kvs p.1 p.2) (stored vs q.1 q.2):=by
   have:=r0.put p.1 h.2
   rw [←h.1];exact this
  exact ih e
theorem length_mergeK:∀ (more kvs:List (Key × V)),(mergeK kvs more).length≤kvs.length+more.length
 | [],kvs=>by show kvs.length≤kvs.length+0;omega
 | p::r,kvs=>by
  have h1:=length_mergeK r (putK kvs p.1 p.2)
  have h2:=length_putK kvs p.1 p.2
  show (mergeK (putK kvs p.1 p.2) r).length≤_
  rw [List.length_cons];omega
theorem carries_of {P:Program}{w:World}:∀ {kvs:List (Key × V)}{ws:List (Value × Value)},VV (kvs.map fun kv=>(kV kv.1,kv.2)) ws->∃ rs,Carries (mixKind P w) ws rs∧KV kvs rs
 | [],_,r=>by rw [List.map_nil] at r;cases r;exact ⟨[],True.intro,.nil⟩
 | p::kvs,_,r=>by
  rw [List.map_cons] at r
  cases r with
  | @cons a b as bs h t=>
   obtain ⟨rs,c,q⟩:=carries_of (P:=P) (w:=w) t
   obtain ⟨b1,b2⟩:=b
   exact ⟨(p.1,b2)::rs,⟨kV_is h.1,rfl,c⟩,.cons ⟨rfl,h.2⟩ q⟩
def tDisp (trs:List (TE × TE)):TE:=fun σ H Q=>∀ p,H p=none->tPairs trs σ (upd H p (.dK [])) fun ps H2=>H2 p=some (.dK [])∧∃ kvs:List (Key × V),ps=kvs.map (fun kv=>(kV kv.1,kv.2))∧kvs.length≤15∧Q (.ref p) (upd H2 p (.dK (mergeK [] kvs)))
theorem pe_disp {X:Cx}{pos:Pos}{keys:List (Option Expr)}{values:List Expr}{trs:List (TE × TE)}(h:PPs X pos keys values trs) (hall:keys.all (·.isSome)=true) (hl:keys.length=values.length) (h0:keys ≠ [])
  (h15:keys.length≤15):PE X (.Dict keys values pos) (tDisp trs):=by
 intro pins s σ H Q I q
 have hn:=I.hok.fresh (Nat.le_refl s.heap.objs.size)
 have I1:=I.laid (a:=s.heap.objs.size) (o:=.dK []) (h':=s.heap.push { cls:=.type "dict",data:=.dict #[] }) (t':=s.toks) (fun _ _ q=>Heap.get?_push_of_some _ q) (Nat.le_refl _) (dk_empty s.heap I.big)
 refine wpAny_Dict_walk (knd:=mixKind X.prog X.w) hall hl h0 h15 (thn (h pins _ σ _ _ I1 (q _ hn)) fun ws s2 ⟨ps,H2,I2,rel,e,kvs,ep,lk,q2⟩=>?_)
 subst ep
 obtain ⟨rs,c,rk⟩:=carries_of (P:=X.prog) (w:=X.w) rel
 obtain ⟨z,hd,vs0,r0,dd⟩:=dk_of I2.hok e
 cases r0
 refine ⟨rs,c,dd,fun h' dd' hs=>⟨.ref s.heap.objs.size,_,?_,rfl,q2⟩⟩
 have hz:(mergeK [] kvs).length≤sizeLine:=by
  have h1:=length_mergeK kvs []
  rw [List.length_nil] at h1
  rw [sizeLine_eq];omega
 have he:∃ q,h'.get? s.heap.objs.size=some q:=let ⟨q,_,_,hq,_⟩:=dd';⟨q,hq⟩
 exact d_write I2 (by rw [e];exact True.intro) hs he (dk_new hz hd (rk.merge .nil) dd')
structure M2 (X:Cx) (o:Expr) (m:Str) (apos:Pos) (e f:Expr) (cpos:Pos):Prop where
 base:attributeBase o m X.env (eval o X.env)=eval o X.env
 few:((backTo cpos (starEach [e,f] X.env)).all (fun x=>!x.1) && (backToKw cpos (keywordEach [] X.env)).all (fun x=>x.1.isSome)
  && decide (([e,f]:List Expr).length+([]:List Keyword).length+(if ([]:List Keyword).isEmpty then 0 else 1) < 30))=true
 line:(apos.endLine == cpos.line)=true
 trees:backTo cpos (starEach [e,f] X.env)=[(false,eval e X.env),(false,eval f X.env)]
section
variable {X:Cx}{pins:List (Addr × Obj)}{σ:St}{H:Hp}{s:Shared}{a:Addr}{y d:V}{u r:Value}{o:Option V}{A:Around}{E:Value->Shared->Prop}
end
section
variable {X:Cx}{o e f:Expr}{apos cpos:Pos}{td ty tx:TE}
end
section
variable {X:Cx}{pins:List (Addr × Obj)}{σ:St}{H:Hp}{s:Shared}{a:Addr}{kvs:List (Key × V)}{A:Around}{E:Value->Shared->Prop}
end
section
variable {X:Cx}{pins:List (Addr × Obj)}{σ:St}{H:Hp}{s:Shared}{a:Addr}{y:V}{u:Value}{A:Around}{E:Value->Shared->Prop}
end
end L2
namespace L2
open PySem PySem.Spec PyProof.Rows
section
variable {κ:Type} [DecidableEq κ]
end
end L2
set_option Elab.async false
set_option linter.all false
set_option maxRecDepth 100000
set_option maxHeartbeats 4000000
namespace L2
open PySem PySem.Spec PyProof.Rows
section
variable {X:Cx}
theorem call_isi:CallR X (.builtin "isinstance") (fun xs H Q=>∃ x n ty b,xs=[x,.ty n]∧TyOf X.K H x ty∧PySem.W.kitOne X.K ty (.type n)=some b∧Q (.bl b) H):=by
 intro pins s σ H xs us Q I r h
 obtain ⟨x,n,ty,b,rfl,hty,hk,q⟩:=h
 obtain ⟨u,w',rfl,rx,rc⟩:=vals2 r
 cases (show w'=Value.type n from rc)
 exact isinst_ok I rx hty hk (fun tk=>⟨.bl b,H,I.tok _,rfl,q⟩)
theorem kitOne_ty (K:PySem.W.Frag) (A B:String) (r:Bool)
  (h:(if (Value.type A == Value.type B)=true then some true else if PySem.W.kitMeta B=true then (fastBuiltinMro A).map (·.contains (.type B)) else none)=some r):PySem.W.kitOne K (.type A) (.type B)=some r:=h
mutual
inductive DatV (K:PySem.W.Frag) (H:Hp):V->PyData->Prop
 | non:DatV K H .non .none
 | bl (b:Bool):DatV K H (.bl b) (.bool b)
 | int (i:Int):DatV K H (.int i) (.int i)
 | str (x:Str):DatV K H (.str x) (.str x)
 | lst {a:Addr} {xs:List V} {ds:List PyData} (h:SqL K H a xs) (r:DatVs K H xs ds):DatV K H (.ref a) (.list ds)
 | tup {a:Addr} {xs:List V} {ds:List PyData} (h:SqT K H a xs) (r:DatVs K H xs ds):DatV K H (.ref a) (.tuple ds)
inductive DatVs (K:PySem.W.Frag) (H:Hp):List V->List PyData->Prop
 | nil:DatVs K H [] []
 | cons {x:V} {d:PyData} {xs:List V} {ds:List PyData} (h:DatV K H x d) (t:DatVs K H xs ds):DatVs K H (x::xs) (d::ds)
end
mutual
theorem DatV.reads {pins:List (Addr × Obj)}{σ:St}{H:Hp}{s:Shared}(I:Inv X pins σ H s):∀ {x:V}{d:PyData}{u:Value},DatV X.K H x d->RelV x u->∃ as,Reads s.heap u d as
 | _,_,_,.non,r=>by cases (show _=Value.none from r);exact ⟨_,.none⟩
 | _,_,_,.bl b,r=>by cases (show _=Value.bool b from r);exact ⟨_,.bool b⟩
 | _,_,_,.int i,r=>by obtain ⟨t,rfl⟩:=r;exact ⟨_,.int i t⟩
 | _,_,_,.str x,r=>by obtain ⟨t,rfl⟩:=r;exact ⟨_,.str x t⟩
 | _,_,_,@DatV.lst _ _ a xs ds h q,r=>by
  cases (show _=Value.ref a from r)
  obtain ⟨its,hv,hp,_⟩:=I.list h
  obtain ⟨o,n,e,c,_,d⟩:=hp
  obtain ⟨as,z⟩:=DatVs.reads I q hv
  exact ⟨_,.list e c d (by simpa using z)⟩
 | _,_,_,@DatV.tup _ _ a xs ds h q,r=>by
  cases (show _=Value.ref a from r)
  obtain ⟨its,hv,hp,_⟩:=I.tuple h
  obtain ⟨o,e,c,n,d⟩:=hp
  obtain ⟨as,z⟩:=DatVs.reads I q hv
  exact ⟨_,.tuple e c d (by simpa using z)⟩
theorem DatVs.reads {pins:List (Addr × Obj)}{σ:St}{H:Hp}{s:Shared}(I:Inv X pins σ H s):∀ {xs:List V}{ds:List PyData}{us:List Value},DatVs X.K H xs ds->Vals xs us->∃ as,ReadsAll s.heap us ds as
 | _,_,_,.nil,.nil=>⟨_,.nil⟩
 | _,_,_,.cons h t,.cons r q=>by
  obtain ⟨as,z⟩:=DatV.reads I h r
  obtain ⟨bs,y⟩:=DatVs.reads I t q
  exact ⟨_,.cons z y⟩
end
def rEqD (K:PySem.W.Frag):R2:=fun x y H Q=>∃ d e,DatV K H x d∧DatV K H y e∧SeqAt.shaped d=true∧SeqAt.shaped e=true∧Q (.bl (PyData.eqv d e)) H
def rNeD (K:PySem.W.Frag):R2:=fun x y H Q=>∃ d e,DatV K H x d∧DatV K H y e∧SeqAt.shaped d=true∧SeqAt.shaped e=true∧Q (.bl (!PyData.eqv d e)) H
theorem op_eqD (hu:X.A.units+64 < cLine):OpR X (compareOp .Eq) (rEqD X.K):=by
 intro pins s σ H x y v u Q I rx ry h
 obtain ⟨d,e,hd,he,sd,se,q⟩:=h
 obtain ⟨as,z⟩:=hd.reads I rx
 obtain ⟨bs,z'⟩:=he.reads I ry
 exact SeqAt.compareEq_shaped z z' sd se hu ⟨.bl _,H,I,rfl,q⟩
theorem op_neD (hu:X.A.units+64 < cLine):OpR X (compareOp .NotEq) (rNeD X.K):=by
 intro pins s σ H x y v u Q I rx ry h
 obtain ⟨d,e,hd,he,sd,se,q⟩:=h
 obtain ⟨as,z⟩:=hd.reads I rx
 obtain ⟨bs,z'⟩:=he.reads I ry
 exact SeqAt.compareNe_shaped z z' sd se hu ⟨.bl _,H,I,rfl,q⟩
end
theorem same_upd {H:Hp}{p:Addr}{o:HO}(h:H p=none):Same H (upd H p o):=fun b u e=>by
 rw [upd_ne (ne_of_none e h)];exact e
theorem atI_lt {α:Type}(xs:List α) (i:Int) (h0:0≤i) (h1:i < xs.length):∃ v,atI xs i=some v∧v∈xs:=by
 have hl:i.toNat < xs.length:=by omega
 refine ⟨xs[i.toNat],?_,List.getElem_mem hl⟩
 have e:((i.toNat:Nat):Int)=i:=by omega
 have:=atI_nat (xs:=xs) (j:=i.toNat) (v:=xs[i.toNat]) (List.getElem?_eq_getElem hl)
 rw [e] at this
 exact this
theorem atI_ints (ns:List Int) (i:Int) (h0:0≤i) (h1:i < ns.length):∃ z,atI (ns.map V.int) i=some (.int z)∧z∈ns:=by
 obtain ⟨v,e,m⟩:=atI_lt (ns.map V.int) i h0 (by simpa using h1)
 obtain ⟨z,hz,rfl⟩:=List.mem_map.mp m
 exact ⟨z,e,hz⟩
end L2
set_option Elab.async false
set_option linter.all false
set_option maxRecDepth 100000
set_option maxHeartbeats 4000000
namespace L2
open PySem PySem.Spec PyProof.Rows
def clOf (cells:List (Str × Addr)):List (Str × NameKind)->List (Str × Addr)->List (Str × Addr)
 | [],acc=>acc
 | (n,k)::r,acc=>if (k == .free)=true then clOf cells r ((n,(cells.lookup n).getD 0)::acc) else clOf cells r acc
theorem closure_run {env:Env}:∀ (names:List (Str × NameKind)) (acc:List (Str × Addr)),(∀ y∈names,y.2=.free->∃ c,env.cells.lookup y.1=some c) →
  (forIn names acc (fun (x:Str × NameKind) (cs:List (Str × Addr))=>match x with
   | (name,kind)=>if (kind == .free)=true then (do let a ←cellOf env name;pure (ForInStep.yield ((name,a)::cs))) else (do pure PUnit.unit;pure (ForInStep.yield cs))):Sem (List (Str × Addr)))=pure (clOf env.cells names acc)
 | [],acc,_=>rfl
 | (n,k)::r,acc,h=>by
  rw [List.forIn_cons]
  have hr:∀ y∈r,y.2=.free->∃ c,env.cells.lookup y.1=some c:=fun y hy=>h y (List.mem_cons_of_mem _ hy)
  by_cases hk:(k == .free)=true
  ·obtain ⟨c,hc⟩:=h (n,k) List.mem_cons_self (by simpa using hk)
   have hc':env.cells.lookup n=some c:=hc
   simp only [hk,if_true,clOf,hc',Option.getD_some]
   have e:cellOf env n=pure c:=by unfold cellOf;rw [hc']
   rw [e]
   exact closure_run r _ hr
  ·simp only [hk,if_false,clOf]
   exact closure_run r acc hr
theorem closureFor_eq {scope:Scope}{env:Env}(h:∀ y∈scope.names,y.2=.free->∃ c,env.cells.lookup y.1=some c):closureFor scope env=pure (clOf env.cells scope.names []):=by
 unfold closureFor
 have:=closure_run (env:=env) scope.names [] h
 first
  | exact (congrArg (fun m=>m >>= fun cs=>pure cs) this).trans (pure_bind _ _)
  | (simp only [] at this ⊢;rw [this];rfl)
theorem clOf_sub {cells:List (Str × Addr)}{x:Str}{c:Addr}:∀ {names:List (Str × NameKind)}{acc:List (Str × Addr)},(∀ y∈names,y.2=.free->∃ c,cells.lookup y.1=some c)->(clOf cells names acc).lookup x=some c->acc.lookup x=some c∨cells.lookup x=some c
 | [],acc,_,h=>.inl h
 | (n,k)::r,acc,hf,h=>by
  have hr:∀ y∈r,y.2=.free->∃ c,cells.lookup y.1=some c:=fun y hy=>hf y (List.mem_cons_of_mem _ hy)
  unfold clOf at h
  by_cases hk:(k == .free)=true
  ·rw [if_pos hk] at h
   rcases clOf_sub hr h with q|q
   ·rw [List.lookup_cons] at q
    cases hx:x == n with
    | true=>
     rw [hx] at q
     obtain ⟨d,hd⟩:=hf (n,k) List.mem_cons_self (by simpa using hk)
     have e:x=n:=by simpa using hx
     subst e
     have hd':cells.lookup x=some d:=hd
     rw [hd'] at q ⊢
     exact .inr (by simpa using q)
    | false=>rw [hx] at q;exact .inl q
   ·exact .inr q
  ·rw [if_neg hk] at h
   exact clOf_sub hr h
theorem clOf_acc {cells:List (Str × Addr)}{x:Str}:∀ {names:List (Str × NameKind)}{acc:List (Str × Addr)},(∀ y∈names,y.2=.free->∃ c,cells.lookup y.1=some c)->(∃ c,acc.lookup x=some c)->∃ c,(clOf cells names acc).lookup x=some c
 | [],acc,_,h=>h
 | (n,k)::r,acc,hf,h=>by
  have hr:∀ y∈r,y.2=.free->∃ c,cells.lookup y.1=some c:=fun y hy=>hf y (List.mem_cons_of_mem _ hy)
  unfold clOf
  by_cases hk:(k == .free)=true
  ·rw [if_pos hk]
   refine clOf_acc hr ?_
   rw [List.lookup_cons]
   cases hx:x == n with
   | true=>exact ⟨_,rfl⟩
   | false=>exact h
  ·rw [if_neg hk]
   exact clOf_acc hr h
theorem clOf_has {cells:List (Str × Addr)}{x:Str}:∀ {names:List (Str × NameKind)}{acc:List (Str × Addr)},(∀ y∈names,y.2=.free->∃ c,cells.lookup y.1=some c)->names.lookup x=some .free->∃ c,(clOf cells names acc).lookup x=some c
 | [],acc,_,h=>by simp at h
 | (n,k)::r,acc,hf,h=>by
  have hr:∀ y∈r,y.2=.free->∃ c,cells.lookup y.1=some c:=fun y hy=>hf y (List.mem_cons_of_mem _ hy)
  rw [List.lookup_cons] at h
  unfold clOf
  cases hx:x == n with
  | true=>
   rw [hx] at h
   have hk:k=.free:=by simpa using h
   subst hk
   rw [if_pos (show (NameKind.free == NameKind.free)=true from rfl)]
   refine clOf_acc hr ⟨(cells.lookup n).getD 0,?_⟩
   rw [List.lookup_cons,hx]
  | false=>
   rw [hx] at h
   by_cases hk:(k == .free)=true
   ·rw [if_pos hk];exact clOf_has hr h
   ·rw [if_neg hk];exact clOf_has hr h
theorem lookup_mem {x:Str}{k:NameKind}:∀ {names:List (Str × NameKind)},names.lookup x=some k->(x,k)∈names
 | [],h=>by simp at h
 | (n,j)::r,h=>by
  rw [List.lookup_cons] at h
  cases hx:x == n with
  | true=>
   rw [hx] at h
   have e:x=n:=by simpa using hx
   have e2:j=k:=by simpa using h
   subst e;subst e2
   exact List.mem_cons_self
  | false=>rw [hx] at h;exact List.mem_cons_of_mem _ (lookup_mem h)
theorem lookup_relabel {env:Env}{x:Str}:∀ {names:List (Str × NameKind)},
  (names.map fun (n,k)=>if (k == NameKind.free && env.scope.kind == .function && env.kindOf n == some .cell) then (n,NameKind.cell) else (n,k)).lookup x
   = (names.lookup x).map fun k=>if (k == NameKind.free && env.scope.kind == .function && env.kindOf x == some .cell) then NameKind.cell else k
 | []=>rfl
 | (n,k)::r=>by
  have ih:=@lookup_relabel env x r
  show List.lookup x ((if (k == NameKind.free && env.scope.kind == .function && env.kindOf n == some .cell)=true then (n,NameKind.cell) else (n,k))::_)=_
  cases hx:x == n with
  | true=>
   have e:x=n:=by simpa using hx
   subst e
   by_cases hc:(k == NameKind.free && env.scope.kind == .function && env.kindOf x == some .cell)=true
   ·rw [if_pos hc]
    simp only [List.lookup_cons,beq_self_eq_true,Option.map_some]
    rw [if_pos hc]
   ·rw [if_neg hc]
    simp only [List.lookup_cons,beq_self_eq_true,Option.map_some]
    rw [if_neg hc]
  | false=>
   by_cases hc:(k == NameKind.free && env.scope.kind == .function && env.kindOf n == some .cell)=true
   ·rw [if_pos hc];simp only [List.lookup_cons,hx];exact ih
   ·rw [if_neg hc];simp only [List.lookup_cons,hx];exact ih
abbrev cCx (X:Cx) (scope:Scope) (N':List Str) (C:Addr) (s₀:Shared) (H₀:Hp) (ex:List Addr) (pn:List (Addr × Obj)):Cx:=
 { X with N:=N',s₀:=s₀,H₀:=H₀,env:=compEnvC scope (clOf X.env.cells scope.names []) C X.env,outer:=X.stack,stack:=X.stack,ex:=ex,fn:=fun _=>false,pn:=pn,xe:=fun _ _=>False }
def PTs (Y:Cx) (ifs:List Expr) (t:TT):Prop:=
 ∀ (pins:List (Addr × Obj)) (s:Shared) (σ:St) (H:Hp) (Q:Bool->Hp->Prop),Inv Y pins σ H s->t σ H Q →
  wpAny (model Y.prog Y.w) Y.A (forIn ifs true fun c r=>if r=true then do let ok ←isTrue c Y.env (eval c Y.env);pure (ForInStep.yield ok) else pure (ForInStep.yield r)) (TP Y pins σ Q) Y.xe s
def tYes:TT:=fun _ H Q=>Q true H
theorem pts_nil {Y:Cx}:PTs Y [] tYes:=fun _ _ _ H _ I h=>wpAny_pure ⟨H,I,h⟩
theorem HOk.but {P:Program}{w:World}{H:Hp}{h h':Heap}{C:Addr}(ok:HOk P w H h) (hn:H C=none) (hs:Heap.SameBut C h h'):HOk P w H h':=fun b ob e=>by
 refine (ok b ob e).stay (fun c w' hc q=>(hs.2 c ?_).trans q) (fun _ q=>q) (fun _ _ q=>q) fun _ _ q=>q
 rintro rfl
 rcases hc with rfl|hc
 ·rw [hn] at e;cases e
 ·rw [hn] at hc;cases hc
theorem Un.but {fs ex:List Addr}{H H':Hp}{h h1 h2:Heap}{C:Addr}(u:Un fs ex H H' h h1) (hs:Heap.SameBut C h1 h2) (hC:∀ b o,h.get? b=some o->b ≠ C):Un fs ex H H' h h2 where
 keep:=fun b o e n hb hx=>(hs.2 b (hC b o e)).trans (u.keep b o e n hb hx)
 slot:=fun b o e n hb hx=>by
  obtain ⟨sl,q⟩:=u.slot b o e n hb hx
  exact ⟨sl,(hs.2 b (hC b o e)).trans q⟩
 free:=u.free
 there:=fun b o e hx=>by
  obtain ⟨o',q⟩:=u.there b o e hx
  exact ⟨o',(hs.2 b (hC b o e)).trans q⟩
 tups:=u.tups
 frzs:=u.frzs
 tbls:=u.tbls
section
variable {X:Cx}
def tComp (k:Nat) (wi:TI) (g:TG) (tt:TT) (te:TE):TE:=fun σ H Q=>wi σ H fun J H1=>∀ D,H1 D=none->∃ W:Nat->Nat->List V->Hp->Prop,(∃ m,W 0 m [] (upd H1 D (.lst [])))∧∀ i m ys H,W i m ys H →
 (J.stop i H∧Q (.ref D) H)∨(J.go i H∧∃ N:List V->Hp->Prop,(∀ ys' H',N ys' H'->∃ m',m' < m∧W (i+1) m' ys' H') ∧
  ∀ x H',J.yld i H x H'->g x (List.replicate k none++σ) H' fun σ2 H2=>(∃ vs:St,vs.length=k∧σ2=vs++σ)∧tt σ2 H2 fun b H3=>if b=true then te σ2 H3 fun y H4=>H4 D=some (.lst ys)∧ys.length < sizeLine∧N (ys++[y]) (upd H4 D (.lst (ys++[y]))) else N ys H3)
theorem comp_loop {Y:Cx}{tg elt iter:Expr}{ifs:List Expr}{scope:Scope}{pos:Pos}{it D:Addr}{g:TG}{tt:TT}{te:TE}{J:It}{fp:List Addr}{tn:Nat->Heap->Prop}{k:Nat}{σ:St}{Q:VK}
  (hc:Y.calm=true) (hx:Y.xe=fun _ _=>False) (hg:PG Y tg g) (ht:PTs Y ifs tt) (he:PE Y elt te) (T:Turn Y.prog Y.w Y.K tg J fp it tn) (hf:∀ H:Hp,(∀ b∈fp,H b=none)->∀ b∈fp,FpOk Y [] H b)
  (W:Nat->Nat->List V->Hp->Prop)
  (turn:∀ i m ys H,W i m ys H->(J.stop i H∧Q (.ref D) H)∨(J.go i H∧∃ N:List V->Hp->Prop,(∀ ys' H',N ys' H'->∃ m',m' < m∧W (i+1) m' ys' H') ∧
   ∀ x H',J.yld i H x H'->g x (List.replicate k none++σ) H' fun σ2 H2=>(∃ vs:St,vs.length=k∧σ2=vs++σ)∧tt σ2 H2 fun b H3=>if b=true then te σ2 H3 fun y H4=>H4 D=some (.lst ys)∧ys.length < sizeLine∧N (ys++[y]) (upd H4 D (.lst (ys++[y]))) else N ys H3))
  (n:Nat) (s:Shared) (h:∃ i ys H,Inv Y [] (List.replicate k none++σ) H s∧tn i s.heap∧(∀ b∈fp,H b=none)∧W i n ys H) :
  codeAny (model Y.prog Y.w) Y.A (.compLoop (.ListComp elt [⟨tg,iter,ifs,0⟩] scope pos) 0 (.ref it) (.ref D) Y.env) (fun r s'=>r=.ok .next∧∃ H',Inv Y [] (List.replicate k none++σ) H' s'∧Q (.ref D) H') s:=by
 refine codeAny_loop rfl (fun n s=>∃ i ys H,Inv Y [] (List.replicate k none++σ) H s∧tn i s.heap∧(∀ b∈fp,H b=none)∧W i n ys H) ?_ n h
 rintro n s3 ⟨i,ys,H3,I3,st3,fr3,w3⟩
 show wpAny _ Y.A ((compTurn (.ListComp elt [⟨tg,iter,ifs,0⟩] scope pos) 0 (.ref it) (.ref D) Y.env).onRaise (fun x=>do noteFrame x Y.env;theTreesLotGoes x)) _ _ s3
 refine PySem.wpAny_noted ?_
 rw [PySem.compTurn_list]
 have no:∀ {α:Type} {m:Sem α} {P:α->Shared->Prop} {E:Value->Shared->Prop} {s:Shared},wpAny (model Y.prog Y.w) Y.A m P Y.xe s->wpAny (model Y.prog Y.w) Y.A m P E s:=fun {α m P E s} h=>
  wpAny_mono h (fun _ _ q=>q) fun _ _ q=>by rw [hx] at q;exact q.elim
 refine wpAny_bind (wpAny_standAt (wpAny_bind ?_))
 rcases turn i n ys H3 w3 with ⟨stop,qn⟩|⟨go,N,hN,step⟩
 ·refine thn (T.done Y rfl rfl rfl hc i [] s3 (List.replicate k none++σ) H3 _ I3 (hf H3 fr3) st3 stop) fun r s4 ⟨hr,I4⟩=>?_
  subst hr
  exact wpAny_pure ⟨rfl,H3,I4,qn⟩
 ·refine thn (T.item Y rfl rfl rfl hc i [] s3 (List.replicate k none++σ) H3 _ I3 (hf H3 fr3) st3 go) fun r s4 ⟨u,hr,h4⟩=>?_
  subst hr
  refine wpAny_bind (thn h4 fun _ s5 ⟨x,H5,I5,r5,y5,st5,fr5⟩=>?_)
  have I5':=I5.pinned (hf H5 fr5) (T.obj _ _ st5)
  refine wpAny_bind (no (thn (hg _ s5 (List.replicate k none++σ) H5 x u _ I5' r5 (step x H5 y5)) fun _ s6 ⟨σ6,H6,I6,⟨vs,hvs,e6⟩,q6⟩=>?_))
  subst e6
  have forget:∀ {pins:List (Addr × Obj)} {H:Hp} {s:Shared},Inv Y pins (vs++σ) H s->Inv Y pins (List.replicate k none++σ) H s:=fun {pins H s} I=>I.weak (by simp [hvs]) fun i v e=>by
   by_cases hi:i < k
   ·rw [List.getElem?_append_left (by simpa using hi)] at e
    simp [List.getElem?_replicate,hi] at e
   ·rw [List.getElem?_append_right (by simpa using Nat.le_of_not_lt hi)] at e
    rw [List.getElem?_append_right (by omega)]
    simpa [hvs] using e
  refine wpAny_bind (no (thn (ht _ s6 (vs++σ) H6 _ I6 q6) fun b s7 ⟨H7,I7,q7⟩=>?_))
  have again:∀ {H8:Hp} {s8:Shared} {ys':List V},Inv Y ([]++pinsAt fp s5.heap) (vs++σ) H8 s8->N ys' H8->∃ m,m < n∧∃ i ys H,Inv Y [] (List.replicate k none++σ) H s8∧tn i s8.heap∧(∀ b∈fp,H b=none)∧W i m ys H:=fun {H8 s8 ys'} I8 n8=>by
   obtain ⟨m',hm,w8⟩:=hN ys' H8 n8
   refine ⟨m',hm,i+1,ys',H8,forget I8.unpinned,T.keep _ _ _ st5 fun b hb o e=>(I8.pin (b,o) (List.mem_append_right _ (List.mem_append_right _ (mem_pinsAt hb e)))).1,fun b hb=>?_,w8⟩
   obtain ⟨o,e,d⟩:=T.obj _ _ st5 b hb
   exact (I8.pin (b,o) (List.mem_append_right _ (List.mem_append_right _ (mem_pinsAt hb e)))).2.1
  cases b with
  | false=>
   rw [if_neg Bool.false_ne_true] at q7
   exact wpAny_pure ⟨rfl,again I7 q7⟩
  | true=>
   rw [if_pos rfl] at q7
   refine wpAny_bind (wpAny_bind (no (thn (he _ s7 (vs++σ) H7 _ I7 q7) fun y s8 ⟨y',H8,I8,ry,q8,l8,n8⟩=>?_)))
   exact wpAny_bind (no (thn (mt_append _ s8 (vs++σ) H8 (.ref D) [y'] (.ref D) [y] (fun _ H'=>N (ys++[y']) H') I8 rfl (.cons ry .nil) ⟨D,ys,y',rfl,rfl,q8,l8,n8⟩) fun _ s9 ⟨_,H9,I9,_,q9⟩=>wpAny_pure (wpAny_pure ⟨rfl,again I9 q9⟩)))
structure CompOk (X:Cx) (scope:Scope) (N':List Str) (k:Nat):Prop where
 cell:∀ y∈scope.names,y.2 ≠ .cell
 kind:scope.kind=.function
 names:∀ y∈scope.names,y.2=.local->scope.names.lookup y.1=some .local
 free:∀ y∈scope.names,y.2=.free->X.env.scope.names.lookup y.1=some .cell
 len:N'.length=k+X.N.length
 sub:∀ i x,N'[k+i]? = some x->scope.names.lookup x=some .free->X.N[i]? = some x
 loc:∀ i x,N'[k+i]? = some x->scope.names.lookup x ≠ some .local
theorem CompOk.cells {scope:Scope}{N':List Str}{k:Nat}{pins:List (Addr × Obj)}{σ:St}{H:Hp}{s:Shared}(c:CompOk X scope N' k) (I:Inv X pins σ H s):∀ y∈scope.names,y.2=.free->∃ a,X.env.cells.lookup y.1=some a:=fun y hy e=>
 I.ok.has y.1 (.inl (c.free y hy e))
theorem inv_comp {scope:Scope}{N':List Str}{k:Nat}{pins:List (Addr × Obj)}{σ:St}{H:Hp}{s s₄:Shared}{fp:List Addr}{m:Str->Option Value}(c:CompOk X scope N' k) (hc:X.calm=true) (I:Inv X pins σ H s)
  (hf:∀ b∈fp,FpOk X pins H b) (hfl:∀ b∈fp,b < s.heap.objs.size) (hb:∀ b∈fp,X.base.get? b=none) (hns:s₄.heap.Ns s.heap.objs.size m) (hk:∀ b o,s.heap.get? b=some o->s₄.heap.get? b=some o) (ho:s₄.os=s.os) (hg:s₄.gens=s.gens) :
  Inv (cCx X scope N' s.heap.objs.size s H fp (X.pn++pins)) [] (List.replicate k none++σ) H s₄:=by
 have hcl:=c.cells I
 have sub:∀ x a,(clOf X.env.cells scope.names []).lookup x=some a->X.env.cells.lookup x=some a:=fun x a e=>by
  rcases clOf_sub hcl e with q|q
  ·simp at q
  ·exact q
 have kinds:∀ x,(compEnvC scope (clOf X.env.cells scope.names []) s.heap.objs.size X.env).kindOf x=some .cell∨(compEnvC scope (clOf X.env.cells scope.names []) s.heap.objs.size X.env).kindOf x=some .free->scope.names.lookup x=some .free:=fun x hx=>by
  have e:(compEnvC scope (clOf X.env.cells scope.names []) s.heap.objs.size X.env).kindOf x=(scope.names.lookup x).map fun k=>if (k == NameKind.free && X.env.scope.kind == .function && X.env.kindOf x == some .cell) then NameKind.cell else k:=lookup_relabel
  rw [e] at hx
  cases q:scope.names.lookup x with
  | none=>rw [q] at hx;simp at hx
  | some j=>
   rw [q] at hx
   have hj:j ≠ .cell:=c.cell (x,j) (lookup_mem q)
   cases j<;>simp_all
 have fresh:∀ b,s.heap.objs.size≤b->s.heap.get? b=none:=fun b hb=>Heap.get?_none_of_le hb
 have ne:∀ b o,s.heap.get? b=some o->b ≠ s.heap.objs.size:=fun b o e=>Nat.ne_of_lt (Heap.lt_size e)
 have cl_lt:∀ x a,X.env.cells.lookup x=some a->a < s.heap.objs.size:=fun x a e=>by
  obtain ⟨v,o,h1,_⟩:=I.cell x a e
  exact Heap.lt_size h1
 refine ⟨⟨I.ok.mod,c.kind,I.ok.glob,I.ok.blt,Nat.le_refl _,fun x y a e1 e2=>I.ok.inj x y a (sub x a e1) (sub y a e2),fun x hx=>clOf_has hcl (kinds x hx),(fun _ _ z=>nomatch z),I.ok.hd,I.ok.frames,.inl rfl,fun b hb'=>⟨Nat.ne_of_lt (hfl b hb'),fun x a e=>(hf b hb').2.2.2.2.1 x a (sub x a e)⟩,
   I.bs,Nat.le_trans I.ok.bsz I.sz,(fun b o e hb'=>by rw [hb b hb'] at e;cases e),fun b hb' hz=>?_,I.stack,I.stkFree⟩,ho,by rw [hg];exact I.bare,Un.kept hk,⟨m,hns,fun i x v e1 e2 e3=>?_⟩,fun x a e=>?_,I.hok.fresh (Nat.le_refl _),fun x a e=>I.freeC x a (sub x a e),fun p hp=>?_,I.hok.kept hk,?_⟩
 ·rcases List.mem_cons.mp (I.stkSub b hz) with z|z
  ·exact (hf b hb').2.1 z
  ·exact (hf b hb').2.2.1 z
 ·have hi:k≤i:=by
   refine Nat.le_of_not_lt fun hi=>?_
   rw [List.getElem?_append_left (by simpa using hi)] at e2
   simp [List.getElem?_replicate,hi] at e2
  obtain ⟨j,rfl⟩:∃ j,i=k+j:=⟨i - k,by omega⟩
  rw [List.getElem?_append_right (by simp)] at e2
  have e2':σ[j]? = some (some v):=by simpa using e2
  have e:(relabel scope X.env).names.lookup x=(scope.names.lookup x).map fun k=>if (k == NameKind.free && X.env.scope.kind == .function && X.env.kindOf x == some .cell) then NameKind.cell else k:=lookup_relabel
  have hfree:scope.names.lookup x=some .free:=by
   cases q:scope.names.lookup x with
   | none=>
    rcases e3 with z|z|z
    all_goals (have z':(relabel scope X.env).names.lookup x=some _:=z;rw [e,q] at z';simp at z')
   | some j'=>
    have h1:j' ≠ .cell:=c.cell (x,j') (lookup_mem q)
    have h2:j' ≠ .local:=fun z=>c.loc j x e1 (by rw [q,z])
    rcases e3 with z|z|z
    all_goals (have z':(relabel scope X.env).names.lookup x=some _:=z;rw [e,q] at z';cases j'<;>simp_all)
  have hX:=c.sub j x e1 hfree
  have hcellX:=c.free (x,.free) (lookup_mem hfree) rfl
  obtain ⟨m0,hn0,hl0⟩:=I.loc
  obtain ⟨u,r,l⟩:=hl0 j x v hX e2' (.inr (.inl hcellX))
  refine ⟨u,r,?_⟩
  rcases l with ⟨z,_⟩|⟨_,a,ea,hz⟩
  ·have z':X.env.scope.names.lookup x=some .local:=z
   rw [hcellX] at z';cases z'
  ·obtain ⟨a',ea'⟩:=clOf_has (acc:=[]) hcl hfree
   have e4:=sub x a' ea'
   rw [ea] at e4
   cases e4
   refine .inr ⟨.inl ?_,a,ea',?_⟩
   ·show (relabel scope X.env).names.lookup x=some .cell
    rw [e,hfree]
    have k1:(X.env.scope.kind == .function)=true:=by rw [I.ok.kind];rfl
    have k2:(X.env.kindOf x == some .cell)=true:=by
     have:X.env.kindOf x=some .cell:=hcellX
     rw [this];rfl
    simp [k1,k2]
   ·obtain ⟨o,h1,h2⟩:=hz
    exact ⟨o,hk _ _ h1,h2⟩
 ·obtain ⟨v,o,h1,h2⟩:=I.cell x a (sub x a e)
  exact ⟨v,o,hk _ _ h1,h2⟩
 ·have hp':p∈X.pn++pins:=by simpa using hp
  obtain ⟨e,n,nl,nf,d⟩:=I.pin p hp'
  refine ⟨hk _ _ e,n,ne _ _ e,fun z=>?_,d⟩
  rcases List.mem_cons.mp (I.stkSub _ z) with z|z
  ·exact nl z
  ·exact nf z
 ·show (List.replicate k none++σ).length=N'.length
  rw [c.len,List.length_append,List.length_replicate,I.len]
theorem comp_block {elt iter tg:Expr}{ifs:List Expr}{scope:Scope}{pos:Pos}{g:TG}{tt:TT}{te:TE}{N':List Str}{k:Nat}{it:Addr}{J:It}{fp:List Addr}{tn:Nat->Heap->Prop}{pins:List (Addr × Obj)}{σ:St}{H:Hp}{s:Shared}{Q:VK}{RR:Value->Addr->Result->Shared->Prop}{E:Value->Shared->Prop}
  (c:CompOk X scope N' k) (hc:X.calm=true) (I:Inv X pins σ H s) (T:Turn X.prog X.w X.K tg J fp it tn) (st:tn 0 s.heap) (hf:∀ b∈fp,FpOk X pins H b)
  (hg:∀ C s₀ H₀ ex pn,PG (cCx X scope N' C s₀ H₀ ex pn) tg g) (ht:∀ C s₀ H₀ ex pn,PTs (cCx X scope N' C s₀ H₀ ex pn) ifs tt) (he:∀ C s₀ H₀ ex pn,PE (cCx X scope N' C s₀ H₀ ex pn) elt te)
  (h:∀ D,H D=none->∃ W:Nat->Nat->List V->Hp->Prop,(∃ m,W 0 m [] (upd H D (.lst [])))∧∀ i m ys H,W i m ys H →
   (J.stop i H∧Q (.ref D) H)∨(J.go i H∧∃ N:List V->Hp->Prop,(∀ ys' H',N ys' H'->∃ m',m' < m∧W (i+1) m' ys' H') ∧
    ∀ x H',J.yld i H x H'->g x (List.replicate k none++σ) H' fun σ2 H2=>(∃ vs:St,vs.length=k∧σ2=vs++σ)∧tt σ2 H2 fun b H3=>if b=true then te σ2 H3 fun y H4=>H4 D=some (.lst ys)∧ys.length < sizeLine∧N (ys++[y]) (upd H4 D (.lst (ys++[y]))) else N ys H3))
  (fin:∀ D C s' H' m,s'.heap.Ns C m->C ≠ X.env.locals->(∀ x a,X.env.cells.lookup x=some a->a ≠ C)->(H' C=none∧X.s₀.heap.objs.size≤C∧∀ p∈X.pn++pins,p.1 ≠ C)->(∀ h',Heap.SameBut C s'.heap h'->Inv X pins σ H' { s' with heap:=h' })->Q (.ref D) H'->RR (.ref D) C (.ok .next) s') :
  wpAny (model X.prog X.w) X.A (newList []) (fun acc s₃=>wpAny (model X.prog X.w) X.A (newFunctionEnv scope X.env.globals (clOf X.env.cells scope.names []) [] X.env.qual none .none (some X.env)) (fun cenv s₄=>
   codeAny (model X.prog X.w) X.A (.compStart (.ListComp elt [⟨tg,iter,ifs,0⟩] scope pos) 0 (.ref it) acc { cenv with scope:=relabel scope X.env }) (RR acc cenv.locals) s₄) E s₃) E s:=by
 refine wpAny_newObj_type (wpAny_newFunctionEnv c.cell (by intro y hy;simp at hy) (fun h₁ hns₁ hsb₁=>?_) c.kind)
 dsimp only at hns₁ hsb₁ ⊢
 have I3:Inv X pins σ (upd H s.heap.objs.size (.lst [])) { s with heap:=s.heap.push { cls:=.type "list",data:=.seq ([]:List Value).toArray },toks:=s.toks }:=I.lnew (ys:=[]) (its:=[]) .nil (Nat.zero_le _)
 generalize hH2:s.heap.push { cls:=.type "list",dict:=none,data:=.seq ([]:List Value).toArray }=hp at hns₁ hsb₁ I3 ⊢
 have hlt:∀ b o,s.heap.get? b=some o->hp.get? b=some o:=fun b o e=>by rw [←hH2];exact Heap.get?_push_of_some _ e
 have hnD:H s.heap.objs.size=none:=I.hok.fresh (Nat.le_refl _)
 have kp:∀ b o,hp.get? b=some o->h₁.get? b=some o:=fun b o e=>hsb₁.extBut b o (Nat.ne_of_lt (Heap.lt_size e)) (Heap.get?_push_of_some _ e)
 have stk:∀ b∈fp,s.heap.get? b ≠ none:=fun b hb z=>by
  obtain ⟨o,e,_⟩:=T.obj _ _ st b hb
  rw [z] at e;cases e
 have flt:∀ b∈fp,b < s.heap.objs.size:=fun b hb=>by
  obtain ⟨o,e,_⟩:=T.obj _ _ st b hb
  exact Heap.lt_size e
 have fpD:∀ b∈fp,b ≠ s.heap.objs.size:=fun b hb=>Nat.ne_of_lt (flt b hb)
 have hf3:∀ b∈fp,FpOk X pins (upd H s.heap.objs.size (.lst [])) b:=fun b hb=>by
  obtain ⟨a1,a2⟩:=hf b hb
  exact ⟨by rw [upd_ne (fpD b hb)];exact a1,a2⟩
 have hnb:∀ b∈fp,X.base.get? b=none:=fun b hb=>by
  cases e:X.base.get? b with
  | none=>rfl
  | some o=>
   rcases (hf b hb).2.2.2.1 with z|z
   ·exact absurd z (I.ok.noex b o e)
   ·have:=Heap.lt_size (I.ok.bs b o e).1
    exact absurd (Nat.lt_of_lt_of_le this z) (Nat.lt_irrefl _)
 have hsz:s.heap.objs.size < hp.objs.size:=by rw [←hH2,Heap.size_push];exact Nat.lt_succ_self _
 have IY:=inv_comp (s₄:={ s with heap:=h₁,toks:=s.toks+([]:List (Str × Value)).length }) (fp:=fp) c hc I3 hf3 (fun b hb=>Nat.lt_trans (flt b hb) hsz) hnb hns₁ kp rfl rfl
 obtain ⟨W,⟨m0,w0⟩,turn⟩:=h s.heap.objs.size hnD
 have run:=comp_loop (Y:=cCx X scope N' hp.objs.size { s with heap:=hp,toks:=s.toks } (upd H s.heap.objs.size (.lst [])) fp (X.pn++pins)) (tg:=tg) (elt:=elt) (iter:=iter) (ifs:=ifs) (scope:=scope) (pos:=pos) (it:=it) (D:=s.heap.objs.size) (k:=k) (σ:=σ) (Q:=Q)
  hc rfl (hg _ _ _ _ _) (ht _ _ _ _ _) (he _ _ _ _ _) T (fun H' hn b hb=>⟨hn b hb,Nat.ne_of_lt (Nat.lt_trans (flt b hb) hsz),fun z=>(IY.ok.exfs b hb) z,.inl hb,fun x a e=>(IY.ok.exf b hb).2 x a e,fun p hp=>by
   have hp':p∈X.pn++pins:=by simpa using hp
   exact (hf b hb).2.2.2.2.2 p hp'⟩) W turn m0
 have st₁:tn 0 h₁:=T.keep _ _ _ st fun b hb o e=>kp b o (hlt b o e)
 have go:=run { s with heap:=h₁,toks:=s.toks+([]:List (Str × Value)).length } ⟨0,[],_,IY,st₁,fun b hb=>(hf3 b hb).1,w0⟩
 have out:∀ r s',(r=Except.ok Flow.next∧∃ H',Inv (cCx X scope N' hp.objs.size { s with heap:=hp,toks:=s.toks } (upd H s.heap.objs.size (.lst [])) fp (X.pn++pins)) [] (List.replicate k none++σ) H' s'∧Q (.ref s.heap.objs.size) H')->RR (.ref s.heap.objs.size) hp.objs.size r s':=by
  rintro r s' ⟨rfl,H',J',q⟩
  obtain ⟨m,hn,_⟩:=J'.loc
  have hC:hp.objs.size ≠ X.env.locals:=Nat.ne_of_gt (Nat.lt_of_lt_of_le I.lt (Nat.le_of_lt hsz))
  refine fin _ _ s' H' m hn hC (fun x a e=>?_) ⟨J'.free,Nat.le_trans I.sz (Nat.le_of_lt hsz),fun p hp'=>Nat.ne_of_lt (Nat.lt_trans (Heap.lt_size (I.pin p hp').1) hsz)⟩ (fun h' hs'=>?_) q
  ·obtain ⟨v,o,h1,_⟩:=I.cell x a e
   exact Nat.ne_of_lt (Nat.lt_trans (Heap.lt_size h1) hsz)
  ·refine I.call' (ch:=fp) ?_ ?_ ?_ J'.bare fun b hb=>⟨(hf b hb).2.2.2.1,(hf b hb).2.1,(hf b hb).2.2.2.2.1,(hf b hb).2.2.2.2.2⟩
   ·exact J'.os
   ·have u1:Un (frs X.stack) fp H (upd H s.heap.objs.size (.lst [])) s.heap hp:=Un.laid hlt (Nat.le_refl _) hnD
    exact (u1.trans J'.base).but hs' fun b o e=>Nat.ne_of_lt (Nat.lt_trans (Heap.lt_size e) hsz)
   ·exact J'.hok.but J'.free hs'
 exact codeAny_compStart_list (codeAny_mono go out) (T.self _ 0 _ _ _ st₁ (codeAny_mono go out))
theorem pe_comp {elt iter tg:Expr}{ifs:List Expr}{scope:Scope}{pos:Pos}{wi:TI}{g:TG}{tt:TT}{te:TE}{N':List Str}{k:Nat}
  (c:CompOk X scope N' k) (hc:X.calm=true) (hi:PI X tg iter wi)
  (hg:∀ C s₀ H₀ ex pn,PG (cCx X scope N' C s₀ H₀ ex pn) tg g) (ht:∀ C s₀ H₀ ex pn,PTs (cCx X scope N' C s₀ H₀ ex pn) ifs tt) (he:∀ C s₀ H₀ ex pn,PE (cCx X scope N' C s₀ H₀ ex pn) elt te)
  (hs:∀ x,foldedSetIterable iter X.env x=pure x:=by intro _;rfl):PE X (.ListComp elt [⟨tg,iter,ifs,0⟩] scope pos) (tComp k wi g tt te):=by
 intro pins s σ H Q I h
 rw [PySem.eval_ListComp]
 refine PySem.wpAny_comprehension_free (use:=none) rfl hs (closureFor_eq (c.cells I)) c.kind c.names (thn (hi pins s σ H _ I h) fun v s1 h1=>thn h1 fun itv s2 h2=>?_)
 obtain ⟨it,fp,tn,J,H2,rfl,I2,T,st2,f2,hW⟩:=h2
 refine comp_block (RR:=fun acc C=>PySem.compPost (model X.prog X.w) X.A X.xe none (EP X pins σ Q) acc C) c hc I2 T st2 f2 hg ht he hW ?_
 intro D C s' H' m hn _ _ _ hI q
 exact ⟨m,hn,fun h' hs'=>⟨.ref D,H',hI h' hs',rfl,q⟩⟩
def tSetC (i:Nat) (te:TE):TS:=fun D σ H=>te σ H fun x H1=>D.nx (σ.set i (some x)) H1
theorem ps_setC {elt iter tg:Expr}{ifs:List Expr}{scope:Scope}{pos spos py:Pos}{wi:TI}{g:TG}{tt:TT}{te:TE}{N':List Str}{k i:Nat}{y:Str}
  (hN:X.N.Nodup) (hi':X.N[i]? = some y) (hy:Loc X.env.scope y)
  (c:CompOk X scope N' k) (hc:X.calm=true) (hi:PI X tg iter wi)
  (hg:∀ C s₀ H₀ ex pn,PG (cCx X scope N' C s₀ H₀ ex pn) tg g) (ht:∀ C s₀ H₀ ex pn,PTs (cCx X scope N' C s₀ H₀ ex pn) ifs tt) (he:∀ C s₀ H₀ ex pn,PE (cCx X scope N' C s₀ H₀ ex pn) elt te)
  (hsw:swapsWith (.ListComp elt [⟨tg,iter,ifs,0⟩] scope pos) (some (.Name y py)) spos.line X.env=pure true:=by rfl)
  (hs:∀ x,foldedSetIterable iter X.env x=pure x:=by intro _;rfl) (hf:X.fn y=true∨X.env.scope.names.lookup y=some .local:=by first|exact .inl rfl|exact .inr rfl|assumption) :
  PS X (.Assign [.Name y py] (.ListComp elt [⟨tg,iter,ifs,0⟩] scope pos) spos) (tSetC i (tComp k wi g tt te)):=by
 intro pins s σ H D I h
 rw [PySem.exec_Assign_Name_used _ _ _ _ hsw]
 refine wpAny_bind (wpAny_standAt (wpAny_bind ?_))
 show wpAny _ X.A (do let _ ←comprehension (.ListComp elt [⟨tg,iter,ifs,0⟩] scope pos) scope X.env _ (newList []) false (eval iter X.env) (some (assign (.Name y py) X.env))) _ _ s
 refine wpAny_bind (thn (PySem.wpAny_comprehension_free (use:=some (assign (.Name y py) X.env)) (Q:=fun _ s'=>SP X pins D .next s') rfl hs (closureFor_eq (c.cells I)) c.kind c.names (thn (hi pins s σ H _ I h) fun v s1 h1=>thn h1 fun itv s2 h2=>?_)) fun _ s' hq=>wpAny_pure (wpAny_pure hq))
 obtain ⟨it,fp,tn,J,H2,rfl,I2,T,st2,f2,hW⟩:=h2
 refine comp_block (Q:=fun x H1=>D.nx (σ.set i (some x)) H1) (RR:=fun acc C=>PySem.compPost (model X.prog X.w) X.A X.xe (some (assign (.Name y py) X.env)) (fun _ s'=>SP X pins D .next s') acc C) c hc I2 T st2 f2 hg ht he hW ?_
 intro D' C s' H' m hn hCl hCc hCo hI q
 show wpAny _ X.A (assign (.Name y py) X.env (.ref D')) _ _ s'
 have I':Inv X pins σ H' s':=hI s'.heap (Heap.SameBut.refl _ _)
 refine wpAny_assign_Name (store_ok2 I' hN hi' hy (show RelV (.ref D') (.ref D') from rfl) (fun s'' I'' ⟨a,sb,ha⟩=>?_) hf)
 have hCa:C ≠ a:=by
  rcases ha with rfl|ha
  ·exact hCl
  ·exact fun z=>hCc _ _ ha z.symm
 refine ⟨m,hn.sameBut sb hCa,fun h' hs'=>⟨_,H',?_,q⟩⟩
 exact I''.turned (t':=s''.toks) (fun b o hb e=>(hs'.2 b hb).trans e) hCo.1 hCl (.inr hCo.2.1) hCc hCo.2.2
end
end L2
set_option Elab.async false
set_option linter.all false
set_option maxRecDepth 100000
set_option maxHeartbeats 4000000
namespace L2
open PySem PySem.Spec PyProof.Rows
def ExcAt (h:Heap) (e:Addr) (cls:Value) (d:Option Addr) (T:Addr):Prop:=
 ∃ oe vs oT ts,h.get? e=some oe∧oe.cls=cls∧oe.dict=d∧oe.data=.fields vs∧vs[1]? = some (.ref T)∧T ≠ e∧h.get? T=some oT∧oT.data=.fields ts∧ts[3]? = some .none∧vs[2]? = some .none
def CX1 (P:Program) (w:World):CXT:=fun outer H s E ev s'=>∃ e T cls d H',ev=.ref e∧s'.os=s.os∧AllBare s'.gens∧Un (frs outer) [] H H' s.heap s'.heap∧HOk P w H' s'.heap ∧
 s.heap.get? e=none∧s.heap.get? T=none∧H' e=none∧H' T=none∧ExcAt s'.heap e cls d T∧(∀ dx,d=some dx->∃ fs,H' dx=some (.xd fs))∧E cls d H'
theorem dict_mapF (f:Array Value->Array Value) (o:Obj):(Obj.mapFields f o).dict=o.dict:=by
 unfold Obj.mapFields;split<;>rfl
structure Noted (fs:List Addr) (e:Addr) (no:Addr->Prop) (h h':Heap):Prop where
 keep:∀ b o,b ≠ e->¬ no b->b ∉ fs->h.get? b=some o->h'.get? b=some o
 slot:∀ b o,b ≠ e->¬ no b->b∈fs->h.get? b=some o->∃ sl,h'.get? b=some { o with slots:=sl }
 size:h.objs.size≤h'.objs.size
section
variable {M:Model}{A:Around}{E:Value->Shared->Prop}{s:Shared}
theorem entry1 {base:Heap}{env:Env}{outer:List Env}{L e:Addr}{oe:Obj}{vs:Array Value}{head:Value}{hadNext:Bool}{Q:Unit->Shared->Prop}
  (hfr:A.frames=some (env::outer)) (hl:s.heap.FunFrames base (env::outer)) (hf:env.frame=some L) (he:s.heap.get? e=some oe) (hd:oe.data=.fields vs) (hsz:1 < vs.size) (h2c:vs[2]? = some .none)
  (hQ:∀ h',Noted (frs (env::outer)) e (fun _=>False) s.heap h'->(∃ T oe' vs' oT ts,s.heap.get? T=none∧h'.get? e=some oe'∧oe'.cls=oe.cls∧oe'.dict=oe.dict∧oe'.data=.fields vs'∧vs'[1]? = some (.ref T)∧T ≠ e∧h'.get? T=some oT∧oT.data=.fields ts∧ts[3]? = some (rawInt L)∧vs'[2]? = some .none)->Q () { s with heap:=h' }) :
  wpAny M A (do let a ←frameOf env;let pl ←entryPlaceOf L hadNext;let b ←EntryCells.newEntry head a .none (rawInt L) .none pl;setField (.ref e) 1 b) Q E s:=by
 have efr:e ∉ frs (env::outer):=fun z=>by
  obtain ⟨_,o,q1,q2⟩:=hl.mem z
  rw [he] at q1
  cases q1
  exact q2 vs hd
 refine wpAny_bind (wpAny_frameOf_fun hfr hl hf fun g1 sg=>?_)
 refine wpAny_bind (wpAny_entryPlaceOf fun pl ipl=>?_)
 unfold EntryCells.newEntry newFields
 refine wpAny_bind (wpAny_newObj_type ?_ (ipl.sizeOk5 _ _ _ _ _))
 have e1:g1.get? e=some oe:=(sg.2.1 e efr).trans he
 generalize hnew:({ cls:=.type "traceback",dict:=none,data:=.fields ([head,.ref L,.none,rawInt L,.none]++(if pl.isEmpty then List.replicate 6 Value.none else pl)).toArray }:Obj)=oN
 have dN:oN.data=.fields ([head,.ref L,.none,rawInt L,.none]++(if pl.isEmpty then List.replicate 6 Value.none else pl)).toArray:=by rw [←hnew]
 have e2:(g1.push oN).get? e=some oe:=Heap.get?_push_of_some _ e1
 refine wpAny_setField e2 hd hsz (hQ _ ?_ ?_)
 ·have other:∀ b o,b ≠ e->g1.get? b=some o->((g1.push oN).update e (Obj.mapFields (·.setIfInBounds 1 (Value.ref g1.objs.size)))).get? b=some o:=fun b o hb q=>by
   rw [Heap.get?_update_other _ _ (Ne.symm hb)]
   exact Heap.get?_push_of_some _ q
  refine ⟨fun b o hb _ hfs q=>other b o hb ((sg.2.1 b hfs).trans q),fun b o hb _ _ q=>?_,?_⟩
  ·obtain ⟨sl,q'⟩:=sg.2.2 b o q
   exact ⟨sl,other b _ hb q'⟩
  ·have z1:g1.objs.size=s.heap.objs.size:=sg.1
   have z2:=((Heap.SameBut.update (g1.push oN) e (Obj.mapFields (·.setIfInBounds 1 (Value.ref g1.objs.size))))).1
   rw [z2,Heap.size_push]
   omega
 ·have ne:g1.objs.size ≠ e:=Nat.ne_of_gt (Heap.lt_size e1)
  have d3:=Obj.data_mapFields hd (·.setIfInBounds 1 (Value.ref g1.objs.size))
  refine ⟨g1.objs.size,_,_,oN,_,?_,Heap.get?_update_self _ e2 (Obj.isFreed_of_fields d3),Obj.cls_mapFields _ _,dict_mapF _ _,d3,by simp [hsz],ne,?_,dN,by simp,by rw [Array.getElem?_setIfInBounds_ne (by decide)];exact h2c⟩
  ·have z1:g1.objs.size=s.heap.objs.size:=sg.1
   rw [z1]
   exact Heap.get?_none_of_le (Nat.le_refl _)
  ·rw [Heap.get?_update_other _ _ (Ne.symm ne)]
   exact Heap.get?_push_size _ (Obj.isFreed_of_fields dN)
theorem flight0 {e T:Addr}{oe oT:Obj}{vs ts:Array Value}{Q:Unit->Shared->Prop}(he:s.heap.get? e=some oe) (hd:oe.data=.fields vs) (h1:vs[1]? = some (.ref T)) (hT:s.heap.get? T=some oT) (hdT:oT.data=.fields ts) (h3:3 < ts.size) (ne:T ≠ e) (h2c:vs[2]? = some .none)
  (hQ:∀ h',(∀ b,b ≠ T->h'.get? b=s.heap.get? b)->h'.objs.size=s.heap.objs.size->ExcAt h' e oe.cls oe.dict T->Q () { s with heap:=h' }):wpAny M A (setFlight (.ref e) none) Q E s:=by
 unfold setFlight
 refine wpAny_bind (wpAny_field he hd h1 ?_)
 rw [if_pos (show (Value.ref T != Value.none)=true from by simp)]
 have sb:=Heap.SameBut.update s.heap T (Obj.mapFields (·.setIfInBounds 3 ((none:Option Addr).elim Value.none fun f=>rawInt f)))
 refine wpAny_setField hT hdT h3 (hQ _ sb.2 sb.1 ?_)
 have d3:=Obj.data_mapFields hdT (·.setIfInBounds 3 ((none:Option Addr).elim Value.none fun f=>rawInt f))
 exact ⟨oe,vs,_,_,(sb.2 e (Ne.symm ne)).trans he,rfl,rfl,hd,h1,ne,Heap.get?_update_self _ hT (Obj.isFreed_of_fields d3),d3,by simp [h3],h2c⟩
theorem note_new {base:Heap}{env:Env}{outer:List Env}{L e:Addr}{oe:Obj}{vs:Array Value}{Q:Unit->Shared->Prop}
  (hfr:A.frames=some (env::outer)) (hl:s.heap.FunFrames base (env::outer)) (hf:env.frame=some L) (he:s.heap.get? e=some oe) (hd:oe.data=.fields vs) (h1:vs[1]? = some .none) (h2c:vs[2]? = some .none)
  (hQ:∀ h' T,Noted (frs (env::outer)) e (fun _=>False) s.heap h'->s.heap.get? T=none->ExcAt h' e oe.cls oe.dict T->Q () { s with heap:=h' }) :
  wpAny M A (noteFrame (.ref e) env) (fun _ s2=>wpAny M A (setFlight (.ref e) none) Q E s2) E s:=by
 unfold noteFrame
 simp only [hf]
 refine wpAny_bind (wpAny_field he hd h1 ?_)
 rw [if_neg (by decide)]
 refine entry1 hfr hl hf he hd (Array.getElem?_eq_some_iff.mp h1).1 h2c fun g ng hx=>?_
 obtain ⟨T,oe',vs',oT,ts,nT,q1,q2,q2d,q3,q4,ne,q5,q6,q7,q8⟩:=hx
 refine flight0 (s:={ s with heap:=g }) q1 q3 q4 q5 q6 (Array.getElem?_eq_some_iff.mp q7).1 ne q8 fun g' sb sz ex=>?_
 rw [q2,q2d] at ex
 have lt:∀ b o,s.heap.get? b=some o->b ≠ T:=fun b o q z=>by rw [z,nT] at q;cases q
 exact hQ g' T ⟨fun b o hb hn hfs q=>(sb b (lt b o q)).trans (ng.keep b o hb hn hfs q),fun b o hb hn hfs q=>by
  obtain ⟨sl,q'⟩:=ng.slot b o hb hn hfs q
  exact ⟨sl,(sb b (lt b o q)).trans q'⟩,Nat.le_trans ng.size (Nat.le_of_eq sz.symm)⟩ nT ex
theorem note_next {base:Heap}{env:Env}{outer:List Env}{L e T:Addr}{cls:Value}{dd:Option Addr}{Q:Unit->Shared->Prop}
  (hfr:A.frames=some (env::outer)) (hl:s.heap.FunFrames base (env::outer)) (hf:env.frame=some L) (hx:ExcAt s.heap e cls dd T) (hfe:e ∉ frs (env::outer)) (hfT:T ∉ frs (env::outer)) (hb:base.get? T=none)
  (hQ:∀ h' T',Noted (frs (env::outer)) e (fun b=>b=T) s.heap h'->s.heap.get? T'=none->ExcAt h' e cls dd T'->Q () { s with heap:=h' }) :
  wpAny M A (noteFrame (.ref e) env) (fun _ s2=>wpAny M A (setFlight (.ref e) none) Q E s2) E s:=by
 obtain ⟨oe,vs,oT,ts,he,rfl,rfl,hd,h1,ne,hT,hdT,h3,h2c⟩:=hx
 unfold noteFrame
 simp only [hf]
 refine wpAny_bind (wpAny_field he hd h1 ?_)
 rw [if_pos (show (Value.ref T != Value.none)=true from by simp)]
 refine wpAny_bind (wpAny_field hT hdT h3 ?_)
 rw [if_neg (show ¬ ((Value.none == rawInt L)=true) from by simp [rawInt])]
 have sb0:=Heap.SameBut.update s.heap T (Obj.mapFields (·.setIfInBounds 3 Value.none))
 refine wpAny_bind (wpAny_setField hT hdT (Array.getElem?_eq_some_iff.mp h3).1 ?_)
 generalize hg0:s.heap.update T (Obj.mapFields (·.setIfInBounds 3 Value.none))=g0 at sb0
 have fl:g0.FunFrames base (env::outer):=hl.of_keeps fun b o q hnf=>⟨o,(sb0.2 b (fun z=>by rw [z,hT] at q;cases q;exact hnf ts hdT)).trans q,rfl⟩
 have he0:g0.get? e=some oe:=(sb0.2 e (Ne.symm ne)).trans he
 refine entry1 (s:={ s with heap:=g0 }) hfr fl hf he0 hd (Array.getElem?_eq_some_iff.mp h1).1 h2c fun g ng hx=>?_
 obtain ⟨T',oe',vs',oT',ts',nT,q1,q2,q2d,q3,q4,ne',q5,q6,q7,q8⟩:=hx
 refine flight0 (s:={ s with heap:=g }) q1 q3 q4 q5 q6 (Array.getElem?_eq_some_iff.mp q7).1 ne' q8 fun g' sb sz ex=>?_
 rw [q2,q2d] at ex
 have tT:T ≠ T':=fun z=>by
  subst z
  have:=Heap.get?_update_self (Obj.mapFields (·.setIfInBounds 3 Value.none)) hT (Obj.isFreed_of_fields (Obj.data_mapFields hdT _))
  rw [hg0] at this
  have nT':g0.get? T=none:=nT
  rw [this] at nT'
  cases nT'
 have nT0:s.heap.get? T'=none:=(sb0.2 T' (Ne.symm tT)).symm.trans nT
 have lt:∀ b o,s.heap.get? b=some o->b ≠ T':=fun b o q z=>by rw [z,nT0] at q;cases q
 exact hQ g' T' ⟨fun b o hb hn hfs q=>(sb b (lt b o q)).trans (ng.keep b o hb (fun z=>z) hfs ((sb0.2 b hn).trans q)),fun b o hb hn hfs q=>by
  obtain ⟨sl,q'⟩:=ng.slot b o hb (fun z=>z) hfs ((sb0.2 b hn).trans q)
  exact ⟨sl,(sb b (lt b o q)).trans q'⟩,Nat.le_trans (Nat.le_of_eq sb0.1.symm) (Nat.le_trans ng.size (Nat.le_of_eq sz.symm))⟩ nT0 ex
end
theorem HOk.noted {P:Program}{w:World}{H:Hp}{h h':Heap}{fs:List Addr}{e:Addr}{no:Addr->Prop}(ok:HOk P w H h) (n:Noted fs e no h h') (he:H e=none) (hn:∀ b,no b->H b=none) (hf:∀ b∈fs,H b=none):HOk P w H h':=fun b ob q=>by
 refine (ok b ob q).stay (fun c v hc r=>n.keep c v ?_ ?_ ?_ r) (fun _ z=>z) (fun _ _ z=>z) fun _ _ z=>z
 all_goals
  rcases hc with z|z
  all_goals intro k
 ·rw [←z,k,he] at q;cases q
 ·rw [k,he] at z;cases z
 ·rw [←z,hn _ k] at q;cases q
 ·rw [hn _ k] at z;cases z
 ·rw [←z,hf _ k] at q;cases q
 ·rw [hf _ k] at z;cases z
theorem Un.noted {fs fs':List Addr}{H H':Hp}{h h1 h2:Heap}{e:Addr}{no:Addr->Prop}(u:Un fs [] H H' h h1) (n:Noted fs' e no h1 h2) (he:h.get? e=none) (hn:∀ b,no b->h.get? b=none) (hs:∀ b∈fs',b∈fs∨h.get? b=none):Un fs [] H H' h h2:=by
 have ne:∀ b o,h.get? b=some o->b ≠ e∧¬ no b:=fun b o q=>⟨fun z=>(by rw [z,he] at q;cases q),fun z=>(by rw [hn b z] at q;cases q)⟩
 have nf:∀ b o,h.get? b=some o->b ∉ fs->b ∉ fs':=fun b o q hb z=>by
  rcases hs b z with k|k
  ·exact hb k
  ·rw [k] at q;cases q
 refine ⟨fun b o q a hb hx=>n.keep b o (ne b o q).1 (ne b o q).2 (nf b o q hb) (u.keep b o q a hb hx),fun b o q a hb hx=>?_,u.free,fun b o q hx=>?_,u.tups,u.frzs,u.tbls⟩
 ·obtain ⟨sl,r⟩:=u.slot b o q a hb hx
  by_cases hb':b∈fs'
  ·obtain ⟨sl',r'⟩:=n.slot b _ (ne b o q).1 (ne b o q).2 hb' r
   exact ⟨sl',r'⟩
  ·exact ⟨sl,n.keep b _ (ne b o q).1 (ne b o q).2 hb' r⟩
 ·obtain ⟨o',r⟩:=u.there b o q hx
  by_cases hb':b∈fs'
  ·obtain ⟨sl',r'⟩:=n.slot b _ (ne b o q).1 (ne b o q).2 hb' r
   exact ⟨_,r'⟩
  ·exact ⟨_,n.keep b _ (ne b o q).1 (ne b o q).2 hb' r⟩
def PassAt (CX:CXT) (X:Cx) (E:XK) (σ:St):Prop:=∀ (pins:List (Addr × Obj)) (H:Hp) (s:Shared) (e:Value) (s':Shared),Inv X pins σ H s->CX X.stack H s E e s'->X.xe e s'
def RaisesAt (X:Cx) (E:XK) (σ:St):Prop:=∀ (pins:List (Addr × Obj)) (H:Hp) (s:Shared) (h':Heap) (e:Addr) (C:Addr) (us:List Value),Inv X pins σ H s->Heap.MadeExcOf s.heap h' e (.ref C) us->E (.ref C) none H->X.xe (.ref e) { s with heap:=h' }
theorem ObjOk.there {P:Program}{w:World}{H:Hp}{h:Heap}{a:Addr}{o:HO}(x:ObjOk P w H h a o):∃ ob,h.get? a=some ob:=by
 cases o with
 | lst xs=>obtain ⟨_,_,_,_,e⟩:=x;exact ⟨_,e⟩
 | tup xs=>obtain ⟨_,_,_,ob,e,_⟩:=x;exact ⟨ob,e⟩
 | dK kvs=>obtain ⟨_,_,_,_,ob,_,_,e,_⟩:=x;exact ⟨ob,e⟩
 | dT kvs=>obtain ⟨_,_,_,_,ob,_,_,e,_⟩:=x;exact ⟨ob,e⟩
 | set S n=>obtain ⟨ob,_,_,_,e,_⟩:=x;exact ⟨ob,e⟩
 | ins C dx fs=>obtain ⟨_,_,_,e,_⟩:=x;exact ⟨_,e⟩
 | own y=>exact x
 | xd fs=>obtain ⟨_,⟨ob,_,_,e,_⟩,_⟩:=x;exact ⟨ob,e⟩
 | rng lo hi=>obtain ⟨_,_,_,e⟩:=x;exact ⟨_,e⟩
 | frz ob u=>exact ⟨_,x.1⟩
 | tbl ps=>obtain ⟨_,_,_,_,e,_⟩:=x;exact ⟨_,e⟩
 | cod q=>obtain ⟨_,_,_,e,_⟩:=x;exact ⟨_,e⟩
 | met f y=>exact ⟨_,x⟩
 | ext φ=>exact x.2.1
theorem HOk.gone {P:Program}{w:World}{H:Hp}{h:Heap}{a:Addr}(ok:HOk P w H h) (e:h.get? a=none):H a=none:=by
 cases q:H a with
 | none=>rfl
 | some o=>
  obtain ⟨ob,z⟩:=(ok a o q).there
  rw [e] at z;cases z
theorem Un.gone {fs:List Addr}{H H':Hp}{h h1:Heap}{a:Addr}(u:Un fs [] H H' h h1) (e:h1.get? a=none):h.get? a=none:=by
 cases q:h.get? a with
 | none=>rfl
 | some o=>
  obtain ⟨o',z⟩:=u.there a o q (by simp)
  rw [e] at z;cases z
theorem raises_def {P:Program}{w:World}{K:PySem.W.Frag}{mg:Str->Option Value}{base:Heap}{N:List Str}{qual:Str}{scope:Scope}{f:Addr}{cd:Value}{A:Around}{outer:List Env}{s₀:Shared}{H₀:Hp}{E:XK}{σ:St} :
  RaisesAt (cxOf (CX1 P w) P w K mg base N qual scope f cd A outer s₀ H₀ E) E σ:=by
 intro pins H s h' e C us I hm hE
 obtain ⟨t,he,_,_⟩:=hm.there
 show wpAny (model P w) (A.deeper (envOfC qual scope s₀.heap.objs.size f cd)) (leaving (envOfC qual scope s₀.heap.objs.size f cd) (.ref e)) _ _ _
 unfold leaving
 have un:Un (frs outer) [] H₀ H s₀.heap s.heap:=I.base
 have fl:h'.FunFrames base (envOfC qual scope s₀.heap.objs.size f cd::outer):=I.stack.of_keeps fun b o q _=>⟨o,hm.keeps b o q,rfl⟩
 refine wpAny_bind (note_new (s:={ s with heap:=h' }) (base:=base) (outer:=outer) I.ok.frames fl rfl he rfl rfl rfl fun g T ng nT ex=>?_)
 have nT':s.heap.get? T=none:=by
  cases q:s.heap.get? T with
  | none=>rfl
  | some o=>
   have z:=hm.keeps T o q
   have nT2:h'.get? T=none:=nT
   rw [nT2] at z;cases z
 have u2:Un (frs outer) [] H₀ H s₀.heap h':=un.trans (Un.kept hm.keeps)
 refine ⟨e,T,.ref C,none,H,rfl,I.os,I.bare,u2.noted ng (un.gone hm.new) (fun _ z=>z.elim) (fun b hb=>?_),(I.hok.kept hm.keeps).noted ng (I.hok.gone hm.new) (fun _ z=>z.elim) I.stkFree,un.gone hm.new,un.gone nT',I.hok.gone hm.new,I.hok.gone nT',ex,(fun _ z=>nomatch z),hE⟩
 rcases List.mem_cons.mp (I.stkSub b hb) with z|z
 ·exact .inr (by rw [z];exact Heap.get?_none_of_le (Nat.le_refl _))
 ·exact .inl z
theorem passes_def {P:Program}{w:World}{K:PySem.W.Frag}{mg:Str->Option Value}{base:Heap}{N:List Str}{qual:Str}{scope:Scope}{f:Addr}{cd:Value}{A:Around}{outer:List Env}{s₀:Shared}{H₀:Hp}{E:XK} :
  Passes (CX1 P w) (cxOf (CX1 P w) P w K mg base N qual scope f cd A outer s₀ H₀ E) E:=by
 intro pins σ H s ev s' I hc
 obtain ⟨e,T,cls,dd,H',rfl,os,bare,un1,hok,ne,nT,He,HT,ex,hxd,hE⟩:=hc
 show wpAny (model P w) (A.deeper (envOfC qual scope s₀.heap.objs.size f cd)) (leaving (envOfC qual scope s₀.heap.objs.size f cd) (.ref e)) _ _ _
 unfold leaving
 have I2:Inv _ pins σ H' s':=I.call' (ch:=[]) os un1 hok bare (fun b z=>absurd z (by simp))
 have nf:∀ b,s.heap.get? b=none->b ∉ frs (envOfC qual scope s₀.heap.objs.size f cd::outer):=fun b hb z=>by
  obtain ⟨_,o,q,_⟩:=I.stack.mem z
  rw [hb] at q;cases q
 have nb:base.get? T=none:=by
  cases q:base.get? T with
  | none=>rfl
  | some o=>
   have:=I.bk T o q
   rw [nT] at this;cases this
 have fl:s'.heap.FunFrames base (envOfC qual scope s₀.heap.objs.size f cd::outer):=I2.stack
 refine wpAny_bind (note_next (base:=base) (outer:=outer) I.ok.frames fl rfl ex (nf e ne) (nf T nT) nb fun g T' ng nT' ex'=>?_)
 have un0:Un (frs outer) [] H₀ H s₀.heap s.heap:=I.base
 have un2:Un (frs outer) [] H₀ H' s₀.heap s'.heap:=I2.base
 refine ⟨e,T',cls,dd,H',rfl,I2.os,bare,un2.noted ng (un0.gone ne) (fun b z=>by rw [z];exact un0.gone nT) (fun b hb=>?_),hok.noted ng He (fun b z=>by rw [z];exact HT) I2.stkFree,un0.gone ne,un2.gone nT',He,hok.gone nT',ex',hxd,hE⟩
 rcases List.mem_cons.mp (I.stkSub b hb) with z|z
 ·exact .inr (by rw [z];exact Heap.get?_none_of_le (Nat.le_refl _))
 ·exact .inl z
section
variable {X:Cx}
def tCallX (sp:Sp) (dvs:List V) (E:St->XK) (t:TA):TE:=fun σ H Q=>t σ H fun vs H1=>sp (vs++dvs) H1 Q (E σ)
theorem pe_callX {CX:CXT}{k:Nat}{f:Addr}{fd:FuncData}{ps:List Str}{sp:Sp}{ds:List Value}{dvs:List V}{E:St->XK}{x:Str}{e:Expr}{es:List Expr}{t:TA}{p pos:Pos}
  (F:FnOk X.prog X.w X.K X.mg X.base CX k f fd ps sp) (hr:Room k X.A) (hg:Gl X x) (hm:X.mg x=some (.ref f)) (hk:PySem.W.keepIn X.K (.ref f)=true) (hb:Binds X.K fd ps ds) (hd:Vals dvs ds) (hx:∀ σ,PassAt CX X (E σ) σ)
  (ha:PA X (e::es) t) (hdb:(x == ("__debug__":Str))=false:=by decide) (he:starEach (e::es) X.env=(false,eval e X.env)::starEach es X.env:=by rfl) (hpl:(backTo pos (starEach es X.env)).any (·.1)=false:=by rfl) :
  PE X (.Call (.Name x p) (e::es) [] pos) (tCallX sp dvs E t):=by
 intro pins s σ H Q I h
 refine wpAny_Call_Name_kw (ld_glob I hg hm ?_ hdb)
 refine PySem.W.callWith_K (h₀:=X.base) I.ok.mod.kin hk (thn (ha pos pins s σ H _ I h) fun us s1 ⟨vs,H1,I1,r,q⟩=>⟨I1.kIn,?_⟩) he hpl
 have r2:Vals (vs++dvs) (us++ds):=r.append hd
 have hl:(us++ds).length=ps.length:=by rw [←r2.length];exact F.len _ _ _ _ q
 refine wpAny_call (codeAny_mono (F.run X.A X.stack s1 H1 ⟨us,[]⟩ (us++ds) (vs++dvs) Q (E σ) hr I1.env0 (hb s1 us I1.kIn hl) r2 q) fun rr s' hq=>?_)
 cases rr with
 | error ev=>exact hx σ pins H1 s1 ev s' I1 hq
 | ok fl=>
  cases fl with
  | ret u=>exact I1.after hq
  | next=>exact False.elim hq
  | brk=>exact False.elim hq
  | cont=>exact False.elim hq
set_option genInjectivity false in
structure ClsD where
 nm:Str
 q:Str
 N:Addr
 bs:List Value
 bm:List Value
 hdct:Bool
 sn:List Str
 sub:List Value
 ab:Bool
 col:Option Bool
 dd:Option Addr
 k0:Option Value
 k1:Option Value
 k2:Option Value
 k3:Option Value
 k5:Option Value
def ownIn0 (K:PySem.W.Frag) (C:Addr) (z:Option Value) (bmB:List Value) (newId:String):Bool:=match K.lookup C with
 | some ⟨.type "type",_,.cls dat,slt⟩=>(match dat.mro,slt.toList with
  | .ref C'::up,[_,_,_,_,some (.builtin n),_]=>C' == C && n == newId && !dat.hasDel && PySem.W.tailIn K bmB up && PySem.W.nsOkIn K dat.ns && PySem.W.nsIn K dat.ns "__init__" == some z
  | _,_=>false)
 | _=>false
theorem cls_op {K:PySem.W.Frag}{C:Addr}{z:Option Value}(q0:ownIn0 K C z [.type "ValueError",.type "Exception",.type "BaseException",.type "object"] "ValueError.__new__"=true) :
  ∃ c:ClsD,K.lookup C=some (excClassObj c.nm c.q C c.N c.bs c.bm c.hdct c.sn c.sub c.ab c.col c.dd c.k0 c.k1 c.k2 c.k3 c.k5 "ValueError.__new__")∧PySem.W.tailIn K [.type "ValueError",.type "Exception",.type "BaseException",.type "object"] c.bm=true∧PySem.W.nsOkIn K c.N=true∧PySem.W.nsIn K c.N "__init__"=some z:=by
 unfold ownIn0 at q0
 split at q0
 ·rename_i dd0 cdat slots0 look0
  split at q0
  ·rename_i Cx0 tl0 g0 g1 g2 g3 nw g5 em es0
   simp only [Bool.and_eq_true,beq_iff_eq,Bool.not_eq_true'] at q0<;>skip
   obtain ⟨⟨⟨⟨⟨rfl,rfl⟩,ndel⟩,tok⟩,nok⟩,noi⟩:=q0
   obtain ⟨c1,c2,c3,c4,c5,c6,c7,c8,c9,c10,c11⟩:=cdat
   dsimp only at em ndel nok noi
   subst em ndel
   obtain ⟨lst0⟩:=slots0
   have es1:lst0=[g0,g1,g2,g3,some (.builtin "ValueError.__new__"),g5]:=es0
   subst es1
   exact ⟨⟨c1,c5,c4,c2,tl0,c6,c7,c8,c9,c10,dd0,g0,g1,g2,g3,g5⟩,look0,tok,nok,noi⟩
  ·cases q0
 ·cases q0
structure OwnE (K:PySem.W.Frag) (C:Addr):Prop where
 ex:PySem.W.excIn K C [.type "ValueError",.type "Exception",.type "BaseException",.type "object"] "ValueError.__new__"=true
def tRaise (C:Addr) (E:St->XK) (t:TA):TS:=fun _ σ H=>t σ H fun vs H1=>vs.length≤sizeLine∧E σ (.ref C) none H1
theorem ps_raise {C:Addr}{x:Str}{e₀:Expr}{rest:List Expr}{np cpos pos:Pos}{t:TA}{E:St->XK}(hc:X.calm=true) (hg:Gl X x) (hmg:X.mg x=some (.ref C)) (O:OwnE X.K C) (hx:∀ σ,RaisesAt X (E σ) σ) (ha:PA X (e₀::rest) t)
  (he:starEach (e₀::rest) X.env=(false,eval e₀ X.env)::starEach rest X.env:=by rfl) (hplain:(backTo cpos (starEach rest X.env)).any (·.1)=false:=by rfl) (hdb:(x == ("__debug__":Str))=false:=by decide) :
  PS X (.Raise (some (.Call (.Name x np) (e₀::rest) [] cpos)) none pos) (tRaise C E t):=by
 intro pins s σ H D I h
 obtain ⟨c,look0,tok,nok,noi⟩:=cls_op (z:=none) O.ex
 have nsb:X.base.Ns c.N (X.base.nsMap c.N):=.of_isNs (PySem.W.isNs_of_in I.mod.kin nok)
 refine PySem.wpAny_Raise_call_subU (C:=C) (nm:=c.nm) (q:=c.q) (N:=c.N) (bs:=c.bs) (bm:=c.bm) (hdct:=c.hdct) (sn:=c.sn) (sub:=c.sub) (ab:=c.ab) (col:=c.col) (dd:=c.dd) (k0:=c.k0) (k1:=c.k1) (k2:=c.k2) (k3:=c.k3) (k5:=c.k5)
  PySem.F.excBase_ValueError (by decide +kernel) PySem.F.excBase_ValueError (mN:=X.base.nsMap c.N) ((PySem.W.tail_of_in I.kIn tok).hasType (by decide +kernel)) (I.ok.hd hc) (by rw [he];exact (Bool.false_or _).trans hplain) (PySem.W.nsMap_none_of_in I.mod.kin nok noi) (ld_glob I hg hmg ⟨rfl,?_⟩ hdb)
 have hh:=ha cpos pins s σ H _ I h
 rw [he] at hh ⊢
 exact Calls.evalArgs_plain (thn hh fun us s2 ⟨vs,H2,I2,r,hl,hE⟩=>⟨rfl,by rw [←r.length];exact hl,I2.kIn _ _ look0,nsb.keeps I2.bk,PySem.W.tail_of_in I2.kIn tok,fun h' e hm=>hx σ pins H2 s2 h' e C us I2 hm hE⟩)
abbrev Cx.mark (X:Cx) (e:Addr):Cx:={ X with A:=X.A.mark (some (.ref e)),calm:=false,xe:=fun _ _=>False }
theorem Inv.mark {pins:List (Addr × Obj)}{σ:St}{H:Hp}{s:Shared}(I:Inv X pins σ H s) (e:Addr):Inv (X.mark e) pins σ H s:=
 ⟨⟨I.ok.mod,I.ok.kind,I.ok.glob,I.ok.blt,I.ok.above,I.ok.inj,I.ok.has,I.ok.cab,(fun z=>by cases z),I.ok.frames,I.ok.stk,I.ok.exf,I.ok.bs,I.ok.bsz,I.ok.noex,I.ok.exfs,I.ok.funs,I.ok.frf⟩,I.os,I.bare,I.base,I.loc,I.cell,I.free,I.freeC,I.pin,I.hok,I.len⟩
theorem Inv.unmark {pins:List (Addr × Obj)}{σ:St}{H:Hp}{s:Shared}{e:Addr}(ok:X.Ok) (I:Inv (X.mark e) pins σ H s):Inv X pins σ H s:=
 ⟨ok,I.os,I.bare,I.base,I.loc,I.cell,I.free,I.freeC,I.pin,I.hok,I.len⟩
end
end L2
set_option Elab.async false
set_option linter.all false
set_option maxRecDepth 100000
set_option maxHeartbeats 4000000
namespace L2
open PySem PySem.Spec PyProof.Rows
structure FunX (K:PySem.W.Frag) (x qual:Str) (st:Stmt) (f:Addr) (fd:FuncData):Prop where
 ex:∃ (oc:Value) (od:Option Addr) (dV kV doc pm:Value) (an:Option Addr) (cdv ct:Value) (osl:Array (Option Value)),
  fd=PySem.W.fnOf x qual (defArgs st) (defBody st) (defScope st) dV kV doc pm an cdv ct∧K.lookup f=some ⟨oc,od,.func fd,osl⟩∧PySem.W.codeIn K cdv qual=true
 kp:PySem.W.keepIn K (.ref f)=true
section
variable {P:Program}{w:World}{K:PySem.W.Frag}{mg:Str->Option Value}{base:Heap}
theorem FunX.ok {CX:CXT}{x qual:Str}{st:Stmt}{f:Addr}{fd:FuncData}{N ps:List Str}{k:Nat}{sp:Sp}(F:FunX K x qual st f fd) (S:FnScope N ps (defScope st)) (len:∀ vs H Q E,sp vs H Q E->vs.length=ps.length)
  (hbody:∀ (cdv:Value) (A:Around) (outer:List Env) (s:Shared) (H:Hp) (vs:List V) (Q:VK) (E:XK),Room k (A.deeper (envOfC qual (defScope st) s.heap.objs.size f cdv))->sp vs H Q E →
   ∃ t,PSs (cxOf CX P w K mg base N qual (defScope st) f cdv A outer s H E) (defBody st) t∧t { nx:=fun _ H'=>Q .non H',rt:=Q } (start N vs) H):FnOk P w K mg base CX (k+1) f fd ps sp:=by
 obtain ⟨oc,od,dV,kV,doc,pm,an,cdv,ct,osl,rfl,lk,hcd⟩:=F.ex
 exact fn_of lk hcd S len fun A outer s H vs Q E hr hsp=>hbody cdv A outer s H vs Q E hr hsp
theorem funX_mk {x qual:Str}{st:Stmt}{f:Addr}{oc:Value}{od an:Option Addr}{osl:Array (Option Value)}{dV kV doc pm cdv ct:Value}(l:K.lookup f=some ⟨oc,od,.func (PySem.W.fnOf x qual (defArgs st) (defBody st) (defScope st) dV kV doc pm an cdv ct),osl⟩)
  (c:PySem.W.codeIn K cdv qual=true) (k:PySem.W.keepIn K (.ref f)=true):FunX K x qual st f (PySem.W.fnOf x qual (defArgs st) (defBody st) (defScope st) dV kV doc pm an cdv ct):=⟨⟨oc,od,dV,kV,doc,pm,an,cdv,ct,osl,rfl,l,c⟩,k⟩
end
end L2
set_option Elab.async false
set_option linter.all false
set_option maxRecDepth 100000
set_option maxHeartbeats 4000000
namespace L2
open PySem PySem.Spec PyProof.Rows PySem.W
structure ECls (K:PySem.W.Frag) (C:Addr):Prop where
 ga:PySem.W.findIn K (.ref C) "__getattribute__"=some (some (.builtin "BaseException.__getattribute__"))
 no:PySem.W.findIn K (.ref C) "__getattr__"=some none
 mb:PySem.W.mroIn K C (.type "BaseException")=some true
 mo:PySem.W.mroIn K C (.type "object")=some true
 cl:PySem.W.findIn K (.ref C) "__class__"=some (some (.builtin "object.__class__"))
 sp:PySem.W.specialIn K (.builtin "object.__class__") "__get__"=some (some (.builtin "getset_descriptor.__get__"))
 tk:PySem.W.takesIn K (.builtin "object.__class__")=some true
 hd:PySem.W.hasDictIn K C=true
section
variable {prog:Program}{w:World}{A:Around}{E:Value->Shared->Prop}{s:Shared}{K:PySem.W.Frag}{x C:Addr}{ox:Obj}{od:Option Obj}{name:Str}
theorem exc_check {M:Model}{nameV:Value}{Q:Unit->Shared->Prop}(c:ECls K C) (X:K.In s.heap) (I:InstAt s.heap x ox C od) (hq:Q () s):wpAny M A (checkBuiltinCall "BaseException.__getattribute__" ⟨[.ref x,nameV],[]⟩) Q E s:=by
 have hk:builtinKind "BaseException.__getattribute__"=some .slot:=by decide +kernel
 have hsplit:splitId "BaseException.__getattribute__"=some ("BaseException", "__getattribute__"):=by decide +kernel
 have ha:=F.args_bexc_ga (.ref x) nameV
 have L0:=I.type (M:=M)
 have L1:=looks_mroIn (M:=M) X c.mb
 obtain ⟨hh,g,d,t,os⟩:=s
 simp only [checkBuiltinCall,hk,hsplit]
 have LI:Looks M hh (isInstance (.ref x) (.type "BaseException")) true:=L0.andThen L1
 refine wpAny_bind (LI.at ?_)
 first|exact hq|exact wpAny_pure hq|(simp only [Bool.not_true,Bool.false_eq_true,if_false];exact hq)
def FinP (M:Model) (A:Around) (P:Value->Shared->Prop) (fin:PySem.Fin) (s:Shared):Prop:=match fin with
 | .done (.ret v)=>P v s
 | .again c=>c.quiet=true∧codeAny M A c (fun r s'=>match r with | .ok (.ret v)=>P v s'|_=>False) s
 | _=>False
theorem exc_get? {Q:Option Value->Shared->Prop}(c:ECls K C) (X:K.In s.heap) (I:InstAt s.heap x ox C od)
  (h:∀ A':Around,wpAny (model prog w) A' (Builtin.«object.__getattribute__» ⟨[.ref x,.str name s.toks],[]⟩) (FinP (model prog w) A fun v s'=>wpAny (model prog w) A (handedOut v) (fun v s''=>Q (some v) s'') (fun _ _=>False) s') (fun _ _=>False) { s with toks:=s.toks+1 }) :
  wpAny (model prog w) A (getAttr? (.ref x) name) Q E s:=by
 obtain ⟨hh,g,d,t,os⟩:=s
 have L0:=I.type (M:=model prog w)
 have L1:=looks_findIn (M:=model prog w) X c.ga
 have L2:=looks_findIn (M:=model prog w) X c.no
 unfold getAttr? getAttrBy? getAttrBy
 refine wpAny_bind (wpAny_mkText (wpAny_bind (wpAny_attempt (wpAny_holding (wpAny_bind (L0.at (wpAny_bind (L1.at ?_))))))))
 show wpAny _ _ (getAttrByItsOwn _ _ _ _ _ _) _ _ _
 unfold getAttrByItsOwn
 show wpAny _ _ (do let before ←typeLookup (.ref C) "__getattr__";_) _ _ _
 refine wpAny_bind (L2.at (wpAny_bind (wpAny_attempt (wpAny_holding ?_))))
 unfold callGetattribute
 rw [if_neg (by simp)]
 unfold boundAndCalled
 rw [F.attr_ValueError.ga.bind (.ref x)]
 refine wpAny_bind (wpAny_pure (wpAny_call (codeAny_call_builtin F.attr_ValueError.ga.plain F.entry_bexc_ga (exc_check c X I ?_))))
 have fin1:∀ v s',wpAny (model prog w) A (handedOut v) (fun v s''=>Q (some v) s'') (fun _ _=>False) s'->wpAny (model prog w) A (handedOut v) (fun a s'=>wpAny (model prog w) A (pure (some a)) Q E s') (fun e s'=>wpAny (model prog w) A (do if ←isInstance e (.type "AttributeError") then pure none else throw e) Q E s') s':=fun v s' z=>wpAny_mono z (fun _ _ q=>wpAny_pure q) fun _ _ q=>q.elim
 refine wpAny_mono (h _) (fun fin s' z=>?_) fun _ _ z=>z.elim
 cases fin with
 | done f=>cases f with
  | ret v=>exact fin1 v s' z
  | _=>exact z.elim
 | again c'=>
  obtain ⟨z1,z2⟩:=z
  refine ⟨z1,codeAny_mono z2 fun r s'' q=>?_⟩
  cases r with
  | error e=>exact q.elim
  | ok f=>cases f with
   | ret v=>exact fin1 v s'' q
   | _=>exact q.elim
theorem findObj_data' {a g:Value}(hc:(clsIn K C).isSome=true) (ha:findIn K (.ref C) name=some (some a)) (hg:specialIn K a "__get__"=some (some g)) (ht:takesIn K a=some true):findObj K C od name=some (.bind g a):=by
 obtain ⟨cd,hc⟩:=Option.isSome_iff_exists.mp hc
 unfold findObj
 rw [hc,Option.bind_some,ha,Option.bind_some]
 simp [hg,ht]
theorem ECls.some (c:ECls K C):(clsIn K C).isSome=true:=by
 obtain ⟨cd,hc,_⟩:=any_some c.hd
 rw [hc];rfl
theorem exc_class {Q:Option Value->Shared->Prop}(c:ECls K C) (X:K.In s.heap) (I:InstAt s.heap x ox C od) (hq:Q (some (.ref C)) { s with toks:=s.toks+1 }):wpAny (model prog w) A (getAttr? (.ref x) "__class__") Q E s:=by
 have hf:findObj K C od "__class__"=some (.bind (.builtin "getset_descriptor.__get__") (.builtin "object.__class__")):=findObj_data' c.some c.cl c.sp c.tk
 refine exc_get? c X I fun A'=>?_
 have L0:=I.type (M:=model prog w)
 have L1:=looks_find (M:=model prog w) X I hf
 have cg:∀ {A:Around} {R:Result->Shared->Prop},R (.ok (.ret (.ref C))) { s with toks:=s.toks+1 }->codeAny (model prog w) A (.call (.builtin "getset_descriptor.__get__") ⟨[.builtin "object.__class__",.ref x,.ref C],[]⟩) R { s with toks:=s.toks+1 }:=fun h=>class_get (s:={ s with toks:=s.toks+1 }) (ox:=ox) (od:=od) X I c.mo h
 obtain ⟨hh,gg,d,t,os⟩:=s
 refine wpAny_bind (wpAny_pure (wpAny_bind (wpAny_pure (wpAny_bind (L0.at (wpAny_bind (L1.at ?_)))))))
 show wpAny _ _ (do ret (←holding [.builtin "object.__class__"] (call (.builtin "getset_descriptor.__get__") [.builtin "object.__class__",.ref x,.ref C]))) _ _ _
 exact wpAny_bind (wpAny_holding (wpAny_call (cg (wpAny_pure (show FinP _ _ _ (.done (.ret (.ref C))) _ from handed_on rfl hq)))))
theorem kitx_exc (c:ECls K C):KitX K (.ref x) (.ref C) (fun h=>InstAt h x ox C od) where
 ty:=fun _ _ _ I=>I.type
 it:=fun _ _ X _=>by
  obtain ⟨cdD,hcD,_⟩:=any_some c.hd
  unfold clsIn at hcD
  split at hcD
  ·rename_i c' d' cd' sl' ho
   intro A' Q' E' s' k q
   unfold isType loadHead
   exact wpAny_bind (wpAny_loadPart (k _ _ (X _ _ ho)) (wpAny_pure q))
  ·cases hcD
 ne:=fun h tp dd its n sl X htp=>by
  obtain ⟨cdD,hcD,_⟩:=any_some c.hd
  refine Bool.eq_false_iff.mpr fun q=>?_
  have e:C=tp:=Value.ref.inj (beq_iff_eq.mp q)
  subst e
  unfold clsIn at hcD
  split at hcD
  ·rename_i c' d' cd' sl' ho
   have z:=(X _ _ ho).symm.trans htp
   cases z
  ·cases hcD
 ca:=fun X I k=>exc_class c X I k
end
end L2
set_option Elab.async false
set_option linter.all false
set_option maxRecDepth 100000
set_option maxHeartbeats 4000000
namespace L2
open PySem PySem.Spec PyProof.Rows
def excO (oe:Obj):HO:=.frz oe (.ext fun _=>True)
structure NewAt (X:Cx) (pins:List (Addr × Obj)) (e:Addr):Prop where
 s0:X.s₀.heap.get? e=none
 loc:e ≠ X.env.locals
 cel:∀ x c,X.env.cells.lookup x=some c->c ≠ e
 fs:e ∉ X.fs
 pin:∀ p∈X.pn++pins,p.1 ≠ e
section
variable {X:Cx}
theorem NewAt.of {pins:List (Addr × Obj)}{σ:St}{H:Hp}{s:Shared}{e:Addr}(I:Inv X pins σ H s) (hx:X.ex=[]) (h:s.heap.get? e=none):NewAt X pins e where
 s0:=by
  cases q:X.s₀.heap.get? e with
  | none=>rfl
  | some o=>
   obtain ⟨o',z⟩:=I.base.there e o q (by rw [hx];simp)
   rw [h] at z;cases z
 loc:=fun z=>by
  obtain ⟨m,⟨o,_,_,q,_⟩,_⟩:=I.loc
  rw [←z,h] at q;cases q
 cel:=fun x c q z=>by
  obtain ⟨v,o,r,_⟩:=I.cell x c q
  rw [z,h] at r;cases r
 fs:=fun z=>by
  obtain ⟨_,o,q,_⟩:=I.funs.mem z
  rw [h] at q;cases q
 pin:=fun p hp z=>by
  have q:=(I.pin p hp).1
  rw [z,h] at q;cases q
theorem Inv.track {pins:List (Addr × Obj)}{σ:St}{H:Hp}{s:Shared}{e:Addr}{oe:Obj}(I:Inv X pins σ H s) (N:NewAt X pins e) (he:s.heap.get? e=some oe) (hn:H e=none):Inv X pins σ (upd H e (excO oe)) s:=by
 have ne:∀ {b:Addr} {o:HO},H b=some o->b ≠ e:=fun q z=>by rw [z,hn] at q;cases q
 refine ⟨I.ok,I.os,I.bare,⟨I.base.keep,I.base.slot,fun b o q n hx=>?_,I.base.there,fun b xs q=>?_,fun b o u q=>?_,fun b ps q=>?_⟩,I.loc,I.cell,?_,fun x c q=>?_,fun p hp=>?_,fun b o q=>?_,I.len⟩
 ·rw [upd_ne (fun z=>by rw [z,N.s0] at q;cases q)];exact I.base.free b o q n hx
 ·have z:=I.base.tups b xs q;rw [upd_ne (ne z)];exact z
 ·have z:=I.base.frzs b o u q;rw [upd_ne (ne z)];exact z
 ·obtain ⟨m,z⟩:=I.base.tbls b ps q;exact ⟨m,by rw [upd_ne (ne z)];exact z⟩
 ·rw [upd_ne (Ne.symm N.loc)];exact I.free
 ·rw [upd_ne (N.cel x c q)];exact I.freeC x c q
 ·obtain ⟨a,b,c,d,f⟩:=I.pin p hp
  exact ⟨a,by rw [upd_ne (N.pin p hp)];exact b,c,d,f⟩
 ·by_cases hb:b=e
  ·subst hb
   rw [upd_same] at q
   cases q
   exact ⟨he,trivial,⟨oe,he⟩,fun _ _ _ _=>trivial⟩
  ·rw [upd_ne hb] at q
   exact (I.hok b o q).stay (fun _ _ _ r=>r) (fun c r=>by rw [upd_ne (ne r)];exact r) (fun c y r=>by rw [upd_ne (ne r)];exact r) fun c xs r=>by rw [upd_ne (ne r)];exact r
def PHs (X:Cx) (hs:List ExceptHandler) (th:Value->Option Addr->TS):Prop:=
 ∀ (pins:List (Addr × Obj)) (s:Shared) (σ:St) (H:Hp) (D:Ends) (e T:Addr) (cls:Value) (d:Option Addr),Inv X pins σ H s->NewAt X pins e->H e=none->ExcAt s.heap e cls d T->th cls d D σ H->wpAny (model X.prog X.w) X.A (handleBy (.ref e) X.env hs) (SP X pins D) X.xe s
theorem flight1 {M:Model}{A:Around}{E:Value->Shared->Prop}{s:Shared}{e T:Addr}{cls:Value}{d:Option Addr}{Q:Unit->Shared->Prop}(x:ExcAt s.heap e cls d T) (hQ:∀ h',(∀ b o,s.heap.get? b=some o->h'.get? b=some o)->Q () { s with heap:=h' }) :
  wpAny M A (setFlight (.ref e) none) Q E s:=by
 obtain ⟨oe,vs,oT,ts,he,rfl,rfl,hd,h1,ne,hT,hdT,h3,h2c⟩:=x
 unfold setFlight
 refine wpAny_bind (wpAny_field he hd h1 ?_)
 rw [if_pos (show (Value.ref T != Value.none)=true from by simp)]
 refine wpAny_setField hT hdT (Array.getElem?_eq_some_iff.mp h3).1 (hQ _ fun b o q=>?_)
 by_cases hb:b=T
 ·subst hb
  rw [hT] at q;cases q
  have same:Obj.mapFields (·.setIfInBounds 3 ((none:Option Addr).elim Value.none fun f=>rawInt f)) oT=oT:=by
   obtain ⟨c,d,dat,sl⟩:=oT
   cases hdT
   have e3:ts.setIfInBounds 3 ((none:Option Addr).elim Value.none fun f=>rawInt f)=ts:=by
    apply Array.ext_getElem?
    intro i
    by_cases hi:i=3
    ·subst hi
     obtain ⟨hlt,hv⟩:=Array.getElem?_eq_some_iff.mp h3
     simp [Array.getElem?_setIfInBounds,hlt,hv]
    ·rw [Array.getElem?_setIfInBounds_ne (Ne.symm hi)]
   show (⟨c,d,.fields (ts.setIfInBounds 3 ((none:Option Addr).elim Value.none fun f=>rawInt f)),sl⟩:Obj)=_
   rw [e3]
  have:=Heap.get?_update_self (Obj.mapFields (·.setIfInBounds 3 ((none:Option Addr).elim Value.none fun f=>rawInt f))) hT (Obj.isFreed_of_fields (Obj.data_mapFields hdT _))
  rw [same] at this
  exact this
 ·rw [Heap.get?_update_other _ _ (Ne.symm hb)]
  exact q
def tLost:Value->Option Addr->TS:=fun _ _ _ _ _=>False
theorem phs_nil:PHs X [] tLost:=fun _ _ _ _ _ _ _ _ _ _ _ _ _ h=>h.elim
theorem SP.unmark {pins:List (Addr × Obj)}{D:Ends}{f:Flow}{s2:Shared}{e:Addr}(ok:X.Ok) (q:SP (X.mark e) pins D f s2):SP X pins D f s2:=by
 cases f with
 | next=>obtain ⟨σ',H',J,q⟩:=q;exact ⟨σ',H',J.unmark ok,q⟩
 | brk=>obtain ⟨σ',H',J,q⟩:=q;exact ⟨σ',H',J.unmark ok,q⟩
 | cont=>obtain ⟨σ',H',J,q⟩:=q;exact ⟨σ',H',J.unmark ok,q⟩
 | ret u=>obtain ⟨v,σ',H',J,r,q⟩:=q;exact ⟨v,σ',H',J.unmark ok,r,q⟩
theorem exc_ty {M:Model}{h:Heap}{e T:Addr}{cls:Value}{d:Option Addr}(ex:ExcAt h e cls d T):PySem.W.Looks M h (typeOf (.ref e)) cls:=by
 obtain ⟨oe,vs,oT,ts,he,rfl,_⟩:=ex
 exact (PySem.W.Looks.ld he).andThen .now
def gDel (i:Nat):St->Hp->(St->Hp->Prop)->Prop:=fun σ H Q=>Q (σ.set i none) H
def kDel (i:Nat) (nx:St->Hp->Prop):St->Hp->Prop:=fun σ H=>gDel i σ H nx
def Ends.del (i:Nat) (D:Ends):Ends:=⟨kDel i D.nx,D.rt,kDel i D.bk,kDel i D.ct⟩
theorem gone_ok {M:Model}{A:Around}{E:Value->Shared->Prop}{pins:List (Addr × Obj)}{σ:St}{H:Hp}{s:Shared}{i:Nat}{x:Str}{pos:Pos}{Q:Unit->Shared->Prop}(I:Inv X pins σ H s) (hi:X.N[i]? = some x) (hk:X.env.scope.names.lookup x=some .local) (hN:X.N.Nodup)
  (h:∀ s',Inv X pins (σ.set i none) H s'->Q () s'):wpAny M A (do bindName X.env x .none;unbindBehindTheSuite X.env x pos) Q E s:=by
 obtain ⟨m,hn,hl⟩:=id I.loc
 have hcls:(X.env.scope.kind == .class || (X.env.scope.kind == .module && X.env.locals != X.env.globals))=false:=by rw [I.ok.kind];rfl
 have cne:=I.cne
 refine PySem.wpAny_nameGoes_keeps hk hn hcls fun h' v hn' hs=>?_
 obtain ⟨oL,_,_,hoL,_⟩:=id hn
 refine h _ ⟨I.ok,I.os,I.bare,⟨fun b o e n hb hx=>?_,fun b o e n hb hx=>?_,I.base.free,fun b o e hx=>?_,I.base.tups,I.base.frzs,I.base.tbls⟩,⟨_,hn',fun j y v' e1 e2 e3=>?_⟩,fun y c e=>?_,I.free,I.freeC,fun p hp=>?_,fun b ob e=>?_,by simpa using I.len⟩
 ·exact (hs.2 b (Nat.ne_of_lt (Nat.lt_of_lt_of_le (Heap.lt_size e) I.ok.above))).trans (I.base.keep b o e n hb hx)
 ·obtain ⟨sl,e1⟩:=I.base.slot b o e n hb hx
  exact ⟨sl,(hs.2 b (Nat.ne_of_lt (Nat.lt_of_lt_of_le (Heap.lt_size e) I.ok.above))).trans e1⟩
 ·obtain ⟨o',e1⟩:=I.base.there b o e hx
  exact ⟨o',(hs.2 b (Nat.ne_of_lt (Nat.lt_of_lt_of_le (Heap.lt_size e) I.ok.above))).trans e1⟩
 ·have hj:j ≠ i:=by
   rintro rfl
   by_cases hlt:j < σ.length
   ·rw [List.getElem?_set_self hlt] at e2;cases e2
   ·rw [List.getElem?_eq_none (by simpa using Nat.le_of_not_lt hlt)] at e2;cases e2
  rw [List.getElem?_set_ne (Ne.symm hj)] at e2
  obtain ⟨u',r',q⟩:=hl j y v' e1 e2 e3
  refine ⟨u',r',?_⟩
  rcases q with ⟨k,e⟩|⟨k,c,e,z⟩
  ·refine .inl ⟨k,?_⟩
   have:y ≠ x:=fun e=>hj (nodup_ix hN e1 (e ▸ hi))
   simp [this,e]
  ·exact .inr ⟨k,c,e,z.sameBut hs (cne y c e)⟩
 ·obtain ⟨w',z⟩:=I.cell y c e
  exact ⟨w',z.sameBut hs (cne y c e)⟩
 ·obtain ⟨e,n,ne,nf,d⟩:=I.pin p hp
  exact ⟨(hs.2 p.1 ne).trans e,n,ne,nf,d⟩
 ·refine (I.hok b ob e).stay (fun c w' hc q=>(hs.2 c ?_).trans q) (fun _ q=>q) (fun _ _ q=>q) fun _ _ q=>q
  rintro rfl
  rcases hc with rfl|hc
  ·rw [I.free] at e;cases e
  ·rw [I.free] at hc;cases hc
def tExcAs (K:PySem.W.Frag) (C:Value) (i:Nat) (tb:TS) (tr:Value->Option Addr->TS):Value->Option Addr->TS:=fun cls d D σ H=>∃ b,PySem.W.exmOne K cls C=some b ∧
 if b=true then ∀ (e:Addr) (oe:Obj),H e=none->oe.cls=cls->oe.dict=d->(∃ vs,oe.data=.fields vs)->tb (D.del i) (σ.set i (some (.ref e))) (upd H e (excO oe)) else tr cls d D σ H
theorem phs_as {x n:Str}{i:Nat}{np pos:Pos}{b₀:Stmt}{body:List Stmt}{rest:List ExceptHandler}{C:Value}{tb:TS}{tr:Value->Option Addr->TS}(hN:X.N.Nodup) (hi:X.N[i]? = some n) (hk:X.env.scope.names.lookup n=some .local) (hg:Gl X x) (hm:X.mg x=some C∨(X.mg x=none∧bootBuiltins x=some C∧x ≠ "__name__")) (hb:∀ e,PSs (X.mark e) (b₀::body) tb) (hr:PHs X rest tr)
  (hdb:(x == ("__debug__":Str))=false:=by decide):PHs X (.ExceptHandler (some (.Name x np)) (some n) (b₀::body) pos::rest) (tExcAs X.K C i tb tr):=by
 intro pins s σ H D e T cls d I N hn ex h
 obtain ⟨b,hx,h⟩:=h
 have Im:=I.mark e
 have ld:∀ {Q:Value->Shared->Prop} {E:Value->Shared->Prop},Q C s->wpAny (model X.prog X.w) (X.A.mark (some (.ref e))) (eval (.Name x np) X.env) Q E s:=fun {Q E} q=>by
  rcases hm with z|⟨z1,z2,z3⟩
  ·exact ld_glob (X:=X.mark e) Im hg z q hdb
  ·exact ld_blt (X:=X.mark e) Im hg z1 z2 q z3 hdb
 refine PySem.wpAny_handleBy_cons (PySem.codeAny_handlers_test (ld ((PySem.W.exm_one I.kIn (exc_ty ex) hx).here ?_))) (by intro q;cases q)
 cases b with
 | false=>
  rw [if_neg Bool.false_ne_true] at h
  exact hr pins s σ H D e T cls d I N hn ex h
 | true=>
  rw [if_pos rfl] at h
  refine PySem.codeAny_handlers_suite_as (flight1 ex fun h' kp=>?_)
  obtain ⟨oe,vs,oT,ts,he,hc,hd,hdat,_⟩:=ex
  have N':NewAt (X.mark e) pins e:=⟨N.s0,N.loc,N.cel,N.fs,N.pin⟩
  have I':Inv (X.mark e) pins σ (upd H e (excO oe)) { s with heap:=h' }:=(Im.kept (t':=s.toks) kp).track N' (kp _ _ he) hn
  refine store_ok (X:=X.mark e) I' hN hi (.inl hk) (show RelV (.ref e) (.ref e) from rfl) (fun s1 I1=>?_) (.inr hk)
  refine wpAny_mono (hb e pins s1 _ _ (D.del i) I1 (h e oe hn hc hd ⟨vs,hdat⟩)) (fun f s2 q=>?_) fun _ _ z=>z.elim
  show wpAny _ X.A _ _ _ s2
  have q':=SP.unmark I.ok q
  cases f with
  | next=>obtain ⟨σ',H',J,q⟩:=q';exact gone_ok J hi hk hN fun s3 J3=>⟨_,H',J3,q⟩
  | brk=>obtain ⟨σ',H',J,q⟩:=q';exact gone_ok J hi hk hN fun s3 J3=>⟨_,H',J3,q⟩
  | cont=>obtain ⟨σ',H',J,q⟩:=q';exact gone_ok J hi hk hN fun s3 J3=>⟨_,H',J3,q⟩
  | ret u=>obtain ⟨v,σ',H',J,r,q⟩:=q';exact gone_ok J hi hk hN fun s3 J3=>⟨v,_,H',J3,r,q⟩
def tTry (tb:(St->XK)->TS) (th:Value->Option Addr->TS):TS:=fun D σ H=>tb (fun σ' cls d H'=>th cls d D σ' H') D σ H
abbrev Cx.tried (X:Cx) (E:Value->Shared->Prop) (pn:List (Addr × Obj)):Cx:={ X with xe:=E,pn:=pn }
theorem ps_try {body:List Stmt}{h₀:ExceptHandler}{hs:List ExceptHandler}{pos:Pos}{tb:(St->XK)->TS}{th:Value->Option Addr->TS}(hstk:X.stack=X.env::X.outer∧X.env.frame=some X.env.locals∧X.ex=[])
  (hb:∀ (EX:St->XK) (E:Value->Shared->Prop) (pn:List (Addr × Obj)),(∀ σ,PassAt (CX1 X.prog X.w) (X.tried E pn) (EX σ) σ)->PSs (X.tried E pn) body (tb EX)) (hh:PHs X (h₀::hs) th) :
  PS X (.Try body (h₀::hs) [] [] pos) (tTry tb th):=by
 intro pins s σ H D I h
 refine PySem.wpAny_Try_except ?_
 have okT:∀ E pn,(X.tried E pn).Ok:=fun E pn=>⟨I.ok.mod,I.ok.kind,I.ok.glob,I.ok.blt,I.ok.above,I.ok.inj,I.ok.has,I.ok.cab,I.ok.hd,I.ok.frames,I.ok.stk,I.ok.exf,I.ok.bs,I.ok.bsz,I.ok.noex,I.ok.exfs,I.ok.funs,I.ok.frf⟩
 have back:∀ {E:Value->Shared->Prop} {pins':List (Addr × Obj)} {σ':St} {H':Hp} {s':Shared},Inv (X.tried E (X.pn++pins)) pins' σ' H' s'->Inv X pins σ' H' s':=fun {E pins' σ' H' s'} J=>
  ⟨I.ok,J.os,J.bare,J.base,J.loc,J.cell,J.free,J.freeC,fun p hp=>J.pin p (List.mem_append_left _ hp),J.hok,J.len⟩
 have I0:∀ E,Inv (X.tried E (X.pn++pins)) [] σ H s:=fun E=>⟨okT E _,I.os,I.bare,I.base,I.loc,I.cell,I.free,I.freeC,fun p hp=>I.pin p (by simpa using hp),I.hok,I.len⟩
 refine thn (hb (fun σ' cls d H'=>th cls d D σ' H') _ (X.pn++pins) ?_ [] s σ H D (I0 _) h) fun f s1 q=>?_
 ·intro σ1 pins1 H1 s1 ev s2 I1 hc
  obtain ⟨e,T,cls,dd,H',rfl,os,bare,un1,hok,ne,nT,He,HT,ex,hxd,hE⟩:=hc
  have I2:=I1.call' (ch:=[]) os un1 hok bare (fun b z=>absurd z (by simp))
  have nf:∀ b,s1.heap.get? b=none->b ∉ frs (X.env::X.outer):=fun b hb z=>by
   have st:=I1.stack
   have st':s1.heap.FunFrames X.base (X.env::X.outer):=by rw [←hstk.1];exact st
   obtain ⟨_,o,q,_⟩:=st'.mem z
   rw [hb] at q;cases q
  have nb:X.base.get? T=none:=by
   cases q:X.base.get? T with
   | none=>rfl
   | some o=>
    have:=I1.bk T o q
    rw [nT] at this;cases this
  have fl:s2.heap.FunFrames X.base (X.env::X.outer):=by rw [←hstk.1];exact I2.stack
  have fr:X.A.frames=some (X.env::X.outer):=by rw [←hstk.1];exact I.ok.frames
  refine note_next (base:=X.base) (outer:=X.outer) fr fl hstk.2.1 ex (nf e ne) (nf T nT) nb fun g T' ng nT' ex'=>?_
  have fs:∀ b∈frs (X.env::X.outer),b∈frs X.stack:=fun b hb=>by rw [hstk.1];exact hb
  have I3:=I1.call' (s':={ s2 with heap:=g }) (ch:=[]) os (un1.noted ng ne (fun b z=>by rw [z];exact nT) fun b hb=>.inl (fs b hb)) (hok.noted ng He (fun b z=>by rw [z];exact HT) fun b hb=>I2.stkFree b (fs b hb)) bare (fun b z=>absurd z (by simp))
  exact hh pins _ σ1 H' D e T' cls dd (back I3) (NewAt.of (back I1) hstk.2.2 ne) He ex' hE
 ·cases f with
  | next=>obtain ⟨σ',H',J,q⟩:=q;exact wpAny_execs_nil ⟨σ',H',back J,q⟩
  | brk=>obtain ⟨σ',H',J,q⟩:=q;exact ⟨σ',H',back J,q⟩
  | cont=>obtain ⟨σ',H',J,q⟩:=q;exact ⟨σ',H',back J,q⟩
  | ret u=>obtain ⟨v,σ',H',J,r,q⟩:=q;exact ⟨v,σ',H',back J,r,q⟩
def kXd:HO->Prop:=fun o=>match o with
 | .xd _=>True
 | _=>False
def dictO (H:Hp):Option Addr->Prop
 | none=>True
 | some dx=>∃ o,H dx=some o∧kXd o
theorem call_isiE:CallR X (.builtin "isinstance") (fun xs H Q=>∃ e oe C D b,xs=[.ref e,D]∧(∃ u,H e=some (.frz oe u))∧oe.cls=.ref C∧dictO H oe.dict∧(∃ vs,oe.data=.fields vs)∧ECls X.K C∧(∃ u,RelV D u∧PySem.W.kitOne X.K (.ref C) u=some b)∧Q (.bl b) H):=by
 intro pins s σ H xs us Q I r h
 obtain ⟨e,oe,C,D,b,rfl,⟨uu,hH⟩,hc,hd,⟨vs,hv⟩,ec,⟨u,ru,hk⟩,q⟩:=h
 obtain ⟨u1,u2,rfl,r1,r2⟩:=vals2 r
 cases (show u1=Value.ref e from r1)
 have hu:u2=u:=by
  cases D with
  | ref a=>exact (show u2=Value.ref a from r2).trans (show u=Value.ref a from ru).symm
  | ty n=>exact (show u2=Value.type n from r2).trans (show u=Value.type n from ru).symm
  | non=>exact (show u2=Value.none from r2).trans (show u=Value.none from ru).symm
  | bl b'=>exact (show u2=Value.bool b' from r2).trans (show u=Value.bool b' from ru).symm
  | int i=>obtain ⟨t,rfl⟩:=ru;simp [PySem.W.kitOne,PySem.W.kitCls] at hk
  | str i=>obtain ⟨t,rfl⟩:=ru;simp [PySem.W.kitOne,PySem.W.kitCls] at hk
  | byt i=>obtain ⟨t,rfl⟩:=ru;simp [PySem.W.kitOne,PySem.W.kitCls] at hk
  | flt i=>obtain ⟨t,rfl⟩:=ru;simp [PySem.W.kitOne,PySem.W.kitCls] at hk
 subst hu
 obtain ⟨he,_⟩:=(show ObjOk X.prog X.w H s.heap e (.frz oe uu) from I.hok e _ hH)
 have hno:PySem.W.notCls oe=true:=by unfold PySem.W.notCls;rw [hv]
 cases q0:oe.dict with
 | none=>
  have J:PySem.W.InstAt s.heap e oe C none:=⟨he,hc,hno,by rw [q0];trivial⟩
  exact PySem.W.kia_one (kitx_exc ec) I.kIn J hk (fun z=>nomatch z) fun tk=>⟨.bl b,H,I.tok _,rfl,q⟩
 | some dx=>
  rw [q0] at hd
  obtain ⟨o,ho,hx⟩:=hd
  cases o with
  | xd fs=>
   obtain ⟨mA,hn,_⟩:=I.hok dx _ ho
   obtain ⟨oD,hoD,_⟩:=lookIn_ns hn
   have J:PySem.W.InstAt s.heap e oe C (some oD):=⟨he,hc,hno,by rw [q0];exact hoD⟩
   exact PySem.W.kia_one (kitx_exc ec) I.kIn J hk (fun z=>nomatch z) fun tk=>⟨.bl b,H,I.tok _,rfl,q⟩
  | _=>exact hx.elim
end
end L2
set_option Elab.async false
set_option linter.all false
set_option maxRecDepth 100000
set_option maxHeartbeats 4000000
namespace L2
open PySem PySem.Spec PyProof.Rows PySem.W
def excInI (K:Frag) (C fI:Addr) (bmB:List Value) (newId:String):Bool:=ownIn0 K C (some (.ref fI)) bmB newId
section
variable {prog:Program}{w:World}{A:Around}{R:Result->Shared->Prop}{h:Heap}{g:Array GenState}{d:Drawn}{t:Nat}{os:OsState}{K:Frag}
variable {nm q:Str}{C N fI:Addr}{bs bm bmB:List Value}{hdct:Bool}{sn:List Str}{sub:List Value}{ab:Bool}{col:Option Bool}{dd:Option Addr}{k0 k1 k2 k3 k5:Option Value}{B Bn newId nid initId inN:String}{bmN:List Value}
end
def dropRefs:List Value->List Value
 | .ref _::r=>dropRefs r
 | l=>l
def onlyExc (l:List Value):Bool:=dropRefs l == [.type "ValueError",.type "Exception",.type "BaseException",.type "object"]
def excOver (K:Frag) (C:Addr):Bool:=(clsIn K C).any fun cd=>onlyExc cd.mro && cd.mro.contains (.type "object")
structure EStore (K:Frag) (C:Addr):Prop where
 ov:excOver K C=true
 sa:findIn K (.ref C) "__setattr__"=some (some (.builtin "object.__setattr__"))
 hd:hasDictIn K C=true
section
variable {prog:Program}{w:World}{A:Around}{E:Value->Shared->Prop}{K:Frag}{x C:Addr}{s:Shared}{name:Str}{v:Value}
end
end L2
set_option Elab.async false
set_option linter.all false
set_option maxRecDepth 100000
set_option maxHeartbeats 4000000
namespace L2
open PySem PySem.Spec PyProof.Rows PySem.W
section
variable {prog:Program}{w:World}{A:Around}{E:Value->Shared->Prop}{s:Shared}{K:PySem.W.Frag}{x C dx:Addr}{ox:Obj}{od:Option Obj}{name:Str}{mA:Str->Option Value}{u:Value}
end
section
variable {prog:Program}{w:World}{A:Around}{E:Value->Shared->Prop}{h:Heap}{g:Array GenState}{d:Drawn}{t:Nat}{os:OsState}{e a0:Addr}{dct:Option Addr}
variable {nm q:Str}{C N:Addr}{bs bm bmB:List Value}{hdct:Bool}{sn:List Str}{sub:List Value}{ab:Bool}{col:Option Bool}{dd:Option Addr}{k0 k1 k2 k3 k5:Option Value}{B newId nid initId:String}
end
structure OwnI (K:PySem.W.Frag) (C fI:Addr):Prop where
 ex:excInI K C fI [.type "ValueError",.type "Exception",.type "BaseException",.type "object"] "ValueError.__new__"=true
 fn:typeIn K (.ref fI)=some (.type "function")
 st:EStore K C
section
variable {X:Cx}{pins:List (Addr × Obj)}{σ:St}{H:Hp}{s:Shared}
structure BaseI (K:PySem.W.Frag) (B:Addr):Prop where
 sp:specialIn K (.ref B) "__getattribute__"=some (some (.builtin "type.__getattribute__"))
 rd:readsIn K B (.type "type")=true
 fc:findCls K (.ref B) (.type "type") "__init__"=some (.val (.builtin "ValueError.__init__"))
end
end L2
set_option Elab.async false
set_option linter.all false
set_option maxRecDepth 100000
set_option maxHeartbeats 4000000
namespace L2
open PySem PySem.Spec PyProof.Rows PySem.W
section
variable {X:Cx}{e o value:Expr}{ta tv:TE}{f:Str}{pos pos':Pos}
end
def del (H:Hp) (e:Addr):Hp:=fun b=>if b=e then none else H b
section
variable {X:Cx}
end
end L2
set_option Elab.async false
set_option linter.all false
set_option maxRecDepth 100000
set_option maxHeartbeats 4000000
namespace L2
open PySem
open PySem.Spec PyProof.Rows
theorem gName_0 {a:Option V}{v:V}{σ:St}{H:Hp}{Q:St->Hp->Prop}:gName 0 v (a::σ) H Q=Q (some v::σ) H:=rfl
theorem gName_1 {a0:Option V}{a:Option V}{v:V}{σ:St}{H:Hp}{Q:St->Hp->Prop}:gName 1 v (a0::a::σ) H Q=Q (a0::some v::σ) H:=rfl
theorem gName_2 {a0 a1:Option V}{a:Option V}{v:V}{σ:St}{H:Hp}{Q:St->Hp->Prop}:gName 2 v (a0::a1::a::σ) H Q=Q (a0::a1::some v::σ) H:=rfl
theorem gName_3 {a0 a1 a2:Option V}{a:Option V}{v:V}{σ:St}{H:Hp}{Q:St->Hp->Prop}:gName 3 v (a0::a1::a2::a::σ) H Q=Q (a0::a1::a2::some v::σ) H:=rfl
theorem gName_4 {a0 a1 a2 a3:Option V}{a:Option V}{v:V}{σ:St}{H:Hp}{Q:St->Hp->Prop}:gName 4 v (a0::a1::a2::a3::a::σ) H Q=Q (a0::a1::a2::a3::some v::σ) H:=rfl
theorem gName_5 {a0 a1 a2 a3 a4:Option V}{a:Option V}{v:V}{σ:St}{H:Hp}{Q:St->Hp->Prop}:gName 5 v (a0::a1::a2::a3::a4::a::σ) H Q=Q (a0::a1::a2::a3::a4::some v::σ) H:=rfl
theorem gName_6 {a0 a1 a2 a3 a4 a5:Option V}{a:Option V}{v:V}{σ:St}{H:Hp}{Q:St->Hp->Prop}:gName 6 v (a0::a1::a2::a3::a4::a5::a::σ) H Q=Q (a0::a1::a2::a3::a4::a5::some v::σ) H:=rfl
def optK {α:Type}:Option α->(α->Prop)->Prop
 | some x,k=>k x
 | none,_=>False
theorem optK_some {α:Type}(x:α) (k:α->Prop):optK (some x) k=k x:=rfl
theorem optK_ex {α:Type}{o:Option α}{k:α->Prop}(h:optK o k):∃ x,o=some x∧k x:=by
 cases o with
 | none=>exact h.elim
 | some x=>exact ⟨x,rfl,h⟩
def seqO:HO->Option (List V)
 | .lst xs=>some xs
 | .tup xs=>some xs
 | .frz _ (.lst xs)=>some xs
 | _=>none
def lstO:HO->Option (List V)
 | .lst xs=>some xs
 | _=>none
def tupO:HO->Option (List V)
 | .tup xs=>some xs
 | _=>none
def itemsAt (H:Hp) (p:Addr):Option (List V):=(H p).bind seqO
def lstAt (H:Hp) (p:Addr):Option (List V):=(H p).bind lstO
def tupAt (H:Hp) (p:Addr):Option (List V):=(H p).bind tupO
theorem seqO_lst (xs:List V):seqO (.lst xs)=some xs:=rfl
theorem seqO_tup (xs:List V):seqO (.tup xs)=some xs:=rfl
theorem lstO_lst (xs:List V):lstO (.lst xs)=some xs:=rfl
theorem tupO_tup (xs:List V):tupO (.tup xs)=some xs:=rfl
theorem bind_some' {α β:Type}(x:α) (f:α->Option β):(some x).bind f=f x:=rfl
abbrev Ext (H H':Hp):Prop:=(∀ a,(H a).isSome=true->H' a=H a)∧∀ (K:PySem.W.Frag) a xs,SqL K H a xs->SqL K H' a xs
def kOp' (r:R2) (x:V) (Q:VK):VK:=fun y H=>r x y H Q
theorem m_kOp' (r:R2) (x y:V) (H:Hp) (Q:VK):(kOp' r x Q y H)=(r x y H Q):=rfl
def kOp (r:R2) (tb:TE) (σ:St) (Q:VK):VK:=fun x H=>tb σ H (kOp' r x Q)
theorem m_kOp (r:R2) (tb:TE) (σ:St) (Q:VK) (x:V) (H:Hp):(kOp r tb σ Q x H)=(tb σ H (kOp' r x Q)):=rfl
theorem m_tOp (r:R2) (ta tb:TE) (σ:St) (H:Hp) (Q:VK):(tOp r ta tb σ H Q)=(ta σ H (kOp r tb σ Q)):=rfl
theorem m_tC (v:V) (σ:St) (H:Hp) (Q:VK):(tC v σ H Q)=(Q v H):=rfl
def kUn (r:V->Hp->VK->Prop) (Q:VK):VK:=fun x H=>r x H Q
theorem m_kUn (r:V->Hp->VK->Prop) (Q:VK) (x:V) (H:Hp):(kUn r Q x H)=(r x H Q):=rfl
theorem m_tUn (r:V->Hp->VK->Prop) (ta:TE) (σ:St) (H:Hp) (Q:VK):(tUn r ta σ H Q)=(ta σ H (kUn r Q)):=rfl
def rIsN:R2:=fun x y H Q=>y=.non∧Q (.bl (decide (x=.non))) H
def oV:Option Int->V
 | none=>.non
 | some i=>.int i
theorem m_rIsN_non (H:Hp) (Q:VK):rIsN (.non) .non H Q=Q (.bl true) H:=propext ⟨fun h=>h.2,fun h=>⟨rfl,h⟩⟩
theorem m_rIsN_int (i:Int) (H:Hp) (Q:VK):rIsN (.int i) .non H Q=Q (.bl false) H:=propext ⟨fun h=>h.2,fun h=>⟨rfl,h⟩⟩
def kTest (Q:Bool->Hp->Prop):VK:=fun x H=>∃ k,x=.bl k∧Q k H
def kNot (Q:Bool->Hp->Prop):Bool->Hp->Prop:=fun c H=>Q (!c) H
theorem m_kNot (Q:Bool->Hp->Prop) (c:Bool) (H:Hp):(kNot Q c H)=(Q (!c) H):=rfl
theorem m_tNot (t:TT) (σ:St) (H:Hp) (Q:Bool->Hp->Prop):(tNot t σ H Q)=(t σ H (kNot Q)):=rfl
def kAnd (u:TT) (σ:St) (Q:Bool->Hp->Prop):Bool->Hp->Prop:=fun c H=>if c=true then u σ H Q else Q false H
theorem m_kAnd (u:TT) (σ:St) (Q:Bool->Hp->Prop) (c:Bool) (H:Hp):(kAnd u σ Q c H)=(if c=true then u σ H Q else Q false H):=rfl
theorem m_tAnd (t u:TT) (σ:St) (H:Hp) (Q:Bool->Hp->Prop):(tAnd t u σ H Q)=(t σ H (kAnd u σ Q)):=rfl
def kOr (u:TT) (σ:St) (Q:Bool->Hp->Prop):Bool->Hp->Prop:=fun c H=>if c=true then Q true H else u σ H Q
theorem m_kOr (u:TT) (σ:St) (Q:Bool->Hp->Prop) (c:Bool) (H:Hp):(kOr u σ Q c H)=(if c=true then Q true H else u σ H Q):=rfl
theorem m_tOr (t u:TT) (σ:St) (H:Hp) (Q:Bool->Hp->Prop):(tOr t u σ H Q)=(t σ H (kOr u σ Q)):=rfl
def kAndV (tb:TE) (σ:St) (Q:VK):VK:=fun x H=>∃ c,x=.bl c∧if c=true then tb σ H Q else Q (.bl false) H
def kOrV (tb:TE) (σ:St) (Q:VK):VK:=fun x H=>∃ c,x=.bl c∧if c=true then Q (.bl true) H else tb σ H Q
def kNotV (Q:VK):VK:=fun x H=>∃ c,x=.bl c∧Q (.bl (!c)) H
def kIfE (ta tb:TE) (σ:St) (Q:VK):Bool->Hp->Prop:=fun c H=>if c=true then ta σ H Q else tb σ H Q
theorem m_kIfE (ta tb:TE) (σ:St) (Q:VK) (c:Bool) (H:Hp):(kIfE ta tb σ Q c H)=(if c=true then ta σ H Q else tb σ H Q):=rfl
theorem m_tIf (t:TT) (ta tb:TE) (σ:St) (H:Hp) (Q:VK):(tIf t ta tb σ H Q)=(t σ H (kIfE ta tb σ Q)):=rfl
def kCh3 (r':R2) (y:V) (Q:VK):VK:=fun w H=>r' y w H Q
theorem m_kCh3 (r':R2) (y w:V) (Q:VK) (H:Hp):(kCh3 r' y Q w H)=(r' y w H Q):=rfl
def kCh2 (r':R2) (tc:TE) (σ:St) (y:V) (Q:VK):VK:=fun z H=>∃ k,z=.bl k∧(if k=true then tc σ H (kCh3 r' y Q) else Q (.bl false) H)
def kCh1 (r r':R2) (tc:TE) (σ:St) (x:V) (Q:VK):VK:=fun y H=>r x y H (kCh2 r' tc σ y Q)
def kCh0 (r r':R2) (tb tc:TE) (σ:St) (Q:VK):VK:=fun x H=>tb σ H (kCh1 r r' tc σ x Q)
theorem m_tNil (σ:St) (H:Hp) (Q:List V->Hp->Prop):(tNil σ H Q)=(Q [] H):=rfl
def kCons' (x:V) (Q:List V->Hp->Prop):List V->Hp->Prop:=fun xs H=>Q (x::xs) H
theorem m_kCons' (x:V) (Q:List V->Hp->Prop) (xs:List V) (H:Hp):(kCons' x Q xs H)=(Q (x::xs) H):=rfl
def kCons (tr:TA) (σ:St) (Q:List V->Hp->Prop):VK:=fun x H=>tr σ H (kCons' x Q)
theorem m_kCons (tr:TA) (σ:St) (Q:List V->Hp->Prop) (x:V) (H:Hp):(kCons tr σ Q x H)=(tr σ H (kCons' x Q)):=rfl
theorem m_tCons (ta:TE) (tr:TA) (σ:St) (H:Hp) (Q:List V->Hp->Prop):(tCons ta tr σ H Q)=(ta σ H (kCons tr σ Q)):=rfl
def kCall (sp:Sp) (dvs:List V) (E:XK) (Q:VK):List V->Hp->Prop:=fun vs H=>sp (vs++dvs) H Q E
theorem m_kCall_1 (v0:V) (sp:Sp) (dvs:List V) (E:XK) (Q:VK) (H:Hp):kCall sp dvs E Q [v0] H=sp (v0::dvs) H Q E:=rfl
theorem m_kCall_2 (v0 v1:V) (sp:Sp) (dvs:List V) (E:XK) (Q:VK) (H:Hp):kCall sp dvs E Q [v0,v1] H=sp (v0::v1::dvs) H Q E:=rfl
theorem m_kCall_3 (v0 v1 v2:V) (sp:Sp) (dvs:List V) (E:XK) (Q:VK) (H:Hp):kCall sp dvs E Q [v0,v1,v2] H=sp (v0::v1::v2::dvs) H Q E:=rfl
theorem m_tCall (sp:Sp) (dvs:List V) (E:XK) (t:TA) (σ:St) (H:Hp) (Q:VK):(tCall sp dvs E t σ H Q)=(t σ H (kCall sp dvs E Q)):=rfl
def kCB (r:List V->Hp->VK->Prop) (Q:VK):List V->Hp->Prop:=fun vs H=>r vs H Q
theorem m_kCB (r:List V->Hp->VK->Prop) (Q:VK) (vs:List V) (H:Hp):(kCB r Q vs H)=(r vs H Q):=rfl
theorem m_tCB (r:List V->Hp->VK->Prop) (t:TA) (σ:St) (H:Hp) (Q:VK):(tCB r t σ H Q)=(t σ H (kCB r Q)):=rfl
theorem m_tNext (nx:St->Hp->Prop) (rt:VK) (bk ct:St->Hp->Prop) (σ:St) (H:Hp):(tNext ⟨nx,rt,bk,ct⟩ σ H)=(nx σ H):=rfl
theorem m_tSeq (t u:TS) (nx:St->Hp->Prop) (rt:VK) (bk ct:St->Hp->Prop) (σ:St) (H:Hp):(tSeq t u ⟨nx,rt,bk,ct⟩ σ H)=(t ⟨u ⟨nx,rt,bk,ct⟩,rt,bk,ct⟩ σ H):=rfl
theorem m_tRet (te:TE) (nx:St->Hp->Prop) (rt:VK) (bk ct:St->Hp->Prop) (σ:St) (H:Hp):(tRet te ⟨nx,rt,bk,ct⟩ σ H)=(te σ H rt):=rfl
def kDrop (nx:St->Hp->Prop) (σ:St):VK:=fun x H=>nx σ H
theorem m_kDrop (nx:St->Hp->Prop) (σ:St) (x:V) (H:Hp):(kDrop nx σ x H)=(nx σ H):=rfl
theorem m_tDrop (te:TE) (nx:St->Hp->Prop) (rt:VK) (bk ct:St->Hp->Prop) (σ:St) (H:Hp):(tDrop te ⟨nx,rt,bk,ct⟩ σ H)=(te σ H (kDrop nx σ)):=rfl
def kIfS (t u:TS) (D:Ends) (σ:St):Bool->Hp->Prop:=fun b H=>if b=true then t D σ H else u D σ H
theorem m_kIfS (t u:TS) (D:Ends) (σ:St) (b:Bool) (H:Hp):(kIfS t u D σ b H)=(if b=true then t D σ H else u D σ H):=rfl
theorem m_tIfS (c:TT) (t u:TS) (D:Ends) (σ:St) (H:Hp):(tIfS c t u D σ H)=(c σ H (kIfS t u D σ)):=rfl
def kAsg (g:TG) (σ:St) (nx:St->Hp->Prop):VK:=fun x H=>g x σ H nx
theorem m_kAsg (g:TG) (σ:St) (nx:St->Hp->Prop) (x:V) (H:Hp):(kAsg g σ nx x H)=(g x σ H nx):=rfl
theorem m_tAsg (te:TE) (g:TG) (nx:St->Hp->Prop) (rt:VK) (bk ct:St->Hp->Prop) (σ:St) (H:Hp):(tAsg te g ⟨nx,rt,bk,ct⟩ σ H)=(te σ H (kAsg g σ nx)):=rfl
end L2
set_option Elab.async false
set_option linter.all false
set_option maxRecDepth 100000
set_option maxHeartbeats 4000000
namespace L2
open PySem PySem.Spec PyProof.Rows
section
variable {X:Cx}
theorem OpR.mono {f:Value->Value->Sem Value}{r r':R2}(h:OpR X f r) (m:∀ x y H Q,r' x y H Q->r x y H Q):OpR X f r':=fun pins s σ H x y v u Q I rx ry hq=>h pins s σ H x y v u Q I rx ry (m _ _ _ _ hq)
theorem CallR.mono {f:Value}{r r':List V->Hp->VK->Prop}(h:CallR X f r) (m:∀ xs H Q,r' xs H Q->r xs H Q):CallR X f r':=fun pins s σ H xs us Q I rx hq=>h pins s σ H xs us Q I rx (m _ _ _ hq)
theorem IxR.mono {r r':R2}(h:IxR X r) (m:∀ x y H Q,r' x y H Q->r x y H Q):IxR X r':=fun a b pins s σ H x y v u Q I rx ry hq=>h a b pins s σ H x y v u Q I rx ry (m _ _ _ _ hq)
theorem SlR.mono {r r':V->Option Int->Option Int->Hp->VK->Prop}(h:SlR X r) (m:∀ x lo hi H Q,r' x lo hi H Q->r x lo hi H Q):SlR X r':=fun pins s σ H x v vl vu lo hi sl Q I rx a b c hq=>h pins s σ H x v vl vu lo hi sl Q I rx a b c (m _ _ _ _ _ hq)
theorem items_seq {K:PySem.W.Frag}{H:Hp}{p:Addr}{ys:List V}(h:itemsAt H p=some ys):SqL K H p ys∨SqT K H p ys:=by
 unfold itemsAt at h
 cases e:H p with
 | none=>rw [e] at h;cases h
 | some o=>
  rw [e] at h
  have h':seqO o=some ys:=h
  cases o with
  | lst xs=>cases h';exact .inl (SqL.of e)
  | tup xs=>cases h';exact .inr (SqT.of e)
  | frz ob u=>
   cases u with
   | lst xs=>cases h';exact .inl (.inl (.inr ⟨ob,e⟩))
   | _=>cases h'
  | _=>cases h'
theorem lst_of {H:Hp}{p:Addr}{ys:List V}(h:lstAt H p=some ys):H p=some (.lst ys):=by
 unfold lstAt at h
 cases e:H p with
 | none=>rw [e] at h;cases h
 | some o=>
  rw [e] at h
  have h':lstO o=some ys:=h
  cases o with
  | lst xs=>cases h';rfl
  | _=>cases h'
theorem tup_of {H:Hp}{p:Addr}{ys:List V}(h:tupAt H p=some ys):H p=some (.tup ys):=by
 unfold tupAt at h
 cases e:H p with
 | none=>rw [e] at h;cases h
 | some o=>
  rw [e] at h
  have h':tupO o=some ys:=h
  cases o with
  | tup xs=>cases h';rfl
  | _=>cases h'
def kLen (H:Hp) (Q:VK):List V->Prop:=fun ys=>Q (.int ys.length) H
theorem m_kLen (H:Hp) (Q:VK) (ys:List V):kLen H Q ys=Q (.int ys.length) H:=rfl
def qLen (xs:List V) (H:Hp) (Q:VK):Prop:=match xs with
 | [.ref p]=>optK (itemsAt H p) (kLen H Q)
 | [.str z]=>z.length≤sizeLine∧Q (.int z.length) H
 | _=>False
theorem m_qLen (p:Addr) (H:Hp) (Q:VK):qLen [.ref p] H Q=optK (itemsAt H p) (kLen H Q):=rfl
theorem m_qLenS (z:Str) (H:Hp) (Q:VK):qLen [.str z] H Q=(z.length≤sizeLine∧Q (.int z.length) H):=rfl
theorem call_qLen:CallR X (.builtin "len") qLen:=by
 refine (call_len_seq.or call_len_str).mono fun xs H Q h=>?_
 unfold qLen at h
 split at h
 ·rename_i p
  obtain ⟨ys,e,q⟩:=optK_ex h
  exact .inl ⟨p,ys,rfl,items_seq e,q⟩
 ·rename_i z
  exact .inr ⟨z,rfl,h.1,h.2⟩
 ·exact h.elim
def kIx' (H:Hp) (Q:VK):V->Prop:=fun v=>Q v H
theorem m_kIx' (H:Hp) (Q:VK) (v:V):kIx' H Q v=Q v H:=rfl
def kIx (i:Int) (H:Hp) (Q:VK):List V->Prop:=fun ys=>optK (atI ys i) (kIx' H Q)
theorem m_kIx (i:Int) (H:Hp) (Q:VK) (ys:List V):kIx i H Q ys=optK (atI ys i) (kIx' H Q):=rfl
def qIx:R2:=fun x y H Q=>match x,y with
 | .ref p,.int i=>optK (itemsAt H p) (kIx i H Q)
 | _,_=>False
theorem m_qIx (p:Addr) (i:Int) (H:Hp) (Q:VK):qIx (.ref p) (.int i) H Q=optK (itemsAt H p) (kIx i H Q):=rfl
theorem ix_q:IxR X qIx:=by
 refine (ix_list.or ix_tup).mono fun x y H Q h=>?_
 unfold qIx at h
 split at h
 ·rename_i p i
  obtain ⟨ys,e,q⟩:=optK_ex h
  obtain ⟨v,e2,q2⟩:=optK_ex q
  rcases items_seq (K:=X.K) e with z|z
  ·exact .inl ⟨p,ys,i,v,rfl,rfl,z,e2,q2⟩
  ·exact .inr ⟨p,ys,i,v,rfl,rfl,z,e2,q2⟩
 ·exact h.elim
theorem atI_0 {α:Type}(a:α) (xs:List α):atI (a::xs) 0=some a:=atI_nat (j:=0) rfl
theorem atI_1 {α:Type}(a b:α) (xs:List α):atI (a::b::xs) 1=some b:=atI_nat (j:=1) rfl
theorem atI_2 {α:Type}(a b c:α) (xs:List α):atI (a::b::c::xs) 2=some c:=atI_nat (j:=2) rfl
theorem atI_3 {α:Type}(a b c d:α) (xs:List α):atI (a::b::c::d::xs) 3=some d:=atI_nat (j:=3) rfl
theorem atI_4 {α:Type}(a b c d e:α) (xs:List α):atI (a::b::c::d::e::xs) 4=some e:=atI_nat (j:=4) rfl
def kNewL (H:Hp) (Q:VK):List V->Prop:=fun ys=>∀ l,H l=none->Q (.ref l) (upd H l (.lst ys))
def qList (xs:List V) (H:Hp) (Q:VK):Prop:=match xs with
 | [.ref p]=>optK (itemsAt H p) (kNewL H Q)
 | _=>False
theorem call_qList:CallR X (.type "list") qList:=by
 refine call_list_of.mono fun xs H Q h=>?_
 unfold qList at h
 split at h
 ·rename_i p
  obtain ⟨ys,e,q⟩:=optK_ex h
  exact ⟨p,ys,rfl,items_seq e,q⟩
 ·exact h.elim
def kTupO (p:Addr) (H:Hp) (Q:VK):HO->Prop:=fun o=>match o with
 | .lst ys=>∀ l,H l=none->Q (.ref l) (upd H l (.tup ys))
 | .tup _=>Q (.ref p) H
 | _=>False
def qTuple (xs:List V) (H:Hp) (Q:VK):Prop:=match xs with
 | [.ref p]=>optK (H p) (kTupO p H Q)
 | _=>False
theorem call_qTuple:CallR X (.type "tuple") qTuple:=by
 refine call_tuple_of.mono fun xs H Q h=>?_
 unfold qTuple at h
 split at h
 ·rename_i p
  obtain ⟨o,e,q⟩:=optK_ex h
  unfold kTupO at q
  split at q
  ·rename_i ys;exact ⟨p,ys,rfl,.inl ⟨SqL.of e,q⟩⟩
  ·rename_i ys;exact ⟨p,ys,rfl,.inr ⟨SqT.of e,q⟩⟩
  ·exact q.elim
 ·exact h.elim
def qStr (xs:List V) (H:Hp) (Q:VK):Prop:=match xs with
 | [.int i]=>i.natAbs.log2 < 1920∧Q (.str (toString i)) H
 | _=>False
theorem m_qStr (i:Int) (H:Hp) (Q:VK):qStr [.int i] H Q=(i.natAbs.log2 < 1920∧Q (.str (toString i)) H):=rfl
theorem call_qStr:CallR X (.type "str") qStr:=by
 refine call_str_int.mono fun xs H Q h=>?_
 unfold qStr at h
 split at h
 ·rename_i i;exact ⟨i,rfl,h.1,h.2⟩
 ·exact h.elim
def tyO:HO->Option String
 | .lst _=>some "list"
 | .tup _=>some "tuple"
 | .frz _ (.lst _)=>some "list"
 | .dK _=>some "dict"
 | .dT _=>some "dict"
 | _=>none
theorem tyO_lst (xs:List V):tyO (.lst xs)=some "list":=rfl
theorem tyO_tup (xs:List V):tyO (.tup xs)=some "tuple":=rfl
theorem tyO_dK (xs:List (Key × V)):tyO (.dK xs)=some "dict":=rfl
def tyN (H:Hp):V->Option String
 | .non=>some "NoneType"
 | .bl _=>some "bool"
 | .int _=>some "int"
 | .str _=>some "str"
 | .ref p=>(H p).bind tyO
 | _=>none
theorem tyN_non (H:Hp):tyN H .non=some "NoneType":=rfl
theorem tyN_bl (H:Hp) (b:Bool):tyN H (.bl b)=some "bool":=rfl
theorem tyN_int (H:Hp) (i:Int):tyN H (.int i)=some "int":=rfl
theorem tyN_str (H:Hp) (x:Str):tyN H (.str x)=some "str":=rfl
theorem tyN_ref (H:Hp) (p:Addr):tyN H (.ref p)=(H p).bind tyO:=rfl
theorem tyN_ok {K:PySem.W.Frag}{H:Hp}{x:V}{t:String}(h:tyN H x=some t):TyOf K H x (.type t):=by
 cases x with
 | non=>cases h;exact .non
 | bl b=>cases h;exact .bl b
 | int i=>cases h;exact .int i
 | str x=>cases h;exact .str x
 | ref p=>
  have h':(H p).bind tyO=some t:=h
  cases e:H p with
  | none=>rw [e] at h';cases h'
  | some o=>
   rw [e] at h'
   have h2:tyO o=some t:=h'
   cases o with
   | lst xs=>cases h2;exact .lst e
   | tup xs=>cases h2;exact .tup e
   | dK xs=>cases h2;exact .dK e
   | dT xs=>cases h2;exact .dT e
   | frz ob u=>
    cases u with
    | lst xs=>cases h2;exact .frz e
    | _=>cases h2
   | _=>cases h2
 | _=>cases h
def kTypes:List String:=["NoneType", "bool", "int", "str", "list", "tuple", "dict"]
def isiN (t n:String):Bool:=t == n || (t == "bool" && n == "int")
theorem kit_isiN (K:PySem.W.Frag):∀ t∈kTypes,∀ n∈kTypes,PySem.W.kitOne K (.type t) (.type n)=some (isiN t n):=by
 intro t ht n hn
 unfold kTypes at ht hn
 simp only [List.mem_cons,List.not_mem_nil,or_false] at ht hn
 rcases ht with rfl|rfl|rfl|rfl|rfl|rfl|rfl<;>rcases hn with rfl|rfl|rfl|rfl|rfl|rfl|rfl<;>exact kitOne_ty K _ _ _ (by decide +kernel)
def kIsi (n:String) (H:Hp) (Q:VK):String->Prop:=fun t=>t∈kTypes∧Q (.bl (isiN t n)) H
def qIsi (xs:List V) (H:Hp) (Q:VK):Prop:=match xs with
 | [x,.ty n]=>n∈kTypes∧optK (tyN H x) (kIsi n H Q)
 | _=>False
theorem call_qIsi:CallR X (.builtin "isinstance") qIsi:=by
 refine call_isi.mono fun xs H Q h=>?_
 unfold qIsi at h
 split at h
 ·rename_i x n
  obtain ⟨hn,h⟩:=h
  obtain ⟨t,e,ht,q⟩:=optK_ex h
  exact ⟨x,n,_,_,rfl,tyN_ok e,kit_isiN _ t ht n hn,q⟩
 ·exact h.elim
theorem m_qIsi_int (x:V) (H:Hp) (Q:VK):qIsi [x,.ty "int"] H Q=optK (tyN H x) (kIsi "int" H Q):=by
 unfold qIsi;exact propext ⟨fun h=>h.2,fun h=>⟨by decide,h⟩⟩
theorem m_qIsi_bool (x:V) (H:Hp) (Q:VK):qIsi [x,.ty "bool"] H Q=optK (tyN H x) (kIsi "bool" H Q):=by
 unfold qIsi;exact propext ⟨fun h=>h.2,fun h=>⟨by decide,h⟩⟩
theorem m_qIsi_tuple (x:V) (H:Hp) (Q:VK):qIsi [x,.ty "tuple"] H Q=optK (tyN H x) (kIsi "tuple" H Q):=by
 unfold qIsi;exact propext ⟨fun h=>h.2,fun h=>⟨by decide,h⟩⟩
theorem m_qIsi_list (x:V) (H:Hp) (Q:VK):qIsi [x,.ty "list"] H Q=optK (tyN H x) (kIsi "list" H Q):=by
 unfold qIsi;exact propext ⟨fun h=>h.2,fun h=>⟨by decide,h⟩⟩
theorem m_qIsi_str (x:V) (H:Hp) (Q:VK):qIsi [x,.ty "str"] H Q=optK (tyN H x) (kIsi "str" H Q):=by
 unfold qIsi;exact propext ⟨fun h=>h.2,fun h=>⟨by decide,h⟩⟩
theorem m_kIsi_Ni (H:Hp) (Q:VK):kIsi "int" H Q "NoneType"=Q (.bl false) H:=propext ⟨fun h=>h.2,fun h=>⟨by decide,h⟩⟩
theorem m_kIsi_Ns (H:Hp) (Q:VK):kIsi "str" H Q "NoneType"=Q (.bl false) H:=propext ⟨fun h=>h.2,fun h=>⟨by decide,h⟩⟩
theorem m_kIsi_Nl (H:Hp) (Q:VK):kIsi "list" H Q "NoneType"=Q (.bl false) H:=propext ⟨fun h=>h.2,fun h=>⟨by decide,h⟩⟩
theorem m_kIsi_bb (H:Hp) (Q:VK):kIsi "bool" H Q "bool"=Q (.bl true) H:=propext ⟨fun h=>h.2,fun h=>⟨by decide,h⟩⟩
theorem m_kIsi_bi (H:Hp) (Q:VK):kIsi "int" H Q "bool"=Q (.bl true) H:=propext ⟨fun h=>h.2,fun h=>⟨by decide,h⟩⟩
theorem m_kIsi_bs (H:Hp) (Q:VK):kIsi "str" H Q "bool"=Q (.bl false) H:=propext ⟨fun h=>h.2,fun h=>⟨by decide,h⟩⟩
theorem m_kIsi_ib (H:Hp) (Q:VK):kIsi "bool" H Q "int"=Q (.bl false) H:=propext ⟨fun h=>h.2,fun h=>⟨by decide,h⟩⟩
theorem m_kIsi_ii (H:Hp) (Q:VK):kIsi "int" H Q "int"=Q (.bl true) H:=propext ⟨fun h=>h.2,fun h=>⟨by decide,h⟩⟩
theorem m_kIsi_is (H:Hp) (Q:VK):kIsi "str" H Q "int"=Q (.bl false) H:=propext ⟨fun h=>h.2,fun h=>⟨by decide,h⟩⟩
theorem m_kIsi_il (H:Hp) (Q:VK):kIsi "list" H Q "int"=Q (.bl false) H:=propext ⟨fun h=>h.2,fun h=>⟨by decide,h⟩⟩
theorem m_kIsi_si (H:Hp) (Q:VK):kIsi "int" H Q "str"=Q (.bl false) H:=propext ⟨fun h=>h.2,fun h=>⟨by decide,h⟩⟩
theorem m_kIsi_ss (H:Hp) (Q:VK):kIsi "str" H Q "str"=Q (.bl true) H:=propext ⟨fun h=>h.2,fun h=>⟨by decide,h⟩⟩
theorem m_kIsi_sl (H:Hp) (Q:VK):kIsi "list" H Q "str"=Q (.bl false) H:=propext ⟨fun h=>h.2,fun h=>⟨by decide,h⟩⟩
theorem m_kIsi_li (H:Hp) (Q:VK):kIsi "int" H Q "list"=Q (.bl false) H:=propext ⟨fun h=>h.2,fun h=>⟨by decide,h⟩⟩
theorem m_kIsi_ls (H:Hp) (Q:VK):kIsi "str" H Q "list"=Q (.bl false) H:=propext ⟨fun h=>h.2,fun h=>⟨by decide,h⟩⟩
theorem m_kIsi_ll (H:Hp) (Q:VK):kIsi "list" H Q "list"=Q (.bl true) H:=propext ⟨fun h=>h.2,fun h=>⟨by decide,h⟩⟩
theorem m_kIsi_ti (H:Hp) (Q:VK):kIsi "int" H Q "tuple"=Q (.bl false) H:=propext ⟨fun h=>h.2,fun h=>⟨by decide,h⟩⟩
theorem m_kIsi_ts (H:Hp) (Q:VK):kIsi "str" H Q "tuple"=Q (.bl false) H:=propext ⟨fun h=>h.2,fun h=>⟨by decide,h⟩⟩
theorem m_kIsi_tl (H:Hp) (Q:VK):kIsi "list" H Q "tuple"=Q (.bl false) H:=propext ⟨fun h=>h.2,fun h=>⟨by decide,h⟩⟩
theorem m_kIsi_tt (H:Hp) (Q:VK):kIsi "tuple" H Q "tuple"=Q (.bl true) H:=propext ⟨fun h=>h.2,fun h=>⟨by decide,h⟩⟩
theorem m_kIsi_di (H:Hp) (Q:VK):kIsi "int" H Q "dict"=Q (.bl false) H:=propext ⟨fun h=>h.2,fun h=>⟨by decide,h⟩⟩
theorem m_kIsi_ds (H:Hp) (Q:VK):kIsi "str" H Q "dict"=Q (.bl false) H:=propext ⟨fun h=>h.2,fun h=>⟨by decide,h⟩⟩
theorem m_kIsi_dl (H:Hp) (Q:VK):kIsi "list" H Q "dict"=Q (.bl false) H:=propext ⟨fun h=>h.2,fun h=>⟨by decide,h⟩⟩
def kBM' (r:V->List V->Hp->VK->Prop) (x:V) (Q:VK):List V->Hp->Prop:=fun xs H=>r x xs H Q
theorem m_kBM' (r:V->List V->Hp->VK->Prop) (x:V) (Q:VK) (xs:List V) (H:Hp):kBM' r x Q xs H=r x xs H Q:=rfl
def kBM (K:PySem.W.Frag) (T:String) (r:V->List V->Hp->VK->Prop) (t:TA) (σ:St) (Q:VK):VK:=fun x H=>tyV K T x H∧t σ H (kBM' r x Q)
theorem m_kBM (K:PySem.W.Frag) (T:String) (r:V->List V->Hp->VK->Prop) (t:TA) (σ:St) (Q:VK) (x:V) (H:Hp):kBM K T r t σ Q x H=(tyV K T x H∧t σ H (kBM' r x Q)):=rfl
theorem m_tBM (K:PySem.W.Frag) (T:String) (r:V->List V->Hp->VK->Prop) (to:TE) (t:TA) (σ:St) (H:Hp) (Q:VK):tBM K T r to t σ H Q=to σ H (kBM K T r t σ Q):=rfl
theorem tyV_list (K:PySem.W.Frag) (p:Addr) (H:Hp) (h:(lstAt H p).isSome=true):tyV K "list" (.ref p) H=True:=by
 cases e:lstAt H p with
 | none=>rw [e] at h;cases h
 | some ys=>exact eq_true (.inl ⟨rfl,ys,SqL.of (lst_of e)⟩)
def kApp (l:Addr) (y:V) (H:Hp) (Q:VK):List V->Prop:=fun xs=>xs.length < sizeLine∧Q .non (upd H l (.lst (xs++[y])))
theorem m_kApp (l:Addr) (y:V) (H:Hp) (Q:VK) (xs:List V):kApp l y H Q xs=(xs.length < sizeLine∧Q .non (upd H l (.lst (xs++[y])))):=rfl
theorem m_rAppend (l:Addr) (y:V) (H:Hp) (Q:VK):rAppend (.ref l) [y] H Q=optK (lstAt H l) (kApp l y H Q):=by
 refine propext ⟨fun h=>?_,fun h=>?_⟩
 ·obtain ⟨_,xs,_,e1,e2,e3,a,b⟩:=h
  cases e1;cases e2
  have e:lstAt H l=some xs:=by unfold lstAt;rw [e3];rfl
  rw [e];exact ⟨a,b⟩
 ·obtain ⟨xs,e,a,b⟩:=optK_ex h
  exact ⟨l,xs,y,rfl,rfl,lst_of e,a,b⟩
def kCat2 (xs:List V) (H:Hp) (Q:VK):List V->Prop:=fun ys=>xs.length+ys.length≤sizeLine∧∀ p,H p=none->Q (.ref p) (upd H p (.lst (xs++ys)))
def kCat1 (b:Addr) (H:Hp) (Q:VK):List V->Prop:=fun xs=>optK (lstAt H b) (kCat2 xs H Q)
theorem m_rCat (l b:Addr) (H:Hp) (Q:VK):rCat (.ref l) (.ref b) H Q=optK (lstAt H l) (kCat1 b H Q):=by
 refine propext ⟨fun h=>?_,fun h=>?_⟩
 ·obtain ⟨l',b',xs,zs,e1,e2,e3,e4,hz,hq⟩:=h
  cases e1;cases e2
  have e:lstAt H l=some xs:=by unfold lstAt;rw [e3];rfl
  have e':lstAt H b=some zs:=by unfold lstAt;rw [e4];rfl
  rw [e]
  show optK (lstAt H b) _
  rw [e'];exact ⟨hz,hq⟩
 ·obtain ⟨xs,e,q⟩:=optK_ex h
  obtain ⟨zs,e',a,q⟩:=optK_ex q
  exact ⟨l,b,xs,zs,rfl,rfl,lst_of e,lst_of e',a,q⟩
def kSet' (p:Addr) (xs:List V) (v:V) (H:Hp) (Q:Hp->Prop):Nat->Prop:=fun j=>Q (upd H p (.lst (xs.set j v)))
theorem m_kSet' (p:Addr) (xs:List V) (v:V) (H:Hp) (Q:Hp->Prop) (j:Nat):kSet' p xs v H Q j=Q (upd H p (.lst (xs.set j v))):=rfl
def kSet (p:Addr) (i:Int) (v:V) (H:Hp) (Q:Hp->Prop):List V->Prop:=fun xs=>optK (ixN xs.length i) (kSet' p xs v H Q)
theorem m_kSet (p:Addr) (i:Int) (v:V) (H:Hp) (Q:Hp->Prop) (xs:List V):kSet p i v H Q xs=optK (ixN xs.length i) (kSet' p xs v H Q):=rfl
theorem m_rSetL (p:Addr) (i:Int) (v:V) (H:Hp) (Q:Hp->Prop):rSetL (.ref p) (.int i) v H Q=optK (lstAt H p) (kSet p i v H Q):=by
 refine propext ⟨fun h=>?_,fun h=>?_⟩
 ·obtain ⟨_,xs,_,j,e1,e2,e3,e4,b⟩:=h
  cases e1;cases e2
  have e:lstAt H p=some xs:=by unfold lstAt;rw [e3];rfl
  rw [e]
  show optK (ixN xs.length i) _
  rw [e4];exact b
 ·obtain ⟨xs,e,q⟩:=optK_ex h
  obtain ⟨j,e4,q⟩:=optK_ex q
  exact ⟨p,xs,i,j,rfl,rfl,lst_of e,e4,q⟩
def kGSub3 (t:TSet) (o v:V) (σ:St) (Q:St->Hp->Prop):VK:=fun i H=>t o i v H fun H3=>Q σ H3
theorem m_kGSub3 (t:TSet) (o v:V) (σ:St) (Q:St->Hp->Prop) (i:V) (H:Hp):kGSub3 t o v σ Q i H=t o i v H (Q σ):=rfl
def kGSub2 (ti:TE) (t:TSet) (v:V) (σ:St) (Q:St->Hp->Prop):VK:=fun o H=>ti σ H (kGSub3 t o v σ Q)
theorem m_kGSub2 (ti:TE) (t:TSet) (v:V) (σ:St) (Q:St->Hp->Prop) (o:V) (H:Hp):kGSub2 ti t v σ Q o H=ti σ H (kGSub3 t o v σ Q):=rfl
theorem m_gSub (to ti:TE) (t:TSet) (v:V) (σ:St) (H:Hp) (Q:St->Hp->Prop):gSub to ti t v σ H Q=to σ H (kGSub2 ti t v σ Q):=rfl
theorem op_qIs:OpR X (compareOp .Is) rIsN:=op_isN
def kBody (tb:TS) (D:Ends):St->Hp->Prop:=fun σ H=>tb D σ H
theorem m_kBody (tb:TS) (D:Ends) (σ:St) (H:Hp):kBody tb D σ H=tb D σ H:=rfl
def kFor (g:TG) (tb:TS) (D:Ends) (σ:St) (J:It) (H1:Hp):Prop:=∃ W:Nat->Nat->St->Hp->Prop,(∃ m,W 0 m σ H1)∧∀ i m σ H,W i m σ H →
 (J.stop i H∧D.nx σ H)∨(J.go i H∧∃ N:St->Hp->Prop,(∀ σ' H',N σ' H'->∃ m',m' < m∧W (i+1) m' σ' H')∧∀ x H',J.yld i H x H'->g x σ H' fun σ2 H2=>tb { D with nx:=N,ct:=N,bk:=D.nx } σ2 H2)
theorem m_tFor (wi:TI) (g:TG) (tb:TS) (D:Ends) (σ:St) (H:Hp):tFor wi g tb D σ H=wi σ H (kFor g tb D σ):=rfl
def kR1 (R:It->Hp->Prop):List V->Hp->Prop:=fun vs H=>∃ j:Int,vs=[.int j]∧-(2 ^ 62)≤j∧j < 2 ^ 62∧R (Itr 0 j.toNat) H
theorem m_kR1 (R:It->Hp->Prop) (j:Int) (H:Hp):kR1 R [.int j] H=(-(2 ^ 62)≤j∧j < 2 ^ 62∧R (Itr 0 j.toNat) H):=propext ⟨fun ⟨_,e,q⟩=>by cases e;exact q,fun q=>⟨j,rfl,q⟩⟩
theorem m_iRng1 (ta:TA) (σ:St) (H:Hp) (R:It->Hp->Prop):iRng1 ta σ H R=ta σ H (kR1 R):=rfl
def kR2 (R:It->Hp->Prop):List V->Hp->Prop:=fun vs H=>∃ i j:Int,vs=[.int i,.int j]∧(-(2 ^ 62)≤i∧i < 2 ^ 62∧-(2 ^ 62)≤j∧j < 2 ^ 62)∧R (Itr i (j - i).toNat) H
theorem m_kR2 (R:It->Hp->Prop) (i j:Int) (H:Hp):kR2 R [.int i,.int j] H=((-(2 ^ 62)≤i∧i < 2 ^ 62∧-(2 ^ 62)≤j∧j < 2 ^ 62)∧R (Itr i (j - i).toNat) H):=propext ⟨fun ⟨_,_,e,q⟩=>by cases e;exact q,fun q=>⟨i,j,rfl,q⟩⟩
theorem m_iRng2 (ta:TA) (σ:St) (H:Hp) (R:It->Hp->Prop):iRng2 ta σ H R=ta σ H (kR2 R):=rfl
def kISq' (K:PySem.W.Frag) (a:Addr) (H:Hp) (R:It->Hp->Prop):HO->Prop:=fun o=>match o with
 | .lst _=>R (Itl K a) H
 | .frz _ (.lst _)=>R (Itl K a) H
 | .tup _=>R (Itt K a) H
 | _=>False
theorem m_kISq'_l (K:PySem.W.Frag) (a:Addr) (H:Hp) (R:It->Hp->Prop) (xs:List V):kISq' K a H R (.lst xs)=R (Itl K a) H:=rfl
theorem m_kISq'_t (K:PySem.W.Frag) (a:Addr) (H:Hp) (R:It->Hp->Prop) (xs:List V):kISq' K a H R (.tup xs)=R (Itt K a) H:=rfl
def kISq (K:PySem.W.Frag) (R:It->Hp->Prop):VK:=fun x H=>match x with
 | .ref a=>optK (H a) (kISq' K a H R)
 | _=>False
theorem m_kISq (K:PySem.W.Frag) (R:It->Hp->Prop) (a:Addr) (H:Hp):kISq K R (.ref a) H=optK (H a) (kISq' K a H R):=rfl
def iSeq (K:PySem.W.Frag) (tl:TE):TI:=fun σ H R=>tl σ H (kISq K R)
theorem m_iSeq (K:PySem.W.Frag) (tl:TE) (σ:St) (H:Hp) (R:It->Hp->Prop):iSeq K tl σ H R=tl σ H (kISq K R):=rfl
theorem pi_seq {tg l:Expr}{tl:TE}(hl:PE X l tl):PI X tg l (iSeq X.K tl):=by
 intro pins s σ H R I h
 refine thn (hl pins s σ H _ I h) fun v s1 ⟨x,H1,I1,r1,q1⟩=>?_
 unfold kISq at q1
 split at q1
 ·rename_i a
  cases r1
  obtain ⟨o,e,q⟩:=optK_ex q1
  have fp:∀ b∈[s1.heap.objs.size],FpOk X pins H1 b:=fun b hb=>by
   have e:b=s1.heap.objs.size:=by simpa using hb
   subst e
   exact I1.fpOk (Nat.le_refl _) (I1.hok.fresh (Nat.le_refl _))
  have lst:∀ xs,SqL X.K H1 a xs->R (Itl X.K a) H1->wpAny (model X.prog X.w) X.A (pyIter (.ref a)) (PIE X pins σ tg R) X.xe s1:=fun xs hq q=>by
   obtain ⟨its,rv,p,hz⟩:=I1.list hq
   refine wpAny_pyIter_list p.isList ?_
   exact ⟨s1.heap.objs.size,[s1.heap.objs.size],_,_,H1,rfl,I1.kept (t':=s1.toks) fun b o e=>Heap.get?_push_of_some _ e,turn_list a _,⟨_,Heap.get?_push_size _ rfl,rfl,rfl⟩,fp,q⟩
  unfold kISq' at q
  split at q
  ·exact lst _ (SqL.of e) q
  ·exact lst _ (.inl (.inr ⟨_,e⟩)) q
  ·obtain ⟨its,rv,p,hz⟩:=I1.tuple (SqT.of e)
   refine wpAny_pyIter_tuple (show s1.heap.IsTuple a its.toArray from p) ?_
   exact ⟨s1.heap.objs.size,[s1.heap.objs.size],_,_,H1,rfl,I1.kept (t':=s1.toks) fun b o e=>Heap.get?_push_of_some _ e,turn_tuple a _,⟨_,Heap.get?_push_size _ rfl,rfl,rfl⟩,fp,q⟩
  ·exact q.elim
 ·exact q1.elim
theorem for_rng {lo:Int}{n:Nat}{g:TG}{tb:TS}{nx:St->Hp->Prop}{rt:VK}{bk ct:St->Hp->Prop}{σ:St}{H:Hp}(Pv:Nat->St->Hp->Prop) (h0:Pv 0 σ H)
  (hs:∀ i σ H,i < n->Pv i σ H->g (.int (lo+i)) σ H (kBody tb ⟨Pv (i+1),rt,nx,Pv (i+1)⟩)) (hd:∀ σ H,Pv n σ H->nx σ H):kFor g tb ⟨nx,rt,bk,ct⟩ σ (Itr lo n) H:=for_range Pv h0 hs hd
theorem for_lst {K:PySem.W.Frag}{a:Addr}{xs:List V}{g:TG}{tb:TS}{nx:St->Hp->Prop}{rt:VK}{bk ct:St->Hp->Prop}{σ:St}{H:Hp}(Pv:Nat->St->Hp->Prop) (h0:Pv 0 σ H) (hl:∀ i σ H,i≤xs.length->Pv i σ H->H a=some (.lst xs))
  (hs:∀ i x σ H,xs[i]? = some x->Pv i σ H->g x σ H (kBody tb ⟨Pv (i+1),rt,nx,Pv (i+1)⟩)) (hd:∀ σ H,Pv xs.length σ H->nx σ H):kFor g tb ⟨nx,rt,bk,ct⟩ σ (Itl K a) H:=for_list (xs:=xs) Pv h0 (fun i σ H hi p=>SqL.of (hl i σ H hi p)) hs hd
theorem for_tupl {K:PySem.W.Frag}{a:Addr}{xs:List V}{g:TG}{tb:TS}{nx:St->Hp->Prop}{rt:VK}{bk ct:St->Hp->Prop}{σ:St}{H:Hp}(Pv:Nat->St->Hp->Prop) (h0:Pv 0 σ H) (hl:∀ i σ H,i≤xs.length->Pv i σ H->H a=some (.tup xs))
  (hs:∀ i x σ H,xs[i]? = some x->Pv i σ H->g x σ H (kBody tb ⟨Pv (i+1),rt,nx,Pv (i+1)⟩)) (hd:∀ σ H,Pv xs.length σ H->nx σ H):kFor g tb ⟨nx,rt,bk,ct⟩ σ (Itt K a) H:=for_tup (xs:=xs) Pv h0 (fun i σ H hi p=>SqT.of (hl i σ H hi p)) hs hd
end
end L2
set_option Elab.async false
set_option linter.all false
set_option maxRecDepth 100000
set_option maxHeartbeats 4000000
namespace L2
open PySem PySem.Spec PyProof.Rows
theorem m_tCallX (sp:Sp) (dvs:List V) (E:St->XK) (t:TA) (σ:St) (H:Hp) (Q:VK):tCallX sp dvs E t σ H Q=t σ H (kCall sp dvs (E σ) Q):=rfl
def kTry (th:Value->Option Addr->TS) (D:Ends):St->XK:=fun σ cls d H=>th cls d D σ H
theorem m_kTry (th:Value->Option Addr->TS) (D:Ends) (σ:St) (cls:Value) (d:Option Addr) (H:Hp):kTry th D σ cls d H=th cls d D σ H:=rfl
theorem m_tTry (tb:(St->XK)->TS) (th:Value->Option Addr->TS) (D:Ends) (σ:St) (H:Hp):tTry tb th D σ H=tb (kTry th D) D σ H:=rfl
def kRaise (C:Addr) (E:XK):List V->Hp->Prop:=fun vs H=>vs.length≤sizeLine∧E (.ref C) none H
theorem m_kRaise (C:Addr) (E:XK) (vs:List V) (H:Hp):kRaise C E vs H=(vs.length≤sizeLine∧E (.ref C) none H):=rfl
theorem m_tRaise (C:Addr) (E:St->XK) (t:TA) (D:Ends) (σ:St) (H:Hp):tRaise C E t D σ H=t σ H (kRaise C (E σ)):=rfl
def kSetE (i:Nat) (tb:TS) (D:Ends):St->Hp->Prop:=fun σ H=>tb D σ H
theorem m_kSetE (i:Nat) (tb:TS) (D:Ends) (σ:St) (H:Hp):kSetE i tb D σ H=tb D σ H:=rfl
def kExcAs (i:Nat) (tb:TS) (tr:Value->Option Addr->TS) (cls:Value) (d:Option Addr) (D:Ends) (σ:St) (H:Hp):Bool->Prop:=fun b=>if b=true then ∀ (e:Addr) (oe:Obj),H e=none->oe.cls=cls->oe.dict=d->(∃ vs,oe.data=.fields vs)->gName i (.ref e) σ (upd H e (excO oe)) (kSetE i tb (D.del i)) else tr cls d D σ H
theorem m_kExcAs (i:Nat) (tb:TS) (tr:Value->Option Addr->TS) (cls:Value) (d:Option Addr) (D:Ends) (σ:St) (H:Hp) (b:Bool):kExcAs i tb tr cls d D σ H b=(if b=true then ∀ (e:Addr) (oe:Obj),H e=none->oe.cls=cls->oe.dict=d->(∃ vs,oe.data=.fields vs)->gName i (.ref e) σ (upd H e (excO oe)) (kSetE i tb (D.del i)) else tr cls d D σ H):=rfl
theorem m_tExcAs (K:PySem.W.Frag) (C:Value) (i:Nat) (tb:TS) (tr:Value->Option Addr->TS) (cls:Value) (d:Option Addr) (D:Ends) (σ:St) (H:Hp):tExcAs K C i tb tr cls d D σ H=optK (PySem.W.exmOne K cls C) (kExcAs i tb tr cls d D σ H):=by
 refine propext ⟨fun ⟨b,e,h⟩=>?_,fun h=>?_⟩
 ·rw [e];exact h
 ·obtain ⟨b,e,h⟩:=optK_ex h
  exact ⟨b,e,h⟩
theorem m_del (i:Nat) (nx:St->Hp->Prop) (rt:VK) (bk ct:St->Hp->Prop):Ends.del i ⟨nx,rt,bk,ct⟩=⟨kDel i nx,rt,kDel i bk,kDel i ct⟩:=rfl
theorem m_kDel (i:Nat) (nx:St->Hp->Prop) (σ:St) (H:Hp):kDel i nx σ H=gDel i σ H nx:=rfl
theorem m_gDel_2 {a0 a1:Option V}{a:Option V}{σ:St}{H:Hp}{Q:St->Hp->Prop}:gDel 2 (a0::a1::a::σ) H Q=Q (a0::a1::none::σ) H:=rfl
theorem m_dictO_none (H:Hp):dictO H none=True:=rfl
def refC:Value->Option Addr
 | .ref C=>some C
 | _=>none
theorem refC_ref (C:Addr):refC (.ref C)=some C:=rfl
def clsV:V->Option Value
 | .ref C=>some (.ref C)
 | .ty n=>some (.type n)
 | _=>none
theorem clsV_ref (C:Addr):clsV (.ref C)=some (.ref C):=rfl
theorem clsV_ty (n:String):clsV (.ty n)=some (.type n):=rfl
def kE4 (H:Hp) (Q:VK):Bool->Prop:=fun b=>Q (.bl b) H
theorem m_kE4 (H:Hp) (Q:VK) (b:Bool):kE4 H Q b=Q (.bl b) H:=rfl
def kE3 (K:PySem.W.Frag) (C:Addr) (H:Hp) (Q:VK):Value->Prop:=fun u=>optK (PySem.W.kitOne K (.ref C) u) (kE4 H Q)
theorem m_kE3 (K:PySem.W.Frag) (C:Addr) (H:Hp) (Q:VK) (u:Value):kE3 K C H Q u=optK (PySem.W.kitOne K (.ref C) u) (kE4 H Q):=rfl
def kE2 (K:PySem.W.Frag) (oe:Obj) (D:V) (H:Hp) (Q:VK):Addr->Prop:=fun C=>dictO H oe.dict∧(∃ vs,oe.data=.fields vs)∧ECls K C∧optK (clsV D) (kE3 K C H Q)
theorem m_kE2 (K:PySem.W.Frag) (oe:Obj) (D:V) (H:Hp) (Q:VK) (C:Addr):kE2 K oe D H Q C=(dictO H oe.dict∧(∃ vs,oe.data=.fields vs)∧ECls K C∧optK (clsV D) (kE3 K C H Q)):=rfl
def kE1 (K:PySem.W.Frag) (D:V) (H:Hp) (Q:VK):HO->Prop:=fun o=>match o with
 | .frz oe (.ext _)=>optK (refC oe.cls) (kE2 K oe D H Q)
 | _=>False
theorem m_kE1 (K:PySem.W.Frag) (D:V) (H:Hp) (Q:VK) (oe:Obj):kE1 K D H Q (excO oe)=optK (refC oe.cls) (kE2 K oe D H Q):=rfl
def qIsE (K:PySem.W.Frag) (xs:List V) (H:Hp) (Q:VK):Prop:=match xs with
 | [.ref e,D]=>optK (H e) (kE1 K D H Q)
 | _=>False
theorem m_qIsE (K:PySem.W.Frag) (e:Addr) (D:V) (H:Hp) (Q:VK):qIsE K [.ref e,D] H Q=optK (H e) (kE1 K D H Q):=rfl
theorem call_qIsE {X:Cx}:CallR X (.builtin "isinstance") (qIsE X.K):=by
 refine call_isiE.mono fun xs H Q h=>?_
 unfold qIsE at h
 split at h
 ·rename_i e D
  obtain ⟨o,h1,h⟩:=optK_ex h
  unfold kE1 at h
  split at h
  ·rename_i oe φ
   obtain ⟨C,h2,h⟩:=optK_ex h
   obtain ⟨h3,h4,h5,h⟩:=h
   obtain ⟨u,h6,h⟩:=optK_ex h
   obtain ⟨b,h7,h⟩:=optK_ex h
   have hc:oe.cls=.ref C:=by
    cases q:oe.cls with
    | ref C'=>rw [q] at h2;cases h2;rfl
    | _=>rw [q] at h2;cases h2
   refine ⟨e,oe,C,D,b,rfl,⟨_,h1⟩,hc,h3,h4,h5,⟨u,?_,h7⟩,h⟩
   cases D with
   | ref a=>cases h6;rfl
   | ty n=>cases h6;rfl
   | _=>cases h6
  ·exact h.elim
 ·exact h.elim
def kC3 (D:Addr) (ys:List V) (N:List V->Hp->Prop):VK:=fun y H=>H D=some (.lst ys)∧ys.length < sizeLine∧N (ys++[y]) (upd H D (.lst (ys++[y])))
def kC2 (te:TE) (σ2:St) (D:Addr) (ys:List V) (N:List V->Hp->Prop):Bool->Hp->Prop:=fun b H=>if b=true then te σ2 H (kC3 D ys N) else N ys H
def kC1 (k:Nat) (tt:TT) (te:TE) (σ:St) (D:Addr) (ys:List V) (N:List V->Hp->Prop):St->Hp->Prop:=fun σ2 H=>(∃ vs:St,vs.length=k∧σ2=vs++σ)∧tt σ2 H (kC2 te σ2 D ys N)
theorem m_tYes (σ:St) (H:Hp) (Q:Bool->Hp->Prop):tYes σ H Q=Q true H:=rfl
def kComp (k:Nat) (g:TG) (tt:TT) (te:TE) (σ:St) (Q:VK):It->Hp->Prop:=fun J H1=>∀ D,H1 D=none->∃ W:Nat->Nat->List V->Hp->Prop,(∃ m,W 0 m [] (upd H1 D (.lst [])))∧∀ i m ys H,W i m ys H →
 (J.stop i H∧Q (.ref D) H)∨(J.go i H∧∃ N:List V->Hp->Prop,(∀ ys' H',N ys' H'->∃ m',m' < m∧W (i+1) m' ys' H') ∧
  ∀ x H',J.yld i H x H'->g x (List.replicate k none++σ) H' (kC1 k tt te σ D ys N))
theorem m_tComp (k:Nat) (wi:TI) (g:TG) (tt:TT) (te:TE) (σ:St) (H:Hp) (Q:VK):tComp k wi g tt te σ H Q=wi σ H (kComp k g tt te σ Q):=rfl
def kSetC (i:Nat) (σ:St) (nx:St->Hp->Prop):VK:=fun x H=>gName i x σ H nx
theorem m_kSetC (i:Nat) (σ:St) (nx:St->Hp->Prop) (x:V) (H:Hp):kSetC i σ nx x H=gName i x σ H nx:=rfl
theorem m_tSetC (i:Nat) (te:TE) (nx:St->Hp->Prop) (rt:VK) (bk ct:St->Hp->Prop) (σ:St) (H:Hp):tSetC i te ⟨nx,rt,bk,ct⟩ σ H=te σ H (kSetC i σ nx):=rfl
section
variable {k:Nat}{g:TG}{tt:TT}{te:TE}{σ:St}{Q:VK}{H:Hp}{K:PySem.W.Frag}
end
def allSome {α:Type}:List (Option α)->Option (List α)
 | []=>some []
 | o::r=>o.bind fun x=>(allSome r).map fun xs=>x::xs
def datO (f:V->Option PyData):HO->Option PyData
 | .lst xs=>(allSome (xs.map f)).map .list
 | .tup xs=>(allSome (xs.map f)).map .tuple
 | _=>none
def datF (H:Hp) (f:V->Option PyData):V->Option PyData
 | .non=>some .none
 | .bl b=>some (.bool b)
 | .int i=>some (.int i)
 | .str z=>if PyData.strOk z=true then some (.str z) else none
 | .ref p=>(H p).bind (datO f)
 | _=>none
def datV (H:Hp):Nat->V->Option PyData
 | 0,_=>none
 | n+1,x=>datF H (datV H n) x
def noD:V->Option PyData:=fun _=>none
theorem m_datV (H:Hp) (x:V):datV H 6 x=datF H (datF H (datF H (datF H (datF H (datF H noD))))) x:=rfl
theorem m_datV_str (H:Hp) (n:Nat) (z:Str):datV H (n+1) (.str z)=if PyData.strOk z=true then some (.str z) else none:=rfl
theorem m_datV_ref (H:Hp) (n:Nat) (p:Addr):datV H (n+1) (.ref p)=(H p).bind (datO (datV H n)):=rfl
theorem m_datF_ref (H:Hp) (f:V->Option PyData) (p:Addr):datF H f (.ref p)=(H p).bind (datO f):=rfl
theorem m_datO_lst (f:V->Option PyData) (xs:List V):datO f (.lst xs)=(allSome (xs.map f)).map .list:=rfl
theorem m_datO_tup (f:V->Option PyData) (xs:List V):datO f (.tup xs)=(allSome (xs.map f)).map .tuple:=rfl
theorem datVs_ok {K:PySem.W.Frag}{H:Hp}{n:Nat}(ih:∀ x d,datV H n x=some d->DatV K H x d∧d.canLay0=true∧d.depth≤n):∀ (xs:List V) (ds:List PyData),allSome (xs.map (datV H n))=some ds->DatVs K H xs ds∧PyData.canLayAll0 ds=true∧PyData.depthAll ds≤n
 | [],ds,h=>by cases h;exact ⟨.nil,rfl,Nat.zero_le _⟩
 | x::xs,ds,h=>by
  have h':(datV H n x).bind (fun d=>(allSome (xs.map (datV H n))).map fun ds=>d::ds)=some ds:=h
  cases e:datV H n x with
  | none=>rw [e] at h';cases h'
  | some d=>
   rw [e] at h'
   have h2:(allSome (xs.map (datV H n))).map (fun ds=>d::ds)=some ds:=h'
   cases e2:allSome (xs.map (datV H n)) with
   | none=>rw [e2] at h2;cases h2
   | some es=>
    rw [e2] at h2
    cases h2
    obtain ⟨a,b,c⟩:=ih x d e
    obtain ⟨a',b',c'⟩:=datVs_ok ih xs es e2
    exact ⟨.cons a a',by simp [PyData.canLayAll0,b,b'],by simp only [PyData.depthAll];omega⟩
theorem datV_ok {K:PySem.W.Frag}{H:Hp}:∀ (n:Nat) (x:V) (d:PyData),datV H n x=some d->DatV K H x d∧d.canLay0=true∧d.depth≤n
 | 0,x,d,h=>by cases h
 | n+1,x,d,h=>by
  cases x with
  | non=>cases h;exact ⟨.non,rfl,Nat.zero_le _⟩
  | bl b=>cases h;exact ⟨.bl b,rfl,Nat.zero_le _⟩
  | int i=>cases h;exact ⟨.int i,rfl,Nat.zero_le _⟩
  | str z=>
   rw [m_datV_str] at h
   split at h
   ·rename_i hz;cases h;exact ⟨.str z,by simpa [PyData.canLay0] using hz,Nat.zero_le _⟩
   ·cases h
  | ref p=>
   rw [m_datV_ref] at h
   cases e:H p with
   | none=>rw [e] at h;cases h
   | some o=>
    rw [e] at h
    have h':datO (datV H n) o=some d:=h
    cases o with
    | lst xs=>
     rw [m_datO_lst] at h'
     cases e2:allSome (xs.map (datV H n)) with
     | none=>rw [e2] at h';cases h'
     | some ds=>
      rw [e2] at h';cases h'
      obtain ⟨a,b,c⟩:=datVs_ok (K:=K) (datV_ok n) xs ds e2
      exact ⟨.lst (SqL.of e) a,by simpa [PyData.canLay0] using b,by simp only [PyData.depth];omega⟩
    | tup xs=>
     rw [m_datO_tup] at h'
     cases e2:allSome (xs.map (datV H n)) with
     | none=>rw [e2] at h';cases h'
     | some ds=>
      rw [e2] at h';cases h'
      obtain ⟨a,b,c⟩:=datVs_ok (K:=K) (datV_ok n) xs ds e2
      exact ⟨.tup (SqT.of e) a,by simpa [PyData.canLay0] using b,by simp only [PyData.depth];omega⟩
    | _=>cases h'
  | _=>cases h
theorem datV_shaped {K:PySem.W.Frag}{H:Hp}{n:Nat}{x:V}{d:PyData}(hn:n≤64) (h:datV H n x=some d):DatV K H x d∧SeqAt.shaped d=true:=by
 obtain ⟨a,b,c⟩:=datV_ok (K:=K) n x d h
 refine ⟨a,?_⟩
 unfold SeqAt.shaped
 rw [b,decide_eq_true (show d.depth≤64 by omega)]
 rfl
def kEq2 (neg:Bool) (H:Hp) (Q:VK) (d:PyData):PyData->Prop:=fun e=>Q (.bl (if neg=true then !PyData.eqv d e else PyData.eqv d e)) H
theorem m_kEq2_f (H:Hp) (Q:VK) (d e:PyData):kEq2 false H Q d e=Q (.bl (PyData.eqv d e)) H:=rfl
def kEq1 (neg:Bool) (y:V) (H:Hp) (Q:VK):PyData->Prop:=fun d=>optK (datV H 6 y) (kEq2 neg H Q d)
theorem m_kEq1 (neg:Bool) (y:V) (H:Hp) (Q:VK) (d:PyData):kEq1 neg y H Q d=optK (datV H 6 y) (kEq2 neg H Q d):=rfl
def qEq (neg:Bool):R2:=fun x y H Q=>if scal x y=true then Q (.bl (if neg=true then !decide (x=y) else decide (x=y))) H else optK (datV H 6 x) (kEq1 neg y H Q)
theorem m_qEq_refr (neg:Bool) (p:Addr) (x:V) (H:Hp) (Q:VK):qEq neg x (.ref p) H Q=optK (datV H 6 x) (kEq1 neg (.ref p) H Q):=by
 show (if scal x (.ref p)=true then _ else _)=_
 rw [if_neg (by cases x<;>exact Bool.false_ne_true)]
theorem m_qEq_int_int (i:Int) (j:Int) (H:Hp) (Q:VK):qEq false (V.int i) (V.int j) H Q=Q (.bl (decide (i=j))) H:=by
 have e:decide (((V.int i):V)=(V.int j))=decide (i=j):=by simp
 show Q (.bl (if false=true then !decide ((V.int i)=(V.int j)) else decide ((V.int i)=(V.int j)))) H=_
 rw [e];rfl
theorem m_qEq_str_str (i:Str) (j:Str) (H:Hp) (Q:VK):qEq false (V.str i) (V.str j) H Q=Q (.bl (decide (i=j))) H:=by
 have e:decide (((V.str i):V)=(V.str j))=decide (i=j):=by simp
 show Q (.bl (if false=true then !decide ((V.str i)=(V.str j)) else decide ((V.str i)=(V.str j)))) H=_
 rw [e];rfl
theorem m_qNe_str_str (i:Str) (j:Str) (H:Hp) (Q:VK):qEq true (V.str i) (V.str j) H Q=Q (.bl (!decide (i=j))) H:=by
 have e:decide (((V.str i):V)=(V.str j))=decide (i=j):=by simp
 show Q (.bl (if true=true then !decide ((V.str i)=(V.str j)) else decide ((V.str i)=(V.str j)))) H=_
 rw [e];rfl
section
variable {X:Cx}
theorem op_qEq (hu:X.A.units+64 < cLine):OpR X (compareOp .Eq) (qEq false):=by
 refine (op_eq.or (op_eqD hu)).mono fun x y H Q h=>?_
 unfold qEq at h
 split at h
 ·rename_i hs;exact .inl ⟨hs,h⟩
 obtain ⟨d,e1,h⟩:=optK_ex h
 obtain ⟨e,e2,h⟩:=optK_ex h
 obtain ⟨a,b⟩:=datV_shaped (K:=X.K) (by decide) e1
 obtain ⟨a',b'⟩:=datV_shaped (K:=X.K) (by decide) e2
 exact .inr ⟨d,e,a,a',b,b',h⟩
theorem op_qNe (hu:X.A.units+64 < cLine):OpR X (compareOp .NotEq) (qEq true):=by
 refine (op_ne.or (op_neD hu)).mono fun x y H Q h=>?_
 unfold qEq at h
 split at h
 ·rename_i hs;exact .inl ⟨hs,h⟩
 obtain ⟨d,e1,h⟩:=optK_ex h
 obtain ⟨e,e2,h⟩:=optK_ex h
 obtain ⟨a,b⟩:=datV_shaped (K:=X.K) (by decide) e1
 obtain ⟨a',b'⟩:=datV_shaped (K:=X.K) (by decide) e2
 exact .inr ⟨d,e,a,a',b,b',h⟩
end
theorem eqv_str (i j:Str):PyData.eqv (.str i) (.str j)=(i == j):=rfl
theorem eqv_list (xs ys:List PyData):PyData.eqv (.list xs) (.list ys)=PyData.eqvAll xs ys:=by simp only [PyData.eqv]
theorem eqvAll_cons (x y:PyData) (xs ys:List PyData):PyData.eqvAll (x::xs) (y::ys)=(PyData.eqv x y && PyData.eqvAll xs ys):=by simp only [PyData.eqvAll]
end L2
set_option Elab.async false
set_option linter.all false
set_option maxRecDepth 100000
set_option maxHeartbeats 4000000
namespace L2
open PySem PySem.Spec PyProof.Rows
theorem CDiv_eq (i j:Int):CDiv i j=(0 < j∧j < 1073741824):=rfl
theorem CMul_r (i j:Int) (h:-18446744073709551616 < j) (h':j < 18446744073709551616):CMul i j=True:=eq_true (.inr ⟨by omega,by omega⟩)
theorem CPow_10 (j:Int):CPow 10 j=(0≤j∧j≤1000000):=propext ⟨fun h=>⟨h.1,h.2.1⟩,fun h=>⟨h.1,h.2,by decide⟩⟩
theorem lenLe (n:Nat) (h:n≤1000):(n≤sizeLine)=True:=eq_true (Nat.le_of_lt (small1000 h))
theorem Ext.of {H H':Hp}(h:∀ a,(H a).isSome=true->H' a=H a):Ext H H':=⟨h,fun K a xs q=>by
 have s:Same H H':=fun b o e=>(h b (by rw [e];rfl)).trans e
 exact s.seq q⟩
theorem Ext.same {H H':Hp}(h:Ext H H'):Same H H':=fun b o e=>(h.1 b (by rw [e];rfl)).trans e
theorem Same.ext {H H':Hp}(h:Same H H'):Ext H H':=Ext.of fun a q=>by
 cases e:H a with
 | none=>rw [e] at q;cases q
 | some o=>exact h a o e
theorem Ext.refl (H:Hp):Ext H H:=(Same.refl H).ext
theorem Ext.trans {H H1 H2:Hp}(a:Ext H H1) (b:Ext H1 H2):Ext H H2:=(a.same.trans b.same).ext
theorem Ext.new {H:Hp}{p:Addr}{o:HO}(h:H p=none):Ext H (upd H p o):=(same_upd h).ext
theorem Ext.put {H H1:Hp}{p:Addr}{o:HO}(a:Ext H H1) (h:H p=none):Ext H (upd H1 p o):=Same.ext fun b u e=>by
 rw [upd_ne (ne_of_none e h)];exact a.same b u e
theorem Ext.free {H H1:Hp}{p:Addr}(a:Ext H H1) (h:H1 p=none):H p=none:=a.same.free h
theorem Ext.at {H H1:Hp}{p:Addr}{o:HO}(a:Ext H H1) (h:H p=some o):H1 p=some o:=a.same _ _ h
theorem optK_at {xs:List V}{i:Int}{k:V->Prop}(h0:0≤i) (h1:i < xs.length) (h:∀ v∈xs,k v):optK (atI xs i) k:=by
 obtain ⟨v,e,m⟩:=atI_lt xs i h0 h1
 rw [e];exact h v m
theorem cx_K (CX:CXT) (P:Program) (w:World) (K:PySem.W.Frag) (mg:Str->Option Value) (base:Heap) (N:List Str) (qual:Str) (scope:Scope) (f:Addr) (cd:Value) (A:Around) (outer:List Env) (s:Shared) (H:Hp) (E:XK):(cxOf CX P w K mg base N qual scope f cd A outer s H E).K=K:=rfl
theorem call_qIsE' {X:Cx}{K:PySem.W.Frag}(h:X.K=K):CallR X (.builtin "isinstance") (qIsE K):=h ▸ call_qIsE
theorem map_toNat_inj:∀ {a b:List Char},a.map Char.toNat=b.map Char.toNat->a=b
 | [],[],_=>rfl
 | [],_::_,h=>by cases h
 | _::_,[],h=>by cases h
 | x::r,y::q,h=>by
  simp only [List.map_cons,List.cons.injEq] at h
  have e:x=y:=by
   have z:x.val.toNat=y.val.toNat:=h.1
   exact Char.ext (UInt32.toNat_inj.mp z)
  rw [e,map_toNat_inj h.2]
theorem ofString_inj (a b:String):(Str.ofString a=Str.ofString b)=(a=b):=by
 refine propext ⟨fun h=>?_,fun h=>by rw [h]⟩
 rw [Str.ofString_eq_toList,Str.ofString_eq_toList] at h
 have e:(a.toList.map Char.toNat).toArray=(b.toList.map Char.toNat).toArray:=congrArg Str.cps h
 have e2:=map_toNat_inj (congrArg Array.toList e)
 exact String.ext e2
theorem cls_some {K:PySem.W.Frag}{C:Addr}(h:PySem.W.hasDictIn K C=true):(PySem.W.clsIn K C).isSome=true:=by
 obtain ⟨cd,hc,_⟩:=PySem.W.any_some h
 rw [hc];rfl
theorem kit_yes {K:PySem.W.Frag}{A C:Addr}(h1:PySem.W.hasDictIn K C=true) (h2:PySem.W.typeIn K (.ref C)=some (.type "type")) (h3:PySem.W.subIn K (.ref A) (.ref C)=some true):PySem.W.kitOne K (.ref A) (.ref C)=some true:=by
 unfold PySem.W.kitOne
 split
 ·rfl
 ·show (if _ then _ else _)=_
  rw [cls_some h1,h2,if_pos (by decide),h3]
theorem kit_no {K:PySem.W.Frag}{A C:Addr}(h0:(A == C)=false) (h1:PySem.W.hasDictIn K C=true) (h2:PySem.W.typeIn K (.ref C)=some (.type "type")) (h3:PySem.W.subIn K (.ref A) (.ref C)=some false):PySem.W.kitOne K (.ref A) (.ref C)=some false:=by
 unfold PySem.W.kitOne
 rw [if_neg (by intro z;have e:A=C:=Value.ref.inj (beq_iff_eq.mp z);rw [e] at h0;simp at h0)]
 show (if _ then _ else _)=_
 rw [cls_some h1,h2,if_pos (by decide),h3]
theorem kit_ty {K:PySem.W.Frag}{A:Addr}{n:String}{b:Bool}(h1:PySem.W.kitMeta n=true) (h3:PySem.W.subIn K (.ref A) (.type n)=some b):PySem.W.kitOne K (.ref A) (.type n)=some b:=by
 unfold PySem.W.kitOne
 rw [if_neg (by intro z;have e:=beq_iff_eq.mp z;cases e)]
 show (if _ then _ else _)=_
 rw [if_pos h1,h3]
def isW (H:Hp):V->Option Bool
 | .int _=>some true
 | .bl _=>some false
 | .non=>some false
 | .str _=>some false
 | .ref p=>((H p).bind tyO).map fun _=>false
 | _=>none
theorem isW_int' (H:Hp) (i:Int):isW H (.int i)=some true:=rfl
theorem isW_ref' (H:Hp) (p:Addr):isW H (.ref p)=((H p).bind tyO).map fun _=>false:=rfl
theorem isW_obj {H:Hp}{p:Addr}{b:Bool}(h:isW H (.ref p)=some b):b=false∧∃ o,H p=some o∧(tyO o=some "list" ∨ tyO o=some "tuple" ∨ tyO o=some "dict"):=by
 rw [isW_ref'] at h
 cases e:H p with
 | none=>rw [e] at h;cases h
 | some o=>
  rw [e] at h
  have h':(tyO o).map (fun _=>false)=some b:=h
  cases e2:tyO o with
  | none=>rw [e2] at h';cases h'
  | some t=>
   rw [e2] at h';cases h'
   refine ⟨rfl,o,rfl,?_⟩
   cases o with
   | lst xs=>exact .inl rfl
   | tup xs=>exact .inr (.inl rfl)
   | dK xs=>exact .inr (.inr rfl)
   | dT xs=>exact .inr (.inr rfl)
   | frz ob u=>cases u with
    | lst xs=>exact .inl rfl
    | _=>cases e2
   | _=>cases e2
end L2
set_option Elab.async false
set_option linter.all false
set_option maxRecDepth 100000
set_option maxHeartbeats 4000000
namespace L2
open PySem PySem.Spec PyProof.Rows
theorem optK_mono {α:Type}{o:Option α}{k k':α->Prop}(m:∀ x,k x->k' x) (h:optK o k):optK o k':=by
 obtain ⟨x,e,q⟩:=optK_ex h
 rw [e];exact m x q
def kInts (F:List Int->Prop):List V->Prop:=fun xs=>∃ ns,xs=ns.map V.int∧F ns
theorem optK_ints {xs:List V}{i:Int}{k:V->Prop}(P:Int->Prop) (h0:0≤i) (h1:i < xs.length) (hx:∀ v∈xs,∃ j,v=.int j∧P j) (h:∀ j,P j->k (.int j)):optK (atI xs i) k:=optK_at h0 h1 fun v hv=>by
 obtain ⟨j,rfl,hj⟩:=hx v hv
 exact h j hj
def kSlN (lo hi:Option Int) (H:Hp) (Q:VK):List V->Prop:=fun xs=>∀ p,H p=none->Q (.ref p) (upd H p (.lst (cutV xs lo hi)))
def qSlL:V->Option Int->Option Int->Hp->VK->Prop:=fun x lo hi H Q=>match x with
 | .ref a=>optK (lstAt H a) (kSlN lo hi H Q)
 | _=>False
theorem sl_q {X:Cx}:SlR X qSlL:=sl_list.mono fun x lo hi H Q h=>by
 unfold qSlL at h
 split at h
 ·rename_i a
  obtain ⟨xs,e,q⟩:=optK_ex h
  exact ⟨a,xs,rfl,SqL.of (lst_of e),q⟩
 ·exact h.elim
def kSl3 (r:V->Option Int->Option Int->Hp->VK->Prop) (x:V) (l:Option Int) (Q:VK):Option Int->Hp->Prop:=fun u H=>r x l u H Q
theorem m_kSl3 (r:V->Option Int->Option Int->Hp->VK->Prop) (x:V) (l:Option Int) (Q:VK) (u:Option Int) (H:Hp):kSl3 r x l Q u H=r x l u H Q:=rfl
def kSl2 (r:V->Option Int->Option Int->Hp->VK->Prop) (th:TO) (σ:St) (x:V) (Q:VK):Option Int->Hp->Prop:=fun l H=>th σ H (kSl3 r x l Q)
theorem m_kSl2 (r:V->Option Int->Option Int->Hp->VK->Prop) (th:TO) (σ:St) (x:V) (Q:VK) (l:Option Int) (H:Hp):kSl2 r th σ x Q l H=th σ H (kSl3 r x l Q):=rfl
def kSl1 (r:V->Option Int->Option Int->Hp->VK->Prop) (tl th:TO) (σ:St) (Q:VK):VK:=fun x H=>tl σ H (kSl2 r th σ x Q)
theorem m_kSl1 (r:V->Option Int->Option Int->Hp->VK->Prop) (tl th:TO) (σ:St) (Q:VK) (x:V) (H:Hp):kSl1 r tl th σ Q x H=tl σ H (kSl2 r th σ x Q):=rfl
theorem m_tSl (r:V->Option Int->Option Int->Hp->VK->Prop) (te:TE) (tl th:TO) (σ:St) (H:Hp) (Q:VK):tSl r te tl th σ H Q=te σ H (kSl1 r tl th σ Q):=rfl
theorem m_tNoPart (σ:St) (H:Hp) (Q:Option Int->Hp->Prop):tNoPart σ H Q=Q none H:=rfl
def kPart (Q:Option Int->Hp->Prop):VK:=fun x H=>∃ i,x=.int i∧Q (some i) H
theorem m_kPart (Q:Option Int->Hp->Prop) (i:Int) (H:Hp):kPart Q (.int i) H=Q (some i) H:=propext ⟨fun ⟨_,e,q⟩=>by cases e;exact q,fun q=>⟨i,rfl,q⟩⟩
theorem m_tPart (t:TE) (σ:St) (H:Hp) (Q:Option Int->Hp->Prop):tPart t σ H Q=t σ H (kPart Q):=rfl
end L2
set_option Elab.async false
set_option linter.all false
set_option maxRecDepth 100000
set_option maxHeartbeats 4000000
namespace L2
open PySem PySem.Spec PyProof.Rows
def newK (o:HO) (H:Hp) (Q:VK):Prop:=∀ (p:Addr) (H':Hp),H p=none->Ext H H'->H' p=some o->Q (.ref p) H'
theorem newK.to {o:HO}{H:Hp}{Q:VK}(h:newK o H Q):∀ p,H p=none->Q (.ref p) (upd H p o):=fun p hp=>h p _ hp (Ext.new hp) upd_same
def kQT (Q:VK):List V->Hp->Prop:=fun xs H=>xs.length≤sizeLine∧newK (.tup xs) H Q
theorem m_kQT (Q:VK) (xs:List V) (H:Hp):kQT Q xs H=(xs.length≤sizeLine∧newK (.tup xs) H Q):=rfl
def kQL (Q:VK):List V->Hp->Prop:=fun xs H=>xs.length≤sizeLine∧newK (.lst xs) H Q
theorem m_kQL (Q:VK) (xs:List V) (H:Hp):kQL Q xs H=(xs.length≤sizeLine∧newK (.lst xs) H Q):=rfl
def qTup (t:TA):TE:=fun σ H Q=>t σ H (kQT Q)
theorem m_qTup (t:TA) (σ:St) (H:Hp) (Q:VK):qTup t σ H Q=t σ H (kQT Q):=rfl
def qLst (t:TA):TE:=fun σ H Q=>t σ H (kQL Q)
theorem m_qLst (t:TA) (σ:St) (H:Hp) (Q:VK):qLst t σ H Q=t σ H (kQL Q):=rfl
section
variable {X:Cx}{es:List Expr}{t:TA}{pos:Pos}
theorem pe_qTup {x1}(h:PA X es t):PE X (.Tuple es x1 pos) (qTup t):=by
 intro pins s σ H Q I hq
 refine wpAny_Tuple_spliced (thn (h pos pins s σ H _ I hq) fun us s1 ⟨xs,H1,I1,r,z,q⟩=>⟨by rw [←r.length];exact z,?_⟩)
 have hf:H1 s1.heap.objs.size=none:=I1.hok.fresh (Nat.le_refl _)
 refine ⟨.ref s1.heap.objs.size,upd H1 s1.heap.objs.size (.tup xs),I1.laid (t':=s1.toks) (fun b u e=>Heap.get?_push_of_some _ e) (Nat.le_refl _) ?_,rfl,q.to _ hf⟩
 exact ⟨z,us,r,⟨_,Heap.get?_push_size _ rfl,rfl,_,rfl⟩⟩
theorem pe_qLst (h:PA X es t):PE X (.List es pos) (qLst t):=by
 intro pins s σ H Q I hq
 refine wpAny_List_spliced (thn (h pos pins s σ H _ I hq) fun us s1 ⟨xs,H1,I1,r,z,q⟩=>⟨by rw [←r.length];exact z,?_⟩)
 have hf:H1 s1.heap.objs.size=none:=I1.hok.fresh (Nat.le_refl _)
 refine ⟨.ref s1.heap.objs.size,upd H1 s1.heap.objs.size (.lst xs),I1.laid (t':=s1.toks) (fun b u e=>Heap.get?_push_of_some _ e) (Nat.le_refl _) ?_,rfl,q.to _ hf⟩
 exact ⟨z,us,0,r,Heap.get?_push_size _ rfl⟩
end
def kN (f:List V->HO) (H:Hp) (Q:VK):List V->Prop:=fun ys=>newK (f ys) H Q
theorem m_kN (f:List V->HO) (H:Hp) (Q:VK) (ys:List V):kN f H Q ys=newK (f ys) H Q:=rfl
def nList (xs:List V) (H:Hp) (Q:VK):Prop:=match xs with
 | [.ref p]=>optK (itemsAt H p) (kN .lst H Q)
 | _=>False
theorem m_nList (p:Addr) (H:Hp) (Q:VK):nList [.ref p] H Q=optK (itemsAt H p) (kN .lst H Q):=rfl
theorem call_nList {X:Cx}:CallR X (.type "list") nList:=call_qList.mono fun xs H Q h=>by
 unfold nList at h
 split at h
 ·exact optK_mono (fun _ q=>q.to) h
 ·exact h.elim
def kNT (p:Addr) (H:Hp) (Q:VK):HO->Prop:=fun o=>match o with
 | .lst ys=>newK (.tup ys) H Q
 | .tup _=>Q (.ref p) H
 | _=>False
theorem m_kNT_l (p:Addr) (H:Hp) (Q:VK) (ys:List V):kNT p H Q (.lst ys)=newK (.tup ys) H Q:=rfl
def nTuple (xs:List V) (H:Hp) (Q:VK):Prop:=match xs with
 | [.ref p]=>optK (H p) (kNT p H Q)
 | _=>False
theorem m_nTuple (p:Addr) (H:Hp) (Q:VK):nTuple [.ref p] H Q=optK (H p) (kNT p H Q):=rfl
theorem call_nTuple {X:Cx}:CallR X (.type "tuple") nTuple:=call_qTuple.mono fun xs H Q h=>by
 unfold nTuple at h
 split at h
 ·refine optK_mono (fun o q=>?_) h
  unfold kNT at q
  unfold kTupO
  split at q
  ·exact q.to
  ·exact q
  ·exact q.elim
 ·exact h.elim
def kNC2 (xs:List V) (H:Hp) (Q:VK):List V->Prop:=fun ys=>xs.length+ys.length≤sizeLine∧newK (.lst (xs++ys)) H Q
theorem m_kNC2 (xs:List V) (H:Hp) (Q:VK) (ys:List V):kNC2 xs H Q ys=(xs.length+ys.length≤sizeLine∧newK (.lst (xs++ys)) H Q):=rfl
def kNC1 (b:Addr) (H:Hp) (Q:VK):List V->Prop:=fun xs=>optK (lstAt H b) (kNC2 xs H Q)
theorem m_kNC1 (b:Addr) (H:Hp) (Q:VK) (xs:List V):kNC1 b H Q xs=optK (lstAt H b) (kNC2 xs H Q):=rfl
def nCat:R2:=fun x y H Q=>match x,y with
 | .ref l,.ref b=>optK (lstAt H l) (kNC1 b H Q)
 | _,_=>False
theorem m_nCat (l b:Addr) (H:Hp) (Q:VK):nCat (.ref l) (.ref b) H Q=optK (lstAt H l) (kNC1 b H Q):=rfl
theorem op_nCat {X:Cx}:OpR X (binaryOp .Add) nCat:=op_cat.mono fun x y H Q h=>by
 unfold nCat at h
 split at h
 ·rw [m_rCat]
  exact optK_mono (fun _ q=>optK_mono (fun _ q=>⟨q.1,q.2.to⟩) q) h
 ·exact h.elim
def kNS (lo hi:Option Int) (H:Hp) (Q:VK):List V->Prop:=fun xs=>newK (.lst (cutV xs lo hi)) H Q
theorem m_kNS (lo hi:Option Int) (H:Hp) (Q:VK) (xs:List V):kNS lo hi H Q xs=newK (.lst (cutV xs lo hi)) H Q:=rfl
def nSl:V->Option Int->Option Int->Hp->VK->Prop:=fun x lo hi H Q=>match x with
 | .ref a=>optK (lstAt H a) (kNS lo hi H Q)
 | _=>False
theorem m_nSl (a:Addr) (lo hi:Option Int) (H:Hp) (Q:VK):nSl (.ref a) lo hi H Q=optK (lstAt H a) (kNS lo hi H Q):=rfl
theorem sl_n {X:Cx}:SlR X nSl:=sl_q.mono fun x lo hi H Q h=>by
 unfold nSl at h
 split at h
 ·exact optK_mono (fun _ q=>q.to) h
 ·exact h.elim
theorem PE.mono {X:Cx}{e:Expr}{t t':TE}(h:PE X e t) (m:∀ σ H Q,t' σ H Q->t σ H Q):PE X e t':=fun pins s σ H Q I q=>h pins s σ H Q I (m _ _ _ q)
def nDNew:TE:=fun _ H Q=>newK (.dK []) H Q
theorem m_nDNew (σ:St) (H:Hp) (Q:VK):nDNew σ H Q=newK (.dK []) H Q:=rfl
theorem pe_nDNew {X:Cx}{pos:Pos}:PE X (.Dict [] [] pos) nDNew:=pe_dnewK.mono fun _ _ _ h=>h.to
end L2
set_option Elab.async false
set_option linter.all false
set_option maxRecDepth 100000
set_option maxHeartbeats 4000000
namespace L2
open PySem PySem.Spec PyProof.Rows
section
variable {prog:Program}{w:World}{A:Around}{E:Value->Shared->Prop}{s:Shared}
end
section
variable {X:Cx}{pos:Pos}
end
end L2
set_option Elab.async false
set_option linter.all false
set_option maxRecDepth 100000
set_option maxHeartbeats 4000000
namespace L2
open PySem PySem.Spec PyProof.Rows
section
variable {X:Cx}{tg:Expr}
end
end L2
set_option Elab.async false
set_option linter.all false
set_option maxRecDepth 100000
set_option maxHeartbeats 4000000
namespace L2
open PySem PySem.Spec PyProof.Rows
theorem preSum_ints:∀ (n:Nat) (ns:List Int) (val:Nat->Int),(∀ i,val i=ns.getD i 0)->n≤ns.length->preSum val n=(ns.take n).sum
 | 0,ns,val,h,hl=>by simp [preSum]
 | n+1,ns,val,h,hl=>by
  have ih:=preSum_ints n ns val h (by omega)
  have e:ns.take (n+1)=ns.take n++[ns.getD n 0]:=by
   rw [List.take_succ,List.getElem?_eq_getElem (by omega)]
   simp [List.getD,List.getElem?_eq_getElem (show n < ns.length by omega)]
  rw [preSum,ih,e,List.sum_append,h]
  simp
def kSumI (H:Hp) (Q:VK):List Int->Prop:=fun ns=>Q (.int ns.sum) H
def qSum:List V->Hp->VK->Prop:=fun vs H Q=>match vs with
 | [.ref p]=>optK (lstAt H p) (kInts (kSumI H Q))
 | _=>False
def kBls (F:List Bool->Prop):List V->Prop:=fun xs=>∃ bs,xs=bs.map V.bl∧F bs
theorem bls_inj:∀ {ns ms:List Bool},ns.map V.bl=ms.map V.bl->ns=ms
 | [],[],_=>rfl
 | [],_::_,h=>by cases h
 | _::_,[],h=>by cases h
 | i::r,j::t,h=>by
  simp only [List.map_cons,List.cons.injEq,V.bl.injEq] at h
  rw [h.1,bls_inj h.2]
theorem m_kBls (F:List Bool->Prop) (bs:List Bool):kBls F (bs.map V.bl)=F bs:=propext ⟨fun ⟨ms,e,h⟩=>by rw [bls_inj e];exact h,fun h=>⟨bs,rfl,h⟩⟩
def kAllB (H:Hp) (Q:VK):List Bool->Prop:=fun bs=>Q (.bl (bs.all id)) H
theorem m_kAllB (H:Hp) (Q:VK) (bs:List Bool):kAllB H Q bs=Q (.bl (bs.all id)) H:=rfl
def qAll:List V->Hp->VK->Prop:=fun vs H Q=>match vs with
 | [.ref p]=>optK (lstAt H p) (kBls (kAllB H Q))
 | _=>False
theorem m_qAll (p:Addr) (H:Hp) (Q:VK):qAll [.ref p] H Q=optK (lstAt H p) (kBls (kAllB H Q)):=rfl
section
variable {X:Cx}
theorem call_qSum (hc:X.calm=true):CallR X (.builtin "sum") qSum:=by
 intro pins s σ H vs us Q I r h
 unfold qSum at h
 split at h
 ·rename_i p
  obtain ⟨xs,e,ns,rfl,q⟩:=optK_ex h
  cases r with
  | cons r rr=>
   cases rr
   cases r
   obtain ⟨its,rv,pl,hz⟩:=I.list (SqL.of (lst_of e))
   have hlt:p < s.heap.objs.size:=by obtain ⟨_,e,_⟩:=pl.isList;exact Heap.lt_size e
   have hlen:its.length=ns.length:=by have:=rv.length;simpa using this.symm
   refine call_sum_walkAnyS (wpAny_pyIter_list pl.isList ⟨s.heap.objs.size,_,_,_,_,_,_,fun i=>ns.getD i 0,rfl,(Walks.list (show X.A.in1.handled=none from I.ok.hd hc) _ p (Nat.ne_of_lt hlt) its.toArray).toS,⟨⟨_,Heap.get?_push_size _ rfl,rfl,rfl⟩,pl.isList.push _⟩,fun b hb=>?_,fun i v hP=>?_,fun s' t' hm=>?_⟩)
   ·rw [Heap.size_push]
    rcases List.mem_cons.mp hb with rfl|hb
    ·exact Nat.lt_succ_self _
    ·rw [List.mem_singleton.mp hb];exact Nat.lt_succ_of_lt hlt
   ·have hv:its[i]? = some v:=by simpa using hP
    have hi:i < ns.length:=by rw [←hlen];exact (List.getElem?_eq_some_iff.mp hv).1
    obtain ⟨u,hu,ru⟩:=rv.get (i:=i) (x:=.int (ns.getD i 0)) (by rw [List.getElem?_map,List.getElem?_eq_getElem hi];simp [List.getD,List.getElem?_eq_getElem hi])
    rw [hv] at hu
    cases hu
    exact ru
   ·obtain ⟨hp,g,d,tk,os⟩:=s'
    have kp:∀ b o,s.heap.get? b=some o->hp.get? b=some o:=fun b o e=>hm.heap b o (fun hmem=>by
     have:b=s.heap.objs.size:=by simpa using hmem
     subst this
     exact absurd (Heap.lt_size e) (Nat.lt_irrefl _)) (Heap.get?_push_of_some _ e)
    have e1:g=s.gens:=hm.gens
    have e2:d=s.drawn:=hm.drawn
    have e3:os=s.os:=hm.os
    subst e1 e2 e3
    refine ⟨.int ns.sum,H,I.kept (t':=tk) kp,?_,q⟩
    have es:=preSum_ints its.toArray.size ns (fun i=>ns.getD i 0) (fun _=>rfl) (by simp [hlen])
    rw [show its.toArray.size=ns.length by simp [hlen],List.take_length] at es
    rw [show its.toArray.size=ns.length by simp [hlen],es]
    exact ⟨t',rfl⟩
 ·exact h.elim
theorem all_range (bs:List Bool):(List.range bs.length).all (fun i=>bs.getD i false)=bs.all id:=by
 rw [Bool.eq_iff_iff,List.all_eq_true,List.all_eq_true]
 refine ⟨fun h x hx=>?_,fun h i hi=>?_⟩
 ·obtain ⟨i,hi,e⟩:=List.getElem_of_mem hx
  have:=h i (List.mem_range.mpr hi)
  simpa [List.getD,List.getElem?_eq_getElem hi,e] using this
 ·have hi':=List.mem_range.mp hi
  have:=h (bs[i]) (List.getElem_mem hi')
  simpa [List.getD,List.getElem?_eq_getElem hi'] using this
theorem call_qAll (hc:X.calm=true):CallR X (.builtin "all") qAll:=by
 intro pins s σ H vs us Q I r h
 unfold qAll at h
 split at h
 ·rename_i p
  obtain ⟨xs,e,bs,rfl,q⟩:=optK_ex h
  cases r with
  | cons r rr=>
   cases rr
   cases r
   obtain ⟨its,rv,pl,hz⟩:=I.list (SqL.of (lst_of e))
   have hlt:p < s.heap.objs.size:=by obtain ⟨_,e,_⟩:=pl.isList;exact Heap.lt_size e
   have hlen:its.length=bs.length:=by have:=rv.length;simpa using this.symm
   refine call_all_walk (wpAny_pyIter_list pl.isList ⟨s.heap.objs.size,_,_,_,_,_,fun i=>bs.getD i false,rfl,Walks.list (show X.A.in1.handled=none from I.ok.hd hc) _ p (Nat.ne_of_lt hlt) its.toArray,⟨⟨_,Heap.get?_push_size _ rfl,rfl,rfl⟩,pl.isList.push _⟩,fun i v s' Q' E' hP hQ=>?_,fun h' tk hk=>?_⟩)
   ·have hv:its[i]? = some v:=by simpa using hP
    have hi:i < bs.length:=by rw [←hlen];exact (List.getElem?_eq_some_iff.mp hv).1
    obtain ⟨u,hu,ru⟩:=rv.get (i:=i) (x:=.bl (bs.getD i false)) (by rw [List.getElem?_map,List.getElem?_eq_getElem hi];simp [List.getD,List.getElem?_eq_getElem hi])
    rw [hv] at hu
    cases hu
    have e2:v=.bool (bs.getD i false):=ru
    subst e2
    exact wpAny_truthy_bool hQ
   ·have kp:∀ b o,s.heap.get? b=some o->h'.get? b=some o:=fun b o e=>hk b o (fun hmem=>by
     have:b=s.heap.objs.size:=by simpa using hmem
     subst this
     exact absurd (Heap.lt_size e) (Nat.lt_irrefl _)) (Heap.get?_push_of_some _ e)
    refine ⟨.bl (bs.all id),H,I.kept (t':=tk) kp,?_,q⟩
    rw [show its.toArray.size=bs.length by simp [hlen],all_range]
    exact rfl
 ·exact h.elim
end
end L2
set_option Elab.async false
set_option linter.all false
set_option maxRecDepth 100000
set_option maxHeartbeats 4000000
namespace L2
open PySem PySem.Spec PyProof.Rows
section
variable {prog:Program}{w:World}{A:Around}{E:Value->Shared->Prop}{s:Shared}
structure Apart2 (z TI TO i j:Addr) (f g:List Addr):Prop where
 ti:TI ≠ z∧TI ≠ TO∧TI ≠ i∧TI ≠ j
 zt:z ≠ TO
 zf:z ∉ f
 zg:z ∉ g
 tf:TO ∉ f
 tg:TO ∉ g
 ig:i ∉ g
 jf:j ∉ f
variable {z TI TO i j:Addr}{f g:List Addr}{ti tj:Nat->Heap->Prop}{vi vj:Nat->Option Value}{k m:Nat}{x y a b:Value}
end
end L2
set_option Elab.async false
set_option linter.all false
set_option maxRecDepth 100000
set_option maxHeartbeats 4000000
namespace L2
open PySem PySem.Spec PyProof.Rows
def SeqAt (h:Heap) (k:Bool) (l:Addr) (xs:Array Value):Prop:=match k with
 | true=>h.IsTuple l xs
 | false=>h.IsList l xs
section
variable {prog:Program}{w:World}{A:Around}{E:Value->Shared->Prop}{s:Shared}
end
section
variable {X:Cx}{pins:List (Addr × Obj)}{σ:List (Option V)}{H:Hp}{s:Shared}{h':Heap}
end
section
variable {X:Cx}
end
end L2
set_option Elab.async false
set_option linter.all false
set_option maxRecDepth 100000
set_option maxHeartbeats 4000000
namespace L2
open PySem PySem.Spec PyProof.Rows
def kCm2 (te:TE) (σ2:St) (N1:VK) (N0:Hp->Prop):Bool->Hp->Prop:=fun b H=>if b=true then te σ2 H N1 else N0 H
theorem m_kCm2 (te:TE) (σ2:St) (N1:VK) (N0:Hp->Prop) (b:Bool) (H:Hp):kCm2 te σ2 N1 N0 b H=(if b=true then te σ2 H N1 else N0 H):=rfl
def kCm (k:Nat) (tt:TT) (te:TE) (σ:St) (N1:VK) (N0:Hp->Prop):St->Hp->Prop:=fun σ2 H=>(∃ vs:St,vs.length=k∧σ2=vs++σ)∧tt σ2 H (kCm2 te σ2 N1 N0)
theorem m_kCm_1 (tt:TT) (te:TE) (σ:St) (N1:VK) (N0:Hp->Prop) (a:Option V) (H:Hp):kCm 1 tt te σ N1 N0 (a::σ) H=tt (a::σ) H (kCm2 te (a::σ) N1 N0):=propext ⟨fun h=>h.2,fun h=>⟨⟨[a],rfl,rfl⟩,h⟩⟩
theorem m_rep_1 (σ:St):List.replicate 1 (none:Option V)++σ=none::σ:=rfl
def Al {α:Type}(R:α->V->Prop) (zs:List α) (ys:List V):Prop:=ys.length=zs.length∧∀ (i:Nat) z y,zs[i]? = some z->ys[i]? = some y->R z y
theorem Al.nil {α:Type}{R:α->V->Prop}:Al R [] []:=⟨rfl,fun i z y h=>by simp at h⟩
theorem Al.snoc {α:Type}{R:α->V->Prop}{zs:List α}{ys:List V}{z:α}{y:V}(h:Al R zs ys) (r:R z y):Al R (zs++[z]) (ys++[y]):=by
 refine ⟨by simp [h.1],fun i z' y' h1 h2=>?_⟩
 by_cases hi:i < zs.length
 ·rw [List.getElem?_append_left hi] at h1
  rw [List.getElem?_append_left (by rw [h.1];exact hi)] at h2
  exact h.2 i z' y' h1 h2
 ·rw [List.getElem?_append_right (by omega)] at h1
  rw [List.getElem?_append_right (by rw [h.1];omega),h.1] at h2
  by_cases h0:i - zs.length=0
  ·rw [h0] at h1 h2;simp at h1 h2;subst h1;subst h2;exact r
  ·rw [List.getElem?_eq_none (by simp;omega)] at h1;cases h1
theorem Al.imp {α:Type}{R S:α->V->Prop}{zs:List α}{ys:List V}(h:Al R zs ys) (f:∀ z y,R z y->S z y):Al S zs ys:=⟨h.1,fun i z y a b=>f z y (h.2 i z y a b)⟩
theorem Al.map {α:Type}{f:α->V}{zs:List α}{ys:List V}(h:Al (fun z y=>y=f z) zs ys):ys=zs.map f:=by
 apply List.ext_getElem?
 intro i
 rw [List.getElem?_map]
 by_cases hi:i < zs.length
 ·have e1:zs[i]? = some zs[i]:=List.getElem?_eq_getElem hi
  have e2:ys[i]? = some (ys[i]'(by rw [h.1];exact hi)):=List.getElem?_eq_getElem _
  rw [e1,e2,h.2 i _ _ e1 e2];rfl
 ·have:=h.1;rw [List.getElem?_eq_none (show ys.length≤i by omega),List.getElem?_eq_none (show zs.length≤i by omega)];rfl
section
variable {k:Nat}{g:TG}{tt:TT}{te:TE}{σ:St}{Q:VK}{H:Hp}{K:PySem.W.Frag}
theorem comp_rel {α:Type}{J:It}(zs:List α) (c:α->Bool) (P:α->V->Hp->Prop) (R:Addr->α->V->Hp->Prop)
  (hgo:∀ i z H',zs[i]? = some z->Ext H H'->J.go i H'∧∀ x H'',J.yld i H' x H''->Ext H' H''∧P z x H'')
  (hst:∀ H',Ext H H'->J.stop zs.length H')
  (hR1:∀ D z y H1 H2,R D z y H1->Ext H1 H2->R D z y H2) (hR2:∀ D z y H1 o,R D z y H1->R D z y (upd H1 D o))
  (hl:zs.length≤sizeLine)
  (hs:∀ D z x H' N1 N0,z∈zs->H D=none->Ext H H'->(∃ ys,H' D=some (.lst ys))->P z x H'->(c z=true->∀ y H'',Ext H' H''->R D z y H''->N1 y H'')->(c z=false->∀ H'',Ext H' H''->N0 H'')->g x (List.replicate k none++σ) H' (kCm k tt te σ N1 N0))
  (hd:∀ D ys H',H D=none->Ext H H'->H' D=some (.lst ys)->Al (fun z y=>R D z y H') (zs.filter c) ys->Q (.ref D) H'):kComp k g tt te σ Q J H:=by
 intro D hD
 refine ⟨fun i m ys H'=>m=zs.length - i∧i≤zs.length∧Ext H H'∧H' D=some (.lst ys)∧Al (fun z y=>R D z y H') ((zs.take i).filter c) ys,⟨zs.length,by simp,Nat.zero_le _,Ext.new hD,upd_same,by simpa using Al.nil⟩,?_⟩
 rintro i m ys H' ⟨rfl,hi,e,hD',al⟩
 by_cases hlt:i < zs.length
 ·have hz:zs[i]? = some zs[i]:=List.getElem?_eq_getElem hlt
  obtain ⟨go,y⟩:=hgo i zs[i] H' hz e
  have tk:zs.take (i+1)=zs.take i++[zs[i]]:=by rw [List.take_succ,hz];rfl
  have ln:ys.length < sizeLine:=by
   have h1:=al.1
   have h2:=List.length_filter_le c (zs.take i)
   simp only [List.length_take] at h2
   omega
  refine .inr ⟨go,fun ys' H2=>Ext H H2∧H2 D=some (.lst ys')∧Al (fun z y=>R D z y H2) ((zs.take (i+1)).filter c) ys',fun ys' H2 p=>⟨zs.length - (i+1),by omega,rfl,hlt,p⟩,fun x H2 z=>?_⟩
  obtain ⟨e2,p2⟩:=y x H2 z
  refine hs D zs[i] x H2 (kC3 D ys _) _ (List.getElem_mem hlt) hD (e.trans e2) ⟨ys,e2.at hD'⟩ p2 (fun hc y H3 e3 r3=>?_) fun hc H3 e3=>?_
  ·refine ⟨e3.at (e2.at hD'),ln,(e.trans (e2.trans e3)).put hD,upd_same,?_⟩
   rw [tk,List.filter_append,show [zs[i]].filter c=[zs[i]] by simp [hc]]
   exact Al.snoc (al.imp fun z y r=>hR2 _ _ _ _ _ (hR1 _ _ _ _ _ r (e2.trans e3))) (hR2 _ _ _ _ _ r3)
  ·refine ⟨e.trans (e2.trans e3),(e2.trans e3).at hD',?_⟩
   rw [tk,List.filter_append,show [zs[i]].filter c=[] by simp [hc],List.append_nil]
   exact al.imp fun z y r=>hR1 _ _ _ _ _ r (e2.trans e3)
 ·have e':i=zs.length:=by omega
  subst e'
  rw [List.take_length] at al
  exact .inl ⟨hst H' e,hd D ys H' hD e hD' al⟩
theorem comp_fm {α:Type}{J:It}(zs:List α) (c:α->Bool) (f:α->V) (P:α->V->Hp->Prop)
  (hgo:∀ i z H',zs[i]? = some z->Ext H H'->J.go i H'∧∀ x H'',J.yld i H' x H''->Ext H' H''∧P z x H'')
  (hst:∀ H',Ext H H'->J.stop zs.length H') (hl:zs.length≤sizeLine)
  (hs:∀ D z x H' N1 N0,z∈zs->H D=none->Ext H H'->P z x H'->(c z=true->∀ H'',Ext H' H''->N1 (f z) H'')->(c z=false->∀ H'',Ext H' H''->N0 H'')->g x (List.replicate k none++σ) H' (kCm k tt te σ N1 N0))
  (hd:∀ D H',H D=none->Ext H H'->H' D=some (.lst ((zs.filter c).map f))->Q (.ref D) H'):kComp k g tt te σ Q J H:=
 comp_rel zs c P (fun _ z y _=>y=f z) hgo hst (fun _ _ _ _ _ r _=>r) (fun _ _ _ _ _ r=>r) hl (fun D z x H' N1 N0 hz hD e _ p k1 k0=>hs D z x H' N1 N0 hz hD e p (fun hc H'' e'=>k1 hc _ H'' e' rfl) k0) fun D ys H' hD e hD' al=>hd D H' hD e (by rw [←al.map];exact hD')
theorem wk_rng {lo:Int}{n:Nat}:(∀ i z H',(List.range n)[i]? = some z->Ext H H'->(Itr lo n).go i H'∧∀ x H'',(Itr lo n).yld i H' x H''->Ext H' H''∧x=.int (lo+(z:Nat)))∧∀ H',Ext H H'->(Itr lo n).stop (List.range n).length H':=by
 refine ⟨fun i z H' hz _=>?_,fun H' _=>by simp [Itr]⟩
 obtain ⟨h1,h2⟩:=List.getElem?_eq_some_iff.mp hz
 have e:i=z:=by simpa using h2
 subst e
 exact ⟨(show i < n by simpa using h1),fun x H'' y=>⟨by rw [y.1];exact Ext.refl _,y.2⟩⟩
theorem wk_lst {a:Addr}{xs:List V}(h:H a=some (.lst xs)):(∀ i z H',xs[i]? = some z->Ext H H'->(Itl K a).go i H'∧∀ x H'',(Itl K a).yld i H' x H''->Ext H' H''∧(x=z∧H'' a=some (.lst xs)))∧∀ H',Ext H H'->(Itl K a).stop xs.length H':=
 ⟨fun i z H' hz e=>⟨⟨xs,z,SqL.of (e.at h),hz⟩,fun x H'' y=>⟨by rw [y.1];exact Ext.refl _,Option.some.inj ((y.2 xs (SqL.of (e.at h))).symm.trans hz),by rw [y.1];exact e.at h⟩⟩,fun H' e=>⟨xs,SqL.of (e.at h),Nat.le_refl _⟩⟩
theorem wk_tup {a:Addr}{xs:List V}(h:H a=some (.tup xs)):(∀ i z H',xs[i]? = some z->Ext H H'->(Itt K a).go i H'∧∀ x H'',(Itt K a).yld i H' x H''->Ext H' H''∧(x=z∧H'' a=some (.tup xs)))∧∀ H',Ext H H'->(Itt K a).stop xs.length H':=
 ⟨fun i z H' hz e=>⟨⟨xs,z,SqT.of (e.at h),hz⟩,fun x H'' y=>⟨by rw [y.1];exact Ext.refl _,Option.some.inj ((y.2 xs (SqT.of (e.at h))).symm.trans hz),by rw [y.1];exact e.at h⟩⟩,fun H' e=>⟨xs,SqT.of (e.at h),Nat.le_refl _⟩⟩
end
def compB (sc:Scope) (N:List Str) (scope:Scope) (N':List Str) (k:Nat):Bool:=
 scope.names.all (fun y=>!(y.2 == .cell)) && (scope.kind == .function) && scope.names.all (fun y=>!(y.2 == .local) || scope.names.lookup y.1 == some .local) && scope.names.all (fun y=>!(y.2 == .free) || sc.names.lookup y.1 == some .cell) && decide (N'.length=k+N.length) &&
  ((N'.drop k).zip N).all (fun p=>(!(scope.names.lookup p.1 == some .free) || decide (p.1=p.2)) && !(scope.names.lookup p.1 == some .local))
theorem comp_ok {X:Cx}{scope:Scope}{N':List Str}{k:Nat}(sc:Scope) (N:List Str) (h1:X.env.scope=sc) (h2:X.N=N) (h:compB sc N scope N' k=true):CompOk X scope N' k:=by
 unfold compB at h
 simp only [Bool.and_eq_true,decide_eq_true_eq] at h
 obtain ⟨⟨⟨⟨⟨a1,a2⟩,a3⟩,a4⟩,a5⟩,a6⟩:=h
 rw [List.all_eq_true] at a1 a3 a4 a6
 have pr:∀ i x,N'[k+i]? = some x->∃ y,N[i]? = some y∧(x,y)∈(N'.drop k).zip N:=fun i x hx=>by
  have h0:=(List.getElem?_eq_some_iff.mp hx).1
  have hi:i < N.length:=by omega
  have e1:(N'.drop k)[i]? = some x:=by rw [List.getElem?_drop];exact hx
  have e2:N[i]? = some N[i]:=List.getElem?_eq_getElem hi
  refine ⟨_,e2,List.mem_of_getElem? (i:=i) ?_⟩
  rw [List.getElem?_zip_eq_some]
  exact ⟨e1,e2⟩
 refine ⟨fun y hy e=>?_,by simpa using a2,fun y hy e=>?_,fun y hy e=>?_,by rw [h2];exact a5,fun i x hx hf=>?_,fun i x hx hf=>?_⟩
 ·have:=a1 y hy;rw [e] at this;simp at this
 ·have:=a3 y hy;rw [e] at this;simpa using this
 ·have:=a4 y hy;rw [e] at this;rw [h1];simpa using this
 ·obtain ⟨y,hy,hm⟩:=pr i x hx
  have:=a6 _ hm
  simp only [hf] at this
  rw [h2,hy]
  simp at this
  rw [this]
 ·obtain ⟨y,hy,hm⟩:=pr i x hx
  have:=a6 _ hm
  simp [hf] at this
end L2
set_option Elab.async false
set_option linter.all false
set_option maxRecDepth 100000
set_option maxHeartbeats 4000000
namespace L2
open PySem PySem.Spec PyProof.Rows
def kFldV (H:Hp) (Q:VK):V->Prop:=fun v=>Q v H
theorem m_kFldV (H:Hp) (Q:VK) (v:V):kFldV H Q v=Q v H:=rfl
def kFldO (K:PySem.W.Frag) (f:Str) (H:Hp) (Q:VK):HO->Prop:=fun o=>match o with
 | .ins C dx fs=>Cls K C∧NoAttr K C f∧optK (fs.lookup f) (kFldV H Q)
 | _=>False
theorem m_kFldO (K:PySem.W.Frag) (f:Str) (H:Hp) (Q:VK) (C dx:Addr) (fs:List (Str × V)):kFldO K f H Q (.ins C dx fs)=(Cls K C∧NoAttr K C f∧optK (fs.lookup f) (kFldV H Q)):=rfl
def kFld (K:PySem.W.Frag) (f:Str) (Q:VK):VK:=fun x H=>match x with
 | .ref a=>optK (H a) (kFldO K f H Q)
 | _=>False
theorem m_kFld (K:PySem.W.Frag) (f:Str) (Q:VK) (a:Addr) (H:Hp):kFld K f Q (.ref a) H=optK (H a) (kFldO K f H Q):=rfl
def nFld (K:PySem.W.Frag) (ta:TE) (f:Str):TE:=fun σ H Q=>ta σ H (kFld K f Q)
theorem m_nFld (K:PySem.W.Frag) (ta:TE) (f:Str) (σ:St) (H:Hp) (Q:VK):nFld K ta f σ H Q=ta σ H (kFld K f Q):=rfl
theorem kFld_ex {K:PySem.W.Frag}{f:Str}{Q:VK}{x:V}{H:Hp}(h:kFld K f Q x H):∃ a C dx fs v,x=.ref a∧H a=some (.ins C dx fs)∧Cls K C∧NoAttr K C f∧fs.lookup f=some v∧Q v H:=by
 unfold kFld at h
 split at h
 ·obtain ⟨o,e,h⟩:=optK_ex h
  unfold kFldO at h
  split at h
  ·obtain ⟨c,n,h⟩:=h
   obtain ⟨v,l,q⟩:=optK_ex h
   exact ⟨_,_,_,_,v,rfl,e,c,n,l,q⟩
  ·exact h.elim
 ·exact h.elim
section
variable {X:Cx}{e o value:Expr}{ta tv:TE}{f:Str}{pos pos':Pos}
theorem pe_nFld (he:PE X e ta) (hb:attributeBase e f X.env (eval e X.env)=eval e X.env):PE X (.Attribute e f pos) (nFld X.K ta f):=by
 intro pins s σ H Q I h
 refine attr_of hb (thn (he pins s σ H _ I h) fun u s1 ⟨x,H1,I1,rx,q1⟩=>?_)
 obtain ⟨a,C,dx,fs,v,ex,ea,c,n,l,q⟩:=kFld_ex q1
 subst ex
 obtain rfl:u=Value.ref a:=rx
 exact getattr_ok I1 ea c n l fun u' s2 I2 ru=>⟨v,H1,I2,ru,q⟩
def kSetO (K:PySem.W.Frag) (f:Str) (y:V) (a:Addr) (σ:St) (nx:St->Hp->Prop) (H:Hp):HO->Prop:=fun o=>match o with
 | .ins C dx fs=>Cls K C∧NoAttr K C f∧fs.length < 1000∧nx σ (upd H a (.ins C dx (putF f y fs)))
 | _=>False
theorem m_kSetO (K:PySem.W.Frag) (f:Str) (y:V) (a:Addr) (σ:St) (nx:St->Hp->Prop) (H:Hp) (C dx:Addr) (fs:List (Str × V)):kSetO K f y a σ nx H (.ins C dx fs)=(Cls K C∧NoAttr K C f∧fs.length < 1000∧nx σ (upd H a (.ins C dx (putF f y fs)))):=rfl
def kSet1 (K:PySem.W.Frag) (f:Str) (y:V) (σ:St) (nx:St->Hp->Prop):VK:=fun x H=>match x with
 | .ref a=>optK (H a) (kSetO K f y a σ nx H)
 | _=>False
theorem m_kSet1 (K:PySem.W.Frag) (f:Str) (y:V) (σ:St) (nx:St->Hp->Prop) (a:Addr) (H:Hp):kSet1 K f y σ nx (.ref a) H=optK (H a) (kSetO K f y a σ nx H):=rfl
def kSet0 (K:PySem.W.Frag) (f:Str) (ta:TE) (σ:St) (nx:St->Hp->Prop):VK:=fun y H=>ta σ H (kSet1 K f y σ nx)
theorem m_kSet0 (K:PySem.W.Frag) (f:Str) (ta:TE) (σ:St) (nx:St->Hp->Prop) (y:V) (H:Hp):kSet0 K f ta σ nx y H=ta σ H (kSet1 K f y σ nx):=rfl
def nSetF (K:PySem.W.Frag) (ta tv:TE) (f:Str):TS:=fun D σ H=>tv σ H (kSet0 K f ta σ D.nx)
theorem m_nSetF (K:PySem.W.Frag) (ta tv:TE) (f:Str) (nx:St->Hp->Prop) (rt:VK) (bk ct:St->Hp->Prop) (σ:St) (H:Hp):nSetF K ta tv f ⟨nx,rt,bk,ct⟩ σ H=tv σ H (kSet0 K f ta σ nx):=rfl
theorem ps_nSetF (ha:PE X o ta) (hv:PE X value tv) (hs:swapsWith value (some (.Attribute o f pos')) pos.line X.env=pure false):PS X (.Assign [.Attribute o f pos'] value pos) (nSetF X.K ta tv f):=by
 intro pins s σ H D I h
 refine plainObj_wpAny_Assign_Attribute (thn (hv pins s σ H _ I h) fun u s1 ⟨y,H1,I1,ry,q⟩=>thn (ha pins s1 σ H1 _ I1 q) fun ov s2 ⟨x,H2,I2,rx,q1⟩=>?_) hs
 unfold kSet1 at q1
 split at q1
 ·rename_i a
  obtain rfl:ov=Value.ref a:=rx
  obtain ⟨ob,ea,q1⟩:=optK_ex q1
  unfold kSetO at q1
  split at q1
  ·obtain ⟨c,n,l,q2⟩:=q1
   exact setattr_ok I2 ea c n l ry fun s3 I3=>⟨σ,_,I3,q2⟩
  ·exact q1.elim
 ·exact q1.elim
end
section
variable {X:Cx}{CX:CXT}{k:Nat}{f C:Addr}{fd:FuncData}{ps:List Str}{sp:Sp}{dvs:List V}{ds:List Value}{E:XK}{x m:Str}{p pos apos:Pos}{e o:Expr}{es:List Expr}{ta:TE}{t:TA}
end
def kMade (x:Addr) (Q:VK):VK:=fun v H=>v=.non∧Q (.ref x) H
theorem m_kMade (x:Addr) (Q:VK) (H:Hp):kMade x Q .non H=Q (.ref x) H:=propext ⟨fun h=>h.2,fun h=>⟨rfl,h⟩⟩
def kMake (C:Addr) (sp:Sp) (dvs:List V) (E:XK) (Q:VK):List V->Hp->Prop:=fun vs H=>∀ (x dx:Addr) (H':Hp),H x=none->H dx=none->dx ≠ x->Ext H H'->H' x=some (.ins C dx [])->H' dx=some (.own x)->sp (.ref x::(vs++dvs)) H' (kMade x Q) E
theorem m_kMake_1 (C:Addr) (sp:Sp) (dvs:List V) (E:XK) (Q:VK) (a:V) (H:Hp):kMake C sp dvs E Q [a] H=∀ (x dx:Addr) (H':Hp),H x=none->H dx=none->dx ≠ x->Ext H H'->H' x=some (.ins C dx [])->H' dx=some (.own x)->sp (.ref x::a::dvs) H' (kMade x Q) E:=rfl
theorem m_kMake_2 (C:Addr) (sp:Sp) (dvs:List V) (E:XK) (Q:VK) (a b:V) (H:Hp):kMake C sp dvs E Q [a,b] H=∀ (x dx:Addr) (H':Hp),H x=none->H dx=none->dx ≠ x->Ext H H'->H' x=some (.ins C dx [])->H' dx=some (.own x)->sp (.ref x::a::b::dvs) H' (kMade x Q) E:=rfl
def nMake (C:Addr) (sp:Sp) (dvs:List V) (E:XK) (t:TA):TE:=fun σ H Q=>t σ H (kMake C sp dvs E Q)
theorem m_nMake (C:Addr) (sp:Sp) (dvs:List V) (E:XK) (t:TA) (σ:St) (H:Hp) (Q:VK):nMake C sp dvs E t σ H Q=t σ H (kMake C sp dvs E Q):=rfl
section
variable {X:Cx}{CX:CXT}{k:Nat}{f C:Addr}{fd:FuncData}{ps:List Str}{sp:Sp}{dvs:List V}{ds:List Value}{E:XK}{x m:Str}{p pos apos:Pos}{e o:Expr}{es:List Expr}{ta:TE}{t:TA}
theorem kMake.to {Q:VK}{vs:List V}{H:Hp}(h:kMake C sp dvs E Q vs H):∀ x dx,H x=none->H dx=none->dx ≠ x->sp (.ref x::(vs++dvs)) (upd (upd H dx (.own x)) x (.ins C dx [])) (fun v H2=>v=.non∧Q (.ref x) H2) E:=fun x dx hx hd ne=>
 h x dx _ hx hd ne ((Ext.new hd).put hx) upd_same (by rw [upd_ne ne,upd_same])
theorem pe_nMake (M:Mk X.K C f) (F:FnOk X.prog X.w X.K X.mg X.base CX k f fd ps sp) (hr:Room (k+1) X.A) (hg:Gl X x) (hm:X.mg x=some (.ref C)) (hb:Binds X.K fd ps ds) (hd:Vals dvs ds) (hx:Passes CX X E)
  (ha:PA X (e::es) t) (hdb:(x == ("__debug__":Str))=false:=by decide) (he:starEach (e::es) X.env=(false,eval e X.env)::starEach es X.env:=by rfl) (hpl:(backTo pos (starEach es X.env)).any (·.1)=false:=by rfl) :
  PE X (.Call (.Name x p) (e::es) [] pos) (nMake C sp dvs E t):=by
 intro pins s σ H Q I h
 refine wpAny_Call_Name_kw (ld_glob I hg hm ?_ hdb)
 refine PySem.W.callWith_K (h₀:=X.base) I.ok.mod.kin M.kp (thn (ha pos pins s σ H _ I h) fun us s1 ⟨vs,H1,I1,r,q⟩=>⟨I1.kIn,?_⟩) he hpl
 exact run_make M F hr hb hd hx I1 r q.to
end
end L2
set_option Elab.async false
set_option linter.all false
set_option maxRecDepth 100000
set_option maxHeartbeats 4000000
namespace L2
open PySem PySem.Spec PyProof.Rows
def notStar:Expr->Bool
 | .Starred ..=>false
 | _=>true
theorem star_ok {e:Expr}{es:List Expr}{env:Env}(h:notStar e=true):starEach (e::es) env=(false,eval e env)::starEach es env:=by
 cases e<;>first|rfl|cases h
theorem pa_c {X:Cx}{e:Expr}{es:List Expr}{te:TE}{t:TA}(ha:PE X e te) (hr:PA X es t) (hn:notStar e=true:=by rfl):PA X (e::es) (tCons te t):=pa_cons ha hr (star_ok hn)
end L2
namespace L2
open PySem PySem.Spec PyProof.Rows
theorem len5000 {n:Nat}(h:n≤5000):n≤sizeLine:=Nat.le_trans h (by decide)
theorem lt5000 {n:Nat}(h:n < 5000):n < sizeLine:=Nat.lt_of_lt_of_le h (by decide)
def kCT2 (xs:List V) (H:Hp) (Q:VK):List V->Prop:=fun ys=>xs.length+ys.length≤sizeLine∧∀ (p:Addr) (H':Hp),Ext H H'->H' p=some (.tup (xs++ys))->Q (.ref p) H'
theorem x_kCT2 (xs:List V) (H:Hp) (Q:VK) (ys:List V):kCT2 xs H Q ys=(xs.length+ys.length≤sizeLine∧∀ (p:Addr) (H':Hp),Ext H H'->H' p=some (.tup (xs++ys))->Q (.ref p) H'):=rfl
def kCT1 (b:Addr) (H:Hp) (Q:VK):List V->Prop:=fun xs=>optK (tupAt H b) (kCT2 xs H Q)
theorem m_kCT1 (b:Addr) (H:Hp) (Q:VK) (xs:List V):kCT1 b H Q xs=optK (tupAt H b) (kCT2 xs H Q):=rfl
def nCatT:R2:=fun x y H Q=>match x,y with
 | .ref l,.ref b=>optK (tupAt H l) (kCT1 b H Q)
 | _,_=>False
theorem m_nCatT (l b:Addr) (H:Hp) (Q:VK):nCatT (.ref l) (.ref b) H Q=optK (tupAt H l) (kCT1 b H Q):=rfl
theorem op_nCatT {X:Cx}:OpR X (binaryOp .Add) nCatT:=by
 intro pins s σ H x y v u Q I rx ry h
 unfold nCatT at h
 split at h
 ·rename_i l b
  obtain ⟨xs,e1,h⟩:=optK_ex h
  obtain ⟨ys,e2,hz,k⟩:=optK_ex h
  have g1:=tup_of e1
  have g2:=tup_of e2
  by_cases hx:xs=[]
  ·subst hx
   cases rx
   cases ry
   obtain ⟨its,r1,p1,_⟩:=I.tuple (SqT.of g1)
   obtain ⟨its2,r2,p2,_⟩:=I.tuple (SqT.of g2)
   obtain ⟨⟨cls,dd,data,sl⟩,ho,hc,n,hd⟩:=id p1
   obtain ⟨⟨cls2,dd2,data2,sl2⟩,ho2,hc2,n2,hd2⟩:=id p2
   simp only at hc hd hc2 hd2
   subst hc hd hc2 hd2
   cases r1
   exact concat_meets ⟨_,ho,rfl⟩ ⟨_,ho2,rfl⟩ noFill_tuple_add seq_tuple_add PySem.F.slot_tuple_add PySem.F.entry_tuple_add (PySem.F.args_tuple_add_2 _ _)
    (tuple_addW0 l b #[] its2.toArray n n2 dd dd2 sl sl2 (by simp)) ⟨ho,ho2,show EP X pins σ Q (.ref b) s from ⟨.ref b,H,I,rfl,k b H (Ext.refl _) (by rw [List.nil_append];exact g2)⟩⟩
  ·refine op_catT pins s σ H (.ref l) (.ref b) v u Q I rx ry ⟨l,b,xs,ys,rfl,rfl,SqT.of g1,SqT.of g2,hx,hz,fun hy=>?_,fun hy p hp=>k p _ (Ext.new hp) upd_same⟩
   subst hy
   exact k l H (Ext.refl _) (by rw [List.append_nil];exact g1)
 ·exact h.elim
end L2
set_option Elab.async false
set_option linter.all false
set_option maxRecDepth 100000
set_option maxHeartbeats 4000000
namespace L2
open PySem PySem.Spec PyProof.Rows
theorem wk_al {K:PySem.W.Frag}{H:Hp} {α:Type}{R:α->V->Hp->Prop}(hR:∀ z y H H',R z y H->Ext H H'->R z y H'){l:Addr}{ys:List V}{zs:List α}(h:H l=some (.lst ys)) (al:Al (fun z y=>R z y H) zs ys) :
  (∀ i z H',zs[i]? = some z->Ext H H'->(Itl K l).go i H'∧∀ x H'',(Itl K l).yld i H' x H''->Ext H' H''∧R z x H'')∧∀ H',Ext H H'->(Itl K l).stop zs.length H':=by
 refine ⟨fun i z H' hz e=>?_,fun H' e=>⟨ys,SqL.of (e.at h),by rw [al.1];exact Nat.le_refl _⟩⟩
 have hi:i < ys.length:=by rw [al.1];exact (List.getElem?_eq_some_iff.mp hz).1
 have hy:ys[i]? = some ys[i]:=List.getElem?_eq_getElem hi
 refine ⟨⟨ys,ys[i],SqL.of (e.at h),hy⟩,fun x H'' y=>?_⟩
 have hx:x=ys[i]:=Option.some.inj ((y.2 ys (SqL.of (e.at h))).symm.trans hy)
 refine ⟨by rw [y.1];exact Ext.refl _,?_⟩
 rw [hx,y.1]
 exact hR _ _ _ _ (al.2 i z _ hz hy) e
end L2
set_option Elab.async false
set_option linter.all false
set_option maxRecDepth 100000
set_option maxHeartbeats 4000000
namespace L2
open PySem PySem.Spec PyProof.Rows
section
variable {prog:Program}{w:World}{A:Around}{E:Value->Shared->Prop}{s:Shared}
variable {z TI TO i j:Addr}{f g:List Addr}{ti tj:Nat->Heap->Prop}{vi vj:Nat->Option Value}{k m:Nat}{x y:Value}{t:Addr}{fl:Bool}{ot:Obj}
variable {ka kb:Bool}{a b p q:Addr}{as bs:Array Value}{n:Nat}
end
section
variable {X:Cx}{pins:List (Addr × Obj)}{σ:St}{s:Shared}
end
section
variable {X:Cx}
end
def qInt (xs:List V) (H:Hp) (Q:VK):Prop:=match xs with
 | [.int i]=>Q (.int i) H
 | [.bl k]=>Q (.int (if k=true then 1 else 0)) H
 | _=>False
theorem m_qInt_b (k:Bool) (H:Hp) (Q:VK):qInt [.bl k] H Q=Q (.int (if k=true then 1 else 0)) H:=rfl
theorem call_qInt {X:Cx}:CallR X (.type "int") qInt:=call_int1.mono fun xs H Q h=>by
 unfold qInt at h
 split at h
 ·exact .inl ⟨_,rfl,h⟩
 ·exact .inr ⟨_,rfl,h⟩
 ·exact h.elim
end L2
set_option Elab.async false
set_option linter.all false
set_option maxRecDepth 100000
set_option maxHeartbeats 4000000
namespace L2
open PySem PySem.Spec PyProof.Rows
section
variable {X:Cx}
end
section
variable {X:Cx}{a b c d:Expr}{ta tb tc td:TE}{pos:Pos}
end
section
variable {k:Nat}{g:TG}{tt:TT}{te:TE}{σ:St}{Q:VK}{H:Hp}{K:PySem.W.Frag}
end
end L2
set_option Elab.async false
set_option linter.all false
set_option maxRecDepth 100000
set_option maxHeartbeats 4000000
namespace L2
open PySem PySem.Spec PyProof.Rows
section
variable {X:Cx}
end
section
variable {g:TG}{σ:St}{Q:VK}{H:Hp}{K:PySem.W.Frag}
end
section
variable {X:Cx}{CX:CXT}{k:Nat}{f C:Addr}{fd:FuncData}{ps:List Str}{sp:Sp}{dvs:List V}{ds:List Value}{E:St->XK}{x m:Str}{p pos apos:Pos}{e o:Expr}{es:List Expr}{ta:TE}{t:TA}
end
end L2
set_option Elab.async false
set_option linter.all false
set_option maxRecDepth 100000
set_option maxHeartbeats 1000000
namespace L2
open PySem PySem.Spec PyProof.Rows
section
variable {X:Cx}{e st:Expr}{te tst:TE}{pos p2:Pos}
end
end L2
set_option Elab.async false
set_option linter.all false
set_option maxRecDepth 100000
set_option maxHeartbeats 1000000
namespace L2
open PySem PySem.Spec PyProof.Rows
section
variable {X:Cx}
end
end L2
set_option Elab.async false
set_option linter.all false
set_option maxRecDepth 100000
set_option maxHeartbeats 1000000
namespace L2
open PySem PySem.Spec PyProof.Rows
theorem units1 {n:Nat}(h:n+64 < cLine):n+1 < cLine:=by omega
def kDG1 (Q:VK) (x:V):VK:=fun y H=>∃ a v,x=.ref a∧DGet H a y (some v)∧Q v H
def kDG0 (ty:TE) (σ:St) (Q:VK):VK:=fun x H=>ty σ H (kDG1 Q x)
theorem m_kDG0 (ty:TE) (σ:St) (Q:VK) (x:V) (H:Hp):kDG0 ty σ Q x H=ty σ H (kDG1 Q x):=rfl
theorem m_tDGet (td ty:TE) (σ:St) (H:Hp) (Q:VK):tDGet td ty σ H Q=td σ H (kDG0 ty σ Q):=rfl
theorem use_dg {H:Hp}{a:Addr}{kvs:List (Key × V)}{k:Key}{v:V}{Q:VK}(e:H a=some (.dK kvs)) (h:valV kvs k=some v) (q:Q v H):kDG1 Q (.ref a) (kV k) H:=⟨a,v,rfl,h ▸ DGet.k e,q⟩
section
variable {X:Cx}
end
end L2
set_option Elab.async false
set_option linter.all false
set_option maxRecDepth 100000
set_option maxHeartbeats 4000000
namespace L2
open PySem PySem.Spec PyProof.Rows
section
variable {X:Cx}
end
end L2
set_option Elab.async false
set_option linter.all false
set_option maxRecDepth 100000
set_option maxHeartbeats 4000000
namespace L2
open PySem PySem.Spec PyProof.Rows
def tV (i:Nat):TE:=fun σ H Q=>match σ[i]? with
 | some (some v)=>Q v H
 | _=>False
theorem tV_eq (i:Nat):tVar i=tV i:=by
 funext σ H Q
 refine propext ⟨fun ⟨v,e,q⟩=>?_,fun h=>?_⟩
 ·unfold tV;rw [e];exact q
 ·unfold tV at h
  split at h
  ·rename_i v e;exact ⟨v,e,h⟩
  ·exact h.elim
theorem m_tV_0 {v:V}{σ:St}{H:Hp}{Q:VK}:tV 0 (some v::σ) H Q=Q v H:=rfl
theorem m_tV_1 {a0:Option V}{v:V}{σ:St}{H:Hp}{Q:VK}:tV 1 (a0::some v::σ) H Q=Q v H:=rfl
theorem m_tV_2 {a0 a1:Option V}{v:V}{σ:St}{H:Hp}{Q:VK}:tV 2 (a0::a1::some v::σ) H Q=Q v H:=rfl
theorem m_tV_3 {a0 a1 a2:Option V}{v:V}{σ:St}{H:Hp}{Q:VK}:tV 3 (a0::a1::a2::some v::σ) H Q=Q v H:=rfl
theorem m_tV_4 {a0 a1 a2 a3:Option V}{v:V}{σ:St}{H:Hp}{Q:VK}:tV 4 (a0::a1::a2::a3::some v::σ) H Q=Q v H:=rfl
theorem m_tV_5 {a0 a1 a2 a3 a4:Option V}{v:V}{σ:St}{H:Hp}{Q:VK}:tV 5 (a0::a1::a2::a3::a4::some v::σ) H Q=Q v H:=rfl
theorem m_tV_6 {a0 a1 a2 a3 a4 a5:Option V}{v:V}{σ:St}{H:Hp}{Q:VK}:tV 6 (a0::a1::a2::a3::a4::a5::some v::σ) H Q=Q v H:=rfl
def nI0 (g:Int->Int->V):R2:=fun x y H Q=>match x,y with
 | .int i,.int j=>Q (g i j) H
 | _,_=>False
theorem m_nI0 (g:Int->Int->V) (i j:Int) (H:Hp) (Q:VK):nI0 g (.int i) (.int j) H Q=Q (g i j) H:=rfl
theorem nI0_eq (g:Int->Int->V):rI0 g=nI0 g:=by
 funext x y H Q
 refine propext ⟨fun ⟨i,j,e,e',q⟩=>by subst e e';exact q,fun h=>?_⟩
 unfold nI0 at h
 split at h
 ·exact ⟨_,_,rfl,rfl,h⟩
 ·exact h.elim
def nI (C:Int->Int->Prop) (g:Int->Int->V):R2:=fun x y H Q=>match x,y with
 | .int i,.int j=>C i j∧Q (g i j) H
 | _,_=>False
theorem m_nI (C:Int->Int->Prop) (g:Int->Int->V) (i j:Int) (H:Hp) (Q:VK):nI C g (.int i) (.int j) H Q=(C i j∧Q (g i j) H):=rfl
theorem nI_eq (C:Int->Int->Prop) (g:Int->Int->V):rI C g=nI C g:=by
 funext x y H Q
 refine propext ⟨fun ⟨i,j,e,e',q⟩=>by subst e e';exact q,fun h=>?_⟩
 unfold nI at h
 split at h
 ·exact ⟨_,_,rfl,rfl,h⟩
 ·exact h.elim
def nU (g:Int->V):V->Hp->VK->Prop:=fun x H Q=>match x with
 | .int i=>Q (g i) H
 | _=>False
theorem m_nU (g:Int->V) (i:Int) (H:Hp) (Q:VK):nU g (.int i) H Q=Q (g i) H:=rfl
theorem nU_eq (g:Int->V):rU g=nU g:=by
 funext x H Q
 refine propext ⟨fun ⟨i,e,q⟩=>by subst e;exact q,fun h=>?_⟩
 unfold nU at h
 split at h
 ·exact ⟨_,rfl,h⟩
 ·exact h.elim
def kTestN (Q:Bool->Hp->Prop):VK:=fun x H=>match x with
 | .bl k=>Q k H
 | _=>False
theorem m_kTestN (Q:Bool->Hp->Prop) (k:Bool) (H:Hp):kTestN Q (.bl k) H=Q k H:=rfl
theorem kTest_eq (Q:Bool->Hp->Prop):kTest Q=kTestN Q:=by
 funext x H
 refine propext ⟨fun ⟨k,e,q⟩=>by subst e;exact q,fun h=>?_⟩
 unfold kTestN at h
 split at h
 ·exact ⟨_,rfl,h⟩
 ·exact h.elim
def nTest (t:TE):TT:=fun σ H Q=>t σ H (kTestN Q)
theorem m_nTest (t:TE) (σ:St) (H:Hp) (Q:Bool->Hp->Prop):nTest t σ H Q=t σ H (kTestN Q):=rfl
theorem nTest_eq (t:TE):tTest t=nTest t:=by
 funext σ H Q
 show t σ H (kTest Q)=t σ H (kTestN Q)
 rw [kTest_eq]
theorem nTest_eqB (t:TE):tB t=nTest t:=nTest_eq t
def kAndN (tb:TE) (σ:St) (Q:VK):VK:=fun x H=>match x with
 | .bl c=>if c=true then tb σ H Q else Q (.bl false) H
 | _=>False
theorem m_kAndN (tb:TE) (σ:St) (Q:VK) (c:Bool) (H:Hp):kAndN tb σ Q (.bl c) H=(if c=true then tb σ H Q else Q (.bl false) H):=rfl
def nAndV (ta tb:TE):TE:=fun σ H Q=>ta σ H (kAndN tb σ Q)
theorem m_nAndV (ta tb:TE) (σ:St) (H:Hp) (Q:VK):nAndV ta tb σ H Q=ta σ H (kAndN tb σ Q):=rfl
theorem nAndV_eq (ta tb:TE):tAndV ta tb=nAndV ta tb:=by
 funext σ H Q
 show ta σ H (kAndV tb σ Q)=ta σ H (kAndN tb σ Q)
 congr 1
 funext x H
 refine propext ⟨fun ⟨k,e,q⟩=>by subst e;exact q,fun h=>?_⟩
 unfold kAndN at h
 split at h
 ·exact ⟨_,rfl,h⟩
 ·exact h.elim
def kOrN (tb:TE) (σ:St) (Q:VK):VK:=fun x H=>match x with
 | .bl c=>if c=true then Q (.bl true) H else tb σ H Q
 | _=>False
theorem m_kOrN (tb:TE) (σ:St) (Q:VK) (c:Bool) (H:Hp):kOrN tb σ Q (.bl c) H=(if c=true then Q (.bl true) H else tb σ H Q):=rfl
def nOrV (ta tb:TE):TE:=fun σ H Q=>ta σ H (kOrN tb σ Q)
theorem m_nOrV (ta tb:TE) (σ:St) (H:Hp) (Q:VK):nOrV ta tb σ H Q=ta σ H (kOrN tb σ Q):=rfl
theorem nOrV_eq (ta tb:TE):tOrV ta tb=nOrV ta tb:=by
 funext σ H Q
 show ta σ H (kOrV tb σ Q)=ta σ H (kOrN tb σ Q)
 congr 1
 funext x H
 refine propext ⟨fun ⟨k,e,q⟩=>by subst e;exact q,fun h=>?_⟩
 unfold kOrN at h
 split at h
 ·exact ⟨_,rfl,h⟩
 ·exact h.elim
def kNotN (Q:VK):VK:=fun x H=>match x with
 | .bl c=>Q (.bl (!c)) H
 | _=>False
theorem m_kNotN (Q:VK) (c:Bool) (H:Hp):kNotN Q (.bl c) H=Q (.bl (!c)) H:=rfl
def nNotV (ta:TE):TE:=fun σ H Q=>ta σ H (kNotN Q)
theorem m_nNotV (ta:TE) (σ:St) (H:Hp) (Q:VK):nNotV ta σ H Q=ta σ H (kNotN Q):=rfl
theorem nNotV_eq (ta:TE):tNotV ta=nNotV ta:=by
 funext σ H Q
 show ta σ H (kNotV Q)=ta σ H (kNotN Q)
 congr 1
 funext x H
 refine propext ⟨fun ⟨k,e,q⟩=>by subst e;exact q,fun h=>?_⟩
 unfold kNotN at h
 split at h
 ·exact ⟨_,rfl,h⟩
 ·exact h.elim
def kChN2 (r':R2) (tc:TE) (σ:St) (y:V) (Q:VK):VK:=fun z H=>match z with
 | .bl k=>if k=true then tc σ H (kCh3 r' y Q) else Q (.bl false) H
 | _=>False
theorem m_kChN2 (r':R2) (tc:TE) (σ:St) (y:V) (Q:VK) (k:Bool) (H:Hp):kChN2 r' tc σ y Q (.bl k) H=(if k=true then tc σ H (kCh3 r' y Q) else Q (.bl false) H):=rfl
theorem kCh2_eq (r':R2) (tc:TE) (σ:St) (y:V) (Q:VK):kCh2 r' tc σ y Q=kChN2 r' tc σ y Q:=by
 funext z H
 refine propext ⟨fun ⟨k,e,q⟩=>by subst e;exact q,fun h=>?_⟩
 unfold kChN2 at h
 split at h
 ·exact ⟨_,rfl,h⟩
 ·exact h.elim
def kChN1 (r r':R2) (tc:TE) (σ:St) (x:V) (Q:VK):VK:=fun y H=>r x y H (kChN2 r' tc σ y Q)
theorem m_kChN1 (r r':R2) (tc:TE) (σ:St) (x y:V) (Q:VK) (H:Hp):kChN1 r r' tc σ x Q y H=r x y H (kChN2 r' tc σ y Q):=rfl
def kChN0 (r r':R2) (tb tc:TE) (σ:St) (Q:VK):VK:=fun x H=>tb σ H (kChN1 r r' tc σ x Q)
theorem m_kChN0 (r r':R2) (tb tc:TE) (σ:St) (Q:VK) (x:V) (H:Hp):kChN0 r r' tb tc σ Q x H=tb σ H (kChN1 r r' tc σ x Q):=rfl
def nChain (r r':R2) (ta tb tc:TE):TE:=fun σ H Q=>ta σ H (kChN0 r r' tb tc σ Q)
theorem m_nChain (r r':R2) (ta tb tc:TE) (σ:St) (H:Hp) (Q:VK):nChain r r' ta tb tc σ H Q=ta σ H (kChN0 r r' tb tc σ Q):=rfl
theorem nChain_eq (r r':R2) (ta tb tc:TE):tChain r r' ta tb tc=nChain r r' ta tb tc:=by
 funext σ H Q
 show ta σ H (kCh0 r r' tb tc σ Q)=ta σ H (kChN0 r r' tb tc σ Q)
 congr 1
 funext x H1
 show tb σ H1 (kCh1 r r' tc σ x Q)=tb σ H1 (kChN1 r r' tc σ x Q)
 congr 1
 funext y H2
 show r x y H2 (kCh2 r' tc σ y Q)=r x y H2 (kChN2 r' tc σ y Q)
 rw [kCh2_eq]
theorem spx1 {α0:Type}{f:α0->List V}{B:α0->Prop}(inj:∀ a a',f a=f a'->a=a') (a:α0):(∃ a',f a=f a'∧B a')=B a:=propext ⟨fun ⟨a',e,q⟩=>by obtain rfl:=inj _ _ e;exact q,fun q=>⟨a,rfl,q⟩⟩
theorem spl1 {α0:Type}{f:α0->List V}{B:α0->Prop}{vs:List V}{n:Nat}(h:∃ a,vs=f a∧B a) (l:∀ a,(f a).length=n):vs.length=n:=by
 obtain ⟨_,rfl,_⟩:=h
 exact l _
theorem spx2 {α0 α1:Type}{f:α0->α1->List V}{B:α0->α1->Prop}(inj:∀ a b a' b',f a b=f a' b'->a=a'∧b=b') (a:α0) (b:α1):(∃ a' b',f a b=f a' b'∧B a' b')=B a b:=propext ⟨fun ⟨a',b',e,q⟩=>by obtain ⟨rfl,rfl⟩:=inj _ _ _ _ e;exact q,fun q=>⟨a,b,rfl,q⟩⟩
theorem spl2 {α0 α1:Type}{f:α0->α1->List V}{B:α0->α1->Prop}{vs:List V}{n:Nat}(h:∃ a b,vs=f a b∧B a b) (l:∀ a b,(f a b).length=n):vs.length=n:=by
 obtain ⟨_,_,rfl,_⟩:=h
 exact l _ _
theorem spx3 {α0 α1 α2:Type}{f:α0->α1->α2->List V}{B:α0->α1->α2->Prop}(inj:∀ a b c a' b' c',f a b c=f a' b' c'->a=a'∧b=b'∧c=c') (a:α0) (b:α1) (c:α2):(∃ a' b' c',f a b c=f a' b' c'∧B a' b' c')=B a b c:=propext ⟨fun ⟨a',b',c',e,q⟩=>by obtain ⟨rfl,rfl,rfl⟩:=inj _ _ _ _ _ _ e;exact q,fun q=>⟨a,b,c,rfl,q⟩⟩
theorem spl3 {α0 α1 α2:Type}{f:α0->α1->α2->List V}{B:α0->α1->α2->Prop}{vs:List V}{n:Nat}(h:∃ a b c,vs=f a b c∧B a b c) (l:∀ a b c,(f a b c).length=n):vs.length=n:=by
 obtain ⟨_,_,_,rfl,_⟩:=h
 exact l _ _ _
theorem spx5 {α0 α1 α2 α3 α4:Type}{f:α0->α1->α2->α3->α4->List V}{B:α0->α1->α2->α3->α4->Prop}(inj:∀ a b c d i a' b' c' d' i',f a b c d i=f a' b' c' d' i'->a=a'∧b=b'∧c=c'∧d=d'∧i=i') (a:α0) (b:α1) (c:α2) (d:α3) (i:α4):(∃ a' b' c' d' i',f a b c d i=f a' b' c' d' i'∧B a' b' c' d' i')=B a b c d i:=propext ⟨fun ⟨a',b',c',d',i',e,q⟩=>by obtain ⟨rfl,rfl,rfl,rfl,rfl⟩:=inj _ _ _ _ _ _ _ _ _ _ e;exact q,fun q=>⟨a,b,c,d,i,rfl,q⟩⟩
theorem spl5 {α0 α1 α2 α3 α4:Type}{f:α0->α1->α2->α3->α4->List V}{B:α0->α1->α2->α3->α4->Prop}{vs:List V}{n:Nat}(h:∃ a b c d i,vs=f a b c d i∧B a b c d i) (l:∀ a b c d i,(f a b c d i).length=n):vs.length=n:=by
 obtain ⟨_,_,_,_,_,rfl,_⟩:=h
 exact l _ _ _ _ _
theorem len0 {P:List Value->Prop}(h:P []):∀ us:List Value,us.length=0->P us:=fun us e=>by
 cases us with
 | nil=>exact h
 | cons a r=>cases e
theorem len1 {P:List Value->Prop}(h:∀ a,P [a]):∀ us:List Value,us.length=1->P us:=fun us e=>by
 cases us with
 | nil=>cases e
 | cons x r=>exact len0 (P:=fun r=>P (x::r)) (h x) r (Nat.succ.inj e)
theorem len2 {P:List Value->Prop}(h:∀ a b,P [a,b]):∀ us:List Value,us.length=2->P us:=fun us e=>by
 cases us with
 | nil=>cases e
 | cons x r=>exact len1 (P:=fun r=>P (x::r)) (h x) r (Nat.succ.inj e)
theorem len3 {P:List Value->Prop}(h:∀ a b c,P [a,b,c]):∀ us:List Value,us.length=3->P us:=fun us e=>by
 cases us with
 | nil=>cases e
 | cons x r=>exact len2 (P:=fun r=>P (x::r)) (h x) r (Nat.succ.inj e)
section
variable {X:Cx}
theorem pvN (i:Nat){x:Str}{pos:Pos}(hN:X.N[i]? = some x:=by rfl) (hv:Vis X.env.scope x:=by first|exact Or.inl rfl|exact Or.inr (Or.inl rfl)|exact Or.inr (Or.inr rfl)) (hd:(x == ("__debug__":Str))=false:=by decide)
  (hcd:(x == ("__classdict__":Str))=false:=by decide):PE X (.Name x pos) (tV i):=by rw [←tV_eq];exact pv i hN hv hd hcd
theorem on_add:OpR X (binaryOp .Add) (nI0 fun i j=>.int (i+j)):=by rw [←nI0_eq];exact op_add
theorem on_sub:OpR X (binaryOp .Sub) (nI0 fun i j=>.int (i - j)):=by rw [←nI0_eq];exact op_sub
theorem on_lt:OpR X (compareOp .Lt) (nI0 fun i j=>.bl (decide (i < j))):=by rw [←nI0_eq];exact op_lt
theorem on_le:OpR X (compareOp .LtE) (nI0 fun i j=>.bl (decide (i≤j))):=by rw [←nI0_eq];exact op_le
theorem on_gt:OpR X (compareOp .Gt) (nI0 fun i j=>.bl (decide (j < i))):=by rw [←nI0_eq];exact op_gt
theorem on_mul:OpR X (binaryOp .Mult) (nI CMul fun i j=>.int (i * j)):=by rw [←nI_eq];exact op_mul
theorem on_fdiv:OpR X (binaryOp .FloorDiv) (nI CDiv fun i j=>.int (i / j)):=by rw [←nI_eq];exact op_fdiv
theorem on_mod:OpR X (binaryOp .Mod) (nI (fun _ j=>0 < j) fun i j=>.int (i % j)):=by rw [←nI_eq];exact op_mod
theorem on_pow:OpR X (binaryOp .Pow) (nI CPow fun i j=>.int (i ^ j.toNat)):=by rw [←nI_eq];exact op_pow
theorem un_negN:UnR X (unaryOp .USub) (nU fun i=>.int (-i)):=by rw [←nU_eq];exact un_neg
variable {a b c d e:Expr}{ta tb tc td t:TE}{pos:Pos}
theorem pt_cmpRN {op:CmpOp}{r:R2}(ho:OpR X (compareOp op) r) (ha:PE X a ta) (hb:PE X b tb) (hm:behindInMarks op b=false):PT X (.Compare a [op] [b] pos) (nTest (tOp r ta tb)):=by rw [←nTest_eq];exact pt_cmpR ho ha hb hm
theorem pt_valN (h:PE X e t) (he:∀ whole,isTrue e X.env whole=(do let v ←whole;standAt e.pos;holding [v] (truthy v)):=by intro _;rfl):PT X e (nTest t):=by rw [←nTest_eqB];exact pt_val h he
theorem pt_chainN {op op':CmpOp}{r r':R2}(ho:OpR X (compareOp op) r) (ho':OpR X (compareOp op') r') (ha:PE X a ta) (hb:PE X b tb) (hc:PE X c tc)
  (hm:lastMarks [op,op'] [b,c]=false:=by with_unfolding_all rfl):PT X (.Compare a [op,op'] [b,c] pos) (nTest (nChain r r' ta tb tc)):=by rw [←nTest_eq,←nChain_eq];exact pt_chain ho ho' ha hb hc hm
variable {rest:List Expr}
theorem pe_andN (ha:PE X a ta) (hb:PE X (.BoolOp .And (b::rest) pos) tb):PE X (.BoolOp .And (a::b::rest) pos) (nAndV ta tb):=by rw [←nAndV_eq];exact pe_and ha hb
theorem pe_orN (ha:PE X a ta) (hb:PE X (.BoolOp .Or (b::rest) pos) tb):PE X (.BoolOp .Or (a::b::rest) pos) (nOrV ta tb):=by rw [←nOrV_eq];exact pe_or ha hb
theorem pe_notN (ha:PE X a ta):PE X (.UnaryOp .Not a pos) (nNotV ta):=by rw [←nNotV_eq];exact pe_not ha
end
end L2
set_option Elab.async false
set_option linter.all false
set_option maxRecDepth 100000
set_option maxHeartbeats 4000000
namespace L2
open PySem PySem.Spec PyProof.Rows
def kRep (k:Int) (H:Hp) (Q:VK):List V->Prop:=fun xs=>0≤k∧k≤4096∧xs.length * k.toNat≤sizeLine∧newK (.lst (List.replicate k.toNat xs).flatten) H Q
theorem m_kRep (k:Int) (H:Hp) (Q:VK) (xs:List V):kRep k H Q xs=(0≤k∧k≤4096∧xs.length * k.toNat≤sizeLine∧newK (.lst (List.replicate k.toNat xs).flatten) H Q):=rfl
def nRep:R2:=fun x y H Q=>match x,y with
 | .ref l,.int k=>optK (lstAt H l) (kRep k H Q)
 | _,_=>False
theorem m_nRep (l:Addr) (k:Int) (H:Hp) (Q:VK):nRep (.ref l) (.int k) H Q=optK (lstAt H l) (kRep k H Q):=rfl
theorem op_nRep {X:Cx}:OpR X (binaryOp .Mult) nRep:=op_rep.mono fun x y H Q h=>by
 unfold nRep at h
 split at h
 ·rename_i l k
  obtain ⟨xs,e,h0,h1,h2,q⟩:=optK_ex h
  exact ⟨l,k,xs,rfl,rfl,lst_of e,by omega,by omega,h2,q.to⟩
 ·exact h.elim
end L2
set_option Elab.async false
set_option linter.all false
set_option maxRecDepth 100000
set_option maxHeartbeats 4000000
namespace L2
open PySem PySem.Spec PyProof.Rows
theorem cut_some (xs:List V) (z:Int) (h:0≤z):cutV xs (some z) none=xs.drop z.toNat:=by
 unfold cutV
 obtain ⟨n,rfl⟩:=Int.eq_ofNat_of_zero_le h
 rw [HT.sIx_none,HT.sIx_nat]
 show _=xs.drop n
 rcases Nat.le_total n xs.length with q|q
 ·rw [Nat.min_eq_left q]
  exact List.take_of_length_le (by rw [List.length_drop];omega)
 ·rw [Nat.min_eq_right q,List.drop_of_length_le (Nat.le_refl _),List.drop_of_length_le q,List.take_nil]
section
variable {X:Cx}
end
end L2
set_option Elab.async false
set_option linter.all false
set_option maxRecDepth 100000
set_option maxHeartbeats 4000000
namespace L2
open PySem PySem.Spec PyProof.Rows
section
variable {prog:Program}{w:World}{A:Around}{E:Value->Shared->Prop}{s:Shared}
end
section
variable {X:Cx}
end
end L2
set_option Elab.async false
set_option linter.all false
set_option maxRecDepth 100000
set_option maxHeartbeats 4000000
namespace L2
open PySem PySem.Spec PyProof.Rows
end L2
set_option Elab.async false
set_option linter.all false
set_option maxRecDepth 100000
set_option maxHeartbeats 4000000
namespace L2
open PySem PySem.Spec PyProof.Rows
section
variable {k:Nat}{g:TG}{tt:TT}{te:TE}{σ:St}{Q:VK}{H:Hp}
end
end L2
set_option Elab.async false
set_option linter.all false
set_option maxRecDepth 100000
set_option maxHeartbeats 4000000
namespace L2
open PySem PySem.Spec PyProof.Rows
structure IsC (K:PySem.W.Frag) (C:Addr):Prop where
 cl:Cls K C
 fc:PySem.W.findIn K (.ref C) "__class__"=some (some (.builtin "object.__class__"))
 ocs:PySem.W.specialIn K (.builtin "object.__class__") "__get__"=some (some (.builtin "getset_descriptor.__get__"))
 oct:PySem.W.takesIn K (.builtin "object.__class__")=some true
 mo:PySem.W.mroIn K C (.type "object")=some true
end L2
set_option Elab.async false
set_option linter.all false
set_option maxRecDepth 100000
set_option maxHeartbeats 4000000
namespace L2
open PySem PySem.Spec PyProof.Rows
section
variable {X:Cx}
end
end L2
set_option Elab.async false
set_option linter.all false
set_option maxRecDepth 100000
set_option maxHeartbeats 4000000
namespace L2
open PySem PySem.Spec PyProof.Rows PySem.W
section
variable {prog:Program}{w:World}{A:Around}{E:Value->Shared->Prop}{K:Frag}{x C dx:Addr}{s:Shared}{name:Str}{v:Value}
end
section
variable {X:Cx}{e o value:Expr}{ta tv:TE}{f:Str}{pos pos':Pos}
end
end L2
set_option Elab.async false
set_option linter.all false
set_option maxRecDepth 100000
set_option maxHeartbeats 4000000
namespace L2
open PySem PySem.Spec PyProof.Rows
open Sem (wp)
open AutoSeq1 (wpAny_loadPart')
section
variable {X:Cx}
end
end L2
set_option Elab.async false
set_option linter.all false
set_option maxRecDepth 100000
set_option maxHeartbeats 4000000
namespace L2
open PySem PySem.Spec PyProof.Rows
end L2
set_option Elab.async false
set_option linter.all false
set_option maxRecDepth 100000
set_option maxHeartbeats 4000000
namespace L2
open PySem PySem.Spec PyProof.Rows
def NoCtx (o:Obj):Prop:=∃ vs,o.data=.fields vs∧vs[2]? = some .none
section
variable {prog:Program}{w:World}{A:Around}{E:Value->Shared->Prop}{s:Shared}
end
def Hand (X:Cx):Prop:=∃ (e:Addr) (oe:Obj) (u:HO),X.A.handled=some (.ref e)∧X.H₀ e=some (.frz oe u)∧NoCtx oe
structure TurnH (P:Program) (w:World) (K:PySem.W.Frag) (tg:Expr) (J:It) (fp:List Addr) (it:Addr) (tn:Nat->Heap->Prop):Prop where
 mem:it∈fp
 obj:∀ i h,tn i h->∀ b∈fp,∃ o,h.get? b=some o∧∀ v,o.data ≠ .cell v
 keep:∀ i h h',tn i h->(∀ b∈fp,∀ o,h.get? b=some o->h'.get? b=some o)->tn i h'
 item:∀ (X:Cx),X.prog=P->X.w=w->X.K=K->Hand X->∀ (i:Nat) (pins:List (Addr × Obj)) (s:Shared) (σ:St) (H:Hp) (E:Value->Shared->Prop),Inv X pins σ H s->(∀ b∈fp,FpOk X pins H b)->tn i s.heap->J.go i H →
  wpAny (model P w) X.A (pyNext (.ref it)) (fun r s1=>∃ u,r=some u ∧
   wpAny (model P w) X.A (letOwnedTupleGo tg (.ref it) u) (fun _ s2=>∃ x H',Inv X pins σ H' s2∧RelV x u∧J.yld i H x H'∧tn (i+1) s2.heap∧∀ b∈fp,H' b=none) E s1) E s
 done:∀ (X:Cx),X.prog=P->X.w=w->X.K=K->Hand X->∀ (i:Nat) (pins:List (Addr × Obj)) (s:Shared) (σ:St) (H:Hp) (E:Value->Shared->Prop),Inv X pins σ H s->(∀ b∈fp,FpOk X pins H b)->tn i s.heap->J.stop i H →
  wpAny (model P w) X.A (pyNext (.ref it)) (fun r s1=>r=none∧Inv X pins σ H s1) E s
section
variable {X:Cx}{tg:Expr}
end
structure RoomH (k:Nat) (e:Addr) (A:Around):Prop where
 hd:A.handled=some (.ref e)
 dp:A.depth+3 * k+5 < recursionLimit
 un:A.units+16 * k+200 < cLine
structure FnOkH (P:Program) (w:World) (K:PySem.W.Frag) (mg:Str->Option Value) (base:Heap) (CX:CXT) (k:Nat) (f:Addr) (fd:FuncData) (ps:List Str) (sp:Sp):Prop where
 len:∀ vs H Q E,sp vs H Q E->vs.length=ps.length
 run:∀ (A:Around) (outer:List Env) (s:Shared) (H:Hp) (args:Args) (us:List Value) (vs:List V) (Q:VK) (E:XK) (e:Addr) (oe:Obj) (u:HO),RoomH k e A->H e=some (.frz oe u)->NoCtx oe->Env0 P w K mg base A outer s H->BindsTo s fd args (ps.zip us)->Vals vs us->sp vs H Q E →
  codeAny (model P w) A (.call (.ref f) args) (CR CX outer P w H s Q E) s
section
variable {X:Cx}
end
end L2
set_option Elab.async false
set_option linter.all false
set_option maxRecDepth 100000
set_option maxHeartbeats 4000000
namespace L2
open PySem PySem.Spec PyProof.Rows
section
variable {prog:Program}{w:World}{A:Around}{E:Value->Shared->Prop}{s:Shared}
structure Apart3 (z TI TO i j l:Addr) (f g e:List Addr):Prop where
 ti:TI ≠ z∧TI ≠ TO∧TI ≠ i∧TI ≠ j∧TI ≠ l
 zt:z ≠ TO
 zf:z ∉ f
 zg:z ∉ g
 ze:z ∉ e
 tf:TO ∉ f
 tg:TO ∉ g
 te:TO ∉ e
 ig:i ∉ g
 ie:i ∉ e
 jf:j ∉ f
 je:j ∉ e
 lf:l ∉ f
 lg:l ∉ g
variable {z TI TO i j l:Addr}{f g e:List Addr}{ti tj tl:Nat->Heap->Prop}{vi vj vl:Nat->Option Value}{k m n:Nat}{x y u a b c:Value}
end
section
variable {prog:Program}{w:World}{A:Around}{E:Value->Shared->Prop}{s:Shared}
end
section
variable {X:Cx}
end
end L2
set_option Elab.async false
set_option linter.all false
set_option maxRecDepth 100000
set_option maxHeartbeats 4000000
namespace L2
open PySem PySem.Spec PyProof.Rows
end L2
set_option Elab.async false
set_option linter.all false
set_option maxRecDepth 100000
set_option maxHeartbeats 4000000
namespace L2
open PySem PySem.Spec PyProof.Rows
section
variable {X:Cx}
end
end L2
set_option Elab.async false
set_option linter.all false
set_option maxRecDepth 100000
set_option maxHeartbeats 4000000
namespace L2
open PySem PySem.Spec PyProof.Rows
section
variable {prog:Program}{w:World}{A:Around}{R:Result->Shared->Prop}{J:Addr}{fp wr:List Addr}{G:Array GenState->Array GenState->Prop}{n:Nat}{P:Nat->Value->Prop}{St:Nat->Shared->Prop}
end
section
variable {prog:Program}{w:World}{A:Around}{R:Result->Shared->Prop}{J:Addr}{fp wr:List Addr}{G:Array GenState->Array GenState->Prop}{n:Nat}{P:Nat->Value->Prop}{St:Nat->Shared->Prop}
end
end L2
set_option Elab.async false
set_option linter.all false
set_option maxRecDepth 100000
set_option maxHeartbeats 4000000
namespace L2
open PySem PySem.Spec PyProof.Rows
end L2
set_option Elab.async false
set_option linter.all false
set_option maxRecDepth 100000
set_option maxHeartbeats 4000000
namespace L2
open PySem PySem.Spec PyProof.Rows
abbrev PKy:=List Int × List Int
section
variable {prog:Program}{w:World}
end
section
variable {P:Program}{w:World}{H:Hp}{h:Heap}{a:Addr}
end
section
variable {X:Cx}{pins:List (Addr × Obj)}{σ:St}{H:Hp}{s:Shared}{d b:Addr}{k:PKy}{Z:List PKy}{A:Around}{E:Value->Shared->Prop}
end
section
variable {X:Cx}
end
end L2
set_option Elab.async false
set_option linter.all false
set_option maxRecDepth 100000
set_option maxHeartbeats 4000000
namespace L2
open PySem PySem.Spec PyProof.Rows
end L2
set_option Elab.async false
set_option linter.all false
set_option maxRecDepth 100000
set_option maxHeartbeats 1000000
namespace L2
open PySem PySem.Spec PyProof.Rows
section
variable {X:Cx}{e st:Expr}{te tst:TE}{pos p2:Pos}
end
end L2
set_option Elab.async false
set_option linter.all false
set_option maxRecDepth 100000
set_option maxHeartbeats 4000000
namespace L2
open PySem PySem.Spec PyProof.Rows
section
variable {X:Cx}
end
end L2
set_option Elab.async false
set_option linter.all false
set_option maxRecDepth 100000
set_option maxHeartbeats 4000000
namespace L2
open PySem PySem.Spec PyProof.Rows
section
variable {X:Cx}{a b:Expr}{ta tb:TE}{pos:Pos}{rest:List Expr}
end
end L2
set_option Elab.async false
set_option linter.all false
set_option maxRecDepth 100000
set_option maxHeartbeats 4000000
namespace L2
open PySem PySem.Spec PyProof.Rows PySem.SeqAt
section
variable {X:Cx}
end
structure Mk0 (K:PySem.W.Frag) (C:Addr):Prop where
 makes:PySem.W.makesIn K C=true
 init:PySem.W.findIn K (.ref C) "__init__"=some (some (.builtin "object.__init__"))
 kp:PySem.W.keepIn K (.ref C)=true
def nMk0 (C:Addr):TE:=fun _ H Q=>∀ x dx H',H x=none->H dx=none->dx ≠ x->Ext H H'->H' x=some (.ins C dx [])->H' dx=some (.own x)->Q (.ref x) H'
theorem m_nMk0 (C:Addr) (σ:St) (H:Hp) (Q:VK):nMk0 C σ H Q=∀ x dx H',H x=none->H dx=none->dx ≠ x->Ext H H'->H' x=some (.ins C dx [])->H' dx=some (.own x)->Q (.ref x) H':=rfl
theorem pe_nMk0 {X:Cx}{C:Addr}{x:Str}{p pos:Pos}(M:Mk0 X.K C) (hg:Gl X x) (hm:X.mg x=some (.ref C)) (hdb:(x == ("__debug__":Str))=false:=by decide):PE X (.Call (.Name x p) [] [] pos) (nMk0 C):=by
 intro pins s σ H Q I h
 refine wpAny_Call_Name_kw (ld_glob I hg hm ?_ hdb)
 refine PySem.W.callWith_K0 I.kIn M.kp ?_
 have hx:H (s.heap.objs.size+1)=none:=I.hok.fresh (Nat.le_succ _)
 have hd:H s.heap.objs.size=none:=I.hok.fresh (Nat.le_refl _)
 have ne:s.heap.objs.size ≠ s.heap.objs.size+1:=Nat.ne_of_lt (Nat.lt_succ_self _)
 have hq:=h (s.heap.objs.size+1) s.heap.objs.size (upd (upd H s.heap.objs.size (.own (s.heap.objs.size+1))) (s.heap.objs.size+1) (.ins C s.heap.objs.size [])) hx hd ne ((Ext.new hd).put hx) upd_same (by rw [upd_ne ne,upd_same])
 have I2:=Inv.made (C:=C) I
 refine wpAny_call (make_map0 I.kIn M.makes M.init (fun self=>PySem.W.Looks.of_pure (PySem.W.oi_bind self)) ?_)
 have Y:=PySem.W.makes_of (M:=model X.prog X.w) I.kIn M.makes
 have e2:((s.heap.push PySem.W.emptyDict).push (PySem.W.instObj C s.heap.objs.size)).get? (s.heap.objs.size+1)=some (PySem.W.instObj C s.heap.objs.size):=by
  have:=Heap.get?_push_size (s.heap.push PySem.W.emptyDict) (o:=PySem.W.instObj C s.heap.objs.size) rfl
  rwa [Heap.size_push] at this
 have t1:PySem.W.Looks (model X.prog X.w) ((s.heap.push PySem.W.emptyDict).push (PySem.W.instObj C s.heap.objs.size)) (typeOf (.ref (s.heap.objs.size+1))) (.ref C):=(PySem.W.Looks.ld e2).andThen .now
 have t2:PySem.W.Looks (model X.prog X.w) ((s.heap.push PySem.W.emptyDict).push (PySem.W.instObj C s.heap.objs.size)) (isInstance (.ref (s.heap.objs.size+1)) (.type "object")) true:=t1.andThen (Y.top.keeps fun b o e=>Heap.get?_push_of_some _ (Heap.get?_push_of_some _ e))
 refine codeAny_call_builtin PySem.W.oi_plain PySem.W.entry_oi (@PySem.W.check_slot (model X.prog X.w) _ _ _ "object.__init__" "object" "__init__" (.ref (s.heap.objs.size+1)) [] [] _ PySem.W.oi_kind PySem.W.oi_split t2 (PySem.W.oi_args (.ref (s.heap.objs.size+1))) ?_)
 rw [PySem.W.oi_run]
 exact wpAny_pure (And.intro rfl ⟨V.ref (s.heap.objs.size+1),_,I2,rfl,hq⟩)
end L2
set_option Elab.async false
set_option linter.all false
set_option maxRecDepth 100000
set_option maxHeartbeats 4000000
namespace L2
open PySem PySem.Spec PyProof.Rows
structure MD (P:Program) (w:World) (K:PySem.W.Frag) (mg:Str->Option Value) (base:Heap) (CX:CXT) (k:Nat) (m:Str) (C:Addr) (sp:Sp):Prop where
 c:Cls K C
 ex:∃ f fd ps,Meth K C m f∧FnOk P w K mg base CX k f fd ps sp∧Binds K fd ps []
def kMethD (n:Nat) (cl:Nat->Addr) (m:Str) (sp:Nat->Sp) (E:XK) (Q:VK):VK:=fun x H=>∃ a i dx fs,x=.ref a∧i < n∧H a=some (.ins (cl i) dx fs)∧fs.lookup m=none∧sp i [.ref a] H Q E
def nMethD (n:Nat) (cl:Nat->Addr) (m:Str) (sp:Nat->Sp) (E:XK) (ta:TE):TE:=fun σ H Q=>ta σ H (kMethD n cl m sp E Q)
theorem m_nMethD (n:Nat) (cl:Nat->Addr) (m:Str) (sp:Nat->Sp) (E:XK) (ta:TE) (σ:St) (H:Hp) (Q:VK):nMethD n cl m sp E ta σ H Q=ta σ H (kMethD n cl m sp E Q):=rfl
theorem pe_nMethD {X:Cx}{CX:CXT}{n k:Nat}{cl:Nat->Addr}{m:Str}{sp:Nat->Sp}{E:XK}{pos apos:Pos}{o:Expr}{ta:TE}{pl:Sem Bool}(he:PE X o ta) (hT:∀ i,i < n->MD X.prog X.w X.K X.mg X.base CX k m (cl i) (sp i)) (hr:Room k X.A) (hx:Passes CX X E)
  (ht:eval (.Call (.Attribute o m apos) [] [] pos) X.env=(do
   let ov ←eval o X.env
   standAt apos.atName
   let (f,first) ←holding [ov] (getMethod ov m pl)
   callWith pos f first (backTo pos (starEach [] X.env)) (backToKw pos (keywordEach [] X.env))):=by rfl) :
  PE X (.Call (.Attribute o m apos) [] [] pos) (nMethD n cl m sp E ta):=by
 intro pins s σ H Q I h
 refine PySem.W.methodCall_KW (pl:=pl) (thn (he pins s σ H _ I h) fun u s1 ⟨x,H1,I1,rx,q0⟩=>?_) ht
 obtain ⟨a,i,dx,fs,ex,hi,ea,l,q⟩:=q0
 obtain ⟨c,f,fd,ps,hm,F,hb⟩:=hT i hi
 subst ex
 obtain rfl:u=Value.ref a:=rx
 refine getmeth_ok I1 ea c hm l ?_
 refine PySem.W.callWith_K0 (first:=[.ref a]) I1.kIn hm.kp ?_
 exact run_fn (us:=[.ref a]) (vs:=[.ref a]) F hr hb .nil hx I1 (.cons rfl .nil) q
section
variable {k:Nat}{g:TG}{tt:TT}{te:TE}{σ:St}{Q:VK}{H:Hp}
end
end L2
set_option Elab.async false
set_option linter.all false
set_option maxRecDepth 100000
set_option maxHeartbeats 4000000
namespace L2
open PySem PySem.Spec PyProof.Rows
section
variable {X:Cx}
end
end L2
set_option Elab.async false
set_option linter.all false
set_option maxRecDepth 100000
set_option maxHeartbeats 4000000
namespace L2
open PySem PySem.Spec PyProof.Rows
section
variable {X:Cx}{CX:CXT}{n k:Nat}{cl:Nat->Addr}{m:Str}{sp:Nat->Sp}{pos apos:Pos}{o e:Expr}{es:List Expr}{ta:TE}{t:TA}
end
def nIsK (K:PySem.W.Frag):List V->Hp->VK->Prop:=fun xs H Q=>∃ p C S dx fs b,xs=[.ref p,.ref S]∧H p=some (.ins C dx fs)∧IsC K C∧PySem.W.kitOne K (.ref C) (.ref S)=some b∧Q (.bl b) H
theorem use_isK {K:PySem.W.Frag}{p C S dx:Addr}{fs:List (Str × V)}{b:Bool}{H:Hp}{Q:VK}(h:H p=some (.ins C dx fs)) (ic:IsC K C) (kb:PySem.W.kitOne K (.ref C) (.ref S)=some b) (q:Q (.bl b) H):nIsK K [.ref p,.ref S] H Q:=⟨p,C,S,dx,fs,b,rfl,h,ic,kb,q⟩
theorem call_nIsK {X:Cx}{K:PySem.W.Frag}(hK:X.K=K):CallR X (.builtin "isinstance") (nIsK K):=by
 subst hK
 intro pins s σ H xs us Q I r h
 obtain ⟨p,C,S,dx,fs,b,rfl,hp,ic,kb,q⟩:=h
 obtain ⟨u,w',rfl,rx,rc⟩:=vals2 r
 cases (show w'=Value.ref S from rc)
 exact isinst_ok I rx (TyOf.ins hp ic.cl ic.fc ic.ocs ic.oct ic.mo) kb (fun tk=>⟨.bl b,H,I.tok _,rfl,q⟩)
end L2
set_option Elab.async false
set_option linter.all false
set_option maxRecDepth 100000
set_option maxHeartbeats 4000000
namespace L2
open PySem PySem.Spec PyProof.Rows
section
variable {X:Cx}{CX:CXT}{k:Nat}{f C:Addr}{fd:FuncData}{ps:List Str}{sp:Sp}{dvs:List V}{ds:List Value}{E:St->XK}{x:Str}{p pos:Pos}{e:Expr}{es:List Expr}{t:TA}
end
end L2
set_option Elab.async false
set_option linter.all false
set_option maxRecDepth 100000
set_option maxHeartbeats 4000000
namespace L2
open PySem PySem.Spec PyProof.Rows
section
variable {X:Cx}
end
end L2
set_option Elab.async false
set_option linter.all false
set_option maxRecDepth 100000
set_option maxHeartbeats 4000000
namespace L2
open PySem PySem.Spec PyProof.Rows
section
variable {X:Cx}
end
end L2
set_option Elab.async false
set_option linter.all false
set_option maxRecDepth 100000
set_option maxHeartbeats 4000000
namespace L2
open PySem PySem.Spec PyProof.Rows
section
variable {X:Cx}
end
end L2
set_option Elab.async false
set_option linter.all false
set_option maxRecDepth 100000
set_option maxHeartbeats 4000000
namespace L2
open PySem PySem.Spec PyProof.Rows
section
variable {X:Cx}{tg:Expr}
end
section
variable {X:Cx}
end
end L2
set_option Elab.async false
set_option linter.all false
set_option maxRecDepth 100000
set_option maxHeartbeats 4000000
namespace L2
open PySem PySem.Spec PyProof.Rows
def nSlS:V->Option Int->Option Int->Hp->VK->Prop:=fun x lo hi H Q=>match x with
 | .str z=>z.length≤sizeLine∧Q (.str (PySem.Txt.slice z lo hi)) H
 | _=>False
theorem sl_nS {X:Cx}:SlR X nSlS:=by
 intro pins s σ H x v vl vu lo hi sl Q I rx hs pl pu h
 unfold nSlS at h
 split at h
 ·rename_i z
  obtain ⟨hz,q⟩:=h
  obtain ⟨t,rfl⟩:=rx
  refine ⟨"str",_,F.slot_str_getitem.lookup,typeIs_str _ _ _,?_⟩
  have fin:∀ (t':Tok) (k:Nat),EP X pins σ Q (.str (PySem.Txt.slice z lo hi) t') { s with toks:=k }:=fun t' k=>⟨.str _,H,I.tok _,⟨_,rfl⟩,q⟩
  cases pl with
  | none=>
   cases pu with
   | none=>exact wpAny_getItem_str_slice (l:=none) (u:=none) (st:=none) hs rfl (post_val_or_str ⟨Nat.le_trans (Txt.slice_le z _ _) hz,fun t' k=>fin t' k⟩)
   | int j uj=>exact wpAny_getItem_str_slice (l:=none) (u:=some (j,uj)) (st:=none) hs rfl (post_val_or_str ⟨Nat.le_trans (Txt.slice_le z _ _) hz,fun t' k=>fin t' k⟩)
  | int i ui=>
   cases pu with
   | none=>exact wpAny_getItem_str_slice (l:=some (i,ui)) (u:=none) (st:=none) hs rfl (post_val_or_str ⟨Nat.le_trans (Txt.slice_le z _ _) hz,fun t' k=>fin t' k⟩)
   | int j uj=>exact wpAny_getItem_str_slice (l:=some (i,ui)) (u:=some (j,uj)) (st:=none) hs rfl (post_val_or_str ⟨Nat.le_trans (Txt.slice_le z _ _) hz,fun t' k=>fin t' k⟩)
 ·exact h.elim
end L2
namespace HT
open PySem PySem.Spec PyProof.Rows
section
variable {prog:Program}{w:World}{A:Around}{E:Value->Shared->Prop}{s:Shared}
theorem getItem_tuple_whole {t sl:Addr}{items:Array Value}{vl vu:Value}{lo hi:Option Int}{Q:Value->Shared->Prop}(ht:IsTup s.heap t items) (hs:s.heap.IsSliceOf sl vl vu .none) (pl:IsPart vl lo) (pu:IsPart vu hi)
  (hw:sIx items.size 0 lo=0∧sIx items.size items.size hi=items.size) (h:Q (.ref t) s):wpAny (model prog w) A (getItem (.ref t) (.ref sl)) Q E s:=by
 obtain ⟨os,hos,hcs,hds⟩:=id hs
 have hTs:s.TypeIs (.ref sl) "slice":=⟨os,hos,hcs⟩
 unfold getItem
 try with_reducible refine wpAny_holding ?_
 first|refine wpAny_bind (wpAny_pure ?_)|skip
 refine wpAny_bind (wpAny_sequenceKey ht.typeIs (by decide) ?_)
 refine wpAny_bind (wpAny_callSpecial?_slot (name:=Str.ofString "__getitem__") ht.typeIs PyProof.Rows.slot_tuple_getitem
  (wpAny_call_entry PyProof.Rows.slot_tuple_getitem ht.typeIs entry_tuple_getitem ?_ (args_tuple_getitem _ _)))
 show wpAny _ _ (Builtin.Tuple.tupleItemsOf (.ref t) >>= _) _ _ s
 refine wpAny_bind (tupleItemsOf_ ht ?_)
 refine wpAny_bind (wpAny_typeOf hTs ?_)
 rw [if_pos (by decide)]
 refine wpAny_bind (sliceApplied_gen hs pl pu ?_)
 have hyes:(((sIx items.size 0 lo:Nat):Int) == 0 && (1:Int) == 1 && (sIx items.size items.size hi - sIx items.size 0 lo) == items.size)=true:=by
  rw [hw.1,hw.2];simp
 show wpAny _ _ (if (((sIx items.size 0 lo:Nat):Int) == 0 && (1:Int) == 1 && (sIx items.size items.size hi - sIx items.size 0 lo) == items.size)=true then _ else _) _ _ s
 rw [if_pos hyes]
 refine wpAny_bind ?_
 show wpAny _ _ (Builtin.Tuple.tupleIsExact (.ref t)) _ _ s
 refine wpAny_bind (wpAny_typeOf ht.typeIs (wpAny_pure ?_))
 rw [if_pos (by decide)]
 refine wpAny_bind (wpAny_rule ?_)
 first
  | exact wpAny_pure ⟨_,rfl,wpAny_pure h⟩
  | exact wpAny_bind (wpAny_pure (wpAny_pure ⟨_,rfl,wpAny_pure h⟩))
  | exact wpAny_bind (wpAny_pure ⟨_,rfl,wpAny_pure h⟩)
end
end HT
namespace L2
open PySem PySem.Spec PyProof.Rows
def kNSU (a:Addr) (lo hi:Option Int) (H:Hp) (Q:VK):List V->Prop:=fun xs=>((HT.sIx xs.length 0 lo=0∧HT.sIx xs.length xs.length hi=xs.length)->Q (.ref a) H)∧(¬ (HT.sIx xs.length 0 lo=0∧HT.sIx xs.length xs.length hi=xs.length)->newK (.tup (cutV xs lo hi)) H Q)
def nSlU:V->Option Int->Option Int->Hp->VK->Prop:=fun x lo hi H Q=>match x with
 | .ref a=>optK (tupAt H a) (kNSU a lo hi H Q)
 | _=>False
theorem sl_nU {X:Cx}:SlR X nSlU:=by
 intro pins s σ H x v vl vu lo hi sl Q I rx hs pl pu h
 unfold nSlU at h
 split at h
 ·rename_i a
  obtain ⟨xs,e,q1,q2⟩:=optK_ex h
  have hx:SqT X.K H a xs:=SqT.of (tup_of e)
  by_cases hw:HT.sIx xs.length 0 lo=0∧HT.sIx xs.length xs.length hi=xs.length
  ·cases rx
   obtain ⟨its,r,ht,hz⟩:=I.tuple hx
   have hlen:its.toArray.size=xs.length:=by rw [List.size_toArray];exact r.length.symm
   refine ⟨"tuple",_,PyProof.Rows.slot_tuple_getitem.lookup,ht.typeIs,?_⟩
   exact HT.getItem_tuple_whole ht hs pl pu (by rw [hlen];exact hw) ⟨.ref a,H,I,rfl,q1 hw⟩
  ·exact sl_tup pins s σ H (.ref a) v vl vu lo hi sl Q I rx hs pl pu ⟨a,xs,rfl,hx,hw,(q2 hw).to⟩
 ·exact h.elim
theorem use_tail {a:Addr}{xs:List V}{H:Hp}{Q:VK}(h:H a=some (.tup xs)) (q:∀ (r:Addr) (H':Hp),Ext H H'->H' r=some (.tup xs.tail)->Q (.ref r) H'):nSlU (.ref a) (some 1) none H Q:=by
 show optK (tupAt H a) (kNSU a (some 1) none H Q)
 rw [tupAt,h]
 show kNSU a (some 1) none H Q xs
 refine ⟨fun hw=>q a H (Ext.refl _) ?_,fun hw r H' hr e1 hh=>q r H' e1 ?_⟩
 ·have h1:=hw.1
  have:HT.sIx xs.length 0 (some ((1:Nat):Int))=0:=h1
  rw [HT.sIx_nat] at this
  cases xs with
  | nil=>exact h
  | cons x r=>simp at this
 ·have e:=cut_some xs 1 (by decide)
  rw [hh,e]
  cases xs<;>rfl
end L2
set_option Elab.async false
set_option linter.all false
set_option maxRecDepth 100000
set_option maxHeartbeats 4000000
namespace L2
open PySem PySem.Spec PyProof.Rows
section
variable {X:Cx}
end
end L2
set_option Elab.async false
set_option linter.all false
set_option maxRecDepth 100000
set_option maxHeartbeats 4000000
namespace L2
open PySem PySem.Spec PyProof.Rows
def Its (x:Str):It:=⟨fun i _=>i < x.cps.size,fun i H v H'=>H'=H∧∃ c,x.cps[i]? = some c∧v=.str ⟨#[c]⟩,fun i _=>x.cps.size≤i⟩
theorem turn_str {P:Program}{w:World}{K:PySem.W.Frag}{tg:Expr}(it:Addr) (x:Str) (t:Tok):Turn P w K tg (Its x) [it] it (fun i h=>h.IsStrIter it "str_ascii_iterator" x t i) where
 mem:=by simp
 obj:=fun i h st b hb=>by
  have e:b=it:=by simpa using hb
  subst e
  obtain ⟨o,e,c,d⟩:=st
  exact ⟨o,e,fun v z=>by rw [d] at z;cases z⟩
 keep:=fun i h h' st k=>let ⟨o,ho,r⟩:=st;⟨o,k it (by simp) o ho,r⟩
 item:=by
  intro X hP hw hK hc i pins s σ H E I hf st hg
  subst hP hw hK
  have hi:i < x.cps.size:=hg
  have hx:x.cps[i]? = some x.cps[i]:=by simp [hi]
  obtain ⟨f0,f1,f2,f3,f4,f5⟩:=hf it (by simp)
  refine wpAny_pyNext_ascii_item st hx fun h' st' sb=>?_
  have I1:Inv X pins σ H { s with heap:=h',toks:=s.toks+1 }:=I.turned (fun b o hb e=>(sb.2 b hb).trans e) f0 f1 f3 f4 f5
  obtain ⟨o,e,c,d⟩:=id st'
  exact ⟨_,rfl,go_of (s:={ s with heap:=h',toks:=s.toks+1 }) e c d (by decide) ⟨.str ⟨#[x.cps[i]]⟩,H,I1,⟨_,rfl⟩,⟨rfl,_,hx,rfl⟩,st',fun b hb=>(hf b hb).1⟩⟩
 done:=by
  intro X hP hw hK hc i pins s σ H E I hf st hg
  subst hP hw hK
  have hi:x.cps.size≤i:=hg
  obtain ⟨f0,f1,f2,f3,f4,f5⟩:=hf it (by simp)
  exact wpAny_pyNext_ascii_end (I.ok.hd hc) st (by simp [hi]) fun h' eb=>⟨rfl,I.turned (t':=s.toks) (fun b o hb e=>eb b o hb e) f0 f1 f3 f4 f5⟩
 self:=fun _ _ _ _ _ st h=>wpAny_pyIter_striter_ascii st h
def kIStr (R:It->Hp->Prop):VK:=fun v H=>∃ x:Str,v=.str x∧x.cps.all (· < 128)=true∧R (Its x) H
def iStr (tl:TE):TI:=fun σ H R=>tl σ H (kIStr R)
theorem m_iStr (tl:TE) (σ:St) (H:Hp) (R:It->Hp->Prop):iStr tl σ H R=tl σ H (kIStr R):=rfl
theorem pi_str {X:Cx}{tg l:Expr}{tl:TE}(hl:PE X l tl):PI X tg l (iStr tl):=by
 intro pins s σ H R I h
 refine thn (hl pins s σ H _ I h) fun v s1 ⟨x,H1,I1,r1,q1⟩=>?_
 obtain ⟨z,rfl,ha,q⟩:=q1
 obtain ⟨t,rfl⟩:=r1
 refine wpAny_pyIter_ascii ha ?_
 refine ⟨s1.heap.objs.size,[s1.heap.objs.size],_,_,H1,rfl,I1.kept (t':=s1.toks) fun b o e=>Heap.get?_push_of_some _ e,turn_str _ z t,⟨_,Heap.get?_push_size _ rfl,rfl,rfl⟩,fun b hb=>?_,q⟩
 have e:b=s1.heap.objs.size:=by simpa using hb
 subst e
 exact I1.fpOk (Nat.le_refl _) (I1.hok.fresh (Nat.le_refl _))
def sgn (c:Nat):V:=.str ⟨#[c]⟩
theorem wk_str {H:Hp}(x:Str):(∀ i z H',x.cps.toList[i]? = some z->Ext H H'->(Its x).go i H'∧∀ v H'',(Its x).yld i H' v H''->Ext H' H''∧v=sgn z)∧∀ H',Ext H H'->(Its x).stop x.cps.toList.length H':=by
 refine ⟨fun i z H' hz _=>?_,fun H' _=>by simp [Its]⟩
 have hz':x.cps[i]? = some z:=by simpa using hz
 refine ⟨?_,fun v H'' y=>⟨by rw [y.1];exact Ext.refl _,?_⟩⟩
 ·have:=(List.getElem?_eq_some_iff.mp hz).1
  show i < x.cps.size
  simpa using this
 ·obtain ⟨c,hc,rfl⟩:=y.2
  rw [hz'] at hc
  cases hc
  rfl
def repS (x:Str) (n:Int):Str:=if (n == 1 || x.length == 0)=true then x else ⟨(List.replicate n.toNat x.cps).foldl (· ++ ·) #[]⟩
theorem rep_size (a:Array Nat):∀ (k:Nat) (b:Array Nat),((List.replicate k a).foldl (· ++ ·) b).size=b.size+k * a.size
 | 0,b=>by simp
 | k+1,b=>by
  rw [List.replicate_succ,List.foldl_cons,rep_size a k,Array.size_append,Nat.succ_mul]
  omega
def nMulS:R2:=fun x y H Q=>match x,y with
 | .str z,.int n=>1≤n∧n≤100∧z.length≤100∧Q (.str (repS z n)) H
 | _,_=>False
theorem m_nMulS (z:Str) (n:Int) (H:Hp) (Q:VK):nMulS (.str z) (.int n) H Q=(1≤n∧n≤100∧z.length≤100∧Q (.str (repS z n)) H):=rfl
theorem op_nMulS {X:Cx}:OpR X (binaryOp .Mult) nMulS:=by
 intro pins s σ H x y v u Q I rx ry h
 unfold nMulS at h
 split at h
 ·rename_i z n
  obtain ⟨h1,h2,h3,q⟩:=h
  obtain ⟨t,rfl⟩:=rx
  obtain ⟨t',rfl⟩:=ry
  have hn:¬ n < 1:=by omega
  have e1:decide (n < -(2 ^ 63:Int))=false:=decide_eq_false (by omega)
  have e2:decide (n ≥ 2 ^ 63)=false:=decide_eq_false (by omega)
  refine P.mul_str (by rw [e1,e2];rfl) (fun _ _=>?_) (fun _ _=>?_) ?_
  ·have:(2 ^ 63 - 1) / n ≥ 92233720368547758:=by
    have hp:(0:Int) < n:=by omega
    exact (Int.le_ediv_iff_mul_le hp).mpr (by omega)
   omega
  ·have:z.length * n.toNat≤10000:=Nat.mul_le_mul h3 (show n.toNat≤100 by omega)
   show decide (z.length * n.toNat > 2 ^ 24)=false
   exact decide_eq_false (by omega)
  ·rw [if_neg hn]
   unfold repS at q
   split
   ·rename_i hc
    rw [if_pos hc] at q
    exact ⟨.str z,H,I,⟨_,rfl⟩,q⟩
   ·rename_i hc
    rw [if_neg hc] at q
    have hlen:(⟨(List.replicate n.toNat z.cps).foldl (· ++ ·) #[]⟩:Str).length≤sizeLine:=by
     show ((List.replicate n.toNat z.cps).foldl (· ++ ·) #[]).size≤2 ^ 24
     rw [rep_size]
     have h4:n.toNat * z.cps.size≤100 * 100:=Nat.mul_le_mul (show n.toNat≤100 by omega) h3
     have h5:(#[]:Array Nat).size=0:=rfl
     omega
    exact ⟨hlen,⟨.str _,H,I.tok _,⟨_,rfl⟩,q⟩⟩
 ·exact h.elim
def inS (i j:Str):Bool:=!(Builtin.Str.occurrences j i 0 j.length 1).isEmpty
def nInS:R2:=fun x y H Q=>match x,y with
 | .str i,.str j=>Q (.bl (inS i j)) H
 | _,_=>False
theorem m_nInS (i j:Str) (H:Hp) (Q:VK):nInS (.str i) (.str j) H Q=Q (.bl (inS i j)) H:=rfl
theorem op_qInS {X:Cx}:OpR X (compareOp .In) nInS:=op_in_str.mono fun x y H Q h=>by
 unfold nInS at h
 split at h
 ·exact ⟨_,_,rfl,rfl,h⟩
 ·exact h.elim
end L2
set_option Elab.async false
set_option linter.all false
set_option maxRecDepth 100000
set_option maxHeartbeats 4000000
namespace L2
open PySem PySem.Spec PyProof.Rows
section
variable {prog:Program}{w:World}{A:Around}{E:Value->Shared->Prop}{s:Shared}
end
end L2
set_option Elab.async false
set_option linter.all false
set_option maxRecDepth 100000
set_option maxHeartbeats 4000000
namespace L2
open PySem PySem.Spec PyProof.Rows
end L2
set_option Elab.async false
set_option linter.all false
set_option maxRecDepth 100000
set_option maxHeartbeats 4000000
namespace L2
open PySem PySem.Spec PyProof.Rows
section
variable {prog:Program}{w:World}{A:Around}{E:Value->Shared->Prop}{s:Shared}{a₀:Array Keyed}
end
section
variable {X:Cx}
end
end L2
set_option Elab.async false
set_option linter.all false
set_option maxRecDepth 100000
set_option maxHeartbeats 4000000
namespace L2
open PySem PySem.Spec PyProof.Rows
section
variable {X:Cx}{k:Nat}{f:Addr}{fd:FuncData}{ps:List Str}{sp:Sp}
end
end L2
set_option Elab.async false
set_option linter.all false
set_option maxRecDepth 100000
set_option maxHeartbeats 4000000
namespace L2
open PySem PySem.Spec PyProof.Rows
section
variable {n:Nat}(h0:0 < n)
include h0
end
section
variable {prog:Program}{w:World}{A:Around}{E:Value->Shared->Prop}{s:Shared}
end
end L2
set_option Elab.async false
set_option linter.all false
set_option maxRecDepth 100000
set_option maxHeartbeats 4000000
namespace L2
open PySem PySem.Spec PyProof.Rows
section
variable {g:TG}{tb:TS}{nx:St->Hp->Prop}{rt:VK}{bk ct:St->Hp->Prop}{σ:St}{H:Hp}
end
section
variable {prog:Program}{w:World}{A:Around}{E:Value->Shared->Prop}{s:Shared}
end
section
variable {g:TG}{tb:TS}{nx:St->Hp->Prop}{rt:VK}{bk ct:St->Hp->Prop}{σ:St}{H:Hp}
end
end L2
set_option Elab.async false
set_option linter.all false
set_option maxRecDepth 100000
set_option maxHeartbeats 4000000
namespace L2
open PySem PySem.Spec PyProof.Rows
end L2
set_option Elab.async false
set_option linter.all false
set_option maxRecDepth 100000
set_option maxHeartbeats 4000000
namespace L2
open PySem PySem.Spec PyProof.Rows
end L2
set_option Elab.async false
set_option linter.all false
set_option maxRecDepth 100000
set_option maxHeartbeats 4000000
namespace L2
open PySem PySem.Spec PyProof.Rows
section
variable {X:Cx}{pins:List (Addr × Obj)}{σ:St}{H:Hp}{s:Shared}
end
end L2
set_option Elab.async false
set_option linter.all false
set_option maxRecDepth 100000
set_option maxHeartbeats 4000000
namespace L2
open PySem PySem.Spec PyProof.Rows
end L2
set_option Elab.async false
set_option linter.all false
set_option maxRecDepth 100000
set_option maxHeartbeats 4000000
namespace L2
open PySem PySem.Spec PyProof.Rows
end L2
set_option Elab.async false
set_option linter.all false
set_option maxRecDepth 100000
set_option maxHeartbeats 1000000
namespace L2
open PySem PySem.Spec PyProof.Rows
section
variable {X:Cx}{e lo st:Expr}{te tlo tst:TE}{pos p2:Pos}
end
end L2
set_option Elab.async false
set_option linter.all false
set_option maxRecDepth 100000
set_option maxHeartbeats 4000000
namespace L2
open PySem PySem.Spec PyProof.Rows
section
variable {X:Cx}{pins:List (Addr × Obj)}{σ:St}{H:Hp}{s:Shared}
end
end L2
set_option Elab.async false
set_option linter.all false
set_option maxRecDepth 100000
set_option maxHeartbeats 4000000
namespace L2
open PySem
end L2
namespace PySem
open Sem (wp)
section
variable {prog:Program}{w:World}{A:Around}{E:Value->Shared->Prop}{s:Shared}
end
end PySem
namespace PyProof.Rows
open PySem PySem.Spec
section
variable {prog:Program}{w:World}{K:Type} [DecidableEq K] {knd:PySem.KeyKind prog w K}{A:Around}{R:Result->Shared->Prop}{I:Addr}{fp wr:List Addr}{G:Array GenState->Array GenState->Prop}{n:Nat}{P:Nat->Value->Prop}{St:Nat->Shared->Prop}
end
end PyProof.Rows
namespace PySem
open Sem (wp)
open PyProof.Rows
section
variable {prog:Program}{w:World}{K:Type} [DecidableEq K] {knd:KeyKind prog w K}{A:Around}{E:Value->Shared->Prop}{s:Shared}
end
end PySem
namespace L2
open PySem PySem.Spec PyProof.Rows
end L2
set_option Elab.async false
set_option linter.all false
set_option maxRecDepth 100000
set_option maxHeartbeats 4000000
namespace L2
open PySem PySem.Spec PyProof.Rows
def nSw:V->List V->Hp->VK->Prop:=fun x vs H Q=>match x,vs with
 | .str x,[.str y]=>Q (.bl (PySem.Txt.startswith x y)) H
 | _,_=>False
theorem m_nSw (x y:Str) (H:Hp) (Q:VK):nSw (.str x) [.str y] H Q=Q (.bl (PySem.Txt.startswith x y)) H:=rfl
theorem mt_nSw {X:Cx}:MtM X "str.startswith" nSw:=by
 intro pins s σ H x vs v us Q I rx rv h
 unfold nSw at h
 split at h
 ·rename_i x y
  obtain ⟨t,rfl⟩:=rx
  obtain ⟨u,rfl,ru⟩:=Vals.one rv
  obtain ⟨t',rfl⟩:=ru
  exact SC.startswith ⟨.bl _,H,I,rfl,h⟩
 ·exact h.elim
def qIntS:List V->Hp->VK->Prop:=fun vs H Q=>∃ x i,vs=[.str x]∧PySem.intText? x=some i∧x.length≤640∧Q (.int i) H
theorem use_intS {x:Str}{i:Int}{H:Hp}{Q:VK}(h1:PySem.intText? x=some i) (h2:x.length≤640) (q:Q (.int i) H):qIntS [.str x] H Q:=⟨x,i,rfl,h1,h2,q⟩
theorem call_qIntS {X:Cx}:CallR X (.type "int") qIntS:=by
 intro pins s σ H vs us Q I r h
 obtain ⟨x,i,rfl,h1,h2,q⟩:=h
 obtain ⟨u,rfl,ru⟩:=Vals.one r
 obtain ⟨t,rfl⟩:=ru
 exact PySem.W.KIN.call_text h1 h2 ⟨.int i,H,I.tok _,⟨_,rfl⟩,q⟩
def nJoin:V->List V->Hp->VK->Prop:=fun x vs H Q=>∃ (z:Str) (p:Addr) (ws:List Str),x=.str z∧vs=[.ref p]∧H p=some (.lst (ws.map V.str))∧z.length≤16∧(ws.map (·.length)).sum+ws.length≤1048576∧Q (.str (PySem.Txt.join z ws)) H
theorem use_join {z:Str}{p:Addr}{ws:List Str}{H:Hp}{Q:VK}(e:H p=some (.lst (ws.map V.str))) (h1:z.length≤16) (h2:(ws.map (·.length)).sum+ws.length≤1048576) (q:Q (.str (PySem.Txt.join z ws)) H):nJoin (.str z) [.ref p] H Q:=⟨z,p,ws,rfl,rfl,e,h1,h2,q⟩
theorem strs_are:∀ {ws:List Str}{us:List Value},Vals (ws.map V.str) us->StrsAre us ws
 | [],_,r=>by rw [List.map_nil] at r;cases r;exact .nil
 | w::ws,_,r=>by
  rw [List.map_cons] at r
  cases r with
  | cons h t=>
   obtain ⟨t',rfl⟩:=h
   exact .cons w t' (strs_are t)
theorem mt_nJoin {X:Cx}:MtM X "str.join" nJoin:=by
 intro pins s σ H x vs v us Q I rx rv h
 obtain ⟨z,p,ws,rfl,rfl,e,h1,h2,q⟩:=h
 obtain ⟨t,rfl⟩:=rx
 obtain ⟨u,rfl,ru⟩:=Vals.one rv
 cases ru
 obtain ⟨its,hv,⟨o,n,e1,c1,d1,s1⟩,_⟩:=I.list (SqL.of e)
 exact join_listW (items:=its.toArray) ⟨o,e1,c1,n,s1⟩ (by simpa using strs_are hv) h1 h2 fun t' k=>⟨.str _,H,I.tok _,⟨_,rfl⟩,q⟩
theorem tPairs_const:∀ (l:List (Str × Int)){σ:St}{H:Hp}{Q:List (V × V)->Hp->Prop},Q (l.map fun p=>(V.str p.1,V.int p.2)) H->tPairs (l.map fun p=>(tC (V.str p.1),tC (V.int p.2))) σ H Q
 | [],_,_,_,h=>h
 | p::l,σ,H,Q,h=>tPairs_const l (Q:=fun ps H3=>Q ((V.str p.1,V.int p.2)::ps) H3) h
def strKV (l:List (Str × Int)):List (Key × V):=l.map fun p=>(Sum.inr p.1,V.int p.2)
theorem use_dispC (l:List (Str × Int)){σ:St}{H:Hp}{Q:VK}(hl:l.length≤15) (hm:mergeK [] (strKV l)=strKV l) (q:∀ (p:Addr) (H':Hp),H p=none->Ext H H'->H' p=some (.dK (strKV l))->Q (.ref p) H'):tDisp (l.map fun p=>(tC (V.str p.1),tC (V.int p.2))) σ H Q:=by
 intro p hp
 refine tPairs_const l ⟨upd_same,strKV l,?_,by unfold strKV;rw [List.length_map];exact hl,?_⟩
 ·unfold strKV
  rw [List.map_map]
  rfl
 ·rw [hm]
  exact q p _ hp ((Ext.new hp).put hp) upd_same
def dicO (w:World) (l:List (Str × Tok × Value)):Obj:={ cls:=.type "dict",data:=.dict (l.map fun p=>({ hash:=PyData.keyHash w.params p.1,key:=.str p.1 p.2.1,val:=p.2.2 }:DictEntry)).toArray l.length }
def keyed (kvs:List (Str × V)):List (Key × V):=kvs.map fun p=>(Sum.inr p.1,p.2)
structure DicK (w:World) (K:PySem.W.Frag) (a:Addr) (kvs:List (Str × V)):Prop where
 ex:∃ l:List (Str × Tok × Value),K.lookup a=some (dicO w l)∧(a == sysModules)=false∧(l.map (·.1)).Nodup∧Paired (fun (p:Str × V) (q:Str × Tok × Value)=>p.1=q.1∧RelV p.2 q.2.2) kvs l
theorem dic_pairs {P:Program}{w:World}:∀ l:List (Str × Tok × Value),Pairs (mixKind P w) (l.map fun p=>({ hash:=PyData.keyHash w.params p.1,key:=.str p.1 p.2.1,val:=p.2.2 }:DictEntry)) (l.map fun q=>((Sum.inr q.1:Key),q.2.2))
 | []=>.nil
 | p::l=>.cons (mixKind_str P w p.1 p.2.1) rfl (dic_pairs l)
theorem dic_kv:∀ {kvs:List (Str × V)}{l:List (Str × Tok × Value)},Paired (fun (p:Str × V) (q:Str × Tok × Value)=>p.1=q.1∧RelV p.2 q.2.2) kvs l->KV (keyed kvs) (l.map fun q=>((Sum.inr q.1:Key),q.2.2))
 | [],_,h=>by cases h;exact .nil
 | p::kvs,_,h=>by
  cases h with
  | cons h t=>exact .cons ⟨congrArg Sum.inr h.1,h.2⟩ (dic_kv t)
theorem DicK.at {P:Program}{w:World}{K:PySem.W.Frag}{a:Addr}{kvs:List (Str × V)}{h:Heap}(d:DicK w K a kvs) (i:K.In h):(a == sysModules)=false∧∃ vs,KV (keyed kvs) vs∧h.DictOf (mixKind P w) a vs:=by
 obtain ⟨l,h1,h2,h3,h4⟩:=d.ex
 refine ⟨h2,_,dic_kv h4,_,_,_,i _ _ h1,⟨rfl,rfl,rfl⟩,rfl,fun e he=>?_,by simpa using dic_pairs l,?_⟩
 ·have he':e∈l.map fun p=>({ hash:=PyData.keyHash w.params p.1,key:=.str p.1 p.2.1,val:=p.2.2 }:DictEntry):=by simpa using he
  obtain ⟨p,_,rfl⟩:=List.mem_map.mp he'
  exact ⟨.inr p.1,mixKind_str P w p.1 p.2.1,rfl⟩
 ·rw [List.map_map]
  have:((fun kv:Key × Value=>kv.1) ∘ fun q:Str × Tok × Value=>((Sum.inr q.1:Key),q.2.2))=(Sum.inr:Str->Key) ∘ (fun q:Str × Tok × Value=>q.1):=rfl
  rw [this,←List.map_map]
  exact h3.map _ fun x y hxy e=>hxy (Sum.inr.inj e)
def rInK (w:World) (K:PySem.W.Frag):R2:=fun x y H Q=>∃ a kvs z,y=.ref a∧x=.str z∧DicK w K a kvs∧Q (.bl (valV (keyed kvs) (.inr z)).isSome) H
theorem use_inK {w:World}{K:PySem.W.Frag}{a:Addr}{kvs:List (Str × V)}{z:Str}{H:Hp}{Q:VK}(d:DicK w K a kvs) (q:Q (.bl (valV (keyed kvs) (.inr z)).isSome) H):rInK w K (.str z) (.ref a) H Q:=⟨a,kvs,z,rfl,rfl,d,q⟩
theorem op_inK {X:Cx}:OpR X (compareOp .In) (rInK X.w X.K):=by
 intro pins s σ H x y v u Q I rx ry h
 obtain ⟨a,kvs,z,rfl,rfl,d,q⟩:=h
 obtain rfl:u=Value.ref a:=ry
 obtain ⟨no,vs,rel,dd⟩:=d.at (P:=X.prog) I.kIn
 refine wpAny_in_of (kV_is (k:=.inr z) rx) no dd.mapOf ?_
 rw [←(rel.val (.inr z)).isSome_eq]
 exact ⟨.bl _,H,I.tok _,rfl,q⟩
def kDK1 (w:World) (K:PySem.W.Frag) (Q:VK) (x:V):VK:=fun y H=>∃ a kvs z v,x=.ref a∧y=.str z∧DicK w K a kvs∧valV (keyed kvs) (.inr z)=some v∧Q v H
def kDK0 (w:World) (K:PySem.W.Frag) (ty:TE) (σ:St) (Q:VK):VK:=fun x H=>ty σ H (kDK1 w K Q x)
theorem m_kDK0 (w:World) (K:PySem.W.Frag) (ty:TE) (σ:St) (Q:VK) (x:V) (H:Hp):kDK0 w K ty σ Q x H=ty σ H (kDK1 w K Q x):=rfl
def nDGetK (w:World) (K:PySem.W.Frag) (td ty:TE):TE:=fun σ H Q=>td σ H (kDK0 w K ty σ Q)
theorem m_nDGetK (w:World) (K:PySem.W.Frag) (td ty:TE) (σ:St) (H:Hp) (Q:VK):nDGetK w K td ty σ H Q=td σ H (kDK0 w K ty σ Q):=rfl
theorem use_dgK {w:World}{K:PySem.W.Frag}{a:Addr}{kvs:List (Str × V)}{z:Str}{v:V}{H:Hp}{Q:VK}(d:DicK w K a kvs) (h:valV (keyed kvs) (.inr z)=some v) (q:Q v H):kDK1 w K Q (.ref a) (.str z) H:=⟨a,kvs,z,v,rfl,rfl,d,h,q⟩
section
variable {X:Cx}{o i:Expr}{pos:Pos}{td ty:TE}
theorem pe_dgetK (ho:PE X o td) (hi:PE X i ty) (hs:NoSl i):PE X (.Subscript o i pos) (nDGetK X.w X.K td ty):=by
 intro pins s σ H Q I h
 refine subD_of PySem.F.slot_dict_getitem.lookup hs (thn (ho pins s σ H _ I h) fun u s1 ⟨x,H1,I1,rx,q1⟩=>thn (hi pins s1 σ H1 _ I1 q1) fun iv s2 ⟨y,H2,I2,ry,a,kvs,z,v,ex,ey,d,hv,q2⟩=>?_)
 subst ex
 subst ey
 obtain rfl:u=Value.ref a:=rx
 obtain ⟨no,vs,rel,dd⟩:=d.at (P:=X.prog) I2.kIn
 obtain ⟨w',hw,rw'⟩:=RelO.some_of (v:=v) (o:=valueAt vs (.inr z)) (by rw [←hv];exact rel.val (.inr z))
 exact ⟨dd.typeIs,wpAny_getItem_of (kV_is (k:=.inr z) ry) dd.mapOf hw ⟨v,H2,I2.tok _,rw',q2⟩⟩
end
structure FD (P:Program) (w:World) (K:PySem.W.Frag) (mg:Str->Option Value) (base:Heap) (CX:CXT) (k:Nat) (f:Addr) (sp:Sp):Prop where
 kp:PySem.W.keepIn K (.ref f)=true
 ex:∃ fd ps,FnOk P w K mg base CX k f fd ps sp∧Binds K fd ps []
def kCV1 (i:Nat) (sp:Nat->Sp) (E:XK) (Q:VK):List V->Hp->Prop:=fun vs H=>sp i vs H Q E
theorem m_kCV1 (i:Nat) (sp:Nat->Sp) (E:XK) (Q:VK) (vs:List V) (H:Hp):kCV1 i sp E Q vs H=sp i vs H Q E:=rfl
def kCV0 (n:Nat) (fs:Nat->Addr) (sp:Nat->Sp) (E:XK) (t:TA) (σ:St) (Q:VK):VK:=fun x H=>∃ i,i < n∧x=.ref (fs i)∧t σ H (kCV1 i sp E Q)
def nCallV (n:Nat) (fs:Nat->Addr) (sp:Nat->Sp) (E:XK) (tf:TE) (t:TA):TE:=fun σ H Q=>tf σ H (kCV0 n fs sp E t σ Q)
theorem m_nCallV (n:Nat) (fs:Nat->Addr) (sp:Nat->Sp) (E:XK) (tf:TE) (t:TA) (σ:St) (H:Hp) (Q:VK):nCallV n fs sp E tf t σ H Q=tf σ H (kCV0 n fs sp E t σ Q):=rfl
theorem use_callV {n:Nat}{fs:Nat->Addr}{sp:Nat->Sp}{E:XK}{t:TA}{σ:St}{Q:VK}{H:Hp}(i:Nat){x:V}(hi:i < n) (hx:x=.ref (fs i)) (q:t σ H (kCV1 i sp E Q)):kCV0 n fs sp E t σ Q x H:=⟨i,hi,hx,q⟩
theorem pe_callV {X:Cx}{CX:CXT}{n k:Nat}{fs:Nat->Addr}{sp:Nat->Sp}{E:XK}{pos:Pos}{fe e:Expr}{es:List Expr}{tf:TE}{t:TA}(hf:PE X fe tf) (hT:∀ i,i < n->FD X.prog X.w X.K X.mg X.base CX k (fs i) (sp i)) (hr:Room k X.A) (hx:Passes CX X E) (ha:PA X (e::es) t)
  (ht:eval (.Call fe (e::es) [] pos) X.env=(do callWith pos (←eval fe X.env) [] (backTo pos (starEach (e::es) X.env)) (backToKw pos (keywordEach [] X.env))):=by rfl)
  (he:starEach (e::es) X.env=(false,eval e X.env)::starEach es X.env:=by rfl) (hpl:(backTo pos (starEach es X.env)).any (·.1)=false:=by rfl) :
  PE X (.Call fe (e::es) [] pos) (nCallV n fs sp E tf t):=by
 intro pins s σ H Q I h
 rw [ht]
 refine wpAny_bind (thn (hf pins s σ H _ I h) fun u s0 ⟨x,H0,I0,rx,i,hi,ex,q0⟩=>?_)
 subst ex
 obtain rfl:u=Value.ref (fs i):=rx
 obtain ⟨hk,fd,ps,F,hb⟩:=hT i hi
 refine PySem.W.callWith_K (h₀:=X.base) I0.ok.mod.kin hk (thn (ha pos pins s0 σ H0 _ I0 q0) fun us s1 ⟨vs,H1,I1,r,q⟩=>⟨I1.kIn,?_⟩) he hpl
 have q':sp i (vs++[]) H1 Q E:=by rw [List.append_nil];exact q
 exact run_fn F hr hb .nil hx I1 r q'
end L2
set_option Elab.async false
set_option linter.all false
set_option maxRecDepth 100000
set_option maxHeartbeats 4000000
namespace L2
open PySem PySem.Spec PyProof.Rows
def ExcG (h:Heap) (e:Addr) (cls:Value) (d:Option Addr) (T:Addr):Prop:=
 ∃ oe vs oT ts,h.get? e=some oe∧oe.cls=cls∧oe.dict=d∧oe.data=.fields vs∧vs[1]? = some (.ref T)∧T ≠ e∧h.get? T=some oT∧oT.data=.fields ts∧3 < ts.size∧vs[2]? = some .none
theorem ExcAt.g {h:Heap}{e:Addr}{cls:Value}{d:Option Addr}{T:Addr}(x:ExcAt h e cls d T):ExcG h e cls d T:=by
 obtain ⟨oe,vs,oT,ts,he,h1,h2,hd,h3,ne,hT,hdT,h4,h5⟩:=x
 exact ⟨oe,vs,oT,ts,he,h1,h2,hd,h3,ne,hT,hdT,(Array.getElem?_eq_some_iff.mp h4).1,h5⟩
theorem ExcG.but {h h':Heap}{e C:Addr}{cls:Value}{d:Option Addr}{T:Addr}(x:ExcG h e cls d T) (hs:∀ b,b ≠ C->h'.get? b=h.get? b) (h1:e ≠ C) (h2:T ≠ C):ExcG h' e cls d T:=by
 obtain ⟨oe,vs,oT,ts,he,q1,q2,hd,q3,ne,hT,hdT,q4,q5⟩:=x
 exact ⟨oe,vs,oT,ts,(hs e h1).trans he,q1,q2,hd,q3,ne,(hs T h2).trans hT,hdT,q4,q5⟩
section
variable {M:Model}{A:Around}{E:Value->Shared->Prop}{s:Shared}
theorem flightG {e T:Addr}{cls:Value}{d:Option Addr}{fr:Option Addr}{Q:Unit->Shared->Prop}(hx:ExcG s.heap e cls d T)
  (hQ:∀ h',(∀ b,b ≠ T->h'.get? b=s.heap.get? b)->h'.objs.size=s.heap.objs.size->ExcG h' e cls d T->(fr=none->ExcAt h' e cls d T)->Q () { s with heap:=h' }):wpAny M A (setFlight (.ref e) fr) Q E s:=by
 obtain ⟨oe,vs,oT,ts,he,q1,q2,hd,h1,ne,hT,hdT,h3,h2c⟩:=hx
 unfold setFlight
 refine wpAny_bind (wpAny_field he hd h1 ?_)
 rw [if_pos (show (Value.ref T != Value.none)=true from by simp)]
 have sb:=Heap.SameBut.update s.heap T (Obj.mapFields (·.setIfInBounds 3 (fr.elim Value.none fun f=>rawInt f)))
 have d3:=Obj.data_mapFields hdT (·.setIfInBounds 3 (fr.elim Value.none fun f=>rawInt f))
 have gT:=Heap.get?_update_self (Obj.mapFields (·.setIfInBounds 3 (fr.elim Value.none fun f=>rawInt f))) hT (Obj.isFreed_of_fields d3)
 refine wpAny_setField hT hdT h3 (hQ _ sb.2 sb.1 ⟨oe,vs,_,_,(sb.2 e (Ne.symm ne)).trans he,q1,q2,hd,h1,ne,gT,d3,by simp [h3],h2c⟩ fun z=>?_)
 exact ⟨oe,vs,_,_,(sb.2 e (Ne.symm ne)).trans he,q1,q2,hd,h1,ne,gT,d3,by subst z;simp [h3],h2c⟩
theorem note_any {base:Heap}{env:Env}{outer:List Env}{L e T:Addr}{cls:Value}{dd:Option Addr}{Q:Unit->Shared->Prop}
  (hfr:A.frames=some (env::outer)) (hl:s.heap.FunFrames base (env::outer)) (hf:env.frame=some L) (hx:ExcG s.heap e cls dd T)
  (hQ:∀ h' T',Noted (frs (env::outer)) e (fun b=>b=T) s.heap h'->(T'=T∨s.heap.get? T'=none)->ExcG h' e cls dd T'->Q () { s with heap:=h' }) :
  wpAny M A (noteFrame (.ref e) env) Q E s:=by
 have hx0:=hx
 obtain ⟨oe,vs,oT,ts,he,r1,r2,hd,h1,ne,hT,hdT,h3,h2c⟩:=hx
 unfold noteFrame
 simp only [hf]
 refine wpAny_bind (wpAny_field he hd h1 ?_)
 rw [if_pos (show (Value.ref T != Value.none)=true from by simp)]
 refine wpAny_bind (wpAny_field hT hdT (Array.getElem?_eq_getElem h3) ?_)
 by_cases hz:(ts[3] == rawInt L)=true
 ·rw [if_pos hz]
  exact wpAny_pure (hQ s.heap T ⟨fun b o _ _ _ q=>q,fun b o _ _ _ q=>⟨o.slots,q⟩,Nat.le_refl _⟩ (.inl rfl) hx0)
 ·rw [if_neg hz]
  have sb0:=Heap.SameBut.update s.heap T (Obj.mapFields (·.setIfInBounds 3 Value.none))
  refine wpAny_bind (wpAny_setField hT hdT h3 ?_)
  generalize hg0:s.heap.update T (Obj.mapFields (·.setIfInBounds 3 Value.none))=g0 at sb0
  have fl:g0.FunFrames base (env::outer):=hl.of_keeps fun b o q hnf=>⟨o,(sb0.2 b (fun z=>by rw [z,hT] at q;cases q;exact hnf ts hdT)).trans q,rfl⟩
  have he0:g0.get? e=some oe:=(sb0.2 e (Ne.symm ne)).trans he
  refine entry1 (s:={ s with heap:=g0 }) hfr fl hf he0 hd (Array.getElem?_eq_some_iff.mp h1).1 h2c fun g ng hx=>?_
  obtain ⟨T',oe',vs',oT',ts',nT,q1,q2,q2d,q3,q4,ne',q5,q6,q7,q8⟩:=hx
  have tT:T ≠ T':=fun z=>by
   subst z
   have:=Heap.get?_update_self (Obj.mapFields (·.setIfInBounds 3 Value.none)) hT (Obj.isFreed_of_fields (Obj.data_mapFields hdT _))
   rw [hg0] at this
   have nT':g0.get? T=none:=nT
   rw [this] at nT'
   cases nT'
  have nT0:s.heap.get? T'=none:=(sb0.2 T' (Ne.symm tT)).symm.trans nT
  exact hQ g T' ⟨fun b o hb hn hfs q=>ng.keep b o hb (fun z=>z) hfs ((sb0.2 b hn).trans q),fun b o hb hn hfs q=>ng.slot b o hb (fun z=>z) hfs ((sb0.2 b hn).trans q),Nat.le_trans (Nat.le_of_eq sb0.1.symm) ng.size⟩ (.inr nT0)
   ⟨oe',vs',oT',ts',q1,q2.trans r1,q2d.trans r2,q3,q4,ne',q5,q6,(Array.getElem?_eq_some_iff.mp q7).1,q8⟩
end
theorem Un.notedX {fs ex:List Addr}{H H':Hp}{h h1 h2:Heap}{e:Addr}{no:Addr->Prop}(u:Un fs ex H H' h h1) (n:Noted fs e no h1 h2) (he:h.get? e=none∨e∈ex) (hn:∀ b,no b->h.get? b=none∨b∈ex):Un fs ex H H' h h2:=by
 have ne:∀ b o,h.get? b=some o->b ∉ ex->b ≠ e∧¬ no b:=fun b o q hx=>⟨fun z=>(by rcases he with k|k;rw [z,k] at q;cases q;exact hx (z ▸ k)),fun z=>(by rcases hn b z with k|k;rw [k] at q;cases q;exact hx k)⟩
 refine ⟨fun b o q a hb hx=>n.keep b o (ne b o q hx).1 (ne b o q hx).2 hb (u.keep b o q a hb hx),fun b o q a hb hx=>?_,u.free,fun b o q hx=>?_,u.tups,u.frzs,u.tbls⟩
 ·obtain ⟨sl,r⟩:=u.slot b o q a hb hx
  obtain ⟨sl',r'⟩:=n.slot b _ (ne b o q hx).1 (ne b o q hx).2 hb r
  exact ⟨sl',r'⟩
 ·obtain ⟨o',r⟩:=u.there b o q hx
  by_cases hb':b∈fs
  ·obtain ⟨sl',r'⟩:=n.slot b _ (ne b o q hx).1 (ne b o q hx).2 hb' r
   exact ⟨_,r'⟩
  ·exact ⟨_,n.keep b _ (ne b o q hx).1 (ne b o q hx).2 hb' r⟩
theorem Un.butX {fs ex:List Addr}{H H':Hp}{h h1 h2:Heap}{C:Addr}(u:Un fs ex H H' h h1) (hs:∀ b,b ≠ C->h2.get? b=h1.get? b) (hC:h.get? C=none∨C∈ex):Un fs ex H H' h h2:=by
 have ne:∀ b o,h.get? b=some o->b ∉ ex->b ≠ C:=fun b o q hx z=>(by rcases hC with k|k;rw [z,k] at q;cases q;exact hx (z ▸ k))
 refine ⟨fun b o q a hb hx=>(hs b (ne b o q hx)).trans (u.keep b o q a hb hx),fun b o q a hb hx=>?_,u.free,fun b o q hx=>?_,u.tups,u.frzs,u.tbls⟩
 ·obtain ⟨sl,r⟩:=u.slot b o q a hb hx
  exact ⟨sl,(hs b (ne b o q hx)).trans r⟩
 ·obtain ⟨o',r⟩:=u.there b o q hx
  exact ⟨o',(hs b (ne b o q hx)).trans r⟩
theorem Un.goneX {fs ex:List Addr}{H H':Hp}{h h1:Heap}{a:Addr}(u:Un fs ex H H' h h1) (e:h1.get? a=none):h.get? a=none∨a∈ex:=by
 by_cases hx:a∈ex
 ·exact .inr hx
 ·cases q:h.get? a with
  | none=>exact .inl rfl
  | some o=>
   obtain ⟨o',z⟩:=u.there a o q hx
   rw [e] at z;cases z
def Leaves (X:Cx) (E:XK):Prop:=∀ (pins:List (Addr × Obj)) (σ:St) (H':Hp) (s':Shared) (e T:Addr) (cls:Value) (dd:Option Addr),Inv X pins σ H' s'->X.s₀.heap.get? e=none->X.s₀.heap.get? T=none->H' e=none->H' T=none->ExcG s'.heap e cls dd T->(∀ dx,dd=some dx->∃ fs,H' dx=some (.xd fs))->E cls dd H'->X.xe (.ref e) s'
theorem leaves_def {P:Program}{w:World}{K:PySem.W.Frag}{mg:Str->Option Value}{base:Heap}{N:List Str}{qual:Str}{scope:Scope}{f:Addr}{cd:Value}{A:Around}{outer:List Env}{s₀:Shared}{H₀:Hp}{E:XK} :
  Leaves (cxOf (CX1 P w) P w K mg base N qual scope f cd A outer s₀ H₀ E) E:=by
 intro pins σ H' s' e T cls dd I2 n0e n0T He HT ex hxd hE
 show wpAny (model P w) (A.deeper (envOfC qual scope s₀.heap.objs.size f cd)) (leaving (envOfC qual scope s₀.heap.objs.size f cd) (.ref e)) _ _ _
 unfold leaving
 have fl:s'.heap.FunFrames base (envOfC qual scope s₀.heap.objs.size f cd::outer):=I2.stack
 refine wpAny_bind (note_any (base:=base) (outer:=outer) I2.ok.frames fl rfl ex fun g T1 ng hT1 ex1=>?_)
 refine flightG (s:={ s' with heap:=g }) ex1 fun g2 sb sz _ ex2=>?_
 have un2:Un (frs outer) [] H₀ H' s₀.heap s'.heap:=I2.base
 have n0T1:s₀.heap.get? T1=none:=by
  rcases hT1 with rfl|h
  ·exact n0T
  ·exact un2.gone h
 have HT1:H' T1=none:=by
  rcases hT1 with rfl|h
  ·exact HT
  ·exact I2.hok.gone h
 have n2:Noted (frs (envOfC qual scope s₀.heap.objs.size f cd::outer)) e (fun b=>b=T∨b=T1) s'.heap g2:=⟨fun b o hb hn hfs q=>(sb b (fun z=>hn (.inr z))).trans (ng.keep b o hb (fun z=>hn (.inl z)) hfs q),fun b o hb hn hfs q=>by
  obtain ⟨sl,q'⟩:=ng.slot b o hb (fun z=>hn (.inl z)) hfs q
  exact ⟨sl,(sb b (fun z=>hn (.inr z))).trans q'⟩,Nat.le_trans ng.size (Nat.le_of_eq sz.symm)⟩
 refine ⟨e,T1,cls,dd,H',rfl,I2.os,I2.bare,un2.noted n2 n0e (fun b z=>by rcases z with z|z<;>rw [z];exact n0T;exact n0T1) (fun b hb=>?_),I2.hok.noted n2 He (fun b z=>by rcases z with z|z<;>rw [z];exact HT;exact HT1) I2.stkFree,n0e,n0T1,He,HT1,ex2 rfl,hxd,hE⟩
 rcases List.mem_cons.mp (I2.stkSub b hb) with z|z
 ·exact .inr (by rw [z];exact Heap.get?_none_of_le (Nat.le_refl _))
 ·exact .inl z
def XB (X:Cx) (C:Addr) (s₀:Shared) (H₀:Hp) (ex:List Addr) (E:XK):Value->Shared->Prop:=fun ev s'=>∃ e T cls d H',ev=.ref e∧s'.os=s₀.os∧AllBare s'.gens∧Un (frs X.stack) ex H₀ H' s₀.heap s'.heap∧HOk X.prog X.w H' s'.heap ∧
 (s₀.heap.get? e=none∨e∈ex)∧(s₀.heap.get? T=none∨T∈ex)∧e ≠ C∧T ≠ C∧H' e=none∧H' T=none∧ExcG s'.heap e cls d T∧(∀ dx,d=some dx->∃ fs,H' dx=some (.xd fs))∧E cls d H'∧(∃ m,s'.heap.Ns C m)∧H' C=none∧(∀ b∈frs X.stack,H' b=none)∧s'.heap.FunFrames X.base X.stack
abbrev cCxE (X:Cx) (scope:Scope) (N':List Str) (E:XK) (C:Addr) (s₀:Shared) (H₀:Hp) (ex:List Addr) (pn:List (Addr × Obj)):Cx:=
 { X with N:=N',s₀:=s₀,H₀:=H₀,env:=compEnvC scope (clOf X.env.cells scope.names []) C X.env,outer:=X.stack,stack:=X.stack,ex:=ex,fn:=fun _=>false,pn:=pn,xe:=XB X C s₀ H₀ ex E }
theorem ns_some {h:Heap}{C:Addr}{m:Str->Option Value}(n:h.Ns C m):∃ o es ep,h.get? C=some o∧o.data=.dict es ep:=by
 obtain ⟨o,es,ep,h1,h2,_⟩:=n
 exact ⟨o,es,ep,h1,h2⟩
theorem passes_comp {X:Cx}{scope:Scope}{N':List Str}{E:XK}{C:Addr}{s₀:Shared}{H₀:Hp}{ex:List Addr}{pn:List (Addr × Obj)}:Passes (CX1 X.prog X.w) (cCxE X scope N' E C s₀ H₀ ex pn) E:=by
 intro pins σ H s ev s' I hc
 obtain ⟨e,T,cls,dd,H',rfl,os,bare,un1,hok,ne,nT,He,HT,exc,hxd,hE⟩:=hc
 have I2:Inv _ pins σ H' s':=I.call' (ch:=[]) os un1 hok bare (fun b z=>absurd z (by simp))
 have b0:Un (frs X.stack) ex H₀ H s₀.heap s.heap:=I.base
 have b2:Un (frs X.stack) ex H₀ H' s₀.heap s'.heap:=I2.base
 obtain ⟨m,hn,_⟩:=I.loc
 obtain ⟨m2,hn2,_⟩:=I2.loc
 obtain ⟨oC,_,_,hC,_⟩:=ns_some hn
 have hC':s.heap.get? C=some oC:=hC
 refine ⟨e,T,cls,dd,H',rfl,I2.os,bare,b2,hok,b0.goneX ne,b0.goneX nT,fun z=>?_,fun z=>?_,He,HT,exc.g,hxd,hE,⟨m2,hn2⟩,I2.free,I2.stkFree,I2.stack⟩
 ·rw [z,hC'] at ne;cases ne
 ·rw [z,hC'] at nT;cases nT
theorem Noted.ns {fs:List Addr}{e C:Addr}{no:Addr->Prop}{h h':Heap}{m:Str->Option Value}(n:Noted fs e no h h') (hn:h.Ns C m) (h1:C ≠ e) (h2:¬ no C):h'.Ns C m:=by
 obtain ⟨o,es,ep,q1,q2,q3,q4⟩:=hn
 by_cases hb:C∈fs
 ·obtain ⟨sl,r⟩:=n.slot C o h1 h2 hb q1
  exact ⟨_,es,ep,r,q2,q3,q4⟩
 ·exact ⟨o,es,ep,n.keep C o h1 h2 hb q1,q2,q3,q4⟩
theorem XB.noted {X:Cx}{C L:Addr}{s₀:Shared}{H₀:Hp}{ex:List Addr}{E:XK}{ev:Value}{s':Shared}{E2:Value->Shared->Prop}(hst:X.stack=X.env::X.outer) (hfr:X.A.frames=some X.stack) (hL:X.env.frame=some L) (x:XB X C s₀ H₀ ex E ev s') :
  wpAny (model X.prog X.w) X.A (noteFrame ev X.env) (fun _ s''=>XB X C s₀ H₀ ex E ev s'') E2 s':=by
 obtain ⟨e,T,cls,d,H',rfl,os,bare,un,hok,n0e,n0T,eC,TC,He,HT,exc,hxd,hE,⟨m,hn⟩,HC,hfs,fl⟩:=x
 rw [hst] at hfr
 have fl':s'.heap.FunFrames X.base (X.env::X.outer):=by rw [←hst];exact fl
 refine note_any (base:=X.base) (outer:=X.outer) hfr fl' hL exc fun g T1 ng hT1 ex1=>?_
 rw [←hst] at ng
 have n0T1:s₀.heap.get? T1=none∨T1∈ex:=by
  rcases hT1 with rfl|h
  ·exact n0T
  ·exact un.goneX h
 have HT1:H' T1=none:=by
  rcases hT1 with rfl|h
  ·exact HT
  ·exact hok.gone h
 obtain ⟨oC,_,_,hC,hCd⟩:=ns_some hn
 have T1C:T1 ≠ C:=by
  rcases hT1 with rfl|h
  ·exact TC
  ·intro z;rw [z,hC] at h;cases h
 refine ⟨e,T1,cls,d,H',rfl,os,bare,un.notedX ng n0e (fun b z=>by rw [z];exact n0T),hok.noted ng He (fun b z=>by rw [z];exact HT) hfs,n0e,n0T1,eC,T1C,He,HT1,ex1,hxd,hE,⟨m,ng.ns hn (Ne.symm eC) (fun z=>TC z.symm)⟩,HC,hfs,?_⟩
 obtain ⟨oe,vs,oT,ts,he,_,_,hd,_,_,hT,hdT,_⟩:=exc
 refine fl.of_keeps fun b o q hnf=>?_
 have h1:b ≠ e:=fun z=>by rw [z,he] at q;cases q;exact hnf vs hd
 have h2:¬ b=T:=fun z=>by rw [z,hT] at q;cases q;exact hnf ts hdT
 by_cases hb:b∈frs X.stack
 ·obtain ⟨sl,r⟩:=ng.slot b o h1 h2 hb q
  exact ⟨_,r,rfl⟩
 ·exact ⟨o,ng.keep b o h1 h2 hb q,rfl⟩
theorem comp_loopX {X:Cx}{N':List Str}{tg elt iter:Expr}{ifs:List Expr}{scope:Scope}{pos:Pos}{it D C L:Addr}{g:TG}{tt:TT}{te:TE}{J:It}{fp ex:List Addr}{pn:List (Addr × Obj)}{s₀:Shared}{H₀:Hp}{EX:XK}{tn:Nat->Heap->Prop}{k:Nat}{σ:St}{Q:VK}
  (hst:X.stack=X.env::X.outer) (hfr:X.A.frames=some X.stack) (hL:X.env.frame=some L)
  (hc:X.calm=true) (hg:PG (cCxE X scope N' EX C s₀ H₀ ex pn) tg g) (ht:PTs (cCxE X scope N' EX C s₀ H₀ ex pn) ifs tt) (he:PE (cCxE X scope N' EX C s₀ H₀ ex pn) elt te) (T:Turn X.prog X.w X.K tg J fp it tn) (hf:∀ H:Hp,(∀ b∈fp,H b=none)->∀ b∈fp,FpOk (cCxE X scope N' EX C s₀ H₀ ex pn) [] H b)
  (W:Nat->Nat->List V->Hp->Prop)
  (turn:∀ i m ys H,W i m ys H->(J.stop i H∧Q (.ref D) H)∨(J.go i H∧∃ N:List V->Hp->Prop,(∀ ys' H',N ys' H'->∃ m',m' < m∧W (i+1) m' ys' H') ∧
   ∀ x H',J.yld i H x H'->g x (List.replicate k none++σ) H' fun σ2 H2=>(∃ vs:St,vs.length=k∧σ2=vs++σ)∧tt σ2 H2 fun b H3=>if b=true then te σ2 H3 fun y H4=>H4 D=some (.lst ys)∧ys.length < sizeLine∧N (ys++[y]) (upd H4 D (.lst (ys++[y]))) else N ys H3))
  (n:Nat) (s:Shared) (h:∃ i ys H,Inv (cCxE X scope N' EX C s₀ H₀ ex pn) [] (List.replicate k none++σ) H s∧tn i s.heap∧(∀ b∈fp,H b=none)∧W i n ys H) :
  codeAny (model X.prog X.w) X.A (.compLoop (.ListComp elt [⟨tg,iter,ifs,0⟩] scope pos) 0 (.ref it) (.ref D) (cCxE X scope N' EX C s₀ H₀ ex pn).env) (fun r s'=>(r=.ok .next∧∃ H',Inv (cCxE X scope N' EX C s₀ H₀ ex pn) [] (List.replicate k none++σ) H' s'∧Q (.ref D) H')∨∃ ev,r=.error ev∧XB X C s₀ H₀ ex EX ev s') s:=by
 refine codeAny_loop rfl (fun n s=>∃ i ys H,Inv (cCxE X scope N' EX C s₀ H₀ ex pn) [] (List.replicate k none++σ) H s∧tn i s.heap∧(∀ b∈fp,H b=none)∧W i n ys H) ?_ n h
 rintro n s3 ⟨i,ys,H3,I3,st3,fr3,w3⟩
 show wpAny _ X.A ((compTurn (.ListComp elt [⟨tg,iter,ifs,0⟩] scope pos) 0 (.ref it) (.ref D) (cCxE X scope N' EX C s₀ H₀ ex pn).env).onRaise (fun x=>do noteFrame x (cCxE X scope N' EX C s₀ H₀ ex pn).env;theTreesLotGoes x)) _ _ s3
 refine PySem.wpAny_noted ?_
 rw [PySem.compTurn_list]
 have no:∀ {α:Type} {m:Sem α} {P:α->Shared->Prop} {s:Shared},wpAny (model X.prog X.w) X.A m P (XB X C s₀ H₀ ex EX) s->wpAny (model X.prog X.w) X.A m P (notedBy (model X.prog X.w) X.A (cCxE X scope N' EX C s₀ H₀ ex pn).env fun e s'=>(fun r s'=>(r=Except.ok Flow.next∧∃ H',Inv (cCxE X scope N' EX C s₀ H₀ ex pn) [] (List.replicate k none++σ) H' s'∧Q (.ref D) H')∨∃ ev,r=Except.error ev∧XB X C s₀ H₀ ex EX ev s') (.error e) s') s:=fun {α m P s} h=>
  wpAny_mono h (fun _ _ q=>q) fun ev s' q=>thn (q.noted hst hfr hL) fun _ s'' q'=>.inr ⟨ev,rfl,q'⟩
 refine wpAny_bind (wpAny_standAt (wpAny_bind ?_))
 rcases turn i n ys H3 w3 with ⟨stop,qn⟩|⟨go,N,hN,step⟩
 ·refine thn (T.done (cCxE X scope N' EX C s₀ H₀ ex pn) rfl rfl rfl hc i [] s3 (List.replicate k none++σ) H3 _ I3 (hf H3 fr3) st3 stop) fun r s4 ⟨hr,I4⟩=>?_
  subst hr
  exact wpAny_pure (.inl ⟨rfl,H3,I4,qn⟩)
 ·refine thn (T.item (cCxE X scope N' EX C s₀ H₀ ex pn) rfl rfl rfl hc i [] s3 (List.replicate k none++σ) H3 _ I3 (hf H3 fr3) st3 go) fun r s4 ⟨u,hr,h4⟩=>?_
  subst hr
  refine wpAny_bind (thn h4 fun _ s5 ⟨x,H5,I5,r5,y5,st5,fr5⟩=>?_)
  have I5':=I5.pinned (hf H5 fr5) (T.obj _ _ st5)
  refine wpAny_bind (no (thn (hg _ s5 (List.replicate k none++σ) H5 x u _ I5' r5 (step x H5 y5)) fun _ s6 ⟨σ6,H6,I6,⟨vs,hvs,e6⟩,q6⟩=>?_))
  subst e6
  have forget:∀ {pins:List (Addr × Obj)} {H:Hp} {s:Shared},Inv (cCxE X scope N' EX C s₀ H₀ ex pn) pins (vs++σ) H s->Inv (cCxE X scope N' EX C s₀ H₀ ex pn) pins (List.replicate k none++σ) H s:=fun {pins H s} I=>I.weak (by simp [hvs]) fun i v e=>by
   by_cases hi:i < k
   ·rw [List.getElem?_append_left (by simpa using hi)] at e
    simp [List.getElem?_replicate,hi] at e
   ·rw [List.getElem?_append_right (by simpa using Nat.le_of_not_lt hi)] at e
    rw [List.getElem?_append_right (by omega)]
    simpa [hvs] using e
  refine wpAny_bind (no (thn (ht _ s6 (vs++σ) H6 _ I6 q6) fun b s7 ⟨H7,I7,q7⟩=>?_))
  have again:∀ {H8:Hp} {s8:Shared} {ys':List V},Inv (cCxE X scope N' EX C s₀ H₀ ex pn) ([]++pinsAt fp s5.heap) (vs++σ) H8 s8->N ys' H8->∃ m,m < n∧∃ i ys H,Inv (cCxE X scope N' EX C s₀ H₀ ex pn) [] (List.replicate k none++σ) H s8∧tn i s8.heap∧(∀ b∈fp,H b=none)∧W i m ys H:=fun {H8 s8 ys'} I8 n8=>by
   obtain ⟨m',hm,w8⟩:=hN ys' H8 n8
   refine ⟨m',hm,i+1,ys',H8,forget I8.unpinned,T.keep _ _ _ st5 fun b hb o e=>(I8.pin (b,o) (List.mem_append_right _ (List.mem_append_right _ (mem_pinsAt hb e)))).1,fun b hb=>?_,w8⟩
   obtain ⟨o,e,d⟩:=T.obj _ _ st5 b hb
   exact (I8.pin (b,o) (List.mem_append_right _ (List.mem_append_right _ (mem_pinsAt hb e)))).2.1
  cases b with
  | false=>
   rw [if_neg Bool.false_ne_true] at q7
   exact wpAny_pure ⟨rfl,again I7 q7⟩
  | true=>
   rw [if_pos rfl] at q7
   refine wpAny_bind (wpAny_bind (no (thn (he _ s7 (vs++σ) H7 _ I7 q7) fun y s8 ⟨y',H8,I8,ry,q8,l8,n8⟩=>?_)))
   exact wpAny_bind (no (thn (mt_append _ s8 (vs++σ) H8 (.ref D) [y'] (.ref D) [y] (fun _ H'=>N (ys++[y']) H') I8 rfl (.cons ry .nil) ⟨D,ys,y',rfl,rfl,q8,l8,n8⟩) fun _ s9 ⟨_,H9,I9,_,q9⟩=>wpAny_pure (wpAny_pure ⟨rfl,again I9 q9⟩)))
theorem Inv.xe {X:Cx}{pins:List (Addr × Obj)}{σ:St}{H:Hp}{s:Shared}(e:Value->Shared->Prop) (I:Inv X pins σ H s):Inv { X with xe:=e } pins σ H s:=
 ⟨⟨I.ok.mod,I.ok.kind,I.ok.glob,I.ok.blt,I.ok.above,I.ok.inj,I.ok.has,I.ok.cab,I.ok.hd,I.ok.frames,I.ok.stk,I.ok.exf,I.ok.bs,I.ok.bsz,I.ok.noex,I.ok.exfs,I.ok.funs,I.ok.frf⟩,I.os,I.bare,I.base,I.loc,I.cell,I.free,I.freeC,I.pin,I.hok,I.len⟩
section
variable {X:Cx}
theorem comp_blockX {L:Addr}{EX:XK}{elt iter tg:Expr}{ifs:List Expr}{scope:Scope}{pos:Pos}{g:TG}{tt:TT}{te:TE}{N':List Str}{k:Nat}{it:Addr}{J:It}{fp:List Addr}{tn:Nat->Heap->Prop}{pins:List (Addr × Obj)}{σ:St}{H:Hp}{s:Shared}{Q:VK}{RR:Value->Addr->Result->Shared->Prop}{E:Value->Shared->Prop}
  (hst:X.stack=X.env::X.outer) (hL:X.env.frame=some L) (c:CompOk X scope N' k) (hc:X.calm=true) (I:Inv X pins σ H s) (T:Turn X.prog X.w X.K tg J fp it tn) (st:tn 0 s.heap) (hf:∀ b∈fp,FpOk X pins H b)
  (hg:∀ C s₀ H₀ ex pn,PG (cCxE X scope N' EX C s₀ H₀ ex pn) tg g) (ht:∀ C s₀ H₀ ex pn,PTs (cCxE X scope N' EX C s₀ H₀ ex pn) ifs tt) (he:∀ C s₀ H₀ ex pn,PE (cCxE X scope N' EX C s₀ H₀ ex pn) elt te)
  (h:∀ D,H D=none->∃ W:Nat->Nat->List V->Hp->Prop,(∃ m,W 0 m [] (upd H D (.lst [])))∧∀ i m ys H,W i m ys H →
   (J.stop i H∧Q (.ref D) H)∨(J.go i H∧∃ N:List V->Hp->Prop,(∀ ys' H',N ys' H'->∃ m',m' < m∧W (i+1) m' ys' H') ∧
    ∀ x H',J.yld i H x H'->g x (List.replicate k none++σ) H' fun σ2 H2=>(∃ vs:St,vs.length=k∧σ2=vs++σ)∧tt σ2 H2 fun b H3=>if b=true then te σ2 H3 fun y H4=>H4 D=some (.lst ys)∧ys.length < sizeLine∧N (ys++[y]) (upd H4 D (.lst (ys++[y]))) else N ys H3))
  (fin:∀ D C s' H' m,s'.heap.Ns C m->C ≠ X.env.locals->(∀ x a,X.env.cells.lookup x=some a->a ≠ C)->(H' C=none∧X.s₀.heap.objs.size≤C∧∀ p∈X.pn++pins,p.1 ≠ C)->(∀ h',Heap.SameBut C s'.heap h'->Inv X pins σ H' { s' with heap:=h' })->Q (.ref D) H'->RR (.ref D) C (.ok .next) s')
  (finE:∀ D C s₁ s' H₁ ev,(∀ b o,s.heap.get? b=some o->s₁.heap.get? b=some o)->s₁.os=s.os->Un (frs X.stack) fp H H₁ s.heap s₁.heap->s.heap.get? C=none->C ≠ X.env.locals->XB X C s₁ H₁ fp EX ev s'->RR (.ref D) C (.error ev) s') :
  wpAny (model X.prog X.w) X.A (newList []) (fun acc s₃=>wpAny (model X.prog X.w) X.A (newFunctionEnv scope X.env.globals (clOf X.env.cells scope.names []) [] X.env.qual none .none (some X.env)) (fun cenv s₄=>
   codeAny (model X.prog X.w) X.A (.compStart (.ListComp elt [⟨tg,iter,ifs,0⟩] scope pos) 0 (.ref it) acc { cenv with scope:=relabel scope X.env }) (RR acc cenv.locals) s₄) E s₃) E s:=by
 refine wpAny_newObj_type (wpAny_newFunctionEnv c.cell (by intro y hy;simp at hy) (fun h₁ hns₁ hsb₁=>?_) c.kind)
 dsimp only at hns₁ hsb₁ ⊢
 have I3:Inv X pins σ (upd H s.heap.objs.size (.lst [])) { s with heap:=s.heap.push { cls:=.type "list",data:=.seq ([]:List Value).toArray },toks:=s.toks }:=I.lnew (ys:=[]) (its:=[]) .nil (Nat.zero_le _)
 generalize hH2:s.heap.push { cls:=.type "list",dict:=none,data:=.seq ([]:List Value).toArray }=hp at hns₁ hsb₁ I3 ⊢
 have hlt:∀ b o,s.heap.get? b=some o->hp.get? b=some o:=fun b o e=>by rw [←hH2];exact Heap.get?_push_of_some _ e
 have hnD:H s.heap.objs.size=none:=I.hok.fresh (Nat.le_refl _)
 have kp:∀ b o,hp.get? b=some o->h₁.get? b=some o:=fun b o e=>hsb₁.extBut b o (Nat.ne_of_lt (Heap.lt_size e)) (Heap.get?_push_of_some _ e)
 have stk:∀ b∈fp,s.heap.get? b ≠ none:=fun b hb z=>by
  obtain ⟨o,e,_⟩:=T.obj _ _ st b hb
  rw [z] at e;cases e
 have flt:∀ b∈fp,b < s.heap.objs.size:=fun b hb=>by
  obtain ⟨o,e,_⟩:=T.obj _ _ st b hb
  exact Heap.lt_size e
 have fpD:∀ b∈fp,b ≠ s.heap.objs.size:=fun b hb=>Nat.ne_of_lt (flt b hb)
 have hf3:∀ b∈fp,FpOk X pins (upd H s.heap.objs.size (.lst [])) b:=fun b hb=>by
  obtain ⟨a1,a2⟩:=hf b hb
  exact ⟨by rw [upd_ne (fpD b hb)];exact a1,a2⟩
 have hnb:∀ b∈fp,X.base.get? b=none:=fun b hb=>by
  cases e:X.base.get? b with
  | none=>rfl
  | some o=>
   rcases (hf b hb).2.2.2.1 with z|z
   ·exact absurd z (I.ok.noex b o e)
   ·have:=Heap.lt_size (I.ok.bs b o e).1
    exact absurd (Nat.lt_of_lt_of_le this z) (Nat.lt_irrefl _)
 have hsz:s.heap.objs.size < hp.objs.size:=by rw [←hH2,Heap.size_push];exact Nat.lt_succ_self _
 have IY:=Inv.xe (XB X hp.objs.size { s with heap:=hp,toks:=s.toks } (upd H s.heap.objs.size (.lst [])) fp EX) (inv_comp (s₄:={ s with heap:=h₁,toks:=s.toks+([]:List (Str × Value)).length }) (fp:=fp) c hc I3 hf3 (fun b hb=>Nat.lt_trans (flt b hb) hsz) hnb hns₁ kp rfl rfl)
 obtain ⟨W,⟨m0,w0⟩,turn⟩:=h s.heap.objs.size hnD
 have run:=comp_loopX (X:=X) (N':=N') (EX:=EX) (C:=hp.objs.size) (s₀:={ s with heap:=hp,toks:=s.toks }) (H₀:=upd H s.heap.objs.size (.lst [])) (ex:=fp) (pn:=X.pn++pins) hst I.ok.frames hL (tg:=tg) (elt:=elt) (iter:=iter) (ifs:=ifs) (scope:=scope) (pos:=pos) (it:=it) (D:=s.heap.objs.size) (k:=k) (σ:=σ) (Q:=Q)
  hc (hg _ _ _ _ _) (ht _ _ _ _ _) (he _ _ _ _ _) T (fun H' hn b hb=>⟨hn b hb,Nat.ne_of_lt (Nat.lt_trans (flt b hb) hsz),fun z=>(IY.ok.exfs b hb) z,.inl hb,fun x a e=>(IY.ok.exf b hb).2 x a e,fun p hp=>by
   have hp':p∈X.pn++pins:=by simpa using hp
   exact (hf b hb).2.2.2.2.2 p hp'⟩) W turn m0
 have st₁:tn 0 h₁:=T.keep _ _ _ st fun b hb o e=>kp b o (hlt b o e)
 have go:=run { s with heap:=h₁,toks:=s.toks+([]:List (Str × Value)).length } ⟨0,[],_,IY,st₁,fun b hb=>(hf3 b hb).1,w0⟩
 have u1:Un (frs X.stack) fp H (upd H s.heap.objs.size (.lst [])) s.heap hp:=Un.laid hlt (Nat.le_refl _) hnD
 have out:∀ r s',((r=Except.ok Flow.next∧∃ H',Inv (cCxE X scope N' EX hp.objs.size { s with heap:=hp,toks:=s.toks } (upd H s.heap.objs.size (.lst [])) fp (X.pn++pins)) [] (List.replicate k none++σ) H' s'∧Q (.ref s.heap.objs.size) H')∨∃ ev,r=Except.error ev∧XB X hp.objs.size { s with heap:=hp,toks:=s.toks } (upd H s.heap.objs.size (.lst [])) fp EX ev s')->RR (.ref s.heap.objs.size) hp.objs.size r s':=by
  rintro r s' (⟨rfl,H',J',q⟩|⟨ev,rfl,xb⟩)
  rotate_left
  ·exact finE _ _ { s with heap:=hp,toks:=s.toks } s' _ ev hlt rfl u1 (Heap.get?_none_of_le (Nat.le_of_lt hsz)) (Nat.ne_of_gt (Nat.lt_of_lt_of_le I.lt (Nat.le_of_lt hsz))) xb
  obtain ⟨m,hn,_⟩:=J'.loc
  have hC:hp.objs.size ≠ X.env.locals:=Nat.ne_of_gt (Nat.lt_of_lt_of_le I.lt (Nat.le_of_lt hsz))
  refine fin _ _ s' H' m hn hC (fun x a e=>?_) ⟨J'.free,Nat.le_trans I.sz (Nat.le_of_lt hsz),fun p hp'=>Nat.ne_of_lt (Nat.lt_trans (Heap.lt_size (I.pin p hp').1) hsz)⟩ (fun h' hs'=>?_) q
  ·obtain ⟨v,o,h1,_⟩:=I.cell x a e
   exact Nat.ne_of_lt (Nat.lt_trans (Heap.lt_size h1) hsz)
  ·refine I.call' (ch:=fp) ?_ ?_ ?_ J'.bare fun b hb=>⟨(hf b hb).2.2.2.1,(hf b hb).2.1,(hf b hb).2.2.2.2.1,(hf b hb).2.2.2.2.2⟩
   ·exact J'.os
   ·exact (u1.trans J'.base).but hs' fun b o e=>Nat.ne_of_lt (Nat.lt_trans (Heap.lt_size e) hsz)
   ·exact J'.hok.but J'.free hs'
 exact codeAny_compStart_list (codeAny_mono go out) (T.self _ 0 _ _ _ st₁ (codeAny_mono go out))
theorem comp_out {pins:List (Addr × Obj)}{σ:St}{H H₁:Hp}{s s₁ s':Shared}{fp:List Addr}{EX:XK}{C:Addr}{ev:Value}{what:String}(hlv:Leaves X EX) (hex:X.ex=[]) (I:Inv X pins σ H s) (hf:∀ b∈fp,FpOk X pins H b)
  (hlt:∀ b o,s.heap.get? b=some o->s₁.heap.get? b=some o) (hos:s₁.os=s.os) (u1:Un (frs X.stack) fp H H₁ s.heap s₁.heap) (hC:s.heap.get? C=none) (xb:XB X C s₁ H₁ fp EX ev s') :
  ∃ m,s'.heap.Ns C m∧∀ h',Heap.SameBut C s'.heap h'->∀ cenv:Env,cenv.locals=C->wpAny (model X.prog X.w) X.A (PySem.passOn (α:=Value) what ev cenv) (fun _ _=>False) X.xe { s' with heap:=h' }:=by
 obtain ⟨e,T,cls,d,H',rfl,os,bare,un,hok,n0e,n0T,eC,TC,He,HT,exc,hxd,hE,⟨m,hn⟩,HC,hfs,fl⟩:=xb
 have new0:∀ b,(s₁.heap.get? b=none∨b∈fp)->X.s₀.heap.get? b=none:=fun b hb=>by
  cases q:X.s₀.heap.get? b with
  | none=>rfl
  | some o=>
   exfalso
   have hb':b∈fp:=by
    rcases hb with h|h
    ·obtain ⟨o',r⟩:=I.base.there b o q (by rw [hex];simp)
     rw [hlt b o' r] at h;cases h
    ·exact h
   rcases (hf b hb').2.2.2.1 with z|z
   ·rw [hex] at z;cases z
   ·exact absurd (Heap.lt_size q) (Nat.not_lt.mpr z)
 refine ⟨m,hn,fun h' hs' cenv hcl=>?_⟩
 have exc':ExcG h' e cls d T:=exc.but hs'.2 eC TC
 obtain ⟨oe,vs,oT,ts,he,q1,q2,hd,h1,ne,hT,_⟩:=id exc'
 unfold PySem.passOn
 refine wpAny_bind (wpAny_field he hd h1 ?_)
 rw [if_neg (show ¬ ((Value.ref T == Value.none)=true) from by simp)]
 refine wpAny_bind (flightG (s:={ s' with heap:=h' }) exc' fun g sb sz ex2 _=>?_)
 refine wpAny_throw (hlv pins σ H' _ e T cls d ?_ (new0 e n0e) (new0 T n0T) He HT ex2 hxd hE)
 have nT:s.heap.get? T=none∨T∈fp:=by
  rcases n0T with h|h
  ·cases q:s.heap.get? T with
   | none=>exact .inl rfl
   | some o=>rw [hlt T o q] at h;cases h
  ·exact .inr h
 exact I.call' (ch:=fp) (os.trans hos) (((u1.trans un).but hs' (fun b o e z=>by rw [z,hC] at e;cases e)).butX sb nT) ((hok.but HC hs').but HT ⟨sz,sb⟩) bare fun b hb=>⟨(hf b hb).2.2.2.1,(hf b hb).2.1,(hf b hb).2.2.2.2.1,(hf b hb).2.2.2.2.2⟩
theorem pe_compX {elt iter tg:Expr}{ifs:List Expr}{scope:Scope}{pos:Pos}{wi:TI}{g:TG}{tt:TT}{te:TE}{N':List Str}{k:Nat}{L:Addr}{EX:XK}
  (hst:X.stack=X.env::X.outer) (hL:X.env.frame=some L) (hex:X.ex=[]) (hlv:Leaves X EX) (c:CompOk X scope N' k) (hc:X.calm=true) (hi:PI X tg iter wi)
  (hg:∀ C s₀ H₀ ex pn,PG (cCxE X scope N' EX C s₀ H₀ ex pn) tg g) (ht:∀ C s₀ H₀ ex pn,PTs (cCxE X scope N' EX C s₀ H₀ ex pn) ifs tt) (he:∀ C s₀ H₀ ex pn,PE (cCxE X scope N' EX C s₀ H₀ ex pn) elt te)
  (hs:∀ x,foldedSetIterable iter X.env x=pure x:=by intro _;rfl):PE X (.ListComp elt [⟨tg,iter,ifs,0⟩] scope pos) (tComp k wi g tt te):=by
 intro pins s σ H Q I h
 rw [PySem.eval_ListComp]
 refine PySem.wpAny_comprehension_free (use:=none) rfl hs (closureFor_eq (c.cells I)) c.kind c.names (thn (hi pins s σ H _ I h) fun v s1 h1=>thn h1 fun itv s2 h2=>?_)
 obtain ⟨it,fp,tn,J,H2,rfl,I2,T,st2,f2,hW⟩:=h2
 refine comp_blockX (EX:=EX) (RR:=fun acc C=>PySem.compPost (model X.prog X.w) X.A X.xe none (EP X pins σ Q) acc C) hst hL c hc I2 T st2 f2 hg ht he hW ?_ ?_
 ·intro D C s' H' m hn _ _ _ hI q
  exact ⟨m,hn,fun h' hs'=>⟨.ref D,H',hI h' hs',rfl,q⟩⟩
 ·intro D C s₁ s' H₁ ev hlt hos u1 hC _ xb
  exact comp_out hlv hex I2 f2 hlt hos u1 hC xb
theorem ps_setCX {L:Addr}{EX:XK}{elt iter tg:Expr}{ifs:List Expr}{scope:Scope}{pos spos py:Pos}{wi:TI}{g:TG}{tt:TT}{te:TE}{N':List Str}{k i:Nat}{y:Str}
  (hN:X.N.Nodup) (hi':X.N[i]? = some y) (hy:Loc X.env.scope y)
  (hst:X.stack=X.env::X.outer) (hL:X.env.frame=some L) (hex:X.ex=[]) (hlv:Leaves X EX) (c:CompOk X scope N' k) (hc:X.calm=true) (hi:PI X tg iter wi)
  (hg:∀ C s₀ H₀ ex pn,PG (cCxE X scope N' EX C s₀ H₀ ex pn) tg g) (ht:∀ C s₀ H₀ ex pn,PTs (cCxE X scope N' EX C s₀ H₀ ex pn) ifs tt) (he:∀ C s₀ H₀ ex pn,PE (cCxE X scope N' EX C s₀ H₀ ex pn) elt te)
  (hsw:swapsWith (.ListComp elt [⟨tg,iter,ifs,0⟩] scope pos) (some (.Name y py)) spos.line X.env=pure true:=by rfl)
  (hs:∀ x,foldedSetIterable iter X.env x=pure x:=by intro _;rfl) (hf:X.fn y=true∨X.env.scope.names.lookup y=some .local:=by first|exact .inl rfl|exact .inr rfl|assumption) :
  PS X (.Assign [.Name y py] (.ListComp elt [⟨tg,iter,ifs,0⟩] scope pos) spos) (tSetC i (tComp k wi g tt te)):=by
 intro pins s σ H D I h
 rw [PySem.exec_Assign_Name_used _ _ _ _ hsw]
 refine wpAny_bind (wpAny_standAt (wpAny_bind ?_))
 show wpAny _ X.A (do let _ ←comprehension (.ListComp elt [⟨tg,iter,ifs,0⟩] scope pos) scope X.env _ (newList []) false (eval iter X.env) (some (assign (.Name y py) X.env))) _ _ s
 refine wpAny_bind (thn (PySem.wpAny_comprehension_free (use:=some (assign (.Name y py) X.env)) (Q:=fun _ s'=>SP X pins D .next s') rfl hs (closureFor_eq (c.cells I)) c.kind c.names (thn (hi pins s σ H _ I h) fun v s1 h1=>thn h1 fun itv s2 h2=>?_)) fun _ s' hq=>wpAny_pure (wpAny_pure hq))
 obtain ⟨it,fp,tn,J,H2,rfl,I2,T,st2,f2,hW⟩:=h2
 refine comp_blockX (EX:=EX) (Q:=fun x H1=>D.nx (σ.set i (some x)) H1) (RR:=fun acc C=>PySem.compPost (model X.prog X.w) X.A X.xe (some (assign (.Name y py) X.env)) (fun _ s'=>SP X pins D .next s') acc C) hst hL c hc I2 T st2 f2 hg ht he hW ?_ ?_
 rotate_left
 ·intro D C s₁ s' H₁ ev hlt hos u1 hC _ xb
  exact comp_out hlv hex I2 f2 hlt hos u1 hC xb
 intro D' C s' H' m hn hCl hCc hCo hI q
 show wpAny _ X.A (assign (.Name y py) X.env (.ref D')) _ _ s'
 have I':Inv X pins σ H' s':=hI s'.heap (Heap.SameBut.refl _ _)
 refine wpAny_assign_Name (store_ok2 I' hN hi' hy (show RelV (.ref D') (.ref D') from rfl) (fun s'' I'' ⟨a,sb,ha⟩=>?_) hf)
 have hCa:C ≠ a:=by
  rcases ha with rfl|ha
  ·exact hCl
  ·exact fun z=>hCc _ _ ha z.symm
 refine ⟨m,hn.sameBut sb hCa,fun h' hs'=>⟨_,H',?_,q⟩⟩
 exact I''.turned (t':=s''.toks) (fun b o hb e=>(hs'.2 b hb).trans e) hCo.1 hCl (.inr hCo.2.1) hCc hCo.2.2
end
end L2
namespace PH
open PySem L2
open PySem.NumText
abbrev txt (i:Int):Str:=Str.ofString (toString i)
def digs (m:Nat):List Nat:=(Nat.toDigits 10 m).map Char.toNat
theorem txt_nat (m:Nat):(txt (m:Int)).cps.toList=digs m:=PySem.W.KIN.signs_num m
theorem txt_neg (m:Nat):(txt (Int.negSucc m)).cps.toList=45::digs (m+1):=by
 show (Str.ofString (toString (Int.negSucc m))).cps.toList=_
 rw [PyProof.Rows.signs_ofString]
 show ("-" ++ Nat.repr (m+1)).toList.map Char.toNat=_
 rw [String.toList_append,List.map_append,Nat.toList_repr]
 rfl
theorem digs_step {m:Nat}(h:¬ m < 10):digs m=digs (m / 10)++[(Nat.digitChar (m % 10)).toNat]:=by
 have hm:m % 10 < 10:=Nat.mod_lt m (by decide)
 have t:Nat.toDigits 10 (m / 10)++Nat.toDigits 10 (m % 10)=Nat.toDigits 10 (10 * (m / 10)+m % 10):=Nat.toDigits_append_toDigits (by decide) (by omega) hm
 rw [Nat.div_add_mod] at t
 unfold digs
 rw [←t,List.map_append,Nat.toDigits_of_lt_base hm]
 rfl
theorem digs_lt {m:Nat}(h:m < 10):digs m=[(Nat.digitChar m).toNat]:=by
 unfold digs
 rw [Nat.toDigits_of_lt_base h]
 rfl
theorem dig_range:∀ d:Nat,d < 10->48≤(Nat.digitChar d).toNat∧(Nat.digitChar d).toNat≤57∧(0 < d->(Nat.digitChar d).toNat ≠ 48):=by decide
theorem digs_ok (m:Nat):(∀ c∈digs m,48≤c∧c≤57)∧digs m ≠ []∧(0 < m->(digs m).head? ≠ some 48)∧∀ k,m < 10 ^ (k+1)->(digs m).length≤k+1:=by
 induction m using Nat.strongRecOn with
 | _ m ih=>
  by_cases h:m < 10
  ·have hd:=dig_range m h
   rw [digs_lt h]
   refine ⟨fun c hc=>?_,by simp,fun h0 e=>?_,fun k _=>by simp⟩
   ·rw [List.mem_singleton.mp hc];exact ⟨hd.1,hd.2.1⟩
   ·exact hd.2.2 h0 (Option.some.inj e)
  ·obtain ⟨i1,i2,i3,i4⟩:=ih (m / 10) (by omega)
   have hd:=dig_range (m % 10) (Nat.mod_lt m (by decide))
   rw [digs_step h]
   refine ⟨fun c hc=>?_,by simp,fun _ e=>?_,fun k hk=>?_⟩
   ·rcases List.mem_append.mp hc with hc|hc
    ·exact i1 c hc
    ·rw [List.mem_singleton.mp hc];exact ⟨hd.1,hd.2.1⟩
   ·cases hd:digs (m / 10) with
    | nil=>exact i2 hd
    | cons d r=>rw [hd] at e i3;exact i3 (by omega) e
   ·cases k with
    | zero=>omega
    | succ k=>
     have:=i4 k (by rw [Nat.pow_succ] at hk;omega)
     rw [List.length_append]
     show _+1≤_
     omega
def FIG:Str := "0123456789"
def figS (x:Str):Str:=if PySem.Txt.startswith x "-"=true then PySem.Txt.slice x (some 1) none else x
theorem sw_minus (x:Str):PySem.Txt.startswith x "-"=decide (x.cps.toList.head? = some 45):=by
 unfold PySem.Txt.startswith
 rw [StrLaws.subAt_eq]
 have hl:(Str.length "-")=1:=by decide
 have hx:x.length=x.cps.toList.length:=Array.length_toList.symm
 rw [hl,hx,List.drop_zero]
 have hc:(Str.cps "-").toList=[45]:=by decide
 rw [hc]
 cases x.cps.toList with
 | nil=>rfl
 | cons c r=>
  rw [show List.take 1 (c::r)=[c] from rfl,List.head?_cons,decide_eq_true (show 0+1≤(c::r).length by simp),Bool.true_and]
  by_cases e:c=45
  ·subst e;simp
  ·simp [e]
theorem fm_range {α:Type}:∀ (r:List α){f:Nat->Option α},(∀ k,k < r.length->f k=r[k]?)->(List.range r.length).filterMap f=r
 | [],f,_=>rfl
 | a::r,f,h=>by
  rw [List.length_cons,List.range_succ_eq_map,List.filterMap_cons,h 0 (by simp)]
  show a::List.filterMap f (List.map Nat.succ (List.range r.length))=_
  rw [List.filterMap_map]
  exact congrArg (a::·) (fm_range r (f:=f ∘ Nat.succ) fun k hk=>h (k+1) (by simp;omega))
theorem slice1 {x:Str}{c:Nat}{r:List Nat}(h:x.cps.toList=c::r):(PySem.Txt.slice x (some 1) none).cps.toList=r:=by
 have hx:x.length=r.length+1:=by rw [show x.length=x.cps.toList.length from Array.length_toList.symm,h];rfl
 have hi:Builtin.Str.strSliceIndices (some 1) none 1 x.length=(List.range r.length).map fun k=>k+1:=by
  rw [hx]
  show sliceRange (max 0 (min 1 ((r.length+1:Nat):Int))) ((r.length+1:Nat):Int) 1=_
  rw [show max 0 (min 1 ((r.length+1:Nat):Int))=1 by omega]
  unfold sliceRange
  have e:(if (1:Int) > 0 then (if (1:Int) < ((r.length+1:Nat):Int) then (((r.length+1:Nat):Int) - 1+1 - 1) / 1 else 0) else (if (1:Int) > ((r.length+1:Nat):Int) then (1 - ((r.length+1:Nat):Int) - 1 - 1) / (-1) else 0)).toNat=r.length:=by
   rw [if_pos (by decide)]
   split
   ·rw [Int.ediv_one];omega
   ·omega
  show List.map (fun (k:Nat)=>((1:Int)+1 * (k:Int)).toNat) (List.range (if (1:Int) > 0 then (if (1:Int) < ((r.length+1:Nat):Int) then (((r.length+1:Nat):Int) - 1+1 - 1) / 1 else 0) else (if (1:Int) > ((r.length+1:Nat):Int) then (1 - ((r.length+1:Nat):Int) - 1 - 1) / (-1) else 0)).toNat)=_
  rw [e]
  refine List.map_congr_left fun k _=>?_
  omega
 unfold PySem.Txt.slice
 rw [hi,if_neg (by simp [hx])]
 show (((List.range r.length).map fun k=>k+1).filterMap (x.cps[·]?)).toArray.toList=r
 rw [List.filterMap_map]
 exact fm_range r fun k _=>by
  show x.cps[k+1]? = r[k]?
  rw [←Array.getElem?_toList,h]
  rfl
def isNumF (x:Str):Bool:=decide (1≤(figS x).length) && decide ((figS x).length≤20) && (figS x).cps.toList.all (fun c=>inS ⟨#[c]⟩ FIG) && (decide (x = "0") || decide ((figS x).cps.toList.head? ≠ some 48))
theorem in_fig {c:Nat}(h1:48≤c) (h2:c≤57):inS ⟨#[c]⟩ FIG=true:=by
 have:c=48∨c=49∨c=50∨c=51∨c=52∨c=53∨c=54∨c=55∨c=56∨c=57:=by omega
 rcases this with rfl|rfl|rfl|rfl|rfl|rfl|rfl|rfl|rfl|rfl<;>decide +kernel
theorem head_eq {l:List Nat}{c:Nat}{r:List Nat}(h:l=c::r):l.head? = some c:=by rw [h];rfl
theorem isNum_txt {i:Int}(h:i.natAbs < 10 ^ 20):isNumF (txt i)=true:=by
 have fin:∀ (m:Nat),m < 10 ^ 20->(figS (txt i)).cps.toList=digs m->(0 < m∨txt i = "0")->isNumF (txt i)=true:=fun m hm hf h0=>by
  obtain ⟨d1,d2,d3,d4⟩:=digs_ok m
  have hl:=d4 19 hm
  have hl0:1≤(digs m).length:=List.length_pos_iff.mpr d2
  have hfl:(figS (txt i)).length=(digs m).length:=by rw [show (figS (txt i)).length=(figS (txt i)).cps.toList.length from Array.length_toList.symm,hf]
  unfold isNumF
  rw [hfl,hf,decide_eq_true hl0,decide_eq_true hl,List.all_eq_true.mpr fun c hc=>in_fig (d1 c hc).1 (d1 c hc).2]
  rcases h0 with h0|h0
  ·rw [decide_eq_true (d3 h0)]
   simp
  ·rw [decide_eq_true h0]
   simp
 cases i with
 | ofNat m=>
  have e:=txt_nat m
  obtain ⟨d1,d2,d3,d4⟩:=digs_ok m
  refine fin m h ?_ ?_
  ·unfold figS
   rw [sw_minus]
   cases hd:digs m with
   | nil=>exact absurd hd d2
   | cons c r=>
    have e':(txt (Int.ofNat m)).cps.toList=c::r:=e.trans hd
    have hc:=d1 c (by rw [hd];exact List.mem_cons_self)
    rw [head_eq e',decide_eq_false (by intro z;cases z;omega),if_neg (by simp)]
    exact e'
  ·by_cases h0:m=0
   ·subst h0;exact .inr (by decide)
   ·exact .inl (by omega)
 | negSucc m=>
  have e:=txt_neg m
  refine fin (m+1) h ?_ (.inl (by omega))
  unfold figS
  rw [sw_minus,head_eq e,decide_eq_true rfl,if_pos rfl]
  exact slice1 e
theorem int_txt {i:Int}(h:i.natAbs < 10 ^ 20):PySem.intText? (txt i)=some i∧(txt i).length≤22:=by
 cases i with
 | ofNat m=>
  have e:=txt_nat m
  obtain ⟨d1,d2,d3,d4⟩:=digs_ok m
  have hl:=d4 19 h
  have hx:(txt (Int.ofNat m)).length=(digs m).length:=by rw [show (txt (Int.ofNat m)).length=(txt (Int.ofNat m)).cps.toList.length from Array.length_toList.symm];exact congrArg List.length e
  have:=intText_digits (x:=txt (Int.ofNat m)) (by show AllDigits (txt (m:Int)).cps.toList;rw [e];exact d1) (by show (txt (m:Int)).cps.toList ≠ [];rw [e];exact d2) (by omega)
  rw [show (txt (Int.ofNat m)).cps.toList=digs m from e,show digitsVal (digs m)=m from PySem.W.KIN.val_back m] at this
  exact ⟨this,by omega⟩
 | negSucc m=>
  have e:=txt_neg m
  obtain ⟨d1,d2,d3,d4⟩:=digs_ok (m+1)
  have hl:=d4 19 h
  have hx:(txt (Int.negSucc m)).length=(digs (m+1)).length+1:=by rw [show (txt (Int.negSucc m)).length=(txt (Int.negSucc m)).cps.toList.length from Array.length_toList.symm,e];rfl
  have:=intText_neg e d1 d2 (by omega)
  rw [show digitsVal (digs (m+1))=m+1 from PySem.W.KIN.val_back (m+1)] at this
  exact ⟨this,by omega⟩
theorem txt_not (i:Int):txt i ≠ "-" ∧ txt i ≠ "then":=by
 have h1:(Str.cps "-").toList=[45]:=by decide
 have h2:(Str.cps "then").toList=[116,104,101,110]:=by decide
 cases i with
 | ofNat m=>
  obtain ⟨d1,d2,_⟩:=digs_ok m
  refine ⟨fun e=>?_,fun e=>?_⟩
  ·have:digs m=[45]:=by rw [←txt_nat m];exact (congrArg (fun x:Str=>x.cps.toList) e).trans h1
   have:=d1 45 (by rw [this];simp)
   omega
  ·have:digs m=[116,104,101,110]:=by rw [←txt_nat m];exact (congrArg (fun x:Str=>x.cps.toList) e).trans h2
   have:=d1 116 (by rw [this];simp)
   omega
 | negSucc m=>
  obtain ⟨d1,d2,_⟩:=digs_ok (m+1)
  refine ⟨fun e=>?_,fun e=>?_⟩
  ·have:45::digs (m+1)=[45]:=by rw [←txt_neg m];exact (congrArg (fun x:Str=>x.cps.toList) e).trans h1
   exact d2 (by simpa using this)
  ·have:45::digs (m+1)=[116,104,101,110]:=by rw [←txt_neg m];exact (congrArg (fun x:Str=>x.cps.toList) e).trans h2
   cases this
end PH
namespace PH
open PySem L2
def jl (sep:List Nat):List (List Nat)->List Nat
 | []=>[]
 | [a]=>a
 | a::b::r=>a++sep++jl sep (b::r)
def joinW:List (List Str)->List Str
 | []=>[]
 | [g]=>g
 | g::h::r=>g++(Str.ofString "then")::joinW (h::r)
theorem joinW_snoc:∀ (l:List (List Str)) (g:List Str),l ≠ []->joinW (l++[g])=joinW l++[(Str.ofString "then")]++g
 | [],_,h=>absurd rfl h
 | [a],g,_=>by show a++(Str.ofString "then")::g=_;simp [joinW]
 | a::b::r,g,_=>by
  show a++(Str.ofString "then")::joinW ((b::r)++[g])=a++(Str.ofString "then")::joinW (b::r)++[(Str.ofString "then")]++g
  rw [joinW_snoc (b::r) g (by simp)]
  simp
theorem joinW_ne:∀ {l:List (List Str)},l ≠ []->(∀ g∈l,g ≠ [])->joinW l ≠ []
 | [],h,_=>absurd rfl h
 | [a],_,hn=>hn a List.mem_cons_self
 | a::b::r,_,hn=>by show a++(Str.ofString "then")::joinW (b::r) ≠ [];simp
theorem joinW_len:∀ (l:List (List Str)) (n:Nat),(∀ g∈l,g.length≤n)->(joinW l).length≤l.length * (n+1)
 | [],_,_=>by simp [joinW]
 | [a],n,h=>by have:=h a List.mem_cons_self;show a.length≤1 * (n+1);omega
 | a::b::r,n,h=>by
  have h1:=h a List.mem_cons_self
  have h2:=joinW_len (b::r) n fun g hg=>h g (List.mem_cons_of_mem _ hg)
  show (a++(Str.ofString "then")::joinW (b::r)).length≤_
  rw [List.length_append,List.length_cons,List.length_cons,Nat.succ_mul]
  omega
theorem joinW_mem:∀ {l:List (List Str)}{w:Str},w∈joinW l->w=(Str.ofString "then")∨∃ g∈l,w∈g
 | [],w,h=>by cases h
 | [a],w,h=>.inr ⟨a,List.mem_cons_self,h⟩
 | a::b::r,w,h=>by
  have h':w∈a++(Str.ofString "then")::joinW (b::r):=h
  rcases List.mem_append.mp h' with h|h
  ·exact .inr ⟨a,List.mem_cons_self,h⟩
  ·rcases List.mem_cons.mp h with h|h
   ·exact .inl h
   ·rcases joinW_mem h with h|⟨g,hg,hw⟩
    ·exact .inl h
    ·exact .inr ⟨g,List.mem_cons_of_mem _ hg,hw⟩
def splitW:List (List Str)->List Str->List Str->List (List Str)
 | d,c,[]=>d++[c]
 | d,c,w::r=>if w=(Str.ofString "then") then splitW (d++[c]) [] r else splitW d (c++[w]) r
theorem splitW_plain:∀ (g:List Str) (d:List (List Str)) (c r:List Str),(∀ w∈g,w ≠ (Str.ofString "then"))->splitW d c (g++r)=splitW d (c++g) r
 | [],d,c,r,_=>by simp
 | w::g,d,c,r,h=>by
  show splitW d c (w::(g++r))=_
  show (if w=(Str.ofString "then") then splitW (d++[c]) [] (g++r) else splitW d (c++[w]) (g++r))=_
  rw [if_neg (h w List.mem_cons_self),splitW_plain g d (c++[w]) r fun x hx=>h x (List.mem_cons_of_mem _ hx)]
  simp
theorem splitW_join:∀ (gs:List (List Str)) (d:List (List Str)),gs ≠ []->(∀ g∈gs,∀ w∈g,w ≠ (Str.ofString "then"))->splitW d [] (joinW gs)=d++gs
 | [],_,h,_=>absurd rfl h
 | [g],d,_,hn=>by
  have:=splitW_plain g d [] [] (hn g List.mem_cons_self)
  rw [List.append_nil,List.nil_append] at this
  show splitW d [] g=d++[g]
  rw [this]
  rfl
 | g::h::r,d,_,hn=>by
  show splitW d [] (g++(Str.ofString "then")::joinW (h::r))=_
  rw [splitW_plain g d [] _ (hn g List.mem_cons_self),List.nil_append]
  show (if ((Str.ofString "then"):Str)=(Str.ofString "then") then splitW (d++[g]) [] (joinW (h::r)) else _)=_
  rw [if_pos rfl,splitW_join (h::r) (d++[g]) (by simp) fun x hx=>hn x (List.mem_cons_of_mem _ hx)]
  simp
end PH
set_option Elab.async false
set_option linter.all false
set_option maxRecDepth 100000
set_option maxHeartbeats 4000000
namespace PH
open PySem L2
def top (i:Nat):Stmt:=PySem.Challenge.pw_pacehall_k92_no_move_in_words.main.body.getD i (.Pass ⟨0,0,0,0⟩)
abbrev s_NoName___init__:Stmt:=inClass (top 6) 0
abbrev s_is_whole:Stmt:=top 8
theorem c_is_whole:FnScope ["thing"] ["thing"] (defScope s_is_whole):=⟨rfl,rfl,rfl,by decide +kernel,rfl,by decide +kernel,by decide +kernel⟩
abbrev s_Move_told:Stmt:=inClass (top 11) 5
theorem c_Move_told:FnScope ["self"] ["self"] (defScope s_Move_told):=⟨rfl,rfl,rfl,by decide +kernel,rfl,by decide +kernel,by decide +kernel⟩
abbrev s_Slice___init__:Stmt:=inClass (top 12) 0
theorem c_Slice___init__:FnScope ["self", "axis", "start", "stop", "step"] ["self", "axis", "start", "stop", "step"] (defScope s_Slice___init__):=⟨rfl,rfl,rfl,by decide +kernel,rfl,by decide +kernel,by decide +kernel⟩
abbrev s_Slice_told:Stmt:=inClass (top 12) 4
theorem c_Slice_told:FnScope ["self"] ["self"] (defScope s_Slice_told):=⟨rfl,rfl,rfl,by decide +kernel,rfl,by decide +kernel,by decide +kernel⟩
abbrev s_Pick___init__:Stmt:=inClass (top 13) 0
theorem c_Pick___init__:FnScope ["self", "axis", "at"] ["self", "axis", "at"] (defScope s_Pick___init__):=⟨rfl,rfl,rfl,by decide +kernel,rfl,by decide +kernel,by decide +kernel⟩
abbrev s_Pick_told:Stmt:=inClass (top 13) 4
theorem c_Pick_told:FnScope ["self"] ["self"] (defScope s_Pick_told):=⟨rfl,rfl,rfl,by decide +kernel,rfl,by decide +kernel,by decide +kernel⟩
abbrev s_Turn___init__:Stmt:=inClass (top 14) 0
theorem c_Turn___init__:FnScope ["self", "order"] ["self", "order"] (defScope s_Turn___init__):=⟨rfl,rfl,rfl,by decide +kernel,rfl,by decide +kernel,by decide +kernel⟩
abbrev s_Turn_told:Stmt:=inClass (top 14) 3
theorem c_Turn_told:FnScope ["self"] ["self"] (defScope s_Turn_told):=⟨rfl,rfl,rfl,by decide +kernel,rfl,by decide +kernel,by decide +kernel⟩
abbrev s_Fresh___init__:Stmt:=inClass (top 15) 0
theorem c_Fresh___init__:FnScope ["self", "axis"] ["self", "axis"] (defScope s_Fresh___init__):=⟨rfl,rfl,rfl,by decide +kernel,rfl,by decide +kernel,by decide +kernel⟩
abbrev s_Fresh_told:Stmt:=inClass (top 15) 3
theorem c_Fresh_told:FnScope ["self"] ["self"] (defScope s_Fresh_told):=⟨rfl,rfl,rfl,by decide +kernel,rfl,by decide +kernel,by decide +kernel⟩
abbrev s_Spread___init__:Stmt:=inClass (top 16) 0
theorem c_Spread___init__:FnScope ["self", "axis", "size"] ["self", "axis", "size"] (defScope s_Spread___init__):=⟨rfl,rfl,rfl,by decide +kernel,rfl,by decide +kernel,by decide +kernel⟩
abbrev s_Spread_told:Stmt:=inClass (top 16) 3
theorem c_Spread_told:FnScope ["self"] ["self"] (defScope s_Spread_told):=⟨rfl,rfl,rfl,by decide +kernel,rfl,by decide +kernel,by decide +kernel⟩
abbrev s_Cut___init__:Stmt:=inClass (top 18) 0
theorem c_Cut___init__:FnScope ["self", "axis", "inner"] ["self", "axis", "inner"] (defScope s_Cut___init__):=⟨rfl,rfl,rfl,by decide +kernel,rfl,by decide +kernel,by decide +kernel⟩
abbrev s_Cut_told:Stmt:=inClass (top 18) 3
theorem c_Cut_told:FnScope ["self"] ["self"] (defScope s_Cut_told):=⟨rfl,rfl,rfl,by decide +kernel,rfl,by decide +kernel,by decide +kernel⟩
abbrev s_Window___init__:Stmt:=inClass (top 19) 0
theorem c_Window___init__:FnScope ["self", "axis", "size"] ["self", "axis", "size"] (defScope s_Window___init__):=⟨rfl,rfl,rfl,by decide +kernel,rfl,by decide +kernel,by decide +kernel⟩
abbrev s_Window_told:Stmt:=inClass (top 19) 3
theorem c_Window_told:FnScope ["self"] ["self"] (defScope s_Window_told):=⟨rfl,rfl,rfl,by decide +kernel,rfl,by decide +kernel,by decide +kernel⟩
abbrev s_Diagonal___init__:Stmt:=inClass (top 20) 0
theorem c_Diagonal___init__:FnScope ["self", "one", "other"] ["self", "one", "other"] (defScope s_Diagonal___init__):=⟨rfl,rfl,rfl,by decide +kernel,rfl,by decide +kernel,by decide +kernel⟩
abbrev s_Diagonal_told:Stmt:=inClass (top 20) 3
theorem c_Diagonal_told:FnScope ["self"] ["self"] (defScope s_Diagonal_told):=⟨rfl,rfl,rfl,by decide +kernel,rfl,by decide +kernel,by decide +kernel⟩
abbrev s_Chain___init__:Stmt:=inClass (top 24) 0
theorem c_Chain___init__:FnScope ["self", "moves"] ["self", "moves"] (defScope s_Chain___init__):=⟨rfl,rfl,rfl,by decide +kernel,rfl,by decide +kernel,by decide +kernel⟩
abbrev s_Chain_told:Stmt:=inClass (top 24) 3
theorem c_Chain_told:FnScope ["self"] ["self"] (defScope s_Chain_told):=⟨rfl,rfl,rfl,by decide +kernel,rfl,by decide +kernel,by decide +kernel⟩
abbrev s_refuse_told:Stmt:=top 25
theorem c_refuse_told:FnScope ["good"] ["good"] (defScope s_refuse_told):=⟨rfl,rfl,rfl,by decide +kernel,rfl,by decide +kernel,by decide +kernel⟩
abbrev s_numbers_in:Stmt:=top 26
theorem c_numbers_in:FnScope ["told", "many"] ["told", "many"] (defScope s_numbers_in):=⟨rfl,rfl,rfl,by decide +kernel,rfl,by decide +kernel,by decide +kernel⟩
abbrev s_list_in:Stmt:=top 27
theorem c_list_in:FnScope ["told"] ["told"] (defScope s_list_in):=⟨rfl,rfl,rfl,by decide +kernel,rfl,by decide +kernel,by decide +kernel⟩
abbrev s_made_stay:Stmt:=top 28
theorem c_made_stay:FnScope ["told"] ["told"] (defScope s_made_stay):=⟨rfl,rfl,rfl,by decide +kernel,rfl,by decide +kernel,by decide +kernel⟩
abbrev s_made_slice:Stmt:=top 29
theorem c_made_slice:FnScope ["told"] ["told"] (defScope s_made_slice):=⟨rfl,rfl,rfl,by decide +kernel,rfl,by decide +kernel,by decide +kernel⟩
abbrev s_made_pick:Stmt:=top 30
theorem c_made_pick:FnScope ["told", "found"] ["told"] (defScope s_made_pick):=⟨rfl,rfl,rfl,by decide +kernel,rfl,by decide +kernel,by decide +kernel⟩
abbrev s_made_turn:Stmt:=top 31
theorem c_made_turn:FnScope ["told", "order"] ["told"] (defScope s_made_turn):=⟨rfl,rfl,rfl,by decide +kernel,rfl,by decide +kernel,by decide +kernel⟩
abbrev s_made_fresh:Stmt:=top 32
theorem c_made_fresh:FnScope ["told"] ["told"] (defScope s_made_fresh):=⟨rfl,rfl,rfl,by decide +kernel,rfl,by decide +kernel,by decide +kernel⟩
abbrev s_made_spread:Stmt:=top 33
theorem c_made_spread:FnScope ["told", "found"] ["told"] (defScope s_made_spread):=⟨rfl,rfl,rfl,by decide +kernel,rfl,by decide +kernel,by decide +kernel⟩
abbrev s_made_cut:Stmt:=top 34
theorem c_made_cut:FnScope ["told", "found"] ["told"] (defScope s_made_cut):=⟨rfl,rfl,rfl,by decide +kernel,rfl,by decide +kernel,by decide +kernel⟩
abbrev s_made_window:Stmt:=top 35
theorem c_made_window:FnScope ["told", "found"] ["told"] (defScope s_made_window):=⟨rfl,rfl,rfl,by decide +kernel,rfl,by decide +kernel,by decide +kernel⟩
abbrev s_made_diagonal:Stmt:=top 36
theorem c_made_diagonal:FnScope ["told", "found"] ["told"] (defScope s_made_diagonal):=⟨rfl,rfl,rfl,by decide +kernel,rfl,by decide +kernel,by decide +kernel⟩
abbrev s_others_in:Stmt:=top 38
theorem c_others_in:FnScope ["move"] ["move"] (defScope s_others_in):=⟨rfl,rfl,rfl,by decide +kernel,rfl,by decide +kernel,by decide +kernel⟩
abbrev s_made_chain:Stmt:=top 39
theorem c_made_chain:FnScope ["told", "deep", "parts", "moves", "others", "part", "move"] ["told", "deep"] (defScope s_made_chain):=⟨rfl,rfl,rfl,by decide +kernel,rfl,by decide +kernel,by decide +kernel⟩
abbrev s_made_move:Stmt:=top 40
theorem c_made_move:FnScope ["told", "deep"] ["told", "deep"] (defScope s_made_move):=⟨rfl,rfl,rfl,by decide +kernel,rfl,by decide +kernel,by decide +kernel⟩
abbrev s_move_of:Stmt:=top 41
theorem c_move_of:FnScope ["told"] ["told"] (defScope s_move_of):=⟨rfl,rfl,rfl,by decide +kernel,rfl,by decide +kernel,by decide +kernel⟩
abbrev s_refuse_row:Stmt:=top 46
theorem c_refuse_row:FnScope ["good"] ["good"] (defScope s_refuse_row):=⟨rfl,rfl,rfl,by decide +kernel,rfl,by decide +kernel,by decide +kernel⟩
abbrev s_is_number:Stmt:=top 47
theorem c_is_number:FnScope ["word", "figures"] ["word"] (defScope s_is_number):=⟨rfl,rfl,rfl,by decide +kernel,rfl,by decide +kernel,by decide +kernel⟩
abbrev s_number_in:Stmt:=top 48
theorem c_number_in:FnScope ["word"] ["word"] (defScope s_number_in):=⟨rfl,rfl,rfl,by decide +kernel,rfl,by decide +kernel,by decide +kernel⟩
abbrev s_bound_in:Stmt:=top 49
theorem c_bound_in:FnScope ["word"] ["word"] (defScope s_bound_in):=⟨rfl,rfl,rfl,by decide +kernel,rfl,by decide +kernel,by decide +kernel⟩
abbrev s_read_one:Stmt:=top 50
theorem c_read_one:FnScope ["words"] ["words"] (defScope s_read_one):=⟨rfl,rfl,rfl,by decide +kernel,rfl,by decide +kernel,by decide +kernel⟩
abbrev s_split_by_then:Stmt:=top 51
theorem c_split_by_then:FnScope ["words", "groups", "word"] ["words"] (defScope s_split_by_then):=⟨rfl,rfl,rfl,by decide +kernel,rfl,by decide +kernel,by decide +kernel⟩
abbrev s_read_move:Stmt:=top 52
theorem c_read_move:FnScope ["words", "groups", "moves"] ["words"] (defScope s_read_move):=⟨rfl,rfl,rfl,by decide +kernel,rfl,by decide +kernel,by decide +kernel⟩
abbrev s__law_draw:Stmt:=top 54
theorem c__law_draw:FnScope ["_law_script", "_law_k", "_law_many", "_law_number_here", "_law_cell"] ["_law_script", "_law_k", "_law_many"] (defScope s__law_draw):=⟨rfl,rfl,rfl,by decide +kernel,rfl,by decide +kernel,by decide +kernel⟩
abbrev s__law_part:Stmt:=top 55
theorem c__law_part:FnScope ["_law_cell", "_law_j", "_law_by", "_law_number_here", "_law_far", "_law_near"] ["_law_cell", "_law_j"] (defScope s__law_part):=⟨rfl,rfl,rfl,by decide +kernel,rfl,by decide +kernel,by decide +kernel⟩
abbrev s__law_told:Stmt:=top 56
theorem c__law_told:FnScope ["_law_script", "_law_k", "_law_cell", "_law_word", "_law_numbers", "_law_j", "_law_many"] ["_law_script", "_law_k"] (defScope s__law_told):=⟨rfl,rfl,rfl,by decide +kernel,rfl,by decide +kernel,by decide +kernel⟩
abbrev s__law_words:Stmt:=top 57
theorem c__law_words:FnScope ["_law_told_here", "_law_numbers", "_law_words_here", "_law_number_here"] ["_law_told_here"] (defScope s__law_words):=⟨rfl,rfl,rfl,by decide +kernel,rfl,by decide +kernel,by decide +kernel⟩
abbrev s__law_number:Stmt:=top 58
theorem c__law_number:FnScope ["_law_cell", "_law_some"] ["_law_cell"] (defScope s__law_number):=⟨rfl,rfl,rfl,by decide +kernel,rfl,by decide +kernel,by decide +kernel⟩
abbrev s__law_first:Stmt:=top 59
theorem c__law_first:FnScope ["_law_cell"] ["_law_cell"] (defScope s__law_first):=⟨rfl,rfl,rfl,by decide +kernel,rfl,by decide +kernel,by decide +kernel⟩
abbrev s__law_spoilt:Stmt:=top 60
theorem c__law_spoilt:FnScope ["_law_words_here", "_law_cell", "_law_way", "_law_at", "_law_place"] ["_law_words_here", "_law_cell"] (defScope s__law_spoilt):=⟨rfl,rfl,rfl,by decide +kernel,rfl,by decide +kernel,by decide +kernel⟩
abbrev s__law_joined:Stmt:=top 61
theorem c__law_joined:FnScope ["_law_parts", "_law_words_here", "_law_part_here"] ["_law_parts"] (defScope s__law_joined):=⟨rfl,rfl,rfl,by decide +kernel,rfl,by decide +kernel,by decide +kernel⟩
abbrev s__law_bad:Stmt:=top 62
theorem c__law_bad:FnScope ["_law_script", "_law_parts", "_law_cell", "_law_at", "_law_way", "_law_words_here"] ["_law_script", "_law_parts"] (defScope s__law_bad):=⟨rfl,rfl,rfl,by decide +kernel,rfl,by decide +kernel,by decide +kernel⟩
abbrev s__law_refused:Stmt:=top 63
theorem c__law_refused:FnScope ["_law_words_here", "_law_word", "e"] ["_law_words_here"] (defScope s__law_refused):=⟨rfl,rfl,rfl,by decide +kernel,rfl,by decide +kernel,by decide +kernel⟩
abbrev s_law:Stmt:=top 64
theorem c_law:FnScope ["_law_script", "_law_parts", "_law_words_here", "_law_told_here"] ["_law_script"] (defScope s_law):=⟨rfl,rfl,rfl,by decide +kernel,rfl,by decide +kernel,by decide +kernel⟩
set_option genInjectivity false in
structure Adr where
 a_PaceError:Addr
 a_NoStep:Addr
 a_NoMove:Addr
 a_NoRow:Addr
 a_NoName:Addr
 a_Move:Addr
 a_Slice:Addr
 a_Pick:Addr
 a_Turn:Addr
 a_Fresh:Addr
 a_Spread:Addr
 a_Cut:Addr
 a_Window:Addr
 a_Diagonal:Addr
 a_Chain:Addr
 a_NoName___init__:Addr
 d_NoName___init__:FuncData
 a_is_whole:Addr
 d_is_whole:FuncData
 a_Move_told:Addr
 d_Move_told:FuncData
 a_Slice___init__:Addr
 d_Slice___init__:FuncData
 a_Slice_told:Addr
 d_Slice_told:FuncData
 a_Pick___init__:Addr
 d_Pick___init__:FuncData
 a_Pick_told:Addr
 d_Pick_told:FuncData
 a_Turn___init__:Addr
 d_Turn___init__:FuncData
 a_Turn_told:Addr
 d_Turn_told:FuncData
 a_Fresh___init__:Addr
 d_Fresh___init__:FuncData
 a_Fresh_told:Addr
 d_Fresh_told:FuncData
 a_Spread___init__:Addr
 d_Spread___init__:FuncData
 a_Spread_told:Addr
 d_Spread_told:FuncData
 a_Cut___init__:Addr
 d_Cut___init__:FuncData
 a_Cut_told:Addr
 d_Cut_told:FuncData
 a_Window___init__:Addr
 d_Window___init__:FuncData
 a_Window_told:Addr
 d_Window_told:FuncData
 a_Diagonal___init__:Addr
 d_Diagonal___init__:FuncData
 a_Diagonal_told:Addr
 d_Diagonal_told:FuncData
 a_Chain___init__:Addr
 d_Chain___init__:FuncData
 a_Chain_told:Addr
 d_Chain_told:FuncData
 a_refuse_told:Addr
 d_refuse_told:FuncData
 a_numbers_in:Addr
 d_numbers_in:FuncData
 a_list_in:Addr
 d_list_in:FuncData
 a_made_stay:Addr
 d_made_stay:FuncData
 a_made_slice:Addr
 d_made_slice:FuncData
 a_made_pick:Addr
 d_made_pick:FuncData
 a_made_turn:Addr
 d_made_turn:FuncData
 a_made_fresh:Addr
 d_made_fresh:FuncData
 a_made_spread:Addr
 d_made_spread:FuncData
 a_made_cut:Addr
 d_made_cut:FuncData
 a_made_window:Addr
 d_made_window:FuncData
 a_made_diagonal:Addr
 d_made_diagonal:FuncData
 a_others_in:Addr
 d_others_in:FuncData
 a_made_chain:Addr
 d_made_chain:FuncData
 a_made_move:Addr
 d_made_move:FuncData
 a_move_of:Addr
 d_move_of:FuncData
 a_refuse_row:Addr
 d_refuse_row:FuncData
 a_is_number:Addr
 d_is_number:FuncData
 a_number_in:Addr
 d_number_in:FuncData
 a_bound_in:Addr
 d_bound_in:FuncData
 a_read_one:Addr
 d_read_one:FuncData
 a_split_by_then:Addr
 d_split_by_then:FuncData
 a_read_move:Addr
 d_read_move:FuncData
 a__law_draw:Addr
 d__law_draw:FuncData
 a__law_part:Addr
 d__law_part:FuncData
 a__law_told:Addr
 d__law_told:FuncData
 a__law_words:Addr
 d__law_words:FuncData
 a__law_number:Addr
 d__law_number:FuncData
 a__law_first:Addr
 d__law_first:FuncData
 a__law_spoilt:Addr
 d__law_spoilt:FuncData
 a__law_joined:Addr
 d__law_joined:FuncData
 a__law_bad:Addr
 d__law_bad:FuncData
 a__law_refused:Addr
 d__law_refused:FuncData
 a_law:Addr
 d_law:FuncData
 a_MAKERS:Addr
 a_MOVES:Addr
 w:World
structure Tx (K:PySem.W.Frag) (mg:Str->Option Value) (t:Adr):Prop where
 m_PaceError:mg "PaceError"=some (.ref t.a_PaceError)
 m_NoStep:mg "NoStep"=some (.ref t.a_NoStep)
 m_NoMove:mg "NoMove"=some (.ref t.a_NoMove)
 m_NoRow:mg "NoRow"=some (.ref t.a_NoRow)
 m_NoName:mg "NoName"=some (.ref t.a_NoName)
 m_Move:mg "Move"=some (.ref t.a_Move)
 m_Slice:mg "Slice"=some (.ref t.a_Slice)
 m_Pick:mg "Pick"=some (.ref t.a_Pick)
 m_Turn:mg "Turn"=some (.ref t.a_Turn)
 m_Fresh:mg "Fresh"=some (.ref t.a_Fresh)
 m_Spread:mg "Spread"=some (.ref t.a_Spread)
 m_Cut:mg "Cut"=some (.ref t.a_Cut)
 m_Window:mg "Window"=some (.ref t.a_Window)
 m_Diagonal:mg "Diagonal"=some (.ref t.a_Diagonal)
 m_Chain:mg "Chain"=some (.ref t.a_Chain)
 ocs:PySem.W.specialIn K (.builtin "object.__class__") "__get__"=some (some (.builtin "getset_descriptor.__get__"))
 oct:PySem.W.takesIn K (.builtin "object.__class__")=some true
 fc_Move:PySem.W.findIn K (.ref t.a_Move) "__class__"=some (some (.builtin "object.__class__"))
 mo_Move:PySem.W.mroIn K t.a_Move (.type "object")=some true
 fc_Slice:PySem.W.findIn K (.ref t.a_Slice) "__class__"=some (some (.builtin "object.__class__"))
 mo_Slice:PySem.W.mroIn K t.a_Slice (.type "object")=some true
 fc_Pick:PySem.W.findIn K (.ref t.a_Pick) "__class__"=some (some (.builtin "object.__class__"))
 mo_Pick:PySem.W.mroIn K t.a_Pick (.type "object")=some true
 fc_Turn:PySem.W.findIn K (.ref t.a_Turn) "__class__"=some (some (.builtin "object.__class__"))
 mo_Turn:PySem.W.mroIn K t.a_Turn (.type "object")=some true
 fc_Fresh:PySem.W.findIn K (.ref t.a_Fresh) "__class__"=some (some (.builtin "object.__class__"))
 mo_Fresh:PySem.W.mroIn K t.a_Fresh (.type "object")=some true
 fc_Spread:PySem.W.findIn K (.ref t.a_Spread) "__class__"=some (some (.builtin "object.__class__"))
 mo_Spread:PySem.W.mroIn K t.a_Spread (.type "object")=some true
 fc_Cut:PySem.W.findIn K (.ref t.a_Cut) "__class__"=some (some (.builtin "object.__class__"))
 mo_Cut:PySem.W.mroIn K t.a_Cut (.type "object")=some true
 fc_Window:PySem.W.findIn K (.ref t.a_Window) "__class__"=some (some (.builtin "object.__class__"))
 mo_Window:PySem.W.mroIn K t.a_Window (.type "object")=some true
 fc_Diagonal:PySem.W.findIn K (.ref t.a_Diagonal) "__class__"=some (some (.builtin "object.__class__"))
 mo_Diagonal:PySem.W.mroIn K t.a_Diagonal (.type "object")=some true
 kc_Move_Chain:PySem.W.hasDictIn K t.a_Chain=true
 kt_Move_Chain:PySem.W.typeIn K (.ref t.a_Chain)=some (.type "type")
 ks_Move_Chain:PySem.W.subIn K (.ref t.a_Move) (.ref t.a_Chain)=some false
 kn_Move_Chain:(t.a_Move == t.a_Chain)=false
 kc_Slice_Chain:PySem.W.hasDictIn K t.a_Chain=true
 kt_Slice_Chain:PySem.W.typeIn K (.ref t.a_Chain)=some (.type "type")
 ks_Slice_Chain:PySem.W.subIn K (.ref t.a_Slice) (.ref t.a_Chain)=some false
 kn_Slice_Chain:(t.a_Slice == t.a_Chain)=false
 kc_Pick_Chain:PySem.W.hasDictIn K t.a_Chain=true
 kt_Pick_Chain:PySem.W.typeIn K (.ref t.a_Chain)=some (.type "type")
 ks_Pick_Chain:PySem.W.subIn K (.ref t.a_Pick) (.ref t.a_Chain)=some false
 kn_Pick_Chain:(t.a_Pick == t.a_Chain)=false
 kc_Turn_Chain:PySem.W.hasDictIn K t.a_Chain=true
 kt_Turn_Chain:PySem.W.typeIn K (.ref t.a_Chain)=some (.type "type")
 ks_Turn_Chain:PySem.W.subIn K (.ref t.a_Turn) (.ref t.a_Chain)=some false
 kn_Turn_Chain:(t.a_Turn == t.a_Chain)=false
 kc_Fresh_Chain:PySem.W.hasDictIn K t.a_Chain=true
 kt_Fresh_Chain:PySem.W.typeIn K (.ref t.a_Chain)=some (.type "type")
 ks_Fresh_Chain:PySem.W.subIn K (.ref t.a_Fresh) (.ref t.a_Chain)=some false
 kn_Fresh_Chain:(t.a_Fresh == t.a_Chain)=false
 kc_Spread_Chain:PySem.W.hasDictIn K t.a_Chain=true
 kt_Spread_Chain:PySem.W.typeIn K (.ref t.a_Chain)=some (.type "type")
 ks_Spread_Chain:PySem.W.subIn K (.ref t.a_Spread) (.ref t.a_Chain)=some false
 kn_Spread_Chain:(t.a_Spread == t.a_Chain)=false
 kc_Cut_Chain:PySem.W.hasDictIn K t.a_Chain=true
 kt_Cut_Chain:PySem.W.typeIn K (.ref t.a_Chain)=some (.type "type")
 ks_Cut_Chain:PySem.W.subIn K (.ref t.a_Cut) (.ref t.a_Chain)=some false
 kn_Cut_Chain:(t.a_Cut == t.a_Chain)=false
 kc_Window_Chain:PySem.W.hasDictIn K t.a_Chain=true
 kt_Window_Chain:PySem.W.typeIn K (.ref t.a_Chain)=some (.type "type")
 ks_Window_Chain:PySem.W.subIn K (.ref t.a_Window) (.ref t.a_Chain)=some false
 kn_Window_Chain:(t.a_Window == t.a_Chain)=false
 kc_Diagonal_Chain:PySem.W.hasDictIn K t.a_Chain=true
 kt_Diagonal_Chain:PySem.W.typeIn K (.ref t.a_Chain)=some (.type "type")
 ks_Diagonal_Chain:PySem.W.subIn K (.ref t.a_Diagonal) (.ref t.a_Chain)=some false
 kn_Diagonal_Chain:(t.a_Diagonal == t.a_Chain)=false
 o_NoRow:PySem.W.excIn K t.a_NoRow [.type "ValueError",.type "Exception",.type "BaseException",.type "object"] "ValueError.__new__"=true
 x_NoRow_NoRow:PySem.W.exmOne K (.ref t.a_NoRow) (.ref t.a_NoRow)=some true
 ga_NoRow:PySem.W.findIn K (.ref t.a_NoRow) "__getattribute__"=some (some (.builtin "BaseException.__getattribute__"))
 gn_NoRow:PySem.W.findIn K (.ref t.a_NoRow) "__getattr__"=some none
 mb_NoRow:PySem.W.mroIn K t.a_NoRow (.type "BaseException")=some true
 mo_NoRow:PySem.W.mroIn K t.a_NoRow (.type "object")=some true
 fc_NoRow:PySem.W.findIn K (.ref t.a_NoRow) "__class__"=some (some (.builtin "object.__class__"))
 hd_NoRow:PySem.W.hasDictIn K t.a_NoRow=true
 kc_NoRow_NoMove:PySem.W.hasDictIn K t.a_NoMove=true
 kt_NoRow_NoMove:PySem.W.typeIn K (.ref t.a_NoMove)=some (.type "type")
 ks_NoRow_NoMove:PySem.W.subIn K (.ref t.a_NoRow) (.ref t.a_NoMove)=some false
 kn_NoRow_NoMove:(t.a_NoRow == t.a_NoMove)=false
 kc_NoRow_NoName:PySem.W.hasDictIn K t.a_NoName=true
 kt_NoRow_NoName:PySem.W.typeIn K (.ref t.a_NoName)=some (.type "type")
 ks_NoRow_NoName:PySem.W.subIn K (.ref t.a_NoRow) (.ref t.a_NoName)=some false
 kn_NoRow_NoName:(t.a_NoRow == t.a_NoName)=false
 kc_NoRow_NoStep:PySem.W.hasDictIn K t.a_NoStep=true
 kt_NoRow_NoStep:PySem.W.typeIn K (.ref t.a_NoStep)=some (.type "type")
 ks_NoRow_NoStep:PySem.W.subIn K (.ref t.a_NoRow) (.ref t.a_NoStep)=some false
 kn_NoRow_NoStep:(t.a_NoRow == t.a_NoStep)=false
 kc_NoRow_PaceError:PySem.W.hasDictIn K t.a_PaceError=true
 kt_NoRow_PaceError:PySem.W.typeIn K (.ref t.a_PaceError)=some (.type "type")
 ks_NoRow_PaceError:PySem.W.subIn K (.ref t.a_NoRow) (.ref t.a_PaceError)=some true
 ks_NoRow_ValueError:PySem.W.subIn K (.ref t.a_NoRow) (.type "ValueError")=some true
 m_MOST_AXES:∃ tk,mg "MOST_AXES"=some (.int 8 tk)
 m_MOST_MOVES:∃ tk,mg "MOST_MOVES"=some (.int 40 tk)
 m_MOST_DEEP:∃ tk,mg "MOST_DEEP"=some (.int 4 tk)
 m_FIGURES:∃ tk,mg "FIGURES"=some (.str "0123456789" tk)
 m_MOST_FIGURES:∃ tk,mg "MOST_FIGURES"=some (.int 20 tk)
 m_MAKERS:mg "MAKERS"=some (.ref t.a_MAKERS)
 d_MAKERS:DicK t.w K t.a_MAKERS [("stay",.ref t.a_made_stay),("slice",.ref t.a_made_slice),("pick",.ref t.a_made_pick),("turn",.ref t.a_made_turn),("fresh",.ref t.a_made_fresh),("spread",.ref t.a_made_spread),("cut",.ref t.a_made_cut),("window",.ref t.a_made_window),("diagonal",.ref t.a_made_diagonal)]
 m_MOVES:mg "MOVES"=some (.ref t.a_MOVES)
 d_MOVES:DicK t.w K t.a_MOVES [("stay",.int 0),("slice",.int 4),("pick",.int 2),("fresh",.int 1),("spread",.int 2),("cut",.int 2),("window",.int 2),("diagonal",.int 2)]
 oi_NoName:OwnI K t.a_NoName t.a_NoName___init__
 tk_NoName_name:PySem.W.takerIn K t.a_NoName "name"=some none
 na_NoName_name:NoAttr K t.a_NoName "name"
 bi_PaceError:BaseI K t.a_PaceError
 cl_Move:Cls K t.a_Move
 mk0_Move:Mk0 K t.a_Move
 mt_Move_told:Meth K t.a_Move "told" t.a_Move_told
 cl_Slice:Cls K t.a_Slice
 na_Slice_axis:NoAttr K t.a_Slice "axis"
 na_Slice_start:NoAttr K t.a_Slice "start"
 na_Slice_step:NoAttr K t.a_Slice "step"
 na_Slice_stop:NoAttr K t.a_Slice "stop"
 mt_Slice_told:Meth K t.a_Slice "told" t.a_Slice_told
 mk_Slice:Mk K t.a_Slice t.a_Slice___init__
 cl_Pick:Cls K t.a_Pick
 na_Pick_at:NoAttr K t.a_Pick "at"
 na_Pick_axis:NoAttr K t.a_Pick "axis"
 mt_Pick_told:Meth K t.a_Pick "told" t.a_Pick_told
 mk_Pick:Mk K t.a_Pick t.a_Pick___init__
 cl_Turn:Cls K t.a_Turn
 na_Turn_order:NoAttr K t.a_Turn "order"
 mt_Turn_told:Meth K t.a_Turn "told" t.a_Turn_told
 mk_Turn:Mk K t.a_Turn t.a_Turn___init__
 cl_Fresh:Cls K t.a_Fresh
 na_Fresh_axis:NoAttr K t.a_Fresh "axis"
 mt_Fresh_told:Meth K t.a_Fresh "told" t.a_Fresh_told
 mk_Fresh:Mk K t.a_Fresh t.a_Fresh___init__
 cl_Spread:Cls K t.a_Spread
 na_Spread_axis:NoAttr K t.a_Spread "axis"
 na_Spread_size:NoAttr K t.a_Spread "size"
 mt_Spread_told:Meth K t.a_Spread "told" t.a_Spread_told
 mk_Spread:Mk K t.a_Spread t.a_Spread___init__
 cl_Cut:Cls K t.a_Cut
 na_Cut_axis:NoAttr K t.a_Cut "axis"
 na_Cut_inner:NoAttr K t.a_Cut "inner"
 mt_Cut_told:Meth K t.a_Cut "told" t.a_Cut_told
 mk_Cut:Mk K t.a_Cut t.a_Cut___init__
 cl_Window:Cls K t.a_Window
 na_Window_axis:NoAttr K t.a_Window "axis"
 na_Window_size:NoAttr K t.a_Window "size"
 mt_Window_told:Meth K t.a_Window "told" t.a_Window_told
 mk_Window:Mk K t.a_Window t.a_Window___init__
 cl_Diagonal:Cls K t.a_Diagonal
 na_Diagonal_one:NoAttr K t.a_Diagonal "one"
 na_Diagonal_other:NoAttr K t.a_Diagonal "other"
 mt_Diagonal_told:Meth K t.a_Diagonal "told" t.a_Diagonal_told
 mk_Diagonal:Mk K t.a_Diagonal t.a_Diagonal___init__
 cl_Chain:Cls K t.a_Chain
 na_Chain_moves:NoAttr K t.a_Chain "moves"
 mt_Chain_told:Meth K t.a_Chain "told" t.a_Chain_told
 mk_Chain:Mk K t.a_Chain t.a_Chain___init__
 F_NoName___init__:Fun K "__init__" "NoName.__init__" s_NoName___init__ t.a_NoName___init__ t.d_NoName___init__
 b_NoName___init__:Binds K t.d_NoName___init__ ["self", "name"] []
 F_is_whole:Fun K "is_whole" "is_whole" s_is_whole t.a_is_whole t.d_is_whole
 m_is_whole:mg "is_whole"=some (.ref t.a_is_whole)
 b_is_whole:Binds K t.d_is_whole ["thing"] []
 F_Move_told:Fun K "told" "Move.told" s_Move_told t.a_Move_told t.d_Move_told
 b_Move_told:Binds K t.d_Move_told ["self"] []
 F_Slice___init__:FunX K "__init__" "Slice.__init__" s_Slice___init__ t.a_Slice___init__ t.d_Slice___init__
 b_Slice___init__:Binds K t.d_Slice___init__ ["self", "axis", "start", "stop", "step"] []
 b_Slice___init___2:Binds K t.d_Slice___init__ ["self", "axis", "start", "stop", "step"] [Value.none,Value.none,Value.none]
 b_Slice___init___3:Binds K t.d_Slice___init__ ["self", "axis", "start", "stop", "step"] [Value.none,Value.none]
 b_Slice___init___4:Binds K t.d_Slice___init__ ["self", "axis", "start", "stop", "step"] [Value.none]
 F_Slice_told:Fun K "told" "Slice.told" s_Slice_told t.a_Slice_told t.d_Slice_told
 b_Slice_told:Binds K t.d_Slice_told ["self"] []
 F_Pick___init__:Fun K "__init__" "Pick.__init__" s_Pick___init__ t.a_Pick___init__ t.d_Pick___init__
 b_Pick___init__:Binds K t.d_Pick___init__ ["self", "axis", "at"] []
 F_Pick_told:Fun K "told" "Pick.told" s_Pick_told t.a_Pick_told t.d_Pick_told
 b_Pick_told:Binds K t.d_Pick_told ["self"] []
 F_Turn___init__:Fun K "__init__" "Turn.__init__" s_Turn___init__ t.a_Turn___init__ t.d_Turn___init__
 b_Turn___init__:Binds K t.d_Turn___init__ ["self", "order"] []
 F_Turn_told:Fun K "told" "Turn.told" s_Turn_told t.a_Turn_told t.d_Turn_told
 b_Turn_told:Binds K t.d_Turn_told ["self"] []
 F_Fresh___init__:Fun K "__init__" "Fresh.__init__" s_Fresh___init__ t.a_Fresh___init__ t.d_Fresh___init__
 b_Fresh___init__:Binds K t.d_Fresh___init__ ["self", "axis"] []
 F_Fresh_told:Fun K "told" "Fresh.told" s_Fresh_told t.a_Fresh_told t.d_Fresh_told
 b_Fresh_told:Binds K t.d_Fresh_told ["self"] []
 F_Spread___init__:Fun K "__init__" "Spread.__init__" s_Spread___init__ t.a_Spread___init__ t.d_Spread___init__
 b_Spread___init__:Binds K t.d_Spread___init__ ["self", "axis", "size"] []
 F_Spread_told:Fun K "told" "Spread.told" s_Spread_told t.a_Spread_told t.d_Spread_told
 b_Spread_told:Binds K t.d_Spread_told ["self"] []
 F_Cut___init__:Fun K "__init__" "Cut.__init__" s_Cut___init__ t.a_Cut___init__ t.d_Cut___init__
 b_Cut___init__:Binds K t.d_Cut___init__ ["self", "axis", "inner"] []
 F_Cut_told:Fun K "told" "Cut.told" s_Cut_told t.a_Cut_told t.d_Cut_told
 b_Cut_told:Binds K t.d_Cut_told ["self"] []
 F_Window___init__:Fun K "__init__" "Window.__init__" s_Window___init__ t.a_Window___init__ t.d_Window___init__
 b_Window___init__:Binds K t.d_Window___init__ ["self", "axis", "size"] []
 F_Window_told:Fun K "told" "Window.told" s_Window_told t.a_Window_told t.d_Window_told
 b_Window_told:Binds K t.d_Window_told ["self"] []
 F_Diagonal___init__:Fun K "__init__" "Diagonal.__init__" s_Diagonal___init__ t.a_Diagonal___init__ t.d_Diagonal___init__
 b_Diagonal___init__:Binds K t.d_Diagonal___init__ ["self", "one", "other"] []
 F_Diagonal_told:Fun K "told" "Diagonal.told" s_Diagonal_told t.a_Diagonal_told t.d_Diagonal_told
 b_Diagonal_told:Binds K t.d_Diagonal_told ["self"] []
 F_Chain___init__:Fun K "__init__" "Chain.__init__" s_Chain___init__ t.a_Chain___init__ t.d_Chain___init__
 b_Chain___init__:Binds K t.d_Chain___init__ ["self", "moves"] []
 F_Chain_told:Fun K "told" "Chain.told" s_Chain_told t.a_Chain_told t.d_Chain_told
 b_Chain_told:Binds K t.d_Chain_told ["self"] []
 F_refuse_told:Fun K "refuse_told" "refuse_told" s_refuse_told t.a_refuse_told t.d_refuse_told
 m_refuse_told:mg "refuse_told"=some (.ref t.a_refuse_told)
 b_refuse_told:Binds K t.d_refuse_told ["good"] []
 F_numbers_in:Fun K "numbers_in" "numbers_in" s_numbers_in t.a_numbers_in t.d_numbers_in
 m_numbers_in:mg "numbers_in"=some (.ref t.a_numbers_in)
 b_numbers_in:Binds K t.d_numbers_in ["told", "many"] []
 F_list_in:Fun K "list_in" "list_in" s_list_in t.a_list_in t.d_list_in
 m_list_in:mg "list_in"=some (.ref t.a_list_in)
 b_list_in:Binds K t.d_list_in ["told"] []
 F_made_stay:Fun K "made_stay" "made_stay" s_made_stay t.a_made_stay t.d_made_stay
 m_made_stay:mg "made_stay"=some (.ref t.a_made_stay)
 b_made_stay:Binds K t.d_made_stay ["told"] []
 F_made_slice:Fun K "made_slice" "made_slice" s_made_slice t.a_made_slice t.d_made_slice
 m_made_slice:mg "made_slice"=some (.ref t.a_made_slice)
 b_made_slice:Binds K t.d_made_slice ["told"] []
 F_made_pick:Fun K "made_pick" "made_pick" s_made_pick t.a_made_pick t.d_made_pick
 m_made_pick:mg "made_pick"=some (.ref t.a_made_pick)
 b_made_pick:Binds K t.d_made_pick ["told"] []
 F_made_turn:Fun K "made_turn" "made_turn" s_made_turn t.a_made_turn t.d_made_turn
 m_made_turn:mg "made_turn"=some (.ref t.a_made_turn)
 b_made_turn:Binds K t.d_made_turn ["told"] []
 F_made_fresh:Fun K "made_fresh" "made_fresh" s_made_fresh t.a_made_fresh t.d_made_fresh
 m_made_fresh:mg "made_fresh"=some (.ref t.a_made_fresh)
 b_made_fresh:Binds K t.d_made_fresh ["told"] []
 F_made_spread:Fun K "made_spread" "made_spread" s_made_spread t.a_made_spread t.d_made_spread
 m_made_spread:mg "made_spread"=some (.ref t.a_made_spread)
 b_made_spread:Binds K t.d_made_spread ["told"] []
 F_made_cut:Fun K "made_cut" "made_cut" s_made_cut t.a_made_cut t.d_made_cut
 m_made_cut:mg "made_cut"=some (.ref t.a_made_cut)
 b_made_cut:Binds K t.d_made_cut ["told"] []
 F_made_window:Fun K "made_window" "made_window" s_made_window t.a_made_window t.d_made_window
 m_made_window:mg "made_window"=some (.ref t.a_made_window)
 b_made_window:Binds K t.d_made_window ["told"] []
 F_made_diagonal:Fun K "made_diagonal" "made_diagonal" s_made_diagonal t.a_made_diagonal t.d_made_diagonal
 m_made_diagonal:mg "made_diagonal"=some (.ref t.a_made_diagonal)
 b_made_diagonal:Binds K t.d_made_diagonal ["told"] []
 F_others_in:Fun K "others_in" "others_in" s_others_in t.a_others_in t.d_others_in
 m_others_in:mg "others_in"=some (.ref t.a_others_in)
 b_others_in:Binds K t.d_others_in ["move"] []
 F_made_chain:Fun K "made_chain" "made_chain" s_made_chain t.a_made_chain t.d_made_chain
 m_made_chain:mg "made_chain"=some (.ref t.a_made_chain)
 b_made_chain:Binds K t.d_made_chain ["told", "deep"] []
 F_made_move:Fun K "made_move" "made_move" s_made_move t.a_made_move t.d_made_move
 m_made_move:mg "made_move"=some (.ref t.a_made_move)
 b_made_move:Binds K t.d_made_move ["told", "deep"] []
 F_move_of:Fun K "move_of" "move_of" s_move_of t.a_move_of t.d_move_of
 m_move_of:mg "move_of"=some (.ref t.a_move_of)
 b_move_of:Binds K t.d_move_of ["told"] []
 F_refuse_row:Fun K "refuse_row" "refuse_row" s_refuse_row t.a_refuse_row t.d_refuse_row
 m_refuse_row:mg "refuse_row"=some (.ref t.a_refuse_row)
 b_refuse_row:Binds K t.d_refuse_row ["good"] []
 F_is_number:Fun K "is_number" "is_number" s_is_number t.a_is_number t.d_is_number
 m_is_number:mg "is_number"=some (.ref t.a_is_number)
 b_is_number:Binds K t.d_is_number ["word"] []
 F_number_in:Fun K "number_in" "number_in" s_number_in t.a_number_in t.d_number_in
 m_number_in:mg "number_in"=some (.ref t.a_number_in)
 b_number_in:Binds K t.d_number_in ["word"] []
 F_bound_in:Fun K "bound_in" "bound_in" s_bound_in t.a_bound_in t.d_bound_in
 m_bound_in:mg "bound_in"=some (.ref t.a_bound_in)
 b_bound_in:Binds K t.d_bound_in ["word"] []
 F_read_one:Fun K "read_one" "read_one" s_read_one t.a_read_one t.d_read_one
 m_read_one:mg "read_one"=some (.ref t.a_read_one)
 b_read_one:Binds K t.d_read_one ["words"] []
 F_split_by_then:Fun K "split_by_then" "split_by_then" s_split_by_then t.a_split_by_then t.d_split_by_then
 m_split_by_then:mg "split_by_then"=some (.ref t.a_split_by_then)
 b_split_by_then:Binds K t.d_split_by_then ["words"] []
 F_read_move:Fun K "read_move" "read_move" s_read_move t.a_read_move t.d_read_move
 m_read_move:mg "read_move"=some (.ref t.a_read_move)
 b_read_move:Binds K t.d_read_move ["words"] []
 F__law_draw:Fun K "_law_draw" "_law_draw" s__law_draw t.a__law_draw t.d__law_draw
 m__law_draw:mg "_law_draw"=some (.ref t.a__law_draw)
 b__law_draw:Binds K t.d__law_draw ["_law_script", "_law_k", "_law_many"] []
 F__law_part:Fun K "_law_part" "_law_part" s__law_part t.a__law_part t.d__law_part
 m__law_part:mg "_law_part"=some (.ref t.a__law_part)
 b__law_part:Binds K t.d__law_part ["_law_cell", "_law_j"] []
 F__law_told:Fun K "_law_told" "_law_told" s__law_told t.a__law_told t.d__law_told
 m__law_told:mg "_law_told"=some (.ref t.a__law_told)
 b__law_told:Binds K t.d__law_told ["_law_script", "_law_k"] []
 F__law_words:Fun K "_law_words" "_law_words" s__law_words t.a__law_words t.d__law_words
 m__law_words:mg "_law_words"=some (.ref t.a__law_words)
 b__law_words:Binds K t.d__law_words ["_law_told_here"] []
 F__law_number:Fun K "_law_number" "_law_number" s__law_number t.a__law_number t.d__law_number
 m__law_number:mg "_law_number"=some (.ref t.a__law_number)
 b__law_number:Binds K t.d__law_number ["_law_cell"] []
 F__law_first:Fun K "_law_first" "_law_first" s__law_first t.a__law_first t.d__law_first
 m__law_first:mg "_law_first"=some (.ref t.a__law_first)
 b__law_first:Binds K t.d__law_first ["_law_cell"] []
 F__law_spoilt:Fun K "_law_spoilt" "_law_spoilt" s__law_spoilt t.a__law_spoilt t.d__law_spoilt
 m__law_spoilt:mg "_law_spoilt"=some (.ref t.a__law_spoilt)
 b__law_spoilt:Binds K t.d__law_spoilt ["_law_words_here", "_law_cell"] []
 F__law_joined:Fun K "_law_joined" "_law_joined" s__law_joined t.a__law_joined t.d__law_joined
 m__law_joined:mg "_law_joined"=some (.ref t.a__law_joined)
 b__law_joined:Binds K t.d__law_joined ["_law_parts"] []
 F__law_bad:Fun K "_law_bad" "_law_bad" s__law_bad t.a__law_bad t.d__law_bad
 m__law_bad:mg "_law_bad"=some (.ref t.a__law_bad)
 b__law_bad:Binds K t.d__law_bad ["_law_script", "_law_parts"] []
 F__law_refused:Fun K "_law_refused" "_law_refused" s__law_refused t.a__law_refused t.d__law_refused
 m__law_refused:mg "_law_refused"=some (.ref t.a__law_refused)
 b__law_refused:Binds K t.d__law_refused ["_law_words_here"] []
 F_law:Fun K "law" "law" s_law t.a_law t.d_law
 m_law:mg "law"=some (.ref t.a_law)
 b_law:Binds K t.d_law ["_law_script"] []
 z_ValueError:mg "ValueError"=none
 z_all:mg "all"=none
 z_bool:mg "bool"=none
 z_int:mg "int"=none
 z_isinstance:mg "isinstance"=none
 z_len:mg "len"=none
 z_list:mg "list"=none
 z_range:mg "range"=none
 z_str:mg "str"=none
 z_sum:mg "sum"=none
 z_tuple:mg "tuple"=none
theorem Tx.is_Move {K:PySem.W.Frag}{mg:Str->Option Value}{t:Adr}(T:Tx K mg t):IsC K t.a_Move:=⟨T.cl_Move,T.fc_Move,T.ocs,T.oct,T.mo_Move⟩
theorem Tx.is_Slice {K:PySem.W.Frag}{mg:Str->Option Value}{t:Adr}(T:Tx K mg t):IsC K t.a_Slice:=⟨T.cl_Slice,T.fc_Slice,T.ocs,T.oct,T.mo_Slice⟩
theorem Tx.is_Pick {K:PySem.W.Frag}{mg:Str->Option Value}{t:Adr}(T:Tx K mg t):IsC K t.a_Pick:=⟨T.cl_Pick,T.fc_Pick,T.ocs,T.oct,T.mo_Pick⟩
theorem Tx.is_Turn {K:PySem.W.Frag}{mg:Str->Option Value}{t:Adr}(T:Tx K mg t):IsC K t.a_Turn:=⟨T.cl_Turn,T.fc_Turn,T.ocs,T.oct,T.mo_Turn⟩
theorem Tx.is_Fresh {K:PySem.W.Frag}{mg:Str->Option Value}{t:Adr}(T:Tx K mg t):IsC K t.a_Fresh:=⟨T.cl_Fresh,T.fc_Fresh,T.ocs,T.oct,T.mo_Fresh⟩
theorem Tx.is_Spread {K:PySem.W.Frag}{mg:Str->Option Value}{t:Adr}(T:Tx K mg t):IsC K t.a_Spread:=⟨T.cl_Spread,T.fc_Spread,T.ocs,T.oct,T.mo_Spread⟩
theorem Tx.is_Cut {K:PySem.W.Frag}{mg:Str->Option Value}{t:Adr}(T:Tx K mg t):IsC K t.a_Cut:=⟨T.cl_Cut,T.fc_Cut,T.ocs,T.oct,T.mo_Cut⟩
theorem Tx.is_Window {K:PySem.W.Frag}{mg:Str->Option Value}{t:Adr}(T:Tx K mg t):IsC K t.a_Window:=⟨T.cl_Window,T.fc_Window,T.ocs,T.oct,T.mo_Window⟩
theorem Tx.is_Diagonal {K:PySem.W.Frag}{mg:Str->Option Value}{t:Adr}(T:Tx K mg t):IsC K t.a_Diagonal:=⟨T.cl_Diagonal,T.fc_Diagonal,T.ocs,T.oct,T.mo_Diagonal⟩
theorem Tx.e_NoRow {K:PySem.W.Frag}{mg:Str->Option Value}{t:Adr}(T:Tx K mg t):ECls K t.a_NoRow:=⟨T.ga_NoRow,T.gn_NoRow,T.mb_NoRow,T.mo_NoRow,T.fc_NoRow,T.ocs,T.oct,T.hd_NoRow⟩
theorem Tx.k_Move_Chain {K:PySem.W.Frag}{mg:Str->Option Value}{t:Adr}(T:Tx K mg t):PySem.W.kitOne K (.ref t.a_Move) (.ref t.a_Chain)=some false:=kit_no T.kn_Move_Chain T.kc_Move_Chain T.kt_Move_Chain T.ks_Move_Chain
theorem Tx.k_Slice_Chain {K:PySem.W.Frag}{mg:Str->Option Value}{t:Adr}(T:Tx K mg t):PySem.W.kitOne K (.ref t.a_Slice) (.ref t.a_Chain)=some false:=kit_no T.kn_Slice_Chain T.kc_Slice_Chain T.kt_Slice_Chain T.ks_Slice_Chain
theorem Tx.k_Pick_Chain {K:PySem.W.Frag}{mg:Str->Option Value}{t:Adr}(T:Tx K mg t):PySem.W.kitOne K (.ref t.a_Pick) (.ref t.a_Chain)=some false:=kit_no T.kn_Pick_Chain T.kc_Pick_Chain T.kt_Pick_Chain T.ks_Pick_Chain
theorem Tx.k_Turn_Chain {K:PySem.W.Frag}{mg:Str->Option Value}{t:Adr}(T:Tx K mg t):PySem.W.kitOne K (.ref t.a_Turn) (.ref t.a_Chain)=some false:=kit_no T.kn_Turn_Chain T.kc_Turn_Chain T.kt_Turn_Chain T.ks_Turn_Chain
theorem Tx.k_Fresh_Chain {K:PySem.W.Frag}{mg:Str->Option Value}{t:Adr}(T:Tx K mg t):PySem.W.kitOne K (.ref t.a_Fresh) (.ref t.a_Chain)=some false:=kit_no T.kn_Fresh_Chain T.kc_Fresh_Chain T.kt_Fresh_Chain T.ks_Fresh_Chain
theorem Tx.k_Spread_Chain {K:PySem.W.Frag}{mg:Str->Option Value}{t:Adr}(T:Tx K mg t):PySem.W.kitOne K (.ref t.a_Spread) (.ref t.a_Chain)=some false:=kit_no T.kn_Spread_Chain T.kc_Spread_Chain T.kt_Spread_Chain T.ks_Spread_Chain
theorem Tx.k_Cut_Chain {K:PySem.W.Frag}{mg:Str->Option Value}{t:Adr}(T:Tx K mg t):PySem.W.kitOne K (.ref t.a_Cut) (.ref t.a_Chain)=some false:=kit_no T.kn_Cut_Chain T.kc_Cut_Chain T.kt_Cut_Chain T.ks_Cut_Chain
theorem Tx.k_Window_Chain {K:PySem.W.Frag}{mg:Str->Option Value}{t:Adr}(T:Tx K mg t):PySem.W.kitOne K (.ref t.a_Window) (.ref t.a_Chain)=some false:=kit_no T.kn_Window_Chain T.kc_Window_Chain T.kt_Window_Chain T.ks_Window_Chain
theorem Tx.k_Diagonal_Chain {K:PySem.W.Frag}{mg:Str->Option Value}{t:Adr}(T:Tx K mg t):PySem.W.kitOne K (.ref t.a_Diagonal) (.ref t.a_Chain)=some false:=kit_no T.kn_Diagonal_Chain T.kc_Diagonal_Chain T.kt_Diagonal_Chain T.ks_Diagonal_Chain
theorem Tx.k_NoRow_NoMove {K:PySem.W.Frag}{mg:Str->Option Value}{t:Adr}(T:Tx K mg t):PySem.W.kitOne K (.ref t.a_NoRow) (.ref t.a_NoMove)=some false:=kit_no T.kn_NoRow_NoMove T.kc_NoRow_NoMove T.kt_NoRow_NoMove T.ks_NoRow_NoMove
theorem Tx.k_NoRow_NoName {K:PySem.W.Frag}{mg:Str->Option Value}{t:Adr}(T:Tx K mg t):PySem.W.kitOne K (.ref t.a_NoRow) (.ref t.a_NoName)=some false:=kit_no T.kn_NoRow_NoName T.kc_NoRow_NoName T.kt_NoRow_NoName T.ks_NoRow_NoName
theorem Tx.k_NoRow_NoStep {K:PySem.W.Frag}{mg:Str->Option Value}{t:Adr}(T:Tx K mg t):PySem.W.kitOne K (.ref t.a_NoRow) (.ref t.a_NoStep)=some false:=kit_no T.kn_NoRow_NoStep T.kc_NoRow_NoStep T.kt_NoRow_NoStep T.ks_NoRow_NoStep
theorem Tx.k_NoRow_PaceError {K:PySem.W.Frag}{mg:Str->Option Value}{t:Adr}(T:Tx K mg t):PySem.W.kitOne K (.ref t.a_NoRow) (.ref t.a_PaceError)=some true:=kit_yes T.kc_NoRow_PaceError T.kt_NoRow_PaceError T.ks_NoRow_PaceError
theorem Tx.k_NoRow_ValueError {K:PySem.W.Frag}{mg:Str->Option Value}{t:Adr}(T:Tx K mg t):PySem.W.kitOne K (.ref t.a_NoRow) (.type "ValueError")=some true:=kit_ty (by decide +kernel) T.ks_NoRow_ValueError
local macro_rules | `(tactic| trivial) => `(tactic| first | exact Or.inl rfl | exact Or.inr rfl | exact Or.inr (Or.inl rfl) | exact Or.inr (Or.inr rfl) | assumption)
local macro_rules | `(tactic| simp! only [$xs,*]) => do
  let ys := xs.getElems.map fun x => (⟨x.raw⟩ : Lean.TSyntax `Lean.Parser.Tactic.simpLemma)
  let zs ← ("↓reduceIte ↓optK_some ↓gName_0 ↓gName_1 ↓gName_2 ↓gName_3 ↓gName_4 ↓gName_5 ↓gName_6 ↓m_kOp' ↓m_kOp ↓m_tOp ↓m_tC ↓m_kUn ↓m_tUn ↓m_rIsN_non ↓m_rIsN_int ↓m_kNot ↓m_tNot ↓m_kAnd ↓m_tAnd ↓m_kOr ↓m_tOr ↓m_kIfE ↓m_tIf ↓m_kCh3 ↓m_tNil ↓m_kCons' ↓m_kCons ↓m_tCons ↓m_kCall_1 ↓m_kCall_2 ↓m_kCall_3 ↓m_tCall ↓m_kCB ↓m_tCB ↓m_tNext ↓m_tSeq ↓m_tRet ↓m_kDrop ↓m_tDrop ↓m_kIfS ↓m_tIfS ↓m_kAsg ↓m_tAsg ↓m_kLen ↓m_qLen ↓m_qLenS ↓m_kIx' ↓m_kIx ↓m_qIx ↓m_qStr ↓m_qIsi_int ↓m_qIsi_bool ↓m_qIsi_tuple ↓m_qIsi_list ↓m_qIsi_str ↓m_kIsi_Ni ↓m_kIsi_Ns ↓m_kIsi_Nl ↓m_kIsi_bb ↓m_kIsi_bi ↓m_kIsi_bs ↓m_kIsi_ib ↓m_kIsi_ii ↓m_kIsi_is ↓m_kIsi_il ↓m_kIsi_si ↓m_kIsi_ss ↓m_kIsi_sl ↓m_kIsi_li ↓m_kIsi_ls ↓m_kIsi_ll ↓m_kIsi_ti ↓m_kIsi_ts ↓m_kIsi_tl ↓m_kIsi_tt ↓m_kIsi_di ↓m_kIsi_ds ↓m_kIsi_dl ↓m_kBM' ↓m_kBM ↓m_tBM ↓m_kApp ↓m_rAppend ↓m_kSet' ↓m_kSet ↓m_rSetL ↓m_kGSub3 ↓m_kGSub2 ↓m_gSub ↓m_kBody ↓m_tFor ↓m_kR1 ↓m_iRng1 ↓m_kR2 ↓m_iRng2 ↓m_kISq'_l ↓m_kISq'_t ↓m_kISq ↓m_iSeq ↓m_tCallX ↓m_kTry ↓m_tTry ↓m_kRaise ↓m_tRaise ↓m_kSetE ↓m_kExcAs ↓m_tExcAs ↓m_del ↓m_kDel ↓m_gDel_2 ↓m_dictO_none ↓m_kE4 ↓m_kE3 ↓m_kE2 ↓m_kE1 ↓m_qIsE ↓m_tYes ↓m_tComp ↓m_kSetC ↓m_tSetC ↓m_datV ↓m_datF_ref ↓m_datO_lst ↓m_kEq2_f ↓m_kEq1 ↓m_qEq_refr ↓m_qEq_int_int ↓m_qEq_str_str ↓m_qNe_str_str ↓m_kSl3 ↓m_kSl2 ↓m_kSl1 ↓m_tSl ↓m_tNoPart ↓m_kPart ↓m_tPart ↓m_kQT ↓m_kQL ↓m_qTup ↓m_qLst ↓m_kN ↓m_nList ↓m_kNT_l ↓m_nTuple ↓m_kNC2 ↓m_kNC1 ↓m_nCat ↓m_kNS ↓m_nSl ↓m_nDNew ↓m_kBls ↓m_kAllB ↓m_qAll ↓m_kCm2 ↓m_kCm_1 ↓m_rep_1 ↓m_kFldV ↓m_kFldO ↓m_kFld ↓m_nFld ↓m_kSetO ↓m_kSet1 ↓m_kSet0 ↓m_nSetF ↓m_kMade ↓m_kMake_1 ↓m_kMake_2 ↓m_nMake ↓m_kCT1 ↓m_nCatT ↓m_qInt_b ↓m_kDG0 ↓m_tDGet ↓m_tV_0 ↓m_tV_1 ↓m_tV_2 ↓m_tV_3 ↓m_tV_4 ↓m_tV_5 ↓m_tV_6 ↓m_nI0 ↓m_nI ↓m_nU ↓m_kTestN ↓m_nTest ↓m_kAndN ↓m_nAndV ↓m_kOrN ↓m_nOrV ↓m_kNotN ↓m_nNotV ↓m_kChN2 ↓m_kChN1 ↓m_kChN0 ↓m_nChain ↓m_kRep ↓m_nRep ↓m_nMk0 ↓m_nMethD ↓m_iStr ↓m_nMulS ↓m_nInS ↓m_nSw ↓m_kDK0 ↓m_nDGetK ↓m_kCV1 ↓m_nCallV optK_some itemsAt lstAt tupAt seqO_lst seqO_tup lstO_lst tupO_tup bind_some' upd_same upd_upd tyO_lst tyO_tup tyO_dK tyN_non tyN_bl tyN_int tyN_str tyN_ref tyV_list isW_int' cx_K ofString_inj refC_ref clsV_ref clsV_ty atI_0 atI_1 atI_2 atI_3 atI_4 eqv_list CDiv_eq CMul_r CPow_10 Option.isSome_some Option.isSome_none Option.map_some List.length_cons List.length_nil List.length_map List.map_cons List.map_nil and_true true_and and_self implies_true reduceCtorEq decide_true decide_false Bool.not_true Bool.not_false if_true if_false decide_eq_true_eq Bool.false_eq_true Bool.not_eq_true' decide_eq_false_iff_not Bool.and_true Bool.true_and Bool.and_self Bool.and_eq_true Int.reduceToNat Int.reducePow Int.reduceMul Int.reduceAdd Int.reduceSub Int.reduceNeg Int.reduceLT Int.reduceLE Int.reduceEq Int.reduceNe Int.reduceDiv Int.reduceMod Nat.reduceAdd Nat.reduceLeDiff Nat.reduceLT Nat.reduceMul Nat.reducePow gt_iff_lt ge_iff_le ne_eq false_implies true_implies eq_self String.reduceEq Int.cast_ofNat_Int not_true_eq_false not_false_eq_true false_and and_false List.cons_append List.nil_append List.append_nil lenLe".splitOn " ").toArray.mapM fun s => if s.startsWith "↓" then `(Lean.Parser.Tactic.simpLemma| ↓ $(Lean.mkIdent (s.replace "↓" "").toName):ident) else `(Lean.Parser.Tactic.simpLemma| $(Lean.mkIdent s.toName):ident)
  `(tactic| simp (config := { failIfUnchanged := false, maxDischargeDepth := 30, maxSteps := 10000000 }) only [$zs,*, $ys,*, *])
section
variable {P:Program}{w:World}{K:PySem.W.Frag}{mg:Str->Option Value}{base:Heap}{t:Adr}
def spDraw (K:PySem.W.Frag) (a:Addr) (ns:List Int):Sp:=fun vs H Q E=>∃ (k:Int) (m:Int),vs=[.ref a,.int k,.int m]∧(SqL K H a (ns.map V.int)∧ns.length≤63∧(0≤k∧k < 1000)∧0 < m∧∀ z:Int,0≤z->z < m->Q (.int z) H)
theorem c_spDraw (K:PySem.W.Frag) (a:Addr) (ns:List Int) (k:Int) (m:Int) (H:Hp) (Q:VK) (E:XK):spDraw K a ns [.ref a,.int k,.int m] H Q E=(SqL K H a (ns.map V.int)∧ns.length≤63∧(0≤k∧k < 1000)∧0 < m∧∀ z:Int,0≤z->z < m->Q (.int z) H):=spx2 (f:=fun (k:Int) (m:Int)=>[.ref a,.int k,.int m]) (fun _ _ _ _ h=>by cases h;exact ⟨rfl,rfl⟩) k m
theorem l_spDraw (K:PySem.W.Frag) (a:Addr) (ns:List Int){vs:List V}{H:Hp}{Q:VK}{E:XK}(h:spDraw K a ns vs H Q E):vs.length=3:=spl2 h fun _ _=>rfl
theorem ok__law_draw (T:Tx K mg t) (a:Addr) (ns:List Int):FnOk P t.w K mg base CX0 1 t.a__law_draw t.d__law_draw ["_law_script", "_law_k", "_law_many"] (spDraw K a ns):=by
 refine T.F__law_draw.ok c__law_draw (fun vs H Q E h=>l_spDraw _ _ _ h) (fun cdv A outer s H vs Q E hr h=>?_)
 ·obtain ⟨k,m,rfl,hS,hl,⟨hk0,hk1⟩,hm,kk⟩:=h
  have fin:∀ z:Int,Q (.int (z % m)) H:=fun z=>kk _ (Int.emod_nonneg _ (by omega)) (Int.emod_lt_of_pos _ hm)
  refine ⟨_,(pss_cons (ps_if (pt_cmpR op_lt (pv 1) (pe_callB (id := "len") call_len_seq (by rfl) T.z_len (by decide +kernel) (pa_c (pv 0) pa_nil)) (nomark _))
   (pss_one (ps_ret (pe_op op_mod (pe_ix ix_list (pv 0) (pv 1) (fun _ _=>rfl)) (pv 2))))
   pss_nil)
  (pss_cons (ps_set (i:=3) c__law_draw.nd rfl (Or.inl rfl) (pe_op op_add (pe_op op_mul (pe_op op_mul (pv 1) (pv 1)) pe_int) pe_int))
  (pss_cons (ps_if (pt_cmpR op_gt (pe_callB (id := "len") call_len_seq (by rfl) T.z_len (by decide +kernel) (pa_c (pv 0) pa_nil)) pe_int (nomark _))
   (pss_cons (ps_set (i:=4) c__law_draw.nd rfl (Or.inl rfl) (pe_op op_mod (pe_ix ix_list (pv 0) (pe_op op_mod (pv 1) (pe_callB (id := "len") call_len_seq (by rfl) T.z_len (by decide +kernel) (pa_c (pv 0) pa_nil))) (fun _ _=>rfl)) pe_int))
   (pss_one (ps_set (i:=3) c__law_draw.nd rfl (Or.inl rfl) (pe_op op_add (pe_op op_mul (pv 4) (pe_op op_add pe_int (pe_op op_mul (pe_op op_mul pe_int (pv 1)) (pv 1)))) (pe_op op_mul (pv 1) pe_int)))))
   pss_nil)
  (pss_one (ps_ret (pe_op op_mod (pe_op op_mod (pe_op op_mul (pe_op op_mod (pv 3) pe_int) pe_int) pe_int) (pv 2))))))),?_⟩
  refine ⟨_,rfl,_,rfl,a,_,rfl,.inl hS,_,_,rfl,rfl,_,rfl,?_⟩
  refine ite2 (fun h=>?_) (fun h=>?_)
  ·have h1:k < (ns.length:Int):=by simpa using h
   obtain ⟨z,hz,_⟩:=atI_ints ns k hk0 h1
   exact ⟨_,rfl,_,rfl,a,_,k,_,rfl,rfl,hS,hz,_,rfl,_,_,rfl,rfl,hm,fin _⟩
  ·refine ⟨_,rfl,_,rfl,_,_,rfl,rfl,.inl ⟨by omega,by omega⟩,_,_,rfl,rfl,.inr ⟨by decide,by decide⟩,_,_,rfl,rfl,?_⟩
   refine ⟨_,rfl,a,_,rfl,.inl hS,_,_,rfl,rfl,_,rfl,?_⟩
   refine ite2 (fun h2=>?_) (fun h2=>?_)
   ·have h3:0 < (ns.length:Int):=by simpa using h2
    have h4:(0:Int) < ((ns.map V.int).length:Int):=by simpa using h3
    obtain ⟨z,hz,_⟩:=atI_ints ns (k % ((ns.map V.int).length:Int)) (Int.emod_nonneg _ (by omega)) (by have:=Int.emod_lt_of_pos k h4;simpa using this)
    refine ⟨_,rfl,_,rfl,_,rfl,a,_,rfl,.inl hS,_,_,rfl,rfl,h4,a,_,_,_,rfl,rfl,hS,hz,_,_,rfl,rfl,(by first|decide|(show (0:Int) < _;decide)),?_⟩
    refine ⟨_,rfl,_,rfl,_,_,rfl,rfl,.inl ⟨by decide,by decide⟩,_,rfl,_,_,rfl,rfl,.inr ⟨by omega,by omega⟩,_,_,rfl,rfl,_,_,rfl,rfl,?_,?_⟩
    ·refine .inl ⟨?_,?_⟩
     ·have:=Int.emod_nonneg z (show (999999937:Int) ≠ 0 by decide);omega
     ·have:=Int.emod_lt_of_pos z (show (0:Int) < 999999937 by decide);omega
    refine ⟨_,rfl,_,_,rfl,rfl,.inr ⟨by decide,by decide⟩,_,_,rfl,rfl,?_⟩
    exact ⟨_,rfl,_,_,rfl,rfl,(by first|decide|(show (0:Int) < _;decide)),_,_,rfl,rfl,.inr ⟨by decide,by decide⟩,_,_,rfl,rfl,(by first|decide|(show (0:Int) < _;decide)),_,rfl,_,_,rfl,rfl,hm,fin _⟩
   ·exact ⟨_,rfl,_,_,rfl,rfl,(by first|decide|(show (0:Int) < _;decide)),_,_,rfl,rfl,.inr ⟨by decide,by decide⟩,_,_,rfl,rfl,(by first|decide|(show (0:Int) < _;decide)),_,rfl,_,_,rfl,rfl,hm,fin _⟩
def spWhole  : Sp:=fun vs H Q E=>∃ (x:V),vs=[x]∧(optK (isW H x) (kE4 H Q))
theorem c_spWhole  (x:V) (H:Hp) (Q:VK) (E:XK):spWhole  [x] H Q E=(optK (isW H x) (kE4 H Q)):=spx1 (f:=fun (x:V)=>[x]) (fun _ _ h=>by cases h;exact rfl) x
theorem l_spWhole  {vs:List V}{H:Hp}{Q:VK}{E:XK}(h:spWhole  vs H Q E):vs.length=1:=spl1 h fun _=>rfl
theorem ok_is_whole (T:Tx K mg t):FnOk P t.w K mg base CX0 1 t.a_is_whole t.d_is_whole ["thing"] spWhole:=by
 refine T.F_is_whole.ok c_is_whole (fun vs H Q E h=>l_spWhole h) (fun cdv A outer s H vs Q E hr h=>?_)
 ·obtain ⟨x,rfl,h⟩:=h
  obtain ⟨b,hb,k⟩:=optK_ex h
  clear h
  rw [m_kE4] at k
  refine ⟨_,(@pss_one _ _ _ (@ps_ret _ _ _ _ (@pe_andN _ _ _ _ _ _ _ (@pe_callB _ _ _ _ _ _ _ ("isinstance") _ call_qIsi (by rfl) T.z_isinstance (by decide +kernel) (@pa_c _ _ _ _ _ (@pvN _ 0 _ _ (by rfl) (by trivial) (by decide) (by decide)) (@pa_c _ _ _ _ _ (@pe_bltn _ _ (.ty "int") (.type "int") _ (by rfl) T.z_int (by decide +kernel) rfl (by decide) (by decide)) (@pa_nil _) (by rfl)) (by rfl)) (by decide) (by decide) (by rfl) (by rfl)) (@pe_one _ _ _ _ _ (@pe_notN _ _ _ _ (@pe_callB _ _ _ _ _ _ _ ("isinstance") _ call_qIsi (by rfl) T.z_isinstance (by decide +kernel) (@pa_c _ _ _ _ _ (@pvN _ 0 _ _ (by rfl) (by trivial) (by decide) (by decide)) (@pa_c _ _ _ _ _ (@pe_bltn _ _ (.ty "bool") (.type "bool") _ (by rfl) T.z_bool (by decide +kernel) rfl (by decide) (by decide)) (@pa_nil _) (by rfl)) (by rfl)) (by decide) (by decide) (by rfl) (by rfl))))))),?_⟩
  rw [show start ["thing"] [x]=[some (x)] from rfl]
  cases x with
  | int i=>cases hb;simp! only [and_true]
  | bl i=>cases hb;simp! only [and_true]
  | non=>cases hb;simp! only [and_true]
  | str i=>cases hb;simp! only [and_true]
  | ref p=>
   obtain ⟨rfl,o,ho,ht⟩:=isW_obj hb
   rcases ht with ht|ht|ht<;>simp! only [and_true]
  | _=>cases hb
def clM (t:Adr):Nat->Addr
 | 0=>t.a_Move
 | 1=>t.a_Slice
 | 2=>t.a_Pick
 | 3=>t.a_Turn
 | 4=>t.a_Fresh
 | 5=>t.a_Spread
 | 6=>t.a_Cut
 | 7=>t.a_Window
 | 8=>t.a_Diagonal
 | _=>t.a_Chain
def wdM:Nat->Str
 | 0 => "stay"
 | 1 => "slice"
 | 2 => "pick"
 | 3 => "turn"
 | 4 => "fresh"
 | 5 => "spread"
 | 6 => "cut"
 | 7 => "window"
 | 8 => "diagonal"
 | _ => "chain"
def cnM:Nat->Nat
 | 0=>0
 | 1=>4
 | 2=>2
 | 3=>0
 | 4=>1
 | 5=>2
 | 6=>2
 | 7=>2
 | 8=>2
 | _=>0
def flM:Nat->List V->List (Str × V)
 | 1,[a,b,c,d]=>[("axis",a),("start",b),("stop",c),("step",d)]
 | 2,[a,b]=>[("axis",a),("at",b)]
 | 4,[a]=>[("axis",a)]
 | 5,[a,b]=>[("axis",a),("size",b)]
 | 6,[a,b]=>[("axis",a),("inner",b)]
 | 7,[a,b]=>[("axis",a),("size",b)]
 | 8,[a,b]=>[("one",a),("other",b)]
 | _,_=>[]
def oV:Option Int->V
 | none=>.non
 | some i=>.int i
abbrev Tl:=Nat × List (Option Int)
structure TlOk (x:Tl):Prop where
 k:x.1 < 9
 n:x.1 ≠ 3->x.2.length=cnM x.1
 m:x.2.length≤8
 b:∀ o∈x.2,∀ i,o=some i->i.natAbs < 10 ^ 20
 s:x.1 ≠ 1->∀ o∈x.2,o ≠ none
 h:x.1=1->x.2.head? ≠ some none
def MvF (t:Adr) (F H:Hp) (v:Addr) (x:Tl):Prop:=(x.1 ≠ 3∧∃ dx,H v=some (.ins (clM t x.1) dx (flM x.1 (x.2.map oV))))∨(x.1=3∧∃ dx l,H v=some (.ins t.a_Turn dx [("order",.ref l)])∧F l=none∧H l=some (.lst (x.2.map oV)))
def TlF (F H:Hp) (r:V) (x:Tl):Prop:=∃ p,r=.ref p∧((x.1 ≠ 3∧H p=some (.tup (.str (wdM x.1)::x.2.map oV)))∨(x.1=3∧∃ l,H p=some (.tup [.str "turn",.ref l])∧F l=none∧H l=some (.lst (x.2.map oV))))
theorem MvF.ext {t:Adr}{F H H':Hp}{v:Addr}{x:Tl}(h:MvF t F H v x) (e:Ext H H'):MvF t F H' v x:=by
 rcases h with ⟨h1,dx,h2⟩|⟨h1,dx,l,h2,h3,h4⟩
 ·exact .inl ⟨h1,dx,e.at h2⟩
 ·exact .inr ⟨h1,dx,l,e.at h2,h3,e.at h4⟩
theorem MvF.less {t:Adr}{F F' H:Hp}{v:Addr}{x:Tl}(h:MvF t F H v x) (e:Ext F' F):MvF t F' H v x:=by
 rcases h with ⟨h1,dx,h2⟩|⟨h1,dx,l,h2,h3,h4⟩
 ·exact .inl ⟨h1,dx,h2⟩
 ·exact .inr ⟨h1,dx,l,h2,e.free h3,h4⟩
theorem TlF.ext {F H H':Hp}{r:V}{x:Tl}(h:TlF F H r x) (e:Ext H H'):TlF F H' r x:=by
 obtain ⟨p,h0,⟨h1,h2⟩|⟨h1,l,h2,h3,h4⟩⟩:=h
 ·exact ⟨p,h0,.inl ⟨h1,e.at h2⟩⟩
 ·exact ⟨p,h0,.inr ⟨h1,l,e.at h2,h3,e.at h4⟩⟩
theorem putF_le (m:Str) (x:V):∀ fs:List (Str × V),(putF m x fs).length≤fs.length+1
 | []=>Nat.le_refl _
 | p::r=>by
  have:=putF_le m x r
  unfold putF
  split
  ·rw [List.length_cons,List.length_cons];omega
  ·rw [List.length_cons,List.length_cons];omega
abbrev B_spInSlice (t:Adr) (x:Addr) (a:V) (b:V) (c:V) (d:V) (H:Hp) (Q:VK) (E:XK):Prop:=∃ dx:Addr,H x=some (.ins t.a_Slice dx [])∧∀ H':Hp,(∀ H0,Ext H0 H->H0 x=none->Ext H0 H')->H' x=some (.ins t.a_Slice dx (flM 1 [a,b,c,d]))->Q .non H'
def spInSlice (t:Adr):Sp:=fun vs H Q E=>∃ (x:Addr) (a:V) (b:V) (c:V) (d:V),vs=[.ref x,a,b,c,d]∧(B_spInSlice t x a b c d H Q E)
theorem c_spInSlice (t:Adr) (x:Addr) (a:V) (b:V) (c:V) (d:V) (H:Hp) (Q:VK) (E:XK):spInSlice t [.ref x,a,b,c,d] H Q E=(B_spInSlice t x a b c d H Q E):=spx5 (f:=fun (x:Addr) (a:V) (b:V) (c:V) (d:V)=>[.ref x,a,b,c,d]) (fun _ _ _ _ _ _ _ _ _ _ h=>by cases h;exact ⟨rfl,rfl,rfl,rfl,rfl⟩) x a b c d
theorem l_spInSlice (t:Adr){vs:List V}{H:Hp}{Q:VK}{E:XK}(h:spInSlice t vs H Q E):vs.length=5:=spl5 h fun _ _ _ _ _=>rfl
theorem ok_Slice___init__ (T:Tx K mg t):FnOk P t.w K mg base CX0 1 t.a_Slice___init__ t.d_Slice___init__ ["self", "axis", "start", "stop", "step"] (spInSlice t):=by
 refine T.F_Slice___init__.ok c_Slice___init__ (fun vs H Q E h=>l_spInSlice _ h) (fun cdv A outer s H vs Q E hr h=>?_)
 ·obtain ⟨x,a,b,c,d,rfl,dx,hx,k⟩:=h
  have c1:=T.cl_Slice
  have n0:=T.na_Slice_axis
  have n1:=T.na_Slice_start
  have n2:=T.na_Slice_stop
  have n3:=T.na_Slice_step
  refine ⟨_,(@pss_cons _ _ _ _ _ (@ps_nSetF _ _ _ _ _ _ _ _ (@pvN _ 0 _ _ (by rfl) (by trivial) (by decide) (by decide)) (@pvN _ 1 _ _ (by rfl) (by trivial) (by decide) (by decide)) rfl) (@pss_cons _ _ _ _ _ (@ps_nSetF _ _ _ _ _ _ _ _ (@pvN _ 0 _ _ (by rfl) (by trivial) (by decide) (by decide)) (@pvN _ 2 _ _ (by rfl) (by trivial) (by decide) (by decide)) rfl) (@pss_cons _ _ _ _ _ (@ps_nSetF _ _ _ _ _ _ _ _ (@pvN _ 0 _ _ (by rfl) (by trivial) (by decide) (by decide)) (@pvN _ 3 _ _ (by rfl) (by trivial) (by decide) (by decide)) rfl) (@pss_one _ _ _ (@ps_nSetF _ _ _ _ _ _ _ _ (@pvN _ 0 _ _ (by rfl) (by trivial) (by decide) (by decide)) (@pvN _ 4 _ _ (by rfl) (by trivial) (by decide) (by decide)) rfl))))),?_⟩
  rw [show start ["self", "axis", "start", "stop", "step"] [.ref x,a,b,c,d]=[some (.ref x),some (a),some (b),some (c),some (d)] from rfl]
  replace k:=fun (_:Unit)=>k
  simp! only [and_true]
  have l1:=putF_le "axis" a []
  have l2:=putF_le "start" b (putF "axis" a [])
  have l3:=putF_le "stop" c (putF "start" b (putF "axis" a []))
  have l0:([]:List (Str × V)).length=0:=rfl
  refine ⟨(by show (_:Nat) < 1000;omega),(by show (_:Nat) < 1000;omega),(by show (_:Nat) < 1000;omega),?_⟩
  exact k () _ (fun H0 q0 q1=>q0.put q1) upd_same
abbrev B_spInPick (t:Adr) (x:Addr) (a:V) (b:V) (H:Hp) (Q:VK) (E:XK):Prop:=∃ dx:Addr,H x=some (.ins t.a_Pick dx [])∧∀ H':Hp,(∀ H0,Ext H0 H->H0 x=none->Ext H0 H')->H' x=some (.ins t.a_Pick dx (flM 2 [a,b]))->Q .non H'
def spInPick (t:Adr):Sp:=fun vs H Q E=>∃ (x:Addr) (a:V) (b:V),vs=[.ref x,a,b]∧(B_spInPick t x a b H Q E)
theorem c_spInPick (t:Adr) (x:Addr) (a:V) (b:V) (H:Hp) (Q:VK) (E:XK):spInPick t [.ref x,a,b] H Q E=(B_spInPick t x a b H Q E):=spx3 (f:=fun (x:Addr) (a:V) (b:V)=>[.ref x,a,b]) (fun _ _ _ _ _ _ h=>by cases h;exact ⟨rfl,rfl,rfl⟩) x a b
theorem l_spInPick (t:Adr){vs:List V}{H:Hp}{Q:VK}{E:XK}(h:spInPick t vs H Q E):vs.length=3:=spl3 h fun _ _ _=>rfl
theorem ok_Pick___init__ (T:Tx K mg t):FnOk P t.w K mg base CX0 1 t.a_Pick___init__ t.d_Pick___init__ ["self", "axis", "at"] (spInPick t):=by
 refine T.F_Pick___init__.ok c_Pick___init__ (fun vs H Q E h=>l_spInPick _ h) (fun cdv A outer s H vs Q E hr h=>?_)
 ·obtain ⟨x,a,b,rfl,dx,hx,k⟩:=h
  have c1:=T.cl_Pick
  have n0:=T.na_Pick_axis
  have n1:=T.na_Pick_at
  refine ⟨_,(@pss_cons _ _ _ _ _ (@ps_nSetF _ _ _ _ _ _ _ _ (@pvN _ 0 _ _ (by rfl) (by trivial) (by decide) (by decide)) (@pvN _ 1 _ _ (by rfl) (by trivial) (by decide) (by decide)) rfl) (@pss_one _ _ _ (@ps_nSetF _ _ _ _ _ _ _ _ (@pvN _ 0 _ _ (by rfl) (by trivial) (by decide) (by decide)) (@pvN _ 2 _ _ (by rfl) (by trivial) (by decide) (by decide)) rfl))),?_⟩
  rw [show start ["self", "axis", "at"] [.ref x,a,b]=[some (.ref x),some (a),some (b)] from rfl]
  replace k:=fun (_:Unit)=>k
  simp! only [and_true]
  have l1:=putF_le "axis" a []
  have l0:([]:List (Str × V)).length=0:=rfl
  refine ⟨(by show (_:Nat) < 1000;omega),?_⟩
  exact k () _ (fun H0 q0 q1=>q0.put q1) upd_same
abbrev B_spInFresh (t:Adr) (x:Addr) (a:V) (H:Hp) (Q:VK) (E:XK):Prop:=∃ dx:Addr,H x=some (.ins t.a_Fresh dx [])∧∀ H':Hp,(∀ H0,Ext H0 H->H0 x=none->Ext H0 H')->H' x=some (.ins t.a_Fresh dx (flM 4 [a]))->Q .non H'
def spInFresh (t:Adr):Sp:=fun vs H Q E=>∃ (x:Addr) (a:V),vs=[.ref x,a]∧(B_spInFresh t x a H Q E)
theorem c_spInFresh (t:Adr) (x:Addr) (a:V) (H:Hp) (Q:VK) (E:XK):spInFresh t [.ref x,a] H Q E=(B_spInFresh t x a H Q E):=spx2 (f:=fun (x:Addr) (a:V)=>[.ref x,a]) (fun _ _ _ _ h=>by cases h;exact ⟨rfl,rfl⟩) x a
theorem l_spInFresh (t:Adr){vs:List V}{H:Hp}{Q:VK}{E:XK}(h:spInFresh t vs H Q E):vs.length=2:=spl2 h fun _ _=>rfl
theorem ok_Fresh___init__ (T:Tx K mg t):FnOk P t.w K mg base CX0 1 t.a_Fresh___init__ t.d_Fresh___init__ ["self", "axis"] (spInFresh t):=by
 refine T.F_Fresh___init__.ok c_Fresh___init__ (fun vs H Q E h=>l_spInFresh _ h) (fun cdv A outer s H vs Q E hr h=>?_)
 ·obtain ⟨x,a,rfl,dx,hx,k⟩:=h
  have c1:=T.cl_Fresh
  have n0:=T.na_Fresh_axis
  refine ⟨_,(@pss_one _ _ _ (@ps_nSetF _ _ _ _ _ _ _ _ (@pvN _ 0 _ _ (by rfl) (by trivial) (by decide) (by decide)) (@pvN _ 1 _ _ (by rfl) (by trivial) (by decide) (by decide)) rfl)),?_⟩
  rw [show start ["self", "axis"] [.ref x,a]=[some (.ref x),some (a)] from rfl]
  replace k:=fun (_:Unit)=>k
  simp! only [and_true]
  exact k () _ (fun H0 q0 q1=>q0.put q1) upd_same
abbrev B_spInSpread (t:Adr) (x:Addr) (a:V) (b:V) (H:Hp) (Q:VK) (E:XK):Prop:=∃ dx:Addr,H x=some (.ins t.a_Spread dx [])∧∀ H':Hp,(∀ H0,Ext H0 H->H0 x=none->Ext H0 H')->H' x=some (.ins t.a_Spread dx (flM 5 [a,b]))->Q .non H'
def spInSpread (t:Adr):Sp:=fun vs H Q E=>∃ (x:Addr) (a:V) (b:V),vs=[.ref x,a,b]∧(B_spInSpread t x a b H Q E)
theorem c_spInSpread (t:Adr) (x:Addr) (a:V) (b:V) (H:Hp) (Q:VK) (E:XK):spInSpread t [.ref x,a,b] H Q E=(B_spInSpread t x a b H Q E):=spx3 (f:=fun (x:Addr) (a:V) (b:V)=>[.ref x,a,b]) (fun _ _ _ _ _ _ h=>by cases h;exact ⟨rfl,rfl,rfl⟩) x a b
theorem l_spInSpread (t:Adr){vs:List V}{H:Hp}{Q:VK}{E:XK}(h:spInSpread t vs H Q E):vs.length=3:=spl3 h fun _ _ _=>rfl
theorem ok_Spread___init__ (T:Tx K mg t):FnOk P t.w K mg base CX0 1 t.a_Spread___init__ t.d_Spread___init__ ["self", "axis", "size"] (spInSpread t):=by
 refine T.F_Spread___init__.ok c_Spread___init__ (fun vs H Q E h=>l_spInSpread _ h) (fun cdv A outer s H vs Q E hr h=>?_)
 ·obtain ⟨x,a,b,rfl,dx,hx,k⟩:=h
  have c1:=T.cl_Spread
  have n0:=T.na_Spread_axis
  have n1:=T.na_Spread_size
  refine ⟨_,(@pss_cons _ _ _ _ _ (@ps_nSetF _ _ _ _ _ _ _ _ (@pvN _ 0 _ _ (by rfl) (by trivial) (by decide) (by decide)) (@pvN _ 1 _ _ (by rfl) (by trivial) (by decide) (by decide)) rfl) (@pss_one _ _ _ (@ps_nSetF _ _ _ _ _ _ _ _ (@pvN _ 0 _ _ (by rfl) (by trivial) (by decide) (by decide)) (@pvN _ 2 _ _ (by rfl) (by trivial) (by decide) (by decide)) rfl))),?_⟩
  rw [show start ["self", "axis", "size"] [.ref x,a,b]=[some (.ref x),some (a),some (b)] from rfl]
  replace k:=fun (_:Unit)=>k
  simp! only [and_true]
  have l1:=putF_le "axis" a []
  have l0:([]:List (Str × V)).length=0:=rfl
  refine ⟨(by show (_:Nat) < 1000;omega),?_⟩
  exact k () _ (fun H0 q0 q1=>q0.put q1) upd_same
abbrev B_spInCut (t:Adr) (x:Addr) (a:V) (b:V) (H:Hp) (Q:VK) (E:XK):Prop:=∃ dx:Addr,H x=some (.ins t.a_Cut dx [])∧∀ H':Hp,(∀ H0,Ext H0 H->H0 x=none->Ext H0 H')->H' x=some (.ins t.a_Cut dx (flM 6 [a,b]))->Q .non H'
def spInCut (t:Adr):Sp:=fun vs H Q E=>∃ (x:Addr) (a:V) (b:V),vs=[.ref x,a,b]∧(B_spInCut t x a b H Q E)
theorem c_spInCut (t:Adr) (x:Addr) (a:V) (b:V) (H:Hp) (Q:VK) (E:XK):spInCut t [.ref x,a,b] H Q E=(B_spInCut t x a b H Q E):=spx3 (f:=fun (x:Addr) (a:V) (b:V)=>[.ref x,a,b]) (fun _ _ _ _ _ _ h=>by cases h;exact ⟨rfl,rfl,rfl⟩) x a b
theorem l_spInCut (t:Adr){vs:List V}{H:Hp}{Q:VK}{E:XK}(h:spInCut t vs H Q E):vs.length=3:=spl3 h fun _ _ _=>rfl
theorem ok_Cut___init__ (T:Tx K mg t):FnOk P t.w K mg base CX0 1 t.a_Cut___init__ t.d_Cut___init__ ["self", "axis", "inner"] (spInCut t):=by
 refine T.F_Cut___init__.ok c_Cut___init__ (fun vs H Q E h=>l_spInCut _ h) (fun cdv A outer s H vs Q E hr h=>?_)
 ·obtain ⟨x,a,b,rfl,dx,hx,k⟩:=h
  have c1:=T.cl_Cut
  have n0:=T.na_Cut_axis
  have n1:=T.na_Cut_inner
  refine ⟨_,(@pss_cons _ _ _ _ _ (@ps_nSetF _ _ _ _ _ _ _ _ (@pvN _ 0 _ _ (by rfl) (by trivial) (by decide) (by decide)) (@pvN _ 1 _ _ (by rfl) (by trivial) (by decide) (by decide)) rfl) (@pss_one _ _ _ (@ps_nSetF _ _ _ _ _ _ _ _ (@pvN _ 0 _ _ (by rfl) (by trivial) (by decide) (by decide)) (@pvN _ 2 _ _ (by rfl) (by trivial) (by decide) (by decide)) rfl))),?_⟩
  rw [show start ["self", "axis", "inner"] [.ref x,a,b]=[some (.ref x),some (a),some (b)] from rfl]
  replace k:=fun (_:Unit)=>k
  simp! only [and_true]
  have l1:=putF_le "axis" a []
  have l0:([]:List (Str × V)).length=0:=rfl
  refine ⟨(by show (_:Nat) < 1000;omega),?_⟩
  exact k () _ (fun H0 q0 q1=>q0.put q1) upd_same
abbrev B_spInWindow (t:Adr) (x:Addr) (a:V) (b:V) (H:Hp) (Q:VK) (E:XK):Prop:=∃ dx:Addr,H x=some (.ins t.a_Window dx [])∧∀ H':Hp,(∀ H0,Ext H0 H->H0 x=none->Ext H0 H')->H' x=some (.ins t.a_Window dx (flM 7 [a,b]))->Q .non H'
def spInWindow (t:Adr):Sp:=fun vs H Q E=>∃ (x:Addr) (a:V) (b:V),vs=[.ref x,a,b]∧(B_spInWindow t x a b H Q E)
theorem c_spInWindow (t:Adr) (x:Addr) (a:V) (b:V) (H:Hp) (Q:VK) (E:XK):spInWindow t [.ref x,a,b] H Q E=(B_spInWindow t x a b H Q E):=spx3 (f:=fun (x:Addr) (a:V) (b:V)=>[.ref x,a,b]) (fun _ _ _ _ _ _ h=>by cases h;exact ⟨rfl,rfl,rfl⟩) x a b
theorem l_spInWindow (t:Adr){vs:List V}{H:Hp}{Q:VK}{E:XK}(h:spInWindow t vs H Q E):vs.length=3:=spl3 h fun _ _ _=>rfl
theorem ok_Window___init__ (T:Tx K mg t):FnOk P t.w K mg base CX0 1 t.a_Window___init__ t.d_Window___init__ ["self", "axis", "size"] (spInWindow t):=by
 refine T.F_Window___init__.ok c_Window___init__ (fun vs H Q E h=>l_spInWindow _ h) (fun cdv A outer s H vs Q E hr h=>?_)
 ·obtain ⟨x,a,b,rfl,dx,hx,k⟩:=h
  have c1:=T.cl_Window
  have n0:=T.na_Window_axis
  have n1:=T.na_Window_size
  refine ⟨_,(@pss_cons _ _ _ _ _ (@ps_nSetF _ _ _ _ _ _ _ _ (@pvN _ 0 _ _ (by rfl) (by trivial) (by decide) (by decide)) (@pvN _ 1 _ _ (by rfl) (by trivial) (by decide) (by decide)) rfl) (@pss_one _ _ _ (@ps_nSetF _ _ _ _ _ _ _ _ (@pvN _ 0 _ _ (by rfl) (by trivial) (by decide) (by decide)) (@pvN _ 2 _ _ (by rfl) (by trivial) (by decide) (by decide)) rfl))),?_⟩
  rw [show start ["self", "axis", "size"] [.ref x,a,b]=[some (.ref x),some (a),some (b)] from rfl]
  replace k:=fun (_:Unit)=>k
  simp! only [and_true]
  have l1:=putF_le "axis" a []
  have l0:([]:List (Str × V)).length=0:=rfl
  refine ⟨(by show (_:Nat) < 1000;omega),?_⟩
  exact k () _ (fun H0 q0 q1=>q0.put q1) upd_same
abbrev B_spInDiagonal (t:Adr) (x:Addr) (a:V) (b:V) (H:Hp) (Q:VK) (E:XK):Prop:=∃ dx:Addr,H x=some (.ins t.a_Diagonal dx [])∧∀ H':Hp,(∀ H0,Ext H0 H->H0 x=none->Ext H0 H')->H' x=some (.ins t.a_Diagonal dx (flM 8 [a,b]))->Q .non H'
def spInDiagonal (t:Adr):Sp:=fun vs H Q E=>∃ (x:Addr) (a:V) (b:V),vs=[.ref x,a,b]∧(B_spInDiagonal t x a b H Q E)
theorem c_spInDiagonal (t:Adr) (x:Addr) (a:V) (b:V) (H:Hp) (Q:VK) (E:XK):spInDiagonal t [.ref x,a,b] H Q E=(B_spInDiagonal t x a b H Q E):=spx3 (f:=fun (x:Addr) (a:V) (b:V)=>[.ref x,a,b]) (fun _ _ _ _ _ _ h=>by cases h;exact ⟨rfl,rfl,rfl⟩) x a b
theorem l_spInDiagonal (t:Adr){vs:List V}{H:Hp}{Q:VK}{E:XK}(h:spInDiagonal t vs H Q E):vs.length=3:=spl3 h fun _ _ _=>rfl
theorem ok_Diagonal___init__ (T:Tx K mg t):FnOk P t.w K mg base CX0 1 t.a_Diagonal___init__ t.d_Diagonal___init__ ["self", "one", "other"] (spInDiagonal t):=by
 refine T.F_Diagonal___init__.ok c_Diagonal___init__ (fun vs H Q E h=>l_spInDiagonal _ h) (fun cdv A outer s H vs Q E hr h=>?_)
 ·obtain ⟨x,a,b,rfl,dx,hx,k⟩:=h
  have c1:=T.cl_Diagonal
  have n0:=T.na_Diagonal_one
  have n1:=T.na_Diagonal_other
  refine ⟨_,(@pss_cons _ _ _ _ _ (@ps_nSetF _ _ _ _ _ _ _ _ (@pvN _ 0 _ _ (by rfl) (by trivial) (by decide) (by decide)) (@pvN _ 1 _ _ (by rfl) (by trivial) (by decide) (by decide)) rfl) (@pss_one _ _ _ (@ps_nSetF _ _ _ _ _ _ _ _ (@pvN _ 0 _ _ (by rfl) (by trivial) (by decide) (by decide)) (@pvN _ 2 _ _ (by rfl) (by trivial) (by decide) (by decide)) rfl))),?_⟩
  rw [show start ["self", "one", "other"] [.ref x,a,b]=[some (.ref x),some (a),some (b)] from rfl]
  replace k:=fun (_:Unit)=>k
  simp! only [and_true]
  have l1:=putF_le "one" a []
  have l0:([]:List (Str × V)).length=0:=rfl
  refine ⟨(by show (_:Nat) < 1000;omega),?_⟩
  exact k () _ (fun H0 q0 q1=>q0.put q1) upd_same
abbrev B_spInTurn (t:Adr) (x:Addr) (l:Addr) (H:Hp) (Q:VK) (E:XK):Prop:=∃ (dx:Addr) (ys:List V),H x=some (.ins t.a_Turn dx [])∧H l=some (.lst ys)∧ys.length≤5000∧∀ (H':Hp) (D:Addr),(∀ H0,Ext H0 H->H0 x=none->Ext H0 H')->H D=none->H' x=some (.ins t.a_Turn dx [("order",.ref D)])->H' D=some (.lst ys)->Q .non H'
def spInTurn (t:Adr):Sp:=fun vs H Q E=>∃ (x:Addr) (l:Addr),vs=[.ref x,.ref l]∧(B_spInTurn t x l H Q E)
theorem c_spInTurn (t:Adr) (x:Addr) (l:Addr) (H:Hp) (Q:VK) (E:XK):spInTurn t [.ref x,.ref l] H Q E=(B_spInTurn t x l H Q E):=spx2 (f:=fun (x:Addr) (l:Addr)=>[.ref x,.ref l]) (fun _ _ _ _ h=>by cases h;exact ⟨rfl,rfl⟩) x l
theorem l_spInTurn (t:Adr){vs:List V}{H:Hp}{Q:VK}{E:XK}(h:spInTurn t vs H Q E):vs.length=2:=spl2 h fun _ _=>rfl
theorem ok_Turn___init__ (T:Tx K mg t):FnOk P t.w K mg base CX0 1 t.a_Turn___init__ t.d_Turn___init__ ["self", "order"] (spInTurn t):=by
 refine T.F_Turn___init__.ok c_Turn___init__ (fun vs H Q E h=>l_spInTurn _ h) (fun cdv A outer s H vs Q E hr h=>?_)
 ·obtain ⟨x,l,rfl,dx,ys,hx,hl,h5,k⟩:=h
  have c1:=T.cl_Turn
  have n1:=T.na_Turn_order
  refine ⟨_,(@pss_one _ _ _ (@ps_nSetF _ _ _ _ _ _ _ _ (@pvN _ 0 _ _ (by rfl) (by trivial) (by decide) (by decide)) (@pe_callTy _ _ _ _ _ _ _ _ _ call_nList (by rfl) T.z_list (by decide +kernel) (@pa_c _ _ _ _ _ (@pvN _ 1 _ _ (by rfl) (by trivial) (by decide) (by decide)) (@pa_nil _) (by rfl)) (by decide) (by decide) (by rfl) (by rfl)) rfl)),?_⟩
  rw [show start ["self", "order"] [.ref x,.ref l]=[some (.ref x),some (.ref l)] from rfl]
  replace k:=fun (_:Unit)=>k
  simp! only [and_true]
  intro D H1 hD e1 h1
  have hx1:=e1.at hx
  have hDx:D ≠ x:=fun z=>by rw [z,hx] at hD;cases hD
  simp! only [and_true]
  exact k () _ D (fun H0 q0 q1=>(q0.trans e1).put q1) hD upd_same (by rw [upd_ne hDx];exact h1)
abbrev B_spInChain (t:Adr) (x:Addr) (l:Addr) (H:Hp) (Q:VK) (E:XK):Prop:=∃ (dx:Addr) (ys:List V),H x=some (.ins t.a_Chain dx [])∧H l=some (.lst ys)∧ys.length≤5000∧∀ (H':Hp) (D:Addr),(∀ H0,Ext H0 H->H0 x=none->Ext H0 H')->H D=none->H' x=some (.ins t.a_Chain dx [("moves",.ref D)])->H' D=some (.lst ys)->Q .non H'
def spInChain (t:Adr):Sp:=fun vs H Q E=>∃ (x:Addr) (l:Addr),vs=[.ref x,.ref l]∧(B_spInChain t x l H Q E)
theorem c_spInChain (t:Adr) (x:Addr) (l:Addr) (H:Hp) (Q:VK) (E:XK):spInChain t [.ref x,.ref l] H Q E=(B_spInChain t x l H Q E):=spx2 (f:=fun (x:Addr) (l:Addr)=>[.ref x,.ref l]) (fun _ _ _ _ h=>by cases h;exact ⟨rfl,rfl⟩) x l
theorem l_spInChain (t:Adr){vs:List V}{H:Hp}{Q:VK}{E:XK}(h:spInChain t vs H Q E):vs.length=2:=spl2 h fun _ _=>rfl
theorem ok_Chain___init__ (T:Tx K mg t):FnOk P t.w K mg base CX0 1 t.a_Chain___init__ t.d_Chain___init__ ["self", "moves"] (spInChain t):=by
 refine T.F_Chain___init__.ok c_Chain___init__ (fun vs H Q E h=>l_spInChain _ h) (fun cdv A outer s H vs Q E hr h=>?_)
 ·obtain ⟨x,l,rfl,dx,ys,hx,hl,h5,k⟩:=h
  have c1:=T.cl_Chain
  have n1:=T.na_Chain_moves
  refine ⟨_,(@pss_one _ _ _ (@ps_nSetF _ _ _ _ _ _ _ _ (@pvN _ 0 _ _ (by rfl) (by trivial) (by decide) (by decide)) (@pe_callTy _ _ _ _ _ _ _ _ _ call_nList (by rfl) T.z_list (by decide +kernel) (@pa_c _ _ _ _ _ (@pvN _ 1 _ _ (by rfl) (by trivial) (by decide) (by decide)) (@pa_nil _) (by rfl)) (by decide) (by decide) (by rfl) (by rfl)) rfl)),?_⟩
  rw [show start ["self", "moves"] [.ref x,.ref l]=[some (.ref x),some (.ref l)] from rfl]
  replace k:=fun (_:Unit)=>k
  simp! only [and_true]
  intro D H1 hD e1 h1
  have hx1:=e1.at hx
  have hDx:D ≠ x:=fun z=>by rw [z,hx] at hD;cases hD
  simp! only [and_true]
  exact k () _ D (fun H0 q0 q1=>(q0.trans e1).put q1) hD upd_same (by rw [upd_ne hDx];exact h1)
abbrev B_spTld (t:Adr) (i:Nat) (v:Addr) (H:Hp) (Q:VK) (E:XK):Prop:=∃ (dx:Addr) (ys:List V),H v=some (.ins (clM t i) dx (flM i ys))∧ys.length=cnM i∧∀ (r:Addr) (H':Hp),Ext H H'->H' r=some (.tup (.str (wdM i)::ys))->Q (.ref r) H'
def spTld (t:Adr) (i:Nat):Sp:=fun vs H Q E=>∃ (v:Addr),vs=[.ref v]∧(B_spTld t i v H Q E)
theorem l_spTld (t:Adr) (i:Nat){vs:List V}{H:Hp}{Q:VK}{E:XK}(h:spTld t i vs H Q E):vs.length=1:=spl1 h fun _=>rfl
theorem ok_Move_told (T:Tx K mg t):FnOk P t.w K mg base CX0 1 t.a_Move_told t.d_Move_told ["self"] (spTld t 0):=by
 refine T.F_Move_told.ok c_Move_told (fun vs H Q E h=>l_spTld _ _ h) (fun cdv A outer s H vs Q E hr h=>?_)
 ·obtain ⟨v,rfl,dx,ys,hv,hl,k⟩:=h
  obtain rfl:ys=[]:=by
   match ys,hl with
   | [],_=>exact rfl
  have hv':H v=some (.ins t.a_Move dx []):=hv
  clear hv hl
  have c9:=T.cl_Move
  refine ⟨_,(@pss_one _ _ _ (@ps_ret _ _ _ _ (@pe_qTup _ _ _ _ _ (@pa_c _ _ _ _ _ (@pe_str _ _ _ _) (@pa_nil _) (by rfl))))),?_⟩
  rw [show start ["self"] [.ref v]=[some (.ref v)] from rfl]
  replace k:=fun (_:Unit)=>k
  simp! only [and_true]
  intro r H1 _ e1 h1
  exact k () r H1 e1 h1
theorem ok_Slice_told (T:Tx K mg t):FnOk P t.w K mg base CX0 1 t.a_Slice_told t.d_Slice_told ["self"] (spTld t 1):=by
 refine T.F_Slice_told.ok c_Slice_told (fun vs H Q E h=>l_spTld _ _ h) (fun cdv A outer s H vs Q E hr h=>?_)
 ·obtain ⟨v,rfl,dx,ys,hv,hl,k⟩:=h
  obtain ⟨a,b,c,d,rfl⟩:∃ a b c d,ys=[a,b,c,d]:=by
   match ys,hl with
   | [a,b,c,d],_=>exact ⟨a,b,c,d,rfl⟩
  have hv':H v=some (.ins t.a_Slice dx [("axis",a),("start",b),("stop",c),("step",d)]):=hv
  clear hv hl
  have c9:=T.cl_Slice
  have n0:=T.na_Slice_axis
  have l0:([("axis",a),("start",b),("stop",c),("step",d)]:List (Str × V)).lookup (Str.ofString "axis")=some a:=by rfl
  have n1:=T.na_Slice_start
  have l1:([("axis",a),("start",b),("stop",c),("step",d)]:List (Str × V)).lookup (Str.ofString "start")=some b:=by rfl
  have n2:=T.na_Slice_stop
  have l2:([("axis",a),("start",b),("stop",c),("step",d)]:List (Str × V)).lookup (Str.ofString "stop")=some c:=by rfl
  have n3:=T.na_Slice_step
  have l3:([("axis",a),("start",b),("stop",c),("step",d)]:List (Str × V)).lookup (Str.ofString "step")=some d:=by rfl
  refine ⟨_,(@pss_one _ _ _ (@ps_ret _ _ _ _ (@pe_qTup _ _ _ _ _ (@pa_c _ _ _ _ _ (@pe_str _ _ _ _) (@pa_c _ _ _ _ _ (@pe_nFld _ _ _ _ _ (@pvN _ 0 _ _ (by rfl) (by trivial) (by decide) (by decide)) rfl) (@pa_c _ _ _ _ _ (@pe_nFld _ _ _ _ _ (@pvN _ 0 _ _ (by rfl) (by trivial) (by decide) (by decide)) rfl) (@pa_c _ _ _ _ _ (@pe_nFld _ _ _ _ _ (@pvN _ 0 _ _ (by rfl) (by trivial) (by decide) (by decide)) rfl) (@pa_c _ _ _ _ _ (@pe_nFld _ _ _ _ _ (@pvN _ 0 _ _ (by rfl) (by trivial) (by decide) (by decide)) rfl) (@pa_nil _) (by rfl)) (by rfl)) (by rfl)) (by rfl)) (by rfl))))),?_⟩
  rw [show start ["self"] [.ref v]=[some (.ref v)] from rfl]
  replace k:=fun (_:Unit)=>k
  simp! only [and_true]
  intro r H1 _ e1 h1
  exact k () r H1 e1 h1
theorem ok_Pick_told (T:Tx K mg t):FnOk P t.w K mg base CX0 1 t.a_Pick_told t.d_Pick_told ["self"] (spTld t 2):=by
 refine T.F_Pick_told.ok c_Pick_told (fun vs H Q E h=>l_spTld _ _ h) (fun cdv A outer s H vs Q E hr h=>?_)
 ·obtain ⟨v,rfl,dx,ys,hv,hl,k⟩:=h
  obtain ⟨a,b,rfl⟩:∃ a b,ys=[a,b]:=by
   match ys,hl with
   | [a,b],_=>exact ⟨a,b,rfl⟩
  have hv':H v=some (.ins t.a_Pick dx [("axis",a),("at",b)]):=hv
  clear hv hl
  have c9:=T.cl_Pick
  have n0:=T.na_Pick_axis
  have l0:([("axis",a),("at",b)]:List (Str × V)).lookup (Str.ofString "axis")=some a:=by rfl
  have n1:=T.na_Pick_at
  have l1:([("axis",a),("at",b)]:List (Str × V)).lookup (Str.ofString "at")=some b:=by rfl
  refine ⟨_,(@pss_one _ _ _ (@ps_ret _ _ _ _ (@pe_qTup _ _ _ _ _ (@pa_c _ _ _ _ _ (@pe_str _ _ _ _) (@pa_c _ _ _ _ _ (@pe_nFld _ _ _ _ _ (@pvN _ 0 _ _ (by rfl) (by trivial) (by decide) (by decide)) rfl) (@pa_c _ _ _ _ _ (@pe_nFld _ _ _ _ _ (@pvN _ 0 _ _ (by rfl) (by trivial) (by decide) (by decide)) rfl) (@pa_nil _) (by rfl)) (by rfl)) (by rfl))))),?_⟩
  rw [show start ["self"] [.ref v]=[some (.ref v)] from rfl]
  replace k:=fun (_:Unit)=>k
  simp! only [and_true]
  intro r H1 _ e1 h1
  exact k () r H1 e1 h1
theorem ok_Fresh_told (T:Tx K mg t):FnOk P t.w K mg base CX0 1 t.a_Fresh_told t.d_Fresh_told ["self"] (spTld t 4):=by
 refine T.F_Fresh_told.ok c_Fresh_told (fun vs H Q E h=>l_spTld _ _ h) (fun cdv A outer s H vs Q E hr h=>?_)
 ·obtain ⟨v,rfl,dx,ys,hv,hl,k⟩:=h
  obtain ⟨a,rfl⟩:∃ a,ys=[a]:=by
   match ys,hl with
   | [a],_=>exact ⟨a,rfl⟩
  have hv':H v=some (.ins t.a_Fresh dx [("axis",a)]):=hv
  clear hv hl
  have c9:=T.cl_Fresh
  have n0:=T.na_Fresh_axis
  have l0:([("axis",a)]:List (Str × V)).lookup (Str.ofString "axis")=some a:=by rfl
  refine ⟨_,(@pss_one _ _ _ (@ps_ret _ _ _ _ (@pe_qTup _ _ _ _ _ (@pa_c _ _ _ _ _ (@pe_str _ _ _ _) (@pa_c _ _ _ _ _ (@pe_nFld _ _ _ _ _ (@pvN _ 0 _ _ (by rfl) (by trivial) (by decide) (by decide)) rfl) (@pa_nil _) (by rfl)) (by rfl))))),?_⟩
  rw [show start ["self"] [.ref v]=[some (.ref v)] from rfl]
  replace k:=fun (_:Unit)=>k
  simp! only [and_true]
  intro r H1 _ e1 h1
  exact k () r H1 e1 h1
theorem ok_Spread_told (T:Tx K mg t):FnOk P t.w K mg base CX0 1 t.a_Spread_told t.d_Spread_told ["self"] (spTld t 5):=by
 refine T.F_Spread_told.ok c_Spread_told (fun vs H Q E h=>l_spTld _ _ h) (fun cdv A outer s H vs Q E hr h=>?_)
 ·obtain ⟨v,rfl,dx,ys,hv,hl,k⟩:=h
  obtain ⟨a,b,rfl⟩:∃ a b,ys=[a,b]:=by
   match ys,hl with
   | [a,b],_=>exact ⟨a,b,rfl⟩
  have hv':H v=some (.ins t.a_Spread dx [("axis",a),("size",b)]):=hv
  clear hv hl
  have c9:=T.cl_Spread
  have n0:=T.na_Spread_axis
  have l0:([("axis",a),("size",b)]:List (Str × V)).lookup (Str.ofString "axis")=some a:=by rfl
  have n1:=T.na_Spread_size
  have l1:([("axis",a),("size",b)]:List (Str × V)).lookup (Str.ofString "size")=some b:=by rfl
  refine ⟨_,(@pss_one _ _ _ (@ps_ret _ _ _ _ (@pe_qTup _ _ _ _ _ (@pa_c _ _ _ _ _ (@pe_str _ _ _ _) (@pa_c _ _ _ _ _ (@pe_nFld _ _ _ _ _ (@pvN _ 0 _ _ (by rfl) (by trivial) (by decide) (by decide)) rfl) (@pa_c _ _ _ _ _ (@pe_nFld _ _ _ _ _ (@pvN _ 0 _ _ (by rfl) (by trivial) (by decide) (by decide)) rfl) (@pa_nil _) (by rfl)) (by rfl)) (by rfl))))),?_⟩
  rw [show start ["self"] [.ref v]=[some (.ref v)] from rfl]
  replace k:=fun (_:Unit)=>k
  simp! only [and_true]
  intro r H1 _ e1 h1
  exact k () r H1 e1 h1
theorem ok_Cut_told (T:Tx K mg t):FnOk P t.w K mg base CX0 1 t.a_Cut_told t.d_Cut_told ["self"] (spTld t 6):=by
 refine T.F_Cut_told.ok c_Cut_told (fun vs H Q E h=>l_spTld _ _ h) (fun cdv A outer s H vs Q E hr h=>?_)
 ·obtain ⟨v,rfl,dx,ys,hv,hl,k⟩:=h
  obtain ⟨a,b,rfl⟩:∃ a b,ys=[a,b]:=by
   match ys,hl with
   | [a,b],_=>exact ⟨a,b,rfl⟩
  have hv':H v=some (.ins t.a_Cut dx [("axis",a),("inner",b)]):=hv
  clear hv hl
  have c9:=T.cl_Cut
  have n0:=T.na_Cut_axis
  have l0:([("axis",a),("inner",b)]:List (Str × V)).lookup (Str.ofString "axis")=some a:=by rfl
  have n1:=T.na_Cut_inner
  have l1:([("axis",a),("inner",b)]:List (Str × V)).lookup (Str.ofString "inner")=some b:=by rfl
  refine ⟨_,(@pss_one _ _ _ (@ps_ret _ _ _ _ (@pe_qTup _ _ _ _ _ (@pa_c _ _ _ _ _ (@pe_str _ _ _ _) (@pa_c _ _ _ _ _ (@pe_nFld _ _ _ _ _ (@pvN _ 0 _ _ (by rfl) (by trivial) (by decide) (by decide)) rfl) (@pa_c _ _ _ _ _ (@pe_nFld _ _ _ _ _ (@pvN _ 0 _ _ (by rfl) (by trivial) (by decide) (by decide)) rfl) (@pa_nil _) (by rfl)) (by rfl)) (by rfl))))),?_⟩
  rw [show start ["self"] [.ref v]=[some (.ref v)] from rfl]
  replace k:=fun (_:Unit)=>k
  simp! only [and_true]
  intro r H1 _ e1 h1
  exact k () r H1 e1 h1
theorem ok_Window_told (T:Tx K mg t):FnOk P t.w K mg base CX0 1 t.a_Window_told t.d_Window_told ["self"] (spTld t 7):=by
 refine T.F_Window_told.ok c_Window_told (fun vs H Q E h=>l_spTld _ _ h) (fun cdv A outer s H vs Q E hr h=>?_)
 ·obtain ⟨v,rfl,dx,ys,hv,hl,k⟩:=h
  obtain ⟨a,b,rfl⟩:∃ a b,ys=[a,b]:=by
   match ys,hl with
   | [a,b],_=>exact ⟨a,b,rfl⟩
  have hv':H v=some (.ins t.a_Window dx [("axis",a),("size",b)]):=hv
  clear hv hl
  have c9:=T.cl_Window
  have n0:=T.na_Window_axis
  have l0:([("axis",a),("size",b)]:List (Str × V)).lookup (Str.ofString "axis")=some a:=by rfl
  have n1:=T.na_Window_size
  have l1:([("axis",a),("size",b)]:List (Str × V)).lookup (Str.ofString "size")=some b:=by rfl
  refine ⟨_,(@pss_one _ _ _ (@ps_ret _ _ _ _ (@pe_qTup _ _ _ _ _ (@pa_c _ _ _ _ _ (@pe_str _ _ _ _) (@pa_c _ _ _ _ _ (@pe_nFld _ _ _ _ _ (@pvN _ 0 _ _ (by rfl) (by trivial) (by decide) (by decide)) rfl) (@pa_c _ _ _ _ _ (@pe_nFld _ _ _ _ _ (@pvN _ 0 _ _ (by rfl) (by trivial) (by decide) (by decide)) rfl) (@pa_nil _) (by rfl)) (by rfl)) (by rfl))))),?_⟩
  rw [show start ["self"] [.ref v]=[some (.ref v)] from rfl]
  replace k:=fun (_:Unit)=>k
  simp! only [and_true]
  intro r H1 _ e1 h1
  exact k () r H1 e1 h1
theorem ok_Diagonal_told (T:Tx K mg t):FnOk P t.w K mg base CX0 1 t.a_Diagonal_told t.d_Diagonal_told ["self"] (spTld t 8):=by
 refine T.F_Diagonal_told.ok c_Diagonal_told (fun vs H Q E h=>l_spTld _ _ h) (fun cdv A outer s H vs Q E hr h=>?_)
 ·obtain ⟨v,rfl,dx,ys,hv,hl,k⟩:=h
  obtain ⟨a,b,rfl⟩:∃ a b,ys=[a,b]:=by
   match ys,hl with
   | [a,b],_=>exact ⟨a,b,rfl⟩
  have hv':H v=some (.ins t.a_Diagonal dx [("one",a),("other",b)]):=hv
  clear hv hl
  have c9:=T.cl_Diagonal
  have n0:=T.na_Diagonal_one
  have l0:([("one",a),("other",b)]:List (Str × V)).lookup (Str.ofString "one")=some a:=by rfl
  have n1:=T.na_Diagonal_other
  have l1:([("one",a),("other",b)]:List (Str × V)).lookup (Str.ofString "other")=some b:=by rfl
  refine ⟨_,(@pss_one _ _ _ (@ps_ret _ _ _ _ (@pe_qTup _ _ _ _ _ (@pa_c _ _ _ _ _ (@pe_str _ _ _ _) (@pa_c _ _ _ _ _ (@pe_nFld _ _ _ _ _ (@pvN _ 0 _ _ (by rfl) (by trivial) (by decide) (by decide)) rfl) (@pa_c _ _ _ _ _ (@pe_nFld _ _ _ _ _ (@pvN _ 0 _ _ (by rfl) (by trivial) (by decide) (by decide)) rfl) (@pa_nil _) (by rfl)) (by rfl)) (by rfl))))),?_⟩
  rw [show start ["self"] [.ref v]=[some (.ref v)] from rfl]
  replace k:=fun (_:Unit)=>k
  simp! only [and_true]
  intro r H1 _ e1 h1
  exact k () r H1 e1 h1
abbrev B_spTldT (t:Adr) (v:Addr) (H:Hp) (Q:VK) (E:XK):Prop:=∃ (dx l:Addr) (ys:List V),H v=some (.ins t.a_Turn dx [("order",.ref l)])∧H l=some (.lst ys)∧ys.length≤5000∧∀ (r D:Addr) (H':Hp),Ext H H'->H D=none->H' r=some (.tup [.str "turn",.ref D])->H' D=some (.lst ys)->Q (.ref r) H'
def spTldT (t:Adr):Sp:=fun vs H Q E=>∃ (v:Addr),vs=[.ref v]∧(B_spTldT t v H Q E)
theorem l_spTldT (t:Adr){vs:List V}{H:Hp}{Q:VK}{E:XK}(h:spTldT t vs H Q E):vs.length=1:=spl1 h fun _=>rfl
theorem ok_Turn_told (T:Tx K mg t):FnOk P t.w K mg base CX0 1 t.a_Turn_told t.d_Turn_told ["self"] (spTldT t):=by
 refine T.F_Turn_told.ok c_Turn_told (fun vs H Q E h=>l_spTldT _ h) (fun cdv A outer s H vs Q E hr h=>?_)
 ·obtain ⟨v,rfl,dx,l,ys,hv,hl,h5,k⟩:=h
  have c9:=T.cl_Turn
  have n0:=T.na_Turn_order
  have l0:([("order",V.ref l)]:List (Str × V)).lookup (Str.ofString "order")=some (V.ref l):=by rfl
  refine ⟨_,(@pss_one _ _ _ (@ps_ret _ _ _ _ (@pe_qTup _ _ _ _ _ (@pa_c _ _ _ _ _ (@pe_str _ _ _ _) (@pa_c _ _ _ _ _ (@pe_callTy _ _ _ _ _ _ _ _ _ call_nList (by rfl) T.z_list (by decide +kernel) (@pa_c _ _ _ _ _ (@pe_nFld _ _ _ _ _ (@pvN _ 0 _ _ (by rfl) (by trivial) (by decide) (by decide)) rfl) (@pa_nil _) (by rfl)) (by decide) (by decide) (by rfl) (by rfl)) (@pa_nil _) (by rfl)) (by rfl))))),?_⟩
  rw [show start ["self"] [.ref v]=[some (.ref v)] from rfl]
  replace k:=fun (_:Unit)=>k
  simp! only [and_true]
  intro D H1 hD e1 h1
  simp! only [and_true]
  intro r H2 _ e2 h2
  exact k () r D H2 (e1.trans e2) hD h2 (e2.at h1)
def spTd (t:Adr):Nat->Sp
 | 3=>spTldT t
 | i=>spTld t i
theorem spTd_ne {t:Adr}{i:Nat}(h:i ≠ 3):spTd t i=spTld t i:=by
 unfold spTd
 split
 ·exact absurd rfl h
 ·rfl
theorem MDt {P:Program}{K:PySem.W.Frag}{mg:Str->Option Value}{base:Heap}{t:Adr}(T:Tx K mg t):∀ i,i < 9->MD P t.w K mg base CX0 1 "told" (clM t i) (spTd t i)
 | 0,_=>⟨T.cl_Move,_,_,_,T.mt_Move_told,ok_Move_told T,T.b_Move_told⟩
 | 1,_=>⟨T.cl_Slice,_,_,_,T.mt_Slice_told,ok_Slice_told T,T.b_Slice_told⟩
 | 2,_=>⟨T.cl_Pick,_,_,_,T.mt_Pick_told,ok_Pick_told T,T.b_Pick_told⟩
 | 3,_=>⟨T.cl_Turn,_,_,_,T.mt_Turn_told,ok_Turn_told T,T.b_Turn_told⟩
 | 4,_=>⟨T.cl_Fresh,_,_,_,T.mt_Fresh_told,ok_Fresh_told T,T.b_Fresh_told⟩
 | 5,_=>⟨T.cl_Spread,_,_,_,T.mt_Spread_told,ok_Spread_told T,T.b_Spread_told⟩
 | 6,_=>⟨T.cl_Cut,_,_,_,T.mt_Cut_told,ok_Cut_told T,T.b_Cut_told⟩
 | 7,_=>⟨T.cl_Window,_,_,_,T.mt_Window_told,ok_Window_told T,T.b_Window_told⟩
 | 8,_=>⟨T.cl_Diagonal,_,_,_,T.mt_Diagonal_told,ok_Diagonal_told T,T.b_Diagonal_told⟩
 | n+9,h=>absurd h (by omega)
theorem fl_no:∀ {i:Nat}{ys:List V},i < 9->i ≠ 3->ys.length=cnM i->(flM i ys).lookup (Str.ofString "told")=none
 | 0,_,_,_,_=>rfl
 | 1,[_,_,_,_],_,_,_=>by rfl
 | 2,[_,_],_,_,_=>by rfl
 | 3,_,_,h,_=>absurd rfl h
 | 4,[_],_,_,_=>by rfl
 | 5,[_,_],_,_,_=>by rfl
 | 6,[_,_],_,_,_=>by rfl
 | 7,[_,_],_,_,_=>by rfl
 | 8,[_,_],_,_,_=>by rfl
 | n+9,_,h,_,_=>absurd h (by omega)
theorem use_told {t:Adr}{F H:Hp}{v:Addr}{x:Tl}{E:XK}{Q:VK}(h:MvF t F H v x) (ok:TlOk x) (q:∀ (r:V) (H':Hp),Ext H H'->TlF H H' r x->Q r H'):kMethD 9 (clM t) "told" (spTd t) E Q (.ref v) H:=by
 rcases h with ⟨h1,dx,h2⟩|⟨h1,dx,l,h2,h3,h4⟩
 ·have hl:(x.2.map oV).length=cnM x.1:=by rw [List.length_map];exact ok.n h1
  refine ⟨v,x.1,dx,_,rfl,ok.k,h2,fl_no ok.k h1 hl,?_⟩
  rw [spTd_ne h1]
  exact ⟨v,rfl,dx,_,h2,hl,fun r H' e hr=>q _ H' e ⟨r,rfl,.inl ⟨h1,hr⟩⟩⟩
 ·refine ⟨v,3,dx,_,rfl,by decide,h2,by rfl,?_⟩
  exact ⟨v,rfl,dx,l,_,h2,h4,by rw [List.length_map];have:=ok.m;omega,fun r D H' e hD hr hd=>q _ H' e ⟨r,rfl,.inr ⟨h1,D,hr,hD,hd⟩⟩⟩
theorem filt {α:Type}(l:List α):l.filter (fun _=>true)=l:=List.filter_eq_self.mpr fun _ _=>rfl
def spRT  : Sp:=fun vs H Q E=>∃ (b:Bool),vs=[.bl b]∧(b=true∧Q .non H)
theorem c_spRT  (b:Bool) (H:Hp) (Q:VK) (E:XK):spRT  [.bl b] H Q E=(b=true∧Q .non H):=spx1 (f:=fun (b:Bool)=>[.bl b]) (fun _ _ h=>by cases h;exact rfl) b
theorem l_spRT  {vs:List V}{H:Hp}{Q:VK}{E:XK}(h:spRT  vs H Q E):vs.length=1:=spl1 h fun _=>rfl
theorem ok_refuse_told (T:Tx K mg t):FnOk P t.w K mg base CX0 1 t.a_refuse_told t.d_refuse_told ["good"] spRT:=by
 refine T.F_refuse_told.ok c_refuse_told (fun vs H Q E h=>l_spRT h) (fun cdv A outer s H vs Q E hr h=>?_)
 ·obtain ⟨b,rfl,rfl,k⟩:=h
  refine ⟨_,(@pss_one _ _ _ (@ps_if _ _ _ _ _ _ _ _ (@pt_not _ _ _ _ (@pt_valN _ _ _ (@pvN _ 0 _ _ (by rfl) (by trivial) (by decide) (by decide)) (by intros;rfl))) (@pss_one _ _ _ (@ps_never _ _)) (@pss_nil _))),?_⟩
  rw [show start ["good"] [.bl true]=[some (.bl true)] from rfl]
  simp! only [and_true]
theorem use_dropT {a:Addr}{xs:List V}{H:Hp}{Q:VK}(k:Nat) (hk:0 < k) (hl:k≤xs.length) (h:H a=some (.tup xs)) (q:newK (.tup (xs.drop k)) H Q):nSlU (.ref a) (some (k:Int)) none H Q:=by
 show optK (tupAt H a) (kNSU a (some (k:Int)) none H Q)
 rw [tupAt,h]
 show kNSU a (some (k:Int)) none H Q xs
 refine ⟨fun hw=>?_,fun hw=>?_⟩
 ·have h1:=hw.1
  rw [HT.sIx_nat] at h1
  omega
 ·rw [cut_some xs k (by omega),Int.toNat_natCast]
  exact q
abbrev B_spNumIn  (p:Addr) (m:Int) (H:Hp) (Q:VK) (E:XK):Prop:=∃ (x:V) (ns:List Int),H p=some (.tup (x::ns.map V.int))∧m=(ns.length:Int)∧ns.length≤8∧∀ (r:Addr) (H':Hp),Ext H H'->H' r=some (.tup (ns.map V.int))->Q (.ref r) H'
def spNumIn  : Sp:=fun vs H Q E=>∃ (p:Addr) (m:Int),vs=[.ref p,.int m]∧(B_spNumIn  p m H Q E)
theorem c_spNumIn  (p:Addr) (m:Int) (H:Hp) (Q:VK) (E:XK):spNumIn  [.ref p,.int m] H Q E=(B_spNumIn  p m H Q E):=spx2 (f:=fun (p:Addr) (m:Int)=>[.ref p,.int m]) (fun _ _ _ _ h=>by cases h;exact ⟨rfl,rfl⟩) p m
theorem l_spNumIn  {vs:List V}{H:Hp}{Q:VK}{E:XK}(h:spNumIn  vs H Q E):vs.length=2:=spl2 h fun _ _=>rfl
theorem ok_numbers_in (T:Tx K mg t):FnOk P t.w K mg base CX0 2 t.a_numbers_in t.d_numbers_in ["told", "many"] spNumIn:=by
 have G_refuse_told:=ok_refuse_told (P:=P) (base:=base) T
 have G_is_whole:=ok_is_whole (P:=P) (base:=base) T
 refine T.F_numbers_in.ok c_numbers_in (fun vs H Q E h=>l_spNumIn h) (fun cdv A outer s H vs Q E hr h=>?_)
 ·obtain ⟨p,m,rfl,x,ns,hp,rfl,h8,k⟩:=h
  refine ⟨_,(@pss_cons _ _ _ _ _ (@ps_expr _ _ _ _ (@pe_call _ _ _ _ _ _ _ _ _ _ _ _ _ _ _ _ G_refuse_told (hr.mono (by decide)) (by rfl) T.m_refuse_told T.F_refuse_told.kp T.b_refuse_told .nil pass0 (@pa_c _ _ _ _ _ (@pe_andN _ _ _ _ _ _ _ (@pe_cmpR _ _ _ _ _ _ _ _ (op_qEq hr.units) (@pe_callB _ _ _ _ _ _ _ ("len") _ call_qLen (by rfl) T.z_len (by decide +kernel) (@pa_c _ _ _ _ _ (@pvN _ 0 _ _ (by rfl) (by trivial) (by decide) (by decide)) (@pa_nil _) (by rfl)) (by decide) (by decide) (by rfl) (by rfl)) (@pe_op _ _ _ _ _ _ _ _ on_add (@pvN _ 1 _ _ (by rfl) (by trivial) (by decide) (by decide)) (@pe_int _ _ _ _)) (nomark _)) (@pe_one _ _ _ _ _ (@pe_callB _ _ _ _ _ _ _ ("all") _ (call_qAll rfl) (by rfl) T.z_all (by decide +kernel) (@pa_c _ _ _ _ _ (@pe_comp _ _ _ _ _ _ _ _ _ _ _ (["thing", "told", "many"]) (1) (comp_ok (defScope s_numbers_in) ["told", "many"] rfl rfl (by decide +kernel)) rfl (@pi_seq _ _ _ _ (@pe_slice _ _ _ _ _ _ _ _ _ _ sl_nU (@pvN _ 0 _ _ (by rfl) (by trivial) (by decide) (by decide)) (@po_some _ _ _ (@pe_int _ _ _ _)) (@po_none _))) (fun C s₀ H₀ ex pn=>(@pg_name _ _ (0) _ (show List.Nodup (["thing", "told", "many"]:List Str) from by decide +kernel) rfl (Or.inl rfl) (by trivial))) (fun C s₀ H₀ ex pn=>(@pts_nil _)) (fun C s₀ H₀ ex pn=>(@pe_call _ _ _ _ _ _ _ _ _ _ _ _ _ _ _ _ G_is_whole (hr.mono (by decide)) (by rfl) T.m_is_whole T.F_is_whole.kp T.b_is_whole .nil pass0 (@pa_c _ _ _ _ _ (@pvN _ 0 _ _ (by rfl) (by trivial) (by decide) (by decide)) (@pa_nil _) (by rfl)) (by decide) (by rfl) (by rfl))) (by intros;rfl)) (@pa_nil _) (by rfl)) (by decide) (by decide) (by rfl) (by rfl)))) (@pa_nil _) (by rfl)) (by decide) (by rfl) (by rfl)) (by rfl)) (@pss_one _ _ _ (@ps_ret _ _ _ _ (@pe_slice _ _ _ _ _ _ _ _ _ _ sl_nU (@pvN _ 0 _ _ (by rfl) (by trivial) (by decide) (by decide)) (@po_some _ _ _ (@pe_int _ _ _ _)) (@po_none _))))),?_⟩
  rw [show start ["told", "many"] [.ref p,.int (ns.length:Int)]=[some (.ref p),some (.int (ns.length:Int))] from rfl]
  clear G_refuse_told G_is_whole
  replace k:=fun (_:Unit)=>k
  have hl6:ns.length+1≤sizeLine:=len5000 (by omega)
  simp! only [and_true]
  rw [if_pos (by omega)]
  refine use_tail hp fun q1 H1 e1 h1=>?_
  have h1':H1 q1=some (.tup (ns.map V.int)):=h1
  have hp1:=e1.at hp
  clear h1
  simp! only [and_true]
  refine comp_fm (ns.map V.int) (fun _=>true) (fun _=>.bl true) (fun z x H'=>x=z∧H' q1=some (.tup (ns.map V.int))) (wk_tup h1').1 (wk_tup h1').2 (len5000 (by rw [List.length_map];omega)) ?_ ?_
  ·intro D z x' H' N1 N0 hz hD e ⟨hx,_⟩ k1 _
   subst hx
   obtain ⟨i,_,rfl⟩:=List.mem_map.mp hz
   have k1':=k1 rfl H' (Ext.refl _)
   clear k1 hp1
   simp! only [↓m_kCm_1,↓m_kCm2,↓c_spWhole]
  ·intro D H2 hD e2 hD2
   have hD3:H2 D=some (.lst ((ns.map fun _=>true).map V.bl)):=by rw [hD2,filt,List.map_map,List.map_map];rfl
   have ha:(ns.map fun _=>true).all id=true:=by rw [List.all_map,List.all_eq_true];intro _ _;rfl
   have hp2:=e2.at hp1
   clear hD2 hp1
   simp! only [and_true]
   rw [c_spRT]
   refine ⟨rfl,?_⟩
   simp! only [and_true]
   refine use_tail hp2 fun q3 H3 e3 h3=>?_
   exact k () q3 H3 (e1.trans (e2.trans e3)) h3
abbrev B_spLstIn  (p:Addr) (H:Hp) (Q:VK) (E:XK):Prop:=∃ (x:V) (l:Addr) (ys:List V),H p=some (.tup [x,.ref l])∧H l=some (.lst ys)∧Q (.ref l) H
def spLstIn  : Sp:=fun vs H Q E=>∃ (p:Addr),vs=[.ref p]∧(B_spLstIn  p H Q E)
theorem c_spLstIn  (p:Addr) (H:Hp) (Q:VK) (E:XK):spLstIn  [.ref p] H Q E=(B_spLstIn  p H Q E):=spx1 (f:=fun (p:Addr)=>[.ref p]) (fun _ _ h=>by cases h;exact rfl) p
theorem l_spLstIn  {vs:List V}{H:Hp}{Q:VK}{E:XK}(h:spLstIn  vs H Q E):vs.length=1:=spl1 h fun _=>rfl
theorem ok_list_in (T:Tx K mg t):FnOk P t.w K mg base CX0 2 t.a_list_in t.d_list_in ["told"] spLstIn:=by
 have G_refuse_told:=ok_refuse_told (P:=P) (base:=base) T
 refine T.F_list_in.ok c_list_in (fun vs H Q E h=>l_spLstIn h) (fun cdv A outer s H vs Q E hr h=>?_)
 ·obtain ⟨p,rfl,x,l,ys,hp,hl,k⟩:=h
  refine ⟨_,(@pss_cons _ _ _ _ _ (@ps_expr _ _ _ _ (@pe_call _ _ _ _ _ _ _ _ _ _ _ _ _ _ _ _ G_refuse_told (hr.mono (by decide)) (by rfl) T.m_refuse_told T.F_refuse_told.kp T.b_refuse_told .nil pass0 (@pa_c _ _ _ _ _ (@pe_andN _ _ _ _ _ _ _ (@pe_cmpR _ _ _ _ _ _ _ _ (op_qEq hr.units) (@pe_callB _ _ _ _ _ _ _ ("len") _ call_qLen (by rfl) T.z_len (by decide +kernel) (@pa_c _ _ _ _ _ (@pvN _ 0 _ _ (by rfl) (by trivial) (by decide) (by decide)) (@pa_nil _) (by rfl)) (by decide) (by decide) (by rfl) (by rfl)) (@pe_int _ _ _ _) (nomark _)) (@pe_one _ _ _ _ _ (@pe_callB _ _ _ _ _ _ _ ("isinstance") _ call_qIsi (by rfl) T.z_isinstance (by decide +kernel) (@pa_c _ _ _ _ _ (@pe_ix _ _ _ _ _ _ _ ix_q (@pvN _ 0 _ _ (by rfl) (by trivial) (by decide) (by decide)) (@pe_int _ _ _ _) (fun _ _=>rfl)) (@pa_c _ _ _ _ _ (@pe_bltn _ _ (.ty "list") (.type "list") _ (by rfl) T.z_list (by decide +kernel) rfl (by decide) (by decide)) (@pa_nil _) (by rfl)) (by rfl)) (by decide) (by decide) (by rfl) (by rfl)))) (@pa_nil _) (by rfl)) (by decide) (by rfl) (by rfl)) (by rfl)) (@pss_one _ _ _ (@ps_ret _ _ _ _ (@pe_ix _ _ _ _ _ _ _ ix_q (@pvN _ 0 _ _ (by rfl) (by trivial) (by decide) (by decide)) (@pe_int _ _ _ _) (fun _ _=>rfl))))),?_⟩
  rw [show start ["told"] [.ref p]=[some (.ref p)] from rfl]
  clear G_refuse_told
  simp! only [and_true]
  rw [c_spRT]
  refine ⟨rfl,?_⟩
  simp! only [and_true]
theorem oV_ints:∀ {xs:List (Option Int)},(∀ o∈xs,o ≠ none)->∃ ns:List Int,xs=ns.map some∧xs.map oV=ns.map V.int
 | [],_=>⟨[],rfl,rfl⟩
 | none::r,h=>absurd rfl (h none List.mem_cons_self)
 | some i::r,h=>by
  obtain ⟨ns,h1,h2⟩:=oV_ints fun o ho=>h o (List.mem_cons_of_mem _ ho)
  exact ⟨i::ns,by rw [h1];rfl,by rw [List.map_cons,h2];rfl⟩
def spMd (t:Adr) (i:Nat):Sp:=fun vs H Q E=>∃ (p:Addr),vs=[.ref p]∧(∃ (x:V) (xs:List (Option Int)),H p=some (.tup (x::xs.map oV))∧TlOk (i,xs)∧∀ (v:Addr) (H':Hp),Ext H H'->MvF t H H' v (i,xs)->Q (.ref v) H')
theorem c_spMd (t:Adr) (i:Nat) (p:Addr) (H:Hp) (Q:VK) (E:XK):spMd t i [.ref p] H Q E=(∃ (x:V) (xs:List (Option Int)),H p=some (.tup (x::xs.map oV))∧TlOk (i,xs)∧∀ (v:Addr) (H':Hp),Ext H H'->MvF t H H' v (i,xs)->Q (.ref v) H'):=spx1 (f:=fun (p:Addr)=>[.ref p]) (fun _ _ h=>by cases h;exact rfl) p
theorem l_spMd (t:Adr) (i:Nat){vs:List V}{H:Hp}{Q:VK}{E:XK}(h:spMd t i vs H Q E):vs.length=1:=spl1 h fun _=>rfl
theorem ok_made_stay (T:Tx K mg t):FnOk P t.w K mg base CX0 3 t.a_made_stay t.d_made_stay ["told"] (spMd t 0):=by
 have G_numbers_in:=ok_numbers_in (P:=P) (base:=base) T
 refine T.F_made_stay.ok c_made_stay (fun vs H Q E h=>l_spMd _ _ h) (fun cdv A outer s H vs Q E hr h=>?_)
 ·obtain ⟨p,rfl,x,xs,hp,ok,k⟩:=h
  refine ⟨_,(@pss_cons _ _ _ _ _ (@ps_expr _ _ _ _ (@pe_call _ _ _ _ _ _ _ _ _ _ _ _ _ _ _ _ G_numbers_in (hr.mono (by decide)) (by rfl) T.m_numbers_in T.F_numbers_in.kp T.b_numbers_in .nil pass0 (@pa_c _ _ _ _ _ (@pvN _ 0 _ _ (by rfl) (by trivial) (by decide) (by decide)) (@pa_c _ _ _ _ _ (@pe_int _ _ _ _) (@pa_nil _) (by rfl)) (by rfl)) (by decide) (by rfl) (by rfl)) (by rfl)) (@pss_one _ _ _ (@ps_ret _ _ _ _ (@pe_nMk0 _ _ _ _ _ T.mk0_Move (by rfl) T.m_Move (by decide))))),?_⟩
  rw [show start ["told"] [.ref p]=[some (.ref p)] from rfl]
  clear G_numbers_in
  obtain rfl:xs=[]:=List.eq_nil_of_length_eq_zero (ok.n (show (0:Nat) ≠ 3 by decide))
  replace k:=fun (_:Unit)=>k
  have hp':H p=some (.tup (x::([]:List Int).map V.int)):=hp
  clear hp ok
  simp! only [and_true]
  rw [c_spNumIn]
  refine ⟨x,[],hp',rfl,by decide,fun r H1 e1 h1=>?_⟩
  simp! only [and_true]
  intro v dx H2 hx _ _ e2 h2 _
  exact k () v H2 (e1.trans e2) (.inl ⟨(show (0:Nat) ≠ 3 by decide),dx,h2⟩)
theorem ok_made_slice (T:Tx K mg t):FnOk P t.w K mg base CX0 3 t.a_made_slice t.d_made_slice ["told"] (spMd t 1):=by
 have G_refuse_told:=ok_refuse_told (P:=P) (base:=base) T
 have G_is_whole:=ok_is_whole (P:=P) (base:=base) T
 have G_Slice___init__:=ok_Slice___init__ (P:=P) (base:=base) T
 refine T.F_made_slice.ok c_made_slice (fun vs H Q E h=>l_spMd _ _ h) (fun cdv A outer s H vs Q E hr h=>?_)
 ·obtain ⟨p,rfl,x,xs,hp,ok,k⟩:=h
  refine ⟨_,(@pss_cons _ _ _ _ _ (@ps_expr _ _ _ _ (@pe_call _ _ _ _ _ _ _ _ _ _ _ _ _ _ _ _ G_refuse_told (hr.mono (by decide)) (by rfl) T.m_refuse_told T.F_refuse_told.kp T.b_refuse_told .nil pass0 (@pa_c _ _ _ _ _ (@pe_andN _ _ _ _ _ _ _ (@pe_cmpR _ _ _ _ _ _ _ _ (op_qEq hr.units) (@pe_callB _ _ _ _ _ _ _ ("len") _ call_qLen (by rfl) T.z_len (by decide +kernel) (@pa_c _ _ _ _ _ (@pvN _ 0 _ _ (by rfl) (by trivial) (by decide) (by decide)) (@pa_nil _) (by rfl)) (by decide) (by decide) (by rfl) (by rfl)) (@pe_int _ _ _ _) (nomark _)) (@pe_one _ _ _ _ _ (@pe_call _ _ _ _ _ _ _ _ _ _ _ _ _ _ _ _ G_is_whole (hr.mono (by decide)) (by rfl) T.m_is_whole T.F_is_whole.kp T.b_is_whole .nil pass0 (@pa_c _ _ _ _ _ (@pe_ix _ _ _ _ _ _ _ ix_q (@pvN _ 0 _ _ (by rfl) (by trivial) (by decide) (by decide)) (@pe_int _ _ _ _) (fun _ _=>rfl)) (@pa_nil _) (by rfl)) (by decide) (by rfl) (by rfl)))) (@pa_nil _) (by rfl)) (by decide) (by rfl) (by rfl)) (by rfl)) (@pss_cons _ _ _ _ _ (@ps_expr _ _ _ _ (@pe_call _ _ _ _ _ _ _ _ _ _ _ _ _ _ _ _ G_refuse_told (hr.mono (by decide)) (by rfl) T.m_refuse_told T.F_refuse_told.kp T.b_refuse_told .nil pass0 (@pa_c _ _ _ _ _ (@pe_callB _ _ _ _ _ _ _ ("all") _ (call_qAll rfl) (by rfl) T.z_all (by decide +kernel) (@pa_c _ _ _ _ _ (@pe_comp _ _ _ _ _ _ _ _ _ _ _ (["thing", "told"]) (1) (comp_ok (defScope s_made_slice) ["told"] rfl rfl (by decide +kernel)) rfl (@pi_seq _ _ _ _ (@pe_slice _ _ _ _ _ _ _ _ _ _ sl_nU (@pvN _ 0 _ _ (by rfl) (by trivial) (by decide) (by decide)) (@po_some _ _ _ (@pe_int _ _ _ _)) (@po_none _))) (fun C s₀ H₀ ex pn=>(@pg_name _ _ (0) _ (show List.Nodup (["thing", "told"]:List Str) from by decide +kernel) rfl (Or.inl rfl) (by trivial))) (fun C s₀ H₀ ex pn=>(@pts_nil _)) (fun C s₀ H₀ ex pn=>(@pe_orN _ _ _ _ _ _ _ (@pe_cmpR _ _ _ _ _ _ _ _ op_qIs (@pvN _ 0 _ _ (by rfl) (by trivial) (by decide) (by decide)) (@pe_non _ _ _) (nomark _)) (@pe_one _ _ _ _ _ (@pe_call _ _ _ _ _ _ _ _ _ _ _ _ _ _ _ _ G_is_whole (hr.mono (by decide)) (by rfl) T.m_is_whole T.F_is_whole.kp T.b_is_whole .nil pass0 (@pa_c _ _ _ _ _ (@pvN _ 0 _ _ (by rfl) (by trivial) (by decide) (by decide)) (@pa_nil _) (by rfl)) (by decide) (by rfl) (by rfl))))) (by intros;rfl)) (@pa_nil _) (by rfl)) (by decide) (by decide) (by rfl) (by rfl)) (@pa_nil _) (by rfl)) (by decide) (by rfl) (by rfl)) (by rfl)) (@pss_one _ _ _ (@ps_ret _ _ _ _ (@pe_nMake _ _ _ _ _ _ _ _ _ _ _ _ _ _ _ _ _ T.mk_Slice G_Slice___init__ (hr.mono (by decide)) (by rfl) T.m_Slice T.b_Slice___init__ .nil pass0 (@pa_c _ _ _ _ _ (@pe_ix _ _ _ _ _ _ _ ix_q (@pvN _ 0 _ _ (by rfl) (by trivial) (by decide) (by decide)) (@pe_int _ _ _ _) (fun _ _=>rfl)) (@pa_c _ _ _ _ _ (@pe_ix _ _ _ _ _ _ _ ix_q (@pvN _ 0 _ _ (by rfl) (by trivial) (by decide) (by decide)) (@pe_int _ _ _ _) (fun _ _=>rfl)) (@pa_c _ _ _ _ _ (@pe_ix _ _ _ _ _ _ _ ix_q (@pvN _ 0 _ _ (by rfl) (by trivial) (by decide) (by decide)) (@pe_int _ _ _ _) (fun _ _=>rfl)) (@pa_c _ _ _ _ _ (@pe_ix _ _ _ _ _ _ _ ix_q (@pvN _ 0 _ _ (by rfl) (by trivial) (by decide) (by decide)) (@pe_int _ _ _ _) (fun _ _=>rfl)) (@pa_nil _) (by rfl)) (by rfl)) (by rfl)) (by rfl)) (by decide) (by rfl) (by rfl)))))),?_⟩
  rw [show start ["told"] [.ref p]=[some (.ref p)] from rfl]
  clear G_refuse_told G_is_whole G_Slice___init__
  obtain ⟨a,b,c,d,rfl⟩:∃ a b c d,xs=[some a,b,c,d]:=by
   have hl:xs.length=4:=ok.n (show (1:Nat) ≠ 3 by decide)
   match xs,hl,ok.h rfl with
   | [some a,b,c,d],_,_=>exact ⟨a,b,c,d,rfl⟩
   | [none,b,c,d],_,h=>exact absurd rfl h
  have hp':H p=some (.tup [x,.int a,oV b,oV c,oV d]):=hp
  replace k:=fun (_:Unit)=>k
  clear hp ok
  simp! only [↓c_spWhole]
  rw [c_spRT]
  refine ⟨rfl,?_⟩
  simp! only [and_true]
  refine use_dropT 2 (by decide) (by show 2≤5;decide) hp' ?_
  intro q1 H1 _ e1 h1
  have h1':H1 q1=some (.tup ([b,c,d].map oV)):=h1
  have hp1:=e1.at hp'
  clear h1 hp'
  simp! only [and_true]
  refine comp_fm ([b,c,d].map oV) (fun _=>true) (fun _=>.bl true) (fun z x H'=>x=z∧H' q1=some (.tup ([b,c,d].map oV))) (wk_tup h1').1 (wk_tup h1').2 (len5000 (by rw [List.length_map];show 3≤5000;decide)) ?_ ?_
  ·intro D z x' H' N1 N0 hz hD e ⟨hx,_⟩ k1 _
   subst hx
   obtain ⟨i,_,rfl⟩:=List.mem_map.mp hz
   have k1':=k1 rfl H' (Ext.refl _)
   clear k1 hp1
   cases i with
   | none=>
    show gName 0 V.non _ _ _
    simp! only [↓m_kCm_1,↓m_kCm2,↓c_spWhole]
   | some i=>
    show gName 0 (V.int i) _ _ _
    simp! only [↓m_kCm_1,↓m_kCm2,↓c_spWhole]
  ·intro D H2 hD e2 hD2
   have hD3:H2 D=some (.lst (([b,c,d].map fun _=>true).map V.bl)):=by rw [hD2,filt,List.map_map,List.map_map];rfl
   have ha:([b,c,d].map fun _=>true).all id=true:=rfl
   generalize ([b,c,d].map fun _=>true)=bs at hD3 ha
   have hp2:=e2.at hp1
   clear hD2 hp1
   simp! only [and_true]
   rw [c_spRT]
   refine ⟨rfl,?_⟩
   simp! only [and_true]
   intro v dx G hx hd hq g k1 kk
   show spInSlice t [V.ref v,V.int a,oV b,oV c,oV d] G _ _
   rw [c_spInSlice]
   refine ⟨dx,k1,fun H3 gg h3=>?_⟩
   have j:=gg H2 g hx
   clear k1 kk hd hq gg
   simp! only [and_true]
   exact k () v H3 (e1.trans (e2.trans j)) (.inl ⟨(show (1:Nat) ≠ 3 by decide),dx,h3⟩)
def spMdT (t:Adr):Sp:=fun vs H Q E=>∃ (p:Addr),vs=[.ref p]∧(∃ (x:V) (l:Addr) (xs:List (Option Int)),H p=some (.tup [x,.ref l])∧H l=some (.lst (xs.map oV))∧TlOk (3,xs)∧∀ (v:Addr) (H':Hp),Ext H H'->MvF t H H' v (3,xs)->Q (.ref v) H')
theorem c_spMdT (t:Adr) (p:Addr) (H:Hp) (Q:VK) (E:XK):spMdT t [.ref p] H Q E=(∃ (x:V) (l:Addr) (xs:List (Option Int)),H p=some (.tup [x,.ref l])∧H l=some (.lst (xs.map oV))∧TlOk (3,xs)∧∀ (v:Addr) (H':Hp),Ext H H'->MvF t H H' v (3,xs)->Q (.ref v) H'):=spx1 (f:=fun (p:Addr)=>[.ref p]) (fun _ _ h=>by cases h;exact rfl) p
theorem l_spMdT (t:Adr){vs:List V}{H:Hp}{Q:VK}{E:XK}(h:spMdT t vs H Q E):vs.length=1:=spl1 h fun _=>rfl
theorem ok_made_turn (T:Tx K mg t):FnOk P t.w K mg base CX0 3 t.a_made_turn t.d_made_turn ["told"] (spMdT t):=by
 have G_refuse_told:=ok_refuse_told (P:=P) (base:=base) T
 have G_list_in:=ok_list_in (P:=P) (base:=base) T
 have G_is_whole:=ok_is_whole (P:=P) (base:=base) T
 have G_Turn___init__:=ok_Turn___init__ (P:=P) (base:=base) T
 refine T.F_made_turn.ok c_made_turn (fun vs H Q E h=>l_spMdT _ h) (fun cdv A outer s H vs Q E hr h=>?_)
 ·obtain ⟨p,rfl,x,l,xs,hp,hl,ok,k⟩:=h
  refine ⟨_,(@pss_cons _ _ _ _ _ (@ps_set _ _ (1) _ _ _ _ c_made_turn.nd rfl (Or.inl rfl) (@pe_call _ _ _ _ _ _ _ _ _ _ _ _ _ _ _ _ G_list_in (hr.mono (by decide)) (by rfl) T.m_list_in T.F_list_in.kp T.b_list_in .nil pass0 (@pa_c _ _ _ _ _ (@pvN _ 0 _ _ (by rfl) (by trivial) (by decide) (by decide)) (@pa_nil _) (by rfl)) (by decide) (by rfl) (by rfl)) (by rfl) (by trivial)) (@pss_cons _ _ _ _ _ (@ps_expr _ _ _ _ (@pe_call _ _ _ _ _ _ _ _ _ _ _ _ _ _ _ _ G_refuse_told (hr.mono (by decide)) (by rfl) T.m_refuse_told T.F_refuse_told.kp T.b_refuse_told .nil pass0 (@pa_c _ _ _ _ _ (@pe_callB _ _ _ _ _ _ _ ("all") _ (call_qAll rfl) (by rfl) T.z_all (by decide +kernel) (@pa_c _ _ _ _ _ (@pe_comp _ _ _ _ _ _ _ _ _ _ _ (["thing", "told", "order"]) (1) (comp_ok (defScope s_made_turn) ["told", "order"] rfl rfl (by decide +kernel)) rfl (@pi_seq _ _ _ _ (@pvN _ 1 _ _ (by rfl) (by trivial) (by decide) (by decide))) (fun C s₀ H₀ ex pn=>(@pg_name _ _ (0) _ (show List.Nodup (["thing", "told", "order"]:List Str) from by decide +kernel) rfl (Or.inl rfl) (by trivial))) (fun C s₀ H₀ ex pn=>(@pts_nil _)) (fun C s₀ H₀ ex pn=>(@pe_call _ _ _ _ _ _ _ _ _ _ _ _ _ _ _ _ G_is_whole (hr.mono (by decide)) (by rfl) T.m_is_whole T.F_is_whole.kp T.b_is_whole .nil pass0 (@pa_c _ _ _ _ _ (@pvN _ 0 _ _ (by rfl) (by trivial) (by decide) (by decide)) (@pa_nil _) (by rfl)) (by decide) (by rfl) (by rfl))) (by intros;rfl)) (@pa_nil _) (by rfl)) (by decide) (by decide) (by rfl) (by rfl)) (@pa_nil _) (by rfl)) (by decide) (by rfl) (by rfl)) (by rfl)) (@pss_one _ _ _ (@ps_ret _ _ _ _ (@pe_nMake _ _ _ _ _ _ _ _ _ _ _ _ _ _ _ _ _ T.mk_Turn G_Turn___init__ (hr.mono (by decide)) (by rfl) T.m_Turn T.b_Turn___init__ .nil pass0 (@pa_c _ _ _ _ _ (@pvN _ 1 _ _ (by rfl) (by trivial) (by decide) (by decide)) (@pa_nil _) (by rfl)) (by decide) (by rfl) (by rfl)))))),?_⟩
  rw [show start ["told", "order"] [.ref p]=[some (.ref p),none] from rfl]
  clear G_refuse_told G_is_whole G_Turn___init__ G_list_in
  obtain ⟨ns,rfl,hn⟩:=oV_ints (ok.s (show (3:Nat) ≠ 1 by decide))
  have h8:ns.length≤8:=by have:=ok.m;rw [List.length_map] at this;exact this
  rw [hn] at hl
  replace k:=fun (_:Unit)=>k
  replace hn:=fun (_:Unit)=>hn
  clear ok
  simp! only [and_true]
  rw [c_spLstIn]
  refine ⟨x,l,_,hp,hl,?_⟩
  clear hp
  simp! only [and_true]
  refine comp_fm (ns.map V.int) (fun _=>true) (fun _=>.bl true) (fun z x H'=>x=z∧H' l=some (.lst (ns.map V.int))) (wk_lst hl).1 (wk_lst hl).2 (len5000 (by rw [List.length_map];omega)) ?_ ?_
  ·intro D z x' H' N1 N0 hz hD e ⟨hx,_⟩ k1 _
   subst hx
   obtain ⟨i,_,rfl⟩:=List.mem_map.mp hz
   have k1':=k1 rfl H' (Ext.refl _)
   clear k1
   simp! only [↓m_kCm_1,↓m_kCm2,↓c_spWhole]
  ·intro D H2 hD e2 hD2
   have hD3:H2 D=some (.lst ((ns.map fun _=>true).map V.bl)):=by rw [hD2,filt,List.map_map,List.map_map];rfl
   have ha:(ns.map fun _=>true).all id=true:=by rw [List.all_map,List.all_eq_true];intro _ _;rfl
   have hl2:=e2.at hl
   clear hD2 hl
   simp! only [and_true]
   rw [c_spRT]
   refine ⟨rfl,?_⟩
   simp! only [and_true]
   intro v dx G hx hd hq g k1 kk
   rw [c_spInTurn]
   refine ⟨dx,_,k1,g.at hl2,by rw [List.length_map];omega,fun H3 D3 gg hD3 h3 d3=>?_⟩
   have j:=gg H2 g hx
   have fr:H D3=none:=e2.free (g.free hD3)
   rw [←hn ()] at d3
   clear k1 kk hd hq gg hD3
   simp! only [and_true]
   exact k () v H3 (e2.trans j) (.inr ⟨rfl,dx,D3,h3,fr,d3⟩)
theorem ok_made_pick (T:Tx K mg t):FnOk P t.w K mg base CX0 3 t.a_made_pick t.d_made_pick ["told"] (spMd t 2):=by
 have G_numbers_in:=ok_numbers_in (P:=P) (base:=base) T
 have G_Pick___init__:=ok_Pick___init__ (P:=P) (base:=base) T
 refine T.F_made_pick.ok c_made_pick (fun vs H Q E h=>l_spMd _ _ h) (fun cdv A outer s H vs Q E hr h=>?_)
 ·obtain ⟨p,rfl,x,xs,hp,ok,k⟩:=h
  refine ⟨_,(@pss_cons _ _ _ _ _ (@ps_set _ _ (1) _ _ _ _ c_made_pick.nd rfl (Or.inl rfl) (@pe_call _ _ _ _ _ _ _ _ _ _ _ _ _ _ _ _ G_numbers_in (hr.mono (by decide)) (by rfl) T.m_numbers_in T.F_numbers_in.kp T.b_numbers_in .nil pass0 (@pa_c _ _ _ _ _ (@pvN _ 0 _ _ (by rfl) (by trivial) (by decide) (by decide)) (@pa_c _ _ _ _ _ (@pe_int _ _ _ _) (@pa_nil _) (by rfl)) (by rfl)) (by decide) (by rfl) (by rfl)) (by rfl) (by trivial)) (@pss_one _ _ _ (@ps_ret _ _ _ _ (@pe_nMake _ _ _ _ _ _ _ _ _ _ _ _ _ _ _ _ _ T.mk_Pick G_Pick___init__ (hr.mono (by decide)) (by rfl) T.m_Pick T.b_Pick___init__ .nil pass0 (@pa_c _ _ _ _ _ (@pe_ix _ _ _ _ _ _ _ ix_q (@pvN _ 1 _ _ (by rfl) (by trivial) (by decide) (by decide)) (@pe_int _ _ _ _) (fun _ _=>rfl)) (@pa_c _ _ _ _ _ (@pe_ix _ _ _ _ _ _ _ ix_q (@pvN _ 1 _ _ (by rfl) (by trivial) (by decide) (by decide)) (@pe_int _ _ _ _) (fun _ _=>rfl)) (@pa_nil _) (by rfl)) (by rfl)) (by decide) (by rfl) (by rfl))))),?_⟩
  rw [show start ["told", "found"] [.ref p]=[some (.ref p),none] from rfl]
  clear G_numbers_in G_Pick___init__
  obtain ⟨ns,rfl,hn⟩:=oV_ints (ok.s (show (2:Nat) ≠ 1 by decide))
  have hl:ns.length=2:=by have:=ok.n (show (2:Nat) ≠ 3 by decide);rw [List.length_map] at this;exact this
  obtain ⟨a,b,rfl⟩:∃ a b,ns=[a,b]:=by
   match ns,hl with
   | [a,b],_=>exact ⟨a,b,rfl⟩
  rw [hn] at hp
  replace k:=fun (_:Unit)=>k
  clear ok hl hn
  simp! only [and_true]
  rw [c_spNumIn]
  refine ⟨x,[a,b],hp,rfl,by show 2≤8;decide,fun r H1 e1 h1=>?_⟩
  clear hp
  simp! only [and_true]
  intro v dx G hx hd hq g k1 kk
  rw [c_spInPick]
  refine ⟨dx,k1,fun H2 gg h2=>?_⟩
  have j:=gg H1 g hx
  clear k1 kk hd hq gg
  simp! only [and_true]
  exact k () v H2 (e1.trans j) (.inl ⟨(show (2:Nat) ≠ 3 by decide),dx,h2⟩)
theorem ok_made_fresh (T:Tx K mg t):FnOk P t.w K mg base CX0 3 t.a_made_fresh t.d_made_fresh ["told"] (spMd t 4):=by
 have G_numbers_in:=ok_numbers_in (P:=P) (base:=base) T
 have G_Fresh___init__:=ok_Fresh___init__ (P:=P) (base:=base) T
 refine T.F_made_fresh.ok c_made_fresh (fun vs H Q E h=>l_spMd _ _ h) (fun cdv A outer s H vs Q E hr h=>?_)
 ·obtain ⟨p,rfl,x,xs,hp,ok,k⟩:=h
  refine ⟨_,(@pss_one _ _ _ (@ps_ret _ _ _ _ (@pe_nMake _ _ _ _ _ _ _ _ _ _ _ _ _ _ _ _ _ T.mk_Fresh G_Fresh___init__ (hr.mono (by decide)) (by rfl) T.m_Fresh T.b_Fresh___init__ .nil pass0 (@pa_c _ _ _ _ _ (@pe_ix _ _ _ _ _ _ _ ix_q (@pe_call _ _ _ _ _ _ _ _ _ _ _ _ _ _ _ _ G_numbers_in (hr.mono (by decide)) (by rfl) T.m_numbers_in T.F_numbers_in.kp T.b_numbers_in .nil pass0 (@pa_c _ _ _ _ _ (@pvN _ 0 _ _ (by rfl) (by trivial) (by decide) (by decide)) (@pa_c _ _ _ _ _ (@pe_int _ _ _ _) (@pa_nil _) (by rfl)) (by rfl)) (by decide) (by rfl) (by rfl)) (@pe_int _ _ _ _) (fun _ _=>rfl)) (@pa_nil _) (by rfl)) (by decide) (by rfl) (by rfl)))),?_⟩
  rw [show start ["told"] [.ref p]=[some (.ref p)] from rfl]
  clear G_numbers_in G_Fresh___init__
  obtain ⟨ns,rfl,hn⟩:=oV_ints (ok.s (show (4:Nat) ≠ 1 by decide))
  have hl:ns.length=1:=by have:=ok.n (show (4:Nat) ≠ 3 by decide);rw [List.length_map] at this;exact this
  obtain ⟨a,rfl⟩:∃ a,ns=[a]:=by
   match ns,hl with
   | [a],_=>exact ⟨a,rfl⟩
  rw [hn] at hp
  replace k:=fun (_:Unit)=>k
  clear ok hl hn
  simp! only [and_true]
  rw [c_spNumIn]
  refine ⟨x,[a],hp,rfl,by show 1≤8;decide,fun r H1 e1 h1=>?_⟩
  clear hp
  simp! only [and_true]
  intro v dx G hx hd hq g k1 kk
  rw [c_spInFresh]
  refine ⟨dx,k1,fun H2 gg h2=>?_⟩
  have j:=gg H1 g hx
  clear k1 kk hd hq gg
  simp! only [and_true]
  exact k () v H2 (e1.trans j) (.inl ⟨(show (4:Nat) ≠ 3 by decide),dx,h2⟩)
theorem ok_made_spread (T:Tx K mg t):FnOk P t.w K mg base CX0 3 t.a_made_spread t.d_made_spread ["told"] (spMd t 5):=by
 have G_numbers_in:=ok_numbers_in (P:=P) (base:=base) T
 have G_Spread___init__:=ok_Spread___init__ (P:=P) (base:=base) T
 refine T.F_made_spread.ok c_made_spread (fun vs H Q E h=>l_spMd _ _ h) (fun cdv A outer s H vs Q E hr h=>?_)
 ·obtain ⟨p,rfl,x,xs,hp,ok,k⟩:=h
  refine ⟨_,(@pss_cons _ _ _ _ _ (@ps_set _ _ (1) _ _ _ _ c_made_spread.nd rfl (Or.inl rfl) (@pe_call _ _ _ _ _ _ _ _ _ _ _ _ _ _ _ _ G_numbers_in (hr.mono (by decide)) (by rfl) T.m_numbers_in T.F_numbers_in.kp T.b_numbers_in .nil pass0 (@pa_c _ _ _ _ _ (@pvN _ 0 _ _ (by rfl) (by trivial) (by decide) (by decide)) (@pa_c _ _ _ _ _ (@pe_int _ _ _ _) (@pa_nil _) (by rfl)) (by rfl)) (by decide) (by rfl) (by rfl)) (by rfl) (by trivial)) (@pss_one _ _ _ (@ps_ret _ _ _ _ (@pe_nMake _ _ _ _ _ _ _ _ _ _ _ _ _ _ _ _ _ T.mk_Spread G_Spread___init__ (hr.mono (by decide)) (by rfl) T.m_Spread T.b_Spread___init__ .nil pass0 (@pa_c _ _ _ _ _ (@pe_ix _ _ _ _ _ _ _ ix_q (@pvN _ 1 _ _ (by rfl) (by trivial) (by decide) (by decide)) (@pe_int _ _ _ _) (fun _ _=>rfl)) (@pa_c _ _ _ _ _ (@pe_ix _ _ _ _ _ _ _ ix_q (@pvN _ 1 _ _ (by rfl) (by trivial) (by decide) (by decide)) (@pe_int _ _ _ _) (fun _ _=>rfl)) (@pa_nil _) (by rfl)) (by rfl)) (by decide) (by rfl) (by rfl))))),?_⟩
  rw [show start ["told", "found"] [.ref p]=[some (.ref p),none] from rfl]
  clear G_numbers_in G_Spread___init__
  obtain ⟨ns,rfl,hn⟩:=oV_ints (ok.s (show (5:Nat) ≠ 1 by decide))
  have hl:ns.length=2:=by have:=ok.n (show (5:Nat) ≠ 3 by decide);rw [List.length_map] at this;exact this
  obtain ⟨a,b,rfl⟩:∃ a b,ns=[a,b]:=by
   match ns,hl with
   | [a,b],_=>exact ⟨a,b,rfl⟩
  rw [hn] at hp
  replace k:=fun (_:Unit)=>k
  clear ok hl hn
  simp! only [and_true]
  rw [c_spNumIn]
  refine ⟨x,[a,b],hp,rfl,by show 2≤8;decide,fun r H1 e1 h1=>?_⟩
  clear hp
  simp! only [and_true]
  intro v dx G hx hd hq g k1 kk
  rw [c_spInSpread]
  refine ⟨dx,k1,fun H2 gg h2=>?_⟩
  have j:=gg H1 g hx
  clear k1 kk hd hq gg
  simp! only [and_true]
  exact k () v H2 (e1.trans j) (.inl ⟨(show (5:Nat) ≠ 3 by decide),dx,h2⟩)
theorem ok_made_cut (T:Tx K mg t):FnOk P t.w K mg base CX0 3 t.a_made_cut t.d_made_cut ["told"] (spMd t 6):=by
 have G_numbers_in:=ok_numbers_in (P:=P) (base:=base) T
 have G_Cut___init__:=ok_Cut___init__ (P:=P) (base:=base) T
 refine T.F_made_cut.ok c_made_cut (fun vs H Q E h=>l_spMd _ _ h) (fun cdv A outer s H vs Q E hr h=>?_)
 ·obtain ⟨p,rfl,x,xs,hp,ok,k⟩:=h
  refine ⟨_,(@pss_cons _ _ _ _ _ (@ps_set _ _ (1) _ _ _ _ c_made_cut.nd rfl (Or.inl rfl) (@pe_call _ _ _ _ _ _ _ _ _ _ _ _ _ _ _ _ G_numbers_in (hr.mono (by decide)) (by rfl) T.m_numbers_in T.F_numbers_in.kp T.b_numbers_in .nil pass0 (@pa_c _ _ _ _ _ (@pvN _ 0 _ _ (by rfl) (by trivial) (by decide) (by decide)) (@pa_c _ _ _ _ _ (@pe_int _ _ _ _) (@pa_nil _) (by rfl)) (by rfl)) (by decide) (by rfl) (by rfl)) (by rfl) (by trivial)) (@pss_one _ _ _ (@ps_ret _ _ _ _ (@pe_nMake _ _ _ _ _ _ _ _ _ _ _ _ _ _ _ _ _ T.mk_Cut G_Cut___init__ (hr.mono (by decide)) (by rfl) T.m_Cut T.b_Cut___init__ .nil pass0 (@pa_c _ _ _ _ _ (@pe_ix _ _ _ _ _ _ _ ix_q (@pvN _ 1 _ _ (by rfl) (by trivial) (by decide) (by decide)) (@pe_int _ _ _ _) (fun _ _=>rfl)) (@pa_c _ _ _ _ _ (@pe_ix _ _ _ _ _ _ _ ix_q (@pvN _ 1 _ _ (by rfl) (by trivial) (by decide) (by decide)) (@pe_int _ _ _ _) (fun _ _=>rfl)) (@pa_nil _) (by rfl)) (by rfl)) (by decide) (by rfl) (by rfl))))),?_⟩
  rw [show start ["told", "found"] [.ref p]=[some (.ref p),none] from rfl]
  clear G_numbers_in G_Cut___init__
  obtain ⟨ns,rfl,hn⟩:=oV_ints (ok.s (show (6:Nat) ≠ 1 by decide))
  have hl:ns.length=2:=by have:=ok.n (show (6:Nat) ≠ 3 by decide);rw [List.length_map] at this;exact this
  obtain ⟨a,b,rfl⟩:∃ a b,ns=[a,b]:=by
   match ns,hl with
   | [a,b],_=>exact ⟨a,b,rfl⟩
  rw [hn] at hp
  replace k:=fun (_:Unit)=>k
  clear ok hl hn
  simp! only [and_true]
  rw [c_spNumIn]
  refine ⟨x,[a,b],hp,rfl,by show 2≤8;decide,fun r H1 e1 h1=>?_⟩
  clear hp
  simp! only [and_true]
  intro v dx G hx hd hq g k1 kk
  rw [c_spInCut]
  refine ⟨dx,k1,fun H2 gg h2=>?_⟩
  have j:=gg H1 g hx
  clear k1 kk hd hq gg
  simp! only [and_true]
  exact k () v H2 (e1.trans j) (.inl ⟨(show (6:Nat) ≠ 3 by decide),dx,h2⟩)
theorem ok_made_window (T:Tx K mg t):FnOk P t.w K mg base CX0 3 t.a_made_window t.d_made_window ["told"] (spMd t 7):=by
 have G_numbers_in:=ok_numbers_in (P:=P) (base:=base) T
 have G_Window___init__:=ok_Window___init__ (P:=P) (base:=base) T
 refine T.F_made_window.ok c_made_window (fun vs H Q E h=>l_spMd _ _ h) (fun cdv A outer s H vs Q E hr h=>?_)
 ·obtain ⟨p,rfl,x,xs,hp,ok,k⟩:=h
  refine ⟨_,(@pss_cons _ _ _ _ _ (@ps_set _ _ (1) _ _ _ _ c_made_window.nd rfl (Or.inl rfl) (@pe_call _ _ _ _ _ _ _ _ _ _ _ _ _ _ _ _ G_numbers_in (hr.mono (by decide)) (by rfl) T.m_numbers_in T.F_numbers_in.kp T.b_numbers_in .nil pass0 (@pa_c _ _ _ _ _ (@pvN _ 0 _ _ (by rfl) (by trivial) (by decide) (by decide)) (@pa_c _ _ _ _ _ (@pe_int _ _ _ _) (@pa_nil _) (by rfl)) (by rfl)) (by decide) (by rfl) (by rfl)) (by rfl) (by trivial)) (@pss_one _ _ _ (@ps_ret _ _ _ _ (@pe_nMake _ _ _ _ _ _ _ _ _ _ _ _ _ _ _ _ _ T.mk_Window G_Window___init__ (hr.mono (by decide)) (by rfl) T.m_Window T.b_Window___init__ .nil pass0 (@pa_c _ _ _ _ _ (@pe_ix _ _ _ _ _ _ _ ix_q (@pvN _ 1 _ _ (by rfl) (by trivial) (by decide) (by decide)) (@pe_int _ _ _ _) (fun _ _=>rfl)) (@pa_c _ _ _ _ _ (@pe_ix _ _ _ _ _ _ _ ix_q (@pvN _ 1 _ _ (by rfl) (by trivial) (by decide) (by decide)) (@pe_int _ _ _ _) (fun _ _=>rfl)) (@pa_nil _) (by rfl)) (by rfl)) (by decide) (by rfl) (by rfl))))),?_⟩
  rw [show start ["told", "found"] [.ref p]=[some (.ref p),none] from rfl]
  clear G_numbers_in G_Window___init__
  obtain ⟨ns,rfl,hn⟩:=oV_ints (ok.s (show (7:Nat) ≠ 1 by decide))
  have hl:ns.length=2:=by have:=ok.n (show (7:Nat) ≠ 3 by decide);rw [List.length_map] at this;exact this
  obtain ⟨a,b,rfl⟩:∃ a b,ns=[a,b]:=by
   match ns,hl with
   | [a,b],_=>exact ⟨a,b,rfl⟩
  rw [hn] at hp
  replace k:=fun (_:Unit)=>k
  clear ok hl hn
  simp! only [and_true]
  rw [c_spNumIn]
  refine ⟨x,[a,b],hp,rfl,by show 2≤8;decide,fun r H1 e1 h1=>?_⟩
  clear hp
  simp! only [and_true]
  intro v dx G hx hd hq g k1 kk
  rw [c_spInWindow]
  refine ⟨dx,k1,fun H2 gg h2=>?_⟩
  have j:=gg H1 g hx
  clear k1 kk hd hq gg
  simp! only [and_true]
  exact k () v H2 (e1.trans j) (.inl ⟨(show (7:Nat) ≠ 3 by decide),dx,h2⟩)
theorem ok_made_diagonal (T:Tx K mg t):FnOk P t.w K mg base CX0 3 t.a_made_diagonal t.d_made_diagonal ["told"] (spMd t 8):=by
 have G_numbers_in:=ok_numbers_in (P:=P) (base:=base) T
 have G_Diagonal___init__:=ok_Diagonal___init__ (P:=P) (base:=base) T
 refine T.F_made_diagonal.ok c_made_diagonal (fun vs H Q E h=>l_spMd _ _ h) (fun cdv A outer s H vs Q E hr h=>?_)
 ·obtain ⟨p,rfl,x,xs,hp,ok,k⟩:=h
  refine ⟨_,(@pss_cons _ _ _ _ _ (@ps_set _ _ (1) _ _ _ _ c_made_diagonal.nd rfl (Or.inl rfl) (@pe_call _ _ _ _ _ _ _ _ _ _ _ _ _ _ _ _ G_numbers_in (hr.mono (by decide)) (by rfl) T.m_numbers_in T.F_numbers_in.kp T.b_numbers_in .nil pass0 (@pa_c _ _ _ _ _ (@pvN _ 0 _ _ (by rfl) (by trivial) (by decide) (by decide)) (@pa_c _ _ _ _ _ (@pe_int _ _ _ _) (@pa_nil _) (by rfl)) (by rfl)) (by decide) (by rfl) (by rfl)) (by rfl) (by trivial)) (@pss_one _ _ _ (@ps_ret _ _ _ _ (@pe_nMake _ _ _ _ _ _ _ _ _ _ _ _ _ _ _ _ _ T.mk_Diagonal G_Diagonal___init__ (hr.mono (by decide)) (by rfl) T.m_Diagonal T.b_Diagonal___init__ .nil pass0 (@pa_c _ _ _ _ _ (@pe_ix _ _ _ _ _ _ _ ix_q (@pvN _ 1 _ _ (by rfl) (by trivial) (by decide) (by decide)) (@pe_int _ _ _ _) (fun _ _=>rfl)) (@pa_c _ _ _ _ _ (@pe_ix _ _ _ _ _ _ _ ix_q (@pvN _ 1 _ _ (by rfl) (by trivial) (by decide) (by decide)) (@pe_int _ _ _ _) (fun _ _=>rfl)) (@pa_nil _) (by rfl)) (by rfl)) (by decide) (by rfl) (by rfl))))),?_⟩
  rw [show start ["told", "found"] [.ref p]=[some (.ref p),none] from rfl]
  clear G_numbers_in G_Diagonal___init__
  obtain ⟨ns,rfl,hn⟩:=oV_ints (ok.s (show (8:Nat) ≠ 1 by decide))
  have hl:ns.length=2:=by have:=ok.n (show (8:Nat) ≠ 3 by decide);rw [List.length_map] at this;exact this
  obtain ⟨a,b,rfl⟩:∃ a b,ns=[a,b]:=by
   match ns,hl with
   | [a,b],_=>exact ⟨a,b,rfl⟩
  rw [hn] at hp
  replace k:=fun (_:Unit)=>k
  clear ok hl hn
  simp! only [and_true]
  rw [c_spNumIn]
  refine ⟨x,[a,b],hp,rfl,by show 2≤8;decide,fun r H1 e1 h1=>?_⟩
  clear hp
  simp! only [and_true]
  intro v dx G hx hd hq g k1 kk
  rw [c_spInDiagonal]
  refine ⟨dx,k1,fun H2 gg h2=>?_⟩
  have j:=gg H1 g hx
  clear k1 kk hd hq gg
  simp! only [and_true]
  exact k () v H2 (e1.trans j) (.inl ⟨(show (8:Nat) ≠ 3 by decide),dx,h2⟩)
def mkM (t:Adr):Nat->Addr
 | 0=>t.a_made_stay
 | 1=>t.a_made_slice
 | 2=>t.a_made_pick
 | 3=>t.a_made_turn
 | 4=>t.a_made_fresh
 | 5=>t.a_made_spread
 | 6=>t.a_made_cut
 | 7=>t.a_made_window
 | _=>t.a_made_diagonal
def spMk (t:Adr):Nat->Sp
 | 3=>spMdT t
 | i=>spMd t i
theorem spMk_ne {t:Adr}{i:Nat}(h:i ≠ 3):spMk t i=spMd t i:=by
 unfold spMk
 split
 ·exact absurd rfl h
 ·rfl
theorem FDm {P:Program}{K:PySem.W.Frag}{mg:Str->Option Value}{base:Heap}{t:Adr}(T:Tx K mg t):∀ i,i < 9->FD P t.w K mg base CX0 3 (mkM t i) (spMk t i)
 | 0,_=>⟨T.F_made_stay.kp,_,_,ok_made_stay T,T.b_made_stay⟩
 | 1,_=>⟨T.F_made_slice.kp,_,_,ok_made_slice T,T.b_made_slice⟩
 | 2,_=>⟨T.F_made_pick.kp,_,_,ok_made_pick T,T.b_made_pick⟩
 | 3,_=>⟨T.F_made_turn.kp,_,_,ok_made_turn T,T.b_made_turn⟩
 | 4,_=>⟨T.F_made_fresh.kp,_,_,ok_made_fresh T,T.b_made_fresh⟩
 | 5,_=>⟨T.F_made_spread.kp,_,_,ok_made_spread T,T.b_made_spread⟩
 | 6,_=>⟨T.F_made_cut.kp,_,_,ok_made_cut T,T.b_made_cut⟩
 | 7,_=>⟨T.F_made_window.kp,_,_,ok_made_window T,T.b_made_window⟩
 | 8,_=>⟨T.F_made_diagonal.kp,_,_,ok_made_diagonal T,T.b_made_diagonal⟩
 | n+9,h=>absurd h (by omega)
def mkL (t:Adr):List (Str × V):=[("stay",.ref t.a_made_stay),("slice",.ref t.a_made_slice),("pick",.ref t.a_made_pick),("turn",.ref t.a_made_turn),("fresh",.ref t.a_made_fresh),("spread",.ref t.a_made_spread),("cut",.ref t.a_made_cut),("window",.ref t.a_made_window),("diagonal",.ref t.a_made_diagonal)]
theorem mk_at {t:Adr}:∀ {i:Nat},i < 9->valV (keyed (mkL t)) (.inr (wdM i))=some (.ref (mkM t i))
 | 0,_=>by rfl
 | 1,_=>by rfl
 | 2,_=>by rfl
 | 3,_=>by rfl
 | 4,_=>by rfl
 | 5,_=>by rfl
 | 6,_=>by rfl
 | 7,_=>by rfl
 | 8,_=>by rfl
 | n+9,h=>absurd h (by omega)
theorem wd_chain:∀ {i:Nat},i < 9->¬ wdM i=Str.ofString "chain"
 | 0,_=>by decide
 | 1,_=>by decide
 | 2,_=>by decide
 | 3,_=>by decide
 | 4,_=>by decide
 | 5,_=>by decide
 | 6,_=>by decide
 | 7,_=>by decide
 | 8,_=>by decide
 | n+9,h=>absurd h (by omega)
abbrev B_spMM (t:Adr) (r:V) (d:Int) (H:Hp) (Q:VK) (E:XK):Prop:=∃ (F:Hp) (x:Tl),TlF F H r x∧TlOk x∧∀ (v:Addr) (H':Hp),Ext H H'->MvF t H H' v x->Q (.ref v) H'
def spMM (t:Adr):Sp:=fun vs H Q E=>∃ (r:V) (d:Int),vs=[r,.int d]∧(B_spMM t r d H Q E)
theorem c_spMM (t:Adr) (r:V) (d:Int) (H:Hp) (Q:VK) (E:XK):spMM t [r,.int d] H Q E=(B_spMM t r d H Q E):=spx2 (f:=fun (r:V) (d:Int)=>[r,.int d]) (fun _ _ _ _ h=>by cases h;exact ⟨rfl,rfl⟩) r d
theorem l_spMM (t:Adr){vs:List V}{H:Hp}{Q:VK}{E:XK}(h:spMM t vs H Q E):vs.length=2:=spl2 h fun _ _=>rfl
theorem no_ok {P:Program}{w':World}{K:PySem.W.Frag}{mg:Str->Option Value}{base:Heap}{CX:CXT}{k:Nat}{f:Addr}{fd:FuncData}{ps:List Str}:FnOk P w' K mg base CX k f fd ps (fun _ _ _ _=>False):=⟨fun _ _ _ _ h=>h.elim,fun _ _ _ _ _ _ _ _ _ _ _ _ _ h=>h.elim⟩
theorem ok_made_move (T:Tx K mg t):FnOk P t.w K mg base CX0 4 t.a_made_move t.d_made_move ["told", "deep"] (spMM t):=by
 have G_refuse_told:=ok_refuse_told (P:=P) (base:=base) T
 have G_made_chain:FnOk P t.w K mg base CX0 1 t.a_made_chain t.d_made_chain ["told", "deep"] (fun _ _ _ _=>False):=no_ok
 have FD_MAKERS:=FDm (P:=P) (base:=base) T
 refine T.F_made_move.ok c_made_move (fun vs H Q E h=>l_spMM _ h) (fun cdv A outer s H vs Q E hr h=>?_)
 ·obtain ⟨r,d,rfl,F,x,⟨p,rfl,hp⟩,ok,k⟩:=h
  refine ⟨_,(@pss_cons _ _ _ _ _ (@ps_expr _ _ _ _ (@pe_call _ _ _ _ _ _ _ _ _ _ _ _ _ _ _ _ G_refuse_told (hr.mono (by decide)) (by rfl) T.m_refuse_told T.F_refuse_told.kp T.b_refuse_told .nil pass0 (@pa_c _ _ _ _ _ (@pe_andN _ _ _ _ _ _ _ (@pe_callB _ _ _ _ _ _ _ ("isinstance") _ call_qIsi (by rfl) T.z_isinstance (by decide +kernel) (@pa_c _ _ _ _ _ (@pvN _ 0 _ _ (by rfl) (by trivial) (by decide) (by decide)) (@pa_c _ _ _ _ _ (@pe_bltn _ _ (.ty "tuple") (.type "tuple") _ (by rfl) T.z_tuple (by decide +kernel) rfl (by decide) (by decide)) (@pa_nil _) (by rfl)) (by rfl)) (by decide) (by decide) (by rfl) (by rfl)) (@pe_andN _ _ _ _ _ _ _ (@pe_cmpR _ _ _ _ _ _ _ _ on_gt (@pe_callB _ _ _ _ _ _ _ ("len") _ call_qLen (by rfl) T.z_len (by decide +kernel) (@pa_c _ _ _ _ _ (@pvN _ 0 _ _ (by rfl) (by trivial) (by decide) (by decide)) (@pa_nil _) (by rfl)) (by decide) (by decide) (by rfl) (by rfl)) (@pe_int _ _ _ _) (nomark _)) (@pe_one _ _ _ _ _ (@pe_callB _ _ _ _ _ _ _ ("isinstance") _ call_qIsi (by rfl) T.z_isinstance (by decide +kernel) (@pa_c _ _ _ _ _ (@pe_ix _ _ _ _ _ _ _ ix_q (@pvN _ 0 _ _ (by rfl) (by trivial) (by decide) (by decide)) (@pe_int _ _ _ _) (fun _ _=>rfl)) (@pa_c _ _ _ _ _ (@pe_bltn _ _ (.ty "str") (.type "str") _ (by rfl) T.z_str (by decide +kernel) rfl (by decide) (by decide)) (@pa_nil _) (by rfl)) (by rfl)) (by decide) (by decide) (by rfl) (by rfl))))) (@pa_nil _) (by rfl)) (by decide) (by rfl) (by rfl)) (by rfl)) (@pss_cons _ _ _ _ _ (@ps_if _ _ _ _ _ _ _ _ (@pt_cmpRN _ _ _ _ _ _ _ _ (op_qEq hr.units) (@pe_ix _ _ _ _ _ _ _ ix_q (@pvN _ 0 _ _ (by rfl) (by trivial) (by decide) (by decide)) (@pe_int _ _ _ _) (fun _ _=>rfl)) (@pe_str _ _ _ _) (nomark _)) (@pss_one _ _ _ (@ps_ret _ _ _ _ (@pe_call _ _ _ _ _ _ _ _ _ _ _ _ _ _ _ _ G_made_chain (hr.mono (by decide)) (by rfl) T.m_made_chain T.F_made_chain.kp T.b_made_chain .nil pass0 (@pa_c _ _ _ _ _ (@pvN _ 0 _ _ (by rfl) (by trivial) (by decide) (by decide)) (@pa_c _ _ _ _ _ (@pe_op _ _ _ _ _ _ _ _ on_add (@pvN _ 1 _ _ (by rfl) (by trivial) (by decide) (by decide)) (@pe_int _ _ _ _)) (@pa_nil _) (by rfl)) (by rfl)) (by decide) (by rfl) (by rfl)))) (@pss_nil _)) (@pss_cons _ _ _ _ _ (@ps_expr _ _ _ _ (@pe_call _ _ _ _ _ _ _ _ _ _ _ _ _ _ _ _ G_refuse_told (hr.mono (by decide)) (by rfl) T.m_refuse_told T.F_refuse_told.kp T.b_refuse_told .nil pass0 (@pa_c _ _ _ _ _ (@pe_cmpR _ _ _ _ _ _ _ _ op_inK (@pe_ix _ _ _ _ _ _ _ ix_q (@pvN _ 0 _ _ (by rfl) (by trivial) (by decide) (by decide)) (@pe_int _ _ _ _) (fun _ _=>rfl)) (@pe_glob _ _ (.ref t.a_MAKERS) _ _ (by rfl) T.m_MAKERS rfl (by decide)) (by with_unfolding_all rfl)) (@pa_nil _) (by rfl)) (by decide) (by rfl) (by rfl)) (by rfl)) (@pss_one _ _ _ (@ps_ret _ _ _ _ (@pe_callV _ _ _ _ _ _ _ _ _ _ _ _ _ (@pe_dgetK _ _ _ _ _ _ (@pe_glob _ _ (.ref t.a_MAKERS) _ _ (by rfl) T.m_MAKERS rfl (by decide)) (@pe_ix _ _ _ _ _ _ _ ix_q (@pvN _ 0 _ _ (by rfl) (by trivial) (by decide) (by decide)) (@pe_int _ _ _ _) (fun _ _=>rfl)) (fun _ _=>rfl)) FD_MAKERS (hr.mono (by decide)) pass0 (@pa_c _ _ _ _ _ (@pvN _ 0 _ _ (by rfl) (by trivial) (by decide) (by decide)) (@pa_nil _) (by rfl)) (by rfl) (by rfl) (by rfl))))))),?_⟩
  rw [show start ["told", "deep"] [.ref p,.int d]=[some (.ref p),some (.int d)] from rfl]
  clear G_refuse_told G_made_chain FD_MAKERS
  have hM:DicK t.w K t.a_MAKERS (mkL t):=T.d_MAKERS
  replace k:=fun (_:Unit)=>k
  have hw:=wd_chain ok.k
  have hv:=mk_at (t:=t) ok.k
  have h9:=ok.k
  have h8:=ok.m
  replace ok:=fun (_:Unit)=>ok
  replace hv:=fun (_:Unit)=>hv
  replace hM:=fun (_:Unit)=>hM
  rcases hp with ⟨h3,hp⟩|⟨h3,l,hp,_,hl⟩
  ·have hlen:(x.2.map oV).length+1≤sizeLine:=len5000 (by rw [List.length_map];omega)
   simp! only [and_true]
   rw [if_pos (by omega),c_spRT]
   refine ⟨rfl,?_⟩
   simp! only [and_true]
   refine use_inK (hM ()) ?_
   rw [hv ()]
   simp! only [and_true]
   rw [c_spRT]
   refine ⟨rfl,?_⟩
   simp! only [and_true]
   refine use_dgK (hM ()) (hv ()) ?_
   refine use_callV x.1 h9 rfl ?_
   simp! only [and_true]
   rw [spMk_ne h3,c_spMd]
   exact ⟨_,x.2,hp,ok (),fun v H' e mv=>k () v H' e mv⟩
  ·have hw3:wdM x.1=Str.ofString "turn":=by rw [h3];rfl
   rw [hw3] at hw hv
   simp! only [and_true]
   rw [c_spRT]
   refine ⟨rfl,?_⟩
   simp! only [and_true]
   refine use_inK (hM ()) ?_
   rw [hv ()]
   simp! only [and_true]
   rw [c_spRT]
   refine ⟨rfl,?_⟩
   simp! only [and_true]
   refine use_dgK (hM ()) (hv ()) ?_
   refine use_callV x.1 h9 rfl ?_
   simp! only [and_true]
   rw [show spMk t 3=spMdT t from rfl,c_spMdT]
   have ex:x=(3,x.2):=by rw [←h3]
   exact ⟨_,l,x.2,hp,hl,by rw [←ex];exact ok (),fun v H' e mv=>k () v H' e (by rw [ex];exact mv)⟩
theorem MvF.fm {t:Adr}{H Hi H':Hp}{m v:Addr}{x:Tl}{o o':HO}(h:MvF t Hi H' v x) (e:Ext H Hi) (hm:Hi m=some o'):MvF t (upd H m o) H' v x:=by
 rcases h with ⟨h1,dx,h2⟩|⟨h1,dx,l,h2,h3,h4⟩
 ·exact .inl ⟨h1,dx,h2⟩
 ·refine .inr ⟨h1,dx,l,h2,?_,h4⟩
  rw [upd_ne (fun z=>by rw [z,hm] at h3;cases h3)]
  exact e.free h3
theorem MvF.put {t:Adr}{H H':Hp}{m v:Addr}{x:Tl}{o o':HO}{ys:List V}(h:MvF t (upd H m o) H' v x) (hm:H' m=some (.lst ys)):MvF t (upd H m o) (upd H' m o') v x:=by
 rcases h with ⟨h1,dx,h2⟩|⟨h1,dx,l,h2,h3,h4⟩
 ·exact .inl ⟨h1,dx,by rw [upd_ne (fun z=>by rw [z,hm] at h2;cases h2)];exact h2⟩
 ·refine .inr ⟨h1,dx,l,by rw [upd_ne (fun z=>by rw [z,hm] at h2;cases h2)];exact h2,h3,?_⟩
  rw [upd_ne (fun z=>by rw [z,upd_same] at h3;cases h3)]
  exact h4
def MvV (t:Adr) (F H:Hp) (y:V) (x:Tl):Prop:=∃ v,y=.ref v∧MvF t F H v x
theorem MvV.ext {t:Adr}{F H H':Hp}{y:V}{x:Tl}(h:MvV t F H y x) (e:Ext H H'):MvV t F H' y x:=by
 obtain ⟨v,h1,h2⟩:=h
 exact ⟨v,h1,h2.ext e⟩
theorem MvV.less {t:Adr}{F F' H:Hp}{y:V}{x:Tl}(h:MvV t F H y x) (e:Ext F' F):MvV t F' H y x:=by
 obtain ⟨v,h1,h2⟩:=h
 exact ⟨v,h1,h2.less e⟩
def ChF (t:Adr) (F H:Hp) (v:Addr) (xs:List Tl):Prop:=∃ (dx l:Addr) (vs:List V),H v=some (.ins t.a_Chain dx [("moves",.ref l)])∧F l=none∧H l=some (.lst vs)∧Al (fun x v=>MvV t F H v x) xs vs
def TcF (F H:Hp) (r:V) (xs:List Tl):Prop:=∃ (p l:Addr) (rs:List V),r=.ref p∧H p=some (.tup [.str "chain",.ref l])∧F l=none∧H l=some (.lst rs)∧Al (fun x y=>TlF F H y x) xs rs
theorem isC9 {K:PySem.W.Frag}{mg:Str->Option Value}{t:Adr}(T:Tx K mg t):∀ {i:Nat},i < 9->IsC K (clM t i)∧PySem.W.kitOne K (.ref (clM t i)) (.ref t.a_Chain)=some false
 | 0,_=>⟨T.is_Move,T.k_Move_Chain⟩
 | 1,_=>⟨T.is_Slice,T.k_Slice_Chain⟩
 | 2,_=>⟨T.is_Pick,T.k_Pick_Chain⟩
 | 3,_=>⟨T.is_Turn,T.k_Turn_Chain⟩
 | 4,_=>⟨T.is_Fresh,T.k_Fresh_Chain⟩
 | 5,_=>⟨T.is_Spread,T.k_Spread_Chain⟩
 | 6,_=>⟨T.is_Cut,T.k_Cut_Chain⟩
 | 7,_=>⟨T.is_Window,T.k_Window_Chain⟩
 | 8,_=>⟨T.is_Diagonal,T.k_Diagonal_Chain⟩
 | n+9,h=>absurd h (by omega)
theorem MvF.cls {t:Adr}{F H:Hp}{v:Addr}{x:Tl}(h:MvF t F H v x):∃ dx fs,H v=some (.ins (clM t x.1) dx fs):=by
 rcases h with ⟨h1,dx,h2⟩|⟨h1,dx,l,h2,_⟩
 ·exact ⟨dx,_,h2⟩
 ·exact ⟨dx,_,by rw [h1];exact h2⟩
abbrev B_spOth (t:Adr) (v:Addr) (H:Hp) (Q:VK) (E:XK):Prop:=∃ (F:Hp) (x:Tl),MvF t F H v x∧x.1 < 9∧Q (.int 1) H
def spOth (t:Adr):Sp:=fun vs H Q E=>∃ (v:Addr),vs=[.ref v]∧(B_spOth t v H Q E)
theorem c_spOth (t:Adr) (v:Addr) (H:Hp) (Q:VK) (E:XK):spOth t [.ref v] H Q E=(B_spOth t v H Q E):=spx1 (f:=fun (v:Addr)=>[.ref v]) (fun _ _ h=>by cases h;exact rfl) v
theorem l_spOth (t:Adr){vs:List V}{H:Hp}{Q:VK}{E:XK}(h:spOth t vs H Q E):vs.length=1:=spl1 h fun _=>rfl
theorem ok_others_in (T:Tx K mg t):FnOk P t.w K mg base CX0 2 t.a_others_in t.d_others_in ["move"] (spOth t):=by
 have G_others_in:FnOk P t.w K mg base CX0 1 t.a_others_in t.d_others_in ["move"] (fun _ _ _ _=>False):=no_ok
 refine T.F_others_in.ok c_others_in (fun vs H Q E h=>l_spOth _ h) (fun cdv A outer s H vs Q E hr h=>?_)
 ·obtain ⟨v,rfl,F,x,mv,h9,k⟩:=h
  refine ⟨_,(@pss_cons _ _ _ _ _ (@ps_if _ _ _ _ _ _ _ _ (@pt_valN _ _ _ (@pe_callB _ _ _ _ _ _ _ ("isinstance") _ (call_nIsK (K:=K) rfl) (by rfl) T.z_isinstance (by decide +kernel) (@pa_c _ _ _ _ _ (@pvN _ 0 _ _ (by rfl) (by trivial) (by decide) (by decide)) (@pa_c _ _ _ _ _ (@pe_glob _ _ (.ref t.a_Chain) _ _ (by rfl) T.m_Chain rfl (by decide)) (@pa_nil _) (by rfl)) (by rfl)) (by decide) (by decide) (by rfl) (by rfl)) (by intros;rfl)) (@pss_one _ _ _ (@ps_ret _ _ _ _ (@pe_callB _ _ _ _ _ _ _ ("sum") _ (call_qSum rfl) (by rfl) T.z_sum (by decide +kernel) (@pa_c _ _ _ _ _ (@pe_comp _ _ _ _ _ _ _ _ _ _ _ (["part", "move"]) (1) (comp_ok (defScope s_others_in) ["move"] rfl rfl (by decide +kernel)) rfl (@pi_seq _ _ _ _ (@pe_nFld _ _ _ _ _ (@pvN _ 0 _ _ (by rfl) (by trivial) (by decide) (by decide)) rfl)) (fun C s₀ H₀ ex pn=>(@pg_name _ _ (0) _ (show List.Nodup (["part", "move"]:List Str) from by decide +kernel) rfl (Or.inl rfl) (by trivial))) (fun C s₀ H₀ ex pn=>(@pts_nil _)) (fun C s₀ H₀ ex pn=>(@pe_call _ _ _ _ _ _ _ _ _ _ _ _ _ _ _ _ G_others_in (hr.mono (by decide)) (by rfl) T.m_others_in T.F_others_in.kp T.b_others_in .nil pass0 (@pa_c _ _ _ _ _ (@pvN _ 0 _ _ (by rfl) (by trivial) (by decide) (by decide)) (@pa_nil _) (by rfl)) (by decide) (by rfl) (by rfl))) (by intros;rfl)) (@pa_nil _) (by rfl)) (by decide) (by decide) (by rfl) (by rfl)))) (@pss_nil _)) (@pss_one _ _ _ (@ps_ret _ _ _ _ (@pe_int _ _ _ _)))),?_⟩
  rw [show start ["move"] [.ref v]=[some (.ref v)] from rfl]
  clear G_others_in
  obtain ⟨dx,fs,hv⟩:=mv.cls
  obtain ⟨i1,i2⟩:=isC9 T h9
  simp! only [and_true]
  refine use_isK hv i1 i2 ?_
  simp! only [and_true]
abbrev B_spMC (t:Adr) (r:V) (d:Int) (H:Hp) (Q:VK) (E:XK):Prop:=∃ (F:Hp) (xs:List Tl),TcF F H r xs∧(∀ x∈xs,TlOk x)∧xs.length≤40∧d=1∧∀ (v:Addr) (H':Hp),Ext H H'->ChF t H H' v xs->Q (.ref v) H'
def spMC (t:Adr):Sp:=fun vs H Q E=>∃ (r:V) (d:Int),vs=[r,.int d]∧(B_spMC t r d H Q E)
theorem c_spMC (t:Adr) (r:V) (d:Int) (H:Hp) (Q:VK) (E:XK):spMC t [r,.int d] H Q E=(B_spMC t r d H Q E):=spx2 (f:=fun (r:V) (d:Int)=>[r,.int d]) (fun _ _ _ _ h=>by cases h;exact ⟨rfl,rfl⟩) r d
theorem l_spMC (t:Adr){vs:List V}{H:Hp}{Q:VK}{E:XK}(h:spMC t vs H Q E):vs.length=2:=spl2 h fun _ _=>rfl
theorem ok_made_chain (T:Tx K mg t):FnOk P t.w K mg base CX0 5 t.a_made_chain t.d_made_chain ["told", "deep"] (spMC t):=by
 have G_refuse_told:=ok_refuse_told (P:=P) (base:=base) T
 have G_list_in:=ok_list_in (P:=P) (base:=base) T
 have G_made_move:=ok_made_move (P:=P) (base:=base) T
 have G_others_in:=ok_others_in (P:=P) (base:=base) T
 have G_Chain___init__:=ok_Chain___init__ (P:=P) (base:=base) T
 refine T.F_made_chain.ok c_made_chain (fun vs H Q E h=>l_spMC _ h) (fun cdv A outer s H vs Q E hr h=>?_)
 ·obtain ⟨r,d,rfl,F,xs,⟨p,l,rs,rfl,hp,_,hl,al⟩,ok,h40,rfl,k⟩:=h
  refine ⟨_,(@pss_cons _ _ _ _ _ (@ps_set _ _ (2) _ _ _ _ c_made_chain.nd rfl (Or.inl rfl) (@pe_call _ _ _ _ _ _ _ _ _ _ _ _ _ _ _ _ G_list_in (hr.mono (by decide)) (by rfl) T.m_list_in T.F_list_in.kp T.b_list_in .nil pass0 (@pa_c _ _ _ _ _ (@pvN _ 0 _ _ (by rfl) (by trivial) (by decide) (by decide)) (@pa_nil _) (by rfl)) (by decide) (by rfl) (by rfl)) (by rfl) (by trivial)) (@pss_cons _ _ _ _ _ (@ps_expr _ _ _ _ (@pe_call _ _ _ _ _ _ _ _ _ _ _ _ _ _ _ _ G_refuse_told (hr.mono (by decide)) (by rfl) T.m_refuse_told T.F_refuse_told.kp T.b_refuse_told .nil pass0 (@pa_c _ _ _ _ _ (@pe_andN _ _ _ _ _ _ _ (@pe_cmpR _ _ _ _ _ _ _ _ on_le (@pvN _ 1 _ _ (by rfl) (by trivial) (by decide) (by decide)) (@pe_glob _ _ (.int 4) _ _ (by rfl) T.m_MOST_DEEP.choose_spec ⟨_,rfl⟩ (by decide)) (nomark _)) (@pe_one _ _ _ _ _ (@pe_cmpR _ _ _ _ _ _ _ _ on_le (@pe_callB _ _ _ _ _ _ _ ("len") _ call_qLen (by rfl) T.z_len (by decide +kernel) (@pa_c _ _ _ _ _ (@pvN _ 2 _ _ (by rfl) (by trivial) (by decide) (by decide)) (@pa_nil _) (by rfl)) (by decide) (by decide) (by rfl) (by rfl)) (@pe_glob _ _ (.int 40) _ _ (by rfl) T.m_MOST_MOVES.choose_spec ⟨_,rfl⟩ (by decide)) (nomark _)))) (@pa_nil _) (by rfl)) (by decide) (by rfl) (by rfl)) (by rfl)) (@pss_cons _ _ _ _ _ (@ps_set _ _ (3) _ _ _ _ c_made_chain.nd rfl (Or.inl rfl) (@pe_qLst _ _ _ _ (@pa_nil _)) (by rfl) (by trivial)) (@pss_cons _ _ _ _ _ (@ps_set _ _ (4) _ _ _ _ c_made_chain.nd rfl (Or.inl rfl) (@pe_int _ _ _ _) (by rfl) (by trivial)) (@pss_cons _ _ _ _ _ (@ps_for _ _ _ _ _ _ _ _ PassesOwn.never rfl (@pi_seq _ _ _ _ (@pvN _ 2 _ _ (by rfl) (by trivial) (by decide) (by decide))) (@pg_name _ _ (5) _ c_made_chain.nd rfl (Or.inl rfl) (by trivial)) (@pss_cons _ _ _ _ _ (@ps_set _ _ (6) _ _ _ _ c_made_chain.nd rfl (Or.inl rfl) (@pe_call _ _ _ _ _ _ _ _ _ _ _ _ _ _ _ _ G_made_move (hr.mono (by decide)) (by rfl) T.m_made_move T.F_made_move.kp T.b_made_move .nil pass0 (@pa_c _ _ _ _ _ (@pvN _ 5 _ _ (by rfl) (by trivial) (by decide) (by decide)) (@pa_c _ _ _ _ _ (@pvN _ 1 _ _ (by rfl) (by trivial) (by decide) (by decide)) (@pa_nil _) (by rfl)) (by rfl)) (by decide) (by rfl) (by rfl)) (by rfl) (by trivial)) (@pss_cons _ _ _ _ _ (@ps_set _ _ (4) _ _ _ _ c_made_chain.nd rfl (Or.inl rfl) (@pe_op _ _ _ _ _ _ _ _ on_add (@pvN _ 4 _ _ (by rfl) (by trivial) (by decide) (by decide)) (@pe_call _ _ _ _ _ _ _ _ _ _ _ _ _ _ _ _ G_others_in (hr.mono (by decide)) (by rfl) T.m_others_in T.F_others_in.kp T.b_others_in .nil pass0 (@pa_c _ _ _ _ _ (@pvN _ 6 _ _ (by rfl) (by trivial) (by decide) (by decide)) (@pa_nil _) (by rfl)) (by decide) (by rfl) (by rfl))) (by rfl) (by trivial)) (@pss_cons _ _ _ _ _ (@ps_expr _ _ _ _ (@pe_call _ _ _ _ _ _ _ _ _ _ _ _ _ _ _ _ G_refuse_told (hr.mono (by decide)) (by rfl) T.m_refuse_told T.F_refuse_told.kp T.b_refuse_told .nil pass0 (@pa_c _ _ _ _ _ (@pe_cmpR _ _ _ _ _ _ _ _ on_le (@pvN _ 4 _ _ (by rfl) (by trivial) (by decide) (by decide)) (@pe_glob _ _ (.int 40) _ _ (by rfl) T.m_MOST_MOVES.choose_spec ⟨_,rfl⟩ (by decide)) (nomark _)) (@pa_nil _) (by rfl)) (by decide) (by rfl) (by rfl)) (by rfl)) (@pss_one _ _ _ (@ps_expr _ _ _ _ (@pe_bm _ _ _ _ _ _ _ _ _ _ _ _ PySem.F.plainAttrs_list PySem.F.slot_list_append PySem.F.type_list_append mt_append (@pvN _ 3 _ _ (by rfl) (by trivial) (by decide) (by decide)) (@pa_c _ _ _ _ _ (@pvN _ 6 _ _ (by rfl) (by trivial) (by decide) (by decide)) (@pa_nil _) (by rfl)) (by rfl) (by rfl) (by rfl) (by rfl) (by rfl)) (by rfl)))))) (by intros;rfl)) (@pss_one _ _ _ (@ps_ret _ _ _ _ (@pe_nMake _ _ _ _ _ _ _ _ _ _ _ _ _ _ _ _ _ T.mk_Chain G_Chain___init__ (hr.mono (by decide)) (by rfl) T.m_Chain T.b_Chain___init__ .nil pass0 (@pa_c _ _ _ _ _ (@pvN _ 3 _ _ (by rfl) (by trivial) (by decide) (by decide)) (@pa_nil _) (by rfl)) (by decide) (by rfl) (by rfl))))))))),?_⟩
  rw [show start ["told", "deep", "parts", "moves", "others", "part", "move"] [.ref p,.int 1]=[some (.ref p),some (.int 1),none,none,none,none,none] from rfl]
  clear G_refuse_told G_list_in G_made_move G_others_in G_Chain___init__
  replace k:=fun (_:Unit)=>k
  replace ok:=fun (_:Unit)=>ok
  have hrl:rs.length=xs.length:=al.1
  replace hrl:=fun (_:Unit)=>hrl
  simp! only [and_true]
  rw [c_spLstIn]
  refine ⟨_,l,_,hp,hl,?_⟩
  have hr40:(rs.length:Int)≤40:=by have:=hrl ();omega
  simp! only [and_true]
  rw [c_spRT]
  refine ⟨rfl,?_⟩
  simp! only [and_true]
  intro m H1 hm e1 h1
  have hl1:=e1.at hl
  simp! only [and_true]
  refine for_lst (xs:=rs) (fun i σ H'=>∃ (vs:List V) (v5 v6:Option V),σ=[some (.ref p),some (.int 1),some (.ref l),some (.ref m),some (.int (i:Int)),v5,v6]∧Ext H H'∧H' m=some (.lst vs)∧Al (fun x v=>MvV t (upd H m (.lst [])) H' v x) (xs.take i) vs) ⟨[],none,none,rfl,e1,h1,by rw [List.take_zero];exact Al.nil⟩ (fun i σ H' _ ⟨_,_,_,_,e,_⟩=>e.at hl) ?_ ?_
  ·rintro i y _ H2 hi ⟨vs,v5,v6,rfl,e2,h2,al2⟩
   have hi':i < rs.length:=(List.getElem?_eq_some_iff.mp hi).1
   have hix:i < xs.length:=by have:=hrl ();omega
   have hx:xs[i]? = some xs[i]:=List.getElem?_eq_getElem hix
   have ty:=(al.2 i _ y hx hi).ext e2
   have okx:=ok () _ (List.getElem_mem hix)
   have htk:xs.take (i+1)=xs.take i++[xs[i]]:=by rw [List.take_succ,hx];rfl
   generalize xs[i]=x at ty okx htk hx
   clear hl1
   simp! only [↓m_kBody]
   rw [c_spMM]
   refine ⟨F,x,ty,okx,fun v H3 e3 mv=>?_⟩
   have h3:=e3.at h2
   simp! only [and_true]
   rw [c_spOth]
   refine ⟨_,x,mv,okx.k,?_⟩
   have hle:(i:Int)+1≤40:=by have:=hrl ();omega
   have hvl:vs.length < 5000:=by rw [al2.1,List.length_take];omega
   simp! only [and_true]
   rw [c_spRT]
   refine ⟨rfl,?_⟩
   simp! only [and_true]
   refine ⟨lt5000 hvl,vs++[V.ref v],_,_,rfl,(e2.trans e3).put hm,rfl,?_⟩
   refine Al.snoc (al2.imp fun _ _ q=>?_) ⟨v,rfl,(mv.fm e2 h2).put h3⟩
   obtain ⟨u,q1,q2⟩:=q
   exact ⟨u,q1,(q2.ext e3).put h3⟩
  ·rintro _ H2 ⟨vs,v5,v6,rfl,e2,h2,al2⟩
   rw [hrl (),List.take_length] at al2
   simp! only [and_true]
   intro v dx G hx hd hq g k1 kk
   rw [c_spInChain]
   refine ⟨dx,_,k1,g.at h2,by rw [al2.1];omega,fun H3 D gg hD h3 d3=>?_⟩
   have j:=gg H2 g hx
   have fr:H D=none:=e2.free (g.free hD)
   clear k1 kk hd hq gg hD
   simp! only [and_true]
   exact k () v H3 (e2.trans j) ⟨dx,D,vs,h3,fr,d3,al2.imp fun _ _ q=>(q.ext j).less (Ext.new hm)⟩
abbrev B_spTldC (t:Adr) (v:Addr) (H:Hp) (Q:VK) (E:XK):Prop:=∃ (F:Hp) (xs:List Tl),ChF t F H v xs∧(∀ x∈xs,TlOk x)∧xs.length≤40∧∀ (r:V) (H':Hp),Ext H H'->TcF H H' r xs->Q r H'
def spTldC (t:Adr):Sp:=fun vs H Q E=>∃ (v:Addr),vs=[.ref v]∧(B_spTldC t v H Q E)
theorem l_spTldC (t:Adr){vs:List V}{H:Hp}{Q:VK}{E:XK}(h:spTldC t vs H Q E):vs.length=1:=spl1 h fun _=>rfl
theorem ok_Chain_told (T:Tx K mg t):FnOk P t.w K mg base CX0 2 t.a_Chain_told t.d_Chain_told ["self"] (spTldC t):=by
 have MD_told:=MDt (P:=P) (base:=base) T
 refine T.F_Chain_told.ok c_Chain_told (fun vs H Q E h=>l_spTldC _ h) (fun cdv A outer s H vs Q E hr h=>?_)
 ·obtain ⟨v,rfl,F,xs,⟨dx,l,vs,hv,_,hl,al⟩,ok,h40,k⟩:=h
  have c9:=T.cl_Chain
  have n0:=T.na_Chain_moves
  have l0:([("moves",V.ref l)]:List (Str × V)).lookup (Str.ofString "moves")=some (V.ref l):=by rfl
  refine ⟨_,(@pss_one _ _ _ (@ps_ret _ _ _ _ (@pe_qTup _ _ _ _ _ (@pa_c _ _ _ _ _ (@pe_str _ _ _ _) (@pa_c _ _ _ _ _ (@pe_comp _ _ _ _ _ _ _ _ _ _ _ (["move", "self"]) (1) (comp_ok (defScope s_Chain_told) ["self"] rfl rfl (by decide +kernel)) rfl (@pi_seq _ _ _ _ (@pe_nFld _ _ _ _ _ (@pvN _ 0 _ _ (by rfl) (by trivial) (by decide) (by decide)) rfl)) (fun C s₀ H₀ ex pn=>(@pg_name _ _ (0) _ (show List.Nodup (["move", "self"]:List Str) from by decide +kernel) rfl (Or.inl rfl) (by trivial))) (fun C s₀ H₀ ex pn=>(@pts_nil _)) (fun C s₀ H₀ ex pn=>(@pe_nMethD _ _ _ _ _ _ _ _ _ _ _ _ _ (@pvN _ 0 _ _ (by rfl) (by trivial) (by decide) (by decide)) MD_told (hr.mono (by decide)) pass0 (by rfl))) (by intros;rfl)) (@pa_nil _) (by rfl)) (by rfl))))),?_⟩
  rw [show start ["self"] [.ref v]=[some (.ref v)] from rfl]
  clear MD_told
  replace k:=fun (_:Unit)=>k
  replace ok:=fun (_:Unit)=>ok
  simp! only [and_true]
  have wk:=wk_al (K:=K) (R:=fun x y H=>MvV t F H y x) (fun _ _ _ _ h e=>h.ext e) hl al
  refine comp_rel xs (fun _=>true) (fun x y H=>MvV t F H y x) (fun D x y H'=>∃ p,y=.ref p∧p ≠ D∧((x.1 ≠ 3∧H' p=some (.tup (.str (wdM x.1)::x.2.map oV)))∨(x.1=3∧∃ l,l ≠ D∧H' p=some (.tup [.str "turn",.ref l])∧H l=none∧H' l=some (.lst (x.2.map oV))))) wk.1 wk.2 (fun D _ y H1 H2 ⟨p,h1,h2,h3⟩ e=>⟨p,h1,h2,?_⟩) (fun D _ y H1 o ⟨p,h1,h2,h3⟩=>⟨p,h1,h2,?_⟩) (len5000 (by omega)) ?_ ?_
  ·rcases h3 with ⟨a,b⟩|⟨a,l,b,c,d,f⟩
   ·exact .inl ⟨a,e.at b⟩
   ·exact .inr ⟨a,l,b,e.at c,d,e.at f⟩
  ·rcases h3 with ⟨a,b⟩|⟨a,l,b,c,d,f⟩
   ·exact .inl ⟨a,by rw [upd_ne h2];exact b⟩
   ·exact .inr ⟨a,l,b,by rw [upd_ne h2];exact c,d,by rw [upd_ne b];exact f⟩
  ·intro D x y H' N1 N0 hx hD e ⟨ys0,hys0⟩ ⟨u,hy,mv⟩ k1 _
   subst hy
   have k1':=k1 rfl
   have okx:=ok () x hx
   clear k1
   simp! only [↓m_kCm_1,↓m_kCm2]
   refine use_told mv okx fun r H'' e' tl=>k1' r H'' e' ?_
   obtain ⟨p,h0,⟨h1,h2⟩|⟨h1,l',h2,h3,h4⟩⟩:=tl
   ·exact ⟨p,h0,(fun z=>by rw [z,e'.at hys0] at h2;cases h2),.inl ⟨h1,h2⟩⟩
   ·exact ⟨p,h0,(fun z=>by rw [z,e'.at hys0] at h2;cases h2),.inr ⟨h1,l',(fun z=>by rw [z,hys0] at h3;cases h3),h2,e.free h3,h4⟩⟩
  ·intro D zs H2 hD e2 hD2 al2
   rw [filt] at al2
   clear wk
   simp! only [and_true]
   intro p H3 _ e3 h3
   refine k () _ H3 (e2.trans e3) ⟨p,D,zs,rfl,h3,hD,e3.at hD2,al2.imp fun x y q=>?_⟩
   obtain ⟨p',q0,q1,⟨a,b⟩|⟨a,l',b,c,d,f⟩⟩:=q
   ·exact ⟨p',q0,.inl ⟨a,e3.at b⟩⟩
   ·exact ⟨p',q0,.inr ⟨a,l',e3.at c,d,e3.at f⟩⟩
def spTd2 (t:Adr):Nat->Sp
 | 9=>spTldC t
 | i=>spTd t i
theorem MDt2 {P:Program}{K:PySem.W.Frag}{mg:Str->Option Value}{base:Heap}{t:Adr}(T:Tx K mg t):∀ i,i < 10->MD P t.w K mg base CX0 2 "told" (clM t i) (spTd2 t i):=fun i hi=>by
 by_cases h:i < 9
 ·obtain ⟨c,f,fd,ps,h1,h2,h3⟩:=MDt (P:=P) (base:=base) T i h
  have e:spTd2 t i=spTd t i:=by unfold spTd2;split;omega;rfl
  exact ⟨c,f,fd,ps,h1,by rw [e];exact h2.mono (by decide),h3⟩
 ·obtain rfl:i=9:=by omega
  exact ⟨T.cl_Chain,_,_,_,T.mt_Chain_told,ok_Chain_told T,T.b_Chain_told⟩
theorem use_told2 {t:Adr}{F H:Hp}{v:Addr}{x:Tl}{E:XK}{Q:VK}(h:MvF t F H v x) (ok:TlOk x) (q:∀ (r:V) (H':Hp),Ext H H'->TlF H H' r x->Q r H'):kMethD 10 (clM t) "told" (spTd2 t) E Q (.ref v) H:=by
 obtain ⟨a,i,dx,fs,h1,h2,h3,h4,h5⟩:=use_told (E:=E) h ok q
 have e:spTd2 t i=spTd t i:=by unfold spTd2;split;omega;rfl
 exact ⟨a,i,dx,fs,h1,by omega,h3,h4,by rw [e];exact h5⟩
theorem use_toldC {t:Adr}{F H:Hp}{v:Addr}{xs:List Tl}{E:XK}{Q:VK}(h:ChF t F H v xs) (ok:∀ x∈xs,TlOk x) (h40:xs.length≤40) (q:∀ (r:V) (H':Hp),Ext H H'->TcF H H' r xs->Q r H'):kMethD 10 (clM t) "told" (spTd2 t) E Q (.ref v) H:=by
 obtain ⟨dx,l,vs,h1,h2,h3,h4⟩:=id h
 exact ⟨v,9,dx,_,rfl,by decide,h1,by rfl,v,rfl,F,xs,h,ok,h40,q⟩
def MvG (t:Adr) (F H:Hp) (v:Addr) (xs:List Tl):Prop:=(∃ x,xs=[x]∧MvF t F H v x)∨(2≤xs.length∧ChF t F H v xs)
def TlG (F H:Hp) (r:V) (xs:List Tl):Prop:=(∃ x,xs=[x]∧TlF F H r x)∨(2≤xs.length∧TcF F H r xs)
structure XsOk (xs:List Tl):Prop where
 ok:∀ x∈xs,TlOk x
 n:xs.length≤40
theorem use_toldG {t:Adr}{F H:Hp}{v:Addr}{xs:List Tl}{E:XK}{Q:VK}(h:MvG t F H v xs) (ok:XsOk xs) (q:∀ (r:V) (H':Hp),Ext H H'->TlG H H' r xs->Q r H'):kMethD 10 (clM t) "told" (spTd2 t) E Q (.ref v) H:=by
 rcases h with ⟨x,rfl,h2⟩|⟨h1,h2⟩
 ·exact use_told2 h2 (ok.ok x List.mem_cons_self) fun r H' e tl=>q r H' e (.inl ⟨x,rfl,tl⟩)
 ·exact use_toldC h2 ok.ok ok.n fun r H' e tl=>q r H' e (.inr ⟨h1,tl⟩)
abbrev B_spMG (t:Adr) (r:V) (d:Int) (H:Hp) (Q:VK) (E:XK):Prop:=∃ (F:Hp) (xs:List Tl),TlG F H r xs∧XsOk xs∧d=0∧∀ (v:Addr) (H':Hp),Ext H H'->MvG t H H' v xs->Q (.ref v) H'
def spMG (t:Adr):Sp:=fun vs H Q E=>∃ (r:V) (d:Int),vs=[r,.int d]∧(B_spMG t r d H Q E)
theorem c_spMG (t:Adr) (r:V) (d:Int) (H:Hp) (Q:VK) (E:XK):spMG t [r,.int d] H Q E=(B_spMG t r d H Q E):=spx2 (f:=fun (r:V) (d:Int)=>[r,.int d]) (fun _ _ _ _ h=>by cases h;exact ⟨rfl,rfl⟩) r d
theorem ok2_made_move (T:Tx K mg t):FnOk P t.w K mg base CX0 6 t.a_made_move t.d_made_move ["told", "deep"] (spMG t):=by
 have G_refuse_told:=ok_refuse_told (P:=P) (base:=base) T
 have G_made_chain:=ok_made_chain (P:=P) (base:=base) T
 have FD_MAKERS:=FDm (P:=P) (base:=base) T
 have G0:=(ok_made_move (P:=P) (base:=base) T).mono (show 4≤6 by decide)
 have GC:FnOk P t.w K mg base CX0 6 t.a_made_move t.d_made_move ["told", "deep"] (fun vs H Q E=>∃ (r:V) (d:Int),vs=[r,.int d]∧∃ (F:Hp) (xs:List Tl),TcF F H r xs∧XsOk xs∧d=0∧∀ (v:Addr) (H':Hp),Ext H H'->ChF t H H' v xs->Q (.ref v) H'):=by
  refine T.F_made_move.ok c_made_move (fun vs H Q E h=>by obtain ⟨r,d,rfl,_⟩:=h;rfl) (fun cdv A outer s H vs Q E hr h=>?_)
  obtain ⟨r,d,rfl,F,xs,tc,ok,rfl,k⟩:=h
  obtain ⟨p,l,rs,rfl,hp,hF,hl,al⟩:=id tc
  refine ⟨_,(@pss_cons _ _ _ _ _ (@ps_expr _ _ _ _ (@pe_call _ _ _ _ _ _ _ _ _ _ _ _ _ _ _ _ G_refuse_told (hr.mono (by decide)) (by rfl) T.m_refuse_told T.F_refuse_told.kp T.b_refuse_told .nil pass0 (@pa_c _ _ _ _ _ (@pe_andN _ _ _ _ _ _ _ (@pe_callB _ _ _ _ _ _ _ ("isinstance") _ call_qIsi (by rfl) T.z_isinstance (by decide +kernel) (@pa_c _ _ _ _ _ (@pvN _ 0 _ _ (by rfl) (by trivial) (by decide) (by decide)) (@pa_c _ _ _ _ _ (@pe_bltn _ _ (.ty "tuple") (.type "tuple") _ (by rfl) T.z_tuple (by decide +kernel) rfl (by decide) (by decide)) (@pa_nil _) (by rfl)) (by rfl)) (by decide) (by decide) (by rfl) (by rfl)) (@pe_andN _ _ _ _ _ _ _ (@pe_cmpR _ _ _ _ _ _ _ _ on_gt (@pe_callB _ _ _ _ _ _ _ ("len") _ call_qLen (by rfl) T.z_len (by decide +kernel) (@pa_c _ _ _ _ _ (@pvN _ 0 _ _ (by rfl) (by trivial) (by decide) (by decide)) (@pa_nil _) (by rfl)) (by decide) (by decide) (by rfl) (by rfl)) (@pe_int _ _ _ _) (nomark _)) (@pe_one _ _ _ _ _ (@pe_callB _ _ _ _ _ _ _ ("isinstance") _ call_qIsi (by rfl) T.z_isinstance (by decide +kernel) (@pa_c _ _ _ _ _ (@pe_ix _ _ _ _ _ _ _ ix_q (@pvN _ 0 _ _ (by rfl) (by trivial) (by decide) (by decide)) (@pe_int _ _ _ _) (fun _ _=>rfl)) (@pa_c _ _ _ _ _ (@pe_bltn _ _ (.ty "str") (.type "str") _ (by rfl) T.z_str (by decide +kernel) rfl (by decide) (by decide)) (@pa_nil _) (by rfl)) (by rfl)) (by decide) (by decide) (by rfl) (by rfl))))) (@pa_nil _) (by rfl)) (by decide) (by rfl) (by rfl)) (by rfl)) (@pss_cons _ _ _ _ _ (@ps_if _ _ _ _ _ _ _ _ (@pt_cmpRN _ _ _ _ _ _ _ _ (op_qEq hr.units) (@pe_ix _ _ _ _ _ _ _ ix_q (@pvN _ 0 _ _ (by rfl) (by trivial) (by decide) (by decide)) (@pe_int _ _ _ _) (fun _ _=>rfl)) (@pe_str _ _ _ _) (nomark _)) (@pss_one _ _ _ (@ps_ret _ _ _ _ (@pe_call _ _ _ _ _ _ _ _ _ _ _ _ _ _ _ _ G_made_chain (hr.mono (by decide)) (by rfl) T.m_made_chain T.F_made_chain.kp T.b_made_chain .nil pass0 (@pa_c _ _ _ _ _ (@pvN _ 0 _ _ (by rfl) (by trivial) (by decide) (by decide)) (@pa_c _ _ _ _ _ (@pe_op _ _ _ _ _ _ _ _ on_add (@pvN _ 1 _ _ (by rfl) (by trivial) (by decide) (by decide)) (@pe_int _ _ _ _)) (@pa_nil _) (by rfl)) (by rfl)) (by decide) (by rfl) (by rfl)))) (@pss_nil _)) (@pss_cons _ _ _ _ _ (@ps_expr _ _ _ _ (@pe_call _ _ _ _ _ _ _ _ _ _ _ _ _ _ _ _ G_refuse_told (hr.mono (by decide)) (by rfl) T.m_refuse_told T.F_refuse_told.kp T.b_refuse_told .nil pass0 (@pa_c _ _ _ _ _ (@pe_cmpR _ _ _ _ _ _ _ _ op_inK (@pe_ix _ _ _ _ _ _ _ ix_q (@pvN _ 0 _ _ (by rfl) (by trivial) (by decide) (by decide)) (@pe_int _ _ _ _) (fun _ _=>rfl)) (@pe_glob _ _ (.ref t.a_MAKERS) _ _ (by rfl) T.m_MAKERS rfl (by decide)) (by with_unfolding_all rfl)) (@pa_nil _) (by rfl)) (by decide) (by rfl) (by rfl)) (by rfl)) (@pss_one _ _ _ (@ps_ret _ _ _ _ (@pe_callV _ _ _ _ _ _ _ _ _ _ _ _ _ (@pe_dgetK _ _ _ _ _ _ (@pe_glob _ _ (.ref t.a_MAKERS) _ _ (by rfl) T.m_MAKERS rfl (by decide)) (@pe_ix _ _ _ _ _ _ _ ix_q (@pvN _ 0 _ _ (by rfl) (by trivial) (by decide) (by decide)) (@pe_int _ _ _ _) (fun _ _=>rfl)) (fun _ _=>rfl)) FD_MAKERS (hr.mono (by decide)) pass0 (@pa_c _ _ _ _ _ (@pvN _ 0 _ _ (by rfl) (by trivial) (by decide) (by decide)) (@pa_nil _) (by rfl)) (by rfl) (by rfl) (by rfl))))))),?_⟩
  rw [show start ["told", "deep"] [.ref p,.int 0]=[some (.ref p),some (.int 0)] from rfl]
  clear G_refuse_told G_made_chain FD_MAKERS G0
  replace k:=fun (_:Unit)=>k
  replace ok:=fun (_:Unit)=>ok
  replace tc:=fun (_:Unit)=>tc
  clear al
  simp! only [and_true]
  rw [c_spRT]
  refine ⟨rfl,?_⟩
  simp! only [and_true]
  rw [c_spMC]
  exact ⟨F,xs,tc (),(ok ()).ok,(ok ()).n,rfl,fun v H' e cf=>k () v H' e cf⟩
 refine ⟨fun vs H Q E h=>by obtain ⟨r,d,rfl,_⟩:=h;rfl,fun A outer s H args us vs Q E hr e b r h=>?_⟩
 obtain ⟨r',d,rfl,F,xs,tl,ok,hd,k⟩:=h
 rcases tl with ⟨x,rfl,tl⟩|⟨h2,tl⟩
 ·exact G0.run A outer s H args us _ Q E hr e b r ⟨r',d,rfl,F,x,tl,ok.ok x List.mem_cons_self,fun v H' e mv=>k v H' e (.inl ⟨x,rfl,mv⟩)⟩
 ·exact GC.run A outer s H args us _ Q E hr e b r ⟨r',d,rfl,F,xs,tl,ok,hd,fun v H' e mv=>k v H' e (.inr ⟨h2,mv⟩)⟩
abbrev B_spMvO (t:Adr) (r:V) (H:Hp) (Q:VK) (E:XK):Prop:=∃ (F:Hp) (xs:List Tl),TlG F H r xs∧XsOk xs∧∀ (v:Addr) (H':Hp),Ext H H'->MvG t H H' v xs->Q (.ref v) H'
def spMvO (t:Adr):Sp:=fun vs H Q E=>∃ (r:V),vs=[r]∧(B_spMvO t r H Q E)
theorem c_spMvO (t:Adr) (r:V) (H:Hp) (Q:VK) (E:XK):spMvO t [r] H Q E=(B_spMvO t r H Q E):=spx1 (f:=fun (r:V)=>[r]) (fun _ _ h=>by cases h;exact rfl) r
theorem l_spMvO (t:Adr){vs:List V}{H:Hp}{Q:VK}{E:XK}(h:spMvO t vs H Q E):vs.length=1:=spl1 h fun _=>rfl
theorem ok_move_of (T:Tx K mg t):FnOk P t.w K mg base CX0 7 t.a_move_of t.d_move_of ["told"] (spMvO t):=by
 have G_made_move:=ok2_made_move (P:=P) (base:=base) T
 refine T.F_move_of.ok c_move_of (fun vs H Q E h=>l_spMvO _ h) (fun cdv A outer s H vs Q E hr h=>?_)
 ·obtain ⟨r,rfl,F,xs,tl,ok,k⟩:=h
  refine ⟨_,(@pss_one _ _ _ (@ps_ret _ _ _ _ (@pe_call _ _ _ _ _ _ _ _ _ _ _ _ _ _ _ _ G_made_move (hr.mono (by decide)) (by rfl) T.m_made_move T.F_made_move.kp T.b_made_move .nil pass0 (@pa_c _ _ _ _ _ (@pvN _ 0 _ _ (by rfl) (by trivial) (by decide) (by decide)) (@pa_c _ _ _ _ _ (@pe_int _ _ _ _) (@pa_nil _) (by rfl)) (by rfl)) (by decide) (by rfl) (by rfl)))),?_⟩
  rw [show start ["told"] [r]=[some (r)] from rfl]
  clear G_made_move
  simp! only [and_true]
  rw [c_spMG]
  exact ⟨F,xs,tl,ok,rfl,k⟩
def spRR  : Sp:=fun vs H Q E=>∃ (b:Bool),vs=[.bl b]∧(b=true∧Q .non H)
theorem c_spRR  (b:Bool) (H:Hp) (Q:VK) (E:XK):spRR  [.bl b] H Q E=(b=true∧Q .non H):=spx1 (f:=fun (b:Bool)=>[.bl b]) (fun _ _ h=>by cases h;exact rfl) b
theorem l_spRR  {vs:List V}{H:Hp}{Q:VK}{E:XK}(h:spRR  vs H Q E):vs.length=1:=spl1 h fun _=>rfl
theorem ok_refuse_row (T:Tx K mg t):FnOk P t.w K mg base CX0 1 t.a_refuse_row t.d_refuse_row ["good"] spRR:=by
 refine T.F_refuse_row.ok c_refuse_row (fun vs H Q E h=>l_spRR h) (fun cdv A outer s H vs Q E hr h=>?_)
 ·obtain ⟨b,rfl,rfl,k⟩:=h
  refine ⟨_,(@pss_one _ _ _ (@ps_if _ _ _ _ _ _ _ _ (@pt_not _ _ _ _ (@pt_valN _ _ _ (@pvN _ 0 _ _ (by rfl) (by trivial) (by decide) (by decide)) (by intros;rfl))) (@pss_one _ _ _ (@ps_never _ _)) (@pss_nil _))),?_⟩
  rw [show start ["good"] [.bl true]=[some (.bl true)] from rfl]
  simp! only [and_true]
structure FigOk (i:Int) (fs:Str):Prop where
 l1:1≤fs.length
 l2:fs.length≤20
 dg:∀ c∈fs.cps.toList,inS ⟨#[c]⟩ FIG=true
 asc:fs.cps.all (· < 128)=true
 hd:txt i = "0" ∨ ∃ c r,fs.cps.toList=c::r∧c ≠ 48
theorem fig_of {i:Int}{m:Nat}{fs:Str}(hm:m < 10 ^ 20) (hf:fs.cps.toList=digs m) (h0:0 < m∨txt i = "0"):FigOk i fs:=by
 obtain ⟨d1,d2,d3,d4⟩:=digs_ok m
 have hl:=d4 19 hm
 have hl0:1≤(digs m).length:=List.length_pos_iff.mpr d2
 have hfl:fs.length=(digs m).length:=by rw [show fs.length=fs.cps.toList.length from Array.length_toList.symm,hf]
 refine ⟨by omega,by omega,fun c hc=>?_,?_,?_⟩
 ·rw [hf] at hc;exact in_fig (d1 c hc).1 (d1 c hc).2
 ·rw [←Array.all_toList,List.all_eq_true,hf]
  intro c hc
  have:=d1 c hc
  exact decide_eq_true (by omega)
 ·rcases h0 with h0|h0
  ·cases hd:digs m with
   | nil=>exact absurd hd d2
   | cons c r=>exact .inr ⟨c,r,hf.trans hd,fun z=>d3 h0 (by rw [hd,z];rfl)⟩
  ·exact .inl h0
theorem num_cases {i:Int}(h:i.natAbs < 10 ^ 20):(PySem.Txt.startswith (txt i) "-"=true∧FigOk i (PySem.Txt.slice (txt i) (some 1) none))∨(PySem.Txt.startswith (txt i) "-"=false∧FigOk i (txt i)):=by
 cases i with
 | ofNat m=>
  have e:(txt (Int.ofNat m)).cps.toList=digs m:=txt_nat m
  obtain ⟨d1,d2,_⟩:=digs_ok m
  refine .inr ⟨?_,fig_of (m:=m) h e ?_⟩
  ·rw [sw_minus]
   cases hd:digs m with
   | nil=>exact absurd hd d2
   | cons c r=>
    have hc:=d1 c (by rw [hd];exact List.mem_cons_self)
    rw [head_eq (e.trans hd)]
    exact decide_eq_false (by intro z;cases z;omega)
  ·by_cases h0:m=0
   ·subst h0;exact .inr (by decide)
   ·exact .inl (by omega)
 | negSucc m=>
  have e:=txt_neg m
  refine .inl ⟨?_,fig_of (m:=m+1) h (slice1 e) (.inl (by omega))⟩
  rw [sw_minus,head_eq e]
  exact decide_eq_true rfl
theorem sg_ne {c:Nat}(h:c ≠ 48):¬ (⟨#[c]⟩:Str)=Str.ofString "0":=fun z=>by
 have h1:=congrArg (fun s:Str=>s.cps.toList) z
 have h2:(Str.ofString "0").cps.toList=[48]:=by decide
 have h3:[c]=[48]:=h1.trans h2
 exact h (by simpa using h3)
abbrev B_spIsNum  (x:Str) (H:Hp) (Q:VK) (E:XK):Prop:=∃ i:Int,x=txt i∧i.natAbs < 10 ^ 20∧∀ H',Ext H H'->Q (.bl true) H'
def spIsNum  : Sp:=fun vs H Q E=>∃ (x:Str),vs=[.str x]∧(B_spIsNum  x H Q E)
theorem c_spIsNum  (x:Str) (H:Hp) (Q:VK) (E:XK):spIsNum  [.str x] H Q E=(B_spIsNum  x H Q E):=spx1 (f:=fun (x:Str)=>[.str x]) (fun _ _ h=>by cases h;exact rfl) x
theorem l_spIsNum  {vs:List V}{H:Hp}{Q:VK}{E:XK}(h:spIsNum  vs H Q E):vs.length=1:=spl1 h fun _=>rfl
theorem ok_is_number (T:Tx K mg t):FnOk P t.w K mg base CX0 1 t.a_is_number t.d_is_number ["word"] spIsNum:=by
 refine T.F_is_number.ok c_is_number (fun vs H Q E h=>l_spIsNum h) (fun cdv A outer s H vs Q E hr h=>?_)
 ·obtain ⟨_,rfl,i,rfl,hi,k⟩:=h
  refine ⟨_,(@pss_cons _ _ _ _ _ (@ps_set _ _ (1) _ _ _ _ c_is_number.nd rfl (Or.inl rfl) (@pe_ifExp _ _ _ _ _ _ _ _ (@pt_valN _ _ _ (@pe_bm _ _ _ _ _ _ _ _ _ _ _ _ PySem.F.plainAttrs_str PySem.F.slot_str_startswith PySem.F.type_str_startswith mt_nSw (@pvN _ 0 _ _ (by rfl) (by trivial) (by decide) (by decide)) (@pa_c _ _ _ _ _ (@pe_str _ _ _ _) (@pa_nil _) (by rfl)) (by rfl) (by rfl) (by rfl) (by rfl) (by rfl)) (by intros;rfl)) (@pe_slice _ _ _ _ _ _ _ _ _ _ sl_nS (@pvN _ 0 _ _ (by rfl) (by trivial) (by decide) (by decide)) (@po_some _ _ _ (@pe_int _ _ _ _)) (@po_none _)) (@pvN _ 0 _ _ (by rfl) (by trivial) (by decide) (by decide))) (by rfl) (by trivial)) (@pss_cons _ _ _ _ _ (@ps_if _ _ _ _ _ _ _ _ (PW.pt (@pw_or _ _ _ _ _ _ _ (@pt_not _ _ _ _ (@pt_chainN _ _ _ _ _ _ _ _ _ _ _ _ on_le on_le (@pe_int _ _ _ _) (@pe_callB _ _ _ _ _ _ _ ("len") _ call_qLen (by rfl) T.z_len (by decide +kernel) (@pa_c _ _ _ _ _ (@pvN _ 1 _ _ (by rfl) (by trivial) (by decide) (by decide)) (@pa_nil _) (by rfl)) (by decide) (by decide) (by rfl) (by rfl)) (@pe_glob _ _ (.int 20) _ _ (by rfl) T.m_MOST_FIGURES.choose_spec ⟨_,rfl⟩ (by decide)) (by rfl))) (@pw_or1 _ _ _ _ (@pt_not _ _ _ _ (@pt_valN _ _ _ (@pe_callB _ _ _ _ _ _ _ ("all") _ (call_qAll rfl) (by rfl) T.z_all (by decide +kernel) (@pa_c _ _ _ _ _ (@pe_comp _ _ _ _ _ _ _ _ _ _ _ (["figure", "word", "figures"]) (1) (comp_ok (defScope s_is_number) ["word", "figures"] rfl rfl (by decide +kernel)) rfl (@pi_str _ _ _ _ (@pvN _ 1 _ _ (by rfl) (by trivial) (by decide) (by decide))) (fun C s₀ H₀ ex pn=>(@pg_name _ _ (0) _ (show List.Nodup (["figure", "word", "figures"]:List Str) from by decide +kernel) rfl (Or.inl rfl) (by trivial))) (fun C s₀ H₀ ex pn=>(@pts_nil _)) (fun C s₀ H₀ ex pn=>(@pe_cmpR _ _ _ _ _ _ _ _ op_qInS (@pvN _ 0 _ _ (by rfl) (by trivial) (by decide) (by decide)) (@pe_glob _ _ (.str "0123456789") _ _ (by rfl) T.m_FIGURES.choose_spec ⟨_,rfl⟩ (by decide)) (by with_unfolding_all rfl))) (by intros;rfl)) (@pa_nil _) (by rfl)) (by decide) (by decide) (by rfl) (by rfl)) (by intros;rfl)))))) (@pss_one _ _ _ (@ps_ret _ _ _ _ (@pe_bl _ _ _ _))) (@pss_nil _)) (@pss_one _ _ _ (@ps_ret _ _ _ _ (@pe_orN _ _ _ _ _ _ _ (@pe_cmpR _ _ _ _ _ _ _ _ (op_qEq hr.units) (@pvN _ 0 _ _ (by rfl) (by trivial) (by decide) (by decide)) (@pe_str _ _ _ _) (nomark _)) (@pe_one _ _ _ _ _ (@pe_cmpR _ _ _ _ _ _ _ _ (op_qNe hr.units) (@pe_ix _ _ _ _ _ _ _ ix_str (@pvN _ 1 _ _ (by rfl) (by trivial) (by decide) (by decide)) (@pe_int _ _ _ _) (fun _ _=>rfl)) (@pe_str _ _ _ _) (nomark _)))))))),?_⟩
  rw [show start ["word", "figures"] [.str (txt i)]=[some (.str (txt i)),none] from rfl]
  replace k:=fun (_:Unit)=>k
  have hlt:(txt i).length≤sizeLine:=len5000 (by have:=(int_txt hi).2;omega)
  rcases num_cases hi with ⟨hs,fo⟩|⟨hs,fo⟩
  ·have n1:(1:Int)≤((PySem.Txt.slice (txt i) (some 1) none).length:Int):=by have:=fo.l1;omega
   have n2:((PySem.Txt.slice (txt i) (some 1) none).length:Int)≤20:=by have:=fo.l2;omega
   have hfl:(PySem.Txt.slice (txt i) (some 1) none).cps.toList.length≤20:=by have:=fo.l2;simpa [Str.length] using this
   replace fo:=fun (_:Unit)=>fo
   simp! only [and_true]
   refine ⟨rfl,?_⟩
   simp! only [and_true]
   refine ⟨hlt,?_⟩
   generalize PySem.Txt.slice (txt i) (some 1) none=fs at *
   simp! only [and_true]
   refine ⟨len5000 (by have:=(fo ()).l2;omega),fs,rfl,(fo ()).asc,?_⟩
   refine comp_fm fs.cps.toList (fun _=>true) (fun _=>.bl true) (fun z v _=>v=sgn z) (wk_str fs).1 (wk_str fs).2 (len5000 (by omega)) ?_ ?_
   ·intro D z v H' N1 N0 hz hD e hv k1 _
    subst hv
    have hin:inS ⟨#[z]⟩ "0123456789"=true:=(fo ()).dg z hz
    have k1':=k1 rfl H' (Ext.refl _)
    clear k1 k n1 n2 hz
    unfold sgn
    simp! only [↓m_kCm_1,↓m_kCm2]
   intro D H1 hD e1 hD'
   rw [filt,show List.map (fun (_:Nat)=>V.bl true) fs.cps.toList=(fs.cps.toList.map fun _=>true).map V.bl from by rw [List.map_map];rfl] at hD'
   have hall:(fs.cps.toList.map fun _=>true).all id=true:=by
    rw [List.all_eq_true]
    intro b hb
    obtain ⟨_,_,rfl⟩:=List.mem_map.mp hb
    rfl
   have k2:=k () H1 e1
   clear k
   generalize (fs.cps.toList.map fun _=>true)=bs at hD' hall
   by_cases hz0:txt i = "0"
   ·simp! only [and_true]
   ·obtain ⟨c,r,hc,hc8⟩:∃ c r,fs.cps.toList=c::r∧c ≠ 48:=by rcases (fo ()).hd with h|h;exact absurd h hz0;exact h
    have hat:atI fs.cps.toList 0=some c:=atI_nat (j:=0) (by rw [hc];rfl)
    have hne:=sg_ne hc8
    simp! only [and_true]
    exact ⟨fs,0,c,rfl,rfl,len5000 (by have:=(fo ()).l2;omega),hat,by simp! only [and_true]⟩
  ·have n1:(1:Int)≤((txt i).length:Int):=by have:=fo.l1;omega
   have n2:((txt i).length:Int)≤20:=by have:=fo.l2;omega
   have hfl:(txt i).cps.toList.length≤20:=by have:=fo.l2;simpa [Str.length] using this
   replace fo:=fun (_:Unit)=>fo
   simp! only [and_true]
   refine ⟨rfl,?_⟩
   simp! only [and_true]
   refine ⟨(txt i),rfl,(fo ()).asc,?_⟩
   refine comp_fm (txt i).cps.toList (fun _=>true) (fun _=>.bl true) (fun z v _=>v=sgn z) (wk_str (txt i)).1 (wk_str (txt i)).2 (len5000 (by omega)) ?_ ?_
   ·intro D z v H' N1 N0 hz hD e hv k1 _
    subst hv
    have hin:inS ⟨#[z]⟩ "0123456789"=true:=(fo ()).dg z hz
    have k1':=k1 rfl H' (Ext.refl _)
    clear k1 k n1 n2 hz
    unfold sgn
    simp! only [↓m_kCm_1,↓m_kCm2]
   intro D H1 hD e1 hD'
   rw [filt,show List.map (fun (_:Nat)=>V.bl true) (txt i).cps.toList=((txt i).cps.toList.map fun _=>true).map V.bl from by rw [List.map_map];rfl] at hD'
   have hall:((txt i).cps.toList.map fun _=>true).all id=true:=by
    rw [List.all_eq_true]
    intro b hb
    obtain ⟨_,_,rfl⟩:=List.mem_map.mp hb
    rfl
   have k2:=k () H1 e1
   clear k
   generalize ((txt i).cps.toList.map fun _=>true)=bs at hD' hall
   by_cases hz0:txt i = "0"
   ·simp! only [and_true]
   ·obtain ⟨c,r,hc,hc8⟩:∃ c r,(txt i).cps.toList=c::r∧c ≠ 48:=by rcases (fo ()).hd with h|h;exact absurd h hz0;exact h
    have hat:atI (txt i).cps.toList 0=some c:=atI_nat (j:=0) (by rw [hc];rfl)
    have hne:=sg_ne hc8
    simp! only [and_true]
    exact ⟨(txt i),0,c,rfl,rfl,len5000 (by have:=(fo ()).l2;omega),hat,by simp! only [and_true]⟩
abbrev B_spNumI  (x:Str) (H:Hp) (Q:VK) (E:XK):Prop:=∃ i:Int,x=txt i∧i.natAbs < 10 ^ 20∧∀ H',Ext H H'->Q (.int i) H'
def spNumI  : Sp:=fun vs H Q E=>∃ (x:Str),vs=[.str x]∧(B_spNumI  x H Q E)
theorem c_spNumI  (x:Str) (H:Hp) (Q:VK) (E:XK):spNumI  [.str x] H Q E=(B_spNumI  x H Q E):=spx1 (f:=fun (x:Str)=>[.str x]) (fun _ _ h=>by cases h;exact rfl) x
theorem l_spNumI  {vs:List V}{H:Hp}{Q:VK}{E:XK}(h:spNumI  vs H Q E):vs.length=1:=spl1 h fun _=>rfl
theorem ok_number_in (T:Tx K mg t):FnOk P t.w K mg base CX0 2 t.a_number_in t.d_number_in ["word"] spNumI:=by
 have G_refuse_row:=ok_refuse_row (P:=P) (base:=base) T
 have G_is_number:=ok_is_number (P:=P) (base:=base) T
 refine T.F_number_in.ok c_number_in (fun vs H Q E h=>l_spNumI h) (fun cdv A outer s H vs Q E hr h=>?_)
 ·obtain ⟨_,rfl,i,rfl,hi,k⟩:=h
  refine ⟨_,(@pss_cons _ _ _ _ _ (@ps_expr _ _ _ _ (@pe_call _ _ _ _ _ _ _ _ _ _ _ _ _ _ _ _ G_refuse_row (hr.mono (by decide)) (by rfl) T.m_refuse_row T.F_refuse_row.kp T.b_refuse_row .nil pass0 (@pa_c _ _ _ _ _ (@pe_call _ _ _ _ _ _ _ _ _ _ _ _ _ _ _ _ G_is_number (hr.mono (by decide)) (by rfl) T.m_is_number T.F_is_number.kp T.b_is_number .nil pass0 (@pa_c _ _ _ _ _ (@pvN _ 0 _ _ (by rfl) (by trivial) (by decide) (by decide)) (@pa_nil _) (by rfl)) (by decide) (by rfl) (by rfl)) (@pa_nil _) (by rfl)) (by decide) (by rfl) (by rfl)) (by rfl)) (@pss_one _ _ _ (@ps_ret _ _ _ _ (@pe_callTy _ _ _ _ _ _ _ _ _ call_qIntS (by rfl) T.z_int (by decide +kernel) (@pa_c _ _ _ _ _ (@pvN _ 0 _ _ (by rfl) (by trivial) (by decide) (by decide)) (@pa_nil _) (by rfl)) (by decide) (by decide) (by rfl) (by rfl))))),?_⟩
  rw [show start ["word"] [.str (txt i)]=[some (.str (txt i))] from rfl]
  clear G_refuse_row G_is_number
  replace k:=fun (_:Unit)=>k
  obtain ⟨ht,hl⟩:=int_txt hi
  replace ht:=fun (_:Unit)=>ht
  simp! only [and_true]
  rw [c_spIsNum]
  refine ⟨i,rfl,hi,fun H1 e1=>?_⟩
  simp! only [and_true]
  rw [c_spRR]
  refine ⟨rfl,?_⟩
  simp! only [and_true]
  exact use_intS (ht ()) (by omega) (k () H1 e1)
def optT:Option Int->Str
 | none => "-"
 | some i=>txt i
abbrev B_spBndI  (x:Str) (H:Hp) (Q:VK) (E:XK):Prop:=∃ o:Option Int,x=optT o∧(∀ i,o=some i->i.natAbs < 10 ^ 20)∧∀ H',Ext H H'->Q (oV o) H'
def spBndI  : Sp:=fun vs H Q E=>∃ (x:Str),vs=[.str x]∧(B_spBndI  x H Q E)
theorem c_spBndI  (x:Str) (H:Hp) (Q:VK) (E:XK):spBndI  [.str x] H Q E=(B_spBndI  x H Q E):=spx1 (f:=fun (x:Str)=>[.str x]) (fun _ _ h=>by cases h;exact rfl) x
theorem l_spBndI  {vs:List V}{H:Hp}{Q:VK}{E:XK}(h:spBndI  vs H Q E):vs.length=1:=spl1 h fun _=>rfl
theorem ok_bound_in (T:Tx K mg t):FnOk P t.w K mg base CX0 3 t.a_bound_in t.d_bound_in ["word"] spBndI:=by
 have G_number_in:=ok_number_in (P:=P) (base:=base) T
 refine T.F_bound_in.ok c_bound_in (fun vs H Q E h=>l_spBndI h) (fun cdv A outer s H vs Q E hr h=>?_)
 ·obtain ⟨_,rfl,o,rfl,hi,k⟩:=h
  refine ⟨_,(@pss_one _ _ _ (@ps_ret _ _ _ _ (@pe_ifExp _ _ _ _ _ _ _ _ (@pt_cmpRN _ _ _ _ _ _ _ _ (op_qEq hr.units) (@pvN _ 0 _ _ (by rfl) (by trivial) (by decide) (by decide)) (@pe_str _ _ _ _) (nomark _)) (@pe_non _ _ _) (@pe_call _ _ _ _ _ _ _ _ _ _ _ _ _ _ _ _ G_number_in (hr.mono (by decide)) (by rfl) T.m_number_in T.F_number_in.kp T.b_number_in .nil pass0 (@pa_c _ _ _ _ _ (@pvN _ 0 _ _ (by rfl) (by trivial) (by decide) (by decide)) (@pa_nil _) (by rfl)) (by decide) (by rfl) (by rfl))))),?_⟩
  rw [show start ["word"] [.str (optT o)]=[some (.str (optT o))] from rfl]
  clear G_number_in
  cases o with
  | none=>
   have k2:Q .non H:=k H (Ext.refl _)
   clear k
   unfold optT
   simp! only [and_true]
  | some i=>
   have h1:=(txt_not i).1
   have k2:∀ H',Ext H H'->Q (.int i) H':=k
   have hi':=hi i rfl
   clear k hi
   replace k2:=fun (_:Unit)=>k2
   unfold optT
   simp! only [and_true]
   rw [c_spNumI]
   exact ⟨i,rfl,hi',fun H1 e1=>k2 () H1 e1⟩
def wordsT (x:Tl):List Str:=wdM x.1::x.2.map optT
def mvL:List (Str × V):=[("stay",.int 0),("slice",.int 4),("pick",.int 2),("fresh",.int 1),("spread",.int 2),("cut",.int 2),("window",.int 2),("diagonal",.int 2)]
theorem mv_at:∀ {i:Nat},i < 9->i ≠ 3->valV (keyed mvL) (.inr (wdM i))=some (.int ((cnM i:Nat):Int))
 | 0,_,_=>by rfl
 | 1,_,_=>by rfl
 | 2,_,_=>by rfl
 | 3,_,h=>absurd rfl h
 | 4,_,_=>by rfl
 | 5,_,_=>by rfl
 | 6,_,_=>by rfl
 | 7,_,_=>by rfl
 | 8,_,_=>by rfl
 | n+9,h,_=>absurd h (by omega)
theorem wd_turn:∀ {i:Nat},i < 9->i ≠ 3->¬ wdM i=Str.ofString "turn"
 | 0,_,_=>by decide
 | 1,_,_=>by decide
 | 2,_,_=>by decide
 | 3,_,h=>absurd rfl h
 | 4,_,_=>by decide
 | 5,_,_=>by decide
 | 6,_,_=>by decide
 | 7,_,_=>by decide
 | 8,_,_=>by decide
 | n+9,h,_=>absurd h (by omega)
theorem wd_slice:∀ {i:Nat},i < 9->i ≠ 1->¬ wdM i=Str.ofString "slice"
 | 0,_,_=>by decide
 | 1,_,h=>absurd rfl h
 | 2,_,_=>by decide
 | 3,_,_=>by decide
 | 4,_,_=>by decide
 | 5,_,_=>by decide
 | 6,_,_=>by decide
 | 7,_,_=>by decide
 | 8,_,_=>by decide
 | n+9,h,_=>absurd h (by omega)
theorem al_map {α:Type}(g:α->V) (zs:List α):Al (fun z y=>y=g z) zs (zs.map g):=⟨by rw [List.length_map],fun i z y hz hy=>by rw [List.getElem?_map,hz] at hy;exact (Option.some.inj hy).symm⟩
theorem TlG.one {F H:Hp}{r:V}{x:Tl}(h:TlF F H r x):TlG F H r [x]:=.inl ⟨x,rfl,h⟩
theorem XsOk.one {x:Tl}(h:TlOk x):XsOk [x]:=⟨fun y hy=>by rw [List.mem_singleton.mp hy];exact h,by show 1≤40;decide⟩
theorem MvG.one {t:Adr}{F H:Hp}{v:Addr}{x:Tl}(h:MvG t F H v [x]):MvF t F H v x:=by
 rcases h with ⟨y,h1,h2⟩|⟨h1,_⟩
 ·rw [show x=y by simpa using h1];exact h2
 ·exact absurd h1 (by show ¬ 2≤1;decide)
abbrev B_spRdO (t:Adr) (l:Addr) (H:Hp) (Q:VK) (E:XK):Prop:=∃ x:Tl,H l=some (.lst ((wordsT x).map V.str))∧TlOk x∧∀ (v:Addr) (H':Hp),Ext H H'->MvF t H H' v x->Q (.ref v) H'
def spRdO (t:Adr):Sp:=fun vs H Q E=>∃ (l:Addr),vs=[.ref l]∧(B_spRdO t l H Q E)
theorem c_spRdO (t:Adr) (l:Addr) (H:Hp) (Q:VK) (E:XK):spRdO t [.ref l] H Q E=(B_spRdO t l H Q E):=spx1 (f:=fun (l:Addr)=>[.ref l]) (fun _ _ h=>by cases h;exact rfl) l
theorem l_spRdO (t:Adr){vs:List V}{H:Hp}{Q:VK}{E:XK}(h:spRdO t vs H Q E):vs.length=1:=spl1 h fun _=>rfl
theorem ok_read_one (T:Tx K mg t):FnOk P t.w K mg base CX0 8 t.a_read_one t.d_read_one ["words"] (spRdO t):=by
 have G_refuse_row:=ok_refuse_row (P:=P) (base:=base) T
 have G_number_in:=ok_number_in (P:=P) (base:=base) T
 have G_bound_in:=ok_bound_in (P:=P) (base:=base) T
 have G_move_of:=ok_move_of (P:=P) (base:=base) T
 refine T.F_read_one.ok c_read_one (fun vs H Q E h=>l_spRdO _ h) (fun cdv A outer s H vs Q E hr h=>?_)
 ·obtain ⟨l,rfl,x,hl,ok,k⟩:=h
  refine ⟨_,(@pss_cons _ _ _ _ _ (@ps_expr _ _ _ _ (@pe_call _ _ _ _ _ _ _ _ _ _ _ _ _ _ _ _ G_refuse_row (hr.mono (by decide)) (by rfl) T.m_refuse_row T.F_refuse_row.kp T.b_refuse_row .nil pass0 (@pa_c _ _ _ _ _ (@pe_cmpR _ _ _ _ _ _ _ _ on_gt (@pe_callB _ _ _ _ _ _ _ ("len") _ call_qLen (by rfl) T.z_len (by decide +kernel) (@pa_c _ _ _ _ _ (@pvN _ 0 _ _ (by rfl) (by trivial) (by decide) (by decide)) (@pa_nil _) (by rfl)) (by decide) (by decide) (by rfl) (by rfl)) (@pe_int _ _ _ _) (nomark _)) (@pa_nil _) (by rfl)) (by decide) (by rfl) (by rfl)) (by rfl)) (@pss_cons _ _ _ _ _ (@ps_if _ _ _ _ _ _ _ _ (@pt_cmpRN _ _ _ _ _ _ _ _ (op_qEq hr.units) (@pe_ix _ _ _ _ _ _ _ ix_q (@pvN _ 0 _ _ (by rfl) (by trivial) (by decide) (by decide)) (@pe_int _ _ _ _) (fun _ _=>rfl)) (@pe_str _ _ _ _) (nomark _)) (@pss_cons _ _ _ _ _ (@ps_expr _ _ _ _ (@pe_call _ _ _ _ _ _ _ _ _ _ _ _ _ _ _ _ G_refuse_row (hr.mono (by decide)) (by rfl) T.m_refuse_row T.F_refuse_row.kp T.b_refuse_row .nil pass0 (@pa_c _ _ _ _ _ (@pe_cmpR _ _ _ _ _ _ _ _ on_le (@pe_callB _ _ _ _ _ _ _ ("len") _ call_qLen (by rfl) T.z_len (by decide +kernel) (@pa_c _ _ _ _ _ (@pvN _ 0 _ _ (by rfl) (by trivial) (by decide) (by decide)) (@pa_nil _) (by rfl)) (by decide) (by decide) (by rfl) (by rfl)) (@pe_op _ _ _ _ _ _ _ _ on_add (@pe_glob _ _ (.int 8) _ _ (by rfl) T.m_MOST_AXES.choose_spec ⟨_,rfl⟩ (by decide)) (@pe_int _ _ _ _)) (nomark _)) (@pa_nil _) (by rfl)) (by decide) (by rfl) (by rfl)) (by rfl)) (@pss_one _ _ _ (@ps_ret _ _ _ _ (@pe_call _ _ _ _ _ _ _ _ _ _ _ _ _ _ _ _ G_move_of (hr.mono (by decide)) (by rfl) T.m_move_of T.F_move_of.kp T.b_move_of .nil pass0 (@pa_c _ _ _ _ _ (@pe_qTup _ _ _ _ _ (@pa_c _ _ _ _ _ (@pe_str _ _ _ _) (@pa_c _ _ _ _ _ (@pe_comp _ _ _ _ _ _ _ _ _ _ _ (["word", "words"]) (1) (comp_ok (defScope s_read_one) ["words"] rfl rfl (by decide +kernel)) rfl (@pi_seq _ _ _ _ (@pe_slice _ _ _ _ _ _ _ _ _ _ sl_n (@pvN _ 0 _ _ (by rfl) (by trivial) (by decide) (by decide)) (@po_some _ _ _ (@pe_int _ _ _ _)) (@po_none _))) (fun C s₀ H₀ ex pn=>(@pg_name _ _ (0) _ (show List.Nodup (["word", "words"]:List Str) from by decide +kernel) rfl (Or.inl rfl) (by trivial))) (fun C s₀ H₀ ex pn=>(@pts_nil _)) (fun C s₀ H₀ ex pn=>(@pe_call _ _ _ _ _ _ _ _ _ _ _ _ _ _ _ _ G_number_in (hr.mono (by decide)) (by rfl) T.m_number_in T.F_number_in.kp T.b_number_in .nil pass0 (@pa_c _ _ _ _ _ (@pvN _ 0 _ _ (by rfl) (by trivial) (by decide) (by decide)) (@pa_nil _) (by rfl)) (by decide) (by rfl) (by rfl))) (by intros;rfl)) (@pa_nil _) (by rfl)) (by rfl))) (@pa_nil _) (by rfl)) (by decide) (by rfl) (by rfl))))) (@pss_nil _)) (@pss_cons _ _ _ _ _ (@ps_expr _ _ _ _ (@pe_call _ _ _ _ _ _ _ _ _ _ _ _ _ _ _ _ G_refuse_row (hr.mono (by decide)) (by rfl) T.m_refuse_row T.F_refuse_row.kp T.b_refuse_row .nil pass0 (@pa_c _ _ _ _ _ (@pe_andN _ _ _ _ _ _ _ (@pe_cmpR _ _ _ _ _ _ _ _ op_inK (@pe_ix _ _ _ _ _ _ _ ix_q (@pvN _ 0 _ _ (by rfl) (by trivial) (by decide) (by decide)) (@pe_int _ _ _ _) (fun _ _=>rfl)) (@pe_glob _ _ (.ref t.a_MOVES) _ _ (by rfl) T.m_MOVES rfl (by decide)) (by with_unfolding_all rfl)) (@pe_one _ _ _ _ _ (@pe_cmpR _ _ _ _ _ _ _ _ (op_qEq hr.units) (@pe_callB _ _ _ _ _ _ _ ("len") _ call_qLen (by rfl) T.z_len (by decide +kernel) (@pa_c _ _ _ _ _ (@pvN _ 0 _ _ (by rfl) (by trivial) (by decide) (by decide)) (@pa_nil _) (by rfl)) (by decide) (by decide) (by rfl) (by rfl)) (@pe_op _ _ _ _ _ _ _ _ on_add (@pe_dgetK _ _ _ _ _ _ (@pe_glob _ _ (.ref t.a_MOVES) _ _ (by rfl) T.m_MOVES rfl (by decide)) (@pe_ix _ _ _ _ _ _ _ ix_q (@pvN _ 0 _ _ (by rfl) (by trivial) (by decide) (by decide)) (@pe_int _ _ _ _) (fun _ _=>rfl)) (fun _ _=>rfl)) (@pe_int _ _ _ _)) (nomark _)))) (@pa_nil _) (by rfl)) (by decide) (by rfl) (by rfl)) (by rfl)) (@pss_cons _ _ _ _ _ (@ps_if _ _ _ _ _ _ _ _ (@pt_cmpRN _ _ _ _ _ _ _ _ (op_qEq hr.units) (@pe_ix _ _ _ _ _ _ _ ix_q (@pvN _ 0 _ _ (by rfl) (by trivial) (by decide) (by decide)) (@pe_int _ _ _ _) (fun _ _=>rfl)) (@pe_str _ _ _ _) (nomark _)) (@pss_one _ _ _ (@ps_ret _ _ _ _ (@pe_call _ _ _ _ _ _ _ _ _ _ _ _ _ _ _ _ G_move_of (hr.mono (by decide)) (by rfl) T.m_move_of T.F_move_of.kp T.b_move_of .nil pass0 (@pa_c _ _ _ _ _ (@pe_op _ _ _ _ _ _ _ _ op_nCatT (@pe_qTup _ _ _ _ _ (@pa_c _ _ _ _ _ (@pe_str _ _ _ _) (@pa_c _ _ _ _ _ (@pe_call _ _ _ _ _ _ _ _ _ _ _ _ _ _ _ _ G_number_in (hr.mono (by decide)) (by rfl) T.m_number_in T.F_number_in.kp T.b_number_in .nil pass0 (@pa_c _ _ _ _ _ (@pe_ix _ _ _ _ _ _ _ ix_q (@pvN _ 0 _ _ (by rfl) (by trivial) (by decide) (by decide)) (@pe_int _ _ _ _) (fun _ _=>rfl)) (@pa_nil _) (by rfl)) (by decide) (by rfl) (by rfl)) (@pa_nil _) (by rfl)) (by rfl))) (@pe_callTy _ _ _ _ _ _ _ _ _ call_nTuple (by rfl) T.z_tuple (by decide +kernel) (@pa_c _ _ _ _ _ (@pe_comp _ _ _ _ _ _ _ _ _ _ _ (["word", "words"]) (1) (comp_ok (defScope s_read_one) ["words"] rfl rfl (by decide +kernel)) rfl (@pi_seq _ _ _ _ (@pe_slice _ _ _ _ _ _ _ _ _ _ sl_n (@pvN _ 0 _ _ (by rfl) (by trivial) (by decide) (by decide)) (@po_some _ _ _ (@pe_int _ _ _ _)) (@po_none _))) (fun C s₀ H₀ ex pn=>(@pg_name _ _ (0) _ (show List.Nodup (["word", "words"]:List Str) from by decide +kernel) rfl (Or.inl rfl) (by trivial))) (fun C s₀ H₀ ex pn=>(@pts_nil _)) (fun C s₀ H₀ ex pn=>(@pe_call _ _ _ _ _ _ _ _ _ _ _ _ _ _ _ _ G_bound_in (hr.mono (by decide)) (by rfl) T.m_bound_in T.F_bound_in.kp T.b_bound_in .nil pass0 (@pa_c _ _ _ _ _ (@pvN _ 0 _ _ (by rfl) (by trivial) (by decide) (by decide)) (@pa_nil _) (by rfl)) (by decide) (by rfl) (by rfl))) (by intros;rfl)) (@pa_nil _) (by rfl)) (by decide) (by decide) (by rfl) (by rfl))) (@pa_nil _) (by rfl)) (by decide) (by rfl) (by rfl)))) (@pss_nil _)) (@pss_one _ _ _ (@ps_ret _ _ _ _ (@pe_call _ _ _ _ _ _ _ _ _ _ _ _ _ _ _ _ G_move_of (hr.mono (by decide)) (by rfl) T.m_move_of T.F_move_of.kp T.b_move_of .nil pass0 (@pa_c _ _ _ _ _ (@pe_op _ _ _ _ _ _ _ _ op_nCatT (@pe_qTup _ _ _ _ _ (@pa_c _ _ _ _ _ (@pe_ix _ _ _ _ _ _ _ ix_q (@pvN _ 0 _ _ (by rfl) (by trivial) (by decide) (by decide)) (@pe_int _ _ _ _) (fun _ _=>rfl)) (@pa_nil _) (by rfl))) (@pe_callTy _ _ _ _ _ _ _ _ _ call_nTuple (by rfl) T.z_tuple (by decide +kernel) (@pa_c _ _ _ _ _ (@pe_comp _ _ _ _ _ _ _ _ _ _ _ (["word", "words"]) (1) (comp_ok (defScope s_read_one) ["words"] rfl rfl (by decide +kernel)) rfl (@pi_seq _ _ _ _ (@pe_slice _ _ _ _ _ _ _ _ _ _ sl_n (@pvN _ 0 _ _ (by rfl) (by trivial) (by decide) (by decide)) (@po_some _ _ _ (@pe_int _ _ _ _)) (@po_none _))) (fun C s₀ H₀ ex pn=>(@pg_name _ _ (0) _ (show List.Nodup (["word", "words"]:List Str) from by decide +kernel) rfl (Or.inl rfl) (by trivial))) (fun C s₀ H₀ ex pn=>(@pts_nil _)) (fun C s₀ H₀ ex pn=>(@pe_call _ _ _ _ _ _ _ _ _ _ _ _ _ _ _ _ G_number_in (hr.mono (by decide)) (by rfl) T.m_number_in T.F_number_in.kp T.b_number_in .nil pass0 (@pa_c _ _ _ _ _ (@pvN _ 0 _ _ (by rfl) (by trivial) (by decide) (by decide)) (@pa_nil _) (by rfl)) (by decide) (by rfl) (by rfl))) (by intros;rfl)) (@pa_nil _) (by rfl)) (by decide) (by decide) (by rfl) (by rfl))) (@pa_nil _) (by rfl)) (by decide) (by rfl) (by rfl)))))))),?_⟩
  rw [show start ["words"] [.ref l]=[some (.ref l)] from rfl]
  clear G_refuse_row G_number_in G_bound_in G_move_of
  have hM:DicK t.w K t.a_MOVES mvL:=T.d_MOVES
  have hl':H l=some (.lst (.str (wdM x.1)::(x.2.map optT).map V.str)):=hl
  clear hl
  have h9:=ok.k
  have h8:=ok.m
  have h5:(x.2.map optT).map V.str=x.2.map fun o=>V.str (optT o):=List.map_map
  rw [h5] at hl'
  clear h5
  replace k:=fun (_:Unit)=>k
  replace ok:=fun (_:Unit)=>ok
  replace hM:=fun (_:Unit)=>hM
  have hsz:(x.2.map fun o=>V.str (optT o)).length+1≤sizeLine:=len5000 (by rw [List.length_map];omega)
  have hln:(0:Int) < ((x.2.length+1:Nat):Int):=by omega
  by_cases h3:x.1=3
  ·have hw:wdM x.1=Str.ofString "turn":=by rw [h3];rfl
   simp! only [and_true]
   rw [c_spRR]
   refine ⟨rfl,?_⟩
   simp! only [and_true]
   rw [c_spRR]
   refine ⟨decide_eq_true (by omega),?_⟩
   simp! only [and_true]
   intro q1 H1 _ e1 h1
   rw [cut_some _ 1 (by decide)] at h1
   have h1':H1 q1=some (.lst (x.2.map fun o=>V.str (optT o))):=h1
   clear h1 hsz
   simp! only [and_true]
   have wk:=wk_al (K:=K) (R:=fun (o:Option Int) y (_:Hp)=>y=.str (optT o)) (fun _ _ _ _ h _=>h) h1' (al_map (fun o=>V.str (optT o)) x.2)
   refine comp_fm x.2 (fun _=>true) oV (fun o y _=>y=.str (optT o)) wk.1 wk.2 (len5000 (by omega)) ?_ ?_
   ·intro D o y H' N1 N0 ho hD e hy k1 _
    subst hy
    cases o with
    | none=>exact absurd rfl ((ok ()).s (by rw [h3];decide) none ho)
    | some i=>
     have k1':=k1 rfl
     have hb:=(ok ()).b _ ho i rfl
     clear k1 wk
     simp! only [↓m_kCm_1,↓m_kCm2]
     rw [c_spNumI]
     exact ⟨i,rfl,hb,fun H'' e'=>k1' H'' e'⟩
   ·intro D H2 hD e2 hD2
    rw [filt] at hD2
    clear wk
    simp! only [and_true]
    intro p H3 _ e3 h3'
    have e03:=e1.trans (e2.trans e3)
    simp! only [and_true]
    rw [c_spMvO]
    exact ⟨H,[x],.one ⟨p,rfl,.inr ⟨h3,D,h3',e1.free hD,e3.at hD2⟩⟩,.one (ok ()),fun v H' e mv=>k () v H' (e03.trans e) (mv.one.less e03)⟩
  ·have hw:=wd_turn h9 h3
   have hcn:x.2.length=cnM x.1:=(ok ()).n h3
   have hva:=mv_at h9 h3
   replace hva:=fun (_:Unit)=>hva
   replace hcn:=fun (_:Unit)=>hcn
   simp! only [and_true]
   rw [c_spRR]
   refine ⟨rfl,?_⟩
   simp! only [and_true]
   refine use_inK (hM ()) ?_
   rw [hva ()]
   simp! only [and_true]
   refine use_dgK (hM ()) (hva ()) ?_
   simp! only [and_true]
   rw [c_spRR]
   refine ⟨decide_eq_true (by have:=hcn ();omega),?_⟩
   by_cases h1:x.1=1
   ·have hws:wdM x.1=Str.ofString "slice":=by rw [h1];rfl
    obtain ⟨a,r,hx⟩:∃ a r,x.2=some a::r:=by
     have hl4:x.2.length=4:=by rw [hcn (),h1];rfl
     match hx:x.2,hl4,(ok ()).h h1 with
     | some a::r,_,_=>exact ⟨a,r,rfl⟩
     | none::r,_,h=>exact absurd rfl h
    have hl2:H l=some (.lst (.str (wdM x.1)::.str (txt a)::r.map fun o=>V.str (optT o))):=by rw [hl',hx];rfl
    have hr8:r.length≤7:=by rw [hx] at h8;simp at h8;omega
    have hba:=(ok ()).b (some a) (by rw [hx];exact List.mem_cons_self) a rfl
    have hbr:∀ o∈r,∀ i,o=some i->i.natAbs < 10 ^ 20:=fun o ho=>(ok ()).b o (by rw [hx];exact List.mem_cons_of_mem _ ho)
    replace hx:=fun (_:Unit)=>hx
    replace hbr:=fun (_:Unit)=>hbr
    clear hl' hsz hln
    simp! only [and_true]
    rw [c_spNumI]
    refine ⟨a,rfl,hba,fun H1 e1=>?_⟩
    have hl3:=e1.at hl2
    simp! only [and_true]
    intro p1 H2 _ e2 h2
    have hl4:=e2.at hl3
    clear hl3
    simp! only [and_true]
    intro q1 H3 _ e3 hq
    rw [cut_some _ 2 (by decide)] at hq
    have hq':H3 q1=some (.lst (r.map fun o=>V.str (optT o))):=hq
    have h2_3:=e3.at h2
    clear hq h2
    simp! only [and_true]
    have wk:=wk_al (K:=K) (R:=fun (o:Option Int) y (_:Hp)=>y=.str (optT o)) (fun _ _ _ _ h _=>h) hq' (al_map (fun o=>V.str (optT o)) r)
    refine comp_fm r (fun _=>true) oV (fun o y _=>y=.str (optT o)) wk.1 wk.2 (len5000 (by omega)) ?_ ?_
    ·intro D o y H' N1 N0 ho hD e hy k1 _
     subst hy
     have k1':=k1 rfl
     have hb:=hbr () _ ho
     clear k1 wk
     simp! only [↓m_kCm_1,↓m_kCm2]
     rw [c_spBndI]
     exact ⟨o,rfl,hb,fun H'' e'=>k1' H'' e'⟩
    ·intro D H4 hD e4 hD4
     rw [filt] at hD4
     have h2_4:=e4.at h2_3
     clear wk h2_3
     simp! only [and_true]
     intro p5 H5 _ e5 h5
     have h2_5:=e5.at h2_4
     simp! only [↓x_kCT2]
     refine ⟨len5000 (by omega),fun p6 H6 e6 h6=>?_⟩
     have e06:=e1.trans (e2.trans (e3.trans (e4.trans (e5.trans e6))))
     have h6':H6 p6=some (.tup (.str (wdM x.1)::x.2.map oV)):=by rw [h6,hx (),hws];rfl
     simp! only [and_true]
     rw [c_spMvO]
     exact ⟨H,[x],.one ⟨p6,rfl,.inl ⟨h3,h6'⟩⟩,.one (ok ()),fun v H' e mv=>k () v H' (e06.trans e) (mv.one.less e06)⟩
   ·have hws:=wd_slice h9 h1
    clear hln
    simp! only [and_true]
    intro p1 H2 _ e2 h2
    have hl4:=e2.at hl'
    simp! only [and_true]
    intro q1 H3 _ e3 hq
    rw [cut_some _ 1 (by decide)] at hq
    have hq':H3 q1=some (.lst (x.2.map fun o=>V.str (optT o))):=hq
    have h2_3:=e3.at h2
    clear hq h2 hsz
    simp! only [and_true]
    have wk:=wk_al (K:=K) (R:=fun (o:Option Int) y (_:Hp)=>y=.str (optT o)) (fun _ _ _ _ h _=>h) hq' (al_map (fun o=>V.str (optT o)) x.2)
    refine comp_fm x.2 (fun _=>true) oV (fun o y _=>y=.str (optT o)) wk.1 wk.2 (len5000 (by omega)) ?_ ?_
    ·intro D o y H' N1 N0 ho hD e hy k1 _
     subst hy
     cases o with
     | none=>exact absurd rfl ((ok ()).s h1 none ho)
     | some i=>
      have k1':=k1 rfl
      have hb:=(ok ()).b _ ho i rfl
      clear k1 wk
      simp! only [↓m_kCm_1,↓m_kCm2]
      rw [c_spNumI]
      exact ⟨i,rfl,hb,fun H'' e'=>k1' H'' e'⟩
    ·intro D H4 hD e4 hD4
     rw [filt] at hD4
     have h2_4:=e4.at h2_3
     clear wk h2_3
     simp! only [and_true]
     intro p5 H5 _ e5 h5
     have h2_5:=e5.at h2_4
     simp! only [↓x_kCT2]
     refine ⟨len5000 (by omega),fun p6 H6 e6 h6=>?_⟩
     have e06:=e2.trans (e3.trans (e4.trans (e5.trans e6)))
     simp! only [and_true]
     rw [c_spMvO]
     exact ⟨H,[x],.one ⟨p6,rfl,.inl ⟨h3,h6⟩⟩,.one (ok ()),fun v H' e mv=>k () v H' (e06.trans e) (mv.one.less e06)⟩
theorem atI_last {α:Type}(xs:List α) (y:α):atI (xs++[y]) (-1)=some y:=by
 unfold atI ixN
 rw [if_neg (by decide),if_pos (by rw [List.length_append];show -(((xs.length+1:Nat):Int))≤-1;omega)]
 show (xs++[y])[_]? = _
 rw [show (-1+(((xs++[y]).length:Nat):Int)).toNat=xs.length by rw [List.length_append];show (-1+((xs.length+1:Nat):Int)).toNat=_;omega]
 simp
def GV (g q:Addr) (H:Hp) (ws:List Str) (y:V):Prop:=∃ a,y=.ref a∧a ≠ g∧a ≠ q∧H a=some (.lst (ws.map V.str))
abbrev B_spSpl  (l:Addr) (H:Hp) (Q:VK) (E:XK):Prop:=∃ ws:List Str,H l=some (.lst (ws.map V.str))∧ws.length≤4000∧∀ (g:Addr) (gs:List V) (H':Hp),Ext H H'->H' g=some (.lst gs)->Al (fun ws y=>∃ a,y=.ref a∧H' a=some (.lst (ws.map V.str))) (splitW [] [] ws) gs->Q (.ref g) H'
def spSpl  : Sp:=fun vs H Q E=>∃ (l:Addr),vs=[.ref l]∧(B_spSpl  l H Q E)
theorem c_spSpl  (l:Addr) (H:Hp) (Q:VK) (E:XK):spSpl  [.ref l] H Q E=(B_spSpl  l H Q E):=spx1 (f:=fun (l:Addr)=>[.ref l]) (fun _ _ h=>by cases h;exact rfl) l
theorem l_spSpl  {vs:List V}{H:Hp}{Q:VK}{E:XK}(h:spSpl  vs H Q E):vs.length=1:=spl1 h fun _=>rfl
theorem ok_split_by_then (T:Tx K mg t):FnOk P t.w K mg base CX0 1 t.a_split_by_then t.d_split_by_then ["words"] spSpl:=by
 refine T.F_split_by_then.ok c_split_by_then (fun vs H Q E h=>l_spSpl h) (fun cdv A outer s H vs Q E hr h=>?_)
 ·obtain ⟨l,rfl,ws,hl,hn,k⟩:=h
  refine ⟨_,(@pss_cons _ _ _ _ _ (@ps_set _ _ (1) _ _ _ _ c_split_by_then.nd rfl (Or.inl rfl) (@pe_qLst _ _ _ _ (@pa_c _ _ _ _ _ (@pe_qLst _ _ _ _ (@pa_nil _)) (@pa_nil _) (by rfl))) (by rfl) (by trivial)) (@pss_cons _ _ _ _ _ (@ps_for _ _ _ _ _ _ _ _ PassesOwn.never rfl (@pi_seq _ _ _ _ (@pvN _ 0 _ _ (by rfl) (by trivial) (by decide) (by decide))) (@pg_name _ _ (2) _ c_split_by_then.nd rfl (Or.inl rfl) (by trivial)) (@pss_one _ _ _ (@ps_if _ _ _ _ _ _ _ _ (@pt_cmpRN _ _ _ _ _ _ _ _ (op_qEq hr.units) (@pvN _ 2 _ _ (by rfl) (by trivial) (by decide) (by decide)) (@pe_str _ _ _ _) (nomark _)) (@pss_one _ _ _ (@ps_expr _ _ _ _ (@pe_bm _ _ _ _ _ _ _ _ _ _ _ _ PySem.F.plainAttrs_list PySem.F.slot_list_append PySem.F.type_list_append mt_append (@pvN _ 1 _ _ (by rfl) (by trivial) (by decide) (by decide)) (@pa_c _ _ _ _ _ (@pe_qLst _ _ _ _ (@pa_nil _)) (@pa_nil _) (by rfl)) (by rfl) (by rfl) (by rfl) (by rfl) (by rfl)) (by rfl))) (@pss_one _ _ _ (@ps_expr _ _ _ _ (@pe_bm _ _ _ _ _ _ _ _ _ _ _ _ PySem.F.plainAttrs_list PySem.F.slot_list_append PySem.F.type_list_append mt_append (@pe_ix _ _ _ _ _ _ _ ix_q (@pvN _ 1 _ _ (by rfl) (by trivial) (by decide) (by decide)) (@pe_un _ _ _ _ _ _ un_negN (@pe_int _ _ _ _)) (fun _ _=>rfl)) (@pa_c _ _ _ _ _ (@pvN _ 2 _ _ (by rfl) (by trivial) (by decide) (by decide)) (@pa_nil _) (by rfl)) (by rfl) (by rfl) (by rfl) (by rfl) (by rfl)) (by rfl))))) (by intros;rfl)) (@pss_one _ _ _ (@ps_ret _ _ _ _ (@pvN _ 1 _ _ (by rfl) (by trivial) (by decide) (by decide)))))),?_⟩
  rw [show start ["words", "groups", "word"] [.ref l]=[some (.ref l),none,none] from rfl]
  replace k:=fun (_:Unit)=>k
  simp! only [and_true]
  intro q0 H0 hq0 e0 h0
  simp! only [and_true]
  intro g H1 hg e1 h1
  have hgq:q0 ≠ g:=fun z=>by rw [←z,h0] at hg;cases hg
  have hg0:H g=none:=e0.free hg
  have e01:=e0.trans e1
  simp! only [and_true]
  refine for_lst (xs:=ws.map V.str) (fun i σ H'=>∃ (d:List (List Str)) (c:List Str) (ds:List V) (q:Addr) (v2:Option V),σ=[some (.ref l),some (.ref g),v2]∧Ext H H'∧H' g=some (.lst (ds++[V.ref q]))∧H' q=some (.lst (c.map V.str))∧q ≠ g∧H q=none∧Al (GV g q H') d ds∧splitW d c (ws.drop i)=splitW [] [] ws∧d.length≤i∧c.length≤i) ⟨[],[],[],q0,none,rfl,e01,h1,e1.at h0,hgq,hq0,Al.nil,rfl,Nat.le_refl _,Nat.le_refl _⟩ (fun i σ H' _ ⟨_,_,_,_,_,_,e,_⟩=>e.at hl) ?_ ?_
  ·rintro i y _ H2 hi ⟨d,c,ds,q,v2,rfl,e2,h2,hq,nqg,fq,al,hs,hd,hc⟩
   rw [List.getElem?_map] at hi
   obtain ⟨u,hu,rfl⟩:=Option.map_eq_some_iff.mp hi
   have hi':i < ws.length:=(List.getElem?_eq_some_iff.mp hu).1
   have hdr:ws.drop i=u::ws.drop (i+1):=by rw [List.drop_eq_getElem_cons hi',(List.getElem?_eq_some_iff.mp hu).2]
   rw [hdr] at hs
   have hdl:ds.length=d.length:=al.1
   replace hs:=fun (_:Unit)=>hs
   replace hdl:=fun (_:Unit)=>hdl
   clear hi hdr hu h1 h0
   by_cases ht:u=Str.ofString "then"
   ·have hs2:splitW (d++[c]) [] (ws.drop (i+1))=splitW [] [] ws:=by rw [←hs ()];show _=(if u=(Str.ofString "then") then splitW (d++[c]) [] (ws.drop (i+1)) else _);rw [if_pos ht]
    replace hs2:=fun (_:Unit)=>hs2
    simp! only [↓m_kBody]
    intro q' H3 hq' e3 h3
    have h2_3:=e3.at h2
    have nq:q' ≠ g:=fun z=>by rw [z,h2] at hq';cases hq'
    have nqq:q ≠ q':=fun z=>by rw [←z,hq] at hq';cases hq'
    have hsz:(ds++[V.ref q]).length < sizeLine:=lt5000 (by have:=hdl ();rw [List.length_append];show _+1 < 5000;omega)
    simp! only [and_true]
    refine ⟨d++[c],[],ds++[V.ref q],q',_,rfl,(e2.trans e3).put hg0,rfl,by rw [upd_ne nq];exact h3,nq,e2.free hq',?_,hs2 (),by rw [List.length_append];show _+1≤_;omega,Nat.zero_le _⟩
    refine Al.snoc (al.imp fun w y z=>?_) ⟨q,rfl,nqg,nqq,by rw [upd_ne nqg];exact e3.at hq⟩
    obtain ⟨a,a1,a2,a3,a4⟩:=z
    exact ⟨a,a1,a2,(fun z=>by rw [z,hq'] at a4;cases a4),by rw [upd_ne a2];exact e3.at a4⟩
   ·have hs2:splitW d (c++[u]) (ws.drop (i+1))=splitW [] [] ws:=by rw [←hs ()];show _=(if u=(Str.ofString "then") then _ else splitW d (c++[u]) (ws.drop (i+1)));rw [if_neg ht]
    replace hs2:=fun (_:Unit)=>hs2
    have hat:=atI_last ds (V.ref q)
    have hsz:(c.map V.str).length < sizeLine:=lt5000 (by rw [List.length_map];omega)
    simp! only [↓m_kBody]
    refine ⟨lt5000 (by omega),d,c++[u],ds,q,_,rfl,e2.put fq,by rw [upd_ne (Ne.symm nqg)];exact h2,by rw [upd_same,List.map_append];rfl,nqg,fq,?_,hs2 (),by omega,by rw [List.length_append];show _+1≤_;omega⟩
    refine al.imp fun w y z=>?_
    obtain ⟨a,a1,a2,a3,a4⟩:=z
    exact ⟨a,a1,a2,a3,by rw [upd_ne a3];exact a4⟩
  ·rintro _ H2 ⟨d,c,ds,q,v2,rfl,e2,h2,hq,nqg,fq,al,hs,hd,hc⟩
   rw [List.length_map,List.drop_length] at hs
   have hs2:d++[c]=splitW [] [] ws:=hs
   clear hs
   replace hs2:=fun (_:Unit)=>hs2
   simp! only [and_true]
   refine k () g _ H2 e2 h2 ?_
   rw [←hs2 ()]
   exact Al.snoc (al.imp fun w y ⟨a,a1,_,_,a4⟩=>⟨a,a1,a4⟩) ⟨q,rfl,hq⟩
theorem MvF.putN {t:Adr}{H H':Hp}{m v:Addr}{x:Tl}{o o':HO}(h:MvF t (upd H m o) H' v x) (hv:v ≠ m):MvF t (upd H m o) (upd H' m o') v x:=by
 rcases h with ⟨h1,dx,h2⟩|⟨h1,dx,l,h2,h3,h4⟩
 ·exact .inl ⟨h1,dx,by rw [upd_ne hv];exact h2⟩
 ·refine .inr ⟨h1,dx,l,by rw [upd_ne hv];exact h2,h3,?_⟩
  rw [upd_ne (fun z=>by rw [z,upd_same] at h3;cases h3)]
  exact h4
theorem wd_then:∀ {i:Nat},i < 9->wdM i ≠ Str.ofString "then"
 | 0,_=>by decide
 | 1,_=>by decide
 | 2,_=>by decide
 | 3,_=>by decide
 | 4,_=>by decide
 | 5,_=>by decide
 | 6,_=>by decide
 | 7,_=>by decide
 | 8,_=>by decide
 | n+9,h=>absurd h (by omega)
theorem words_then {x:Tl}(ok:TlOk x):∀ w∈wordsT x,w ≠ Str.ofString "then":=fun w hw=>by
 rcases List.mem_cons.mp hw with rfl|hw
 ·exact wd_then ok.k
 ·obtain ⟨o,_,rfl⟩:=List.mem_map.mp hw
  cases o with
  | none=>show Str.ofString "-" ≠ _;decide
  | some i=>exact (txt_not i).2
theorem words_len {x:Tl}(ok:TlOk x):(wordsT x).length≤9:=by
 have:=ok.m
 show (x.2.map optT).length+1≤9
 rw [List.length_map]
 omega
def wordsG (xs:List Tl):List Str:=joinW (xs.map wordsT)
theorem wordsG_len {xs:List Tl}(ok:XsOk xs):(wordsG xs).length≤400:=by
 have h1:=joinW_len (xs.map wordsT) 9 fun g hg=>by
  obtain ⟨x,hx,rfl⟩:=List.mem_map.mp hg
  exact words_len (ok.ok x hx)
 rw [List.length_map] at h1
 have h2:=ok.n
 unfold wordsG
 omega
theorem wordsG_split {xs:List Tl}(ok:XsOk xs) (hne:xs ≠ []):splitW [] [] (wordsG xs)=xs.map wordsT:=by
 have h:=splitW_join (xs.map wordsT) [] (by simpa using hne) fun g hg w hw=>by
  obtain ⟨x,hx,rfl⟩:=List.mem_map.mp hg
  exact words_then (ok.ok x hx) w hw
 exact h
abbrev B_spRdM (t:Adr) (l:Addr) (H:Hp) (Q:VK) (E:XK):Prop:=∃ xs:List Tl,H l=some (.lst ((wordsG xs).map V.str))∧XsOk xs∧xs ≠ []∧∀ (v:Addr) (H':Hp),Ext H H'->MvG t H H' v xs->Q (.ref v) H'
def spRdM (t:Adr):Sp:=fun vs H Q E=>∃ (l:Addr),vs=[.ref l]∧(B_spRdM t l H Q E)
theorem c_spRdM (t:Adr) (l:Addr) (H:Hp) (Q:VK) (E:XK):spRdM t [.ref l] H Q E=(B_spRdM t l H Q E):=spx1 (f:=fun (l:Addr)=>[.ref l]) (fun _ _ h=>by cases h;exact rfl) l
theorem l_spRdM (t:Adr){vs:List V}{H:Hp}{Q:VK}{E:XK}(h:spRdM t vs H Q E):vs.length=1:=spl1 h fun _=>rfl
theorem ok_read_move (T:Tx K mg t):FnOk P t.w K mg base CX0 9 t.a_read_move t.d_read_move ["words"] (spRdM t):=by
 have G_refuse_row:=ok_refuse_row (P:=P) (base:=base) T
 have G_split_by_then:=ok_split_by_then (P:=P) (base:=base) T
 have G_read_one:=ok_read_one (P:=P) (base:=base) T
 have G_Chain___init__:=ok_Chain___init__ (P:=P) (base:=base) T
 refine T.F_read_move.ok c_read_move (fun vs H Q E h=>l_spRdM _ h) (fun cdv A outer s H vs Q E hr h=>?_)
 ·obtain ⟨l,rfl,xs,hl,ok,hne,k⟩:=h
  refine ⟨_,(@pss_cons _ _ _ _ _ (@ps_expr _ _ _ _ (@pe_call _ _ _ _ _ _ _ _ _ _ _ _ _ _ _ _ G_refuse_row (hr.mono (by decide)) (by rfl) T.m_refuse_row T.F_refuse_row.kp T.b_refuse_row .nil pass0 (@pa_c _ _ _ _ _ (@pe_andN _ _ _ _ _ _ _ (@pe_callB _ _ _ _ _ _ _ ("isinstance") _ call_qIsi (by rfl) T.z_isinstance (by decide +kernel) (@pa_c _ _ _ _ _ (@pvN _ 0 _ _ (by rfl) (by trivial) (by decide) (by decide)) (@pa_c _ _ _ _ _ (@pe_bltn _ _ (.ty "list") (.type "list") _ (by rfl) T.z_list (by decide +kernel) rfl (by decide) (by decide)) (@pa_nil _) (by rfl)) (by rfl)) (by decide) (by decide) (by rfl) (by rfl)) (@pe_one _ _ _ _ _ (@pe_callB _ _ _ _ _ _ _ ("all") _ (call_qAll rfl) (by rfl) T.z_all (by decide +kernel) (@pa_c _ _ _ _ _ (@pe_comp _ _ _ _ _ _ _ _ _ _ _ (["word", "words", "groups", "moves"]) (1) (comp_ok (defScope s_read_move) ["words", "groups", "moves"] rfl rfl (by decide +kernel)) rfl (@pi_seq _ _ _ _ (@pvN _ 0 _ _ (by rfl) (by trivial) (by decide) (by decide))) (fun C s₀ H₀ ex pn=>(@pg_name _ _ (0) _ (show List.Nodup (["word", "words", "groups", "moves"]:List Str) from by decide +kernel) rfl (Or.inl rfl) (by trivial))) (fun C s₀ H₀ ex pn=>(@pts_nil _)) (fun C s₀ H₀ ex pn=>(@pe_callB _ _ _ _ _ _ _ ("isinstance") _ call_qIsi (by rfl) T.z_isinstance (by decide +kernel) (@pa_c _ _ _ _ _ (@pvN _ 0 _ _ (by rfl) (by trivial) (by decide) (by decide)) (@pa_c _ _ _ _ _ (@pe_bltn _ _ (.ty "str") (.type "str") _ (by rfl) T.z_str (by decide +kernel) rfl (by decide) (by decide)) (@pa_nil _) (by rfl)) (by rfl)) (by decide) (by decide) (by rfl) (by rfl))) (by intros;rfl)) (@pa_nil _) (by rfl)) (by decide) (by decide) (by rfl) (by rfl)))) (@pa_nil _) (by rfl)) (by decide) (by rfl) (by rfl)) (by rfl)) (@pss_cons _ _ _ _ _ (@ps_set _ _ (1) _ _ _ _ c_read_move.nd rfl (Or.inl rfl) (@pe_call _ _ _ _ _ _ _ _ _ _ _ _ _ _ _ _ G_split_by_then (hr.mono (by decide)) (by rfl) T.m_split_by_then T.F_split_by_then.kp T.b_split_by_then .nil pass0 (@pa_c _ _ _ _ _ (@pvN _ 0 _ _ (by rfl) (by trivial) (by decide) (by decide)) (@pa_nil _) (by rfl)) (by decide) (by rfl) (by rfl)) (by rfl) (by trivial)) (@pss_cons _ _ _ _ _ (@ps_expr _ _ _ _ (@pe_call _ _ _ _ _ _ _ _ _ _ _ _ _ _ _ _ G_refuse_row (hr.mono (by decide)) (by rfl) T.m_refuse_row T.F_refuse_row.kp T.b_refuse_row .nil pass0 (@pa_c _ _ _ _ _ (@pe_cmpR _ _ _ _ _ _ _ _ on_le (@pe_callB _ _ _ _ _ _ _ ("len") _ call_qLen (by rfl) T.z_len (by decide +kernel) (@pa_c _ _ _ _ _ (@pvN _ 1 _ _ (by rfl) (by trivial) (by decide) (by decide)) (@pa_nil _) (by rfl)) (by decide) (by decide) (by rfl) (by rfl)) (@pe_glob _ _ (.int 40) _ _ (by rfl) T.m_MOST_MOVES.choose_spec ⟨_,rfl⟩ (by decide)) (nomark _)) (@pa_nil _) (by rfl)) (by decide) (by rfl) (by rfl)) (by rfl)) (@pss_cons _ _ _ _ _ (@ps_setC _ _ _ _ _ _ _ _ _ _ _ _ _ (["group", "words", "groups", "moves"]) (1) (2) _ c_read_move.nd rfl (Or.inl rfl) (comp_ok (defScope s_read_move) ["words", "groups", "moves"] rfl rfl (by decide +kernel)) rfl (@pi_seq _ _ _ _ (@pvN _ 1 _ _ (by rfl) (by trivial) (by decide) (by decide))) (fun C s₀ H₀ ex pn=>(@pg_name _ _ (0) _ (show List.Nodup (["group", "words", "groups", "moves"]:List Str) from by decide +kernel) rfl (Or.inl rfl) (by trivial))) (fun C s₀ H₀ ex pn=>(@pts_nil _)) (fun C s₀ H₀ ex pn=>(@pe_call _ _ _ _ _ _ _ _ _ _ _ _ _ _ _ _ G_read_one (hr.mono (by decide)) (by rfl) T.m_read_one T.F_read_one.kp T.b_read_one .nil pass0 (@pa_c _ _ _ _ _ (@pvN _ 0 _ _ (by rfl) (by trivial) (by decide) (by decide)) (@pa_nil _) (by rfl)) (by decide) (by rfl) (by rfl))) (by rfl) (by intros;rfl) (by trivial)) (@pss_one _ _ _ (@ps_ret _ _ _ _ (@pe_ifExp _ _ _ _ _ _ _ _ (@pt_cmpRN _ _ _ _ _ _ _ _ (op_qEq hr.units) (@pe_callB _ _ _ _ _ _ _ ("len") _ call_qLen (by rfl) T.z_len (by decide +kernel) (@pa_c _ _ _ _ _ (@pvN _ 2 _ _ (by rfl) (by trivial) (by decide) (by decide)) (@pa_nil _) (by rfl)) (by decide) (by decide) (by rfl) (by rfl)) (@pe_int _ _ _ _) (nomark _)) (@pe_ix _ _ _ _ _ _ _ ix_q (@pvN _ 2 _ _ (by rfl) (by trivial) (by decide) (by decide)) (@pe_int _ _ _ _) (fun _ _=>rfl)) (@pe_nMake _ _ _ _ _ _ _ _ _ _ _ _ _ _ _ _ _ T.mk_Chain G_Chain___init__ (hr.mono (by decide)) (by rfl) T.m_Chain T.b_Chain___init__ .nil pass0 (@pa_c _ _ _ _ _ (@pvN _ 2 _ _ (by rfl) (by trivial) (by decide) (by decide)) (@pa_nil _) (by rfl)) (by decide) (by rfl) (by rfl))))))))),?_⟩
  rw [show start ["words", "groups", "moves"] [.ref l]=[some (.ref l),none,none] from rfl]
  clear G_refuse_row G_split_by_then G_read_one G_Chain___init__
  replace k:=fun (_:Unit)=>k
  have hwl:=wordsG_len ok
  have hsp:=wordsG_split ok hne
  have h40:=ok.n
  replace ok:=fun (_:Unit)=>ok
  replace hsp:=fun (_:Unit)=>hsp
  replace hne:=fun (_:Unit)=>hne
  simp! only [and_true]
  refine comp_fm ((wordsG xs).map V.str) (fun _=>true) (fun _=>.bl true) (fun z x H'=>x=z∧H' l=some (.lst ((wordsG xs).map V.str))) (wk_lst hl).1 (wk_lst hl).2 (len5000 (by rw [List.length_map];omega)) ?_ ?_
  ·intro D z x' H' N1 N0 hz hD e ⟨hx,_⟩ k1 _
   subst hx
   obtain ⟨i,_,rfl⟩:=List.mem_map.mp hz
   have k1':=k1 rfl H' (Ext.refl _)
   clear k1
   simp! only [↓m_kCm_1,↓m_kCm2]
  ·intro D H1 hD e1 hD1
   have hD3:H1 D=some (.lst (((wordsG xs).map fun _=>true).map V.bl)):=by rw [hD1,filt,List.map_map,List.map_map];rfl
   have ha:((wordsG xs).map fun _=>true).all id=true:=by rw [List.all_map,List.all_eq_true];intro _ _;rfl
   have hl1:=e1.at hl
   clear hD1 hl
   generalize ((wordsG xs).map fun _=>true)=bs at hD3 ha
   simp! only [and_true]
   rw [c_spRR]
   refine ⟨rfl,?_⟩
   simp! only [and_true]
   rw [c_spSpl]
   refine ⟨wordsG xs,hl1,by omega,fun g gs H2 e2 hg al=>?_⟩
   rw [hsp ()] at al
   have hgl:gs.length=xs.length:=by rw [al.1,List.length_map]
   have e02:=e1.trans e2
   clear hl1 hD3 ha
   simp! only [and_true]
   rw [c_spRR]
   refine ⟨decide_eq_true (by omega),?_⟩
   have al':Al (fun x y=>∃ a,y=.ref a∧H2 a=some (.lst ((wordsT x).map V.str))) xs gs:=⟨hgl,fun i x y hx hy=>al.2 i (wordsT x) y (by rw [List.getElem?_map,hx];rfl) hy⟩
   replace hgl:=fun (_:Unit)=>hgl
   clear al
   simp! only [and_true]
   have wk:=wk_al (K:=K) (R:=fun (x:Tl) y H=>∃ a,y=V.ref a∧H a=some (.lst ((wordsT x).map V.str))) (fun _ _ _ _ ⟨a,h1,h2⟩ e=>⟨a,h1,e.at h2⟩) hg al'
   refine comp_rel xs (fun _=>true) (fun (x:Tl) y H=>∃ a,y=V.ref a∧H a=some (.lst ((wordsT x).map V.str))) (fun D x y H'=>∃ v,y=.ref v∧v ≠ D∧MvF t (upd H2 D (.lst [])) H' v x) wk.1 wk.2 (fun D _ y H1 H2 ⟨v,h1,h2,h3⟩ e=>⟨v,h1,h2,h3.ext e⟩) (fun D _ y H1 o ⟨v,h1,h2,h3⟩=>⟨v,h1,h2,h3.putN h2⟩) (len5000 (by omega)) ?_ ?_
   ·intro D x y H' N1 N0 hx hD e ⟨ys0,hys0⟩ ⟨a,hy,ha⟩ k1 _
    subst hy
    have k1':=k1 rfl
    have okx:=(ok ()).ok x hx
    clear k1 wk
    simp! only [↓m_kCm_1,↓m_kCm2]
    rw [c_spRdO]
    exact ⟨x,ha,okx,fun v H'' e' mv=>k1' _ H'' e' ⟨v,rfl,(fun z=>by
     obtain ⟨dx,fs,hv⟩:=mv.cls
     rw [z,e'.at hys0] at hv;cases hv),mv.fm e hys0⟩⟩
   ·intro D zs H3 hD e3 hD3 al3
    rw [filt] at al3
    have hzl:zs.length=xs.length:=al3.1
    have e03:=e02.trans e3
    have eD:Ext H (upd H2 D (.lst [])):=e02.trans (Ext.new hD)
    clear wk
    by_cases h1:xs.length=1
    ·obtain ⟨x,rfl⟩:=List.length_eq_one_iff.mp h1
     obtain ⟨z,rfl⟩:=List.length_eq_one_iff.mp (hzl.trans h1)
     obtain ⟨v,rfl,_,mv⟩:=al3.2 0 x z rfl rfl
     have k2:=k () v H3 e03 (.inl ⟨x,rfl,mv.less eD⟩)
     clear k hzl h1 hgl
     simp! only [and_true]
    ·have hz1:¬ (zs.length:Int)=1:=by omega
     have h2:2≤xs.length:=by have:=List.length_pos_iff.mpr (hne ());omega
     replace hzl:=fun (_:Unit)=>hzl
     simp! only [and_true]
     intro v dx G hx hd hq g' k1 kk
     rw [c_spInChain]
     refine ⟨dx,_,k1,g'.at hD3,by rw [hzl ()];omega,fun H4 D4 gg hD4 h4 d4=>?_⟩
     have j:=gg H3 g' hx
     have fr:H D4=none:=e03.free (g'.free hD4)
     clear k1 kk hd hq gg hD4
     simp! only [and_true]
     exact k () v H4 (e03.trans j) (.inr ⟨h2,dx,D4,zs,h4,fr,d4,al3.imp fun x y ⟨u,u1,_,u3⟩=>⟨u,u1,(u3.ext j).less eD⟩⟩)
abbrev B_spPart  (c:Int) (j:Int) (H:Hp) (Q:VK) (E:XK):Prop:=0≤c∧0≤j∧j < 8∧∀ (i:Int) (H':Hp),Ext H H'->i.natAbs < 10 ^ 20->Q (.int i) H'
def spPart  : Sp:=fun vs H Q E=>∃ (c:Int) (j:Int),vs=[.int c,.int j]∧(B_spPart  c j H Q E)
theorem c_spPart  (c:Int) (j:Int) (H:Hp) (Q:VK) (E:XK):spPart  [.int c,.int j] H Q E=(B_spPart  c j H Q E):=spx2 (f:=fun (c:Int) (j:Int)=>[.int c,.int j]) (fun _ _ _ _ h=>by cases h;exact ⟨rfl,rfl⟩) c j
theorem l_spPart  {vs:List V}{H:Hp}{Q:VK}{E:XK}(h:spPart  vs H Q E):vs.length=2:=spl2 h fun _ _=>rfl
theorem ok__law_part (T:Tx K mg t):FnOk P t.w K mg base CX0 1 t.a__law_part t.d__law_part ["_law_cell", "_law_j"] spPart:=by
 refine T.F__law_part.ok c__law_part (fun vs H Q E h=>l_spPart h) (fun cdv A outer s H vs Q E hr h=>?_)
 ·obtain ⟨c,j,rfl,c0,j0,j1,k⟩:=h
  refine ⟨_,(@pss_cons _ _ _ _ _ (@ps_set _ _ (2) _ _ _ _ c__law_part.nd rfl (Or.inl rfl) (@pe_ix _ _ _ _ _ _ _ ix_q (@pe_qLst _ _ _ _ (@pa_c _ _ _ _ _ (@pe_int _ _ _ _) (@pa_c _ _ _ _ _ (@pe_int _ _ _ _) (@pa_c _ _ _ _ _ (@pe_int _ _ _ _) (@pa_c _ _ _ _ _ (@pe_int _ _ _ _) (@pa_c _ _ _ _ _ (@pe_int _ _ _ _) (@pa_c _ _ _ _ _ (@pe_int _ _ _ _) (@pa_c _ _ _ _ _ (@pe_int _ _ _ _) (@pa_c _ _ _ _ _ (@pe_int _ _ _ _) (@pa_nil _) (by rfl)) (by rfl)) (by rfl)) (by rfl)) (by rfl)) (by rfl)) (by rfl)) (by rfl))) (@pvN _ 1 _ _ (by rfl) (by trivial) (by decide) (by decide)) (fun _ _=>rfl)) (by rfl) (by trivial)) (@pss_cons _ _ _ _ _ (@ps_set _ _ (3) _ _ _ _ c__law_part.nd rfl (Or.inl rfl) (@pe_op _ _ _ _ _ _ _ _ on_mod (@pe_op _ _ _ _ _ _ _ _ on_add (@pe_op _ _ _ _ _ _ _ _ on_mul (@pe_op _ _ _ _ _ _ _ _ on_mod (@pvN _ 0 _ _ (by rfl) (by trivial) (by decide) (by decide)) (@pe_int _ _ _ _)) (@pvN _ 2 _ _ (by rfl) (by trivial) (by decide) (by decide))) (@pe_op _ _ _ _ _ _ _ _ on_mul (@pe_op _ _ _ _ _ _ _ _ on_mul (@pvN _ 1 _ _ (by rfl) (by trivial) (by decide) (by decide)) (@pvN _ 1 _ _ (by rfl) (by trivial) (by decide) (by decide))) (@pe_int _ _ _ _))) (@pe_int _ _ _ _)) (by rfl) (by trivial)) (@pss_cons _ _ _ _ _ (@ps_set _ _ (4) _ _ _ _ c__law_part.nd rfl (Or.inl rfl) (@pe_op _ _ _ _ _ _ _ _ on_mod (@pe_op _ _ _ _ _ _ _ _ on_mul (@pe_op _ _ _ _ _ _ _ _ on_mul (@pvN _ 3 _ _ (by rfl) (by trivial) (by decide) (by decide)) (@pvN _ 3 _ _ (by rfl) (by trivial) (by decide) (by decide))) (@pvN _ 3 _ _ (by rfl) (by trivial) (by decide) (by decide))) (@pe_op _ _ _ _ _ _ _ _ on_sub (@pe_op _ _ _ _ _ _ _ _ on_pow (@pe_int _ _ _ _) (@pe_int _ _ _ _)) (@pe_int _ _ _ _))) (by rfl) (by trivial)) (@pss_cons _ _ _ _ _ (@ps_set _ _ (5) _ _ _ _ c__law_part.nd rfl (Or.inl rfl) (@pe_op _ _ _ _ _ _ _ _ on_mod (@pe_op _ _ _ _ _ _ _ _ on_fdiv (@pvN _ 3 _ _ (by rfl) (by trivial) (by decide) (by decide)) (@pe_int _ _ _ _)) (@pe_int _ _ _ _)) (by rfl) (by trivial)) (@pss_one _ _ _ (@ps_ret _ _ _ _ (@pe_ix _ _ _ _ _ _ _ ix_q (@pe_qLst _ _ _ _ (@pa_c _ _ _ _ _ (@pvN _ 5 _ _ (by rfl) (by trivial) (by decide) (by decide)) (@pa_c _ _ _ _ _ (@pvN _ 5 _ _ (by rfl) (by trivial) (by decide) (by decide)) (@pa_c _ _ _ _ _ (@pe_op _ _ _ _ _ _ _ _ on_sub (@pe_op _ _ _ _ _ _ _ _ on_sub (@pe_int _ _ _ _) (@pe_int _ _ _ _)) (@pvN _ 5 _ _ (by rfl) (by trivial) (by decide) (by decide))) (@pa_c _ _ _ _ _ (@pvN _ 4 _ _ (by rfl) (by trivial) (by decide) (by decide)) (@pa_c _ _ _ _ _ (@pe_op _ _ _ _ _ _ _ _ on_sub (@pe_op _ _ _ _ _ _ _ _ on_sub (@pe_int _ _ _ _) (@pe_int _ _ _ _)) (@pvN _ 4 _ _ (by rfl) (by trivial) (by decide) (by decide))) (@pa_c _ _ _ _ _ (@pe_op _ _ _ _ _ _ _ _ on_mod (@pe_op _ _ _ _ _ _ _ _ on_fdiv (@pvN _ 3 _ _ (by rfl) (by trivial) (by decide) (by decide)) (@pe_int _ _ _ _)) (@pe_int _ _ _ _)) (@pa_c _ _ _ _ _ (@pe_int _ _ _ _) (@pa_c _ _ _ _ _ (@pe_op _ _ _ _ _ _ _ _ on_sub (@pe_op _ _ _ _ _ _ _ _ on_pow (@pe_int _ _ _ _) (@pe_int _ _ _ _)) (@pe_int _ _ _ _)) (@pa_nil _) (by rfl)) (by rfl)) (by rfl)) (by rfl)) (by rfl)) (by rfl)) (by rfl)) (by rfl))) (@pe_op _ _ _ _ _ _ _ _ on_mod (@pvN _ 3 _ _ (by rfl) (by trivial) (by decide) (by decide)) (@pe_int _ _ _ _)) (fun _ _=>rfl)))))))),?_⟩
  rw [show start ["_law_cell", "_law_j", "_law_by", "_law_number_here", "_law_far", "_law_near"] [.int c,.int j]=[some (.int c),some (.int j),none,none,none,none] from rfl]
  replace k:=fun (_:Unit)=>k
  simp! only [and_true]
  intro l1 H1 _ e1 h1
  simp! only [and_true]
  refine optK_ints (fun b=>0≤b∧b < 100000) j0 j1 (fun v hv=>?_) fun b hb=>?_
  ·simp only [List.mem_cons,List.not_mem_nil,or_false] at hv
   rcases hv with rfl|rfl|rfl|rfl|rfl|rfl|rfl|rfl<;>exact ⟨_,rfl,by decide⟩
  have d0:=Int.emod_nonneg c (show (999999937:Int) ≠ 0 by decide)
  have d1:=Int.emod_lt_of_pos c (show (0:Int) < 999999937 by decide)
  have cm1:CMul (c % 999999937) b:=.inl ⟨by omega,by omega⟩
  have cm2:CMul j j:=.inl ⟨by omega,by omega⟩
  simp! only [and_true]
  have n0:=Int.emod_nonneg (c % 999999937 * b+j * j * 7919) (show (2147483629:Int) ≠ 0 by decide)
  have n1:=Int.emod_lt_of_pos (c % 999999937 * b+j * j * 7919) (show (0:Int) < 2147483629 by decide)
  generalize (c % 999999937 * b+j * j * 7919) % 2147483629=n at n0 n1 ⊢
  refine ⟨.inl ⟨by omega,by omega⟩,.inr ⟨by omega,by omega⟩,?_⟩
  have f0:=Int.emod_nonneg (n * n * n) (show (99999999999999999999:Int) ≠ 0 by decide)
  have f1:=Int.emod_lt_of_pos (n * n * n) (show (0:Int) < 99999999999999999999 by decide)
  generalize n * n * n % 99999999999999999999=f at f0 f1 ⊢
  intro l2 H2 _ e2 h2
  clear h1
  simp! only [and_true]
  refine optK_ints (fun i=>i.natAbs < 10 ^ 20) (Int.emod_nonneg _ (by decide)) (Int.emod_lt_of_pos _ (by decide)) (fun v hv=>?_) fun i hi=>?_
  ·simp only [List.mem_cons,List.not_mem_nil,or_false] at hv
   rcases hv with rfl|rfl|rfl|rfl|rfl|rfl|rfl|rfl<;>exact ⟨_,rfl,by omega⟩
  exact k () i H2 (e1.trans e2) hi
abbrev B_spWds  (r:V) (H:Hp) (Q:VK) (E:XK):Prop:=∃ (F:Hp) (x:Tl),TlF F H r x∧TlOk x∧∀ (q:Addr) (H':Hp),Ext H H'->H q=none->H' q=some (.lst ((wordsT x).map V.str))->Q (.ref q) H'
def spWds  : Sp:=fun vs H Q E=>∃ (r:V),vs=[r]∧(B_spWds  r H Q E)
theorem c_spWds  (r:V) (H:Hp) (Q:VK) (E:XK):spWds  [r] H Q E=(B_spWds  r H Q E):=spx1 (f:=fun (r:V)=>[r]) (fun _ _ h=>by cases h;exact rfl) r
theorem l_spWds  {vs:List V}{H:Hp}{Q:VK}{E:XK}(h:spWds  vs H Q E):vs.length=1:=spl1 h fun _=>rfl
theorem ok__law_words (T:Tx K mg t):FnOk P t.w K mg base CX0 1 t.a__law_words t.d__law_words ["_law_told_here"] spWds:=by
 refine T.F__law_words.ok c__law_words (fun vs H Q E h=>l_spWds h) (fun cdv A outer s H vs Q E hr h=>?_)
 ·obtain ⟨_,rfl,F,x,⟨p,rfl,tl⟩,ok,k⟩:=h
  refine ⟨_,(@pss_cons _ _ _ _ _ (@ps_set _ _ (1) _ _ _ _ c__law_words.nd rfl (Or.inl rfl) (@pe_slice _ _ _ _ _ _ _ _ _ _ sl_nU (@pvN _ 0 _ _ (by rfl) (by trivial) (by decide) (by decide)) (@po_some _ _ _ (@pe_int _ _ _ _)) (@po_none _)) (by rfl) (by trivial)) (@pss_cons _ _ _ _ _ (@ps_if _ _ _ _ _ _ _ _ (@pt_cmpRN _ _ _ _ _ _ _ _ (op_qEq hr.units) (@pe_ix _ _ _ _ _ _ _ ix_q (@pvN _ 0 _ _ (by rfl) (by trivial) (by decide) (by decide)) (@pe_int _ _ _ _) (fun _ _=>rfl)) (@pe_str _ _ _ _) (nomark _)) (@pss_one _ _ _ (@ps_set _ _ (1) _ _ _ _ c__law_words.nd rfl (Or.inl rfl) (@pe_ix _ _ _ _ _ _ _ ix_q (@pvN _ 0 _ _ (by rfl) (by trivial) (by decide) (by decide)) (@pe_int _ _ _ _) (fun _ _=>rfl)) (by rfl) (by trivial))) (@pss_nil _)) (@pss_cons _ _ _ _ _ (@ps_set _ _ (2) _ _ _ _ c__law_words.nd rfl (Or.inl rfl) (@pe_qLst _ _ _ _ (@pa_c _ _ _ _ _ (@pe_ix _ _ _ _ _ _ _ ix_q (@pvN _ 0 _ _ (by rfl) (by trivial) (by decide) (by decide)) (@pe_int _ _ _ _) (fun _ _=>rfl)) (@pa_nil _) (by rfl))) (by rfl) (by trivial)) (@pss_cons _ _ _ _ _ (@ps_for _ _ _ _ _ _ _ _ PassesOwn.never rfl (@pi_seq _ _ _ _ (@pvN _ 1 _ _ (by rfl) (by trivial) (by decide) (by decide))) (@pg_name _ _ (3) _ c__law_words.nd rfl (Or.inl rfl) (by trivial)) (@pss_one _ _ _ (@ps_expr _ _ _ _ (@pe_bm _ _ _ _ _ _ _ _ _ _ _ _ PySem.F.plainAttrs_list PySem.F.slot_list_append PySem.F.type_list_append mt_append (@pvN _ 2 _ _ (by rfl) (by trivial) (by decide) (by decide)) (@pa_c _ _ _ _ _ (@pe_ifExp _ _ _ _ _ _ _ _ (@pt_cmpRN _ _ _ _ _ _ _ _ op_qIs (@pvN _ 3 _ _ (by rfl) (by trivial) (by decide) (by decide)) (@pe_non _ _ _) (nomark _)) (@pe_str _ _ _ _) (@pe_callTy _ _ _ _ _ _ _ _ _ call_qStr (by rfl) T.z_str (by decide +kernel) (@pa_c _ _ _ _ _ (@pvN _ 3 _ _ (by rfl) (by trivial) (by decide) (by decide)) (@pa_nil _) (by rfl)) (by decide) (by decide) (by rfl) (by rfl))) (@pa_nil _) (by rfl)) (by rfl) (by rfl) (by rfl) (by rfl) (by rfl)) (by rfl))) (by intros;rfl)) (@pss_one _ _ _ (@ps_ret _ _ _ _ (@pvN _ 2 _ _ (by rfl) (by trivial) (by decide) (by decide)))))))),?_⟩
  rw [show start ["_law_told_here", "_law_numbers", "_law_words_here", "_law_number_here"] [.ref p]=[some (.ref p),none,none,none] from rfl]
  have h9:=ok.k
  have h8:=ok.m
  replace k:=fun (_:Unit)=>k
  replace ok:=fun (_:Unit)=>ok
  rcases tl with ⟨h3,hp⟩|⟨h3,l,hp,_,hl⟩
  ·have hw:=wd_turn h9 h3
   simp! only [and_true]
   refine use_tail hp fun q1 H1 e1 h1=>?_
   have h1':H1 q1=some (.tup (x.2.map oV)):=h1
   have hp1:=e1.at hp
   clear h1 hp
   simp! only [and_true]
   intro q H2 hq e2 h2
   have hq0:H q=none:=e1.free hq
   clear hp1
   simp! only [and_true]
   refine for_tupl (xs:=x.2.map oV) (fun i σ H'=>∃ v3:Option V,σ=[some (.ref p),some (.ref q1),some (.ref q),v3]∧Ext H1 H'∧H' q=some (.lst (.str (wdM x.1)::((x.2.take i).map optT).map V.str))) ⟨none,rfl,e2,h2⟩ (fun i σ H' _ ⟨_,_,e,_⟩=>e.at h1') ?_ ?_
   ·rintro i y _ H3 hi ⟨v3,rfl,e3,h3'⟩
    rw [List.getElem?_map] at hi
    obtain ⟨o,ho,rfl⟩:=Option.map_eq_some_iff.mp hi
    have hm:=List.mem_of_getElem? ho
    have hi':i < x.2.length:=(List.getElem?_eq_some_iff.mp ho).1
    have tk:x.2.take (i+1)=x.2.take i++[o]:=by rw [List.take_succ,ho];rfl
    replace tk:=fun (_:Unit)=>tk
    clear hi h2 ho
    cases o with
    | none=>
     unfold oV
     simp! only [↓m_kBody]
     exact ⟨lt5000 (by rw [List.length_take];omega),_,rfl,e3.put hq,by rw [tk (),List.map_append,List.map_append];rfl⟩
    | some j=>
     have hlg:j.natAbs.log2 < 1920:=by
      have:=(ok ()).b _ hm j rfl
      by_cases h0:j.natAbs=0
      ·rw [h0];decide
      ·exact (Nat.log2_lt h0).mpr (by omega)
     unfold oV
     simp! only [↓m_kBody]
     exact ⟨lt5000 (by rw [List.length_take];omega),_,rfl,e3.put hq,by rw [tk (),List.map_append,List.map_append];rfl⟩
   ·rintro _ H3 ⟨v3,rfl,e3,h3'⟩
    rw [List.length_map,List.take_length] at h3'
    simp! only [and_true]
    exact k () q H3 (e1.trans e3) hq0 h3'
  ·have hw:wdM x.1=Str.ofString "turn":=by rw [h3];rfl
   simp! only [and_true]
   refine use_tail hp fun q1 H1 e1 h1=>?_
   have hp1:=e1.at hp
   have hl1:=e1.at hl
   clear h1 hp hl
   simp! only [and_true]
   intro q H2 hq e2 h2
   have hq0:H q=none:=e1.free hq
   clear hp1
   simp! only [and_true]
   refine for_lst (xs:=x.2.map oV) (fun i σ H'=>∃ v3:Option V,σ=[some (.ref p),some (.ref l),some (.ref q),v3]∧Ext H1 H'∧H' q=some (.lst (.str (Str.ofString "turn")::((x.2.take i).map optT).map V.str))) ⟨none,rfl,e2,h2⟩ (fun i σ H' _ ⟨_,_,e,_⟩=>e.at hl1) ?_ ?_
   ·rintro i y _ H3 hi ⟨v3,rfl,e3,h3'⟩
    rw [List.getElem?_map] at hi
    obtain ⟨o,ho,rfl⟩:=Option.map_eq_some_iff.mp hi
    have hm:=List.mem_of_getElem? ho
    have hi':i < x.2.length:=(List.getElem?_eq_some_iff.mp ho).1
    have tk:x.2.take (i+1)=x.2.take i++[o]:=by rw [List.take_succ,ho];rfl
    replace tk:=fun (_:Unit)=>tk
    clear hi h2 ho
    cases o with
    | none=>
     unfold oV
     simp! only [↓m_kBody]
     exact ⟨lt5000 (by rw [List.length_take];omega),_,rfl,e3.put hq,by rw [tk (),List.map_append,List.map_append];rfl⟩
    | some j=>
     have hlg:j.natAbs.log2 < 1920:=by
      have:=(ok ()).b _ hm j rfl
      by_cases h0:j.natAbs=0
      ·rw [h0];decide
      ·exact (Nat.log2_lt h0).mpr (by omega)
     unfold oV
     simp! only [↓m_kBody]
     exact ⟨lt5000 (by rw [List.length_take];omega),_,rfl,e3.put hq,by rw [tk (),List.map_append,List.map_append];rfl⟩
   ·rintro _ H3 ⟨v3,rfl,e3,h3'⟩
    rw [List.length_map,List.take_length] at h3'
    simp! only [and_true]
    exact k () q H3 (e1.trans e3) hq0 (by rw [h3'];show _=some (HO.lst (V.str (wdM x.1)::(x.2.map optT).map V.str));rw [hw])
theorem optK_pick {xs:List V}{i:Int}{k:V->Prop}(P:V->Prop) (h0:0≤i) (h1:i < xs.length) (ha:∀ v∈xs,P v) (hk:∀ v,P v->k v):optK (atI xs i) k:=optK_at h0 h1 fun v hv=>hk v (ha v hv)
theorem cut_to (xs:List V) (z:Int) (h:0≤z):cutV xs none (some z)=xs.take z.toNat:=by
 unfold cutV
 obtain ⟨n,rfl⟩:=Int.eq_ofNat_of_zero_le h
 rw [HT.sIx_none,HT.sIx_nat,List.drop_zero,Nat.sub_zero]
 show xs.take (min n xs.length)=xs.take n
 rcases Nat.le_total n xs.length with q|q
 ·rw [Nat.min_eq_left q]
 ·rw [Nat.min_eq_right q,List.take_length,List.take_of_length_le q]
theorem al_ints {P:Int->Prop}:∀ {α:Type}{xs:List α}{zs:List V},Al (fun _ y=>∃ i,y=V.int i∧P i) xs zs->∃ ns:List Int,zs=ns.map V.int∧ns.length=xs.length∧∀ i∈ns,P i
 | _,[],zs,h=>⟨[],List.eq_nil_of_length_eq_zero h.1,rfl,fun _ h=>absurd h List.not_mem_nil⟩
 | _,x::xs,[],h=>by have:=h.1;simp at this
 | _,x::xs,z::zs,h=>by
  obtain ⟨i,rfl,hi⟩:=h.2 0 x z rfl rfl
  obtain ⟨ns,h1,h2,h3⟩:=al_ints (P:=P) (xs:=xs) (zs:=zs) ⟨by have:=h.1;simpa using this,fun i z y a b=>h.2 (i+1) z y (by simpa using a) (by simpa using b)⟩
  refine ⟨i::ns,by rw [h1];rfl,by rw [List.length_cons,h2,List.length_cons],fun j hj=>?_⟩
  rcases List.mem_cons.mp hj with rfl|hj
  ·exact hi
  ·exact h3 j hj
def mnL:List (Str × Int):=[("slice",4),("pick",2),("fresh",1),("spread",2),("cut",2),("window",2),("diagonal",2),("stay",0)]
theorem mn_at:∀ {i:Nat},i < 9->i ≠ 3->valV (strKV mnL) (.inr (wdM i))=some (.int ((cnM i:Nat):Int))
 | 0,_,_=>by rfl
 | 1,_,_=>by rfl
 | 2,_,_=>by rfl
 | 3,_,h=>absurd rfl h
 | 4,_,_=>by rfl
 | 5,_,_=>by rfl
 | 6,_,_=>by rfl
 | 7,_,_=>by rfl
 | 8,_,_=>by rfl
 | n+9,h,_=>absurd h (by omega)
theorem cn_le:∀ (i:Nat),cnM i≤4
 | 0=>by decide
 | 1=>by decide
 | 2=>by decide
 | 3=>by decide
 | 4=>by decide
 | 5=>by decide
 | 6=>by decide
 | 7=>by decide
 | 8=>by decide
 | n+9=>by show 0≤4;decide
def OsI (D:Addr) (H:Hp):Prop:=∃ os:List (Option Int),H D=some (.lst (os.map oV))∧os.length=8∧(∀ o∈os,∀ j,o=some j->j.natAbs < 10 ^ 20)∧∃ j,os.head? = some (some j)
theorem OsI.ext {D:Addr}{H H':Hp}(h:OsI D H) (e:Ext H H'):OsI D H':=by
 obtain ⟨os,h1,h2⟩:=h
 exact ⟨os,e.at h1,h2⟩
def spTold (K:PySem.W.Frag) (a:Addr) (ns:List Int):Sp:=fun vs H Q E=>∃ (p:Addr) (k:Int),vs=[.ref p,.int k]∧(p=a∧SqL K H a (ns.map V.int)∧ns.length≤63∧0≤k∧k < 900∧∀ (x:Tl) (r:V) (H':Hp),Ext H H'->TlF H H' r x->TlOk x->Q r H')
theorem c_spTold (K:PySem.W.Frag) (a:Addr) (ns:List Int) (p:Addr) (k:Int) (H:Hp) (Q:VK) (E:XK):spTold K a ns [.ref p,.int k] H Q E=(p=a∧SqL K H a (ns.map V.int)∧ns.length≤63∧0≤k∧k < 900∧∀ (x:Tl) (r:V) (H':Hp),Ext H H'->TlF H H' r x->TlOk x->Q r H'):=spx2 (f:=fun (p:Addr) (k:Int)=>[.ref p,.int k]) (fun _ _ _ _ h=>by cases h;exact ⟨rfl,rfl⟩) p k
theorem l_spTold (K:PySem.W.Frag) (a:Addr) (ns:List Int){vs:List V}{H:Hp}{Q:VK}{E:XK}(h:spTold K a ns vs H Q E):vs.length=2:=spl2 h fun _ _=>rfl
theorem ok__law_told (T:Tx K mg t) (a:Addr) (ns:List Int):FnOk P t.w K mg base CX0 2 t.a__law_told t.d__law_told ["_law_script", "_law_k"] (spTold K a ns):=by
 have G__law_draw:=ok__law_draw (P:=P) (base:=base) T a ns
 have G__law_part:=ok__law_part (P:=P) (base:=base) T
 refine T.F__law_told.ok c__law_told (fun vs H Q E h=>l_spTold _ _ _ h) (fun cdv A outer s H vs Q E hr h=>?_)
 ·obtain ⟨_,k,rfl,rfl,hS,hl,k0,k1,kk⟩:=h
  rename_i a
  refine ⟨_,(@pss_cons _ _ _ _ _ (@ps_set _ _ (2) _ _ _ _ c__law_told.nd rfl (Or.inr rfl) (@pe_call _ _ _ _ _ _ _ _ _ _ _ _ _ _ _ _ G__law_draw (hr.mono (by decide)) (by rfl) T.m__law_draw T.F__law_draw.kp T.b__law_draw .nil pass0 (@pa_c _ _ _ _ _ (@pvN _ 0 _ _ (by rfl) (by trivial) (by decide) (by decide)) (@pa_c _ _ _ _ _ (@pe_op _ _ _ _ _ _ _ _ on_add (@pe_int _ _ _ _) (@pvN _ 1 _ _ (by rfl) (by trivial) (by decide) (by decide))) (@pa_c _ _ _ _ _ (@pe_op _ _ _ _ _ _ _ _ on_pow (@pe_int _ _ _ _) (@pe_int _ _ _ _)) (@pa_nil _) (by rfl)) (by rfl)) (by rfl)) (by decide) (by rfl) (by rfl)) (by rfl) (by trivial)) (@pss_cons _ _ _ _ _ (@ps_set _ _ (3) _ _ _ _ c__law_told.nd rfl (Or.inl rfl) (@pe_ix _ _ _ _ _ _ _ ix_q (@pe_qLst _ _ _ _ (@pa_c _ _ _ _ _ (@pe_str _ _ _ _) (@pa_c _ _ _ _ _ (@pe_str _ _ _ _) (@pa_c _ _ _ _ _ (@pe_str _ _ _ _) (@pa_c _ _ _ _ _ (@pe_str _ _ _ _) (@pa_c _ _ _ _ _ (@pe_str _ _ _ _) (@pa_c _ _ _ _ _ (@pe_str _ _ _ _) (@pa_c _ _ _ _ _ (@pe_str _ _ _ _) (@pa_c _ _ _ _ _ (@pe_str _ _ _ _) (@pa_c _ _ _ _ _ (@pe_str _ _ _ _) (@pa_nil _) (by rfl)) (by rfl)) (by rfl)) (by rfl)) (by rfl)) (by rfl)) (by rfl)) (by rfl)) (by rfl))) (@pe_op _ _ _ _ _ _ _ _ on_mod (@pvN _ 2 _ _ (by rfl) (by trivial) (by decide) (by decide)) (@pe_int _ _ _ _)) (fun _ _=>rfl)) (by rfl) (by trivial)) (@pss_cons _ _ _ _ _ (@ps_setC _ _ _ _ _ _ _ _ _ _ _ _ _ (["_law_j", "_law_script", "_law_k", "_law_cell", "_law_word", "_law_numbers", "!_law_j", "_law_many"]) (1) (4) _ c__law_told.nd rfl (Or.inl rfl) (comp_ok (defScope s__law_told) ["_law_script", "_law_k", "_law_cell", "_law_word", "_law_numbers", "_law_j", "_law_many"] rfl rfl (by decide +kernel)) rfl (@pi_range1 _ _ _ _ _ _ (by rfl) T.z_range (@pa_c _ _ _ _ _ (@pe_int _ _ _ _) (@pa_nil _) (by rfl)) (by rfl)) (fun C s₀ H₀ ex pn=>(@pg_name _ _ (0) _ (show List.Nodup (["_law_j", "_law_script", "_law_k", "_law_cell", "_law_word", "_law_numbers", "!_law_j", "_law_many"]:List Str) from by decide +kernel) rfl (Or.inl rfl) (by trivial))) (fun C s₀ H₀ ex pn=>(@pts_nil _)) (fun C s₀ H₀ ex pn=>(@pe_call _ _ _ _ _ _ _ _ _ _ _ _ _ _ _ _ G__law_part (hr.mono (by decide)) (by rfl) T.m__law_part T.F__law_part.kp T.b__law_part .nil pass0 (@pa_c _ _ _ _ _ (@pe_op _ _ _ _ _ _ _ _ on_fdiv (@pvN _ 3 _ _ (by rfl) (by trivial) (by decide) (by decide)) (@pe_int _ _ _ _)) (@pa_c _ _ _ _ _ (@pvN _ 0 _ _ (by rfl) (by trivial) (by decide) (by decide)) (@pa_nil _) (by rfl)) (by rfl)) (by decide) (by rfl) (by rfl))) (by rfl) (by intros;rfl) (by trivial)) (@pss_cons _ _ _ _ _ (@ps_if _ _ _ _ _ _ _ _ (@pt_cmpRN _ _ _ _ _ _ _ _ (op_qEq hr.units) (@pvN _ 3 _ _ (by rfl) (by trivial) (by decide) (by decide)) (@pe_str _ _ _ _) (nomark _)) (@pss_one _ _ _ (@ps_ret _ _ _ _ (@pe_qTup _ _ _ _ _ (@pa_c _ _ _ _ _ (@pvN _ 3 _ _ (by rfl) (by trivial) (by decide) (by decide)) (@pa_c _ _ _ _ _ (@pe_slice _ _ _ _ _ _ _ _ _ _ sl_n (@pvN _ 4 _ _ (by rfl) (by trivial) (by decide) (by decide)) (@po_none _) (@po_some _ _ _ (@pe_op _ _ _ _ _ _ _ _ on_mod (@pe_op _ _ _ _ _ _ _ _ on_fdiv (@pvN _ 2 _ _ (by rfl) (by trivial) (by decide) (by decide)) (@pe_int _ _ _ _)) (@pe_int _ _ _ _)))) (@pa_nil _) (by rfl)) (by rfl))))) (@pss_nil _)) (@pss_cons _ _ _ _ _ (@ps_if _ _ _ _ _ _ _ _ (@pt_cmpRN _ _ _ _ _ _ _ _ (op_qEq hr.units) (@pvN _ 3 _ _ (by rfl) (by trivial) (by decide) (by decide)) (@pe_str _ _ _ _) (nomark _)) (@pss_one _ _ _ (@ps_for _ _ _ _ _ _ _ _ PassesOwn.never rfl (@pi_range2 _ _ _ _ _ _ _ (by rfl) T.z_range (@pa_c _ _ _ _ _ (@pe_int _ _ _ _) (@pa_c _ _ _ _ _ (@pe_int _ _ _ _) (@pa_nil _) (by rfl)) (by rfl)) (by rfl) (by rfl)) (@pg_name _ _ (5) _ c__law_told.nd rfl (Or.inl rfl) (by trivial)) (@pss_one _ _ _ (@ps_if _ _ _ _ _ _ _ _ (@pt_cmpRN _ _ _ _ _ _ _ _ (op_qEq hr.units) (@pe_op _ _ _ _ _ _ _ _ on_mod (@pe_call _ _ _ _ _ _ _ _ _ _ _ _ _ _ _ _ G__law_part (hr.mono (by decide)) (by rfl) T.m__law_part T.F__law_part.kp T.b__law_part .nil pass0 (@pa_c _ _ _ _ _ (@pe_op _ _ _ _ _ _ _ _ on_fdiv (@pvN _ 2 _ _ (by rfl) (by trivial) (by decide) (by decide)) (@pe_int _ _ _ _)) (@pa_c _ _ _ _ _ (@pvN _ 5 _ _ (by rfl) (by trivial) (by decide) (by decide)) (@pa_nil _) (by rfl)) (by rfl)) (by decide) (by rfl) (by rfl)) (@pe_int _ _ _ _)) (@pe_int _ _ _ _) (nomark _)) (@pss_one _ _ _ (@ps_asg _ _ _ _ _ _ (@pe_non _ _ _) (@pg_sub _ _ _ _ _ _ _ (@pvN _ 4 _ _ (by rfl) (by trivial) (by decide) (by decide)) (@pvN _ 5 _ _ (by rfl) (by trivial) (by decide) (by decide)) set_list (by intros;rfl)) (by rfl) (by rfl) (by rfl))) (@pss_nil _))) (by intros;rfl))) (@pss_nil _)) (@pss_cons _ _ _ _ _ (@ps_set _ _ (6) _ _ _ _ c__law_told.nd rfl (Or.inl rfl) (@pe_dget _ _ _ _ _ _ (units1 hr.units) (@pe_disp _ _ _ _ _ (@pps_cons _ _ _ _ _ _ _ _ _ (@pe_str _ _ _ _) (@pe_int _ _ _ _) (@pps_cons _ _ _ _ _ _ _ _ _ (@pe_str _ _ _ _) (@pe_int _ _ _ _) (@pps_cons _ _ _ _ _ _ _ _ _ (@pe_str _ _ _ _) (@pe_int _ _ _ _) (@pps_cons _ _ _ _ _ _ _ _ _ (@pe_str _ _ _ _) (@pe_int _ _ _ _) (@pps_cons _ _ _ _ _ _ _ _ _ (@pe_str _ _ _ _) (@pe_int _ _ _ _) (@pps_cons _ _ _ _ _ _ _ _ _ (@pe_str _ _ _ _) (@pe_int _ _ _ _) (@pps_cons _ _ _ _ _ _ _ _ _ (@pe_str _ _ _ _) (@pe_int _ _ _ _) (@pps_cons _ _ _ _ _ _ _ _ _ (@pe_str _ _ _ _) (@pe_int _ _ _ _) (@pps_nil _ _))))))))) rfl rfl (by simp) (by decide)) (@pvN _ 3 _ _ (by rfl) (by trivial) (by decide) (by decide)) (fun _ _=>rfl)) (by rfl) (by trivial)) (@pss_one _ _ _ (@ps_ret _ _ _ _ (@pe_op _ _ _ _ _ _ _ _ op_nCatT (@pe_qTup _ _ _ _ _ (@pa_c _ _ _ _ _ (@pvN _ 3 _ _ (by rfl) (by trivial) (by decide) (by decide)) (@pa_nil _) (by rfl))) (@pe_callTy _ _ _ _ _ _ _ _ _ call_nTuple (by rfl) T.z_tuple (by decide +kernel) (@pa_c _ _ _ _ _ (@pe_slice _ _ _ _ _ _ _ _ _ _ sl_n (@pvN _ 4 _ _ (by rfl) (by trivial) (by decide) (by decide)) (@po_none _) (@po_some _ _ _ (@pvN _ 6 _ _ (by rfl) (by trivial) (by decide) (by decide)))) (@pa_nil _) (by rfl)) (by decide) (by decide) (by rfl) (by rfl))))))))))),?_⟩
  rw [show start ["_law_script", "_law_k", "_law_cell", "_law_word", "_law_numbers", "_law_j", "_law_many"] [.ref a,.int k]=[some (.ref a),some (.int k),none,none,none,none,none] from rfl]
  clear G__law_draw G__law_part
  replace kk:=fun (_:Unit)=>kk
  simp! only [and_true]
  rw [c_spDraw]
  refine ⟨hS,hl,⟨by omega,by omega⟩,by decide,fun c c0 c1=>?_⟩
  simp! only [and_true]
  intro l1 H1 _ e1 h1
  simp! only [and_true]
  refine optK_pick (fun v=>∃ i,i < 9∧v=.str (wdM i)) (Int.emod_nonneg _ (by decide)) (Int.emod_lt_of_pos _ (by decide)) (fun v hv=>?_) ?_
  ·simp only [List.mem_cons,List.not_mem_nil,or_false] at hv
   rcases hv with rfl|rfl|rfl|rfl|rfl|rfl|rfl|rfl|rfl
   ·exact ⟨1,by decide,rfl⟩
   ·exact ⟨2,by decide,rfl⟩
   ·exact ⟨3,by decide,rfl⟩
   ·exact ⟨4,by decide,rfl⟩
   ·exact ⟨5,by decide,rfl⟩
   ·exact ⟨6,by decide,rfl⟩
   ·exact ⟨7,by decide,rfl⟩
   ·exact ⟨8,by decide,rfl⟩
   ·exact ⟨0,by decide,rfl⟩
  rintro _ ⟨i,hi,rfl⟩
  clear h1
  have c9:0≤c / 9:=Int.ediv_nonneg c0 (by decide)
  have c81:0≤c / 81:=Int.ediv_nonneg c0 (by decide)
  simp! only [and_true]
  refine comp_rel (List.range 8) (fun _=>true) (fun z x _=>x=V.int (0+(z:Int))) (fun _ _ y _=>∃ j,y=.int j∧j.natAbs < 10 ^ 20) wk_rng.1 wk_rng.2 (fun D _ y H1 H2 h e=>h) (fun D _ y H1 o h=>h) (len5000 (by decide)) ?_ ?_
  ·intro D z v H' N1 N0 hz hD e _ hv k1' _
   subst hv
   have k1':=k1' rfl
   have hz':z < 8:=List.mem_range.mp hz
   simp! only [↓m_kCm_1,↓m_kCm2]
   rw [c_spPart]
   exact ⟨c9,by omega,by omega,fun j H'' e' hj=>k1' _ H'' e' ⟨j,rfl,hj⟩⟩
  ·intro D zs H2 hD e2 hD2 al
   rw [filt] at al
   obtain ⟨ms,rfl,hml,hmb⟩:=al_ints (P:=fun j:Int=>j.natAbs < 10 ^ 20) al
   have hml8:ms.length=8:=hml
   replace hmb:=fun (_:Unit)=>hmb
   replace hml8:=fun (_:Unit)=>hml8
   have e02:=e1.trans e2
   have hD0:H D=none:=e1.free hD
   clear al hml
   have bnd:∀ (os:List (Option Int)) (n:Nat),(∀ o∈os,∀ j,o=some j->j.natAbs < 10 ^ 20)->∀ o∈os.take n,∀ j,o=some j->j.natAbs < 10 ^ 20:=fun os n h o ho=>h o (List.mem_of_mem_take ho)
   by_cases h3:i=3
   ·subst h3
    have q0:=Int.emod_nonneg (c / 9) (show (9:Int) ≠ 0 by decide)
    have q1:=Int.emod_lt_of_pos (c / 9) (show (0:Int) < 9 by decide)
    have hwd:wdM 3=Str.ofString "turn":=rfl
    rw [hwd]
    simp! only [and_true]
    intro l3 H3 hl3 e3 h3'
    rw [cut_to _ _ q0,←List.map_take] at h3'
    clear hD2
    simp! only [and_true]
    intro p4 H4 _ e4 h4
    refine kk () (3,(ms.take (c / 9 % 9).toNat).map some) _ H4 (e02.trans (e3.trans e4)) ⟨p4,rfl,.inr ⟨rfl,l3,h4,e02.free hl3,?_⟩⟩ ⟨show 3 < 9 by decide,fun h=>absurd rfl h,?_,?_,?_,fun h=>absurd (show 3=1 from h) (by decide)⟩
    ·rw [e4.at h3',List.map_map];rfl
    ·rw [List.length_map,List.length_take];show min _ _≤8;omega
    ·intro o ho j hj
     subst hj
     obtain ⟨b,hb,e⟩:=List.mem_map.mp ho
     cases e
     exact hmb () j (List.mem_of_mem_take hb)
    ·intro _ o ho
     obtain ⟨b,hb,rfl⟩:=List.mem_map.mp ho
     exact fun z=>nomatch z
   ·have hwt:=wd_turn hi h3
    have hva:=mn_at hi h3
    have hcn:=cn_le i
    replace hva:=fun (_:Unit)=>hva
    by_cases h1:i=1
    ·subst h1
     have hwd:wdM 1=Str.ofString "slice":=rfl
     have hst:∃ os:List (Option Int),H2 D=some (.lst (os.map oV))∧os.length=8∧(∀ o∈os,∀ j,o=some j->j.natAbs < 10 ^ 20)∧∃ j,os.head? = some (some j):=by
      refine ⟨ms.map some,by rw [hD2,List.map_map];rfl,by rw [List.length_map];exact hml8 (),fun o ho j hj=>?_,?_⟩
      ·subst hj
       obtain ⟨b,hb,e⟩:=List.mem_map.mp ho
       cases e
       exact hmb () j hb
      ·have:=hml8 ()
       match ms,this with
       | m::r,_=>exact ⟨m,rfl⟩
     obtain ⟨os,ho1,ho2,ho3,ho4⟩:=hst
     clear hD2
     rw [hwd]
     simp! only [and_true]
     refine for_rng (fun z σ H'=>∃ (v5:Option V),σ=[some (.ref a),some (.int k),some (.int c),some (.str (Str.ofString "slice")),some (.ref D),v5,none]∧Ext H H'∧OsI D H') ⟨none,rfl,e02,os,ho1,ho2,ho3,ho4⟩ ?_ ?_
     ·clear kk bnd hmb hml8 hva hwt hwd hcn hi h3 ho1 ho2 ho3 ho4
      rintro z _ H3 hz ⟨v5,rfl,e3,oi⟩
      have hz3:z < 3:=hz
      simp! only [↓m_kBody]
      rw [c_spPart]
      refine ⟨c81,by omega,by omega,fun j H4 e4 hj=>?_⟩
      have oi4:=oi.ext e4
      by_cases hj3:j % 3=0
      ·obtain ⟨os,g1,g2,g3,g4⟩:=oi4
       replace g2:=fun (_:Unit)=>g2
       replace g3:=fun (_:Unit)=>g3
       replace g4:=fun (_:Unit)=>g4
       have ix:ixN os.length (1+(z:Int))=some (z+1):=by
        unfold ixN
        rw [if_pos (by omega),if_pos (by have:=g2 ();omega)]
        congr 1
        omega
       simp! only [and_true]
       refine ⟨_,rfl,(e3.trans e4).put hD0,os.set (z+1) none,?_,?_,?_,?_⟩
       ·rw [upd_same,List.map_set];rfl
       ·rw [List.length_set];exact g2 ()
       ·intro o ho j hj
        rcases List.mem_or_eq_of_mem_set ho with h|h
        ·exact g3 () o h j hj
        ·rw [h] at hj;cases hj
       ·obtain ⟨q,hq⟩:=g4 ()
        match os,hq with
        | some q::r,_=>exact ⟨q,rfl⟩
      ·simp! only [and_true]
       exact ⟨_,rfl,e3.trans e4⟩
     ·rintro _ H3 ⟨v5,rfl,e3,os,g1,g2,g3,g4⟩
      replace g2:=fun (_:Unit)=>g2
      replace g3:=fun (_:Unit)=>g3
      replace g4:=fun (_:Unit)=>g4
      simp! only [and_true]
      refine use_dispC mnL (by decide) (by rfl) fun d4 H4 _ e4 h4=>?_
      have hD4:=e4.at g1
      simp! only [and_true]
      refine use_dg (k:=.inr (Str.ofString "slice")) (v:=.int 4) h4 (hva ()) ?_
      clear h4
      simp! only [and_true]
      intro p5 H5 _ e5 h5
      have hD5:=e5.at hD4
      clear hD4
      simp! only [and_true]
      intro l6 H6 _ e6 h6
      rw [cut_to _ _ (by decide),show (4:Int).toNat=4 from rfl,←List.map_take] at h6
      have h5_6:=e6.at h5
      clear hD5 h5
      simp! only [and_true]
      intro p7 H7 _ e7 h7
      have h5_7:=e7.at h5_6
      clear h5_6 h6
      simp! only [↓x_kCT2]
      refine ⟨len5000 (by rw [List.length_take];omega),fun p8 H8 e8 h8=>?_⟩
      refine kk () (1,os.take 4) _ H8 (e3.trans (e4.trans (e5.trans (e6.trans (e7.trans e8))))) ⟨p8,rfl,.inl ⟨h3,h8⟩⟩ ⟨show 1 < 9 by decide,fun _=>?_,?_,?_,fun h=>absurd rfl h,?_⟩
      ·show (os.take 4).length=4;rw [List.length_take,g2 ()];rfl
      ·show (os.take 4).length≤8;rw [List.length_take];omega
      ·exact bnd _ _ (g3 ())
      ·obtain ⟨j,hj⟩:=g4 ()
       intro _
       match os,hj with
       | some q::r,_=>exact fun z=>by simp at z
    ·have hws:=wd_slice hi h1
     have hD2':H2 D=some (.lst ((ms.map some).map oV)):=by rw [hD2,List.map_map];rfl
     clear hD2
     simp! only [and_true]
     refine use_dispC mnL (by decide) (by rfl) fun d4 H4 _ e4 h4=>?_
     have hD4:=e4.at hD2'
     simp! only [and_true]
     refine use_dg (k:=.inr (wdM i)) h4 (hva ()) ?_
     clear h4
     simp! only [and_true]
     intro p5 H5 _ e5 h5
     have hD5:=e5.at hD4
     clear hD4
     simp! only [and_true]
     intro l6 H6 _ e6 h6
     rw [cut_to _ _ (by omega),Int.toNat_natCast,←List.map_take] at h6
     have h5_6:=e6.at h5
     clear hD5 h5
     simp! only [and_true]
     intro p7 H7 _ e7 h7
     have h5_7:=e7.at h5_6
     clear h5_6 h6
     simp! only [↓x_kCT2]
     refine ⟨len5000 (by rw [List.length_take];omega),fun p8 H8 e8 h8=>?_⟩
     refine kk () (i,(ms.map some).take (cnM i)) _ H8 (e02.trans (e4.trans (e5.trans (e6.trans (e7.trans e8))))) ⟨p8,rfl,.inl ⟨h3,h8⟩⟩ ⟨hi,fun _=>?_,?_,?_,?_,?_⟩
     ·show ((ms.map some).take (cnM i)).length=cnM i;rw [List.length_take,show (ms.map some).length=8 by rw [List.length_map];exact hml8 ()];omega
     ·show ((ms.map some).take (cnM i)).length≤8;rw [List.length_take];omega
     ·exact bnd _ _ (fun o ho j hj=>by subst hj;obtain ⟨b,hb,e⟩:=List.mem_map.mp ho;cases e;exact hmb () j hb)
     ·intro _ o ho;obtain ⟨b,hb,rfl⟩:=List.mem_map.mp (List.mem_of_mem_take ho);exact fun z=>nomatch z
     ·exact fun h=>absurd h h1
theorem Fun.x {K:PySem.W.Frag}{x qual:Str}{st:Stmt}{f:Addr}{fd:FuncData}(F:Fun K x qual st f fd):FunX K x qual st f fd:=by
 obtain ⟨oc,od,kV,doc,pm,an,cdv,ct,osl,e,lk,hcd⟩:=F.ex
 exact ⟨⟨oc,od,.none,kV,doc,pm,an,cdv,ct,osl,e,lk,hcd⟩,F.kp⟩
theorem FnOk.up {P:Program}{w0:World}{K:PySem.W.Frag}{mg:Str->Option Value}{base:Heap}{CX:CXT}{k:Nat}{f:Addr}{fd:FuncData}{ps:List Str}{sp:Sp}(F:FnOk P w0 K mg base CX0 k f fd ps sp):FnOk P w0 K mg base CX k f fd ps sp:=
 ⟨F.len,fun A outer s H args us vs Q E hr he hb hv hs=>codeAny_mono (F.run A outer s H args us vs Q E hr he hb hv hs) fun r s' h=>by
  cases r with
  | error e=>exact h.elim
  | ok c=>cases c<;>exact h⟩
theorem FnOk.both {P:Program}{w0:World}{K:PySem.W.Frag}{mg:Str->Option Value}{base:Heap}{CX:CXT}{k:Nat}{f:Addr}{fd:FuncData}{ps:List Str}{sp sp' sp2:Sp}(F:FnOk P w0 K mg base CX k f fd ps sp) (F':FnOk P w0 K mg base CX k f fd ps sp') (h:∀ vs H Q E,sp2 vs H Q E->sp vs H Q E∨sp' vs H Q E):FnOk P w0 K mg base CX k f fd ps sp2:=
 ⟨fun vs H Q E q=>(h _ _ _ _ q).elim (F.len vs H Q E) (F'.len vs H Q E),fun A outer s H args us vs Q E hr he hb hv hs=>(h _ _ _ _ hs).elim (F.run A outer s H args us vs Q E hr he hb hv) (F'.run A outer s H args us vs Q E hr he hb hv)⟩
def NoR (t:Adr) (H:Hp) (E:XK):Prop:=∀ H',Ext H H'->E (.ref t.a_NoRow) none H'
theorem NoR.ext {t:Adr}{H H1:Hp}{E:XK}(h:NoR t H E) (e:Ext H H1):NoR t H1 E:=fun H' e'=>h H' (e.trans e')
abbrev B_spRRX (t:Adr) (b:Bool) (H:Hp) (Q:VK) (E:XK):Prop:=(b=true->Q .non H)∧(b=false->NoR t H E)
def spRRX (t:Adr):Sp:=fun vs H Q E=>∃ (b:Bool),vs=[.bl b]∧(B_spRRX t b H Q E)
theorem c_spRRX (t:Adr) (b:Bool) (H:Hp) (Q:VK) (E:XK):spRRX t [.bl b] H Q E=(B_spRRX t b H Q E):=spx1 (f:=fun (b:Bool)=>[.bl b]) (fun _ _ h=>by cases h;exact rfl) b
theorem l_spRRX (t:Adr){vs:List V}{H:Hp}{Q:VK}{E:XK}(h:spRRX t vs H Q E):vs.length=1:=spl1 h fun _=>rfl
theorem okX_refuse_row (T:Tx K mg t):FnOk P t.w K mg base (CX1 P  t.w) 1 t.a_refuse_row t.d_refuse_row ["good"] (spRRX t):=by
 refine (Fun.x T.F_refuse_row).ok c_refuse_row (fun vs H Q E h=>l_spRRX _ h) (fun cdv A outer s H vs Q E hr h=>?_)
 ·obtain ⟨b,rfl,k,kE⟩:=h
  refine ⟨_,(@pss_one _ _ _ (@ps_if _ _ _ _ _ _ _ _ (@pt_not _ _ _ _ (@pt_valN _ _ _ (@pvN _ 0 _ _ (by rfl) (by trivial) (by decide) (by decide)) (by intros;rfl))) (@pss_one _ _ _ (@ps_raise _ _ _ _ _ _ _ _ _ _ rfl (by rfl) T.m_NoRow ⟨T.o_NoRow⟩ (fun σ=>raises_def) (@pa_c _ _ _ _ _ (@pe_str _ _ _ _) (@pa_nil _) (by rfl)) (by rfl) (by rfl) (by decide))) (@pss_nil _))),?_⟩
  rw [show start ["good"] [.bl b]=[some (.bl b)] from rfl]
  cases b with
  | true=>
   have k':=k rfl
   clear k kE
   simp! only [and_true]
  | false=>
   have kE':=kE rfl H (Ext.refl _)
   clear k kE
   simp! only [and_true]
structure NoNum (x:Str):Prop where
 l:x.length≤100
 asc:x.cps.all (· < 128)=true
 no:isNumF x=false
theorem sw_cut {x:Str}(h:PySem.Txt.startswith x "-"=true):x.cps.toList=45::(PySem.Txt.slice x (some 1) none).cps.toList:=by
 rw [sw_minus] at h
 cases hl:x.cps.toList with
 | nil=>rw [hl] at h;exact absurd (of_decide_eq_true h) (by decide)
 | cons c r=>
  rw [hl] at h
  have:=of_decide_eq_true h
  rw [slice1 hl]
  simp only [List.head?_cons,Option.some.injEq] at this
  rw [this]
theorem figS_y {x:Str}(h:PySem.Txt.startswith x "-"=true):figS x=PySem.Txt.slice x (some 1) none:=if_pos h
theorem figS_n {x:Str}(h:PySem.Txt.startswith x "-"=false):figS x=x:=if_neg (by rw [h];decide)
theorem figS_l {x:Str}(h:NoNum x):(figS x).length≤100∧(figS x).cps.all (· < 128)=true:=by
 cases hs:PySem.Txt.startswith x "-" with
 | true=>
  rw [figS_y hs]
  have e:=sw_cut hs
  have hl:x.length=(PySem.Txt.slice x (some 1) none).length+1:=by
   rw [show x.length=x.cps.toList.length from Array.length_toList.symm,e]
   rfl
  refine ⟨by have:=h.l;omega,?_⟩
  have ha:=h.asc
  rw [←Array.all_toList,List.all_eq_true] at ha ⊢
  exact fun c hc=>ha c (by rw [e];exact List.mem_cons_of_mem _ hc)
 | false=>rw [figS_n hs];exact ⟨h.l,h.asc⟩
theorem no_cases {x:Str}(h:isNumF x=false):¬ ((1:Int)≤((figS x).length:Int))∨((1:Int)≤((figS x).length:Int)∧¬ ((figS x).length:Int)≤20)∨((1:Int)≤((figS x).length:Int)∧((figS x).length:Int)≤20∧(((figS x).cps.toList.map fun c=>inS ⟨#[c]⟩ FIG).all id=false∨(((figS x).cps.toList.map fun c=>inS ⟨#[c]⟩ FIG).all id=true∧¬ x = "0" ∧ ∃ c r,(figS x).cps.toList=c::r∧c=48))):=by
 by_cases n1:(1:Int)≤((figS x).length:Int)
 ·by_cases n2:((figS x).length:Int)≤20
  ·refine .inr (.inr ⟨n1,n2,?_⟩)
   cases ha:((figS x).cps.toList.map fun c=>inS ⟨#[c]⟩ FIG).all id with
   | false=>exact .inl rfl
   | true=>
    refine .inr ⟨rfl,?_⟩
    rw [List.all_map] at ha
    have ha':(figS x).cps.toList.all (fun c=>inS ⟨#[c]⟩ FIG)=true:=ha
    unfold isNumF at h
    rw [ha',decide_eq_true (show 1≤(figS x).length by omega),decide_eq_true (show (figS x).length≤20 by omega),Bool.true_and,Bool.true_and,Bool.true_and,Bool.or_eq_false_iff,decide_eq_false_iff_not,decide_eq_false_iff_not] at h
    refine ⟨h.1,?_⟩
    cases hl:(figS x).cps.toList with
    | nil=>rw [hl] at h;exact absurd (fun z=>nomatch z) h.2
    | cons c r=>
     refine ⟨c,r,rfl,?_⟩
     rw [hl] at h
     have:=Classical.not_not.mp h.2
     simpa using this
  ·exact .inr (.inl ⟨n1,n2⟩)
 ·exact .inl n1
abbrev B_spIsN2  (x:Str) (H:Hp) (Q:VK) (E:XK):Prop:=NoNum x∧∀ H',Ext H H'->Q (.bl false) H'
def spIsN2  : Sp:=fun vs H Q E=>∃ (x:Str),vs=[.str x]∧(B_spIsN2  x H Q E)
theorem c_spIsN2  (x:Str) (H:Hp) (Q:VK) (E:XK):spIsN2  [.str x] H Q E=(B_spIsN2  x H Q E):=spx1 (f:=fun (x:Str)=>[.str x]) (fun _ _ h=>by cases h;exact rfl) x
theorem l_spIsN2  {vs:List V}{H:Hp}{Q:VK}{E:XK}(h:spIsN2  vs H Q E):vs.length=1:=spl1 h fun _=>rfl
theorem ok2_is_number (T:Tx K mg t):FnOk P t.w K mg base CX0 1 t.a_is_number t.d_is_number ["word"] spIsN2:=by
 refine T.F_is_number.ok c_is_number (fun vs H Q E h=>l_spIsN2 h) (fun cdv A outer s H vs Q E hr h=>?_)
 ·obtain ⟨x,rfl,hn,k⟩:=h
  refine ⟨_,(@pss_cons _ _ _ _ _ (@ps_set _ _ (1) _ _ _ _ c_is_number.nd rfl (Or.inl rfl) (@pe_ifExp _ _ _ _ _ _ _ _ (@pt_valN _ _ _ (@pe_bm _ _ _ _ _ _ _ _ _ _ _ _ PySem.F.plainAttrs_str PySem.F.slot_str_startswith PySem.F.type_str_startswith mt_nSw (@pvN _ 0 _ _ (by rfl) (by trivial) (by decide) (by decide)) (@pa_c _ _ _ _ _ (@pe_str _ _ _ _) (@pa_nil _) (by rfl)) (by rfl) (by rfl) (by rfl) (by rfl) (by rfl)) (by intros;rfl)) (@pe_slice _ _ _ _ _ _ _ _ _ _ sl_nS (@pvN _ 0 _ _ (by rfl) (by trivial) (by decide) (by decide)) (@po_some _ _ _ (@pe_int _ _ _ _)) (@po_none _)) (@pvN _ 0 _ _ (by rfl) (by trivial) (by decide) (by decide))) (by rfl) (by trivial)) (@pss_cons _ _ _ _ _ (@ps_if _ _ _ _ _ _ _ _ (PW.pt (@pw_or _ _ _ _ _ _ _ (@pt_not _ _ _ _ (@pt_chainN _ _ _ _ _ _ _ _ _ _ _ _ on_le on_le (@pe_int _ _ _ _) (@pe_callB _ _ _ _ _ _ _ ("len") _ call_qLen (by rfl) T.z_len (by decide +kernel) (@pa_c _ _ _ _ _ (@pvN _ 1 _ _ (by rfl) (by trivial) (by decide) (by decide)) (@pa_nil _) (by rfl)) (by decide) (by decide) (by rfl) (by rfl)) (@pe_glob _ _ (.int 20) _ _ (by rfl) T.m_MOST_FIGURES.choose_spec ⟨_,rfl⟩ (by decide)) (by rfl))) (@pw_or1 _ _ _ _ (@pt_not _ _ _ _ (@pt_valN _ _ _ (@pe_callB _ _ _ _ _ _ _ ("all") _ (call_qAll rfl) (by rfl) T.z_all (by decide +kernel) (@pa_c _ _ _ _ _ (@pe_comp _ _ _ _ _ _ _ _ _ _ _ (["figure", "word", "figures"]) (1) (comp_ok (defScope s_is_number) ["word", "figures"] rfl rfl (by decide +kernel)) rfl (@pi_str _ _ _ _ (@pvN _ 1 _ _ (by rfl) (by trivial) (by decide) (by decide))) (fun C s₀ H₀ ex pn=>(@pg_name _ _ (0) _ (show List.Nodup (["figure", "word", "figures"]:List Str) from by decide +kernel) rfl (Or.inl rfl) (by trivial))) (fun C s₀ H₀ ex pn=>(@pts_nil _)) (fun C s₀ H₀ ex pn=>(@pe_cmpR _ _ _ _ _ _ _ _ op_qInS (@pvN _ 0 _ _ (by rfl) (by trivial) (by decide) (by decide)) (@pe_glob _ _ (.str "0123456789") _ _ (by rfl) T.m_FIGURES.choose_spec ⟨_,rfl⟩ (by decide)) (by with_unfolding_all rfl))) (by intros;rfl)) (@pa_nil _) (by rfl)) (by decide) (by decide) (by rfl) (by rfl)) (by intros;rfl)))))) (@pss_one _ _ _ (@ps_ret _ _ _ _ (@pe_bl _ _ _ _))) (@pss_nil _)) (@pss_one _ _ _ (@ps_ret _ _ _ _ (@pe_orN _ _ _ _ _ _ _ (@pe_cmpR _ _ _ _ _ _ _ _ (op_qEq hr.units) (@pvN _ 0 _ _ (by rfl) (by trivial) (by decide) (by decide)) (@pe_str _ _ _ _) (nomark _)) (@pe_one _ _ _ _ _ (@pe_cmpR _ _ _ _ _ _ _ _ (op_qNe hr.units) (@pe_ix _ _ _ _ _ _ _ ix_str (@pvN _ 1 _ _ (by rfl) (by trivial) (by decide) (by decide)) (@pe_int _ _ _ _) (fun _ _=>rfl)) (@pe_str _ _ _ _) (nomark _)))))))),?_⟩
  rw [show start ["word", "figures"] [.str x]=[some (.str x),none] from rfl]
  replace k:=fun (_:Unit)=>k
  have hlt:x.length≤sizeLine:=len5000 (by have:=hn.l;omega)
  have nc:=no_cases hn.no
  have fl:=figS_l hn
  clear hn
  cases hs:PySem.Txt.startswith x "-" with
  | true=>
   rw [figS_y hs] at nc fl
   obtain ⟨fl1,fl2⟩:=fl
   have fls:(PySem.Txt.slice x (some 1) none).length≤sizeLine:=len5000 (by omega)
   rcases nc with n1|⟨n1,n2⟩|⟨n1,n2,hb⟩
   ·have k2:=k () H (Ext.refl _)
    clear k
    simp! only [and_true]
    refine ⟨rfl,?_⟩
    simp! only [and_true]
    refine ⟨hlt,?_⟩
    generalize PySem.Txt.slice x (some 1) none=fs at *
    simp! only [and_true]
   ·have k2:=k () H (Ext.refl _)
    clear k
    simp! only [and_true]
    refine ⟨rfl,?_⟩
    simp! only [and_true]
    refine ⟨hlt,?_⟩
    generalize PySem.Txt.slice x (some 1) none=fs at *
    simp! only [and_true]
   ·replace hb:=fun (_:Unit)=>hb
    simp! only [and_true]
    refine ⟨rfl,?_⟩
    simp! only [and_true]
    refine ⟨hlt,?_⟩
    generalize PySem.Txt.slice x (some 1) none=fs at *
    simp! only [and_true]
    refine ⟨fs,rfl,fl2,?_⟩
    refine comp_fm fs.cps.toList (fun _=>true) (fun c=>.bl (inS ⟨#[c]⟩ FIG)) (fun z v _=>v=sgn z) (wk_str fs).1 (wk_str fs).2 (len5000 (by have:fs.cps.toList.length=fs.length:=rfl;omega)) ?_ ?_
    ·intro D z v H' N1 N0 hz hD e hv k1 _
     subst hv
     have k1':N1 (.bl (inS ⟨#[z]⟩ "0123456789")) H':=k1 rfl H' (Ext.refl _)
     clear k1 k n1 n2 hz hb
     unfold sgn
     simp! only [↓m_kCm_1,↓m_kCm2]
    intro D H1 hD e1 hD'
    rw [filt,show List.map (fun (c:Nat)=>V.bl (inS ⟨#[c]⟩ FIG)) fs.cps.toList=(fs.cps.toList.map fun c=>inS ⟨#[c]⟩ FIG).map V.bl from by rw [List.map_map];rfl] at hD'
    have hb':=hb ()
    have k2:=k () H1 e1
    clear k hb
    generalize (fs.cps.toList.map fun c=>inS ⟨#[c]⟩ FIG)=bs at hD' hb'
    rcases hb' with hall|⟨hall,hz0,c,r,hc,hc8⟩
    ·simp! only [and_true]
    ·have hat:atI fs.cps.toList 0=some c:=atI_nat (j:=0) (by rw [hc];rfl)
     have hne0:(⟨#[48]⟩:Str)=Str.ofString "0":=by decide
     simp! only [and_true]
     exact ⟨fs,0,c,rfl,rfl,fls,hat,by subst hc8;simp! only [and_true]⟩
  | false=>
   rw [figS_n hs] at nc fl
   obtain ⟨fl1,fl2⟩:=fl
   have fls:x.length≤sizeLine:=len5000 (by omega)
   rcases nc with n1|⟨n1,n2⟩|⟨n1,n2,hb⟩
   ·have k2:=k () H (Ext.refl _)
    clear k
    simp! only [and_true]
    exact rfl
   ·have k2:=k () H (Ext.refl _)
    clear k
    simp! only [and_true]
    exact rfl
   ·replace hb:=fun (_:Unit)=>hb
    simp! only [and_true]
    refine ⟨rfl,?_⟩
    simp! only [and_true]
    simp! only [and_true]
    refine ⟨x,rfl,fl2,?_⟩
    refine comp_fm x.cps.toList (fun _=>true) (fun c=>.bl (inS ⟨#[c]⟩ FIG)) (fun z v _=>v=sgn z) (wk_str x).1 (wk_str x).2 (len5000 (by have:x.cps.toList.length=x.length:=rfl;omega)) ?_ ?_
    ·intro D z v H' N1 N0 hz hD e hv k1 _
     subst hv
     have k1':N1 (.bl (inS ⟨#[z]⟩ "0123456789")) H':=k1 rfl H' (Ext.refl _)
     clear k1 k n1 n2 hz hb
     unfold sgn
     simp! only [↓m_kCm_1,↓m_kCm2]
    intro D H1 hD e1 hD'
    rw [filt,show List.map (fun (c:Nat)=>V.bl (inS ⟨#[c]⟩ FIG)) x.cps.toList=(x.cps.toList.map fun c=>inS ⟨#[c]⟩ FIG).map V.bl from by rw [List.map_map];rfl] at hD'
    have hb':=hb ()
    have k2:=k () H1 e1
    clear k hb
    generalize (x.cps.toList.map fun c=>inS ⟨#[c]⟩ FIG)=bs at hD' hb'
    rcases hb' with hall|⟨hall,hz0,c,r,hc,hc8⟩
    ·simp! only [and_true]
    ·have hat:atI x.cps.toList 0=some c:=atI_nat (j:=0) (by rw [hc];rfl)
     have hne0:(⟨#[48]⟩:Str)=Str.ofString "0":=by decide
     simp! only [and_true]
     exact ⟨x,0,c,rfl,rfl,fls,hat,by subst hc8;simp! only [and_true]⟩
def GoodN (w:Str):Prop:=∃ i:Int,w=txt i∧i.natAbs < 10 ^ 20
def NumW (w:Str):Prop:=GoodN w∨NoNum w
theorem good_no {w:Str}(h:GoodN w) (n:NoNum w):False:=by
 obtain ⟨i,rfl,hi⟩:=h
 have:=n.no
 rw [isNum_txt hi] at this
 cases this
abbrev B_spIsB  (x:Str) (H:Hp) (Q:VK) (E:XK):Prop:=(GoodN x∧∀ H',Ext H H'->Q (.bl true) H')∨(NoNum x∧∀ H',Ext H H'->Q (.bl false) H')
def spIsB  : Sp:=fun vs H Q E=>∃ (x:Str),vs=[.str x]∧(B_spIsB  x H Q E)
def spNI (t:Adr):Sp:=fun vs H Q E=>∃ (x:Str),vs=[.str x]∧((∃ i:Int,x=txt i∧i.natAbs < 10 ^ 20∧∀ H',Ext H H'->Q (.int i) H')∨(NoNum x∧NoR t H E))
theorem c_spNI (t:Adr) (x:Str) (H:Hp) (Q:VK) (E:XK):spNI t [.str x] H Q E=((∃ i:Int,x=txt i∧i.natAbs < 10 ^ 20∧∀ H',Ext H H'->Q (.int i) H')∨(NoNum x∧NoR t H E)):=spx1 (f:=fun (x:Str)=>[.str x]) (fun _ _ h=>by cases h;exact rfl) x
theorem okX_number_in (T:Tx K mg t):FnOk P t.w K mg base (CX1 P  t.w) 2 t.a_number_in t.d_number_in ["word"] (spNI t):=by
 have G_refuse_row:=okX_refuse_row (P:=P) (base:=base) T
 have G_is_number:=ok2_is_number (P:=P) (base:=base) T
 have GX:FnOk P t.w K mg base (CX1 P  t.w) 2 t.a_number_in t.d_number_in ["word"] (fun vs H Q E=>∃ x:Str,vs=[.str x]∧NoNum x∧NoR t H E):=by
  refine (Fun.x T.F_number_in).ok c_number_in (fun vs H Q E h=>by obtain ⟨x,rfl,_⟩:=h;rfl) (fun cdv A outer s H vs Q E hr h=>?_)
  obtain ⟨x,rfl,hn,k⟩:=h
  refine ⟨_,(@pss_cons _ _ _ _ _ (@ps_expr _ _ _ _ (@pe_call _ _ _ _ _ _ _ _ _ _ _ _ _ _ _ _ G_refuse_row (hr.mono (by decide)) (by rfl) T.m_refuse_row T.F_refuse_row.kp T.b_refuse_row .nil passes_def (@pa_c _ _ _ _ _ (@pe_call _ _ _ _ _ _ _ _ _ _ _ _ _ _ _ _ G_is_number (hr.mono (by decide)) (by rfl) T.m_is_number T.F_is_number.kp T.b_is_number .nil pass0 (@pa_c _ _ _ _ _ (@pvN _ 0 _ _ (by rfl) (by trivial) (by decide) (by decide)) (@pa_nil _) (by rfl)) (by decide) (by rfl) (by rfl)) (@pa_nil _) (by rfl)) (by decide) (by rfl) (by rfl)) (by rfl)) (@pss_one _ _ _ (@ps_ret _ _ _ _ (@pe_callTy _ _ _ _ _ _ _ _ _ call_qIntS (by rfl) T.z_int (by decide +kernel) (@pa_c _ _ _ _ _ (@pvN _ 0 _ _ (by rfl) (by trivial) (by decide) (by decide)) (@pa_nil _) (by rfl)) (by decide) (by decide) (by rfl) (by rfl))))),?_⟩
  rw [show start ["word"] [.str x]=[some (.str x)] from rfl]
  clear G_refuse_row G_is_number
  replace k:=fun (_:Unit)=>k
  simp! only [and_true]
  rw [c_spIsN2]
  refine ⟨hn,fun H1 e1=>?_⟩
  simp! only [and_true]
  rw [c_spRRX]
  exact ⟨fun h=>(nomatch h),fun _=>(k ()).ext e1⟩
 exact FnOk.both (FnOk.up (ok_number_in T)) GX fun vs H Q E h=>by
  obtain ⟨x,rfl,⟨i,h1,h2,h3⟩|⟨h1,h2⟩⟩:=h
  ·exact .inl ⟨x,rfl,i,h1,h2,h3⟩
  ·exact .inr ⟨x,rfl,h1,h2⟩
def spBI (t:Adr):Sp:=fun vs H Q E=>∃ (x:Str),vs=[.str x]∧((∃ o:Option Int,x=optT o∧(∀ i,o=some i->i.natAbs < 10 ^ 20)∧∀ H',Ext H H'->Q (oV o) H')∨(NoNum x∧¬ x=Str.ofString "-" ∧ NoR t H E))
theorem c_spBI (t:Adr) (x:Str) (H:Hp) (Q:VK) (E:XK):spBI t [.str x] H Q E=((∃ o:Option Int,x=optT o∧(∀ i,o=some i->i.natAbs < 10 ^ 20)∧∀ H',Ext H H'->Q (oV o) H')∨(NoNum x∧¬ x=Str.ofString "-" ∧ NoR t H E)):=spx1 (f:=fun (x:Str)=>[.str x]) (fun _ _ h=>by cases h;exact rfl) x
theorem okX_bound_in (T:Tx K mg t):FnOk P t.w K mg base (CX1 P  t.w) 3 t.a_bound_in t.d_bound_in ["word"] (spBI t):=by
 have G_number_in:=okX_number_in (P:=P) (base:=base) T
 have GX:FnOk P t.w K mg base (CX1 P  t.w) 3 t.a_bound_in t.d_bound_in ["word"] (fun vs H Q E=>∃ x:Str,vs=[.str x]∧NoNum x∧(¬ x=Str.ofString "-")∧NoR t H E):=by
  refine (Fun.x T.F_bound_in).ok c_bound_in (fun vs H Q E h=>by obtain ⟨x,rfl,_⟩:=h;rfl) (fun cdv A outer s H vs Q E hr h=>?_)
  obtain ⟨x,rfl,hn,hx,k⟩:=h
  refine ⟨_,(@pss_one _ _ _ (@ps_ret _ _ _ _ (@pe_ifExp _ _ _ _ _ _ _ _ (@pt_cmpRN _ _ _ _ _ _ _ _ (op_qEq hr.units) (@pvN _ 0 _ _ (by rfl) (by trivial) (by decide) (by decide)) (@pe_str _ _ _ _) (nomark _)) (@pe_non _ _ _) (@pe_call _ _ _ _ _ _ _ _ _ _ _ _ _ _ _ _ G_number_in (hr.mono (by decide)) (by rfl) T.m_number_in T.F_number_in.kp T.b_number_in .nil passes_def (@pa_c _ _ _ _ _ (@pvN _ 0 _ _ (by rfl) (by trivial) (by decide) (by decide)) (@pa_nil _) (by rfl)) (by decide) (by rfl) (by rfl))))),?_⟩
  rw [show start ["word"] [.str x]=[some (.str x)] from rfl]
  clear G_number_in
  replace k:=fun (_:Unit)=>k
  simp! only [and_true]
  rw [c_spNI]
  exact .inr ⟨hn,k ()⟩
 exact FnOk.both (FnOk.up (ok_bound_in T)) GX fun vs H Q E h=>by
  obtain ⟨x,rfl,⟨i,h1,h2,h3⟩|⟨h1,h2⟩⟩:=h
  ·exact .inl ⟨x,rfl,i,h1,h2,h3⟩
  ·exact .inr ⟨x,rfl,h1,h2⟩
inductive BadW:List Str->Prop
 | nil:BadW []
 | long (r:List Str):8 < r.length->r.length≤40->BadW (Str.ofString "turn" :: r)
 | turn (r:List Str):r.length≤8->(∀ w∈r,NumW w)->(∃ w∈r,NoNum w)->BadW (Str.ofString "turn" :: r)
 | word (w:Str) (r:List Str):r.length≤40->(¬ w=Str.ofString "turn")->valV (keyed mvL) (.inr w)=none->BadW (w::r)
 | many (i:Nat) (r:List Str):r.length≤40->i < 9->i ≠ 3->r.length ≠ cnM i->BadW (wdM i::r)
 | num (i:Nat) (r:List Str):i < 9->i ≠ 3->i ≠ 1->r.length=cnM i->(∀ w∈r,NumW w)->(∃ w∈r,NoNum w)->BadW (wdM i::r)
 | axis (a:Str) (r:List Str):r.length=3->NoNum a->BadW (Str.ofString "slice" :: a::r)
 | part (a:Str) (r:List Str):r.length=3->GoodN a->(∀ w∈r,w=Str.ofString "-" ∨ GoodN w∨(NoNum w∧¬ w=Str.ofString "-"))->(∃ w∈r,NoNum w∧¬ w=Str.ofString "-")->BadW (Str.ofString "slice" :: a::r)
abbrev B_spRdX (t:Adr) (l:Addr) (H:Hp) (Q:VK) (E:XK):Prop:=∃ ws:List Str,H l=some (.lst (ws.map V.str))∧BadW ws∧NoR t H E
def spRdX (t:Adr):Sp:=fun vs H Q E=>∃ (l:Addr),vs=[.ref l]∧(B_spRdX t l H Q E)
theorem l_spRdX (t:Adr){vs:List V}{H:Hp}{Q:VK}{E:XK}(h:spRdX t vs H Q E):vs.length=1:=spl1 h fun _=>rfl
theorem okX_read_one (T:Tx K mg t):FnOk P t.w K mg base (CX1 P  t.w) 8 t.a_read_one t.d_read_one ["words"] (spRdX t):=by
 have G_refuse_row:=okX_refuse_row (P:=P) (base:=base) T
 have G_number_in:=okX_number_in (P:=P) (base:=base) T
 have G_bound_in:=okX_bound_in (P:=P) (base:=base) T
 have G_move_of:=ok_move_of (P:=P) (base:=base) T
 refine (Fun.x T.F_read_one).ok c_read_one (fun vs H Q E h=>l_spRdX _ h) (fun cdv A outer s H vs Q E hr h=>?_)
 ·obtain ⟨l,rfl,ws,hl,bad,k⟩:=h
  refine ⟨_,(@pss_cons _ _ _ _ _ (@ps_expr _ _ _ _ (@pe_call _ _ _ _ _ _ _ _ _ _ _ _ _ _ _ _ G_refuse_row (hr.mono (by decide)) (by rfl) T.m_refuse_row T.F_refuse_row.kp T.b_refuse_row .nil passes_def (@pa_c _ _ _ _ _ (@pe_cmpR _ _ _ _ _ _ _ _ on_gt (@pe_callB _ _ _ _ _ _ _ ("len") _ call_qLen (by rfl) T.z_len (by decide +kernel) (@pa_c _ _ _ _ _ (@pvN _ 0 _ _ (by rfl) (by trivial) (by decide) (by decide)) (@pa_nil _) (by rfl)) (by decide) (by decide) (by rfl) (by rfl)) (@pe_int _ _ _ _) (nomark _)) (@pa_nil _) (by rfl)) (by decide) (by rfl) (by rfl)) (by rfl)) (@pss_cons _ _ _ _ _ (@ps_if _ _ _ _ _ _ _ _ (@pt_cmpRN _ _ _ _ _ _ _ _ (op_qEq hr.units) (@pe_ix _ _ _ _ _ _ _ ix_q (@pvN _ 0 _ _ (by rfl) (by trivial) (by decide) (by decide)) (@pe_int _ _ _ _) (fun _ _=>rfl)) (@pe_str _ _ _ _) (nomark _)) (@pss_cons _ _ _ _ _ (@ps_expr _ _ _ _ (@pe_call _ _ _ _ _ _ _ _ _ _ _ _ _ _ _ _ G_refuse_row (hr.mono (by decide)) (by rfl) T.m_refuse_row T.F_refuse_row.kp T.b_refuse_row .nil passes_def (@pa_c _ _ _ _ _ (@pe_cmpR _ _ _ _ _ _ _ _ on_le (@pe_callB _ _ _ _ _ _ _ ("len") _ call_qLen (by rfl) T.z_len (by decide +kernel) (@pa_c _ _ _ _ _ (@pvN _ 0 _ _ (by rfl) (by trivial) (by decide) (by decide)) (@pa_nil _) (by rfl)) (by decide) (by decide) (by rfl) (by rfl)) (@pe_op _ _ _ _ _ _ _ _ on_add (@pe_glob _ _ (.int 8) _ _ (by rfl) T.m_MOST_AXES.choose_spec ⟨_,rfl⟩ (by decide)) (@pe_int _ _ _ _)) (nomark _)) (@pa_nil _) (by rfl)) (by decide) (by rfl) (by rfl)) (by rfl)) (@pss_one _ _ _ (@ps_ret _ _ _ _ (@pe_call _ _ _ _ _ _ _ _ _ _ _ _ _ _ _ _ G_move_of (hr.mono (by decide)) (by rfl) T.m_move_of T.F_move_of.kp T.b_move_of .nil pass0 (@pa_c _ _ _ _ _ (@pe_qTup _ _ _ _ _ (@pa_c _ _ _ _ _ (@pe_str _ _ _ _) (@pa_c _ _ _ _ _ (@pe_compX _ _ _ _ _ _ _ _ _ _ _ (["word", "words"]) (1) _ _ rfl rfl rfl leaves_def (comp_ok (defScope s_read_one) ["words"] rfl rfl (by decide +kernel)) rfl (@pi_seq _ _ _ _ (@pe_slice _ _ _ _ _ _ _ _ _ _ sl_n (@pvN _ 0 _ _ (by rfl) (by trivial) (by decide) (by decide)) (@po_some _ _ _ (@pe_int _ _ _ _)) (@po_none _))) (fun C s₀ H₀ ex pn=>(@pg_name _ _ (0) _ (show List.Nodup (["word", "words"]:List Str) from by decide +kernel) rfl (Or.inl rfl) (by trivial))) (fun C s₀ H₀ ex pn=>(@pts_nil _)) (fun C s₀ H₀ ex pn=>(@pe_call _ _ _ _ _ _ _ _ _ _ _ _ _ _ _ _ G_number_in (hr.mono (by decide)) (by rfl) T.m_number_in T.F_number_in.kp T.b_number_in .nil passes_comp (@pa_c _ _ _ _ _ (@pvN _ 0 _ _ (by rfl) (by trivial) (by decide) (by decide)) (@pa_nil _) (by rfl)) (by decide) (by rfl) (by rfl))) (by intros;rfl)) (@pa_nil _) (by rfl)) (by rfl))) (@pa_nil _) (by rfl)) (by decide) (by rfl) (by rfl))))) (@pss_nil _)) (@pss_cons _ _ _ _ _ (@ps_expr _ _ _ _ (@pe_call _ _ _ _ _ _ _ _ _ _ _ _ _ _ _ _ G_refuse_row (hr.mono (by decide)) (by rfl) T.m_refuse_row T.F_refuse_row.kp T.b_refuse_row .nil passes_def (@pa_c _ _ _ _ _ (@pe_andN _ _ _ _ _ _ _ (@pe_cmpR _ _ _ _ _ _ _ _ op_inK (@pe_ix _ _ _ _ _ _ _ ix_q (@pvN _ 0 _ _ (by rfl) (by trivial) (by decide) (by decide)) (@pe_int _ _ _ _) (fun _ _=>rfl)) (@pe_glob _ _ (.ref t.a_MOVES) _ _ (by rfl) T.m_MOVES rfl (by decide)) (by with_unfolding_all rfl)) (@pe_one _ _ _ _ _ (@pe_cmpR _ _ _ _ _ _ _ _ (op_qEq hr.units) (@pe_callB _ _ _ _ _ _ _ ("len") _ call_qLen (by rfl) T.z_len (by decide +kernel) (@pa_c _ _ _ _ _ (@pvN _ 0 _ _ (by rfl) (by trivial) (by decide) (by decide)) (@pa_nil _) (by rfl)) (by decide) (by decide) (by rfl) (by rfl)) (@pe_op _ _ _ _ _ _ _ _ on_add (@pe_dgetK _ _ _ _ _ _ (@pe_glob _ _ (.ref t.a_MOVES) _ _ (by rfl) T.m_MOVES rfl (by decide)) (@pe_ix _ _ _ _ _ _ _ ix_q (@pvN _ 0 _ _ (by rfl) (by trivial) (by decide) (by decide)) (@pe_int _ _ _ _) (fun _ _=>rfl)) (fun _ _=>rfl)) (@pe_int _ _ _ _)) (nomark _)))) (@pa_nil _) (by rfl)) (by decide) (by rfl) (by rfl)) (by rfl)) (@pss_cons _ _ _ _ _ (@ps_if _ _ _ _ _ _ _ _ (@pt_cmpRN _ _ _ _ _ _ _ _ (op_qEq hr.units) (@pe_ix _ _ _ _ _ _ _ ix_q (@pvN _ 0 _ _ (by rfl) (by trivial) (by decide) (by decide)) (@pe_int _ _ _ _) (fun _ _=>rfl)) (@pe_str _ _ _ _) (nomark _)) (@pss_one _ _ _ (@ps_ret _ _ _ _ (@pe_call _ _ _ _ _ _ _ _ _ _ _ _ _ _ _ _ G_move_of (hr.mono (by decide)) (by rfl) T.m_move_of T.F_move_of.kp T.b_move_of .nil pass0 (@pa_c _ _ _ _ _ (@pe_op _ _ _ _ _ _ _ _ op_nCatT (@pe_qTup _ _ _ _ _ (@pa_c _ _ _ _ _ (@pe_str _ _ _ _) (@pa_c _ _ _ _ _ (@pe_call _ _ _ _ _ _ _ _ _ _ _ _ _ _ _ _ G_number_in (hr.mono (by decide)) (by rfl) T.m_number_in T.F_number_in.kp T.b_number_in .nil passes_def (@pa_c _ _ _ _ _ (@pe_ix _ _ _ _ _ _ _ ix_q (@pvN _ 0 _ _ (by rfl) (by trivial) (by decide) (by decide)) (@pe_int _ _ _ _) (fun _ _=>rfl)) (@pa_nil _) (by rfl)) (by decide) (by rfl) (by rfl)) (@pa_nil _) (by rfl)) (by rfl))) (@pe_callTy _ _ _ _ _ _ _ _ _ call_nTuple (by rfl) T.z_tuple (by decide +kernel) (@pa_c _ _ _ _ _ (@pe_compX _ _ _ _ _ _ _ _ _ _ _ (["word", "words"]) (1) _ _ rfl rfl rfl leaves_def (comp_ok (defScope s_read_one) ["words"] rfl rfl (by decide +kernel)) rfl (@pi_seq _ _ _ _ (@pe_slice _ _ _ _ _ _ _ _ _ _ sl_n (@pvN _ 0 _ _ (by rfl) (by trivial) (by decide) (by decide)) (@po_some _ _ _ (@pe_int _ _ _ _)) (@po_none _))) (fun C s₀ H₀ ex pn=>(@pg_name _ _ (0) _ (show List.Nodup (["word", "words"]:List Str) from by decide +kernel) rfl (Or.inl rfl) (by trivial))) (fun C s₀ H₀ ex pn=>(@pts_nil _)) (fun C s₀ H₀ ex pn=>(@pe_call _ _ _ _ _ _ _ _ _ _ _ _ _ _ _ _ G_bound_in (hr.mono (by decide)) (by rfl) T.m_bound_in T.F_bound_in.kp T.b_bound_in .nil passes_comp (@pa_c _ _ _ _ _ (@pvN _ 0 _ _ (by rfl) (by trivial) (by decide) (by decide)) (@pa_nil _) (by rfl)) (by decide) (by rfl) (by rfl))) (by intros;rfl)) (@pa_nil _) (by rfl)) (by decide) (by decide) (by rfl) (by rfl))) (@pa_nil _) (by rfl)) (by decide) (by rfl) (by rfl)))) (@pss_nil _)) (@pss_one _ _ _ (@ps_ret _ _ _ _ (@pe_call _ _ _ _ _ _ _ _ _ _ _ _ _ _ _ _ G_move_of (hr.mono (by decide)) (by rfl) T.m_move_of T.F_move_of.kp T.b_move_of .nil pass0 (@pa_c _ _ _ _ _ (@pe_op _ _ _ _ _ _ _ _ op_nCatT (@pe_qTup _ _ _ _ _ (@pa_c _ _ _ _ _ (@pe_ix _ _ _ _ _ _ _ ix_q (@pvN _ 0 _ _ (by rfl) (by trivial) (by decide) (by decide)) (@pe_int _ _ _ _) (fun _ _=>rfl)) (@pa_nil _) (by rfl))) (@pe_callTy _ _ _ _ _ _ _ _ _ call_nTuple (by rfl) T.z_tuple (by decide +kernel) (@pa_c _ _ _ _ _ (@pe_compX _ _ _ _ _ _ _ _ _ _ _ (["word", "words"]) (1) _ _ rfl rfl rfl leaves_def (comp_ok (defScope s_read_one) ["words"] rfl rfl (by decide +kernel)) rfl (@pi_seq _ _ _ _ (@pe_slice _ _ _ _ _ _ _ _ _ _ sl_n (@pvN _ 0 _ _ (by rfl) (by trivial) (by decide) (by decide)) (@po_some _ _ _ (@pe_int _ _ _ _)) (@po_none _))) (fun C s₀ H₀ ex pn=>(@pg_name _ _ (0) _ (show List.Nodup (["word", "words"]:List Str) from by decide +kernel) rfl (Or.inl rfl) (by trivial))) (fun C s₀ H₀ ex pn=>(@pts_nil _)) (fun C s₀ H₀ ex pn=>(@pe_call _ _ _ _ _ _ _ _ _ _ _ _ _ _ _ _ G_number_in (hr.mono (by decide)) (by rfl) T.m_number_in T.F_number_in.kp T.b_number_in .nil passes_comp (@pa_c _ _ _ _ _ (@pvN _ 0 _ _ (by rfl) (by trivial) (by decide) (by decide)) (@pa_nil _) (by rfl)) (by decide) (by rfl) (by rfl))) (by intros;rfl)) (@pa_nil _) (by rfl)) (by decide) (by decide) (by rfl) (by rfl))) (@pa_nil _) (by rfl)) (by decide) (by rfl) (by rfl)))))))),?_⟩
  rw [show start ["words"] [.ref l]=[some (.ref l)] from rfl]
  clear G_refuse_row G_number_in G_bound_in G_move_of
  have hM:DicK t.w K t.a_MOVES mvL:=T.d_MOVES
  replace k:=fun (_:Unit)=>k
  replace hM:=fun (_:Unit)=>hM
  cases bad with
  | nil=>
   have hl':H l=some (.lst []):=hl
   clear hl
   simp! only [and_true]
   rw [c_spRRX]
   exact ⟨fun h=>(nomatch h),fun _=>k ()⟩
  | long r h8 h40=>
   have hl':H l=some (.lst (.str (Str.ofString "turn")::r.map V.str)):=hl
   have hsz:(r.map V.str).length+1≤sizeLine:=len5000 (by rw [List.length_map];omega)
   have hln:(0:Int) < ((r.length+1:Nat):Int):=by omega
   clear hl
   simp! only [and_true]
   rw [c_spRRX]
   refine ⟨fun _=>?_,fun h=>(nomatch h)⟩
   simp! only [and_true]
   rw [c_spRRX]
   exact ⟨fun h=>absurd (of_decide_eq_true h) (by omega),fun _=>k ()⟩
  | turn r h8 hnum hex=>
   have hl':H l=some (.lst (.str (Str.ofString "turn")::r.map V.str)):=hl
   have hsz:(r.map V.str).length+1≤sizeLine:=len5000 (by rw [List.length_map];omega)
   have hln:(0:Int) < ((r.length+1:Nat):Int):=by omega
   replace hnum:=fun (_:Unit)=>hnum
   replace hex:=fun (_:Unit)=>hex
   clear hl
   simp! only [and_true]
   rw [c_spRRX]
   refine ⟨fun _=>?_,fun h=>(nomatch h)⟩
   simp! only [and_true]
   rw [c_spRRX]
   refine ⟨fun _=>?_,fun h=>absurd (show (r.length:Int)+1≤9 by omega) (of_decide_eq_false h)⟩
   simp! only [and_true]
   intro q1 H1 _ e1 h1
   rw [cut_some _ 1 (by decide)] at h1
   have h1':H1 q1=some (.lst (r.map V.str)):=h1
   clear h1 hsz
   simp! only [and_true]
   have wk:=wk_al (K:=K) (R:=fun (w:Str) y (_:Hp)=>y=.str w) (fun _ _ _ _ h _=>h) h1' (al_map V.str r)
   refine comp_rel r (fun _=>true) (fun w y _=>y=.str w) (fun _ w _ _=>GoodN w) wk.1 wk.2 (fun _ _ _ _ _ h _=>h) (fun _ _ _ _ _ h=>h) (len5000 (by omega)) ?_ ?_
   ·intro D w y H' N1 N0 ho hD e _ hy k1 _
    subst hy
    have k1':=k1 rfl
    have hb:=hnum () w ho
    clear k1 wk
    simp! only [↓m_kCm_1,↓m_kCm2]
    rw [c_spNI]
    rcases hb with ⟨i,hi,hb⟩|hb
    ·exact .inl ⟨i,hi,hb,fun H'' e'=>k1' _ H'' e' ⟨i,hi,hb⟩⟩
    ·exact .inr ⟨hb,(k ()).ext (e1.trans e)⟩
   ·intro D zs H2 hD e2 hD2 al
    exfalso
    rw [filt] at al
    obtain ⟨w,hw,nn⟩:=hex ()
    obtain ⟨i,hi,rfl⟩:=List.getElem_of_mem hw
    exact good_no (al.2 i _ (zs[i]'(by rw [al.1];exact hi)) (List.getElem?_eq_getElem hi) (List.getElem?_eq_getElem _)) nn
  | word w r h40 hw hv=>
   have hl':H l=some (.lst (.str w::r.map V.str)):=hl
   have hsz:(r.map V.str).length+1≤sizeLine:=len5000 (by rw [List.length_map];omega)
   have hln:(0:Int) < ((r.length+1:Nat):Int):=by omega
   replace hv:=fun (_:Unit)=>hv
   clear hl
   simp! only [and_true]
   rw [c_spRRX]
   refine ⟨fun _=>?_,fun h=>(nomatch h)⟩
   simp! only [and_true]
   refine use_inK (hM ()) ?_
   rw [hv ()]
   simp! only [and_true]
   rw [c_spRRX]
   exact ⟨fun h=>(nomatch h),fun _=>k ()⟩
  | many i r h40 h9 h3 hne=>
   have hl':H l=some (.lst (.str (wdM i)::r.map V.str)):=hl
   have hsz:(r.map V.str).length+1≤sizeLine:=len5000 (by rw [List.length_map];omega)
   have hln:(0:Int) < ((r.length+1:Nat):Int):=by omega
   have hw:=wd_turn h9 h3
   have hva:=mv_at h9 h3
   replace hva:=fun (_:Unit)=>hva
   clear hl
   simp! only [and_true]
   rw [c_spRRX]
   refine ⟨fun _=>?_,fun h=>(nomatch h)⟩
   simp! only [and_true]
   refine use_inK (hM ()) ?_
   rw [hva ()]
   simp! only [and_true]
   refine use_dgK (hM ()) (hva ()) ?_
   simp! only [and_true]
   rw [c_spRRX]
   exact ⟨fun h=>absurd (of_decide_eq_true h) (by omega),fun _=>k ()⟩
  | num i r h9 h3 h1 hcn hnum hex=>
   have h4:=cn_le i
   have hl':H l=some (.lst (.str (wdM i)::r.map V.str)):=hl
   have hsz:(r.map V.str).length+1≤sizeLine:=len5000 (by rw [List.length_map];omega)
   have hln:(0:Int) < ((r.length+1:Nat):Int):=by omega
   have hw:=wd_turn h9 h3
   have hws:=wd_slice h9 h1
   have hva:=mv_at h9 h3
   replace hva:=fun (_:Unit)=>hva
   replace hcn:=fun (_:Unit)=>hcn
   replace hnum:=fun (_:Unit)=>hnum
   replace hex:=fun (_:Unit)=>hex
   clear hl
   simp! only [and_true]
   rw [c_spRRX]
   refine ⟨fun _=>?_,fun h=>(nomatch h)⟩
   simp! only [and_true]
   refine use_inK (hM ()) ?_
   rw [hva ()]
   simp! only [and_true]
   refine use_dgK (hM ()) (hva ()) ?_
   simp! only [and_true]
   rw [c_spRRX]
   refine ⟨fun _=>?_,fun h=>absurd (show (r.length:Int)+1=(cnM i:Nat)+1 by have:=hcn ();omega) (of_decide_eq_false h)⟩
   clear hln
   simp! only [and_true]
   intro p1 H2 _ e2 h2
   have hl4:=e2.at hl'
   simp! only [and_true]
   intro q1 H3 _ e3 hq
   rw [cut_some _ 1 (by decide)] at hq
   have hq':H3 q1=some (.lst (r.map V.str)):=hq
   clear hq h2 hsz
   simp! only [and_true]
   have wk:=wk_al (K:=K) (R:=fun (w:Str) y (_:Hp)=>y=.str w) (fun _ _ _ _ h _=>h) hq' (al_map V.str r)
   refine comp_rel r (fun _=>true) (fun w y _=>y=.str w) (fun _ w _ _=>GoodN w) wk.1 wk.2 (fun _ _ _ _ _ h _=>h) (fun _ _ _ _ _ h=>h) (len5000 (by have:=hcn ();omega)) ?_ ?_
   ·intro D w y H' N1 N0 ho hD e _ hy k1 _
    subst hy
    have k1':=k1 rfl
    have hb:=hnum () w ho
    clear k1 wk
    simp! only [↓m_kCm_1,↓m_kCm2]
    rw [c_spNI]
    rcases hb with ⟨i,hi,hb⟩|hb
    ·exact .inl ⟨i,hi,hb,fun H'' e'=>k1' _ H'' e' ⟨i,hi,hb⟩⟩
    ·exact .inr ⟨hb,(k ()).ext (e2.trans (e3.trans e))⟩
   ·intro D zs H2 hD e2 hD2 al
    exfalso
    rw [filt] at al
    obtain ⟨w,hw,nn⟩:=hex ()
    obtain ⟨i,hi,rfl⟩:=List.getElem_of_mem hw
    exact good_no (al.2 i _ (zs[i]'(by rw [al.1];exact hi)) (List.getElem?_eq_getElem hi) (List.getElem?_eq_getElem _)) nn
  | axis a r h3 hn=>
   have hl':H l=some (.lst (.str (Str.ofString "slice")::.str a::r.map V.str)):=hl
   have hln:(0:Int) < (((r.length+1:Nat)+1:Nat):Int):=by omega
   have hva:=mv_at (i:=1) (by decide) (by decide)
   replace hva:=fun (_:Unit)=>hva
   replace h3:=fun (_:Unit)=>h3
   clear hl
   simp! only [and_true]
   rw [c_spRRX]
   refine ⟨fun _=>?_,fun h=>(nomatch h)⟩
   simp! only [and_true]
   refine use_inK (hM ()) ?_
   rw [show valV (keyed mvL) (.inr (Str.ofString "slice"))=some (.int 4) from hva ()]
   simp! only [and_true]
   refine use_dgK (v:=.int 4) (hM ()) (hva ()) ?_
   simp! only [and_true]
   rw [c_spRRX]
   refine ⟨fun _=>?_,fun h=>absurd (show (r.length:Int)+1+1=4+1 by have:=h3 ();omega) (of_decide_eq_false h)⟩
   clear hln
   simp! only [and_true]
   rw [c_spNI]
   exact .inr ⟨hn,k ()⟩
  | part a r h3 ha hnum hex=>
   obtain ⟨ai,rfl,hai⟩:=ha
   have hl':H l=some (.lst (.str (Str.ofString "slice")::.str (txt ai)::r.map V.str)):=hl
   have hln:(0:Int) < (((r.length+1:Nat)+1:Nat):Int):=by omega
   have hva:=mv_at (i:=1) (by decide) (by decide)
   replace hva:=fun (_:Unit)=>hva
   replace h3:=fun (_:Unit)=>h3
   replace hnum:=fun (_:Unit)=>hnum
   replace hex:=fun (_:Unit)=>hex
   clear hl
   simp! only [and_true]
   rw [c_spRRX]
   refine ⟨fun _=>?_,fun h=>(nomatch h)⟩
   simp! only [and_true]
   refine use_inK (hM ()) ?_
   rw [show valV (keyed mvL) (.inr (Str.ofString "slice"))=some (.int 4) from hva ()]
   simp! only [and_true]
   refine use_dgK (v:=.int 4) (hM ()) (hva ()) ?_
   simp! only [and_true]
   rw [c_spRRX]
   refine ⟨fun _=>?_,fun h=>absurd (show (r.length:Int)+1+1=4+1 by have:=h3 ();omega) (of_decide_eq_false h)⟩
   clear hln
   simp! only [and_true]
   rw [c_spNI]
   refine .inl ⟨ai,rfl,hai,fun H1 e1=>?_⟩
   have hl3:=e1.at hl'
   simp! only [and_true]
   intro p1 H2 _ e2 h2
   have hl4:=e2.at hl3
   clear hl3
   simp! only [and_true]
   intro q1 H3 _ e3 hq
   rw [cut_some _ 2 (by decide)] at hq
   have hq':H3 q1=some (.lst (r.map V.str)):=hq
   clear hq h2
   simp! only [and_true]
   have wk:=wk_al (K:=K) (R:=fun (w:Str) y (_:Hp)=>y=.str w) (fun _ _ _ _ h _=>h) hq' (al_map V.str r)
   refine comp_rel r (fun _=>true) (fun w y _=>y=.str w) (fun _ w _ _=>w=Str.ofString "-" ∨ GoodN w) wk.1 wk.2 (fun _ _ _ _ _ h _=>h) (fun _ _ _ _ _ h=>h) (len5000 (by have:=h3 ();omega)) ?_ ?_
   ·intro D w y H' N1 N0 ho hD e _ hy k1 _
    subst hy
    have k1':=k1 rfl
    have hb:=hnum () w ho
    clear k1 wk
    simp! only [↓m_kCm_1,↓m_kCm2]
    rw [c_spBI]
    rcases hb with rfl|⟨i,hi,hb⟩|⟨hb,hb2⟩
    ·exact .inl ⟨none,rfl,fun _ h=>(nomatch h),fun H'' e'=>k1' _ H'' e' (.inl rfl)⟩
    ·exact .inl ⟨some i,hi,fun j hj=>(by cases hj;exact hb),fun H'' e'=>k1' _ H'' e' (.inr ⟨i,hi,hb⟩)⟩
    ·exact .inr ⟨hb,hb2,(k ()).ext (e1.trans (e2.trans (e3.trans e)))⟩
   ·intro D zs H2 hD e2 hD2 al
    exfalso
    rw [filt] at al
    obtain ⟨w,hw,nn,nd⟩:=hex ()
    obtain ⟨i,hi,rfl⟩:=List.getElem_of_mem hw
    rcases al.2 i _ (zs[i]'(by rw [al.1];exact hi)) (List.getElem?_eq_getElem hi) (List.getElem?_eq_getElem _) with h|h
    ·exact nd h
    ·exact good_no h nn
abbrev B_spRO2 (t:Adr) (l:Addr) (H:Hp) (Q:VK) (E:XK):Prop:=∃ ws:List Str,H l=some (.lst (ws.map V.str))∧((∃ x:Tl,ws=wordsT x∧TlOk x∧∀ (v:Addr) (H':Hp),Ext H H'->MvF t H H' v x->Q (.ref v) H')∨(BadW ws∧NoR t H E))
def spRO2 (t:Adr):Sp:=fun vs H Q E=>∃ (l:Addr),vs=[.ref l]∧(B_spRO2 t l H Q E)
theorem c_spRO2 (t:Adr) (l:Addr) (H:Hp) (Q:VK) (E:XK):spRO2 t [.ref l] H Q E=(B_spRO2 t l H Q E):=spx1 (f:=fun (l:Addr)=>[.ref l]) (fun _ _ h=>by cases h;exact rfl) l
theorem ok2_read_one (T:Tx K mg t):FnOk P t.w K mg base (CX1 P  t.w) 8 t.a_read_one t.d_read_one ["words"] (spRO2 t):=
 FnOk.both (FnOk.up (ok_read_one T)) (okX_read_one T) fun vs H Q E h=>by
  obtain ⟨l,rfl,ws,h1,⟨x,rfl,h2,h3⟩|⟨h2,h3⟩⟩:=h
  ·exact .inl ⟨l,rfl,x,h1,h2,h3⟩
  ·exact .inr ⟨l,rfl,ws,h1,h2,h3⟩
def WdV (H:Hp) (v:V):Prop:=v=.non∨(∃ i,v=.int i)∨(∃ b,v=.bl b)∨(∃ z,v=.str z)∨(∃ p xs,v=.ref p∧H p=some (.lst xs))∨(∃ p xs,v=.ref p∧H p=some (.tup xs))∨(∃ p kvs,v=.ref p∧H p=some (.dK kvs))
theorem WdV.ext {H H':Hp}{v:V}(h:WdV H v) (e:Ext H H'):WdV H' v:=by
 rcases h with h|h|h|h|⟨p,xs,h1,h2⟩|⟨p,xs,h1,h2⟩|⟨p,xs,h1,h2⟩
 ·exact .inl h
 ·exact .inr (.inl h)
 ·exact .inr (.inr (.inl h))
 ·exact .inr (.inr (.inr (.inl h)))
 ·exact .inr (.inr (.inr (.inr (.inl ⟨p,xs,h1,e.at h2⟩))))
 ·exact .inr (.inr (.inr (.inr (.inr (.inl ⟨p,xs,h1,e.at h2⟩)))))
 ·exact .inr (.inr (.inr (.inr (.inr (.inr ⟨p,xs,h1,e.at h2⟩)))))
theorem splitW_len:∀ (d:List (List Str)) (c ws:List Str),(splitW d c ws).length≤d.length+ws.length+1
 | d,c,[]=>by unfold splitW;simp
 | d,c,w::ws=>by
  unfold splitW
  split
  ·have:=splitW_len (d++[c]) [] ws
   simp at this ⊢
   omega
  ·have:=splitW_len d (c++[w]) ws
   simp at this ⊢
   omega
def strB:V->Bool
 | .str _=>true
 | _=>false
def GoodW (g:List Str):Prop:=∃ x:Tl,g=wordsT x∧TlOk x
inductive RowX (H:Hp):V->Prop
 | non:RowX H .non
 | int (i:Int):RowX H (.int i)
 | str (z:Str):RowX H (.str z)
 | tup (p:Addr) (xs:List V):H p=some (.tup xs)->RowX H (.ref p)
 | dic (p:Addr) (kvs:List (Key × V)):H p=some (.dK kvs)->RowX H (.ref p)
 | odd (p:Addr) (vs:List V):H p=some (.lst vs)->vs.length≤4000->(∀ v∈vs,WdV H v)->(vs.map strB).all id=false->RowX H (.ref p)
 | many (p:Addr) (ws:List Str):H p=some (.lst (ws.map V.str))->ws.length≤4000->40 < (splitW [] [] ws).length->RowX H (.ref p)
 | bad (p:Addr) (ws:List Str):H p=some (.lst (ws.map V.str))->ws.length≤4000->(splitW [] [] ws).length≤40->(∀ g∈splitW [] [] ws,GoodW g∨BadW g)->(∃ g∈splitW [] [] ws,BadW g)->RowX H (.ref p)
abbrev B_spRMX (t:Adr) (r:V) (H:Hp) (Q:VK) (E:XK):Prop:=RowX H r∧NoR t H E
def spRMX (t:Adr):Sp:=fun vs H Q E=>∃ (r:V),vs=[r]∧(B_spRMX t r H Q E)
theorem c_spRMX (t:Adr) (r:V) (H:Hp) (Q:VK) (E:XK):spRMX t [r] H Q E=(B_spRMX t r H Q E):=spx1 (f:=fun (r:V)=>[r]) (fun _ _ h=>by cases h;exact rfl) r
theorem l_spRMX (t:Adr){vs:List V}{H:Hp}{Q:VK}{E:XK}(h:spRMX t vs H Q E):vs.length=1:=spl1 h fun _=>rfl
theorem okX_read_move (T:Tx K mg t):FnOk P t.w K mg base (CX1 P  t.w) 9 t.a_read_move t.d_read_move ["words"] (spRMX t):=by
 have G_refuse_row:=okX_refuse_row (P:=P) (base:=base) T
 have G_split_by_then:=ok_split_by_then (P:=P) (base:=base) T
 have G_read_one:=ok2_read_one (P:=P) (base:=base) T
 have G_Chain___init__:=ok_Chain___init__ (P:=P) (base:=base) T
 refine (Fun.x T.F_read_move).ok c_read_move (fun vs H Q E h=>l_spRMX _ h) (fun cdv A outer s H vs Q E hr h=>?_)
 ·obtain ⟨r,rfl,hx,k⟩:=h
  refine ⟨_,(@pss_cons _ _ _ _ _ (@ps_expr _ _ _ _ (@pe_call _ _ _ _ _ _ _ _ _ _ _ _ _ _ _ _ G_refuse_row (hr.mono (by decide)) (by rfl) T.m_refuse_row T.F_refuse_row.kp T.b_refuse_row .nil passes_def (@pa_c _ _ _ _ _ (@pe_andN _ _ _ _ _ _ _ (@pe_callB _ _ _ _ _ _ _ ("isinstance") _ call_qIsi (by rfl) T.z_isinstance (by decide +kernel) (@pa_c _ _ _ _ _ (@pvN _ 0 _ _ (by rfl) (by trivial) (by decide) (by decide)) (@pa_c _ _ _ _ _ (@pe_bltn _ _ (.ty "list") (.type "list") _ (by rfl) T.z_list (by decide +kernel) rfl (by decide) (by decide)) (@pa_nil _) (by rfl)) (by rfl)) (by decide) (by decide) (by rfl) (by rfl)) (@pe_one _ _ _ _ _ (@pe_callB _ _ _ _ _ _ _ ("all") _ (call_qAll rfl) (by rfl) T.z_all (by decide +kernel) (@pa_c _ _ _ _ _ (@pe_comp _ _ _ _ _ _ _ _ _ _ _ (["word", "words", "groups", "moves"]) (1) (comp_ok (defScope s_read_move) ["words", "groups", "moves"] rfl rfl (by decide +kernel)) rfl (@pi_seq _ _ _ _ (@pvN _ 0 _ _ (by rfl) (by trivial) (by decide) (by decide))) (fun C s₀ H₀ ex pn=>(@pg_name _ _ (0) _ (show List.Nodup (["word", "words", "groups", "moves"]:List Str) from by decide +kernel) rfl (Or.inl rfl) (by trivial))) (fun C s₀ H₀ ex pn=>(@pts_nil _)) (fun C s₀ H₀ ex pn=>(@pe_callB _ _ _ _ _ _ _ ("isinstance") _ call_qIsi (by rfl) T.z_isinstance (by decide +kernel) (@pa_c _ _ _ _ _ (@pvN _ 0 _ _ (by rfl) (by trivial) (by decide) (by decide)) (@pa_c _ _ _ _ _ (@pe_bltn _ _ (.ty "str") (.type "str") _ (by rfl) T.z_str (by decide +kernel) rfl (by decide) (by decide)) (@pa_nil _) (by rfl)) (by rfl)) (by decide) (by decide) (by rfl) (by rfl))) (by intros;rfl)) (@pa_nil _) (by rfl)) (by decide) (by decide) (by rfl) (by rfl)))) (@pa_nil _) (by rfl)) (by decide) (by rfl) (by rfl)) (by rfl)) (@pss_cons _ _ _ _ _ (@ps_set _ _ (1) _ _ _ _ c_read_move.nd rfl (Or.inl rfl) (@pe_call _ _ _ _ _ _ _ _ _ _ _ _ _ _ _ _ G_split_by_then (hr.mono (by decide)) (by rfl) T.m_split_by_then T.F_split_by_then.kp T.b_split_by_then .nil pass0 (@pa_c _ _ _ _ _ (@pvN _ 0 _ _ (by rfl) (by trivial) (by decide) (by decide)) (@pa_nil _) (by rfl)) (by decide) (by rfl) (by rfl)) (by rfl) (by trivial)) (@pss_cons _ _ _ _ _ (@ps_expr _ _ _ _ (@pe_call _ _ _ _ _ _ _ _ _ _ _ _ _ _ _ _ G_refuse_row (hr.mono (by decide)) (by rfl) T.m_refuse_row T.F_refuse_row.kp T.b_refuse_row .nil passes_def (@pa_c _ _ _ _ _ (@pe_cmpR _ _ _ _ _ _ _ _ on_le (@pe_callB _ _ _ _ _ _ _ ("len") _ call_qLen (by rfl) T.z_len (by decide +kernel) (@pa_c _ _ _ _ _ (@pvN _ 1 _ _ (by rfl) (by trivial) (by decide) (by decide)) (@pa_nil _) (by rfl)) (by decide) (by decide) (by rfl) (by rfl)) (@pe_glob _ _ (.int 40) _ _ (by rfl) T.m_MOST_MOVES.choose_spec ⟨_,rfl⟩ (by decide)) (nomark _)) (@pa_nil _) (by rfl)) (by decide) (by rfl) (by rfl)) (by rfl)) (@pss_cons _ _ _ _ _ (@ps_setCX _ _ _ _ _ _ _ _ _ _ _ _ _ _ _ (["group", "words", "groups", "moves"]) (1) (2) _ c_read_move.nd rfl (Or.inl rfl) rfl rfl rfl leaves_def (comp_ok (defScope s_read_move) ["words", "groups", "moves"] rfl rfl (by decide +kernel)) rfl (@pi_seq _ _ _ _ (@pvN _ 1 _ _ (by rfl) (by trivial) (by decide) (by decide))) (fun C s₀ H₀ ex pn=>(@pg_name _ _ (0) _ (show List.Nodup (["group", "words", "groups", "moves"]:List Str) from by decide +kernel) rfl (Or.inl rfl) (by trivial))) (fun C s₀ H₀ ex pn=>(@pts_nil _)) (fun C s₀ H₀ ex pn=>(@pe_call _ _ _ _ _ _ _ _ _ _ _ _ _ _ _ _ G_read_one (hr.mono (by decide)) (by rfl) T.m_read_one T.F_read_one.kp T.b_read_one .nil passes_comp (@pa_c _ _ _ _ _ (@pvN _ 0 _ _ (by rfl) (by trivial) (by decide) (by decide)) (@pa_nil _) (by rfl)) (by decide) (by rfl) (by rfl))) (by rfl) (by intros;rfl) (by trivial)) (@pss_one _ _ _ (@ps_ret _ _ _ _ (@pe_ifExp _ _ _ _ _ _ _ _ (@pt_cmpRN _ _ _ _ _ _ _ _ (op_qEq hr.units) (@pe_callB _ _ _ _ _ _ _ ("len") _ call_qLen (by rfl) T.z_len (by decide +kernel) (@pa_c _ _ _ _ _ (@pvN _ 2 _ _ (by rfl) (by trivial) (by decide) (by decide)) (@pa_nil _) (by rfl)) (by decide) (by decide) (by rfl) (by rfl)) (@pe_int _ _ _ _) (nomark _)) (@pe_ix _ _ _ _ _ _ _ ix_q (@pvN _ 2 _ _ (by rfl) (by trivial) (by decide) (by decide)) (@pe_int _ _ _ _) (fun _ _=>rfl)) (@pe_nMake _ _ _ _ _ _ _ _ _ _ _ _ _ _ _ _ _ T.mk_Chain G_Chain___init__ (hr.mono (by decide)) (by rfl) T.m_Chain T.b_Chain___init__ .nil pass0 (@pa_c _ _ _ _ _ (@pvN _ 2 _ _ (by rfl) (by trivial) (by decide) (by decide)) (@pa_nil _) (by rfl)) (by decide) (by rfl) (by rfl))))))))),?_⟩
  rw [show start ["words", "groups", "moves"] [r]=[some (r),none,none] from rfl]
  clear G_refuse_row G_split_by_then G_read_one G_Chain___init__
  replace k:=fun (_:Unit)=>k
  cases hx with
  | non=>
   simp! only [and_true]
   rw [c_spRRX]
   exact ⟨fun h=>(nomatch h),fun _=>k ()⟩
  | int i=>
   simp! only [and_true]
   rw [c_spRRX]
   exact ⟨fun h=>(nomatch h),fun _=>k ()⟩
  | str z=>
   simp! only [and_true]
   rw [c_spRRX]
   exact ⟨fun h=>(nomatch h),fun _=>k ()⟩
  | tup p xs hp=>
   simp! only [and_true]
   rw [c_spRRX]
   exact ⟨fun h=>(nomatch h),fun _=>k ()⟩
  | dic p xs hp=>
   simp! only [and_true]
   rw [c_spRRX]
   exact ⟨fun h=>(nomatch h),fun _=>k ()⟩
  | odd p vs hp h4 hw hb=>
   replace hw:=fun (_:Unit)=>hw
   replace hb:=fun (_:Unit)=>hb
   simp! only [and_true]
   refine comp_fm vs (fun _=>true) (fun v=>.bl (strB v)) (fun z x H'=>x=z∧H' p=some (.lst vs)) (wk_lst hp).1 (wk_lst hp).2 (len5000 (by omega)) ?_ ?_
   ·intro D z x' H' N1 N0 hz hD e ⟨hx,_⟩ k1 _
    subst hx
    have k1':=k1 rfl H' (Ext.refl _)
    have hv:=(hw () _ hz).ext e
    clear k1
    rcases hv with rfl|⟨i,rfl⟩|⟨i,rfl⟩|⟨i,rfl⟩|⟨q,xs,rfl,hq⟩|⟨q,xs,rfl,hq⟩|⟨q,xs,rfl,hq⟩
    all_goals (unfold strB at k1';simp! only [↓m_kCm_1,↓m_kCm2])
   ·intro D H1 hD e1 hD1
    have hD3:H1 D=some (.lst ((vs.map strB).map V.bl)):=by rw [hD1,filt,List.map_map];rfl
    have hb':=hb ()
    clear hD1 hb
    generalize vs.map strB=bs at hD3 hb'
    simp! only [and_true]
    rw [c_spRRX]
    exact ⟨fun h=>(nomatch h),fun _=>(k ()).ext e1⟩
  | many p ws hp h4 hg=>
   replace hg:=fun (_:Unit)=>hg
   simp! only [and_true]
   refine comp_fm (ws.map V.str) (fun _=>true) (fun _=>.bl true) (fun z x H'=>x=z∧H' p=some (.lst (ws.map V.str))) (wk_lst hp).1 (wk_lst hp).2 (len5000 (by rw [List.length_map];omega)) ?_ ?_
   ·intro D z x' H' N1 N0 hz hD e ⟨hx,_⟩ k1 _
    subst hx
    obtain ⟨i,_,rfl⟩:=List.mem_map.mp hz
    have k1':=k1 rfl H' (Ext.refl _)
    clear k1
    simp! only [↓m_kCm_1,↓m_kCm2]
   ·intro D H1 hD e1 hD1
    have hD3:H1 D=some (.lst ((ws.map fun _=>true).map V.bl)):=by rw [hD1,filt,List.map_map,List.map_map];rfl
    have ha:(ws.map fun _=>true).all id=true:=by rw [List.all_map,List.all_eq_true];intro _ _;rfl
    have hl1:=e1.at hp
    clear hD1 hp
    generalize (ws.map fun _=>true)=bs at hD3 ha
    simp! only [and_true]
    rw [c_spRRX]
    refine ⟨fun _=>?_,fun h=>(nomatch h)⟩
    simp! only [and_true]
    rw [c_spSpl]
    refine ⟨ws,hl1,by omega,fun g gs H2 e2 hg' al=>?_⟩
    have hgl:=al.1
    have e02:=e1.trans e2
    clear hl1 hD3 ha
    have hne:¬ (gs.length:Int)≤40:=by have:=hg ();omega
    have hsz:gs.length≤sizeLine:=by
     have h1:=splitW_len [] [] ws
     exact len5000 (by simp at h1;omega)
    replace hgl:=fun (_:Unit)=>hgl
    simp! only [and_true]
    rw [c_spRRX]
    exact ⟨fun h=>(nomatch h),fun _=>(k ()).ext e02⟩
  | bad p ws hp h4 h40 hgb hex=>
   replace hgb:=fun (_:Unit)=>hgb
   replace hex:=fun (_:Unit)=>hex
   simp! only [and_true]
   refine comp_fm (ws.map V.str) (fun _=>true) (fun _=>.bl true) (fun z x H'=>x=z∧H' p=some (.lst (ws.map V.str))) (wk_lst hp).1 (wk_lst hp).2 (len5000 (by rw [List.length_map];omega)) ?_ ?_
   ·intro D z x' H' N1 N0 hz hD e ⟨hx,_⟩ k1 _
    subst hx
    obtain ⟨i,_,rfl⟩:=List.mem_map.mp hz
    have k1':=k1 rfl H' (Ext.refl _)
    clear k1
    simp! only [↓m_kCm_1,↓m_kCm2]
   ·intro D H1 hD e1 hD1
    have hD3:H1 D=some (.lst ((ws.map fun _=>true).map V.bl)):=by rw [hD1,filt,List.map_map,List.map_map];rfl
    have ha:(ws.map fun _=>true).all id=true:=by rw [List.all_map,List.all_eq_true];intro _ _;rfl
    have hl1:=e1.at hp
    clear hD1 hp
    generalize (ws.map fun _=>true)=bs at hD3 ha
    simp! only [and_true]
    rw [c_spRRX]
    refine ⟨fun _=>?_,fun h=>(nomatch h)⟩
    simp! only [and_true]
    rw [c_spSpl]
    refine ⟨ws,hl1,by omega,fun g gs H2 e2 hg' al=>?_⟩
    have hgl:=al.1
    have e02:=e1.trans e2
    clear hl1 hD3 ha
    have hle:(gs.length:Int)≤40:=by omega
    have hsz:gs.length≤sizeLine:=len5000 (by omega)
    replace hgl:=fun (_:Unit)=>hgl
    replace al:=fun (_:Unit)=>al
    simp! only [and_true]
    rw [c_spRRX]
    refine ⟨fun _=>?_,fun h=>(nomatch h)⟩
    simp! only [and_true]
    have wk:=wk_al (K:=K) (R:=fun (ws:List Str) y H=>∃ a,y=V.ref a∧H a=some (.lst (ws.map V.str))) (fun _ _ _ _ ⟨a,h1,h2⟩ e=>⟨a,h1,e.at h2⟩) hg' (al ())
    refine comp_rel (splitW [] [] ws) (fun _=>true) (fun (ws:List Str) y H=>∃ a,y=V.ref a∧H a=some (.lst (ws.map V.str))) (fun _ g _ _=>¬ BadW g) wk.1 wk.2 (fun _ _ _ _ _ h _=>h) (fun _ _ _ _ _ h=>h) (len5000 (by omega)) ?_ ?_
    ·intro D x y H' N1 N0 hx hD e _ ⟨a,hy,ha⟩ k1 _
     subst hy
     have k1':=k1 rfl
     have hb:=hgb () x hx
     clear k1 wk
     simp! only [↓m_kCm_1,↓m_kCm2]
     rw [c_spRO2]
     refine ⟨x,ha,?_⟩
     by_cases h:BadW x
     ·exact .inr ⟨h,(k ()).ext (e02.trans e)⟩
     ·rcases hb with ⟨z,h1,h2⟩|hb
      ·exact .inl ⟨z,h1,h2,fun v H'' e' _=>k1' _ H'' e' h⟩
      ·exact absurd hb h
    ·intro D zs H3 hD e3 hD3 al3
     exfalso
     rw [filt] at al3
     obtain ⟨w,hw,nn⟩:=hex ()
     obtain ⟨i,hi,rfl⟩:=List.getElem_of_mem hw
     exact al3.2 i _ (zs[i]'(by rw [al3.1];exact hi)) (List.getElem?_eq_getElem hi) (List.getElem?_eq_getElem _) nn
abbrev B_spRefd  (r:V) (H:Hp) (Q:VK) (E:XK):Prop:=RowX H r∧∀ H',Ext H H'->Q (.bl true) H'
def spRefd  : Sp:=fun vs H Q E=>∃ (r:V),vs=[r]∧(B_spRefd  r H Q E)
theorem c_spRefd  (r:V) (H:Hp) (Q:VK) (E:XK):spRefd  [r] H Q E=(B_spRefd  r H Q E):=spx1 (f:=fun (r:V)=>[r]) (fun _ _ h=>by cases h;exact rfl) r
theorem l_spRefd  {vs:List V}{H:Hp}{Q:VK}{E:XK}(h:spRefd  vs H Q E):vs.length=1:=spl1 h fun _=>rfl
theorem ok__law_refused (T:Tx K mg t):FnOk P t.w K mg base CX0 10 t.a__law_refused t.d__law_refused ["_law_words_here"] spRefd:=by
 have G_read_move:=okX_read_move (P:=P) (base:=base) T
 refine T.F__law_refused.ok c__law_refused (fun vs H Q E h=>l_spRefd h) (fun cdv A outer s H vs Q E hr h=>?_)
 ·obtain ⟨r,rfl,hb,k⟩:=h
  have hx1:=T.x_NoRow_NoRow
  refine ⟨_,(@pss_cons _ _ _ _ _ (@ps_set _ _ (1) _ _ _ _ c__law_refused.nd rfl (Or.inl rfl) (@pe_str _ _ _ _) (by rfl) (by trivial)) (@pss_cons _ _ _ _ _ (@ps_try _ _ _ _ _ _ _ ⟨rfl,rfl,rfl⟩ (fun EX E pn hx=>(@pss_one _ _ _ (@ps_expr _ _ _ _ (@pe_callX _ _ _ _ _ _ _ _ _ _ _ _ _ _ _ _ G_read_move (hr.mono (by decide)) (by rfl) T.m_read_move T.F_read_move.kp T.b_read_move .nil hx (@pa_c _ _ _ _ _ (@pvN _ 0 _ _ (by rfl) (by trivial) (by decide) (by decide)) (@pa_nil _) (by rfl)) (by decide) (by rfl) (by rfl)) (by rfl)))) (@phs_as _ _ _ (2) _ _ _ _ _ _ _ _ c__law_refused.nd rfl rfl (by rfl) (.inl T.m_NoRow) (fun ee=>(@pss_cons _ _ _ _ _ (@ps_set _ _ (1) _ _ _ _ c__law_refused.nd rfl (Or.inl rfl) (@pe_str _ _ _ _) (by rfl) (by trivial)) (@pss_cons _ _ _ _ _ (@ps_if _ _ _ _ _ _ _ _ (PW.pt (@pw_or _ _ _ _ _ _ _ (@pt_valN _ _ _ (@pe_callB _ _ _ _ _ _ _ ("isinstance") _ (call_qIsE' (K:=K) rfl) (by rfl) T.z_isinstance (by decide +kernel) (@pa_c _ _ _ _ _ (@pvN _ 2 _ _ (by rfl) (by trivial) (by decide) (by decide)) (@pa_c _ _ _ _ _ (@pe_glob _ _ (.ref t.a_NoMove) _ _ (by rfl) T.m_NoMove rfl (by decide)) (@pa_nil _) (by rfl)) (by rfl)) (by decide) (by decide) (by rfl) (by rfl)) (by intros;rfl)) (@pw_or _ _ _ _ _ _ _ (@pt_valN _ _ _ (@pe_callB _ _ _ _ _ _ _ ("isinstance") _ (call_qIsE' (K:=K) rfl) (by rfl) T.z_isinstance (by decide +kernel) (@pa_c _ _ _ _ _ (@pvN _ 2 _ _ (by rfl) (by trivial) (by decide) (by decide)) (@pa_c _ _ _ _ _ (@pe_glob _ _ (.ref t.a_NoName) _ _ (by rfl) T.m_NoName rfl (by decide)) (@pa_nil _) (by rfl)) (by rfl)) (by decide) (by decide) (by rfl) (by rfl)) (by intros;rfl)) (@pw_or1 _ _ _ _ (@pt_valN _ _ _ (@pe_callB _ _ _ _ _ _ _ ("isinstance") _ (call_qIsE' (K:=K) rfl) (by rfl) T.z_isinstance (by decide +kernel) (@pa_c _ _ _ _ _ (@pvN _ 2 _ _ (by rfl) (by trivial) (by decide) (by decide)) (@pa_c _ _ _ _ _ (@pe_glob _ _ (.ref t.a_NoStep) _ _ (by rfl) T.m_NoStep rfl (by decide)) (@pa_nil _) (by rfl)) (by rfl)) (by decide) (by decide) (by rfl) (by rfl)) (by intros;rfl)))))) (@pss_one _ _ _ (@ps_set _ _ (1) _ _ _ _ c__law_refused.nd rfl (Or.inl rfl) (@pe_str _ _ _ _) (by rfl) (by trivial))) (@pss_nil _)) (@pss_one _ _ _ (@ps_if _ _ _ _ _ _ _ _ (PW.pt (@pw_or _ _ _ _ _ _ _ (@pt_not _ _ _ _ (@pt_valN _ _ _ (@pe_callB _ _ _ _ _ _ _ ("isinstance") _ (call_qIsE' (K:=K) rfl) (by rfl) T.z_isinstance (by decide +kernel) (@pa_c _ _ _ _ _ (@pvN _ 2 _ _ (by rfl) (by trivial) (by decide) (by decide)) (@pa_c _ _ _ _ _ (@pe_glob _ _ (.ref t.a_PaceError) _ _ (by rfl) T.m_PaceError rfl (by decide)) (@pa_nil _) (by rfl)) (by rfl)) (by decide) (by decide) (by rfl) (by rfl)) (by intros;rfl))) (@pw_or1 _ _ _ _ (@pt_not _ _ _ _ (@pt_valN _ _ _ (@pe_callB _ _ _ _ _ _ _ ("isinstance") _ (call_qIsE' (K:=K) rfl) (by rfl) T.z_isinstance (by decide +kernel) (@pa_c _ _ _ _ _ (@pvN _ 2 _ _ (by rfl) (by trivial) (by decide) (by decide)) (@pa_c _ _ _ _ _ (@pe_bltn _ _ (.ty "ValueError") (.type "ValueError") _ (by rfl) T.z_ValueError (by decide +kernel) rfl (by decide) (by decide)) (@pa_nil _) (by rfl)) (by rfl)) (by decide) (by decide) (by rfl) (by rfl)) (by intros;rfl)))))) (@pss_one _ _ _ (@ps_set _ _ (1) _ _ _ _ c__law_refused.nd rfl (Or.inl rfl) (@pe_str _ _ _ _) (by rfl) (by trivial))) (@pss_nil _)))))) (@phs_nil _) (by decide))) (@pss_one _ _ _ (@ps_ret _ _ _ _ (@pe_cmpR _ _ _ _ _ _ _ _ (op_qEq hr.units) (@pvN _ 1 _ _ (by rfl) (by trivial) (by decide) (by decide)) (@pe_str _ _ _ _) (nomark _)))))),?_⟩
  rw [show start ["_law_words_here", "_law_word", "e"] [r]=[some (r),none,none] from rfl]
  clear G_read_move
  replace k:=fun (_:Unit)=>k
  simp! only [and_true]
  rw [c_spRMX]
  refine ⟨hb,fun H1 e1=>?_⟩
  clear hb
  simp! only [and_true]
  intro e oe he hcl hdc hdat
  have g4:(upd H1 e (excO oe)) e=some (excO oe):=upd_same
  have e3:Ext H (upd H1 e (excO oe)):=e1.trans (Ext.new he)
  generalize upd H1 e (excO oe)=H3 at e3 g4
  have k':=k () H3 e3
  clear he k
  simp! only [T.e_NoRow,T.k_NoRow_NoMove,T.k_NoRow_NoName,T.k_NoRow_NoStep,T.k_NoRow_PaceError,T.k_NoRow_ValueError]
theorem optK_pick2 {xs:List V}{i:Int}{k:V->Prop}(P:V->Prop) (h0:0≤i) (h1:i < xs.length) (ha:∀ v∈xs,P v) (hk:∀ v,P v->k v):optK (atI xs i) k:=optK_at h0 h1 fun v hv=>hk v (ha v hv)
theorem noNum_of {x:Str}(h:(decide (x.length≤100) && x.cps.all (· < 128) && !isNumF x && !decide (x=Str.ofString "-"))=true):NoNum x∧¬ x=Str.ofString "-":=by
 simp only [Bool.and_eq_true,decide_eq_true_eq,Bool.not_eq_true',decide_eq_false_iff_not] at h
 exact ⟨⟨h.1.1.1,h.1.1.2,h.1.2⟩,h.2⟩
def spLNum  : Sp:=fun vs H Q E=>∃ (c:Int),vs=[.int c]∧(∀ (z:Str) (H':Hp),Ext H H'->NoNum z->(¬ z=Str.ofString "-")->(¬ z=Str.ofString "then")->Q (.str z) H')
theorem c_spLNum  (c:Int) (H:Hp) (Q:VK) (E:XK):spLNum  [.int c] H Q E=(∀ (z:Str) (H':Hp),Ext H H'->NoNum z->(¬ z=Str.ofString "-")->(¬ z=Str.ofString "then")->Q (.str z) H'):=spx1 (f:=fun (c:Int)=>[.int c]) (fun _ _ h=>by cases h;exact rfl) c
theorem l_spLNum  {vs:List V}{H:Hp}{Q:VK}{E:XK}(h:spLNum  vs H Q E):vs.length=1:=spl1 h fun _=>rfl
theorem ok__law_number (T:Tx K mg t):FnOk P t.w K mg base CX0 1 t.a__law_number t.d__law_number ["_law_cell"] spLNum:=by
 refine T.F__law_number.ok c__law_number (fun vs H Q E h=>l_spLNum h) (fun cdv A outer s H vs Q E hr h=>?_)
 ·obtain ⟨c,rfl,k⟩:=h
  refine ⟨_,(@pss_cons _ _ _ _ _ (@ps_set _ _ (1) _ _ _ _ c__law_number.nd rfl (Or.inl rfl) (@pe_qLst _ _ _ _ (@pa_c _ _ _ _ _ (@pe_str _ _ _ _) (@pa_c _ _ _ _ _ (@pe_str _ _ _ _) (@pa_c _ _ _ _ _ (@pe_str _ _ _ _) (@pa_c _ _ _ _ _ (@pe_str _ _ _ _) (@pa_c _ _ _ _ _ (@pe_str _ _ _ _) (@pa_c _ _ _ _ _ (@pe_str _ _ _ _) (@pa_c _ _ _ _ _ (@pe_str _ _ _ _) (@pa_c _ _ _ _ _ (@pe_str _ _ _ _) (@pa_c _ _ _ _ _ (@pe_str _ _ _ _) (@pa_c _ _ _ _ _ (@pe_op _ _ _ _ _ _ _ _ op_nMulS (@pe_str _ _ _ _) (@pe_int _ _ _ _)) (@pa_c _ _ _ _ _ (@pe_op _ _ _ _ _ _ _ _ op_add_str (@pe_str _ _ _ _) (@pe_op _ _ _ _ _ _ _ _ op_nMulS (@pe_str _ _ _ _) (@pe_int _ _ _ _))) (@pa_c _ _ _ _ _ (@pe_str _ _ _ _) (@pa_c _ _ _ _ _ (@pe_str _ _ _ _) (@pa_c _ _ _ _ _ (@pe_str _ _ _ _) (@pa_nil _) (by rfl)) (by rfl)) (by rfl)) (by rfl)) (by rfl)) (by rfl)) (by rfl)) (by rfl)) (by rfl)) (by rfl)) (by rfl)) (by rfl)) (by rfl)) (by rfl))) (by rfl) (by trivial)) (@pss_one _ _ _ (@ps_ret _ _ _ _ (@pe_ix _ _ _ _ _ _ _ ix_q (@pvN _ 1 _ _ (by rfl) (by trivial) (by decide) (by decide)) (@pe_op _ _ _ _ _ _ _ _ on_mod (@pvN _ 0 _ _ (by rfl) (by trivial) (by decide) (by decide)) (@pe_int _ _ _ _)) (fun _ _=>rfl))))),?_⟩
  rw [show start ["_law_cell", "_law_some"] [.int c]=[some (.int c),none] from rfl]
  replace k:=fun (_:Unit)=>k
  simp! only [and_true]
  refine ⟨by decide,by decide,_,_,rfl,rfl,len5000 (by decide +kernel),?_⟩
  intro l1 H1 _ e1 h1
  simp! only [and_true]
  refine optK_pick2 (fun v=>∃ z:Str,v=.str z∧(decide (z.length≤100) && z.cps.all (· < 128) && !isNumF z && !decide (z=Str.ofString "-"))=true∧¬ z=Str.ofString "then") (Int.emod_nonneg _ (by decide)) (Int.emod_lt_of_pos _ (by decide)) (fun v hv=>?_) ?_
  ·simp only [List.mem_cons,List.not_mem_nil,or_false] at hv
   rcases hv with rfl|rfl|rfl|rfl|rfl|rfl|rfl|rfl|rfl|rfl|rfl|rfl|rfl|rfl
   all_goals exact ⟨_,rfl,by decide +kernel,by decide +kernel⟩
  ·rintro _ ⟨z,rfl,h2,h3⟩
   exact k () z H1 e1 (noNum_of h2).1 (noNum_of h2).2 h3
def spLFst  : Sp:=fun vs H Q E=>∃ (c:Int),vs=[.int c]∧(∀ (z:Str) (H':Hp),Ext H H'->(¬ z=Str.ofString "turn")->valV (keyed mvL) (.inr z)=none->(¬ z=Str.ofString "then")->Q (.str z) H')
theorem c_spLFst  (c:Int) (H:Hp) (Q:VK) (E:XK):spLFst  [.int c] H Q E=(∀ (z:Str) (H':Hp),Ext H H'->(¬ z=Str.ofString "turn")->valV (keyed mvL) (.inr z)=none->(¬ z=Str.ofString "then")->Q (.str z) H'):=spx1 (f:=fun (c:Int)=>[.int c]) (fun _ _ h=>by cases h;exact rfl) c
theorem l_spLFst  {vs:List V}{H:Hp}{Q:VK}{E:XK}(h:spLFst  vs H Q E):vs.length=1:=spl1 h fun _=>rfl
theorem ok__law_first (T:Tx K mg t):FnOk P t.w K mg base CX0 1 t.a__law_first t.d__law_first ["_law_cell"] spLFst:=by
 refine T.F__law_first.ok c__law_first (fun vs H Q E h=>l_spLFst h) (fun cdv A outer s H vs Q E hr h=>?_)
 ·obtain ⟨c,rfl,k⟩:=h
  refine ⟨_,(@pss_one _ _ _ (@ps_ret _ _ _ _ (@pe_ix _ _ _ _ _ _ _ ix_q (@pe_qLst _ _ _ _ (@pa_c _ _ _ _ _ (@pe_str _ _ _ _) (@pa_c _ _ _ _ _ (@pe_str _ _ _ _) (@pa_c _ _ _ _ _ (@pe_str _ _ _ _) (@pa_c _ _ _ _ _ (@pe_str _ _ _ _) (@pa_c _ _ _ _ _ (@pe_str _ _ _ _) (@pa_c _ _ _ _ _ (@pe_str _ _ _ _) (@pa_c _ _ _ _ _ (@pe_str _ _ _ _) (@pa_c _ _ _ _ _ (@pe_str _ _ _ _) (@pa_c _ _ _ _ _ (@pe_str _ _ _ _) (@pa_c _ _ _ _ _ (@pe_str _ _ _ _) (@pa_c _ _ _ _ _ (@pe_str _ _ _ _) (@pa_nil _) (by rfl)) (by rfl)) (by rfl)) (by rfl)) (by rfl)) (by rfl)) (by rfl)) (by rfl)) (by rfl)) (by rfl)) (by rfl))) (@pe_op _ _ _ _ _ _ _ _ on_mod (@pvN _ 0 _ _ (by rfl) (by trivial) (by decide) (by decide)) (@pe_int _ _ _ _)) (fun _ _=>rfl)))),?_⟩
  rw [show start ["_law_cell"] [.int c]=[some (.int c)] from rfl]
  replace k:=fun (_:Unit)=>k
  simp! only [and_true]
  intro l1 H1 _ e1 h1
  simp! only [and_true]
  refine optK_pick2 (fun v=>∃ z:Str,v=.str z∧(¬ z=Str.ofString "turn")∧valV (keyed mvL) (.inr z)=none∧¬ z=Str.ofString "then") (Int.emod_nonneg _ (by decide)) (Int.emod_lt_of_pos _ (by decide)) (fun v hv=>?_) ?_
  ·simp only [List.mem_cons,List.not_mem_nil,or_false] at hv
   rcases hv with rfl|rfl|rfl|rfl|rfl|rfl|rfl|rfl|rfl|rfl|rfl
   all_goals exact ⟨_,rfl,by decide +kernel,by decide +kernel,by decide +kernel⟩
  ·rintro _ ⟨z,rfl,h2,h3,h4⟩
   exact k () z H1 e1 h2 h3 h4
def setW (ws:List Str) (p:Nat) (z:Str):List Str:=ws.take p++[z]++ws.drop (p+1)
theorem setW_cons (w:Str) (r:List Str) (p:Nat) (z:Str):setW (w::r) (p+1) z=w::setW r p z:=rfl
theorem setW_len {r:List Str}{p:Nat}{z:Str}(h:p < r.length):(setW r p z).length=r.length:=by
 unfold setW
 rw [List.length_append,List.length_append,List.length_take,List.length_drop,List.length_singleton]
 omega
theorem setW_mem {r:List Str}{p:Nat}{z w:Str}(h:w∈setW r p z):w=z∨w∈r:=by
 unfold setW at h
 rcases List.mem_append.mp h with h|h
 ·rcases List.mem_append.mp h with h|h
  ·exact .inr (List.mem_of_mem_take h)
  ·exact .inl (List.mem_singleton.mp h)
 ·exact .inr (List.mem_of_mem_drop h)
theorem setW_in (r:List Str) (p:Nat) (z:Str):z∈setW r p z:=by
 unfold setW
 simp
theorem opt_num {x:Tl}(ok:TlOk x) (h1:x.1 ≠ 1):∀ w∈x.2.map optT,GoodN w:=fun w hw=>by
 obtain ⟨o,ho,rfl⟩:=List.mem_map.mp hw
 cases o with
 | none=>exact absurd rfl (ok.s h1 none ho)
 | some i=>exact ⟨i,rfl,ok.b _ ho i rfl⟩
theorem opt_bnd {x:Tl}(ok:TlOk x):∀ w∈x.2.map optT,w=Str.ofString "-" ∨ GoodN w:=fun w hw=>by
 obtain ⟨o,ho,rfl⟩:=List.mem_map.mp hw
 cases o with
 | none=>exact .inl rfl
 | some i=>exact .inr ⟨i,rfl,ok.b _ ho i rfl⟩
theorem slice_r {x:Tl}(ok:TlOk x) (h:x.1=1):∃ (a:Str) (r:List Str),x.2.map optT=a::r∧r.length=3∧GoodN a∧∀ w∈r,w=Str.ofString "-" ∨ GoodN w:=by
 have hl4:x.2.length=4:=by rw [ok.n (by rw [h];decide),h];rfl
 have hb:=opt_bnd ok
 match hx:x.2,hl4,ok.h h with
 | some a::r,hl,_=>
  rw [hx] at hb
  refine ⟨txt a,r.map optT,rfl,by rw [List.length_map];simpa using hl,⟨a,rfl,ok.b (some a) (by rw [hx];exact List.mem_cons_self) a rfl⟩,fun w hw=>hb w (List.mem_cons_of_mem _ hw)⟩
 | none::r,_,h=>exact absurd rfl h
theorem bad_set {x:Tl}(ok:TlOk x){p:Nat}(h2:p < x.2.length){z:Str}(hz:NoNum z) (hd:x.1=1->¬ z=Str.ofString "-"):BadW (setW (wordsT x) (p+1) z):=by
 have hl:(x.2.map optT).length=x.2.length:=List.length_map _
 show BadW (wdM x.1::setW (x.2.map optT) p z)
 by_cases h3:x.1=3
 ·have hw:wdM x.1=Str.ofString "turn":=by rw [h3];rfl
  rw [hw]
  refine .turn _ (by rw [setW_len (by omega),hl];exact ok.m) (fun w hw=>?_) ⟨z,setW_in _ _ _,hz⟩
  rcases setW_mem hw with rfl|h
  ·exact .inr hz
  ·exact .inl (opt_num ok (by rw [h3];decide) w h)
 ·by_cases h1:x.1=1
  ·have hw:wdM x.1=Str.ofString "slice":=by rw [h1];rfl
   obtain ⟨a,r,hr,r3,ga,gr⟩:=slice_r ok h1
   rw [hw,hr]
   cases p with
   | zero=>exact .axis z r r3 hz
   | succ p=>
    rw [setW_cons]
    have hp:p < r.length:=by rw [hr] at hl;simp at hl;omega
    refine .part a _ (by rw [setW_len hp];exact r3) ga (fun w hw=>?_) ⟨z,setW_in _ _ _,hz,hd h1⟩
    rcases setW_mem hw with rfl|h
    ·exact .inr (.inr ⟨hz,hd h1⟩)
    ·rcases gr w h with h|h
     ·exact .inl h
     ·exact .inr (.inl h)
  ·refine .num x.1 _ ok.k h3 h1 (by rw [setW_len (by omega),hl];exact ok.n h3) (fun w hw=>?_) ⟨z,setW_in _ _ _,hz⟩
   rcases setW_mem hw with rfl|h
   ·exact .inr hz
   ·exact .inl (opt_num ok h1 w h)
theorem noNum_dash:NoNum (Str.ofString "-"):=⟨by decide,by decide +kernel,by decide +kernel⟩
theorem bad_dash {x:Tl}(ok:TlOk x) (h:x.1=1):BadW (Str.ofString "slice" :: Str.ofString "-" :: (wordsT x).drop 2):=by
 obtain ⟨a,r,hr,r3,_⟩:=slice_r ok h
 show BadW (Str.ofString "slice" :: Str.ofString "-" :: (wdM x.1::x.2.map optT).drop 2)
 rw [hr]
 exact .axis _ r r3 noNum_dash
theorem bad_less {x:Tl}(ok:TlOk x) (h3:x.1 ≠ 3) (h:1≤x.2.length):BadW ((wordsT x).take x.2.length):=by
 obtain ⟨n,hn⟩:∃ n,x.2.length=n+1:=⟨x.2.length - 1,by omega⟩
 have h8:=ok.m
 rw [hn]
 show BadW (wdM x.1::(x.2.map optT).take n)
 refine .many x.1 _ (by rw [List.length_take,List.length_map];omega) ok.k h3 ?_
 rw [List.length_take,List.length_map,←ok.n h3]
 omega
theorem bad_more {x:Tl}(ok:TlOk x) (n:Nat) (z:Str) (h:if x.1=3 then n=9 else n=1):BadW (wordsT x++List.replicate n z):=by
 have h8:=ok.m
 show BadW (wdM x.1::(x.2.map optT++List.replicate n z))
 by_cases h3:x.1=3
 ·rw [if_pos h3] at h
  have hw:wdM x.1=Str.ofString "turn":=by rw [h3];rfl
  rw [hw]
  exact .long _ (by rw [List.length_append,List.length_replicate];omega) (by rw [List.length_append,List.length_replicate,List.length_map];omega)
 ·rw [if_neg h3] at h
  exact .many x.1 _ (by rw [List.length_append,List.length_replicate,List.length_map];omega) ok.k h3 (by rw [List.length_append,List.length_replicate,List.length_map,←ok.n h3];omega)
theorem bad_first {x:Tl}(ok:TlOk x){z:Str}(h1:¬ z=Str.ofString "turn") (h2:valV (keyed mvL) (.inr z)=none):BadW (z::(wordsT x).drop 1):=by
 have h8:=ok.m
 exact .word z _ (by show (x.2.map optT).length≤40;rw [List.length_map];omega) h1 h2
theorem cn_zero:∀ {i:Nat},i < 9->i ≠ 3->cnM i=0->i=0
 | 0,_,_,_=>rfl
 | 1,_,_,h=>by cases h
 | 2,_,_,h=>by cases h
 | 3,_,h,_=>absurd rfl h
 | 4,_,_,h=>by cases h
 | 5,_,_,h=>by cases h
 | 6,_,_,h=>by cases h
 | 7,_,_,h=>by cases h
 | 8,_,_,h=>by cases h
 | n+9,h,_,_=>absurd h (by omega)
theorem bad_one {x:Tl}(ok:TlOk x) (h:x.2.length=0){z:Str}(hz:NumW z):BadW (wordsT x++[z]++List.replicate (if x.1=3 then 1 else 0) (Str.ofString "x")):=by
 have hx:x.2=[]:=List.eq_nil_of_length_eq_zero h
 show BadW (wdM x.1::(x.2.map optT++[z]++List.replicate (if x.1=3 then 1 else 0) (Str.ofString "x")))
 rw [hx]
 by_cases h3:x.1=3
 ·have hw:wdM x.1=Str.ofString "turn":=by rw [h3];rfl
  have nx:NoNum (Str.ofString "x"):=⟨by decide,by decide +kernel,by decide +kernel⟩
  rw [hw,if_pos h3]
  refine .turn [z,Str.ofString "x"] (by show 2≤8;decide) (fun w hw=>?_) ⟨Str.ofString "x",by simp,nx⟩
  simp only [List.mem_cons,List.not_mem_nil,or_false] at hw
  rcases hw with rfl|rfl
  ·exact hz
  ·exact .inr nx
 ·rw [if_neg h3]
  have h0:x.1=0:=cn_zero ok.k h3 (by rw [←ok.n h3,hx];rfl)
  have:=BadW.many 0 [z] (by show 1≤40;decide) (by decide) (by decide) (by show 1 ≠ 0;decide)
  rw [h0]
  exact this
theorem use_cat {l b:Addr}{xs ys:List V}{H:Hp}{Q:VK}(h:H l=some (.lst xs)) (h':H b=some (.lst ys)) (hl:xs.length+ys.length≤sizeLine) (q:newK (.lst (xs++ys)) H Q):kOp' nCat (.ref l) Q (.ref b) H:=by
 rw [m_kOp',m_nCat,lstAt,h]
 show optK (lstAt H b) (kNC2 xs H Q)
 rw [lstAt,h']
 exact ⟨hl,q⟩
theorem cut_last {xs:List V}{n:Nat}(h:xs.length=n+1):cutV xs none (some (-1))=xs.take n:=by
 unfold cutV
 rw [HT.sIx_none,List.drop_zero,Nat.sub_zero]
 congr 1
 show (if (-1:Int) < 0 then ((-1:Int)+(xs.length:Int)).toNat else min (-1:Int).toNat xs.length)=n
 rw [if_pos (by decide),h]
 omega
def NoThen (ws:List Str):Prop:=∀ w∈ws,¬ w=Str.ofString "then"
abbrev B_spSpo  (l:Addr) (c:Int) (H:Hp) (Q:VK) (E:XK):Prop:=∃ x:Tl,H l=some (.lst ((wordsT x).map V.str))∧TlOk x∧0≤c∧∀ (q:Addr) (ws:List Str) (H':Hp),Ext H H'->H' q=some (.lst (ws.map V.str))->BadW ws->NoThen ws->ws.length≤20->Q (.ref q) H'
def spSpo  : Sp:=fun vs H Q E=>∃ (l:Addr) (c:Int),vs=[.ref l,.int c]∧(B_spSpo  l c H Q E)
theorem c_spSpo  (l:Addr) (c:Int) (H:Hp) (Q:VK) (E:XK):spSpo  [.ref l,.int c] H Q E=(B_spSpo  l c H Q E):=spx2 (f:=fun (l:Addr) (c:Int)=>[.ref l,.int c]) (fun _ _ _ _ h=>by cases h;exact ⟨rfl,rfl⟩) l c
theorem l_spSpo  {vs:List V}{H:Hp}{Q:VK}{E:XK}(h:spSpo  vs H Q E):vs.length=2:=spl2 h fun _ _=>rfl
theorem ok__law_spoilt (T:Tx K mg t):FnOk P t.w K mg base CX0 2 t.a__law_spoilt t.d__law_spoilt ["_law_words_here", "_law_cell"] spSpo:=by
 have G__law_first:=ok__law_first (P:=P) (base:=base) T
 have G__law_number:=ok__law_number (P:=P) (base:=base) T
 refine T.F__law_spoilt.ok c__law_spoilt (fun vs H Q E h=>l_spSpo h) (fun cdv A outer s H vs Q E hr h=>?_)
 ·obtain ⟨l,c,rfl,x,hl,ok,c0,k⟩:=h
  refine ⟨_,(@pss_cons _ _ _ _ _ (@ps_set _ _ (2) _ _ _ _ c__law_spoilt.nd rfl (Or.inl rfl) (@pe_op _ _ _ _ _ _ _ _ on_mod (@pvN _ 1 _ _ (by rfl) (by trivial) (by decide) (by decide)) (@pe_int _ _ _ _)) (by rfl) (by trivial)) (@pss_cons _ _ _ _ _ (@ps_set _ _ (3) _ _ _ _ c__law_spoilt.nd rfl (Or.inl rfl) (@pe_op _ _ _ _ _ _ _ _ on_fdiv (@pvN _ 1 _ _ (by rfl) (by trivial) (by decide) (by decide)) (@pe_int _ _ _ _)) (by rfl) (by trivial)) (@pss_cons _ _ _ _ _ (@ps_if _ _ _ _ _ _ _ _ (@pt_cmpRN _ _ _ _ _ _ _ _ (op_qEq hr.units) (@pvN _ 2 _ _ (by rfl) (by trivial) (by decide) (by decide)) (@pe_int _ _ _ _) (nomark _)) (@pss_one _ _ _ (@ps_ret _ _ _ _ (@pe_op _ _ _ _ _ _ _ _ op_nCat (@pe_qLst _ _ _ _ (@pa_c _ _ _ _ _ (@pe_call _ _ _ _ _ _ _ _ _ _ _ _ _ _ _ _ G__law_first (hr.mono (by decide)) (by rfl) T.m__law_first T.F__law_first.kp T.b__law_first .nil pass0 (@pa_c _ _ _ _ _ (@pvN _ 3 _ _ (by rfl) (by trivial) (by decide) (by decide)) (@pa_nil _) (by rfl)) (by decide) (by rfl) (by rfl)) (@pa_nil _) (by rfl))) (@pe_slice _ _ _ _ _ _ _ _ _ _ sl_n (@pvN _ 0 _ _ (by rfl) (by trivial) (by decide) (by decide)) (@po_some _ _ _ (@pe_int _ _ _ _)) (@po_none _))))) (@pss_nil _)) (@pss_cons _ _ _ _ _ (@ps_if _ _ _ _ _ _ _ _ (@pt_cmpRN _ _ _ _ _ _ _ _ (op_qEq hr.units) (@pe_callB _ _ _ _ _ _ _ ("len") _ call_qLen (by rfl) T.z_len (by decide +kernel) (@pa_c _ _ _ _ _ (@pvN _ 0 _ _ (by rfl) (by trivial) (by decide) (by decide)) (@pa_nil _) (by rfl)) (by decide) (by decide) (by rfl) (by rfl)) (@pe_int _ _ _ _) (nomark _)) (@pss_one _ _ _ (@ps_ret _ _ _ _ (@pe_op _ _ _ _ _ _ _ _ op_nCat (@pe_op _ _ _ _ _ _ _ _ op_nCat (@pvN _ 0 _ _ (by rfl) (by trivial) (by decide) (by decide)) (@pe_qLst _ _ _ _ (@pa_c _ _ _ _ _ (@pe_ix _ _ _ _ _ _ _ ix_q (@pe_qLst _ _ _ _ (@pa_c _ _ _ _ _ (@pe_str _ _ _ _) (@pa_c _ _ _ _ _ (@pe_str _ _ _ _) (@pa_c _ _ _ _ _ (@pe_str _ _ _ _) (@pa_nil _) (by rfl)) (by rfl)) (by rfl))) (@pe_op _ _ _ _ _ _ _ _ on_mod (@pvN _ 3 _ _ (by rfl) (by trivial) (by decide) (by decide)) (@pe_int _ _ _ _)) (fun _ _=>rfl)) (@pa_nil _) (by rfl)))) (@pe_op _ _ _ _ _ _ _ _ op_nRep (@pe_qLst _ _ _ _ (@pa_c _ _ _ _ _ (@pe_str _ _ _ _) (@pa_nil _) (by rfl))) (@pe_callTy _ _ _ _ _ _ _ _ _ call_qInt (by rfl) T.z_int (by decide +kernel) (@pa_c _ _ _ _ _ (@pe_cmpR _ _ _ _ _ _ _ _ (op_qEq hr.units) (@pe_ix _ _ _ _ _ _ _ ix_q (@pvN _ 0 _ _ (by rfl) (by trivial) (by decide) (by decide)) (@pe_int _ _ _ _) (fun _ _=>rfl)) (@pe_str _ _ _ _) (nomark _)) (@pa_nil _) (by rfl)) (by decide) (by decide) (by rfl) (by rfl)))))) (@pss_nil _)) (@pss_cons _ _ _ _ _ (@ps_set _ _ (4) _ _ _ _ c__law_spoilt.nd rfl (Or.inl rfl) (@pe_op _ _ _ _ _ _ _ _ on_add (@pe_int _ _ _ _) (@pe_op _ _ _ _ _ _ _ _ on_mod (@pvN _ 3 _ _ (by rfl) (by trivial) (by decide) (by decide)) (@pe_op _ _ _ _ _ _ _ _ on_sub (@pe_callB _ _ _ _ _ _ _ ("len") _ call_qLen (by rfl) T.z_len (by decide +kernel) (@pa_c _ _ _ _ _ (@pvN _ 0 _ _ (by rfl) (by trivial) (by decide) (by decide)) (@pa_nil _) (by rfl)) (by decide) (by decide) (by rfl) (by rfl)) (@pe_int _ _ _ _)))) (by rfl) (by trivial)) (@pss_cons _ _ _ _ _ (@ps_if _ _ _ _ _ _ _ _ (@pt_cmpRN _ _ _ _ _ _ _ _ (op_qEq hr.units) (@pvN _ 2 _ _ (by rfl) (by trivial) (by decide) (by decide)) (@pe_int _ _ _ _) (nomark _)) (@pss_one _ _ _ (@ps_ret _ _ _ _ (@pe_op _ _ _ _ _ _ _ _ op_nCat (@pe_op _ _ _ _ _ _ _ _ op_nCat (@pe_slice _ _ _ _ _ _ _ _ _ _ sl_n (@pvN _ 0 _ _ (by rfl) (by trivial) (by decide) (by decide)) (@po_none _) (@po_some _ _ _ (@pvN _ 4 _ _ (by rfl) (by trivial) (by decide) (by decide)))) (@pe_qLst _ _ _ _ (@pa_c _ _ _ _ _ (@pe_call _ _ _ _ _ _ _ _ _ _ _ _ _ _ _ _ G__law_number (hr.mono (by decide)) (by rfl) T.m__law_number T.F__law_number.kp T.b__law_number .nil pass0 (@pa_c _ _ _ _ _ (@pe_op _ _ _ _ _ _ _ _ on_fdiv (@pvN _ 3 _ _ (by rfl) (by trivial) (by decide) (by decide)) (@pe_int _ _ _ _)) (@pa_nil _) (by rfl)) (by decide) (by rfl) (by rfl)) (@pa_nil _) (by rfl)))) (@pe_slice _ _ _ _ _ _ _ _ _ _ sl_n (@pvN _ 0 _ _ (by rfl) (by trivial) (by decide) (by decide)) (@po_some _ _ _ (@pe_op _ _ _ _ _ _ _ _ on_add (@pvN _ 4 _ _ (by rfl) (by trivial) (by decide) (by decide)) (@pe_int _ _ _ _))) (@po_none _))))) (@pss_nil _)) (@pss_cons _ _ _ _ _ (@ps_if _ _ _ _ _ _ _ _ (@pt_cmpRN _ _ _ _ _ _ _ _ (op_qEq hr.units) (@pvN _ 2 _ _ (by rfl) (by trivial) (by decide) (by decide)) (@pe_int _ _ _ _) (nomark _)) (@pss_one _ _ _ (@ps_ret _ _ _ _ (@pe_op _ _ _ _ _ _ _ _ op_nCat (@pvN _ 0 _ _ (by rfl) (by trivial) (by decide) (by decide)) (@pe_op _ _ _ _ _ _ _ _ op_nRep (@pe_qLst _ _ _ _ (@pa_c _ _ _ _ _ (@pe_str _ _ _ _) (@pa_nil _) (by rfl))) (@pe_ifExp _ _ _ _ _ _ _ _ (@pt_cmpRN _ _ _ _ _ _ _ _ (op_qEq hr.units) (@pe_ix _ _ _ _ _ _ _ ix_q (@pvN _ 0 _ _ (by rfl) (by trivial) (by decide) (by decide)) (@pe_int _ _ _ _) (fun _ _=>rfl)) (@pe_str _ _ _ _) (nomark _)) (@pe_int _ _ _ _) (@pe_int _ _ _ _)))))) (@pss_nil _)) (@pss_cons _ _ _ _ _ (@ps_if _ _ _ _ _ _ _ _ (PW.pt (@pw_and _ _ _ _ _ _ _ (@pt_cmpRN _ _ _ _ _ _ _ _ (op_qEq hr.units) (@pvN _ 2 _ _ (by rfl) (by trivial) (by decide) (by decide)) (@pe_int _ _ _ _) (nomark _)) (@pw_and1 _ _ _ _ (@pt_cmpRN _ _ _ _ _ _ _ _ (op_qNe hr.units) (@pe_ix _ _ _ _ _ _ _ ix_q (@pvN _ 0 _ _ (by rfl) (by trivial) (by decide) (by decide)) (@pe_int _ _ _ _) (fun _ _=>rfl)) (@pe_str _ _ _ _) (nomark _))))) (@pss_one _ _ _ (@ps_ret _ _ _ _ (@pe_slice _ _ _ _ _ _ _ _ _ _ sl_n (@pvN _ 0 _ _ (by rfl) (by trivial) (by decide) (by decide)) (@po_none _) (@po_some _ _ _ (@pe_un _ _ _ _ _ _ un_negN (@pe_int _ _ _ _)))))) (@pss_nil _)) (@pss_cons _ _ _ _ _ (@ps_if _ _ _ _ _ _ _ _ (@pt_cmpRN _ _ _ _ _ _ _ _ (op_qEq hr.units) (@pe_ix _ _ _ _ _ _ _ ix_q (@pvN _ 0 _ _ (by rfl) (by trivial) (by decide) (by decide)) (@pe_int _ _ _ _) (fun _ _=>rfl)) (@pe_str _ _ _ _) (nomark _)) (@pss_one _ _ _ (@ps_ret _ _ _ _ (@pe_op _ _ _ _ _ _ _ _ op_nCat (@pe_qLst _ _ _ _ (@pa_c _ _ _ _ _ (@pe_ix _ _ _ _ _ _ _ ix_q (@pvN _ 0 _ _ (by rfl) (by trivial) (by decide) (by decide)) (@pe_int _ _ _ _) (fun _ _=>rfl)) (@pa_c _ _ _ _ _ (@pe_str _ _ _ _) (@pa_nil _) (by rfl)) (by rfl))) (@pe_slice _ _ _ _ _ _ _ _ _ _ sl_n (@pvN _ 0 _ _ (by rfl) (by trivial) (by decide) (by decide)) (@po_some _ _ _ (@pe_int _ _ _ _)) (@po_none _))))) (@pss_nil _)) (@pss_one _ _ _ (@ps_ret _ _ _ _ (@pe_op _ _ _ _ _ _ _ _ op_nCat (@pe_op _ _ _ _ _ _ _ _ op_nCat (@pe_slice _ _ _ _ _ _ _ _ _ _ sl_n (@pvN _ 0 _ _ (by rfl) (by trivial) (by decide) (by decide)) (@po_none _) (@po_some _ _ _ (@pvN _ 4 _ _ (by rfl) (by trivial) (by decide) (by decide)))) (@pe_qLst _ _ _ _ (@pa_c _ _ _ _ _ (@pe_str _ _ _ _) (@pa_nil _) (by rfl)))) (@pe_slice _ _ _ _ _ _ _ _ _ _ sl_n (@pvN _ 0 _ _ (by rfl) (by trivial) (by decide) (by decide)) (@po_some _ _ _ (@pe_op _ _ _ _ _ _ _ _ on_add (@pvN _ 4 _ _ (by rfl) (by trivial) (by decide) (by decide)) (@pe_int _ _ _ _))) (@po_none _)))))))))))))),?_⟩
  rw [show start ["_law_words_here", "_law_cell", "_law_way", "_law_at", "_law_place"] [.ref l,.int c]=[some (.ref l),some (.int c),none,none,none] from rfl]
  clear G__law_first G__law_number
  have h9:=ok.k
  have h8:=ok.m
  have nt:NoThen (wordsT x):=fun w hw=>words_then ok w hw
  have wl:(wordsT x).length=x.2.length+1:=by show (x.2.map optT).length+1=_;rw [List.length_map]
  have c5:0≤c / 5:=Int.ediv_nonneg c0 (by decide)
  have m5:=Int.emod_nonneg c (show (5:Int) ≠ 0 by decide)
  have hat0:atI ((wordsT x).map V.str) 0=some (.str (wdM x.1)):=atI_nat (j:=0) rfl
  replace k:=fun (_:Unit)=>k
  replace ok:=fun (_:Unit)=>ok
  replace nt:=fun (_:Unit)=>nt
  replace wl:=fun (_:Unit)=>wl
  have hsz:((wordsT x).map V.str).length≤sizeLine:=len5000 (by rw [List.length_map];have:=wl ();omega)
  by_cases w0:c % 5=0
  ·simp! only [and_true]
   rw [c_spLFst]
   intro z H1 e1 z1 z2 z3
   simp! only [and_true]
   intro p1 H2 _ e2 h2
   have hl2:=(e1.trans e2).at hl
   simp! only [and_true]
   intro p3 H3 _ e3 h3
   rw [cut_some _ 1 (by decide),←List.map_drop] at h3
   have h2_3:=e3.at h2
   refine use_cat h2_3 h3 (len5000 (by simp [wl ()];omega)) ?_
   intro p4 H4 _ e4 h4
   refine k () p4 (z::(wordsT x).drop 1) H4 (e1.trans (e2.trans (e3.trans e4))) h4 (bad_first (ok ()) z1 z2) (fun w hw=>?_) (by simp [wl ()];omega)
   rcases List.mem_cons.mp hw with rfl|hw
   ·exact z3
   ·exact nt () w (List.mem_of_mem_drop hw)
  ·by_cases l1:x.2.length=0
   ·have hw1:((wordsT x).length:Int)=1:=by have:=wl ();omega
    have m3:=Int.emod_nonneg (c / 5) (show (3:Int) ≠ 0 by decide)
    have m3':=Int.emod_lt_of_pos (c / 5) (show (0:Int) < 3 by decide)
    have go:∀ (z:Str) (n:Nat) (H':Hp) (q:Addr),Ext H H'->NumW z->(¬ z=Str.ofString "then")->n=(if x.1=3 then 1 else 0)->H' q=some (.lst (((wordsT x).map V.str++[.str z])++List.replicate n (.str (Str.ofString "x"))))->Q (.ref q) H':=fun z n H' q e hz hzt hn hq=>by
     subst hn
     refine k () q (wordsT x++[z]++List.replicate (if x.1=3 then 1 else 0) (Str.ofString "x")) H' e (by rw [hq];simp) (bad_one (ok ()) l1 hz) (fun w hw=>?_) (by rw [List.length_append,List.length_append,List.length_replicate];have:=wl ();split<;>simp<;>omega)
     rcases List.mem_append.mp hw with hw|hw
     ·rcases List.mem_append.mp hw with hw|hw
      ·exact nt () w hw
      ·rw [List.mem_singleton.mp hw];exact hzt
     ·rw [List.eq_of_mem_replicate hw];decide
    replace go:=fun (_:Unit)=>go
    simp! only [and_true]
    intro p1 H1 _ e1 h1
    simp! only [and_true]
    refine optK_pick2 (fun v=>∃ z,v=.str z∧NumW z∧¬ z=Str.ofString "then") m3 (by simpa using m3') (fun v hv=>?_) ?_
    ·simp only [List.mem_cons,List.not_mem_nil,or_false] at hv
     rcases hv with rfl|rfl|rfl
     ·exact ⟨_,rfl,.inl ⟨7,by decide +kernel,by decide⟩,by decide⟩
     ·exact ⟨_,rfl,.inr noNum_dash,by decide⟩
     ·exact ⟨_,rfl,.inr ⟨by decide,by decide +kernel,by decide +kernel⟩,by decide⟩
    rintro _ ⟨z,rfl,hz,hzt⟩
    clear h1
    simp! only [and_true]
    intro p2 H2 _ e2 h2
    refine use_cat ((e1.trans e2).at hl) h2 (len5000 (by rw [List.length_map];show (wordsT x).length+1≤5000;have:=wl ();omega)) ?_
    intro p3 H3 _ e3 h3
    have hl3:=(e1.trans (e2.trans e3)).at hl
    clear h2
    simp! only [and_true]
    intro p4 H4 _ e4 h4
    have hl4:=e4.at hl3
    have h3_4:=e4.at h3
    clear hl3 h3
    by_cases x3:x.1=3
    ·have hw:wdM x.1=Str.ofString "turn":=by rw [x3];rfl
     replace x3:=fun (_:Unit)=>x3
     simp! only [and_true]
     intro p5 H5 _ e5 h5
     refine use_cat (e5.at h3_4) h5 (len5000 (by rw [List.length_append,List.length_map];show (wordsT x).length+1+1≤5000;have:=wl ();omega)) ?_
     intro p6 H6 _ e6 h6
     exact go () z 1 H6 p6 (e1.trans (e2.trans (e3.trans (e4.trans (e5.trans e6))))) hz hzt (by rw [if_pos (x3 ())]) h6
    ·have hw:=wd_turn h9 x3
     simp! only [and_true]
     intro p5 H5 _ e5 h5
     refine use_cat (e5.at h3_4) h5 (len5000 (by rw [List.length_append,List.length_map];show (wordsT x).length+1+0≤5000;have:=wl ();omega)) ?_
     intro p6 H6 _ e6 h6
     exact go () z 0 H6 p6 (e1.trans (e2.trans (e3.trans (e4.trans (e5.trans e6))))) hz hzt (by rw [if_neg x3]) h6
   ·have hw1:¬ ((wordsT x).length:Int)=1:=by have:=wl ();omega
    have md:0 < ((wordsT x).length:Int) - 1:=by have:=wl ();omega
    have pl0:=Int.emod_nonneg (c / 5) (show (((wordsT x).length:Int) - 1) ≠ 0 by omega)
    have pl1:=Int.emod_lt_of_pos (c / 5) md
    obtain ⟨p,hp⟩:=Int.eq_ofNat_of_zero_le pl0
    rw [hp] at pl1
    have hpx:p < x.2.length:=by have:=wl ();omega
    have cl8:0≤c / 5 / 8:=Int.ediv_nonneg c5 (by decide)
    have hc1:cutV ((wordsT x).map V.str) none (some (1+c / 5 % (((wordsT x).length:Int) - 1)))=((wordsT x).take (p+1)).map V.str:=by
     rw [hp,cut_to _ _ (by omega),show (1+(p:Int)).toNat=p+1 by omega,List.map_take]
    have hc2:cutV ((wordsT x).map V.str) (some (1+c / 5 % (((wordsT x).length:Int) - 1)+1)) none=((wordsT x).drop (p+2)).map V.str:=by
     rw [hp,cut_some _ _ (by omega),show (1+(p:Int)+1).toNat=p+2 by omega,List.map_drop]
    have set_len:∀ z,(setW (wordsT x) (p+1) z).length≤20:=fun z=>by rw [setW_len (by have:=wl ();omega)];have:=wl ();omega
    have go:∀ (z:Str) (H':Hp) (q:Addr),Ext H H'->NoNum z->(x.1=1->¬ z=Str.ofString "-")->(¬ z=Str.ofString "then")->H' q=some (.lst ((((wordsT x).take (p+1)).map V.str++[.str z])++((wordsT x).drop (p+2)).map V.str))->Q (.ref q) H':=fun z H' q e hz hd hzt hq=>by
     refine k () q (setW (wordsT x) (p+1) z) H' e (by rw [hq];unfold setW;simp) (bad_set (ok ()) hpx hz hd) (fun w hw=>?_) (set_len z)
     rcases setW_mem hw with rfl|h
     ·exact hzt
     ·exact nt () w h
    have l1':(((wordsT x).take (p+1)).map V.str).length+1≤5000:=by rw [List.length_map,List.length_take];have:=wl ();omega
    have l2':((((wordsT x).take (p+1)).map V.str).length+1)+(((wordsT x).drop (p+2)).map V.str).length≤5000:=by rw [List.length_map,List.length_take,List.length_map,List.length_drop];have:=wl ();omega
    replace hp:=fun (_:Unit)=>hp
    replace hc1:=fun (_:Unit)=>hc1
    replace hc2:=fun (_:Unit)=>hc2
    replace go:=fun (_:Unit)=>go
    replace l1':=fun (_:Unit)=>l1'
    replace l2':=fun (_:Unit)=>l2'
    clear pl1 pl0 set_len
    have pl0:=Int.emod_nonneg (c / 5) (show (((wordsT x).length:Int) - 1) ≠ 0 by omega)
    by_cases w1:c % 5=1
    ·simp! only [and_true]
     intro p1 H1 _ e1 h1
     rw [hc1 ()] at h1
     have hl1:=e1.at hl
     simp! only [and_true]
     rw [c_spLNum]
     intro z H2 e2 z1 z2 z3
     have hl2:=e2.at hl1
     have h1_2:=e2.at h1
     clear hl1 h1
     simp! only [and_true]
     intro p3 H3 _ e3 h3
     refine use_cat (e3.at h1_2) h3 (len5000 (l1' ())) ?_
     intro p4 H4 _ e4 h4
     have hl4:=(e3.trans e4).at hl2
     clear hl2 h1_2 h3
     simp! only [and_true]
     intro p5 H5 _ e5 h5
     rw [hc2 ()] at h5
     refine use_cat (e5.at h4) h5 (len5000 (by rw [List.length_append];exact l2' ())) ?_
     intro p6 H6 _ e6 h6
     exact go () z H6 p6 (e1.trans (e2.trans (e3.trans (e4.trans (e5.trans e6))))) z1 (fun _=>z2) z3 h6
    ·by_cases w2:c % 5=2
     ·have go2:∀ (n:Nat) (H':Hp) (q:Addr),Ext H H'->(if x.1=3 then n=9 else n=1)->H' q=some (.lst ((wordsT x).map V.str++List.replicate n (.str (Str.ofString "3"))))->Q (.ref q) H':=fun n H' q e hn hq=>by
       refine k () q (wordsT x++List.replicate n (Str.ofString "3")) H' e (by rw [hq];simp) (bad_more (ok ()) n _ hn) (fun w hw=>?_) (by rw [List.length_append,List.length_replicate];have:=wl ();split at hn<;>omega)
       rcases List.mem_append.mp hw with hw|hw
       ·exact nt () w hw
       ·rw [List.eq_of_mem_replicate hw];decide
      replace go2:=fun (_:Unit)=>go2
      by_cases x3:x.1=3
      ·have hw:wdM x.1=Str.ofString "turn":=by rw [x3];rfl
       replace x3:=fun (_:Unit)=>x3
       simp! only [and_true]
       intro p1 H1 _ e1 h1
       have hl1:=e1.at hl
       simp! only [and_true]
       intro p2 H2 _ e2 h2
       refine use_cat (e2.at hl1) h2 (len5000 (by rw [List.length_map];show (wordsT x).length+9≤5000;have:=wl ();omega)) ?_
       intro p3 H3 _ e3 h3
       exact go2 () 9 H3 p3 (e1.trans (e2.trans e3)) (by rw [if_pos (x3 ())]) h3
      ·have hw:=wd_turn h9 x3
       simp! only [and_true]
       intro p1 H1 _ e1 h1
       have hl1:=e1.at hl
       simp! only [and_true]
       intro p2 H2 _ e2 h2
       refine use_cat (e2.at hl1) h2 (len5000 (by rw [List.length_map];show (wordsT x).length+1≤5000;have:=wl ();omega)) ?_
       intro p3 H3 _ e3 h3
       exact go2 () 1 H3 p3 (e1.trans (e2.trans e3)) (by rw [if_neg x3]) h3
     ·by_cases w3:c % 5=3∧x.1 ≠ 3
      ·obtain ⟨w3,x3⟩:=w3
       have hw:=wd_turn h9 x3
       simp! only [and_true]
       intro p1 H1 _ e1 h1
       rw [cut_last (n:=x.2.length) (by rw [List.length_map];exact wl ()),←List.map_take] at h1
       exact k () p1 _ H1 e1 h1 (bad_less (ok ()) x3 (by omega)) (fun w hw=>nt () w (List.mem_of_mem_take hw)) (by rw [List.length_take];omega)
      ·by_cases x1:x.1=1
       ·have hw:=wd_turn h9 (show x.1 ≠ 3 by rw [x1];decide)
        have hws:wdM x.1=Str.ofString "slice":=by rw [x1];rfl
        have w3':¬ c % 5=3:=fun z=>w3 ⟨z,by rw [x1];decide⟩
        replace x1:=fun (_:Unit)=>x1
        clear w3
        simp! only [and_true]
        intro p1 H1 _ e1 h1
        have hl1:=e1.at hl
        simp! only [and_true]
        intro p2 H2 _ e2 h2
        rw [cut_some _ 2 (by decide),←List.map_drop] at h2
        refine use_cat (e2.at h1) h2 (len5000 (by rw [List.length_map,List.length_drop];show 2+_≤5000;have:=wl ();omega)) ?_
        intro p3 H3 _ e3 h3
        refine k () p3 (Str.ofString "slice" :: Str.ofString "-" :: (wordsT x).drop 2) H3 (e1.trans (e2.trans e3)) (by rw [h3];rfl) (bad_dash (ok ()) (x1 ())) (fun w hw=>?_) (by rw [List.length_cons,List.length_cons,List.length_drop];have:=wl ();omega)
        rcases List.mem_cons.mp hw with rfl|hw
        ·decide
        ·rcases List.mem_cons.mp hw with rfl|hw
         ·decide
         ·exact nt () w (List.mem_of_mem_drop hw)
       ·have hws:=wd_slice h9 x1
        have w3t:c % 5=3->x.1=3:=fun z=>Classical.not_not.mp fun y=>w3 ⟨z,y⟩
        clear w3
        have fin:tRet (tOp nCat (tOp nCat (tSl nSl (tV 0) tNoPart (tPart (tV 4))) (qLst (tCons (tC (V.str (Str.ofString "-"))) tNil))) (tSl nSl (tV 0) (tPart (tOp (nI0 fun i j=>V.int (i+j)) (tV 4) (tC (V.int 1)))) tNoPart)) { nx:=fun x H'=>Q V.non H',rt:=Q } [some (V.ref l),some (V.int c),some (V.int (c % 5)),some (V.int (c / 5)),some (V.int (1+c / 5 % (((wordsT x).length:Int) - 1)))] H:=by
         simp! only [and_true]
         intro p1 H1 _ e1 h1
         rw [hc1 ()] at h1
         have hl1:=e1.at hl
         simp! only [and_true]
         intro p3 H3 _ e3 h3
         refine use_cat (e3.at h1) h3 (len5000 (l1' ())) ?_
         intro p4 H4 _ e4 h4
         have hl4:=(e3.trans e4).at hl1
         clear hl1 h1 h3
         simp! only [and_true]
         intro p5 H5 _ e5 h5
         rw [hc2 ()] at h5
         refine use_cat (e5.at h4) h5 (len5000 (by rw [List.length_append];exact l2' ())) ?_
         intro p6 H6 _ e6 h6
         exact go () _ H6 p6 (e1.trans (e3.trans (e4.trans (e5.trans e6)))) noNum_dash (fun h=>absurd h x1) (by decide) h6
        by_cases w3:c % 5=3
        ·have x3:=w3t w3
         have hw:wdM x.1=Str.ofString "turn":=by rw [x3];rfl
         clear x3 w3t
         rw [w3] at fin
         simp! only [-m_tRet]
        ·clear w3t
         simp! only [-m_tRet]
def PtA (H:Hp) (gs:List (List Str)) (ys:List V):Prop:=Al (fun g y=>∃ a,y=V.ref a∧H a=some (.lst (g.map V.str))) gs ys
theorem PtA.ext {H H':Hp}{gs:List (List Str)}{ys:List V}(h:PtA H gs ys) (e:Ext H H'):PtA H' gs ys:=h.imp fun _ _ ⟨a,h1,h2⟩=>⟨a,h1,e.at h2⟩
theorem cut_tl (z:V) (zr:List V):cutV (z::zr) (some 1) none=zr:=by
 unfold cutV
 rw [HT.sIx_none,show (1:Int)=((1:Nat):Int) from rfl,HT.sIx_nat,List.length_cons,show min 1 (zr.length+1)=1 by omega,Nat.add_sub_cancel]
 exact List.take_length
abbrev B_spJoi  (l:Addr) (H:Hp) (Q:VK) (E:XK):Prop:=∃ (gs:List (List Str)) (ys:List V),H l=some (.lst ys)∧PtA H gs ys∧gs ≠ []∧gs.length≤60∧(∀ g∈gs,g.length≤40)∧∀ (q:Addr) (H':Hp),Ext H H'->H q=none->H' q=some (.lst ((joinW gs).map V.str))->Q (.ref q) H'
def spJoi  : Sp:=fun vs H Q E=>∃ (l:Addr),vs=[.ref l]∧(B_spJoi  l H Q E)
theorem c_spJoi  (l:Addr) (H:Hp) (Q:VK) (E:XK):spJoi  [.ref l] H Q E=(B_spJoi  l H Q E):=spx1 (f:=fun (l:Addr)=>[.ref l]) (fun _ _ h=>by cases h;exact rfl) l
theorem l_spJoi  {vs:List V}{H:Hp}{Q:VK}{E:XK}(h:spJoi  vs H Q E):vs.length=1:=spl1 h fun _=>rfl
theorem ok__law_joined (T:Tx K mg t):FnOk P t.w K mg base CX0 1 t.a__law_joined t.d__law_joined ["_law_parts"] spJoi:=by
 refine T.F__law_joined.ok c__law_joined (fun vs H Q E h=>l_spJoi h) (fun cdv A outer s H vs Q E hr h=>?_)
 ·obtain ⟨l,rfl,gs,ys,hl,pa,hne,h60,h40,k⟩:=h
  refine ⟨_,(@pss_cons _ _ _ _ _ (@ps_set _ _ (1) _ _ _ _ c__law_joined.nd rfl (Or.inl rfl) (@pe_callTy _ _ _ _ _ _ _ _ _ call_nList (by rfl) T.z_list (by decide +kernel) (@pa_c _ _ _ _ _ (@pe_ix _ _ _ _ _ _ _ ix_q (@pvN _ 0 _ _ (by rfl) (by trivial) (by decide) (by decide)) (@pe_int _ _ _ _) (fun _ _=>rfl)) (@pa_nil _) (by rfl)) (by decide) (by decide) (by rfl) (by rfl)) (by rfl) (by trivial)) (@pss_cons _ _ _ _ _ (@ps_for _ _ _ _ _ _ _ _ PassesOwn.never rfl (@pi_seq _ _ _ _ (@pe_slice _ _ _ _ _ _ _ _ _ _ sl_n (@pvN _ 0 _ _ (by rfl) (by trivial) (by decide) (by decide)) (@po_some _ _ _ (@pe_int _ _ _ _)) (@po_none _))) (@pg_name _ _ (2) _ c__law_joined.nd rfl (Or.inl rfl) (by trivial)) (@pss_one _ _ _ (@ps_set _ _ (1) _ _ _ _ c__law_joined.nd rfl (Or.inl rfl) (@pe_op _ _ _ _ _ _ _ _ op_nCat (@pe_op _ _ _ _ _ _ _ _ op_nCat (@pvN _ 1 _ _ (by rfl) (by trivial) (by decide) (by decide)) (@pe_qLst _ _ _ _ (@pa_c _ _ _ _ _ (@pe_str _ _ _ _) (@pa_nil _) (by rfl)))) (@pvN _ 2 _ _ (by rfl) (by trivial) (by decide) (by decide))) (by rfl) (by trivial))) (by intros;rfl)) (@pss_one _ _ _ (@ps_ret _ _ _ _ (@pvN _ 1 _ _ (by rfl) (by trivial) (by decide) (by decide)))))),?_⟩
  rw [show start ["_law_parts", "_law_words_here", "_law_part_here"] [.ref l]=[some (.ref l),none,none] from rfl]
  obtain ⟨g0,gr,rfl⟩:∃ g0 gr,gs=g0::gr:=by
   cases gs with
   | nil=>exact absurd rfl hne
   | cons a b=>exact ⟨a,b,rfl⟩
  obtain ⟨y0,yr,rfl⟩:∃ z0 zr,ys=z0::zr:=by
   cases ys with
   | nil=>have:=pa.1;simp at this
   | cons a b=>exact ⟨a,b,rfl⟩
  obtain ⟨a0,rfl,ha0⟩:=pa.2 0 g0 y0 rfl rfl
  have hyr:yr.length=gr.length:=by have:=pa.1;simpa using this
  have par:PtA H gr yr:=⟨hyr,fun i z y a b=>pa.2 (i+1) z y (by simpa using a) (by simpa using b)⟩
  have hg0:=h40 g0 List.mem_cons_self
  have hr60:gr.length≤59:=by simpa using h60
  have hj:∀ i,(joinW (g0::gr.take i)).length≤2460:=fun i=>by
   have h1:=joinW_len (g0::gr.take i) 40 fun g hg=>h40 g (by
    rcases List.mem_cons.mp hg with h|h
    ·rw [h];exact List.mem_cons_self
    ·exact List.mem_cons_of_mem _ (List.mem_of_mem_take h))
   rw [List.length_cons,List.length_take] at h1
   have:(min i gr.length+1) * (40+1)≤60 * 41:=Nat.mul_le_mul (by omega) (by omega)
   omega
  have hj0:joinW (g0::gr.take 0)=g0:=rfl
  replace k:=fun (_:Unit)=>k
  replace h40:=fun (_:Unit)=>h40
  replace hyr:=fun (_:Unit)=>hyr
  replace par:=fun (_:Unit)=>par
  replace hj:=fun (_:Unit)=>hj
  replace hj0:=fun (_:Unit)=>hj0
  clear pa hne h60
  have hsz0:g0.length≤sizeLine:=len5000 (by omega)
  simp! only [and_true]
  intro q H1 hq e1 h1
  have hl1:=e1.at hl
  simp! only [and_true]
  intro l2 H2 _ e2 h2
  have h2':H2 l2=some (.lst yr):=h2.trans (congrArg (fun z=>some (HO.lst z)) (cut_tl _ yr))
  have h1_2:=e2.at h1
  clear h2
  simp! only [and_true]
  refine for_lst (xs:=yr) (fun i σ H'=>∃ (q':Addr) (v2:Option V),σ=[some (.ref l),some (.ref q'),v2]∧Ext H2 H'∧H q'=none∧H' q'=some (.lst ((joinW (g0::gr.take i)).map V.str))) ⟨q,none,rfl,Ext.refl _,hq,by rw [hj0 ()];exact h1_2⟩ (fun i σ H' _ ⟨_,_,_,e,_⟩=>e.at h2') ?_ ?_
  ·rintro i y _ H3 hi ⟨q',v2,rfl,e3,hq',hj3⟩
   have hi':i < yr.length:=(List.getElem?_eq_some_iff.mp hi).1
   have hix:i < gr.length:=by have:=hyr ();omega
   have hx:gr[i]? = some gr[i]:=List.getElem?_eq_getElem hix
   obtain ⟨a,rfl,ha⟩:=((par ()).ext (e1.trans (e2.trans e3))).2 i _ y hx hi
   have hg:=h40 () _ (List.mem_cons_of_mem _ (List.getElem_mem hix))
   have htk:gr.take (i+1)=gr.take i++[gr[i]]:=by rw [List.take_succ,hx];rfl
   generalize gr[i]=g at ha hg htk hx
   have hjw:joinW (g0::gr.take (i+1))=joinW (g0::gr.take i)++[Str.ofString "then"]++g:=by
    rw [htk,←List.cons_append]
    exact joinW_snoc _ _ (by simp)
   have hlen:=hj () i
   replace hjw:=fun (_:Unit)=>hjw
   clear htk hx h1_2 hl1
   generalize joinW (g0::gr.take i)=ws at hj3 hjw hlen
   simp! only [↓m_kBody]
   intro p5 H5 _ e5 h5
   refine use_cat (e5.at hj3) h5 (len5000 (by rw [List.length_map];show ws.length+1≤5000;omega)) ?_
   intro q6 H6 hq6 e6 h6
   have ha6:=(e5.trans e6).at ha
   clear h5 hj3 ha
   simp! only [and_true]
   refine ⟨len5000 (by rw [List.length_append,List.length_map];show ws.length+1+_≤5000;omega),?_⟩
   intro q8 H8 hq8 e8 h8
   have fr:H q8=none:=(e1.trans (e2.trans (e3.trans (e5.trans e6)))).free hq8
   clear h6 ha6
   simp! only [and_true]
   refine ⟨_,_,rfl,e3.trans (e5.trans (e6.trans e8)),fr,?_⟩
   rw [h8,hjw (),List.map_append,List.map_append]
   rfl
  ·rintro _ H3 ⟨q',v2,rfl,e3,hq',hj3⟩
   rw [hyr (),List.take_length] at hj3
   have k2:=k () q' H3 (e1.trans (e2.trans e3)) hq' hj3
   clear k hj3
   simp! only [and_true]
theorem sum_le (B:Nat):∀ ws:List Str,(∀ w∈ws,w.length≤B)->(ws.map (·.length)).sum≤ws.length * B
 | [],_=>Nat.zero_le _
 | w::ws,h=>by
  have h1:=h w List.mem_cons_self
  have h2:=sum_le B ws fun x hx=>h x (List.mem_cons_of_mem _ hx)
  rw [List.map_cons,List.sum_cons,List.length_cons,Nat.succ_mul]
  show w.length+_≤_
  omega
theorem wd_len:∀ {i:Nat},i < 9->(wdM i).length≤22
 | 0,_=>by decide
 | 1,_=>by decide
 | 2,_=>by decide
 | 3,_=>by decide
 | 4,_=>by decide
 | 5,_=>by decide
 | 6,_=>by decide
 | 7,_=>by decide
 | 8,_=>by decide
 | n+9,h=>absurd h (by omega)
theorem words_w {x:Tl}(ok:TlOk x):∀ w∈wordsT x,w.length≤22:=fun w hw=>by
 rcases List.mem_cons.mp hw with rfl|hw
 ·exact wd_len ok.k
 ·obtain ⟨o,ho,rfl⟩:=List.mem_map.mp hw
  cases o with
  | none=>show (Str.ofString "-").length≤22;decide
  | some i=>exact (int_txt (ok.b _ ho i rfl)).2
theorem al_ex {α β:Type}{R:β->V->Prop}{O:β->Prop}:∀ {zs:List α}{ys:List V},Al (fun _ y=>∃ x,R x y∧O x) zs ys->∃ xs:List β,xs.length=zs.length∧Al R xs ys∧∀ x∈xs,O x
 | [],ys,h=>⟨[],rfl,⟨h.1,fun i x y a b=>by simp at a⟩,fun _ h=>absurd h List.not_mem_nil⟩
 | z::zs,[],h=>by have:=h.1;simp at this
 | z::zs,y::ys,h=>by
  obtain ⟨x,hx,ox⟩:=h.2 0 z y rfl rfl
  obtain ⟨xs,h1,h2,h3⟩:=al_ex (R:=R) (O:=O) (zs:=zs) (ys:=ys) ⟨by have:=h.1;simpa using this,fun i z y a b=>h.2 (i+1) z y (by simpa using a) (by simpa using b)⟩
  refine ⟨x::xs,by rw [List.length_cons,h1,List.length_cons],⟨by have:=h2.1;simpa using this,fun i u v a b=>?_⟩,fun u hu=>?_⟩
  ·cases i with
   | zero=>cases a;cases b;exact hx
   | succ i=>exact h2.2 i u v (by simpa using a) (by simpa using b)
  ·rcases List.mem_cons.mp hu with rfl|hu
   ·exact ox
   ·exact h3 u hu
theorem Al.app {α:Type}{R:α->V->Prop}{xs xs':List α}{ys ys':List V}(h:Al R xs ys) (h':Al R xs' ys'):Al R (xs++xs') (ys++ys'):=by
 refine ⟨by rw [List.length_append,List.length_append,h.1,h'.1],fun i z y hz hy=>?_⟩
 by_cases hi:i < xs.length
 ·rw [List.getElem?_append_left hi] at hz
  rw [List.getElem?_append_left (by rw [h.1];exact hi)] at hy
  exact h.2 i z y hz hy
 ·rw [List.getElem?_append_right (by omega)] at hz
  rw [List.getElem?_append_right (by rw [h.1];omega),h.1] at hy
  exact h'.2 _ z y hz hy
theorem Al.take' {α:Type}{R:α->V->Prop}{xs:List α}{ys:List V}(h:Al R xs ys) (n:Nat):Al R (xs.take n) (ys.take n):=
 ⟨by rw [List.length_take,List.length_take,h.1],fun i z y hz hy=>by
  rw [List.getElem?_take] at hz hy
  split at hz
  ·rename_i hi
   rw [if_pos hi] at hy
   exact h.2 i z y hz hy
  ·cases hz⟩
theorem Al.drop' {α:Type}{R:α->V->Prop}{xs:List α}{ys:List V}(h:Al R xs ys) (n:Nat):Al R (xs.drop n) (ys.drop n):=
 ⟨by rw [List.length_drop,List.length_drop,h.1],fun i z y hz hy=>by
  rw [List.getElem?_drop] at hz hy
  exact h.2 _ z y hz hy⟩
theorem row_bad {H:Hp}{q:Addr}{gs:List (List Str)}(hq:H q=some (.lst ((joinW gs).map V.str))) (hne:gs ≠ []) (h6:gs.length≤40) (h40:∀ g∈gs,g.length≤20) (nt:∀ g∈gs,NoThen g) (hg:∀ g∈gs,GoodW g∨BadW g) (hx:∃ g∈gs,BadW g):RowX H (.ref q):=by
 have hs:splitW [] [] (joinW gs)=gs:=splitW_join gs [] hne fun g hg w hw=>nt g hg w hw
 have hl:=joinW_len gs 20 h40
 have:gs.length * (20+1)≤40 * 21:=Nat.mul_le_mul h6 (by omega)
 exact .bad q (joinW gs) hq (by omega) (by rw [hs];exact h6) (by rw [hs];exact hg) (by rw [hs];exact hx)
theorem row_many {H:Hp}{q:Addr}{gs:List (List Str)}(hq:H q=some (.lst ((joinW gs).map V.str))) (h6:40 < gs.length) (h60:gs.length≤60) (h40:∀ g∈gs,g.length≤20) (nt:∀ g∈gs,NoThen g):RowX H (.ref q):=by
 have hs:splitW [] [] (joinW gs)=gs:=splitW_join gs [] (fun z=>by rw [z] at h6;exact absurd h6 (by decide)) fun g hg w hw=>nt g hg w hw
 have hl:=joinW_len gs 20 h40
 have:gs.length * (20+1)≤60 * 21:=Nat.mul_le_mul h60 (by omega)
 exact .many q (joinW gs) hq (by omega) (by rw [hs];exact h6)
structure GsOk (gs:List (List Str)):Prop where
 l:∀ g∈gs,g.length≤9
 nt:∀ g∈gs,NoThen g
 g:∀ g∈gs,GoodW g
 n:gs.length≤5
 ne:gs ≠ []
 w:∀ g∈gs,g ≠ []∧∀ w∈g,w.length≤22
theorem GsOk.of {xs:List Tl}(ok:∀ x∈xs,TlOk x) (h5:xs.length≤5) (h1:1≤xs.length):GsOk (xs.map wordsT):=by
 have key:∀ g∈xs.map wordsT,∃ x∈xs,g=wordsT x∧TlOk x:=fun g hg=>by
  obtain ⟨x,hx,rfl⟩:=List.mem_map.mp hg
  exact ⟨x,hx,rfl,ok x hx⟩
 refine ⟨fun g hg=>?_,fun g hg=>?_,fun g hg=>?_,by rw [List.length_map];exact h5,fun z=>?_,fun g hg=>?_⟩
 ·obtain ⟨x,_,rfl,o⟩:=key g hg;exact words_len o
 ·obtain ⟨x,_,rfl,o⟩:=key g hg;exact fun w hw=>words_then o w hw
 ·obtain ⟨x,_,rfl,o⟩:=key g hg;exact ⟨x,rfl,o⟩
 ·have h0:xs.length=0:=by rw [←List.length_map (f:=wordsT),z];rfl
  omega
 ·obtain ⟨x,_,rfl,o⟩:=key g hg;exact ⟨(fun z=>nomatch z),words_w o⟩
theorem GsOk.jl {gs:List (List Str)}(h:GsOk gs):1≤(joinW gs).length∧(joinW gs).length≤50∧∀ w∈joinW gs,w.length≤22:=by
 have hl:=joinW_len gs 9 h.l
 have:gs.length * (9+1)≤5 * 10:=Nat.mul_le_mul h.n (by omega)
 refine ⟨List.length_pos_iff.mpr (joinW_ne h.ne fun g hg=>(h.w g hg).1),by omega,fun w hw=>?_⟩
 rcases joinW_mem hw with rfl|⟨g,hg,hw⟩
 ·decide
 ·exact (h.w g hg).2 w hw
abbrev B_spBad (K:PySem.W.Frag) (a:Addr) (ns:List Int) (p:Addr) (l:Addr) (H:Hp) (Q:VK) (E:XK):Prop:=p=a∧SqL K H a (ns.map V.int)∧ns.length≤63∧∃ (gs:List (List Str)) (ys:List V),H l=some (.lst ys)∧PtA H gs ys∧GsOk gs∧∀ (r:V) (H':Hp),Ext H H'->RowX H' r->Q r H'
def spBad (K:PySem.W.Frag) (a:Addr) (ns:List Int):Sp:=fun vs H Q E=>∃ (p:Addr) (l:Addr),vs=[.ref p,.ref l]∧(B_spBad K a ns p l H Q E)
theorem c_spBad (K:PySem.W.Frag) (a:Addr) (ns:List Int) (p:Addr) (l:Addr) (H:Hp) (Q:VK) (E:XK):spBad K a ns [.ref p,.ref l] H Q E=(B_spBad K a ns p l H Q E):=spx2 (f:=fun (p:Addr) (l:Addr)=>[.ref p,.ref l]) (fun _ _ _ _ h=>by cases h;exact ⟨rfl,rfl⟩) p l
theorem l_spBad (K:PySem.W.Frag) (a:Addr) (ns:List Int){vs:List V}{H:Hp}{Q:VK}{E:XK}(h:spBad K a ns vs H Q E):vs.length=2:=spl2 h fun _ _=>rfl
theorem ok__law_bad (T:Tx K mg t) (a:Addr) (ns:List Int):FnOk P t.w K mg base CX0 3 t.a__law_bad t.d__law_bad ["_law_script", "_law_parts"] (spBad K a ns):=by
 have G__law_draw:=ok__law_draw (P:=P) (base:=base) T a ns
 have G__law_joined:=ok__law_joined (P:=P) (base:=base) T
 have G__law_spoilt:=ok__law_spoilt (P:=P) (base:=base) T
 refine T.F__law_bad.ok c__law_bad (fun vs H Q E h=>l_spBad _ _ _ h) (fun cdv A outer s H vs Q E hr h=>?_)
 ·obtain ⟨_,l,rfl,rfl,hS,hl63,gs,ys,hl,pa,gok,k⟩:=h
  rename_i a
  refine ⟨_,(@pss_cons _ _ _ _ _ (@ps_set _ _ (2) _ _ _ _ c__law_bad.nd rfl (Or.inl rfl) (@pe_call _ _ _ _ _ _ _ _ _ _ _ _ _ _ _ _ G__law_draw (hr.mono (by decide)) (by rfl) T.m__law_draw T.F__law_draw.kp T.b__law_draw .nil pass0 (@pa_c _ _ _ _ _ (@pvN _ 0 _ _ (by rfl) (by trivial) (by decide) (by decide)) (@pa_c _ _ _ _ _ (@pe_int _ _ _ _) (@pa_c _ _ _ _ _ (@pe_op _ _ _ _ _ _ _ _ on_pow (@pe_int _ _ _ _) (@pe_int _ _ _ _)) (@pa_nil _) (by rfl)) (by rfl)) (by rfl)) (by decide) (by rfl) (by rfl)) (by rfl) (by trivial)) (@pss_cons _ _ _ _ _ (@ps_set _ _ (3) _ _ _ _ c__law_bad.nd rfl (Or.inl rfl) (@pe_call _ _ _ _ _ _ _ _ _ _ _ _ _ _ _ _ G__law_draw (hr.mono (by decide)) (by rfl) T.m__law_draw T.F__law_draw.kp T.b__law_draw .nil pass0 (@pa_c _ _ _ _ _ (@pvN _ 0 _ _ (by rfl) (by trivial) (by decide) (by decide)) (@pa_c _ _ _ _ _ (@pe_int _ _ _ _) (@pa_c _ _ _ _ _ (@pe_callB _ _ _ _ _ _ _ ("len") _ call_qLen (by rfl) T.z_len (by decide +kernel) (@pa_c _ _ _ _ _ (@pvN _ 1 _ _ (by rfl) (by trivial) (by decide) (by decide)) (@pa_nil _) (by rfl)) (by decide) (by decide) (by rfl) (by rfl)) (@pa_nil _) (by rfl)) (by rfl)) (by rfl)) (by decide) (by rfl) (by rfl)) (by rfl) (by trivial)) (@pss_cons _ _ _ _ _ (@ps_set _ _ (4) _ _ _ _ c__law_bad.nd rfl (Or.inl rfl) (@pe_call _ _ _ _ _ _ _ _ _ _ _ _ _ _ _ _ G__law_draw (hr.mono (by decide)) (by rfl) T.m__law_draw T.F__law_draw.kp T.b__law_draw .nil pass0 (@pa_c _ _ _ _ _ (@pvN _ 0 _ _ (by rfl) (by trivial) (by decide) (by decide)) (@pa_c _ _ _ _ _ (@pe_int _ _ _ _) (@pa_c _ _ _ _ _ (@pe_int _ _ _ _) (@pa_nil _) (by rfl)) (by rfl)) (by rfl)) (by decide) (by rfl) (by rfl)) (by rfl) (by trivial)) (@pss_cons _ _ _ _ _ (@ps_if _ _ _ _ _ _ _ _ (@pt_cmpRN _ _ _ _ _ _ _ _ on_lt (@pvN _ 4 _ _ (by rfl) (by trivial) (by decide) (by decide)) (@pe_int _ _ _ _) (nomark _)) (@pss_one _ _ _ (@ps_ret _ _ _ _ (@pe_call _ _ _ _ _ _ _ _ _ _ _ _ _ _ _ _ G__law_joined (hr.mono (by decide)) (by rfl) T.m__law_joined T.F__law_joined.kp T.b__law_joined .nil pass0 (@pa_c _ _ _ _ _ (@pe_op _ _ _ _ _ _ _ _ op_nCat (@pe_op _ _ _ _ _ _ _ _ op_nCat (@pe_slice _ _ _ _ _ _ _ _ _ _ sl_n (@pvN _ 1 _ _ (by rfl) (by trivial) (by decide) (by decide)) (@po_none _) (@po_some _ _ _ (@pvN _ 3 _ _ (by rfl) (by trivial) (by decide) (by decide)))) (@pe_qLst _ _ _ _ (@pa_c _ _ _ _ _ (@pe_call _ _ _ _ _ _ _ _ _ _ _ _ _ _ _ _ G__law_spoilt (hr.mono (by decide)) (by rfl) T.m__law_spoilt T.F__law_spoilt.kp T.b__law_spoilt .nil pass0 (@pa_c _ _ _ _ _ (@pe_ix _ _ _ _ _ _ _ ix_q (@pvN _ 1 _ _ (by rfl) (by trivial) (by decide) (by decide)) (@pvN _ 3 _ _ (by rfl) (by trivial) (by decide) (by decide)) (fun _ _=>rfl)) (@pa_c _ _ _ _ _ (@pvN _ 2 _ _ (by rfl) (by trivial) (by decide) (by decide)) (@pa_nil _) (by rfl)) (by rfl)) (by decide) (by rfl) (by rfl)) (@pa_nil _) (by rfl)))) (@pe_slice _ _ _ _ _ _ _ _ _ _ sl_n (@pvN _ 1 _ _ (by rfl) (by trivial) (by decide) (by decide)) (@po_some _ _ _ (@pe_op _ _ _ _ _ _ _ _ on_add (@pvN _ 3 _ _ (by rfl) (by trivial) (by decide) (by decide)) (@pe_int _ _ _ _))) (@po_none _))) (@pa_nil _) (by rfl)) (by decide) (by rfl) (by rfl)))) (@pss_nil _)) (@pss_cons _ _ _ _ _ (@ps_if _ _ _ _ _ _ _ _ (@pt_cmpRN _ _ _ _ _ _ _ _ (op_qEq hr.units) (@pvN _ 4 _ _ (by rfl) (by trivial) (by decide) (by decide)) (@pe_int _ _ _ _) (nomark _)) (@pss_cons _ _ _ _ _ (@ps_set _ _ (3) _ _ _ _ c__law_bad.nd rfl (Or.inl rfl) (@pe_call _ _ _ _ _ _ _ _ _ _ _ _ _ _ _ _ G__law_draw (hr.mono (by decide)) (by rfl) T.m__law_draw T.F__law_draw.kp T.b__law_draw .nil pass0 (@pa_c _ _ _ _ _ (@pvN _ 0 _ _ (by rfl) (by trivial) (by decide) (by decide)) (@pa_c _ _ _ _ _ (@pe_int _ _ _ _) (@pa_c _ _ _ _ _ (@pe_op _ _ _ _ _ _ _ _ on_add (@pe_callB _ _ _ _ _ _ _ ("len") _ call_qLen (by rfl) T.z_len (by decide +kernel) (@pa_c _ _ _ _ _ (@pvN _ 1 _ _ (by rfl) (by trivial) (by decide) (by decide)) (@pa_nil _) (by rfl)) (by decide) (by decide) (by rfl) (by rfl)) (@pe_int _ _ _ _)) (@pa_nil _) (by rfl)) (by rfl)) (by rfl)) (by decide) (by rfl) (by rfl)) (by rfl) (by trivial)) (@pss_one _ _ _ (@ps_ret _ _ _ _ (@pe_call _ _ _ _ _ _ _ _ _ _ _ _ _ _ _ _ G__law_joined (hr.mono (by decide)) (by rfl) T.m__law_joined T.F__law_joined.kp T.b__law_joined .nil pass0 (@pa_c _ _ _ _ _ (@pe_op _ _ _ _ _ _ _ _ op_nCat (@pe_op _ _ _ _ _ _ _ _ op_nCat (@pe_slice _ _ _ _ _ _ _ _ _ _ sl_n (@pvN _ 1 _ _ (by rfl) (by trivial) (by decide) (by decide)) (@po_none _) (@po_some _ _ _ (@pvN _ 3 _ _ (by rfl) (by trivial) (by decide) (by decide)))) (@pe_qLst _ _ _ _ (@pa_c _ _ _ _ _ (@pe_qLst _ _ _ _ (@pa_nil _)) (@pa_nil _) (by rfl)))) (@pe_slice _ _ _ _ _ _ _ _ _ _ sl_n (@pvN _ 1 _ _ (by rfl) (by trivial) (by decide) (by decide)) (@po_some _ _ _ (@pvN _ 3 _ _ (by rfl) (by trivial) (by decide) (by decide))) (@po_none _))) (@pa_nil _) (by rfl)) (by decide) (by rfl) (by rfl))))) (@pss_nil _)) (@pss_cons _ _ _ _ _ (@ps_if _ _ _ _ _ _ _ _ (@pt_cmpRN _ _ _ _ _ _ _ _ (op_qEq hr.units) (@pvN _ 4 _ _ (by rfl) (by trivial) (by decide) (by decide)) (@pe_int _ _ _ _) (nomark _)) (@pss_one _ _ _ (@ps_ret _ _ _ _ (@pe_call _ _ _ _ _ _ _ _ _ _ _ _ _ _ _ _ G__law_joined (hr.mono (by decide)) (by rfl) T.m__law_joined T.F__law_joined.kp T.b__law_joined .nil pass0 (@pa_c _ _ _ _ _ (@pe_comp _ _ _ _ _ _ _ _ _ _ _ (["_law_k", "_law_script", "_law_parts", "_law_cell", "_law_at", "_law_way", "_law_words_here"]) (1) (comp_ok (defScope s__law_bad) ["_law_script", "_law_parts", "_law_cell", "_law_at", "_law_way", "_law_words_here"] rfl rfl (by decide +kernel)) rfl (@pi_range1 _ _ _ _ _ _ (by rfl) T.z_range (@pa_c _ _ _ _ _ (@pe_op _ _ _ _ _ _ _ _ on_add (@pe_int _ _ _ _) (@pe_op _ _ _ _ _ _ _ _ on_mod (@pvN _ 2 _ _ (by rfl) (by trivial) (by decide) (by decide)) (@pe_int _ _ _ _))) (@pa_nil _) (by rfl)) (by rfl)) (fun C s₀ H₀ ex pn=>(@pg_name _ _ (0) _ (show List.Nodup (["_law_k", "_law_script", "_law_parts", "_law_cell", "_law_at", "_law_way", "_law_words_here"]:List Str) from by decide +kernel) rfl (Or.inl rfl) (by trivial))) (fun C s₀ H₀ ex pn=>(@pts_nil _)) (fun C s₀ H₀ ex pn=>(@pe_ix _ _ _ _ _ _ _ ix_q (@pvN _ 2 _ _ (by rfl) (by trivial) (by decide) (by decide)) (@pe_op _ _ _ _ _ _ _ _ on_mod (@pvN _ 0 _ _ (by rfl) (by trivial) (by decide) (by decide)) (@pe_callB _ _ _ _ _ _ _ ("len") _ call_qLen (by rfl) T.z_len (by decide +kernel) (@pa_c _ _ _ _ _ (@pvN _ 2 _ _ (by rfl) (by trivial) (by decide) (by decide)) (@pa_nil _) (by rfl)) (by decide) (by decide) (by rfl) (by rfl))) (fun _ _=>rfl))) (by intros;rfl)) (@pa_nil _) (by rfl)) (by decide) (by rfl) (by rfl)))) (@pss_nil _)) (@pss_cons _ _ _ _ _ (@ps_set _ _ (5) _ _ _ _ c__law_bad.nd rfl (Or.inl rfl) (@pe_call _ _ _ _ _ _ _ _ _ _ _ _ _ _ _ _ G__law_joined (hr.mono (by decide)) (by rfl) T.m__law_joined T.F__law_joined.kp T.b__law_joined .nil pass0 (@pa_c _ _ _ _ _ (@pvN _ 1 _ _ (by rfl) (by trivial) (by decide) (by decide)) (@pa_nil _) (by rfl)) (by decide) (by rfl) (by rfl)) (by rfl) (by trivial)) (@pss_cons _ _ _ _ _ (@ps_if _ _ _ _ _ _ _ _ (@pt_cmpRN _ _ _ _ _ _ _ _ (op_qEq hr.units) (@pvN _ 4 _ _ (by rfl) (by trivial) (by decide) (by decide)) (@pe_int _ _ _ _) (nomark _)) (@pss_one _ _ _ (@ps_ret _ _ _ _ (@pe_ix _ _ _ _ _ _ _ ix_q (@pe_qLst _ _ _ _ (@pa_c _ _ _ _ _ (@pe_callTy _ _ _ _ _ _ _ _ _ call_nTuple (by rfl) T.z_tuple (by decide +kernel) (@pa_c _ _ _ _ _ (@pvN _ 5 _ _ (by rfl) (by trivial) (by decide) (by decide)) (@pa_nil _) (by rfl)) (by decide) (by decide) (by rfl) (by rfl)) (@pa_c _ _ _ _ _ (@pe_bm _ _ _ _ _ _ _ _ _ _ _ _ PySem.F.plainAttrs_str PySem.F.slot_str_join PySem.F.type_str_join mt_nJoin (@pe_str _ _ _ _) (@pa_c _ _ _ _ _ (@pvN _ 5 _ _ (by rfl) (by trivial) (by decide) (by decide)) (@pa_nil _) (by rfl)) (by rfl) (by rfl) (by rfl) (by rfl) (by rfl)) (@pa_c _ _ _ _ _ (@pe_non _ _ _) (@pa_c _ _ _ _ _ (@pe_int _ _ _ _) (@pa_c _ _ _ _ _ (@pe_nDNew _ _) (@pa_c _ _ _ _ _ (@pe_qLst _ _ _ _ (@pa_c _ _ _ _ _ (@pvN _ 5 _ _ (by rfl) (by trivial) (by decide) (by decide)) (@pa_nil _) (by rfl))) (@pa_c _ _ _ _ _ (@pe_qLst _ _ _ _ (@pa_nil _)) (@pa_nil _) (by rfl)) (by rfl)) (by rfl)) (by rfl)) (by rfl)) (by rfl)) (by rfl))) (@pe_op _ _ _ _ _ _ _ _ on_mod (@pvN _ 2 _ _ (by rfl) (by trivial) (by decide) (by decide)) (@pe_int _ _ _ _)) (fun _ _=>rfl)))) (@pss_nil _)) (@pss_cons _ _ _ _ _ (@ps_set _ _ (3) _ _ _ _ c__law_bad.nd rfl (Or.inl rfl) (@pe_op _ _ _ _ _ _ _ _ on_mod (@pe_op _ _ _ _ _ _ _ _ on_fdiv (@pvN _ 2 _ _ (by rfl) (by trivial) (by decide) (by decide)) (@pe_int _ _ _ _)) (@pe_callB _ _ _ _ _ _ _ ("len") _ call_qLen (by rfl) T.z_len (by decide +kernel) (@pa_c _ _ _ _ _ (@pvN _ 5 _ _ (by rfl) (by trivial) (by decide) (by decide)) (@pa_nil _) (by rfl)) (by decide) (by decide) (by rfl) (by rfl))) (by rfl) (by trivial)) (@pss_one _ _ _ (@ps_ret _ _ _ _ (@pe_op _ _ _ _ _ _ _ _ op_nCat (@pe_op _ _ _ _ _ _ _ _ op_nCat (@pe_slice _ _ _ _ _ _ _ _ _ _ sl_n (@pvN _ 5 _ _ (by rfl) (by trivial) (by decide) (by decide)) (@po_none _) (@po_some _ _ _ (@pvN _ 3 _ _ (by rfl) (by trivial) (by decide) (by decide)))) (@pe_qLst _ _ _ _ (@pa_c _ _ _ _ _ (@pe_ix _ _ _ _ _ _ _ ix_q (@pe_qLst _ _ _ _ (@pa_c _ _ _ _ _ (@pe_non _ _ _) (@pa_c _ _ _ _ _ (@pe_int _ _ _ _) (@pa_c _ _ _ _ _ (@pe_qLst _ _ _ _ (@pa_c _ _ _ _ _ (@pe_str _ _ _ _) (@pa_nil _) (by rfl))) (@pa_c _ _ _ _ _ (@pe_qTup _ _ _ _ _ (@pa_c _ _ _ _ _ (@pe_str _ _ _ _) (@pa_nil _) (by rfl))) (@pa_c _ _ _ _ _ (@pe_bl _ _ _ _) (@pa_c _ _ _ _ _ (@pe_nDNew _ _) (@pa_c _ _ _ _ _ (@pe_un _ _ _ _ _ _ un_negN (@pe_int _ _ _ _)) (@pa_nil _) (by rfl)) (by rfl)) (by rfl)) (by rfl)) (by rfl)) (by rfl)) (by rfl))) (@pe_op _ _ _ _ _ _ _ _ on_mod (@pvN _ 2 _ _ (by rfl) (by trivial) (by decide) (by decide)) (@pe_int _ _ _ _)) (fun _ _=>rfl)) (@pa_nil _) (by rfl)))) (@pe_slice _ _ _ _ _ _ _ _ _ _ sl_n (@pvN _ 5 _ _ (by rfl) (by trivial) (by decide) (by decide)) (@po_some _ _ _ (@pe_op _ _ _ _ _ _ _ _ on_add (@pvN _ 3 _ _ (by rfl) (by trivial) (by decide) (by decide)) (@pe_int _ _ _ _))) (@po_none _)))))))))))))),?_⟩
  rw [show start ["_law_script", "_law_parts", "_law_cell", "_law_at", "_law_way", "_law_words_here"] [.ref a,.ref l]=[some (.ref a),some (.ref l),none,none,none,none] from rfl]
  clear G__law_draw G__law_joined G__law_spoilt
  have hyl:ys.length=gs.length:=pa.1
  have g5:=gok.n
  have g1:1≤gs.length:=List.length_pos_iff.mpr gok.ne
  have hsz:ys.length≤sizeLine:=len5000 (by omega)
  have y1:0 < (ys.length:Int):=by omega
  have y5:ys.length≤5:=by omega
  replace k:=fun (_:Unit)=>k
  replace gok:=fun (_:Unit)=>gok
  replace pa:=fun (_:Unit)=>pa
  replace hyl:=fun (_:Unit)=>hyl
  simp! only [and_true]
  rw [c_spDraw]
  refine ⟨hS,hl63,⟨by decide,by decide⟩,by decide,fun c c0 c1=>?_⟩
  simp! only [and_true]
  rw [c_spDraw]
  refine ⟨hS,hl63,⟨by decide,by decide⟩,y1,fun t0 t00 t01=>?_⟩
  simp! only [and_true]
  rw [c_spDraw]
  refine ⟨hS,hl63,⟨by decide,by decide⟩,by decide,fun wy wy0 wy1=>?_⟩
  have memg:∀ {n:Nat} {g:List Str},g∈gs.take n->g∈gs:=fun h=>List.mem_of_mem_take h
  have memd:∀ {n:Nat} {g:List Str},g∈gs.drop n->g∈gs:=fun h=>List.mem_of_mem_drop h
  replace memg:=fun (_:Unit)=>@memg
  replace memd:=fun (_:Unit)=>@memd
  have three:∀ (i j:Nat) (b:List Str) (p:List Str->Prop),(∀ g∈gs,p g)->p b->∀ g∈gs.take i++[b]++gs.drop j,p g:=fun i j b p h1 h2 g hg=>by
   rcases List.mem_append.mp hg with hg|hg
   ·rcases List.mem_append.mp hg with hg|hg
    ·exact h1 g (List.mem_of_mem_take hg)
    ·rw [List.mem_singleton.mp hg];exact h2
   ·exact h1 g (List.mem_of_mem_drop hg)
  replace three:=fun (_:Unit)=>three
  have one:∀ (H':Hp) (q:Addr) (b:List Str) (i j:Nat),Ext H H'->H' q=some (.lst (b.map V.str))->PtA H' (gs.take i++[b]++gs.drop j) ((ys.take i++[.ref q])++ys.drop j):=fun H' q b i j e hq=>Al.app (Al.app (Al.take' ((pa ()).ext e) i) ⟨rfl,fun n z y hz hy=>by
   match n with
   | 0=>cases hz;cases hy;exact ⟨q,rfl,hq⟩
   | n+1=>cases hz⟩) (Al.drop' ((pa ()).ext e) j)
  replace one:=fun (_:Unit)=>one
  have len3:∀ (i j:Nat) (b:List Str),(gs.take i++[b]++gs.drop j).length≤11:=fun i j b=>by rw [List.length_append,List.length_append,List.length_take,List.length_drop];simp;omega
  replace len3:=fun (_:Unit)=>len3
  have ne3:∀ (i j:Nat) (b:List Str),gs.take i++[b]++gs.drop j ≠ []:=fun i j b z=>by have:=congrArg List.length z;simp at this
  replace ne3:=fun (_:Unit)=>ne3
  by_cases w6:wy < 6
  ·obtain ⟨i,rfl⟩:=Int.eq_ofNat_of_zero_le t00
   have hiy:i < ys.length:=by omega
   have hig:i < gs.length:=by have:=hyl ();omega
   obtain ⟨b,hb,hbw⟩:=(pa ()).2 i gs[i] ys[i] (List.getElem?_eq_getElem hig) (List.getElem?_eq_getElem hiy)
   have hat:atI ys (i:Int)=some (.ref b):=by rw [←hb];exact atI_nat (List.getElem?_eq_getElem hiy)
   obtain ⟨x,hx,okx⟩:=(gok ()).g gs[i] (List.getElem_mem hig)
   rw [hx] at hbw
   clear hb hx
   simp! only [and_true]
   intro p1 H1 _ e1 h1
   rw [cut_to _ _ (by omega),Int.toNat_natCast] at h1
   have hl1:=e1.at hl
   have hb1:=e1.at hbw
   simp! only [and_true]
   rw [c_spSpo]
   refine ⟨x,hb1,okx,c0,fun q ws H2 e2 hq bad nth wl20=>?_⟩
   have hl2:=e2.at hl1
   have h1_2:=e2.at h1
   clear hl1 h1 hb1
   simp! only [and_true]
   intro p3 H3 _ e3 h3
   refine use_cat (e3.at h1_2) h3 (len5000 (by rw [List.length_take];show _+1≤5000;omega)) ?_
   intro p4 H4 _ e4 h4
   have hl4:=(e3.trans e4).at hl2
   clear hl2 h1_2 h3
   simp! only [and_true]
   intro p5 H5 _ e5 h5
   rw [cut_some _ _ (by omega),show ((i:Int)+1).toNat=i+1 by omega] at h5
   refine use_cat (e5.at h4) h5 (len5000 (by rw [List.length_append,List.length_take,List.length_drop];show _+1+_≤5000;omega)) ?_
   intro p6 H6 _ e6 h6
   have e26:=e3.trans (e4.trans (e5.trans e6))
   have e06:=e1.trans (e2.trans e26)
   clear hl4 h4 h5
   simp! only [and_true]
   rw [c_spJoi]
   refine ⟨gs.take i++[ws]++gs.drop (i+1),_,h6,one () H6 q ws i (i+1) e06 (e26.at hq),ne3 () _ _ _,by have:=len3 () i (i+1) ws;omega,three () i (i+1) ws (fun g=>g.length≤40) (fun g hg=>by have:=(gok ()).l g hg;omega) (by omega),fun q' H' e _ hq'=>?_⟩
   refine k () _ H' (e06.trans e) (row_bad hq' (ne3 () _ _ _) (by have:=len3 () i (i+1) ws;omega) (three () i (i+1) ws (fun g=>g.length≤20) (fun g hg=>by have:=(gok ()).l g hg;omega) wl20) (three () i (i+1) ws NoThen (gok ()).nt nth) (three () i (i+1) ws (fun g=>GoodW g∨BadW g) (fun g hg=>.inl ((gok ()).g g hg)) (.inr bad)) ⟨ws,by simp,bad⟩)
  ·by_cases w6':wy=6
   ·simp! only [and_true]
    rw [c_spDraw]
    refine ⟨hS,hl63,⟨by decide,by decide⟩,by omega,fun t2 t20 t21=>?_⟩
    obtain ⟨i,rfl⟩:=Int.eq_ofNat_of_zero_le t20
    simp! only [and_true]
    intro p1 H1 _ e1 h1
    rw [cut_to _ _ (by omega),Int.toNat_natCast] at h1
    have hl1:=e1.at hl
    simp! only [and_true]
    intro p2 H2 _ e2 h2
    have hl2:=e2.at hl1
    have h1_2:=e2.at h1
    clear hl1 h1
    simp! only [and_true]
    intro p3 H3 _ e3 h3
    refine use_cat (e3.at h1_2) h3 (len5000 (by rw [List.length_take];show _+1≤5000;omega)) ?_
    intro p4 H4 _ e4 h4
    have hl4:=(e3.trans e4).at hl2
    clear hl2 h1_2 h3
    simp! only [and_true]
    intro p5 H5 _ e5 h5
    rw [cut_some _ _ (by omega),Int.toNat_natCast] at h5
    refine use_cat (e5.at h4) h5 (len5000 (by rw [List.length_append,List.length_take,List.length_drop];show _+1+_≤5000;omega)) ?_
    intro p6 H6 _ e6 h6
    have e26:=e3.trans (e4.trans (e5.trans e6))
    have e06:=e1.trans (e2.trans e26)
    clear hl4 h4 h5
    simp! only [and_true]
    rw [c_spJoi]
    refine ⟨gs.take i++[[]]++gs.drop i,_,h6,one () H6 p2 [] i i e06 (e26.at h2),ne3 () _ _ _,by have:=len3 () i i [];omega,three () i i [] (fun g=>g.length≤40) (fun g hg=>by have:=(gok ()).l g hg;omega) (by show 0≤40;omega),fun q' H' e _ hq'=>?_⟩
    refine k () _ H' (e06.trans e) (row_bad hq' (ne3 () _ _ _) (by have:=len3 () i i [];omega) (three () i i [] (fun g=>g.length≤20) (fun g hg=>by have:=(gok ()).l g hg;omega) (by show 0≤20;omega)) (three () i i [] NoThen (gok ()).nt (fun _ h=>absurd h List.not_mem_nil)) (three () i i [] (fun g=>GoodW g∨BadW g) (fun g hg=>.inl ((gok ()).g g hg)) (.inr .nil)) ⟨[],by simp,.nil⟩)
   ·by_cases w7:wy=7
    ·have c90:=Int.emod_nonneg c (show (9:Int) ≠ 0 by decide)
     have c91:=Int.emod_lt_of_pos c (show (0:Int) < 9 by decide)
     simp! only [and_true]
     refine ⟨by omega,by omega,?_⟩
     refine comp_rel (List.range (41+c % 9).toNat) (fun _=>true) (fun z x _=>x=V.int (0+(z:Int))) (fun D _ y H'=>∃ g:List Str,(∃ b,y=.ref b∧H b=some (.lst (g.map V.str)))∧g∈gs) wk_rng.1 wk_rng.2 (fun _ _ _ _ _ h _=>h) (fun _ _ _ _ _ h=>h) (len5000 (by rw [List.length_range];omega)) ?_ ?_
     ·intro D z v H' N1 N0 hz hD e _ hv k1 _
      subst hv
      have k1':=k1 rfl
      have hl':=e.at hl
      have q0:=Int.emod_nonneg (0+(z:Int)) (show (ys.length:Int) ≠ 0 by omega)
      have q1:=Int.emod_lt_of_pos (0+(z:Int)) y1
      clear k1
      simp! only [↓m_kCm_1,↓m_kCm2]
      refine optK_at q0 q1 fun v hv=>?_
      obtain ⟨i,hi,rfl⟩:=List.getElem_of_mem hv
      have hig:i < gs.length:=by have:=hyl ();omega
      obtain ⟨b,hb,hbw⟩:=(pa ()).2 i gs[i] ys[i] (List.getElem?_eq_getElem hig) (List.getElem?_eq_getElem hi)
      exact k1' _ H' (Ext.refl _) ⟨gs[i],⟨b,hb,hbw⟩,List.getElem_mem hig⟩
     ·intro D zs H1 hD e1 hD1 al
      rw [filt] at al
      obtain ⟨gs',hgl,al2,hin⟩:=al_ex (R:=fun (g:List Str) y=>∃ b,y=.ref b∧H b=some (.lst (g.map V.str))) (O:=fun g=>g∈gs) al
      rw [List.length_range] at hgl
      have pa':PtA H1 gs' zs:=al2.imp fun g y ⟨b,h1,h2⟩=>⟨b,h1,e1.at h2⟩
      have hn:41≤gs'.length∧gs'.length≤49:=by omega
      replace hin:=fun (_:Unit)=>hin
      clear al al2 hgl
      simp! only [and_true]
      rw [c_spJoi]
      refine ⟨gs',zs,hD1,pa',(fun z=>by rw [z] at hn;exact absurd hn.1 (by decide)),by omega,fun g hg=>by have:=(gok ()).l g (hin () g hg);omega,fun q' H' e _ hq'=>k () _ H' (e1.trans e) (row_many hq' (by omega) (by omega) (fun g hg=>by have:=(gok ()).l g (hin () g hg);omega) fun g hg=>(gok ()).nt g (hin () g hg))⟩
    ·obtain ⟨j1,j50,jw⟩:=(gok ()).jl
     have jsum:=sum_le 22 (joinW gs) jw
     simp! only [and_true]
     rw [c_spJoi]
     refine ⟨gs,ys,hl,pa (),(gok ()).ne,by omega,fun g hg=>by have:=(gok ()).l g hg;omega,fun q H1 e1 _ hq=>?_⟩
     replace jw:=fun (_:Unit)=>jw
     generalize joinW gs=ws at hq j1 j50 jw jsum
     replace jsum:=fun (_:Unit)=>jsum
     have wsz:ws.length≤sizeLine:=len5000 (by omega)
     have k':∀ (r:V) (H':Hp),Ext H1 H'->RowX H' r->Q r H':=fun r H' e h=>k () r H' (e1.trans e) h
     replace k':=fun (_:Unit)=>k'
     have c70:=Int.emod_nonneg c (show (7:Int) ≠ 0 by decide)
     have c71:=Int.emod_lt_of_pos c (show (0:Int) < 7 by decide)
     clear k
     by_cases w8:wy=8
     ·simp! only [and_true]
      intro p2 H2 _ e2 h2
      have hq2:=e2.at hq
      simp! only [and_true]
      refine ⟨rfl,use_join hq2 (by decide) (by have:=jsum ();omega) ?_⟩
      simp! only [and_true]
      intro p3 H3 _ e3 h3
      have hq3:=e3.at hq2
      have h2_3:=e3.at h2
      clear hq2 h2
      simp! only [and_true]
      intro p4 H4 _ e4 h4
      have hq4:=e4.at hq3
      have h2_4:=e4.at h2_3
      have h3_4:=e4.at h3
      clear hq3 h2_3 h3
      simp! only [and_true]
      intro p5 H5 _ e5 h5
      have hq5:=e5.at hq4
      have h2_5:=e5.at h2_4
      have h3_5:=e5.at h3_4
      have h4_5:=e5.at h4
      clear hq4 h2_4 h3_4 h4
      simp! only [and_true]
      intro p6 H6 _ e6 h6
      have e16:=e2.trans (e3.trans (e4.trans (e5.trans e6)))
      have hq6:=e6.at hq5
      have h2_6:=e6.at h2_5
      have h3_6:=e6.at h3_5
      have h4_6:=e6.at h4_5
      have h5_6:=e6.at h5
      clear hq5 h2_5 h3_5 h4_5 h5
      simp! only [and_true]
      refine optK_pick2 (fun v=>RowX H6 v) c70 (by simpa using c71) (fun v hv=>?_) fun v hv=>k' () v H6 e16 hv
      simp only [List.mem_cons,List.not_mem_nil,or_false] at hv
      rcases hv with rfl|rfl|rfl|rfl|rfl|rfl|rfl
      ·exact .tup p2 _ h2_6
      ·exact .str _
      ·exact .non
      ·exact .int 7
      ·exact .dic p3 _ h3_6
      ·exact .odd p4 _ h4_6 (by show 1≤4000;decide) (fun v hv=>by rw [List.mem_singleton.mp hv];exact .inr (.inr (.inr (.inr (.inl ⟨q,_,rfl,hq6⟩))))) rfl
      ·exact .bad p5 [] h5_6 (by decide) (by decide) (fun g hg=>.inr (by rw [show g=[] from List.mem_singleton.mp hg];exact .nil)) ⟨[],List.mem_singleton.mpr rfl,.nil⟩
     ·have q0:=Int.emod_nonneg (c / 7) (show (ws.length:Int) ≠ 0 by omega)
      have q1:=Int.emod_lt_of_pos (c / 7) (show 0 < (ws.length:Int) by omega)
      obtain ⟨i,hi⟩:=Int.eq_ofNat_of_zero_le q0
      rw [hi] at q1
      have hc1:cutV (ws.map V.str) none (some (c / 7 % (ws.length:Int)))=(ws.take i).map V.str:=by rw [hi,cut_to _ _ (by omega),Int.toNat_natCast,List.map_take]
      have hc2:cutV (ws.map V.str) (some (c / 7 % (ws.length:Int)+1)) none=(ws.drop (i+1)).map V.str:=by rw [hi,cut_some _ _ (by omega),show ((i:Int)+1).toNat=i+1 by omega,List.map_drop]
      replace hc1:=fun (_:Unit)=>hc1
      replace hc2:=fun (_:Unit)=>hc2
      have c7:0≤c / 7:=Int.ediv_nonneg c0 (by decide)
      clear hi q0
      simp! only [and_true]
      refine ⟨by omega,?_⟩
      intro p2 H2 _ e2 h2
      rw [hc1 ()] at h2
      have hq2:=e2.at hq
      simp! only [and_true]
      intro p3 H3 _ e3 h3
      have hq3:=e3.at hq2
      have h2_3:=e3.at h2
      clear hq2 h2
      simp! only [and_true]
      intro p4 H4 _ e4 h4
      have hq4:=e4.at hq3
      have h2_4:=e4.at h2_3
      have h3_4:=e4.at h3
      clear hq3 h2_3 h3
      simp! only [and_true]
      intro p5 H5 _ e5 h5
      have hq5:=e5.at hq4
      have h2_5:=e5.at h2_4
      have h3_5:=e5.at h3_4
      have h4_5:=e5.at h4
      clear hq4 h2_4 h3_4 h4
      simp! only [and_true]
      intro p6 H6 _ e6 h6
      have e16:=e2.trans (e3.trans (e4.trans (e5.trans e6)))
      have hq6:=e6.at hq5
      have h2_6:=e6.at h2_5
      have h3_6:=e6.at h3_5
      have h4_6:=e6.at h4_5
      have h5_6:=e6.at h5
      clear hq5 h2_5 h3_5 h4_5 h5
      simp! only [and_true]
      refine optK_pick2 (fun v=>WdV H6 v∧strB v=false) c70 (by simpa using c71) (fun v hv=>?_) ?_
      ·simp only [List.mem_cons,List.not_mem_nil,or_false] at hv
       rcases hv with rfl|rfl|rfl|rfl|rfl|rfl|rfl
       ·exact ⟨.inl rfl,rfl⟩
       ·exact ⟨.inr (.inl ⟨_,rfl⟩),rfl⟩
       ·exact ⟨.inr (.inr (.inr (.inr (.inl ⟨p3,_,rfl,h3_6⟩)))),rfl⟩
       ·exact ⟨.inr (.inr (.inr (.inr (.inr (.inl ⟨p4,_,rfl,h4_6⟩))))),rfl⟩
       ·exact ⟨.inr (.inr (.inl ⟨_,rfl⟩)),rfl⟩
       ·exact ⟨.inr (.inr (.inr (.inr (.inr (.inr ⟨p5,_,rfl,h5_6⟩))))),rfl⟩
       ·exact ⟨.inr (.inl ⟨_,rfl⟩),rfl⟩
      rintro v ⟨hv,hs⟩
      clear h6 h3_6 h4_6 h5_6
      replace hs:=fun (_:Unit)=>hs
      simp! only [and_true]
      intro p7 H7 _ e7 h7
      refine use_cat (e7.at h2_6) h7 (len5000 (by rw [List.length_map,List.length_take];show _+1≤5000;omega)) ?_
      intro p8 H8 _ e8 h8
      have hq8:=(e7.trans e8).at hq6
      clear h7 h2_6 hq6
      simp! only [and_true]
      intro p9 H9 _ e9 h9
      rw [hc2 ()] at h9
      refine use_cat (e9.at h8) h9 (len5000 (by rw [List.length_append,List.length_map,List.length_take,List.length_map,List.length_drop];show _+1+_≤5000;omega)) ?_
      intro p10 H10 _ e10 h10
      have e610:=e7.trans (e8.trans (e9.trans e10))
      refine k' () _ H10 (e16.trans e610) (.odd p10 _ h10 (by rw [List.length_append,List.length_append,List.length_map,List.length_take,List.length_map,List.length_drop];show _+1+_≤4000;omega) (fun u hu=>?_) ?_)
      ·rcases List.mem_append.mp hu with hu|hu
       ·rcases List.mem_append.mp hu with hu|hu
        ·obtain ⟨z,_,rfl⟩:=List.mem_map.mp hu
         exact .inr (.inr (.inr (.inl ⟨z,rfl⟩)))
        ·rw [List.mem_singleton.mp hu];exact hv.ext e610
       ·obtain ⟨z,_,rfl⟩:=List.mem_map.mp hu
        exact .inr (.inr (.inr (.inl ⟨z,rfl⟩)))
      ·rw [List.map_append,List.map_append,List.all_append,List.all_append,show ([v].map strB).all id=false by show (strB v && true)=false;rw [hs ()];rfl,Bool.and_false,Bool.false_and]
theorem wd_ok:∀ {i:Nat},i < 9->PyData.strOk (wdM i)=true
 | 0,_=>by decide +kernel
 | 1,_=>by decide +kernel
 | 2,_=>by decide +kernel
 | 3,_=>by decide +kernel
 | 4,_=>by decide +kernel
 | 5,_=>by decide +kernel
 | 6,_=>by decide +kernel
 | 7,_=>by decide +kernel
 | 8,_=>by decide +kernel
 | n+9,h=>absurd h (by omega)
theorem strOk_of (s:String):PyData.strOk (Str.ofString s)=true:=by
 rw [Str.ofString_eq_toList]
 unfold PyData.strOk
 rw [Array.all_eq_true_iff_forall_mem]
 intro x hx
 have hx':x∈s.toList.map Char.toNat:=by simpa using hx
 obtain ⟨c,_,rfl⟩:=List.mem_map.mp hx'
 have h:=c.valid
 refine decide_eq_true ?_
 have h2:c.toNat.isValidChar:=h
 unfold Nat.isValidChar at h2
 omega
theorem dat_strs {H:Hp}{f:V->Option PyData}:∀ ws:List Str,(∀ w∈ws,PyData.strOk w=true)->allSome ((ws.map V.str).map (datF H f))=some (ws.map PyData.str)
 | [],_=>rfl
 | w::ws,h=>by
  have ih:=dat_strs (H:=H) (f:=f) ws fun x hx=>h x (List.mem_cons_of_mem _ hx)
  have e:datF H f (.str w)=some (.str w):=if_pos (h w List.mem_cons_self)
  show (datF H f (.str w)).bind (fun d=>(allSome ((ws.map V.str).map (datF H f))).map fun ds=>d::ds)=_
  rw [e,ih]
  rfl
theorem strs_self:∀ ws:List Str,PyData.eqvAll (ws.map PyData.str) (ws.map PyData.str)=true
 | []=>rfl
 | w::ws=>by rw [List.map_cons,eqvAll_cons,eqv_str,strs_self ws,beq_self_eq_true];rfl
theorem wordsG_ok {xs:List Tl}(ok:XsOk xs):∀ w∈wordsG xs,PyData.strOk w=true:=fun w hw=>by
 rcases joinW_mem hw with rfl|⟨g,hg,hw⟩
 ·exact strOk_of "then"
 ·obtain ⟨x,hx,rfl⟩:=List.mem_map.mp hg
  rcases List.mem_cons.mp hw with rfl|hw
  ·exact wd_ok (ok.ok x hx).k
  ·obtain ⟨o,ho,rfl⟩:=List.mem_map.mp hw
   cases o with
   | none=>exact strOk_of "-"
   | some i=>exact strOk_of (toString i)
abbrev B_spLaw (K:PySem.W.Frag) (a:Addr) (H:Hp) (Q:VK) (E:XK):Prop:=∃ ns:List Int,SqL K H a (ns.map V.int)∧ns.length≤63∧∀ H',Q (.bl true) H'
def spLaw (K:PySem.W.Frag):Sp:=fun vs H Q E=>∃ (a:Addr),vs=[.ref a]∧(B_spLaw K a H Q E)
theorem l_spLaw (K:PySem.W.Frag){vs:List V}{H:Hp}{Q:VK}{E:XK}(h:spLaw K vs H Q E):vs.length=1:=spl1 h fun _=>rfl
theorem ok_law (T:Tx K mg t):FnOk P t.w K mg base CX0 11 t.a_law t.d_law ["_law_script"] (spLaw K):=by
 refine T.F_law.ok c_law (fun vs H Q E h=>l_spLaw _ h) (fun cdv A outer s' H vs Q E hr h=>?_)
 ·obtain ⟨a,rfl,ns,hS,hl,kk⟩:=h
  have G__law_draw:=ok__law_draw (P:=P) (base:=base) T a ns
  have G__law_told:=ok__law_told (P:=P) (base:=base) T a ns
  have G__law_words:=ok__law_words (P:=P) (base:=base) T
  have G__law_joined:=ok__law_joined (P:=P) (base:=base) T
  have G__law_bad:=ok__law_bad (P:=P) (base:=base) T a ns
  have G__law_refused:=ok__law_refused (P:=P) (base:=base) T
  have G_read_move:=ok_read_move (P:=P) (base:=base) T
  have MD_told:=MDt2 (P:=P) (base:=base) T
  refine ⟨_,(@pss_cons _ _ _ _ _ (@ps_setC _ _ _ _ _ _ _ _ _ _ _ _ _ (["_law_k", "_law_script", "_law_parts", "_law_words_here", "_law_told_here"]) (1) (1) _ c_law.nd rfl (Or.inl rfl) (comp_ok (defScope s_law) ["_law_script", "_law_parts", "_law_words_here", "_law_told_here"] rfl rfl (by decide +kernel)) rfl (@pi_range1 _ _ _ _ _ _ (by rfl) T.z_range (@pa_c _ _ _ _ _ (@pe_op _ _ _ _ _ _ _ _ on_add (@pe_int _ _ _ _) (@pe_call _ _ _ _ _ _ _ _ _ _ _ _ _ _ _ _ G__law_draw (hr.mono (by decide)) (by rfl) T.m__law_draw T.F__law_draw.kp T.b__law_draw .nil pass0 (@pa_c _ _ _ _ _ (@pvN _ 0 _ _ (by rfl) (by trivial) (by decide) (by decide)) (@pa_c _ _ _ _ _ (@pe_int _ _ _ _) (@pa_c _ _ _ _ _ (@pe_int _ _ _ _) (@pa_nil _) (by rfl)) (by rfl)) (by rfl)) (by decide) (by rfl) (by rfl))) (@pa_nil _) (by rfl)) (by rfl)) (fun C s₀ H₀ ex pn=>(@pg_name _ _ (0) _ (show List.Nodup (["_law_k", "_law_script", "_law_parts", "_law_words_here", "_law_told_here"]:List Str) from by decide +kernel) rfl (Or.inl rfl) (by trivial))) (fun C s₀ H₀ ex pn=>(@pts_nil _)) (fun C s₀ H₀ ex pn=>(@pe_call _ _ _ _ _ _ _ _ _ _ _ _ _ _ _ _ G__law_words (hr.mono (by decide)) (by rfl) T.m__law_words T.F__law_words.kp T.b__law_words .nil pass0 (@pa_c _ _ _ _ _ (@pe_call _ _ _ _ _ _ _ _ _ _ _ _ _ _ _ _ G__law_told (hr.mono (by decide)) (by rfl) T.m__law_told T.F__law_told.kp T.b__law_told .nil pass0 (@pa_c _ _ _ _ _ (@pvN _ 1 _ _ (by rfl) (by trivial) (by decide) (by decide)) (@pa_c _ _ _ _ _ (@pvN _ 0 _ _ (by rfl) (by trivial) (by decide) (by decide)) (@pa_nil _) (by rfl)) (by rfl)) (by decide) (by rfl) (by rfl)) (@pa_nil _) (by rfl)) (by decide) (by rfl) (by rfl))) (by rfl) (by intros;rfl) (by trivial)) (@pss_cons _ _ _ _ _ (@ps_set _ _ (2) _ _ _ _ c_law.nd rfl (Or.inl rfl) (@pe_call _ _ _ _ _ _ _ _ _ _ _ _ _ _ _ _ G__law_joined (hr.mono (by decide)) (by rfl) T.m__law_joined T.F__law_joined.kp T.b__law_joined .nil pass0 (@pa_c _ _ _ _ _ (@pvN _ 1 _ _ (by rfl) (by trivial) (by decide) (by decide)) (@pa_nil _) (by rfl)) (by decide) (by rfl) (by rfl)) (by rfl) (by trivial)) (@pss_cons _ _ _ _ _ (@ps_if _ _ _ _ _ _ _ _ (@pt_not _ _ _ _ (@pt_valN _ _ _ (@pe_call _ _ _ _ _ _ _ _ _ _ _ _ _ _ _ _ G__law_refused (hr.mono (by decide)) (by rfl) T.m__law_refused T.F__law_refused.kp T.b__law_refused .nil pass0 (@pa_c _ _ _ _ _ (@pe_call _ _ _ _ _ _ _ _ _ _ _ _ _ _ _ _ G__law_bad (hr.mono (by decide)) (by rfl) T.m__law_bad T.F__law_bad.kp T.b__law_bad .nil pass0 (@pa_c _ _ _ _ _ (@pvN _ 0 _ _ (by rfl) (by trivial) (by decide) (by decide)) (@pa_c _ _ _ _ _ (@pvN _ 1 _ _ (by rfl) (by trivial) (by decide) (by decide)) (@pa_nil _) (by rfl)) (by rfl)) (by decide) (by rfl) (by rfl)) (@pa_nil _) (by rfl)) (by decide) (by rfl) (by rfl)) (by intros;rfl))) (@pss_one _ _ _ (@ps_ret _ _ _ _ (@pe_bl _ _ _ _))) (@pss_nil _)) (@pss_cons _ _ _ _ _ (@ps_set _ _ (3) _ _ _ _ c_law.nd rfl (Or.inl rfl) (@pe_nMethD _ _ _ _ _ _ _ _ _ _ _ _ _ (@pe_call _ _ _ _ _ _ _ _ _ _ _ _ _ _ _ _ G_read_move (hr.mono (by decide)) (by rfl) T.m_read_move T.F_read_move.kp T.b_read_move .nil pass0 (@pa_c _ _ _ _ _ (@pvN _ 2 _ _ (by rfl) (by trivial) (by decide) (by decide)) (@pa_nil _) (by rfl)) (by decide) (by rfl) (by rfl)) MD_told (hr.mono (by decide)) pass0 (by rfl)) (by rfl) (by trivial)) (@pss_cons _ _ _ _ _ (@ps_if _ _ _ _ _ _ _ _ (@pt_cmpRN _ _ _ _ _ _ _ _ (op_qEq hr.units) (@pe_callB _ _ _ _ _ _ _ ("len") _ call_qLen (by rfl) T.z_len (by decide +kernel) (@pa_c _ _ _ _ _ (@pvN _ 1 _ _ (by rfl) (by trivial) (by decide) (by decide)) (@pa_nil _) (by rfl)) (by decide) (by decide) (by rfl) (by rfl)) (@pe_int _ _ _ _) (nomark _)) (@pss_one _ _ _ (@ps_ret _ _ _ _ (@pe_cmpR _ _ _ _ _ _ _ _ (op_qEq hr.units) (@pe_call _ _ _ _ _ _ _ _ _ _ _ _ _ _ _ _ G__law_words (hr.mono (by decide)) (by rfl) T.m__law_words T.F__law_words.kp T.b__law_words .nil pass0 (@pa_c _ _ _ _ _ (@pvN _ 3 _ _ (by rfl) (by trivial) (by decide) (by decide)) (@pa_nil _) (by rfl)) (by decide) (by rfl) (by rfl)) (@pvN _ 2 _ _ (by rfl) (by trivial) (by decide) (by decide)) (nomark _)))) (@pss_nil _)) (@pss_one _ _ _ (@ps_ret _ _ _ _ (@pe_cmpR _ _ _ _ _ _ _ _ (op_qEq hr.units) (@pe_call _ _ _ _ _ _ _ _ _ _ _ _ _ _ _ _ G__law_joined (hr.mono (by decide)) (by rfl) T.m__law_joined T.F__law_joined.kp T.b__law_joined .nil pass0 (@pa_c _ _ _ _ _ (@pe_comp _ _ _ _ _ _ _ _ _ _ _ (["_law_one", "_law_script", "_law_parts", "_law_words_here", "_law_told_here"]) (1) (comp_ok (defScope s_law) ["_law_script", "_law_parts", "_law_words_here", "_law_told_here"] rfl rfl (by decide +kernel)) rfl (@pi_seq _ _ _ _ (@pe_ix _ _ _ _ _ _ _ ix_q (@pvN _ 3 _ _ (by rfl) (by trivial) (by decide) (by decide)) (@pe_int _ _ _ _) (fun _ _=>rfl))) (fun C s₀ H₀ ex pn=>(@pg_name _ _ (0) _ (show List.Nodup (["_law_one", "_law_script", "_law_parts", "_law_words_here", "_law_told_here"]:List Str) from by decide +kernel) rfl (Or.inl rfl) (by trivial))) (fun C s₀ H₀ ex pn=>(@pts_nil _)) (fun C s₀ H₀ ex pn=>(@pe_call _ _ _ _ _ _ _ _ _ _ _ _ _ _ _ _ G__law_words (hr.mono (by decide)) (by rfl) T.m__law_words T.F__law_words.kp T.b__law_words .nil pass0 (@pa_c _ _ _ _ _ (@pvN _ 0 _ _ (by rfl) (by trivial) (by decide) (by decide)) (@pa_nil _) (by rfl)) (by decide) (by rfl) (by rfl))) (by intros;rfl)) (@pa_nil _) (by rfl)) (by decide) (by rfl) (by rfl)) (@pvN _ 2 _ _ (by rfl) (by trivial) (by decide) (by decide)) (nomark _))))))))),?_⟩
  rw [show start ["_law_script", "_law_parts", "_law_words_here", "_law_told_here"] [.ref a]=[some (.ref a),none,none,none] from rfl]
  clear G__law_draw G__law_told G__law_words G__law_joined G__law_bad G__law_refused G_read_move MD_told
  replace kk:=fun (_:Unit)=>kk
  simp! only [and_true]
  rw [c_spDraw]
  refine ⟨hS,hl,⟨by decide,by decide⟩,by decide,fun c c0 c1=>?_⟩
  simp! only [and_true]
  refine ⟨by omega,by omega,?_⟩
  refine comp_rel (List.range (1+c).toNat) (fun _=>true) (fun z x _=>x=V.int (0+(z:Int))) (fun D _ y H'=>∃ x:Tl,(∃ b,y=.ref b∧b ≠ D∧H' b=some (.lst ((wordsT x).map V.str)))∧TlOk x) wk_rng.1 wk_rng.2 (fun D _ y H1 H2 ⟨x,⟨b,h1,h2,h3⟩,h4⟩ e=>⟨x,⟨b,h1,h2,e.at h3⟩,h4⟩) (fun D _ y H1 o ⟨x,⟨b,h1,h2,h3⟩,h4⟩=>⟨x,⟨b,h1,h2,by rw [upd_ne h2];exact h3⟩,h4⟩) (len5000 (by rw [List.length_range];omega)) ?_ ?_
  ·intro D z v H' N1 N0 hz hD e ⟨ys0,hys0⟩ hv k1 _
   subst hv
   have k1':=k1 rfl
   have hz':z < (1+c).toNat:=List.mem_range.mp hz
   have hS':=e.2 K a _ hS
   clear k1 kk
   simp! only [↓m_kCm_1,↓m_kCm2]
   rw [c_spTold]
   refine ⟨rfl,hS',hl,by omega,by omega,fun x r H1 e1 tl ok=>?_⟩
   simp! only [and_true]
   rw [c_spWds]
   exact ⟨_,x,tl,ok,fun q H2 e2 hq h2=>k1' _ H2 (e1.trans e2) ⟨x,⟨q,rfl,(fun z=>by rw [z,e1.at hys0] at hq;cases hq),h2⟩,ok⟩⟩
  ·intro D zs H1 hD e1 hD1 al
   rw [filt] at al
   obtain ⟨xs,hxl,al2,oks⟩:=al_ex (R:=fun (x:Tl) y=>∃ b,y=V.ref b∧b ≠ D∧H1 b=some (.lst ((wordsT x).map V.str))) (O:=TlOk) al
   rw [List.length_range] at hxl
   have n1:1≤xs.length∧xs.length≤5:=by omega
   have hzl:zs.length=xs.length:=al2.1
   have pa:PtA H1 (xs.map wordsT) zs:=⟨by rw [List.length_map];exact hzl,fun i g y hg hy=>by
    rw [List.getElem?_map] at hg
    obtain ⟨x,hx,rfl⟩:=Option.map_eq_some_iff.mp hg
    obtain ⟨b,h1,_,h3⟩:=al2.2 i x y hx hy
    exact ⟨b,h1,h3⟩⟩
   have gok:=GsOk.of oks n1.2 n1.1
   have ok:XsOk xs:=⟨oks,by omega⟩
   have hne:xs ≠ []:=fun z=>by rw [z] at n1;exact absurd n1.1 (by decide)
   have hS1:=e1.2 K a _ hS
   clear al al2 hxl hS
   replace pa:=fun (_:Unit)=>pa
   replace gok:=fun (_:Unit)=>gok
   replace ok:=fun (_:Unit)=>ok
   replace oks:=fun (_:Unit)=>oks
   replace hne:=fun (_:Unit)=>hne
   replace hzl:=fun (_:Unit)=>hzl
   simp! only [and_true]
   rw [c_spJoi]
   refine ⟨xs.map wordsT,zs,hD1,pa (),(gok ()).ne,by rw [List.length_map];omega,fun g hg=>by have:=(gok ()).l g hg;omega,fun q H2 e2 _ hq=>?_⟩
   have hq':H2 q=some (.lst ((wordsG xs).map V.str)):=hq
   have hD2:=e2.at hD1
   have hS2:=e2.2 K a _ hS1
   have pa2:=(pa ()).ext e2
   clear hq hD1 hS1
   replace pa2:=fun (_:Unit)=>pa2
   simp! only [and_true]
   rw [c_spBad]
   refine ⟨rfl,hS2,hl,xs.map wordsT,zs,hD2,pa2 (),gok (),fun r H3 e3 rx=>?_⟩
   have hD3:=e3.at hD2
   have hq3:=e3.at hq'
   clear hD2 hq' hS2
   simp! only [and_true]
   rw [c_spRefd]
   refine ⟨rx,fun H4 e4=>?_⟩
   have hD4:=e4.at hD3
   have hq4:=e4.at hq3
   clear hD3 hq3 rx
   simp! only [and_true]
   rw [c_spRdM]
   refine ⟨xs,hq4,ok (),hne (),fun v H5 e5 mv=>?_⟩
   have hD5:=e5.at hD4
   have hq5:=e5.at hq4
   clear hD4 hq4
   simp! only [and_true]
   refine use_toldG mv (ok ()) fun r6 H6 e6 tl=>?_
   have hD6:=e6.at hD5
   have hq6:=e6.at hq5
   clear hD5 hq5 mv
   have hzs:zs.length≤sizeLine:=len5000 (by have:=hzl ();omega)
   have hdat:∀ (H':Hp) f,allSome (((wordsG xs).map V.str).map (datF H' f))=some ((wordsG xs).map PyData.str):=fun H' f=>dat_strs _ (wordsG_ok (ok ()))
   have hself:=strs_self (wordsG xs)
   replace hdat:=fun (_:Unit)=>hdat
   replace hself:=fun (_:Unit)=>hself
   rcases tl with ⟨x,hx,tl⟩|⟨h2,p,l,rs,rfl,hp,_,hl6,al⟩
   ·have z1:(zs.length:Int)=1:=by have:=hzl ();rw [this,hx];rfl
    have okx:=oks () x (by rw [hx];exact List.mem_cons_self)
    have hwx:wordsG xs=wordsT x:=by rw [hx];rfl
    replace hwx:=fun (_:Unit)=>hwx
    clear hx
    simp! only [and_true]
    rw [c_spWds]
    refine ⟨_,x,tl,okx,fun q7 H7 e7 _ h7=>?_⟩
    rw [←hwx ()] at h7
    have hq7:=e7.at hq6
    have hd:=hdat () H7
    have hs:=hself ()
    have k2:=kk () H7
    clear kk hq6 tl hD6 z1
    simp! only [and_true]
   ·have z1:¬ (zs.length:Int)=1:=by have:=hzl ();omega
    have hrl:rs.length=xs.length:=al.1
    replace hrl:=fun (_:Unit)=>hrl
    replace al:=fun (_:Unit)=>al
    simp! only [and_true]
    have wk:=wk_al (K:=K) (R:=fun (x:Tl) y H=>TlF H5 H y x) (fun _ _ _ _ h e=>h.ext e) hl6 (al ())
    refine comp_rel xs (fun _=>true) (fun (x:Tl) y H=>TlF H5 H y x) (fun D x y H'=>∃ b,y=V.ref b∧b ≠ D∧H' b=some (.lst ((wordsT x).map V.str))) wk.1 wk.2 (fun D _ y H1 H2 ⟨b,h1,h2,h3⟩ e=>⟨b,h1,h2,e.at h3⟩) (fun D _ y H1 o ⟨b,h1,h2,h3⟩=>⟨b,h1,h2,by rw [upd_ne h2];exact h3⟩) (len5000 (by omega)) ?_ ?_
    ·intro D' x y H' N1 N0 hx hD' e ⟨ys0,hys0⟩ hy k1 _
     have k1':=k1 rfl
     have okx:=oks () x hx
     clear k1 wk kk
     simp! only [↓m_kCm_1,↓m_kCm2]
     rw [c_spWds]
     exact ⟨_,x,hy,okx,fun q H2 e2 hq h2=>k1' _ H2 e2 ⟨q,rfl,(fun z=>by rw [z,hys0] at hq;cases hq),h2⟩⟩
    ·intro D' zs' H7 hD' e7 hD7 al7
     rw [filt] at al7
     have hzl':zs'.length=xs.length:=al7.1
     have pa7:PtA H7 (xs.map wordsT) zs':=⟨by rw [List.length_map];exact hzl',fun i g y hg hy=>by
      rw [List.getElem?_map] at hg
      obtain ⟨x,hx,rfl⟩:=Option.map_eq_some_iff.mp hg
      obtain ⟨b,h1,_,h3⟩:=al7.2 i x y hx hy
      exact ⟨b,h1,h3⟩⟩
     replace pa7:=fun (_:Unit)=>pa7
     replace hzl':=fun (_:Unit)=>hzl'
     clear al7 wk
     have hq7:=e7.at hq6
     simp! only [and_true]
     rw [c_spJoi]
     refine ⟨xs.map wordsT,zs',hD7,pa7 (),(gok ()).ne,by rw [List.length_map];omega,fun g hg=>by have:=(gok ()).l g hg;omega,fun q8 H8 e8 _ h8=>?_⟩
     have h8':H8 q8=some (.lst ((wordsG xs).map V.str)):=h8
     have hq8:=e8.at hq7
     have hd:=hdat () H8
     have hs:=hself ()
     have k2:=kk () H8
     clear kk hq7 hq6 h8 hD6 z1 hD7 hl6
     simp! only [and_true]
end
theorem all_mk {l:PySem.W.OpenLaw}{w:World}{K:PySem.W.Frag}{h:Heap}{mg:Str->Option Value}{fa:Addr}(X:K.In h) (G:h.Ns mainGlobals mg) (hfa:mg "law"=some (.ref fa))
  {C0:Addr} (y0:PySem.W.nsIn K mainGlobals "PaceError"=some (some (.ref C0)))
  {C1:Addr} (y1:PySem.W.nsIn K mainGlobals "NoStep"=some (some (.ref C1)))
  {C2:Addr} (y2:PySem.W.nsIn K mainGlobals "NoMove"=some (some (.ref C2)))
  {C3:Addr} (y3:PySem.W.nsIn K mainGlobals "NoRow"=some (some (.ref C3)))
  {C4:Addr} (y4:PySem.W.nsIn K mainGlobals "NoName"=some (some (.ref C4)))
  {C5:Addr} (y5:PySem.W.nsIn K mainGlobals "Move"=some (some (.ref C5)))
  {C6:Addr} (y6:PySem.W.nsIn K mainGlobals "Slice"=some (some (.ref C6)))
  {C7:Addr} (y7:PySem.W.nsIn K mainGlobals "Pick"=some (some (.ref C7)))
  {C8:Addr} (y8:PySem.W.nsIn K mainGlobals "Turn"=some (some (.ref C8)))
  {C9:Addr} (y9:PySem.W.nsIn K mainGlobals "Fresh"=some (some (.ref C9)))
  {C10:Addr} (y10:PySem.W.nsIn K mainGlobals "Spread"=some (some (.ref C10)))
  {C11:Addr} (y11:PySem.W.nsIn K mainGlobals "Cut"=some (some (.ref C11)))
  {C12:Addr} (y12:PySem.W.nsIn K mainGlobals "Window"=some (some (.ref C12)))
  {C13:Addr} (y13:PySem.W.nsIn K mainGlobals "Diagonal"=some (some (.ref C13)))
  {C14:Addr} (y14:PySem.W.nsIn K mainGlobals "Chain"=some (some (.ref C14)))
  (ocs:PySem.W.specialIn K (.builtin "object.__class__") "__get__"=some (some (.builtin "getset_descriptor.__get__")))
  (oct:PySem.W.takesIn K (.builtin "object.__class__")=some true)
  (fc_Move:PySem.W.findIn K (.ref C5) "__class__"=some (some (.builtin "object.__class__")))
  (mo_Move:PySem.W.mroIn K C5 (.type "object")=some true)
  (fc_Slice:PySem.W.findIn K (.ref C6) "__class__"=some (some (.builtin "object.__class__")))
  (mo_Slice:PySem.W.mroIn K C6 (.type "object")=some true)
  (fc_Pick:PySem.W.findIn K (.ref C7) "__class__"=some (some (.builtin "object.__class__")))
  (mo_Pick:PySem.W.mroIn K C7 (.type "object")=some true)
  (fc_Turn:PySem.W.findIn K (.ref C8) "__class__"=some (some (.builtin "object.__class__")))
  (mo_Turn:PySem.W.mroIn K C8 (.type "object")=some true)
  (fc_Fresh:PySem.W.findIn K (.ref C9) "__class__"=some (some (.builtin "object.__class__")))
  (mo_Fresh:PySem.W.mroIn K C9 (.type "object")=some true)
  (fc_Spread:PySem.W.findIn K (.ref C10) "__class__"=some (some (.builtin "object.__class__")))
  (mo_Spread:PySem.W.mroIn K C10 (.type "object")=some true)
  (fc_Cut:PySem.W.findIn K (.ref C11) "__class__"=some (some (.builtin "object.__class__")))
  (mo_Cut:PySem.W.mroIn K C11 (.type "object")=some true)
  (fc_Window:PySem.W.findIn K (.ref C12) "__class__"=some (some (.builtin "object.__class__")))
  (mo_Window:PySem.W.mroIn K C12 (.type "object")=some true)
  (fc_Diagonal:PySem.W.findIn K (.ref C13) "__class__"=some (some (.builtin "object.__class__")))
  (mo_Diagonal:PySem.W.mroIn K C13 (.type "object")=some true)
  (kc_Move_Chain:PySem.W.hasDictIn K C14=true)
  (kt_Move_Chain:PySem.W.typeIn K (.ref C14)=some (.type "type"))
  (ks_Move_Chain:PySem.W.subIn K (.ref C5) (.ref C14)=some false)
  (kn_Move_Chain:(C5 == C14)=false)
  (kc_Slice_Chain:PySem.W.hasDictIn K C14=true)
  (kt_Slice_Chain:PySem.W.typeIn K (.ref C14)=some (.type "type"))
  (ks_Slice_Chain:PySem.W.subIn K (.ref C6) (.ref C14)=some false)
  (kn_Slice_Chain:(C6 == C14)=false)
  (kc_Pick_Chain:PySem.W.hasDictIn K C14=true)
  (kt_Pick_Chain:PySem.W.typeIn K (.ref C14)=some (.type "type"))
  (ks_Pick_Chain:PySem.W.subIn K (.ref C7) (.ref C14)=some false)
  (kn_Pick_Chain:(C7 == C14)=false)
  (kc_Turn_Chain:PySem.W.hasDictIn K C14=true)
  (kt_Turn_Chain:PySem.W.typeIn K (.ref C14)=some (.type "type"))
  (ks_Turn_Chain:PySem.W.subIn K (.ref C8) (.ref C14)=some false)
  (kn_Turn_Chain:(C8 == C14)=false)
  (kc_Fresh_Chain:PySem.W.hasDictIn K C14=true)
  (kt_Fresh_Chain:PySem.W.typeIn K (.ref C14)=some (.type "type"))
  (ks_Fresh_Chain:PySem.W.subIn K (.ref C9) (.ref C14)=some false)
  (kn_Fresh_Chain:(C9 == C14)=false)
  (kc_Spread_Chain:PySem.W.hasDictIn K C14=true)
  (kt_Spread_Chain:PySem.W.typeIn K (.ref C14)=some (.type "type"))
  (ks_Spread_Chain:PySem.W.subIn K (.ref C10) (.ref C14)=some false)
  (kn_Spread_Chain:(C10 == C14)=false)
  (kc_Cut_Chain:PySem.W.hasDictIn K C14=true)
  (kt_Cut_Chain:PySem.W.typeIn K (.ref C14)=some (.type "type"))
  (ks_Cut_Chain:PySem.W.subIn K (.ref C11) (.ref C14)=some false)
  (kn_Cut_Chain:(C11 == C14)=false)
  (kc_Window_Chain:PySem.W.hasDictIn K C14=true)
  (kt_Window_Chain:PySem.W.typeIn K (.ref C14)=some (.type "type"))
  (ks_Window_Chain:PySem.W.subIn K (.ref C12) (.ref C14)=some false)
  (kn_Window_Chain:(C12 == C14)=false)
  (kc_Diagonal_Chain:PySem.W.hasDictIn K C14=true)
  (kt_Diagonal_Chain:PySem.W.typeIn K (.ref C14)=some (.type "type"))
  (ks_Diagonal_Chain:PySem.W.subIn K (.ref C13) (.ref C14)=some false)
  (kn_Diagonal_Chain:(C13 == C14)=false)
  (o_NoRow:PySem.W.excIn K C3 [.type "ValueError",.type "Exception",.type "BaseException",.type "object"] "ValueError.__new__"=true)
  (x_NoRow_NoRow:PySem.W.exmOne K (.ref C3) (.ref C3)=some true)
  (ga_NoRow:PySem.W.findIn K (.ref C3) "__getattribute__"=some (some (.builtin "BaseException.__getattribute__")))
  (gn_NoRow:PySem.W.findIn K (.ref C3) "__getattr__"=some none)
  (mb_NoRow:PySem.W.mroIn K C3 (.type "BaseException")=some true)
  (mo_NoRow:PySem.W.mroIn K C3 (.type "object")=some true)
  (fc_NoRow:PySem.W.findIn K (.ref C3) "__class__"=some (some (.builtin "object.__class__")))
  (hd_NoRow:PySem.W.hasDictIn K C3=true)
  (kc_NoRow_NoMove:PySem.W.hasDictIn K C2=true)
  (kt_NoRow_NoMove:PySem.W.typeIn K (.ref C2)=some (.type "type"))
  (ks_NoRow_NoMove:PySem.W.subIn K (.ref C3) (.ref C2)=some false)
  (kn_NoRow_NoMove:(C3 == C2)=false)
  (kc_NoRow_NoName:PySem.W.hasDictIn K C4=true)
  (kt_NoRow_NoName:PySem.W.typeIn K (.ref C4)=some (.type "type"))
  (ks_NoRow_NoName:PySem.W.subIn K (.ref C3) (.ref C4)=some false)
  (kn_NoRow_NoName:(C3 == C4)=false)
  (kc_NoRow_NoStep:PySem.W.hasDictIn K C1=true)
  (kt_NoRow_NoStep:PySem.W.typeIn K (.ref C1)=some (.type "type"))
  (ks_NoRow_NoStep:PySem.W.subIn K (.ref C3) (.ref C1)=some false)
  (kn_NoRow_NoStep:(C3 == C1)=false)
  (kc_NoRow_PaceError:PySem.W.hasDictIn K C0=true)
  (kt_NoRow_PaceError:PySem.W.typeIn K (.ref C0)=some (.type "type"))
  (ks_NoRow_PaceError:PySem.W.subIn K (.ref C3) (.ref C0)=some true)
  (ks_NoRow_ValueError:PySem.W.subIn K (.ref C3) (.type "ValueError")=some true)
  {f0:Addr} {d0:FuncData} (F0:Fun K "__init__" "NoName.__init__" s_NoName___init__ f0 d0)
  {f1:Addr} {d1:FuncData} (a1:PySem.W.nsIn K mainGlobals "is_whole"=some (some (.ref f1))) (F1:Fun K "is_whole" "is_whole" s_is_whole f1 d1)
  {f2:Addr} {d2:FuncData} (F2:Fun K "told" "Move.told" s_Move_told f2 d2)
  {D3:Addr} {qc3:Value} {qd3:Option Addr} {qn3:Nat} {qs3:Array (Option Value)}
  {f3:Addr} {od3 an3:Option Addr} {sl3:Array (Option Value)} {oc3 kV3 dc3 pm3 cd3 ct3:Value}
  (l3:K.lookup f3=some ⟨oc3,od3,.func (PySem.W.fnOf "__init__" "Slice.__init__" (defArgs s_Slice___init__) (defBody s_Slice___init__) (defScope s_Slice___init__) (.ref D3) kV3 dc3 pm3 an3 cd3 ct3),sl3⟩)
  (q3:K.lookup D3=some ⟨qc3,qd3,.seq #[Value.none,Value.none,Value.none] qn3,qs3⟩)
  (c3:PySem.W.codeIn K cd3 "Slice.__init__"=true) (k3:PySem.W.keepIn K (.ref f3)=true)
  {f4:Addr} {d4:FuncData} (F4:Fun K "told" "Slice.told" s_Slice_told f4 d4)
  {f5:Addr} {d5:FuncData} (F5:Fun K "__init__" "Pick.__init__" s_Pick___init__ f5 d5)
  {f6:Addr} {d6:FuncData} (F6:Fun K "told" "Pick.told" s_Pick_told f6 d6)
  {f7:Addr} {d7:FuncData} (F7:Fun K "__init__" "Turn.__init__" s_Turn___init__ f7 d7)
  {f8:Addr} {d8:FuncData} (F8:Fun K "told" "Turn.told" s_Turn_told f8 d8)
  {f9:Addr} {d9:FuncData} (F9:Fun K "__init__" "Fresh.__init__" s_Fresh___init__ f9 d9)
  {f10:Addr} {d10:FuncData} (F10:Fun K "told" "Fresh.told" s_Fresh_told f10 d10)
  {f11:Addr} {d11:FuncData} (F11:Fun K "__init__" "Spread.__init__" s_Spread___init__ f11 d11)
  {f12:Addr} {d12:FuncData} (F12:Fun K "told" "Spread.told" s_Spread_told f12 d12)
  {f13:Addr} {d13:FuncData} (F13:Fun K "__init__" "Cut.__init__" s_Cut___init__ f13 d13)
  {f14:Addr} {d14:FuncData} (F14:Fun K "told" "Cut.told" s_Cut_told f14 d14)
  {f15:Addr} {d15:FuncData} (F15:Fun K "__init__" "Window.__init__" s_Window___init__ f15 d15)
  {f16:Addr} {d16:FuncData} (F16:Fun K "told" "Window.told" s_Window_told f16 d16)
  {f17:Addr} {d17:FuncData} (F17:Fun K "__init__" "Diagonal.__init__" s_Diagonal___init__ f17 d17)
  {f18:Addr} {d18:FuncData} (F18:Fun K "told" "Diagonal.told" s_Diagonal_told f18 d18)
  {f19:Addr} {d19:FuncData} (F19:Fun K "__init__" "Chain.__init__" s_Chain___init__ f19 d19)
  {f20:Addr} {d20:FuncData} (F20:Fun K "told" "Chain.told" s_Chain_told f20 d20)
  {f21:Addr} {d21:FuncData} (a21:PySem.W.nsIn K mainGlobals "refuse_told"=some (some (.ref f21))) (F21:Fun K "refuse_told" "refuse_told" s_refuse_told f21 d21)
  {f22:Addr} {d22:FuncData} (a22:PySem.W.nsIn K mainGlobals "numbers_in"=some (some (.ref f22))) (F22:Fun K "numbers_in" "numbers_in" s_numbers_in f22 d22)
  {f23:Addr} {d23:FuncData} (a23:PySem.W.nsIn K mainGlobals "list_in"=some (some (.ref f23))) (F23:Fun K "list_in" "list_in" s_list_in f23 d23)
  {f24:Addr} {d24:FuncData} (a24:PySem.W.nsIn K mainGlobals "made_stay"=some (some (.ref f24))) (F24:Fun K "made_stay" "made_stay" s_made_stay f24 d24)
  {f25:Addr} {d25:FuncData} (a25:PySem.W.nsIn K mainGlobals "made_slice"=some (some (.ref f25))) (F25:Fun K "made_slice" "made_slice" s_made_slice f25 d25)
  {f26:Addr} {d26:FuncData} (a26:PySem.W.nsIn K mainGlobals "made_pick"=some (some (.ref f26))) (F26:Fun K "made_pick" "made_pick" s_made_pick f26 d26)
  {f27:Addr} {d27:FuncData} (a27:PySem.W.nsIn K mainGlobals "made_turn"=some (some (.ref f27))) (F27:Fun K "made_turn" "made_turn" s_made_turn f27 d27)
  {f28:Addr} {d28:FuncData} (a28:PySem.W.nsIn K mainGlobals "made_fresh"=some (some (.ref f28))) (F28:Fun K "made_fresh" "made_fresh" s_made_fresh f28 d28)
  {f29:Addr} {d29:FuncData} (a29:PySem.W.nsIn K mainGlobals "made_spread"=some (some (.ref f29))) (F29:Fun K "made_spread" "made_spread" s_made_spread f29 d29)
  {f30:Addr} {d30:FuncData} (a30:PySem.W.nsIn K mainGlobals "made_cut"=some (some (.ref f30))) (F30:Fun K "made_cut" "made_cut" s_made_cut f30 d30)
  {f31:Addr} {d31:FuncData} (a31:PySem.W.nsIn K mainGlobals "made_window"=some (some (.ref f31))) (F31:Fun K "made_window" "made_window" s_made_window f31 d31)
  {f32:Addr} {d32:FuncData} (a32:PySem.W.nsIn K mainGlobals "made_diagonal"=some (some (.ref f32))) (F32:Fun K "made_diagonal" "made_diagonal" s_made_diagonal f32 d32)
  {f33:Addr} {d33:FuncData} (a33:PySem.W.nsIn K mainGlobals "others_in"=some (some (.ref f33))) (F33:Fun K "others_in" "others_in" s_others_in f33 d33)
  {f34:Addr} {d34:FuncData} (a34:PySem.W.nsIn K mainGlobals "made_chain"=some (some (.ref f34))) (F34:Fun K "made_chain" "made_chain" s_made_chain f34 d34)
  {f35:Addr} {d35:FuncData} (a35:PySem.W.nsIn K mainGlobals "made_move"=some (some (.ref f35))) (F35:Fun K "made_move" "made_move" s_made_move f35 d35)
  {f36:Addr} {d36:FuncData} (a36:PySem.W.nsIn K mainGlobals "move_of"=some (some (.ref f36))) (F36:Fun K "move_of" "move_of" s_move_of f36 d36)
  {f37:Addr} {d37:FuncData} (a37:PySem.W.nsIn K mainGlobals "refuse_row"=some (some (.ref f37))) (F37:Fun K "refuse_row" "refuse_row" s_refuse_row f37 d37)
  {f38:Addr} {d38:FuncData} (a38:PySem.W.nsIn K mainGlobals "is_number"=some (some (.ref f38))) (F38:Fun K "is_number" "is_number" s_is_number f38 d38)
  {f39:Addr} {d39:FuncData} (a39:PySem.W.nsIn K mainGlobals "number_in"=some (some (.ref f39))) (F39:Fun K "number_in" "number_in" s_number_in f39 d39)
  {f40:Addr} {d40:FuncData} (a40:PySem.W.nsIn K mainGlobals "bound_in"=some (some (.ref f40))) (F40:Fun K "bound_in" "bound_in" s_bound_in f40 d40)
  {f41:Addr} {d41:FuncData} (a41:PySem.W.nsIn K mainGlobals "read_one"=some (some (.ref f41))) (F41:Fun K "read_one" "read_one" s_read_one f41 d41)
  {f42:Addr} {d42:FuncData} (a42:PySem.W.nsIn K mainGlobals "split_by_then"=some (some (.ref f42))) (F42:Fun K "split_by_then" "split_by_then" s_split_by_then f42 d42)
  {f43:Addr} {d43:FuncData} (a43:PySem.W.nsIn K mainGlobals "read_move"=some (some (.ref f43))) (F43:Fun K "read_move" "read_move" s_read_move f43 d43)
  {f44:Addr} {d44:FuncData} (a44:PySem.W.nsIn K mainGlobals "_law_draw"=some (some (.ref f44))) (F44:Fun K "_law_draw" "_law_draw" s__law_draw f44 d44)
  {f45:Addr} {d45:FuncData} (a45:PySem.W.nsIn K mainGlobals "_law_part"=some (some (.ref f45))) (F45:Fun K "_law_part" "_law_part" s__law_part f45 d45)
  {f46:Addr} {d46:FuncData} (a46:PySem.W.nsIn K mainGlobals "_law_told"=some (some (.ref f46))) (F46:Fun K "_law_told" "_law_told" s__law_told f46 d46)
  {f47:Addr} {d47:FuncData} (a47:PySem.W.nsIn K mainGlobals "_law_words"=some (some (.ref f47))) (F47:Fun K "_law_words" "_law_words" s__law_words f47 d47)
  {f48:Addr} {d48:FuncData} (a48:PySem.W.nsIn K mainGlobals "_law_number"=some (some (.ref f48))) (F48:Fun K "_law_number" "_law_number" s__law_number f48 d48)
  {f49:Addr} {d49:FuncData} (a49:PySem.W.nsIn K mainGlobals "_law_first"=some (some (.ref f49))) (F49:Fun K "_law_first" "_law_first" s__law_first f49 d49)
  {f50:Addr} {d50:FuncData} (a50:PySem.W.nsIn K mainGlobals "_law_spoilt"=some (some (.ref f50))) (F50:Fun K "_law_spoilt" "_law_spoilt" s__law_spoilt f50 d50)
  {f51:Addr} {d51:FuncData} (a51:PySem.W.nsIn K mainGlobals "_law_joined"=some (some (.ref f51))) (F51:Fun K "_law_joined" "_law_joined" s__law_joined f51 d51)
  {f52:Addr} {d52:FuncData} (a52:PySem.W.nsIn K mainGlobals "_law_bad"=some (some (.ref f52))) (F52:Fun K "_law_bad" "_law_bad" s__law_bad f52 d52)
  {f53:Addr} {d53:FuncData} (a53:PySem.W.nsIn K mainGlobals "_law_refused"=some (some (.ref f53))) (F53:Fun K "_law_refused" "_law_refused" s__law_refused f53 d53)
  {f54:Addr} {od54 an54:Option Addr} {sl54:Array (Option Value)} {oc54 kV54 dc54 pm54 cd54 ct54:Value}
  (a54:PySem.W.nsIn K mainGlobals "law"=some (some (.ref f54))) (l54:K.lookup f54=some ⟨oc54,od54,.func (PySem.W.fnOf "law" "law" (defArgs s_law) (defBody s_law) (defScope s_law) .none kV54 dc54 pm54 an54 cd54 ct54),sl54⟩)
  (c54:PySem.W.codeIn K cd54 "law"=true) (k54:PySem.W.keepIn K (.ref f54)=true)
  (fi_NoName:PySem.W.findIn K (.ref C4) "__init__"=some (some (.ref f0)))
  (xe_NoName:excInI K C4 f0 [.type "ValueError",.type "Exception",.type "BaseException",.type "object"] "ValueError.__new__"=true)
  (xf_NoName:PySem.W.typeIn K (.ref f0)=some (.type "function"))
  (xo_NoName:excOver K C4=true)
  (xs_NoName:PySem.W.findIn K (.ref C4) "__setattr__"=some (some (.builtin "object.__setattr__")))
  (xh_NoName:PySem.W.hasDictIn K C4=true)
  (nt_NoName_name:PySem.W.takerIn K C4 "name"=some none)
  (nf_NoName_name:PySem.W.findIn K (.ref C4) "name"=some none)
  (bs_PaceError:PySem.W.specialIn K (.ref C0) "__getattribute__"=some (some (.builtin "type.__getattribute__")))
  (br_PaceError:PySem.W.readsIn K C0 (.type "type")=true)
  (bf_PaceError:PySem.W.findCls K (.ref C0) (.type "type") "__init__"=some (.val (.builtin "ValueError.__init__")))
  (pg_Move:PySem.W.plainGet K C5 Str.empty=true)
  (hd_Move:PySem.W.hasDictIn K C5=true)
  (po_Move:PySem.W.plainOver K C5=true)
  (sa_Move:PySem.W.findIn K (.ref C5) "__setattr__"=some (some (.builtin "object.__setattr__")))
  (mm_Move:PySem.W.makesIn K C5=true)
  (ck_Move:PySem.W.keepIn K (.ref C5)=true)
  (fi0_Move:PySem.W.findIn K (.ref C5) "__init__"=some (some (.builtin "object.__init__")))
  (fi_Move_told:PySem.W.findIn K (.ref C5) "told"=some (some (.ref f2)))
  (fn_Move_told:PySem.W.isFn K (.ref f2)=true)
  (pg_Slice:PySem.W.plainGet K C6 Str.empty=true)
  (hd_Slice:PySem.W.hasDictIn K C6=true)
  (po_Slice:PySem.W.plainOver K C6=true)
  (sa_Slice:PySem.W.findIn K (.ref C6) "__setattr__"=some (some (.builtin "object.__setattr__")))
  (nf_Slice_axis:PySem.W.findIn K (.ref C6) "axis"=some none)
  (nf_Slice_start:PySem.W.findIn K (.ref C6) "start"=some none)
  (nf_Slice_step:PySem.W.findIn K (.ref C6) "step"=some none)
  (nf_Slice_stop:PySem.W.findIn K (.ref C6) "stop"=some none)
  (fi_Slice_told:PySem.W.findIn K (.ref C6) "told"=some (some (.ref f4)))
  (fn_Slice_told:PySem.W.isFn K (.ref f4)=true)
  (fi_Slice___init__:PySem.W.findIn K (.ref C6) "__init__"=some (some (.ref f3)))
  (fn_Slice___init__:PySem.W.isFn K (.ref f3)=true)
  (mm_Slice:PySem.W.makesIn K C6=true)
  (ck_Slice:PySem.W.keepIn K (.ref C6)=true)
  (pg_Pick:PySem.W.plainGet K C7 Str.empty=true)
  (hd_Pick:PySem.W.hasDictIn K C7=true)
  (po_Pick:PySem.W.plainOver K C7=true)
  (sa_Pick:PySem.W.findIn K (.ref C7) "__setattr__"=some (some (.builtin "object.__setattr__")))
  (nf_Pick_at:PySem.W.findIn K (.ref C7) "at"=some none)
  (nf_Pick_axis:PySem.W.findIn K (.ref C7) "axis"=some none)
  (fi_Pick_told:PySem.W.findIn K (.ref C7) "told"=some (some (.ref f6)))
  (fn_Pick_told:PySem.W.isFn K (.ref f6)=true)
  (fi_Pick___init__:PySem.W.findIn K (.ref C7) "__init__"=some (some (.ref f5)))
  (fn_Pick___init__:PySem.W.isFn K (.ref f5)=true)
  (mm_Pick:PySem.W.makesIn K C7=true)
  (ck_Pick:PySem.W.keepIn K (.ref C7)=true)
  (pg_Turn:PySem.W.plainGet K C8 Str.empty=true)
  (hd_Turn:PySem.W.hasDictIn K C8=true)
  (po_Turn:PySem.W.plainOver K C8=true)
  (sa_Turn:PySem.W.findIn K (.ref C8) "__setattr__"=some (some (.builtin "object.__setattr__")))
  (nf_Turn_order:PySem.W.findIn K (.ref C8) "order"=some none)
  (fi_Turn_told:PySem.W.findIn K (.ref C8) "told"=some (some (.ref f8)))
  (fn_Turn_told:PySem.W.isFn K (.ref f8)=true)
  (fi_Turn___init__:PySem.W.findIn K (.ref C8) "__init__"=some (some (.ref f7)))
  (fn_Turn___init__:PySem.W.isFn K (.ref f7)=true)
  (mm_Turn:PySem.W.makesIn K C8=true)
  (ck_Turn:PySem.W.keepIn K (.ref C8)=true)
  (pg_Fresh:PySem.W.plainGet K C9 Str.empty=true)
  (hd_Fresh:PySem.W.hasDictIn K C9=true)
  (po_Fresh:PySem.W.plainOver K C9=true)
  (sa_Fresh:PySem.W.findIn K (.ref C9) "__setattr__"=some (some (.builtin "object.__setattr__")))
  (nf_Fresh_axis:PySem.W.findIn K (.ref C9) "axis"=some none)
  (fi_Fresh_told:PySem.W.findIn K (.ref C9) "told"=some (some (.ref f10)))
  (fn_Fresh_told:PySem.W.isFn K (.ref f10)=true)
  (fi_Fresh___init__:PySem.W.findIn K (.ref C9) "__init__"=some (some (.ref f9)))
  (fn_Fresh___init__:PySem.W.isFn K (.ref f9)=true)
  (mm_Fresh:PySem.W.makesIn K C9=true)
  (ck_Fresh:PySem.W.keepIn K (.ref C9)=true)
  (pg_Spread:PySem.W.plainGet K C10 Str.empty=true)
  (hd_Spread:PySem.W.hasDictIn K C10=true)
  (po_Spread:PySem.W.plainOver K C10=true)
  (sa_Spread:PySem.W.findIn K (.ref C10) "__setattr__"=some (some (.builtin "object.__setattr__")))
  (nf_Spread_axis:PySem.W.findIn K (.ref C10) "axis"=some none)
  (nf_Spread_size:PySem.W.findIn K (.ref C10) "size"=some none)
  (fi_Spread_told:PySem.W.findIn K (.ref C10) "told"=some (some (.ref f12)))
  (fn_Spread_told:PySem.W.isFn K (.ref f12)=true)
  (fi_Spread___init__:PySem.W.findIn K (.ref C10) "__init__"=some (some (.ref f11)))
  (fn_Spread___init__:PySem.W.isFn K (.ref f11)=true)
  (mm_Spread:PySem.W.makesIn K C10=true)
  (ck_Spread:PySem.W.keepIn K (.ref C10)=true)
  (pg_Cut:PySem.W.plainGet K C11 Str.empty=true)
  (hd_Cut:PySem.W.hasDictIn K C11=true)
  (po_Cut:PySem.W.plainOver K C11=true)
  (sa_Cut:PySem.W.findIn K (.ref C11) "__setattr__"=some (some (.builtin "object.__setattr__")))
  (nf_Cut_axis:PySem.W.findIn K (.ref C11) "axis"=some none)
  (nf_Cut_inner:PySem.W.findIn K (.ref C11) "inner"=some none)
  (fi_Cut_told:PySem.W.findIn K (.ref C11) "told"=some (some (.ref f14)))
  (fn_Cut_told:PySem.W.isFn K (.ref f14)=true)
  (fi_Cut___init__:PySem.W.findIn K (.ref C11) "__init__"=some (some (.ref f13)))
  (fn_Cut___init__:PySem.W.isFn K (.ref f13)=true)
  (mm_Cut:PySem.W.makesIn K C11=true)
  (ck_Cut:PySem.W.keepIn K (.ref C11)=true)
  (pg_Window:PySem.W.plainGet K C12 Str.empty=true)
  (hd_Window:PySem.W.hasDictIn K C12=true)
  (po_Window:PySem.W.plainOver K C12=true)
  (sa_Window:PySem.W.findIn K (.ref C12) "__setattr__"=some (some (.builtin "object.__setattr__")))
  (nf_Window_axis:PySem.W.findIn K (.ref C12) "axis"=some none)
  (nf_Window_size:PySem.W.findIn K (.ref C12) "size"=some none)
  (fi_Window_told:PySem.W.findIn K (.ref C12) "told"=some (some (.ref f16)))
  (fn_Window_told:PySem.W.isFn K (.ref f16)=true)
  (fi_Window___init__:PySem.W.findIn K (.ref C12) "__init__"=some (some (.ref f15)))
  (fn_Window___init__:PySem.W.isFn K (.ref f15)=true)
  (mm_Window:PySem.W.makesIn K C12=true)
  (ck_Window:PySem.W.keepIn K (.ref C12)=true)
  (pg_Diagonal:PySem.W.plainGet K C13 Str.empty=true)
  (hd_Diagonal:PySem.W.hasDictIn K C13=true)
  (po_Diagonal:PySem.W.plainOver K C13=true)
  (sa_Diagonal:PySem.W.findIn K (.ref C13) "__setattr__"=some (some (.builtin "object.__setattr__")))
  (nf_Diagonal_one:PySem.W.findIn K (.ref C13) "one"=some none)
  (nf_Diagonal_other:PySem.W.findIn K (.ref C13) "other"=some none)
  (fi_Diagonal_told:PySem.W.findIn K (.ref C13) "told"=some (some (.ref f18)))
  (fn_Diagonal_told:PySem.W.isFn K (.ref f18)=true)
  (fi_Diagonal___init__:PySem.W.findIn K (.ref C13) "__init__"=some (some (.ref f17)))
  (fn_Diagonal___init__:PySem.W.isFn K (.ref f17)=true)
  (mm_Diagonal:PySem.W.makesIn K C13=true)
  (ck_Diagonal:PySem.W.keepIn K (.ref C13)=true)
  (pg_Chain:PySem.W.plainGet K C14 Str.empty=true)
  (hd_Chain:PySem.W.hasDictIn K C14=true)
  (po_Chain:PySem.W.plainOver K C14=true)
  (sa_Chain:PySem.W.findIn K (.ref C14) "__setattr__"=some (some (.builtin "object.__setattr__")))
  (nf_Chain_moves:PySem.W.findIn K (.ref C14) "moves"=some none)
  (fi_Chain_told:PySem.W.findIn K (.ref C14) "told"=some (some (.ref f20)))
  (fn_Chain_told:PySem.W.isFn K (.ref f20)=true)
  (fi_Chain___init__:PySem.W.findIn K (.ref C14) "__init__"=some (some (.ref f19)))
  (fn_Chain___init__:PySem.W.isFn K (.ref f19)=true)
  (mm_Chain:PySem.W.makesIn K C14=true)
  (ck_Chain:PySem.W.keepIn K (.ref C14)=true)
  {tk0:Tok} (w0:PySem.W.nsIn K mainGlobals "MOST_AXES"=some (some (.int 8 tk0)))
  {tk1:Tok} (w1:PySem.W.nsIn K mainGlobals "MOST_MOVES"=some (some (.int 40 tk1)))
  {tk2:Tok} (w2:PySem.W.nsIn K mainGlobals "MOST_DEEP"=some (some (.int 4 tk2)))
  {tk3:Tok} (w3:PySem.W.nsIn K mainGlobals "FIGURES"=some (some (.str "0123456789" tk3)))
  {tk4:Tok} (w4:PySem.W.nsIn K mainGlobals "MOST_FIGURES"=some (some (.int 20 tk4)))
  {aK0:Addr} {oK0:Obj} {tK0_0 tK0_1 tK0_2 tK0_3 tK0_4 tK0_5 tK0_6 tK0_7 tK0_8:Tok} (yK0:PySem.W.nsIn K mainGlobals "MAKERS"=some (some (.ref aK0))) (lK0:K.lookup aK0=some oK0) (nK0:(aK0 == sysModules)=false) (eK0:oK0=dicO w [("stay",tK0_0,.ref f24),("slice",tK0_1,.ref f25),("pick",tK0_2,.ref f26),("turn",tK0_3,.ref f27),("fresh",tK0_4,.ref f28),("spread",tK0_5,.ref f29),("cut",tK0_6,.ref f30),("window",tK0_7,.ref f31),("diagonal",tK0_8,.ref f32)])
  {aK1:Addr} {oK1:Obj} {tK1_0 uK1_0 tK1_1 uK1_1 tK1_2 uK1_2 tK1_3 uK1_3 tK1_4 uK1_4 tK1_5 uK1_5 tK1_6 uK1_6 tK1_7 uK1_7:Tok} (yK1:PySem.W.nsIn K mainGlobals "MOVES"=some (some (.ref aK1))) (lK1:K.lookup aK1=some oK1) (nK1:(aK1 == sysModules)=false) (eK1:oK1=dicO w [("stay",tK1_0,.int 0 uK1_0),("slice",tK1_1,.int 4 uK1_1),("pick",tK1_2,.int 2 uK1_2),("fresh",tK1_3,.int 1 uK1_3),("spread",tK1_4,.int 2 uK1_4),("cut",tK1_5,.int 2 uK1_5),("window",tK1_6,.int 2 uK1_6),("diagonal",tK1_7,.int 2 uK1_7)])
  (z0:PySem.W.nsIn K mainGlobals "ValueError"=some none)
  (z1:PySem.W.nsIn K mainGlobals "all"=some none)
  (z2:PySem.W.nsIn K mainGlobals "bool"=some none)
  (z3:PySem.W.nsIn K mainGlobals "int"=some none)
  (z4:PySem.W.nsIn K mainGlobals "isinstance"=some none)
  (z5:PySem.W.nsIn K mainGlobals "len"=some none)
  (z6:PySem.W.nsIn K mainGlobals "list"=some none)
  (z7:PySem.W.nsIn K mainGlobals "range"=some none)
  (z8:PySem.W.nsIn K mainGlobals "str"=some none)
  (z9:PySem.W.nsIn K mainGlobals "sum"=some none)
  (z10:PySem.W.nsIn K mainGlobals "tuple"=some none)
  : ∃ fd:FuncData,(∀ (s:Shared) (v:Value),BindsTo s fd ⟨[v],[]⟩ [("_law_script",v)])∧∀ base:Heap,K.In base->base.Ns mainGlobals mg->FnOk l.prog w K mg base CX0 11 fa fd ["_law_script"] (spLaw K):=by
 have e:=hfa.symm.trans (PySem.W.mg_of X G a54)
 cases e
 have F3:=funX_mk (st:=s_Slice___init__) l3 c3 k3
 have F54:=fun_mk (st:=s_law) l54 c54 k54
 have T:Tx K mg ⟨C0,C1,C2,C3,C4,C5,C6,C7,C8,C9,C10,C11,C12,C13,C14,f0,_,f1,_,f2,_,f3,_,f4,_,f5,_,f6,_,f7,_,f8,_,f9,_,f10,_,f11,_,f12,_,f13,_,f14,_,f15,_,f16,_,f17,_,f18,_,f19,_,f20,_,f21,_,f22,_,f23,_,f24,_,f25,_,f26,_,f27,_,f28,_,f29,_,f30,_,f31,_,f32,_,f33,_,f34,_,f35,_,f36,_,f37,_,f38,_,f39,_,f40,_,f41,_,f42,_,f43,_,f44,_,f45,_,f46,_,f47,_,f48,_,f49,_,f50,_,f51,_,f52,_,f53,_,fa,_,aK0,aK1,w⟩:=⟨PySem.W.mg_of X G y0,PySem.W.mg_of X G y1,PySem.W.mg_of X G y2,PySem.W.mg_of X G y3,PySem.W.mg_of X G y4,PySem.W.mg_of X G y5,PySem.W.mg_of X G y6,PySem.W.mg_of X G y7,PySem.W.mg_of X G y8,PySem.W.mg_of X G y9,PySem.W.mg_of X G y10,PySem.W.mg_of X G y11,PySem.W.mg_of X G y12,PySem.W.mg_of X G y13,PySem.W.mg_of X G y14,ocs,oct,fc_Move,mo_Move,fc_Slice,mo_Slice,fc_Pick,mo_Pick,fc_Turn,mo_Turn,fc_Fresh,mo_Fresh,fc_Spread,mo_Spread,fc_Cut,mo_Cut,fc_Window,mo_Window,fc_Diagonal,mo_Diagonal,kc_Move_Chain,kt_Move_Chain,ks_Move_Chain,kn_Move_Chain,kc_Slice_Chain,kt_Slice_Chain,ks_Slice_Chain,kn_Slice_Chain,kc_Pick_Chain,kt_Pick_Chain,ks_Pick_Chain,kn_Pick_Chain,kc_Turn_Chain,kt_Turn_Chain,ks_Turn_Chain,kn_Turn_Chain,kc_Fresh_Chain,kt_Fresh_Chain,ks_Fresh_Chain,kn_Fresh_Chain,kc_Spread_Chain,kt_Spread_Chain,ks_Spread_Chain,kn_Spread_Chain,kc_Cut_Chain,kt_Cut_Chain,ks_Cut_Chain,kn_Cut_Chain,kc_Window_Chain,kt_Window_Chain,ks_Window_Chain,kn_Window_Chain,kc_Diagonal_Chain,kt_Diagonal_Chain,ks_Diagonal_Chain,kn_Diagonal_Chain,o_NoRow,x_NoRow_NoRow,ga_NoRow,gn_NoRow,mb_NoRow,mo_NoRow,fc_NoRow,hd_NoRow,kc_NoRow_NoMove,kt_NoRow_NoMove,ks_NoRow_NoMove,kn_NoRow_NoMove,kc_NoRow_NoName,kt_NoRow_NoName,ks_NoRow_NoName,kn_NoRow_NoName,kc_NoRow_NoStep,kt_NoRow_NoStep,ks_NoRow_NoStep,kn_NoRow_NoStep,kc_NoRow_PaceError,kt_NoRow_PaceError,ks_NoRow_PaceError,ks_NoRow_ValueError,⟨_,PySem.W.mg_of X G w0⟩,⟨_,PySem.W.mg_of X G w1⟩,⟨_,PySem.W.mg_of X G w2⟩,⟨_,PySem.W.mg_of X G w3⟩,⟨_,PySem.W.mg_of X G w4⟩,PySem.W.mg_of X G yK0,⟨[("stay",tK0_0,.ref f24),("slice",tK0_1,.ref f25),("pick",tK0_2,.ref f26),("turn",tK0_3,.ref f27),("fresh",tK0_4,.ref f28),("spread",tK0_5,.ref f29),("cut",tK0_6,.ref f30),("window",tK0_7,.ref f31),("diagonal",tK0_8,.ref f32)],eK0 ▸ lK0,nK0,(show List.Nodup (["stay", "slice", "pick", "turn", "fresh", "spread", "cut", "window", "diagonal"]:List Str) by decide +kernel),(.cons ⟨rfl,rfl⟩ (.cons ⟨rfl,rfl⟩ (.cons ⟨rfl,rfl⟩ (.cons ⟨rfl,rfl⟩ (.cons ⟨rfl,rfl⟩ (.cons ⟨rfl,rfl⟩ (.cons ⟨rfl,rfl⟩ (.cons ⟨rfl,rfl⟩ (.cons ⟨rfl,rfl⟩ .nil)))))))))⟩,PySem.W.mg_of X G yK1,⟨[("stay",tK1_0,.int 0 uK1_0),("slice",tK1_1,.int 4 uK1_1),("pick",tK1_2,.int 2 uK1_2),("fresh",tK1_3,.int 1 uK1_3),("spread",tK1_4,.int 2 uK1_4),("cut",tK1_5,.int 2 uK1_5),("window",tK1_6,.int 2 uK1_6),("diagonal",tK1_7,.int 2 uK1_7)],eK1 ▸ lK1,nK1,(show List.Nodup (["stay", "slice", "pick", "fresh", "spread", "cut", "window", "diagonal"]:List Str) by decide +kernel),(.cons ⟨rfl,⟨_,rfl⟩⟩ (.cons ⟨rfl,⟨_,rfl⟩⟩ (.cons ⟨rfl,⟨_,rfl⟩⟩ (.cons ⟨rfl,⟨_,rfl⟩⟩ (.cons ⟨rfl,⟨_,rfl⟩⟩ (.cons ⟨rfl,⟨_,rfl⟩⟩ (.cons ⟨rfl,⟨_,rfl⟩⟩ (.cons ⟨rfl,⟨_,rfl⟩⟩ .nil))))))))⟩,⟨xe_NoName,xf_NoName,⟨xo_NoName,xs_NoName,xh_NoName⟩⟩,nt_NoName_name,nf_NoName_name,⟨bs_PaceError,br_PaceError,bf_PaceError⟩,⟨pg_Move,hd_Move,po_Move,sa_Move⟩,⟨mm_Move,fi0_Move,ck_Move⟩,⟨fi_Move_told,fn_Move_told,F2.kp⟩,⟨pg_Slice,hd_Slice,po_Slice,sa_Slice⟩,nf_Slice_axis,nf_Slice_start,nf_Slice_step,nf_Slice_stop,⟨fi_Slice_told,fn_Slice_told,F4.kp⟩,⟨mm_Slice,fi_Slice___init__,fn_Slice___init__,ck_Slice⟩,⟨pg_Pick,hd_Pick,po_Pick,sa_Pick⟩,nf_Pick_at,nf_Pick_axis,⟨fi_Pick_told,fn_Pick_told,F6.kp⟩,⟨mm_Pick,fi_Pick___init__,fn_Pick___init__,ck_Pick⟩,⟨pg_Turn,hd_Turn,po_Turn,sa_Turn⟩,nf_Turn_order,⟨fi_Turn_told,fn_Turn_told,F8.kp⟩,⟨mm_Turn,fi_Turn___init__,fn_Turn___init__,ck_Turn⟩,⟨pg_Fresh,hd_Fresh,po_Fresh,sa_Fresh⟩,nf_Fresh_axis,⟨fi_Fresh_told,fn_Fresh_told,F10.kp⟩,⟨mm_Fresh,fi_Fresh___init__,fn_Fresh___init__,ck_Fresh⟩,⟨pg_Spread,hd_Spread,po_Spread,sa_Spread⟩,nf_Spread_axis,nf_Spread_size,⟨fi_Spread_told,fn_Spread_told,F12.kp⟩,⟨mm_Spread,fi_Spread___init__,fn_Spread___init__,ck_Spread⟩,⟨pg_Cut,hd_Cut,po_Cut,sa_Cut⟩,nf_Cut_axis,nf_Cut_inner,⟨fi_Cut_told,fn_Cut_told,F14.kp⟩,⟨mm_Cut,fi_Cut___init__,fn_Cut___init__,ck_Cut⟩,⟨pg_Window,hd_Window,po_Window,sa_Window⟩,nf_Window_axis,nf_Window_size,⟨fi_Window_told,fn_Window_told,F16.kp⟩,⟨mm_Window,fi_Window___init__,fn_Window___init__,ck_Window⟩,⟨pg_Diagonal,hd_Diagonal,po_Diagonal,sa_Diagonal⟩,nf_Diagonal_one,nf_Diagonal_other,⟨fi_Diagonal_told,fn_Diagonal_told,F18.kp⟩,⟨mm_Diagonal,fi_Diagonal___init__,fn_Diagonal___init__,ck_Diagonal⟩,⟨pg_Chain,hd_Chain,po_Chain,sa_Chain⟩,nf_Chain_moves,⟨fi_Chain_told,fn_Chain_told,F20.kp⟩,⟨mm_Chain,fi_Chain___init__,fn_Chain___init__,ck_Chain⟩,F0,F0.binds (ps:=["self", "name"]) (fun _ _ _ _ _ _=>len2 (fun _ _=>rfl)),F1,PySem.W.mg_of X G a1,F1.binds (ps:=["thing"]) (fun _ _ _ _ _ _=>len1 (fun _=>rfl)),F2,F2.binds (ps:=["self"]) (fun _ _ _ _ _ _=>len1 (fun _=>rfl)),F3,(fun s us hin hl=>match us,(show us.length=5 by simp only [List.length_append,List.length_cons,List.length_nil] at hl;omega) with|[_,_,_,_,_],_=>BindsTo.of_defaults rfl (hin _ _ q3) rfl rfl rfl),(fun s us hin hl=>match us,(show us.length=2 by simp only [List.length_append,List.length_cons,List.length_nil] at hl;omega) with|[_,_],_=>BindsTo.of_defaults rfl (hin _ _ q3) rfl rfl rfl),(fun s us hin hl=>match us,(show us.length=3 by simp only [List.length_append,List.length_cons,List.length_nil] at hl;omega) with|[_,_,_],_=>BindsTo.of_defaults rfl (hin _ _ q3) rfl rfl rfl),(fun s us hin hl=>match us,(show us.length=4 by simp only [List.length_append,List.length_cons,List.length_nil] at hl;omega) with|[_,_,_,_],_=>BindsTo.of_defaults rfl (hin _ _ q3) rfl rfl rfl),F4,F4.binds (ps:=["self"]) (fun _ _ _ _ _ _=>len1 (fun _=>rfl)),F5,F5.binds (ps:=["self", "axis", "at"]) (fun _ _ _ _ _ _=>len3 (fun _ _ _=>rfl)),F6,F6.binds (ps:=["self"]) (fun _ _ _ _ _ _=>len1 (fun _=>rfl)),F7,F7.binds (ps:=["self", "order"]) (fun _ _ _ _ _ _=>len2 (fun _ _=>rfl)),F8,F8.binds (ps:=["self"]) (fun _ _ _ _ _ _=>len1 (fun _=>rfl)),F9,F9.binds (ps:=["self", "axis"]) (fun _ _ _ _ _ _=>len2 (fun _ _=>rfl)),F10,F10.binds (ps:=["self"]) (fun _ _ _ _ _ _=>len1 (fun _=>rfl)),F11,F11.binds (ps:=["self", "axis", "size"]) (fun _ _ _ _ _ _=>len3 (fun _ _ _=>rfl)),F12,F12.binds (ps:=["self"]) (fun _ _ _ _ _ _=>len1 (fun _=>rfl)),F13,F13.binds (ps:=["self", "axis", "inner"]) (fun _ _ _ _ _ _=>len3 (fun _ _ _=>rfl)),F14,F14.binds (ps:=["self"]) (fun _ _ _ _ _ _=>len1 (fun _=>rfl)),F15,F15.binds (ps:=["self", "axis", "size"]) (fun _ _ _ _ _ _=>len3 (fun _ _ _=>rfl)),F16,F16.binds (ps:=["self"]) (fun _ _ _ _ _ _=>len1 (fun _=>rfl)),F17,F17.binds (ps:=["self", "one", "other"]) (fun _ _ _ _ _ _=>len3 (fun _ _ _=>rfl)),F18,F18.binds (ps:=["self"]) (fun _ _ _ _ _ _=>len1 (fun _=>rfl)),F19,F19.binds (ps:=["self", "moves"]) (fun _ _ _ _ _ _=>len2 (fun _ _=>rfl)),F20,F20.binds (ps:=["self"]) (fun _ _ _ _ _ _=>len1 (fun _=>rfl)),F21,PySem.W.mg_of X G a21,F21.binds (ps:=["good"]) (fun _ _ _ _ _ _=>len1 (fun _=>rfl)),F22,PySem.W.mg_of X G a22,F22.binds (ps:=["told", "many"]) (fun _ _ _ _ _ _=>len2 (fun _ _=>rfl)),F23,PySem.W.mg_of X G a23,F23.binds (ps:=["told"]) (fun _ _ _ _ _ _=>len1 (fun _=>rfl)),F24,PySem.W.mg_of X G a24,F24.binds (ps:=["told"]) (fun _ _ _ _ _ _=>len1 (fun _=>rfl)),F25,PySem.W.mg_of X G a25,F25.binds (ps:=["told"]) (fun _ _ _ _ _ _=>len1 (fun _=>rfl)),F26,PySem.W.mg_of X G a26,F26.binds (ps:=["told"]) (fun _ _ _ _ _ _=>len1 (fun _=>rfl)),F27,PySem.W.mg_of X G a27,F27.binds (ps:=["told"]) (fun _ _ _ _ _ _=>len1 (fun _=>rfl)),F28,PySem.W.mg_of X G a28,F28.binds (ps:=["told"]) (fun _ _ _ _ _ _=>len1 (fun _=>rfl)),F29,PySem.W.mg_of X G a29,F29.binds (ps:=["told"]) (fun _ _ _ _ _ _=>len1 (fun _=>rfl)),F30,PySem.W.mg_of X G a30,F30.binds (ps:=["told"]) (fun _ _ _ _ _ _=>len1 (fun _=>rfl)),F31,PySem.W.mg_of X G a31,F31.binds (ps:=["told"]) (fun _ _ _ _ _ _=>len1 (fun _=>rfl)),F32,PySem.W.mg_of X G a32,F32.binds (ps:=["told"]) (fun _ _ _ _ _ _=>len1 (fun _=>rfl)),F33,PySem.W.mg_of X G a33,F33.binds (ps:=["move"]) (fun _ _ _ _ _ _=>len1 (fun _=>rfl)),F34,PySem.W.mg_of X G a34,F34.binds (ps:=["told", "deep"]) (fun _ _ _ _ _ _=>len2 (fun _ _=>rfl)),F35,PySem.W.mg_of X G a35,F35.binds (ps:=["told", "deep"]) (fun _ _ _ _ _ _=>len2 (fun _ _=>rfl)),F36,PySem.W.mg_of X G a36,F36.binds (ps:=["told"]) (fun _ _ _ _ _ _=>len1 (fun _=>rfl)),F37,PySem.W.mg_of X G a37,F37.binds (ps:=["good"]) (fun _ _ _ _ _ _=>len1 (fun _=>rfl)),F38,PySem.W.mg_of X G a38,F38.binds (ps:=["word"]) (fun _ _ _ _ _ _=>len1 (fun _=>rfl)),F39,PySem.W.mg_of X G a39,F39.binds (ps:=["word"]) (fun _ _ _ _ _ _=>len1 (fun _=>rfl)),F40,PySem.W.mg_of X G a40,F40.binds (ps:=["word"]) (fun _ _ _ _ _ _=>len1 (fun _=>rfl)),F41,PySem.W.mg_of X G a41,F41.binds (ps:=["words"]) (fun _ _ _ _ _ _=>len1 (fun _=>rfl)),F42,PySem.W.mg_of X G a42,F42.binds (ps:=["words"]) (fun _ _ _ _ _ _=>len1 (fun _=>rfl)),F43,PySem.W.mg_of X G a43,F43.binds (ps:=["words"]) (fun _ _ _ _ _ _=>len1 (fun _=>rfl)),F44,PySem.W.mg_of X G a44,F44.binds (ps:=["_law_script", "_law_k", "_law_many"]) (fun _ _ _ _ _ _=>len3 (fun _ _ _=>rfl)),F45,PySem.W.mg_of X G a45,F45.binds (ps:=["_law_cell", "_law_j"]) (fun _ _ _ _ _ _=>len2 (fun _ _=>rfl)),F46,PySem.W.mg_of X G a46,F46.binds (ps:=["_law_script", "_law_k"]) (fun _ _ _ _ _ _=>len2 (fun _ _=>rfl)),F47,PySem.W.mg_of X G a47,F47.binds (ps:=["_law_told_here"]) (fun _ _ _ _ _ _=>len1 (fun _=>rfl)),F48,PySem.W.mg_of X G a48,F48.binds (ps:=["_law_cell"]) (fun _ _ _ _ _ _=>len1 (fun _=>rfl)),F49,PySem.W.mg_of X G a49,F49.binds (ps:=["_law_cell"]) (fun _ _ _ _ _ _=>len1 (fun _=>rfl)),F50,PySem.W.mg_of X G a50,F50.binds (ps:=["_law_words_here", "_law_cell"]) (fun _ _ _ _ _ _=>len2 (fun _ _=>rfl)),F51,PySem.W.mg_of X G a51,F51.binds (ps:=["_law_parts"]) (fun _ _ _ _ _ _=>len1 (fun _=>rfl)),F52,PySem.W.mg_of X G a52,F52.binds (ps:=["_law_script", "_law_parts"]) (fun _ _ _ _ _ _=>len2 (fun _ _=>rfl)),F53,PySem.W.mg_of X G a53,F53.binds (ps:=["_law_words_here"]) (fun _ _ _ _ _ _=>len1 (fun _=>rfl)),F54,PySem.W.mg_of X G a54,F54.binds (ps:=["_law_script"]) (fun _ _ _ _ _ _=>len1 (fun _=>rfl)),PySem.W.mg_none_of X G z0,PySem.W.mg_none_of X G z1,PySem.W.mg_none_of X G z2,PySem.W.mg_none_of X G z3,PySem.W.mg_none_of X G z4,PySem.W.mg_none_of X G z5,PySem.W.mg_none_of X G z6,PySem.W.mg_none_of X G z7,PySem.W.mg_none_of X G z8,PySem.W.mg_none_of X G z9,PySem.W.mg_none_of X G z10⟩
 exact ⟨PySem.W.fnOf "law" "law" (defArgs s_law) (defBody s_law) (defScope s_law) .none kV54 dc54 pm54 an54 cd54 ct54,fun s v=>.of_eq rfl,fun base _ _=>ok_law T⟩
theorem walk {l:PySem.W.OpenLaw}{q:Program}{loose:List Str}{XP:(Str->Option Value)->Heap->Prop}{YP:World->Heap->Prop}{d:DefRec}{K:Params->PySem.W.Frag}(hn:l.most=some 63) (hdf:d.params.defaults=[])
  (hY:∀ (w:World) (h:Heap),YP w h->(K w.params).In h)
  (F:∀ (w:World) (mg:Str->Option Value) (fa:Addr) (h:Heap),(K w.params).In h->h.Ns mainGlobals mg->mg d.name=some (.ref fa) →
   ∃ fd:FuncData,(∀ (s:Shared) (u:Value),BindsTo s fd ⟨[u],[]⟩ [("_law_script",u)])∧∀ base:Heap,(K w.params).In base->base.Ns mainGlobals mg->FnOk l.prog w (K w.params) mg base CX0 11 fa fd ["_law_script"] (spLaw (K w.params))) :
  PySem.W.WalkO q loose XP YP l.row.toRowW d [] (fun f vs=>PySem.call f vs):=
 L2.walk_of (n:=63) (k:=11) (x := "_law_script") (CX:=fun _=>CX0) (sp:=fun w=>spLaw (K w.params)) hn (by decide) hdf ⟨rfl,by decide,by decide⟩ hY F (fun _ _ a ns hl _ hS=>⟨a,rfl,ns,hS,hl,fun _=>rfl⟩) fun _ _ _ _ _ z=>z
end PH
namespace PySem.W.Fast
def tw5361847204843814404:=0
def tw11335203952474357107:=0
def tw14306016214177124592:=0
def tw16740346506179527150:=0
def tw6733072757290168202:=0
def tw11164644420362916416:=0
def tw10954922180041862122:=0
def tw13110702736875055250:=0
def tw14620950765679191083:=0
def tw6961485908524694119:=0
def tw7246835805960797843:=0
def tw10826491870558951348:=0
def tw8019989254736946867:=0
def tw7905723060883584216:=0
def tw6382239424599892068:=0
def tw12800064641608294769:=0
def tw243508927586572700:=0
def tw12908650102297226193:=0
def tw17641290822062307624:=0
def tw8585587045952019809:=0
def tw8210736701619969628:=0
def tw5430902875401719560:=0
def tw13251946306523639991:=0
def tw17272431170703785469:=0
def tw3490477869081914191:=0
def tw17075334861454787958:=0
def tw9096336020789669817:=0
def tw7813324586517965629:=0
def tw6407284962478758665:=0
def tw1173213304955837699:=0
def tw3658921273261882077:=0
def tw15340778928463165767:=0
def tw691894339732847606:=0
def tw17884648153747155274:=0
def tw11079945826873819200:=0
def tw732208650270786513:=0
def tw17249591415045193265:=0
def tw15989526404329295203:=0
def tw10239264441582426622:=0
def tw11473486873931869463:=0
def tw12028554296527994870:=0
def tw7504463604485746280:=0
def tw18273180200353596596:=0
def tw16272781460458382632:=0
def tw16379016778618942699:=0
def tw2011906266602412377:=0
def tw16017974467886360250:=0
def tw16873266060666371190:=0
def tw11642657268245771421:=0
def tw13605541015153809836:=0
def tw5007210501113620341:=0
def tw14375714917894315687:=0
def tw15350631816318024431:=0
def tw15515213318067504056:=0
def tw6577468689625364973:=0
def tw4871507397250245624:=0
def tw10475760493563150616:=0
def tw7663470717657676228:=0
def tw14952264305804747254:=0
def tw18413168504384344985:=0
def tw3863711383405850676:=0
def tw6218063318372412787:=0
def tw17393725737162202105:=0
def tw12453502220746294080:=0
def tw15962171652357227194:=0
def tw1373855241041111732:=0
def tw12580195666123561642:=0
def tw869606687250441524:=0
def tw17265315005056741246:=0
def tw13631910933251101039:=0
def tw15636772091195941816:=0
def tw8184782001293064301:=0
def tw369857898162406330:=0
def tw955835747102780113:=0
def tw15851517415777739518:=0
def tw4403351715843489725:=0
def tw16187322547383216885:=0
def tw7048376110537616480:=0
def tw13520747025562114484:=0
def tw14028407902927984266:=0
def tw4856170160356241753:=0
def tw1266764736903941266:=0
def tw1203706682078994290:=0
def tw258513605127608871:=0
def tw5741970064357369434:=0
def tw3417236116994711640:=0
def tw3897158960163643191:=0
def tw6609656558999982813:=0
def tw5970112910308162693:=0
end PySem.W.Fast
open PySem PySem.W PyProof.Rows
set_option maxRecDepth 100000 in
set_option maxHeartbeats 0 in
theorem PySem.Challenge.cw_pacehall_k92_no_move_in_words_holds : PySem.Challenge.rw_pacehall_k92_no_move_in_words.Holds := by
 w_on;o_law;k_head;(case hw=>w_witness2)
 k_fill
 refine PH.walk (l:=PySem.Challenge.rw_pacehall_k92_no_move_in_words) rfl rfl (fun w h Y=>PySem.W.kIn_of Y) ?F
 case F=>
  intro w mg fa h KX G hmg
  refine' PH.all_mk KX G hmg ?y0 ?y1 ?y2 ?y3 ?y4 ?y5 ?y6 ?y7 ?y8 ?y9 ?y10 ?y11 ?y12 ?y13 ?y14 ?ocs ?oct ?fc_Move ?mo_Move ?fc_Slice ?mo_Slice ?fc_Pick ?mo_Pick ?fc_Turn ?mo_Turn ?fc_Fresh ?mo_Fresh ?fc_Spread ?mo_Spread ?fc_Cut ?mo_Cut ?fc_Window ?mo_Window ?fc_Diagonal ?mo_Diagonal ?kc_Move_Chain ?kt_Move_Chain ?ks_Move_Chain ?kn_Move_Chain ?kc_Slice_Chain ?kt_Slice_Chain ?ks_Slice_Chain ?kn_Slice_Chain ?kc_Pick_Chain ?kt_Pick_Chain ?ks_Pick_Chain ?kn_Pick_Chain ?kc_Turn_Chain ?kt_Turn_Chain ?ks_Turn_Chain ?kn_Turn_Chain ?kc_Fresh_Chain ?kt_Fresh_Chain ?ks_Fresh_Chain ?kn_Fresh_Chain ?kc_Spread_Chain ?kt_Spread_Chain ?ks_Spread_Chain ?kn_Spread_Chain ?kc_Cut_Chain ?kt_Cut_Chain ?ks_Cut_Chain ?kn_Cut_Chain ?kc_Window_Chain ?kt_Window_Chain ?ks_Window_Chain ?kn_Window_Chain ?kc_Diagonal_Chain ?kt_Diagonal_Chain ?ks_Diagonal_Chain ?kn_Diagonal_Chain ?o_NoRow ?x_NoRow_NoRow ?ga_NoRow ?gn_NoRow ?mb_NoRow ?mo_NoRow ?fc_NoRow ?hd_NoRow ?kc_NoRow_NoMove ?kt_NoRow_NoMove ?ks_NoRow_NoMove ?kn_NoRow_NoMove ?kc_NoRow_NoName ?kt_NoRow_NoName ?ks_NoRow_NoName ?kn_NoRow_NoName ?kc_NoRow_NoStep ?kt_NoRow_NoStep ?ks_NoRow_NoStep ?kn_NoRow_NoStep ?kc_NoRow_PaceError ?kt_NoRow_PaceError ?ks_NoRow_PaceError ?ks_NoRow_ValueError ?F0 ?a1 ?F1 ?F2 ?l3 ?q3 ?c3 ?k3 ?F4 ?F5 ?F6 ?F7 ?F8 ?F9 ?F10 ?F11 ?F12 ?F13 ?F14 ?F15 ?F16 ?F17 ?F18 ?F19 ?F20 ?a21 ?F21 ?a22 ?F22 ?a23 ?F23 ?a24 ?F24 ?a25 ?F25 ?a26 ?F26 ?a27 ?F27 ?a28 ?F28 ?a29 ?F29 ?a30 ?F30 ?a31 ?F31 ?a32 ?F32 ?a33 ?F33 ?a34 ?F34 ?a35 ?F35 ?a36 ?F36 ?a37 ?F37 ?a38 ?F38 ?a39 ?F39 ?a40 ?F40 ?a41 ?F41 ?a42 ?F42 ?a43 ?F43 ?a44 ?F44 ?a45 ?F45 ?a46 ?F46 ?a47 ?F47 ?a48 ?F48 ?a49 ?F49 ?a50 ?F50 ?a51 ?F51 ?a52 ?F52 ?a53 ?F53 ?a54 ?l54 ?c54 ?k54 ?fi_NoName ?xe_NoName ?xf_NoName ?xo_NoName ?xs_NoName ?xh_NoName ?nt_NoName_name ?nf_NoName_name ?bs_PaceError ?br_PaceError ?bf_PaceError ?pg_Move ?hd_Move ?po_Move ?sa_Move ?mm_Move ?ck_Move ?fi0_Move ?fi_Move_told ?fn_Move_told ?pg_Slice ?hd_Slice ?po_Slice ?sa_Slice ?nf_Slice_axis ?nf_Slice_start ?nf_Slice_step ?nf_Slice_stop ?fi_Slice_told ?fn_Slice_told ?fi_Slice___init__ ?fn_Slice___init__ ?mm_Slice ?ck_Slice ?pg_Pick ?hd_Pick ?po_Pick ?sa_Pick ?nf_Pick_at ?nf_Pick_axis ?fi_Pick_told ?fn_Pick_told ?fi_Pick___init__ ?fn_Pick___init__ ?mm_Pick ?ck_Pick ?pg_Turn ?hd_Turn ?po_Turn ?sa_Turn ?nf_Turn_order ?fi_Turn_told ?fn_Turn_told ?fi_Turn___init__ ?fn_Turn___init__ ?mm_Turn ?ck_Turn ?pg_Fresh ?hd_Fresh ?po_Fresh ?sa_Fresh ?nf_Fresh_axis ?fi_Fresh_told ?fn_Fresh_told ?fi_Fresh___init__ ?fn_Fresh___init__ ?mm_Fresh ?ck_Fresh ?pg_Spread ?hd_Spread ?po_Spread ?sa_Spread ?nf_Spread_axis ?nf_Spread_size ?fi_Spread_told ?fn_Spread_told ?fi_Spread___init__ ?fn_Spread___init__ ?mm_Spread ?ck_Spread ?pg_Cut ?hd_Cut ?po_Cut ?sa_Cut ?nf_Cut_axis ?nf_Cut_inner ?fi_Cut_told ?fn_Cut_told ?fi_Cut___init__ ?fn_Cut___init__ ?mm_Cut ?ck_Cut ?pg_Window ?hd_Window ?po_Window ?sa_Window ?nf_Window_axis ?nf_Window_size ?fi_Window_told ?fn_Window_told ?fi_Window___init__ ?fn_Window___init__ ?mm_Window ?ck_Window ?pg_Diagonal ?hd_Diagonal ?po_Diagonal ?sa_Diagonal ?nf_Diagonal_one ?nf_Diagonal_other ?fi_Diagonal_told ?fn_Diagonal_told ?fi_Diagonal___init__ ?fn_Diagonal___init__ ?mm_Diagonal ?ck_Diagonal ?pg_Chain ?hd_Chain ?po_Chain ?sa_Chain ?nf_Chain_moves ?fi_Chain_told ?fn_Chain_told ?fi_Chain___init__ ?fn_Chain___init__ ?mm_Chain ?ck_Chain ?w0 ?w1 ?w2 ?w3 ?w4 ?yK0 ?lK0 ?nK0 ?eK0 ?yK1 ?lK1 ?nK1 ?eK1 ?z0 ?z1 ?z2 ?z3 ?z4 ?z5 ?z6 ?z7 ?z8 ?z9 ?z10
  (case y0|y1|y2|y3|y4|y5|y6|y7|y8|y9|y10|y11=>first|k_is|k_exc|kts_exm|decide|rfl|decide +kernel|kernel_rfl)
  (case y12|y13|y14|fi_NoName|fi_Move_told|fi_Slice_told|fi_Slice___init__|fi_Pick_told|fi_Pick___init__|fi_Turn_told|fi_Turn___init__|fi_Fresh_told=>first|k_is|k_exc|kts_exm|decide|rfl|decide +kernel|kernel_rfl)
  (case fi_Fresh___init__|fi_Spread_told|fi_Spread___init__|fi_Cut_told|fi_Cut___init__|fi_Window_told|fi_Window___init__|fi_Diagonal_told|fi_Diagonal___init__|fi_Chain_told|fi_Chain___init__|a1=>first|k_is|k_exc|kts_exm|decide|rfl|decide +kernel|kernel_rfl)
  (case a21|a22|a23|a24|a25|a26|a27|a28|a29|a30|a31|a32=>first|k_is|k_exc|kts_exm|decide|rfl|decide +kernel|kernel_rfl)
  (case a33|a34|a35|a36|a37|a38|a39|a40|a41|a42|a43|a44=>first|k_is|k_exc|kts_exm|decide|rfl|decide +kernel|kernel_rfl)
  (case a45|a46|a47|a48|a49|a50|a51|a52|a53|a54=>first|k_is|k_exc|kts_exm|decide|rfl|decide +kernel|kernel_rfl)
  (case F0|F1|F2|F4|F5|F6|F7|F8|F9|F10|F11|F12=>(refine' L2.fun_mk ?l ?c ?k;(case l|c|k=>first|k_is|k_exc|kts_exm|decide|rfl|decide +kernel|kernel_rfl)))
  (case F13|F14|F15|F16|F17|F18|F19|F20|F21|F22|F23|F24=>(refine' L2.fun_mk ?l ?c ?k;(case l|c|k=>first|k_is|k_exc|kts_exm|decide|rfl|decide +kernel|kernel_rfl)))
  (case F25|F26|F27|F28|F29|F30|F31|F32|F33|F34|F35|F36=>(refine' L2.fun_mk ?l ?c ?k;(case l|c|k=>first|k_is|k_exc|kts_exm|decide|rfl|decide +kernel|kernel_rfl)))
  (case F37|F38|F39|F40|F41|F42|F43|F44|F45|F46|F47|F48=>(refine' L2.fun_mk ?l ?c ?k;(case l|c|k=>first|k_is|k_exc|kts_exm|decide|rfl|decide +kernel|kernel_rfl)))
  (case F49|F50|F51|F52|F53=>(refine' L2.fun_mk ?l ?c ?k;(case l|c|k=>first|k_is|k_exc|kts_exm|decide|rfl|decide +kernel|kernel_rfl)))
  (case ocs|oct|fc_Move|mo_Move|fc_Slice|mo_Slice|fc_Pick|mo_Pick|fc_Turn|mo_Turn|fc_Fresh|mo_Fresh=>first|k_is|k_exc|kts_exm|decide|rfl|decide +kernel|kernel_rfl)
  (case fc_Spread|mo_Spread|fc_Cut|mo_Cut|fc_Window|mo_Window|fc_Diagonal|mo_Diagonal|kc_Move_Chain|kt_Move_Chain|ks_Move_Chain|kn_Move_Chain=>first|k_is|k_exc|kts_exm|decide|rfl|decide +kernel|kernel_rfl)
  (case kc_Slice_Chain|kt_Slice_Chain|ks_Slice_Chain|kn_Slice_Chain|kc_Pick_Chain|kt_Pick_Chain|ks_Pick_Chain|kn_Pick_Chain|kc_Turn_Chain|kt_Turn_Chain|ks_Turn_Chain|kn_Turn_Chain=>first|k_is|k_exc|kts_exm|decide|rfl|decide +kernel|kernel_rfl)
  (case kc_Fresh_Chain|kt_Fresh_Chain|ks_Fresh_Chain|kn_Fresh_Chain|kc_Spread_Chain|kt_Spread_Chain|ks_Spread_Chain|kn_Spread_Chain|kc_Cut_Chain|kt_Cut_Chain|ks_Cut_Chain|kn_Cut_Chain=>first|k_is|k_exc|kts_exm|decide|rfl|decide +kernel|kernel_rfl)
  (case kc_Window_Chain|kt_Window_Chain|ks_Window_Chain|kn_Window_Chain|kc_Diagonal_Chain|kt_Diagonal_Chain|ks_Diagonal_Chain|kn_Diagonal_Chain|o_NoRow|x_NoRow_NoRow|ga_NoRow|gn_NoRow=>first|k_is|k_exc|kts_exm|decide|rfl|decide +kernel|kernel_rfl)
  (case mb_NoRow|mo_NoRow|fc_NoRow|hd_NoRow|kc_NoRow_NoMove|kt_NoRow_NoMove|ks_NoRow_NoMove|kn_NoRow_NoMove|kc_NoRow_NoName|kt_NoRow_NoName|ks_NoRow_NoName|kn_NoRow_NoName=>first|k_is|k_exc|kts_exm|decide|rfl|decide +kernel|kernel_rfl)
  (case kc_NoRow_NoStep|kt_NoRow_NoStep|ks_NoRow_NoStep|kn_NoRow_NoStep|kc_NoRow_PaceError|kt_NoRow_PaceError|ks_NoRow_PaceError|ks_NoRow_ValueError|l3|q3|c3|k3=>first|k_is|k_exc|kts_exm|decide|rfl|decide +kernel|kernel_rfl)
  (case l54|c54|k54|xe_NoName|xf_NoName|xo_NoName|xs_NoName|xh_NoName|nt_NoName_name|nf_NoName_name|bs_PaceError|br_PaceError=>first|k_is|k_exc|kts_exm|decide|rfl|decide +kernel|kernel_rfl)
  (case bf_PaceError|pg_Move|hd_Move|po_Move|sa_Move|mm_Move|ck_Move|fi0_Move|fn_Move_told|pg_Slice|hd_Slice|po_Slice=>first|k_is|k_exc|kts_exm|decide|rfl|decide +kernel|kernel_rfl)
  (case sa_Slice|nf_Slice_axis|nf_Slice_start|nf_Slice_step|nf_Slice_stop|fn_Slice_told|fn_Slice___init__|mm_Slice|ck_Slice|pg_Pick|hd_Pick|po_Pick=>first|k_is|k_exc|kts_exm|decide|rfl|decide +kernel|kernel_rfl)
  (case sa_Pick|nf_Pick_at|nf_Pick_axis|fn_Pick_told|fn_Pick___init__|mm_Pick|ck_Pick|pg_Turn|hd_Turn|po_Turn|sa_Turn|nf_Turn_order=>first|k_is|k_exc|kts_exm|decide|rfl|decide +kernel|kernel_rfl)
  (case fn_Turn_told|fn_Turn___init__|mm_Turn|ck_Turn|pg_Fresh|hd_Fresh|po_Fresh|sa_Fresh|nf_Fresh_axis|fn_Fresh_told|fn_Fresh___init__|mm_Fresh=>first|k_is|k_exc|kts_exm|decide|rfl|decide +kernel|kernel_rfl)
  (case ck_Fresh|pg_Spread|hd_Spread|po_Spread|sa_Spread|nf_Spread_axis|nf_Spread_size|fn_Spread_told|fn_Spread___init__|mm_Spread|ck_Spread|pg_Cut=>first|k_is|k_exc|kts_exm|decide|rfl|decide +kernel|kernel_rfl)
  (case hd_Cut|po_Cut|sa_Cut|nf_Cut_axis|nf_Cut_inner|fn_Cut_told|fn_Cut___init__|mm_Cut|ck_Cut|pg_Window|hd_Window|po_Window=>first|k_is|k_exc|kts_exm|decide|rfl|decide +kernel|kernel_rfl)
  (case sa_Window|nf_Window_axis|nf_Window_size|fn_Window_told|fn_Window___init__|mm_Window|ck_Window|pg_Diagonal|hd_Diagonal|po_Diagonal|sa_Diagonal|nf_Diagonal_one=>first|k_is|k_exc|kts_exm|decide|rfl|decide +kernel|kernel_rfl)
  (case nf_Diagonal_other|fn_Diagonal_told|fn_Diagonal___init__|mm_Diagonal|ck_Diagonal|pg_Chain|hd_Chain|po_Chain|sa_Chain|nf_Chain_moves|fn_Chain_told|fn_Chain___init__=>first|k_is|k_exc|kts_exm|decide|rfl|decide +kernel|kernel_rfl)
  (case mm_Chain|ck_Chain|w0|w1|w2|w3|w4|yK0|lK0|nK0|eK0|yK1=>first|k_is|k_exc|kts_exm|decide|rfl|decide +kernel|kernel_rfl)
  (case lK1|nK1|eK1|z0|z1|z2|z3|z4|z5|z6|z7|z8=>first|k_is|k_exc|kts_exm|decide|rfl|decide +kernel|kernel_rfl)
  (case z9|z10=>first|k_is|k_exc|kts_exm|decide|rfl|decide +kernel|kernel_rfl)
#print axioms PySem.Challenge.cw_pacehall_k92_no_move_in_words_holds