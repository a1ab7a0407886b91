import PyProof.Rows.All
import Wide.All
import OpenK.AllK
import Wide.FinOn
import Lean
import PyProof.EqAt
import PyProof.EqKinds
import PyProof.TupleCall
import PySem.Challenge.RW_pacehall_k36_moves_told
-- CHANGE: your row's module here, as the last of these rows
set_option Elab.async false
set_option linter.all false
set_option maxRecDepth 100000
namespace L2
open PySem PySem.Spec PyProof.Rows
abbrev Key:=Sum Int Str
def keyIs:Key->Value->Bool
 | .inl k,v=>Value.isInt k v
 | .inr x,v=>Value.isStrOf x v
def keyH(w:World):Key->Int
 | .inl k=>hashInt k
 | .inr x=>hashStr w x
theorem keyIs_shape:∀ {k:Key}{v:Value},keyIs k v=true->(∃ i t,k=Sum.inl i∧v=Value.int i t)∨(∃ x t,k=Sum.inr x∧v=Value.str x t)
 | .inl i,v,h=>by
  obtain⟨t,e⟩:=Value.isInt_shape (k:=i) (v:=v) h
  exact .inl ⟨i,t,rfl,e⟩
 | .inr x,v,h=>by
  obtain⟨t,e⟩:=Value.isStrOf_shape (x:=x) (v:=v) h
  exact .inr ⟨x,t,rfl,e⟩
theorem keyIs_int(i:Int)(t:Tok):keyIs (.inl i) (.int i t)=true:=by simp [keyIs,Value.isInt]
theorem keyIs_str(x:Str)(t:Tok):keyIs (.inr x) (.str x t)=true:=by simp [keyIs,Value.isStrOf]
theorem key_ll(a b:Int):decide ((Sum.inl a:Key)=Sum.inl b)=(a == b):=by
 by_cases e:a=b
 ·subst e;simp
 ·have h:¬ (Sum.inl a:Key)=Sum.inl b:=fun q=>e (Sum.inl.inj q)
  rw [decide_eq_false h]
  exact(beq_eq_false_iff_ne.mpr e).symm
theorem key_rr(a b:Str):decide ((Sum.inr a:Key)=Sum.inr b)=decide (a=b):=by
 by_cases e:a=b
 ·subst e;simp
 ·have h:¬ (Sum.inr a:Key)=Sum.inr b:=fun q=>e (Sum.inr.inj q)
  rw [decide_eq_false h,decide_eq_false e]
theorem key_lr(a:Int)(b:Str):decide ((Sum.inl a:Key)=Sum.inr b)=false:=decide_eq_false (fun q=>nomatch q)
theorem key_rl(a:Str)(b:Int):decide ((Sum.inr a:Key)=Sum.inl b)=false:=decide_eq_false (fun q=>nomatch q)
def mixKind(prog:Program)(w:World):PySem.KeyKind prog w Key where
 is:=keyIs
 hash:=keyH w
 inj:=fun v a b ha hb=>by
  rcases keyIs_shape ha with ⟨i,t,rfl,rfl⟩|⟨x,t,rfl,rfl⟩
  ·rcases keyIs_shape hb with ⟨j,u,rfl,e⟩|⟨y,u,rfl,e⟩
   ·injection e with e1 _;rw [e1]
   ·exact nomatch e
  ·rcases keyIs_shape hb with ⟨j,u,rfl,e⟩|⟨y,u,rfl,e⟩
   ·exact nomatch e
   ·injection e with e1 _;rw [e1]
 byValue:=fun k v h=>by
  rcases keyIs_shape h with ⟨i,t,rfl,rfl⟩|⟨x,t,rfl,rfl⟩<;>rfl
 pyHash:=fun hv h=>by
  rcases keyIs_shape hv with ⟨i,t,rfl,rfl⟩|⟨x,t,rfl,rfl⟩
  ·exact wpAny_pyHash_int h
  ·exact wpAny_pyHash_str h
 eqBool:=fun hu hv h=>by
  rcases keyIs_shape hu with ⟨i,t,rfl,rfl⟩|⟨x,t,rfl,rfl⟩
  ·rcases keyIs_shape hv with ⟨j,u,rfl,rfl⟩|⟨y,u,rfl,rfl⟩
   ·rw [key_ll] at h;exact wpAny_eqBool_int h
   ·rw [key_lr] at h;exact SeqAt.EqAt.int_str i t y u _ _ _ _ h
  ·rcases keyIs_shape hv with ⟨j,u,rfl,rfl⟩|⟨y,u,rfl,rfl⟩
   ·rw [key_rl] at h;exact SeqAt.EqAt.str_int x t j u _ _ _ _ h
   ·rw [key_rr] at h;exact wpAny_eqBool_str h
 «strs»:=fun k x t v h=>by
  rcases keyIs_shape h with ⟨i,u,rfl,e⟩|⟨y,u,rfl,e⟩
  ·exact nomatch e
  ·injection e with e1 _
   subst e1
   cases v<;>rfl
theorem mixKind_int(prog:Program)(w:World)(i:Int)(t:Tok):(mixKind prog w).is (.inl i) (.int i t)=true:=keyIs_int i t
theorem mixKind_str(prog:Program)(w:World)(x:Str)(t:Tok):(mixKind prog w).is (.inr x) (.str x t)=true:=keyIs_str x t
end L2
namespace L2
open PySem PySem.Spec PyProof.Rows
inductive V where
 | non|bl (b:Bool)|int (i:Int)|str (x:Str)|byt (b:Array UInt8)|flt (b:UInt64)|ref (a:Addr)|ty (n:String)
 deriving DecidableEq
def RelV:V->Value->Prop
 | .non,u=>u=Value.none
 | .bl b,u=>u=Value.bool b
 | .int i,u=>∃ t,u=Value.int i t
 | .str x,u=>∃ t,u=Value.str x t
 | .byt b,u=>∃ t,u=Value.bytes b t
 | .flt b,u=>∃ t,u=Value.float b t
 | .ref a,u=>u=Value.ref a
 | .ty n,u=>u=Value.type n
abbrev Vals:List V->List Value->Prop:=Paired RelV
theorem Vals.length{xs:List V}{us:List Value}(r:Vals xs us):xs.length=us.length:=Paired.length r
theorem Vals.get:∀ {xs:List V}{us:List Value}{i:Nat}{x:V},Vals xs us->xs[i]? = some x->∃ u,us[i]? = some u∧RelV x u
 | _,_,_,_,.nil,e=>by simp at e
 | _,_,0,_,.cons r _,e=>by simp at e;subst e;exact⟨_,rfl,r⟩
 | _,_,i+1,x,.cons _ t,e=>by
  obtain⟨u,h1,h2⟩:=Vals.get (i:=i) (x:=x) t (by simpa using e)
  exact⟨u,by simpa using h1,h2⟩
theorem Vals.set{x:V}{u:Value}(r:RelV x u):∀ {xs:List V}{us:List Value}(i:Nat),Vals xs us->Vals (xs.set i x) (us.set i u)
 | _,_,_,.nil=>.nil
 | _,_,0,.cons _ t=>.cons r t
 | _,_,i+1,.cons q t=>.cons q (Vals.set r i t)
theorem Vals.append:∀ {xs ys:List V}{us ws:List Value},Vals xs us->Vals ys ws->Vals (xs++ys) (us++ws)
 | _,_,_,_,.nil,s=>s
 | _,_,_,_,.cons r t,s=>.cons r (Vals.append t s)
theorem Vals.take:∀ {xs:List V}{us:List Value}(n:Nat),Vals xs us->Vals (xs.take n) (us.take n)
 | _,_,0,_=>.nil
 | _,_,_+1,.nil=>.nil
 | _,_,n+1,.cons r t=>.cons r (Vals.take n t)
theorem Vals.drop:∀ {xs:List V}{us:List Value}(n:Nat),Vals xs us->Vals (xs.drop n) (us.drop n)
 | _,_,0,r=>r
 | _,_,_+1,.nil=>.nil
 | _,_,n+1,.cons _ t=>Vals.drop n t
def RelO:Option V->Option Value->Prop
 | some v,some u=>RelV v u
 | none,none=>True
 | _,_=>False
def KV{κ:Type}:List (κ × V)->List (κ × Value)->Prop:=Paired fun (p:κ × V) (q:κ × Value)=>p.1=q.1∧RelV p.2 q.2
def kV:Key->V
 | .inl i=>.int i
 | .inr x=>.str x
inductive HO where
 | lst (xs:List V)
 | tup (xs:List V)
 | dK (kvs:List (Key × V))|dT (kvs:List (List Key × V))
 | set (S:Int->Bool) (n:Nat)
 | ins (C dx:Addr) (fs:List (Str × V))
 | own (x:Addr)
 | xd (fs:List (Str × V))
 | met (f x:Addr)
 | rng (lo hi:Int)
 | frz (o:Obj) (u:HO)
 | tbl (ps:Array Value)
 | cod (q:Str)
 | ext (φ:Heap->Prop)
abbrev Hp:=Addr->Option HO
def upd(H:Hp)(a:Addr)(o:HO):Hp:=fun b=>if b=a then some o else H b
theorem upd_same{H:Hp}{a:Addr}{o:HO}:upd H a o a=some o:=by unfold upd;rw [if_pos rfl]
theorem upd_ne{H:Hp}{a b:Addr}{o:HO}(h:b ≠ a):upd H a o b=H b:=by unfold upd;rw [if_neg h]
theorem upd_upd{H:Hp}{a:Addr}{o u:HO}:upd (upd H a o) a u=upd H a u:=by
 funext b;unfold upd;split<;>rfl
theorem ne_of_none{H:Hp}{a b:Addr}{o:HO}(h:H a=some o)(h':H b=none):a ≠ b:=by
 intro e;subst e;rw [h] at h';cases h'
section
variable (P:Program)(w:World)
def ObjOk(H:Hp)(h:Heap)(a:Addr):HO->Prop
 | .lst xs=>xs.length≤sizeLine∧∃ (its:List Value) (n:Nat),Vals xs its∧h.get? a=some { cls:=.type "list",data:=.seq its.toArray n }
 | .tup xs=>xs.length≤sizeLine∧∃ its:List Value,Vals xs its∧IsTup h a its.toArray
 | .dK kvs=>kvs.length≤sizeLine∧(a == sysModules)=false∧∃ vs,KV kvs vs∧h.DictOf (mixKind P w) a vs
 | .dT kvs=>kvs.length≤sizeLine∧(a == sysModules)=false∧∃ xs:List (List Key × Addr × Value),
   Paired (fun (p:List Key × V) (q:List Key × Addr × Value)=>p.1=q.1∧H q.2.1=some (.tup (p.1.map kV))∧RelV p.2 q.2.2) kvs xs ∧
   ∃ o es ep,h.get? a=some o∧o.ExactDict∧o.data=.dict es ep∧es.toList=xs.map (entryOfKey (tupleKind (mixKind P w)))∧(xs.map (·.1)).Nodup
 | .set S n=>h.SetOf (intKind P w) a S n
 | .ins C dx fs=>H dx=some (.own a)∧fs.length≤1000∧dx ≠ a∧h.get? a=some (PySem.W.instObj C dx) ∧
   ∃ mA,h.Ns1 dx mA∧(∀ f,RelO (fs.lookup f) (mA f))∧PySem.Within mA (fs.map (·.1))
 | .own _=>∃ o,h.get? a=some o
 | .xd fs=>∃ mA,h.Ns1 a mA∧∀ f,RelO (fs.lookup f) (mA f)
 | .rng lo hi=>∃ t u v,h.get? a=some { cls:=.type "range",data:=.fields #[.int lo t,.int hi u,.int 1 v] }
 | .frz o u=>h.get? a=some o∧ObjOk H h a u
 | .tbl ps=>∃ (q:Str) (t:Tok) (qs:Array Value),ps=#[.str q t]∧h.get? a=some { cls:=.none,data:=.fields qs }∧TriplesOk qs.toList∧∀ (pos:Pos) (cv:Value),codeAmong pos qs.toList=some cv->∃ c:Addr,cv=.ref c∧H c=some (.cod q)
 | .cod q=>∃ (o:Obj) (vs:Array Value) (t:Tok),h.get? a=some o∧o.data=.fields vs∧vs[1]? = some (.str q t)
 | .met f x=>h.get? a=some (PySem.W.methodObj (.ref f) (.ref x))
 | .ext φ=>φ h∧(∃ o,h.get? a=some o)∧∀ h1 h2:Heap,φ h1->(∀ o,h1.get? a=some o->h2.get? a=some o)->φ h2
def HOk(H:Hp)(h:Heap):Prop:=∀ a o,H a=some o->ObjOk P w H h a o
end
section
variable {P:Program}{w:World}{H H':Hp}{h h':Heap}{a:Addr}{o:HO}
theorem ObjOk.lt(x:ObjOk P w H h a o):a < h.objs.size:=by
 cases o with
 | lst xs=>obtain⟨_,_,_,_,e⟩:=x;exact Heap.lt_size e
 | tup xs=>obtain⟨_,_,_,p⟩:=x;exact p.lt
 | dK kvs=>obtain⟨_,_,_,_,o,_,_,e,_⟩:=x;exact Heap.lt_size e
 | dT kvs=>obtain⟨_,_,_,_,o,_,_,e,_⟩:=x;exact Heap.lt_size e
 | set S n=>obtain⟨o,_,_,_,e,_⟩:=x;exact Heap.lt_size e
 | ins C dx fs=>obtain⟨_,_,_,e,_⟩:=x;exact Heap.lt_size e
 | own y=>obtain⟨_,e⟩:=x;exact Heap.lt_size e
 | xd fs=>obtain⟨_,⟨_,_,_,e,_⟩,_⟩:=x;exact Heap.lt_size e
 | rng lo hi=>obtain⟨_,_,_,e⟩:=x;exact Heap.lt_size e
 | frz ob u=>obtain⟨e,_⟩:=x;exact Heap.lt_size e
 | tbl ps=>obtain⟨_,_,_,_,e,_⟩:=x;exact Heap.lt_size e
 | cod q=>obtain⟨_,_,_,e,_⟩:=x;exact Heap.lt_size e
 | met f y=>exact Heap.lt_size (show h.get? a=some _ from x)
 | ext φ=>obtain⟨_,⟨_,e⟩,_⟩:=x;exact Heap.lt_size e
theorem Paired.mapP{α β:Type}{F G:α->β->Prop}:∀ {l₁:List α}{l₂:List β},Paired F l₁ l₂->(∀ a b,F a b->G a b)->Paired G l₁ l₂
 | _,_,.nil,_=>.nil
 | _,_,.cons r t,f=>.cons (f _ _ r) (Paired.mapP t f)
theorem ObjOk.stay(x:ObjOk P w H h a o)(k:∀ b u,(b=a∨H b=some (.own a))->h.get? b=some u->h'.get? b=some u)
  (ho:∀ b,H b=some (.own a)->H' b=some (.own a)) (hq:∀ b q,H b=some (.cod q)->H' b=some (.cod q)) (ht:∀ b xs,H b=some (.tup xs)->H' b=some (.tup xs)):ObjOk P w H' h' a o:=by
 induction o with
 | lst xs=>obtain⟨z,its,n,r,e⟩:=x;exact⟨z,its,n,r,k _ _ (.inl rfl) e⟩
 | tup xs=>obtain⟨z,its,r,ob,e,c⟩:=x;exact⟨z,its,r,ob,k _ _ (.inl rfl) e,c⟩
 | dK kvs=>obtain⟨z,y,vs,r,ob,es,ep,e,c⟩:=x;exact⟨z,y,vs,r,ob,es,ep,k _ _ (.inl rfl) e,c⟩
 | dT kvs=>
  obtain⟨z,y,xs,r,ob,es,ep,e,c⟩:=x
  exact⟨z,y,xs,Paired.mapP r fun p q z=>⟨z.1,ht _ _ z.2.1,z.2.2⟩,ob,es,ep,k _ _ (.inl rfl) e,c⟩
 | set S n=>obtain⟨ob,es,ep,t,e,c⟩:=x;exact⟨ob,es,ep,t,k _ _ (.inl rfl) e,c⟩
 | ins C dx fs=>
  obtain⟨d,z,ne,e,mA,⟨od,es,ep,e2,c⟩,r⟩:=x
  exact⟨ho _ d,z,ne,k _ _ (.inl rfl) e,mA,⟨od,es,ep,k _ _ (.inr d) e2,c⟩,r⟩
 | own y=>obtain⟨ob,e⟩:=x;exact⟨ob,k _ _ (.inl rfl) e⟩
 | xd fs=>obtain⟨mA,⟨od,es,ep,e,c⟩,r⟩:=x;exact⟨mA,⟨od,es,ep,k _ _ (.inl rfl) e,c⟩,r⟩
 | rng lo hi=>obtain⟨t,u,v,e⟩:=x;exact⟨t,u,v,k _ _ (.inl rfl) e⟩
 | frz ob u ih=>obtain⟨e,q⟩:=x;exact⟨k _ _ (.inl rfl) e,ih q⟩
 | tbl ps=>
  obtain⟨q,t,qs,e0,e,tr,hc⟩:=x
  refine⟨q,t,qs,e0,k _ _ (.inl rfl) e,tr,fun pos cv hcv=>?_⟩
  obtain⟨c,r1,r2⟩:=hc pos cv hcv
  exact⟨c,r1,hq _ _ r2⟩
 | cod q=>obtain⟨ob,vs,t,e,c⟩:=x;exact⟨ob,vs,t,k _ _ (.inl rfl) e,c⟩
 | met f y=>
  have e:h.get? a=some (PySem.W.methodObj (.ref f) (.ref y)):=x
  show h'.get? a=some (PySem.W.methodObj (.ref f) (.ref y))
  exact k a _ (.inl rfl) e
 | ext φ=>obtain⟨p,⟨o,e⟩,st⟩:=x;exact⟨st _ _ p fun o q=>k _ _ (.inl rfl) q,⟨o,k _ _ (.inl rfl) e⟩,st⟩
theorem HOk.lt(x:HOk P w H h)(e:H a=some o):a < h.objs.size:=(x a o e).lt
theorem HOk.fresh(x:HOk P w H h)(e:h.objs.size≤a):H a=none:=by
 cases q:H a with
 | none=>rfl
 | some u=>exact absurd (Nat.lt_of_lt_of_le (x.lt q) e) (Nat.lt_irrefl _)
theorem HOk.kept(x:HOk P w H h)(k:∀ b u,h.get? b=some u->h'.get? b=some u):HOk P w H h':=fun a o e=>
 (x a o e).stay (fun b u _ q=>k b u q) (fun _ q=>q) (fun _ _ q=>q) fun _ _ q=>q
theorem HOk.laid(x:HOk P w H h)(k:∀ b u,h.get? b=some u->h'.get? b=some u)(hp:h.objs.size≤a)(new:ObjOk P w (upd H a o) h' a o):HOk P w (upd H a o) h':=fun b u e=>by
 have hn:=x.fresh hp
 by_cases hb:b=a
 ·subst hb;rw [upd_same] at e;cases e;exact new
 ·rw [upd_ne hb] at e
  exact(x b u e).stay (fun c v _ q=>k c v q) (fun c q=>by rw [upd_ne (ne_of_none q hn)];exact q) (fun c y q=>by rw [upd_ne (ne_of_none q hn)];exact q) fun c xs q=>by rw [upd_ne (ne_of_none q hn)];exact q
end
def Rd(H:Hp)(a:Addr)(u:HO):Prop:=H a=some u∨∃ o,H a=some (.frz o u)
theorem Rd.ok{P:Program}{w:World}{H:Hp}{h:Heap}{a:Addr}{u:HO}(r:Rd H a u)(x:HOk P w H h):ObjOk P w H h a u:=by
 rcases r with r|⟨o,r⟩
 ·exact x a u r
 ·obtain⟨_,q⟩:=x a _ r
  exact q
def Mut:Option HO->Prop
 | some (.lst _)=>True
 | some (.dK _)=>True
 | some (.dT _)=>True
 | some (.set _ _)=>True
 | some (.ins _ _ _)=>True
 | some (.ext _)=>True
 | _=>False
section
variable {P:Program}{w:World}{H:Hp}{h h':Heap}{x e:Addr}{o':HO}
theorem HOk.write(ok:HOk P w H h)(mu:Mut (H x))(he:e=x∨H e=some (.own x))(k:∀ b u,b ≠ e->h.get? b=some u->h'.get? b=some u)(heo:∃ u,h'.get? e=some u)
  (new:ObjOk P w (upd H x o') h' x o'):HOk P w (upd H x o') h':=fun b u q=>by
 have nown:∀ c y,H c=some (.own y)->c ≠ x:=fun c y r z=>by subst z;rw [r] at mu;exact mu
 have ntup:∀ c xs,H c=some (.tup xs)->c ≠ x:=fun c xs r z=>by subst z;rw [r] at mu;exact mu
 have ncod:∀ c y,H c=some (.cod y)->c ≠ x:=fun c y r z=>by subst z;rw [r] at mu;exact mu
 by_cases hb:b=x
 ·subst hb;rw [upd_same] at q;cases q;exact new
 ·rw [upd_ne hb] at q
  by_cases hbe:b=e
  ·have q':H b=some (.own x):=by
    rcases he with z|z
    ·exact absurd (hbe.trans z) hb
    ·rw [hbe];exact z
   rw [q] at q';cases q'
   obtain⟨v,hv⟩:=heo
   exact⟨v,by rw [hbe];exact hv⟩
  ·refine(ok b u q).stay (fun c v hc r=>k c v ?_ r) (fun c r=>by rw [upd_ne (nown c b r)];exact r) (fun c y r=>by rw [upd_ne (ncod c y r)];exact r) fun c xs r=>by rw [upd_ne (ntup c xs r)];exact r
   rcases hc with rfl|hc
   ·exact hbe
   ·rintro rfl
    rcases he with z|z
    ·exact nown c b hc z
    ·rw [hc] at z;cases z;exact hb rfl
end
structure Un(fs ex:List Addr)(H H':Hp)(h h':Heap):Prop where
 keep:∀ b o,h.get? b=some o->H b=none->b ∉ fs->b ∉ ex->h'.get? b=some o
 slot:∀ b o,h.get? b=some o->H b=none->b∈fs->b ∉ ex->∃ sl,h'.get? b=some { o with slots:=sl }
 free:∀ b o,h.get? b=some o->H b=none->b ∉ ex->H' b=none
 there:∀ b o,h.get? b=some o->b ∉ ex->∃ o',h'.get? b=some o'
 tups:∀ b xs,H b=some (.tup xs)->H' b=some (.tup xs)
 frzs:∀ b o u,H b=some (.frz o u)->H' b=some (.frz o u)
 tbls:∀ b ps,H b=some (.tbl ps)->∃ more,H' b=some (.tbl (ps++more))
section
variable {fs fs' ex ex':List Addr}{H H1 H2:Hp}{h h1 h2 h':Heap}{a x e:Addr}{o:HO}
theorem Un.any(u:Un fs ex H H1 h h1){b:Addr}{ob:Obj}(q:h.get? b=some ob)(n:H b=none)(hx:b ∉ ex):∃ sl,h1.get? b=some { ob with slots:=sl }:=by
 by_cases hb:b∈fs
 ·exact u.slot b ob q n hb hx
 ·exact⟨ob.slots,u.keep b ob q n hb hx⟩
theorem Un.trans(a:Un fs ex H H1 h h1)(b:Un fs ex H1 H2 h1 h2):Un fs ex H H2 h h2 where
 keep:=fun c ob q n hc hx=>b.keep c ob (a.keep c ob q n hc hx) (a.free c ob q n hx) hc hx
 slot:=fun c ob q n hc hx=>by
  obtain⟨sl,e1⟩:=a.slot c ob q n hc hx
  obtain⟨sl',e2⟩:=b.slot c _ e1 (a.free c ob q n hx) hc hx
  exact⟨sl',e2⟩
 free:=fun c ob q n hx=>by
  obtain⟨o',e1⟩:=a.there c ob q hx
  exact b.free c o' e1 (a.free c ob q n hx) hx
 there:=fun c ob q hx=>by
  obtain⟨o',e1⟩:=a.there c ob q hx
  exact b.there c o' e1 hx
 tups:=fun c xs q=>b.tups c xs (a.tups c xs q)
 frzs:=fun c ob xs q=>b.frzs c ob xs (a.frzs c ob xs q)
 tbls:=fun c ps q=>by
  obtain⟨m1,e1⟩:=a.tbls c ps q
  obtain⟨m2,e2⟩:=b.tbls c _ e1
  exact⟨m1++m2,by rw [e2,Array.append_assoc]⟩
theorem Un.kept(k:∀ b u,h.get? b=some u->h'.get? b=some u):Un fs ex H H h h':=
 ⟨fun b ob q _ _ _=>k b ob q,fun b ob q _ _ _=>⟨ob.slots,k b ob q⟩,fun _ _ _ n _=>n,fun b ob q _=>⟨ob,k b ob q⟩,fun _ _ q=>q,fun _ _ _ q=>q,fun _ ps q=>⟨#[],by rw [q];simp⟩⟩
theorem Un.refl:Un fs ex H H h h:=Un.kept fun _ _ q=>q
theorem Un.laid(k:∀ b u,h.get? b=some u->h'.get? b=some u)(hp:h.objs.size≤a)(hn:H a=none):Un fs ex H (upd H a o) h h' where
 keep:=fun b u q _ _ _=>k b u q
 slot:=fun b u q _ _ _=>⟨u.slots,k b u q⟩
 free:=fun b u q n _=>by rw [upd_ne (Nat.ne_of_lt (Nat.lt_of_lt_of_le (Heap.lt_size q) hp))];exact n
 there:=fun b u q _=>⟨u,k b u q⟩
 tups:=fun b xs q=>by rw [upd_ne (ne_of_none q hn)];exact q
 frzs:=fun b u xs q=>by rw [upd_ne (ne_of_none q hn)];exact q
 tbls:=fun b ps q=>⟨#[],by rw [upd_ne (ne_of_none q hn),q];simp⟩
theorem Un.write(mu:Mut (H x))(he:e=x∨H e=some (.own x))(k:∀ b u,b ≠ e->h.get? b=some u->h'.get? b=some u)(heo:∃ u,h'.get? e=some u):Un fs ex H (upd H x o) h h':=by
 have hx:∀ b,H b=none->b ≠ x:=fun b n z=>by subst z;rw [n] at mu;exact mu
 have hb:∀ b,H b=none->b ≠ e:=fun b n z=>by
  subst z
  rcases he with r|r
  ·exact hx b n r
  ·rw [n] at r;cases r
 have hm:∀ b u,H b=some u->¬ Mut (some u)->b ≠ x:=fun b u q nm z=>by subst z;rw [q] at mu;exact nm mu
 refine⟨fun b u q n _ _=>k b u (hb b n) q,fun b u q n _ _=>⟨u.slots,k b u (hb b n) q⟩,fun b u q n _=>by rw [upd_ne (hx b n)];exact n,fun b u q _=>?_,
  fun b xs q=>by rw [upd_ne (hm b _ q fun z=>z)];exact q,fun b u xs q=>by rw [upd_ne (hm b _ q fun z=>z)];exact q,fun b ps q=>⟨#[],by rw [upd_ne (hm b _ q fun z=>z),q];simp⟩⟩
 by_cases hbe:b=e
 ·subst hbe;exact heo
 ·exact⟨u,k b u hbe q⟩
end
def trk(h:Heap)(H:Hp):List Addr:=(List.range h.objs.size).filter fun a=>(H a).isSome
def hidT(h:Heap)(H:Hp):Heap:=PySem.W.hideAll h (trk h H)
theorem hidT_size(h:Heap)(H:Hp):(hidT h H).objs.size=h.objs.size:=PySem.W.hideAll_size _ _
theorem hidT_get{h:Heap}{H:Hp}{b:Addr}{o:Obj}(e:h.get? b=some o)(n:H b=none):(hidT h H).get? b=some o:=
 PySem.W.hideAll_get _ e fun hm=>by
  have q:(H b).isSome=true:=(List.mem_filter.mp hm).2
  rw [n] at q;simp at q
theorem of_hidT{h:Heap}{H:Hp}{b:Addr}{o:Obj}(e:(hidT h H).get? b=some o):h.get? b=some o∧H b=none:=by
 have e':h.get? b=some o:=PySem.W.of_hideAll (trk h H) e
 refine⟨e',?_⟩
 cases q:H b with
 | none=>rfl
 | some x=>
  have hm:b∈trk h H:=List.mem_filter.mpr ⟨List.mem_range.mpr (Heap.lt_size e'),by simp [q]⟩
  have z:(hidT h H).get? b=none:=PySem.W.hideAll_none (trk h H) hm
  rw [z] at e;cases e
def allNews(g h:Heap)(L:Addr):List (Addr × Obj):=(List.range h.objs.size).filterMap fun a=>if a=L∨(g.get? a).isSome=true then none else (h.get? a).map fun o=>(a,o)
def rest(g h:Heap)(L d:Addr):List (Addr × Obj):=(allNews g h L).filter fun p=>decide (p.1 ≠ d)
end L2
namespace L2
open PySem PySem.Spec PyProof.Rows
structure Mod(K:PySem.W.Frag)(mg:Str->Option Value)(base:Heap):Prop where
 kin:K.In base
 glob:base.Ns mainGlobals mg
 blt:∃ mb,base.Ns builtinsNs mb∧∀ x:Str,x ≠ "__name__" → mb x=bootBuiltins x
 nolimit:base.NoLimit
structure Cx where
 prog:Program
 w:World
 K:PySem.W.Frag
 mg:Str->Option Value
 base:Heap
 A:Around
 N:List Str
 s₀:Shared
 H₀:Hp
 env:Env
 outer:List Env
 stack:List Env
 ex:List Addr
 fn:Str->Bool
 calm:Bool
 pn:List (Addr × Obj)
 xe:Value->Shared->Prop
def frs(l:List Env):List Addr:=l.filterMap (·.frame)
abbrev Cx.fs(X:Cx):List Addr:=frs X.outer
def Vis(sc:Scope)(x:Str):Prop:=sc.names.lookup x=some .local∨sc.names.lookup x=some .cell∨sc.names.lookup x=some .free
def Loc(sc:Scope)(x:Str):Prop:=sc.names.lookup x=some .local∨sc.names.lookup x=some .cell
def Look(env:Env)(h:Heap)(m:Str->Option Value)(x:Str)(u:Value):Prop:=
 (env.kindOf x=some .local∧m x=some u)∨((env.kindOf x=some .cell∨env.kindOf x=some .free)∧∃ c,env.cells.lookup x=some c∧h.IsCell c (some u))
structure Cx.Ok(X:Cx):Prop where
 mod:Mod X.K X.mg X.base
 kind:X.env.scope.kind=.function
 glob:X.env.globals=mainGlobals
 blt:X.env.builtins=builtinsNs
 above:X.s₀.heap.objs.size≤X.env.locals
 inj:∀ x y c,X.env.cells.lookup x=some c->X.env.cells.lookup y=some c->x=y
 has:∀ x,(X.env.kindOf x=some .cell∨X.env.kindOf x=some .free)->∃ c,X.env.cells.lookup x=some c
 cab:∀ x c,X.fn x=true->X.env.cells.lookup x=some c->X.s₀.heap.objs.size≤c
 hd:X.calm=true->X.A.handled=none
 frames:X.A.frames=some X.stack
 stk:X.stack=X.outer∨(X.stack=X.env::X.outer∧X.env.frame=some X.env.locals)
 exf:∀ b∈X.ex,b ≠ X.env.locals∧∀ x c,X.env.cells.lookup x=some c->c ≠ b
 bs:∀ b o,X.base.get? b=some o->X.s₀.heap.get? b=some o∧X.H₀ b=none
 bsz:X.base.objs.size≤X.s₀.heap.objs.size
 noex:∀ b o,X.base.get? b=some o->b ∉ X.ex
 exfs:∀ b∈X.ex,b ∉ X.fs
 funs:X.s₀.heap.FunFrames X.base X.outer
 frf:∀ b∈X.fs,X.H₀ b=none
structure Inv(X:Cx)(pins:List (Addr × Obj))(σ:List (Option V))(H:Hp)(s:Shared):Prop where
 ok:X.Ok
 os:s.os=X.s₀.os
 bare:AllBare s.gens
 base:Un X.fs X.ex X.H₀ H X.s₀.heap s.heap
 loc:∃ m,s.heap.Ns X.env.locals m∧∀ (i:Nat) (x:Str) (v:V),X.N[i]? = some x->σ[i]? = some (some v)->Vis X.env.scope x->∃ u,RelV v u∧Look X.env s.heap m x u
 cell:∀ x c,X.env.cells.lookup x=some c->∃ v,s.heap.IsCell c v
 free:H X.env.locals=none
 freeC:∀ x c,X.env.cells.lookup x=some c->H c=none
 pin:∀ p∈X.pn++pins,s.heap.get? p.1=some p.2∧H p.1=none∧p.1 ≠ X.env.locals∧p.1 ∉ X.fs∧∀ v,p.2.data ≠ .cell v
 hok:HOk X.prog X.w H s.heap
 len:σ.length=X.N.length
section
variable {X:Cx}{pins:List (Addr × Obj)}{σ:List (Option V)}{H H':Hp}{s:Shared}{h':Heap}
theorem Cx.Ok.nofr(ok:X.Ok){b:Addr}{o:Obj}(e:X.base.get? b=some o):b ∉ X.fs:=fun hb=>by
 have:=(ok.funs.mem hb).1
 rw [e] at this;cases this
theorem Inv.bs(I:Inv X pins σ H s):∀ b o,X.base.get? b=some o->s.heap.get? b=some o∧H b=none:=fun b o e=>
 ⟨I.base.keep b o (I.ok.bs b o e).1 (I.ok.bs b o e).2 (I.ok.nofr e) (I.ok.noex b o e),I.base.free b o (I.ok.bs b o e).1 (I.ok.bs b o e).2 (I.ok.noex b o e)⟩
theorem Inv.bk(I:Inv X pins σ H s):∀ b o,X.base.get? b=some o->s.heap.get? b=some o:=fun b o e=>(I.bs b o e).1
theorem Inv.mod(I:Inv X pins σ H s):Mod X.K X.mg X.base:=I.ok.mod
theorem Inv.kIn(I:Inv X pins σ H s):X.K.In s.heap:=I.ok.mod.kin.keeps I.bk
theorem Inv.lt(I:Inv X pins σ H s):X.env.locals < s.heap.objs.size:=let ⟨_,hn,_⟩:=I.loc;hn.lt
theorem Inv.sz(I:Inv X pins σ H s):X.s₀.heap.objs.size≤s.heap.objs.size:=Nat.le_trans I.ok.above (Nat.le_of_lt I.lt)
theorem Inv.nofs(I:Inv X pins σ H s){a:Addr}(h:s.heap.objs.size≤a):a ∉ X.fs:=fun hb=>by
 obtain⟨_,o,ho,_⟩:=I.ok.funs.mem hb
 exact absurd (Nat.lt_of_lt_of_le (Heap.lt_size ho) (Nat.le_trans I.sz h)) (Nat.lt_irrefl _)
theorem Inv.cne(I:Inv X pins σ H s):∀ x c,X.env.cells.lookup x=some c->c ≠ X.env.locals:=fun x c e z=>by
 obtain⟨v,o,ho,hd⟩:=I.cell x c e
 obtain⟨m,⟨o',es,ep,ho',hd',_⟩,_⟩:=I.loc
 rw [z,ho'] at ho;cases ho;rw [hd'] at hd;cases hd
theorem Inv.funs(I:Inv X pins σ H s):s.heap.FunFrames X.base X.outer:=by
 have all:∀ (l:List Env),(∀ b∈frs l,b∈X.fs)->X.s₀.heap.FunFrames X.base l->s.heap.FunFrames X.base l:=by
  intro l
  induction l with
  | nil=>intro _ _;trivial
  | cons env r ih=>
   intro hs hl
   obtain⟨hk,⟨L,o,hf,hn,ho,hd⟩,hr⟩:=hl
   have hL:L∈X.fs:=hs L (by unfold frs;rw [List.filterMap_cons,hf];exact List.mem_cons_self)
   obtain⟨sl,e⟩:=I.base.slot L o ho (I.ok.frf L hL) hL fun z=>I.ok.exfs L z hL
   exact⟨hk,⟨L,_,hf,hn,e,hd⟩,ih (fun b hb=>hs b (by unfold frs;rw [List.filterMap_cons,hf];exact List.mem_cons_of_mem _ hb)) hr⟩
 exact all X.outer (fun _ hb=>hb) I.ok.funs
theorem Inv.stack(I:Inv X pins σ H s):s.heap.FunFrames X.base X.stack:=by
 rcases I.ok.stk with e|⟨e,hf⟩
 ·rw [e];exact I.funs
 ·rw [e]
  obtain⟨m,hn,_⟩:=I.loc
  refine .cons (by rw [I.ok.kind];decide) hf hn ?_ I.funs
  exact Heap.get?_none_of_le (Nat.le_trans I.ok.bsz I.ok.above)
theorem Inv.stkSub(I:Inv X pins σ H s):∀ b∈frs X.stack,b∈X.env.locals::X.fs:=fun b hb=>by
 rcases I.ok.stk with e|⟨e,hf⟩
 ·rw [e] at hb;exact List.mem_cons_of_mem _ hb
 ·rw [e] at hb
  unfold frs at hb
  rw [List.filterMap_cons,hf] at hb
  exact hb
theorem Inv.stkFree(I:Inv X pins σ H s):∀ b∈frs X.stack,H b=none:=fun b hb=>by
 rcases List.mem_cons.mp (I.stkSub b hb) with e|hb
 ·rw [e];exact I.free
 ·obtain⟨_,o,ho,_⟩:=I.ok.funs.mem hb
  exact I.base.free b o ho (I.ok.frf b hb) fun z=>I.ok.exfs b z hb
theorem Inv.step{g':Array GenState}{t':Nat}{d':Drawn}{ch:List Addr}(I:Inv X pins σ H s)
  (hch:∀ b∈ch,(b∈X.ex∨X.s₀.heap.objs.size≤b)∧b ≠ X.env.locals∧(∀ x c,X.env.cells.lookup x=some c->c ≠ b)∧∀ p∈X.pn++pins,p.1 ≠ b)
  (keep:∀ b o,b ≠ X.env.locals->b ∉ X.fs->b ∉ ch->s.heap.get? b=some o->H b=none->h'.get? b=some o)
  (slot:∀ b o,b ≠ X.env.locals->b∈X.fs->b ∉ ch->s.heap.get? b=some o->H b=none->∃ sl,h'.get? b=some { o with slots:=sl }) (free:∀ b o,b ∉ ch->s.heap.get? b=some o->H b=none->H' b=none)
  (there:∀ b o,b ∉ ch->s.heap.get? b=some o->∃ o',h'.get? b=some o')
  (tups:∀ b xs,H b=some (.tup xs)->H' b=some (.tup xs)) (frzs:∀ b o u,H b=some (.frz o u)->H' b=some (.frz o u)) (tbls:∀ b ps,H b=some (.tbl ps)->∃ more,H' b=some (.tbl (ps++more)))
  (ns:∀ m,s.heap.Ns X.env.locals m->h'.Ns X.env.locals m) (hok:HOk X.prog X.w H' h') (hg:AllBare g') :
  Inv X pins σ H' { s with heap:=h',gens:=g',drawn:=d',toks:=t' }:=by
 have neL:∀ b o,X.s₀.heap.get? b=some o->b ≠ X.env.locals:=fun b o e=>Nat.ne_of_lt (Nat.lt_of_lt_of_le (Heap.lt_size e) I.ok.above)
 have neC:∀ b o,X.s₀.heap.get? b=some o->b ∉ X.ex->b ∉ ch:=fun b o e hx hb=>by
  rcases (hch b hb).1 with z|z
  ·exact hx z
  ·exact absurd (Nat.lt_of_lt_of_le (Heap.lt_size e) z) (Nat.lt_irrefl _)
 have cellK:∀ x c,X.env.cells.lookup x=some c->∀ v,s.heap.IsCell c v->h'.IsCell c v:=fun x c e v ⟨o,ho,hd⟩=>by
  have nch:c ∉ ch:=fun z=>(hch c z).2.2.1 x c e rfl
  by_cases hc:c∈X.fs
  ·obtain⟨sl,q⟩:=slot c o (I.cne x c e) hc nch ho (I.freeC x c e)
   exact⟨_,q,hd⟩
  ·exact⟨o,keep c o (I.cne x c e) hc nch ho (I.freeC x c e),hd⟩
 refine⟨I.ok,I.os,hg,⟨fun b o e n hb hx=>?_,fun b o e n hb hx=>?_,fun b o e n hx=>?_,fun b o e hx=>?_,fun b xs e=>tups b xs (I.base.tups b xs e),fun b o xs e=>frzs b o xs (I.base.frzs b o xs e),fun b ps e=>?_⟩,?_,fun x c e=>?_,?_,fun x c e=>?_,fun p hp=>?_,hok,I.len⟩
 ·exact keep b o (neL b o e) hb (neC b o e hx) (I.base.keep b o e n hb hx) (I.base.free b o e n hx)
 ·obtain⟨sl,e1⟩:=I.base.slot b o e n hb hx
  obtain⟨sl',e2⟩:=slot b _ (neL b o e) hb (neC b o e hx) e1 (I.base.free b o e n hx)
  exact⟨sl',e2⟩
 ·obtain⟨o',e1⟩:=I.base.there b o e hx
  exact free b o' (neC b o e hx) e1 (I.base.free b o e n hx)
 ·obtain⟨o',e1⟩:=I.base.there b o e hx
  exact there b o' (neC b o e hx) e1
 ·obtain⟨m1,e1⟩:=I.base.tbls b ps e
  obtain⟨m2,e2⟩:=tbls b _ e1
  exact⟨m1++m2,by rw [e2,Array.append_assoc]⟩
 ·obtain⟨m,hn,hl⟩:=I.loc
  refine⟨m,ns m hn,fun i x v e1 e2 e3=>?_⟩
  obtain⟨u,r,l⟩:=hl i x v e1 e2 e3
  refine⟨u,r,?_⟩
  rcases l with l|⟨k,c,e,z⟩
  ·exact .inl l
  ·exact .inr ⟨k,c,e,cellK x c e _ z⟩
 ·obtain⟨v,z⟩:=I.cell x c e
  exact⟨v,cellK x c e v z⟩
 ·obtain⟨m,⟨o,_,_,ho,_⟩,_⟩:=I.loc
  exact free _ o (fun z=>(hch _ z).2.1 rfl) ho I.free
 ·obtain⟨v,o,ho,hd⟩:=I.cell x c e
  exact free c o (fun z=>(hch c z).2.2.1 x c e rfl) ho (I.freeC x c e)
 ·obtain⟨e,n,ne,nf,d⟩:=I.pin p hp
  have nch:p.1 ∉ ch:=fun z=>(hch p.1 z).2.2.2 p hp rfl
  exact⟨keep p.1 p.2 ne nf nch e n,free p.1 p.2 nch e n,ne,nf,d⟩
theorem Inv.un{t':Nat}(I:Inv X pins σ H s)(u:Un X.fs [] H H' s.heap h')(hok:HOk X.prog X.w H' h'):Inv X pins σ H' { s with heap:=h',toks:=t' }:=by
 obtain⟨m,⟨o,es,ep,ho,r⟩,_⟩:=id I.loc
 obtain⟨sl,hL⟩:=u.any ho I.free (by simp)
 exact I.step (g':=s.gens) (d':=s.drawn) (ch:=[]) (fun _ z=>nomatch z) (fun b o _ hb _ e n=>u.keep b o e n hb (by simp)) (fun b o _ hb _ e n=>u.slot b o e n hb (by simp)) (fun b o _ e n=>u.free b o e n (by simp)) (fun b o _ e=>u.there b o e (by simp)) u.tups u.frzs u.tbls (fun m' hm=>by
  obtain⟨o',es',ep',ho',r'⟩:=hm
  rw [ho] at ho';cases ho'
  exact⟨_,es',ep',hL,r'⟩) hok I.bare
theorem Inv.call{g':Array GenState}{t':Nat}{d':Drawn}{ch:List Addr}(I:Inv X pins σ H s)(u:Un (frs X.stack) ch H H' s.heap h')(hok:HOk X.prog X.w H' h')(hg:AllBare g')
  (hch:∀ b∈ch,(b∈X.ex∨X.s₀.heap.objs.size≤b)∧b ≠ X.env.locals∧(∀ x c,X.env.cells.lookup x=some c->c ≠ b)∧∀ p∈X.pn++pins,p.1 ≠ b) :
  Inv X pins σ H' { s with heap:=h',gens:=g',drawn:=d',toks:=t' }:=by
 obtain⟨m,⟨o,es,ep,ho,r⟩,_⟩:=id I.loc
 obtain⟨sl,hL⟩:=u.any ho I.free fun z=>(hch _ z).2.1 rfl
 exact I.step (ch:=ch) hch (fun b o hL hb hc e n=>u.keep b o e n (fun z=>(List.mem_cons.mp (I.stkSub b z)).elim hL hb) hc) (fun b o _ _ hc e n=>u.any e n hc) (fun b o hc e n=>u.free b o e n hc) (fun b o hc e=>u.there b o e hc) u.tups u.frzs u.tbls (fun m' hm=>by
  obtain⟨o',es',ep',ho',r'⟩:=hm
  rw [ho] at ho';cases ho'
  exact⟨_,es',ep',hL,r'⟩) hok hg
theorem Inv.turned{t':Nat}{it:Addr}(I:Inv X pins σ H s)(k:∀ b o,b ≠ it->s.heap.get? b=some o->h'.get? b=some o)(hn:H it=none)(hL:it ≠ X.env.locals)
  (h1:it∈X.ex∨X.s₀.heap.objs.size≤it) (h2:∀ x c,X.env.cells.lookup x=some c->c ≠ it) (h3:∀ p∈X.pn++pins,p.1 ≠ it):Inv X pins σ H { s with heap:=h',toks:=t' }:=by
 have nit:∀ b u,H b=some u->b ≠ it:=fun b u e z=>by rw [z,hn] at e;cases e
 refine I.step (g':=s.gens) (d':=s.drawn) (ch:=[it]) (fun b hb=>?_) (fun b o _ _ hc e _=>k b o (fun z=>hc (by simp [z])) e) (fun b o _ _ hc e _=>⟨o.slots,k b o (fun z=>hc (by simp [z])) e⟩) (fun _ _ _ _ n=>n)
  (fun b o hc e=>⟨o,k b o (fun z=>hc (by simp [z])) e⟩) (fun _ _ e=>e) (fun _ _ _ e=>e) (fun b ps e=>⟨#[],by rw [e];simp⟩) (fun m hm=>?_) (fun b u e=>?_) I.bare
 ·have e:b=it:=by simpa using hb
  subst e
  exact⟨h1,hL,h2,h3⟩
 ·obtain⟨o,es,ep,ho,r⟩:=hm
  exact⟨o,es,ep,k _ o (Ne.symm hL) ho,r⟩
 ·refine(I.hok b u e).stay (fun c v hc q=>k c v ?_ q) (fun _ q=>q) (fun _ _ q=>q) fun _ _ q=>q
  rcases hc with z|z
  ·rw [z];exact nit b u e
  ·exact nit c _ z
theorem Inv.tok(I:Inv X pins σ H s)(t:Nat):Inv X pins σ H { s with toks:=t }:=I.un (h':=s.heap) (t':=t) Un.refl I.hok
theorem Inv.kept{t':Nat}(I:Inv X pins σ H s)(k:∀ b u,s.heap.get? b=some u->h'.get? b=some u):Inv X pins σ H { s with heap:=h',toks:=t' }:=I.un (Un.kept k) (I.hok.kept k)
theorem Inv.laid{a:Addr}{o:HO}{t':Nat}(I:Inv X pins σ H s)(k:∀ b u,s.heap.get? b=some u->h'.get? b=some u)(hp:s.heap.objs.size≤a)(new:ObjOk X.prog X.w (upd H a o) h' a o) :
  Inv X pins σ (upd H a o) { s with heap:=h',toks:=t' }:=I.un (Un.laid k hp (I.hok.fresh hp)) (I.hok.laid k hp new)
theorem Inv.write{x e:Addr}{o:HO}{t':Nat}(I:Inv X pins σ H s)(mu:Mut (H x))(he:e=x∨H e=some (.own x))(k:∀ b u,b ≠ e->s.heap.get? b=some u->h'.get? b=some u)(heo:∃ u,h'.get? e=some u)
  (new:ObjOk X.prog X.w (upd H x o) h' x o):Inv X pins σ (upd H x o) { s with heap:=h',toks:=t' }:=I.un (Un.write mu he k heo) (I.hok.write mu he k heo new)
theorem Inv.weak{σ':List (Option V)}(I:Inv X pins σ H s)(hl:σ'.length=σ.length)(w:∀ (i:Nat) v,σ'[i]? = some (some v)->σ[i]? = some (some v)):Inv X pins σ' H s:=
 ⟨I.ok,I.os,I.bare,I.base,let ⟨m,hn,hl'⟩:=I.loc;⟨m,hn,fun i x v e1 e2 e3=>hl' i x v e1 (w i v e2) e3⟩,I.cell,I.free,I.freeC,I.pin,I.hok,hl.trans I.len⟩
theorem Inv.pins_of{pins':List (Addr × Obj)}(I:Inv X pins σ H s)(h:∀ p∈pins',s.heap.get? p.1=some p.2∧H p.1=none∧p.1 ≠ X.env.locals∧p.1 ∉ X.fs∧∀ v,p.2.data ≠ .cell v):Inv X pins' σ H s:=
 ⟨I.ok,I.os,I.bare,I.base,I.loc,I.cell,I.free,I.freeC,fun p hp=>(List.mem_append.mp hp).elim (fun z=>I.pin p (List.mem_append_left _ z)) (h p),I.hok,I.len⟩
theorem nodup_ix{N:List Str}(hN:N.Nodup){i j:Nat}{x:Str}(a:N[i]? = some x)(b:N[j]? = some x):i=j:=by
 obtain⟨h1,e1⟩:=List.getElem?_eq_some_iff.mp a
 obtain⟨h2,e2⟩:=List.getElem?_eq_some_iff.mp b
 exact(List.getElem_inj hN).mp (e1.trans e2.symm)
theorem store_ok2{M:Model}{A:Around}{E:Value->Shared->Prop}{i:Nat}{x:Str}{v:V}{u:Value}{Q:Unit->Shared->Prop}(I:Inv X pins σ H s)(hN:X.N.Nodup)(hi:X.N[i]? = some x)(hx:Loc X.env.scope x)(r:RelV v u)
  (h:∀ s',Inv X pins (σ.set i (some v)) H s'->(∃ a,Heap.SameBut a s.heap s'.heap∧(a=X.env.locals∨X.env.cells.lookup x=some a))->Q () s') (hf:X.fn x=true∨X.env.scope.names.lookup x=some .local:=by first|exact .inl rfl|exact .inr rfl|assumption):wpAny M A (storeName X.env x u) Q E s:=by
 obtain⟨m,hn,hl⟩:=id I.loc
 have hcls:(X.env.scope.kind == .class || (X.env.scope.kind == .module && X.env.locals != X.env.globals))=false:=by rw [I.ok.kind];rfl
 have hiσ:i < σ.length:=by rw [I.len];exact(List.getElem?_eq_some_iff.mp hi).1
 have cne:=I.cne
 have tracked:∀ {a:Addr} {h':Heap},(∃ o,s.heap.get? a=some o∧H a=none)->Heap.SameBut a s.heap h'->HOk X.prog X.w H h':=fun {a h'} ha hs b ob e=>by
  obtain⟨_,_,hfree⟩:=ha
  refine(I.hok b ob e).stay (fun c w' hc q=>(hs.2 c ?_).trans q) (fun _ q=>q) (fun _ _ q=>q) fun _ _ q=>q
  rintro rfl
  rcases hc with rfl|hc
  ·rw [hfree] at e;cases e
  ·rw [hfree] at hc;cases hc
 rcases hx with hk|hk
 ·refine wpAny_storeName_local hk hn (fun h' hn' hs=>?_) hcls
  obtain⟨oL,_,_,hoL,_⟩:=id hn
  refine h _ ⟨I.ok,I.os,I.bare,⟨fun b o e n hb hx=>?_,fun b o e n hb hx=>?_,I.base.free,fun b o e hx=>?_,I.base.tups,I.base.frzs,I.base.tbls⟩,⟨_,hn',fun j y v' e1 e2 e3=>?_⟩,fun y c e=>?_,I.free,I.freeC,fun p hp=>?_,tracked ⟨oL,hoL,I.free⟩ hs,by simpa using I.len⟩ ⟨_,hs,.inl rfl⟩
  ·exact(hs.2 b (Nat.ne_of_lt (Nat.lt_of_lt_of_le (Heap.lt_size e) I.ok.above))).trans (I.base.keep b o e n hb hx)
  ·obtain⟨sl,e1⟩:=I.base.slot b o e n hb hx
   exact⟨sl,(hs.2 b (Nat.ne_of_lt (Nat.lt_of_lt_of_le (Heap.lt_size e) I.ok.above))).trans e1⟩
  ·obtain⟨o',e1⟩:=I.base.there b o e hx
   exact⟨o',(hs.2 b (Nat.ne_of_lt (Nat.lt_of_lt_of_le (Heap.lt_size e) I.ok.above))).trans e1⟩
  ·by_cases hj:j=i
   ·subst hj
    rw [hi] at e1;cases e1
    rw [List.getElem?_set_self hiσ] at e2
    cases e2
    exact⟨u,r,.inl ⟨hk,by simp⟩⟩
   ·rw [List.getElem?_set_ne (Ne.symm hj)] at e2
    obtain⟨u',r',q⟩:=hl j y v' e1 e2 e3
    refine⟨u',r',?_⟩
    rcases q with ⟨k,e⟩|⟨k,c,e,z⟩
    ·refine .inl ⟨k,?_⟩
     have:y ≠ x:=fun e=>hj (nodup_ix hN e1 (e ▸ hi))
     simp [this,e]
    ·exact .inr ⟨k,c,e,z.sameBut hs (cne y c e)⟩
  ·obtain⟨w',z⟩:=I.cell y c e
   exact⟨w',z.sameBut hs (cne y c e)⟩
  ·obtain⟨e,n,ne,nf,d⟩:=I.pin p hp
   exact⟨(hs.2 p.1 ne).trans e,n,ne,nf,d⟩
 ·have hfn:X.fn x=true:=by
   rcases hf with z|z
   ·exact z
   ·rw [z] at hk;cases hk
  obtain⟨c,hc⟩:=I.ok.has x (.inl hk)
  obtain⟨w',z⟩:=I.cell x c hc
  refine wpAny_storeName_cell I.ok.kind hk hc z (fun h' hc' hs=>?_)
  obtain⟨oc,hoc,hocd⟩:=id z
  refine h { s with heap:=h' } ⟨I.ok,I.os,I.bare,⟨fun b o e n hb hx=>?_,fun b o e n hb hx=>?_,I.base.free,fun b o e hx=>?_,I.base.tups,I.base.frzs,I.base.tbls⟩,⟨m,hn.sameBut hs (Ne.symm (cne x c hc)),fun j y v' e1 e2 e3=>?_⟩,fun y c' e=>?_,I.free,I.freeC,fun p hp=>?_,tracked ⟨oc,hoc,I.freeC x c hc⟩ hs,by simpa using I.len⟩ ⟨c,hs,.inr hc⟩
  ·exact(hs.2 b (Nat.ne_of_lt (Nat.lt_of_lt_of_le (Heap.lt_size e) (I.ok.cab x c hfn hc)))).trans (I.base.keep b o e n hb hx)
  ·obtain⟨sl,e1⟩:=I.base.slot b o e n hb hx
   exact⟨sl,(hs.2 b (Nat.ne_of_lt (Nat.lt_of_lt_of_le (Heap.lt_size e) (I.ok.cab x c hfn hc)))).trans e1⟩
  ·obtain⟨o',e1⟩:=I.base.there b o e hx
   exact⟨o',(hs.2 b (Nat.ne_of_lt (Nat.lt_of_lt_of_le (Heap.lt_size e) (I.ok.cab x c hfn hc)))).trans e1⟩
  ·by_cases hj:j=i
   ·subst hj
    rw [hi] at e1;cases e1
    rw [List.getElem?_set_self hiσ] at e2
    cases e2
    exact⟨u,r,.inr ⟨.inl hk,c,hc,hc'⟩⟩
   ·rw [List.getElem?_set_ne (Ne.symm hj)] at e2
    obtain⟨u',r',q⟩:=hl j y v' e1 e2 e3
    refine⟨u',r',?_⟩
    rcases q with q|⟨k,c',e,z'⟩
    ·exact .inl q
    ·refine .inr ⟨k,c',e,z'.sameBut hs ?_⟩
     rintro rfl
     exact hj (nodup_ix hN e1 (I.ok.inj _ _ _ e hc ▸ hi))
  ·by_cases hcc:c'=c
   ·subst hcc;exact⟨_,hc'⟩
   ·obtain⟨w2,z2⟩:=I.cell y c' e
    exact⟨w2,z2.sameBut hs hcc⟩
  ·obtain⟨e,n,ne,nf,d⟩:=I.pin p hp
   refine⟨(hs.2 p.1 ?_).trans e,n,ne,nf,d⟩
   intro q
   rw [q,hoc] at e
   have q':oc=p.2:=Option.some.inj e
   exact d w' (by rw [←q'];exact hocd)
theorem store_ok{M:Model}{A:Around}{E:Value->Shared->Prop}{i:Nat}{x:Str}{v:V}{u:Value}{Q:Unit->Shared->Prop}(I:Inv X pins σ H s)(hN:X.N.Nodup)(hi:X.N[i]? = some x)(hx:Loc X.env.scope x)(r:RelV v u)
  (h:∀ s',Inv X pins (σ.set i (some v)) H s'->Q () s') (hf:X.fn x=true∨X.env.scope.names.lookup x=some .local:=by first|exact .inl rfl|exact .inr rfl|assumption):wpAny M A (storeName X.env x u) Q E s:=
 store_ok2 I hN hi hx r (fun s' I' _=>h s' I') hf
theorem Inv.call'{s':Shared}{ch:List Addr}(I:Inv X pins σ H s)(ho:s'.os=s.os)(u:Un (frs X.stack) ch H H' s.heap s'.heap)(hok:HOk X.prog X.w H' s'.heap)(hg:AllBare s'.gens)
  (hch:∀ b∈ch,(b∈X.ex∨X.s₀.heap.objs.size≤b)∧b ≠ X.env.locals∧(∀ x c,X.env.cells.lookup x=some c->c ≠ b)∧∀ p∈X.pn++pins,p.1 ≠ b):Inv X pins σ H' s':=by
 obtain⟨h',g',d',t',o'⟩:=s'
 have e:o'=s.os:=ho
 subst e
 exact I.call (g':=g') (t':=t') (d':=d') u hok hg hch
end
abbrev XK:=Value->Option Addr->Hp->Prop
abbrev St:=List (Option V)
abbrev VK:=V->Hp->Prop
abbrev TE:=St->Hp->VK->Prop
abbrev TT:=St->Hp->(Bool->Hp->Prop)->Prop
abbrev TA:=St->Hp->(List V->Hp->Prop)->Prop
structure Ends where
 nx:St->Hp->Prop
 rt:VK
 bk:St->Hp->Prop:=fun _ _=>False
 ct:St->Hp->Prop:=fun _ _=>False
abbrev TS:=Ends->St->Hp->Prop
def EP(X:Cx)(pins:List (Addr × Obj))(σ:St)(Q:VK)(u:Value)(s':Shared):Prop:=∃ v H',Inv X pins σ H' s'∧RelV v u∧Q v H'
def TP(X:Cx)(pins:List (Addr × Obj))(σ:St)(Q:Bool->Hp->Prop)(b:Bool)(s':Shared):Prop:=∃ H',Inv X pins σ H' s'∧Q b H'
def AP(X:Cx)(pins:List (Addr × Obj))(σ:St)(Q:List V->Hp->Prop)(us:List Value)(s':Shared):Prop:=∃ vs H',Inv X pins σ H' s'∧Vals vs us∧Q vs H'
def SP(X:Cx)(pins:List (Addr × Obj))(D:Ends)(f:Flow)(s':Shared):Prop:=
 match f with
 | .next=>∃ σ' H',Inv X pins σ' H' s'∧D.nx σ' H'
 | .brk=>∃ σ' H',Inv X pins σ' H' s'∧D.bk σ' H'
 | .cont=>∃ σ' H',Inv X pins σ' H' s'∧D.ct σ' H'
 | .ret u=>∃ v σ' H',Inv X pins σ' H' s'∧RelV v u∧D.rt v H'
def PE(X:Cx)(e:Expr)(t:TE):Prop:=
 ∀ (pins:List (Addr × Obj)) (s:Shared) (σ:St) (H:Hp) (Q:VK),Inv X pins σ H s->t σ H Q->wpAny (model X.prog X.w) X.A (eval e X.env) (EP X pins σ Q) X.xe s
def PT(X:Cx)(e:Expr)(t:TT):Prop:=
 ∀ (pins:List (Addr × Obj)) (s:Shared) (σ:St) (H:Hp) (Q:Bool->Hp->Prop),Inv X pins σ H s->t σ H Q->wpAny (model X.prog X.w) X.A (isTrue e X.env (eval e X.env)) (TP X pins σ Q) X.xe s
def PW(X:Cx)(e:Expr)(t:TT):Prop:=
 ∀ (whole:Sem Value) (pins:List (Addr × Obj)) (s:Shared) (σ:St) (H:Hp) (Q:Bool->Hp->Prop),Inv X pins σ H s->t σ H Q->wpAny (model X.prog X.w) X.A (isTrue e X.env whole) (TP X pins σ Q) X.xe s
theorem PW.pt{X:Cx}{e:Expr}{t:TT}(h:PW X e t):PT X e t:=h _
def PA(X:Cx)(es:List Expr)(t:TA):Prop:=
 ∀ (pos:Pos) (pins:List (Addr × Obj)) (s:Shared) (σ:St) (H:Hp) (Q:List V->Hp->Prop),Inv X pins σ H s->t σ H Q->wpAny (model X.prog X.w) X.A (spliced (backTo pos (starEach es X.env))) (AP X pins σ Q) X.xe s
def PS(X:Cx)(st:Stmt)(t:TS):Prop:=
 ∀ (pins:List (Addr × Obj)) (s:Shared) (σ:St) (H:Hp) (D:Ends),Inv X pins σ H s->t D σ H->wpAny (model X.prog X.w) X.A (exec st X.env) (SP X pins D) X.xe s
def PSs(X:Cx)(st:List Stmt)(t:TS):Prop:=
 ∀ (pins:List (Addr × Obj)) (s:Shared) (σ:St) (H:Hp) (D:Ends),Inv X pins σ H s->t D σ H->wpAny (model X.prog X.w) X.A (execs st X.env) (SP X pins D) X.xe s
theorem thn{α:Type}{t:Sem α}{Q Q':α->Shared->Prop}{M:Model}{A:Around}{E:Value->Shared->Prop}{s:Shared}(h:wpAny M A t Q E s)(hQ:∀ a s,Q a s->Q' a s):wpAny M A t Q' E s:=wpAny_mono h hQ fun _ _ x=>x
end L2
namespace L2
open PySem PySem.Spec PyProof.Rows
section
variable {X:Cx}
def tVar(i:Nat):TE:=fun σ H Q=>∃ v,σ[i]? = some (some v)∧Q v H
def tC(v:V):TE:=fun _ H Q=>Q v H
theorem pe_var{i:Nat}{x:Str}{pos:Pos}(hN:X.N[i]? = some x)(hv:Vis X.env.scope x)(hd:(x == ("__debug__":Str))=false:=by decide)(hcd:(x == ("__classdict__":Str))=false:=by decide):PE X (.Name x pos) (tVar i):=by
 intro pins s σ H Q I h
 obtain⟨v,e,h⟩:=h
 obtain⟨m,hn,hl⟩:=I.loc
 obtain⟨u,r,l⟩:=hl i x v hN e hv
 have fin:EP X pins σ Q u s:=⟨v,H,I,r,h⟩
 rcases l with ⟨hk,hm⟩|⟨hk,c,hc,hcell⟩
 ·exact wpAny_Name (wpAny_loadName_local I.ok.kind hk hn hm fin) hd
 ·rcases hk with hk|hk
  ·exact wpAny_Name (wpAny_loadName_cell I.ok.kind hk hc hcell fin) hd
  ·exact wpAny_Name (wpAny_loadName_free I.ok.kind hk hc hcell fin hcd) hd
theorem pe_int{i j pos}:PE X (.Constant (.int i) j pos) (tC (.int i)):=fun _ _ _ H _ I h=>wpAny_Constant_int ⟨.int i,H,I.tok _,⟨_,rfl⟩,h⟩
theorem pe_bl{b j pos}:PE X (.Constant (.bool b) j pos) (tC (.bl b)):=fun _ _ _ H _ I h=>Constant_bool ⟨.bl b,H,I,rfl,h⟩
theorem pe_non{j pos}:PE X (.Constant .none j pos) (tC .non):=fun _ _ _ H _ I h=>Constant_none ⟨.non,H,I,rfl,h⟩
theorem pe_str{x j pos}:PE X (.Constant (.str x) j pos) (tC (.str x)):=fun _ _ _ H _ I h=>Calls.Constant_str ⟨.str x,H,I.tok _,⟨_,rfl⟩,h⟩
def Gl(X:Cx)(x:Str):Prop:=X.env.kindOf x=some .globalImplicit
theorem ld_glob{E:Value->Shared->Prop}{pins:List (Addr × Obj)}{s:Shared}{σ:St}{H:Hp}{x:Str}{u:Value}{pos:Pos}{Q:Value->Shared->Prop}(I:Inv X pins σ H s)(hg:Gl X x)(hm:X.mg x=some u)(h:Q u s)
  (hd:(x == ("__debug__":Str))=false:=by decide):wpAny (model X.prog X.w) X.A (eval (.Name x pos) X.env) Q E s:=
 Calls.Name_function_global I.ok.kind hg (Calls.loadGlobal_global (by rw [I.ok.glob];exact I.mod.glob.keeps I.bk) hm h) hd
theorem ld_blt{E:Value->Shared->Prop}{pins:List (Addr × Obj)}{s:Shared}{σ:St}{H:Hp}{x:Str}{u:Value}{pos:Pos}{Q:Value->Shared->Prop}(I:Inv X pins σ H s)(hg:Gl X x)(hm:X.mg x=none)(hv:bootBuiltins x=some u)(h:Q u s)
  (hn:x ≠ "__name__":=by decide) (hd:(x == ("__debug__":Str))=false:=by decide):wpAny (model X.prog X.w) X.A (eval (.Name x pos) X.env) Q E s:=by
 obtain⟨mb,h1,h2⟩:=I.mod.blt
 exact Calls.Name_function_global I.ok.kind hg (Calls.loadGlobal_builtin (by rw [I.ok.glob];exact I.mod.glob.keeps I.bk) hm (by rw [I.ok.blt];exact h1.keeps I.bk) ((h2 x hn).trans hv) h) hd
theorem pe_glob{x:Str}{v:V}{u:Value}{pos:Pos}(hg:Gl X x)(hm:X.mg x=some u)(r:RelV v u)(hd:(x == ("__debug__":Str))=false:=by decide):PE X (.Name x pos) (tC v):=
 fun _ _ _ H _ I h=>ld_glob I hg hm ⟨v,H,I,r,h⟩ hd
theorem pe_bltn{x:Str}{v:V}{u:Value}{pos:Pos}(hg:Gl X x)(hm:X.mg x=none)(hv:bootBuiltins x=some u)(r:RelV v u)(hn:x ≠ "__name__":=by decide)(hd:(x == ("__debug__":Str))=false:=by decide):PE X (.Name x pos) (tC v):=
 fun _ _ _ H _ I h=>ld_blt I hg hm hv ⟨v,H,I,r,h⟩ hn hd
variable {a b:Expr}{ta tb:TE}{pos:Pos}
def tB(t:TE):TT:=fun σ H Q=>t σ H fun x H1=>∃ c,x=.bl c∧Q c H1
theorem pt_val{e:Expr}{t:TE}(h:PE X e t)(he:∀ whole,isTrue e X.env whole=(do let v ←whole;standAt e.pos;holding [v] (truthy v)):=by intro _;rfl):PT X e (tB t):=by
 intro pins s σ H Q I hw
 refine isTrue_plain (thn (h pins s σ H _ I hw) fun v s1 ⟨x,H1,I1,r1,q1⟩=>?_) (he _)
 obtain⟨d,rfl,q⟩:=q1
 cases r1
 exact wpAny_truthy_bool ⟨H1,I1,q⟩
variable {tA tB':TT}{rest:List Expr}
def tAnd(t u:TT):TT:=fun σ H Q=>t σ H fun c H1=>if c=true then u σ H1 Q else Q false H1
def tOr(t u:TT):TT:=fun σ H Q=>t σ H fun c H1=>if c=true then Q true H1 else u σ H1 Q
def tNot(t:TT):TT:=fun σ H Q=>t σ H fun c H1=>Q (!c) H1
theorem pw_and1(ha:PT X a tA):PW X (.BoolOp .And [a] pos) tA:=by
 intro wh pins s σ H Q I h
 refine isTrue_and (thn (ha pins s σ H Q I h) fun c s1 e=>?_)
 cases c with
 | true=>exact isTrue_and_nil e
 | false=>exact e
theorem pw_or1(ha:PT X a tA):PW X (.BoolOp .Or [a] pos) tA:=by
 intro wh pins s σ H Q I h
 refine isTrue_or (thn (ha pins s σ H Q I h) fun c s1 e=>?_)
 cases c with
 | false=>exact isTrue_or_nil e
 | true=>exact e
theorem pw_and(ha:PT X a tA)(hb:PW X (.BoolOp .And (b::rest) pos) tB'):PW X (.BoolOp .And (a::b::rest) pos) (tAnd tA tB'):=by
 intro wh pins s σ H Q I h
 refine isTrue_and (thn (ha pins s σ H _ I h) fun c s1 ⟨H1,I1,q1⟩=>?_)
 cases c with
 | true=>exact hb wh pins s1 σ H1 Q I1 q1
 | false=>exact⟨H1,I1,q1⟩
theorem pw_or(ha:PT X a tA)(hb:PW X (.BoolOp .Or (b::rest) pos) tB'):PW X (.BoolOp .Or (a::b::rest) pos) (tOr tA tB'):=by
 intro wh pins s σ H Q I h
 refine isTrue_or (thn (ha pins s σ H _ I h) fun c s1 ⟨H1,I1,q1⟩=>?_)
 cases c with
 | true=>exact⟨H1,I1,q1⟩
 | false=>exact hb wh pins s1 σ H1 Q I1 q1
theorem pt_not(ha:PT X a tA):PT X (.UnaryOp .Not a pos) (tNot tA):=by
 intro pins s σ H Q I h
 exact isTrue_not (ha pins s σ H (fun c H1=>Q (!c) H1) I h)
def tAndV(ta tb:TE):TE:=fun σ H Q=>ta σ H fun x H1=>∃ c,x=.bl c∧if c=true then tb σ H1 Q else Q (.bl false) H1
def tOrV(ta tb:TE):TE:=fun σ H Q=>ta σ H fun x H1=>∃ c,x=.bl c∧if c=true then Q (.bl true) H1 else tb σ H1 Q
def tNotV(ta:TE):TE:=fun σ H Q=>ta σ H fun x H1=>∃ c,x=.bl c∧Q (.bl (!c)) H1
theorem pe_one{op}{t:TE}(h:PE X a t):PE X (.BoolOp op [a] pos) t:=fun pins s σ H Q I hw=>BoolOp_one (h pins s σ H Q I hw)
theorem pe_and(ha:PE X a ta)(hb:PE X (.BoolOp .And (b::rest) pos) tb):PE X (.BoolOp .And (a::b::rest) pos) (tAndV ta tb):=by
 intro pins s σ H Q I h
 refine BoolOp_and (thn (ha pins s σ H _ I h) fun v s1 ⟨x,H1,I1,r1,q1⟩=>?_)
 obtain⟨c,rfl,q1⟩:=q1
 cases r1
 refine wpAny_truthy_bool ?_
 cases c with
 | true=>exact hb pins s1 σ H1 Q I1 q1
 | false=>exact⟨.bl false,H1,I1,rfl,q1⟩
theorem pe_or(ha:PE X a ta)(hb:PE X (.BoolOp .Or (b::rest) pos) tb):PE X (.BoolOp .Or (a::b::rest) pos) (tOrV ta tb):=by
 intro pins s σ H Q I h
 refine BoolOp_or (thn (ha pins s σ H _ I h) fun v s1 ⟨x,H1,I1,r1,q1⟩=>?_)
 obtain⟨c,rfl,q1⟩:=q1
 cases r1
 refine wpAny_truthy_bool ?_
 cases c with
 | false=>exact hb pins s1 σ H1 Q I1 q1
 | true=>exact⟨.bl true,H1,I1,rfl,q1⟩
theorem pe_not(ha:PE X a ta):PE X (.UnaryOp .Not a pos) (tNotV ta):=by
 intro pins s σ H Q I h
 refine UnaryOp_ (thn (ha pins s σ H _ I h) fun v s1 ⟨x,H1,I1,r1,q1⟩=>?_)
 obtain⟨c,rfl,q1⟩:=q1
 cases r1
 exact not_of (wpAny_truthy_bool ⟨.bl (!c),H1,I1,rfl,q1⟩)
end
end L2
namespace L2
open PySem PySem.Spec PyProof.Rows
def SqL(K:PySem.W.Frag)(H:Hp)(a:Addr)(xs:List V):Prop:=
 Rd H a (.lst xs) ∨
  ∃ (o:Obj) (its:Array Value) (n:Nat),K.lookup a=some o∧o.cls=.type "list" ∧ o.dict=none∧o.data=.seq its n∧its.size≤sizeLine∧Vals xs its.toList
def SqT(K:PySem.W.Frag)(H:Hp)(a:Addr)(xs:List V):Prop:=
 Rd H a (.tup xs) ∨
  ∃ (o:Obj) (its:Array Value) (n:Nat),K.lookup a=some o∧o.cls=.type "tuple" ∧ o.data=.seq its n∧its.size≤sizeLine∧Vals xs its.toList
def absV:Value->Option V
 | .none=>some .non
 | .bool b=>some (.bl b)
 | .int i _=>some (.int i)
 | .str x _=>some (.str x)
 | .bytes b _=>some (.byt b)
 | .float b _=>some (.flt b)
 | .ref a=>some (.ref a)
 | .type n=>some (.ty n)
 | _=>none
theorem RelV.abs{x:V}{u:Value}(r:RelV x u):absV u=some x:=by
 cases x with
 | non=>cases r;rfl
 | bl _=>cases r;rfl
 | int _=>obtain⟨t,rfl⟩:=r;rfl
 | str _=>obtain⟨t,rfl⟩:=r;rfl
 | byt _=>obtain⟨t,rfl⟩:=r;rfl
 | flt _=>obtain⟨t,rfl⟩:=r;rfl
 | ref _=>cases r;rfl
 | ty _=>cases r;rfl
theorem RelV.inj{x y:V}{u:Value}(r:RelV x u)(q:RelV y u):x=y:=Option.some.inj (r.abs.symm.trans q.abs)
theorem Vals.inj:∀ {xs ys:List V}{us:List Value},Vals xs us->Vals ys us->xs=ys
 | _,_,_,.nil,.nil=>rfl
 | _,_,_,.cons r t,.cons r' t'=>by rw [r.inj r',Vals.inj t t']
section
variable {X:Cx}{pins:List (Addr × Obj)}{σ:St}{H:Hp}{s:Shared}{a:Addr}{xs ys:List V}
theorem SqL.of{K:PySem.W.Frag}(h:H a=some (.lst xs)):SqL K H a xs:=.inl (.inl h)
theorem SqT.of{K:PySem.W.Frag}(h:H a=some (.tup xs)):SqT K H a xs:=.inl (.inl h)
theorem Inv.list(I:Inv X pins σ H s)(h:SqL X.K H a xs):∃ its:List Value,Vals xs its∧PlainL s.heap a its.toArray∧xs.length≤sizeLine:=by
 rcases h with h|⟨o,its,n,hk,hc,hd,hs,hz,r⟩
 ·obtain⟨z,its,n,r,e⟩:=h.ok I.hok
  exact⟨its,r,⟨_,n,e,rfl,rfl,rfl⟩,z⟩
 ·refine⟨its.toList,r,⟨o,n,I.kIn a o hk,hc,hd,by simpa using hs⟩,?_⟩
  have e:=r.length
  simp only [Array.length_toList] at e
  omega
theorem Inv.tuple(I:Inv X pins σ H s)(h:SqT X.K H a xs):∃ its:List Value,Vals xs its∧IsTup s.heap a its.toArray∧xs.length≤sizeLine:=by
 rcases h with h|⟨o,its,n,hk,hc,hs,hz,r⟩
 ·obtain⟨z,its,r,p⟩:=h.ok I.hok
  exact⟨its,r,p,z⟩
 ·refine⟨its.toList,r,⟨o,I.kIn a o hk,hc,n,by simpa using hs⟩,?_⟩
  have e:=r.length
  simp only [Array.length_toList] at e
  omega
theorem Inv.list_inj(I:Inv X pins σ H s)(h:SqL X.K H a xs)(h':SqL X.K H a ys):xs=ys:=by
 obtain⟨its,r,⟨o,n,e,_,_,d⟩,_⟩:=I.list h
 obtain⟨its',r',⟨o',n',e',_,_,d'⟩,_⟩:=I.list h'
 rw [e] at e';cases e'
 rw [d] at d'
 injection d' with d1 _
 have:its=its':=by simpa using congrArg Array.toList d1
 subst this
 exact r.inj r'
theorem Inv.tuple_inj(I:Inv X pins σ H s)(h:SqT X.K H a xs)(h':SqT X.K H a ys):xs=ys:=by
 obtain⟨its,r,⟨o,e,_,n,d⟩,_⟩:=I.tuple h
 obtain⟨its',r',⟨o',e',_,n',d'⟩,_⟩:=I.tuple h'
 rw [e] at e';cases e'
 rw [d] at d'
 injection d' with d1 _
 have:its=its':=by simpa using congrArg Array.toList d1
 subst this
 exact r.inj r'
end
abbrev Cx.wish(X:Cx)(E:Value->Shared->Prop):Cx:={ X with xe:=E }
abbrev Cx.nox(X:Cx):Cx:=X.wish fun _ _=>False
theorem Cx.Ok.wish{X:Cx}(ok:X.Ok)(E:Value->Shared->Prop):(X.wish E).Ok:=
 ⟨ok.mod,ok.kind,ok.glob,ok.blt,ok.above,ok.inj,ok.has,ok.cab,ok.hd,ok.frames,ok.stk,ok.exf,ok.bs,ok.bsz,ok.noex,ok.exfs,ok.funs,ok.frf⟩
theorem Cx.Ok.unwish{X:Cx}{E:Value->Shared->Prop}(ok:(X.wish E).Ok):X.Ok:=
 ⟨ok.mod,ok.kind,ok.glob,ok.blt,ok.above,ok.inj,ok.has,ok.cab,ok.hd,ok.frames,ok.stk,ok.exf,ok.bs,ok.bsz,ok.noex,ok.exfs,ok.funs,ok.frf⟩
section
variable {X:Cx}{pins:List (Addr × Obj)}{σ:St}{H:Hp}{s:Shared}{E:Value->Shared->Prop}
theorem Inv.wish(I:Inv X pins σ H s)(E:Value->Shared->Prop):Inv (X.wish E) pins σ H s:=⟨I.ok.wish E,I.os,I.bare,I.base,I.loc,I.cell,I.free,I.freeC,I.pin,I.hok,I.len⟩
theorem Inv.unwish(I:Inv (X.wish E) pins σ H s):Inv X pins σ H s:=⟨I.ok.unwish,I.os,I.bare,I.base,I.loc,I.cell,I.free,I.freeC,I.pin,I.hok,I.len⟩
theorem SP.unwish{D:Ends}{f:Flow}{s':Shared}(h:SP (X.wish E) pins D f s'):SP X pins D f s':=by
 cases f with
 | next=>obtain⟨σ',H',I,q⟩:=h;exact⟨σ',H',I.unwish,q⟩
 | brk=>obtain⟨σ',H',I,q⟩:=h;exact⟨σ',H',I.unwish,q⟩
 | cont=>obtain⟨σ',H',I,q⟩:=h;exact⟨σ',H',I.unwish,q⟩
 | ret u=>obtain⟨v,σ',H',I,r,q⟩:=h;exact⟨v,σ',H',I.unwish,r,q⟩
theorem PSs.nox{st:List Stmt}{t:TS}(h:PSs X.nox st t):PSs X st t:=fun pins s σ H D I hw=>
 wpAny_mono (h pins s σ H D (I.wish _) hw) (fun _ _ q=>q.unwish) fun _ _ z=>False.elim z
end
section
variable {X:Cx}{st:Stmt}{rest:List Stmt}{t u:TS}{e:Expr}{te:TE}{pos:Pos}
def tNext:TS:=fun D σ H=>D.nx σ H
def tSeq(t u:TS):TS:=fun D σ H=>t { D with nx:=u D } σ H
theorem pss_nil:PSs X [] tNext:=fun _ _ σ H _ I h=>wpAny_execs_nil ⟨σ,H,I,h⟩
theorem pss_cons(h1:PS X st t)(h2:PSs X rest u):PSs X (st::rest) (tSeq t u):=by
 intro pins s σ H D I h
 refine wpAny_execs_cons (thn (h1 pins s σ H { D with nx:=u D } I h) fun f s1 q=>?_)
 cases f with
 | next=>
  obtain⟨σ',H',I',q⟩:=q
  exact h2 pins s1 σ' H' D I' q
 | ret v=>exact q
 | brk=>exact q
 | cont=>exact q
theorem pss_one(h1:PS X st t):PSs X [st] t:=by
 intro pins s σ H D I h
 refine wpAny_execs_cons (thn (h1 pins s σ H D I h) fun f s1 q=>?_)
 cases f with
 | next=>exact wpAny_execs_nil q
 | ret v=>exact q
 | brk=>exact q
 | cont=>exact q
theorem Inv.quiet{pins:List (Addr × Obj)}{σ:St}{H:Hp}{s:Shared}(I:Inv X pins σ H s):interactive X.env=false:=by simp [interactive,I.ok.kind]
def tDrop(te:TE):TS:=fun D σ H=>te σ H fun _ H1=>D.nx σ H1
theorem ps_expr(he:PE X e te)(hs:swapsWith e none pos.line X.env=pure false:=by rfl):PS X (.Expr e pos) (tDrop te):=by
 intro pins s σ H D I h
 exact wpAny_Expr_any (thn (he pins s σ H _ I h) fun v s1 ⟨x,H1,I1,r1,q1⟩=>⟨σ,H1,I1,q1⟩) I.quiet hs
def tRet(te:TE):TS:=fun D σ H=>te σ H D.rt
theorem ps_ret(he:PE X e te):PS X (.Return (some e) pos) (tRet te):=by
 intro pins s σ H D I h
 exact wpAny_Return_some (thn (he pins s σ H _ I h) fun v s1 ⟨x,H1,I1,r1,q1⟩=>⟨x,σ,H1,I1,r1,q1⟩)
def tIfS(c:TT)(t u:TS):TS:=fun D σ H=>c σ H fun b H1=>if b=true then t D σ H1 else u D σ H1
theorem ps_if{c:Expr}{a b:List Stmt}{tc:TT}(hc:PT X c tc)(ha:PSs X a t)(hb:PSs X b u):PS X (.If c a b pos) (tIfS tc t u):=by
 intro pins s σ H D I h
 refine wpAny_If (thn (hc pins s σ H _ I h) fun d s1 ⟨H1,I1,q1⟩=>?_)
 cases d with
 | true=>exact ha pins s1 σ H1 D I1 q1
 | false=>exact hb pins s1 σ H1 D I1 q1
def tNever:TS:=fun _ _ _=>False
theorem ps_never:PS X st tNever:=fun _ _ _ _ _ _ h=>h.elim
end
abbrev TG:=V->St->Hp->(St->Hp->Prop)->Prop
def PG(X:Cx)(target:Expr)(t:TG):Prop:=
 ∀ (pins:List (Addr × Obj)) (s:Shared) (σ:St) (H:Hp) (v:V) (u:Value) (Q:St->Hp->Prop),Inv X pins σ H s->RelV v u->t v σ H Q →
  wpAny (model X.prog X.w) X.A (assign target X.env u) (fun _ s'=>∃ σ' H',Inv X pins σ' H' s'∧Q σ' H') X.xe s
abbrev TSet:=V->V->V->Hp->(Hp->Prop)->Prop
def PSet(X:Cx)(t:TSet):Prop:=
 ∀ (pins:List (Addr × Obj)) (s:Shared) (σ:St) (H:Hp) (o i v:V) (ov iv u:Value) (Q:Hp->Prop),Inv X pins σ H s->RelV o ov->RelV i iv->RelV v u->t o i v H Q →
  wpAny (model X.prog X.w) X.A (setItem ov iv u) (fun _ s'=>∃ H',Inv X pins σ H' s'∧Q H') X.xe s
section
variable {X:Cx}{pos:Pos}
def gName(i:Nat):TG:=fun v σ H Q=>Q (σ.set i (some v)) H
theorem pg_name{i:Nat}{x:Str}(hN:X.N.Nodup)(hi:X.N[i]? = some x)(hx:Loc X.env.scope x)(hf:X.fn x=true∨X.env.scope.names.lookup x=some .local:=by first|exact .inl rfl|exact .inr rfl|assumption):PG X (.Name x pos) (gName i):=by
 intro pins s σ H v u Q I r h
 exact wpAny_assign_Name (store_ok I hN hi hx r (fun s' I'=>⟨_,H,I',h⟩) hf)
def gSub(to ti:TE)(t:TSet):TG:=fun v σ H Q=>to σ H fun o H1=>ti σ H1 fun i H2=>t o i v H2 fun H3=>Q σ H3
theorem pg_sub{o i:Expr}{to ti:TE}{t:TSet}(ho:PE X o to)(hi:PE X i ti)(hs:PSet X t)
  (ha:∀ v,assign (.Subscript o i pos) X.env v=(do
   let ov ←holding [v] (eval o X.env)
   let iv ←holding [v,ov] (eval i X.env)
   standAt pos
   holding [v,ov,iv] (setItem ov iv v)
   release [v,ov,iv] []):=by intro _;rfl):PG X (.Subscript o i pos) (gSub to ti t):=by
 intro pins s σ H v u Q I r h
 rw [ha]
 refine wpAny_bind (wpAny_holding (thn (ho pins s σ H _ I h) fun ov s1 ⟨x,H1,I1,r1,q1⟩=>?_))
 refine wpAny_bind (wpAny_holding (thn (hi pins s1 σ H1 _ I1 q1) fun iv s2 ⟨y,H2,I2,r2,q2⟩=>?_))
 refine wpAny_bind (wpAny_standAt (wpAny_bind (wpAny_holding (thn (hs pins s2 σ H2 x y v ov iv u _ I2 r1 r2 r q2) fun _ s3 ⟨H3,I3,q3⟩=>?_))))
 exact wpAny_release ⟨σ,H3,I3,q3⟩
def tAsg(te:TE)(g:TG):TS:=fun D σ H=>te σ H fun x H1=>g x σ H1 D.nx
theorem ps_asg{tg e:Expr}{te:TE}{g:TG}(he:PE X e te)(hg:PG X tg g)(hs:swapsWithSole [tg] e pos.line X.env=pure false:=by rfl)(hw:swappedStores [tg] e X.env=pure none:=by rfl)
  (h1:(assignEach [tg] X.env).map (·.2)=[assign tg X.env]:=by rfl):PS X (.Assign [tg] e pos) (tAsg te g):=by
 intro pins s σ H D I h
 refine wpAny_Assign_stores (thn (he pins s σ H _ I h) fun v s1 ⟨x,H1,I1,r1,q1⟩=>?_) hs hw
 rw [h1]
 exact thn (hg pins s1 σ H1 x v _ I1 r1 q1) fun _ s2 q=>q
theorem ps_set{i:Nat}{x:Str}{e:Expr}{te:TE}{pos':Pos}(hN:X.N.Nodup)(hi:X.N[i]? = some x)(hx:Loc X.env.scope x)(he:PE X e te)(hs:swapsWith e (some (.Name x pos')) pos.line X.env=pure false:=by rfl)(hf:X.fn x=true∨X.env.scope.names.lookup x=some .local:=by first|exact .inl rfl|exact .inr rfl|assumption) :
  PS X (.Assign [.Name x pos'] e pos) (tAsg te (gName i)):=by
 intro pins s σ H D I h
 refine wpAny_Assign_Name (thn (he pins s σ H _ I h) fun v s1 ⟨y,H1,I1,r1,q1⟩=>?_) hs
 exact store_ok I1 hN hi hx r1 (fun s2 I2=>⟨_,H1,I2,q1⟩) hf
end
section
variable {X:Cx}{pos:Pos}
end
structure It where
 go:Nat->Hp->Prop
 yld:Nat->Hp->V->Hp->Prop
 stop:Nat->Hp->Prop
def FpOk(X:Cx)(pins:List (Addr × Obj))(H:Hp)(b:Addr):Prop:=
 H b=none∧b ≠ X.env.locals∧b ∉ X.fs∧(b∈X.ex∨X.s₀.heap.objs.size≤b)∧(∀ x c,X.env.cells.lookup x=some c->c ≠ b)∧∀ p∈X.pn++pins,p.1 ≠ b
theorem Inv.fpOk{X:Cx}{pins:List (Addr × Obj)}{σ:St}{H H':Hp}{s:Shared}{b:Addr}(I:Inv X pins σ H s)(hb:s.heap.objs.size≤b)(hn:H' b=none):FpOk X pins H' b:=by
 refine⟨hn,Nat.ne_of_gt (Nat.lt_of_lt_of_le I.lt hb),I.nofs hb,.inr (Nat.le_trans I.sz hb),fun x c e z=>?_,fun p hp z=>?_⟩
 ·obtain⟨v,q⟩:=I.cell x c e
  exact absurd (Nat.lt_of_lt_of_le q.lt (by rw [z];exact hb)) (Nat.lt_irrefl _)
 ·exact absurd (Nat.lt_of_lt_of_le (Heap.lt_size (I.pin p hp).1) (by rw [z];exact hb)) (Nat.lt_irrefl _)
structure Turn(P:Program)(w:World)(K:PySem.W.Frag)(tg:Expr)(J:It)(fp:List Addr)(it:Addr)(tn:Nat->Heap->Prop):Prop where
 mem:it∈fp
 obj:∀ i h,tn i h->∀ b∈fp,∃ o,h.get? b=some o∧∀ v,o.data ≠ .cell v
 keep:∀ i h h',tn i h->(∀ b∈fp,∀ o,h.get? b=some o->h'.get? b=some o)->tn i h'
 item:∀ (X:Cx),X.prog=P->X.w=w->X.K=K->X.calm=true->∀ (i:Nat) (pins:List (Addr × Obj)) (s:Shared) (σ:St) (H:Hp) (E:Value->Shared->Prop),Inv X pins σ H s->(∀ b∈fp,FpOk X pins H b)->tn i s.heap->J.go i H →
  wpAny (model P w) X.A (pyNext (.ref it)) (fun r s1=>∃ u,r=some u ∧
   wpAny (model P w) X.A (letOwnedTupleGo tg (.ref it) u) (fun _ s2=>∃ x H',Inv X pins σ H' s2∧RelV x u∧J.yld i H x H'∧tn (i+1) s2.heap∧∀ b∈fp,H' b=none) E s1) E s
 done:∀ (X:Cx),X.prog=P->X.w=w->X.K=K->X.calm=true->∀ (i:Nat) (pins:List (Addr × Obj)) (s:Shared) (σ:St) (H:Hp) (E:Value->Shared->Prop),Inv X pins σ H s->(∀ b∈fp,FpOk X pins H b)->tn i s.heap->J.stop i H →
  wpAny (model P w) X.A (pyNext (.ref it)) (fun r s1=>r=none∧Inv X pins σ H s1) E s
 self:∀ (A:Around) (i:Nat) (s:Shared) (Q:Value->Shared->Prop) (E:Value->Shared->Prop),tn i s.heap->Q (.ref it) s->wpAny (model P w) A (pyIter (.ref it)) Q E s
abbrev TI:=St->Hp->(It->Hp->Prop)->Prop
def PIE(X:Cx)(pins:List (Addr × Obj))(σ:St)(tg:Expr)(R:It->Hp->Prop)(itv:Value)(s2:Shared):Prop:=
 ∃ (it:Addr) (fp:List Addr) (tn:Nat->Heap->Prop) (J:It) (H':Hp),itv=.ref it∧Inv X pins σ H' s2∧Turn X.prog X.w X.K tg J fp it tn∧tn 0 s2.heap∧(∀ b∈fp,FpOk X pins H' b)∧R J H'
def PI(X:Cx)(tg iter:Expr)(wi:TI):Prop:=
 ∀ (pins:List (Addr × Obj)) (s:Shared) (σ:St) (H:Hp) (R:It->Hp->Prop),Inv X pins σ H s->wi σ H R →
  wpAny (model X.prog X.w) X.A (eval iter X.env) (fun v s1=>wpAny (model X.prog X.w) X.A (pyIter v) (PIE X pins σ tg R) X.xe s1) X.xe s
theorem go_of{M:Model}{A:Around}{E:Value->Shared->Prop}{s:Shared}{tg:Expr}{it:Addr}{u:Value}{o:Obj}{n:String}{vs:Array Value}{Q:Unit->Shared->Prop}(ho:s.heap.get? it=some o)(hc:o.cls=.type n)(hd:o.data=.fields vs)
    (hn:["enumerate", "zip", "dict_itemiterator", "dict_reverseitemiterator", "odict_iterator", "itertools.zip_longest", "itertools.pairwise"].contains n=false) (hQ:Q () s):wpAny M A (letOwnedTupleGo tg (.ref it) u) Q E s:=by
  unfold letOwnedTupleGo
  cases tg<;>first
    | exact wpAny_pure hQ
    | (cases u<;>first
        | exact wpAny_pure hQ
        | (refine wpAny_bind (wpAny_load ho ?_)
           rw [hc,hd]
           show wpAny M A (if (["enumerate", "zip", "dict_itemiterator", "dict_reverseitemiterator", "odict_iterator", "itertools.zip_longest", "itertools.pairwise"].contains n && vs[0]? == some (rawInt _))=true then _ else _) Q E s
           rw [if_neg (by intro h;rw [hn,Bool.false_and] at h;cases h)]
           exact wpAny_pure hQ))
def Itl(K:PySem.W.Frag)(a:Addr):It:=
 ⟨fun i H=>∃ xs x,SqL K H a xs∧xs[i]? = some x,fun i H x H'=>H'=H∧∀ xs,SqL K H a xs->xs[i]? = some x,fun i H=>∃ xs,SqL K H a xs∧xs.length≤i⟩
def Itt(K:PySem.W.Frag)(a:Addr):It:=
 ⟨fun i H=>∃ xs x,SqT K H a xs∧xs[i]? = some x,fun i H x H'=>H'=H∧∀ xs,SqT K H a xs->xs[i]? = some x,fun i H=>∃ xs,SqT K H a xs∧xs.length≤i⟩
def Itr(lo:Int)(n:Nat):It:=⟨fun i _=>i < n,fun i H x H'=>H'=H∧x=.int (lo+i),fun i _=>n≤i⟩
theorem turn_list{P:Program}{w:World}{K:PySem.W.Frag}{tg:Expr}(a it:Addr):Turn P w K tg (Itl K a) [it] it (fun i h=>h.IsListIter it a i) where
 mem:=by simp
 obj:=fun i h st b hb=>by
  have e:b=it:=by simpa using hb
  subst e
  obtain⟨o,e,c,d⟩:=st
  exact⟨o,e,fun v z=>by rw [d] at z;cases z⟩
 keep:=fun i h h' st k=>st.at fun o e=>k it (by simp) o e
 item:=by
  intro X hP hw hK hc i pins s σ H E I hf st hg
  subst hP hw hK
  obtain⟨xs,x,hq,hx⟩:=hg
  obtain⟨its,rv,p,hz⟩:=I.list hq
  obtain⟨u,hu,ru⟩:=rv.get hx
  obtain⟨f0,f1,f2,f3,f4,f5⟩:=hf it (by simp)
  refine wpAny_pyNext_list_item st p.isList (x:=u) (by simpa using hu) fun h' st' sb=>?_
  have I1:Inv X pins σ H { s with heap:=h' }:=I.turned (t':=s.toks) (fun b o hb e=>(sb.2 b hb).trans e) f0 f1 f3 f4 f5
  obtain⟨o,e,c,d⟩:=id st'
  exact⟨u,rfl,go_of (s:={ s with heap:=h' }) e c d (by decide) ⟨x,H,I1,ru,⟨rfl,fun ys hy=>by rw [I.list_inj hy hq];exact hx⟩,st',fun b hb=>(hf b hb).1⟩⟩
 done:=by
  intro X hP hw hK hc i pins s σ H E I hf st hg
  subst hP hw hK
  obtain⟨xs,hq,hx⟩:=hg
  obtain⟨its,rv,p,hz⟩:=I.list hq
  obtain⟨f0,f1,f2,f3,f4,f5⟩:=hf it (by simp)
  have hl:=rv.length
  exact wpAny_pyNext_list_end (I.ok.hd hc) st p.isList (by simp;omega) fun h' eb=>⟨rfl,I.turned (t':=s.toks) (fun b o hb e=>eb b o hb e) f0 f1 f3 f4 f5⟩
 self:=fun _ _ _ _ _ st h=>wpAny_pyIter_listiter st h
theorem turn_tuple{P:Program}{w:World}{K:PySem.W.Frag}{tg:Expr}(a it:Addr):Turn P w K tg (Itt K a) [it] it (fun i h=>h.IsTupleIter it a i) where
 mem:=by simp
 obj:=fun i h st b hb=>by
  have e:b=it:=by simpa using hb
  subst e
  obtain⟨o,e,c,d⟩:=st
  exact⟨o,e,fun v z=>by rw [d] at z;cases z⟩
 keep:=fun i h h' st k=>st.at fun o e=>k it (by simp) o e
 item:=by
  intro X hP hw hK hc i pins s σ H E I hf st hg
  subst hP hw hK
  obtain⟨xs,x,hq,hx⟩:=hg
  obtain⟨its,rv,p,hz⟩:=I.tuple hq
  obtain⟨u,hu,ru⟩:=rv.get hx
  obtain⟨f0,f1,f2,f3,f4,f5⟩:=hf it (by simp)
  refine wpAny_pyNext_tuple_item st (show s.heap.IsTuple a its.toArray from p) (x:=u) (by simpa using hu) fun h' st' sb=>?_
  have I1:Inv X pins σ H { s with heap:=h' }:=I.turned (t':=s.toks) (fun b o hb e=>(sb.2 b hb).trans e) f0 f1 f3 f4 f5
  obtain⟨o,e,c,d⟩:=id st'
  exact⟨u,rfl,go_of (s:={ s with heap:=h' }) e c d (by decide) ⟨x,H,I1,ru,⟨rfl,fun ys hy=>by rw [I.tuple_inj hy hq];exact hx⟩,st',fun b hb=>(hf b hb).1⟩⟩
 done:=by
  intro X hP hw hK hc i pins s σ H E I hf st hg
  subst hP hw hK
  obtain⟨xs,hq,hx⟩:=hg
  obtain⟨its,rv,p,hz⟩:=I.tuple hq
  obtain⟨f0,f1,f2,f3,f4,f5⟩:=hf it (by simp)
  have hl:=rv.length
  exact wpAny_pyNext_tuple_end (I.ok.hd hc) st (show s.heap.IsTuple a its.toArray from p) (by simp;omega) fun h' eb=>⟨rfl,I.turned (t':=s.toks) (fun b o hb e=>eb b o hb e) f0 f1 f3 f4 f5⟩
 self:=fun _ _ _ _ _ st h=>wpAny_pyIter_tupleiter st h
theorem turn_range{P:Program}{w:World}{K:PySem.W.Frag}{tg:Expr}(it:Addr)(lo:Int)(n:Nat):Turn P w K tg (Itr lo n) [it] it (fun i h=>IsRangeIter h it (lo+(i:Nat) * 1) ((n:Int) - (i:Nat)) 1) where
 mem:=by simp
 obj:=fun i h st b hb=>by
  have e:b=it:=by simpa using hb
  subst e
  exact⟨_,st,fun v z=>by
   have z':Data.fields _=Data.cell v:=z
   cases z'⟩
 keep:=fun i h h' st k=>k it (by simp) _ st
 item:=by
  intro X hP hw hK hc i pins s σ H E I hf st hg
  subst hP hw hK
  obtain⟨f0,f1,f2,f3,f4,f5⟩:=hf it (by simp)
  have W:=Walks.range (prog:=X.prog) (w:=X.w) (I.ok.hd hc) it lo 1 n
  refine W.item i s _ _ hg st fun v h' tk hv st' kk=>?_
  obtain⟨t,rfl⟩:=hv
  have I1:Inv X pins σ H { s with heap:=h',toks:=tk }:=I.turned (fun b o hb e=>kk b o (by simpa using hb) e) f0 f1 f3 f4 f5
  refine⟨_,rfl,go_of (s:={ s with heap:=h',toks:=tk }) (n := "range_iterator") st' rfl rfl (by decide) ⟨.int (lo+i),H,I1,⟨t,?_⟩,⟨rfl,rfl⟩,st',fun b hb=>(hf b hb).1⟩⟩
  rw [Int.mul_one]
 done:=by
  intro X hP hw hK hc i pins s σ H E I hf st hg
  subst hP hw hK
  obtain⟨f0,f1,f2,f3,f4,f5⟩:=hf it (by simp)
  exact wpAny_pyNext_range_end (I.ok.hd hc) st (by have:n≤i:=hg;omega) fun h' eb=>⟨rfl,I.turned (t':=s.toks) (fun b o hb e=>eb b o hb e) f0 f1 f3 f4 f5⟩
 self:=fun _ _ _ _ _ st h=>wpAny_pyIter_rangeiter st h
end L2
namespace L2
open PySem PySem.Spec PyProof.Rows
section
variable {X:Cx}{tg:Expr}
theorem range_it{pins:List (Addr × Obj)}{σ:St}{H:Hp}{s:Shared}{R:It->Hp->Prop}{E:Value->Shared->Prop}{lo hi:Int}{t u v:Tok}{tk:Nat}(I:Inv X pins σ H s)(h1:-(2 ^ 62)≤lo)(h2:lo < 2 ^ 62)(h3:-(2 ^ 62)≤hi)(h4:hi < 2 ^ 62)
  (q:R (Itr lo (hi - lo).toNat) H):wpAny (model X.prog X.w) X.A (pyIter (.ref s.heap.objs.size)) (PIE X pins σ tg R) E { s with heap:=s.heap.push { cls:=.type "range",data:=.fields #[.int lo t,.int hi u,.int 1 v] },toks:=tk }:=by
 refine wpAny_pyIter_range (IsRange.new ..) (small_one h1 h2 h3 h4) ?_
 have I1:Inv X pins σ H { s with heap:=s.heap.push { cls:=.type "range",data:=.fields #[.int lo t,.int hi u,.int 1 v] },toks:=tk }:=I.kept fun b o e=>Heap.get?_push_of_some _ e
 refine⟨(s.heap.push { cls:=.type "range",data:=.fields #[.int lo t,.int hi u,.int 1 v] }).objs.size,[(s.heap.push { cls:=.type "range",data:=.fields #[.int lo t,.int hi u,.int 1 v] }).objs.size],_,_,H,rfl,
  I1.kept (t':=tk) fun b o e=>Heap.get?_push_of_some _ e,turn_range _ lo (hi - lo).toNat,?_,fun b hb=>?_,q⟩
 ·have e1:lo+((0:Nat):Int) * 1=lo:=by simp
  have e2:(((hi - lo).toNat:Nat):Int) - ((0:Nat):Int)=Builtin.Range.rangeSize lo hi 1:=by rw [rangeSize_one];split<;>omega
  show IsRangeIter _ _ (lo+((0:Nat):Int) * 1) ((((hi - lo).toNat:Nat):Int) - ((0:Nat):Int)) 1
  rw [e1,e2]
  exact Heap.get?_push_size _ rfl
 ·have e:b=(s.heap.push { cls:=.type "range",data:=.fields #[.int lo t,.int hi u,.int 1 v] }).objs.size:=by simpa using hb
  subst e
  exact I1.fpOk (Nat.le_refl _) (I1.hok.fresh (Nat.le_refl _))
def iRng1(ta:TA):TI:=fun σ H R=>ta σ H fun vs H1=>∃ j:Int,vs=[.int j]∧-(2 ^ 62)≤j∧j < 2 ^ 62∧R (Itr 0 j.toNat) H1
theorem pi_range1{a:Expr}{ta:TA}{p pos:Pos}(hg:Gl X "range")(hm:X.mg "range"=none)(ha:PA X [a] ta)(hs:starEach [a] X.env=[(false,eval a X.env)]:=by rfl):PI X tg (.Call (.Name "range" p) [a] [] pos) (iRng1 ta):=by
 intro pins s σ H R I h
 refine Call_ (ld_blt I hg hm boot_range (PyProof.Rows.callWith_type1 (thn (ha pos pins s σ H _ I h) fun us s1 ⟨vs,H1,I1,r1,q1⟩=>?_) hs rfl))
 obtain⟨j,e,q1,q2,q⟩:=q1
 subst e
 cases r1 with
 | cons r rr=>
  cases rr
  obtain⟨t,rfl⟩:=r
  exact call_range_1 (range_it I1 (by omega) (by omega) q1 q2 (by simpa using q))
def tFor(wi:TI)(g:TG)(tb:TS):TS:=fun D σ H=>wi σ H fun J H1=>∃ W:Nat->Nat->St->Hp->Prop,(∃ m,W 0 m σ H1)∧∀ i m σ H,W i m σ H →
 (J.stop i H∧D.nx σ H)∨(J.go i H∧∃ N:St->Hp->Prop,(∀ σ' H',N σ' H'->∃ m',m' < m∧W (i+1) m' σ' H')∧∀ x H',J.yld i H x H'->g x σ H' fun σ2 H2=>tb { D with nx:=N,ct:=N,bk:=D.nx } σ2 H2)
def pinsAt(fp:List Addr)(h:Heap):List (Addr × Obj):=fp.filterMap fun b=>(h.get? b).map fun o=>(b,o)
theorem mem_pinsAt{fp:List Addr}{h:Heap}{b:Addr}{o:Obj}(hb:b∈fp)(e:h.get? b=some o):(b,o)∈pinsAt fp h:=List.mem_filterMap.mpr ⟨b,hb,by rw [e];rfl⟩
theorem of_pinsAt{fp:List Addr}{h:Heap}{p:Addr × Obj}(hp:p∈pinsAt fp h):p.1∈fp∧h.get? p.1=some p.2:=by
 obtain⟨b,hb,e⟩:=List.mem_filterMap.mp hp
 cases q:h.get? b with
 | none=>rw [q] at e;cases e
 | some o=>
  rw [q] at e
  have e':(b,o)=p:=Option.some.inj e
  subst e'
  exact⟨hb,q⟩
theorem Inv.pinned{pins:List (Addr × Obj)}{σ:St}{H:Hp}{s:Shared}{fp:List Addr}(I:Inv X pins σ H s)(hf:∀ b∈fp,FpOk X pins H b)(ho:∀ b∈fp,∃ o,s.heap.get? b=some o∧∀ v,o.data ≠ .cell v):Inv X (pins++pinsAt fp s.heap) σ H s:=
 I.pins_of fun p hp=>(List.mem_append.mp hp).elim (fun z=>I.pin p (List.mem_append_right _ z)) fun z=>by
  obtain⟨hb,e⟩:=of_pinsAt z
  obtain⟨f0,f1,f2,_⟩:=hf p.1 hb
  obtain⟨o,e',d⟩:=ho p.1 hb
  rw [e] at e';cases e'
  exact⟨e,f0,f1,f2,d⟩
theorem Inv.unpinned{pins pl:List (Addr × Obj)}{σ:St}{H:Hp}{s:Shared}(I:Inv X (pins++pl) σ H s):Inv X pins σ H s:=I.pins_of fun p hp=>I.pin p (List.mem_append_right _ (List.mem_append_left _ hp))
theorem ps_for{iter:Expr}{body:List Stmt}{wi:TI}{g:TG}{tb:TS}{pos:Pos}(hp:PassesOwn (model X.prog X.w) X.A X.env X.xe)(hc:X.calm=true)(hi:PI X tg iter wi)(hg:PG X tg g)(hb:PSs X body tb)
  (hs:∀ x,foldedSetIterable iter X.env x=pure x:=by intro _;rfl):PS X (.For tg iter body [] pos) (tFor wi g tb):=by
 intro pins s σ H D I h
 refine wpAny_For (thn (hi pins s σ H _ I h) fun v s1 h1=>thn h1 fun itv s2 h2=>?_) hs
 obtain⟨it,fp,tn,J,H2,e,I2,T,st2,f2,W,⟨m0,w0⟩,turn⟩:=h2
 subst e
 have stat:∀ {H':Hp},(∀ b∈fp,H' b=none)->∀ b∈fp,FpOk X pins H' b:=fun hn b hb=>⟨hn b hb,(f2 b hb).2⟩
 refine codeAny_forLoop_any (fun n s'=>∃ i σ' H',Inv X pins σ' H' s'∧tn i s'.heap∧(∀ b∈fp,H' b=none)∧W i n σ' H') ?_ m0 ⟨0,σ,H2,I2,st2,fun b hb=>(f2 b hb).1,w0⟩
 rintro n s3 ⟨i,σ3,H3,I3,st3,fr3,w3⟩
 rcases turn i n σ3 H3 w3 with ⟨stop,qn⟩|⟨go,N,hN,step⟩
 ·refine wpAny_passesOwn hp (thn (T.done X rfl rfl rfl hc i pins s3 σ3 H3 X.xe I3 (stat fr3) st3 stop) fun r s4 ⟨hr,I4⟩=>?_)
  subst hr
  exact wpAny_execs_nil ⟨σ3,H3,I4,qn⟩
 ·refine wpAny_passesOwn hp (thn (T.item X rfl rfl rfl hc i pins s3 σ3 H3 X.xe I3 (stat fr3) st3 go) fun r s4 ⟨u,hr,h4⟩=>?_)
  subst hr
  refine wpAny_passesOwn hp (thn h4 fun _ s5 ⟨x,H5,I5,r5,y5,st5,fr5⟩=>?_)
  have I5':=I5.pinned (stat fr5) (T.obj _ _ st5)
  refine wpAny_passesOwn hp (thn (hg _ s5 σ3 H5 x u _ I5' r5 (step x H5 y5)) fun _ s6 ⟨σ6,H6,I6,q6⟩=>?_)
  refine wpAny_passesOwn hp (thn (hb _ s6 σ6 H6 _ I6 q6) fun f s7 q7=>?_)
  have again:∀ {σ7:St} {H7:Hp},Inv X (pins++pinsAt fp s5.heap) σ7 H7 s7->N σ7 H7->∃ m,m < n∧∃ i σ' H',Inv X pins σ' H' s7∧tn i s7.heap∧(∀ b∈fp,H' b=none)∧W i m σ' H':=fun {σ7 H7} I7 n7=>by
   obtain⟨m',hm,w7⟩:=hN σ7 H7 n7
   refine⟨m',hm,i+1,σ7,H7,I7.unpinned,T.keep _ _ _ st5 fun b hb o e=>(I7.pin (b,o) (List.mem_append_right _ (List.mem_append_right _ (mem_pinsAt hb e)))).1,fun b hb=>?_,w7⟩
   obtain⟨o,e,d⟩:=T.obj _ _ st5 b hb
   exact(I7.pin (b,o) (List.mem_append_right _ (List.mem_append_right _ (mem_pinsAt hb e)))).2.1
  cases f with
  | next=>obtain⟨σ7,H7,I7,n7⟩:=q7;exact again I7 n7
  | cont=>obtain⟨σ7,H7,I7,n7⟩:=q7;exact again I7 n7
  | brk=>obtain⟨σ7,H7,I7,q7⟩:=q7;exact⟨σ7,H7,I7.unpinned,q7⟩
  | ret v=>obtain⟨x7,σ7,H7,I7,r7,q7⟩:=q7;exact⟨x7,σ7,H7,I7.unpinned,r7,q7⟩
end
theorem for_list{K:PySem.W.Frag}{a:Addr}{xs:List V}{g:TG}{tb:TS}{D:Ends}{σ:St}{H:Hp}(Pv:Nat->St->Hp->Prop)(h0:Pv 0 σ H)(hl:∀ i σ H,i≤xs.length->Pv i σ H->SqL K H a xs)
  (hs:∀ i x σ H,xs[i]? = some x->Pv i σ H->g x σ H fun σ2 H2=>tb { D with nx:=Pv (i+1),ct:=Pv (i+1),bk:=D.nx } σ2 H2) (hd:∀ σ H,Pv xs.length σ H->D.nx σ H) :
  ∃ W:Nat->Nat->St->Hp->Prop,(∃ m,W 0 m σ H)∧∀ i m σ H,W i m σ H →
   ((Itl K a).stop i H∧D.nx σ H)∨((Itl K a).go i H∧∃ N:St->Hp->Prop,(∀ σ' H',N σ' H'->∃ m',m' < m∧W (i+1) m' σ' H')∧∀ x H',(Itl K a).yld i H x H'->g x σ H' fun σ2 H2=>tb { D with nx:=N,ct:=N,bk:=D.nx } σ2 H2):=by
 refine⟨fun i m σ H=>m=xs.length - i∧i≤xs.length∧Pv i σ H,⟨xs.length,by simp,Nat.zero_le _,h0⟩,?_⟩
 rintro i m σ H ⟨rfl,hi,p⟩
 have q:=hl i σ H hi p
 by_cases hlt:i < xs.length
 ·refine .inr ⟨⟨xs,xs[i],q,by simp [hlt]⟩,Pv (i+1),fun σ' H' p'=>⟨xs.length - (i+1),by omega,rfl,hlt,p'⟩,fun x H' y=>?_⟩
  obtain⟨e,y⟩:=y
  subst e
  exact hs i x σ _ (y xs q) p
 ·have e:i=xs.length:=by omega
  subst e
  exact .inl ⟨⟨xs,q,Nat.le_refl _⟩,hd σ H p⟩
theorem for_range{lo:Int}{n:Nat}{g:TG}{tb:TS}{D:Ends}{σ:St}{H:Hp}(Pv:Nat->St->Hp->Prop)(h0:Pv 0 σ H)
  (hs:∀ i σ H,i < n->Pv i σ H->g (.int (lo+i)) σ H fun σ2 H2=>tb { D with nx:=Pv (i+1),ct:=Pv (i+1),bk:=D.nx } σ2 H2) (hd:∀ σ H,Pv n σ H->D.nx σ H) :
  ∃ W:Nat->Nat->St->Hp->Prop,(∃ m,W 0 m σ H)∧∀ i m σ H,W i m σ H →
   ((Itr lo n).stop i H∧D.nx σ H)∨((Itr lo n).go i H∧∃ N:St->Hp->Prop,(∀ σ' H',N σ' H'->∃ m',m' < m∧W (i+1) m' σ' H')∧∀ x H',(Itr lo n).yld i H x H'->g x σ H' fun σ2 H2=>tb { D with nx:=N,ct:=N,bk:=D.nx } σ2 H2):=by
 refine⟨fun i m σ H=>m=n - i∧i≤n∧Pv i σ H,⟨n,by simp,Nat.zero_le _,h0⟩,?_⟩
 rintro i m σ H ⟨rfl,hi,p⟩
 by_cases hlt:i < n
 ·refine .inr ⟨hlt,Pv (i+1),fun σ' H' p'=>⟨n - (i+1),by omega,rfl,hlt,p'⟩,fun x H' y=>?_⟩
  obtain⟨e,y⟩:=y
  subst e y
  exact hs i σ _ hlt p
 ·have e:i=n:=by omega
  subst e
  exact .inl ⟨Nat.le_refl _,hd σ H p⟩
end L2
namespace L2
open PySem PySem.Spec PyProof.Rows
abbrev R2:=V->V->Hp->VK->Prop
def OpR(X:Cx)(f:Value->Value->Sem Value)(r:R2):Prop:=
 ∀ (pins:List (Addr × Obj)) (s:Shared) (σ:St) (H:Hp) (x y:V) (v u:Value) (Q:VK),Inv X pins σ H s->RelV x v->RelV y u->r x y H Q →
  wpAny (model X.prog X.w) X.A (f v u) (EP X pins σ Q) X.xe s
def UnR(X:Cx)(f:Value->Sem Value)(r:V->Hp->VK->Prop):Prop:=
 ∀ (pins:List (Addr × Obj)) (s:Shared) (σ:St) (H:Hp) (x:V) (v:Value) (Q:VK),Inv X pins σ H s->RelV x v->r x H Q →
  wpAny (model X.prog X.w) X.A (f v) (EP X pins σ Q) X.xe s
def CallR(X:Cx)(f:Value)(r:List V->Hp->VK->Prop):Prop:=
 ∀ (pins:List (Addr × Obj)) (s:Shared) (σ:St) (H:Hp) (xs:List V) (us:List Value) (Q:VK),Inv X pins σ H s->Vals xs us->r xs H Q →
  wpAny (model X.prog X.w) X.A (call f us) (EP X pins σ Q) X.xe s
def tOp(r:R2)(ta tb:TE):TE:=fun σ H Q=>ta σ H fun x H1=>tb σ H1 fun y H2=>r x y H2 Q
def tUn(r:V->Hp->VK->Prop)(ta:TE):TE:=fun σ H Q=>ta σ H fun x H1=>r x H1 Q
def rI(C:Int->Int->Prop)(g:Int->Int->V):R2:=fun x y H Q=>∃ i j,x=.int i∧y=.int j∧C i j∧Q (g i j) H
def rI0(g:Int->Int->V):R2:=fun x y H Q=>∃ i j,x=.int i∧y=.int j∧Q (g i j) H
def rU(g:Int->V):V->Hp->VK->Prop:=fun x H Q=>∃ i,x=.int i∧Q (g i) H
section
variable {X:Cx}{a b c:Expr}{ta tb tc:TE}{pos:Pos}
theorem binT(ha:PE X a ta)(hb:PE X b tb){pins:List (Addr × Obj)}{s:Shared}{σ:St}{H:Hp}{R:V->V->Hp->Prop}(I:Inv X pins σ H s)
  (h:ta σ H fun x H1=>tb σ H1 fun y H2=>R x y H2) {Q:Value->Shared->Prop} {f:Value->Value->Sem Value}
  (hf:∀ v u s2 x y H2,Inv X pins σ H2 s2->RelV x v->RelV y u->R x y H2->wpAny (model X.prog X.w) X.A (f v u) Q X.xe s2) :
  wpAny (model X.prog X.w) X.A (eval a X.env) (fun v s₁=>wpAny (model X.prog X.w) X.A (eval b X.env) (fun u s₂=>wpAny (model X.prog X.w) X.A (f v u) Q X.xe s₂) X.xe s₁) X.xe s:=by
 refine thn (ha pins s σ H _ I h) fun v s1 ⟨x,H1,I1,r1,q1⟩=>?_
 refine thn (hb pins s1 σ H1 _ I1 q1) fun u s2 ⟨y,H2,I2,r2,q2⟩=>?_
 exact hf v u s2 x y H2 I2 r1 r2 q2
theorem pe_op{op:Operator}{r:R2}(ho:OpR X (binaryOp op) r)(ha:PE X a ta)(hb:PE X b tb):PE X (.BinOp a op b pos) (tOp r ta tb):=by
 intro pins s σ H Q I h
 exact wpAny_BinOp (binT ha hb I h fun v u s2 x y H2 I2 rx ry q=>ho pins s2 σ H2 x y v u Q I2 rx ry q)
theorem pe_un{op:UnaryOp}{r:V->Hp->VK->Prop}(ho:UnR X (unaryOp op) r)(ha:PE X a ta):PE X (.UnaryOp op a pos) (tUn r ta):=by
 intro pins s σ H Q I h
 exact UnaryOp_ (thn (ha pins s σ H _ I h) fun v s1 ⟨x,H1,I1,r1,q1⟩=>ho pins s1 σ H1 x v Q I1 r1 q1)
theorem opI{f:Value->Value->Sem Value}{C:Int->Int->Prop}{g:Int->Int->Int}
  (rule:∀ (i j:Int) (t u:Tok) (s:Shared) (Q:Value->Shared->Prop) (E:Value->Shared->Prop),C i j->Q (.int (g i j) s.toks) { s with toks:=s.toks+1 }->wpAny (model X.prog X.w) X.A (f (.int i t) (.int j u)) Q E s) :
  OpR X f (rI C fun i j=>.int (g i j)):=by
 intro pins s σ H x y v u Q I rx ry h
 obtain⟨i,j,rfl,rfl,hc,q⟩:=h
 obtain⟨t,rfl⟩:=rx
 obtain⟨t',rfl⟩:=ry
 exact rule i j t t' s _ _ hc ⟨.int (g i j),H,I.tok _,⟨_,rfl⟩,q⟩
theorem opI0{f:Value->Value->Sem Value}{g:Int->Int->Int}
  (rule:∀ (i j:Int) (t u:Tok) (s:Shared) (Q:Value->Shared->Prop) (E:Value->Shared->Prop),Q (.int (g i j) s.toks) { s with toks:=s.toks+1 }->wpAny (model X.prog X.w) X.A (f (.int i t) (.int j u)) Q E s) :
  OpR X f (rI0 fun i j=>.int (g i j)):=by
 intro pins s σ H x y v u Q I rx ry h
 obtain⟨i,j,rfl,rfl,q⟩:=h
 obtain⟨t,rfl⟩:=rx
 obtain⟨t',rfl⟩:=ry
 exact rule i j t t' s _ _ ⟨.int (g i j),H,I.tok _,⟨_,rfl⟩,q⟩
theorem opB0{f:Value->Value->Sem Value}{g:Int->Int->Bool}
  (rule:∀ (i j:Int) (t u:Tok) (s:Shared) (Q:Value->Shared->Prop) (E:Value->Shared->Prop),Q (.bool (g i j)) s->wpAny (model X.prog X.w) X.A (f (.int i t) (.int j u)) Q E s) :
  OpR X f (rI0 fun i j=>.bl (g i j)):=by
 intro pins s σ H x y v u Q I rx ry h
 obtain⟨i,j,rfl,rfl,q⟩:=h
 obtain⟨t,rfl⟩:=rx
 obtain⟨t',rfl⟩:=ry
 exact rule i j t t' s _ _ ⟨.bl (g i j),H,I,rfl,q⟩
def CDiv(i j:Int):Prop:=0 < j∧j < 1073741824
def CPow(i j:Int):Prop:=0≤j∧j≤1000000∧i.natAbs < 2 ^ 64
def CMul(i j:Int):Prop:=(-(2 ^ 64) < i∧i < 2 ^ 64)∨(-(2 ^ 64) < j∧j < 2 ^ 64)
theorem CMul.ok{i j:Int}(h:CMul i j):IntMulOk i j:=by
 rcases h with ⟨h1,h2⟩|⟨h1,h2⟩
 ·exact .of_left (intBits_le_64 h1 h2)
 ·exact .of_right (intBits_le_64 h1 h2)
theorem op_add:OpR X (binaryOp .Add) (rI0 fun i j=>.int (i+j)):=opI0 fun _ _ _ _ _ _ _ q=>add_int q
theorem op_sub:OpR X (binaryOp .Sub) (rI0 fun i j=>.int (i - j)):=opI0 fun _ _ _ _ _ _ _ q=>sub_int q
theorem op_mul:OpR X (binaryOp .Mult) (rI CMul fun i j=>.int (i * j)):=opI fun _ _ _ _ _ _ _ hc q=>mul_int q hc.ok
theorem op_fdiv:OpR X (binaryOp .FloorDiv) (rI CDiv fun i j=>.int (i / j)):=opI fun i j _ _ _ _ _ hc q=>by
 have h1:(0:Int) < j:=hc.1
 have h2:j < 1073741824:=hc.2
 exact floordiv_int (by omega) (by rw [Int.fdiv_eq_ediv_of_nonneg i (by omega)];exact q) (.inl (PyProof.noPylong_small (by omega)))
theorem op_mod:OpR X (binaryOp .Mod) (rI (fun _ j=>0 < j) fun i j=>.int (i % j)):=opI fun i j _ _ _ _ _ hc q=>by
 have h1:(0:Int) < j:=hc
 exact mod_int' (by omega) (by rw [Int.fmod_eq_emod_of_nonneg i (by omega)];exact q)
theorem op_pow:OpR X (binaryOp .Pow) (rI CPow fun i j=>.int (i ^ j.toNat)):=opI fun _ _ _ _ _ _ _ hc q=>pow_int_small hc.1 hc.2.1 hc.2.2 q
theorem unI{f:Value->Sem Value}{g:Int->Int}
  (rule:∀ (i:Int) (t:Tok) (s:Shared) (Q:Value->Shared->Prop) (E:Value->Shared->Prop),Q (.int (g i) s.toks) { s with toks:=s.toks+1 }->wpAny (model X.prog X.w) X.A (f (.int i t)) Q E s) :
  UnR X f (rU fun i=>.int (g i)):=by
 intro pins s σ H x v Q I rx h
 obtain⟨i,rfl,q⟩:=h
 obtain⟨t,rfl⟩:=rx
 exact rule i t s _ _ ⟨.int (g i),H,I.tok _,⟨_,rfl⟩,q⟩
theorem un_neg:UnR X (unaryOp .USub) (rU fun i=>.int (-i)):=unI fun _ _ _ _ _ q=>neg_int q
end
def scal:V->V->Bool
 | .non,.non=>true | .non,.int _=>true | .int _,.non=>true | .non,.bl _=>true | .bl _,.non=>true | .non,.str _=>true | .str _,.non=>true
 | .int _,.int _=>true | .bl _,.bl _=>true | .str _,.str _=>true | .byt _,.byt _=>true
 | .int _,.str _=>true | .str _,.int _=>true | .bl _,.str _=>true | .str _,.bl _=>true
 | _,_=>false
def rEq:R2:=fun x y H Q=>scal x y=true∧Q (.bl (decide (x=y))) H
def rNe:R2:=fun x y H Q=>scal x y=true∧Q (.bl (!decide (x=y))) H
theorem dec_int{i j:Int}:decide (V.int i=V.int j)=(i == j):=by
 rw [Bool.eq_iff_iff]
 simp
theorem dec_bl{i j:Bool}:decide (V.bl i=V.bl j)=(i == j):=by
 rw [Bool.eq_iff_iff]
 simp
theorem dec_str{i j:Str}:decide (V.str i=V.str j)=(i == j):=by
 rw [Bool.eq_iff_iff]
 simp
theorem dec_byt{i j:Array UInt8}:decide (V.byt i=V.byt j)=(i.toList == j.toList):=by
 rw [Bool.eq_iff_iff]
 cases i
 cases j
 simp
section
variable {X:Cx}{a b c:Expr}{ta tb tc:TE}{pos:Pos}
theorem fin_bl{pins:List (Addr × Obj)}{σ:St}{H:Hp}{s:Shared}{Q:VK}{k k':Bool}(I:Inv X pins σ H s)(q:Q (.bl k) H)(e:k=k'):EP X pins σ Q (.bool k') s:=by
 subst e
 exact⟨.bl k,H,I,rfl,q⟩
theorem op_eq:OpR X (compareOp .Eq) rEq:=by
 intro pins s σ H x y v u Q I rx ry h
 obtain⟨hs,q⟩:=h
 cases x with
 | non=>
  cases rx
  cases y with
  | non=>cases ry;exact PySem.EqNone.eq_none_none (fin_bl I q (by simp))
  | bl j=>cases ry;exact PySem.EqNone.eq_none_bool (fin_bl I q (by simp))
  | int j=>obtain⟨t',rfl⟩:=ry;exact PySem.EqNone.eq_none_int (fin_bl I q (by simp))
  | str j=>obtain⟨t',rfl⟩:=ry;exact PySem.EqNone.eq_none_str (fin_bl I q (by simp))
  | _=>exact absurd (show false=true from hs) Bool.false_ne_true
 | bl i=>
  cases rx
  cases y with
  | non=>cases ry;exact PySem.EqNone.eq_bool_none (fin_bl I q (by simp))
  | bl j=>cases ry;exact eq_bool (fin_bl I q dec_bl)
  | str j=>obtain⟨t',rfl⟩:=ry;exact PySem.EqMixed.eq_bool_str (fin_bl I q (by simp))
  | _=>exact absurd (show false=true from hs) Bool.false_ne_true
 | int i=>
  obtain⟨t,rfl⟩:=rx
  cases y with
  | non=>cases ry;exact PySem.EqNone.eq_int_none (fin_bl I q (by simp))
  | int j=>obtain⟨t',rfl⟩:=ry;exact eq_int (fin_bl I q dec_int)
  | str j=>obtain⟨t',rfl⟩:=ry;exact PySem.EqMixed.eq_int_str (fin_bl I q (by simp))
  | _=>exact absurd (show false=true from hs) Bool.false_ne_true
 | str i=>
  obtain⟨t,rfl⟩:=rx
  cases y with
  | non=>cases ry;exact PySem.EqNone.eq_str_none (fin_bl I q (by simp))
  | bl j=>cases ry;exact PySem.EqMixed.eq_str_bool (fin_bl I q (by simp))
  | int j=>obtain⟨t',rfl⟩:=ry;exact PySem.EqMixed.eq_str_int (fin_bl I q (by simp))
  | str j=>obtain⟨t',rfl⟩:=ry;exact eq_str (fin_bl I q dec_str)
  | _=>exact absurd (show false=true from hs) Bool.false_ne_true
 | byt i=>
  obtain⟨t,rfl⟩:=rx
  cases y with
  | byt j=>obtain⟨t',rfl⟩:=ry;exact PySem.W.eq_bytes (fin_bl I q dec_byt)
  | _=>exact absurd (show false=true from hs) Bool.false_ne_true
 | _=>cases y<;>exact absurd (show false=true from hs) Bool.false_ne_true
theorem op_ne:OpR X (compareOp .NotEq) rNe:=by
 intro pins s σ H x y v u Q I rx ry h
 obtain⟨hs,q⟩:=h
 cases x with
 | non=>
  cases rx
  cases y with
  | non=>cases ry;exact PySem.EqNone.ne_none_none (fin_bl I q (by simp))
  | bl j=>cases ry;exact PySem.EqNone.ne_none_bool (fin_bl I q (by simp))
  | int j=>obtain⟨t',rfl⟩:=ry;exact PySem.EqNone.ne_none_int (fin_bl I q (by simp))
  | str j=>obtain⟨t',rfl⟩:=ry;exact PySem.EqNone.ne_none_str (fin_bl I q (by simp))
  | _=>exact absurd (show false=true from hs) Bool.false_ne_true
 | bl i=>
  cases rx
  cases y with
  | non=>cases ry;exact PySem.EqNone.ne_bool_none (fin_bl I q (by simp))
  | bl j=>cases ry;exact ne_bool (fin_bl I q (congrArg not dec_bl))
  | str j=>obtain⟨t',rfl⟩:=ry;exact PySem.EqMixed.ne_bool_str (fin_bl I q (by simp))
  | _=>exact absurd (show false=true from hs) Bool.false_ne_true
 | int i=>
  obtain⟨t,rfl⟩:=rx
  cases y with
  | non=>cases ry;exact PySem.EqNone.ne_int_none (fin_bl I q (by simp))
  | int j=>obtain⟨t',rfl⟩:=ry;exact ne_int (fin_bl I q (congrArg not dec_int))
  | str j=>obtain⟨t',rfl⟩:=ry;exact PySem.EqMixed.ne_int_str (fin_bl I q (by simp))
  | _=>exact absurd (show false=true from hs) Bool.false_ne_true
 | str i=>
  obtain⟨t,rfl⟩:=rx
  cases y with
  | non=>cases ry;exact PySem.EqNone.ne_str_none (fin_bl I q (by simp))
  | bl j=>cases ry;exact PySem.EqMixed.ne_str_bool (fin_bl I q (by simp))
  | int j=>obtain⟨t',rfl⟩:=ry;exact PySem.EqMixed.ne_str_int (fin_bl I q (by simp))
  | str j=>obtain⟨t',rfl⟩:=ry;exact ne_str (fin_bl I q (congrArg not dec_str))
  | _=>exact absurd (show false=true from hs) Bool.false_ne_true
 | byt i=>
  obtain⟨t,rfl⟩:=rx
  cases y with
  | byt j=>obtain⟨t',rfl⟩:=ry;exact PySem.W.ne_bytes (fin_bl I q (congrArg not dec_byt))
  | _=>exact absurd (show false=true from hs) Bool.false_ne_true
 | _=>cases y<;>exact absurd (show false=true from hs) Bool.false_ne_true
theorem op_lt:OpR X (compareOp .Lt) (rI0 fun i j=>.bl (decide (i < j))):=opB0 fun _ _ _ _ _ _ _ q=>lt_int q
theorem op_le:OpR X (compareOp .LtE) (rI0 fun i j=>.bl (decide (i≤j))):=opB0 fun _ _ _ _ _ _ _ q=>le_int q
theorem op_gt:OpR X (compareOp .Gt) (rI0 fun i j=>.bl (decide (j < i))):=opB0 fun _ _ _ _ _ _ _ q=>gt_int q
theorem op_isN:OpR X (compareOp .Is) (fun x y H Q=>y=.non∧Q (.bl (decide (x=.non))) H):=by
 intro pins s σ H x y v u Q I rx ry h
 obtain⟨rfl,q⟩:=h
 cases ry
 refine is_none_gen (fin_bl I q ?_)
 cases x<;>first
  | (cases rx;rfl)
  | (obtain⟨t,rfl⟩:=rx;rfl)
theorem OpR.or{f:Value->Value->Sem Value}{r r':R2}(h:OpR X f r)(h':OpR X f r'):OpR X f (fun x y H Q=>r x y H Q∨r' x y H Q):=by
 intro pins s σ H x y v u Q I rx ry q
 rcases q with q|q
 ·exact h pins s σ H x y v u Q I rx ry q
 ·exact h' pins s σ H x y v u Q I rx ry q
theorem nomark(b:Expr){op:CmpOp}(h:op ≠ .In:=by decide)(h2:op ≠ .NotIn:=by decide):behindInMarks op b=false:=by
 have e1:(op == CmpOp.In)=false:=by cases op<;>first|rfl|exact absurd rfl h
 have e2:(op == CmpOp.NotIn)=false:=by cases op<;>first|rfl|exact absurd rfl h2
 cases b<;>simp [behindInMarks,e1,e2]
theorem pe_cmpR{op:CmpOp}{r:R2}(ho:OpR X (compareOp op) r)(ha:PE X a ta)(hb:PE X b tb)(hm:behindInMarks op b=false):PE X (.Compare a [op] [b] pos) (tOp r ta tb):=by
 intro pins s σ H Q I h
 exact wpAny_Compare1 (binT ha hb I h fun v u s2 x y H2 I2 rx ry q=>ho pins s2 σ H2 x y v u Q I2 rx ry q) hm
def tTest(t:TE):TT:=fun σ H Q=>t σ H fun x H'=>∃ k,x=.bl k∧Q k H'
theorem pt_cmpR{op:CmpOp}{r:R2}(ho:OpR X (compareOp op) r)(ha:PE X a ta)(hb:PE X b tb)(hm:behindInMarks op b=false):PT X (.Compare a [op] [b] pos) (tTest (tOp r ta tb)):=by
 intro pins s σ H Q I h
 refine wpAny_isTrue_Compare1 (thn (ha pins s σ H _ I h) fun v s1 ⟨x,H1,I1,r1,q1⟩=>thn (hb pins s1 σ H1 _ I1 q1) fun u s2 ⟨y,H2,I2,r2,q2⟩=>
  thn (ho pins s2 σ H2 x y v u _ I2 r1 r2 q2) fun c s3 ⟨z,H3,I3,r3,k,e,q3⟩=>?_) hm
 subst e
 cases r3
 exact wpAny_truthy_bool ⟨H3,I3,q3⟩
theorem line63:(sizeLine:Nat) < 2 ^ 63:=by rw [sizeLine_eq];decide
theorem op_add_str:OpR X (binaryOp .Add) (fun x y H Q=>∃ i j,x=.str i∧y=.str j∧i.length+j.length≤sizeLine∧Q (.str (i++j)) H):=by
 intro pins s σ H x y v u Q I rx ry h
 obtain⟨i,j,rfl,rfl,hz,q⟩:=h
 obtain⟨t,rfl⟩:=rx
 obtain⟨t',rfl⟩:=ry
 exact add_str (fun t' tk=>⟨.str (i++j),H,I.tok _,⟨_,rfl⟩,q⟩) hz
theorem vals1{x:V}{us:List Value}(r:Vals [x] us):∃ u,us=[u]∧RelV x u:=by
 cases r with
 | cons r1 r2=>cases r2;exact⟨_,rfl,r1⟩
theorem vals2{x y:V}{us:List Value}(r:Vals [x,y] us):∃ u w',us=[u,w']∧RelV x u∧RelV y w':=by
 cases r with
 | cons r1 r2=>
  cases r2 with
  | cons r3 r4=>cases r4;exact⟨_,_,rfl,r1,r3⟩
theorem call_int1:CallR X (.type "int") (fun xs H Q=>(∃ i,xs=[.int i]∧Q (.int i) H)∨∃ k,xs=[.bl k]∧Q (.int (if k then 1 else 0)) H):=by
 intro pins s σ H xs us Q I r h
 rcases h with ⟨i,rfl,q⟩|⟨k,rfl,q⟩
 ·obtain⟨u,rfl,t,rfl⟩:=vals1 r
  exact call_int_int ⟨.int i,H,I,⟨_,rfl⟩,q⟩
 ·obtain⟨u,rfl,r1⟩:=vals1 r
  cases r1
  exact call_int_bool ⟨.int (if k then 1 else 0),H,I.tok _,⟨_,rfl⟩,q⟩
end
end L2
namespace L2
open PySem PySem.Spec PyProof.Rows
structure ObjM(h:Heap)(x dx C:Addr)(mA:Str->Option Value):Prop where
 obj:h.get? x=some (PySem.W.instObj C dx)
 ns:h.Ns1 dx mA
 ne:dx ≠ x
theorem lookIn_ns{h:Heap}{dx:Addr}{mA:Str->Option Value}(n:h.Ns1 dx mA):∃ od,h.get? dx=some od∧∀ name,PySem.W.lookIn name od=some (mA name):=by
 obtain⟨o,es,ep,ho,hd,hk,_,hm⟩:=n
 refine⟨o,ho,fun name=>?_⟩
 have e:=hm name
 unfold nsFind findBy at e
 rw [←Array.find?_toList] at e
 unfold PySem.W.lookIn
 rw [hd]
 dsimp only
 split
 ·rename_i y q
  rw [q] at e
  exact congrArg some e
 ·rename_i q
  rw [q] at e
  have a:es.toList.any (·.refKey)=false:=by
   rw [List.any_eq_false]
   intro y hy
   obtain⟨z,t,hkey⟩:=hk y (Array.mem_toList_iff.mp hy)
   simp [DictEntry.refKey,hkey]
  have a':¬ es.toList.any (·.refKey)=true:=by rw [a];exact Bool.false_ne_true
  rw [if_neg a']
  exact congrArg some e
theorem ObjM.look{h:Heap}{x dx C:Addr}{mA:Str->Option Value}(I:ObjM h x dx C mA):∃ od,PySem.W.InstAt h x (PySem.W.instObj C dx) C (some od)∧∀ name,PySem.W.lookIn name od=some (mA name):=
 let ⟨od,ho,hl⟩:=lookIn_ns I.ns
 ⟨od,⟨I.obj,rfl,rfl,ho⟩,hl⟩
section
variable {prog:Program}{w:World}{A:Around}{E:Value->Shared->Prop}{s:Shared}{K:PySem.W.Frag}{x dx C f:Addr}{mA:Str->Option Value}{name:Str}{v:Value}
theorem get_map{expr:Bool}{Q:Value->Shared->Prop}(X:K.In s.heap)(I:ObjM s.heap x dx C mA)(hg:PySem.W.plainGet K C name=true)(hh:PySem.W.hasDictIn K C=true)
  (ha:PySem.W.findIn K (.ref C) name=some none) (hv:mA name=some v) (hv':PySem.W.handedIn v=true) (h:Q v { s with toks:=s.toks+1 }) :
  wpAny (model prog w) A (getAttr (.ref x) name expr) Q E s:=by
 obtain⟨od,J,hl⟩:=I.look
 exact PySem.W.get_value X J (PySem.W.plainGet_of hg).1 (PySem.W.findObj_own hh ha rfl (by rw [hl,hv])) hv' h
theorem get_meth{pl:Sem Bool}{Q:Value × List Value->Shared->Prop}(X:K.In s.heap)(I:ObjM s.heap x dx C mA)(hg:PySem.W.plainGet K C name=true)
  (hf:PySem.W.findIn K (.ref C) name=some (some (.ref f))) (ht:PySem.W.isFn K (.ref f)=true) (hv:mA name=none) (h:Q (.ref f,[.ref x]) s) :
  wpAny (model prog w) A (getMethod (.ref x) name pl) Q E s:=by
 obtain⟨od,J,hl⟩:=I.look
 exact PySem.W.method_fn X J (PySem.W.plainGet_of hg).1 (PySem.W.plainGet_of hg).2 hf (beq_iff_eq.mp ht) (by show (PySem.W.lookIn name od).map (·.isSome)=some false;rw [hl,hv];rfl) h
theorem set_map{ns:List Str}{Q:Unit->Shared->Prop}(X:K.In s.heap)(I:ObjM s.heap x dx C mA)
  (hs:PySem.W.findIn K (.ref C) "__setattr__"=some (some (.builtin "object.__setattr__"))) (hp:PySem.W.plainOver K C=true) (ht:PySem.W.takerIn K C name=some none) (hh:PySem.W.hasDictIn K C=true)
  (hw:PySem.Within mA ns) (hsz:ns.length≤sizeLine)
  (h:∀ h',ObjM h' x dx C (fun y=>if y=name then some v else mA y)->Heap.SameBut dx s.heap h'->Q () { s with heap:=h',toks:=s.toks+2 }) :
  wpAny (model prog w) A (setAttr (.ref x) name v) Q E s:=by
 obtain⟨od,J,hl⟩:=I.look
 refine PySem.W.set_plain X J hs (PySem.W.osa_open (s:={ s with toks:=s.toks+1 }) (r:=none) X J hp ht fun b=>?_)
 obtain⟨cd,hc,hd'⟩:=PySem.W.any_some hh
 have hx:s.heap.get? x=some ⟨.ref C,some dx,.plain,#[]⟩:=I.obj
 refine wpAny_bind (wpAny_pure (wpAny_bind (wpAny_bind (wpAny_loadPart hx (wpAny_bind (PySem.W.Looks.here (s:={ s with toks:=s.toks+1 }) (PySem.W.looks_clsIn X hc) ?_))))))
 rw [hd']
 refine wpAny_pure (a:=some dx) (wpAny_bind (wpAny_pure (wpAny_bind ?_)))
 refine wpAny_nsSet1 (s:={ s with toks:=s.toks+1 }) I.ns fun h' hn2 hs2=>?_
 obtain⟨oD,esD,epD,hoD,hdD,hcD⟩:=hn2.count (PySem.Within.cons name v hw)
 refine wpAny_bind (wpAny_lookBehind hoD (by rw [hdD];exact pastItsLine_dict (Nat.le_trans hcD (by rw [List.length_cons];omega))) ?_)
 exact wpAny_pure (h _ ⟨(hs2.2 _ (Ne.symm I.ne)).trans I.obj,hn2,I.ne⟩ hs2)
theorem make_map{R:Result->Shared->Prop}{vs:List Value}{kw:List (Str × Value)}(X:K.In s.heap)(hm:PySem.W.makesIn K C=true)
  (hi:PySem.W.findIn K (.ref C) "__init__"=some (some (.ref f))) (hf:PySem.W.typeIn K (.ref f)=some (.type "function"))
  (h:codeAny (model prog w) (A.under (.builtin "type.__call__" ⟨.ref C::vs,kw⟩)) (.call (.ref f) ⟨.ref (s.heap.objs.size+1)::vs,kw⟩) (PySem.W.InitBack (s.heap.objs.size+1) R)
   { s with heap:=(s.heap.push PySem.W.emptyDict).push (PySem.W.instObj C s.heap.objs.size) }) :
  codeAny (model prog w) A (.call (.ref C) ⟨vs,kw⟩) R s:=by
 obtain⟨hh,g,d,t,os⟩:=s
 exact PySem.W.make_core (PySem.W.makes_of X hm) (PySem.W.looks_findIn X hi) (fun self=>PySem.W.bind_fn X self hf) (.inl rfl) h
theorem make_map0{R:Result->Shared->Prop}(X:K.In s.heap)(hm:PySem.W.makesIn K C=true)
  (hi:PySem.W.findIn K (.ref C) "__init__"=some (some (.builtin "object.__init__")))
  (hb:∀ self,PySem.W.Looks (model prog w) s.heap (bindSpecial (.builtin "object.__init__") self) (.builtin "object.__init__",[self]))
  (h:codeAny (model prog w) (A.under (.builtin "type.__call__" ⟨[.ref C],[]⟩)) (.call (.builtin "object.__init__") ⟨[.ref (s.heap.objs.size+1)],[]⟩) (PySem.W.InitBack (s.heap.objs.size+1) R)
   { s with heap:=(s.heap.push PySem.W.emptyDict).push (PySem.W.instObj C s.heap.objs.size) }) :
  codeAny (model prog w) A (.call (.ref C) ⟨[],[]⟩) R s:=by
 obtain⟨hh,g,d,t,os⟩:=s
 exact PySem.W.make_core (PySem.W.makes_of X hm) (PySem.W.looks_findIn X hi) hb (.inr ⟨rfl,rfl⟩) h
end
def putF(f:Str)(v:V):List (Str × V)->List (Str × V)
 | []=>[(f,v)]
 | (g,x)::r=>if g=f then (g,v)::r else (g,x)::putF f v r
theorem lookup_putF(f g:Str)(v:V):∀ fs:List (Str × V),(putF f v fs).lookup g=if g=f then some v else fs.lookup g
 | []=>by
  show List.lookup g [(f,v)]=_
  by_cases h:g=f
  ·have hb:(g == f)=true:=beq_iff_eq.mpr h
   simp only [List.lookup,hb,if_pos h]
  ·have hb:(g == f)=false:=beq_eq_false_iff_ne.mpr h
   simp only [List.lookup,hb,if_neg h]
 | (k,x)::r=>by
  have ih:=lookup_putF f g v r
  rw [show putF f v ((k,x)::r)=(if k=f then (k,v)::r else (k,x)::putF f v r) from rfl]
  by_cases hk:k=f
  ·rw [if_pos hk]
   by_cases h:g=k
   ·have hb:(g == k)=true:=beq_iff_eq.mpr h
    simp only [List.lookup,hb,if_pos (h.trans hk)]
   ·have hb:(g == k)=false:=beq_eq_false_iff_ne.mpr h
    simp only [List.lookup,hb,if_neg (fun e:g=f=>h (e.trans hk.symm))]
  ·rw [if_neg hk]
   by_cases h:g=k
   ·have hb:(g == k)=true:=beq_iff_eq.mpr h
    simp only [List.lookup,hb,if_neg (fun e:g=f=>hk (h.symm.trans e))]
   ·have hb:(g == k)=false:=beq_eq_false_iff_ne.mpr h
    simp only [List.lookup,hb]
    exact ih
theorem keys_putF(f:Str)(v:V):∀ fs:List (Str × V),f∈(putF f v fs).map (·.1)∧∀ g,g∈fs.map (·.1)->g∈(putF f v fs).map (·.1)
 | []=>⟨by simp [putF],fun g h=>by simp at h⟩
 | (k,x)::r=>by
  obtain⟨i1,i2⟩:=keys_putF f v r
  rw [show putF f v ((k,x)::r)=(if k=f then (k,v)::r else (k,x)::putF f v r) from rfl]
  by_cases hk:k=f
  ·rw [if_pos hk]
   subst hk
   exact⟨by simp,fun g h=>by simpa using h⟩
  ·rw [if_neg hk]
   refine⟨?_,fun g h=>?_⟩
   ·rw [List.map_cons]
    exact List.mem_cons_of_mem _ i1
   ·rw [List.map_cons] at h ⊢
    rcases List.mem_cons.mp h with e|e
    ·exact List.mem_cons.mpr (.inl e)
    ·exact List.mem_cons_of_mem _ (i2 g e)
theorem length_putF(f:Str)(v:V):∀ fs:List (Str × V),(putF f v fs).length≤fs.length+1
 | []=>by simp [putF]
 | (k,x)::r=>by
  have ih:=length_putF f v r
  rw [show putF f v ((k,x)::r)=(if k=f then (k,v)::r else (k,x)::putF f v r) from rfl]
  by_cases hk:k=f
  ·rw [if_pos hk,List.length_cons,List.length_cons];omega
  ·rw [if_neg hk,List.length_cons,List.length_cons];omega
theorem RelO.some_of{v:V}{o:Option Value}(r:RelO (some v) o):∃ u,o=some u∧RelV v u:=by
 cases o with
 | none=>exact(show False from r).elim
 | some u=>exact⟨u,rfl,r⟩
theorem RelO.none_of{o:Option Value}(r:RelO none o):o=none:=by
 cases o with
 | none=>rfl
 | some u=>exact(show False from r).elim
theorem handed_of{v:V}{u:Value}(r:RelV v u):PySem.W.handedIn u=true:=by
 cases v with
 | non=>cases (show u=Value.none from r);rfl
 | bl b=>cases (show u=Value.bool b from r);rfl
 | int i=>obtain⟨t,e⟩:=(show ∃ t,u=Value.int i t from r);cases e;rfl
 | str x=>obtain⟨t,e⟩:=(show ∃ t,u=Value.str x t from r);cases e;rfl
 | byt b=>obtain⟨t,e⟩:=(show ∃ t,u=Value.bytes b t from r);cases e;rfl
 | flt b=>obtain⟨t,e⟩:=(show ∃ t,u=Value.float b t from r);cases e;rfl
 | ref a=>cases (show u=Value.ref a from r);rfl
 | ty n=>cases (show u=Value.type n from r);rfl
section
variable {P:Program}{w:World}{H H':Hp}{h h':Heap}{a C dx:Addr}{fs fs':List (Str × V)}
theorem ins_get(hok:HOk P w H h)(e:H a=some (.ins C dx fs)):∃ mA,ObjM h a dx C mA∧(∀ f,RelO (fs.lookup f) (mA f))∧PySem.Within mA (fs.map (·.1))∧fs.length≤1000∧H dx=some (.own a):=by
 obtain⟨d,z,ne,ob,mA,n,r,q⟩:=(show ObjOk P w H h a (.ins C dx fs) from hok a _ e)
 exact⟨mA,⟨ob,n,ne⟩,r,q,z,d⟩
end
structure Cls(K:PySem.W.Frag)(C:Addr):Prop where
 pg:PySem.W.plainGet K C Str.empty=true
 hd:PySem.W.hasDictIn K C=true
 po:PySem.W.plainOver K C=true
 sa:PySem.W.findIn K (.ref C) "__setattr__"=some (some (.builtin "object.__setattr__"))
theorem Cls.get{K:PySem.W.Frag}{C:Addr}(c:Cls K C)(f:Str):PySem.W.plainGet K C f=true:=c.pg
def NoAttr(K:PySem.W.Frag)(C:Addr)(f:Str):Prop:=PySem.W.findIn K (.ref C) f=some none
theorem NoAttr.taker{K:PySem.W.Frag}{C:Addr}{f:Str}(n:NoAttr K C f):PySem.W.takerIn K C f=some none:=by
 unfold PySem.W.takerIn
 rw [show PySem.W.findIn K (.ref C) f=some none from n]
 rfl
structure Meth(K:PySem.W.Frag)(C:Addr)(m:Str)(f:Addr):Prop where
 at_:PySem.W.findIn K (.ref C) m=some (some (.ref f))
 fn:PySem.W.isFn K (.ref f)=true
 kp:PySem.W.keepIn K (.ref f)=true
section
variable {X:Cx}{pins:List (Addr × Obj)}{σ:St}{H:Hp}{s:Shared}{a C dx:Addr}{fs:List (Str × V)}{f:Str}{v:V}{A:Around}{E:Value->Shared->Prop}
theorem getattr_ok{b:Bool}{Q:Value->Shared->Prop}(I:Inv X pins σ H s)(e:H a=some (.ins C dx fs))(c:Cls X.K C)(n:NoAttr X.K C f)(l:fs.lookup f=some v)
  (h:∀ u s',Inv X pins σ H s'->RelV v u->Q u s'):wpAny (model X.prog X.w) A (getAttr (.ref a) f b) Q E s:=by
 obtain⟨mA,O,r,_,_,_⟩:=ins_get I.hok e
 obtain⟨u,hu,ru⟩:=RelO.some_of (v:=v) (o:=mA f) (by rw [←l];exact r f)
 exact get_map I.kIn O (c.get f) c.hd n hu (handed_of ru) (h u _ (I.tok _) ru)
theorem getmeth_ok{m:Str}{g:Addr}{pl:Sem Bool}{Q:Value × List Value->Shared->Prop}(I:Inv X pins σ H s)(e:H a=some (.ins C dx fs))(c:Cls X.K C)(k:Meth X.K C m g)(l:fs.lookup m=none)
  (h:Q (.ref g,[.ref a]) s):wpAny (model X.prog X.w) A (getMethod (.ref a) m pl) Q E s:=by
 obtain⟨mA,O,r,_,_,_⟩:=ins_get I.hok e
 have hn:mA m=none:=RelO.none_of (by rw [←l];exact r m)
 exact get_meth I.kIn O (c.get m) k.at_ k.fn hn h
theorem setattr_ok{y:V}{u:Value}{Q:Unit->Shared->Prop}(I:Inv X pins σ H s)(e:H a=some (.ins C dx fs))(c:Cls X.K C)(n:NoAttr X.K C f)(hl:fs.length < 1000)(ry:RelV y u)
  (h:∀ s',Inv X pins σ (upd H a (.ins C dx (putF f y fs))) s'->Q () s'):wpAny (model X.prog X.w) A (setAttr (.ref a) f u) Q E s:=by
 obtain⟨mA,O,r,wi,_,ho⟩:=ins_get I.hok e
 have hz:(fs.map (·.1)).length≤sizeLine:=by rw [List.length_map,sizeLine_eq];omega
 refine set_map I.kIn O c.sa c.po n.taker c.hd wi hz fun h' O' sb=>h _ ?_
 have hd:∃ o,h'.get? dx=some o:=let ⟨o,_,_,e',_⟩:=O'.ns;⟨o,e'⟩
 refine I.write (x:=a) (e:=dx) (by rw [e];exact True.intro) (.inr ho) (fun b q hb z=>(sb.2 b hb).trans z) hd ?_
 refine⟨by rw [upd_ne O.ne];exact ho,?_,O.ne,O'.obj,_,O'.ns,fun g=>?_,fun g hg=>?_⟩
 ·have:=length_putF f y fs;omega
 ·show RelO ((putF f y fs).lookup g) (if g=f then some u else mA g)
  rw [lookup_putF]
  by_cases q:g=f
  ·rw [if_pos q,if_pos q];exact ry
  ·rw [if_neg q,if_neg q];exact r g
 ·by_cases q:g=f
  ·rw [q];exact(keys_putF f y fs).1
  ·refine(keys_putF f y fs).2 g (wi g fun z=>hg ?_)
   show (if g=f then some u else mA g)=none
   rw [if_neg q];exact z
theorem Inv.made(I:Inv X pins σ H s):Inv X pins σ (upd (upd H s.heap.objs.size (.own (s.heap.objs.size+1))) (s.heap.objs.size+1) (.ins C s.heap.objs.size []))
  { s with heap:=(s.heap.push PySem.W.emptyDict).push (PySem.W.instObj C s.heap.objs.size) }:=by
 have e1:(s.heap.push PySem.W.emptyDict).get? s.heap.objs.size=some PySem.W.emptyDict:=Heap.get?_push_size s.heap rfl
 have e2:((s.heap.push PySem.W.emptyDict).push (PySem.W.instObj C s.heap.objs.size)).get? (s.heap.objs.size+1)=some (PySem.W.instObj C s.heap.objs.size):=by
  have:=Heap.get?_push_size (s.heap.push PySem.W.emptyDict) (o:=PySem.W.instObj C s.heap.objs.size) rfl
  rwa [Heap.size_push] at this
 have e3:(s.heap.push PySem.W.emptyDict).Ns s.heap.objs.size (fun _=>none):=⟨PySem.W.emptyDict,#[],_,e1,rfl,(fun e he=>absurd he (by simp)),fun _=>rfl⟩
 have I1:=I.laid (a:=s.heap.objs.size) (o:=.own (s.heap.objs.size+1)) (h':=s.heap.push PySem.W.emptyDict) (t':=s.toks) (fun b u q=>Heap.get?_push_of_some _ q) (Nat.le_refl _) ⟨_,e1⟩
 refine I1.laid (a:=s.heap.objs.size+1) (o:=.ins C s.heap.objs.size []) (t':=s.toks) (fun b u q=>Heap.get?_push_of_some _ q) (Nat.le_of_eq (Heap.size_push _ _)) ?_
 have ne:s.heap.objs.size ≠ s.heap.objs.size+1:=Nat.ne_of_lt (Nat.lt_succ_self _)
 refine⟨by rw [upd_ne ne,upd_same],Nat.zero_le _,ne,e2,fun _=>none,(Heap.Ns1.of_empty e3).at fun o q=>Heap.get?_push_of_some _ q,fun _=>True.intro,fun y hy=>absurd rfl hy⟩
theorem attr_of{prog:Program}{w:World}{env:Env}{e:Expr}{f:Str}{pos:Pos}{s:Shared}{Q:Value->Shared->Prop}(hb:attributeBase e f env (eval e env)=eval e env)
  (h:wpAny (model prog w) A (eval e env) (fun o s₁=>wpAny (model prog w) A (getAttr o f true) Q E s₁) E s):wpAny (model prog w) A (eval (.Attribute e f pos) env) Q E s:=
 Attribute_any_ h (by rw [arm_eval_Attribute,hb])
end
section
variable {X:Cx}{o e value:Expr}{f:Str}{pos pos' tpos:Pos}{ta tv:TE}
end
section
variable {X:Cx}{pins:List (Addr × Obj)}{σ:St}{H:Hp}{s:Shared}{A:Around}{E:Value->Shared->Prop}{Q:Value->Shared->Prop}{c:Value}{b:Bool}
inductive TyOf (K:PySem.W.Frag) (H:Hp):V->Value->Prop where
 | non:TyOf K H .non (.type "NoneType")
 | bl (x:Bool):TyOf K H (.bl x) (.type "bool")
 | int (i:Int):TyOf K H (.int i) (.type "int")
 | str (x:Str):TyOf K H (.str x) (.type "str")
 | flt (x:UInt64):TyOf K H (.flt x) (.type "float")
 | lst {a:Addr} {xs:List V} (e:H a=some (.lst xs)):TyOf K H (.ref a) (.type "list")
 | frz {a:Addr} {o:Obj} {xs:List V} (e:H a=some (.frz o (.lst xs))):TyOf K H (.ref a) (.type "list")
 | tup {a:Addr} {xs:List V} (e:H a=some (.tup xs)):TyOf K H (.ref a) (.type "tuple")
 | dK {a:Addr} {kvs:List (Key × V)} (e:H a=some (.dK kvs)):TyOf K H (.ref a) (.type "dict")
 | dT {a:Addr} {kvs:List (List Key × V)} (e:H a=some (.dT kvs)):TyOf K H (.ref a) (.type "dict")
 | ins {a C dx:Addr} {fs:List (Str × V)} (e:H a=some (.ins C dx fs)) (cl:Cls K C) (ha:PySem.W.findIn K (.ref C) "__class__"=some (some (.builtin "object.__class__")))
   (hn:PySem.W.specialIn K (.builtin "object.__class__") "__get__"=some (some (.builtin "getset_descriptor.__get__"))) (htk:PySem.W.takesIn K (.builtin "object.__class__")=some true)
   (hm:PySem.W.mroIn K C (.type "object")=some true):TyOf K H (.ref a) (.ref C)
theorem isinst_ok{x:V}{u t:Value}(I:Inv X pins σ H s)(rx:RelV x u)(ty:TyOf X.K H x t)(e:PySem.W.kitOne X.K t c=some b)(h:∀ tk,Q (.bool b) { s with toks:=tk }) :
  wpAny (model X.prog X.w) A (call (.builtin "isinstance") [u,c]) Q E s:=by
 cases ty with
 | non=>cases (show u=Value.none from rx);exact PySem.W.kia_one PySem.W.kitx_none I.kIn True.intro e (fun z=>nomatch z) h
 | bl y=>cases (show u=Value.bool y from rx);exact PySem.W.kia_one PySem.W.kitx_bool I.kIn True.intro e (fun z=>nomatch z) h
 | int i=>obtain⟨t,q⟩:=(show ∃ t,u=Value.int i t from rx);cases q;exact PySem.W.kia_one PySem.W.kitx_int I.kIn True.intro e (fun z=>nomatch z) h
 | str y=>obtain⟨t,q⟩:=(show ∃ t,u=Value.str y t from rx);cases q;exact PySem.W.kia_one PySem.W.kitx_str I.kIn True.intro e (fun z=>nomatch z) h
 | flt y=>obtain⟨t,q⟩:=(show ∃ t,u=Value.float y t from rx);cases q;exact PySem.W.kia_one PySem.W.kitx_float I.kIn True.intro e (fun z=>nomatch z) h
 | @lst a xs ea=>
  cases (show u=Value.ref a from rx)
  obtain⟨_,_,n,_,h1⟩:=(show ObjOk X.prog X.w H s.heap a (.lst xs) from I.hok a _ ea)
  exact PySem.W.kia_one PySem.W.kitx_list I.kIn ⟨_,h1,rfl⟩ e (fun z=>nomatch z) h
 | @frz a ob xs ea=>
  cases (show u=Value.ref a from rx)
  obtain⟨_,_,_,n,_,h1⟩:=(show ObjOk X.prog X.w H s.heap a (.frz ob (.lst xs)) from I.hok a _ ea)
  exact PySem.W.kia_one PySem.W.kitx_list I.kIn ⟨_,h1,rfl⟩ e (fun z=>nomatch z) h
 | @tup a xs ea=>
  cases (show u=Value.ref a from rx)
  obtain⟨_,_,_,p⟩:=(show ObjOk X.prog X.w H s.heap a (.tup xs) from I.hok a _ ea)
  obtain⟨o,h1,h2,_⟩:=p
  exact PySem.W.kia_one PySem.W.kitx_tuple I.kIn ⟨o,h1,h2⟩ e (fun z=>nomatch z) h
 | @dK a kvs ea=>
  cases (show u=Value.ref a from rx)
  obtain⟨_,_,vs,_,p⟩:=(show ObjOk X.prog X.w H s.heap a (.dK kvs) from I.hok a _ ea)
  obtain⟨o,es,ep,h1,h2,_⟩:=p
  exact PySem.W.kia_one PySem.W.kitx_dict I.kIn ⟨o,h1,h2.1⟩ e (fun z=>nomatch z) h
 | @dT a kvs ea=>
  cases (show u=Value.ref a from rx)
  obtain⟨_,_,xs,_,o,es,ep,h1,h2,_⟩:=(show ObjOk X.prog X.w H s.heap a (.dT kvs) from I.hok a _ ea)
  exact PySem.W.kia_one PySem.W.kitx_dict I.kIn ⟨o,h1,h2.1⟩ e (fun z=>nomatch z) h
 | @ins a C dx fs ea cl ha hn htk hm=>
  cases (show u=Value.ref a from rx)
  obtain⟨mA,O,_⟩:=ins_get I.hok ea
  obtain⟨od,J,_⟩:=O.look
  exact PySem.W.kia_one (PySem.W.kitx_own (cl.get _) cl.hd ha hn htk hm) I.kIn J e (fun z=>nomatch z) h
end
end L2
namespace L2
open PySem PySem.Spec PyProof.Rows
structure Room(k:Nat)(A:Around):Prop where
 hd:A.handled=none
 dp:A.depth+3 * k+5 < recursionLimit
 un:A.units+16 * k+200 < cLine
 gd:A.guards=some []
theorem Room.mono{j k:Nat}{A:Around}(r:Room k A)(h:j≤k):Room j A:=⟨r.hd,by have:=r.dp;omega,by have:=r.un;omega,r.gd⟩
theorem Room.deeper{k:Nat}{A:Around}(r:Room (k+1) A)(env:Env):Room k (A.deeper env):=
 ⟨r.hd,by have:=r.dp;show A.depth+1+3 * k+5 < _;omega,by have:=r.un;show A.units+3+16 * k+200 < _;omega,r.gd⟩
theorem make_depth{A:Around}{C:Addr}{us:List Value}{kw:List (Str × Value)}:(A.under (.builtin "type.__call__" ⟨.ref C::us,kw⟩)).depth=A.depth+1:=by
 first|rfl|simp [Around.under,Code.weight,Code.isCreation,Code.isGuard,Code.isCaller,Code.frames,Code.isFrame,guardIds]
theorem make_units{A:Around}{C:Addr}{us:List Value}{kw:List (Str × Value)}:(A.under (.builtin "type.__call__" ⟨.ref C::us,kw⟩)).units=A.units+1:=by
 first|rfl|simp [Around.under,Code.cUnits,Code.frames,Code.isFrame]
theorem make_guards{A:Around}{C:Addr}{us:List Value}{kw:List (Str × Value)}:(A.under (.builtin "type.__call__" ⟨.ref C::us,kw⟩)).guards=A.guards:=by
 first|rfl|(simp [Around.under,Around.pushGuard,Code.isGuard,guardIds];done)
theorem Room.make{k:Nat}{A:Around}(r:Room (k+1) A)(C:Addr)(us:List Value)(kw:List (Str × Value)):Room k (A.under (.builtin "type.__call__" ⟨.ref C::us,kw⟩)):=
 ⟨r.hd,by have:=r.dp;rw [make_depth];omega,by have:=r.un;rw [make_units];omega,by rw [make_guards];exact r.gd⟩
theorem Room.depth{k:Nat}{A:Around}(r:Room k A):A.depth < recursionLimit:=by have:=r.dp;omega
theorem Room.units{k:Nat}{A:Around}(r:Room k A):A.units+64 < cLine:=by have:=r.un;omega
def tNil:TA:=fun _ H Q=>Q [] H
def tCons(ta:TE)(tr:TA):TA:=fun σ H Q=>ta σ H fun x H1=>tr σ H1 fun xs H2=>Q (x::xs) H2
section
variable {X:Cx}{e:Expr}{es:List Expr}{te:TE}{t:TA}{pos:Pos}
theorem pa_nil:PA X [] tNil:=fun _ _ _ _ H Q I h=>Calls.spliced_nil ⟨[],H,I,.nil,h⟩
theorem pa_cons(ha:PE X e te)(hr:PA X es t)(hs:starEach (e::es) X.env=(false,eval e X.env)::starEach es X.env:=by rfl):PA X (e::es) (tCons te t):=by
 intro pos pins s σ H Q I h
 rw [hs]
 show wpAny _ _ (spliced ((false,eval e X.env)::backTo pos (starEach es X.env))) _ _ s
 refine Calls.spliced_cons (thn (ha pins s σ H _ I h) fun u s1 ⟨x,H1,I1,r1,q1⟩=>?_)
 exact thn (hr pos pins s1 σ H1 _ I1 q1) fun us s2 ⟨xs,H2,I2,r2,q2⟩=>⟨x::xs,H2,I2,.cons r1 r2,q2⟩
end
abbrev Sp:=List V->Hp->VK->XK->Prop
abbrev CXT:=List Env->Hp->Shared->XK->Value->Shared->Prop
structure Env0(P:Program)(w:World)(K:PySem.W.Frag)(mg:Str->Option Value)(base:Heap)(A:Around)(outer:List Env)(s:Shared)(H:Hp):Prop where
 frames:A.frames=some outer
 mod:Mod K mg base
 bs:∀ b o,base.get? b=some o->s.heap.get? b=some o∧H b=none
 bsz:base.objs.size≤s.heap.objs.size
 funs:s.heap.FunFrames base outer
 frf:∀ b∈frs outer,H b=none
 hok:HOk P w H s.heap
 bare:AllBare s.gens
def CE(outer:List Env)(P:Program)(w:World)(H:Hp)(s:Shared)(Q:VK)(u:Value)(s':Shared):Prop:=
 ∃ v H',s'.os=s.os∧AllBare s'.gens∧Un (frs outer) [] H H' s.heap s'.heap∧HOk P w H' s'.heap∧RelV v u∧Q v H'
def CR(CX:CXT)(outer:List Env)(P:Program)(w:World)(H:Hp)(s:Shared)(Q:VK)(E:XK)(r:Result)(s':Shared):Prop:=
 match r with
 | .ok (.ret u)=>CE outer P w H s Q u s'
 | .ok _=>False
 | .error e=>CX outer H s E e s'
structure FnOk(P:Program)(w:World)(K:PySem.W.Frag)(mg:Str->Option Value)(base:Heap)(CX:CXT)(k:Nat)(f:Addr)(fd:FuncData)(ps:List Str)(sp:Sp):Prop where
 len:∀ vs H Q E,sp vs H Q E->vs.length=ps.length
 run:∀ (A:Around) (outer:List Env) (s:Shared) (H:Hp) (args:Args) (us:List Value) (vs:List V) (Q:VK) (E:XK),Room k A->Env0 P w K mg base A outer s H->BindsTo s fd args (ps.zip us)->Vals vs us->sp vs H Q E →
  codeAny (model P w) A (.call (.ref f) args) (CR CX outer P w H s Q E) s
theorem FnOk.mono{P:Program}{w:World}{K:PySem.W.Frag}{mg:Str->Option Value}{base:Heap}{CX:CXT}{j k:Nat}{f:Addr}{fd:FuncData}{ps:List Str}{sp:Sp}(F:FnOk P w K mg base CX j f fd ps sp)(h:j≤k) :
  FnOk P w K mg base CX k f fd ps sp:=⟨F.len,fun A outer s H args us vs Q E hr=>F.run A outer s H args us vs Q E (hr.mono h)⟩
theorem FnOk.imp{P:Program}{w:World}{K:PySem.W.Frag}{mg:Str->Option Value}{base:Heap}{CX:CXT}{k:Nat}{f:Addr}{fd:FuncData}{ps:List Str}{sp sp':Sp}(F:FnOk P w K mg base CX k f fd ps sp)
  (h:∀ vs H Q E,sp' vs H Q E->sp vs H Q E):FnOk P w K mg base CX k f fd ps sp':=
 ⟨fun vs H Q E q=>F.len vs H Q E (h _ _ _ _ q),fun A outer s H args us vs Q E hr he hb hv hs=>F.run A outer s H args us vs Q E hr he hb hv (h _ _ _ _ hs)⟩
theorem Env0.make{P:Program}{w:World}{K:PySem.W.Frag}{mg:Str->Option Value}{base:Heap}{A:Around}{outer:List Env}{s:Shared}{H:Hp}(e:Env0 P w K mg base A outer s H)(C:Addr)(us:List Value)(kw:List (Str × Value)) :
  Env0 P w K mg base (A.under (.builtin "type.__call__" ⟨.ref C::us,kw⟩)) outer s H:=⟨by first|exact e.frames|(simpa [Around.under,Code.envs,Code.isFrame,pushEnvs] using e.frames),e.mod,e.bs,e.bsz,e.funs,e.frf,e.hok,e.bare⟩
section
variable {X:Cx}{pins:List (Addr × Obj)}{σ:St}{H:Hp}{s s':Shared}
theorem Inv.env0(I:Inv X pins σ H s):Env0 X.prog X.w X.K X.mg X.base X.A X.stack s H:=
 ⟨I.ok.frames,I.ok.mod,I.bs,Nat.le_trans I.ok.bsz I.sz,I.stack,I.stkFree,I.hok,I.bare⟩
theorem Inv.after{Q:VK}{u:Value}(I:Inv X pins σ H s)(h:CE X.stack X.prog X.w H s Q u s'):EP X pins σ Q u s':=by
 obtain⟨v,H',os,bare,un,hok,r,q⟩:=h
 obtain⟨hh,g,d,t,os'⟩:=s'
 obtain rfl:os'=s.os:=os
 exact⟨v,H',I.call (h':=hh) (g':=g) (d':=d) (t':=t) (ch:=[]) un hok bare (fun b z=>absurd z (by simp)),r,q⟩
end
def tCall(sp:Sp)(dvs:List V)(E:XK)(t:TA):TE:=fun σ H Q=>t σ H fun vs H1=>sp (vs++dvs) H1 Q E
def Binds(K:PySem.W.Frag)(fd:FuncData)(ps:List Str)(ds:List Value):Prop:=
 ∀ (s:Shared) (us:List Value),K.In s.heap->(us++ds).length=ps.length->BindsTo s fd ⟨us,[]⟩ (ps.zip (us++ds))
theorem Binds.all{K:PySem.W.Frag}{fd:FuncData}{ps:List Str}(h:∀ us:List Value,us.length=ps.length->bindArgs fd ⟨us,[]⟩=pure (ps.zip us)):Binds K fd ps []:=fun s us _ hl=>by
 rw [List.append_nil] at hl ⊢
 exact .of_eq (h us hl)
def Passes(CX:CXT)(X:Cx)(E:XK):Prop:=∀ (pins:List (Addr × Obj)) (σ:St) (H:Hp) (s:Shared) (e:Value) (s':Shared),Inv X pins σ H s->CX X.stack H s E e s'->X.xe e s'
section
variable {X:Cx}{CX:CXT}{k:Nat}{f C:Addr}{fd:FuncData}{ps:List Str}{sp:Sp}{dvs:List V}{ds:List Value}{E:XK}{x m:Str}{p pos apos:Pos}{e o:Expr}{es:List Expr}{ta:TE}{t:TA}
theorem run_fn{pins:List (Addr × Obj)}{σ:St}{H:Hp}{s:Shared}{Q:VK}{us:List Value}{vs:List V}(F:FnOk X.prog X.w X.K X.mg X.base CX k f fd ps sp)(hr:Room k X.A)(hb:Binds X.K fd ps ds)(hd:Vals dvs ds)(hx:Passes CX X E)
  (I:Inv X pins σ H s) (r:Vals vs us) (h:sp (vs++dvs) H Q E):wpAny (model X.prog X.w) X.A (call (.ref f) us) (EP X pins σ Q) X.xe s:=by
 have r2:Vals (vs++dvs) (us++ds):=r.append hd
 have hl:(us++ds).length=ps.length:=by rw [←r2.length];exact F.len _ _ _ _ h
 refine wpAny_call (codeAny_mono (F.run X.A X.stack s H ⟨us,[]⟩ (us++ds) (vs++dvs) Q E hr I.env0 (hb s us I.kIn hl) r2 h) fun r s' hq=>?_)
 cases r with
 | error e=>exact hx pins σ H s e s' I hq
 | ok fl=>
  cases fl with
  | ret u=>exact I.after hq
  | next=>exact False.elim hq
  | brk=>exact False.elim hq
  | cont=>exact False.elim hq
theorem pe_call(F:FnOk X.prog X.w X.K X.mg X.base CX k f fd ps sp)(hr:Room k X.A)(hg:Gl X x)(hm:X.mg x=some (.ref f))(hk:PySem.W.keepIn X.K (.ref f)=true)(hb:Binds X.K fd ps ds)(hd:Vals dvs ds)(hx:Passes CX X E)
  (ha:PA X (e::es) t) (hdb:(x == ("__debug__":Str))=false:=by decide) (he:starEach (e::es) X.env=(false,eval e X.env)::starEach es X.env:=by rfl) (hpl:(backTo pos (starEach es X.env)).any (·.1)=false:=by rfl) :
  PE X (.Call (.Name x p) (e::es) [] pos) (tCall sp dvs E t):=by
 intro pins s σ H Q I h
 refine wpAny_Call_Name_kw (ld_glob I hg hm ?_ hdb)
 refine PySem.W.callWith_K (h₀:=X.base) I.ok.mod.kin hk (thn (ha pos pins s σ H _ I h) fun us s1 ⟨vs,H1,I1,r,q⟩=>⟨I1.kIn,?_⟩) he hpl
 exact run_fn F hr hb hd hx I1 r q
structure Mk(K:PySem.W.Frag)(C f:Addr):Prop where
 makes:PySem.W.makesIn K C=true
 init:PySem.W.findIn K (.ref C) "__init__"=some (some (.ref f))
 fn:PySem.W.isFn K (.ref f)=true
 kp:PySem.W.keepIn K (.ref C)=true
theorem run_make{pins:List (Addr × Obj)}{σ:St}{H:Hp}{s:Shared}{Q:VK}{us:List Value}{vs:List V}(M:Mk X.K C f)(F:FnOk X.prog X.w X.K X.mg X.base CX k f fd ps sp)(hr:Room (k+1) X.A)(hb:Binds X.K fd ps ds)(hd:Vals dvs ds)
  (hx:Passes CX X E) (I:Inv X pins σ H s) (r:Vals vs us)
  (h:∀ x dx,H x=none->H dx=none->dx ≠ x->sp (.ref x::(vs++dvs)) (upd (upd H dx (.own x)) x (.ins C dx [])) (fun v H2=>v=.non∧Q (.ref x) H2) E) :
  wpAny (model X.prog X.w) X.A (call (.ref C) us) (EP X pins σ Q) X.xe s:=by
 have hq:=h (s.heap.objs.size+1) s.heap.objs.size (I.hok.fresh (Nat.le_succ _)) (I.hok.fresh (Nat.le_refl _)) (Nat.ne_of_lt (Nat.lt_succ_self _))
 have I2:=Inv.made (C:=C) I
 have r2:Vals (V.ref (s.heap.objs.size+1)::(vs++dvs)) (Value.ref (s.heap.objs.size+1)::(us++ds)):=.cons rfl (r.append hd)
 have hl:(Value.ref (s.heap.objs.size+1)::us++ds).length=ps.length:=by
  have e:=r2.length
  rw [F.len _ _ _ _ hq] at e
  exact e.symm
 refine wpAny_call (make_map (f:=f) I.kIn M.makes M.init (beq_iff_eq.mp M.fn) (codeAny_mono (F.run _ X.stack _ _ ⟨Value.ref (s.heap.objs.size+1)::us,[]⟩ (Value.ref (s.heap.objs.size+1)::(us++ds)) _ _ E (hr.make C us [])
  (I2.env0.make C us []) (hb _ (Value.ref (s.heap.objs.size+1)::us) I2.kIn hl) r2 hq) fun r s' hq'=>?_))
 cases r with
 | error e=>exact hx pins σ _ _ e s' I2 hq'
 | ok fl=>
  cases fl with
  | ret u=>
   obtain⟨v,H',I3,rv,ev,q3⟩:=I2.after hq'
   subst ev
   exact⟨rv,⟨V.ref (s.heap.objs.size+1),H',I3,rfl,q3⟩⟩
  | next=>exact False.elim hq'
  | brk=>exact False.elim hq'
  | cont=>exact False.elim hq'
end
def PK(X:Cx)(kws:List Keyword)(t:TA):Prop:=
 ∀ (pos:Pos) (pins:List (Addr × Obj)) (s:Shared) (σ:St) (H:Hp) (Q:List V->Hp->Prop),Inv X pins σ H s->t σ H Q->wpAny (model X.prog X.w) X.A (evalAll ((backToKw pos (keywordEach kws X.env)).map (·.2))) (AP X pins σ Q) X.xe s
section
variable {X:Cx}{CX:CXT}{k:Nat}{f C:Addr}{fd:FuncData}{ps ks:List Str}{sp:Sp}{E:XK}{x m:Str}{p pos apos kpos:Pos}{e o:Expr}{es:List Expr}{kws:List Keyword}{te ta:TE}{t tk:TA}{nm:Option Str}
theorem pk_nil:PK X [] tNil:=fun _ _ _ _ H Q I h=>wpAny_evalAll_nil ⟨[],H,I,.nil,h⟩
theorem pk_cons(ha:PE X e te)(hr:PK X kws t):PK X (⟨nm,e,kpos⟩ :: kws) (tCons te t):=by
 intro pos pins s σ H Q I h
 show wpAny _ _ (evalAll ((do let v ←eval e X.env;standAt pos;pure v)::(backToKw pos (keywordEach kws X.env)).map (·.2))) _ _ s
 refine wpAny_evalAll_cons (wpAny_bind (thn (ha pins s σ H _ I h) fun u s1 ⟨x,H1,I1,r1,q1⟩=>wpAny_bind (wpAny_standAt (wpAny_pure ?_))))
 exact thn (hr pos pins s1 σ H1 _ I1 q1) fun us s2 ⟨xs,H2,I2,r2,q2⟩=>⟨x::xs,H2,I2,.cons r1 r2,q2⟩
structure KBinds(K:PySem.W.Frag)(fd:FuncData)(ps ks:List Str)(g:List Value->List Value->List Value)(gV:List V->List V->List V):Prop where
 to:∀ (s:Shared) (us ws:List Value),K.In s.heap->(g us ws).length=ps.length->BindsTo s fd ⟨us,ks.zip ws⟩ (ps.zip (g us ws))
 rel:∀ {vs:List V} {us:List Value} {zs:List V} {ws:List Value},Vals vs us->Vals zs ws->Vals (gV vs zs) (g us ws)
variable {g:List Value->List Value->List Value}{gV:List V->List V->List V}
end
structure FnScope(N P:List Str)(sc:Scope):Prop where
 kind:sc.kind=.function
 co:sc.isCoroutine=false
 gen:sc.isGenerator=false
 nd:N.Nodup
 pre:N.take P.length=P
 par:∀ x∈P,sc.names.lookup x=some .local∨sc.names.lookup x=some .cell
 nofree:∀ y∈sc.names,y.2 ≠ .free
theorem bindL_out{kindOf:Str->Option NameKind}{x:Str}:∀ {binds:List (Str × Value)}{m:Str->Option Value},(∀ v,(x,v) ∉ binds)->bindL kindOf binds m x=m x
 | [],_,_=>rfl
 | (n,v)::r,m,h=>by
  unfold bindL
  rw [bindL_out fun w hw=>h w (List.mem_cons_of_mem _ hw)]
  split
  ·have:x ≠ n:=by rintro rfl;exact h v List.mem_cons_self
   simp [this]
  ·rfl
theorem bindC_out{kindOf:Str->Option NameKind}{x:Str}:∀ {binds:List (Str × Value)}{m:Str->Option Value},(∀ v,(x,v) ∉ binds)->bindC kindOf binds m x=m x
 | [],_,_=>rfl
 | (n,v)::r,m,h=>by
  unfold bindC
  rw [bindC_out fun w hw=>h w (List.mem_cons_of_mem _ hw)]
  split
  ·rfl
  ·have:x ≠ n:=by rintro rfl;exact h v List.mem_cons_self
   simp [this]
theorem bindL_get{kindOf:Str->Option NameKind}{x:Str}{v:Value}:∀ {P:List Str}{vs:List Value}{i:Nat}{m:Str->Option Value},P.Nodup->P[i]? = some x->vs[i]? = some v->kindOf x=some .local →
  bindL kindOf (P.zip vs) m x=some v
 | [],_,_,_,_,h,_,_=>by simp at h
 | _::_,[],_,_,_,_,h,_=>by simp at h
 | p::P,w::vs,0,m,nd,h1,h2,hk=>by
  simp at h1 h2;subst h1;subst h2
  show bindL kindOf ((p,w)::P.zip vs) m p=_
  unfold bindL
  rw [bindL_out fun v hv=>(List.nodup_cons.mp nd).1 (List.of_mem_zip hv).1,if_pos hk]
  simp
 | p::P,w::vs,i+1,m,nd,h1,h2,hk=>by
  show bindL kindOf ((p,w)::P.zip vs) m x=_
  unfold bindL
  exact bindL_get (i:=i) (List.nodup_cons.mp nd).2 (by simpa using h1) (by simpa using h2) hk
theorem bindC_get{kindOf:Str->Option NameKind}{x:Str}{v:Value}:∀ {P:List Str}{vs:List Value}{i:Nat}{m:Str->Option Value},P.Nodup->P[i]? = some x->vs[i]? = some v->kindOf x ≠ some .local →
  bindC kindOf (P.zip vs) m x=some v
 | [],_,_,_,_,h,_,_=>by simp at h
 | _::_,[],_,_,_,_,h,_=>by simp at h
 | p::P,w::vs,0,m,nd,h1,h2,hk=>by
  simp at h1 h2;subst h1;subst h2
  show bindC kindOf ((p,w)::P.zip vs) m p=_
  unfold bindC
  rw [bindC_out fun v hv=>(List.nodup_cons.mp nd).1 (List.of_mem_zip hv).1,if_neg hk]
  simp
 | p::P,w::vs,i+1,m,nd,h1,h2,hk=>by
  show bindC kindOf ((p,w)::P.zip vs) m x=_
  unfold bindC
  exact bindC_get (i:=i) (List.nodup_cons.mp nd).2 (by simpa using h1) (by simpa using h2) hk
def start(N:List Str)(vs:List V):St:=vs.map some++List.replicate (N.length - vs.length) none
def cxOf(CX:CXT)(P:Program)(w:World)(K:PySem.W.Frag)(mg:Str->Option Value)(base:Heap)(N:List Str)(qual:Str)(scope:Scope)(f:Addr)(cd:Value)(A:Around)(outer:List Env)(s:Shared)(H:Hp)(E:XK):Cx where
 prog:=P
 w:=w
 K:=K
 mg:=mg
 base:=base
 A:=A.deeper (envOfC qual scope s.heap.objs.size f cd)
 N:=N
 s₀:=s
 H₀:=H
 env:=envOfC qual scope s.heap.objs.size f cd
 outer:=outer
 stack:=envOfC qual scope s.heap.objs.size f cd::outer
 ex:=[]
 calm:=true
 fn:=fun _=>true
 pn:=[]
 xe:=fun e s'=>wpAny (model P w) (A.deeper (envOfC qual scope s.heap.objs.size f cd)) (leaving (envOfC qual scope s.heap.objs.size f cd) e) (fun _ s''=>CX outer H s E e s'') (fun e' s''=>CX outer H s E e' s'') s'
theorem cell_has{sc:Scope}{n:Nat}{x:Str}(h:sc.names.lookup x=some .cell):∃ c,(cellsFrom n sc.names []).lookup x=some c:=by
 have q:=PySem.W.cellsFrom_some sc.names n [] (.inl h)
 exact Option.isSome_iff_exists.mp q
theorem inv_start{CX:CXT}{P:Program}{w:World}{K:PySem.W.Frag}{mg:Str->Option Value}{base:Heap}{N ps:List Str}{qual:Str}{scope:Scope}{f:Addr}{cd:Value}{A:Around}{outer:List Env}{s s1:Shared}{H:Hp}{E:XK}{us:List Value}{vs:List V}
  (S:FnScope N ps scope) (hd:A.handled=none) (e0:Env0 P w K mg base A outer s H) (hl:vs.length=ps.length) (r:Vals vs us)
  (x:InCallC s s.heap.objs.size (bindL (envOfC qual scope s.heap.objs.size f cd).kindOf (ps.zip us) fun _=>none) (cellsFrom (s.heap.objs.size+1) scope.names []) (bindC (envOfC qual scope s.heap.objs.size f cd).kindOf (ps.zip us) fun _=>none) s1) :
  Inv (cxOf CX P w K mg base N qual scope f cd A outer s H E) [] (start N vs) H s1:=by
 have hpl:ps.length≤N.length:=by have:=congrArg List.length S.pre;rw [List.length_take] at this;omega
 obtain⟨h1,tk,rfl,hk⟩:=x.done
 have noA:∀ b:Addr,b ∉ (cxOf CX P w K mg base N qual scope f cd A outer s H E).ex:=fun b z=>absurd (show b∈([]:List Addr) from z) (by simp)
 refine⟨⟨e0.mod,S.kind,rfl,rfl,Nat.le_refl _,fun y z c h1 h2=>?_,fun y hy=>?_,fun y c _ h=>?_,fun _=>hd,Around.frames_deeper e0.frames,.inr ⟨rfl,rfl⟩,fun b z=>absurd z (noA b),e0.bs,e0.bsz,fun b _ _=>noA b,fun b z=>absurd z (noA b),e0.funs,e0.frf⟩,
  rfl,e0.bare,Un.kept hk,⟨_,x.toInCall.ns,fun i y v h1 h2 h3=>?_⟩,fun y c h=>⟨_,x.cell y c h⟩,e0.hok.fresh (Nat.le_refl _),fun y c h=>?_,fun p hp=>absurd (show p∈([]:List (Addr × Obj)) from hp) (by simp),e0.hok.kept hk,?_⟩
 ·exact name_of_addr x.apart (PySem.mem_of_lookup h1) (PySem.mem_of_lookup h2)
 ·have hy:scope.names.lookup y=some .cell∨scope.names.lookup y=some .free:=hy
  rcases hy with hy|hy
  ·exact cell_has hy
  ·exact absurd rfl (S.nofree _ (PySem.mem_of_lookup hy))
 ·exact Nat.le_of_lt (x.above y c (PySem.mem_of_lookup h))
 ·have hi:i < vs.length:=by
   unfold start at h2
   by_cases hi:i < vs.length
   ·exact hi
   ·rw [List.getElem?_append_right (by simpa using hi)] at h2
    rw [List.getElem?_replicate] at h2
    split at h2<;>cases h2
  have ha:vs[i]? = some v:=by
   unfold start at h2
   rw [List.getElem?_append_left (by simpa using hi),List.getElem?_map] at h2
   cases e:vs[i]? with
   | none=>rw [e] at h2;cases h2
   | some a=>rw [e] at h2;cases h2;rfl
  obtain⟨u,hu,rv⟩:=r.get ha
  have hp:ps[i]? = some y:=by
   rw [←S.pre,List.getElem?_take_of_lt (by omega)];exact h1
  have ndP:ps.Nodup:=by rw [←S.pre];exact S.nd.sublist (List.take_sublist _ _)
  refine⟨u,rv,?_⟩
  rcases S.par y (List.mem_of_getElem? hp) with k|k
  ·exact .inl ⟨k,bindL_get ndP hp hu k⟩
  ·obtain⟨c,e⟩:=cell_has (n:=s.heap.objs.size+1) k
   refine .inr ⟨.inl k,c,e,?_⟩
   have q:=x.cell y c e
   rw [bindC_get ndP hp hu (by show scope.names.lookup y ≠ _;rw [k];decide)] at q
   exact q
 ·exact e0.hok.fresh (Nat.le_of_lt (x.above y c (PySem.mem_of_lookup h)))
 ·unfold start
  show _=N.length
  rw [List.length_append,List.length_map,List.length_replicate]
  omega
theorem fn_of{CX:CXT}{P:Program}{w:World}{K:PySem.W.Frag}{mg:Str->Option Value}{base:Heap}{k:Nat}{f:Addr}{name qual:Str}{params:Arguments}{body:List Stmt}{scope:Scope}{dV kV doc pm cdv ct oc:Value}{an od:Option Addr}
  {osl:Array (Option Value)} {N ps:List Str} {sp:Sp} (lk:K.lookup f=some ⟨oc,od,.func (PySem.W.fnOf name qual params body scope dV kV doc pm an cdv ct),osl⟩) (hcd:PySem.W.codeIn K cdv qual=true) (S:FnScope N ps scope)
  (len:∀ vs H Q E,sp vs H Q E->vs.length=ps.length)
  (hbody:∀ (A:Around) (outer:List Env) (s:Shared) (H:Hp) (vs:List V) (Q:VK) (E:XK),Room k (A.deeper (envOfC qual scope s.heap.objs.size f cdv))->sp vs H Q E →
   ∃ t,PSs (cxOf CX P w K mg base N qual scope f cdv A outer s H E) body t∧t { nx:=fun _ H'=>Q .non H',rt:=Q } (start N vs) H) :
  FnOk P w K mg base CX (k+1) f (PySem.W.fnOf name qual params body scope dV kV doc pm an cdv ct) ps sp:=by
 refine⟨len,fun A outer s H args us vs Q E hr e0 hb r hsp=>?_⟩
 have hl:=len _ _ _ _ hsp
 have KX:K.In s.heap:=e0.mod.kin.keeps fun b o e=>(e0.bs b o e).1
 have lim:s.heap.NoLimit:=e0.mod.nolimit.keeps fun b o e=>(e0.bs b o e).1
 have hkind:∀ y∈ps.zip us,scope.names.lookup y.1=some .local∨(scope.names.lookup y.1=some .cell∧((cellsFrom (s.heap.objs.size+1) scope.names []).lookup y.1).isSome=true):=fun ⟨n,v⟩ hy=>by
  rcases S.par n (List.of_mem_zip hy).1 with q|q
  ·exact .inl q
  ·exact .inr ⟨q,PySem.W.cellsFrom_some _ _ _ (.inl q)⟩
 refine codeAny_call_function hr.depth (KX _ _ lk) rfl S.co S.gen rfl (PySem.W.codeRec_of KX hcd) (hb _ _ _ _ ?_)
 refine wpAny_newFunctionEnv_cells S.kind hkind fun env he s1 x=>?_
 subst he
 refine⟨lim.keeps x.toInCall.keep,codeAny_func ?_⟩
 obtain⟨t,ht,hq⟩:=hbody A outer s H vs Q E (hr.deeper _) hsp
 have I:Inv (cxOf CX P w K mg base N qual scope f cdv A outer s H E) [] (start N vs) H s1:=inv_start S hr.hd e0 hl r x
 refine wpAny_mono (ht [] s1 (start N vs) H _ I hq) (fun fl s' hs=>?_) fun e s' hs=>hs
 have fin:∀ {σ':St} {H':Hp} {v:V} {u:Value},Inv (cxOf CX P w K mg base N qual scope f cdv A outer s H E) [] σ' H' s'->RelV v u->Q v H'->CE outer P w H s Q u s':=
  fun {σ' H' v u} J rv q=>⟨v,H',J.os,J.bare,J.base,J.hok,rv,q⟩
 cases fl with
 | ret u=>
  obtain⟨v,σ',H',J,rv,q⟩:=hs
  exact fin J rv q
 | next=>
  obtain⟨σ',H',J,q⟩:=hs
  exact fin (v:=V.non) (u:=Value.none) J rfl q
 | brk=>
  obtain⟨_,_,_,q⟩:=hs
  exact False.elim q
 | cont=>
  obtain⟨_,_,_,q⟩:=hs
  exact False.elim q
end L2
namespace L2
open PySem PySem.Spec PyProof.Rows
section
variable {X:Cx}{x:Str}{p pos:Pos}{e:Expr}{es:List Expr}{t:TA}{id T:String}{r:List V->Hp->VK->Prop}
def tCB(r:List V->Hp->VK->Prop)(t:TA):TE:=fun σ H Q=>t σ H fun vs H1=>r vs H1 Q
theorem pe_callB(hc:CallR X (.builtin id) r)(hg:Gl X x)(hm:X.mg x=none)(hv:bootBuiltins x=some (.builtin id))(ha:PA X (e::es) t)(hn:x ≠ "__name__":=by decide)(hdb:(x == ("__debug__":Str))=false:=by decide)
  (he:starEach (e::es) X.env=(false,eval e X.env)::starEach es X.env:=by rfl) (hpl:(backTo pos (starEach es X.env)).any (·.1)=false:=by rfl):PE X (.Call (.Name x p) (e::es) [] pos) (tCB r t):=by
 intro pins s σ H Q I h
 refine wpAny_Call_Name_kw (ld_blt I hg hm hv ?_ hn hdb)
 exact PyProof.Rows.callWith_builtin1 (thn (ha pos pins s σ H _ I h) fun us s1 ⟨vs,H1,I1,r1,q1⟩=>hc pins s1 σ H1 vs us Q I1 r1 q1) he hpl
theorem pe_callTy(hc:CallR X (.type T) r)(hg:Gl X x)(hm:X.mg x=none)(hv:bootBuiltins x=some (.type T))(ha:PA X (e::es) t)(hn:x ≠ "__name__":=by decide)(hdb:(x == ("__debug__":Str))=false:=by decide)
  (he:starEach (e::es) X.env=(false,eval e X.env)::starEach es X.env:=by rfl) (hpl:(backTo pos (starEach es X.env)).any (·.1)=false:=by rfl):PE X (.Call (.Name x p) (e::es) [] pos) (tCB r t):=by
 intro pins s σ H Q I h
 refine wpAny_Call_Name_kw (ld_blt I hg hm hv ?_ hn hdb)
 exact PyProof.Rows.callWith_type1 (thn (ha pos pins s σ H _ I h) fun us s1 ⟨vs,H1,I1,r1,q1⟩=>hc pins s1 σ H1 vs us Q I1 r1 q1) he hpl
end
end L2
namespace HT
open PySem PyProof.Rows
section
open PySem.SeqAt
open PySem.AutoSeq1 (wpAny_loadPart')
open PySem.MeetsSeq PySem.MeetsSeq2 PySem.MeetsSeq3
end
section
variable {prog:Program}{w:World}{A:Around}{E:Value->Shared->Prop}{s:Shared}
theorem cat_tup{t b:Addr}{vs ws:List Value}{Q:Value->Shared->Prop}(ht:IsTup s.heap t vs.toArray)(hb:IsTup s.heap b ws.toArray)(hv:vs ≠ [])
  (h1:ws=[]->Q (.ref t) s) (h2:ws ≠ []->Q (.ref s.heap.objs.size) { s with heap:=s.heap.push { cls:=.type "tuple",data:=.seq (vs++ws).toArray } })
  (hsz:vs.length+ws.length≤sizeLine):wpAny (model prog w) A (binaryOp .Add (.ref t) (.ref b)) Q E s:=by
 obtain⟨⟨cls,dd,data,sl⟩,ho,hc,n,hd⟩:=id ht
 obtain⟨⟨cls2,dd2,data2,sl2⟩,ho2,hc2,n2,hd2⟩:=id hb
 simp only at hc hd hc2 hd2
 subst hc hd hc2 hd2
 have e:vs.toArray++ws.toArray=(vs++ws).toArray:=by simp
 by_cases hw:ws=[]
 ·exact concat_meets ⟨_,ho,rfl⟩ ⟨_,ho2,rfl⟩ noFill_tuple_add seq_tuple_add PySem.F.slot_tuple_add PySem.F.entry_tuple_add (PySem.F.args_tuple_add_2 _ _)
   (tuple_addW1 t b vs.toArray ws.toArray n n2 dd dd2 sl sl2 (by simpa using hv) (by simp [hw])) ⟨ho,ho2,h1 hw⟩
 ·refine concat_meets ⟨_,ho,rfl⟩ ⟨_,ho2,rfl⟩ noFill_tuple_add seq_tuple_add PySem.F.slot_tuple_add PySem.F.entry_tuple_add (PySem.F.args_tuple_add_2 _ _)
   (tuple_addW2 t b vs.toArray ws.toArray n n2 dd dd2 sl sl2 (by simpa using hv) (by simpa using hw) (by rw [List.size_toArray,List.size_toArray];exact hsz)) ⟨ho,ho2,?_⟩
  rw [e]
  exact h2 hw
def sIx(n d:Nat):Option Int->Nat
 | none=>d
 | some v=>if v < 0 then (v+(n:Int)).toNat else min v.toNat n
theorem sIx_none(n d:Nat):sIx n d none=d:=rfl
theorem sIx_nat(n d k:Nat):sIx n d (some (k:Int))=min k n:=by
 show (if (k:Int) < 0 then ((k:Int)+(n:Int)).toNat else min (k:Int).toNat n)=min k n
 rw [if_neg (by omega),Int.toNat_natCast]
theorem sIx_le(n d:Nat)(hd:d≤n)(o:Option Int):sIx n d o≤n:=by
 cases o with
 | none=>exact hd
 | some v=>
  show (if v < 0 then (v+(n:Int)).toNat else min v.toNat n)≤n
  by_cases hv:v < 0
  ·rw [if_pos hv];omega
  ·rw [if_neg hv];exact Nat.min_le_right _ _
theorem clip_eq(v:Int)(n d:Nat):(if v < 0 then max (v+(n:Int)) 0 else min v (n:Int))=((sIx n d (some v):Nat):Int):=by
 show (if v < 0 then max (v+(n:Int)) 0 else min v (n:Int))=(((if v < 0 then (v+(n:Int)).toNat else min v.toNat n):Nat):Int)
 by_cases hv:v < 0
 ·simp only [if_pos hv];omega
 ·simp only [if_neg hv];omega
theorem adjust_gen(lo hi:Option Int)(n:Nat):Builtin.Slice.sliceAdjust lo hi 1 (n:Int)=(((sIx n 0 lo:Nat):Int),((sIx n n hi:Nat):Int)):=by
 have h1:¬ ((1:Int) < 0):=by omega
 unfold Builtin.Slice.sliceAdjust
 simp only [h1,if_false]
 refine Prod.ext ?_ ?_
 ·cases lo with
  | none=>rfl
  | some v=>exact clip_eq v n 0
 ·cases hi with
  | none=>rfl
  | some v=>exact clip_eq v n n
theorem places_gen(i j:Nat):Builtin.Slice.slicePlaces (i:Int) (j:Int) 1=j - i:=by
 unfold Builtin.Slice.slicePlaces
 have h1:(1:Int) > 0:=by omega
 simp only [h1,if_true,Int.ediv_one]
 split<;>omega
theorem slicePart_{v:Value}{o:Option Int}{Q:Option Int->Shared->Prop}(p:IsPart v o)(h:Q o s):wpAny (model prog w) A (Builtin.Slice.slicePartIndex v) Q E s:=by
 cases p with
 | none=>exact slicePart_none h
 | int i t=>exact slicePart_int h
theorem sliceApplied_gen{sl:Addr}{vl vu:Value}{lo hi:Option Int}{n:Nat}{Q:Int × Int × Nat->Shared->Prop}(hs:s.heap.IsSliceOf sl vl vu .none)(pl:IsPart vl lo)(pu:IsPart vu hi)
  (h:Q (((sIx n 0 lo:Nat):Int),1,sIx n n hi - sIx n 0 lo) s):wpAny (model prog w) A (Builtin.Slice.sliceApplied (.ref sl) (pure (n:Int))) Q E s:=by
 obtain⟨os,hos,hcs,hds⟩:=id hs
 unfold Builtin.Slice.sliceApplied Builtin.Slice.sliceFields
 refine wpAny_bind (wpAny_bind (wpAny_field hos hds (x:=vl) rfl (wpAny_bind (wpAny_field hos hds (x:=vu) rfl (wpAny_bind (wpAny_field hos hds (x:=.none) rfl (wpAny_pure ?_)))))))
 refine wpAny_bind (slicePart_none ?_)
 show wpAny _ _ (if ((1:Int) == 0)=true then _ else _) _ _ s
 rw [if_neg (by decide)]
 refine wpAny_bind (slicePart_ pl (wpAny_bind (slicePart_ pu (wpAny_bind (wpAny_pure ?_)))))
 show wpAny _ _ (match Builtin.Slice.sliceAdjust lo hi 1 (n:Int) with|(lo,hi)=>pure (lo,(1:Int),Builtin.Slice.slicePlaces lo hi 1)) _ _ s
 rw [adjust_gen lo hi n]
 show wpAny _ _ (pure (((sIx n 0 lo:Nat):Int),(1:Int),Builtin.Slice.slicePlaces ((sIx n 0 lo:Nat):Int) ((sIx n n hi:Nat):Int) 1)) _ _ s
 rw [places_gen]
 exact wpAny_pure h
theorem pick_gen(xs:Array Value)(i k:Nat):((List.range k).filterMap fun (m:Nat)=>xs[((i:Int)+(m:Int) * 1).toNat]?).toArray=((xs.toList.drop i).take k).toArray:=by
 have e:(fun (m:Nat)=>xs[((i:Int)+(m:Int) * 1).toNat]?)=fun m=>xs[i+m]?:=by
  funext m
  have:((i:Int)+(m:Int) * 1).toNat=i+m:=by omega
  rw [this]
 rw [e]
 have:=pick_run xs i k
 rw [List.filterMap_map] at this
 have e2:((fun x=>xs[x]?) ∘ fun x=>i+x)=fun m=>xs[i+m]?:=rfl
 rw [e2] at this
 rw [this]
theorem getItem_tuple_cut{t sl:Addr}{items:Array Value}{vl vu:Value}{lo hi:Option Int}{Q:Value->Shared->Prop}(ht:IsTup s.heap t items)(hs:s.heap.IsSliceOf sl vl vu .none)(pl:IsPart vl lo)(pu:IsPart vu hi)
  (hw:¬ (sIx items.size 0 lo=0∧sIx items.size items.size hi=items.size))
  (h:Q (.ref s.heap.objs.size) { s with heap:=s.heap.push { cls:=.type "tuple",data:=.seq ((items.toList.drop (sIx items.size 0 lo)).take (sIx items.size items.size hi - sIx items.size 0 lo)).toArray } })
  (hsz:items.size≤sizeLine):wpAny (model prog w) A (getItem (.ref t) (.ref sl)) Q E s:=by
 have htake:sizeOk (.seq ((items.toList.drop (sIx items.size 0 lo)).take (sIx items.size items.size hi - sIx items.size 0 lo)).toArray):=by
  show ((items.toList.drop (sIx items.size 0 lo)).take (sIx items.size items.size hi - sIx items.size 0 lo)).toArray.size≤sizeLine
  rw [List.size_toArray,List.length_take,List.length_drop,Array.length_toList]
  omega
 have hj:sIx items.size items.size hi≤items.size:=sIx_le _ _ (Nat.le_refl _) hi
 obtain⟨os,hos,hcs,hds⟩:=id hs
 have hTs:s.TypeIs (.ref sl) "slice":=⟨os,hos,hcs⟩
 unfold getItem
 try with_reducible refine wpAny_holding ?_
 first|refine wpAny_bind (wpAny_pure ?_)|skip
 refine wpAny_bind (wpAny_sequenceKey ht.typeIs (by decide) ?_)
 refine wpAny_bind (wpAny_callSpecial?_slot (name:=Str.ofString "__getitem__") ht.typeIs PyProof.Rows.slot_tuple_getitem
  (wpAny_call_entry PyProof.Rows.slot_tuple_getitem ht.typeIs entry_tuple_getitem ?_ (args_tuple_getitem _ _)))
 show wpAny _ _ (Builtin.Tuple.tupleItemsOf (.ref t) >>= _) _ _ s
 refine wpAny_bind (tupleItemsOf_ ht ?_)
 refine wpAny_bind (wpAny_typeOf hTs ?_)
 rw [if_pos (by decide)]
 refine wpAny_bind (sliceApplied_gen hs pl pu ?_)
 have hno:¬ ((((sIx items.size 0 lo:Nat):Int) == 0 && (1:Int) == 1 && (sIx items.size items.size hi - sIx items.size 0 lo) == items.size)=true):=by
  intro q
  rw [Bool.and_eq_true,Bool.and_eq_true] at q
  have q1:((sIx items.size 0 lo:Nat):Int)=0:=eq_of_beq q.1.1
  have q2:sIx items.size items.size hi - sIx items.size 0 lo=items.size:=eq_of_beq q.2
  exact hw ⟨by omega,by omega⟩
 show wpAny _ _ (if (((sIx items.size 0 lo:Nat):Int) == 0 && (1:Int) == 1 && (sIx items.size items.size hi - sIx items.size 0 lo) == items.size)=true then _ else _) _ _ s
 rw [if_neg hno,pick_gen]
 first
  | exact wpAny_bind (m:=Builtin.Tuple.tupleExact _) (wpAny_newObj_type (wpAny_pure ⟨_,rfl,wpAny_pure h⟩) htake)
  | exact wpAny_bind (m:=Builtin.Tuple.tupleExact _) (wpAny_newObj_type (wpAny_bind (wpAny_pure (wpAny_pure ⟨_,rfl,wpAny_pure h⟩))) htake)
  | exact wpAny_bind (wpAny_bind (m:=Builtin.Tuple.tupleExact _) (wpAny_newObj_type (wpAny_pure (wpAny_pure ⟨_,rfl,wpAny_pure h⟩)) htake))
  | exact wpAny_bind (wpAny_bind (m:=Builtin.Tuple.tupleExact _) (wpAny_newObj_type (wpAny_pure ⟨_,rfl,wpAny_pure h⟩) htake))
end
end HT
namespace L2
open PySem PySem.Spec PyProof.Rows
abbrev TO:=St->Hp->(Option Int->Hp->Prop)->Prop
def PO(X:Cx)(e:Option Expr)(t:TO):Prop:=
 ∀ (pins:List (Addr × Obj)) (s:Shared) (σ:St) (H:Hp) (Q:Option Int->Hp->Prop),Inv X pins σ H s->t σ H Q →
  wpAny (model X.prog X.w) X.A (evalPart e X.env) (fun u s'=>∃ o H',Inv X pins σ H' s'∧IsPart u o∧Q o H') X.xe s
def tNoPart:TO:=fun _ H Q=>Q none H
def tPart(t:TE):TO:=fun σ H Q=>t σ H fun x H1=>∃ i,x=.int i∧Q (some i) H1
section
variable {X:Cx}{e:Expr}{te:TE}{lo hi:Option Expr}{tl th:TO}{pos p2:Pos}
theorem po_none:PO X none tNoPart:=by
 intro pins s σ H Q I h
 rw [evalPart_none]
 exact wpAny_pure ⟨none,H,I,.none,h⟩
theorem po_some(h:PE X e te):PO X (some e) (tPart te):=by
 intro pins s σ H Q I hw
 rw [evalPart_some]
 refine thn (h pins s σ H _ I hw) fun u s1 ⟨x,H1,I1,r1,q1⟩=>?_
 obtain⟨i,rfl,q⟩:=q1
 obtain⟨t,rfl⟩:=r1
 exact⟨some i,H1,I1,.int i t,q⟩
def SlR(X:Cx)(r:V->Option Int->Option Int->Hp->VK->Prop):Prop:=
 ∀ (pins:List (Addr × Obj)) (s:Shared) (σ:St) (H:Hp) (x:V) (v vl vu:Value) (lo hi:Option Int) (sl:Addr) (Q:VK),Inv X pins σ H s->RelV x v->s.heap.IsSliceOf sl vl vu .none->IsPart vl lo->IsPart vu hi->r x lo hi H Q →
  ∃ T id,typeLookup (.type T) "__getitem__"=pure (some (.builtin id))∧s.TypeIs v T∧wpAny (model X.prog X.w) X.A (getItem v (.ref sl)) (EP X pins σ Q) X.xe s
def tSl(r:V->Option Int->Option Int->Hp->VK->Prop)(te:TE)(tl th:TO):TE:=fun σ H Q=>te σ H fun x H1=>tl σ H1 fun l H2=>th σ H2 fun u H3=>r x l u H3 Q
theorem pe_slice{r:V->Option Int->Option Int->Hp->VK->Prop}(hr:SlR X r)(he:PE X e te)(hl:PO X lo tl)(hu:PO X hi th):PE X (.Subscript e (.Slice lo hi none p2) pos) (tSl r te tl th):=by
 intro pins s σ H Q I h
 refine Subscript_ (thn (he pins s σ H _ I h) fun v s1 ⟨x,H1,I1,r1,q1⟩=>?_)
 refine wpAny_Slice (thn (hl pins s1 σ H1 _ I1 q1) fun vl s2 ⟨l,H2,I2,pl,q2⟩=>thn (hu pins s2 σ H2 _ I2 q2) fun vu s3 ⟨u,H3,I3,pu,q3⟩=>?_)
 rw [evalPart_none]
 refine wpAny_pure ?_
 have I4:Inv X pins σ H3 { s3 with heap:=s3.heap.push { cls:=.type "slice",data:=.fields #[vl,vu,.none] } }:=I3.kept (t':=s3.toks) fun b ob q=>Heap.get?_push_of_some _ q
 obtain⟨T,id,hT,ht,hg⟩:=hr pins { s3 with heap:=s3.heap.push { cls:=.type "slice",data:=.fields #[vl,vu,.none] } } σ H3 x v vl vu l u s3.heap.objs.size Q I4 r1 (Heap.IsSliceOf.new ..) pl pu q3
 show wpAny (model X.prog X.w) X.A (subscriptTail e (.Slice lo hi none p2) v (.ref s3.heap.objs.size)) (EP X pins σ Q) X.xe { s3 with heap:=s3.heap.push { cls:=.type "slice",data:=.fields #[vl,vu,.none] } }
 exact tail_any (ops:=[.ref s3.heap.objs.size,v]) ht hT hg (by with_unfolding_all rfl)
def cutV(xs:List V)(lo hi:Option Int):List V:=(xs.drop (HT.sIx xs.length 0 lo)).take (HT.sIx xs.length xs.length hi - HT.sIx xs.length 0 lo)
theorem cutV_length(xs:List V)(lo hi:Option Int):(cutV xs lo hi).length≤xs.length:=by
 unfold cutV
 rw [List.length_take,List.length_drop]
 omega
def rSlT(K:PySem.W.Frag):V->Option Int->Option Int->Hp->VK->Prop:=fun x lo hi H Q=>∃ a xs,x=.ref a∧SqT K H a xs ∧
 ¬ (HT.sIx xs.length 0 lo=0∧HT.sIx xs.length xs.length hi=xs.length)∧∀ p,H p=none->Q (.ref p) (upd H p (.tup (cutV xs lo hi)))
theorem sl_tup:SlR X (rSlT X.K):=by
 intro pins s σ H x v vl vu lo hi sl Q I rx hs pl pu h
 obtain⟨a,xs,rfl,hx,hw,q⟩:=h
 cases rx
 obtain⟨its,r,ht,hz⟩:=I.tuple hx
 have hlen:its.toArray.size=xs.length:=by rw [List.size_toArray];exact r.length.symm
 refine⟨"tuple",_,PyProof.Rows.slot_tuple_getitem.lookup,ht.typeIs,?_⟩
 refine HT.getItem_tuple_cut ht hs pl pu (by rw [hlen];exact hw) ?_ (by rw [hlen];exact hz)
 rw [hlen]
 refine⟨.ref s.heap.objs.size,_,I.laid (t':=s.toks) (o:=.tup (cutV xs lo hi)) (fun b ob q=>Heap.get?_push_of_some _ q) (Nat.le_refl _) ?_,rfl,q _ (I.hok.fresh (Nat.le_refl _))⟩
 exact⟨Nat.le_trans (cutV_length xs lo hi) hz,_,(r.drop (HT.sIx xs.length 0 lo)).take (HT.sIx xs.length xs.length hi - HT.sIx xs.length 0 lo),IsTup.new _ _⟩
def rCatT(K:PySem.W.Frag):R2:=fun x y H Q=>∃ a b xs ys,x=.ref a∧y=.ref b∧SqT K H a xs∧SqT K H b ys∧xs ≠ []∧xs.length+ys.length≤sizeLine ∧
 (ys=[]->Q (.ref a) H)∧(ys ≠ []->∀ p,H p=none->Q (.ref p) (upd H p (.tup (xs++ys))))
theorem Vals.nil_iff{xs:List V}{us:List Value}(r:Vals xs us):us=[] ↔ xs=[]:=by
 cases r with
 | nil=>simp
 | cons _ _=>simp
theorem op_catT:OpR X (binaryOp .Add) (rCatT X.K):=by
 intro pins s σ H x y v u Q I rx ry h
 obtain⟨a,b,xs,ys,rfl,rfl,ha,hb,hx,hz,q1,q2⟩:=h
 cases rx
 cases ry
 obtain⟨its,r1,p1,_⟩:=I.tuple ha
 obtain⟨its2,r2,p2,_⟩:=I.tuple hb
 refine HT.cat_tup p1 p2 (fun z=>hx (r1.nil_iff.mp z)) (fun z=>⟨.ref a,H,I,rfl,q1 (r2.nil_iff.mp z)⟩) (fun z=>?_) (by rw [←r1.length,←r2.length];exact hz)
 refine⟨.ref s.heap.objs.size,_,I.laid (t':=s.toks) (o:=.tup (xs++ys)) (fun b ob q=>Heap.get?_push_of_some _ q) (Nat.le_refl _) ?_,rfl,q2 (fun w=>z (r2.nil_iff.mpr w)) _ (I.hok.fresh (Nat.le_refl _))⟩
 exact⟨by rw [List.length_append];exact hz,_,r1.append r2,IsTup.new _ _⟩
end
end L2
namespace L2
open PySem PySem.Spec PyProof.Rows
def ixN(n:Nat)(i:Int):Option Nat:=if 0≤i then (if i < n then some i.toNat else none) else if -(n:Int)≤i then some (i+n).toNat else none
def atI{α:Type}(xs:List α)(i:Int):Option α:=(ixN xs.length i).bind fun j=>xs[j]?
theorem ixN_seq{n:Nat}{i:Int}{j:Nat}(h:ixN n i=some j):seqIndex? i n=some j∧j < n∧-(n:Int)≤i∧i < n:=by
 unfold ixN at h
 by_cases h0:0≤i
 ·rw [if_pos h0] at h
  by_cases h1:i < n
  ·rw [if_pos h1] at h
   have e:i.toNat=j:=Option.some.inj h
   exact⟨by rw [seqIndex_of h0 h1,e],by omega,by omega,h1⟩
  ·rw [if_neg h1] at h;cases h
 ·rw [if_neg h0] at h
  by_cases h1:-(n:Int)≤i
  ·rw [if_pos h1] at h
   have e:(i+n).toNat=j:=Option.some.inj h
   exact⟨by rw [seqIndex_neg (by omega) h1,e],by omega,h1,by omega⟩
  ·rw [if_neg h1] at h;cases h
theorem atI_get{α:Type}{xs:List α}{i:Int}{v:α}(h:atI xs i=some v):∃ j,seqIndex? i xs.length=some j∧xs[j]? = some v∧j < xs.length∧-(xs.length:Int)≤i∧i < xs.length:=by
 unfold atI at h
 cases e:ixN xs.length i with
 | none=>rw [e] at h;cases h
 | some j=>
  rw [e] at h
  obtain⟨h1,h2,h3,h4⟩:=ixN_seq e
  exact⟨j,h1,h,h2,h3,h4⟩
theorem atI_nat{α:Type}{xs:List α}{j:Nat}{v:α}(h:xs[j]? = some v):atI xs (j:Int)=some v:=by
 have hj:j < xs.length:=(List.getElem?_eq_some_iff.mp h).1
 have e:ixN xs.length (j:Int)=some j:=by
  unfold ixN
  rw [if_pos (by omega),if_pos (by omega)];simp
 unfold atI;rw [e];exact h
def PlainIx(b:Expr):Prop:=∀ o i,subscripted b false o i=operate [o,i] (getItem o i)
def IxR(X:Cx)(r:R2):Prop:=
 ∀ (value slice:Expr) (pins:List (Addr × Obj)) (s:Shared) (σ:St) (H:Hp) (x y:V) (v u:Value) (Q:VK),Inv X pins σ H s->RelV x v->RelV y u->r x y H Q →
  subscripted slice false v u=operate [v,u] (getItem v u)->wpAny (model X.prog X.w) X.A (subscriptTail value slice v u) (EP X pins σ Q) X.xe s
def MtR(X:Cx)(id:String)(r:V->List V->Hp->VK->Prop):Prop:=
 ∀ (pins:List (Addr × Obj)) (s:Shared) (σ:St) (H:Hp) (x:V) (xs:List V) (v:Value) (us:List Value) (Q:VK),Inv X pins σ H s->RelV x v->Vals xs us->r x xs H Q →
  wpAny (model X.prog X.w) X.A (call (.builtin id) (v::us)) (EP X pins σ Q) X.xe s
section
variable {X:Cx}{a b:Expr}{ta tb:TE}{pos:Pos}
theorem IxR.or{r r':R2}(h:IxR X r)(h':IxR X r'):IxR X (fun x y H Q=>r x y H Q∨r' x y H Q):=by
 intro value slice pins s σ H x y v u Q I rx ry q hs
 rcases q with q|q
 ·exact h value slice pins s σ H x y v u Q I rx ry q hs
 ·exact h' value slice pins s σ H x y v u Q I rx ry q hs
theorem pe_ix{r:R2}(hr:IxR X r)(ha:PE X a ta)(hb:PE X b tb)(hs:PlainIx b):PE X (.Subscript a b pos) (tOp r ta tb):=by
 intro pins s σ H Q I h
 exact Subscript_ (binT ha hb I h fun v u s2 x y H2 I2 rx ry q=>hr a b pins s2 σ H2 x y v u Q I2 rx ry q (hs _ _))
def rIxL(K:PySem.W.Frag):R2:=fun x y H Q=>∃ p xs i v,x=.ref p∧y=.int i∧SqL K H p xs∧atI xs i=some v∧Q v H
def rIxT(K:PySem.W.Frag):R2:=fun x y H Q=>∃ p xs i v,x=.ref p∧y=.int i∧SqT K H p xs∧atI xs i=some v∧Q v H
theorem ix_list:IxR X (rIxL X.K):=by
 intro value slice pins s σ H x y v u Q I rx ry h hs
 obtain⟨p,xs,i,z,rfl,rfl,hq,he,q⟩:=h
 cases rx
 obtain⟨t,rfl⟩:=ry
 obtain⟨its,r,pl,hz⟩:=I.list hq
 obtain⟨j,h1,h2,h3,h4,h5⟩:=atI_get he
 obtain⟨w,ew,rw'⟩:=r.get h2
 have hl:=r.length
 have hn:=line63
 have fin:EP X pins σ Q w s:=⟨z,H,I,rw',q⟩
 by_cases h0:0≤i
 ·have hj:i.toNat=j:=by
   rw [seqIndex_of h0 h5] at h1
   exact Option.some.inj h1
  exact item_listR pl.isList h0 (by omega) (by rw [hj];simpa using ew) fin hs
 ·have hj:(i+(its.toArray.size:Int)).toNat=j:=by
   rw [seqIndex_neg (by omega) h4] at h1
   rw [List.size_toArray,←hl]
   exact Option.some.inj h1
  exact subscriptTail_builtinR (x:=w) pl.isList.typeIs slot_list_getitem.lookup
   (wpAny_getItem_list_neg (Q:=fun r s'=>r=w∧EP X pins σ Q r s') pl.isList (by omega) (by rw [List.size_toArray]<;>omega) (by omega) (by rw [hj];simpa using ew) ⟨rfl,fin⟩) hs
theorem ix_tup:IxR X (rIxT X.K):=by
 intro value slice pins s σ H x y v u Q I rx ry h hs
 obtain⟨p,xs,i,z,rfl,rfl,hq,he,q⟩:=h
 cases rx
 obtain⟨t,rfl⟩:=ry
 obtain⟨its,r,pl,hz⟩:=I.tuple hq
 obtain⟨j,h1,h2,h3,h4,h5⟩:=atI_get he
 obtain⟨w,ew,rw'⟩:=r.get h2
 have hl:=r.length
 have hn:=line63
 have fin:EP X pins σ Q w s:=⟨z,H,I,rw',q⟩
 exact subscriptTail_builtinR (x:=w) pl.typeIs slot_tuple_getitem.lookup
  (getItem_tuple (j:=j) (Q:=fun r s'=>r=w∧EP X pins σ Q r s') pl (by omega) (by omega) (by rw [List.size_toArray,←hl];exact h1) (by simpa using ew) ⟨rfl,fin⟩) hs
theorem mapSeq_set(its:List Value)(n j:Nat)(u:Value):Obj.mapSeq (·.setIfInBounds j u) { cls:=.type "list",data:=.seq its.toArray n }={ cls:=.type "list",data:=.seq (its.set j u).toArray n }:=by
 simp [Obj.mapSeq]
theorem Inv.lst{pins:List (Addr × Obj)}{σ:St}{H:Hp}{s:Shared}{p:Addr}{xs:List V}(I:Inv X pins σ H s)(h:H p=some (.lst xs)) :
  ∃ (its:List Value) (n:Nat),Vals xs its∧s.heap.get? p=some { cls:=.type "list",data:=.seq its.toArray n }∧xs.length≤sizeLine:=by
 obtain⟨z,its,n,r,e⟩:=I.hok p _ h
 exact⟨its,n,r,e,z⟩
theorem Inv.lstUpd{pins:List (Addr × Obj)}{σ:St}{H:Hp}{s:Shared}{p:Addr}{xs ys:List V}{its its':List Value}{n n':Nat}{f:Obj->Obj}(I:Inv X pins σ H s)(h:H p=some (.lst xs))
  (ho:s.heap.get? p=some { cls:=.type "list",data:=.seq its.toArray n }) (hf:f { cls:=.type "list",data:=.seq its.toArray n }={ cls:=.type "list",data:=.seq its'.toArray n' }) (r:Vals ys its') (hz:ys.length≤sizeLine) (t:Nat) :
  Inv X pins σ (upd H p (.lst ys)) { s with heap:=s.heap.update p f,toks:=t }:=by
 have e:(s.heap.update p f).get? p=some { cls:=.type "list",data:=.seq its'.toArray n' }:=by
  rw [Heap.get?_update_self f ho (by rw [hf]<;>rfl),hf]
 refine I.write (x:=p) (e:=p) (by rw [h];trivial) (.inl rfl) (fun b u hb q=>(Heap.get?_update_other _ _ (Ne.symm hb)).trans q) ⟨_,e⟩ ?_
 exact⟨hz,its',n',r,e⟩
def rSetL:V->V->V->Hp->(Hp->Prop)->Prop:=fun o i v H Q=>∃ p xs k j,o=.ref p∧i=.int k∧H p=some (.lst xs)∧ixN xs.length k=some j∧Q (upd H p (.lst (xs.set j v)))
theorem set_list:PSet X rSetL:=by
 intro pins s σ H o i v ov iv u Q I ro ri rv h
 obtain⟨p,xs,k,j,rfl,rfl,hp,hj,q⟩:=h
 cases ro
 obtain⟨t,rfl⟩:=ri
 obtain⟨its,n,r,ho,hz⟩:=I.lst hp
 obtain⟨h1,h2,h3,h4⟩:=ixN_seq hj
 have hl:=r.length
 have hn:=line63
 have I':Inv X pins σ (upd H p (.lst (xs.set j v))) { s with heap:=s.heap.update p (Obj.mapSeq (·.setIfInBounds j u)) }:=
  I.lstUpd hp ho (mapSeq_set its n j u) (r.set rv j) (by rw [List.length_set];exact hz) s.toks
 by_cases h0:0≤k
 ·have hk:k.toNat=j:=by
   rw [seqIndex_of h0 h4] at h1
   exact Option.some.inj h1
  exact PySem.W.ki_setAt ho h0 (by omega) (by rw [List.size_toArray,←hl];exact h4) (by rw [hk];exact⟨_,I',q⟩)
 ·have hk:(k+(its.toArray.size:Int)).toNat=j:=by
   rw [seqIndex_neg (by omega) h3] at h1
   rw [List.size_toArray,←hl]
   exact Option.some.inj h1
  exact PySem.W.ki_setBack ho (by omega) (by rw [List.size_toArray,←hl];exact h3) (by omega) (by rw [hk];exact⟨_,I',q⟩)
theorem slice_bounds(lo hi:Option Int)(n:Nat):(sliceBounds lo hi none n).1=((HT.sIx n 0 lo:Nat):Int)∧(sliceBounds lo hi none n).2.1=((HT.sIx n n hi:Nat):Int)∧(sliceBounds lo hi none n).2.2=1:=by
 refine⟨?_,?_,rfl⟩
 ·cases lo with
  | none=>simp [sliceBounds,HT.sIx]
  | some i=>
   simp only [sliceBounds,HT.sIx,Option.getD_none,show (1:Int) > 0 by decide,if_true]
   by_cases h:i < 0
   ·simp only [h,if_true]<;>omega
   ·simp only [h,if_false]<;>omega
 ·cases hi with
  | none=>simp [sliceBounds,HT.sIx]
  | some i=>
   simp only [sliceBounds,HT.sIx,Option.getD_none,show (1:Int) > 0 by decide,if_true]
   by_cases h:i < 0
   ·simp only [h,if_true]<;>omega
   ·simp only [h,if_false]<;>omega
theorem slicePick_cut(its:List Value)(lo hi:Option Int):slicePick its.toArray lo hi none=((its.drop (HT.sIx its.length 0 lo)).take (HT.sIx its.length its.length hi - HT.sIx its.length 0 lo)).toArray:=by
 obtain⟨h1,h2,h3⟩:=slice_bounds lo hi its.toArray.size
 unfold slicePick
 rw [h1,h2,h3]
 simp only [sliceRange_one,pick_run,List.size_toArray]<;>rfl
def rSlL(K:PySem.W.Frag):V->Option Int->Option Int->Hp->VK->Prop:=fun x lo hi H Q=>∃ a xs,x=.ref a∧SqL K H a xs∧∀ p,H p=none->Q (.ref p) (upd H p (.lst (cutV xs lo hi)))
theorem sl_list:SlR X (rSlL X.K):=by
 intro pins s σ H x v vl vu lo hi sl Q I rx hs pl pu h
 obtain⟨a,xs,rfl,hx,q⟩:=h
 cases rx
 obtain⟨its,r,ht,hz⟩:=I.list hx
 have hlen:=r.length
 refine⟨"list",_,slot_list_getitem.lookup,ht.isList.typeIs,?_⟩
 refine wpAny_getItem_list_slice ht.isList hs pl pu .none (by simp) ?_ (by rw [List.size_toArray]<;>omega)
 rw [slicePick_cut,←hlen]
 refine⟨.ref s.heap.objs.size,_,I.laid (t':=s.toks) (o:=.lst (cutV xs lo hi)) (fun b ob q=>Heap.get?_push_of_some _ q) (Nat.le_refl _) ?_,rfl,q _ (I.hok.fresh (Nat.le_refl _))⟩
 exact⟨Nat.le_trans (cutV_length xs lo hi) hz,_,0,(r.drop (HT.sIx xs.length 0 lo)).take (HT.sIx xs.length xs.length hi - HT.sIx xs.length 0 lo),Heap.get?_push_size _ rfl⟩
def flatV:V->Bool
 | .non=>true
 | .bl _=>true
 | .int _=>true
 | .str _=>true
 | _=>false
def eqV:V->V->Bool
 | .non,.non=>true
 | .bl a,.bl b=>a == b
 | .bl a,.int b=>(if a then 1 else 0) == b
 | .int a,.bl b=>a == (if b then 1 else 0)
 | .int a,.int b=>a == b
 | .str a,.str b=>a == b
 | _,_=>false
theorem eqAt_V{A:Around}{s:Shared}{y x:V}{u v:Value}(ry:RelV y u)(rx:RelV x v)(fy:flatV y=true)(fx:flatV x=true):SeqAt.EqAt A s u v (eqV y x):=by
 cases y with
 | non=>
  cases ry
  cases x with
  | non=>cases rx;exact SeqAt.EqAt.same _
  | bl b=>cases rx;exact SeqAt.EqAt.none_bool b
  | int b=>obtain⟨t,rfl⟩:=rx;exact SeqAt.EqAt.none_int b t
  | str b=>obtain⟨t,rfl⟩:=rx;exact SeqAt.EqAt.none_str b t
  | _=>exact absurd (show false=true from fx) Bool.false_ne_true
 | bl a=>
  cases ry
  cases x with
  | non=>cases rx;exact SeqAt.EqAt.bool_none a
  | bl b=>cases rx;exact SeqAt.EqAt.bool_bool a b
  | int b=>obtain⟨t,rfl⟩:=rx;exact SeqAt.EqAt.bool_int a b t
  | str b=>obtain⟨t,rfl⟩:=rx;exact SeqAt.EqAt.bool_str a b t
  | _=>exact absurd (show false=true from fx) Bool.false_ne_true
 | int a=>
  obtain⟨t',rfl⟩:=ry
  cases x with
  | non=>cases rx;exact SeqAt.EqAt.int_none a t'
  | bl b=>cases rx;exact SeqAt.EqAt.int_bool a t' b
  | int b=>obtain⟨t,rfl⟩:=rx;exact SeqAt.EqAt.int_int a t' b t
  | str b=>obtain⟨t,rfl⟩:=rx;exact SeqAt.EqAt.int_str a t' b t
  | _=>exact absurd (show false=true from fx) Bool.false_ne_true
 | str a=>
  obtain⟨t',rfl⟩:=ry
  cases x with
  | non=>cases rx;exact SeqAt.EqAt.str_none a t'
  | bl b=>cases rx;exact SeqAt.EqAt.str_bool a t' b
  | int b=>obtain⟨t,rfl⟩:=rx;exact SeqAt.EqAt.str_int a t' b t
  | str b=>obtain⟨t,rfl⟩:=rx;exact SeqAt.EqAt.str_str a t' b t
  | _=>exact absurd (show false=true from fx) Bool.false_ne_true
 | _=>exact absurd (show false=true from fy) Bool.false_ne_true
def eqU(x:V)(u:Value):Bool:=match u with
 | .none=>eqV .non x
 | .bool b=>eqV (.bl b) x
 | .int i _=>eqV (.int i) x
 | .str z _=>eqV (.str z) x
 | _=>false
theorem eqU_of{x y:V}{u:Value}(r:RelV y u)(f:flatV y=true):eqU x u=eqV y x:=by
 cases y with
 | non=>cases r;rfl
 | bl b=>cases r;rfl
 | int i=>obtain⟨t,rfl⟩:=r;rfl
 | str z=>obtain⟨t,rfl⟩:=r;rfl
 | _=>exact absurd (show false=true from f) Bool.false_ne_true
theorem any_eqU{x:V}:∀ {xs:List V}{us:List Value},Vals xs us->xs.all flatV=true->us.any (eqU x)=xs.any fun y=>eqV y x
 | _,_,.nil,_=>rfl
 | y::xs,u::us,.cons r t,f=>by
  rw [List.all_cons,Bool.and_eq_true] at f
  rw [List.any_cons,List.any_cons,eqU_of r f.1,any_eqU t f.2]
theorem mem_eqAt{A:Around}{s:Shared}{x:V}{v:Value}(rx:RelV x v)(fx:flatV x=true):∀ {xs:List V}{us:List Value},Vals xs us->xs.all flatV=true->∀ u∈us,SeqAt.EqAt A s u v (eqU x u)
 | _,_,.nil,_=>fun u hu=>by cases hu
 | y::xs,u::us,.cons r t,f=>fun u' hu=>by
  rw [List.all_cons,Bool.and_eq_true] at f
  rcases List.mem_cons.mp hu with rfl|hu
  ·rw [eqU_of r f.1];exact eqAt_V r rx f.1 fx
  ·exact mem_eqAt rx fx t f.2 u' hu
def inV(x:V)(xs:List V):Bool:=xs.any fun y=>eqV y x
def rIn(K:PySem.W.Frag)(neg:Bool):R2:=fun x y H Q=>∃ p xs,y=.ref p∧(SqL K H p xs∨SqT K H p xs)∧flatV x=true∧xs.all flatV=true∧Q (.bl (if neg then !inV x xs else inV x xs)) H
theorem op_in_seq:OpR X (compareOp .In) (rIn X.K false):=by
 intro pins s σ H x y v u Q I rx ry h
 obtain⟨p,xs,rfl,hq,fx,fs,q⟩:=h
 cases ry
 rcases hq with hq|hq
 ·obtain⟨its,r,pl,hz⟩:=I.list hq
  refine SeqAt.in_listAt (eqU x) pl.isList (fun w hw=>mem_eqAt rx fx r fs w (by simpa using hw)) ⟨.bl _,H,I,rfl,?_⟩
  rw [show its.toArray.any (eqU x)=its.any (eqU x) by simp,any_eqU r fs]
  exact q
 ·obtain⟨its,r,pl,hz⟩:=I.tuple hq
  refine SeqAt.in_tupleAt (eqU x) pl (fun w hw=>mem_eqAt rx fx r fs w (by simpa using hw)) ⟨.bl _,H,I,rfl,?_⟩
  rw [show its.toArray.any (eqU x)=its.any (eqU x) by simp,any_eqU r fs]
  exact q
theorem call_len_seq:CallR X (.builtin "len") (fun xs H Q=>∃ p ys,xs=[.ref p]∧(SqL X.K H p ys∨SqT X.K H p ys)∧Q (.int ys.length) H):=by
 intro pins s σ H xs us Q I r h
 obtain⟨p,ys,rfl,hq,q⟩:=h
 obtain⟨u,rfl,rx⟩:=vals1 r
 cases rx
 have hn:=line63
 rcases hq with hq|hq
 ·obtain⟨its,r',pl,hz⟩:=I.list hq
  have hlen:=r'.length
  exact Calls.call_len_list pl.isList (by simp only [List.size_toArray]<;>omega) ⟨.int ys.length,H,I.tok _,⟨s.toks+1,by rw [List.size_toArray,hlen]⟩,q⟩
 ·obtain⟨its,r',pl,hz⟩:=I.tuple hq
  have hlen:=r'.length
  exact len_tuple pl (by simp only [List.size_toArray]<;>omega) ⟨.int ys.length,H,I.tok _,⟨s.toks+1,by rw [List.size_toArray,hlen]⟩,q⟩
theorem call_len_str:CallR X (.builtin "len") (fun xs H Q=>∃ z,xs=[.str z]∧z.length≤sizeLine∧Q (.int z.length) H):=by
 intro pins s σ H xs us Q I r h
 obtain⟨z,rfl,hz,q⟩:=h
 obtain⟨u,rfl,t,rfl⟩:=vals1 r
 have hn:=line63
 exact len_str (by omega) ⟨.int z.length,H,I.tok _,⟨_,rfl⟩,q⟩
theorem CallR.or{f:Value}{r r':List V->Hp->VK->Prop}(h:CallR X f r)(h':CallR X f r'):CallR X f (fun xs H Q=>r xs H Q∨r' xs H Q):=by
 intro pins s σ H xs us Q I rs q
 rcases q with q|q
 ·exact h pins s σ H xs us Q I rs q
 ·exact h' pins s σ H xs us Q I rs q
theorem call_list_of:CallR X (.type "list") (fun xs H Q=>∃ p ys,xs=[.ref p]∧(SqL X.K H p ys∨SqT X.K H p ys)∧∀ l,H l=none->Q (.ref l) (upd H l (.lst ys))):=by
 intro pins s σ H xs us Q I r h
 obtain⟨p,ys,rfl,hq,q⟩:=h
 obtain⟨u,rfl,rx⟩:=vals1 r
 cases rx
 have fin:∀ (its:List Value),Vals ys its->ys.length≤sizeLine->∀ (h':Heap) (c':Nat),(∀ b o',s.heap.get? b=some o'->h'.get? b=some o') →
   h'.get? s.heap.objs.size=some { cls:=.type "list",dict:=none,data:=.seq its.toArray c',slots:=#[] }->EP X pins σ Q (.ref s.heap.objs.size) { s with heap:=h' }:=fun its r' hz h' c' kp e=>
  ⟨.ref s.heap.objs.size,_,I.laid (t':=s.toks) kp (Nat.le_refl _) (show ObjOk X.prog X.w _ h' _ (.lst ys) from ⟨hz,its,c',r',e⟩),rfl,q _ (I.hok.fresh (Nat.le_refl _))⟩
 rcases hq with hq|hq
 ·obtain⟨its,r',pl,hz⟩:=I.list hq
  have hlen:=r'.length
  obtain⟨o,ho,hc,n,hd⟩:=pl.isList
  exact call_list_seq p (.inl rfl) ho hc hd (fun h' c' kp e=>fin its r' hz h' c' kp e) (by simp only [List.size_toArray]<;>omega)
 ·obtain⟨its,r',pl,hz⟩:=I.tuple hq
  have hlen:=r'.length
  obtain⟨o,ho,hc,n,hd⟩:=pl
  exact call_list_seq p (.inr rfl) ho hc hd (fun h' c' kp e=>fin its r' hz h' c' kp e) (by simp only [List.size_toArray]<;>omega)
def tyV(K:PySem.W.Frag)(T:String)(x:V)(H:Hp):Prop:=match x with
 | .str _=>T = "str"
 | .int _=>T = "int"
 | .ref p=>(T = "list" ∧ ∃ xs,SqL K H p xs)∨(T = "tuple" ∧ ∃ o,K.lookup p=some o∧o.cls=.type "tuple" ∧ o.dict=none) ∨
   (T = "dict" ∧ ((∃ kvs,H p=some (.dK kvs))∨∃ kvs,H p=some (.dT kvs)))∨(T = "set" ∧ ∃ S n,H p=some (.set S n))
 | _=>False
theorem tyV_is{pins:List (Addr × Obj)}{σ:St}{H:Hp}{s:Shared}{T:String}{x:V}{v:Value}(I:Inv X pins σ H s)(r:RelV x v)(ty:tyV X.K T x H) :
  s.TypeIs v T∧∀ a,v=.ref a->∃ ob,s.heap.get? a=some ob∧ob.dict=none:=by
 cases x with
 | str z=>
  obtain⟨t,rfl⟩:=r
  cases (show T = "str" from ty)
  exact⟨typeIs_str s z t,fun _ e=>nomatch e⟩
 | int i=>
  obtain⟨t,rfl⟩:=r
  cases (show T = "int" from ty)
  exact⟨typeIs_int s i t,fun _ e=>nomatch e⟩
 | ref p=>
  cases r
  rcases ty with ⟨rfl,xs,hq⟩|⟨rfl,o,hk,hc,hd⟩|⟨rfl,hk⟩|⟨rfl,S,n,hk⟩
  ·obtain⟨its,_,pl,_⟩:=I.list hq
   refine⟨pl.isList.typeIs,fun a e=>?_⟩
   cases e
   obtain⟨o,n,e,c,hd,_⟩:=pl
   exact⟨o,e,hd⟩
  ·refine⟨⟨o,I.kIn p o hk,hc⟩,fun a e=>?_⟩
   cases e
   exact⟨o,I.kIn _ o hk,hd⟩
  ·have z:∃ o,s.heap.get? p=some o∧o.ExactDict:=by
    rcases hk with ⟨kvs,hk⟩|⟨kvs,hk⟩
    ·obtain⟨_,_,_,_,o,_,_,e,ex,_⟩:=I.hok p _ hk
     exact⟨o,e,ex⟩
    ·obtain⟨_,_,_,_,o,_,_,e,ex,_⟩:=I.hok p _ hk
     exact⟨o,e,ex⟩
   obtain⟨o,e,ex⟩:=z
   refine⟨⟨o,e,ex.1⟩,fun a e2=>?_⟩
   cases e2
   exact⟨o,e,ex.2.1⟩
  ·obtain⟨o,_,_,_,e,ex,_⟩:=I.hok p _ hk
   refine⟨⟨o,e,ex.1⟩,fun a e2=>?_⟩
   cases e2
   exact⟨o,e,ex.2.1⟩
 | _=>exact False.elim ty
def tBM0(K:PySem.W.Frag)(T:String)(r:V->List V->Hp->VK->Prop)(to:TE):TE:=fun σ H Q=>to σ H fun x H1=>tyV K T x H1∧r x [] H1 Q
def tBM(K:PySem.W.Frag)(T:String)(r:V->List V->Hp->VK->Prop)(to:TE)(t:TA):TE:=fun σ H Q=>to σ H fun x H1=>tyV K T x H1∧t σ H1 fun xs H2=>r x xs H2 Q
variable {o e:Expr}{es:List Expr}{to:TE}{t:TA}{name:Str}{apos cpos:Pos}{T id:String}{r:V->List V->Hp->VK->Prop}
theorem pe_bm0(pa:PlainAttrs T)(slot:Slot T name id)(hty:typeOf (.builtin id)=pure (.type "method_descriptor"))(hm:MtR X id r)(ho:PE X o to)
  (hbase:attributeBase o name X.env (eval o X.env)=eval o X.env:=by rfl) (hline:(apos.endLine == cpos.line)=true:=by rfl):PE X (.Call (.Attribute o name apos) [] [] cpos) (tBM0 X.K T r to):=by
 intro pins s σ H Q I h
 refine wpAny_Call_method0_late hbase hline (thn (ho pins s σ H _ I h) fun v s1 ⟨x,H1,I1,r1,ty,q1⟩=>?_)
 obtain⟨h1,h2⟩:=tyV_is I1 r1 ty
 exact⟨T,id,pa,slot,hty,h1,h2,Calls.callWith_builtin rfl (PySem.evalArgs_none (hm pins s1 σ H1 x [] v [] Q I1 r1 .nil q1))⟩
theorem pe_bm(pa:PlainAttrs T)(slot:Slot T name id)(hty:typeOf (.builtin id)=pure (.type "method_descriptor"))(hm:MtR X id r)(ho:PE X o to)(ha:PA X (e::es) t)
  (hbase:attributeBase o name X.env (eval o X.env)=eval o X.env:=by rfl)
  (hfew:((backTo cpos (starEach (e::es) X.env)).all (fun x=>!x.1) && (backToKw cpos (keywordEach [] X.env)).all (fun x=>x.1.isSome)
   && decide ((e::es).length+([]:List Keyword).length+(if ([]:List Keyword).isEmpty then 0 else 1) < 30))=true:=by rfl)
  (hline:(apos.endLine == cpos.line)=true:=by rfl) (hs:starEach (e::es) X.env=(false,eval e X.env)::starEach es X.env:=by rfl) (hplain:(backTo cpos (starEach es X.env)).any (·.1)=false:=by rfl) :
  PE X (.Call (.Attribute o name apos) (e::es) [] cpos) (tBM X.K T r to t):=by
 intro pins s σ H Q I h
 refine wpAny_Call_method_late hbase hfew hline rfl (thn (ho pins s σ H _ I h) fun v s1 ⟨x,H1,I1,r1,ty,q1⟩=>?_)
 obtain⟨h1,h2⟩:=tyV_is I1 r1 ty
 refine⟨T,id,pa,slot,hty,h1,h2,?_⟩
 have hA:=ha cpos pins s1 σ H1 _ I1 q1
 rw [hs] at hA ⊢
 refine Calls.callWith_builtin (by show (false || (backTo cpos (starEach es X.env)).any (·.1))=false;rw [hplain]<;>rfl) (Calls.evalArgs_plain ?_)
 exact thn hA fun us s2 ⟨vs,H2,I2,r2,q2⟩=>hm pins s2 σ H2 x vs v us Q I2 r1 r2 q2
/- xs.append(e),list.index on a module's tuple .. are MtR facts of 06m -/
end
end L2
namespace L2
open PySem PySem.Spec PyProof.Rows
def MtM(X:Cx)(id:String)(r:V->List V->Hp->VK->Prop):Prop:=
 ∀ (pins:List (Addr × Obj)) (s:Shared) (σ:St) (H:Hp) (x:V) (xs:List V) (v:Value) (us:List Value) (Q:VK),Inv X pins σ H s->RelV x v->Vals xs us->r x xs H Q →
  wpAny (model X.prog X.w) X.A (call (.builtin id) (v::us)) (EP X pins σ Q) X.xe s
theorem Vals.one:∀ {x:V}{us:List Value},Vals [x] us->∃ u,us=[u]∧RelV x u
 | _,_,.cons r .nil=>⟨_,rfl,r⟩
theorem Vals.zero:∀ {us:List Value},Vals [] us->us=[]
 | _,.nil=>rfl
theorem Vals.dropLast{xs:List V}{us:List Value}(h:Vals xs us):Vals xs.dropLast us.dropLast:=by
 induction h with
 | nil=>exact .nil
 | cons r t ih=>
  cases t with
  | nil=>exact .nil
  | cons q t'=>exact .cons r ih
theorem Vals.rep{xs:List V}{us:List Value}(h:Vals xs us):∀ k:Nat,Vals (List.replicate k xs).flatten (List.replicate k us).flatten
 | 0=>.nil
 | k+1=>by
  rw [List.replicate_succ,List.replicate_succ,List.flatten_cons,List.flatten_cons]
  exact Vals.append h (Vals.rep h k)
theorem erase_last{α:Type}(l:List α):l.eraseIdx (l.length - 1)=l.dropLast:=by
 induction l with
 | nil=>rfl
 | cons a r ih=>
  cases r with
  | nil=>rfl
  | cons b r=>
   have e:(a::b::r).length - 1=((b::r).length - 1)+1:=by
    have h1:(a::b::r).length=r.length+2:=rfl
    have h2:(b::r).length=r.length+1:=rfl
    omega
   rw [e,List.eraseIdx_cons_succ,ih]
   all_goals rfl
theorem foldl_rep(its:List Value):∀ (k:Nat) (acc:List Value),
  List.foldl (fun x1 x2=>x1++x2) acc.toArray (List.replicate k its.toArray)=(acc++(List.replicate k its).flatten).toArray
 | 0,acc=>by simp
 | k+1,acc=>by
  have e:acc.toArray++its.toArray=(acc++its).toArray:=by simp
  have e2:(acc++its)++(List.replicate k its).flatten=acc++(List.replicate (k+1) its).flatten:=by
   rw [List.replicate_succ,List.flatten_cons,List.append_assoc]
  rw [←e2,←foldl_rep its k (acc++its),←e,List.replicate_succ,List.foldl_cons]
section
variable {X:Cx}{pins:List (Addr × Obj)}{σ:St}{H:Hp}{s:Shared}{l b:Addr}{xs ys zs:List V}
theorem Inv.lset{its its':List Value}{n:Nat}{f:Array Value->Array Value}{t':Nat}(I:Inv X pins σ H s)(hH:H l=some (.lst xs))
  (e:s.heap.get? l=some { cls:=.type "list",data:=.seq its.toArray n }) (hf:f its.toArray=its'.toArray) (hv:Vals ys its') (hz:ys.length≤sizeLine) :
  Inv X pins σ (upd H l (.lst ys)) { s with heap:=s.heap.update l (Obj.mapSeq f),toks:=t' }:=by
 have q:=PySem.IsL.update e f
 rw [hf] at q
 refine I.write (x:=l) (e:=l) (by rw [hH];exact trivial) (.inl rfl) (fun b' u hb hu=>(Heap.get?_update_other s.heap (Obj.mapSeq f) (Ne.symm hb)).trans hu) ⟨_,q⟩ ?_
 exact⟨hz,its',_,hv,q⟩
theorem Inv.lnew{its:List Value}{t':Nat}(I:Inv X pins σ H s)(hv:Vals ys its)(hz:ys.length≤sizeLine) :
  Inv X pins σ (upd H s.heap.objs.size (.lst ys)) { s with heap:=s.heap.push { cls:=.type "list",data:=.seq its.toArray },toks:=t' }:=
 I.laid (fun _ _ q=>Heap.get?_push_of_some _ q) (Nat.le_refl _) ⟨hz,its,0,hv,Heap.get?_push_size _ rfl⟩
theorem Inv.fresh(I:Inv X pins σ H s):H s.heap.objs.size=none:=I.hok.fresh (Nat.le_refl _)
theorem Inv.lstM(I:Inv X pins σ H s)(hH:H l=some (.lst xs)):xs.length≤sizeLine∧∃ (its:List Value) (n:Nat),Vals xs its∧xs.length=its.length∧s.heap.get? l=some { cls:=.type "list",data:=.seq its.toArray n }:=by
 obtain⟨z,its,n,r,e⟩:=I.hok l _ hH
 exact⟨z,its,n,r,r.length,e⟩
theorem notLongL{n:Nat}(h:n≤sizeLine):Builtin.List.listTooLong n=false:=by
 unfold Builtin.List.listTooLong
 exact decide_eq_false (by omega)
end
section
variable {X:Cx}
def rAppend:V->List V->Hp->VK->Prop:=fun x vs H Q=>∃ l xs y,x=.ref l∧vs=[y]∧H l=some (.lst xs)∧xs.length < sizeLine∧Q .non (upd H l (.lst (xs++[y])))
theorem mt_append:MtM X "list.append" rAppend:=by
 intro pins s σ H x vs v us Q I rx rv h
 obtain⟨l,xs,y,rfl,rfl,hH,hz,q⟩:=h
 cases rx
 obtain⟨u,rfl,ru⟩:=rv.one
 obtain⟨z,its,n,r,hl,e⟩:=I.lstM hH
 refine call_meets F.slot_list_append ⟨_,e,rfl⟩ F.entry_list_append (F.args_list_append_2 _ _) (PySem.list_append l its.toArray n u (by rw [List.size_toArray];omega)) ⟨e,?_⟩
 refine⟨.non,_,I.lset (its':=its++[u]) hH e (by simp) (r.append (.cons ru .nil)) ?_,rfl,q⟩
 rw [List.length_append,List.length_singleton]
 omega
def rPop:V->List V->Hp->VK->Prop:=fun x vs H Q=>∃ l xs y,x=.ref l∧vs=[]∧H l=some (.lst xs)∧xs[xs.length - 1]? = some y∧Q y (upd H l (.lst xs.dropLast))
theorem mt_pop:MtM X "list.pop" rPop:=by
 intro pins s σ H x vs v us Q I rx rv h
 obtain⟨l,xs,y,rfl,rfl,hH,hy,q⟩:=h
 cases rx
 have hus:=rv.zero
 subst hus
 obtain⟨z,its,n,r,hl,e⟩:=I.lstM hH
 obtain⟨u,hu,ru⟩:=r.get hy
 have hy':its.toArray[its.toArray.size - 1]? = some u:=by
  show its.toArray[its.length - 1]? = some u
  rw [←Array.getElem?_toList,←hl]
  exact hu
 refine call_meets F.slot_list_pop ⟨_,e,rfl⟩ F.entry_list_pop (F.args_list_pop_1 _) (MeetsSeq.list_pop_last l its.toArray n u hy' (by rw [List.size_toArray];omega)) ⟨e,?_⟩
 refine⟨y,_,I.lset (its':=its.dropLast) hH e ?_ r.dropLast ?_,ru,q⟩
 ·show its.toArray.eraseIdxIfInBounds (its.toArray.size - 1)=its.dropLast.toArray
  rw [List.size_toArray,List.eraseIdxIfInBounds_toArray,erase_last]
 ·rw [List.length_dropLast]
  omega
def rCat:R2:=fun x y H Q=>∃ l b xs zs,x=.ref l∧y=.ref b∧H l=some (.lst xs)∧H b=some (.lst zs)∧xs.length+zs.length≤sizeLine∧∀ p,H p=none->Q (.ref p) (upd H p (.lst (xs++zs)))
theorem op_cat:OpR X (binaryOp .Add) rCat:=by
 intro pins s σ H x y v u Q I rx ry h
 obtain⟨l,b,xs,zs,rfl,rfl,hH,hB,hz,q⟩:=h
 cases rx
 cases ry
 obtain⟨z,its,n,r,hl,e⟩:=I.lstM hH
 obtain⟨z2,its2,n2,r2,hl2,e2⟩:=I.lstM hB
 refine PySem.P.add_list e e2 ?_ (by rw [List.size_toArray,List.size_toArray];omega)
 have ea:its.toArray++its2.toArray=(its++its2).toArray:=by simp
 rw [ea]
 exact⟨.ref _,_,I.lnew (t':=s.toks) (r.append r2) (by rw [List.length_append];omega),rfl,q _ I.fresh⟩
def rRep:R2:=fun x y H Q=>∃ l k xs,x=.ref l∧y=.int k∧H l=some (.lst xs)∧-(2 ^ 63)≤k∧k < 2 ^ 63∧xs.length * k.toNat≤sizeLine ∧
 ∀ p,H p=none->Q (.ref p) (upd H p (.lst (List.replicate k.toNat xs).flatten))
theorem len_rep{α:Type}(xs:List α)(k:Nat):(List.replicate k xs).flatten.length=k * xs.length:=by
 induction k with
 | zero=>simp
 | succ k ih=>rw [List.replicate_succ,List.flatten_cons,List.length_append,ih,Nat.succ_mul,Nat.add_comm]
theorem op_rep:OpR X (binaryOp .Mult) rRep:=by
 intro pins s σ H x y v u Q I rx ry h
 obtain⟨l,k,xs,rfl,rfl,hH,h1,h2,hz,q⟩:=h
 cases rx
 obtain⟨t,rfl⟩:=ry
 obtain⟨z,its,n,r,hl,e⟩:=I.lstM hH
 have hlen:its.toArray.size * k.toNat≤sizeLine:=by rw [List.size_toArray,←hl];exact hz
 have hcap:¬ its.toArray.size * k.toNat > (2 ^ 63 - 1) / 8:=by
  have:(sizeLine:Nat)≤(2 ^ 63 - 1) / 8:=by decide
  omega
 have hfit:¬ (!Builtin.List.listFitsIndex k)=true:=by
  rw [fitsIndex_both h1 h2]
  exact Bool.false_ne_true
 have hlong:¬ Builtin.List.listTooLong (its.toArray.size * k.toNat)=true:=by
  rw [notLongL hlen]
  exact Bool.false_ne_true
 have hnew:List.foldl (fun x1 x2=>x1++x2) #[] (List.replicate (if its.toArray.isEmpty=true then 0 else k.toNat) its.toArray)=(List.replicate k.toNat its).flatten.toArray:=by
  have f0:∀ m:Nat,List.foldl (fun x1 x2=>x1++x2) #[] (List.replicate m its.toArray)=(List.replicate m its).flatten.toArray:=fun m=>by
   have:=foldl_rep its m []
   rw [List.nil_append] at this
   exact this
  rw [f0]
  cases its with
  | nil=>simp
  | cons a r'=>rw [if_neg (by simp)]
 refine wpAny_binaryOp_repeat_ref (T := "list") (U := "int") (by decide) ⟨_,e,rfl⟩ (fun s'=>typeIs_int s' k t) noFill_list_mul F.fills_int_mul F.slot_int_rmul repeat_list F.slot_int_index.lookup
  (call_meets F.slot_int_rmul (typeIs_int s k t) F.entry_int_rmul (F.args_int_rmul_2 _ _) (int___rmul___int_list k t l its.toArray n)
   ⟨e,rfl,⟨_,e,rfl⟩,call_meets F.slot_list_mul ⟨_,e,rfl⟩ F.entry_list_mul (F.args_list_mul_2 _ _) (AutoListH.list___mul___list_int_3 l its.toArray n k t hfit hcap hlong) ⟨e,?_⟩⟩)
 rw [hnew]
 exact⟨.ref _,_,I.lnew (t':=s.toks) (r.rep k.toNat) (by rw [len_rep,Nat.mul_comm];exact hz),rfl,q _ I.fresh⟩
end
section
variable {prog:Program}{w:World}{A:Around}{E:Value->Shared->Prop}{s:Shared}
set_option maxRecDepth 100000 in
end
section
variable {X:Cx}
end
end L2
namespace Att
open PySem PySem.W PySem.Calls PyProof.Rows
theorem ints_of_wellAll{P:Params}{h:Heap}:∀ (ns:List Int) (vs:List Value),WellAll P h vs (ns.map WData.int)->IntsAre vs ns:=by
 intro ns
 induction ns with
 | nil=>
  intro vs w
  rw [List.map_nil] at w
  cases w
  exact .nil
 | cons n ns ih=>
  intro vs w
  rw [List.map_cons] at w
  cases w with
  | cons a b=>
   cases a
   exact .cons _ _ (ih _ b)
theorem script_of{l:OpenLaw}{n:Nat}(hn:l.most=some n){P:Params}{h:Heap}{args:List WData}{vals:List Value}
  (hpre:l.row.toRowW.claim.pre args=true) (hwl:WellAll P h vals args) :
  ∃ a vs ns,vals=[Value.ref a]∧args=[WData.list (ns.map WData.int)]∧h.get? a=some { cls:=.type "list",data:=.seq vs.toArray }∧IntsAre vs ns∧ns.length≤n:=by
 have hsh:WShape.hasAll [] args [.list .int]=true:=(pre_splitW hpre).1
 have hc:l.pre.holds [] { args:=args }=true:=(pre_splitW hpre).2
 obtain⟨d,r,rfl,h1,h2⟩:=hasAllW_cons hsh
 obtain rfl:=hasAllW_nil h2
 obtain⟨xs,rfl,h3⟩:=hasW_list h1
 obtain⟨ns,rfl⟩:=items_int h3
 have hlen:ns.length≤n:=by
  unfold OpenLaw.pre at hc
  have h4:(WTm.not (.lt (.lit (.int (n:Int))) (.len (.arg 0)))).holds [] { args:=[.list (ns.map .int)] }=true:=by
   have h4:=(holds_andW hc).1
   rw [hn] at h4
   exact h4
  have h5:=condW_of h4 (w_not (w_lt w_lit (w_len_list (w_arg rfl))))
  rw [List.length_map] at h5
  refine Nat.le_of_not_lt fun q=>?_
  have q':(n:Int) < ((ns.length:Nat):Int):=by omega
  first
   | (rw [decide_eq_true q'] at h5;exact absurd h5 (by decide))
   | (simp at h5;omega)
 cases hwl with
 | cons w1 w2=>
  cases w2
  cases w1 with
  | list ho hall=>exact⟨_,_,ns,rfl,rfl,ho,ints_of_wellAll ns _ hall,hlen⟩
theorem post_true(l:OpenLaw)(args:List WData):l.row.toRowW.claim.post args (.bool true) args=true:=
 postW_of (r:=l.row.toRowW) (X:=(true == true))
  (show WShape.has [] (.bool true) .bool=true by first|rfl|decide|simp [WShape.has,WShape.arms,WShape.armsAll])
  (show (WTm.eq .res (.lit (.bool true))).value [] { args:=args,res:=some (.bool true),after:=args }=some (.bool (true == true)) from w_eq_bool (w_res rfl) w_lit) rfl
theorem attach_call{l:OpenLaw}{n:Nat}{q:Program}{loose:List Str}{XP:(Str->Option Value)->Heap->Prop}{YP:World->Heap->Prop}{d:DefRec}
  (hn:l.most=some n) (hdf:d.params.defaults=[])
  (call:∀ (w:World) (s₀ s₁:Shared) (mg mb:Str->Option Value) (fa:Addr) (o:Obj) (pm cd doc:Value) (a:Addr) (vs:List Value) (ns:List Int),
   Ground q loose [] XP w s₀ mg mb s₁.heap->YP w s₁.heap →
   s₁.heap.get? fa=some o->o.data=.func (docDef d.name d.params d.body d.scope pm cd doc)->s₁.heap.CodeRec cd d.name->mg d.name=some (.ref fa) →
   s₁.heap.get? a=some { cls:=.type "list",data:=.seq vs.toArray }->IntsAre vs ns->ns.length≤n->s₁.gens=#[] →
   codeAny (model l.prog w) callerA (.call (.ref fa) ⟨[.ref a],[]⟩) (fun r s'=>r=.ok (.ret (.bool true))∧OldK s₁.heap s'.heap∧s'.os=s₁.os∧AllBare s'.gens) s₁) :
  WalkO q loose XP YP l.row.toRowW d [] (fun f vs=>PySem.call f vs):=by
 intro w s₀ s₁ mg mb G Y fa o pm cd doc dV kV ho hd hcd hD hmg hg args vals as hpre hlay hrd hwl hlo
 obtain rfl:dV=.none:=Dflts.none hD hdf
 obtain rfl:kV=.none:=Dflts.noKw hD
 obtain⟨a,vs,ns,rfl,rfl,hobj,hints,hlen⟩:=script_of hn hpre hwl
 refine enter_call (codeAny_mono (call w s₀ s₁ mg mb fa o pm cd doc a vs ns G Y ho (fd_plain hd) hcd hmg hobj hints hlen hg) fun r s' hq=>?_)
 obtain⟨rfl,h2,h3,h4⟩:=hq
 exact⟨.inl ⟨.bool true,.bool true,[],rfl,fun _=>rfl,.bool true,post_true l _,fun _=>⟨List.Pairwise.nil,fun _ hm=>(nomatch hm)⟩⟩,h2,h3,h4⟩
section
variable {prog:Program}{w:World}{A:Around}{E:Value->Shared->Prop}{s:Shared}{K:Frag}
def ledger(h:Heap)(L d:Addr):List (Addr × Obj):=(List.range h.objs.size).filterMap fun a=>if a=L∨a=d then none else (h.get? a).map fun o=>(a,o)
end
end Att
namespace L2
open PySem PySem.Spec PyProof.Rows
theorem vals_ints:∀ {vs:List Value}{ns:List Int},IntsAre vs ns->Vals (ns.map V.int) vs
 | _,_,.nil=>.nil
 | _,_,.cons n t h=>.cons ⟨t,rfl⟩ (vals_ints h)
def Only(H:Hp):Prop:=∀ b,H b=none∨∃ o xs,H b=some (.frz o (.lst xs))
theorem law_call{P:Program}{w:World}{K:PySem.W.Frag}{mg mb:Str->Option Value}{CX:CXT}{k:Nat}{fa a:Addr}{fd:FuncData}{x:Str}{sp:Sp}{s₁:Shared}{vs:List Value}{ns:List Int}
  (KX:K.In s₁.heap) (hns:s₁.heap.Ns mainGlobals mg) (hb:s₁.heap.Ns builtinsNs mb) (hbb:∀ x:Str,x ≠ "__name__" → mb x=bootBuiltins x) (hlim:s₁.heap.NoLimit) (hg:s₁.gens=#[])
  (ha:s₁.heap.get? a=some { cls:=.type "list",data:=.seq vs.toArray }) (hi:IntsAre vs ns) (hl:ns.length≤sizeLine) (hr:Room k callerA)
  (F:∀ base:Heap,K.In base->base.Ns mainGlobals mg->FnOk P w K mg base CX k fa fd [x] sp) (hbind:∀ (s:Shared) (u:Value),BindsTo s fd ⟨[u],[]⟩ [(x,u)])
  (hsp:∀ H:Hp,Only H->SqL K H a (ns.map V.int)->sp [.ref a] H (fun v _=>v=.bl true) fun _ _ _=>False)
  (hCX:∀ H e s',CX [] H s₁ (fun _ _ _=>False) e s'->False) :
  codeAny (model P w) callerA (.call (.ref fa) ⟨[.ref a],[]⟩) (fun r s'=>r=.ok (.ret (.bool true))∧OldK s₁.heap s'.heap∧s'.os=s₁.os∧AllBare s'.gens) s₁:=by
 have rv:=vals_ints hi
 have lenV:=hi.length
 have core:∀ H:Hp,Only H->SqL K H a (ns.map V.int)->HOk P w H s₁.heap->(∀ b,H b ≠ none->b=a)->(H a ≠ none->K.lookup a=none) →
   codeAny (model P w) callerA (.call (.ref fa) ⟨[.ref a],[]⟩) (fun r s'=>r=.ok (.ret (.bool true))∧OldK s₁.heap s'.heap∧s'.os=s₁.os∧AllBare s'.gens) s₁:=by
  intro H hO hS hok hA hK
  have base_of:∀ {b:Addr} {o:Obj},s₁.heap.get? b=some o->H b=none->(hidT s₁.heap H).get? b=some o:=fun e n=>hidT_get e n
  have noA:∀ {b:Addr} {o:Obj} {es:Array DictEntry} {ep:Nat},s₁.heap.get? b=some o->o.data=.dict es ep->H b=none:=fun {b o es ep} e d=>by
   cases q:H b with
   | none=>rfl
   | some u=>
    have e':b=a:=hA b (by rw [q];simp)
    subst e'
    rw [ha] at e;cases e
    have d':Data.seq vs.toArray _=Data.dict es ep:=d
    cases d'
  have nsK:∀ {b:Addr} {m:Str->Option Value},s₁.heap.Ns b m->(hidT s₁.heap H).Ns b m:=fun {b m} ⟨o,es,ep,e,d,r⟩=>⟨o,es,ep,base_of e (noA e d),d,r⟩
  have hKb:K.In (hidT s₁.heap H):=fun b o e=>base_of (KX b o e) (by
   cases q:H b with
   | none=>rfl
   | some u=>
    have e':b=a:=hA b (by rw [q];simp)
    subst e'
    rw [hK (by rw [q];simp)] at e;cases e)
  have hM:Mod K mg (hidT s₁.heap H):=⟨hKb,nsK hns,⟨mb,nsK hb,hbb⟩,let ⟨mc,h1,h2⟩:=hlim;⟨mc,nsK h1,h2⟩⟩
  have e0:Env0 P w K mg (hidT s₁.heap H) callerA [] s₁ H:=⟨rfl,hM,fun b o e=>of_hidT e,Nat.le_of_eq (hidT_size _ _),trivial,fun b hb=>absurd (show b∈([]:List Addr) from hb) (by simp),hok,.of_eq hg⟩
  refine codeAny_mono ((F _ hKb (nsK hns)).run callerA [] s₁ H ⟨[.ref a],[]⟩ [.ref a] [.ref a] _ _ hr e0 (hbind s₁ (.ref a)) (.cons rfl .nil) (hsp H hO hS)) fun r s' h=>?_
  cases r with
  | error e=>exact(hCX H e s' h).elim
  | ok fl=>
   cases fl with
   | next=>exact False.elim h
   | brk=>exact False.elim h
   | cont=>exact False.elim h
   | ret u=>
    obtain⟨v,H',os,bare,un,hok',r',q⟩:=h
    have q':v=.bl true:=q
    subst q'
    obtain rfl:u=Value.bool true:=r'
    refine⟨rfl,OldK.of_keep fun b o e=>?_,os,bare⟩
    cases q:H b with
    | none=>exact un.keep b o e q (by intro z;exact absurd (show b∈([]:List Addr) from z) (by simp)) (by simp)
    | some u=>
     rcases hO b with z|⟨ob,xs,z⟩
     ·rw [q] at z;cases z
     ·have z2:=un.frzs b ob _ z
      obtain⟨e1,_⟩:=hok b _ z
      obtain⟨e2,_⟩:=hok' b _ z2
      rw [e] at e1;cases e1
      exact e2
 cases hk:K.lookup a with
 | some o=>
  have e:=KX a o hk
  rw [ha] at e
  cases e
  refine core (fun _=>none) (fun _=>.inl rfl) (.inr ⟨_,vs.toArray,_,hk,rfl,rfl,rfl,by rw [List.size_toArray,lenV];exact hl,by simpa using rv⟩) (fun b u z=>by have z':(none:Option HO)=some u:=z;cases z') (fun b z=>absurd rfl z) fun z=>absurd rfl z
 | none=>
  refine core (fun b=>if b=a then some (.frz { cls:=.type "list",data:=.seq vs.toArray } (.lst (ns.map V.int))) else none) (fun b=>?_) (.inl (.inr ⟨{ cls:=.type "list",data:=.seq vs.toArray },if_pos rfl⟩)) (fun b u z=>?_) (fun b z=>?_) fun _=>hk
  ·by_cases hb:b=a
   ·exact .inr ⟨_,_,if_pos hb⟩
   ·exact .inl (if_neg hb)
  ·by_cases hb:b=a
   ·have z':=(if_pos hb).symm.trans z
    cases z'
    subst hb
    exact⟨ha,by rw [List.length_map];exact hl,vs,_,rv,ha⟩
   ·have z':=(if_neg hb).symm.trans z
    cases z'
  ·by_cases hb:b=a
   ·exact hb
   ·exact absurd (if_neg hb) z
end L2
namespace L2
open PySem PySem.Spec PyProof.Rows
abbrev KOf{K:PySem.W.Frag}{h:Heap}(_:K.In h):PySem.W.Frag:=K
theorem walk_of{l:PySem.W.OpenLaw}{n k:Nat}{q:Program}{loose:List Str}{XP:(Str->Option Value)->Heap->Prop}{YP:World->Heap->Prop}{d:DefRec}{K:Params->PySem.W.Frag}{CX:World->CXT}{sp:World->Sp}{x:Str}
  (hn:l.most=some n) (hn2:n≤sizeLine) (hdf:d.params.defaults=[]) (hr:Room k callerA)
  (hY:∀ (w:World) (h:Heap),YP w h->(K w.params).In h)
  (F:∀ (w:World) (mg:Str->Option Value) (fa:Addr) (h:Heap),(K w.params).In h->h.Ns mainGlobals mg->mg d.name=some (.ref fa) →
   ∃ fd:FuncData,(∀ (s:Shared) (u:Value),BindsTo s fd ⟨[u],[]⟩ [(x,u)]) ∧
    ∀ base:Heap,(K w.params).In base->base.Ns mainGlobals mg->FnOk l.prog w (K w.params) mg base (CX w) k fa fd [x] (sp w))
  (hsp:∀ (w:World) (H:Hp) (a:Addr) (ns:List Int),ns.length≤n->Only H->SqL (K w.params) H a (ns.map V.int)->sp w [.ref a] H (fun v _=>v=.bl true) fun _ _ _=>False)
  (hCX:∀ (w:World) (H:Hp) (s:Shared) (e:Value) (s':Shared),CX w [] H s (fun _ _ _=>False) e s'->False) :
  PySem.W.WalkO q loose XP YP l.row.toRowW d [] (fun f vs=>PySem.call f vs):=by
 refine Att.attach_call hn hdf fun w s₀ s₁ mg mb fa o pm cd doc a vs ns G Y ho hd hcd hmg hobj hints hlen hg=>?_
 have KX:=hY w _ Y
 obtain⟨fd,hb,hF⟩:=F w mg fa _ KX G.T.g hmg
 exact law_call KX G.T.g G.T.b G.T.builtins G.T.nolimit hg hobj hints (Nat.le_trans hlen hn2) hr hF hb (fun H hO hS=>hsp w H a ns hlen hO hS) fun H e s'=>hCX w H s₁ e s'
end L2
/- THE LAST THEOREM (shape;LID,My.* are yours):
   My.Adr: a structure of the addresses that your layer names (classes,functions);My.Txt K t: a structure (Prop) of the equations over K;
   My.txt_mk:{K} {implicit addresses ..} (e1:nsIn K mainGlobals "law"=some (some (.ref f))) (e2:K.lookup f=some ⟨oc,od,.func (fnOf "law" "law" params body scope dV kV doc pm an cdv ct),sl⟩) (e3:codeIn K cdv "law"=true) ..:∃ t,My.Txt K t
set_option maxRecDepth 100000 in
set_option maxHeartbeats 0 in
theorem PySem.Challenge.cw_LID_holds : PySem.Challenge.rw_LID.Holds := by
 w_on;o_law;k_head;(case hw=>w_witness2)
 k_fill
 refine L2.walk_of (l:=PySem.Challenge.rw_LID) (n:=63) (k:=40) (x := "script") (CX:=fun w=>..) (sp:=fun _=>My.sp_law) rfl (by decide) rfl ⟨rfl,by decide,by decide⟩ (fun w h Y=>PySem.W.kIn_of Y) ?F ?S ?C
 case F=>
  intro w mg fa h KX G hmg
  have T:∃ t,My.Txt (L2.KOf KX) t:=by
   dsimp only [L2.KOf]                          -- K must stand as «<heap const> w.params» for k_is
   refine' My.txt_mk ?e1 ?e2 ?e3 ..
   (case e1=>PySem.W.k_is)                    -- in the order: a name -> its address -> its object -> its parts
   (case e2=>PySem.W.k_is)
   ..
  obtain⟨t,T⟩:=T
  have e0:=hmg.symm.trans (PySem.W.mg_of KX G T.law)
  cases e0                                       -- fa is the law's own address
  exact⟨_,fun s u=>.of_eq rfl,fun base kb nb=>My.law_fn T kb nb⟩     -- if «.of_eq rfl» comes too early: refine' ⟨_,?b,fun base kb nb=>My.law_fn T kb nb⟩;exact fun s u=>.of_eq rfl
 case S=>exact fun w H a ns hl hO hS=>..
 case C=>exact ..
(the tactic k_is has no namespace: write k_is) -/
namespace L2
open PySem PySem.Spec PyProof.Rows
def inClass(s:Stmt)(j:Nat):Stmt:=match s with
 | .ClassDef _ _ _ body _ _ _ _ _ _ _=>body.getD j (.Pass ⟨0,0,0,0⟩)
 | _=>.Pass ⟨0,0,0,0⟩
def defArgs(s:Stmt):Arguments:=match s with
 | .FunctionDef _ a _ _ _ _ _ _ _ _=>a
 | _=>{ posonlyargs:=[],args:=[],vararg:=none,kwonlyargs:=[],kw_defaults:=[],kwarg:=none,defaults:=[] }
def defBody(s:Stmt):List Stmt:=match s with
 | .FunctionDef _ _ b _ _ _ _ _ _ _=>b
 | _=>[]
def defScope(s:Stmt):Scope:=match s with
 | .FunctionDef _ _ _ _ _ _ sc _ _ _=>sc
 | _=>{ kind:=.function,names:=[],isGenerator:=false,isCoroutine:=false }
abbrev CX0:CXT:=fun _ _ _ _ _ _=>False
abbrev E0:XK:=fun _ _ _=>False
theorem pass0{X:Cx}:Passes CX0 X E0:=fun _ _ _ _ _ _ _ h=>h.elim
structure Fun(K:PySem.W.Frag)(x qual:Str)(st:Stmt)(f:Addr)(fd:FuncData):Prop where
 ex:∃ (oc:Value) (od:Option Addr) (kV doc pm:Value) (an:Option Addr) (cdv ct:Value) (osl:Array (Option Value)),
  fd=PySem.W.fnOf x qual (defArgs st) (defBody st) (defScope st) .none kV doc pm an cdv ct∧K.lookup f=some ⟨oc,od,.func fd,osl⟩∧PySem.W.codeIn K cdv qual=true
 kp:PySem.W.keepIn K (.ref f)=true
section
variable {P:Program}{w:World}{K:PySem.W.Frag}{mg:Str->Option Value}{base:Heap}
theorem Fun.ok{x qual:Str}{st:Stmt}{f:Addr}{fd:FuncData}{N ps:List Str}{k:Nat}{sp:Sp}(F:Fun K x qual st f fd)(S:FnScope N ps (defScope st))(len:∀ vs H Q E,sp vs H Q E->vs.length=ps.length)
  (hbody:∀ (cdv:Value) (A:Around) (outer:List Env) (s:Shared) (H:Hp) (vs:List V) (Q:VK) (E:XK),Room k (A.deeper (envOfC qual (defScope st) s.heap.objs.size f cdv))->sp vs H Q E →
   ∃ t,PSs (cxOf CX0 P w K mg base N qual (defScope st) f cdv A outer s H E).nox (defBody st) t∧t { nx:=fun _ H'=>Q .non H',rt:=Q } (start N vs) H):FnOk P w K mg base CX0 (k+1) f fd ps sp:=by
 obtain⟨oc,od,kV,doc,pm,an,cdv,ct,osl,rfl,lk,hcd⟩:=F.ex
 refine fn_of lk hcd S len fun A outer s H vs Q E hr hsp=>?_
 obtain⟨t,h,q⟩:=hbody cdv A outer s H vs Q E hr hsp
 exact⟨t,h.nox,q⟩
theorem Fun.binds{x qual:Str}{st:Stmt}{f:Addr}{fd:FuncData}{ps:List Str}(F:Fun K x qual st f fd)
  (h:∀ (kV doc pm:Value) (an:Option Addr) (cdv ct:Value) (us:List Value),us.length=ps.length->bindArgs (PySem.W.fnOf x qual (defArgs st) (defBody st) (defScope st) .none kV doc pm an cdv ct) ⟨us,[]⟩=pure (ps.zip us)):Binds K fd ps []:=by
 obtain⟨oc,od,kV,doc,pm,an,cdv,ct,osl,rfl,lk,hcd⟩:=F.ex
 exact .all (h kV doc pm an cdv ct)
theorem fun_mk{x qual:Str}{st:Stmt}{f:Addr}{oc:Value}{od an:Option Addr}{osl:Array (Option Value)}{kV doc pm cdv ct:Value}(l:K.lookup f=some ⟨oc,od,.func (PySem.W.fnOf x qual (defArgs st) (defBody st) (defScope st) .none kV doc pm an cdv ct),osl⟩)
  (c:PySem.W.codeIn K cdv qual=true) (k:PySem.W.keepIn K (.ref f)=true):Fun K x qual st f (PySem.W.fnOf x qual (defArgs st) (defBody st) (defScope st) .none kV doc pm an cdv ct):=⟨⟨oc,od,kV,doc,pm,an,cdv,ct,osl,rfl,l,c⟩,k⟩
end
theorem small1000{n:Nat}(h:n≤1000):n < sizeLine:=Nat.lt_of_le_of_lt h (by decide)
section
variable {X:Cx}
theorem pv(i:Nat){x:Str}{pos:Pos}(hN:X.N[i]? = some x:=by rfl)(hv:Vis X.env.scope x:=by first|exact Or.inl rfl|exact Or.inr (Or.inl rfl)|exact Or.inr (Or.inr rfl))(hd:(x == ("__debug__":Str))=false:=by decide)
  (hcd:(x == ("__classdict__":Str))=false:=by decide):PE X (.Name x pos) (tVar i):=pe_var hN hv hd hcd
end
theorem ite2{c A B:Prop}[Decidable c](h1:c->A)(h2:¬ c->B):if c then A else B:=by
 by_cases h:c
 ·rw [if_pos h]
  exact h1 h
 ·rw [if_neg h]
  exact h2 h
def Same(H H':Hp):Prop:=∀ b o,H b=some o->H' b=some o
theorem Same.refl(H:Hp):Same H H:=fun _ _ h=>h
theorem Same.trans{H H1 H2:Hp}(a:Same H H1)(b:Same H1 H2):Same H H2:=fun c o h=>b c o (a c o h)
theorem Same.free{H H':Hp}(e:Same H H'){l:Addr}(h:H' l=Option.none):H l=Option.none:=by
 cases q:H l with
 | none=>rfl
 | some o=>
  rw [e l o q] at h
  cases h
theorem Same.seq{K:PySem.W.Frag}{H H':Hp}{a:Addr}{xs:List V}(e:Same H H')(h:SqL K H a xs):SqL K H' a xs:=by
 rcases h with (h|⟨o,h⟩)|h
 ·exact .inl (.inl (e _ _ h))
 ·exact .inl (.inr ⟨o,e _ _ h⟩)
 ·exact .inr h
end L2
set_option Elab.async false
set_option linter.all false
set_option maxRecDepth 100000
set_option maxHeartbeats 4000000
set_option Elab.async false
set_option linter.all false
set_option maxRecDepth 100000
namespace L2
open PySem PySem.Spec PyProof.Rows
section
variable {κ:Type}[DecidableEq κ]
def valV(kvs:List (κ × V))(k:κ):Option V:=(kvs.find? fun kv=>decide (kv.1=k)).map (·.2)
def putK(kvs:List (κ × V))(k:κ)(v:V):List (κ × V):=
 if (kvs.any fun kv=>decide (kv.1=k))=true then kvs.map (fun kv=>if kv.1=k then (kv.1,v) else kv) else kvs++[(k,v)]
theorem valV_pos{p:κ × V}{r:List (κ × V)}{k:κ}(e:p.1=k):valV (p::r) k=some p.2:=by simp [valV,List.find?_cons,e]
theorem valV_neg{p:κ × V}{r:List (κ × V)}{k:κ}(e:¬ p.1=k):valV (p::r) k=valV r k:=by simp [valV,List.find?_cons,e]
theorem RelO.isSome_eq{o:Option V}{u:Option Value}(r:RelO o u):o.isSome=u.isSome:=by
 cases o with
 | none=>cases u with
  | none=>rfl
  | some _=>exact(show False from r).elim
 | some _=>cases u with
  | none=>exact(show False from r).elim
  | some _=>rfl
theorem KV.val{kvs:List (κ × V)}{vs:List (κ × Value)}(r:KV kvs vs)(k:κ):RelO (valV kvs k) (valueAt vs k):=by
 unfold KV at r
 induction r with
 | nil=>exact True.intro
 | @cons p q ps qs h t ih=>
  obtain⟨h1,h2⟩:=h
  by_cases e:p.1=k
  ·have e':q.1=k:=h1.symm.trans e
   have b:valueAt (q::qs) k=some q.2:=by simp [valueAt,List.find?_cons,e']
   rw [valV_pos e,b];exact h2
  ·have e':¬ q.1=k:=fun z=>e (h1.trans z)
   have b:valueAt (q::qs) k=valueAt qs k:=by simp [valueAt,List.find?_cons,e']
   rw [valV_neg e,b];exact ih
theorem KV.any{kvs:List (κ × V)}{vs:List (κ × Value)}(r:KV kvs vs)(k:κ):(kvs.any fun kv=>decide (kv.1=k))=vs.any fun kv=>decide (kv.1=k):=by
 unfold KV at r
 induction r with
 | nil=>rfl
 | cons h t ih=>rw [List.any_cons,List.any_cons,ih,h.1]
theorem KV.repl{kvs:List (κ × V)}{vs:List (κ × Value)}(r:KV kvs vs)(k:κ){y:V}{u:Value}(ry:RelV y u) :
  KV (kvs.map fun kv=>if kv.1=k then (kv.1,y) else kv) (vs.map fun kv=>if kv.1=k then (kv.1,u) else kv):=by
 unfold KV at r ⊢
 induction r with
 | nil=>exact .nil
 | @cons p q ps qs h t ih=>
  rw [List.map_cons,List.map_cons]
  refine .cons ?_ ih
  obtain⟨h1,h2⟩:=h
  by_cases e:p.1=k
  ·rw [if_pos e,if_pos (h1.symm.trans e)];exact⟨h1,ry⟩
  ·rw [if_neg e,if_neg (fun z=>e (h1.trans z))];exact⟨h1,h2⟩
theorem KV.put{kvs:List (κ × V)}{vs:List (κ × Value)}(r:KV kvs vs)(k:κ){y:V}{u:Value}(ry:RelV y u):KV (putK kvs k y) (stored vs k u):=by
 unfold putK stored
 rw [r.any k]
 by_cases e:(vs.any fun kv=>decide (kv.1=k))=true
 ·rw [if_pos e,if_pos e];exact r.repl k ry
 ·rw [if_neg e,if_neg e];exact Paired.snoc r ⟨rfl,ry⟩
end
theorem kV_is{P:Program}{w:World}{k:Key}{u:Value}(r:RelV (kV k) u):(mixKind P w).is k u=true:=by
 cases k with
 | inl i=>obtain⟨t,e⟩:=(show ∃ t,u=Value.int i t from r);subst e;exact mixKind_int P w i t
 | inr x=>obtain⟨t,e⟩:=(show ∃ t,u=Value.str x t from r);subst e;exact mixKind_str P w x t
section
variable {P:Program}{w:World}{H:Hp}{h:Heap}{a:Addr}
theorem rd_of{u:HO}(ok:HOk P w H h)(e:Rd H a u):ObjOk P w H h a u:=e.ok ok
theorem dk_rd{kvs:List (Key × V)}(ok:HOk P w H h)(e:Rd H a (.dK kvs)):kvs.length≤sizeLine∧(a == sysModules)=false∧∃ vs,KV kvs vs∧h.DictOf (mixKind P w) a vs:=
 show ObjOk P w H h a (.dK kvs) from rd_of ok e
theorem dk_of{kvs:List (Key × V)}(ok:HOk P w H h)(e:H a=some (.dK kvs)):kvs.length≤sizeLine∧(a == sysModules)=false∧∃ vs,KV kvs vs∧h.DictOf (mixKind P w) a vs:=dk_rd ok (.inl e)
end
section
variable {X:Cx}{pins:List (Addr × Obj)}{σ:St}{H:Hp}{s:Shared}{a:Addr}{y v:V}{u r:Value}{o:Option V}{A:Around}{E:Value->Shared->Prop}
theorem Inv.big(I:Inv X pins σ H s):sysModules < s.heap.objs.size:=by
 have h:mainGlobals < s.heap.objs.size:=(I.mod.glob.keeps I.bk).lt
 exact Nat.lt_trans (by decide) h
theorem d_write{h':Heap}{t':Nat}{ob:HO}(I:Inv X pins σ H s)(mu:Mut (H a))(hs:Heap.SameBut a s.heap h')(he:∃ q,h'.get? a=some q)(new:ObjOk X.prog X.w (upd H a ob) h' a ob) :
  Inv X pins σ (upd H a ob) { s with heap:=h',toks:=t' }:=
 I.write (x:=a) (e:=a) mu (.inl rfl) (fun b q hb z=>(hs.2 b hb).trans z) he new
theorem dk_new{P:Program}{w:World}{H':Hp}{h':Heap}{kvs:List (Key × V)}{vs:List (Key × Value)}(z:kvs.length≤sizeLine)(hd:(a == sysModules)=false)(rel:KV kvs vs)(dd:h'.DictOf (mixKind P w) a vs) :
  ObjOk P w H' h' a (.dK kvs):=⟨z,hd,vs,rel,dd⟩
end
section
variable {X:Cx}{pins:List (Addr × Obj)}{σ:St}{H:Hp}{s:Shared}{a:Addr}{kvs:List (Key × V)}{k:Key}{u:Value}{A:Around}{E:Value->Shared->Prop}
end
def NoSl(i:Expr):Prop:=∀ ov iv,subscripted i false ov iv=operate [ov,iv] (getItem ov iv)
theorem subD_of{prog:Program}{w:World}{A:Around}{E:Value->Shared->Prop}{s:Shared}{env:Env}{value slice:Expr}{pos:Pos}{T id:String}{Q:Value->Shared->Prop}
  (hl:typeLookup (.type T) "__getitem__"=pure (some (.builtin id))) (hs:NoSl slice)
  (h:wpAny (model prog w) A (eval value env) (fun o s₁=>wpAny (model prog w) A (eval slice env) (fun i s₂=>s₂.TypeIs o T∧wpAny (model prog w) A (getItem o i) Q E s₂) E s₁) E s) :
  wpAny (model prog w) A (eval (.Subscript value slice pos) env) Q E s:=by
 refine Subscript_ (wpAny_mono h (fun o s₁ h₁=>wpAny_mono h₁ (fun i s₂ h₂=>?_) fun _ _ x=>x) fun _ _ x=>x)
 obtain⟨hT,h₂⟩:=h₂
 unfold subscriptTail
 refine wpAny_bind ?_
 rw [getitemInPython_of_ne hT.not_modules]
 refine wpAny_bind (wpAny_specialOf hT hl ?_)
 have fin:wpAny (model prog w) A (subscripted slice false o i) (fun r s₃=>wpAny (model prog w) A (letTemporaryGo value o r >>= fun _=>pure r) Q E s₃) E s₂:=by
  rw [hs o i]
  exact wpAny_operating (wpAny_mono h₂ (fun r s₃ h₃=>wpAny_bind (wpAny_letTemporaryGo (wpAny_pure h₃))) fun _ _ x=>x)
 first
  | exact wpAny_pure (wpAny_bind fin)
  | exact wpAny_bind (wpAny_pure (wpAny_bind fin))
  | exact wpAny_bind fin
section
variable {X:Cx}{o i e value:Expr}{pos pos' tpos:Pos}{td ty tv:TE}
end
theorem dk_empty{P:Program}{w:World}{H:Hp}(h:Heap)(hb:sysModules < h.objs.size):ObjOk P w H (h.push { cls:=.type "dict",data:=.dict #[] }) h.objs.size (.dK []):=
 ⟨Nat.zero_le _,beq_eq_false_iff_ne.mpr (Ne.symm (Nat.ne_of_lt hb)),[],.nil,Heap.DictOf.new h⟩
def tDNewK:TE:=fun _ H Q=>∀ p,H p=none->Q (.ref p) (upd H p (.dK []))
section
variable {X:Cx}{pos:Pos}
theorem pe_dnewK:PE X (.Dict [] [] pos) tDNewK:=fun pins s σ H Q I h=>
 wpAny_Dict_empty ⟨.ref s.heap.objs.size,_,I.laid (a:=s.heap.objs.size) (o:=.dK []) (t':=s.toks) (fun _ _ q=>Heap.get?_push_of_some _ q) (Nat.le_refl _) (dk_empty s.heap I.big),rfl,h _ (I.hok.fresh (Nat.le_refl _))⟩
end
structure M2(X:Cx)(o:Expr)(m:Str)(apos:Pos)(e f:Expr)(cpos:Pos):Prop where
 base:attributeBase o m X.env (eval o X.env)=eval o X.env
 few:((backTo cpos (starEach [e,f] X.env)).all (fun x=>!x.1) && (backToKw cpos (keywordEach [] X.env)).all (fun x=>x.1.isSome)
  && decide (([e,f]:List Expr).length+([]:List Keyword).length+(if ([]:List Keyword).isEmpty then 0 else 1) < 30))=true
 line:(apos.endLine == cpos.line)=true
 trees:backTo cpos (starEach [e,f] X.env)=[(false,eval e X.env),(false,eval f X.env)]
section
variable {X:Cx}{pins:List (Addr × Obj)}{σ:St}{H:Hp}{s:Shared}{a:Addr}{y d:V}{u r:Value}{o:Option V}{A:Around}{E:Value->Shared->Prop}
end
section
variable {X:Cx}{o e f:Expr}{apos cpos:Pos}{td ty tx:TE}
end
section
variable {X:Cx}{pins:List (Addr × Obj)}{σ:St}{H:Hp}{s:Shared}{a:Addr}{kvs:List (Key × V)}{A:Around}{E:Value->Shared->Prop}
end
section
variable {X:Cx}{pins:List (Addr × Obj)}{σ:St}{H:Hp}{s:Shared}{a:Addr}{y:V}{u:Value}{A:Around}{E:Value->Shared->Prop}
end
end L2
namespace L2
open PySem PySem.Spec PyProof.Rows
section
variable {κ:Type}[DecidableEq κ]
end
end L2
set_option Elab.async false
set_option linter.all false
set_option maxRecDepth 100000
set_option maxHeartbeats 4000000
namespace L2
open PySem PySem.Spec PyProof.Rows
section
variable {X:Cx}
theorem call_isi:CallR X (.builtin "isinstance") (fun xs H Q=>∃ x n ty b,xs=[x,.ty n]∧TyOf X.K H x ty∧PySem.W.kitOne X.K ty (.type n)=some b∧Q (.bl b) H):=by
 intro pins s σ H xs us Q I r h
 obtain⟨x,n,ty,b,rfl,hty,hk,q⟩:=h
 obtain⟨u,w',rfl,rx,rc⟩:=vals2 r
 cases (show w'=Value.type n from rc)
 exact isinst_ok I rx hty hk (fun tk=>⟨.bl b,H,I.tok _,rfl,q⟩)
theorem kitOne_ty(K:PySem.W.Frag)(A B:String)(r:Bool)
  (h:(if (Value.type A == Value.type B)=true then some true else if PySem.W.kitMeta B=true then (fastBuiltinMro A).map (·.contains (.type B)) else none)=some r):PySem.W.kitOne K (.type A) (.type B)=some r:=h
mutual
inductive DatV (K:PySem.W.Frag) (H:Hp):V->PyData->Prop
 | non:DatV K H .non .none
 | bl (b:Bool):DatV K H (.bl b) (.bool b)
 | int (i:Int):DatV K H (.int i) (.int i)
 | str (x:Str):DatV K H (.str x) (.str x)
 | lst {a:Addr} {xs:List V} {ds:List PyData} (h:SqL K H a xs) (r:DatVs K H xs ds):DatV K H (.ref a) (.list ds)
 | tup {a:Addr} {xs:List V} {ds:List PyData} (h:SqT K H a xs) (r:DatVs K H xs ds):DatV K H (.ref a) (.tuple ds)
inductive DatVs (K:PySem.W.Frag) (H:Hp):List V->List PyData->Prop
 | nil:DatVs K H [] []
 | cons {x:V} {d:PyData} {xs:List V} {ds:List PyData} (h:DatV K H x d) (t:DatVs K H xs ds):DatVs K H (x::xs) (d::ds)
end
mutual
theorem DatV.reads{pins:List (Addr × Obj)}{σ:St}{H:Hp}{s:Shared}(I:Inv X pins σ H s):∀ {x:V}{d:PyData}{u:Value},DatV X.K H x d->RelV x u->∃ as,Reads s.heap u d as
 | _,_,_,.non,r=>by cases (show _=Value.none from r);exact⟨_,.none⟩
 | _,_,_,.bl b,r=>by cases (show _=Value.bool b from r);exact⟨_,.bool b⟩
 | _,_,_,.int i,r=>by obtain⟨t,rfl⟩:=r;exact⟨_,.int i t⟩
 | _,_,_,.str x,r=>by obtain⟨t,rfl⟩:=r;exact⟨_,.str x t⟩
 | _,_,_,@DatV.lst _ _ a xs ds h q,r=>by
  cases (show _=Value.ref a from r)
  obtain⟨its,hv,hp,_⟩:=I.list h
  obtain⟨o,n,e,c,_,d⟩:=hp
  obtain⟨as,z⟩:=DatVs.reads I q hv
  exact⟨_,.list e c d (by simpa using z)⟩
 | _,_,_,@DatV.tup _ _ a xs ds h q,r=>by
  cases (show _=Value.ref a from r)
  obtain⟨its,hv,hp,_⟩:=I.tuple h
  obtain⟨o,e,c,n,d⟩:=hp
  obtain⟨as,z⟩:=DatVs.reads I q hv
  exact⟨_,.tuple e c d (by simpa using z)⟩
theorem DatVs.reads{pins:List (Addr × Obj)}{σ:St}{H:Hp}{s:Shared}(I:Inv X pins σ H s):∀ {xs:List V}{ds:List PyData}{us:List Value},DatVs X.K H xs ds->Vals xs us->∃ as,ReadsAll s.heap us ds as
 | _,_,_,.nil,.nil=>⟨_,.nil⟩
 | _,_,_,.cons h t,.cons r q=>by
  obtain⟨as,z⟩:=DatV.reads I h r
  obtain⟨bs,y⟩:=DatVs.reads I t q
  exact⟨_,.cons z y⟩
end
def rEqD(K:PySem.W.Frag):R2:=fun x y H Q=>∃ d e,DatV K H x d∧DatV K H y e∧SeqAt.shaped d=true∧SeqAt.shaped e=true∧Q (.bl (PyData.eqv d e)) H
def rNeD(K:PySem.W.Frag):R2:=fun x y H Q=>∃ d e,DatV K H x d∧DatV K H y e∧SeqAt.shaped d=true∧SeqAt.shaped e=true∧Q (.bl (!PyData.eqv d e)) H
theorem op_eqD(hu:X.A.units+64 < cLine):OpR X (compareOp .Eq) (rEqD X.K):=by
 intro pins s σ H x y v u Q I rx ry h
 obtain⟨d,e,hd,he,sd,se,q⟩:=h
 obtain⟨as,z⟩:=hd.reads I rx
 obtain⟨bs,z'⟩:=he.reads I ry
 exact SeqAt.compareEq_shaped z z' sd se hu ⟨.bl _,H,I,rfl,q⟩
theorem op_neD(hu:X.A.units+64 < cLine):OpR X (compareOp .NotEq) (rNeD X.K):=by
 intro pins s σ H x y v u Q I rx ry h
 obtain⟨d,e,hd,he,sd,se,q⟩:=h
 obtain⟨as,z⟩:=hd.reads I rx
 obtain⟨bs,z'⟩:=he.reads I ry
 exact SeqAt.compareNe_shaped z z' sd se hu ⟨.bl _,H,I,rfl,q⟩
end
theorem same_upd{H:Hp}{p:Addr}{o:HO}(h:H p=none):Same H (upd H p o):=fun b u e=>by
 rw [upd_ne (ne_of_none e h)];exact e
theorem atI_lt{α:Type}(xs:List α)(i:Int)(h0:0≤i)(h1:i < xs.length):∃ v,atI xs i=some v∧v∈xs:=by
 have hl:i.toNat < xs.length:=by omega
 refine⟨xs[i.toNat],?_,List.getElem_mem hl⟩
 have e:((i.toNat:Nat):Int)=i:=by omega
 have:=atI_nat (xs:=xs) (j:=i.toNat) (v:=xs[i.toNat]) (List.getElem?_eq_getElem hl)
 rw [e] at this
 exact this
theorem atI_ints(ns:List Int)(i:Int)(h0:0≤i)(h1:i < ns.length):∃ z,atI (ns.map V.int) i=some (.int z)∧z∈ns:=by
 obtain⟨v,e,m⟩:=atI_lt (ns.map V.int) i h0 (by simpa using h1)
 obtain⟨z,hz,rfl⟩:=List.mem_map.mp m
 exact⟨z,e,hz⟩
end L2
set_option Elab.async false
set_option linter.all false
set_option maxRecDepth 100000
set_option maxHeartbeats 4000000
namespace L2
open PySem PySem.Spec PyProof.Rows
def clOf(cells:List (Str × Addr)):List (Str × NameKind)->List (Str × Addr)->List (Str × Addr)
 | [],acc=>acc
 | (n,k)::r,acc=>if (k == .free)=true then clOf cells r ((n,(cells.lookup n).getD 0)::acc) else clOf cells r acc
theorem closure_run{env:Env}:∀ (names:List (Str × NameKind)) (acc:List (Str × Addr)),(∀ y∈names,y.2=.free->∃ c,env.cells.lookup y.1=some c) →
  (forIn names acc (fun (x:Str × NameKind) (cs:List (Str × Addr))=>match x with
   | (name,kind)=>if (kind == .free)=true then (do let a ←cellOf env name;pure (ForInStep.yield ((name,a)::cs))) else (do pure PUnit.unit;pure (ForInStep.yield cs))):Sem (List (Str × Addr)))=pure (clOf env.cells names acc)
 | [],acc,_=>rfl
 | (n,k)::r,acc,h=>by
  rw [List.forIn_cons]
  have hr:∀ y∈r,y.2=.free->∃ c,env.cells.lookup y.1=some c:=fun y hy=>h y (List.mem_cons_of_mem _ hy)
  by_cases hk:(k == .free)=true
  ·obtain⟨c,hc⟩:=h (n,k) List.mem_cons_self (by simpa using hk)
   have hc':env.cells.lookup n=some c:=hc
   simp only [hk,if_true,clOf,hc',Option.getD_some]
   have e:cellOf env n=pure c:=by unfold cellOf;rw [hc']
   rw [e]
   exact closure_run r _ hr
  ·simp only [hk,if_false,clOf]
   exact closure_run r acc hr
theorem closureFor_eq{scope:Scope}{env:Env}(h:∀ y∈scope.names,y.2=.free->∃ c,env.cells.lookup y.1=some c):closureFor scope env=pure (clOf env.cells scope.names []):=by
 unfold closureFor
 have:=closure_run (env:=env) scope.names [] h
 first
  | exact(congrArg (fun m=>m >>= fun cs=>pure cs) this).trans (pure_bind _ _)
  | (simp only [] at this ⊢;rw [this];rfl)
theorem clOf_sub{cells:List (Str × Addr)}{x:Str}{c:Addr}:∀ {names:List (Str × NameKind)}{acc:List (Str × Addr)},(∀ y∈names,y.2=.free->∃ c,cells.lookup y.1=some c)->(clOf cells names acc).lookup x=some c->acc.lookup x=some c∨cells.lookup x=some c
 | [],acc,_,h=>.inl h
 | (n,k)::r,acc,hf,h=>by
  have hr:∀ y∈r,y.2=.free->∃ c,cells.lookup y.1=some c:=fun y hy=>hf y (List.mem_cons_of_mem _ hy)
  unfold clOf at h
  by_cases hk:(k == .free)=true
  ·rw [if_pos hk] at h
   rcases clOf_sub hr h with q|q
   ·rw [List.lookup_cons] at q
    cases hx:x == n with
    | true=>
     rw [hx] at q
     obtain⟨d,hd⟩:=hf (n,k) List.mem_cons_self (by simpa using hk)
     have e:x=n:=by simpa using hx
     subst e
     have hd':cells.lookup x=some d:=hd
     rw [hd'] at q ⊢
     exact .inr (by simpa using q)
    | false=>rw [hx] at q;exact .inl q
   ·exact .inr q
  ·rw [if_neg hk] at h
   exact clOf_sub hr h
theorem clOf_acc{cells:List (Str × Addr)}{x:Str}:∀ {names:List (Str × NameKind)}{acc:List (Str × Addr)},(∀ y∈names,y.2=.free->∃ c,cells.lookup y.1=some c)->(∃ c,acc.lookup x=some c)->∃ c,(clOf cells names acc).lookup x=some c
 | [],acc,_,h=>h
 | (n,k)::r,acc,hf,h=>by
  have hr:∀ y∈r,y.2=.free->∃ c,cells.lookup y.1=some c:=fun y hy=>hf y (List.mem_cons_of_mem _ hy)
  unfold clOf
  by_cases hk:(k == .free)=true
  ·rw [if_pos hk]
   refine clOf_acc hr ?_
   rw [List.lookup_cons]
   cases hx:x == n with
   | true=>exact⟨_,rfl⟩
   | false=>exact h
  ·rw [if_neg hk]
   exact clOf_acc hr h
theorem clOf_has{cells:List (Str × Addr)}{x:Str}:∀ {names:List (Str × NameKind)}{acc:List (Str × Addr)},(∀ y∈names,y.2=.free->∃ c,cells.lookup y.1=some c)->names.lookup x=some .free->∃ c,(clOf cells names acc).lookup x=some c
 | [],acc,_,h=>by simp at h
 | (n,k)::r,acc,hf,h=>by
  have hr:∀ y∈r,y.2=.free->∃ c,cells.lookup y.1=some c:=fun y hy=>hf y (List.mem_cons_of_mem _ hy)
  rw [List.lookup_cons] at h
  unfold clOf
  cases hx:x == n with
  | true=>
   rw [hx] at h
   have hk:k=.free:=by simpa using h
   subst hk
   rw [if_pos (show (NameKind.free == NameKind.free)=true from rfl)]
   refine clOf_acc hr ⟨(cells.lookup n).getD 0,?_⟩
   rw [List.lookup_cons,hx]
  | false=>
   rw [hx] at h
   by_cases hk:(k == .free)=true
   ·rw [if_pos hk];exact clOf_has hr h
   ·rw [if_neg hk];exact clOf_has hr h
theorem lookup_mem{x:Str}{k:NameKind}:∀ {names:List (Str × NameKind)},names.lookup x=some k->(x,k)∈names
 | [],h=>by simp at h
 | (n,j)::r,h=>by
  rw [List.lookup_cons] at h
  cases hx:x == n with
  | true=>
   rw [hx] at h
   have e:x=n:=by simpa using hx
   have e2:j=k:=by simpa using h
   subst e;subst e2
   exact List.mem_cons_self
  | false=>rw [hx] at h;exact List.mem_cons_of_mem _ (lookup_mem h)
theorem lookup_relabel{env:Env}{x:Str}:∀ {names:List (Str × NameKind)},
  (names.map fun (n,k)=>if (k == NameKind.free && env.scope.kind == .function && env.kindOf n == some .cell) then (n,NameKind.cell) else (n,k)).lookup x
   = (names.lookup x).map fun k=>if (k == NameKind.free && env.scope.kind == .function && env.kindOf x == some .cell) then NameKind.cell else k
 | []=>rfl
 | (n,k)::r=>by
  have ih:=@lookup_relabel env x r
  show List.lookup x ((if (k == NameKind.free && env.scope.kind == .function && env.kindOf n == some .cell)=true then (n,NameKind.cell) else (n,k))::_)=_
  cases hx:x == n with
  | true=>
   have e:x=n:=by simpa using hx
   subst e
   by_cases hc:(k == NameKind.free && env.scope.kind == .function && env.kindOf x == some .cell)=true
   ·rw [if_pos hc]
    simp only [List.lookup_cons,beq_self_eq_true,Option.map_some]
    rw [if_pos hc]
   ·rw [if_neg hc]
    simp only [List.lookup_cons,beq_self_eq_true,Option.map_some]
    rw [if_neg hc]
  | false=>
   by_cases hc:(k == NameKind.free && env.scope.kind == .function && env.kindOf n == some .cell)=true
   ·rw [if_pos hc];simp only [List.lookup_cons,hx];exact ih
   ·rw [if_neg hc];simp only [List.lookup_cons,hx];exact ih
abbrev cCx(X:Cx)(scope:Scope)(N':List Str)(C:Addr)(s₀:Shared)(H₀:Hp)(ex:List Addr)(pn:List (Addr × Obj)):Cx:=
 { X with N:=N',s₀:=s₀,H₀:=H₀,env:=compEnvC scope (clOf X.env.cells scope.names []) C X.env,outer:=X.stack,stack:=X.stack,ex:=ex,fn:=fun _=>false,pn:=pn,xe:=fun _ _=>False }
def PTs(Y:Cx)(ifs:List Expr)(t:TT):Prop:=
 ∀ (pins:List (Addr × Obj)) (s:Shared) (σ:St) (H:Hp) (Q:Bool->Hp->Prop),Inv Y pins σ H s->t σ H Q →
  wpAny (model Y.prog Y.w) Y.A (forIn ifs true fun c r=>if r=true then do let ok ←isTrue c Y.env (eval c Y.env);pure (ForInStep.yield ok) else pure (ForInStep.yield r)) (TP Y pins σ Q) Y.xe s
def tYes:TT:=fun _ H Q=>Q true H
theorem pts_nil{Y:Cx}:PTs Y [] tYes:=fun _ _ _ H _ I h=>wpAny_pure ⟨H,I,h⟩
theorem HOk.but{P:Program}{w:World}{H:Hp}{h h':Heap}{C:Addr}(ok:HOk P w H h)(hn:H C=none)(hs:Heap.SameBut C h h'):HOk P w H h':=fun b ob e=>by
 refine(ok b ob e).stay (fun c w' hc q=>(hs.2 c ?_).trans q) (fun _ q=>q) (fun _ _ q=>q) fun _ _ q=>q
 rintro rfl
 rcases hc with rfl|hc
 ·rw [hn] at e;cases e
 ·rw [hn] at hc;cases hc
theorem Un.but{fs ex:List Addr}{H H':Hp}{h h1 h2:Heap}{C:Addr}(u:Un fs ex H H' h h1)(hs:Heap.SameBut C h1 h2)(hC:∀ b o,h.get? b=some o->b ≠ C):Un fs ex H H' h h2 where
 keep:=fun b o e n hb hx=>(hs.2 b (hC b o e)).trans (u.keep b o e n hb hx)
 slot:=fun b o e n hb hx=>by
  obtain⟨sl,q⟩:=u.slot b o e n hb hx
  exact⟨sl,(hs.2 b (hC b o e)).trans q⟩
 free:=u.free
 there:=fun b o e hx=>by
  obtain⟨o',q⟩:=u.there b o e hx
  exact⟨o',(hs.2 b (hC b o e)).trans q⟩
 tups:=u.tups
 frzs:=u.frzs
 tbls:=u.tbls
section
variable {X:Cx}
def tComp(k:Nat)(wi:TI)(g:TG)(tt:TT)(te:TE):TE:=fun σ H Q=>wi σ H fun J H1=>∀ D,H1 D=none->∃ W:Nat->Nat->List V->Hp->Prop,(∃ m,W 0 m [] (upd H1 D (.lst [])))∧∀ i m ys H,W i m ys H →
 (J.stop i H∧Q (.ref D) H)∨(J.go i H∧∃ N:List V->Hp->Prop,(∀ ys' H',N ys' H'->∃ m',m' < m∧W (i+1) m' ys' H') ∧
  ∀ x H',J.yld i H x H'->g x (List.replicate k none++σ) H' fun σ2 H2=>(∃ vs:St,vs.length=k∧σ2=vs++σ)∧tt σ2 H2 fun b H3=>if b=true then te σ2 H3 fun y H4=>H4 D=some (.lst ys)∧ys.length < sizeLine∧N (ys++[y]) (upd H4 D (.lst (ys++[y]))) else N ys H3)
theorem comp_loop{Y:Cx}{tg elt iter:Expr}{ifs:List Expr}{scope:Scope}{pos:Pos}{it D:Addr}{g:TG}{tt:TT}{te:TE}{J:It}{fp:List Addr}{tn:Nat->Heap->Prop}{k:Nat}{σ:St}{Q:VK}
  (hc:Y.calm=true) (hx:Y.xe=fun _ _=>False) (hg:PG Y tg g) (ht:PTs Y ifs tt) (he:PE Y elt te) (T:Turn Y.prog Y.w Y.K tg J fp it tn) (hf:∀ H:Hp,(∀ b∈fp,H b=none)->∀ b∈fp,FpOk Y [] H b)
  (W:Nat->Nat->List V->Hp->Prop)
  (turn:∀ i m ys H,W i m ys H->(J.stop i H∧Q (.ref D) H)∨(J.go i H∧∃ N:List V->Hp->Prop,(∀ ys' H',N ys' H'->∃ m',m' < m∧W (i+1) m' ys' H') ∧
   ∀ x H',J.yld i H x H'->g x (List.replicate k none++σ) H' fun σ2 H2=>(∃ vs:St,vs.length=k∧σ2=vs++σ)∧tt σ2 H2 fun b H3=>if b=true then te σ2 H3 fun y H4=>H4 D=some (.lst ys)∧ys.length < sizeLine∧N (ys++[y]) (upd H4 D (.lst (ys++[y]))) else N ys H3))
  (n:Nat) (s:Shared) (h:∃ i ys H,Inv Y [] (List.replicate k none++σ) H s∧tn i s.heap∧(∀ b∈fp,H b=none)∧W i n ys H) :
  codeAny (model Y.prog Y.w) Y.A (.compLoop (.ListComp elt [⟨tg,iter,ifs,0⟩] scope pos) 0 (.ref it) (.ref D) Y.env) (fun r s'=>r=.ok .next∧∃ H',Inv Y [] (List.replicate k none++σ) H' s'∧Q (.ref D) H') s:=by
 refine codeAny_loop rfl (fun n s=>∃ i ys H,Inv Y [] (List.replicate k none++σ) H s∧tn i s.heap∧(∀ b∈fp,H b=none)∧W i n ys H) ?_ n h
 rintro n s3 ⟨i,ys,H3,I3,st3,fr3,w3⟩
 show wpAny _ Y.A ((compTurn (.ListComp elt [⟨tg,iter,ifs,0⟩] scope pos) 0 (.ref it) (.ref D) Y.env).onRaise (fun x=>do noteFrame x Y.env;theTreesLotGoes x)) _ _ s3
 refine PySem.wpAny_noted ?_
 rw [PySem.compTurn_list]
 have no:∀ {α:Type} {m:Sem α} {P:α->Shared->Prop} {E:Value->Shared->Prop} {s:Shared},wpAny (model Y.prog Y.w) Y.A m P Y.xe s->wpAny (model Y.prog Y.w) Y.A m P E s:=fun {α m P E s} h=>
  wpAny_mono h (fun _ _ q=>q) fun _ _ q=>by rw [hx] at q;exact q.elim
 refine wpAny_bind (wpAny_standAt (wpAny_bind ?_))
 rcases turn i n ys H3 w3 with ⟨stop,qn⟩|⟨go,N,hN,step⟩
 ·refine thn (T.done Y rfl rfl rfl hc i [] s3 (List.replicate k none++σ) H3 _ I3 (hf H3 fr3) st3 stop) fun r s4 ⟨hr,I4⟩=>?_
  subst hr
  exact wpAny_pure ⟨rfl,H3,I4,qn⟩
 ·refine thn (T.item Y rfl rfl rfl hc i [] s3 (List.replicate k none++σ) H3 _ I3 (hf H3 fr3) st3 go) fun r s4 ⟨u,hr,h4⟩=>?_
  subst hr
  refine wpAny_bind (thn h4 fun _ s5 ⟨x,H5,I5,r5,y5,st5,fr5⟩=>?_)
  have I5':=I5.pinned (hf H5 fr5) (T.obj _ _ st5)
  refine wpAny_bind (no (thn (hg _ s5 (List.replicate k none++σ) H5 x u _ I5' r5 (step x H5 y5)) fun _ s6 ⟨σ6,H6,I6,⟨vs,hvs,e6⟩,q6⟩=>?_))
  subst e6
  have forget:∀ {pins:List (Addr × Obj)} {H:Hp} {s:Shared},Inv Y pins (vs++σ) H s->Inv Y pins (List.replicate k none++σ) H s:=fun {pins H s} I=>I.weak (by simp [hvs]) fun i v e=>by
   by_cases hi:i < k
   ·rw [List.getElem?_append_left (by simpa using hi)] at e
    simp [List.getElem?_replicate,hi] at e
   ·rw [List.getElem?_append_right (by simpa using Nat.le_of_not_lt hi)] at e
    rw [List.getElem?_append_right (by omega)]
    simpa [hvs] using e
  refine wpAny_bind (no (thn (ht _ s6 (vs++σ) H6 _ I6 q6) fun b s7 ⟨H7,I7,q7⟩=>?_))
  have again:∀ {H8:Hp} {s8:Shared} {ys':List V},Inv Y ([]++pinsAt fp s5.heap) (vs++σ) H8 s8->N ys' H8->∃ m,m < n∧∃ i ys H,Inv Y [] (List.replicate k none++σ) H s8∧tn i s8.heap∧(∀ b∈fp,H b=none)∧W i m ys H:=fun {H8 s8 ys'} I8 n8=>by
   obtain⟨m',hm,w8⟩:=hN ys' H8 n8
   refine⟨m',hm,i+1,ys',H8,forget I8.unpinned,T.keep _ _ _ st5 fun b hb o e=>(I8.pin (b,o) (List.mem_append_right _ (List.mem_append_right _ (mem_pinsAt hb e)))).1,fun b hb=>?_,w8⟩
   obtain⟨o,e,d⟩:=T.obj _ _ st5 b hb
   exact(I8.pin (b,o) (List.mem_append_right _ (List.mem_append_right _ (mem_pinsAt hb e)))).2.1
  cases b with
  | false=>
   rw [if_neg Bool.false_ne_true] at q7
   exact wpAny_pure ⟨rfl,again I7 q7⟩
  | true=>
   rw [if_pos rfl] at q7
   refine wpAny_bind (wpAny_bind (no (thn (he _ s7 (vs++σ) H7 _ I7 q7) fun y s8 ⟨y',H8,I8,ry,q8,l8,n8⟩=>?_)))
   exact wpAny_bind (no (thn (mt_append _ s8 (vs++σ) H8 (.ref D) [y'] (.ref D) [y] (fun _ H'=>N (ys++[y']) H') I8 rfl (.cons ry .nil) ⟨D,ys,y',rfl,rfl,q8,l8,n8⟩) fun _ s9 ⟨_,H9,I9,_,q9⟩=>wpAny_pure (wpAny_pure ⟨rfl,again I9 q9⟩)))
structure CompOk(X:Cx)(scope:Scope)(N':List Str)(k:Nat):Prop where
 cell:∀ y∈scope.names,y.2 ≠ .cell
 kind:scope.kind=.function
 names:∀ y∈scope.names,y.2=.local->scope.names.lookup y.1=some .local
 free:∀ y∈scope.names,y.2=.free->X.env.scope.names.lookup y.1=some .cell
 len:N'.length=k+X.N.length
 sub:∀ i x,N'[k+i]? = some x->scope.names.lookup x=some .free->X.N[i]? = some x
 loc:∀ i x,N'[k+i]? = some x->scope.names.lookup x ≠ some .local
theorem CompOk.cells{scope:Scope}{N':List Str}{k:Nat}{pins:List (Addr × Obj)}{σ:St}{H:Hp}{s:Shared}(c:CompOk X scope N' k)(I:Inv X pins σ H s):∀ y∈scope.names,y.2=.free->∃ a,X.env.cells.lookup y.1=some a:=fun y hy e=>
 I.ok.has y.1 (.inl (c.free y hy e))
theorem inv_comp{scope:Scope}{N':List Str}{k:Nat}{pins:List (Addr × Obj)}{σ:St}{H:Hp}{s s₄:Shared}{fp:List Addr}{m:Str->Option Value}(c:CompOk X scope N' k)(hc:X.calm=true)(I:Inv X pins σ H s)
  (hf:∀ b∈fp,FpOk X pins H b) (hfl:∀ b∈fp,b < s.heap.objs.size) (hb:∀ b∈fp,X.base.get? b=none) (hns:s₄.heap.Ns s.heap.objs.size m) (hk:∀ b o,s.heap.get? b=some o->s₄.heap.get? b=some o) (ho:s₄.os=s.os) (hg:s₄.gens=s.gens) :
  Inv (cCx X scope N' s.heap.objs.size s H fp (X.pn++pins)) [] (List.replicate k none++σ) H s₄:=by
 have hcl:=c.cells I
 have sub:∀ x a,(clOf X.env.cells scope.names []).lookup x=some a->X.env.cells.lookup x=some a:=fun x a e=>by
  rcases clOf_sub hcl e with q|q
  ·simp at q
  ·exact q
 have kinds:∀ x,(compEnvC scope (clOf X.env.cells scope.names []) s.heap.objs.size X.env).kindOf x=some .cell∨(compEnvC scope (clOf X.env.cells scope.names []) s.heap.objs.size X.env).kindOf x=some .free->scope.names.lookup x=some .free:=fun x hx=>by
  have e:(compEnvC scope (clOf X.env.cells scope.names []) s.heap.objs.size X.env).kindOf x=(scope.names.lookup x).map fun k=>if (k == NameKind.free && X.env.scope.kind == .function && X.env.kindOf x == some .cell) then NameKind.cell else k:=lookup_relabel
  rw [e] at hx
  cases q:scope.names.lookup x with
  | none=>rw [q] at hx;simp at hx
  | some j=>
   rw [q] at hx
   have hj:j ≠ .cell:=c.cell (x,j) (lookup_mem q)
   cases j<;>simp_all
 have fresh:∀ b,s.heap.objs.size≤b->s.heap.get? b=none:=fun b hb=>Heap.get?_none_of_le hb
 have ne:∀ b o,s.heap.get? b=some o->b ≠ s.heap.objs.size:=fun b o e=>Nat.ne_of_lt (Heap.lt_size e)
 have cl_lt:∀ x a,X.env.cells.lookup x=some a->a < s.heap.objs.size:=fun x a e=>by
  obtain⟨v,o,h1,_⟩:=I.cell x a e
  exact Heap.lt_size h1
 refine⟨⟨I.ok.mod,c.kind,I.ok.glob,I.ok.blt,Nat.le_refl _,fun x y a e1 e2=>I.ok.inj x y a (sub x a e1) (sub y a e2),fun x hx=>clOf_has hcl (kinds x hx),(fun _ _ z=>nomatch z),I.ok.hd,I.ok.frames,.inl rfl,fun b hb'=>⟨Nat.ne_of_lt (hfl b hb'),fun x a e=>(hf b hb').2.2.2.2.1 x a (sub x a e)⟩,
   I.bs,Nat.le_trans I.ok.bsz I.sz,(fun b o e hb'=>by rw [hb b hb'] at e;cases e),fun b hb' hz=>?_,I.stack,I.stkFree⟩,ho,by rw [hg];exact I.bare,Un.kept hk,⟨m,hns,fun i x v e1 e2 e3=>?_⟩,fun x a e=>?_,I.hok.fresh (Nat.le_refl _),fun x a e=>I.freeC x a (sub x a e),fun p hp=>?_,I.hok.kept hk,?_⟩
 ·rcases List.mem_cons.mp (I.stkSub b hz) with z|z
  ·exact(hf b hb').2.1 z
  ·exact(hf b hb').2.2.1 z
 ·have hi:k≤i:=by
   refine Nat.le_of_not_lt fun hi=>?_
   rw [List.getElem?_append_left (by simpa using hi)] at e2
   simp [List.getElem?_replicate,hi] at e2
  obtain⟨j,rfl⟩:∃ j,i=k+j:=⟨i - k,by omega⟩
  rw [List.getElem?_append_right (by simp)] at e2
  have e2':σ[j]? = some (some v):=by simpa using e2
  have e:(relabel scope X.env).names.lookup x=(scope.names.lookup x).map fun k=>if (k == NameKind.free && X.env.scope.kind == .function && X.env.kindOf x == some .cell) then NameKind.cell else k:=lookup_relabel
  have hfree:scope.names.lookup x=some .free:=by
   cases q:scope.names.lookup x with
   | none=>
    rcases e3 with z|z|z
    all_goals (have z':(relabel scope X.env).names.lookup x=some _:=z;rw [e,q] at z';simp at z')
   | some j'=>
    have h1:j' ≠ .cell:=c.cell (x,j') (lookup_mem q)
    have h2:j' ≠ .local:=fun z=>c.loc j x e1 (by rw [q,z])
    rcases e3 with z|z|z
    all_goals (have z':(relabel scope X.env).names.lookup x=some _:=z;rw [e,q] at z';cases j'<;>simp_all)
  have hX:=c.sub j x e1 hfree
  have hcellX:=c.free (x,.free) (lookup_mem hfree) rfl
  obtain⟨m0,hn0,hl0⟩:=I.loc
  obtain⟨u,r,l⟩:=hl0 j x v hX e2' (.inr (.inl hcellX))
  refine⟨u,r,?_⟩
  rcases l with ⟨z,_⟩|⟨_,a,ea,hz⟩
  ·have z':X.env.scope.names.lookup x=some .local:=z
   rw [hcellX] at z';cases z'
  ·obtain⟨a',ea'⟩:=clOf_has (acc:=[]) hcl hfree
   have e4:=sub x a' ea'
   rw [ea] at e4
   cases e4
   refine .inr ⟨.inl ?_,a,ea',?_⟩
   ·show (relabel scope X.env).names.lookup x=some .cell
    rw [e,hfree]
    have k1:(X.env.scope.kind == .function)=true:=by rw [I.ok.kind];rfl
    have k2:(X.env.kindOf x == some .cell)=true:=by
     have:X.env.kindOf x=some .cell:=hcellX
     rw [this];rfl
    simp [k1,k2]
   ·obtain⟨o,h1,h2⟩:=hz
    exact⟨o,hk _ _ h1,h2⟩
 ·obtain⟨v,o,h1,h2⟩:=I.cell x a (sub x a e)
  exact⟨v,o,hk _ _ h1,h2⟩
 ·have hp':p∈X.pn++pins:=by simpa using hp
  obtain⟨e,n,nl,nf,d⟩:=I.pin p hp'
  refine⟨hk _ _ e,n,ne _ _ e,fun z=>?_,d⟩
  rcases List.mem_cons.mp (I.stkSub _ z) with z|z
  ·exact nl z
  ·exact nf z
 ·show (List.replicate k none++σ).length=N'.length
  rw [c.len,List.length_append,List.length_replicate,I.len]
theorem comp_block{elt iter tg:Expr}{ifs:List Expr}{scope:Scope}{pos:Pos}{g:TG}{tt:TT}{te:TE}{N':List Str}{k:Nat}{it:Addr}{J:It}{fp:List Addr}{tn:Nat->Heap->Prop}{pins:List (Addr × Obj)}{σ:St}{H:Hp}{s:Shared}{Q:VK}{RR:Value->Addr->Result->Shared->Prop}{E:Value->Shared->Prop}
  (c:CompOk X scope N' k) (hc:X.calm=true) (I:Inv X pins σ H s) (T:Turn X.prog X.w X.K tg J fp it tn) (st:tn 0 s.heap) (hf:∀ b∈fp,FpOk X pins H b)
  (hg:∀ C s₀ H₀ ex pn,PG (cCx X scope N' C s₀ H₀ ex pn) tg g) (ht:∀ C s₀ H₀ ex pn,PTs (cCx X scope N' C s₀ H₀ ex pn) ifs tt) (he:∀ C s₀ H₀ ex pn,PE (cCx X scope N' C s₀ H₀ ex pn) elt te)
  (h:∀ D,H D=none->∃ W:Nat->Nat->List V->Hp->Prop,(∃ m,W 0 m [] (upd H D (.lst [])))∧∀ i m ys H,W i m ys H →
   (J.stop i H∧Q (.ref D) H)∨(J.go i H∧∃ N:List V->Hp->Prop,(∀ ys' H',N ys' H'->∃ m',m' < m∧W (i+1) m' ys' H') ∧
    ∀ x H',J.yld i H x H'->g x (List.replicate k none++σ) H' fun σ2 H2=>(∃ vs:St,vs.length=k∧σ2=vs++σ)∧tt σ2 H2 fun b H3=>if b=true then te σ2 H3 fun y H4=>H4 D=some (.lst ys)∧ys.length < sizeLine∧N (ys++[y]) (upd H4 D (.lst (ys++[y]))) else N ys H3))
  (fin:∀ D C s' H' m,s'.heap.Ns C m->C ≠ X.env.locals->(∀ x a,X.env.cells.lookup x=some a->a ≠ C)->(H' C=none∧X.s₀.heap.objs.size≤C∧∀ p∈X.pn++pins,p.1 ≠ C)->(∀ h',Heap.SameBut C s'.heap h'->Inv X pins σ H' { s' with heap:=h' })->Q (.ref D) H'->RR (.ref D) C (.ok .next) s') :
  wpAny (model X.prog X.w) X.A (newList []) (fun acc s₃=>wpAny (model X.prog X.w) X.A (newFunctionEnv scope X.env.globals (clOf X.env.cells scope.names []) [] X.env.qual none .none (some X.env)) (fun cenv s₄=>
   codeAny (model X.prog X.w) X.A (.compStart (.ListComp elt [⟨tg,iter,ifs,0⟩] scope pos) 0 (.ref it) acc { cenv with scope:=relabel scope X.env }) (RR acc cenv.locals) s₄) E s₃) E s:=by
 refine wpAny_newObj_type (wpAny_newFunctionEnv c.cell (by intro y hy;simp at hy) (fun h₁ hns₁ hsb₁=>?_) c.kind)
 dsimp only at hns₁ hsb₁ ⊢
 have I3:Inv X pins σ (upd H s.heap.objs.size (.lst [])) { s with heap:=s.heap.push { cls:=.type "list",data:=.seq ([]:List Value).toArray },toks:=s.toks }:=I.lnew (ys:=[]) (its:=[]) .nil (Nat.zero_le _)
 generalize hH2:s.heap.push { cls:=.type "list",dict:=none,data:=.seq ([]:List Value).toArray }=hp at hns₁ hsb₁ I3 ⊢
 have hlt:∀ b o,s.heap.get? b=some o->hp.get? b=some o:=fun b o e=>by rw [←hH2];exact Heap.get?_push_of_some _ e
 have hnD:H s.heap.objs.size=none:=I.hok.fresh (Nat.le_refl _)
 have kp:∀ b o,hp.get? b=some o->h₁.get? b=some o:=fun b o e=>hsb₁.extBut b o (Nat.ne_of_lt (Heap.lt_size e)) (Heap.get?_push_of_some _ e)
 have stk:∀ b∈fp,s.heap.get? b ≠ none:=fun b hb z=>by
  obtain⟨o,e,_⟩:=T.obj _ _ st b hb
  rw [z] at e;cases e
 have flt:∀ b∈fp,b < s.heap.objs.size:=fun b hb=>by
  obtain⟨o,e,_⟩:=T.obj _ _ st b hb
  exact Heap.lt_size e
 have fpD:∀ b∈fp,b ≠ s.heap.objs.size:=fun b hb=>Nat.ne_of_lt (flt b hb)
 have hf3:∀ b∈fp,FpOk X pins (upd H s.heap.objs.size (.lst [])) b:=fun b hb=>by
  obtain⟨a1,a2⟩:=hf b hb
  exact⟨by rw [upd_ne (fpD b hb)];exact a1,a2⟩
 have hnb:∀ b∈fp,X.base.get? b=none:=fun b hb=>by
  cases e:X.base.get? b with
  | none=>rfl
  | some o=>
   rcases (hf b hb).2.2.2.1 with z|z
   ·exact absurd z (I.ok.noex b o e)
   ·have:=Heap.lt_size (I.ok.bs b o e).1
    exact absurd (Nat.lt_of_lt_of_le this z) (Nat.lt_irrefl _)
 have hsz:s.heap.objs.size < hp.objs.size:=by rw [←hH2,Heap.size_push];exact Nat.lt_succ_self _
 have IY:=inv_comp (s₄:={ s with heap:=h₁,toks:=s.toks+([]:List (Str × Value)).length }) (fp:=fp) c hc I3 hf3 (fun b hb=>Nat.lt_trans (flt b hb) hsz) hnb hns₁ kp rfl rfl
 obtain⟨W,⟨m0,w0⟩,turn⟩:=h s.heap.objs.size hnD
 have run:=comp_loop (Y:=cCx X scope N' hp.objs.size { s with heap:=hp,toks:=s.toks } (upd H s.heap.objs.size (.lst [])) fp (X.pn++pins)) (tg:=tg) (elt:=elt) (iter:=iter) (ifs:=ifs) (scope:=scope) (pos:=pos) (it:=it) (D:=s.heap.objs.size) (k:=k) (σ:=σ) (Q:=Q)
  hc rfl (hg _ _ _ _ _) (ht _ _ _ _ _) (he _ _ _ _ _) T (fun H' hn b hb=>⟨hn b hb,Nat.ne_of_lt (Nat.lt_trans (flt b hb) hsz),fun z=>(IY.ok.exfs b hb) z,.inl hb,fun x a e=>(IY.ok.exf b hb).2 x a e,fun p hp=>by
   have hp':p∈X.pn++pins:=by simpa using hp
   exact(hf b hb).2.2.2.2.2 p hp'⟩) W turn m0
 have st₁:tn 0 h₁:=T.keep _ _ _ st fun b hb o e=>kp b o (hlt b o e)
 have go:=run { s with heap:=h₁,toks:=s.toks+([]:List (Str × Value)).length } ⟨0,[],_,IY,st₁,fun b hb=>(hf3 b hb).1,w0⟩
 have out:∀ r s',(r=Except.ok Flow.next∧∃ H',Inv (cCx X scope N' hp.objs.size { s with heap:=hp,toks:=s.toks } (upd H s.heap.objs.size (.lst [])) fp (X.pn++pins)) [] (List.replicate k none++σ) H' s'∧Q (.ref s.heap.objs.size) H')->RR (.ref s.heap.objs.size) hp.objs.size r s':=by
  rintro r s' ⟨rfl,H',J',q⟩
  obtain⟨m,hn,_⟩:=J'.loc
  have hC:hp.objs.size ≠ X.env.locals:=Nat.ne_of_gt (Nat.lt_of_lt_of_le I.lt (Nat.le_of_lt hsz))
  refine fin _ _ s' H' m hn hC (fun x a e=>?_) ⟨J'.free,Nat.le_trans I.sz (Nat.le_of_lt hsz),fun p hp'=>Nat.ne_of_lt (Nat.lt_trans (Heap.lt_size (I.pin p hp').1) hsz)⟩ (fun h' hs'=>?_) q
  ·obtain⟨v,o,h1,_⟩:=I.cell x a e
   exact Nat.ne_of_lt (Nat.lt_trans (Heap.lt_size h1) hsz)
  ·refine I.call' (ch:=fp) ?_ ?_ ?_ J'.bare fun b hb=>⟨(hf b hb).2.2.2.1,(hf b hb).2.1,(hf b hb).2.2.2.2.1,(hf b hb).2.2.2.2.2⟩
   ·exact J'.os
   ·have u1:Un (frs X.stack) fp H (upd H s.heap.objs.size (.lst [])) s.heap hp:=Un.laid hlt (Nat.le_refl _) hnD
    exact(u1.trans J'.base).but hs' fun b o e=>Nat.ne_of_lt (Nat.lt_trans (Heap.lt_size e) hsz)
   ·exact J'.hok.but J'.free hs'
 exact codeAny_compStart_list (codeAny_mono go out) (T.self _ 0 _ _ _ st₁ (codeAny_mono go out))
theorem pe_comp{elt iter tg:Expr}{ifs:List Expr}{scope:Scope}{pos:Pos}{wi:TI}{g:TG}{tt:TT}{te:TE}{N':List Str}{k:Nat}
  (c:CompOk X scope N' k) (hc:X.calm=true) (hi:PI X tg iter wi)
  (hg:∀ C s₀ H₀ ex pn,PG (cCx X scope N' C s₀ H₀ ex pn) tg g) (ht:∀ C s₀ H₀ ex pn,PTs (cCx X scope N' C s₀ H₀ ex pn) ifs tt) (he:∀ C s₀ H₀ ex pn,PE (cCx X scope N' C s₀ H₀ ex pn) elt te)
  (hs:∀ x,foldedSetIterable iter X.env x=pure x:=by intro _;rfl):PE X (.ListComp elt [⟨tg,iter,ifs,0⟩] scope pos) (tComp k wi g tt te):=by
 intro pins s σ H Q I h
 rw [PySem.eval_ListComp]
 refine PySem.wpAny_comprehension_free (use:=none) rfl hs (closureFor_eq (c.cells I)) c.kind c.names (thn (hi pins s σ H _ I h) fun v s1 h1=>thn h1 fun itv s2 h2=>?_)
 obtain⟨it,fp,tn,J,H2,rfl,I2,T,st2,f2,hW⟩:=h2
 refine comp_block (RR:=fun acc C=>PySem.compPost (model X.prog X.w) X.A X.xe none (EP X pins σ Q) acc C) c hc I2 T st2 f2 hg ht he hW ?_
 intro D C s' H' m hn _ _ _ hI q
 exact⟨m,hn,fun h' hs'=>⟨.ref D,H',hI h' hs',rfl,q⟩⟩
def tSetC(i:Nat)(te:TE):TS:=fun D σ H=>te σ H fun x H1=>D.nx (σ.set i (some x)) H1
theorem ps_setC{elt iter tg:Expr}{ifs:List Expr}{scope:Scope}{pos spos py:Pos}{wi:TI}{g:TG}{tt:TT}{te:TE}{N':List Str}{k i:Nat}{y:Str}
  (hN:X.N.Nodup) (hi':X.N[i]? = some y) (hy:Loc X.env.scope y)
  (c:CompOk X scope N' k) (hc:X.calm=true) (hi:PI X tg iter wi)
  (hg:∀ C s₀ H₀ ex pn,PG (cCx X scope N' C s₀ H₀ ex pn) tg g) (ht:∀ C s₀ H₀ ex pn,PTs (cCx X scope N' C s₀ H₀ ex pn) ifs tt) (he:∀ C s₀ H₀ ex pn,PE (cCx X scope N' C s₀ H₀ ex pn) elt te)
  (hsw:swapsWith (.ListComp elt [⟨tg,iter,ifs,0⟩] scope pos) (some (.Name y py)) spos.line X.env=pure true:=by rfl)
  (hs:∀ x,foldedSetIterable iter X.env x=pure x:=by intro _;rfl) (hf:X.fn y=true∨X.env.scope.names.lookup y=some .local:=by first|exact .inl rfl|exact .inr rfl|assumption) :
  PS X (.Assign [.Name y py] (.ListComp elt [⟨tg,iter,ifs,0⟩] scope pos) spos) (tSetC i (tComp k wi g tt te)):=by
 intro pins s σ H D I h
 rw [PySem.exec_Assign_Name_used _ _ _ _ hsw]
 refine wpAny_bind (wpAny_standAt (wpAny_bind ?_))
 show wpAny _ X.A (do let _ ←comprehension (.ListComp elt [⟨tg,iter,ifs,0⟩] scope pos) scope X.env _ (newList []) false (eval iter X.env) (some (assign (.Name y py) X.env))) _ _ s
 refine wpAny_bind (thn (PySem.wpAny_comprehension_free (use:=some (assign (.Name y py) X.env)) (Q:=fun _ s'=>SP X pins D .next s') rfl hs (closureFor_eq (c.cells I)) c.kind c.names (thn (hi pins s σ H _ I h) fun v s1 h1=>thn h1 fun itv s2 h2=>?_)) fun _ s' hq=>wpAny_pure (wpAny_pure hq))
 obtain⟨it,fp,tn,J,H2,rfl,I2,T,st2,f2,hW⟩:=h2
 refine comp_block (Q:=fun x H1=>D.nx (σ.set i (some x)) H1) (RR:=fun acc C=>PySem.compPost (model X.prog X.w) X.A X.xe (some (assign (.Name y py) X.env)) (fun _ s'=>SP X pins D .next s') acc C) c hc I2 T st2 f2 hg ht he hW ?_
 intro D' C s' H' m hn hCl hCc hCo hI q
 show wpAny _ X.A (assign (.Name y py) X.env (.ref D')) _ _ s'
 have I':Inv X pins σ H' s':=hI s'.heap (Heap.SameBut.refl _ _)
 refine wpAny_assign_Name (store_ok2 I' hN hi' hy (show RelV (.ref D') (.ref D') from rfl) (fun s'' I'' ⟨a,sb,ha⟩=>?_) hf)
 have hCa:C ≠ a:=by
  rcases ha with rfl|ha
  ·exact hCl
  ·exact fun z=>hCc _ _ ha z.symm
 refine⟨m,hn.sameBut sb hCa,fun h' hs'=>⟨_,H',?_,q⟩⟩
 exact I''.turned (t':=s''.toks) (fun b o hb e=>(hs'.2 b hb).trans e) hCo.1 hCl (.inr hCo.2.1) hCc hCo.2.2
end
end L2
set_option Elab.async false
set_option linter.all false
set_option maxRecDepth 100000
set_option maxHeartbeats 4000000
namespace L2
open PySem PySem.Spec PyProof.Rows
def ExcAt(h:Heap)(e:Addr)(cls:Value)(d:Option Addr)(T:Addr):Prop:=
 ∃ oe vs oT ts,h.get? e=some oe∧oe.cls=cls∧oe.dict=d∧oe.data=.fields vs∧vs[1]? = some (.ref T)∧T ≠ e∧h.get? T=some oT∧oT.data=.fields ts∧ts[3]? = some .none∧vs[2]? = some .none
def CX1(P:Program)(w:World):CXT:=fun outer H s E ev s'=>∃ e T cls d H',ev=.ref e∧s'.os=s.os∧AllBare s'.gens∧Un (frs outer) [] H H' s.heap s'.heap∧HOk P w H' s'.heap ∧
 s.heap.get? e=none∧s.heap.get? T=none∧H' e=none∧H' T=none∧ExcAt s'.heap e cls d T∧(∀ dx,d=some dx->∃ fs,H' dx=some (.xd fs))∧E cls d H'
theorem dict_mapF(f:Array Value->Array Value)(o:Obj):(Obj.mapFields f o).dict=o.dict:=by
 unfold Obj.mapFields;split<;>rfl
structure Noted(fs:List Addr)(e:Addr)(no:Addr->Prop)(h h':Heap):Prop where
 keep:∀ b o,b ≠ e->¬ no b->b ∉ fs->h.get? b=some o->h'.get? b=some o
 slot:∀ b o,b ≠ e->¬ no b->b∈fs->h.get? b=some o->∃ sl,h'.get? b=some { o with slots:=sl }
 size:h.objs.size≤h'.objs.size
section
variable {M:Model}{A:Around}{E:Value->Shared->Prop}{s:Shared}
theorem entry1{base:Heap}{env:Env}{outer:List Env}{L e:Addr}{oe:Obj}{vs:Array Value}{head:Value}{hadNext:Bool}{Q:Unit->Shared->Prop}
  (hfr:A.frames=some (env::outer)) (hl:s.heap.FunFrames base (env::outer)) (hf:env.frame=some L) (he:s.heap.get? e=some oe) (hd:oe.data=.fields vs) (hsz:1 < vs.size) (h2c:vs[2]? = some .none)
  (hQ:∀ h',Noted (frs (env::outer)) e (fun _=>False) s.heap h'->(∃ T oe' vs' oT ts,s.heap.get? T=none∧h'.get? e=some oe'∧oe'.cls=oe.cls∧oe'.dict=oe.dict∧oe'.data=.fields vs'∧vs'[1]? = some (.ref T)∧T ≠ e∧h'.get? T=some oT∧oT.data=.fields ts∧ts[3]? = some (rawInt L)∧vs'[2]? = some .none)->Q () { s with heap:=h' }) :
  wpAny M A (do let a ←frameOf env;let pl ←entryPlaceOf L hadNext;let b ←EntryCells.newEntry head a .none (rawInt L) .none pl;setField (.ref e) 1 b) Q E s:=by
 have efr:e ∉ frs (env::outer):=fun z=>by
  obtain⟨_,o,q1,q2⟩:=hl.mem z
  rw [he] at q1
  cases q1
  exact q2 vs hd
 refine wpAny_bind (wpAny_frameOf_fun hfr hl hf fun g1 sg=>?_)
 refine wpAny_bind (wpAny_entryPlaceOf fun pl ipl=>?_)
 unfold EntryCells.newEntry newFields
 refine wpAny_bind (wpAny_newObj_type ?_ (ipl.sizeOk5 _ _ _ _ _))
 have e1:g1.get? e=some oe:=(sg.2.1 e efr).trans he
 generalize hnew:({ cls:=.type "traceback",dict:=none,data:=.fields ([head,.ref L,.none,rawInt L,.none]++(if pl.isEmpty then List.replicate 6 Value.none else pl)).toArray }:Obj)=oN
 have dN:oN.data=.fields ([head,.ref L,.none,rawInt L,.none]++(if pl.isEmpty then List.replicate 6 Value.none else pl)).toArray:=by rw [←hnew]
 have e2:(g1.push oN).get? e=some oe:=Heap.get?_push_of_some _ e1
 refine wpAny_setField e2 hd hsz (hQ _ ?_ ?_)
 ·have other:∀ b o,b ≠ e->g1.get? b=some o->((g1.push oN).update e (Obj.mapFields (·.setIfInBounds 1 (Value.ref g1.objs.size)))).get? b=some o:=fun b o hb q=>by
   rw [Heap.get?_update_other _ _ (Ne.symm hb)]
   exact Heap.get?_push_of_some _ q
  refine⟨fun b o hb _ hfs q=>other b o hb ((sg.2.1 b hfs).trans q),fun b o hb _ _ q=>?_,?_⟩
  ·obtain⟨sl,q'⟩:=sg.2.2 b o q
   exact⟨sl,other b _ hb q'⟩
  ·have z1:g1.objs.size=s.heap.objs.size:=sg.1
   have z2:=((Heap.SameBut.update (g1.push oN) e (Obj.mapFields (·.setIfInBounds 1 (Value.ref g1.objs.size))))).1
   rw [z2,Heap.size_push]
   omega
 ·have ne:g1.objs.size ≠ e:=Nat.ne_of_gt (Heap.lt_size e1)
  have d3:=Obj.data_mapFields hd (·.setIfInBounds 1 (Value.ref g1.objs.size))
  refine⟨g1.objs.size,_,_,oN,_,?_,Heap.get?_update_self _ e2 (Obj.isFreed_of_fields d3),Obj.cls_mapFields _ _,dict_mapF _ _,d3,by simp [hsz],ne,?_,dN,by simp,by rw [Array.getElem?_setIfInBounds_ne (by decide)];exact h2c⟩
  ·have z1:g1.objs.size=s.heap.objs.size:=sg.1
   rw [z1]
   exact Heap.get?_none_of_le (Nat.le_refl _)
  ·rw [Heap.get?_update_other _ _ (Ne.symm ne)]
   exact Heap.get?_push_size _ (Obj.isFreed_of_fields dN)
theorem flight0{e T:Addr}{oe oT:Obj}{vs ts:Array Value}{Q:Unit->Shared->Prop}(he:s.heap.get? e=some oe)(hd:oe.data=.fields vs)(h1:vs[1]? = some (.ref T))(hT:s.heap.get? T=some oT)(hdT:oT.data=.fields ts)(h3:3 < ts.size)(ne:T ≠ e)(h2c:vs[2]? = some .none)
  (hQ:∀ h',(∀ b,b ≠ T->h'.get? b=s.heap.get? b)->h'.objs.size=s.heap.objs.size->ExcAt h' e oe.cls oe.dict T->Q () { s with heap:=h' }):wpAny M A (setFlight (.ref e) none) Q E s:=by
 unfold setFlight
 refine wpAny_bind (wpAny_field he hd h1 ?_)
 rw [if_pos (show (Value.ref T != Value.none)=true from by simp)]
 have sb:=Heap.SameBut.update s.heap T (Obj.mapFields (·.setIfInBounds 3 ((none:Option Addr).elim Value.none fun f=>rawInt f)))
 refine wpAny_setField hT hdT h3 (hQ _ sb.2 sb.1 ?_)
 have d3:=Obj.data_mapFields hdT (·.setIfInBounds 3 ((none:Option Addr).elim Value.none fun f=>rawInt f))
 exact⟨oe,vs,_,_,(sb.2 e (Ne.symm ne)).trans he,rfl,rfl,hd,h1,ne,Heap.get?_update_self _ hT (Obj.isFreed_of_fields d3),d3,by simp [h3],h2c⟩
theorem note_new{base:Heap}{env:Env}{outer:List Env}{L e:Addr}{oe:Obj}{vs:Array Value}{Q:Unit->Shared->Prop}
  (hfr:A.frames=some (env::outer)) (hl:s.heap.FunFrames base (env::outer)) (hf:env.frame=some L) (he:s.heap.get? e=some oe) (hd:oe.data=.fields vs) (h1:vs[1]? = some .none) (h2c:vs[2]? = some .none)
  (hQ:∀ h' T,Noted (frs (env::outer)) e (fun _=>False) s.heap h'->s.heap.get? T=none->ExcAt h' e oe.cls oe.dict T->Q () { s with heap:=h' }) :
  wpAny M A (noteFrame (.ref e) env) (fun _ s2=>wpAny M A (setFlight (.ref e) none) Q E s2) E s:=by
 unfold noteFrame
 simp only [hf]
 refine wpAny_bind (wpAny_field he hd h1 ?_)
 rw [if_neg (by decide)]
 refine entry1 hfr hl hf he hd (Array.getElem?_eq_some_iff.mp h1).1 h2c fun g ng hx=>?_
 obtain⟨T,oe',vs',oT,ts,nT,q1,q2,q2d,q3,q4,ne,q5,q6,q7,q8⟩:=hx
 refine flight0 (s:={ s with heap:=g }) q1 q3 q4 q5 q6 (Array.getElem?_eq_some_iff.mp q7).1 ne q8 fun g' sb sz ex=>?_
 rw [q2,q2d] at ex
 have lt:∀ b o,s.heap.get? b=some o->b ≠ T:=fun b o q z=>by rw [z,nT] at q;cases q
 exact hQ g' T ⟨fun b o hb hn hfs q=>(sb b (lt b o q)).trans (ng.keep b o hb hn hfs q),fun b o hb hn hfs q=>by
  obtain⟨sl,q'⟩:=ng.slot b o hb hn hfs q
  exact⟨sl,(sb b (lt b o q)).trans q'⟩,Nat.le_trans ng.size (Nat.le_of_eq sz.symm)⟩ nT ex
theorem note_next{base:Heap}{env:Env}{outer:List Env}{L e T:Addr}{cls:Value}{dd:Option Addr}{Q:Unit->Shared->Prop}
  (hfr:A.frames=some (env::outer)) (hl:s.heap.FunFrames base (env::outer)) (hf:env.frame=some L) (hx:ExcAt s.heap e cls dd T) (hfe:e ∉ frs (env::outer)) (hfT:T ∉ frs (env::outer)) (hb:base.get? T=none)
  (hQ:∀ h' T',Noted (frs (env::outer)) e (fun b=>b=T) s.heap h'->s.heap.get? T'=none->ExcAt h' e cls dd T'->Q () { s with heap:=h' }) :
  wpAny M A (noteFrame (.ref e) env) (fun _ s2=>wpAny M A (setFlight (.ref e) none) Q E s2) E s:=by
 obtain⟨oe,vs,oT,ts,he,rfl,rfl,hd,h1,ne,hT,hdT,h3,h2c⟩:=hx
 unfold noteFrame
 simp only [hf]
 refine wpAny_bind (wpAny_field he hd h1 ?_)
 rw [if_pos (show (Value.ref T != Value.none)=true from by simp)]
 refine wpAny_bind (wpAny_field hT hdT h3 ?_)
 rw [if_neg (show ¬ ((Value.none == rawInt L)=true) from by simp [rawInt])]
 have sb0:=Heap.SameBut.update s.heap T (Obj.mapFields (·.setIfInBounds 3 Value.none))
 refine wpAny_bind (wpAny_setField hT hdT (Array.getElem?_eq_some_iff.mp h3).1 ?_)
 generalize hg0:s.heap.update T (Obj.mapFields (·.setIfInBounds 3 Value.none))=g0 at sb0
 have fl:g0.FunFrames base (env::outer):=hl.of_keeps fun b o q hnf=>⟨o,(sb0.2 b (fun z=>by rw [z,hT] at q;cases q;exact hnf ts hdT)).trans q,rfl⟩
 have he0:g0.get? e=some oe:=(sb0.2 e (Ne.symm ne)).trans he
 refine entry1 (s:={ s with heap:=g0 }) hfr fl hf he0 hd (Array.getElem?_eq_some_iff.mp h1).1 h2c fun g ng hx=>?_
 obtain⟨T',oe',vs',oT',ts',nT,q1,q2,q2d,q3,q4,ne',q5,q6,q7,q8⟩:=hx
 refine flight0 (s:={ s with heap:=g }) q1 q3 q4 q5 q6 (Array.getElem?_eq_some_iff.mp q7).1 ne' q8 fun g' sb sz ex=>?_
 rw [q2,q2d] at ex
 have tT:T ≠ T':=fun z=>by
  subst z
  have:=Heap.get?_update_self (Obj.mapFields (·.setIfInBounds 3 Value.none)) hT (Obj.isFreed_of_fields (Obj.data_mapFields hdT _))
  rw [hg0] at this
  have nT':g0.get? T=none:=nT
  rw [this] at nT'
  cases nT'
 have nT0:s.heap.get? T'=none:=(sb0.2 T' (Ne.symm tT)).symm.trans nT
 have lt:∀ b o,s.heap.get? b=some o->b ≠ T':=fun b o q z=>by rw [z,nT0] at q;cases q
 exact hQ g' T' ⟨fun b o hb hn hfs q=>(sb b (lt b o q)).trans (ng.keep b o hb (fun z=>z) hfs ((sb0.2 b hn).trans q)),fun b o hb hn hfs q=>by
  obtain⟨sl,q'⟩:=ng.slot b o hb (fun z=>z) hfs ((sb0.2 b hn).trans q)
  exact⟨sl,(sb b (lt b o q)).trans q'⟩,Nat.le_trans (Nat.le_of_eq sb0.1.symm) (Nat.le_trans ng.size (Nat.le_of_eq sz.symm))⟩ nT0 ex
end
theorem HOk.noted{P:Program}{w:World}{H:Hp}{h h':Heap}{fs:List Addr}{e:Addr}{no:Addr->Prop}(ok:HOk P w H h)(n:Noted fs e no h h')(he:H e=none)(hn:∀ b,no b->H b=none)(hf:∀ b∈fs,H b=none):HOk P w H h':=fun b ob q=>by
 refine(ok b ob q).stay (fun c v hc r=>n.keep c v ?_ ?_ ?_ r) (fun _ z=>z) (fun _ _ z=>z) fun _ _ z=>z
 all_goals
  rcases hc with z|z
  all_goals intro k
 ·rw [←z,k,he] at q;cases q
 ·rw [k,he] at z;cases z
 ·rw [←z,hn _ k] at q;cases q
 ·rw [hn _ k] at z;cases z
 ·rw [←z,hf _ k] at q;cases q
 ·rw [hf _ k] at z;cases z
theorem Un.noted{fs fs':List Addr}{H H':Hp}{h h1 h2:Heap}{e:Addr}{no:Addr->Prop}(u:Un fs [] H H' h h1)(n:Noted fs' e no h1 h2)(he:h.get? e=none)(hn:∀ b,no b->h.get? b=none)(hs:∀ b∈fs',b∈fs∨h.get? b=none):Un fs [] H H' h h2:=by
 have ne:∀ b o,h.get? b=some o->b ≠ e∧¬ no b:=fun b o q=>⟨fun z=>(by rw [z,he] at q;cases q),fun z=>(by rw [hn b z] at q;cases q)⟩
 have nf:∀ b o,h.get? b=some o->b ∉ fs->b ∉ fs':=fun b o q hb z=>by
  rcases hs b z with k|k
  ·exact hb k
  ·rw [k] at q;cases q
 refine⟨fun b o q a hb hx=>n.keep b o (ne b o q).1 (ne b o q).2 (nf b o q hb) (u.keep b o q a hb hx),fun b o q a hb hx=>?_,u.free,fun b o q hx=>?_,u.tups,u.frzs,u.tbls⟩
 ·obtain⟨sl,r⟩:=u.slot b o q a hb hx
  by_cases hb':b∈fs'
  ·obtain⟨sl',r'⟩:=n.slot b _ (ne b o q).1 (ne b o q).2 hb' r
   exact⟨sl',r'⟩
  ·exact⟨sl,n.keep b _ (ne b o q).1 (ne b o q).2 hb' r⟩
 ·obtain⟨o',r⟩:=u.there b o q hx
  by_cases hb':b∈fs'
  ·obtain⟨sl',r'⟩:=n.slot b _ (ne b o q).1 (ne b o q).2 hb' r
   exact⟨_,r'⟩
  ·exact⟨_,n.keep b _ (ne b o q).1 (ne b o q).2 hb' r⟩
def PassAt(CX:CXT)(X:Cx)(E:XK)(σ:St):Prop:=∀ (pins:List (Addr × Obj)) (H:Hp) (s:Shared) (e:Value) (s':Shared),Inv X pins σ H s->CX X.stack H s E e s'->X.xe e s'
def RaisesAt(X:Cx)(E:XK)(σ:St):Prop:=∀ (pins:List (Addr × Obj)) (H:Hp) (s:Shared) (h':Heap) (e:Addr) (C:Addr) (us:List Value),Inv X pins σ H s->Heap.MadeExcOf s.heap h' e (.ref C) us->E (.ref C) none H->X.xe (.ref e) { s with heap:=h' }
theorem ObjOk.there{P:Program}{w:World}{H:Hp}{h:Heap}{a:Addr}{o:HO}(x:ObjOk P w H h a o):∃ ob,h.get? a=some ob:=by
 cases o with
 | lst xs=>obtain⟨_,_,_,_,e⟩:=x;exact⟨_,e⟩
 | tup xs=>obtain⟨_,_,_,ob,e,_⟩:=x;exact⟨ob,e⟩
 | dK kvs=>obtain⟨_,_,_,_,ob,_,_,e,_⟩:=x;exact⟨ob,e⟩
 | dT kvs=>obtain⟨_,_,_,_,ob,_,_,e,_⟩:=x;exact⟨ob,e⟩
 | set S n=>obtain⟨ob,_,_,_,e,_⟩:=x;exact⟨ob,e⟩
 | ins C dx fs=>obtain⟨_,_,_,e,_⟩:=x;exact⟨_,e⟩
 | own y=>exact x
 | xd fs=>obtain⟨_,⟨ob,_,_,e,_⟩,_⟩:=x;exact⟨ob,e⟩
 | rng lo hi=>obtain⟨_,_,_,e⟩:=x;exact⟨_,e⟩
 | frz ob u=>exact⟨_,x.1⟩
 | tbl ps=>obtain⟨_,_,_,_,e,_⟩:=x;exact⟨_,e⟩
 | cod q=>obtain⟨_,_,_,e,_⟩:=x;exact⟨_,e⟩
 | met f y=>exact⟨_,x⟩
 | ext φ=>exact x.2.1
theorem HOk.gone{P:Program}{w:World}{H:Hp}{h:Heap}{a:Addr}(ok:HOk P w H h)(e:h.get? a=none):H a=none:=by
 cases q:H a with
 | none=>rfl
 | some o=>
  obtain⟨ob,z⟩:=(ok a o q).there
  rw [e] at z;cases z
theorem Un.gone{fs:List Addr}{H H':Hp}{h h1:Heap}{a:Addr}(u:Un fs [] H H' h h1)(e:h1.get? a=none):h.get? a=none:=by
 cases q:h.get? a with
 | none=>rfl
 | some o=>
  obtain⟨o',z⟩:=u.there a o q (by simp)
  rw [e] at z;cases z
theorem raises_def{P:Program}{w:World}{K:PySem.W.Frag}{mg:Str->Option Value}{base:Heap}{N:List Str}{qual:Str}{scope:Scope}{f:Addr}{cd:Value}{A:Around}{outer:List Env}{s₀:Shared}{H₀:Hp}{E:XK}{σ:St} :
  RaisesAt (cxOf (CX1 P w) P w K mg base N qual scope f cd A outer s₀ H₀ E) E σ:=by
 intro pins H s h' e C us I hm hE
 obtain⟨t,he,_,_⟩:=hm.there
 show wpAny (model P w) (A.deeper (envOfC qual scope s₀.heap.objs.size f cd)) (leaving (envOfC qual scope s₀.heap.objs.size f cd) (.ref e)) _ _ _
 unfold leaving
 have un:Un (frs outer) [] H₀ H s₀.heap s.heap:=I.base
 have fl:h'.FunFrames base (envOfC qual scope s₀.heap.objs.size f cd::outer):=I.stack.of_keeps fun b o q _=>⟨o,hm.keeps b o q,rfl⟩
 refine wpAny_bind (note_new (s:={ s with heap:=h' }) (base:=base) (outer:=outer) I.ok.frames fl rfl he rfl rfl rfl fun g T ng nT ex=>?_)
 have nT':s.heap.get? T=none:=by
  cases q:s.heap.get? T with
  | none=>rfl
  | some o=>
   have z:=hm.keeps T o q
   have nT2:h'.get? T=none:=nT
   rw [nT2] at z;cases z
 have u2:Un (frs outer) [] H₀ H s₀.heap h':=un.trans (Un.kept hm.keeps)
 refine⟨e,T,.ref C,none,H,rfl,I.os,I.bare,u2.noted ng (un.gone hm.new) (fun _ z=>z.elim) (fun b hb=>?_),(I.hok.kept hm.keeps).noted ng (I.hok.gone hm.new) (fun _ z=>z.elim) I.stkFree,un.gone hm.new,un.gone nT',I.hok.gone hm.new,I.hok.gone nT',ex,(fun _ z=>nomatch z),hE⟩
 rcases List.mem_cons.mp (I.stkSub b hb) with z|z
 ·exact .inr (by rw [z];exact Heap.get?_none_of_le (Nat.le_refl _))
 ·exact .inl z
theorem passes_def{P:Program}{w:World}{K:PySem.W.Frag}{mg:Str->Option Value}{base:Heap}{N:List Str}{qual:Str}{scope:Scope}{f:Addr}{cd:Value}{A:Around}{outer:List Env}{s₀:Shared}{H₀:Hp}{E:XK} :
  Passes (CX1 P w) (cxOf (CX1 P w) P w K mg base N qual scope f cd A outer s₀ H₀ E) E:=by
 intro pins σ H s ev s' I hc
 obtain⟨e,T,cls,dd,H',rfl,os,bare,un1,hok,ne,nT,He,HT,ex,hxd,hE⟩:=hc
 show wpAny (model P w) (A.deeper (envOfC qual scope s₀.heap.objs.size f cd)) (leaving (envOfC qual scope s₀.heap.objs.size f cd) (.ref e)) _ _ _
 unfold leaving
 have I2:Inv _ pins σ H' s':=I.call' (ch:=[]) os un1 hok bare (fun b z=>absurd z (by simp))
 have nf:∀ b,s.heap.get? b=none->b ∉ frs (envOfC qual scope s₀.heap.objs.size f cd::outer):=fun b hb z=>by
  obtain⟨_,o,q,_⟩:=I.stack.mem z
  rw [hb] at q;cases q
 have nb:base.get? T=none:=by
  cases q:base.get? T with
  | none=>rfl
  | some o=>
   have:=I.bk T o q
   rw [nT] at this;cases this
 have fl:s'.heap.FunFrames base (envOfC qual scope s₀.heap.objs.size f cd::outer):=I2.stack
 refine wpAny_bind (note_next (base:=base) (outer:=outer) I.ok.frames fl rfl ex (nf e ne) (nf T nT) nb fun g T' ng nT' ex'=>?_)
 have un0:Un (frs outer) [] H₀ H s₀.heap s.heap:=I.base
 have un2:Un (frs outer) [] H₀ H' s₀.heap s'.heap:=I2.base
 refine⟨e,T',cls,dd,H',rfl,I2.os,bare,un2.noted ng (un0.gone ne) (fun b z=>by rw [z];exact un0.gone nT) (fun b hb=>?_),hok.noted ng He (fun b z=>by rw [z];exact HT) I2.stkFree,un0.gone ne,un2.gone nT',He,hok.gone nT',ex',hxd,hE⟩
 rcases List.mem_cons.mp (I.stkSub b hb) with z|z
 ·exact .inr (by rw [z];exact Heap.get?_none_of_le (Nat.le_refl _))
 ·exact .inl z
section
variable {X:Cx}
def tCallX(sp:Sp)(dvs:List V)(E:St->XK)(t:TA):TE:=fun σ H Q=>t σ H fun vs H1=>sp (vs++dvs) H1 Q (E σ)
theorem pe_callX{CX:CXT}{k:Nat}{f:Addr}{fd:FuncData}{ps:List Str}{sp:Sp}{ds:List Value}{dvs:List V}{E:St->XK}{x:Str}{e:Expr}{es:List Expr}{t:TA}{p pos:Pos}
  (F:FnOk X.prog X.w X.K X.mg X.base CX k f fd ps sp) (hr:Room k X.A) (hg:Gl X x) (hm:X.mg x=some (.ref f)) (hk:PySem.W.keepIn X.K (.ref f)=true) (hb:Binds X.K fd ps ds) (hd:Vals dvs ds) (hx:∀ σ,PassAt CX X (E σ) σ)
  (ha:PA X (e::es) t) (hdb:(x == ("__debug__":Str))=false:=by decide) (he:starEach (e::es) X.env=(false,eval e X.env)::starEach es X.env:=by rfl) (hpl:(backTo pos (starEach es X.env)).any (·.1)=false:=by rfl) :
  PE X (.Call (.Name x p) (e::es) [] pos) (tCallX sp dvs E t):=by
 intro pins s σ H Q I h
 refine wpAny_Call_Name_kw (ld_glob I hg hm ?_ hdb)
 refine PySem.W.callWith_K (h₀:=X.base) I.ok.mod.kin hk (thn (ha pos pins s σ H _ I h) fun us s1 ⟨vs,H1,I1,r,q⟩=>⟨I1.kIn,?_⟩) he hpl
 have r2:Vals (vs++dvs) (us++ds):=r.append hd
 have hl:(us++ds).length=ps.length:=by rw [←r2.length];exact F.len _ _ _ _ q
 refine wpAny_call (codeAny_mono (F.run X.A X.stack s1 H1 ⟨us,[]⟩ (us++ds) (vs++dvs) Q (E σ) hr I1.env0 (hb s1 us I1.kIn hl) r2 q) fun rr s' hq=>?_)
 cases rr with
 | error ev=>exact hx σ pins H1 s1 ev s' I1 hq
 | ok fl=>
  cases fl with
  | ret u=>exact I1.after hq
  | next=>exact False.elim hq
  | brk=>exact False.elim hq
  | cont=>exact False.elim hq
set_option genInjectivity false in
structure ClsD where
 nm:Str
 q:Str
 N:Addr
 bs:List Value
 bm:List Value
 hdct:Bool
 sn:List Str
 sub:List Value
 ab:Bool
 col:Option Bool
 dd:Option Addr
 k0:Option Value
 k1:Option Value
 k2:Option Value
 k3:Option Value
 k5:Option Value
def ownIn0(K:PySem.W.Frag)(C:Addr)(z:Option Value)(bmB:List Value)(newId:String):Bool:=match K.lookup C with
 | some ⟨.type "type",_,.cls dat,slt⟩=>(match dat.mro,slt.toList with
  | .ref C'::up,[_,_,_,_,some (.builtin n),_]=>C' == C && n == newId && !dat.hasDel && PySem.W.tailIn K bmB up && PySem.W.nsOkIn K dat.ns && PySem.W.nsIn K dat.ns "__init__" == some z
  | _,_=>false)
 | _=>false
theorem cls_op{K:PySem.W.Frag}{C:Addr}{z:Option Value}(q0:ownIn0 K C z [.type "ValueError",.type "Exception",.type "BaseException",.type "object"] "ValueError.__new__"=true) :
  ∃ c:ClsD,K.lookup C=some (excClassObj c.nm c.q C c.N c.bs c.bm c.hdct c.sn c.sub c.ab c.col c.dd c.k0 c.k1 c.k2 c.k3 c.k5 "ValueError.__new__")∧PySem.W.tailIn K [.type "ValueError",.type "Exception",.type "BaseException",.type "object"] c.bm=true∧PySem.W.nsOkIn K c.N=true∧PySem.W.nsIn K c.N "__init__"=some z:=by
 unfold ownIn0 at q0
 split at q0
 ·rename_i dd0 cdat slots0 look0
  split at q0
  ·rename_i Cx0 tl0 g0 g1 g2 g3 nw g5 em es0
   simp only [Bool.and_eq_true,beq_iff_eq,Bool.not_eq_true'] at q0<;>skip
   obtain⟨⟨⟨⟨⟨rfl,rfl⟩,ndel⟩,tok⟩,nok⟩,noi⟩:=q0
   obtain⟨c1,c2,c3,c4,c5,c6,c7,c8,c9,c10,c11⟩:=cdat
   dsimp only at em ndel nok noi
   subst em ndel
   obtain⟨lst0⟩:=slots0
   have es1:lst0=[g0,g1,g2,g3,some (.builtin "ValueError.__new__"),g5]:=es0
   subst es1
   exact⟨⟨c1,c5,c4,c2,tl0,c6,c7,c8,c9,c10,dd0,g0,g1,g2,g3,g5⟩,look0,tok,nok,noi⟩
  ·cases q0
 ·cases q0
structure OwnE(K:PySem.W.Frag)(C:Addr):Prop where
 ex:PySem.W.excIn K C [.type "ValueError",.type "Exception",.type "BaseException",.type "object"] "ValueError.__new__"=true
def tRaise(C:Addr)(E:St->XK)(t:TA):TS:=fun _ σ H=>t σ H fun vs H1=>vs.length≤sizeLine∧E σ (.ref C) none H1
theorem ps_raise{C:Addr}{x:Str}{e₀:Expr}{rest:List Expr}{np cpos pos:Pos}{t:TA}{E:St->XK}(hc:X.calm=true)(hg:Gl X x)(hmg:X.mg x=some (.ref C))(O:OwnE X.K C)(hx:∀ σ,RaisesAt X (E σ) σ)(ha:PA X (e₀::rest) t)
  (he:starEach (e₀::rest) X.env=(false,eval e₀ X.env)::starEach rest X.env:=by rfl) (hplain:(backTo cpos (starEach rest X.env)).any (·.1)=false:=by rfl) (hdb:(x == ("__debug__":Str))=false:=by decide) :
  PS X (.Raise (some (.Call (.Name x np) (e₀::rest) [] cpos)) none pos) (tRaise C E t):=by
 intro pins s σ H D I h
 obtain⟨c,look0,tok,nok,noi⟩:=cls_op (z:=none) O.ex
 have nsb:X.base.Ns c.N (X.base.nsMap c.N):=.of_isNs (PySem.W.isNs_of_in I.mod.kin nok)
 refine PySem.wpAny_Raise_call_subU (C:=C) (nm:=c.nm) (q:=c.q) (N:=c.N) (bs:=c.bs) (bm:=c.bm) (hdct:=c.hdct) (sn:=c.sn) (sub:=c.sub) (ab:=c.ab) (col:=c.col) (dd:=c.dd) (k0:=c.k0) (k1:=c.k1) (k2:=c.k2) (k3:=c.k3) (k5:=c.k5)
  PySem.F.excBase_ValueError (by decide +kernel) PySem.F.excBase_ValueError (mN:=X.base.nsMap c.N) ((PySem.W.tail_of_in I.kIn tok).hasType (by decide +kernel)) (I.ok.hd hc) (by rw [he];exact(Bool.false_or _).trans hplain) (PySem.W.nsMap_none_of_in I.mod.kin nok noi) (ld_glob I hg hmg ⟨rfl,?_⟩ hdb)
 have hh:=ha cpos pins s σ H _ I h
 rw [he] at hh ⊢
 exact Calls.evalArgs_plain (thn hh fun us s2 ⟨vs,H2,I2,r,hl,hE⟩=>⟨rfl,by rw [←r.length];exact hl,I2.kIn _ _ look0,nsb.keeps I2.bk,PySem.W.tail_of_in I2.kIn tok,fun h' e hm=>hx σ pins H2 s2 h' e C us I2 hm hE⟩)
abbrev Cx.mark(X:Cx)(e:Addr):Cx:={ X with A:=X.A.mark (some (.ref e)),calm:=false,xe:=fun _ _=>False }
theorem Inv.mark{pins:List (Addr × Obj)}{σ:St}{H:Hp}{s:Shared}(I:Inv X pins σ H s)(e:Addr):Inv (X.mark e) pins σ H s:=
 ⟨⟨I.ok.mod,I.ok.kind,I.ok.glob,I.ok.blt,I.ok.above,I.ok.inj,I.ok.has,I.ok.cab,(fun z=>by cases z),I.ok.frames,I.ok.stk,I.ok.exf,I.ok.bs,I.ok.bsz,I.ok.noex,I.ok.exfs,I.ok.funs,I.ok.frf⟩,I.os,I.bare,I.base,I.loc,I.cell,I.free,I.freeC,I.pin,I.hok,I.len⟩
theorem Inv.unmark{pins:List (Addr × Obj)}{σ:St}{H:Hp}{s:Shared}{e:Addr}(ok:X.Ok)(I:Inv (X.mark e) pins σ H s):Inv X pins σ H s:=
 ⟨ok,I.os,I.bare,I.base,I.loc,I.cell,I.free,I.freeC,I.pin,I.hok,I.len⟩
end
end L2
set_option Elab.async false
set_option linter.all false
set_option maxRecDepth 100000
set_option maxHeartbeats 4000000
namespace L2
open PySem PySem.Spec PyProof.Rows
structure FunX(K:PySem.W.Frag)(x qual:Str)(st:Stmt)(f:Addr)(fd:FuncData):Prop where
 ex:∃ (oc:Value) (od:Option Addr) (dV kV doc pm:Value) (an:Option Addr) (cdv ct:Value) (osl:Array (Option Value)),
  fd=PySem.W.fnOf x qual (defArgs st) (defBody st) (defScope st) dV kV doc pm an cdv ct∧K.lookup f=some ⟨oc,od,.func fd,osl⟩∧PySem.W.codeIn K cdv qual=true
 kp:PySem.W.keepIn K (.ref f)=true
section
variable {P:Program}{w:World}{K:PySem.W.Frag}{mg:Str->Option Value}{base:Heap}
theorem FunX.ok{CX:CXT}{x qual:Str}{st:Stmt}{f:Addr}{fd:FuncData}{N ps:List Str}{k:Nat}{sp:Sp}(F:FunX K x qual st f fd)(S:FnScope N ps (defScope st))(len:∀ vs H Q E,sp vs H Q E->vs.length=ps.length)
  (hbody:∀ (cdv:Value) (A:Around) (outer:List Env) (s:Shared) (H:Hp) (vs:List V) (Q:VK) (E:XK),Room k (A.deeper (envOfC qual (defScope st) s.heap.objs.size f cdv))->sp vs H Q E →
   ∃ t,PSs (cxOf CX P w K mg base N qual (defScope st) f cdv A outer s H E) (defBody st) t∧t { nx:=fun _ H'=>Q .non H',rt:=Q } (start N vs) H):FnOk P w K mg base CX (k+1) f fd ps sp:=by
 obtain⟨oc,od,dV,kV,doc,pm,an,cdv,ct,osl,rfl,lk,hcd⟩:=F.ex
 exact fn_of lk hcd S len fun A outer s H vs Q E hr hsp=>hbody cdv A outer s H vs Q E hr hsp
theorem funX_mk{x qual:Str}{st:Stmt}{f:Addr}{oc:Value}{od an:Option Addr}{osl:Array (Option Value)}{dV kV doc pm cdv ct:Value}(l:K.lookup f=some ⟨oc,od,.func (PySem.W.fnOf x qual (defArgs st) (defBody st) (defScope st) dV kV doc pm an cdv ct),osl⟩)
  (c:PySem.W.codeIn K cdv qual=true) (k:PySem.W.keepIn K (.ref f)=true):FunX K x qual st f (PySem.W.fnOf x qual (defArgs st) (defBody st) (defScope st) dV kV doc pm an cdv ct):=⟨⟨oc,od,dV,kV,doc,pm,an,cdv,ct,osl,rfl,l,c⟩,k⟩
end
end L2
set_option Elab.async false
set_option linter.all false
set_option maxRecDepth 100000
set_option maxHeartbeats 4000000
namespace L2
open PySem PySem.Spec PyProof.Rows PySem.W
structure ECls(K:PySem.W.Frag)(C:Addr):Prop where
 ga:PySem.W.findIn K (.ref C) "__getattribute__"=some (some (.builtin "BaseException.__getattribute__"))
 no:PySem.W.findIn K (.ref C) "__getattr__"=some none
 mb:PySem.W.mroIn K C (.type "BaseException")=some true
 mo:PySem.W.mroIn K C (.type "object")=some true
 cl:PySem.W.findIn K (.ref C) "__class__"=some (some (.builtin "object.__class__"))
 sp:PySem.W.specialIn K (.builtin "object.__class__") "__get__"=some (some (.builtin "getset_descriptor.__get__"))
 tk:PySem.W.takesIn K (.builtin "object.__class__")=some true
 hd:PySem.W.hasDictIn K C=true
section
variable {prog:Program}{w:World}{A:Around}{E:Value->Shared->Prop}{s:Shared}{K:PySem.W.Frag}{x C:Addr}{ox:Obj}{od:Option Obj}{name:Str}
theorem exc_check{M:Model}{nameV:Value}{Q:Unit->Shared->Prop}(c:ECls K C)(X:K.In s.heap)(I:InstAt s.heap x ox C od)(hq:Q () s):wpAny M A (checkBuiltinCall "BaseException.__getattribute__" ⟨[.ref x,nameV],[]⟩) Q E s:=by
 have hk:builtinKind "BaseException.__getattribute__"=some .slot:=by decide +kernel
 have hsplit:splitId "BaseException.__getattribute__"=some ("BaseException", "__getattribute__"):=by decide +kernel
 have ha:=F.args_bexc_ga (.ref x) nameV
 have L0:=I.type (M:=M)
 have L1:=looks_mroIn (M:=M) X c.mb
 obtain⟨hh,g,d,t,os⟩:=s
 simp only [checkBuiltinCall,hk,hsplit]
 have LI:Looks M hh (isInstance (.ref x) (.type "BaseException")) true:=L0.andThen L1
 refine wpAny_bind (LI.at ?_)
 first|exact hq|exact wpAny_pure hq|(simp only [Bool.not_true,Bool.false_eq_true,if_false];exact hq)
def FinP(M:Model)(A:Around)(P:Value->Shared->Prop)(fin:PySem.Fin)(s:Shared):Prop:=match fin with
 | .done (.ret v)=>P v s
 | .again c=>c.quiet=true∧codeAny M A c (fun r s'=>match r with | .ok (.ret v)=>P v s'|_=>False) s
 | _=>False
theorem exc_get?{Q:Option Value->Shared->Prop}(c:ECls K C)(X:K.In s.heap)(I:InstAt s.heap x ox C od)
  (h:∀ A':Around,wpAny (model prog w) A' (Builtin.«object.__getattribute__» ⟨[.ref x,.str name s.toks],[]⟩) (FinP (model prog w) A fun v s'=>wpAny (model prog w) A (handedOut v) (fun v s''=>Q (some v) s'') (fun _ _=>False) s') (fun _ _=>False) { s with toks:=s.toks+1 }) :
  wpAny (model prog w) A (getAttr? (.ref x) name) Q E s:=by
 obtain⟨hh,g,d,t,os⟩:=s
 have L0:=I.type (M:=model prog w)
 have L1:=looks_findIn (M:=model prog w) X c.ga
 have L2:=looks_findIn (M:=model prog w) X c.no
 unfold getAttr? getAttrBy? getAttrBy
 refine wpAny_bind (wpAny_mkText (wpAny_bind (wpAny_attempt (wpAny_holding (wpAny_bind (L0.at (wpAny_bind (L1.at ?_))))))))
 show wpAny _ _ (getAttrByItsOwn _ _ _ _ _ _) _ _ _
 unfold getAttrByItsOwn
 show wpAny _ _ (do let before ←typeLookup (.ref C) "__getattr__";_) _ _ _
 refine wpAny_bind (L2.at (wpAny_bind (wpAny_attempt (wpAny_holding ?_))))
 unfold callGetattribute
 rw [if_neg (by simp)]
 unfold boundAndCalled
 rw [F.attr_ValueError.ga.bind (.ref x)]
 refine wpAny_bind (wpAny_pure (wpAny_call (codeAny_call_builtin F.attr_ValueError.ga.plain F.entry_bexc_ga (exc_check c X I ?_))))
 have fin1:∀ v s',wpAny (model prog w) A (handedOut v) (fun v s''=>Q (some v) s'') (fun _ _=>False) s'->wpAny (model prog w) A (handedOut v) (fun a s'=>wpAny (model prog w) A (pure (some a)) Q E s') (fun e s'=>wpAny (model prog w) A (do if ←isInstance e (.type "AttributeError") then pure none else throw e) Q E s') s':=fun v s' z=>wpAny_mono z (fun _ _ q=>wpAny_pure q) fun _ _ q=>q.elim
 refine wpAny_mono (h _) (fun fin s' z=>?_) fun _ _ z=>z.elim
 cases fin with
 | done f=>cases f with
  | ret v=>exact fin1 v s' z
  | _=>exact z.elim
 | again c'=>
  obtain⟨z1,z2⟩:=z
  refine⟨z1,codeAny_mono z2 fun r s'' q=>?_⟩
  cases r with
  | error e=>exact q.elim
  | ok f=>cases f with
   | ret v=>exact fin1 v s'' q
   | _=>exact q.elim
theorem findObj_data'{a g:Value}(hc:(clsIn K C).isSome=true)(ha:findIn K (.ref C) name=some (some a))(hg:specialIn K a "__get__"=some (some g))(ht:takesIn K a=some true):findObj K C od name=some (.bind g a):=by
 obtain⟨cd,hc⟩:=Option.isSome_iff_exists.mp hc
 unfold findObj
 rw [hc,Option.bind_some,ha,Option.bind_some]
 simp [hg,ht]
theorem ECls.some(c:ECls K C):(clsIn K C).isSome=true:=by
 obtain⟨cd,hc,_⟩:=any_some c.hd
 rw [hc];rfl
theorem exc_class{Q:Option Value->Shared->Prop}(c:ECls K C)(X:K.In s.heap)(I:InstAt s.heap x ox C od)(hq:Q (some (.ref C)) { s with toks:=s.toks+1 }):wpAny (model prog w) A (getAttr? (.ref x) "__class__") Q E s:=by
 have hf:findObj K C od "__class__"=some (.bind (.builtin "getset_descriptor.__get__") (.builtin "object.__class__")):=findObj_data' c.some c.cl c.sp c.tk
 refine exc_get? c X I fun A'=>?_
 have L0:=I.type (M:=model prog w)
 have L1:=looks_find (M:=model prog w) X I hf
 have cg:∀ {A:Around} {R:Result->Shared->Prop},R (.ok (.ret (.ref C))) { s with toks:=s.toks+1 }->codeAny (model prog w) A (.call (.builtin "getset_descriptor.__get__") ⟨[.builtin "object.__class__",.ref x,.ref C],[]⟩) R { s with toks:=s.toks+1 }:=fun h=>class_get (s:={ s with toks:=s.toks+1 }) (ox:=ox) (od:=od) X I c.mo h
 obtain⟨hh,gg,d,t,os⟩:=s
 refine wpAny_bind (wpAny_pure (wpAny_bind (wpAny_pure (wpAny_bind (L0.at (wpAny_bind (L1.at ?_)))))))
 show wpAny _ _ (do ret (←holding [.builtin "object.__class__"] (call (.builtin "getset_descriptor.__get__") [.builtin "object.__class__",.ref x,.ref C]))) _ _ _
 exact wpAny_bind (wpAny_holding (wpAny_call (cg (wpAny_pure (show FinP _ _ _ (.done (.ret (.ref C))) _ from handed_on rfl hq)))))
theorem kitx_exc(c:ECls K C):KitX K (.ref x) (.ref C) (fun h=>InstAt h x ox C od) where
 ty:=fun _ _ _ I=>I.type
 it:=fun _ _ X _=>by
  obtain⟨cdD,hcD,_⟩:=any_some c.hd
  unfold clsIn at hcD
  split at hcD
  ·rename_i c' d' cd' sl' ho
   intro A' Q' E' s' k q
   unfold isType loadHead
   exact wpAny_bind (wpAny_loadPart (k _ _ (X _ _ ho)) (wpAny_pure q))
  ·cases hcD
 ne:=fun h tp dd its n sl X htp=>by
  obtain⟨cdD,hcD,_⟩:=any_some c.hd
  refine Bool.eq_false_iff.mpr fun q=>?_
  have e:C=tp:=Value.ref.inj (beq_iff_eq.mp q)
  subst e
  unfold clsIn at hcD
  split at hcD
  ·rename_i c' d' cd' sl' ho
   have z:=(X _ _ ho).symm.trans htp
   cases z
  ·cases hcD
 ca:=fun X I k=>exc_class c X I k
end
end L2
set_option Elab.async false
set_option linter.all false
set_option maxRecDepth 100000
set_option maxHeartbeats 4000000
namespace L2
open PySem PySem.Spec PyProof.Rows
def excO(oe:Obj):HO:=.frz oe (.ext fun _=>True)
structure NewAt(X:Cx)(pins:List (Addr × Obj))(e:Addr):Prop where
 s0:X.s₀.heap.get? e=none
 loc:e ≠ X.env.locals
 cel:∀ x c,X.env.cells.lookup x=some c->c ≠ e
 fs:e ∉ X.fs
 pin:∀ p∈X.pn++pins,p.1 ≠ e
section
variable {X:Cx}
theorem NewAt.of{pins:List (Addr × Obj)}{σ:St}{H:Hp}{s:Shared}{e:Addr}(I:Inv X pins σ H s)(hx:X.ex=[])(h:s.heap.get? e=none):NewAt X pins e where
 s0:=by
  cases q:X.s₀.heap.get? e with
  | none=>rfl
  | some o=>
   obtain⟨o',z⟩:=I.base.there e o q (by rw [hx];simp)
   rw [h] at z;cases z
 loc:=fun z=>by
  obtain⟨m,⟨o,_,_,q,_⟩,_⟩:=I.loc
  rw [←z,h] at q;cases q
 cel:=fun x c q z=>by
  obtain⟨v,o,r,_⟩:=I.cell x c q
  rw [z,h] at r;cases r
 fs:=fun z=>by
  obtain⟨_,o,q,_⟩:=I.funs.mem z
  rw [h] at q;cases q
 pin:=fun p hp z=>by
  have q:=(I.pin p hp).1
  rw [z,h] at q;cases q
theorem Inv.track{pins:List (Addr × Obj)}{σ:St}{H:Hp}{s:Shared}{e:Addr}{oe:Obj}(I:Inv X pins σ H s)(N:NewAt X pins e)(he:s.heap.get? e=some oe)(hn:H e=none):Inv X pins σ (upd H e (excO oe)) s:=by
 have ne:∀ {b:Addr} {o:HO},H b=some o->b ≠ e:=fun q z=>by rw [z,hn] at q;cases q
 refine⟨I.ok,I.os,I.bare,⟨I.base.keep,I.base.slot,fun b o q n hx=>?_,I.base.there,fun b xs q=>?_,fun b o u q=>?_,fun b ps q=>?_⟩,I.loc,I.cell,?_,fun x c q=>?_,fun p hp=>?_,fun b o q=>?_,I.len⟩
 ·rw [upd_ne (fun z=>by rw [z,N.s0] at q;cases q)];exact I.base.free b o q n hx
 ·have z:=I.base.tups b xs q;rw [upd_ne (ne z)];exact z
 ·have z:=I.base.frzs b o u q;rw [upd_ne (ne z)];exact z
 ·obtain⟨m,z⟩:=I.base.tbls b ps q;exact⟨m,by rw [upd_ne (ne z)];exact z⟩
 ·rw [upd_ne (Ne.symm N.loc)];exact I.free
 ·rw [upd_ne (N.cel x c q)];exact I.freeC x c q
 ·obtain⟨a,b,c,d,f⟩:=I.pin p hp
  exact⟨a,by rw [upd_ne (N.pin p hp)];exact b,c,d,f⟩
 ·by_cases hb:b=e
  ·subst hb
   rw [upd_same] at q
   cases q
   exact⟨he,trivial,⟨oe,he⟩,fun _ _ _ _=>trivial⟩
  ·rw [upd_ne hb] at q
   exact(I.hok b o q).stay (fun _ _ _ r=>r) (fun c r=>by rw [upd_ne (ne r)];exact r) (fun c y r=>by rw [upd_ne (ne r)];exact r) fun c xs r=>by rw [upd_ne (ne r)];exact r
def PHs(X:Cx)(hs:List ExceptHandler)(th:Value->Option Addr->TS):Prop:=
 ∀ (pins:List (Addr × Obj)) (s:Shared) (σ:St) (H:Hp) (D:Ends) (e T:Addr) (cls:Value) (d:Option Addr),Inv X pins σ H s->NewAt X pins e->H e=none->ExcAt s.heap e cls d T->th cls d D σ H->wpAny (model X.prog X.w) X.A (handleBy (.ref e) X.env hs) (SP X pins D) X.xe s
theorem flight1{M:Model}{A:Around}{E:Value->Shared->Prop}{s:Shared}{e T:Addr}{cls:Value}{d:Option Addr}{Q:Unit->Shared->Prop}(x:ExcAt s.heap e cls d T)(hQ:∀ h',(∀ b o,s.heap.get? b=some o->h'.get? b=some o)->Q () { s with heap:=h' }) :
  wpAny M A (setFlight (.ref e) none) Q E s:=by
 obtain⟨oe,vs,oT,ts,he,rfl,rfl,hd,h1,ne,hT,hdT,h3,h2c⟩:=x
 unfold setFlight
 refine wpAny_bind (wpAny_field he hd h1 ?_)
 rw [if_pos (show (Value.ref T != Value.none)=true from by simp)]
 refine wpAny_setField hT hdT (Array.getElem?_eq_some_iff.mp h3).1 (hQ _ fun b o q=>?_)
 by_cases hb:b=T
 ·subst hb
  rw [hT] at q;cases q
  have same:Obj.mapFields (·.setIfInBounds 3 ((none:Option Addr).elim Value.none fun f=>rawInt f)) oT=oT:=by
   obtain⟨c,d,dat,sl⟩:=oT
   cases hdT
   have e3:ts.setIfInBounds 3 ((none:Option Addr).elim Value.none fun f=>rawInt f)=ts:=by
    apply Array.ext_getElem?
    intro i
    by_cases hi:i=3
    ·subst hi
     obtain⟨hlt,hv⟩:=Array.getElem?_eq_some_iff.mp h3
     simp [Array.getElem?_setIfInBounds,hlt,hv]
    ·rw [Array.getElem?_setIfInBounds_ne (Ne.symm hi)]
   show (⟨c,d,.fields (ts.setIfInBounds 3 ((none:Option Addr).elim Value.none fun f=>rawInt f)),sl⟩:Obj)=_
   rw [e3]
  have:=Heap.get?_update_self (Obj.mapFields (·.setIfInBounds 3 ((none:Option Addr).elim Value.none fun f=>rawInt f))) hT (Obj.isFreed_of_fields (Obj.data_mapFields hdT _))
  rw [same] at this
  exact this
 ·rw [Heap.get?_update_other _ _ (Ne.symm hb)]
  exact q
def tLost:Value->Option Addr->TS:=fun _ _ _ _ _=>False
theorem phs_nil:PHs X [] tLost:=fun _ _ _ _ _ _ _ _ _ _ _ _ _ h=>h.elim
theorem SP.unmark{pins:List (Addr × Obj)}{D:Ends}{f:Flow}{s2:Shared}{e:Addr}(ok:X.Ok)(q:SP (X.mark e) pins D f s2):SP X pins D f s2:=by
 cases f with
 | next=>obtain⟨σ',H',J,q⟩:=q;exact⟨σ',H',J.unmark ok,q⟩
 | brk=>obtain⟨σ',H',J,q⟩:=q;exact⟨σ',H',J.unmark ok,q⟩
 | cont=>obtain⟨σ',H',J,q⟩:=q;exact⟨σ',H',J.unmark ok,q⟩
 | ret u=>obtain⟨v,σ',H',J,r,q⟩:=q;exact⟨v,σ',H',J.unmark ok,r,q⟩
theorem exc_ty{M:Model}{h:Heap}{e T:Addr}{cls:Value}{d:Option Addr}(ex:ExcAt h e cls d T):PySem.W.Looks M h (typeOf (.ref e)) cls:=by
 obtain⟨oe,vs,oT,ts,he,rfl,_⟩:=ex
 exact(PySem.W.Looks.ld he).andThen .now
def gDel(i:Nat):St->Hp->(St->Hp->Prop)->Prop:=fun σ H Q=>Q (σ.set i none) H
def kDel(i:Nat)(nx:St->Hp->Prop):St->Hp->Prop:=fun σ H=>gDel i σ H nx
def Ends.del(i:Nat)(D:Ends):Ends:=⟨kDel i D.nx,D.rt,kDel i D.bk,kDel i D.ct⟩
theorem gone_ok{M:Model}{A:Around}{E:Value->Shared->Prop}{pins:List (Addr × Obj)}{σ:St}{H:Hp}{s:Shared}{i:Nat}{x:Str}{pos:Pos}{Q:Unit->Shared->Prop}(I:Inv X pins σ H s)(hi:X.N[i]? = some x)(hk:X.env.scope.names.lookup x=some .local)(hN:X.N.Nodup)
  (h:∀ s',Inv X pins (σ.set i none) H s'->Q () s'):wpAny M A (do bindName X.env x .none;unbindBehindTheSuite X.env x pos) Q E s:=by
 obtain⟨m,hn,hl⟩:=id I.loc
 have hcls:(X.env.scope.kind == .class || (X.env.scope.kind == .module && X.env.locals != X.env.globals))=false:=by rw [I.ok.kind];rfl
 have cne:=I.cne
 refine PySem.wpAny_nameGoes_keeps hk hn hcls fun h' v hn' hs=>?_
 obtain⟨oL,_,_,hoL,_⟩:=id hn
 refine h _ ⟨I.ok,I.os,I.bare,⟨fun b o e n hb hx=>?_,fun b o e n hb hx=>?_,I.base.free,fun b o e hx=>?_,I.base.tups,I.base.frzs,I.base.tbls⟩,⟨_,hn',fun j y v' e1 e2 e3=>?_⟩,fun y c e=>?_,I.free,I.freeC,fun p hp=>?_,fun b ob e=>?_,by simpa using I.len⟩
 ·exact(hs.2 b (Nat.ne_of_lt (Nat.lt_of_lt_of_le (Heap.lt_size e) I.ok.above))).trans (I.base.keep b o e n hb hx)
 ·obtain⟨sl,e1⟩:=I.base.slot b o e n hb hx
  exact⟨sl,(hs.2 b (Nat.ne_of_lt (Nat.lt_of_lt_of_le (Heap.lt_size e) I.ok.above))).trans e1⟩
 ·obtain⟨o',e1⟩:=I.base.there b o e hx
  exact⟨o',(hs.2 b (Nat.ne_of_lt (Nat.lt_of_lt_of_le (Heap.lt_size e) I.ok.above))).trans e1⟩
 ·have hj:j ≠ i:=by
   rintro rfl
   by_cases hlt:j < σ.length
   ·rw [List.getElem?_set_self hlt] at e2;cases e2
   ·rw [List.getElem?_eq_none (by simpa using Nat.le_of_not_lt hlt)] at e2;cases e2
  rw [List.getElem?_set_ne (Ne.symm hj)] at e2
  obtain⟨u',r',q⟩:=hl j y v' e1 e2 e3
  refine⟨u',r',?_⟩
  rcases q with ⟨k,e⟩|⟨k,c,e,z⟩
  ·refine .inl ⟨k,?_⟩
   have:y ≠ x:=fun e=>hj (nodup_ix hN e1 (e ▸ hi))
   simp [this,e]
  ·exact .inr ⟨k,c,e,z.sameBut hs (cne y c e)⟩
 ·obtain⟨w',z⟩:=I.cell y c e
  exact⟨w',z.sameBut hs (cne y c e)⟩
 ·obtain⟨e,n,ne,nf,d⟩:=I.pin p hp
  exact⟨(hs.2 p.1 ne).trans e,n,ne,nf,d⟩
 ·refine(I.hok b ob e).stay (fun c w' hc q=>(hs.2 c ?_).trans q) (fun _ q=>q) (fun _ _ q=>q) fun _ _ q=>q
  rintro rfl
  rcases hc with rfl|hc
  ·rw [I.free] at e;cases e
  ·rw [I.free] at hc;cases hc
def tExcAs(K:PySem.W.Frag)(C:Value)(i:Nat)(tb:TS)(tr:Value->Option Addr->TS):Value->Option Addr->TS:=fun cls d D σ H=>∃ b,PySem.W.exmOne K cls C=some b ∧
 if b=true then ∀ (e:Addr) (oe:Obj),H e=none->oe.cls=cls->oe.dict=d->(∃ vs,oe.data=.fields vs)->tb (D.del i) (σ.set i (some (.ref e))) (upd H e (excO oe)) else tr cls d D σ H
theorem phs_as{x n:Str}{i:Nat}{np pos:Pos}{b₀:Stmt}{body:List Stmt}{rest:List ExceptHandler}{C:Value}{tb:TS}{tr:Value->Option Addr->TS}(hN:X.N.Nodup)(hi:X.N[i]? = some n)(hk:X.env.scope.names.lookup n=some .local)(hg:Gl X x)(hm:X.mg x=some C∨(X.mg x=none∧bootBuiltins x=some C∧x ≠ "__name__"))(hb:∀ e,PSs (X.mark e) (b₀::body) tb)(hr:PHs X rest tr)
  (hdb:(x == ("__debug__":Str))=false:=by decide):PHs X (.ExceptHandler (some (.Name x np)) (some n) (b₀::body) pos::rest) (tExcAs X.K C i tb tr):=by
 intro pins s σ H D e T cls d I N hn ex h
 obtain⟨b,hx,h⟩:=h
 have Im:=I.mark e
 have ld:∀ {Q:Value->Shared->Prop} {E:Value->Shared->Prop},Q C s->wpAny (model X.prog X.w) (X.A.mark (some (.ref e))) (eval (.Name x np) X.env) Q E s:=fun {Q E} q=>by
  rcases hm with z|⟨z1,z2,z3⟩
  ·exact ld_glob (X:=X.mark e) Im hg z q hdb
  ·exact ld_blt (X:=X.mark e) Im hg z1 z2 q z3 hdb
 refine PySem.wpAny_handleBy_cons (PySem.codeAny_handlers_test (ld ((PySem.W.exm_one I.kIn (exc_ty ex) hx).here ?_))) (by intro q;cases q)
 cases b with
 | false=>
  rw [if_neg Bool.false_ne_true] at h
  exact hr pins s σ H D e T cls d I N hn ex h
 | true=>
  rw [if_pos rfl] at h
  refine PySem.codeAny_handlers_suite_as (flight1 ex fun h' kp=>?_)
  obtain⟨oe,vs,oT,ts,he,hc,hd,hdat,_⟩:=ex
  have N':NewAt (X.mark e) pins e:=⟨N.s0,N.loc,N.cel,N.fs,N.pin⟩
  have I':Inv (X.mark e) pins σ (upd H e (excO oe)) { s with heap:=h' }:=(Im.kept (t':=s.toks) kp).track N' (kp _ _ he) hn
  refine store_ok (X:=X.mark e) I' hN hi (.inl hk) (show RelV (.ref e) (.ref e) from rfl) (fun s1 I1=>?_) (.inr hk)
  refine wpAny_mono (hb e pins s1 _ _ (D.del i) I1 (h e oe hn hc hd ⟨vs,hdat⟩)) (fun f s2 q=>?_) fun _ _ z=>z.elim
  show wpAny _ X.A _ _ _ s2
  have q':=SP.unmark I.ok q
  cases f with
  | next=>obtain⟨σ',H',J,q⟩:=q';exact gone_ok J hi hk hN fun s3 J3=>⟨_,H',J3,q⟩
  | brk=>obtain⟨σ',H',J,q⟩:=q';exact gone_ok J hi hk hN fun s3 J3=>⟨_,H',J3,q⟩
  | cont=>obtain⟨σ',H',J,q⟩:=q';exact gone_ok J hi hk hN fun s3 J3=>⟨_,H',J3,q⟩
  | ret u=>obtain⟨v,σ',H',J,r,q⟩:=q';exact gone_ok J hi hk hN fun s3 J3=>⟨v,_,H',J3,r,q⟩
def tTry(tb:(St->XK)->TS)(th:Value->Option Addr->TS):TS:=fun D σ H=>tb (fun σ' cls d H'=>th cls d D σ' H') D σ H
abbrev Cx.tried(X:Cx)(E:Value->Shared->Prop)(pn:List (Addr × Obj)):Cx:={ X with xe:=E,pn:=pn }
theorem ps_try{body:List Stmt}{h₀:ExceptHandler}{hs:List ExceptHandler}{pos:Pos}{tb:(St->XK)->TS}{th:Value->Option Addr->TS}(hstk:X.stack=X.env::X.outer∧X.env.frame=some X.env.locals∧X.ex=[])
  (hb:∀ (EX:St->XK) (E:Value->Shared->Prop) (pn:List (Addr × Obj)),(∀ σ,PassAt (CX1 X.prog X.w) (X.tried E pn) (EX σ) σ)->PSs (X.tried E pn) body (tb EX)) (hh:PHs X (h₀::hs) th) :
  PS X (.Try body (h₀::hs) [] [] pos) (tTry tb th):=by
 intro pins s σ H D I h
 refine PySem.wpAny_Try_except ?_
 have okT:∀ E pn,(X.tried E pn).Ok:=fun E pn=>⟨I.ok.mod,I.ok.kind,I.ok.glob,I.ok.blt,I.ok.above,I.ok.inj,I.ok.has,I.ok.cab,I.ok.hd,I.ok.frames,I.ok.stk,I.ok.exf,I.ok.bs,I.ok.bsz,I.ok.noex,I.ok.exfs,I.ok.funs,I.ok.frf⟩
 have back:∀ {E:Value->Shared->Prop} {pins':List (Addr × Obj)} {σ':St} {H':Hp} {s':Shared},Inv (X.tried E (X.pn++pins)) pins' σ' H' s'->Inv X pins σ' H' s':=fun {E pins' σ' H' s'} J=>
  ⟨I.ok,J.os,J.bare,J.base,J.loc,J.cell,J.free,J.freeC,fun p hp=>J.pin p (List.mem_append_left _ hp),J.hok,J.len⟩
 have I0:∀ E,Inv (X.tried E (X.pn++pins)) [] σ H s:=fun E=>⟨okT E _,I.os,I.bare,I.base,I.loc,I.cell,I.free,I.freeC,fun p hp=>I.pin p (by simpa using hp),I.hok,I.len⟩
 refine thn (hb (fun σ' cls d H'=>th cls d D σ' H') _ (X.pn++pins) ?_ [] s σ H D (I0 _) h) fun f s1 q=>?_
 ·intro σ1 pins1 H1 s1 ev s2 I1 hc
  obtain⟨e,T,cls,dd,H',rfl,os,bare,un1,hok,ne,nT,He,HT,ex,hxd,hE⟩:=hc
  have I2:=I1.call' (ch:=[]) os un1 hok bare (fun b z=>absurd z (by simp))
  have nf:∀ b,s1.heap.get? b=none->b ∉ frs (X.env::X.outer):=fun b hb z=>by
   have st:=I1.stack
   have st':s1.heap.FunFrames X.base (X.env::X.outer):=by rw [←hstk.1];exact st
   obtain⟨_,o,q,_⟩:=st'.mem z
   rw [hb] at q;cases q
  have nb:X.base.get? T=none:=by
   cases q:X.base.get? T with
   | none=>rfl
   | some o=>
    have:=I1.bk T o q
    rw [nT] at this;cases this
  have fl:s2.heap.FunFrames X.base (X.env::X.outer):=by rw [←hstk.1];exact I2.stack
  have fr:X.A.frames=some (X.env::X.outer):=by rw [←hstk.1];exact I.ok.frames
  refine note_next (base:=X.base) (outer:=X.outer) fr fl hstk.2.1 ex (nf e ne) (nf T nT) nb fun g T' ng nT' ex'=>?_
  have fs:∀ b∈frs (X.env::X.outer),b∈frs X.stack:=fun b hb=>by rw [hstk.1];exact hb
  have I3:=I1.call' (s':={ s2 with heap:=g }) (ch:=[]) os (un1.noted ng ne (fun b z=>by rw [z];exact nT) fun b hb=>.inl (fs b hb)) (hok.noted ng He (fun b z=>by rw [z];exact HT) fun b hb=>I2.stkFree b (fs b hb)) bare (fun b z=>absurd z (by simp))
  exact hh pins _ σ1 H' D e T' cls dd (back I3) (NewAt.of (back I1) hstk.2.2 ne) He ex' hE
 ·cases f with
  | next=>obtain⟨σ',H',J,q⟩:=q;exact wpAny_execs_nil ⟨σ',H',back J,q⟩
  | brk=>obtain⟨σ',H',J,q⟩:=q;exact⟨σ',H',back J,q⟩
  | cont=>obtain⟨σ',H',J,q⟩:=q;exact⟨σ',H',back J,q⟩
  | ret u=>obtain⟨v,σ',H',J,r,q⟩:=q;exact⟨v,σ',H',back J,r,q⟩
def kXd:HO->Prop:=fun o=>match o with
 | .xd _=>True
 | _=>False
def dictO(H:Hp):Option Addr->Prop
 | none=>True
 | some dx=>∃ o,H dx=some o∧kXd o
theorem call_isiE:CallR X (.builtin "isinstance") (fun xs H Q=>∃ e oe C D b,xs=[.ref e,D]∧(∃ u,H e=some (.frz oe u))∧oe.cls=.ref C∧dictO H oe.dict∧(∃ vs,oe.data=.fields vs)∧ECls X.K C∧(∃ u,RelV D u∧PySem.W.kitOne X.K (.ref C) u=some b)∧Q (.bl b) H):=by
 intro pins s σ H xs us Q I r h
 obtain⟨e,oe,C,D,b,rfl,⟨uu,hH⟩,hc,hd,⟨vs,hv⟩,ec,⟨u,ru,hk⟩,q⟩:=h
 obtain⟨u1,u2,rfl,r1,r2⟩:=vals2 r
 cases (show u1=Value.ref e from r1)
 have hu:u2=u:=by
  cases D with
  | ref a=>exact(show u2=Value.ref a from r2).trans (show u=Value.ref a from ru).symm
  | ty n=>exact(show u2=Value.type n from r2).trans (show u=Value.type n from ru).symm
  | non=>exact(show u2=Value.none from r2).trans (show u=Value.none from ru).symm
  | bl b'=>exact(show u2=Value.bool b' from r2).trans (show u=Value.bool b' from ru).symm
  | int i=>obtain⟨t,rfl⟩:=ru;simp [PySem.W.kitOne,PySem.W.kitCls] at hk
  | str i=>obtain⟨t,rfl⟩:=ru;simp [PySem.W.kitOne,PySem.W.kitCls] at hk
  | byt i=>obtain⟨t,rfl⟩:=ru;simp [PySem.W.kitOne,PySem.W.kitCls] at hk
  | flt i=>obtain⟨t,rfl⟩:=ru;simp [PySem.W.kitOne,PySem.W.kitCls] at hk
 subst hu
 obtain⟨he,_⟩:=(show ObjOk X.prog X.w H s.heap e (.frz oe uu) from I.hok e _ hH)
 have hno:PySem.W.notCls oe=true:=by unfold PySem.W.notCls;rw [hv]
 cases q0:oe.dict with
 | none=>
  have J:PySem.W.InstAt s.heap e oe C none:=⟨he,hc,hno,by rw [q0];trivial⟩
  exact PySem.W.kia_one (kitx_exc ec) I.kIn J hk (fun z=>nomatch z) fun tk=>⟨.bl b,H,I.tok _,rfl,q⟩
 | some dx=>
  rw [q0] at hd
  obtain⟨o,ho,hx⟩:=hd
  cases o with
  | xd fs=>
   obtain⟨mA,hn,_⟩:=I.hok dx _ ho
   obtain⟨oD,hoD,_⟩:=lookIn_ns hn
   have J:PySem.W.InstAt s.heap e oe C (some oD):=⟨he,hc,hno,by rw [q0];exact hoD⟩
   exact PySem.W.kia_one (kitx_exc ec) I.kIn J hk (fun z=>nomatch z) fun tk=>⟨.bl b,H,I.tok _,rfl,q⟩
  | _=>exact hx.elim
end
end L2
set_option Elab.async false
set_option linter.all false
set_option maxRecDepth 100000
set_option maxHeartbeats 4000000
namespace L2
open PySem PySem.Spec PyProof.Rows PySem.W
section
variable {prog:Program}{w:World}{A:Around}{R:Result->Shared->Prop}{h:Heap}{g:Array GenState}{d:Drawn}{t:Nat}{os:OsState}{K:Frag}
variable {nm q:Str}{C N fI:Addr}{bs bm bmB:List Value}{hdct:Bool}{sn:List Str}{sub:List Value}{ab:Bool}{col:Option Bool}{dd:Option Addr}{k0 k1 k2 k3 k5:Option Value}{B Bn newId nid initId inN:String}{bmN:List Value}
end
section
variable {prog:Program}{w:World}{A:Around}{E:Value->Shared->Prop}{K:Frag}{x C:Addr}{s:Shared}{name:Str}{v:Value}
end
end L2
set_option Elab.async false
set_option linter.all false
set_option maxRecDepth 100000
set_option maxHeartbeats 4000000
namespace L2
open PySem PySem.Spec PyProof.Rows PySem.W
section
variable {prog:Program}{w:World}{A:Around}{E:Value->Shared->Prop}{s:Shared}{K:PySem.W.Frag}{x C dx:Addr}{ox:Obj}{od:Option Obj}{name:Str}{mA:Str->Option Value}{u:Value}
end
section
variable {prog:Program}{w:World}{A:Around}{E:Value->Shared->Prop}{h:Heap}{g:Array GenState}{d:Drawn}{t:Nat}{os:OsState}{e a0:Addr}{dct:Option Addr}
variable {nm q:Str}{C N:Addr}{bs bm bmB:List Value}{hdct:Bool}{sn:List Str}{sub:List Value}{ab:Bool}{col:Option Bool}{dd:Option Addr}{k0 k1 k2 k3 k5:Option Value}{B newId nid initId:String}
end
section
variable {X:Cx}{pins:List (Addr × Obj)}{σ:St}{H:Hp}{s:Shared}
end
end L2
set_option Elab.async false
set_option linter.all false
set_option maxRecDepth 100000
set_option maxHeartbeats 4000000
namespace L2
open PySem PySem.Spec PyProof.Rows PySem.W
section
variable {X:Cx}{e o value:Expr}{ta tv:TE}{f:Str}{pos pos':Pos}
end
def del(H:Hp)(e:Addr):Hp:=fun b=>if b=e then none else H b
section
variable {X:Cx}
end
end L2
set_option Elab.async false
set_option linter.all false
set_option maxRecDepth 100000
set_option maxHeartbeats 4000000
namespace L2
open PySem
open PySem.Spec PyProof.Rows
theorem gName_0{a:Option V}{v:V}{σ:St}{H:Hp}{Q:St->Hp->Prop}:gName 0 v (a::σ) H Q=Q (some v::σ) H:=rfl
theorem gName_1{a0:Option V}{a:Option V}{v:V}{σ:St}{H:Hp}{Q:St->Hp->Prop}:gName 1 v (a0::a::σ) H Q=Q (a0::some v::σ) H:=rfl
theorem gName_2{a0 a1:Option V}{a:Option V}{v:V}{σ:St}{H:Hp}{Q:St->Hp->Prop}:gName 2 v (a0::a1::a::σ) H Q=Q (a0::a1::some v::σ) H:=rfl
theorem gName_3{a0 a1 a2:Option V}{a:Option V}{v:V}{σ:St}{H:Hp}{Q:St->Hp->Prop}:gName 3 v (a0::a1::a2::a::σ) H Q=Q (a0::a1::a2::some v::σ) H:=rfl
theorem gName_4{a0 a1 a2 a3:Option V}{a:Option V}{v:V}{σ:St}{H:Hp}{Q:St->Hp->Prop}:gName 4 v (a0::a1::a2::a3::a::σ) H Q=Q (a0::a1::a2::a3::some v::σ) H:=rfl
theorem gName_5{a0 a1 a2 a3 a4:Option V}{a:Option V}{v:V}{σ:St}{H:Hp}{Q:St->Hp->Prop}:gName 5 v (a0::a1::a2::a3::a4::a::σ) H Q=Q (a0::a1::a2::a3::a4::some v::σ) H:=rfl
theorem gName_6{a0 a1 a2 a3 a4 a5:Option V}{a:Option V}{v:V}{σ:St}{H:Hp}{Q:St->Hp->Prop}:gName 6 v (a0::a1::a2::a3::a4::a5::a::σ) H Q=Q (a0::a1::a2::a3::a4::a5::some v::σ) H:=rfl
theorem gName_7{a0 a1 a2 a3 a4 a5 a6:Option V}{a:Option V}{v:V}{σ:St}{H:Hp}{Q:St->Hp->Prop}:gName 7 v (a0::a1::a2::a3::a4::a5::a6::a::σ) H Q=Q (a0::a1::a2::a3::a4::a5::a6::some v::σ) H:=rfl
def optK{α:Type}:Option α->(α->Prop)->Prop
 | some x,k=>k x
 | none,_=>False
theorem optK_some{α:Type}(x:α)(k:α->Prop):optK (some x) k=k x:=rfl
theorem optK_ex{α:Type}{o:Option α}{k:α->Prop}(h:optK o k):∃ x,o=some x∧k x:=by
 cases o with
 | none=>exact h.elim
 | some x=>exact⟨x,rfl,h⟩
def seqO:HO->Option (List V)
 | .lst xs=>some xs
 | .tup xs=>some xs
 | .frz _ (.lst xs)=>some xs
 | _=>none
def lstO:HO->Option (List V)
 | .lst xs=>some xs
 | _=>none
def tupO:HO->Option (List V)
 | .tup xs=>some xs
 | _=>none
def itemsAt(H:Hp)(p:Addr):Option (List V):=(H p).bind seqO
def lstAt(H:Hp)(p:Addr):Option (List V):=(H p).bind lstO
def tupAt(H:Hp)(p:Addr):Option (List V):=(H p).bind tupO
theorem seqO_lst(xs:List V):seqO (.lst xs)=some xs:=rfl
theorem seqO_tup(xs:List V):seqO (.tup xs)=some xs:=rfl
theorem lstO_lst(xs:List V):lstO (.lst xs)=some xs:=rfl
theorem tupO_tup(xs:List V):tupO (.tup xs)=some xs:=rfl
theorem bind_some'{α β:Type}(x:α)(f:α->Option β):(some x).bind f=f x:=rfl
abbrev Ext(H H':Hp):Prop:=(∀ a,(H a).isSome=true->H' a=H a)∧∀ (K:PySem.W.Frag) a xs,SqL K H a xs->SqL K H' a xs
def kOp'(r:R2)(x:V)(Q:VK):VK:=fun y H=>r x y H Q
theorem m_kOp'(r:R2)(x y:V)(H:Hp)(Q:VK):(kOp' r x Q y H)=(r x y H Q):=rfl
def kOp(r:R2)(tb:TE)(σ:St)(Q:VK):VK:=fun x H=>tb σ H (kOp' r x Q)
theorem m_kOp(r:R2)(tb:TE)(σ:St)(Q:VK)(x:V)(H:Hp):(kOp r tb σ Q x H)=(tb σ H (kOp' r x Q)):=rfl
theorem m_tOp(r:R2)(ta tb:TE)(σ:St)(H:Hp)(Q:VK):(tOp r ta tb σ H Q)=(ta σ H (kOp r tb σ Q)):=rfl
theorem m_tC(v:V)(σ:St)(H:Hp)(Q:VK):(tC v σ H Q)=(Q v H):=rfl
def kUn(r:V->Hp->VK->Prop)(Q:VK):VK:=fun x H=>r x H Q
theorem m_kUn(r:V->Hp->VK->Prop)(Q:VK)(x:V)(H:Hp):(kUn r Q x H)=(r x H Q):=rfl
theorem m_tUn(r:V->Hp->VK->Prop)(ta:TE)(σ:St)(H:Hp)(Q:VK):(tUn r ta σ H Q)=(ta σ H (kUn r Q)):=rfl
def rIsN:R2:=fun x y H Q=>y=.non∧Q (.bl (decide (x=.non))) H
def oV:Option Int->V
 | none=>.non
 | some i=>.int i
theorem m_rIsN_non(H:Hp)(Q:VK):rIsN (.non) .non H Q=Q (.bl true) H:=propext ⟨fun h=>h.2,fun h=>⟨rfl,h⟩⟩
theorem m_rIsN_int(i:Int)(H:Hp)(Q:VK):rIsN (.int i) .non H Q=Q (.bl false) H:=propext ⟨fun h=>h.2,fun h=>⟨rfl,h⟩⟩
theorem m_rIsN_ref(i:Addr)(H:Hp)(Q:VK):rIsN (.ref i) .non H Q=Q (.bl false) H:=propext ⟨fun h=>h.2,fun h=>⟨rfl,h⟩⟩
theorem m_rIsN_bl(i:Bool)(H:Hp)(Q:VK):rIsN (.bl i) .non H Q=Q (.bl false) H:=propext ⟨fun h=>h.2,fun h=>⟨rfl,h⟩⟩
theorem m_rIsN_str(i:Str)(H:Hp)(Q:VK):rIsN (.str i) .non H Q=Q (.bl false) H:=propext ⟨fun h=>h.2,fun h=>⟨rfl,h⟩⟩
def kTest(Q:Bool->Hp->Prop):VK:=fun x H=>∃ k,x=.bl k∧Q k H
def kNot(Q:Bool->Hp->Prop):Bool->Hp->Prop:=fun c H=>Q (!c) H
theorem m_kNot(Q:Bool->Hp->Prop)(c:Bool)(H:Hp):(kNot Q c H)=(Q (!c) H):=rfl
theorem m_tNot(t:TT)(σ:St)(H:Hp)(Q:Bool->Hp->Prop):(tNot t σ H Q)=(t σ H (kNot Q)):=rfl
def kAnd(u:TT)(σ:St)(Q:Bool->Hp->Prop):Bool->Hp->Prop:=fun c H=>if c=true then u σ H Q else Q false H
theorem m_kAnd(u:TT)(σ:St)(Q:Bool->Hp->Prop)(c:Bool)(H:Hp):(kAnd u σ Q c H)=(if c=true then u σ H Q else Q false H):=rfl
theorem m_tAnd(t u:TT)(σ:St)(H:Hp)(Q:Bool->Hp->Prop):(tAnd t u σ H Q)=(t σ H (kAnd u σ Q)):=rfl
def kOr(u:TT)(σ:St)(Q:Bool->Hp->Prop):Bool->Hp->Prop:=fun c H=>if c=true then Q true H else u σ H Q
theorem m_kOr(u:TT)(σ:St)(Q:Bool->Hp->Prop)(c:Bool)(H:Hp):(kOr u σ Q c H)=(if c=true then Q true H else u σ H Q):=rfl
theorem m_tOr(t u:TT)(σ:St)(H:Hp)(Q:Bool->Hp->Prop):(tOr t u σ H Q)=(t σ H (kOr u σ Q)):=rfl
def kAndV(tb:TE)(σ:St)(Q:VK):VK:=fun x H=>∃ c,x=.bl c∧if c=true then tb σ H Q else Q (.bl false) H
def kOrV(tb:TE)(σ:St)(Q:VK):VK:=fun x H=>∃ c,x=.bl c∧if c=true then Q (.bl true) H else tb σ H Q
def kNotV(Q:VK):VK:=fun x H=>∃ c,x=.bl c∧Q (.bl (!c)) H
theorem m_tNil(σ:St)(H:Hp)(Q:List V->Hp->Prop):(tNil σ H Q)=(Q [] H):=rfl
def kCons'(x:V)(Q:List V->Hp->Prop):List V->Hp->Prop:=fun xs H=>Q (x::xs) H
theorem m_kCons'(x:V)(Q:List V->Hp->Prop)(xs:List V)(H:Hp):(kCons' x Q xs H)=(Q (x::xs) H):=rfl
def kCons(tr:TA)(σ:St)(Q:List V->Hp->Prop):VK:=fun x H=>tr σ H (kCons' x Q)
theorem m_kCons(tr:TA)(σ:St)(Q:List V->Hp->Prop)(x:V)(H:Hp):(kCons tr σ Q x H)=(tr σ H (kCons' x Q)):=rfl
theorem m_tCons(ta:TE)(tr:TA)(σ:St)(H:Hp)(Q:List V->Hp->Prop):(tCons ta tr σ H Q)=(ta σ H (kCons tr σ Q)):=rfl
def kCall(sp:Sp)(dvs:List V)(E:XK)(Q:VK):List V->Hp->Prop:=fun vs H=>sp (vs++dvs) H Q E
theorem m_kCall_1(v0:V)(sp:Sp)(dvs:List V)(E:XK)(Q:VK)(H:Hp):kCall sp dvs E Q [v0] H=sp (v0::dvs) H Q E:=rfl
theorem m_kCall_2(v0 v1:V)(sp:Sp)(dvs:List V)(E:XK)(Q:VK)(H:Hp):kCall sp dvs E Q [v0,v1] H=sp (v0::v1::dvs) H Q E:=rfl
theorem m_kCall_3(v0 v1 v2:V)(sp:Sp)(dvs:List V)(E:XK)(Q:VK)(H:Hp):kCall sp dvs E Q [v0,v1,v2] H=sp (v0::v1::v2::dvs) H Q E:=rfl
theorem m_tCall(sp:Sp)(dvs:List V)(E:XK)(t:TA)(σ:St)(H:Hp)(Q:VK):(tCall sp dvs E t σ H Q)=(t σ H (kCall sp dvs E Q)):=rfl
def kCB(r:List V->Hp->VK->Prop)(Q:VK):List V->Hp->Prop:=fun vs H=>r vs H Q
theorem m_kCB(r:List V->Hp->VK->Prop)(Q:VK)(vs:List V)(H:Hp):(kCB r Q vs H)=(r vs H Q):=rfl
theorem m_tCB(r:List V->Hp->VK->Prop)(t:TA)(σ:St)(H:Hp)(Q:VK):(tCB r t σ H Q)=(t σ H (kCB r Q)):=rfl
theorem m_tNext(nx:St->Hp->Prop)(rt:VK)(bk ct:St->Hp->Prop)(σ:St)(H:Hp):(tNext ⟨nx,rt,bk,ct⟩ σ H)=(nx σ H):=rfl
theorem m_tSeq(t u:TS)(nx:St->Hp->Prop)(rt:VK)(bk ct:St->Hp->Prop)(σ:St)(H:Hp):(tSeq t u ⟨nx,rt,bk,ct⟩ σ H)=(t ⟨u ⟨nx,rt,bk,ct⟩,rt,bk,ct⟩ σ H):=rfl
theorem m_tRet(te:TE)(nx:St->Hp->Prop)(rt:VK)(bk ct:St->Hp->Prop)(σ:St)(H:Hp):(tRet te ⟨nx,rt,bk,ct⟩ σ H)=(te σ H rt):=rfl
def kDrop(nx:St->Hp->Prop)(σ:St):VK:=fun x H=>nx σ H
theorem m_kDrop(nx:St->Hp->Prop)(σ:St)(x:V)(H:Hp):(kDrop nx σ x H)=(nx σ H):=rfl
theorem m_tDrop(te:TE)(nx:St->Hp->Prop)(rt:VK)(bk ct:St->Hp->Prop)(σ:St)(H:Hp):(tDrop te ⟨nx,rt,bk,ct⟩ σ H)=(te σ H (kDrop nx σ)):=rfl
def kIfS(t u:TS)(D:Ends)(σ:St):Bool->Hp->Prop:=fun b H=>if b=true then t D σ H else u D σ H
theorem m_kIfS(t u:TS)(D:Ends)(σ:St)(b:Bool)(H:Hp):(kIfS t u D σ b H)=(if b=true then t D σ H else u D σ H):=rfl
theorem m_tIfS(c:TT)(t u:TS)(D:Ends)(σ:St)(H:Hp):(tIfS c t u D σ H)=(c σ H (kIfS t u D σ)):=rfl
def kAsg(g:TG)(σ:St)(nx:St->Hp->Prop):VK:=fun x H=>g x σ H nx
theorem m_kAsg(g:TG)(σ:St)(nx:St->Hp->Prop)(x:V)(H:Hp):(kAsg g σ nx x H)=(g x σ H nx):=rfl
theorem m_tAsg(te:TE)(g:TG)(nx:St->Hp->Prop)(rt:VK)(bk ct:St->Hp->Prop)(σ:St)(H:Hp):(tAsg te g ⟨nx,rt,bk,ct⟩ σ H)=(te σ H (kAsg g σ nx)):=rfl
end L2
set_option Elab.async false
set_option linter.all false
set_option maxRecDepth 100000
set_option maxHeartbeats 4000000
namespace L2
open PySem PySem.Spec PyProof.Rows
section
variable {X:Cx}
theorem OpR.mono{f:Value->Value->Sem Value}{r r':R2}(h:OpR X f r)(m:∀ x y H Q,r' x y H Q->r x y H Q):OpR X f r':=fun pins s σ H x y v u Q I rx ry hq=>h pins s σ H x y v u Q I rx ry (m _ _ _ _ hq)
theorem CallR.mono{f:Value}{r r':List V->Hp->VK->Prop}(h:CallR X f r)(m:∀ xs H Q,r' xs H Q->r xs H Q):CallR X f r':=fun pins s σ H xs us Q I rx hq=>h pins s σ H xs us Q I rx (m _ _ _ hq)
theorem IxR.mono{r r':R2}(h:IxR X r)(m:∀ x y H Q,r' x y H Q->r x y H Q):IxR X r':=fun a b pins s σ H x y v u Q I rx ry hq=>h a b pins s σ H x y v u Q I rx ry (m _ _ _ _ hq)
theorem SlR.mono{r r':V->Option Int->Option Int->Hp->VK->Prop}(h:SlR X r)(m:∀ x lo hi H Q,r' x lo hi H Q->r x lo hi H Q):SlR X r':=fun pins s σ H x v vl vu lo hi sl Q I rx a b c hq=>h pins s σ H x v vl vu lo hi sl Q I rx a b c (m _ _ _ _ _ hq)
theorem items_seq{K:PySem.W.Frag}{H:Hp}{p:Addr}{ys:List V}(h:itemsAt H p=some ys):SqL K H p ys∨SqT K H p ys:=by
 unfold itemsAt at h
 cases e:H p with
 | none=>rw [e] at h;cases h
 | some o=>
  rw [e] at h
  have h':seqO o=some ys:=h
  cases o with
  | lst xs=>cases h';exact .inl (SqL.of e)
  | tup xs=>cases h';exact .inr (SqT.of e)
  | frz ob u=>
   cases u with
   | lst xs=>cases h';exact .inl (.inl (.inr ⟨ob,e⟩))
   | _=>cases h'
  | _=>cases h'
theorem lst_of{H:Hp}{p:Addr}{ys:List V}(h:lstAt H p=some ys):H p=some (.lst ys):=by
 unfold lstAt at h
 cases e:H p with
 | none=>rw [e] at h;cases h
 | some o=>
  rw [e] at h
  have h':lstO o=some ys:=h
  cases o with
  | lst xs=>cases h';rfl
  | _=>cases h'
theorem tup_of{H:Hp}{p:Addr}{ys:List V}(h:tupAt H p=some ys):H p=some (.tup ys):=by
 unfold tupAt at h
 cases e:H p with
 | none=>rw [e] at h;cases h
 | some o=>
  rw [e] at h
  have h':tupO o=some ys:=h
  cases o with
  | tup xs=>cases h';rfl
  | _=>cases h'
def kLen(H:Hp)(Q:VK):List V->Prop:=fun ys=>Q (.int ys.length) H
theorem m_kLen(H:Hp)(Q:VK)(ys:List V):kLen H Q ys=Q (.int ys.length) H:=rfl
def qLen(xs:List V)(H:Hp)(Q:VK):Prop:=match xs with
 | [.ref p]=>optK (itemsAt H p) (kLen H Q)
 | [.str z]=>z.length≤sizeLine∧Q (.int z.length) H
 | _=>False
theorem m_qLen(p:Addr)(H:Hp)(Q:VK):qLen [.ref p] H Q=optK (itemsAt H p) (kLen H Q):=rfl
theorem call_qLen:CallR X (.builtin "len") qLen:=by
 refine(call_len_seq.or call_len_str).mono fun xs H Q h=>?_
 unfold qLen at h
 split at h
 ·rename_i p
  obtain⟨ys,e,q⟩:=optK_ex h
  exact .inl ⟨p,ys,rfl,items_seq e,q⟩
 ·rename_i z
  exact .inr ⟨z,rfl,h.1,h.2⟩
 ·exact h.elim
def kIx'(H:Hp)(Q:VK):V->Prop:=fun v=>Q v H
theorem m_kIx'(H:Hp)(Q:VK)(v:V):kIx' H Q v=Q v H:=rfl
def kIx(i:Int)(H:Hp)(Q:VK):List V->Prop:=fun ys=>optK (atI ys i) (kIx' H Q)
theorem m_kIx(i:Int)(H:Hp)(Q:VK)(ys:List V):kIx i H Q ys=optK (atI ys i) (kIx' H Q):=rfl
def qIx:R2:=fun x y H Q=>match x,y with
 | .ref p,.int i=>optK (itemsAt H p) (kIx i H Q)
 | _,_=>False
theorem m_qIx(p:Addr)(i:Int)(H:Hp)(Q:VK):qIx (.ref p) (.int i) H Q=optK (itemsAt H p) (kIx i H Q):=rfl
theorem ix_q:IxR X qIx:=by
 refine(ix_list.or ix_tup).mono fun x y H Q h=>?_
 unfold qIx at h
 split at h
 ·rename_i p i
  obtain⟨ys,e,q⟩:=optK_ex h
  obtain⟨v,e2,q2⟩:=optK_ex q
  rcases items_seq (K:=X.K) e with z|z
  ·exact .inl ⟨p,ys,i,v,rfl,rfl,z,e2,q2⟩
  ·exact .inr ⟨p,ys,i,v,rfl,rfl,z,e2,q2⟩
 ·exact h.elim
theorem atI_0{α:Type}(a:α)(xs:List α):atI (a::xs) 0=some a:=atI_nat (j:=0) rfl
theorem atI_1{α:Type}(a b:α)(xs:List α):atI (a::b::xs) 1=some b:=atI_nat (j:=1) rfl
theorem atI_2{α:Type}(a b c:α)(xs:List α):atI (a::b::c::xs) 2=some c:=atI_nat (j:=2) rfl
theorem atI_3{α:Type}(a b c d:α)(xs:List α):atI (a::b::c::d::xs) 3=some d:=atI_nat (j:=3) rfl
theorem atI_4{α:Type}(a b c d e:α)(xs:List α):atI (a::b::c::d::e::xs) 4=some e:=atI_nat (j:=4) rfl
def kNewL(H:Hp)(Q:VK):List V->Prop:=fun ys=>∀ l,H l=none->Q (.ref l) (upd H l (.lst ys))
def qList(xs:List V)(H:Hp)(Q:VK):Prop:=match xs with
 | [.ref p]=>optK (itemsAt H p) (kNewL H Q)
 | _=>False
theorem call_qList:CallR X (.type "list") qList:=by
 refine call_list_of.mono fun xs H Q h=>?_
 unfold qList at h
 split at h
 ·rename_i p
  obtain⟨ys,e,q⟩:=optK_ex h
  exact⟨p,ys,rfl,items_seq e,q⟩
 ·exact h.elim
def tyO:HO->Option String
 | .lst _=>some "list"
 | .tup _=>some "tuple"
 | .frz _ (.lst _)=>some "list"
 | .dK _=>some "dict"
 | .dT _=>some "dict"
 | _=>none
theorem tyO_lst(xs:List V):tyO (.lst xs)=some "list":=rfl
theorem tyO_tup(xs:List V):tyO (.tup xs)=some "tuple":=rfl
theorem tyO_dK(xs:List (Key × V)):tyO (.dK xs)=some "dict":=rfl
def tyN(H:Hp):V->Option String
 | .non=>some "NoneType"
 | .bl _=>some "bool"
 | .int _=>some "int"
 | .str _=>some "str"
 | .ref p=>(H p).bind tyO
 | _=>none
theorem tyN_non(H:Hp):tyN H .non=some "NoneType":=rfl
theorem tyN_bl(H:Hp)(b:Bool):tyN H (.bl b)=some "bool":=rfl
theorem tyN_int(H:Hp)(i:Int):tyN H (.int i)=some "int":=rfl
theorem tyN_str(H:Hp)(x:Str):tyN H (.str x)=some "str":=rfl
theorem tyN_ref(H:Hp)(p:Addr):tyN H (.ref p)=(H p).bind tyO:=rfl
theorem tyN_ok{K:PySem.W.Frag}{H:Hp}{x:V}{t:String}(h:tyN H x=some t):TyOf K H x (.type t):=by
 cases x with
 | non=>cases h;exact .non
 | bl b=>cases h;exact .bl b
 | int i=>cases h;exact .int i
 | str x=>cases h;exact .str x
 | ref p=>
  have h':(H p).bind tyO=some t:=h
  cases e:H p with
  | none=>rw [e] at h';cases h'
  | some o=>
   rw [e] at h'
   have h2:tyO o=some t:=h'
   cases o with
   | lst xs=>cases h2;exact .lst e
   | tup xs=>cases h2;exact .tup e
   | dK xs=>cases h2;exact .dK e
   | dT xs=>cases h2;exact .dT e
   | frz ob u=>
    cases u with
    | lst xs=>cases h2;exact .frz e
    | _=>cases h2
   | _=>cases h2
 | _=>cases h
def kTypes:List String:=["NoneType", "bool", "int", "str", "list", "tuple", "dict"]
def isiN(t n:String):Bool:=t == n || (t == "bool" && n == "int")
theorem kit_isiN(K:PySem.W.Frag):∀ t∈kTypes,∀ n∈kTypes,PySem.W.kitOne K (.type t) (.type n)=some (isiN t n):=by
 intro t ht n hn
 unfold kTypes at ht hn
 simp only [List.mem_cons,List.not_mem_nil,or_false] at ht hn
 rcases ht with rfl|rfl|rfl|rfl|rfl|rfl|rfl<;>rcases hn with rfl|rfl|rfl|rfl|rfl|rfl|rfl<;>exact kitOne_ty K _ _ _ (by decide +kernel)
def kIsi(n:String)(H:Hp)(Q:VK):String->Prop:=fun t=>t∈kTypes∧Q (.bl (isiN t n)) H
def qIsi(xs:List V)(H:Hp)(Q:VK):Prop:=match xs with
 | [x,.ty n]=>n∈kTypes∧optK (tyN H x) (kIsi n H Q)
 | _=>False
theorem call_qIsi:CallR X (.builtin "isinstance") qIsi:=by
 refine call_isi.mono fun xs H Q h=>?_
 unfold qIsi at h
 split at h
 ·rename_i x n
  obtain⟨hn,h⟩:=h
  obtain⟨t,e,ht,q⟩:=optK_ex h
  exact⟨x,n,_,_,rfl,tyN_ok e,kit_isiN _ t ht n hn,q⟩
 ·exact h.elim
theorem m_qIsi_int(x:V)(H:Hp)(Q:VK):qIsi [x,.ty "int"] H Q=optK (tyN H x) (kIsi "int" H Q):=by
 unfold qIsi;exact propext ⟨fun h=>h.2,fun h=>⟨by decide,h⟩⟩
theorem m_qIsi_bool(x:V)(H:Hp)(Q:VK):qIsi [x,.ty "bool"] H Q=optK (tyN H x) (kIsi "bool" H Q):=by
 unfold qIsi;exact propext ⟨fun h=>h.2,fun h=>⟨by decide,h⟩⟩
theorem m_qIsi_tuple(x:V)(H:Hp)(Q:VK):qIsi [x,.ty "tuple"] H Q=optK (tyN H x) (kIsi "tuple" H Q):=by
 unfold qIsi;exact propext ⟨fun h=>h.2,fun h=>⟨by decide,h⟩⟩
theorem m_qIsi_list(x:V)(H:Hp)(Q:VK):qIsi [x,.ty "list"] H Q=optK (tyN H x) (kIsi "list" H Q):=by
 unfold qIsi;exact propext ⟨fun h=>h.2,fun h=>⟨by decide,h⟩⟩
theorem m_qIsi_str(x:V)(H:Hp)(Q:VK):qIsi [x,.ty "str"] H Q=optK (tyN H x) (kIsi "str" H Q):=by
 unfold qIsi;exact propext ⟨fun h=>h.2,fun h=>⟨by decide,h⟩⟩
theorem m_kIsi_Nb(H:Hp)(Q:VK):kIsi "bool" H Q "NoneType"=Q (.bl false) H:=propext ⟨fun h=>h.2,fun h=>⟨by decide,h⟩⟩
theorem m_kIsi_Ni(H:Hp)(Q:VK):kIsi "int" H Q "NoneType"=Q (.bl false) H:=propext ⟨fun h=>h.2,fun h=>⟨by decide,h⟩⟩
theorem m_kIsi_Ns(H:Hp)(Q:VK):kIsi "str" H Q "NoneType"=Q (.bl false) H:=propext ⟨fun h=>h.2,fun h=>⟨by decide,h⟩⟩
theorem m_kIsi_Nl(H:Hp)(Q:VK):kIsi "list" H Q "NoneType"=Q (.bl false) H:=propext ⟨fun h=>h.2,fun h=>⟨by decide,h⟩⟩
theorem m_kIsi_Nt(H:Hp)(Q:VK):kIsi "tuple" H Q "NoneType"=Q (.bl false) H:=propext ⟨fun h=>h.2,fun h=>⟨by decide,h⟩⟩
theorem m_kIsi_bb(H:Hp)(Q:VK):kIsi "bool" H Q "bool"=Q (.bl true) H:=propext ⟨fun h=>h.2,fun h=>⟨by decide,h⟩⟩
theorem m_kIsi_bi(H:Hp)(Q:VK):kIsi "int" H Q "bool"=Q (.bl true) H:=propext ⟨fun h=>h.2,fun h=>⟨by decide,h⟩⟩
theorem m_kIsi_bs(H:Hp)(Q:VK):kIsi "str" H Q "bool"=Q (.bl false) H:=propext ⟨fun h=>h.2,fun h=>⟨by decide,h⟩⟩
theorem m_kIsi_bl(H:Hp)(Q:VK):kIsi "list" H Q "bool"=Q (.bl false) H:=propext ⟨fun h=>h.2,fun h=>⟨by decide,h⟩⟩
theorem m_kIsi_bt(H:Hp)(Q:VK):kIsi "tuple" H Q "bool"=Q (.bl false) H:=propext ⟨fun h=>h.2,fun h=>⟨by decide,h⟩⟩
theorem m_kIsi_ib(H:Hp)(Q:VK):kIsi "bool" H Q "int"=Q (.bl false) H:=propext ⟨fun h=>h.2,fun h=>⟨by decide,h⟩⟩
theorem m_kIsi_ii(H:Hp)(Q:VK):kIsi "int" H Q "int"=Q (.bl true) H:=propext ⟨fun h=>h.2,fun h=>⟨by decide,h⟩⟩
theorem m_kIsi_is(H:Hp)(Q:VK):kIsi "str" H Q "int"=Q (.bl false) H:=propext ⟨fun h=>h.2,fun h=>⟨by decide,h⟩⟩
theorem m_kIsi_il(H:Hp)(Q:VK):kIsi "list" H Q "int"=Q (.bl false) H:=propext ⟨fun h=>h.2,fun h=>⟨by decide,h⟩⟩
theorem m_kIsi_it(H:Hp)(Q:VK):kIsi "tuple" H Q "int"=Q (.bl false) H:=propext ⟨fun h=>h.2,fun h=>⟨by decide,h⟩⟩
theorem m_kIsi_sb(H:Hp)(Q:VK):kIsi "bool" H Q "str"=Q (.bl false) H:=propext ⟨fun h=>h.2,fun h=>⟨by decide,h⟩⟩
theorem m_kIsi_si(H:Hp)(Q:VK):kIsi "int" H Q "str"=Q (.bl false) H:=propext ⟨fun h=>h.2,fun h=>⟨by decide,h⟩⟩
theorem m_kIsi_ss(H:Hp)(Q:VK):kIsi "str" H Q "str"=Q (.bl true) H:=propext ⟨fun h=>h.2,fun h=>⟨by decide,h⟩⟩
theorem m_kIsi_sl(H:Hp)(Q:VK):kIsi "list" H Q "str"=Q (.bl false) H:=propext ⟨fun h=>h.2,fun h=>⟨by decide,h⟩⟩
theorem m_kIsi_st(H:Hp)(Q:VK):kIsi "tuple" H Q "str"=Q (.bl false) H:=propext ⟨fun h=>h.2,fun h=>⟨by decide,h⟩⟩
theorem m_kIsi_li(H:Hp)(Q:VK):kIsi "int" H Q "list"=Q (.bl false) H:=propext ⟨fun h=>h.2,fun h=>⟨by decide,h⟩⟩
theorem m_kIsi_ls(H:Hp)(Q:VK):kIsi "str" H Q "list"=Q (.bl false) H:=propext ⟨fun h=>h.2,fun h=>⟨by decide,h⟩⟩
theorem m_kIsi_ll(H:Hp)(Q:VK):kIsi "list" H Q "list"=Q (.bl true) H:=propext ⟨fun h=>h.2,fun h=>⟨by decide,h⟩⟩
theorem m_kIsi_lt(H:Hp)(Q:VK):kIsi "tuple" H Q "list"=Q (.bl false) H:=propext ⟨fun h=>h.2,fun h=>⟨by decide,h⟩⟩
theorem m_kIsi_ti(H:Hp)(Q:VK):kIsi "int" H Q "tuple"=Q (.bl false) H:=propext ⟨fun h=>h.2,fun h=>⟨by decide,h⟩⟩
theorem m_kIsi_ts(H:Hp)(Q:VK):kIsi "str" H Q "tuple"=Q (.bl false) H:=propext ⟨fun h=>h.2,fun h=>⟨by decide,h⟩⟩
theorem m_kIsi_tl(H:Hp)(Q:VK):kIsi "list" H Q "tuple"=Q (.bl false) H:=propext ⟨fun h=>h.2,fun h=>⟨by decide,h⟩⟩
theorem m_kIsi_tt(H:Hp)(Q:VK):kIsi "tuple" H Q "tuple"=Q (.bl true) H:=propext ⟨fun h=>h.2,fun h=>⟨by decide,h⟩⟩
theorem m_kIsi_di(H:Hp)(Q:VK):kIsi "int" H Q "dict"=Q (.bl false) H:=propext ⟨fun h=>h.2,fun h=>⟨by decide,h⟩⟩
theorem m_kIsi_ds(H:Hp)(Q:VK):kIsi "str" H Q "dict"=Q (.bl false) H:=propext ⟨fun h=>h.2,fun h=>⟨by decide,h⟩⟩
theorem m_kIsi_dl(H:Hp)(Q:VK):kIsi "list" H Q "dict"=Q (.bl false) H:=propext ⟨fun h=>h.2,fun h=>⟨by decide,h⟩⟩
theorem m_kIsi_dt(H:Hp)(Q:VK):kIsi "tuple" H Q "dict"=Q (.bl false) H:=propext ⟨fun h=>h.2,fun h=>⟨by decide,h⟩⟩
def kBM'(r:V->List V->Hp->VK->Prop)(x:V)(Q:VK):List V->Hp->Prop:=fun xs H=>r x xs H Q
theorem m_kBM'(r:V->List V->Hp->VK->Prop)(x:V)(Q:VK)(xs:List V)(H:Hp):kBM' r x Q xs H=r x xs H Q:=rfl
def kBM(K:PySem.W.Frag)(T:String)(r:V->List V->Hp->VK->Prop)(t:TA)(σ:St)(Q:VK):VK:=fun x H=>tyV K T x H∧t σ H (kBM' r x Q)
theorem m_kBM(K:PySem.W.Frag)(T:String)(r:V->List V->Hp->VK->Prop)(t:TA)(σ:St)(Q:VK)(x:V)(H:Hp):kBM K T r t σ Q x H=(tyV K T x H∧t σ H (kBM' r x Q)):=rfl
theorem m_tBM(K:PySem.W.Frag)(T:String)(r:V->List V->Hp->VK->Prop)(to:TE)(t:TA)(σ:St)(H:Hp)(Q:VK):tBM K T r to t σ H Q=to σ H (kBM K T r t σ Q):=rfl
def kBM0(K:PySem.W.Frag)(T:String)(r:V->List V->Hp->VK->Prop)(Q:VK):VK:=fun x H=>tyV K T x H∧r x [] H Q
theorem m_kBM0(K:PySem.W.Frag)(T:String)(r:V->List V->Hp->VK->Prop)(Q:VK)(x:V)(H:Hp):kBM0 K T r Q x H=(tyV K T x H∧r x [] H Q):=rfl
theorem m_tBM0(K:PySem.W.Frag)(T:String)(r:V->List V->Hp->VK->Prop)(to:TE)(σ:St)(H:Hp)(Q:VK):tBM0 K T r to σ H Q=to σ H (kBM0 K T r Q):=rfl
theorem tyV_list(K:PySem.W.Frag)(p:Addr)(H:Hp)(h:(lstAt H p).isSome=true):tyV K "list" (.ref p) H=True:=by
 cases e:lstAt H p with
 | none=>rw [e] at h;cases h
 | some ys=>exact eq_true (.inl ⟨rfl,ys,SqL.of (lst_of e)⟩)
def kApp(l:Addr)(y:V)(H:Hp)(Q:VK):List V->Prop:=fun xs=>xs.length < sizeLine∧Q .non (upd H l (.lst (xs++[y])))
theorem m_kApp(l:Addr)(y:V)(H:Hp)(Q:VK)(xs:List V):kApp l y H Q xs=(xs.length < sizeLine∧Q .non (upd H l (.lst (xs++[y])))):=rfl
theorem m_rAppend(l:Addr)(y:V)(H:Hp)(Q:VK):rAppend (.ref l) [y] H Q=optK (lstAt H l) (kApp l y H Q):=by
 refine propext ⟨fun h=>?_,fun h=>?_⟩
 ·obtain⟨_,xs,_,e1,e2,e3,a,b⟩:=h
  cases e1;cases e2
  have e:lstAt H l=some xs:=by unfold lstAt;rw [e3];rfl
  rw [e];exact⟨a,b⟩
 ·obtain⟨xs,e,a,b⟩:=optK_ex h
  exact⟨l,xs,y,rfl,rfl,lst_of e,a,b⟩
def kCat2(xs:List V)(H:Hp)(Q:VK):List V->Prop:=fun ys=>xs.length+ys.length≤sizeLine∧∀ p,H p=none->Q (.ref p) (upd H p (.lst (xs++ys)))
def kCat1(b:Addr)(H:Hp)(Q:VK):List V->Prop:=fun xs=>optK (lstAt H b) (kCat2 xs H Q)
theorem m_rCat(l b:Addr)(H:Hp)(Q:VK):rCat (.ref l) (.ref b) H Q=optK (lstAt H l) (kCat1 b H Q):=by
 refine propext ⟨fun h=>?_,fun h=>?_⟩
 ·obtain⟨l',b',xs,zs,e1,e2,e3,e4,hz,hq⟩:=h
  cases e1;cases e2
  have e:lstAt H l=some xs:=by unfold lstAt;rw [e3];rfl
  have e':lstAt H b=some zs:=by unfold lstAt;rw [e4];rfl
  rw [e]
  show optK (lstAt H b) _
  rw [e'];exact⟨hz,hq⟩
 ·obtain⟨xs,e,q⟩:=optK_ex h
  obtain⟨zs,e',a,q⟩:=optK_ex q
  exact⟨l,b,xs,zs,rfl,rfl,lst_of e,lst_of e',a,q⟩
def kSet'(p:Addr)(xs:List V)(v:V)(H:Hp)(Q:Hp->Prop):Nat->Prop:=fun j=>Q (upd H p (.lst (xs.set j v)))
def kSet(p:Addr)(i:Int)(v:V)(H:Hp)(Q:Hp->Prop):List V->Prop:=fun xs=>optK (ixN xs.length i) (kSet' p xs v H Q)
theorem m_kSet(p:Addr)(i:Int)(v:V)(H:Hp)(Q:Hp->Prop)(xs:List V):kSet p i v H Q xs=optK (ixN xs.length i) (kSet' p xs v H Q):=rfl
theorem m_rSetL(p:Addr)(i:Int)(v:V)(H:Hp)(Q:Hp->Prop):rSetL (.ref p) (.int i) v H Q=optK (lstAt H p) (kSet p i v H Q):=by
 refine propext ⟨fun h=>?_,fun h=>?_⟩
 ·obtain⟨_,xs,_,j,e1,e2,e3,e4,b⟩:=h
  cases e1;cases e2
  have e:lstAt H p=some xs:=by unfold lstAt;rw [e3];rfl
  rw [e]
  show optK (ixN xs.length i) _
  rw [e4];exact b
 ·obtain⟨xs,e,q⟩:=optK_ex h
  obtain⟨j,e4,q⟩:=optK_ex q
  exact⟨p,xs,i,j,rfl,rfl,lst_of e,e4,q⟩
def kGSub3(t:TSet)(o v:V)(σ:St)(Q:St->Hp->Prop):VK:=fun i H=>t o i v H fun H3=>Q σ H3
theorem m_kGSub3(t:TSet)(o v:V)(σ:St)(Q:St->Hp->Prop)(i:V)(H:Hp):kGSub3 t o v σ Q i H=t o i v H (Q σ):=rfl
def kGSub2(ti:TE)(t:TSet)(v:V)(σ:St)(Q:St->Hp->Prop):VK:=fun o H=>ti σ H (kGSub3 t o v σ Q)
theorem m_kGSub2(ti:TE)(t:TSet)(v:V)(σ:St)(Q:St->Hp->Prop)(o:V)(H:Hp):kGSub2 ti t v σ Q o H=ti σ H (kGSub3 t o v σ Q):=rfl
theorem m_gSub(to ti:TE)(t:TSet)(v:V)(σ:St)(H:Hp)(Q:St->Hp->Prop):gSub to ti t v σ H Q=to σ H (kGSub2 ti t v σ Q):=rfl
theorem op_qIs:OpR X (compareOp .Is) rIsN:=op_isN
def kBody(tb:TS)(D:Ends):St->Hp->Prop:=fun σ H=>tb D σ H
theorem m_kBody(tb:TS)(D:Ends)(σ:St)(H:Hp):kBody tb D σ H=tb D σ H:=rfl
def kFor(g:TG)(tb:TS)(D:Ends)(σ:St)(J:It)(H1:Hp):Prop:=∃ W:Nat->Nat->St->Hp->Prop,(∃ m,W 0 m σ H1)∧∀ i m σ H,W i m σ H →
 (J.stop i H∧D.nx σ H)∨(J.go i H∧∃ N:St->Hp->Prop,(∀ σ' H',N σ' H'->∃ m',m' < m∧W (i+1) m' σ' H')∧∀ x H',J.yld i H x H'->g x σ H' fun σ2 H2=>tb { D with nx:=N,ct:=N,bk:=D.nx } σ2 H2)
theorem m_tFor(wi:TI)(g:TG)(tb:TS)(D:Ends)(σ:St)(H:Hp):tFor wi g tb D σ H=wi σ H (kFor g tb D σ):=rfl
def kR1(R:It->Hp->Prop):List V->Hp->Prop:=fun vs H=>∃ j:Int,vs=[.int j]∧-(2 ^ 62)≤j∧j < 2 ^ 62∧R (Itr 0 j.toNat) H
theorem m_kR1(R:It->Hp->Prop)(j:Int)(H:Hp):kR1 R [.int j] H=(-(2 ^ 62)≤j∧j < 2 ^ 62∧R (Itr 0 j.toNat) H):=propext ⟨fun ⟨_,e,q⟩=>by cases e;exact q,fun q=>⟨j,rfl,q⟩⟩
theorem m_iRng1(ta:TA)(σ:St)(H:Hp)(R:It->Hp->Prop):iRng1 ta σ H R=ta σ H (kR1 R):=rfl
def kISq'(K:PySem.W.Frag)(a:Addr)(H:Hp)(R:It->Hp->Prop):HO->Prop:=fun o=>match o with
 | .lst _=>R (Itl K a) H
 | .frz _ (.lst _)=>R (Itl K a) H
 | .tup _=>R (Itt K a) H
 | _=>False
theorem m_kISq'_l(K:PySem.W.Frag)(a:Addr)(H:Hp)(R:It->Hp->Prop)(xs:List V):kISq' K a H R (.lst xs)=R (Itl K a) H:=rfl
theorem m_kISq'_t(K:PySem.W.Frag)(a:Addr)(H:Hp)(R:It->Hp->Prop)(xs:List V):kISq' K a H R (.tup xs)=R (Itt K a) H:=rfl
def kISq(K:PySem.W.Frag)(R:It->Hp->Prop):VK:=fun x H=>match x with
 | .ref a=>optK (H a) (kISq' K a H R)
 | _=>False
theorem m_kISq(K:PySem.W.Frag)(R:It->Hp->Prop)(a:Addr)(H:Hp):kISq K R (.ref a) H=optK (H a) (kISq' K a H R):=rfl
def iSeq(K:PySem.W.Frag)(tl:TE):TI:=fun σ H R=>tl σ H (kISq K R)
theorem m_iSeq(K:PySem.W.Frag)(tl:TE)(σ:St)(H:Hp)(R:It->Hp->Prop):iSeq K tl σ H R=tl σ H (kISq K R):=rfl
theorem pi_seq{tg l:Expr}{tl:TE}(hl:PE X l tl):PI X tg l (iSeq X.K tl):=by
 intro pins s σ H R I h
 refine thn (hl pins s σ H _ I h) fun v s1 ⟨x,H1,I1,r1,q1⟩=>?_
 unfold kISq at q1
 split at q1
 ·rename_i a
  cases r1
  obtain⟨o,e,q⟩:=optK_ex q1
  have fp:∀ b∈[s1.heap.objs.size],FpOk X pins H1 b:=fun b hb=>by
   have e:b=s1.heap.objs.size:=by simpa using hb
   subst e
   exact I1.fpOk (Nat.le_refl _) (I1.hok.fresh (Nat.le_refl _))
  have lst:∀ xs,SqL X.K H1 a xs->R (Itl X.K a) H1->wpAny (model X.prog X.w) X.A (pyIter (.ref a)) (PIE X pins σ tg R) X.xe s1:=fun xs hq q=>by
   obtain⟨its,rv,p,hz⟩:=I1.list hq
   refine wpAny_pyIter_list p.isList ?_
   exact⟨s1.heap.objs.size,[s1.heap.objs.size],_,_,H1,rfl,I1.kept (t':=s1.toks) fun b o e=>Heap.get?_push_of_some _ e,turn_list a _,⟨_,Heap.get?_push_size _ rfl,rfl,rfl⟩,fp,q⟩
  unfold kISq' at q
  split at q
  ·exact lst _ (SqL.of e) q
  ·exact lst _ (.inl (.inr ⟨_,e⟩)) q
  ·obtain⟨its,rv,p,hz⟩:=I1.tuple (SqT.of e)
   refine wpAny_pyIter_tuple (show s1.heap.IsTuple a its.toArray from p) ?_
   exact⟨s1.heap.objs.size,[s1.heap.objs.size],_,_,H1,rfl,I1.kept (t':=s1.toks) fun b o e=>Heap.get?_push_of_some _ e,turn_tuple a _,⟨_,Heap.get?_push_size _ rfl,rfl,rfl⟩,fp,q⟩
  ·exact q.elim
 ·exact q1.elim
theorem for_rng{lo:Int}{n:Nat}{g:TG}{tb:TS}{nx:St->Hp->Prop}{rt:VK}{bk ct:St->Hp->Prop}{σ:St}{H:Hp}(Pv:Nat->St->Hp->Prop)(h0:Pv 0 σ H)
  (hs:∀ i σ H,i < n->Pv i σ H->g (.int (lo+i)) σ H (kBody tb ⟨Pv (i+1),rt,nx,Pv (i+1)⟩)) (hd:∀ σ H,Pv n σ H->nx σ H):kFor g tb ⟨nx,rt,bk,ct⟩ σ (Itr lo n) H:=for_range Pv h0 hs hd
theorem for_lst{K:PySem.W.Frag}{a:Addr}{xs:List V}{g:TG}{tb:TS}{nx:St->Hp->Prop}{rt:VK}{bk ct:St->Hp->Prop}{σ:St}{H:Hp}(Pv:Nat->St->Hp->Prop)(h0:Pv 0 σ H)(hl:∀ i σ H,i≤xs.length->Pv i σ H->H a=some (.lst xs))
  (hs:∀ i x σ H,xs[i]? = some x->Pv i σ H->g x σ H (kBody tb ⟨Pv (i+1),rt,nx,Pv (i+1)⟩)) (hd:∀ σ H,Pv xs.length σ H->nx σ H):kFor g tb ⟨nx,rt,bk,ct⟩ σ (Itl K a) H:=for_list (xs:=xs) Pv h0 (fun i σ H hi p=>SqL.of (hl i σ H hi p)) hs hd
end
end L2
set_option Elab.async false
set_option linter.all false
set_option maxRecDepth 100000
set_option maxHeartbeats 4000000
namespace L2
open PySem PySem.Spec PyProof.Rows
theorem m_tCallX(sp:Sp)(dvs:List V)(E:St->XK)(t:TA)(σ:St)(H:Hp)(Q:VK):tCallX sp dvs E t σ H Q=t σ H (kCall sp dvs (E σ) Q):=rfl
def kTry(th:Value->Option Addr->TS)(D:Ends):St->XK:=fun σ cls d H=>th cls d D σ H
theorem m_kTry(th:Value->Option Addr->TS)(D:Ends)(σ:St)(cls:Value)(d:Option Addr)(H:Hp):kTry th D σ cls d H=th cls d D σ H:=rfl
theorem m_tTry(tb:(St->XK)->TS)(th:Value->Option Addr->TS)(D:Ends)(σ:St)(H:Hp):tTry tb th D σ H=tb (kTry th D) D σ H:=rfl
def kRaise(C:Addr)(E:XK):List V->Hp->Prop:=fun vs H=>vs.length≤sizeLine∧E (.ref C) none H
theorem m_kRaise(C:Addr)(E:XK)(vs:List V)(H:Hp):kRaise C E vs H=(vs.length≤sizeLine∧E (.ref C) none H):=rfl
theorem m_tRaise(C:Addr)(E:St->XK)(t:TA)(D:Ends)(σ:St)(H:Hp):tRaise C E t D σ H=t σ H (kRaise C (E σ)):=rfl
def kSetE(i:Nat)(tb:TS)(D:Ends):St->Hp->Prop:=fun σ H=>tb D σ H
theorem m_kSetE(i:Nat)(tb:TS)(D:Ends)(σ:St)(H:Hp):kSetE i tb D σ H=tb D σ H:=rfl
def kExcAs(i:Nat)(tb:TS)(tr:Value->Option Addr->TS)(cls:Value)(d:Option Addr)(D:Ends)(σ:St)(H:Hp):Bool->Prop:=fun b=>if b=true then ∀ (e:Addr) (oe:Obj),H e=none->oe.cls=cls->oe.dict=d->(∃ vs,oe.data=.fields vs)->gName i (.ref e) σ (upd H e (excO oe)) (kSetE i tb (D.del i)) else tr cls d D σ H
theorem m_kExcAs(i:Nat)(tb:TS)(tr:Value->Option Addr->TS)(cls:Value)(d:Option Addr)(D:Ends)(σ:St)(H:Hp)(b:Bool):kExcAs i tb tr cls d D σ H b=(if b=true then ∀ (e:Addr) (oe:Obj),H e=none->oe.cls=cls->oe.dict=d->(∃ vs,oe.data=.fields vs)->gName i (.ref e) σ (upd H e (excO oe)) (kSetE i tb (D.del i)) else tr cls d D σ H):=rfl
theorem m_tExcAs(K:PySem.W.Frag)(C:Value)(i:Nat)(tb:TS)(tr:Value->Option Addr->TS)(cls:Value)(d:Option Addr)(D:Ends)(σ:St)(H:Hp):tExcAs K C i tb tr cls d D σ H=optK (PySem.W.exmOne K cls C) (kExcAs i tb tr cls d D σ H):=by
 refine propext ⟨fun ⟨b,e,h⟩=>?_,fun h=>?_⟩
 ·rw [e];exact h
 ·obtain⟨b,e,h⟩:=optK_ex h
  exact⟨b,e,h⟩
theorem m_del(i:Nat)(nx:St->Hp->Prop)(rt:VK)(bk ct:St->Hp->Prop):Ends.del i ⟨nx,rt,bk,ct⟩=⟨kDel i nx,rt,kDel i bk,kDel i ct⟩:=rfl
theorem m_kDel(i:Nat)(nx:St->Hp->Prop)(σ:St)(H:Hp):kDel i nx σ H=gDel i σ H nx:=rfl
theorem m_gDel_2{a0 a1:Option V}{a:Option V}{σ:St}{H:Hp}{Q:St->Hp->Prop}:gDel 2 (a0::a1::a::σ) H Q=Q (a0::a1::none::σ) H:=rfl
theorem m_dictO_none(H:Hp):dictO H none=True:=rfl
def refC:Value->Option Addr
 | .ref C=>some C
 | _=>none
theorem refC_ref(C:Addr):refC (.ref C)=some C:=rfl
def clsV:V->Option Value
 | .ref C=>some (.ref C)
 | .ty n=>some (.type n)
 | _=>none
theorem clsV_ref(C:Addr):clsV (.ref C)=some (.ref C):=rfl
def kE4(H:Hp)(Q:VK):Bool->Prop:=fun b=>Q (.bl b) H
theorem m_kE4(H:Hp)(Q:VK)(b:Bool):kE4 H Q b=Q (.bl b) H:=rfl
def kE3(K:PySem.W.Frag)(C:Addr)(H:Hp)(Q:VK):Value->Prop:=fun u=>optK (PySem.W.kitOne K (.ref C) u) (kE4 H Q)
theorem m_kE3(K:PySem.W.Frag)(C:Addr)(H:Hp)(Q:VK)(u:Value):kE3 K C H Q u=optK (PySem.W.kitOne K (.ref C) u) (kE4 H Q):=rfl
def kE2(K:PySem.W.Frag)(oe:Obj)(D:V)(H:Hp)(Q:VK):Addr->Prop:=fun C=>dictO H oe.dict∧(∃ vs,oe.data=.fields vs)∧ECls K C∧optK (clsV D) (kE3 K C H Q)
theorem m_kE2(K:PySem.W.Frag)(oe:Obj)(D:V)(H:Hp)(Q:VK)(C:Addr):kE2 K oe D H Q C=(dictO H oe.dict∧(∃ vs,oe.data=.fields vs)∧ECls K C∧optK (clsV D) (kE3 K C H Q)):=rfl
def kE1(K:PySem.W.Frag)(D:V)(H:Hp)(Q:VK):HO->Prop:=fun o=>match o with
 | .frz oe (.ext _)=>optK (refC oe.cls) (kE2 K oe D H Q)
 | _=>False
theorem m_kE1(K:PySem.W.Frag)(D:V)(H:Hp)(Q:VK)(oe:Obj):kE1 K D H Q (excO oe)=optK (refC oe.cls) (kE2 K oe D H Q):=rfl
def qIsE(K:PySem.W.Frag)(xs:List V)(H:Hp)(Q:VK):Prop:=match xs with
 | [.ref e,D]=>optK (H e) (kE1 K D H Q)
 | _=>False
theorem m_qIsE(K:PySem.W.Frag)(e:Addr)(D:V)(H:Hp)(Q:VK):qIsE K [.ref e,D] H Q=optK (H e) (kE1 K D H Q):=rfl
theorem call_qIsE{X:Cx}:CallR X (.builtin "isinstance") (qIsE X.K):=by
 refine call_isiE.mono fun xs H Q h=>?_
 unfold qIsE at h
 split at h
 ·rename_i e D
  obtain⟨o,h1,h⟩:=optK_ex h
  unfold kE1 at h
  split at h
  ·rename_i oe φ
   obtain⟨C,h2,h⟩:=optK_ex h
   obtain⟨h3,h4,h5,h⟩:=h
   obtain⟨u,h6,h⟩:=optK_ex h
   obtain⟨b,h7,h⟩:=optK_ex h
   have hc:oe.cls=.ref C:=by
    cases q:oe.cls with
    | ref C'=>rw [q] at h2;cases h2;rfl
    | _=>rw [q] at h2;cases h2
   refine⟨e,oe,C,D,b,rfl,⟨_,h1⟩,hc,h3,h4,h5,⟨u,?_,h7⟩,h⟩
   cases D with
   | ref a=>cases h6;rfl
   | ty n=>cases h6;rfl
   | _=>cases h6
  ·exact h.elim
 ·exact h.elim
def kC3(D:Addr)(ys:List V)(N:List V->Hp->Prop):VK:=fun y H=>H D=some (.lst ys)∧ys.length < sizeLine∧N (ys++[y]) (upd H D (.lst (ys++[y])))
def kC2(te:TE)(σ2:St)(D:Addr)(ys:List V)(N:List V->Hp->Prop):Bool->Hp->Prop:=fun b H=>if b=true then te σ2 H (kC3 D ys N) else N ys H
def kC1(k:Nat)(tt:TT)(te:TE)(σ:St)(D:Addr)(ys:List V)(N:List V->Hp->Prop):St->Hp->Prop:=fun σ2 H=>(∃ vs:St,vs.length=k∧σ2=vs++σ)∧tt σ2 H (kC2 te σ2 D ys N)
theorem m_tYes(σ:St)(H:Hp)(Q:Bool->Hp->Prop):tYes σ H Q=Q true H:=rfl
def kComp(k:Nat)(g:TG)(tt:TT)(te:TE)(σ:St)(Q:VK):It->Hp->Prop:=fun J H1=>∀ D,H1 D=none->∃ W:Nat->Nat->List V->Hp->Prop,(∃ m,W 0 m [] (upd H1 D (.lst [])))∧∀ i m ys H,W i m ys H →
 (J.stop i H∧Q (.ref D) H)∨(J.go i H∧∃ N:List V->Hp->Prop,(∀ ys' H',N ys' H'->∃ m',m' < m∧W (i+1) m' ys' H') ∧
  ∀ x H',J.yld i H x H'->g x (List.replicate k none++σ) H' (kC1 k tt te σ D ys N))
theorem m_tComp(k:Nat)(wi:TI)(g:TG)(tt:TT)(te:TE)(σ:St)(H:Hp)(Q:VK):tComp k wi g tt te σ H Q=wi σ H (kComp k g tt te σ Q):=rfl
def kSetC(i:Nat)(σ:St)(nx:St->Hp->Prop):VK:=fun x H=>gName i x σ H nx
theorem m_kSetC(i:Nat)(σ:St)(nx:St->Hp->Prop)(x:V)(H:Hp):kSetC i σ nx x H=gName i x σ H nx:=rfl
theorem m_tSetC(i:Nat)(te:TE)(nx:St->Hp->Prop)(rt:VK)(bk ct:St->Hp->Prop)(σ:St)(H:Hp):tSetC i te ⟨nx,rt,bk,ct⟩ σ H=te σ H (kSetC i σ nx):=rfl
section
variable {k:Nat}{g:TG}{tt:TT}{te:TE}{σ:St}{Q:VK}{H:Hp}{K:PySem.W.Frag}
end
def allSome{α:Type}:List (Option α)->Option (List α)
 | []=>some []
 | o::r=>o.bind fun x=>(allSome r).map fun xs=>x::xs
def datO(f:V->Option PyData):HO->Option PyData
 | .lst xs=>(allSome (xs.map f)).map .list
 | .tup xs=>(allSome (xs.map f)).map .tuple
 | _=>none
def datF(H:Hp)(f:V->Option PyData):V->Option PyData
 | .non=>some .none
 | .bl b=>some (.bool b)
 | .int i=>some (.int i)
 | .str z=>if PyData.strOk z=true then some (.str z) else none
 | .ref p=>(H p).bind (datO f)
 | _=>none
def datV(H:Hp):Nat->V->Option PyData
 | 0,_=>none
 | n+1,x=>datF H (datV H n) x
theorem m_datV_str(H:Hp)(n:Nat)(z:Str):datV H (n+1) (.str z)=if PyData.strOk z=true then some (.str z) else none:=rfl
theorem m_datV_ref(H:Hp)(n:Nat)(p:Addr):datV H (n+1) (.ref p)=(H p).bind (datO (datV H n)):=rfl
theorem m_datO_lst(f:V->Option PyData)(xs:List V):datO f (.lst xs)=(allSome (xs.map f)).map .list:=rfl
theorem m_datO_tup(f:V->Option PyData)(xs:List V):datO f (.tup xs)=(allSome (xs.map f)).map .tuple:=rfl
theorem datVs_ok{K:PySem.W.Frag}{H:Hp}{n:Nat}(ih:∀ x d,datV H n x=some d->DatV K H x d∧d.canLay0=true∧d.depth≤n):∀ (xs:List V) (ds:List PyData),allSome (xs.map (datV H n))=some ds->DatVs K H xs ds∧PyData.canLayAll0 ds=true∧PyData.depthAll ds≤n
 | [],ds,h=>by cases h;exact⟨.nil,rfl,Nat.zero_le _⟩
 | x::xs,ds,h=>by
  have h':(datV H n x).bind (fun d=>(allSome (xs.map (datV H n))).map fun ds=>d::ds)=some ds:=h
  cases e:datV H n x with
  | none=>rw [e] at h';cases h'
  | some d=>
   rw [e] at h'
   have h2:(allSome (xs.map (datV H n))).map (fun ds=>d::ds)=some ds:=h'
   cases e2:allSome (xs.map (datV H n)) with
   | none=>rw [e2] at h2;cases h2
   | some es=>
    rw [e2] at h2
    cases h2
    obtain⟨a,b,c⟩:=ih x d e
    obtain⟨a',b',c'⟩:=datVs_ok ih xs es e2
    exact⟨.cons a a',by simp [PyData.canLayAll0,b,b'],by simp only [PyData.depthAll];omega⟩
theorem datV_ok{K:PySem.W.Frag}{H:Hp}:∀ (n:Nat) (x:V) (d:PyData),datV H n x=some d->DatV K H x d∧d.canLay0=true∧d.depth≤n
 | 0,x,d,h=>by cases h
 | n+1,x,d,h=>by
  cases x with
  | non=>cases h;exact⟨.non,rfl,Nat.zero_le _⟩
  | bl b=>cases h;exact⟨.bl b,rfl,Nat.zero_le _⟩
  | int i=>cases h;exact⟨.int i,rfl,Nat.zero_le _⟩
  | str z=>
   rw [m_datV_str] at h
   split at h
   ·rename_i hz;cases h;exact⟨.str z,by simpa [PyData.canLay0] using hz,Nat.zero_le _⟩
   ·cases h
  | ref p=>
   rw [m_datV_ref] at h
   cases e:H p with
   | none=>rw [e] at h;cases h
   | some o=>
    rw [e] at h
    have h':datO (datV H n) o=some d:=h
    cases o with
    | lst xs=>
     rw [m_datO_lst] at h'
     cases e2:allSome (xs.map (datV H n)) with
     | none=>rw [e2] at h';cases h'
     | some ds=>
      rw [e2] at h';cases h'
      obtain⟨a,b,c⟩:=datVs_ok (K:=K) (datV_ok n) xs ds e2
      exact⟨.lst (SqL.of e) a,by simpa [PyData.canLay0] using b,by simp only [PyData.depth];omega⟩
    | tup xs=>
     rw [m_datO_tup] at h'
     cases e2:allSome (xs.map (datV H n)) with
     | none=>rw [e2] at h';cases h'
     | some ds=>
      rw [e2] at h';cases h'
      obtain⟨a,b,c⟩:=datVs_ok (K:=K) (datV_ok n) xs ds e2
      exact⟨.tup (SqT.of e) a,by simpa [PyData.canLay0] using b,by simp only [PyData.depth];omega⟩
    | _=>cases h'
  | _=>cases h
theorem datV_shaped{K:PySem.W.Frag}{H:Hp}{n:Nat}{x:V}{d:PyData}(hn:n≤64)(h:datV H n x=some d):DatV K H x d∧SeqAt.shaped d=true:=by
 obtain⟨a,b,c⟩:=datV_ok (K:=K) n x d h
 refine⟨a,?_⟩
 unfold SeqAt.shaped
 rw [b,decide_eq_true (show d.depth≤64 by omega)]
 rfl
def kEq2(neg:Bool)(H:Hp)(Q:VK)(d:PyData):PyData->Prop:=fun e=>Q (.bl (if neg=true then !PyData.eqv d e else PyData.eqv d e)) H
def kEq1(neg:Bool)(y:V)(H:Hp)(Q:VK):PyData->Prop:=fun d=>optK (datV H 6 y) (kEq2 neg H Q d)
def qEq(neg:Bool):R2:=fun x y H Q=>if scal x y=true then Q (.bl (if neg=true then !decide (x=y) else decide (x=y))) H else optK (datV H 6 x) (kEq1 neg y H Q)
theorem m_qEq_int_int(i:Int)(j:Int)(H:Hp)(Q:VK):qEq false (V.int i) (V.int j) H Q=Q (.bl (decide (i=j))) H:=by
 have e:decide (((V.int i):V)=(V.int j))=decide (i=j):=by simp
 show Q (.bl (if false=true then !decide ((V.int i)=(V.int j)) else decide ((V.int i)=(V.int j)))) H=_
 rw [e];rfl
theorem m_qNe_int_int(i:Int)(j:Int)(H:Hp)(Q:VK):qEq true (V.int i) (V.int j) H Q=Q (.bl (!decide (i=j))) H:=by
 have e:decide (((V.int i):V)=(V.int j))=decide (i=j):=by simp
 show Q (.bl (if true=true then !decide ((V.int i)=(V.int j)) else decide ((V.int i)=(V.int j)))) H=_
 rw [e];rfl
theorem m_qEq_str_str(i:Str)(j:Str)(H:Hp)(Q:VK):qEq false (V.str i) (V.str j) H Q=Q (.bl (decide (i=j))) H:=by
 have e:decide (((V.str i):V)=(V.str j))=decide (i=j):=by simp
 show Q (.bl (if false=true then !decide ((V.str i)=(V.str j)) else decide ((V.str i)=(V.str j)))) H=_
 rw [e];rfl
section
variable {X:Cx}
theorem op_qEq(hu:X.A.units+64 < cLine):OpR X (compareOp .Eq) (qEq false):=by
 refine(op_eq.or (op_eqD hu)).mono fun x y H Q h=>?_
 unfold qEq at h
 split at h
 ·rename_i hs;exact .inl ⟨hs,h⟩
 obtain⟨d,e1,h⟩:=optK_ex h
 obtain⟨e,e2,h⟩:=optK_ex h
 obtain⟨a,b⟩:=datV_shaped (K:=X.K) (by decide) e1
 obtain⟨a',b'⟩:=datV_shaped (K:=X.K) (by decide) e2
 exact .inr ⟨d,e,a,a',b,b',h⟩
theorem op_qNe(hu:X.A.units+64 < cLine):OpR X (compareOp .NotEq) (qEq true):=by
 refine(op_ne.or (op_neD hu)).mono fun x y H Q h=>?_
 unfold qEq at h
 split at h
 ·rename_i hs;exact .inl ⟨hs,h⟩
 obtain⟨d,e1,h⟩:=optK_ex h
 obtain⟨e,e2,h⟩:=optK_ex h
 obtain⟨a,b⟩:=datV_shaped (K:=X.K) (by decide) e1
 obtain⟨a',b'⟩:=datV_shaped (K:=X.K) (by decide) e2
 exact .inr ⟨d,e,a,a',b,b',h⟩
end
theorem eqv_int(i j:Int):PyData.eqv (.int i) (.int j)=decide (i=j):=Bool.beq_eq_decide_eq i j
theorem eqv_bool(i j:Bool):PyData.eqv (.bool i) (.bool j)=decide (i=j):=by cases i<;>cases j<;>rfl
theorem eqv_str(i j:Str):PyData.eqv (.str i) (.str j)=(i == j):=rfl
theorem eqv_tuple(xs ys:List PyData):PyData.eqv (.tuple xs) (.tuple ys)=PyData.eqvAll xs ys:=by simp only [PyData.eqv]
theorem eqv_list(xs ys:List PyData):PyData.eqv (.list xs) (.list ys)=PyData.eqvAll xs ys:=by simp only [PyData.eqv]
theorem eqvAll_nil:PyData.eqvAll [] []=true:=by simp only [PyData.eqvAll]
theorem eqvAll_cons(x y:PyData)(xs ys:List PyData):PyData.eqvAll (x::xs) (y::ys)=(PyData.eqv x y && PyData.eqvAll xs ys):=by simp only [PyData.eqvAll]
end L2
set_option Elab.async false
set_option linter.all false
set_option maxRecDepth 100000
set_option maxHeartbeats 4000000
namespace L2
open PySem PySem.Spec PyProof.Rows
theorem CDiv_eq(i j:Int):CDiv i j=(0 < j∧j < 1073741824):=rfl
theorem CMul_l(i j:Int)(h:-18446744073709551616 < i)(h':i < 18446744073709551616):CMul i j=True:=eq_true (.inl ⟨by omega,by omega⟩)
theorem CMul_r(i j:Int)(h:-18446744073709551616 < j)(h':j < 18446744073709551616):CMul i j=True:=eq_true (.inr ⟨by omega,by omega⟩)
theorem CPow_10(j:Int):CPow 10 j=(0≤j∧j≤1000000):=propext ⟨fun h=>⟨h.1,h.2.1⟩,fun h=>⟨h.1,h.2,by decide⟩⟩
theorem lenLe(n:Nat)(h:n≤1000):(n≤sizeLine)=True:=eq_true (Nat.le_of_lt (small1000 h))
theorem Ext.of{H H':Hp}(h:∀ a,(H a).isSome=true->H' a=H a):Ext H H':=⟨h,fun K a xs q=>by
 have s:Same H H':=fun b o e=>(h b (by rw [e];rfl)).trans e
 exact s.seq q⟩
theorem Ext.same{H H':Hp}(h:Ext H H'):Same H H':=fun b o e=>(h.1 b (by rw [e];rfl)).trans e
theorem Same.ext{H H':Hp}(h:Same H H'):Ext H H':=Ext.of fun a q=>by
 cases e:H a with
 | none=>rw [e] at q;cases q
 | some o=>exact h a o e
theorem Ext.refl(H:Hp):Ext H H:=(Same.refl H).ext
theorem Ext.trans{H H1 H2:Hp}(a:Ext H H1)(b:Ext H1 H2):Ext H H2:=(a.same.trans b.same).ext
theorem Ext.new{H:Hp}{p:Addr}{o:HO}(h:H p=none):Ext H (upd H p o):=(same_upd h).ext
theorem Ext.put{H H1:Hp}{p:Addr}{o:HO}(a:Ext H H1)(h:H p=none):Ext H (upd H1 p o):=Same.ext fun b u e=>by
 rw [upd_ne (ne_of_none e h)];exact a.same b u e
theorem Ext.free{H H1:Hp}{p:Addr}(a:Ext H H1)(h:H1 p=none):H p=none:=a.same.free h
theorem Ext.at{H H1:Hp}{p:Addr}{o:HO}(a:Ext H H1)(h:H p=some o):H1 p=some o:=a.same _ _ h
theorem optK_at{xs:List V}{i:Int}{k:V->Prop}(h0:0≤i)(h1:i < xs.length)(h:∀ v∈xs,k v):optK (atI xs i) k:=by
 obtain⟨v,e,m⟩:=atI_lt xs i h0 h1
 rw [e];exact h v m
theorem cx_K(CX:CXT)(P:Program)(w:World)(K:PySem.W.Frag)(mg:Str->Option Value)(base:Heap)(N:List Str)(qual:Str)(scope:Scope)(f:Addr)(cd:Value)(A:Around)(outer:List Env)(s:Shared)(H:Hp)(E:XK):(cxOf CX P w K mg base N qual scope f cd A outer s H E).K=K:=rfl
theorem call_qIsE'{X:Cx}{K:PySem.W.Frag}(h:X.K=K):CallR X (.builtin "isinstance") (qIsE K):=h ▸ call_qIsE
theorem map_toNat_inj:∀ {a b:List Char},a.map Char.toNat=b.map Char.toNat->a=b
 | [],[],_=>rfl
 | [],_::_,h=>by cases h
 | _::_,[],h=>by cases h
 | x::r,y::q,h=>by
  simp only [List.map_cons,List.cons.injEq] at h
  have e:x=y:=by
   have z:x.val.toNat=y.val.toNat:=h.1
   exact Char.ext (UInt32.toNat_inj.mp z)
  rw [e,map_toNat_inj h.2]
theorem ofString_inj(a b:String):(Str.ofString a=Str.ofString b)=(a=b):=by
 refine propext ⟨fun h=>?_,fun h=>by rw [h]⟩
 rw [Str.ofString_eq_toList,Str.ofString_eq_toList] at h
 have e:(a.toList.map Char.toNat).toArray=(b.toList.map Char.toNat).toArray:=congrArg Str.cps h
 have e2:=map_toNat_inj (congrArg Array.toList e)
 exact String.ext e2
theorem cls_some{K:PySem.W.Frag}{C:Addr}(h:PySem.W.hasDictIn K C=true):(PySem.W.clsIn K C).isSome=true:=by
 obtain⟨cd,hc,_⟩:=PySem.W.any_some h
 rw [hc];rfl
theorem kit_yes{K:PySem.W.Frag}{A C:Addr}(h1:PySem.W.hasDictIn K C=true)(h2:PySem.W.typeIn K (.ref C)=some (.type "type"))(h3:PySem.W.subIn K (.ref A) (.ref C)=some true):PySem.W.kitOne K (.ref A) (.ref C)=some true:=by
 unfold PySem.W.kitOne
 split
 ·rfl
 ·show (if _ then _ else _)=_
  rw [cls_some h1,h2,if_pos (by decide),h3]
theorem kit_no{K:PySem.W.Frag}{A C:Addr}(h0:(A == C)=false)(h1:PySem.W.hasDictIn K C=true)(h2:PySem.W.typeIn K (.ref C)=some (.type "type"))(h3:PySem.W.subIn K (.ref A) (.ref C)=some false):PySem.W.kitOne K (.ref A) (.ref C)=some false:=by
 unfold PySem.W.kitOne
 rw [if_neg (by intro z;have e:A=C:=Value.ref.inj (beq_iff_eq.mp z);rw [e] at h0;simp at h0)]
 show (if _ then _ else _)=_
 rw [cls_some h1,h2,if_pos (by decide),h3]
def isW(H:Hp):V->Option Bool
 | .int _=>some true
 | .bl _=>some false
 | .non=>some false
 | .str _=>some false
 | .ref p=>((H p).bind tyO).map fun _=>false
 | _=>none
theorem isW_int'(H:Hp)(i:Int):isW H (.int i)=some true:=rfl
theorem isW_bl'(H:Hp)(i:Bool):isW H (.bl i)=some false:=rfl
theorem isW_str'(H:Hp)(i:Str):isW H (.str i)=some false:=rfl
theorem isW_ref'(H:Hp)(p:Addr):isW H (.ref p)=((H p).bind tyO).map fun _=>false:=rfl
theorem isW_obj{H:Hp}{p:Addr}{b:Bool}(h:isW H (.ref p)=some b):b=false∧∃ o,H p=some o∧(tyO o=some "list" ∨ tyO o=some "tuple" ∨ tyO o=some "dict"):=by
 rw [isW_ref'] at h
 cases e:H p with
 | none=>rw [e] at h;cases h
 | some o=>
  rw [e] at h
  have h':(tyO o).map (fun _=>false)=some b:=h
  cases e2:tyO o with
  | none=>rw [e2] at h';cases h'
  | some t=>
   rw [e2] at h';cases h'
   refine⟨rfl,o,rfl,?_⟩
   cases o with
   | lst xs=>exact .inl rfl
   | tup xs=>exact .inr (.inl rfl)
   | dK xs=>exact .inr (.inr rfl)
   | dT xs=>exact .inr (.inr rfl)
   | frz ob u=>cases u with
    | lst xs=>exact .inl rfl
    | _=>cases e2
   | _=>cases e2
end L2
set_option Elab.async false
set_option linter.all false
set_option maxRecDepth 100000
set_option maxHeartbeats 4000000
namespace L2
open PySem PySem.Spec PyProof.Rows
theorem optK_mono{α:Type}{o:Option α}{k k':α->Prop}(m:∀ x,k x->k' x)(h:optK o k):optK o k':=by
 obtain⟨x,e,q⟩:=optK_ex h
 rw [e];exact m x q
theorem ints_inj:∀ {ns ms:List Int},ns.map V.int=ms.map V.int->ns=ms
 | [],[],_=>rfl
 | [],_::_,h=>by cases h
 | _::_,[],h=>by cases h
 | i::r,j::t,h=>by
  simp only [List.map_cons,List.cons.injEq,V.int.injEq] at h
  rw [h.1,ints_inj h.2]
def kInts(F:List Int->Prop):List V->Prop:=fun xs=>∃ ns,xs=ns.map V.int∧F ns
theorem m_kInts(F:List Int->Prop)(ns:List Int):kInts F (ns.map V.int)=F ns:=propext ⟨fun ⟨ms,e,h⟩=>by rw [ints_inj e];exact h,fun h=>⟨ns,rfl,h⟩⟩
theorem cut_none(xs:List V)(z:Int)(h:0≤z):cutV xs none (some z)=xs.take z.toNat:=by
 unfold cutV
 rw [HT.sIx_none,List.drop_zero,Nat.sub_zero]
 obtain⟨n,rfl⟩:=Int.eq_ofNat_of_zero_le h
 rw [HT.sIx_nat]
 show _=xs.take n
 rcases Nat.le_total n xs.length with q|q
 ·rw [Nat.min_eq_left q]
 ·rw [Nat.min_eq_right q,List.take_of_length_le (Nat.le_refl _),List.take_of_length_le q]
def kSlN(lo hi:Option Int)(H:Hp)(Q:VK):List V->Prop:=fun xs=>∀ p,H p=none->Q (.ref p) (upd H p (.lst (cutV xs lo hi)))
def qSlL:V->Option Int->Option Int->Hp->VK->Prop:=fun x lo hi H Q=>match x with
 | .ref a=>optK (lstAt H a) (kSlN lo hi H Q)
 | _=>False
theorem sl_q{X:Cx}:SlR X qSlL:=sl_list.mono fun x lo hi H Q h=>by
 unfold qSlL at h
 split at h
 ·rename_i a
  obtain⟨xs,e,q⟩:=optK_ex h
  exact⟨a,xs,rfl,SqL.of (lst_of e),q⟩
 ·exact h.elim
def kSl3(r:V->Option Int->Option Int->Hp->VK->Prop)(x:V)(l:Option Int)(Q:VK):Option Int->Hp->Prop:=fun u H=>r x l u H Q
theorem m_kSl3(r:V->Option Int->Option Int->Hp->VK->Prop)(x:V)(l:Option Int)(Q:VK)(u:Option Int)(H:Hp):kSl3 r x l Q u H=r x l u H Q:=rfl
def kSl2(r:V->Option Int->Option Int->Hp->VK->Prop)(th:TO)(σ:St)(x:V)(Q:VK):Option Int->Hp->Prop:=fun l H=>th σ H (kSl3 r x l Q)
theorem m_kSl2(r:V->Option Int->Option Int->Hp->VK->Prop)(th:TO)(σ:St)(x:V)(Q:VK)(l:Option Int)(H:Hp):kSl2 r th σ x Q l H=th σ H (kSl3 r x l Q):=rfl
def kSl1(r:V->Option Int->Option Int->Hp->VK->Prop)(tl th:TO)(σ:St)(Q:VK):VK:=fun x H=>tl σ H (kSl2 r th σ x Q)
theorem m_kSl1(r:V->Option Int->Option Int->Hp->VK->Prop)(tl th:TO)(σ:St)(Q:VK)(x:V)(H:Hp):kSl1 r tl th σ Q x H=tl σ H (kSl2 r th σ x Q):=rfl
theorem m_tSl(r:V->Option Int->Option Int->Hp->VK->Prop)(te:TE)(tl th:TO)(σ:St)(H:Hp)(Q:VK):tSl r te tl th σ H Q=te σ H (kSl1 r tl th σ Q):=rfl
theorem m_tNoPart(σ:St)(H:Hp)(Q:Option Int->Hp->Prop):tNoPart σ H Q=Q none H:=rfl
def kPart(Q:Option Int->Hp->Prop):VK:=fun x H=>∃ i,x=.int i∧Q (some i) H
theorem m_kPart(Q:Option Int->Hp->Prop)(i:Int)(H:Hp):kPart Q (.int i) H=Q (some i) H:=propext ⟨fun ⟨_,e,q⟩=>by cases e;exact q,fun q=>⟨i,rfl,q⟩⟩
theorem m_tPart(t:TE)(σ:St)(H:Hp)(Q:Option Int->Hp->Prop):tPart t σ H Q=t σ H (kPart Q):=rfl
end L2
set_option Elab.async false
set_option linter.all false
set_option maxRecDepth 100000
set_option maxHeartbeats 4000000
namespace L2
open PySem PySem.Spec PyProof.Rows
def newK(o:HO)(H:Hp)(Q:VK):Prop:=∀ (p:Addr) (H':Hp),H p=none->Ext H H'->H' p=some o->Q (.ref p) H'
theorem newK.to{o:HO}{H:Hp}{Q:VK}(h:newK o H Q):∀ p,H p=none->Q (.ref p) (upd H p o):=fun p hp=>h p _ hp (Ext.new hp) upd_same
def kQT(Q:VK):List V->Hp->Prop:=fun xs H=>xs.length≤sizeLine∧newK (.tup xs) H Q
theorem m_kQT(Q:VK)(xs:List V)(H:Hp):kQT Q xs H=(xs.length≤sizeLine∧newK (.tup xs) H Q):=rfl
def kQL(Q:VK):List V->Hp->Prop:=fun xs H=>xs.length≤sizeLine∧newK (.lst xs) H Q
theorem m_kQL(Q:VK)(xs:List V)(H:Hp):kQL Q xs H=(xs.length≤sizeLine∧newK (.lst xs) H Q):=rfl
def qTup(t:TA):TE:=fun σ H Q=>t σ H (kQT Q)
theorem m_qTup(t:TA)(σ:St)(H:Hp)(Q:VK):qTup t σ H Q=t σ H (kQT Q):=rfl
def qLst(t:TA):TE:=fun σ H Q=>t σ H (kQL Q)
theorem m_qLst(t:TA)(σ:St)(H:Hp)(Q:VK):qLst t σ H Q=t σ H (kQL Q):=rfl
section
variable {X:Cx}{es:List Expr}{t:TA}{pos:Pos}
theorem pe_qTup{x1}(h:PA X es t):PE X (.Tuple es x1 pos) (qTup t):=by
 intro pins s σ H Q I hq
 refine wpAny_Tuple_spliced (thn (h pos pins s σ H _ I hq) fun us s1 ⟨xs,H1,I1,r,z,q⟩=>⟨by rw [←r.length];exact z,?_⟩)
 have hf:H1 s1.heap.objs.size=none:=I1.hok.fresh (Nat.le_refl _)
 refine⟨.ref s1.heap.objs.size,upd H1 s1.heap.objs.size (.tup xs),I1.laid (t':=s1.toks) (fun b u e=>Heap.get?_push_of_some _ e) (Nat.le_refl _) ?_,rfl,q.to _ hf⟩
 exact⟨z,us,r,⟨_,Heap.get?_push_size _ rfl,rfl,_,rfl⟩⟩
theorem pe_qLst(h:PA X es t):PE X (.List es pos) (qLst t):=by
 intro pins s σ H Q I hq
 refine wpAny_List_spliced (thn (h pos pins s σ H _ I hq) fun us s1 ⟨xs,H1,I1,r,z,q⟩=>⟨by rw [←r.length];exact z,?_⟩)
 have hf:H1 s1.heap.objs.size=none:=I1.hok.fresh (Nat.le_refl _)
 refine⟨.ref s1.heap.objs.size,upd H1 s1.heap.objs.size (.lst xs),I1.laid (t':=s1.toks) (fun b u e=>Heap.get?_push_of_some _ e) (Nat.le_refl _) ?_,rfl,q.to _ hf⟩
 exact⟨z,us,0,r,Heap.get?_push_size _ rfl⟩
end
def kN(f:List V->HO)(H:Hp)(Q:VK):List V->Prop:=fun ys=>newK (f ys) H Q
theorem m_kN(f:List V->HO)(H:Hp)(Q:VK)(ys:List V):kN f H Q ys=newK (f ys) H Q:=rfl
def nList(xs:List V)(H:Hp)(Q:VK):Prop:=match xs with
 | [.ref p]=>optK (itemsAt H p) (kN .lst H Q)
 | _=>False
theorem m_nList(p:Addr)(H:Hp)(Q:VK):nList [.ref p] H Q=optK (itemsAt H p) (kN .lst H Q):=rfl
theorem call_nList{X:Cx}:CallR X (.type "list") nList:=call_qList.mono fun xs H Q h=>by
 unfold nList at h
 split at h
 ·exact optK_mono (fun _ q=>q.to) h
 ·exact h.elim
def kNC2(xs:List V)(H:Hp)(Q:VK):List V->Prop:=fun ys=>xs.length+ys.length≤sizeLine∧newK (.lst (xs++ys)) H Q
theorem m_kNC2(xs:List V)(H:Hp)(Q:VK)(ys:List V):kNC2 xs H Q ys=(xs.length+ys.length≤sizeLine∧newK (.lst (xs++ys)) H Q):=rfl
def kNC1(b:Addr)(H:Hp)(Q:VK):List V->Prop:=fun xs=>optK (lstAt H b) (kNC2 xs H Q)
theorem m_kNC1(b:Addr)(H:Hp)(Q:VK)(xs:List V):kNC1 b H Q xs=optK (lstAt H b) (kNC2 xs H Q):=rfl
def nCat:R2:=fun x y H Q=>match x,y with
 | .ref l,.ref b=>optK (lstAt H l) (kNC1 b H Q)
 | _,_=>False
theorem m_nCat(l b:Addr)(H:Hp)(Q:VK):nCat (.ref l) (.ref b) H Q=optK (lstAt H l) (kNC1 b H Q):=rfl
theorem op_nCat{X:Cx}:OpR X (binaryOp .Add) nCat:=op_cat.mono fun x y H Q h=>by
 unfold nCat at h
 split at h
 ·rw [m_rCat]
  exact optK_mono (fun _ q=>optK_mono (fun _ q=>⟨q.1,q.2.to⟩) q) h
 ·exact h.elim
def kNS(lo hi:Option Int)(H:Hp)(Q:VK):List V->Prop:=fun xs=>newK (.lst (cutV xs lo hi)) H Q
theorem m_kNS(lo hi:Option Int)(H:Hp)(Q:VK)(xs:List V):kNS lo hi H Q xs=newK (.lst (cutV xs lo hi)) H Q:=rfl
def nSl:V->Option Int->Option Int->Hp->VK->Prop:=fun x lo hi H Q=>match x with
 | .ref a=>optK (lstAt H a) (kNS lo hi H Q)
 | _=>False
theorem m_nSl(a:Addr)(lo hi:Option Int)(H:Hp)(Q:VK):nSl (.ref a) lo hi H Q=optK (lstAt H a) (kNS lo hi H Q):=rfl
theorem sl_n{X:Cx}:SlR X nSl:=sl_q.mono fun x lo hi H Q h=>by
 unfold nSl at h
 split at h
 ·exact optK_mono (fun _ q=>q.to) h
 ·exact h.elim
theorem PE.mono{X:Cx}{e:Expr}{t t':TE}(h:PE X e t)(m:∀ σ H Q,t' σ H Q->t σ H Q):PE X e t':=fun pins s σ H Q I q=>h pins s σ H Q I (m _ _ _ q)
def nDNew:TE:=fun _ H Q=>newK (.dK []) H Q
theorem m_nDNew(σ:St)(H:Hp)(Q:VK):nDNew σ H Q=newK (.dK []) H Q:=rfl
theorem pe_nDNew{X:Cx}{pos:Pos}:PE X (.Dict [] [] pos) nDNew:=pe_dnewK.mono fun _ _ _ h=>h.to
end L2
set_option Elab.async false
set_option linter.all false
set_option maxRecDepth 100000
set_option maxHeartbeats 4000000
namespace L2
open PySem PySem.Spec PyProof.Rows
section
variable {prog:Program}{w:World}{A:Around}{E:Value->Shared->Prop}{s:Shared}
end
section
variable {X:Cx}{pos:Pos}
end
end L2
set_option Elab.async false
set_option linter.all false
set_option maxRecDepth 100000
set_option maxHeartbeats 4000000
namespace L2
open PySem PySem.Spec PyProof.Rows
section
variable {X:Cx}{tg:Expr}
end
end L2
set_option Elab.async false
set_option linter.all false
set_option maxRecDepth 100000
set_option maxHeartbeats 4000000
namespace L2
open PySem PySem.Spec PyProof.Rows
theorem preSum_ints:∀ (n:Nat) (ns:List Int) (val:Nat->Int),(∀ i,val i=ns.getD i 0)->n≤ns.length->preSum val n=(ns.take n).sum
 | 0,ns,val,h,hl=>by simp [preSum]
 | n+1,ns,val,h,hl=>by
  have ih:=preSum_ints n ns val h (by omega)
  have e:ns.take (n+1)=ns.take n++[ns.getD n 0]:=by
   rw [List.take_succ,List.getElem?_eq_getElem (by omega)]
   simp [List.getD,List.getElem?_eq_getElem (show n < ns.length by omega)]
  rw [preSum,ih,e,List.sum_append,h]
  simp
def kSumI(H:Hp)(Q:VK):List Int->Prop:=fun ns=>Q (.int ns.sum) H
theorem m_kSumI(H:Hp)(Q:VK)(ns:List Int):kSumI H Q ns=Q (.int ns.sum) H:=rfl
def qSum:List V->Hp->VK->Prop:=fun vs H Q=>match vs with
 | [.ref p]=>optK (lstAt H p) (kInts (kSumI H Q))
 | _=>False
theorem m_qSum(p:Addr)(H:Hp)(Q:VK):qSum [.ref p] H Q=optK (lstAt H p) (kInts (kSumI H Q)):=rfl
def kBls(F:List Bool->Prop):List V->Prop:=fun xs=>∃ bs,xs=bs.map V.bl∧F bs
theorem bls_inj:∀ {ns ms:List Bool},ns.map V.bl=ms.map V.bl->ns=ms
 | [],[],_=>rfl
 | [],_::_,h=>by cases h
 | _::_,[],h=>by cases h
 | i::r,j::t,h=>by
  simp only [List.map_cons,List.cons.injEq,V.bl.injEq] at h
  rw [h.1,bls_inj h.2]
theorem m_kBls(F:List Bool->Prop)(bs:List Bool):kBls F (bs.map V.bl)=F bs:=propext ⟨fun ⟨ms,e,h⟩=>by rw [bls_inj e];exact h,fun h=>⟨bs,rfl,h⟩⟩
def kAllB(H:Hp)(Q:VK):List Bool->Prop:=fun bs=>Q (.bl (bs.all id)) H
theorem m_kAllB(H:Hp)(Q:VK)(bs:List Bool):kAllB H Q bs=Q (.bl (bs.all id)) H:=rfl
def qAll:List V->Hp->VK->Prop:=fun vs H Q=>match vs with
 | [.ref p]=>optK (lstAt H p) (kBls (kAllB H Q))
 | _=>False
theorem m_qAll(p:Addr)(H:Hp)(Q:VK):qAll [.ref p] H Q=optK (lstAt H p) (kBls (kAllB H Q)):=rfl
section
variable {X:Cx}
theorem call_qSum(hc:X.calm=true):CallR X (.builtin "sum") qSum:=by
 intro pins s σ H vs us Q I r h
 unfold qSum at h
 split at h
 ·rename_i p
  obtain⟨xs,e,ns,rfl,q⟩:=optK_ex h
  cases r with
  | cons r rr=>
   cases rr
   cases r
   obtain⟨its,rv,pl,hz⟩:=I.list (SqL.of (lst_of e))
   have hlt:p < s.heap.objs.size:=by obtain⟨_,e,_⟩:=pl.isList;exact Heap.lt_size e
   have hlen:its.length=ns.length:=by have:=rv.length;simpa using this.symm
   refine call_sum_walkAnyS (wpAny_pyIter_list pl.isList ⟨s.heap.objs.size,_,_,_,_,_,_,fun i=>ns.getD i 0,rfl,(Walks.list (show X.A.in1.handled=none from I.ok.hd hc) _ p (Nat.ne_of_lt hlt) its.toArray).toS,⟨⟨_,Heap.get?_push_size _ rfl,rfl,rfl⟩,pl.isList.push _⟩,fun b hb=>?_,fun i v hP=>?_,fun s' t' hm=>?_⟩)
   ·rw [Heap.size_push]
    rcases List.mem_cons.mp hb with rfl|hb
    ·exact Nat.lt_succ_self _
    ·rw [List.mem_singleton.mp hb];exact Nat.lt_succ_of_lt hlt
   ·have hv:its[i]? = some v:=by simpa using hP
    have hi:i < ns.length:=by rw [←hlen];exact(List.getElem?_eq_some_iff.mp hv).1
    obtain⟨u,hu,ru⟩:=rv.get (i:=i) (x:=.int (ns.getD i 0)) (by rw [List.getElem?_map,List.getElem?_eq_getElem hi];simp [List.getD,List.getElem?_eq_getElem hi])
    rw [hv] at hu
    cases hu
    exact ru
   ·obtain⟨hp,g,d,tk,os⟩:=s'
    have kp:∀ b o,s.heap.get? b=some o->hp.get? b=some o:=fun b o e=>hm.heap b o (fun hmem=>by
     have:b=s.heap.objs.size:=by simpa using hmem
     subst this
     exact absurd (Heap.lt_size e) (Nat.lt_irrefl _)) (Heap.get?_push_of_some _ e)
    have e1:g=s.gens:=hm.gens
    have e2:d=s.drawn:=hm.drawn
    have e3:os=s.os:=hm.os
    subst e1 e2 e3
    refine⟨.int ns.sum,H,I.kept (t':=tk) kp,?_,q⟩
    have es:=preSum_ints its.toArray.size ns (fun i=>ns.getD i 0) (fun _=>rfl) (by simp [hlen])
    rw [show its.toArray.size=ns.length by simp [hlen],List.take_length] at es
    rw [show its.toArray.size=ns.length by simp [hlen],es]
    exact⟨t',rfl⟩
 ·exact h.elim
theorem all_range(bs:List Bool):(List.range bs.length).all (fun i=>bs.getD i false)=bs.all id:=by
 rw [Bool.eq_iff_iff,List.all_eq_true,List.all_eq_true]
 refine⟨fun h x hx=>?_,fun h i hi=>?_⟩
 ·obtain⟨i,hi,e⟩:=List.getElem_of_mem hx
  have:=h i (List.mem_range.mpr hi)
  simpa [List.getD,List.getElem?_eq_getElem hi,e] using this
 ·have hi':=List.mem_range.mp hi
  have:=h (bs[i]) (List.getElem_mem hi')
  simpa [List.getD,List.getElem?_eq_getElem hi'] using this
theorem call_qAll(hc:X.calm=true):CallR X (.builtin "all") qAll:=by
 intro pins s σ H vs us Q I r h
 unfold qAll at h
 split at h
 ·rename_i p
  obtain⟨xs,e,bs,rfl,q⟩:=optK_ex h
  cases r with
  | cons r rr=>
   cases rr
   cases r
   obtain⟨its,rv,pl,hz⟩:=I.list (SqL.of (lst_of e))
   have hlt:p < s.heap.objs.size:=by obtain⟨_,e,_⟩:=pl.isList;exact Heap.lt_size e
   have hlen:its.length=bs.length:=by have:=rv.length;simpa using this.symm
   refine call_all_walk (wpAny_pyIter_list pl.isList ⟨s.heap.objs.size,_,_,_,_,_,fun i=>bs.getD i false,rfl,Walks.list (show X.A.in1.handled=none from I.ok.hd hc) _ p (Nat.ne_of_lt hlt) its.toArray,⟨⟨_,Heap.get?_push_size _ rfl,rfl,rfl⟩,pl.isList.push _⟩,fun i v s' Q' E' hP hQ=>?_,fun h' tk hk=>?_⟩)
   ·have hv:its[i]? = some v:=by simpa using hP
    have hi:i < bs.length:=by rw [←hlen];exact(List.getElem?_eq_some_iff.mp hv).1
    obtain⟨u,hu,ru⟩:=rv.get (i:=i) (x:=.bl (bs.getD i false)) (by rw [List.getElem?_map,List.getElem?_eq_getElem hi];simp [List.getD,List.getElem?_eq_getElem hi])
    rw [hv] at hu
    cases hu
    have e2:v=.bool (bs.getD i false):=ru
    subst e2
    exact wpAny_truthy_bool hQ
   ·have kp:∀ b o,s.heap.get? b=some o->h'.get? b=some o:=fun b o e=>hk b o (fun hmem=>by
     have:b=s.heap.objs.size:=by simpa using hmem
     subst this
     exact absurd (Heap.lt_size e) (Nat.lt_irrefl _)) (Heap.get?_push_of_some _ e)
    refine⟨.bl (bs.all id),H,I.kept (t':=tk) kp,?_,q⟩
    rw [show its.toArray.size=bs.length by simp [hlen],all_range]
    exact rfl
 ·exact h.elim
end
end L2
set_option Elab.async false
set_option linter.all false
set_option maxRecDepth 100000
set_option maxHeartbeats 4000000
namespace L2
open PySem PySem.Spec PyProof.Rows
section
variable {prog:Program}{w:World}{A:Around}{E:Value->Shared->Prop}{s:Shared}
structure Apart2(z TI TO i j:Addr)(f g:List Addr):Prop where
 ti:TI ≠ z∧TI ≠ TO∧TI ≠ i∧TI ≠ j
 zt:z ≠ TO
 zf:z ∉ f
 zg:z ∉ g
 tf:TO ∉ f
 tg:TO ∉ g
 ig:i ∉ g
 jf:j ∉ f
variable {z TI TO i j:Addr}{f g:List Addr}{ti tj:Nat->Heap->Prop}{vi vj:Nat->Option Value}{k m:Nat}{x y a b:Value}
end
end L2
set_option Elab.async false
set_option linter.all false
set_option maxRecDepth 100000
set_option maxHeartbeats 4000000
namespace L2
open PySem PySem.Spec PyProof.Rows
def SeqAt(h:Heap)(k:Bool)(l:Addr)(xs:Array Value):Prop:=match k with
 | true=>h.IsTuple l xs
 | false=>h.IsList l xs
section
variable {prog:Program}{w:World}{A:Around}{E:Value->Shared->Prop}{s:Shared}
end
section
variable {X:Cx}{pins:List (Addr × Obj)}{σ:List (Option V)}{H:Hp}{s:Shared}{h':Heap}
end
section
variable {X:Cx}
end
end L2
set_option Elab.async false
set_option linter.all false
set_option maxRecDepth 100000
set_option maxHeartbeats 4000000
namespace L2
open PySem PySem.Spec PyProof.Rows
def kCm2(te:TE)(σ2:St)(N1:VK)(N0:Hp->Prop):Bool->Hp->Prop:=fun b H=>if b=true then te σ2 H N1 else N0 H
theorem m_kCm2(te:TE)(σ2:St)(N1:VK)(N0:Hp->Prop)(b:Bool)(H:Hp):kCm2 te σ2 N1 N0 b H=(if b=true then te σ2 H N1 else N0 H):=rfl
def kCm(k:Nat)(tt:TT)(te:TE)(σ:St)(N1:VK)(N0:Hp->Prop):St->Hp->Prop:=fun σ2 H=>(∃ vs:St,vs.length=k∧σ2=vs++σ)∧tt σ2 H (kCm2 te σ2 N1 N0)
theorem m_kCm_1(tt:TT)(te:TE)(σ:St)(N1:VK)(N0:Hp->Prop)(a:Option V)(H:Hp):kCm 1 tt te σ N1 N0 (a::σ) H=tt (a::σ) H (kCm2 te (a::σ) N1 N0):=propext ⟨fun h=>h.2,fun h=>⟨⟨[a],rfl,rfl⟩,h⟩⟩
theorem m_rep_1(σ:St):List.replicate 1 (none:Option V)++σ=none::σ:=rfl
def Al{α:Type}(R:α->V->Prop)(zs:List α)(ys:List V):Prop:=ys.length=zs.length∧∀ (i:Nat) z y,zs[i]? = some z->ys[i]? = some y->R z y
theorem Al.nil{α:Type}{R:α->V->Prop}:Al R [] []:=⟨rfl,fun i z y h=>by simp at h⟩
theorem Al.snoc{α:Type}{R:α->V->Prop}{zs:List α}{ys:List V}{z:α}{y:V}(h:Al R zs ys)(r:R z y):Al R (zs++[z]) (ys++[y]):=by
 refine⟨by simp [h.1],fun i z' y' h1 h2=>?_⟩
 by_cases hi:i < zs.length
 ·rw [List.getElem?_append_left hi] at h1
  rw [List.getElem?_append_left (by rw [h.1];exact hi)] at h2
  exact h.2 i z' y' h1 h2
 ·rw [List.getElem?_append_right (by omega)] at h1
  rw [List.getElem?_append_right (by rw [h.1];omega),h.1] at h2
  by_cases h0:i - zs.length=0
  ·rw [h0] at h1 h2;simp at h1 h2;subst h1;subst h2;exact r
  ·rw [List.getElem?_eq_none (by simp;omega)] at h1;cases h1
theorem Al.imp{α:Type}{R S:α->V->Prop}{zs:List α}{ys:List V}(h:Al R zs ys)(f:∀ z y,R z y->S z y):Al S zs ys:=⟨h.1,fun i z y a b=>f z y (h.2 i z y a b)⟩
theorem Al.map{α:Type}{f:α->V}{zs:List α}{ys:List V}(h:Al (fun z y=>y=f z) zs ys):ys=zs.map f:=by
 apply List.ext_getElem?
 intro i
 rw [List.getElem?_map]
 by_cases hi:i < zs.length
 ·have e1:zs[i]? = some zs[i]:=List.getElem?_eq_getElem hi
  have e2:ys[i]? = some (ys[i]'(by rw [h.1];exact hi)):=List.getElem?_eq_getElem _
  rw [e1,e2,h.2 i _ _ e1 e2];rfl
 ·have:=h.1;rw [List.getElem?_eq_none (show ys.length≤i by omega),List.getElem?_eq_none (show zs.length≤i by omega)];rfl
section
variable {k:Nat}{g:TG}{tt:TT}{te:TE}{σ:St}{Q:VK}{H:Hp}{K:PySem.W.Frag}
theorem comp_rel{α:Type}{J:It}(zs:List α)(c:α->Bool)(P:α->V->Hp->Prop)(R:Addr->α->V->Hp->Prop)
  (hgo:∀ i z H',zs[i]? = some z->Ext H H'->J.go i H'∧∀ x H'',J.yld i H' x H''->Ext H' H''∧P z x H'')
  (hst:∀ H',Ext H H'->J.stop zs.length H')
  (hR1:∀ D z y H1 H2,R D z y H1->Ext H1 H2->R D z y H2) (hR2:∀ D z y H1 o,R D z y H1->R D z y (upd H1 D o))
  (hl:zs.length≤sizeLine)
  (hs:∀ D z x H' N1 N0,z∈zs->H D=none->Ext H H'->(∃ ys,H' D=some (.lst ys))->P z x H'->(c z=true->∀ y H'',Ext H' H''->R D z y H''->N1 y H'')->(c z=false->∀ H'',Ext H' H''->N0 H'')->g x (List.replicate k none++σ) H' (kCm k tt te σ N1 N0))
  (hd:∀ D ys H',H D=none->Ext H H'->H' D=some (.lst ys)->Al (fun z y=>R D z y H') (zs.filter c) ys->Q (.ref D) H'):kComp k g tt te σ Q J H:=by
 intro D hD
 refine⟨fun i m ys H'=>m=zs.length - i∧i≤zs.length∧Ext H H'∧H' D=some (.lst ys)∧Al (fun z y=>R D z y H') ((zs.take i).filter c) ys,⟨zs.length,by simp,Nat.zero_le _,Ext.new hD,upd_same,by simpa using Al.nil⟩,?_⟩
 rintro i m ys H' ⟨rfl,hi,e,hD',al⟩
 by_cases hlt:i < zs.length
 ·have hz:zs[i]? = some zs[i]:=List.getElem?_eq_getElem hlt
  obtain⟨go,y⟩:=hgo i zs[i] H' hz e
  have tk:zs.take (i+1)=zs.take i++[zs[i]]:=by rw [List.take_succ,hz];rfl
  have ln:ys.length < sizeLine:=by
   have h1:=al.1
   have h2:=List.length_filter_le c (zs.take i)
   simp only [List.length_take] at h2
   omega
  refine .inr ⟨go,fun ys' H2=>Ext H H2∧H2 D=some (.lst ys')∧Al (fun z y=>R D z y H2) ((zs.take (i+1)).filter c) ys',fun ys' H2 p=>⟨zs.length - (i+1),by omega,rfl,hlt,p⟩,fun x H2 z=>?_⟩
  obtain⟨e2,p2⟩:=y x H2 z
  refine hs D zs[i] x H2 (kC3 D ys _) _ (List.getElem_mem hlt) hD (e.trans e2) ⟨ys,e2.at hD'⟩ p2 (fun hc y H3 e3 r3=>?_) fun hc H3 e3=>?_
  ·refine⟨e3.at (e2.at hD'),ln,(e.trans (e2.trans e3)).put hD,upd_same,?_⟩
   rw [tk,List.filter_append,show [zs[i]].filter c=[zs[i]] by simp [hc]]
   exact Al.snoc (al.imp fun z y r=>hR2 _ _ _ _ _ (hR1 _ _ _ _ _ r (e2.trans e3))) (hR2 _ _ _ _ _ r3)
  ·refine⟨e.trans (e2.trans e3),(e2.trans e3).at hD',?_⟩
   rw [tk,List.filter_append,show [zs[i]].filter c=[] by simp [hc],List.append_nil]
   exact al.imp fun z y r=>hR1 _ _ _ _ _ r (e2.trans e3)
 ·have e':i=zs.length:=by omega
  subst e'
  rw [List.take_length] at al
  exact .inl ⟨hst H' e,hd D ys H' hD e hD' al⟩
theorem comp_fm{α:Type}{J:It}(zs:List α)(c:α->Bool)(f:α->V)(P:α->V->Hp->Prop)
  (hgo:∀ i z H',zs[i]? = some z->Ext H H'->J.go i H'∧∀ x H'',J.yld i H' x H''->Ext H' H''∧P z x H'')
  (hst:∀ H',Ext H H'->J.stop zs.length H') (hl:zs.length≤sizeLine)
  (hs:∀ D z x H' N1 N0,z∈zs->H D=none->Ext H H'->P z x H'->(c z=true->∀ H'',Ext H' H''->N1 (f z) H'')->(c z=false->∀ H'',Ext H' H''->N0 H'')->g x (List.replicate k none++σ) H' (kCm k tt te σ N1 N0))
  (hd:∀ D H',H D=none->Ext H H'->H' D=some (.lst ((zs.filter c).map f))->Q (.ref D) H'):kComp k g tt te σ Q J H:=
 comp_rel zs c P (fun _ z y _=>y=f z) hgo hst (fun _ _ _ _ _ r _=>r) (fun _ _ _ _ _ r=>r) hl (fun D z x H' N1 N0 hz hD e _ p k1 k0=>hs D z x H' N1 N0 hz hD e p (fun hc H'' e'=>k1 hc _ H'' e' rfl) k0) fun D ys H' hD e hD' al=>hd D H' hD e (by rw [←al.map];exact hD')
theorem wk_rng{lo:Int}{n:Nat}:(∀ i z H',(List.range n)[i]? = some z->Ext H H'->(Itr lo n).go i H'∧∀ x H'',(Itr lo n).yld i H' x H''->Ext H' H''∧x=.int (lo+(z:Nat)))∧∀ H',Ext H H'->(Itr lo n).stop (List.range n).length H':=by
 refine⟨fun i z H' hz _=>?_,fun H' _=>by simp [Itr]⟩
 obtain⟨h1,h2⟩:=List.getElem?_eq_some_iff.mp hz
 have e:i=z:=by simpa using h2
 subst e
 exact⟨(show i < n by simpa using h1),fun x H'' y=>⟨by rw [y.1];exact Ext.refl _,y.2⟩⟩
theorem wk_lst{a:Addr}{xs:List V}(h:H a=some (.lst xs)):(∀ i z H',xs[i]? = some z->Ext H H'->(Itl K a).go i H'∧∀ x H'',(Itl K a).yld i H' x H''->Ext H' H''∧(x=z∧H'' a=some (.lst xs)))∧∀ H',Ext H H'->(Itl K a).stop xs.length H':=
 ⟨fun i z H' hz e=>⟨⟨xs,z,SqL.of (e.at h),hz⟩,fun x H'' y=>⟨by rw [y.1];exact Ext.refl _,Option.some.inj ((y.2 xs (SqL.of (e.at h))).symm.trans hz),by rw [y.1];exact e.at h⟩⟩,fun H' e=>⟨xs,SqL.of (e.at h),Nat.le_refl _⟩⟩
theorem wk_tup{a:Addr}{xs:List V}(h:H a=some (.tup xs)):(∀ i z H',xs[i]? = some z->Ext H H'->(Itt K a).go i H'∧∀ x H'',(Itt K a).yld i H' x H''->Ext H' H''∧(x=z∧H'' a=some (.tup xs)))∧∀ H',Ext H H'->(Itt K a).stop xs.length H':=
 ⟨fun i z H' hz e=>⟨⟨xs,z,SqT.of (e.at h),hz⟩,fun x H'' y=>⟨by rw [y.1];exact Ext.refl _,Option.some.inj ((y.2 xs (SqT.of (e.at h))).symm.trans hz),by rw [y.1];exact e.at h⟩⟩,fun H' e=>⟨xs,SqT.of (e.at h),Nat.le_refl _⟩⟩
end
def compB(sc:Scope)(N:List Str)(scope:Scope)(N':List Str)(k:Nat):Bool:=
 scope.names.all (fun y=>!(y.2 == .cell)) && (scope.kind == .function) && scope.names.all (fun y=>!(y.2 == .local) || scope.names.lookup y.1 == some .local) && scope.names.all (fun y=>!(y.2 == .free) || sc.names.lookup y.1 == some .cell) && decide (N'.length=k+N.length) &&
  ((N'.drop k).zip N).all (fun p=>(!(scope.names.lookup p.1 == some .free) || decide (p.1=p.2)) && !(scope.names.lookup p.1 == some .local))
theorem comp_ok{X:Cx}{scope:Scope}{N':List Str}{k:Nat}(sc:Scope)(N:List Str)(h1:X.env.scope=sc)(h2:X.N=N)(h:compB sc N scope N' k=true):CompOk X scope N' k:=by
 unfold compB at h
 simp only [Bool.and_eq_true,decide_eq_true_eq] at h
 obtain⟨⟨⟨⟨⟨a1,a2⟩,a3⟩,a4⟩,a5⟩,a6⟩:=h
 rw [List.all_eq_true] at a1 a3 a4 a6
 have pr:∀ i x,N'[k+i]? = some x->∃ y,N[i]? = some y∧(x,y)∈(N'.drop k).zip N:=fun i x hx=>by
  have h0:=(List.getElem?_eq_some_iff.mp hx).1
  have hi:i < N.length:=by omega
  have e1:(N'.drop k)[i]? = some x:=by rw [List.getElem?_drop];exact hx
  have e2:N[i]? = some N[i]:=List.getElem?_eq_getElem hi
  refine⟨_,e2,List.mem_of_getElem? (i:=i) ?_⟩
  rw [List.getElem?_zip_eq_some]
  exact⟨e1,e2⟩
 refine⟨fun y hy e=>?_,by simpa using a2,fun y hy e=>?_,fun y hy e=>?_,by rw [h2];exact a5,fun i x hx hf=>?_,fun i x hx hf=>?_⟩
 ·have:=a1 y hy;rw [e] at this;simp at this
 ·have:=a3 y hy;rw [e] at this;simpa using this
 ·have:=a4 y hy;rw [e] at this;rw [h1];simpa using this
 ·obtain⟨y,hy,hm⟩:=pr i x hx
  have:=a6 _ hm
  simp only [hf] at this
  rw [h2,hy]
  simp at this
  rw [this]
 ·obtain⟨y,hy,hm⟩:=pr i x hx
  have:=a6 _ hm
  simp [hf] at this
end L2
set_option Elab.async false
set_option linter.all false
set_option maxRecDepth 100000
set_option maxHeartbeats 4000000
namespace L2
open PySem PySem.Spec PyProof.Rows
def kFldV(H:Hp)(Q:VK):V->Prop:=fun v=>Q v H
theorem m_kFldV(H:Hp)(Q:VK)(v:V):kFldV H Q v=Q v H:=rfl
def kFldO(K:PySem.W.Frag)(f:Str)(H:Hp)(Q:VK):HO->Prop:=fun o=>match o with
 | .ins C dx fs=>Cls K C∧NoAttr K C f∧optK (fs.lookup f) (kFldV H Q)
 | _=>False
theorem m_kFldO(K:PySem.W.Frag)(f:Str)(H:Hp)(Q:VK)(C dx:Addr)(fs:List (Str × V)):kFldO K f H Q (.ins C dx fs)=(Cls K C∧NoAttr K C f∧optK (fs.lookup f) (kFldV H Q)):=rfl
def kFld(K:PySem.W.Frag)(f:Str)(Q:VK):VK:=fun x H=>match x with
 | .ref a=>optK (H a) (kFldO K f H Q)
 | _=>False
theorem m_kFld(K:PySem.W.Frag)(f:Str)(Q:VK)(a:Addr)(H:Hp):kFld K f Q (.ref a) H=optK (H a) (kFldO K f H Q):=rfl
def nFld(K:PySem.W.Frag)(ta:TE)(f:Str):TE:=fun σ H Q=>ta σ H (kFld K f Q)
theorem m_nFld(K:PySem.W.Frag)(ta:TE)(f:Str)(σ:St)(H:Hp)(Q:VK):nFld K ta f σ H Q=ta σ H (kFld K f Q):=rfl
theorem kFld_ex{K:PySem.W.Frag}{f:Str}{Q:VK}{x:V}{H:Hp}(h:kFld K f Q x H):∃ a C dx fs v,x=.ref a∧H a=some (.ins C dx fs)∧Cls K C∧NoAttr K C f∧fs.lookup f=some v∧Q v H:=by
 unfold kFld at h
 split at h
 ·obtain⟨o,e,h⟩:=optK_ex h
  unfold kFldO at h
  split at h
  ·obtain⟨c,n,h⟩:=h
   obtain⟨v,l,q⟩:=optK_ex h
   exact⟨_,_,_,_,v,rfl,e,c,n,l,q⟩
  ·exact h.elim
 ·exact h.elim
section
variable {X:Cx}{e o value:Expr}{ta tv:TE}{f:Str}{pos pos':Pos}
theorem pe_nFld(he:PE X e ta)(hb:attributeBase e f X.env (eval e X.env)=eval e X.env):PE X (.Attribute e f pos) (nFld X.K ta f):=by
 intro pins s σ H Q I h
 refine attr_of hb (thn (he pins s σ H _ I h) fun u s1 ⟨x,H1,I1,rx,q1⟩=>?_)
 obtain⟨a,C,dx,fs,v,ex,ea,c,n,l,q⟩:=kFld_ex q1
 subst ex
 obtain rfl:u=Value.ref a:=rx
 exact getattr_ok I1 ea c n l fun u' s2 I2 ru=>⟨v,H1,I2,ru,q⟩
def kSetO(K:PySem.W.Frag)(f:Str)(y:V)(a:Addr)(σ:St)(nx:St->Hp->Prop)(H:Hp):HO->Prop:=fun o=>match o with
 | .ins C dx fs=>Cls K C∧NoAttr K C f∧fs.length < 1000∧nx σ (upd H a (.ins C dx (putF f y fs)))
 | _=>False
theorem m_kSetO(K:PySem.W.Frag)(f:Str)(y:V)(a:Addr)(σ:St)(nx:St->Hp->Prop)(H:Hp)(C dx:Addr)(fs:List (Str × V)):kSetO K f y a σ nx H (.ins C dx fs)=(Cls K C∧NoAttr K C f∧fs.length < 1000∧nx σ (upd H a (.ins C dx (putF f y fs)))):=rfl
def kSet1(K:PySem.W.Frag)(f:Str)(y:V)(σ:St)(nx:St->Hp->Prop):VK:=fun x H=>match x with
 | .ref a=>optK (H a) (kSetO K f y a σ nx H)
 | _=>False
theorem m_kSet1(K:PySem.W.Frag)(f:Str)(y:V)(σ:St)(nx:St->Hp->Prop)(a:Addr)(H:Hp):kSet1 K f y σ nx (.ref a) H=optK (H a) (kSetO K f y a σ nx H):=rfl
def kSet0(K:PySem.W.Frag)(f:Str)(ta:TE)(σ:St)(nx:St->Hp->Prop):VK:=fun y H=>ta σ H (kSet1 K f y σ nx)
theorem m_kSet0(K:PySem.W.Frag)(f:Str)(ta:TE)(σ:St)(nx:St->Hp->Prop)(y:V)(H:Hp):kSet0 K f ta σ nx y H=ta σ H (kSet1 K f y σ nx):=rfl
def nSetF(K:PySem.W.Frag)(ta tv:TE)(f:Str):TS:=fun D σ H=>tv σ H (kSet0 K f ta σ D.nx)
theorem m_nSetF(K:PySem.W.Frag)(ta tv:TE)(f:Str)(nx:St->Hp->Prop)(rt:VK)(bk ct:St->Hp->Prop)(σ:St)(H:Hp):nSetF K ta tv f ⟨nx,rt,bk,ct⟩ σ H=tv σ H (kSet0 K f ta σ nx):=rfl
theorem ps_nSetF(ha:PE X o ta)(hv:PE X value tv)(hs:swapsWith value (some (.Attribute o f pos')) pos.line X.env=pure false):PS X (.Assign [.Attribute o f pos'] value pos) (nSetF X.K ta tv f):=by
 intro pins s σ H D I h
 refine plainObj_wpAny_Assign_Attribute (thn (hv pins s σ H _ I h) fun u s1 ⟨y,H1,I1,ry,q⟩=>thn (ha pins s1 σ H1 _ I1 q) fun ov s2 ⟨x,H2,I2,rx,q1⟩=>?_) hs
 unfold kSet1 at q1
 split at q1
 ·rename_i a
  obtain rfl:ov=Value.ref a:=rx
  obtain⟨ob,ea,q1⟩:=optK_ex q1
  unfold kSetO at q1
  split at q1
  ·obtain⟨c,n,l,q2⟩:=q1
   exact setattr_ok I2 ea c n l ry fun s3 I3=>⟨σ,_,I3,q2⟩
  ·exact q1.elim
 ·exact q1.elim
end
section
variable {X:Cx}{CX:CXT}{k:Nat}{f C:Addr}{fd:FuncData}{ps:List Str}{sp:Sp}{dvs:List V}{ds:List Value}{E:XK}{x m:Str}{p pos apos:Pos}{e o:Expr}{es:List Expr}{ta:TE}{t:TA}
end
def kMade(x:Addr)(Q:VK):VK:=fun v H=>v=.non∧Q (.ref x) H
theorem m_kMade(x:Addr)(Q:VK)(H:Hp):kMade x Q .non H=Q (.ref x) H:=propext ⟨fun h=>h.2,fun h=>⟨rfl,h⟩⟩
def kMake(C:Addr)(sp:Sp)(dvs:List V)(E:XK)(Q:VK):List V->Hp->Prop:=fun vs H=>∀ (x dx:Addr) (H':Hp),H x=none->H dx=none->dx ≠ x->Ext H H'->H' x=some (.ins C dx [])->H' dx=some (.own x)->sp (.ref x::(vs++dvs)) H' (kMade x Q) E
theorem m_kMake_1(C:Addr)(sp:Sp)(dvs:List V)(E:XK)(Q:VK)(a:V)(H:Hp):kMake C sp dvs E Q [a] H=∀ (x dx:Addr) (H':Hp),H x=none->H dx=none->dx ≠ x->Ext H H'->H' x=some (.ins C dx [])->H' dx=some (.own x)->sp (.ref x::a::dvs) H' (kMade x Q) E:=rfl
theorem m_kMake_2(C:Addr)(sp:Sp)(dvs:List V)(E:XK)(Q:VK)(a b:V)(H:Hp):kMake C sp dvs E Q [a,b] H=∀ (x dx:Addr) (H':Hp),H x=none->H dx=none->dx ≠ x->Ext H H'->H' x=some (.ins C dx [])->H' dx=some (.own x)->sp (.ref x::a::b::dvs) H' (kMade x Q) E:=rfl
def nMake(C:Addr)(sp:Sp)(dvs:List V)(E:XK)(t:TA):TE:=fun σ H Q=>t σ H (kMake C sp dvs E Q)
theorem m_nMake(C:Addr)(sp:Sp)(dvs:List V)(E:XK)(t:TA)(σ:St)(H:Hp)(Q:VK):nMake C sp dvs E t σ H Q=t σ H (kMake C sp dvs E Q):=rfl
section
variable {X:Cx}{CX:CXT}{k:Nat}{f C:Addr}{fd:FuncData}{ps:List Str}{sp:Sp}{dvs:List V}{ds:List Value}{E:XK}{x m:Str}{p pos apos:Pos}{e o:Expr}{es:List Expr}{ta:TE}{t:TA}
theorem kMake.to{Q:VK}{vs:List V}{H:Hp}(h:kMake C sp dvs E Q vs H):∀ x dx,H x=none->H dx=none->dx ≠ x->sp (.ref x::(vs++dvs)) (upd (upd H dx (.own x)) x (.ins C dx [])) (fun v H2=>v=.non∧Q (.ref x) H2) E:=fun x dx hx hd ne=>
 h x dx _ hx hd ne ((Ext.new hd).put hx) upd_same (by rw [upd_ne ne,upd_same])
theorem pe_nMake(M:Mk X.K C f)(F:FnOk X.prog X.w X.K X.mg X.base CX k f fd ps sp)(hr:Room (k+1) X.A)(hg:Gl X x)(hm:X.mg x=some (.ref C))(hb:Binds X.K fd ps ds)(hd:Vals dvs ds)(hx:Passes CX X E)
  (ha:PA X (e::es) t) (hdb:(x == ("__debug__":Str))=false:=by decide) (he:starEach (e::es) X.env=(false,eval e X.env)::starEach es X.env:=by rfl) (hpl:(backTo pos (starEach es X.env)).any (·.1)=false:=by rfl) :
  PE X (.Call (.Name x p) (e::es) [] pos) (nMake C sp dvs E t):=by
 intro pins s σ H Q I h
 refine wpAny_Call_Name_kw (ld_glob I hg hm ?_ hdb)
 refine PySem.W.callWith_K (h₀:=X.base) I.ok.mod.kin M.kp (thn (ha pos pins s σ H _ I h) fun us s1 ⟨vs,H1,I1,r,q⟩=>⟨I1.kIn,?_⟩) he hpl
 exact run_make M F hr hb hd hx I1 r q.to
end
end L2
set_option Elab.async false
set_option linter.all false
set_option maxRecDepth 100000
set_option maxHeartbeats 4000000
namespace L2
open PySem PySem.Spec PyProof.Rows
def notStar:Expr->Bool
 | .Starred ..=>false
 | _=>true
theorem star_ok{e:Expr}{es:List Expr}{env:Env}(h:notStar e=true):starEach (e::es) env=(false,eval e env)::starEach es env:=by
 cases e<;>first|rfl|cases h
theorem pa_c{X:Cx}{e:Expr}{es:List Expr}{te:TE}{t:TA}(ha:PE X e te)(hr:PA X es t)(hn:notStar e=true:=by rfl):PA X (e::es) (tCons te t):=pa_cons ha hr (star_ok hn)
end L2
namespace L2
open PySem PySem.Spec PyProof.Rows
theorem len5000{n:Nat}(h:n≤5000):n≤sizeLine:=Nat.le_trans h (by decide)
theorem lt5000{n:Nat}(h:n < 5000):n < sizeLine:=Nat.lt_of_lt_of_le h (by decide)
def kCT2(xs:List V)(H:Hp)(Q:VK):List V->Prop:=fun ys=>xs.length+ys.length≤sizeLine∧∀ (p:Addr) (H':Hp),Ext H H'->H' p=some (.tup (xs++ys))->Q (.ref p) H'
def kCT1(b:Addr)(H:Hp)(Q:VK):List V->Prop:=fun xs=>optK (tupAt H b) (kCT2 xs H Q)
theorem m_kCT1(b:Addr)(H:Hp)(Q:VK)(xs:List V):kCT1 b H Q xs=optK (tupAt H b) (kCT2 xs H Q):=rfl
def nCatT:R2:=fun x y H Q=>match x,y with
 | .ref l,.ref b=>optK (tupAt H l) (kCT1 b H Q)
 | _,_=>False
theorem m_nCatT(l b:Addr)(H:Hp)(Q:VK):nCatT (.ref l) (.ref b) H Q=optK (tupAt H l) (kCT1 b H Q):=rfl
theorem op_nCatT{X:Cx}:OpR X (binaryOp .Add) nCatT:=by
 intro pins s σ H x y v u Q I rx ry h
 unfold nCatT at h
 split at h
 ·rename_i l b
  obtain⟨xs,e1,h⟩:=optK_ex h
  obtain⟨ys,e2,hz,k⟩:=optK_ex h
  have g1:=tup_of e1
  have g2:=tup_of e2
  by_cases hx:xs=[]
  ·subst hx
   cases rx
   cases ry
   obtain⟨its,r1,p1,_⟩:=I.tuple (SqT.of g1)
   obtain⟨its2,r2,p2,_⟩:=I.tuple (SqT.of g2)
   obtain⟨⟨cls,dd,data,sl⟩,ho,hc,n,hd⟩:=id p1
   obtain⟨⟨cls2,dd2,data2,sl2⟩,ho2,hc2,n2,hd2⟩:=id p2
   simp only at hc hd hc2 hd2
   subst hc hd hc2 hd2
   cases r1
   exact concat_meets ⟨_,ho,rfl⟩ ⟨_,ho2,rfl⟩ noFill_tuple_add seq_tuple_add PySem.F.slot_tuple_add PySem.F.entry_tuple_add (PySem.F.args_tuple_add_2 _ _)
    (tuple_addW0 l b #[] its2.toArray n n2 dd dd2 sl sl2 (by simp)) ⟨ho,ho2,show EP X pins σ Q (.ref b) s from ⟨.ref b,H,I,rfl,k b H (Ext.refl _) (by rw [List.nil_append];exact g2)⟩⟩
  ·refine op_catT pins s σ H (.ref l) (.ref b) v u Q I rx ry ⟨l,b,xs,ys,rfl,rfl,SqT.of g1,SqT.of g2,hx,hz,fun hy=>?_,fun hy p hp=>k p _ (Ext.new hp) upd_same⟩
   subst hy
   exact k l H (Ext.refl _) (by rw [List.append_nil];exact g1)
 ·exact h.elim
end L2
set_option Elab.async false
set_option linter.all false
set_option maxRecDepth 100000
set_option maxHeartbeats 4000000
namespace L2
open PySem PySem.Spec PyProof.Rows
theorem wk_al{K:PySem.W.Frag}{H:Hp}{α:Type}{R:α->V->Hp->Prop}(hR:∀ z y H H',R z y H->Ext H H'->R z y H'){l:Addr}{ys:List V}{zs:List α}(h:H l=some (.lst ys))(al:Al (fun z y=>R z y H) zs ys) :
  (∀ i z H',zs[i]? = some z->Ext H H'->(Itl K l).go i H'∧∀ x H'',(Itl K l).yld i H' x H''->Ext H' H''∧R z x H'')∧∀ H',Ext H H'->(Itl K l).stop zs.length H':=by
 refine⟨fun i z H' hz e=>?_,fun H' e=>⟨ys,SqL.of (e.at h),by rw [al.1];exact Nat.le_refl _⟩⟩
 have hi:i < ys.length:=by rw [al.1];exact(List.getElem?_eq_some_iff.mp hz).1
 have hy:ys[i]? = some ys[i]:=List.getElem?_eq_getElem hi
 refine⟨⟨ys,ys[i],SqL.of (e.at h),hy⟩,fun x H'' y=>?_⟩
 have hx:x=ys[i]:=Option.some.inj ((y.2 ys (SqL.of (e.at h))).symm.trans hy)
 refine⟨by rw [y.1];exact Ext.refl _,?_⟩
 rw [hx,y.1]
 exact hR _ _ _ _ (al.2 i z _ hz hy) e
end L2
set_option Elab.async false
set_option linter.all false
set_option maxRecDepth 100000
set_option maxHeartbeats 4000000
namespace L2
open PySem PySem.Spec PyProof.Rows
section
variable {prog:Program}{w:World}{A:Around}{E:Value->Shared->Prop}{s:Shared}
variable {z TI TO i j:Addr}{f g:List Addr}{ti tj:Nat->Heap->Prop}{vi vj:Nat->Option Value}{k m:Nat}{x y:Value}{t:Addr}{fl:Bool}{ot:Obj}
variable {ka kb:Bool}{a b p q:Addr}{as bs:Array Value}{n:Nat}
end
section
variable {X:Cx}{pins:List (Addr × Obj)}{σ:St}{s:Shared}
end
section
variable {X:Cx}
end
def qInt(xs:List V)(H:Hp)(Q:VK):Prop:=match xs with
 | [.int i]=>Q (.int i) H
 | [.bl k]=>Q (.int (if k=true then 1 else 0)) H
 | _=>False
theorem m_qInt_b(k:Bool)(H:Hp)(Q:VK):qInt [.bl k] H Q=Q (.int (if k=true then 1 else 0)) H:=rfl
theorem call_qInt{X:Cx}:CallR X (.type "int") qInt:=call_int1.mono fun xs H Q h=>by
 unfold qInt at h
 split at h
 ·exact .inl ⟨_,rfl,h⟩
 ·exact .inr ⟨_,rfl,h⟩
 ·exact h.elim
end L2
set_option Elab.async false
set_option linter.all false
set_option maxRecDepth 100000
set_option maxHeartbeats 4000000
namespace L2
open PySem PySem.Spec PyProof.Rows
section
variable {X:Cx}
end
section
variable {X:Cx}{a b c d:Expr}{ta tb tc td:TE}{pos:Pos}
end
section
variable {k:Nat}{g:TG}{tt:TT}{te:TE}{σ:St}{Q:VK}{H:Hp}{K:PySem.W.Frag}
end
end L2
set_option Elab.async false
set_option linter.all false
set_option maxRecDepth 100000
set_option maxHeartbeats 4000000
namespace L2
open PySem PySem.Spec PyProof.Rows
section
variable {X:Cx}
end
section
variable {g:TG}{σ:St}{Q:VK}{H:Hp}{K:PySem.W.Frag}
end
section
variable {X:Cx}{CX:CXT}{k:Nat}{f C:Addr}{fd:FuncData}{ps:List Str}{sp:Sp}{dvs:List V}{ds:List Value}{E:St->XK}{x m:Str}{p pos apos:Pos}{e o:Expr}{es:List Expr}{ta:TE}{t:TA}
end
end L2
set_option Elab.async false
set_option linter.all false
set_option maxRecDepth 100000
set_option maxHeartbeats 1000000
namespace L2
open PySem PySem.Spec PyProof.Rows
section
variable {X:Cx}{e st:Expr}{te tst:TE}{pos p2:Pos}
end
end L2
set_option Elab.async false
set_option linter.all false
set_option maxRecDepth 100000
set_option maxHeartbeats 1000000
namespace L2
open PySem PySem.Spec PyProof.Rows
section
variable {X:Cx}
end
end L2
set_option Elab.async false
set_option linter.all false
set_option maxRecDepth 100000
set_option maxHeartbeats 1000000
namespace L2
open PySem PySem.Spec PyProof.Rows
theorem units1{n:Nat}(h:n+64 < cLine):n+1 < cLine:=by omega
section
variable {X:Cx}
end
end L2
set_option Elab.async false
set_option linter.all false
set_option maxRecDepth 100000
set_option maxHeartbeats 4000000
namespace L2
open PySem PySem.Spec PyProof.Rows
section
variable {X:Cx}
end
end L2
set_option Elab.async false
set_option linter.all false
set_option maxRecDepth 100000
set_option maxHeartbeats 4000000
namespace L2
open PySem PySem.Spec PyProof.Rows
def tV(i:Nat):TE:=fun σ H Q=>match σ[i]? with
 | some (some v)=>Q v H
 | _=>False
theorem tV_eq(i:Nat):tVar i=tV i:=by
 funext σ H Q
 refine propext ⟨fun ⟨v,e,q⟩=>?_,fun h=>?_⟩
 ·unfold tV;rw [e];exact q
 ·unfold tV at h
  split at h
  ·rename_i v e;exact⟨v,e,h⟩
  ·exact h.elim
theorem m_tV_0{v:V}{σ:St}{H:Hp}{Q:VK}:tV 0 (some v::σ) H Q=Q v H:=rfl
theorem m_tV_1{a0:Option V}{v:V}{σ:St}{H:Hp}{Q:VK}:tV 1 (a0::some v::σ) H Q=Q v H:=rfl
theorem m_tV_2{a0 a1:Option V}{v:V}{σ:St}{H:Hp}{Q:VK}:tV 2 (a0::a1::some v::σ) H Q=Q v H:=rfl
theorem m_tV_3{a0 a1 a2:Option V}{v:V}{σ:St}{H:Hp}{Q:VK}:tV 3 (a0::a1::a2::some v::σ) H Q=Q v H:=rfl
theorem m_tV_4{a0 a1 a2 a3:Option V}{v:V}{σ:St}{H:Hp}{Q:VK}:tV 4 (a0::a1::a2::a3::some v::σ) H Q=Q v H:=rfl
theorem m_tV_5{a0 a1 a2 a3 a4:Option V}{v:V}{σ:St}{H:Hp}{Q:VK}:tV 5 (a0::a1::a2::a3::a4::some v::σ) H Q=Q v H:=rfl
theorem m_tV_6{a0 a1 a2 a3 a4 a5:Option V}{v:V}{σ:St}{H:Hp}{Q:VK}:tV 6 (a0::a1::a2::a3::a4::a5::some v::σ) H Q=Q v H:=rfl
theorem m_tV_7{a0 a1 a2 a3 a4 a5 a6:Option V}{v:V}{σ:St}{H:Hp}{Q:VK}:tV 7 (a0::a1::a2::a3::a4::a5::a6::some v::σ) H Q=Q v H:=rfl
def nI0(g:Int->Int->V):R2:=fun x y H Q=>match x,y with
 | .int i,.int j=>Q (g i j) H
 | _,_=>False
theorem m_nI0(g:Int->Int->V)(i j:Int)(H:Hp)(Q:VK):nI0 g (.int i) (.int j) H Q=Q (g i j) H:=rfl
theorem nI0_eq(g:Int->Int->V):rI0 g=nI0 g:=by
 funext x y H Q
 refine propext ⟨fun ⟨i,j,e,e',q⟩=>by subst e e';exact q,fun h=>?_⟩
 unfold nI0 at h
 split at h
 ·exact⟨_,_,rfl,rfl,h⟩
 ·exact h.elim
def nI(C:Int->Int->Prop)(g:Int->Int->V):R2:=fun x y H Q=>match x,y with
 | .int i,.int j=>C i j∧Q (g i j) H
 | _,_=>False
theorem m_nI(C:Int->Int->Prop)(g:Int->Int->V)(i j:Int)(H:Hp)(Q:VK):nI C g (.int i) (.int j) H Q=(C i j∧Q (g i j) H):=rfl
theorem nI_eq(C:Int->Int->Prop)(g:Int->Int->V):rI C g=nI C g:=by
 funext x y H Q
 refine propext ⟨fun ⟨i,j,e,e',q⟩=>by subst e e';exact q,fun h=>?_⟩
 unfold nI at h
 split at h
 ·exact⟨_,_,rfl,rfl,h⟩
 ·exact h.elim
def nU(g:Int->V):V->Hp->VK->Prop:=fun x H Q=>match x with
 | .int i=>Q (g i) H
 | _=>False
theorem m_nU(g:Int->V)(i:Int)(H:Hp)(Q:VK):nU g (.int i) H Q=Q (g i) H:=rfl
theorem nU_eq(g:Int->V):rU g=nU g:=by
 funext x H Q
 refine propext ⟨fun ⟨i,e,q⟩=>by subst e;exact q,fun h=>?_⟩
 unfold nU at h
 split at h
 ·exact⟨_,rfl,h⟩
 ·exact h.elim
def kTestN(Q:Bool->Hp->Prop):VK:=fun x H=>match x with
 | .bl k=>Q k H
 | _=>False
theorem m_kTestN(Q:Bool->Hp->Prop)(k:Bool)(H:Hp):kTestN Q (.bl k) H=Q k H:=rfl
theorem kTest_eq(Q:Bool->Hp->Prop):kTest Q=kTestN Q:=by
 funext x H
 refine propext ⟨fun ⟨k,e,q⟩=>by subst e;exact q,fun h=>?_⟩
 unfold kTestN at h
 split at h
 ·exact⟨_,rfl,h⟩
 ·exact h.elim
def nTest(t:TE):TT:=fun σ H Q=>t σ H (kTestN Q)
theorem m_nTest(t:TE)(σ:St)(H:Hp)(Q:Bool->Hp->Prop):nTest t σ H Q=t σ H (kTestN Q):=rfl
theorem nTest_eq(t:TE):tTest t=nTest t:=by
 funext σ H Q
 show t σ H (kTest Q)=t σ H (kTestN Q)
 rw [kTest_eq]
theorem nTest_eqB(t:TE):tB t=nTest t:=nTest_eq t
def kAndN(tb:TE)(σ:St)(Q:VK):VK:=fun x H=>match x with
 | .bl c=>if c=true then tb σ H Q else Q (.bl false) H
 | _=>False
theorem m_kAndN(tb:TE)(σ:St)(Q:VK)(c:Bool)(H:Hp):kAndN tb σ Q (.bl c) H=(if c=true then tb σ H Q else Q (.bl false) H):=rfl
def nAndV(ta tb:TE):TE:=fun σ H Q=>ta σ H (kAndN tb σ Q)
theorem m_nAndV(ta tb:TE)(σ:St)(H:Hp)(Q:VK):nAndV ta tb σ H Q=ta σ H (kAndN tb σ Q):=rfl
theorem nAndV_eq(ta tb:TE):tAndV ta tb=nAndV ta tb:=by
 funext σ H Q
 show ta σ H (kAndV tb σ Q)=ta σ H (kAndN tb σ Q)
 congr 1
 funext x H
 refine propext ⟨fun ⟨k,e,q⟩=>by subst e;exact q,fun h=>?_⟩
 unfold kAndN at h
 split at h
 ·exact⟨_,rfl,h⟩
 ·exact h.elim
def kOrN(tb:TE)(σ:St)(Q:VK):VK:=fun x H=>match x with
 | .bl c=>if c=true then Q (.bl true) H else tb σ H Q
 | _=>False
theorem m_kOrN(tb:TE)(σ:St)(Q:VK)(c:Bool)(H:Hp):kOrN tb σ Q (.bl c) H=(if c=true then Q (.bl true) H else tb σ H Q):=rfl
def nOrV(ta tb:TE):TE:=fun σ H Q=>ta σ H (kOrN tb σ Q)
theorem m_nOrV(ta tb:TE)(σ:St)(H:Hp)(Q:VK):nOrV ta tb σ H Q=ta σ H (kOrN tb σ Q):=rfl
theorem nOrV_eq(ta tb:TE):tOrV ta tb=nOrV ta tb:=by
 funext σ H Q
 show ta σ H (kOrV tb σ Q)=ta σ H (kOrN tb σ Q)
 congr 1
 funext x H
 refine propext ⟨fun ⟨k,e,q⟩=>by subst e;exact q,fun h=>?_⟩
 unfold kOrN at h
 split at h
 ·exact⟨_,rfl,h⟩
 ·exact h.elim
def kNotN(Q:VK):VK:=fun x H=>match x with
 | .bl c=>Q (.bl (!c)) H
 | _=>False
theorem m_kNotN(Q:VK)(c:Bool)(H:Hp):kNotN Q (.bl c) H=Q (.bl (!c)) H:=rfl
def nNotV(ta:TE):TE:=fun σ H Q=>ta σ H (kNotN Q)
theorem m_nNotV(ta:TE)(σ:St)(H:Hp)(Q:VK):nNotV ta σ H Q=ta σ H (kNotN Q):=rfl
theorem nNotV_eq(ta:TE):tNotV ta=nNotV ta:=by
 funext σ H Q
 show ta σ H (kNotV Q)=ta σ H (kNotN Q)
 congr 1
 funext x H
 refine propext ⟨fun ⟨k,e,q⟩=>by subst e;exact q,fun h=>?_⟩
 unfold kNotN at h
 split at h
 ·exact⟨_,rfl,h⟩
 ·exact h.elim
theorem spx1{α0:Type}{f:α0->List V}{B:α0->Prop}(inj:∀ a a',f a=f a'->a=a')(a:α0):(∃ a',f a=f a'∧B a')=B a:=propext ⟨fun ⟨a',e,q⟩=>by obtain rfl:=inj _ _ e;exact q,fun q=>⟨a,rfl,q⟩⟩
theorem spl1{α0:Type}{f:α0->List V}{B:α0->Prop}{vs:List V}{n:Nat}(h:∃ a,vs=f a∧B a)(l:∀ a,(f a).length=n):vs.length=n:=by
 obtain⟨_,rfl,_⟩:=h
 exact l _
theorem spx2{α0 α1:Type}{f:α0->α1->List V}{B:α0->α1->Prop}(inj:∀ a b a' b',f a b=f a' b'->a=a'∧b=b')(a:α0)(b:α1):(∃ a' b',f a b=f a' b'∧B a' b')=B a b:=propext ⟨fun ⟨a',b',e,q⟩=>by obtain⟨rfl,rfl⟩:=inj _ _ _ _ e;exact q,fun q=>⟨a,b,rfl,q⟩⟩
theorem spl2{α0 α1:Type}{f:α0->α1->List V}{B:α0->α1->Prop}{vs:List V}{n:Nat}(h:∃ a b,vs=f a b∧B a b)(l:∀ a b,(f a b).length=n):vs.length=n:=by
 obtain⟨_,_,rfl,_⟩:=h
 exact l _ _
theorem spx3{α0 α1 α2:Type}{f:α0->α1->α2->List V}{B:α0->α1->α2->Prop}(inj:∀ a b c a' b' c',f a b c=f a' b' c'->a=a'∧b=b'∧c=c')(a:α0)(b:α1)(c:α2):(∃ a' b' c',f a b c=f a' b' c'∧B a' b' c')=B a b c:=propext ⟨fun ⟨a',b',c',e,q⟩=>by obtain⟨rfl,rfl,rfl⟩:=inj _ _ _ _ _ _ e;exact q,fun q=>⟨a,b,c,rfl,q⟩⟩
theorem spl3{α0 α1 α2:Type}{f:α0->α1->α2->List V}{B:α0->α1->α2->Prop}{vs:List V}{n:Nat}(h:∃ a b c,vs=f a b c∧B a b c)(l:∀ a b c,(f a b c).length=n):vs.length=n:=by
 obtain⟨_,_,_,rfl,_⟩:=h
 exact l _ _ _
theorem spx5{α0 α1 α2 α3 α4:Type}{f:α0->α1->α2->α3->α4->List V}{B:α0->α1->α2->α3->α4->Prop}(inj:∀ a b c d i a' b' c' d' i',f a b c d i=f a' b' c' d' i'->a=a'∧b=b'∧c=c'∧d=d'∧i=i')(a:α0)(b:α1)(c:α2)(d:α3)(i:α4):(∃ a' b' c' d' i',f a b c d i=f a' b' c' d' i'∧B a' b' c' d' i')=B a b c d i:=propext ⟨fun ⟨a',b',c',d',i',e,q⟩=>by obtain⟨rfl,rfl,rfl,rfl,rfl⟩:=inj _ _ _ _ _ _ _ _ _ _ e;exact q,fun q=>⟨a,b,c,d,i,rfl,q⟩⟩
theorem spl5{α0 α1 α2 α3 α4:Type}{f:α0->α1->α2->α3->α4->List V}{B:α0->α1->α2->α3->α4->Prop}{vs:List V}{n:Nat}(h:∃ a b c d i,vs=f a b c d i∧B a b c d i)(l:∀ a b c d i,(f a b c d i).length=n):vs.length=n:=by
 obtain⟨_,_,_,_,_,rfl,_⟩:=h
 exact l _ _ _ _ _
theorem len0{P:List Value->Prop}(h:P []):∀ us:List Value,us.length=0->P us:=fun us e=>by
 cases us with
 | nil=>exact h
 | cons a r=>cases e
theorem len1{P:List Value->Prop}(h:∀ a,P [a]):∀ us:List Value,us.length=1->P us:=fun us e=>by
 cases us with
 | nil=>cases e
 | cons x r=>exact len0 (P:=fun r=>P (x::r)) (h x) r (Nat.succ.inj e)
theorem len2{P:List Value->Prop}(h:∀ a b,P [a,b]):∀ us:List Value,us.length=2->P us:=fun us e=>by
 cases us with
 | nil=>cases e
 | cons x r=>exact len1 (P:=fun r=>P (x::r)) (h x) r (Nat.succ.inj e)
theorem len3{P:List Value->Prop}(h:∀ a b c,P [a,b,c]):∀ us:List Value,us.length=3->P us:=fun us e=>by
 cases us with
 | nil=>cases e
 | cons x r=>exact len2 (P:=fun r=>P (x::r)) (h x) r (Nat.succ.inj e)
section
variable {X:Cx}
theorem pvN(i:Nat){x:Str}{pos:Pos}(hN:X.N[i]? = some x:=by rfl)(hv:Vis X.env.scope x:=by first|exact Or.inl rfl|exact Or.inr (Or.inl rfl)|exact Or.inr (Or.inr rfl))(hd:(x == ("__debug__":Str))=false:=by decide)
  (hcd:(x == ("__classdict__":Str))=false:=by decide):PE X (.Name x pos) (tV i):=by rw [←tV_eq];exact pv i hN hv hd hcd
theorem on_add:OpR X (binaryOp .Add) (nI0 fun i j=>.int (i+j)):=by rw [←nI0_eq];exact op_add
theorem on_sub:OpR X (binaryOp .Sub) (nI0 fun i j=>.int (i - j)):=by rw [←nI0_eq];exact op_sub
theorem on_le:OpR X (compareOp .LtE) (nI0 fun i j=>.bl (decide (i≤j))):=by rw [←nI0_eq];exact op_le
theorem on_gt:OpR X (compareOp .Gt) (nI0 fun i j=>.bl (decide (j < i))):=by rw [←nI0_eq];exact op_gt
theorem on_mul:OpR X (binaryOp .Mult) (nI CMul fun i j=>.int (i * j)):=by rw [←nI_eq];exact op_mul
theorem on_fdiv:OpR X (binaryOp .FloorDiv) (nI CDiv fun i j=>.int (i / j)):=by rw [←nI_eq];exact op_fdiv
theorem on_mod:OpR X (binaryOp .Mod) (nI (fun _ j=>0 < j) fun i j=>.int (i % j)):=by rw [←nI_eq];exact op_mod
theorem on_pow:OpR X (binaryOp .Pow) (nI CPow fun i j=>.int (i ^ j.toNat)):=by rw [←nI_eq];exact op_pow
theorem un_negN:UnR X (unaryOp .USub) (nU fun i=>.int (-i)):=by rw [←nU_eq];exact un_neg
variable {a b c d e:Expr}{ta tb tc td t:TE}{pos:Pos}
theorem pt_cmpRN{op:CmpOp}{r:R2}(ho:OpR X (compareOp op) r)(ha:PE X a ta)(hb:PE X b tb)(hm:behindInMarks op b=false):PT X (.Compare a [op] [b] pos) (nTest (tOp r ta tb)):=by rw [←nTest_eq];exact pt_cmpR ho ha hb hm
theorem pt_valN(h:PE X e t)(he:∀ whole,isTrue e X.env whole=(do let v ←whole;standAt e.pos;holding [v] (truthy v)):=by intro _;rfl):PT X e (nTest t):=by rw [←nTest_eqB];exact pt_val h he
variable {rest:List Expr}
theorem pe_andN(ha:PE X a ta)(hb:PE X (.BoolOp .And (b::rest) pos) tb):PE X (.BoolOp .And (a::b::rest) pos) (nAndV ta tb):=by rw [←nAndV_eq];exact pe_and ha hb
theorem pe_orN(ha:PE X a ta)(hb:PE X (.BoolOp .Or (b::rest) pos) tb):PE X (.BoolOp .Or (a::b::rest) pos) (nOrV ta tb):=by rw [←nOrV_eq];exact pe_or ha hb
theorem pe_notN(ha:PE X a ta):PE X (.UnaryOp .Not a pos) (nNotV ta):=by rw [←nNotV_eq];exact pe_not ha
end
theorem if_gen{c:TT}{t u:TS}{nx:St->Hp->Prop}{rt:VK}{bk ct:St->Hp->Prop}{σ:St}{H:Hp}(R:St->Hp->Prop)(h:∀ nx':St->Hp->Prop,(∀ σ' H',R σ' H'->nx' σ' H')->tIfS c t u ⟨nx',rt,bk,ct⟩ σ H)(k:∀ σ' H',R σ' H'->nx σ' H'):tIfS c t u ⟨nx,rt,bk,ct⟩ σ H:=h nx k
end L2
set_option Elab.async false
set_option linter.all false
set_option maxRecDepth 100000
set_option maxHeartbeats 4000000
namespace L2
open PySem PySem.Spec PyProof.Rows
def kRep(k:Int)(H:Hp)(Q:VK):List V->Prop:=fun xs=>0≤k∧k≤4096∧xs.length * k.toNat≤sizeLine∧newK (.lst (List.replicate k.toNat xs).flatten) H Q
theorem m_kRep(k:Int)(H:Hp)(Q:VK)(xs:List V):kRep k H Q xs=(0≤k∧k≤4096∧xs.length * k.toNat≤sizeLine∧newK (.lst (List.replicate k.toNat xs).flatten) H Q):=rfl
def nRep:R2:=fun x y H Q=>match x,y with
 | .ref l,.int k=>optK (lstAt H l) (kRep k H Q)
 | _,_=>False
theorem m_nRep(l:Addr)(k:Int)(H:Hp)(Q:VK):nRep (.ref l) (.int k) H Q=optK (lstAt H l) (kRep k H Q):=rfl
theorem op_nRep{X:Cx}:OpR X (binaryOp .Mult) nRep:=op_rep.mono fun x y H Q h=>by
 unfold nRep at h
 split at h
 ·rename_i l k
  obtain⟨xs,e,h0,h1,h2,q⟩:=optK_ex h
  exact⟨l,k,xs,rfl,rfl,lst_of e,by omega,by omega,h2,q.to⟩
 ·exact h.elim
end L2
set_option Elab.async false
set_option linter.all false
set_option maxRecDepth 100000
set_option maxHeartbeats 4000000
namespace L2
open PySem PySem.Spec PyProof.Rows
def kInI(neg:Bool)(x:V)(H:Hp)(Q:VK):List V->Prop:=fun xs=>flatV x=true∧xs.all flatV=true∧Q (.bl (if neg=true then !inV x xs else inV x xs)) H
theorem m_kInI(neg:Bool)(x:V)(H:Hp)(Q:VK)(xs:List V):kInI neg x H Q xs=(flatV x=true∧xs.all flatV=true∧Q (.bl (if neg=true then !inV x xs else inV x xs)) H):=rfl
def nIn(neg:Bool):R2:=fun x y H Q=>match y with
 | .ref p=>optK (itemsAt H p) (kInI neg x H Q)
 | _=>False
theorem m_nIn(neg:Bool)(x:V)(p:Addr)(H:Hp)(Q:VK):nIn neg x (.ref p) H Q=optK (itemsAt H p) (kInI neg x H Q):=rfl
theorem rIn_of{K:PySem.W.Frag}{neg:Bool}{x y:V}{H:Hp}{Q:VK}(h:nIn neg x y H Q):rIn K neg x y H Q:=by
 unfold nIn at h
 split at h
 ·rename_i p
  obtain⟨xs,e,h1,h2,q⟩:=optK_ex h
  exact⟨p,xs,rfl,items_seq e,h1,h2,q⟩
 ·exact h.elim
theorem op_nIn{X:Cx}:OpR X (compareOp .In) (nIn false):=op_in_seq.mono fun x y H Q h=>rIn_of h
def kNST(lo hi:Option Int)(H:Hp)(Q:VK):List V->Prop:=fun xs=>¬ (HT.sIx xs.length 0 lo=0∧HT.sIx xs.length xs.length hi=xs.length)∧newK (.tup (cutV xs lo hi)) H Q
def nSlT:V->Option Int->Option Int->Hp->VK->Prop:=fun x lo hi H Q=>match x with
 | .ref a=>optK (tupAt H a) (kNST lo hi H Q)
 | _=>False
theorem m_nSlT(a:Addr)(lo hi:Option Int)(H:Hp)(Q:VK):nSlT (.ref a) lo hi H Q=optK (tupAt H a) (kNST lo hi H Q):=rfl
theorem cut_some(xs:List V)(z:Int)(h:0≤z):cutV xs (some z) none=xs.drop z.toNat:=by
 unfold cutV
 obtain⟨n,rfl⟩:=Int.eq_ofNat_of_zero_le h
 rw [HT.sIx_none,HT.sIx_nat]
 show _=xs.drop n
 rcases Nat.le_total n xs.length with q|q
 ·rw [Nat.min_eq_left q]
  exact List.take_of_length_le (by rw [List.length_drop];omega)
 ·rw [Nat.min_eq_right q,List.drop_of_length_le (Nat.le_refl _),List.drop_of_length_le q,List.take_nil]
theorem sl_nT{X:Cx}:SlR X nSlT:=sl_tup.mono fun x lo hi H Q h=>by
 unfold nSlT at h
 split at h
 ·rename_i a
  obtain⟨xs,e,w,q⟩:=optK_ex h
  exact⟨a,xs,rfl,SqT.of (tup_of e),w,q.to⟩
 ·exact h.elim
section
variable {X:Cx}
end
end L2
set_option Elab.async false
set_option linter.all false
set_option maxRecDepth 100000
set_option maxHeartbeats 4000000
namespace L2
open PySem PySem.Spec PyProof.Rows
section
variable {prog:Program}{w:World}{A:Around}{E:Value->Shared->Prop}{s:Shared}
end
section
variable {X:Cx}
end
end L2
set_option Elab.async false
set_option linter.all false
set_option maxRecDepth 100000
set_option maxHeartbeats 4000000
namespace L2
open PySem PySem.Spec PyProof.Rows
end L2
set_option Elab.async false
set_option linter.all false
set_option maxRecDepth 100000
set_option maxHeartbeats 4000000
namespace L2
open PySem PySem.Spec PyProof.Rows
section
variable {k:Nat}{g:TG}{tt:TT}{te:TE}{σ:St}{Q:VK}{H:Hp}
end
end L2
set_option Elab.async false
set_option linter.all false
set_option maxRecDepth 100000
set_option maxHeartbeats 4000000
namespace L2
open PySem PySem.Spec PyProof.Rows
structure IsC(K:PySem.W.Frag)(C:Addr):Prop where
 cl:Cls K C
 fc:PySem.W.findIn K (.ref C) "__class__"=some (some (.builtin "object.__class__"))
 ocs:PySem.W.specialIn K (.builtin "object.__class__") "__get__"=some (some (.builtin "getset_descriptor.__get__"))
 oct:PySem.W.takesIn K (.builtin "object.__class__")=some true
 mo:PySem.W.mroIn K C (.type "object")=some true
end L2
set_option Elab.async false
set_option linter.all false
set_option maxRecDepth 100000
set_option maxHeartbeats 4000000
namespace L2
open PySem PySem.Spec PyProof.Rows
section
variable {X:Cx}
end
end L2
set_option Elab.async false
set_option linter.all false
set_option maxRecDepth 100000
set_option maxHeartbeats 4000000
namespace L2
open PySem PySem.Spec PyProof.Rows PySem.W
section
variable {prog:Program}{w:World}{A:Around}{E:Value->Shared->Prop}{K:Frag}{x C dx:Addr}{s:Shared}{name:Str}{v:Value}
end
section
variable {X:Cx}{e o value:Expr}{ta tv:TE}{f:Str}{pos pos':Pos}
end
end L2
set_option Elab.async false
set_option linter.all false
set_option maxRecDepth 100000
set_option maxHeartbeats 4000000
namespace L2
open PySem PySem.Spec PyProof.Rows
open Sem (wp)
open AutoSeq1 (wpAny_loadPart')
section
variable {X:Cx}
end
end L2
set_option Elab.async false
set_option linter.all false
set_option maxRecDepth 100000
set_option maxHeartbeats 4000000
namespace L2
open PySem PySem.Spec PyProof.Rows
end L2
set_option Elab.async false
set_option linter.all false
set_option maxRecDepth 100000
set_option maxHeartbeats 4000000
namespace L2
open PySem PySem.Spec PyProof.Rows
def NoCtx(o:Obj):Prop:=∃ vs,o.data=.fields vs∧vs[2]? = some .none
section
variable {prog:Program}{w:World}{A:Around}{E:Value->Shared->Prop}{s:Shared}
end
def Hand(X:Cx):Prop:=∃ (e:Addr) (oe:Obj) (u:HO),X.A.handled=some (.ref e)∧X.H₀ e=some (.frz oe u)∧NoCtx oe
structure TurnH(P:Program)(w:World)(K:PySem.W.Frag)(tg:Expr)(J:It)(fp:List Addr)(it:Addr)(tn:Nat->Heap->Prop):Prop where
 mem:it∈fp
 obj:∀ i h,tn i h->∀ b∈fp,∃ o,h.get? b=some o∧∀ v,o.data ≠ .cell v
 keep:∀ i h h',tn i h->(∀ b∈fp,∀ o,h.get? b=some o->h'.get? b=some o)->tn i h'
 item:∀ (X:Cx),X.prog=P->X.w=w->X.K=K->Hand X->∀ (i:Nat) (pins:List (Addr × Obj)) (s:Shared) (σ:St) (H:Hp) (E:Value->Shared->Prop),Inv X pins σ H s->(∀ b∈fp,FpOk X pins H b)->tn i s.heap->J.go i H →
  wpAny (model P w) X.A (pyNext (.ref it)) (fun r s1=>∃ u,r=some u ∧
   wpAny (model P w) X.A (letOwnedTupleGo tg (.ref it) u) (fun _ s2=>∃ x H',Inv X pins σ H' s2∧RelV x u∧J.yld i H x H'∧tn (i+1) s2.heap∧∀ b∈fp,H' b=none) E s1) E s
 done:∀ (X:Cx),X.prog=P->X.w=w->X.K=K->Hand X->∀ (i:Nat) (pins:List (Addr × Obj)) (s:Shared) (σ:St) (H:Hp) (E:Value->Shared->Prop),Inv X pins σ H s->(∀ b∈fp,FpOk X pins H b)->tn i s.heap->J.stop i H →
  wpAny (model P w) X.A (pyNext (.ref it)) (fun r s1=>r=none∧Inv X pins σ H s1) E s
section
variable {X:Cx}{tg:Expr}
end
structure RoomH(k:Nat)(e:Addr)(A:Around):Prop where
 hd:A.handled=some (.ref e)
 dp:A.depth+3 * k+5 < recursionLimit
 un:A.units+16 * k+200 < cLine
structure FnOkH(P:Program)(w:World)(K:PySem.W.Frag)(mg:Str->Option Value)(base:Heap)(CX:CXT)(k:Nat)(f:Addr)(fd:FuncData)(ps:List Str)(sp:Sp):Prop where
 len:∀ vs H Q E,sp vs H Q E->vs.length=ps.length
 run:∀ (A:Around) (outer:List Env) (s:Shared) (H:Hp) (args:Args) (us:List Value) (vs:List V) (Q:VK) (E:XK) (e:Addr) (oe:Obj) (u:HO),RoomH k e A->H e=some (.frz oe u)->NoCtx oe->Env0 P w K mg base A outer s H->BindsTo s fd args (ps.zip us)->Vals vs us->sp vs H Q E →
  codeAny (model P w) A (.call (.ref f) args) (CR CX outer P w H s Q E) s
section
variable {X:Cx}
end
end L2
set_option Elab.async false
set_option linter.all false
set_option maxRecDepth 100000
set_option maxHeartbeats 4000000
namespace L2
open PySem PySem.Spec PyProof.Rows
section
variable {prog:Program}{w:World}{A:Around}{E:Value->Shared->Prop}{s:Shared}
structure Apart3(z TI TO i j l:Addr)(f g e:List Addr):Prop where
 ti:TI ≠ z∧TI ≠ TO∧TI ≠ i∧TI ≠ j∧TI ≠ l
 zt:z ≠ TO
 zf:z ∉ f
 zg:z ∉ g
 ze:z ∉ e
 tf:TO ∉ f
 tg:TO ∉ g
 te:TO ∉ e
 ig:i ∉ g
 ie:i ∉ e
 jf:j ∉ f
 je:j ∉ e
 lf:l ∉ f
 lg:l ∉ g
variable {z TI TO i j l:Addr}{f g e:List Addr}{ti tj tl:Nat->Heap->Prop}{vi vj vl:Nat->Option Value}{k m n:Nat}{x y u a b c:Value}
end
section
variable {prog:Program}{w:World}{A:Around}{E:Value->Shared->Prop}{s:Shared}
end
section
variable {X:Cx}
end
end L2
set_option Elab.async false
set_option linter.all false
set_option maxRecDepth 100000
set_option maxHeartbeats 4000000
namespace L2
open PySem PySem.Spec PyProof.Rows
end L2
set_option Elab.async false
set_option linter.all false
set_option maxRecDepth 100000
set_option maxHeartbeats 4000000
namespace L2
open PySem PySem.Spec PyProof.Rows
section
variable {X:Cx}
def rIndex:V->List V->Hp->VK->Prop:=fun x vs H Q=>∃ l xs y d ds j,x=.ref l∧vs=[y]∧H l=some (.lst xs)∧datV H 6 y=some d∧allSome (xs.map (datV H 5))=some ds∧ds.findIdx? (fun z=>PyData.eqv z d)=some j∧Q (.int (j:Int)) H
theorem mt_index(hu:X.A.units+64 < cLine):MtM X "list.index" rIndex:=by
 intro pins s σ H x vs v us Q I rx rv h
 obtain⟨l,xs,y,d,ds,j,rfl,rfl,hH,e1,e2,hj,q⟩:=h
 cases rx
 obtain⟨u,rfl,ru⟩:=rv.one
 obtain⟨z,its,n,r,hl,e⟩:=I.lstM hH
 obtain⟨a,b,c⟩:=datV_ok (K:=X.K) 6 y d e1
 obtain⟨as,zy⟩:=a.reads I ru
 obtain⟨a',b',c'⟩:=datVs_ok (K:=X.K) (datV_ok 5) xs ds e2
 obtain⟨bs,zs⟩:=a'.reads I r
 have hm:=SeqAt.readsAll_map ds _ _ b' zs
 rw [List.findIdx?_eq_some_iff_getElem] at hj
 obtain⟨hjl,hje,hjn⟩:=hj
 have hln:ds.length=its.length:=by rw [←hm,List.length_map]
 have hs:its.length≤sizeLine:=by omega
 rw [sizeLine_eq] at hs
 refine call_meets F.slot_list_index ⟨_,e,rfl⟩ F.entry_list_index (F.args_list_index_2 _ _) (SeqAt.list_indexAt l its.toArray n none #[] u (fun y=>PyData.eqv (SeqAt.readOf s.heap y) d) j (by rw [List.size_toArray];omega) (by omega) ?_ ?_) ⟨e,?_,?_⟩
 ·show PyData.eqv (SeqAt.readOf s.heap its.toArray[j]) d=true
  rw [List.getElem_toArray,←hje]
  congr 1
  rw [←List.getElem_map (f:=SeqAt.readOf s.heap) (h:=by rw [List.length_map];omega)]
  exact List.getElem_of_eq hm _
 ·intro m hm' hlt
  have hml:m < ds.length:=by omega
  have h2:=hjn m hlt
  show PyData.eqv (SeqAt.readOf s.heap its.toArray[m]) d=false
  rw [List.getElem_toArray]
  have e3:SeqAt.readOf s.heap (its[m]'(by omega))=ds[m]:=by
   rw [←List.getElem_map (f:=SeqAt.readOf s.heap) (h:=by rw [List.length_map];omega)]
   exact List.getElem_of_eq hm _
  rw [e3]
  exact Bool.eq_false_iff.mpr h2
 ·exact SeqAt.items_eqAt (by simpa using zs) zy b' b (by have:=Nat.min_le_right (PyData.depthAll ds) d.depth;omega)
 ·exact⟨.int _,H,I.tok _,⟨_,rfl⟩,q⟩
end
end L2
set_option Elab.async false
set_option linter.all false
set_option maxRecDepth 100000
set_option maxHeartbeats 4000000
namespace L2
open PySem PySem.Spec PyProof.Rows
section
variable {prog:Program}{w:World}{A:Around}{R:Result->Shared->Prop}{J:Addr}{fp wr:List Addr}{G:Array GenState->Array GenState->Prop}{n:Nat}{P:Nat->Value->Prop}{St:Nat->Shared->Prop}
end
section
variable {prog:Program}{w:World}{A:Around}{R:Result->Shared->Prop}{J:Addr}{fp wr:List Addr}{G:Array GenState->Array GenState->Prop}{n:Nat}{P:Nat->Value->Prop}{St:Nat->Shared->Prop}
end
end L2
set_option Elab.async false
set_option linter.all false
set_option maxRecDepth 100000
set_option maxHeartbeats 4000000
namespace L2
open PySem PySem.Spec PyProof.Rows
end L2
set_option Elab.async false
set_option linter.all false
set_option maxRecDepth 100000
set_option maxHeartbeats 4000000
namespace L2
open PySem PySem.Spec PyProof.Rows
abbrev PKy:=List Int × List Int
section
variable {prog:Program}{w:World}
end
section
variable {P:Program}{w:World}{H:Hp}{h:Heap}{a:Addr}
end
section
variable {X:Cx}{pins:List (Addr × Obj)}{σ:St}{H:Hp}{s:Shared}{d b:Addr}{k:PKy}{Z:List PKy}{A:Around}{E:Value->Shared->Prop}
end
section
variable {X:Cx}
end
end L2
set_option Elab.async false
set_option linter.all false
set_option maxRecDepth 100000
set_option maxHeartbeats 4000000
namespace L2
open PySem PySem.Spec PyProof.Rows
end L2
set_option Elab.async false
set_option linter.all false
set_option maxRecDepth 100000
set_option maxHeartbeats 1000000
namespace L2
open PySem PySem.Spec PyProof.Rows
section
variable {X:Cx}{e st:Expr}{te tst:TE}{pos p2:Pos}
end
end L2
set_option Elab.async false
set_option linter.all false
set_option maxRecDepth 100000
set_option maxHeartbeats 4000000
namespace L2
open PySem PySem.Spec PyProof.Rows
section
variable {X:Cx}
end
end L2
set_option Elab.async false
set_option linter.all false
set_option maxRecDepth 100000
set_option maxHeartbeats 4000000
namespace L2
open PySem PySem.Spec PyProof.Rows
section
variable {X:Cx}{a b:Expr}{ta tb:TE}{pos:Pos}{rest:List Expr}
end
end L2
set_option Elab.async false
set_option linter.all false
set_option maxRecDepth 100000
set_option maxHeartbeats 4000000
namespace L2
open PySem PySem.Spec PyProof.Rows PySem.SeqAt
section
variable {X:Cx}
end
structure Mk0(K:PySem.W.Frag)(C:Addr):Prop where
 makes:PySem.W.makesIn K C=true
 init:PySem.W.findIn K (.ref C) "__init__"=some (some (.builtin "object.__init__"))
 kp:PySem.W.keepIn K (.ref C)=true
def nMk0(C:Addr):TE:=fun _ H Q=>∀ x dx H',H x=none->H dx=none->dx ≠ x->Ext H H'->H' x=some (.ins C dx [])->H' dx=some (.own x)->Q (.ref x) H'
theorem m_nMk0(C:Addr)(σ:St)(H:Hp)(Q:VK):nMk0 C σ H Q=∀ x dx H',H x=none->H dx=none->dx ≠ x->Ext H H'->H' x=some (.ins C dx [])->H' dx=some (.own x)->Q (.ref x) H':=rfl
theorem pe_nMk0{X:Cx}{C:Addr}{x:Str}{p pos:Pos}(M:Mk0 X.K C)(hg:Gl X x)(hm:X.mg x=some (.ref C))(hdb:(x == ("__debug__":Str))=false:=by decide):PE X (.Call (.Name x p) [] [] pos) (nMk0 C):=by
 intro pins s σ H Q I h
 refine wpAny_Call_Name_kw (ld_glob I hg hm ?_ hdb)
 refine PySem.W.callWith_K0 I.kIn M.kp ?_
 have hx:H (s.heap.objs.size+1)=none:=I.hok.fresh (Nat.le_succ _)
 have hd:H s.heap.objs.size=none:=I.hok.fresh (Nat.le_refl _)
 have ne:s.heap.objs.size ≠ s.heap.objs.size+1:=Nat.ne_of_lt (Nat.lt_succ_self _)
 have hq:=h (s.heap.objs.size+1) s.heap.objs.size (upd (upd H s.heap.objs.size (.own (s.heap.objs.size+1))) (s.heap.objs.size+1) (.ins C s.heap.objs.size [])) hx hd ne ((Ext.new hd).put hx) upd_same (by rw [upd_ne ne,upd_same])
 have I2:=Inv.made (C:=C) I
 refine wpAny_call (make_map0 I.kIn M.makes M.init (fun self=>PySem.W.Looks.of_pure (PySem.W.oi_bind self)) ?_)
 have Y:=PySem.W.makes_of (M:=model X.prog X.w) I.kIn M.makes
 have e2:((s.heap.push PySem.W.emptyDict).push (PySem.W.instObj C s.heap.objs.size)).get? (s.heap.objs.size+1)=some (PySem.W.instObj C s.heap.objs.size):=by
  have:=Heap.get?_push_size (s.heap.push PySem.W.emptyDict) (o:=PySem.W.instObj C s.heap.objs.size) rfl
  rwa [Heap.size_push] at this
 have t1:PySem.W.Looks (model X.prog X.w) ((s.heap.push PySem.W.emptyDict).push (PySem.W.instObj C s.heap.objs.size)) (typeOf (.ref (s.heap.objs.size+1))) (.ref C):=(PySem.W.Looks.ld e2).andThen .now
 have t2:PySem.W.Looks (model X.prog X.w) ((s.heap.push PySem.W.emptyDict).push (PySem.W.instObj C s.heap.objs.size)) (isInstance (.ref (s.heap.objs.size+1)) (.type "object")) true:=t1.andThen (Y.top.keeps fun b o e=>Heap.get?_push_of_some _ (Heap.get?_push_of_some _ e))
 refine codeAny_call_builtin PySem.W.oi_plain PySem.W.entry_oi (@PySem.W.check_slot (model X.prog X.w) _ _ _ "object.__init__" "object" "__init__" (.ref (s.heap.objs.size+1)) [] [] _ PySem.W.oi_kind PySem.W.oi_split t2 (PySem.W.oi_args (.ref (s.heap.objs.size+1))) ?_)
 rw [PySem.W.oi_run]
 exact wpAny_pure (And.intro rfl ⟨V.ref (s.heap.objs.size+1),_,I2,rfl,hq⟩)
end L2
set_option Elab.async false
set_option linter.all false
set_option maxRecDepth 100000
set_option maxHeartbeats 4000000
namespace L2
open PySem PySem.Spec PyProof.Rows
structure MD(P:Program)(w:World)(K:PySem.W.Frag)(mg:Str->Option Value)(base:Heap)(CX:CXT)(k:Nat)(m:Str)(C:Addr)(sp:Sp):Prop where
 c:Cls K C
 ex:∃ f fd ps,Meth K C m f∧FnOk P w K mg base CX k f fd ps sp∧Binds K fd ps []
def kMethD(n:Nat)(cl:Nat->Addr)(m:Str)(sp:Nat->Sp)(E:XK)(Q:VK):VK:=fun x H=>∃ a i dx fs,x=.ref a∧i < n∧H a=some (.ins (cl i) dx fs)∧fs.lookup m=none∧sp i [.ref a] H Q E
def nMethD(n:Nat)(cl:Nat->Addr)(m:Str)(sp:Nat->Sp)(E:XK)(ta:TE):TE:=fun σ H Q=>ta σ H (kMethD n cl m sp E Q)
theorem m_nMethD(n:Nat)(cl:Nat->Addr)(m:Str)(sp:Nat->Sp)(E:XK)(ta:TE)(σ:St)(H:Hp)(Q:VK):nMethD n cl m sp E ta σ H Q=ta σ H (kMethD n cl m sp E Q):=rfl
theorem pe_nMethD{X:Cx}{CX:CXT}{n k:Nat}{cl:Nat->Addr}{m:Str}{sp:Nat->Sp}{E:XK}{pos apos:Pos}{o:Expr}{ta:TE}{pl:Sem Bool}(he:PE X o ta)(hT:∀ i,i < n->MD X.prog X.w X.K X.mg X.base CX k m (cl i) (sp i))(hr:Room k X.A)(hx:Passes CX X E)
  (ht:eval (.Call (.Attribute o m apos) [] [] pos) X.env=(do
   let ov ←eval o X.env
   standAt apos.atName
   let (f,first) ←holding [ov] (getMethod ov m pl)
   callWith pos f first (backTo pos (starEach [] X.env)) (backToKw pos (keywordEach [] X.env))):=by rfl) :
  PE X (.Call (.Attribute o m apos) [] [] pos) (nMethD n cl m sp E ta):=by
 intro pins s σ H Q I h
 refine PySem.W.methodCall_KW (pl:=pl) (thn (he pins s σ H _ I h) fun u s1 ⟨x,H1,I1,rx,q0⟩=>?_) ht
 obtain⟨a,i,dx,fs,ex,hi,ea,l,q⟩:=q0
 obtain⟨c,f,fd,ps,hm,F,hb⟩:=hT i hi
 subst ex
 obtain rfl:u=Value.ref a:=rx
 refine getmeth_ok I1 ea c hm l ?_
 refine PySem.W.callWith_K0 (first:=[.ref a]) I1.kIn hm.kp ?_
 exact run_fn (us:=[.ref a]) (vs:=[.ref a]) F hr hb .nil hx I1 (.cons rfl .nil) q
section
variable {k:Nat}{g:TG}{tt:TT}{te:TE}{σ:St}{Q:VK}{H:Hp}
end
end L2
set_option Elab.async false
set_option linter.all false
set_option maxRecDepth 100000
set_option maxHeartbeats 4000000
namespace L2
open PySem PySem.Spec PyProof.Rows
section
variable {X:Cx}
end
end L2
set_option Elab.async false
set_option linter.all false
set_option maxRecDepth 100000
set_option maxHeartbeats 4000000
namespace L2
open PySem PySem.Spec PyProof.Rows
section
variable {X:Cx}{CX:CXT}{n k:Nat}{cl:Nat->Addr}{m:Str}{sp:Nat->Sp}{pos apos:Pos}{o e:Expr}{es:List Expr}{ta:TE}{t:TA}
end
def nIsK(K:PySem.W.Frag):List V->Hp->VK->Prop:=fun xs H Q=>∃ p C S dx fs b,xs=[.ref p,.ref S]∧H p=some (.ins C dx fs)∧IsC K C∧PySem.W.kitOne K (.ref C) (.ref S)=some b∧Q (.bl b) H
theorem use_isK{K:PySem.W.Frag}{p C S dx:Addr}{fs:List (Str × V)}{b:Bool}{H:Hp}{Q:VK}(h:H p=some (.ins C dx fs))(ic:IsC K C)(kb:PySem.W.kitOne K (.ref C) (.ref S)=some b)(q:Q (.bl b) H):nIsK K [.ref p,.ref S] H Q:=⟨p,C,S,dx,fs,b,rfl,h,ic,kb,q⟩
theorem call_nIsK{X:Cx}{K:PySem.W.Frag}(hK:X.K=K):CallR X (.builtin "isinstance") (nIsK K):=by
 subst hK
 intro pins s σ H xs us Q I r h
 obtain⟨p,C,S,dx,fs,b,rfl,hp,ic,kb,q⟩:=h
 obtain⟨u,w',rfl,rx,rc⟩:=vals2 r
 cases (show w'=Value.ref S from rc)
 exact isinst_ok I rx (TyOf.ins hp ic.cl ic.fc ic.ocs ic.oct ic.mo) kb (fun tk=>⟨.bl b,H,I.tok _,rfl,q⟩)
end L2
set_option Elab.async false
set_option linter.all false
set_option maxRecDepth 100000
set_option maxHeartbeats 4000000
namespace L2
open PySem PySem.Spec PyProof.Rows
section
variable {X:Cx}{CX:CXT}{k:Nat}{f C:Addr}{fd:FuncData}{ps:List Str}{sp:Sp}{dvs:List V}{ds:List Value}{E:St->XK}{x:Str}{p pos:Pos}{e:Expr}{es:List Expr}{t:TA}
end
end L2
set_option Elab.async false
set_option linter.all false
set_option maxRecDepth 100000
set_option maxHeartbeats 4000000
namespace L2
open PySem PySem.Spec PyProof.Rows
section
variable {X:Cx}
end
end L2
set_option Elab.async false
set_option linter.all false
set_option maxRecDepth 100000
set_option maxHeartbeats 4000000
namespace L2
open PySem PySem.Spec PyProof.Rows
section
variable {X:Cx}
end
end L2
set_option Elab.async false
set_option linter.all false
set_option maxRecDepth 100000
set_option maxHeartbeats 4000000
namespace L2
open PySem PySem.Spec PyProof.Rows
section
variable {X:Cx}
end
end L2
set_option Elab.async false
set_option linter.all false
set_option maxRecDepth 100000
set_option maxHeartbeats 4000000
namespace L2
open PySem PySem.Spec PyProof.Rows
section
variable {X:Cx}{tg:Expr}
end
section
variable {X:Cx}
end
end L2
set_option Elab.async false
set_option linter.all false
set_option maxRecDepth 100000
set_option maxHeartbeats 4000000
namespace L2
open PySem PySem.Spec PyProof.Rows
end L2
namespace HT
open PySem PySem.Spec PyProof.Rows
section
variable {prog:Program}{w:World}{A:Around}{E:Value->Shared->Prop}{s:Shared}
theorem getItem_tuple_whole{t sl:Addr}{items:Array Value}{vl vu:Value}{lo hi:Option Int}{Q:Value->Shared->Prop}(ht:IsTup s.heap t items)(hs:s.heap.IsSliceOf sl vl vu .none)(pl:IsPart vl lo)(pu:IsPart vu hi)
  (hw:sIx items.size 0 lo=0∧sIx items.size items.size hi=items.size) (h:Q (.ref t) s):wpAny (model prog w) A (getItem (.ref t) (.ref sl)) Q E s:=by
 obtain⟨os,hos,hcs,hds⟩:=id hs
 have hTs:s.TypeIs (.ref sl) "slice":=⟨os,hos,hcs⟩
 unfold getItem
 try with_reducible refine wpAny_holding ?_
 first|refine wpAny_bind (wpAny_pure ?_)|skip
 refine wpAny_bind (wpAny_sequenceKey ht.typeIs (by decide) ?_)
 refine wpAny_bind (wpAny_callSpecial?_slot (name:=Str.ofString "__getitem__") ht.typeIs PyProof.Rows.slot_tuple_getitem
  (wpAny_call_entry PyProof.Rows.slot_tuple_getitem ht.typeIs entry_tuple_getitem ?_ (args_tuple_getitem _ _)))
 show wpAny _ _ (Builtin.Tuple.tupleItemsOf (.ref t) >>= _) _ _ s
 refine wpAny_bind (tupleItemsOf_ ht ?_)
 refine wpAny_bind (wpAny_typeOf hTs ?_)
 rw [if_pos (by decide)]
 refine wpAny_bind (sliceApplied_gen hs pl pu ?_)
 have hyes:(((sIx items.size 0 lo:Nat):Int) == 0 && (1:Int) == 1 && (sIx items.size items.size hi - sIx items.size 0 lo) == items.size)=true:=by
  rw [hw.1,hw.2];simp
 show wpAny _ _ (if (((sIx items.size 0 lo:Nat):Int) == 0 && (1:Int) == 1 && (sIx items.size items.size hi - sIx items.size 0 lo) == items.size)=true then _ else _) _ _ s
 rw [if_pos hyes]
 refine wpAny_bind ?_
 show wpAny _ _ (Builtin.Tuple.tupleIsExact (.ref t)) _ _ s
 refine wpAny_bind (wpAny_typeOf ht.typeIs (wpAny_pure ?_))
 rw [if_pos (by decide)]
 refine wpAny_bind (wpAny_rule ?_)
 first
  | exact wpAny_pure ⟨_,rfl,wpAny_pure h⟩
  | exact wpAny_bind (wpAny_pure (wpAny_pure ⟨_,rfl,wpAny_pure h⟩))
  | exact wpAny_bind (wpAny_pure ⟨_,rfl,wpAny_pure h⟩)
end
end HT
namespace L2
open PySem PySem.Spec PyProof.Rows
def kNSU(a:Addr)(lo hi:Option Int)(H:Hp)(Q:VK):List V->Prop:=fun xs=>((HT.sIx xs.length 0 lo=0∧HT.sIx xs.length xs.length hi=xs.length)->Q (.ref a) H)∧(¬ (HT.sIx xs.length 0 lo=0∧HT.sIx xs.length xs.length hi=xs.length)->newK (.tup (cutV xs lo hi)) H Q)
def nSlU:V->Option Int->Option Int->Hp->VK->Prop:=fun x lo hi H Q=>match x with
 | .ref a=>optK (tupAt H a) (kNSU a lo hi H Q)
 | _=>False
theorem sl_nU{X:Cx}:SlR X nSlU:=by
 intro pins s σ H x v vl vu lo hi sl Q I rx hs pl pu h
 unfold nSlU at h
 split at h
 ·rename_i a
  obtain⟨xs,e,q1,q2⟩:=optK_ex h
  have hx:SqT X.K H a xs:=SqT.of (tup_of e)
  by_cases hw:HT.sIx xs.length 0 lo=0∧HT.sIx xs.length xs.length hi=xs.length
  ·cases rx
   obtain⟨its,r,ht,hz⟩:=I.tuple hx
   have hlen:its.toArray.size=xs.length:=by rw [List.size_toArray];exact r.length.symm
   refine⟨"tuple",_,PyProof.Rows.slot_tuple_getitem.lookup,ht.typeIs,?_⟩
   exact HT.getItem_tuple_whole ht hs pl pu (by rw [hlen];exact hw) ⟨.ref a,H,I,rfl,q1 hw⟩
  ·exact sl_tup pins s σ H (.ref a) v vl vu lo hi sl Q I rx hs pl pu ⟨a,xs,rfl,hx,hw,(q2 hw).to⟩
 ·exact h.elim
theorem use_tail{a:Addr}{xs:List V}{H:Hp}{Q:VK}(h:H a=some (.tup xs))(q:∀ (r:Addr) (H':Hp),Ext H H'->H' r=some (.tup xs.tail)->Q (.ref r) H'):nSlU (.ref a) (some 1) none H Q:=by
 show optK (tupAt H a) (kNSU a (some 1) none H Q)
 rw [tupAt,h]
 show kNSU a (some 1) none H Q xs
 refine⟨fun hw=>q a H (Ext.refl _) ?_,fun hw r H' hr e1 hh=>q r H' e1 ?_⟩
 ·have h1:=hw.1
  have:HT.sIx xs.length 0 (some ((1:Nat):Int))=0:=h1
  rw [HT.sIx_nat] at this
  cases xs with
  | nil=>exact h
  | cons x r=>simp at this
 ·have e:=cut_some xs 1 (by decide)
  rw [hh,e]
  cases xs<;>rfl
end L2
set_option Elab.async false
set_option linter.all false
set_option maxRecDepth 100000
set_option maxHeartbeats 4000000
namespace L2
open PySem PySem.Spec PyProof.Rows
section
variable {X:Cx}
end
end L2
set_option Elab.async false
set_option linter.all false
set_option maxRecDepth 100000
set_option maxHeartbeats 4000000
namespace L2
open PySem PySem.Spec PyProof.Rows
def kPopL(l:Addr)(H:Hp)(Q:VK):List V->Prop:=fun xs=>∃ y ys,xs=ys++[y]∧Q y (upd H l (.lst ys))
def nPop:V->List V->Hp->VK->Prop:=fun x vs H Q=>match x,vs with
 | .ref l,[]=>optK (lstAt H l) (kPopL l H Q)
 | _,_=>False
theorem x_nPop(l:Addr)(H:Hp)(Q:VK):nPop (.ref l) [] H Q=optK (lstAt H l) (kPopL l H Q):=rfl
theorem use_pop{l:Addr}{H:Hp}{Q:VK}{ys:List V}{y:V}(h:H l=some (.lst (ys++[y])))(q:Q y (upd H l (.lst ys))):nPop (.ref l) [] H Q:=by
 rw [x_nPop,lstAt,h]
 exact⟨y,ys,rfl,q⟩
theorem mt_nPop{X:Cx}:MtM X "list.pop" nPop:=fun pins s σ H x vs v us Q I rx rv h=>mt_pop pins s σ H x vs v us Q I rx rv (by
 unfold nPop at h
 split at h
 ·rename_i l
  obtain⟨xs,e,y,ys,rfl,q⟩:=optK_ex h
  exact⟨l,ys++[y],y,rfl,rfl,lst_of e,by simp,by rw [List.dropLast_concat];exact q⟩
 ·exact h.elim)
end L2
set_option Elab.async false
set_option linter.all false
set_option maxRecDepth 100000
set_option maxHeartbeats 4000000
namespace L2
open PySem PySem.Spec PyProof.Rows
section
variable {prog:Program}{w:World}{A:Around}{E:Value->Shared->Prop}{s:Shared}
end
end L2
set_option Elab.async false
set_option linter.all false
set_option maxRecDepth 100000
set_option maxHeartbeats 4000000
namespace L2
open PySem PySem.Spec PyProof.Rows
end L2
set_option Elab.async false
set_option linter.all false
set_option maxRecDepth 100000
set_option maxHeartbeats 4000000
namespace L2
open PySem PySem.Spec PyProof.Rows
section
variable {prog:Program}{w:World}{A:Around}{E:Value->Shared->Prop}{s:Shared}{a₀:Array Keyed}
end
section
variable {X:Cx}
end
end L2
set_option Elab.async false
set_option linter.all false
set_option maxRecDepth 100000
set_option maxHeartbeats 4000000
namespace L2
open PySem PySem.Spec PyProof.Rows
section
variable {X:Cx}{k:Nat}{f:Addr}{fd:FuncData}{ps:List Str}{sp:Sp}
end
end L2
set_option Elab.async false
set_option linter.all false
set_option maxRecDepth 100000
set_option maxHeartbeats 4000000
namespace L2
open PySem PySem.Spec PyProof.Rows
section
variable {n:Nat}(h0:0 < n)
include h0
end
section
variable {prog:Program}{w:World}{A:Around}{E:Value->Shared->Prop}{s:Shared}
end
end L2
set_option Elab.async false
set_option linter.all false
set_option maxRecDepth 100000
set_option maxHeartbeats 4000000
namespace L2
open PySem PySem.Spec PyProof.Rows
section
variable {g:TG}{tb:TS}{nx:St->Hp->Prop}{rt:VK}{bk ct:St->Hp->Prop}{σ:St}{H:Hp}
end
section
variable {prog:Program}{w:World}{A:Around}{E:Value->Shared->Prop}{s:Shared}
end
section
variable {g:TG}{tb:TS}{nx:St->Hp->Prop}{rt:VK}{bk ct:St->Hp->Prop}{σ:St}{H:Hp}
end
end L2
set_option Elab.async false
set_option linter.all false
set_option maxRecDepth 100000
set_option maxHeartbeats 4000000
namespace L2
open PySem PySem.Spec PyProof.Rows
end L2
set_option Elab.async false
set_option linter.all false
set_option maxRecDepth 100000
set_option maxHeartbeats 4000000
namespace L2
open PySem PySem.Spec PyProof.Rows
end L2
set_option Elab.async false
set_option linter.all false
set_option maxRecDepth 100000
set_option maxHeartbeats 4000000
namespace L2
open PySem PySem.Spec PyProof.Rows
section
variable {X:Cx}{pins:List (Addr × Obj)}{σ:St}{H:Hp}{s:Shared}
end
end L2
set_option Elab.async false
set_option linter.all false
set_option maxRecDepth 100000
set_option maxHeartbeats 4000000
namespace L2
open PySem PySem.Spec PyProof.Rows
end L2
set_option Elab.async false
set_option linter.all false
set_option maxRecDepth 100000
set_option maxHeartbeats 4000000
namespace L2
open PySem PySem.Spec PyProof.Rows
end L2
set_option Elab.async false
set_option linter.all false
set_option maxRecDepth 100000
set_option maxHeartbeats 1000000
namespace L2
open PySem PySem.Spec PyProof.Rows
section
variable {X:Cx}{e lo st:Expr}{te tlo tst:TE}{pos p2:Pos}
end
end L2
set_option Elab.async false
set_option linter.all false
set_option maxRecDepth 100000
set_option maxHeartbeats 4000000
namespace L2
open PySem PySem.Spec PyProof.Rows
section
variable {X:Cx}{pins:List (Addr × Obj)}{σ:St}{H:Hp}{s:Shared}
end
end L2
set_option Elab.async false
set_option linter.all false
set_option maxRecDepth 100000
set_option maxHeartbeats 4000000
namespace L2
open PySem
end L2
namespace PySem
open Sem (wp)
section
variable {prog:Program}{w:World}{A:Around}{E:Value->Shared->Prop}{s:Shared}
end
end PySem
namespace PyProof.Rows
open PySem PySem.Spec
section
variable {prog:Program}{w:World}{K:Type}[DecidableEq K]{knd:PySem.KeyKind prog w K}{A:Around}{R:Result->Shared->Prop}{I:Addr}{fp wr:List Addr}{G:Array GenState->Array GenState->Prop}{n:Nat}{P:Nat->Value->Prop}{St:Nat->Shared->Prop}
end
end PyProof.Rows
namespace PySem
open Sem (wp)
open PyProof.Rows
section
variable {prog:Program}{w:World}{K:Type}[DecidableEq K]{knd:KeyKind prog w K}{A:Around}{E:Value->Shared->Prop}{s:Shared}
end
end PySem
namespace L2
open PySem PySem.Spec PyProof.Rows
end L2
set_option Elab.async false
set_option linter.all false
set_option maxRecDepth 100000
set_option maxHeartbeats 4000000
namespace L2
open PySem PySem.Spec PyProof.Rows
def dicO(w:World)(l:List (Str × Tok × Value)):Obj:={ cls:=.type "dict",data:=.dict (l.map fun p=>({ hash:=PyData.keyHash w.params p.1,key:=.str p.1 p.2.1,val:=p.2.2 }:DictEntry)).toArray l.length }
def keyed(kvs:List (Str × V)):List (Key × V):=kvs.map fun p=>(Sum.inr p.1,p.2)
structure DicK(w:World)(K:PySem.W.Frag)(a:Addr)(kvs:List (Str × V)):Prop where
 ex:∃ l:List (Str × Tok × Value),K.lookup a=some (dicO w l)∧(a == sysModules)=false∧(l.map (·.1)).Nodup∧Paired (fun (p:Str × V) (q:Str × Tok × Value)=>p.1=q.1∧RelV p.2 q.2.2) kvs l
theorem dic_pairs{P:Program}{w:World}:∀ l:List (Str × Tok × Value),Pairs (mixKind P w) (l.map fun p=>({ hash:=PyData.keyHash w.params p.1,key:=.str p.1 p.2.1,val:=p.2.2 }:DictEntry)) (l.map fun q=>((Sum.inr q.1:Key),q.2.2))
 | []=>.nil
 | p::l=>.cons (mixKind_str P w p.1 p.2.1) rfl (dic_pairs l)
theorem dic_kv:∀ {kvs:List (Str × V)}{l:List (Str × Tok × Value)},Paired (fun (p:Str × V) (q:Str × Tok × Value)=>p.1=q.1∧RelV p.2 q.2.2) kvs l->KV (keyed kvs) (l.map fun q=>((Sum.inr q.1:Key),q.2.2))
 | [],_,h=>by cases h;exact .nil
 | p::kvs,_,h=>by
  cases h with
  | cons h t=>exact .cons ⟨congrArg Sum.inr h.1,h.2⟩ (dic_kv t)
theorem DicK.at{P:Program}{w:World}{K:PySem.W.Frag}{a:Addr}{kvs:List (Str × V)}{h:Heap}(d:DicK w K a kvs)(i:K.In h):(a == sysModules)=false∧∃ vs,KV (keyed kvs) vs∧h.DictOf (mixKind P w) a vs:=by
 obtain⟨l,h1,h2,h3,h4⟩:=d.ex
 refine⟨h2,_,dic_kv h4,_,_,_,i _ _ h1,⟨rfl,rfl,rfl⟩,rfl,fun e he=>?_,by simpa using dic_pairs l,?_⟩
 ·have he':e∈l.map fun p=>({ hash:=PyData.keyHash w.params p.1,key:=.str p.1 p.2.1,val:=p.2.2 }:DictEntry):=by simpa using he
  obtain⟨p,_,rfl⟩:=List.mem_map.mp he'
  exact⟨.inr p.1,mixKind_str P w p.1 p.2.1,rfl⟩
 ·rw [List.map_map]
  have:((fun kv:Key × Value=>kv.1) ∘ fun q:Str × Tok × Value=>((Sum.inr q.1:Key),q.2.2))=(Sum.inr:Str->Key) ∘ (fun q:Str × Tok × Value=>q.1):=rfl
  rw [this,←List.map_map]
  exact h3.map _ fun x y hxy e=>hxy (Sum.inr.inj e)
def rInK(w:World)(K:PySem.W.Frag):R2:=fun x y H Q=>∃ a kvs z,y=.ref a∧x=.str z∧DicK w K a kvs∧Q (.bl (valV (keyed kvs) (.inr z)).isSome) H
theorem use_inK{w:World}{K:PySem.W.Frag}{a:Addr}{kvs:List (Str × V)}{z:Str}{H:Hp}{Q:VK}(d:DicK w K a kvs)(q:Q (.bl (valV (keyed kvs) (.inr z)).isSome) H):rInK w K (.str z) (.ref a) H Q:=⟨a,kvs,z,rfl,rfl,d,q⟩
theorem op_inK{X:Cx}:OpR X (compareOp .In) (rInK X.w X.K):=by
 intro pins s σ H x y v u Q I rx ry h
 obtain⟨a,kvs,z,rfl,rfl,d,q⟩:=h
 obtain rfl:u=Value.ref a:=ry
 obtain⟨no,vs,rel,dd⟩:=d.at (P:=X.prog) I.kIn
 refine wpAny_in_of (kV_is (k:=.inr z) rx) no dd.mapOf ?_
 rw [←(rel.val (.inr z)).isSome_eq]
 exact⟨.bl _,H,I.tok _,rfl,q⟩
def kDK1(w:World)(K:PySem.W.Frag)(Q:VK)(x:V):VK:=fun y H=>∃ a kvs z v,x=.ref a∧y=.str z∧DicK w K a kvs∧valV (keyed kvs) (.inr z)=some v∧Q v H
def kDK0(w:World)(K:PySem.W.Frag)(ty:TE)(σ:St)(Q:VK):VK:=fun x H=>ty σ H (kDK1 w K Q x)
theorem m_kDK0(w:World)(K:PySem.W.Frag)(ty:TE)(σ:St)(Q:VK)(x:V)(H:Hp):kDK0 w K ty σ Q x H=ty σ H (kDK1 w K Q x):=rfl
def nDGetK(w:World)(K:PySem.W.Frag)(td ty:TE):TE:=fun σ H Q=>td σ H (kDK0 w K ty σ Q)
theorem m_nDGetK(w:World)(K:PySem.W.Frag)(td ty:TE)(σ:St)(H:Hp)(Q:VK):nDGetK w K td ty σ H Q=td σ H (kDK0 w K ty σ Q):=rfl
theorem use_dgK{w:World}{K:PySem.W.Frag}{a:Addr}{kvs:List (Str × V)}{z:Str}{v:V}{H:Hp}{Q:VK}(d:DicK w K a kvs)(h:valV (keyed kvs) (.inr z)=some v)(q:Q v H):kDK1 w K Q (.ref a) (.str z) H:=⟨a,kvs,z,v,rfl,rfl,d,h,q⟩
section
variable {X:Cx}{o i:Expr}{pos:Pos}{td ty:TE}
theorem pe_dgetK(ho:PE X o td)(hi:PE X i ty)(hs:NoSl i):PE X (.Subscript o i pos) (nDGetK X.w X.K td ty):=by
 intro pins s σ H Q I h
 refine subD_of PySem.F.slot_dict_getitem.lookup hs (thn (ho pins s σ H _ I h) fun u s1 ⟨x,H1,I1,rx,q1⟩=>thn (hi pins s1 σ H1 _ I1 q1) fun iv s2 ⟨y,H2,I2,ry,a,kvs,z,v,ex,ey,d,hv,q2⟩=>?_)
 subst ex
 subst ey
 obtain rfl:u=Value.ref a:=rx
 obtain⟨no,vs,rel,dd⟩:=d.at (P:=X.prog) I2.kIn
 obtain⟨w',hw,rw'⟩:=RelO.some_of (v:=v) (o:=valueAt vs (.inr z)) (by rw [←hv];exact rel.val (.inr z))
 exact⟨dd.typeIs,wpAny_getItem_of (kV_is (k:=.inr z) ry) dd.mapOf hw ⟨v,H2,I2.tok _,rw',q2⟩⟩
end
structure FD(P:Program)(w:World)(K:PySem.W.Frag)(mg:Str->Option Value)(base:Heap)(CX:CXT)(k:Nat)(f:Addr)(sp:Sp):Prop where
 kp:PySem.W.keepIn K (.ref f)=true
 ex:∃ fd ps,FnOk P w K mg base CX k f fd ps sp∧Binds K fd ps []
def kCV1(i:Nat)(sp:Nat->Sp)(E:XK)(Q:VK):List V->Hp->Prop:=fun vs H=>sp i vs H Q E
theorem m_kCV1(i:Nat)(sp:Nat->Sp)(E:XK)(Q:VK)(vs:List V)(H:Hp):kCV1 i sp E Q vs H=sp i vs H Q E:=rfl
def kCV0(n:Nat)(fs:Nat->Addr)(sp:Nat->Sp)(E:XK)(t:TA)(σ:St)(Q:VK):VK:=fun x H=>∃ i,i < n∧x=.ref (fs i)∧t σ H (kCV1 i sp E Q)
def nCallV(n:Nat)(fs:Nat->Addr)(sp:Nat->Sp)(E:XK)(tf:TE)(t:TA):TE:=fun σ H Q=>tf σ H (kCV0 n fs sp E t σ Q)
theorem m_nCallV(n:Nat)(fs:Nat->Addr)(sp:Nat->Sp)(E:XK)(tf:TE)(t:TA)(σ:St)(H:Hp)(Q:VK):nCallV n fs sp E tf t σ H Q=tf σ H (kCV0 n fs sp E t σ Q):=rfl
theorem use_callV{n:Nat}{fs:Nat->Addr}{sp:Nat->Sp}{E:XK}{t:TA}{σ:St}{Q:VK}{H:Hp}(i:Nat){x:V}(hi:i < n)(hx:x=.ref (fs i))(q:t σ H (kCV1 i sp E Q)):kCV0 n fs sp E t σ Q x H:=⟨i,hi,hx,q⟩
theorem pe_callV{X:Cx}{CX:CXT}{n k:Nat}{fs:Nat->Addr}{sp:Nat->Sp}{E:XK}{pos:Pos}{fe e:Expr}{es:List Expr}{tf:TE}{t:TA}(hf:PE X fe tf)(hT:∀ i,i < n->FD X.prog X.w X.K X.mg X.base CX k (fs i) (sp i))(hr:Room k X.A)(hx:Passes CX X E)(ha:PA X (e::es) t)
  (ht:eval (.Call fe (e::es) [] pos) X.env=(do callWith pos (←eval fe X.env) [] (backTo pos (starEach (e::es) X.env)) (backToKw pos (keywordEach [] X.env))):=by rfl)
  (he:starEach (e::es) X.env=(false,eval e X.env)::starEach es X.env:=by rfl) (hpl:(backTo pos (starEach es X.env)).any (·.1)=false:=by rfl) :
  PE X (.Call fe (e::es) [] pos) (nCallV n fs sp E tf t):=by
 intro pins s σ H Q I h
 rw [ht]
 refine wpAny_bind (thn (hf pins s σ H _ I h) fun u s0 ⟨x,H0,I0,rx,i,hi,ex,q0⟩=>?_)
 subst ex
 obtain rfl:u=Value.ref (fs i):=rx
 obtain⟨hk,fd,ps,F,hb⟩:=hT i hi
 refine PySem.W.callWith_K (h₀:=X.base) I0.ok.mod.kin hk (thn (ha pos pins s0 σ H0 _ I0 q0) fun us s1 ⟨vs,H1,I1,r,q⟩=>⟨I1.kIn,?_⟩) he hpl
 have q':sp i (vs++[]) H1 Q E:=by rw [List.append_nil];exact q
 exact run_fn F hr hb .nil hx I1 r q'
end L2
set_option Elab.async false
set_option linter.all false
set_option maxRecDepth 100000
set_option maxHeartbeats 4000000
namespace L2
open PySem PySem.Spec PyProof.Rows
section
variable {M:Model}{A:Around}{E:Value->Shared->Prop}{s:Shared}
end
section
variable {X:Cx}
end
end L2
set_option Elab.async false
set_option linter.all false
set_option maxRecDepth 100000
set_option maxHeartbeats 4000000
namespace L2
open PySem PySem.Spec PyProof.Rows
def qEqX(neg:Bool):R2:=fun x y H Q=>∃ n d e,n≤64∧datV H n x=some d∧datV H n y=some e∧Q (.bl (if neg=true then !PyData.eqv d e else PyData.eqv d e)) H
theorem use_eqX{neg:Bool}{x y:V}{H:Hp}{Q:VK}(n:Nat){d e:PyData}(hn:n≤64)(hx:datV H n x=some d)(hy:datV H n y=some e)(q:Q (.bl (if neg=true then !PyData.eqv d e else PyData.eqv d e)) H):qEqX neg x y H Q:=⟨n,d,e,hn,hx,hy,q⟩
section
variable {X:Cx}{pins:List (Addr × Obj)}{σ:St}{H:Hp}{s:Shared}
theorem op_qEqX(hu:X.A.units+64 < cLine):OpR X (compareOp .Eq) (qEqX false):=by
 refine(op_eqD hu).mono fun x y H Q h=>?_
 obtain⟨n,d,e,hn,e1,e2,h⟩:=h
 obtain⟨a,b⟩:=datV_shaped (K:=X.K) hn e1
 obtain⟨a',b'⟩:=datV_shaped (K:=X.K) hn e2
 exact⟨d,e,a,a',b,b',h⟩
theorem op_qNeX(hu:X.A.units+64 < cLine):OpR X (compareOp .NotEq) (qEqX true):=by
 refine(op_neD hu).mono fun x y H Q h=>?_
 obtain⟨n,d,e,hn,e1,e2,h⟩:=h
 obtain⟨a,b⟩:=datV_shaped (K:=X.K) hn e1
 obtain⟨a',b'⟩:=datV_shaped (K:=X.K) hn e2
 exact⟨d,e,a,a',b,b',h⟩
def qRepX:List V->Hp->VK->Prop:=fun vs H Q=>∃ p xs ds n,n≤30∧vs=[.ref p]∧H p=some (.tup xs)∧allSome (xs.map (datV H n))=some ds∧PyData.showableAll ds=true∧(tupleText (PyData.shownAll ds)).length≤sizeLine∧Q (.str (tupleText (PyData.shownAll ds))) H
theorem use_repX{p:Addr}{xs:List V}{ds:List PyData}{H:Hp}{Q:VK}(n:Nat)(hn:n≤30)(e:H p=some (.tup xs))(h1:allSome (xs.map (datV H n))=some ds)(h2:PyData.showableAll ds=true)(h3:(tupleText (PyData.shownAll ds)).length≤sizeLine)(q:Q (.str (tupleText (PyData.shownAll ds))) H):qRepX [.ref p] H Q:=⟨p,xs,ds,n,hn,rfl,e,h1,h2,h3,q⟩
theorem rep_itemX{n:Nat}(hn:n≤30)(I:Inv X pins σ H s){x:V}{u:Value}{d:PyData}(e:datV H n x=some d)(r:RelV x u):∃ as,Reads s.heap u d as∧(d.hasDict=true->sysModules ∉ as)∧d.depth≤30:=by
 obtain⟨a,b,dp⟩:=datV_ok (K:=X.K) n x d e
 obtain⟨as,z⟩:=DatV.reads I a r
 exact⟨as,z,PyData.noDict_hsm (PyData.hasDict_of_canLay d b),by omega⟩
theorem rep_allX(n:Nat)(hn:n≤30)(I:Inv X pins σ H s):∀ {xs:List V}{us:List Value}{ds:List PyData},allSome (xs.map (datV H n))=some ds->Vals xs us->PyData.showableAll ds=true->(∀ t∈PyData.shownAll ds,t.length≤sizeLine) →
  ∃ as bs,ReadsAll s.heap us ds as∧ReadAtMost s.heap (PyData.depthAll ds) bs∧ReprAllK X.prog X.w bs s.heap (PyData.depthAll ds) us (PyData.shownAll ds)∧PyData.depthAll ds≤30
 | [],us,ds,h1,h2,_,_=>by
  cases h1
  cases h2
  exact⟨[],[],.nil,(fun _ h=>nomatch h),by simp only [PyData.shownAll];exact .nil,by simp only [PyData.depthAll];omega⟩
 | x::xs,us,ds,h1,h2,hs,hz=>by
  cases h2 with
  | cons hr ht=>
   rename_i u us'
   have h1':(datV H n x).bind (fun d=>(allSome (xs.map (datV H n))).map fun ds=>d::ds)=some ds:=h1
   cases e:datV H n x with
   | none=>rw [e] at h1';cases h1'
   | some d=>
    rw [e] at h1'
    cases e2:allSome (xs.map (datV H n)) with
    | none=>rw [e2] at h1';cases h1'
    | some ds'=>
     rw [e2] at h1'
     cases h1'
     have hs':d.showable=true∧PyData.showableAll ds'=true:=by simpa [PyData.showableAll] using hs
     obtain⟨a1,r1,n1,p1⟩:=rep_itemX hn I e hr
     obtain⟨b1,hb1,k1⟩:=ReprK.of_reads (prog:=X.prog) (w:=X.w) r1 hs'.1 n1 (hz _ (by simp only [PyData.shownAll];exact List.mem_cons_self ..))
     obtain⟨a2,b2,r2,hb2,k2,p2⟩:=rep_allX n hn I e2 ht hs'.2 (fun t ht=>hz t (by simp only [PyData.shownAll];exact List.mem_cons_of_mem _ ht))
     refine⟨a1++a2,b1++b2,.cons r1 r2,?_,?_,by simp only [PyData.depthAll];omega⟩
     ·refine(hb1.mono ?_).append (hb2.mono ?_)<;>(simp only [PyData.depthAll];omega)
     ·simp only [PyData.shownAll]
      exact .cons ((k1.more fun b hb=>List.mem_append_left _ hb).level_le (by simp only [PyData.depthAll];omega)) (k2.more_le (fun b hb=>List.mem_append_right _ hb) (by simp only [PyData.depthAll];omega))
theorem call_qRepX(hg:X.A.guards=some [])(hu:X.A.units+64 < cLine):CallR X (.builtin "repr") qRepX:=by
 intro pins s σ H vs us Q I r h
 obtain⟨p,xs,ds,n,hn,rfl,e,h1,h2,h3,q⟩:=h
 obtain⟨u,rfl,rx⟩:=vals1 r
 cases rx
 obtain⟨its,hv,⟨o,e1,c1,n',d1⟩,_⟩:=I.tuple (SqT.of e)
 obtain⟨as,bs,rd,hb,hk,dp⟩:=rep_allX n hn I h1 hv h2 fun t ht=>Nat.le_trans (tupleText_mem_le ht) h3
 have rt:Reads s.heap (.ref p) (.tuple ds) as:=.tuple e1 c1 d1 (by simpa using rd)
 have hna:p ∉ bs:=not_mem_of_deeper rt (by simp only [PyData.depth];omega) hb
 refine call_repr_slot (by omega) ⟨o,e1,c1⟩ F.slot_tuple_repr (call_tuple_reprK e1 c1 d1 hna (by simpa using hk) (g:=[]) (by simpa using hg) (fun b _=>Clear.nil b) (by show X.A.units+1+(PyData.depthAll ds+1) < cLine;omega) (fun b o e=>e) (fun h' u tk k=>⟨_,_,rfl,.str _,H,I.kept k,⟨u,rfl⟩,q⟩) h3)
end
end L2
set_option Elab.async false
set_option linter.all false
set_option maxRecDepth 100000
set_option maxHeartbeats 4000000
namespace L2
open PySem PySem.Spec PyProof.Rows
def gK22{α:Type}(f:α->α->α->α->List α)(us ws:List α):List α:=match us,ws with
 | [a,b],[c,d]=>f a b c d
 | _,_=>[]
theorem m_gK22{α:Type}(f:α->α->α->α->List α)(a b c d:α):gK22 f [a,b] [c,d]=f a b c d:=rfl
theorem kb22{K:PySem.W.Frag}{fd:FuncData}{ps ks:List Str}(f:Value->Value->Value->Value->List Value)(fV:V->V->V->V->List V)(hn:ps.length ≠ 0)
  (to:∀ (s:Shared) (a b c d:Value),K.In s.heap->BindsTo s fd ⟨[a,b],ks.zip [c,d]⟩ (ps.zip (f a b c d))) (rel:∀ x a y b z c u d,RelV x a->RelV y b->RelV z c->RelV u d->Vals (fV x y z u) (f a b c d)):KBinds K fd ps ks (gK22 f) (gK22 fV) where
 to:=by
  intro s us ws hin hl
  unfold gK22 at hl ⊢
  split at hl
  ·exact to s _ _ _ _ hin
  ·exact absurd hl.symm hn
 rel:=by
  intro vs us zs ws r rz
  cases r with
  | nil=>exact .nil
  | cons r1 r2=>cases r2 with
   | nil=>exact .nil
   | cons r3 r4=>cases r4 with
    | cons _ _=>cases rz<;>exact .nil
    | nil=>cases rz with
     | nil=>exact .nil
     | cons z1 z2=>cases z2 with
      | nil=>exact .nil
      | cons z3 z4=>cases z4 with
       | nil=>exact rel _ _ _ _ _ _ _ _ r1 r3 z1 z3
       | cons _ _=>exact .nil
def kMakeK2(C:Addr)(sp:Sp)(gV:List V->List V->List V)(E:XK)(Q:VK)(vs:List V):List V->Hp->Prop:=fun zs H=>∀ (x dx:Addr) (H':Hp),H x=none->H dx=none->dx ≠ x->Ext H H'->H' x=some (.ins C dx [])->H' dx=some (.own x)->sp (gV (.ref x::vs) zs) H' (kMade x Q) E
theorem m_kMakeK2(C:Addr)(sp:Sp)(gV:List V->List V->List V)(E:XK)(Q:VK)(a b c:V)(H:Hp):kMakeK2 C sp gV E Q [a] [b,c] H=∀ (x dx:Addr) (H':Hp),H x=none->H dx=none->dx ≠ x->Ext H H'->H' x=some (.ins C dx [])->H' dx=some (.own x)->sp (gV [.ref x,a] [b,c]) H' (kMade x Q) E:=rfl
def kMakeK1(C:Addr)(sp:Sp)(gV:List V->List V->List V)(E:XK)(tk:TA)(σ:St)(Q:VK):List V->Hp->Prop:=fun vs H=>tk σ H (kMakeK2 C sp gV E Q vs)
theorem m_kMakeK1(C:Addr)(sp:Sp)(gV:List V->List V->List V)(E:XK)(tk:TA)(σ:St)(Q:VK)(vs:List V)(H:Hp):kMakeK1 C sp gV E tk σ Q vs H=tk σ H (kMakeK2 C sp gV E Q vs):=rfl
def nMakeK(C:Addr)(sp:Sp)(gV:List V->List V->List V)(E:XK)(t tk:TA):TE:=fun σ H Q=>t σ H (kMakeK1 C sp gV E tk σ Q)
theorem m_nMakeK(C:Addr)(sp:Sp)(gV:List V->List V->List V)(E:XK)(t tk:TA)(σ:St)(H:Hp)(Q:VK):nMakeK C sp gV E t tk σ H Q=t σ H (kMakeK1 C sp gV E tk σ Q):=rfl
section
variable {X:Cx}{CX:CXT}{k:Nat}{f C:Addr}{fd:FuncData}{ps ks:List Str}{sp:Sp}{E:XK}{x:Str}{p pos:Pos}{e:Expr}{es:List Expr}{kws:List Keyword}{t tk:TA}{g:List Value->List Value->List Value}{gV:List V->List V->List V}
theorem run_makeK{pins:List (Addr × Obj)}{σ:St}{H:Hp}{s:Shared}{Q:VK}{us ws:List Value}{vs zs:List V}(M:Mk X.K C f)(F:FnOk X.prog X.w X.K X.mg X.base CX k f fd ps sp)(hr:Room (k+1) X.A)(hb:KBinds X.K fd ps ks g gV)
  (hx:Passes CX X E) (I:Inv X pins σ H s) (r:Vals vs us) (rz:Vals zs ws)
  (h:∀ x dx,H x=none->H dx=none->dx ≠ x->sp (gV (.ref x::vs) zs) (upd (upd H dx (.own x)) x (.ins C dx [])) (fun v H2=>v=.non∧Q (.ref x) H2) E) :
  wpAny (model X.prog X.w) X.A (call (.ref C) us (ks.zip ws)) (EP X pins σ Q) X.xe s:=by
 have hq:=h (s.heap.objs.size+1) s.heap.objs.size (I.hok.fresh (Nat.le_succ _)) (I.hok.fresh (Nat.le_refl _)) (Nat.ne_of_lt (Nat.lt_succ_self _))
 have I2:=Inv.made (C:=C) I
 have r1:Vals (V.ref (s.heap.objs.size+1)::vs) (Value.ref (s.heap.objs.size+1)::us):=.cons rfl r
 have r2:=hb.rel r1 rz
 have hl:(g (Value.ref (s.heap.objs.size+1)::us) ws).length=ps.length:=by
  have e:=r2.length
  rw [F.len _ _ _ _ hq] at e
  exact e.symm
 refine wpAny_call (make_map (f:=f) I.kIn M.makes M.init (beq_iff_eq.mp M.fn) (codeAny_mono (F.run _ X.stack _ _ ⟨Value.ref (s.heap.objs.size+1)::us,ks.zip ws⟩ (g (Value.ref (s.heap.objs.size+1)::us) ws) _ _ E (hr.make C us (ks.zip ws))
  (I2.env0.make C us (ks.zip ws)) (hb.to _ (Value.ref (s.heap.objs.size+1)::us) ws I2.kIn hl) r2 hq) fun r s' hq'=>?_))
 cases r with
 | error e=>exact hx pins σ _ _ e s' I2 hq'
 | ok fl=>
  cases fl with
  | ret u=>
   obtain⟨v,H',I3,rv,ev,q3⟩:=I2.after hq'
   subst ev
   exact⟨rv,⟨V.ref (s.heap.objs.size+1),H',I3,rfl,q3⟩⟩
  | next=>exact False.elim hq'
  | brk=>exact False.elim hq'
  | cont=>exact False.elim hq'
theorem pe_nMakeK(M:Mk X.K C f)(F:FnOk X.prog X.w X.K X.mg X.base CX k f fd ps sp)(hr:Room (k+1) X.A)(hg:Gl X x)(hm:X.mg x=some (.ref C))(hb:KBinds X.K fd ps ks g gV)(hx:Passes CX X E)
  (ha:PA X (e::es) t) (hkw:PK X kws tk) (hall:(backToKw pos (keywordEach kws X.env)).all (·.1.isSome)=true:=by rfl) (hks:(backToKw pos (keywordEach kws X.env)).filterMap (·.1)=ks:=by rfl)
  (hdb:(x == ("__debug__":Str))=false:=by decide) (he:starEach (e::es) X.env=(false,eval e X.env)::starEach es X.env:=by rfl)
  (hpl:((backTo pos (starEach (e::es) X.env)).any (·.1) || (backToKw pos (keywordEach kws X.env)).any (·.1.isNone))=false:=by rfl) :
  PE X (.Call (.Name x p) (e::es) kws pos) (nMakeK C sp gV E t tk):=by
 intro pins s σ H Q I h
 refine wpAny_Call_Name_kw (ld_glob I hg hm ?_ hdb)
 refine PySem.W.callWith_KW (h₀:=X.base) I.ok.mod.kin M.kp hall (thn (ha pos pins s σ H _ I h) fun us s1 ⟨vs,H1,I1,r,q⟩=>?_) hpl he
 refine thn (hkw pos pins s1 σ H1 _ I1 q) fun ws s2 ⟨zs,H2,I2,rz,q2⟩=>⟨I2.kIn,?_⟩
 rw [hks]
 exact run_makeK M F hr hb hx I2 r rz fun x dx h1 h2 h3=>q2 x dx _ h1 h2 h3 ((Ext.new h2).put h1) upd_same (by rw [upd_ne h3,upd_same])
end
end L2
set_option Elab.async false
set_option linter.all false
set_option maxRecDepth 100000
set_option maxHeartbeats 4000000
namespace L2
open PySem PySem.Spec PyProof.Rows
def kDI2(Q:VK)(x y:V):VK:=fun v H=>∃ p k,x=.ref p∧y=kV k∧H p=some (.dK [])∧Q (.ref p) (upd H p (.dK [(k,v)]))
def kDI1(tv:TE)(σ:St)(Q:VK)(x:V):VK:=fun y H=>tv σ H (kDI2 Q x y)
theorem m_kDI1(tv:TE)(σ:St)(Q:VK)(x y:V)(H:Hp):kDI1 tv σ Q x y H=tv σ H (kDI2 Q x y):=rfl
def kDI0(tk tv:TE)(σ:St)(Q:VK):VK:=fun x H=>tk σ H (kDI1 tv σ Q x)
theorem m_kDI0(tk tv:TE)(σ:St)(Q:VK)(x:V)(H:Hp):kDI0 tk tv σ Q x H=tk σ H (kDI1 tv σ Q x):=rfl
def nDispI(tk tv:TE):TE:=fun σ H Q=>newK (.dK []) H (kDI0 tk tv σ Q)
theorem m_nDispI(tk tv:TE)(σ:St)(H:Hp)(Q:VK):nDispI tk tv σ H Q=newK (.dK []) H (kDI0 tk tv σ Q):=rfl
theorem use_dispI{Q:VK}{p:Addr}{k:Key}{v:V}{H:Hp}(e:H p=some (.dK []))(q:Q (.ref p) (upd H p (.dK [(k,v)]))):kDI2 Q (.ref p) (kV k) v H:=⟨p,k,rfl,rfl,e,q⟩
theorem pe_nDispI{X:Cx}{pos:Pos}{k v:Expr}{tk tv:TE}(hu:X.A.units+1 < cLine)(hk:PE X k tk)(hv:PE X v tv):PE X (.Dict [some k] [v] pos) (nDispI tk tv):=by
 intro pins s σ H Q I q
 have hn:=I.hok.fresh (Nat.le_refl s.heap.objs.size)
 have I1:=I.laid (a:=s.heap.objs.size) (o:=.dK []) (h':=s.heap.push { cls:=.type "dict",data:=.dict #[] }) (t':=s.toks) (fun _ _ q=>Heap.get?_push_of_some _ q) (Nat.le_refl _) (dk_empty s.heap I.big)
 have q1:=q _ _ hn (Ext.new hn) upd_same
 refine wpAny_Dict_any rfl rfl (by simp) (show 1≤15 by decide) (pairTrees_cons_walk (thn (hk pins _ σ _ _ I1 q1) fun u s1 ⟨y,H1,I2,ry,q2⟩=>thn (hv pins s1 σ H1 _ I2 q2) fun w2 s2 ⟨z,H2,I3,rz,p,kk,e1,e2,e,q3⟩=>pairTrees_nil_walk ?_))
 cases e1
 subst e2
 obtain⟨_,hd,xs,rel,dd⟩:=dk_of I3.hok e
 cases rel
 unfold storeAll
 rw [List.forIn_cons]
 refine wpAny_bind (wpAny_bind (wpAny_dictSet_pairs (hsz:=Nat.zero_le _) (kV_is ry) dd fun h' dd' hs=>wpAny_pure ?_))
 show wpAny _ _ (forIn [] PUnit.unit _) _ _ _
 rw [List.forIn_nil]
 refine wpAny_pure ⟨.ref s.heap.objs.size,_,?_,rfl,q3⟩
 have he:∃ q,h'.get? s.heap.objs.size=some q:=let ⟨q,_,_,hq,_⟩:=dd';⟨q,hq⟩
 exact d_write I3 (by rw [e];exact True.intro) hs he (dk_new (show 1≤sizeLine by rw [sizeLine_eq];omega) hd ((show KV [] [] from .nil).put kk rz) dd')
end L2
set_option Elab.async false
set_option linter.all false
set_option maxRecDepth 100000
set_option maxHeartbeats 4000000
namespace PH
open PySem L2
def top(i:Nat):Stmt:=PySem.Challenge.pw_pacehall_k36_moves_told.main.body.getD i (.Pass ⟨0,0,0,0⟩)
abbrev s_is_whole:Stmt:=top 7
theorem c_is_whole:FnScope ["thing"] ["thing"] (defScope s_is_whole):=⟨rfl,rfl,rfl,by decide +kernel,rfl,by decide +kernel,by decide +kernel⟩
abbrev s_Move_told:Stmt:=inClass (top 9) 5
theorem c_Move_told:FnScope ["self"] ["self"] (defScope s_Move_told):=⟨rfl,rfl,rfl,by decide +kernel,rfl,by decide +kernel,by decide +kernel⟩
abbrev s_Slice___init__:Stmt:=inClass (top 10) 0
theorem c_Slice___init__:FnScope ["self", "axis", "start", "stop", "step"] ["self", "axis", "start", "stop", "step"] (defScope s_Slice___init__):=⟨rfl,rfl,rfl,by decide +kernel,rfl,by decide +kernel,by decide +kernel⟩
abbrev s_Slice_told:Stmt:=inClass (top 10) 4
theorem c_Slice_told:FnScope ["self"] ["self"] (defScope s_Slice_told):=⟨rfl,rfl,rfl,by decide +kernel,rfl,by decide +kernel,by decide +kernel⟩
abbrev s_Pick___init__:Stmt:=inClass (top 11) 0
theorem c_Pick___init__:FnScope ["self", "axis", "at"] ["self", "axis", "at"] (defScope s_Pick___init__):=⟨rfl,rfl,rfl,by decide +kernel,rfl,by decide +kernel,by decide +kernel⟩
abbrev s_Pick_told:Stmt:=inClass (top 11) 4
theorem c_Pick_told:FnScope ["self"] ["self"] (defScope s_Pick_told):=⟨rfl,rfl,rfl,by decide +kernel,rfl,by decide +kernel,by decide +kernel⟩
abbrev s_Turn___init__:Stmt:=inClass (top 12) 0
theorem c_Turn___init__:FnScope ["self", "order"] ["self", "order"] (defScope s_Turn___init__):=⟨rfl,rfl,rfl,by decide +kernel,rfl,by decide +kernel,by decide +kernel⟩
abbrev s_Turn_told:Stmt:=inClass (top 12) 3
theorem c_Turn_told:FnScope ["self"] ["self"] (defScope s_Turn_told):=⟨rfl,rfl,rfl,by decide +kernel,rfl,by decide +kernel,by decide +kernel⟩
abbrev s_Fresh___init__:Stmt:=inClass (top 13) 0
theorem c_Fresh___init__:FnScope ["self", "axis"] ["self", "axis"] (defScope s_Fresh___init__):=⟨rfl,rfl,rfl,by decide +kernel,rfl,by decide +kernel,by decide +kernel⟩
abbrev s_Fresh_told:Stmt:=inClass (top 13) 3
theorem c_Fresh_told:FnScope ["self"] ["self"] (defScope s_Fresh_told):=⟨rfl,rfl,rfl,by decide +kernel,rfl,by decide +kernel,by decide +kernel⟩
abbrev s_Spread___init__:Stmt:=inClass (top 14) 0
theorem c_Spread___init__:FnScope ["self", "axis", "size"] ["self", "axis", "size"] (defScope s_Spread___init__):=⟨rfl,rfl,rfl,by decide +kernel,rfl,by decide +kernel,by decide +kernel⟩
abbrev s_Spread_told:Stmt:=inClass (top 14) 3
theorem c_Spread_told:FnScope ["self"] ["self"] (defScope s_Spread_told):=⟨rfl,rfl,rfl,by decide +kernel,rfl,by decide +kernel,by decide +kernel⟩
abbrev s_Cut___init__:Stmt:=inClass (top 16) 0
theorem c_Cut___init__:FnScope ["self", "axis", "inner"] ["self", "axis", "inner"] (defScope s_Cut___init__):=⟨rfl,rfl,rfl,by decide +kernel,rfl,by decide +kernel,by decide +kernel⟩
abbrev s_Cut_told:Stmt:=inClass (top 16) 3
theorem c_Cut_told:FnScope ["self"] ["self"] (defScope s_Cut_told):=⟨rfl,rfl,rfl,by decide +kernel,rfl,by decide +kernel,by decide +kernel⟩
abbrev s_Window___init__:Stmt:=inClass (top 17) 0
theorem c_Window___init__:FnScope ["self", "axis", "size"] ["self", "axis", "size"] (defScope s_Window___init__):=⟨rfl,rfl,rfl,by decide +kernel,rfl,by decide +kernel,by decide +kernel⟩
abbrev s_Window_told:Stmt:=inClass (top 17) 3
theorem c_Window_told:FnScope ["self"] ["self"] (defScope s_Window_told):=⟨rfl,rfl,rfl,by decide +kernel,rfl,by decide +kernel,by decide +kernel⟩
abbrev s_Diagonal___init__:Stmt:=inClass (top 18) 0
theorem c_Diagonal___init__:FnScope ["self", "one", "other"] ["self", "one", "other"] (defScope s_Diagonal___init__):=⟨rfl,rfl,rfl,by decide +kernel,rfl,by decide +kernel,by decide +kernel⟩
abbrev s_Diagonal_told:Stmt:=inClass (top 18) 3
theorem c_Diagonal_told:FnScope ["self"] ["self"] (defScope s_Diagonal_told):=⟨rfl,rfl,rfl,by decide +kernel,rfl,by decide +kernel,by decide +kernel⟩
abbrev s_Chain___init__:Stmt:=inClass (top 22) 0
theorem c_Chain___init__:FnScope ["self", "moves"] ["self", "moves"] (defScope s_Chain___init__):=⟨rfl,rfl,rfl,by decide +kernel,rfl,by decide +kernel,by decide +kernel⟩
abbrev s_Chain_told:Stmt:=inClass (top 22) 3
theorem c_Chain_told:FnScope ["self"] ["self"] (defScope s_Chain_told):=⟨rfl,rfl,rfl,by decide +kernel,rfl,by decide +kernel,by decide +kernel⟩
abbrev s_refuse_told:Stmt:=top 23
theorem c_refuse_told:FnScope ["good"] ["good"] (defScope s_refuse_told):=⟨rfl,rfl,rfl,by decide +kernel,rfl,by decide +kernel,by decide +kernel⟩
abbrev s_numbers_in:Stmt:=top 24
theorem c_numbers_in:FnScope ["told", "many"] ["told", "many"] (defScope s_numbers_in):=⟨rfl,rfl,rfl,by decide +kernel,rfl,by decide +kernel,by decide +kernel⟩
abbrev s_list_in:Stmt:=top 25
theorem c_list_in:FnScope ["told"] ["told"] (defScope s_list_in):=⟨rfl,rfl,rfl,by decide +kernel,rfl,by decide +kernel,by decide +kernel⟩
abbrev s_made_stay:Stmt:=top 26
theorem c_made_stay:FnScope ["told"] ["told"] (defScope s_made_stay):=⟨rfl,rfl,rfl,by decide +kernel,rfl,by decide +kernel,by decide +kernel⟩
abbrev s_made_slice:Stmt:=top 27
theorem c_made_slice:FnScope ["told"] ["told"] (defScope s_made_slice):=⟨rfl,rfl,rfl,by decide +kernel,rfl,by decide +kernel,by decide +kernel⟩
abbrev s_made_pick:Stmt:=top 28
theorem c_made_pick:FnScope ["told", "found"] ["told"] (defScope s_made_pick):=⟨rfl,rfl,rfl,by decide +kernel,rfl,by decide +kernel,by decide +kernel⟩
abbrev s_made_turn:Stmt:=top 29
theorem c_made_turn:FnScope ["told", "order"] ["told"] (defScope s_made_turn):=⟨rfl,rfl,rfl,by decide +kernel,rfl,by decide +kernel,by decide +kernel⟩
abbrev s_made_fresh:Stmt:=top 30
theorem c_made_fresh:FnScope ["told"] ["told"] (defScope s_made_fresh):=⟨rfl,rfl,rfl,by decide +kernel,rfl,by decide +kernel,by decide +kernel⟩
abbrev s_made_spread:Stmt:=top 31
theorem c_made_spread:FnScope ["told", "found"] ["told"] (defScope s_made_spread):=⟨rfl,rfl,rfl,by decide +kernel,rfl,by decide +kernel,by decide +kernel⟩
abbrev s_made_cut:Stmt:=top 32
theorem c_made_cut:FnScope ["told", "found"] ["told"] (defScope s_made_cut):=⟨rfl,rfl,rfl,by decide +kernel,rfl,by decide +kernel,by decide +kernel⟩
abbrev s_made_window:Stmt:=top 33
theorem c_made_window:FnScope ["told", "found"] ["told"] (defScope s_made_window):=⟨rfl,rfl,rfl,by decide +kernel,rfl,by decide +kernel,by decide +kernel⟩
abbrev s_made_diagonal:Stmt:=top 34
theorem c_made_diagonal:FnScope ["told", "found"] ["told"] (defScope s_made_diagonal):=⟨rfl,rfl,rfl,by decide +kernel,rfl,by decide +kernel,by decide +kernel⟩
abbrev s_others_in:Stmt:=top 36
theorem c_others_in:FnScope ["move"] ["move"] (defScope s_others_in):=⟨rfl,rfl,rfl,by decide +kernel,rfl,by decide +kernel,by decide +kernel⟩
abbrev s_made_chain:Stmt:=top 37
theorem c_made_chain:FnScope ["told", "deep", "parts", "moves", "others", "part", "move"] ["told", "deep"] (defScope s_made_chain):=⟨rfl,rfl,rfl,by decide +kernel,rfl,by decide +kernel,by decide +kernel⟩
abbrev s_made_move:Stmt:=top 38
theorem c_made_move:FnScope ["told", "deep"] ["told", "deep"] (defScope s_made_move):=⟨rfl,rfl,rfl,by decide +kernel,rfl,by decide +kernel,by decide +kernel⟩
abbrev s_move_of:Stmt:=top 39
theorem c_move_of:FnScope ["told"] ["told"] (defScope s_move_of):=⟨rfl,rfl,rfl,by decide +kernel,rfl,by decide +kernel,by decide +kernel⟩
abbrev s__law_draw:Stmt:=top 41
theorem c__law_draw:FnScope ["_law_script", "_law_k", "_law_many", "_law_number_here"] ["_law_script", "_law_k", "_law_many"] (defScope s__law_draw):=⟨rfl,rfl,rfl,by decide +kernel,rfl,by decide +kernel,by decide +kernel⟩
abbrev s__law_number:Stmt:=top 42
theorem c__law_number:FnScope ["_law_script", "_law_k", "_law_cell", "_law_number_here"] ["_law_script", "_law_k"] (defScope s__law_number):=⟨rfl,rfl,rfl,by decide +kernel,rfl,by decide +kernel,by decide +kernel⟩
abbrev s__law_part:Stmt:=top 43
theorem c__law_part:FnScope ["_law_script", "_law_k"] ["_law_script", "_law_k"] (defScope s__law_part):=⟨rfl,rfl,rfl,by decide +kernel,rfl,by decide +kernel,by decide +kernel⟩
abbrev s__law_drawn:Stmt:=top 44
theorem c__law_drawn:FnScope ["_law_script", "_law_at", "_law_way", "_law_one", "_law_other"] ["_law_script", "_law_at"] (defScope s__law_drawn):=⟨rfl,rfl,rfl,by decide +kernel,rfl,by decide +kernel,by decide +kernel⟩
abbrev s__law_made:Stmt:=top 45
theorem c__law_made:FnScope ["_law_told", "_law_word", "_law_some"] ["_law_told"] (defScope s__law_made):=⟨rfl,rfl,rfl,by decide +kernel,rfl,by decide +kernel,by decide +kernel⟩
abbrev s__law_chain:Stmt:=top 46
theorem c__law_chain:FnScope ["_law_script", "_law_rows", "_law_cell", "_law_told", "_law_k"] ["_law_script", "_law_rows"] (defScope s__law_chain):=⟨rfl,rfl,rfl,by decide +kernel,rfl,by decide +kernel,by decide +kernel⟩
abbrev s__law_kind:Stmt:=top 47
theorem c__law_kind:FnScope ["_law_thing"] ["_law_thing"] (defScope s__law_kind):=⟨rfl,rfl,rfl,by decide +kernel,rfl,by decide +kernel,by decide +kernel⟩
abbrev s__law_right:Stmt:=top 48
theorem c__law_right:FnScope ["_law_told", "_law_move", "_law_handed", "_law_before", "_law_again", "_law_one", "_law_found", "_law_due"] ["_law_told"] (defScope s__law_right):=⟨rfl,rfl,rfl,by decide +kernel,rfl,by decide +kernel,by decide +kernel⟩
abbrev s__law_spoilt_part:Stmt:=top 49
theorem c__law_spoilt_part:FnScope ["_law_told", "_law_cell", "_law_at", "_law_some"] ["_law_told", "_law_cell"] (defScope s__law_spoilt_part):=⟨rfl,rfl,rfl,by decide +kernel,rfl,by decide +kernel,by decide +kernel⟩
abbrev s__law_spoilt:Stmt:=top 50
theorem c__law_spoilt:FnScope ["_law_told", "_law_cell", "_law_way", "_law_rest"] ["_law_told", "_law_cell"] (defScope s__law_spoilt):=⟨rfl,rfl,rfl,by decide +kernel,rfl,by decide +kernel,by decide +kernel⟩
abbrev s__law_refused:Stmt:=top 51
theorem c__law_refused:FnScope ["_law_thing", "_law_word", "e"] ["_law_thing"] (defScope s__law_refused):=⟨rfl,rfl,rfl,by decide +kernel,rfl,by decide +kernel,by decide +kernel⟩
abbrev s_law:Stmt:=top 52
theorem c_law:FnScope ["_law_script", "_law_rows", "_law_joined", "_law_told", "_law_k", "_law_wrong"] ["_law_script"] (defScope s_law):=⟨rfl,rfl,rfl,by decide +kernel,rfl,by decide +kernel,by decide +kernel⟩
set_option genInjectivity false in
structure Adr where
 a_PaceError:Addr
 a_NoPlace:Addr
 a_NoMove:Addr
 a_NoRow:Addr
 a_Move:Addr
 a_Slice:Addr
 a_Pick:Addr
 a_Turn:Addr
 a_Fresh:Addr
 a_Spread:Addr
 a_Cut:Addr
 a_Window:Addr
 a_Diagonal:Addr
 a_Chain:Addr
 a_is_whole:Addr
 d_is_whole:FuncData
 a_Move_told:Addr
 d_Move_told:FuncData
 a_Slice___init__:Addr
 d_Slice___init__:FuncData
 a_Slice_told:Addr
 d_Slice_told:FuncData
 a_Pick___init__:Addr
 d_Pick___init__:FuncData
 a_Pick_told:Addr
 d_Pick_told:FuncData
 a_Turn___init__:Addr
 d_Turn___init__:FuncData
 a_Turn_told:Addr
 d_Turn_told:FuncData
 a_Fresh___init__:Addr
 d_Fresh___init__:FuncData
 a_Fresh_told:Addr
 d_Fresh_told:FuncData
 a_Spread___init__:Addr
 d_Spread___init__:FuncData
 a_Spread_told:Addr
 d_Spread_told:FuncData
 a_Cut___init__:Addr
 d_Cut___init__:FuncData
 a_Cut_told:Addr
 d_Cut_told:FuncData
 a_Window___init__:Addr
 d_Window___init__:FuncData
 a_Window_told:Addr
 d_Window_told:FuncData
 a_Diagonal___init__:Addr
 d_Diagonal___init__:FuncData
 a_Diagonal_told:Addr
 d_Diagonal_told:FuncData
 a_Chain___init__:Addr
 d_Chain___init__:FuncData
 a_Chain_told:Addr
 d_Chain_told:FuncData
 a_refuse_told:Addr
 d_refuse_told:FuncData
 a_numbers_in:Addr
 d_numbers_in:FuncData
 a_list_in:Addr
 d_list_in:FuncData
 a_made_stay:Addr
 d_made_stay:FuncData
 a_made_slice:Addr
 d_made_slice:FuncData
 a_made_pick:Addr
 d_made_pick:FuncData
 a_made_turn:Addr
 d_made_turn:FuncData
 a_made_fresh:Addr
 d_made_fresh:FuncData
 a_made_spread:Addr
 d_made_spread:FuncData
 a_made_cut:Addr
 d_made_cut:FuncData
 a_made_window:Addr
 d_made_window:FuncData
 a_made_diagonal:Addr
 d_made_diagonal:FuncData
 a_others_in:Addr
 d_others_in:FuncData
 a_made_chain:Addr
 d_made_chain:FuncData
 a_made_move:Addr
 d_made_move:FuncData
 a_move_of:Addr
 d_move_of:FuncData
 a__law_draw:Addr
 d__law_draw:FuncData
 a__law_number:Addr
 d__law_number:FuncData
 a__law_part:Addr
 d__law_part:FuncData
 a__law_drawn:Addr
 d__law_drawn:FuncData
 a__law_made:Addr
 d__law_made:FuncData
 a__law_chain:Addr
 d__law_chain:FuncData
 a__law_kind:Addr
 d__law_kind:FuncData
 a__law_right:Addr
 d__law_right:FuncData
 a__law_spoilt_part:Addr
 d__law_spoilt_part:FuncData
 a__law_spoilt:Addr
 d__law_spoilt:FuncData
 a__law_refused:Addr
 d__law_refused:FuncData
 a_law:Addr
 d_law:FuncData
 a_MAKERS:Addr
 w:World
structure Tx(K:PySem.W.Frag)(mg:Str->Option Value)(t:Adr):Prop where
 m_PaceError:mg "PaceError"=some (.ref t.a_PaceError)
 m_NoPlace:mg "NoPlace"=some (.ref t.a_NoPlace)
 m_NoMove:mg "NoMove"=some (.ref t.a_NoMove)
 m_NoRow:mg "NoRow"=some (.ref t.a_NoRow)
 m_Move:mg "Move"=some (.ref t.a_Move)
 m_Slice:mg "Slice"=some (.ref t.a_Slice)
 m_Pick:mg "Pick"=some (.ref t.a_Pick)
 m_Turn:mg "Turn"=some (.ref t.a_Turn)
 m_Fresh:mg "Fresh"=some (.ref t.a_Fresh)
 m_Spread:mg "Spread"=some (.ref t.a_Spread)
 m_Cut:mg "Cut"=some (.ref t.a_Cut)
 m_Window:mg "Window"=some (.ref t.a_Window)
 m_Diagonal:mg "Diagonal"=some (.ref t.a_Diagonal)
 m_Chain:mg "Chain"=some (.ref t.a_Chain)
 ocs:PySem.W.specialIn K (.builtin "object.__class__") "__get__"=some (some (.builtin "getset_descriptor.__get__"))
 oct:PySem.W.takesIn K (.builtin "object.__class__")=some true
 fc_Move:PySem.W.findIn K (.ref t.a_Move) "__class__"=some (some (.builtin "object.__class__"))
 mo_Move:PySem.W.mroIn K t.a_Move (.type "object")=some true
 fc_Slice:PySem.W.findIn K (.ref t.a_Slice) "__class__"=some (some (.builtin "object.__class__"))
 mo_Slice:PySem.W.mroIn K t.a_Slice (.type "object")=some true
 fc_Pick:PySem.W.findIn K (.ref t.a_Pick) "__class__"=some (some (.builtin "object.__class__"))
 mo_Pick:PySem.W.mroIn K t.a_Pick (.type "object")=some true
 fc_Turn:PySem.W.findIn K (.ref t.a_Turn) "__class__"=some (some (.builtin "object.__class__"))
 mo_Turn:PySem.W.mroIn K t.a_Turn (.type "object")=some true
 fc_Fresh:PySem.W.findIn K (.ref t.a_Fresh) "__class__"=some (some (.builtin "object.__class__"))
 mo_Fresh:PySem.W.mroIn K t.a_Fresh (.type "object")=some true
 fc_Spread:PySem.W.findIn K (.ref t.a_Spread) "__class__"=some (some (.builtin "object.__class__"))
 mo_Spread:PySem.W.mroIn K t.a_Spread (.type "object")=some true
 fc_Cut:PySem.W.findIn K (.ref t.a_Cut) "__class__"=some (some (.builtin "object.__class__"))
 mo_Cut:PySem.W.mroIn K t.a_Cut (.type "object")=some true
 fc_Window:PySem.W.findIn K (.ref t.a_Window) "__class__"=some (some (.builtin "object.__class__"))
 mo_Window:PySem.W.mroIn K t.a_Window (.type "object")=some true
 fc_Diagonal:PySem.W.findIn K (.ref t.a_Diagonal) "__class__"=some (some (.builtin "object.__class__"))
 mo_Diagonal:PySem.W.mroIn K t.a_Diagonal (.type "object")=some true
 fc_Chain:PySem.W.findIn K (.ref t.a_Chain) "__class__"=some (some (.builtin "object.__class__"))
 mo_Chain:PySem.W.mroIn K t.a_Chain (.type "object")=some true
 kc_Move_Chain:PySem.W.hasDictIn K t.a_Chain=true
 kt_Move_Chain:PySem.W.typeIn K (.ref t.a_Chain)=some (.type "type")
 ks_Move_Chain:PySem.W.subIn K (.ref t.a_Move) (.ref t.a_Chain)=some false
 kn_Move_Chain:(t.a_Move == t.a_Chain)=false
 kc_Slice_Chain:PySem.W.hasDictIn K t.a_Chain=true
 kt_Slice_Chain:PySem.W.typeIn K (.ref t.a_Chain)=some (.type "type")
 ks_Slice_Chain:PySem.W.subIn K (.ref t.a_Slice) (.ref t.a_Chain)=some false
 kn_Slice_Chain:(t.a_Slice == t.a_Chain)=false
 kc_Pick_Chain:PySem.W.hasDictIn K t.a_Chain=true
 kt_Pick_Chain:PySem.W.typeIn K (.ref t.a_Chain)=some (.type "type")
 ks_Pick_Chain:PySem.W.subIn K (.ref t.a_Pick) (.ref t.a_Chain)=some false
 kn_Pick_Chain:(t.a_Pick == t.a_Chain)=false
 kc_Turn_Chain:PySem.W.hasDictIn K t.a_Chain=true
 kt_Turn_Chain:PySem.W.typeIn K (.ref t.a_Chain)=some (.type "type")
 ks_Turn_Chain:PySem.W.subIn K (.ref t.a_Turn) (.ref t.a_Chain)=some false
 kn_Turn_Chain:(t.a_Turn == t.a_Chain)=false
 kc_Fresh_Chain:PySem.W.hasDictIn K t.a_Chain=true
 kt_Fresh_Chain:PySem.W.typeIn K (.ref t.a_Chain)=some (.type "type")
 ks_Fresh_Chain:PySem.W.subIn K (.ref t.a_Fresh) (.ref t.a_Chain)=some false
 kn_Fresh_Chain:(t.a_Fresh == t.a_Chain)=false
 kc_Spread_Chain:PySem.W.hasDictIn K t.a_Chain=true
 kt_Spread_Chain:PySem.W.typeIn K (.ref t.a_Chain)=some (.type "type")
 ks_Spread_Chain:PySem.W.subIn K (.ref t.a_Spread) (.ref t.a_Chain)=some false
 kn_Spread_Chain:(t.a_Spread == t.a_Chain)=false
 kc_Cut_Chain:PySem.W.hasDictIn K t.a_Chain=true
 kt_Cut_Chain:PySem.W.typeIn K (.ref t.a_Chain)=some (.type "type")
 ks_Cut_Chain:PySem.W.subIn K (.ref t.a_Cut) (.ref t.a_Chain)=some false
 kn_Cut_Chain:(t.a_Cut == t.a_Chain)=false
 kc_Window_Chain:PySem.W.hasDictIn K t.a_Chain=true
 kt_Window_Chain:PySem.W.typeIn K (.ref t.a_Chain)=some (.type "type")
 ks_Window_Chain:PySem.W.subIn K (.ref t.a_Window) (.ref t.a_Chain)=some false
 kn_Window_Chain:(t.a_Window == t.a_Chain)=false
 kc_Diagonal_Chain:PySem.W.hasDictIn K t.a_Chain=true
 kt_Diagonal_Chain:PySem.W.typeIn K (.ref t.a_Chain)=some (.type "type")
 ks_Diagonal_Chain:PySem.W.subIn K (.ref t.a_Diagonal) (.ref t.a_Chain)=some false
 kn_Diagonal_Chain:(t.a_Diagonal == t.a_Chain)=false
 kc_Chain_Chain:PySem.W.hasDictIn K t.a_Chain=true
 kt_Chain_Chain:PySem.W.typeIn K (.ref t.a_Chain)=some (.type "type")
 ks_Chain_Chain:PySem.W.subIn K (.ref t.a_Chain) (.ref t.a_Chain)=some true
 kc_Move_Move:PySem.W.hasDictIn K t.a_Move=true
 kt_Move_Move:PySem.W.typeIn K (.ref t.a_Move)=some (.type "type")
 ks_Move_Move:PySem.W.subIn K (.ref t.a_Move) (.ref t.a_Move)=some true
 kc_Slice_Move:PySem.W.hasDictIn K t.a_Move=true
 kt_Slice_Move:PySem.W.typeIn K (.ref t.a_Move)=some (.type "type")
 ks_Slice_Move:PySem.W.subIn K (.ref t.a_Slice) (.ref t.a_Move)=some true
 kc_Pick_Move:PySem.W.hasDictIn K t.a_Move=true
 kt_Pick_Move:PySem.W.typeIn K (.ref t.a_Move)=some (.type "type")
 ks_Pick_Move:PySem.W.subIn K (.ref t.a_Pick) (.ref t.a_Move)=some true
 kc_Turn_Move:PySem.W.hasDictIn K t.a_Move=true
 kt_Turn_Move:PySem.W.typeIn K (.ref t.a_Move)=some (.type "type")
 ks_Turn_Move:PySem.W.subIn K (.ref t.a_Turn) (.ref t.a_Move)=some true
 kc_Fresh_Move:PySem.W.hasDictIn K t.a_Move=true
 kt_Fresh_Move:PySem.W.typeIn K (.ref t.a_Move)=some (.type "type")
 ks_Fresh_Move:PySem.W.subIn K (.ref t.a_Fresh) (.ref t.a_Move)=some true
 kc_Spread_Move:PySem.W.hasDictIn K t.a_Move=true
 kt_Spread_Move:PySem.W.typeIn K (.ref t.a_Move)=some (.type "type")
 ks_Spread_Move:PySem.W.subIn K (.ref t.a_Spread) (.ref t.a_Move)=some true
 kc_Cut_Move:PySem.W.hasDictIn K t.a_Move=true
 kt_Cut_Move:PySem.W.typeIn K (.ref t.a_Move)=some (.type "type")
 ks_Cut_Move:PySem.W.subIn K (.ref t.a_Cut) (.ref t.a_Move)=some true
 kc_Window_Move:PySem.W.hasDictIn K t.a_Move=true
 kt_Window_Move:PySem.W.typeIn K (.ref t.a_Move)=some (.type "type")
 ks_Window_Move:PySem.W.subIn K (.ref t.a_Window) (.ref t.a_Move)=some true
 kc_Diagonal_Move:PySem.W.hasDictIn K t.a_Move=true
 kt_Diagonal_Move:PySem.W.typeIn K (.ref t.a_Move)=some (.type "type")
 ks_Diagonal_Move:PySem.W.subIn K (.ref t.a_Diagonal) (.ref t.a_Move)=some true
 kc_Chain_Move:PySem.W.hasDictIn K t.a_Move=true
 kt_Chain_Move:PySem.W.typeIn K (.ref t.a_Move)=some (.type "type")
 ks_Chain_Move:PySem.W.subIn K (.ref t.a_Chain) (.ref t.a_Move)=some true
 o_NoMove:PySem.W.excIn K t.a_NoMove [.type "ValueError",.type "Exception",.type "BaseException",.type "object"] "ValueError.__new__"=true
 x_NoMove_PaceError:PySem.W.exmOne K (.ref t.a_NoMove) (.ref t.a_PaceError)=some true
 ga_NoMove:PySem.W.findIn K (.ref t.a_NoMove) "__getattribute__"=some (some (.builtin "BaseException.__getattribute__"))
 gn_NoMove:PySem.W.findIn K (.ref t.a_NoMove) "__getattr__"=some none
 mb_NoMove:PySem.W.mroIn K t.a_NoMove (.type "BaseException")=some true
 mo_NoMove:PySem.W.mroIn K t.a_NoMove (.type "object")=some true
 fc_NoMove:PySem.W.findIn K (.ref t.a_NoMove) "__class__"=some (some (.builtin "object.__class__"))
 hd_NoMove:PySem.W.hasDictIn K t.a_NoMove=true
 kc_NoMove_NoPlace:PySem.W.hasDictIn K t.a_NoPlace=true
 kt_NoMove_NoPlace:PySem.W.typeIn K (.ref t.a_NoPlace)=some (.type "type")
 ks_NoMove_NoPlace:PySem.W.subIn K (.ref t.a_NoMove) (.ref t.a_NoPlace)=some false
 kn_NoMove_NoPlace:(t.a_NoMove == t.a_NoPlace)=false
 kc_NoMove_NoRow:PySem.W.hasDictIn K t.a_NoRow=true
 kt_NoMove_NoRow:PySem.W.typeIn K (.ref t.a_NoRow)=some (.type "type")
 ks_NoMove_NoRow:PySem.W.subIn K (.ref t.a_NoMove) (.ref t.a_NoRow)=some false
 kn_NoMove_NoRow:(t.a_NoMove == t.a_NoRow)=false
 kc_NoMove_NoMove:PySem.W.hasDictIn K t.a_NoMove=true
 kt_NoMove_NoMove:PySem.W.typeIn K (.ref t.a_NoMove)=some (.type "type")
 ks_NoMove_NoMove:PySem.W.subIn K (.ref t.a_NoMove) (.ref t.a_NoMove)=some true
 m_MOST_MOVES:∃ tk,mg "MOST_MOVES"=some (.int 40 tk)
 m_MOST_DEEP:∃ tk,mg "MOST_DEEP"=some (.int 4 tk)
 m_MAKERS:mg "MAKERS"=some (.ref t.a_MAKERS)
 d_MAKERS:DicK t.w K t.a_MAKERS [("stay",.ref t.a_made_stay),("slice",.ref t.a_made_slice),("pick",.ref t.a_made_pick),("turn",.ref t.a_made_turn),("fresh",.ref t.a_made_fresh),("spread",.ref t.a_made_spread),("cut",.ref t.a_made_cut),("window",.ref t.a_made_window),("diagonal",.ref t.a_made_diagonal)]
 cl_Move:Cls K t.a_Move
 mk0_Move:Mk0 K t.a_Move
 mt_Move_told:Meth K t.a_Move "told" t.a_Move_told
 cl_Slice:Cls K t.a_Slice
 na_Slice_axis:NoAttr K t.a_Slice "axis"
 na_Slice_start:NoAttr K t.a_Slice "start"
 na_Slice_step:NoAttr K t.a_Slice "step"
 na_Slice_stop:NoAttr K t.a_Slice "stop"
 mt_Slice_told:Meth K t.a_Slice "told" t.a_Slice_told
 mk_Slice:Mk K t.a_Slice t.a_Slice___init__
 cl_Pick:Cls K t.a_Pick
 na_Pick_at:NoAttr K t.a_Pick "at"
 na_Pick_axis:NoAttr K t.a_Pick "axis"
 mt_Pick_told:Meth K t.a_Pick "told" t.a_Pick_told
 mk_Pick:Mk K t.a_Pick t.a_Pick___init__
 cl_Turn:Cls K t.a_Turn
 na_Turn_order:NoAttr K t.a_Turn "order"
 mt_Turn_told:Meth K t.a_Turn "told" t.a_Turn_told
 mk_Turn:Mk K t.a_Turn t.a_Turn___init__
 cl_Fresh:Cls K t.a_Fresh
 na_Fresh_axis:NoAttr K t.a_Fresh "axis"
 mt_Fresh_told:Meth K t.a_Fresh "told" t.a_Fresh_told
 mk_Fresh:Mk K t.a_Fresh t.a_Fresh___init__
 cl_Spread:Cls K t.a_Spread
 na_Spread_axis:NoAttr K t.a_Spread "axis"
 na_Spread_size:NoAttr K t.a_Spread "size"
 mt_Spread_told:Meth K t.a_Spread "told" t.a_Spread_told
 mk_Spread:Mk K t.a_Spread t.a_Spread___init__
 cl_Cut:Cls K t.a_Cut
 na_Cut_axis:NoAttr K t.a_Cut "axis"
 na_Cut_inner:NoAttr K t.a_Cut "inner"
 mt_Cut_told:Meth K t.a_Cut "told" t.a_Cut_told
 mk_Cut:Mk K t.a_Cut t.a_Cut___init__
 cl_Window:Cls K t.a_Window
 na_Window_axis:NoAttr K t.a_Window "axis"
 na_Window_size:NoAttr K t.a_Window "size"
 mt_Window_told:Meth K t.a_Window "told" t.a_Window_told
 mk_Window:Mk K t.a_Window t.a_Window___init__
 cl_Diagonal:Cls K t.a_Diagonal
 na_Diagonal_one:NoAttr K t.a_Diagonal "one"
 na_Diagonal_other:NoAttr K t.a_Diagonal "other"
 mt_Diagonal_told:Meth K t.a_Diagonal "told" t.a_Diagonal_told
 mk_Diagonal:Mk K t.a_Diagonal t.a_Diagonal___init__
 cl_Chain:Cls K t.a_Chain
 na_Chain_moves:NoAttr K t.a_Chain "moves"
 mt_Chain_told:Meth K t.a_Chain "told" t.a_Chain_told
 mk_Chain:Mk K t.a_Chain t.a_Chain___init__
 F_is_whole:Fun K "is_whole" "is_whole" s_is_whole t.a_is_whole t.d_is_whole
 m_is_whole:mg "is_whole"=some (.ref t.a_is_whole)
 b_is_whole:Binds K t.d_is_whole ["thing"] []
 F_Move_told:Fun K "told" "Move.told" s_Move_told t.a_Move_told t.d_Move_told
 b_Move_told:Binds K t.d_Move_told ["self"] []
 F_Slice___init__:FunX K "__init__" "Slice.__init__" s_Slice___init__ t.a_Slice___init__ t.d_Slice___init__
 b_Slice___init__:Binds K t.d_Slice___init__ ["self", "axis", "start", "stop", "step"] []
 kb_Slice___init___step_stop:KBinds K t.d_Slice___init__ ["self", "axis", "start", "stop", "step"] ["step", "stop"] (gK22 (fun a b c d=>[a,b,Value.none,d,c])) (gK22 (fun a b c d=>[a,b,V.non,d,c]))
 b_Slice___init___2:Binds K t.d_Slice___init__ ["self", "axis", "start", "stop", "step"] [Value.none,Value.none,Value.none]
 b_Slice___init___3:Binds K t.d_Slice___init__ ["self", "axis", "start", "stop", "step"] [Value.none,Value.none]
 b_Slice___init___4:Binds K t.d_Slice___init__ ["self", "axis", "start", "stop", "step"] [Value.none]
 F_Slice_told:Fun K "told" "Slice.told" s_Slice_told t.a_Slice_told t.d_Slice_told
 b_Slice_told:Binds K t.d_Slice_told ["self"] []
 F_Pick___init__:Fun K "__init__" "Pick.__init__" s_Pick___init__ t.a_Pick___init__ t.d_Pick___init__
 b_Pick___init__:Binds K t.d_Pick___init__ ["self", "axis", "at"] []
 F_Pick_told:Fun K "told" "Pick.told" s_Pick_told t.a_Pick_told t.d_Pick_told
 b_Pick_told:Binds K t.d_Pick_told ["self"] []
 F_Turn___init__:Fun K "__init__" "Turn.__init__" s_Turn___init__ t.a_Turn___init__ t.d_Turn___init__
 b_Turn___init__:Binds K t.d_Turn___init__ ["self", "order"] []
 F_Turn_told:Fun K "told" "Turn.told" s_Turn_told t.a_Turn_told t.d_Turn_told
 b_Turn_told:Binds K t.d_Turn_told ["self"] []
 F_Fresh___init__:Fun K "__init__" "Fresh.__init__" s_Fresh___init__ t.a_Fresh___init__ t.d_Fresh___init__
 b_Fresh___init__:Binds K t.d_Fresh___init__ ["self", "axis"] []
 F_Fresh_told:Fun K "told" "Fresh.told" s_Fresh_told t.a_Fresh_told t.d_Fresh_told
 b_Fresh_told:Binds K t.d_Fresh_told ["self"] []
 F_Spread___init__:Fun K "__init__" "Spread.__init__" s_Spread___init__ t.a_Spread___init__ t.d_Spread___init__
 b_Spread___init__:Binds K t.d_Spread___init__ ["self", "axis", "size"] []
 F_Spread_told:Fun K "told" "Spread.told" s_Spread_told t.a_Spread_told t.d_Spread_told
 b_Spread_told:Binds K t.d_Spread_told ["self"] []
 F_Cut___init__:Fun K "__init__" "Cut.__init__" s_Cut___init__ t.a_Cut___init__ t.d_Cut___init__
 b_Cut___init__:Binds K t.d_Cut___init__ ["self", "axis", "inner"] []
 F_Cut_told:Fun K "told" "Cut.told" s_Cut_told t.a_Cut_told t.d_Cut_told
 b_Cut_told:Binds K t.d_Cut_told ["self"] []
 F_Window___init__:Fun K "__init__" "Window.__init__" s_Window___init__ t.a_Window___init__ t.d_Window___init__
 b_Window___init__:Binds K t.d_Window___init__ ["self", "axis", "size"] []
 F_Window_told:Fun K "told" "Window.told" s_Window_told t.a_Window_told t.d_Window_told
 b_Window_told:Binds K t.d_Window_told ["self"] []
 F_Diagonal___init__:Fun K "__init__" "Diagonal.__init__" s_Diagonal___init__ t.a_Diagonal___init__ t.d_Diagonal___init__
 b_Diagonal___init__:Binds K t.d_Diagonal___init__ ["self", "one", "other"] []
 F_Diagonal_told:Fun K "told" "Diagonal.told" s_Diagonal_told t.a_Diagonal_told t.d_Diagonal_told
 b_Diagonal_told:Binds K t.d_Diagonal_told ["self"] []
 F_Chain___init__:Fun K "__init__" "Chain.__init__" s_Chain___init__ t.a_Chain___init__ t.d_Chain___init__
 b_Chain___init__:Binds K t.d_Chain___init__ ["self", "moves"] []
 F_Chain_told:Fun K "told" "Chain.told" s_Chain_told t.a_Chain_told t.d_Chain_told
 b_Chain_told:Binds K t.d_Chain_told ["self"] []
 F_refuse_told:Fun K "refuse_told" "refuse_told" s_refuse_told t.a_refuse_told t.d_refuse_told
 m_refuse_told:mg "refuse_told"=some (.ref t.a_refuse_told)
 b_refuse_told:Binds K t.d_refuse_told ["good"] []
 F_numbers_in:Fun K "numbers_in" "numbers_in" s_numbers_in t.a_numbers_in t.d_numbers_in
 m_numbers_in:mg "numbers_in"=some (.ref t.a_numbers_in)
 b_numbers_in:Binds K t.d_numbers_in ["told", "many"] []
 F_list_in:Fun K "list_in" "list_in" s_list_in t.a_list_in t.d_list_in
 m_list_in:mg "list_in"=some (.ref t.a_list_in)
 b_list_in:Binds K t.d_list_in ["told"] []
 F_made_stay:Fun K "made_stay" "made_stay" s_made_stay t.a_made_stay t.d_made_stay
 m_made_stay:mg "made_stay"=some (.ref t.a_made_stay)
 b_made_stay:Binds K t.d_made_stay ["told"] []
 F_made_slice:Fun K "made_slice" "made_slice" s_made_slice t.a_made_slice t.d_made_slice
 m_made_slice:mg "made_slice"=some (.ref t.a_made_slice)
 b_made_slice:Binds K t.d_made_slice ["told"] []
 F_made_pick:Fun K "made_pick" "made_pick" s_made_pick t.a_made_pick t.d_made_pick
 m_made_pick:mg "made_pick"=some (.ref t.a_made_pick)
 b_made_pick:Binds K t.d_made_pick ["told"] []
 F_made_turn:Fun K "made_turn" "made_turn" s_made_turn t.a_made_turn t.d_made_turn
 m_made_turn:mg "made_turn"=some (.ref t.a_made_turn)
 b_made_turn:Binds K t.d_made_turn ["told"] []
 F_made_fresh:Fun K "made_fresh" "made_fresh" s_made_fresh t.a_made_fresh t.d_made_fresh
 m_made_fresh:mg "made_fresh"=some (.ref t.a_made_fresh)
 b_made_fresh:Binds K t.d_made_fresh ["told"] []
 F_made_spread:Fun K "made_spread" "made_spread" s_made_spread t.a_made_spread t.d_made_spread
 m_made_spread:mg "made_spread"=some (.ref t.a_made_spread)
 b_made_spread:Binds K t.d_made_spread ["told"] []
 F_made_cut:Fun K "made_cut" "made_cut" s_made_cut t.a_made_cut t.d_made_cut
 m_made_cut:mg "made_cut"=some (.ref t.a_made_cut)
 b_made_cut:Binds K t.d_made_cut ["told"] []
 F_made_window:Fun K "made_window" "made_window" s_made_window t.a_made_window t.d_made_window
 m_made_window:mg "made_window"=some (.ref t.a_made_window)
 b_made_window:Binds K t.d_made_window ["told"] []
 F_made_diagonal:Fun K "made_diagonal" "made_diagonal" s_made_diagonal t.a_made_diagonal t.d_made_diagonal
 m_made_diagonal:mg "made_diagonal"=some (.ref t.a_made_diagonal)
 b_made_diagonal:Binds K t.d_made_diagonal ["told"] []
 F_others_in:Fun K "others_in" "others_in" s_others_in t.a_others_in t.d_others_in
 m_others_in:mg "others_in"=some (.ref t.a_others_in)
 b_others_in:Binds K t.d_others_in ["move"] []
 F_made_chain:Fun K "made_chain" "made_chain" s_made_chain t.a_made_chain t.d_made_chain
 m_made_chain:mg "made_chain"=some (.ref t.a_made_chain)
 b_made_chain:Binds K t.d_made_chain ["told", "deep"] []
 F_made_move:Fun K "made_move" "made_move" s_made_move t.a_made_move t.d_made_move
 m_made_move:mg "made_move"=some (.ref t.a_made_move)
 b_made_move:Binds K t.d_made_move ["told", "deep"] []
 F_move_of:Fun K "move_of" "move_of" s_move_of t.a_move_of t.d_move_of
 m_move_of:mg "move_of"=some (.ref t.a_move_of)
 b_move_of:Binds K t.d_move_of ["told"] []
 F__law_draw:Fun K "_law_draw" "_law_draw" s__law_draw t.a__law_draw t.d__law_draw
 m__law_draw:mg "_law_draw"=some (.ref t.a__law_draw)
 b__law_draw:Binds K t.d__law_draw ["_law_script", "_law_k", "_law_many"] []
 F__law_number:Fun K "_law_number" "_law_number" s__law_number t.a__law_number t.d__law_number
 m__law_number:mg "_law_number"=some (.ref t.a__law_number)
 b__law_number:Binds K t.d__law_number ["_law_script", "_law_k"] []
 F__law_part:Fun K "_law_part" "_law_part" s__law_part t.a__law_part t.d__law_part
 m__law_part:mg "_law_part"=some (.ref t.a__law_part)
 b__law_part:Binds K t.d__law_part ["_law_script", "_law_k"] []
 F__law_drawn:Fun K "_law_drawn" "_law_drawn" s__law_drawn t.a__law_drawn t.d__law_drawn
 m__law_drawn:mg "_law_drawn"=some (.ref t.a__law_drawn)
 b__law_drawn:Binds K t.d__law_drawn ["_law_script", "_law_at"] []
 F__law_made:Fun K "_law_made" "_law_made" s__law_made t.a__law_made t.d__law_made
 m__law_made:mg "_law_made"=some (.ref t.a__law_made)
 b__law_made:Binds K t.d__law_made ["_law_told"] []
 F__law_chain:Fun K "_law_chain" "_law_chain" s__law_chain t.a__law_chain t.d__law_chain
 m__law_chain:mg "_law_chain"=some (.ref t.a__law_chain)
 b__law_chain:Binds K t.d__law_chain ["_law_script", "_law_rows"] []
 F__law_kind:Fun K "_law_kind" "_law_kind" s__law_kind t.a__law_kind t.d__law_kind
 m__law_kind:mg "_law_kind"=some (.ref t.a__law_kind)
 b__law_kind:Binds K t.d__law_kind ["_law_thing"] []
 F__law_right:Fun K "_law_right" "_law_right" s__law_right t.a__law_right t.d__law_right
 m__law_right:mg "_law_right"=some (.ref t.a__law_right)
 b__law_right:Binds K t.d__law_right ["_law_told"] []
 F__law_spoilt_part:Fun K "_law_spoilt_part" "_law_spoilt_part" s__law_spoilt_part t.a__law_spoilt_part t.d__law_spoilt_part
 m__law_spoilt_part:mg "_law_spoilt_part"=some (.ref t.a__law_spoilt_part)
 b__law_spoilt_part:Binds K t.d__law_spoilt_part ["_law_told", "_law_cell"] []
 F__law_spoilt:Fun K "_law_spoilt" "_law_spoilt" s__law_spoilt t.a__law_spoilt t.d__law_spoilt
 m__law_spoilt:mg "_law_spoilt"=some (.ref t.a__law_spoilt)
 b__law_spoilt:Binds K t.d__law_spoilt ["_law_told", "_law_cell"] []
 F__law_refused:Fun K "_law_refused" "_law_refused" s__law_refused t.a__law_refused t.d__law_refused
 m__law_refused:mg "_law_refused"=some (.ref t.a__law_refused)
 b__law_refused:Binds K t.d__law_refused ["_law_thing"] []
 F_law:Fun K "law" "law" s_law t.a_law t.d_law
 m_law:mg "law"=some (.ref t.a_law)
 b_law:Binds K t.d_law ["_law_script"] []
 z_ValueError:mg "ValueError"=none
 z_all:mg "all"=none
 z_bool:mg "bool"=none
 z_int:mg "int"=none
 z_isinstance:mg "isinstance"=none
 z_len:mg "len"=none
 z_list:mg "list"=none
 z_range:mg "range"=none
 z_repr:mg "repr"=none
 z_str:mg "str"=none
 z_sum:mg "sum"=none
 z_tuple:mg "tuple"=none
theorem Tx.is_Move{K:PySem.W.Frag}{mg:Str->Option Value}{t:Adr}(T:Tx K mg t):IsC K t.a_Move:=⟨T.cl_Move,T.fc_Move,T.ocs,T.oct,T.mo_Move⟩
theorem Tx.is_Slice{K:PySem.W.Frag}{mg:Str->Option Value}{t:Adr}(T:Tx K mg t):IsC K t.a_Slice:=⟨T.cl_Slice,T.fc_Slice,T.ocs,T.oct,T.mo_Slice⟩
theorem Tx.is_Pick{K:PySem.W.Frag}{mg:Str->Option Value}{t:Adr}(T:Tx K mg t):IsC K t.a_Pick:=⟨T.cl_Pick,T.fc_Pick,T.ocs,T.oct,T.mo_Pick⟩
theorem Tx.is_Turn{K:PySem.W.Frag}{mg:Str->Option Value}{t:Adr}(T:Tx K mg t):IsC K t.a_Turn:=⟨T.cl_Turn,T.fc_Turn,T.ocs,T.oct,T.mo_Turn⟩
theorem Tx.is_Fresh{K:PySem.W.Frag}{mg:Str->Option Value}{t:Adr}(T:Tx K mg t):IsC K t.a_Fresh:=⟨T.cl_Fresh,T.fc_Fresh,T.ocs,T.oct,T.mo_Fresh⟩
theorem Tx.is_Spread{K:PySem.W.Frag}{mg:Str->Option Value}{t:Adr}(T:Tx K mg t):IsC K t.a_Spread:=⟨T.cl_Spread,T.fc_Spread,T.ocs,T.oct,T.mo_Spread⟩
theorem Tx.is_Cut{K:PySem.W.Frag}{mg:Str->Option Value}{t:Adr}(T:Tx K mg t):IsC K t.a_Cut:=⟨T.cl_Cut,T.fc_Cut,T.ocs,T.oct,T.mo_Cut⟩
theorem Tx.is_Window{K:PySem.W.Frag}{mg:Str->Option Value}{t:Adr}(T:Tx K mg t):IsC K t.a_Window:=⟨T.cl_Window,T.fc_Window,T.ocs,T.oct,T.mo_Window⟩
theorem Tx.is_Diagonal{K:PySem.W.Frag}{mg:Str->Option Value}{t:Adr}(T:Tx K mg t):IsC K t.a_Diagonal:=⟨T.cl_Diagonal,T.fc_Diagonal,T.ocs,T.oct,T.mo_Diagonal⟩
theorem Tx.is_Chain{K:PySem.W.Frag}{mg:Str->Option Value}{t:Adr}(T:Tx K mg t):IsC K t.a_Chain:=⟨T.cl_Chain,T.fc_Chain,T.ocs,T.oct,T.mo_Chain⟩
theorem Tx.e_NoMove{K:PySem.W.Frag}{mg:Str->Option Value}{t:Adr}(T:Tx K mg t):ECls K t.a_NoMove:=⟨T.ga_NoMove,T.gn_NoMove,T.mb_NoMove,T.mo_NoMove,T.fc_NoMove,T.ocs,T.oct,T.hd_NoMove⟩
theorem Tx.k_Move_Chain{K:PySem.W.Frag}{mg:Str->Option Value}{t:Adr}(T:Tx K mg t):PySem.W.kitOne K (.ref t.a_Move) (.ref t.a_Chain)=some false:=kit_no T.kn_Move_Chain T.kc_Move_Chain T.kt_Move_Chain T.ks_Move_Chain
theorem Tx.k_Slice_Chain{K:PySem.W.Frag}{mg:Str->Option Value}{t:Adr}(T:Tx K mg t):PySem.W.kitOne K (.ref t.a_Slice) (.ref t.a_Chain)=some false:=kit_no T.kn_Slice_Chain T.kc_Slice_Chain T.kt_Slice_Chain T.ks_Slice_Chain
theorem Tx.k_Pick_Chain{K:PySem.W.Frag}{mg:Str->Option Value}{t:Adr}(T:Tx K mg t):PySem.W.kitOne K (.ref t.a_Pick) (.ref t.a_Chain)=some false:=kit_no T.kn_Pick_Chain T.kc_Pick_Chain T.kt_Pick_Chain T.ks_Pick_Chain
theorem Tx.k_Turn_Chain{K:PySem.W.Frag}{mg:Str->Option Value}{t:Adr}(T:Tx K mg t):PySem.W.kitOne K (.ref t.a_Turn) (.ref t.a_Chain)=some false:=kit_no T.kn_Turn_Chain T.kc_Turn_Chain T.kt_Turn_Chain T.ks_Turn_Chain
theorem Tx.k_Fresh_Chain{K:PySem.W.Frag}{mg:Str->Option Value}{t:Adr}(T:Tx K mg t):PySem.W.kitOne K (.ref t.a_Fresh) (.ref t.a_Chain)=some false:=kit_no T.kn_Fresh_Chain T.kc_Fresh_Chain T.kt_Fresh_Chain T.ks_Fresh_Chain
theorem Tx.k_Spread_Chain{K:PySem.W.Frag}{mg:Str->Option Value}{t:Adr}(T:Tx K mg t):PySem.W.kitOne K (.ref t.a_Spread) (.ref t.a_Chain)=some false:=kit_no T.kn_Spread_Chain T.kc_Spread_Chain T.kt_Spread_Chain T.ks_Spread_Chain
theorem Tx.k_Cut_Chain{K:PySem.W.Frag}{mg:Str->Option Value}{t:Adr}(T:Tx K mg t):PySem.W.kitOne K (.ref t.a_Cut) (.ref t.a_Chain)=some false:=kit_no T.kn_Cut_Chain T.kc_Cut_Chain T.kt_Cut_Chain T.ks_Cut_Chain
theorem Tx.k_Window_Chain{K:PySem.W.Frag}{mg:Str->Option Value}{t:Adr}(T:Tx K mg t):PySem.W.kitOne K (.ref t.a_Window) (.ref t.a_Chain)=some false:=kit_no T.kn_Window_Chain T.kc_Window_Chain T.kt_Window_Chain T.ks_Window_Chain
theorem Tx.k_Diagonal_Chain{K:PySem.W.Frag}{mg:Str->Option Value}{t:Adr}(T:Tx K mg t):PySem.W.kitOne K (.ref t.a_Diagonal) (.ref t.a_Chain)=some false:=kit_no T.kn_Diagonal_Chain T.kc_Diagonal_Chain T.kt_Diagonal_Chain T.ks_Diagonal_Chain
theorem Tx.k_Chain_Chain{K:PySem.W.Frag}{mg:Str->Option Value}{t:Adr}(T:Tx K mg t):PySem.W.kitOne K (.ref t.a_Chain) (.ref t.a_Chain)=some true:=kit_yes T.kc_Chain_Chain T.kt_Chain_Chain T.ks_Chain_Chain
theorem Tx.k_Move_Move{K:PySem.W.Frag}{mg:Str->Option Value}{t:Adr}(T:Tx K mg t):PySem.W.kitOne K (.ref t.a_Move) (.ref t.a_Move)=some true:=kit_yes T.kc_Move_Move T.kt_Move_Move T.ks_Move_Move
theorem Tx.k_Slice_Move{K:PySem.W.Frag}{mg:Str->Option Value}{t:Adr}(T:Tx K mg t):PySem.W.kitOne K (.ref t.a_Slice) (.ref t.a_Move)=some true:=kit_yes T.kc_Slice_Move T.kt_Slice_Move T.ks_Slice_Move
theorem Tx.k_Pick_Move{K:PySem.W.Frag}{mg:Str->Option Value}{t:Adr}(T:Tx K mg t):PySem.W.kitOne K (.ref t.a_Pick) (.ref t.a_Move)=some true:=kit_yes T.kc_Pick_Move T.kt_Pick_Move T.ks_Pick_Move
theorem Tx.k_Turn_Move{K:PySem.W.Frag}{mg:Str->Option Value}{t:Adr}(T:Tx K mg t):PySem.W.kitOne K (.ref t.a_Turn) (.ref t.a_Move)=some true:=kit_yes T.kc_Turn_Move T.kt_Turn_Move T.ks_Turn_Move
theorem Tx.k_Fresh_Move{K:PySem.W.Frag}{mg:Str->Option Value}{t:Adr}(T:Tx K mg t):PySem.W.kitOne K (.ref t.a_Fresh) (.ref t.a_Move)=some true:=kit_yes T.kc_Fresh_Move T.kt_Fresh_Move T.ks_Fresh_Move
theorem Tx.k_Spread_Move{K:PySem.W.Frag}{mg:Str->Option Value}{t:Adr}(T:Tx K mg t):PySem.W.kitOne K (.ref t.a_Spread) (.ref t.a_Move)=some true:=kit_yes T.kc_Spread_Move T.kt_Spread_Move T.ks_Spread_Move
theorem Tx.k_Cut_Move{K:PySem.W.Frag}{mg:Str->Option Value}{t:Adr}(T:Tx K mg t):PySem.W.kitOne K (.ref t.a_Cut) (.ref t.a_Move)=some true:=kit_yes T.kc_Cut_Move T.kt_Cut_Move T.ks_Cut_Move
theorem Tx.k_Window_Move{K:PySem.W.Frag}{mg:Str->Option Value}{t:Adr}(T:Tx K mg t):PySem.W.kitOne K (.ref t.a_Window) (.ref t.a_Move)=some true:=kit_yes T.kc_Window_Move T.kt_Window_Move T.ks_Window_Move
theorem Tx.k_Diagonal_Move{K:PySem.W.Frag}{mg:Str->Option Value}{t:Adr}(T:Tx K mg t):PySem.W.kitOne K (.ref t.a_Diagonal) (.ref t.a_Move)=some true:=kit_yes T.kc_Diagonal_Move T.kt_Diagonal_Move T.ks_Diagonal_Move
theorem Tx.k_Chain_Move{K:PySem.W.Frag}{mg:Str->Option Value}{t:Adr}(T:Tx K mg t):PySem.W.kitOne K (.ref t.a_Chain) (.ref t.a_Move)=some true:=kit_yes T.kc_Chain_Move T.kt_Chain_Move T.ks_Chain_Move
theorem Tx.k_NoMove_NoPlace{K:PySem.W.Frag}{mg:Str->Option Value}{t:Adr}(T:Tx K mg t):PySem.W.kitOne K (.ref t.a_NoMove) (.ref t.a_NoPlace)=some false:=kit_no T.kn_NoMove_NoPlace T.kc_NoMove_NoPlace T.kt_NoMove_NoPlace T.ks_NoMove_NoPlace
theorem Tx.k_NoMove_NoRow{K:PySem.W.Frag}{mg:Str->Option Value}{t:Adr}(T:Tx K mg t):PySem.W.kitOne K (.ref t.a_NoMove) (.ref t.a_NoRow)=some false:=kit_no T.kn_NoMove_NoRow T.kc_NoMove_NoRow T.kt_NoMove_NoRow T.ks_NoMove_NoRow
theorem Tx.k_NoMove_NoMove{K:PySem.W.Frag}{mg:Str->Option Value}{t:Adr}(T:Tx K mg t):PySem.W.kitOne K (.ref t.a_NoMove) (.ref t.a_NoMove)=some true:=kit_yes T.kc_NoMove_NoMove T.kt_NoMove_NoMove T.ks_NoMove_NoMove
local macro_rules | `(tactic| trivial) => `(tactic| first | exact Or.inl rfl | exact Or.inr rfl | exact Or.inr (Or.inl rfl) | exact Or.inr (Or.inr rfl) | assumption)
local macro_rules | `(tactic| simp! only [$xs,*]) => do
  let ys := xs.getElems.map fun x => (⟨x.raw⟩ : Lean.TSyntax `Lean.Parser.Tactic.simpLemma)
  let zs ← ("↓reduceIte ↓optK_some ↓gName_0 ↓gName_1 ↓gName_2 ↓gName_3 ↓gName_4 ↓gName_5 ↓gName_6 ↓gName_7 ↓m_kOp' ↓m_kOp ↓m_tOp ↓m_tC ↓m_kUn ↓m_tUn ↓m_rIsN_non ↓m_rIsN_int ↓m_rIsN_ref ↓m_rIsN_bl ↓m_rIsN_str ↓m_kNot ↓m_tNot ↓m_kAnd ↓m_tAnd ↓m_kOr ↓m_tOr ↓m_tNil ↓m_kCons' ↓m_kCons ↓m_tCons ↓m_kCall_1 ↓m_kCall_2 ↓m_kCall_3 ↓m_tCall ↓m_kCB ↓m_tCB ↓m_tNext ↓m_tSeq ↓m_tRet ↓m_kDrop ↓m_tDrop ↓m_kIfS ↓m_tIfS ↓m_kAsg ↓m_tAsg ↓m_kLen ↓m_qLen ↓m_kIx' ↓m_kIx ↓m_qIx ↓m_qIsi_int ↓m_qIsi_bool ↓m_qIsi_tuple ↓m_qIsi_list ↓m_qIsi_str ↓m_kIsi_Nb ↓m_kIsi_Ni ↓m_kIsi_Ns ↓m_kIsi_Nl ↓m_kIsi_Nt ↓m_kIsi_bb ↓m_kIsi_bi ↓m_kIsi_bs ↓m_kIsi_bl ↓m_kIsi_bt ↓m_kIsi_ib ↓m_kIsi_ii ↓m_kIsi_is ↓m_kIsi_il ↓m_kIsi_it ↓m_kIsi_sb ↓m_kIsi_si ↓m_kIsi_ss ↓m_kIsi_sl ↓m_kIsi_st ↓m_kIsi_li ↓m_kIsi_ls ↓m_kIsi_ll ↓m_kIsi_lt ↓m_kIsi_ti ↓m_kIsi_ts ↓m_kIsi_tl ↓m_kIsi_tt ↓m_kIsi_di ↓m_kIsi_ds ↓m_kIsi_dl ↓m_kIsi_dt ↓m_kBM' ↓m_kBM ↓m_tBM ↓m_kBM0 ↓m_tBM0 ↓m_kApp ↓m_rAppend ↓m_kSet ↓m_rSetL ↓m_kGSub3 ↓m_kGSub2 ↓m_gSub ↓m_kBody ↓m_tFor ↓m_kR1 ↓m_iRng1 ↓m_kISq'_l ↓m_kISq'_t ↓m_kISq ↓m_iSeq ↓m_tCallX ↓m_kTry ↓m_tTry ↓m_kRaise ↓m_tRaise ↓m_kSetE ↓m_kExcAs ↓m_tExcAs ↓m_del ↓m_kDel ↓m_gDel_2 ↓m_dictO_none ↓m_kE4 ↓m_kE3 ↓m_kE2 ↓m_kE1 ↓m_qIsE ↓m_tYes ↓m_tComp ↓m_kSetC ↓m_tSetC ↓m_qEq_int_int ↓m_qNe_int_int ↓m_qEq_str_str ↓m_kInts ↓m_kSl3 ↓m_kSl2 ↓m_kSl1 ↓m_tSl ↓m_tNoPart ↓m_kPart ↓m_tPart ↓m_kQT ↓m_kQL ↓m_qTup ↓m_qLst ↓m_kN ↓m_nList ↓m_kNC2 ↓m_kNC1 ↓m_nCat ↓m_kNS ↓m_nSl ↓m_nDNew ↓m_kSumI ↓m_qSum ↓m_kBls ↓m_kAllB ↓m_qAll ↓m_kCm2 ↓m_kCm_1 ↓m_rep_1 ↓m_kFldV ↓m_kFldO ↓m_kFld ↓m_nFld ↓m_kSetO ↓m_kSet1 ↓m_kSet0 ↓m_nSetF ↓m_kMade ↓m_kMake_1 ↓m_kMake_2 ↓m_nMake ↓m_kCT1 ↓m_nCatT ↓m_qInt_b ↓m_tV_0 ↓m_tV_1 ↓m_tV_2 ↓m_tV_3 ↓m_tV_4 ↓m_tV_5 ↓m_tV_6 ↓m_tV_7 ↓m_nI0 ↓m_nI ↓m_nU ↓m_kTestN ↓m_nTest ↓m_kAndN ↓m_nAndV ↓m_kOrN ↓m_nOrV ↓m_kNotN ↓m_nNotV ↓m_kRep ↓m_nRep ↓m_kInI ↓m_nIn ↓m_nSlT ↓m_nMk0 ↓m_nMethD ↓m_kDK0 ↓m_nDGetK ↓m_kCV1 ↓m_nCallV ↓m_gK22 ↓m_kMakeK2 ↓m_kMakeK1 ↓m_nMakeK ↓m_kDI1 ↓m_kDI0 ↓m_nDispI optK_some itemsAt lstAt tupAt seqO_lst seqO_tup lstO_lst tupO_tup bind_some' upd_same upd_upd tyO_lst tyO_tup tyO_dK tyN_non tyN_bl tyN_int tyN_str tyN_ref tyV_list isW_int' isW_bl' isW_str' isW_ref' cx_K ofString_inj refC_ref clsV_ref atI_0 atI_1 atI_2 atI_3 atI_4 CDiv_eq CMul_l CMul_r CPow_10 Option.isSome_some Option.isSome_none Option.map_some List.length_cons List.length_nil List.length_map List.map_cons List.map_nil and_true true_and and_self implies_true reduceCtorEq decide_true decide_false Bool.not_true Bool.not_false if_true if_false decide_eq_true_eq Bool.false_eq_true Bool.not_eq_true' decide_eq_false_iff_not Bool.and_true Bool.true_and Bool.and_self Bool.and_eq_true Int.reduceToNat Int.reducePow Int.reduceMul Int.reduceAdd Int.reduceSub Int.reduceNeg Int.reduceLT Int.reduceLE Int.reduceEq Int.reduceNe Int.reduceDiv Int.reduceMod Nat.reduceAdd Nat.reduceLeDiff Nat.reduceLT Nat.reduceMul Nat.reducePow gt_iff_lt ge_iff_le ne_eq false_implies true_implies eq_self String.reduceEq Int.cast_ofNat_Int not_true_eq_false not_false_eq_true false_and and_false List.cons_append List.nil_append List.append_nil lenLe".splitOn " ").toArray.mapM fun s => if s.startsWith "↓" then `(Lean.Parser.Tactic.simpLemma| ↓ $(Lean.mkIdent (s.replace "↓" "").toName):ident) else `(Lean.Parser.Tactic.simpLemma| $(Lean.mkIdent s.toName):ident)
  `(tactic| simp (config := { failIfUnchanged := false, maxDischargeDepth := 30, maxSteps := 10000000 }) only [$zs,*, $ys,*, *])
section
variable {P:Program}{w:World}{K:PySem.W.Frag}{mg:Str->Option Value}{base:Heap}{t:Adr}
def spDraw(K:PySem.W.Frag)(a:Addr)(ns:List Int):Sp:=fun vs H Q E=>∃ (k:Int) (m:Int),vs=[.ref a,.int k,.int m]∧(SqL K H a (ns.map V.int)∧ns.length≤63∧(0≤k∧k < 1000)∧0 < m∧∀ z:Int,0≤z->z < m->Q (.int z) H)
theorem c_spDraw(K:PySem.W.Frag)(a:Addr)(ns:List Int)(k:Int)(m:Int)(H:Hp)(Q:VK)(E:XK):spDraw K a ns [.ref a,.int k,.int m] H Q E=(SqL K H a (ns.map V.int)∧ns.length≤63∧(0≤k∧k < 1000)∧0 < m∧∀ z:Int,0≤z->z < m->Q (.int z) H):=spx2 (f:=fun (k:Int) (m:Int)=>[.ref a,.int k,.int m]) (fun _ _ _ _ h=>by cases h;exact⟨rfl,rfl⟩) k m
theorem l_spDraw(K:PySem.W.Frag)(a:Addr)(ns:List Int){vs:List V}{H:Hp}{Q:VK}{E:XK}(h:spDraw K a ns vs H Q E):vs.length=3:=spl2 h fun _ _=>rfl
theorem ok__law_draw(T:Tx K mg t)(a:Addr)(ns:List Int):FnOk P t.w K mg base CX0 1 t.a__law_draw t.d__law_draw ["_law_script", "_law_k", "_law_many"] (spDraw K a ns):=by
 refine T.F__law_draw.ok c__law_draw (fun vs H Q E h=>l_spDraw _ _ _ h) (fun cdv A outer s H vs Q E hr h=>?_)
 ·obtain⟨k,m,rfl,hS,hl,⟨hk0,hk1⟩,hm,kk⟩:=h
  have fin:∀ z:Int,Q (.int (z % m)) H:=fun z=>kk _ (Int.emod_nonneg _ (by omega)) (Int.emod_lt_of_pos _ hm)
  refine⟨_,(pss_cons (ps_if (pt_cmpR op_lt (pv 1) (pe_callB (id := "len") call_len_seq (by rfl) T.z_len (by decide +kernel) (pa_c (pv 0) pa_nil)) (nomark _))
   (pss_one (ps_ret (pe_op op_mod (pe_ix ix_list (pv 0) (pv 1) (fun _ _=>rfl)) (pv 2))))
   pss_nil)
  (pss_cons (ps_set (i:=3) c__law_draw.nd rfl (Or.inl rfl) (pe_op op_add (pe_op op_mul (pe_op op_mul (pv 1) (pv 1)) pe_int) pe_int))
  (pss_cons (ps_if (pt_cmpR op_gt (pe_callB (id := "len") call_len_seq (by rfl) T.z_len (by decide +kernel) (pa_c (pv 0) pa_nil)) pe_int (nomark _))
   (pss_cons (ps_set (i:=3) c__law_draw.nd rfl (Or.inl rfl) (pe_op op_mod (pe_ix ix_list (pv 0) (pe_op op_mod (pv 1) (pe_callB (id := "len") call_len_seq (by rfl) T.z_len (by decide +kernel) (pa_c (pv 0) pa_nil))) (fun _ _=>rfl)) pe_int))
   (pss_one (ps_set (i:=3) c__law_draw.nd rfl (Or.inl rfl) (pe_op op_add (pe_op op_mul (pv 3) (pe_op op_add pe_int (pe_op op_mul (pe_op op_mul pe_int (pv 1)) (pv 1)))) (pe_op op_mul (pv 1) pe_int)))))
   pss_nil)
  (pss_one (ps_ret (pe_op op_mod (pe_op op_mod (pe_op op_mul (pe_op op_mod (pv 3) pe_int) pe_int) pe_int) (pv 2))))))),?_⟩
  refine⟨_,rfl,_,rfl,a,_,rfl,.inl hS,_,_,rfl,rfl,_,rfl,?_⟩
  refine ite2 (fun h=>?_) (fun h=>?_)
  ·have h1:k < (ns.length:Int):=by simpa using h
   obtain⟨z,hz,_⟩:=atI_ints ns k hk0 h1
   exact⟨_,rfl,_,rfl,a,_,k,_,rfl,rfl,hS,hz,_,rfl,_,_,rfl,rfl,hm,fin _⟩
  ·refine⟨_,rfl,_,rfl,_,_,rfl,rfl,.inl ⟨by omega,by omega⟩,_,_,rfl,rfl,.inr ⟨by decide,by decide⟩,_,_,rfl,rfl,?_⟩
   refine⟨_,rfl,a,_,rfl,.inl hS,_,_,rfl,rfl,_,rfl,?_⟩
   refine ite2 (fun h2=>?_) (fun h2=>?_)
   ·have h3:0 < (ns.length:Int):=by simpa using h2
    have h4:(0:Int) < ((ns.map V.int).length:Int):=by simpa using h3
    obtain⟨z,hz,_⟩:=atI_ints ns (k % ((ns.map V.int).length:Int)) (Int.emod_nonneg _ (by omega)) (by have:=Int.emod_lt_of_pos k h4;simpa using this)
    refine⟨_,rfl,_,rfl,_,rfl,a,_,rfl,.inl hS,_,_,rfl,rfl,h4,a,_,_,_,rfl,rfl,hS,hz,_,_,rfl,rfl,(by first|decide|(show (0:Int) < _;decide)),?_⟩
    refine⟨_,rfl,_,rfl,_,_,rfl,rfl,.inl ⟨by decide,by decide⟩,_,rfl,_,_,rfl,rfl,.inr ⟨by omega,by omega⟩,_,_,rfl,rfl,_,_,rfl,rfl,?_,?_⟩
    ·refine .inl ⟨?_,?_⟩
     ·have:=Int.emod_nonneg z (show (999999937:Int) ≠ 0 by decide);omega
     ·have:=Int.emod_lt_of_pos z (show (0:Int) < 999999937 by decide);omega
    refine⟨_,rfl,_,_,rfl,rfl,.inr ⟨by decide,by decide⟩,_,_,rfl,rfl,?_⟩
    exact⟨_,rfl,_,_,rfl,rfl,(by first|decide|(show (0:Int) < _;decide)),_,_,rfl,rfl,.inr ⟨by decide,by decide⟩,_,_,rfl,rfl,(by first|decide|(show (0:Int) < _;decide)),_,rfl,_,_,rfl,rfl,hm,fin _⟩
   ·exact⟨_,rfl,_,_,rfl,rfl,(by first|decide|(show (0:Int) < _;decide)),_,_,rfl,rfl,.inr ⟨by decide,by decide⟩,_,_,rfl,rfl,(by first|decide|(show (0:Int) < _;decide)),_,rfl,_,_,rfl,rfl,hm,fin _⟩
def spWhole  : Sp:=fun vs H Q E=>∃ (x:V),vs=[x]∧(optK (isW H x) (kE4 H Q))
theorem c_spWhole  (x:V) (H:Hp) (Q:VK) (E:XK):spWhole  [x] H Q E=(optK (isW H x) (kE4 H Q)):=spx1 (f:=fun (x:V)=>[x]) (fun _ _ h=>by cases h;exact rfl) x
theorem l_spWhole  {vs:List V}{H:Hp}{Q:VK}{E:XK}(h:spWhole  vs H Q E):vs.length=1:=spl1 h fun _=>rfl
theorem ok_is_whole(T:Tx K mg t):FnOk P t.w K mg base CX0 1 t.a_is_whole t.d_is_whole ["thing"] spWhole:=by
 refine T.F_is_whole.ok c_is_whole (fun vs H Q E h=>l_spWhole h) (fun cdv A outer s H vs Q E hr h=>?_)
 ·obtain⟨x,rfl,h⟩:=h
  obtain⟨b,hb,k⟩:=optK_ex h
  clear h
  rw [m_kE4] at k
  refine⟨_,(@pss_one _ _ _ (@ps_ret _ _ _ _ (@pe_andN _ _ _ _ _ _ _ (@pe_callB _ _ _ _ _ _ _ ("isinstance") _ call_qIsi (by rfl) T.z_isinstance (by decide +kernel) (@pa_c _ _ _ _ _ (@pvN _ 0 _ _ (by rfl) (by trivial) (by decide) (by decide)) (@pa_c _ _ _ _ _ (@pe_bltn _ _ (.ty "int") (.type "int") _ (by rfl) T.z_int (by decide +kernel) rfl (by decide) (by decide)) (@pa_nil _) (by rfl)) (by rfl)) (by decide) (by decide) (by rfl) (by rfl)) (@pe_one _ _ _ _ _ (@pe_notN _ _ _ _ (@pe_callB _ _ _ _ _ _ _ ("isinstance") _ call_qIsi (by rfl) T.z_isinstance (by decide +kernel) (@pa_c _ _ _ _ _ (@pvN _ 0 _ _ (by rfl) (by trivial) (by decide) (by decide)) (@pa_c _ _ _ _ _ (@pe_bltn _ _ (.ty "bool") (.type "bool") _ (by rfl) T.z_bool (by decide +kernel) rfl (by decide) (by decide)) (@pa_nil _) (by rfl)) (by rfl)) (by decide) (by decide) (by rfl) (by rfl))))))),?_⟩
  rw [show start ["thing"] [x]=[some (x)] from rfl]
  cases x with
  | int i=>cases hb;simp! only [and_true]
  | bl i=>cases hb;simp! only [and_true]
  | non=>cases hb;simp! only [and_true]
  | str i=>cases hb;simp! only [and_true]
  | ref p=>
   obtain⟨rfl,o,ho,ht⟩:=isW_obj hb
   rcases ht with ht|ht|ht<;>simp! only [and_true]
  | _=>cases hb
def clM(t:Adr):Nat->Addr
 | 0=>t.a_Move
 | 1=>t.a_Slice
 | 2=>t.a_Pick
 | 3=>t.a_Turn
 | 4=>t.a_Fresh
 | 5=>t.a_Spread
 | 6=>t.a_Cut
 | 7=>t.a_Window
 | 8=>t.a_Diagonal
 | _=>t.a_Chain
def wdM:Nat->Str
 | 0 => "stay"
 | 1 => "slice"
 | 2 => "pick"
 | 3 => "turn"
 | 4 => "fresh"
 | 5 => "spread"
 | 6 => "cut"
 | 7 => "window"
 | 8 => "diagonal"
 | _ => "chain"
def cnM:Nat->Nat
 | 0=>0
 | 1=>4
 | 2=>2
 | 3=>0
 | 4=>1
 | 5=>2
 | 6=>2
 | 7=>2
 | 8=>2
 | _=>0
def flM:Nat->List V->List (Str × V)
 | 1,[a,b,c,d]=>[("axis",a),("start",b),("stop",c),("step",d)]
 | 2,[a,b]=>[("axis",a),("at",b)]
 | 4,[a]=>[("axis",a)]
 | 5,[a,b]=>[("axis",a),("size",b)]
 | 6,[a,b]=>[("axis",a),("inner",b)]
 | 7,[a,b]=>[("axis",a),("size",b)]
 | 8,[a,b]=>[("one",a),("other",b)]
 | _,_=>[]
def oV:Option Int->V
 | none=>.non
 | some i=>.int i
abbrev Tl:=Nat × List (Option Int)
structure TlOk(x:Tl):Prop where
 k:x.1 < 9
 n:x.1 ≠ 3->x.2.length=cnM x.1
 m:x.2.length≤9
 b:∀ o∈x.2,∀ i,o=some i->i.natAbs < 10 ^ 60
 s:x.1 ≠ 1->∀ o∈x.2,o ≠ none
 h:x.1=1->x.2.head? ≠ some none
def MvF(t:Adr)(F H:Hp)(v:Addr)(x:Tl):Prop:=(x.1 ≠ 3∧∃ dx,H v=some (.ins (clM t x.1) dx (flM x.1 (x.2.map oV))))∨(x.1=3∧∃ dx l,H v=some (.ins t.a_Turn dx [("order",.ref l)])∧F l=none∧H l=some (.lst (x.2.map oV)))
def TlF(F H:Hp)(r:V)(x:Tl):Prop:=∃ p,r=.ref p∧((x.1 ≠ 3∧H p=some (.tup (.str (wdM x.1)::x.2.map oV)))∨(x.1=3∧∃ l,H p=some (.tup [.str "turn",.ref l])∧F l=none∧H l=some (.lst (x.2.map oV))))
theorem MvF.ext{t:Adr}{F H H':Hp}{v:Addr}{x:Tl}(h:MvF t F H v x)(e:Ext H H'):MvF t F H' v x:=by
 rcases h with ⟨h1,dx,h2⟩|⟨h1,dx,l,h2,h3,h4⟩
 ·exact .inl ⟨h1,dx,e.at h2⟩
 ·exact .inr ⟨h1,dx,l,e.at h2,h3,e.at h4⟩
theorem MvF.less{t:Adr}{F F' H:Hp}{v:Addr}{x:Tl}(h:MvF t F H v x)(e:Ext F' F):MvF t F' H v x:=by
 rcases h with ⟨h1,dx,h2⟩|⟨h1,dx,l,h2,h3,h4⟩
 ·exact .inl ⟨h1,dx,h2⟩
 ·exact .inr ⟨h1,dx,l,h2,e.free h3,h4⟩
theorem TlF.ext{F H H':Hp}{r:V}{x:Tl}(h:TlF F H r x)(e:Ext H H'):TlF F H' r x:=by
 obtain⟨p,h0,⟨h1,h2⟩|⟨h1,l,h2,h3,h4⟩⟩:=h
 ·exact⟨p,h0,.inl ⟨h1,e.at h2⟩⟩
 ·exact⟨p,h0,.inr ⟨h1,l,e.at h2,h3,e.at h4⟩⟩
theorem TlF.less{F F' H:Hp}{r:V}{x:Tl}(h:TlF F H r x)(e:Ext F' F):TlF F' H r x:=by
 obtain⟨p,h0,⟨h1,h2⟩|⟨h1,l,h2,h3,h4⟩⟩:=h
 ·exact⟨p,h0,.inl ⟨h1,h2⟩⟩
 ·exact⟨p,h0,.inr ⟨h1,l,h2,e.free h3,h4⟩⟩
theorem putF_le(m:Str)(x:V):∀ fs:List (Str × V),(putF m x fs).length≤fs.length+1
 | []=>Nat.le_refl _
 | p::r=>by
  have:=putF_le m x r
  unfold putF
  split
  ·rw [List.length_cons,List.length_cons];omega
  ·rw [List.length_cons,List.length_cons];omega
abbrev B_spInSlice(t:Adr)(x:Addr)(a:V)(b:V)(c:V)(d:V)(H:Hp)(Q:VK)(E:XK):Prop:=∃ dx:Addr,H x=some (.ins t.a_Slice dx [])∧∀ H':Hp,(∀ H0,Ext H0 H->H0 x=none->Ext H0 H')->H' x=some (.ins t.a_Slice dx (flM 1 [a,b,c,d]))->Q .non H'
def spInSlice(t:Adr):Sp:=fun vs H Q E=>∃ (x:Addr) (a:V) (b:V) (c:V) (d:V),vs=[.ref x,a,b,c,d]∧(B_spInSlice t x a b c d H Q E)
theorem c_spInSlice(t:Adr)(x:Addr)(a:V)(b:V)(c:V)(d:V)(H:Hp)(Q:VK)(E:XK):spInSlice t [.ref x,a,b,c,d] H Q E=(B_spInSlice t x a b c d H Q E):=spx5 (f:=fun (x:Addr) (a:V) (b:V) (c:V) (d:V)=>[.ref x,a,b,c,d]) (fun _ _ _ _ _ _ _ _ _ _ h=>by cases h;exact⟨rfl,rfl,rfl,rfl,rfl⟩) x a b c d
theorem l_spInSlice(t:Adr){vs:List V}{H:Hp}{Q:VK}{E:XK}(h:spInSlice t vs H Q E):vs.length=5:=spl5 h fun _ _ _ _ _=>rfl
theorem ok_Slice___init__(T:Tx K mg t):FnOk P t.w K mg base CX0 1 t.a_Slice___init__ t.d_Slice___init__ ["self", "axis", "start", "stop", "step"] (spInSlice t):=by
 refine T.F_Slice___init__.ok c_Slice___init__ (fun vs H Q E h=>l_spInSlice _ h) (fun cdv A outer s H vs Q E hr h=>?_)
 ·obtain⟨x,a,b,c,d,rfl,dx,hx,k⟩:=h
  have c1:=T.cl_Slice
  have n0:=T.na_Slice_axis
  have n1:=T.na_Slice_start
  have n2:=T.na_Slice_stop
  have n3:=T.na_Slice_step
  refine⟨_,(@pss_cons _ _ _ _ _ (@ps_nSetF _ _ _ _ _ _ _ _ (@pvN _ 0 _ _ (by rfl) (by trivial) (by decide) (by decide)) (@pvN _ 1 _ _ (by rfl) (by trivial) (by decide) (by decide)) rfl) (@pss_cons _ _ _ _ _ (@ps_nSetF _ _ _ _ _ _ _ _ (@pvN _ 0 _ _ (by rfl) (by trivial) (by decide) (by decide)) (@pvN _ 2 _ _ (by rfl) (by trivial) (by decide) (by decide)) rfl) (@pss_cons _ _ _ _ _ (@ps_nSetF _ _ _ _ _ _ _ _ (@pvN _ 0 _ _ (by rfl) (by trivial) (by decide) (by decide)) (@pvN _ 3 _ _ (by rfl) (by trivial) (by decide) (by decide)) rfl) (@pss_one _ _ _ (@ps_nSetF _ _ _ _ _ _ _ _ (@pvN _ 0 _ _ (by rfl) (by trivial) (by decide) (by decide)) (@pvN _ 4 _ _ (by rfl) (by trivial) (by decide) (by decide)) rfl))))),?_⟩
  rw [show start ["self", "axis", "start", "stop", "step"] [.ref x,a,b,c,d]=[some (.ref x),some (a),some (b),some (c),some (d)] from rfl]
  replace k:=fun (_:Unit)=>k
  simp! only [and_true]
  have l1:=putF_le "axis" a []
  have l2:=putF_le "start" b (putF "axis" a [])
  have l3:=putF_le "stop" c (putF "start" b (putF "axis" a []))
  have l0:([]:List (Str × V)).length=0:=rfl
  refine⟨(by show (_:Nat) < 1000;omega),(by show (_:Nat) < 1000;omega),(by show (_:Nat) < 1000;omega),?_⟩
  exact k () _ (fun H0 q0 q1=>q0.put q1) upd_same
abbrev B_spInPick(t:Adr)(x:Addr)(a:V)(b:V)(H:Hp)(Q:VK)(E:XK):Prop:=∃ dx:Addr,H x=some (.ins t.a_Pick dx [])∧∀ H':Hp,(∀ H0,Ext H0 H->H0 x=none->Ext H0 H')->H' x=some (.ins t.a_Pick dx (flM 2 [a,b]))->Q .non H'
def spInPick(t:Adr):Sp:=fun vs H Q E=>∃ (x:Addr) (a:V) (b:V),vs=[.ref x,a,b]∧(B_spInPick t x a b H Q E)
theorem c_spInPick(t:Adr)(x:Addr)(a:V)(b:V)(H:Hp)(Q:VK)(E:XK):spInPick t [.ref x,a,b] H Q E=(B_spInPick t x a b H Q E):=spx3 (f:=fun (x:Addr) (a:V) (b:V)=>[.ref x,a,b]) (fun _ _ _ _ _ _ h=>by cases h;exact⟨rfl,rfl,rfl⟩) x a b
theorem l_spInPick(t:Adr){vs:List V}{H:Hp}{Q:VK}{E:XK}(h:spInPick t vs H Q E):vs.length=3:=spl3 h fun _ _ _=>rfl
theorem ok_Pick___init__(T:Tx K mg t):FnOk P t.w K mg base CX0 1 t.a_Pick___init__ t.d_Pick___init__ ["self", "axis", "at"] (spInPick t):=by
 refine T.F_Pick___init__.ok c_Pick___init__ (fun vs H Q E h=>l_spInPick _ h) (fun cdv A outer s H vs Q E hr h=>?_)
 ·obtain⟨x,a,b,rfl,dx,hx,k⟩:=h
  have c1:=T.cl_Pick
  have n0:=T.na_Pick_axis
  have n1:=T.na_Pick_at
  refine⟨_,(@pss_cons _ _ _ _ _ (@ps_nSetF _ _ _ _ _ _ _ _ (@pvN _ 0 _ _ (by rfl) (by trivial) (by decide) (by decide)) (@pvN _ 1 _ _ (by rfl) (by trivial) (by decide) (by decide)) rfl) (@pss_one _ _ _ (@ps_nSetF _ _ _ _ _ _ _ _ (@pvN _ 0 _ _ (by rfl) (by trivial) (by decide) (by decide)) (@pvN _ 2 _ _ (by rfl) (by trivial) (by decide) (by decide)) rfl))),?_⟩
  rw [show start ["self", "axis", "at"] [.ref x,a,b]=[some (.ref x),some (a),some (b)] from rfl]
  replace k:=fun (_:Unit)=>k
  simp! only [and_true]
  have l1:=putF_le "axis" a []
  have l0:([]:List (Str × V)).length=0:=rfl
  refine⟨(by show (_:Nat) < 1000;omega),?_⟩
  exact k () _ (fun H0 q0 q1=>q0.put q1) upd_same
abbrev B_spInFresh(t:Adr)(x:Addr)(a:V)(H:Hp)(Q:VK)(E:XK):Prop:=∃ dx:Addr,H x=some (.ins t.a_Fresh dx [])∧∀ H':Hp,(∀ H0,Ext H0 H->H0 x=none->Ext H0 H')->H' x=some (.ins t.a_Fresh dx (flM 4 [a]))->Q .non H'
def spInFresh(t:Adr):Sp:=fun vs H Q E=>∃ (x:Addr) (a:V),vs=[.ref x,a]∧(B_spInFresh t x a H Q E)
theorem c_spInFresh(t:Adr)(x:Addr)(a:V)(H:Hp)(Q:VK)(E:XK):spInFresh t [.ref x,a] H Q E=(B_spInFresh t x a H Q E):=spx2 (f:=fun (x:Addr) (a:V)=>[.ref x,a]) (fun _ _ _ _ h=>by cases h;exact⟨rfl,rfl⟩) x a
theorem l_spInFresh(t:Adr){vs:List V}{H:Hp}{Q:VK}{E:XK}(h:spInFresh t vs H Q E):vs.length=2:=spl2 h fun _ _=>rfl
theorem ok_Fresh___init__(T:Tx K mg t):FnOk P t.w K mg base CX0 1 t.a_Fresh___init__ t.d_Fresh___init__ ["self", "axis"] (spInFresh t):=by
 refine T.F_Fresh___init__.ok c_Fresh___init__ (fun vs H Q E h=>l_spInFresh _ h) (fun cdv A outer s H vs Q E hr h=>?_)
 ·obtain⟨x,a,rfl,dx,hx,k⟩:=h
  have c1:=T.cl_Fresh
  have n0:=T.na_Fresh_axis
  refine⟨_,(@pss_one _ _ _ (@ps_nSetF _ _ _ _ _ _ _ _ (@pvN _ 0 _ _ (by rfl) (by trivial) (by decide) (by decide)) (@pvN _ 1 _ _ (by rfl) (by trivial) (by decide) (by decide)) rfl)),?_⟩
  rw [show start ["self", "axis"] [.ref x,a]=[some (.ref x),some (a)] from rfl]
  replace k:=fun (_:Unit)=>k
  simp! only [and_true]
  exact k () _ (fun H0 q0 q1=>q0.put q1) upd_same
abbrev B_spInSpread(t:Adr)(x:Addr)(a:V)(b:V)(H:Hp)(Q:VK)(E:XK):Prop:=∃ dx:Addr,H x=some (.ins t.a_Spread dx [])∧∀ H':Hp,(∀ H0,Ext H0 H->H0 x=none->Ext H0 H')->H' x=some (.ins t.a_Spread dx (flM 5 [a,b]))->Q .non H'
def spInSpread(t:Adr):Sp:=fun vs H Q E=>∃ (x:Addr) (a:V) (b:V),vs=[.ref x,a,b]∧(B_spInSpread t x a b H Q E)
theorem c_spInSpread(t:Adr)(x:Addr)(a:V)(b:V)(H:Hp)(Q:VK)(E:XK):spInSpread t [.ref x,a,b] H Q E=(B_spInSpread t x a b H Q E):=spx3 (f:=fun (x:Addr) (a:V) (b:V)=>[.ref x,a,b]) (fun _ _ _ _ _ _ h=>by cases h;exact⟨rfl,rfl,rfl⟩) x a b
theorem l_spInSpread(t:Adr){vs:List V}{H:Hp}{Q:VK}{E:XK}(h:spInSpread t vs H Q E):vs.length=3:=spl3 h fun _ _ _=>rfl
theorem ok_Spread___init__(T:Tx K mg t):FnOk P t.w K mg base CX0 1 t.a_Spread___init__ t.d_Spread___init__ ["self", "axis", "size"] (spInSpread t):=by
 refine T.F_Spread___init__.ok c_Spread___init__ (fun vs H Q E h=>l_spInSpread _ h) (fun cdv A outer s H vs Q E hr h=>?_)
 ·obtain⟨x,a,b,rfl,dx,hx,k⟩:=h
  have c1:=T.cl_Spread
  have n0:=T.na_Spread_axis
  have n1:=T.na_Spread_size
  refine⟨_,(@pss_cons _ _ _ _ _ (@ps_nSetF _ _ _ _ _ _ _ _ (@pvN _ 0 _ _ (by rfl) (by trivial) (by decide) (by decide)) (@pvN _ 1 _ _ (by rfl) (by trivial) (by decide) (by decide)) rfl) (@pss_one _ _ _ (@ps_nSetF _ _ _ _ _ _ _ _ (@pvN _ 0 _ _ (by rfl) (by trivial) (by decide) (by decide)) (@pvN _ 2 _ _ (by rfl) (by trivial) (by decide) (by decide)) rfl))),?_⟩
  rw [show start ["self", "axis", "size"] [.ref x,a,b]=[some (.ref x),some (a),some (b)] from rfl]
  replace k:=fun (_:Unit)=>k
  simp! only [and_true]
  have l1:=putF_le "axis" a []
  have l0:([]:List (Str × V)).length=0:=rfl
  refine⟨(by show (_:Nat) < 1000;omega),?_⟩
  exact k () _ (fun H0 q0 q1=>q0.put q1) upd_same
abbrev B_spInCut(t:Adr)(x:Addr)(a:V)(b:V)(H:Hp)(Q:VK)(E:XK):Prop:=∃ dx:Addr,H x=some (.ins t.a_Cut dx [])∧∀ H':Hp,(∀ H0,Ext H0 H->H0 x=none->Ext H0 H')->H' x=some (.ins t.a_Cut dx (flM 6 [a,b]))->Q .non H'
def spInCut(t:Adr):Sp:=fun vs H Q E=>∃ (x:Addr) (a:V) (b:V),vs=[.ref x,a,b]∧(B_spInCut t x a b H Q E)
theorem c_spInCut(t:Adr)(x:Addr)(a:V)(b:V)(H:Hp)(Q:VK)(E:XK):spInCut t [.ref x,a,b] H Q E=(B_spInCut t x a b H Q E):=spx3 (f:=fun (x:Addr) (a:V) (b:V)=>[.ref x,a,b]) (fun _ _ _ _ _ _ h=>by cases h;exact⟨rfl,rfl,rfl⟩) x a b
theorem l_spInCut(t:Adr){vs:List V}{H:Hp}{Q:VK}{E:XK}(h:spInCut t vs H Q E):vs.length=3:=spl3 h fun _ _ _=>rfl
theorem ok_Cut___init__(T:Tx K mg t):FnOk P t.w K mg base CX0 1 t.a_Cut___init__ t.d_Cut___init__ ["self", "axis", "inner"] (spInCut t):=by
 refine T.F_Cut___init__.ok c_Cut___init__ (fun vs H Q E h=>l_spInCut _ h) (fun cdv A outer s H vs Q E hr h=>?_)
 ·obtain⟨x,a,b,rfl,dx,hx,k⟩:=h
  have c1:=T.cl_Cut
  have n0:=T.na_Cut_axis
  have n1:=T.na_Cut_inner
  refine⟨_,(@pss_cons _ _ _ _ _ (@ps_nSetF _ _ _ _ _ _ _ _ (@pvN _ 0 _ _ (by rfl) (by trivial) (by decide) (by decide)) (@pvN _ 1 _ _ (by rfl) (by trivial) (by decide) (by decide)) rfl) (@pss_one _ _ _ (@ps_nSetF _ _ _ _ _ _ _ _ (@pvN _ 0 _ _ (by rfl) (by trivial) (by decide) (by decide)) (@pvN _ 2 _ _ (by rfl) (by trivial) (by decide) (by decide)) rfl))),?_⟩
  rw [show start ["self", "axis", "inner"] [.ref x,a,b]=[some (.ref x),some (a),some (b)] from rfl]
  replace k:=fun (_:Unit)=>k
  simp! only [and_true]
  have l1:=putF_le "axis" a []
  have l0:([]:List (Str × V)).length=0:=rfl
  refine⟨(by show (_:Nat) < 1000;omega),?_⟩
  exact k () _ (fun H0 q0 q1=>q0.put q1) upd_same
abbrev B_spInWindow(t:Adr)(x:Addr)(a:V)(b:V)(H:Hp)(Q:VK)(E:XK):Prop:=∃ dx:Addr,H x=some (.ins t.a_Window dx [])∧∀ H':Hp,(∀ H0,Ext H0 H->H0 x=none->Ext H0 H')->H' x=some (.ins t.a_Window dx (flM 7 [a,b]))->Q .non H'
def spInWindow(t:Adr):Sp:=fun vs H Q E=>∃ (x:Addr) (a:V) (b:V),vs=[.ref x,a,b]∧(B_spInWindow t x a b H Q E)
theorem c_spInWindow(t:Adr)(x:Addr)(a:V)(b:V)(H:Hp)(Q:VK)(E:XK):spInWindow t [.ref x,a,b] H Q E=(B_spInWindow t x a b H Q E):=spx3 (f:=fun (x:Addr) (a:V) (b:V)=>[.ref x,a,b]) (fun _ _ _ _ _ _ h=>by cases h;exact⟨rfl,rfl,rfl⟩) x a b
theorem l_spInWindow(t:Adr){vs:List V}{H:Hp}{Q:VK}{E:XK}(h:spInWindow t vs H Q E):vs.length=3:=spl3 h fun _ _ _=>rfl
theorem ok_Window___init__(T:Tx K mg t):FnOk P t.w K mg base CX0 1 t.a_Window___init__ t.d_Window___init__ ["self", "axis", "size"] (spInWindow t):=by
 refine T.F_Window___init__.ok c_Window___init__ (fun vs H Q E h=>l_spInWindow _ h) (fun cdv A outer s H vs Q E hr h=>?_)
 ·obtain⟨x,a,b,rfl,dx,hx,k⟩:=h
  have c1:=T.cl_Window
  have n0:=T.na_Window_axis
  have n1:=T.na_Window_size
  refine⟨_,(@pss_cons _ _ _ _ _ (@ps_nSetF _ _ _ _ _ _ _ _ (@pvN _ 0 _ _ (by rfl) (by trivial) (by decide) (by decide)) (@pvN _ 1 _ _ (by rfl) (by trivial) (by decide) (by decide)) rfl) (@pss_one _ _ _ (@ps_nSetF _ _ _ _ _ _ _ _ (@pvN _ 0 _ _ (by rfl) (by trivial) (by decide) (by decide)) (@pvN _ 2 _ _ (by rfl) (by trivial) (by decide) (by decide)) rfl))),?_⟩
  rw [show start ["self", "axis", "size"] [.ref x,a,b]=[some (.ref x),some (a),some (b)] from rfl]
  replace k:=fun (_:Unit)=>k
  simp! only [and_true]
  have l1:=putF_le "axis" a []
  have l0:([]:List (Str × V)).length=0:=rfl
  refine⟨(by show (_:Nat) < 1000;omega),?_⟩
  exact k () _ (fun H0 q0 q1=>q0.put q1) upd_same
abbrev B_spInDiagonal(t:Adr)(x:Addr)(a:V)(b:V)(H:Hp)(Q:VK)(E:XK):Prop:=∃ dx:Addr,H x=some (.ins t.a_Diagonal dx [])∧∀ H':Hp,(∀ H0,Ext H0 H->H0 x=none->Ext H0 H')->H' x=some (.ins t.a_Diagonal dx (flM 8 [a,b]))->Q .non H'
def spInDiagonal(t:Adr):Sp:=fun vs H Q E=>∃ (x:Addr) (a:V) (b:V),vs=[.ref x,a,b]∧(B_spInDiagonal t x a b H Q E)
theorem c_spInDiagonal(t:Adr)(x:Addr)(a:V)(b:V)(H:Hp)(Q:VK)(E:XK):spInDiagonal t [.ref x,a,b] H Q E=(B_spInDiagonal t x a b H Q E):=spx3 (f:=fun (x:Addr) (a:V) (b:V)=>[.ref x,a,b]) (fun _ _ _ _ _ _ h=>by cases h;exact⟨rfl,rfl,rfl⟩) x a b
theorem l_spInDiagonal(t:Adr){vs:List V}{H:Hp}{Q:VK}{E:XK}(h:spInDiagonal t vs H Q E):vs.length=3:=spl3 h fun _ _ _=>rfl
theorem ok_Diagonal___init__(T:Tx K mg t):FnOk P t.w K mg base CX0 1 t.a_Diagonal___init__ t.d_Diagonal___init__ ["self", "one", "other"] (spInDiagonal t):=by
 refine T.F_Diagonal___init__.ok c_Diagonal___init__ (fun vs H Q E h=>l_spInDiagonal _ h) (fun cdv A outer s H vs Q E hr h=>?_)
 ·obtain⟨x,a,b,rfl,dx,hx,k⟩:=h
  have c1:=T.cl_Diagonal
  have n0:=T.na_Diagonal_one
  have n1:=T.na_Diagonal_other
  refine⟨_,(@pss_cons _ _ _ _ _ (@ps_nSetF _ _ _ _ _ _ _ _ (@pvN _ 0 _ _ (by rfl) (by trivial) (by decide) (by decide)) (@pvN _ 1 _ _ (by rfl) (by trivial) (by decide) (by decide)) rfl) (@pss_one _ _ _ (@ps_nSetF _ _ _ _ _ _ _ _ (@pvN _ 0 _ _ (by rfl) (by trivial) (by decide) (by decide)) (@pvN _ 2 _ _ (by rfl) (by trivial) (by decide) (by decide)) rfl))),?_⟩
  rw [show start ["self", "one", "other"] [.ref x,a,b]=[some (.ref x),some (a),some (b)] from rfl]
  replace k:=fun (_:Unit)=>k
  simp! only [and_true]
  have l1:=putF_le "one" a []
  have l0:([]:List (Str × V)).length=0:=rfl
  refine⟨(by show (_:Nat) < 1000;omega),?_⟩
  exact k () _ (fun H0 q0 q1=>q0.put q1) upd_same
abbrev B_spInTurn(t:Adr)(x:Addr)(l:Addr)(H:Hp)(Q:VK)(E:XK):Prop:=∃ (dx:Addr) (ys:List V),H x=some (.ins t.a_Turn dx [])∧H l=some (.lst ys)∧ys.length≤5000∧∀ (H':Hp) (D:Addr),(∀ H0,Ext H0 H->H0 x=none->Ext H0 H')->H D=none->H' x=some (.ins t.a_Turn dx [("order",.ref D)])->H' D=some (.lst ys)->Q .non H'
def spInTurn(t:Adr):Sp:=fun vs H Q E=>∃ (x:Addr) (l:Addr),vs=[.ref x,.ref l]∧(B_spInTurn t x l H Q E)
theorem c_spInTurn(t:Adr)(x:Addr)(l:Addr)(H:Hp)(Q:VK)(E:XK):spInTurn t [.ref x,.ref l] H Q E=(B_spInTurn t x l H Q E):=spx2 (f:=fun (x:Addr) (l:Addr)=>[.ref x,.ref l]) (fun _ _ _ _ h=>by cases h;exact⟨rfl,rfl⟩) x l
theorem l_spInTurn(t:Adr){vs:List V}{H:Hp}{Q:VK}{E:XK}(h:spInTurn t vs H Q E):vs.length=2:=spl2 h fun _ _=>rfl
theorem ok_Turn___init__(T:Tx K mg t):FnOk P t.w K mg base CX0 1 t.a_Turn___init__ t.d_Turn___init__ ["self", "order"] (spInTurn t):=by
 refine T.F_Turn___init__.ok c_Turn___init__ (fun vs H Q E h=>l_spInTurn _ h) (fun cdv A outer s H vs Q E hr h=>?_)
 ·obtain⟨x,l,rfl,dx,ys,hx,hl,h5,k⟩:=h
  have c1:=T.cl_Turn
  have n1:=T.na_Turn_order
  refine⟨_,(@pss_one _ _ _ (@ps_nSetF _ _ _ _ _ _ _ _ (@pvN _ 0 _ _ (by rfl) (by trivial) (by decide) (by decide)) (@pe_callTy _ _ _ _ _ _ _ _ _ call_nList (by rfl) T.z_list (by decide +kernel) (@pa_c _ _ _ _ _ (@pvN _ 1 _ _ (by rfl) (by trivial) (by decide) (by decide)) (@pa_nil _) (by rfl)) (by decide) (by decide) (by rfl) (by rfl)) rfl)),?_⟩
  rw [show start ["self", "order"] [.ref x,.ref l]=[some (.ref x),some (.ref l)] from rfl]
  replace k:=fun (_:Unit)=>k
  simp! only [and_true]
  intro D H1 hD e1 h1
  have hx1:=e1.at hx
  have hDx:D ≠ x:=fun z=>by rw [z,hx] at hD;cases hD
  simp! only [and_true]
  exact k () _ D (fun H0 q0 q1=>(q0.trans e1).put q1) hD upd_same (by rw [upd_ne hDx];exact h1)
abbrev B_spInChain(t:Adr)(x:Addr)(l:Addr)(H:Hp)(Q:VK)(E:XK):Prop:=∃ (dx:Addr) (ys:List V),H x=some (.ins t.a_Chain dx [])∧H l=some (.lst ys)∧ys.length≤5000∧∀ (H':Hp) (D:Addr),(∀ H0,Ext H0 H->H0 x=none->Ext H0 H')->H D=none->H' x=some (.ins t.a_Chain dx [("moves",.ref D)])->H' D=some (.lst ys)->Q .non H'
def spInChain(t:Adr):Sp:=fun vs H Q E=>∃ (x:Addr) (l:Addr),vs=[.ref x,.ref l]∧(B_spInChain t x l H Q E)
theorem c_spInChain(t:Adr)(x:Addr)(l:Addr)(H:Hp)(Q:VK)(E:XK):spInChain t [.ref x,.ref l] H Q E=(B_spInChain t x l H Q E):=spx2 (f:=fun (x:Addr) (l:Addr)=>[.ref x,.ref l]) (fun _ _ _ _ h=>by cases h;exact⟨rfl,rfl⟩) x l
theorem l_spInChain(t:Adr){vs:List V}{H:Hp}{Q:VK}{E:XK}(h:spInChain t vs H Q E):vs.length=2:=spl2 h fun _ _=>rfl
theorem ok_Chain___init__(T:Tx K mg t):FnOk P t.w K mg base CX0 1 t.a_Chain___init__ t.d_Chain___init__ ["self", "moves"] (spInChain t):=by
 refine T.F_Chain___init__.ok c_Chain___init__ (fun vs H Q E h=>l_spInChain _ h) (fun cdv A outer s H vs Q E hr h=>?_)
 ·obtain⟨x,l,rfl,dx,ys,hx,hl,h5,k⟩:=h
  have c1:=T.cl_Chain
  have n1:=T.na_Chain_moves
  refine⟨_,(@pss_one _ _ _ (@ps_nSetF _ _ _ _ _ _ _ _ (@pvN _ 0 _ _ (by rfl) (by trivial) (by decide) (by decide)) (@pe_callTy _ _ _ _ _ _ _ _ _ call_nList (by rfl) T.z_list (by decide +kernel) (@pa_c _ _ _ _ _ (@pvN _ 1 _ _ (by rfl) (by trivial) (by decide) (by decide)) (@pa_nil _) (by rfl)) (by decide) (by decide) (by rfl) (by rfl)) rfl)),?_⟩
  rw [show start ["self", "moves"] [.ref x,.ref l]=[some (.ref x),some (.ref l)] from rfl]
  replace k:=fun (_:Unit)=>k
  simp! only [and_true]
  intro D H1 hD e1 h1
  have hx1:=e1.at hx
  have hDx:D ≠ x:=fun z=>by rw [z,hx] at hD;cases hD
  simp! only [and_true]
  exact k () _ D (fun H0 q0 q1=>(q0.trans e1).put q1) hD upd_same (by rw [upd_ne hDx];exact h1)
abbrev B_spTld(t:Adr)(i:Nat)(v:Addr)(H:Hp)(Q:VK)(E:XK):Prop:=∃ (dx:Addr) (ys:List V),H v=some (.ins (clM t i) dx (flM i ys))∧ys.length=cnM i∧∀ (r:Addr) (H':Hp),Ext H H'->H' r=some (.tup (.str (wdM i)::ys))->Q (.ref r) H'
def spTld(t:Adr)(i:Nat):Sp:=fun vs H Q E=>∃ (v:Addr),vs=[.ref v]∧(B_spTld t i v H Q E)
theorem l_spTld(t:Adr)(i:Nat){vs:List V}{H:Hp}{Q:VK}{E:XK}(h:spTld t i vs H Q E):vs.length=1:=spl1 h fun _=>rfl
theorem ok_Move_told(T:Tx K mg t):FnOk P t.w K mg base CX0 1 t.a_Move_told t.d_Move_told ["self"] (spTld t 0):=by
 refine T.F_Move_told.ok c_Move_told (fun vs H Q E h=>l_spTld _ _ h) (fun cdv A outer s H vs Q E hr h=>?_)
 ·obtain⟨v,rfl,dx,ys,hv,hl,k⟩:=h
  obtain rfl:ys=[]:=by
   match ys,hl with
   | [],_=>exact rfl
  have hv':H v=some (.ins t.a_Move dx []):=hv
  clear hv hl
  have c9:=T.cl_Move
  refine⟨_,(@pss_one _ _ _ (@ps_ret _ _ _ _ (@pe_qTup _ _ _ _ _ (@pa_c _ _ _ _ _ (@pe_str _ _ _ _) (@pa_nil _) (by rfl))))),?_⟩
  rw [show start ["self"] [.ref v]=[some (.ref v)] from rfl]
  replace k:=fun (_:Unit)=>k
  simp! only [and_true]
  intro r H1 _ e1 h1
  exact k () r H1 e1 h1
theorem ok_Slice_told(T:Tx K mg t):FnOk P t.w K mg base CX0 1 t.a_Slice_told t.d_Slice_told ["self"] (spTld t 1):=by
 refine T.F_Slice_told.ok c_Slice_told (fun vs H Q E h=>l_spTld _ _ h) (fun cdv A outer s H vs Q E hr h=>?_)
 ·obtain⟨v,rfl,dx,ys,hv,hl,k⟩:=h
  obtain⟨a,b,c,d,rfl⟩:∃ a b c d,ys=[a,b,c,d]:=by
   match ys,hl with
   | [a,b,c,d],_=>exact⟨a,b,c,d,rfl⟩
  have hv':H v=some (.ins t.a_Slice dx [("axis",a),("start",b),("stop",c),("step",d)]):=hv
  clear hv hl
  have c9:=T.cl_Slice
  have n0:=T.na_Slice_axis
  have l0:([("axis",a),("start",b),("stop",c),("step",d)]:List (Str × V)).lookup (Str.ofString "axis")=some a:=by rfl
  have n1:=T.na_Slice_start
  have l1:([("axis",a),("start",b),("stop",c),("step",d)]:List (Str × V)).lookup (Str.ofString "start")=some b:=by rfl
  have n2:=T.na_Slice_stop
  have l2:([("axis",a),("start",b),("stop",c),("step",d)]:List (Str × V)).lookup (Str.ofString "stop")=some c:=by rfl
  have n3:=T.na_Slice_step
  have l3:([("axis",a),("start",b),("stop",c),("step",d)]:List (Str × V)).lookup (Str.ofString "step")=some d:=by rfl
  refine⟨_,(@pss_one _ _ _ (@ps_ret _ _ _ _ (@pe_qTup _ _ _ _ _ (@pa_c _ _ _ _ _ (@pe_str _ _ _ _) (@pa_c _ _ _ _ _ (@pe_nFld _ _ _ _ _ (@pvN _ 0 _ _ (by rfl) (by trivial) (by decide) (by decide)) rfl) (@pa_c _ _ _ _ _ (@pe_nFld _ _ _ _ _ (@pvN _ 0 _ _ (by rfl) (by trivial) (by decide) (by decide)) rfl) (@pa_c _ _ _ _ _ (@pe_nFld _ _ _ _ _ (@pvN _ 0 _ _ (by rfl) (by trivial) (by decide) (by decide)) rfl) (@pa_c _ _ _ _ _ (@pe_nFld _ _ _ _ _ (@pvN _ 0 _ _ (by rfl) (by trivial) (by decide) (by decide)) rfl) (@pa_nil _) (by rfl)) (by rfl)) (by rfl)) (by rfl)) (by rfl))))),?_⟩
  rw [show start ["self"] [.ref v]=[some (.ref v)] from rfl]
  replace k:=fun (_:Unit)=>k
  simp! only [and_true]
  intro r H1 _ e1 h1
  exact k () r H1 e1 h1
theorem ok_Pick_told(T:Tx K mg t):FnOk P t.w K mg base CX0 1 t.a_Pick_told t.d_Pick_told ["self"] (spTld t 2):=by
 refine T.F_Pick_told.ok c_Pick_told (fun vs H Q E h=>l_spTld _ _ h) (fun cdv A outer s H vs Q E hr h=>?_)
 ·obtain⟨v,rfl,dx,ys,hv,hl,k⟩:=h
  obtain⟨a,b,rfl⟩:∃ a b,ys=[a,b]:=by
   match ys,hl with
   | [a,b],_=>exact⟨a,b,rfl⟩
  have hv':H v=some (.ins t.a_Pick dx [("axis",a),("at",b)]):=hv
  clear hv hl
  have c9:=T.cl_Pick
  have n0:=T.na_Pick_axis
  have l0:([("axis",a),("at",b)]:List (Str × V)).lookup (Str.ofString "axis")=some a:=by rfl
  have n1:=T.na_Pick_at
  have l1:([("axis",a),("at",b)]:List (Str × V)).lookup (Str.ofString "at")=some b:=by rfl
  refine⟨_,(@pss_one _ _ _ (@ps_ret _ _ _ _ (@pe_qTup _ _ _ _ _ (@pa_c _ _ _ _ _ (@pe_str _ _ _ _) (@pa_c _ _ _ _ _ (@pe_nFld _ _ _ _ _ (@pvN _ 0 _ _ (by rfl) (by trivial) (by decide) (by decide)) rfl) (@pa_c _ _ _ _ _ (@pe_nFld _ _ _ _ _ (@pvN _ 0 _ _ (by rfl) (by trivial) (by decide) (by decide)) rfl) (@pa_nil _) (by rfl)) (by rfl)) (by rfl))))),?_⟩
  rw [show start ["self"] [.ref v]=[some (.ref v)] from rfl]
  replace k:=fun (_:Unit)=>k
  simp! only [and_true]
  intro r H1 _ e1 h1
  exact k () r H1 e1 h1
theorem ok_Fresh_told(T:Tx K mg t):FnOk P t.w K mg base CX0 1 t.a_Fresh_told t.d_Fresh_told ["self"] (spTld t 4):=by
 refine T.F_Fresh_told.ok c_Fresh_told (fun vs H Q E h=>l_spTld _ _ h) (fun cdv A outer s H vs Q E hr h=>?_)
 ·obtain⟨v,rfl,dx,ys,hv,hl,k⟩:=h
  obtain⟨a,rfl⟩:∃ a,ys=[a]:=by
   match ys,hl with
   | [a],_=>exact⟨a,rfl⟩
  have hv':H v=some (.ins t.a_Fresh dx [("axis",a)]):=hv
  clear hv hl
  have c9:=T.cl_Fresh
  have n0:=T.na_Fresh_axis
  have l0:([("axis",a)]:List (Str × V)).lookup (Str.ofString "axis")=some a:=by rfl
  refine⟨_,(@pss_one _ _ _ (@ps_ret _ _ _ _ (@pe_qTup _ _ _ _ _ (@pa_c _ _ _ _ _ (@pe_str _ _ _ _) (@pa_c _ _ _ _ _ (@pe_nFld _ _ _ _ _ (@pvN _ 0 _ _ (by rfl) (by trivial) (by decide) (by decide)) rfl) (@pa_nil _) (by rfl)) (by rfl))))),?_⟩
  rw [show start ["self"] [.ref v]=[some (.ref v)] from rfl]
  replace k:=fun (_:Unit)=>k
  simp! only [and_true]
  intro r H1 _ e1 h1
  exact k () r H1 e1 h1
theorem ok_Spread_told(T:Tx K mg t):FnOk P t.w K mg base CX0 1 t.a_Spread_told t.d_Spread_told ["self"] (spTld t 5):=by
 refine T.F_Spread_told.ok c_Spread_told (fun vs H Q E h=>l_spTld _ _ h) (fun cdv A outer s H vs Q E hr h=>?_)
 ·obtain⟨v,rfl,dx,ys,hv,hl,k⟩:=h
  obtain⟨a,b,rfl⟩:∃ a b,ys=[a,b]:=by
   match ys,hl with
   | [a,b],_=>exact⟨a,b,rfl⟩
  have hv':H v=some (.ins t.a_Spread dx [("axis",a),("size",b)]):=hv
  clear hv hl
  have c9:=T.cl_Spread
  have n0:=T.na_Spread_axis
  have l0:([("axis",a),("size",b)]:List (Str × V)).lookup (Str.ofString "axis")=some a:=by rfl
  have n1:=T.na_Spread_size
  have l1:([("axis",a),("size",b)]:List (Str × V)).lookup (Str.ofString "size")=some b:=by rfl
  refine⟨_,(@pss_one _ _ _ (@ps_ret _ _ _ _ (@pe_qTup _ _ _ _ _ (@pa_c _ _ _ _ _ (@pe_str _ _ _ _) (@pa_c _ _ _ _ _ (@pe_nFld _ _ _ _ _ (@pvN _ 0 _ _ (by rfl) (by trivial) (by decide) (by decide)) rfl) (@pa_c _ _ _ _ _ (@pe_nFld _ _ _ _ _ (@pvN _ 0 _ _ (by rfl) (by trivial) (by decide) (by decide)) rfl) (@pa_nil _) (by rfl)) (by rfl)) (by rfl))))),?_⟩
  rw [show start ["self"] [.ref v]=[some (.ref v)] from rfl]
  replace k:=fun (_:Unit)=>k
  simp! only [and_true]
  intro r H1 _ e1 h1
  exact k () r H1 e1 h1
theorem ok_Cut_told(T:Tx K mg t):FnOk P t.w K mg base CX0 1 t.a_Cut_told t.d_Cut_told ["self"] (spTld t 6):=by
 refine T.F_Cut_told.ok c_Cut_told (fun vs H Q E h=>l_spTld _ _ h) (fun cdv A outer s H vs Q E hr h=>?_)
 ·obtain⟨v,rfl,dx,ys,hv,hl,k⟩:=h
  obtain⟨a,b,rfl⟩:∃ a b,ys=[a,b]:=by
   match ys,hl with
   | [a,b],_=>exact⟨a,b,rfl⟩
  have hv':H v=some (.ins t.a_Cut dx [("axis",a),("inner",b)]):=hv
  clear hv hl
  have c9:=T.cl_Cut
  have n0:=T.na_Cut_axis
  have l0:([("axis",a),("inner",b)]:List (Str × V)).lookup (Str.ofString "axis")=some a:=by rfl
  have n1:=T.na_Cut_inner
  have l1:([("axis",a),("inner",b)]:List (Str × V)).lookup (Str.ofString "inner")=some b:=by rfl
  refine⟨_,(@pss_one _ _ _ (@ps_ret _ _ _ _ (@pe_qTup _ _ _ _ _ (@pa_c _ _ _ _ _ (@pe_str _ _ _ _) (@pa_c _ _ _ _ _ (@pe_nFld _ _ _ _ _ (@pvN _ 0 _ _ (by rfl) (by trivial) (by decide) (by decide)) rfl) (@pa_c _ _ _ _ _ (@pe_nFld _ _ _ _ _ (@pvN _ 0 _ _ (by rfl) (by trivial) (by decide) (by decide)) rfl) (@pa_nil _) (by rfl)) (by rfl)) (by rfl))))),?_⟩
  rw [show start ["self"] [.ref v]=[some (.ref v)] from rfl]
  replace k:=fun (_:Unit)=>k
  simp! only [and_true]
  intro r H1 _ e1 h1
  exact k () r H1 e1 h1
theorem ok_Window_told(T:Tx K mg t):FnOk P t.w K mg base CX0 1 t.a_Window_told t.d_Window_told ["self"] (spTld t 7):=by
 refine T.F_Window_told.ok c_Window_told (fun vs H Q E h=>l_spTld _ _ h) (fun cdv A outer s H vs Q E hr h=>?_)
 ·obtain⟨v,rfl,dx,ys,hv,hl,k⟩:=h
  obtain⟨a,b,rfl⟩:∃ a b,ys=[a,b]:=by
   match ys,hl with
   | [a,b],_=>exact⟨a,b,rfl⟩
  have hv':H v=some (.ins t.a_Window dx [("axis",a),("size",b)]):=hv
  clear hv hl
  have c9:=T.cl_Window
  have n0:=T.na_Window_axis
  have l0:([("axis",a),("size",b)]:List (Str × V)).lookup (Str.ofString "axis")=some a:=by rfl
  have n1:=T.na_Window_size
  have l1:([("axis",a),("size",b)]:List (Str × V)).lookup (Str.ofString "size")=some b:=by rfl
  refine⟨_,(@pss_one _ _ _ (@ps_ret _ _ _ _ (@pe_qTup _ _ _ _ _ (@pa_c _ _ _ _ _ (@pe_str _ _ _ _) (@pa_c _ _ _ _ _ (@pe_nFld _ _ _ _ _ (@pvN _ 0 _ _ (by rfl) (by trivial) (by decide) (by decide)) rfl) (@pa_c _ _ _ _ _ (@pe_nFld _ _ _ _ _ (@pvN _ 0 _ _ (by rfl) (by trivial) (by decide) (by decide)) rfl) (@pa_nil _) (by rfl)) (by rfl)) (by rfl))))),?_⟩
  rw [show start ["self"] [.ref v]=[some (.ref v)] from rfl]
  replace k:=fun (_:Unit)=>k
  simp! only [and_true]
  intro r H1 _ e1 h1
  exact k () r H1 e1 h1
theorem ok_Diagonal_told(T:Tx K mg t):FnOk P t.w K mg base CX0 1 t.a_Diagonal_told t.d_Diagonal_told ["self"] (spTld t 8):=by
 refine T.F_Diagonal_told.ok c_Diagonal_told (fun vs H Q E h=>l_spTld _ _ h) (fun cdv A outer s H vs Q E hr h=>?_)
 ·obtain⟨v,rfl,dx,ys,hv,hl,k⟩:=h
  obtain⟨a,b,rfl⟩:∃ a b,ys=[a,b]:=by
   match ys,hl with
   | [a,b],_=>exact⟨a,b,rfl⟩
  have hv':H v=some (.ins t.a_Diagonal dx [("one",a),("other",b)]):=hv
  clear hv hl
  have c9:=T.cl_Diagonal
  have n0:=T.na_Diagonal_one
  have l0:([("one",a),("other",b)]:List (Str × V)).lookup (Str.ofString "one")=some a:=by rfl
  have n1:=T.na_Diagonal_other
  have l1:([("one",a),("other",b)]:List (Str × V)).lookup (Str.ofString "other")=some b:=by rfl
  refine⟨_,(@pss_one _ _ _ (@ps_ret _ _ _ _ (@pe_qTup _ _ _ _ _ (@pa_c _ _ _ _ _ (@pe_str _ _ _ _) (@pa_c _ _ _ _ _ (@pe_nFld _ _ _ _ _ (@pvN _ 0 _ _ (by rfl) (by trivial) (by decide) (by decide)) rfl) (@pa_c _ _ _ _ _ (@pe_nFld _ _ _ _ _ (@pvN _ 0 _ _ (by rfl) (by trivial) (by decide) (by decide)) rfl) (@pa_nil _) (by rfl)) (by rfl)) (by rfl))))),?_⟩
  rw [show start ["self"] [.ref v]=[some (.ref v)] from rfl]
  replace k:=fun (_:Unit)=>k
  simp! only [and_true]
  intro r H1 _ e1 h1
  exact k () r H1 e1 h1
abbrev B_spTldT(t:Adr)(v:Addr)(H:Hp)(Q:VK)(E:XK):Prop:=∃ (dx l:Addr) (ys:List V),H v=some (.ins t.a_Turn dx [("order",.ref l)])∧H l=some (.lst ys)∧ys.length≤5000∧∀ (r D:Addr) (H':Hp),Ext H H'->H D=none->H' r=some (.tup [.str "turn",.ref D])->H' D=some (.lst ys)->Q (.ref r) H'
def spTldT(t:Adr):Sp:=fun vs H Q E=>∃ (v:Addr),vs=[.ref v]∧(B_spTldT t v H Q E)
theorem l_spTldT(t:Adr){vs:List V}{H:Hp}{Q:VK}{E:XK}(h:spTldT t vs H Q E):vs.length=1:=spl1 h fun _=>rfl
theorem ok_Turn_told(T:Tx K mg t):FnOk P t.w K mg base CX0 1 t.a_Turn_told t.d_Turn_told ["self"] (spTldT t):=by
 refine T.F_Turn_told.ok c_Turn_told (fun vs H Q E h=>l_spTldT _ h) (fun cdv A outer s H vs Q E hr h=>?_)
 ·obtain⟨v,rfl,dx,l,ys,hv,hl,h5,k⟩:=h
  have c9:=T.cl_Turn
  have n0:=T.na_Turn_order
  have l0:([("order",V.ref l)]:List (Str × V)).lookup (Str.ofString "order")=some (V.ref l):=by rfl
  refine⟨_,(@pss_one _ _ _ (@ps_ret _ _ _ _ (@pe_qTup _ _ _ _ _ (@pa_c _ _ _ _ _ (@pe_str _ _ _ _) (@pa_c _ _ _ _ _ (@pe_callTy _ _ _ _ _ _ _ _ _ call_nList (by rfl) T.z_list (by decide +kernel) (@pa_c _ _ _ _ _ (@pe_nFld _ _ _ _ _ (@pvN _ 0 _ _ (by rfl) (by trivial) (by decide) (by decide)) rfl) (@pa_nil _) (by rfl)) (by decide) (by decide) (by rfl) (by rfl)) (@pa_nil _) (by rfl)) (by rfl))))),?_⟩
  rw [show start ["self"] [.ref v]=[some (.ref v)] from rfl]
  replace k:=fun (_:Unit)=>k
  simp! only [and_true]
  intro D H1 hD e1 h1
  simp! only [and_true]
  intro r H2 _ e2 h2
  exact k () r D H2 (e1.trans e2) hD h2 (e2.at h1)
def spTd(t:Adr):Nat->Sp
 | 3=>spTldT t
 | i=>spTld t i
theorem spTd_ne{t:Adr}{i:Nat}(h:i ≠ 3):spTd t i=spTld t i:=by
 unfold spTd
 split
 ·exact absurd rfl h
 ·rfl
theorem MDt{P:Program}{K:PySem.W.Frag}{mg:Str->Option Value}{base:Heap}{t:Adr}(T:Tx K mg t):∀ i,i < 9->MD P t.w K mg base CX0 1 "told" (clM t i) (spTd t i)
 | 0,_=>⟨T.cl_Move,_,_,_,T.mt_Move_told,ok_Move_told T,T.b_Move_told⟩
 | 1,_=>⟨T.cl_Slice,_,_,_,T.mt_Slice_told,ok_Slice_told T,T.b_Slice_told⟩
 | 2,_=>⟨T.cl_Pick,_,_,_,T.mt_Pick_told,ok_Pick_told T,T.b_Pick_told⟩
 | 3,_=>⟨T.cl_Turn,_,_,_,T.mt_Turn_told,ok_Turn_told T,T.b_Turn_told⟩
 | 4,_=>⟨T.cl_Fresh,_,_,_,T.mt_Fresh_told,ok_Fresh_told T,T.b_Fresh_told⟩
 | 5,_=>⟨T.cl_Spread,_,_,_,T.mt_Spread_told,ok_Spread_told T,T.b_Spread_told⟩
 | 6,_=>⟨T.cl_Cut,_,_,_,T.mt_Cut_told,ok_Cut_told T,T.b_Cut_told⟩
 | 7,_=>⟨T.cl_Window,_,_,_,T.mt_Window_told,ok_Window_told T,T.b_Window_told⟩
 | 8,_=>⟨T.cl_Diagonal,_,_,_,T.mt_Diagonal_told,ok_Diagonal_told T,T.b_Diagonal_told⟩
 | n+9,h=>absurd h (by omega)
theorem fl_no:∀ {i:Nat}{ys:List V},i < 9->i ≠ 3->ys.length=cnM i->(flM i ys).lookup (Str.ofString "told")=none
 | 0,_,_,_,_=>rfl
 | 1,[_,_,_,_],_,_,_=>by rfl
 | 2,[_,_],_,_,_=>by rfl
 | 3,_,_,h,_=>absurd rfl h
 | 4,[_],_,_,_=>by rfl
 | 5,[_,_],_,_,_=>by rfl
 | 6,[_,_],_,_,_=>by rfl
 | 7,[_,_],_,_,_=>by rfl
 | 8,[_,_],_,_,_=>by rfl
 | n+9,_,h,_,_=>absurd h (by omega)
theorem use_told{t:Adr}{F H:Hp}{v:Addr}{x:Tl}{E:XK}{Q:VK}(h:MvF t F H v x)(ok:TlOk x)(q:∀ (r:V) (H':Hp),Ext H H'->TlF H H' r x->Q r H'):kMethD 9 (clM t) "told" (spTd t) E Q (.ref v) H:=by
 rcases h with ⟨h1,dx,h2⟩|⟨h1,dx,l,h2,h3,h4⟩
 ·have hl:(x.2.map oV).length=cnM x.1:=by rw [List.length_map];exact ok.n h1
  refine⟨v,x.1,dx,_,rfl,ok.k,h2,fl_no ok.k h1 hl,?_⟩
  rw [spTd_ne h1]
  exact⟨v,rfl,dx,_,h2,hl,fun r H' e hr=>q _ H' e ⟨r,rfl,.inl ⟨h1,hr⟩⟩⟩
 ·refine⟨v,3,dx,_,rfl,by decide,h2,by rfl,?_⟩
  exact⟨v,rfl,dx,l,_,h2,h4,by rw [List.length_map];have:=ok.m;omega,fun r D H' e hD hr hd=>q _ H' e ⟨r,rfl,.inr ⟨h1,D,hr,hD,hd⟩⟩⟩
theorem filt{α:Type}(l:List α):l.filter (fun _=>true)=l:=List.filter_eq_self.mpr fun _ _=>rfl
def spRT  : Sp:=fun vs H Q E=>∃ (b:Bool),vs=[.bl b]∧(b=true∧Q .non H)
theorem c_spRT  (b:Bool) (H:Hp) (Q:VK) (E:XK):spRT  [.bl b] H Q E=(b=true∧Q .non H):=spx1 (f:=fun (b:Bool)=>[.bl b]) (fun _ _ h=>by cases h;exact rfl) b
theorem l_spRT  {vs:List V}{H:Hp}{Q:VK}{E:XK}(h:spRT  vs H Q E):vs.length=1:=spl1 h fun _=>rfl
theorem ok_refuse_told(T:Tx K mg t):FnOk P t.w K mg base CX0 1 t.a_refuse_told t.d_refuse_told ["good"] spRT:=by
 refine T.F_refuse_told.ok c_refuse_told (fun vs H Q E h=>l_spRT h) (fun cdv A outer s H vs Q E hr h=>?_)
 ·obtain⟨b,rfl,rfl,k⟩:=h
  refine⟨_,(@pss_one _ _ _ (@ps_if _ _ _ _ _ _ _ _ (@pt_not _ _ _ _ (@pt_valN _ _ _ (@pvN _ 0 _ _ (by rfl) (by trivial) (by decide) (by decide)) (by intros;rfl))) (@pss_one _ _ _ (@ps_never _ _)) (@pss_nil _))),?_⟩
  rw [show start ["good"] [.bl true]=[some (.bl true)] from rfl]
  simp! only [and_true]
theorem use_dropT{a:Addr}{xs:List V}{H:Hp}{Q:VK}(k:Nat)(hk:0 < k)(hl:k≤xs.length)(h:H a=some (.tup xs))(q:newK (.tup (xs.drop k)) H Q):nSlU (.ref a) (some (k:Int)) none H Q:=by
 show optK (tupAt H a) (kNSU a (some (k:Int)) none H Q)
 rw [tupAt,h]
 show kNSU a (some (k:Int)) none H Q xs
 refine⟨fun hw=>?_,fun hw=>?_⟩
 ·have h1:=hw.1
  rw [HT.sIx_nat] at h1
  omega
 ·rw [cut_some xs k (by omega),Int.toNat_natCast]
  exact q
abbrev B_spNumIn  (p:Addr) (m:Int) (H:Hp) (Q:VK) (E:XK):Prop:=∃ (x:V) (ns:List Int),H p=some (.tup (x::ns.map V.int))∧m=(ns.length:Int)∧ns.length≤9∧∀ (r:Addr) (H':Hp),Ext H H'->H' r=some (.tup (ns.map V.int))->Q (.ref r) H'
def spNumIn  : Sp:=fun vs H Q E=>∃ (p:Addr) (m:Int),vs=[.ref p,.int m]∧(B_spNumIn  p m H Q E)
theorem c_spNumIn  (p:Addr) (m:Int) (H:Hp) (Q:VK) (E:XK):spNumIn  [.ref p,.int m] H Q E=(B_spNumIn  p m H Q E):=spx2 (f:=fun (p:Addr) (m:Int)=>[.ref p,.int m]) (fun _ _ _ _ h=>by cases h;exact⟨rfl,rfl⟩) p m
theorem l_spNumIn  {vs:List V}{H:Hp}{Q:VK}{E:XK}(h:spNumIn  vs H Q E):vs.length=2:=spl2 h fun _ _=>rfl
theorem ok_numbers_in(T:Tx K mg t):FnOk P t.w K mg base CX0 2 t.a_numbers_in t.d_numbers_in ["told", "many"] spNumIn:=by
 have G_refuse_told:=ok_refuse_told (P:=P) (base:=base) T
 have G_is_whole:=ok_is_whole (P:=P) (base:=base) T
 refine T.F_numbers_in.ok c_numbers_in (fun vs H Q E h=>l_spNumIn h) (fun cdv A outer s H vs Q E hr h=>?_)
 ·obtain⟨p,m,rfl,x,ns,hp,rfl,h8,k⟩:=h
  refine⟨_,(@pss_cons _ _ _ _ _ (@ps_expr _ _ _ _ (@pe_call _ _ _ _ _ _ _ _ _ _ _ _ _ _ _ _ G_refuse_told (hr.mono (by decide)) (by rfl) T.m_refuse_told T.F_refuse_told.kp T.b_refuse_told .nil pass0 (@pa_c _ _ _ _ _ (@pe_andN _ _ _ _ _ _ _ (@pe_cmpR _ _ _ _ _ _ _ _ (op_qEq hr.units) (@pe_callB _ _ _ _ _ _ _ ("len") _ call_qLen (by rfl) T.z_len (by decide +kernel) (@pa_c _ _ _ _ _ (@pvN _ 0 _ _ (by rfl) (by trivial) (by decide) (by decide)) (@pa_nil _) (by rfl)) (by decide) (by decide) (by rfl) (by rfl)) (@pe_op _ _ _ _ _ _ _ _ on_add (@pvN _ 1 _ _ (by rfl) (by trivial) (by decide) (by decide)) (@pe_int _ _ _ _)) (nomark _)) (@pe_one _ _ _ _ _ (@pe_callB _ _ _ _ _ _ _ ("all") _ (call_qAll rfl) (by rfl) T.z_all (by decide +kernel) (@pa_c _ _ _ _ _ (@pe_comp _ _ _ _ _ _ _ _ _ _ _ (["thing", "told", "many"]) (1) (comp_ok (defScope s_numbers_in) ["told", "many"] rfl rfl (by decide +kernel)) rfl (@pi_seq _ _ _ _ (@pe_slice _ _ _ _ _ _ _ _ _ _ sl_nU (@pvN _ 0 _ _ (by rfl) (by trivial) (by decide) (by decide)) (@po_some _ _ _ (@pe_int _ _ _ _)) (@po_none _))) (fun C s₀ H₀ ex pn=>(@pg_name _ _ (0) _ (show List.Nodup (["thing", "told", "many"]:List Str) from by decide +kernel) rfl (Or.inl rfl) (by trivial))) (fun C s₀ H₀ ex pn=>(@pts_nil _)) (fun C s₀ H₀ ex pn=>(@pe_call _ _ _ _ _ _ _ _ _ _ _ _ _ _ _ _ G_is_whole (hr.mono (by decide)) (by rfl) T.m_is_whole T.F_is_whole.kp T.b_is_whole .nil pass0 (@pa_c _ _ _ _ _ (@pvN _ 0 _ _ (by rfl) (by trivial) (by decide) (by decide)) (@pa_nil _) (by rfl)) (by decide) (by rfl) (by rfl))) (by intros;rfl)) (@pa_nil _) (by rfl)) (by decide) (by decide) (by rfl) (by rfl)))) (@pa_nil _) (by rfl)) (by decide) (by rfl) (by rfl)) (by rfl)) (@pss_one _ _ _ (@ps_ret _ _ _ _ (@pe_slice _ _ _ _ _ _ _ _ _ _ sl_nU (@pvN _ 0 _ _ (by rfl) (by trivial) (by decide) (by decide)) (@po_some _ _ _ (@pe_int _ _ _ _)) (@po_none _))))),?_⟩
  rw [show start ["told", "many"] [.ref p,.int (ns.length:Int)]=[some (.ref p),some (.int (ns.length:Int))] from rfl]
  clear G_refuse_told G_is_whole
  replace k:=fun (_:Unit)=>k
  have hl6:ns.length+1≤sizeLine:=len5000 (by omega)
  simp! only [and_true]
  rw [if_pos (by omega)]
  refine use_tail hp fun q1 H1 e1 h1=>?_
  have h1':H1 q1=some (.tup (ns.map V.int)):=h1
  have hp1:=e1.at hp
  clear h1
  simp! only [and_true]
  refine comp_fm (ns.map V.int) (fun _=>true) (fun _=>.bl true) (fun z x H'=>x=z∧H' q1=some (.tup (ns.map V.int))) (wk_tup h1').1 (wk_tup h1').2 (len5000 (by rw [List.length_map];omega)) ?_ ?_
  ·intro D z x' H' N1 N0 hz hD e ⟨hx,_⟩ k1 _
   subst hx
   obtain⟨i,_,rfl⟩:=List.mem_map.mp hz
   have k1':=k1 rfl H' (Ext.refl _)
   clear k1 hp1
   simp! only [↓m_kCm_1,↓m_kCm2,↓c_spWhole]
  ·intro D H2 hD e2 hD2
   have hD3:H2 D=some (.lst ((ns.map fun _=>true).map V.bl)):=by rw [hD2,filt,List.map_map,List.map_map];rfl
   have ha:(ns.map fun _=>true).all id=true:=by rw [List.all_map,List.all_eq_true];intro _ _;rfl
   have hp2:=e2.at hp1
   clear hD2 hp1
   simp! only [and_true]
   rw [c_spRT]
   refine⟨rfl,?_⟩
   simp! only [and_true]
   refine use_tail hp2 fun q3 H3 e3 h3=>?_
   exact k () q3 H3 (e1.trans (e2.trans e3)) h3
abbrev B_spLstIn  (p:Addr) (H:Hp) (Q:VK) (E:XK):Prop:=∃ (x:V) (l:Addr) (ys:List V),H p=some (.tup [x,.ref l])∧H l=some (.lst ys)∧Q (.ref l) H
def spLstIn  : Sp:=fun vs H Q E=>∃ (p:Addr),vs=[.ref p]∧(B_spLstIn  p H Q E)
theorem c_spLstIn  (p:Addr) (H:Hp) (Q:VK) (E:XK):spLstIn  [.ref p] H Q E=(B_spLstIn  p H Q E):=spx1 (f:=fun (p:Addr)=>[.ref p]) (fun _ _ h=>by cases h;exact rfl) p
theorem l_spLstIn  {vs:List V}{H:Hp}{Q:VK}{E:XK}(h:spLstIn  vs H Q E):vs.length=1:=spl1 h fun _=>rfl
theorem ok_list_in(T:Tx K mg t):FnOk P t.w K mg base CX0 2 t.a_list_in t.d_list_in ["told"] spLstIn:=by
 have G_refuse_told:=ok_refuse_told (P:=P) (base:=base) T
 refine T.F_list_in.ok c_list_in (fun vs H Q E h=>l_spLstIn h) (fun cdv A outer s H vs Q E hr h=>?_)
 ·obtain⟨p,rfl,x,l,ys,hp,hl,k⟩:=h
  refine⟨_,(@pss_cons _ _ _ _ _ (@ps_expr _ _ _ _ (@pe_call _ _ _ _ _ _ _ _ _ _ _ _ _ _ _ _ G_refuse_told (hr.mono (by decide)) (by rfl) T.m_refuse_told T.F_refuse_told.kp T.b_refuse_told .nil pass0 (@pa_c _ _ _ _ _ (@pe_andN _ _ _ _ _ _ _ (@pe_cmpR _ _ _ _ _ _ _ _ (op_qEq hr.units) (@pe_callB _ _ _ _ _ _ _ ("len") _ call_qLen (by rfl) T.z_len (by decide +kernel) (@pa_c _ _ _ _ _ (@pvN _ 0 _ _ (by rfl) (by trivial) (by decide) (by decide)) (@pa_nil _) (by rfl)) (by decide) (by decide) (by rfl) (by rfl)) (@pe_int _ _ _ _) (nomark _)) (@pe_one _ _ _ _ _ (@pe_callB _ _ _ _ _ _ _ ("isinstance") _ call_qIsi (by rfl) T.z_isinstance (by decide +kernel) (@pa_c _ _ _ _ _ (@pe_ix _ _ _ _ _ _ _ ix_q (@pvN _ 0 _ _ (by rfl) (by trivial) (by decide) (by decide)) (@pe_int _ _ _ _) (fun _ _=>rfl)) (@pa_c _ _ _ _ _ (@pe_bltn _ _ (.ty "list") (.type "list") _ (by rfl) T.z_list (by decide +kernel) rfl (by decide) (by decide)) (@pa_nil _) (by rfl)) (by rfl)) (by decide) (by decide) (by rfl) (by rfl)))) (@pa_nil _) (by rfl)) (by decide) (by rfl) (by rfl)) (by rfl)) (@pss_one _ _ _ (@ps_ret _ _ _ _ (@pe_ix _ _ _ _ _ _ _ ix_q (@pvN _ 0 _ _ (by rfl) (by trivial) (by decide) (by decide)) (@pe_int _ _ _ _) (fun _ _=>rfl))))),?_⟩
  rw [show start ["told"] [.ref p]=[some (.ref p)] from rfl]
  clear G_refuse_told
  simp! only [and_true]
  rw [c_spRT]
  refine⟨rfl,?_⟩
  simp! only [and_true]
theorem oV_ints:∀ {xs:List (Option Int)},(∀ o∈xs,o ≠ none)->∃ ns:List Int,xs=ns.map some∧xs.map oV=ns.map V.int
 | [],_=>⟨[],rfl,rfl⟩
 | none::r,h=>absurd rfl (h none List.mem_cons_self)
 | some i::r,h=>by
  obtain⟨ns,h1,h2⟩:=oV_ints fun o ho=>h o (List.mem_cons_of_mem _ ho)
  exact⟨i::ns,by rw [h1];rfl,by rw [List.map_cons,h2];rfl⟩
def spMd(t:Adr)(i:Nat):Sp:=fun vs H Q E=>∃ (p:Addr),vs=[.ref p]∧(∃ (x:V) (xs:List (Option Int)),H p=some (.tup (x::xs.map oV))∧TlOk (i,xs)∧∀ (v:Addr) (H':Hp),Ext H H'->MvF t H H' v (i,xs)->Q (.ref v) H')
theorem c_spMd(t:Adr)(i:Nat)(p:Addr)(H:Hp)(Q:VK)(E:XK):spMd t i [.ref p] H Q E=(∃ (x:V) (xs:List (Option Int)),H p=some (.tup (x::xs.map oV))∧TlOk (i,xs)∧∀ (v:Addr) (H':Hp),Ext H H'->MvF t H H' v (i,xs)->Q (.ref v) H'):=spx1 (f:=fun (p:Addr)=>[.ref p]) (fun _ _ h=>by cases h;exact rfl) p
theorem l_spMd(t:Adr)(i:Nat){vs:List V}{H:Hp}{Q:VK}{E:XK}(h:spMd t i vs H Q E):vs.length=1:=spl1 h fun _=>rfl
theorem ok_made_stay(T:Tx K mg t):FnOk P t.w K mg base CX0 3 t.a_made_stay t.d_made_stay ["told"] (spMd t 0):=by
 have G_numbers_in:=ok_numbers_in (P:=P) (base:=base) T
 refine T.F_made_stay.ok c_made_stay (fun vs H Q E h=>l_spMd _ _ h) (fun cdv A outer s H vs Q E hr h=>?_)
 ·obtain⟨p,rfl,x,xs,hp,ok,k⟩:=h
  refine⟨_,(@pss_cons _ _ _ _ _ (@ps_expr _ _ _ _ (@pe_call _ _ _ _ _ _ _ _ _ _ _ _ _ _ _ _ G_numbers_in (hr.mono (by decide)) (by rfl) T.m_numbers_in T.F_numbers_in.kp T.b_numbers_in .nil pass0 (@pa_c _ _ _ _ _ (@pvN _ 0 _ _ (by rfl) (by trivial) (by decide) (by decide)) (@pa_c _ _ _ _ _ (@pe_int _ _ _ _) (@pa_nil _) (by rfl)) (by rfl)) (by decide) (by rfl) (by rfl)) (by rfl)) (@pss_one _ _ _ (@ps_ret _ _ _ _ (@pe_nMk0 _ _ _ _ _ T.mk0_Move (by rfl) T.m_Move (by decide))))),?_⟩
  rw [show start ["told"] [.ref p]=[some (.ref p)] from rfl]
  clear G_numbers_in
  obtain rfl:xs=[]:=List.eq_nil_of_length_eq_zero (ok.n (show (0:Nat) ≠ 3 by decide))
  replace k:=fun (_:Unit)=>k
  have hp':H p=some (.tup (x::([]:List Int).map V.int)):=hp
  clear hp ok
  simp! only [and_true]
  rw [c_spNumIn]
  refine⟨x,[],hp',rfl,by decide,fun r H1 e1 h1=>?_⟩
  simp! only [and_true]
  intro v dx H2 hx _ _ e2 h2 _
  exact k () v H2 (e1.trans e2) (.inl ⟨(show (0:Nat) ≠ 3 by decide),dx,h2⟩)
theorem ok_made_slice(T:Tx K mg t):FnOk P t.w K mg base CX0 3 t.a_made_slice t.d_made_slice ["told"] (spMd t 1):=by
 have G_refuse_told:=ok_refuse_told (P:=P) (base:=base) T
 have G_is_whole:=ok_is_whole (P:=P) (base:=base) T
 have G_Slice___init__:=ok_Slice___init__ (P:=P) (base:=base) T
 refine T.F_made_slice.ok c_made_slice (fun vs H Q E h=>l_spMd _ _ h) (fun cdv A outer s H vs Q E hr h=>?_)
 ·obtain⟨p,rfl,x,xs,hp,ok,k⟩:=h
  refine⟨_,(@pss_cons _ _ _ _ _ (@ps_expr _ _ _ _ (@pe_call _ _ _ _ _ _ _ _ _ _ _ _ _ _ _ _ G_refuse_told (hr.mono (by decide)) (by rfl) T.m_refuse_told T.F_refuse_told.kp T.b_refuse_told .nil pass0 (@pa_c _ _ _ _ _ (@pe_andN _ _ _ _ _ _ _ (@pe_cmpR _ _ _ _ _ _ _ _ (op_qEq hr.units) (@pe_callB _ _ _ _ _ _ _ ("len") _ call_qLen (by rfl) T.z_len (by decide +kernel) (@pa_c _ _ _ _ _ (@pvN _ 0 _ _ (by rfl) (by trivial) (by decide) (by decide)) (@pa_nil _) (by rfl)) (by decide) (by decide) (by rfl) (by rfl)) (@pe_int _ _ _ _) (nomark _)) (@pe_one _ _ _ _ _ (@pe_call _ _ _ _ _ _ _ _ _ _ _ _ _ _ _ _ G_is_whole (hr.mono (by decide)) (by rfl) T.m_is_whole T.F_is_whole.kp T.b_is_whole .nil pass0 (@pa_c _ _ _ _ _ (@pe_ix _ _ _ _ _ _ _ ix_q (@pvN _ 0 _ _ (by rfl) (by trivial) (by decide) (by decide)) (@pe_int _ _ _ _) (fun _ _=>rfl)) (@pa_nil _) (by rfl)) (by decide) (by rfl) (by rfl)))) (@pa_nil _) (by rfl)) (by decide) (by rfl) (by rfl)) (by rfl)) (@pss_cons _ _ _ _ _ (@ps_expr _ _ _ _ (@pe_call _ _ _ _ _ _ _ _ _ _ _ _ _ _ _ _ G_refuse_told (hr.mono (by decide)) (by rfl) T.m_refuse_told T.F_refuse_told.kp T.b_refuse_told .nil pass0 (@pa_c _ _ _ _ _ (@pe_callB _ _ _ _ _ _ _ ("all") _ (call_qAll rfl) (by rfl) T.z_all (by decide +kernel) (@pa_c _ _ _ _ _ (@pe_comp _ _ _ _ _ _ _ _ _ _ _ (["thing", "told"]) (1) (comp_ok (defScope s_made_slice) ["told"] rfl rfl (by decide +kernel)) rfl (@pi_seq _ _ _ _ (@pe_slice _ _ _ _ _ _ _ _ _ _ sl_nU (@pvN _ 0 _ _ (by rfl) (by trivial) (by decide) (by decide)) (@po_some _ _ _ (@pe_int _ _ _ _)) (@po_none _))) (fun C s₀ H₀ ex pn=>(@pg_name _ _ (0) _ (show List.Nodup (["thing", "told"]:List Str) from by decide +kernel) rfl (Or.inl rfl) (by trivial))) (fun C s₀ H₀ ex pn=>(@pts_nil _)) (fun C s₀ H₀ ex pn=>(@pe_orN _ _ _ _ _ _ _ (@pe_cmpR _ _ _ _ _ _ _ _ op_qIs (@pvN _ 0 _ _ (by rfl) (by trivial) (by decide) (by decide)) (@pe_non _ _ _) (nomark _)) (@pe_one _ _ _ _ _ (@pe_call _ _ _ _ _ _ _ _ _ _ _ _ _ _ _ _ G_is_whole (hr.mono (by decide)) (by rfl) T.m_is_whole T.F_is_whole.kp T.b_is_whole .nil pass0 (@pa_c _ _ _ _ _ (@pvN _ 0 _ _ (by rfl) (by trivial) (by decide) (by decide)) (@pa_nil _) (by rfl)) (by decide) (by rfl) (by rfl))))) (by intros;rfl)) (@pa_nil _) (by rfl)) (by decide) (by decide) (by rfl) (by rfl)) (@pa_nil _) (by rfl)) (by decide) (by rfl) (by rfl)) (by rfl)) (@pss_one _ _ _ (@ps_ret _ _ _ _ (@pe_nMake _ _ _ _ _ _ _ _ _ _ _ _ _ _ _ _ _ T.mk_Slice G_Slice___init__ (hr.mono (by decide)) (by rfl) T.m_Slice T.b_Slice___init__ .nil pass0 (@pa_c _ _ _ _ _ (@pe_ix _ _ _ _ _ _ _ ix_q (@pvN _ 0 _ _ (by rfl) (by trivial) (by decide) (by decide)) (@pe_int _ _ _ _) (fun _ _=>rfl)) (@pa_c _ _ _ _ _ (@pe_ix _ _ _ _ _ _ _ ix_q (@pvN _ 0 _ _ (by rfl) (by trivial) (by decide) (by decide)) (@pe_int _ _ _ _) (fun _ _=>rfl)) (@pa_c _ _ _ _ _ (@pe_ix _ _ _ _ _ _ _ ix_q (@pvN _ 0 _ _ (by rfl) (by trivial) (by decide) (by decide)) (@pe_int _ _ _ _) (fun _ _=>rfl)) (@pa_c _ _ _ _ _ (@pe_ix _ _ _ _ _ _ _ ix_q (@pvN _ 0 _ _ (by rfl) (by trivial) (by decide) (by decide)) (@pe_int _ _ _ _) (fun _ _=>rfl)) (@pa_nil _) (by rfl)) (by rfl)) (by rfl)) (by rfl)) (by decide) (by rfl) (by rfl)))))),?_⟩
  rw [show start ["told"] [.ref p]=[some (.ref p)] from rfl]
  clear G_refuse_told G_is_whole G_Slice___init__
  obtain⟨a,b,c,d,rfl⟩:∃ a b c d,xs=[some a,b,c,d]:=by
   have hl:xs.length=4:=ok.n (show (1:Nat) ≠ 3 by decide)
   match xs,hl,ok.h rfl with
   | [some a,b,c,d],_,_=>exact⟨a,b,c,d,rfl⟩
   | [none,b,c,d],_,h=>exact absurd rfl h
  have hp':H p=some (.tup [x,.int a,oV b,oV c,oV d]):=hp
  replace k:=fun (_:Unit)=>k
  clear hp ok
  simp! only [↓c_spWhole]
  rw [c_spRT]
  refine⟨rfl,?_⟩
  simp! only [and_true]
  refine use_dropT 2 (by decide) (by show 2≤5;decide) hp' ?_
  intro q1 H1 _ e1 h1
  have h1':H1 q1=some (.tup ([b,c,d].map oV)):=h1
  have hp1:=e1.at hp'
  clear h1 hp'
  simp! only [and_true]
  refine comp_fm ([b,c,d].map oV) (fun _=>true) (fun _=>.bl true) (fun z x H'=>x=z∧H' q1=some (.tup ([b,c,d].map oV))) (wk_tup h1').1 (wk_tup h1').2 (len5000 (by rw [List.length_map];show 3≤5000;decide)) ?_ ?_
  ·intro D z x' H' N1 N0 hz hD e ⟨hx,_⟩ k1 _
   subst hx
   obtain⟨i,_,rfl⟩:=List.mem_map.mp hz
   have k1':=k1 rfl H' (Ext.refl _)
   clear k1 hp1
   cases i with
   | none=>
    show gName 0 V.non _ _ _
    simp! only [↓m_kCm_1,↓m_kCm2,↓c_spWhole]
   | some i=>
    show gName 0 (V.int i) _ _ _
    simp! only [↓m_kCm_1,↓m_kCm2,↓c_spWhole]
  ·intro D H2 hD e2 hD2
   have hD3:H2 D=some (.lst (([b,c,d].map fun _=>true).map V.bl)):=by rw [hD2,filt,List.map_map,List.map_map];rfl
   have ha:([b,c,d].map fun _=>true).all id=true:=rfl
   generalize ([b,c,d].map fun _=>true)=bs at hD3 ha
   have hp2:=e2.at hp1
   clear hD2 hp1
   simp! only [and_true]
   rw [c_spRT]
   refine⟨rfl,?_⟩
   simp! only [and_true]
   intro v dx G hx hd hq g k1 kk
   show spInSlice t [V.ref v,V.int a,oV b,oV c,oV d] G _ _
   rw [c_spInSlice]
   refine⟨dx,k1,fun H3 gg h3=>?_⟩
   have j:=gg H2 g hx
   clear k1 kk hd hq gg
   simp! only [and_true]
   exact k () v H3 (e1.trans (e2.trans j)) (.inl ⟨(show (1:Nat) ≠ 3 by decide),dx,h3⟩)
def spMdT(t:Adr):Sp:=fun vs H Q E=>∃ (p:Addr),vs=[.ref p]∧(∃ (x:V) (l:Addr) (xs:List (Option Int)),H p=some (.tup [x,.ref l])∧H l=some (.lst (xs.map oV))∧TlOk (3,xs)∧∀ (v:Addr) (H':Hp),Ext H H'->MvF t H H' v (3,xs)->Q (.ref v) H')
theorem c_spMdT(t:Adr)(p:Addr)(H:Hp)(Q:VK)(E:XK):spMdT t [.ref p] H Q E=(∃ (x:V) (l:Addr) (xs:List (Option Int)),H p=some (.tup [x,.ref l])∧H l=some (.lst (xs.map oV))∧TlOk (3,xs)∧∀ (v:Addr) (H':Hp),Ext H H'->MvF t H H' v (3,xs)->Q (.ref v) H'):=spx1 (f:=fun (p:Addr)=>[.ref p]) (fun _ _ h=>by cases h;exact rfl) p
theorem l_spMdT(t:Adr){vs:List V}{H:Hp}{Q:VK}{E:XK}(h:spMdT t vs H Q E):vs.length=1:=spl1 h fun _=>rfl
theorem ok_made_turn(T:Tx K mg t):FnOk P t.w K mg base CX0 3 t.a_made_turn t.d_made_turn ["told"] (spMdT t):=by
 have G_refuse_told:=ok_refuse_told (P:=P) (base:=base) T
 have G_list_in:=ok_list_in (P:=P) (base:=base) T
 have G_is_whole:=ok_is_whole (P:=P) (base:=base) T
 have G_Turn___init__:=ok_Turn___init__ (P:=P) (base:=base) T
 refine T.F_made_turn.ok c_made_turn (fun vs H Q E h=>l_spMdT _ h) (fun cdv A outer s H vs Q E hr h=>?_)
 ·obtain⟨p,rfl,x,l,xs,hp,hl,ok,k⟩:=h
  refine⟨_,(@pss_cons _ _ _ _ _ (@ps_set _ _ (1) _ _ _ _ c_made_turn.nd rfl (Or.inl rfl) (@pe_call _ _ _ _ _ _ _ _ _ _ _ _ _ _ _ _ G_list_in (hr.mono (by decide)) (by rfl) T.m_list_in T.F_list_in.kp T.b_list_in .nil pass0 (@pa_c _ _ _ _ _ (@pvN _ 0 _ _ (by rfl) (by trivial) (by decide) (by decide)) (@pa_nil _) (by rfl)) (by decide) (by rfl) (by rfl)) (by rfl) (by trivial)) (@pss_cons _ _ _ _ _ (@ps_expr _ _ _ _ (@pe_call _ _ _ _ _ _ _ _ _ _ _ _ _ _ _ _ G_refuse_told (hr.mono (by decide)) (by rfl) T.m_refuse_told T.F_refuse_told.kp T.b_refuse_told .nil pass0 (@pa_c _ _ _ _ _ (@pe_callB _ _ _ _ _ _ _ ("all") _ (call_qAll rfl) (by rfl) T.z_all (by decide +kernel) (@pa_c _ _ _ _ _ (@pe_comp _ _ _ _ _ _ _ _ _ _ _ (["thing", "told", "order"]) (1) (comp_ok (defScope s_made_turn) ["told", "order"] rfl rfl (by decide +kernel)) rfl (@pi_seq _ _ _ _ (@pvN _ 1 _ _ (by rfl) (by trivial) (by decide) (by decide))) (fun C s₀ H₀ ex pn=>(@pg_name _ _ (0) _ (show List.Nodup (["thing", "told", "order"]:List Str) from by decide +kernel) rfl (Or.inl rfl) (by trivial))) (fun C s₀ H₀ ex pn=>(@pts_nil _)) (fun C s₀ H₀ ex pn=>(@pe_call _ _ _ _ _ _ _ _ _ _ _ _ _ _ _ _ G_is_whole (hr.mono (by decide)) (by rfl) T.m_is_whole T.F_is_whole.kp T.b_is_whole .nil pass0 (@pa_c _ _ _ _ _ (@pvN _ 0 _ _ (by rfl) (by trivial) (by decide) (by decide)) (@pa_nil _) (by rfl)) (by decide) (by rfl) (by rfl))) (by intros;rfl)) (@pa_nil _) (by rfl)) (by decide) (by decide) (by rfl) (by rfl)) (@pa_nil _) (by rfl)) (by decide) (by rfl) (by rfl)) (by rfl)) (@pss_one _ _ _ (@ps_ret _ _ _ _ (@pe_nMake _ _ _ _ _ _ _ _ _ _ _ _ _ _ _ _ _ T.mk_Turn G_Turn___init__ (hr.mono (by decide)) (by rfl) T.m_Turn T.b_Turn___init__ .nil pass0 (@pa_c _ _ _ _ _ (@pvN _ 1 _ _ (by rfl) (by trivial) (by decide) (by decide)) (@pa_nil _) (by rfl)) (by decide) (by rfl) (by rfl)))))),?_⟩
  rw [show start ["told", "order"] [.ref p]=[some (.ref p),none] from rfl]
  clear G_refuse_told G_is_whole G_Turn___init__ G_list_in
  obtain⟨ns,rfl,hn⟩:=oV_ints (ok.s (show (3:Nat) ≠ 1 by decide))
  have h8:ns.length≤9:=by have:=ok.m;rw [List.length_map] at this;exact this
  rw [hn] at hl
  replace k:=fun (_:Unit)=>k
  replace hn:=fun (_:Unit)=>hn
  clear ok
  simp! only [and_true]
  rw [c_spLstIn]
  refine⟨x,l,_,hp,hl,?_⟩
  clear hp
  simp! only [and_true]
  refine comp_fm (ns.map V.int) (fun _=>true) (fun _=>.bl true) (fun z x H'=>x=z∧H' l=some (.lst (ns.map V.int))) (wk_lst hl).1 (wk_lst hl).2 (len5000 (by rw [List.length_map];omega)) ?_ ?_
  ·intro D z x' H' N1 N0 hz hD e ⟨hx,_⟩ k1 _
   subst hx
   obtain⟨i,_,rfl⟩:=List.mem_map.mp hz
   have k1':=k1 rfl H' (Ext.refl _)
   clear k1
   simp! only [↓m_kCm_1,↓m_kCm2,↓c_spWhole]
  ·intro D H2 hD e2 hD2
   have hD3:H2 D=some (.lst ((ns.map fun _=>true).map V.bl)):=by rw [hD2,filt,List.map_map,List.map_map];rfl
   have ha:(ns.map fun _=>true).all id=true:=by rw [List.all_map,List.all_eq_true];intro _ _;rfl
   have hl2:=e2.at hl
   clear hD2 hl
   simp! only [and_true]
   rw [c_spRT]
   refine⟨rfl,?_⟩
   simp! only [and_true]
   intro v dx G hx hd hq g k1 kk
   rw [c_spInTurn]
   refine⟨dx,_,k1,g.at hl2,by rw [List.length_map];omega,fun H3 D3 gg hD3 h3 d3=>?_⟩
   have j:=gg H2 g hx
   have fr:H D3=none:=e2.free (g.free hD3)
   rw [←hn ()] at d3
   clear k1 kk hd hq gg hD3
   simp! only [and_true]
   exact k () v H3 (e2.trans j) (.inr ⟨rfl,dx,D3,h3,fr,d3⟩)
theorem ok_made_pick(T:Tx K mg t):FnOk P t.w K mg base CX0 3 t.a_made_pick t.d_made_pick ["told"] (spMd t 2):=by
 have G_numbers_in:=ok_numbers_in (P:=P) (base:=base) T
 have G_Pick___init__:=ok_Pick___init__ (P:=P) (base:=base) T
 refine T.F_made_pick.ok c_made_pick (fun vs H Q E h=>l_spMd _ _ h) (fun cdv A outer s H vs Q E hr h=>?_)
 ·obtain⟨p,rfl,x,xs,hp,ok,k⟩:=h
  refine⟨_,(@pss_cons _ _ _ _ _ (@ps_set _ _ (1) _ _ _ _ c_made_pick.nd rfl (Or.inl rfl) (@pe_call _ _ _ _ _ _ _ _ _ _ _ _ _ _ _ _ G_numbers_in (hr.mono (by decide)) (by rfl) T.m_numbers_in T.F_numbers_in.kp T.b_numbers_in .nil pass0 (@pa_c _ _ _ _ _ (@pvN _ 0 _ _ (by rfl) (by trivial) (by decide) (by decide)) (@pa_c _ _ _ _ _ (@pe_int _ _ _ _) (@pa_nil _) (by rfl)) (by rfl)) (by decide) (by rfl) (by rfl)) (by rfl) (by trivial)) (@pss_one _ _ _ (@ps_ret _ _ _ _ (@pe_nMake _ _ _ _ _ _ _ _ _ _ _ _ _ _ _ _ _ T.mk_Pick G_Pick___init__ (hr.mono (by decide)) (by rfl) T.m_Pick T.b_Pick___init__ .nil pass0 (@pa_c _ _ _ _ _ (@pe_ix _ _ _ _ _ _ _ ix_q (@pvN _ 1 _ _ (by rfl) (by trivial) (by decide) (by decide)) (@pe_int _ _ _ _) (fun _ _=>rfl)) (@pa_c _ _ _ _ _ (@pe_ix _ _ _ _ _ _ _ ix_q (@pvN _ 1 _ _ (by rfl) (by trivial) (by decide) (by decide)) (@pe_int _ _ _ _) (fun _ _=>rfl)) (@pa_nil _) (by rfl)) (by rfl)) (by decide) (by rfl) (by rfl))))),?_⟩
  rw [show start ["told", "found"] [.ref p]=[some (.ref p),none] from rfl]
  clear G_numbers_in G_Pick___init__
  obtain⟨ns,rfl,hn⟩:=oV_ints (ok.s (show (2:Nat) ≠ 1 by decide))
  have hl:ns.length=2:=by have:=ok.n (show (2:Nat) ≠ 3 by decide);rw [List.length_map] at this;exact this
  obtain⟨a,b,rfl⟩:∃ a b,ns=[a,b]:=by
   match ns,hl with
   | [a,b],_=>exact⟨a,b,rfl⟩
  rw [hn] at hp
  replace k:=fun (_:Unit)=>k
  clear ok hl hn
  simp! only [and_true]
  rw [c_spNumIn]
  refine⟨x,[a,b],hp,rfl,by show 2≤9;decide,fun r H1 e1 h1=>?_⟩
  clear hp
  simp! only [and_true]
  intro v dx G hx hd hq g k1 kk
  rw [c_spInPick]
  refine⟨dx,k1,fun H2 gg h2=>?_⟩
  have j:=gg H1 g hx
  clear k1 kk hd hq gg
  simp! only [and_true]
  exact k () v H2 (e1.trans j) (.inl ⟨(show (2:Nat) ≠ 3 by decide),dx,h2⟩)
theorem ok_made_fresh(T:Tx K mg t):FnOk P t.w K mg base CX0 3 t.a_made_fresh t.d_made_fresh ["told"] (spMd t 4):=by
 have G_numbers_in:=ok_numbers_in (P:=P) (base:=base) T
 have G_Fresh___init__:=ok_Fresh___init__ (P:=P) (base:=base) T
 refine T.F_made_fresh.ok c_made_fresh (fun vs H Q E h=>l_spMd _ _ h) (fun cdv A outer s H vs Q E hr h=>?_)
 ·obtain⟨p,rfl,x,xs,hp,ok,k⟩:=h
  refine⟨_,(@pss_one _ _ _ (@ps_ret _ _ _ _ (@pe_nMake _ _ _ _ _ _ _ _ _ _ _ _ _ _ _ _ _ T.mk_Fresh G_Fresh___init__ (hr.mono (by decide)) (by rfl) T.m_Fresh T.b_Fresh___init__ .nil pass0 (@pa_c _ _ _ _ _ (@pe_ix _ _ _ _ _ _ _ ix_q (@pe_call _ _ _ _ _ _ _ _ _ _ _ _ _ _ _ _ G_numbers_in (hr.mono (by decide)) (by rfl) T.m_numbers_in T.F_numbers_in.kp T.b_numbers_in .nil pass0 (@pa_c _ _ _ _ _ (@pvN _ 0 _ _ (by rfl) (by trivial) (by decide) (by decide)) (@pa_c _ _ _ _ _ (@pe_int _ _ _ _) (@pa_nil _) (by rfl)) (by rfl)) (by decide) (by rfl) (by rfl)) (@pe_int _ _ _ _) (fun _ _=>rfl)) (@pa_nil _) (by rfl)) (by decide) (by rfl) (by rfl)))),?_⟩
  rw [show start ["told"] [.ref p]=[some (.ref p)] from rfl]
  clear G_numbers_in G_Fresh___init__
  obtain⟨ns,rfl,hn⟩:=oV_ints (ok.s (show (4:Nat) ≠ 1 by decide))
  have hl:ns.length=1:=by have:=ok.n (show (4:Nat) ≠ 3 by decide);rw [List.length_map] at this;exact this
  obtain⟨a,rfl⟩:∃ a,ns=[a]:=by
   match ns,hl with
   | [a],_=>exact⟨a,rfl⟩
  rw [hn] at hp
  replace k:=fun (_:Unit)=>k
  clear ok hl hn
  simp! only [and_true]
  rw [c_spNumIn]
  refine⟨x,[a],hp,rfl,by show 1≤9;decide,fun r H1 e1 h1=>?_⟩
  clear hp
  simp! only [and_true]
  intro v dx G hx hd hq g k1 kk
  rw [c_spInFresh]
  refine⟨dx,k1,fun H2 gg h2=>?_⟩
  have j:=gg H1 g hx
  clear k1 kk hd hq gg
  simp! only [and_true]
  exact k () v H2 (e1.trans j) (.inl ⟨(show (4:Nat) ≠ 3 by decide),dx,h2⟩)
theorem ok_made_spread(T:Tx K mg t):FnOk P t.w K mg base CX0 3 t.a_made_spread t.d_made_spread ["told"] (spMd t 5):=by
 have G_numbers_in:=ok_numbers_in (P:=P) (base:=base) T
 have G_Spread___init__:=ok_Spread___init__ (P:=P) (base:=base) T
 refine T.F_made_spread.ok c_made_spread (fun vs H Q E h=>l_spMd _ _ h) (fun cdv A outer s H vs Q E hr h=>?_)
 ·obtain⟨p,rfl,x,xs,hp,ok,k⟩:=h
  refine⟨_,(@pss_cons _ _ _ _ _ (@ps_set _ _ (1) _ _ _ _ c_made_spread.nd rfl (Or.inl rfl) (@pe_call _ _ _ _ _ _ _ _ _ _ _ _ _ _ _ _ G_numbers_in (hr.mono (by decide)) (by rfl) T.m_numbers_in T.F_numbers_in.kp T.b_numbers_in .nil pass0 (@pa_c _ _ _ _ _ (@pvN _ 0 _ _ (by rfl) (by trivial) (by decide) (by decide)) (@pa_c _ _ _ _ _ (@pe_int _ _ _ _) (@pa_nil _) (by rfl)) (by rfl)) (by decide) (by rfl) (by rfl)) (by rfl) (by trivial)) (@pss_one _ _ _ (@ps_ret _ _ _ _ (@pe_nMake _ _ _ _ _ _ _ _ _ _ _ _ _ _ _ _ _ T.mk_Spread G_Spread___init__ (hr.mono (by decide)) (by rfl) T.m_Spread T.b_Spread___init__ .nil pass0 (@pa_c _ _ _ _ _ (@pe_ix _ _ _ _ _ _ _ ix_q (@pvN _ 1 _ _ (by rfl) (by trivial) (by decide) (by decide)) (@pe_int _ _ _ _) (fun _ _=>rfl)) (@pa_c _ _ _ _ _ (@pe_ix _ _ _ _ _ _ _ ix_q (@pvN _ 1 _ _ (by rfl) (by trivial) (by decide) (by decide)) (@pe_int _ _ _ _) (fun _ _=>rfl)) (@pa_nil _) (by rfl)) (by rfl)) (by decide) (by rfl) (by rfl))))),?_⟩
  rw [show start ["told", "found"] [.ref p]=[some (.ref p),none] from rfl]
  clear G_numbers_in G_Spread___init__
  obtain⟨ns,rfl,hn⟩:=oV_ints (ok.s (show (5:Nat) ≠ 1 by decide))
  have hl:ns.length=2:=by have:=ok.n (show (5:Nat) ≠ 3 by decide);rw [List.length_map] at this;exact this
  obtain⟨a,b,rfl⟩:∃ a b,ns=[a,b]:=by
   match ns,hl with
   | [a,b],_=>exact⟨a,b,rfl⟩
  rw [hn] at hp
  replace k:=fun (_:Unit)=>k
  clear ok hl hn
  simp! only [and_true]
  rw [c_spNumIn]
  refine⟨x,[a,b],hp,rfl,by show 2≤9;decide,fun r H1 e1 h1=>?_⟩
  clear hp
  simp! only [and_true]
  intro v dx G hx hd hq g k1 kk
  rw [c_spInSpread]
  refine⟨dx,k1,fun H2 gg h2=>?_⟩
  have j:=gg H1 g hx
  clear k1 kk hd hq gg
  simp! only [and_true]
  exact k () v H2 (e1.trans j) (.inl ⟨(show (5:Nat) ≠ 3 by decide),dx,h2⟩)
theorem ok_made_cut(T:Tx K mg t):FnOk P t.w K mg base CX0 3 t.a_made_cut t.d_made_cut ["told"] (spMd t 6):=by
 have G_numbers_in:=ok_numbers_in (P:=P) (base:=base) T
 have G_Cut___init__:=ok_Cut___init__ (P:=P) (base:=base) T
 refine T.F_made_cut.ok c_made_cut (fun vs H Q E h=>l_spMd _ _ h) (fun cdv A outer s H vs Q E hr h=>?_)
 ·obtain⟨p,rfl,x,xs,hp,ok,k⟩:=h
  refine⟨_,(@pss_cons _ _ _ _ _ (@ps_set _ _ (1) _ _ _ _ c_made_cut.nd rfl (Or.inl rfl) (@pe_call _ _ _ _ _ _ _ _ _ _ _ _ _ _ _ _ G_numbers_in (hr.mono (by decide)) (by rfl) T.m_numbers_in T.F_numbers_in.kp T.b_numbers_in .nil pass0 (@pa_c _ _ _ _ _ (@pvN _ 0 _ _ (by rfl) (by trivial) (by decide) (by decide)) (@pa_c _ _ _ _ _ (@pe_int _ _ _ _) (@pa_nil _) (by rfl)) (by rfl)) (by decide) (by rfl) (by rfl)) (by rfl) (by trivial)) (@pss_one _ _ _ (@ps_ret _ _ _ _ (@pe_nMake _ _ _ _ _ _ _ _ _ _ _ _ _ _ _ _ _ T.mk_Cut G_Cut___init__ (hr.mono (by decide)) (by rfl) T.m_Cut T.b_Cut___init__ .nil pass0 (@pa_c _ _ _ _ _ (@pe_ix _ _ _ _ _ _ _ ix_q (@pvN _ 1 _ _ (by rfl) (by trivial) (by decide) (by decide)) (@pe_int _ _ _ _) (fun _ _=>rfl)) (@pa_c _ _ _ _ _ (@pe_ix _ _ _ _ _ _ _ ix_q (@pvN _ 1 _ _ (by rfl) (by trivial) (by decide) (by decide)) (@pe_int _ _ _ _) (fun _ _=>rfl)) (@pa_nil _) (by rfl)) (by rfl)) (by decide) (by rfl) (by rfl))))),?_⟩
  rw [show start ["told", "found"] [.ref p]=[some (.ref p),none] from rfl]
  clear G_numbers_in G_Cut___init__
  obtain⟨ns,rfl,hn⟩:=oV_ints (ok.s (show (6:Nat) ≠ 1 by decide))
  have hl:ns.length=2:=by have:=ok.n (show (6:Nat) ≠ 3 by decide);rw [List.length_map] at this;exact this
  obtain⟨a,b,rfl⟩:∃ a b,ns=[a,b]:=by
   match ns,hl with
   | [a,b],_=>exact⟨a,b,rfl⟩
  rw [hn] at hp
  replace k:=fun (_:Unit)=>k
  clear ok hl hn
  simp! only [and_true]
  rw [c_spNumIn]
  refine⟨x,[a,b],hp,rfl,by show 2≤9;decide,fun r H1 e1 h1=>?_⟩
  clear hp
  simp! only [and_true]
  intro v dx G hx hd hq g k1 kk
  rw [c_spInCut]
  refine⟨dx,k1,fun H2 gg h2=>?_⟩
  have j:=gg H1 g hx
  clear k1 kk hd hq gg
  simp! only [and_true]
  exact k () v H2 (e1.trans j) (.inl ⟨(show (6:Nat) ≠ 3 by decide),dx,h2⟩)
theorem ok_made_window(T:Tx K mg t):FnOk P t.w K mg base CX0 3 t.a_made_window t.d_made_window ["told"] (spMd t 7):=by
 have G_numbers_in:=ok_numbers_in (P:=P) (base:=base) T
 have G_Window___init__:=ok_Window___init__ (P:=P) (base:=base) T
 refine T.F_made_window.ok c_made_window (fun vs H Q E h=>l_spMd _ _ h) (fun cdv A outer s H vs Q E hr h=>?_)
 ·obtain⟨p,rfl,x,xs,hp,ok,k⟩:=h
  refine⟨_,(@pss_cons _ _ _ _ _ (@ps_set _ _ (1) _ _ _ _ c_made_window.nd rfl (Or.inl rfl) (@pe_call _ _ _ _ _ _ _ _ _ _ _ _ _ _ _ _ G_numbers_in (hr.mono (by decide)) (by rfl) T.m_numbers_in T.F_numbers_in.kp T.b_numbers_in .nil pass0 (@pa_c _ _ _ _ _ (@pvN _ 0 _ _ (by rfl) (by trivial) (by decide) (by decide)) (@pa_c _ _ _ _ _ (@pe_int _ _ _ _) (@pa_nil _) (by rfl)) (by rfl)) (by decide) (by rfl) (by rfl)) (by rfl) (by trivial)) (@pss_one _ _ _ (@ps_ret _ _ _ _ (@pe_nMake _ _ _ _ _ _ _ _ _ _ _ _ _ _ _ _ _ T.mk_Window G_Window___init__ (hr.mono (by decide)) (by rfl) T.m_Window T.b_Window___init__ .nil pass0 (@pa_c _ _ _ _ _ (@pe_ix _ _ _ _ _ _ _ ix_q (@pvN _ 1 _ _ (by rfl) (by trivial) (by decide) (by decide)) (@pe_int _ _ _ _) (fun _ _=>rfl)) (@pa_c _ _ _ _ _ (@pe_ix _ _ _ _ _ _ _ ix_q (@pvN _ 1 _ _ (by rfl) (by trivial) (by decide) (by decide)) (@pe_int _ _ _ _) (fun _ _=>rfl)) (@pa_nil _) (by rfl)) (by rfl)) (by decide) (by rfl) (by rfl))))),?_⟩
  rw [show start ["told", "found"] [.ref p]=[some (.ref p),none] from rfl]
  clear G_numbers_in G_Window___init__
  obtain⟨ns,rfl,hn⟩:=oV_ints (ok.s (show (7:Nat) ≠ 1 by decide))
  have hl:ns.length=2:=by have:=ok.n (show (7:Nat) ≠ 3 by decide);rw [List.length_map] at this;exact this
  obtain⟨a,b,rfl⟩:∃ a b,ns=[a,b]:=by
   match ns,hl with
   | [a,b],_=>exact⟨a,b,rfl⟩
  rw [hn] at hp
  replace k:=fun (_:Unit)=>k
  clear ok hl hn
  simp! only [and_true]
  rw [c_spNumIn]
  refine⟨x,[a,b],hp,rfl,by show 2≤9;decide,fun r H1 e1 h1=>?_⟩
  clear hp
  simp! only [and_true]
  intro v dx G hx hd hq g k1 kk
  rw [c_spInWindow]
  refine⟨dx,k1,fun H2 gg h2=>?_⟩
  have j:=gg H1 g hx
  clear k1 kk hd hq gg
  simp! only [and_true]
  exact k () v H2 (e1.trans j) (.inl ⟨(show (7:Nat) ≠ 3 by decide),dx,h2⟩)
theorem ok_made_diagonal(T:Tx K mg t):FnOk P t.w K mg base CX0 3 t.a_made_diagonal t.d_made_diagonal ["told"] (spMd t 8):=by
 have G_numbers_in:=ok_numbers_in (P:=P) (base:=base) T
 have G_Diagonal___init__:=ok_Diagonal___init__ (P:=P) (base:=base) T
 refine T.F_made_diagonal.ok c_made_diagonal (fun vs H Q E h=>l_spMd _ _ h) (fun cdv A outer s H vs Q E hr h=>?_)
 ·obtain⟨p,rfl,x,xs,hp,ok,k⟩:=h
  refine⟨_,(@pss_cons _ _ _ _ _ (@ps_set _ _ (1) _ _ _ _ c_made_diagonal.nd rfl (Or.inl rfl) (@pe_call _ _ _ _ _ _ _ _ _ _ _ _ _ _ _ _ G_numbers_in (hr.mono (by decide)) (by rfl) T.m_numbers_in T.F_numbers_in.kp T.b_numbers_in .nil pass0 (@pa_c _ _ _ _ _ (@pvN _ 0 _ _ (by rfl) (by trivial) (by decide) (by decide)) (@pa_c _ _ _ _ _ (@pe_int _ _ _ _) (@pa_nil _) (by rfl)) (by rfl)) (by decide) (by rfl) (by rfl)) (by rfl) (by trivial)) (@pss_one _ _ _ (@ps_ret _ _ _ _ (@pe_nMake _ _ _ _ _ _ _ _ _ _ _ _ _ _ _ _ _ T.mk_Diagonal G_Diagonal___init__ (hr.mono (by decide)) (by rfl) T.m_Diagonal T.b_Diagonal___init__ .nil pass0 (@pa_c _ _ _ _ _ (@pe_ix _ _ _ _ _ _ _ ix_q (@pvN _ 1 _ _ (by rfl) (by trivial) (by decide) (by decide)) (@pe_int _ _ _ _) (fun _ _=>rfl)) (@pa_c _ _ _ _ _ (@pe_ix _ _ _ _ _ _ _ ix_q (@pvN _ 1 _ _ (by rfl) (by trivial) (by decide) (by decide)) (@pe_int _ _ _ _) (fun _ _=>rfl)) (@pa_nil _) (by rfl)) (by rfl)) (by decide) (by rfl) (by rfl))))),?_⟩
  rw [show start ["told", "found"] [.ref p]=[some (.ref p),none] from rfl]
  clear G_numbers_in G_Diagonal___init__
  obtain⟨ns,rfl,hn⟩:=oV_ints (ok.s (show (8:Nat) ≠ 1 by decide))
  have hl:ns.length=2:=by have:=ok.n (show (8:Nat) ≠ 3 by decide);rw [List.length_map] at this;exact this
  obtain⟨a,b,rfl⟩:∃ a b,ns=[a,b]:=by
   match ns,hl with
   | [a,b],_=>exact⟨a,b,rfl⟩
  rw [hn] at hp
  replace k:=fun (_:Unit)=>k
  clear ok hl hn
  simp! only [and_true]
  rw [c_spNumIn]
  refine⟨x,[a,b],hp,rfl,by show 2≤9;decide,fun r H1 e1 h1=>?_⟩
  clear hp
  simp! only [and_true]
  intro v dx G hx hd hq g k1 kk
  rw [c_spInDiagonal]
  refine⟨dx,k1,fun H2 gg h2=>?_⟩
  have j:=gg H1 g hx
  clear k1 kk hd hq gg
  simp! only [and_true]
  exact k () v H2 (e1.trans j) (.inl ⟨(show (8:Nat) ≠ 3 by decide),dx,h2⟩)
def mkM(t:Adr):Nat->Addr
 | 0=>t.a_made_stay
 | 1=>t.a_made_slice
 | 2=>t.a_made_pick
 | 3=>t.a_made_turn
 | 4=>t.a_made_fresh
 | 5=>t.a_made_spread
 | 6=>t.a_made_cut
 | 7=>t.a_made_window
 | _=>t.a_made_diagonal
def spMk(t:Adr):Nat->Sp
 | 3=>spMdT t
 | i=>spMd t i
theorem spMk_ne{t:Adr}{i:Nat}(h:i ≠ 3):spMk t i=spMd t i:=by
 unfold spMk
 split
 ·exact absurd rfl h
 ·rfl
theorem FDm{P:Program}{K:PySem.W.Frag}{mg:Str->Option Value}{base:Heap}{t:Adr}(T:Tx K mg t):∀ i,i < 9->FD P t.w K mg base CX0 3 (mkM t i) (spMk t i)
 | 0,_=>⟨T.F_made_stay.kp,_,_,ok_made_stay T,T.b_made_stay⟩
 | 1,_=>⟨T.F_made_slice.kp,_,_,ok_made_slice T,T.b_made_slice⟩
 | 2,_=>⟨T.F_made_pick.kp,_,_,ok_made_pick T,T.b_made_pick⟩
 | 3,_=>⟨T.F_made_turn.kp,_,_,ok_made_turn T,T.b_made_turn⟩
 | 4,_=>⟨T.F_made_fresh.kp,_,_,ok_made_fresh T,T.b_made_fresh⟩
 | 5,_=>⟨T.F_made_spread.kp,_,_,ok_made_spread T,T.b_made_spread⟩
 | 6,_=>⟨T.F_made_cut.kp,_,_,ok_made_cut T,T.b_made_cut⟩
 | 7,_=>⟨T.F_made_window.kp,_,_,ok_made_window T,T.b_made_window⟩
 | 8,_=>⟨T.F_made_diagonal.kp,_,_,ok_made_diagonal T,T.b_made_diagonal⟩
 | n+9,h=>absurd h (by omega)
def mkL(t:Adr):List (Str × V):=[("stay",.ref t.a_made_stay),("slice",.ref t.a_made_slice),("pick",.ref t.a_made_pick),("turn",.ref t.a_made_turn),("fresh",.ref t.a_made_fresh),("spread",.ref t.a_made_spread),("cut",.ref t.a_made_cut),("window",.ref t.a_made_window),("diagonal",.ref t.a_made_diagonal)]
theorem mk_at{t:Adr}:∀ {i:Nat},i < 9->valV (keyed (mkL t)) (.inr (wdM i))=some (.ref (mkM t i))
 | 0,_=>by rfl
 | 1,_=>by rfl
 | 2,_=>by rfl
 | 3,_=>by rfl
 | 4,_=>by rfl
 | 5,_=>by rfl
 | 6,_=>by rfl
 | 7,_=>by rfl
 | 8,_=>by rfl
 | n+9,h=>absurd h (by omega)
theorem wd_chain:∀ {i:Nat},i < 9->¬ wdM i=Str.ofString "chain"
 | 0,_=>by decide
 | 1,_=>by decide
 | 2,_=>by decide
 | 3,_=>by decide
 | 4,_=>by decide
 | 5,_=>by decide
 | 6,_=>by decide
 | 7,_=>by decide
 | 8,_=>by decide
 | n+9,h=>absurd h (by omega)
abbrev B_spMM(t:Adr)(r:V)(d:Int)(H:Hp)(Q:VK)(E:XK):Prop:=∃ (F:Hp) (x:Tl),TlF F H r x∧TlOk x∧∀ (v:Addr) (H':Hp),Ext H H'->MvF t H H' v x->Q (.ref v) H'
def spMM(t:Adr):Sp:=fun vs H Q E=>∃ (r:V) (d:Int),vs=[r,.int d]∧(B_spMM t r d H Q E)
theorem l_spMM(t:Adr){vs:List V}{H:Hp}{Q:VK}{E:XK}(h:spMM t vs H Q E):vs.length=2:=spl2 h fun _ _=>rfl
theorem no_ok{P:Program}{w':World}{K:PySem.W.Frag}{mg:Str->Option Value}{base:Heap}{CX:CXT}{k:Nat}{f:Addr}{fd:FuncData}{ps:List Str}:FnOk P w' K mg base CX k f fd ps (fun _ _ _ _=>False):=⟨fun _ _ _ _ h=>h.elim,fun _ _ _ _ _ _ _ _ _ _ _ _ _ h=>h.elim⟩
theorem ok_made_move(T:Tx K mg t):FnOk P t.w K mg base CX0 4 t.a_made_move t.d_made_move ["told", "deep"] (spMM t):=by
 have G_refuse_told:=ok_refuse_told (P:=P) (base:=base) T
 have G_made_chain:FnOk P t.w K mg base CX0 1 t.a_made_chain t.d_made_chain ["told", "deep"] (fun _ _ _ _=>False):=no_ok
 have FD_MAKERS:=FDm (P:=P) (base:=base) T
 refine T.F_made_move.ok c_made_move (fun vs H Q E h=>l_spMM _ h) (fun cdv A outer s H vs Q E hr h=>?_)
 ·obtain⟨r,d,rfl,F,x,⟨p,rfl,hp⟩,ok,k⟩:=h
  refine⟨_,(@pss_cons _ _ _ _ _ (@ps_expr _ _ _ _ (@pe_call _ _ _ _ _ _ _ _ _ _ _ _ _ _ _ _ G_refuse_told (hr.mono (by decide)) (by rfl) T.m_refuse_told T.F_refuse_told.kp T.b_refuse_told .nil pass0 (@pa_c _ _ _ _ _ (@pe_andN _ _ _ _ _ _ _ (@pe_callB _ _ _ _ _ _ _ ("isinstance") _ call_qIsi (by rfl) T.z_isinstance (by decide +kernel) (@pa_c _ _ _ _ _ (@pvN _ 0 _ _ (by rfl) (by trivial) (by decide) (by decide)) (@pa_c _ _ _ _ _ (@pe_bltn _ _ (.ty "tuple") (.type "tuple") _ (by rfl) T.z_tuple (by decide +kernel) rfl (by decide) (by decide)) (@pa_nil _) (by rfl)) (by rfl)) (by decide) (by decide) (by rfl) (by rfl)) (@pe_andN _ _ _ _ _ _ _ (@pe_cmpR _ _ _ _ _ _ _ _ on_gt (@pe_callB _ _ _ _ _ _ _ ("len") _ call_qLen (by rfl) T.z_len (by decide +kernel) (@pa_c _ _ _ _ _ (@pvN _ 0 _ _ (by rfl) (by trivial) (by decide) (by decide)) (@pa_nil _) (by rfl)) (by decide) (by decide) (by rfl) (by rfl)) (@pe_int _ _ _ _) (nomark _)) (@pe_one _ _ _ _ _ (@pe_callB _ _ _ _ _ _ _ ("isinstance") _ call_qIsi (by rfl) T.z_isinstance (by decide +kernel) (@pa_c _ _ _ _ _ (@pe_ix _ _ _ _ _ _ _ ix_q (@pvN _ 0 _ _ (by rfl) (by trivial) (by decide) (by decide)) (@pe_int _ _ _ _) (fun _ _=>rfl)) (@pa_c _ _ _ _ _ (@pe_bltn _ _ (.ty "str") (.type "str") _ (by rfl) T.z_str (by decide +kernel) rfl (by decide) (by decide)) (@pa_nil _) (by rfl)) (by rfl)) (by decide) (by decide) (by rfl) (by rfl))))) (@pa_nil _) (by rfl)) (by decide) (by rfl) (by rfl)) (by rfl)) (@pss_cons _ _ _ _ _ (@ps_if _ _ _ _ _ _ _ _ (@pt_cmpRN _ _ _ _ _ _ _ _ (op_qEq hr.units) (@pe_ix _ _ _ _ _ _ _ ix_q (@pvN _ 0 _ _ (by rfl) (by trivial) (by decide) (by decide)) (@pe_int _ _ _ _) (fun _ _=>rfl)) (@pe_str _ _ _ _) (nomark _)) (@pss_one _ _ _ (@ps_ret _ _ _ _ (@pe_call _ _ _ _ _ _ _ _ _ _ _ _ _ _ _ _ G_made_chain (hr.mono (by decide)) (by rfl) T.m_made_chain T.F_made_chain.kp T.b_made_chain .nil pass0 (@pa_c _ _ _ _ _ (@pvN _ 0 _ _ (by rfl) (by trivial) (by decide) (by decide)) (@pa_c _ _ _ _ _ (@pe_op _ _ _ _ _ _ _ _ on_add (@pvN _ 1 _ _ (by rfl) (by trivial) (by decide) (by decide)) (@pe_int _ _ _ _)) (@pa_nil _) (by rfl)) (by rfl)) (by decide) (by rfl) (by rfl)))) (@pss_nil _)) (@pss_cons _ _ _ _ _ (@ps_expr _ _ _ _ (@pe_call _ _ _ _ _ _ _ _ _ _ _ _ _ _ _ _ G_refuse_told (hr.mono (by decide)) (by rfl) T.m_refuse_told T.F_refuse_told.kp T.b_refuse_told .nil pass0 (@pa_c _ _ _ _ _ (@pe_cmpR _ _ _ _ _ _ _ _ op_inK (@pe_ix _ _ _ _ _ _ _ ix_q (@pvN _ 0 _ _ (by rfl) (by trivial) (by decide) (by decide)) (@pe_int _ _ _ _) (fun _ _=>rfl)) (@pe_glob _ _ (.ref t.a_MAKERS) _ _ (by rfl) T.m_MAKERS rfl (by decide)) (by with_unfolding_all rfl)) (@pa_nil _) (by rfl)) (by decide) (by rfl) (by rfl)) (by rfl)) (@pss_one _ _ _ (@ps_ret _ _ _ _ (@pe_callV _ _ _ _ _ _ _ _ _ _ _ _ _ (@pe_dgetK _ _ _ _ _ _ (@pe_glob _ _ (.ref t.a_MAKERS) _ _ (by rfl) T.m_MAKERS rfl (by decide)) (@pe_ix _ _ _ _ _ _ _ ix_q (@pvN _ 0 _ _ (by rfl) (by trivial) (by decide) (by decide)) (@pe_int _ _ _ _) (fun _ _=>rfl)) (fun _ _=>rfl)) FD_MAKERS (hr.mono (by decide)) pass0 (@pa_c _ _ _ _ _ (@pvN _ 0 _ _ (by rfl) (by trivial) (by decide) (by decide)) (@pa_nil _) (by rfl)) (by rfl) (by rfl) (by rfl))))))),?_⟩
  rw [show start ["told", "deep"] [.ref p,.int d]=[some (.ref p),some (.int d)] from rfl]
  clear G_refuse_told G_made_chain FD_MAKERS
  have hM:DicK t.w K t.a_MAKERS (mkL t):=T.d_MAKERS
  replace k:=fun (_:Unit)=>k
  have hw:=wd_chain ok.k
  have hv:=mk_at (t:=t) ok.k
  have h9:=ok.k
  have h8:=ok.m
  replace ok:=fun (_:Unit)=>ok
  replace hv:=fun (_:Unit)=>hv
  replace hM:=fun (_:Unit)=>hM
  rcases hp with ⟨h3,hp⟩|⟨h3,l,hp,_,hl⟩
  ·have hlen:(x.2.map oV).length+1≤sizeLine:=len5000 (by rw [List.length_map];omega)
   simp! only [and_true]
   rw [if_pos (by omega),c_spRT]
   refine⟨rfl,?_⟩
   simp! only [and_true]
   refine use_inK (hM ()) ?_
   rw [hv ()]
   simp! only [and_true]
   rw [c_spRT]
   refine⟨rfl,?_⟩
   simp! only [and_true]
   refine use_dgK (hM ()) (hv ()) ?_
   refine use_callV x.1 h9 rfl ?_
   simp! only [and_true]
   rw [spMk_ne h3,c_spMd]
   exact⟨_,x.2,hp,ok (),fun v H' e mv=>k () v H' e mv⟩
  ·have hw3:wdM x.1=Str.ofString "turn":=by rw [h3];rfl
   rw [hw3] at hw hv
   simp! only [and_true]
   rw [c_spRT]
   refine⟨rfl,?_⟩
   simp! only [and_true]
   refine use_inK (hM ()) ?_
   rw [hv ()]
   simp! only [and_true]
   rw [c_spRT]
   refine⟨rfl,?_⟩
   simp! only [and_true]
   refine use_dgK (hM ()) (hv ()) ?_
   refine use_callV x.1 h9 rfl ?_
   simp! only [and_true]
   rw [show spMk t 3=spMdT t from rfl,c_spMdT]
   have ex:x=(3,x.2):=by rw [←h3]
   exact⟨_,l,x.2,hp,hl,by rw [←ex];exact ok (),fun v H' e mv=>k () v H' e (by rw [ex];exact mv)⟩
theorem MvF.fm{t:Adr}{H Hi H':Hp}{m v:Addr}{x:Tl}{o o':HO}(h:MvF t Hi H' v x)(e:Ext H Hi)(hm:Hi m=some o'):MvF t (upd H m o) H' v x:=by
 rcases h with ⟨h1,dx,h2⟩|⟨h1,dx,l,h2,h3,h4⟩
 ·exact .inl ⟨h1,dx,h2⟩
 ·refine .inr ⟨h1,dx,l,h2,?_,h4⟩
  rw [upd_ne (fun z=>by rw [z,hm] at h3;cases h3)]
  exact e.free h3
theorem MvF.put{t:Adr}{H H':Hp}{m v:Addr}{x:Tl}{o o':HO}{ys:List V}(h:MvF t (upd H m o) H' v x)(hm:H' m=some (.lst ys)):MvF t (upd H m o) (upd H' m o') v x:=by
 rcases h with ⟨h1,dx,h2⟩|⟨h1,dx,l,h2,h3,h4⟩
 ·exact .inl ⟨h1,dx,by rw [upd_ne (fun z=>by rw [z,hm] at h2;cases h2)];exact h2⟩
 ·refine .inr ⟨h1,dx,l,by rw [upd_ne (fun z=>by rw [z,hm] at h2;cases h2)];exact h2,h3,?_⟩
  rw [upd_ne (fun z=>by rw [z,upd_same] at h3;cases h3)]
  exact h4
inductive Tr where
 | mv (x:Tl)
 | ch (l:List Tr)
mutual
def leafN:Tr->Nat
 | .mv _=>1
 | .ch l=>leafs l
def leafs:List Tr->Nat
 | []=>0
 | a::l=>leafN a+leafs l
end
mutual
def deepN:Tr->Nat
 | .mv _=>0
 | .ch l=>deeps l+1
def deeps:List Tr->Nat
 | []=>0
 | a::l=>max (deepN a) (deeps l)
end
mutual
def okT:Tr->Prop
 | .mv x=>TlOk x
 | .ch l=>l.length≤40∧okTs l
def okTs:List Tr->Prop
 | []=>True
 | a::l=>okT a∧okTs l
end
mutual
def MvT(t:Adr)(F H:Hp):Tr->V->Prop
 | .mv x,y=>∃ v,y=.ref v∧MvF t F H v x
 | .ch l,y=>∃ (v dx q:Addr) (vs:List V),y=.ref v∧H v=some (.ins t.a_Chain dx [("moves",.ref q)])∧F q=none∧H q=some (.lst vs)∧MvTs t F H l vs
def MvTs(t:Adr)(F H:Hp):List Tr->List V->Prop
 | [],vs=>vs=[]
 | a::l,vs=>∃ v r,vs=v::r∧MvT t F H a v∧MvTs t F H l r
end
mutual
def TrF(F H:Hp):Tr->V->Prop
 | .mv x,y=>TlF F H y x
 | .ch l,y=>∃ (p q:Addr) (rs:List V),y=.ref p∧H p=some (.tup [.str "chain",.ref q])∧F q=none∧H q=some (.lst rs)∧TrFs F H l rs
def TrFs(F H:Hp):List Tr->List V->Prop
 | [],vs=>vs=[]
 | a::l,vs=>∃ v r,vs=v::r∧TrF F H a v∧TrFs F H l r
end
theorem al_cons{α:Type}{R:α->V->Prop}{a:α}{l:List α}{v:V}{r:List V}(h:R a v)(h':Al R l r):Al R (a::l) (v::r):=
 ⟨by rw [List.length_cons,List.length_cons,h'.1],fun i z y hz hy=>by
  cases i with
  | zero=>cases hz;cases hy;exact h
  | succ i=>exact h'.2 i z y (by simpa using hz) (by simpa using hy)⟩
theorem al_tail{α:Type}{R:α->V->Prop}{a:α}{l:List α}{v:V}{r:List V}(h:Al R (a::l) (v::r)):Al R l r:=
 ⟨by have:=h.1;simpa using this,fun i z y hz hy=>h.2 (i+1) z y (by simpa using hz) (by simpa using hy)⟩
theorem MvTs.al{t:Adr}{F H:Hp}:∀ {l:List Tr}{vs:List V},MvTs t F H l vs->Al (fun a v=>MvT t F H a v) l vs
 | [],vs,h=>by unfold MvTs at h;rw [h];exact⟨rfl,fun i z y hz=>by simp at hz⟩
 | a::l,vs,h=>by
  unfold MvTs at h
  obtain⟨v,r,rfl,h1,h2⟩:=h
  exact al_cons h1 (MvTs.al h2)
theorem MvTs.of{t:Adr}{F H:Hp}:∀ {l:List Tr}{vs:List V},Al (fun a v=>MvT t F H a v) l vs->MvTs t F H l vs
 | [],vs,h=>by unfold MvTs;exact List.eq_nil_of_length_eq_zero h.1
 | a::l,[],h=>by have:=h.1;simp at this
 | a::l,v::r,h=>by
  unfold MvTs
  exact⟨v,r,rfl,h.2 0 a v rfl rfl,MvTs.of (al_tail h)⟩
theorem TrFs.al{F H:Hp}:∀ {l:List Tr}{vs:List V},TrFs F H l vs->Al (fun a v=>TrF F H a v) l vs
 | [],vs,h=>by unfold TrFs at h;rw [h];exact⟨rfl,fun i z y hz=>by simp at hz⟩
 | a::l,vs,h=>by
  unfold TrFs at h
  obtain⟨v,r,rfl,h1,h2⟩:=h
  exact al_cons h1 (TrFs.al h2)
theorem TrFs.of{F H:Hp}:∀ {l:List Tr}{vs:List V},Al (fun a v=>TrF F H a v) l vs->TrFs F H l vs
 | [],vs,h=>by unfold TrFs;exact List.eq_nil_of_length_eq_zero h.1
 | a::l,[],h=>by have:=h.1;simp at this
 | a::l,v::r,h=>by
  unfold TrFs
  exact⟨v,r,rfl,h.2 0 a v rfl rfl,TrFs.of (al_tail h)⟩
mutual
theorem MvT.ext{t:Adr}{F H H':Hp}(e:Ext H H'):∀ {a:Tr}{v:V},MvT t F H a v->MvT t F H' a v
 | .mv x,v,h=>by
  unfold MvT at h ⊢
  obtain⟨u,h1,h2⟩:=h
  exact⟨u,h1,h2.ext e⟩
 | .ch l,v,h=>by
  unfold MvT at h ⊢
  obtain⟨u,dx,q,vs,h1,h2,h3,h4,h5⟩:=h
  exact⟨u,dx,q,vs,h1,e.at h2,h3,e.at h4,MvTs.ext e h5⟩
theorem MvTs.ext{t:Adr}{F H H':Hp}(e:Ext H H'):∀ {l:List Tr}{vs:List V},MvTs t F H l vs->MvTs t F H' l vs
 | [],vs,h=>by unfold MvTs at h ⊢;exact h
 | a::l,vs,h=>by
  unfold MvTs at h ⊢
  obtain⟨v,r,h1,h2,h3⟩:=h
  exact⟨v,r,h1,MvT.ext e h2,MvTs.ext e h3⟩
end
mutual
theorem MvT.less{t:Adr}{F F' H:Hp}(e:Ext F' F):∀ {a:Tr}{v:V},MvT t F H a v->MvT t F' H a v
 | .mv x,v,h=>by
  unfold MvT at h ⊢
  obtain⟨u,h1,h2⟩:=h
  exact⟨u,h1,h2.less e⟩
 | .ch l,v,h=>by
  unfold MvT at h ⊢
  obtain⟨u,dx,q,vs,h1,h2,h3,h4,h5⟩:=h
  exact⟨u,dx,q,vs,h1,h2,e.free h3,h4,MvTs.less e h5⟩
theorem MvTs.less{t:Adr}{F F' H:Hp}(e:Ext F' F):∀ {l:List Tr}{vs:List V},MvTs t F H l vs->MvTs t F' H l vs
 | [],vs,h=>by unfold MvTs at h ⊢;exact h
 | a::l,vs,h=>by
  unfold MvTs at h ⊢
  obtain⟨v,r,h1,h2,h3⟩:=h
  exact⟨v,r,h1,MvT.less e h2,MvTs.less e h3⟩
end
mutual
theorem TrF.ext{F H H':Hp}(e:Ext H H'):∀ {a:Tr}{v:V},TrF F H a v->TrF F H' a v
 | .mv x,v,h=>by unfold TrF at h ⊢;exact h.ext e
 | .ch l,v,h=>by
  unfold TrF at h ⊢
  obtain⟨u,q,vs,h1,h2,h3,h4,h5⟩:=h
  exact⟨u,q,vs,h1,e.at h2,h3,e.at h4,TrFs.ext e h5⟩
theorem TrFs.ext{F H H':Hp}(e:Ext H H'):∀ {l:List Tr}{vs:List V},TrFs F H l vs->TrFs F H' l vs
 | [],vs,h=>by unfold TrFs at h ⊢;exact h
 | a::l,vs,h=>by
  unfold TrFs at h ⊢
  obtain⟨v,r,h1,h2,h3⟩:=h
  exact⟨v,r,h1,TrF.ext e h2,TrFs.ext e h3⟩
end
mutual
theorem MvT.fm{t:Adr}{H Hi H':Hp}{m:Addr}{o o':HO}(e:Ext H Hi)(hm:Hi m=some o'):∀ {a:Tr}{v:V},MvT t Hi H' a v->MvT t (upd H m o) H' a v
 | .mv x,v,h=>by
  unfold MvT at h ⊢
  obtain⟨u,h1,h2⟩:=h
  exact⟨u,h1,h2.fm e hm⟩
 | .ch l,v,h=>by
  unfold MvT at h ⊢
  obtain⟨u,dx,q,vs,h1,h2,h3,h4,h5⟩:=h
  refine⟨u,dx,q,vs,h1,h2,?_,h4,MvTs.fm e hm h5⟩
  rw [upd_ne (fun z=>by rw [z,hm] at h3;cases h3)]
  exact e.free h3
theorem MvTs.fm{t:Adr}{H Hi H':Hp}{m:Addr}{o o':HO}(e:Ext H Hi)(hm:Hi m=some o'):∀ {l:List Tr}{vs:List V},MvTs t Hi H' l vs->MvTs t (upd H m o) H' l vs
 | [],vs,h=>by unfold MvTs at h ⊢;exact h
 | a::l,vs,h=>by
  unfold MvTs at h ⊢
  obtain⟨v,r,h1,h2,h3⟩:=h
  exact⟨v,r,h1,MvT.fm e hm h2,MvTs.fm e hm h3⟩
end
mutual
theorem MvT.put{t:Adr}{H H':Hp}{m:Addr}{o o':HO}{ys:List V}(hm:H' m=some (.lst ys)):∀ {a:Tr}{v:V},MvT t (upd H m o) H' a v->MvT t (upd H m o) (upd H' m o') a v
 | .mv x,v,h=>by
  unfold MvT at h ⊢
  obtain⟨u,h1,h2⟩:=h
  exact⟨u,h1,h2.put hm⟩
 | .ch l,v,h=>by
  unfold MvT at h ⊢
  obtain⟨u,dx,q,vs,h1,h2,h3,h4,h5⟩:=h
  refine⟨u,dx,q,vs,h1,by rw [upd_ne (fun z=>by rw [z,hm] at h2;cases h2)];exact h2,h3,?_,MvTs.put hm h5⟩
  rw [upd_ne (fun z=>by rw [z,upd_same] at h3;cases h3)]
  exact h4
theorem MvTs.put{t:Adr}{H H':Hp}{m:Addr}{o o':HO}{ys:List V}(hm:H' m=some (.lst ys)):∀ {l:List Tr}{vs:List V},MvTs t (upd H m o) H' l vs->MvTs t (upd H m o) (upd H' m o') l vs
 | [],vs,h=>by unfold MvTs at h ⊢;exact h
 | a::l,vs,h=>by
  unfold MvTs at h ⊢
  obtain⟨v,r,h1,h2,h3⟩:=h
  exact⟨v,r,h1,MvT.put hm h2,MvTs.put hm h3⟩
end
theorem okTs.mem:∀ {l:List Tr},okTs l->∀ a∈l,okT a
 | [],_,a,h=>absurd h List.not_mem_nil
 | b::l,h,a,ha=>by
  unfold okTs at h
  rcases List.mem_cons.mp ha with rfl|ha
  ·exact h.1
  ·exact okTs.mem h.2 a ha
theorem deeps_le:∀ {l:List Tr}{a:Tr},a∈l->deepN a≤deeps l
 | b::l,a,ha=>by
  unfold deeps
  rcases List.mem_cons.mp ha with rfl|ha
  ·exact Nat.le_max_left _ _
  ·exact Nat.le_trans (deeps_le ha) (Nat.le_max_right _ _)
theorem leafs_app:∀ (l l':List Tr),leafs (l++l')=leafs l+leafs l'
 | [],l'=>by unfold leafs;rw [List.nil_append];omega
 | a::l,l'=>by
  rw [List.cons_append]
  show leafN a+leafs (l++l')=leafN a+leafs l+leafs l'
  rw [leafs_app l l']
  omega
theorem leafs_take{l:List Tr}{n:Nat}:leafs (l.take n)≤leafs l:=by
 have h:=leafs_app (l.take n) (l.drop n)
 rw [List.take_append_drop] at h
 omega
theorem leafs_sum:∀ l:List Tr,((leafs l:Nat):Int)=(l.map fun a=>((leafN a:Nat):Int)).sum
 | []=>rfl
 | a::l=>by
  rw [List.map_cons,List.sum_cons,←leafs_sum l]
  show ((leafN a+leafs l:Nat):Int)=_
  omega
theorem isC9{K:PySem.W.Frag}{mg:Str->Option Value}{t:Adr}(T:Tx K mg t):∀ {i:Nat},i < 9->IsC K (clM t i)∧PySem.W.kitOne K (.ref (clM t i)) (.ref t.a_Chain)=some false
 | 0,_=>⟨T.is_Move,T.k_Move_Chain⟩
 | 1,_=>⟨T.is_Slice,T.k_Slice_Chain⟩
 | 2,_=>⟨T.is_Pick,T.k_Pick_Chain⟩
 | 3,_=>⟨T.is_Turn,T.k_Turn_Chain⟩
 | 4,_=>⟨T.is_Fresh,T.k_Fresh_Chain⟩
 | 5,_=>⟨T.is_Spread,T.k_Spread_Chain⟩
 | 6,_=>⟨T.is_Cut,T.k_Cut_Chain⟩
 | 7,_=>⟨T.is_Window,T.k_Window_Chain⟩
 | 8,_=>⟨T.is_Diagonal,T.k_Diagonal_Chain⟩
 | n+9,h=>absurd h (by omega)
theorem isM10{K:PySem.W.Frag}{mg:Str->Option Value}{t:Adr}(T:Tx K mg t):∀ {i:Nat},i < 10->IsC K (clM t i)∧PySem.W.kitOne K (.ref (clM t i)) (.ref t.a_Move)=some true
 | 0,_=>⟨T.is_Move,T.k_Move_Move⟩
 | 1,_=>⟨T.is_Slice,T.k_Slice_Move⟩
 | 2,_=>⟨T.is_Pick,T.k_Pick_Move⟩
 | 3,_=>⟨T.is_Turn,T.k_Turn_Move⟩
 | 4,_=>⟨T.is_Fresh,T.k_Fresh_Move⟩
 | 5,_=>⟨T.is_Spread,T.k_Spread_Move⟩
 | 6,_=>⟨T.is_Cut,T.k_Cut_Move⟩
 | 7,_=>⟨T.is_Window,T.k_Window_Move⟩
 | 8,_=>⟨T.is_Diagonal,T.k_Diagonal_Move⟩
 | 9,_=>⟨T.is_Chain,T.k_Chain_Move⟩
 | n+10,h=>absurd h (by omega)
theorem MvF.cls{t:Adr}{F H:Hp}{v:Addr}{x:Tl}(h:MvF t F H v x):∃ dx fs,H v=some (.ins (clM t x.1) dx fs):=by
 rcases h with ⟨h1,dx,h2⟩|⟨h1,dx,l,h2,_⟩
 ·exact⟨dx,_,h2⟩
 ·exact⟨dx,_,by rw [h1];exact h2⟩
theorem MvT.cls{t:Adr}{F H:Hp}:∀ {a:Tr}{y:V},MvT t F H a y->okT a->∃ v i dx fs,y=.ref v∧i < 10∧H v=some (.ins (clM t i) dx fs)
 | .mv x,y,h,ok=>by
  unfold MvT at h
  unfold okT at ok
  obtain⟨v,h1,h2⟩:=h
  obtain⟨dx,fs,h3⟩:=h2.cls
  exact⟨v,x.1,dx,fs,h1,by have:=ok.k;omega,h3⟩
 | .ch l,y,h,ok=>by
  unfold MvT at h
  obtain⟨v,dx,q,vs,h1,h2,_⟩:=h
  exact⟨v,9,dx,_,h1,by decide,h2⟩
abbrev B_spOthM(t:Adr)(v:Addr)(H:Hp)(Q:VK)(E:XK):Prop:=∃ (F:Hp) (x:Tl),MvF t F H v x∧x.1 < 9∧Q (.int 1) H
def spOthM(t:Adr):Sp:=fun vs H Q E=>∃ (v:Addr),vs=[.ref v]∧(B_spOthM t v H Q E)
theorem l_spOthM(t:Adr){vs:List V}{H:Hp}{Q:VK}{E:XK}(h:spOthM t vs H Q E):vs.length=1:=spl1 h fun _=>rfl
theorem ok_others_mv(T:Tx K mg t):FnOk P t.w K mg base CX0 2 t.a_others_in t.d_others_in ["move"] (spOthM t):=by
 have G_others_in:FnOk P t.w K mg base CX0 1 t.a_others_in t.d_others_in ["move"] (fun _ _ _ _=>False):=no_ok
 refine T.F_others_in.ok c_others_in (fun vs H Q E h=>l_spOthM _ h) (fun cdv A outer s H vs Q E hr h=>?_)
 ·obtain⟨v,rfl,F,x,mv,h9,k⟩:=h
  refine⟨_,(@pss_cons _ _ _ _ _ (@ps_if _ _ _ _ _ _ _ _ (@pt_valN _ _ _ (@pe_callB _ _ _ _ _ _ _ ("isinstance") _ (call_nIsK (K:=K) rfl) (by rfl) T.z_isinstance (by decide +kernel) (@pa_c _ _ _ _ _ (@pvN _ 0 _ _ (by rfl) (by trivial) (by decide) (by decide)) (@pa_c _ _ _ _ _ (@pe_glob _ _ (.ref t.a_Chain) _ _ (by rfl) T.m_Chain rfl (by decide)) (@pa_nil _) (by rfl)) (by rfl)) (by decide) (by decide) (by rfl) (by rfl)) (by intros;rfl)) (@pss_one _ _ _ (@ps_ret _ _ _ _ (@pe_callB _ _ _ _ _ _ _ ("sum") _ (call_qSum rfl) (by rfl) T.z_sum (by decide +kernel) (@pa_c _ _ _ _ _ (@pe_comp _ _ _ _ _ _ _ _ _ _ _ (["part", "move"]) (1) (comp_ok (defScope s_others_in) ["move"] rfl rfl (by decide +kernel)) rfl (@pi_seq _ _ _ _ (@pe_nFld _ _ _ _ _ (@pvN _ 0 _ _ (by rfl) (by trivial) (by decide) (by decide)) rfl)) (fun C s₀ H₀ ex pn=>(@pg_name _ _ (0) _ (show List.Nodup (["part", "move"]:List Str) from by decide +kernel) rfl (Or.inl rfl) (by trivial))) (fun C s₀ H₀ ex pn=>(@pts_nil _)) (fun C s₀ H₀ ex pn=>(@pe_call _ _ _ _ _ _ _ _ _ _ _ _ _ _ _ _ G_others_in (hr.mono (by decide)) (by rfl) T.m_others_in T.F_others_in.kp T.b_others_in .nil pass0 (@pa_c _ _ _ _ _ (@pvN _ 0 _ _ (by rfl) (by trivial) (by decide) (by decide)) (@pa_nil _) (by rfl)) (by decide) (by rfl) (by rfl))) (by intros;rfl)) (@pa_nil _) (by rfl)) (by decide) (by decide) (by rfl) (by rfl)))) (@pss_nil _)) (@pss_one _ _ _ (@ps_ret _ _ _ _ (@pe_int _ _ _ _)))),?_⟩
  rw [show start ["move"] [.ref v]=[some (.ref v)] from rfl]
  clear G_others_in
  obtain⟨dx,fs,hv⟩:=mv.cls
  obtain⟨i1,i2⟩:=isC9 T h9
  simp! only [and_true]
  refine use_isK hv i1 i2 ?_
  simp! only [and_true]
abbrev B_spOthT(t:Adr)(n:Nat)(v:V)(H:Hp)(Q:VK)(E:XK):Prop:=∃ (F:Hp) (a:Tr),MvT t F H a v∧okT a∧deepN a≤n∧∀ H',Ext H H'->Q (.int ((leafN a:Nat):Int)) H'
def spOthT(t:Adr)(n:Nat):Sp:=fun vs H Q E=>∃ (v:V),vs=[v]∧(B_spOthT t n v H Q E)
theorem c_spOthT(t:Adr)(n:Nat)(v:V)(H:Hp)(Q:VK)(E:XK):spOthT t n [v] H Q E=(B_spOthT t n v H Q E):=spx1 (f:=fun (v:V)=>[v]) (fun _ _ h=>by cases h;exact rfl) v
theorem ok_others_ch(T:Tx K mg t){n:Nat}(G_others_in:FnOk P t.w K mg base CX0 (n+2) t.a_others_in t.d_others_in ["move"] (spOthT t n)):FnOk P t.w K mg base CX0 (n+3) t.a_others_in t.d_others_in ["move"] (fun vs H Q E=>∃ y,vs=[y]∧∃ (F:Hp) (l:List Tr),MvT t F H (.ch l) y∧okT (.ch l)∧deeps l≤n∧∀ H',Ext H H'->Q (.int ((leafs l:Nat):Int)) H'):=by
 refine T.F_others_in.ok c_others_in (fun vs H Q E h=>by obtain⟨r,rfl,_⟩:=h;rfl) (fun cdv A outer s H vs Q E hr h=>?_)
 ·obtain⟨y,rfl,F,l,mv,ok,hn,k⟩:=h
  unfold MvT at mv
  unfold okT at ok
  obtain⟨v,dx,q,vs,rfl,hv,_,hq,ms⟩:=mv
  have al:=ms.al
  have c1:=T.cl_Chain
  have n0:=T.na_Chain_moves
  have l0:([("moves",V.ref q)]:List (Str × V)).lookup (Str.ofString "moves")=some (V.ref q):=by rfl
  refine⟨_,(@pss_cons _ _ _ _ _ (@ps_if _ _ _ _ _ _ _ _ (@pt_valN _ _ _ (@pe_callB _ _ _ _ _ _ _ ("isinstance") _ (call_nIsK (K:=K) rfl) (by rfl) T.z_isinstance (by decide +kernel) (@pa_c _ _ _ _ _ (@pvN _ 0 _ _ (by rfl) (by trivial) (by decide) (by decide)) (@pa_c _ _ _ _ _ (@pe_glob _ _ (.ref t.a_Chain) _ _ (by rfl) T.m_Chain rfl (by decide)) (@pa_nil _) (by rfl)) (by rfl)) (by decide) (by decide) (by rfl) (by rfl)) (by intros;rfl)) (@pss_one _ _ _ (@ps_ret _ _ _ _ (@pe_callB _ _ _ _ _ _ _ ("sum") _ (call_qSum rfl) (by rfl) T.z_sum (by decide +kernel) (@pa_c _ _ _ _ _ (@pe_comp _ _ _ _ _ _ _ _ _ _ _ (["part", "move"]) (1) (comp_ok (defScope s_others_in) ["move"] rfl rfl (by decide +kernel)) rfl (@pi_seq _ _ _ _ (@pe_nFld _ _ _ _ _ (@pvN _ 0 _ _ (by rfl) (by trivial) (by decide) (by decide)) rfl)) (fun C s₀ H₀ ex pn=>(@pg_name _ _ (0) _ (show List.Nodup (["part", "move"]:List Str) from by decide +kernel) rfl (Or.inl rfl) (by trivial))) (fun C s₀ H₀ ex pn=>(@pts_nil _)) (fun C s₀ H₀ ex pn=>(@pe_call _ _ _ _ _ _ _ _ _ _ _ _ _ _ _ _ G_others_in (hr.mono (show n+2≤n+2 by first|decide|omega)) (by rfl) T.m_others_in T.F_others_in.kp T.b_others_in .nil pass0 (@pa_c _ _ _ _ _ (@pvN _ 0 _ _ (by rfl) (by trivial) (by decide) (by decide)) (@pa_nil _) (by rfl)) (by decide) (by rfl) (by rfl))) (by intros;rfl)) (@pa_nil _) (by rfl)) (by decide) (by decide) (by rfl) (by rfl)))) (@pss_nil _)) (@pss_one _ _ _ (@ps_ret _ _ _ _ (@pe_int _ _ _ _)))),?_⟩
  rw [show start ["move"] [.ref v]=[some (.ref v)] from rfl]
  clear G_others_in ms
  replace k:=fun (_:Unit)=>k
  have ok40:=ok.1
  have oks:=ok.2.mem
  replace oks:=fun (_:Unit)=>oks
  replace al:=fun (_:Unit)=>al
  replace hn:=fun (_:Unit)=>hn
  clear ok
  have i1:=T.is_Chain
  have i2:=T.k_Chain_Chain
  simp! only [and_true]
  refine use_isK hv i1 i2 ?_
  simp! only [and_true]
  have wk:=wk_al (K:=K) (R:=fun a y H=>MvT t F H a y) (fun _ _ _ _ h e=>h.ext e) hq (al ())
  refine comp_fm l (fun _=>true) (fun a=>.int ((leafN a:Nat):Int)) (fun a y H=>MvT t F H a y) wk.1 wk.2 (len5000 (by omega)) ?_ ?_
  ·intro D a y H' N1 N0 ha hD e hy k1 _
   have k1':=k1 rfl
   have oka:=oks () a ha
   have hd:=deeps_le ha
   clear k1 wk
   simp! only [↓m_kCm_1,↓m_kCm2]
   rw [c_spOthT]
   exact⟨F,a,hy,oka,by have:=hn ();omega,fun H'' e'=>k1' H'' e'⟩
  ·intro D H1 hD e1 hD1
   have hD3:H1 D=some (.lst ((l.map fun a=>((leafN a:Nat):Int)).map V.int)):=by rw [hD1,filt,List.map_map];rfl
   have k2:=k () H1 e1
   rw [leafs_sum] at k2
   clear k hD1 wk
   generalize (l.map fun a=>((leafN a:Nat):Int))=ns at hD3 k2
   simp! only [and_true]
theorem ok_others_in(T:Tx K mg t):∀ n:Nat,FnOk P t.w K mg base CX0 (n+2) t.a_others_in t.d_others_in ["move"] (spOthT t n)
 | 0=>(ok_others_mv T).imp fun vs H Q E h=>by
  obtain⟨y,rfl,F,a,mv,ok,h0,k⟩:=h
  cases a with
  | ch l=>exact absurd h0 (by show ¬ deeps l+1≤0;omega)
  | mv x=>
   unfold MvT at mv
   unfold okT at ok
   obtain⟨v,rfl,mv⟩:=mv
   exact⟨v,rfl,F,x,mv,ok.k,k H (Ext.refl _)⟩
 | n+1=>by
  have G0:=(ok_others_mv (P:=P) (base:=base) T).mono (show 2≤n+1+2 by omega)
  have GC:=ok_others_ch (P:=P) (base:=base) T (ok_others_in T n)
  refine⟨fun vs H Q E h=>by obtain⟨r,rfl,_⟩:=h;rfl,fun A outer s H args us vs Q E hr e b r h=>?_⟩
  obtain⟨y,rfl,F,a,mv,ok,h0,k⟩:=h
  cases a with
  | ch l=>exact GC.run A outer s H args us _ Q E hr e b r ⟨y,rfl,F,l,mv,ok,by have:deeps l+1≤n+1:=h0;omega,k⟩
  | mv x=>
   unfold MvT at mv
   unfold okT at ok
   obtain⟨v,rfl,mv⟩:=mv
   exact G0.run A outer s H args us _ Q E hr e b r ⟨v,rfl,F,x,mv,ok.k,k H (Ext.refl _)⟩
abbrev B_spMMT(t:Adr)(n:Nat)(r:V)(d:Int)(H:Hp)(Q:VK)(E:XK):Prop:=∃ (F:Hp) (a:Tr),TrF F H a r∧okT a∧deepN a≤n∧0≤d∧d+((deepN a:Nat):Int)≤4∧leafN a≤40∧∀ (y:V) (H':Hp),Ext H H'->MvT t H H' a y->Q y H'
def spMMT(t:Adr)(n:Nat):Sp:=fun vs H Q E=>∃ (r:V) (d:Int),vs=[r,.int d]∧(B_spMMT t n r d H Q E)
theorem c_spMMT(t:Adr)(n:Nat)(r:V)(d:Int)(H:Hp)(Q:VK)(E:XK):spMMT t n [r,.int d] H Q E=(B_spMMT t n r d H Q E):=spx2 (f:=fun (r:V) (d:Int)=>[r,.int d]) (fun _ _ _ _ h=>by cases h;exact⟨rfl,rfl⟩) r d
abbrev B_spMCT(t:Adr)(n:Nat)(r:V)(d:Int)(H:Hp)(Q:VK)(E:XK):Prop:=∃ (F:Hp) (l:List Tr),TrF F H (.ch l) r∧okT (.ch l)∧deeps l≤n∧1≤d∧d+((deeps l:Nat):Int)≤4∧leafs l≤40∧∀ (y:V) (H':Hp),Ext H H'->MvT t H H' (.ch l) y->Q y H'
def spMCT(t:Adr)(n:Nat):Sp:=fun vs H Q E=>∃ (r:V) (d:Int),vs=[r,.int d]∧(B_spMCT t n r d H Q E)
theorem c_spMCT(t:Adr)(n:Nat)(r:V)(d:Int)(H:Hp)(Q:VK)(E:XK):spMCT t n [r,.int d] H Q E=(B_spMCT t n r d H Q E):=spx2 (f:=fun (r:V) (d:Int)=>[r,.int d]) (fun _ _ _ _ h=>by cases h;exact⟨rfl,rfl⟩) r d
theorem l_spMCT(t:Adr)(n:Nat){vs:List V}{H:Hp}{Q:VK}{E:XK}(h:spMCT t n vs H Q E):vs.length=2:=spl2 h fun _ _=>rfl
theorem ok_made_ch(T:Tx K mg t){n:Nat}(G_made_move:FnOk P t.w K mg base CX0 (2 * n+4) t.a_made_move t.d_made_move ["told", "deep"] (spMMT t n)):FnOk P t.w K mg base CX0 (2 * n+5) t.a_made_chain t.d_made_chain ["told", "deep"] (spMCT t n):=by
 have G_refuse_told:=ok_refuse_told (P:=P) (base:=base) T
 have G_list_in:=ok_list_in (P:=P) (base:=base) T
 have G_others_in:=ok_others_in (P:=P) (base:=base) T n
 have G_Chain___init__:=ok_Chain___init__ (P:=P) (base:=base) T
 refine T.F_made_chain.ok c_made_chain (fun vs H Q E h=>l_spMCT _ _ h) (fun cdv A outer s H vs Q E hr h=>?_)
 ·obtain⟨r,d,rfl,F,xs,tr,ok,hn,d1,d4,l40,k⟩:=h
  unfold TrF at tr
  unfold okT at ok
  obtain⟨p,l,rs,rfl,hp,_,hl,trs⟩:=tr
  have al:=trs.al
  refine⟨_,(@pss_cons _ _ _ _ _ (@ps_set _ _ (2) _ _ _ _ c_made_chain.nd rfl (Or.inl rfl) (@pe_call _ _ _ _ _ _ _ _ _ _ _ _ _ _ _ _ G_list_in (hr.mono (show 2≤2 * n+4 by first|decide|omega)) (by rfl) T.m_list_in T.F_list_in.kp T.b_list_in .nil pass0 (@pa_c _ _ _ _ _ (@pvN _ 0 _ _ (by rfl) (by trivial) (by decide) (by decide)) (@pa_nil _) (by rfl)) (by decide) (by rfl) (by rfl)) (by rfl) (by trivial)) (@pss_cons _ _ _ _ _ (@ps_expr _ _ _ _ (@pe_call _ _ _ _ _ _ _ _ _ _ _ _ _ _ _ _ G_refuse_told (hr.mono (show 1≤2 * n+4 by first|decide|omega)) (by rfl) T.m_refuse_told T.F_refuse_told.kp T.b_refuse_told .nil pass0 (@pa_c _ _ _ _ _ (@pe_andN _ _ _ _ _ _ _ (@pe_cmpR _ _ _ _ _ _ _ _ on_le (@pvN _ 1 _ _ (by rfl) (by trivial) (by decide) (by decide)) (@pe_glob _ _ (.int 4) _ _ (by rfl) T.m_MOST_DEEP.choose_spec ⟨_,rfl⟩ (by decide)) (nomark _)) (@pe_one _ _ _ _ _ (@pe_cmpR _ _ _ _ _ _ _ _ on_le (@pe_callB _ _ _ _ _ _ _ ("len") _ call_qLen (by rfl) T.z_len (by decide +kernel) (@pa_c _ _ _ _ _ (@pvN _ 2 _ _ (by rfl) (by trivial) (by decide) (by decide)) (@pa_nil _) (by rfl)) (by decide) (by decide) (by rfl) (by rfl)) (@pe_glob _ _ (.int 40) _ _ (by rfl) T.m_MOST_MOVES.choose_spec ⟨_,rfl⟩ (by decide)) (nomark _)))) (@pa_nil _) (by rfl)) (by decide) (by rfl) (by rfl)) (by rfl)) (@pss_cons _ _ _ _ _ (@ps_set _ _ (3) _ _ _ _ c_made_chain.nd rfl (Or.inl rfl) (@pe_qLst _ _ _ _ (@pa_nil _)) (by rfl) (by trivial)) (@pss_cons _ _ _ _ _ (@ps_set _ _ (4) _ _ _ _ c_made_chain.nd rfl (Or.inl rfl) (@pe_int _ _ _ _) (by rfl) (by trivial)) (@pss_cons _ _ _ _ _ (@ps_for _ _ _ _ _ _ _ _ PassesOwn.never rfl (@pi_seq _ _ _ _ (@pvN _ 2 _ _ (by rfl) (by trivial) (by decide) (by decide))) (@pg_name _ _ (5) _ c_made_chain.nd rfl (Or.inl rfl) (by trivial)) (@pss_cons _ _ _ _ _ (@ps_set _ _ (6) _ _ _ _ c_made_chain.nd rfl (Or.inl rfl) (@pe_call _ _ _ _ _ _ _ _ _ _ _ _ _ _ _ _ G_made_move (hr.mono (show 2 * n+4≤2 * n+4 by first|decide|omega)) (by rfl) T.m_made_move T.F_made_move.kp T.b_made_move .nil pass0 (@pa_c _ _ _ _ _ (@pvN _ 5 _ _ (by rfl) (by trivial) (by decide) (by decide)) (@pa_c _ _ _ _ _ (@pvN _ 1 _ _ (by rfl) (by trivial) (by decide) (by decide)) (@pa_nil _) (by rfl)) (by rfl)) (by decide) (by rfl) (by rfl)) (by rfl) (by trivial)) (@pss_cons _ _ _ _ _ (@ps_set _ _ (4) _ _ _ _ c_made_chain.nd rfl (Or.inl rfl) (@pe_op _ _ _ _ _ _ _ _ on_add (@pvN _ 4 _ _ (by rfl) (by trivial) (by decide) (by decide)) (@pe_call _ _ _ _ _ _ _ _ _ _ _ _ _ _ _ _ G_others_in (hr.mono (show n+2≤2 * n+4 by first|decide|omega)) (by rfl) T.m_others_in T.F_others_in.kp T.b_others_in .nil pass0 (@pa_c _ _ _ _ _ (@pvN _ 6 _ _ (by rfl) (by trivial) (by decide) (by decide)) (@pa_nil _) (by rfl)) (by decide) (by rfl) (by rfl))) (by rfl) (by trivial)) (@pss_cons _ _ _ _ _ (@ps_expr _ _ _ _ (@pe_call _ _ _ _ _ _ _ _ _ _ _ _ _ _ _ _ G_refuse_told (hr.mono (show 1≤2 * n+4 by first|decide|omega)) (by rfl) T.m_refuse_told T.F_refuse_told.kp T.b_refuse_told .nil pass0 (@pa_c _ _ _ _ _ (@pe_cmpR _ _ _ _ _ _ _ _ on_le (@pvN _ 4 _ _ (by rfl) (by trivial) (by decide) (by decide)) (@pe_glob _ _ (.int 40) _ _ (by rfl) T.m_MOST_MOVES.choose_spec ⟨_,rfl⟩ (by decide)) (nomark _)) (@pa_nil _) (by rfl)) (by decide) (by rfl) (by rfl)) (by rfl)) (@pss_one _ _ _ (@ps_expr _ _ _ _ (@pe_bm _ _ _ _ _ _ _ _ _ _ _ _ PySem.F.plainAttrs_list PySem.F.slot_list_append PySem.F.type_list_append mt_append (@pvN _ 3 _ _ (by rfl) (by trivial) (by decide) (by decide)) (@pa_c _ _ _ _ _ (@pvN _ 6 _ _ (by rfl) (by trivial) (by decide) (by decide)) (@pa_nil _) (by rfl)) (by rfl) (by rfl) (by rfl) (by rfl) (by rfl)) (by rfl)))))) (by intros;rfl)) (@pss_one _ _ _ (@ps_ret _ _ _ _ (@pe_nMake _ _ _ _ _ _ _ _ _ _ _ _ _ _ _ _ _ T.mk_Chain G_Chain___init__ (hr.mono (show 1+1≤2 * n+4 by first|decide|omega)) (by rfl) T.m_Chain T.b_Chain___init__ .nil pass0 (@pa_c _ _ _ _ _ (@pvN _ 3 _ _ (by rfl) (by trivial) (by decide) (by decide)) (@pa_nil _) (by rfl)) (by decide) (by rfl) (by rfl))))))))),?_⟩
  rw [show start ["told", "deep", "parts", "moves", "others", "part", "move"] [.ref p,.int d]=[some (.ref p),some (.int d),none,none,none,none,none] from rfl]
  clear G_refuse_told G_list_in G_made_move G_others_in G_Chain___init__ trs
  replace k:=fun (_:Unit)=>k
  have h40:=ok.1
  have oks:=ok.2.mem
  replace oks:=fun (_:Unit)=>oks
  have hrl:rs.length=xs.length:=al.1
  replace hrl:=fun (_:Unit)=>hrl
  replace hn:=fun (_:Unit)=>hn
  clear ok
  simp! only [and_true]
  rw [c_spLstIn]
  refine⟨_,l,_,hp,hl,?_⟩
  have hr40:(rs.length:Int)≤40:=by have:=hrl ();omega
  have hd4:d≤4:=by omega
  have hrs:rs.length≤sizeLine:=len5000 (by omega)
  simp! only [and_true]
  rw [c_spRT]
  refine⟨rfl,?_⟩
  simp! only [and_true]
  intro m H1 hm e1 h1
  have hl1:=e1.at hl
  simp! only [and_true]
  refine for_lst (xs:=rs) (fun i σ H'=>∃ (vs:List V) (v5 v6:Option V),σ=[some (.ref p),some (.int d),some (.ref l),some (.ref m),some (.int ((leafs (xs.take i):Nat):Int)),v5,v6]∧Ext H H'∧H' m=some (.lst vs)∧Al (fun a v=>MvT t (upd H m (.lst [])) H' a v) (xs.take i) vs) ⟨[],none,none,rfl,e1,h1,by rw [List.take_zero];exact Al.nil⟩ (fun i σ H' _ ⟨_,_,_,_,e,_⟩=>e.at hl) ?_ ?_
  ·rintro i y _ H2 hi ⟨vs,v5,v6,rfl,e2,h2,al2⟩
   have hi':i < rs.length:=(List.getElem?_eq_some_iff.mp hi).1
   have hix:i < xs.length:=by have:=hrl ();omega
   have hx:xs[i]? = some xs[i]:=List.getElem?_eq_getElem hix
   have ty:=(al.2 i _ y hx hi).ext e2
   have hmem:=List.getElem_mem hix
   have okx:=oks () _ hmem
   have dx:=deeps_le hmem
   have htk:xs.take (i+1)=xs.take i++[xs[i]]:=by rw [List.take_succ,hx];rfl
   have hlf:leafs (xs.take (i+1))=leafs (xs.take i)+leafN xs[i]:=by
    rw [htk,leafs_app]
    show _+(leafN xs[i]+0)=_
    omega
   have hle:=leafs_take (l:=xs) (n:=i+1)
   generalize xs[i]=x at ty okx htk hx hlf dx hmem
   clear hl1
   have hlf2:((leafs (xs.take i++[x]):Nat):Int)=((leafs (xs.take i):Nat):Int)+((leafN x:Nat):Int):=by rw [←htk,hlf];exact Int.natCast_add _ _
   replace hlf:=fun (_:Unit)=>hlf
   replace hlf2:=fun (_:Unit)=>hlf2
   simp! only [↓m_kBody]
   rw [c_spMMT]
   refine⟨F,x,ty,okx,by have:=hn ();omega,by omega,by omega,by have:=hlf ();omega,fun v H3 e3 mv=>?_⟩
   have h3:=e3.at h2
   simp! only [and_true]
   rw [c_spOthT]
   refine⟨_,x,mv,okx,by have:=hn ();omega,fun H4 e4=>?_⟩
   have h4:=e4.at h3
   have hle4:((leafs (xs.take i):Nat):Int)+((leafN x:Nat):Int)≤40:=by have:=hlf ();omega
   have hvl:vs.length < 5000:=by rw [al2.1,List.length_take];omega
   clear h3
   simp! only [and_true]
   rw [c_spRT]
   refine⟨rfl,?_⟩
   simp! only [and_true]
   refine⟨lt5000 hvl,vs++[v],some y,some v,?_,(e2.trans (e3.trans e4)).put hm,rfl,?_⟩
   ·rw [hlf2 ()]
   ·have e24:=e3.trans e4
    refine Al.snoc (al2.imp fun _ _ q=>MvT.put h4 (q.ext e24)) (MvT.put h4 (MvT.fm e2 h2 (mv.ext e4)))
  ·rintro _ H2 ⟨vs,v5,v6,rfl,e2,h2,al2⟩
   rw [hrl (),List.take_length] at al2
   simp! only [and_true]
   intro v dx G hx hd hq g k1 kk
   rw [c_spInChain]
   refine⟨dx,_,k1,g.at h2,by rw [al2.1];omega,fun H3 D gg hD h3 d3=>?_⟩
   have j:=gg H2 g hx
   have fr:H D=none:=e2.free (g.free hD)
   clear k1 kk hd hq gg hD
   simp! only [and_true]
   refine k () _ H3 (e2.trans j) ?_
   unfold MvT
   exact⟨v,dx,D,vs,rfl,h3,fr,d3,MvTs.of (al2.imp fun _ _ q=>(q.ext j).less (Ext.new hm))⟩
theorem ok_made_mc(T:Tx K mg t){n:Nat}(G_made_chain:FnOk P t.w K mg base CX0 (2 * n+5) t.a_made_chain t.d_made_chain ["told", "deep"] (spMCT t n)):FnOk P t.w K mg base CX0 (2 * n+6) t.a_made_move t.d_made_move ["told", "deep"] (fun vs H Q E=>∃ (r:V) (d:Int),vs=[r,.int d]∧∃ (F:Hp) (l:List Tr),TrF F H (.ch l) r∧okT (.ch l)∧deeps l≤n∧0≤d∧d+1+((deeps l:Nat):Int)≤4∧leafs l≤40∧∀ (y:V) (H':Hp),Ext H H'->MvT t H H' (.ch l) y->Q y H'):=by
 have G_refuse_told:=ok_refuse_told (P:=P) (base:=base) T
 have FD_MAKERS:=FDm (P:=P) (base:=base) T
 refine T.F_made_move.ok c_made_move (fun vs H Q E h=>by obtain⟨r,d,rfl,_⟩:=h;rfl) (fun cdv A outer s H vs Q E hr h=>?_)
 ·obtain⟨r,d,rfl,F,l,tr,ok,hn,d0,d4,l40,k⟩:=h
  have tr':=tr
  unfold TrF at tr'
  obtain⟨p,q,rs,rfl,hp,_,hl,_⟩:=tr'
  refine⟨_,(@pss_cons _ _ _ _ _ (@ps_expr _ _ _ _ (@pe_call _ _ _ _ _ _ _ _ _ _ _ _ _ _ _ _ G_refuse_told (hr.mono (show 1≤2 * n+5 by first|decide|omega)) (by rfl) T.m_refuse_told T.F_refuse_told.kp T.b_refuse_told .nil pass0 (@pa_c _ _ _ _ _ (@pe_andN _ _ _ _ _ _ _ (@pe_callB _ _ _ _ _ _ _ ("isinstance") _ call_qIsi (by rfl) T.z_isinstance (by decide +kernel) (@pa_c _ _ _ _ _ (@pvN _ 0 _ _ (by rfl) (by trivial) (by decide) (by decide)) (@pa_c _ _ _ _ _ (@pe_bltn _ _ (.ty "tuple") (.type "tuple") _ (by rfl) T.z_tuple (by decide +kernel) rfl (by decide) (by decide)) (@pa_nil _) (by rfl)) (by rfl)) (by decide) (by decide) (by rfl) (by rfl)) (@pe_andN _ _ _ _ _ _ _ (@pe_cmpR _ _ _ _ _ _ _ _ on_gt (@pe_callB _ _ _ _ _ _ _ ("len") _ call_qLen (by rfl) T.z_len (by decide +kernel) (@pa_c _ _ _ _ _ (@pvN _ 0 _ _ (by rfl) (by trivial) (by decide) (by decide)) (@pa_nil _) (by rfl)) (by decide) (by decide) (by rfl) (by rfl)) (@pe_int _ _ _ _) (nomark _)) (@pe_one _ _ _ _ _ (@pe_callB _ _ _ _ _ _ _ ("isinstance") _ call_qIsi (by rfl) T.z_isinstance (by decide +kernel) (@pa_c _ _ _ _ _ (@pe_ix _ _ _ _ _ _ _ ix_q (@pvN _ 0 _ _ (by rfl) (by trivial) (by decide) (by decide)) (@pe_int _ _ _ _) (fun _ _=>rfl)) (@pa_c _ _ _ _ _ (@pe_bltn _ _ (.ty "str") (.type "str") _ (by rfl) T.z_str (by decide +kernel) rfl (by decide) (by decide)) (@pa_nil _) (by rfl)) (by rfl)) (by decide) (by decide) (by rfl) (by rfl))))) (@pa_nil _) (by rfl)) (by decide) (by rfl) (by rfl)) (by rfl)) (@pss_cons _ _ _ _ _ (@ps_if _ _ _ _ _ _ _ _ (@pt_cmpRN _ _ _ _ _ _ _ _ (op_qEq hr.units) (@pe_ix _ _ _ _ _ _ _ ix_q (@pvN _ 0 _ _ (by rfl) (by trivial) (by decide) (by decide)) (@pe_int _ _ _ _) (fun _ _=>rfl)) (@pe_str _ _ _ _) (nomark _)) (@pss_one _ _ _ (@ps_ret _ _ _ _ (@pe_call _ _ _ _ _ _ _ _ _ _ _ _ _ _ _ _ G_made_chain (hr.mono (show 2 * n+5≤2 * n+5 by first|decide|omega)) (by rfl) T.m_made_chain T.F_made_chain.kp T.b_made_chain .nil pass0 (@pa_c _ _ _ _ _ (@pvN _ 0 _ _ (by rfl) (by trivial) (by decide) (by decide)) (@pa_c _ _ _ _ _ (@pe_op _ _ _ _ _ _ _ _ on_add (@pvN _ 1 _ _ (by rfl) (by trivial) (by decide) (by decide)) (@pe_int _ _ _ _)) (@pa_nil _) (by rfl)) (by rfl)) (by decide) (by rfl) (by rfl)))) (@pss_nil _)) (@pss_cons _ _ _ _ _ (@ps_expr _ _ _ _ (@pe_call _ _ _ _ _ _ _ _ _ _ _ _ _ _ _ _ G_refuse_told (hr.mono (show 1≤2 * n+5 by first|decide|omega)) (by rfl) T.m_refuse_told T.F_refuse_told.kp T.b_refuse_told .nil pass0 (@pa_c _ _ _ _ _ (@pe_cmpR _ _ _ _ _ _ _ _ op_inK (@pe_ix _ _ _ _ _ _ _ ix_q (@pvN _ 0 _ _ (by rfl) (by trivial) (by decide) (by decide)) (@pe_int _ _ _ _) (fun _ _=>rfl)) (@pe_glob _ _ (.ref t.a_MAKERS) _ _ (by rfl) T.m_MAKERS rfl (by decide)) (by with_unfolding_all rfl)) (@pa_nil _) (by rfl)) (by decide) (by rfl) (by rfl)) (by rfl)) (@pss_one _ _ _ (@ps_ret _ _ _ _ (@pe_callV _ _ _ _ _ _ _ _ _ _ _ _ _ (@pe_dgetK _ _ _ _ _ _ (@pe_glob _ _ (.ref t.a_MAKERS) _ _ (by rfl) T.m_MAKERS rfl (by decide)) (@pe_ix _ _ _ _ _ _ _ ix_q (@pvN _ 0 _ _ (by rfl) (by trivial) (by decide) (by decide)) (@pe_int _ _ _ _) (fun _ _=>rfl)) (fun _ _=>rfl)) FD_MAKERS (hr.mono (show 3≤2 * n+5 by first|decide|omega)) pass0 (@pa_c _ _ _ _ _ (@pvN _ 0 _ _ (by rfl) (by trivial) (by decide) (by decide)) (@pa_nil _) (by rfl)) (by rfl) (by rfl) (by rfl))))))),?_⟩
  rw [show start ["told", "deep"] [.ref p,.int d]=[some (.ref p),some (.int d)] from rfl]
  clear G_refuse_told G_made_chain FD_MAKERS
  replace k:=fun (_:Unit)=>k
  replace ok:=fun (_:Unit)=>ok
  replace tr:=fun (_:Unit)=>tr
  simp! only [and_true]
  rw [c_spRT]
  refine⟨rfl,?_⟩
  simp! only [and_true]
  rw [c_spMCT]
  exact⟨F,l,tr (),ok (),hn,by omega,by omega,l40,fun v H' e cf=>k () v H' e cf⟩
theorem ok_made_mt(T:Tx K mg t):∀ n:Nat,FnOk P t.w K mg base CX0 (2 * n+4) t.a_made_move t.d_made_move ["told", "deep"] (spMMT t n)
 | 0=>(ok_made_move T).imp fun vs H Q E h=>by
  obtain⟨r,d,rfl,F,a,tr,ok,h0,d0,d4,l40,k⟩:=h
  cases a with
  | ch l=>exact absurd h0 (by show ¬ deeps l+1≤0;omega)
  | mv x=>
   unfold TrF at tr
   unfold okT at ok
   exact⟨r,d,rfl,F,x,tr,ok,fun v H' e mv=>k _ H' e (by unfold MvT;exact⟨v,rfl,mv⟩)⟩
 | n+1=>by
  have G0:=(ok_made_move (P:=P) (base:=base) T).mono (show 4≤2 * (n+1)+4 by omega)
  have GC:=(ok_made_mc (P:=P) (base:=base) T (ok_made_ch T (ok_made_mt T n))).mono (show 2 * n+6≤2 * (n+1)+4 by omega)
  refine⟨fun vs H Q E h=>by obtain⟨r,d,rfl,_⟩:=h;rfl,fun A outer s H args us vs Q E hr e b r h=>?_⟩
  obtain⟨y,d,rfl,F,a,tr,ok,h0,d0,d4,l40,k⟩:=h
  cases a with
  | ch l=>
   have h0':deeps l+1≤n+1:=h0
   have d4':d+((deeps l+1:Nat):Int)≤4:=d4
   exact GC.run A outer s H args us _ Q E hr e b r ⟨y,d,rfl,F,l,tr,ok,by omega,d0,by omega,l40,k⟩
  | mv x=>
   unfold TrF at tr
   unfold okT at ok
   exact G0.run A outer s H args us _ Q E hr e b r ⟨y,d,rfl,F,x,tr,ok,fun v H' e mv=>k _ H' e (by unfold MvT;exact⟨v,rfl,mv⟩)⟩
abbrev B_spMvO(t:Adr)(r:V)(H:Hp)(Q:VK)(E:XK):Prop:=∃ (F:Hp) (a:Tr),TrF F H a r∧okT a∧deepN a≤4∧leafN a≤40∧∀ (y:V) (H':Hp),Ext H H'->MvT t H H' a y->Q y H'
def spMvO(t:Adr):Sp:=fun vs H Q E=>∃ (r:V),vs=[r]∧(B_spMvO t r H Q E)
theorem c_spMvO(t:Adr)(r:V)(H:Hp)(Q:VK)(E:XK):spMvO t [r] H Q E=(B_spMvO t r H Q E):=spx1 (f:=fun (r:V)=>[r]) (fun _ _ h=>by cases h;exact rfl) r
theorem l_spMvO(t:Adr){vs:List V}{H:Hp}{Q:VK}{E:XK}(h:spMvO t vs H Q E):vs.length=1:=spl1 h fun _=>rfl
theorem ok_move_of(T:Tx K mg t):FnOk P t.w K mg base CX0 13 t.a_move_of t.d_move_of ["told"] (spMvO t):=by
 have G_made_move:=ok_made_mt (P:=P) (base:=base) T 4
 refine T.F_move_of.ok c_move_of (fun vs H Q E h=>l_spMvO _ h) (fun cdv A outer s H vs Q E hr h=>?_)
 ·obtain⟨r,rfl,F,a,tr,ok,h4,l40,k⟩:=h
  refine⟨_,(@pss_one _ _ _ (@ps_ret _ _ _ _ (@pe_call _ _ _ _ _ _ _ _ _ _ _ _ _ _ _ _ G_made_move (hr.mono (by decide)) (by rfl) T.m_made_move T.F_made_move.kp T.b_made_move .nil pass0 (@pa_c _ _ _ _ _ (@pvN _ 0 _ _ (by rfl) (by trivial) (by decide) (by decide)) (@pa_c _ _ _ _ _ (@pe_int _ _ _ _) (@pa_nil _) (by rfl)) (by rfl)) (by decide) (by rfl) (by rfl)))),?_⟩
  rw [show start ["told"] [r]=[some (r)] from rfl]
  clear G_made_move
  simp! only [and_true]
  rw [c_spMMT]
  exact⟨F,a,tr,ok,h4,by decide,by omega,l40,k⟩
def TlN(F:Hp)(D:Addr)(y:V)(H:Hp)(x:Tl):Prop:=∃ p,y=.ref p∧p ≠ D∧((x.1 ≠ 3∧H p=some (.tup (.str (wdM x.1)::x.2.map oV)))∨(x.1=3∧∃ l,l ≠ D∧H p=some (.tup [.str "turn",.ref l])∧F l=none∧H l=some (.lst (x.2.map oV))))
theorem TlN.ext{F H H':Hp}{D:Addr}{y:V}{x:Tl}(h:TlN F D y H x)(e:Ext H H'):TlN F D y H' x:=by
 obtain⟨p,h1,h2,⟨a,b⟩|⟨a,l,b,c,d,f⟩⟩:=h
 ·exact⟨p,h1,h2,.inl ⟨a,e.at b⟩⟩
 ·exact⟨p,h1,h2,.inr ⟨a,l,b,e.at c,d,e.at f⟩⟩
theorem TlN.put{F H:Hp}{D:Addr}{y:V}{x:Tl}{o:HO}(h:TlN F D y H x):TlN F D y (upd H D o) x:=by
 obtain⟨p,h1,h2,⟨a,b⟩|⟨a,l,b,c,d,f⟩⟩:=h
 ·exact⟨p,h1,h2,.inl ⟨a,by rw [upd_ne h2];exact b⟩⟩
 ·exact⟨p,h1,h2,.inr ⟨a,l,b,by rw [upd_ne h2];exact c,d,by rw [upd_ne b];exact f⟩⟩
theorem TlN.of{F H H':Hp}{D:Addr}{y:V}{x:Tl}{ys:List V}(h:TlF H H' y x)(e:Ext H H')(eF:Ext F H)(hD:H D=some (.lst ys)):TlN F D y H' x:=by
 obtain⟨p,h0,⟨h1,h2⟩|⟨h1,l',h2,h3,h4⟩⟩:=h
 ·exact⟨p,h0,(fun z=>by rw [z,e.at hD] at h2;cases h2),.inl ⟨h1,h2⟩⟩
 ·exact⟨p,h0,(fun z=>by rw [z,e.at hD] at h2;cases h2),.inr ⟨h1,l',(fun z=>by rw [z,hD] at h3;cases h3),h2,eF.free h3,h4⟩⟩
theorem TlN.tl{F H:Hp}{D:Addr}{y:V}{x:Tl}(h:TlN F D y H x):TlF F H y x:=by
 obtain⟨p,h1,h2,⟨a,b⟩|⟨a,l,b,c,d,f⟩⟩:=h
 ·exact⟨p,h1,.inl ⟨a,b⟩⟩
 ·exact⟨p,h1,.inr ⟨a,l,c,d,f⟩⟩
mutual
def TrN(F:Hp)(D:Addr)(H:Hp):Tr->V->Prop
 | .mv x,y=>TlN F D y H x
 | .ch l,y=>∃ (p q:Addr) (rs:List V),y=.ref p∧p ≠ D∧q ≠ D∧H p=some (.tup [.str "chain",.ref q])∧F q=none∧H q=some (.lst rs)∧TrNs F D H l rs
def TrNs(F:Hp)(D:Addr)(H:Hp):List Tr->List V->Prop
 | [],vs=>vs=[]
 | a::l,vs=>∃ v r,vs=v::r∧TrN F D H a v∧TrNs F D H l r
end
mutual
theorem TrN.ext{F H H':Hp}{D:Addr}(e:Ext H H'):∀ {a:Tr}{v:V},TrN F D H a v->TrN F D H' a v
 | .mv x,v,h=>by unfold TrN at h ⊢;exact h.ext e
 | .ch l,v,h=>by
  unfold TrN at h ⊢
  obtain⟨u,q,vs,h1,n1,n2,h2,h3,h4,h5⟩:=h
  exact⟨u,q,vs,h1,n1,n2,e.at h2,h3,e.at h4,TrNs.ext e h5⟩
theorem TrNs.ext{F H H':Hp}{D:Addr}(e:Ext H H'):∀ {l:List Tr}{vs:List V},TrNs F D H l vs->TrNs F D H' l vs
 | [],vs,h=>by unfold TrNs at h ⊢;exact h
 | a::l,vs,h=>by
  unfold TrNs at h ⊢
  obtain⟨v,r,h1,h2,h3⟩:=h
  exact⟨v,r,h1,TrN.ext e h2,TrNs.ext e h3⟩
end
mutual
theorem TrN.put{F H:Hp}{D:Addr}{o:HO}:∀ {a:Tr}{v:V},TrN F D H a v->TrN F D (upd H D o) a v
 | .mv x,v,h=>by unfold TrN at h ⊢;exact h.put
 | .ch l,v,h=>by
  unfold TrN at h ⊢
  obtain⟨u,q,vs,h1,n1,n2,h2,h3,h4,h5⟩:=h
  exact⟨u,q,vs,h1,n1,n2,by rw [upd_ne n1];exact h2,h3,by rw [upd_ne n2];exact h4,TrNs.put h5⟩
theorem TrNs.put{F H:Hp}{D:Addr}{o:HO}:∀ {l:List Tr}{vs:List V},TrNs F D H l vs->TrNs F D (upd H D o) l vs
 | [],vs,h=>by unfold TrNs at h ⊢;exact h
 | a::l,vs,h=>by
  unfold TrNs at h ⊢
  obtain⟨v,r,h1,h2,h3⟩:=h
  exact⟨v,r,h1,TrN.put h2,TrNs.put h3⟩
end
mutual
theorem TrN.of{F H H':Hp}{D:Addr}{ys:List V}(e:Ext H H')(eF:Ext F H)(hD:H D=some (.lst ys)):∀ {a:Tr}{v:V},TrF H H' a v->TrN F D H' a v
 | .mv x,v,h=>by unfold TrF at h;unfold TrN;exact TlN.of h e eF hD
 | .ch l,v,h=>by
  unfold TrF at h
  unfold TrN
  obtain⟨u,q,vs,h1,h2,h3,h4,h5⟩:=h
  exact⟨u,q,vs,h1,(fun z=>by rw [z,e.at hD] at h2;cases h2),(fun z=>by rw [z,hD] at h3;cases h3),h2,eF.free h3,h4,TrNs.of e eF hD h5⟩
theorem TrNs.of{F H H':Hp}{D:Addr}{ys:List V}(e:Ext H H')(eF:Ext F H)(hD:H D=some (.lst ys)):∀ {l:List Tr}{vs:List V},TrFs H H' l vs->TrNs F D H' l vs
 | [],vs,h=>by unfold TrFs at h;unfold TrNs;exact h
 | a::l,vs,h=>by
  unfold TrFs at h
  unfold TrNs
  obtain⟨v,r,h1,h2,h3⟩:=h
  exact⟨v,r,h1,TrN.of e eF hD h2,TrNs.of e eF hD h3⟩
end
mutual
theorem TrN.tr{F H:Hp}{D:Addr}:∀ {a:Tr}{v:V},TrN F D H a v->TrF F H a v
 | .mv x,v,h=>by unfold TrN at h;unfold TrF;exact h.tl
 | .ch l,v,h=>by
  unfold TrN at h
  unfold TrF
  obtain⟨u,q,vs,h1,_,_,h2,h3,h4,h5⟩:=h
  exact⟨u,q,vs,h1,h2,h3,h4,TrNs.tr h5⟩
theorem TrNs.tr{F H:Hp}{D:Addr}:∀ {l:List Tr}{vs:List V},TrNs F D H l vs->TrFs F H l vs
 | [],vs,h=>by unfold TrNs at h;unfold TrFs;exact h
 | a::l,vs,h=>by
  unfold TrNs at h
  unfold TrFs
  obtain⟨v,r,h1,h2,h3⟩:=h
  exact⟨v,r,h1,TrN.tr h2,TrNs.tr h3⟩
end
abbrev B_spTldC(t:Adr)(n:Nat)(v:Addr)(H:Hp)(Q:VK)(E:XK):Prop:=∃ (F:Hp) (l:List Tr),MvT t F H (.ch l) (.ref v)∧okT (.ch l)∧deeps l+1≤n∧∀ (r:V) (H':Hp),Ext H H'->TrF H H' (.ch l) r->Q r H'
def spTldC(t:Adr)(n:Nat):Sp:=fun vs H Q E=>∃ (v:Addr),vs=[.ref v]∧(B_spTldC t n v H Q E)
theorem l_spTldC(t:Adr)(n:Nat){vs:List V}{H:Hp}{Q:VK}{E:XK}(h:spTldC t n vs H Q E):vs.length=1:=spl1 h fun _=>rfl
def spTd3(t:Adr)(n:Nat):Nat->Sp
 | 9=>spTldC t n
 | i=>spTd t i
theorem use_toldT{t:Adr}{F H:Hp}{n:Nat}{E:XK}{Q:VK}:∀ {a:Tr}{y:V},MvT t F H a y->okT a->deepN a≤n->(∀ (r:V) (H':Hp),Ext H H'->TrF H H' a r->Q r H')->kMethD 10 (clM t) "told" (spTd3 t n) E Q y H
 | .mv x,y,h,ok,hn,q=>by
  unfold MvT at h
  unfold okT at ok
  obtain⟨v,rfl,h⟩:=h
  obtain⟨a,i,dx,fs,h1,h2,h3,h4,h5⟩:=use_told (E:=E) h ok fun r H' e tl=>q r H' e (by unfold TrF;exact tl)
  have e:spTd3 t n i=spTd t i:=by unfold spTd3;split;omega;rfl
  exact⟨a,i,dx,fs,h1,by omega,h3,h4,by rw [e];exact h5⟩
 | .ch l,y,h,ok,hn,q=>by
  have h':=h
  unfold MvT at h'
  obtain⟨v,dx,p,vs,rfl,h2,_⟩:=h'
  exact⟨v,9,dx,_,rfl,by decide,h2,by rfl,v,rfl,F,l,h,ok,hn,q⟩
theorem ok_Chain_tc(T:Tx K mg t){n:Nat}(MD_told:∀ i,i < 10->MD P t.w K mg base CX0 (n+1) "told" (clM t i) (spTd3 t n i)):FnOk P t.w K mg base CX0 (n+2) t.a_Chain_told t.d_Chain_told ["self"] (spTldC t (n+1)):=by
 refine T.F_Chain_told.ok c_Chain_told (fun vs H Q E h=>l_spTldC _ _ h) (fun cdv A outer s H vs Q E hr h=>?_)
 ·obtain⟨v,rfl,F,xs,mv,ok,hn,k⟩:=h
  unfold MvT at mv
  unfold okT at ok
  obtain⟨v',dx,l,vs,ev,hv,_,hl,ms⟩:=mv
  cases ev
  have al:=ms.al
  have c9:=T.cl_Chain
  have n0:=T.na_Chain_moves
  have l0:([("moves",V.ref l)]:List (Str × V)).lookup (Str.ofString "moves")=some (V.ref l):=by rfl
  refine⟨_,(@pss_one _ _ _ (@ps_ret _ _ _ _ (@pe_qTup _ _ _ _ _ (@pa_c _ _ _ _ _ (@pe_str _ _ _ _) (@pa_c _ _ _ _ _ (@pe_comp _ _ _ _ _ _ _ _ _ _ _ (["move", "self"]) (1) (comp_ok (defScope s_Chain_told) ["self"] rfl rfl (by decide +kernel)) rfl (@pi_seq _ _ _ _ (@pe_nFld _ _ _ _ _ (@pvN _ 0 _ _ (by rfl) (by trivial) (by decide) (by decide)) rfl)) (fun C s₀ H₀ ex pn=>(@pg_name _ _ (0) _ (show List.Nodup (["move", "self"]:List Str) from by decide +kernel) rfl (Or.inl rfl) (by trivial))) (fun C s₀ H₀ ex pn=>(@pts_nil _)) (fun C s₀ H₀ ex pn=>(@pe_nMethD _ _ _ _ _ _ _ _ _ _ _ _ _ (@pvN _ 0 _ _ (by rfl) (by trivial) (by decide) (by decide)) MD_told (hr.mono (show n+1≤n+1 by first|decide|omega)) pass0 (by rfl))) (by intros;rfl)) (@pa_nil _) (by rfl)) (by rfl))))),?_⟩
  rw [show start ["self"] [.ref v]=[some (.ref v)] from rfl]
  clear MD_told ms
  replace k:=fun (_:Unit)=>k
  have h40:=ok.1
  have oks:=ok.2.mem
  replace oks:=fun (_:Unit)=>oks
  replace hn:=fun (_:Unit)=>hn
  clear ok
  simp! only [and_true]
  have wk:=wk_al (K:=K) (R:=fun a y H=>MvT t F H a y) (fun _ _ _ _ h e=>h.ext e) hl al
  refine comp_rel xs (fun _=>true) (fun a y H=>MvT t F H a y) (fun D a y H'=>TrN H D H' a y) wk.1 wk.2 (fun D _ y H1 H2 h e=>h.ext e) (fun D _ y H1 o h=>h.put) (len5000 (by omega)) ?_ ?_
  ·intro D a y H' N1 N0 ha hD e ⟨ys0,hys0⟩ mv k1 _
   have k1':=k1 rfl
   have oka:=oks () a ha
   have hd:=deeps_le ha
   clear k1
   simp! only [↓m_kCm_1,↓m_kCm2]
   exact use_toldT mv oka (by have:=hn ();omega) fun r H'' e' tl=>k1' r H'' e' (TrN.of e' e hys0 tl)
  ·intro D zs H2 hD e2 hD2 al2
   rw [filt] at al2
   clear wk
   simp! only [and_true]
   intro p H3 _ e3 h3
   refine k () _ H3 (e2.trans e3) ?_
   unfold TrF
   exact⟨p,D,zs,rfl,h3,hD,e3.at hD2,TrFs.of (al2.imp fun a y q=>(q.tr).ext e3)⟩
theorem MDT(T:Tx K mg t):∀ n i:Nat,i < 10->MD P t.w K mg base CX0 (n+1) "told" (clM t i) (spTd3 t n i)
 | 0,i,hi=>by
  by_cases h:i < 9
  ·obtain⟨c,f,fd,ps,h1,h2,h3⟩:=MDt (P:=P) (base:=base) T i h
   have e:spTd3 t 0 i=spTd t i:=by unfold spTd3;split;omega;rfl
   exact⟨c,f,fd,ps,h1,by rw [e];exact h2.mono (by decide),h3⟩
  ·obtain rfl:i=9:=by omega
   exact⟨T.cl_Chain,_,_,_,T.mt_Chain_told,no_ok.imp fun vs H Q E h=>by obtain⟨v,rfl,F,l,_,_,h,_⟩:=h;omega,T.b_Chain_told⟩
 | n+1,i,hi=>by
  by_cases h:i < 9
  ·obtain⟨c,f,fd,ps,h1,h2,h3⟩:=MDt (P:=P) (base:=base) T i h
   have e:spTd3 t (n+1) i=spTd t i:=by unfold spTd3;split;omega;rfl
   exact⟨c,f,fd,ps,h1,by rw [e];exact h2.mono (by omega),h3⟩
  ·obtain rfl:i=9:=by omega
   exact⟨T.cl_Chain,_,_,_,T.mt_Chain_told,ok_Chain_tc T (MDT T n),T.b_Chain_told⟩
theorem Fun.x{K:PySem.W.Frag}{x qual:Str}{st:Stmt}{f:Addr}{fd:FuncData}(F:Fun K x qual st f fd):FunX K x qual st f fd:=by
 obtain⟨oc,od,kV,doc,pm,an,cdv,ct,osl,e,lk,hcd⟩:=F.ex
 exact⟨⟨oc,od,.none,kV,doc,pm,an,cdv,ct,osl,e,lk,hcd⟩,F.kp⟩
theorem FnOk.up{P:Program}{w0:World}{K:PySem.W.Frag}{mg:Str->Option Value}{base:Heap}{CX:CXT}{k:Nat}{f:Addr}{fd:FuncData}{ps:List Str}{sp:Sp}(F:FnOk P w0 K mg base CX0 k f fd ps sp):FnOk P w0 K mg base CX k f fd ps sp:=
 ⟨F.len,fun A outer s H args us vs Q E hr he hb hv hs=>codeAny_mono (F.run A outer s H args us vs Q E hr he hb hv hs) fun r s' h=>by
  cases r with
  | error e=>exact h.elim
  | ok c=>cases c<;>exact h⟩
theorem FnOk.both{P:Program}{w0:World}{K:PySem.W.Frag}{mg:Str->Option Value}{base:Heap}{CX:CXT}{k:Nat}{f:Addr}{fd:FuncData}{ps:List Str}{sp sp' sp2:Sp}(F:FnOk P w0 K mg base CX k f fd ps sp)(F':FnOk P w0 K mg base CX k f fd ps sp')(h:∀ vs H Q E,sp2 vs H Q E->sp vs H Q E∨sp' vs H Q E):FnOk P w0 K mg base CX k f fd ps sp2:=
 ⟨fun vs H Q E q=>(h _ _ _ _ q).elim (F.len vs H Q E) (F'.len vs H Q E),fun A outer s H args us vs Q E hr he hb hv hs=>(h _ _ _ _ hs).elim (F.run A outer s H args us vs Q E hr he hb hv) (F'.run A outer s H args us vs Q E hr he hb hv)⟩
def NoM(t:Adr)(H:Hp)(E:XK):Prop:=∀ H',Ext H H'->E (.ref t.a_NoMove) none H'
theorem NoM.ext{t:Adr}{H H1:Hp}{E:XK}(h:NoM t H E)(e:Ext H H1):NoM t H1 E:=fun H' e'=>h H' (e.trans e')
abbrev B_spRTX(t:Adr)(b:Bool)(H:Hp)(Q:VK)(E:XK):Prop:=(b=true->Q .non H)∧(b=false->NoM t H E)
def spRTX(t:Adr):Sp:=fun vs H Q E=>∃ (b:Bool),vs=[.bl b]∧(B_spRTX t b H Q E)
theorem c_spRTX(t:Adr)(b:Bool)(H:Hp)(Q:VK)(E:XK):spRTX t [.bl b] H Q E=(B_spRTX t b H Q E):=spx1 (f:=fun (b:Bool)=>[.bl b]) (fun _ _ h=>by cases h;exact rfl) b
theorem l_spRTX(t:Adr){vs:List V}{H:Hp}{Q:VK}{E:XK}(h:spRTX t vs H Q E):vs.length=1:=spl1 h fun _=>rfl
theorem okX_refuse_told(T:Tx K mg t):FnOk P t.w K mg base (CX1 P  t.w) 1 t.a_refuse_told t.d_refuse_told ["good"] (spRTX t):=by
 refine(Fun.x T.F_refuse_told).ok c_refuse_told (fun vs H Q E h=>l_spRTX _ h) (fun cdv A outer s H vs Q E hr h=>?_)
 ·obtain⟨b,rfl,k,kE⟩:=h
  refine⟨_,(@pss_one _ _ _ (@ps_if _ _ _ _ _ _ _ _ (@pt_not _ _ _ _ (@pt_valN _ _ _ (@pvN _ 0 _ _ (by rfl) (by trivial) (by decide) (by decide)) (by intros;rfl))) (@pss_one _ _ _ (@ps_raise _ _ _ _ _ _ _ _ _ _ rfl (by rfl) T.m_NoMove ⟨T.o_NoMove⟩ (fun σ=>raises_def) (@pa_c _ _ _ _ _ (@pe_str _ _ _ _) (@pa_nil _) (by rfl)) (by rfl) (by rfl) (by decide))) (@pss_nil _))),?_⟩
  rw [show start ["good"] [.bl b]=[some (.bl b)] from rfl]
  cases b with
  | true=>
   have k':=k rfl
   clear k kE
   simp! only [and_true]
  | false=>
   have kE':=kE rfl H (Ext.refl _)
   clear k kE
   simp! only [and_true]
def WdV(H:Hp)(v:V):Prop:=v=.non∨(∃ i,v=.int i)∨(∃ b,v=.bl b)∨(∃ z,v=.str z)∨(∃ p xs,v=.ref p∧H p=some (.lst xs))∨(∃ p xs,v=.ref p∧H p=some (.tup xs))∨(∃ p kvs,v=.ref p∧H p=some (.dK kvs))
theorem WdV.ext{H H':Hp}{v:V}(h:WdV H v)(e:Ext H H'):WdV H' v:=by
 rcases h with h|h|h|h|⟨p,xs,h1,h2⟩|⟨p,xs,h1,h2⟩|⟨p,xs,h1,h2⟩
 ·exact .inl h
 ·exact .inr (.inl h)
 ·exact .inr (.inr (.inl h))
 ·exact .inr (.inr (.inr (.inl h)))
 ·exact .inr (.inr (.inr (.inr (.inl ⟨p,xs,h1,e.at h2⟩))))
 ·exact .inr (.inr (.inr (.inr (.inr (.inl ⟨p,xs,h1,e.at h2⟩)))))
 ·exact .inr (.inr (.inr (.inr (.inr (.inr ⟨p,xs,h1,e.at h2⟩)))))
def whB:V->Bool
 | .int _=>true
 | _=>false
theorem WdV.wh{H:Hp}{v:V}(h:WdV H v):isW H v=some (whB v):=by
 rcases h with rfl|⟨i,rfl⟩|⟨i,rfl⟩|⟨i,rfl⟩|⟨p,xs,rfl,h2⟩|⟨p,xs,rfl,h2⟩|⟨p,xs,rfl,h2⟩
 ·rfl
 ·rfl
 ·rfl
 ·rfl
 ·rw [isW,h2];rfl
 ·rw [isW,h2];rfl
 ·rw [isW,h2];rfl
def WdL(H:Hp)(xs:List V):Prop:=∀ v∈xs,WdV H v
abbrev B_spNumX(t:Adr)(p:Addr)(m:Int)(H:Hp)(Q:VK)(E:XK):Prop:=∃ (x:V) (xs:List V),H p=some (.tup (x::xs))∧xs.length≤30∧WdL H xs∧(m ≠ (xs.length:Int)∨(xs.map whB).all id=false)∧NoM t H E
def spNumX(t:Adr):Sp:=fun vs H Q E=>∃ (p:Addr) (m:Int),vs=[.ref p,.int m]∧(B_spNumX t p m H Q E)
theorem c_spNumX(t:Adr)(p:Addr)(m:Int)(H:Hp)(Q:VK)(E:XK):spNumX t [.ref p,.int m] H Q E=(B_spNumX t p m H Q E):=spx2 (f:=fun (p:Addr) (m:Int)=>[.ref p,.int m]) (fun _ _ _ _ h=>by cases h;exact⟨rfl,rfl⟩) p m
theorem l_spNumX(t:Adr){vs:List V}{H:Hp}{Q:VK}{E:XK}(h:spNumX t vs H Q E):vs.length=2:=spl2 h fun _ _=>rfl
theorem okX_numbers_in(T:Tx K mg t):FnOk P t.w K mg base (CX1 P  t.w) 2 t.a_numbers_in t.d_numbers_in ["told", "many"] (spNumX t):=by
 have G_is_whole:=ok_is_whole (P:=P) (base:=base) T
 have G_refuse_told:=okX_refuse_told (P:=P) (base:=base) T
 refine(Fun.x T.F_numbers_in).ok c_numbers_in (fun vs H Q E h=>l_spNumX _ h) (fun cdv A outer s H vs Q E hr h=>?_)
 ·obtain⟨p,m,rfl,x,xs,hp,h30,hw,hb,k⟩:=h
  refine⟨_,(@pss_cons _ _ _ _ _ (@ps_expr _ _ _ _ (@pe_call _ _ _ _ _ _ _ _ _ _ _ _ _ _ _ _ G_refuse_told (hr.mono (by decide)) (by rfl) T.m_refuse_told T.F_refuse_told.kp T.b_refuse_told .nil passes_def (@pa_c _ _ _ _ _ (@pe_andN _ _ _ _ _ _ _ (@pe_cmpR _ _ _ _ _ _ _ _ (op_qEq hr.units) (@pe_callB _ _ _ _ _ _ _ ("len") _ call_qLen (by rfl) T.z_len (by decide +kernel) (@pa_c _ _ _ _ _ (@pvN _ 0 _ _ (by rfl) (by trivial) (by decide) (by decide)) (@pa_nil _) (by rfl)) (by decide) (by decide) (by rfl) (by rfl)) (@pe_op _ _ _ _ _ _ _ _ on_add (@pvN _ 1 _ _ (by rfl) (by trivial) (by decide) (by decide)) (@pe_int _ _ _ _)) (nomark _)) (@pe_one _ _ _ _ _ (@pe_callB _ _ _ _ _ _ _ ("all") _ (call_qAll rfl) (by rfl) T.z_all (by decide +kernel) (@pa_c _ _ _ _ _ (@pe_comp _ _ _ _ _ _ _ _ _ _ _ (["thing", "told", "many"]) (1) (comp_ok (defScope s_numbers_in) ["told", "many"] rfl rfl (by decide +kernel)) rfl (@pi_seq _ _ _ _ (@pe_slice _ _ _ _ _ _ _ _ _ _ sl_nU (@pvN _ 0 _ _ (by rfl) (by trivial) (by decide) (by decide)) (@po_some _ _ _ (@pe_int _ _ _ _)) (@po_none _))) (fun C s₀ H₀ ex pn=>(@pg_name _ _ (0) _ (show List.Nodup (["thing", "told", "many"]:List Str) from by decide +kernel) rfl (Or.inl rfl) (by trivial))) (fun C s₀ H₀ ex pn=>(@pts_nil _)) (fun C s₀ H₀ ex pn=>(@pe_call _ _ _ _ _ _ _ _ _ _ _ _ _ _ _ _ G_is_whole (hr.mono (by decide)) (by rfl) T.m_is_whole T.F_is_whole.kp T.b_is_whole .nil pass0 (@pa_c _ _ _ _ _ (@pvN _ 0 _ _ (by rfl) (by trivial) (by decide) (by decide)) (@pa_nil _) (by rfl)) (by decide) (by rfl) (by rfl))) (by intros;rfl)) (@pa_nil _) (by rfl)) (by decide) (by decide) (by rfl) (by rfl)))) (@pa_nil _) (by rfl)) (by decide) (by rfl) (by rfl)) (by rfl)) (@pss_one _ _ _ (@ps_ret _ _ _ _ (@pe_slice _ _ _ _ _ _ _ _ _ _ sl_nU (@pvN _ 0 _ _ (by rfl) (by trivial) (by decide) (by decide)) (@po_some _ _ _ (@pe_int _ _ _ _)) (@po_none _))))),?_⟩
  rw [show start ["told", "many"] [.ref p,.int m]=[some (.ref p),some (.int m)] from rfl]
  clear G_is_whole G_refuse_told
  replace k:=fun (_:Unit)=>k
  replace hw:=fun (_:Unit)=>hw
  have hsz:xs.length+1≤sizeLine:=len5000 (by omega)
  by_cases hm:((xs.length+1:Nat):Int)=m+1
  ·have hb':(xs.map whB).all id=false:=by rcases hb with h|h;exact absurd (by omega) h;exact h
   replace hb':=fun (_:Unit)=>hb'
   clear hb
   simp! only [and_true]
   refine use_tail hp fun q1 H1 e1 h1=>?_
   have h1':H1 q1=some (.tup xs):=h1
   clear h1 hm
   simp! only [and_true]
   refine comp_fm xs (fun _=>true) (fun v=>.bl (whB v)) (fun z x H'=>x=z∧H' q1=some (.tup xs)) (wk_tup h1').1 (wk_tup h1').2 (len5000 (by omega)) ?_ ?_
   ·intro D z x' H' N1 N0 hz hD e ⟨hx,_⟩ k1 _
    subst hx
    have k1':=k1 rfl H' (Ext.refl _)
    have hv:=((hw () _ hz).ext (e1.trans e)).wh
    clear k1
    simp! only [↓m_kCm_1,↓m_kCm2]
    rw [c_spWhole,hv]
    exact k1'
   ·intro D H2 hD e2 hD2
    have hD3:H2 D=some (.lst ((xs.map whB).map V.bl)):=by rw [hD2,filt,List.map_map];rfl
    have hb2:=hb' ()
    clear hD2 hb'
    generalize xs.map whB=bs at hD3 hb2
    simp! only [and_true]
    rw [c_spRTX]
    exact⟨fun h=>(nomatch h),fun _=>(k ()).ext (e1.trans e2)⟩
  ·clear hb
   simp! only [and_true]
   rw [c_spRTX]
   exact⟨fun h=>(nomatch h),fun _=>k ()⟩
def BadA(H:Hp)(i:Nat)(xs:List V):Prop:=xs.length≤30∧WdL H xs∧((cnM i:Int) ≠ (xs.length:Int)∨(xs.map whB).all id=false)
def spMdX(t:Adr)(i:Nat):Sp:=fun vs H Q E=>∃ (p:Addr),vs=[.ref p]∧(∃ (x:V) (xs:List V),H p=some (.tup (x::xs))∧BadA H i xs∧NoM t H E)
theorem c_spMdX(t:Adr)(i:Nat)(p:Addr)(H:Hp)(Q:VK)(E:XK):spMdX t i [.ref p] H Q E=(∃ (x:V) (xs:List V),H p=some (.tup (x::xs))∧BadA H i xs∧NoM t H E):=spx1 (f:=fun (p:Addr)=>[.ref p]) (fun _ _ h=>by cases h;exact rfl) p
theorem l_spMdX(t:Adr)(i:Nat){vs:List V}{H:Hp}{Q:VK}{E:XK}(h:spMdX t i vs H Q E):vs.length=1:=spl1 h fun _=>rfl
theorem okX_made_stay(T:Tx K mg t):FnOk P t.w K mg base (CX1 P  t.w) 3 t.a_made_stay t.d_made_stay ["told"] (spMdX t 0):=by
 have G_numbers_in:=okX_numbers_in (P:=P) (base:=base) T
 refine(Fun.x T.F_made_stay).ok c_made_stay (fun vs H Q E h=>l_spMdX _ _ h) (fun cdv A outer s H vs Q E hr h=>?_)
 ·obtain⟨p,rfl,x,xs,hp,⟨h30,hw,hb⟩,k⟩:=h
  refine⟨_,(@pss_cons _ _ _ _ _ (@ps_expr _ _ _ _ (@pe_call _ _ _ _ _ _ _ _ _ _ _ _ _ _ _ _ G_numbers_in (hr.mono (by decide)) (by rfl) T.m_numbers_in T.F_numbers_in.kp T.b_numbers_in .nil passes_def (@pa_c _ _ _ _ _ (@pvN _ 0 _ _ (by rfl) (by trivial) (by decide) (by decide)) (@pa_c _ _ _ _ _ (@pe_int _ _ _ _) (@pa_nil _) (by rfl)) (by rfl)) (by decide) (by rfl) (by rfl)) (by rfl)) (@pss_one _ _ _ (@ps_ret _ _ _ _ (@pe_nMk0 _ _ _ _ _ T.mk0_Move (by rfl) T.m_Move (by decide))))),?_⟩
  rw [show start ["told"] [.ref p]=[some (.ref p)] from rfl]
  clear G_numbers_in
  replace k:=fun (_:Unit)=>k
  replace hb:=fun (_:Unit)=>hb
  simp! only [and_true]
  rw [c_spNumX]
  exact⟨x,xs,hp,h30,hw,hb (),k ()⟩
theorem okX_made_pick(T:Tx K mg t):FnOk P t.w K mg base (CX1 P  t.w) 3 t.a_made_pick t.d_made_pick ["told"] (spMdX t 2):=by
 have G_numbers_in:=okX_numbers_in (P:=P) (base:=base) T
 have G_Pick___init__:=ok_Pick___init__ (P:=P) (base:=base) T
 refine(Fun.x T.F_made_pick).ok c_made_pick (fun vs H Q E h=>l_spMdX _ _ h) (fun cdv A outer s H vs Q E hr h=>?_)
 ·obtain⟨p,rfl,x,xs,hp,⟨h30,hw,hb⟩,k⟩:=h
  refine⟨_,(@pss_cons _ _ _ _ _ (@ps_set _ _ (1) _ _ _ _ c_made_pick.nd rfl (Or.inl rfl) (@pe_call _ _ _ _ _ _ _ _ _ _ _ _ _ _ _ _ G_numbers_in (hr.mono (by decide)) (by rfl) T.m_numbers_in T.F_numbers_in.kp T.b_numbers_in .nil passes_def (@pa_c _ _ _ _ _ (@pvN _ 0 _ _ (by rfl) (by trivial) (by decide) (by decide)) (@pa_c _ _ _ _ _ (@pe_int _ _ _ _) (@pa_nil _) (by rfl)) (by rfl)) (by decide) (by rfl) (by rfl)) (by rfl) (by trivial)) (@pss_one _ _ _ (@ps_ret _ _ _ _ (@pe_nMake _ _ _ _ _ _ _ _ _ _ _ _ _ _ _ _ _ T.mk_Pick G_Pick___init__ (hr.mono (by decide)) (by rfl) T.m_Pick T.b_Pick___init__ .nil pass0 (@pa_c _ _ _ _ _ (@pe_ix _ _ _ _ _ _ _ ix_q (@pvN _ 1 _ _ (by rfl) (by trivial) (by decide) (by decide)) (@pe_int _ _ _ _) (fun _ _=>rfl)) (@pa_c _ _ _ _ _ (@pe_ix _ _ _ _ _ _ _ ix_q (@pvN _ 1 _ _ (by rfl) (by trivial) (by decide) (by decide)) (@pe_int _ _ _ _) (fun _ _=>rfl)) (@pa_nil _) (by rfl)) (by rfl)) (by decide) (by rfl) (by rfl))))),?_⟩
  rw [show start ["told", "found"] [.ref p]=[some (.ref p),none] from rfl]
  clear G_numbers_in G_Pick___init__
  replace k:=fun (_:Unit)=>k
  replace hb:=fun (_:Unit)=>hb
  simp! only [and_true]
  rw [c_spNumX]
  exact⟨x,xs,hp,h30,hw,hb (),k ()⟩
theorem okX_made_fresh(T:Tx K mg t):FnOk P t.w K mg base (CX1 P  t.w) 3 t.a_made_fresh t.d_made_fresh ["told"] (spMdX t 4):=by
 have G_numbers_in:=okX_numbers_in (P:=P) (base:=base) T
 have G_Fresh___init__:=ok_Fresh___init__ (P:=P) (base:=base) T
 refine(Fun.x T.F_made_fresh).ok c_made_fresh (fun vs H Q E h=>l_spMdX _ _ h) (fun cdv A outer s H vs Q E hr h=>?_)
 ·obtain⟨p,rfl,x,xs,hp,⟨h30,hw,hb⟩,k⟩:=h
  refine⟨_,(@pss_one _ _ _ (@ps_ret _ _ _ _ (@pe_nMake _ _ _ _ _ _ _ _ _ _ _ _ _ _ _ _ _ T.mk_Fresh G_Fresh___init__ (hr.mono (by decide)) (by rfl) T.m_Fresh T.b_Fresh___init__ .nil pass0 (@pa_c _ _ _ _ _ (@pe_ix _ _ _ _ _ _ _ ix_q (@pe_call _ _ _ _ _ _ _ _ _ _ _ _ _ _ _ _ G_numbers_in (hr.mono (by decide)) (by rfl) T.m_numbers_in T.F_numbers_in.kp T.b_numbers_in .nil passes_def (@pa_c _ _ _ _ _ (@pvN _ 0 _ _ (by rfl) (by trivial) (by decide) (by decide)) (@pa_c _ _ _ _ _ (@pe_int _ _ _ _) (@pa_nil _) (by rfl)) (by rfl)) (by decide) (by rfl) (by rfl)) (@pe_int _ _ _ _) (fun _ _=>rfl)) (@pa_nil _) (by rfl)) (by decide) (by rfl) (by rfl)))),?_⟩
  rw [show start ["told"] [.ref p]=[some (.ref p)] from rfl]
  clear G_numbers_in G_Fresh___init__
  replace k:=fun (_:Unit)=>k
  replace hb:=fun (_:Unit)=>hb
  simp! only [and_true]
  rw [c_spNumX]
  exact⟨x,xs,hp,h30,hw,hb (),k ()⟩
theorem okX_made_spread(T:Tx K mg t):FnOk P t.w K mg base (CX1 P  t.w) 3 t.a_made_spread t.d_made_spread ["told"] (spMdX t 5):=by
 have G_numbers_in:=okX_numbers_in (P:=P) (base:=base) T
 have G_Spread___init__:=ok_Spread___init__ (P:=P) (base:=base) T
 refine(Fun.x T.F_made_spread).ok c_made_spread (fun vs H Q E h=>l_spMdX _ _ h) (fun cdv A outer s H vs Q E hr h=>?_)
 ·obtain⟨p,rfl,x,xs,hp,⟨h30,hw,hb⟩,k⟩:=h
  refine⟨_,(@pss_cons _ _ _ _ _ (@ps_set _ _ (1) _ _ _ _ c_made_spread.nd rfl (Or.inl rfl) (@pe_call _ _ _ _ _ _ _ _ _ _ _ _ _ _ _ _ G_numbers_in (hr.mono (by decide)) (by rfl) T.m_numbers_in T.F_numbers_in.kp T.b_numbers_in .nil passes_def (@pa_c _ _ _ _ _ (@pvN _ 0 _ _ (by rfl) (by trivial) (by decide) (by decide)) (@pa_c _ _ _ _ _ (@pe_int _ _ _ _) (@pa_nil _) (by rfl)) (by rfl)) (by decide) (by rfl) (by rfl)) (by rfl) (by trivial)) (@pss_one _ _ _ (@ps_ret _ _ _ _ (@pe_nMake _ _ _ _ _ _ _ _ _ _ _ _ _ _ _ _ _ T.mk_Spread G_Spread___init__ (hr.mono (by decide)) (by rfl) T.m_Spread T.b_Spread___init__ .nil pass0 (@pa_c _ _ _ _ _ (@pe_ix _ _ _ _ _ _ _ ix_q (@pvN _ 1 _ _ (by rfl) (by trivial) (by decide) (by decide)) (@pe_int _ _ _ _) (fun _ _=>rfl)) (@pa_c _ _ _ _ _ (@pe_ix _ _ _ _ _ _ _ ix_q (@pvN _ 1 _ _ (by rfl) (by trivial) (by decide) (by decide)) (@pe_int _ _ _ _) (fun _ _=>rfl)) (@pa_nil _) (by rfl)) (by rfl)) (by decide) (by rfl) (by rfl))))),?_⟩
  rw [show start ["told", "found"] [.ref p]=[some (.ref p),none] from rfl]
  clear G_numbers_in G_Spread___init__
  replace k:=fun (_:Unit)=>k
  replace hb:=fun (_:Unit)=>hb
  simp! only [and_true]
  rw [c_spNumX]
  exact⟨x,xs,hp,h30,hw,hb (),k ()⟩
theorem okX_made_cut(T:Tx K mg t):FnOk P t.w K mg base (CX1 P  t.w) 3 t.a_made_cut t.d_made_cut ["told"] (spMdX t 6):=by
 have G_numbers_in:=okX_numbers_in (P:=P) (base:=base) T
 have G_Cut___init__:=ok_Cut___init__ (P:=P) (base:=base) T
 refine(Fun.x T.F_made_cut).ok c_made_cut (fun vs H Q E h=>l_spMdX _ _ h) (fun cdv A outer s H vs Q E hr h=>?_)
 ·obtain⟨p,rfl,x,xs,hp,⟨h30,hw,hb⟩,k⟩:=h
  refine⟨_,(@pss_cons _ _ _ _ _ (@ps_set _ _ (1) _ _ _ _ c_made_cut.nd rfl (Or.inl rfl) (@pe_call _ _ _ _ _ _ _ _ _ _ _ _ _ _ _ _ G_numbers_in (hr.mono (by decide)) (by rfl) T.m_numbers_in T.F_numbers_in.kp T.b_numbers_in .nil passes_def (@pa_c _ _ _ _ _ (@pvN _ 0 _ _ (by rfl) (by trivial) (by decide) (by decide)) (@pa_c _ _ _ _ _ (@pe_int _ _ _ _) (@pa_nil _) (by rfl)) (by rfl)) (by decide) (by rfl) (by rfl)) (by rfl) (by trivial)) (@pss_one _ _ _ (@ps_ret _ _ _ _ (@pe_nMake _ _ _ _ _ _ _ _ _ _ _ _ _ _ _ _ _ T.mk_Cut G_Cut___init__ (hr.mono (by decide)) (by rfl) T.m_Cut T.b_Cut___init__ .nil pass0 (@pa_c _ _ _ _ _ (@pe_ix _ _ _ _ _ _ _ ix_q (@pvN _ 1 _ _ (by rfl) (by trivial) (by decide) (by decide)) (@pe_int _ _ _ _) (fun _ _=>rfl)) (@pa_c _ _ _ _ _ (@pe_ix _ _ _ _ _ _ _ ix_q (@pvN _ 1 _ _ (by rfl) (by trivial) (by decide) (by decide)) (@pe_int _ _ _ _) (fun _ _=>rfl)) (@pa_nil _) (by rfl)) (by rfl)) (by decide) (by rfl) (by rfl))))),?_⟩
  rw [show start ["told", "found"] [.ref p]=[some (.ref p),none] from rfl]
  clear G_numbers_in G_Cut___init__
  replace k:=fun (_:Unit)=>k
  replace hb:=fun (_:Unit)=>hb
  simp! only [and_true]
  rw [c_spNumX]
  exact⟨x,xs,hp,h30,hw,hb (),k ()⟩
theorem okX_made_window(T:Tx K mg t):FnOk P t.w K mg base (CX1 P  t.w) 3 t.a_made_window t.d_made_window ["told"] (spMdX t 7):=by
 have G_numbers_in:=okX_numbers_in (P:=P) (base:=base) T
 have G_Window___init__:=ok_Window___init__ (P:=P) (base:=base) T
 refine(Fun.x T.F_made_window).ok c_made_window (fun vs H Q E h=>l_spMdX _ _ h) (fun cdv A outer s H vs Q E hr h=>?_)
 ·obtain⟨p,rfl,x,xs,hp,⟨h30,hw,hb⟩,k⟩:=h
  refine⟨_,(@pss_cons _ _ _ _ _ (@ps_set _ _ (1) _ _ _ _ c_made_window.nd rfl (Or.inl rfl) (@pe_call _ _ _ _ _ _ _ _ _ _ _ _ _ _ _ _ G_numbers_in (hr.mono (by decide)) (by rfl) T.m_numbers_in T.F_numbers_in.kp T.b_numbers_in .nil passes_def (@pa_c _ _ _ _ _ (@pvN _ 0 _ _ (by rfl) (by trivial) (by decide) (by decide)) (@pa_c _ _ _ _ _ (@pe_int _ _ _ _) (@pa_nil _) (by rfl)) (by rfl)) (by decide) (by rfl) (by rfl)) (by rfl) (by trivial)) (@pss_one _ _ _ (@ps_ret _ _ _ _ (@pe_nMake _ _ _ _ _ _ _ _ _ _ _ _ _ _ _ _ _ T.mk_Window G_Window___init__ (hr.mono (by decide)) (by rfl) T.m_Window T.b_Window___init__ .nil pass0 (@pa_c _ _ _ _ _ (@pe_ix _ _ _ _ _ _ _ ix_q (@pvN _ 1 _ _ (by rfl) (by trivial) (by decide) (by decide)) (@pe_int _ _ _ _) (fun _ _=>rfl)) (@pa_c _ _ _ _ _ (@pe_ix _ _ _ _ _ _ _ ix_q (@pvN _ 1 _ _ (by rfl) (by trivial) (by decide) (by decide)) (@pe_int _ _ _ _) (fun _ _=>rfl)) (@pa_nil _) (by rfl)) (by rfl)) (by decide) (by rfl) (by rfl))))),?_⟩
  rw [show start ["told", "found"] [.ref p]=[some (.ref p),none] from rfl]
  clear G_numbers_in G_Window___init__
  replace k:=fun (_:Unit)=>k
  replace hb:=fun (_:Unit)=>hb
  simp! only [and_true]
  rw [c_spNumX]
  exact⟨x,xs,hp,h30,hw,hb (),k ()⟩
theorem okX_made_diagonal(T:Tx K mg t):FnOk P t.w K mg base (CX1 P  t.w) 3 t.a_made_diagonal t.d_made_diagonal ["told"] (spMdX t 8):=by
 have G_numbers_in:=okX_numbers_in (P:=P) (base:=base) T
 have G_Diagonal___init__:=ok_Diagonal___init__ (P:=P) (base:=base) T
 refine(Fun.x T.F_made_diagonal).ok c_made_diagonal (fun vs H Q E h=>l_spMdX _ _ h) (fun cdv A outer s H vs Q E hr h=>?_)
 ·obtain⟨p,rfl,x,xs,hp,⟨h30,hw,hb⟩,k⟩:=h
  refine⟨_,(@pss_cons _ _ _ _ _ (@ps_set _ _ (1) _ _ _ _ c_made_diagonal.nd rfl (Or.inl rfl) (@pe_call _ _ _ _ _ _ _ _ _ _ _ _ _ _ _ _ G_numbers_in (hr.mono (by decide)) (by rfl) T.m_numbers_in T.F_numbers_in.kp T.b_numbers_in .nil passes_def (@pa_c _ _ _ _ _ (@pvN _ 0 _ _ (by rfl) (by trivial) (by decide) (by decide)) (@pa_c _ _ _ _ _ (@pe_int _ _ _ _) (@pa_nil _) (by rfl)) (by rfl)) (by decide) (by rfl) (by rfl)) (by rfl) (by trivial)) (@pss_one _ _ _ (@ps_ret _ _ _ _ (@pe_nMake _ _ _ _ _ _ _ _ _ _ _ _ _ _ _ _ _ T.mk_Diagonal G_Diagonal___init__ (hr.mono (by decide)) (by rfl) T.m_Diagonal T.b_Diagonal___init__ .nil pass0 (@pa_c _ _ _ _ _ (@pe_ix _ _ _ _ _ _ _ ix_q (@pvN _ 1 _ _ (by rfl) (by trivial) (by decide) (by decide)) (@pe_int _ _ _ _) (fun _ _=>rfl)) (@pa_c _ _ _ _ _ (@pe_ix _ _ _ _ _ _ _ ix_q (@pvN _ 1 _ _ (by rfl) (by trivial) (by decide) (by decide)) (@pe_int _ _ _ _) (fun _ _=>rfl)) (@pa_nil _) (by rfl)) (by rfl)) (by decide) (by rfl) (by rfl))))),?_⟩
  rw [show start ["told", "found"] [.ref p]=[some (.ref p),none] from rfl]
  clear G_numbers_in G_Diagonal___init__
  replace k:=fun (_:Unit)=>k
  replace hb:=fun (_:Unit)=>hb
  simp! only [and_true]
  rw [c_spNumX]
  exact⟨x,xs,hp,h30,hw,hb (),k ()⟩
def nwB:V->Bool
 | .int _=>true
 | .non=>true
 | _=>false
def BadS(H:Hp)(xs:List V):Prop:=xs.length≤30∧WdL H xs∧(xs.length ≠ 4∨∃ a r,xs=a::r∧r.length=3∧(whB a=false∨(whB a=true∧(r.map nwB).all id=false)))
abbrev B_spSlX(t:Adr)(p:Addr)(H:Hp)(Q:VK)(E:XK):Prop:=∃ (x:V) (xs:List V),H p=some (.tup (x::xs))∧BadS H xs∧NoM t H E
def spSlX(t:Adr):Sp:=fun vs H Q E=>∃ (p:Addr),vs=[.ref p]∧(B_spSlX t p H Q E)
theorem c_spSlX(t:Adr)(p:Addr)(H:Hp)(Q:VK)(E:XK):spSlX t [.ref p] H Q E=(B_spSlX t p H Q E):=spx1 (f:=fun (p:Addr)=>[.ref p]) (fun _ _ h=>by cases h;exact rfl) p
theorem l_spSlX(t:Adr){vs:List V}{H:Hp}{Q:VK}{E:XK}(h:spSlX t vs H Q E):vs.length=1:=spl1 h fun _=>rfl
theorem okX_made_slice(T:Tx K mg t):FnOk P t.w K mg base (CX1 P  t.w) 3 t.a_made_slice t.d_made_slice ["told"] (spSlX t):=by
 have G_is_whole:=ok_is_whole (P:=P) (base:=base) T
 have G_refuse_told:=okX_refuse_told (P:=P) (base:=base) T
 have G_Slice___init__:=ok_Slice___init__ (P:=P) (base:=base) T
 refine(Fun.x T.F_made_slice).ok c_made_slice (fun vs H Q E h=>l_spSlX _ h) (fun cdv A outer s H vs Q E hr h=>?_)
 ·obtain⟨p,rfl,x,xs,hp,⟨h30,hw,hb⟩,k⟩:=h
  refine⟨_,(@pss_cons _ _ _ _ _ (@ps_expr _ _ _ _ (@pe_call _ _ _ _ _ _ _ _ _ _ _ _ _ _ _ _ G_refuse_told (hr.mono (by decide)) (by rfl) T.m_refuse_told T.F_refuse_told.kp T.b_refuse_told .nil passes_def (@pa_c _ _ _ _ _ (@pe_andN _ _ _ _ _ _ _ (@pe_cmpR _ _ _ _ _ _ _ _ (op_qEq hr.units) (@pe_callB _ _ _ _ _ _ _ ("len") _ call_qLen (by rfl) T.z_len (by decide +kernel) (@pa_c _ _ _ _ _ (@pvN _ 0 _ _ (by rfl) (by trivial) (by decide) (by decide)) (@pa_nil _) (by rfl)) (by decide) (by decide) (by rfl) (by rfl)) (@pe_int _ _ _ _) (nomark _)) (@pe_one _ _ _ _ _ (@pe_call _ _ _ _ _ _ _ _ _ _ _ _ _ _ _ _ G_is_whole (hr.mono (by decide)) (by rfl) T.m_is_whole T.F_is_whole.kp T.b_is_whole .nil pass0 (@pa_c _ _ _ _ _ (@pe_ix _ _ _ _ _ _ _ ix_q (@pvN _ 0 _ _ (by rfl) (by trivial) (by decide) (by decide)) (@pe_int _ _ _ _) (fun _ _=>rfl)) (@pa_nil _) (by rfl)) (by decide) (by rfl) (by rfl)))) (@pa_nil _) (by rfl)) (by decide) (by rfl) (by rfl)) (by rfl)) (@pss_cons _ _ _ _ _ (@ps_expr _ _ _ _ (@pe_call _ _ _ _ _ _ _ _ _ _ _ _ _ _ _ _ G_refuse_told (hr.mono (by decide)) (by rfl) T.m_refuse_told T.F_refuse_told.kp T.b_refuse_told .nil passes_def (@pa_c _ _ _ _ _ (@pe_callB _ _ _ _ _ _ _ ("all") _ (call_qAll rfl) (by rfl) T.z_all (by decide +kernel) (@pa_c _ _ _ _ _ (@pe_comp _ _ _ _ _ _ _ _ _ _ _ (["thing", "told"]) (1) (comp_ok (defScope s_made_slice) ["told"] rfl rfl (by decide +kernel)) rfl (@pi_seq _ _ _ _ (@pe_slice _ _ _ _ _ _ _ _ _ _ sl_nU (@pvN _ 0 _ _ (by rfl) (by trivial) (by decide) (by decide)) (@po_some _ _ _ (@pe_int _ _ _ _)) (@po_none _))) (fun C s₀ H₀ ex pn=>(@pg_name _ _ (0) _ (show List.Nodup (["thing", "told"]:List Str) from by decide +kernel) rfl (Or.inl rfl) (by trivial))) (fun C s₀ H₀ ex pn=>(@pts_nil _)) (fun C s₀ H₀ ex pn=>(@pe_orN _ _ _ _ _ _ _ (@pe_cmpR _ _ _ _ _ _ _ _ op_qIs (@pvN _ 0 _ _ (by rfl) (by trivial) (by decide) (by decide)) (@pe_non _ _ _) (nomark _)) (@pe_one _ _ _ _ _ (@pe_call _ _ _ _ _ _ _ _ _ _ _ _ _ _ _ _ G_is_whole (hr.mono (by decide)) (by rfl) T.m_is_whole T.F_is_whole.kp T.b_is_whole .nil pass0 (@pa_c _ _ _ _ _ (@pvN _ 0 _ _ (by rfl) (by trivial) (by decide) (by decide)) (@pa_nil _) (by rfl)) (by decide) (by rfl) (by rfl))))) (by intros;rfl)) (@pa_nil _) (by rfl)) (by decide) (by decide) (by rfl) (by rfl)) (@pa_nil _) (by rfl)) (by decide) (by rfl) (by rfl)) (by rfl)) (@pss_one _ _ _ (@ps_ret _ _ _ _ (@pe_nMake _ _ _ _ _ _ _ _ _ _ _ _ _ _ _ _ _ T.mk_Slice G_Slice___init__ (hr.mono (by decide)) (by rfl) T.m_Slice T.b_Slice___init__ .nil pass0 (@pa_c _ _ _ _ _ (@pe_ix _ _ _ _ _ _ _ ix_q (@pvN _ 0 _ _ (by rfl) (by trivial) (by decide) (by decide)) (@pe_int _ _ _ _) (fun _ _=>rfl)) (@pa_c _ _ _ _ _ (@pe_ix _ _ _ _ _ _ _ ix_q (@pvN _ 0 _ _ (by rfl) (by trivial) (by decide) (by decide)) (@pe_int _ _ _ _) (fun _ _=>rfl)) (@pa_c _ _ _ _ _ (@pe_ix _ _ _ _ _ _ _ ix_q (@pvN _ 0 _ _ (by rfl) (by trivial) (by decide) (by decide)) (@pe_int _ _ _ _) (fun _ _=>rfl)) (@pa_c _ _ _ _ _ (@pe_ix _ _ _ _ _ _ _ ix_q (@pvN _ 0 _ _ (by rfl) (by trivial) (by decide) (by decide)) (@pe_int _ _ _ _) (fun _ _=>rfl)) (@pa_nil _) (by rfl)) (by rfl)) (by rfl)) (by rfl)) (by decide) (by rfl) (by rfl)))))),?_⟩
  rw [show start ["told"] [.ref p]=[some (.ref p)] from rfl]
  clear G_is_whole G_refuse_told G_Slice___init__
  replace k:=fun (_:Unit)=>k
  replace hw:=fun (_:Unit)=>hw
  have hsz:xs.length+1≤sizeLine:=len5000 (by omega)
  by_cases h4:xs.length=4
  ·obtain⟨a,r,rfl,r3,hb'⟩:∃ a r,xs=a::r∧r.length=3∧(whB a=false∨(whB a=true∧(r.map nwB).all id=false)):=by rcases hb with h|h;exact absurd h4 h;exact h
   have wa:=(hw () a List.mem_cons_self).wh
   have hm:((r.length+1+1:Nat):Int)=5:=by omega
   replace r3:=fun (_:Unit)=>r3
   clear hb h4 hsz
   have hsz:r.length+1+1≤sizeLine:=len5000 (by have:=r3 ();omega)
   rcases hb' with ha|⟨ha,hb'⟩
   ·rw [ha] at wa
    simp! only [and_true]
    rw [c_spWhole,wa]
    simp! only [and_true]
    rw [c_spRTX]
    exact⟨fun h=>(nomatch h),fun _=>k ()⟩
   ·rw [ha] at wa
    replace hb':=fun (_:Unit)=>hb'
    simp! only [and_true]
    rw [c_spWhole,wa]
    simp! only [and_true]
    rw [c_spRTX]
    refine⟨fun _=>?_,fun h=>(nomatch h)⟩
    simp! only [and_true]
    refine use_dropT 2 (by decide) (by show 2≤r.length+1+1;omega) hp ?_
    intro q1 H1 _ e1 h1
    have h1':H1 q1=some (.tup r):=h1
    clear h1 hm
    simp! only [and_true]
    refine comp_fm r (fun _=>true) (fun v=>.bl (nwB v)) (fun z x H'=>x=z∧H' q1=some (.tup r)) (wk_tup h1').1 (wk_tup h1').2 (len5000 (by have:=r3 ();omega)) ?_ ?_
    ·intro D z x' H' N1 N0 hz hD e ⟨hx,_⟩ k1 _
     subst hx
     have k1':=k1 rfl H' (Ext.refl _)
     have hwz:=(hw () _ (List.mem_cons_of_mem _ hz)).ext (e1.trans e)
     have hv:=hwz.wh
     clear k1
     clear hv
     rcases hwz with rfl|⟨i,rfl⟩|⟨i,rfl⟩|⟨i,rfl⟩|⟨q,ys,rfl,hq⟩|⟨q,ys,rfl,hq⟩|⟨q,ys,rfl,hq⟩
     all_goals (unfold nwB at k1';simp! only [↓m_kCm_1,↓m_kCm2,↓c_spWhole])
    ·intro D H2 hD e2 hD2
     have hD3:H2 D=some (.lst ((r.map nwB).map V.bl)):=by rw [hD2,filt,List.map_map];rfl
     have hb2:=hb' ()
     clear hD2 hb'
     generalize r.map nwB=bs at hD3 hb2
     simp! only [and_true]
     rw [c_spRTX]
     exact⟨fun h=>(nomatch h),fun _=>(k ()).ext (e1.trans e2)⟩
  ·have hm:¬ ((xs.length+1:Nat):Int)=5:=by omega
   clear hb
   simp! only [and_true]
   rw [c_spRTX]
   exact⟨fun h=>(nomatch h),fun _=>k ()⟩
def NoL(H:Hp)(v:V):Prop:=WdV H v∧∀ p xs,v=.ref p->H p ≠ some (.lst xs)
abbrev B_spLsX(t:Adr)(p:Addr)(H:Hp)(Q:VK)(E:XK):Prop:=∃ (x:V) (xs:List V),H p=some (.tup (x::xs))∧xs.length≤30∧(xs.length ≠ 1∨∃ y,xs=[y]∧NoL H y)∧NoM t H E
def spLsX(t:Adr):Sp:=fun vs H Q E=>∃ (p:Addr),vs=[.ref p]∧(B_spLsX t p H Q E)
theorem l_spLsX(t:Adr){vs:List V}{H:Hp}{Q:VK}{E:XK}(h:spLsX t vs H Q E):vs.length=1:=spl1 h fun _=>rfl
theorem okX_list_in(T:Tx K mg t):FnOk P t.w K mg base (CX1 P  t.w) 2 t.a_list_in t.d_list_in ["told"] (spLsX t):=by
 have G_refuse_told:=okX_refuse_told (P:=P) (base:=base) T
 refine(Fun.x T.F_list_in).ok c_list_in (fun vs H Q E h=>l_spLsX _ h) (fun cdv A outer s H vs Q E hr h=>?_)
 ·obtain⟨p,rfl,x,xs,hp,h30,hb,k⟩:=h
  refine⟨_,(@pss_cons _ _ _ _ _ (@ps_expr _ _ _ _ (@pe_call _ _ _ _ _ _ _ _ _ _ _ _ _ _ _ _ G_refuse_told (hr.mono (by decide)) (by rfl) T.m_refuse_told T.F_refuse_told.kp T.b_refuse_told .nil passes_def (@pa_c _ _ _ _ _ (@pe_andN _ _ _ _ _ _ _ (@pe_cmpR _ _ _ _ _ _ _ _ (op_qEq hr.units) (@pe_callB _ _ _ _ _ _ _ ("len") _ call_qLen (by rfl) T.z_len (by decide +kernel) (@pa_c _ _ _ _ _ (@pvN _ 0 _ _ (by rfl) (by trivial) (by decide) (by decide)) (@pa_nil _) (by rfl)) (by decide) (by decide) (by rfl) (by rfl)) (@pe_int _ _ _ _) (nomark _)) (@pe_one _ _ _ _ _ (@pe_callB _ _ _ _ _ _ _ ("isinstance") _ call_qIsi (by rfl) T.z_isinstance (by decide +kernel) (@pa_c _ _ _ _ _ (@pe_ix _ _ _ _ _ _ _ ix_q (@pvN _ 0 _ _ (by rfl) (by trivial) (by decide) (by decide)) (@pe_int _ _ _ _) (fun _ _=>rfl)) (@pa_c _ _ _ _ _ (@pe_bltn _ _ (.ty "list") (.type "list") _ (by rfl) T.z_list (by decide +kernel) rfl (by decide) (by decide)) (@pa_nil _) (by rfl)) (by rfl)) (by decide) (by decide) (by rfl) (by rfl)))) (@pa_nil _) (by rfl)) (by decide) (by rfl) (by rfl)) (by rfl)) (@pss_one _ _ _ (@ps_ret _ _ _ _ (@pe_ix _ _ _ _ _ _ _ ix_q (@pvN _ 0 _ _ (by rfl) (by trivial) (by decide) (by decide)) (@pe_int _ _ _ _) (fun _ _=>rfl))))),?_⟩
  rw [show start ["told"] [.ref p]=[some (.ref p)] from rfl]
  clear G_refuse_told
  replace k:=fun (_:Unit)=>k
  have hsz:xs.length+1≤sizeLine:=len5000 (by omega)
  by_cases h1:xs.length=1
  ·obtain⟨y,rfl,hy,hn⟩:∃ y,xs=[y]∧NoL H y:=by rcases hb with h|h;exact absurd h1 h;exact h
   clear hb h1 hsz
   rcases hy with rfl|⟨i,rfl⟩|⟨i,rfl⟩|⟨i,rfl⟩|⟨q,ys,rfl,hq⟩|⟨q,ys,rfl,hq⟩|⟨q,ys,rfl,hq⟩
   ·simp! only [and_true]
    rw [c_spRTX]
    exact⟨fun h=>(nomatch h),fun _=>k ()⟩
   ·simp! only [and_true]
    rw [c_spRTX]
    exact⟨fun h=>(nomatch h),fun _=>k ()⟩
   ·simp! only [and_true]
    rw [c_spRTX]
    exact⟨fun h=>(nomatch h),fun _=>k ()⟩
   ·simp! only [and_true]
    rw [c_spRTX]
    exact⟨fun h=>(nomatch h),fun _=>k ()⟩
   ·exact absurd hq (hn q ys rfl)
   ·simp! only [and_true]
    rw [c_spRTX]
    exact⟨fun h=>(nomatch h),fun _=>k ()⟩
   ·simp! only [and_true]
    rw [c_spRTX]
    exact⟨fun h=>(nomatch h),fun _=>k ()⟩
  ·have hm:¬ ((xs.length+1:Nat):Int)=2:=by omega
   clear hb
   simp! only [and_true]
   rw [c_spRTX]
   exact⟨fun h=>(nomatch h),fun _=>k ()⟩
def spLs2(t:Adr):Sp:=fun vs H Q E=>∃ (p:Addr),vs=[.ref p]∧((∃ (x:V) (l:Addr) (ys:List V),H p=some (.tup [x,.ref l])∧H l=some (.lst ys)∧Q (.ref l) H)∨(∃ (x:V) (xs:List V),H p=some (.tup (x::xs))∧xs.length≤30∧(xs.length ≠ 1∨∃ y,xs=[y]∧NoL H y)∧NoM t H E))
theorem c_spLs2(t:Adr)(p:Addr)(H:Hp)(Q:VK)(E:XK):spLs2 t [.ref p] H Q E=((∃ (x:V) (l:Addr) (ys:List V),H p=some (.tup [x,.ref l])∧H l=some (.lst ys)∧Q (.ref l) H)∨(∃ (x:V) (xs:List V),H p=some (.tup (x::xs))∧xs.length≤30∧(xs.length ≠ 1∨∃ y,xs=[y]∧NoL H y)∧NoM t H E)):=spx1 (f:=fun (p:Addr)=>[.ref p]) (fun _ _ h=>by cases h;exact rfl) p
theorem ok2_list_in(T:Tx K mg t):FnOk P t.w K mg base (CX1 P  t.w) 2 t.a_list_in t.d_list_in ["told"] (spLs2 t):=
 FnOk.both (FnOk.up (ok_list_in T)) (okX_list_in T) fun vs H Q E h=>by
  obtain⟨p,rfl,h|h⟩:=h
  ·exact .inl ⟨p,rfl,h⟩
  ·exact .inr ⟨p,rfl,h⟩
def BadL(H:Hp)(xs:List V):Prop:=xs.length≤30∧((xs.length ≠ 1∨∃ y,xs=[y]∧NoL H y)∨∃ q ys,xs=[.ref q]∧H q=some (.lst ys)∧ys.length≤30∧WdL H ys∧(ys.map whB).all id=false)
abbrev B_spTnX(t:Adr)(p:Addr)(H:Hp)(Q:VK)(E:XK):Prop:=∃ (x:V) (xs:List V),H p=some (.tup (x::xs))∧BadL H xs∧NoM t H E
def spTnX(t:Adr):Sp:=fun vs H Q E=>∃ (p:Addr),vs=[.ref p]∧(B_spTnX t p H Q E)
theorem c_spTnX(t:Adr)(p:Addr)(H:Hp)(Q:VK)(E:XK):spTnX t [.ref p] H Q E=(B_spTnX t p H Q E):=spx1 (f:=fun (p:Addr)=>[.ref p]) (fun _ _ h=>by cases h;exact rfl) p
theorem l_spTnX(t:Adr){vs:List V}{H:Hp}{Q:VK}{E:XK}(h:spTnX t vs H Q E):vs.length=1:=spl1 h fun _=>rfl
theorem okX_made_turn(T:Tx K mg t):FnOk P t.w K mg base (CX1 P  t.w) 3 t.a_made_turn t.d_made_turn ["told"] (spTnX t):=by
 have G_is_whole:=ok_is_whole (P:=P) (base:=base) T
 have G_refuse_told:=okX_refuse_told (P:=P) (base:=base) T
 have G_list_in:=ok2_list_in (P:=P) (base:=base) T
 have G_Turn___init__:=ok_Turn___init__ (P:=P) (base:=base) T
 refine(Fun.x T.F_made_turn).ok c_made_turn (fun vs H Q E h=>l_spTnX _ h) (fun cdv A outer s H vs Q E hr h=>?_)
 ·obtain⟨p,rfl,x,xs,hp,⟨h30,hb⟩,k⟩:=h
  refine⟨_,(@pss_cons _ _ _ _ _ (@ps_set _ _ (1) _ _ _ _ c_made_turn.nd rfl (Or.inl rfl) (@pe_call _ _ _ _ _ _ _ _ _ _ _ _ _ _ _ _ G_list_in (hr.mono (by decide)) (by rfl) T.m_list_in T.F_list_in.kp T.b_list_in .nil passes_def (@pa_c _ _ _ _ _ (@pvN _ 0 _ _ (by rfl) (by trivial) (by decide) (by decide)) (@pa_nil _) (by rfl)) (by decide) (by rfl) (by rfl)) (by rfl) (by trivial)) (@pss_cons _ _ _ _ _ (@ps_expr _ _ _ _ (@pe_call _ _ _ _ _ _ _ _ _ _ _ _ _ _ _ _ G_refuse_told (hr.mono (by decide)) (by rfl) T.m_refuse_told T.F_refuse_told.kp T.b_refuse_told .nil passes_def (@pa_c _ _ _ _ _ (@pe_callB _ _ _ _ _ _ _ ("all") _ (call_qAll rfl) (by rfl) T.z_all (by decide +kernel) (@pa_c _ _ _ _ _ (@pe_comp _ _ _ _ _ _ _ _ _ _ _ (["thing", "told", "order"]) (1) (comp_ok (defScope s_made_turn) ["told", "order"] rfl rfl (by decide +kernel)) rfl (@pi_seq _ _ _ _ (@pvN _ 1 _ _ (by rfl) (by trivial) (by decide) (by decide))) (fun C s₀ H₀ ex pn=>(@pg_name _ _ (0) _ (show List.Nodup (["thing", "told", "order"]:List Str) from by decide +kernel) rfl (Or.inl rfl) (by trivial))) (fun C s₀ H₀ ex pn=>(@pts_nil _)) (fun C s₀ H₀ ex pn=>(@pe_call _ _ _ _ _ _ _ _ _ _ _ _ _ _ _ _ G_is_whole (hr.mono (by decide)) (by rfl) T.m_is_whole T.F_is_whole.kp T.b_is_whole .nil pass0 (@pa_c _ _ _ _ _ (@pvN _ 0 _ _ (by rfl) (by trivial) (by decide) (by decide)) (@pa_nil _) (by rfl)) (by decide) (by rfl) (by rfl))) (by intros;rfl)) (@pa_nil _) (by rfl)) (by decide) (by decide) (by rfl) (by rfl)) (@pa_nil _) (by rfl)) (by decide) (by rfl) (by rfl)) (by rfl)) (@pss_one _ _ _ (@ps_ret _ _ _ _ (@pe_nMake _ _ _ _ _ _ _ _ _ _ _ _ _ _ _ _ _ T.mk_Turn G_Turn___init__ (hr.mono (by decide)) (by rfl) T.m_Turn T.b_Turn___init__ .nil pass0 (@pa_c _ _ _ _ _ (@pvN _ 1 _ _ (by rfl) (by trivial) (by decide) (by decide)) (@pa_nil _) (by rfl)) (by decide) (by rfl) (by rfl)))))),?_⟩
  rw [show start ["told", "order"] [.ref p]=[some (.ref p),none] from rfl]
  clear G_is_whole G_refuse_told G_list_in G_Turn___init__
  replace k:=fun (_:Unit)=>k
  rcases hb with hb|⟨q,ys,rfl,hq,y30,hw,hb⟩
  ·replace hb:=fun (_:Unit)=>hb
   simp! only [and_true]
   rw [c_spLs2]
   exact .inr ⟨x,xs,hp,h30,hb (),k ()⟩
  ·replace hb:=fun (_:Unit)=>hb
   replace hw:=fun (_:Unit)=>hw
   simp! only [and_true]
   rw [c_spLs2]
   refine .inl ⟨x,q,ys,hp,hq,?_⟩
   simp! only [and_true]
   refine comp_fm ys (fun _=>true) (fun v=>.bl (whB v)) (fun z x H'=>x=z∧H' q=some (.lst ys)) (wk_lst hq).1 (wk_lst hq).2 (len5000 (by omega)) ?_ ?_
   ·intro D z x' H' N1 N0 hz hD e ⟨hx,_⟩ k1 _
    subst hx
    have k1':=k1 rfl H' (Ext.refl _)
    have hv:=((hw () _ hz).ext e).wh
    clear k1
    simp! only [↓m_kCm_1,↓m_kCm2]
    rw [c_spWhole,hv]
    exact k1'
   ·intro D H2 hD e2 hD2
    have hD3:H2 D=some (.lst ((ys.map whB).map V.bl)):=by rw [hD2,filt,List.map_map];rfl
    have hb2:=hb ()
    clear hD2 hb
    generalize ys.map whB=bs at hD3 hb2
    simp! only [and_true]
    rw [c_spRTX]
    exact⟨fun h=>(nomatch h),fun _=>(k ()).ext e2⟩
def spMkX(t:Adr):Nat->Sp
 | 1=>spSlX t
 | 3=>spTnX t
 | i=>spMdX t i
theorem FDmX{P:Program}{K:PySem.W.Frag}{mg:Str->Option Value}{base:Heap}{t:Adr}(T:Tx K mg t):∀ i,i < 9->FD P t.w K mg base (CX1 P t.w) 3 (mkM t i) (spMkX t i)
 | 0,_=>⟨T.F_made_stay.kp,_,_,okX_made_stay T,T.b_made_stay⟩
 | 1,_=>⟨T.F_made_slice.kp,_,_,okX_made_slice T,T.b_made_slice⟩
 | 2,_=>⟨T.F_made_pick.kp,_,_,okX_made_pick T,T.b_made_pick⟩
 | 3,_=>⟨T.F_made_turn.kp,_,_,okX_made_turn T,T.b_made_turn⟩
 | 4,_=>⟨T.F_made_fresh.kp,_,_,okX_made_fresh T,T.b_made_fresh⟩
 | 5,_=>⟨T.F_made_spread.kp,_,_,okX_made_spread T,T.b_made_spread⟩
 | 6,_=>⟨T.F_made_cut.kp,_,_,okX_made_cut T,T.b_made_cut⟩
 | 7,_=>⟨T.F_made_window.kp,_,_,okX_made_window T,T.b_made_window⟩
 | 8,_=>⟨T.F_made_diagonal.kp,_,_,okX_made_diagonal T,T.b_made_diagonal⟩
 | n+9,h=>absurd h (by omega)
def BadK(H:Hp)(i:Nat)(xs:List V):Prop:=(i=1∧BadS H xs)∨(i=3∧BadL H xs)∨(i ≠ 1∧i ≠ 3∧BadA H i xs)
inductive BadM (t:Adr) (H:Hp):Nat->Int->V->Prop
 | non (n:Nat) (d:Int):BadM t H n d .non
 | int (n:Nat) (d i:Int):BadM t H n d (.int i)
 | str (n:Nat) (d:Int) (z:Str):BadM t H n d (.str z)
 | bl (n:Nat) (d:Int) (b:Bool):BadM t H n d (.bl b)
 | lst (n:Nat) (d:Int) (p:Addr) (xs:List V):H p=some (.lst xs)->BadM t H n d (.ref p)
 | dic (n:Nat) (d:Int) (p:Addr) (xs:List (Key × V)):H p=some (.dK xs)->BadM t H n d (.ref p)
 | nil (n:Nat) (d:Int) (p:Addr):H p=some (.tup [])->BadM t H n d (.ref p)
 | fst (n:Nat) (d:Int) (p:Addr) (x:V) (xs:List V):H p=some (.tup (x::xs))->xs.length≤30->WdV H x->(∀ z,x ≠ .str z)->BadM t H n d (.ref p)
 | word (n:Nat) (d:Int) (p:Addr) (z:Str) (xs:List V):H p=some (.tup (.str z::xs))->xs.length≤30->(¬ z=Str.ofString "chain")->valV (keyed (mkL t)) (.inr z)=none->BadM t H n d (.ref p)
 | mk (n:Nat) (d:Int) (p:Addr) (i:Nat) (xs:List V):H p=some (.tup (.str (wdM i)::xs))->i < 9->BadK H i xs->BadM t H n d (.ref p)
 | noL (n:Nat) (d:Int) (p:Addr) (xs:List V):H p=some (.tup (.str "chain" :: xs))->xs.length≤30->(xs.length ≠ 1∨∃ y,xs=[y]∧NoL H y)->BadM t H n d (.ref p)
 | deep (n:Nat) (d:Int) (p q:Addr) (ys:List V):H p=some (.tup [.str "chain",.ref q])->H q=some (.lst ys)->ys.length≤4000->4≤d->BadM t H n d (.ref p)
 | part (n:Nat) (d:Int) (p q:Addr) (F:Hp) (l:List Tr) (ys:List V) (y:V) (zs:List V):H p=some (.tup [.str "chain",.ref q])->H q=some (.lst (ys++y::zs))->(ys++y::zs).length≤40->0≤d->d+1≤4->TrFs F H l ys->okTs l->d+1+((deeps l:Nat):Int)≤4->leafs l≤40->BadM t H n (d+1) y->BadM t H (n+1) d (.ref p)
 | many (n:Nat) (d:Int) (p q:Addr) (F:Hp) (l:List Tr) (a:Tr) (ys:List V) (y:V) (zs:List V):H p=some (.tup [.str "chain",.ref q])->H q=some (.lst (ys++y::zs))->(ys++y::zs).length≤40->0≤d->TrFs F H l ys->okTs l->TrF F H a y->okT a->d+1+((deeps l:Nat):Int)≤4->d+1+((deepN a:Nat):Int)≤4->leafs l≤40->leafN a≤40->40 < leafs l+leafN a->BadM t H (n+1) d (.ref p)
theorem WdL.ext{H H':Hp}{xs:List V}(h:WdL H xs)(e:Ext H H'):WdL H' xs:=fun v hv=>(h v hv).ext e
theorem NoL.ext{H H':Hp}{v:V}(h:NoL H v)(e:Ext H H'):NoL H' v:=⟨h.1.ext e,fun p xs hv hp=>by
 subst hv
 rcases h.1 with h1|⟨i,h1⟩|⟨i,h1⟩|⟨i,h1⟩|⟨q,ys,h1,hq⟩|⟨q,ys,h1,hq⟩|⟨q,ys,h1,hq⟩
 ·cases h1
 ·cases h1
 ·cases h1
 ·cases h1
 ·exact h.2 p ys rfl (by cases h1;exact hq)
 ·cases h1;rw [e.at hq] at hp;cases hp
 ·cases h1;rw [e.at hq] at hp;cases hp⟩
theorem BadK.ext{H H':Hp}{i:Nat}{xs:List V}(h:BadK H i xs)(e:Ext H H'):BadK H' i xs:=by
 rcases h with ⟨h1,h2,h3,h4⟩|⟨h1,h2,(h3|⟨y,h3,h4⟩)|⟨q,ys,h3,h4,h5,h6,h7⟩⟩|⟨h1,h1',h2,h3,h4⟩
 ·exact .inl ⟨h1,h2,h3.ext e,h4⟩
 ·exact .inr (.inl ⟨h1,h2,.inl (.inl h3)⟩)
 ·exact .inr (.inl ⟨h1,h2,.inl (.inr ⟨y,h3,h4.ext e⟩)⟩)
 ·exact .inr (.inl ⟨h1,h2,.inr ⟨q,ys,h3,e.at h4,h5,h6.ext e,h7⟩⟩)
 ·exact .inr (.inr ⟨h1,h1',h2,h3.ext e,h4⟩)
theorem BadM.ext{t:Adr}{H H':Hp}(e:Ext H H'){n:Nat}{d:Int}{v:V}(h:BadM t H n d v):BadM t H' n d v:=by
 induction h with
 | non n d=>exact .non n d
 | int n d i=>exact .int n d i
 | str n d z=>exact .str n d z
 | bl n d b=>exact .bl n d b
 | lst n d p xs h=>exact .lst n d p xs (e.at h)
 | dic n d p xs h=>exact .dic n d p xs (e.at h)
 | nil n d p h=>exact .nil n d p (e.at h)
 | fst n d p x xs h h1 h2 h3=>exact .fst n d p x xs (e.at h) h1 (h2.ext e) h3
 | word n d p z xs h h1 h2 h3=>exact .word n d p z xs (e.at h) h1 h2 h3
 | mk n d p i xs h h1 h2=>exact .mk n d p i xs (e.at h) h1 (h2.ext e)
 | noL n d p xs h h1 h2=>
  refine .noL n d p xs (e.at h) h1 ?_
  rcases h2 with h2|⟨y,h2,h3⟩
  ·exact .inl h2
  ·exact .inr ⟨y,h2,h3.ext e⟩
 | deep n d p q ys h h1 h2 h3=>exact .deep n d p q ys (e.at h) (e.at h1) h2 h3
 | part n d p q F l ys y zs h h1 h2 d0 h3 h4 h5 h6 h7 _ ih=>exact .part n d p q F l ys y zs (e.at h) (e.at h1) h2 d0 h3 (TrFs.ext e h4) h5 h6 h7 ih
 | many n d p q F l a ys y zs h h1 h2 d0 h3 h4 h5 h6 h7 h8 h9 h10 h11=>exact .many n d p q F l a ys y zs (e.at h) (e.at h1) h2 d0 (TrFs.ext e h3) h4 (TrF.ext e h5) h6 h7 h8 h9 h10 h11
def spMM2(t:Adr)(n:Nat):Sp:=fun vs H Q E=>∃ (r:V) (d:Int),vs=[r,.int d]∧((∃ (F:Hp) (a:Tr),TrF F H a r∧okT a∧0≤d∧d+((deepN a:Nat):Int)≤4∧leafN a≤40∧∀ (y:V) (H':Hp),Ext H H'->MvT t H H' a y->Q y H')∨(BadM t H n d r∧NoM t H E))
theorem c_spMM2(t:Adr)(n:Nat)(r:V)(d:Int)(H:Hp)(Q:VK)(E:XK):spMM2 t n [r,.int d] H Q E=((∃ (F:Hp) (a:Tr),TrF F H a r∧okT a∧0≤d∧d+((deepN a:Nat):Int)≤4∧leafN a≤40∧∀ (y:V) (H':Hp),Ext H H'->MvT t H H' a y->Q y H')∨(BadM t H n d r∧NoM t H E)):=spx2 (f:=fun (r:V) (d:Int)=>[r,.int d]) (fun _ _ _ _ h=>by cases h;exact⟨rfl,rfl⟩) r d
def spPrev(t:Adr):Nat->Sp
 | 0=>fun _ _ _ _=>False
 | n+1=>spMM2 t n
theorem c_spPrev(t:Adr)(n:Nat):spPrev t (n+1)=spMM2 t n:=rfl
inductive BadC (t:Adr) (H:Hp):Nat->Int->V->Prop
 | noL (n:Nat) (d:Int) (p:Addr) (xs:List V):H p=some (.tup (.str "chain" :: xs))->xs.length≤30->(xs.length ≠ 1∨∃ y,xs=[y]∧NoL H y)->BadC t H n d (.ref p)
 | deep (n:Nat) (d:Int) (p q:Addr) (ys:List V):H p=some (.tup [.str "chain",.ref q])->H q=some (.lst ys)->ys.length≤4000->5≤d->BadC t H n d (.ref p)
 | part (n:Nat) (d:Int) (p q:Addr) (F:Hp) (l:List Tr) (ys:List V) (y:V) (zs:List V):H p=some (.tup [.str "chain",.ref q])->H q=some (.lst (ys++y::zs))->(ys++y::zs).length≤40->1≤d->d≤4->TrFs F H l ys->okTs l->d+((deeps l:Nat):Int)≤4->leafs l≤40->(BadM t H n d y∨∃ a,TrF F H a y∧okT a∧d+((deepN a:Nat):Int)≤4∧leafN a≤40∧40 < leafs l+leafN a)->BadC t H (n+1) d (.ref p)
abbrev B_spMCX(t:Adr)(n:Nat)(r:V)(d:Int)(H:Hp)(Q:VK)(E:XK):Prop:=BadC t H n d r∧NoM t H E
def spMCX(t:Adr)(n:Nat):Sp:=fun vs H Q E=>∃ (r:V) (d:Int),vs=[r,.int d]∧(B_spMCX t n r d H Q E)
theorem c_spMCX(t:Adr)(n:Nat)(r:V)(d:Int)(H:Hp)(Q:VK)(E:XK):spMCX t n [r,.int d] H Q E=(B_spMCX t n r d H Q E):=spx2 (f:=fun (r:V) (d:Int)=>[r,.int d]) (fun _ _ _ _ h=>by cases h;exact⟨rfl,rfl⟩) r d
theorem l_spMCX(t:Adr)(n:Nat){vs:List V}{H:Hp}{Q:VK}{E:XK}(h:spMCX t n vs H Q E):vs.length=2:=spl2 h fun _ _=>rfl
theorem okX_made_chain(T:Tx K mg t){n:Nat}(G_made_move:FnOk P t.w K mg base (CX1 P  t.w) (2 * n+10) t.a_made_move t.d_made_move ["told", "deep"] (spPrev t n)):FnOk P t.w K mg base (CX1 P  t.w) (2 * n+11) t.a_made_chain t.d_made_chain ["told", "deep"] (spMCX t n):=by
 have G_refuse_told:=okX_refuse_told (P:=P) (base:=base) T
 have G_list_in:=ok2_list_in (P:=P) (base:=base) T
 have G_others_in:=ok_others_in (P:=P) (base:=base) T 4
 have G_Chain___init__:=ok_Chain___init__ (P:=P) (base:=base) T
 refine(Fun.x T.F_made_chain).ok c_made_chain (fun vs H Q E h=>l_spMCX _ _ h) (fun cdv A outer s H vs Q E hr h=>?_)
 ·obtain⟨r,d,rfl,hb,k⟩:=h
  refine⟨_,(@pss_cons _ _ _ _ _ (@ps_set _ _ (2) _ _ _ _ c_made_chain.nd rfl (Or.inl rfl) (@pe_call _ _ _ _ _ _ _ _ _ _ _ _ _ _ _ _ G_list_in (hr.mono (show 2≤2 * n+10 by first|decide|omega)) (by rfl) T.m_list_in T.F_list_in.kp T.b_list_in .nil passes_def (@pa_c _ _ _ _ _ (@pvN _ 0 _ _ (by rfl) (by trivial) (by decide) (by decide)) (@pa_nil _) (by rfl)) (by decide) (by rfl) (by rfl)) (by rfl) (by trivial)) (@pss_cons _ _ _ _ _ (@ps_expr _ _ _ _ (@pe_call _ _ _ _ _ _ _ _ _ _ _ _ _ _ _ _ G_refuse_told (hr.mono (show 1≤2 * n+10 by first|decide|omega)) (by rfl) T.m_refuse_told T.F_refuse_told.kp T.b_refuse_told .nil passes_def (@pa_c _ _ _ _ _ (@pe_andN _ _ _ _ _ _ _ (@pe_cmpR _ _ _ _ _ _ _ _ on_le (@pvN _ 1 _ _ (by rfl) (by trivial) (by decide) (by decide)) (@pe_glob _ _ (.int 4) _ _ (by rfl) T.m_MOST_DEEP.choose_spec ⟨_,rfl⟩ (by decide)) (nomark _)) (@pe_one _ _ _ _ _ (@pe_cmpR _ _ _ _ _ _ _ _ on_le (@pe_callB _ _ _ _ _ _ _ ("len") _ call_qLen (by rfl) T.z_len (by decide +kernel) (@pa_c _ _ _ _ _ (@pvN _ 2 _ _ (by rfl) (by trivial) (by decide) (by decide)) (@pa_nil _) (by rfl)) (by decide) (by decide) (by rfl) (by rfl)) (@pe_glob _ _ (.int 40) _ _ (by rfl) T.m_MOST_MOVES.choose_spec ⟨_,rfl⟩ (by decide)) (nomark _)))) (@pa_nil _) (by rfl)) (by decide) (by rfl) (by rfl)) (by rfl)) (@pss_cons _ _ _ _ _ (@ps_set _ _ (3) _ _ _ _ c_made_chain.nd rfl (Or.inl rfl) (@pe_qLst _ _ _ _ (@pa_nil _)) (by rfl) (by trivial)) (@pss_cons _ _ _ _ _ (@ps_set _ _ (4) _ _ _ _ c_made_chain.nd rfl (Or.inl rfl) (@pe_int _ _ _ _) (by rfl) (by trivial)) (@pss_cons _ _ _ _ _ (@ps_for _ _ _ _ _ _ _ _ PassesOwn.leaving rfl (@pi_seq _ _ _ _ (@pvN _ 2 _ _ (by rfl) (by trivial) (by decide) (by decide))) (@pg_name _ _ (5) _ c_made_chain.nd rfl (Or.inl rfl) (by trivial)) (@pss_cons _ _ _ _ _ (@ps_set _ _ (6) _ _ _ _ c_made_chain.nd rfl (Or.inl rfl) (@pe_call _ _ _ _ _ _ _ _ _ _ _ _ _ _ _ _ G_made_move (hr.mono (show 2 * n+10≤2 * n+10 by first|decide|omega)) (by rfl) T.m_made_move T.F_made_move.kp T.b_made_move .nil passes_def (@pa_c _ _ _ _ _ (@pvN _ 5 _ _ (by rfl) (by trivial) (by decide) (by decide)) (@pa_c _ _ _ _ _ (@pvN _ 1 _ _ (by rfl) (by trivial) (by decide) (by decide)) (@pa_nil _) (by rfl)) (by rfl)) (by decide) (by rfl) (by rfl)) (by rfl) (by trivial)) (@pss_cons _ _ _ _ _ (@ps_set _ _ (4) _ _ _ _ c_made_chain.nd rfl (Or.inl rfl) (@pe_op _ _ _ _ _ _ _ _ on_add (@pvN _ 4 _ _ (by rfl) (by trivial) (by decide) (by decide)) (@pe_call _ _ _ _ _ _ _ _ _ _ _ _ _ _ _ _ G_others_in (hr.mono (show 4+2≤2 * n+10 by first|decide|omega)) (by rfl) T.m_others_in T.F_others_in.kp T.b_others_in .nil pass0 (@pa_c _ _ _ _ _ (@pvN _ 6 _ _ (by rfl) (by trivial) (by decide) (by decide)) (@pa_nil _) (by rfl)) (by decide) (by rfl) (by rfl))) (by rfl) (by trivial)) (@pss_cons _ _ _ _ _ (@ps_expr _ _ _ _ (@pe_call _ _ _ _ _ _ _ _ _ _ _ _ _ _ _ _ G_refuse_told (hr.mono (show 1≤2 * n+10 by first|decide|omega)) (by rfl) T.m_refuse_told T.F_refuse_told.kp T.b_refuse_told .nil passes_def (@pa_c _ _ _ _ _ (@pe_cmpR _ _ _ _ _ _ _ _ on_le (@pvN _ 4 _ _ (by rfl) (by trivial) (by decide) (by decide)) (@pe_glob _ _ (.int 40) _ _ (by rfl) T.m_MOST_MOVES.choose_spec ⟨_,rfl⟩ (by decide)) (nomark _)) (@pa_nil _) (by rfl)) (by decide) (by rfl) (by rfl)) (by rfl)) (@pss_one _ _ _ (@ps_expr _ _ _ _ (@pe_bm _ _ _ _ _ _ _ _ _ _ _ _ PySem.F.plainAttrs_list PySem.F.slot_list_append PySem.F.type_list_append mt_append (@pvN _ 3 _ _ (by rfl) (by trivial) (by decide) (by decide)) (@pa_c _ _ _ _ _ (@pvN _ 6 _ _ (by rfl) (by trivial) (by decide) (by decide)) (@pa_nil _) (by rfl)) (by rfl) (by rfl) (by rfl) (by rfl) (by rfl)) (by rfl)))))) (by intros;rfl)) (@pss_one _ _ _ (@ps_ret _ _ _ _ (@pe_nMake _ _ _ _ _ _ _ _ _ _ _ _ _ _ _ _ _ T.mk_Chain G_Chain___init__ (hr.mono (show 1+1≤2 * n+10 by first|decide|omega)) (by rfl) T.m_Chain T.b_Chain___init__ .nil pass0 (@pa_c _ _ _ _ _ (@pvN _ 3 _ _ (by rfl) (by trivial) (by decide) (by decide)) (@pa_nil _) (by rfl)) (by decide) (by rfl) (by rfl))))))))),?_⟩
  rw [show start ["told", "deep", "parts", "moves", "others", "part", "move"] [r,.int d]=[some (r),some (.int d),none,none,none,none,none] from rfl]
  clear G_refuse_told G_list_in G_made_move G_others_in G_Chain___init__
  replace k:=fun (_:Unit)=>k
  cases hb with
  | noL _ _ p xs hp h30 hb=>
   replace hb:=fun (_:Unit)=>hb
   simp! only [and_true]
   rw [c_spLs2]
   exact .inr ⟨_,xs,hp,h30,hb (),k ()⟩
  | deep _ _ p q ys hp hq h4 hd=>
   have hd':¬ d≤4:=by omega
   simp! only [and_true]
   rw [c_spLs2]
   refine .inl ⟨_,q,ys,hp,hq,?_⟩
   simp! only [and_true]
   rw [c_spRTX]
   exact⟨fun h=>(nomatch h),fun _=>k ()⟩
  | part m _ p q F l ys y zs hp hq h40 d1 d4 trs oks dl l40 stop=>
   have al:=trs.al
   have hyl:ys.length=l.length:=al.1
   have hwl:ys.length+(zs.length+1)≤40:=by rw [List.length_append,List.length_cons] at h40;exact h40
   have okm:=oks.mem
   replace okm:=fun (_:Unit)=>okm
   replace al:=fun (_:Unit)=>al
   replace hyl:=fun (_:Unit)=>hyl
   replace stop:=fun (_:Unit)=>stop
   generalize hW:ys++y::zs=W at hq h40
   have hWi:∀ i,i < ys.length->W[i]? = ys[i]?:=fun i hi=>by rw [←hW,List.getElem?_append_left hi]
   have hWy:W[ys.length]? = some y:=by rw [←hW,List.getElem?_append_right (Nat.le_refl _),Nat.sub_self];rfl
   have hWl:W.length=ys.length+(zs.length+1):=by rw [←hW,List.length_append,List.length_cons]
   replace hWi:=fun (_:Unit)=>hWi
   replace hWy:=fun (_:Unit)=>hWy
   replace hWl:=fun (_:Unit)=>hWl
   clear hW trs oks
   have hw40:(W.length:Int)≤40:=by omega
   have hws:W.length≤sizeLine:=len5000 (by omega)
   simp! only [and_true]
   rw [c_spLs2]
   refine .inl ⟨_,q,W,hp,hq,?_⟩
   simp! only [and_true]
   rw [c_spRTX]
   refine⟨fun _=>?_,fun h=>(nomatch h)⟩
   simp! only [and_true]
   intro mm H1 hm e1 h1
   have hq1:=e1.at hq
   simp! only [and_true]
   refine for_lst (xs:=W) (fun i σ H'=>i≤ys.length∧∃ (vs:List V) (v5 v6:Option V),σ=[some (.ref p),some (.int d),some (.ref q),some (.ref mm),some (.int ((leafs (l.take i):Nat):Int)),v5,v6]∧Ext H H'∧H' mm=some (.lst vs)∧vs.length=i) ⟨Nat.zero_le _,[],none,none,rfl,e1,h1,rfl⟩ (fun i σ H' _ ⟨_,_,_,_,_,e,_⟩=>e.at hq) ?_ ?_
   ·rintro i u _ H2 hi ⟨hiy,vs,v5,v6,rfl,e2,h2,hvl⟩
    by_cases hlt:i < ys.length
    ·have hiu:ys[i]? = some u:=by rw [←hWi () i hlt];exact hi
     have hix:i < l.length:=by have:=hyl ();omega
     have hx:l[i]? = some l[i]:=List.getElem?_eq_getElem hix
     have ty:=((al ()).2 i _ u hx hiu).ext e2
     have hmem:=List.getElem_mem hix
     have okx:=okm () _ hmem
     have dx:=deeps_le hmem
     have htk:l.take (i+1)=l.take i++[l[i]]:=by rw [List.take_succ,hx];rfl
     have hlf:leafs (l.take (i+1))=leafs (l.take i)+leafN l[i]:=by
      rw [htk,leafs_app]
      show _+(leafN l[i]+0)=_
      omega
     have hle:=leafs_take (l:=l) (n:=i+1)
     generalize l[i]=x at ty okx htk hx hlf dx hmem
     have hlf2:((leafs (l.take (i+1)):Nat):Int)=((leafs (l.take i):Nat):Int)+((leafN x:Nat):Int):=by rw [hlf];exact Int.natCast_add _ _
     replace hlf:=fun (_:Unit)=>hlf
     replace hlf2:=fun (_:Unit)=>hlf2
     replace hvl:=fun (_:Unit)=>hvl
     clear hq1 htk
     simp! only [↓m_kBody]
     rw [c_spPrev,c_spMM2]
     refine .inl ⟨F,x,ty,okx,by omega,by omega,by have:=hlf ();omega,fun v H3 e3 mv=>?_⟩
     have h3:=e3.at h2
     simp! only [and_true]
     rw [c_spOthT]
     refine⟨_,x,mv,okx,by omega,fun H4 e4=>?_⟩
     have h4:=e4.at h3
     have hle4:((leafs (l.take i):Nat):Int)+((leafN x:Nat):Int)≤40:=by have:=hlf ();omega
     have hv5:vs.length < 5000:=by have:=hvl ();omega
     clear h3
     simp! only [and_true]
     rw [c_spRTX]
     refine⟨fun _=>?_,fun h=>(nomatch h)⟩
     simp! only [and_true]
     refine⟨lt5000 hv5,by omega,vs++[v],some u,some v,?_,(e2.trans (e3.trans e4)).put hm,rfl,by rw [List.length_append,hvl ()];rfl⟩
     rw [hlf2 ()]
    ·have hie:i=ys.length:=by omega
     have hu:u=y:=by
      have h:=hWy ()
      rw [←hie,hi] at h
      exact Option.some.inj h
     subst hu
     have htk:l.take i=l:=List.take_of_length_le (by have:=hyl ();omega)
     have hlf:leafs (l.take i)=leafs l:=by rw [htk]
     replace hlf:=fun (_:Unit)=>hlf
     replace hie:=fun (_:Unit)=>hie
     clear htk hq1
     simp! only [↓m_kBody]
     rw [c_spPrev,c_spMM2]
     rcases stop () with bad|⟨a,tra,oka,da,a40,big⟩
     ·exact .inr ⟨bad.ext e2,(k ()).ext e2⟩
     ·refine .inl ⟨F,a,tra.ext e2,oka,by omega,da,a40,fun v H3 e3 mv=>?_⟩
      simp! only [and_true]
      rw [c_spOthT]
      refine⟨_,a,mv,oka,by omega,fun H4 e4=>?_⟩
      have hle4:¬ ((leafs (l.take i):Nat):Int)+((leafN a:Nat):Int)≤40:=by have:=hlf ();omega
      simp! only [and_true]
      rw [c_spRTX]
      exact⟨fun h=>(nomatch h),fun _=>(k ()).ext (e2.trans (e3.trans e4))⟩
   ·rintro _ H2 ⟨hle,_⟩
    exact absurd hle (by have:=hWl ();omega)
abbrev B_spMMX(t:Adr)(n:Nat)(r:V)(d:Int)(H:Hp)(Q:VK)(E:XK):Prop:=BadM t H n d r∧NoM t H E
def spMMX(t:Adr)(n:Nat):Sp:=fun vs H Q E=>∃ (r:V) (d:Int),vs=[r,.int d]∧(B_spMMX t n r d H Q E)
theorem l_spMMX(t:Adr)(n:Nat){vs:List V}{H:Hp}{Q:VK}{E:XK}(h:spMMX t n vs H Q E):vs.length=2:=spl2 h fun _ _=>rfl
theorem okX_made_mv(T:Tx K mg t){n:Nat}(G_made_chain:FnOk P t.w K mg base (CX1 P  t.w) (2 * n+11) t.a_made_chain t.d_made_chain ["told", "deep"] (spMCX t n)):FnOk P t.w K mg base (CX1 P  t.w) (2 * n+12) t.a_made_move t.d_made_move ["told", "deep"] (spMMX t n):=by
 have G_refuse_told:=okX_refuse_told (P:=P) (base:=base) T
 have FD_MAKERS:=FDmX (P:=P) (base:=base) T
 refine(Fun.x T.F_made_move).ok c_made_move (fun vs H Q E h=>l_spMMX _ _ h) (fun cdv A outer s H vs Q E hr h=>?_)
 ·obtain⟨r,d,rfl,hb,k⟩:=h
  refine⟨_,(@pss_cons _ _ _ _ _ (@ps_expr _ _ _ _ (@pe_call _ _ _ _ _ _ _ _ _ _ _ _ _ _ _ _ G_refuse_told (hr.mono (show 1≤2 * n+11 by first|decide|omega)) (by rfl) T.m_refuse_told T.F_refuse_told.kp T.b_refuse_told .nil passes_def (@pa_c _ _ _ _ _ (@pe_andN _ _ _ _ _ _ _ (@pe_callB _ _ _ _ _ _ _ ("isinstance") _ call_qIsi (by rfl) T.z_isinstance (by decide +kernel) (@pa_c _ _ _ _ _ (@pvN _ 0 _ _ (by rfl) (by trivial) (by decide) (by decide)) (@pa_c _ _ _ _ _ (@pe_bltn _ _ (.ty "tuple") (.type "tuple") _ (by rfl) T.z_tuple (by decide +kernel) rfl (by decide) (by decide)) (@pa_nil _) (by rfl)) (by rfl)) (by decide) (by decide) (by rfl) (by rfl)) (@pe_andN _ _ _ _ _ _ _ (@pe_cmpR _ _ _ _ _ _ _ _ on_gt (@pe_callB _ _ _ _ _ _ _ ("len") _ call_qLen (by rfl) T.z_len (by decide +kernel) (@pa_c _ _ _ _ _ (@pvN _ 0 _ _ (by rfl) (by trivial) (by decide) (by decide)) (@pa_nil _) (by rfl)) (by decide) (by decide) (by rfl) (by rfl)) (@pe_int _ _ _ _) (nomark _)) (@pe_one _ _ _ _ _ (@pe_callB _ _ _ _ _ _ _ ("isinstance") _ call_qIsi (by rfl) T.z_isinstance (by decide +kernel) (@pa_c _ _ _ _ _ (@pe_ix _ _ _ _ _ _ _ ix_q (@pvN _ 0 _ _ (by rfl) (by trivial) (by decide) (by decide)) (@pe_int _ _ _ _) (fun _ _=>rfl)) (@pa_c _ _ _ _ _ (@pe_bltn _ _ (.ty "str") (.type "str") _ (by rfl) T.z_str (by decide +kernel) rfl (by decide) (by decide)) (@pa_nil _) (by rfl)) (by rfl)) (by decide) (by decide) (by rfl) (by rfl))))) (@pa_nil _) (by rfl)) (by decide) (by rfl) (by rfl)) (by rfl)) (@pss_cons _ _ _ _ _ (@ps_if _ _ _ _ _ _ _ _ (@pt_cmpRN _ _ _ _ _ _ _ _ (op_qEq hr.units) (@pe_ix _ _ _ _ _ _ _ ix_q (@pvN _ 0 _ _ (by rfl) (by trivial) (by decide) (by decide)) (@pe_int _ _ _ _) (fun _ _=>rfl)) (@pe_str _ _ _ _) (nomark _)) (@pss_one _ _ _ (@ps_ret _ _ _ _ (@pe_call _ _ _ _ _ _ _ _ _ _ _ _ _ _ _ _ G_made_chain (hr.mono (show 2 * n+11≤2 * n+11 by first|decide|omega)) (by rfl) T.m_made_chain T.F_made_chain.kp T.b_made_chain .nil passes_def (@pa_c _ _ _ _ _ (@pvN _ 0 _ _ (by rfl) (by trivial) (by decide) (by decide)) (@pa_c _ _ _ _ _ (@pe_op _ _ _ _ _ _ _ _ on_add (@pvN _ 1 _ _ (by rfl) (by trivial) (by decide) (by decide)) (@pe_int _ _ _ _)) (@pa_nil _) (by rfl)) (by rfl)) (by decide) (by rfl) (by rfl)))) (@pss_nil _)) (@pss_cons _ _ _ _ _ (@ps_expr _ _ _ _ (@pe_call _ _ _ _ _ _ _ _ _ _ _ _ _ _ _ _ G_refuse_told (hr.mono (show 1≤2 * n+11 by first|decide|omega)) (by rfl) T.m_refuse_told T.F_refuse_told.kp T.b_refuse_told .nil passes_def (@pa_c _ _ _ _ _ (@pe_cmpR _ _ _ _ _ _ _ _ op_inK (@pe_ix _ _ _ _ _ _ _ ix_q (@pvN _ 0 _ _ (by rfl) (by trivial) (by decide) (by decide)) (@pe_int _ _ _ _) (fun _ _=>rfl)) (@pe_glob _ _ (.ref t.a_MAKERS) _ _ (by rfl) T.m_MAKERS rfl (by decide)) (by with_unfolding_all rfl)) (@pa_nil _) (by rfl)) (by decide) (by rfl) (by rfl)) (by rfl)) (@pss_one _ _ _ (@ps_ret _ _ _ _ (@pe_callV _ _ _ _ _ _ _ _ _ _ _ _ _ (@pe_dgetK _ _ _ _ _ _ (@pe_glob _ _ (.ref t.a_MAKERS) _ _ (by rfl) T.m_MAKERS rfl (by decide)) (@pe_ix _ _ _ _ _ _ _ ix_q (@pvN _ 0 _ _ (by rfl) (by trivial) (by decide) (by decide)) (@pe_int _ _ _ _) (fun _ _=>rfl)) (fun _ _=>rfl)) FD_MAKERS (hr.mono (show 3≤2 * n+11 by first|decide|omega)) passes_def (@pa_c _ _ _ _ _ (@pvN _ 0 _ _ (by rfl) (by trivial) (by decide) (by decide)) (@pa_nil _) (by rfl)) (by rfl) (by rfl) (by rfl))))))),?_⟩
  rw [show start ["told", "deep"] [r,.int d]=[some (r),some (.int d)] from rfl]
  clear G_refuse_told G_made_chain FD_MAKERS
  have hM:DicK t.w K t.a_MAKERS (mkL t):=T.d_MAKERS
  replace hM:=fun (_:Unit)=>hM
  replace k:=fun (_:Unit)=>k
  have no:NoM t H E:=k ()
  replace no:=fun (_:Unit)=>no
  cases hb with
  | non=>
   simp! only [and_true]
   rw [c_spRTX]
   exact⟨fun h=>(nomatch h),fun _=>k ()⟩
  | int _ _ i=>
   simp! only [and_true]
   rw [c_spRTX]
   exact⟨fun h=>(nomatch h),fun _=>k ()⟩
  | str _ _ z=>
   simp! only [and_true]
   rw [c_spRTX]
   exact⟨fun h=>(nomatch h),fun _=>k ()⟩
  | bl _ _ b=>
   simp! only [and_true]
   rw [c_spRTX]
   exact⟨fun h=>(nomatch h),fun _=>k ()⟩
  | lst _ _ p xs hp=>
   simp! only [and_true]
   rw [c_spRTX]
   exact⟨fun h=>(nomatch h),fun _=>k ()⟩
  | dic _ _ p xs hp=>
   simp! only [and_true]
   rw [c_spRTX]
   exact⟨fun h=>(nomatch h),fun _=>k ()⟩
  | nil _ _ p hp=>
   simp! only [and_true]
   rw [c_spRTX]
   exact⟨fun h=>(nomatch h),fun _=>k ()⟩
  | fst _ _ p x xs hp h30 hx hns=>
   have hsz:xs.length+1≤sizeLine:=len5000 (by omega)
   have hpos:(0:Int) < ((xs.length+1:Nat):Int):=by omega
   rcases hx with rfl|⟨i,rfl⟩|⟨i,rfl⟩|⟨i,rfl⟩|⟨q,ys,rfl,hq⟩|⟨q,ys,rfl,hq⟩|⟨q,ys,rfl,hq⟩
   ·simp! only [and_true]
    rw [c_spRTX]
    exact⟨fun h=>(nomatch h),fun _=>k ()⟩
   ·simp! only [and_true]
    rw [c_spRTX]
    exact⟨fun h=>(nomatch h),fun _=>k ()⟩
   ·simp! only [and_true]
    rw [c_spRTX]
    exact⟨fun h=>(nomatch h),fun _=>k ()⟩
   ·exact absurd rfl (hns i)
   ·simp! only [and_true]
    rw [c_spRTX]
    exact⟨fun h=>(nomatch h),fun _=>k ()⟩
   ·simp! only [and_true]
    rw [c_spRTX]
    exact⟨fun h=>(nomatch h),fun _=>k ()⟩
   ·simp! only [and_true]
    rw [c_spRTX]
    exact⟨fun h=>(nomatch h),fun _=>k ()⟩
  | word _ _ p z xs hp h30 hz hv=>
   have hsz:xs.length+1≤sizeLine:=len5000 (by omega)
   have hpos:(0:Int) < ((xs.length+1:Nat):Int):=by omega
   replace hv:=fun (_:Unit)=>hv
   simp! only [and_true]
   rw [c_spRTX]
   refine⟨fun _=>?_,fun h=>(nomatch h)⟩
   simp! only [and_true]
   refine use_inK (hM ()) ?_
   rw [hv ()]
   simp! only [and_true]
   rw [c_spRTX]
   exact⟨fun h=>(nomatch h),fun _=>k ()⟩
  | mk _ _ p i xs hp h9 hb=>
   have h30:xs.length≤30:=by rcases hb with ⟨_,h,_⟩|⟨_,h,_⟩|⟨_,_,h,_⟩<;>exact h
   have hsz:xs.length+1≤sizeLine:=len5000 (by omega)
   have hpos:(0:Int) < ((xs.length+1:Nat):Int):=by omega
   have hw:=wd_chain h9
   have hv:=mk_at (t:=t) h9
   replace hv:=fun (_:Unit)=>hv
   replace hb:=fun (_:Unit)=>hb
   simp! only [and_true]
   rw [c_spRTX]
   refine⟨fun _=>?_,fun h=>(nomatch h)⟩
   simp! only [and_true]
   refine use_inK (hM ()) ?_
   rw [hv ()]
   simp! only [and_true]
   rw [c_spRTX]
   refine⟨fun _=>?_,fun h=>(nomatch h)⟩
   simp! only [and_true]
   refine use_dgK (hM ()) (hv ()) ?_
   refine use_callV i h9 rfl ?_
   simp! only [and_true]
   rcases hb () with ⟨rfl,hb1⟩|⟨rfl,hb1⟩|⟨h1,h3,hb1⟩
   ·show spSlX t [.ref p] H Q E
    rw [c_spSlX]
    exact⟨_,xs,hp,hb1,k ()⟩
   ·show spTnX t [.ref p] H Q E
    rw [c_spTnX]
    exact⟨_,xs,hp,hb1,k ()⟩
   ·have e:spMkX t i=spMdX t i:=by unfold spMkX;split<;>first|omega|rfl
    rw [e,c_spMdX]
    exact⟨_,xs,hp,hb1,k ()⟩
  | noL _ _ p xs hp h30 hb=>
   have hsz:xs.length+1≤sizeLine:=len5000 (by omega)
   have hpos:(0:Int) < ((xs.length+1:Nat):Int):=by omega
   replace hb:=fun (_:Unit)=>hb
   simp! only [and_true]
   rw [c_spRTX]
   refine⟨fun _=>?_,fun h=>(nomatch h)⟩
   simp! only [and_true]
   rw [c_spMCX]
   exact⟨.noL _ _ p xs hp h30 (hb ()),k ()⟩
  | deep _ _ p q ys hp hq h4 hd=>
   simp! only [and_true]
   rw [c_spRTX]
   refine⟨fun _=>?_,fun h=>(nomatch h)⟩
   simp! only [and_true]
   rw [c_spMCX]
   exact⟨.deep _ _ p q ys hp hq h4 (by omega),k ()⟩
  | part m _ p q F l ys y zs hp hq h40 d0 d4 trs oks dl l40 bad=>
   replace bad:=fun (_:Unit)=>bad
   replace trs:=fun (_:Unit)=>trs
   replace oks:=fun (_:Unit)=>oks
   simp! only [and_true]
   rw [c_spRTX]
   refine⟨fun _=>?_,fun h=>(nomatch h)⟩
   simp! only [and_true]
   rw [c_spMCX]
   exact⟨.part _ _ p q F l ys y zs hp hq h40 (by omega) (by omega) (trs ()) (oks ()) (by omega) l40 (.inl (bad ())),k ()⟩
  | many m _ p q F l a ys y zs hp hq h40 d0 trs oks tra oka dl da l40 a40 big=>
   replace tra:=fun (_:Unit)=>tra
   replace oka:=fun (_:Unit)=>oka
   replace trs:=fun (_:Unit)=>trs
   replace oks:=fun (_:Unit)=>oks
   simp! only [and_true]
   rw [c_spRTX]
   refine⟨fun _=>?_,fun h=>(nomatch h)⟩
   simp! only [and_true]
   rw [c_spMCX]
   exact⟨.part _ _ p q F l ys y zs hp hq h40 (by omega) (by omega) (trs ()) (oks ()) (by omega) l40 (.inr ⟨a,tra (),oka (),by omega,a40,big⟩),k ()⟩
theorem ok2_made_move(T:Tx K mg t):∀ n:Nat,FnOk P t.w K mg base (CX1 P  t.w) (2 * n+12) t.a_made_move t.d_made_move ["told", "deep"] (spMM2 t n)
 | 0=>by
  have GX:=okX_made_mv (P:=P) (base:=base) (n:=0) T (okX_made_chain T (by exact no_ok))
  have G0:=FnOk.up (CX:=CX1 P  t.w) (ok_made_mt (P:=P) (base:=base) T 4)
  refine FnOk.both G0 GX fun vs H Q E h=>?_
  obtain⟨r,d,rfl,⟨F,a,h1,h2,h3,h4,h5,h6⟩|⟨h1,h2⟩⟩:=h
  ·exact .inl ⟨r,d,rfl,F,a,h1,h2,by omega,h3,h4,h5,h6⟩
  ·exact .inr ⟨r,d,rfl,h1,h2⟩
 | n+1=>by
  have GX:=okX_made_mv (P:=P) (base:=base) (n:=n+1) T (okX_made_chain T ((ok2_made_move T n).mono (by omega)))
  have G0:=(FnOk.up (CX:=CX1 P  t.w) (ok_made_mt (P:=P) (base:=base) T 4)).mono (show 12≤2 * (n+1)+12 by omega)
  refine FnOk.both G0 GX fun vs H Q E h=>?_
  obtain⟨r,d,rfl,⟨F,a,h1,h2,h3,h4,h5,h6⟩|⟨h1,h2⟩⟩:=h
  ·exact .inl ⟨r,d,rfl,F,a,h1,h2,by omega,h3,h4,h5,h6⟩
  ·exact .inr ⟨r,d,rfl,h1,h2⟩
abbrev B_spMOX(t:Adr)(r:V)(H:Hp)(Q:VK)(E:XK):Prop:=BadM t H 9 0 r∧NoM t H E
def spMOX(t:Adr):Sp:=fun vs H Q E=>∃ (r:V),vs=[r]∧(B_spMOX t r H Q E)
theorem c_spMOX(t:Adr)(r:V)(H:Hp)(Q:VK)(E:XK):spMOX t [r] H Q E=(B_spMOX t r H Q E):=spx1 (f:=fun (r:V)=>[r]) (fun _ _ h=>by cases h;exact rfl) r
theorem l_spMOX(t:Adr){vs:List V}{H:Hp}{Q:VK}{E:XK}(h:spMOX t vs H Q E):vs.length=1:=spl1 h fun _=>rfl
theorem okX_move_of(T:Tx K mg t):FnOk P t.w K mg base (CX1 P  t.w) 31 t.a_move_of t.d_move_of ["told"] (spMOX t):=by
 have G_made_move:=ok2_made_move (P:=P) (base:=base) T 9
 refine(Fun.x T.F_move_of).ok c_move_of (fun vs H Q E h=>l_spMOX _ h) (fun cdv A outer s H vs Q E hr h=>?_)
 ·obtain⟨r,rfl,hb,k⟩:=h
  refine⟨_,(@pss_one _ _ _ (@ps_ret _ _ _ _ (@pe_call _ _ _ _ _ _ _ _ _ _ _ _ _ _ _ _ G_made_move (hr.mono (by decide)) (by rfl) T.m_made_move T.F_made_move.kp T.b_made_move .nil passes_def (@pa_c _ _ _ _ _ (@pvN _ 0 _ _ (by rfl) (by trivial) (by decide) (by decide)) (@pa_c _ _ _ _ _ (@pe_int _ _ _ _) (@pa_nil _) (by rfl)) (by rfl)) (by decide) (by rfl) (by rfl)))),?_⟩
  rw [show start ["told"] [r]=[some (r)] from rfl]
  clear G_made_move
  replace k:=fun (_:Unit)=>k
  simp! only [and_true]
  rw [c_spMM2]
  exact .inr ⟨hb,k ()⟩
abbrev B_spRefd(t:Adr)(r:V)(H:Hp)(Q:VK)(E:XK):Prop:=BadM t H 9 0 r∧∀ H',Ext H H'->Q (.bl true) H'
def spRefd(t:Adr):Sp:=fun vs H Q E=>∃ (r:V),vs=[r]∧(B_spRefd t r H Q E)
theorem c_spRefd(t:Adr)(r:V)(H:Hp)(Q:VK)(E:XK):spRefd t [r] H Q E=(B_spRefd t r H Q E):=spx1 (f:=fun (r:V)=>[r]) (fun _ _ h=>by cases h;exact rfl) r
theorem l_spRefd(t:Adr){vs:List V}{H:Hp}{Q:VK}{E:XK}(h:spRefd t vs H Q E):vs.length=1:=spl1 h fun _=>rfl
theorem ok__law_refused(T:Tx K mg t):FnOk P t.w K mg base CX0 32 t.a__law_refused t.d__law_refused ["_law_thing"] (spRefd t):=by
 have G_move_of:=okX_move_of (P:=P) (base:=base) T
 refine T.F__law_refused.ok c__law_refused (fun vs H Q E h=>l_spRefd _ h) (fun cdv A outer s H vs Q E hr h=>?_)
 ·obtain⟨r,rfl,hb,k⟩:=h
  have hx1:=T.x_NoMove_PaceError
  refine⟨_,(@pss_cons _ _ _ _ _ (@ps_set _ _ (1) _ _ _ _ c__law_refused.nd rfl (Or.inl rfl) (@pe_str _ _ _ _) (by rfl) (by trivial)) (@pss_cons _ _ _ _ _ (@ps_try _ _ _ _ _ _ _ ⟨rfl,rfl,rfl⟩ (fun EX E pn hx=>(@pss_one _ _ _ (@ps_expr _ _ _ _ (@pe_callX _ _ _ _ _ _ _ _ _ _ _ _ _ _ _ _ G_move_of (hr.mono (by decide)) (by rfl) T.m_move_of T.F_move_of.kp T.b_move_of .nil hx (@pa_c _ _ _ _ _ (@pvN _ 0 _ _ (by rfl) (by trivial) (by decide) (by decide)) (@pa_nil _) (by rfl)) (by decide) (by rfl) (by rfl)) (by rfl)))) (@phs_as _ _ _ (2) _ _ _ _ _ _ _ _ c__law_refused.nd rfl rfl (by rfl) (.inl T.m_PaceError) (fun ee=>(@pss_cons _ _ _ _ _ (@ps_set _ _ (1) _ _ _ _ c__law_refused.nd rfl (Or.inl rfl) (@pe_str _ _ _ _) (by rfl) (by trivial)) (@pss_one _ _ _ (@ps_if _ _ _ _ _ _ _ _ (PW.pt (@pw_and _ _ _ _ _ _ _ (@pt_valN _ _ _ (@pe_callB _ _ _ _ _ _ _ ("isinstance") _ (call_qIsE' (K:=K) rfl) (by rfl) T.z_isinstance (by decide +kernel) (@pa_c _ _ _ _ _ (@pvN _ 2 _ _ (by rfl) (by trivial) (by decide) (by decide)) (@pa_c _ _ _ _ _ (@pe_glob _ _ (.ref t.a_NoMove) _ _ (by rfl) T.m_NoMove rfl (by decide)) (@pa_nil _) (by rfl)) (by rfl)) (by decide) (by decide) (by rfl) (by rfl)) (by intros;rfl)) (@pw_and _ _ _ _ _ _ _ (@pt_not _ _ _ _ (@pt_valN _ _ _ (@pe_callB _ _ _ _ _ _ _ ("isinstance") _ (call_qIsE' (K:=K) rfl) (by rfl) T.z_isinstance (by decide +kernel) (@pa_c _ _ _ _ _ (@pvN _ 2 _ _ (by rfl) (by trivial) (by decide) (by decide)) (@pa_c _ _ _ _ _ (@pe_glob _ _ (.ref t.a_NoPlace) _ _ (by rfl) T.m_NoPlace rfl (by decide)) (@pa_nil _) (by rfl)) (by rfl)) (by decide) (by decide) (by rfl) (by rfl)) (by intros;rfl))) (@pw_and1 _ _ _ _ (@pt_not _ _ _ _ (@pt_valN _ _ _ (@pe_callB _ _ _ _ _ _ _ ("isinstance") _ (call_qIsE' (K:=K) rfl) (by rfl) T.z_isinstance (by decide +kernel) (@pa_c _ _ _ _ _ (@pvN _ 2 _ _ (by rfl) (by trivial) (by decide) (by decide)) (@pa_c _ _ _ _ _ (@pe_glob _ _ (.ref t.a_NoRow) _ _ (by rfl) T.m_NoRow rfl (by decide)) (@pa_nil _) (by rfl)) (by rfl)) (by decide) (by decide) (by rfl) (by rfl)) (by intros;rfl))))))) (@pss_one _ _ _ (@ps_set _ _ (1) _ _ _ _ c__law_refused.nd rfl (Or.inl rfl) (@pe_str _ _ _ _) (by rfl) (by trivial))) (@pss_nil _))))) (@phs_nil _) (by decide))) (@pss_one _ _ _ (@ps_ret _ _ _ _ (@pe_cmpR _ _ _ _ _ _ _ _ (op_qEq hr.units) (@pvN _ 1 _ _ (by rfl) (by trivial) (by decide) (by decide)) (@pe_str _ _ _ _) (nomark _)))))),?_⟩
  rw [show start ["_law_thing", "_law_word", "e"] [r]=[some (r),none,none] from rfl]
  clear G_move_of
  replace k:=fun (_:Unit)=>k
  simp! only [and_true]
  rw [c_spMOX]
  refine⟨hb,fun H1 e1=>?_⟩
  clear hb
  simp! only [and_true]
  intro e oe he hcl hdc hdat
  have g4:(upd H1 e (excO oe)) e=some (excO oe):=upd_same
  have e3:Ext H (upd H1 e (excO oe)):=e1.trans (Ext.new he)
  generalize upd H1 e (excO oe)=H3 at e3 g4
  have k':=k () H3 e3
  clear he k
  simp! only [T.e_NoMove,T.k_NoMove_NoMove,T.k_NoMove_NoPlace,T.k_NoMove_NoRow]
theorem al_ints{P:Int->Prop}:∀ {α:Type}{xs:List α}{zs:List V},Al (fun _ y=>∃ i,y=V.int i∧P i) xs zs->∃ ns:List Int,zs=ns.map V.int∧ns.length=xs.length∧∀ i∈ns,P i
 | _,[],zs,h=>⟨[],List.eq_nil_of_length_eq_zero h.1,rfl,fun _ h=>absurd h List.not_mem_nil⟩
 | _,x::xs,[],h=>by have:=h.1;simp at this
 | _,x::xs,z::zs,h=>by
  obtain⟨i,rfl,hi⟩:=h.2 0 x z rfl rfl
  obtain⟨ns,h1,h2,h3⟩:=al_ints (P:=P) (xs:=xs) (zs:=zs) ⟨by have:=h.1;simpa using this,fun i z y a b=>h.2 (i+1) z y (by simpa using a) (by simpa using b)⟩
  refine⟨i::ns,by rw [h1];rfl,by rw [List.length_cons,h2,List.length_cons],fun j hj=>?_⟩
  rcases List.mem_cons.mp hj with rfl|hj
  ·exact hi
  ·exact h3 j hj
theorem optK_pick{xs:List V}{i:Int}{k:V->Prop}(P:V->Prop)(h0:0≤i)(h1:i < xs.length)(ha:∀ v∈xs,P v)(hk:∀ v,P v->k v):optK (atI xs i) k:=optK_at h0 h1 fun v hv=>hk v (ha v hv)
abbrev B_spNb(K:PySem.W.Frag)(a:Addr)(ns:List Int)(p:Addr)(k:Int)(H:Hp)(Q:VK)(E:XK):Prop:=p=a∧SqL K H a (ns.map V.int)∧ns.length≤63∧0≤k∧k < 900∧∀ (i:Int) (H':Hp),Ext H H'->i.natAbs < 10 ^ 60->Q (.int i) H'
def spNb(K:PySem.W.Frag)(a:Addr)(ns:List Int):Sp:=fun vs H Q E=>∃ (p:Addr) (k:Int),vs=[.ref p,.int k]∧(B_spNb K a ns p k H Q E)
theorem c_spNb(K:PySem.W.Frag)(a:Addr)(ns:List Int)(p:Addr)(k:Int)(H:Hp)(Q:VK)(E:XK):spNb K a ns [.ref p,.int k] H Q E=(B_spNb K a ns p k H Q E):=spx2 (f:=fun (p:Addr) (k:Int)=>[.ref p,.int k]) (fun _ _ _ _ h=>by cases h;exact⟨rfl,rfl⟩) p k
theorem l_spNb(K:PySem.W.Frag)(a:Addr)(ns:List Int){vs:List V}{H:Hp}{Q:VK}{E:XK}(h:spNb K a ns vs H Q E):vs.length=2:=spl2 h fun _ _=>rfl
theorem ok__law_number(T:Tx K mg t)(a:Addr)(ns:List Int):FnOk P t.w K mg base CX0 2 t.a__law_number t.d__law_number ["_law_script", "_law_k"] (spNb K a ns):=by
 have G__law_draw:=ok__law_draw (P:=P) (base:=base) T a ns
 refine T.F__law_number.ok c__law_number (fun vs H Q E h=>l_spNb _ _ _ h) (fun cdv A outer s H vs Q E hr h=>?_)
 ·obtain⟨_,k,rfl,rfl,hS,hl,k0,k1,kk⟩:=h
  rename_i a
  refine⟨_,(@pss_cons _ _ _ _ _ (@ps_set _ _ (2) _ _ _ _ c__law_number.nd rfl (Or.inl rfl) (@pe_call _ _ _ _ _ _ _ _ _ _ _ _ _ _ _ _ G__law_draw (hr.mono (by decide)) (by rfl) T.m__law_draw T.F__law_draw.kp T.b__law_draw .nil pass0 (@pa_c _ _ _ _ _ (@pvN _ 0 _ _ (by rfl) (by trivial) (by decide) (by decide)) (@pa_c _ _ _ _ _ (@pvN _ 1 _ _ (by rfl) (by trivial) (by decide) (by decide)) (@pa_c _ _ _ _ _ (@pe_op _ _ _ _ _ _ _ _ on_pow (@pe_int _ _ _ _) (@pe_int _ _ _ _)) (@pa_nil _) (by rfl)) (by rfl)) (by rfl)) (by decide) (by rfl) (by rfl)) (by rfl) (by trivial)) (@pss_cons _ _ _ _ _ (@ps_set _ _ (3) _ _ _ _ c__law_number.nd rfl (Or.inl rfl) (@pe_op _ _ _ _ _ _ _ _ on_mod (@pe_op _ _ _ _ _ _ _ _ on_fdiv (@pvN _ 2 _ _ (by rfl) (by trivial) (by decide) (by decide)) (@pe_int _ _ _ _)) (@pe_ix _ _ _ _ _ _ _ ix_q (@pe_qLst _ _ _ _ (@pa_c _ _ _ _ _ (@pe_int _ _ _ _) (@pa_c _ _ _ _ _ (@pe_int _ _ _ _) (@pa_c _ _ _ _ _ (@pe_op _ _ _ _ _ _ _ _ on_pow (@pe_int _ _ _ _) (@pe_int _ _ _ _)) (@pa_nil _) (by rfl)) (by rfl)) (by rfl))) (@pe_op _ _ _ _ _ _ _ _ on_mod (@pe_op _ _ _ _ _ _ _ _ on_fdiv (@pvN _ 2 _ _ (by rfl) (by trivial) (by decide) (by decide)) (@pe_int _ _ _ _)) (@pe_int _ _ _ _)) (fun _ _=>rfl))) (by rfl) (by trivial)) (@pss_cons _ _ _ _ _ (@ps_if _ _ _ _ _ _ _ _ (@pt_cmpRN _ _ _ _ _ _ _ _ (op_qEq hr.units) (@pe_op _ _ _ _ _ _ _ _ on_mod (@pvN _ 2 _ _ (by rfl) (by trivial) (by decide) (by decide)) (@pe_int _ _ _ _)) (@pe_int _ _ _ _) (nomark _)) (@pss_one _ _ _ (@ps_ret _ _ _ _ (@pe_op _ _ _ _ _ _ _ _ on_sub (@pe_int _ _ _ _) (@pvN _ 3 _ _ (by rfl) (by trivial) (by decide) (by decide))))) (@pss_nil _)) (@pss_one _ _ _ (@ps_ret _ _ _ _ (@pvN _ 3 _ _ (by rfl) (by trivial) (by decide) (by decide))))))),?_⟩
  rw [show start ["_law_script", "_law_k", "_law_cell", "_law_number_here"] [.ref a,.int k]=[some (.ref a),some (.int k),none,none] from rfl]
  clear G__law_draw
  replace kk:=fun (_:Unit)=>kk
  simp! only [and_true]
  rw [c_spDraw]
  refine⟨hS,hl,⟨k0,by omega⟩,by decide,fun c c0 c1=>?_⟩
  have c2:0≤c / 2:=Int.ediv_nonneg c0 (by decide)
  have c6:0≤c / 6:=Int.ediv_nonneg c0 (by decide)
  have m0:=Int.emod_nonneg (c / 2) (show (3:Int) ≠ 0 by decide)
  have m1:=Int.emod_lt_of_pos (c / 2) (show (0:Int) < 3 by decide)
  simp! only [and_true]
  intro l1 H1 _ e1 h1
  simp! only [and_true]
  refine optK_pick (fun v=>∃ b:Int,v=.int b∧0 < b∧b≤10 ^ 59) m0 (by simpa using m1) (fun v hv=>?_) ?_
  ·simp only [List.mem_cons,List.not_mem_nil,or_false] at hv
   rcases hv with rfl|rfl|rfl
   ·exact⟨_,rfl,by decide,by decide⟩
   ·exact⟨_,rfl,by decide,by decide⟩
   ·exact⟨_,rfl,by decide,by decide⟩
  rintro _ ⟨b,rfl,b0,b1⟩
  have d0:=Int.emod_nonneg (c / 6) (show b ≠ 0 by omega)
  have d1:=Int.emod_lt_of_pos (c / 6) b0
  clear h1
  by_cases hc:c % 2=1
  ·simp! only [and_true]
   exact kk () _ H1 e1 (by omega)
  ·simp! only [and_true]
   exact kk () _ H1 e1 (by omega)
abbrev B_spPt(K:PySem.W.Frag)(a:Addr)(ns:List Int)(p:Addr)(k:Int)(H:Hp)(Q:VK)(E:XK):Prop:=p=a∧SqL K H a (ns.map V.int)∧ns.length≤63∧0≤k∧k < 900∧∀ (o:Option Int) (H':Hp),Ext H H'->(∀ i,o=some i->i.natAbs < 10 ^ 60)->Q (oV o) H'
def spPt(K:PySem.W.Frag)(a:Addr)(ns:List Int):Sp:=fun vs H Q E=>∃ (p:Addr) (k:Int),vs=[.ref p,.int k]∧(B_spPt K a ns p k H Q E)
theorem c_spPt(K:PySem.W.Frag)(a:Addr)(ns:List Int)(p:Addr)(k:Int)(H:Hp)(Q:VK)(E:XK):spPt K a ns [.ref p,.int k] H Q E=(B_spPt K a ns p k H Q E):=spx2 (f:=fun (p:Addr) (k:Int)=>[.ref p,.int k]) (fun _ _ _ _ h=>by cases h;exact⟨rfl,rfl⟩) p k
theorem l_spPt(K:PySem.W.Frag)(a:Addr)(ns:List Int){vs:List V}{H:Hp}{Q:VK}{E:XK}(h:spPt K a ns vs H Q E):vs.length=2:=spl2 h fun _ _=>rfl
theorem ok__law_part(T:Tx K mg t)(a:Addr)(ns:List Int):FnOk P t.w K mg base CX0 3 t.a__law_part t.d__law_part ["_law_script", "_law_k"] (spPt K a ns):=by
 have G__law_draw:=ok__law_draw (P:=P) (base:=base) T a ns
 have G__law_number:=ok__law_number (P:=P) (base:=base) T a ns
 refine T.F__law_part.ok c__law_part (fun vs H Q E h=>l_spPt _ _ _ h) (fun cdv A outer s H vs Q E hr h=>?_)
 ·obtain⟨_,k,rfl,rfl,hS,hl,k0,k1,kk⟩:=h
  rename_i a
  refine⟨_,(@pss_cons _ _ _ _ _ (@ps_if _ _ _ _ _ _ _ _ (@pt_cmpRN _ _ _ _ _ _ _ _ (op_qEq hr.units) (@pe_call _ _ _ _ _ _ _ _ _ _ _ _ _ _ _ _ G__law_draw (hr.mono (by decide)) (by rfl) T.m__law_draw T.F__law_draw.kp T.b__law_draw .nil pass0 (@pa_c _ _ _ _ _ (@pvN _ 0 _ _ (by rfl) (by trivial) (by decide) (by decide)) (@pa_c _ _ _ _ _ (@pvN _ 1 _ _ (by rfl) (by trivial) (by decide) (by decide)) (@pa_c _ _ _ _ _ (@pe_int _ _ _ _) (@pa_nil _) (by rfl)) (by rfl)) (by rfl)) (by decide) (by rfl) (by rfl)) (@pe_int _ _ _ _) (nomark _)) (@pss_one _ _ _ (@ps_ret _ _ _ _ (@pe_non _ _ _))) (@pss_nil _)) (@pss_one _ _ _ (@ps_ret _ _ _ _ (@pe_call _ _ _ _ _ _ _ _ _ _ _ _ _ _ _ _ G__law_number (hr.mono (by decide)) (by rfl) T.m__law_number T.F__law_number.kp T.b__law_number .nil pass0 (@pa_c _ _ _ _ _ (@pvN _ 0 _ _ (by rfl) (by trivial) (by decide) (by decide)) (@pa_c _ _ _ _ _ (@pvN _ 1 _ _ (by rfl) (by trivial) (by decide) (by decide)) (@pa_nil _) (by rfl)) (by rfl)) (by decide) (by rfl) (by rfl))))),?_⟩
  rw [show start ["_law_script", "_law_k"] [.ref a,.int k]=[some (.ref a),some (.int k)] from rfl]
  clear G__law_draw G__law_number
  replace kk:=fun (_:Unit)=>kk
  simp! only [and_true]
  rw [c_spDraw]
  refine⟨hS,hl,⟨k0,by omega⟩,by decide,fun c c0 c1=>?_⟩
  by_cases hc:c=0
  ·have k2:Q .non H:=kk () none H (Ext.refl _) fun _ h=>nomatch h
   clear kk
   simp! only [and_true]
  ·simp! only [and_true]
   rw [c_spNb]
   exact⟨rfl,hS,hl,k0,k1,fun i H' e hi=>kk () (some i) H' e fun j hj=>by cases hj;exact hi⟩
abbrev B_spDrn(K:PySem.W.Frag)(a:Addr)(ns:List Int)(p:Addr)(k:Int)(H:Hp)(Q:VK)(E:XK):Prop:=p=a∧SqL K H a (ns.map V.int)∧ns.length≤63∧0≤k∧k < 800∧∀ (x:Tl) (r:V) (H':Hp),Ext H H'->TlF H H' r x->TlOk x->Q r H'
def spDrn(K:PySem.W.Frag)(a:Addr)(ns:List Int):Sp:=fun vs H Q E=>∃ (p:Addr) (k:Int),vs=[.ref p,.int k]∧(B_spDrn K a ns p k H Q E)
theorem c_spDrn(K:PySem.W.Frag)(a:Addr)(ns:List Int)(p:Addr)(k:Int)(H:Hp)(Q:VK)(E:XK):spDrn K a ns [.ref p,.int k] H Q E=(B_spDrn K a ns p k H Q E):=spx2 (f:=fun (p:Addr) (k:Int)=>[.ref p,.int k]) (fun _ _ _ _ h=>by cases h;exact⟨rfl,rfl⟩) p k
theorem l_spDrn(K:PySem.W.Frag)(a:Addr)(ns:List Int){vs:List V}{H:Hp}{Q:VK}{E:XK}(h:spDrn K a ns vs H Q E):vs.length=2:=spl2 h fun _ _=>rfl
theorem ok__law_drawn(T:Tx K mg t)(a:Addr)(ns:List Int):FnOk P t.w K mg base CX0 4 t.a__law_drawn t.d__law_drawn ["_law_script", "_law_at"] (spDrn K a ns):=by
 have G__law_draw:=ok__law_draw (P:=P) (base:=base) T a ns
 have G__law_number:=ok__law_number (P:=P) (base:=base) T a ns
 have G__law_part:=ok__law_part (P:=P) (base:=base) T a ns
 refine T.F__law_drawn.ok c__law_drawn (fun vs H Q E h=>l_spDrn _ _ _ h) (fun cdv A outer s H vs Q E hr h=>?_)
 ·obtain⟨_,k,rfl,rfl,hS,hl,k0,k1,kk⟩:=h
  rename_i a
  refine⟨_,(@pss_cons _ _ _ _ _ (@ps_set _ _ (2) _ _ _ _ c__law_drawn.nd rfl (Or.inl rfl) (@pe_call _ _ _ _ _ _ _ _ _ _ _ _ _ _ _ _ G__law_draw (hr.mono (by decide)) (by rfl) T.m__law_draw T.F__law_draw.kp T.b__law_draw .nil pass0 (@pa_c _ _ _ _ _ (@pvN _ 0 _ _ (by rfl) (by trivial) (by decide) (by decide)) (@pa_c _ _ _ _ _ (@pvN _ 1 _ _ (by rfl) (by trivial) (by decide) (by decide)) (@pa_c _ _ _ _ _ (@pe_int _ _ _ _) (@pa_nil _) (by rfl)) (by rfl)) (by rfl)) (by decide) (by rfl) (by rfl)) (by rfl) (by trivial)) (@pss_cons _ _ _ _ _ (@ps_set _ _ (3) _ _ _ _ c__law_drawn.nd rfl (Or.inl rfl) (@pe_call _ _ _ _ _ _ _ _ _ _ _ _ _ _ _ _ G__law_number (hr.mono (by decide)) (by rfl) T.m__law_number T.F__law_number.kp T.b__law_number .nil pass0 (@pa_c _ _ _ _ _ (@pvN _ 0 _ _ (by rfl) (by trivial) (by decide) (by decide)) (@pa_c _ _ _ _ _ (@pe_op _ _ _ _ _ _ _ _ on_add (@pvN _ 1 _ _ (by rfl) (by trivial) (by decide) (by decide)) (@pe_int _ _ _ _)) (@pa_nil _) (by rfl)) (by rfl)) (by decide) (by rfl) (by rfl)) (by rfl) (by trivial)) (@pss_cons _ _ _ _ _ (@ps_set _ _ (4) _ _ _ _ c__law_drawn.nd rfl (Or.inl rfl) (@pe_call _ _ _ _ _ _ _ _ _ _ _ _ _ _ _ _ G__law_number (hr.mono (by decide)) (by rfl) T.m__law_number T.F__law_number.kp T.b__law_number .nil pass0 (@pa_c _ _ _ _ _ (@pvN _ 0 _ _ (by rfl) (by trivial) (by decide) (by decide)) (@pa_c _ _ _ _ _ (@pe_op _ _ _ _ _ _ _ _ on_add (@pvN _ 1 _ _ (by rfl) (by trivial) (by decide) (by decide)) (@pe_int _ _ _ _)) (@pa_nil _) (by rfl)) (by rfl)) (by decide) (by rfl) (by rfl)) (by rfl) (by trivial)) (@pss_cons _ _ _ _ _ (@ps_if _ _ _ _ _ _ _ _ (@pt_cmpRN _ _ _ _ _ _ _ _ (op_qEq hr.units) (@pvN _ 2 _ _ (by rfl) (by trivial) (by decide) (by decide)) (@pe_int _ _ _ _) (nomark _)) (@pss_one _ _ _ (@ps_ret _ _ _ _ (@pe_qTup _ _ _ _ _ (@pa_c _ _ _ _ _ (@pe_str _ _ _ _) (@pa_c _ _ _ _ _ (@pvN _ 3 _ _ (by rfl) (by trivial) (by decide) (by decide)) (@pa_c _ _ _ _ _ (@pe_call _ _ _ _ _ _ _ _ _ _ _ _ _ _ _ _ G__law_part (hr.mono (by decide)) (by rfl) T.m__law_part T.F__law_part.kp T.b__law_part .nil pass0 (@pa_c _ _ _ _ _ (@pvN _ 0 _ _ (by rfl) (by trivial) (by decide) (by decide)) (@pa_c _ _ _ _ _ (@pe_op _ _ _ _ _ _ _ _ on_add (@pvN _ 1 _ _ (by rfl) (by trivial) (by decide) (by decide)) (@pe_int _ _ _ _)) (@pa_nil _) (by rfl)) (by rfl)) (by decide) (by rfl) (by rfl)) (@pa_c _ _ _ _ _ (@pe_call _ _ _ _ _ _ _ _ _ _ _ _ _ _ _ _ G__law_part (hr.mono (by decide)) (by rfl) T.m__law_part T.F__law_part.kp T.b__law_part .nil pass0 (@pa_c _ _ _ _ _ (@pvN _ 0 _ _ (by rfl) (by trivial) (by decide) (by decide)) (@pa_c _ _ _ _ _ (@pe_op _ _ _ _ _ _ _ _ on_add (@pvN _ 1 _ _ (by rfl) (by trivial) (by decide) (by decide)) (@pe_int _ _ _ _)) (@pa_nil _) (by rfl)) (by rfl)) (by decide) (by rfl) (by rfl)) (@pa_c _ _ _ _ _ (@pe_call _ _ _ _ _ _ _ _ _ _ _ _ _ _ _ _ G__law_part (hr.mono (by decide)) (by rfl) T.m__law_part T.F__law_part.kp T.b__law_part .nil pass0 (@pa_c _ _ _ _ _ (@pvN _ 0 _ _ (by rfl) (by trivial) (by decide) (by decide)) (@pa_c _ _ _ _ _ (@pe_op _ _ _ _ _ _ _ _ on_add (@pvN _ 1 _ _ (by rfl) (by trivial) (by decide) (by decide)) (@pe_int _ _ _ _)) (@pa_nil _) (by rfl)) (by rfl)) (by decide) (by rfl) (by rfl)) (@pa_nil _) (by rfl)) (by rfl)) (by rfl)) (by rfl)) (by rfl))))) (@pss_nil _)) (@pss_cons _ _ _ _ _ (@ps_if _ _ _ _ _ _ _ _ (@pt_cmpRN _ _ _ _ _ _ _ _ (op_qEq hr.units) (@pvN _ 2 _ _ (by rfl) (by trivial) (by decide) (by decide)) (@pe_int _ _ _ _) (nomark _)) (@pss_one _ _ _ (@ps_ret _ _ _ _ (@pe_qTup _ _ _ _ _ (@pa_c _ _ _ _ _ (@pe_str _ _ _ _) (@pa_c _ _ _ _ _ (@pe_comp _ _ _ _ _ _ _ _ _ _ _ (["_law_k", "_law_script", "_law_at", "_law_way", "_law_one", "_law_other"]) (1) (comp_ok (defScope s__law_drawn) ["_law_script", "_law_at", "_law_way", "_law_one", "_law_other"] rfl rfl (by decide +kernel)) rfl (@pi_range1 _ _ _ _ _ _ (by rfl) T.z_range (@pa_c _ _ _ _ _ (@pe_call _ _ _ _ _ _ _ _ _ _ _ _ _ _ _ _ G__law_draw (hr.mono (by decide)) (by rfl) T.m__law_draw T.F__law_draw.kp T.b__law_draw .nil pass0 (@pa_c _ _ _ _ _ (@pvN _ 0 _ _ (by rfl) (by trivial) (by decide) (by decide)) (@pa_c _ _ _ _ _ (@pe_op _ _ _ _ _ _ _ _ on_add (@pvN _ 1 _ _ (by rfl) (by trivial) (by decide) (by decide)) (@pe_int _ _ _ _)) (@pa_c _ _ _ _ _ (@pe_int _ _ _ _) (@pa_nil _) (by rfl)) (by rfl)) (by rfl)) (by decide) (by rfl) (by rfl)) (@pa_nil _) (by rfl)) (by rfl)) (fun C s₀ H₀ ex pn=>(@pg_name _ _ (0) _ (show List.Nodup (["_law_k", "_law_script", "_law_at", "_law_way", "_law_one", "_law_other"]:List Str) from by decide +kernel) rfl (Or.inl rfl) (by trivial))) (fun C s₀ H₀ ex pn=>(@pts_nil _)) (fun C s₀ H₀ ex pn=>(@pe_op _ _ _ _ _ _ _ _ on_mod (@pe_call _ _ _ _ _ _ _ _ _ _ _ _ _ _ _ _ G__law_number (hr.mono (by decide)) (by rfl) T.m__law_number T.F__law_number.kp T.b__law_number .nil pass0 (@pa_c _ _ _ _ _ (@pvN _ 1 _ _ (by rfl) (by trivial) (by decide) (by decide)) (@pa_c _ _ _ _ _ (@pe_op _ _ _ _ _ _ _ _ on_add (@pe_op _ _ _ _ _ _ _ _ on_add (@pvN _ 2 _ _ (by rfl) (by trivial) (by decide) (by decide)) (@pe_int _ _ _ _)) (@pvN _ 0 _ _ (by rfl) (by trivial) (by decide) (by decide))) (@pa_nil _) (by rfl)) (by rfl)) (by decide) (by rfl) (by rfl)) (@pe_int _ _ _ _))) (by intros;rfl)) (@pa_nil _) (by rfl)) (by rfl))))) (@pss_nil _)) (@pss_cons _ _ _ _ _ (@ps_if _ _ _ _ _ _ _ _ (@pt_cmpRN _ _ _ _ _ _ _ _ (op_qEq hr.units) (@pvN _ 2 _ _ (by rfl) (by trivial) (by decide) (by decide)) (@pe_int _ _ _ _) (nomark _)) (@pss_one _ _ _ (@ps_ret _ _ _ _ (@pe_qTup _ _ _ _ _ (@pa_c _ _ _ _ _ (@pe_str _ _ _ _) (@pa_c _ _ _ _ _ (@pvN _ 3 _ _ (by rfl) (by trivial) (by decide) (by decide)) (@pa_nil _) (by rfl)) (by rfl))))) (@pss_nil _)) (@pss_cons _ _ _ _ _ (@ps_if _ _ _ _ _ _ _ _ (@pt_cmpRN _ _ _ _ _ _ _ _ (op_qEq hr.units) (@pvN _ 2 _ _ (by rfl) (by trivial) (by decide) (by decide)) (@pe_int _ _ _ _) (nomark _)) (@pss_one _ _ _ (@ps_ret _ _ _ _ (@pe_qTup _ _ _ _ _ (@pa_c _ _ _ _ _ (@pe_str _ _ _ _) (@pa_nil _) (by rfl))))) (@pss_nil _)) (@pss_one _ _ _ (@ps_ret _ _ _ _ (@pe_qTup _ _ _ _ _ (@pa_c _ _ _ _ _ (@pe_ix _ _ _ _ _ _ _ ix_q (@pe_qLst _ _ _ _ (@pa_c _ _ _ _ _ (@pe_str _ _ _ _) (@pa_c _ _ _ _ _ (@pe_str _ _ _ _) (@pa_c _ _ _ _ _ (@pe_str _ _ _ _) (@pa_c _ _ _ _ _ (@pe_str _ _ _ _) (@pa_c _ _ _ _ _ (@pe_str _ _ _ _) (@pa_nil _) (by rfl)) (by rfl)) (by rfl)) (by rfl)) (by rfl))) (@pe_op _ _ _ _ _ _ _ _ on_sub (@pvN _ 2 _ _ (by rfl) (by trivial) (by decide) (by decide)) (@pe_int _ _ _ _)) (fun _ _=>rfl)) (@pa_c _ _ _ _ _ (@pvN _ 3 _ _ (by rfl) (by trivial) (by decide) (by decide)) (@pa_c _ _ _ _ _ (@pvN _ 4 _ _ (by rfl) (by trivial) (by decide) (by decide)) (@pa_nil _) (by rfl)) (by rfl)) (by rfl)))))))))))),?_⟩
  rw [show start ["_law_script", "_law_at", "_law_way", "_law_one", "_law_other"] [.ref a,.int k]=[some (.ref a),some (.int k),none,none,none] from rfl]
  clear G__law_draw G__law_number G__law_part
  replace kk:=fun (_:Unit)=>kk
  simp! only [and_true]
  rw [c_spDraw]
  refine⟨hS,hl,⟨k0,by omega⟩,by decide,fun c c0 c1=>?_⟩
  simp! only [and_true]
  rw [c_spNb]
  refine⟨rfl,hS,hl,by omega,by omega,fun n1 H1 e1 hn1=>?_⟩
  have hS1:=e1.2 K a _ hS
  simp! only [and_true]
  rw [c_spNb]
  refine⟨rfl,hS1,hl,by omega,by omega,fun n2 H2 e2 hn2=>?_⟩
  have hS2:=e2.2 K a _ hS1
  have e02:=e1.trans e2
  clear hS1
  by_cases w0:c=0
  ·simp! only [and_true]
   rw [c_spPt]
   refine⟨rfl,hS2,hl,by omega,by omega,fun o1 H3 e3 ho1=>?_⟩
   have hS3:=e3.2 K a _ hS2
   simp! only [and_true]
   rw [c_spPt]
   refine⟨rfl,hS3,hl,by omega,by omega,fun o2 H4 e4 ho2=>?_⟩
   have hS4:=e4.2 K a _ hS3
   simp! only [and_true]
   rw [c_spPt]
   refine⟨rfl,hS4,hl,by omega,by omega,fun o3 H5 e5 ho3=>?_⟩
   clear hS2 hS3 hS4
   simp! only [and_true]
   intro p H6 _ e6 h6
   refine kk () (1,[some n1,o1,o2,o3]) _ H6 (e02.trans (e3.trans (e4.trans (e5.trans e6)))) ⟨p,rfl,.inl ⟨by show 1 ≠ 3;decide,h6⟩⟩ ⟨by show 1 < 9;decide,fun _=>rfl,by show 4≤9;decide,fun o ho i hi=>?_,fun h=>absurd rfl h,fun _ z=>nomatch z⟩
   simp only [List.mem_cons,List.not_mem_nil,or_false] at ho
   rcases ho with rfl|rfl|rfl|rfl
   ·cases hi;exact hn1
   ·exact ho1 i hi
   ·exact ho2 i hi
   ·exact ho3 i hi
  ·by_cases w1:c=1
   ·simp! only [and_true]
    rw [c_spDraw]
    refine⟨hS2,hl,⟨by omega,by omega⟩,by decide,fun c2 c20 c21=>?_⟩
    simp! only [and_true]
    refine⟨by omega,by omega,?_⟩
    refine comp_rel (List.range c2.toNat) (fun _=>true) (fun z x _=>x=V.int (0+(z:Int))) (fun _ _ y _=>∃ j:Int,y=.int j∧j.natAbs < 10 ^ 60) wk_rng.1 wk_rng.2 (fun _ _ _ _ _ h _=>h) (fun _ _ _ _ _ h=>h) (len5000 (by rw [List.length_range];omega)) ?_ ?_
    ·intro D z v H' N1 N0 hz hD e _ hv k1' _
     subst hv
     have k1'':=k1' rfl
     have hz':z < c2.toNat:=List.mem_range.mp hz
     have hS':=e.2 K a _ hS2
     clear k1' kk
     simp! only [↓m_kCm_1,↓m_kCm2]
     rw [c_spNb]
     refine⟨rfl,hS',hl,by omega,by omega,fun j H'' e' hj=>?_⟩
     have j0:=Int.emod_nonneg j (show (9:Int) ≠ 0 by decide)
     have j1:=Int.emod_lt_of_pos j (show (0:Int) < 9 by decide)
     simp! only [and_true]
     exact k1'' _ H'' e' ⟨_,rfl,by omega⟩
    ·intro D zs H3 hD e3 hD3 al
     rw [filt] at al
     obtain⟨ms,rfl,hml,hmb⟩:=al_ints (P:=fun j:Int=>j.natAbs < 10 ^ 60) al
     rw [List.length_range] at hml
     replace hmb:=fun (_:Unit)=>hmb
     replace hml:=fun (_:Unit)=>hml
     clear al
     simp! only [and_true]
     intro p H4 _ e4 h4
     refine kk () (3,ms.map some) _ H4 (e02.trans (e3.trans e4)) ⟨p,rfl,.inr ⟨rfl,D,h4,e02.free hD,by rw [e4.at hD3,List.map_map];rfl⟩⟩ ⟨by show 3 < 9;decide,fun h=>absurd rfl h,by show (ms.map some).length≤9;rw [List.length_map];have:=hml ();omega,fun o ho i hi=>?_,fun _ o ho=>?_,fun h=>absurd h (by show 3 ≠ 1;decide)⟩
     ·obtain⟨b,hb,rfl⟩:=List.mem_map.mp ho
      cases hi
      exact hmb () _ hb
     ·obtain⟨b,hb,rfl⟩:=List.mem_map.mp ho
      exact fun z=>nomatch z
   ·by_cases w2:c=2
    ·simp! only [and_true]
     intro p H6 _ e6 h6
     refine kk () (4,[some n1]) _ H6 (e02.trans e6) ⟨p,rfl,.inl ⟨by show 4 ≠ 3;decide,h6⟩⟩ ⟨by show 4 < 9;decide,fun _=>rfl,by show 1≤9;decide,fun o ho i hi=>?_,fun _ o ho=>?_,fun h=>absurd h (by show 4 ≠ 1;decide)⟩
     ·rw [List.mem_singleton.mp ho] at hi;cases hi;exact hn1
     ·rw [List.mem_singleton.mp ho];exact fun z=>nomatch z
    ·by_cases w3:c=3
     ·simp! only [and_true]
      intro p H6 _ e6 h6
      exact kk () (0,[]) _ H6 (e02.trans e6) ⟨p,rfl,.inl ⟨by decide,h6⟩⟩ ⟨by show 0 < 9;decide,fun _=>rfl,by show 0≤9;decide,fun o ho=>absurd ho List.not_mem_nil,fun _ o ho=>absurd ho List.not_mem_nil,fun h=>absurd h (by show 0 ≠ 1;decide)⟩
     ·simp! only [and_true]
      intro l6 H6 _ e6 h6
      simp! only [and_true]
      refine optK_pick (fun v=>∃ i,i < 9∧i ≠ 3∧i ≠ 1∧cnM i=2∧v=.str (wdM i)) (by omega) (by show c - 4 < 5;omega) (fun v hv=>?_) ?_
      ·simp only [List.mem_cons,List.not_mem_nil,or_false] at hv
       rcases hv with rfl|rfl|rfl|rfl|rfl
       ·exact⟨2,by decide,by decide,by decide,rfl,rfl⟩
       ·exact⟨5,by decide,by decide,by decide,rfl,rfl⟩
       ·exact⟨6,by decide,by decide,by decide,rfl,rfl⟩
       ·exact⟨7,by decide,by decide,by decide,rfl,rfl⟩
       ·exact⟨8,by decide,by decide,by decide,rfl,rfl⟩
      rintro _ ⟨i,i9,i3,i1,ic,rfl⟩
      clear h6
      replace ic:=fun (_:Unit)=>ic
      simp! only [and_true]
      intro p H7 _ e7 h7
      refine kk () (i,[some n1,some n2]) _ H7 (e02.trans (e6.trans e7)) ⟨p,rfl,.inl ⟨i3,h7⟩⟩ ⟨i9,fun _=>(ic ()).symm,by show 2≤9;decide,fun o ho j hj=>?_,fun _ o ho=>?_,fun h=>absurd h i1⟩
      ·simp only [List.mem_cons,List.not_mem_nil,or_false] at ho
       rcases ho with rfl|rfl
       ·cases hj;exact hn1
       ·cases hj;exact hn2
      ·simp only [List.mem_cons,List.not_mem_nil,or_false] at ho
       rcases ho with rfl|rfl
       ·exact fun z=>nomatch z
       ·exact fun z=>nomatch z
theorem use_cat{l b:Addr}{xs ys:List V}{H:Hp}{Q:VK}(h:H l=some (.lst xs))(h':H b=some (.lst ys))(hl:xs.length+ys.length≤sizeLine)(q:newK (.lst (xs++ys)) H Q):kOp' nCat (.ref l) Q (.ref b) H:=by
 rw [m_kOp',m_nCat,lstAt,h]
 show optK (lstAt H b) (kNC2 xs H Q)
 rw [lstAt,h']
 exact⟨hl,q⟩
theorem strOk_of(s:String):PyData.strOk (Str.ofString s)=true:=by
 rw [Str.ofString_eq_toList]
 unfold PyData.strOk
 rw [Array.all_eq_true_iff_forall_mem]
 intro x hx
 have hx':x∈s.toList.map Char.toNat:=by simpa using hx
 obtain⟨c,_,rfl⟩:=List.mem_map.mp hx'
 have h:=c.valid
 refine decide_eq_true ?_
 have h2:c.toNat.isValidChar:=h
 unfold Nat.isValidChar at h2
 omega
theorem dat_strs{H:Hp}{f:V->Option PyData}:∀ ws:List Str,(∀ w∈ws,PyData.strOk w=true)->allSome ((ws.map V.str).map (datF H f))=some (ws.map PyData.str)
 | [],_=>rfl
 | w::ws,h=>by
  have ih:=dat_strs (H:=H) (f:=f) ws fun x hx=>h x (List.mem_cons_of_mem _ hx)
  have e:datF H f (.str w)=some (.str w):=if_pos (h w List.mem_cons_self)
  show (datF H f (.str w)).bind (fun d=>(allSome ((ws.map V.str).map (datF H f))).map fun ds=>d::ds)=_
  rw [e,ih]
  rfl
def idx5(i:Nat):Nat:=if i=2 then 0 else if i=5 then 1 else if i=6 then 2 else if i=7 then 3 else 4
theorem use_idx5{l:Addr}{H:Hp}{Q:VK}{i:Nat}(hi:i=2∨i=5∨i=6∨i=7∨i=8)(h:H l=some (.lst [.str (Str.ofString "pick"),.str (Str.ofString "spread"),.str (Str.ofString "cut"),.str (Str.ofString "window"),.str (Str.ofString "diagonal")]))(q:Q (.int ((idx5 i:Nat):Int)) H):rIndex (.ref l) [.str (wdM i)] H Q:=by
 have hs:allSome (([Str.ofString "pick",Str.ofString "spread",Str.ofString "cut",Str.ofString "window",Str.ofString "diagonal"].map V.str).map (datV H 5))=some ([Str.ofString "pick",Str.ofString "spread",Str.ofString "cut",Str.ofString "window",Str.ofString "diagonal"].map PyData.str):=dat_strs (f:=datV H 4) _ fun w hw=>by
  simp only [List.mem_cons,List.not_mem_nil,or_false] at hw
  rcases hw with rfl|rfl|rfl|rfl|rfl<;>exact strOk_of _
 refine⟨l,_,_,.str (wdM i),_,idx5 i,rfl,rfl,h,?_,hs,?_,q⟩
 ·rcases hi with rfl|rfl|rfl|rfl|rfl<;>exact(m_datV_str H 5 _).trans (if_pos (by decide +kernel))
 ·rcases hi with rfl|rfl|rfl|rfl|rfl<;>decide +kernel
theorem tl_shape{x:Tl}(ok:TlOk x)(h3:x.1 ≠ 3):x=(0,[])∨(∃ a o1 o2 o3,x=(1,[some a,o1,o2,o3]))∨(∃ a,x=(4,[some a]))∨(∃ i a b,(i=2∨i=5∨i=6∨i=7∨i=8)∧x=(i,[some a,some b])):=by
 obtain⟨i,os⟩:=x
 have h9:i < 9:=ok.k
 have hn:os.length=cnM i:=ok.n h3
 have two:cnM i=2->i ≠ 1->∃ a b,os=[some a,some b]:=fun h h1=>by
  match os,hn.trans h,ok.s h1 with
  | [o1,o2],_,hs=>
   cases o1 with
   | none=>exact absurd rfl (hs none (by simp))
   | some a=>cases o2 with
    | none=>exact absurd rfl (hs none (by simp))
    | some b=>exact⟨a,b,rfl⟩
 match i,h9,h3 with
 | 0,_,_=>exact .inl (by rw [List.eq_nil_of_length_eq_zero hn])
 | 1,_,_=>
  match os,hn,ok.h rfl with
  | some a::o1::o2::o3::[],_,_=>exact .inr (.inl ⟨a,o1,o2,o3,rfl⟩)
  | none::_,_,h=>exact absurd rfl h
 | 2,_,_=>obtain⟨a,b,rfl⟩:=two rfl (by decide);exact .inr (.inr (.inr ⟨2,a,b,.inl rfl,rfl⟩))
 | 3,_,h=>exact absurd rfl h
 | 4,_,_=>
  match os,hn,ok.s (show 4 ≠ 1 by decide) with
  | [o],_,hs=>
   cases o with
   | none=>exact absurd rfl (hs none (by simp))
   | some a=>exact .inr (.inr (.inl ⟨a,rfl⟩))
 | 5,_,_=>obtain⟨a,b,rfl⟩:=two rfl (by decide);exact .inr (.inr (.inr ⟨5,a,b,.inr (.inl rfl),rfl⟩))
 | 6,_,_=>obtain⟨a,b,rfl⟩:=two rfl (by decide);exact .inr (.inr (.inr ⟨6,a,b,.inr (.inr (.inl rfl)),rfl⟩))
 | 7,_,_=>obtain⟨a,b,rfl⟩:=two rfl (by decide);exact .inr (.inr (.inr ⟨7,a,b,.inr (.inr (.inr (.inl rfl))),rfl⟩))
 | 8,_,_=>obtain⟨a,b,rfl⟩:=two rfl (by decide);exact .inr (.inr (.inr ⟨8,a,b,.inr (.inr (.inr (.inr rfl))),rfl⟩))
abbrev B_spMade1(t:Adr)(r:V)(H:Hp)(Q:VK)(E:XK):Prop:=∃ (F:Hp) (x:Tl),TlF F H r x∧TlOk x∧∀ (v:Addr) (H':Hp),Ext H H'->MvF t H H' v x->Q (.ref v) H'
def spMade1(t:Adr):Sp:=fun vs H Q E=>∃ (r:V),vs=[r]∧(B_spMade1 t r H Q E)
theorem l_spMade1(t:Adr){vs:List V}{H:Hp}{Q:VK}{E:XK}(h:spMade1 t vs H Q E):vs.length=1:=spl1 h fun _=>rfl
theorem ok_made1(T:Tx K mg t):FnOk P t.w K mg base CX0 3 t.a__law_made t.d__law_made ["_law_told"] (spMade1 t):=by
 have G__law_made:FnOk P t.w K mg base CX0 1 t.a__law_made t.d__law_made ["_law_told"] (fun _ _ _ _=>False):=no_ok
 have G_Slice___init__:=ok_Slice___init__ (P:=P) (base:=base) T
 have G_Turn___init__:=ok_Turn___init__ (P:=P) (base:=base) T
 have G_Fresh___init__:=ok_Fresh___init__ (P:=P) (base:=base) T
 have G_Chain___init__:=ok_Chain___init__ (P:=P) (base:=base) T
 have G_Pick___init__:=ok_Pick___init__ (P:=P) (base:=base) T
 have G_Spread___init__:=ok_Spread___init__ (P:=P) (base:=base) T
 have G_Cut___init__:=ok_Cut___init__ (P:=P) (base:=base) T
 have G_Window___init__:=ok_Window___init__ (P:=P) (base:=base) T
 have G_Diagonal___init__:=ok_Diagonal___init__ (P:=P) (base:=base) T
 refine T.F__law_made.ok c__law_made (fun vs H Q E h=>l_spMade1 _ h) (fun cdv A outer s H vs Q E hr h=>?_)
 ·obtain⟨_,rfl,F,x,⟨p,rfl,hp⟩,ok,k⟩:=h
  refine⟨_,(@pss_cons _ _ _ _ _ (@ps_set _ _ (1) _ _ _ _ c__law_made.nd rfl (Or.inl rfl) (@pe_ix _ _ _ _ _ _ _ ix_q (@pvN _ 0 _ _ (by rfl) (by trivial) (by decide) (by decide)) (@pe_int _ _ _ _) (fun _ _=>rfl)) (by rfl) (by trivial)) (@pss_cons _ _ _ _ _ (@ps_if _ _ _ _ _ _ _ _ (PW.pt (@pw_and _ _ _ _ _ _ _ (@pt_cmpRN _ _ _ _ _ _ _ _ (op_qEq hr.units) (@pvN _ 1 _ _ (by rfl) (by trivial) (by decide) (by decide)) (@pe_str _ _ _ _) (nomark _)) (@pw_and1 _ _ _ _ (@pt_cmpRN _ _ _ _ _ _ _ _ op_qIs (@pe_ix _ _ _ _ _ _ _ ix_q (@pvN _ 0 _ _ (by rfl) (by trivial) (by decide) (by decide)) (@pe_int _ _ _ _) (fun _ _=>rfl)) (@pe_non _ _ _) (nomark _))))) (@pss_one _ _ _ (@ps_ret _ _ _ _ (@pe_nMakeK _ _ _ _ _ _ _ _ _ _ _ _ _ _ _ _ _ _ _ _ T.mk_Slice G_Slice___init__ (hr.mono (by decide)) (by rfl) T.m_Slice T.kb_Slice___init___step_stop pass0 (@pa_c _ _ _ _ _ (@pe_ix _ _ _ _ _ _ _ ix_q (@pvN _ 0 _ _ (by rfl) (by trivial) (by decide) (by decide)) (@pe_int _ _ _ _) (fun _ _=>rfl)) (@pa_nil _) (by rfl)) (@pk_cons _ _ _ _ _ _ _ (@pe_ix _ _ _ _ _ _ _ ix_q (@pvN _ 0 _ _ (by rfl) (by trivial) (by decide) (by decide)) (@pe_int _ _ _ _) (fun _ _=>rfl)) (@pk_cons _ _ _ _ _ _ _ (@pe_ix _ _ _ _ _ _ _ ix_q (@pvN _ 0 _ _ (by rfl) (by trivial) (by decide) (by decide)) (@pe_int _ _ _ _) (fun _ _=>rfl)) (@pk_nil _))) (by rfl) (by rfl) (by decide) (by rfl) (by rfl)))) (@pss_nil _)) (@pss_cons _ _ _ _ _ (@ps_if _ _ _ _ _ _ _ _ (@pt_cmpRN _ _ _ _ _ _ _ _ (op_qEq hr.units) (@pvN _ 1 _ _ (by rfl) (by trivial) (by decide) (by decide)) (@pe_str _ _ _ _) (nomark _)) (@pss_one _ _ _ (@ps_ret _ _ _ _ (@pe_nMake _ _ _ _ _ _ _ _ _ _ _ _ _ _ _ _ _ T.mk_Slice G_Slice___init__ (hr.mono (by decide)) (by rfl) T.m_Slice T.b_Slice___init__ .nil pass0 (@pa_c _ _ _ _ _ (@pe_ix _ _ _ _ _ _ _ ix_q (@pvN _ 0 _ _ (by rfl) (by trivial) (by decide) (by decide)) (@pe_int _ _ _ _) (fun _ _=>rfl)) (@pa_c _ _ _ _ _ (@pe_ix _ _ _ _ _ _ _ ix_q (@pvN _ 0 _ _ (by rfl) (by trivial) (by decide) (by decide)) (@pe_int _ _ _ _) (fun _ _=>rfl)) (@pa_c _ _ _ _ _ (@pe_ix _ _ _ _ _ _ _ ix_q (@pvN _ 0 _ _ (by rfl) (by trivial) (by decide) (by decide)) (@pe_int _ _ _ _) (fun _ _=>rfl)) (@pa_c _ _ _ _ _ (@pe_ix _ _ _ _ _ _ _ ix_q (@pvN _ 0 _ _ (by rfl) (by trivial) (by decide) (by decide)) (@pe_int _ _ _ _) (fun _ _=>rfl)) (@pa_nil _) (by rfl)) (by rfl)) (by rfl)) (by rfl)) (by decide) (by rfl) (by rfl)))) (@pss_nil _)) (@pss_cons _ _ _ _ _ (@ps_if _ _ _ _ _ _ _ _ (@pt_cmpRN _ _ _ _ _ _ _ _ (op_qEq hr.units) (@pvN _ 1 _ _ (by rfl) (by trivial) (by decide) (by decide)) (@pe_str _ _ _ _) (nomark _)) (@pss_one _ _ _ (@ps_ret _ _ _ _ (@pe_nMake _ _ _ _ _ _ _ _ _ _ _ _ _ _ _ _ _ T.mk_Turn G_Turn___init__ (hr.mono (by decide)) (by rfl) T.m_Turn T.b_Turn___init__ .nil pass0 (@pa_c _ _ _ _ _ (@pe_callTy _ _ _ _ _ _ _ _ _ call_nList (by rfl) T.z_list (by decide +kernel) (@pa_c _ _ _ _ _ (@pe_ix _ _ _ _ _ _ _ ix_q (@pvN _ 0 _ _ (by rfl) (by trivial) (by decide) (by decide)) (@pe_int _ _ _ _) (fun _ _=>rfl)) (@pa_nil _) (by rfl)) (by decide) (by decide) (by rfl) (by rfl)) (@pa_nil _) (by rfl)) (by decide) (by rfl) (by rfl)))) (@pss_nil _)) (@pss_cons _ _ _ _ _ (@ps_if _ _ _ _ _ _ _ _ (@pt_cmpRN _ _ _ _ _ _ _ _ (op_qEq hr.units) (@pvN _ 1 _ _ (by rfl) (by trivial) (by decide) (by decide)) (@pe_str _ _ _ _) (nomark _)) (@pss_one _ _ _ (@ps_ret _ _ _ _ (@pe_nMake _ _ _ _ _ _ _ _ _ _ _ _ _ _ _ _ _ T.mk_Fresh G_Fresh___init__ (hr.mono (by decide)) (by rfl) T.m_Fresh T.b_Fresh___init__ .nil pass0 (@pa_c _ _ _ _ _ (@pe_ix _ _ _ _ _ _ _ ix_q (@pvN _ 0 _ _ (by rfl) (by trivial) (by decide) (by decide)) (@pe_int _ _ _ _) (fun _ _=>rfl)) (@pa_nil _) (by rfl)) (by decide) (by rfl) (by rfl)))) (@pss_nil _)) (@pss_cons _ _ _ _ _ (@ps_if _ _ _ _ _ _ _ _ (@pt_cmpRN _ _ _ _ _ _ _ _ (op_qEq hr.units) (@pvN _ 1 _ _ (by rfl) (by trivial) (by decide) (by decide)) (@pe_str _ _ _ _) (nomark _)) (@pss_one _ _ _ (@ps_ret _ _ _ _ (@pe_nMk0 _ _ _ _ _ T.mk0_Move (by rfl) T.m_Move (by decide)))) (@pss_nil _)) (@pss_cons _ _ _ _ _ (@ps_if _ _ _ _ _ _ _ _ (@pt_cmpRN _ _ _ _ _ _ _ _ (op_qEq hr.units) (@pvN _ 1 _ _ (by rfl) (by trivial) (by decide) (by decide)) (@pe_str _ _ _ _) (nomark _)) (@pss_one _ _ _ (@ps_ret _ _ _ _ (@pe_nMake _ _ _ _ _ _ _ _ _ _ _ _ _ _ _ _ _ T.mk_Chain G_Chain___init__ (hr.mono (by decide)) (by rfl) T.m_Chain T.b_Chain___init__ .nil pass0 (@pa_c _ _ _ _ _ (@pe_comp _ _ _ _ _ _ _ _ _ _ _ (["_law_one", "_law_told", "_law_word", "_law_some"]) (1) (comp_ok (defScope s__law_made) ["_law_told", "_law_word", "_law_some"] rfl rfl (by decide +kernel)) rfl (@pi_seq _ _ _ _ (@pe_ix _ _ _ _ _ _ _ ix_q (@pvN _ 0 _ _ (by rfl) (by trivial) (by decide) (by decide)) (@pe_int _ _ _ _) (fun _ _=>rfl))) (fun C s₀ H₀ ex pn=>(@pg_name _ _ (0) _ (show List.Nodup (["_law_one", "_law_told", "_law_word", "_law_some"]:List Str) from by decide +kernel) rfl (Or.inl rfl) (by trivial))) (fun C s₀ H₀ ex pn=>(@pts_nil _)) (fun C s₀ H₀ ex pn=>(@pe_call _ _ _ _ _ _ _ _ _ _ _ _ _ _ _ _ G__law_made (hr.mono (by decide)) (by rfl) T.m__law_made T.F__law_made.kp T.b__law_made .nil pass0 (@pa_c _ _ _ _ _ (@pvN _ 0 _ _ (by rfl) (by trivial) (by decide) (by decide)) (@pa_nil _) (by rfl)) (by decide) (by rfl) (by rfl))) (by intros;rfl)) (@pa_nil _) (by rfl)) (by decide) (by rfl) (by rfl)))) (@pss_nil _)) (@pss_cons _ _ _ _ _ (@ps_set _ _ (2) _ _ _ _ c__law_made.nd rfl (Or.inl rfl) (@pe_qLst _ _ _ _ (@pa_c _ _ _ _ _ (@pe_nMake _ _ _ _ _ _ _ _ _ _ _ _ _ _ _ _ _ T.mk_Pick G_Pick___init__ (hr.mono (by decide)) (by rfl) T.m_Pick T.b_Pick___init__ .nil pass0 (@pa_c _ _ _ _ _ (@pe_ix _ _ _ _ _ _ _ ix_q (@pvN _ 0 _ _ (by rfl) (by trivial) (by decide) (by decide)) (@pe_int _ _ _ _) (fun _ _=>rfl)) (@pa_c _ _ _ _ _ (@pe_ix _ _ _ _ _ _ _ ix_q (@pvN _ 0 _ _ (by rfl) (by trivial) (by decide) (by decide)) (@pe_int _ _ _ _) (fun _ _=>rfl)) (@pa_nil _) (by rfl)) (by rfl)) (by decide) (by rfl) (by rfl)) (@pa_c _ _ _ _ _ (@pe_nMake _ _ _ _ _ _ _ _ _ _ _ _ _ _ _ _ _ T.mk_Spread G_Spread___init__ (hr.mono (by decide)) (by rfl) T.m_Spread T.b_Spread___init__ .nil pass0 (@pa_c _ _ _ _ _ (@pe_ix _ _ _ _ _ _ _ ix_q (@pvN _ 0 _ _ (by rfl) (by trivial) (by decide) (by decide)) (@pe_int _ _ _ _) (fun _ _=>rfl)) (@pa_c _ _ _ _ _ (@pe_ix _ _ _ _ _ _ _ ix_q (@pvN _ 0 _ _ (by rfl) (by trivial) (by decide) (by decide)) (@pe_int _ _ _ _) (fun _ _=>rfl)) (@pa_nil _) (by rfl)) (by rfl)) (by decide) (by rfl) (by rfl)) (@pa_c _ _ _ _ _ (@pe_nMake _ _ _ _ _ _ _ _ _ _ _ _ _ _ _ _ _ T.mk_Cut G_Cut___init__ (hr.mono (by decide)) (by rfl) T.m_Cut T.b_Cut___init__ .nil pass0 (@pa_c _ _ _ _ _ (@pe_ix _ _ _ _ _ _ _ ix_q (@pvN _ 0 _ _ (by rfl) (by trivial) (by decide) (by decide)) (@pe_int _ _ _ _) (fun _ _=>rfl)) (@pa_c _ _ _ _ _ (@pe_ix _ _ _ _ _ _ _ ix_q (@pvN _ 0 _ _ (by rfl) (by trivial) (by decide) (by decide)) (@pe_int _ _ _ _) (fun _ _=>rfl)) (@pa_nil _) (by rfl)) (by rfl)) (by decide) (by rfl) (by rfl)) (@pa_c _ _ _ _ _ (@pe_nMake _ _ _ _ _ _ _ _ _ _ _ _ _ _ _ _ _ T.mk_Window G_Window___init__ (hr.mono (by decide)) (by rfl) T.m_Window T.b_Window___init__ .nil pass0 (@pa_c _ _ _ _ _ (@pe_ix _ _ _ _ _ _ _ ix_q (@pvN _ 0 _ _ (by rfl) (by trivial) (by decide) (by decide)) (@pe_int _ _ _ _) (fun _ _=>rfl)) (@pa_c _ _ _ _ _ (@pe_ix _ _ _ _ _ _ _ ix_q (@pvN _ 0 _ _ (by rfl) (by trivial) (by decide) (by decide)) (@pe_int _ _ _ _) (fun _ _=>rfl)) (@pa_nil _) (by rfl)) (by rfl)) (by decide) (by rfl) (by rfl)) (@pa_nil _) (by rfl)) (by rfl)) (by rfl)) (by rfl))) (by rfl) (by trivial)) (@pss_one _ _ _ (@ps_ret _ _ _ _ (@pe_ix _ _ _ _ _ _ _ ix_q (@pe_op _ _ _ _ _ _ _ _ op_nCat (@pvN _ 2 _ _ (by rfl) (by trivial) (by decide) (by decide)) (@pe_qLst _ _ _ _ (@pa_c _ _ _ _ _ (@pe_nMake _ _ _ _ _ _ _ _ _ _ _ _ _ _ _ _ _ T.mk_Diagonal G_Diagonal___init__ (hr.mono (by decide)) (by rfl) T.m_Diagonal T.b_Diagonal___init__ .nil pass0 (@pa_c _ _ _ _ _ (@pe_ix _ _ _ _ _ _ _ ix_q (@pvN _ 0 _ _ (by rfl) (by trivial) (by decide) (by decide)) (@pe_int _ _ _ _) (fun _ _=>rfl)) (@pa_c _ _ _ _ _ (@pe_ix _ _ _ _ _ _ _ ix_q (@pvN _ 0 _ _ (by rfl) (by trivial) (by decide) (by decide)) (@pe_int _ _ _ _) (fun _ _=>rfl)) (@pa_nil _) (by rfl)) (by rfl)) (by decide) (by rfl) (by rfl)) (@pa_nil _) (by rfl)))) (@pe_bm _ _ _ _ _ _ _ _ _ _ _ _ PySem.F.plainAttrs_list PySem.F.slot_list_index PySem.F.type_list_index (mt_index hr.units) (@pe_qLst _ _ _ _ (@pa_c _ _ _ _ _ (@pe_str _ _ _ _) (@pa_c _ _ _ _ _ (@pe_str _ _ _ _) (@pa_c _ _ _ _ _ (@pe_str _ _ _ _) (@pa_c _ _ _ _ _ (@pe_str _ _ _ _) (@pa_c _ _ _ _ _ (@pe_str _ _ _ _) (@pa_nil _) (by rfl)) (by rfl)) (by rfl)) (by rfl)) (by rfl))) (@pa_c _ _ _ _ _ (@pvN _ 1 _ _ (by rfl) (by trivial) (by decide) (by decide)) (@pa_nil _) (by rfl)) (by rfl) (by rfl) (by rfl) (by rfl) (by rfl)) (fun _ _=>rfl)))))))))))),?_⟩
  rw [show start ["_law_told", "_law_word", "_law_some"] [.ref p]=[some (.ref p),none,none] from rfl]
  clear G__law_made G_Slice___init__ G_Turn___init__ G_Fresh___init__ G_Chain___init__ G_Pick___init__ G_Spread___init__ G_Cut___init__ G_Window___init__ G_Diagonal___init__
  replace k:=fun (_:Unit)=>k
  have h8:=ok.m
  rcases hp with ⟨h3,hp⟩|⟨h3,l,hp,_,hl⟩
  ·rcases tl_shape ok h3 with rfl|⟨a,o1,o2,o3,rfl⟩|⟨a,rfl⟩|⟨i,a,b,hi,rfl⟩
   ·have hp':H p=some (.tup [.str (Str.ofString "stay")]):=hp
    clear hp
    simp! only [and_true]
    intro v dx H' _ _ _ e hv _
    exact k () v H' e (.inl ⟨by show 0 ≠ 3;decide,dx,hv⟩)
   ·cases o1 with
    | none=>
     have hp':H p=some (.tup [.str (Str.ofString "slice"),.int a,.non,oV o2,oV o3]):=hp
     clear hp
     simp! only [and_true]
     intro v dx G hx hd hq g k1 _
     rw [c_spInSlice]
     refine⟨dx,k1,fun H2 gg h2=>?_⟩
     have j:=gg H g hx
     clear k1 hd hq gg
     simp! only [and_true]
     exact k () v H2 j (.inl ⟨by show 1 ≠ 3;decide,dx,h2⟩)
    | some b=>
     have hp':H p=some (.tup [.str (Str.ofString "slice"),.int a,.int b,oV o2,oV o3]):=hp
     clear hp
     simp! only [and_true]
     intro v dx G hx hd hq g k1 _
     show spInSlice t [V.ref v,.int a,.int b,oV o2,oV o3] G (kMade v Q) E0
     rw [c_spInSlice]
     refine⟨dx,k1,fun H2 gg h2=>?_⟩
     have j:=gg H g hx
     clear k1 hd hq gg
     simp! only [and_true]
     exact k () v H2 j (.inl ⟨by show 1 ≠ 3;decide,dx,h2⟩)
   ·have hp':H p=some (.tup [.str (Str.ofString "fresh"),.int a]):=hp
    clear hp
    simp! only [and_true]
    intro v dx G hx hd hq g k1 _
    rw [c_spInFresh]
    refine⟨dx,k1,fun H2 gg h2=>?_⟩
    have j:=gg H g hx
    clear k1 hd hq gg
    simp! only [and_true]
    exact k () v H2 j (.inl ⟨by show 4 ≠ 3;decide,dx,h2⟩)
   ·have h2:∀ (v1 v2 v3 v4 v5:Addr) (H':Hp),Ext H H'->(∃ dx,H' v1=some (.ins t.a_Pick dx (flM 2 [.int a,.int b])))->(∃ dx,H' v2=some (.ins t.a_Spread dx (flM 5 [.int a,.int b])))->(∃ dx,H' v3=some (.ins t.a_Cut dx (flM 6 [.int a,.int b])))->(∃ dx,H' v4=some (.ins t.a_Window dx (flM 7 [.int a,.int b])))->(∃ dx,H' v5=some (.ins t.a_Diagonal dx (flM 8 [.int a,.int b])))->∃ v,v=(if i=2 then v1 else if i=5 then v2 else if i=6 then v3 else if i=7 then v4 else v5)∧Q (.ref v) H':=fun v1 v2 v3 v4 v5 H' e g1 g2 g3 g4 g5=>by
     refine⟨_,rfl,k () _ H' e (.inl ⟨h3,?_⟩)⟩
     rcases hi with rfl|rfl|rfl|rfl|rfl
     ·exact g1
     ·exact g2
     ·exact g3
     ·exact g4
     ·exact g5
    have hne:wdM i ≠ Str.ofString "slice" ∧ wdM i ≠ Str.ofString "turn" ∧ wdM i ≠ Str.ofString "fresh" ∧ wdM i ≠ Str.ofString "stay" ∧ wdM i ≠ Str.ofString "chain":=by rcases hi with rfl|rfl|rfl|rfl|rfl<;>decide
    obtain⟨n1,n2,n3,n4,n5⟩:=hne
    have hp':H p=some (.tup [.str (wdM i),.int a,.int b]):=hp
    replace h2:=fun (_:Unit)=>h2
    clear hp k ok h8 h3
    simp! only [and_true]
    intro v1 dx1 G1 hx1 _ _ g1 k1 _
    rw [c_spInPick]
    refine⟨dx1,k1,fun H1 gg1 h1=>?_⟩
    have j1:=gg1 H g1 hx1
    have hp1:=j1.at hp'
    clear k1 gg1 hp' hx1 g1
    simp! only [and_true]
    intro v2 dx2 G2 hx2 _ _ g2 k2 _
    rw [c_spInSpread]
    refine⟨dx2,k2,fun H2 gg2 h22=>?_⟩
    have j2:=gg2 H1 g2 hx2
    have hp2:=j2.at hp1
    have h12:=j2.at h1
    clear k2 gg2 hp1 hx2 g2 h1
    simp! only [and_true]
    intro v3 dx3 G3 hx3 _ _ g3 k3 _
    rw [c_spInCut]
    refine⟨dx3,k3,fun H3 gg3 h33=>?_⟩
    have j3:=gg3 H2 g3 hx3
    have hp3:=j3.at hp2
    have h13:=j3.at h12
    have h23:=j3.at h22
    clear k3 gg3 hp2 hx3 g3 h12 h22
    simp! only [and_true]
    intro v4 dx4 G4 hx4 _ _ g4 k4 _
    rw [c_spInWindow]
    refine⟨dx4,k4,fun H4 gg4 h44=>?_⟩
    have j4:=gg4 H3 g4 hx4
    have hp4:=j4.at hp3
    have h14:=j4.at h13
    have h24:=j4.at h23
    have h34:=j4.at h33
    clear k4 gg4 hp3 hx4 g4 h13 h23 h33
    simp! only [and_true]
    intro l5 H5 _ e5 h5
    have hp5:=e5.at hp4
    have h15:=e5.at h14
    have h25:=e5.at h24
    have h35:=e5.at h34
    have h45:=e5.at h44
    clear hp4 h14 h24 h34 h44
    simp! only [and_true]
    intro v5 dx5 G6 hx6 _ _ g6 k6 _
    rw [c_spInDiagonal]
    refine⟨dx5,k6,fun H6 gg6 h66=>?_⟩
    have j6:=gg6 H5 g6 hx6
    have h56:=j6.at h5
    have h16:=j6.at h15
    have h26:=j6.at h25
    have h36:=j6.at h35
    have h46:=j6.at h45
    clear k6 gg6 hp5 hx6 g6 h15 h25 h35 h45 h5
    simp! only [and_true]
    intro l7 H7 _ e7 h7
    refine use_cat (e7.at h56) h7 (len5000 (by show 4+1≤5000;decide)) ?_
    intro l8 H8 _ e8 h8
    clear h56 h7
    simp! only [and_true]
    intro l9 H9 _ e9 h9
    have h89:=e9.at h8
    have e69:=e7.trans (e8.trans e9)
    have fin:=h2 () v1 v2 v3 v4 v5 H9 (j1.trans (j2.trans (j3.trans (j4.trans (e5.trans (j6.trans e69)))))) ⟨dx1,e69.at h16⟩ ⟨dx2,e69.at h26⟩ ⟨dx3,e69.at h36⟩ ⟨dx4,e69.at h46⟩ ⟨dx5,e69.at h66⟩
    obtain⟨v,hv,fin⟩:=fin
    replace hv:=fun (_:Unit)=>hv
    have h89':H9 l8=some (.lst [.ref v1,.ref v2,.ref v3,.ref v4,.ref v5]):=h89
    have hat:atI [V.ref v1,.ref v2,.ref v3,.ref v4,.ref v5] ((idx5 i:Nat):Int)=some (.ref v):=by
     rw [hv ()]
     rcases hi with rfl|rfl|rfl|rfl|rfl<;>exact atI_nat rfl
    clear h16 h26 h36 h46 h66 h8 h2 h89
    simp! only [and_true]
    refine use_idx5 hi h9 ?_
    clear h9
    simp! only [and_true]
  ·simp! only [and_true]
   intro q1 H1 _ e1 h1
   simp! only [and_true]
   intro v dx G hx hd hq g k1 _
   rw [c_spInTurn]
   refine⟨dx,_,k1,g.at h1,by rw [List.length_map];omega,fun H2 D gg hD h2 d2=>?_⟩
   have j:=gg H1 g hx
   have fr:H D=none:=e1.free (g.free hD)
   clear k1 hd hq gg hD
   simp! only [and_true]
   exact k () v H2 (e1.trans j) (.inr ⟨h3,dx,D,h2,fr,d2⟩)
def MfN(t:Adr)(F:Hp)(D:Addr)(H:Hp)(v:Addr)(x:Tl):Prop:=v ≠ D∧((x.1 ≠ 3∧∃ dx,H v=some (.ins (clM t x.1) dx (flM x.1 (x.2.map oV))))∨(x.1=3∧∃ dx l,l ≠ D∧H v=some (.ins t.a_Turn dx [("order",.ref l)])∧F l=none∧H l=some (.lst (x.2.map oV))))
mutual
def MvN(t:Adr)(F:Hp)(D:Addr)(H:Hp):Tr->V->Prop
 | .mv x,y=>∃ v,y=.ref v∧MfN t F D H v x
 | .ch l,y=>∃ (v dx q:Addr) (vs:List V),y=.ref v∧v ≠ D∧q ≠ D∧H v=some (.ins t.a_Chain dx [("moves",.ref q)])∧F q=none∧H q=some (.lst vs)∧MvNs t F D H l vs
def MvNs(t:Adr)(F:Hp)(D:Addr)(H:Hp):List Tr->List V->Prop
 | [],vs=>vs=[]
 | a::l,vs=>∃ v r,vs=v::r∧MvN t F D H a v∧MvNs t F D H l r
end
theorem MfN.ext{t:Adr}{F H H':Hp}{D v:Addr}{x:Tl}(e:Ext H H')(h:MfN t F D H v x):MfN t F D H' v x:=by
 obtain⟨h0,⟨h1,dx,h2⟩|⟨h1,dx,l,n,h2,h3,h4⟩⟩:=h
 ·exact⟨h0,.inl ⟨h1,dx,e.at h2⟩⟩
 ·exact⟨h0,.inr ⟨h1,dx,l,n,e.at h2,h3,e.at h4⟩⟩
theorem MfN.put{t:Adr}{F H:Hp}{D v:Addr}{x:Tl}{o:HO}(h:MfN t F D H v x):MfN t F D (upd H D o) v x:=by
 obtain⟨h0,⟨h1,dx,h2⟩|⟨h1,dx,l,n,h2,h3,h4⟩⟩:=h
 ·exact⟨h0,.inl ⟨h1,dx,by rw [upd_ne h0];exact h2⟩⟩
 ·exact⟨h0,.inr ⟨h1,dx,l,n,by rw [upd_ne h0];exact h2,h3,by rw [upd_ne n];exact h4⟩⟩
theorem MfN.of{t:Adr}{F H H':Hp}{D v:Addr}{x:Tl}{ys:List V}(e:Ext H H')(eF:Ext F H)(hD:H D=some (.lst ys))(h:MvF t H H' v x):MfN t (upd F D (.lst [])) D H' v x:=by
 have hD':=e.at hD
 rcases h with ⟨h1,dx,h2⟩|⟨h1,dx,l,h2,h3,h4⟩
 ·exact⟨(fun z=>by rw [z,hD'] at h2;cases h2),.inl ⟨h1,dx,h2⟩⟩
 ·have n:l ≠ D:=fun z=>by rw [z,hD] at h3;cases h3
  exact⟨(fun z=>by rw [z,hD'] at h2;cases h2),.inr ⟨h1,dx,l,n,h2,by rw [upd_ne n];exact eF.free h3,h4⟩⟩
theorem MfN.tr{t:Adr}{F H:Hp}{D v:Addr}{x:Tl}(h:MfN t F D H v x):MvF t F H v x:=by
 obtain⟨h0,⟨h1,dx,h2⟩|⟨h1,dx,l,n,h2,h3,h4⟩⟩:=h
 ·exact .inl ⟨h1,dx,h2⟩
 ·exact .inr ⟨h1,dx,l,h2,h3,h4⟩
mutual
theorem MvN.ext{t:Adr}{F H H':Hp}{D:Addr}(e:Ext H H'):∀ {a:Tr}{v:V},MvN t F D H a v->MvN t F D H' a v
 | .mv x,v,h=>by
  unfold MvN at h
  unfold MvN
  obtain⟨u,h1,h2⟩:=h
  exact⟨u,h1,MfN.ext e h2⟩
 | .ch l,v,h=>by
  unfold MvN at h
  unfold MvN
  obtain⟨u,dx,q,vs,h1,n1,n2,h2,h3,h4,h5⟩:=h
  exact⟨u,dx,q,vs,h1,n1,n2,e.at h2,h3,e.at h4,MvNs.ext e h5⟩
theorem MvNs.ext{t:Adr}{F H H':Hp}{D:Addr}(e:Ext H H'):∀ {l:List Tr}{vs:List V},MvNs t F D H l vs->MvNs t F D H' l vs
 | [],vs,h=>by unfold MvNs at h;unfold MvNs;exact h
 | a::l,vs,h=>by
  unfold MvNs at h
  unfold MvNs
  obtain⟨v,r,h1,h2,h3⟩:=h
  exact⟨v,r,h1,MvN.ext e h2,MvNs.ext e h3⟩
end
mutual
theorem MvN.put{t:Adr}{F H:Hp}{D:Addr}{o:HO}  : ∀ {a:Tr}{v:V},MvN t F D H a v->MvN t F D (upd H D o) a v
 | .mv x,v,h=>by
  unfold MvN at h
  unfold MvN
  obtain⟨u,h1,h2⟩:=h
  exact⟨u,h1,MfN.put h2⟩
 | .ch l,v,h=>by
  unfold MvN at h
  unfold MvN
  obtain⟨u,dx,q,vs,h1,n1,n2,h2,h3,h4,h5⟩:=h
  exact⟨u,dx,q,vs,h1,n1,n2,by rw [upd_ne n1];exact h2,h3,by rw [upd_ne n2];exact h4,MvNs.put h5⟩
theorem MvNs.put{t:Adr}{F H:Hp}{D:Addr}{o:HO}  : ∀ {l:List Tr}{vs:List V},MvNs t F D H l vs->MvNs t F D (upd H D o) l vs
 | [],vs,h=>by unfold MvNs at h;unfold MvNs;exact h
 | a::l,vs,h=>by
  unfold MvNs at h
  unfold MvNs
  obtain⟨v,r,h1,h2,h3⟩:=h
  exact⟨v,r,h1,MvN.put  h2,MvNs.put  h3⟩
end
mutual
theorem MvN.of{t:Adr}{F H H':Hp}{D:Addr}{ys:List V}(e:Ext H H')(eF:Ext F H)(hD:H D=some (.lst ys)):∀ {a:Tr}{v:V},MvT t H H' a v->MvN t (upd F D (.lst [])) D H' a v
 | .mv x,v,h=>by
  unfold MvT at h
  unfold MvN
  obtain⟨u,h1,h2⟩:=h
  exact⟨u,h1,MfN.of e eF hD h2⟩
 | .ch l,v,h=>by
  unfold MvT at h
  unfold MvN
  obtain⟨u,dx,q,vs,h1,h2,h3,h4,h5⟩:=h
  have n2:q ≠ D:=fun z=>by rw [z,hD] at h3;cases h3
  exact⟨u,dx,q,vs,h1,(fun z=>by rw [z,e.at hD] at h2;cases h2),n2,h2,by rw [upd_ne n2];exact eF.free h3,h4,MvNs.of e eF hD h5⟩
theorem MvNs.of{t:Adr}{F H H':Hp}{D:Addr}{ys:List V}(e:Ext H H')(eF:Ext F H)(hD:H D=some (.lst ys)):∀ {l:List Tr}{vs:List V},MvTs t H H' l vs->MvNs t (upd F D (.lst [])) D H' l vs
 | [],vs,h=>by unfold MvTs at h;unfold MvNs;exact h
 | a::l,vs,h=>by
  unfold MvTs at h
  unfold MvNs
  obtain⟨v,r,h1,h2,h3⟩:=h
  exact⟨v,r,h1,MvN.of e eF hD h2,MvNs.of e eF hD h3⟩
end
mutual
theorem MvN.tr{t:Adr}{F H:Hp}{D:Addr}  : ∀ {a:Tr}{v:V},MvN t F D H a v->MvT t F H a v
 | .mv x,v,h=>by
  unfold MvN at h
  unfold MvT
  obtain⟨u,h1,h2⟩:=h
  exact⟨u,h1,MfN.tr h2⟩
 | .ch l,v,h=>by
  unfold MvN at h
  unfold MvT
  obtain⟨u,dx,q,vs,h1,_,_,h2,h3,h4,h5⟩:=h
  exact⟨u,dx,q,vs,h1,h2,h3,h4,MvNs.tr h5⟩
theorem MvNs.tr{t:Adr}{F H:Hp}{D:Addr}  : ∀ {l:List Tr}{vs:List V},MvNs t F D H l vs->MvTs t F H l vs
 | [],vs,h=>by unfold MvNs at h;unfold MvTs;exact h
 | a::l,vs,h=>by
  unfold MvNs at h
  unfold MvTs
  obtain⟨v,r,h1,h2,h3⟩:=h
  exact⟨v,r,h1,MvN.tr  h2,MvNs.tr  h3⟩
end
abbrev B_spMadeT(t:Adr)(n:Nat)(r:V)(H:Hp)(Q:VK)(E:XK):Prop:=∃ (F:Hp) (a:Tr),TrF F H a r∧okT a∧deepN a≤n∧∀ (y:V) (H':Hp),Ext H H'->MvT t H H' a y->Q y H'
def spMadeT(t:Adr)(n:Nat):Sp:=fun vs H Q E=>∃ (r:V),vs=[r]∧(B_spMadeT t n r H Q E)
theorem c_spMadeT(t:Adr)(n:Nat)(r:V)(H:Hp)(Q:VK)(E:XK):spMadeT t n [r] H Q E=(B_spMadeT t n r H Q E):=spx1 (f:=fun (r:V)=>[r]) (fun _ _ h=>by cases h;exact rfl) r
theorem ok_madeC(T:Tx K mg t){n:Nat}(G__law_made:FnOk P t.w K mg base CX0 (n+3) t.a__law_made t.d__law_made ["_law_told"] (spMadeT t n)):FnOk P t.w K mg base CX0 (n+4) t.a__law_made t.d__law_made ["_law_told"] (fun vs H Q E=>∃ r,vs=[r]∧∃ (F:Hp) (l:List Tr),TrF F H (.ch l) r∧okT (.ch l)∧deeps l≤n∧∀ (y:V) (H':Hp),Ext H H'->MvT t H H' (.ch l) y->Q y H'):=by
 have G_Slice___init__:=ok_Slice___init__ (P:=P) (base:=base) T
 have G_Turn___init__:=ok_Turn___init__ (P:=P) (base:=base) T
 have G_Fresh___init__:=ok_Fresh___init__ (P:=P) (base:=base) T
 have G_Chain___init__:=ok_Chain___init__ (P:=P) (base:=base) T
 have G_Pick___init__:=ok_Pick___init__ (P:=P) (base:=base) T
 have G_Spread___init__:=ok_Spread___init__ (P:=P) (base:=base) T
 have G_Cut___init__:=ok_Cut___init__ (P:=P) (base:=base) T
 have G_Window___init__:=ok_Window___init__ (P:=P) (base:=base) T
 have G_Diagonal___init__:=ok_Diagonal___init__ (P:=P) (base:=base) T
 refine T.F__law_made.ok c__law_made (fun vs H Q E h=>by obtain⟨r,rfl,_⟩:=h;rfl) (fun cdv A outer s H vs Q E hr h=>?_)
 ·obtain⟨r,rfl,F,xs,tr,ok,hn,k⟩:=h
  unfold TrF at tr
  unfold okT at ok
  obtain⟨p,l,rs,rfl,hp,_,hl,trs⟩:=tr
  have al:=trs.al
  refine⟨_,(@pss_cons _ _ _ _ _ (@ps_set _ _ (1) _ _ _ _ c__law_made.nd rfl (Or.inl rfl) (@pe_ix _ _ _ _ _ _ _ ix_q (@pvN _ 0 _ _ (by rfl) (by trivial) (by decide) (by decide)) (@pe_int _ _ _ _) (fun _ _=>rfl)) (by rfl) (by trivial)) (@pss_cons _ _ _ _ _ (@ps_if _ _ _ _ _ _ _ _ (PW.pt (@pw_and _ _ _ _ _ _ _ (@pt_cmpRN _ _ _ _ _ _ _ _ (op_qEq hr.units) (@pvN _ 1 _ _ (by rfl) (by trivial) (by decide) (by decide)) (@pe_str _ _ _ _) (nomark _)) (@pw_and1 _ _ _ _ (@pt_cmpRN _ _ _ _ _ _ _ _ op_qIs (@pe_ix _ _ _ _ _ _ _ ix_q (@pvN _ 0 _ _ (by rfl) (by trivial) (by decide) (by decide)) (@pe_int _ _ _ _) (fun _ _=>rfl)) (@pe_non _ _ _) (nomark _))))) (@pss_one _ _ _ (@ps_ret _ _ _ _ (@pe_nMakeK _ _ _ _ _ _ _ _ _ _ _ _ _ _ _ _ _ _ _ _ T.mk_Slice G_Slice___init__ (hr.mono (show 1+1≤n+3 by first|decide|omega)) (by rfl) T.m_Slice T.kb_Slice___init___step_stop pass0 (@pa_c _ _ _ _ _ (@pe_ix _ _ _ _ _ _ _ ix_q (@pvN _ 0 _ _ (by rfl) (by trivial) (by decide) (by decide)) (@pe_int _ _ _ _) (fun _ _=>rfl)) (@pa_nil _) (by rfl)) (@pk_cons _ _ _ _ _ _ _ (@pe_ix _ _ _ _ _ _ _ ix_q (@pvN _ 0 _ _ (by rfl) (by trivial) (by decide) (by decide)) (@pe_int _ _ _ _) (fun _ _=>rfl)) (@pk_cons _ _ _ _ _ _ _ (@pe_ix _ _ _ _ _ _ _ ix_q (@pvN _ 0 _ _ (by rfl) (by trivial) (by decide) (by decide)) (@pe_int _ _ _ _) (fun _ _=>rfl)) (@pk_nil _))) (by rfl) (by rfl) (by decide) (by rfl) (by rfl)))) (@pss_nil _)) (@pss_cons _ _ _ _ _ (@ps_if _ _ _ _ _ _ _ _ (@pt_cmpRN _ _ _ _ _ _ _ _ (op_qEq hr.units) (@pvN _ 1 _ _ (by rfl) (by trivial) (by decide) (by decide)) (@pe_str _ _ _ _) (nomark _)) (@pss_one _ _ _ (@ps_ret _ _ _ _ (@pe_nMake _ _ _ _ _ _ _ _ _ _ _ _ _ _ _ _ _ T.mk_Slice G_Slice___init__ (hr.mono (show 1+1≤n+3 by first|decide|omega)) (by rfl) T.m_Slice T.b_Slice___init__ .nil pass0 (@pa_c _ _ _ _ _ (@pe_ix _ _ _ _ _ _ _ ix_q (@pvN _ 0 _ _ (by rfl) (by trivial) (by decide) (by decide)) (@pe_int _ _ _ _) (fun _ _=>rfl)) (@pa_c _ _ _ _ _ (@pe_ix _ _ _ _ _ _ _ ix_q (@pvN _ 0 _ _ (by rfl) (by trivial) (by decide) (by decide)) (@pe_int _ _ _ _) (fun _ _=>rfl)) (@pa_c _ _ _ _ _ (@pe_ix _ _ _ _ _ _ _ ix_q (@pvN _ 0 _ _ (by rfl) (by trivial) (by decide) (by decide)) (@pe_int _ _ _ _) (fun _ _=>rfl)) (@pa_c _ _ _ _ _ (@pe_ix _ _ _ _ _ _ _ ix_q (@pvN _ 0 _ _ (by rfl) (by trivial) (by decide) (by decide)) (@pe_int _ _ _ _) (fun _ _=>rfl)) (@pa_nil _) (by rfl)) (by rfl)) (by rfl)) (by rfl)) (by decide) (by rfl) (by rfl)))) (@pss_nil _)) (@pss_cons _ _ _ _ _ (@ps_if _ _ _ _ _ _ _ _ (@pt_cmpRN _ _ _ _ _ _ _ _ (op_qEq hr.units) (@pvN _ 1 _ _ (by rfl) (by trivial) (by decide) (by decide)) (@pe_str _ _ _ _) (nomark _)) (@pss_one _ _ _ (@ps_ret _ _ _ _ (@pe_nMake _ _ _ _ _ _ _ _ _ _ _ _ _ _ _ _ _ T.mk_Turn G_Turn___init__ (hr.mono (show 1+1≤n+3 by first|decide|omega)) (by rfl) T.m_Turn T.b_Turn___init__ .nil pass0 (@pa_c _ _ _ _ _ (@pe_callTy _ _ _ _ _ _ _ _ _ call_nList (by rfl) T.z_list (by decide +kernel) (@pa_c _ _ _ _ _ (@pe_ix _ _ _ _ _ _ _ ix_q (@pvN _ 0 _ _ (by rfl) (by trivial) (by decide) (by decide)) (@pe_int _ _ _ _) (fun _ _=>rfl)) (@pa_nil _) (by rfl)) (by decide) (by decide) (by rfl) (by rfl)) (@pa_nil _) (by rfl)) (by decide) (by rfl) (by rfl)))) (@pss_nil _)) (@pss_cons _ _ _ _ _ (@ps_if _ _ _ _ _ _ _ _ (@pt_cmpRN _ _ _ _ _ _ _ _ (op_qEq hr.units) (@pvN _ 1 _ _ (by rfl) (by trivial) (by decide) (by decide)) (@pe_str _ _ _ _) (nomark _)) (@pss_one _ _ _ (@ps_ret _ _ _ _ (@pe_nMake _ _ _ _ _ _ _ _ _ _ _ _ _ _ _ _ _ T.mk_Fresh G_Fresh___init__ (hr.mono (show 1+1≤n+3 by first|decide|omega)) (by rfl) T.m_Fresh T.b_Fresh___init__ .nil pass0 (@pa_c _ _ _ _ _ (@pe_ix _ _ _ _ _ _ _ ix_q (@pvN _ 0 _ _ (by rfl) (by trivial) (by decide) (by decide)) (@pe_int _ _ _ _) (fun _ _=>rfl)) (@pa_nil _) (by rfl)) (by decide) (by rfl) (by rfl)))) (@pss_nil _)) (@pss_cons _ _ _ _ _ (@ps_if _ _ _ _ _ _ _ _ (@pt_cmpRN _ _ _ _ _ _ _ _ (op_qEq hr.units) (@pvN _ 1 _ _ (by rfl) (by trivial) (by decide) (by decide)) (@pe_str _ _ _ _) (nomark _)) (@pss_one _ _ _ (@ps_ret _ _ _ _ (@pe_nMk0 _ _ _ _ _ T.mk0_Move (by rfl) T.m_Move (by decide)))) (@pss_nil _)) (@pss_cons _ _ _ _ _ (@ps_if _ _ _ _ _ _ _ _ (@pt_cmpRN _ _ _ _ _ _ _ _ (op_qEq hr.units) (@pvN _ 1 _ _ (by rfl) (by trivial) (by decide) (by decide)) (@pe_str _ _ _ _) (nomark _)) (@pss_one _ _ _ (@ps_ret _ _ _ _ (@pe_nMake _ _ _ _ _ _ _ _ _ _ _ _ _ _ _ _ _ T.mk_Chain G_Chain___init__ (hr.mono (show 1+1≤n+3 by first|decide|omega)) (by rfl) T.m_Chain T.b_Chain___init__ .nil pass0 (@pa_c _ _ _ _ _ (@pe_comp _ _ _ _ _ _ _ _ _ _ _ (["_law_one", "_law_told", "_law_word", "_law_some"]) (1) (comp_ok (defScope s__law_made) ["_law_told", "_law_word", "_law_some"] rfl rfl (by decide +kernel)) rfl (@pi_seq _ _ _ _ (@pe_ix _ _ _ _ _ _ _ ix_q (@pvN _ 0 _ _ (by rfl) (by trivial) (by decide) (by decide)) (@pe_int _ _ _ _) (fun _ _=>rfl))) (fun C s₀ H₀ ex pn=>(@pg_name _ _ (0) _ (show List.Nodup (["_law_one", "_law_told", "_law_word", "_law_some"]:List Str) from by decide +kernel) rfl (Or.inl rfl) (by trivial))) (fun C s₀ H₀ ex pn=>(@pts_nil _)) (fun C s₀ H₀ ex pn=>(@pe_call _ _ _ _ _ _ _ _ _ _ _ _ _ _ _ _ G__law_made (hr.mono (show n+3≤n+3 by first|decide|omega)) (by rfl) T.m__law_made T.F__law_made.kp T.b__law_made .nil pass0 (@pa_c _ _ _ _ _ (@pvN _ 0 _ _ (by rfl) (by trivial) (by decide) (by decide)) (@pa_nil _) (by rfl)) (by decide) (by rfl) (by rfl))) (by intros;rfl)) (@pa_nil _) (by rfl)) (by decide) (by rfl) (by rfl)))) (@pss_nil _)) (@pss_cons _ _ _ _ _ (@ps_set _ _ (2) _ _ _ _ c__law_made.nd rfl (Or.inl rfl) (@pe_qLst _ _ _ _ (@pa_c _ _ _ _ _ (@pe_nMake _ _ _ _ _ _ _ _ _ _ _ _ _ _ _ _ _ T.mk_Pick G_Pick___init__ (hr.mono (show 1+1≤n+3 by first|decide|omega)) (by rfl) T.m_Pick T.b_Pick___init__ .nil pass0 (@pa_c _ _ _ _ _ (@pe_ix _ _ _ _ _ _ _ ix_q (@pvN _ 0 _ _ (by rfl) (by trivial) (by decide) (by decide)) (@pe_int _ _ _ _) (fun _ _=>rfl)) (@pa_c _ _ _ _ _ (@pe_ix _ _ _ _ _ _ _ ix_q (@pvN _ 0 _ _ (by rfl) (by trivial) (by decide) (by decide)) (@pe_int _ _ _ _) (fun _ _=>rfl)) (@pa_nil _) (by rfl)) (by rfl)) (by decide) (by rfl) (by rfl)) (@pa_c _ _ _ _ _ (@pe_nMake _ _ _ _ _ _ _ _ _ _ _ _ _ _ _ _ _ T.mk_Spread G_Spread___init__ (hr.mono (show 1+1≤n+3 by first|decide|omega)) (by rfl) T.m_Spread T.b_Spread___init__ .nil pass0 (@pa_c _ _ _ _ _ (@pe_ix _ _ _ _ _ _ _ ix_q (@pvN _ 0 _ _ (by rfl) (by trivial) (by decide) (by decide)) (@pe_int _ _ _ _) (fun _ _=>rfl)) (@pa_c _ _ _ _ _ (@pe_ix _ _ _ _ _ _ _ ix_q (@pvN _ 0 _ _ (by rfl) (by trivial) (by decide) (by decide)) (@pe_int _ _ _ _) (fun _ _=>rfl)) (@pa_nil _) (by rfl)) (by rfl)) (by decide) (by rfl) (by rfl)) (@pa_c _ _ _ _ _ (@pe_nMake _ _ _ _ _ _ _ _ _ _ _ _ _ _ _ _ _ T.mk_Cut G_Cut___init__ (hr.mono (show 1+1≤n+3 by first|decide|omega)) (by rfl) T.m_Cut T.b_Cut___init__ .nil pass0 (@pa_c _ _ _ _ _ (@pe_ix _ _ _ _ _ _ _ ix_q (@pvN _ 0 _ _ (by rfl) (by trivial) (by decide) (by decide)) (@pe_int _ _ _ _) (fun _ _=>rfl)) (@pa_c _ _ _ _ _ (@pe_ix _ _ _ _ _ _ _ ix_q (@pvN _ 0 _ _ (by rfl) (by trivial) (by decide) (by decide)) (@pe_int _ _ _ _) (fun _ _=>rfl)) (@pa_nil _) (by rfl)) (by rfl)) (by decide) (by rfl) (by rfl)) (@pa_c _ _ _ _ _ (@pe_nMake _ _ _ _ _ _ _ _ _ _ _ _ _ _ _ _ _ T.mk_Window G_Window___init__ (hr.mono (show 1+1≤n+3 by first|decide|omega)) (by rfl) T.m_Window T.b_Window___init__ .nil pass0 (@pa_c _ _ _ _ _ (@pe_ix _ _ _ _ _ _ _ ix_q (@pvN _ 0 _ _ (by rfl) (by trivial) (by decide) (by decide)) (@pe_int _ _ _ _) (fun _ _=>rfl)) (@pa_c _ _ _ _ _ (@pe_ix _ _ _ _ _ _ _ ix_q (@pvN _ 0 _ _ (by rfl) (by trivial) (by decide) (by decide)) (@pe_int _ _ _ _) (fun _ _=>rfl)) (@pa_nil _) (by rfl)) (by rfl)) (by decide) (by rfl) (by rfl)) (@pa_nil _) (by rfl)) (by rfl)) (by rfl)) (by rfl))) (by rfl) (by trivial)) (@pss_one _ _ _ (@ps_ret _ _ _ _ (@pe_ix _ _ _ _ _ _ _ ix_q (@pe_op _ _ _ _ _ _ _ _ op_nCat (@pvN _ 2 _ _ (by rfl) (by trivial) (by decide) (by decide)) (@pe_qLst _ _ _ _ (@pa_c _ _ _ _ _ (@pe_nMake _ _ _ _ _ _ _ _ _ _ _ _ _ _ _ _ _ T.mk_Diagonal G_Diagonal___init__ (hr.mono (show 1+1≤n+3 by first|decide|omega)) (by rfl) T.m_Diagonal T.b_Diagonal___init__ .nil pass0 (@pa_c _ _ _ _ _ (@pe_ix _ _ _ _ _ _ _ ix_q (@pvN _ 0 _ _ (by rfl) (by trivial) (by decide) (by decide)) (@pe_int _ _ _ _) (fun _ _=>rfl)) (@pa_c _ _ _ _ _ (@pe_ix _ _ _ _ _ _ _ ix_q (@pvN _ 0 _ _ (by rfl) (by trivial) (by decide) (by decide)) (@pe_int _ _ _ _) (fun _ _=>rfl)) (@pa_nil _) (by rfl)) (by rfl)) (by decide) (by rfl) (by rfl)) (@pa_nil _) (by rfl)))) (@pe_bm _ _ _ _ _ _ _ _ _ _ _ _ PySem.F.plainAttrs_list PySem.F.slot_list_index PySem.F.type_list_index (mt_index hr.units) (@pe_qLst _ _ _ _ (@pa_c _ _ _ _ _ (@pe_str _ _ _ _) (@pa_c _ _ _ _ _ (@pe_str _ _ _ _) (@pa_c _ _ _ _ _ (@pe_str _ _ _ _) (@pa_c _ _ _ _ _ (@pe_str _ _ _ _) (@pa_c _ _ _ _ _ (@pe_str _ _ _ _) (@pa_nil _) (by rfl)) (by rfl)) (by rfl)) (by rfl)) (by rfl))) (@pa_c _ _ _ _ _ (@pvN _ 1 _ _ (by rfl) (by trivial) (by decide) (by decide)) (@pa_nil _) (by rfl)) (by rfl) (by rfl) (by rfl) (by rfl) (by rfl)) (fun _ _=>rfl)))))))))))),?_⟩
  rw [show start ["_law_told", "_law_word", "_law_some"] [.ref p]=[some (.ref p),none,none] from rfl]
  clear G__law_made G_Slice___init__ G_Turn___init__ G_Fresh___init__ G_Chain___init__ G_Pick___init__ G_Spread___init__ G_Cut___init__ G_Window___init__ G_Diagonal___init__ trs
  replace k:=fun (_:Unit)=>k
  have h40:=ok.1
  have oks:=ok.2.mem
  replace oks:=fun (_:Unit)=>oks
  replace hn:=fun (_:Unit)=>hn
  clear ok
  simp! only [and_true]
  have wk:=wk_al (K:=K) (R:=fun a y H=>TrF F H a y) (fun _ _ _ _ h e=>h.ext e) hl al
  refine comp_rel xs (fun _=>true) (fun a y H=>TrF F H a y) (fun D a y H'=>MvN t (upd H D (.lst [])) D H' a y) wk.1 wk.2 (fun D _ y H1 H2 h e=>h.ext e) (fun D _ y H1 o h=>h.put) (len5000 (by omega)) ?_ ?_
  ·intro D a y H' N1 N0 ha hD e ⟨ys0,hys0⟩ tr k1 _
   have k1':=k1 rfl
   have oka:=oks () a ha
   have hd:=deeps_le ha
   clear k1 wk
   simp! only [↓m_kCm_1,↓m_kCm2]
   rw [c_spMadeT]
   exact⟨F,a,tr,oka,by have:=hn ();omega,fun y' H'' e' mv=>k1' y' H'' e' (MvN.of e' e hys0 mv)⟩
  ·intro D zs H2 hD e2 hD2 al2
   rw [filt] at al2
   have hzl:zs.length=xs.length:=al2.1
   replace hzl:=fun (_:Unit)=>hzl
   clear wk
   simp! only [and_true]
   intro v dx G hx hd hq g k1 _
   rw [c_spInChain]
   refine⟨dx,_,k1,g.at hD2,by rw [hzl ()];omega,fun H3 D3 gg hD3 h3 d3=>?_⟩
   have j:=gg H2 g hx
   have fr:H D3=none:=e2.free (g.free hD3)
   clear k1 hd hq gg hD3
   simp! only [and_true]
   refine k () _ H3 (e2.trans j) ?_
   unfold MvT
   exact⟨v,dx,D3,zs,rfl,h3,fr,d3,MvTs.of (al2.imp fun a y q=>((q.tr).ext j).less (Ext.new hD))⟩
theorem ok__law_made(T:Tx K mg t):∀ n:Nat,FnOk P t.w K mg base CX0 (n+3) t.a__law_made t.d__law_made ["_law_told"] (spMadeT t n)
 | 0=>(ok_made1 T).imp fun vs H Q E h=>by
  obtain⟨r,rfl,F,a,tr,ok,h0,k⟩:=h
  cases a with
  | ch l=>exact absurd h0 (by show ¬ deeps l+1≤0;omega)
  | mv x=>
   unfold TrF at tr
   unfold okT at ok
   exact⟨r,rfl,F,x,tr,ok,fun v H' e mv=>k _ H' e (by unfold MvT;exact⟨v,rfl,mv⟩)⟩
 | n+1=>by
  have G0:=(ok_made1 (P:=P) (base:=base) T).mono (show 3≤n+1+3 by omega)
  have GC:=ok_madeC (P:=P) (base:=base) T (ok__law_made T n)
  refine⟨fun vs H Q E h=>by obtain⟨r,rfl,_⟩:=h;rfl,fun A outer s H args us vs Q E hr e b r h=>?_⟩
  obtain⟨y,rfl,F,a,tr,ok,h0,k⟩:=h
  cases a with
  | ch l=>exact GC.run A outer s H args us _ Q E hr e b r ⟨y,rfl,F,l,tr,ok,by have:deeps l+1≤n+1:=h0;omega,k⟩
  | mv x=>
   unfold TrF at tr
   unfold okT at ok
   exact G0.run A outer s H args us _ Q E hr e b r ⟨y,rfl,F,x,tr,ok,fun v H' e mv=>k _ H' e (by unfold MvT;exact⟨v,rfl,mv⟩)⟩
theorem dat_inv{H:Hp}{n:Nat}{x:V}{d:PyData}(h:datV H (n+1) x=some d):(match d with
  | .none=>x=.non
  | .int i=>x=.int i
  | .str z=>x=.str z
  | .list ds=>∃ p xs,x=.ref p∧H p=some (.lst xs)∧allSome (xs.map (datV H n))=some ds
  | .tuple ds=>∃ p xs,x=.ref p∧H p=some (.tup xs)∧allSome (xs.map (datV H n))=some ds
  | _=>True):=by
 cases x with
 | non=>cases h;rfl
 | bl b=>cases h;exact trivial
 | int i=>cases h;rfl
 | str z=>
  rw [m_datV_str] at h
  split at h
  ·cases h;rfl
  ·cases h
 | ref p=>
  rw [m_datV_ref] at h
  cases e:H p with
  | none=>rw [e] at h;cases h
  | some ob=>
   rw [e] at h
   have h':datO (datV H n) ob=some d:=h
   cases ob with
   | lst xs=>
    have h2:(allSome (xs.map (datV H n))).map PyData.list=some d:=h'
    obtain⟨ds,e2,rfl⟩:=Option.map_eq_some_iff.mp h2
    exact⟨p,xs,rfl,e,e2⟩
   | tup xs=>
    have h2:(allSome (xs.map (datV H n))).map PyData.tuple=some d:=h'
    obtain⟨ds,e2,rfl⟩:=Option.map_eq_some_iff.mp h2
    exact⟨p,xs,rfl,e,e2⟩
   | _=>cases h'
 | _=>cases h
theorem allSome_at{f:V->Option PyData}:∀ {xs:List V}{ds:List PyData},allSome (xs.map f)=some ds->xs.length=ds.length∧∀ (i:Nat) (x:V),xs[i]? = some x->∃ d,ds[i]? = some d∧f x=some d
 | [],ds,h=>by cases h;exact⟨rfl,fun i x hx=>by simp at hx⟩
 | y::xs,ds,h=>by
  have h':(f y).bind (fun d=>(allSome (xs.map f)).map fun ds=>d::ds)=some ds:=h
  cases e:f y with
  | none=>rw [e] at h';cases h'
  | some d=>
   rw [e] at h'
   cases e2:allSome (xs.map f) with
   | none=>rw [e2] at h';cases h'
   | some es=>
    rw [e2] at h'
    cases h'
    obtain⟨i1,i2⟩:=allSome_at e2
    refine⟨by rw [List.length_cons,List.length_cons,i1],fun i x hx=>?_⟩
    cases i with
    | zero=>cases hx;exact⟨d,rfl,e⟩
    | succ i=>exact i2 i x (by simpa using hx)
theorem allSome_ext{f g:V->Option PyData}(hfg:∀ x d,f x=some d->g x=some d):∀ (xs:List V) (ds:List PyData),allSome (xs.map f)=some ds->allSome (xs.map g)=some ds
 | [],_,h=>h
 | x::xs,ds,h=>by
  have h':(f x).bind (fun d=>(allSome (xs.map f)).map fun ds=>d::ds)=some ds:=h
  cases e:f x with
  | none=>rw [e] at h';cases h'
  | some d=>
   rw [e] at h'
   cases e2:allSome (xs.map f) with
   | none=>rw [e2] at h';cases h'
   | some es=>
    rw [e2] at h'
    cases h'
    show (g x).bind (fun d=>(allSome (xs.map g)).map fun ds=>d::ds)=_
    rw [hfg x d e,allSome_ext hfg xs es e2]
    rfl
theorem datV_sub{H H':Hp}(e:∀ a o,H a=some o->H' a=some o):∀ (n:Nat) (x:V) (d:PyData),datV H n x=some d->datV H' n x=some d
 | 0,_,_,h=>nomatch h
 | n+1,x,d,h=>by
  cases x with
  | ref p=>
   rw [m_datV_ref] at h ⊢
   cases e1:H p with
   | none=>rw [e1] at h;cases h
   | some ob=>
    rw [e1] at h
    rw [e _ _ e1]
    have h':datO (datV H n) ob=some d:=h
    show datO (datV H' n) ob=some d
    cases ob with
    | lst xs=>
     have h2:(allSome (xs.map (datV H n))).map PyData.list=some d:=h'
     show (allSome (xs.map (datV H' n))).map PyData.list=some d
     cases e2:allSome (xs.map (datV H n)) with
     | none=>rw [e2] at h2;cases h2
     | some ds=>rw [allSome_ext (datV_sub e n) xs ds e2];rw [e2] at h2;exact h2
    | tup xs=>
     have h2:(allSome (xs.map (datV H n))).map PyData.tuple=some d:=h'
     show (allSome (xs.map (datV H' n))).map PyData.tuple=some d
     cases e2:allSome (xs.map (datV H n)) with
     | none=>rw [e2] at h2;cases h2
     | some ds=>rw [allSome_ext (datV_sub e n) xs ds e2];rw [e2] at h2;exact h2
    | _=>cases h'
  | _=>exact h
theorem datV_up{H:Hp}:∀ (n:Nat) (x:V) (d:PyData),datV H n x=some d->datV H (n+1) x=some d
 | 0,_,_,h=>nomatch h
 | n+1,x,d,h=>by
  cases x with
  | ref p=>
   rw [m_datV_ref] at h ⊢
   cases e1:H p with
   | none=>rw [e1] at h;cases h
   | some ob=>
    rw [e1] at h
    have h':datO (datV H n) ob=some d:=h
    show datO (datV H (n+1)) ob=some d
    cases ob with
    | lst xs=>
     have h2:(allSome (xs.map (datV H n))).map PyData.list=some d:=h'
     show (allSome (xs.map (datV H (n+1)))).map PyData.list=some d
     cases e2:allSome (xs.map (datV H n)) with
     | none=>rw [e2] at h2;cases h2
     | some ds=>rw [allSome_ext (datV_up n) xs ds e2];rw [e2] at h2;exact h2
    | tup xs=>
     have h2:(allSome (xs.map (datV H n))).map PyData.tuple=some d:=h'
     show (allSome (xs.map (datV H (n+1)))).map PyData.tuple=some d
     cases e2:allSome (xs.map (datV H n)) with
     | none=>rw [e2] at h2;cases h2
     | some ds=>rw [allSome_ext (datV_up n) xs ds e2];rw [e2] at h2;exact h2
    | _=>cases h'
  | _=>exact h
theorem datV_le{H:Hp}{n m:Nat}{x:V}{d:PyData}(h:datV H n x=some d)(hm:n≤m):datV H m x=some d:=by
 induction hm with
 | refl=>exact h
 | step _ ih=>exact datV_up _ _ _ ih
def newH(H H0:Hp):Hp:=fun a=>if (H0 a).isSome then none else H a
theorem newH_of{H H0:Hp}{a:Addr}{o:HO}(h0:H0 a=none)(h:H a=some o):newH H H0 a=some o:=by
 unfold newH
 rw [h0]
 exact h
theorem newH_to{H H0:Hp}{a:Addr}{o:HO}(h:newH H H0 a=some o):H0 a=none∧H a=some o:=by
 unfold newH at h
 cases e:H0 a with
 | none=>rw [e] at h;exact⟨rfl,h⟩
 | some o'=>rw [e] at h;cases h
mutual
def kindD:PyData->PyData
 | .list ds=>.list (kindDs ds)
 | .tuple ds=>.tuple [.str "tuple",.list (kindDs ds)]
 | .none=>.tuple [.bool false,.none]
 | .bool b=>.tuple [.bool true,.bool b]
 | .int i=>.tuple [.bool false,.int i]
 | .str z=>.tuple [.bool false,.str z]
 | d=>d
def kindDs:List PyData->List PyData
 | []=>[]
 | d::ds=>kindD d::kindDs ds
end
def plK:Nat->PyData->Prop
 | 0,_=>False
 | n+1,d=>match d with
  | .none | .int _ | .str _=>True
  | .list ds | .tuple ds=>ds.length≤4000∧∀ e∈ds,plK n e
  | _=>False
theorem al_kind{H H2:Hp}{n m:Nat}:∀ {xs:List V}{ys:List V}{ds:List PyData},allSome (xs.map (datV H n))=some ds->Al (fun z y=>∃ e,datV H n z=some e∧datV H2 m y=some (kindD e)) xs ys->allSome (ys.map (datV H2 m))=some (kindDs ds)
 | [],ys,ds,h,al=>by cases h;rw [List.eq_nil_of_length_eq_zero al.1];rfl
 | x::xs,[],ds,h,al=>by have:=al.1;simp at this
 | x::xs,y::ys,ds,h,al=>by
  obtain⟨e,h1,h2⟩:=al.2 0 x y rfl rfl
  have h':(datV H n x).bind (fun d=>(allSome (xs.map (datV H n))).map fun ds=>d::ds)=some ds:=h
  rw [h1] at h'
  cases e2:allSome (xs.map (datV H n)) with
  | none=>rw [e2] at h';cases h'
  | some es=>
   rw [e2] at h'
   cases h'
   have ih:=al_kind (H2:=H2) (m:=m) e2 (ys:=ys) (al_tail al)
   show (datV H2 m y).bind (fun d=>(allSome (ys.map (datV H2 m))).map fun ds=>d::ds)=_
   rw [h2,ih]
   rfl
abbrev B_spKnd(n:Nat)(x:V)(H:Hp)(Q:VK)(E:XK):Prop:=∃ d,datV H n x=some d∧plK n d∧∀ (y:V) (H':Hp),Ext H H'->datV (newH H' H) (2 * n+2) y=some (kindD d)->Q y H'
def spKnd(n:Nat):Sp:=fun vs H Q E=>∃ (x:V),vs=[x]∧(B_spKnd n x H Q E)
theorem c_spKnd(n:Nat)(x:V)(H:Hp)(Q:VK)(E:XK):spKnd n [x] H Q E=(B_spKnd n x H Q E):=spx1 (f:=fun (x:V)=>[x]) (fun _ _ h=>by cases h;exact rfl) x
theorem l_spKnd(n:Nat){vs:List V}{H:Hp}{Q:VK}{E:XK}(h:spKnd n vs H Q E):vs.length=1:=spl1 h fun _=>rfl
theorem ok__law_kind(T:Tx K mg t):∀ n:Nat,FnOk P t.w K mg base CX0 (n+1) t.a__law_kind t.d__law_kind ["_law_thing"] (spKnd n)
 | 0=>no_ok.imp fun vs H Q E h=>by
  obtain⟨x,rfl,d,_,h,_⟩:=h
  exact h
 | n+1=>by
  have G__law_kind:=ok__law_kind T n
  refine T.F__law_kind.ok c__law_kind (fun vs H Q E h=>l_spKnd _ h) (fun cdv A outer s H vs Q E hr h=>?_)
  obtain⟨x,rfl,d,hx,hpl,k⟩:=h
  refine⟨_,(@pss_cons _ _ _ _ _ (@ps_if _ _ _ _ _ _ _ _ (@pt_valN _ _ _ (@pe_callB _ _ _ _ _ _ _ ("isinstance") _ call_qIsi (by rfl) T.z_isinstance (by decide +kernel) (@pa_c _ _ _ _ _ (@pvN _ 0 _ _ (by rfl) (by trivial) (by decide) (by decide)) (@pa_c _ _ _ _ _ (@pe_bltn _ _ (.ty "list") (.type "list") _ (by rfl) T.z_list (by decide +kernel) rfl (by decide) (by decide)) (@pa_nil _) (by rfl)) (by rfl)) (by decide) (by decide) (by rfl) (by rfl)) (by intros;rfl)) (@pss_one _ _ _ (@ps_ret _ _ _ _ (@pe_comp _ _ _ _ _ _ _ _ _ _ _ (["_law_one", "_law_thing"]) (1) (comp_ok (defScope s__law_kind) ["_law_thing"] rfl rfl (by decide +kernel)) rfl (@pi_seq _ _ _ _ (@pvN _ 0 _ _ (by rfl) (by trivial) (by decide) (by decide))) (fun C s₀ H₀ ex pn=>(@pg_name _ _ (0) _ (show List.Nodup (["_law_one", "_law_thing"]:List Str) from by decide +kernel) rfl (Or.inl rfl) (by trivial))) (fun C s₀ H₀ ex pn=>(@pts_nil _)) (fun C s₀ H₀ ex pn=>(@pe_call _ _ _ _ _ _ _ _ _ _ _ _ _ _ _ _ G__law_kind (hr.mono (show n+1≤n+1 by first|decide|omega)) (by rfl) T.m__law_kind T.F__law_kind.kp T.b__law_kind .nil pass0 (@pa_c _ _ _ _ _ (@pvN _ 0 _ _ (by rfl) (by trivial) (by decide) (by decide)) (@pa_nil _) (by rfl)) (by decide) (by rfl) (by rfl))) (by intros;rfl)))) (@pss_nil _)) (@pss_cons _ _ _ _ _ (@ps_if _ _ _ _ _ _ _ _ (@pt_valN _ _ _ (@pe_callB _ _ _ _ _ _ _ ("isinstance") _ call_qIsi (by rfl) T.z_isinstance (by decide +kernel) (@pa_c _ _ _ _ _ (@pvN _ 0 _ _ (by rfl) (by trivial) (by decide) (by decide)) (@pa_c _ _ _ _ _ (@pe_bltn _ _ (.ty "tuple") (.type "tuple") _ (by rfl) T.z_tuple (by decide +kernel) rfl (by decide) (by decide)) (@pa_nil _) (by rfl)) (by rfl)) (by decide) (by decide) (by rfl) (by rfl)) (by intros;rfl)) (@pss_one _ _ _ (@ps_ret _ _ _ _ (@pe_qTup _ _ _ _ _ (@pa_c _ _ _ _ _ (@pe_str _ _ _ _) (@pa_c _ _ _ _ _ (@pe_comp _ _ _ _ _ _ _ _ _ _ _ (["_law_one", "_law_thing"]) (1) (comp_ok (defScope s__law_kind) ["_law_thing"] rfl rfl (by decide +kernel)) rfl (@pi_seq _ _ _ _ (@pvN _ 0 _ _ (by rfl) (by trivial) (by decide) (by decide))) (fun C s₀ H₀ ex pn=>(@pg_name _ _ (0) _ (show List.Nodup (["_law_one", "_law_thing"]:List Str) from by decide +kernel) rfl (Or.inl rfl) (by trivial))) (fun C s₀ H₀ ex pn=>(@pts_nil _)) (fun C s₀ H₀ ex pn=>(@pe_call _ _ _ _ _ _ _ _ _ _ _ _ _ _ _ _ G__law_kind (hr.mono (show n+1≤n+1 by first|decide|omega)) (by rfl) T.m__law_kind T.F__law_kind.kp T.b__law_kind .nil pass0 (@pa_c _ _ _ _ _ (@pvN _ 0 _ _ (by rfl) (by trivial) (by decide) (by decide)) (@pa_nil _) (by rfl)) (by decide) (by rfl) (by rfl))) (by intros;rfl)) (@pa_nil _) (by rfl)) (by rfl))))) (@pss_nil _)) (@pss_one _ _ _ (@ps_ret _ _ _ _ (@pe_qTup _ _ _ _ _ (@pa_c _ _ _ _ _ (@pe_callB _ _ _ _ _ _ _ ("isinstance") _ call_qIsi (by rfl) T.z_isinstance (by decide +kernel) (@pa_c _ _ _ _ _ (@pvN _ 0 _ _ (by rfl) (by trivial) (by decide) (by decide)) (@pa_c _ _ _ _ _ (@pe_bltn _ _ (.ty "bool") (.type "bool") _ (by rfl) T.z_bool (by decide +kernel) rfl (by decide) (by decide)) (@pa_nil _) (by rfl)) (by rfl)) (by decide) (by decide) (by rfl) (by rfl)) (@pa_c _ _ _ _ _ (@pvN _ 0 _ _ (by rfl) (by trivial) (by decide) (by decide)) (@pa_nil _) (by rfl)) (by rfl))))))),?_⟩
  rw [show start ["_law_thing"] [x]=[some (x)] from rfl]
  clear G__law_kind
  replace k:=fun (_:Unit)=>k
  cases d with
   | none=>
    have ex:x=.non:=dat_inv hx
    subst ex
    clear hx
    simp! only [and_true]
    intro p H1 hp e1 h1
    refine k () _ H1 e1 (datV_le (n:=2) ?_ (by omega))
    rw [m_datV_ref,newH_of hp h1]
    rfl
   | int i=>
    have ex:x=.int i:=dat_inv hx
    subst ex
    clear hx
    simp! only [and_true]
    intro p H1 hp e1 h1
    refine k () _ H1 e1 (datV_le (n:=2) ?_ (by omega))
    rw [m_datV_ref,newH_of hp h1]
    rfl
   | str z=>
    have ex:x=.str z:=dat_inv hx
    have hz:PyData.strOk z=true:=by
     rw [ex,m_datV_str] at hx
     by_cases h:PyData.strOk z=true
     ·exact h
     ·rw [if_neg h] at hx;cases hx
    subst ex
    clear hx
    replace hz:=fun (_:Unit)=>hz
    simp! only [and_true]
    intro p H1 hp e1 h1
    refine k () _ H1 e1 (datV_le (n:=2) ?_ (by omega))
    rw [m_datV_ref,newH_of hp h1]
    show ((datV _ 1 (.bl false)).bind fun d=>((datV _ 1 (.str z)).bind fun d=>(some []).map fun ds=>d::ds).map fun ds=>d::ds).map PyData.tuple=_
    rw [m_datV_str,if_pos (hz ())]
    rfl
   | list ds=>
    obtain⟨p,xs,rfl,hp,a1⟩:=dat_inv hx
    obtain⟨l1,g1⟩:=allSome_at a1
    have h4:xs.length≤4000:=by have:=hpl.1;omega
    replace g1:=fun (_:Unit)=>g1
    replace hpl:=fun (_:Unit)=>hpl
    replace a1:=fun (_:Unit)=>a1
    clear hx l1
    simp! only [and_true]
    refine comp_rel xs (fun _=>true) (fun z x H'=>x=z∧H' p=some (.lst xs)) (fun D z y H'=>∃ e,datV H n z=some e∧datV (newH H' (upd H D (.lst []))) (2 * n+2) y=some (kindD e)) (wk_lst hp).1 (wk_lst hp).2 (fun D _ y H1 H2 ⟨e,h1,h2⟩ ee=>⟨e,h1,datV_sub (fun a o ha=>newH_of (newH_to ha).1 (ee.at (newH_to ha).2)) _ _ _ h2⟩) (fun D _ y H1 o ⟨e,h1,h2⟩=>⟨e,h1,datV_sub (fun a o' ha=>newH_of (newH_to ha).1 (by rw [upd_ne (fun z=>by have:=(newH_to ha).1;rw [z,upd_same] at this;cases this)];exact(newH_to ha).2)) _ _ _ h2⟩) (len5000 (by omega)) ?_ ?_
    ·intro D z x' H' N1 N0 hz hD e ⟨ys0,hys0⟩ ⟨hx,_⟩ k1 _
     subst hx
     have k1':=k1 rfl
     obtain⟨i,hi,hz'⟩:=List.getElem_of_mem hz
     obtain⟨d',hd1,hd2⟩:=g1 () i _ (by rw [List.getElem?_eq_getElem hi,hz'])
     have hpd:=(hpl ()).2 d' (List.mem_of_getElem? hd1)
     have hd3:=datV_sub (fun a o ha=>e.at ha) _ _ _ hd2
     clear k1
     simp! only [↓m_kCm_1,↓m_kCm2]
     rw [c_spKnd]
     refine⟨d',hd3,hpd,fun y H'' e' hy=>k1' y H'' e' ⟨d',hd2,datV_sub (fun a o ha=>newH_of ?_ (newH_to ha).2) _ _ _ hy⟩⟩
     have hn:=(newH_to ha).1
     rw [upd_ne (fun z=>by rw [z,hys0] at hn;cases hn)]
     exact e.free hn
    ·intro D zs H2 hD e2 hD2 al
     rw [filt] at al
     have hk:=al_kind (a1 ()) al
     replace hk:=fun (_:Unit)=>hk
     clear al
     simp! only [and_true]
     refine k () _ H2 e2 (datV_le (n:=2 * n+3) ?_ (by omega))
     rw [m_datV_ref,newH_of hD hD2]
     show (allSome (zs.map (datV (newH H2 H) (2 * n+2)))).map PyData.list=_
     rw [allSome_ext (datV_sub (fun a o ha=>newH_of (by
      have hn:=(newH_to ha).1
      by_cases hz:a=D
      ·rw [hz];exact hD
      ·rw [upd_ne hz] at hn;exact hn) (newH_to ha).2) _) _ _ (hk ())]
     simp only [kindD]
     rfl
   | tuple ds=>
    obtain⟨p,xs,rfl,hp,a1⟩:=dat_inv hx
    obtain⟨l1,g1⟩:=allSome_at a1
    have h4:xs.length≤4000:=by have:=hpl.1;omega
    replace g1:=fun (_:Unit)=>g1
    replace hpl:=fun (_:Unit)=>hpl
    replace a1:=fun (_:Unit)=>a1
    clear hx l1
    simp! only [and_true]
    refine comp_rel xs (fun _=>true) (fun z x H'=>x=z∧H' p=some (.tup xs)) (fun D z y H'=>∃ e,datV H n z=some e∧datV (newH H' (upd H D (.lst []))) (2 * n+2) y=some (kindD e)) (wk_tup hp).1 (wk_tup hp).2 (fun D _ y H1 H2 ⟨e,h1,h2⟩ ee=>⟨e,h1,datV_sub (fun a o ha=>newH_of (newH_to ha).1 (ee.at (newH_to ha).2)) _ _ _ h2⟩) (fun D _ y H1 o ⟨e,h1,h2⟩=>⟨e,h1,datV_sub (fun a o' ha=>newH_of (newH_to ha).1 (by rw [upd_ne (fun z=>by have:=(newH_to ha).1;rw [z,upd_same] at this;cases this)];exact(newH_to ha).2)) _ _ _ h2⟩) (len5000 (by omega)) ?_ ?_
    ·intro D z x' H' N1 N0 hz hD e ⟨ys0,hys0⟩ ⟨hx,_⟩ k1 _
     subst hx
     have k1':=k1 rfl
     obtain⟨i,hi,hz'⟩:=List.getElem_of_mem hz
     obtain⟨d',hd1,hd2⟩:=g1 () i _ (by rw [List.getElem?_eq_getElem hi,hz'])
     have hpd:=(hpl ()).2 d' (List.mem_of_getElem? hd1)
     have hd3:=datV_sub (fun a o ha=>e.at ha) _ _ _ hd2
     clear k1
     simp! only [↓m_kCm_1,↓m_kCm2]
     rw [c_spKnd]
     refine⟨d',hd3,hpd,fun y H'' e' hy=>k1' y H'' e' ⟨d',hd2,datV_sub (fun a o ha=>newH_of ?_ (newH_to ha).2) _ _ _ hy⟩⟩
     have hn:=(newH_to ha).1
     rw [upd_ne (fun z=>by rw [z,hys0] at hn;cases hn)]
     exact e.free hn
    ·intro D zs H2 hD e2 hD2 al
     rw [filt] at al
     have hk:=al_kind (a1 ()) al
     replace hk:=fun (_:Unit)=>hk
     clear al
     simp! only [and_true]
     intro q H3 hq e3 h3
     have hq0:H q=none:=e2.free hq
     refine k () _ H3 (e2.trans e3) (datV_le (n:=2 * n+4) ?_ (by omega))
     have hl:datV (newH H3 H) (2 * n+3) (.ref D)=some (.list (kindDs ds)):=by
      rw [m_datV_ref,newH_of hD (e3.at hD2)]
      show (allSome (zs.map (datV (newH H3 H) (2 * n+2)))).map PyData.list=_
      rw [allSome_ext (datV_sub (fun a o ha=>newH_of (by
       have hn:=(newH_to ha).1
       by_cases hz:a=D
       ·rw [hz];exact hD
       ·rw [upd_ne hz] at hn;exact hn) (e3.at (newH_to ha).2)) _) _ _ (hk ())]
      rfl
     rw [m_datV_ref,newH_of hq0 h3]
     show ((datV _ (2 * n+3) (.str (Str.ofString "tuple"))).bind fun d=>((datV _ (2 * n+3) (.ref D)).bind fun d=>(some []).map fun ds=>d::ds).map fun ds=>d::ds).map PyData.tuple=_
     rw [hl,m_datV_str,if_pos (strOk_of "tuple")]
     simp only [kindD]
     rfl
   | _=>exact absurd hpl (fun z=>z)
def oD:Option Int->PyData
 | none=>.none
 | some i=>.int i
def dTl(x:Tl):PyData:=if x.1=3 then .tuple [.str "turn",.list (x.2.map oD)] else .tuple (.str (wdM x.1)::x.2.map oD)
theorem dat_oV{H:Hp}{n:Nat}:∀ os:List (Option Int),allSome ((os.map oV).map (datV H (n+1)))=some (os.map oD)
 | []=>rfl
 | o::os=>by
  have h:=dat_oV (H:=H) (n:=n) os
  have e:datV H (n+1) (oV o)=some (oD o):=by cases o<;>rfl
  show (datV H (n+1) (oV o)).bind (fun d=>(allSome ((os.map oV).map (datV H (n+1)))).map fun ds=>d::ds)=_
  rw [e,h]
  rfl
theorem wd_ok:∀ {i:Nat},i < 9->PyData.strOk (wdM i)=true
 | 0,_=>by decide +kernel
 | 1,_=>by decide +kernel
 | 2,_=>by decide +kernel
 | 3,_=>by decide +kernel
 | 4,_=>by decide +kernel
 | 5,_=>by decide +kernel
 | 6,_=>by decide +kernel
 | 7,_=>by decide +kernel
 | 8,_=>by decide +kernel
 | n+9,h=>absurd h (by omega)
theorem dat_tl{F H:Hp}{r:V}{x:Tl}(n:Nat)(h:TlF F H r x)(ok:TlOk x):datV H (n+3) r=some (dTl x):=by
 obtain⟨p,rfl,⟨h3,hp⟩|⟨h3,l,hp,_,hl⟩⟩:=h
 ·rw [m_datV_ref,hp]
  show (allSome ((V.str (wdM x.1)::x.2.map oV).map (datV H (n+2)))).map PyData.tuple=_
  have e1:datV H (n+2) (.str (wdM x.1))=some (.str (wdM x.1)):=(m_datV_str H (n+1) _).trans (if_pos (wd_ok ok.k))
  show ((datV H (n+2) (.str (wdM x.1))).bind (fun d=>(allSome ((x.2.map oV).map (datV H (n+2)))).map fun ds=>d::ds)).map PyData.tuple=_
  rw [e1,dat_oV]
  unfold dTl
  rw [if_neg h3]
  rfl
 ·rw [m_datV_ref,hp]
  have e1:datV H (n+2) (.str (Str.ofString "turn"))=some (.str "turn"):=(m_datV_str H (n+1) _).trans (if_pos (by decide +kernel))
  have e2:datV H (n+2) (.ref l)=some (.list (x.2.map oD)):=by
   rw [m_datV_ref,hl]
   show (allSome ((x.2.map oV).map (datV H (n+1)))).map PyData.list=_
   rw [dat_oV]
   rfl
  show ((datV H (n+2) (.str (Str.ofString "turn"))).bind (fun d=>((datV H (n+2) (.ref l)).bind (fun d=>(some []).map fun ds=>d::ds)).map fun ds=>d::ds)).map PyData.tuple=_
  rw [e1,e2]
  unfold dTl
  rw [if_pos h3]
  rfl
mutual
def datT:Tr->PyData
 | .mv x=>dTl x
 | .ch l=>.tuple [.str "chain",.list (datTs l)]
def datTs:List Tr->List PyData
 | []=>[]
 | a::l=>datT a::datTs l
end
mutual
theorem TrF.dat{F H:Hp}:∀ {a:Tr}{r:V},TrF F H a r->okT a->datV H (2 * deepN a+3) r=some (datT a)
 | .mv x,r,h,ok=>by
  unfold TrF at h
  unfold okT at ok
  exact dat_tl 0 h ok
 | .ch l,r,h,ok=>by
  unfold TrF at h
  unfold okT at ok
  obtain⟨p,q,rs,rfl,hp,_,hq,hs⟩:=h
  have e2:datV H (2 * deeps l+4) (.ref q)=some (.list (datTs l)):=by
   rw [m_datV_ref,hq]
   show (allSome (rs.map (datV H (2 * deeps l+3)))).map PyData.list=_
   rw [TrFs.dat hs ok.2 (Nat.le_refl _)]
   rfl
  show datV H (2 * deeps l+4+1) (.ref p)=_
  rw [m_datV_ref,hp]
  show ((datV H (2 * deeps l+4) (.str (Str.ofString "chain"))).bind fun d=>((datV H (2 * deeps l+4) (.ref q)).bind fun d=>(some []).map fun ds=>d::ds).map fun ds=>d::ds).map PyData.tuple=_
  rw [e2,m_datV_str,if_pos (strOk_of "chain")]
  rfl
theorem TrFs.dat{F H:Hp}{m:Nat}:∀ {l:List Tr}{rs:List V},TrFs F H l rs->okTs l->2 * deeps l+3≤m->allSome (rs.map (datV H m))=some (datTs l)
 | [],rs,h,_,_=>by unfold TrFs at h;rw [h];rfl
 | a::l,rs,h,ok,hm=>by
  unfold TrFs at h
  unfold okTs at ok
  obtain⟨v,r,rfl,h1,h2⟩:=h
  have hd:deeps (a::l)=max (deepN a) (deeps l):=rfl
  have e1:datV H m v=some (datT a):=datV_le (TrF.dat h1 ok.1) (by rw [hd] at hm;have:=Nat.le_max_left (deepN a) (deeps l);omega)
  have e2:=TrFs.dat (m:=m) h2 ok.2 (by rw [hd] at hm;have:=Nat.le_max_right (deepN a) (deeps l);omega)
  show (datV H m v).bind (fun d=>(allSome (r.map (datV H m))).map fun ds=>d::ds)=_
  rw [e1,e2]
  rfl
end
theorem plK_up:∀ {n:Nat}{d:PyData},plK n d->plK (n+1) d
 | 0,d,h=>h.elim
 | n+1,d,h=>by
  cases d with
  | list ds=>exact⟨h.1,fun e he=>plK_up (h.2 e he)⟩
  | tuple ds=>exact⟨h.1,fun e he=>plK_up (h.2 e he)⟩
  | none=>trivial
  | int i=>trivial
  | str z=>trivial
  | _=>exact h.elim
theorem plK_le{n m:Nat}{d:PyData}(h:plK n d)(hm:n≤m):plK m d:=by
 induction hm with
 | refl=>exact h
 | step _ ih=>exact plK_up ih
theorem plK_oD{n:Nat}(o:Option Int):plK (n+1) (oD o):=by cases o<;>exact trivial
theorem plK_tl{x:Tl}(ok:TlOk x):plK 3 (dTl x):=by
 have h8:=ok.m
 unfold dTl
 split
 ·refine⟨by show 2≤4000;decide,fun e he=>?_⟩
  simp only [List.mem_cons,List.not_mem_nil,or_false] at he
  rcases he with rfl|rfl
  ·exact trivial
  ·refine⟨by rw [List.length_map];omega,fun e he=>?_⟩
   obtain⟨o,_,rfl⟩:=List.mem_map.mp he
   exact plK_oD o
 ·refine⟨by rw [List.length_cons,List.length_map];omega,fun e he=>?_⟩
  rcases List.mem_cons.mp he with rfl|he
  ·exact trivial
  ·obtain⟨o,_,rfl⟩:=List.mem_map.mp he
   exact plK_oD o
theorem datTs_len:∀ l:List Tr,(datTs l).length=l.length
 | []=>rfl
 | a::l=>by
  show (datTs l).length+1=_
  rw [datTs_len l]
  rfl
mutual
theorem plK_t:∀ {a:Tr},okT a->plK (2 * deepN a+3) (datT a)
 | .mv x,ok=>by unfold okT at ok;exact plK_tl ok
 | .ch l,ok=>by
  unfold okT at ok
  show plK (2 * deeps l+4+1) (.tuple [.str "chain",.list (datTs l)])
  refine⟨by show 2≤4000;decide,fun e he=>?_⟩
  simp only [List.mem_cons,List.not_mem_nil,or_false] at he
  rcases he with rfl|rfl
  ·exact trivial
  ·exact⟨by rw [datTs_len];have:=ok.1;omega,plK_ts ok.2 (Nat.le_refl _)⟩
theorem plK_ts{m:Nat}:∀ {l:List Tr},okTs l->2 * deeps l+3≤m->∀ e∈datTs l,plK m e
 | [],_,_,e,he=>by cases he
 | a::l,ok,hm,e,he=>by
  unfold okTs at ok
  have hd:deeps (a::l)=max (deepN a) (deeps l):=rfl
  have he':e∈datT a::datTs l:=he
  rcases List.mem_cons.mp he' with rfl|he'
  ·exact plK_le (plK_t ok.1) (by rw [hd] at hm;have:=Nat.le_max_left (deepN a) (deeps l);omega)
  ·exact plK_ts ok.2 (by rw [hd] at hm;have:=Nat.le_max_right (deepN a) (deeps l);omega) e he'
end
theorem MvF.putH{t:Adr}{F H':Hp}{m v:Addr}{x:Tl}{o o':HO}{ys:List V}(h:MvF t F H' v x)(hF:F m=some o)(hm:H' m=some (.lst ys)):MvF t F (upd H' m o') v x:=by
 rcases h with ⟨h1,dx,h2⟩|⟨h1,dx,l,h2,h3,h4⟩
 ·exact .inl ⟨h1,dx,by rw [upd_ne (fun z=>by rw [z,hm] at h2;cases h2)];exact h2⟩
 ·refine .inr ⟨h1,dx,l,by rw [upd_ne (fun z=>by rw [z,hm] at h2;cases h2)];exact h2,h3,?_⟩
  rw [upd_ne (fun z=>by rw [z,hF] at h3;cases h3)]
  exact h4
mutual
theorem MvT.putH{t:Adr}{F H':Hp}{m:Addr}{o o':HO}{ys:List V}(hF:F m=some o)(hm:H' m=some (.lst ys)):∀ {a:Tr}{v:V},MvT t F H' a v->MvT t F (upd H' m o') a v
 | .mv x,v,h=>by
  unfold MvT at h ⊢
  obtain⟨u,h1,h2⟩:=h
  exact⟨u,h1,h2.putH hF hm⟩
 | .ch l,v,h=>by
  unfold MvT at h ⊢
  obtain⟨u,dx,q,vs,h1,h2,h3,h4,h5⟩:=h
  refine⟨u,dx,q,vs,h1,by rw [upd_ne (fun z=>by rw [z,hm] at h2;cases h2)];exact h2,h3,?_,MvTs.putH hF hm h5⟩
  rw [upd_ne (fun z=>by rw [z,hF] at h3;cases h3)]
  exact h4
theorem MvTs.putH{t:Adr}{F H':Hp}{m:Addr}{o o':HO}{ys:List V}(hF:F m=some o)(hm:H' m=some (.lst ys)):∀ {l:List Tr}{vs:List V},MvTs t F H' l vs->MvTs t F (upd H' m o') l vs
 | [],vs,h=>by unfold MvTs at h ⊢;exact h
 | a::l,vs,h=>by
  unfold MvTs at h ⊢
  obtain⟨v,r,h1,h2,h3⟩:=h
  exact⟨v,r,h1,MvT.putH hF hm h2,MvTs.putH hF hm h3⟩
end
theorem int_rep{i:Int}(h:i.natAbs < 10 ^ 60):PyData.showable (.int i)=true∧(PyData.int i).leavesShort 210=true∧(PyData.int i).weight≤201:=by
 have h':i.natAbs < 2 ^ 200:=Nat.lt_of_lt_of_le h (by decide)
 have hl:i.natAbs.log2 < 200:=by
  by_cases h0:i.natAbs=0
  ·rw [h0];decide
  ·exact(Nat.log2_lt h0).mpr h'
 refine⟨?_,?_,?_⟩
 ·show decide (i.natAbs.log2 < 1920)=true
  exact decide_eq_true (by omega)
 ·show decide ((PyData.shown (.int i)).length≤210)=true
  refine decide_eq_true ?_
  show (Str.ofString (toString i)).length≤210
  rw [PySem.ofString_length]
  have:=int_text_length_le (a:=i) (k:=200) (by decide) hl
  omega
 ·show (if (i == 0)=true then 0 else i.natAbs.log2+1)≤201
  split<;>omega
structure RepA(ds:List PyData)(w:Nat):Prop where
 s:PyData.showableAll ds=true
 l:PyData.leavesShortAll 210 ds=true
 w:PyData.weightAll ds≤w
structure RepD(d:PyData)(w:Nat):Prop where
 s:PyData.showable d=true
 l:PyData.leavesShort 210 d=true
 w:d.weight≤w
theorem RepA.nil:RepA [] 0:=⟨rfl,rfl,Nat.le_refl _⟩
theorem RepA.cons{d:PyData}{ds:List PyData}{v w:Nat}(h:RepD d v)(h':RepA ds w):RepA (d::ds) (v+1+w):=by
 refine⟨?_,?_,?_⟩
 ·show (PyData.showable d && PyData.showableAll ds)=true
  rw [h.s,h'.s];rfl
 ·show (PyData.leavesShort 210 d && PyData.leavesShortAll 210 ds)=true
  rw [h.l,h'.l];rfl
 ·show d.weight+1+PyData.weightAll ds≤_
  have:=h.w
  have:=h'.w
  omega
theorem RepD.tup{ds:List PyData}{w:Nat}(h:RepA ds w):RepD (.tuple ds) w:=⟨h.s,h.l,h.w⟩
theorem RepD.lst{ds:List PyData}{w:Nat}(h:RepA ds w):RepD (.list ds) w:=⟨h.s,h.l,h.w⟩
theorem RepD.le{d:PyData}{v w:Nat}(h:RepD d v)(hw:v≤w):RepD d w:=⟨h.s,h.l,Nat.le_trans h.w hw⟩
theorem RepA.le{d:List PyData}{v w:Nat}(h:RepA d v)(hw:v≤w):RepA d w:=⟨h.s,h.l,Nat.le_trans h.w hw⟩
theorem wd_rep:∀ {i:Nat},i < 9->RepD (.str (wdM i)) 8
 | 0,_=>⟨rfl,by decide,by decide⟩
 | 1,_=>⟨rfl,by decide,by decide⟩
 | 2,_=>⟨rfl,by decide,by decide⟩
 | 3,_=>⟨rfl,by decide,by decide⟩
 | 4,_=>⟨rfl,by decide,by decide⟩
 | 5,_=>⟨rfl,by decide,by decide⟩
 | 6,_=>⟨rfl,by decide,by decide⟩
 | 7,_=>⟨rfl,by decide,by decide⟩
 | 8,_=>⟨rfl,by decide,by decide⟩
 | n+9,h=>absurd h (by omega)
theorem os_rep:∀ {os:List (Option Int)},(∀ o∈os,∀ i,o=some i->i.natAbs < 10 ^ 60)->RepA (os.map oD) (202 * os.length)
 | [],_=>RepA.nil
 | o::os,h=>by
  have ih:=os_rep (os:=os) fun x hx=>h x (List.mem_cons_of_mem _ hx)
  have h1:RepD (oD o) 201:=by
   cases o with
   | none=>exact⟨rfl,rfl,by decide⟩
   | some i=>obtain⟨a,b,c⟩:=int_rep (h (some i) List.mem_cons_self i rfl);exact⟨a,b,c⟩
  exact(RepA.cons h1 ih).le (by rw [List.length_cons];omega)
theorem tl_rep{x:Tl}(ok:TlOk x):RepD (dTl x) 1850:=by
 have h9:=ok.m
 have hr:=os_rep ok.b
 unfold dTl
 split
 ·exact(RepD.tup (RepA.cons (wd_rep (i:=3) (by decide)) (RepA.cons (RepD.lst hr) RepA.nil))).le (by omega)
 ·exact(RepD.tup (RepA.cons (wd_rep ok.k) hr)).le (by omega)
mutual
def wT:Tr->Nat
 | .mv _=>1850
 | .ch l=>wTs l+10
def wTs:List Tr->Nat
 | []=>0
 | a::l=>wT a+1+wTs l
end
mutual
theorem tr_rep:∀ {a:Tr},okT a->RepD (datT a) (wT a)
 | .mv x,ok=>by unfold okT at ok;exact tl_rep ok
 | .ch l,ok=>by
  unfold okT at ok
  have h:RepD (.str (Str.ofString "chain")) 5:=⟨rfl,by decide,by decide⟩
  exact(RepD.tup (RepA.cons h (RepA.cons (RepD.lst (trs_rep ok.2)) RepA.nil))).le (by show 5+1+(wTs l+1+0)≤wTs l+10;omega)
theorem trs_rep:∀ {l:List Tr},okTs l->RepA (datTs l) (wTs l)
 | [],_=>RepA.nil
 | a::l,ok=>by
  unfold okTs at ok
  exact RepA.cons (tr_rep ok.1) (trs_rep ok.2)
end
theorem rep_len{ds:List PyData}{w:Nat}(h:RepA ds w)(hw:w≤78000)(hn:ds.length≤20):(tupleText (PyData.shownAll ds)).length≤sizeLine:=by
 have h1:=tupleText_len_le (PyData.shownAll ds)
 have h2:=PyData.shownAll_le 210 (by decide) ds h.l
 have h3:(PyData.shownAll ds).length=ds.length:=PyData.shownAll_length ds
 have h4:=h.w
 rw [h3] at h1
 rw [sizeLine_eq]
 have h5:(210+2) * PyData.weightAll ds≤212 * 78000:=Nat.mul_le_mul (by decide) (by omega)
 omega
theorem use_repT{F H:Hp}{a:Tr}{r:V}{Q:VK}(tr:TrF F H a r)(ok:okT a)(hd:deepN a≤4)(hw:wT a≤78000)(q:∃ ds,datT a=.tuple ds∧Q (.str (tupleText (PyData.shownAll ds))) H):qRepX [r] H Q:=by
 have hdat:=tr.dat ok
 have hrep:=tr_rep ok
 obtain⟨ds,hds,q⟩:=q
 rw [hds] at hdat hrep
 obtain⟨p,xs,rfl,hp,ha⟩:=dat_inv hdat
 have hn:ds.length≤20:=by
  have hpl:=plK_t ok
  cases a with
  | mv x=>
   unfold okT at ok
   have hm:=ok.m
   have:dTl x=.tuple ds:=hds
   unfold dTl at this
   split at this
   ·cases this;show 2≤20;decide
   ·cases this;rw [List.length_cons,List.length_map];omega
  | ch l=>
   have:PyData.tuple [.str "chain",.list (datTs l)]=.tuple ds:=hds
   cases this
   show 2≤20;decide
 exact use_repX (2 * deepN a+2) (by omega) hp ha hrep.s (rep_len ⟨hrep.s,hrep.l,hrep.w⟩ hw hn) q
def noF:Hp:=fun _=>none
def stayT:Tr:=.mv (0,[])
theorem stay_ok:okT stayT:=by
 unfold stayT okT
 exact⟨by show 0 < 9;decide,fun _=>rfl,by show 0≤9;decide,fun o ho=>absurd ho List.not_mem_nil,fun _ o ho=>absurd ho List.not_mem_nil,fun h=>absurd h (by show 0 ≠ 1;decide)⟩
theorem mvs_al{H:Hp}:∀ {xs:List Tl}{ys:List V},Al (fun x y=>TlF noF H y x) xs ys->TrFs noF H (xs.map .mv) ys
 | [],ys,h=>by unfold TrFs;exact List.eq_nil_of_length_eq_zero h.1
 | x::xs,[],h=>by have:=h.1;simp at this
 | x::xs,y::ys,h=>by
  show TrFs noF H (.mv x::xs.map .mv) (y::ys)
  unfold TrFs
  exact⟨y,ys,rfl,by unfold TrF;exact h.2 0 x y rfl rfl,mvs_al (al_tail h)⟩
theorem mvs_facts:∀ {xs:List Tl},(∀ x∈xs,TlOk x)->okTs (xs.map .mv)∧deeps (xs.map .mv)=0∧leafs (xs.map .mv)=xs.length∧wTs (xs.map .mv)=1851 * xs.length
 | [],_=>⟨trivial,rfl,rfl,rfl⟩
 | x::xs,h=>by
  obtain⟨h1,h2,h3,h4⟩:=mvs_facts (xs:=xs) fun y hy=>h y (List.mem_cons_of_mem _ hy)
  refine⟨?_,?_,?_,?_⟩
  ·show okTs (.mv x::xs.map .mv)
   unfold okTs
   exact⟨by unfold okT;exact h x List.mem_cons_self,h1⟩
  ·show max 0 (deeps (xs.map .mv))=0
   rw [h2];rfl
  ·show 1+leafs (xs.map .mv)=xs.length+1
   rw [h3];omega
  ·show 1850+1+wTs (xs.map .mv)=1851 * (xs.length+1)
   rw [h4];omega
theorem al_app{α:Type}{R:α->V->Prop}{xs xs':List α}{ys ys':List V}(h:Al R xs ys)(h':Al R xs' ys'):Al R (xs++xs') (ys++ys'):=by
 refine⟨by rw [List.length_append,List.length_append,h.1,h'.1],fun i z y hz hy=>?_⟩
 by_cases hi:i < xs.length
 ·rw [List.getElem?_append_left hi] at hz
  rw [List.getElem?_append_left (by rw [h.1];exact hi)] at hy
  exact h.2 i z y hz hy
 ·rw [List.getElem?_append_right (by omega)] at hz
  rw [List.getElem?_append_right (by rw [h.1];omega),h.1] at hy
  exact h'.2 _ z y hz hy
theorem al_rep{α:Type}{R:α->V->Prop}{xs:List α}{ys:List V}(h:Al R xs ys):∀ n:Nat,Al R (List.replicate n xs).flatten (List.replicate n ys).flatten
 | 0=>⟨rfl,fun i z y hz=>by simp at hz⟩
 | n+1=>by
  rw [List.replicate_succ,List.replicate_succ,List.flatten_cons,List.flatten_cons]
  exact al_app h (al_rep h n)
theorem al_tak{α:Type}{R:α->V->Prop}{xs:List α}{ys:List V}(h:Al R xs ys)(n:Nat):Al R (xs.take n) (ys.take n):=
 ⟨by rw [List.length_take,List.length_take,h.1],fun i z y hz hy=>by
  rw [List.getElem?_take] at hz hy
  split at hz
  ·rename_i hi
   rw [if_pos hi] at hy
   exact h.2 i z y hz hy
  ·cases hz⟩
theorem rep_mem{α:Type}{xs:List α}{x:α}:∀ {n:Nat},x∈(List.replicate n xs).flatten->x∈xs:=fun {n} h=>by
 obtain⟨l,hl,hx⟩:=List.mem_flatten.mp h
 rw [List.eq_of_mem_replicate hl] at hx
 exact hx
theorem cut_to(xs:List V)(z:Int)(h:0≤z):cutV xs none (some z)=xs.take z.toNat:=by
 unfold cutV
 obtain⟨n,rfl⟩:=Int.eq_ofNat_of_zero_le h
 rw [HT.sIx_none,HT.sIx_nat,List.drop_zero,Nat.sub_zero]
 show xs.take (min n xs.length)=xs.take n
 rcases Nat.le_total n xs.length with q|q
 ·rw [Nat.min_eq_left q]
 ·rw [Nat.min_eq_right q,List.take_length,List.take_of_length_le q]
def ChT(H:Hp)(r:V)(d lf:Nat):Prop:=∃ l:List Tr,TrF noF H (.ch l) r∧okT (.ch l)∧deeps l+1≤d∧leafs l≤lf∧wT (.ch l)≤1851 * lf+20 * d
theorem ChT.ext{H H':Hp}{r:V}{d lf:Nat}(h:ChT H r d lf)(e:Ext H H'):ChT H' r d lf:=by
 obtain⟨l,h1,h2⟩:=h
 exact⟨l,h1.ext e,h2⟩
theorem ChT.mk{H:Hp}{xs:List Tl}{ys:List V}{p q:Addr}(h:Al (fun x y=>TlF noF H y x) xs ys)(ok:∀ x∈xs,TlOk x)(h40:xs.length≤40)(hp:H p=some (.tup [.str (Str.ofString "chain"),.ref q]))(hq:H q=some (.lst ys)):ChT H (.ref p) 1 xs.length:=by
 obtain⟨f1,f2,f3,f4⟩:=mvs_facts ok
 refine⟨xs.map .mv,?_,?_,by rw [f2];decide,by rw [f3];exact Nat.le_refl _,by show wTs (xs.map .mv)+10≤_;rw [f4];omega⟩
 ·unfold TrF
  exact⟨p,q,ys,rfl,hp,rfl,hq,mvs_al h⟩
 ·unfold okT
  exact⟨by rw [List.length_map];exact h40,f1⟩
abbrev B_spChn(K:PySem.W.Frag)(a:Addr)(ns:List Int)(p:Addr)(l:Addr)(H:Hp)(Q:VK)(E:XK):Prop:=p=a∧SqL K H a (ns.map V.int)∧ns.length≤63∧∃ (xs:List Tl) (ys:List V),H l=some (.lst ys)∧Al (fun x y=>TlF noF H y x) xs ys∧(∀ x∈xs,TlOk x)∧xs.length≤6∧∀ (r:V) (H':Hp),Ext H H'->ChT H' r 4 40->Q r H'
def spChn(K:PySem.W.Frag)(a:Addr)(ns:List Int):Sp:=fun vs H Q E=>∃ (p:Addr) (l:Addr),vs=[.ref p,.ref l]∧(B_spChn K a ns p l H Q E)
theorem c_spChn(K:PySem.W.Frag)(a:Addr)(ns:List Int)(p:Addr)(l:Addr)(H:Hp)(Q:VK)(E:XK):spChn K a ns [.ref p,.ref l] H Q E=(B_spChn K a ns p l H Q E):=spx2 (f:=fun (p:Addr) (l:Addr)=>[.ref p,.ref l]) (fun _ _ _ _ h=>by cases h;exact⟨rfl,rfl⟩) p l
theorem l_spChn(K:PySem.W.Frag)(a:Addr)(ns:List Int){vs:List V}{H:Hp}{Q:VK}{E:XK}(h:spChn K a ns vs H Q E):vs.length=2:=spl2 h fun _ _=>rfl
theorem ok__law_chain(T:Tx K mg t)(a:Addr)(ns:List Int):FnOk P t.w K mg base CX0 2 t.a__law_chain t.d__law_chain ["_law_script", "_law_rows"] (spChn K a ns):=by
 have G__law_draw:=ok__law_draw (P:=P) (base:=base) T a ns
 refine T.F__law_chain.ok c__law_chain (fun vs H Q E h=>l_spChn _ _ _ h) (fun cdv A outer s H vs Q E hr h=>?_)
 ·obtain⟨_,l,rfl,rfl,hS,hl63,xs,ys,hl,al,oks,h6,k⟩:=h
  rename_i a
  refine⟨_,(@pss_cons _ _ _ _ _ (@ps_set _ _ (2) _ _ _ _ c__law_chain.nd rfl (Or.inl rfl) (@pe_call _ _ _ _ _ _ _ _ _ _ _ _ _ _ _ _ G__law_draw (hr.mono (by decide)) (by rfl) T.m__law_draw T.F__law_draw.kp T.b__law_draw .nil pass0 (@pa_c _ _ _ _ _ (@pvN _ 0 _ _ (by rfl) (by trivial) (by decide) (by decide)) (@pa_c _ _ _ _ _ (@pe_int _ _ _ _) (@pa_c _ _ _ _ _ (@pe_op _ _ _ _ _ _ _ _ on_pow (@pe_int _ _ _ _) (@pe_int _ _ _ _)) (@pa_nil _) (by rfl)) (by rfl)) (by rfl)) (by decide) (by rfl) (by rfl)) (by rfl) (by trivial)) (@pss_cons _ _ _ _ _ (@ps_set _ _ (3) _ _ _ _ c__law_chain.nd rfl (Or.inl rfl) (@pe_qTup _ _ _ _ _ (@pa_c _ _ _ _ _ (@pe_str _ _ _ _) (@pa_c _ _ _ _ _ (@pe_callTy _ _ _ _ _ _ _ _ _ call_nList (by rfl) T.z_list (by decide +kernel) (@pa_c _ _ _ _ _ (@pvN _ 1 _ _ (by rfl) (by trivial) (by decide) (by decide)) (@pa_nil _) (by rfl)) (by decide) (by decide) (by rfl) (by rfl)) (@pa_nil _) (by rfl)) (by rfl))) (by rfl) (by trivial)) (@pss_cons _ _ _ _ _ (@ps_if _ _ _ _ _ _ _ _ (@pt_cmpRN _ _ _ _ _ _ _ _ (op_qEq hr.units) (@pe_op _ _ _ _ _ _ _ _ on_mod (@pvN _ 2 _ _ (by rfl) (by trivial) (by decide) (by decide)) (@pe_int _ _ _ _)) (@pe_int _ _ _ _) (nomark _)) (@pss_one _ _ _ (@ps_set _ _ (3) _ _ _ _ c__law_chain.nd rfl (Or.inl rfl) (@pe_qTup _ _ _ _ _ (@pa_c _ _ _ _ _ (@pe_str _ _ _ _) (@pa_c _ _ _ _ _ (@pe_slice _ _ _ _ _ _ _ _ _ _ sl_n (@pe_op _ _ _ _ _ _ _ _ op_nRep (@pvN _ 1 _ _ (by rfl) (by trivial) (by decide) (by decide)) (@pe_int _ _ _ _)) (@po_none _) (@po_some _ _ _ (@pe_int _ _ _ _))) (@pa_nil _) (by rfl)) (by rfl))) (by rfl) (by trivial))) (@pss_nil _)) (@pss_cons _ _ _ _ _ (@ps_for _ _ _ _ _ _ _ _ PassesOwn.never rfl (@pi_range1 _ _ _ _ _ _ (by rfl) T.z_range (@pa_c _ _ _ _ _ (@pe_op _ _ _ _ _ _ _ _ on_mod (@pe_op _ _ _ _ _ _ _ _ on_fdiv (@pvN _ 2 _ _ (by rfl) (by trivial) (by decide) (by decide)) (@pe_int _ _ _ _)) (@pe_int _ _ _ _)) (@pa_nil _) (by rfl)) (by rfl)) (@pg_name _ _ (4) _ c__law_chain.nd rfl (Or.inl rfl) (by trivial)) (@pss_one _ _ _ (@ps_set _ _ (3) _ _ _ _ c__law_chain.nd rfl (Or.inl rfl) (@pe_qTup _ _ _ _ _ (@pa_c _ _ _ _ _ (@pe_str _ _ _ _) (@pa_c _ _ _ _ _ (@pe_op _ _ _ _ _ _ _ _ op_nCat (@pe_op _ _ _ _ _ _ _ _ op_nRep (@pe_qLst _ _ _ _ (@pa_c _ _ _ _ _ (@pe_qTup _ _ _ _ _ (@pa_c _ _ _ _ _ (@pe_str _ _ _ _) (@pa_nil _) (by rfl))) (@pa_nil _) (by rfl))) (@pe_op _ _ _ _ _ _ _ _ on_mul (@pe_op _ _ _ _ _ _ _ _ on_mod (@pe_op _ _ _ _ _ _ _ _ on_fdiv (@pvN _ 2 _ _ (by rfl) (by trivial) (by decide) (by decide)) (@pe_int _ _ _ _)) (@pe_int _ _ _ _)) (@pe_callTy _ _ _ _ _ _ _ _ _ call_qInt (by rfl) T.z_int (by decide +kernel) (@pa_c _ _ _ _ _ (@pe_cmpR _ _ _ _ _ _ _ _ (op_qNe hr.units) (@pe_op _ _ _ _ _ _ _ _ on_mod (@pvN _ 2 _ _ (by rfl) (by trivial) (by decide) (by decide)) (@pe_int _ _ _ _)) (@pe_int _ _ _ _) (nomark _)) (@pa_nil _) (by rfl)) (by decide) (by decide) (by rfl) (by rfl)))) (@pe_qLst _ _ _ _ (@pa_c _ _ _ _ _ (@pvN _ 3 _ _ (by rfl) (by trivial) (by decide) (by decide)) (@pa_nil _) (by rfl)))) (@pa_nil _) (by rfl)) (by rfl))) (by rfl) (by trivial))) (by intros;rfl)) (@pss_one _ _ _ (@ps_ret _ _ _ _ (@pvN _ 3 _ _ (by rfl) (by trivial) (by decide) (by decide)))))))),?_⟩
  rw [show start ["_law_script", "_law_rows", "_law_cell", "_law_told", "_law_k"] [.ref a,.ref l]=[some (.ref a),some (.ref l),none,none,none] from rfl]
  clear G__law_draw
  have hyl:ys.length=xs.length:=al.1
  replace k:=fun (_:Unit)=>k
  replace al:=fun (_:Unit)=>al
  replace oks:=fun (_:Unit)=>oks
  replace hyl:=fun (_:Unit)=>hyl
  have hsz:ys.length≤sizeLine:=len5000 (by have:=hyl ();omega)
  simp! only [and_true]
  rw [c_spDraw]
  refine⟨hS,hl63,⟨by decide,by decide⟩,by decide,fun c c0 c1=>?_⟩
  have c4:0≤c / 4:=Int.ediv_nonneg c0 (by decide)
  have c16:0≤c / 16:=Int.ediv_nonneg c0 (by decide)
  have m0:=Int.emod_nonneg (c / 4) (show (4:Int) ≠ 0 by decide)
  have m1:=Int.emod_lt_of_pos (c / 4) (show (0:Int) < 4 by decide)
  simp! only [and_true]
  intro q1 H1 _ e1 h1
  simp! only [and_true]
  intro p2 H2 _ e2 h2
  have hl2:=(e1.trans e2).at hl
  have ch2:ChT H2 (.ref p2) 1 xs.length:=ChT.mk ((al ()).imp fun _ _ h=>h.ext (e1.trans e2)) (oks ()) (by omega) h2 (e2.at h1)
  replace ch2:=fun (_:Unit)=>ch2
  clear h1 h2
  have e02:=e1.trans e2
  simp! only [-m_tIfS]
  refine if_gen (fun σ' H'=>∃ r:V,σ'=[some (.ref a),some (.ref l),some (.int c),some r,none]∧Ext H H'∧ChT H' r 1 (if c % 4=1 then 40 else 6)) (fun nx' hn=>?_) ?_
  ·replace hn:=fun (_:Unit)=>hn
   by_cases h1:c % 4=1
   ·simp! only [and_true]
    refine⟨len5000 (by have:=hyl ();omega),?_⟩
    intro q3 H3 _ e3 h3
    simp! only [and_true]
    intro q4 H4 _ e4 h4
    rw [cut_to _ _ (by decide)] at h4
    have h4':H4 q4=some (.lst ((List.replicate 7 ys).flatten.take 40)):=h4
    clear h4
    simp! only [and_true]
    intro p5 H5 _ e5 h5
    have e05:=e02.trans (e3.trans (e4.trans e5))
    have alr:=al_tak (al_rep ((al ()).imp fun x y (h:TlF noF H y x)=>h.ext e05) 7) 40
    have hlen:((List.replicate 7 xs).flatten.take 40).length≤40:=by rw [List.length_take];omega
    have chh:=ChT.mk alr (fun x hx=>oks () x (rep_mem (List.mem_of_mem_take hx))) hlen h5 (e5.at h4')
    simp! only [and_true]
    refine hn () _ H5 ⟨_,rfl,e05,?_⟩
    obtain⟨l',g1,g2,g3,g4,g5⟩:=chh
    exact⟨l',g1,g2,g3,by rw [if_pos h1];omega,by rw [if_pos h1];omega⟩
   ·have k2:=hn () _ H2 ⟨.ref p2,rfl,e02,by
     obtain⟨l',g1,g2,g3,g4,g5⟩:=ch2 ()
     exact⟨l',g1,g2,g3,by rw [if_neg h1];omega,by rw [if_neg h1];omega⟩⟩
    clear hn
    simp! only [and_true]
  rintro _ H3 ⟨r,rfl,e3,ch3⟩
  replace ch3:=fun (_:Unit)=>ch3
  clear ch2 hl2
  simp! only [and_true]
  refine⟨by omega,by omega,?_⟩
  refine for_rng (fun i σ H'=>i≤3∧∃ (r:V) (v4:Option V),σ=[some (.ref a),some (.ref l),some (.int c),some r,v4]∧Ext H H'∧ChT H' r (1+i) (if c % 4=1 then 40 else 6+i)) ⟨by decide,r,none,rfl,e3,ch3 ()⟩ ?_ ?_
  ·rintro i _ H4 hi ⟨hi3,r4,v4,rfl,e4,ch4⟩
   have hi':i < (c / 4 % 4).toNat:=hi
   have i3:i+1≤3:=by omega
   replace ch4:=fun (_:Unit)=>ch4
   have n0:=Int.emod_nonneg (c / 16) (show (2:Int) ≠ 0 by decide)
   have n1:=Int.emod_lt_of_pos (c / 16) (show (0:Int) < 2 by decide)
   have go:∀ (n:Nat) (ps p q:Addr) (H':Hp),Ext H4 H'->n≤1->(c % 4=1->n=0)->H' ps=some (.tup [.str (Str.ofString "stay")])->H' q=some (.lst ((List.replicate n [V.ref ps]).flatten++[r4]))->H' p=some (.tup [.str (Str.ofString "chain"),.ref q])->ChT H' (.ref p) (1+(i+1)) (if c % 4=1 then 40 else 6+(i+1)):=fun n ps p q H' e hn hc hps hq hp=>by
    obtain⟨l',g1,g2,g3,g4,g5⟩:=(ch4 ()).ext e
    have hst:TrF noF H' stayT (.ref ps):=by unfold stayT TrF;exact⟨ps,rfl,.inl ⟨by show 0 ≠ 3;decide,hps⟩⟩
    rcases (show n=0∨n=1 by omega) with rfl|rfl
    ·refine⟨[.ch l'],?_,?_,?_,?_,?_⟩
     ·unfold TrF
      refine⟨p,q,_,rfl,hp,rfl,hq,?_⟩
      unfold TrFs
      exact⟨r4,[],rfl,g1,by unfold TrFs;rfl⟩
     ·unfold okT okTs
      exact⟨by show 1≤40;decide,g2,trivial⟩
     ·show max (deeps l'+1) 0+1≤_
      omega
     ·show leafs l'+0≤_
      by_cases h:c % 4=1
      ·rw [if_pos h] at g4 ⊢;omega
      ·rw [if_neg h] at g4 ⊢;omega
     ·show wT (.ch l')+1+0+10≤_
      by_cases h:c % 4=1
      ·rw [if_pos h] at g5 ⊢;omega
      ·rw [if_neg h] at g5 ⊢;omega
    ·refine⟨[stayT,.ch l'],?_,?_,?_,?_,?_⟩
     ·unfold TrF
      refine⟨p,q,_,rfl,hp,rfl,hq,?_⟩
      unfold TrFs
      refine⟨.ref ps,[r4],rfl,hst,?_⟩
      unfold TrFs
      exact⟨r4,[],rfl,g1,by unfold TrFs;rfl⟩
     ·unfold okT okTs
      refine⟨by show 2≤40;decide,stay_ok,?_⟩
      unfold okTs
      exact⟨g2,trivial⟩
     ·show max 0 (max (deeps l'+1) 0)+1≤_
      omega
     ·show 1+(leafs l'+0)≤_
      have:¬ c % 4=1:=fun z=>absurd (hc z) (by decide)
      rw [if_neg this] at g4 ⊢
      omega
     ·show 1850+1+(wT (.ch l')+1+0)+10≤_
      have:¬ c % 4=1:=fun z=>absurd (hc z) (by decide)
      rw [if_neg this] at g5 ⊢
      omega
   replace go:=fun (_:Unit)=>go
   simp! only [↓m_kBody]
   intro ps H5 _ e5 h5
   simp! only [and_true]
   intro l6 H6 _ e6 h6
   have hps6:=e6.at h5
   clear h5
   by_cases h1:c % 4=1
   ·simp! only [and_true]
    have hb:0≤c / 16 % 2 * 0∧c / 16 % 2 * 0≤1:=by omega
    have hz:c % 4=1->(c / 16 % 2 * 0).toNat=0:=fun z=>by omega
    have hn1:(c / 16 % 2 * 0).toNat≤1:=by omega
    refine⟨hb.1,by omega,len5000 (by omega),?_⟩
    generalize (c / 16 % 2 * 0).toNat=n at hn1 hz
    intro l7 H7 _ e7 h7
    clear hb
    simp! only [and_true]
    intro l8 H8 _ e8 h8
    refine use_cat (e8.at h7) h8 (len5000 (by
     rcases (show n=0∨n=1 by omega) with rfl|rfl
     ·show 0+1≤5000;decide
     ·show 1+1≤5000;decide)) ?_
    intro l9 H9 _ e9 h9
    clear h7 h8
    simp! only [and_true]
    intro p10 H10 _ e10 h10
    have e610:=e7.trans (e8.trans (e9.trans e10))
    have fin:=go () n ps p10 l9 H10 (e5.trans (e6.trans e610)) hn1 hz (e610.at hps6) (e10.at h9) h10
    rw [if_pos h1] at fin
    simp! only [and_true]
    exact⟨_,_,rfl,e4.trans (e5.trans (e6.trans e610)),fin⟩
   ·simp! only [and_true]
    have hb:0≤c / 16 % 2 * 1∧c / 16 % 2 * 1≤1:=by omega
    have hz:c % 4=1->(c / 16 % 2 * 1).toNat=0:=fun z=>absurd z h1
    have hn1:(c / 16 % 2 * 1).toNat≤1:=by omega
    refine⟨hb.1,by omega,len5000 (by omega),?_⟩
    generalize (c / 16 % 2 * 1).toNat=n at hn1 hz
    intro l7 H7 _ e7 h7
    clear hb
    simp! only [and_true]
    intro l8 H8 _ e8 h8
    refine use_cat (e8.at h7) h8 (len5000 (by
     rcases (show n=0∨n=1 by omega) with rfl|rfl
     ·show 0+1≤5000;decide
     ·show 1+1≤5000;decide)) ?_
    intro l9 H9 _ e9 h9
    clear h7 h8
    simp! only [and_true]
    intro p10 H10 _ e10 h10
    have e610:=e7.trans (e8.trans (e9.trans e10))
    have fin:=go () n ps p10 l9 H10 (e5.trans (e6.trans e610)) hn1 hz (e610.at hps6) (e10.at h9) h10
    rw [if_neg h1] at fin
    simp! only [and_true]
    exact⟨_,_,rfl,e4.trans (e5.trans (e6.trans e610)),fin⟩
  ·rintro _ H4 ⟨hi3,r4,v4,rfl,e4,ch4⟩
   have k2:=k () r4 H4 e4 (by
    obtain⟨l',g1,g2,g3,g4,g5⟩:=ch4
    refine⟨l',g1,g2,by omega,?_,?_⟩
    ·by_cases h:c % 4=1
     ·rw [if_pos h] at g4;omega
     ·rw [if_neg h] at g4;omega
    ·by_cases h:c % 4=1
     ·rw [if_pos h] at g5;omega
     ·rw [if_neg h] at g5;omega)
   clear k ch4
   simp! only [and_true]
def plQ:Nat->PyData->Prop
 | 0,_=>False
 | n+1,d=>match d with
  | .none | .int _ | .str _ | .bool _=>True
  | .list ds | .tuple ds=>∀ e∈ds,plQ n e
  | _=>False
theorem eqvAll_self{n:Nat}(h:∀ d,plQ n d->PyData.eqv d d=true):∀ ds:List PyData,(∀ e∈ds,plQ n e)->PyData.eqvAll ds ds=true
 | [],_=>eqvAll_nil
 | d::ds,hd=>by rw [eqvAll_cons,h d (hd d List.mem_cons_self),eqvAll_self h ds fun e he=>hd e (List.mem_cons_of_mem _ he)];rfl
theorem eqv_self:∀ (n:Nat) (d:PyData),plQ n d->PyData.eqv d d=true
 | 0,d,h=>h.elim
 | n+1,d,h=>by
  cases d with
  | list ds=>rw [eqv_list];exact eqvAll_self (eqv_self n) ds h
  | tuple ds=>rw [eqv_tuple];exact eqvAll_self (eqv_self n) ds h
  | none=>rfl
  | int i=>rw [eqv_int];exact decide_eq_true rfl
  | str z=>rw [eqv_str];exact beq_self_eq_true z
  | bool b=>rw [eqv_bool];exact decide_eq_true rfl
  | _=>exact h.elim
theorem kindDs_mem:∀ {ds:List PyData}{e:PyData},e∈kindDs ds->∃ d∈ds,e=kindD d
 | [],e,h=>by cases h
 | d::ds,e,h=>by
  have h':e∈kindD d::kindDs ds:=h
  rcases List.mem_cons.mp h' with rfl|h'
  ·exact⟨d,List.mem_cons_self,rfl⟩
  ·obtain⟨d',h1,h2⟩:=kindDs_mem h'
   exact⟨d',List.mem_cons_of_mem _ h1,h2⟩
theorem plQ_up:∀ {n:Nat}{d:PyData},plQ n d->plQ (n+1) d
 | 0,d,h=>h.elim
 | n+1,d,h=>by
  cases d with
  | list ds=>exact fun e he=>plQ_up (h e he)
  | tuple ds=>exact fun e he=>plQ_up (h e he)
  | none=>trivial
  | int i=>trivial
  | str z=>trivial
  | bool b=>trivial
  | _=>exact h.elim
theorem kind_plQ:∀ (n:Nat) (d:PyData),plK n d->plQ (2 * n+2) (kindD d)
 | 0,d,h=>h.elim
 | n+1,d,h=>by
  show plQ (2 * n+3+1) (kindD d)
  have pair:∀ (x:PyData) (b:Bool),plQ 1 x->plQ (2 * n+3+1) (.tuple [.bool b,x]):=fun x b hx=>by
   intro e he
   simp only [List.mem_cons,List.not_mem_nil,or_false] at he
   rcases he with rfl|rfl
   ·exact trivial
   ·cases e<;>first|exact hx.elim|exact trivial|(intro e he;exact(hx e he).elim)
  cases d with
  | list ds=>
   simp only [kindD]
   intro e he
   obtain⟨d',h1,rfl⟩:=kindDs_mem he
   have ih:=kind_plQ n d' (h.2 d' h1)
   exact plQ_up ih
  | tuple ds=>
   simp only [kindD]
   intro e he
   simp only [List.mem_cons,List.not_mem_nil,or_false] at he
   rcases he with rfl|rfl
   ·exact trivial
   ·intro e he
    obtain⟨d',h1,rfl⟩:=kindDs_mem he
    exact kind_plQ n d' (h.2 d' h1)
  | none=>simp only [kindD];exact pair _ _ trivial
  | int i=>simp only [kindD];exact pair _ _ trivial
  | str z=>simp only [kindD];exact pair _ _ trivial
  | _=>exact h.elim
theorem wd_turn':∀ {i:Nat},i < 9->i ≠ 3->¬ wdM i=Str.ofString "turn"
 | 0,_,_=>by decide
 | 1,_,_=>by decide
 | 2,_,_=>by decide
 | 3,_,h=>absurd rfl h
 | 4,_,_=>by decide
 | 5,_,_=>by decide
 | 6,_,_=>by decide
 | 7,_,_=>by decide
 | 8,_,_=>by decide
 | n+9,h,_=>absurd h (by omega)
theorem cut_last{xs:List V}{n:Nat}(h:xs.length=n+1):cutV xs none (some (-1))=xs.take n:=by
 unfold cutV
 rw [HT.sIx_none,List.drop_zero,Nat.sub_zero]
 congr 1
 show (if (-1:Int) < 0 then ((-1:Int)+(xs.length:Int)).toNat else min (-1:Int).toNat xs.length)=n
 rw [if_pos (by decide),h]
 omega
theorem in_no:∀ {i:Nat},i < 9->i ≠ 3->inV (V.str (wdM i)) [V.str (Str.ofString "turn"),V.str (Str.ofString "chain")]=false
 | 0,_,_=>by decide +kernel
 | 1,_,_=>by decide +kernel
 | 2,_,_=>by decide +kernel
 | 3,_,h=>absurd rfl h
 | 4,_,_=>by decide +kernel
 | 5,_,_=>by decide +kernel
 | 6,_,_=>by decide +kernel
 | 7,_,_=>by decide +kernel
 | 8,_,_=>by decide +kernel
 | n+9,h,_=>absurd h (by omega)
def InO(F H:Hp)(B:Nat)(y:V):Prop:=∃ p,y=.ref p∧((∃ w xs,H p=some (.tup (.str w::xs))∧inV (V.str w) [V.str (Str.ofString "turn"),V.str (Str.ofString "chain")]=false)∨(∃ w q ys,H p=some (.tup [.str w,.ref q])∧inV (V.str w) [V.str (Str.ofString "turn"),V.str (Str.ofString "chain")]=true∧F q=none∧H q=some (.lst ys)∧ys.length≤B))
theorem InO.of{F H:Hp}:∀ {a:Tr}{y:V},TrF F H a y->okT a->InO F H 40 y
 | .mv x,y,h,ok=>by
  unfold TrF at h
  unfold okT at ok
  have x9:=ok.m
  obtain⟨p,rfl,⟨h3,hp⟩|⟨h3,l,hp,hf,hl⟩⟩:=h
  ·exact⟨p,rfl,.inl ⟨_,_,hp,in_no ok.k h3⟩⟩
  ·exact⟨p,rfl,.inr ⟨_,l,_,hp,by decide +kernel,hf,hl,by rw [List.length_map];omega⟩⟩
 | .ch l,y,h,ok=>by
  unfold TrF at h
  unfold okT at ok
  obtain⟨p,q,rs,rfl,hp,hf,hq,hs⟩:=h
  exact⟨p,rfl,.inr ⟨_,q,_,hp,by decide +kernel,hf,hq,by rw [hs.al.1];exact ok.1⟩⟩
theorem InO.put{F H:Hp}{B:Nat}{y:V}{m:Addr}{ys zs:List V}(h:InO F H B y)(hm:H m=some (.lst ys))(hz:zs.length≤B+1):InO F (upd H m (.lst zs)) (B+1) y:=by
 have np:∀ {p:Addr} {xs:List V},H p=some (.tup xs)->p ≠ m:=fun hp z=>by rw [z,hm] at hp;cases hp
 obtain⟨p,rfl,⟨w,xs,hp,hi⟩|⟨w,q,us,hp,hi,hf,hq,hl⟩⟩:=h
 ·exact⟨p,rfl,.inl ⟨w,xs,by rw [upd_ne (np hp)];exact hp,hi⟩⟩
 ·by_cases hqm:q=m
  ·subst hqm
   exact⟨p,rfl,.inr ⟨w,q,zs,by rw [upd_ne (np hp)];exact hp,hi,hf,upd_same,hz⟩⟩
  ·exact⟨p,rfl,.inr ⟨w,q,us,by rw [upd_ne (np hp)];exact hp,hi,hf,by rw [upd_ne hqm];exact hq,by omega⟩⟩
theorem InO.ext{F H H':Hp}{B B':Nat}{y:V}(h:InO F H B y)(e:Ext H H')(hb:B≤B'):InO F H' B' y:=by
 obtain⟨p,rfl,⟨w,xs,hp,hi⟩|⟨w,q,us,hp,hi,hf,hq,hl⟩⟩:=h
 ·exact⟨p,rfl,.inl ⟨w,xs,e.at hp,hi⟩⟩
 ·exact⟨p,rfl,.inr ⟨w,q,us,e.at hp,hi,hf,e.at hq,by omega⟩⟩
theorem InO.reF{F H:Hp}{B:Nat}{y:V}{m:Addr}{o:HO}(h:InO F H B y)(hm:H m=none):InO (upd F m o) H B y:=by
 obtain⟨p,rfl,h|⟨w,q,us,hp,hi,hf,hq,hl⟩⟩:=h
 ·exact⟨p,rfl,.inl h⟩
 ·exact⟨p,rfl,.inr ⟨w,q,us,hp,hi,by rw [upd_ne (fun z=>by rw [z,hm] at hq;cases hq)];exact hf,hq,hl⟩⟩
theorem ext_upd{F H:Hp}{m:Addr}{o:HO}(e:Ext F H)(h:H m=some o):Ext (upd F m o) H:=Same.ext fun b u hb=>by
 by_cases hbm:b=m
 ·subst hbm;rw [upd_same] at hb;cases hb;exact h
 ·rw [upd_ne hbm] at hb;exact e.at hb
def QfI(H:Hp)(B:Nat)(q:Addr):Prop:=∃ zs,H q=some (.lst zs)∧0 < zs.length∧zs.length≤B
theorem QfI.put{H:Hp}{B:Nat}{q m:Addr}{zs:List V}(h:QfI H B q)(h0:0 < zs.length)(hz:zs.length≤B+1):QfI (upd H m (.lst zs)) (B+1) q:=by
 obtain⟨us,h1,h2,h3⟩:=h
 by_cases hqm:q=m
 ·subst hqm;exact⟨zs,upd_same,h0,hz⟩
 ·exact⟨us,by rw [upd_ne hqm];exact h1,h2,by omega⟩
theorem QfI.ext{H H':Hp}{B B':Nat}{q:Addr}(h:QfI H B q)(e:Ext H H')(hb:B≤B'):QfI H' B' q:=by
 obtain⟨us,h1,h2,h3⟩:=h
 exact⟨us,e.at h1,h2,by omega⟩
theorem trs_dat{F H:Hp}{l:List Tr}{rs:List V}{q:Addr}{m:Nat}(hq:H q=some (.lst rs))(hs:TrFs F H l rs)(ok:okTs l)(hm:2 * deeps l+3≤m):datV H (m+1) (.ref q)=some (.list (datTs l)):=by
 rw [m_datV_ref,hq]
 show (allSome (rs.map (datV H m))).map PyData.list=_
 rw [TrFs.dat hs ok hm]
 rfl
theorem ext_back{Hb He:Hp}{q:Addr}{o:HO}(hq:Hb q=some o)(h:∀ b u,b ≠ q->Hb b=some u->He b=some u)(hq':He q=some o):Ext Hb He:=Same.ext fun b u e=>by
 by_cases hb:b=q
 ·subst hb;rw [hq] at e;cases e;exact hq'
 ·exact h b u hb e
abbrev B_spRgt(t:Adr)(r:V)(H:Hp)(Q:VK)(E:XK):Prop:=∃ a:Tr,TrF noF H a r∧okT a∧deepN a≤4∧leafN a≤40∧wT a≤78000∧∀ H',Ext H H'->Q (.bl true) H'
def spRgt(t:Adr):Sp:=fun vs H Q E=>∃ (r:V),vs=[r]∧(B_spRgt t r H Q E)
theorem c_spRgt(t:Adr)(r:V)(H:Hp)(Q:VK)(E:XK):spRgt t [r] H Q E=(B_spRgt t r H Q E):=spx1 (f:=fun (r:V)=>[r]) (fun _ _ h=>by cases h;exact rfl) r
theorem l_spRgt(t:Adr){vs:List V}{H:Hp}{Q:VK}{E:XK}(h:spRgt t vs H Q E):vs.length=1:=spl1 h fun _=>rfl
theorem ok__law_right(T:Tx K mg t):FnOk P t.w K mg base CX0 14 t.a__law_right t.d__law_right ["_law_told"] (spRgt t):=by
 have G__law_made:=ok__law_made (P:=P) (base:=base) T 4
 have G__law_kind:=ok__law_kind (P:=P) (base:=base) T 11
 have G_move_of:=ok_move_of (P:=P) (base:=base) T
 have MD_told:=MDT (P:=P) (base:=base) T 4
 refine T.F__law_right.ok c__law_right (fun vs H Q E h=>l_spRgt _ h) (fun cdv A outer s H vs Q E hr h=>?_)
 ·obtain⟨r,rfl,a,tr,ok,hd,lf,wt,k⟩:=h
  refine⟨_,(@pss_cons _ _ _ _ _ (@ps_set _ _ (1) _ _ _ _ c__law_right.nd rfl (Or.inl rfl) (@pe_call _ _ _ _ _ _ _ _ _ _ _ _ _ _ _ _ G__law_made (hr.mono (by decide)) (by rfl) T.m__law_made T.F__law_made.kp T.b__law_made .nil pass0 (@pa_c _ _ _ _ _ (@pvN _ 0 _ _ (by rfl) (by trivial) (by decide) (by decide)) (@pa_nil _) (by rfl)) (by decide) (by rfl) (by rfl)) (by rfl) (by trivial)) (@pss_cons _ _ _ _ _ (@ps_set _ _ (2) _ _ _ _ c__law_right.nd rfl (Or.inl rfl) (@pe_callB _ _ _ _ _ _ _ ("repr") _ (call_qRepX hr.gd hr.units) (by rfl) T.z_repr (by decide +kernel) (@pa_c _ _ _ _ _ (@pvN _ 0 _ _ (by rfl) (by trivial) (by decide) (by decide)) (@pa_nil _) (by rfl)) (by decide) (by decide) (by rfl) (by rfl)) (by rfl) (by trivial)) (@pss_cons _ _ _ _ _ (@ps_set _ _ (3) _ _ _ _ c__law_right.nd rfl (Or.inl rfl) (@pe_call _ _ _ _ _ _ _ _ _ _ _ _ _ _ _ _ G__law_kind (hr.mono (by decide)) (by rfl) T.m__law_kind T.F__law_kind.kp T.b__law_kind .nil pass0 (@pa_c _ _ _ _ _ (@pvN _ 0 _ _ (by rfl) (by trivial) (by decide) (by decide)) (@pa_nil _) (by rfl)) (by decide) (by rfl) (by rfl)) (by rfl) (by trivial)) (@pss_cons _ _ _ _ _ (@ps_set _ _ (4) _ _ _ _ c__law_right.nd rfl (Or.inl rfl) (@pe_call _ _ _ _ _ _ _ _ _ _ _ _ _ _ _ _ G_move_of (hr.mono (by decide)) (by rfl) T.m_move_of T.F_move_of.kp T.b_move_of .nil pass0 (@pa_c _ _ _ _ _ (@pvN _ 0 _ _ (by rfl) (by trivial) (by decide) (by decide)) (@pa_nil _) (by rfl)) (by decide) (by rfl) (by rfl)) (by rfl) (by trivial)) (@pss_cons _ _ _ _ _ (@ps_for _ _ _ _ _ _ _ _ PassesOwn.never rfl (@pi_seq _ _ _ _ (@pe_qLst _ _ _ _ (@pa_c _ _ _ _ _ (@pvN _ 1 _ _ (by rfl) (by trivial) (by decide) (by decide)) (@pa_c _ _ _ _ _ (@pvN _ 4 _ _ (by rfl) (by trivial) (by decide) (by decide)) (@pa_c _ _ _ _ _ (@pe_call _ _ _ _ _ _ _ _ _ _ _ _ _ _ _ _ G_move_of (hr.mono (by decide)) (by rfl) T.m_move_of T.F_move_of.kp T.b_move_of .nil pass0 (@pa_c _ _ _ _ _ (@pe_nMethD _ _ _ _ _ _ _ _ _ _ _ _ _ (@pvN _ 4 _ _ (by rfl) (by trivial) (by decide) (by decide)) MD_told (hr.mono (by decide)) pass0 (by rfl)) (@pa_nil _) (by rfl)) (by decide) (by rfl) (by rfl)) (@pa_nil _) (by rfl)) (by rfl)) (by rfl)))) (@pg_name _ _ (5) _ c__law_right.nd rfl (Or.inl rfl) (by trivial)) (@pss_one _ _ _ (@ps_if _ _ _ _ _ _ _ _ (PW.pt (@pw_or _ _ _ _ _ _ _ (@pt_not _ _ _ _ (@pt_valN _ _ _ (@pe_callB _ _ _ _ _ _ _ ("isinstance") _ (call_nIsK (K:=K) rfl) (by rfl) T.z_isinstance (by decide +kernel) (@pa_c _ _ _ _ _ (@pvN _ 5 _ _ (by rfl) (by trivial) (by decide) (by decide)) (@pa_c _ _ _ _ _ (@pe_glob _ _ (.ref t.a_Move) _ _ (by rfl) T.m_Move rfl (by decide)) (@pa_nil _) (by rfl)) (by rfl)) (by decide) (by decide) (by rfl) (by rfl)) (by intros;rfl))) (@pw_or1 _ _ _ _ (@pt_cmpRN _ _ _ _ _ _ _ _ (op_qNeX hr.units) (@pe_call _ _ _ _ _ _ _ _ _ _ _ _ _ _ _ _ G__law_kind (hr.mono (by decide)) (by rfl) T.m__law_kind T.F__law_kind.kp T.b__law_kind .nil pass0 (@pa_c _ _ _ _ _ (@pe_nMethD _ _ _ _ _ _ _ _ _ _ _ _ _ (@pvN _ 5 _ _ (by rfl) (by trivial) (by decide) (by decide)) MD_told (hr.mono (by decide)) pass0 (by rfl)) (@pa_nil _) (by rfl)) (by decide) (by rfl) (by rfl)) (@pe_call _ _ _ _ _ _ _ _ _ _ _ _ _ _ _ _ G__law_kind (hr.mono (by decide)) (by rfl) T.m__law_kind T.F__law_kind.kp T.b__law_kind .nil pass0 (@pa_c _ _ _ _ _ (@pvN _ 0 _ _ (by rfl) (by trivial) (by decide) (by decide)) (@pa_nil _) (by rfl)) (by decide) (by rfl) (by rfl)) (nomark _))))) (@pss_one _ _ _ (@ps_ret _ _ _ _ (@pe_bl _ _ _ _))) (@pss_nil _))) (by intros;rfl)) (@pss_cons _ _ _ _ _ (@ps_if _ _ _ _ _ _ _ _ (@pt_cmpRN _ _ _ _ _ _ _ _ op_nIn (@pe_ix _ _ _ _ _ _ _ ix_q (@pvN _ 0 _ _ (by rfl) (by trivial) (by decide) (by decide)) (@pe_int _ _ _ _) (fun _ _=>rfl)) (@pe_qLst _ _ _ _ (@pa_c _ _ _ _ _ (@pe_str _ _ _ _) (@pa_c _ _ _ _ _ (@pe_str _ _ _ _) (@pa_nil _) (by rfl)) (by rfl))) (by with_unfolding_all rfl)) (@pss_cons _ _ _ _ _ (@ps_set _ _ (6) _ _ _ _ c__law_right.nd rfl (Or.inl rfl) (@pe_nMethD _ _ _ _ _ _ _ _ _ _ _ _ _ (@pvN _ 4 _ _ (by rfl) (by trivial) (by decide) (by decide)) MD_told (hr.mono (by decide)) pass0 (by rfl)) (by rfl) (by trivial)) (@pss_cons _ _ _ _ _ (@ps_expr _ _ _ _ (@pe_bm _ _ _ _ _ _ _ _ _ _ _ _ PySem.F.plainAttrs_list PySem.F.slot_list_append PySem.F.type_list_append mt_append (@pe_ix _ _ _ _ _ _ _ ix_q (@pvN _ 6 _ _ (by rfl) (by trivial) (by decide) (by decide)) (@pe_int _ _ _ _) (fun _ _=>rfl)) (@pa_c _ _ _ _ _ (@pe_int _ _ _ _) (@pa_nil _) (by rfl)) (by rfl) (by rfl) (by rfl) (by rfl) (by rfl)) (by rfl)) (@pss_cons _ _ _ _ _ (@ps_for _ _ _ _ _ _ _ _ PassesOwn.never rfl (@pi_seq _ _ _ _ (@pe_slice _ _ _ _ _ _ _ _ _ _ sl_n (@pe_ix _ _ _ _ _ _ _ ix_q (@pvN _ 6 _ _ (by rfl) (by trivial) (by decide) (by decide)) (@pe_int _ _ _ _) (fun _ _=>rfl)) (@po_none _) (@po_some _ _ _ (@pe_un _ _ _ _ _ _ un_negN (@pe_int _ _ _ _))))) (@pg_name _ _ (5) _ c__law_right.nd rfl (Or.inl rfl) (by trivial)) (@pss_one _ _ _ (@ps_if _ _ _ _ _ _ _ _ (PW.pt (@pw_and _ _ _ _ _ _ _ (@pt_cmpRN _ _ _ _ _ _ _ _ (op_qEq hr.units) (@pe_ix _ _ _ _ _ _ _ ix_q (@pvN _ 0 _ _ (by rfl) (by trivial) (by decide) (by decide)) (@pe_int _ _ _ _) (fun _ _=>rfl)) (@pe_str _ _ _ _) (nomark _)) (@pw_and1 _ _ _ _ (@pt_cmpRN _ _ _ _ _ _ _ _ op_nIn (@pe_ix _ _ _ _ _ _ _ ix_q (@pvN _ 5 _ _ (by rfl) (by trivial) (by decide) (by decide)) (@pe_int _ _ _ _) (fun _ _=>rfl)) (@pe_qLst _ _ _ _ (@pa_c _ _ _ _ _ (@pe_str _ _ _ _) (@pa_c _ _ _ _ _ (@pe_str _ _ _ _) (@pa_nil _) (by rfl)) (by rfl))) (by with_unfolding_all rfl))))) (@pss_one _ _ _ (@ps_expr _ _ _ _ (@pe_bm _ _ _ _ _ _ _ _ _ _ _ _ PySem.F.plainAttrs_list PySem.F.slot_list_append PySem.F.type_list_append mt_append (@pe_ix _ _ _ _ _ _ _ ix_q (@pvN _ 5 _ _ (by rfl) (by trivial) (by decide) (by decide)) (@pe_int _ _ _ _) (fun _ _=>rfl)) (@pa_c _ _ _ _ _ (@pe_int _ _ _ _) (@pa_nil _) (by rfl)) (by rfl) (by rfl) (by rfl) (by rfl) (by rfl)) (by rfl))) (@pss_nil _))) (by intros;rfl)) (@pss_cons _ _ _ _ _ (@ps_if _ _ _ _ _ _ _ _ (PW.pt (@pw_and _ _ _ _ _ _ _ (@pt_cmpRN _ _ _ _ _ _ _ _ (op_qEq hr.units) (@pe_ix _ _ _ _ _ _ _ ix_q (@pvN _ 0 _ _ (by rfl) (by trivial) (by decide) (by decide)) (@pe_int _ _ _ _) (fun _ _=>rfl)) (@pe_str _ _ _ _) (nomark _)) (@pw_and1 _ _ _ _ (@pt_cmpRN _ _ _ _ _ _ _ _ (op_qNeX hr.units) (@pe_ix _ _ _ _ _ _ _ ix_q (@pvN _ 0 _ _ (by rfl) (by trivial) (by decide) (by decide)) (@pe_int _ _ _ _) (fun _ _=>rfl)) (@pe_qLst _ _ _ _ (@pa_nil _)) (nomark _))))) (@pss_one _ _ _ (@ps_asg _ _ _ _ _ _ (@pe_non _ _ _) (@pg_sub _ _ _ _ _ _ _ (@pe_ix _ _ _ _ _ _ _ ix_q (@pvN _ 6 _ _ (by rfl) (by trivial) (by decide) (by decide)) (@pe_int _ _ _ _) (fun _ _=>rfl)) (@pe_int _ _ _ _) set_list (by intros;rfl)) (by rfl) (by rfl) (by rfl))) (@pss_nil _)) (@pss_cons _ _ _ _ _ (@ps_expr _ _ _ _ (@pe_bm _ _ _ _ _ _ _ _ _ _ _ _ PySem.F.plainAttrs_list PySem.F.slot_list_append PySem.F.type_list_append mt_append (@pe_ix _ _ _ _ _ _ _ ix_q (@pvN _ 0 _ _ (by rfl) (by trivial) (by decide) (by decide)) (@pe_int _ _ _ _) (fun _ _=>rfl)) (@pa_c _ _ _ _ _ (@pe_qTup _ _ _ _ _ (@pa_c _ _ _ _ _ (@pe_str _ _ _ _) (@pa_nil _) (by rfl))) (@pa_nil _) (by rfl)) (by rfl) (by rfl) (by rfl) (by rfl) (by rfl)) (by rfl)) (@pss_cons _ _ _ _ _ (@ps_set _ _ (7) _ _ _ _ c__law_right.nd rfl (Or.inl rfl) (@pe_call _ _ _ _ _ _ _ _ _ _ _ _ _ _ _ _ G__law_kind (hr.mono (by decide)) (by rfl) T.m__law_kind T.F__law_kind.kp T.b__law_kind .nil pass0 (@pa_c _ _ _ _ _ (@pe_nMethD _ _ _ _ _ _ _ _ _ _ _ _ _ (@pvN _ 4 _ _ (by rfl) (by trivial) (by decide) (by decide)) MD_told (hr.mono (by decide)) pass0 (by rfl)) (@pa_nil _) (by rfl)) (by decide) (by rfl) (by rfl)) (by rfl) (by trivial)) (@pss_cons _ _ _ _ _ (@ps_expr _ _ _ _ (@pe_bm0 _ _ _ _ _ _ _ _ _ PySem.F.plainAttrs_list PySem.F.slot_list_pop PySem.F.type_list_pop mt_nPop (@pe_ix _ _ _ _ _ _ _ ix_q (@pvN _ 0 _ _ (by rfl) (by trivial) (by decide) (by decide)) (@pe_int _ _ _ _) (fun _ _=>rfl)) (by rfl) (by rfl)) (by rfl)) (@pss_one _ _ _ (@ps_if _ _ _ _ _ _ _ _ (@pt_cmpRN _ _ _ _ _ _ _ _ (op_qNeX hr.units) (@pvN _ 7 _ _ (by rfl) (by trivial) (by decide) (by decide)) (@pvN _ 3 _ _ (by rfl) (by trivial) (by decide) (by decide)) (nomark _)) (@pss_one _ _ _ (@ps_ret _ _ _ _ (@pe_bl _ _ _ _))) (@pss_nil _)))))))))) (@pss_nil _)) (@pss_one _ _ _ (@ps_ret _ _ _ _ (@pe_andN _ _ _ _ _ _ _ (@pe_cmpR _ _ _ _ _ _ _ _ (op_qEqX hr.units) (@pe_call _ _ _ _ _ _ _ _ _ _ _ _ _ _ _ _ G__law_kind (hr.mono (by decide)) (by rfl) T.m__law_kind T.F__law_kind.kp T.b__law_kind .nil pass0 (@pa_c _ _ _ _ _ (@pe_nMethD _ _ _ _ _ _ _ _ _ _ _ _ _ (@pvN _ 4 _ _ (by rfl) (by trivial) (by decide) (by decide)) MD_told (hr.mono (by decide)) pass0 (by rfl)) (@pa_nil _) (by rfl)) (by decide) (by rfl) (by rfl)) (@pvN _ 3 _ _ (by rfl) (by trivial) (by decide) (by decide)) (nomark _)) (@pe_andN _ _ _ _ _ _ _ (@pe_cmpR _ _ _ _ _ _ _ _ (op_qEqX hr.units) (@pe_call _ _ _ _ _ _ _ _ _ _ _ _ _ _ _ _ G__law_kind (hr.mono (by decide)) (by rfl) T.m__law_kind T.F__law_kind.kp T.b__law_kind .nil pass0 (@pa_c _ _ _ _ _ (@pe_nMethD _ _ _ _ _ _ _ _ _ _ _ _ _ (@pvN _ 1 _ _ (by rfl) (by trivial) (by decide) (by decide)) MD_told (hr.mono (by decide)) pass0 (by rfl)) (@pa_nil _) (by rfl)) (by decide) (by rfl) (by rfl)) (@pvN _ 3 _ _ (by rfl) (by trivial) (by decide) (by decide)) (nomark _)) (@pe_one _ _ _ _ _ (@pe_cmpR _ _ _ _ _ _ _ _ (op_qEq hr.units) (@pe_callB _ _ _ _ _ _ _ ("repr") _ (call_qRepX hr.gd hr.units) (by rfl) T.z_repr (by decide +kernel) (@pa_c _ _ _ _ _ (@pvN _ 0 _ _ (by rfl) (by trivial) (by decide) (by decide)) (@pa_nil _) (by rfl)) (by decide) (by decide) (by rfl) (by rfl)) (@pvN _ 2 _ _ (by rfl) (by trivial) (by decide) (by decide)) (nomark _))))))))))))),?_⟩
  rw [show start ["_law_told", "_law_move", "_law_handed", "_law_before", "_law_again", "_law_one", "_law_found", "_law_due"] [r]=[some (r),none,none,none,none,none,none,none] from rfl]
  clear G__law_made G__law_kind G_move_of MD_told
  replace k:=fun (_:Unit)=>k
  have dat:∀ (H':Hp),TrF noF H' a r->datV H' 11 r=some (datT a):=fun H' h=>datV_le (h.dat ok) (by omega)
  have pl:plK 11 (datT a):=plK_le (plK_t ok) (by omega)
  replace dat:=fun (_:Unit)=>dat
  replace pl:=fun (_:Unit)=>pl
  replace ok:=fun (_:Unit)=>ok
  simp! only [and_true]
  rw [c_spMadeT]
  refine⟨noF,a,tr,ok (),hd,fun mv H1 e1 m1=>?_⟩
  have tr1:=tr.ext e1
  simp! only [and_true]
  refine use_repT tr1 (ok ()) hd wt ?_
  obtain⟨ds,hds⟩:∃ ds,datT a=.tuple ds:=by
   cases a with
   | mv x=>show ∃ ds,dTl x=.tuple ds;unfold dTl;split<;>exact⟨_,rfl⟩
   | ch l=>exact⟨_,rfl⟩
  refine⟨ds,hds,?_⟩
  replace hds:=fun (_:Unit)=>hds
  simp! only [and_true]
  rw [c_spKnd]
  refine⟨datT a,dat () _ tr1,pl (),fun bf H2 e2 hbf=>?_⟩
  have tr2:=tr1.ext e2
  simp! only [and_true]
  rw [c_spMvO]
  refine⟨noF,a,tr2,ok (),hd,lf,fun ag H3 e3 m3=>?_⟩
  have tr3:=tr2.ext e3
  have tr1':=fun (_:Unit)=>tr1
  have tr2':=fun (_:Unit)=>tr2
  clear tr tr1 tr2
  simp! only [and_true]
  refine use_toldT m3 (ok ()) hd fun r4 H4 e4 t4=>?_
  simp! only [and_true]
  rw [c_spMvO]
  refine⟨H3,a,t4,ok (),hd,lf,fun ag2 H5 e5 m5=>?_⟩
  simp! only [and_true]
  intro l6 H6 _ e6 h6
  have tr6:=tr3.ext (e4.trans (e5.trans e6))
  have hself:PyData.eqv (kindD (datT a)) (kindD (datT a))=true:=eqv_self _ _ (kind_plQ 11 _ (pl ()))
  replace hself:=fun (_:Unit)=>hself
  have kp:∀ H',Ext H6 H'->datV H' 24 bf=some (kindD (datT a)):=fun H' e=>datV_sub (fun b o hb=>(e3.trans (e4.trans (e5.trans (e6.trans e)))).at (newH_to hb).2) _ _ _ hbf
  have all:∀ y∈[mv,ag,ag2],∃ F,MvT t F H6 a y:=fun y hy=>by
   simp only [List.mem_cons,List.not_mem_nil,or_false] at hy
   rcases hy with rfl|rfl|rfl
   ·exact⟨_,m1.ext (e2.trans (e3.trans (e4.trans (e5.trans e6))))⟩
   ·exact⟨_,m3.ext (e4.trans (e5.trans e6))⟩
   ·exact⟨_,m5.ext e6⟩
  replace all:=fun (_:Unit)=>all
  clear t4
  simp! only [and_true]
  refine for_lst (xs:=[mv,ag,ag2]) (fun i σ H'=>∃ v5:Option V,σ=[some r,some mv,some (.str (tupleText (PyData.shownAll ds))),some bf,some ag,v5,none,none]∧Ext H6 H') ⟨none,rfl,Ext.refl _⟩ (fun i σ H' _ ⟨_,_,e⟩=>e.at h6) ?_ ?_
  ·rintro i y _ H7 hi ⟨v5,rfl,e7⟩
   obtain⟨F,my⟩:=all () y (List.mem_of_getElem? hi)
   have my7:=my.ext e7
   obtain⟨v,j,dx,fs,rfl,hj,hv⟩:=my7.cls (ok ())
   obtain⟨i1,i2⟩:=isM10 T hj
   have tr7:=tr6.ext e7
   clear kp hi
   simp! only [↓m_kBody]
   refine use_isK hv i1 i2 ?_
   simp! only [and_true]
   refine use_toldT my7 (ok ()) hd fun r8 H8 e8 t8=>?_
   simp! only [and_true]
   rw [c_spKnd]
   refine⟨datT a,datV_le (t8.dat (ok ())) (by omega),pl (),fun y9 H9 e9 h9=>?_⟩
   have tr9:=tr7.ext (e8.trans e9)
   simp! only [and_true]
   rw [c_spKnd]
   refine⟨datT a,dat () _ tr9,pl (),fun y10 H10 e10 h10=>?_⟩
   refine use_eqX 24 (by decide) (datV_sub (fun b o hb=>e10.at (newH_to hb).2) _ _ _ h9) (datV_sub (fun b o hb=>(newH_to hb).2) _ _ _ h10) ?_
   rw [hself ()]
   simp! only [and_true]
   exact⟨_,rfl,e7.trans (e8.trans (e9.trans e10))⟩
  rintro _ H7 ⟨v5,rfl,e7⟩
  have tr7:=tr6.ext e7
  have m37:=m3.ext (e4.trans (e5.trans (e6.trans e7)))
  have m17:=m1.ext (e2.trans (e3.trans (e4.trans (e5.trans (e6.trans e7)))))
  have e07:=e1.trans (e2.trans (e3.trans (e4.trans (e5.trans (e6.trans e7)))))
  have e27:=e3.trans (e4.trans (e5.trans (e6.trans e7)))
  clear kp all m5 tr6 h6 tr3 m1 m3
  have keep:∀ b o,newH H2 H1 b=some o->H7 b=some o:=fun b o hb=>e27.at (newH_to hb).2
  replace keep:=fun (_:Unit)=>keep
  replace hbf:=fun (_:Unit)=>hbf
  replace tr7:=fun (_:Unit)=>tr7
  replace m37:=fun (_:Unit)=>m37
  replace m17:=fun (_:Unit)=>m17
  simp only [m_tSeq]
  refine if_gen (fun σ' H'=>∃ v5 v6 v7:Option V,σ'=[some r,some mv,some (.str (tupleText (PyData.shownAll ds))),some bf,some ag,v5,v6,v7]∧Ext H7 H') (fun nx' hn=>?_) ?_
  ·replace hn:=fun (_:Unit)=>hn
   cases a with
   | mv x=>
    have tr':=tr7 ()
    unfold TrF at tr'
    obtain⟨p,rfl,⟨h3,hp⟩|⟨h3,l,hp,_,hl⟩⟩:=tr'
    ·have okx:=ok ()
     unfold okT at okx
     have n1:=wd_turn' okx.k h3
     have n2:=wd_chain okx.k
     have hin:=in_no okx.k h3
     simp! only [and_true]
     intro l8 H8 _ e8 h8
     have k2:=hn () _ H8 ⟨v5,none,none,rfl,e8⟩
     clear hn
     simp! only [and_true]
     exact⟨rfl,rfl⟩
    ·have okx:=ok ()
     unfold okT at okx
     have x9:=okx.m
     have hin:inV (V.str (Str.ofString "turn")) [V.str (Str.ofString "turn"),V.str (Str.ofString "chain")]=true:=by decide +kernel
     simp! only [and_true]
     intro l8 H8 _ e8 h8
     simp! only [and_true]
     refine⟨rfl,rfl,?_⟩
     refine use_toldT ((m37 ()).ext e8) (ok ()) hd fun rf H9 e9 t9=>?_
     unfold TrF at t9
     obtain⟨pf,rfl,⟨h3',_⟩|⟨_,lf9,hpf,hfr,hlf⟩⟩:=t9
     ·exact absurd h3 h3'
     have hp9:=(e8.trans e9).at hp
     have hl9:=(e8.trans e9).at hl
     have hxl:(x.2.map oV).length < 5000:=by rw [List.length_map];omega
     have hxl':=lt5000 hxl
     clear h8
     simp! only [and_true]
     have np:pf ≠ lf9:=fun z=>by rw [z,hlf] at hpf;cases hpf
     have nq:l ≠ lf9:=fun z=>by rw [z] at hl;rw [e8.at hl] at hfr;cases hfr
     have nt:p ≠ lf9:=fun z=>by rw [z] at hp;rw [e8.at hp] at hfr;cases hfr
     have e8u:Ext H8 (upd H9 lf9 (.lst (x.2.map oV++[V.int 0]))):=e9.put hfr
     have hpfu:(upd H9 lf9 (.lst (x.2.map oV++[V.int 0]))) pf=some (.tup [.str (Str.ofString "turn"),.ref lf9]):=by rw [upd_ne np];exact hpf
     have hlfu:(upd H9 lf9 (.lst (x.2.map oV++[V.int 0]))) lf9=some (.lst (x.2.map oV++[V.int 0])):=upd_same
     refine⟨lt5000 (by omega),?_⟩
     generalize upd H9 lf9 (.lst (x.2.map oV++[V.int 0]))=Hu at e8u hpfu hlfu
     have hpu0:=e8u.at (e8.at hp)
     have hlu0:=e8u.at (e8.at hl)
     clear hp9 hl9 hpf hlf
     simp! only [and_true]
     intro l10 H10 _ e10 h10
     rw [cut_last (n:=x.2.length) (by rw [List.length_append,List.length_map];rfl),List.take_append_of_le_length (by rw [List.length_map];exact Nat.le_refl _),List.take_of_length_le (by rw [List.length_map];exact Nat.le_refl _)] at h10
     have hp10:=e10.at hpu0
     clear hpfu hlfu
     simp! only [and_true]
     refine for_lst (xs:=x.2.map oV) (fun i σ H'=>∃ v5:Option V,σ=[some (V.ref p),some mv,some (V.str (tupleText (PyData.shownAll ds))),some bf,some ag,v5,some (V.ref pf),none]∧Ext H10 H') ⟨v5,rfl,Ext.refl _⟩ (fun i σ H' _ ⟨_,_,e⟩=>e.at h10) ?_ ?_
     ·rintro i y _ H11 hi ⟨v5',rfl,e11⟩
      have hp11:=e11.at hp10
      clear hi
      simp! only [↓m_kBody]
      exact⟨_,rfl,e11⟩
     ·rintro _ Hm ⟨v5',rfl,e11⟩
      have hpm:=e11.at hp10
      have hlm:=(e10.trans e11).at hlu0
      have e7m:=e8.trans (e8u.trans (e10.trans e11))
      have hl2:∃ o,H2 l=some o:=by
       have h:=tr2' ()
       unfold TrF at h
       obtain⟨p',hp',⟨h3',_⟩|⟨_,l',q1,_,q2⟩⟩:=h
       ·exact absurd h3 h3'
       ·cases hp'
        have:=e27.at q1
        rw [hp] at this
        cases this
        exact⟨_,q2⟩
      have hl1:∃ o,H1 l=some o:=by
       have h:=tr1' ()
       unfold TrF at h
       obtain⟨p',hp',⟨h3',_⟩|⟨_,l',q1,_,q2⟩⟩:=h
       ·exact absurd h3 h3'
       ·cases hp'
        have:=(e2.trans e27).at q1
        rw [hp] at this
        cases this
        exact⟨_,q2⟩
      have hysz:x.2.length < sizeLine:=lt5000 (by omega)
      clear hp10 hlu0 h10
      simp! only [and_true]
      intro ps H12 _ e12 h12
      have hp12:=e12.at hpm
      have hl12:=e12.at hlm
      simp! only [and_true]
      have hF2:∃ o,H2 l=some o:=hl2
      obtain⟨o2,ho2⟩:=hF2
      have mq:MvT t H2 (upd H12 l (.lst (x.2.map oV++[V.ref ps]))) _ ag:=MvT.putH (o':=.lst (x.2.map oV++[V.ref ps])) ho2 hl12 ((m37 ()).ext (e7m.trans e12))
      have npl:p ≠ l:=fun z=>by rw [z,hlm] at hpm;cases hpm
      have hpu:(upd H12 l (.lst (x.2.map oV++[V.ref ps]))) p=some (.tup [.str (Str.ofString "turn"),.ref l]):=by rw [upd_ne npl];exact hp12
      have hlu:(upd H12 l (.lst (x.2.map oV++[V.ref ps]))) l=some (.lst (x.2.map oV++[V.ref ps])):=upd_same
      have oth:∀ b u,b ≠ l->H12 b=some u->(upd H12 l (.lst (x.2.map oV++[V.ref ps]))) b=some u:=fun b u hb hu=>by rw [upd_ne hb];exact hu
      replace oth:=fun (_:Unit)=>oth
      generalize upd H12 l (.lst (x.2.map oV++[V.ref ps]))=H13 at mq hpu hlu oth
      clear hp12 hl12 h12
      refine use_toldT mq (ok ()) hd fun r14 H14 e14 t14=>?_
      have hp14:=e14.at hpu
      have hl14:=e14.at hlu
      simp! only [and_true]
      rw [c_spKnd]
      refine⟨_,datV_le (t14.dat (ok ())) (by omega),pl (),fun du H15 e15 h15=>?_⟩
      have hp15:=e15.at hp14
      have hl15:=e15.at hl14
      clear hpu hlu
      simp! only [and_true]
      refine use_pop hl15 ?_
      have n7:∀ b u,b ≠ l->H7 b=some u->(upd H15 l (.lst (x.2.map oV))) b=some u:=fun b u hb hu=>by
       rw [upd_ne hb]
       exact(e14.trans e15).at (oth () b u hb ((e7m.trans e12).at hu))
      have e716:Ext H7 (upd H15 l (.lst (x.2.map oV))):=ext_back hl n7 upd_same
      have du16:datV (upd H15 l (.lst (x.2.map oV))) 24 du=some (kindD (datT _)):=datV_sub (fun b o hb=>by
       have hb':=newH_to hb
       have hbl:b ≠ l:=fun z=>by rw [z,hl14] at hb';cases hb'.1
       rw [upd_ne hbl];exact hb'.2) _ _ _ h15
      have bf16:datV (upd H15 l (.lst (x.2.map oV))) 24 bf=some (kindD (datT _)):=datV_sub (fun b o hb=>by
       have hb':=newH_to hb
       obtain⟨o1,ho1⟩:=hl1
       have hbl:b ≠ l:=fun z=>by rw [z,ho1] at hb';cases hb'.1
       exact n7 b o hbl (keep () b o hb)) _ _ _ (hbf ())
      generalize upd H15 l (.lst (x.2.map oV))=H16 at e716 du16 bf16
      simp! only [and_true]
      refine use_eqX 24 (by decide) du16 bf16 ?_
      rw [hself ()]
      have k2:=hn () _ H16 ⟨v5',some (V.ref pf),some du,rfl,e716⟩
      clear hn
      simp! only [and_true]
   | ch l=>
    have tr':=tr7 ()
    unfold TrF at tr'
    obtain⟨p,q,rs,rfl,hp,_,hq,hrs⟩:=tr'
    have okx:=ok ()
    unfold okT at okx
    have rl:rs.length≤40:=by rw [hrs.al.1];exact okx.1
    have hin:inV (V.str (Str.ofString "chain")) [V.str (Str.ofString "turn"),V.str (Str.ofString "chain")]=true:=by decide +kernel
    simp! only [and_true]
    intro l8 H8 _ e8 h8
    simp! only [and_true]
    refine⟨rfl,rfl,?_⟩
    refine use_toldT ((m37 ()).ext e8) (ok ()) hd fun rf H9 e9 t9=>?_
    unfold TrF at t9
    obtain⟨pf,qf,fs,rfl,hpf,hfr,hqf,hfs⟩:=t9
    have fl:fs.length≤40:=by rw [hfs.al.1];exact okx.1
    have ino:∀ y∈fs,InO H8 H9 40 y:=fun y hy=>by
     obtain⟨i,hi,rfl⟩:=List.getElem_of_mem hy
     have hi':i < l.length:=by rw [←hfs.al.1];exact hi
     exact InO.of (hfs.al.2 i l[i] fs[i] (List.getElem?_eq_getElem hi') (List.getElem?_eq_getElem hi)) (okx.2.mem _ (List.getElem_mem hi'))
    have hfl':fs.length < sizeLine:=lt5000 (by omega)
    replace ino:=fun (_:Unit)=>ino
    have hrs':=fun (_:Unit)=>hrs
    clear h8 hrs hfs
    have hp9:=(e8.trans e9).at hp
    have np:pf ≠ qf:=fun z=>by rw [z,hqf] at hpf;cases hpf
    have e8u:Ext H8 (upd H9 qf (.lst (fs++[V.int 0]))):=e9.put hfr
    have hpfu:(upd H9 qf (.lst (fs++[V.int 0]))) pf=some (.tup [.str (Str.ofString "chain"),.ref qf]):=by rw [upd_ne np];exact hpf
    have hqfu:(upd H9 qf (.lst (fs++[V.int 0]))) qf=some (.lst (fs++[V.int 0])):=upd_same
    have inu:∀ y∈fs,InO H8 (upd H9 qf (.lst (fs++[V.int 0]))) 41 y:=fun y hy=>(ino () y hy).put hqf (by rw [List.length_append];show fs.length+1≤41;omega)
    replace inu:=fun (_:Unit)=>inu
    simp! only [and_true]
    generalize upd H9 qf (.lst (fs++[V.int 0]))=Hu at e8u hpfu hqfu inu
    have hpu0:=e8u.at (e8.at hp)
    clear hp9 hpf hqf ino
    simp! only [and_true]
    intro l10 H10 hn10 e10 h10
    rw [cut_last (n:=fs.length) (by rw [List.length_append];rfl),List.take_append_of_le_length (Nat.le_refl _),List.take_of_length_le (Nat.le_refl _)] at h10
    have eF:Ext (upd H8 l10 (.lst fs)) H10:=ext_upd (e8u.trans e10) h10
    have q10:QfI H10 41 qf:=⟨_,e10.at hqfu,by rw [List.length_append];exact Nat.succ_pos _,by rw [List.length_append];show fs.length+1≤41;omega⟩
    have fqf:(upd H8 l10 (.lst fs)) qf=none:=by rw [upd_ne (fun z=>by rw [z,hn10] at hqfu;cases hqfu)];exact hfr
    have in10:∀ y∈fs,InO (upd H8 l10 (.lst fs)) H10 41 y:=fun y hy=>((inu () y hy).reF hn10).ext e10 (Nat.le_refl _)
    have hF10:(upd H8 l10 (.lst fs)) l10=some (.lst fs):=upd_same
    have eF8:Ext H8 (upd H8 l10 (.lst fs)):=(Ext.refl _).put (by have:=hn10;cases h:H8 l10 with|none=>rfl|some o=>rw [e8u.at h] at this;cases this)
    generalize upd H8 l10 (.lst fs)=F at eF fqf in10 hF10 eF8
    have hpf10:=e10.at hpfu
    have hp10:=e10.at hpu0
    clear hpfu hqfu hpu0 h10
    replace in10:=fun (_:Unit)=>in10
    simp! only [and_true]
    refine for_lst (xs:=fs) (fun i σ H'=>(∃ v5:Option V,σ=[some (V.ref p),some mv,some (V.str (tupleText (PyData.shownAll ds))),some bf,some ag,v5,some (V.ref pf),none])∧Ext F H'∧(∀ y∈fs,InO F H' (41+i) y)∧H' pf=some (.tup [.str (Str.ofString "chain"),.ref qf])∧QfI H' (41+i) qf) ⟨⟨v5,rfl⟩,eF,in10 (),hpf10,q10⟩ (fun i σ H' _ h=>h.2.1.at hF10) ?_ ?_
    ·rintro i y _ H11 hi ⟨⟨v5',rfl⟩,e11,in11,hpf11,q11⟩
     have hp11:=(eF8.trans e11).at (e8.at hp)
     have hy:=in11 y (List.mem_of_getElem? hi)
     have hi40:i < 40:=by have:=(List.getElem?_eq_some_iff.mp hi).1;omega
     replace in11:=fun (_:Unit)=>in11
     clear hi hp10 eF hpf10
     obtain⟨py,rfl,⟨w,xs,hpy,hiw⟩|⟨w,qy,us,hpy,hiw,hf,hqy,hl⟩⟩:=hy
     ·simp! only [↓m_kBody]
      intro l12 H12 _ e12 h12
      simp! only [and_true]
      exact⟨rfl,rfl,⟨_,rfl⟩,e11.trans e12,fun y hy=>(in11 () y hy).ext e12 (by omega),q11.ext e12 (by omega)⟩
     ·simp! only [↓m_kBody]
      intro l12 H12 _ e12 h12
      have hpy12:=e12.at hpy
      have hqy12:=e12.at hqy
      simp! only [and_true]
      have lu:(us++[V.int 0]).length=us.length+1:=by rw [List.length_append];rfl
      exact⟨rfl,rfl,lt5000 (by omega),⟨_,rfl⟩,(e11.trans e12).put hf,fun y hy=>((in11 () y hy).ext e12 (Nat.le_refl _)).put hqy12 (by omega),by rw [upd_ne (fun z=>by have:=e12.at hpf11;rw [z,hqy12] at this;cases this)];exact e12.at hpf11,(q11.ext e12 (Nat.le_refl _)).put (by omega) (by omega)⟩
    ·rintro _ Hm ⟨⟨v5',rfl⟩,e11,in11,hpfm,qm⟩
     have e8m:=eF8.trans e11
     have e7m:=e8.trans e8m
     have qq:F qf=none:=fqf
     clear in11 in10 eF hp10 hpf10 q10 inu hF10
     simp only [m_tSeq]
     refine if_gen (fun σ' H'=>σ'=[some (V.ref p),some mv,some (V.str (tupleText (PyData.shownAll ds))),some bf,some ag,v5',some (V.ref pf),none]∧Ext F H') (fun nx2 hn2=>?_) ?_
     ·replace hn2:=fun (_:Unit)=>hn2
      have hpm:=e7m.at hp
      simp! only [and_true]
      intro l12 H12 _ e12 h12
      have rs12:=TrFs.ext (e7m.trans e12) (hrs' ())
      have hq12:=(e7m.trans e12).at hq
      have hd3:deeps l+1≤4:=hd
      refine use_eqX 12 (by decide) (trs_dat (m:=11) hq12 rs12 okx.2 (by omega)) (d:=.list (datTs l)) (e:=.list []) ?_ ?_
      ·rw [m_datV_ref,h12];rfl
      generalize PyData.eqv (.list (datTs l)) (.list [])=bb
      cases bb with
      | true=>
       have k2:=hn2 () _ H12 ⟨rfl,e11.trans e12⟩
       clear hn2
       simp! only [and_true]
      | false=>
       obtain⟨zs,hz,hz0,hz1⟩:=qm
       have hz12:=e12.at hz
       have hpf12:=e12.at hpfm
       have k2:=fun zs'=>hn2 () _ (upd H12 qf (.lst zs')) ⟨rfl,(e11.trans e12).put fqf⟩
       clear hn2 hz hpfm
       simp! only [and_true]
       rw [show ixN zs.length 0=some 0 from by unfold ixN;simp [hz0]]
       exact k2 _
     rintro _ Hm ⟨rfl,e11⟩
     clear e8m e7m hpfm qm
     have e7m:=e8.trans (eF8.trans e11)
     have hpm:=e7m.at hp
     have hlm:=e7m.at hq
     have hl2:∃ o,H2 q=some o:=by
      have h:=tr2' ()
      unfold TrF at h
      obtain⟨p',q',rs',hp',q1,_,q2,_⟩:=h
      cases hp'
      have:=e27.at q1
      rw [hp] at this
      cases this
      exact⟨_,q2⟩
     have hl1:∃ o,H1 q=some o:=by
      have h:=tr1' ()
      unfold TrF at h
      obtain⟨p',q',rs',hp',q1,_,q2,_⟩:=h
      cases hp'
      have:=(e2.trans e27).at q1
      rw [hp] at this
      cases this
      exact⟨_,q2⟩
     have hysz:rs.length < sizeLine:=lt5000 (by omega)
     simp! only [and_true]
     intro ps H12 _ e12 h12
     have hp12:=e12.at hpm
     have hl12:=e12.at hlm
     simp! only [and_true]
     have hF2:∃ o,H2 q=some o:=hl2
     obtain⟨o2,ho2⟩:=hF2
     have mq:MvT t H2 (upd H12 q (.lst (rs++[V.ref ps]))) _ ag:=MvT.putH (o':=.lst (rs++[V.ref ps])) ho2 hl12 ((m37 ()).ext (e7m.trans e12))
     have npl:p ≠ q:=fun z=>by rw [z,hlm] at hpm;cases hpm
     have hpu:(upd H12 q (.lst (rs++[V.ref ps]))) p=some (.tup [.str (Str.ofString "chain"),.ref q]):=by rw [upd_ne npl];exact hp12
     have hlu:(upd H12 q (.lst (rs++[V.ref ps]))) q=some (.lst (rs++[V.ref ps])):=upd_same
     have oth:∀ b u,b ≠ q->H12 b=some u->(upd H12 q (.lst (rs++[V.ref ps]))) b=some u:=fun b u hb hu=>by rw [upd_ne hb];exact hu
     replace oth:=fun (_:Unit)=>oth
     generalize upd H12 q (.lst (rs++[V.ref ps]))=H13 at mq hpu hlu oth
     clear hp12 hl12 h12
     refine use_toldT mq (ok ()) hd fun r14 H14 e14 t14=>?_
     have hp14:=e14.at hpu
     have hl14:=e14.at hlu
     simp! only [and_true]
     rw [c_spKnd]
     refine⟨_,datV_le (t14.dat (ok ())) (by omega),pl (),fun du H15 e15 h15=>?_⟩
     have hp15:=e15.at hp14
     have hl15:=e15.at hl14
     clear hpu hlu
     simp! only [and_true]
     refine use_pop hl15 ?_
     have n7:∀ b u,b ≠ q->H7 b=some u->(upd H15 q (.lst rs)) b=some u:=fun b u hb hu=>by
      rw [upd_ne hb]
      exact(e14.trans e15).at (oth () b u hb ((e7m.trans e12).at hu))
     have e716:Ext H7 (upd H15 q (.lst rs)):=ext_back hq n7 upd_same
     have du16:datV (upd H15 q (.lst rs)) 24 du=some (kindD (datT _)):=datV_sub (fun b o hb=>by
      have hb':=newH_to hb
      have hbl:b ≠ q:=fun z=>by rw [z,hl14] at hb';cases hb'.1
      rw [upd_ne hbl];exact hb'.2) _ _ _ h15
     have bf16:datV (upd H15 q (.lst rs)) 24 bf=some (kindD (datT _)):=datV_sub (fun b o hb=>by
      have hb':=newH_to hb
      obtain⟨o1,ho1⟩:=hl1
      have hbl:b ≠ q:=fun z=>by rw [z,ho1] at hb';cases hb'.1
      exact n7 b o hbl (keep () b o hb)) _ _ _ (hbf ())
     generalize upd H15 q (.lst rs)=H16 at e716 du16 bf16
     simp! only [and_true]
     refine use_eqX 24 (by decide) du16 bf16 ?_
     rw [hself ()]
     have k2:=hn () _ H16 ⟨v5',some (V.ref pf),some du,rfl,e716⟩
     clear hn
     simp! only [and_true]
  rintro _ H8 ⟨v5,v6,v7,rfl,e8⟩
  have tr8:=(tr7 ()).ext e8
  have m38:=(m37 ()).ext e8
  have m18:=(m17 ()).ext e8
  simp! only [and_true]
  refine use_toldT m38 (ok ()) hd fun r9 H9 e9 t9=>?_
  simp! only [and_true]
  rw [c_spKnd]
  refine⟨datT a,datV_le (t9.dat (ok ())) (by omega),pl (),fun y10 H10 e10 h10=>?_⟩
  have bf10:datV H10 24 bf=some (kindD (datT a)):=datV_sub (fun b o hb=>(e8.trans (e9.trans e10)).at (keep () b o hb)) _ _ _ (hbf ())
  simp! only [and_true]
  refine use_eqX 24 (by decide) (datV_sub (fun b o hb=>(newH_to hb).2) _ _ _ h10) bf10 ?_
  rw [hself ()]
  have m110:=m18.ext (e9.trans e10)
  simp! only [and_true]
  refine use_toldT m110 (ok ()) hd fun r11 H11 e11 t11=>?_
  simp! only [and_true]
  rw [c_spKnd]
  refine⟨datT a,datV_le (t11.dat (ok ())) (by omega),pl (),fun y12 H12 e12 h12=>?_⟩
  have bf12:datV H12 24 bf=some (kindD (datT a)):=datV_sub (fun b o hb=>(e11.trans e12).at hb) _ _ _ bf10
  simp! only [and_true]
  refine use_eqX 24 (by decide) (datV_sub (fun b o hb=>(newH_to hb).2) _ _ _ h12) bf12 ?_
  rw [hself ()]
  have tr12:=tr8.ext (e9.trans (e10.trans (e11.trans e12)))
  have k2:=k () H12 (e07.trans (e8.trans (e9.trans (e10.trans (e11.trans e12)))))
  clear k
  simp! only [and_true]
  refine use_repT tr12 (ok ()) hd wt ⟨ds,hds (),?_⟩
  simp! only [and_true]
theorem kns_take{xs:List V}{n:Int}{H:Hp}{Q:VK}(h0:0≤n)(h1:n < xs.length)(q:newK (.tup (xs.take n.toNat)) H Q):kNST none (some n) H Q xs:=by
 obtain⟨k,rfl⟩:=Int.eq_ofNat_of_zero_le h0
 refine⟨fun e=>?_,?_⟩
 ·have:=e.2
  rw [HT.sIx_nat] at this
  omega
 ·rw [cut_none xs _ h0]
  exact q
theorem kns_drop{xs:List V}{n:Int}{H:Hp}{Q:VK}(h0:1≤n)(h1:n≤xs.length)(q:newK (.tup (xs.drop n.toNat)) H Q):kNST (some n) none H Q xs:=by
 obtain⟨k,rfl⟩:=Int.eq_ofNat_of_zero_le (show 0≤n by omega)
 refine⟨fun e=>?_,?_⟩
 ·have:=e.1
  rw [HT.sIx_nat] at this
  omega
 ·rw [cut_some xs _ (show (0:Int)≤(k:Int) by omega)]
  exact q
def BdV(H:Hp)(y:V):Prop:=WdV H y∧whB y=false∧nwB y=false∧(NoL H y∨∃ q,y=.ref q∧H q=some (.lst [.non]))
theorem bdv_b{H:Hp}{b:Bool}:BdV H (.bl b):=⟨.inr (.inr (.inl ⟨_,rfl⟩)),rfl,rfl,.inl ⟨.inr (.inr (.inl ⟨_,rfl⟩)),fun p xs h=>by cases h⟩⟩
theorem bdv_s{H:Hp}{z:Str}:BdV H (.str z):=⟨.inr (.inr (.inr (.inl ⟨_,rfl⟩))),rfl,rfl,.inl ⟨.inr (.inr (.inr (.inl ⟨_,rfl⟩))),fun p xs h=>by cases h⟩⟩
theorem bdv_t{H:Hp}{p:Addr}{xs:List V}(h:H p=some (.tup xs)):BdV H (.ref p):=⟨.inr (.inr (.inr (.inr (.inr (.inl ⟨_,_,rfl,h⟩))))),rfl,rfl,.inl ⟨.inr (.inr (.inr (.inr (.inr (.inl ⟨_,_,rfl,h⟩))))),fun p xs e e'=>by cases e;rw [h] at e';cases e'⟩⟩
theorem bdv_d{H:Hp}{p:Addr}{xs:List (Key × V)}(h:H p=some (.dK xs)):BdV H (.ref p):=⟨.inr (.inr (.inr (.inr (.inr (.inr ⟨_,_,rfl,h⟩))))),rfl,rfl,.inl ⟨.inr (.inr (.inr (.inr (.inr (.inr ⟨_,_,rfl,h⟩))))),fun p xs e e'=>by cases e;rw [h] at e';cases e'⟩⟩
theorem BdV.ext{H H':Hp}{y:V}(h:BdV H y)(e:Ext H H'):BdV H' y:=⟨h.1.ext e,h.2.1,h.2.2.1,by
 rcases h.2.2.2 with h|⟨q,h1,h2⟩
 ·exact .inl (h.ext e)
 ·exact .inr ⟨q,h1,e.at h2⟩⟩
theorem set_cut{y:V}:∀ {xs:List V}{j:Nat},j < xs.length->xs.set j y=xs.take j++y::xs.drop (j+1)
 | [],j,h=>by simp at h
 | x::xs,0,h=>rfl
 | x::xs,j+1,h=>by
  rw [List.set_cons_succ,List.take_succ_cons,List.drop_succ_cons,List.cons_append,set_cut (by simpa using h)]
def spSpp(t:Adr):Sp:=fun vs H Q E=>∃ (p:Addr) (c:Int),vs=[.ref p,.int c]∧(∃ (x:V) (xs:List V),H p=some (.tup (x::xs))∧0 < xs.length∧xs.length≤30∧0≤c∧∀ (p':Addr) (y:V) (j:Nat) (H':Hp),Ext H H'->j < xs.length->BdV H' y->H' p'=some (.tup (x::xs.set j y))->Q (.ref p') H')
theorem c_spSpp(t:Adr)(p:Addr)(c:Int)(H:Hp)(Q:VK)(E:XK):spSpp t [.ref p,.int c] H Q E=(∃ (x:V) (xs:List V),H p=some (.tup (x::xs))∧0 < xs.length∧xs.length≤30∧0≤c∧∀ (p':Addr) (y:V) (j:Nat) (H':Hp),Ext H H'->j < xs.length->BdV H' y->H' p'=some (.tup (x::xs.set j y))->Q (.ref p') H'):=spx2 (f:=fun (p:Addr) (c:Int)=>[.ref p,.int c]) (fun _ _ _ _ h=>by cases h;exact⟨rfl,rfl⟩) p c
theorem l_spSpp(t:Adr){vs:List V}{H:Hp}{Q:VK}{E:XK}(h:spSpp t vs H Q E):vs.length=2:=spl2 h fun _ _=>rfl
theorem ok__law_spoilt_part(T:Tx K mg t):FnOk P t.w K mg base CX0 1 t.a__law_spoilt_part t.d__law_spoilt_part ["_law_told", "_law_cell"] (spSpp t):=by
 refine T.F__law_spoilt_part.ok c__law_spoilt_part (fun vs H Q E h=>l_spSpp _ h) (fun cdv A outer s H vs Q E hr h=>?_)
 ·obtain⟨p,c,rfl,x,xs,hp,h0,h30,hc,k⟩:=h
  refine⟨_,(@pss_cons _ _ _ _ _ (@ps_set _ _ (2) _ _ _ _ c__law_spoilt_part.nd rfl (Or.inl rfl) (@pe_op _ _ _ _ _ _ _ _ on_add (@pe_int _ _ _ _) (@pe_op _ _ _ _ _ _ _ _ on_mod (@pvN _ 1 _ _ (by rfl) (by trivial) (by decide) (by decide)) (@pe_op _ _ _ _ _ _ _ _ on_sub (@pe_callB _ _ _ _ _ _ _ ("len") _ call_qLen (by rfl) T.z_len (by decide +kernel) (@pa_c _ _ _ _ _ (@pvN _ 0 _ _ (by rfl) (by trivial) (by decide) (by decide)) (@pa_nil _) (by rfl)) (by decide) (by decide) (by rfl) (by rfl)) (@pe_int _ _ _ _)))) (by rfl) (by trivial)) (@pss_cons _ _ _ _ _ (@ps_set _ _ (3) _ _ _ _ c__law_spoilt_part.nd rfl (Or.inl rfl) (@pe_qLst _ _ _ _ (@pa_c _ _ _ _ _ (@pe_bl _ _ _ _) (@pa_c _ _ _ _ _ (@pe_str _ _ _ _) (@pa_c _ _ _ _ _ (@pe_qTup _ _ _ _ _ (@pa_nil _)) (@pa_c _ _ _ _ _ (@pe_qLst _ _ _ _ (@pa_c _ _ _ _ _ (@pe_non _ _ _) (@pa_nil _) (by rfl))) (@pa_c _ _ _ _ _ (@pe_nDNew _ _) (@pa_c _ _ _ _ _ (@pe_str _ _ _ _) (@pa_c _ _ _ _ _ (@pe_qTup _ _ _ _ _ (@pa_c _ _ _ _ _ (@pe_int _ _ _ _) (@pa_nil _) (by rfl))) (@pa_c _ _ _ _ _ (@pe_bl _ _ _ _) (@pa_c _ _ _ _ _ (@pe_str _ _ _ _) (@pa_nil _) (by rfl)) (by rfl)) (by rfl)) (by rfl)) (by rfl)) (by rfl)) (by rfl)) (by rfl)) (by rfl))) (by rfl) (by trivial)) (@pss_one _ _ _ (@ps_ret _ _ _ _ (@pe_op _ _ _ _ _ _ _ _ op_nCatT (@pe_op _ _ _ _ _ _ _ _ op_nCatT (@pe_slice _ _ _ _ _ _ _ _ _ _ sl_nT (@pvN _ 0 _ _ (by rfl) (by trivial) (by decide) (by decide)) (@po_none _) (@po_some _ _ _ (@pvN _ 2 _ _ (by rfl) (by trivial) (by decide) (by decide)))) (@pe_qTup _ _ _ _ _ (@pa_c _ _ _ _ _ (@pe_ix _ _ _ _ _ _ _ ix_q (@pvN _ 3 _ _ (by rfl) (by trivial) (by decide) (by decide)) (@pe_op _ _ _ _ _ _ _ _ on_mod (@pe_op _ _ _ _ _ _ _ _ on_fdiv (@pvN _ 1 _ _ (by rfl) (by trivial) (by decide) (by decide)) (@pe_int _ _ _ _)) (@pe_int _ _ _ _)) (fun _ _=>rfl)) (@pa_nil _) (by rfl)))) (@pe_slice _ _ _ _ _ _ _ _ _ _ sl_nT (@pvN _ 0 _ _ (by rfl) (by trivial) (by decide) (by decide)) (@po_some _ _ _ (@pe_op _ _ _ _ _ _ _ _ on_add (@pvN _ 2 _ _ (by rfl) (by trivial) (by decide) (by decide)) (@pe_int _ _ _ _))) (@po_none _))))))),?_⟩
  rw [show start ["_law_told", "_law_cell", "_law_at", "_law_some"] [.ref p,.int c]=[some (.ref p),some (.int c),none,none] from rfl]
  replace k:=fun (_:Unit)=>k
  obtain⟨j,hj,hjl⟩:∃ j:Nat,(1+c % (((xs.length+1:Nat):Int) - 1))=((j+1:Nat):Int)∧j < xs.length:=by
   have hm:=Int.emod_nonneg c (b:=((xs.length+1:Nat):Int) - 1) (by omega)
   have hm2:=Int.emod_lt_of_pos c (b:=((xs.length+1:Nat):Int) - 1) (by omega)
   exact⟨(c % (((xs.length+1:Nat):Int) - 1)).toNat,by omega,by omega⟩
  have pos:0 < (((xs.length+1:Nat):Int) - 1):=by omega
  replace pos:=fun (_:Unit)=>pos
  simp! only [and_true]
  refine⟨pos (),?_⟩
  clear hj
  intro l1 H1 hp1 e1 h1
  clear hp1
  simp! only [and_true]
  intro l2 H2 hp2 e2 h2
  have h12:=e2.at h1
  clear hp2 h1
  simp! only [and_true]
  intro l3 H3 hp3 e3 h3
  have h13:=e3.at h12
  have h23:=e3.at h2
  clear hp3 h12 h2
  simp! only [and_true]
  intro l4 H4 hp4 e4 h4
  have h14:=e4.at h13
  have h24:=e4.at h23
  have h34:=e4.at h3
  clear hp4 h13 h23 h3
  simp! only [and_true]
  intro l5 H5 hp5 e5 h5
  have h15:=e5.at h14
  have h25:=e5.at h24
  have h35:=e5.at h34
  have h45:=e5.at h4
  clear hp5 h14 h24 h34 h4
  have hp5:=(e1.trans (e2.trans (e3.trans (e4.trans e5)))).at hp
  simp! only [and_true]
  refine kns_take (by omega) (by rw [List.length_cons];omega) ?_
  intro l6 H6 hp6 e6 h6
  have h66:=e6.at h5
  have hb:∀ v∈[V.bl true,.str (Str.ofString "1"),.ref l1,.ref l2,.ref l3,.str (Str.ofString "a"),.ref l4,.bl false,.str (Str.ofString "-")],BdV H6 v:=fun v hv=>by
   have g1:=e6.at h15
   have g2:=e6.at h25
   have g3:=e6.at h35
   have g4:=e6.at h45
   simp only [List.mem_cons,List.not_mem_nil,or_false] at hv
   rcases hv with rfl|rfl|rfl|rfl|rfl|rfl|rfl|rfl|rfl
   ·exact bdv_b
   ·exact bdv_s
   ·exact bdv_t g1
   ·exact⟨.inr (.inr (.inr (.inr (.inl ⟨_,_,rfl,g2⟩)))),rfl,rfl,.inr ⟨_,rfl,g2⟩⟩
   ·exact bdv_d g3
   ·exact bdv_s
   ·exact bdv_t g4
   ·exact bdv_b
   ·exact bdv_s
  replace hb:=fun (_:Unit)=>hb
  clear hp6 h5 h15 h25 h35 h45
  have hp6:=e6.at hp5
  simp! only [and_true]
  have m0:=Int.emod_nonneg (c / 4) (b:=9) (by decide)
  have m1:=Int.emod_lt_of_pos (c / 4) (b:=9) (by decide)
  refine optK_pick (fun v=>BdV H6 v) m0 (by simpa using m1) (fun v hv=>hb () v hv) fun y hy=>?_
  replace hy:=fun (_:Unit)=>hy
  clear m0 m1 hb
  simp! only [and_true]
  intro l7 H7 _ e7 h7
  have h67:=e7.at h6
  have hp7:=e7.at hp6
  clear h6 hp6 hp5
  simp! only [and_true]
  have tk:((j+1:Nat):Int).toNat=j+1:=Int.toNat_natCast _
  refine⟨len5000 (by rw [tk,List.length_take,List.length_cons];show min (j+1) (xs.length+1)+1≤5000;omega),fun l8 H8 e8 h8=>?_⟩
  rw [tk] at h8
  have hp8:=e8.at hp7
  clear h67 hp7 h7 tk
  simp! only [and_true]
  refine kns_drop (by omega) (by rw [List.length_cons];omega) ?_
  intro l9 H9 _ e9 h9
  have h89:=e9.at h8
  clear h8 hp8
  simp! only [and_true]
  have tk2:(((j+1:Nat):Int)+1).toNat=j+2:=by omega
  rw [tk2] at h9 ⊢
  refine⟨len5000 (by simp only [List.length_append,List.length_take,List.length_drop,List.length_cons,List.length_nil];omega),fun l10 H10 e10 h10=>?_⟩
  refine k () l10 y j H10 (e1.trans (e2.trans (e3.trans (e4.trans (e5.trans (e6.trans (e7.trans (e8.trans (e9.trans e10))))))))) hjl ((hy ()).ext (e7.trans (e8.trans (e9.trans e10)))) ?_
  rw [h10]
  congr 2
  rw [List.take_succ_cons,List.drop_succ_cons,List.cons_append,List.cons_append,set_cut hjl,List.append_assoc]
  rfl
theorem all_set{f:V->Bool}{y:V}(hy:f y=false):∀ {xs:List V}{j:Nat},j < xs.length->((xs.set j y).map f).all id=false
 | [],j,h=>by simp at h
 | x::xs,0,h=>by rw [List.set_cons_zero,List.map_cons,List.all_cons,hy];rfl
 | x::xs,j+1,h=>by
  rw [List.set_cons_succ,List.map_cons,List.all_cons,all_set hy (by simpa using h),Bool.and_false]
theorem wdl_set{H:Hp}{xs:List V}{y:V}{j:Nat}(h:WdL H xs)(hy:WdV H y):WdL H (xs.set j y):=fun v hv=>by
 rcases List.mem_or_eq_of_mem_set hv with h'|rfl
 ·exact h v h'
 ·exact hy
theorem bad_set{H H':Hp}{x:Tl}{xs:List V}{y:V}{j:Nat}(ok:TlOk x)(wl:WdL H xs)(x9:xs.length≤9)(x3:x.1=3->∃ l ys,xs=[.ref l]∧H l=some (.lst ys))(xn:x.1 ≠ 3->xs=x.2.map oV∧xs.length=cnM x.1)(e:Ext H H')(hj:j < xs.length)(hy:BdV H' y):BadK H' x.1 (xs.set j y):=by
 have wl':=wdl_set (j:=j) (wl.ext e) hy.1
 have ln:(xs.set j y).length=xs.length:=List.length_set
 by_cases h1:x.1=1
 ·refine .inl ⟨h1,by omega,wl',.inr ?_⟩
  have hl:=(xn (by omega)).2
  rw [h1] at hl
  have hl4:xs.length=4:=hl
  cases xs with
  | nil=>cases hl4
  | cons a r=>
   have hr:r.length=3:=by simpa using hl4
   cases j with
   | zero=>exact⟨y,r,rfl,hr,.inl hy.2.1⟩
   | succ j=>
    refine⟨a,r.set j y,rfl,by rw [List.length_set];exact hr,?_⟩
    cases ha:whB a with
    | false=>exact .inl rfl
    | true=>exact .inr ⟨rfl,all_set hy.2.2.1 (by simpa using hj)⟩
 by_cases h3:x.1=3
 ·obtain⟨l,ys,rfl,hl⟩:=x3 h3
  have hj0:j=0:=by have:j < 1:=hj;omega
  subst hj0
  refine .inr (.inl ⟨h3,by show 1≤30;decide,?_⟩)
  rcases hy.2.2.2 with h|⟨q,rfl,hq⟩
  ·exact .inl (.inr ⟨y,rfl,h⟩)
  ·exact .inr ⟨q,[.non],rfl,hq,by show 1≤30;decide,fun v hv=>by cases List.mem_singleton.mp hv;exact .inl rfl,rfl⟩
 ·exact .inr (.inr ⟨h1,h3,by omega,wl',.inr (all_set hy.2.1 hj)⟩)
theorem bad_part1{t:Adr}{F H:Hp}{l:List Tr}{p q:Addr}{ys zs:List V}{y:V}(hp:H p=some (.tup [.str (Str.ofString "chain"),.ref q]))(hq:H q=some (.lst (ys++y::zs)))(h40:(ys++y::zs).length≤40)(tr:TrFs F H l ys)(ok:okTs l)(hd:deeps l≤2)(hl:leafs l≤40)(b:∀ n d,BadM t H n d y):∀ (n:Nat) (d:Int),8≤n->(d=0∨d=1)->BadM t H n d (.ref p):=fun n d hn h=>by
 obtain⟨m,rfl⟩:∃ m,n=m+1:=⟨n - 1,by omega⟩
 exact .part m d p q F l ys y zs hp hq h40 (by omega) (by omega) tr ok (by omega) hl (b _ _)
theorem bad_chain{t:Adr}{H:Hp}{p q:Addr}{y:V}{n:Nat}{d:Int}(hp:H p=some (.tup [.str (Str.ofString "chain"),.ref q]))(hq:H q=some (.lst [y]))(h0:0≤d)(h4:d+1≤4)(b:BadM t H n (d+1) y):BadM t H (n+1) d (.ref p):=
 .part n d p q H [] [] y [] hp hq (by show 1≤40;decide) h0 h4 (by unfold TrFs;rfl) (by unfold okTs;trivial) (by show d+1+0≤4;omega) (by decide) b
theorem nol_t{H:Hp}{p:Addr}{xs:List V}(h:H p=some (.tup xs)):NoL H (.ref p):=⟨.inr (.inr (.inr (.inr (.inr (.inl ⟨_,_,rfl,h⟩))))),fun p xs e e'=>by cases e;rw [h] at e';cases e'⟩
theorem nol_d{H:Hp}{p:Addr}{xs:List (Key × V)}(h:H p=some (.dK xs)):NoL H (.ref p):=⟨.inr (.inr (.inr (.inr (.inr (.inr ⟨_,_,rfl,h⟩))))),fun p xs e e'=>by cases e;rw [h] at e';cases e'⟩
theorem nol_n{H:Hp}:NoL H .non:=⟨.inl rfl,fun p xs e=>by cases e⟩
theorem nol_i{H:Hp}{i:Int}:NoL H (.int i):=⟨.inr (.inl ⟨_,rfl⟩),fun p xs e=>by cases e⟩
theorem nol_s{H:Hp}{z:Str}:NoL H (.str z):=⟨.inr (.inr (.inr (.inl ⟨_,rfl⟩))),fun p xs e=>by cases e⟩
theorem no_none(t:Adr):valV (keyed (mkL t)) (.inr (Str.ofString "none"))=none:=by
 rfl
theorem bad_len{H H':Hp}{x:Tl}{xs zs:List V}(ok:TlOk x)(x3:x.1=3->∃ l ys,xs=[.ref l]∧H l=some (.lst ys))(xn:x.1 ≠ 3->xs=x.2.map oV∧xs.length=cnM x.1)(wl:WdL H' zs)(x9:xs.length≤9)(hn:zs.length ≠ xs.length)(hz:zs.length≤30):BadK H' x.1 zs:=by
 by_cases h1:x.1=1
 ·have hl:=(xn (by omega)).2
  rw [h1] at hl
  have hl4:xs.length=4:=hl
  exact .inl ⟨h1,hz,wl,.inl (by omega)⟩
 by_cases h3:x.1=3
 ·obtain⟨l,ys,rfl,hl⟩:=x3 h3
  exact .inr (.inl ⟨h3,hz,.inl (.inl hn)⟩)
 ·have hl:=(xn h3).2
  exact .inr (.inr ⟨h1,h3,hz,wl,.inl (by omega)⟩)
theorem kns_last{x:V}{xs:List V}{H:Hp}{Q:VK}(q:newK (.tup ((x::xs).take xs.length)) H Q):kNST none (some (-1)) H Q (x::xs):=by
 refine⟨fun e=>?_,?_⟩
 ·have:=e.2
  have h:HT.sIx (x::xs).length (x::xs).length (some (-1))=xs.length:=by
   show (if (-1:Int) < 0 then ((-1:Int)+((x::xs).length:Int)).toNat else min (-1:Int).toNat (x::xs).length)=xs.length
   rw [if_pos (by decide),List.length_cons]
   omega
  rw [h,List.length_cons] at this
  omega
 ·rw [cut_last (n:=xs.length) rfl]
  exact q
theorem wd_len:∀ {i:Nat},i < 9->(wdM i).length≤20
 | 0,_=>by decide
 | 1,_=>by decide
 | 2,_=>by decide
 | 3,_=>by decide
 | 4,_=>by decide
 | 5,_=>by decide
 | 6,_=>by decide
 | 7,_=>by decide
 | 8,_=>by decide
 | n+9,h=>absurd h (by omega)
theorem no_s(t:Adr):∀ {i:Nat},i < 9->(¬ wdM i++Str.ofString "s"=Str.ofString "chain")∧valV (keyed (mkL t)) (.inr (wdM i++Str.ofString "s"))=none
 | 0,_=>⟨by decide,rfl⟩
 | 1,_=>⟨by decide,rfl⟩
 | 2,_=>⟨by decide,rfl⟩
 | 3,_=>⟨by decide,rfl⟩
 | 4,_=>⟨by decide,rfl⟩
 | 5,_=>⟨by decide,rfl⟩
 | 6,_=>⟨by decide,rfl⟩
 | 7,_=>⟨by decide,rfl⟩
 | 8,_=>⟨by decide,rfl⟩
 | n+9,h=>absurd h (by omega)
theorem bad_take{t:Adr}{H H':Hp}{x:Tl}{xs:List V}{p:Addr}{n:Nat}{d:Int}(ok:TlOk x)(x3:x.1=3->∃ l ys,xs=[.ref l]∧H l=some (.lst ys))(xn:x.1 ≠ 3->xs=x.2.map oV∧xs.length=cnM x.1)(wl:WdL H' xs)(x9:xs.length≤9)(hp:H' p=some (.tup ((V.str (wdM x.1)::xs).take xs.length))):BadM t H' n d (.ref p):=by
 cases h:xs.length with
 | zero=>rw [h] at hp;exact .nil n d _ hp
 | succ m=>
  rw [h,List.take_succ_cons] at hp
  have lt:(xs.take m).length=m:=by rw [List.length_take];omega
  exact .mk n d _ x.1 (xs.take m) hp ok.k (bad_len ok x3 xn (fun v hv=>wl v (List.mem_of_mem_take hv)) x9 (by omega) (by omega))
theorem rep_flat{v:V}:∀ n:Nat,(List.replicate n [v]).flatten=List.replicate n v
 | 0=>rfl
 | n+1=>by rw [List.replicate_succ,List.replicate_succ,List.flatten_cons,rep_flat n];rfl
theorem rep_trs{F H:Hp}{a:Tr}{v:V}(h:TrF F H a v):∀ n:Nat,TrFs F H (List.replicate n a) (List.replicate n v)
 | 0=>by show TrFs F H [] [];unfold TrFs;rfl
 | n+1=>by
  rw [List.replicate_succ,List.replicate_succ]
  unfold TrFs
  exact⟨v,_,rfl,h,rep_trs h n⟩
theorem rep_facts{a:Tr}(ok:okT a)(hd:deepN a=0)(hl:leafN a=1):∀ n:Nat,okTs (List.replicate n a)∧deeps (List.replicate n a)=0∧leafs (List.replicate n a)=n
 | 0=>⟨trivial,rfl,rfl⟩
 | n+1=>by
  obtain⟨h1,h2,h3⟩:=rep_facts ok hd hl n
  rw [List.replicate_succ]
  refine⟨by unfold okTs;exact⟨ok,h1⟩,?_,?_⟩
  ·show max (deepN a) (deeps (List.replicate n a))=0
   rw [hd,h2];rfl
  ·show leafN a+leafs (List.replicate n a)=n+1
   rw [hl,h3];omega
theorem stay_tr{F H:Hp}{p:Addr}(h:H p=some (.tup [.str (Str.ofString "stay")])):TrF F H stayT (.ref p):=by
 unfold stayT TrF
 exact⟨p,rfl,.inl ⟨by decide,h⟩⟩
def BadG(t:Adr)(H:Hp)(r:V):Prop:=∀ (n:Nat) (d:Int),8≤n->(d=0∨d=1)->BadM t H n d r
abbrev B_spSpl(t:Adr)(r:V)(c:Int)(H:Hp)(Q:VK)(E:XK):Prop:=∃ (F:Hp) (x:Tl),TlF F H r x∧TlOk x∧0≤c∧∀ (r':V) (H':Hp),Ext H H'->BadG t H' r'->Q r' H'
def spSpl(t:Adr):Sp:=fun vs H Q E=>∃ (r:V) (c:Int),vs=[r,.int c]∧(B_spSpl t r c H Q E)
theorem c_spSpl(t:Adr)(r:V)(c:Int)(H:Hp)(Q:VK)(E:XK):spSpl t [r,.int c] H Q E=(B_spSpl t r c H Q E):=spx2 (f:=fun (r:V) (c:Int)=>[r,.int c]) (fun _ _ _ _ h=>by cases h;exact⟨rfl,rfl⟩) r c
theorem l_spSpl(t:Adr){vs:List V}{H:Hp}{Q:VK}{E:XK}(h:spSpl t vs H Q E):vs.length=2:=spl2 h fun _ _=>rfl
theorem ok__law_spoilt(T:Tx K mg t):FnOk P t.w K mg base CX0 2 t.a__law_spoilt t.d__law_spoilt ["_law_told", "_law_cell"] (spSpl t):=by
 have G__law_spoilt_part:=ok__law_spoilt_part (P:=P) (base:=base) T
 refine T.F__law_spoilt.ok c__law_spoilt (fun vs H Q E h=>l_spSpl _ h) (fun cdv A outer s H vs Q E hr h=>?_)
 ·obtain⟨r,c,rfl,F,x,tl,ok,hc,k⟩:=h
  refine⟨_,(@pss_cons _ _ _ _ _ (@ps_set _ _ (2) _ _ _ _ c__law_spoilt.nd rfl (Or.inl rfl) (@pe_op _ _ _ _ _ _ _ _ on_mod (@pvN _ 1 _ _ (by rfl) (by trivial) (by decide) (by decide)) (@pe_int _ _ _ _)) (by rfl) (by trivial)) (@pss_cons _ _ _ _ _ (@ps_set _ _ (3) _ _ _ _ c__law_spoilt.nd rfl (Or.inl rfl) (@pe_op _ _ _ _ _ _ _ _ on_fdiv (@pvN _ 1 _ _ (by rfl) (by trivial) (by decide) (by decide)) (@pe_int _ _ _ _)) (by rfl) (by trivial)) (@pss_cons _ _ _ _ _ (@ps_if _ _ _ _ _ _ _ _ (@pt_cmpRN _ _ _ _ _ _ _ _ (op_qEq hr.units) (@pvN _ 2 _ _ (by rfl) (by trivial) (by decide) (by decide)) (@pe_int _ _ _ _) (nomark _)) (@pss_one _ _ _ (@ps_ret _ _ _ _ (@pe_ix _ _ _ _ _ _ _ ix_q (@pe_qLst _ _ _ _ (@pa_c _ _ _ _ _ (@pe_callTy _ _ _ _ _ _ _ _ _ call_nList (by rfl) T.z_list (by decide +kernel) (@pa_c _ _ _ _ _ (@pvN _ 0 _ _ (by rfl) (by trivial) (by decide) (by decide)) (@pa_nil _) (by rfl)) (by decide) (by decide) (by rfl) (by rfl)) (@pa_c _ _ _ _ _ (@pe_qTup _ _ _ _ _ (@pa_c _ _ _ _ _ (@pvN _ 0 _ _ (by rfl) (by trivial) (by decide) (by decide)) (@pa_nil _) (by rfl))) (@pa_c _ _ _ _ _ (@pe_non _ _ _) (@pa_c _ _ _ _ _ (@pe_str _ _ _ _) (@pa_c _ _ _ _ _ (@pe_int _ _ _ _) (@pa_c _ _ _ _ _ (@pe_qTup _ _ _ _ _ (@pa_nil _)) (@pa_c _ _ _ _ _ (@pe_nDNew _ _) (@pa_c _ _ _ _ _ (@pe_qLst _ _ _ _ (@pa_c _ _ _ _ _ (@pvN _ 0 _ _ (by rfl) (by trivial) (by decide) (by decide)) (@pa_nil _) (by rfl))) (@pa_nil _) (by rfl)) (by rfl)) (by rfl)) (by rfl)) (by rfl)) (by rfl)) (by rfl)) (by rfl))) (@pe_op _ _ _ _ _ _ _ _ on_mod (@pvN _ 3 _ _ (by rfl) (by trivial) (by decide) (by decide)) (@pe_int _ _ _ _)) (fun _ _=>rfl)))) (@pss_nil _)) (@pss_cons _ _ _ _ _ (@ps_if _ _ _ _ _ _ _ _ (@pt_cmpRN _ _ _ _ _ _ _ _ (op_qEq hr.units) (@pvN _ 2 _ _ (by rfl) (by trivial) (by decide) (by decide)) (@pe_int _ _ _ _) (nomark _)) (@pss_one _ _ _ (@ps_ret _ _ _ _ (@pe_op _ _ _ _ _ _ _ _ op_nCatT (@pvN _ 0 _ _ (by rfl) (by trivial) (by decide) (by decide)) (@pe_qTup _ _ _ _ _ (@pa_c _ _ _ _ _ (@pe_ix _ _ _ _ _ _ _ ix_q (@pe_qLst _ _ _ _ (@pa_c _ _ _ _ _ (@pe_non _ _ _) (@pa_c _ _ _ _ _ (@pe_int _ _ _ _) (@pa_c _ _ _ _ _ (@pe_qTup _ _ _ _ _ (@pa_nil _)) (@pa_nil _) (by rfl)) (by rfl)) (by rfl))) (@pe_op _ _ _ _ _ _ _ _ on_mod (@pvN _ 3 _ _ (by rfl) (by trivial) (by decide) (by decide)) (@pe_int _ _ _ _)) (fun _ _=>rfl)) (@pa_nil _) (by rfl)))))) (@pss_nil _)) (@pss_cons _ _ _ _ _ (@ps_if _ _ _ _ _ _ _ _ (@pt_cmpRN _ _ _ _ _ _ _ _ (op_qEq hr.units) (@pvN _ 2 _ _ (by rfl) (by trivial) (by decide) (by decide)) (@pe_int _ _ _ _) (nomark _)) (@pss_one _ _ _ (@ps_ret _ _ _ _ (@pe_ix _ _ _ _ _ _ _ ix_q (@pe_qLst _ _ _ _ (@pa_c _ _ _ _ _ (@pe_slice _ _ _ _ _ _ _ _ _ _ sl_nT (@pvN _ 0 _ _ (by rfl) (by trivial) (by decide) (by decide)) (@po_none _) (@po_some _ _ _ (@pe_un _ _ _ _ _ _ un_negN (@pe_int _ _ _ _)))) (@pa_c _ _ _ _ _ (@pe_op _ _ _ _ _ _ _ _ op_nCatT (@pe_qTup _ _ _ _ _ (@pa_c _ _ _ _ _ (@pe_str _ _ _ _) (@pa_nil _) (by rfl))) (@pe_slice _ _ _ _ _ _ _ _ _ _ sl_nT (@pvN _ 0 _ _ (by rfl) (by trivial) (by decide) (by decide)) (@po_some _ _ _ (@pe_int _ _ _ _)) (@po_none _))) (@pa_c _ _ _ _ _ (@pe_op _ _ _ _ _ _ _ _ op_nCatT (@pe_qTup _ _ _ _ _ (@pa_c _ _ _ _ _ (@pe_op _ _ _ _ _ _ _ _ op_add_str (@pe_ix _ _ _ _ _ _ _ ix_q (@pvN _ 0 _ _ (by rfl) (by trivial) (by decide) (by decide)) (@pe_int _ _ _ _) (fun _ _=>rfl)) (@pe_str _ _ _ _)) (@pa_nil _) (by rfl))) (@pe_slice _ _ _ _ _ _ _ _ _ _ sl_nT (@pvN _ 0 _ _ (by rfl) (by trivial) (by decide) (by decide)) (@po_some _ _ _ (@pe_int _ _ _ _)) (@po_none _))) (@pa_c _ _ _ _ _ (@pe_op _ _ _ _ _ _ _ _ op_nCatT (@pe_qTup _ _ _ _ _ (@pa_c _ _ _ _ _ (@pe_int _ _ _ _) (@pa_nil _) (by rfl))) (@pe_slice _ _ _ _ _ _ _ _ _ _ sl_nT (@pvN _ 0 _ _ (by rfl) (by trivial) (by decide) (by decide)) (@po_some _ _ _ (@pe_int _ _ _ _)) (@po_none _))) (@pa_nil _) (by rfl)) (by rfl)) (by rfl)) (by rfl))) (@pe_op _ _ _ _ _ _ _ _ on_mod (@pvN _ 3 _ _ (by rfl) (by trivial) (by decide) (by decide)) (@pe_int _ _ _ _)) (fun _ _=>rfl)))) (@pss_nil _)) (@pss_cons _ _ _ _ _ (@ps_if _ _ _ _ _ _ _ _ (@pt_cmpRN _ _ _ _ _ _ _ _ (op_qEq hr.units) (@pvN _ 2 _ _ (by rfl) (by trivial) (by decide) (by decide)) (@pe_int _ _ _ _) (nomark _)) (@pss_one _ _ _ (@ps_ret _ _ _ _ (@pe_qTup _ _ _ _ _ (@pa_c _ _ _ _ _ (@pe_str _ _ _ _) (@pa_c _ _ _ _ _ (@pe_ix _ _ _ _ _ _ _ ix_q (@pe_qLst _ _ _ _ (@pa_c _ _ _ _ _ (@pe_qLst _ _ _ _ (@pa_c _ _ _ _ _ (@pe_int _ _ _ _) (@pa_c _ _ _ _ _ (@pe_bl _ _ _ _) (@pa_nil _) (by rfl)) (by rfl))) (@pa_c _ _ _ _ _ (@pe_qLst _ _ _ _ (@pa_c _ _ _ _ _ (@pe_non _ _ _) (@pa_nil _) (by rfl))) (@pa_c _ _ _ _ _ (@pe_qLst _ _ _ _ (@pa_c _ _ _ _ _ (@pe_str _ _ _ _) (@pa_nil _) (by rfl))) (@pa_c _ _ _ _ _ (@pe_qTup _ _ _ _ _ (@pa_c _ _ _ _ _ (@pe_int _ _ _ _) (@pa_c _ _ _ _ _ (@pe_int _ _ _ _) (@pa_nil _) (by rfl)) (by rfl))) (@pa_c _ _ _ _ _ (@pe_qLst _ _ _ _ (@pa_c _ _ _ _ _ (@pe_qLst _ _ _ _ (@pa_c _ _ _ _ _ (@pe_int _ _ _ _) (@pa_nil _) (by rfl))) (@pa_nil _) (by rfl))) (@pa_c _ _ _ _ _ (@pe_non _ _ _) (@pa_c _ _ _ _ _ (@pe_int _ _ _ _) (@pa_c _ _ _ _ _ (@pe_nDispI _ _ _ _ _ _ (units1 hr.units) (@pe_int _ _ _ _) (@pe_int _ _ _ _)) (@pa_nil _) (by rfl)) (by rfl)) (by rfl)) (by rfl)) (by rfl)) (by rfl)) (by rfl)) (by rfl))) (@pe_op _ _ _ _ _ _ _ _ on_mod (@pvN _ 3 _ _ (by rfl) (by trivial) (by decide) (by decide)) (@pe_int _ _ _ _)) (fun _ _=>rfl)) (@pa_nil _) (by rfl)) (by rfl))))) (@pss_nil _)) (@pss_cons _ _ _ _ _ (@ps_if _ _ _ _ _ _ _ _ (@pt_cmpRN _ _ _ _ _ _ _ _ (op_qEq hr.units) (@pvN _ 2 _ _ (by rfl) (by trivial) (by decide) (by decide)) (@pe_int _ _ _ _) (nomark _)) (@pss_one _ _ _ (@ps_ret _ _ _ _ (@pe_qTup _ _ _ _ _ (@pa_c _ _ _ _ _ (@pe_str _ _ _ _) (@pa_c _ _ _ _ _ (@pe_ix _ _ _ _ _ _ _ ix_q (@pe_qLst _ _ _ _ (@pa_c _ _ _ _ _ (@pe_qTup _ _ _ _ _ (@pa_c _ _ _ _ _ (@pvN _ 0 _ _ (by rfl) (by trivial) (by decide) (by decide)) (@pa_nil _) (by rfl))) (@pa_c _ _ _ _ _ (@pe_non _ _ _) (@pa_c _ _ _ _ _ (@pe_qLst _ _ _ _ (@pa_c _ _ _ _ _ (@pvN _ 0 _ _ (by rfl) (by trivial) (by decide) (by decide)) (@pa_c _ _ _ _ _ (@pe_int _ _ _ _) (@pa_nil _) (by rfl)) (by rfl))) (@pa_c _ _ _ _ _ (@pe_qLst _ _ _ _ (@pa_c _ _ _ _ _ (@pe_callTy _ _ _ _ _ _ _ _ _ call_nList (by rfl) T.z_list (by decide +kernel) (@pa_c _ _ _ _ _ (@pvN _ 0 _ _ (by rfl) (by trivial) (by decide) (by decide)) (@pa_nil _) (by rfl)) (by decide) (by decide) (by rfl) (by rfl)) (@pa_nil _) (by rfl))) (@pa_c _ _ _ _ _ (@pe_qLst _ _ _ _ (@pa_c _ _ _ _ _ (@pe_qTup _ _ _ _ _ (@pa_c _ _ _ _ _ (@pe_str _ _ _ _) (@pa_nil _) (by rfl))) (@pa_c _ _ _ _ _ (@pvN _ 0 _ _ (by rfl) (by trivial) (by decide) (by decide)) (@pa_nil _) (by rfl)) (by rfl))) (@pa_c _ _ _ _ _ (@pvN _ 0 _ _ (by rfl) (by trivial) (by decide) (by decide)) (@pa_c _ _ _ _ _ (@pe_nDispI _ _ _ _ _ _ (units1 hr.units) (@pe_int _ _ _ _) (@pvN _ 0 _ _ (by rfl) (by trivial) (by decide) (by decide))) (@pa_c _ _ _ _ _ (@pe_str _ _ _ _) (@pa_nil _) (by rfl)) (by rfl)) (by rfl)) (by rfl)) (by rfl)) (by rfl)) (by rfl)) (by rfl))) (@pe_op _ _ _ _ _ _ _ _ on_mod (@pvN _ 3 _ _ (by rfl) (by trivial) (by decide) (by decide)) (@pe_int _ _ _ _)) (fun _ _=>rfl)) (@pa_nil _) (by rfl)) (by rfl))))) (@pss_nil _)) (@pss_cons _ _ _ _ _ (@ps_if _ _ _ _ _ _ _ _ (@pt_cmpRN _ _ _ _ _ _ _ _ (op_qEq hr.units) (@pvN _ 2 _ _ (by rfl) (by trivial) (by decide) (by decide)) (@pe_int _ _ _ _) (nomark _)) (@pss_one _ _ _ (@ps_ret _ _ _ _ (@pe_qTup _ _ _ _ _ (@pa_c _ _ _ _ _ (@pe_str _ _ _ _) (@pa_c _ _ _ _ _ (@pe_qLst _ _ _ _ (@pa_c _ _ _ _ _ (@pe_qTup _ _ _ _ _ (@pa_c _ _ _ _ _ (@pe_str _ _ _ _) (@pa_c _ _ _ _ _ (@pe_qLst _ _ _ _ (@pa_c _ _ _ _ _ (@pe_qTup _ _ _ _ _ (@pa_c _ _ _ _ _ (@pe_str _ _ _ _) (@pa_c _ _ _ _ _ (@pe_qLst _ _ _ _ (@pa_c _ _ _ _ _ (@pe_qTup _ _ _ _ _ (@pa_c _ _ _ _ _ (@pe_str _ _ _ _) (@pa_c _ _ _ _ _ (@pe_qLst _ _ _ _ (@pa_c _ _ _ _ _ (@pe_qTup _ _ _ _ _ (@pa_c _ _ _ _ _ (@pe_str _ _ _ _) (@pa_c _ _ _ _ _ (@pe_qLst _ _ _ _ (@pa_c _ _ _ _ _ (@pvN _ 0 _ _ (by rfl) (by trivial) (by decide) (by decide)) (@pa_nil _) (by rfl))) (@pa_nil _) (by rfl)) (by rfl))) (@pa_nil _) (by rfl))) (@pa_nil _) (by rfl)) (by rfl))) (@pa_nil _) (by rfl))) (@pa_nil _) (by rfl)) (by rfl))) (@pa_nil _) (by rfl))) (@pa_nil _) (by rfl)) (by rfl))) (@pa_nil _) (by rfl))) (@pa_nil _) (by rfl)) (by rfl))))) (@pss_nil _)) (@pss_cons _ _ _ _ _ (@ps_if _ _ _ _ _ _ _ _ (@pt_cmpRN _ _ _ _ _ _ _ _ (op_qEq hr.units) (@pvN _ 2 _ _ (by rfl) (by trivial) (by decide) (by decide)) (@pe_int _ _ _ _) (nomark _)) (@pss_one _ _ _ (@ps_ret _ _ _ _ (@pe_qTup _ _ _ _ _ (@pa_c _ _ _ _ _ (@pe_str _ _ _ _) (@pa_c _ _ _ _ _ (@pe_qLst _ _ _ _ (@pa_c _ _ _ _ _ (@pe_qTup _ _ _ _ _ (@pa_c _ _ _ _ _ (@pe_str _ _ _ _) (@pa_c _ _ _ _ _ (@pe_op _ _ _ _ _ _ _ _ op_nRep (@pe_qLst _ _ _ _ (@pa_c _ _ _ _ _ (@pvN _ 0 _ _ (by rfl) (by trivial) (by decide) (by decide)) (@pa_nil _) (by rfl))) (@pe_op _ _ _ _ _ _ _ _ on_add (@pe_int _ _ _ _) (@pe_op _ _ _ _ _ _ _ _ on_mod (@pvN _ 3 _ _ (by rfl) (by trivial) (by decide) (by decide)) (@pe_int _ _ _ _)))) (@pa_nil _) (by rfl)) (by rfl))) (@pa_c _ _ _ _ _ (@pe_qTup _ _ _ _ _ (@pa_c _ _ _ _ _ (@pe_str _ _ _ _) (@pa_c _ _ _ _ _ (@pe_op _ _ _ _ _ _ _ _ op_nRep (@pe_qLst _ _ _ _ (@pa_c _ _ _ _ _ (@pe_qTup _ _ _ _ _ (@pa_c _ _ _ _ _ (@pe_str _ _ _ _) (@pa_nil _) (by rfl))) (@pa_nil _) (by rfl))) (@pe_op _ _ _ _ _ _ _ _ on_sub (@pe_int _ _ _ _) (@pe_op _ _ _ _ _ _ _ _ on_mod (@pvN _ 3 _ _ (by rfl) (by trivial) (by decide) (by decide)) (@pe_int _ _ _ _)))) (@pa_nil _) (by rfl)) (by rfl))) (@pa_nil _) (by rfl)) (by rfl))) (@pa_nil _) (by rfl)) (by rfl))))) (@pss_nil _)) (@pss_cons _ _ _ _ _ (@ps_if _ _ _ _ _ _ _ _ (@pt_cmpRN _ _ _ _ _ _ _ _ (op_qEq hr.units) (@pe_callB _ _ _ _ _ _ _ ("len") _ call_qLen (by rfl) T.z_len (by decide +kernel) (@pa_c _ _ _ _ _ (@pvN _ 0 _ _ (by rfl) (by trivial) (by decide) (by decide)) (@pa_nil _) (by rfl)) (by decide) (by decide) (by rfl) (by rfl)) (@pe_int _ _ _ _) (nomark _)) (@pss_one _ _ _ (@ps_ret _ _ _ _ (@pe_qTup _ _ _ _ _ (@pa_c _ _ _ _ _ (@pe_str _ _ _ _) (@pa_c _ _ _ _ _ (@pe_non _ _ _) (@pa_nil _) (by rfl)) (by rfl))))) (@pss_nil _)) (@pss_one _ _ _ (@ps_ret _ _ _ _ (@pe_call _ _ _ _ _ _ _ _ _ _ _ _ _ _ _ _ G__law_spoilt_part (hr.mono (by decide)) (by rfl) T.m__law_spoilt_part T.F__law_spoilt_part.kp T.b__law_spoilt_part .nil pass0 (@pa_c _ _ _ _ _ (@pvN _ 0 _ _ (by rfl) (by trivial) (by decide) (by decide)) (@pa_c _ _ _ _ _ (@pvN _ 3 _ _ (by rfl) (by trivial) (by decide) (by decide)) (@pa_nil _) (by rfl)) (by rfl)) (by decide) (by rfl) (by rfl)))))))))))))),?_⟩
  rw [show start ["_law_told", "_law_cell", "_law_way", "_law_rest"] [r,.int c]=[some (r),some (.int c),none,none] from rfl]
  replace k:=fun (_:Unit)=>k
  clear G__law_spoilt_part
  have hw:c % 8=0∨c % 8=1∨c % 8=2∨c % 8=3∨c % 8=4∨c % 8=5∨c % 8=6∨c % 8=7:=by omega
  have hpq:∃ p xs,r=.ref p∧H p=some (.tup (.str (wdM x.1)::xs))∧WdL H xs∧xs.length≤9∧(x.1=3->∃ l ys,xs=[.ref l]∧H l=some (.lst ys))∧(x.1 ≠ 3->xs=x.2.map oV∧xs.length=cnM x.1):=by
   obtain⟨p,rfl,⟨h3,hp⟩|⟨h3,l,hp,hf,hl⟩⟩:=tl
   ·refine⟨p,_,rfl,hp,?_,?_,fun h=>absurd h h3,fun _=>⟨rfl,?_⟩⟩
    ·intro v hv
     obtain⟨o,_,rfl⟩:=List.mem_map.mp hv
     cases o with
     | none=>exact .inl rfl
     | some i=>exact .inr (.inl ⟨i,rfl⟩)
    ·have:=ok.m;rw [List.length_map];omega
    ·rw [List.length_map];exact ok.n h3
   ·refine⟨p,[.ref l],rfl,by rw [h3];exact hp,?_,by show 1≤9;decide,fun _=>⟨l,_,rfl,hl⟩,fun h=>absurd h3 h⟩
    intro v hv
    cases List.mem_singleton.mp hv
    exact .inr (.inr (.inr (.inr (.inl ⟨_,_,rfl,hl⟩))))
  obtain⟨p,xs,rfl,hp,wl,x9,x3,xn⟩:=hpq
  replace x3:=fun (_:Unit)=>x3
  replace xn:=fun (_:Unit)=>xn
  replace wl:=fun (_:Unit)=>wl
  replace tl:=fun (_:Unit)=>tl
  rcases hw with hw|hw|hw|hw|hw|hw|hw|hw
  ·simp! only [and_true]
   intro l1 H1 hq1 e1 h1
   clear hq1
   have zhp_1:=e1.at hp
   simp! only [and_true]
   intro l2 H2 hq2 e2 h2
   clear hq2
   have zhp_2:=e2.at zhp_1
   have zl1_2:=e2.at h1
   clear zhp_1 h1
   simp! only [and_true]
   intro l3 H3 hq3 e3 h3
   clear hq3
   have zhp_3:=e3.at zhp_2
   have zl1_3:=e3.at zl1_2
   have zl2_3:=e3.at h2
   clear zhp_2 zl1_2 h2
   simp! only [and_true]
   intro l4 H4 hq4 e4 h4
   clear hq4
   have zhp_4:=e4.at zhp_3
   have zl1_4:=e4.at zl1_3
   have zl2_4:=e4.at zl2_3
   have zl3_4:=e4.at h3
   clear zhp_3 zl1_3 zl2_3 h3
   simp! only [and_true]
   intro l5 H5 hq5 e5 h5
   clear hq5
   have zhp_5:=e5.at zhp_4
   have zl1_5:=e5.at zl1_4
   have zl2_5:=e5.at zl2_4
   have zl3_5:=e5.at zl3_4
   have zl4_5:=e5.at h4
   clear zhp_4 zl1_4 zl2_4 zl3_4 h4
   simp! only [and_true]
   intro l6 H6 hq6 e6 h6
   clear hq6
   have zhp_6:=e6.at zhp_5
   have zl1_6:=e6.at zl1_5
   have zl2_6:=e6.at zl2_5
   have zl3_6:=e6.at zl3_5
   have zl4_6:=e6.at zl4_5
   have zl5_6:=e6.at h5
   clear zhp_5 zl1_5 zl2_5 zl3_5 zl4_5 h5
   simp! only [and_true]
   have m0:=Int.emod_nonneg (c / 8) (b:=8) (by decide)
   have m1:=Int.emod_lt_of_pos (c / 8) (b:=8) (by decide)
   refine optK_pick (fun v=>BadG t H6 v) m0 (by simpa using m1) (fun v hv=>?_) fun y hy=>?_
   ·simp only [List.mem_cons,List.not_mem_nil,or_false] at hv
    rcases hv with rfl|rfl|rfl|rfl|rfl|rfl|rfl|rfl
    ·exact fun n d _ _=>.lst n d _ _ zl1_6
    ·exact fun n d _ _=>.fst n d _ _ [] zl2_6 (by decide) (.inr (.inr (.inr (.inr (.inr (.inl ⟨_,_,rfl,zhp_6⟩)))))) (fun z h=>by cases h)
    ·exact fun n d _ _=>.non n d
    ·exact fun n d _ _=>.str n d _
    ·exact fun n d _ _=>.int n d _
    ·exact fun n d _ _=>.nil n d _ zl3_6
    ·exact fun n d _ _=>.dic n d _ _ zl4_6
    ·exact fun n d _ _=>.lst n d _ _ zl5_6
   exact k () _ _ (e1.trans (e2.trans (e3.trans (e4.trans (e5.trans e6))))) hy
  ·simp! only [and_true]
   intro l1 H1 hq1 e1 h1
   clear hq1
   have zhp_1:=e1.at hp
   simp! only [and_true]
   intro l2 H2 hq2 e2 h2
   clear hq2
   have zhp_2:=e2.at zhp_1
   have zl1_2:=e2.at h1
   clear zhp_1 h1
   simp! only [and_true]
   have m0:=Int.emod_nonneg (c / 8) (b:=3) (by decide)
   have m1:=Int.emod_lt_of_pos (c / 8) (b:=3) (by decide)
   refine optK_pick (fun v=>WdV H2 v) m0 (by simpa using m1) (fun v hv=>?_) fun y hy=>?_
   ·simp only [List.mem_cons,List.not_mem_nil,or_false] at hv
    rcases hv with rfl|rfl|rfl
    ·exact .inl rfl
    ·exact .inr (.inl ⟨_,rfl⟩)
    ·exact .inr (.inr (.inr (.inr (.inr (.inl ⟨_,_,rfl,zl1_2⟩)))))
   clear m0 m1
   replace hy:=fun (_:Unit)=>hy
   simp! only [and_true]
   intro l3 H3 hq3 e3 h3
   clear hq3
   have zhp_3:=e3.at zhp_2
   have zl1_3:=e3.at zl1_2
   have zl2_3:=e3.at h2
   clear zhp_2 zl1_2 h2
   simp! only [and_true]
   refine⟨len5000 (by show (xs.length+1)+1≤5000;omega),fun l4 H4 e4 h4=>?_⟩
   refine k () _ _ (e1.trans (e2.trans (e3.trans e4))) fun n d _ _=>.mk n d _ x.1 (xs++[y]) h4 ok.k ?_
   have wl4:WdL H4 (xs++[y]):=fun v hv=>by
    rcases List.mem_append.mp hv with h|h
    ·exact(wl () v h).ext (e1.trans (e2.trans (e3.trans e4)))
    ·cases List.mem_singleton.mp h;exact(hy ()).ext (e3.trans e4)
   exact bad_len ok (x3 ()) (xn ()) wl4 x9 (by rw [List.length_append];exact Nat.ne_of_gt (Nat.lt_succ_self _)) (by rw [List.length_append];show xs.length+1≤30;omega)
  ·simp! only [and_true]
   refine kns_last ?_
   intro l1 H1 hq1 e1 h1
   clear hq1
   have zhp_1:=e1.at hp
   simp! only [and_true]
   intro l2 H2 hq2 e2 h2
   clear hq2
   have zhp_2:=e2.at zhp_1
   have zl1_2:=e2.at h1
   clear zhp_1 h1
   simp! only [and_true]
   refine kns_drop (by decide) (by rw [List.length_cons];omega) ?_
   intro l3 H3 hq3 e3 h3
   clear hq3
   have zhp_3:=e3.at zhp_2
   have zl1_3:=e3.at zl1_2
   have zl2_3:=e3.at h2
   clear zhp_2 zl1_2 h2
   simp! only [and_true]
   refine⟨len5000 (by show 1+xs.length≤5000;omega),fun l4 H4 e4 h4=>?_⟩
   have h4:H4 l4=some (.tup (V.str (Str.ofString "none")::xs)):=h4
   have zhp_4:=e4.at zhp_3
   have zl1_4:=e4.at zl1_3
   have zl2_4:=e4.at zl2_3
   have zl3_4:=e4.at h3
   clear zhp_3 zl1_3 zl2_3 h3
   simp! only [and_true]
   refine⟨_,_,rfl,rfl,len5000 (by have:=wd_len ok.k;show (wdM x.1).length+1≤5000;omega),?_⟩
   simp! only [and_true]
   intro l5 H5 hq5 e5 h5
   clear hq5
   have zhp_5:=e5.at zhp_4
   have zl1_5:=e5.at zl1_4
   have zl2_5:=e5.at zl2_4
   have zl3_5:=e5.at zl3_4
   have zl4_5:=e5.at h4
   clear zhp_4 zl1_4 zl2_4 zl3_4 h4
   simp! only [and_true]
   refine kns_drop (by decide) (by rw [List.length_cons];omega) ?_
   intro l6 H6 hq6 e6 h6
   clear hq6
   have zhp_6:=e6.at zhp_5
   have zl1_6:=e6.at zl1_5
   have zl2_6:=e6.at zl2_5
   have zl3_6:=e6.at zl3_5
   have zl4_6:=e6.at zl4_5
   have zl5_6:=e6.at h5
   clear zhp_5 zl1_5 zl2_5 zl3_5 zl4_5 h5
   simp! only [and_true]
   refine⟨len5000 (by show 1+xs.length≤5000;omega),fun l7 H7 e7 h7=>?_⟩
   have h7:H7 l7=some (.tup (V.str (wdM x.1++Str.ofString "s")::xs)):=h7
   have zhp_7:=e7.at zhp_6
   have zl1_7:=e7.at zl1_6
   have zl2_7:=e7.at zl2_6
   have zl3_7:=e7.at zl3_6
   have zl4_7:=e7.at zl4_6
   have zl5_7:=e7.at zl5_6
   have zl6_7:=e7.at h6
   clear zhp_6 zl1_6 zl2_6 zl3_6 zl4_6 zl5_6 h6
   simp! only [and_true]
   intro l8 H8 hq8 e8 h8
   clear hq8
   have zhp_8:=e8.at zhp_7
   have zl1_8:=e8.at zl1_7
   have zl2_8:=e8.at zl2_7
   have zl3_8:=e8.at zl3_7
   have zl4_8:=e8.at zl4_7
   have zl5_8:=e8.at zl5_7
   have zl6_8:=e8.at zl6_7
   have zl7_8:=e8.at h7
   clear zhp_7 zl1_7 zl2_7 zl3_7 zl4_7 zl5_7 zl6_7 h7
   simp! only [and_true]
   refine kns_drop (by decide) (by rw [List.length_cons];omega) ?_
   intro l9 H9 hq9 e9 h9
   clear hq9
   have zhp_9:=e9.at zhp_8
   have zl1_9:=e9.at zl1_8
   have zl2_9:=e9.at zl2_8
   have zl3_9:=e9.at zl3_8
   have zl4_9:=e9.at zl4_8
   have zl5_9:=e9.at zl5_8
   have zl6_9:=e9.at zl6_8
   have zl7_9:=e9.at zl7_8
   have zl8_9:=e9.at h8
   clear zhp_8 zl1_8 zl2_8 zl3_8 zl4_8 zl5_8 zl6_8 zl7_8 h8
   simp! only [and_true]
   refine⟨len5000 (by show 1+xs.length≤5000;omega),fun l10 H10 e10 h10=>?_⟩
   have h10:H10 l10=some (.tup (V.int 0::xs)):=h10
   have zhp_10:=e10.at zhp_9
   have zl1_10:=e10.at zl1_9
   have zl2_10:=e10.at zl2_9
   have zl3_10:=e10.at zl3_9
   have zl4_10:=e10.at zl4_9
   have zl5_10:=e10.at zl5_9
   have zl6_10:=e10.at zl6_9
   have zl7_10:=e10.at zl7_9
   have zl8_10:=e10.at zl8_9
   have zl9_10:=e10.at h9
   clear zhp_9 zl1_9 zl2_9 zl3_9 zl4_9 zl5_9 zl6_9 zl7_9 zl8_9 h9
   simp! only [and_true]
   intro l11 H11 hq11 e11 h11
   clear hq11
   have zhp_11:=e11.at zhp_10
   have zl1_11:=e11.at zl1_10
   have zl2_11:=e11.at zl2_10
   have zl3_11:=e11.at zl3_10
   have zl4_11:=e11.at zl4_10
   have zl5_11:=e11.at zl5_10
   have zl6_11:=e11.at zl6_10
   have zl7_11:=e11.at zl7_10
   have zl8_11:=e11.at zl8_10
   have zl9_11:=e11.at zl9_10
   have zl10_11:=e11.at h10
   clear zhp_10 zl1_10 zl2_10 zl3_10 zl4_10 zl5_10 zl6_10 zl7_10 zl8_10 zl9_10 h10
   simp! only [and_true]
   have m0:=Int.emod_nonneg (c / 8) (b:=4) (by decide)
   have m1:=Int.emod_lt_of_pos (c / 8) (b:=4) (by decide)
   refine optK_pick (fun v=>BadG t H11 v) m0 (by simpa using m1) (fun v hv=>?_) fun y hy=>?_
   ·simp only [List.mem_cons,List.not_mem_nil,or_false] at hv
    rcases hv with rfl|rfl|rfl|rfl
    ·exact fun n d _ _=>bad_take ok (x3 ()) (xn ()) ((wl ()).ext (e1.trans (e2.trans (e3.trans (e4.trans (e5.trans (e6.trans (e7.trans (e8.trans (e9.trans (e10.trans e11))))))))))) x9 zl1_11
    ·exact fun n d _ _=>.word n d _ _ xs zl4_11 (by omega) (by decide) (no_none t)
    ·exact fun n d _ _=>.word n d _ _ xs zl7_11 (by omega) (no_s t ok.k).1 (no_s t ok.k).2
    ·exact fun n d _ _=>.fst n d _ _ xs zl10_11 (by omega) (.inr (.inl ⟨_,rfl⟩)) (fun z h=>by cases h)
   exact k () _ _ (e1.trans (e2.trans (e3.trans (e4.trans (e5.trans (e6.trans (e7.trans (e8.trans (e9.trans (e10.trans e11)))))))))) hy
  ·simp! only [and_true]
   intro l1 H1 hq1 e1 h1
   clear hq1
   have zhp_1:=e1.at hp
   simp! only [and_true]
   intro l2 H2 hq2 e2 h2
   clear hq2
   have zhp_2:=e2.at zhp_1
   have zl1_2:=e2.at h1
   clear zhp_1 h1
   simp! only [and_true]
   intro l3 H3 hq3 e3 h3
   clear hq3
   have zhp_3:=e3.at zhp_2
   have zl1_3:=e3.at zl1_2
   have zl2_3:=e3.at h2
   clear zhp_2 zl1_2 h2
   simp! only [and_true]
   intro l4 H4 hq4 e4 h4
   clear hq4
   have zhp_4:=e4.at zhp_3
   have zl1_4:=e4.at zl1_3
   have zl2_4:=e4.at zl2_3
   have zl3_4:=e4.at h3
   clear zhp_3 zl1_3 zl2_3 h3
   simp! only [and_true]
   intro l5 H5 hq5 e5 h5
   clear hq5
   have zhp_5:=e5.at zhp_4
   have zl1_5:=e5.at zl1_4
   have zl2_5:=e5.at zl2_4
   have zl3_5:=e5.at zl3_4
   have zl4_5:=e5.at h4
   clear zhp_4 zl1_4 zl2_4 zl3_4 h4
   simp! only [and_true]
   intro l6 H6 hq6 e6 h6
   clear hq6
   have zhp_6:=e6.at zhp_5
   have zl1_6:=e6.at zl1_5
   have zl2_6:=e6.at zl2_5
   have zl3_6:=e6.at zl3_5
   have zl4_6:=e6.at zl4_5
   have zl5_6:=e6.at h5
   clear zhp_5 zl1_5 zl2_5 zl3_5 zl4_5 h5
   simp! only [and_true]
   intro l7 H7' hq7 e7' h7'
   simp! only [and_true]
   refine use_dispI (k:=.inl 0) h7' ?_
   have h7:(upd H7' l7 (.dK [(.inl 0,V.int 0)])) l7=some (.dK [(.inl 0,V.int 0)]):=upd_same
   have e7:Ext H6 (upd H7' l7 (.dK [(.inl 0,V.int 0)])):=e7'.put hq7
   generalize upd H7' l7 (.dK [(.inl 0,V.int 0)])=H7 at h7 e7 ⊢
   clear hq7 h7'
   have zhp_7:=e7.at zhp_6
   have zl1_7:=e7.at zl1_6
   have zl2_7:=e7.at zl2_6
   have zl3_7:=e7.at zl3_6
   have zl4_7:=e7.at zl4_6
   have zl5_7:=e7.at zl5_6
   have zl6_7:=e7.at h6
   clear zhp_6 zl1_6 zl2_6 zl3_6 zl4_6 zl5_6 h6
   simp! only [and_true]
   intro l8 H8 hq8 e8 h8
   clear hq8
   have zhp_8:=e8.at zhp_7
   have zl1_8:=e8.at zl1_7
   have zl2_8:=e8.at zl2_7
   have zl3_8:=e8.at zl3_7
   have zl4_8:=e8.at zl4_7
   have zl5_8:=e8.at zl5_7
   have zl6_8:=e8.at zl6_7
   have zl7_8:=e8.at h7
   clear zhp_7 zl1_7 zl2_7 zl3_7 zl4_7 zl5_7 zl6_7 h7
   simp! only [and_true]
   have m0:=Int.emod_nonneg (c / 8) (b:=8) (by decide)
   have m1:=Int.emod_lt_of_pos (c / 8) (b:=8) (by decide)
   refine optK_pick (fun v=>∀ H' p,Ext H8 H'->H' p=some (.tup [.str (Str.ofString "turn"),v])->BadG t H' (.ref p)) m0 (by simpa using m1) (fun v hv=>?_) fun y hy=>?_
   ·simp only [List.mem_cons,List.not_mem_nil,or_false] at hv
    rcases hv with rfl|rfl|rfl|rfl|rfl|rfl|rfl|rfl
    ·exact fun H' p e hp n d _ _=>.mk n d _ 3 _ hp (by decide) (.inr (.inl ⟨rfl,by show 1≤30;decide,.inr ⟨_,_,rfl,e.at zl1_8,Nat.le_of_ble_eq_true rfl,(fun v hv=>by simp only [List.mem_cons,List.not_mem_nil,or_false] at hv;rcases hv with rfl|rfl;exact .inr (.inl ⟨_,rfl⟩);exact .inr (.inr (.inl ⟨_,rfl⟩))),rfl⟩⟩))
    ·exact fun H' p e hp n d _ _=>.mk n d _ 3 _ hp (by decide) (.inr (.inl ⟨rfl,by show 1≤30;decide,.inr ⟨_,_,rfl,e.at zl2_8,Nat.le_of_ble_eq_true rfl,(fun v hv=>by cases List.mem_singleton.mp hv;exact .inl rfl),rfl⟩⟩))
    ·exact fun H' p e hp n d _ _=>.mk n d _ 3 _ hp (by decide) (.inr (.inl ⟨rfl,by show 1≤30;decide,.inr ⟨_,_,rfl,e.at zl3_8,Nat.le_of_ble_eq_true rfl,(fun v hv=>by cases List.mem_singleton.mp hv;exact .inr (.inr (.inr (.inl ⟨_,rfl⟩)))),rfl⟩⟩))
    ·exact fun H' p e hp n d _ _=>.mk n d _ 3 _ hp (by decide) (.inr (.inl ⟨rfl,by show 1≤30;decide,.inl (.inr ⟨_,rfl,nol_t (e.at zl4_8)⟩)⟩))
    ·exact fun H' p e hp n d _ _=>.mk n d _ 3 _ hp (by decide) (.inr (.inl ⟨rfl,by show 1≤30;decide,.inr ⟨_,_,rfl,e.at zl6_8,Nat.le_of_ble_eq_true rfl,(fun v hv=>by cases List.mem_singleton.mp hv;exact .inr (.inr (.inr (.inr (.inl ⟨_,_,rfl,e.at zl5_8⟩))))),rfl⟩⟩))
    ·exact fun H' p e hp n d _ _=>.mk n d _ 3 _ hp (by decide) (.inr (.inl ⟨rfl,by show 1≤30;decide,.inl (.inr ⟨_,rfl,nol_n⟩)⟩))
    ·exact fun H' p e hp n d _ _=>.mk n d _ 3 _ hp (by decide) (.inr (.inl ⟨rfl,by show 1≤30;decide,.inl (.inr ⟨_,rfl,nol_i⟩)⟩))
    ·exact fun H' p e hp n d _ _=>.mk n d _ 3 _ hp (by decide) (.inr (.inl ⟨rfl,by show 1≤30;decide,.inl (.inr ⟨_,rfl,nol_d (e.at zl7_8)⟩)⟩))
   clear m0 m1
   replace hy:=fun (_:Unit)=>hy
   simp! only [and_true]
   intro l9 H9 hq9 e9 h9
   clear hq9
   have zhp_9:=e9.at zhp_8
   have zl1_9:=e9.at zl1_8
   have zl2_9:=e9.at zl2_8
   have zl3_9:=e9.at zl3_8
   have zl4_9:=e9.at zl4_8
   have zl5_9:=e9.at zl5_8
   have zl6_9:=e9.at zl6_8
   have zl7_9:=e9.at zl7_8
   have zl8_9:=e9.at h8
   clear zhp_8 zl1_8 zl2_8 zl3_8 zl4_8 zl5_8 zl6_8 zl7_8 h8
   exact k () _ _ (e1.trans (e2.trans (e3.trans (e4.trans (e5.trans (e6.trans (e7.trans (e8.trans e9)))))))) (hy () _ _ e9 h9)
  ·simp! only [and_true]
   intro l1 H1 hq1 e1 h1
   clear hq1
   have zhp_1:=e1.at hp
   simp! only [and_true]
   intro l2 H2 hq2 e2 h2
   clear hq2
   have zhp_2:=e2.at zhp_1
   have zl1_2:=e2.at h1
   clear zhp_1 h1
   simp! only [and_true]
   intro l3 H3 hq3 e3 h3
   clear hq3
   have zhp_3:=e3.at zhp_2
   have zl1_3:=e3.at zl1_2
   have zl2_3:=e3.at h2
   clear zhp_2 zl1_2 h2
   simp! only [and_true]
   intro l4 H4 hq4 e4 h4
   clear hq4
   have zhp_4:=e4.at zhp_3
   have zl1_4:=e4.at zl1_3
   have zl2_4:=e4.at zl2_3
   have zl3_4:=e4.at h3
   clear zhp_3 zl1_3 zl2_3 h3
   simp! only [and_true]
   intro l5 H5 hq5 e5 h5
   clear hq5
   have zhp_5:=e5.at zhp_4
   have zl1_5:=e5.at zl1_4
   have zl2_5:=e5.at zl2_4
   have zl3_5:=e5.at zl3_4
   have zl4_5:=e5.at h4
   clear zhp_4 zl1_4 zl2_4 zl3_4 h4
   simp! only [and_true]
   intro l6 H6 hq6 e6 h6
   clear hq6
   have zhp_6:=e6.at zhp_5
   have zl1_6:=e6.at zl1_5
   have zl2_6:=e6.at zl2_5
   have zl3_6:=e6.at zl3_5
   have zl4_6:=e6.at zl4_5
   have zl5_6:=e6.at h5
   clear zhp_5 zl1_5 zl2_5 zl3_5 zl4_5 h5
   simp! only [and_true]
   intro l7 H7' hq7 e7' h7'
   simp! only [and_true]
   refine use_dispI (k:=.inl 0) h7' ?_
   have h7:(upd H7' l7 (.dK [(.inl 0,V.ref p)])) l7=some (.dK [(.inl 0,V.ref p)]):=upd_same
   have e7:Ext H6 (upd H7' l7 (.dK [(.inl 0,V.ref p)])):=e7'.put hq7
   generalize upd H7' l7 (.dK [(.inl 0,V.ref p)])=H7 at h7 e7 ⊢
   clear hq7 h7'
   have zhp_7:=e7.at zhp_6
   have zl1_7:=e7.at zl1_6
   have zl2_7:=e7.at zl2_6
   have zl3_7:=e7.at zl3_6
   have zl4_7:=e7.at zl4_6
   have zl5_7:=e7.at zl5_6
   have zl6_7:=e7.at h6
   clear zhp_6 zl1_6 zl2_6 zl3_6 zl4_6 zl5_6 h6
   simp! only [and_true]
   intro l8 H8 hq8 e8 h8
   clear hq8
   have zhp_8:=e8.at zhp_7
   have zl1_8:=e8.at zl1_7
   have zl2_8:=e8.at zl2_7
   have zl3_8:=e8.at zl3_7
   have zl4_8:=e8.at zl4_7
   have zl5_8:=e8.at zl5_7
   have zl6_8:=e8.at zl6_7
   have zl7_8:=e8.at h7
   clear zhp_7 zl1_7 zl2_7 zl3_7 zl4_7 zl5_7 zl6_7 h7
   simp! only [and_true]
   have tl8:=(tl ()).ext (e1.trans (e2.trans (e3.trans (e4.trans (e5.trans (e6.trans (e7.trans e8)))))))
   replace tl8:=fun (_:Unit)=>tl8
   have m0:=Int.emod_nonneg (c / 8) (b:=8) (by decide)
   have m1:=Int.emod_lt_of_pos (c / 8) (b:=8) (by decide)
   refine optK_pick (fun v=>∀ H' p,Ext H8 H'->H' p=some (.tup [.str (Str.ofString "chain"),v])->BadG t H' (.ref p)) m0 (by simpa using m1) (fun v hv=>?_) fun y hy=>?_
   ·simp only [List.mem_cons,List.not_mem_nil,or_false] at hv
    rcases hv with rfl|rfl|rfl|rfl|rfl|rfl|rfl|rfl
    ·exact fun H' p e hp n d _ _=>.noL n d _ _ hp (by show 1≤30;decide) (.inr ⟨_,rfl,nol_t (e.at zl1_8)⟩)
    ·exact fun H' p e hp n d _ _=>.noL n d _ _ hp (by show 1≤30;decide) (.inr ⟨_,rfl,nol_n⟩)
    ·exact fun H' p e hp=>bad_part1 (F:=F) (l:=[.mv x]) hp (ys:=[_]) (zs:=[]) (e.at zl2_8) (by show 2≤40;decide) (by unfold TrFs;exact⟨_,_,rfl,by unfold TrF;exact(tl8 ()).ext e,by unfold TrFs;rfl⟩) (by unfold okTs;exact⟨by unfold okT;exact ok,by unfold okTs;trivial⟩) (by show max 0 0≤2;decide) (by show 1+0≤40;decide) fun n d=>.int n d _
    ·exact fun H' p e hp=>bad_part1 (F:=F) (l:=[]) hp (ys:=[]) (zs:=[]) (e.at zl4_8) (by show 1≤40;decide) (by unfold TrFs;rfl) (by unfold okTs;trivial) (by decide) (by decide) fun n d=>.lst n d _ _ (e.at zl3_8)
    ·exact fun H' p e hp=>bad_part1 (F:=F) (l:=[]) hp (ys:=[]) (zs:=[_]) (e.at zl6_8) (by show 2≤40;decide) (by unfold TrFs;rfl) (by unfold okTs;trivial) (by decide) (by decide) fun n d=>.word n d _ _ [] (e.at zl5_8) (by decide) (by decide) (no_none t)
    ·exact fun H' p e hp n d _ _=>.noL n d _ _ hp (by show 1≤30;decide) (.inr ⟨_,rfl,nol_t (e.at zhp_8)⟩)
    ·exact fun H' p e hp n d _ _=>.noL n d _ _ hp (by show 1≤30;decide) (.inr ⟨_,rfl,nol_d (e.at zl7_8)⟩)
    ·exact fun H' p e hp n d _ _=>.noL n d _ _ hp (by show 1≤30;decide) (.inr ⟨_,rfl,nol_s⟩)
   clear m0 m1
   replace hy:=fun (_:Unit)=>hy
   simp! only [and_true]
   intro l9 H9 hq9 e9 h9
   clear hq9
   have zhp_9:=e9.at zhp_8
   have zl1_9:=e9.at zl1_8
   have zl2_9:=e9.at zl2_8
   have zl3_9:=e9.at zl3_8
   have zl4_9:=e9.at zl4_8
   have zl5_9:=e9.at zl5_8
   have zl6_9:=e9.at zl6_8
   have zl7_9:=e9.at zl7_8
   have zl8_9:=e9.at h8
   clear zhp_8 zl1_8 zl2_8 zl3_8 zl4_8 zl5_8 zl6_8 zl7_8 h8
   exact k () _ _ (e1.trans (e2.trans (e3.trans (e4.trans (e5.trans (e6.trans (e7.trans (e8.trans e9)))))))) (hy () _ _ e9 h9)
  ·simp! only [and_true]
   intro l1 H1 hq1 e1 h1
   clear hq1
   have zhp_1:=e1.at hp
   simp! only [and_true]
   intro l2 H2 hq2 e2 h2
   clear hq2
   have zhp_2:=e2.at zhp_1
   have zl1_2:=e2.at h1
   clear zhp_1 h1
   simp! only [and_true]
   intro l3 H3 hq3 e3 h3
   clear hq3
   have zhp_3:=e3.at zhp_2
   have zl1_3:=e3.at zl1_2
   have zl2_3:=e3.at h2
   clear zhp_2 zl1_2 h2
   simp! only [and_true]
   intro l4 H4 hq4 e4 h4
   clear hq4
   have zhp_4:=e4.at zhp_3
   have zl1_4:=e4.at zl1_3
   have zl2_4:=e4.at zl2_3
   have zl3_4:=e4.at h3
   clear zhp_3 zl1_3 zl2_3 h3
   simp! only [and_true]
   intro l5 H5 hq5 e5 h5
   clear hq5
   have zhp_5:=e5.at zhp_4
   have zl1_5:=e5.at zl1_4
   have zl2_5:=e5.at zl2_4
   have zl3_5:=e5.at zl3_4
   have zl4_5:=e5.at h4
   clear zhp_4 zl1_4 zl2_4 zl3_4 h4
   simp! only [and_true]
   intro l6 H6 hq6 e6 h6
   clear hq6
   have zhp_6:=e6.at zhp_5
   have zl1_6:=e6.at zl1_5
   have zl2_6:=e6.at zl2_5
   have zl3_6:=e6.at zl3_5
   have zl4_6:=e6.at zl4_5
   have zl5_6:=e6.at h5
   clear zhp_5 zl1_5 zl2_5 zl3_5 zl4_5 h5
   simp! only [and_true]
   intro l7 H7 hq7 e7 h7
   clear hq7
   have zhp_7:=e7.at zhp_6
   have zl1_7:=e7.at zl1_6
   have zl2_7:=e7.at zl2_6
   have zl3_7:=e7.at zl3_6
   have zl4_7:=e7.at zl4_6
   have zl5_7:=e7.at zl5_6
   have zl6_7:=e7.at h6
   clear zhp_6 zl1_6 zl2_6 zl3_6 zl4_6 zl5_6 h6
   simp! only [and_true]
   intro l8 H8 hq8 e8 h8
   clear hq8
   have zhp_8:=e8.at zhp_7
   have zl1_8:=e8.at zl1_7
   have zl2_8:=e8.at zl2_7
   have zl3_8:=e8.at zl3_7
   have zl4_8:=e8.at zl4_7
   have zl5_8:=e8.at zl5_7
   have zl6_8:=e8.at zl6_7
   have zl7_8:=e8.at h7
   clear zhp_7 zl1_7 zl2_7 zl3_7 zl4_7 zl5_7 zl6_7 h7
   simp! only [and_true]
   intro l9 H9 hq9 e9 h9
   clear hq9
   have zhp_9:=e9.at zhp_8
   have zl1_9:=e9.at zl1_8
   have zl2_9:=e9.at zl2_8
   have zl3_9:=e9.at zl3_8
   have zl4_9:=e9.at zl4_8
   have zl5_9:=e9.at zl5_8
   have zl6_9:=e9.at zl6_8
   have zl7_9:=e9.at zl7_8
   have zl8_9:=e9.at h8
   clear zhp_8 zl1_8 zl2_8 zl3_8 zl4_8 zl5_8 zl6_8 zl7_8 h8
   simp! only [and_true]
   intro l10 H10 hq10 e10 h10
   clear hq10
   have zhp_10:=e10.at zhp_9
   have zl1_10:=e10.at zl1_9
   have zl2_10:=e10.at zl2_9
   have zl3_10:=e10.at zl3_9
   have zl4_10:=e10.at zl4_9
   have zl5_10:=e10.at zl5_9
   have zl6_10:=e10.at zl6_9
   have zl7_10:=e10.at zl7_9
   have zl8_10:=e10.at zl8_9
   have zl9_10:=e10.at h9
   clear zhp_9 zl1_9 zl2_9 zl3_9 zl4_9 zl5_9 zl6_9 zl7_9 zl8_9 h9
   refine k () _ _ (e1.trans (e2.trans (e3.trans (e4.trans (e5.trans (e6.trans (e7.trans (e8.trans (e9.trans e10))))))))) ?_
   intro n d hn hd
   obtain⟨m,rfl⟩:∃ m,n=m+8:=⟨n - 8,by omega⟩
   rcases hd with rfl|rfl
   ·exact bad_chain h10 zl9_10 (by decide) (by decide) (bad_chain zl8_10 zl7_10 (by decide) (by decide) (bad_chain zl6_10 zl5_10 (by decide) (by decide) (bad_chain zl4_10 zl3_10 (by decide) (by decide) (.deep _ _ _ _ _ zl2_10 zl1_10 (by show 1≤4000;decide) (by decide)))))
   ·exact bad_chain h10 zl9_10 (by decide) (by decide) (bad_chain zl8_10 zl7_10 (by decide) (by decide) (bad_chain zl6_10 zl5_10 (by decide) (by decide) (.deep _ _ _ _ _ zl4_10 zl3_10 (by show 1≤4000;decide) (by decide))))
  ·have r0:=Int.emod_nonneg (c / 8) (b:=40) (by decide)
   have r1:=Int.emod_lt_of_pos (c / 8) (b:=40) (by decide)
   obtain⟨m,hm⟩:∃ m:Nat,c / 8 % 40=(m:Int):=⟨(c / 8 % 40).toNat,by omega⟩
   simp! only [and_true]
   intro l1 H1 hq1 e1 h1
   clear hq1
   have zhp_1:=e1.at hp
   simp! only [and_true]
   have km:(1+(m:Int)).toNat=m+1:=by omega
   rw [km]
   refine⟨by omega,by omega,len5000 (by omega),?_⟩
   rw [rep_flat]
   clear km
   intro l2 H2 hq2 e2 h2
   clear hq2
   have zhp_2:=e2.at zhp_1
   have zl1_2:=e2.at h1
   clear zhp_1 h1
   simp! only [and_true]
   intro l3 H3 hq3 e3 h3
   clear hq3
   have zhp_3:=e3.at zhp_2
   have zl1_3:=e3.at zl1_2
   have zl2_3:=e3.at h2
   clear zhp_2 zl1_2 h2
   simp! only [and_true]
   intro l4 H4 hq4 e4 h4
   clear hq4
   have zhp_4:=e4.at zhp_3
   have zl1_4:=e4.at zl1_3
   have zl2_4:=e4.at zl2_3
   have zl3_4:=e4.at h3
   clear zhp_3 zl1_3 zl2_3 h3
   simp! only [and_true]
   intro l5 H5 hq5 e5 h5
   clear hq5
   have zhp_5:=e5.at zhp_4
   have zl1_5:=e5.at zl1_4
   have zl2_5:=e5.at zl2_4
   have zl3_5:=e5.at zl3_4
   have zl4_5:=e5.at h4
   clear zhp_4 zl1_4 zl2_4 zl3_4 h4
   simp! only [and_true]
   have km:(40 - (m:Int)).toNat=40 - m:=by omega
   rw [km]
   refine⟨by omega,by omega,len5000 (by omega),?_⟩
   rw [rep_flat]
   clear km
   intro l6 H6 hq6 e6 h6
   clear hq6
   have zhp_6:=e6.at zhp_5
   have zl1_6:=e6.at zl1_5
   have zl2_6:=e6.at zl2_5
   have zl3_6:=e6.at zl3_5
   have zl4_6:=e6.at zl4_5
   have zl5_6:=e6.at h5
   clear zhp_5 zl1_5 zl2_5 zl3_5 zl4_5 h5
   simp! only [and_true]
   intro l7 H7 hq7 e7 h7
   clear hq7
   have zhp_7:=e7.at zhp_6
   have zl1_7:=e7.at zl1_6
   have zl2_7:=e7.at zl2_6
   have zl3_7:=e7.at zl3_6
   have zl4_7:=e7.at zl4_6
   have zl5_7:=e7.at zl5_6
   have zl6_7:=e7.at h6
   clear zhp_6 zl1_6 zl2_6 zl3_6 zl4_6 zl5_6 h6
   simp! only [and_true]
   intro l8 H8 hq8 e8 h8
   clear hq8
   have zhp_8:=e8.at zhp_7
   have zl1_8:=e8.at zl1_7
   have zl2_8:=e8.at zl2_7
   have zl3_8:=e8.at zl3_7
   have zl4_8:=e8.at zl4_7
   have zl5_8:=e8.at zl5_7
   have zl6_8:=e8.at zl6_7
   have zl7_8:=e8.at h7
   clear zhp_7 zl1_7 zl2_7 zl3_7 zl4_7 zl5_7 zl6_7 h7
   simp! only [and_true]
   intro l9 H9 hq9 e9 h9
   clear hq9
   have zhp_9:=e9.at zhp_8
   have zl1_9:=e9.at zl1_8
   have zl2_9:=e9.at zl2_8
   have zl3_9:=e9.at zl3_8
   have zl4_9:=e9.at zl4_8
   have zl5_9:=e9.at zl5_8
   have zl6_9:=e9.at zl6_8
   have zl7_9:=e9.at zl7_8
   have zl8_9:=e9.at h8
   clear zhp_8 zl1_8 zl2_8 zl3_8 zl4_8 zl5_8 zl6_8 zl7_8 h8
   have m40:m < 40:=by omega
   have tl9:=((tl ()).less (F':=noF) (Same.ext fun b u h=>by cases h)).ext (e1.trans (e2.trans (e3.trans (e4.trans (e5.trans (e6.trans (e7.trans (e8.trans e9))))))))
   refine k () _ _ (e1.trans (e2.trans (e3.trans (e4.trans (e5.trans (e6.trans (e7.trans (e8.trans e9)))))))) fun n d hn hd=>?_
   obtain⟨n',rfl⟩:∃ n',n=n'+1:=⟨n - 1,by omega⟩
   obtain⟨o1,o2,o3⟩:=rep_facts (a:=.mv x) (by unfold okT;exact ok) rfl rfl (m+1)
   obtain⟨u1,u2,u3⟩:=rep_facts stay_ok rfl rfl (40 - m)
   have ta:TrF noF H9 (.ch (List.replicate (m+1) (.mv x))) (.ref l3):=by unfold TrF;exact⟨_,_,_,rfl,zl3_9,rfl,zl2_9,rep_trs (by unfold TrF;exact tl9) _⟩
   have tb:TrF noF H9 (.ch (List.replicate (40 - m) stayT)) (.ref l7):=by unfold TrF;exact⟨_,_,_,rfl,zl7_9,rfl,zl6_9,rep_trs (stay_tr zl4_9) _⟩
   have oa:okT (.ch (List.replicate (m+1) (.mv x))):=by unfold okT;exact⟨by rw [List.length_replicate];omega,o1⟩
   have ob:okT (.ch (List.replicate (40 - m) stayT)):=by unfold okT;exact⟨by rw [List.length_replicate];omega,u1⟩
   have da:deepN (.ch (List.replicate (m+1) (.mv x)))≤1:=by show deeps _+1≤1;omega
   have db:deepN (.ch (List.replicate (40 - m) stayT))≤1:=by show deeps _+1≤1;omega
   have la:leafN (.ch (List.replicate (m+1) (.mv x)))=m+1:=o3
   have lb:leafN (.ch (List.replicate (40 - m) stayT))=40 - m:=u3
   have ds:deeps [.ch (List.replicate (m+1) (.mv x))]≤1:=by show max (deepN _) 0≤1;omega
   have ls:leafs [.ch (List.replicate (m+1) (.mv x))]=m+1:=by show leafN _+0=_;omega
   exact .many n' d l9 l8 noF [.ch (List.replicate (m+1) (.mv x))] (.ch (List.replicate (40 - m) stayT)) [.ref l3] (.ref l7) [] h9 zl8_9 (by show 2≤40;decide) (by omega) (by unfold TrFs;exact⟨_,_,rfl,ta,by unfold TrFs;rfl⟩) (by unfold okTs;exact⟨oa,by unfold okTs;trivial⟩) tb ob (by omega) (by omega) (by omega) (by omega) (by omega)
  ·simp! only [and_true]
   by_cases h1:((xs.length+1:Nat):Int)=1
   ·rw [if_pos h1]
    intro l1 H1 _ e1 h1
    exact k () _ _ e1 fun n d _ _=>.mk n d _ 0 _ h1 (by decide) (.inr (.inr ⟨by decide,by decide,by decide,fun v hv=>by cases List.mem_singleton.mp hv;exact .inl rfl,.inl (by decide)⟩))
   rw [if_neg h1,c_spSpp]
   refine⟨_,xs,hp,by omega,by omega,by omega,fun p' y j H' e hj by' hp'=>k () _ _ e fun n d _ _=>.mk n d _ x.1 _ hp' ok.k ?_⟩
   exact bad_set ok (wl ()) x9 (x3 ()) (xn ()) e hj by'
theorem al_ex{α β:Type}{R:β->V->Prop}{O:β->Prop}:∀ {zs:List α}{ys:List V},Al (fun _ y=>∃ x,R x y∧O x) zs ys->∃ xs:List β,xs.length=zs.length∧Al R xs ys∧∀ x∈xs,O x
 | [],ys,h=>⟨[],rfl,⟨h.1,fun i x y a b=>by simp at a⟩,fun _ h=>absurd h List.not_mem_nil⟩
 | z::zs,[],h=>by have:=h.1;simp at this
 | z::zs,y::ys,h=>by
  obtain⟨x,hx,ox⟩:=h.2 0 z y rfl rfl
  obtain⟨xs,h1,h2,h3⟩:=al_ex (R:=R) (O:=O) (zs:=zs) (ys:=ys) ⟨by have:=h.1;simpa using this,fun i z y a b=>h.2 (i+1) z y (by simpa using a) (by simpa using b)⟩
  refine⟨x::xs,by rw [List.length_cons,h1,List.length_cons],⟨by have:=h2.1;simpa using this,fun i u v a b=>?_⟩,fun u hu=>?_⟩
  ·cases i with
   | zero=>cases a;cases b;exact hx
   | succ i=>exact h2.2 i u v (by simpa using a) (by simpa using b)
  ·rcases List.mem_cons.mp hu with rfl|hu
   ·exact ox
   ·exact h3 u hu
theorem al_take{α:Type}{R S:α->V->Prop}(f:∀ x y,R x y->S x y):∀ {xs:List α}{ys:List V},Al R xs ys->∀ n:Nat,Al S (xs.take n) (ys.take n):=fun {xs ys} h n=>by
 refine⟨by rw [List.length_take,List.length_take,h.1],fun i x y hx hy=>?_⟩
 rw [List.getElem?_take] at hx hy
 split at hx
 ·rename_i hi
  rw [if_pos hi] at hy
  exact f _ _ (h.2 i x y hx hy)
 ·cases hx
theorem TlF.updD{F H:Hp}{D p:Addr}{o:HO}{x:Tl}(h:TlF F H (.ref p) x)(hp:p ≠ D)(hF:F D ≠ none):TlF F (upd H D o) (.ref p) x:=by
 obtain⟨q,hq,⟨h3,h1⟩|⟨h3,l,h1,hf,hl⟩⟩:=h
 ·cases hq
  exact⟨p,rfl,.inl ⟨h3,by rw [upd_ne hp];exact h1⟩⟩
 ·cases hq
  exact⟨p,rfl,.inr ⟨h3,l,by rw [upd_ne hp];exact h1,hf,by rw [upd_ne (fun z=>hF (by rw [←z];exact hf))];exact hl⟩⟩
def RwS(D:Addr)(y:V)(H:Hp)(x:Tl):Prop:=∃ p,y=.ref p∧p ≠ D∧∃ F:Hp,F D ≠ none∧TlF F H y x
theorem RwS.upd{D:Addr}{y:V}{H:Hp}{x:Tl}{o:HO}(h:RwS D y H x):RwS D y (upd H D o) x:=by
 obtain⟨p,rfl,hp,F,hF,h⟩:=h
 exact⟨p,rfl,hp,F,hF,h.updD hp hF⟩
theorem RwS.ext{D:Addr}{y:V}{H H':Hp}{x:Tl}(h:RwS D y H x)(e:Ext H H'):RwS D y H' x:=by
 obtain⟨p,rfl,hp,F,hF,h⟩:=h
 exact⟨p,rfl,hp,F,hF,h.ext e⟩
abbrev B_spLaw(K:PySem.W.Frag)(a:Addr)(H:Hp)(Q:VK)(E:XK):Prop:=∃ ns:List Int,SqL K H a (ns.map V.int)∧ns.length≤63∧∀ H',Q (.bl true) H'
def spLaw(K:PySem.W.Frag):Sp:=fun vs H Q E=>∃ (a:Addr),vs=[.ref a]∧(B_spLaw K a H Q E)
theorem l_spLaw(K:PySem.W.Frag){vs:List V}{H:Hp}{Q:VK}{E:XK}(h:spLaw K vs H Q E):vs.length=1:=spl1 h fun _=>rfl
theorem ok_law(T:Tx K mg t):FnOk P t.w K mg base CX0 33 t.a_law t.d_law ["_law_script"] (spLaw K):=by
 refine T.F_law.ok c_law (fun vs H Q E h=>l_spLaw _ h) (fun cdv A outer s' H vs Q E hr h=>?_)
 ·obtain⟨a,rfl,ns,hS,hl,kk⟩:=h
  have G__law_draw:=ok__law_draw (P:=P) (base:=base) T a ns
  have G__law_drawn:=ok__law_drawn (P:=P) (base:=base) T a ns
  have G__law_chain:=ok__law_chain (P:=P) (base:=base) T a ns
  have G__law_right:=ok__law_right (P:=P) (base:=base) T
  have G__law_spoilt:=ok__law_spoilt (P:=P) (base:=base) T
  have G__law_refused:=ok__law_refused (P:=P) (base:=base) T
  refine⟨_,(@pss_cons _ _ _ _ _ (@ps_setC _ _ _ _ _ _ _ _ _ _ _ _ _ (["_law_k", "_law_script", "_law_rows", "_law_joined", "_law_told", "!_law_k", "_law_wrong"]) (1) (1) _ c_law.nd rfl (Or.inl rfl) (comp_ok (defScope s_law) ["_law_script", "_law_rows", "_law_joined", "_law_told", "_law_k", "_law_wrong"] rfl rfl (by decide +kernel)) rfl (@pi_range1 _ _ _ _ _ _ (by rfl) T.z_range (@pa_c _ _ _ _ _ (@pe_int _ _ _ _) (@pa_nil _) (by rfl)) (by rfl)) (fun C s₀ H₀ ex pn=>(@pg_name _ _ (0) _ (show List.Nodup (["_law_k", "_law_script", "_law_rows", "_law_joined", "_law_told", "!_law_k", "_law_wrong"]:List Str) from by decide +kernel) rfl (Or.inl rfl) (by trivial))) (fun C s₀ H₀ ex pn=>(@pts_nil _)) (fun C s₀ H₀ ex pn=>(@pe_call _ _ _ _ _ _ _ _ _ _ _ _ _ _ _ _ G__law_drawn (hr.mono (by decide)) (by rfl) T.m__law_drawn T.F__law_drawn.kp T.b__law_drawn .nil pass0 (@pa_c _ _ _ _ _ (@pvN _ 1 _ _ (by rfl) (by trivial) (by decide) (by decide)) (@pa_c _ _ _ _ _ (@pe_op _ _ _ _ _ _ _ _ on_mul (@pe_int _ _ _ _) (@pvN _ 0 _ _ (by rfl) (by trivial) (by decide) (by decide))) (@pa_nil _) (by rfl)) (by rfl)) (by decide) (by rfl) (by rfl))) (by rfl) (by intros;rfl) (by trivial)) (@pss_cons _ _ _ _ _ (@ps_set _ _ (2) _ _ _ _ c_law.nd rfl (Or.inl rfl) (@pe_call _ _ _ _ _ _ _ _ _ _ _ _ _ _ _ _ G__law_chain (hr.mono (by decide)) (by rfl) T.m__law_chain T.F__law_chain.kp T.b__law_chain .nil pass0 (@pa_c _ _ _ _ _ (@pvN _ 0 _ _ (by rfl) (by trivial) (by decide) (by decide)) (@pa_c _ _ _ _ _ (@pe_slice _ _ _ _ _ _ _ _ _ _ sl_n (@pvN _ 1 _ _ (by rfl) (by trivial) (by decide) (by decide)) (@po_none _) (@po_some _ _ _ (@pe_call _ _ _ _ _ _ _ _ _ _ _ _ _ _ _ _ G__law_draw (hr.mono (by decide)) (by rfl) T.m__law_draw T.F__law_draw.kp T.b__law_draw .nil pass0 (@pa_c _ _ _ _ _ (@pvN _ 0 _ _ (by rfl) (by trivial) (by decide) (by decide)) (@pa_c _ _ _ _ _ (@pe_int _ _ _ _) (@pa_c _ _ _ _ _ (@pe_int _ _ _ _) (@pa_nil _) (by rfl)) (by rfl)) (by rfl)) (by decide) (by rfl) (by rfl)))) (@pa_nil _) (by rfl)) (by rfl)) (by decide) (by rfl) (by rfl)) (by rfl) (by trivial)) (@pss_cons _ _ _ _ _ (@ps_for _ _ _ _ _ _ _ _ PassesOwn.never rfl (@pi_seq _ _ _ _ (@pe_op _ _ _ _ _ _ _ _ op_nCat (@pvN _ 1 _ _ (by rfl) (by trivial) (by decide) (by decide)) (@pe_qLst _ _ _ _ (@pa_c _ _ _ _ _ (@pvN _ 2 _ _ (by rfl) (by trivial) (by decide) (by decide)) (@pa_c _ _ _ _ _ (@pe_qTup _ _ _ _ _ (@pa_c _ _ _ _ _ (@pe_str _ _ _ _) (@pa_c _ _ _ _ _ (@pe_qLst _ _ _ _ (@pa_nil _)) (@pa_nil _) (by rfl)) (by rfl))) (@pa_nil _) (by rfl)) (by rfl))))) (@pg_name _ _ (3) _ c_law.nd rfl (Or.inl rfl) (by trivial)) (@pss_one _ _ _ (@ps_if _ _ _ _ _ _ _ _ (@pt_not _ _ _ _ (@pt_valN _ _ _ (@pe_call _ _ _ _ _ _ _ _ _ _ _ _ _ _ _ _ G__law_right (hr.mono (by decide)) (by rfl) T.m__law_right T.F__law_right.kp T.b__law_right .nil pass0 (@pa_c _ _ _ _ _ (@pvN _ 3 _ _ (by rfl) (by trivial) (by decide) (by decide)) (@pa_nil _) (by rfl)) (by decide) (by rfl) (by rfl)) (by intros;rfl))) (@pss_one _ _ _ (@ps_ret _ _ _ _ (@pe_bl _ _ _ _))) (@pss_nil _))) (by intros;rfl)) (@pss_cons _ _ _ _ _ (@ps_for _ _ _ _ _ _ _ _ PassesOwn.never rfl (@pi_range1 _ _ _ _ _ _ (by rfl) T.z_range (@pa_c _ _ _ _ _ (@pe_int _ _ _ _) (@pa_nil _) (by rfl)) (by rfl)) (@pg_name _ _ (4) _ c_law.nd rfl (Or.inl rfl) (by trivial)) (@pss_cons _ _ _ _ _ (@ps_set _ _ (5) _ _ _ _ c_law.nd rfl (Or.inl rfl) (@pe_call _ _ _ _ _ _ _ _ _ _ _ _ _ _ _ _ G__law_spoilt (hr.mono (by decide)) (by rfl) T.m__law_spoilt T.F__law_spoilt.kp T.b__law_spoilt .nil pass0 (@pa_c _ _ _ _ _ (@pe_ix _ _ _ _ _ _ _ ix_q (@pvN _ 1 _ _ (by rfl) (by trivial) (by decide) (by decide)) (@pvN _ 4 _ _ (by rfl) (by trivial) (by decide) (by decide)) (fun _ _=>rfl)) (@pa_c _ _ _ _ _ (@pe_call _ _ _ _ _ _ _ _ _ _ _ _ _ _ _ _ G__law_draw (hr.mono (by decide)) (by rfl) T.m__law_draw T.F__law_draw.kp T.b__law_draw .nil pass0 (@pa_c _ _ _ _ _ (@pvN _ 0 _ _ (by rfl) (by trivial) (by decide) (by decide)) (@pa_c _ _ _ _ _ (@pe_op _ _ _ _ _ _ _ _ on_add (@pe_int _ _ _ _) (@pvN _ 4 _ _ (by rfl) (by trivial) (by decide) (by decide))) (@pa_c _ _ _ _ _ (@pe_op _ _ _ _ _ _ _ _ on_pow (@pe_int _ _ _ _) (@pe_int _ _ _ _)) (@pa_nil _) (by rfl)) (by rfl)) (by rfl)) (by decide) (by rfl) (by rfl)) (@pa_nil _) (by rfl)) (by rfl)) (by decide) (by rfl) (by rfl)) (by rfl) (by trivial)) (@pss_cons _ _ _ _ _ (@ps_if _ _ _ _ _ _ _ _ (PW.pt (@pw_or _ _ _ _ _ _ _ (@pt_not _ _ _ _ (@pt_valN _ _ _ (@pe_call _ _ _ _ _ _ _ _ _ _ _ _ _ _ _ _ G__law_refused (hr.mono (by decide)) (by rfl) T.m__law_refused T.F__law_refused.kp T.b__law_refused .nil pass0 (@pa_c _ _ _ _ _ (@pvN _ 5 _ _ (by rfl) (by trivial) (by decide) (by decide)) (@pa_nil _) (by rfl)) (by decide) (by rfl) (by rfl)) (by intros;rfl))) (@pw_or1 _ _ _ _ (@pt_not _ _ _ _ (@pt_valN _ _ _ (@pe_call _ _ _ _ _ _ _ _ _ _ _ _ _ _ _ _ G__law_refused (hr.mono (by decide)) (by rfl) T.m__law_refused T.F__law_refused.kp T.b__law_refused .nil pass0 (@pa_c _ _ _ _ _ (@pe_qTup _ _ _ _ _ (@pa_c _ _ _ _ _ (@pe_str _ _ _ _) (@pa_c _ _ _ _ _ (@pe_op _ _ _ _ _ _ _ _ op_nCat (@pe_op _ _ _ _ _ _ _ _ op_nCat (@pe_slice _ _ _ _ _ _ _ _ _ _ sl_n (@pvN _ 1 _ _ (by rfl) (by trivial) (by decide) (by decide)) (@po_none _) (@po_some _ _ _ (@pvN _ 4 _ _ (by rfl) (by trivial) (by decide) (by decide)))) (@pe_qLst _ _ _ _ (@pa_c _ _ _ _ _ (@pvN _ 5 _ _ (by rfl) (by trivial) (by decide) (by decide)) (@pa_nil _) (by rfl)))) (@pe_slice _ _ _ _ _ _ _ _ _ _ sl_n (@pvN _ 1 _ _ (by rfl) (by trivial) (by decide) (by decide)) (@po_some _ _ _ (@pvN _ 4 _ _ (by rfl) (by trivial) (by decide) (by decide))) (@po_none _))) (@pa_nil _) (by rfl)) (by rfl))) (@pa_nil _) (by rfl)) (by decide) (by rfl) (by rfl)) (by intros;rfl)))))) (@pss_one _ _ _ (@ps_ret _ _ _ _ (@pe_bl _ _ _ _))) (@pss_nil _)) (@pss_one _ _ _ (@ps_if _ _ _ _ _ _ _ _ (@pt_not _ _ _ _ (@pt_valN _ _ _ (@pe_call _ _ _ _ _ _ _ _ _ _ _ _ _ _ _ _ G__law_right (hr.mono (by decide)) (by rfl) T.m__law_right T.F__law_right.kp T.b__law_right .nil pass0 (@pa_c _ _ _ _ _ (@pe_ix _ _ _ _ _ _ _ ix_q (@pvN _ 1 _ _ (by rfl) (by trivial) (by decide) (by decide)) (@pvN _ 4 _ _ (by rfl) (by trivial) (by decide) (by decide)) (fun _ _=>rfl)) (@pa_nil _) (by rfl)) (by decide) (by rfl) (by rfl)) (by intros;rfl))) (@pss_one _ _ _ (@ps_ret _ _ _ _ (@pe_bl _ _ _ _))) (@pss_nil _))))) (by intros;rfl)) (@pss_one _ _ _ (@ps_ret _ _ _ _ (@pe_bl _ _ _ _))))))),?_⟩
  rw [show start ["_law_script", "_law_rows", "_law_joined", "_law_told", "_law_k", "_law_wrong"] [.ref a]=[some (.ref a),none,none,none,none,none] from rfl]
  clear G__law_draw G__law_drawn G__law_chain G__law_right G__law_spoilt G__law_refused
  replace kk:=fun (_:Unit)=>kk
  simp! only [and_true]
  refine comp_rel (List.range 6) (fun _=>true) (fun z x _=>x=V.int (0+(z:Int))) (fun D _ y H'=>∃ x:Tl,RwS D y H' x∧TlOk x) wk_rng.1 wk_rng.2 (fun D _ y H1 H2 ⟨x,h1,h2⟩ e=>⟨x,h1.ext e,h2⟩) (fun D _ y H1 o ⟨x,h1,h2⟩=>⟨x,h1.upd,h2⟩) (len5000 (by decide)) ?_ ?_
  ·intro D z v H' N1 N0 hz hD e ⟨ys0,hys0⟩ hv k1 _
   subst hv
   have k1':=k1 rfl
   have hz':z < 6:=List.mem_range.mp hz
   have hS':=e.2 K a _ hS
   clear k1 kk
   simp! only [↓m_kCm_1,↓m_kCm2]
   rw [c_spDrn]
   refine⟨rfl,hS',hl,by omega,by omega,fun x r H1 e1 tl ok=>k1' _ H1 e1 ⟨x,?_,ok⟩⟩
   have tl':=tl
   obtain⟨q,rfl,_⟩:=tl'
   refine⟨q,rfl,fun z=>?_,H',(by rw [hys0];exact fun h=>by cases h),tl⟩
   obtain⟨q',hq',⟨_,h⟩|⟨_,l,h,_⟩⟩:=tl
   ·cases hq';rw [z,e1.at hys0] at h;cases h
   ·cases hq';rw [z,e1.at hys0] at h;cases h
  ·intro D zs H1 hD e1 hD1 al
   rw [filt] at al
   obtain⟨xs,hxl,al2,oks⟩:=al_ex (R:=fun (x:Tl) y=>RwS D y H1 x) (O:=TlOk) al
   rw [List.length_range] at hxl
   have hS1:=e1.2 K a _ hS
   have al3:Al (fun x y=>TlF noF H1 y x) xs zs:=⟨al2.1,fun i z y hz hy=>by
    obtain⟨p,rfl,_,F,_,h⟩:=al2.2 i z y hz hy
    exact h.less (F':=noF) (Same.ext fun b u h=>by cases h)⟩
   have zl:zs.length=6:=by rw [al3.1];exact hxl
   clear al al2 hS
   replace al3:=fun (_:Unit)=>al3
   replace zl:=fun (_:Unit)=>zl
   replace hxl:=fun (_:Unit)=>hxl
   replace oks:=fun (_:Unit)=>oks
   simp! only [and_true]
   rw [c_spDraw]
   refine⟨hS1,hl,⟨by decide,by decide⟩,by decide,fun c c0 c1=>?_⟩
   simp! only [and_true]
   intro l2 H2 hn2 e2 h2
   rw [cut_none zs c c0] at h2
   have hD2:=e2.at hD1
   have hS2:=e2.2 K a _ hS1
   have al4:Al (fun x y=>TlF noF H2 y x) (xs.take c.toNat) (zs.take c.toNat):=al_take (fun x y h=>h.ext e2) (al3 ()) _
   clear hn2 hD1 hS1
   replace al4:=fun (_:Unit)=>al4
   simp! only [and_true]
   rw [c_spChn]
   refine⟨rfl,hS2,hl,xs.take c.toNat,zs.take c.toNat,h2,al4 (),fun x hx=>oks () x (List.mem_of_mem_take hx),by have:=hxl ();rw [List.length_take];omega,fun r H3 e3 ch=>?_⟩
   have hD3:=e3.at hD2
   have hS3:=e3.2 K a _ hS2
   clear hD2 hS2 h2 al4
   obtain⟨l,tr,okl,dl,ll,wl⟩:=ch
   replace okl:=fun (_:Unit)=>okl
   simp! only [and_true]
   intro l4 H4 hn4 e4 h4
   clear hn4
   simp! only [and_true]
   intro l5 H5 hn5 e5 h5
   have h45:=e5.at h4
   clear hn5 h4
   simp! only [and_true]
   intro l6 H6 hn6 e6 h6
   have h46:=e6.at h45
   have h56:=e6.at h5
   have hD6:=(e4.trans (e5.trans e6)).at hD3
   clear hn6 h45 h5 hD3
   have zl5:zs.length+2≤sizeLine:=len5000 (by have:=zl ();omega)
   simp! only [and_true]
   intro l7 H7 hn7 e7 h7
   have h47:=e7.at h46
   have h57:=e7.at h56
   have hD7:=e7.at hD6
   have hS7:=(e4.trans (e5.trans (e6.trans e7))).2 K a _ hS3
   have e17:=e2.trans (e3.trans (e4.trans (e5.trans (e6.trans e7))))
   have tr7:=tr.ext (e4.trans (e5.trans (e6.trans e7)))
   have al7:Al (fun x y=>TlF noF H7 y x) xs zs:=⟨(al3 ()).1,fun i x y hx hy=>((al3 ()).2 i x y hx hy).ext e17⟩
   clear hn7 h46 h56 hD6 hS3 tr al3
   have all:∀ y∈zs++[r,V.ref l5],∃ b:Tr,TrF noF H7 b y∧okT b∧deepN b≤4∧leafN b≤40∧wT b≤78000:=fun y hy=>by
    rcases List.mem_append.mp hy with hy|hy
    ·obtain⟨i,hi,rfl⟩:=List.getElem_of_mem hy
     have hi':i < xs.length:=by rw [←al7.1];exact hi
     exact⟨.mv xs[i],by unfold TrF;exact al7.2 i xs[i] zs[i] (List.getElem?_eq_getElem hi') (List.getElem?_eq_getElem hi),by unfold okT;exact oks () _ (List.getElem_mem hi'),by show 0≤4;decide,by show 1≤40;decide,by show 1850≤78000;decide⟩
    ·simp only [List.mem_cons,List.not_mem_nil,or_false] at hy
     rcases hy with rfl|rfl
     ·exact⟨_,tr7,okl (),dl,ll,by omega⟩
     ·exact⟨.ch [],by unfold TrF;exact⟨_,_,_,rfl,h57,rfl,h47,by unfold TrFs;rfl⟩,by unfold okT;exact⟨by decide,by unfold okTs;trivial⟩,by decide,by decide,by decide⟩
   replace all:=fun (_:Unit)=>all
   replace al7:=fun (_:Unit)=>al7
   clear tr7 h47 h57
   simp! only [and_true]
   refine for_lst (xs:=zs++[r,V.ref l5]) (fun i σ H'=>∃ v3:Option V,σ=[some (V.ref a),some (V.ref D),some r,v3,none,none]∧Ext H7 H') ⟨none,rfl,Ext.refl _⟩ (fun i σ H' _ ⟨_,_,e⟩=>e.at h7) ?_ ?_
   ·rintro i y _ H8 hi ⟨v3,rfl,e8⟩
    obtain⟨b,b1,b2,b3,b4,b5⟩:=all () y (List.mem_of_getElem? hi)
    have b1':=b1.ext e8
    clear hi b1
    simp! only [↓m_kBody]
    rw [c_spRgt]
    refine⟨b,b1',b2,b3,b4,b5,fun H9 e9=>?_⟩
    simp! only [and_true]
    exact⟨_,rfl,e8.trans e9⟩
   rintro _ H8 ⟨v3,rfl,e8⟩
   have hD8:=e8.at hD7
   clear all h7
   simp! only [and_true]
   refine for_rng (fun i σ H'=>∃ v3 v4 v5:Option V,σ=[some (V.ref a),some (V.ref D),some r,v3,v4,v5]∧Ext H7 H') ⟨v3,none,none,rfl,e8⟩ ?_ ?_
   ·rintro i _ H9 hi ⟨v3,v4,v5,rfl,e9⟩
    have hD9:=e9.at hD7
    have hS9:=e9.2 K a _ hS7
    have hzl:=zl ()
    have i0:(0:Int)≤0+(i:Int):=by omega
    have i1:0+(i:Int) < (zs.length:Int):=by omega
    replace hzl:=fun (_:Unit)=>hzl
    clear hD8
    simp! only [↓m_kBody]
    refine optK_at (by omega) (by omega) fun y hy=>?_
    obtain⟨x,tlx,okx⟩:∃ x,TlF noF H7 y x∧TlOk x:=by
     obtain⟨j,hj,rfl⟩:=List.getElem_of_mem hy
     have hj':j < xs.length:=by rw [←(al7 ()).1];exact hj
     exact⟨xs[j],(al7 ()).2 j xs[j] zs[j] (List.getElem?_eq_getElem hj') (List.getElem?_eq_getElem hj),oks () _ (List.getElem_mem hj')⟩
    clear hy
    simp! only [and_true]
    rw [c_spDraw]
    refine⟨hS9,hl,⟨by omega,by omega⟩,by decide,fun c' c0' c1'=>?_⟩
    simp! only [and_true]
    rw [c_spSpl]
    refine⟨noF,x,tlx.ext e9,okx,c0',fun w10 H10 e10 bg=>?_⟩
    have hD10:=e10.at hD9
    clear hD9
    replace bg:=fun (_:Unit)=>bg
    simp! only [and_true]
    rw [c_spRefd]
    refine⟨bg () 9 0 (by decide) (.inl rfl),fun H11 e11=>?_⟩
    have hD11:=e11.at hD10
    clear hD10
    simp! only [and_true]
    intro l12 H12 hn12 e12 h12
    rw [cut_none zs _ i0] at h12
    have hD12:=e12.at hD11
    clear hn12 hD11
    simp! only [and_true]
    intro l13 H13 hn13 e13 h13
    have h123:=e13.at h12
    have hD13:=e13.at hD12
    clear hn13 h12 hD12
    have s1:(zs.take (0+(i:Int)).toNat).length+1≤sizeLine:=len5000 (by rw [List.length_take];omega)
    simp! only [and_true]
    intro l14 H14 hn14 e14 h14
    have hD14:=e14.at hD13
    clear hn14 hD13 h123 h13
    simp! only [and_true]
    intro l15 H15 hn15 e15 h15
    rw [cut_some zs _ i0] at h15
    have h145:=e15.at h14
    have hD15:=e15.at hD14
    clear hn15 h14 hD14
    have s2:(zs.take (0+(i:Int)).toNat++[w10]).length+(zs.drop (0+(i:Int)).toNat).length≤sizeLine:=len5000 (by have:=zl ();rw [List.length_append,List.length_take,List.length_drop];show min _ _+1+_≤5000;omega)
    simp! only [and_true]
    intro l16 H16 hn16 e16 h16
    have hD16:=e16.at hD15
    clear hn16 h145 h15 hD15
    simp! only [and_true]
    intro l17 H17 hn17 e17' h17
    have h167:=e17'.at h16
    have hD17:=e17'.at hD16
    clear hn17 h16 hD16
    have e1017:=e11.trans (e12.trans (e13.trans (e14.trans (e15.trans (e16.trans e17')))))
    have e717:=e9.trans (e10.trans e1017)
    have h167':H17 l16=some (.lst (zs.take i++w10::zs.drop i)):=by
     rw [h167,show (0+(i:Int)).toNat=i from by omega,List.append_assoc];rfl
    have alt:Al (fun x y=>TlF noF H17 y x) (xs.take i) (zs.take i):=al_take (fun x y h=>h.ext e717) (al7 ()) _
    obtain⟨f1,f2,f3,_⟩:=mvs_facts (xs:=xs.take i) fun x hx=>oks () x (List.mem_of_mem_take hx)
    have lt6:(xs.take i).length≤6:=by have:=hxl ();rw [List.length_take];omega
    have bad:BadM t H17 9 0 (.ref l17):=.part 8 0 l17 l16 noF ((xs.take i).map .mv) (zs.take i) w10 (zs.drop i) h17 h167' (by have:=zl ();rw [List.length_append,List.length_take,List.length_cons,List.length_drop];omega) (by decide) (by decide) (mvs_al alt) f1 (by rw [f2];decide) (by rw [f3];omega) ((bg () 8 1 (by decide) (.inr rfl)).ext e1017)
    replace bad:=fun (_:Unit)=>bad
    replace alt:=fun (_:Unit)=>alt
    clear h167 h167' h17 f1 f2 f3
    simp! only [and_true]
    rw [c_spRefd]
    refine⟨bad (),fun H18 e18=>?_⟩
    have hD18:=e18.at hD17
    clear hD17
    simp! only [and_true]
    refine optK_at i0 i1 fun y' hy=>?_
    obtain⟨x',tlx',okx'⟩:∃ x,TlF noF H7 y' x∧TlOk x:=by
     obtain⟨j,hj,rfl⟩:=List.getElem_of_mem hy
     have hj':j < xs.length:=by rw [←(al7 ()).1];exact hj
     exact⟨xs[j],(al7 ()).2 j xs[j] zs[j] (List.getElem?_eq_getElem hj') (List.getElem?_eq_getElem hj),oks () _ (List.getElem_mem hj')⟩
    clear hy
    simp! only [and_true]
    rw [c_spRgt]
    refine⟨.mv x',by unfold TrF;exact tlx'.ext (e717.trans e18),by unfold okT;exact okx',by show 0≤4;decide,by show 1≤40;decide,by show 1850≤78000;decide,fun H19 e19=>?_⟩
    simp! only [and_true]
    exact⟨_,_,_,rfl,e717.trans (e18.trans e19)⟩
   ·rintro _ H9 ⟨v3,v4,v5,rfl,e9⟩
    have k2:=kk () H9
    clear kk
    simp! only [and_true]
end
theorem all_mk{l:PySem.W.OpenLaw}{w:World}{K:PySem.W.Frag}{h:Heap}{mg:Str->Option Value}{fa:Addr}(X:K.In h)(G:h.Ns mainGlobals mg)(hfa:mg "law"=some (.ref fa))
  {C0:Addr} (y0:PySem.W.nsIn K mainGlobals "PaceError"=some (some (.ref C0)))
  {C1:Addr} (y1:PySem.W.nsIn K mainGlobals "NoPlace"=some (some (.ref C1)))
  {C2:Addr} (y2:PySem.W.nsIn K mainGlobals "NoMove"=some (some (.ref C2)))
  {C3:Addr} (y3:PySem.W.nsIn K mainGlobals "NoRow"=some (some (.ref C3)))
  {C4:Addr} (y4:PySem.W.nsIn K mainGlobals "Move"=some (some (.ref C4)))
  {C5:Addr} (y5:PySem.W.nsIn K mainGlobals "Slice"=some (some (.ref C5)))
  {C6:Addr} (y6:PySem.W.nsIn K mainGlobals "Pick"=some (some (.ref C6)))
  {C7:Addr} (y7:PySem.W.nsIn K mainGlobals "Turn"=some (some (.ref C7)))
  {C8:Addr} (y8:PySem.W.nsIn K mainGlobals "Fresh"=some (some (.ref C8)))
  {C9:Addr} (y9:PySem.W.nsIn K mainGlobals "Spread"=some (some (.ref C9)))
  {C10:Addr} (y10:PySem.W.nsIn K mainGlobals "Cut"=some (some (.ref C10)))
  {C11:Addr} (y11:PySem.W.nsIn K mainGlobals "Window"=some (some (.ref C11)))
  {C12:Addr} (y12:PySem.W.nsIn K mainGlobals "Diagonal"=some (some (.ref C12)))
  {C13:Addr} (y13:PySem.W.nsIn K mainGlobals "Chain"=some (some (.ref C13)))
  (ocs:PySem.W.specialIn K (.builtin "object.__class__") "__get__"=some (some (.builtin "getset_descriptor.__get__")))
  (oct:PySem.W.takesIn K (.builtin "object.__class__")=some true)
  (fc_Move:PySem.W.findIn K (.ref C4) "__class__"=some (some (.builtin "object.__class__")))
  (mo_Move:PySem.W.mroIn K C4 (.type "object")=some true)
  (fc_Slice:PySem.W.findIn K (.ref C5) "__class__"=some (some (.builtin "object.__class__")))
  (mo_Slice:PySem.W.mroIn K C5 (.type "object")=some true)
  (fc_Pick:PySem.W.findIn K (.ref C6) "__class__"=some (some (.builtin "object.__class__")))
  (mo_Pick:PySem.W.mroIn K C6 (.type "object")=some true)
  (fc_Turn:PySem.W.findIn K (.ref C7) "__class__"=some (some (.builtin "object.__class__")))
  (mo_Turn:PySem.W.mroIn K C7 (.type "object")=some true)
  (fc_Fresh:PySem.W.findIn K (.ref C8) "__class__"=some (some (.builtin "object.__class__")))
  (mo_Fresh:PySem.W.mroIn K C8 (.type "object")=some true)
  (fc_Spread:PySem.W.findIn K (.ref C9) "__class__"=some (some (.builtin "object.__class__")))
  (mo_Spread:PySem.W.mroIn K C9 (.type "object")=some true)
  (fc_Cut:PySem.W.findIn K (.ref C10) "__class__"=some (some (.builtin "object.__class__")))
  (mo_Cut:PySem.W.mroIn K C10 (.type "object")=some true)
  (fc_Window:PySem.W.findIn K (.ref C11) "__class__"=some (some (.builtin "object.__class__")))
  (mo_Window:PySem.W.mroIn K C11 (.type "object")=some true)
  (fc_Diagonal:PySem.W.findIn K (.ref C12) "__class__"=some (some (.builtin "object.__class__")))
  (mo_Diagonal:PySem.W.mroIn K C12 (.type "object")=some true)
  (fc_Chain:PySem.W.findIn K (.ref C13) "__class__"=some (some (.builtin "object.__class__")))
  (mo_Chain:PySem.W.mroIn K C13 (.type "object")=some true)
  (kc_Move_Chain:PySem.W.hasDictIn K C13=true)
  (kt_Move_Chain:PySem.W.typeIn K (.ref C13)=some (.type "type"))
  (ks_Move_Chain:PySem.W.subIn K (.ref C4) (.ref C13)=some false)
  (kn_Move_Chain:(C4 == C13)=false)
  (kc_Slice_Chain:PySem.W.hasDictIn K C13=true)
  (kt_Slice_Chain:PySem.W.typeIn K (.ref C13)=some (.type "type"))
  (ks_Slice_Chain:PySem.W.subIn K (.ref C5) (.ref C13)=some false)
  (kn_Slice_Chain:(C5 == C13)=false)
  (kc_Pick_Chain:PySem.W.hasDictIn K C13=true)
  (kt_Pick_Chain:PySem.W.typeIn K (.ref C13)=some (.type "type"))
  (ks_Pick_Chain:PySem.W.subIn K (.ref C6) (.ref C13)=some false)
  (kn_Pick_Chain:(C6 == C13)=false)
  (kc_Turn_Chain:PySem.W.hasDictIn K C13=true)
  (kt_Turn_Chain:PySem.W.typeIn K (.ref C13)=some (.type "type"))
  (ks_Turn_Chain:PySem.W.subIn K (.ref C7) (.ref C13)=some false)
  (kn_Turn_Chain:(C7 == C13)=false)
  (kc_Fresh_Chain:PySem.W.hasDictIn K C13=true)
  (kt_Fresh_Chain:PySem.W.typeIn K (.ref C13)=some (.type "type"))
  (ks_Fresh_Chain:PySem.W.subIn K (.ref C8) (.ref C13)=some false)
  (kn_Fresh_Chain:(C8 == C13)=false)
  (kc_Spread_Chain:PySem.W.hasDictIn K C13=true)
  (kt_Spread_Chain:PySem.W.typeIn K (.ref C13)=some (.type "type"))
  (ks_Spread_Chain:PySem.W.subIn K (.ref C9) (.ref C13)=some false)
  (kn_Spread_Chain:(C9 == C13)=false)
  (kc_Cut_Chain:PySem.W.hasDictIn K C13=true)
  (kt_Cut_Chain:PySem.W.typeIn K (.ref C13)=some (.type "type"))
  (ks_Cut_Chain:PySem.W.subIn K (.ref C10) (.ref C13)=some false)
  (kn_Cut_Chain:(C10 == C13)=false)
  (kc_Window_Chain:PySem.W.hasDictIn K C13=true)
  (kt_Window_Chain:PySem.W.typeIn K (.ref C13)=some (.type "type"))
  (ks_Window_Chain:PySem.W.subIn K (.ref C11) (.ref C13)=some false)
  (kn_Window_Chain:(C11 == C13)=false)
  (kc_Diagonal_Chain:PySem.W.hasDictIn K C13=true)
  (kt_Diagonal_Chain:PySem.W.typeIn K (.ref C13)=some (.type "type"))
  (ks_Diagonal_Chain:PySem.W.subIn K (.ref C12) (.ref C13)=some false)
  (kn_Diagonal_Chain:(C12 == C13)=false)
  (kc_Chain_Chain:PySem.W.hasDictIn K C13=true)
  (kt_Chain_Chain:PySem.W.typeIn K (.ref C13)=some (.type "type"))
  (ks_Chain_Chain:PySem.W.subIn K (.ref C13) (.ref C13)=some true)
  (kc_Move_Move:PySem.W.hasDictIn K C4=true)
  (kt_Move_Move:PySem.W.typeIn K (.ref C4)=some (.type "type"))
  (ks_Move_Move:PySem.W.subIn K (.ref C4) (.ref C4)=some true)
  (kc_Slice_Move:PySem.W.hasDictIn K C4=true)
  (kt_Slice_Move:PySem.W.typeIn K (.ref C4)=some (.type "type"))
  (ks_Slice_Move:PySem.W.subIn K (.ref C5) (.ref C4)=some true)
  (kc_Pick_Move:PySem.W.hasDictIn K C4=true)
  (kt_Pick_Move:PySem.W.typeIn K (.ref C4)=some (.type "type"))
  (ks_Pick_Move:PySem.W.subIn K (.ref C6) (.ref C4)=some true)
  (kc_Turn_Move:PySem.W.hasDictIn K C4=true)
  (kt_Turn_Move:PySem.W.typeIn K (.ref C4)=some (.type "type"))
  (ks_Turn_Move:PySem.W.subIn K (.ref C7) (.ref C4)=some true)
  (kc_Fresh_Move:PySem.W.hasDictIn K C4=true)
  (kt_Fresh_Move:PySem.W.typeIn K (.ref C4)=some (.type "type"))
  (ks_Fresh_Move:PySem.W.subIn K (.ref C8) (.ref C4)=some true)
  (kc_Spread_Move:PySem.W.hasDictIn K C4=true)
  (kt_Spread_Move:PySem.W.typeIn K (.ref C4)=some (.type "type"))
  (ks_Spread_Move:PySem.W.subIn K (.ref C9) (.ref C4)=some true)
  (kc_Cut_Move:PySem.W.hasDictIn K C4=true)
  (kt_Cut_Move:PySem.W.typeIn K (.ref C4)=some (.type "type"))
  (ks_Cut_Move:PySem.W.subIn K (.ref C10) (.ref C4)=some true)
  (kc_Window_Move:PySem.W.hasDictIn K C4=true)
  (kt_Window_Move:PySem.W.typeIn K (.ref C4)=some (.type "type"))
  (ks_Window_Move:PySem.W.subIn K (.ref C11) (.ref C4)=some true)
  (kc_Diagonal_Move:PySem.W.hasDictIn K C4=true)
  (kt_Diagonal_Move:PySem.W.typeIn K (.ref C4)=some (.type "type"))
  (ks_Diagonal_Move:PySem.W.subIn K (.ref C12) (.ref C4)=some true)
  (kc_Chain_Move:PySem.W.hasDictIn K C4=true)
  (kt_Chain_Move:PySem.W.typeIn K (.ref C4)=some (.type "type"))
  (ks_Chain_Move:PySem.W.subIn K (.ref C13) (.ref C4)=some true)
  (o_NoMove:PySem.W.excIn K C2 [.type "ValueError",.type "Exception",.type "BaseException",.type "object"] "ValueError.__new__"=true)
  (x_NoMove_PaceError:PySem.W.exmOne K (.ref C2) (.ref C0)=some true)
  (ga_NoMove:PySem.W.findIn K (.ref C2) "__getattribute__"=some (some (.builtin "BaseException.__getattribute__")))
  (gn_NoMove:PySem.W.findIn K (.ref C2) "__getattr__"=some none)
  (mb_NoMove:PySem.W.mroIn K C2 (.type "BaseException")=some true)
  (mo_NoMove:PySem.W.mroIn K C2 (.type "object")=some true)
  (fc_NoMove:PySem.W.findIn K (.ref C2) "__class__"=some (some (.builtin "object.__class__")))
  (hd_NoMove:PySem.W.hasDictIn K C2=true)
  (kc_NoMove_NoPlace:PySem.W.hasDictIn K C1=true)
  (kt_NoMove_NoPlace:PySem.W.typeIn K (.ref C1)=some (.type "type"))
  (ks_NoMove_NoPlace:PySem.W.subIn K (.ref C2) (.ref C1)=some false)
  (kn_NoMove_NoPlace:(C2 == C1)=false)
  (kc_NoMove_NoRow:PySem.W.hasDictIn K C3=true)
  (kt_NoMove_NoRow:PySem.W.typeIn K (.ref C3)=some (.type "type"))
  (ks_NoMove_NoRow:PySem.W.subIn K (.ref C2) (.ref C3)=some false)
  (kn_NoMove_NoRow:(C2 == C3)=false)
  (kc_NoMove_NoMove:PySem.W.hasDictIn K C2=true)
  (kt_NoMove_NoMove:PySem.W.typeIn K (.ref C2)=some (.type "type"))
  (ks_NoMove_NoMove:PySem.W.subIn K (.ref C2) (.ref C2)=some true)
  {f0:Addr} {d0:FuncData} (a0:PySem.W.nsIn K mainGlobals "is_whole"=some (some (.ref f0))) (F0:Fun K "is_whole" "is_whole" s_is_whole f0 d0)
  {f1:Addr} {d1:FuncData} (F1:Fun K "told" "Move.told" s_Move_told f1 d1)
  {D2:Addr} {qc2:Value} {qd2:Option Addr} {qn2:Nat} {qs2:Array (Option Value)}
  {f2:Addr} {od2 an2:Option Addr} {sl2:Array (Option Value)} {oc2 kV2 dc2 pm2 cd2 ct2:Value}
  (l2:K.lookup f2=some ⟨oc2,od2,.func (PySem.W.fnOf "__init__" "Slice.__init__" (defArgs s_Slice___init__) (defBody s_Slice___init__) (defScope s_Slice___init__) (.ref D2) kV2 dc2 pm2 an2 cd2 ct2),sl2⟩)
  (q2:K.lookup D2=some ⟨qc2,qd2,.seq #[Value.none,Value.none,Value.none] qn2,qs2⟩)
  (c2:PySem.W.codeIn K cd2 "Slice.__init__"=true) (k2:PySem.W.keepIn K (.ref f2)=true)
  {f3:Addr} {d3:FuncData} (F3:Fun K "told" "Slice.told" s_Slice_told f3 d3)
  {f4:Addr} {d4:FuncData} (F4:Fun K "__init__" "Pick.__init__" s_Pick___init__ f4 d4)
  {f5:Addr} {d5:FuncData} (F5:Fun K "told" "Pick.told" s_Pick_told f5 d5)
  {f6:Addr} {d6:FuncData} (F6:Fun K "__init__" "Turn.__init__" s_Turn___init__ f6 d6)
  {f7:Addr} {d7:FuncData} (F7:Fun K "told" "Turn.told" s_Turn_told f7 d7)
  {f8:Addr} {d8:FuncData} (F8:Fun K "__init__" "Fresh.__init__" s_Fresh___init__ f8 d8)
  {f9:Addr} {d9:FuncData} (F9:Fun K "told" "Fresh.told" s_Fresh_told f9 d9)
  {f10:Addr} {d10:FuncData} (F10:Fun K "__init__" "Spread.__init__" s_Spread___init__ f10 d10)
  {f11:Addr} {d11:FuncData} (F11:Fun K "told" "Spread.told" s_Spread_told f11 d11)
  {f12:Addr} {d12:FuncData} (F12:Fun K "__init__" "Cut.__init__" s_Cut___init__ f12 d12)
  {f13:Addr} {d13:FuncData} (F13:Fun K "told" "Cut.told" s_Cut_told f13 d13)
  {f14:Addr} {d14:FuncData} (F14:Fun K "__init__" "Window.__init__" s_Window___init__ f14 d14)
  {f15:Addr} {d15:FuncData} (F15:Fun K "told" "Window.told" s_Window_told f15 d15)
  {f16:Addr} {d16:FuncData} (F16:Fun K "__init__" "Diagonal.__init__" s_Diagonal___init__ f16 d16)
  {f17:Addr} {d17:FuncData} (F17:Fun K "told" "Diagonal.told" s_Diagonal_told f17 d17)
  {f18:Addr} {d18:FuncData} (F18:Fun K "__init__" "Chain.__init__" s_Chain___init__ f18 d18)
  {f19:Addr} {d19:FuncData} (F19:Fun K "told" "Chain.told" s_Chain_told f19 d19)
  {f20:Addr} {d20:FuncData} (a20:PySem.W.nsIn K mainGlobals "refuse_told"=some (some (.ref f20))) (F20:Fun K "refuse_told" "refuse_told" s_refuse_told f20 d20)
  {f21:Addr} {d21:FuncData} (a21:PySem.W.nsIn K mainGlobals "numbers_in"=some (some (.ref f21))) (F21:Fun K "numbers_in" "numbers_in" s_numbers_in f21 d21)
  {f22:Addr} {d22:FuncData} (a22:PySem.W.nsIn K mainGlobals "list_in"=some (some (.ref f22))) (F22:Fun K "list_in" "list_in" s_list_in f22 d22)
  {f23:Addr} {d23:FuncData} (a23:PySem.W.nsIn K mainGlobals "made_stay"=some (some (.ref f23))) (F23:Fun K "made_stay" "made_stay" s_made_stay f23 d23)
  {f24:Addr} {d24:FuncData} (a24:PySem.W.nsIn K mainGlobals "made_slice"=some (some (.ref f24))) (F24:Fun K "made_slice" "made_slice" s_made_slice f24 d24)
  {f25:Addr} {d25:FuncData} (a25:PySem.W.nsIn K mainGlobals "made_pick"=some (some (.ref f25))) (F25:Fun K "made_pick" "made_pick" s_made_pick f25 d25)
  {f26:Addr} {d26:FuncData} (a26:PySem.W.nsIn K mainGlobals "made_turn"=some (some (.ref f26))) (F26:Fun K "made_turn" "made_turn" s_made_turn f26 d26)
  {f27:Addr} {d27:FuncData} (a27:PySem.W.nsIn K mainGlobals "made_fresh"=some (some (.ref f27))) (F27:Fun K "made_fresh" "made_fresh" s_made_fresh f27 d27)
  {f28:Addr} {d28:FuncData} (a28:PySem.W.nsIn K mainGlobals "made_spread"=some (some (.ref f28))) (F28:Fun K "made_spread" "made_spread" s_made_spread f28 d28)
  {f29:Addr} {d29:FuncData} (a29:PySem.W.nsIn K mainGlobals "made_cut"=some (some (.ref f29))) (F29:Fun K "made_cut" "made_cut" s_made_cut f29 d29)
  {f30:Addr} {d30:FuncData} (a30:PySem.W.nsIn K mainGlobals "made_window"=some (some (.ref f30))) (F30:Fun K "made_window" "made_window" s_made_window f30 d30)
  {f31:Addr} {d31:FuncData} (a31:PySem.W.nsIn K mainGlobals "made_diagonal"=some (some (.ref f31))) (F31:Fun K "made_diagonal" "made_diagonal" s_made_diagonal f31 d31)
  {f32:Addr} {d32:FuncData} (a32:PySem.W.nsIn K mainGlobals "others_in"=some (some (.ref f32))) (F32:Fun K "others_in" "others_in" s_others_in f32 d32)
  {f33:Addr} {d33:FuncData} (a33:PySem.W.nsIn K mainGlobals "made_chain"=some (some (.ref f33))) (F33:Fun K "made_chain" "made_chain" s_made_chain f33 d33)
  {f34:Addr} {d34:FuncData} (a34:PySem.W.nsIn K mainGlobals "made_move"=some (some (.ref f34))) (F34:Fun K "made_move" "made_move" s_made_move f34 d34)
  {f35:Addr} {d35:FuncData} (a35:PySem.W.nsIn K mainGlobals "move_of"=some (some (.ref f35))) (F35:Fun K "move_of" "move_of" s_move_of f35 d35)
  {f36:Addr} {d36:FuncData} (a36:PySem.W.nsIn K mainGlobals "_law_draw"=some (some (.ref f36))) (F36:Fun K "_law_draw" "_law_draw" s__law_draw f36 d36)
  {f37:Addr} {d37:FuncData} (a37:PySem.W.nsIn K mainGlobals "_law_number"=some (some (.ref f37))) (F37:Fun K "_law_number" "_law_number" s__law_number f37 d37)
  {f38:Addr} {d38:FuncData} (a38:PySem.W.nsIn K mainGlobals "_law_part"=some (some (.ref f38))) (F38:Fun K "_law_part" "_law_part" s__law_part f38 d38)
  {f39:Addr} {d39:FuncData} (a39:PySem.W.nsIn K mainGlobals "_law_drawn"=some (some (.ref f39))) (F39:Fun K "_law_drawn" "_law_drawn" s__law_drawn f39 d39)
  {f40:Addr} {d40:FuncData} (a40:PySem.W.nsIn K mainGlobals "_law_made"=some (some (.ref f40))) (F40:Fun K "_law_made" "_law_made" s__law_made f40 d40)
  {f41:Addr} {d41:FuncData} (a41:PySem.W.nsIn K mainGlobals "_law_chain"=some (some (.ref f41))) (F41:Fun K "_law_chain" "_law_chain" s__law_chain f41 d41)
  {f42:Addr} {d42:FuncData} (a42:PySem.W.nsIn K mainGlobals "_law_kind"=some (some (.ref f42))) (F42:Fun K "_law_kind" "_law_kind" s__law_kind f42 d42)
  {f43:Addr} {d43:FuncData} (a43:PySem.W.nsIn K mainGlobals "_law_right"=some (some (.ref f43))) (F43:Fun K "_law_right" "_law_right" s__law_right f43 d43)
  {f44:Addr} {d44:FuncData} (a44:PySem.W.nsIn K mainGlobals "_law_spoilt_part"=some (some (.ref f44))) (F44:Fun K "_law_spoilt_part" "_law_spoilt_part" s__law_spoilt_part f44 d44)
  {f45:Addr} {d45:FuncData} (a45:PySem.W.nsIn K mainGlobals "_law_spoilt"=some (some (.ref f45))) (F45:Fun K "_law_spoilt" "_law_spoilt" s__law_spoilt f45 d45)
  {f46:Addr} {d46:FuncData} (a46:PySem.W.nsIn K mainGlobals "_law_refused"=some (some (.ref f46))) (F46:Fun K "_law_refused" "_law_refused" s__law_refused f46 d46)
  {f47:Addr} {od47 an47:Option Addr} {sl47:Array (Option Value)} {oc47 kV47 dc47 pm47 cd47 ct47:Value}
  (a47:PySem.W.nsIn K mainGlobals "law"=some (some (.ref f47))) (l47:K.lookup f47=some ⟨oc47,od47,.func (PySem.W.fnOf "law" "law" (defArgs s_law) (defBody s_law) (defScope s_law) .none kV47 dc47 pm47 an47 cd47 ct47),sl47⟩)
  (c47:PySem.W.codeIn K cd47 "law"=true) (k47:PySem.W.keepIn K (.ref f47)=true)
  (pg_Move:PySem.W.plainGet K C4 Str.empty=true)
  (hd_Move:PySem.W.hasDictIn K C4=true)
  (po_Move:PySem.W.plainOver K C4=true)
  (sa_Move:PySem.W.findIn K (.ref C4) "__setattr__"=some (some (.builtin "object.__setattr__")))
  (mm_Move:PySem.W.makesIn K C4=true)
  (ck_Move:PySem.W.keepIn K (.ref C4)=true)
  (fi0_Move:PySem.W.findIn K (.ref C4) "__init__"=some (some (.builtin "object.__init__")))
  (fi_Move_told:PySem.W.findIn K (.ref C4) "told"=some (some (.ref f1)))
  (fn_Move_told:PySem.W.isFn K (.ref f1)=true)
  (pg_Slice:PySem.W.plainGet K C5 Str.empty=true)
  (hd_Slice:PySem.W.hasDictIn K C5=true)
  (po_Slice:PySem.W.plainOver K C5=true)
  (sa_Slice:PySem.W.findIn K (.ref C5) "__setattr__"=some (some (.builtin "object.__setattr__")))
  (nf_Slice_axis:PySem.W.findIn K (.ref C5) "axis"=some none)
  (nf_Slice_start:PySem.W.findIn K (.ref C5) "start"=some none)
  (nf_Slice_step:PySem.W.findIn K (.ref C5) "step"=some none)
  (nf_Slice_stop:PySem.W.findIn K (.ref C5) "stop"=some none)
  (fi_Slice_told:PySem.W.findIn K (.ref C5) "told"=some (some (.ref f3)))
  (fn_Slice_told:PySem.W.isFn K (.ref f3)=true)
  (fi_Slice___init__:PySem.W.findIn K (.ref C5) "__init__"=some (some (.ref f2)))
  (fn_Slice___init__:PySem.W.isFn K (.ref f2)=true)
  (mm_Slice:PySem.W.makesIn K C5=true)
  (ck_Slice:PySem.W.keepIn K (.ref C5)=true)
  (pg_Pick:PySem.W.plainGet K C6 Str.empty=true)
  (hd_Pick:PySem.W.hasDictIn K C6=true)
  (po_Pick:PySem.W.plainOver K C6=true)
  (sa_Pick:PySem.W.findIn K (.ref C6) "__setattr__"=some (some (.builtin "object.__setattr__")))
  (nf_Pick_at:PySem.W.findIn K (.ref C6) "at"=some none)
  (nf_Pick_axis:PySem.W.findIn K (.ref C6) "axis"=some none)
  (fi_Pick_told:PySem.W.findIn K (.ref C6) "told"=some (some (.ref f5)))
  (fn_Pick_told:PySem.W.isFn K (.ref f5)=true)
  (fi_Pick___init__:PySem.W.findIn K (.ref C6) "__init__"=some (some (.ref f4)))
  (fn_Pick___init__:PySem.W.isFn K (.ref f4)=true)
  (mm_Pick:PySem.W.makesIn K C6=true)
  (ck_Pick:PySem.W.keepIn K (.ref C6)=true)
  (pg_Turn:PySem.W.plainGet K C7 Str.empty=true)
  (hd_Turn:PySem.W.hasDictIn K C7=true)
  (po_Turn:PySem.W.plainOver K C7=true)
  (sa_Turn:PySem.W.findIn K (.ref C7) "__setattr__"=some (some (.builtin "object.__setattr__")))
  (nf_Turn_order:PySem.W.findIn K (.ref C7) "order"=some none)
  (fi_Turn_told:PySem.W.findIn K (.ref C7) "told"=some (some (.ref f7)))
  (fn_Turn_told:PySem.W.isFn K (.ref f7)=true)
  (fi_Turn___init__:PySem.W.findIn K (.ref C7) "__init__"=some (some (.ref f6)))
  (fn_Turn___init__:PySem.W.isFn K (.ref f6)=true)
  (mm_Turn:PySem.W.makesIn K C7=true)
  (ck_Turn:PySem.W.keepIn K (.ref C7)=true)
  (pg_Fresh:PySem.W.plainGet K C8 Str.empty=true)
  (hd_Fresh:PySem.W.hasDictIn K C8=true)
  (po_Fresh:PySem.W.plainOver K C8=true)
  (sa_Fresh:PySem.W.findIn K (.ref C8) "__setattr__"=some (some (.builtin "object.__setattr__")))
  (nf_Fresh_axis:PySem.W.findIn K (.ref C8) "axis"=some none)
  (fi_Fresh_told:PySem.W.findIn K (.ref C8) "told"=some (some (.ref f9)))
  (fn_Fresh_told:PySem.W.isFn K (.ref f9)=true)
  (fi_Fresh___init__:PySem.W.findIn K (.ref C8) "__init__"=some (some (.ref f8)))
  (fn_Fresh___init__:PySem.W.isFn K (.ref f8)=true)
  (mm_Fresh:PySem.W.makesIn K C8=true)
  (ck_Fresh:PySem.W.keepIn K (.ref C8)=true)
  (pg_Spread:PySem.W.plainGet K C9 Str.empty=true)
  (hd_Spread:PySem.W.hasDictIn K C9=true)
  (po_Spread:PySem.W.plainOver K C9=true)
  (sa_Spread:PySem.W.findIn K (.ref C9) "__setattr__"=some (some (.builtin "object.__setattr__")))
  (nf_Spread_axis:PySem.W.findIn K (.ref C9) "axis"=some none)
  (nf_Spread_size:PySem.W.findIn K (.ref C9) "size"=some none)
  (fi_Spread_told:PySem.W.findIn K (.ref C9) "told"=some (some (.ref f11)))
  (fn_Spread_told:PySem.W.isFn K (.ref f11)=true)
  (fi_Spread___init__:PySem.W.findIn K (.ref C9) "__init__"=some (some (.ref f10)))
  (fn_Spread___init__:PySem.W.isFn K (.ref f10)=true)
  (mm_Spread:PySem.W.makesIn K C9=true)
  (ck_Spread:PySem.W.keepIn K (.ref C9)=true)
  (pg_Cut:PySem.W.plainGet K C10 Str.empty=true)
  (hd_Cut:PySem.W.hasDictIn K C10=true)
  (po_Cut:PySem.W.plainOver K C10=true)
  (sa_Cut:PySem.W.findIn K (.ref C10) "__setattr__"=some (some (.builtin "object.__setattr__")))
  (nf_Cut_axis:PySem.W.findIn K (.ref C10) "axis"=some none)
  (nf_Cut_inner:PySem.W.findIn K (.ref C10) "inner"=some none)
  (fi_Cut_told:PySem.W.findIn K (.ref C10) "told"=some (some (.ref f13)))
  (fn_Cut_told:PySem.W.isFn K (.ref f13)=true)
  (fi_Cut___init__:PySem.W.findIn K (.ref C10) "__init__"=some (some (.ref f12)))
  (fn_Cut___init__:PySem.W.isFn K (.ref f12)=true)
  (mm_Cut:PySem.W.makesIn K C10=true)
  (ck_Cut:PySem.W.keepIn K (.ref C10)=true)
  (pg_Window:PySem.W.plainGet K C11 Str.empty=true)
  (hd_Window:PySem.W.hasDictIn K C11=true)
  (po_Window:PySem.W.plainOver K C11=true)
  (sa_Window:PySem.W.findIn K (.ref C11) "__setattr__"=some (some (.builtin "object.__setattr__")))
  (nf_Window_axis:PySem.W.findIn K (.ref C11) "axis"=some none)
  (nf_Window_size:PySem.W.findIn K (.ref C11) "size"=some none)
  (fi_Window_told:PySem.W.findIn K (.ref C11) "told"=some (some (.ref f15)))
  (fn_Window_told:PySem.W.isFn K (.ref f15)=true)
  (fi_Window___init__:PySem.W.findIn K (.ref C11) "__init__"=some (some (.ref f14)))
  (fn_Window___init__:PySem.W.isFn K (.ref f14)=true)
  (mm_Window:PySem.W.makesIn K C11=true)
  (ck_Window:PySem.W.keepIn K (.ref C11)=true)
  (pg_Diagonal:PySem.W.plainGet K C12 Str.empty=true)
  (hd_Diagonal:PySem.W.hasDictIn K C12=true)
  (po_Diagonal:PySem.W.plainOver K C12=true)
  (sa_Diagonal:PySem.W.findIn K (.ref C12) "__setattr__"=some (some (.builtin "object.__setattr__")))
  (nf_Diagonal_one:PySem.W.findIn K (.ref C12) "one"=some none)
  (nf_Diagonal_other:PySem.W.findIn K (.ref C12) "other"=some none)
  (fi_Diagonal_told:PySem.W.findIn K (.ref C12) "told"=some (some (.ref f17)))
  (fn_Diagonal_told:PySem.W.isFn K (.ref f17)=true)
  (fi_Diagonal___init__:PySem.W.findIn K (.ref C12) "__init__"=some (some (.ref f16)))
  (fn_Diagonal___init__:PySem.W.isFn K (.ref f16)=true)
  (mm_Diagonal:PySem.W.makesIn K C12=true)
  (ck_Diagonal:PySem.W.keepIn K (.ref C12)=true)
  (pg_Chain:PySem.W.plainGet K C13 Str.empty=true)
  (hd_Chain:PySem.W.hasDictIn K C13=true)
  (po_Chain:PySem.W.plainOver K C13=true)
  (sa_Chain:PySem.W.findIn K (.ref C13) "__setattr__"=some (some (.builtin "object.__setattr__")))
  (nf_Chain_moves:PySem.W.findIn K (.ref C13) "moves"=some none)
  (fi_Chain_told:PySem.W.findIn K (.ref C13) "told"=some (some (.ref f19)))
  (fn_Chain_told:PySem.W.isFn K (.ref f19)=true)
  (fi_Chain___init__:PySem.W.findIn K (.ref C13) "__init__"=some (some (.ref f18)))
  (fn_Chain___init__:PySem.W.isFn K (.ref f18)=true)
  (mm_Chain:PySem.W.makesIn K C13=true)
  (ck_Chain:PySem.W.keepIn K (.ref C13)=true)
  {tk0:Tok} (w0:PySem.W.nsIn K mainGlobals "MOST_MOVES"=some (some (.int 40 tk0)))
  {tk1:Tok} (w1:PySem.W.nsIn K mainGlobals "MOST_DEEP"=some (some (.int 4 tk1)))
  {aK0:Addr} {oK0:Obj} {tK0_0 tK0_1 tK0_2 tK0_3 tK0_4 tK0_5 tK0_6 tK0_7 tK0_8:Tok} (yK0:PySem.W.nsIn K mainGlobals "MAKERS"=some (some (.ref aK0))) (lK0:K.lookup aK0=some oK0) (nK0:(aK0 == sysModules)=false) (eK0:oK0=dicO w [("stay",tK0_0,.ref f23),("slice",tK0_1,.ref f24),("pick",tK0_2,.ref f25),("turn",tK0_3,.ref f26),("fresh",tK0_4,.ref f27),("spread",tK0_5,.ref f28),("cut",tK0_6,.ref f29),("window",tK0_7,.ref f30),("diagonal",tK0_8,.ref f31)])
  (z0:PySem.W.nsIn K mainGlobals "ValueError"=some none)
  (z1:PySem.W.nsIn K mainGlobals "all"=some none)
  (z2:PySem.W.nsIn K mainGlobals "bool"=some none)
  (z3:PySem.W.nsIn K mainGlobals "int"=some none)
  (z4:PySem.W.nsIn K mainGlobals "isinstance"=some none)
  (z5:PySem.W.nsIn K mainGlobals "len"=some none)
  (z6:PySem.W.nsIn K mainGlobals "list"=some none)
  (z7:PySem.W.nsIn K mainGlobals "range"=some none)
  (z8:PySem.W.nsIn K mainGlobals "repr"=some none)
  (z9:PySem.W.nsIn K mainGlobals "str"=some none)
  (z10:PySem.W.nsIn K mainGlobals "sum"=some none)
  (z11:PySem.W.nsIn K mainGlobals "tuple"=some none)
  : ∃ fd:FuncData,(∀ (s:Shared) (v:Value),BindsTo s fd ⟨[v],[]⟩ [("_law_script",v)])∧∀ base:Heap,K.In base->base.Ns mainGlobals mg->FnOk l.prog w K mg base CX0 33 fa fd ["_law_script"] (spLaw K):=by
 have e:=hfa.symm.trans (PySem.W.mg_of X G a47)
 cases e
 have F2:=funX_mk (st:=s_Slice___init__) l2 c2 k2
 have F47:=fun_mk (st:=s_law) l47 c47 k47
 have T:Tx K mg ⟨C0,C1,C2,C3,C4,C5,C6,C7,C8,C9,C10,C11,C12,C13,f0,_,f1,_,f2,_,f3,_,f4,_,f5,_,f6,_,f7,_,f8,_,f9,_,f10,_,f11,_,f12,_,f13,_,f14,_,f15,_,f16,_,f17,_,f18,_,f19,_,f20,_,f21,_,f22,_,f23,_,f24,_,f25,_,f26,_,f27,_,f28,_,f29,_,f30,_,f31,_,f32,_,f33,_,f34,_,f35,_,f36,_,f37,_,f38,_,f39,_,f40,_,f41,_,f42,_,f43,_,f44,_,f45,_,f46,_,fa,_,aK0,w⟩:=⟨PySem.W.mg_of X G y0,PySem.W.mg_of X G y1,PySem.W.mg_of X G y2,PySem.W.mg_of X G y3,PySem.W.mg_of X G y4,PySem.W.mg_of X G y5,PySem.W.mg_of X G y6,PySem.W.mg_of X G y7,PySem.W.mg_of X G y8,PySem.W.mg_of X G y9,PySem.W.mg_of X G y10,PySem.W.mg_of X G y11,PySem.W.mg_of X G y12,PySem.W.mg_of X G y13,ocs,oct,fc_Move,mo_Move,fc_Slice,mo_Slice,fc_Pick,mo_Pick,fc_Turn,mo_Turn,fc_Fresh,mo_Fresh,fc_Spread,mo_Spread,fc_Cut,mo_Cut,fc_Window,mo_Window,fc_Diagonal,mo_Diagonal,fc_Chain,mo_Chain,kc_Move_Chain,kt_Move_Chain,ks_Move_Chain,kn_Move_Chain,kc_Slice_Chain,kt_Slice_Chain,ks_Slice_Chain,kn_Slice_Chain,kc_Pick_Chain,kt_Pick_Chain,ks_Pick_Chain,kn_Pick_Chain,kc_Turn_Chain,kt_Turn_Chain,ks_Turn_Chain,kn_Turn_Chain,kc_Fresh_Chain,kt_Fresh_Chain,ks_Fresh_Chain,kn_Fresh_Chain,kc_Spread_Chain,kt_Spread_Chain,ks_Spread_Chain,kn_Spread_Chain,kc_Cut_Chain,kt_Cut_Chain,ks_Cut_Chain,kn_Cut_Chain,kc_Window_Chain,kt_Window_Chain,ks_Window_Chain,kn_Window_Chain,kc_Diagonal_Chain,kt_Diagonal_Chain,ks_Diagonal_Chain,kn_Diagonal_Chain,kc_Chain_Chain,kt_Chain_Chain,ks_Chain_Chain,kc_Move_Move,kt_Move_Move,ks_Move_Move,kc_Slice_Move,kt_Slice_Move,ks_Slice_Move,kc_Pick_Move,kt_Pick_Move,ks_Pick_Move,kc_Turn_Move,kt_Turn_Move,ks_Turn_Move,kc_Fresh_Move,kt_Fresh_Move,ks_Fresh_Move,kc_Spread_Move,kt_Spread_Move,ks_Spread_Move,kc_Cut_Move,kt_Cut_Move,ks_Cut_Move,kc_Window_Move,kt_Window_Move,ks_Window_Move,kc_Diagonal_Move,kt_Diagonal_Move,ks_Diagonal_Move,kc_Chain_Move,kt_Chain_Move,ks_Chain_Move,o_NoMove,x_NoMove_PaceError,ga_NoMove,gn_NoMove,mb_NoMove,mo_NoMove,fc_NoMove,hd_NoMove,kc_NoMove_NoPlace,kt_NoMove_NoPlace,ks_NoMove_NoPlace,kn_NoMove_NoPlace,kc_NoMove_NoRow,kt_NoMove_NoRow,ks_NoMove_NoRow,kn_NoMove_NoRow,kc_NoMove_NoMove,kt_NoMove_NoMove,ks_NoMove_NoMove,⟨_,PySem.W.mg_of X G w0⟩,⟨_,PySem.W.mg_of X G w1⟩,PySem.W.mg_of X G yK0,⟨[("stay",tK0_0,.ref f23),("slice",tK0_1,.ref f24),("pick",tK0_2,.ref f25),("turn",tK0_3,.ref f26),("fresh",tK0_4,.ref f27),("spread",tK0_5,.ref f28),("cut",tK0_6,.ref f29),("window",tK0_7,.ref f30),("diagonal",tK0_8,.ref f31)],eK0 ▸ lK0,nK0,(show List.Nodup (["stay", "slice", "pick", "turn", "fresh", "spread", "cut", "window", "diagonal"]:List Str) by decide +kernel),(.cons ⟨rfl,rfl⟩ (.cons ⟨rfl,rfl⟩ (.cons ⟨rfl,rfl⟩ (.cons ⟨rfl,rfl⟩ (.cons ⟨rfl,rfl⟩ (.cons ⟨rfl,rfl⟩ (.cons ⟨rfl,rfl⟩ (.cons ⟨rfl,rfl⟩ (.cons ⟨rfl,rfl⟩ .nil)))))))))⟩,⟨pg_Move,hd_Move,po_Move,sa_Move⟩,⟨mm_Move,fi0_Move,ck_Move⟩,⟨fi_Move_told,fn_Move_told,F1.kp⟩,⟨pg_Slice,hd_Slice,po_Slice,sa_Slice⟩,nf_Slice_axis,nf_Slice_start,nf_Slice_step,nf_Slice_stop,⟨fi_Slice_told,fn_Slice_told,F3.kp⟩,⟨mm_Slice,fi_Slice___init__,fn_Slice___init__,ck_Slice⟩,⟨pg_Pick,hd_Pick,po_Pick,sa_Pick⟩,nf_Pick_at,nf_Pick_axis,⟨fi_Pick_told,fn_Pick_told,F5.kp⟩,⟨mm_Pick,fi_Pick___init__,fn_Pick___init__,ck_Pick⟩,⟨pg_Turn,hd_Turn,po_Turn,sa_Turn⟩,nf_Turn_order,⟨fi_Turn_told,fn_Turn_told,F7.kp⟩,⟨mm_Turn,fi_Turn___init__,fn_Turn___init__,ck_Turn⟩,⟨pg_Fresh,hd_Fresh,po_Fresh,sa_Fresh⟩,nf_Fresh_axis,⟨fi_Fresh_told,fn_Fresh_told,F9.kp⟩,⟨mm_Fresh,fi_Fresh___init__,fn_Fresh___init__,ck_Fresh⟩,⟨pg_Spread,hd_Spread,po_Spread,sa_Spread⟩,nf_Spread_axis,nf_Spread_size,⟨fi_Spread_told,fn_Spread_told,F11.kp⟩,⟨mm_Spread,fi_Spread___init__,fn_Spread___init__,ck_Spread⟩,⟨pg_Cut,hd_Cut,po_Cut,sa_Cut⟩,nf_Cut_axis,nf_Cut_inner,⟨fi_Cut_told,fn_Cut_told,F13.kp⟩,⟨mm_Cut,fi_Cut___init__,fn_Cut___init__,ck_Cut⟩,⟨pg_Window,hd_Window,po_Window,sa_Window⟩,nf_Window_axis,nf_Window_size,⟨fi_Window_told,fn_Window_told,F15.kp⟩,⟨mm_Window,fi_Window___init__,fn_Window___init__,ck_Window⟩,⟨pg_Diagonal,hd_Diagonal,po_Diagonal,sa_Diagonal⟩,nf_Diagonal_one,nf_Diagonal_other,⟨fi_Diagonal_told,fn_Diagonal_told,F17.kp⟩,⟨mm_Diagonal,fi_Diagonal___init__,fn_Diagonal___init__,ck_Diagonal⟩,⟨pg_Chain,hd_Chain,po_Chain,sa_Chain⟩,nf_Chain_moves,⟨fi_Chain_told,fn_Chain_told,F19.kp⟩,⟨mm_Chain,fi_Chain___init__,fn_Chain___init__,ck_Chain⟩,F0,PySem.W.mg_of X G a0,F0.binds (ps:=["thing"]) (fun _ _ _ _ _ _=>len1 (fun _=>rfl)),F1,F1.binds (ps:=["self"]) (fun _ _ _ _ _ _=>len1 (fun _=>rfl)),F2,(fun s us hin hl=>match us,(show us.length=5 by simp only [List.length_append,List.length_cons,List.length_nil] at hl;omega) with|[_,_,_,_,_],_=>BindsTo.of_defaults rfl (hin _ _ q2) rfl rfl rfl),(kb22 _ _ (by decide) (fun s a b c d hin=>BindsTo.of_defaults rfl (hin _ _ q2) rfl rfl rfl) (fun _ _ _ _ _ _ _ _ ra rb rc rd=>(.cons ra (.cons rb (.cons rfl (.cons rd (.cons rc .nil))))))),(fun s us hin hl=>match us,(show us.length=2 by simp only [List.length_append,List.length_cons,List.length_nil] at hl;omega) with|[_,_],_=>BindsTo.of_defaults rfl (hin _ _ q2) rfl rfl rfl),(fun s us hin hl=>match us,(show us.length=3 by simp only [List.length_append,List.length_cons,List.length_nil] at hl;omega) with|[_,_,_],_=>BindsTo.of_defaults rfl (hin _ _ q2) rfl rfl rfl),(fun s us hin hl=>match us,(show us.length=4 by simp only [List.length_append,List.length_cons,List.length_nil] at hl;omega) with|[_,_,_,_],_=>BindsTo.of_defaults rfl (hin _ _ q2) rfl rfl rfl),F3,F3.binds (ps:=["self"]) (fun _ _ _ _ _ _=>len1 (fun _=>rfl)),F4,F4.binds (ps:=["self", "axis", "at"]) (fun _ _ _ _ _ _=>len3 (fun _ _ _=>rfl)),F5,F5.binds (ps:=["self"]) (fun _ _ _ _ _ _=>len1 (fun _=>rfl)),F6,F6.binds (ps:=["self", "order"]) (fun _ _ _ _ _ _=>len2 (fun _ _=>rfl)),F7,F7.binds (ps:=["self"]) (fun _ _ _ _ _ _=>len1 (fun _=>rfl)),F8,F8.binds (ps:=["self", "axis"]) (fun _ _ _ _ _ _=>len2 (fun _ _=>rfl)),F9,F9.binds (ps:=["self"]) (fun _ _ _ _ _ _=>len1 (fun _=>rfl)),F10,F10.binds (ps:=["self", "axis", "size"]) (fun _ _ _ _ _ _=>len3 (fun _ _ _=>rfl)),F11,F11.binds (ps:=["self"]) (fun _ _ _ _ _ _=>len1 (fun _=>rfl)),F12,F12.binds (ps:=["self", "axis", "inner"]) (fun _ _ _ _ _ _=>len3 (fun _ _ _=>rfl)),F13,F13.binds (ps:=["self"]) (fun _ _ _ _ _ _=>len1 (fun _=>rfl)),F14,F14.binds (ps:=["self", "axis", "size"]) (fun _ _ _ _ _ _=>len3 (fun _ _ _=>rfl)),F15,F15.binds (ps:=["self"]) (fun _ _ _ _ _ _=>len1 (fun _=>rfl)),F16,F16.binds (ps:=["self", "one", "other"]) (fun _ _ _ _ _ _=>len3 (fun _ _ _=>rfl)),F17,F17.binds (ps:=["self"]) (fun _ _ _ _ _ _=>len1 (fun _=>rfl)),F18,F18.binds (ps:=["self", "moves"]) (fun _ _ _ _ _ _=>len2 (fun _ _=>rfl)),F19,F19.binds (ps:=["self"]) (fun _ _ _ _ _ _=>len1 (fun _=>rfl)),F20,PySem.W.mg_of X G a20,F20.binds (ps:=["good"]) (fun _ _ _ _ _ _=>len1 (fun _=>rfl)),F21,PySem.W.mg_of X G a21,F21.binds (ps:=["told", "many"]) (fun _ _ _ _ _ _=>len2 (fun _ _=>rfl)),F22,PySem.W.mg_of X G a22,F22.binds (ps:=["told"]) (fun _ _ _ _ _ _=>len1 (fun _=>rfl)),F23,PySem.W.mg_of X G a23,F23.binds (ps:=["told"]) (fun _ _ _ _ _ _=>len1 (fun _=>rfl)),F24,PySem.W.mg_of X G a24,F24.binds (ps:=["told"]) (fun _ _ _ _ _ _=>len1 (fun _=>rfl)),F25,PySem.W.mg_of X G a25,F25.binds (ps:=["told"]) (fun _ _ _ _ _ _=>len1 (fun _=>rfl)),F26,PySem.W.mg_of X G a26,F26.binds (ps:=["told"]) (fun _ _ _ _ _ _=>len1 (fun _=>rfl)),F27,PySem.W.mg_of X G a27,F27.binds (ps:=["told"]) (fun _ _ _ _ _ _=>len1 (fun _=>rfl)),F28,PySem.W.mg_of X G a28,F28.binds (ps:=["told"]) (fun _ _ _ _ _ _=>len1 (fun _=>rfl)),F29,PySem.W.mg_of X G a29,F29.binds (ps:=["told"]) (fun _ _ _ _ _ _=>len1 (fun _=>rfl)),F30,PySem.W.mg_of X G a30,F30.binds (ps:=["told"]) (fun _ _ _ _ _ _=>len1 (fun _=>rfl)),F31,PySem.W.mg_of X G a31,F31.binds (ps:=["told"]) (fun _ _ _ _ _ _=>len1 (fun _=>rfl)),F32,PySem.W.mg_of X G a32,F32.binds (ps:=["move"]) (fun _ _ _ _ _ _=>len1 (fun _=>rfl)),F33,PySem.W.mg_of X G a33,F33.binds (ps:=["told", "deep"]) (fun _ _ _ _ _ _=>len2 (fun _ _=>rfl)),F34,PySem.W.mg_of X G a34,F34.binds (ps:=["told", "deep"]) (fun _ _ _ _ _ _=>len2 (fun _ _=>rfl)),F35,PySem.W.mg_of X G a35,F35.binds (ps:=["told"]) (fun _ _ _ _ _ _=>len1 (fun _=>rfl)),F36,PySem.W.mg_of X G a36,F36.binds (ps:=["_law_script", "_law_k", "_law_many"]) (fun _ _ _ _ _ _=>len3 (fun _ _ _=>rfl)),F37,PySem.W.mg_of X G a37,F37.binds (ps:=["_law_script", "_law_k"]) (fun _ _ _ _ _ _=>len2 (fun _ _=>rfl)),F38,PySem.W.mg_of X G a38,F38.binds (ps:=["_law_script", "_law_k"]) (fun _ _ _ _ _ _=>len2 (fun _ _=>rfl)),F39,PySem.W.mg_of X G a39,F39.binds (ps:=["_law_script", "_law_at"]) (fun _ _ _ _ _ _=>len2 (fun _ _=>rfl)),F40,PySem.W.mg_of X G a40,F40.binds (ps:=["_law_told"]) (fun _ _ _ _ _ _=>len1 (fun _=>rfl)),F41,PySem.W.mg_of X G a41,F41.binds (ps:=["_law_script", "_law_rows"]) (fun _ _ _ _ _ _=>len2 (fun _ _=>rfl)),F42,PySem.W.mg_of X G a42,F42.binds (ps:=["_law_thing"]) (fun _ _ _ _ _ _=>len1 (fun _=>rfl)),F43,PySem.W.mg_of X G a43,F43.binds (ps:=["_law_told"]) (fun _ _ _ _ _ _=>len1 (fun _=>rfl)),F44,PySem.W.mg_of X G a44,F44.binds (ps:=["_law_told", "_law_cell"]) (fun _ _ _ _ _ _=>len2 (fun _ _=>rfl)),F45,PySem.W.mg_of X G a45,F45.binds (ps:=["_law_told", "_law_cell"]) (fun _ _ _ _ _ _=>len2 (fun _ _=>rfl)),F46,PySem.W.mg_of X G a46,F46.binds (ps:=["_law_thing"]) (fun _ _ _ _ _ _=>len1 (fun _=>rfl)),F47,PySem.W.mg_of X G a47,F47.binds (ps:=["_law_script"]) (fun _ _ _ _ _ _=>len1 (fun _=>rfl)),PySem.W.mg_none_of X G z0,PySem.W.mg_none_of X G z1,PySem.W.mg_none_of X G z2,PySem.W.mg_none_of X G z3,PySem.W.mg_none_of X G z4,PySem.W.mg_none_of X G z5,PySem.W.mg_none_of X G z6,PySem.W.mg_none_of X G z7,PySem.W.mg_none_of X G z8,PySem.W.mg_none_of X G z9,PySem.W.mg_none_of X G z10,PySem.W.mg_none_of X G z11⟩
 exact⟨PySem.W.fnOf "law" "law" (defArgs s_law) (defBody s_law) (defScope s_law) .none kV47 dc47 pm47 an47 cd47 ct47,fun s v=>.of_eq rfl,fun base _ _=>ok_law T⟩
theorem walk{l:PySem.W.OpenLaw}{q:Program}{loose:List Str}{XP:(Str->Option Value)->Heap->Prop}{YP:World->Heap->Prop}{d:DefRec}{K:Params->PySem.W.Frag}(hn:l.most=some 63)(hdf:d.params.defaults=[])
  (hY:∀ (w:World) (h:Heap),YP w h->(K w.params).In h)
  (F:∀ (w:World) (mg:Str->Option Value) (fa:Addr) (h:Heap),(K w.params).In h->h.Ns mainGlobals mg->mg d.name=some (.ref fa) →
   ∃ fd:FuncData,(∀ (s:Shared) (u:Value),BindsTo s fd ⟨[u],[]⟩ [("_law_script",u)])∧∀ base:Heap,(K w.params).In base->base.Ns mainGlobals mg->FnOk l.prog w (K w.params) mg base CX0 33 fa fd ["_law_script"] (spLaw (K w.params))) :
  PySem.W.WalkO q loose XP YP l.row.toRowW d [] (fun f vs=>PySem.call f vs):=
 L2.walk_of (n:=63) (k:=33) (x := "_law_script") (CX:=fun _=>CX0) (sp:=fun w=>spLaw (K w.params)) hn (by decide) hdf ⟨rfl,by decide,by decide,rfl⟩ hY F (fun _ _ a ns hl _ hS=>⟨a,rfl,ns,hS,hl,fun _=>rfl⟩) fun _ _ _ _ _ z=>z
end PH
namespace PySem.W.Fast
def tw48064693350842293:=0
def tw5796377872322119680:=0
def tw1337957338840333286:=0
def tw15204196434714512423:=0
def tw13434824067035348239:=0
def tw11372350739028975416:=0
def tw16777893156885813081:=0
def tw4259669694765080752:=0
def tw14785797322606919034:=0
def tw15045581286014152154:=0
def tw10714852765173817802:=0
def tw7083314106707034624:=0
def tw12662794531349563784:=0
def tw17787503674685473902:=0
def tw13830044443864163869:=0
def tw17752094018588882878:=0
def tw13816160055779335724:=0
def tw16436013349239249697:=0
def tw9689926050604403105:=0
def tw9571502255008726903:=0
def tw15045250325430824161:=0
def tw673125127892487934:=0
def tw17115034671291905368:=0
def tw17236858038685127835:=0
def tw4975421571549905749:=0
def tw15323169322150532742:=0
def tw15807024104818695042:=0
def tw11543000486410211979:=0
def tw4062969215305691618:=0
def tw6574599024330455634:=0
def tw5439618071458960240:=0
def tw14683160411685994499:=0
def tw12127703348770019921:=0
def tw1073295047004548989:=0
def tw10088732195522028706:=0
def tw4745515386857437741:=0
def tw3862834194798091595:=0
def tw5540228408607915989:=0
def tw8545223484010090886:=0
def tw7574968247910278559:=0
def tw13212507069809826806:=0
def tw8602109054973576857:=0
def tw15484451375195236025:=0
def tw4886962800860013641:=0
def tw2273676262484527178:=0
def tw10656975930242717081:=0
def tw1446392228957822158:=0
def tw17869197367087984464:=0
def tw11530528827365638006:=0
def tw7696210307274967664:=0
def tw10128494433595358729:=0
def tw4215835808411749952:=0
def tw8667885832760481422:=0
def tw18190993490783903373:=0
def tw12058343102204658991:=0
def tw4796140928405475295:=0
def tw11571321601513798304:=0
def tw10601462702928845856:=0
def tw14397571507184356755:=0
def tw9741612899889404942:=0
def tw3958093599875896852:=0
def tw7617777458370110180:=0
def tw15664892989419295955:=0
def tw525423379731109153:=0
def tw7751841427721892518:=0
def tw3760086784260635299:=0
def tw1930848304858367669:=0
def tw13934814990323377301:=0
def tw4511121405743233924:=0
def tw4568214476972808611:=0
def tw1130659174704913582:=0
def tw10562788809134973309:=0
def tw2753225968592929:=0
def tw13313737849799480023:=0
def tw8022808647472610186:=0
def tw4668983028735499641:=0
def tw495013629911762306:=0
def tw11472127745556934117:=0
def tw10295625632839095587:=0
def tw15337155093523810355:=0
def tw7953149029703733882:=0
def tw17085302724422624466:=0
def tw4137253886386337276:=0
def tw2168221401767764883:=0
def tw2822116355758811316:=0
def tw12404958519398183026:=0
def tw7982109366702261931:=0
def tw14891453923404930476:=0
def tw18007203225648725251:=0
def tw18198646378522823292:=0
def tw7701091987435228258:=0
def tw7347071459435920093:=0
def tw9057176352396635150:=0
def tw14334646932626639684:=0
def tw17261059954397999437:=0
def tw17434134287715476645:=0
end PySem.W.Fast
open PySem PySem.W PyProof.Rows
set_option maxRecDepth 100000 in
set_option maxHeartbeats 0 in
theorem PySem.Challenge.cw_pacehall_k36_moves_told_holds : PySem.Challenge.rw_pacehall_k36_moves_told.Holds := by
 w_on;o_law;k_head;(case hw=>w_witness2)
 k_fill
 refine PH.walk (l:=PySem.Challenge.rw_pacehall_k36_moves_told) rfl rfl (fun w h Y=>PySem.W.kIn_of Y) ?F
 case F=>
  intro w mg fa h KX G hmg
  refine' PH.all_mk KX G hmg ?y0 ?y1 ?y2 ?y3 ?y4 ?y5 ?y6 ?y7 ?y8 ?y9 ?y10 ?y11 ?y12 ?y13 ?ocs ?oct ?fc_Move ?mo_Move ?fc_Slice ?mo_Slice ?fc_Pick ?mo_Pick ?fc_Turn ?mo_Turn ?fc_Fresh ?mo_Fresh ?fc_Spread ?mo_Spread ?fc_Cut ?mo_Cut ?fc_Window ?mo_Window ?fc_Diagonal ?mo_Diagonal ?fc_Chain ?mo_Chain ?kc_Move_Chain ?kt_Move_Chain ?ks_Move_Chain ?kn_Move_Chain ?kc_Slice_Chain ?kt_Slice_Chain ?ks_Slice_Chain ?kn_Slice_Chain ?kc_Pick_Chain ?kt_Pick_Chain ?ks_Pick_Chain ?kn_Pick_Chain ?kc_Turn_Chain ?kt_Turn_Chain ?ks_Turn_Chain ?kn_Turn_Chain ?kc_Fresh_Chain ?kt_Fresh_Chain ?ks_Fresh_Chain ?kn_Fresh_Chain ?kc_Spread_Chain ?kt_Spread_Chain ?ks_Spread_Chain ?kn_Spread_Chain ?kc_Cut_Chain ?kt_Cut_Chain ?ks_Cut_Chain ?kn_Cut_Chain ?kc_Window_Chain ?kt_Window_Chain ?ks_Window_Chain ?kn_Window_Chain ?kc_Diagonal_Chain ?kt_Diagonal_Chain ?ks_Diagonal_Chain ?kn_Diagonal_Chain ?kc_Chain_Chain ?kt_Chain_Chain ?ks_Chain_Chain ?kc_Move_Move ?kt_Move_Move ?ks_Move_Move ?kc_Slice_Move ?kt_Slice_Move ?ks_Slice_Move ?kc_Pick_Move ?kt_Pick_Move ?ks_Pick_Move ?kc_Turn_Move ?kt_Turn_Move ?ks_Turn_Move ?kc_Fresh_Move ?kt_Fresh_Move ?ks_Fresh_Move ?kc_Spread_Move ?kt_Spread_Move ?ks_Spread_Move ?kc_Cut_Move ?kt_Cut_Move ?ks_Cut_Move ?kc_Window_Move ?kt_Window_Move ?ks_Window_Move ?kc_Diagonal_Move ?kt_Diagonal_Move ?ks_Diagonal_Move ?kc_Chain_Move ?kt_Chain_Move ?ks_Chain_Move ?o_NoMove ?x_NoMove_PaceError ?ga_NoMove ?gn_NoMove ?mb_NoMove ?mo_NoMove ?fc_NoMove ?hd_NoMove ?kc_NoMove_NoPlace ?kt_NoMove_NoPlace ?ks_NoMove_NoPlace ?kn_NoMove_NoPlace ?kc_NoMove_NoRow ?kt_NoMove_NoRow ?ks_NoMove_NoRow ?kn_NoMove_NoRow ?kc_NoMove_NoMove ?kt_NoMove_NoMove ?ks_NoMove_NoMove ?a0 ?F0 ?F1 ?l2 ?q2 ?c2 ?k2 ?F3 ?F4 ?F5 ?F6 ?F7 ?F8 ?F9 ?F10 ?F11 ?F12 ?F13 ?F14 ?F15 ?F16 ?F17 ?F18 ?F19 ?a20 ?F20 ?a21 ?F21 ?a22 ?F22 ?a23 ?F23 ?a24 ?F24 ?a25 ?F25 ?a26 ?F26 ?a27 ?F27 ?a28 ?F28 ?a29 ?F29 ?a30 ?F30 ?a31 ?F31 ?a32 ?F32 ?a33 ?F33 ?a34 ?F34 ?a35 ?F35 ?a36 ?F36 ?a37 ?F37 ?a38 ?F38 ?a39 ?F39 ?a40 ?F40 ?a41 ?F41 ?a42 ?F42 ?a43 ?F43 ?a44 ?F44 ?a45 ?F45 ?a46 ?F46 ?a47 ?l47 ?c47 ?k47 ?pg_Move ?hd_Move ?po_Move ?sa_Move ?mm_Move ?ck_Move ?fi0_Move ?fi_Move_told ?fn_Move_told ?pg_Slice ?hd_Slice ?po_Slice ?sa_Slice ?nf_Slice_axis ?nf_Slice_start ?nf_Slice_step ?nf_Slice_stop ?fi_Slice_told ?fn_Slice_told ?fi_Slice___init__ ?fn_Slice___init__ ?mm_Slice ?ck_Slice ?pg_Pick ?hd_Pick ?po_Pick ?sa_Pick ?nf_Pick_at ?nf_Pick_axis ?fi_Pick_told ?fn_Pick_told ?fi_Pick___init__ ?fn_Pick___init__ ?mm_Pick ?ck_Pick ?pg_Turn ?hd_Turn ?po_Turn ?sa_Turn ?nf_Turn_order ?fi_Turn_told ?fn_Turn_told ?fi_Turn___init__ ?fn_Turn___init__ ?mm_Turn ?ck_Turn ?pg_Fresh ?hd_Fresh ?po_Fresh ?sa_Fresh ?nf_Fresh_axis ?fi_Fresh_told ?fn_Fresh_told ?fi_Fresh___init__ ?fn_Fresh___init__ ?mm_Fresh ?ck_Fresh ?pg_Spread ?hd_Spread ?po_Spread ?sa_Spread ?nf_Spread_axis ?nf_Spread_size ?fi_Spread_told ?fn_Spread_told ?fi_Spread___init__ ?fn_Spread___init__ ?mm_Spread ?ck_Spread ?pg_Cut ?hd_Cut ?po_Cut ?sa_Cut ?nf_Cut_axis ?nf_Cut_inner ?fi_Cut_told ?fn_Cut_told ?fi_Cut___init__ ?fn_Cut___init__ ?mm_Cut ?ck_Cut ?pg_Window ?hd_Window ?po_Window ?sa_Window ?nf_Window_axis ?nf_Window_size ?fi_Window_told ?fn_Window_told ?fi_Window___init__ ?fn_Window___init__ ?mm_Window ?ck_Window ?pg_Diagonal ?hd_Diagonal ?po_Diagonal ?sa_Diagonal ?nf_Diagonal_one ?nf_Diagonal_other ?fi_Diagonal_told ?fn_Diagonal_told ?fi_Diagonal___init__ ?fn_Diagonal___init__ ?mm_Diagonal ?ck_Diagonal ?pg_Chain ?hd_Chain ?po_Chain ?sa_Chain ?nf_Chain_moves ?fi_Chain_told ?fn_Chain_told ?fi_Chain___init__ ?fn_Chain___init__ ?mm_Chain ?ck_Chain ?w0 ?w1 ?yK0 ?lK0 ?nK0 ?eK0 ?z0 ?z1 ?z2 ?z3 ?z4 ?z5 ?z6 ?z7 ?z8 ?z9 ?z10 ?z11
  (case y0|y1|y2|y3|y4|y5|y6|y7|y8|y9|y10|y11=>first|k_is|k_exc|kts_exm|decide|rfl|decide +kernel|kernel_rfl)
  (case y12|y13|fi_Move_told|fi_Slice_told|fi_Slice___init__|fi_Pick_told|fi_Pick___init__|fi_Turn_told|fi_Turn___init__|fi_Fresh_told|fi_Fresh___init__|fi_Spread_told=>first|k_is|k_exc|kts_exm|decide|rfl|decide +kernel|kernel_rfl)
  (case fi_Spread___init__|fi_Cut_told|fi_Cut___init__|fi_Window_told|fi_Window___init__|fi_Diagonal_told|fi_Diagonal___init__|fi_Chain_told|fi_Chain___init__|a0|a20|a21=>first|k_is|k_exc|kts_exm|decide|rfl|decide +kernel|kernel_rfl)
  (case a22|a23|a24|a25|a26|a27|a28|a29|a30|a31|a32|a33=>first|k_is|k_exc|kts_exm|decide|rfl|decide +kernel|kernel_rfl)
  (case a34|a35|a36|a37|a38|a39|a40|a41|a42|a43|a44|a45=>first|k_is|k_exc|kts_exm|decide|rfl|decide +kernel|kernel_rfl)
  (case a46|a47=>first|k_is|k_exc|kts_exm|decide|rfl|decide +kernel|kernel_rfl)
  (case F0|F1|F3|F4|F5|F6|F7|F8|F9|F10|F11|F12=>(refine' L2.fun_mk ?l ?c ?k;(case l|c|k=>first|k_is|k_exc|kts_exm|decide|rfl|decide +kernel|kernel_rfl)))
  (case F13|F14|F15|F16|F17|F18|F19|F20|F21|F22|F23|F24=>(refine' L2.fun_mk ?l ?c ?k;(case l|c|k=>first|k_is|k_exc|kts_exm|decide|rfl|decide +kernel|kernel_rfl)))
  (case F25|F26|F27|F28|F29|F30|F31|F32|F33|F34|F35|F36=>(refine' L2.fun_mk ?l ?c ?k;(case l|c|k=>first|k_is|k_exc|kts_exm|decide|rfl|decide +kernel|kernel_rfl)))
  (case F37|F38|F39|F40|F41|F42|F43|F44|F45|F46=>(refine' L2.fun_mk ?l ?c ?k;(case l|c|k=>first|k_is|k_exc|kts_exm|decide|rfl|decide +kernel|kernel_rfl)))
  (case ocs|oct|fc_Move|mo_Move|fc_Slice|mo_Slice|fc_Pick|mo_Pick|fc_Turn|mo_Turn|fc_Fresh|mo_Fresh=>first|k_is|k_exc|kts_exm|decide|rfl|decide +kernel|kernel_rfl)
  (case fc_Spread|mo_Spread|fc_Cut|mo_Cut|fc_Window|mo_Window|fc_Diagonal|mo_Diagonal|fc_Chain|mo_Chain|kc_Move_Chain|kt_Move_Chain=>first|k_is|k_exc|kts_exm|decide|rfl|decide +kernel|kernel_rfl)
  (case ks_Move_Chain|kn_Move_Chain|kc_Slice_Chain|kt_Slice_Chain|ks_Slice_Chain|kn_Slice_Chain|kc_Pick_Chain|kt_Pick_Chain|ks_Pick_Chain|kn_Pick_Chain|kc_Turn_Chain|kt_Turn_Chain=>first|k_is|k_exc|kts_exm|decide|rfl|decide +kernel|kernel_rfl)
  (case ks_Turn_Chain|kn_Turn_Chain|kc_Fresh_Chain|kt_Fresh_Chain|ks_Fresh_Chain|kn_Fresh_Chain|kc_Spread_Chain|kt_Spread_Chain|ks_Spread_Chain|kn_Spread_Chain|kc_Cut_Chain|kt_Cut_Chain=>first|k_is|k_exc|kts_exm|decide|rfl|decide +kernel|kernel_rfl)
  (case ks_Cut_Chain|kn_Cut_Chain|kc_Window_Chain|kt_Window_Chain|ks_Window_Chain|kn_Window_Chain|kc_Diagonal_Chain|kt_Diagonal_Chain|ks_Diagonal_Chain|kn_Diagonal_Chain|kc_Chain_Chain|kt_Chain_Chain=>first|k_is|k_exc|kts_exm|decide|rfl|decide +kernel|kernel_rfl)
  (case ks_Chain_Chain|kc_Move_Move|kt_Move_Move|ks_Move_Move|kc_Slice_Move|kt_Slice_Move|ks_Slice_Move|kc_Pick_Move|kt_Pick_Move|ks_Pick_Move|kc_Turn_Move|kt_Turn_Move=>first|k_is|k_exc|kts_exm|decide|rfl|decide +kernel|kernel_rfl)
  (case ks_Turn_Move|kc_Fresh_Move|kt_Fresh_Move|ks_Fresh_Move|kc_Spread_Move|kt_Spread_Move|ks_Spread_Move|kc_Cut_Move|kt_Cut_Move|ks_Cut_Move|kc_Window_Move|kt_Window_Move=>first|k_is|k_exc|kts_exm|decide|rfl|decide +kernel|kernel_rfl)
  (case ks_Window_Move|kc_Diagonal_Move|kt_Diagonal_Move|ks_Diagonal_Move|kc_Chain_Move|kt_Chain_Move|ks_Chain_Move|o_NoMove|x_NoMove_PaceError|ga_NoMove|gn_NoMove|mb_NoMove=>first|k_is|k_exc|kts_exm|decide|rfl|decide +kernel|kernel_rfl)
  (case mo_NoMove|fc_NoMove|hd_NoMove|kc_NoMove_NoPlace|kt_NoMove_NoPlace|ks_NoMove_NoPlace|kn_NoMove_NoPlace|kc_NoMove_NoRow|kt_NoMove_NoRow|ks_NoMove_NoRow|kn_NoMove_NoRow|kc_NoMove_NoMove=>first|k_is|k_exc|kts_exm|decide|rfl|decide +kernel|kernel_rfl)
  (case kt_NoMove_NoMove|ks_NoMove_NoMove|l2|q2|c2|k2|l47|c47|k47|pg_Move|hd_Move|po_Move=>first|k_is|k_exc|kts_exm|decide|rfl|decide +kernel|kernel_rfl)
  (case sa_Move|mm_Move|ck_Move|fi0_Move|fn_Move_told|pg_Slice|hd_Slice|po_Slice|sa_Slice|nf_Slice_axis|nf_Slice_start|nf_Slice_step=>first|k_is|k_exc|kts_exm|decide|rfl|decide +kernel|kernel_rfl)
  (case nf_Slice_stop|fn_Slice_told|fn_Slice___init__|mm_Slice|ck_Slice|pg_Pick|hd_Pick|po_Pick|sa_Pick|nf_Pick_at|nf_Pick_axis|fn_Pick_told=>first|k_is|k_exc|kts_exm|decide|rfl|decide +kernel|kernel_rfl)
  (case fn_Pick___init__|mm_Pick|ck_Pick|pg_Turn|hd_Turn|po_Turn|sa_Turn|nf_Turn_order|fn_Turn_told|fn_Turn___init__|mm_Turn|ck_Turn=>first|k_is|k_exc|kts_exm|decide|rfl|decide +kernel|kernel_rfl)
  (case pg_Fresh|hd_Fresh|po_Fresh|sa_Fresh|nf_Fresh_axis|fn_Fresh_told|fn_Fresh___init__|mm_Fresh|ck_Fresh|pg_Spread|hd_Spread|po_Spread=>first|k_is|k_exc|kts_exm|decide|rfl|decide +kernel|kernel_rfl)
  (case sa_Spread|nf_Spread_axis|nf_Spread_size|fn_Spread_told|fn_Spread___init__|mm_Spread|ck_Spread|pg_Cut|hd_Cut|po_Cut|sa_Cut|nf_Cut_axis=>first|k_is|k_exc|kts_exm|decide|rfl|decide +kernel|kernel_rfl)
  (case nf_Cut_inner|fn_Cut_told|fn_Cut___init__|mm_Cut|ck_Cut|pg_Window|hd_Window|po_Window|sa_Window|nf_Window_axis|nf_Window_size|fn_Window_told=>first|k_is|k_exc|kts_exm|decide|rfl|decide +kernel|kernel_rfl)
  (case fn_Window___init__|mm_Window|ck_Window|pg_Diagonal|hd_Diagonal|po_Diagonal|sa_Diagonal|nf_Diagonal_one|nf_Diagonal_other|fn_Diagonal_told|fn_Diagonal___init__|mm_Diagonal=>first|k_is|k_exc|kts_exm|decide|rfl|decide +kernel|kernel_rfl)
  (case ck_Diagonal|pg_Chain|hd_Chain|po_Chain|sa_Chain|nf_Chain_moves|fn_Chain_told|fn_Chain___init__|mm_Chain|ck_Chain|w0|w1=>first|k_is|k_exc|kts_exm|decide|rfl|decide +kernel|kernel_rfl)
  (case yK0|lK0|nK0|eK0|z0|z1|z2|z3|z4|z5|z6|z7=>first|k_is|k_exc|kts_exm|decide|rfl|decide +kernel|kernel_rfl)
  (case z8|z9|z10|z11=>first|k_is|k_exc|kts_exm|decide|rfl|decide +kernel|kernel_rfl)
#print axioms PySem.Challenge.cw_pacehall_k36_moves_told_holds